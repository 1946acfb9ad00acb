/- The sum's Add, walked. -/
import Derived.Test.YtjkalahhpobefaaGreatZN
set_option maxHeartbeats 2000000
set_option maxRecDepth 100000
namespace Go.Proofs.YtjkalahhpobefaaGreat
set_option linter.all false
open Go.Proofs.Tryz Go.RowKit
def jj(w:PJ)(sb:Nat):Nat:=tH (w.cell? (PN sb 1))
theorem pA(B sb ob:Nat)(p k0 k1 k2:Int)(G:Ft->Prop)(sv rv vv:PK)(us:PH)(rows:PC)(fs:PB)(w:PJ)(hs:aT B w sb ob rv us rows)(hB:B<=w.heap.size)(hob:aQ w ob p k0 k1 k2 sv)(hosb:ob≠sb)(hp:2<=p/\p<=101)(hn:rows.length<=65)(hf:Fv w vv fs)(hr:aG p G rows)(hrf:aG p G [fs])(hG:∀x t,eC x t->G t->G x)(hM:∀r,Dn r->(∀t∈r,G t)->r.length<=1100000000000):Calls prog 116 #[PL sb,vv] w λe w'=>e=.returned (.tuple #[])/\∃rv' us' rows',aT B w' sb ob rv' us' rows'/\aG p G rows'/\rows'.length<=65/\(∀k,p∣ao k rows'.flatten-(ao k rows.flatten+ao k fs))/\aj (fM sb rv) w w'/\(∀k,rv'.ownBlock=some k->k<w.heap.size->rv.ownBlock=some k):=by
 have HOB:=ae hob;have HG:=ae hG;have HM:=ae hM;have HSBL:=ae hs.lt;have HAO:=ae (hs.ob_apart hob);have H0:Po (gF p G B w w sb ob rv rv rows fs rows vv fs):=⟨⟨us,hs⟩,aj.refl _ _,λ_ h _=>h,hf,hr,hrf,λk=>⟨0,by omega⟩⟩;obtain⟨va,vc,rfl,_,_⟩:=hf;have hfl:=HM.o fs (hrf.dn fs (by simp)) (hrf.gd fs (by simp));have w64:IntKind.u64.wrap (fs.length:Int)=fs.length:=by rw[IntKind.wrap_u64];omega
 have HBL:=ae (Tryz.bits_Len (fs.length:Int) w (by omega) (by omega));have hb64:=Eh ((fs.length:Int)).toNat;obtain⟨a0,ha0⟩:∃a0,Lib.bitLen ((fs.length:Int)).toNat=a0:=⟨_,rfl⟩;rw[ha0] at HBL hb64;clear hs hob hG hM hr hrf ha0;go_enter func116,ntmps116;go_wp2_with (go_at_call 150;refine HBL.o.mono ?_;rintro e w9 ⟨rfl,h9⟩;have h9b:=h9.symm;clear h9;subst h9b);go_loopw [1,4] (λv i wr=>∃(v1:PK)(a:Nat) (rows1:PC) (f1:PB),v1=v/\a<=64/\i=PO a/\rows1.length=rows.length/\gF p G B w wr sb ob rv rv rows fs rows1 v1 f1) (λ_ _ wr=>oP wr rv);case atStart=>exact⟨_,a0,rows,fs,rfl,hb64,rfl,rfl,H0.o⟩
 case round=>
  clear H0 HBL;obtain⟨v1,a,rows1,f1,hv1,ha,rfl,hl1,hw⟩:=hrel;subst hv1;obtain⟨fa1,fc1,hfv1,_,_⟩:=hw.fv;subst hfv1;have HW:=ae hw;obtain⟨us1,hs1⟩:=hw.sum;have HS1:=ae hs1;obtain⟨x0,x1,x2⟩:=hs1.cells;obtain⟨ra,rc,hrv⟩:=cl hs1.rws.own;subst hrv;have HTOT:=ae hs1.rws.total;clear hw hs1;by_cases hal:a<rows1.length
  .obtain⟨g,c,e,_,hlt,z1,z2⟩:=HS1.o.rws.at a hal;simp only[OQ] at e;obtain⟨rfl,_,rfl⟩:=e;have hfv:=HS1.o.rws.fvs a hal;generalize hu:us1.getD a aL=u at hfv z1;cases hrow:rows1.getD a [] with
   |nil=>
    rw[hrow] at hfv;obtain⟨ua,ucap,rfl,_,_⟩:=hfv;have HROW:=ae hrow;clear hrow hu;go_wp2_with fail;go_loopw [] (λwr2=>∃(rv2:PK) (rows2:PC),rows2.length<=65/\(a<rows2.length->rows2.getD a []=[])/\gF p G B w wr2 sb ob (PM g rows1.length rc) rv2 rows fs rows2 (.slice fa1 f1.length fc1) f1) (λwr2=>66-jj wr2 sb);case atStart=>exact⟨_,rows1,by omega,λ_=>HROW.o,HW.o⟩
    case round=>
     clear HW HS1 HTOT;obtain⟨rv2,rows2,hl2,hem,hw2⟩:=hrel;have HW2:=ae hw2;obtain⟨us2,hs2⟩:=hw2.sum;have HS2:=ae hs2;obtain⟨y0,y1,y2⟩:=hs2.cells;obtain⟨ra2,rc2,hrv2⟩:=cl hs2.rws.own;subst hrv2;have hlen1:jj wr sb=rows2.length:=by unfold jj;rw[y1];rfl
     clear hw2 hs2;by_cases h2:rows2.length<=a
     .have HWA:=ae (HW2.o.next (ai (A:=.cells #[.slice none 0 0] 79)));have HSA:=ae (HS2.o.next (ai (A:=.cells #[.slice none 0 0] 79)));have hBa:B<=(wr.alloc (.cells #[.slice none 0 0] 79)).heap.size:=by have:=HWA.o.frm.size;omega
      have STEP:Po (∀v' w',w'.ownsRow B 79 1 v' (rows2.length+1) (us2++[.slice none 0 0])->(wr.alloc (.cells #[.slice none 0 0] 79)).grownBy w' (Value.slice ra2 rows2.length rc2).ownBlock->(∀g,v'.ownBlock=some g->cG w' g)->(v'.ownBlock=(Value.slice ra2 rows2.length rc2).ownBlock\/v'.ownBlock=some (wr.alloc (.cells #[.slice none 0 0] 79)).heap.size)->(∃x,w'.cell? (PN sb 1)=some x)/\w'.frozen? (PN sb 1)=false/\gF p G B w (w'.setCell (PN sb 1) v') sb ob (PM g rows1.length rc) v' rows fs (rows2++[[]]) (.slice fa1 f1.length fc1) f1/\(w'.setCell (PN sb 1) v').cell? (PN sb 1)=some v'/\tH (some v')=rows2.length+1):=λv' w' q2 q3 q4 q5=>by have hb2:=World.ownsRow.kept HSA.o.box q3 (Pg (by simpa [Value.ownBlock] using λe=>HSA.o.apart e.symm));have hc2:=Oq hb2 1 (by omega);obtain⟨a3,c3,e3⟩:=cl q2;exact⟨⟨_,hc2⟩,Oo hb2 1,HWA.o.grow HSA.o q2 q3 q4 q5,World.cell?_setCell_same _ _ _ hc2,by rw[e3];rfl⟩
      go_wp2_with (at_builtin;refine Ej rfl (.tmp 63) (.tmp 64) 76 rfl underlying76 B _ us2 rows2 rfl HSA.o.rws (PN wr.heap.size 0) 1 rfl (Cr _ _ _) (by omega) hBa ?_;intro v' w' q2 q3 q4 q5;obtain⟨a3,c3,e3⟩:=cl q2;subst e3;have S5:=ae (STEP.o _ w' q2 q3 q4 q5);clear q2 q3 q4 q5;obtain⟨x5,d5⟩:=S5.o.1;have d6:=S5.o.2.1);go_roundw;case rel=>
       refine⟨_,rows2++[[]],by rw[OM];simp;omega,λh=>?_,S5.o.2.2.1⟩;rw[OM] at h;simp only[OZ,List.length_nil] at h;have e:a=rows2.length:=by omega
       subst e;simp[OH]
      case measure=>have h7:=S5.o.2.2.2;show 66-jj _ sb<66-jj wr sb;unfold jj at hlen1⊢;rw[h7.1,h7.2,hlen1];omega
     .have ha2:a<rows2.length:=by omega
      have HEM:=ae (hem ha2);obtain⟨g2,c2,e2,_,hlt2,m1,m2⟩:=HS2.o.rws.at a ha2;simp only[OQ] at e2;obtain⟨rfl,_,rfl⟩:=e2;have HPUT:=ae (HS2.o.put a ha2 (.slice fa1 f1.length fc1) f1 HW2.o.fv);go_wp2;go_end0;refine⟨rfl,_,_,rows2.set a f1,HPUT.o.1,HW2.o.ok.set HW2.o.okf a,by rw[List.length_set];exact hl2,λk=>?_,HW2.o.frm.trans (aj.of_grown (S:=λk=>k=g2) HPUT.o.2 λx e=>by simpa using e.symm) λx hx e=>?_,HW2.o.loc⟩
      .rw[tI k f1 rows2 a ha2,HEM.o];have:=HW2.o.cn k;simpa [ao] using this
      .subst e;exact Pg (HW2.o.loc _ rfl hx)
   |cons t ts=>
    have HROW:=ae hrow;have HFU:=ae hfv;rw[hrow] at hfv;obtain⟨ub,uof,ucap,rfl,_⟩:=hfv.head;have HOW:=ae (HOB.o.frm HW.o.frm (λe=>by rcases e with e|e;exact hosb e;exact HAO.o e));have hf1l:=HM.o f1 (HW.o.okf.dn f1 (by simp)) (HW.o.okf.gd f1 (by simp));have HR2:=ae (HW.o.ok.getD a);have hr1l:=HM.o (rows1.getD a []) (HR2.o.dn _ (OL.2 rfl)) (HR2.o.gd _ (OL.2 rfl));have hmrl:=HM.o (cT p f1 (rows1.getD a [])) ((HW.o.okf.merge hp.1 HG.o HR2.o).dn _ (OL.2 rfl)) ((HW.o.okf.merge hp.1 HG.o HR2.o).gd _ (OL.2 rfl));clear hrow hu hfv;have HMG:Po (∀W,Io wr W->Calls prog 151 #[PL ob,.slice fa1 f1.length fc1,.slice (some (PN ub uof)) (ts.length+1) ucap] W λe w'=>∃u,e=.returned u/\Fv w' u (cT p f1 (rows1.getD a []))/\Io W w'):=λW hb=>NM ob p k0 k1 k2 sv _ _ f1 (rows1.getD a []) W (HOW.o.below hb) hp (λt ht=>by have:=HW.o.okf.co f1 (by simp) t ht;omega) (λt ht=>by have:=HR2.o.co _ (OL.2 rfl) t ht;omega) (by omega) (HW.o.fv.below hb) (HFU.o.below hb)
    have KEEP:Po (∀W,Io wr W->(Po (Io wr W)/\W.cell? (PN sb 0)=some (PL ob)/\W.cell? (PN sb 1)=some (PM g rows1.length rc)/\W.cell? (PN g a)=some (.slice (some (PN ub uof)) (ts.length+1) ucap))):=λW hb=>⟨hb,af x0 hb,af x1 hb,af z1 hb⟩;have HB0:Po (Io wr wr.drew):=(Ov _ _).drew;go_wp2_with fail;go_region_held (λW=>Po (Io wr W)/\W.cell? (PN sb 0)=some (PL ob)/\W.cell? (PN sb 1)=some (PM g rows1.length rc)/\W.cell? (PN g a)=some (.slice (some (PN ub uof)) (ts.length+1) ucap))
     (first|exact KEEP.o _ HB0.o|exact KEEP.o _ (In HB0.o HB9.o))
     (first|(go_at_call 151;refine(HMG.o _ HB0.o).mono ?_;rintro e w9 ⟨u9,rfl,hf9,hb9⟩;have HF9:=ae hf9;have HB9:=ae hb9;clear hf9 hb9))
    have HBT:=ae (In HB0.o HB9.o);obtain⟨_,d0,d1,d2⟩:=KEEP.o _ HBT.o;have HS9:=ae (HS1.o.next HBT.o);have d3:w9.frozen? (PN g a)=false:=Oo HS9.o.rws.own a;obtain⟨ua9,uc9,hu9,_,_⟩:=HF9.o;subst hu9;have HAD:=ae (gF.merge hp.1 HG.o (HW.o.next HBT.o) a hal HF9.o);have htot:=Ei [] rows1 a hal;rw[HROW.o] at htot;simp only[OZ,List.length_nil] at htot;have HTT:=ae htot;clear htot;generalize cT p f1 (rows1.getD a [])=mg at HF9 HAD hmrl;have w64b:IntKind.u64.wrap (mg.length:Int)=mg.length:=by rw[IntKind.wrap_u64];omega
    have hb65:=Eh ((mg.length:Int)).toNat;have HBL2:Po (∀W,Calls prog 150 #[.int .u64 (mg.length:Int)] W λe w'=>e=.returned (PO (Lib.bitLen ((mg.length:Int)).toNat))/\w'=W):=λW=>Tryz.bits_Len (mg.length:Int) W (by omega) (by omega);obtain⟨a9,ha9⟩:∃a9,Lib.bitLen ((mg.length:Int)).toNat=a9:=⟨_,rfl⟩;rw[ha9] at HBL2 hb65;clear ha9;go_wp2_with (go_at_call 150;refine(HBL2.o _).mono ?_;rintro e w8 ⟨rfl,h8⟩;have h8b:=h8.symm;clear h8;subst h8b);go_roundw;case rel=>exact⟨_,max a a9,rows1.set a [],mg,rfl,by omega,by rw[show ((max a a9:Nat):Int)=max (a:Int) a9 by omega],by rw[List.length_set];exact hl1,HAD.o⟩
    case measure=>obtain⟨us7,hs7⟩:=HAD.o.sum;have h7:=hs7.rws.total;have h8:=HTOT.o;have h9:=HTT.o;refine Pn (Nat.le_of_eq h7) ?_;omega
  .go_wp2_with fail;go_loopw [] (λwr2=>∃(rv2:PK) (rows2:PC),rows2.length<=65/\(a<rows2.length->rows2.getD a []=[])/\gF p G B w wr2 sb ob (.slice ra rows1.length rc) rv2 rows fs rows2 (.slice fa1 f1.length fc1) f1) (λwr2=>66-jj wr2 sb);case atStart=>exact⟨_,rows1,by omega,λh=>absurd h hal,HW.o⟩
   case round=>
    clear HW HS1 HTOT;obtain⟨rv2,rows2,hl2,hem,hw2⟩:=hrel;have HW2:=ae hw2;obtain⟨us2,hs2⟩:=hw2.sum;have HS2:=ae hs2;obtain⟨y0,y1,y2⟩:=hs2.cells;obtain⟨ra2,rc2,hrv2⟩:=cl hs2.rws.own;subst hrv2;have hlen1:jj wr sb=rows2.length:=by unfold jj;rw[y1];rfl
    clear hw2 hs2;by_cases h2:rows2.length<=a
    .have HWA:=ae (HW2.o.next (ai (A:=.cells #[.slice none 0 0] 79)));have HSA:=ae (HS2.o.next (ai (A:=.cells #[.slice none 0 0] 79)));have hBa:B<=(wr.alloc (.cells #[.slice none 0 0] 79)).heap.size:=by have:=HWA.o.frm.size;omega
     have STEP:Po (∀v' w',w'.ownsRow B 79 1 v' (rows2.length+1) (us2++[.slice none 0 0])->(wr.alloc (.cells #[.slice none 0 0] 79)).grownBy w' (Value.slice ra2 rows2.length rc2).ownBlock->(∀g,v'.ownBlock=some g->cG w' g)->(v'.ownBlock=(Value.slice ra2 rows2.length rc2).ownBlock\/v'.ownBlock=some (wr.alloc (.cells #[.slice none 0 0] 79)).heap.size)->(∃x,w'.cell? (PN sb 1)=some x)/\w'.frozen? (PN sb 1)=false/\gF p G B w (w'.setCell (PN sb 1) v') sb ob (.slice ra rows1.length rc) v' rows fs (rows2++[[]]) (.slice fa1 f1.length fc1) f1/\(w'.setCell (PN sb 1) v').cell? (PN sb 1)=some v'/\tH (some v')=rows2.length+1):=λv' w' q2 q3 q4 q5=>by have hb2:=World.ownsRow.kept HSA.o.box q3 (Pg (by simpa [Value.ownBlock] using λe=>HSA.o.apart e.symm));have hc2:=Oq hb2 1 (by omega);obtain⟨a3,c3,e3⟩:=cl q2;exact⟨⟨_,hc2⟩,Oo hb2 1,HWA.o.grow HSA.o q2 q3 q4 q5,World.cell?_setCell_same _ _ _ hc2,by rw[e3];rfl⟩
     go_wp2_with (at_builtin;refine Ej rfl (.tmp 63) (.tmp 64) 76 rfl underlying76 B _ us2 rows2 rfl HSA.o.rws (PN wr.heap.size 0) 1 rfl (Cr _ _ _) (by omega) hBa ?_;intro v' w' q2 q3 q4 q5;obtain⟨a3,c3,e3⟩:=cl q2;subst e3;have S5:=ae (STEP.o _ w' q2 q3 q4 q5);clear q2 q3 q4 q5;obtain⟨x5,d5⟩:=S5.o.1;have d6:=S5.o.2.1);go_roundw;case rel=>
      refine⟨_,rows2++[[]],by rw[OM];simp;omega,λh=>?_,S5.o.2.2.1⟩;rw[OM] at h;simp only[OZ,List.length_nil] at h;have e:a=rows2.length:=by omega
      subst e;simp[OH]
     case measure=>have h7:=S5.o.2.2.2;show 66-jj _ sb<66-jj wr sb;unfold jj at hlen1⊢;rw[h7.1,h7.2,hlen1];omega
    .have ha2:a<rows2.length:=by omega
     have HEM:=ae (hem ha2);obtain⟨g2,c2,e2,_,hlt2,m1,m2⟩:=HS2.o.rws.at a ha2;simp only[OQ] at e2;obtain⟨rfl,_,rfl⟩:=e2;have HPUT:=ae (HS2.o.put a ha2 (.slice fa1 f1.length fc1) f1 HW2.o.fv);go_wp2;go_end0;refine⟨rfl,_,_,rows2.set a f1,HPUT.o.1,HW2.o.ok.set HW2.o.okf a,by rw[List.length_set];exact hl2,λk=>?_,HW2.o.frm.trans (aj.of_grown (S:=λk=>k=g2) HPUT.o.2 λx e=>by simpa using e.symm) λx hx e=>?_,HW2.o.loc⟩
     .rw[tI k f1 rows2 a ha2,HEM.o];have:=HW2.o.cn k;simpa [ao] using this
     .subst e;exact Pg (HW2.o.loc _ rfl hx)
structure cN(p:Int)(G:Ft->Prop)(B:Nat)(w:PJ)(sb ob:Nat)(rv:PK)(us:PH)(rows:PC)(C:Int->Int):Prop where
 sum:aT B w sb ob rv us rows
 ok:aG p G rows
 len:rows.length<=65
 cn:∀k,p∣ao k rows.flatten-C k
theorem vp(w:PJ)(ob:Nat)(B:Nat)(hB:B<=w.heap.size):aT B (w.alloc (.cells #[PL ob,.slice none 0 0] 176)) w.heap.size ob (.slice none 0 0) [] []:=
 ⟨⟨by simp,.inr ⟨w.heap.size,1,_,rfl,hB,heap_alloc_new w _,Ou _,by decide,by simp,by simp⟩⟩,r7 (λu hu x e=>by simp at hu;rcases hu with rfl|rfl<;>cases e),aM.nil _ _⟩
theorem uS(ob vb voff vc:Nat)(p k0 k1 k2:Int)(G:Ft->Prop)(sv vv:PK)(fs:PB)(w:PJ)(hob:aQ w ob p k0 k1 k2 sv)(hp:2<=p/\p<=101)(hv:w.cell? (PN vb voff)=some vv)(hf:Fv w vv fs)(hrf:aG p G [fs])(hG:∀x t,eC x t->G t->G x)(hM:∀r,Dn r->(∀t∈r,G t)->r.length<=1100000000000):Calls prog 85 #[PL ob,.slice (some (PN vb voff)) 1 vc] w λe w'=>e=.returned (PL w.heap.size)/\∃rv us rows,cN p G w.heap.size w' w.heap.size ob rv us rows (λk=>ao k fs)/\Io w w':=by
 have HOB:=ae hob;have HF:=ae hf;have HV:=ae hv;have hobl:=hob.lt;obtain⟨va,vcc,rfl,_,_⟩:=hf;obtain⟨w1,hw1⟩:∃w1,w1=w.alloc (.cells #[PL ob,.slice none 0 0] 176):=⟨_,rfl⟩;have HB1:Po (Io w w1):=by rw[hw1];exact ai
 have HS1:Po (aT w.heap.size w1 w.heap.size ob (.slice none 0 0) [] []):=by rw[hw1];exact vp w ob _ (Ou _)
 have HAD:=ae (pA w.heap.size w.heap.size ob p k0 k1 k2 G sv (.slice none 0 0) _ [] [] fs w1 HS1.o (by have:=HB1.o.size;omega) (HOB.o.below HB1.o) (by omega) hp (by simp) (HF.o.below HB1.o) ⟨λr hr=>by simp at hr,λr hr=>by simp at hr,λr hr=>by simp at hr⟩ hrf hG hM);have c1:=af HV.o HB1.o;clear hob hv hrf hG hM;go_enter func85,ntmps85;go_wp2_with fail;rw[<-hw1];clear hw1;go_loopw [13] (λi wr=>(i=PO 0/\wr=w1)\/(i=PO 1/\∃rv us rows,cN p G w.heap.size wr w.heap.size ob rv us rows (λk=>ao k fs)/\Io w wr)) (λi _=>1-(intOf i).toNat);case atStart=>exact Pf ⟨rfl,rfl⟩
 case round=>
  rcases hrel with ⟨rfl,rfl⟩|⟨rfl,rv,us,rows,hsm,hb⟩
  .go_wp2_with (go_at_call 116;refine HAD.o.mono ?_;rintro e w9 ⟨rfl,rv9,us9,rows9,q1,q2,q3,q4,q5,q6⟩;have H9:Po (cN p G w.heap.size w9 w.heap.size ob rv9 us9 rows9 (λk=>ao k fs)/\Io w w9):=⟨⟨q1,q2,q3,λk=>by have:=q4 k;simpa [ao] using this⟩,HB1.o.trans (q5.to_below HB1.o.size (λx hx=>by rcases hx with hx|hx;exact Nat.le_of_eq hx.symm;simp[Value.ownBlock] at hx))⟩;clear q1 q2 q3 q4 q5 q6);go_roundw;case rel=>exact Pg ⟨by go_num,rv9,us9,rows9,H9.o.1,H9.o.2⟩
   case measure=>simp[intOf]
  .have HSM:=ae (Ow hsm hb);clear hsm hb;go_wp2;go_ret;exact⟨rfl,rv,us,rows,HSM.o.1,HSM.o.2⟩
def rH(L:Ft)(rv:PK)(num inv:Int):PK:=.agg #[PO L.k,PP L.a,PP L.b,PP L.d,PP L.z,PQ L.pl,PQ L.c,rv,PO num,PQ inv]
def iy(w:PJ)(g:Nat)(L:Ft)(rv:PK)(num inv:Int):PJ:=(((eB w g L).setCell (PN g 7) rv).setCell (PN g 8) (PO num)).setCell (PN g 9) (PQ inv)
variable{L:Ft}{g b:Nat}{w:PJ}
theorem Oj{o:Nat}{rv:PK}{num inv:Int}(h:b≠g):(iy w g L rv num inv).cell? (PN b o)=w.cell? (PN b o):=by have H:∀(w:PJ)(j:Nat)(u:PK),(w.setCell (PN g j) u).cell? (PN b o)=w.cell? (PN b o):=λw j u=>World.cell?_setCell_far _ _ _ _ (λe=>h e.symm);unfold iy eB;simp only[H]
def qu(B:Nat)(wr:PJ)(g:Nat)(xs:PH):Prop:=wr.ownsRow B 130 10 (PM g 1 1) 1 xs
def ou(L:Ft)(rv:PK)(num inv:Int):PH:=aB L++[rv,PO num,PQ inv]
variable{xs:PH}{wr:PJ}{B:Nat}
theorem qu.put(h:qu B wr g xs)(L:Ft)(rv:PK)(num inv:Int):qu B (iy wr g L rv num inv) g (ou L rv num inv)/\wr.grownBy (iy wr g L rv num inv) (some g):=by
 have s1:=OF h 0 (PO L.k);have s2:=s1.1.stored 1 (PP L.a);have s3:=s2.1.stored 2 (PP L.b);have s4:=s3.1.stored 3 (PP L.d);have s5:=s4.1.stored 4 (PP L.z);have s6:=s5.1.stored 5 (PQ L.pl);have s7:=s6.1.stored 6 (PQ L.c);have s8:=s7.1.stored 7 rv;have s9:=s8.1.stored 8 (PO num);have s10:=s9.1.stored 9 (PQ inv);have hl:xs.length=10:=h.1;refine⟨?_,cW (cW (cW (cW (cW (cW (cW (cW (cW s1.2 s2.2) s3.2) s4.2) s5.2) s6.2) s7.2) s8.2) s9.2) s10.2⟩;have e:(((((((((xs.set 0 (PO L.k)).set 1 (PP L.a)).set 2 (PP L.b)).set 3 (PP L.d)).set 4 (PP L.z)).set 5 (PQ L.pl)).set 6 (PQ L.c)).set 7 rv).set 8 (PO num)).set 9 (PQ inv)=ou L rv num inv:=by
  match xs,hl with
  |[_,_,_,_,_,_,_,_,_,_],_=>rfl
 have:=s10.1;rw[e] at this;exact this
theorem H7(ob:Nat)(p k0 k1 k2 num:Int)(sv vv:PK)(L:Ft)(r:PB)(w:PJ)(hob:aQ w ob p k0 k1 k2 sv)(hpr:bA p=0)(hc:0<L.c/\L.c<p)(hf:Fv w vv (L::r)):Calls prog 84 #[PL ob,PO num,vv] w λe w'=>∃rv,e=.returned (rH L rv num (aV p L.c))/\Fv w' rv r/\Io w w'/\∀g,rv.ownBlock=some g->vv.ownBlock=some g:=by
 obtain⟨b,off,cap,rfl,hcap,hlt,hft,h1,h2⟩:=hf.head;obtain⟨A,hA,hplA⟩:=Fv.tail ⟨h1,h2⟩;have HPA:=ae hplA;have HAB:Po (A.block=b):=by
  show _=_;by_cases hc1:cap=1
  .rw[OW hc1] at hA;simp only[OP] at hA;rw[<-hA]
  .rw[OV hc1] at hA;simp only[OP] at hA;rw[<-hA]
 have HOB:=ae hob;have HFT:=ae hft;have hle:(1:Int)<=(r.length:Int)+1:=by omega
 obtain⟨w1,hw1⟩:∃w1,w1=w.alloc (.cells #[PO 0,PP 0,PP 0,PP 0,PP 0,PQ 0,PQ 0,.slice none 0 0,PO 0,PQ 0] 130):=⟨_,rfl⟩;have HB1:Po (Io w w1):=by rw[hw1];exact ai
 have HX1:Po (qu w.heap.size w1 w.heap.size [PO 0,PP 0,PP 0,PP 0,PP 0,PQ 0,PQ 0,.slice none 0 0,PO 0,PQ 0]):=by rw[hw1];exact⟨by simp,.inr ⟨w.heap.size,1,_,rfl,Ou _,heap_alloc_new w _,Ou _,by decide,by simp,by simp⟩⟩
 have HIN:Po (∀W,Io w1 W->Calls prog 118 #[PL ob,PQ L.c] W λe w'=>e=.returned (PQ (aV p L.c))/\Io W w'):=λW hb=>A8 ob p k0 k1 k2 sv L.c W ((HOB.o.below HB1.o).below hb) hpr hc;have KEEP:Po (∀W,Io w1 W->W.cell? (PN b off)=some (PO L.k)/\W.cell? (PN b (off+1))=some (PP L.a)/\W.cell? (PN b (off+2))=some (PP L.b)/\W.cell? (PN b (off+3))=some (PP L.d)/\W.cell? (PN b (off+4))=some (PP L.z)/\W.cell? (PN b (off+5))=some (PQ L.pl)/\W.cell? (PN b (off+6))=some (PQ L.c)):=λW hb=>(HFT.o.keep HB1.o).keep hb;have KEEPS:Po (∀W,(W.cell? (PN b off)=some (PO L.k)/\W.cell? (PN b (off+1))=some (PP L.a)/\W.cell? (PN b (off+2))=some (PP L.b)/\W.cell? (PN b (off+3))=some (PP L.d)/\W.cell? (PN b (off+4))=some (PP L.z)/\W.cell? (PN b (off+5))=some (PQ L.pl)/\W.cell? (PN b (off+6))=some (PQ L.c))->(iy W w.heap.size L (.slice (some A) r.length (cap-1)) num (aV p L.c)).cell? (PN b off)=some (PO L.k)/\(iy W w.heap.size L (.slice (some A) r.length (cap-1)) num (aV p L.c)).cell? (PN b (off+1))=some (PP L.a)/\(iy W w.heap.size L (.slice (some A) r.length (cap-1)) num (aV p L.c)).cell? (PN b (off+2))=some (PP L.b)/\(iy W w.heap.size L (.slice (some A) r.length (cap-1)) num (aV p L.c)).cell? (PN b (off+3))=some (PP L.d)/\(iy W w.heap.size L (.slice (some A) r.length (cap-1)) num (aV p L.c)).cell? (PN b (off+4))=some (PP L.z)/\(iy W w.heap.size L (.slice (some A) r.length (cap-1)) num (aV p L.c)).cell? (PN b (off+5))=some (PQ L.pl)/\(iy W w.heap.size L (.slice (some A) r.length (cap-1)) num (aV p L.c)).cell? (PN b (off+6))=some (PQ L.c)):=λW h=>by simp only[Oj (show b≠w.heap.size by omega)];exact h
 have CE:Po (∀W,Io w1 W->qu w.heap.size W w.heap.size [PO 0,PP 0,PP 0,PP 0,PP 0,PQ 0,PQ 0,.slice none 0 0,PO 0,PQ 0]):=λW hb=>aF HX1.o hb;unfold iy eB at KEEPS;have HB0:Po (Io w1 w1.drew):=(Ov _ _).drew;clear hf hft h1 h2 hplA hob hpr hc;go_enter func84,ntmps84;go_wp2_with fail;rw[<-hw1];clear hw1;go_region_held (λW=>W.cell? (PN b off)=some (PO L.k)/\W.cell? (PN b (off+1))=some (PP L.a)/\W.cell? (PN b (off+2))=some (PP L.b)/\W.cell? (PN b (off+3))=some (PP L.d)/\W.cell? (PN b (off+4))=some (PP L.z)/\W.cell? (PN b (off+5))=some (PQ L.pl)/\W.cell? (PN b (off+6))=some (PQ L.c))
  (first|with_reducible exact KEEP.o _ HB0.o|with_reducible exact KEEP.o _ HB8.o|with_reducible exact KEEPS.o w8 (KEEP.o _ HB8.o))
  (first|(go_at_call 118;refine(HIN.o _ HB0.o).mono ?_;rintro e w8 ⟨rfl,hb8⟩;have HB8:=ae (In HB0.o hb8);have HX8:=ae (CE.o _ HB8.o);have y0:=Oq HX8.o 0 (by omega);have y1:=Oq HX8.o 1 (by omega);have y2:=Oq HX8.o 2 (by omega);have y3:=Oq HX8.o 3 (by omega);have y4:=Oq HX8.o 4 (by omega);have y5:=Oq HX8.o 5 (by omega);have y6:=Oq HX8.o 6 (by omega);have y7:=Oq HX8.o 7 (by omega);have y8:=Oq HX8.o 8 (by omega);have y9:=Oq HX8.o 9 (by omega);have z0:=Oo HX8.o 0;have z1:=Oo HX8.o 1;have z2:=Oo HX8.o 2;have z3:=Oo HX8.o 3;have z4:=Oo HX8.o 4;have z5:=Oo HX8.o 5;have z6:=Oo HX8.o 6;have z7:=Oo HX8.o 7;have z8:=Oo HX8.o 8;have z9:=Oo HX8.o 9;clear hb8))
 all_goals
  have HP:=ae (HX8.o.put L (.slice (some A) r.length (cap-1)) num (aV p L.c));have x0:=Oq HP.o.1 0 (by omega);have x1:=Oq HP.o.1 1 (by omega);have x2:=Oq HP.o.1 2 (by omega);have x3:=Oq HP.o.1 3 (by omega);have x4:=Oq HP.o.1 4 (by omega);have x5:=Oq HP.o.1 5 (by omega);have x6:=Oq HP.o.1 6 (by omega);have x7:=Oq HP.o.1 7 (by omega);have x8:=Oq HP.o.1 8 (by omega);have x9:=Oq HP.o.1 9 (by omega);have HBF:Po (Io w (iy w8 w.heap.size L (.slice (some A) r.length (cap-1)) num (aV p L.c))):=HB1.o.trans ((HB8.o.mono HB1.o.size).trans (cQ HP.o.2 (Ou _) (by have:=HB1.o.size;have:=HB8.o.size;omega)));have HFN:=ae (HPA.o.below HBF.o);unfold iy eB at x0 x1 x2 x3 x4 x5 x6 x7 x8 x9 HBF HFN;simp only[ou,aB,List.cons_append,List.nil_append,List.getElem?_cons_zero,List.getElem?_cons_succ] at x0 x1 x2 x3 x4 x5 x6 x7 x8 x9;go_wp2;refine OC (v:=rH L (.slice (some A) r.length (cap-1)) num (aV p L.c)) (by simp[results,Tryz.results84,go_sem,x0,x1,x2,x3,x4,x5,x6,x7,x8,x9,rH]) rfl ⟨_,rfl,HFN.o,HBF.o,λg hg=>by simp only[Value.ownBlock,OP] at hg⊢;rw[<-hg,HAB.o]⟩
abbrev De:=Nat×Ft×PB×PK
def Ek(d:De):Ef:=(d.1,d.2.1,d.2.2.1)
def oQ(p:Int)(d:De):PH:=ou d.2.1 d.2.2.2 d.1 (aV p d.2.1.c)
def tJ(p:Int)(ds:List De):PH:=ds.flatMap (oQ p)
theorem xV(p:Int)(d:De):(oQ p d).length=10:=rfl
theorem El(p:Int)(d:De)(ds:List De):tJ p (d::ds)=oQ p d++tJ p ds:=rfl
theorem Em(p:Int):∀(ds:List De)(k j:Nat)(h:k<ds.length),j<10->(tJ p ds)[k*10+j]?=(oQ p ds[k])[j]?
 |d::ds,0,j,_,hj=>by rw[El,O4 (by rw[xV];omega)];simp
 |d::ds,k+1,j,h,hj=>by rw[El,O9 (by rw[xV];omega),xV,show (k+1)*10+j-10=k*10+j by omega,Em p ds k j (by simpa using h) hj];simp
structure kO(p:Int)(B:Nat)(w:PJ)(v:PK)(ds:List De):Prop where
 own:w.ownsRow B 130 10 v ds.length (tJ p ds)
 fvs:∀d∈ds,Fv w d.2.2.2 d.2.2.1
 apart:∀d∈ds,∀b,d.2.2.2.ownBlock=some b->v.ownBlock≠some b/\b<w.heap.size
variable{ds:List De}{v:PK}{w':PJ}{p:Int}
theorem kO.next(h:kO p B w v ds)(hb:Io w w'):kO p B w' v ds:=
 ⟨aF h.own hb,λd hd=>(h.fvs d hd).below hb,λd hd b hb2=>⟨(h.apart d hd b hb2).1,Oz (h.apart d hd b hb2).2 hb.size⟩⟩
theorem kO.nil(p:Int)(B:Nat)(w:PJ):kO p B w (.slice none 0 0) []:=
 ⟨World.ownsRow_nil _ _ _ _,λd hd=>by simp at hd,λd hd=>by simp at hd⟩
theorem kO.at(h:kO p B w v ds)(k:Nat)(hk:k<ds.length):∃g c,v=PM g ds.length c/\g<w.heap.size/\kF w g (k*10) ds[k].2.1 ds[k].2.2.2 ds[k].1 (aV p ds[k].2.1.c):=by
 rcases h.own.2 with ⟨_,h0⟩|⟨g,cap,ag,rfl,_⟩
 .omega
 .have hlt:=(Ot h.own g rfl).2;have hc:∀j,j<10->w.cell? ⟨g,k*10+j,none⟩=(oQ p ds[k])[j]?:=λj hj=>by rw[Oq h.own (k*10+j) (by omega),Em p ds k j hk hj]
  refine⟨g,cap,rfl,hlt,hlt,λj u hj=>?_,hc 7 (by omega),hc 8 (by omega),hc 9 (by omega)⟩;have hjl:j<7:=by have:=(List.getElem?_eq_some_iff.1 hj).1;simpa [aB] using this
  rw[hc j (by omega)];unfold oQ ou;rw[O4 (by simpa [aB] using hjl)];exact hj
structure xW(w:PJ)(ob:Nat)(p o ov:Int)(N R:Nat)(sv:PK):Prop where
 ord:aQ w ob p (am o N N 0) (am o N N 1) (am o N N 2) sv
 sl:Sl w sv (Ob ov R)
variable{N R ob:Nat}{o ov:Int}
theorem xW.below{sv:PK}(h:xW w ob p o ov N R sv)(hb:Io w w'):xW w' ob p o ov N R sv:=⟨h.ord.below hb,h.sl.below hb⟩
theorem dZ(o:Int)(N i:Nat):0<=am o N N i/\am o N N i<=137438953472:=by
 unfold am kN W0 W1 W2;split
 .split
  .split<;>omega
  .split
   .split<;>omega
   .split<;>omega
 .omega
theorem ME{v:Lt}(h:∀f∈v,fO p o N f):kf p o N (λ_=>200) v:=by
 refine⟨λi=>?_,λi t ht x hx=>?_,λi t ht=>?_⟩<;>rcases xQ v i with e|hm
 .rw[e];exact(Kv p o N).canon
 .exact(h _ hm).canon
 .rw[e] at ht;simp at ht
 .exact((h _ hm).bd t ht x hx).1
 .rw[e] at ht;simp at ht
 .exact(h _ hm).deg t ht
structure kP(p o ov:Int)(N R:Nat)(lss:PA)(w wr:PJ)(m:Nat)(v:PK)(ds:List De)(fls:PC):Prop where
 dvs:kO p w.heap.size wr v ds
 made:ds.map Ek=jK 0 fls
 len:fls.length=m
 flr:∀i,i<m->oO p o ov N R 200 (lss.getD i []) (fls.getD i [])
 below:Io w wr
variable{fls:PC}{m:Nat}{lss:PA}
theorem kP.next(h:kP p o ov N R lss w wr m v ds fls)(hb:Io wr w'):kP p o ov N R lss w w' m v ds fls:=
 ⟨h.dvs.next hb,h.made,h.len,h.flr,In h.below hb⟩
theorem En{f:PB}(hl:fls.length=m)(h:∀i,i<m->oO p o ov N R 200 (lss.getD i []) (fls.getD i []))(hf:oO p o ov N R 200 (lss.getD m []) f):∀i,i<m+1->oO p o ov N R 200 (lss.getD i []) ((fls++[f]).getD i []):=by
 intro i hi;rcases Nat.lt_succ_iff_lt_or_eq.1 hi with hl2|rfl
 .rw[OH (l:=fls++[f]),O4 (by omega),<-OH];exact h i hl2
 .rw[OH (l:=fls++[f]),O9 (by omega),hl];simpa using hf
theorem kP.none(h:kP p o ov N R lss w wr m v ds fls)(hf:oO p o ov N R 200 (lss.getD m []) []):kP p o ov N R lss w wr (m+1) v ds (fls++[[]]):=
 ⟨h.dvs,by rw[tG,h.made];simp[jK],by simp[h.len],En h.len h.flr hf,h.below⟩
theorem kP.one{w2:PJ}{v2:PK}{r:PB}{rv:PK}(h:kP p o ov N R lss w wr m v ds fls)(hf:oO p o ov N R 200 (lss.getD m []) (L::r))(hd:kO p w.heap.size w2 v2 (ds++[(m,L,r,rv)]))(hg:wr.grownBy w2 v.ownBlock):kP p o ov N R lss w w2 (m+1) v2 (ds++[(m,L,r,rv)]) (fls++[L::r]):=by refine⟨hd,?_,by simp[h.len],En h.len h.flr hf,eS h.dvs.own h.below hg (Ou _)⟩;rw[tG,O0,h.made,ON,h.len];simp[jK,Ek]
def tK(N:Nat)(xs:PI)(k:Nat):PH:=((xs.take k++List.replicate (N-k) 0).map (Value.int .i64))
theorem Ol(N:Nat)(xs:PI)(k:Nat)(hl:xs.length=N)(hk:k<N):(tK N xs k).set k (PO (xs.getD k 0))=tK N xs (k+1):=by
 have hlen:(xs.take k).length=k:=by rw[O7];omega
 have e:xs.getD k 0=xs[k]:=by simp[OH,show k<xs.length by omega]
 unfold tK;rw[O0,List.set_append_right _ _ (by rw[OS,hlen];exact Ou _),OS,hlen,Nat.sub_self,show N-k=(N-(k+1))+1 by omega,List.replicate_succ,List.map_cons,List.set_cons_zero,OX (show k<xs.length by omega),e,O0,O0,List.append_assoc];rfl
structure xX(w wr:PJ)(N:Nat)(t:Ft)(k:Nat):Prop where
 below:Io w wr
 box:Bx w.heap.size wr w.heap.size t
 res:wr.ownsRow w.heap.size 47 2 (PM (w.heap.size+1) 1 1) 1 [PO 0,.slice none 0 0]
 row:wr.ownsRow w.heap.size 3 1 (PM (w.heap.size+1+1) N N) N (tK N (aD N t) k)
variable{t:Ft}
theorem xX.put{k:Nat}(h:xX w wr N t k)(hl:(aD N t).length=N)(hk:k<N):xX w (wr.setCell (PN (w.heap.size+1+1) k) (PO ((aD N t).getD k 0))) N t (k+1):=by have s:=OF h.row k (PO ((aD N t).getD k 0));refine⟨h.below.trans (cQ s.2 (by omega) h.below.size),World.ownsRow.kept h.box s.2 (Pg (by simp[Value.ownBlock];omega)),World.ownsRow.kept h.res s.2 (Pg (by simp[Value.ownBlock])),?_⟩;rw[<-Ol N _ k hl hk];exact s.1
structure gG(B N:Nat)(w:PJ)(u:PK)(ts:List TV):Prop where
 own:w.ownsRow B 47 2 u ts.length (bm ts)
 kind:∀g,u.ownBlock=some g->bU io w g
 es:∀t∈ts,w.ownsRow B 3 1 t.2.1 N (t.2.2.map (Value.int .i64))
def cq(w:PJ)(T:TypeId)(g:Nat):Prop:=∀ag,w.heap[g]?≠some (.cells ag T (0,0))
variable{n s:Nat}
theorem cF{T:TypeId}(h:w.ownsRow B T s v n xs)(hg:v.ownBlock=some g):∃ag,w.heap[g]?=some (.cells ag T (0,0)):=by
 rcases h.2 with ⟨rfl,_⟩|⟨g2,cap,ag,rfl,_,hh,_⟩
 .simp[Value.ownBlock] at hg
 .simp only[Value.ownBlock,OP] at hg;subst hg;exact⟨ag,hh⟩
theorem bj{T T':TypeId}(h:w.ownsRow B T s v n xs)(hg:v.ownBlock=some g)(hT:T≠T'):cq w T' g:=by obtain⟨ag,hh⟩:=cF h hg;intro cur2 e;rw[hh] at e;simp only[OP,Obj.cells.injEq] at e;exact hT e.2.1
variable{ts:List TV}{u:PK}{S:Nat->Prop}
theorem gG.frm(h:gG B N w u ts)(hf:aj S w w')(hu:∀g,u.ownBlock=some g->¬S g)(hS:∀g,S g->cq w 3 g):gG B N w' u ts:=
 ⟨hf.own h.own hu,λg hg=>hf.kdb (h.kind g hg) (Ot h.own g hg).2 (hu g hg),λt ht=>hf.own (h.es t ht) λg hg hs=>by
  obtain⟨ag,e⟩:=cF (h.es t ht) hg;exact hS g hs ag e⟩
theorem gG.next(h:gG B N w u ts)(hb:Io w w'):gG B N w' u ts:=
 h.frm (S:=λ_=>False) (aj.of_below hb) (λ_ _ h=>h) λ_ h=>h.elim
theorem gG.nil(B N:Nat)(w:PJ):gG B N w (.slice none 0 0) []:=⟨World.ownsRow_nil _ _ _ _,λg hg=>by simp[Value.ownBlock] at hg,λt ht=>by simp at ht⟩
theorem gG.pl(h:gG B N w u ts)(hl:∀t∈ts,t.2.2.length=N):Pl w u (ts.map tm):=by refine wE h.own λt ht=>?_;exact BG (T:=3) (by rw[hl t ht];exact h.es t ht)
variable{ev:PK}
theorem gG.snoc{c:Int}{xs:PI}(h:gG B N w u ts)(hev:w.ownsRow B 3 1 ev N (xs.map (Value.int .i64)))(h2:w'.ownsRow B 47 2 v (ts.length+1) (bm ts++[PO c,ev]))(h3:w.grownBy w' u.ownBlock)(h4:∀g,v.ownBlock=some g->bU io w' g):gG B N w' v (ts++[(c,ev,xs)]):=by
 have hf:aj (λk=>u.ownBlock=some k) w w':=aj.of_grown h3 λ_ e=>e;have hk:∀{z:PK}{n:Nat}{zs:PH},w.ownsRow B 3 1 z n zs->w'.ownsRow B 3 1 z n zs:=fun {z n zs} hz=>hf.own hz λg hg e=>by obtain⟨ag,e2⟩:=cF hz hg;exact bj h.own e (by decide) ag e2
 refine⟨?_,h4,λt ht=>?_⟩
 .have e:bm (ts++[(c,ev,xs)])=bm ts++[PO c,ev]:=by simp[bm]
  rw[e,OM];exact h2
 .rcases OK.1 ht with ht|ht
  .exact hk (h.es t ht)
  .rw[OL] at ht;subst ht;exact hk hev
structure tL(B N:Nat)(w wx:PJ)(fb b i n rc:Nat)(us:PH)(ts:List TV)(f:Bool)(t:Ft)(ev v:PK):Prop where
 pol:gG B N wx v (ts++[(t.c,ev,aD N t)])
 row:wx.ownsRow B 40 1 (PM b n rc) n (us.set i v)
 kind:cG wx b
 fit:wx.ownsRow B 4 1 (PM fb 1 1) 1 [.bool f]
 frm:aj (λk=>k=b\/(us.getD i aL).ownBlock=some k\/k=fb) w wx
 loc:v.ownBlock=(us.getD i aL).ownBlock\/∃g,v.ownBlock=some g/\w.heap.size<=g
variable{f:Bool}{fb i rc:Nat}
theorem tL.next{wx:PJ}{us:PH}(h:tL B N w wx fb b i n rc us ts f t ev v)(hb:Io wx w'):tL B N w w' fb b i n rc us ts f t ev v:=
 ⟨h.pol.next hb,aF h.row hb,bU.below h.kind (hb.block b (Ot h.row b rfl).2),aF h.fit hb,h.frm.trans (aj.of_below (S:=λ_=>False) hb) (λ_ _ h=>h.elim),h.loc⟩
def kQ{α:Type}(f:Bool->α)(s:Bool)(x:α):Bool->α:=λs'=>if s'=s then x else f s'
theorem qv{α:Type}(f:Bool->α)(s:Bool)(x:α):kQ f s x s=x:=by simp[kQ]
variable{s':Bool}
theorem qw{α:Type}(f:Bool->α){s:Bool}(x:α)(h:s'≠s):kQ f s x s'=f s':=by simp[kQ,h]
structure QW(B N:Nat)(w:PJ)(rv:Bool->PK)(us:Bool->PH)(tss:Bool->List (List TV)):Prop where
 len:∀s,(us s).length=(tss s).length
 own:∀s,w.ownsRow B 40 1 (rv s) (tss s).length (us s)
 kind:∀s g,(rv s).ownBlock=some g->cG w g
 pol:∀s i,i<(tss s).length->gG B N w ((us s).getD i aL) ((tss s).getD i [])
 rap:∀g,(rv true).ownBlock=some g->(rv false).ownBlock≠some g
 sap:∀s i s' j,i<(tss s).length->j<(tss s').length->¬(s=s'/\i=j)->∀g,((us s).getD i aL).ownBlock=some g->((us s').getD j aL).ownBlock≠some g
 lens:∀s i,∀t∈(tss s).getD i [],t.2.2.length=N
variable{tss:Bool->List (List TV)}{us:Bool->PH}{rv:Bool->PK}
theorem QW.rne(h:QW B N w rv us tss){s:Bool}(hs:s≠s'):∀g,(rv s).ownBlock=some g->(rv s').ownBlock≠some g:=by
 intro g hg e;cases s<;>cases s'
 .exact hs rfl
 .exact h.rap g e hg
 .exact h.rap g hg e
 .exact hs rfl
theorem QW.frm(h:QW B N w rv us tss)(hf:aj S w w')(hp:∀g,S g->cq w 40 g)(ht:∀g,S g->cq w 47 g)(hi:∀g,S g->cq w 3 g):QW B N w' rv us tss:=by
 have hrow:∀s g,(rv s).ownBlock=some g->¬S g:=λs g hg hs=>by obtain⟨ag,e⟩:=cF (h.own s) hg;exact hp g hs ag e
 refine⟨h.len,λs=>hf.own (h.own s) (hrow s),λs g hg=>hf.kdb (h.kind s g hg) (Ot (h.own s) g hg).2 (hrow s g hg),λs i hl=>(h.pol s i hl).frm hf (λg hg hs=>?_) hi,h.rap,h.sap,h.lens⟩;obtain⟨ag,e⟩:=cF (h.pol s i hl).own hg;exact ht g hs ag e
theorem QW.next(h:QW B N w rv us tss)(hb:Io w w'):QW B N w' rv us tss:=
 h.frm (S:=λ_=>False) (aj.of_below hb) (λ_ h=>h.elim) (λ_ h=>h.elim) λ_ h=>h.elim
theorem QW.grow(h:QW B N w rv us tss){s:Bool}{f0:Bool}(hi:i<(tss s).length)(hv:rv s=PM b n rc)(hn:n=(tss s).length)(hx:(aD N t).length=N)(hfb:w.ownsRow B 4 1 (PM fb 1 1) 1 [.bool f0])(hg:tL B N w w' fb b i n rc (us s) ((tss s).getD i []) f t ev v):QW B N w' rv (kQ us s ((us s).set i v)) (kQ tss s ((tss s).set i ((tss s).getD i []++[(t.c,ev,aD N t)]))):=by
 subst hn;have hbs:(rv s).ownBlock=some b:=by rw[hv];rfl
 have hb:=h.own s;have hS:∀g,(g=b\/((us s).getD i aL).ownBlock=some g\/g=fb)->cq w 3 g:=λg hgS=>by
  rcases hgS with rfl|e|rfl
  .exact bj hb hbs (by decide)
  .exact bj (h.pol s i hi).own e (by decide)
  .exact bj hfb rfl (by decide)
 have hrow:∀s',s'≠s->∀g,(rv s').ownBlock=some g->¬(g=b\/((us s).getD i aL).ownBlock=some g\/g=fb):=λs' hs' g hg2 hgS=>by
  obtain⟨ag,e⟩:=cF (h.own s') hg2;rcases hgS with rfl|e2|rfl
  .exact h.rne hs' g hg2 hbs
  .exact bj (h.pol s i hi).own e2 (by decide) ag e
  .exact bj hfb rfl (by decide) ag e
 have hpol:∀s' j,j<(tss s').length->¬(s=s'/\i=j)->gG B N w' ((us s').getD j aL) ((tss s').getD j []):=λs' j hj hne=>
  (h.pol s' j hj).frm hg.frm (λg hg2 hgS=>by
   obtain⟨ag,e⟩:=cF (h.pol s' j hj).own hg2;rcases hgS with rfl|e2|rfl
   .exact bj hb hbs (by decide) ag e
   .exact h.sap s i s' j hi hj hne g e2 hg2
   .exact bj hfb rfl (by decide) ag e) hS
 have hlt:∀s' j,j<(tss s').length->∀g,((us s').getD j aL).ownBlock=some g->g<w.heap.size:=λs' j hj g hg2=>(Ot (h.pol s' j hj).own g hg2).2;have hul:∀s' j,(kQ us s ((us s).set i v) s').getD j aL=if s'=s/\i=j/\j<(us s).length then v else (us s').getD j aL:=λs' j=>by
  by_cases e:s'=s
  .subst e;rw[qv,oc];by_cases e2:i=j/\j<(us s').length
   .rw[OW e2,OW ⟨rfl,e2⟩]
   .rw[OV e2,OV λh=>e2 h.2]
  .rw[qw _ _ e,OV λh=>e h.1]
 have htl:∀s' j,(kQ tss s ((tss s).set i ((tss s).getD i []++[(t.c,ev,aD N t)])) s').getD j []=if s'=s/\i=j/\j<(tss s).length then (tss s).getD i []++[(t.c,ev,aD N t)] else (tss s').getD j []:=λs' j=>by
  by_cases e:s'=s
  .subst e;rw[qv,oc];by_cases e2:i=j/\j<(tss s').length
   .rw[OW e2,OW ⟨rfl,e2⟩]
   .rw[OV e2,OV λh=>e2 h.2]
  .rw[qw _ _ e,OV λh=>e h.1]
 have hlen:∀s',(kQ tss s ((tss s).set i ((tss s).getD i []++[(t.c,ev,aD N t)])) s').length=(tss s').length:=λs'=>by
  by_cases e:s'=s
  .subst e;rw[qv,List.length_set]
  .rw[qw _ _ e]
 refine⟨λs'=>?_,λs'=>?_,λs' g hg2=>?_,λs' j hj=>?_,h.rap,λs1 i1 s2 j2 h1 h2 hne g e1=>?_,λs' j x hx2=>?_⟩
 .rw[hlen];by_cases e:s'=s
  .subst e;rw[qv,List.length_set];exact h.len s'
  .rw[qw _ _ e];exact h.len s'
 .rw[hlen];by_cases e:s'=s
  .subst e;rw[qv,hv];exact hg.row
  .rw[qw _ _ e];exact hg.frm.own (h.own s') (hrow s' e)
 .by_cases e:s'=s
  .subst e;rw[hbs] at hg2;simp only[OP] at hg2;subst hg2;exact hg.kind
  .exact hg.frm.kdb (h.kind s' g hg2) (Ot (h.own s') g hg2).2 (hrow s' e g hg2)
 .rw[hlen] at hj;rw[hul,htl,h.len];by_cases e:s'=s/\i=j/\j<(tss s).length
  .rw[OW e,OW e];exact hg.pol
  .rw[OV e,OV e];exact hpol s' j hj λh4=>e ⟨h4.1.symm,h4.2,by rw[h4.1];exact hj⟩
 .rw[hlen] at h1 h2;rw[hul,h.len] at e1⊢;by_cases ea:s1=s/\i=i1/\i1<(tss s).length
  .rw[OW ea] at e1;have eb:¬(s2=s/\i=j2/\j2<(tss s).length):=λh4=>hne ⟨ea.1.trans h4.1.symm,ea.2.1.symm.trans h4.2.1⟩;rw[OV eb];rcases hg.loc with hl|⟨g2,hl,hge⟩
   .rw[hl] at e1;exact h.sap s i s2 j2 hi h2 (λh4=>hne ⟨ea.1.trans h4.1,ea.2.1.symm.trans h4.2⟩) g e1
   .rw[hl] at e1;simp only[OP] at e1;intro e2;have:=hlt s2 j2 h2 g e2;omega
  .rw[OV ea] at e1;by_cases eb:s2=s/\i=j2/\j2<(tss s).length
   .rw[OW eb];rcases hg.loc with hl|⟨g2,hl,hge⟩
    .rw[hl];have:=h.sap s1 i1 s2 j2 h1 h2 hne g e1;rw[eb.1,<-eb.2.1] at this;exact this
    .rw[hl];intro e2;simp only[OP] at e2;have:=hlt s1 i1 h1 g e1;omega
   .rw[OV eb];exact h.sap s1 i1 s2 j2 h1 h2 hne g e1
 .rw[htl] at hx2;split at hx2
  .rcases OK.1 hx2 with hx2|hx2
   .exact h.lens s i x hx2
   .rw[OL] at hx2;subst hx2;exact hx
  .exact h.lens s' j x hx2
theorem dB(hf:aj S w w'){T:TypeId}(h:w.ownsRow B T s v n xs)(hS:∀g,S g->cq w T g):w'.ownsRow B T s v n xs:=
 hf.own h λg hg hs=>by obtain⟨ag,e⟩:=cF h hg;exact hS g hs ag e
variable{rows:PC}{sb:Nat}
theorem sF{B2:Nat}{rw:PK}{us:PH}(h:Bx B w g t)(hs:aT B2 w sb ob rw us rows)(hf:aj (fM sb rw) w w'):Bx B w' g t:=dB hf h λk hk=>by
 rcases hk with rfl|e
 .exact bj hs.box rfl (by decide)
 .exact bj hs.rws.own e (by decide)
structure lV(p:Int)(B L:Nat)(w wr:PJ)(sb ob:Nat)(rv:PK)(rows ag:PC):Prop where
 tk:dw B L w wr sb ob rv ag
 res:Bx w.heap.size wr w.heap.size ⟨0,0,0,0,0,0,0⟩
 go:∀r rows2,Nx p ag r rows2->Nx p rows r rows2
 co:∀r∈ag,∀t∈r,0<t.c/\t.c<p
 dn:∀r∈ag,Dn r
 len:ag.length=rows.length
theorem lV.next{L:Nat}{rv:PK}{ag:PC}(h:lV p B L w wr sb ob rv rows ag)(hb:Io wr w'):lV p B L w w' sb ob rv rows ag:=
 ⟨h.tk.next hb,h.res.below hb,h.go,h.co,h.dn,h.len⟩
theorem vq(B L sb ob:Nat)(p k0 k1 k2:Int)(sv rv:PK)(us:PH)(rows:PC)(w:PJ)(hs:aT B w sb ob rv us rows)(hL:L<=w.heap.size)(hloc:jy L us rows)(hob:aQ w ob p k0 k1 k2 sv)(hp:2<=p/\p<=101)(hn:rows.length<=1000)(hc:∀r∈rows,∀t∈r,0<t.c/\t.c<p)(hd:∀r∈rows,Dn r):Calls prog 121 #[PL sb] w λe w'=>∃r,e=.returned (.tuple #[aX (bQ r),.bool r.isSome])/\∃rows2,Nx p rows r rows2/\dw B L w w' sb ob rv rows2:=by
 have HOB:=ae hob;have HAP:=ae (hs.ob_apart hob);have HRL:Po (∀g,rv.ownBlock=some g->g<w.heap.size):=λg hg=>(Ot hs.rws.own g hg).2;have HSL:=ae hs.lt.2;obtain⟨w0,hw0⟩:∃w0,w0=w.alloc (.cells #[PO 0,PP 0,PP 0,PP 0,PP 0,PQ 0,PQ 0] 88):=⟨_,rfl⟩;have H0:Po (lV p B L w w0 sb ob rv rows rows):=by show lV _ _ _ _ _ _ _ _ _ _;rw[hw0];exact⟨⟨⟨us,hs.next ai,hloc⟩,aj.of_below ai⟩,Bx.new w _ (Ou _),λ_ _ h=>h,hc,hd,rfl⟩
 clear hs hob hc hd hloc;go_enter func121,ntmps121;go_wp2_with fail;rw[<-hw0];clear hw0;go_loopw [3] (λf wr=>f=.bool false/\∃ag,lV p B L w wr sb ob rv rows ag) (λ_ wr=>oP wr rv);case atStart=>exact⟨rfl,rows,H0.o⟩
 case round=>
  clear H0;obtain⟨rfl,ag,ht⟩:=hrel;have HT:=ae ht;obtain⟨us1,hs1,_⟩:=ht.tk.sum;obtain⟨x0,x1,x2⟩:=hs1.cells;have HG:=ae (N0 sb rv ag wr hs1.lt.2 x1 hs1.rws.rws (by rw[ht.len];exact hn));have HTOT:=ae hs1.rws.total;clear ht hs1 x0 x1 x2;cases hgr:eL ag with
  |none=>
   have HGR:=ae hgr;rw[hgr] at HG;simp only[bQ,aX,Option.getD_none,Option.isSome_none] at HG;clear hgr;go_upto_region 2 with (go_at_call 156;refine HG.o.mono ?_;rintro e w1 ⟨rfl,hb1⟩;have HT1:=ae (HT.o.next hb1);have HBX:=ae (Bx.new w1 w.heap.size HT1.o.tk.frm.size);obtain⟨y0,y1,y2,y3,y4,y5,y6⟩:=HBX.o.at;have z0:=Oo HBX.o 0;have z1:=Oo HBX.o 1;have z2:=Oo HBX.o 2;have z3:=Oo HBX.o 3;have z4:=Oo HBX.o 4;have z5:=Oo HBX.o 5;have z6:=Oo HBX.o 6;simp only[ON] at y0 y1 y2 y3 y4 y5 y6;clear hb1);obtain⟨wq,hwq⟩:∃wq,wq=w1.alloc (.cells #[PO 0,PP 0,PP 0,PP 0,PP 0,PQ 0,PQ 0] 88):=⟨_,rfl⟩;have HQ:Po (lV p B L w wq sb ob rv rows ag/\Bx w.heap.size wq w1.heap.size ⟨0,0,0,0,0,0,0⟩/\w.heap.size<w1.heap.size/\oP wq rv=gh ag):=by show _/\_/\_/\_;rw[hwq];obtain⟨us2,hs2,_⟩:=(HT1.o.next (ai (A:=.cells #[PO 0,PP 0,PP 0,PP 0,PP 0,PQ 0,PQ 0] 88))).tk.sum;exact⟨HT1.o.next ai,dr HT1.o.tk.frm.size ⟨0,0,0,0,0,0,0⟩,(Ot HT1.o.res _ rfl).2,hs2.rws.total⟩
   rw[<-hwq];clear hwq HBX y0 y1 y2 y3 y4 y5 y6 z0 z1 z2 z3 z4 z5 z6;have HLT2:=HQ.o.2.2.1;obtain⟨v0,v1,v2,v3,v4,v5,v6⟩:=HQ.o.1.res.at;have r0:=Oo HQ.o.1.res 0;have r1:=Oo HQ.o.1.res 1;have r2:=Oo HQ.o.1.res 2;have r3:=Oo HQ.o.1.res 3;have r4:=Oo HQ.o.1.res 4;have r5:=Oo HQ.o.1.res 5;have r6:=Oo HQ.o.1.res 6;simp only[ON] at v0 v1 v2 v3 v4 v5 v6;have HP:=ae (HQ.o.1.res.put ⟨0,0,0,0,0,0,0⟩);have hpat:=HP.o.1.at;have HPT:=ae (HQ.o.1.tk.far HP.o.2 hL (Ou _) HSL.o HRL.o);unfold eB at hpat HPT;obtain⟨s0,s1,s2,s3,s4,s5,s6⟩:=hpat;simp only[ON] at s0 s1 s2 s3 s4 s5 s6;go_wp2;refine OC (v:=.tuple #[aX (bQ none),.bool false]) (by simp[results,Tryz.results121,go_sem,s0,s1,s2,s3,s4,s5,s6,aX,bQ]) rfl ⟨none,rfl,ag,HQ.o.1.go _ _ (Nx.stop ag HGR.o),HPT.o⟩
  |some t=>
   have HGR:=ae hgr;rw[hgr] at HG;simp only[bQ,aX,Option.getD_some,Option.isSome_some] at HG;clear hgr;go_upto_region 2 with (go_at_call 156;refine HG.o.mono ?_;rintro e w1 ⟨rfl,hb1⟩;have HT1:=ae (HT.o.next hb1);have HBX:=ae (Bx.new w1 w.heap.size HT1.o.tk.frm.size);obtain⟨y0,y1,y2,y3,y4,y5,y6⟩:=HBX.o.at;have z0:=Oo HBX.o 0;have z1:=Oo HBX.o 1;have z2:=Oo HBX.o 2;have z3:=Oo HBX.o 3;have z4:=Oo HBX.o 4;have z5:=Oo HBX.o 5;have z6:=Oo HBX.o 6;simp only[ON] at y0 y1 y2 y3 y4 y5 y6;clear hb1);obtain⟨wq,hwq⟩:∃wq,wq=w1.alloc (.cells #[PO t.k,PP t.a,PP t.b,PP t.d,PP t.z,PQ t.pl,PQ t.c] 88):=⟨_,rfl⟩;have HQ:Po (lV p B L w wq sb ob rv rows ag/\Bx w.heap.size wq w1.heap.size t/\w.heap.size<w1.heap.size/\oP wq rv=gh ag):=by show _/\_/\_/\_;rw[hwq];obtain⟨us2,hs2,_⟩:=(HT1.o.next (ai (A:=.cells #[PO t.k,PP t.a,PP t.b,PP t.d,PP t.z,PQ t.pl,PQ t.c] 88))).tk.sum;exact⟨HT1.o.next ai,dr HT1.o.tk.frm.size t,(Ot HT1.o.res _ rfl).2,hs2.rws.total⟩
   rw[<-hwq];clear hwq HBX y0 y1 y2 y3 y4 y5 y6 z0 z1 z2 z3 z4 z5 z6;have HLT2:=HQ.o.2.2.1;have HTA:Po (Calls prog 157 #[PL sb,PO t.k] wq λe w'=>e=.returned (PQ (dA t.k ag%p))/\dw B L wq w' sb ob rv (tk t.k ag)):=by obtain⟨us2,hs2,hl2⟩:=HQ.o.1.tk.sum;exact Og B L sb ob p k0 k1 k2 t.k sv rv us2 ag wq hs2 hl2 (HOB.o.frm HQ.o.1.tk.frm HAP.o) hp (by rw[HQ.o.1.len];exact hn) λr hr t ht=>by have:=HQ.o.1.co r hr t ht;omega
   obtain⟨b0,b1,b2,b3,b4,b5,b6⟩:=HQ.o.2.1.at;simp only[ON] at b0 b1 b2 b3 b4 b5 b6;have hmem:=(D9 HQ.o.1.dn HGR.o).1;have HMEM:=ae hmem;obtain⟨t2,ht2⟩:∃t2:Ft,t2={t with c:=dA t.k ag%p}:=⟨_,rfl⟩;have HT2:=ae ht2;have hcd:dA t.k ag%p=t2.c:=by rw[ht2]
   have HCD:=ae hcd;have HEN:Po ((aB t).set 6 (PQ t2.c)=aB t2):=by show _=_;rw[ht2];rfl
   rw[hcd] at HTA;clear hmem hcd ht2;have STEP:Po (∀w3,dw B L wq w3 sb ob rv (tk t.k ag)->dw B L w w3 sb ob rv (tk t.k ag)/\Bx w.heap.size w3 w1.heap.size t/\Bx w.heap.size w3 w.heap.size ⟨0,0,0,0,0,0,0⟩):=λw3 h3=>⟨HQ.o.1.tk.trans h3,pz HQ.o.2.1 h3.frm (λe=>by have:=HRL.o _ e;omega),pz HQ.o.1.res h3.frm (λe=>by have:=HRL.o _ e;omega)⟩
   go_upto_region 5 with (go_at_call 157;refine HTA.o.mono ?_;rintro e w3 ⟨rfl,h3⟩;have H3:=ae (STEP.o w3 h3);clear h3;have d6:=(H3.o.2.1.at).2.2.2.2.2.2;have f6:=Oo H3.o.2.1 6;simp only[ON] at d6);have s6:=OF H3.o.2.1 6 (PQ t2.c);obtain⟨w4,hw4⟩:∃w4,w4=w3.setCell (PN w1.heap.size 6) (PQ t2.c):=⟨_,rfl⟩;have H4:Po (dw B L w w4 sb ob rv (tk t.k ag)/\Bx w.heap.size w4 w1.heap.size t2/\Bx w.heap.size w4 w.heap.size ⟨0,0,0,0,0,0,0⟩):=by show _/\_/\_;rw[hw4];exact⟨H3.o.1.far s6.2 (by omega) (by omega) HSL.o HRL.o,by have:=s6.1;rw[HEN.o] at this;exact this,World.ownsRow.kept H3.o.2.2 s6.2 (Pg (by simp[Value.ownBlock];omega))⟩
   rw[<-hw4];clear hw4 s6 d6 f6;obtain⟨e0,e1,e2,e3,e4,e5,e6⟩:=H4.o.2.1.at;simp only[ON] at e0 e1 e2 e3 e4 e5 e6;by_cases hz:t2.c=0
   .have HZ:=ae hz;go_wp2;go_roundw;case rel=>
     refine⟨rfl,tk t.k ag,H4.o.1,H4.o.2.2,λr rows2 h=>HQ.o.1.go _ _ (Nx.go ag rows2 t r HGR.o (HCD.o.trans HZ.o) h),λr hr x hx=>?_,λr hr=>?_,?_⟩
     .obtain⟨r0,h0,rfl⟩:=OR.1 hr;exact HQ.o.1.co r0 h0 x (xM _ r0 x hx)
     .obtain⟨r0,h0,rfl⟩:=OR.1 hr;exact wy (HQ.o.1.dn r0 h0)
     .have:=HQ.o.1.len;simp[tk,this]
    case measure=>obtain⟨us4,hs4,_⟩:=H4.o.1.sum;have h4:=hs4.rws.total;obtain⟨ts,hm⟩:=HMEM.o;have h5:=Eb hm;have h6:=HTOT.o;omega
   .have HZ:=ae hz;go_upto_region 6 with fail;obtain⟨v0,v1,v2,v3,v4,v5,v6⟩:=H4.o.2.2.at;have r0:=Oo H4.o.2.2 0;have r1:=Oo H4.o.2.2 1;have r2:=Oo H4.o.2.2 2;have r3:=Oo H4.o.2.2 3;have r4:=Oo H4.o.2.2 4;have r5:=Oo H4.o.2.2 5;have r6:=Oo H4.o.2.2 6;simp only[ON] at v0 v1 v2 v3 v4 v5 v6;have HP:=ae (H4.o.2.2.put t2);have hpat:=HP.o.1.at;have HPT:=ae (H4.o.1.far HP.o.2 hL (Ou _) HSL.o HRL.o);unfold eB at hpat HPT;obtain⟨s0,s1,s2,s3,s4,s5,s6⟩:=hpat;simp only[ON] at s0 s1 s2 s3 s4 s5 s6;have HNX:=ae (HQ.o.1.go _ _ (Nx.hit ag t HGR.o (by rw[HCD.o];exact HZ.o)));rw[<-HT2.o] at HNX;go_wp2;refine OC (v:=.tuple #[aX (bQ (some t2)),.bool true]) (by simp[results,Tryz.results121,go_sem,s0,s1,s2,s3,s4,s5,s6,aX,bQ]) rfl ⟨some t2,rfl,_,HNX.o,HPT.o⟩
theorem kX{bt:Ft}(h0:0<N)(h3:N<=3):bt.a*am o N N 0+bt.b*am o N N 1+bt.d*am o N N 2=bC o (aD N bt):=by
 have hN:N=1\/N=2\/N=3:=by omega
 rcases hN with rfl|rfl|rfl<;>simp[aD,bC,am,kN]
end Go.Proofs.YtjkalahhpobefaaGreat
