/- The module of a list. -/
import Derived.Test.YtjkalahhpobefaaGreatSX
set_option maxHeartbeats 8000000
set_option maxRecDepth 100000
namespace Go.Proofs.YtjkalahhpobefaaGreat
set_option linter.all false
open Go.Proofs.Tryz Go.RowKit Go.Sort
structure iT(p o v:Int)(N R:Nat)(lv:PK)(lss:PA)(w:PJ)(md mb ob:Nat)(sv:PK)(ms:PD)(rows:PC):Prop where
 c0:w.cell? (PN md 0)=some (PO p)
 c1:w.cell? (PN md 1)=some (PO N)
 c2:w.cell? (PN md 2)=some (PO o)
 c3:w.cell? (PN md 3)=some (PO v)
 c4:w.cell? (PN md 4)=some (PO R)
 c5:w.cell? (PN md 5)=some lv
 c6:w.cell? (PN md 6)=some (PL mb)
 m0:w.cell? (PN mb 0)=some (PL ob)
 mrw:j6 p w mb (R+lss.length) ms
 ord:aQ w ob p (am 1 N N 0) (am 1 N N 1) (am 1 N N 2) sv
 sl:Sl w sv (dE R lss.length)
 tr:jG N R lss rows
 mss:jQ p (rows.map aK) N R lss.length ms
 gone:∀x∈ms,x.gone=false
 top:mK p R (rows.map aK) (ms.map jf)
 len:ms.length<=2100000
 rw2:∃g,w.cell? (PN mb 2)=some (PM g (R+lss.length) (R+lss.length))/\∀pl,pl<R+lss.length->∃u,w.cell? (PN g pl)=some u/\mC w u (a8 ms pl)
variable{ms:PD}{md mb ob N R:Nat}{w w':PJ}{lv:PK}{p o v:Int}
theorem iT.below{lss:PA}{sv:PK}{rows:PC}(h:iT p o v N R lv lss w md mb ob sv ms rows)(hb:Io w w'):iT p o v N R lv lss w' md mb ob sv ms rows:=
 ⟨af h.c0 hb,af h.c1 hb,af h.c2 hb,af h.c3 hb,af h.c4 hb,af h.c5 hb,af h.c6 hb,af h.m0 hb,h.mrw.below hb,h.ord.below hb,h.sl.below hb,h.tr,h.mss,h.gone,h.top,h.len,by
  obtain⟨g,h1,h2⟩:=h.rw2;exact⟨g,af h1 hb,λpl hp=>by
   obtain⟨u,h3,h4⟩:=h2 pl hp;exact⟨u,af h3 hb,h4.below hb⟩⟩⟩
structure jH(p o v:Int)(N R:Nat)(lv:PK)(w:PJ)(md mb:Nat):Prop where
 c0:w.cell? (PN md 0)=some (PO p)
 c1:w.cell? (PN md 1)=some (PO N)
 c2:w.cell? (PN md 2)=some (PO o)
 c3:w.cell? (PN md 3)=some (PO v)
 c4:w.cell? (PN md 4)=some (PO R)
 c5:w.cell? (PN md 5)=some lv
 c6:w.cell? (PN md 6)=some (PL mb)
 ty:¬cq w 75 md
theorem mN{b j:Nat}{u:PK}(h:w'.heap[b]?=w.heap[b]?)(hc:w.cell? (PN b j)=some u):w'.cell? (PN b j)=some u:=by rw[<-hc];simp only[World.cell?];rw[h]
theorem jH.put(h:jH p o v N R lv w md mb)(hb:w'.heap[md]?=w.heap[md]?):jH p o v N R lv w' md mb:=
 ⟨mN hb h.c0,mN hb h.c1,mN hb h.c2,mN hb h.c3,mN hb h.c4,mN hb h.c5,mN hb h.c6,λhn=>h.ty λag e=>hn ag (hb.trans e)⟩
theorem jH.lt(h:jH p o v N R lv w md mb):md<w.heap.size:=OG w _ h.c0
theorem jH.below(h:jH p o v N R lv w md mb)(hb:Io w w'):jH p o v N R lv w' md mb:=h.put (hb.block md h.lt)
theorem MF(p o v:Int)(N R mb:Nat)(lv:PK)(w:PJ):jH p o v N R lv (w.alloc (.cells #[PO p,PO N,PO o,PO v,PO R,lv,PL mb] 75)) w.heap.size mb:=by refine⟨by simp[go_sem],by simp[go_sem],by simp[go_sem],by simp[go_sem],by simp[go_sem],by simp[go_sem],by simp[go_sem],λhn=>hn _ (heap_alloc_new w _)⟩
theorem bh.rw2{B:Nat}{g:Nat}{dv pv:PK}{us:PH}{qs:PF}(h:bh p B w mb ob R g dv pv us ms qs):∃g,w.cell? (PN mb 2)=some (PM g R R)/\∀pl,pl<R->∃u,w.cell? (PN g pl)=some u/\mC w u (a8 ms pl):=by obtain⟨_,_,c2,_,_⟩:=h.cells;exact⟨g,c2,λpl hp=>⟨_,(h.mks.at pl hp).1,h.mks.pts pl hp⟩⟩
structure Ds(p o v:Int)(N R n:Nat)(lv:PK)(B Bv:Nat)(w3 wr:PJ)(md mb ob g:Nat)(dv:PK)(us:PH)(ms:PD)(rv:PK)(rus:PH)(pt done:PC):Prop where
 mkw:bh p B wr mb ob (R+n) g dv (.slice none 0 0) us ms []
 box:jH p o v N R lv wr md mb
 rows:aM Bv wr rv rus pt
 below:Io w3 wr
 eq:ms.map jf=done
 gone:∀x∈ms,x.gone=false
theorem Dt(p o v:Int)(N R:Nat)(lv:PK)(lss:PA)(w:PJ)(hc:gD p o N R lss)(hl:fQ w lv lss):Calls prog 20 #[aI p N o v,PO R,lv] w λe w'=>∃md mb ob sv ms rows,e=.returned (PL md)/\iT p o v N R lv lss w' md mb ob sv ms rows/\Io w w':=by
 have hx:=hc.hx;have hp:=dY hx.pr;have hR3:=hx.hw;have hn4:=hx.hn;have hmk:∀W:PJ,(Instr.makeSlice 45 (PO ((R:Int)+(lss.length:Int))) (PO ((R:Int)+(lss.length:Int)))).run prog W=.ok (PM W.heap.size (R+lss.length) (R+lss.length)) (W.alloc (.cells (madeCells #[PO 0] (R+lss.length)) 3)):=λW=>by have h:=run_make_row' (P:=prog) 45 3 (PO 0) 8 underlying45 Tryz.infoIntB rfl .i64 .i64 (R+lss.length) (by omega) (by omega) W;rw[Int.natCast_add] at h;exact h
 have hwr:IntKind.i64.wrap ((R:Int)+(lss.length:Int))=(R:Int)+(lss.length:Int):=by rw[IntKind.wrap_i64];omega
 obtain⟨w1,hw1⟩:∃w1,w1=w.alloc (.cells #[PO p,PO N,PO o,PO v] 23):=⟨_,rfl⟩;have HB1:Po (Io w w1):=by rw[hw1];exact ai
 have K4:Po (w1.cell? (PN w.heap.size 0)=some (PO p)/\w1.cell? (PN w.heap.size 1)=some (PO N)/\w1.cell? (PN w.heap.size 2)=some (PO o)/\w1.cell? (PN w.heap.size 3)=some (PO v)):=by show _/\_;rw[hw1];simp[go_sem]
 obtain⟨w2,hw2⟩:∃w2,w2=w1.alloc (.cells #[PO p,PO N,PO 1,PO 1] 23):=⟨_,rfl⟩;have HB2:Po (Io w1 w2):=by rw[hw2];exact ai
 have L4:Po (w2.cell? (PN w1.heap.size 0)=some (PO p)/\w2.cell? (PN w1.heap.size 1)=some (PO N)/\w2.cell? (PN w1.heap.size 2)=some (PO 1)/\w2.cell? (PN w1.heap.size 3)=some (PO 1)):=by show _/\_;rw[hw2];simp[go_sem]
 have HSET:((w1.alloc (.cells #[PO p,PO N,PO o,PO v] 23)).setCell (PN w1.heap.size 2) (PO 1)).setCell (PN w1.heap.size 3) (PO 1)=w2:=by rw[hw2];simp[go_sem]
 obtain⟨c0,c1,c2,c3⟩:=K4.o;have HC:=ae hc;have HO:=ae (rC p 1 1 N R lss.length w2 hp (Pf rfl) (Pf rfl) hx.n3 (by omega) (by omega));have HB02:Po (Io w w2):=In HB1.o HB2.o;have HTB:Po (∀W ob sv,Io w W->aQ W ob p (am 1 N N 0) (am 1 N N 1) (am 1 N N 2) sv->Sl W sv (dE R lss.length)->Calls prog 42 #[PL ob,aI p N 1 1,PO R,lv] W λe w'=>∃v us rows rows',e=.returned v/\aM W.heap.size w' v us (gW R rows')/\Io W w'/\p7 p N R lss rows rows'):=λW ob sv hb h1 h2=>LQ p o N R ob sv lv lss W HC.o (hl.below hb) h1 h2;have HNM:=ae (fun(ob b:Nat)(W:PJ)=>wC p ob (R+lss.length) b 0 (R+lss.length) W (by omega));obtain⟨la,lc,rfl,_⟩:=hl.wl;unfold aI at HO HTB⊢;have HHX:=ae hx;clear hl hc hx;go_enter func20,ntmps20;go_upto_region 1 with fail;rw[<-hw1];clear hw1;go_upto_region 3 with fail;first|rw[HSET]|rw[<-hw2]
 clear hw2 HSET c0 c1 c2 c3;obtain⟨c0,c1,c2,c3⟩:=L4.o;go_upto_region 4 with (go_at_call 40;refine HO.o.mono ?_;rintro e w3 ⟨ob,sv,rfl,q1,q2,q3⟩;have HOB3:=ae q1;have HSL3:=ae q2;have HB23:=ae q3;have HB3:=ae (In HB02.o q3);clear q1 q2 q3);clear c0 c1 c2 c3;have KEEP:Po (∀W,Io w3 W->(W.cell? (PN w.heap.size 0)=some (PO p)/\W.cell? (PN w.heap.size 1)=some (PO N)/\W.cell? (PN w.heap.size 2)=some (PO o)/\W.cell? (PN w.heap.size 3)=some (PO v))):=λW hb=>by obtain⟨f0,f1,f2,f3⟩:=K4.o;have h:=In HB2.o (In HB23.o hb);exact⟨af f0 h,af f1 h,af f2 h,af f3 h⟩
 have HNM3:Po (∀b W,Io w3 W->Calls prog 41 #[PL ob,PM b (R+lss.length) (R+lss.length)] W λe w'=>∃B mb g us,e=.returned (PL mb)/\bh p B w' mb ob (R+lss.length) g (PM b (R+lss.length) (R+lss.length)) (.slice none 0 0) us [] []/\w3.heap.size<=B/\B<=w'.heap.size/\Io w3 w'):=λb W hb=>by refine(HNM.o ob b W).mono ?_;rintro e w' ⟨mb,g,us,rfl,q1,q2⟩;exact⟨W.heap.size,mb,g,us,rfl,q1,hb.size,q2.size,In hb q2⟩
 have HB0:Po (Io w3 w3.drew):=(Ov _ _).drew;clear HNM HO;go_cut [9] from 20 to 31 (λs9 wx=>∃md mb g B us dv,s9=PL md/\bh p B wx mb ob (R+lss.length) g dv (.slice none 0 0) us [] []/\jH p o v N R (.slice la lss.length lc) wx md mb/\w3.heap.size<=B/\B<=wx.heap.size/\Io w3 wx)
 case first=>
  clear HOB3 HSL3 HTB HC L4 K4;go_region_held (λW=>W.cell? (PN w.heap.size 0)=some (PO p)/\W.cell? (PN w.heap.size 1)=some (PO N)/\W.cell? (PN w.heap.size 2)=some (PO o)/\W.cell? (PN w.heap.size 3)=some (PO v))
   (first|with_reducible exact KEEP.o _ HB0.o|with_reducible exact KEEP.o _ HB4.o|(refine KEEP.o _ ?_;(repeat (first|with_reducible exact HB4.o|with_reducible exact Ov _ _|with_reducible refine oy ?_|with_reducible refine fY ?_));done))
   (first|(go_at_call 41;refine(HNM3.o _ _ ?_).mono ?_;(focus ((repeat (first|with_reducible exact Ov _ _|with_reducible refine oy ?_|with_reducible refine fY ?_));done));rintro e w4 ⟨B,mb,g,us,rfl,q1,q2,q3,q4⟩;have HM4:=ae q1;have HBB:=ae (Ow q2 q3);have HB4:=ae q4;clear q1 q2 q3 q4))
  all_goals
   go_wp2_with fail;go_meet;case rel=>exact⟨_,mb,g,B,us,_,rfl,HM4.o.next ai,MF p o v N R mb _ w4,HBB.o.1,OA HBB.o.2 (by simp),fY HB4.o⟩
 case rest=>
  obtain⟨md,mb,g,B,us0,dv,rfl,q1,q2,q3,q4,q5⟩:=hcut;rename PJ=>w5;have HM5:=ae q1;have HD5:=ae q2;have HBB:=ae (Ow q3 q4);have HB5:=ae q5;have HB05:Po (Io w w5):=In HB3.o q5;have HOB5:=ae (HOB3.o.below q5);have HSL5:=ae (HSL3.o.below q5);clear q1 q2 q3 q4 q5 HNM3 HB0 KEEP hmk;have h25:=In HB23.o HB5.o;obtain⟨f0,f1,f2,f3⟩:=L4.o;have c0:=af f0 h25;have c1:=af f1 h25;have c2:=af f2 h25;have c3:=af f3 h25;clear f0 f1 f2 f3 h25;have HT5:=ae (HTB.o w5 ob sv HB05.o HOB5.o HSL5.o);clear HTB;go_wp2_with (go_at_call 42;refine HT5.o.mono ?_;rintro e w6 ⟨v6,us6,rows,rows',rfl,q1,q2,q3⟩;obtain⟨a6,c6,hv6⟩:=cl q1.own;subst hv6;have HR6:=ae q1;have HB6:=ae q2;have HBS:=ae q3;clear q1 q2 q3);have HM6:=ae (HM5.o.next HB6.o);have HD6:=ae (HD5.o.below HB6.o);have HB36:Po (Io w3 w6):=In HB5.o HB6.o;have HBB6:Po (w3.heap.size<=B/\B<=w6.heap.size):=⟨HBB.o.1,OA HBB.o.2 HB6.o.size⟩;have HOK:Po (∀f∈gW R rows',∃L r,f=L::r/\dX p N R lss.length L r/\bp p (rows.map aK) λφ=>aq φ (L::r)):=λf hf=>HBS.o.ok f (xg.1 hf);have HPL:Po ((gW R rows').length<=2100000):=by have:=HBS.o.len;have:=xh R rows';show _<=_;omega
  have HTOP:Po (mK p R (rows.map aK) (gW R rows')):=λY h1 t h2 h3 h4 h5=>by obtain⟨L,r,h6,h7⟩:=HBS.o.top Y h1 t h2 h3 h4 h5;exact⟨L,r,xg.2 h6,h7⟩
  have HTR:=ae HBS.o.tr;generalize gW R rows'=pt at HR6 HOK HPL HTOP⊢;clear HBS HT5 HM5 HD5 HBB HOB5 HSL5 c0 c1 c2 c3 HB5;go_loopw [38] (λs38 wr=>∃(m:Nat)(us:PH)(ms:PD),m<=pt.length/\s38=PO m/\Ds p o v N R lss.length (.slice la lss.length lc) B w5.heap.size w3 wr md mb ob g dv us ms (.slice a6 pt.length c6) us6 pt (pt.take m)) (λs38 _=>pt.length-(intOf s38).toNat);case atStart=>exact⟨0,us0,[],OB _,rfl,⟨HM6.o,HD6.o,HR6.o,HB36.o,rfl,λx hx=>by simp at hx⟩⟩
  case round=>
   rename PJ=>wr;obtain⟨m,us,ms,hm,rfl,hnm⟩:=hrel;have HNW:=ae hnm;clear hnm;by_cases hm2:m<pt.length
   .have hmI:(m:Int)<(pt.length:Int):=by omega
    obtain⟨gb,gcc,hgs,_,_,hgc,_⟩:=HNW.o.rows.at m hm2;simp only[OQ,true_and] at hgs;obtain⟨rfl,rfl⟩:=hgs;have hfu:=HNW.o.rows.fvs m hm2;have HTK:Po (pt.take (m+1)=pt.take m++[pt.getD m []]):=sI pt m hm2;obtain⟨L,r,hLr,hmb,haf⟩:=HOK.o (pt.getD m []) (by rw[OH,OI hm2];exact OE hm2);rw[hLr] at hfu HTK;generalize us6.getD m aL=uu at hfu hgc;have hml:ms.length=m:=by have h:=congrArg List.length HNW.o.eq;rw[OS,O7] at h;omega
    have hpl:=HPL.o;have hgl:=hmb.vc.gd L (by simp);have hBw:B<=wr.heap.size:=by have h:=HNW.o.mkw.box;have h2:=Ot h mb rfl;omega
    have HNB:=ae (rG B mb ob p _ _ _ sv uu L r wr hBw HNW.o.mkw.cells.1 (HOB3.o.below HNW.o.below) HHX.o.pr (hmb.vc.co L (by simp)) hfu);have HPU:Po (∀(W:PJ)(blk:Nat)(rv:PK),b9 p B W ⟨blk,L,rv,r,false⟩->wr.heap.size<=blk->Io wr W->Calls prog 43 #[PL mb,PL blk] W λe w'=>e=.returned (.tuple #[])/\∃us' f,Ds p o v N R lss.length (.slice la lss.length lc) B w5.heap.size w3 w' md mb ob g dv us' (ms++[f]) (PM gb pt.length c6) us6 pt (pt.take m++[L::r])):=λW blk rv h1 h2 hb=>by
     refine(AL p B W mb ob (R+lss.length) g dv _ us ms [] ⟨blk,L,rv,r,false⟩ (HNW.o.mkw.next hb) h1 (λx hx e=>by have:=(HNW.o.mkw.mks.mem x hx).lt.2;simp only at e;omega) (OA hBw hb.size) ⟨hgl.pl0,by have:=hgl.pl;simp only;omega⟩ (by omega) (by omega)).mono ?_;rintro e w' ⟨rfl,us',q1,q2,q3,q4,q5⟩;refine⟨rfl,us',⟨blk,L,rv,r,false⟩,q1,?_,(HNW.o.rows.next hb).put8 q3 q4,(In HNW.o.below hb).trans (q2.mono HBB6.o.1),?_,λx hx=>?_⟩
     .exact(HNW.o.box.below hb).put (q5 75 (by decide) (by decide) md (HNW.o.box.below hb).lt (HNW.o.box.below hb).ty)
     .rw[O0,HNW.o.eq];rfl
     .rcases OK.1 hx with hx|hx
      .exact HNW.o.gone x hx
      .rw[OL] at hx;subst hx;rfl
    have HS7:Po (∀W,Io wr W->W.cell? (PN md 6)=some (PL mb)):=λW hb=>af HNW.o.box.c6 hb;have HD0:Po (Io wr wr.drew):=(Ov _ _).drew;have HNBD:Po (∀W,Io wr W->Calls prog 44 #[PL mb,uu] W λe w'=>∃blk rv,e=.returned (PL blk)/\Po (b9 p B w' ⟨blk,L,rv,r,false⟩/\wr.heap.size<=blk)/\Io wr w'):=λW hb=>by refine(rG B mb ob p _ _ _ sv uu L r W (OA hBw hb.size) (HNW.o.mkw.next hb).cells.1 (HOB3.o.below (In HNW.o.below hb)) HHX.o.pr (hmb.vc.co L (by simp)) (hfu.below hb)).mono ?_;rintro e w' ⟨blk,rv,rfl,q1,q2,q3⟩;exact⟨blk,rv,rfl,⟨q1,OA hb.size q2⟩,In hb q3⟩
    obtain⟨ua,uc,hu,_⟩:=id hfu;subst hu;clear hmb haf hfu hLr hgl HNB;go_upto_region 8 with fail;go_region_held (λW=>W.cell? (PN md 6)=some (PL mb))
     (first|with_reducible exact HS7.o _ HD0.o|with_reducible exact HS7.o _ HB7.o|with_reducible exact HN8.o.box.c6)
     (first|(go_at_call 44;refine(HNBD.o _ HD0.o).mono ?_;rintro e w7 ⟨blk,rv7,rfl,HM7,q2⟩;have HB7:=ae q2;have HPU7:=ae (HPU.o w7 blk rv7 HM7.o.1 HM7.o.2 q2);clear q2)|(go_at_call 43;refine HPU7.o.mono ?_;rintro e w8 ⟨rfl,us8,f8,q1⟩;have HN8:=ae q1;clear q1))
    all_goals
     go_wp2_with fail;go_roundw;case rel=>exact⟨m+1,us8,ms++[f8],by omega,by go_num,by rw[HTK.o];exact HN8.o⟩
     case measure=>simp[intOf];omega
   .have e:m=pt.length:=by omega
    subst e;go_wp2;go_ret;have heq:=HNW.o.eq;rw[List.take_length] at heq;refine⟨md,mb,ob,sv,ms,rows,rfl,⟨HNW.o.box.c0,HNW.o.box.c1,HNW.o.box.c2,HNW.o.box.c3,HNW.o.box.c4,HNW.o.box.c5,HNW.o.box.c6,HNW.o.mkw.cells.1,HNW.o.mkw.mrw,HOB3.o.below HNW.o.below,HSL3.o.below HNW.o.below,HTR.o,λx hx=>?_,HNW.o.gone,by rw[heq];exact HTOP.o,?_,HNW.o.mkw.rw2⟩,In HB3.o HNW.o.below⟩
    .obtain⟨L,r,e,h1,h2⟩:=HOK.o (jf x) (by rw[<-heq];exact List.mem_map_of_mem hx);unfold jf at e;simp only[List.cons.injEq] at e;obtain⟨rfl,rfl⟩:=e;exact⟨h1,h2⟩
    .have h:=congrArg List.length heq;rw[OS] at h;have:=HPL.o;omega
end Go.Proofs.YtjkalahhpobefaaGreat
namespace Go.Proofs.YtjkalahhpobefaaGreat
set_option linter.all false
open Go.Proofs.Tryz Go.RowKit
variable{ob:Nat}{w:PJ}
theorem aT.lowS{B B':Nat}{sb:Nat}{rv:PK}{us:PH}{rows:PC}(h:aT B w sb ob rv us rows)(hb:B'<=B):aT B' w sb ob rv us rows:=⟨wP h.box hb,h.kind,h.rws.low hb⟩
structure tn(p o:Int)(N R:Nat)(g:Lt):Prop where
 len:g.length=R
 vok:kf p o N (λ_=>3) g
 tms:∀f∈g,f.length<=2000/\∀t∈f,t.2.length=N/\(∀e∈t.2,0<=e/\e<=400)/\0<=t.1/\t.1<=255
theorem xD:kW 3 4804:=⟨by omega,by omega,Pg (by omega)⟩
def qb:Int:=1000000000000000000
def qd(N wd n:Nat)(u:Ft):Prop:=bk N wd n 3 4804 u/\u.k<qb
def mO(p:Int)(rs:PC)(N R n:Nat)(ms:PD)(cn:Ft->Bool)(fs acc:PB):Prop:=
 (∃rows rows2,LA p (rs.map aK) N R n 3 4804 (λφ=>aq φ fs) qb acc none rows/\(∀t∈acc,cn t=true)/\Nx p rows none rows2)\/∃t rows acc0,LA p (rs.map aK) N R n 3 4804 (λφ=>aq φ fs) qb acc0 (some t) rows/\(∀t∈acc0,cn t=true)/\eP ms t=none/\cn t=false/\acc=acc0++[t]
theorem MP(p:Int)(N wd n:Nat)(hx:ch p N wd n)(fs:PB)(hv:cM p N wd n 3 4804 fs)(ob vb:Nat)(sv tv:PK)(W:PJ)(hob:aQ W ob p (am 1 N N 0) (am 1 N N 1) (am 1 N N 2) sv)(hc:W.cell? (PN vb 0)=some tv)(hf:Fv W tv fs):Calls prog 85 #[PL ob,PM vb 1 1] W λe w'=>∃rv us rows,e=.returned (PL W.heap.size)/\cN p (qd N wd n) W.heap.size w' W.heap.size ob rv us rows (λk=>ao k fs)/\Io W w':=by
 refine(uS ob vb 0 1 p _ _ _ (qd N wd n) sv tv fs W hob (dY hx.pr) hc hf ⟨λx hx=>?_,λx hx u hu=>?_,λx hx2 u hu=>?_⟩ (λx t ha hg=>⟨bk.alk x t ha hg.1,by rw[ha.1];exact hg.2⟩) λf hd hg=>jR hx (by omega) (by omega) f hd λt ht=>(hg t ht).1).mono ?_
 .rw[OL] at hx;subst hx;exact hv.dn
 .rw[OL] at hx;subst hx;exact hv.co u hu
 .rw[OL] at hx2;subst hx2;have:=(hv.gd u hu).kb hx (by omega) (by omega);exact⟨hv.gd u hu,by unfold qb;omega⟩
 .rintro e w' ⟨rfl,rv,us,rows,q1,q2⟩;exact⟨rv,us,rows,rfl,q1,q2⟩
theorem MQ(cf:FuncId)(bs:Array PK)(hcf:∀args W,(callFunc cf args).run prog W=.ok (.enter cf args) W)(p o v:Int)(N R:Nat)(lv:PK)(lss:PA)(n0:Nat)(w0:PJ)(hsz:w0.heap.size=n0)(md mb ob:Nat)(sv:PK)(ms:PD)(rs:PC)(hmd:iT p o v N R lv lss w0 md mb ob sv ms rs)(hx:ch p N R lss.length)(cn:Ft->Bool)(X:Nat->Prop)(E:PJ->PB->Prop)(fs:PB)(hv:cM p N R lss.length 3 4804 fs)(hen:∀sb,lw n0 sb ob X E)(hL:∀(sb:Nat)(W:PJ)(acc:PB)(t:Ft)(tb:Nat),E W acc->n0<=W.heap.size->cu W tb 0 t->0<t.c->0<=t.pl->t.pl<=255->acc.length<=1200000000000->(∀u∈acc,cn u=true)->Calls prog cf (#[aX t]++bs) W λe w'=>e=.returned (.bool (cn t))/\E w' (acc++[t])/\Below n0 W w'/\cu w' tb 0 t/\∀rw us rows,aT n0 W sb ob rw us rows->(∀k,X k->rw.ownBlock≠some k/\k≠sb)->(∀r∈rows,∀u∈r,0<u.c)->aT n0 w' sb ob rw us rows)(sb:Nat)(rv:PK)(us:PH)(rows:PC)(w:PJ)(hb:Below n0 w0 w)(hs:cN p (qd N R lss.length) n0 w sb ob rv us rows (λk=>ao k fs))(hxx:∀k,X k->rv.ownBlock≠some k/\k≠sb)(hX:∀k,X k->k<w.heap.size)(hE:E w []):Calls prog 87 #[PL sb,.func (.func 88) #[PL mb] #[],.func (.func 89) #[PL mb] #[],.func (.func cf) #[] bs] w λe w'=>e=.returned (.tuple #[])/\Below n0 w0 w'/\∃acc,E w' acc/\mO p rs N R lss.length ms cn fs acc:=by
 refine(BA cf bs hcf p _ _ _ (R+lss.length) (bk N R lss.length 3 4804) ms _ _ (λ_ t=>cn t) X E n0 w0 ob mb sb sv rv us rows [] w (zR hx hmd.mss hmd.len xD) (MD hx hmd.mss xD (X:=λφ=>aq φ fs) (K:=qb) cn) (hen sb) (λW acc t tb h1 h2 h3 h4 h5=>?_) hmd.mrw hmd.ord hsz hb (by have:=hb.size;omega) hs.sum hxx hX ⟨hs.ok.dn,hs.ok.co,λf hf u hu=>(hs.ok.gd f hf u hu).1⟩ hs.len hE ⟨zS hx (by omega) (by omega) hv hs.ok hs.cn,λt ht=>by simp at ht⟩ (λf hf u hu=>(hs.ok.gd f hf u hu).2)).mono ?_
 .obtain⟨rows,h5,h6⟩:=h5;have g:=(h5.tr t rfl).1;have h7:=(g.bd hx (by omega) (by omega)).2;exact hL sb W acc t tb h1 h2 h3 h4 g.pl0 (by omega) (uD hx xD h5) h6
 .rintro e w' ⟨rfl,q1,q2,acc,q3,q4⟩;refine⟨rfl,q1,acc,q3,?_⟩;rcases q4 with ⟨rows,rows2,⟨hj,hj2⟩,h2,h3⟩|⟨t,rows,acc0,g1,g2,g3,g4,g5,⟨g6,g6'⟩,g7,g8,g9⟩
  .exact Pf ⟨rows,rows2,hj,hj2,h3⟩
  .exact Pg ⟨t,rows,acc0,g6,g6',g7,g8,g9⟩
theorem DH(cf:FuncId)(bs:Array PK)(hcf:∀args W,(callFunc cf args).run prog W=.ok (.enter cf args) W)(p o v:Int)(N R:Nat)(lv:PK)(lss:PA)(n0:Nat)(w0:PJ)(hsz:w0.heap.size=n0)(md mb ob:Nat)(sv:PK)(ms:PD)(rs:PC)(hmd:iT p o v N R lv lss w0 md mb ob sv ms rs)(hx:ch p N R lss.length)(cn:Ft->Bool)(X:Nat->Prop)(E:PJ->PB->Prop)(hen:∀sb,lw n0 sb ob X E)(hL:∀(sb:Nat)(W:PJ)(acc:PB)(t:Ft)(tb:Nat),E W acc->n0<=W.heap.size->cu W tb 0 t->0<t.c->0<=t.pl->t.pl<=255->acc.length<=1200000000000->(∀u∈acc,cn u=true)->Calls prog cf (#[aX t]++bs) W λe w'=>e=.returned (.bool (cn t))/\E w' (acc++[t])/\Below n0 W w'/\cu w' tb 0 t/\∀rw us rows,aT n0 W sb ob rw us rows->(∀k,X k->rw.ownBlock≠some k/\k≠sb)->(∀r∈rows,∀u∈r,0<u.c)->aT n0 w' sb ob rw us rows)(gv:PK)(g:Lt)(w:PJ)(hb:Below n0 w0 w)(hX:∀k,X k->k<w.heap.size)(hE:E w [])(hg:Vl w gv g)(hd:tn p o N R g):Calls prog 45 #[PL md,gv,.func (.func cf) #[] bs] w λe w'=>e=.returned (.tuple #[])/\Below n0 w0 w'/\∃fs acc,fs.Perm (dG 1 1 N g R)/\E w' acc/\mO p rs N R lss.length ms cn fs acc:=by
 have hR3:=hx.hw;have hn0:n0<=w.heap.size:=by have:=hb.size;omega
 have HMD:Po (∀W,Io w W->iT p o v N R lv lss W md mb ob sv ms rs):=λW h=>(hmd.below (by cases hsz;exact hb)).below h;have HVE:Po (∀W,Io w W->Calls prog 86 #[PL ob,PO 0,gv] W λe w'=>∃(ua:Option Addr)(uc:Nat)(fs:PB),e=.returned (.slice ua fs.length uc)/\Fv w' (.slice ua fs.length uc) fs/\Po (fs.Perm (dG 1 1 N g R)/\cM p N R lss.length 3 4804 fs)/\Io w w'):=λW h=>by
  have hm:=HMD.o W h;refine(CY ob p _ _ _ sv gv (dE R lss.length) g N W hm.ord hm.sl (by rw[wX,hd.len];omega) (by rw[hd.len];omega) (wY hR3 hx.hn) (dZ 1 N 0) (dZ 1 N 1) (dZ 1 N 2) hx.n0 hx.n3 (λf hf=>⟨(hd.tms f hf).1,λt ht=>?_⟩) (hg.below h)).mono ?_
  .have h2:=(hd.tms f hf).2 t ht;exact⟨h2.1,λx hx=>by have:=h2.2.1 x hx;omega,h2.2.2⟩
  .rintro e w' ⟨u,fs,rfl,q1,q2,q3,q4,q5⟩;obtain⟨ua,uc,hu⟩:=cE q5;subst hu;rw[hd.len,oB R (Ou _)] at q2;exact⟨ua,uc,fs,rfl,q1,⟨q2,(pY (by omega) hx hd.vok q2 q3).1⟩,In h q4⟩
 have HNS:Po (∀W vb fs tv,Io w W->cM p N R lss.length 3 4804 fs->W.cell? (PN vb 0)=some tv->Fv W tv fs->Calls prog 85 #[PL ob,PM vb 1 1] W λe w'=>∃sb rv us rows,e=.returned (PL sb)/\Po (cN p (qd N R lss.length) n0 w' sb ob rv us rows (λk=>ao k fs)/\(∀k,X k->rv.ownBlock≠some k/\k≠sb)/\∀k,X k->k<w'.heap.size)/\E w' []/\Io w w'):=λW vb fs tv h hv hc hf=>by
  have hm:=HMD.o W h;refine(MP p N R lss.length hx fs hv ob vb sv tv W hm.ord hc hf).mono ?_;rintro e w' ⟨rv,us,rows,rfl,q1,q2⟩;have hle:=h.size;refine⟨W.heap.size,rv,us,rows,rfl,⟨⟨q1.sum.lowS (by omega),q1.ok,q1.len,q1.cn⟩,λk hk=>?_,λk hk=>?_⟩,(hen 0).next ((hen 0).next hE h) q2,In h q2⟩
  .have h1:=hX k hk;refine⟨λe=>?_,by omega⟩;have:=(Ot q1.sum.rws.own _ e).1;omega
  .have h1:=hX k hk;have:=q2.size;omega
 have HDV:Po (∀(W:PJ) sb rv us rows fs,Io w W->cM p N R lss.length 3 4804 fs->cN p (qd N R lss.length) n0 W sb ob rv us rows (λk=>ao k fs)->(∀k,X k->rv.ownBlock≠some k/\k≠sb)->(∀k,X k->k<W.heap.size)->E W []->Calls prog 87 #[PL sb,.func (.func 88) #[PL mb] #[],.func (.func 89) #[PL mb] #[],.func (.func cf) #[] bs] W λe w'=>e=.returned (.tuple #[])/\Below n0 w0 w'/\∃acc,E w' acc/\mO p rs N R lss.length ms cn fs acc):=λW sb rv us rows fs h hv hs hxx hX2 hE2=>MQ cf bs hcf p o v N R lv lss n0 w0 hsz md mb ob sv ms rs hmd hx cn X E fs hv hen hL sb rv us rows W (hb.trans (h.mono hn0)) hs hxx hX2 hE2;have KEEP:Po (∀W,Io w W->(W.cell? (PN md 6)=some (PL mb)/\W.cell? (PN mb 0)=some (PL ob))):=λW h=>⟨(HMD.o W h).c6,(HMD.o W h).m0⟩;have KEEP2:Po (∀W,Below n0 w0 W->(W.cell? (PN md 6)=some (PL mb)/\W.cell? (PN mb 0)=some (PL ob))):=λW h=>by have hm:=hmd.below (w':=W) (by cases hsz;exact h);exact⟨hm.c6,hm.m0⟩
 have HB0:Po (Io w w.drew):=(Ov _ _).drew;obtain⟨ga,gc,rfl,_⟩:=hg;clear hmd hx hen hL hb hX hE hd HMD hR3 hn0;go_enter func45,ntmps45;refine wp_region_held_drew (S:=λW=>W.cell? (PN md 6)=some (PL mb)/\W.cell? (PN mb 0)=some (PL ob)) (by kernel_rfl) (KEEP.o _ HB0.o) (λhHeld=>?_);refine bL 0 6 rfl rfl hHeld (Pf ⟨rfl,λw ⟨s1,s2⟩=>by go_simp<;>with_reducible rfl⟩) ?_;refine bL 1 7 rfl rfl hHeld (Pf ⟨rfl,λw ⟨s1,s2⟩=>by go_simp<;>with_reducible rfl⟩) ?_;refine bL 2 8 rfl rfl hHeld (Pf ⟨rfl,λw ⟨s1,s2⟩=>by go_simp<;>with_reducible rfl⟩) ?_;refine bL 3 9 rfl rfl hHeld (Pf ⟨rfl,λw ⟨s1,s2⟩=>by go_simp<;>with_reducible rfl⟩) ?_;refine bL 4 10 rfl rfl hHeld (Pf ⟨rfl,λw ⟨s1,s2⟩=>by go_simp<;>with_reducible rfl⟩) ?_;refine bL 5 11 rfl rfl hHeld (Pf ⟨rfl,λw ⟨s1,s2⟩=>by go_simp<;>with_reducible rfl⟩) ?_;refine bL 6 12 rfl rfl hHeld (Pf ⟨rfl,λw ⟨s1,s2⟩=>by go_simp<;>with_reducible rfl⟩) ?_;refine bL 7 13 rfl rfl hHeld (Pf ⟨rfl,λw ⟨s1,s2⟩=>by go_simp<;>with_reducible rfl⟩) ?_;refine bL 8 14 rfl rfl hHeld (Pf ⟨rfl,λw ⟨s1,s2⟩=>by go_simp<;>with_reducible rfl⟩) ?_;refine bL 9 15 rfl rfl hHeld (Pf ⟨rfl,λw ⟨s1,s2⟩=>by go_simp<;>with_reducible rfl⟩) ?_;refine bL 10 16 rfl rfl hHeld (Pf ⟨rfl,λw ⟨s1,s2⟩=>by go_simp<;>with_reducible rfl⟩) ?_;refine bL 11 17 rfl rfl hHeld (Pf ⟨rfl,λw ⟨s1,s2⟩=>by go_simp<;>with_reducible rfl⟩) ?_;refine bL 12 18 rfl rfl hHeld (Pf ⟨rfl,λw ⟨s1,s2⟩=>by go_simp<;>with_reducible rfl⟩) ?_;refine bL 13 19 rfl rfl hHeld (Pf ⟨rfl,λw ⟨s1,s2⟩=>by go_simp<;>with_reducible rfl⟩) ?_;refine bL 14 20 rfl rfl hHeld (Pf ⟨rfl,λw ⟨s1,s2⟩=>by go_simp<;>with_reducible rfl⟩) ?_;refine bL 18 24 rfl rfl hHeld (Pf ⟨rfl,λw ⟨s1,s2⟩=>by go_simp<;>with_reducible rfl⟩) ?_;refine bL 19 25 rfl rfl hHeld (Pf ⟨rfl,λw ⟨s1,s2⟩=>by go_simp<;>with_reducible rfl⟩) ?_;refine bL 20 26 rfl rfl hHeld (Pf ⟨rfl,λw ⟨s1,s2⟩=>by go_simp<;>with_reducible rfl⟩) ?_;refine bL 21 27 rfl rfl hHeld (Pf ⟨rfl,λw ⟨s1,s2⟩=>by go_simp<;>with_reducible rfl⟩) ?_;refine bL 22 28 rfl rfl hHeld (Pf ⟨rfl,λw ⟨s1,s2⟩=>by go_simp<;>with_reducible rfl⟩) ?_;refine bL 23 29 rfl rfl hHeld (Pf ⟨rfl,λw ⟨s1,s2⟩=>by go_simp<;>with_reducible rfl⟩) ?_;refine bL 24 30 rfl rfl hHeld (Pf ⟨rfl,λw ⟨s1,s2⟩=>by go_simp<;>with_reducible rfl⟩) ?_;refine bL 25 31 rfl rfl hHeld (Pf ⟨rfl,λw ⟨s1,s2⟩=>by go_simp<;>with_reducible rfl⟩) ?_;refine bL 26 32 rfl rfl hHeld (Pf ⟨rfl,λw ⟨s1,s2⟩=>by go_simp<;>with_reducible rfl⟩) ?_;refine bL 27 33 rfl rfl hHeld (Pf ⟨rfl,λw ⟨s1,s2⟩=>by go_simp<;>with_reducible rfl⟩) ?_;refine bL 28 34 rfl rfl hHeld (Pf ⟨rfl,λw ⟨s1,s2⟩=>by go_simp<;>with_reducible rfl⟩) ?_;try simp only[Act.put,List.setIfInBounds_toArray,List.set_cons_zero,List.set_cons_succ]
 refine wpAnyH_ready (rs:=[15]) (by kernel_rfl) (by simp) ?_;refine AllReadyH.cons rfl (λK hK=>?_) AllReadyH.nil;go_simp;refine(HVE.o _ HB0.o).mono ?_;rintro e w3 ⟨ua,uc,fs,rfl,q1,HPF,q2⟩;have HF3:=ae q1;have HB3:=ae q2;clear q1 q2;dsimp only;refine hK.out _ _ (KEEP.o w3 HB3.o) (λhHeld=>?_);clear hK K;try simp only[Act.put,List.setIfInBounds_toArray,List.set_cons_zero,List.set_cons_succ]
 try simp only[Act.put,List.setIfInBounds_toArray,List.set_cons_zero,List.set_cons_succ]
 refine wpAnyH_ready (rs:=[16]) (by kernel_rfl) (by simp) ?_;refine AllReadyH.cons rfl (λK hK=>?_) AllReadyH.nil;go_simp;refine hK.out _ _ (KEEP.o _ (fY HB3.o)) (λhHeld=>?_);clear hK K;try simp only[Act.put,List.setIfInBounds_toArray,List.set_cons_zero,List.set_cons_succ]
 try simp only[Act.put,List.setIfInBounds_toArray,List.set_cons_zero,List.set_cons_succ]
 refine wpAnyH_ready (rs:=[17]) (by kernel_rfl) (by simp) ?_;refine AllReadyH.cons rfl (λK hK=>?_) AllReadyH.nil;go_simp;refine(HNS.o _ _ fs _ (fY HB3.o) HPF.o.2 (by simp[go_sem]) (HF3.o.below ai)).mono ?_;rintro e w4 ⟨sb,rv,us,rows,rfl,HS4,q1,q2⟩;have HE4:=ae q1;have HB4:=ae q2;clear q1 q2;dsimp only;refine hK.out _ _ (KEEP.o w4 HB4.o) (λhHeld=>?_);clear hK K;try simp only[Act.put,List.setIfInBounds_toArray,List.set_cons_zero,List.set_cons_succ]
 try simp only[Act.put,List.setIfInBounds_toArray,List.set_cons_zero,List.set_cons_succ]
 refine wpAnyH_ready (rs:=[29]) (by kernel_rfl) (by simp) ?_;refine AllReadyH.cons rfl (λK hK=>?_) AllReadyH.nil;go_simp;refine(HDV.o w4 sb rv us rows fs HB4.o HPF.o.2 HS4.o.1 HS4.o.2.1 HS4.o.2.2 HE4.o).mono ?_;rintro e w5 ⟨rfl,q1,acc,q2,q3⟩;have HB5:=ae q1;have HE5:=ae q2;have HR5:=ae q3;clear q1 q2 q3;dsimp only;refine hK.out _ _ (KEEP2.o w5 HB5.o) (λhHeld=>?_);clear hK K;try simp only[Act.put,List.setIfInBounds_toArray,List.set_cons_zero,List.set_cons_succ]
 try simp only[Act.put,List.setIfInBounds_toArray,List.set_cons_zero,List.set_cons_succ]
 refine wpAnyH_done (by kernel_rfl) ?_ _;go_wp2_with fail;go_end0;exact⟨rfl,HB5.o,fs,acc,HPF.o.1,HE5.o,HR5.o⟩
theorem MR{p o v:Int}{N R:Nat}{lv:PK}{lss:PA}{md mb:Nat}{sv:PK}{ms:PD}{rs:PC}(hc:gD p o N R lss)(hm:iT p o v N R lv lss w md mb ob sv ms rs){g:Lt}{fs acc:PB}(hp:fs.Perm (dG 1 1 N g R))(h:mO p rs N R lss.length ms (λ_=>false) fs acc):acc.all (eD R)=true↔lO p N R lss g:=by
 have hx:=hc.hx.acx;rw[oD hc hm.tr];have hnil:∀{l:PB},(∀t∈l,(λ_:Ft=>false) t=true)->l=[]:=fun {l} hl=>by
  cases l with
  |nil=>rfl
  |cons a l=>have:=hl a (by simp);simp at this
 rcases h with ⟨rows,rows2,h1,h2,h3⟩|⟨t,rows,acc0,h1,h2,h3,h4,h5⟩
 .have e:=hnil h2;subst e;exact⟨λ_=>MA hx hp (by omega) (by omega) h1 h3 (λt ht=>by simp at ht),λ_=>rfl⟩
 .have e:=hnil h2;subst e;subst h5;by_cases ht:t.pl<R
  .have hno:=Dp hx hp (by omega) (by omega) h1 (λt ht=>by simp at ht) ht hm.mss hm.gone hm.top h3;refine⟨λh=>?_,λh=>(hno h).elim⟩;simp[eD,ht] at h
  .refine⟨λ_=>MB hx hp (by omega) (by omega) h1 ht,λ_=>?_⟩;simp[eD];omega
theorem MS(p o v:Int)(N R:Nat)(lv gv:PK)(lss:PA)(g:Lt)(w:PJ)(md mb ob:Nat)(sv:PK)(ms:PD)(rs:PC)(hc:gD p o N R lss)(hm:iT p o v N R lv lss w md mb ob sv ms rs)(hg:Vl w gv g)(hd:tn p o N R g):Calls prog 21 #[PL md,gv] w λe w'=>∃b,e=.returned (.bool b)/\(b=true↔lO p N R lss g)/\Io w w':=by
 obtain⟨w1,hw1⟩:∃w1,w1=w.alloc (.cells #[PL md] 50):=⟨_,rfl⟩;have HB1:Po (Io w w1):=by rw[hw1];exact ai
 have c1:w1.cell? (PN w.heap.size 0)=some (PL md):=by rw[hw1];simp[go_sem]
 obtain⟨w2,hw2⟩:∃w2,w2=w1.alloc (.cells #[.bool true] 4):=⟨_,rfl⟩;have HB2:Po (Io w1 w2):=by rw[hw2];exact ai
 have HE2:Po (pF w1.heap.size w1 w1.heap.size R w2 []):=by refine⟨HB2.o,?_⟩;rw[hw2];exact⟨by simp,.inr ⟨w1.heap.size,1,_,rfl,Ou _,heap_alloc_new w1 _,Ou _,by decide,by simp,by simp⟩⟩
 have c2:=af c1 HB2.o;have hm1:=hm.below HB1.o;have HDV:=ae (DH 46 #[PL w.heap.size,PL w1.heap.size] (vx func46 (by kernel_rfl)) p o v N R lv lss w1.heap.size w1 rfl md mb ob sv ms rs hm1 hc.hx.acx (λ_=>false) (λk=>k=w1.heap.size) (pF w1.heap.size w1 w1.heap.size R) (λsb=>IS _ w1 rfl sb ob _ R) (λsb W acc t tb h1 h2 h3 h4 h5 h6 _ h7=>(IT _ w1 rfl sb ob _ w.heap.size md R c1 hm1.c4 W acc t tb h1 h2 h3 h5 h6 (λu hu=>by have:=h7 u hu;simp at this)).mono λe w' ⟨q1,q2,q3,q4,q5⟩=>⟨q1,q2,q3,q4,λrw us rows hs _=>q5 rw us rows hs⟩) gv g w2 HB2.o (λk e=>by subst e;rw[hw2];simp) HE2.o (hg.below (In HB1.o HB2.o)) hd);have HFIN:Po (∀fs acc,fs.Perm (dG 1 1 N g R)->mO p rs N R lss.length ms (λ_=>false) fs acc->(acc.all (eD R)=true↔lO p N R lss g)):=λfs acc h1 h2=>MR hc hm h1 h2;obtain⟨ga,gc,rfl,_⟩:=hg;clear hm hm1 hc hd c1;go_enter func21,ntmps21;go_upto_region 1 with fail;rw[<-hw1];clear hw1;go_upto_region 2 with fail;rw[<-hw2];clear hw2;go_wp2_with (go_at_call 45;refine HDV.o.mono ?_;rintro e w9 ⟨rfl,q1,fs,acc,q2,q3,q4⟩;have HB9:=ae (In HB1.o q1);have HR9:=ae (HFIN.o fs acc q2 q4);have c9:=Oq q3.2 0 (by omega);simp only[List.getElem?_cons_zero] at c9;clear q1 q2 q3 q4);go_ret;exact⟨_,rfl,HR9.o,HB9.o⟩
end Go.Proofs.YtjkalahhpobefaaGreat
