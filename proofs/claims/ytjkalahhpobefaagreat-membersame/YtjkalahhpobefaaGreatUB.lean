/- The module of a list. -/
import Derived.Test.YtjkalahhpobefaaGreatSX
set_option maxHeartbeats 8000000
set_option maxRecDepth 100000
namespace Go.Proofs.YtjkalahhpobefaaGreat
set_option linter.all false
open Go.Proofs.Tryz Go.RowKit Go.Sort
structure iT(p o v:Int)(N R:Nat)(lv:OR)(lss:OH)(w:OQ)(md mb ob:Nat)(sv:OR)(ms:OK)(rows:OJ):Prop where
 c0:w.cell? (OV md 0)=some (OW p)
 c1:w.cell? (OV md 1)=some (OW N)
 c2:w.cell? (OV md 2)=some (OW o)
 c3:w.cell? (OV md 3)=some (OW v)
 c4:w.cell? (OV md 4)=some (OW R)
 c5:w.cell? (OV md 5)=some lv
 c6:w.cell? (OV md 6)=some (OS mb)
 m0:w.cell? (OV mb 0)=some (OS ob)
 mrw:jW p w mb (R+lss.length) ms
 ord:aQ w ob p (ao 1 N N 0) (ao 1 N N 1) (ao 1 N N 2) sv
 sl:Sl w sv (dI R lss.length)
 tr:jD N R lss rows
 mss:jN p (rows.map aK) N R lss.length ms
 gone:∀x∈ms,x.gone=false
 top:mF p R (rows.map aK) (ms.map jc)
 len:ms.length<=2100000
 rw2:∃g,w.cell? (OV mb 2)=some (OU g (R+lss.length) (R+lss.length))/\∀pl,pl<R+lss.length->∃u,w.cell? (OV g pl)=some u/\mw w u (aZ ms pl)
variable{ms:OK}{md mb ob N R:Nat}{w w':OQ}{lv:OR}{p o v:Int}
theorem iT.below{lss:OH}{sv:OR}{rows:OJ}(h:iT p o v N R lv lss w md mb ob sv ms rows)(hb:LT w w'):iT p o v N R lv lss w' md mb ob sv ms rows:=
 ⟨af h.c0 hb,af h.c1 hb,af h.c2 hb,af h.c3 hb,af h.c4 hb,af h.c5 hb,af h.c6 hb,af h.m0 hb,h.mrw.below hb,h.ord.below hb,h.sl.below hb,h.tr,h.mss,h.gone,h.top,h.len,by
  obtain⟨g,h1,h2⟩:=h.rw2;exact⟨g,af h1 hb,λpl hp=>by
   obtain⟨u,h3,h4⟩:=h2 pl hp;exact⟨u,af h3 hb,h4.below hb⟩⟩⟩
structure jE(p o v:Int)(N R:Nat)(lv:OR)(w:OQ)(md mb:Nat):Prop where
 c0:w.cell? (OV md 0)=some (OW p)
 c1:w.cell? (OV md 1)=some (OW N)
 c2:w.cell? (OV md 2)=some (OW o)
 c3:w.cell? (OV md 3)=some (OW v)
 c4:w.cell? (OV md 4)=some (OW R)
 c5:w.cell? (OV md 5)=some lv
 c6:w.cell? (OV md 6)=some (OS mb)
 ty:¬cu w 75 md
theorem mG{b j:Nat}{u:OR}(h:w'.heap[b]?=w.heap[b]?)(hc:w.cell? (OV b j)=some u):w'.cell? (OV b j)=some u:=by rw[<-hc];simp only[World.cell?];rw[h]
theorem jE.put(h:jE p o v N R lv w md mb)(hb:w'.heap[md]?=w.heap[md]?):jE p o v N R lv w' md mb:=
 ⟨mG hb h.c0,mG hb h.c1,mG hb h.c2,mG hb h.c3,mG hb h.c4,mG hb h.c5,mG hb h.c6,λhn=>h.ty λag e=>hn ag (hb.trans e)⟩
theorem jE.lt(h:jE p o v N R lv w md mb):md<w.heap.size:=NX w _ h.c0
theorem jE.below(h:jE p o v N R lv w md mb)(hb:LT w w'):jE p o v N R lv w' md mb:=h.put (hb.block md h.lt)
theorem LQ(p o v:Int)(N R mb:Nat)(lv:OR)(w:OQ):jE p o v N R lv (w.alloc (.cells #[OW p,OW N,OW o,OW v,OW R,lv,OS mb] 75)) w.heap.size mb:=by refine⟨by simp[go_sem],by simp[go_sem],by simp[go_sem],by simp[go_sem],by simp[go_sem],by simp[go_sem],by simp[go_sem],λhn=>hn _ (heap_alloc_new w _)⟩
theorem a8.rw2{B:Nat}{g:Nat}{dv pv:OR}{us:OO}{qs:OM}(h:a8 p B w mb ob R g dv pv us ms qs):∃g,w.cell? (OV mb 2)=some (OU g R R)/\∀pl,pl<R->∃u,w.cell? (OV g pl)=some u/\mw w u (aZ ms pl):=by obtain⟨_,_,c2,_,_⟩:=h.cells;exact⟨g,c2,λpl hp=>⟨_,(h.mks.at pl hp).1,h.mks.pts pl hp⟩⟩
structure Di(p o v:Int)(N R n:Nat)(lv:OR)(B Bv:Nat)(w3 wr:OQ)(md mb ob g:Nat)(dv:OR)(us:OO)(ms:OK)(rv:OR)(rus:OO)(pt done:OJ):Prop where
 mkw:a8 p B wr mb ob (R+n) g dv (.slice none 0 0) us ms []
 box:jE p o v N R lv wr md mb
 rows:aM Bv wr rv rus pt
 below:LT w3 wr
 eq:ms.map jc=done
 gone:∀x∈ms,x.gone=false
theorem Dj(p o v:Int)(N R:Nat)(lv:OR)(lss:OH)(w:OQ)(hc:gE p o N R lss)(hl:fH w lv lss):Calls prog 20 #[aI p N o v,OW R,lv] w λe w'=>∃md mb ob sv ms rows,e=.returned (OS md)/\iT p o v N R lv lss w' md mb ob sv ms rows/\LT w w':=by
 have hx:=hc.hx;have hp:=dS hx.pr;have hR3:=hx.hw;have hn4:=hx.hn;have hmk:∀W:OQ,(Instr.makeSlice 45 (OW ((R:Int)+(lss.length:Int))) (OW ((R:Int)+(lss.length:Int)))).run prog W=.ok (OU W.heap.size (R+lss.length) (R+lss.length)) (W.alloc (.cells (madeCells #[OW 0] (R+lss.length)) 3)):=λW=>by have h:=run_make_row' (P:=prog) 45 3 (OW 0) 8 underlying45 Tryz.infoIntB rfl .i64 .i64 (R+lss.length) (by omega) (by omega) W;rw[Int.natCast_add] at h;exact h
 have hwr:IntKind.i64.wrap ((R:Int)+(lss.length:Int))=(R:Int)+(lss.length:Int):=by rw[IntKind.wrap_i64];omega
 obtain⟨w1,hw1⟩:∃w1,w1=w.alloc (.cells #[OW p,OW N,OW o,OW v] 23):=⟨_,rfl⟩;have HB1:OE (LT w w1):=by rw[hw1];exact ai
 have K4:OE (w1.cell? (OV w.heap.size 0)=some (OW p)/\w1.cell? (OV w.heap.size 1)=some (OW N)/\w1.cell? (OV w.heap.size 2)=some (OW o)/\w1.cell? (OV w.heap.size 3)=some (OW v)):=by show _/\_;rw[hw1];simp[go_sem]
 obtain⟨w2,hw2⟩:∃w2,w2=w1.alloc (.cells #[OW p,OW N,OW 1,OW 1] 23):=⟨_,rfl⟩;have HB2:OE (LT w1 w2):=by rw[hw2];exact ai
 have L4:OE (w2.cell? (OV w1.heap.size 0)=some (OW p)/\w2.cell? (OV w1.heap.size 1)=some (OW N)/\w2.cell? (OV w1.heap.size 2)=some (OW 1)/\w2.cell? (OV w1.heap.size 3)=some (OW 1)):=by show _/\_;rw[hw2];simp[go_sem]
 have HSET:((w1.alloc (.cells #[OW p,OW N,OW o,OW v] 23)).setCell (OV w1.heap.size 2) (OW 1)).setCell (OV w1.heap.size 3) (OW 1)=w2:=by rw[hw2];simp[go_sem]
 obtain⟨c0,c1,c2,c3⟩:=K4.o;have HC:=ae hc;have HO:=ae (re p 1 1 N R lss.length w2 hp (Ox rfl) (Ox rfl) hx.n3 (by omega) (by omega));have HB02:OE (LT w w2):=Io HB1.o HB2.o;have HTB:OE (∀W ob sv,LT w W->aQ W ob p (ao 1 N N 0) (ao 1 N N 1) (ao 1 N N 2) sv->Sl W sv (dI R lss.length)->Calls prog 42 #[OS ob,aI p N 1 1,OW R,lv] W λe w'=>∃v us rows rows',e=.returned v/\aM W.heap.size w' v us (gY R rows')/\LT W w'/\pQ p N R lss rows rows'):=λW ob sv hb h1 h2=>Lm p o N R ob sv lv lss W HC.o (hl.below hb) h1 h2;have HNM:=ae (fun(ob b:Nat)(W:OQ)=>wj p ob (R+lss.length) b 0 (R+lss.length) W (by omega));obtain⟨la,lc,rfl,_⟩:=hl.wl;unfold aI at HO HTB⊢;have HHX:=ae hx;clear hl hc hx;go_enter func20,ntmps20;go_upto_region 1 with fail;rw[<-hw1];clear hw1;go_upto_region 3 with fail;first|rw[HSET]|rw[<-hw2]
 clear hw2 HSET c0 c1 c2 c3;obtain⟨c0,c1,c2,c3⟩:=L4.o;go_upto_region 4 with (go_at_call 40;refine HO.o.mono ?_;rintro e w3 ⟨ob,sv,rfl,q1,q2,q3⟩;have HOB3:=ae q1;have HSL3:=ae q2;have HB23:=ae q3;have HB3:=ae (Io HB02.o q3);clear q1 q2 q3);clear c0 c1 c2 c3;have KEEP:OE (∀W,LT w3 W->(W.cell? (OV w.heap.size 0)=some (OW p)/\W.cell? (OV w.heap.size 1)=some (OW N)/\W.cell? (OV w.heap.size 2)=some (OW o)/\W.cell? (OV w.heap.size 3)=some (OW v))):=λW hb=>by obtain⟨f0,f1,f2,f3⟩:=K4.o;have h:=Io HB2.o (Io HB23.o hb);exact⟨af f0 h,af f1 h,af f2 h,af f3 h⟩
 have HNM3:OE (∀b W,LT w3 W->Calls prog 41 #[OS ob,OU b (R+lss.length) (R+lss.length)] W λe w'=>∃B mb g us,e=.returned (OS mb)/\a8 p B w' mb ob (R+lss.length) g (OU b (R+lss.length) (R+lss.length)) (.slice none 0 0) us [] []/\w3.heap.size<=B/\B<=w'.heap.size/\LT w3 w'):=λb W hb=>by refine(HNM.o ob b W).mono ?_;rintro e w' ⟨mb,g,us,rfl,q1,q2⟩;exact⟨W.heap.size,mb,g,us,rfl,q1,hb.size,q2.size,Io hb q2⟩
 have HB0:OE (LT w3 w3.drew):=(NM _ _).drew;clear HNM HO;go_cut [9] from 20 to 31 (λs9 wx=>∃md mb g B us dv,s9=OS md/\a8 p B wx mb ob (R+lss.length) g dv (.slice none 0 0) us [] []/\jE p o v N R (.slice la lss.length lc) wx md mb/\w3.heap.size<=B/\B<=wx.heap.size/\LT w3 wx)
 case first=>
  clear HOB3 HSL3 HTB HC L4 K4;go_region_held (λW=>W.cell? (OV w.heap.size 0)=some (OW p)/\W.cell? (OV w.heap.size 1)=some (OW N)/\W.cell? (OV w.heap.size 2)=some (OW o)/\W.cell? (OV w.heap.size 3)=some (OW v))
   (first|with_reducible exact KEEP.o _ HB0.o|with_reducible exact KEEP.o _ HB4.o|(refine KEEP.o _ ?_;(repeat (first|with_reducible exact HB4.o|with_reducible exact NM _ _|with_reducible refine oo ?_|with_reducible refine fX ?_));done))
   (first|(go_at_call 41;refine(HNM3.o _ _ ?_).mono ?_;(focus ((repeat (first|with_reducible exact NM _ _|with_reducible refine oo ?_|with_reducible refine fX ?_));done));rintro e w4 ⟨B,mb,g,us,rfl,q1,q2,q3,q4⟩;have HM4:=ae q1;have HBB:=ae (NN q2 q3);have HB4:=ae q4;clear q1 q2 q3 q4))
  all_goals
   go_wp2_with fail;go_meet;case rel=>exact⟨_,mb,g,B,us,_,rfl,HM4.o.next ai,LQ p o v N R mb _ w4,HBB.o.1,NR HBB.o.2 (by simp),fX HB4.o⟩
 case rest=>
  obtain⟨md,mb,g,B,us0,dv,rfl,q1,q2,q3,q4,q5⟩:=hcut;rename OQ=>w5;have HM5:=ae q1;have HD5:=ae q2;have HBB:=ae (NN q3 q4);have HB5:=ae q5;have HB05:OE (LT w w5):=Io HB3.o q5;have HOB5:=ae (HOB3.o.below q5);have HSL5:=ae (HSL3.o.below q5);clear q1 q2 q3 q4 q5 HNM3 HB0 KEEP hmk;have h25:=Io HB23.o HB5.o;obtain⟨f0,f1,f2,f3⟩:=L4.o;have c0:=af f0 h25;have c1:=af f1 h25;have c2:=af f2 h25;have c3:=af f3 h25;clear f0 f1 f2 f3 h25;have HT5:=ae (HTB.o w5 ob sv HB05.o HOB5.o HSL5.o);clear HTB;go_wp2_with (go_at_call 42;refine HT5.o.mono ?_;rintro e w6 ⟨v6,us6,rows,rows',rfl,q1,q2,q3⟩;obtain⟨a6,c6,hv6⟩:=ct q1.own;subst hv6;have HR6:=ae q1;have HB6:=ae q2;have HBS:=ae q3;clear q1 q2 q3);have HM6:=ae (HM5.o.next HB6.o);have HD6:=ae (HD5.o.below HB6.o);have HB36:OE (LT w3 w6):=Io HB5.o HB6.o;have HBB6:OE (w3.heap.size<=B/\B<=w6.heap.size):=⟨HBB.o.1,NR HBB.o.2 HB6.o.size⟩;have HOK:OE (∀f∈gY R rows',∃L r,f=L::r/\d8 p N R lss.length L r/\bq p (rows.map aK) λφ=>au φ (L::r)):=λf hf=>HBS.o.ok f (wT.1 hf);have HPL:OE ((gY R rows').length<=2100000):=by have:=HBS.o.len;have:=wU R rows';show _<=_;omega
  have HTOP:OE (mF p R (rows.map aK) (gY R rows')):=λY h1 t h2 h3 h4 h5=>by obtain⟨L,r,h6,h7⟩:=HBS.o.top Y h1 t h2 h3 h4 h5;exact⟨L,r,wT.2 h6,h7⟩
  have HTR:=ae HBS.o.tr;generalize gY R rows'=pt at HR6 HOK HPL HTOP⊢;clear HBS HT5 HM5 HD5 HBB HOB5 HSL5 c0 c1 c2 c3 HB5;go_loopw [38] (λs38 wr=>∃(m:Nat)(us:OO)(ms:OK),m<=pt.length/\s38=OW m/\Di p o v N R lss.length (.slice la lss.length lc) B w5.heap.size w3 wr md mb ob g dv us ms (.slice a6 pt.length c6) us6 pt (pt.take m)) (λs38 _=>pt.length-(intOf s38).toNat);case atStart=>exact⟨0,us0,[],NS _,rfl,⟨HM6.o,HD6.o,HR6.o,HB36.o,rfl,λx hx=>by simp at hx⟩⟩
  case round=>
   rename OQ=>wr;obtain⟨m,us,ms,hm,rfl,hnm⟩:=hrel;have HNW:=ae hnm;clear hnm;by_cases hm2:m<pt.length
   .have hmI:(m:Int)<(pt.length:Int):=by omega
    obtain⟨gb,gcc,hgs,_,_,hgc,_⟩:=HNW.o.rows.at m hm2;simp only[N8,true_and] at hgs;obtain⟨rfl,rfl⟩:=hgs;have hfu:=HNW.o.rows.fvs m hm2;have HTK:OE (pt.take (m+1)=pt.take m++[pt.getD m []]):=sn pt m hm2;obtain⟨L,r,hLr,hmb,haf⟩:=HOK.o (pt.getD m []) (by rw[NY,NZ hm2];exact NV hm2);rw[hLr] at hfu HTK;generalize us6.getD m aL=uu at hfu hgc;have hml:ms.length=m:=by have h:=congrArg List.length HNW.o.eq;rw[Oa,Oo] at h;omega
    have hpl:=HPL.o;have hgl:=hmb.vc.gd L (by simp);have hBw:B<=wr.heap.size:=by have h:=HNW.o.mkw.box;have h2:=NK h mb rfl;omega
    have HNB:=ae (rm B mb ob p _ _ _ sv uu L r wr hBw HNW.o.mkw.cells.1 (HOB3.o.below HNW.o.below) HHX.o.pr (hmb.vc.co L (by simp)) hfu);have HPU:OE (∀(W:OQ)(blk:Nat)(rv:OR),b9 p B W ⟨blk,L,rv,r,false⟩->wr.heap.size<=blk->LT wr W->Calls prog 43 #[OS mb,OS blk] W λe w'=>e=.returned (.tuple #[])/\∃us' f,Di p o v N R lss.length (.slice la lss.length lc) B w5.heap.size w3 w' md mb ob g dv us' (ms++[f]) (OU gb pt.length c6) us6 pt (pt.take m++[L::r])):=λW blk rv h1 h2 hb=>by
     refine(AL p B W mb ob (R+lss.length) g dv _ us ms [] ⟨blk,L,rv,r,false⟩ (HNW.o.mkw.next hb) h1 (λx hx e=>by have:=(HNW.o.mkw.mks.mem x hx).lt.2;simp only at e;omega) (NR hBw hb.size) ⟨hgl.pl0,by have:=hgl.pl;simp only;omega⟩ (by omega) (by omega)).mono ?_;rintro e w' ⟨rfl,us',q1,q2,q3,q4,q5⟩;refine⟨rfl,us',⟨blk,L,rv,r,false⟩,q1,?_,(HNW.o.rows.next hb).put8 q3 q4,(Io HNW.o.below hb).trans (q2.mono HBB6.o.1),?_,λx hx=>?_⟩
     .exact(HNW.o.box.below hb).put (q5 75 (by decide) (by decide) md (HNW.o.box.below hb).lt (HNW.o.box.below hb).ty)
     .rw[Oi,HNW.o.eq];rfl
     .rcases N1.1 hx with hx|hx
      .exact HNW.o.gone x hx
      .rw[N2] at hx;subst hx;rfl
    have HS7:OE (∀W,LT wr W->W.cell? (OV md 6)=some (OS mb)):=λW hb=>af HNW.o.box.c6 hb;have HD0:OE (LT wr wr.drew):=(NM _ _).drew;have HNBD:OE (∀W,LT wr W->Calls prog 44 #[OS mb,uu] W λe w'=>∃blk rv,e=.returned (OS blk)/\OE (b9 p B w' ⟨blk,L,rv,r,false⟩/\wr.heap.size<=blk)/\LT wr w'):=λW hb=>by refine(rm B mb ob p _ _ _ sv uu L r W (NR hBw hb.size) (HNW.o.mkw.next hb).cells.1 (HOB3.o.below (Io HNW.o.below hb)) HHX.o.pr (hmb.vc.co L (by simp)) (hfu.below hb)).mono ?_;rintro e w' ⟨blk,rv,rfl,q1,q2,q3⟩;exact⟨blk,rv,rfl,⟨q1,NR hb.size q2⟩,Io hb q3⟩
    obtain⟨ua,uc,hu,_⟩:=id hfu;subst hu;clear hmb haf hfu hLr hgl HNB;go_upto_region 8 with fail;go_region_held (λW=>W.cell? (OV md 6)=some (OS mb))
     (first|with_reducible exact HS7.o _ HD0.o|with_reducible exact HS7.o _ HB7.o|with_reducible exact HN8.o.box.c6)
     (first|(go_at_call 44;refine(HNBD.o _ HD0.o).mono ?_;rintro e w7 ⟨blk,rv7,rfl,HM7,q2⟩;have HB7:=ae q2;have HPU7:=ae (HPU.o w7 blk rv7 HM7.o.1 HM7.o.2 q2);clear q2)|(go_at_call 43;refine HPU7.o.mono ?_;rintro e w8 ⟨rfl,us8,f8,q1⟩;have HN8:=ae q1;clear q1))
    all_goals
     go_wp2_with fail;go_roundw;case rel=>exact⟨m+1,us8,ms++[f8],by omega,by go_num,by rw[HTK.o];exact HN8.o⟩
     case measure=>simp[intOf];omega
   .have e:m=pt.length:=by omega
    subst e;go_wp2;go_ret;have heq:=HNW.o.eq;rw[List.take_length] at heq;refine⟨md,mb,ob,sv,ms,rows,rfl,⟨HNW.o.box.c0,HNW.o.box.c1,HNW.o.box.c2,HNW.o.box.c3,HNW.o.box.c4,HNW.o.box.c5,HNW.o.box.c6,HNW.o.mkw.cells.1,HNW.o.mkw.mrw,HOB3.o.below HNW.o.below,HSL3.o.below HNW.o.below,HTR.o,λx hx=>?_,HNW.o.gone,by rw[heq];exact HTOP.o,?_,HNW.o.mkw.rw2⟩,Io HB3.o HNW.o.below⟩
    .obtain⟨L,r,e,h1,h2⟩:=HOK.o (jc x) (by rw[<-heq];exact List.mem_map_of_mem hx);unfold jc at e;simp only[List.cons.injEq] at e;obtain⟨rfl,rfl⟩:=e;exact⟨h1,h2⟩
    .have h:=congrArg List.length heq;rw[Oa] at h;have:=HPL.o;omega
end Go.Proofs.YtjkalahhpobefaaGreat
namespace Go.Proofs.YtjkalahhpobefaaGreat
set_option linter.all false
open Go.Proofs.Tryz Go.RowKit
variable{ob:Nat}{w:OQ}
theorem aU.lowS{B B':Nat}{sb:Nat}{rv:OR}{us:OO}{rows:OJ}(h:aU B w sb ob rv us rows)(hb:B'<=B):aU B' w sb ob rv us rows:=⟨wC h.box hb,h.kind,h.rws.low hb⟩
structure sN(p o:Int)(N R:Nat)(g:OG):Prop where
 len:g.length=R
 vok:j6 p o N (λ_=>3) g
 tms:∀f∈g,f.length<=2000/\∀t∈f,t.2.length=N/\(∀e∈t.2,0<=e/\e<=400)/\0<=t.1/\t.1<=255
theorem wY:kS 3 4804:=⟨by omega,by omega,Oy (by omega)⟩
def pT:Int:=1000000000000000000
def pU(N wd n:Nat)(u:Ft):Prop:=bi N wd n 3 4804 u/\u.k<pT
def mH(p:Int)(rs:OJ)(N R n:Nat)(ms:OK)(cn:Ft->Bool)(fs acc:OI):Prop:=
 (∃rows rows2,LA p (rs.map aK) N R n 3 4804 (λφ=>au φ fs) pT acc none rows/\(∀t∈acc,cn t=true)/\Nx p rows none rows2)\/∃t rows acc0,LA p (rs.map aK) N R n 3 4804 (λφ=>au φ fs) pT acc0 (some t) rows/\(∀t∈acc0,cn t=true)/\eO ms t=none/\cn t=false/\acc=acc0++[t]
theorem LR(p:Int)(N wd n:Nat)(hx:ci p N wd n)(fs:OI)(hv:cR p N wd n 3 4804 fs)(ob vb:Nat)(sv tv:OR)(W:OQ)(hob:aQ W ob p (ao 1 N N 0) (ao 1 N N 1) (ao 1 N N 2) sv)(hc:W.cell? (OV vb 0)=some tv)(hf:Fv W tv fs):Calls prog 85 #[OS ob,OU vb 1 1] W λe w'=>∃rv us rows,e=.returned (OS W.heap.size)/\cT p (pU N wd n) W.heap.size w' W.heap.size ob rv us rows (λk=>aq k fs)/\LT W w':=by
 refine(uI ob vb 0 1 p _ _ _ (pU N wd n) sv tv fs W hob (dS hx.pr) hc hf ⟨λx hx=>?_,λx hx u hu=>?_,λx hx2 u hu=>?_⟩ (λx t ha hg=>⟨bi.alk x t ha hg.1,by rw[ha.1];exact hg.2⟩) λf hd hg=>jO hx (by omega) (by omega) f hd λt ht=>(hg t ht).1).mono ?_
 .rw[N2] at hx;subst hx;exact hv.dn
 .rw[N2] at hx;subst hx;exact hv.co u hu
 .rw[N2] at hx2;subst hx2;have:=(hv.gd u hu).kb hx (by omega) (by omega);exact⟨hv.gd u hu,by unfold pT;omega⟩
 .rintro e w' ⟨rfl,rv,us,rows,q1,q2⟩;exact⟨rv,us,rows,rfl,q1,q2⟩
theorem LU(cf:FuncId)(bs:Array OR)(hcf:∀args W,(callFunc cf args).run prog W=.ok (.enter cf args) W)(p o v:Int)(N R:Nat)(lv:OR)(lss:OH)(n0:Nat)(w0:OQ)(hsz:w0.heap.size=n0)(md mb ob:Nat)(sv:OR)(ms:OK)(rs:OJ)(hmd:iT p o v N R lv lss w0 md mb ob sv ms rs)(hx:ci p N R lss.length)(cn:Ft->Bool)(X:Nat->Prop)(E:OQ->OI->Prop)(fs:OI)(hv:cR p N R lss.length 3 4804 fs)(hen:∀sb,lm n0 sb ob X E)(hL:∀(sb:Nat)(W:OQ)(acc:OI)(t:Ft)(tb:Nat),E W acc->n0<=W.heap.size->cz W tb 0 t->0<t.c->0<=t.pl->t.pl<=255->acc.length<=1200000000000->(∀u∈acc,cn u=true)->Calls prog cf (#[aX t]++bs) W λe w'=>e=.returned (.bool (cn t))/\E w' (acc++[t])/\Below n0 W w'/\cz w' tb 0 t/\∀rw us rows,aU n0 W sb ob rw us rows->(∀k,X k->rw.ownBlock≠some k/\k≠sb)->(∀r∈rows,∀u∈r,0<u.c)->aU n0 w' sb ob rw us rows)(sb:Nat)(rv:OR)(us:OO)(rows:OJ)(w:OQ)(hb:Below n0 w0 w)(hs:cT p (pU N R lss.length) n0 w sb ob rv us rows (λk=>aq k fs))(hxx:∀k,X k->rv.ownBlock≠some k/\k≠sb)(hX:∀k,X k->k<w.heap.size)(hE:E w []):Calls prog 87 #[OS sb,.func (.func 88) #[OS mb] #[],.func (.func 89) #[OS mb] #[],.func (.func cf) #[] bs] w λe w'=>e=.returned (.tuple #[])/\Below n0 w0 w'/\∃acc,E w' acc/\mH p rs N R lss.length ms cn fs acc:=by
 refine(Bk cf bs hcf p _ _ _ (R+lss.length) (bi N R lss.length 3 4804) ms _ _ (λ_ t=>cn t) X E n0 w0 ob mb sb sv rv us rows [] w (zE hx hmd.mss hmd.len wY) (Ls hx hmd.mss wY (X:=λφ=>au φ fs) (K:=pT) cn) (hen sb) (λW acc t tb h1 h2 h3 h4 h5=>?_) hmd.mrw hmd.ord hsz hb (by have:=hb.size;omega) hs.sum hxx hX ⟨hs.ok.dn,hs.ok.co,λf hf u hu=>(hs.ok.gd f hf u hu).1⟩ hs.len hE ⟨zG hx (by omega) (by omega) hv hs.ok hs.cn,λt ht=>by simp at ht⟩ (λf hf u hu=>(hs.ok.gd f hf u hu).2)).mono ?_
 .obtain⟨rows,h5,h6⟩:=h5;have g:=(h5.tr t rfl).1;have h7:=(g.bd hx (by omega) (by omega)).2;exact hL sb W acc t tb h1 h2 h3 h4 g.pl0 (by omega) (um hx wY h5) h6
 .rintro e w' ⟨rfl,q1,q2,acc,q3,q4⟩;refine⟨rfl,q1,acc,q3,?_⟩;rcases q4 with ⟨rows,rows2,⟨hj,hj2⟩,h2,h3⟩|⟨t,rows,acc0,g1,g2,g3,g4,g5,⟨g6,g6'⟩,g7,g8,g9⟩
  .exact Ox ⟨rows,rows2,hj,hj2,h3⟩
  .exact Oy ⟨t,rows,acc0,g6,g6',g7,g8,g9⟩
theorem Dk(cf:FuncId)(bs:Array OR)(hcf:∀args W,(callFunc cf args).run prog W=.ok (.enter cf args) W)(p o v:Int)(N R:Nat)(lv:OR)(lss:OH)(n0:Nat)(w0:OQ)(hsz:w0.heap.size=n0)(md mb ob:Nat)(sv:OR)(ms:OK)(rs:OJ)(hmd:iT p o v N R lv lss w0 md mb ob sv ms rs)(hx:ci p N R lss.length)(cn:Ft->Bool)(X:Nat->Prop)(E:OQ->OI->Prop)(hen:∀sb,lm n0 sb ob X E)(hL:∀(sb:Nat)(W:OQ)(acc:OI)(t:Ft)(tb:Nat),E W acc->n0<=W.heap.size->cz W tb 0 t->0<t.c->0<=t.pl->t.pl<=255->acc.length<=1200000000000->(∀u∈acc,cn u=true)->Calls prog cf (#[aX t]++bs) W λe w'=>e=.returned (.bool (cn t))/\E w' (acc++[t])/\Below n0 W w'/\cz w' tb 0 t/\∀rw us rows,aU n0 W sb ob rw us rows->(∀k,X k->rw.ownBlock≠some k/\k≠sb)->(∀r∈rows,∀u∈r,0<u.c)->aU n0 w' sb ob rw us rows)(gv:OR)(g:OG)(w:OQ)(hb:Below n0 w0 w)(hX:∀k,X k->k<w.heap.size)(hE:E w [])(hg:Vl w gv g)(hd:sN p o N R g):Calls prog 45 #[OS md,gv,.func (.func cf) #[] bs] w λe w'=>e=.returned (.tuple #[])/\Below n0 w0 w'/\∃fs acc,fs.Perm (dH 1 1 N g R)/\E w' acc/\mH p rs N R lss.length ms cn fs acc:=by
 have hR3:=hx.hw;have hn0:n0<=w.heap.size:=by have:=hb.size;omega
 have HMD:OE (∀W,LT w W->iT p o v N R lv lss W md mb ob sv ms rs):=λW h=>(hmd.below (by cases hsz;exact hb)).below h;have HVE:OE (∀W,LT w W->Calls prog 86 #[OS ob,OW 0,gv] W λe w'=>∃(ua:Option Addr)(uc:Nat)(fs:OI),e=.returned (.slice ua fs.length uc)/\Fv w' (.slice ua fs.length uc) fs/\OE (fs.Perm (dH 1 1 N g R)/\cR p N R lss.length 3 4804 fs)/\LT w w'):=λW h=>by
  have hm:=HMD.o W h;refine(Dc ob p _ _ _ sv gv (dI R lss.length) g N W hm.ord hm.sl (by rw[wP,hd.len];omega) (by rw[hd.len];omega) (wQ hR3 hx.hn) (d9 1 N 0) (d9 1 N 1) (d9 1 N 2) hx.n0 hx.n3 (λf hf=>⟨(hd.tms f hf).1,λt ht=>?_⟩) (hg.below h)).mono ?_
  .have h2:=(hd.tms f hf).2 t ht;exact⟨h2.1,λx hx=>by have:=h2.2.1 x hx;omega,h2.2.2⟩
  .rintro e w' ⟨u,fs,rfl,q1,q2,q3,q4,q5⟩;obtain⟨ua,uc,hu⟩:=cQ q5;subst hu;rw[hd.len,ou R (NL _)] at q2;exact⟨ua,uc,fs,rfl,q1,⟨q2,(pK (by omega) hx hd.vok q2 q3).1⟩,Io h q4⟩
 have HNS:OE (∀W vb fs tv,LT w W->cR p N R lss.length 3 4804 fs->W.cell? (OV vb 0)=some tv->Fv W tv fs->Calls prog 85 #[OS ob,OU vb 1 1] W λe w'=>∃sb rv us rows,e=.returned (OS sb)/\OE (cT p (pU N R lss.length) n0 w' sb ob rv us rows (λk=>aq k fs)/\(∀k,X k->rv.ownBlock≠some k/\k≠sb)/\∀k,X k->k<w'.heap.size)/\E w' []/\LT w w'):=λW vb fs tv h hv hc hf=>by
  have hm:=HMD.o W h;refine(LR p N R lss.length hx fs hv ob vb sv tv W hm.ord hc hf).mono ?_;rintro e w' ⟨rv,us,rows,rfl,q1,q2⟩;have hle:=h.size;refine⟨W.heap.size,rv,us,rows,rfl,⟨⟨q1.sum.lowS (by omega),q1.ok,q1.len,q1.cn⟩,λk hk=>?_,λk hk=>?_⟩,(hen 0).next ((hen 0).next hE h) q2,Io h q2⟩
  .have h1:=hX k hk;refine⟨λe=>?_,by omega⟩;have:=(NK q1.sum.rws.own _ e).1;omega
  .have h1:=hX k hk;have:=q2.size;omega
 have HDV:OE (∀(W:OQ) sb rv us rows fs,LT w W->cR p N R lss.length 3 4804 fs->cT p (pU N R lss.length) n0 W sb ob rv us rows (λk=>aq k fs)->(∀k,X k->rv.ownBlock≠some k/\k≠sb)->(∀k,X k->k<W.heap.size)->E W []->Calls prog 87 #[OS sb,.func (.func 88) #[OS mb] #[],.func (.func 89) #[OS mb] #[],.func (.func cf) #[] bs] W λe w'=>e=.returned (.tuple #[])/\Below n0 w0 w'/\∃acc,E w' acc/\mH p rs N R lss.length ms cn fs acc):=λW sb rv us rows fs h hv hs hxx hX2 hE2=>LU cf bs hcf p o v N R lv lss n0 w0 hsz md mb ob sv ms rs hmd hx cn X E fs hv hen hL sb rv us rows W (hb.trans (h.mono hn0)) hs hxx hX2 hE2;have KEEP:OE (∀W,LT w W->(W.cell? (OV md 6)=some (OS mb)/\W.cell? (OV mb 0)=some (OS ob))):=λW h=>⟨(HMD.o W h).c6,(HMD.o W h).m0⟩;have KEEP2:OE (∀W,Below n0 w0 W->(W.cell? (OV md 6)=some (OS mb)/\W.cell? (OV mb 0)=some (OS ob))):=λW h=>by have hm:=hmd.below (w':=W) (by cases hsz;exact h);exact⟨hm.c6,hm.m0⟩
 have HB0:OE (LT w w.drew):=(NM _ _).drew;obtain⟨ga,gc,rfl,_⟩:=hg;clear hmd hx hen hL hb hX hE hd HMD hR3 hn0;go_enter func45,ntmps45;refine wp_region_held_drew (S:=λW=>W.cell? (OV md 6)=some (OS mb)/\W.cell? (OV mb 0)=some (OS ob)) (by kernel_rfl) (KEEP.o _ HB0.o) (λhHeld=>?_);refine bO 0 6 rfl rfl hHeld (Ox ⟨rfl,λw ⟨s1,s2⟩=>by go_simp<;>with_reducible rfl⟩) ?_;refine bO 1 7 rfl rfl hHeld (Ox ⟨rfl,λw ⟨s1,s2⟩=>by go_simp<;>with_reducible rfl⟩) ?_;refine bO 2 8 rfl rfl hHeld (Ox ⟨rfl,λw ⟨s1,s2⟩=>by go_simp<;>with_reducible rfl⟩) ?_;refine bO 3 9 rfl rfl hHeld (Ox ⟨rfl,λw ⟨s1,s2⟩=>by go_simp<;>with_reducible rfl⟩) ?_;refine bO 4 10 rfl rfl hHeld (Ox ⟨rfl,λw ⟨s1,s2⟩=>by go_simp<;>with_reducible rfl⟩) ?_;refine bO 5 11 rfl rfl hHeld (Ox ⟨rfl,λw ⟨s1,s2⟩=>by go_simp<;>with_reducible rfl⟩) ?_;refine bO 6 12 rfl rfl hHeld (Ox ⟨rfl,λw ⟨s1,s2⟩=>by go_simp<;>with_reducible rfl⟩) ?_;refine bO 7 13 rfl rfl hHeld (Ox ⟨rfl,λw ⟨s1,s2⟩=>by go_simp<;>with_reducible rfl⟩) ?_;refine bO 8 14 rfl rfl hHeld (Ox ⟨rfl,λw ⟨s1,s2⟩=>by go_simp<;>with_reducible rfl⟩) ?_;refine bO 9 15 rfl rfl hHeld (Ox ⟨rfl,λw ⟨s1,s2⟩=>by go_simp<;>with_reducible rfl⟩) ?_;refine bO 10 16 rfl rfl hHeld (Ox ⟨rfl,λw ⟨s1,s2⟩=>by go_simp<;>with_reducible rfl⟩) ?_;refine bO 11 17 rfl rfl hHeld (Ox ⟨rfl,λw ⟨s1,s2⟩=>by go_simp<;>with_reducible rfl⟩) ?_;refine bO 12 18 rfl rfl hHeld (Ox ⟨rfl,λw ⟨s1,s2⟩=>by go_simp<;>with_reducible rfl⟩) ?_;refine bO 13 19 rfl rfl hHeld (Ox ⟨rfl,λw ⟨s1,s2⟩=>by go_simp<;>with_reducible rfl⟩) ?_;refine bO 14 20 rfl rfl hHeld (Ox ⟨rfl,λw ⟨s1,s2⟩=>by go_simp<;>with_reducible rfl⟩) ?_;refine bO 18 24 rfl rfl hHeld (Ox ⟨rfl,λw ⟨s1,s2⟩=>by go_simp<;>with_reducible rfl⟩) ?_;refine bO 19 25 rfl rfl hHeld (Ox ⟨rfl,λw ⟨s1,s2⟩=>by go_simp<;>with_reducible rfl⟩) ?_;refine bO 20 26 rfl rfl hHeld (Ox ⟨rfl,λw ⟨s1,s2⟩=>by go_simp<;>with_reducible rfl⟩) ?_;refine bO 21 27 rfl rfl hHeld (Ox ⟨rfl,λw ⟨s1,s2⟩=>by go_simp<;>with_reducible rfl⟩) ?_;refine bO 22 28 rfl rfl hHeld (Ox ⟨rfl,λw ⟨s1,s2⟩=>by go_simp<;>with_reducible rfl⟩) ?_;refine bO 23 29 rfl rfl hHeld (Ox ⟨rfl,λw ⟨s1,s2⟩=>by go_simp<;>with_reducible rfl⟩) ?_;refine bO 24 30 rfl rfl hHeld (Ox ⟨rfl,λw ⟨s1,s2⟩=>by go_simp<;>with_reducible rfl⟩) ?_;refine bO 25 31 rfl rfl hHeld (Ox ⟨rfl,λw ⟨s1,s2⟩=>by go_simp<;>with_reducible rfl⟩) ?_;refine bO 26 32 rfl rfl hHeld (Ox ⟨rfl,λw ⟨s1,s2⟩=>by go_simp<;>with_reducible rfl⟩) ?_;refine bO 27 33 rfl rfl hHeld (Ox ⟨rfl,λw ⟨s1,s2⟩=>by go_simp<;>with_reducible rfl⟩) ?_;refine bO 28 34 rfl rfl hHeld (Ox ⟨rfl,λw ⟨s1,s2⟩=>by go_simp<;>with_reducible rfl⟩) ?_;try simp only[Act.put,List.setIfInBounds_toArray,List.set_cons_zero,List.set_cons_succ]
 refine wpAnyH_ready (rs:=[15]) (by kernel_rfl) (by simp) ?_;refine AllReadyH.cons rfl (λK hK=>?_) AllReadyH.nil;go_simp;refine(HVE.o _ HB0.o).mono ?_;rintro e w3 ⟨ua,uc,fs,rfl,q1,HPF,q2⟩;have HF3:=ae q1;have HB3:=ae q2;clear q1 q2;dsimp only;refine hK.out _ _ (KEEP.o w3 HB3.o) (λhHeld=>?_);clear hK K;try simp only[Act.put,List.setIfInBounds_toArray,List.set_cons_zero,List.set_cons_succ]
 try simp only[Act.put,List.setIfInBounds_toArray,List.set_cons_zero,List.set_cons_succ]
 refine wpAnyH_ready (rs:=[16]) (by kernel_rfl) (by simp) ?_;refine AllReadyH.cons rfl (λK hK=>?_) AllReadyH.nil;go_simp;refine hK.out _ _ (KEEP.o _ (fX HB3.o)) (λhHeld=>?_);clear hK K;try simp only[Act.put,List.setIfInBounds_toArray,List.set_cons_zero,List.set_cons_succ]
 try simp only[Act.put,List.setIfInBounds_toArray,List.set_cons_zero,List.set_cons_succ]
 refine wpAnyH_ready (rs:=[17]) (by kernel_rfl) (by simp) ?_;refine AllReadyH.cons rfl (λK hK=>?_) AllReadyH.nil;go_simp;refine(HNS.o _ _ fs _ (fX HB3.o) HPF.o.2 (by simp[go_sem]) (HF3.o.below ai)).mono ?_;rintro e w4 ⟨sb,rv,us,rows,rfl,HS4,q1,q2⟩;have HE4:=ae q1;have HB4:=ae q2;clear q1 q2;dsimp only;refine hK.out _ _ (KEEP.o w4 HB4.o) (λhHeld=>?_);clear hK K;try simp only[Act.put,List.setIfInBounds_toArray,List.set_cons_zero,List.set_cons_succ]
 try simp only[Act.put,List.setIfInBounds_toArray,List.set_cons_zero,List.set_cons_succ]
 refine wpAnyH_ready (rs:=[29]) (by kernel_rfl) (by simp) ?_;refine AllReadyH.cons rfl (λK hK=>?_) AllReadyH.nil;go_simp;refine(HDV.o w4 sb rv us rows fs HB4.o HPF.o.2 HS4.o.1 HS4.o.2.1 HS4.o.2.2 HE4.o).mono ?_;rintro e w5 ⟨rfl,q1,acc,q2,q3⟩;have HB5:=ae q1;have HE5:=ae q2;have HR5:=ae q3;clear q1 q2 q3;dsimp only;refine hK.out _ _ (KEEP2.o w5 HB5.o) (λhHeld=>?_);clear hK K;try simp only[Act.put,List.setIfInBounds_toArray,List.set_cons_zero,List.set_cons_succ]
 try simp only[Act.put,List.setIfInBounds_toArray,List.set_cons_zero,List.set_cons_succ]
 refine wpAnyH_done (by kernel_rfl) ?_ _;go_wp2_with fail;go_end0;exact⟨rfl,HB5.o,fs,acc,HPF.o.1,HE5.o,HR5.o⟩
theorem LW{p o v:Int}{N R:Nat}{lv:OR}{lss:OH}{md mb:Nat}{sv:OR}{ms:OK}{rs:OJ}(hc:gE p o N R lss)(hm:iT p o v N R lv lss w md mb ob sv ms rs){g:OG}{fs acc:OI}(hp:fs.Perm (dH 1 1 N g R))(h:mH p rs N R lss.length ms (λ_=>false) fs acc):acc.all (eB R)=true↔lJ p N R lss g:=by
 have hx:=hc.hx.acx;rw[Ln hc hm.tr];have hnil:∀{l:OI},(∀t∈l,(λ_:Ft=>false) t=true)->l=[]:=fun {l} hl=>by
  cases l with
  |nil=>rfl
  |cons a l=>have:=hl a (by simp);simp at this
 rcases h with ⟨rows,rows2,h1,h2,h3⟩|⟨t,rows,acc0,h1,h2,h3,h4,h5⟩
 .have e:=hnil h2;subst e;exact⟨λ_=>Lp hx hp (by omega) (by omega) h1 h3 (λt ht=>by simp at ht),λ_=>rfl⟩
 .have e:=hnil h2;subst e;subst h5;by_cases ht:t.pl<R
  .have hno:=CW hx hp (by omega) (by omega) h1 (λt ht=>by simp at ht) ht hm.mss hm.gone hm.top h3;refine⟨λh=>?_,λh=>(hno h).elim⟩;simp[eB,ht] at h
  .refine⟨λ_=>Lq hx hp (by omega) (by omega) h1 ht,λ_=>?_⟩;simp[eB];omega
theorem LX(p o v:Int)(N R:Nat)(lv gv:OR)(lss:OH)(g:OG)(w:OQ)(md mb ob:Nat)(sv:OR)(ms:OK)(rs:OJ)(hc:gE p o N R lss)(hm:iT p o v N R lv lss w md mb ob sv ms rs)(hg:Vl w gv g)(hd:sN p o N R g):Calls prog 21 #[OS md,gv] w λe w'=>∃b,e=.returned (.bool b)/\(b=true↔lJ p N R lss g)/\LT w w':=by
 obtain⟨w1,hw1⟩:∃w1,w1=w.alloc (.cells #[OS md] 50):=⟨_,rfl⟩;have HB1:OE (LT w w1):=by rw[hw1];exact ai
 have c1:w1.cell? (OV w.heap.size 0)=some (OS md):=by rw[hw1];simp[go_sem]
 obtain⟨w2,hw2⟩:∃w2,w2=w1.alloc (.cells #[.bool true] 4):=⟨_,rfl⟩;have HB2:OE (LT w1 w2):=by rw[hw2];exact ai
 have HE2:OE (po w1.heap.size w1 w1.heap.size R w2 []):=by refine⟨HB2.o,?_⟩;rw[hw2];exact⟨by simp,.inr ⟨w1.heap.size,1,_,rfl,NL _,heap_alloc_new w1 _,NL _,by decide,by simp,by simp⟩⟩
 have c2:=af c1 HB2.o;have hm1:=hm.below HB1.o;have HDV:=ae (Dk 46 #[OS w.heap.size,OS w1.heap.size] (vf func46 (by kernel_rfl)) p o v N R lv lss w1.heap.size w1 rfl md mb ob sv ms rs hm1 hc.hx.acx (λ_=>false) (λk=>k=w1.heap.size) (po w1.heap.size w1 w1.heap.size R) (λsb=>Ik _ w1 rfl sb ob _ R) (λsb W acc t tb h1 h2 h3 h4 h5 h6 _ h7=>(Il _ w1 rfl sb ob _ w.heap.size md R c1 hm1.c4 W acc t tb h1 h2 h3 h5 h6 (λu hu=>by have:=h7 u hu;simp at this)).mono λe w' ⟨q1,q2,q3,q4,q5⟩=>⟨q1,q2,q3,q4,λrw us rows hs _=>q5 rw us rows hs⟩) gv g w2 HB2.o (λk e=>by subst e;rw[hw2];simp) HE2.o (hg.below (Io HB1.o HB2.o)) hd);have HFIN:OE (∀fs acc,fs.Perm (dH 1 1 N g R)->mH p rs N R lss.length ms (λ_=>false) fs acc->(acc.all (eB R)=true↔lJ p N R lss g)):=λfs acc h1 h2=>LW hc hm h1 h2;obtain⟨ga,gc,rfl,_⟩:=hg;clear hm hm1 hc hd c1;go_enter func21,ntmps21;go_upto_region 1 with fail;rw[<-hw1];clear hw1;go_upto_region 2 with fail;rw[<-hw2];clear hw2;go_wp2_with (go_at_call 45;refine HDV.o.mono ?_;rintro e w9 ⟨rfl,q1,fs,acc,q2,q3,q4⟩;have HB9:=ae (Io HB1.o q1);have HR9:=ae (HFIN.o fs acc q2 q4);have c9:=NJ q3.2 0 (by omega);simp only[List.getElem?_cons_zero] at c9;clear q1 q2 q3 q4);go_ret;exact⟨_,rfl,HR9.o,HB9.o⟩
end Go.Proofs.YtjkalahhpobefaaGreat
