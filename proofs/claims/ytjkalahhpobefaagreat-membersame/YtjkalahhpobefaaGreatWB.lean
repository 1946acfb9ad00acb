/- VSum, VTimes of the reference. -/
import Derived.Test.YtjkalahhpobefaaGreatPL
import Derived.Test.YtjkalahhpobefaaGreatP
set_option maxHeartbeats 2000000
set_option maxRecDepth 100000
namespace Go.Proofs.YtjkalahhpobefaaGreat
set_option linter.all false
open Go.Proofs.Tryz Go.RowKit
variable{fss:OG}{c:Nat}{a:Option Addr}{w:OQ}
theorem jY(h:Vl w (.slice a fss.length c) fss)(k:Nat)(hk:k<fss.length):∃b off fa fc,a=some (OV b off)/\b<w.heap.size/\w.cell? (OV b (off+k))=some (.slice fa (fss.getD k []).length fc)/\Pl w (.slice fa (fss.getD k []).length fc) (fss.getD k []):=by obtain⟨a2,c2,e,h1⟩:=h;obtain⟨b,off,rfl,hlt,hat⟩:=h1 (by omega);simp only[N8,true_and] at e;obtain⟨rfl,rfl⟩:=e;obtain⟨v,hc,hp⟩:=hat k hk;have hp2:=hp;obtain⟨fa,fc,rfl,_,_⟩:=hp;exact⟨b,off,fa,fc,rfl,hlt,hc,hp2⟩
theorem rj{α:Type}(l:List α)(x:α):(l++[x]).length=l.length+1:=by simp
theorem sn{α:Type}(l:List (List α))(k:Nat)(h:k<l.length):l.take (k+1)=l.take k++[l.getD k []]:=by rw[Of h];simp[NY,h]
theorem wg{α:Type}(F:List α->List α)(l:List (List α))(k:Nat)(h:k<l.length):(l.map F).getD k []=F (l.getD k []):=by simp[NY,h]
def lF(p o:Int)(fss gss:OG):OG:=List.zipWith (λf g=>bm p o (f++g)) fss gss
variable{gss:OG}{p o:Int}
theorem BP(h:fss.length=gss.length):(lF p o fss gss).length=fss.length:=by unfold lF;rw[List.length_zipWith];omega
theorem BO{k:Nat}(h:fss.length=gss.length)(hk:k<fss.length):(lF p o fss gss).getD k []=bm p o (fss.getD k []++gss.getD k []):=by unfold lF;simp[NY,List.getElem?_zipWith,hk,show k<gss.length by omega]
def jy(p o:Int)(f:Lt)(gss:OG):OG:=gss.map λg=>bm p o (aH p f g)
theorem Ce(w:OQ)(x:OR)(T:TypeId):∀j u,[x][j]?=some u->(w.alloc (.cells #[x] T)).cell? (((OV w.heap.size 0):Addr).add j)=some u:=by
 intro j u hj;rcases j with _|j
 .simp at hj;subst hj;simp[Addr.add,go_sem]
 .simp at hj
def sS(w:OQ)(b off:Nat)(vss:OH):Prop:=
 ∀i,i<vss.length->∃v,w.cell? (OV b (off+i))=some v/\Vl w v (vss.getD i [])
variable{vss:OH}{w':OQ}
theorem sS.below{b off:Nat}(h:sS w b off vss)(hlt:b<w.heap.size)(hb:LT w w'):sS w' b off vss:=by intro i hi;obtain⟨v,hc,hs⟩:=h i hi;exact⟨v,by rw[hb.cell (p:=(OV b (off+i))) hlt];exact hc,hs.below hb⟩
def Wl(w:OQ)(v:OR)(vss:OH):Prop:=
 ∃a cap,v=.slice a vss.length cap/\(0<vss.length->∃b off,a=some (OV b off)/\b<w.heap.size/\sS w b off vss)
theorem Wl.below{v:OR}(h:Wl w v vss)(hb:LT w w'):Wl w' v vss:=by obtain⟨a,cap,rfl,h⟩:=h;refine⟨a,cap,rfl,λhp=>?_⟩;obtain⟨b,off,rfl,hlt,hc⟩:=h hp;exact⟨b,off,rfl,NQ hlt hb.size,hc.below hlt hb⟩
theorem lC(h:Wl w (.slice a vss.length c) vss)(k:Nat)(hk:k<vss.length):∃b off va vc,a=some (OV b off)/\b<w.heap.size/\w.cell? (OV b (off+k))=some (.slice va (vss.getD k []).length vc)/\Vl w (.slice va (vss.getD k []).length vc) (vss.getD k []):=by obtain⟨a2,c2,e,h1⟩:=h;obtain⟨b,off,rfl,hlt,hat⟩:=h1 (by omega);simp only[N8,true_and] at e;obtain⟨rfl,rfl⟩:=e;obtain⟨v,hc,hp⟩:=hat k hk;have hp2:=hp;obtain⟨fa,fc,rfl,_⟩:=hp;exact⟨b,off,fa,fc,rfl,hlt,hc,hp2⟩
def iu{α:Type}(F:List α->Int):List (List α)->Int
 |[]=>0
 |a::r=>if F a=0 then iu F r else F a
theorem BN{α:Type}(F:List α->Int)(l:List (List α))(k:Nat)(h:k<l.length):iu F (l.drop k)=if F (l.getD k [])=0 then iu F (l.drop (k+1)) else F (l.getD k []):=by rw[Ov h];simp[iu,NY,h]
theorem wZ{α:Type}{F:List α->Int}:∀{l:List (List α)},iu F l=0->∀a∈l,F a=0
 |[],_,a,ha=>by simp at ha
 |b::r,h,a,ha=>by
  unfold iu at h;by_cases hb:F b=0
  .rw[Oe hb] at h;rcases Og.1 ha with rfl|ha
   .exact hb
   .exact wZ h a ha
  .rw[Oc hb] at h;exact absurd h hb
def fP(p n o rank:Int)(fss:OG):Int:=if (fss.length:Int)≠rank then 1 else ep p n o fss
def gU(p n o rank:Int)(vss:OH):Int:=if cE rank 1 40=false then 3 else if 60<vss.length then 2 else iu (fP p n o rank) vss
def cD(p n o v rank:Int)(vss:OH):Int:=if bJ p n o v≠0 then bJ p n o v else gU p n o rank vss
theorem Ms(p n o v rank:Int)(lv:OR)(vss:OH)(w:OQ)(hR:bJ p n o v=0)(hs:Wl w lv vss):Calls prog 36 #[aI p n o v,OW rank,lv] w λe w'=>e=.returned (OW (gU p n o rank vss))/\LT w w':=by
 have HS:=ae hs;obtain⟨la,lc,rfl,_⟩:=hs;obtain⟨hpr,hn1,hn2,ho,_⟩:=kg hR;have HP:=ae (dS hpr);have HN:=ae (NN hn1 hn2);have HO:=ae ho;obtain⟨w1,hw1⟩:∃w1,w1=w.alloc (.cells #[OW p,OW n,OW o,OW v] 23):=⟨_,rfl⟩;have hbx:bA w1 w.heap.size p n o v:=by rw[hw1];exact bA.new w p n o v _
 have hbw:LT w w1:=by rw[hw1];exact bE
 have HBX:=ae hbx;have HBW:=ae hbw;clear hR hpr ho hbx hbw;cases hbt:cE rank 1 40
 .have HE:OE (gU p n o rank vss=3):=by show _=_;unfold gU;rw[Oe hbt]
  rw[HE.o];go_enter func36,ntmps36;go_wp2_with (go_at_call 69;refine(gi _ _ _ _).mono ?_;rw[hbt];rintro e w' ⟨rfl,rfl⟩);go_ret;rw[<-hw1];exact⟨rfl,HBW.o⟩
 .by_cases hlen:60<vss.length
  .have HE:OE (gU p n o rank vss=2):=by show _=_;unfold gU;rw[Oc (by rw[hbt];simp),Oe hlen]
   rw[HE.o];go_enter func36,ntmps36;go_wp2_with (go_at_call 69;refine(gi _ _ _ _).mono ?_;rw[hbt];rintro e w' ⟨rfl,rfl⟩);go_ret;rw[<-hw1];exact⟨rfl,HBW.o⟩
  .have HE:OE (gU p n o rank vss=iu (fP p n o rank) vss):=by show _=_;unfold gU;rw[Oc (by rw[hbt];simp),Oc hlen]
   rw[HE.o];have HRK:OE (1<=rank/\rank<=40):=by simpa [cE,OE] using hbt
   go_enter func36,ntmps36;go_wp2_with (go_at_call 69;refine(gi _ _ _ _).mono ?_;rw[hbt];rintro e w' ⟨rfl,rfl⟩);rw[<-hw1];clear hw1 hbt;go_loopw [7] (λi wr=>∃k:Nat,k<=vss.length/\i=OW k/\iu (fP p n o rank) vss=iu (fP p n o rank) (vss.drop k)/\LT w1 wr) (λi _=>vss.length-(intOf i).toNat);case atStart=>exact⟨0,NS _,rfl,rfl,NM _ _⟩
   case round=>
    obtain⟨k,hk,rfl,her,hbr⟩:=hrel;have HBR:=ae hbr;have HER0:=ae her;clear hbr her;by_cases hk2:k<vss.length
    .have HER:=ae (HER0.o.trans (BN (fP p n o rank) vss k hk2));obtain⟨b,off,va,vc,rfl,hlt,c0,hvl⟩:=lC HS.o k hk2;have HDN:=ae (Io HBW.o HBR.o);generalize vss.getD k []=fss at c0 hvl HER;have HVL:=ae hvl;have d0:=af c0 HDN.o;clear hvl;cases hln:((fss.length:Int) !=rank)
     .have hrk:(fss.length:Int)=rank:=by simpa using hln
      subst hrk;have HEV:OE (fP p n o (fss.length:Int) fss=ep p n o fss):=by show _=_;unfold fP;rw[Oc (by simp)]
      have hf40:fss.length<=40:=by have:=HRK.o;omega
      clear hln;go_wp2_with fail;go_loopw [8] (λi wm=>∃j:Nat,j<=fss.length/\i=OW j/\ep p n o fss=ep p n o (fss.drop j)/\LT w1 wm) (λi _=>fss.length-(intOf i).toNat);case atStart=>exact⟨0,NS _,rfl,rfl,HBR.o⟩
      case round=>
       clear d0;obtain⟨j,hj,rfl,hej,hbm⟩:=hrel;have HBM:=ae hbm;have HEJ:=ae hej;clear hbm hej;by_cases hj2:j<fss.length
       .have HFJ:=ae (HEJ.o.trans (BM p n o fss j hj2));obtain⟨b2,off2,fa,fc,rfl,hlt2,e0,hpf⟩:=jY HVL.o j hj2;generalize fss.getD j []=f at e0 hpf HFJ;have HPF:=ae (hpf.below HBW.o);obtain⟨_,bx0,bx1,bx2,bx3⟩:=HBX.o;have KEEP:OE (∀W,LT w1 W->(OE (LT w1 W)/\W.cell? (OV w.heap.size 0)=some (OW p)/\W.cell? (OV w.heap.size 1)=some (OW n)/\W.cell? (OV w.heap.size 2)=some (OW o)/\W.cell? (OV w.heap.size 3)=some (OW v)/\W.cell? (OV b (off+k))=some (.slice (some (OV b2 off2)) fss.length vc)/\W.cell? (OV b2 (off2+j))=some (.slice fa f.length fc))):=
         λW hb=>⟨hb,af bx0 hb,af bx1 hb,af bx2 hb,af bx3 hb,af (af c0 HBW.o) hb,af (af e0 HBW.o) hb⟩
        have HB0:OE (LT w1 wr.drew):=HBM.o.drew;clear bx0 bx1 bx2 bx3 e0 hpf;go_wp2_with fail;go_region_held (λW=>OE (LT w1 W)/\W.cell? (OV w.heap.size 0)=some (OW p)/\W.cell? (OV w.heap.size 1)=some (OW n)/\W.cell? (OV w.heap.size 2)=some (OW o)/\W.cell? (OV w.heap.size 3)=some (OW v)/\W.cell? (OV b (off+k))=some (.slice (some (OV b2 off2)) fss.length vc)/\W.cell? (OV b2 (off2+j))=some (.slice fa f.length fc))
         (first|exact KEEP.o _ HB0.o|exact KEEP.o _ (Io HB0.o hb9))
         (first|(go_at_call 70;refine(JQ p n o v _ f _ HP.o HN.o HO.o ?_).mono ?_;exact HPF.o.below HB0.o;rintro e w9 ⟨rfl,hb9⟩))
        have HB9:=ae (show LT w1 w9 from Io HB0.o hb9);clear hb9;cases hz:(de p n o f !=0)
        .have HZ:OE (de p n o f=0):=by simpa [OE] using hz
         go_wp2_with fail;go_roundw;case rel=>exact⟨j+1,by omega,by go_num,by rw[HFJ.o,Oe HZ.o],HB9.o⟩
         case measure=>simp[intOf];omega
        .have HZ:OE (de p n o f≠0):=by simpa [OE] using hz
         go_wp2_with fail;go_ret;exact⟨cM (by
          have h:ep p n o fss=de p n o f:=by rw[HFJ.o,Oc HZ.o]
          rw[HER.o,HEV.o,h,Oc HZ.o]),Io HBW.o HB9.o⟩
       .have hz:ep p n o fss=0:=by rw[HEJ.o,Ow (by omega)];rfl
        have HZ:=ae hz;clear hz;go_wp2_with fail;go_roundw;case rel=>exact⟨k+1,by omega,by go_num,by rw[HER.o,HEV.o,Oe HZ.o],HBM.o⟩
        case measure=>simp[intOf];omega
     .have HEV:OE (fP p n o rank fss=1):=by show _=_;unfold fP;rw[Oe (by simpa using hln)]
      go_wp2_with fail;go_ret;exact⟨cM (by rw[HER.o,HEV.o];simp),Io HBW.o HBR.o⟩
    .go_wp2;go_ret;exact⟨cM (by rw[HER0.o,Ow (by omega)];rfl),Io HBW.o HBR.o⟩
theorem Mu(p n o v rank:Int)(lv:OR)(vss:OH)(w:OQ)(hs:Wl w lv vss):Calls prog 14 #[aI p n o v,OW rank,lv] w λe w'=>e=.returned (OW (cD p n o v rank vss))/\LT w w':=by
 have HS:=ae hs;obtain⟨la,lc,rfl,_⟩:=hs;cases hR:(bJ p n o v==0)
 .have HE:OE (cD p n o v rank vss=bJ p n o v):=by show _=_;unfold cD;rw[Oe (by simpa using hR)]
  rw[HE.o];go_enter func14,ntmps14;go_wp2_with (go_at_call 35;refine(xV _ _ _ _ _).mono ?_;rintro e w1 ⟨rfl,hb1⟩;have HB1:=ae (show LT w w1 from bE.trans (hb1.mono (by simp)));clear hb1);go_ret;exact⟨rfl,HB1.o⟩
 .have hR0:bJ p n o v=0:=by simpa using hR
  have HR:=ae hR0;have HE:OE (cD p n o v rank vss=gU p n o rank vss):=by show _=_;unfold cD;rw[Oc (by simpa using hR0)]
  rw[HE.o];clear hR0;go_enter func14,ntmps14;go_wp2_with fail;refine(xV _ _ _ _ _).mono ?_;rw[HR.o];rintro e w1 ⟨rfl,hb1⟩;have HB1:=ae (show LT w w1 from bE.trans (hb1.mono (by simp)));obtain⟨_,bx0,bx1,bx2,bx3⟩:=(bA.new w p n o v 23).below hb1;clear hb1;go_wp2_with fail;refine(Ms p n o v rank _ vss _ HR.o (HS.o.below HB1.o)).mono ?_;rintro e w2 ⟨rfl,hb2⟩;have HB2:=ae (Io HB1.o hb2);clear hb2;go_wp2;go_ret;exact⟨rfl,HB2.o⟩
end Go.Proofs.YtjkalahhpobefaaGreat
namespace Go.Proofs.YtjkalahhpobefaaGreat
open Go.Proofs.Tryz
set_option linter.all false
open Go.ChangeShapes Go.WideShapes Go.ChangeAt Go.RowKit Go.Joins Go.Deep
theorem Tryz.cellsPolyX:prog.cellsOf 40=1:=by kernel_rfl
theorem Tryz.cellsVecX:prog.cellsOf 32=1:=by kernel_rfl
theorem LJ{H:Type}{enc:TypeId×OR->H}{W:OQ}{fuel:Nat}{t:TypeId}{v:OR}{x:DataW H×List MemPlace}(ht:prog.underlying t=some (.slice 40))(h:DataW.trod enc prog W 0 (λ_=>true) true fuel t [v]=some x):∃fs:OG,Vl W v fs:=by
 rcases open_slice1 ht Tryz.cellsPolyX h with ⟨hcs,_⟩|⟨a,len,cap,m,n,V,D,P,hcs,_,hl,hm,hmm,_,hx⟩
 .simp at hcs;subst hcs;exact⟨[],none,0,rfl,λh=>absurd h (by simp)⟩
 .simp at hcs;subst hcs;simp at hmm;subst hmm;obtain⟨T,hT⟩:=choose_lt (α:=Lt) (n:=m) (p:=λi f=>Pl W (V i) f) (λi hi=>Je (hx i hi).2);refine⟨(List.range len).map T,some a,m,by simp,λhp=>?_⟩;simp at hp;obtain⟨b,off,rfl⟩:=qR (by simpa using (hx 0 (by omega)).1);refine⟨b,off,rfl,nh (hx 0 (by omega)).1,λi hi=>?_⟩;simp at hi;have hg:((List.range len).map T).getD i []=T i:=by simp[NY,hi]
  rw[hg];exact⟨V i,nj (hx i (by omega)).1,hT i (by omega)⟩
end Go.Proofs.YtjkalahhpobefaaGreat
namespace Go.Proofs.YtjkalahhpobefaaGreat
set_option linter.all false
open Go.Proofs.Tryz Go.RowKit
theorem pE{α:Type}(l:List (List α))(k:Nat)(h:k<l.length):l.getD k []∈l:=by rw[NY,NZ h];simp
theorem Vl.empty(w:OQ):Vl w (.slice none 0 0) []:=⟨none,0,rfl,λh=>absurd h (by simp)⟩
theorem J2(x y:OR)(xs:OP)(w:OQ)(hm:xs.length<=1000000)(hx:Sl w x xs)(hy:Sl w y xs):Calls prog 166 #[x,y] w λe w'=>e=.returned (.bool true)/\LT w w':=by
 obtain⟨xa,xc,rfl,hxc⟩:=hx;obtain⟨ya,yc,rfl,hyc⟩:=hy;have HX:=ae hxc;have HY:=ae hyc;clear hxc hyc;go_enter func166,ntmps166;go_wp2;go_loopw [13] (λi wr=>∃k:Nat,k<=xs.length/\i=OW k/\LT w wr) (λi _=>xs.length-(intOf i).toNat);case atStart=>exact⟨0,NS _,rfl,NM _ _⟩
 case round=>
  obtain⟨k,hk,rfl,hbr⟩:=hrel;have HBR:=ae hbr;clear hbr;by_cases hk2:k<xs.length
  .obtain⟨b,off,rfl,hlt,hat⟩:=HX.o (by omega);obtain⟨b2,off2,rfl,hlt2,hat2⟩:=HY.o (by omega);have c0:=af (hat k hk2) HBR.o;have d0:=af (hat2 k hk2) HBR.o;generalize xs.getD k 0=z at c0 d0;have hkI:(k:Int)<(xs.length:Int):=by omega
   clear hat hat2;go_wp2;go_region;all_goals
    go_wp2;go_roundw;case rel=>exact⟨k+1,by omega,by go_num,by first|exact HBR.o.drew|exact HBR.o⟩
    case measure=>simp[intOf];omega
  .have e:k=xs.length:=by omega
   subst e;go_wp2;go_ret;exact⟨rfl,HBR.o⟩
theorem J3(c:Int)(x y:OR)(xs:OP)(w:OQ)(hm:xs.length<=1000000)(hx:Sl w x xs)(hy:Sl w y xs):Calls prog 165 #[.agg #[OW c,x],.agg #[OW c,y]] w λe w'=>e=.returned (.bool true)/\LT w w':=by have HE:OE (∀W,LT w W->Calls prog 166 #[x,y] W λe w'=>e=.returned (.bool true)/\LT W w'):=λW hb=>J2 x y xs W hm (hx.below hb) (hy.below hb);obtain⟨xa,xc,rfl,_⟩:=hx;obtain⟨ya,yc,rfl,_⟩:=hy;have HB2:OE (LT w ((w.alloc (.cells #[OW c,.slice xa xs.length xc] 47)).alloc (.cells #[OW c,.slice ya xs.length yc] 47))):=dR;go_enter func165,ntmps165;go_wp2_with (go_at_call 166;refine(HE.o _ HB2.o).mono ?_;rintro e w9 ⟨rfl,hb9⟩;have HB9:=ae (Io HB2.o hb9);clear hb9);go_ret;exact⟨rfl,HB9.o⟩
theorem J4(x y:OR)(fs:Lt)(w:OQ)(hm:fs.length<=1000000)(hl:∀t∈fs,t.2.length<=3)(hx:Pl w x fs)(hy:Pl w y fs):Calls prog 164 #[x,y,.func (.func 165) #[] #[]] w λe w'=>e=.returned (.bool true)/\LT w w':=by
 obtain⟨xa,xc,rfl,_,hxc⟩:=hx;obtain⟨ya,yc,rfl,_,hyc⟩:=hy;have HX:=ae hxc;have HY:=ae hyc;have HL:=ae hl;clear hxc hyc hl;go_enter func164,ntmps164;go_wp2_with fail;go_loopw [17] (λi wr=>∃k:Nat,k<=fs.length/\i=OW k/\LT w wr) (λi _=>fs.length-(intOf i).toNat);case atStart=>exact⟨0,NS _,rfl,NM _ _⟩
 case round=>
  obtain⟨k,hk,rfl,hbr⟩:=hrel;have HBR:=ae hbr;clear hbr;by_cases hk2:k<fs.length
  .obtain⟨b,off,rfl,hlt,hat⟩:=HX.o (by omega);obtain⟨b2,off2,rfl,hlt2,hat2⟩:=HY.o (by omega);obtain⟨c0,ev,c1,hse⟩:=hat k hk2;obtain⟨d0,ev2,d1,hse2⟩:=hat2 k hk2;have HL3:=ae (HL.o _ (mv fs k hk2));generalize fs.getD k bH=t at c0 hse d0 hse2 HL3;obtain⟨tc,te⟩:=t;simp only at c0 d0 hse hse2;have HT:OE (∀W,LT wr W->Calls prog 165 #[.agg #[OW tc,ev],.agg #[OW tc,ev2]] W λe w'=>e=.returned (.bool true)/\LT W w'):=λW hb=>J3 tc ev ev2 te W (by have:=HL3.o;simp only at this;omega) (hse.below (Io HBR.o hb)) (hse2.below (Io HBR.o hb));obtain⟨ea,ec,rfl,_⟩:=hse;obtain⟨ea2,ec2,rfl,_⟩:=hse2;have e0:=af c0 HBR.o;have e1:=af c1 HBR.o;have f0:=af d0 HBR.o;have f1:=af d1 HBR.o;have HB2:OE (LT wr ((wr.alloc (.cells #[OW tc,.slice ea te.length ec] 47)).alloc (.cells #[OW tc,.slice ea2 te.length ec2] 47))):=dR;have g0:(wr.alloc (.cells #[OW tc,.slice ea te.length ec] 47)).cell? ⟨b2,off2+k*2,none⟩=some (OW tc):=af f0 ai;have g1:(wr.alloc (.cells #[OW tc,.slice ea te.length ec] 47)).cell? ⟨b2,off2+k*2+1,none⟩=some (.slice ea2 te.length ec2):=af f1 ai;have hkI:(k:Int)<(fs.length:Int):=by omega
   clear hat hat2 c0 c1 d0 d1 f0 f1;go_wp2_with (go_at_call 165;refine(HT.o _ HB2.o).mono ?_;rintro e w9 ⟨rfl,hb9⟩;have HB9:=ae (Io HB2.o hb9);clear hb9);go_roundw;case rel=>exact⟨k+1,by omega,by go_num,Io HBR.o HB9.o⟩
   case measure=>simp[intOf];omega
  .have e:k=fs.length:=by omega
   subst e;go_wp2;go_ret;exact⟨rfl,HBR.o⟩
theorem J5(x y:OR)(fs:Lt)(w:OQ)(hm:fs.length<=1000000)(hl:∀t∈fs,t.2.length<=3)(hx:Pl w x fs)(hy:Pl w y fs):Calls prog 137 #[x,y] w λe w'=>e=.returned (.bool true)/\LT w w':=by have HE:=ae (J4 x y fs w hm hl hx hy);obtain⟨xa,xc,rfl,_⟩:=hx;obtain⟨ya,yc,rfl,_⟩:=hy;go_enter func137,ntmps137;go_wp2_with (go_at_call 164;refine HE.o.mono ?_;rintro e w9 ⟨rfl,hb9⟩;have HB9:=ae hb9;clear hb9);go_ret;exact⟨rfl,HB9.o⟩
theorem GL(x y:OR)(v:OG)(w:OQ)(hm:v.length<=1000000)(hl:∀f∈v,f.length<=1000000/\∀t∈f,t.2.length<=3)(hx:Vl w x v)(hy:Vl w y v):Calls prog 136 #[x,y,.func (.func 137) #[] #[]] w λe w'=>e=.returned (.bool true)/\LT w w':=by
 have HX:=ae hx;have HY:=ae hy;have HL:=ae hl;obtain⟨xa,xc,rfl,_⟩:=hx;obtain⟨ya,yc,rfl,_⟩:=hy;clear hl;go_enter func136,ntmps136;go_wp2_with fail;go_loopw [17] (λi wr=>∃k:Nat,k<=v.length/\i=OW k/\LT w wr) (λi _=>v.length-(intOf i).toNat);case atStart=>exact⟨0,NS _,rfl,NM _ _⟩
 case round=>
  obtain⟨k,hk,rfl,hbr⟩:=hrel;have HBR:=ae hbr;clear hbr;by_cases hk2:k<v.length
  .obtain⟨b,off,fa,fc,rfl,hlt,c0,hpf⟩:=jY (HX.o.below HBR.o) k hk2;obtain⟨b2,off2,ga,gc,rfl,hlt2,d0,hpg⟩:=jY (HY.o.below HBR.o) k hk2;have HL3:=ae (HL.o _ (ir v k hk2));generalize v.getD k []=f at c0 hpf d0 hpg HL3;have HE:=ae (J5 _ _ f wr HL3.o.1 HL3.o.2 hpf hpg);have hkI:(k:Int)<(v.length:Int):=by omega
   clear hpf hpg;go_wp2_with (go_at_call 137;refine HE.o.mono ?_;rintro e w9 ⟨rfl,hb9⟩;have HB9:=ae hb9;clear hb9);go_roundw;case rel=>exact⟨k+1,by omega,by go_num,Io HBR.o HB9.o⟩
   case measure=>simp[intOf];omega
  .have e:k=v.length:=by omega
   subst e;go_wp2;go_ret;exact⟨rfl,HBR.o⟩
end Go.Proofs.YtjkalahhpobefaaGreat
