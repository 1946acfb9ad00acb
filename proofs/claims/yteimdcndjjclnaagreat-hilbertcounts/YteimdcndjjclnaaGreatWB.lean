/- VSum, VTimes of the reference. -/
import Derived.Test.YteimdcndjjclnaaGreatRC
import Derived.Test.YteimdcndjjclnaaGreatP
set_option maxHeartbeats 2000000
set_option maxRecDepth 100000
namespace Go.Proofs.YteimdcndjjclnaaGreat
set_option linter.all false
open Go.Proofs.Tryz Go.RowKit
theorem lU{w:World}{a:Option Addr}{c:Nat}{fss:List (List Tm)}(h:Vl w (.slice a fss.length c) fss)(k:Nat)(hk:k<fss.length):∃b off fa fc,a=some ⟨b,off,none⟩/\b<w.heap.size/\w.cell? ⟨b,off+k,none⟩=some (.slice fa (fss.getD k []).length fc)/\Pl w (.slice fa (fss.getD k []).length fc) (fss.getD k []):=by obtain⟨a2,c2,e,h1⟩:=h;obtain⟨b,off,rfl,hlt,hat⟩:=h1 (by omega);simp only[M4,true_and] at e;obtain⟨rfl,rfl⟩:=e;obtain⟨v,hc,hp⟩:=hat k hk;have hp2:=hp;obtain⟨fa,fc,rfl,_,_⟩:=hp;exact⟨b,off,fa,fc,rfl,hlt,hc,hp2⟩
theorem nU{α:Type}(l:List α)(x:α):(l++[x]).length=l.length+1:=by simp
theorem Ll{α:Type}(l:List (List α))(k:Nat)(h:k<l.length):l.take (k+1)=l.take k++[l.getD k []]:=by rw[Na h];simp[MV,h]
theorem Lm{α:Type}(F:List α->List α)(l:List (List α))(k:Nat)(h:k<l.length):(l.map F).getD k []=F (l.getD k []):=by simp[MV,h]
def CD(p o:Int)(fss gss:List (List Tm)):List (List Tm):=List.zipWith (λf g=>cM p o (f++g)) fss gss
def dG(p o:Int)(f:List Tm)(gss:List (List Tm)):List (List Tm):=gss.map λg=>cM p o (bk p f g)
theorem sq(w:World)(x:Value)(T:TypeId):∀j u,[x][j]?=some u->(w.alloc (.cells #[x] T)).cell? ((⟨w.heap.size,0,none⟩:Addr).add j)=some u:=by
 intro j u hj;rcases j with _|j
 .simp at hj;subst hj;simp[Addr.add,go_sem]
 .simp at hj
theorem Ln(p n o v:Int)(N:Nat)(x y:Value)(f:List Tm)(gss:List (List Tm))(w:World)(hp:2<=p/\p<=101)(ho:o=1\/o=2)(hN0:0<N)(hN:N<=3)(hm:gss.length<=1000)(hf:cL p o N f)(hg:∀g∈gss,cL p o N g)(pf:Pl w x f)(pg:Vl w y gss):Calls prog 24 #[aS p n o v,x,y] w λe w'=>∃u,e=.returned u/\Vl w' u (dG p o f gss)/\Below w.heap.size w w':=by
 have HX:=ae pf;have HY:=ae pg;have HF:=ae hf;have HG:=ae hg;have HP:=ae hp;have HO:=ae ho;obtain⟨ax,cx,rfl,_,_⟩:=pf;obtain⟨ay,cy,rfl,_⟩:=pg;unfold dG;clear hf hg hp ho;obtain⟨w1,hw1⟩:∃w1,w1=w.alloc (.cells #[.int .i64 p,.int .i64 n,.int .i64 o,.int .i64 v] 23):=⟨_,rfl⟩;have hbx:bE w1 w.heap.size p n o v:=by rw[hw1];exact bE.new w p n o v _
 have hbw:Below w.heap.size w w1:=by rw[hw1];exact bA
 have HBX:=ae hbx;have HBW:=ae hbw;clear hbx hbw;go_enter func24,ntmps24;go_wp2_with fail;rw[<-hw1];clear hw1;go_loopw [7,8] (λz i wr=>∃(k:Nat)(us:List Value),k<=gss.length/\i=.int .i64 k/\dV w1.heap.size wr z us (((gss.map λg=>cM p o (bk p f g))).take k)/\Below w1.heap.size w1 wr) (λ_ i _=>gss.length-(intOf i).toNat);case atStart=>exact⟨0,[],MP _,rfl,dV.nil _ _,MJ _ _⟩
 case round=>
  obtain⟨k,us,hk,rfl,hrow,hbr⟩:=hrel;have HROW:=ae hrow;have HBR:=ae hbr;obtain⟨ys,hys⟩:∃ys,((gss.map λg=>cM p o (bk p f g))).take k=ys:=⟨_,rfl⟩;have HTL:Nw (ys.length=k):=by show _=_;rw[<-hys,Nj,M6];omega
  rw[hys] at hrow HROW;have HYS:=ae hys;clear hys;obtain⟨za,zc,hz⟩:=bY hrow.own;subst hz;clear hrow hbr;by_cases hk2:k<gss.length
  .obtain⟨b2,off2,ga,gc,rfl,hlt2,d0,hpg⟩:=lU HY.o k hk2;have HDN:=ae (HBW.o.trans (HBR.o.mono HBW.o.size));have HTS:Nw (((gss.map λg=>cM p o (bk p f g))).take (k+1)=ys++[cM p o (bk p f (gss.getD k []))]):=by show _=_;rw[<-HYS.o,Ll _ _ (by rw[M6];exact hk2),Lm (λg=>cM p o (bk p f g)) _ _ hk2]
   have HGK:=ae (HG.o _ (iq gss k hk2));generalize gss.getD k []=g at d0 hpg HTS HGK;have HPG:=ae (hpg.below HBW.o);clear hpg;obtain⟨_,bx0,bx1,bx2,bx3⟩:=HBX.o;have KEEP:Nw (∀W,Below w1.heap.size w1 W->(Nw (Below w1.heap.size w1 W)/\W.cell? ⟨w.heap.size,0,none⟩=some (.int .i64 p)/\W.cell? ⟨w.heap.size,1,none⟩=some (.int .i64 n)/\W.cell? ⟨w.heap.size,2,none⟩=some (.int .i64 o)/\W.cell? ⟨w.heap.size,3,none⟩=some (.int .i64 v)/\W.cell? ⟨b2,off2+k,none⟩=some (.slice ga g.length gc))):=
    λW hb=>⟨hb,af bx0 hb,af bx1 hb,af bx2 hb,af bx3 hb,af (af d0 HBW.o) hb⟩
   have HB0:Nw (Below w1.heap.size w1 wr.drew):=HBR.o.drew;clear bx0 bx1 bx2 bx3 d0;go_wp2;go_region_held_law (λW=>Nw (Below w1.heap.size w1 W)/\W.cell? ⟨w.heap.size,0,none⟩=some (.int .i64 p)/\W.cell? ⟨w.heap.size,1,none⟩=some (.int .i64 n)/\W.cell? ⟨w.heap.size,2,none⟩=some (.int .i64 o)/\W.cell? ⟨w.heap.size,3,none⟩=some (.int .i64 v)/\W.cell? ⟨b2,off2+k,none⟩=some (.slice ga g.length gc))
    (first|exact KEEP.o _ HB0.o|exact KEEP.o _ HB7.o|exact KEEP.o _ (HB6.o.trans (ai.mono HB6.o.size))|exact KEEP.o _ HB6.o)
    (first|(refine Lk rfl (.tmp 15) (.tmp 23) 51 rfl underlying51 w1.heap.size (.slice za ys.length zc) us ys (by simp[Act.eval,Act.put]) (PR6.o.next ai) ⟨w6.heap.size,0,none⟩ 1 (.slice ua6 (cM p o (bk p f g)).length uc6) (cM p o (bk p f g)) (HU6.o.below ai) (by simp[Act.eval,Act.put]) (sq _ _ _) (by rw[HTL.o];omega) (MO HB6.o.size (by simp)) ?_;intro v7 w7 r1 r2;have HB7:=ae (show Below w1.heap.size w1 w7 from (PR6.o.next ai).grown (HB6.o.trans (ai.mono HB6.o.size)) r2 (MI _));obtain⟨va7,vc7,hv7⟩:=bY r1.own;rw[nU] at hv7;subst hv7;have HR7:=ae r1;clear r1 r2)|(go_at_call 49;refine(La p n o v N _ _ f g _ HP.o HO.o hN0 hN HF.o.canon.len HGK.o.canon.len ?_ ?_ HF.o.bd HGK.o.bd HF.o.len HGK.o.len ?_ ?_).mono ?_;exact(λt ht=>⟨by have:=HF.o.canon.coef t ht;omega,(HF.o.canon.coef t ht).2⟩);exact(λt ht=>⟨by have:=HGK.o.canon.coef t ht;omega,(HGK.o.canon.coef t ht).2⟩);exact(HX.o.below HBW.o).below HB0.o;exact HPG.o.below HB0.o;rintro e w6 ⟨u6,rfl,hu6,hb6⟩;have PR6:=ae (HROW.o.next (((MJ wr.heap.size wr).drew).trans hb6));have HB6:=ae (show Below w1.heap.size w1 w6 from HB0.o.trans (hb6.mono HB0.o.size));have HU6:=ae hu6;obtain⟨ua6,uc6,rfl,_,_⟩:=hu6;clear hb6))
   all_goals
    go_wp2;first
     |exact⟨⟨k+1,us++[_],by omega,by go_num,by rw[HTS.o];exact HR7.o,HB7.o⟩,by simp[intOf];omega⟩
     |(go_roundw;(case rel=>exact⟨k+1,us++[_],by omega,by go_num,by rw[HTS.o];exact HR7.o,HB7.o⟩);case measure=>simp[intOf];omega)
  .have e:k=gss.length:=by omega
   subst e;have HE:Nw ((gss.map λg=>cM p o (bk p f g))=ys):=by show _=_;rw[<-HYS.o,M2 (by rw[M6];exact MI _)]
   have HV:=ae HROW.o.vl;go_wp2;go_ret;exact⟨_,rfl,by rw[HE.o];exact HV.o,HBW.o.trans (HBR.o.mono HBW.o.size)⟩
def sr(w:World)(b off:Nat)(vss:List (List (List Tm))):Prop:=
 ∀i,i<vss.length->∃v,w.cell? ⟨b,off+i,none⟩=some v/\Vl w v (vss.getD i [])
theorem sr.below{w w':World}{b off:Nat}{vss:List (List (List Tm))}(h:sr w b off vss)(hlt:b<w.heap.size)(hb:Below w.heap.size w w'):sr w' b off vss:=by intro i hi;obtain⟨v,hc,hs⟩:=h i hi;exact⟨v,by rw[hb.cell (p:=⟨b,off+i,none⟩) hlt];exact hc,hs.below hb⟩
def Wl(w:World)(v:Value)(vss:List (List (List Tm))):Prop:=
 ∃a cap,v=.slice a vss.length cap/\(0<vss.length->∃b off,a=some ⟨b,off,none⟩/\b<w.heap.size/\sr w b off vss)
theorem Wl.below{w w':World}{v:Value}{vss:List (List (List Tm))}(h:Wl w v vss)(hb:Below w.heap.size w w'):Wl w' v vss:=by obtain⟨a,cap,rfl,h⟩:=h;refine⟨a,cap,rfl,λhp=>?_⟩;obtain⟨b,off,rfl,hlt,hc⟩:=h hp;exact⟨b,off,rfl,MN hlt hb.size,hc.below hlt hb⟩
theorem jC{w:World}{a:Option Addr}{c:Nat}{vss:List (List (List Tm))}(h:Wl w (.slice a vss.length c) vss)(k:Nat)(hk:k<vss.length):∃b off va vc,a=some ⟨b,off,none⟩/\b<w.heap.size/\w.cell? ⟨b,off+k,none⟩=some (.slice va (vss.getD k []).length vc)/\Vl w (.slice va (vss.getD k []).length vc) (vss.getD k []):=by obtain⟨a2,c2,e,h1⟩:=h;obtain⟨b,off,rfl,hlt,hat⟩:=h1 (by omega);simp only[M4,true_and] at e;obtain⟨rfl,rfl⟩:=e;obtain⟨v,hc,hp⟩:=hat k hk;have hp2:=hp;obtain⟨fa,fc,rfl,_⟩:=hp;exact⟨b,off,fa,fc,rfl,hlt,hc,hp2⟩
def eY{α:Type}(F:List α->Int):List (List α)->Int
 |[]=>0
 |a::r=>if F a=0 then eY F r else F a
theorem wj{α:Type}(F:List α->Int)(l:List (List α))(k:Nat)(h:k<l.length):eY F (l.drop k)=if F (l.getD k [])=0 then eY F (l.drop (k+1)) else F (l.getD k []):=by rw[Nn h];simp[eY,MV,h]
theorem wv{α:Type}{F:List α->Int}:∀{l:List (List α)},eY F l=0->∀a∈l,F a=0
 |[],_,a,ha=>by simp at ha
 |b::r,h,a,ha=>by
  unfold eY at h;by_cases hb:F b=0
  .rw[M9 hb] at h;rcases Nb.1 ha with rfl|ha
   .exact hb
   .exact wv h a ha
  .rw[M8 hb] at h;exact absurd h hb
def fW(p n o rank:Int)(fss:List (List Tm)):Int:=if (fss.length:Int)≠rank then 1 else de p n o fss
def iM(p n o rank:Int)(vss:List (List (List Tm))):Int:=if bO rank 1 40=false then 3 else if 60<vss.length then 2 else eY (fW p n o rank) vss
def dB(p n o v rank:Int)(vss:List (List (List Tm))):Int:=if bm p n o v≠0 then bm p n o v else iM p n o rank vss
theorem Lo(p n o v rank:Int)(lv:Value)(vss:List (List (List Tm)))(w:World)(hR:bm p n o v=0)(hs:Wl w lv vss):Calls prog 62 #[aS p n o v,.int .i64 rank,lv] w λe w'=>e=.returned (.int .i64 (iM p n o rank vss))/\Below w.heap.size w w':=by
 have HS:=ae hs;obtain⟨la,lc,rfl,_⟩:=hs;obtain⟨hpr,hn1,hn2,ho,_⟩:=jQ hR;have HP:=ae (eO hpr);have HN:=ae (MK hn1 hn2);have HO:=ae ho;obtain⟨w1,hw1⟩:∃w1,w1=w.alloc (.cells #[.int .i64 p,.int .i64 n,.int .i64 o,.int .i64 v] 23):=⟨_,rfl⟩;have hbx:bE w1 w.heap.size p n o v:=by rw[hw1];exact bE.new w p n o v _
 have hbw:Below w.heap.size w w1:=by rw[hw1];exact bA
 have HBX:=ae hbx;have HBW:=ae hbw;clear hR hpr ho hbx hbw;cases hbt:bO rank 1 40
 .have HE:Nw (iM p n o rank vss=3):=by show _=_;unfold iM;rw[M9 hbt]
  rw[HE.o];go_enter func62,ntmps62;go_wp2_with (go_at_call 18;refine(fN _ _ _ _).mono ?_;rw[hbt];rintro e w' ⟨rfl,rfl⟩);go_ret;rw[<-hw1];exact⟨rfl,HBW.o⟩
 .by_cases hlen:60<vss.length
  .have HE:Nw (iM p n o rank vss=2):=by show _=_;unfold iM;rw[M8 (by rw[hbt];simp),M9 hlen]
   rw[HE.o];go_enter func62,ntmps62;go_wp2_with (go_at_call 18;refine(fN _ _ _ _).mono ?_;rw[hbt];rintro e w' ⟨rfl,rfl⟩);go_ret;rw[<-hw1];exact⟨rfl,HBW.o⟩
  .have HE:Nw (iM p n o rank vss=eY (fW p n o rank) vss):=by show _=_;unfold iM;rw[M8 (by rw[hbt];simp),M8 hlen]
   rw[HE.o];have HRK:Nw (1<=rank/\rank<=40):=by simpa [bO,Nw] using hbt
   go_enter func62,ntmps62;go_wp2_with (go_at_call 18;refine(fN _ _ _ _).mono ?_;rw[hbt];rintro e w' ⟨rfl,rfl⟩);rw[<-hw1];clear hw1 hbt;go_loopw [7] (λi wr=>∃k:Nat,k<=vss.length/\i=.int .i64 k/\eY (fW p n o rank) vss=eY (fW p n o rank) (vss.drop k)/\Below w1.heap.size w1 wr) (λi _=>vss.length-(intOf i).toNat);case atStart=>exact⟨0,MP _,rfl,rfl,MJ _ _⟩
   case round=>
    obtain⟨k,hk,rfl,her,hbr⟩:=hrel;have HBR:=ae hbr;have HER0:=ae her;clear hbr her;by_cases hk2:k<vss.length
    .have HER:=ae (HER0.o.trans (wj (fW p n o rank) vss k hk2));obtain⟨b,off,va,vc,rfl,hlt,c0,hvl⟩:=jC HS.o k hk2;have HDN:=ae (HBW.o.trans (HBR.o.mono HBW.o.size));generalize vss.getD k []=fss at c0 hvl HER;have HVL:=ae hvl;have d0:=af c0 HDN.o;clear hvl;cases hln:((fss.length:Int) !=rank)
     .have hrk:(fss.length:Int)=rank:=by simpa using hln
      subst hrk;have HEV:Nw (fW p n o (fss.length:Int) fss=de p n o fss):=by show _=_;unfold fW;rw[M8 (by simp)]
      have hf40:fss.length<=40:=by have:=HRK.o;omega
      clear hln;go_wp2_with fail;go_loopw [8] (λi wm=>∃j:Nat,j<=fss.length/\i=.int .i64 j/\de p n o fss=de p n o (fss.drop j)/\Below w1.heap.size w1 wm) (λi _=>fss.length-(intOf i).toNat);case atStart=>exact⟨0,MP _,rfl,rfl,HBR.o⟩
      case round=>
       clear d0;obtain⟨j,hj,rfl,hej,hbm⟩:=hrel;have HBM:=ae hbm;have HEJ:=ae hej;clear hbm hej;by_cases hj2:j<fss.length
       .have HFJ:=ae (HEJ.o.trans (Ct p n o fss j hj2));obtain⟨b2,off2,fa,fc,rfl,hlt2,e0,hpf⟩:=lU HVL.o j hj2;generalize fss.getD j []=f at e0 hpf HFJ;have HPF:=ae (hpf.below HBW.o);obtain⟨_,bx0,bx1,bx2,bx3⟩:=HBX.o;have KEEP:Nw (∀W,Below w1.heap.size w1 W->(Nw (Below w1.heap.size w1 W)/\W.cell? ⟨w.heap.size,0,none⟩=some (.int .i64 p)/\W.cell? ⟨w.heap.size,1,none⟩=some (.int .i64 n)/\W.cell? ⟨w.heap.size,2,none⟩=some (.int .i64 o)/\W.cell? ⟨w.heap.size,3,none⟩=some (.int .i64 v)/\W.cell? ⟨b,off+k,none⟩=some (.slice (some ⟨b2,off2,none⟩) fss.length vc)/\W.cell? ⟨b2,off2+j,none⟩=some (.slice fa f.length fc))):=
         λW hb=>⟨hb,af bx0 hb,af bx1 hb,af bx2 hb,af bx3 hb,af (af c0 HBW.o) hb,af (af e0 HBW.o) hb⟩
        have HB0:Nw (Below w1.heap.size w1 wr.drew):=HBM.o.drew;clear bx0 bx1 bx2 bx3 e0 hpf;go_wp2_with fail;go_region_held (λW=>Nw (Below w1.heap.size w1 W)/\W.cell? ⟨w.heap.size,0,none⟩=some (.int .i64 p)/\W.cell? ⟨w.heap.size,1,none⟩=some (.int .i64 n)/\W.cell? ⟨w.heap.size,2,none⟩=some (.int .i64 o)/\W.cell? ⟨w.heap.size,3,none⟩=some (.int .i64 v)/\W.cell? ⟨b,off+k,none⟩=some (.slice (some ⟨b2,off2,none⟩) fss.length vc)/\W.cell? ⟨b2,off2+j,none⟩=some (.slice fa f.length fc))
         (first|exact KEEP.o _ HB0.o|exact KEEP.o _ (HB0.o.trans (hb9.mono HB0.o.size)))
         (first|(go_at_call 91;refine(Lf p n o v _ f _ HP.o HN.o HO.o ?_).mono ?_;exact HPF.o.below HB0.o;rintro e w9 ⟨rfl,hb9⟩))
        have HB9:=ae (show Below w1.heap.size w1 w9 from HB0.o.trans (hb9.mono HB0.o.size));clear hb9;cases hz:(cQ p n o f !=0)
        .have HZ:Nw (cQ p n o f=0):=by simpa [Nw] using hz
         go_wp2_with fail;go_roundw;case rel=>exact⟨j+1,by omega,by go_num,by rw[HFJ.o,M9 HZ.o],HB9.o⟩
         case measure=>simp[intOf];omega
        .have HZ:Nw (cQ p n o f≠0):=by simpa [Nw] using hz
         go_wp2_with fail;go_ret;exact⟨bL (by
          have h:de p n o fss=cQ p n o f:=by rw[HFJ.o,M8 HZ.o]
          rw[HER.o,HEV.o,h,M8 HZ.o]),HBW.o.trans (HB9.o.mono HBW.o.size)⟩
       .have hz:de p n o fss=0:=by rw[HEJ.o,No (by omega)];rfl
        have HZ:=ae hz;clear hz;go_wp2_with fail;go_roundw;case rel=>exact⟨k+1,by omega,by go_num,by rw[HER.o,HEV.o,M9 HZ.o],HBM.o⟩
        case measure=>simp[intOf];omega
     .have HEV:Nw (fW p n o rank fss=1):=by show _=_;unfold fW;rw[M9 (by simpa using hln)]
      go_wp2_with fail;go_ret;exact⟨bL (by rw[HER.o,HEV.o];simp),HBW.o.trans (HBR.o.mono HBW.o.size)⟩
    .go_wp2;go_ret;exact⟨bL (by rw[HER0.o,No (by omega)];rfl),HBW.o.trans (HBR.o.mono HBW.o.size)⟩
theorem Lp(p n o v rank:Int)(lv:Value)(vss:List (List (List Tm)))(w:World)(hs:Wl w lv vss):Calls prog 36 #[aS p n o v,.int .i64 rank,lv] w λe w'=>e=.returned (.int .i64 (dB p n o v rank vss))/\Below w.heap.size w w':=by
 have HS:=ae hs;obtain⟨la,lc,rfl,_⟩:=hs;cases hR:(bm p n o v==0)
 .have HE:Nw (dB p n o v rank vss=bm p n o v):=by show _=_;unfold dB;rw[M9 (by simpa using hR)]
  rw[HE.o];go_enter func36,ntmps36;go_wp2_with (go_at_call 61;refine(xg _ _ _ _ _).mono ?_;rintro e w1 ⟨rfl,hb1⟩;have HB1:=ae (show Below w.heap.size w w1 from bA.trans (hb1.mono (by simp)));clear hb1);go_ret;exact⟨rfl,HB1.o⟩
 .have hR0:bm p n o v=0:=by simpa using hR
  have HR:=ae hR0;have HE:Nw (dB p n o v rank vss=iM p n o rank vss):=by show _=_;unfold dB;rw[M8 (by simpa using hR0)]
  rw[HE.o];clear hR0;go_enter func36,ntmps36;go_wp2_with fail;refine(xg _ _ _ _ _).mono ?_;rw[HR.o];rintro e w1 ⟨rfl,hb1⟩;have HB1:=ae (show Below w.heap.size w w1 from bA.trans (hb1.mono (by simp)));obtain⟨_,bx0,bx1,bx2,bx3⟩:=(bE.new w p n o v 23).below hb1;clear hb1;go_wp2_with fail;refine(Lo p n o v rank _ vss _ HR.o (HS.o.below HB1.o)).mono ?_;rintro e w2 ⟨rfl,hb2⟩;have HB2:=ae (HB1.o.trans (hb2.mono HB1.o.size));clear hb2;go_wp2;go_ret;exact⟨rfl,HB2.o⟩
end Go.Proofs.YteimdcndjjclnaaGreat
namespace Go.Proofs.YteimdcndjjclnaaGreat
open Go.Proofs.Tryz
set_option linter.all false
open Go.ChangeShapes Go.WideShapes Go.ChangeAt Go.RowKit Go.Joins Go.Deep
theorem Tryz.cellsPolyX:prog.cellsOf 59=1:=by kernel_rfl
theorem Tryz.cellsVecX:prog.cellsOf 51=1:=by kernel_rfl
theorem LU{H:Type}{enc:TypeId×Value->H}{W:World}{fuel:Nat}{t:TypeId}{v:Value}{x:DataW H×List MemPlace}(ht:prog.underlying t=some (.slice 59))(h:DataW.trod enc prog W 0 (λ_=>true) true fuel t [v]=some x):∃fs:List (List Tm),Vl W v fs:=by
 rcases open_slice1 ht Tryz.cellsPolyX h with ⟨hcs,_⟩|⟨a,len,cap,m,n,V,D,P,hcs,_,hl,hm,hmm,_,hx⟩
 .simp at hcs;subst hcs;exact⟨[],none,0,rfl,λh=>absurd h (by simp)⟩
 .simp at hcs;subst hcs;simp at hmm;subst hmm;obtain⟨T,hT⟩:=choose_lt (α:=List Tm) (n:=m) (p:=λi f=>Pl W (V i) f) (λi hi=>J8 (hx i hi).2);refine⟨(List.range len).map T,some a,m,by simp,λhp=>?_⟩;simp at hp;obtain⟨b,off,rfl⟩:=qN (by simpa using (hx 0 (by omega)).1);refine⟨b,off,rfl,nl (hx 0 (by omega)).1,λi hi=>?_⟩;simp at hi;have hg:((List.range len).map T).getD i []=T i:=by simp[MV,hi]
  rw[hg];exact⟨V i,o6 (hx i (by omega)).1,hT i (by omega)⟩
theorem LV{H:Type}{enc:TypeId×Value->H}{W:World}{fuel:Nat}{v:Value}{x:DataW H×List MemPlace}(h:DataW.trod enc prog W 0 (λ_=>true) true fuel 25 [v]=some x):∃vss:List (List (List Tm)),Wl W v vss:=by
 rcases open_slice1 underlying25 Tryz.cellsVecX h with ⟨hcs,_⟩|⟨a,len,cap,m,n,V,D,P,hcs,_,hl,hm,hmm,_,hx⟩
 .simp at hcs;subst hcs;exact⟨[],none,0,rfl,λh=>absurd h (by simp)⟩
 .simp at hcs;subst hcs;simp at hmm;subst hmm;obtain⟨T,hT⟩:=choose_lt (α:=List (List Tm)) (n:=m) (p:=λi f=>Vl W (V i) f) (λi hi=>LU underlying51 (hx i hi).2);refine⟨(List.range len).map T,some a,m,by simp,λhp=>?_⟩;simp at hp;obtain⟨b,off,rfl⟩:=qN (by simpa using (hx 0 (by omega)).1);refine⟨b,off,rfl,nl (hx 0 (by omega)).1,λi hi=>?_⟩;simp at hi;have hg:((List.range len).map T).getD i []=T i:=by simp[MV,hi]
  rw[hg];exact⟨V i,o6 (hx i (by omega)).1,hT i (by omega)⟩
theorem GI{H:Type}{enc:TypeId×Value->H}{W:World}{a:Option Addr}{len cap:Nat}{d:DataW H}{p:List MemPlace}(h:DataW.Trod enc prog W 0 (λ_=>true) true 25 (.slice a len cap) d p):∃vss:List (List (List Tm)),Wl W (.slice a len cap) vss:=by obtain⟨fuel,hf⟩:=h;exact LV (by simpa [Value.cells] using hf)
end Go.Proofs.YteimdcndjjclnaaGreat
namespace Go.Proofs.YteimdcndjjclnaaGreat
set_option linter.all false
open Go.Proofs.Tryz Go.RowKit
def gU(fss:List (List Tm)):Bool:=!bO (fss.length:Int) 1 40
def fJ(m:Nat)(fss:List (List Tm)):Bool:=decide (fss.length≠m)
def fI(p n o v:Int)(vss:List (List (List Tm))):Int:=
 if bm p n o v≠0 then bm p n o v else if vss.any gU then 3 else if vss.any (fJ (vss.getD 0 []).length) then 1 else eY (de p n o) vss
theorem KN{fss:List (List Tm)}{m:Nat}(h:((fss.length:Int) !=(m:Int))=false):fJ m fss=false:=by
 have h1:(fss.length:Int)=m:=by simpa using h
 unfold fJ;exact ML (by omega)
theorem KO{fss:List (List Tm)}{m:Nat}(h:((fss.length:Int) !=(m:Int))=true):fJ m fss=true:=by
 have h1:¬(fss.length:Int)=m:=by simpa using h
 unfold fJ;exact MM (by omega)
theorem Lu{α:Type}(l:List (List α))(k:Nat)(h:k<l.length):l.take (k+1)=l.take k++[l.getD k []]:=by rw[Na h];simp[MV,h]
theorem Cv{α:Type}(f:List α->Bool)(l:List (List α))(k:Nat)(h:k<l.length)(h0:(l.take k).any f=false)(h1:f (l.getD k [])=false):(l.take (k+1)).any f=false:=by rw[Lu _ _ h,List.any_append,h0];simpa using h1
theorem wl{α:Type}(l:List (List α))(k:Nat)(h:k<l.length):l.getD k []∈l:=by rw[MV,MW h];simp
theorem Cw{α:Type}(f:List α->Bool)(l:List (List α))(k:Nat)(h:k<l.length)(h1:f (l.getD k [])=true):l.any f=true:=by rw[List.any_eq_true];exact⟨_,wl l k h,h1⟩
theorem KT{vss:List (List (List Tm))}(h:vss.any gU=false){f:List (List Tm)}(hf:f∈vss):f.length<=1200000000000:=by have h1:=List.any_eq_false.1 h f hf;simp[gU,bO] at h1;omega
end Go.Proofs.YteimdcndjjclnaaGreat
