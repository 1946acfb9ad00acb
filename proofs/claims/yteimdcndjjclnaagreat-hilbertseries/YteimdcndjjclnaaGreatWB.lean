/- VSum, VTimes of the reference. -/
import Derived.Test.YteimdcndjjclnaaGreatRC
import Derived.Test.YteimdcndjjclnaaGreatP
set_option maxHeartbeats 2000000
set_option maxRecDepth 100000
namespace Go.Proofs.YteimdcndjjclnaaGreat
set_option linter.all false
open Go.Proofs.Tryz Go.RowKit
theorem nw{w:World}{a:Option Addr}{c:Nat}{fss:List (List Tm)}(h:Vl w (.slice a fss.length c) fss)(k:Nat)(hk:k<fss.length):∃b off fa fc,a=some ⟨b,off,none⟩/\b<w.heap.size/\w.cell? ⟨b,off+k,none⟩=some (.slice fa (fss.getD k []).length fc)/\Pl w (.slice fa (fss.getD k []).length fc) (fss.getD k []):=by obtain⟨a2,c2,e,h1⟩:=h;obtain⟨b,off,rfl,hlt,hat⟩:=h1 (by omega);simp only[LB,true_and] at e;obtain⟨rfl,rfl⟩:=e;obtain⟨v,hc,hp⟩:=hat k hk;have hp2:=hp;obtain⟨fa,fc,rfl,_,_⟩:=hp;exact⟨b,off,fa,fc,rfl,hlt,hc,hp2⟩
theorem oC{α:Type}(l:List α)(x:α):(l++[x]).length=l.length+1:=by simp
def BB(p o:Int)(fss gss:List (List Tm)):List (List Tm):=List.zipWith (λf g=>eL p o (f++g)) fss gss
def jh(p o:Int)(f:List Tm)(gss:List (List Tm)):List (List Tm):=gss.map λg=>eL p o (cN p f g)
theorem uW(w:World)(x:Value)(T:TypeId):∀j u,[x][j]?=some u->(w.alloc (.cells #[x] T)).cell? ((⟨w.heap.size,0,none⟩:Addr).add j)=some u:=by
 intro j u hj;rcases j with _|j
 .simp at hj;subst hj;simp[Addr.add,go_sem]
 .simp at hj
def rf(w:World)(b off:Nat)(vss:List (List (List Tm))):Prop:=
 ∀i,i<vss.length->∃v,w.cell? ⟨b,off+i,none⟩=some v/\Vl w v (vss.getD i [])
theorem rf.below{w w':World}{b off:Nat}{vss:List (List (List Tm))}(h:rf w b off vss)(hlt:b<w.heap.size)(hb:Below w.heap.size w w'):rf w' b off vss:=by intro i hi;obtain⟨v,hc,hs⟩:=h i hi;exact⟨v,by rw[hb.cell (p:=⟨b,off+i,none⟩) hlt];exact hc,hs.below hb⟩
def Wl(w:World)(v:Value)(vss:List (List (List Tm))):Prop:=
 ∃a cap,v=.slice a vss.length cap/\(0<vss.length->∃b off,a=some ⟨b,off,none⟩/\b<w.heap.size/\rf w b off vss)
theorem Wl.below{w w':World}{v:Value}{vss:List (List (List Tm))}(h:Wl w v vss)(hb:Below w.heap.size w w'):Wl w' v vss:=by obtain⟨a,cap,rfl,h⟩:=h;refine⟨a,cap,rfl,λhp=>?_⟩;obtain⟨b,off,rfl,hlt,hc⟩:=h hp;exact⟨b,off,rfl,Lj hlt hb.size,hc.below hlt hb⟩
theorem jB{w:World}{a:Option Addr}{c:Nat}{vss:List (List (List Tm))}(h:Wl w (.slice a vss.length c) vss)(k:Nat)(hk:k<vss.length):∃b off va vc,a=some ⟨b,off,none⟩/\b<w.heap.size/\w.cell? ⟨b,off+k,none⟩=some (.slice va (vss.getD k []).length vc)/\Vl w (.slice va (vss.getD k []).length vc) (vss.getD k []):=by obtain⟨a2,c2,e,h1⟩:=h;obtain⟨b,off,rfl,hlt,hat⟩:=h1 (by omega);simp only[LB,true_and] at e;obtain⟨rfl,rfl⟩:=e;obtain⟨v,hc,hp⟩:=hat k hk;have hp2:=hp;obtain⟨fa,fc,rfl,_⟩:=hp;exact⟨b,off,fa,fc,rfl,hlt,hc,hp2⟩
def eK{α:Type}(F:List α->Int):List (List α)->Int
 |[]=>0
 |a::r=>if F a=0 then eK F r else F a
theorem uT{α:Type}(F:List α->Int)(l:List (List α))(k:Nat)(h:k<l.length):eK F (l.drop k)=if F (l.getD k [])=0 then eK F (l.drop (k+1)) else F (l.getD k []):=by rw[LY h];simp[eK,Lr,h]
theorem uV{α:Type}{F:List α->Int}:∀{l:List (List α)},eK F l=0->∀a∈l,F a=0
 |[],_,a,ha=>by simp at ha
 |b::r,h,a,ha=>by
  unfold eK at h;by_cases hb:F b=0
  .rw[LI hb] at h;rcases LL.1 ha with rfl|ha
   .exact hb
   .exact uV h a ha
  .rw[LH hb] at h;exact absurd h hb
def fC(p n o rank:Int)(fss:List (List Tm)):Int:=if (fss.length:Int)≠rank then 1 else cO p n o fss
def hZ(p n o rank:Int)(vss:List (List (List Tm))):Int:=if bH rank 1 40=false then 3 else if 60<vss.length then 2 else eK (fC p n o rank) vss
def df(p n o v rank:Int)(vss:List (List (List Tm))):Int:=if a8 p n o v≠0 then a8 p n o v else hZ p n o rank vss
theorem J0(p n o v rank:Int)(lv:Value)(vss:List (List (List Tm)))(w:World)(hR:a8 p n o v=0)(hs:Wl w lv vss):Calls prog 62 #[aT p n o v,.int .i64 rank,lv] w λe w'=>e=.returned (.int .i64 (hZ p n o rank vss))/\Below w.heap.size w w':=by
 have HS:=ac hs;obtain⟨la,lc,rfl,_⟩:=hs;obtain⟨hpr,hn1,hn2,ho,_⟩:=jq hR;have HP:=ac (fq hpr);have HN:=ac (Lg hn1 hn2);have HO:=ac ho;obtain⟨w1,hw1⟩:∃w1,w1=w.alloc (.cells #[.int .i64 p,.int .i64 n,.int .i64 o,.int .i64 v] 23):=⟨_,rfl⟩;have hbx:bE w1 w.heap.size p n o v:=by rw[hw1];exact bE.new w p n o v _
 have hbw:Below w.heap.size w w1:=by rw[hw1];exact bv
 have HBX:=ac hbx;have HBW:=ac hbw;clear hR hpr ho hbx hbw;cases hbt:bH rank 1 40
 .have HE:Ma (hZ p n o rank vss=3):=by show _=_;unfold hZ;rw[LI hbt]
  rw[HE.o];go_enter func62,ntmps62;go_wp2_with (go_at_call 18;refine(fo _ _ _ _).mono ?_;rw[hbt];rintro e w' ⟨rfl,rfl⟩);go_ret;rw[<-hw1];exact⟨rfl,HBW.o⟩
 .by_cases hlen:60<vss.length
  .have HE:Ma (hZ p n o rank vss=2):=by show _=_;unfold hZ;rw[LH (by rw[hbt];simp),LI hlen]
   rw[HE.o];go_enter func62,ntmps62;go_wp2_with (go_at_call 18;refine(fo _ _ _ _).mono ?_;rw[hbt];rintro e w' ⟨rfl,rfl⟩);go_ret;rw[<-hw1];exact⟨rfl,HBW.o⟩
  .have HE:Ma (hZ p n o rank vss=eK (fC p n o rank) vss):=by show _=_;unfold hZ;rw[LH (by rw[hbt];simp),LH hlen]
   rw[HE.o];have HRK:Ma (1<=rank/\rank<=40):=by simpa [bH,Ma] using hbt
   go_enter func62,ntmps62;go_wp2_with (go_at_call 18;refine(fo _ _ _ _).mono ?_;rw[hbt];rintro e w' ⟨rfl,rfl⟩);rw[<-hw1];clear hw1 hbt;go_loopw [7] (λi wr=>∃k:Nat,k<=vss.length/\i=.int .i64 k/\eK (fC p n o rank) vss=eK (fC p n o rank) (vss.drop k)/\Below w1.heap.size w1 wr) (λi _=>vss.length-(intOf i).toNat);case atStart=>exact⟨0,Ll _,rfl,rfl,Lf _ _⟩
   case round=>
    obtain⟨k,hk,rfl,her,hbr⟩:=hrel;have HBR:=ac hbr;have HER0:=ac her;clear hbr her;by_cases hk2:k<vss.length
    .have HER:=ac (HER0.o.trans (uT (fC p n o rank) vss k hk2));obtain⟨b,off,va,vc,rfl,hlt,c0,hvl⟩:=jB HS.o k hk2;have HDN:=ac (HBW.o.trans (HBR.o.mono HBW.o.size));generalize vss.getD k []=fss at c0 hvl HER;have HVL:=ac hvl;have d0:=ae c0 HDN.o;clear hvl;cases hln:((fss.length:Int) !=rank)
     .have hrk:(fss.length:Int)=rank:=by simpa using hln
      subst hrk;have HEV:Ma (fC p n o (fss.length:Int) fss=cO p n o fss):=by show _=_;unfold fC;rw[LH (by simp)]
      have hf40:fss.length<=40:=by have:=HRK.o;omega
      clear hln;go_wp2_with fail;go_loopw [8] (λi wm=>∃j:Nat,j<=fss.length/\i=.int .i64 j/\cO p n o fss=cO p n o (fss.drop j)/\Below w1.heap.size w1 wm) (λi _=>fss.length-(intOf i).toNat);case atStart=>exact⟨0,Ll _,rfl,rfl,HBR.o⟩
      case round=>
       clear d0;obtain⟨j,hj,rfl,hej,hbm⟩:=hrel;have HBM:=ac hbm;have HEJ:=ac hej;clear hbm hej;by_cases hj2:j<fss.length
       .have HFJ:=ac (HEJ.o.trans (Bl p n o fss j hj2));obtain⟨b2,off2,fa,fc,rfl,hlt2,e0,hpf⟩:=nw HVL.o j hj2;generalize fss.getD j []=f at e0 hpf HFJ;have HPF:=ac (hpf.below HBW.o);obtain⟨_,bx0,bx1,bx2,bx3⟩:=HBX.o;have KEEP:Ma (∀W,Below w1.heap.size w1 W->(Ma (Below w1.heap.size w1 W)/\W.cell? ⟨w.heap.size,0,none⟩=some (.int .i64 p)/\W.cell? ⟨w.heap.size,1,none⟩=some (.int .i64 n)/\W.cell? ⟨w.heap.size,2,none⟩=some (.int .i64 o)/\W.cell? ⟨w.heap.size,3,none⟩=some (.int .i64 v)/\W.cell? ⟨b,off+k,none⟩=some (.slice (some ⟨b2,off2,none⟩) fss.length vc)/\W.cell? ⟨b2,off2+j,none⟩=some (.slice fa f.length fc))):=
         λW hb=>⟨hb,ae bx0 hb,ae bx1 hb,ae bx2 hb,ae bx3 hb,ae (ae c0 HBW.o) hb,ae (ae e0 HBW.o) hb⟩
        have HB0:Ma (Below w1.heap.size w1 wr.drew):=HBM.o.drew;clear bx0 bx1 bx2 bx3 e0 hpf;go_wp2_with fail;go_region_held (λW=>Ma (Below w1.heap.size w1 W)/\W.cell? ⟨w.heap.size,0,none⟩=some (.int .i64 p)/\W.cell? ⟨w.heap.size,1,none⟩=some (.int .i64 n)/\W.cell? ⟨w.heap.size,2,none⟩=some (.int .i64 o)/\W.cell? ⟨w.heap.size,3,none⟩=some (.int .i64 v)/\W.cell? ⟨b,off+k,none⟩=some (.slice (some ⟨b2,off2,none⟩) fss.length vc)/\W.cell? ⟨b2,off2+j,none⟩=some (.slice fa f.length fc))
         (first|exact KEEP.o _ HB0.o|exact KEEP.o _ (HB0.o.trans (hb9.mono HB0.o.size)))
         (first|(go_at_call 91;refine(Js p n o v _ f _ HP.o HN.o HO.o ?_).mono ?_;exact HPF.o.below HB0.o;rintro e w9 ⟨rfl,hb9⟩))
        have HB9:=ac (show Below w1.heap.size w1 w9 from HB0.o.trans (hb9.mono HB0.o.size));clear hb9;cases hz:(cB p n o f !=0)
        .have HZ:Ma (cB p n o f=0):=by simpa [Ma] using hz
         go_wp2_with fail;go_roundw;case rel=>exact⟨j+1,by omega,by go_num,by rw[HFJ.o,LI HZ.o],HB9.o⟩
         case measure=>simp[intOf];omega
        .have HZ:Ma (cB p n o f≠0):=by simpa [Ma] using hz
         go_wp2_with fail;go_ret;exact⟨bJ (by
          have h:cO p n o fss=cB p n o f:=by rw[HFJ.o,LH HZ.o]
          rw[HER.o,HEV.o,h,LH HZ.o]),HBW.o.trans (HB9.o.mono HBW.o.size)⟩
       .have hz:cO p n o fss=0:=by rw[HEJ.o,LZ (by omega)];rfl
        have HZ:=ac hz;clear hz;go_wp2_with fail;go_roundw;case rel=>exact⟨k+1,by omega,by go_num,by rw[HER.o,HEV.o,LI HZ.o],HBM.o⟩
        case measure=>simp[intOf];omega
     .have HEV:Ma (fC p n o rank fss=1):=by show _=_;unfold fC;rw[LI (by simpa using hln)]
      go_wp2_with fail;go_ret;exact⟨bJ (by rw[HER.o,HEV.o];simp),HBW.o.trans (HBR.o.mono HBW.o.size)⟩
    .go_wp2;go_ret;exact⟨bJ (by rw[HER0.o,LZ (by omega)];rfl),HBW.o.trans (HBR.o.mono HBW.o.size)⟩
theorem J1(p n o v rank:Int)(lv:Value)(vss:List (List (List Tm)))(w:World)(hs:Wl w lv vss):Calls prog 36 #[aT p n o v,.int .i64 rank,lv] w λe w'=>e=.returned (.int .i64 (df p n o v rank vss))/\Below w.heap.size w w':=by
 have HS:=ac hs;obtain⟨la,lc,rfl,_⟩:=hs;cases hR:(a8 p n o v==0)
 .have HE:Ma (df p n o v rank vss=a8 p n o v):=by show _=_;unfold df;rw[LI (by simpa using hR)]
  rw[HE.o];go_enter func36,ntmps36;go_wp2_with (go_at_call 61;refine(vK _ _ _ _ _).mono ?_;rintro e w1 ⟨rfl,hb1⟩;have HB1:=ac (show Below w.heap.size w w1 from bv.trans (hb1.mono (by simp)));clear hb1);go_ret;exact⟨rfl,HB1.o⟩
 .have hR0:a8 p n o v=0:=by simpa using hR
  have HR:=ac hR0;have HE:Ma (df p n o v rank vss=hZ p n o rank vss):=by show _=_;unfold df;rw[LH (by simpa using hR0)]
  rw[HE.o];clear hR0;go_enter func36,ntmps36;go_wp2_with fail;refine(vK _ _ _ _ _).mono ?_;rw[HR.o];rintro e w1 ⟨rfl,hb1⟩;have HB1:=ac (show Below w.heap.size w w1 from bv.trans (hb1.mono (by simp)));obtain⟨_,bx0,bx1,bx2,bx3⟩:=(bE.new w p n o v 23).below hb1;clear hb1;go_wp2_with fail;refine(J0 p n o v rank _ vss _ HR.o (HS.o.below HB1.o)).mono ?_;rintro e w2 ⟨rfl,hb2⟩;have HB2:=ac (HB1.o.trans (hb2.mono HB1.o.size));clear hb2;go_wp2;go_ret;exact⟨rfl,HB2.o⟩
end Go.Proofs.YteimdcndjjclnaaGreat
namespace Go.Proofs.YteimdcndjjclnaaGreat
open Go.Proofs.Tryz
set_option linter.all false
open Go.ChangeShapes Go.WideShapes Go.ChangeAt Go.RowKit Go.Joins Go.Deep
theorem Tryz.cellsPolyX:prog.cellsOf 59=1:=by kernel_rfl
theorem Tryz.cellsVecX:prog.cellsOf 51=1:=by kernel_rfl
theorem J2{H:Type}{enc:TypeId×Value->H}{W:World}{fuel:Nat}{t:TypeId}{v:Value}{x:DataW H×List MemPlace}(ht:prog.underlying t=some (.slice 59))(h:DataW.trod enc prog W 0 (λ_=>true) true fuel t [v]=some x):∃fs:List (List Tm),Vl W v fs:=by
 rcases open_slice1 ht Tryz.cellsPolyX h with ⟨hcs,_⟩|⟨a,len,cap,m,n,V,D,P,hcs,_,hl,hm,hmm,_,hx⟩
 .simp at hcs;subst hcs;exact⟨[],none,0,rfl,λh=>absurd h (by simp)⟩
 .simp at hcs;subst hcs;simp at hmm;subst hmm;obtain⟨T,hT⟩:=choose_lt (α:=List Tm) (n:=m) (p:=λi f=>Pl W (V i) f) (λi hi=>I6 (hx i hi).2);refine⟨(List.range len).map T,some a,m,by simp,λhp=>?_⟩;simp at hp;obtain⟨b,off,rfl⟩:=pN (by simpa using (hx 0 (by omega)).1);refine⟨b,off,rfl,mt (hx 0 (by omega)).1,λi hi=>?_⟩;simp at hi;have hg:((List.range len).map T).getD i []=T i:=by simp[Lr,hi]
  rw[hg];exact⟨V i,od (hx i (by omega)).1,hT i (by omega)⟩
theorem J3{H:Type}{enc:TypeId×Value->H}{W:World}{fuel:Nat}{v:Value}{x:DataW H×List MemPlace}(h:DataW.trod enc prog W 0 (λ_=>true) true fuel 25 [v]=some x):∃vss:List (List (List Tm)),Wl W v vss:=by
 rcases open_slice1 underlying25 Tryz.cellsVecX h with ⟨hcs,_⟩|⟨a,len,cap,m,n,V,D,P,hcs,_,hl,hm,hmm,_,hx⟩
 .simp at hcs;subst hcs;exact⟨[],none,0,rfl,λh=>absurd h (by simp)⟩
 .simp at hcs;subst hcs;simp at hmm;subst hmm;obtain⟨T,hT⟩:=choose_lt (α:=List (List Tm)) (n:=m) (p:=λi f=>Vl W (V i) f) (λi hi=>J2 underlying51 (hx i hi).2);refine⟨(List.range len).map T,some a,m,by simp,λhp=>?_⟩;simp at hp;obtain⟨b,off,rfl⟩:=pN (by simpa using (hx 0 (by omega)).1);refine⟨b,off,rfl,mt (hx 0 (by omega)).1,λi hi=>?_⟩;simp at hi;have hg:((List.range len).map T).getD i []=T i:=by simp[Lr,hi]
  rw[hg];exact⟨V i,od (hx i (by omega)).1,hT i (by omega)⟩
theorem FC{H:Type}{enc:TypeId×Value->H}{W:World}{a:Option Addr}{len cap:Nat}{d:DataW H}{p:List MemPlace}(h:DataW.Trod enc prog W 0 (λ_=>true) true 25 (.slice a len cap) d p):∃vss:List (List (List Tm)),Wl W (.slice a len cap) vss:=by obtain⟨fuel,hf⟩:=h;exact J3 (by simpa [Value.cells] using hf)
end Go.Proofs.YteimdcndjjclnaaGreat
namespace Go.Proofs.YteimdcndjjclnaaGreat
set_option linter.all false
open Go.Proofs.Tryz Go.RowKit
def gk(fss:List (List Tm)):Bool:=!bH (fss.length:Int) 1 40
def fi(m:Nat)(fss:List (List Tm)):Bool:=decide (fss.length≠m)
def fh(p n o v:Int)(vss:List (List (List Tm))):Int:=
 if a8 p n o v≠0 then a8 p n o v else if vss.any gk then 3 else if vss.any (fi (vss.getD 0 []).length) then 1 else eK (cO p n o) vss
theorem JP{fss:List (List Tm)}{m:Nat}(h:((fss.length:Int) !=(m:Int))=false):fi m fss=false:=by
 have h1:(fss.length:Int)=m:=by simpa using h
 unfold fi;exact Lh (by omega)
theorem JQ{fss:List (List Tm)}{m:Nat}(h:((fss.length:Int) !=(m:Int))=true):fi m fss=true:=by
 have h1:¬(fss.length:Int)=m:=by simpa using h
 unfold fi;exact Li (by omega)
theorem J4{α:Type}(l:List (List α))(k:Nat)(h:k<l.length):l.take (k+1)=l.take k++[l.getD k []]:=by rw[LK h];simp[Lr,h]
theorem By{α:Type}(f:List α->Bool)(l:List (List α))(k:Nat)(h:k<l.length)(h0:(l.take k).any f=false)(h1:f (l.getD k [])=false):(l.take (k+1)).any f=false:=by rw[J4 _ _ h,List.any_append,h0];simpa using h1
theorem uU{α:Type}(l:List (List α))(k:Nat)(h:k<l.length):l.getD k []∈l:=by rw[Lr,Ls h];simp
theorem Bz{α:Type}(f:List α->Bool)(l:List (List α))(k:Nat)(h:k<l.length)(h1:f (l.getD k [])=true):l.any f=true:=by rw[List.any_eq_true];exact⟨_,uU l k h,h1⟩
theorem JV{vss:List (List (List Tm))}(h:vss.any gk=false){f:List (List Tm)}(hf:f∈vss):f.length<=1200000000000:=by have h1:=List.any_eq_false.1 h f hf;simp[gk,bH] at h1;omega
end Go.Proofs.YteimdcndjjclnaaGreat
