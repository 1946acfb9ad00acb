/- The law HilbertCounts, walked. -/
import Derived.Test.YteimdcndjjclnaaGreatMY
import Derived.Test.YteimdcndjjclnaaGreatMP
set_option maxHeartbeats 16000000
set_option maxRecDepth 100000
namespace Go.Proofs.YteimdcndjjclnaaGreat
set_option linter.all false
open Go.Proofs.Tryz Go.RowKit
theorem Bz:∀(n d:Nat),(dP n d).length=(iP n d).length
 |0,_=>rfl
 |1,_=>rfl
 |n+2,d=>by simp only[dP,iP];rw[List.length_flatMap,List.length_flatMap];congr 1;apply List.map_congr_left;intro k _;rw[M6,M6,Bz (n+1) (d-k)]
theorem JU(n:Nat)(d:Int):(bR n d).length=(ba n d).length:=by
 unfold bR ba;by_cases h:d<0
 .rw[M9 h,M9 h];rfl
 .rw[M8 h,M8 h];exact Bz n d.toNat
theorem JV{p n o v:Int}{ds:List Int}{vss:List (List (List Tm))}{d:Int}(h:cz p n o v ds vss≠0):eZ p n o v ds vss d=cz p n o v ds vss/\fd p n o v ds vss d=0:=by unfold eZ fd;rw[M9 h,M9 h];exact⟨rfl,rfl⟩
theorem BD{p n o v:Int}{ds:List Int}{vss:List (List (List Tm))}{d:Int}(hz:cz p n o v ds vss=0)(h:d<0\/12<d):eZ p n o v ds vss d=3/\fd p n o v ds vss d=0:=by unfold eZ fd;rw[M8 (by simpa using hz),M9 h,M8 (by simpa using hz),M9 h];exact⟨rfl,rfl⟩
theorem JW{p n o v:Int}{ds:List Int}{vss:List (List (List Tm))}{d:Int}(hz:cz p n o v ds vss=0)(h:¬(d<0\/12<d)):eZ p n o v ds vss d=0:=by unfold eZ;rw[M8 (by simpa using hz),M8 h]
theorem GJ(p n o v:Int)(dv lv:Value)(ds:List Int)(vss:List (List (List Tm)))(d k:Int)(w:World)(hds:Sl w dv ds)(hs:Wl w lv vss)(hdb:-9223372036854775808<=d/\d<=9223372036854775807)(hkb:-9223372036854775808<=k/\k<=9223372036854775807):Calls prog 3 #[aS p n o v,dv,lv,.int .i64 d,.int .i64 k] w λe w'=>e=.returned (.bool true)/\Below w.heap.size w w':=by
 have HS:=ae hs;have HD:=ae hds;obtain⟨w1,hw1⟩:∃w1,w1=w.alloc (.cells #[.int .i64 p,.int .i64 n,.int .i64 o,.int .i64 v] 23):=⟨_,rfl⟩;have hbx:bE w1 w.heap.size p n o v:=by rw[hw1];exact bE.new w p n o v _
 have HBW:Nw (Below w.heap.size w w1):=by rw[hw1];exact bA
 have HCT:Nw (∀W,Below w.heap.size w W->Calls prog 5 #[aS p n o v,dv,lv,.int .i64 d] W λe w'=>e=.returned (.tuple #[.int .i64 (fd p n o v ds vss d),.int .i64 (eZ p n o v ds vss d)])/\Below W.heap.size W w'):=λW hW=>Bu p n o v dv lv ds vss d W (HD.o.below hW) (HS.o.below hW) hdb;have HFR:Nw (∀W,Calls prog 6 #[.int .i64 k,.int .i64 d] W λr w'=>r=.returned (.tuple #[.int .i64 (iV k d),.int .i64 (iU k d)])/\Below W.heap.size W w'):=λW=>AX k d W hkb hdb;have HRF:Nw (∀W,Below w.heap.size w W->Calls prog 7 #[aS p n o v,dv,lv] W λe w'=>e=.returned (.int .i64 (cz p n o v ds vss))/\Below W.heap.size W w'):=λW hW=>JX p n o v dv lv ds vss W (HD.o.below hW) (HS.o.below hW);have HCK:Nw (∀W,Below w.heap.size w W->Calls prog 8 #[aS p n o v,dv,lv] W λe w'=>e=.returned (.int .i64 (cz p n o v ds vss))/\Below W.heap.size W w'):=λW hW=>rQ p n o v dv lv ds vss W (HD.o.below hW) (HS.o.below hW);have HCO:Nw (cz p n o v ds vss=0->0<=d->d<=12->∀W,Below w.heap.size w W->Calls prog 9 #[aS p n o v,dv,lv,.int .i64 d] W λe w'=>e=.returned (.int .i64 (fd p n o v ds vss d))/\Below W.heap.size W w'):=λhz h0 h12 W hW=>by
  obtain⟨N,hC⟩:=vK hz;have e1:fd p n o v ds vss d=eo p o N ds vss d:=by unfold fd;rw[M8 (by rw[hz];simp),M8 (by omega),hC.hn];rfl
  rw[e1,hC.hn];exact JY p o v N hC.nn dv lv ds vss d W (HD.o.below hW) (HS.o.below hW) hC.cx.pr hC.ho hC.l0 hC.cx.r hC.ds6 hC.v4 hC.len hC.right h0 h12
 have HMO:Nw (1<=k->k<=3->d<=100->∀W,Calls prog 10 #[.int .i64 k,.int .i64 d] W λe w'=>∃a c,e=.returned (.slice a (bR k.toNat d).length c)/\Below W.heap.size W w'):=λh1 h3 hd W=>by
  have h:=tQ k.toNat (by omega) d hd W;rw[show ((k.toNat:Nat):Int)=k by omega] at h;refine h.mono ?_;rintro e w' ⟨a,c,qs,rfl,_,q2,q3⟩;refine⟨a,c,?_,q3⟩;have e1:qs.length=(bR k.toNat d).length:=by rw[JU,<-q2,M6]
  rw[e1]
 have hA:((cz p n o v ds vss==0)=false/\eZ p n o v ds vss d=cz p n o v ds vss/\fd p n o v ds vss d=0)\/(cz p n o v ds vss=0/\decide (d<0)=true/\eZ p n o v ds vss d=3/\fd p n o v ds vss d=0)\/(cz p n o v ds vss=0/\decide (d<0)=false/\decide (12<d)=true/\eZ p n o v ds vss d=3/\fd p n o v ds vss d=0)\/(cz p n o v ds vss=0/\0<=d/\d<=12/\decide (d<0)=false/\decide (12<d)=false/\eZ p n o v ds vss d=0):=by
  by_cases hz:cz p n o v ds vss=0
  .by_cases h0:d<0
   .exact Nq (Np ⟨hz,MM h0,BD hz (Np h0)⟩)
   .by_cases h1:12<d
    .exact Nq (Nq (Np ⟨hz,ML h0,MM h1,BD hz (Nq h1)⟩))
    .exact Nq (Nq (Nq ⟨hz,by omega,by omega,ML h0,ML h1,JW hz (by omega)⟩))
  .exact Np ⟨by simpa using hz,JV hz⟩
 have hB:(decide (k<1)=true/\iU k d=3/\iV k d=0)\/(decide (k<1)=false/\decide (3<k)=true/\iU k d=3/\iV k d=0)\/(decide (k<1)=false/\decide (3<k)=false/\decide (d< -100)=true/\iU k d=3/\iV k d=0)\/(decide (k<1)=false/\decide (3<k)=false/\decide (d< -100)=false/\decide (100<d)=true/\iU k d=3/\iV k d=0)\/(1<=k/\k<=3/\d<=100/\decide (k<1)=false/\decide (3<k)=false/\decide (d< -100)=false/\decide (100<d)=false/\iU k d=0/\iV k d=((bR k.toNat d).length:Nat)):=by
  simp only[decide_eq_true_eq,decide_eq_false_iff_not];unfold iU iV;by_cases hb:k<1\/3<k\/d< -100\/100<d
  .rw[M9 hb,M9 hb];omega
  .rw[M8 hb,M8 hb];omega
 obtain⟨la,lc,rfl,_⟩:=hs;obtain⟨da,dc,rfl,_⟩:=hds;have HRV:Nw (aS p n o v=.agg #[.int .i64 p,.int .i64 n,.int .i64 o,.int .i64 v]):=rfl;rw[HRV.o] at HCT HRF HCK HCO;rw[HRV.o];obtain⟨_,bx0,bx1,bx2,bx3⟩:=hbx;clear HRV;generalize cz p n o v ds vss=er at HRF HCK HCO hA;generalize eZ p n o v ds vss d=cE at HCT hA;generalize fd p n o v ds vss d=cV at HCT HCO hA;generalize iU k d=fE at HFR hB;generalize iV k d=fV at HFR hB;generalize (bR k.toNat d).length=mL at HMO hB;have HBA:=HBW;rcases hA with ⟨k1,rfl,rfl⟩|⟨rfl,k1,rfl,rfl⟩|⟨rfl,k1,k2,rfl,rfl⟩|⟨rfl,h0,h12,k1,k2,rfl⟩<;>rcases hB with ⟨m1,rfl,rfl⟩|⟨m1,m2,rfl,rfl⟩|⟨m1,m2,m3,rfl,rfl⟩|⟨m1,m2,m3,m4,rfl,rfl⟩|⟨a1,a2,a3,m1,m2,m3,m4,rfl,rfl⟩;all_goals
  try have HC2:Nw (∀W,Below w.heap.size w W->_):=HCO.o rfl h0 h12
  try have HM2:Nw (∀W,_):=HMO.o a1 a2 a3
  clear HMO HCO hdb hkb;try clear h0 h12
  try clear a1 a2 a3
  go_enter func3,ntmps3;go_upto_region 1 with fail;rw[<-hw1];clear hw1;go_wp2_with (first|(go_at_call 5;refine(HCT.o _ HBA.o).mono ?_;rintro e w2 ⟨rfl,q1⟩;have HBA:=ae (HBA.o.trans (q1.mono HBA.o.size));have bx0:=af bx0 q1;have bx1:=af bx1 q1;have bx2:=af bx2 q1;have bx3:=af bx3 q1;clear q1)|(go_at_call 6;refine(HFR.o _).mono ?_;rintro e w3 ⟨rfl,q1⟩;have HBA:=ae (HBA.o.trans (q1.mono HBA.o.size));have bx0:=af bx0 q1;have bx1:=af bx1 q1;have bx2:=af bx2 q1;have bx3:=af bx3 q1;clear q1)|(go_at_call 7;refine(HRF.o _ HBA.o).mono ?_;rintro e w4 ⟨rfl,q1⟩;have HBA:=ae (HBA.o.trans (q1.mono HBA.o.size));have bx0:=af bx0 q1;have bx1:=af bx1 q1;have bx2:=af bx2 q1;have bx3:=af bx3 q1;clear q1)|(go_at_call 8;refine(HCK.o _ HBA.o).mono ?_;rintro e w5 ⟨rfl,q1⟩;have HBA:=ae (HBA.o.trans (q1.mono HBA.o.size));have bx0:=af bx0 q1;have bx1:=af bx1 q1;have bx2:=af bx2 q1;have bx3:=af bx3 q1;clear q1)|(go_at_call 9;refine(HC2.o _ HBA.o).mono ?_;rintro e w6 ⟨rfl,q1⟩;have HBA:=ae (HBA.o.trans (q1.mono HBA.o.size));clear q1)|(go_at_call 10;refine(HM2.o _).mono ?_;rintro e w7 ⟨ma,mc,rfl,q1⟩;have HBA:=ae (HBA.o.trans (q1.mono HBA.o.size));clear q1)|(go_at_call 11;refine(JT _).mono ?_;rintro e w8 ⟨rfl,q1⟩;have HBA:=ae (HBA.o.trans (q1.mono HBA.o.size));clear q1));go_ret;exact⟨rfl,HBA.o⟩
end Go.Proofs.YteimdcndjjclnaaGreat
