/- Vectors that are. -/
import Derived.Test.YtjkalahhpobefaaGreatKQ
set_option maxHeartbeats 8000000
set_option maxRecDepth 100000
namespace Go.Proofs.YtjkalahhpobefaaGreat
set_option linter.all false
open Go.Proofs.Tryz Go.RowKit Go.Sort
abbrev bM:Type:=Option Addr×Nat×Nat
def dU(x:bM):PK:=.slice x.1 x.2.1 x.2.2
structure iO(B:Nat)(w:PJ)(v:PK)(zs:List bM):Prop where
 own:w.ownsRow B 79 1 v zs.length (zs.map dU)
 kind:∀g,v.ownBlock=some g->cG w g
structure ci(B:Nat)(w0 W:PJ)(g cap:Nat)(zs cs:List bM):Prop where
 row:iO B W (PM g zs.length cap) cs
 perm:cs.Perm zs
 frm:aj (λk=>k=g) w0 W
variable{zs:List bM}{B:Nat}
theorem iO.next{w w':PJ}{v:PK}(h:iO B w v zs)(hb:Io w w'):iO B w' v zs:=
 ⟨(aj.of_below (S:=λ_=>False) hb).own h.own λ_ _ hg=>hg,λg hg=>(h.kind g hg).below (Ot h.own g hg).2 hb⟩
variable{cs:List bM}{g cap:Nat}{w0 W:PJ}
theorem ci.next{W':PJ}(h:ci B w0 W g cap zs cs)(hb:Io W W'):ci B w0 W' g cap zs cs:=
 ⟨h.row.next hb,h.perm,h.frm.trans (aj.of_below (S:=λ_=>False) hb) λ_ _ h=>h.elim⟩
theorem ci.len(h:ci B w0 W g cap zs cs):cs.length=zs.length:=h.perm.length_eq
variable{n:Nat}
theorem iO.cell(h:iO B W (PM g n cap) cs)(i:Nat)(hi:i<cs.length):W.cell? (PN g i)=some (dU cs[i])/\W.frozen? (PN g i)=false:=by obtain⟨a,c,e⟩:=cl h.own;simp only[OQ] at e;obtain⟨_,rfl,_⟩:=e;have hc:=Oq h.own i (by omega);rw[List.getElem?_map,OI hi] at hc;exact⟨hc,Oo h.own i⟩
theorem iO.put(h:iO B W (PM g n cap) cs)(i:Nat)(hi:i<cs.length)(x:bM):iO B (W.setCell (PN g i) (dU x)) (PM g n cap) (cs.set i x)/\aj (λk=>k=g) W (W.setCell (PN g i) (dU x)):=by
 have hc:=(h.cell i hi).1;obtain⟨a,c,e⟩:=cl h.own;simp only[OQ] at e;obtain⟨_,rfl,_⟩:=e;have h0:=OF h.own i (dU x);refine⟨⟨?_,λg' hg'=>?_⟩,aj.of_grown h0.2 λk e=>by simpa using e.symm⟩
 .have h1:=h0.1;rw[List.map_set,List.length_set];exact h1
 .have e:g'=g:=by simpa [Value.ownBlock] using hg'.symm
  subst e;intro j u hu;by_cases hj:j=i
  .subst hj;rw[World.cell?_setCell_same' _ _ _ (by rw[hc];rfl)] at hu;cases hu;exact⟨_,_,_,rfl⟩
  .rw[World.cell?_setCell_other] at hu
   .exact h.kind g' (by simp[Value.ownBlock]) j u hu
   .intro e;cases e;exact hj rfl
theorem ci.swap(h:ci B w0 W g cap zs cs)(i j:Nat)(hi:i<cs.length)(hj:j<cs.length):ci B w0 ((W.setCell (PN g i) (dU cs[j])).setCell (PN g j) (dU cs[i])) g cap zs ((cs.set i cs[j]).set j cs[i]):=by have h1:=h.row.put i hi cs[j];have h2:=h1.1.put j (by rw[List.length_set];exact hj) cs[i];exact⟨h2.1,(Go.Sort.perm_set_set cs i j hi hj).trans h.perm,(h.frm.trans h1.2 λ_ _ h=>h).trans h2.2 λ_ _ h=>h⟩
def mI(w0:PJ)(g:Nat)(zs:List bM)(dg:bM->Int):Prop:=
 ∀W,aj (λk=>k=g) w0 W->∀x∈zs,∀y∈zs,Calls prog 186 #[dU x,dU y] W λe w'=>e=.returned (PO (bi (dg x) (dg y)))/\Io W w'
theorem wO(B:Nat)(w0 W:PJ)(g cap:Nat)(zs cs:List bM)(a b n:Nat)(cv:PK)(h:ci B w0 W g cap zs cs)(ha:a+n<=zs.length)(hb:b+n<=zs.length)(hab:a≠b)(hn:zs.length<=2100000000000):Calls prog 282 #[PM g zs.length cap,PO a,PO b,PO n,cv] W λe w'=>e=.returned (.tuple #[])/\∃cs',ci B w0 w' g cap zs cs':=by
 have H0:=ae h;clear h;go_enter func282,ntmps282;go_wp2_with fail;go_loopw [10] (λi wr=>∃(m:Nat)(cs:List bM),m<=n/\i=PO m/\ci B w0 wr g cap zs cs) (λi _=>n-(intOf i).toNat);case atStart=>exact⟨0,cs,OB _,rfl,H0.o⟩
 case round=>
  clear H0;obtain⟨m,ds,hm,rfl,hw⟩:=hrel;have HW:=ae hw;clear hw;have hlen:ds.length=zs.length:=HW.o.len;have HLEN:=ae hlen;by_cases hm2:m<n
  .have hx:a+m<ds.length:=by omega
   have hy:b+m<ds.length:=by omega
   obtain⟨lx,fx⟩:=HW.o.row.cell (a+m) hx;obtain⟨ly,fy⟩:=HW.o.row.cell (b+m) hy;have HP2:=ae (HW.o.swap (a+m) (b+m) hx hy);generalize (ds.set (a+m) ds[b+m]).set (b+m) ds[a+m]=es2 at HP2;generalize ds[a+m]=xx at HP2 lx;generalize ds[b+m]=yy at HP2 ly;obtain⟨xa,xn,xc⟩:=xx;obtain⟨ya,yn,yc⟩:=yy;dsimp only[dU] at HP2 lx ly;have ly2:(wr.setCell (PN g (a+m)) (.slice ya yn yc)).cell? (PN g (b+m))=some (.slice ya yn yc):=by
    rw[World.cell?_setCell_other]
    .exact ly
    .intro e;have e2:=congrArg Addr.off e;simp only at e2;omega
   have fy2:(wr.setCell (PN g (a+m)) (.slice ya yn yc)).frozen? (PN g (b+m))=false:=by rw[World.frozen?_setCell];exact fy
   have hmI:(m:Int)<(n:Int):=by omega
   have e1:(a:Int)+(m:Int)<(zs.length:Int):=by omega
   have e2:(b:Int)+(m:Int)<(zs.length:Int):=by omega
   clear hlen;go_upto_region 3 with fail;go_region;all_goals
    go_wp2;go_roundw;case rel=>exact⟨m+1,_,by omega,by go_num,HP2.o.next (Ov _ _).drew⟩
    case measure=>simp[intOf];omega
  .go_wp2;go_end0;exact⟨rfl,ds,HW.o⟩
theorem KI(B:Nat)(w0 W:PJ)(g cap:Nat)(zs cs:List bM)(a b:Nat)(dg:bM->Int)(hcm:mI w0 g zs dg)(h:ci B w0 W g cap zs cs)(hab:a<=b)(hb:b<=zs.length)(hn:zs.length<=2100000000000):Calls prog 249 #[PM g zs.length cap,PO a,PO b,.func (.func 186) #[] #[]] W λe w'=>e=.returned (.tuple #[])/\∃cs',ci B w0 w' g cap zs cs':=by
 have H0:=ae h;have HCD:=ae hcm;clear h hcm;go_enter func249,ntmps249;go_wp2_with fail;go_loopw [8] (λvi wr=>∃(i:Nat)(cs:List bM),a<i/\i<=b+1/\vi=PO i/\ci B w0 wr g cap zs cs) (λvi _=>b+1-(intOf vi).toNat);case atStart=>exact⟨a+1,cs,by omega,by omega,by go_num,H0.o⟩
 case round=>
  clear H0;obtain⟨i,ds,hai,hib,rfl,hw⟩:=hrel;have HW:=ae hw;clear hw;by_cases hlt:i<b
  .go_wp2_with fail;go_loopw [9] (λvj wr2=>∃(j:Nat)(cs:List bM),a<=j/\j<=i/\vj=PO j/\ci B w0 wr2 g cap zs cs) (λvj _=>(intOf vj).toNat);case atStart=>exact⟨i,ds,by omega,Ou _,rfl,HW.o⟩
   case round=>
    clear HW;rename PJ=>wr0;obtain⟨j,es,haj,hji,rfl,hw⟩:=hrel;have HW:=ae hw;clear hw;by_cases hja:a<j
    .obtain⟨jp,rfl⟩:∃jp,j=jp+1:=⟨j-1,by omega⟩;have hlen:=HW.o.len;have hx:jp+1<es.length:=by omega
     have hy:jp<es.length:=by omega
     have HPM:=HW.o.perm;have HCM:=ae (λW hb=>HCD.o W ((HW.o.next hb).frm) es[jp+1] (HPM.mem_iff.1 (OE hx)) es[jp] (HPM.mem_iff.1 (OE hy)));have lx:=λP:bX wr0=>((HW.o.next P.h).row.cell (jp+1) hx).1;have ly:=λP:bX wr0=>((HW.o.next P.h).row.cell (jp) hy).1;have HSW:Po (∀W,Io wr0 W->_):=λW hb=>Ow ((HW.o.next hb).row.cell (jp+1) hx) (Ow ((HW.o.next hb).row.cell (jp) hy) ((HW.o.next hb).swap (jp+1) (jp) hx hy));generalize (es.set (jp+1) es[jp]).set (jp) es[jp+1]=es2 at HSW;clear HPM;generalize es[jp+1]=xx at HCM lx HSW;generalize es[jp]=yy at HCM ly HSW;obtain⟨xa,xn,xc⟩:=xx;obtain⟨ya,yn,yc⟩:=yy;generalize bi (dg (xa,xn,xc)) (dg (ya,yn,yc))=rr at HCM;dsimp only[dU] at HCM lx ly HSW;have hjI:(a:Int)<(jp:Int)+1:=by omega
     have hjd:decide ((a:Int)<(jp:Int)+1)=true:=by simp;omega
     have j1:(jp:Int)+1<(zs.length:Int):=by omega
     have j0:(jp:Int)<(zs.length:Int):=by omega
     have jw:IntKind.i64.wrap ((jp:Int)+1-1)=(jp:Int):=by rw[IntKind.wrap_i64];omega
     clear hlen hx hy;have hne:Nonempty (bX wr0):=⟨⟨wr0,Ov _ _⟩⟩;by_cases hrr:rr<0
     .have hrd:decide (rr<0)=true:=Oy hrr;go_upto_region 4 with fail;refine fr (by kernel_rfl) (by kernel_rfl) ?_;repeat (go_big_quiet_step (first|(go_at_call 186;exact Calls.below_of (HCM.o _ (bX.h _)))))
      refine wpQuiet_nil ?_;intro w8 hw';obtain⟨⟨w9,hb9⟩,rfl⟩:=hw';have HB9:=ae hb9;clear hb9 hne lx ly;obtain⟨⟨lx,fx⟩,⟨ly,fy⟩,hp2⟩:=HSW.o w8 HB9.o;have HP2:=ae hp2;clear hp2;have ly2:(w8.setCell (PN g (jp+1)) (.slice ya yn yc)).cell? (PN g jp)=some (.slice ya yn yc):=by
       rw[World.cell?_setCell_other]
       .exact ly
       .intro e;simp at e
      have fy2:(w8.setCell (PN g (jp+1)) (.slice ya yn yc)).frozen? (PN g jp)=false:=by rw[World.frozen?_setCell];exact fy
      go_upto_region 6 with fail;go_region;all_goals
       go_wp2;go_roundw;case rel=>exact⟨jp,_,by omega,by omega,by go_num,HP2.o.next (Ov _ _).drew⟩
       case measure=>simp[intOf]
     .have hrd:decide (rr<0)=false:=Ox hrr;go_upto_region 4 with fail;refine fr (by kernel_rfl) (by kernel_rfl) ?_;repeat (go_big_quiet_step (first|(go_at_call 186;exact Calls.below_of (HCM.o _ (bX.h _)))))
      refine wpQuiet_nil ?_;intro w8 hw';obtain⟨⟨w9,hb9⟩,rfl⟩:=hw';have HB9:=ae hb9;clear hb9 hne lx ly;go_wp2;go_roundw;case rel=>exact⟨i+1,es,by omega,by omega,by go_num,HW.o.next HB9.o⟩
      case measure=>simp[intOf];omega
    .have hjd:decide ((a:Int)<(j:Int))=false:=by simp;omega
     have hje:decide (a<j)=false:=Ox hja;have hne:Nonempty (bX wr0):=⟨⟨wr0,Ov _ _⟩⟩;go_upto_region 4 with fail;refine fr (by kernel_rfl) (by kernel_rfl) ?_;repeat (go_big_quiet_step (fail))
     refine wpQuiet_nil ?_;intro _ hw';obtain⟨⟨w9,hb9⟩,rfl⟩:=hw';have HB9:=ae hb9;clear hb9 hne;go_wp2;go_roundw;case rel=>exact⟨i+1,es,by omega,by omega,by go_num,HW.o.next HB9.o⟩
     case measure=>simp[intOf];omega
  .go_wp2;go_end0;exact⟨rfl,ds,HW.o⟩
theorem KJ(B:Nat)(w0 W:PJ)(g cap:Nat)(zs cs:List bM)(a m b:Nat)(cv:PK)(h:ci B w0 W g cap zs cs)(ham:a<m)(hmb:m<b)(hb:b<=zs.length)(hn:zs.length<=2100000000000):Calls prog 269 #[PM g zs.length cap,PO a,PO m,PO b,cv] W λe w'=>e=.returned (.tuple #[])/\∃cs',ci B w0 w' g cap zs cs':=by
 have H0:=ae h;clear h;go_enter func269,ntmps269;go_wp2_with fail;go_loopw [10,11] (λvi vj wr=>∃(i j:Nat)(cs:List bM),0<i/\0<j/\i<=m/\m+j<=b/\vi=PO i/\vj=PO j/\ci B w0 wr g cap zs cs) (λvi vj _=>(intOf vi).toNat+(intOf vj).toNat);case atStart=>exact⟨m-a,b-m,cs,by omega,by omega,by omega,by omega,by go_num,by go_num,H0.o⟩
 case round=>
  clear H0;obtain⟨i,j,ds,hi0,hj0,him,hjb,rfl,rfl,hw⟩:=hrel;have HW:=ae hw;clear hw;rcases Nat.lt_trichotomy i j with hlt|heq|hgt
  .have HS:=ae (wO B w0 wr g cap zs ds (m-i) (m+j-i) i cv HW.o (by omega) (by omega) (by omega) hn);have e1:((m-i:Nat):Int)=(m:Int)-(i:Int):=by omega
   have e2:((m+j-i:Nat):Int)=(m:Int)+(j:Int)-(i:Int):=by omega
   rw[e1,e2] at HS;clear e1 e2;go_wp2_with (go_at_call 282;refine HS.o.mono ?_;rintro e w9 ⟨rfl,es,hw9⟩;have HW9:=ae hw9;clear hw9);go_roundw;case rel=>exact⟨i,j-i,es,by omega,by omega,by omega,by omega,rfl,by go_num,HW9.o⟩
   case measure=>simp[intOf];omega
  .subst heq;have HS:=ae (wO B w0 wr g cap zs ds (m-i) m i cv HW.o (by omega) (by omega) (by omega) hn);have e1:((m-i:Nat):Int)=(m:Int)-(i:Int):=by omega
   rw[e1] at HS;clear e1;go_wp2_with (go_at_call 282;refine HS.o.mono ?_;rintro e w9 ⟨rfl,es,hw9⟩;have HW9:=ae hw9;clear hw9);go_end0;exact⟨rfl,es,HW9.o⟩
  .have HS:=ae (wO B w0 wr g cap zs ds (m-i) m j cv HW.o (by omega) (by omega) (by omega) hn);have e1:((m-i:Nat):Int)=(m:Int)-(i:Int):=by omega
   rw[e1] at HS;clear e1;go_wp2_with (go_at_call 282;refine HS.o.mono ?_;rintro e w9 ⟨rfl,es,hw9⟩;have HW9:=ae hw9;clear hw9);go_roundw;case rel=>exact⟨i-j,j,es,by omega,by omega,by omega,by omega,by go_num,rfl,HW9.o⟩
   case measure=>simp[intOf];omega
end Go.Proofs.YtjkalahhpobefaaGreat
namespace Go.Proofs.YtjkalahhpobefaaGreat
set_option linter.all false
open Go.Proofs.Tryz Go.RowKit
theorem KK(B:Nat)(w0 W:PJ)(g cap:Nat)(zs cs:List bM)(a b:Nat)(dg:bM->Int)(hcm:mI w0 g zs dg)(h:ci B w0 W g cap zs cs)(hmb:a+1<b)(hb:b<=zs.length)(hn:zs.length<=2100000000000):Calls prog 250 #[PM g zs.length cap,PO a,PO (a+1:Nat),PO b,.func (.func 186) #[] #[]] W λe w'=>e=.returned (.tuple #[])/\∃cs',ci B w0 w' g cap zs cs':=by
 have H0:=ae h;have HCD:=ae hcm;clear h hcm;go_enter func250,ntmps250;go_wp2_with fail;go_loopw [10,11] (λvi vj wr=>∃(i j:Nat)(cs:List bM),a+1<=i/\i<=j/\j<=b/\vi=PO i/\vj=PO j/\ci B w0 wr g cap zs cs) (λvi vj _=>(intOf vj).toNat-(intOf vi).toNat);case atStart=>exact⟨a+1,b,cs,by omega,by omega,by omega,by go_num,by go_num,H0.o⟩
 case round=>
  clear H0;obtain⟨i,j,ds,hi,hij,hjb,rfl,rfl,hw⟩:=hrel;have HW:=ae hw;clear hw;by_cases hlt:i<j
  .have hlen:=HW.o.len;have hu:=lD (i:=i) (j:=j) (by omega);obtain⟨hh,hhe⟩:∃hh,hh=(i+j)/2:=⟨_,rfl⟩;have hh1:i<=hh/\hh<j:=by omega
   have hhI:((i:Int)+(j:Int))/2=(hh:Int):=by omega
   have hhJ:(i+j)/2=hh:=hhe.symm;have hhl:(hh:Int)<(zs.length:Int):=by omega
   clear hhe;have hx:hh<ds.length:=by omega
   have hy:a<ds.length:=by omega
   have HPM:=HW.o.perm;have HCM:=ae (λW hb=>HCD.o W ((HW.o.next hb).frm) ds[hh] (HPM.mem_iff.1 (OE hx)) ds[a] (HPM.mem_iff.1 (OE hy)));have lx:=λP:bX wr=>((HW.o.next P.h).row.cell (hh) hx).1;have ly:=λP:bX wr=>((HW.o.next P.h).row.cell (a) hy).1;clear HPM;generalize ds[hh]=xx at HCM lx;generalize ds[a]=yy at HCM ly;obtain⟨xa,xn,xc⟩:=xx;obtain⟨ya,yn,yc⟩:=yy;generalize bi (dg (xa,xn,xc)) (dg (ya,yn,yc))=rr at HCM;dsimp only[dU] at HCM lx ly;have a0:(a:Int)<(zs.length:Int):=by omega
   clear hlen hx hy;have hne:Nonempty (bX wr):=⟨⟨wr,Ov _ _⟩⟩;cases hrd:decide (rr<0);all_goals
    first|have hrr:=of_decide_eq_true hrd|have hrr:=of_decide_eq_false hrd
    go_upto_region 5 with fail;refine fr (by kernel_rfl) (by kernel_rfl) ?_;repeat (go_big_quiet_step (first|(go_at_call 186;exact Calls.below_of (HCM.o _ (bX.h _)))))
    refine wpQuiet_nil ?_;intro w8 hw';obtain⟨⟨w9,hb9⟩,rfl⟩:=hw';have HB9:=ae hb9;clear hb9 hne lx ly;go_wp2;go_roundw;case rel=>first|exact⟨hh+1,j,ds,by omega,by omega,by omega,by go_num,rfl,HW.o.next HB9.o⟩|exact⟨i,hh,ds,by omega,by omega,by omega,rfl,rfl,HW.o.next HB9.o⟩
    case measure=>simp[intOf];omega
  .go_wp2_with fail;go_loopw [13] (λvk wr2=>∃(k:Nat)(cs:List bM),a<=k/\(k<i\/k=a)/\vk=PO k/\ci B w0 wr2 g cap zs cs) (λvk _=>i-(intOf vk).toNat);case atStart=>exact⟨a,ds,Ou _,Pg rfl,rfl,HW.o⟩
   case round=>
    clear HW;rename PJ=>wr0;obtain⟨k,es,hak,hki,rfl,hw⟩:=hrel;have HW:=ae hw;clear hw;have hlen:=HW.o.len;by_cases hlt2:k+1<i
    .have hlI:(k:Int)<(i:Int)-1:=by omega
     have hx:k<es.length:=by omega
     have hy:k+1<es.length:=by omega
     obtain⟨lx,fx⟩:=HW.o.row.cell (k) hx;obtain⟨ly,fy⟩:=HW.o.row.cell (k+1) hy;have HP2:=ae (HW.o.swap (k) (k+1) hx hy);generalize (es.set (k) es[k+1]).set (k+1) es[k]=es2 at HP2;generalize es[k]=xx at HP2 lx;generalize es[k+1]=yy at HP2 ly;obtain⟨xa,xn,xc⟩:=xx;obtain⟨ya,yn,yc⟩:=yy;dsimp only[dU] at HP2 lx ly;have ly2:(wr0.setCell (PN g k) (.slice ya yn yc)).cell? (PN g (k+1))=some (.slice ya yn yc):=by
      rw[World.cell?_setCell_other]
      .exact ly
      .intro e;have e2:=congrArg Addr.off e;simp only at e2;omega
     have fy2:(wr0.setCell (PN g k) (.slice ya yn yc)).frozen? (PN g (k+1))=false:=by rw[World.frozen?_setCell];exact fy
     have k0:(k:Int)<(zs.length:Int):=by omega
     have k1:(k:Int)+1<(zs.length:Int):=by omega
     clear hlen;go_upto_region 11 with fail;go_region;all_goals
      go_wp2;go_roundw;case rel=>exact⟨k+1,_,by omega,by omega,by go_num,HP2.o.next (Ov _ _).drew⟩
      case measure=>simp[intOf];omega
    .have hlI:¬(k:Int)<(i:Int)-1:=by omega
     go_wp2;first|go_end0|refine OC (OD rfl _ _ _) rfl ?_
     exact⟨rfl,es,HW.o⟩
theorem KL(B:Nat)(w0 W:PJ)(g cap:Nat)(zs cs:List bM)(a m b:Nat)(dg:bM->Int)(hcm:mI w0 g zs dg)(h:ci B w0 W g cap zs cs)(ham:a+1<m)(hmb:b=m+1)(hb:b<=zs.length)(hn:zs.length<=2100000000000):Calls prog 250 #[PM g zs.length cap,PO a,PO m,PO b,.func (.func 186) #[] #[]] W λe w'=>e=.returned (.tuple #[])/\∃cs',ci B w0 w' g cap zs cs':=by
 have H0:=ae h;have HCD:=ae hcm;clear h hcm;subst hmb;have hne1:((m:Int)-(a:Int)==1)=false:=by simp;omega
 go_enter func250,ntmps250;go_wp2_with fail;clear hne1;go_loopw [14,15] (λvi vj wr=>∃(i j:Nat)(cs:List bM),a<=i/\i<=j/\j<=m/\vi=PO i/\vj=PO j/\ci B w0 wr g cap zs cs) (λvi vj _=>(intOf vj).toNat-(intOf vi).toNat);case atStart=>exact⟨a,m,cs,by omega,by omega,by omega,by go_num,by go_num,H0.o⟩
 case round=>
  clear H0;obtain⟨i,j,ds,hi,hij,hjb,rfl,rfl,hw⟩:=hrel;have HW:=ae hw;clear hw;by_cases hlt:i<j
  .have hlen:=HW.o.len;have hu:=lD (i:=i) (j:=j) (by omega);obtain⟨hh,hhe⟩:∃hh,hh=(i+j)/2:=⟨_,rfl⟩;have hh1:i<=hh/\hh<j:=by omega
   have hhI:((i:Int)+(j:Int))/2=(hh:Int):=by omega
   have hhJ:(i+j)/2=hh:=hhe.symm;have hhl:(hh:Int)<(zs.length:Int):=by omega
   clear hhe;have hx:m<ds.length:=by omega
   have hy:hh<ds.length:=by omega
   have HPM:=HW.o.perm;have HCM:=ae (λW hb=>HCD.o W ((HW.o.next hb).frm) ds[m] (HPM.mem_iff.1 (OE hx)) ds[hh] (HPM.mem_iff.1 (OE hy)));have lx:=λP:bX wr=>((HW.o.next P.h).row.cell (m) hx).1;have ly:=λP:bX wr=>((HW.o.next P.h).row.cell (hh) hy).1;clear HPM;generalize ds[m]=xx at HCM lx;generalize ds[hh]=yy at HCM ly;obtain⟨xa,xn,xc⟩:=xx;obtain⟨ya,yn,yc⟩:=yy;generalize bi (dg (xa,xn,xc)) (dg (ya,yn,yc))=rr at HCM;dsimp only[dU] at HCM lx ly;have m0:(m:Int)<(zs.length:Int):=by omega
   clear hlen hx hy;have hne:Nonempty (bX wr):=⟨⟨wr,Ov _ _⟩⟩;cases hrd:decide (rr<0);all_goals
    first|have hrr:=of_decide_eq_true hrd|have hrr:=of_decide_eq_false hrd
    go_upto_region 17 with fail;refine fr (by kernel_rfl) (by kernel_rfl) ?_;repeat (go_big_quiet_step (first|(go_at_call 186;exact Calls.below_of (HCM.o _ (bX.h _)))))
    refine wpQuiet_nil ?_;intro w8 hw';obtain⟨⟨w9,hb9⟩,rfl⟩:=hw';have HB9:=ae hb9;clear hb9 hne lx ly;go_wp2;go_roundw;case rel=>first|exact⟨i,hh,ds,by omega,by omega,by omega,rfl,rfl,HW.o.next HB9.o⟩|exact⟨hh+1,j,ds,by omega,by omega,by omega,by go_num,rfl,HW.o.next HB9.o⟩
    case measure=>simp[intOf];omega
  .go_wp2_with fail;go_loopw [17] (λvk wr2=>∃(k:Nat)(cs:List bM),i<=k/\k<=m/\vk=PO k/\ci B w0 wr2 g cap zs cs) (λvk _=>(intOf vk).toNat);case atStart=>exact⟨m,ds,by omega,Ou _,rfl,HW.o⟩
   case round=>
    clear HW;rename PJ=>wr0;obtain⟨k,es,hak,hki,rfl,hw⟩:=hrel;have HW:=ae hw;clear hw;have hlen:=HW.o.len;by_cases hlt2:i<k
    .obtain⟨kp,rfl⟩:∃kp,k=kp+1:=⟨k-1,by omega⟩;have hx:kp+1<es.length:=by omega
     have hy:kp<es.length:=by omega
     obtain⟨lx,fx⟩:=HW.o.row.cell (kp+1) hx;obtain⟨ly,fy⟩:=HW.o.row.cell (kp) hy;have HP2:=ae (HW.o.swap (kp+1) (kp) hx hy);generalize (es.set (kp+1) es[kp]).set (kp) es[kp+1]=es2 at HP2;generalize es[kp+1]=xx at HP2 lx;generalize es[kp]=yy at HP2 ly;obtain⟨xa,xn,xc⟩:=xx;obtain⟨ya,yn,yc⟩:=yy;dsimp only[dU] at HP2 lx ly;have ly2:(wr0.setCell (PN g (kp+1)) (.slice ya yn yc)).cell? (PN g kp)=some (.slice ya yn yc):=by
      rw[World.cell?_setCell_other]
      .exact ly
      .intro e;have e2:=congrArg Addr.off e;simp only at e2;omega
     have fy2:(wr0.setCell (PN g (kp+1)) (.slice ya yn yc)).frozen? (PN g kp)=false:=by rw[World.frozen?_setCell];exact fy
     have k0:(kp:Int)<(zs.length:Int):=by omega
     have k1:(kp:Int)+1<(zs.length:Int):=by omega
     have kw:IntKind.i64.wrap ((kp:Int)+1-1)=(kp:Int):=by rw[IntKind.wrap_i64];omega
     clear hlen;go_upto_region 23 with fail;go_region;all_goals
      go_wp2;go_roundw;case rel=>exact⟨kp,_,by omega,by omega,by go_num,HP2.o.next (Ov _ _).drew⟩
      case measure=>simp[intOf]
    .go_wp2;first|go_end0|refine OC (OD rfl _ _ _) rfl ?_
     exact⟨rfl,es,HW.o⟩
theorem KM(B:Nat)(w0:PJ)(g cap:Nat)(zs:List bM)(dg:bM->Int)(hcm:mI w0 g zs dg)(hn:zs.length<=2100000000000):∀(n:Nat)(W:PJ)(cs:List bM)(a m b:Nat),b-a<=n->a<m->m<b->b<=zs.length->ci B w0 W g cap zs cs->Calls prog 250 #[PM g zs.length cap,PO a,PO m,PO b,.func (.func 186) #[] #[]] W λe w'=>e=.returned (.tuple #[])/\∃cs',ci B w0 w' g cap zs cs':=by
 intro n;induction n with
 |zero=>intro W cs a m b h1 h2 h3;omega
 |succ n ih=>
  intro W cs a m b hsz ham hmb hb h;have H0:=ae h;have IH:=ae ih;have HCD:=ae hcm;clear h ih;by_cases h1:m=a+1
  .subst h1;exact KK B w0 W g cap zs cs a b dg hcm H0.o hmb hb hn
  .by_cases h2:b=m+1
   .exact KL B w0 W g cap zs cs a m b dg hcm H0.o (by omega) h2 hb hn
   .have hne1:((m:Int)-(a:Int)==1)=false:=by simp;omega
    have hne2:((b:Int)-(m:Int)==1)=false:=by simp;omega
    have hu:=lD (i:=a) (j:=b) (by omega);obtain⟨md,hmd⟩:∃md,md=(a+b)/2:=⟨_,rfl⟩;have hmd1:a<md/\md<b/\2*md<=a+b/\a+b<=2*md+1:=by omega
    have hmdI:((a:Int)+(b:Int))/2=(md:Int):=by omega
    have hmdJ:(a+b)/2=md:=hmd.symm;clear hmd;clear hcm;go_enter func250,ntmps250;obtain⟨s0,rt,hs1,hsI⟩:∃s0 rt:Nat,(a<=s0/\s0<=rt/\rt<=md/\rt<=m/\md+m<=s0+b)/\((md<m/\(md:Int)+(m:Int)-(b:Int)=(s0:Int)/\rt<=md/\md<=rt)\/(¬md<m/\a<=s0/\s0<=a/\rt<=m/\m<=rt)):=by
     by_cases hmm:md<m
     .exact⟨md+m-b,md,by omega,Pf (by omega)⟩
     .exact⟨a,m,by omega,Pg (by omega)⟩
    rcases hsI with ⟨hmm,hstI,e1,e2⟩|⟨hmm,e3,e4,e1,e2⟩;all_goals
     go_wp2_with fail;clear hne1 hne2;go_loopw [20,21] (λvs vr wr=>∃(st r:Nat)(cs:List bM),s0<=st/\st<=r/\r<=rt/\vs=PO st/\vr=PO r/\ci B w0 wr g cap zs cs) (λvs vr _=>(intOf vr).toNat-(intOf vs).toNat);case atStart=>exact⟨s0,rt,cs,by omega,by omega,by omega,by go_num,by go_num,H0.o⟩
     case round=>
      clear H0;obtain⟨st,r,ds,hst,hsr,hrr0,rfl,rfl,hw⟩:=hrel;have HW:=ae hw;clear hw;by_cases hlt:st<r
      .have hlen:=HW.o.len;have hu:=lD (i:=st) (j:=r) (by omega);obtain⟨hh,hhe⟩:∃hh,hh=(st+r)/2:=⟨_,rfl⟩;have hh1:st<=hh/\hh<r:=by omega
       have hhI:((st:Int)+(r:Int))/2=(hh:Int):=by omega
       have hhJ:(st+r)/2=hh:=hhe.symm;have hhl:(hh:Int)<(zs.length:Int):=by omega
       clear hhe;obtain⟨pc,hpc⟩:∃pc,pc=md+m-1-hh:=⟨_,rfl⟩;have hpc1:pc<b:=by omega
       have hpcI:(md:Int)+(m:Int)-1-(hh:Int)=(pc:Int):=by omega
       have hpcl:(pc:Int)<(zs.length:Int):=by omega
       have hx:pc<ds.length:=by omega
       have hy:hh<ds.length:=by omega
       have HPM:=HW.o.perm;have HCM:=ae (λW hb=>HCD.o W ((HW.o.next hb).frm) ds[pc] (HPM.mem_iff.1 (OE hx)) ds[hh] (HPM.mem_iff.1 (OE hy)));have lx:=λP:bX wr=>((HW.o.next P.h).row.cell (pc) hx).1;have ly:=λP:bX wr=>((HW.o.next P.h).row.cell (hh) hy).1;clear HPM;generalize ds[pc]=xx at HCM lx;generalize ds[hh]=yy at HCM ly;obtain⟨xa,xn,xc⟩:=xx;obtain⟨ya,yn,yc⟩:=yy;generalize bi (dg (xa,xn,xc)) (dg (ya,yn,yc))=rr at HCM;dsimp only[dU] at HCM lx ly;clear hpc;clear hlen hx hy;have hne:Nonempty (bX wr):=⟨⟨wr,Ov _ _⟩⟩;cases hrd:decide (rr<0);all_goals
        first|have hrr:=of_decide_eq_true hrd|have hrr:=of_decide_eq_false hrd
        go_upto_region 35 with fail;refine fr (by kernel_rfl) (by kernel_rfl) ?_;repeat (go_big_quiet_step (first|(go_at_call 186;exact Calls.below_of (HCM.o _ (bX.h _)))))
        refine wpQuiet_nil ?_;intro w8 hw';obtain⟨⟨w9,hb9⟩,rfl⟩:=hw';have HB9:=ae hb9;clear hb9 hne lx ly;go_wp2;go_roundw;case rel=>first|exact⟨st,hh,ds,by omega,by omega,by omega,rfl,rfl,HW.o.next HB9.o⟩|exact⟨hh+1,r,ds,by omega,by omega,by omega,by go_num,rfl,HW.o.next HB9.o⟩
        case measure=>simp[intOf];omega
      .obtain⟨en,hen⟩:∃en,en=md+m-st:=⟨_,rfl⟩;have henI:(md:Int)+(m:Int)-(st:Int)=(en:Int):=by omega
       have hen1:md<=en/\en<=b/\m<=en:=by omega
       have HROT:Po (st<m->m<en->Calls prog 269 #[PM g zs.length cap,PO st,PO m,PO en,.func (.func 186) #[] #[]] wr λe w'=>e=.returned (.tuple #[])/\∃cs',ci B w0 w' g cap zs cs'):=λq1 q2=>KJ B w0 wr g cap zs ds st m en _ HW.o q1 q2 (by omega) hn;have HSL:Po (∀W cs,ci B w0 W g cap zs cs->a<st->st<md->Calls prog 250 #[PM g zs.length cap,PO a,PO st,PO md,.func (.func 186) #[] #[]] W λe w'=>e=.returned (.tuple #[])/\∃cs',ci B w0 w' g cap zs cs'):=λW cs hp q1 q2=>IH.o W cs a st md (by omega) q1 q2 (by omega) hp;have HSR:Po (∀W cs,ci B w0 W g cap zs cs->md<en->en<b->Calls prog 250 #[PM g zs.length cap,PO md,PO en,PO b,.func (.func 186) #[] #[]] W λe w'=>e=.returned (.tuple #[])/\∃cs',ci B w0 w' g cap zs cs'):=λW cs hp q1 q2=>IH.o W cs md en b (by omega) q1 q2 hb hp;clear hen IH;go_upto_region 39 with fail;by_cases z0:st<m/\m<en
       .obtain⟨q0,r0⟩:=z0;have dq0:decide ((st:Int)<(m:Int))=true:=by simp;omega
        have dr0:decide ((m:Int)<(en:Int))=true:=by simp;omega
        go_upto_region 41 with (go_at_call 269;refine(HROT.o q0 r0).mono ?_;rintro e w0x ⟨rfl,cs0x,hp0x⟩;have HP0:=ae hp0x;clear hp0x);by_cases z1:a<st/\st<md
        .obtain⟨q1,r1⟩:=z1;have dq1:decide ((a:Int)<(st:Int))=true:=by simp;omega
         have dr1:decide ((st:Int)<(md:Int))=true:=by simp;omega
         go_upto_region 43 with (go_at_call 250;refine(HSL.o _ _ HP0.o q1 r1).mono ?_;rintro e w1x ⟨rfl,cs1x,hp1x⟩;have HP1:=ae hp1x;clear hp1x);by_cases z2:md<en/\en<b
         .obtain⟨q2,r2⟩:=z2;have dq2:decide ((md:Int)<(en:Int))=true:=by simp;omega
          have dr2:decide ((en:Int)<(b:Int))=true:=by simp;omega
          go_wp2_with (go_at_call 250;refine(HSR.o _ _ HP1.o q2 r2).mono ?_;rintro e w2x ⟨rfl,cs2x,hp2x⟩;have HP2:=ae hp2x;clear hp2x);first|go_end0|refine OC (OD rfl _ _ _) rfl ?_
          exact⟨rfl,_,HP2.o⟩
         .by_cases q2:md<en
          case' pos=>
           have r2:¬en<b:=by omega
           have dq2:decide ((md:Int)<(en:Int))=true:=by simp;omega
           have dr2:decide ((en:Int)<(b:Int))=false:=by simp;omega
           have fr2:decide (en<b)=false:=Ox r2
          case' neg=>
           have dq2:decide ((md:Int)<(en:Int))=false:=by simp;omega
           have fq2:decide (md<en)=false:=Ox q2
          all_goals
           clear z2;go_wp2;first|go_end0|refine OC (OD rfl _ _ _) rfl ?_
           exact⟨rfl,_,HP1.o⟩
        .by_cases q1:a<st
         case' pos=>
          have r1:¬st<md:=by omega
          have dq1:decide ((a:Int)<(st:Int))=true:=by simp;omega
          have dr1:decide ((st:Int)<(md:Int))=false:=by simp;omega
          have fr1:decide (st<md)=false:=Ox r1
         case' neg=>
          have dq1:decide ((a:Int)<(st:Int))=false:=by simp;omega
          have fq1:decide (a<st)=false:=Ox q1
         all_goals
          clear z1;go_upto_region 43 with fail;by_cases z2:md<en/\en<b
          .obtain⟨q2,r2⟩:=z2;have dq2:decide ((md:Int)<(en:Int))=true:=by simp;omega
           have dr2:decide ((en:Int)<(b:Int))=true:=by simp;omega
           go_wp2_with (go_at_call 250;refine(HSR.o _ _ HP0.o q2 r2).mono ?_;rintro e w2x ⟨rfl,cs2x,hp2x⟩;have HP2:=ae hp2x;clear hp2x);first|go_end0|refine OC (OD rfl _ _ _) rfl ?_
           exact⟨rfl,_,HP2.o⟩
          .by_cases q2:md<en
           case' pos=>
            have r2:¬en<b:=by omega
            have dq2:decide ((md:Int)<(en:Int))=true:=by simp;omega
            have dr2:decide ((en:Int)<(b:Int))=false:=by simp;omega
            have fr2:decide (en<b)=false:=Ox r2
           case' neg=>
            have dq2:decide ((md:Int)<(en:Int))=false:=by simp;omega
            have fq2:decide (md<en)=false:=Ox q2
           all_goals
            clear z2;go_wp2;first|go_end0|refine OC (OD rfl _ _ _) rfl ?_
            exact⟨rfl,_,HP0.o⟩
       .by_cases q0:st<m
        case' pos=>
         have r0:¬m<en:=by omega
         have dq0:decide ((st:Int)<(m:Int))=true:=by simp;omega
         have dr0:decide ((m:Int)<(en:Int))=false:=by simp;omega
         have fr0:decide (m<en)=false:=Ox r0
        case' neg=>
         have dq0:decide ((st:Int)<(m:Int))=false:=by simp;omega
         have fq0:decide (st<m)=false:=Ox q0
        all_goals
         clear z0;go_upto_region 41 with fail;by_cases z1:a<st/\st<md
         .obtain⟨q1,r1⟩:=z1;have dq1:decide ((a:Int)<(st:Int))=true:=by simp;omega
          have dr1:decide ((st:Int)<(md:Int))=true:=by simp;omega
          go_upto_region 43 with (go_at_call 250;refine(HSL.o _ _ HW.o q1 r1).mono ?_;rintro e w1x ⟨rfl,cs1x,hp1x⟩;have HP1:=ae hp1x;clear hp1x);by_cases z2:md<en/\en<b
          .obtain⟨q2,r2⟩:=z2;have dq2:decide ((md:Int)<(en:Int))=true:=by simp;omega
           have dr2:decide ((en:Int)<(b:Int))=true:=by simp;omega
           go_wp2_with (go_at_call 250;refine(HSR.o _ _ HP1.o q2 r2).mono ?_;rintro e w2x ⟨rfl,cs2x,hp2x⟩;have HP2:=ae hp2x;clear hp2x);first|go_end0|refine OC (OD rfl _ _ _) rfl ?_
           exact⟨rfl,_,HP2.o⟩
          .by_cases q2:md<en
           case' pos=>
            have r2:¬en<b:=by omega
            have dq2:decide ((md:Int)<(en:Int))=true:=by simp;omega
            have dr2:decide ((en:Int)<(b:Int))=false:=by simp;omega
            have fr2:decide (en<b)=false:=Ox r2
           case' neg=>
            have dq2:decide ((md:Int)<(en:Int))=false:=by simp;omega
            have fq2:decide (md<en)=false:=Ox q2
           all_goals
            clear z2;go_wp2;first|go_end0|refine OC (OD rfl _ _ _) rfl ?_
            exact⟨rfl,_,HP1.o⟩
         .by_cases q1:a<st
          case' pos=>
           have r1:¬st<md:=by omega
           have dq1:decide ((a:Int)<(st:Int))=true:=by simp;omega
           have dr1:decide ((st:Int)<(md:Int))=false:=by simp;omega
           have fr1:decide (st<md)=false:=Ox r1
          case' neg=>
           have dq1:decide ((a:Int)<(st:Int))=false:=by simp;omega
           have fq1:decide (a<st)=false:=Ox q1
          all_goals
           clear z1;go_upto_region 43 with fail;by_cases z2:md<en/\en<b
           .obtain⟨q2,r2⟩:=z2;have dq2:decide ((md:Int)<(en:Int))=true:=by simp;omega
            have dr2:decide ((en:Int)<(b:Int))=true:=by simp;omega
            go_wp2_with (go_at_call 250;refine(HSR.o _ _ HW.o q2 r2).mono ?_;rintro e w2x ⟨rfl,cs2x,hp2x⟩;have HP2:=ae hp2x;clear hp2x);first|go_end0|refine OC (OD rfl _ _ _) rfl ?_
            exact⟨rfl,_,HP2.o⟩
           .by_cases q2:md<en
            case' pos=>
             have r2:¬en<b:=by omega
             have dq2:decide ((md:Int)<(en:Int))=true:=by simp;omega
             have dr2:decide ((en:Int)<(b:Int))=false:=by simp;omega
             have fr2:decide (en<b)=false:=Ox r2
            case' neg=>
             have dq2:decide ((md:Int)<(en:Int))=false:=by simp;omega
             have fq2:decide (md<en)=false:=Ox q2
            all_goals
             clear z2;go_wp2;first|go_end0|refine OC (OD rfl _ _ _) rfl ?_
             exact⟨rfl,_,HW.o⟩
theorem KN(B:Nat)(w0 W:PJ)(g cap:Nat)(zs cs:List bM)(dg:bM->Int)(hcm:mI w0 g zs dg)(h:ci B w0 W g cap zs cs)(hn:zs.length<=2100000000000):Calls prog 222 #[PM g zs.length cap,PO zs.length,.func (.func 186) #[] #[]] W λe w'=>e=.returned (.tuple #[])/\∃cs',ci B w0 w' g cap zs cs':=by
 have H0:=ae h;clear h;have HIN:Po (∀W cs a b,ci B w0 W g cap zs cs->a<=b->b<=zs.length->Calls prog 249 #[PM g zs.length cap,PO (a:Nat),PO (b:Nat),.func (.func 186) #[] #[]] W λe w'=>e=.returned (.tuple #[])/\∃cs',ci B w0 w' g cap zs cs'):=λW cs a b h1 h2 h3=>KI B w0 W g cap zs cs a b dg hcm h1 h2 h3 hn;have HSY:Po (∀W cs a m b,ci B w0 W g cap zs cs->a<m->m<b->b<=zs.length->Calls prog 250 #[PM g zs.length cap,PO (a:Nat),PO (m:Nat),PO (b:Nat),.func (.func 186) #[] #[]] W λe w'=>e=.returned (.tuple #[])/\∃cs',ci B w0 w' g cap zs cs'):=λW cs a m b h1 h2 h3 h4=>KM B w0 g cap zs dg hcm hn (b-a) W cs a m b (Ou _) h2 h3 h4 h1;obtain⟨n,hnn⟩:∃n,n=zs.length:=⟨_,rfl⟩;clear hcm;rw[<-hnn] at HIN HSY hn;rw[<-hnn];have HNN:=ae hnn;clear hnn;go_enter func222,ntmps222;go_wp2_with fail;go_loopw [7,8] (λva vb wr=>∃(a:Nat)(cs:List bM),a<=n/\va=PO a/\vb=PO (a+20:Nat)/\ci B w0 wr g cap zs cs) (λva vb _=>n+20-(intOf vb).toNat);case atStart=>exact⟨0,cs,OB _,rfl,by go_num,H0.o⟩
 case round=>
  clear H0;obtain⟨a,ds,han,rfl,rfl,hw⟩:=hrel;have HW:=ae hw;clear hw;by_cases hle:a+20<=n
  .have HC:=ae (HIN.o wr ds a (a+20) HW.o (by omega) hle);have hI:(a:Int)+20<=(n:Int):=by omega
   go_wp2_with (go_at_call 249;refine HC.o.mono ?_;rintro e w9 ⟨rfl,es,hw9⟩;have HW9:=ae hw9;clear hw9);go_roundw;case rel=>exact⟨a+20,es,hle,by go_num,by go_num,HW9.o⟩
   case measure=>simp[intOf];omega
  .have HC:=ae (HIN.o wr ds a n HW.o han (Ou _));have hI:¬(a:Int)+20<=(n:Int):=by omega
   go_wp2_with (go_at_call 249;refine HC.o.mono ?_;rintro e w9 ⟨rfl,es,hw9⟩;have HW9:=ae hw9;clear hw9);go_loopw [6] (λvs wr2=>∃(bs:Nat)(cs:List bM),20<=bs/\bs<=4200000000000/\vs=PO bs/\ci B w0 wr2 g cap zs cs) (λvs _=>n-(intOf vs).toNat);case atStart=>exact⟨20,es,Ou _,by omega,rfl,HW9.o⟩
   case round=>
    clear HW9 HC HW;rename PJ=>wr1;obtain⟨bs,fs,hbs,hbs2,rfl,hw⟩:=hrel;have HW1:=ae hw;clear hw;by_cases hlt:bs<n
    .have hw2:IntKind.i64.wrap (2*(bs:Int))=2*(bs:Int):=by rw[IntKind.wrap_i64];omega
     go_wp2_with fail;go_loopw [7,8] (λva vb wr3=>∃(a2:Nat)(cs:List bM),a2<=n/\va=PO a2/\vb=PO (a2+2*bs:Nat)/\ci B w0 wr3 g cap zs cs) (λva vb _=>n+2*bs-(intOf vb).toNat);case atStart=>exact⟨0,fs,OB _,rfl,by go_num,HW1.o⟩
     case round=>
      clear HW1;rename PJ=>wr2;obtain⟨a2,gs,ha2,rfl,rfl,hw⟩:=hrel;have HW2:=ae hw;clear hw;by_cases hle2:a2+2*bs<=n
      .have HC:=ae (HSY.o wr2 gs a2 (a2+bs) (a2+2*bs) HW2.o (by omega) (by omega) hle2);have hI2:(a2:Int)+2*(bs:Int)<=(n:Int):=by omega
       go_wp2_with (go_at_call 250;refine HC.o.mono ?_;rintro e w9 ⟨rfl,es2,hw9⟩;have HW9:=ae hw9;clear hw9);go_roundw;case rel=>exact⟨a2+2*bs,es2,hle2,by go_num,by go_num,HW9.o⟩
       case measure=>simp[intOf];omega
      .have hI2:¬(a2:Int)+2*(bs:Int)<=(n:Int):=by omega
       by_cases hm:a2+bs<n
       .have HC:=ae (HSY.o wr2 gs a2 (a2+bs) n HW2.o (by omega) hm (Ou _));have hI3:(a2:Int)+(bs:Int)<(n:Int):=by omega
        go_wp2_with (go_at_call 250;refine HC.o.mono ?_;rintro e w9 ⟨rfl,es2,hw9⟩;have HW9:=ae hw9;clear hw9);go_roundw;case rel=>exact⟨bs*2,es2,by omega,by omega,by go_num,HW9.o⟩
        case measure=>simp[intOf];omega
       .have hI3:¬(a2:Int)+(bs:Int)<(n:Int):=by omega
        go_wp2_with fail;go_roundw;case rel=>exact⟨bs*2,gs,by omega,by omega,by go_num,HW2.o⟩
        case measure=>simp[intOf];omega
    .go_wp2;go_end0;exact⟨rfl,fs,HW1.o⟩
theorem KO(W:PJ)(cv:PK):Calls prog 249 #[.slice none 0 0,PO 0,PO 0,cv] W λe w'=>e=.returned (.tuple #[])/\w'=W:=by
 go_enter func249,ntmps249;go_wp2_with fail;go_loopw [8] (λvi wr=>vi=PO 1/\wr=W) (λ_ _=>0);case atStart=>exact⟨rfl,rfl⟩
 case round=>obtain⟨rfl,rfl⟩:=hrel;go_wp2;go_end0;exact⟨rfl,rfl⟩
theorem KP(W:PJ)(cv:PK):Calls prog 222 #[.slice none 0 0,PO 0,cv] W λe w'=>e=.returned (.tuple #[])/\w'=W:=by
 have HI:=ae (KO W cv);go_enter func222,ntmps222;go_wp2_with fail;go_loopw [7,8] (λva vb wr=>va=PO 0/\vb=PO 20/\wr=W) (λ_ _ _=>0);case atStart=>exact⟨rfl,rfl,rfl⟩
 case round=>
  obtain⟨rfl,rfl,rfl⟩:=hrel;go_wp2_with (go_at_call 249;refine HI.o.mono ?_;rintro e w9 ⟨rfl,h9⟩;have h9b:=h9.symm;clear h9;subst h9b);go_loopw [6] (λvs wr2=>vs=PO 20/\wr2=wr) (λ_ _=>0);case atStart=>exact⟨rfl,rfl⟩
  case round=>obtain⟨rfl,rfl⟩:=hrel;go_wp2;go_end0;exact⟨rfl,rfl⟩
theorem KQ(B:Nat)(v:PK)(zs:List bM)(w:PJ)(dg:bM->Int)(hcm:∀g,v.ownBlock=some g->mI w g zs dg)(hp:iO B w v zs)(hn:zs.length<=2100000000000):Calls prog 185 #[v,.func (.func 186) #[] #[]] w λe w'=>e=.returned (.tuple #[])/\∃zs',zs'.Perm zs/\iO B w' v zs'/\aj (λk=>v.ownBlock=some k) w w':=by
 rcases hp.own.2 with ⟨h1,h2⟩|⟨g,cap,ag,h1,_⟩
 .have e:zs=[]:=O8.1 h2;subst h1;subst e;have HP:=ae hp;clear hp h2 hcm;have HS:=ae (KP w (.func (.func 186) #[] #[]));go_enter func185,ntmps185;go_wp2_with (go_at_call 222;refine HS.o.mono ?_;rintro e w9 ⟨rfl,h9⟩;have h9b:=h9.symm;clear h9;subst h9b);go_end0;exact⟨rfl,[],List.Perm.refl _,HP.o,aj.refl _ _⟩
 .subst h1;have HS:=ae (KN B w w g cap zs zs dg (hcm g rfl) ⟨hp,List.Perm.refl _,aj.refl _ _⟩ hn);clear hp hcm;go_enter func185,ntmps185;go_wp2_with (go_at_call 222;refine HS.o.mono ?_;rintro e w9 ⟨rfl,cs,hw9⟩;have HW9:=ae hw9;clear hw9);go_end0;exact⟨rfl,cs,HW9.o.perm,HW9.o.row,HW9.o.frm.wide λk _ e=>by rw[e];rfl⟩
end Go.Proofs.YtjkalahhpobefaaGreat
