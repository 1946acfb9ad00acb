/- Pairs that are sorted. -/
import Derived.Test.YtjkalahhpobefaaGreatKK
set_option maxHeartbeats 8000000
set_option maxRecDepth 100000
namespace Go.Proofs.YtjkalahhpobefaaGreat
set_option linter.all false
open Go.Proofs.Tryz Go.RowKit
structure b8(B:Nat)(w0 W:PJ)(g cap:Nat)(qs cs:PF):Prop where
 row:bK B W (PM g qs.length cap) cs
 perm:cs.Perm qs
 frm:aj (λk=>k=g) w0 W
variable{qs cs:PF}{g cap B:Nat}{w0 W:PJ}
theorem b8.next{W':PJ}(h:b8 B w0 W g cap qs cs)(hb:Io W W'):b8 B w0 W' g cap qs cs:=
 ⟨h.row.next hb,h.perm,h.frm.trans (aj.of_below (S:=λ_=>False) hb) λ_ _ h=>h.elim⟩
theorem b8.len(h:b8 B w0 W g cap qs cs):cs.length=qs.length:=h.perm.length_eq
theorem vJ{o:Nat}{q:Pq}(h:iG W g o q):Sem.run prog (loadCellsFrom (PN g o) 0 8 #[]) W=.ok (aO q).toArray W:=by
 obtain⟨h0,h1,h2,h3,h4,h5,h6,h7⟩:=h;refine Go.Proofs.run_loadCellsFrom_list prog _ _ _ 8 rfl λj u hj=>?_;rw[Addr.add_lit]
 match j,hj with
 |0,hj=>rw[Nat.add_zero,h0];exact hj
 |1,hj=>rw[h1];exact hj
 |2,hj=>rw[h2];exact hj
 |3,hj=>rw[h3];exact hj
 |4,hj=>rw[h4];exact hj
 |5,hj=>rw[h5];exact hj
 |6,hj=>rw[h6];exact hj
 |7,hj=>rw[h7];exact hj
 |j+8,hj=>simp[aO] at hj
theorem Bg{n:Nat}(h:bK B W (PM g n cap) cs)(k:Nat)(hk:k<cs.length)(q:Pq):Sem.run prog (storeCells ⟨g,k*8,none⟩ (aO q) 0) W=.ok () (pE W g k q):=by
 obtain⟨c0,c1,c2,c3,c4,c5,c6,c7⟩:=h.cells8 k hk;obtain⟨a,c,e⟩:=h.sl;simp only[OQ] at e;obtain⟨_,rfl,_⟩:=e;have hst:=run_storeCells_cells (P:=prog) g (k*8) (aO q) 0 W (λj hj=>by
  have hj8:j<8:=hj;rw[Nat.add_zero];have:j=0\/j=1\/j=2\/j=3\/j=4\/j=5\/j=6\/j=7:=by omega
  rcases this with rfl|rfl|rfl|rfl|rfl|rfl|rfl|rfl
  .rw[Nat.add_zero,c0];rfl
  .rw[c1];rfl
  .rw[c2];rfl
  .rw[c3];rfl
  .rw[c4];rfl
  .rw[c5];rfl
  .rw[c6];rfl
  .rw[c7];rfl) (λj _=>Oo h.own _) (Bh q)
 exact hst
theorem b8.swap(h:b8 B w0 W g cap qs cs)(i j:Nat)(hi:i<cs.length)(hj:j<cs.length):Sem.run prog (loadCellsFrom ⟨g,i*8,none⟩ 0 8 #[]) W=.ok (aO cs[i]).toArray W/\Sem.run prog (loadCellsFrom ⟨g,j*8,none⟩ 0 8 #[]) W=.ok (aO cs[j]).toArray W/\∃W1 W2,Sem.run prog (storeCells ⟨g,i*8,none⟩ (aO cs[j]) 0) W=.ok () W1/\Sem.run prog (storeCells ⟨g,j*8,none⟩ (aO cs[i]) 0) W1=.ok () W2/\b8 B w0 W2 g cap qs ((cs.set i cs[j]).set j cs[i]):=by have h1:=h.row.putQ i hi cs[j];have h2:=h1.1.putQ j (by rw[List.length_set];exact hj) cs[i];refine⟨vJ (h.row.cells8 i hi),vJ (h.row.cells8 j hj),_,_,Bg h.row i hi _,Bg h1.1 j (by rw[List.length_set];exact hj) _,⟨h2.1,(Go.Sort.perm_set_set cs i j hi hj).trans h.perm,(h.frm.trans h1.2 λ_ _ h=>h).trans h2.2 λ_ _ h=>h⟩⟩
theorem vK(B:Nat)(w0 W:PJ)(g cap:Nat)(qs cs:PF)(a b n:Nat)(cv:PK)(h:b8 B w0 W g cap qs cs)(ha:a+n<=qs.length)(hb:b+n<=qs.length)(hn:qs.length<=2100000000000):Calls prog 286 #[PM g qs.length cap,PO a,PO b,PO n,cv] W λe w'=>e=.returned (.tuple #[])/\∃cs',b8 B w0 w' g cap qs cs':=by
 have H0:=ae h;clear h;go_enter func286,ntmps286;go_wp2_with fail;go_loopw [10] (λi wr=>∃(m:Nat)(cs:PF),m<=n/\i=PO m/\b8 B w0 wr g cap qs cs) (λi _=>n-(intOf i).toNat);case atStart=>exact⟨0,cs,OB _,rfl,H0.o⟩
 case round=>
  clear H0;obtain⟨m,ds,hm,rfl,hw⟩:=hrel;have HW:=ae hw;clear hw;have hlen:ds.length=qs.length:=HW.o.len;have HLEN:=ae hlen;by_cases hm2:m<n
  .have hx:a+m<ds.length:=by omega
   have hy:b+m<ds.length:=by omega
   obtain⟨lx,ly,W1,W2,s1,s2,hp2⟩:=(HW.o.next (Ov wr.heap.size wr).drew).swap (a+m) (b+m) hx hy;have HP2:=ae hp2;have hmI:(m:Int)<(n:Int):=by omega
   have e1:(a:Int)+(m:Int)<(qs.length:Int):=by omega
   have e2:(b:Int)+(m:Int)<(qs.length:Int):=by omega
   have nx:(aO ds[a+m]).length=8:=rfl;have ny:(aO ds[b+m]).length=8:=rfl;obtain⟨k8,hk8⟩:∃k8,k8=8:=⟨_,rfl⟩;have hz:∀W,(Go.sizeOf 238).run prog W=.ok k8 W:=λW=>by rw[hk8];kernel_rfl
   rw[<-hk8] at lx ly s1 s2 nx ny;generalize aO ds[a+m]=cx at lx s2 nx;generalize aO ds[b+m]=cy at ly s1 ny;clear hk8 hp2 hlen;go_upto_region 3 with fail;go_region;all_goals
    go_wp2;go_roundw;case rel=>exact⟨m+1,_,by omega,by go_num,HP2.o⟩
    case measure=>simp[intOf];omega
  .go_wp2;go_end0;exact⟨rfl,ds,HW.o⟩
theorem rK(x y:Pq)(W:PJ):Calls prog 217 #[.agg (aO x).toArray,.agg (aO y).toArray] W λe w'=>e=.returned (PO (bi x.dg y.dg))/\Io W w':=by have hcon:=λW'=>kh x.dg y.dg W';generalize bi x.dg y.dg=r at hcon⊢;unfold aO;go_enter func217,ntmps217;go_wp2_with (go_at_call 126;refine(hcon _).mono ?_;rintro e w' ⟨rfl,rfl⟩);go_ret;exact⟨rfl,cY⟩
theorem b8.loads(h:b8 B w0 W g cap qs cs)(i:Nat)(hi:i<cs.length)(P:bX W):Sem.run prog (loadCellsFrom ⟨g,i*8,none⟩ 0 8 #[]) P.w'=.ok (aO cs[i]).toArray P.w':=vJ ((h.next P.h).row.cells8 i hi)
theorem Ii(B:Nat)(w0 W:PJ)(g cap:Nat)(qs cs:PF)(a b:Nat)(h:b8 B w0 W g cap qs cs)(hab:a<=b)(hb:b<=qs.length)(hn:qs.length<=2100000000000):Calls prog 267 #[PM g qs.length cap,PO a,PO b,.func (.func 217) #[] #[]] W λe w'=>e=.returned (.tuple #[])/\∃cs',b8 B w0 w' g cap qs cs':=by
 have H0:=ae h;clear h;go_enter func267,ntmps267;go_wp2_with fail;go_loopw [8] (λvi wr=>∃(i:Nat)(cs:PF),a<i/\i<=b+1/\vi=PO i/\b8 B w0 wr g cap qs cs) (λvi _=>b+1-(intOf vi).toNat);case atStart=>exact⟨a+1,cs,by omega,by omega,by go_num,H0.o⟩
 case round=>
  clear H0;obtain⟨i,ds,hai,hib,rfl,hw⟩:=hrel;have HW:=ae hw;clear hw;by_cases hlt:i<b
  .go_wp2_with fail;go_loopw [9] (λvj wr2=>∃(j:Nat)(cs:PF),a<=j/\j<=i/\vj=PO j/\b8 B w0 wr2 g cap qs cs) (λvj _=>(intOf vj).toNat);case atStart=>exact⟨i,ds,by omega,Ou _,rfl,HW.o⟩
   case round=>
    clear HW;rename PJ=>wr0;obtain⟨j,es,haj,hji,rfl,hw⟩:=hrel;have HW:=ae hw;clear hw;by_cases hja:a<j
    .obtain⟨jp,rfl⟩:∃jp,j=jp+1:=⟨j-1,by omega⟩;have hlen:=HW.o.len;have hx:jp+1<es.length:=by omega
     have hy:jp<es.length:=by omega
     have HLX:=ae (λP=>HW.o.loads (jp+1) hx P);have HLY:=ae (λP=>HW.o.loads jp hy P);have HCM:=ae (λW=>rK es[jp+1] es[jp] W);have HSW:Po (∀W,Io wr0 W->_):=λW hb=>(HW.o.next hb).swap (jp+1) jp hx hy;have nx:(aO es[jp+1]).length=8:=rfl;have ny:(aO es[jp]).length=8:=rfl;obtain⟨k8,hk8⟩:∃k8,k8=8:=⟨_,rfl⟩;have hz:∀W,(Go.sizeOf 238).run prog W=.ok k8 W:=λW=>by rw[hk8];kernel_rfl
     rw[<-hk8] at HLX HLY HSW nx ny;generalize aO es[jp+1]=cx at HLX HCM HSW nx;generalize aO es[jp]=cy at HLY HCM HSW ny;generalize bi es[jp+1].dg es[jp].dg=rr at HCM;have hjI:(a:Int)<(jp:Int)+1:=by omega
     have hjd:decide ((a:Int)<(jp:Int)+1)=true:=by simp;omega
     have j1:(jp:Int)+1<(qs.length:Int):=by omega
     have j0:(jp:Int)<(qs.length:Int):=by omega
     have jw:IntKind.i64.wrap ((jp:Int)+1-1)=(jp:Int):=by rw[IntKind.wrap_i64];omega
     clear hk8 hlen;have lx:=HLX.o;have ly:=HLY.o;have hne:Nonempty (bX wr0):=⟨⟨wr0,Ov _ _⟩⟩;by_cases hrr:rr<0
     .have hrd:decide (rr<0)=true:=Oy hrr;go_upto_region 4 with fail;refine fr (by kernel_rfl) (by kernel_rfl) ?_;repeat (go_big_quiet_step (first|(go_at_call 217;exact Calls.below_of (HCM.o _))))
      refine wpQuiet_nil ?_;intro w8 hw';obtain⟨⟨w9,hb9⟩,rfl⟩:=hw';have HB9:=ae hb9;clear hb9 hne lx ly;obtain⟨lx,ly,W1,W2,s1,s2,hp2⟩:=HSW.o w8.drew HB9.o.drew;have HP2:=ae hp2;clear hp2;go_upto_region 6 with fail;go_region;all_goals
       go_wp2;go_roundw;case rel=>exact⟨jp,_,by omega,by omega,by go_num,HP2.o⟩
       case measure=>simp[intOf]
     .have hrd:decide (rr<0)=false:=Ox hrr;go_upto_region 4 with fail;refine fr (by kernel_rfl) (by kernel_rfl) ?_;repeat (go_big_quiet_step (first|(go_at_call 217;exact Calls.below_of (HCM.o _))))
      refine wpQuiet_nil ?_;intro w8 hw';obtain⟨⟨w9,hb9⟩,rfl⟩:=hw';have HB9:=ae hb9;clear hb9 hne lx ly;go_wp2;go_roundw;case rel=>exact⟨i+1,es,by omega,by omega,by go_num,HW.o.next HB9.o⟩
      case measure=>simp[intOf];omega
    .have hjd:decide ((a:Int)<(j:Int))=false:=by simp;omega
     have hje:decide (a<j)=false:=Ox hja;have hne:Nonempty (bX wr0):=⟨⟨wr0,Ov _ _⟩⟩;go_upto_region 4 with fail;refine fr (by kernel_rfl) (by kernel_rfl) ?_;repeat (go_big_quiet_step (fail))
     refine wpQuiet_nil ?_;intro _ hw';obtain⟨⟨w9,hb9⟩,rfl⟩:=hw';have HB9:=ae hb9;clear hb9 hne;go_wp2;go_roundw;case rel=>exact⟨i+1,es,by omega,by omega,by go_num,HW.o.next HB9.o⟩
     case measure=>simp[intOf];omega
  .go_wp2;go_end0;exact⟨rfl,ds,HW.o⟩
theorem Ij(B:Nat)(w0 W:PJ)(g cap:Nat)(qs cs:PF)(a m b:Nat)(cv:PK)(h:b8 B w0 W g cap qs cs)(ham:a<m)(hmb:m<b)(hb:b<=qs.length)(hn:qs.length<=2100000000000):Calls prog 281 #[PM g qs.length cap,PO a,PO m,PO b,cv] W λe w'=>e=.returned (.tuple #[])/\∃cs',b8 B w0 w' g cap qs cs':=by
 have H0:=ae h;clear h;go_enter func281,ntmps281;go_wp2_with fail;go_loopw [10,11] (λvi vj wr=>∃(i j:Nat)(cs:PF),0<i/\0<j/\i<=m/\m+j<=b/\vi=PO i/\vj=PO j/\b8 B w0 wr g cap qs cs) (λvi vj _=>(intOf vi).toNat+(intOf vj).toNat);case atStart=>exact⟨m-a,b-m,cs,by omega,by omega,by omega,by omega,by go_num,by go_num,H0.o⟩
 case round=>
  clear H0;obtain⟨i,j,ds,hi0,hj0,him,hjb,rfl,rfl,hw⟩:=hrel;have HW:=ae hw;clear hw;rcases Nat.lt_trichotomy i j with hlt|heq|hgt
  .have HS:=ae (vK B w0 wr g cap qs ds (m-i) (m+j-i) i cv HW.o (by omega) (by omega) hn);have e1:((m-i:Nat):Int)=(m:Int)-(i:Int):=by omega
   have e2:((m+j-i:Nat):Int)=(m:Int)+(j:Int)-(i:Int):=by omega
   rw[e1,e2] at HS;clear e1 e2;go_wp2_with (go_at_call 286;refine HS.o.mono ?_;rintro e w9 ⟨rfl,es,hw9⟩;have HW9:=ae hw9;clear hw9);go_roundw;case rel=>exact⟨i,j-i,es,by omega,by omega,by omega,by omega,rfl,by go_num,HW9.o⟩
   case measure=>simp[intOf];omega
  .subst heq;have HS:=ae (vK B w0 wr g cap qs ds (m-i) m i cv HW.o (by omega) (by omega) hn);have e1:((m-i:Nat):Int)=(m:Int)-(i:Int):=by omega
   rw[e1] at HS;clear e1;go_wp2_with (go_at_call 286;refine HS.o.mono ?_;rintro e w9 ⟨rfl,es,hw9⟩;have HW9:=ae hw9;clear hw9);go_end0;exact⟨rfl,es,HW9.o⟩
  .have HS:=ae (vK B w0 wr g cap qs ds (m-i) m j cv HW.o (by omega) (by omega) hn);have e1:((m-i:Nat):Int)=(m:Int)-(i:Int):=by omega
   rw[e1] at HS;clear e1;go_wp2_with (go_at_call 286;refine HS.o.mono ?_;rintro e w9 ⟨rfl,es,hw9⟩;have HW9:=ae hw9;clear hw9);go_roundw;case rel=>exact⟨i-j,j,es,by omega,by omega,by omega,by omega,by go_num,rfl,HW9.o⟩
   case measure=>simp[intOf];omega
theorem lD{i j:Nat}(h:i+j<=4200000000000):IntKind.u64.wrap ((i:Int)+(j:Int))=(i:Int)+(j:Int):=by rw[IntKind.wrap_u64];omega
theorem Ik(B:Nat)(w0 W:PJ)(g cap:Nat)(qs cs:PF)(a b:Nat)(h:b8 B w0 W g cap qs cs)(hmb:a+1<b)(hb:b<=qs.length)(hn:qs.length<=2100000000000):Calls prog 268 #[PM g qs.length cap,PO a,PO (a+1:Nat),PO b,.func (.func 217) #[] #[]] W λe w'=>e=.returned (.tuple #[])/\∃cs',b8 B w0 w' g cap qs cs':=by
 have H0:=ae h;clear h;go_enter func268,ntmps268;go_wp2_with fail;go_loopw [10,11] (λvi vj wr=>∃(i j:Nat)(cs:PF),a+1<=i/\i<=j/\j<=b/\vi=PO i/\vj=PO j/\b8 B w0 wr g cap qs cs) (λvi vj _=>(intOf vj).toNat-(intOf vi).toNat);case atStart=>exact⟨a+1,b,cs,by omega,by omega,by omega,by go_num,by go_num,H0.o⟩
 case round=>
  clear H0;obtain⟨i,j,ds,hi,hij,hjb,rfl,rfl,hw⟩:=hrel;have HW:=ae hw;clear hw;by_cases hlt:i<j
  .have hlen:=HW.o.len;have hu:=lD (i:=i) (j:=j) (by omega);obtain⟨hh,hhe⟩:∃hh,hh=(i+j)/2:=⟨_,rfl⟩;have hh1:i<=hh/\hh<j:=by omega
   have hhI:((i:Int)+(j:Int))/2=(hh:Int):=by omega
   have hhJ:(i+j)/2=hh:=hhe.symm;have hhl:(hh:Int)<(qs.length:Int):=by omega
   clear hhe;have hx:hh<ds.length:=by omega
   have hy:a<ds.length:=by omega
   have HLX:=ae (λP=>HW.o.loads (hh) hx P);have HLY:=ae (λP=>HW.o.loads (a) hy P);have HCM:=ae (λW=>rK ds[hh] ds[a] W);have nx:(aO ds[hh]).length=8:=rfl;have ny:(aO ds[a]).length=8:=rfl;obtain⟨k8,hk8⟩:∃k8,k8=8:=⟨_,rfl⟩;have hz:∀W,(Go.sizeOf 238).run prog W=.ok k8 W:=λW=>by rw[hk8];kernel_rfl
   rw[<-hk8] at HLX HLY nx ny;generalize aO ds[hh]=cx at HLX HCM nx;generalize aO ds[a]=cy at HLY HCM ny;generalize bi ds[hh].dg ds[a].dg=rr at HCM;have a0:(a:Int)<(qs.length:Int):=by omega
   clear hk8 hlen hx hy;have lx:=HLX.o;have ly:=HLY.o;have hne:Nonempty (bX wr):=⟨⟨wr,Ov _ _⟩⟩;cases hrd:decide (rr<0);all_goals
    first|have hrr:=of_decide_eq_true hrd|have hrr:=of_decide_eq_false hrd
    go_upto_region 5 with fail;refine fr (by kernel_rfl) (by kernel_rfl) ?_;repeat (go_big_quiet_step (first|(go_at_call 217;exact Calls.below_of (HCM.o _))))
    refine wpQuiet_nil ?_;intro w8 hw';obtain⟨⟨w9,hb9⟩,rfl⟩:=hw';have HB9:=ae hb9;clear hb9 hne lx ly;go_wp2;go_roundw;case rel=>first|exact⟨hh+1,j,ds,by omega,by omega,by omega,by go_num,rfl,HW.o.next HB9.o⟩|exact⟨i,hh,ds,by omega,by omega,by omega,rfl,rfl,HW.o.next HB9.o⟩
    case measure=>simp[intOf];omega
  .go_wp2_with fail;go_loopw [13] (λvk wr2=>∃(k:Nat)(cs:PF),a<=k/\(k<i\/k=a)/\vk=PO k/\b8 B w0 wr2 g cap qs cs) (λvk _=>i-(intOf vk).toNat);case atStart=>exact⟨a,ds,Ou _,Pg rfl,rfl,HW.o⟩
   case round=>
    clear HW;rename PJ=>wr0;obtain⟨k,es,hak,hki,rfl,hw⟩:=hrel;have HW:=ae hw;clear hw;have hlen:=HW.o.len;by_cases hlt2:k+1<i
    .have hlI:(k:Int)<(i:Int)-1:=by omega
     have hx:k<es.length:=by omega
     have hy:k+1<es.length:=by omega
     obtain⟨lx,ly,W1,W2,s1,s2,hp2⟩:=(HW.o.next (Ov wr0.heap.size wr0).drew).swap (k) (k+1) hx hy;have HP2:=ae hp2;have nx:(aO es[k]).length=8:=rfl;have ny:(aO es[k+1]).length=8:=rfl;obtain⟨k8,hk8⟩:∃k8,k8=8:=⟨_,rfl⟩;have hz:∀W,(Go.sizeOf 238).run prog W=.ok k8 W:=λW=>by rw[hk8];kernel_rfl
     rw[<-hk8] at lx ly s1 s2 nx ny;generalize aO es[k]=cx at lx s2 nx;generalize aO es[k+1]=cy at ly s1 ny;have k0:(k:Int)<(qs.length:Int):=by omega
     have k1:(k:Int)+1<(qs.length:Int):=by omega
     clear hk8 hp2 hlen;go_upto_region 11 with fail;go_region;all_goals
      go_wp2;go_roundw;case rel=>exact⟨k+1,_,by omega,by omega,by go_num,HP2.o⟩
      case measure=>simp[intOf];omega
    .have hlI:¬(k:Int)<(i:Int)-1:=by omega
     go_wp2;first|go_end0|refine OC (OD rfl _ _ _) rfl ?_
     exact⟨rfl,es,HW.o⟩
theorem Il(B:Nat)(w0 W:PJ)(g cap:Nat)(qs cs:PF)(a m b:Nat)(h:b8 B w0 W g cap qs cs)(ham:a+1<m)(hmb:b=m+1)(hb:b<=qs.length)(hn:qs.length<=2100000000000):Calls prog 268 #[PM g qs.length cap,PO a,PO m,PO b,.func (.func 217) #[] #[]] W λe w'=>e=.returned (.tuple #[])/\∃cs',b8 B w0 w' g cap qs cs':=by
 have H0:=ae h;clear h;subst hmb;have hne1:((m:Int)-(a:Int)==1)=false:=by simp;omega
 go_enter func268,ntmps268;go_wp2_with fail;clear hne1;go_loopw [14,15] (λvi vj wr=>∃(i j:Nat)(cs:PF),a<=i/\i<=j/\j<=m/\vi=PO i/\vj=PO j/\b8 B w0 wr g cap qs cs) (λvi vj _=>(intOf vj).toNat-(intOf vi).toNat);case atStart=>exact⟨a,m,cs,by omega,by omega,by omega,by go_num,by go_num,H0.o⟩
 case round=>
  clear H0;obtain⟨i,j,ds,hi,hij,hjb,rfl,rfl,hw⟩:=hrel;have HW:=ae hw;clear hw;by_cases hlt:i<j
  .have hlen:=HW.o.len;have hu:=lD (i:=i) (j:=j) (by omega);obtain⟨hh,hhe⟩:∃hh,hh=(i+j)/2:=⟨_,rfl⟩;have hh1:i<=hh/\hh<j:=by omega
   have hhI:((i:Int)+(j:Int))/2=(hh:Int):=by omega
   have hhJ:(i+j)/2=hh:=hhe.symm;have hhl:(hh:Int)<(qs.length:Int):=by omega
   clear hhe;have hx:m<ds.length:=by omega
   have hy:hh<ds.length:=by omega
   have HLX:=ae (λP=>HW.o.loads (m) hx P);have HLY:=ae (λP=>HW.o.loads (hh) hy P);have HCM:=ae (λW=>rK ds[m] ds[hh] W);have nx:(aO ds[m]).length=8:=rfl;have ny:(aO ds[hh]).length=8:=rfl;obtain⟨k8,hk8⟩:∃k8,k8=8:=⟨_,rfl⟩;have hz:∀W,(Go.sizeOf 238).run prog W=.ok k8 W:=λW=>by rw[hk8];kernel_rfl
   rw[<-hk8] at HLX HLY nx ny;generalize aO ds[m]=cx at HLX HCM nx;generalize aO ds[hh]=cy at HLY HCM ny;generalize bi ds[m].dg ds[hh].dg=rr at HCM;have m0:(m:Int)<(qs.length:Int):=by omega
   clear hk8 hlen hx hy;have lx:=HLX.o;have ly:=HLY.o;have hne:Nonempty (bX wr):=⟨⟨wr,Ov _ _⟩⟩;cases hrd:decide (rr<0);all_goals
    first|have hrr:=of_decide_eq_true hrd|have hrr:=of_decide_eq_false hrd
    go_upto_region 17 with fail;refine fr (by kernel_rfl) (by kernel_rfl) ?_;repeat (go_big_quiet_step (first|(go_at_call 217;exact Calls.below_of (HCM.o _))))
    refine wpQuiet_nil ?_;intro w8 hw';obtain⟨⟨w9,hb9⟩,rfl⟩:=hw';have HB9:=ae hb9;clear hb9 hne lx ly;go_wp2;go_roundw;case rel=>first|exact⟨i,hh,ds,by omega,by omega,by omega,rfl,rfl,HW.o.next HB9.o⟩|exact⟨hh+1,j,ds,by omega,by omega,by omega,by go_num,rfl,HW.o.next HB9.o⟩
    case measure=>simp[intOf];omega
  .go_wp2_with fail;go_loopw [17] (λvk wr2=>∃(k:Nat)(cs:PF),i<=k/\k<=m/\vk=PO k/\b8 B w0 wr2 g cap qs cs) (λvk _=>(intOf vk).toNat);case atStart=>exact⟨m,ds,by omega,Ou _,rfl,HW.o⟩
   case round=>
    clear HW;rename PJ=>wr0;obtain⟨k,es,hak,hki,rfl,hw⟩:=hrel;have HW:=ae hw;clear hw;have hlen:=HW.o.len;by_cases hlt2:i<k
    .obtain⟨kp,rfl⟩:∃kp,k=kp+1:=⟨k-1,by omega⟩;have hx:kp+1<es.length:=by omega
     have hy:kp<es.length:=by omega
     obtain⟨lx,ly,W1,W2,s1,s2,hp2⟩:=(HW.o.next (Ov wr0.heap.size wr0).drew).swap (kp+1) (kp) hx hy;have HP2:=ae hp2;have nx:(aO es[kp+1]).length=8:=rfl;have ny:(aO es[kp]).length=8:=rfl;obtain⟨k8,hk8⟩:∃k8,k8=8:=⟨_,rfl⟩;have hz:∀W,(Go.sizeOf 238).run prog W=.ok k8 W:=λW=>by rw[hk8];kernel_rfl
     rw[<-hk8] at lx ly s1 s2 nx ny;generalize aO es[kp+1]=cx at lx s2 nx;generalize aO es[kp]=cy at ly s1 ny;have k0:(kp:Int)<(qs.length:Int):=by omega
     have k1:(kp:Int)+1<(qs.length:Int):=by omega
     have kw:IntKind.i64.wrap ((kp:Int)+1-1)=(kp:Int):=by rw[IntKind.wrap_i64];omega
     clear hk8 hp2 hlen;go_upto_region 23 with fail;go_region;all_goals
      go_wp2;go_roundw;case rel=>exact⟨kp,_,by omega,by omega,by go_num,HP2.o⟩
      case measure=>simp[intOf]
    .go_wp2;first|go_end0|refine OC (OD rfl _ _ _) rfl ?_
     exact⟨rfl,es,HW.o⟩
theorem Im(B:Nat)(w0:PJ)(g cap:Nat)(qs:PF)(hn:qs.length<=2100000000000):∀(n:Nat)(W:PJ)(cs:PF)(a m b:Nat),b-a<=n->a<m->m<b->b<=qs.length->b8 B w0 W g cap qs cs->Calls prog 268 #[PM g qs.length cap,PO a,PO m,PO b,.func (.func 217) #[] #[]] W λe w'=>e=.returned (.tuple #[])/\∃cs',b8 B w0 w' g cap qs cs':=by
 intro n;induction n with
 |zero=>intro W cs a m b h1 h2 h3;omega
 |succ n ih=>
  intro W cs a m b hsz ham hmb hb h;have H0:=ae h;have IH:=ae ih;clear h ih;by_cases h1:m=a+1
  .subst h1;exact Ik B w0 W g cap qs cs a b H0.o hmb hb hn
  .by_cases h2:b=m+1
   .exact Il B w0 W g cap qs cs a m b H0.o (by omega) h2 hb hn
   .have hne1:((m:Int)-(a:Int)==1)=false:=by simp;omega
    have hne2:((b:Int)-(m:Int)==1)=false:=by simp;omega
    have hu:=lD (i:=a) (j:=b) (by omega);obtain⟨md,hmd⟩:∃md,md=(a+b)/2:=⟨_,rfl⟩;have hmd1:a<md/\md<b/\2*md<=a+b/\a+b<=2*md+1:=by omega
    have hmdI:((a:Int)+(b:Int))/2=(md:Int):=by omega
    have hmdJ:(a+b)/2=md:=hmd.symm;clear hmd;go_enter func268,ntmps268;obtain⟨s0,rt,hs1,hsI⟩:∃s0 rt:Nat,(a<=s0/\s0<=rt/\rt<=md/\rt<=m/\md+m<=s0+b)/\((md<m/\(md:Int)+(m:Int)-(b:Int)=(s0:Int)/\rt<=md/\md<=rt)\/(¬md<m/\a<=s0/\s0<=a/\rt<=m/\m<=rt)):=by
     by_cases hmm:md<m
     .exact⟨md+m-b,md,by omega,Pf (by omega)⟩
     .exact⟨a,m,by omega,Pg (by omega)⟩
    rcases hsI with ⟨hmm,hstI,e1,e2⟩|⟨hmm,e3,e4,e1,e2⟩;all_goals
     go_wp2_with fail;clear hne1 hne2;go_loopw [20,21] (λvs vr wr=>∃(st r:Nat)(cs:PF),s0<=st/\st<=r/\r<=rt/\vs=PO st/\vr=PO r/\b8 B w0 wr g cap qs cs) (λvs vr _=>(intOf vr).toNat-(intOf vs).toNat);case atStart=>exact⟨s0,rt,cs,by omega,by omega,by omega,by go_num,by go_num,H0.o⟩
     case round=>
      clear H0;obtain⟨st,r,ds,hst,hsr,hrr0,rfl,rfl,hw⟩:=hrel;have HW:=ae hw;clear hw;by_cases hlt:st<r
      .have hlen:=HW.o.len;have hu:=lD (i:=st) (j:=r) (by omega);obtain⟨hh,hhe⟩:∃hh,hh=(st+r)/2:=⟨_,rfl⟩;have hh1:st<=hh/\hh<r:=by omega
       have hhI:((st:Int)+(r:Int))/2=(hh:Int):=by omega
       have hhJ:(st+r)/2=hh:=hhe.symm;have hhl:(hh:Int)<(qs.length:Int):=by omega
       clear hhe;obtain⟨pc,hpc⟩:∃pc,pc=md+m-1-hh:=⟨_,rfl⟩;have hpc1:pc<b:=by omega
       have hpcI:(md:Int)+(m:Int)-1-(hh:Int)=(pc:Int):=by omega
       have hpcl:(pc:Int)<(qs.length:Int):=by omega
       have hx:pc<ds.length:=by omega
       have hy:hh<ds.length:=by omega
       have HLX:=ae (λP=>HW.o.loads (pc) hx P);have HLY:=ae (λP=>HW.o.loads (hh) hy P);have HCM:=ae (λW=>rK ds[pc] ds[hh] W);have nx:(aO ds[pc]).length=8:=rfl;have ny:(aO ds[hh]).length=8:=rfl;obtain⟨k8,hk8⟩:∃k8,k8=8:=⟨_,rfl⟩;have hz:∀W,(Go.sizeOf 238).run prog W=.ok k8 W:=λW=>by rw[hk8];kernel_rfl
       rw[<-hk8] at HLX HLY nx ny;generalize aO ds[pc]=cx at HLX HCM nx;generalize aO ds[hh]=cy at HLY HCM ny;generalize bi ds[pc].dg ds[hh].dg=rr at HCM;clear hpc;clear hk8 hlen hx hy;have lx:=HLX.o;have ly:=HLY.o;have hne:Nonempty (bX wr):=⟨⟨wr,Ov _ _⟩⟩;cases hrd:decide (rr<0);all_goals
        first|have hrr:=of_decide_eq_true hrd|have hrr:=of_decide_eq_false hrd
        go_upto_region 35 with fail;refine fr (by kernel_rfl) (by kernel_rfl) ?_;repeat (go_big_quiet_step (first|(go_at_call 217;exact Calls.below_of (HCM.o _))))
        refine wpQuiet_nil ?_;intro w8 hw';obtain⟨⟨w9,hb9⟩,rfl⟩:=hw';have HB9:=ae hb9;clear hb9 hne lx ly;go_wp2;go_roundw;case rel=>first|exact⟨st,hh,ds,by omega,by omega,by omega,rfl,rfl,HW.o.next HB9.o⟩|exact⟨hh+1,r,ds,by omega,by omega,by omega,by go_num,rfl,HW.o.next HB9.o⟩
        case measure=>simp[intOf];omega
      .obtain⟨en,hen⟩:∃en,en=md+m-st:=⟨_,rfl⟩;have henI:(md:Int)+(m:Int)-(st:Int)=(en:Int):=by omega
       have hen1:md<=en/\en<=b/\m<=en:=by omega
       have HROT:Po (st<m->m<en->Calls prog 281 #[PM g qs.length cap,PO st,PO m,PO en,.func (.func 217) #[] #[]] wr λe w'=>e=.returned (.tuple #[])/\∃cs',b8 B w0 w' g cap qs cs'):=λq1 q2=>Ij B w0 wr g cap qs ds st m en _ HW.o q1 q2 (by omega) hn;have HSL:Po (∀W cs,b8 B w0 W g cap qs cs->a<st->st<md->Calls prog 268 #[PM g qs.length cap,PO a,PO st,PO md,.func (.func 217) #[] #[]] W λe w'=>e=.returned (.tuple #[])/\∃cs',b8 B w0 w' g cap qs cs'):=λW cs hp q1 q2=>IH.o W cs a st md (by omega) q1 q2 (by omega) hp;have HSR:Po (∀W cs,b8 B w0 W g cap qs cs->md<en->en<b->Calls prog 268 #[PM g qs.length cap,PO md,PO en,PO b,.func (.func 217) #[] #[]] W λe w'=>e=.returned (.tuple #[])/\∃cs',b8 B w0 w' g cap qs cs'):=λW cs hp q1 q2=>IH.o W cs md en b (by omega) q1 q2 hb hp;clear hen IH;go_upto_region 39 with fail;by_cases z0:st<m/\m<en
       .obtain⟨q0,r0⟩:=z0;have dq0:decide ((st:Int)<(m:Int))=true:=by simp;omega
        have dr0:decide ((m:Int)<(en:Int))=true:=by simp;omega
        go_upto_region 41 with (go_at_call 281;refine(HROT.o q0 r0).mono ?_;rintro e w0x ⟨rfl,cs0x,hp0x⟩;have HP0:=ae hp0x;clear hp0x);by_cases z1:a<st/\st<md
        .obtain⟨q1,r1⟩:=z1;have dq1:decide ((a:Int)<(st:Int))=true:=by simp;omega
         have dr1:decide ((st:Int)<(md:Int))=true:=by simp;omega
         go_upto_region 43 with (go_at_call 268;refine(HSL.o _ _ HP0.o q1 r1).mono ?_;rintro e w1x ⟨rfl,cs1x,hp1x⟩;have HP1:=ae hp1x;clear hp1x);by_cases z2:md<en/\en<b
         .obtain⟨q2,r2⟩:=z2;have dq2:decide ((md:Int)<(en:Int))=true:=by simp;omega
          have dr2:decide ((en:Int)<(b:Int))=true:=by simp;omega
          go_wp2_with (go_at_call 268;refine(HSR.o _ _ HP1.o q2 r2).mono ?_;rintro e w2x ⟨rfl,cs2x,hp2x⟩;have HP2:=ae hp2x;clear hp2x);first|go_end0|refine OC (OD rfl _ _ _) rfl ?_
          exact⟨rfl,_,HP2.o⟩
         .by_cases q2:md<en
          case' pos=>
           have r2:¬en<b:=by omega
           have dq2:decide ((md:Int)<(en:Int))=true:=by simp;omega
           have dr2:decide ((en:Int)<(b:Int))=false:=by simp;omega
           have fr2:decide (en<b)=false:=Ox r2
          case' neg=>
           have dq2:decide ((md:Int)<(en:Int))=false:=by simp;omega
           have fq2:decide (md<en)=false:=Ox q2
          all_goals
           clear z2;go_wp2;first|go_end0|refine OC (OD rfl _ _ _) rfl ?_
           exact⟨rfl,_,HP1.o⟩
        .by_cases q1:a<st
         case' pos=>
          have r1:¬st<md:=by omega
          have dq1:decide ((a:Int)<(st:Int))=true:=by simp;omega
          have dr1:decide ((st:Int)<(md:Int))=false:=by simp;omega
          have fr1:decide (st<md)=false:=Ox r1
         case' neg=>
          have dq1:decide ((a:Int)<(st:Int))=false:=by simp;omega
          have fq1:decide (a<st)=false:=Ox q1
         all_goals
          clear z1;go_upto_region 43 with fail;by_cases z2:md<en/\en<b
          .obtain⟨q2,r2⟩:=z2;have dq2:decide ((md:Int)<(en:Int))=true:=by simp;omega
           have dr2:decide ((en:Int)<(b:Int))=true:=by simp;omega
           go_wp2_with (go_at_call 268;refine(HSR.o _ _ HP0.o q2 r2).mono ?_;rintro e w2x ⟨rfl,cs2x,hp2x⟩;have HP2:=ae hp2x;clear hp2x);first|go_end0|refine OC (OD rfl _ _ _) rfl ?_
           exact⟨rfl,_,HP2.o⟩
          .by_cases q2:md<en
           case' pos=>
            have r2:¬en<b:=by omega
            have dq2:decide ((md:Int)<(en:Int))=true:=by simp;omega
            have dr2:decide ((en:Int)<(b:Int))=false:=by simp;omega
            have fr2:decide (en<b)=false:=Ox r2
           case' neg=>
            have dq2:decide ((md:Int)<(en:Int))=false:=by simp;omega
            have fq2:decide (md<en)=false:=Ox q2
           all_goals
            clear z2;go_wp2;first|go_end0|refine OC (OD rfl _ _ _) rfl ?_
            exact⟨rfl,_,HP0.o⟩
       .by_cases q0:st<m
        case' pos=>
         have r0:¬m<en:=by omega
         have dq0:decide ((st:Int)<(m:Int))=true:=by simp;omega
         have dr0:decide ((m:Int)<(en:Int))=false:=by simp;omega
         have fr0:decide (m<en)=false:=Ox r0
        case' neg=>
         have dq0:decide ((st:Int)<(m:Int))=false:=by simp;omega
         have fq0:decide (st<m)=false:=Ox q0
        all_goals
         clear z0;go_upto_region 41 with fail;by_cases z1:a<st/\st<md
         .obtain⟨q1,r1⟩:=z1;have dq1:decide ((a:Int)<(st:Int))=true:=by simp;omega
          have dr1:decide ((st:Int)<(md:Int))=true:=by simp;omega
          go_upto_region 43 with (go_at_call 268;refine(HSL.o _ _ HW.o q1 r1).mono ?_;rintro e w1x ⟨rfl,cs1x,hp1x⟩;have HP1:=ae hp1x;clear hp1x);by_cases z2:md<en/\en<b
          .obtain⟨q2,r2⟩:=z2;have dq2:decide ((md:Int)<(en:Int))=true:=by simp;omega
           have dr2:decide ((en:Int)<(b:Int))=true:=by simp;omega
           go_wp2_with (go_at_call 268;refine(HSR.o _ _ HP1.o q2 r2).mono ?_;rintro e w2x ⟨rfl,cs2x,hp2x⟩;have HP2:=ae hp2x;clear hp2x);first|go_end0|refine OC (OD rfl _ _ _) rfl ?_
           exact⟨rfl,_,HP2.o⟩
          .by_cases q2:md<en
           case' pos=>
            have r2:¬en<b:=by omega
            have dq2:decide ((md:Int)<(en:Int))=true:=by simp;omega
            have dr2:decide ((en:Int)<(b:Int))=false:=by simp;omega
            have fr2:decide (en<b)=false:=Ox r2
           case' neg=>
            have dq2:decide ((md:Int)<(en:Int))=false:=by simp;omega
            have fq2:decide (md<en)=false:=Ox q2
           all_goals
            clear z2;go_wp2;first|go_end0|refine OC (OD rfl _ _ _) rfl ?_
            exact⟨rfl,_,HP1.o⟩
         .by_cases q1:a<st
          case' pos=>
           have r1:¬st<md:=by omega
           have dq1:decide ((a:Int)<(st:Int))=true:=by simp;omega
           have dr1:decide ((st:Int)<(md:Int))=false:=by simp;omega
           have fr1:decide (st<md)=false:=Ox r1
          case' neg=>
           have dq1:decide ((a:Int)<(st:Int))=false:=by simp;omega
           have fq1:decide (a<st)=false:=Ox q1
          all_goals
           clear z1;go_upto_region 43 with fail;by_cases z2:md<en/\en<b
           .obtain⟨q2,r2⟩:=z2;have dq2:decide ((md:Int)<(en:Int))=true:=by simp;omega
            have dr2:decide ((en:Int)<(b:Int))=true:=by simp;omega
            go_wp2_with (go_at_call 268;refine(HSR.o _ _ HW.o q2 r2).mono ?_;rintro e w2x ⟨rfl,cs2x,hp2x⟩;have HP2:=ae hp2x;clear hp2x);first|go_end0|refine OC (OD rfl _ _ _) rfl ?_
            exact⟨rfl,_,HP2.o⟩
           .by_cases q2:md<en
            case' pos=>
             have r2:¬en<b:=by omega
             have dq2:decide ((md:Int)<(en:Int))=true:=by simp;omega
             have dr2:decide ((en:Int)<(b:Int))=false:=by simp;omega
             have fr2:decide (en<b)=false:=Ox r2
            case' neg=>
             have dq2:decide ((md:Int)<(en:Int))=false:=by simp;omega
             have fq2:decide (md<en)=false:=Ox q2
            all_goals
             clear z2;go_wp2;first|go_end0|refine OC (OD rfl _ _ _) rfl ?_
             exact⟨rfl,_,HW.o⟩
end Go.Proofs.YtjkalahhpobefaaGreat
