/- What a list is that. -/
import Derived.Test.YtjkalahhpobefaaGreatMM
import Derived.Test.YtjkalahhpobefaaGreatUB
import Derived.Test.YtjkalahhpobefaaGreatHU
set_option maxHeartbeats 8000000
set_option maxRecDepth 100000
namespace Go.Proofs.YtjkalahhpobefaaGreat
set_option linter.all false
open Go.Proofs.Tryz Go.RowKit
theorem Dq:∀xs:PI,(∀x∈xs,0<=x)->∀x∈xs,x<=au xs
 |[],_,x,hx=>by simp at hx
 |y::xs,h,x,hx=>by
  have h0:=h y (by simp);have hn:∀zs:PI,(∀z∈zs,0<=z)->0<=au zs:=λzs=>by
   induction zs with
   |nil=>intro _;exact Int.le_refl _
   |cons z zs ih=>intro hz;have a:=ih λu hu=>hz u (by simp[hu]);have b:=hz z (by simp);show 0<=z+au zs;omega
  show x<=y+au xs;rcases OY.1 hx with rfl|hx
  .have:=hn xs λu hu=>h u (by simp[hu]);omega
  .have:=Dq xs (λu hu=>h u (by simp[hu])) x hx;omega
structure Dr(p n o v rank:Int)(N R:Nat)(vss:PA):Prop where
 hn:n=N
 hr:rank=R
 ho:o=1\/o=2
 hv:v=1\/v=2
 rt:∀g∈vss,∀f∈g,fO p o N f
 st:gD p o N R vss
variable{vss:PA}{p n o v rank:Int}
theorem lP(h:cO p n o v rank vss=0):Dr p n o v rank n.toNat rank.toNat vss:=by
 obtain⟨hv,hr3,hv4,hbig⟩:=xu h;obtain⟨hR,hrk,_,hall⟩:=v8 hv;obtain⟨hpr,hn1,hn3,ho,hvv⟩:=lX hR;have hlen:∀g∈vss,g.length=rank.toNat:=λg hg=>by have:=(hall g hg).1;omega
 have hrt:∀g∈vss,∀f∈g,fO p o n.toNat f:=λg hg f hf=>by have h:=(hall g hg).2 f hf;rw[show n=(n.toNat:Int) by omega] at h;exact rU h
 have h3:∀g∈vss,∀i,∀t∈g.getD i [],au t.2<=3:=λg hg i t ht=>by
  have hbg:lF g=false:=by have:=List.any_eq_false.1 hbig g hg;simpa using this
  have hi:i<g.length:=by apply OU;intro hle;rw[OH,OJ hle] at ht;simp at ht
  have hm:g.getD i []∈g:=by rw[OH,OI hi];exact OE hi
  have hb1:rV (g.getD i [])=false:=by have:=List.any_eq_false.1 hbg _ hm;simpa using this
  have hR1:=hrt g hg _ hm;unfold rV at hb1;rw[BI hR1] at hb1;revert hb1 hR1 ht;generalize g.getD i []=f;intro ht hb1 hR1;cases f with
  |nil=>simp at ht
  |cons u us=>
   have h4:=om hR1.canon t ht;have h5:¬3<au u.2:=by simp only[Bool.or_eq_false_iff,decide_eq_false_iff_not] at hb1;exact hb1.2
   omega
 have hvok:∀g∈vss,kf p o n.toNat (λ_=>3) g:=λg hg=>by have h1:=ME (hrt g hg);exact⟨h1.canon,h1.nn,λi t ht=>h3 g hg i t ht⟩
 have hp:=dY hpr;refine⟨by omega,by omega,ho,hvv,hrt,⟨⟨hpr,by omega,by omega,by omega,hv4,λi hi=>OW hi,λi hi=>?_⟩,by omega,hlen,hvok,λg hg f hf=>⟨(hrt g hg f hf).len,λt ht=>⟨(hrt g hg f hf).canon.len t ht,λe he=>?_,?_,?_⟩⟩⟩⟩
 .unfold bn;by_cases c:i<rank.toNat
  .rw[OW c];omega
  .rw[OV c];have hj:i-rank.toNat<vss.length:=by omega
   have e:(vss.map fF).getD (i-rank.toNat) 0=fF (vss.getD (i-rank.toNat) []):=by rw[OH,OH,List.getElem?_map,OI hj];rfl
   have hmem:vss.getD (i-rank.toNat) []∈vss:=by rw[OH,OI hj];exact OE hj
   rw[e];refine⟨(sQ _ 0).1,xe _ 0 (by omega) λf hf t ht=>?_⟩;obtain⟨k,hk,e2⟩:=Pm.1 hf;exact h3 _ hmem k t (by rw[OH,OI hk,e2];exact ht)
 .have hb:=(hrt g hg f hf).bd t ht;obtain⟨k,hk,e2⟩:=Pm.1 hf;have h5:=h3 g hg k t (by rw[OH,OI hk,e2];exact ht);have h6:=Dq t.2 (λx hx=>(hb x hx).1) e he;have:=(hb e he).1;omega
 .have:=(hrt g hg f hf).canon.coef t ht;omega
 .have:=(hrt g hg f hf).canon.coef t ht;omega
variable{g:Lt}
theorem MT(h:cR p n o v rank vss=0)(hg:g∈vss):cR p n o v rank [g]=0:=by
 unfold cR at h⊢;by_cases hr:bE p n o v=0
 .rw[OV (by simpa using hr)] at h⊢;unfold mH at h⊢;cases hb:eW rank 1 40
  .rw[OW hb] at h;exact absurd h (by decide)
  .rw[OV (by simp[hb])] at h;rw[OV (by simp[hb])];by_cases hl:60<vss.length
   .rw[OW hl] at h;exact absurd h (by decide)
   .rw[OV hl] at h;rw[OV (by simp)];have h1:=sC h g hg;simp only[fX];rw[OW h1]
 .rw[OW (by simpa using hr)] at h;exact absurd h hr
theorem MU(h:cO p n o v rank vss=0)(hg:g∈vss):cO p n o v rank [g]=0:=by
 obtain⟨h1,h2,h3,h4⟩:=xu h;rw[wg (MT h1 hg) (by simp;omega)];unfold pK;have:lF g=false:=by have:=List.any_eq_false.1 h4 g hg;simpa using this
 rw[List.any_cons,this];rfl
theorem lQ{a b:PA}:dJ p n o v rank a b=0↔cO p n o v rank a=0/\cO p n o v rank b=0:=by
 unfold dJ;by_cases h:cO p n o v rank a=0
 .rw[OV (by simpa using h)];exact⟨λk=>⟨h,k⟩,λk=>k.2⟩
 .rw[OW h];exact⟨λk=>(h k).elim,λk=>(h k.1).elim⟩
theorem MV(h:Dr p n o v rank n.toNat rank.toNat [g]):tn p o n.toNat rank.toNat g:=
 ⟨h.st.len g (by simp),h.st.vok g (by simp),h.st.tms g (by simp)⟩
def oG(p n rank:Int)(lss:PA)(T:Lt->Bool):Prop:=∀g,T g=true↔lO p n.toNat rank.toNat lss g
theorem xE(p n rank:Int)(lss:PA):∃T,oG p n rank lss T:=⟨λg=>@decide _ (Classical.propDecidable (lO p n.toNat rank.toNat lss g)),λg=>by simp⟩
theorem DI(p n o v rank:Int)(lv:PK)(lss:PA)(T:Lt->Bool)(hT:oG p n rank lss T)(w:PJ)(hz:cO p n o v rank lss=0)(hl:fQ w lv lss):Calls prog 20 #[aI p n o v,PO rank,lv] w λe w'=>∃md,e=.returned (PL md)/\Io w w'/\∀W2 gv g,cO p n o v rank [g]=0->Io w' W2->Vl W2 gv g->Calls prog 21 #[PL md,gv] W2 λe w2=>e=.returned (.bool (T g))/\Io W2 w2:=by
 have hk:=lP hz;have h:=Dt p o v n.toNat rank.toNat lv lss w hk.st hl;rw[<-hk.hn,<-hk.hr] at h;refine h.mono ?_;rintro e w' ⟨md,mb,ob,sv,ms,rows,rfl,hm,hb⟩;refine⟨md,rfl,hb,λW2 gv g hg hb2 hgv=>(MS p o v n.toNat rank.toNat lv gv lss g W2 md mb ob sv ms rows hk.st (hm.below hb2) hgv (MV (lP hg))).mono ?_⟩;rintro e w2 ⟨b,rfl,hb3,hb4⟩;have e:b=T g:=by
  have h1:=hT g;cases b
  .cases hh:T g
   .rfl
   .exact absurd (hb3.2 (h1.1 hh)) (by simp)
  .exact(h1.2 (hb3.1 rfl)).symm
 rw[e];exact⟨rfl,hb4⟩
theorem DJ(p n o v rank:Int)(gv lv:PK)(g:Lt)(lss:PA)(T:Lt->Bool)(hT:oG p n rank lss T)(w:PJ)(hg:Vl w gv g)(hl:fQ w lv lss):Calls prog 8 #[aI p n o v,PO rank,gv,lv] w λe w'=>e=.returned (.tuple #[.bool (decide (dJ p n o v rank lss [g]=0)&&T g),PO (dJ p n o v rank lss [g])])/\Io w w':=by refine Jl p n o v rank gv lv g lss _ w hg hl.wl (λhz W hb=>?_) (λhne=>by rw[Ox hne];rfl);obtain⟨h1,h2⟩:=lQ.1 hz;refine(DI p n o v rank lv lss T hT W h1 (hl.below hb)).mono ?_;rintro e w' ⟨md,rfl,q1,q2⟩;refine⟨md,rfl,q1,?_⟩;rw[Oy hz,Bool.true_and];exact q2 w' gv g h2 (Ov _ _) ((hg.below hb).below q1)
theorem DK(p n o v rank:Int)(lv xv:PK)(lss vss:PA)(T:Lt->Bool)(hT:oG p n rank lss T)(w:PJ)(hl:fQ w lv lss)(hv:Wl w xv vss)(h1:cO p n o v rank lss=0)(h2:cO p n o v rank vss=0):Calls prog 13 #[aI p n o v,PO rank,lv,xv] w λe w'=>e=.returned (.bool (vss.all T))/\Io w w':=by refine Jk p n o v rank T lv xv lss vss w hl.wl hv (by have:=(xu h2).2.2.1;omega) λW hb=>?_;refine(DI p n o v rank lv lss T hT W h1 (hl.below hb)).mono ?_;rintro e w' ⟨md,rfl,q1,q2⟩;exact⟨md,rfl,q1,λW2 gv g hg hb2 hgv=>q2 W2 gv g (MU h2 hg) hb2 hgv⟩
theorem MW(p n o v rank:Int)(av bv:PK)(ass bss:PA)(Ta Tb:Lt->Bool)(hTa:oG p n rank ass Ta)(hTb:oG p n rank bss Tb)(w:PJ)(ha:fQ w av ass)(hb:fQ w bv bss):Calls prog 5 #[aI p n o v,PO rank,av,bv] w λe w'=>∃S,e=.returned (.tuple #[.bool S,PO (dJ p n o v rank ass bss)])/\(dJ p n o v rank ass bss=0->S=(bss.all Ta&&ass.all Tb))/\(dJ p n o v rank ass bss≠0->S=false)/\Io w w':=
 Jm p n o v rank av bv ass bss _ _ w ha.wl hb.wl (λhz W h=>DK p n o v rank av bv ass bss Ta hTa W (ha.below h) (hb.below h).wl (lQ.1 hz).1 (lQ.1 hz).2) (λhz W h=>DK p n o v rank bv av bss ass Tb hTb W (hb.below h) (ha.below h).wl (lQ.1 hz).2 (lQ.1 hz).1)
end Go.Proofs.YtjkalahhpobefaaGreat
namespace Go.Proofs.YtjkalahhpobefaaGreat
set_option linter.all false
open Go.Proofs.Tryz Go.RowKit Go.Sort
theorem M1:cO 7 2 1 1 1 l3=0:=by kernel_rfl
theorem oH:gD 7 1 2 1 l3:=(lP M1).st
theorem M2:cr 7 1 1 [[(3,[0,1])]] l3 1=g3:=by decide+kernel
theorem M3{rows:PC}(ht:jG 2 1 l3 rows):f9 7 2 1 rows g3:=by
 have h:=xC oH ht (cs:=[[(3,[0,1])]]) (λm b hb=>by
  have hb2:b=(3,[0,1]):=by
   rcases m with _|m
   .simpa using hb
   .simp at hb
  subst hb2;exact⟨rfl,λx hx=>by simp at hx;rcases hx with rfl|rfl<;>omega⟩)
 have h2:f9 7 2 1 rows (cr 7 1 1 [[(3,[0,1])]] l3 1):=h;rw[M2] at h2;exact h2
theorem M4{lv:PK}{w:PJ}{md mb ob:Nat}{sv:PK}{ms:PD}{rs:PC}(hm:iT 7 1 1 2 1 lv l3 w md mb ob sv ms rs){fs acc:PB}(hp:fs.Perm (dG 1 1 2 g3 1))(h:mO 7 rs 2 1 1 ms (eD 1) fs acc):acc=[Y4]:=by
 have hx:ch 7 2 1 1:=oH.hx.acx;have hoff:∀{l:PB},(∀t∈l,eD 1 t=true)->∀t∈l,¬t.pl<1:=λh t ht hn=>by have:=h t ht;simp[eD,hn] at this
 rcases h with ⟨rows,rows2,h1,h2,h3⟩|⟨t,rows,acc0,h1,h2,h3,h4,h5⟩
 .exact MN hx hm.tr hp ((ph hx (by omega) (by omega) h1 h3).2 rfl) h1.av (hoff h2)
 .exfalso;have ht:t.pl<1:=by apply O3;intro hn;simp[eD] at h4;omega
  exact Dp hx hp (by omega) (by omega) h1 (hoff h2) ht hm.mss hm.gone hm.top h3 (M3 hm.tr)
theorem M5:tn 7 1 2 1 g3:=by
 have h:cO 7 2 1 1 1 [g3]=0:=by kernel_rfl
 have hk:=lP h;exact⟨hk.st.len g3 (by simp),hk.st.vok g3 (by simp),hk.st.tms g3 (by simp)⟩
theorem M7(md mb g uc:Nat)(ua:Option Addr)(w:PJ)(c4:w.cell? (PN md 4)=some (PO 1))(c6:w.cell? (PN md 6)=some (PL mb))(m2:w.cell? (PN mb 2)=some (PM g 2 2))(g1:w.cell? (PN g 1)=some (.slice ua 0 uc)):Calls prog 74 #[PL md] w λe w'=>e=.returned (.slice none 0 0)/\Io w w':=by
 have hk4:∀P:bX w,P.w'.cell? (PN md 4)=some (PO 1):=λP=>af c4 P.h;have hk6:∀P:bX w,P.w'.cell? (PN md 6)=some (PL mb):=λP=>af c6 P.h;have hk2:∀P:bX w,P.w'.cell? (PN mb 2)=some (PM g 2 2):=λP=>af m2 P.h;have hne:Nonempty (bX w):=⟨⟨w,Ov _ _⟩⟩;have HG:=ae g1;clear c4 c6 m2 g1;go_enter func74,ntmps74;go_upto_region 2 with fail;refine fr (by kernel_rfl) (by kernel_rfl) ?_;repeat (go_big_quiet_step (fail))
 refine wpQuiet_nil ?_;intro w8 hw';obtain⟨⟨w9,hb9⟩,rfl⟩:=hw';have HB9:=ae hb9;have g1:=af HG.o hb9;clear hb9 hne hk4 hk6 hk2;go_wp2_with fail;refine wp_loop_rounds 2 ?_;rw[rounds_succ];go_wp2_with fail;refine wp_loop_rounds 1 ?_;rw[rounds_succ];go_wp2_with fail;rw[rounds_succ];go_wp2_with fail;go_ret;exact⟨rfl,HB9.o⟩
def Y3:Ft:=⟨-288230307432235009,0,1,0,0,1,3⟩
def M6:Ft:=⟨0,0,0,0,0,0,6⟩
theorem M8:[Y4].map (aJ 7 (M6.a*K0+M6.b*K1+M6.d*0) M6)=[Y3]:=by rfl
theorem M9:cZ ((1:Nat):Int) [Y3]=[W3]:=by rfl
theorem Na(lv gv:PK)(w:PJ)(md mb ob bx:Nat)(sv:PK)(ms:PD)(rs:PC)(P:PJ->Prop)(hm:iT 7 1 1 2 1 lv l3 w md mb ob sv ms rs)(hl:LV w lv [(1,[1,0])])(hg:Vl w gv g3)(HTL:Po (∀W ev,Io w W->Sl W ev [0,1]->Calls prog 39 #[PO 0,.agg #[PO 3,ev],PL bx] W λe w'=>e=.returned (.tuple #[])/\P w')):Calls prog 38 #[PL md,gv,.func (.func 39) #[] #[PL bx]] w λe w'=>e=.returned (.bool true)/\P w':=by
 have hmd:md<w.heap.size:=OG w _ hm.c0;obtain⟨w1,hw1⟩:∃w1,w1=w.alloc (.cells #[PL md] 50):=⟨_,rfl⟩;have HB1:Po (Io w w1):=by rw[hw1];exact ai
 have hs1:w1.heap.size=w.heap.size+1:=by rw[hw1];simp
 have c1:w1.cell? (PN w.heap.size 0)=some (PL md):=by rw[hw1];simp[go_sem]
 obtain⟨w2,hw2⟩:∃w2,w2=w1.alloc (.cells #[.bool true] 4):=⟨_,rfl⟩;have HB2:Po (Io w1 w2):=by rw[hw2];exact ai
 have hs2:w2.heap.size=w1.heap.size+1:=by rw[hw2];simp
 obtain⟨w3,hw3⟩:∃w3,w3=w2.alloc (.cells #[.slice none 0 0] 79):=⟨_,rfl⟩;have HB3:Po (Io w2 w3):=by rw[hw3];exact ai
 have hs3:w3.heap.size=w2.heap.size+1:=by rw[hw3];simp
 have HB13:Po (Io w1 w3):=In HB2.o HB3.o;have HE3:Po (pG w1.heap.size w1 w2.heap.size w1.heap.size 1 w3 []):=by
  refine⟨HB13.o,⟨.slice none 0 0,⟨?_,World.ownsRow_nil _ _ _ _,gS.nil _ _⟩⟩,?_⟩
  .rw[hw3];exact⟨by simp,.inr ⟨w2.heap.size,1,_,rfl,HB2.o.size,heap_alloc_new w2 _,Ou _,by decide,by simp,by simp⟩⟩
  .refine aF ?_ HB3.o;rw[hw2];exact⟨by simp,.inr ⟨w1.heap.size,1,_,rfl,Ou _,heap_alloc_new w1 _,Ou _,by decide,by simp,by simp⟩⟩
 have hm1:=hm.below HB1.o;have hgw3:=hg.below (In HB1.o HB13.o);have HDV:=ae (DH 71 #[PL w2.heap.size,PL w.heap.size,PL w1.heap.size] (vx func71 (by kernel_rfl)) 7 1 1 2 1 lv l3 w1.heap.size w1 rfl md mb ob sv ms rs hm1 oH.hx.acx (eD 1) (λk=>k=w2.heap.size\/k=w1.heap.size) (pG w1.heap.size w1 w2.heap.size w1.heap.size 1) (λsb=>IW _ w1 rfl sb ob _ _ 1) (λsb W acc t tb h1 h2 h3 h4 h5 h6 h7 h8=>IX _ w1 rfl sb ob _ _ w.heap.size md 1 (by omega) (by omega) c1 hm1.c4 W acc t tb h1 h2 h3 h4 h5 h6 h7 h8) gv g3 w3 HB13.o (λk e=>by rcases e with rfl|rfl<;>omega) HE3.o hgw3 M5);have HL3:Po (∀{fs acc:PB},fs.Perm (dG 1 1 2 g3 1)->mO 7 rs 2 1 1 ms (eD 1) fs acc->acc=[Y4]):=λh1 h2=>M4 hm h1 h2;have HMD:=ae hm1;have HLV:=ae (hl.below HB1.o);have HGV:=ae (hg.below HB1.o);have HW1:=ae (Ow c1 (Ow hmd (Ow hs1 (Ow hs2 hs3))));obtain⟨lvb,vb,pv,rfl,_⟩:=id hl;obtain⟨ga,gc,rfl,_⟩:=id hg;clear hm hl hg hm1 hgw3 c1 hmd hs1 hs2 hs3;go_enter func38,ntmps38;go_upto_region 1 with fail;rw[<-hw1];clear hw1;go_upto_region 2 with fail;rw[<-hw2];clear hw2;go_upto_region 3 with fail;rw[<-hw3];clear hw3;have c1:=af HW1.o.1 HB13.o;go_upto_region 4 with (go_at_call 45;refine HDV.o.mono ?_;rintro e w9 ⟨rfl,q1,fs,acc,q2,q3,q4⟩;have hacc:=HL3.o q2 q4;subst hacc;have HB9:=ae q1;have HE9:=ae q3;clear q1 q2 q3 q4);clear c1 HDV HL3 HE3;obtain⟨_,⟨v9,HEL⟩,HBI⟩:=HE9.o;have c0:w9.cell? (PN w1.heap.size 0)=some (.bool true):=Oq HBI 0 (by omega);have c1:w9.cell? (PN w.heap.size 0)=some (PL md):=af HW1.o.1 HB9.o;have HM9:=ae (HMD.o.below HB9.o);have c6:=HM9.o.c6;have m0:=HM9.o.m0;have HNE:Po (∀W,Io w9 W->Calls prog 72 #[PL ob,PQ 1] W λe w'=>e=.returned (PQ 6)/\w'=W):=λW hb=>by have h:=vN ob 7 _ _ _ sv 1 W (HM9.o.ord.below hb) (by omega) (by omega);exact h
 obtain⟨va,vc,hv9⟩:=cl HEL.row;subst hv9;have clb:w9.cell? (PN w2.heap.size 0)=some (.slice va 1 vc):=Oq HEL.box 0 (by omega);have HFL:Po (Fv w9 (.slice va 1 vc) [Y4]):=fU HEL.row;obtain⟨mp,hmp⟩:∃mp,mp=w.heap.size:=⟨_,rfl⟩;obtain⟨lb,hlb⟩:∃lb,lb=w2.heap.size:=⟨_,rfl⟩;obtain⟨w10,hw10⟩:∃w10,w10=w9.alloc (.cells #[PO 0,PP 0,PP 0,PP 0,PP 0,PQ 0,PQ 6] 88):=⟨_,rfl⟩;have HB10:Po (Io w9 w10):=by rw[hw10];exact ai
 have HN10:Po (cu w10 w9.heap.size 0 M6):=by rw[hw10];exact(show Bx w9.heap.size _ w9.heap.size M6 from dr (Ou _) M6).at
 obtain⟨w11,hw11⟩:∃w11,w11=w10.alloc (.cells #[.slice ga 1 gc,.slice none 0 0] 110):=⟨_,rfl⟩;have HB11:Po (Io w10 w11):=by rw[hw11];exact ai
 have HO11:Po (w11.ownsRow w10.heap.size 110 2 (PM w10.heap.size 1 1) 1 [.slice ga 1 gc,.slice none 0 0]):=by rw[hw11];exact⟨by simp,.inr ⟨w10.heap.size,1,_,rfl,Ou _,heap_alloc_new w10 _,Ou _,by decide,by simp,by simp⟩⟩
 go_upto_region 7 with (go_at_call 72;refine(HNE.o _ (Ov _ _)).mono ?_;rintro e w9 ⟨rfl,rfl⟩);rw[<-hw10];clear hw10;go_upto_region 8 with fail;rw[<-hw11];clear hw11;have HM10:=ae (HM9.o.below HB10.o);have KEEP10:Po (∀W,Io w10 W->(W.cell? (PN w.heap.size 0)=some (PL md)/\W.cell? (PN md 0)=some (PO 7)/\W.cell? (PN md 1)=some (PO 2)/\W.cell? (PN md 2)=some (PO 1)/\W.cell? (PN md 3)=some (PO 1)/\W.cell? (PN md 4)=some (PO 1)/\W.cell? (PN md 5)=some (PM lvb 1 1)/\W.cell? (PN md 6)=some (PL mb)/\W.cell? (PN mb 0)=some (PL ob)/\W.cell? (PN w9.heap.size 0)=some (PO 0)/\W.cell? (PN w9.heap.size 1)=some (PP 0)/\W.cell? (PN w9.heap.size 2)=some (PP 0)/\W.cell? (PN w9.heap.size 3)=some (PP 0)/\W.cell? (PN w9.heap.size 4)=some (PP 0)/\W.cell? (PN w9.heap.size 5)=some (PQ 0)/\W.cell? (PN w9.heap.size 6)=some (PQ 6)/\W.cell? (PN w2.heap.size 0)=some (.slice va 1 vc))):=λW hb=>by obtain⟨n0,n1,n2,n3,n4,n5,n6⟩:=HN10.o;simp only[ON,M6] at n0 n1 n2 n3 n4 n5 n6;have hm:=HM10.o;exact⟨af (af c1 HB10.o) hb,af hm.c0 hb,af hm.c1 hb,af hm.c2 hb,af hm.c3 hb,af hm.c4 hb,af hm.c5 hb,af hm.c6 hb,af hm.m0 hb,af n0 hb,af n1 hb,af n2 hb,af n3 hb,af n4 hb,af n5 hb,af n6 hb,af (af clb HB10.o) hb⟩
 have KEEP:Po (∀W,Io w11 W->(W.cell? (PN w.heap.size 0)=some (PL md)/\W.cell? (PN md 0)=some (PO 7)/\W.cell? (PN md 1)=some (PO 2)/\W.cell? (PN md 2)=some (PO 1)/\W.cell? (PN md 3)=some (PO 1)/\W.cell? (PN md 4)=some (PO 1)/\W.cell? (PN md 5)=some (PM lvb 1 1)/\W.cell? (PN md 6)=some (PL mb)/\W.cell? (PN mb 0)=some (PL ob)/\W.cell? (PN w9.heap.size 0)=some (PO 0)/\W.cell? (PN w9.heap.size 1)=some (PP 0)/\W.cell? (PN w9.heap.size 2)=some (PP 0)/\W.cell? (PN w9.heap.size 3)=some (PP 0)/\W.cell? (PN w9.heap.size 4)=some (PP 0)/\W.cell? (PN w9.heap.size 5)=some (PQ 0)/\W.cell? (PN w9.heap.size 6)=some (PQ 6)/\W.cell? (PN w2.heap.size 0)=some (.slice va 1 vc))):=λW hb=>KEEP10.o W (In HB11.o hb);have H10:Po (∀W,Io w11 W->Io w10 W):=λW hb=>In HB11.o hb;have H1:Po (∀W,Io w11 W->Io w9 W):=λW hb=>In HB10.o (H10.o W hb);have HAT:Po (a8 ms 1=[]):=by show _=_;unfold a8;rw[List.filter_eq_nil_iff];intro x hx;have:=MO oH.hx.acx HM10.o.tr HM10.o.mss x hx;simp;omega
 have HNO:Po (∀W,Io w11 W->Calls prog 74 #[PL md] W λe w'=>e=.returned (.slice none 0 0)/\Io w11 w'):=λW hb=>by have hm:=HM9.o.below (H1.o W hb);obtain⟨g,h1,h2⟩:=hm.rw2;obtain⟨u,h3,ua,uc,h4,_⟩:=h2 1 (by show 1<2;omega);rw[HAT.o] at h4;subst h4;refine(M7 md mb g uc ua W hm.c4 hm.c6 h1 h3).mono ?_;rintro e w' ⟨rfl,q⟩;exact⟨rfl,In hb q⟩
 have HLW:Po (∀W,Io w11 W->LV W (PM lvb 1 1) [(1,[1,0])]):=λW hb=>HLV.o.below (In HB9.o (H1.o W hb));have HNS:Po (∀W,Io w11 W->Calls prog 73 #[.agg #[PO 7,PO 2,PO 1,PO 1],PO 1,PM lvb 1 1,.slice none 0 0] W λe w'=>∃sb ob sv,e=.returned (PL sb)/\iL w' sb ob sv (PM lvb 1 1)/\Io w11 w'):=λW hb=>by refine(Hi _ W (HLW.o W hb)).mono ?_;rintro e w' ⟨sb,ob,sv,rfl,q1,q2⟩;exact⟨sb,ob,sv,rfl,q1,In hb q2⟩
 have HSC:Po (∀W,Io w11 W->Calls prog 77 #[PL ob,.agg #[PO 0,PP 0,PP 0,PP 0,PP 0,PQ 0,PQ 6],.slice va 1 vc] W λe w'=>∃u,e=.returned u/\Fv w' u [Y3]/\Io W w'):=λW hb=>by have hob:=(HM9.o.below (H1.o W hb)).ord;rw[nT.1,nT.2.1,nT.2.2] at hob;have h:=nS ob 7 K0 K1 0 sv (.slice va 1 vc) M6 [Y4] W hob (by omega) AO AP AQ ⟨by simp[M6],by simp[M6],by simp[M6],by simp[M6],by simp[M6],by simp[M6],by simp[M6]⟩ (λt ht=>by rw[OL] at ht;subst ht;exact⟨by simp[Y4],by simp[Y4],by simp[Y4],by simp[Y4],by simp[Y4],by simp[Y4],by simp[Y4]⟩) (by simp) (HFL.o.below (H1.o W hb));rw[M8] at h;exact h
 have HWY:Po (∀W u,Fv W u [Y3]->Calls prog 76 #[u,PO 1] W λe w'=>∃u',e=.returned u'/\Fv w' u' [W3]/\Io W w'):=λW u h=>by refine(CQ u [Y3] 1 W h (λt ht=>by rw[OL] at ht;subst ht;simp[Y3]) (by omega) (by simp)).mono ?_;rintro e w' ⟨u',rfl,q1,q2⟩;rw[M9] at q1;exact⟨u',rfl,fU q1,q2⟩
 have HTE:Po (∀(W:PJ) sb ob9 sv9 u,Io w11 W->iL W sb ob9 sv9 (PM lvb 1 1)->Fv W u [W3]->Calls prog 75 #[PL sb,PM w10.heap.size 1 1,PM W.heap.size 1 1] (W.alloc (.cells #[u] 79)) λe w'=>e=.returned (.tuple #[])/\∃g1,w'.ownsRow w10.heap.size 110 2 (PM w10.heap.size 1 1) 1 [.slice ga 1 gc,PM g1 1 1]/\Vl w' (PM g1 1 1) [[(3,[0,1])]]/\Io w10 w'):=λW sb ob9 sv9 u hb h1 h2=>by
  have hba:Io w11 (W.alloc (.cells #[u] 79)):=fY hb;refine(Hq w10.heap.size sb ob9 w10.heap.size 1 W.heap.size 1 sv9 _ (.slice ga 1 gc) u _ (h1.below ai) (aF HO11.o hba) (H10.o _ hba).size ?_ (by simp[go_sem]) (h2.below ai)).mono ?_
  .have hx:=HGV.o.below (In HB9.o (H1.o _ hba));exact hx
  .rintro e w' ⟨rfl,g1,q1,q2,_,q3⟩;exact⟨rfl,g1,q1,q2,(H10.o _ hba).trans q3⟩
 have HB11D:Po (Io w11 w11.drew):=(Ov _ _).drew;have HLAST:Po (∀W ev,Io w10 W->Sl W ev [0,1]->Calls prog 39 #[PO 0,.agg #[PO 3,ev],PL bx] W λe w'=>e=.returned (.tuple #[])/\P w'):=λW ev hb hs=>HTL.o W ev (In HB1.o (In HB9.o (In HB10.o hb))) hs;clear HEL HBI c0 c1 c6 m0 clb HNE HM9 HM10 HN10 HMD HLV HGV HFL HE9 HTL HLW HAT H1;refine wp_region_held_drew (S:=λW=>W.cell? (PN w.heap.size 0)=some (PL md)/\W.cell? (PN md 0)=some (PO 7)/\W.cell? (PN md 1)=some (PO 2)/\W.cell? (PN md 2)=some (PO 1)/\W.cell? (PN md 3)=some (PO 1)/\W.cell? (PN md 4)=some (PO 1)/\W.cell? (PN md 5)=some (PM lvb 1 1)/\W.cell? (PN md 6)=some (PL mb)/\W.cell? (PN mb 0)=some (PL ob)/\W.cell? (PN w9.heap.size 0)=some (PO 0)/\W.cell? (PN w9.heap.size 1)=some (PP 0)/\W.cell? (PN w9.heap.size 2)=some (PP 0)/\W.cell? (PN w9.heap.size 3)=some (PP 0)/\W.cell? (PN w9.heap.size 4)=some (PP 0)/\W.cell? (PN w9.heap.size 5)=some (PQ 0)/\W.cell? (PN w9.heap.size 6)=some (PQ 6)/\W.cell? (PN w2.heap.size 0)=some (.slice va 1 vc)) (by kernel_rfl) (KEEP.o _ HB11D.o) (λhHeld=>?_);refine bL 0 33 rfl rfl hHeld (Pf ⟨rfl,λw ⟨s1,s2,s3,s4,s5,s6,s7,s8,s9,s10,s11,s12,s13,s14,s15,s16,s17⟩=>by go_simp<;>with_reducible rfl⟩) ?_;refine bL 1 34 rfl rfl hHeld (Pf ⟨rfl,λw ⟨s1,s2,s3,s4,s5,s6,s7,s8,s9,s10,s11,s12,s13,s14,s15,s16,s17⟩=>by go_simp<;>with_reducible rfl⟩) ?_;refine bL 2 35 rfl rfl hHeld (Pf ⟨rfl,λw ⟨s1,s2,s3,s4,s5,s6,s7,s8,s9,s10,s11,s12,s13,s14,s15,s16,s17⟩=>by go_simp<;>with_reducible rfl⟩) ?_;refine bL 3 36 rfl rfl hHeld (Pf ⟨rfl,λw ⟨s1,s2,s3,s4,s5,s6,s7,s8,s9,s10,s11,s12,s13,s14,s15,s16,s17⟩=>by go_simp<;>with_reducible rfl⟩) ?_;refine bL 4 37 rfl rfl hHeld (Pf ⟨rfl,λw ⟨s1,s2,s3,s4,s5,s6,s7,s8,s9,s10,s11,s12,s13,s14,s15,s16,s17⟩=>by go_simp<;>with_reducible rfl⟩) ?_;refine bL 5 38 rfl rfl hHeld (Pf ⟨rfl,λw ⟨s1,s2,s3,s4,s5,s6,s7,s8,s9,s10,s11,s12,s13,s14,s15,s16,s17⟩=>by go_simp<;>with_reducible rfl⟩) ?_;refine bL 6 39 rfl rfl hHeld (Pf ⟨rfl,λw ⟨s1,s2,s3,s4,s5,s6,s7,s8,s9,s10,s11,s12,s13,s14,s15,s16,s17⟩=>by go_simp<;>with_reducible rfl⟩) ?_;refine bL 7 40 rfl rfl hHeld (Pf ⟨rfl,λw ⟨s1,s2,s3,s4,s5,s6,s7,s8,s9,s10,s11,s12,s13,s14,s15,s16,s17⟩=>by go_simp<;>with_reducible rfl⟩) ?_;refine bL 8 41 rfl rfl hHeld (Pf ⟨rfl,λw ⟨s1,s2,s3,s4,s5,s6,s7,s8,s9,s10,s11,s12,s13,s14,s15,s16,s17⟩=>by go_simp<;>with_reducible rfl⟩) ?_;refine bL 9 42 rfl rfl hHeld (Pf ⟨rfl,λw ⟨s1,s2,s3,s4,s5,s6,s7,s8,s9,s10,s11,s12,s13,s14,s15,s16,s17⟩=>by go_simp<;>with_reducible rfl⟩) ?_;refine bL 10 43 rfl rfl hHeld (Pf ⟨rfl,λw ⟨s1,s2,s3,s4,s5,s6,s7,s8,s9,s10,s11,s12,s13,s14,s15,s16,s17⟩=>by go_simp<;>with_reducible rfl⟩) ?_;refine bL 11 44 rfl rfl hHeld (Pf ⟨rfl,λw ⟨s1,s2,s3,s4,s5,s6,s7,s8,s9,s10,s11,s12,s13,s14,s15,s16,s17⟩=>by go_simp<;>with_reducible rfl⟩) ?_;refine bL 12 45 rfl rfl hHeld (Pf ⟨rfl,λw ⟨s1,s2,s3,s4,s5,s6,s7,s8,s9,s10,s11,s12,s13,s14,s15,s16,s17⟩=>by go_simp<;>with_reducible rfl⟩) ?_;refine bL 15 48 rfl rfl hHeld (Pf ⟨rfl,λw ⟨s1,s2,s3,s4,s5,s6,s7,s8,s9,s10,s11,s12,s13,s14,s15,s16,s17⟩=>by go_simp<;>with_reducible rfl⟩) ?_;refine bL 16 49 rfl rfl hHeld (Pf ⟨rfl,λw ⟨s1,s2,s3,s4,s5,s6,s7,s8,s9,s10,s11,s12,s13,s14,s15,s16,s17⟩=>by go_simp<;>with_reducible rfl⟩) ?_;refine bL 17 50 rfl rfl hHeld (Pf ⟨rfl,λw ⟨s1,s2,s3,s4,s5,s6,s7,s8,s9,s10,s11,s12,s13,s14,s15,s16,s17⟩=>by go_simp<;>with_reducible rfl⟩) ?_;refine bL 18 51 rfl rfl hHeld (Pf ⟨rfl,λw ⟨s1,s2,s3,s4,s5,s6,s7,s8,s9,s10,s11,s12,s13,s14,s15,s16,s17⟩=>by go_simp<;>with_reducible rfl⟩) ?_;refine bL 19 52 rfl rfl hHeld (Pf ⟨rfl,λw ⟨s1,s2,s3,s4,s5,s6,s7,s8,s9,s10,s11,s12,s13,s14,s15,s16,s17⟩=>by go_simp<;>with_reducible rfl⟩) ?_;refine bL 20 53 rfl rfl hHeld (Pf ⟨rfl,λw ⟨s1,s2,s3,s4,s5,s6,s7,s8,s9,s10,s11,s12,s13,s14,s15,s16,s17⟩=>by go_simp<;>with_reducible rfl⟩) ?_;refine bL 21 54 rfl rfl hHeld (Pf ⟨rfl,λw ⟨s1,s2,s3,s4,s5,s6,s7,s8,s9,s10,s11,s12,s13,s14,s15,s16,s17⟩=>by go_simp<;>with_reducible rfl⟩) ?_;refine bL 22 55 rfl rfl hHeld (Pf ⟨rfl,λw ⟨s1,s2,s3,s4,s5,s6,s7,s8,s9,s10,s11,s12,s13,s14,s15,s16,s17⟩=>by go_simp<;>with_reducible rfl⟩) ?_;refine bL 23 56 rfl rfl hHeld (Pf ⟨rfl,λw ⟨s1,s2,s3,s4,s5,s6,s7,s8,s9,s10,s11,s12,s13,s14,s15,s16,s17⟩=>by go_simp<;>with_reducible rfl⟩) ?_;refine bL 24 57 rfl rfl hHeld (Pf ⟨rfl,λw ⟨s1,s2,s3,s4,s5,s6,s7,s8,s9,s10,s11,s12,s13,s14,s15,s16,s17⟩=>by go_simp<;>with_reducible rfl⟩) ?_;refine bL 26 59 rfl rfl hHeld (Pf ⟨rfl,λw ⟨s1,s2,s3,s4,s5,s6,s7,s8,s9,s10,s11,s12,s13,s14,s15,s16,s17⟩=>by go_simp<;>with_reducible rfl⟩) ?_;refine bL 27 60 rfl rfl hHeld (Pf ⟨rfl,λw ⟨s1,s2,s3,s4,s5,s6,s7,s8,s9,s10,s11,s12,s13,s14,s15,s16,s17⟩=>by go_simp<;>with_reducible rfl⟩) ?_;refine bL 28 61 rfl rfl hHeld (Pf ⟨rfl,λw ⟨s1,s2,s3,s4,s5,s6,s7,s8,s9,s10,s11,s12,s13,s14,s15,s16,s17⟩=>by go_simp<;>with_reducible rfl⟩) ?_;refine bL 29 62 rfl rfl hHeld (Pf ⟨rfl,λw ⟨s1,s2,s3,s4,s5,s6,s7,s8,s9,s10,s11,s12,s13,s14,s15,s16,s17⟩=>by go_simp<;>with_reducible rfl⟩) ?_;try simp only[Act.put,List.setIfInBounds_toArray,List.set_cons_zero,List.set_cons_succ]
 refine wpAnyH_ready (rs:=[13]) (by kernel_rfl) (by simp) ?_;refine AllReadyH.cons rfl (λK hK=>?_) AllReadyH.nil;go_simp;refine(HNO.o _ HB11D.o).mono ?_;rintro e w12 ⟨rfl,q⟩;have HB12:=ae q;clear q;dsimp only;refine hK.out _ _ (KEEP.o w12 HB12.o) (λhHeld=>?_);clear hK K;try simp only[Act.put,List.setIfInBounds_toArray,List.set_cons_zero,List.set_cons_succ]
 try simp only[Act.put,List.setIfInBounds_toArray,List.set_cons_zero,List.set_cons_succ]
 refine wpAnyH_ready (rs:=[14]) (by kernel_rfl) (by simp) ?_;refine AllReadyH.cons rfl (λK hK=>?_) AllReadyH.nil;go_simp;refine(HNS.o _ HB12.o).mono ?_;rintro e w13 ⟨sb,ob9,sv9,rfl,q1,q2⟩;have HS13:=ae q1;have HB13:=ae q2;clear q1 q2;dsimp only;refine hK.out _ _ (KEEP.o w13 HB13.o) (λhHeld=>?_);clear hK K;try simp only[Act.put,List.setIfInBounds_toArray,List.set_cons_zero,List.set_cons_succ]
 try simp only[Act.put,List.setIfInBounds_toArray,List.set_cons_zero,List.set_cons_succ]
 refine wpAnyH_ready (rs:=[25]) (by kernel_rfl) (by simp) ?_;refine AllReadyH.cons rfl (λK hK=>?_) AllReadyH.nil;go_simp;refine(HSC.o _ HB13.o).mono ?_;rintro e w14 ⟨u14,rfl,q1,q2⟩;have HF14:=ae q1;have HB14:=ae q2;obtain⟨ua14,uc14,hu14,_⟩:=q1;subst hu14;have HS14:=ae (HS13.o.below q2);clear q2;dsimp only;refine hK.out _ _ (KEEP.o w14 (In HB13.o HB14.o)) (λhHeld=>?_);clear hK K;try simp only[Act.put,List.setIfInBounds_toArray,List.set_cons_zero,List.set_cons_succ]
 try simp only[Act.put,List.setIfInBounds_toArray,List.set_cons_zero,List.set_cons_succ]
 refine wpAnyH_ready (rs:=[30]) (by kernel_rfl) (by simp) ?_;refine AllReadyH.cons rfl (λK hK=>?_) AllReadyH.nil;go_simp;refine(HWY.o _ _ HF14.o).mono ?_;rintro e w15 ⟨u15,rfl,q1,q2⟩;have HF15:=ae q1;have HB15:=ae (In HB14.o q2);obtain⟨ua15,uc15,hu15,_⟩:=q1;subst hu15;have HS15:=ae (HS14.o.below q2);have HB1015:=ae (In HB13.o HB15.o);clear q2;dsimp only;refine hK.out _ _ (KEEP.o w15 HB1015.o) (λhHeld=>?_);clear hK K;try simp only[Act.put,List.setIfInBounds_toArray,List.set_cons_zero,List.set_cons_succ]
 try simp only[Act.put,List.setIfInBounds_toArray,List.set_cons_zero,List.set_cons_succ]
 refine wpAnyH_ready (rs:=[31]) (by kernel_rfl) (by simp) ?_;refine AllReadyH.cons rfl (λK hK=>?_) AllReadyH.nil;go_simp;refine hK.out _ _ (KEEP.o _ (fY HB1015.o)) (λhHeld=>?_);clear hK K;try simp only[Act.put,List.setIfInBounds_toArray,List.set_cons_zero,List.set_cons_succ]
 try simp only[Act.put,List.setIfInBounds_toArray,List.set_cons_zero,List.set_cons_succ]
 refine wpAnyH_ready (rs:=[32]) (by kernel_rfl) (by simp) ?_;refine AllReadyH.cons rfl (λK hK=>?_) AllReadyH.nil;go_simp;refine(HTE.o w15 sb ob9 sv9 _ HB1015.o HS15.o HF15.o).mono ?_;rintro e w16 ⟨rfl,g1,q1,q2,q3⟩;have HO16:=ae q1;have HV16:=ae q2;have HB16:=ae q3;clear q1 q2 q3;dsimp only;refine hK.out _ _ (KEEP10.o w16 HB16.o) (λhHeld=>?_);clear hK K;try simp only[Act.put,List.setIfInBounds_toArray,List.set_cons_zero,List.set_cons_succ]
 try simp only[Act.put,List.setIfInBounds_toArray,List.set_cons_zero,List.set_cons_succ]
 refine wpAnyH_done (by kernel_rfl) ?_ _;have e16:w16.cell? (PN w10.heap.size 1)=some (PM g1 1 1):=Oq HO16.o 1 (by omega);obtain⟨fa,fc,hfa,hfp⟩:=HV16.o;obtain⟨fb,foff,hfb,flt,fat⟩:=hfp (by simp);simp only[OQ,List.length_singleton,OP,true_and,and_true] at hfa;subst hfb;simp only[OP,Addr.mk.injEq,and_true] at hfa;obtain⟨⟨rfl,rfl⟩,rfl⟩:=hfa;obtain⟨pv16,p0,pc16,pcc,hpv,_,hpp⟩:=fat 0 (by simp);obtain⟨pb,poff,rfl,plt,pat⟩:=hpp (by simp);obtain⟨t0,ev,t1,hs⟩:=pat 0 (by simp);subst hpv;have HEV:=ae hs;simp at p0 t0 t1;obtain⟨ea,ec,rfl,_⟩:=id hs;clear hs pat hpp fat hfp;go_wp2_with fail;refine wp_loop_rounds 2 ?_;rw[rounds_succ];go_wp2_with fail;refine wp_loop_rounds 2 ?_;rw[rounds_succ];obtain⟨w17,hw17⟩:∃w17,w17=w16.alloc (.cells #[PO 3,.slice ea 2 ec] 47):=⟨_,rfl⟩;have HB17:Po (Io w16 w17):=by rw[hw17];exact ai
 have y0:w17.cell? (PN w16.heap.size 0)=some (PO 3):=by rw[hw17];simp[go_sem]
 have y1:w17.cell? (PN w16.heap.size 1)=some (.slice ea 2 ec):=by rw[hw17];simp[go_sem]
 have HLL:=ae (HLAST.o w17 _ (In HB16.o HB17.o) (HEV.o.below HB17.o));go_upto_region 15 with fail;rw[<-hw17];clear hw17;go_wp2_with (go_at_call 39;refine HLL.o.mono ?_;rintro e w18 ⟨rfl,q1⟩;have HPP:=ae q1;clear q1);rw[rounds_succ];go_wp2_with fail;rw[rounds_succ];go_wp2_with fail;go_ret;exact⟨rfl,HPP.o⟩
end Go.Proofs.YtjkalahhpobefaaGreat
namespace Go.Proofs.YtjkalahhpobefaaGreat
set_option linter.all false
open Go.Proofs.Tryz Go.RowKit
variable{w:PJ}
theorem tp{lv:PK}{f:LT}(h:LV w lv f):fQ w lv [[f]]:=by
 refine⟨h.wl,λb off n c i va vn vc e hi hc=>?_⟩;obtain⟨lb,vb,pv,rfl,h2,_,_⟩:=h;simp only[OQ,OP,Addr.mk.injEq,and_true] at e;obtain⟨⟨rfl,rfl⟩,_,_⟩:=e;have e0:i=0:=by simp at hi;omega
 subst e0;rw[Nat.add_zero,h2] at hc;simp only[OP,OQ] at hc;omega
theorem Nb:dJ 7 2 1 1 1 l3 [g3]=0:=by kernel_rfl
theorem Nc(lv gv:PK)(w:PJ)(hl:LV w lv [(1,[1,0])])(hg:Vl w gv g3):Calls prog 16 #[aI 7 2 1 1,PO 1,gv,lv] w λe w'=>∃cg pg cap,e=.returned (.tuple #[PM cg 1 1,.bool true,PO 0])/\w'.cell? (PN cg 0)=some (PM pg 1 cap)/\w'.cell? (PN pg 0)=some (PO 3)/\Io w w':=by
 have hmk2:∀W:PJ,(Instr.makeSlice 31 (PO 1) (PO 1)).run prog W=.ok (PM W.heap.size 1 1) (W.alloc (.cells #[.slice none 0 0] 40)):=λW=>by have h:=run_make_row' (P:=prog) 31 40 (.slice none 0 0) 24 underlying31 Tryz.infoPlB rfl .i64 .i64 1 (by omega) (by omega) W;rw[AH] at h;exact h
 obtain⟨w1,hw1⟩:∃w1,w1=w.alloc (.cells #[PO 7,PO 2,PO 1,PO 1] 23):=⟨_,rfl⟩;have HB1:Po (Io w w1):=by rw[hw1];exact aY
 obtain⟨bx0,bx1,bx2,bx3⟩:w1.cell? (PN w.heap.size 0)=some (PO 7)/\w1.cell? (PN w.heap.size 1)=some (PO 2)/\w1.cell? (PN w.heap.size 2)=some (PO 1)/\w1.cell? (PN w.heap.size 3)=some (PO 1):=by rw[hw1];exact AW w 7 2 1 1 _
 obtain⟨w2,hw2⟩:∃w2,w2=(w1.alloc (.cells #[gv] 32)).alloc (.cells #[lv,PM w1.heap.size 1 1] 24):=⟨_,rfl⟩;have HB2:Po (Io w1 w2):=by rw[hw2];exact((Ov _ _).alloc (Ou _) _).alloc (by simp) _
 have HB02:Po (Io w w2):=In HB1.o HB2.o;have HCK:Po (Calls prog 12 #[aI 7 2 1 1,PO 1,PM (w1.heap.size+1) 2 2] w2 λe w'=>e=.returned (PO 0)/\Io w2 w'):=by have h:=wh 7 2 1 1 1 (w1.heap.size+1) 2 lv (PM w1.heap.size 1 1) l3 [g3] w2 (hl.wl.below HB02.o) (rW (hg.below HB02.o) (by rw[hw2];simp;omega) (by rw[hw2];simp[go_sem])) (by rw[hw2];simp[go_sem]) (by rw[hw2];simp[go_sem]);rw[Nb] at h;exact h
 have HNW:Po (∀W,Io w W->Calls prog 20 #[aI 7 2 1 1,PO 1,lv] W λe w'=>∃md mb ob sv ms rs,e=.returned (PL md)/\iT 7 1 1 2 1 lv l3 w' md mb ob sv ms rs/\Io W w'):=λW hb=>Dt 7 1 1 2 1 lv l3 W oH (tp (hl.below hb));have HL:=ae hl;have HG:=ae hg;obtain⟨lb,vb,pv,rfl,_⟩:=hl;obtain⟨ga,gc,hgv,_⟩:=hg;have hgv2:gv=.slice ga 1 gc:=hgv;clear hgv;subst hgv2;unfold aI at HCK HNW⊢;go_enter func16,ntmps16;go_upto_region 1 with fail;rw[<-hw1];clear hw1;go_upto_region 4 with (rw[<-hw2];go_at_call 12;refine HCK.o.mono ?_;rintro e w3 ⟨rfl,q1⟩;have HB3:=ae (In HB02.o q1);have hk:=In HB2.o q1;have bx0:=af bx0 hk;have bx1:=af bx1 hk;have bx2:=af bx2 hk;have bx3:=af bx3 hk;clear q1 hk hw2);obtain⟨w5,hw5⟩:∃w5,w5=(w3.alloc (.cells #[.slice none 0 0] 40)).alloc (.cells #[PM w3.heap.size 1 1] 31):=⟨_,rfl⟩;have HB5:Po (Io w3 w5):=by rw[hw5];exact((Ov _ _).alloc (Ou _) _).alloc (by simp) _
 have HB05:Po (Io w w5):=In HB3.o HB5.o;have HC5:Po (w5.cell? (PN (w3.heap.size+1) 0)=some (PM w3.heap.size 1 1)):=by show _=_;rw[hw5];simp[go_sem]
 have HM5:Po (w5.ownsRow w.heap.size 40 1 (PM w3.heap.size 1 1) 1 [.slice none 0 0]):=by rw[hw5];refine aF ?_ ai;exact⟨by simp,.inr ⟨w3.heap.size,1,_,rfl,HB3.o.size,heap_alloc_new w3 _,Ou _,by decide,by simp,by simp⟩⟩
 go_upto_region 5 with fail;rw[<-hw5];clear hw5;have bx0:=af bx0 HB5.o;have bx1:=af bx1 HB5.o;have bx2:=af bx2 HB5.o;have bx3:=af bx3 HB5.o;have HN5:=ae (HNW.o w5 HB05.o);have HMK:Po (∀W (md mb ob:Nat) sv ms rs,Io w5 W->iT 7 1 1 2 1 (PM lb 1 1) l3 W md mb ob sv ms rs->Calls prog 38 #[PL md,.slice ga 1 gc,.func (.func 39) #[] #[PL (w3.heap.size+1)]] W λe w'=>e=.returned (.bool true)/\∃pg cap,w'.cell? (PN (w3.heap.size+1) 0)=some (PM w3.heap.size 1 1)/\w'.cell? (PN w3.heap.size 0)=some (PM pg 1 cap)/\w'.cell? (PN pg 0)=some (PO 3)/\Io w w'):=λW md mb ob sv ms rs hb hm=>by
  have hwW:=In HB05.o hb;refine Na _ (.slice ga 1 gc) W md mb ob (w3.heap.size+1) sv ms rs _ hm (HL.o.below hwW) (HG.o.below hwW) (ae λW2 ev hb2 hs=>?_);have h52:=In hb hb2;refine(GV w.heap.size (w3.heap.size+1) w3.heap.size ev W2 ?_ (af HC5.o h52) (aF HM5.o h52) (by omega) hs).mono ?_
  .have h1:=hwW.size;have h2:=hb2.size;omega
  .rintro e w' ⟨rfl,pg,cap,q1,q2,q3,q4⟩;exact⟨rfl,pg,cap,q1,q2,q3,(In hwW hb2).trans q4⟩
 go_wp2_with (first|(go_at_call 20;refine HN5.o.mono ?_;rintro e w6 ⟨md,mb,ob,sv,ms,rs,rfl,q1,q2⟩;have HK6:=ae (HMK.o w6 md mb ob sv ms rs q2 q1);clear q1 q2)|(go_at_call 38;refine HK6.o.mono ?_;rintro e w7 ⟨rfl,pg,cap,q1,q2,q3,q4⟩;have HP7:=ae (Ow q2 (Ow q3 q4));clear q2 q3 q4));go_ret3;exact⟨_,pg,cap,rfl,HP7.o.1,HP7.o.2.1,HP7.o.2.2⟩
theorem DX{W:PJ}{A:Obj}(h:Io w W):Io w (W.alloc A):=h.alloc h.size A
theorem xI{x:PK}(h:Vl w x vB):∃xb xo xc a0 c0 pb po c1 ea ec,x=.slice (some (PN xb xo)) 2 xc/\w.cell? (PN xb xo)=some (.slice a0 0 c0)/\w.cell? (PN xb (xo+1))=some (.slice (some (PN pb po)) 1 c1)/\w.cell? (PN pb po)=some (PO 1)/\w.cell? (PN pb (po+1))=some (.slice ea 2 ec)/\Sl w (.slice ea 2 ec) [1,0]:=by obtain⟨xa,xc,rfl,hp⟩:=h;obtain⟨xb,xo,rfl,_,hat⟩:=hp (by decide);obtain⟨v0,c0,q0⟩:=hat 0 (by decide);obtain⟨v1,c1,q1⟩:=hat 1 (by decide);obtain⟨a0,k0,rfl,_⟩:=q0;obtain⟨a1,k1,rfl,_,h1⟩:=q1;obtain⟨pb,po,rfl,_,ht⟩:=h1 (by decide);obtain⟨t0,ev,t1,hs⟩:=ht 0 (by decide);have hs2:=hs;obtain⟨ea,ec,rfl,_⟩:=hs2;refine⟨xb,xo,xc,a0,k0,pb,po,k1,ea,ec,rfl,by simpa [vB] using c0,by simpa [vB] using c1,by simpa [vB] using t0,by simpa [vB] using t1,hs⟩
theorem NB(x:PK)(w:PJ)(hv:Vl w x vB):Calls prog 48 #[aI 7 2 1 1,x] w λe w'=>e=.returned (PO 1)/\Io w w':=by
 obtain⟨w1,hw1⟩:∃w1,w1=w.alloc (.cells #[PO 7,PO 2,PO 1,PO 1] 23):=⟨_,rfl⟩;have HB1:Po (Io w w1):=by rw[hw1];exact aY
 obtain⟨xb,xo,xc,a0,c0,pb,po,c1,ea,ec,rfl,h0,h1,h2,h3,_⟩:=xI (hv.below HB1.o);clear hv;go_enter func48,ntmps48;go_upto_region 1 with fail;rw[<-hw1];clear hw1;go_wp2_with fail;refine wp_loop_rounds 3 ?_;rw[rounds_succ];go_wp2_with fail;rw[rounds_succ];go_upto_region 6 with fail;go_region;all_goals
  go_wp2_with fail;rw[rounds_succ];go_wp2_with fail;go_ret;exact⟨rfl,HB1.o.drew⟩
theorem NC(x:PK)(z:Int)(w:PJ)(hs:Sl w x [z]):Calls prog 53 #[x] w λe w'=>e=.returned (PO z)/\w'=w:=by obtain⟨xa,xc,rfl,hp⟩:=hs;obtain⟨b,off,rfl,_,hc⟩:=hp (by simp);have h0:=hc 0 (by simp);simp at h0;clear hc hp;go_enter func53,ntmps53;go_wp2_with fail;refine wp_loop_rounds 1 ?_;rw[rounds_succ];go_wp2_with fail;go_ret;exact⟨rfl,rfl⟩
theorem ND(x:PK)(z:Int)(w:PJ)(hs:Sl w x [z]):Calls prog 54 #[x] w λe w'=>e=.returned (PO z)/\w'=w:=by obtain⟨xa,xc,rfl,hp⟩:=hs;obtain⟨b,off,rfl,_,hc⟩:=hp (by simp);have h0:=hc 0 (by simp);simp at h0;clear hc hp;go_enter func54,ntmps54;go_wp2_with fail;refine wp_loop_rounds 1 ?_;rw[rounds_succ];go_wp2_with fail;go_ret;exact⟨rfl,rfl⟩
theorem NE(x:PK)(w:PJ)(hs:Sl w x [0,2]):Calls prog 91 #[x,.func (.func 51) #[] #[]] w λe w'=>e=.returned (PO (-1))/\w'=w:=by
 have HD:∀k:Int,k=0\/k=2->∀W,Calls prog 51 #[PO k] W λe w'=>e=.returned (.bool false)/\w'=W:=λk hk W=>by
  rcases hk with rfl|rfl;all_goals
   go_enter func51,ntmps51;go_wp2;go_ret;exact⟨rfl,rfl⟩
 have HDD:=ae HD;clear HD;obtain⟨xa,xc,rfl,hp⟩:=hs;obtain⟨b,off,rfl,_,hc⟩:=hp (by simp);have h0:=hc 0 (by simp);have h1:=hc 1 (by simp);simp at h0 h1;clear hc hp;go_enter func91,ntmps91;go_wp2_with fail;refine wp_loop_rounds 3 ?_;rw[rounds_succ];go_wp2_with (go_at_call 51;refine(HDD.o 0 (Pf rfl) _).mono ?_;rintro e w' ⟨rfl,rfl⟩);rw[rounds_succ];go_wp2_with (go_at_call 51;refine(HDD.o 2 (Pg rfl) _).mono ?_;rintro e w' ⟨rfl,rfl⟩);rw[rounds_succ];go_wp2_with fail;go_ret;exact⟨rfl,rfl⟩
theorem NF(x:PK)(w:PJ)(hs:Sl w x [0,2]):Calls prog 50 #[x,.func (.func 51) #[] #[]] w λe w'=>e=.returned (.bool false)/\w'=w:=by have HS:=ae hs;obtain⟨a,cap,rfl,_⟩:=hs;go_enter func50,ntmps50;go_wp2_with (go_at_call 91;refine(NE _ _ HS.o).mono ?_;rintro e w' ⟨rfl,rfl⟩);go_ret;exact⟨rfl,rfl⟩
theorem NG(x y:PK)(w:PJ)(hd:Sl w x [0,2])(hv:Vl w y vB):Calls prog 52 #[x,y] w λe w'=>∃u,e=.returned u/\Sl w' u [3]/\Io w w':=by
 obtain⟨xb,xo,xc,a0,c0,pb,po,c1,ea,ec,rfl,h0,h1,h2,h3,hs⟩:=xI hv;obtain⟨da,dc,rfl,hp⟩:=hd;obtain⟨db,off,rfl,_,hc⟩:=hp (by simp);have g1:=hc 1 (by simp);simp at g1;clear hc hp hv;have HS:=ae hs;obtain⟨_,_,e,hsp⟩:=hs;obtain⟨eb,eo,rfl,_,hec⟩:=hsp (by simp);simp only[OQ,OZ,List.length_nil] at e;obtain⟨rfl,_,rfl⟩:=e;have HDG:Po (∀W,Io w W->Calls prog 92 #[.slice (some (PN eb eo)) 2 ec] W λe w'=>e=.returned (PO 1)/\w'=W):=λW hb=>by obtain⟨_,_,e,hq⟩:=HS.o.below hb;obtain⟨b2,o2,rfl,_,hc2⟩:=hq (by simp);simp only[OQ,OP,Addr.mk.injEq,and_true,OZ,List.length_nil] at e;obtain⟨⟨rfl,rfl⟩,_,rfl⟩:=e;exact iV [1,0] eb eo ec W (λx hx=>by simp at hx;omega) (by simp) hc2
 clear hec hsp;go_enter func52,ntmps52;go_wp2_with fail;refine wp_loop_rounds 3 ?_;rw[rounds_succ];go_wp2_with fail;refine wp_loop_rounds 1 ?_;rw[rounds_succ];go_wp2_with fail;rw[rounds_succ];go_wp2_with fail;refine wp_loop_rounds 2 ?_;rw[rounds_succ];obtain⟨w1,hw1⟩:∃w1,w1=w.alloc (.cells #[PO 1,.slice (some (PN eb eo)) 2 ec] 47):=⟨_,rfl⟩;have HB1:Po (Io w w1):=by rw[hw1];exact ai
 have y1:w1.cell? (PN w.heap.size 1)=some (.slice (some (PN eb eo)) 2 ec):=by rw[hw1];simp[go_sem]
 have g2:=af g1 HB1.o;have HD1:=ae (HDG.o _ HB1.o.drew);go_upto_region 8 with fail;rw[<-hw1];clear hw1;have hw3:IntKind.i64.wrap 3=3:=by rw[IntKind.wrap_i64];omega
 have hcap:¬(281474976710656<Builtin.nextslicecap 1 0*Tryz.t3.bytes):=by decide+kernel
 have HFIN:Po (∀(A:Obj)(C:Array PK)(T:TypeId)(c:Nat),Sl ((w1.alloc A).alloc (.cells (#[PO 3]++C) T)).drew.drew (PM (w1.heap.size+1) 1 c) [3]/\Io w ((w1.alloc A).alloc (.cells (#[PO 3]++C) T)).drew.drew):=λA C T c=>by
  refine⟨⟨_,c,rfl,λ_=>⟨w1.heap.size+1,0,rfl,by simp,λi hi=>?_⟩⟩,(DX (DX HB1.o)).drew.drew⟩;have e:i=0:=by simp at hi;omega
  subst e;have hh:=heap_alloc_new (w1.alloc A) (.cells (#[PO 3]++C) T);have e:(w1.alloc A).heap.size=w1.heap.size+1:=by simp
  rw[e] at hh;have h:=cell_of_row ((w1.alloc A).alloc (.cells (#[PO 3]++C) T)) _ 0 _ T (0,0) hh;rw[Array.getElem?_append_left (by simp)] at h;exact h
 go_region_law (go_simp;refine HD1.o.mono ?_;rintro e w8 ⟨rfl,rfl⟩;dsimp only);all_goals
  go_wp2_with fail;rw[rounds_succ];go_wp2_with fail;rw[rounds_succ];go_wp2_with fail;go_ret;exact⟨_,rfl,HFIN.o _ _ _ _⟩
theorem DY:er 7 2 1 1 [vB]=0/\er 7 2 1 1 [vB,vB]=0/\eh 7 1 vB vB=[[],[(2,[1,0])]]/\je 0 [[],[(2,[1,0])]]=0/\cR 7 2 1 1 2 [vB]=0:=by refine⟨by decide+kernel,by decide+kernel,by decide+kernel,by decide+kernel,by decide+kernel⟩
theorem DZ(b c:Nat)(x:PK)(w:PJ)(hv:Vl w x vB)(hc:w.cell? (PN b 0)=some x):Calls prog 29 #[aI 7 2 1 1,PM b 1 c] w λe w'=>e=.returned (PO 0)/\Io w w':=by have h:=wL 7 2 1 1 (PM b 1 c) [vB] w (by simp) (rW hv (OG w _ hc) hc);rw[DY.1] at h;exact h
theorem NH(x y:PK)(w:PJ)(hd:Sl w x [0,2])(hv:Vl w y vB):Calls prog 23 #[aI 7 2 1 1,x,y] w λe w'=>e=.returned (.tuple #[PO 3,PO 0])/\Io w w':=by
 obtain⟨w1,hw1⟩:∃w1,w1=w.alloc (.cells #[PO 7,PO 2,PO 1,PO 1] 23):=⟨_,rfl⟩;have HB1:Po (Io w w1):=by rw[hw1];exact aY
 obtain⟨k0,k1,k2,k3⟩:w1.cell? (PN w.heap.size 0)=some (PO 7)/\w1.cell? (PN w.heap.size 1)=some (PO 2)/\w1.cell? (PN w.heap.size 2)=some (PO 1)/\w1.cell? (PN w.heap.size 3)=some (PO 1):=by rw[hw1];simp[go_sem]
 obtain⟨ya,yc,hy,_⟩:=id hv;have hy2:y=.slice ya 2 yc:=hy;clear hy;subst hy2;have HV:=ae hv;have HD:=ae hd;have HCK:=ae (λT=>DZ w1.heap.size 1 (.slice ya 2 yc) (w1.alloc (.cells #[.slice ya 2 yc] T)) ((hv.below HB1.o).below ai) (by simp[go_sem]));obtain⟨xa,xc,rfl,_⟩:=hd;clear hv;unfold aI at HCK⊢;go_enter func23,ntmps23;go_upto_region 1 with fail;rw[<-hw1];clear hw1;go_wp2_with (first|(go_at_call 29;refine(HCK.o _).mono ?_;rintro e w3 ⟨rfl,q1⟩;have HB3:=ae (In HB1.o (ai.trans (q1.mono (by simp))));clear q1)|(go_at_call 50;refine(NF _ _ (HD.o.below HB3.o)).mono ?_;rintro e w4 ⟨rfl,rfl⟩)|(go_at_call 52;refine(NG _ _ _ (HD.o.below HB3.o) (HV.o.below HB3.o)).mono ?_;rintro e w5 ⟨u,rfl,hu,q1⟩;have HB5:=ae (In HB3.o q1);have HU:=ae hu;obtain⟨ua,uc,rfl,hup⟩:=hu;obtain⟨ub,uo,rfl,_,huc⟩:=hup (by simp);have hu0:=huc 0 (by simp);simp at hu0;clear q1 hup huc)|(go_at_call 53;refine(NC _ 3 _ HU.o).mono ?_;rintro e w6 ⟨rfl,rfl⟩)|(go_at_call 54;refine(ND _ 3 _ HU.o).mono ?_;rintro e w7 ⟨rfl,rfl⟩));go_ret2;exact⟨rfl,HB5.o⟩
theorem NI(x:PK)(w:PJ)(hv:Vl w x vB):Calls prog 22 #[aI 7 2 1 1,x] w λe w'=>∃la ll lc,e=.returned (.tuple #[PO 1,.agg #[PO 1,.slice la ll lc],PO 0])/\Io w w':=by
 obtain⟨w2,hw2⟩:∃w2,w2=(w.alloc (.cells #[PO 7,PO 2,PO 1,PO 1] 23)).alloc (.cells #[PO 0,.slice none 0 0] 47):=⟨_,rfl⟩;have HR2:Po (jI w w2 7 2 1 1):=by rw[hw2];exact jI.first w 7 2 1 1
 have hs2:w2.heap.size=w.heap.size+1+1:=by rw[hw2];simp
 obtain⟨xb,xo,xc,a0,c0,pb,po,c1,ea,ec,hx,h0,h1,h2,h3,hse⟩:=xI hv;subst hx;have HV:=ae hv;have HSE:=ae hse;have HCL:=ae (Ow h1 (Ow h2 h3));have HCK:Po (∀T,Calls prog 29 #[aI 7 2 1 1,PM (w.heap.size+1+1) 1 1] (w2.alloc (.cells #[.slice (some (PN xb xo)) 2 xc] T)) λe w'=>e=.returned (PO 0)/\Below (w2.alloc (.cells #[.slice (some (PN xb xo)) 2 xc] T)).heap.size (w2.alloc (.cells #[.slice (some (PN xb xo)) 2 xc] T)) w'):=λT=>by have h:=DZ w2.heap.size 1 (.slice (some (PN xb xo)) 2 xc) (w2.alloc (.cells #[.slice (some (PN xb xo)) 2 xc] T)) ((hv.below HR2.o.below).below ai) (by simp[go_sem]);rw[hs2] at h;exact h
 obtain⟨_,bx0,bx1,bx2,bx3⟩:=HR2.o.box;have HLP:=ae (fun(W:PJ) (h:Vl W (.slice (some (PN xb xo)) 2 xc) vB)=>NB _ W h);clear hs2 hv h0 h1 h2 h3 hse;unfold aI at HCK HLP⊢;go_enter func22,ntmps22;go_wp2_with fail;try rw[<-hw2]
 refine(HCK.o _).mono ?_;rintro e w3 ⟨rfl,hb3⟩;have HR3:=ae (HR2.o.next (aY.trans (hb3.mono (by simp))));clear hb3 bx0 bx1 bx2 bx3 hw2;obtain⟨_,bx0,bx1,bx2,bx3⟩:=HR3.o.box;go_wp2_with fail;refine(HLP.o _ (HV.o.below HR3.o.below)).mono ?_;rintro e w4 ⟨rfl,hb4⟩;have HR4:=ae (HR3.o.next hb4);clear hb4 bx0 bx1 bx2 bx3;have c0:=af HCL.o.1 HR4.o.below;have e0:=af HCL.o.2.1 HR4.o.below;have e1:=af HCL.o.2.2 HR4.o.below;have HR5:=ae (HR4.o.next (ai (A:=.cells #[PO 1,.slice ea 2 ec] 47)));have D0:Po ((w4.alloc (.cells #[PO 1,.slice ea 2 ec] 47)).drew.cell? (PN w4.heap.size 0)=some (PO 1)):=by show _=_;simp[go_sem]
 go_wp2_with fail;go_region_with (go_at_call 49;refine(zW _ [1,0] _ (by simp) ((HSE.o.below HR5.o.below).below (Ov _ _).drew)).mono ?_;rintro e w9 ⟨u9,rfl,hu9,hb9⟩;have HR9:=ae ((HR5.o.next (Ov _ _).drew).next hb9);obtain⟨r0,r1,q0,q1⟩:=HR9.o.cells;have d0:=D0.o;rw[<-hb9.cell (by simp)] at d0;obtain⟨ua,uc,rfl⟩:=cE hu9;clear hb9 hu9);all_goals
  obtain⟨hbf,x0,x1⟩:=HR9.o.put 1 (.slice ua 2 uc);have HX01:=ae (Ow x0 x1);have HBF:=ae hbf;clear hbf x0 x1;go_wp2;refine OC (v:=.tuple #[PO 1,.agg #[PO 1,.slice ua 2 uc],PO 0]) (by have x0:=HX01.o.1;have x1:=HX01.o.2;simp[results,Tryz.results22,go_sem,x0,x1]) rfl ⟨ua,2,uc,rfl,HBF.o⟩
theorem M0(w:PJ):Calls prog 9 #[] w λe w'=>e=.returned (.bool true)/\Io w w':=by
 obtain⟨f1,f2,f4,f5,f8⟩:=DY;have g4:je (er 7 2 1 1 [vB,vB]) (eh 7 1 vB vB)=0:=by rw[f2,f4];exact f5
 have g5:kH (er 7 2 1 1 [vB,vB]) (eh 7 1 vB vB)=[[],[(2,[1,0])]]:=by unfold kH;rw[g4,OW rfl,f4]
 have G:=ae (Ow g4 (Ow g5 f8));clear f1 f2 f4 f5 f8 g4 g5;go_enter func9,ntmps9;go_wp2_with fail;refine(sw _ _ _ _ _).mono ?_;rintro e w1 ⟨rfl,hb1⟩;have HS1:=ae ((Sl.new2 w 1 0 _).below hb1);have HB1:=ae (show Io w w1 from iZ.trans (hb1.mono (by simp)));clear hb1;have HV:Po (∀T T',Vl ((w1.alloc (.cells #[PO 1,PM w.heap.size 2 2] T)).alloc (.cells #[.slice none 0 0,PM w1.heap.size 1 1] T')) (PM (w1.heap.size+1) 2 2) vB):=λT T'=>jg (Pl.empty _) ((tu HS1.o).below aY) (by simp) (by simp[go_sem]) (by simp[go_sem])
 go_wp2_with fail;refine(mq _).mono ?_;rintro e w2 ⟨rfl,hb2⟩;have HV2:=ae ((HV.o _ _).below hb2);have HB2:=ae (show Io w w2 from In HB1.o (In cY hb2));clear hb2;go_wp2_with fail;refine(NI _ _ HV2.o).mono ?_;rintro e w3 ⟨la,ll,lc,rfl,hb3⟩;have HV3:=ae (HV2.o.below hb3);have HB3:=ae (In HB2.o hb3);clear hb3;obtain⟨w4,hw4⟩:∃w4,w4=w3.alloc (.cells #[PO 1,.slice la ll lc] 47):=⟨_,rfl⟩;have HB4:Po (Io w w4):=by rw[hw4];exact In HB3.o ai
 have HV4:Po (Vl w4 (PM (w1.heap.size+1) 2 2) vB):=by rw[hw4];exact HV3.o.below ai
 have HC4:Po (w4.cell? (PN w3.heap.size 0)=some (PO 1)):=by show _=_;rw[hw4];simp[go_sem]
 go_wp2_with fail;try rw[<-hw4]
 refine(mq _).mono ?_;rintro e w5 ⟨rfl,hb5⟩;have HV5:=ae (HV4.o.below hb5);have HB5:=ae (In HB4.o hb5);have HC5:=ae (af HC4.o hb5);clear hb5 hw4;go_wp2_with fail;refine(Cl 7 2 1 1 _ _ vB vB _ HV5.o HV5.o).mono ?_;rw[G.o.1,G.o.2.1];rintro e w6 ⟨u,rfl,hu,hb6⟩;have HV6:=ae (HV5.o.below hb6);have HB6:=ae (In HB5.o hb6);have HC6:=ae (af HC5.o hb6);have HU6:=ae hu;obtain⟨ua,uc,rfl,_⟩:=hu;clear hb6;go_wp2_with fail;refine(mq _).mono ?_;rintro e w7 ⟨rfl,hb7⟩;have HV7:=ae (HV6.o.below hb7);have HB7:=ae (In HB6.o hb7);have HC7:=ae (af HC6.o hb7);have HU7:=ae (HU6.o.below hb7);clear hb7;go_wp2_with fail;refine(NH _ _ _ (Sl.new2 _ _ _ _) (HV7.o.below iZ)).mono ?_;rintro e w8 ⟨rfl,hb8⟩;have HV8:=ae ((HV7.o.below iZ).below hb8);have HB8:=ae (In HB7.o (iZ.trans (hb8.mono (by simp))));have HC8:=ae (af (af HC7.o iZ) hb8);have HU8:=ae ((HU7.o.below iZ).below hb8);clear hb8;obtain⟨b,off,fa,fc,hua,hlt,c1,hpl⟩:=jD (fss:=[[],[(2,[1,0])]]) HU8.o 1 (by simp);subst hua;have c1':w8.cell? (PN b (off+1))=some (.slice fa 1 fc):=c1;obtain⟨b2,off2,ea,ec,hfa,hlt2,e0,_,_⟩:=Kp (t:=(2,[1,0])) (ts:=[]) hpl;subst hfa;simp only at e0;have c8:=HC8.o;clear c1 hpl;go_wp2_with fail;refine(mq _).mono ?_;rintro e w9 ⟨rfl,hb9⟩;have HV9:=ae (HV8.o.below hb9);have HB9:=ae (In HB8.o hb9);clear hb9;go_wp2_with fail;refine(oo 7 2 1 1 2 _ [vB] _ (rW (HV9.o.below aY) (by simp) (by simp[go_sem]))).mono ?_;rw[G.o.2.2];rintro e w10 ⟨rfl,hb10⟩;have HB10:=ae (In HB9.o (aY.trans (hb10.mono (by simp))));clear hb10;go_wp2;go_ret;exact⟨rfl,HB10.o⟩
variable{cs:Lt}{p n o v:Int}
theorem MX{rank:Int}{vss:PA}(h:eY p n o v rank cs vss=0):cR p n o v rank vss=0/\i7 p n o v cs=0/\jX p n o v rank cs vss=cr p o rank.toNat cs vss vss.length:=by
 refine⟨?_,?_,by unfold jX;rw[OW h]⟩;all_goals
  unfold eY at h;by_cases h1:cR p n o v rank vss=0
  .rw[OV (by simpa using h1)] at h;by_cases h2:cs.length=vss.length
   .rw[OV (by simpa using h2)] at h;by_cases h3:i7 p n o v cs=0
    .first|exact h1|exact h3
    .rw[OW h3] at h;exact absurd h h3
   .rw[OW h2] at h;exact absurd h (by decide)
  .rw[OW h1] at h;exact absurd h h1
theorem MY(h:i7 p n o v cs=0){m:Nat}{b:Tm}(hb:b∈cs.getD m []):b.2.length=n.toNat/\∀x∈b.2,0<=x:=by
 obtain⟨hR,hall⟩:=Cp h;obtain⟨_,hn1,hn3,_,_⟩:=lX hR;have hi:m<cs.length:=by apply OU;intro hle;rw[OH,OJ hle] at hb;simp at hb
 have hm:cs.getD m []∈cs:=by rw[OH,OI hi];exact OE hi
 have h1:=hall _ hm;rw[show n=(n.toNat:Int) by omega] at h1;have hr:=rU h1;exact⟨hr.canon.len b hb,λx hx=>(hr.bd b hb x hx).1⟩
theorem MZ(l:PB):∃fs:PB,fs.Perm l/\iS fs:=by refine⟨l.mergeSort λa b=>decide (b.k<=a.k),List.mergeSort_perm _ _,?_⟩;have h:=List.pairwise_mergeSort (le:=λa b:Ft=>decide (b.k<=a.k)) (λa b c h1 h2=>by simp only[decide_eq_true_eq] at*;omega) (λa b=>by simp only[Bool.or_eq_true,decide_eq_true_eq];omega) l;unfold iS;simpa using h
theorem xF(N R:Nat)(lss:PA):∃rows,jG N R lss rows:=by have h:∀i:Nat,∃fs:PB,fs.Perm (eV (am 1 N N 0) (am 1 N N 1) (am 1 N N 2) (dE R lss.length) (lss.getD i []) R)/\iS fs:=λi=>MZ _;refine⟨(List.range lss.length).map λi=>Classical.choose (h i)++[dI ((dE R lss.length).getD (R+i) 0) ((R+i:Nat):Int)],by simp,λi hi=>⟨Classical.choose (h i),?_,(Classical.choose_spec (h i)).1,(Classical.choose_spec (h i)).2⟩⟩;rw[OH,List.getElem?_map,List.getElem?_range hi];rfl
theorem Jq(HBG:∀W,Calls prog 7 #[] W λe w'=>e=.returned (.bool true)/\Io W w')(p n o v rank:Int)(lv cv wv:PK)(lss:PA)(cs gs:Lt)(w:PJ)(hl:fQ w lv lss)(hc:Vl w cv cs)(hw:Vl w wv gs):Calls prog 4 #[aI p n o v,PO rank,lv,cv,wv] w λe w'=>e=.returned (.bool true)/\Io w w':=by
 obtain⟨T,hT⟩:=xE p n rank lss;have HVB:=λW=>M0 W;have HCM:∀W,Io w W->_:=λW h=>AX p n o v rank cv lv cs lss W (hc.below h) (hl.wl.below h);have HIN:∀W gv g,Io w W->Vl W gv g->_:=λW gv g h hg=>DJ p n o v rank gv lv g lss T hT W hg (hl.below h);have HAD:∀W gv V,Io w W->Vl W gv V->_:=λW gv V h hg=>Cl p n o v gv wv V gs W hg (hw.below h);have hww:=hw;obtain⟨la,lc,rfl,_⟩:=hl.wl;obtain⟨ca,cc,rfl,_⟩:=hc;obtain⟨wa,wc,rfl,_⟩:=hw;generalize hV:jX p n o v rank cs lss=V at HCM;have HA2:∀W gv,Io w W->Vl W gv V->_:=λW gv h hg=>HAD W gv V h hg;generalize hE:er p n o v [V,gs]=E at HA2;generalize hS:eh p o V gs=S at HA2;have hin:eY p n o v rank cs lss=0->dJ p n o v rank lss [V]=0->T V=true:=λh1 h2=>(hT V).2 (by
  obtain⟨hv1,hp1,hcr⟩:=MX h1;have hk:=lP (lQ.1 h2).1;obtain⟨rows,ht⟩:=xF n.toNat rank.toNat lss;refine⟨rows,ht,?_⟩;rw[<-hV,hcr];exact xC hk.st ht λm b hb=>MY hp1 hb)
 refine Jg p n o v rank ca la wa cs.length lss.length gs.length cc lc wc _ _ (je E S) _ _ _ _ _ V S w (λh1 h2=>by rw[Oy h2,hin h1 h2];rfl) (λh1 h2 h3 h4 h5=>?_) HBG HVB HCM (λW gv h=>⟨λhg=>HIN W gv V h hg,λhg=>HIN W gv S h hg⟩) (λW gv h hg=>(HA2 W gv h hg).mono ?_) λW h=>HIN W (.slice wa gs.length wc) gs h (hww.below h)
 .rw[Oy h4,Oy h5];obtain⟨hb1,hb2⟩:=lQ.1 h2;have hk:=lP hb1;have hkv:=lP hb2;have hg2:=lP (lQ.1 h4).2;have l1:V.length=rank.toNat:=hkv.st.len V (by simp);have l2:gs.length=rank.toNat:=hg2.st.len gs (by simp);obtain⟨rows,ht⟩:=xF n.toNat rank.toNat lss;have a1:=(oD hk.st ht).1 ((hT V).1 (hin h1 h2));have a2:T gs=true->T S=true:=λh=>(hT S).2 ((oD hk.st ht).2 (by rw[<-hS];exact MH l1 l2 a1 ((oD hk.st ht).1 ((hT gs).1 h))));have a3:T S=true->T gs=true:=λh=>(hT gs).2 ((oD hk.st ht).2 (MI (o:=o) l1 l2 a1 (by rw[hS];exact(oD hk.st ht).1 ((hT S).1 h))));cases c1:T S
  .cases c2:T gs
   .rfl
   .rw[a2 c2] at c1;simp at c1
  .rw[a3 c1]
 .rintro e w' ⟨u,rfl,q1,q2⟩;refine⟨u,rfl,λh=>?_,?_,q2⟩
  .have e3:kH E S=S:=by unfold kH;rw[OW h]
   rw[e3] at q1;exact q1
  .obtain⟨a,c,e,_⟩:=q1;exact⟨a,_,c,e⟩
theorem Nd:¬lO 7 2 1 l3 [[(1,[0,1])]]:=fun⟨rows,ht,Y,hY,hc⟩=>by
 rw[mt ht] at hY;obtain⟨rp,h1,h2⟩:=hY;obtain⟨a,ha⟩:=h2 (Gb.dl (0,0,1,0,0));obtain⟨b,hb⟩:=hc (0,0,1,0,0) rfl (by decide);have e:cP [R3] (Gb.dl (0,0,1,0,0)) rp=0:=by rw[tj _ rp λr hr=>by have:=(h1 r hr).2;simpa using this];refine Gb.jl λx _=>?_;obtain⟨_,⟨m1,m2,m3,m4⟩,j⟩:=x;unfold Gb.dl C4.aw C4.bH;simp only[Prod.mk.injEq,true_and];rw[OV (by omega),OV (by omega)];rfl
 have e2:aq (Gb.dl (0,0,1,0,0)) (dG 1 1 2 [[(1,[0,1])]] 1)=1:=by
  have e3:dG 1 1 2 [[(1,[0,1])]] 1=[⟨68719476735,0,1,0,0,0,1⟩]:=by rfl
  rw[e3];rfl
 rw[e] at ha;rw[e2] at hb;omega
theorem Nf:cr 7 1 1 [[(1,[0,0])]] l3 1=[[(1,[1,0])]]:=by decide+kernel
theorem Ng:lO 7 2 1 l3 [[(1,[1,0])]]:=by
 obtain⟨rows,ht⟩:=xF 2 1 l3;refine⟨rows,ht,?_⟩;have h:=xC oH ht (cs:=[[(1,[0,0])]]) (λm b hb=>by
  have hb2:b=(1,[0,0]):=by
   rcases m with _|m
   .simpa using hb
   .simp at hb
  subst hb2;exact⟨rfl,λx hx=>by simp at hx;omega⟩)
 have h2:f9 7 2 1 rows (cr 7 1 1 [[(1,[0,0])]] l3 1):=h;rw[Nf] at h2;exact h2
theorem Nh:dJ 7 2 1 1 1 l3 [[[(1,[0,1])]]]=0:=by kernel_rfl
theorem DL:dJ 7 2 1 1 1 l3 l3=0:=by kernel_rfl
theorem tt(w:PJ):Calls prog 19 #[] w λe w'=>∃a,e=.returned (.slice a 1 1)/\LV w' (.slice a 1 1) [(1,[1,0])]/\Io w w':=by
 go_enter func19,ntmps19;go_wp2_with fail;refine(sw _ _ _ _ _).mono ?_;rintro e w1 ⟨rfl,hb1⟩;have HS1:=ae ((Sl.new2 w 1 0 _).below hb1);have HB1:=ae (show Io w w1 from iZ.trans (hb1.mono (by simp)));clear hb1;have HV:Po (∀T T' T'',LV (((w1.alloc (.cells #[PO 1,PM w.heap.size 2 2] T)).alloc (.cells #[PM w1.heap.size 1 1] T')).alloc (.cells #[PM (w1.heap.size+1) 1 1] T'')) (PM (w1.heap.size+2) 1 1) [(1,[1,0])]):=λT T' T''=>by exact⟨w1.heap.size+2,w1.heap.size+1,PM w1.heap.size 1 1,rfl,by simp[go_sem],by simp[go_sem],((tu HS1.o).below ai).below ai⟩
 go_wp2;go_ret;exact⟨_,rfl,HV.o _ _ _,In HB1.o (n7)⟩
theorem Ni(lv gv:PK)(w:PJ)(hl:LV w lv [(1,[1,0])])(hg:Vl w gv [[(1,[0,1])]]):Calls prog 8 #[aI 7 2 1 1,PO 1,gv,lv] w λe w'=>e=.returned (.tuple #[.bool false,PO 0])/\Io w w':=by
 obtain⟨T,hT⟩:=xE 7 2 1 l3;have h:=DJ 7 2 1 1 1 gv lv [[(1,[0,1])]] l3 T hT w hg (tp hl);have e:T [[(1,[0,1])]]=false:=by
  cases h:T [[(1,[0,1])]]
  .rfl
  .exact(Nd ((hT _).1 h)).elim
 rw[Nh,e] at h;simpa using h
theorem Nj(av bv:PK)(w:PJ)(ha:LV w av [(1,[1,0])])(hb:LV w bv [(1,[1,0])]):Calls prog 5 #[aI 7 2 1 1,PO 1,av,bv] w λe w'=>e=.returned (.tuple #[.bool true,PO 0])/\Io w w':=by
 obtain⟨T,hT⟩:=xE 7 2 1 l3;refine(MW 7 2 1 1 1 av bv l3 l3 T T hT hT w (tp ha) (tp hb)).mono ?_;rintro e w' ⟨S,rfl,q1,_,q2⟩;have e:T [[(1,[1,0])]]=true:=(hT _).2 Ng;have e2:l3.all T=true:=by simp[l3,e]
 rw[q1 DL,DL,e2];exact⟨rfl,q2⟩
theorem Jr(w:PJ):Calls prog 7 #[] w λe w'=>e=.returned (.bool true)/\Io w w':=by go_enter func7,ntmps7;go_wp2_with fail;refine(mq _).mono ?_;rintro e w1 ⟨rfl,q1⟩;have HB1:=ae q1;clear q1;go_wp2_with fail;refine(sw _ _ _ _ _).mono ?_;rintro e w2 ⟨rfl,q1⟩;have HS2:=ae ((Sl.new2 w1 1 1 _).below q1);have HB2:=ae (show Io w w2 from In HB1.o (iZ.trans (q1.mono (by simp))));clear q1;have HV2:Po (∀T T',Vl ((w2.alloc (.cells #[PO 3,PM w1.heap.size 2 2] T)).alloc (.cells #[PM w2.heap.size 1 1] T')) (PM (w2.heap.size+1) 1 1) g3):=λT T'=>xi (by simp[go_sem]) ((tu HS2.o).below ai);go_wp2_with fail;refine(tt _).mono ?_;rintro e w3 ⟨a3,rfl,q1,q2⟩;have HL3:=ae (Nc _ _ w3 q1 ((HV2.o _ _).below q2));have HB3:=ae (In HB2.o (cY.trans (q2.mono (by simp;omega))));clear q1 q2;go_wp2_with fail;refine HL3.o.mono ?_;rintro e w4 ⟨cg,pg,cap,rfl,q1,q2,q3⟩;have HP4:=ae (Ow q1 q2);have HB4:=ae (In HB3.o q3);clear q1 q2 q3 HL3;go_wp2_with fail;refine(mq _).mono ?_;rintro e w5 ⟨rfl,q1⟩;have HB5:=ae q1;clear q1;go_wp2_with fail;refine(sw _ _ _ _ _).mono ?_;rintro e w6 ⟨rfl,q1⟩;have HS6:=ae ((Sl.new2 w5 0 1 _).below q1);have HB6:=ae (show Io w4 w6 from In HB5.o (iZ.trans (q1.mono (by simp))));clear q1;have HV6:Po (∀T T',Vl ((w6.alloc (.cells #[PO 1,PM w5.heap.size 2 2] T)).alloc (.cells #[PM w6.heap.size 1 1] T')) (PM (w6.heap.size+1) 1 1) [[(1,[0,1])]]):=λT T'=>xi (by simp[go_sem]) ((tu HS6.o).below ai);go_wp2_with fail;refine(tt _).mono ?_;rintro e w7 ⟨a7,rfl,q1,q2⟩;have HI7:=ae (Ni _ _ w7 q1 ((HV6.o _ _).below q2));have HB7:=ae (In HB6.o (cY.trans (q2.mono (by simp;omega))));clear q1 q2;go_wp2_with fail;refine HI7.o.mono ?_;rintro e w8 ⟨rfl,q1⟩;have HB8:=ae (In HB7.o q1);clear q1 HI7;go_wp2_with fail;refine(mq _).mono ?_;rintro e w9 ⟨rfl,q1⟩;have HB9:=ae (In HB8.o q1);clear q1;go_wp2_with fail;refine(tt _).mono ?_;rintro e wa ⟨aa,rfl,q1,q2⟩;have HLA:=ae q1;have HBa:=ae (In HB9.o q2);clear q1 q2;go_wp2_with fail;refine(tt _).mono ?_;rintro e wb ⟨ab,rfl,q1,q2⟩;have HSb:=ae (Nj _ _ wb (HLA.o.below q2) q1);have HBb:=ae (In HBa.o q2);clear q1 q2;go_wp2_with fail;refine HSb.o.mono ?_;rintro e wc ⟨rfl,q1⟩;have HBc:=ae (In HBb.o q1);clear q1 HSb;have z0:=af HP4.o.1 HBc.o;have z1:=af HP4.o.2 HBc.o;go_wp2;go_ret;exact⟨rfl,In HB4.o HBc.o⟩
end Go.Proofs.YtjkalahhpobefaaGreat
