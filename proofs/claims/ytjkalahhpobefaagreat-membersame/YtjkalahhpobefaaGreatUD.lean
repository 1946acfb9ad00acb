/- What a list is that. -/
import Derived.Test.YtjkalahhpobefaaGreatMM
import Derived.Test.YtjkalahhpobefaaGreatUB
import Derived.Test.YtjkalahhpobefaaGreatHU
set_option maxHeartbeats 8000000
set_option maxRecDepth 100000
namespace Go.Proofs.YtjkalahhpobefaaGreat
set_option linter.all false
open Go.Proofs.Tryz Go.RowKit
theorem Dl:∀xs:OP,(∀x∈xs,0<=x)->∀x∈xs,x<=aj xs
 |[],_,x,hx=>by simp at hx
 |y::xs,h,x,hx=>by
  have h0:=h y (by simp);have hn:∀zs:OP,(∀z∈zs,0<=z)->0<=aj zs:=λzs=>by
   induction zs with
   |nil=>intro _;exact Int.le_refl _
   |cons z zs ih=>intro hz;have a:=ih λu hu=>hz u (by simp[hu]);have b:=hz z (by simp);show 0<=z+aj zs;omega
  show x<=y+aj xs;rcases Og.1 hx with rfl|hx
  .have:=hn xs λu hu=>h u (by simp[hu]);omega
  .have:=Dl xs (λu hu=>h u (by simp[hu])) x hx;omega
structure Do(p n o v rank:Int)(N R:Nat)(vss:OH):Prop where
 hn:n=N
 hr:rank=R
 ho:o=1\/o=2
 hv:v=1\/v=2
 rt:∀g∈vss,∀f∈g,fO p o N f
 st:gE p o N R vss
variable{vss:OH}{p n o v rank:Int}
theorem sO(h:cr p n o v rank vss=0):Do p n o v rank n.toNat rank.toNat vss:=by
 obtain⟨hv,hr3,hv4,hbig⟩:=pV h;obtain⟨hR,hrk,_,hall⟩:=rM hv;obtain⟨hpr,hn1,hn3,ho,hvv⟩:=kg hR;have hlen:∀g∈vss,g.length=rank.toNat:=λg hg=>by have:=(hall g hg).1;omega
 have hrt:∀g∈vss,∀f∈g,fO p o n.toNat f:=λg hg f hf=>by have h:=(hall g hg).2 f hf;rw[show n=(n.toNat:Int) by omega] at h;exact rN h
 have h3:∀g∈vss,∀i,∀t∈g.getD i [],aj t.2<=3:=λg hg i t ht=>by
  have hbg:iq g=false:=by have:=List.any_eq_false.1 hbig g hg;simpa using this
  have hi:i<g.length:=by apply Ob;intro hle;rw[NY,N0 hle] at ht;simp at ht
  have hm:g.getD i []∈g:=by rw[NY,NZ hi];exact NV hi
  have hb1:gB (g.getD i [])=false:=by have:=List.any_eq_false.1 hbg _ hm;simpa using this
  have hR1:=hrt g hg _ hm;unfold gB at hb1;rw[Bz hR1] at hb1;revert hb1 hR1 ht;generalize g.getD i []=f;intro ht hb1 hR1;cases f with
  |nil=>simp at ht
  |cons u us=>
   have h4:=oa hR1.canon t ht;have h5:¬3<aj u.2:=by simp only[Bool.or_eq_false_iff,decide_eq_false_iff_not] at hb1;exact hb1.2
   omega
 have hvok:∀g∈vss,j6 p o n.toNat (λ_=>3) g:=λg hg=>by have h1:=LY (hrt g hg);exact⟨h1.canon,h1.nn,λi t ht=>h3 g hg i t ht⟩
 have hp:=dS hpr;refine⟨by omega,by omega,ho,hvv,hrt,⟨⟨hpr,by omega,by omega,by omega,hv4,λi hi=>Oe hi,λi hi=>?_⟩,by omega,hlen,hvok,λg hg f hf=>⟨(hrt g hg f hf).len,λt ht=>⟨(hrt g hg f hf).canon.len t ht,λe he=>?_,?_,?_⟩⟩⟩⟩
 .unfold bk;by_cases c:i<rank.toNat
  .rw[Oe c];omega
  .rw[Oc c];have hj:i-rank.toNat<vss.length:=by omega
   have e:(vss.map fG).getD (i-rank.toNat) 0=fG (vss.getD (i-rank.toNat) []):=by rw[NY,NY,List.getElem?_map,NZ hj];rfl
   have hmem:vss.getD (i-rank.toNat) []∈vss:=by rw[NY,NZ hj];exact NV hj
   rw[e];refine⟨(sA _ 0).1,wI _ 0 (by omega) λf hf t ht=>?_⟩;obtain⟨k,hk,e2⟩:=OC.1 hf;exact h3 _ hmem k t (by rw[NY,NZ hk,e2];exact ht)
 .have hb:=(hrt g hg f hf).bd t ht;obtain⟨k,hk,e2⟩:=OC.1 hf;have h5:=h3 g hg k t (by rw[NY,NZ hk,e2];exact ht);have h6:=Dl t.2 (λx hx=>(hb x hx).1) e he;have:=(hb e he).1;omega
 .have:=(hrt g hg f hf).canon.coef t ht;omega
 .have:=(hrt g hg f hf).canon.coef t ht;omega
variable{g:OG}
theorem LZ(h:cD p n o v rank vss=0)(hg:g∈vss):cD p n o v rank [g]=0:=by
 unfold cD at h⊢;by_cases hr:bJ p n o v=0
 .rw[Oc (by simpa using hr)] at h⊢;unfold gU at h⊢;cases hb:cE rank 1 40
  .rw[Oe hb] at h;exact absurd h (by decide)
  .rw[Oc (by simp[hb])] at h;rw[Oc (by simp[hb])];by_cases hl:60<vss.length
   .rw[Oe hl] at h;exact absurd h (by decide)
   .rw[Oc hl] at h;rw[Oc (by simp)];have h1:=wZ h g hg;simp only[iu];rw[Oe h1]
 .rw[Oe (by simpa using hr)] at h;exact absurd h hr
theorem xe(h:cr p n o v rank vss=0)(hg:g∈vss):cr p n o v rank [g]=0:=by
 obtain⟨h1,h2,h3,h4⟩:=pV h;rw[rP (LZ h1 hg) (by simp;omega)];unfold lB;have:iq g=false:=by have:=List.any_eq_false.1 h4 g hg;simpa using this
 rw[List.any_cons,this];rfl
theorem lK{a b:OH}:cW p n o v rank a b=0↔cr p n o v rank a=0/\cr p n o v rank b=0:=by
 unfold cW;by_cases h:cr p n o v rank a=0
 .rw[Oc (by simpa using h)];exact⟨λk=>⟨h,k⟩,λk=>k.2⟩
 .rw[Oe h];exact⟨λk=>(h k).elim,λk=>(h k.1).elim⟩
theorem L0(h:Do p n o v rank n.toNat rank.toNat [g]):sN p o n.toNat rank.toNat g:=
 ⟨h.st.len g (by simp),h.st.vok g (by simp),h.st.tms g (by simp)⟩
def oy(p n rank:Int)(lss:OH)(T:OG->Bool):Prop:=∀g,T g=true↔lJ p n.toNat rank.toNat lss g
theorem sP(p n rank:Int)(lss:OH):∃T,oy p n rank lss T:=⟨λg=>@decide _ (Classical.propDecidable (lJ p n.toNat rank.toNat lss g)),λg=>by simp⟩
theorem Dp(p n o v rank:Int)(lv:OR)(lss:OH)(T:OG->Bool)(hT:oy p n rank lss T)(w:OQ)(hz:cr p n o v rank lss=0)(hl:fH w lv lss):Calls prog 20 #[aI p n o v,OW rank,lv] w λe w'=>∃md,e=.returned (OS md)/\LT w w'/\∀W2 gv g,cr p n o v rank [g]=0->LT w' W2->Vl W2 gv g->Calls prog 21 #[OS md,gv] W2 λe w2=>e=.returned (.bool (T g))/\LT W2 w2:=by
 have hk:=sO hz;have h:=Dj p o v n.toNat rank.toNat lv lss w hk.st hl;rw[<-hk.hn,<-hk.hr] at h;refine h.mono ?_;rintro e w' ⟨md,mb,ob,sv,ms,rows,rfl,hm,hb⟩;refine⟨md,rfl,hb,λW2 gv g hg hb2 hgv=>(LX p o v n.toNat rank.toNat lv gv lss g W2 md mb ob sv ms rows hk.st (hm.below hb2) hgv (L0 (sO hg))).mono ?_⟩;rintro e w2 ⟨b,rfl,hb3,hb4⟩;have e:b=T g:=by
  have h1:=hT g;cases b
  .cases hh:T g
   .rfl
   .exact absurd (hb3.2 (h1.1 hh)) (by simp)
  .exact(h1.2 (hb3.1 rfl)).symm
 rw[e];exact⟨rfl,hb4⟩
theorem xf(p n o v rank:Int)(gv lv:OR)(g:OG)(lss:OH)(T:OG->Bool)(hT:oy p n rank lss T)(w:OQ)(hg:Vl w gv g)(hl:fH w lv lss):Calls prog 8 #[aI p n o v,OW rank,gv,lv] w λe w'=>e=.returned (.tuple #[.bool (decide (cW p n o v rank lss [g]=0)&&T g),OW (cW p n o v rank lss [g])])/\LT w w':=by refine IV p n o v rank gv lv g lss _ w hg hl.wl (λhz W hb=>?_) (λhne=>by rw[NO hne];rfl);obtain⟨h1,h2⟩:=lK.1 hz;refine(Dp p n o v rank lv lss T hT W h1 (hl.below hb)).mono ?_;rintro e w' ⟨md,rfl,q1,q2⟩;refine⟨md,rfl,q1,?_⟩;rw[NP hz,Bool.true_and];exact q2 w' gv g h2 (NM _ _) ((hg.below hb).below q1)
theorem Dq(p n o v rank:Int)(lv xv:OR)(lss vss:OH)(T:OG->Bool)(hT:oy p n rank lss T)(w:OQ)(hl:fH w lv lss)(hv:Wl w xv vss)(h1:cr p n o v rank lss=0)(h2:cr p n o v rank vss=0):Calls prog 13 #[aI p n o v,OW rank,lv,xv] w λe w'=>e=.returned (.bool (vss.all T))/\LT w w':=by refine IU p n o v rank T lv xv lss vss w hl.wl hv (by have:=(pV h2).2.2.1;omega) λW hb=>?_;refine(Dp p n o v rank lv lss T hT W h1 (hl.below hb)).mono ?_;rintro e w' ⟨md,rfl,q1,q2⟩;exact⟨md,rfl,q1,λW2 gv g hg hb2 hgv=>q2 W2 gv g (xe h2 hg) hb2 hgv⟩
theorem Dr(p n o v rank:Int)(av bv:OR)(ass bss:OH)(Ta Tb:OG->Bool)(hTa:oy p n rank ass Ta)(hTb:oy p n rank bss Tb)(w:OQ)(ha:fH w av ass)(hb:fH w bv bss):Calls prog 5 #[aI p n o v,OW rank,av,bv] w λe w'=>∃S,e=.returned (.tuple #[.bool S,OW (cW p n o v rank ass bss)])/\(cW p n o v rank ass bss=0->S=(bss.all Ta&&ass.all Tb))/\(cW p n o v rank ass bss≠0->S=false)/\LT w w':=
 IW p n o v rank av bv ass bss _ _ w ha.wl hb.wl (λhz W h=>Dq p n o v rank av bv ass bss Ta hTa W (ha.below h) (hb.below h).wl (lK.1 hz).1 (lK.1 hz).2) (λhz W h=>Dq p n o v rank bv av bss ass Tb hTb W (hb.below h) (ha.below h).wl (lK.1 hz).2 (lK.1 hz).1)
theorem IZ(HBG:∀W,Calls prog 7 #[] W λe w'=>e=.returned (.bool true)/\LT W w')(p n o v rank:Int)(av bv:OR)(ass bss:OH)(w:OQ)(ha:fH w av ass)(hb:fH w bv bss):Calls prog 3 #[aI p n o v,OW rank,av,bv] w λe w'=>e=.returned (.bool true)/\LT w w':=by
 obtain⟨Ta,hTa⟩:=sP p n rank ass;obtain⟨Tb,hTb⟩:=sP p n rank bss;have HS:∀W,LT w W->_:=λW h=>Dr p n o v rank av bv ass bss Ta Tb hTa hTb W (ha.below h) (hb.below h);have HA:∀W,LT w W->_:=λW h=>Ds p n o v rank av ass W (ha.wl.below h);have HB:∀W,LT w W->_:=λW h=>Ds p n o v rank bv bss W (hb.wl.below h);have hwa:=ha.wl;have hwb:=hb.wl;obtain⟨aa,ac,rfl,_⟩:=ha.wl;obtain⟨ba,bc,rfl,_⟩:=hb.wl;by_cases h1:cr p n o v rank ass=0
 .have e1:cW p n o v rank ass bss=cr p n o v rank bss:=by unfold cW;rw[Oc (by simpa using h1)]
  by_cases h2:cr p n o v rank bss=0
  .have hz:cW p n o v rank ass bss=0:=lK.2 ⟨h1,h2⟩;refine IN p n o v rank aa ba ac bc ass bss Ta Tb w hwa hwb (pV h1).2.2.1 (pV h2).2.2.1 (λW h=>(HS W h).mono ?_) (λW h=>by have:=HA W h;rw[h1] at this;exact this) (λW h=>by have:=HB W h;rw[h2] at this;exact this) HBG (λW gv g hg h hgv=>?_) (λW gv g hg h hgv=>?_)
   .rintro e w' ⟨S,rfl,q1,_,q2⟩;rw[q1 hz,hz];exact⟨rfl,q2⟩
   .have h9:=xf p n o v rank gv _ g bss Tb hTb W hgv (hb.below h);have hz2:cW p n o v rank bss [g]=0:=lK.2 ⟨h2,xe h1 hg⟩;rw[hz2] at h9;simpa using h9
   .have h9:=xf p n o v rank gv _ g ass Ta hTa W hgv (ha.below h);have hz2:cW p n o v rank ass [g]=0:=lK.2 ⟨h1,xe h2 hg⟩;rw[hz2] at h9;simpa using h9
  .refine IQ p n o v rank (cr p n o v rank bss) (by simpa using h2) (by simpa using h2) (by simp) aa ba _ _ ac bc w (λW h=>(HS W h).mono ?_) (λW h=>by have:=HA W h;rw[h1] at this;exact this) (λW h=>HB W h) HBG;rintro e w' ⟨S,rfl,_,q1,q2⟩;rw[q1 (by rw[e1];exact h2),e1];exact⟨rfl,q2⟩
 .have e1:cW p n o v rank ass bss=cr p n o v rank ass:=by unfold cW;rw[Oe h1]
  refine IP p n o v rank (cr p n o v rank ass) (by simpa using h1) (by simpa using h1) (by simp) aa ba _ _ ac bc w (λW h=>(HS W h).mono ?_) (λW h=>HA W h) HBG;rintro e w' ⟨S,rfl,_,q1,q2⟩;rw[q1 (by rw[e1];exact h1),e1];exact⟨rfl,q2⟩
end Go.Proofs.YtjkalahhpobefaaGreat
namespace Go.Proofs.YtjkalahhpobefaaGreat
set_option linter.all false
open Go.Proofs.Tryz Go.RowKit Go.Sort
theorem L3:cr 7 2 1 1 1 l3=0:=by kernel_rfl
theorem oz:gE 7 1 2 1 l3:=(sO L3).st
theorem L5:cB 7 1 1 [[(3,[0,1])]] l3 1=g3:=by decide+kernel
theorem L7{rows:OJ}(ht:jD 2 1 l3 rows):jC 7 2 1 rows g3:=by
 have h:=C5 oz ht (cs:=[[(3,[0,1])]]) (λm b hb=>by
  have hb2:b=(3,[0,1]):=by
   rcases m with _|m
   .simpa using hb
   .simp at hb
  subst hb2;exact⟨rfl,λx hx=>by simp at hx;rcases hx with rfl|rfl<;>omega⟩)
 have h2:jC 7 2 1 rows (cB 7 1 1 [[(3,[0,1])]] l3 1):=h;rw[L5] at h2;exact h2
theorem L8{lv:OR}{w:OQ}{md mb ob:Nat}{sv:OR}{ms:OK}{rs:OJ}(hm:iT 7 1 1 2 1 lv l3 w md mb ob sv ms rs){fs acc:OI}(hp:fs.Perm (dH 1 1 2 g3 1))(h:mH 7 rs 2 1 1 ms (eB 1) fs acc):acc=[Y4]:=by
 have hx:ci 7 2 1 1:=oz.hx.acx;have hoff:∀{l:OI},(∀t∈l,eB 1 t=true)->∀t∈l,¬t.pl<1:=λh t ht hn=>by have:=h t ht;simp[eB,hn] at this
 rcases h with ⟨rows,rows2,h1,h2,h3⟩|⟨t,rows,acc0,h1,h2,h3,h4,h5⟩
 .exact LB hx hm.tr hp ((oX hx (by omega) (by omega) h1 h3).2 rfl) h1.av (hoff h2)
 .exfalso;have ht:t.pl<1:=by apply Oj;intro hn;simp[eB] at h4;omega
  exact CW hx hp (by omega) (by omega) h1 (hoff h2) ht hm.mss hm.gone hm.top h3 (L7 hm.tr)
theorem L9:sN 7 1 2 1 g3:=by
 have h:cr 7 2 1 1 1 [g3]=0:=by kernel_rfl
 have hk:=sO h;exact⟨hk.st.len g3 (by simp),hk.st.vok g3 (by simp),hk.st.tms g3 (by simp)⟩
theorem Ma(md mb g uc:Nat)(ua:Option Addr)(w:OQ)(c4:w.cell? (OV md 4)=some (OW 1))(c6:w.cell? (OV md 6)=some (OS mb))(m2:w.cell? (OV mb 2)=some (OU g 2 2))(g1:w.cell? (OV g 1)=some (.slice ua 0 uc)):Calls prog 74 #[OS md] w λe w'=>e=.returned (.slice none 0 0)/\LT w w':=by
 have hk4:∀P:bu w,P.w'.cell? (OV md 4)=some (OW 1):=λP=>af c4 P.h;have hk6:∀P:bu w,P.w'.cell? (OV md 6)=some (OS mb):=λP=>af c6 P.h;have hk2:∀P:bu w,P.w'.cell? (OV mb 2)=some (OU g 2 2):=λP=>af m2 P.h;have hne:Nonempty (bu w):=⟨⟨w,NM _ _⟩⟩;have HG:=ae g1;clear c4 c6 m2 g1;go_enter func74,ntmps74;go_upto_region 2 with fail;refine eT (by kernel_rfl) (by kernel_rfl) ?_;repeat (go_big_quiet_step (fail))
 refine wpQuiet_nil ?_;intro w8 hw';obtain⟨⟨w9,hb9⟩,rfl⟩:=hw';have HB9:=ae hb9;have g1:=af HG.o hb9;clear hb9 hne hk4 hk6 hk2;go_wp2_with fail;refine wp_loop_rounds 2 ?_;rw[rounds_succ];go_wp2_with fail;refine wp_loop_rounds 1 ?_;rw[rounds_succ];go_wp2_with fail;rw[rounds_succ];go_wp2_with fail;go_ret;exact⟨rfl,HB9.o⟩
def Y3:Ft:=⟨-288230307432235009,0,1,0,0,1,3⟩
def M6:Ft:=⟨0,0,0,0,0,0,6⟩
theorem Mb:[Y4].map (aJ 7 (M6.a*K0+M6.b*K1+M6.d*0) M6)=[Y3]:=by rfl
theorem Mc:di ((1:Nat):Int) [Y3]=[W3]:=by rfl
theorem Md(lv gv:OR)(w:OQ)(md mb ob bx:Nat)(sv:OR)(ms:OK)(rs:OJ)(P:OQ->Prop)(hm:iT 7 1 1 2 1 lv l3 w md mb ob sv ms rs)(hl:LV w lv [(1,[1,0])])(hg:Vl w gv g3)(HTL:OE (∀W ev,LT w W->Sl W ev [0,1]->Calls prog 39 #[OW 0,.agg #[OW 3,ev],OS bx] W λe w'=>e=.returned (.tuple #[])/\P w')):Calls prog 38 #[OS md,gv,.func (.func 39) #[] #[OS bx]] w λe w'=>e=.returned (.bool true)/\P w':=by
 have hmd:md<w.heap.size:=NX w _ hm.c0;obtain⟨w1,hw1⟩:∃w1,w1=w.alloc (.cells #[OS md] 50):=⟨_,rfl⟩;have HB1:OE (LT w w1):=by rw[hw1];exact ai
 have hs1:w1.heap.size=w.heap.size+1:=by rw[hw1];simp
 have c1:w1.cell? (OV w.heap.size 0)=some (OS md):=by rw[hw1];simp[go_sem]
 obtain⟨w2,hw2⟩:∃w2,w2=w1.alloc (.cells #[.bool true] 4):=⟨_,rfl⟩;have HB2:OE (LT w1 w2):=by rw[hw2];exact ai
 have hs2:w2.heap.size=w1.heap.size+1:=by rw[hw2];simp
 obtain⟨w3,hw3⟩:∃w3,w3=w2.alloc (.cells #[.slice none 0 0] 79):=⟨_,rfl⟩;have HB3:OE (LT w2 w3):=by rw[hw3];exact ai
 have hs3:w3.heap.size=w2.heap.size+1:=by rw[hw3];simp
 have HB13:OE (LT w1 w3):=Io HB2.o HB3.o;have HE3:OE (pp w1.heap.size w1 w2.heap.size w1.heap.size 1 w3 []):=by
  refine⟨HB13.o,⟨.slice none 0 0,⟨?_,World.ownsRow_nil _ _ _ _,gS.nil _ _⟩⟩,?_⟩
  .rw[hw3];exact⟨by simp,.inr ⟨w2.heap.size,1,_,rfl,HB2.o.size,heap_alloc_new w2 _,NL _,by decide,by simp,by simp⟩⟩
  .refine aF ?_ HB3.o;rw[hw2];exact⟨by simp,.inr ⟨w1.heap.size,1,_,rfl,NL _,heap_alloc_new w1 _,NL _,by decide,by simp,by simp⟩⟩
 have hm1:=hm.below HB1.o;have hgw3:=hg.below (Io HB1.o HB13.o);have HDV:=ae (Dk 71 #[OS w2.heap.size,OS w.heap.size,OS w1.heap.size] (vf func71 (by kernel_rfl)) 7 1 1 2 1 lv l3 w1.heap.size w1 rfl md mb ob sv ms rs hm1 oz.hx.acx (eB 1) (λk=>k=w2.heap.size\/k=w1.heap.size) (pp w1.heap.size w1 w2.heap.size w1.heap.size 1) (λsb=>Ip _ w1 rfl sb ob _ _ 1) (λsb W acc t tb h1 h2 h3 h4 h5 h6 h7 h8=>Iq _ w1 rfl sb ob _ _ w.heap.size md 1 (by omega) (by omega) c1 hm1.c4 W acc t tb h1 h2 h3 h4 h5 h6 h7 h8) gv g3 w3 HB13.o (λk e=>by rcases e with rfl|rfl<;>omega) HE3.o hgw3 L9);have HL3:OE (∀{fs acc:OI},fs.Perm (dH 1 1 2 g3 1)->mH 7 rs 2 1 1 ms (eB 1) fs acc->acc=[Y4]):=λh1 h2=>L8 hm h1 h2;have HMD:=ae hm1;have HLV:=ae (hl.below HB1.o);have HGV:=ae (hg.below HB1.o);have HW1:=ae (NN c1 (NN hmd (NN hs1 (NN hs2 hs3))));obtain⟨lvb,vb,pv,rfl,_⟩:=id hl;obtain⟨ga,gc,rfl,_⟩:=id hg;clear hm hl hg hm1 hgw3 c1 hmd hs1 hs2 hs3;go_enter func38,ntmps38;go_upto_region 1 with fail;rw[<-hw1];clear hw1;go_upto_region 2 with fail;rw[<-hw2];clear hw2;go_upto_region 3 with fail;rw[<-hw3];clear hw3;have c1:=af HW1.o.1 HB13.o;go_upto_region 4 with (go_at_call 45;refine HDV.o.mono ?_;rintro e w9 ⟨rfl,q1,fs,acc,q2,q3,q4⟩;have hacc:=HL3.o q2 q4;subst hacc;have HB9:=ae q1;have HE9:=ae q3;clear q1 q2 q3 q4);clear c1 HDV HL3 HE3;obtain⟨_,⟨v9,HEL⟩,HBI⟩:=HE9.o;have c0:w9.cell? (OV w1.heap.size 0)=some (.bool true):=NJ HBI 0 (by omega);have c1:w9.cell? (OV w.heap.size 0)=some (OS md):=af HW1.o.1 HB9.o;have HM9:=ae (HMD.o.below HB9.o);have c6:=HM9.o.c6;have m0:=HM9.o.m0;have HNE:OE (∀W,LT w9 W->Calls prog 72 #[OS ob,OY 1] W λe w'=>e=.returned (OY 6)/\w'=W):=λW hb=>by have h:=vD ob 7 _ _ _ sv 1 W (HM9.o.ord.below hb) (by omega) (by omega);exact h
 obtain⟨va,vc,hv9⟩:=ct HEL.row;subst hv9;have clb:w9.cell? (OV w2.heap.size 0)=some (.slice va 1 vc):=NJ HEL.box 0 (by omega);have HFL:OE (Fv w9 (.slice va 1 vc) [Y4]):=fT HEL.row;obtain⟨mp,hmp⟩:∃mp,mp=w.heap.size:=⟨_,rfl⟩;obtain⟨lb,hlb⟩:∃lb,lb=w2.heap.size:=⟨_,rfl⟩;obtain⟨w10,hw10⟩:∃w10,w10=w9.alloc (.cells #[OW 0,OX 0,OX 0,OX 0,OX 0,OY 0,OY 6] 88):=⟨_,rfl⟩;have HB10:OE (LT w9 w10):=by rw[hw10];exact ai
 have HN10:OE (cz w10 w9.heap.size 0 M6):=by rw[hw10];exact(show Bx w9.heap.size _ w9.heap.size M6 from dB (NL _) M6).at
 obtain⟨w11,hw11⟩:∃w11,w11=w10.alloc (.cells #[.slice ga 1 gc,.slice none 0 0] 110):=⟨_,rfl⟩;have HB11:OE (LT w10 w11):=by rw[hw11];exact ai
 have HO11:OE (w11.ownsRow w10.heap.size 110 2 (OU w10.heap.size 1 1) 1 [.slice ga 1 gc,.slice none 0 0]):=by rw[hw11];exact⟨by simp,.inr ⟨w10.heap.size,1,_,rfl,NL _,heap_alloc_new w10 _,NL _,by decide,by simp,by simp⟩⟩
 go_upto_region 7 with (go_at_call 72;refine(HNE.o _ (NM _ _)).mono ?_;rintro e w9 ⟨rfl,rfl⟩);rw[<-hw10];clear hw10;go_upto_region 8 with fail;rw[<-hw11];clear hw11;have HM10:=ae (HM9.o.below HB10.o);have KEEP10:OE (∀W,LT w10 W->(W.cell? (OV w.heap.size 0)=some (OS md)/\W.cell? (OV md 0)=some (OW 7)/\W.cell? (OV md 1)=some (OW 2)/\W.cell? (OV md 2)=some (OW 1)/\W.cell? (OV md 3)=some (OW 1)/\W.cell? (OV md 4)=some (OW 1)/\W.cell? (OV md 5)=some (OU lvb 1 1)/\W.cell? (OV md 6)=some (OS mb)/\W.cell? (OV mb 0)=some (OS ob)/\W.cell? (OV w9.heap.size 0)=some (OW 0)/\W.cell? (OV w9.heap.size 1)=some (OX 0)/\W.cell? (OV w9.heap.size 2)=some (OX 0)/\W.cell? (OV w9.heap.size 3)=some (OX 0)/\W.cell? (OV w9.heap.size 4)=some (OX 0)/\W.cell? (OV w9.heap.size 5)=some (OY 0)/\W.cell? (OV w9.heap.size 6)=some (OY 6)/\W.cell? (OV w2.heap.size 0)=some (.slice va 1 vc))):=λW hb=>by obtain⟨n0,n1,n2,n3,n4,n5,n6⟩:=HN10.o;simp only[N4,M6] at n0 n1 n2 n3 n4 n5 n6;have hm:=HM10.o;exact⟨af (af c1 HB10.o) hb,af hm.c0 hb,af hm.c1 hb,af hm.c2 hb,af hm.c3 hb,af hm.c4 hb,af hm.c5 hb,af hm.c6 hb,af hm.m0 hb,af n0 hb,af n1 hb,af n2 hb,af n3 hb,af n4 hb,af n5 hb,af n6 hb,af (af clb HB10.o) hb⟩
 have KEEP:OE (∀W,LT w11 W->(W.cell? (OV w.heap.size 0)=some (OS md)/\W.cell? (OV md 0)=some (OW 7)/\W.cell? (OV md 1)=some (OW 2)/\W.cell? (OV md 2)=some (OW 1)/\W.cell? (OV md 3)=some (OW 1)/\W.cell? (OV md 4)=some (OW 1)/\W.cell? (OV md 5)=some (OU lvb 1 1)/\W.cell? (OV md 6)=some (OS mb)/\W.cell? (OV mb 0)=some (OS ob)/\W.cell? (OV w9.heap.size 0)=some (OW 0)/\W.cell? (OV w9.heap.size 1)=some (OX 0)/\W.cell? (OV w9.heap.size 2)=some (OX 0)/\W.cell? (OV w9.heap.size 3)=some (OX 0)/\W.cell? (OV w9.heap.size 4)=some (OX 0)/\W.cell? (OV w9.heap.size 5)=some (OY 0)/\W.cell? (OV w9.heap.size 6)=some (OY 6)/\W.cell? (OV w2.heap.size 0)=some (.slice va 1 vc))):=λW hb=>KEEP10.o W (Io HB11.o hb);have H10:OE (∀W,LT w11 W->LT w10 W):=λW hb=>Io HB11.o hb;have H1:OE (∀W,LT w11 W->LT w9 W):=λW hb=>Io HB10.o (H10.o W hb);have HAT:OE (aZ ms 1=[]):=by show _=_;unfold aZ;rw[List.filter_eq_nil_iff];intro x hx;have:=LC oz.hx.acx HM10.o.tr HM10.o.mss x hx;simp;omega
 have HNO:OE (∀W,LT w11 W->Calls prog 74 #[OS md] W λe w'=>e=.returned (.slice none 0 0)/\LT w11 w'):=λW hb=>by have hm:=HM9.o.below (H1.o W hb);obtain⟨g,h1,h2⟩:=hm.rw2;obtain⟨u,h3,ua,uc,h4,_⟩:=h2 1 (by show 1<2;omega);rw[HAT.o] at h4;subst h4;refine(Ma md mb g uc ua W hm.c4 hm.c6 h1 h3).mono ?_;rintro e w' ⟨rfl,q⟩;exact⟨rfl,Io hb q⟩
 have HLW:OE (∀W,LT w11 W->LV W (OU lvb 1 1) [(1,[1,0])]):=λW hb=>HLV.o.below (Io HB9.o (H1.o W hb));have HNS:OE (∀W,LT w11 W->Calls prog 73 #[.agg #[OW 7,OW 2,OW 1,OW 1],OW 1,OU lvb 1 1,.slice none 0 0] W λe w'=>∃sb ob sv,e=.returned (OS sb)/\iL w' sb ob sv (OU lvb 1 1)/\LT w11 w'):=λW hb=>by refine(GG _ W (HLW.o W hb)).mono ?_;rintro e w' ⟨sb,ob,sv,rfl,q1,q2⟩;exact⟨sb,ob,sv,rfl,q1,Io hb q2⟩
 have HSC:OE (∀W,LT w11 W->Calls prog 77 #[OS ob,.agg #[OW 0,OX 0,OX 0,OX 0,OX 0,OY 0,OY 6],.slice va 1 vc] W λe w'=>∃u,e=.returned u/\Fv w' u [Y3]/\LT W w'):=λW hb=>by have hob:=(HM9.o.below (H1.o W hb)).ord;rw[nN.1,nN.2.1,nN.2.2] at hob;have h:=nM ob 7 K0 K1 0 sv (.slice va 1 vc) M6 [Y4] W hob (by omega) AA AB AC ⟨by simp[M6],by simp[M6],by simp[M6],by simp[M6],by simp[M6],by simp[M6],by simp[M6]⟩ (λt ht=>by rw[N2] at ht;subst ht;exact⟨by simp[Y4],by simp[Y4],by simp[Y4],by simp[Y4],by simp[Y4],by simp[Y4],by simp[Y4]⟩) (by simp) (HFL.o.below (H1.o W hb));rw[Mb] at h;exact h
 have HWY:OE (∀W u,Fv W u [Y3]->Calls prog 76 #[u,OW 1] W λe w'=>∃u',e=.returned u'/\Fv w' u' [W3]/\LT W w'):=λW u h=>by refine(CQ u [Y3] 1 W h (λt ht=>by rw[N2] at ht;subst ht;simp[Y3]) (by omega) (by simp)).mono ?_;rintro e w' ⟨u',rfl,q1,q2⟩;rw[Mc] at q1;exact⟨u',rfl,fT q1,q2⟩
 have HTE:OE (∀(W:OQ) sb ob9 sv9 u,LT w11 W->iL W sb ob9 sv9 (OU lvb 1 1)->Fv W u [W3]->Calls prog 75 #[OS sb,OU w10.heap.size 1 1,OU W.heap.size 1 1] (W.alloc (.cells #[u] 79)) λe w'=>e=.returned (.tuple #[])/\∃g1,w'.ownsRow w10.heap.size 110 2 (OU w10.heap.size 1 1) 1 [.slice ga 1 gc,OU g1 1 1]/\Vl w' (OU g1 1 1) [[(3,[0,1])]]/\LT w10 w'):=λW sb ob9 sv9 u hb h1 h2=>by
  have hba:LT w11 (W.alloc (.cells #[u] 79)):=fX hb;refine(GP w10.heap.size sb ob9 w10.heap.size 1 W.heap.size 1 sv9 _ (.slice ga 1 gc) u _ (h1.below ai) (aF HO11.o hba) (H10.o _ hba).size ?_ (by simp[go_sem]) (h2.below ai)).mono ?_
  .have hx:=HGV.o.below (Io HB9.o (H1.o _ hba));exact hx
  .rintro e w' ⟨rfl,g1,q1,q2,_,q3⟩;exact⟨rfl,g1,q1,q2,(H10.o _ hba).trans q3⟩
 have HB11D:OE (LT w11 w11.drew):=(NM _ _).drew;have HLAST:OE (∀W ev,LT w10 W->Sl W ev [0,1]->Calls prog 39 #[OW 0,.agg #[OW 3,ev],OS bx] W λe w'=>e=.returned (.tuple #[])/\P w'):=λW ev hb hs=>HTL.o W ev (Io HB1.o (Io HB9.o (Io HB10.o hb))) hs;clear HEL HBI c0 c1 c6 m0 clb HNE HM9 HM10 HN10 HMD HLV HGV HFL HE9 HTL HLW HAT H1;refine wp_region_held_drew (S:=λW=>W.cell? (OV w.heap.size 0)=some (OS md)/\W.cell? (OV md 0)=some (OW 7)/\W.cell? (OV md 1)=some (OW 2)/\W.cell? (OV md 2)=some (OW 1)/\W.cell? (OV md 3)=some (OW 1)/\W.cell? (OV md 4)=some (OW 1)/\W.cell? (OV md 5)=some (OU lvb 1 1)/\W.cell? (OV md 6)=some (OS mb)/\W.cell? (OV mb 0)=some (OS ob)/\W.cell? (OV w9.heap.size 0)=some (OW 0)/\W.cell? (OV w9.heap.size 1)=some (OX 0)/\W.cell? (OV w9.heap.size 2)=some (OX 0)/\W.cell? (OV w9.heap.size 3)=some (OX 0)/\W.cell? (OV w9.heap.size 4)=some (OX 0)/\W.cell? (OV w9.heap.size 5)=some (OY 0)/\W.cell? (OV w9.heap.size 6)=some (OY 6)/\W.cell? (OV w2.heap.size 0)=some (.slice va 1 vc)) (by kernel_rfl) (KEEP.o _ HB11D.o) (λhHeld=>?_);refine bO 0 33 rfl rfl hHeld (Ox ⟨rfl,λw ⟨s1,s2,s3,s4,s5,s6,s7,s8,s9,s10,s11,s12,s13,s14,s15,s16,s17⟩=>by go_simp<;>with_reducible rfl⟩) ?_;refine bO 1 34 rfl rfl hHeld (Ox ⟨rfl,λw ⟨s1,s2,s3,s4,s5,s6,s7,s8,s9,s10,s11,s12,s13,s14,s15,s16,s17⟩=>by go_simp<;>with_reducible rfl⟩) ?_;refine bO 2 35 rfl rfl hHeld (Ox ⟨rfl,λw ⟨s1,s2,s3,s4,s5,s6,s7,s8,s9,s10,s11,s12,s13,s14,s15,s16,s17⟩=>by go_simp<;>with_reducible rfl⟩) ?_;refine bO 3 36 rfl rfl hHeld (Ox ⟨rfl,λw ⟨s1,s2,s3,s4,s5,s6,s7,s8,s9,s10,s11,s12,s13,s14,s15,s16,s17⟩=>by go_simp<;>with_reducible rfl⟩) ?_;refine bO 4 37 rfl rfl hHeld (Ox ⟨rfl,λw ⟨s1,s2,s3,s4,s5,s6,s7,s8,s9,s10,s11,s12,s13,s14,s15,s16,s17⟩=>by go_simp<;>with_reducible rfl⟩) ?_;refine bO 5 38 rfl rfl hHeld (Ox ⟨rfl,λw ⟨s1,s2,s3,s4,s5,s6,s7,s8,s9,s10,s11,s12,s13,s14,s15,s16,s17⟩=>by go_simp<;>with_reducible rfl⟩) ?_;refine bO 6 39 rfl rfl hHeld (Ox ⟨rfl,λw ⟨s1,s2,s3,s4,s5,s6,s7,s8,s9,s10,s11,s12,s13,s14,s15,s16,s17⟩=>by go_simp<;>with_reducible rfl⟩) ?_;refine bO 7 40 rfl rfl hHeld (Ox ⟨rfl,λw ⟨s1,s2,s3,s4,s5,s6,s7,s8,s9,s10,s11,s12,s13,s14,s15,s16,s17⟩=>by go_simp<;>with_reducible rfl⟩) ?_;refine bO 8 41 rfl rfl hHeld (Ox ⟨rfl,λw ⟨s1,s2,s3,s4,s5,s6,s7,s8,s9,s10,s11,s12,s13,s14,s15,s16,s17⟩=>by go_simp<;>with_reducible rfl⟩) ?_;refine bO 9 42 rfl rfl hHeld (Ox ⟨rfl,λw ⟨s1,s2,s3,s4,s5,s6,s7,s8,s9,s10,s11,s12,s13,s14,s15,s16,s17⟩=>by go_simp<;>with_reducible rfl⟩) ?_;refine bO 10 43 rfl rfl hHeld (Ox ⟨rfl,λw ⟨s1,s2,s3,s4,s5,s6,s7,s8,s9,s10,s11,s12,s13,s14,s15,s16,s17⟩=>by go_simp<;>with_reducible rfl⟩) ?_;refine bO 11 44 rfl rfl hHeld (Ox ⟨rfl,λw ⟨s1,s2,s3,s4,s5,s6,s7,s8,s9,s10,s11,s12,s13,s14,s15,s16,s17⟩=>by go_simp<;>with_reducible rfl⟩) ?_;refine bO 12 45 rfl rfl hHeld (Ox ⟨rfl,λw ⟨s1,s2,s3,s4,s5,s6,s7,s8,s9,s10,s11,s12,s13,s14,s15,s16,s17⟩=>by go_simp<;>with_reducible rfl⟩) ?_;refine bO 15 48 rfl rfl hHeld (Ox ⟨rfl,λw ⟨s1,s2,s3,s4,s5,s6,s7,s8,s9,s10,s11,s12,s13,s14,s15,s16,s17⟩=>by go_simp<;>with_reducible rfl⟩) ?_;refine bO 16 49 rfl rfl hHeld (Ox ⟨rfl,λw ⟨s1,s2,s3,s4,s5,s6,s7,s8,s9,s10,s11,s12,s13,s14,s15,s16,s17⟩=>by go_simp<;>with_reducible rfl⟩) ?_;refine bO 17 50 rfl rfl hHeld (Ox ⟨rfl,λw ⟨s1,s2,s3,s4,s5,s6,s7,s8,s9,s10,s11,s12,s13,s14,s15,s16,s17⟩=>by go_simp<;>with_reducible rfl⟩) ?_;refine bO 18 51 rfl rfl hHeld (Ox ⟨rfl,λw ⟨s1,s2,s3,s4,s5,s6,s7,s8,s9,s10,s11,s12,s13,s14,s15,s16,s17⟩=>by go_simp<;>with_reducible rfl⟩) ?_;refine bO 19 52 rfl rfl hHeld (Ox ⟨rfl,λw ⟨s1,s2,s3,s4,s5,s6,s7,s8,s9,s10,s11,s12,s13,s14,s15,s16,s17⟩=>by go_simp<;>with_reducible rfl⟩) ?_;refine bO 20 53 rfl rfl hHeld (Ox ⟨rfl,λw ⟨s1,s2,s3,s4,s5,s6,s7,s8,s9,s10,s11,s12,s13,s14,s15,s16,s17⟩=>by go_simp<;>with_reducible rfl⟩) ?_;refine bO 21 54 rfl rfl hHeld (Ox ⟨rfl,λw ⟨s1,s2,s3,s4,s5,s6,s7,s8,s9,s10,s11,s12,s13,s14,s15,s16,s17⟩=>by go_simp<;>with_reducible rfl⟩) ?_;refine bO 22 55 rfl rfl hHeld (Ox ⟨rfl,λw ⟨s1,s2,s3,s4,s5,s6,s7,s8,s9,s10,s11,s12,s13,s14,s15,s16,s17⟩=>by go_simp<;>with_reducible rfl⟩) ?_;refine bO 23 56 rfl rfl hHeld (Ox ⟨rfl,λw ⟨s1,s2,s3,s4,s5,s6,s7,s8,s9,s10,s11,s12,s13,s14,s15,s16,s17⟩=>by go_simp<;>with_reducible rfl⟩) ?_;refine bO 24 57 rfl rfl hHeld (Ox ⟨rfl,λw ⟨s1,s2,s3,s4,s5,s6,s7,s8,s9,s10,s11,s12,s13,s14,s15,s16,s17⟩=>by go_simp<;>with_reducible rfl⟩) ?_;refine bO 26 59 rfl rfl hHeld (Ox ⟨rfl,λw ⟨s1,s2,s3,s4,s5,s6,s7,s8,s9,s10,s11,s12,s13,s14,s15,s16,s17⟩=>by go_simp<;>with_reducible rfl⟩) ?_;refine bO 27 60 rfl rfl hHeld (Ox ⟨rfl,λw ⟨s1,s2,s3,s4,s5,s6,s7,s8,s9,s10,s11,s12,s13,s14,s15,s16,s17⟩=>by go_simp<;>with_reducible rfl⟩) ?_;refine bO 28 61 rfl rfl hHeld (Ox ⟨rfl,λw ⟨s1,s2,s3,s4,s5,s6,s7,s8,s9,s10,s11,s12,s13,s14,s15,s16,s17⟩=>by go_simp<;>with_reducible rfl⟩) ?_;refine bO 29 62 rfl rfl hHeld (Ox ⟨rfl,λw ⟨s1,s2,s3,s4,s5,s6,s7,s8,s9,s10,s11,s12,s13,s14,s15,s16,s17⟩=>by go_simp<;>with_reducible rfl⟩) ?_;try simp only[Act.put,List.setIfInBounds_toArray,List.set_cons_zero,List.set_cons_succ]
 refine wpAnyH_ready (rs:=[13]) (by kernel_rfl) (by simp) ?_;refine AllReadyH.cons rfl (λK hK=>?_) AllReadyH.nil;go_simp;refine(HNO.o _ HB11D.o).mono ?_;rintro e w12 ⟨rfl,q⟩;have HB12:=ae q;clear q;dsimp only;refine hK.out _ _ (KEEP.o w12 HB12.o) (λhHeld=>?_);clear hK K;try simp only[Act.put,List.setIfInBounds_toArray,List.set_cons_zero,List.set_cons_succ]
 try simp only[Act.put,List.setIfInBounds_toArray,List.set_cons_zero,List.set_cons_succ]
 refine wpAnyH_ready (rs:=[14]) (by kernel_rfl) (by simp) ?_;refine AllReadyH.cons rfl (λK hK=>?_) AllReadyH.nil;go_simp;refine(HNS.o _ HB12.o).mono ?_;rintro e w13 ⟨sb,ob9,sv9,rfl,q1,q2⟩;have HS13:=ae q1;have HB13:=ae q2;clear q1 q2;dsimp only;refine hK.out _ _ (KEEP.o w13 HB13.o) (λhHeld=>?_);clear hK K;try simp only[Act.put,List.setIfInBounds_toArray,List.set_cons_zero,List.set_cons_succ]
 try simp only[Act.put,List.setIfInBounds_toArray,List.set_cons_zero,List.set_cons_succ]
 refine wpAnyH_ready (rs:=[25]) (by kernel_rfl) (by simp) ?_;refine AllReadyH.cons rfl (λK hK=>?_) AllReadyH.nil;go_simp;refine(HSC.o _ HB13.o).mono ?_;rintro e w14 ⟨u14,rfl,q1,q2⟩;have HF14:=ae q1;have HB14:=ae q2;obtain⟨ua14,uc14,hu14,_⟩:=q1;subst hu14;have HS14:=ae (HS13.o.below q2);clear q2;dsimp only;refine hK.out _ _ (KEEP.o w14 (Io HB13.o HB14.o)) (λhHeld=>?_);clear hK K;try simp only[Act.put,List.setIfInBounds_toArray,List.set_cons_zero,List.set_cons_succ]
 try simp only[Act.put,List.setIfInBounds_toArray,List.set_cons_zero,List.set_cons_succ]
 refine wpAnyH_ready (rs:=[30]) (by kernel_rfl) (by simp) ?_;refine AllReadyH.cons rfl (λK hK=>?_) AllReadyH.nil;go_simp;refine(HWY.o _ _ HF14.o).mono ?_;rintro e w15 ⟨u15,rfl,q1,q2⟩;have HF15:=ae q1;have HB15:=ae (Io HB14.o q2);obtain⟨ua15,uc15,hu15,_⟩:=q1;subst hu15;have HS15:=ae (HS14.o.below q2);have HB1015:=ae (Io HB13.o HB15.o);clear q2;dsimp only;refine hK.out _ _ (KEEP.o w15 HB1015.o) (λhHeld=>?_);clear hK K;try simp only[Act.put,List.setIfInBounds_toArray,List.set_cons_zero,List.set_cons_succ]
 try simp only[Act.put,List.setIfInBounds_toArray,List.set_cons_zero,List.set_cons_succ]
 refine wpAnyH_ready (rs:=[31]) (by kernel_rfl) (by simp) ?_;refine AllReadyH.cons rfl (λK hK=>?_) AllReadyH.nil;go_simp;refine hK.out _ _ (KEEP.o _ (fX HB1015.o)) (λhHeld=>?_);clear hK K;try simp only[Act.put,List.setIfInBounds_toArray,List.set_cons_zero,List.set_cons_succ]
 try simp only[Act.put,List.setIfInBounds_toArray,List.set_cons_zero,List.set_cons_succ]
 refine wpAnyH_ready (rs:=[32]) (by kernel_rfl) (by simp) ?_;refine AllReadyH.cons rfl (λK hK=>?_) AllReadyH.nil;go_simp;refine(HTE.o w15 sb ob9 sv9 _ HB1015.o HS15.o HF15.o).mono ?_;rintro e w16 ⟨rfl,g1,q1,q2,q3⟩;have HO16:=ae q1;have HV16:=ae q2;have HB16:=ae q3;clear q1 q2 q3;dsimp only;refine hK.out _ _ (KEEP10.o w16 HB16.o) (λhHeld=>?_);clear hK K;try simp only[Act.put,List.setIfInBounds_toArray,List.set_cons_zero,List.set_cons_succ]
 try simp only[Act.put,List.setIfInBounds_toArray,List.set_cons_zero,List.set_cons_succ]
 refine wpAnyH_done (by kernel_rfl) ?_ _;have e16:w16.cell? (OV w10.heap.size 1)=some (OU g1 1 1):=NJ HO16.o 1 (by omega);obtain⟨fa,fc,hfa,hfp⟩:=HV16.o;obtain⟨fb,foff,hfb,flt,fat⟩:=hfp (by simp);simp only[N8,List.length_singleton,N7,true_and,and_true] at hfa;subst hfb;simp only[N7,Addr.mk.injEq,and_true] at hfa;obtain⟨⟨rfl,rfl⟩,rfl⟩:=hfa;obtain⟨pv16,p0,pc16,pcc,hpv,_,hpp⟩:=fat 0 (by simp);obtain⟨pb,poff,rfl,plt,pat⟩:=hpp (by simp);obtain⟨t0,ev,t1,hs⟩:=pat 0 (by simp);subst hpv;have HEV:=ae hs;simp at p0 t0 t1;obtain⟨ea,ec,rfl,_⟩:=id hs;clear hs pat hpp fat hfp;go_wp2_with fail;refine wp_loop_rounds 2 ?_;rw[rounds_succ];go_wp2_with fail;refine wp_loop_rounds 2 ?_;rw[rounds_succ];obtain⟨w17,hw17⟩:∃w17,w17=w16.alloc (.cells #[OW 3,.slice ea 2 ec] 47):=⟨_,rfl⟩;have HB17:OE (LT w16 w17):=by rw[hw17];exact ai
 have y0:w17.cell? (OV w16.heap.size 0)=some (OW 3):=by rw[hw17];simp[go_sem]
 have y1:w17.cell? (OV w16.heap.size 1)=some (.slice ea 2 ec):=by rw[hw17];simp[go_sem]
 have HLL:=ae (HLAST.o w17 _ (Io HB16.o HB17.o) (HEV.o.below HB17.o));go_upto_region 15 with fail;rw[<-hw17];clear hw17;go_wp2_with (go_at_call 39;refine HLL.o.mono ?_;rintro e w18 ⟨rfl,q1⟩;have HPP:=ae q1;clear q1);rw[rounds_succ];go_wp2_with fail;rw[rounds_succ];go_wp2_with fail;go_ret;exact⟨rfl,HPP.o⟩
end Go.Proofs.YtjkalahhpobefaaGreat
namespace Go.Proofs.YtjkalahhpobefaaGreat
set_option linter.all false
open Go.Proofs.Tryz Go.RowKit
theorem sQ{w:OQ}{lv:OR}{f:Lt}(h:LV w lv f):fH w lv [[f]]:=by
 refine⟨h.wl,λb off n c i va vn vc e hi hc=>?_⟩;obtain⟨lb,vb,pv,rfl,h2,_,_⟩:=h;simp only[N8,N7,Addr.mk.injEq,and_true] at e;obtain⟨⟨rfl,rfl⟩,_,_⟩:=e;have e0:i=0:=by simp at hi;omega
 subst e0;rw[Nat.add_zero,h2] at hc;simp only[N7,N8] at hc;omega
theorem Me:cW 7 2 1 1 1 l3 [g3]=0:=by kernel_rfl
theorem Mf(lv gv:OR)(w:OQ)(hl:LV w lv [(1,[1,0])])(hg:Vl w gv g3):Calls prog 16 #[aI 7 2 1 1,OW 1,gv,lv] w λe w'=>∃cg pg cap,e=.returned (.tuple #[OU cg 1 1,.bool true,OW 0])/\w'.cell? (OV cg 0)=some (OU pg 1 cap)/\w'.cell? (OV pg 0)=some (OW 3)/\LT w w':=by
 have hmk2:∀W:OQ,(Instr.makeSlice 31 (OW 1) (OW 1)).run prog W=.ok (OU W.heap.size 1 1) (W.alloc (.cells #[.slice none 0 0] 40)):=λW=>by have h:=run_make_row' (P:=prog) 31 40 (.slice none 0 0) 24 underlying31 Tryz.infoPlB rfl .i64 .i64 1 (by omega) (by omega) W;rw[Dt] at h;exact h
 obtain⟨w1,hw1⟩:∃w1,w1=w.alloc (.cells #[OW 7,OW 2,OW 1,OW 1] 23):=⟨_,rfl⟩;have HB1:OE (LT w w1):=by rw[hw1];exact bE
 obtain⟨bx0,bx1,bx2,bx3⟩:w1.cell? (OV w.heap.size 0)=some (OW 7)/\w1.cell? (OV w.heap.size 1)=some (OW 2)/\w1.cell? (OV w.heap.size 2)=some (OW 1)/\w1.cell? (OV w.heap.size 3)=some (OW 1):=by rw[hw1];exact AI w 7 2 1 1 _
 obtain⟨w2,hw2⟩:∃w2,w2=(w1.alloc (.cells #[gv] 32)).alloc (.cells #[lv,OU w1.heap.size 1 1] 24):=⟨_,rfl⟩;have HB2:OE (LT w1 w2):=by rw[hw2];exact((NM _ _).alloc (NL _) _).alloc (by simp) _
 have HB02:OE (LT w w2):=Io HB1.o HB2.o;have HCK:OE (Calls prog 12 #[aI 7 2 1 1,OW 1,OU (w1.heap.size+1) 2 2] w2 λe w'=>e=.returned (OW 0)/\LT w2 w'):=by have h:=vR 7 2 1 1 1 (w1.heap.size+1) 2 lv (OU w1.heap.size 1 1) l3 [g3] w2 (hl.wl.below HB02.o) (BE (hg.below HB02.o) (by rw[hw2];simp;omega) (by rw[hw2];simp[go_sem])) (by rw[hw2];simp[go_sem]) (by rw[hw2];simp[go_sem]);rw[Me] at h;exact h
 have HNW:OE (∀W,LT w W->Calls prog 20 #[aI 7 2 1 1,OW 1,lv] W λe w'=>∃md mb ob sv ms rs,e=.returned (OS md)/\iT 7 1 1 2 1 lv l3 w' md mb ob sv ms rs/\LT W w'):=λW hb=>Dj 7 1 1 2 1 lv l3 W oz (sQ (hl.below hb));have HL:=ae hl;have HG:=ae hg;obtain⟨lb,vb,pv,rfl,_⟩:=hl;obtain⟨ga,gc,hgv,_⟩:=hg;have hgv2:gv=.slice ga 1 gc:=hgv;clear hgv;subst hgv2;unfold aI at HCK HNW⊢;go_enter func16,ntmps16;go_upto_region 1 with fail;rw[<-hw1];clear hw1;go_upto_region 4 with (rw[<-hw2];go_at_call 12;refine HCK.o.mono ?_;rintro e w3 ⟨rfl,q1⟩;have HB3:=ae (Io HB02.o q1);have hk:=Io HB2.o q1;have bx0:=af bx0 hk;have bx1:=af bx1 hk;have bx2:=af bx2 hk;have bx3:=af bx3 hk;clear q1 hk hw2);obtain⟨w5,hw5⟩:∃w5,w5=(w3.alloc (.cells #[.slice none 0 0] 40)).alloc (.cells #[OU w3.heap.size 1 1] 31):=⟨_,rfl⟩;have HB5:OE (LT w3 w5):=by rw[hw5];exact((NM _ _).alloc (NL _) _).alloc (by simp) _
 have HB05:OE (LT w w5):=Io HB3.o HB5.o;have HC5:OE (w5.cell? (OV (w3.heap.size+1) 0)=some (OU w3.heap.size 1 1)):=by show _=_;rw[hw5];simp[go_sem]
 have HM5:OE (w5.ownsRow w.heap.size 40 1 (OU w3.heap.size 1 1) 1 [.slice none 0 0]):=by rw[hw5];refine aF ?_ ai;exact⟨by simp,.inr ⟨w3.heap.size,1,_,rfl,HB3.o.size,heap_alloc_new w3 _,NL _,by decide,by simp,by simp⟩⟩
 go_upto_region 5 with fail;rw[<-hw5];clear hw5;have bx0:=af bx0 HB5.o;have bx1:=af bx1 HB5.o;have bx2:=af bx2 HB5.o;have bx3:=af bx3 HB5.o;have HN5:=ae (HNW.o w5 HB05.o);have HMK:OE (∀W (md mb ob:Nat) sv ms rs,LT w5 W->iT 7 1 1 2 1 (OU lb 1 1) l3 W md mb ob sv ms rs->Calls prog 38 #[OS md,.slice ga 1 gc,.func (.func 39) #[] #[OS (w3.heap.size+1)]] W λe w'=>e=.returned (.bool true)/\∃pg cap,w'.cell? (OV (w3.heap.size+1) 0)=some (OU w3.heap.size 1 1)/\w'.cell? (OV w3.heap.size 0)=some (OU pg 1 cap)/\w'.cell? (OV pg 0)=some (OW 3)/\LT w w'):=λW md mb ob sv ms rs hb hm=>by
  have hwW:=Io HB05.o hb;refine Md _ (.slice ga 1 gc) W md mb ob (w3.heap.size+1) sv ms rs _ hm (HL.o.below hwW) (HG.o.below hwW) (ae λW2 ev hb2 hs=>?_);have h52:=Io hb hb2;refine(Mg w.heap.size (w3.heap.size+1) w3.heap.size ev W2 ?_ (af HC5.o h52) (aF HM5.o h52) (by omega) hs).mono ?_
  .have h1:=hwW.size;have h2:=hb2.size;omega
  .rintro e w' ⟨rfl,pg,cap,q1,q2,q3,q4⟩;exact⟨rfl,pg,cap,q1,q2,q3,(Io hwW hb2).trans q4⟩
 go_wp2_with (first|(go_at_call 20;refine HN5.o.mono ?_;rintro e w6 ⟨md,mb,ob,sv,ms,rs,rfl,q1,q2⟩;have HK6:=ae (HMK.o w6 md mb ob sv ms rs q2 q1);clear q1 q2)|(go_at_call 38;refine HK6.o.mono ?_;rintro e w7 ⟨rfl,pg,cap,q1,q2,q3,q4⟩;have HP7:=ae (NN q2 (NN q3 q4));clear q2 q3 q4));go_ret3;exact⟨_,pg,cap,rfl,HP7.o.1,HP7.o.2.1,HP7.o.2.2⟩
theorem Mh(l:OI):∃fs:OI,fs.Perm l/\iP fs:=by refine⟨l.mergeSort λa b=>decide (b.k<=a.k),List.mergeSort_perm _ _,?_⟩;have h:=List.pairwise_mergeSort (le:=λa b:Ft=>decide (b.k<=a.k)) (λa b c h1 h2=>by simp only[decide_eq_true_eq] at*;omega) (λa b=>by simp only[Bool.or_eq_true,decide_eq_true_eq];omega) l;unfold iP;simpa using h
theorem Mi(N R:Nat)(lss:OH):∃rows,jD N R lss rows:=by have h:∀i:Nat,∃fs:OI,fs.Perm (eV (ao 1 N N 0) (ao 1 N N 1) (ao 1 N N 2) (dI R lss.length) (lss.getD i []) R)/\iP fs:=λi=>Mh _;refine⟨(List.range lss.length).map λi=>Classical.choose (h i)++[dK ((dI R lss.length).getD (R+i) 0) ((R+i:Nat):Int)],by simp,λi hi=>⟨Classical.choose (h i),?_,(Classical.choose_spec (h i)).1,(Classical.choose_spec (h i)).2⟩⟩;rw[NY,List.getElem?_map,List.getElem?_range hi];rfl
theorem Mj:¬lJ 7 2 1 l3 [[(1,[0,1])]]:=fun⟨rows,ht,Y,hY,hc⟩=>by
 rw[mi ht] at hY;obtain⟨rp,h1,h2⟩:=hY;obtain⟨a,ha⟩:=h2 (Gb.dl (0,0,1,0,0));obtain⟨b,hb⟩:=hc (0,0,1,0,0) rfl (by decide);have e:cU [R3] (Gb.dl (0,0,1,0,0)) rp=0:=by rw[sI _ rp λr hr=>by have:=(h1 r hr).2;simpa using this];refine Gb.jj λx _=>?_;obtain⟨_,⟨m1,m2,m3,m4⟩,j⟩:=x;unfold Gb.dl C4.aw C4.bK;simp only[Prod.mk.injEq,true_and];rw[Oc (by omega),Oc (by omega)];rfl
 have e2:au (Gb.dl (0,0,1,0,0)) (dH 1 1 2 [[(1,[0,1])]] 1)=1:=by
  have e3:dH 1 1 2 [[(1,[0,1])]] 1=[⟨68719476735,0,1,0,0,0,1⟩]:=by rfl
  rw[e3];rfl
 rw[e] at ha;rw[e2] at hb;omega
theorem Mk:cB 7 1 1 [[(1,[0,0])]] l3 1=[[(1,[1,0])]]:=by decide+kernel
theorem Mn:lJ 7 2 1 l3 [[(1,[1,0])]]:=by
 obtain⟨rows,ht⟩:=Mi 2 1 l3;refine⟨rows,ht,?_⟩;have h:=C5 oz ht (cs:=[[(1,[0,0])]]) (λm b hb=>by
  have hb2:b=(1,[0,0]):=by
   rcases m with _|m
   .simpa using hb
   .simp at hb
  subst hb2;exact⟨rfl,λx hx=>by simp at hx;omega⟩)
 have h2:jC 7 2 1 rows (cB 7 1 1 [[(1,[0,0])]] l3 1):=h;rw[Mk] at h2;exact h2
theorem Mp:cW 7 2 1 1 1 l3 [[[(1,[0,1])]]]=0:=by kernel_rfl
theorem Du:cW 7 2 1 1 1 l3 l3=0:=by kernel_rfl
theorem sR(w:OQ):Calls prog 19 #[] w λe w'=>∃a,e=.returned (.slice a 1 1)/\LV w' (.slice a 1 1) [(1,[1,0])]/\LT w w':=by
 go_enter func19,ntmps19;go_wp2_with fail;refine(vX _ _ _ _ _).mono ?_;rintro e w1 ⟨rfl,hb1⟩;have HS1:=ae ((Sl.new2 w 1 0 _).below hb1);have HB1:=ae (show LT w w1 from ii.trans (hb1.mono (by simp)));clear hb1;have HV:OE (∀T T' T'',LV (((w1.alloc (.cells #[OW 1,OU w.heap.size 2 2] T)).alloc (.cells #[OU w1.heap.size 1 1] T')).alloc (.cells #[OU (w1.heap.size+1) 1 1] T'')) (OU (w1.heap.size+2) 1 1) [(1,[1,0])]):=λT T' T''=>by exact⟨w1.heap.size+2,w1.heap.size+1,OU w1.heap.size 1 1,rfl,by simp[go_sem],by simp[go_sem],((xg HS1.o).below ai).below ai⟩
 go_wp2;go_ret;exact⟨_,rfl,HV.o _ _ _,Io HB1.o (nU)⟩
theorem Mq(lv gv:OR)(w:OQ)(hl:LV w lv [(1,[1,0])])(hg:Vl w gv [[(1,[0,1])]]):Calls prog 8 #[aI 7 2 1 1,OW 1,gv,lv] w λe w'=>e=.returned (.tuple #[.bool false,OW 0])/\LT w w':=by
 obtain⟨T,hT⟩:=sP 7 2 1 l3;have h:=xf 7 2 1 1 1 gv lv [[(1,[0,1])]] l3 T hT w hg (sQ hl);have e:T [[(1,[0,1])]]=false:=by
  cases h:T [[(1,[0,1])]]
  .rfl
  .exact(Mj ((hT _).1 h)).elim
 rw[Mp,e] at h;simpa using h
theorem Mr(av bv:OR)(w:OQ)(ha:LV w av [(1,[1,0])])(hb:LV w bv [(1,[1,0])]):Calls prog 5 #[aI 7 2 1 1,OW 1,av,bv] w λe w'=>e=.returned (.tuple #[.bool true,OW 0])/\LT w w':=by
 obtain⟨T,hT⟩:=sP 7 2 1 l3;refine(Dr 7 2 1 1 1 av bv l3 l3 T T hT hT w (sQ ha) (sQ hb)).mono ?_;rintro e w' ⟨S,rfl,q1,_,q2⟩;have e:T [[(1,[1,0])]]=true:=(hT _).2 Mn;have e2:l3.all T=true:=by simp[l3,e]
 rw[q1 Du,Du,e2];exact⟨rfl,q2⟩
theorem I0(w:OQ):Calls prog 7 #[] w λe w'=>e=.returned (.bool true)/\LT w w':=by go_enter func7,ntmps7;go_wp2_with fail;refine(uJ _).mono ?_;rintro e w1 ⟨rfl,q1⟩;have HB1:=ae q1;clear q1;go_wp2_with fail;refine(vX _ _ _ _ _).mono ?_;rintro e w2 ⟨rfl,q1⟩;have HS2:=ae ((Sl.new2 w1 1 1 _).below q1);have HB2:=ae (show LT w w2 from Io HB1.o (ii.trans (q1.mono (by simp))));clear q1;have HV2:OE (∀T T',Vl ((w2.alloc (.cells #[OW 3,OU w1.heap.size 2 2] T)).alloc (.cells #[OU w2.heap.size 1 1] T')) (OU (w2.heap.size+1) 1 1) g3):=λT T'=>wX (by simp[go_sem]) ((xg HS2.o).below ai);go_wp2_with fail;refine(sR _).mono ?_;rintro e w3 ⟨a3,rfl,q1,q2⟩;have HL3:=ae (Mf _ _ w3 q1 ((HV2.o _ _).below q2));have HB3:=ae (Io HB2.o (dR.trans (q2.mono (by simp;omega))));clear q1 q2;go_wp2_with fail;refine HL3.o.mono ?_;rintro e w4 ⟨cg,pg,cap,rfl,q1,q2,q3⟩;have HP4:=ae (NN q1 q2);have HB4:=ae (Io HB3.o q3);clear q1 q2 q3 HL3;go_wp2_with fail;refine(uJ _).mono ?_;rintro e w5 ⟨rfl,q1⟩;have HB5:=ae q1;clear q1;go_wp2_with fail;refine(vX _ _ _ _ _).mono ?_;rintro e w6 ⟨rfl,q1⟩;have HS6:=ae ((Sl.new2 w5 0 1 _).below q1);have HB6:=ae (show LT w4 w6 from Io HB5.o (ii.trans (q1.mono (by simp))));clear q1;have HV6:OE (∀T T',Vl ((w6.alloc (.cells #[OW 1,OU w5.heap.size 2 2] T)).alloc (.cells #[OU w6.heap.size 1 1] T')) (OU (w6.heap.size+1) 1 1) [[(1,[0,1])]]):=λT T'=>wX (by simp[go_sem]) ((xg HS6.o).below ai);go_wp2_with fail;refine(sR _).mono ?_;rintro e w7 ⟨a7,rfl,q1,q2⟩;have HI7:=ae (Mq _ _ w7 q1 ((HV6.o _ _).below q2));have HB7:=ae (Io HB6.o (dR.trans (q2.mono (by simp;omega))));clear q1 q2;go_wp2_with fail;refine HI7.o.mono ?_;rintro e w8 ⟨rfl,q1⟩;have HB8:=ae (Io HB7.o q1);clear q1 HI7;go_wp2_with fail;refine(uJ _).mono ?_;rintro e w9 ⟨rfl,q1⟩;have HB9:=ae (Io HB8.o q1);clear q1;go_wp2_with fail;refine(sR _).mono ?_;rintro e wa ⟨aa,rfl,q1,q2⟩;have HLA:=ae q1;have HBa:=ae (Io HB9.o q2);clear q1 q2;go_wp2_with fail;refine(sR _).mono ?_;rintro e wb ⟨ab,rfl,q1,q2⟩;have HSb:=ae (Mr _ _ wb (HLA.o.below q2) q1);have HBb:=ae (Io HBa.o q2);clear q1 q2;go_wp2_with fail;refine HSb.o.mono ?_;rintro e wc ⟨rfl,q1⟩;have HBc:=ae (Io HBb.o q1);clear q1 HSb;have z0:=af HP4.o.1 HBc.o;have z1:=af HP4.o.2 HBc.o;go_wp2;go_ret;exact⟨rfl,Io HB4.o HBc.o⟩
end Go.Proofs.YtjkalahhpobefaaGreat
