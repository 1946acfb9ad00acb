/- checkTerm, checkFalling: what is told of one term. -/
import Derived.Test.YtjkalahhpobefaaGreatPN
import Derived.Test.YtjkalahhpobefaaGreatWB
set_option maxHeartbeats 2000000
set_option maxRecDepth 100000
namespace Go.Proofs.YtjkalahhpobefaaGreat
set_option linter.all false
open Go.Proofs.Tryz Go.RowKit
def fQ(least p n:Int)(t:Tm):Int:=if t.1<least\/p<=t.1 then 3 else cd n t.2
def fY(p n o:Int)(ts:Lt)(k:Nat):Int:=
 if fQ 1 p n (ts.getD k bH)≠0 then fQ 1 p n (ts.getD k bH) else if jz o (jb ts k) (ts.getD k bH).2=false then 4 else 0
def eW(E:Nat->Int):Nat->Nat->Int
 |0,_=>0
 |m+1,k=>if E k≠0 then E k else eW E m (k+1)
variable{k m:Nat}
theorem DF(E:Nat->Int)(h:k<m):eW E (m-k) k=if E k≠0 then E k else eW E (m-(k+1)) (k+1):=by obtain⟨d,rfl⟩:∃d,m=k+1+d:=⟨m-(k+1),by omega⟩;rw[show k+1+d-k=d+1 by omega,show k+1+d-(k+1)=d by omega];rfl
theorem DG{p n o:Int}(ts:Lt):∀(m k:Nat),k+m=ts.length->eW (fY p n o ts) m k=jA p n o (jb ts k) (ts.drop k)
 |0,k,h=>by rw[Ow (by omega)];rfl
 |m+1,k,h=>by
  have hk:k<ts.length:=by omega
  rw[B8 p n o ts k hk];have ih:=DG (p:=p) (n:=n) (o:=o) ts m (k+1) (by omega);have hu:eW (fY p n o ts) (m+1) k=if fY p n o ts k≠0 then fY p n o ts k else eW (fY p n o ts) m (k+1):=rfl
  rw[hu,ih];unfold fY fQ;generalize ts.getD k bH=t;have hb:cE t.1 1 (p-1)=false↔(t.1<1\/p<=t.1):=by
   have e:cE t.1 1 (p-1)=decide (1<=t.1/\t.1<=p-1):=by simp[cE]
   rw[e,decide_eq_false_iff_not];omega
  by_cases h1:t.1<1\/p<=t.1
  .rw[Oe (hb.2 h1),Oe h1];simp
  .rw[Oc (λh=>h1 (hb.1 h)),Oc h1];by_cases h2:cd n t.2≠0
   .rw[Oe h2,Oe h2,Oe h2]
   .rw[Oc h2,Oc h2];cases h3:jz o (jb ts k) t.2<;>simp
variable{ts:Lt}{p o:Int}
theorem MA{n:Int}(h:fY p n o ts k=0):cd n (ts.getD k bH).2=0:=by
 unfold fY at h;by_cases h1:fQ 1 p n (ts.getD k bH)=0
 .unfold fQ at h1;split at h1
  .omega
  .exact h1
 .rw[Oe h1] at h;exact absurd h h1
variable{v:Int}
theorem MB{n:Int}{te:OP}(hR:bJ p n o v=0):kO p n o v [te]=cd n te:=by
 unfold kO;rw[Oe hR];simp only[kf];split
 .rename_i h;exact h.symm
 .rfl
theorem sV(p n o v least c:Int)(ev:OR)(te:OP)(w:OQ)(hR:bJ p n o v=0)(hs:Sl w ev te):Calls prog 132 #[aI p n o v,OW least,.agg #[OW c,ev]] w λe w'=>e=.returned (OW (fQ least p n (c,te)))/\LT w w':=by
 have HS:=ae hs;have HALL:=ae (MB (te:=te) hR);obtain⟨a,cap,rfl,_⟩:=hs;have HB2:OE (∀A B,LT w ((w.alloc A).alloc B)):=λA B=>dR;clear hR;by_cases h1:c<least
 .have HE:OE (fQ least p n (c,te)=3):=by show _=_;unfold fQ;rw[Oe (Ox h1)]
  rw[HE.o];go_enter func132,ntmps132;go_wp2;go_ret;exact⟨rfl,HB2.o _ _⟩
 .by_cases h2:p<=c
  .have HE:OE (fQ least p n (c,te)=3):=by show _=_;unfold fQ;rw[Oe (Oy h2)]
   rw[HE.o];go_enter func132,ntmps132;go_wp2;go_ret;exact⟨rfl,HB2.o _ _⟩
  .have HE:OE (fQ least p n (c,te)=cd n te):=by show _=_;unfold fQ;rw[Oc (by simp only;omega)]
   rw[HE.o];go_enter func132,ntmps132;go_wp2_with (go_at_call 160;refine(Ei p n o v _ te _ (HS.o.below (HB2.o _ _))).mono ?_;rw[HALL.o];rintro e w2 ⟨rfl,hb2⟩;have HB9:=ae ((HB2.o _ _).trans (hb2.mono (HB2.o _ _).size));clear hb2);go_ret;exact⟨rfl,HB9.o⟩
theorem MC(p n o v:Int)(fv:OR)(ts:Lt)(k:Nat)(w:OQ)(hR:bJ p n o v=0)(hk2:k<ts.length)(hlen:ts.length<=2000)(hq:∀j,j<k->cd n (ts.getD j bH).2=0)(pf:Pl w fv ts):Calls prog 101 #[aI p n o v,fv,OW k] w λe w'=>e=.returned (OW (fY p n o ts k))/\LT w w':=by
 obtain⟨fa,fc,rfl,_,hfc⟩:=pf;obtain⟨b,off,rfl,hlt,hat⟩:=hfc (by omega);obtain⟨_,hn1,hn2,ho,_⟩:=kg hR;have HR:=ae hR;have HO:=ae ho;have HQ:=ae hq;obtain⟨w1,hw1⟩:∃w1,w1=w.alloc (.cells #[OW p,OW n,OW o,OW v] 23):=⟨_,rfl⟩;have hbx:bA w1 w.heap.size p n o v:=by rw[hw1];exact bA.new w p n o v _
 have hbw:LT w w1:=by rw[hw1];exact bE
 obtain⟨_,bx0,bx1,bx2,bx3⟩:=hbx;have HBW:=ae hbw;have HB0:OE (LT w1 w1.drew):=(NM _ _).drew;obtain⟨c0,ev,c1,hse⟩:=hat k hk2;have HAT:=ae hat;have HER:OE (fY p n o ts k=if fQ 1 p n (ts.getD k bH)≠0 then fQ 1 p n (ts.getD k bH) else if jz o (jb ts k) (ts.getD k bH).2=false then 4 else 0):=rfl;generalize ts.getD k bH=t at c0 hse HER;obtain⟨tc,te⟩:=t;have HSE:=ae (hse.below hbw);obtain⟨ea,ec,rfl,_⟩:=hse;simp only at c0 c1 HER;have KEEP:OE (∀W,LT w1 W->(OE (LT w1 W)/\W.cell? (OV w.heap.size 0)=some (OW p)/\W.cell? (OV w.heap.size 1)=some (OW n)/\W.cell? (OV w.heap.size 2)=some (OW o)/\W.cell? (OV w.heap.size 3)=some (OW v)/\W.cell? ⟨b,off+k*2,none⟩=some (OW tc)/\W.cell? ⟨b,off+k*2+1,none⟩=some (.slice ea te.length ec))):=
  λW hb=>⟨hb,af bx0 hb,af bx1 hb,af bx2 hb,af bx3 hb,af (af c0 hbw) hb,af (af c1 hbw) hb⟩
 have KEEPC:=ae (fun(W:OQ)(hb:LT w1 W)(b2 o2:Nat)(u:OR)(hc:w.cell? (OV b2 o2)=some u)=>af (af hc hbw) hb);clear hR ho hq hat c0 c1 bx0 bx1 bx2 bx3 hbw;cases hz:(fQ 1 p n (tc,te) !=0)
 .have hz0:fQ 1 p n (tc,te)=0:=by simpa using hz
  have HZ:=ae hz0;have hem:cd n te=0:=by
   unfold fQ at hz0;split at hz0
   .omega
   .exact hz0
  have HEM:=ae hem;clear hz0 hem;rcases Nat.eq_zero_or_pos k with rfl|hpos
  .simp only[Nat.zero_mul,Nat.add_zero] at KEEP;have HEE:OE (fY p n o ts 0=0):=by show _=_;rw[HER.o,Oc (by simpa using HZ.o),Oc (by simp[jb,jz])]
   rw[HEE.o];go_enter func101,ntmps101;go_wp2_with fail;rw[<-hw1];clear hw1;go_region_held (λW=>OE (LT w1 W)/\W.cell? (OV w.heap.size 0)=some (OW p)/\W.cell? (OV w.heap.size 1)=some (OW n)/\W.cell? (OV w.heap.size 2)=some (OW o)/\W.cell? (OV w.heap.size 3)=some (OW v)/\W.cell? (OV b off)=some (OW tc)/\W.cell? (OV b (off+1))=some (.slice ea te.length ec))
    (first|exact KEEP.o _ HB0.o|exact KEEP.o _ (Io HB0.o hb9))
    (first|(go_at_call 132;refine(sV p n o v 1 tc _ te _ HR.o ?_).mono ?_;exact HSE.o.below HB0.o;rintro e w9 ⟨rfl,hb9⟩))
   have HB9:=ae (show LT w1 w9 from Io HB0.o hb9);clear hb9;rw[HZ.o];go_wp2_with fail;go_quiet (fail);have HQ1:=ae (below_drewN HB9.o nq);go_wp2;go_ret;exact⟨rfl,Io HBW.o HQ1.o⟩
  .have hk3:k-1<ts.length:=by omega
   obtain⟨_,ev2,d1,hse2⟩:=HAT.o (k-1) hk3;have HPE:OE (jb ts k=some (ts.getD (k-1) bH).2):=by obtain⟨m,rfl⟩:∃m,k=m+1:=⟨k-1,by omega⟩;rfl
   have HQE:=ae (HQ.o (k-1) (by omega));generalize ts.getD (k-1) bH=q at hse2 HPE HQE;obtain⟨qc,qe⟩:=q;have HSE2:=ae (hse2.below HBW.o);obtain⟨ea2,ec2,rfl,_⟩:=hse2;simp only at d1 HPE HQE;have hqo:=jH HQE.o;have hto:=jH HEM.o;have HLL:OE (qe.length=te.length):=by have h1:=hqo.1;have h2:=hto.1;show _=_;omega
   have hq0:0<qe.length:=by have h1:=hqo.1;omega
   have hq3:qe.length<=3:=by have h1:=hqo.1;omega
   have HQB:=ae (NN (show∀x∈qe,0<=x/\x<=40000 from λx hx=>by have:=hqo.2.1 x hx;omega) (show∀x∈te,0<=x/\x<=40000 from λx hx=>by have:=hto.2.1 x hx;omega));have KEEP2:OE (∀W,LT w1 W->(OE (LT w1 W)/\W.cell? (OV w.heap.size 0)=some (OW p)/\W.cell? (OV w.heap.size 1)=some (OW n)/\W.cell? (OV w.heap.size 2)=some (OW o)/\W.cell? (OV w.heap.size 3)=some (OW v)/\W.cell? ⟨b,off+k*2,none⟩=some (OW tc)/\W.cell? ⟨b,off+k*2+1,none⟩=some (.slice ea te.length ec)/\W.cell? ⟨b,off+(k-1)*2+1,none⟩=some (.slice ea2 qe.length ec2))):=λW hb=>by have h:=KEEP.o W hb;exact⟨h.1,h.2.1,h.2.2.1,h.2.2.2.1,h.2.2.2.2.1,h.2.2.2.2.2.1,h.2.2.2.2.2.2,KEEPC.o W hb _ _ _ d1⟩
   obtain⟨hq1,hq2,hq4,hq5,hq6,hq7,hq8⟩:=Cb hpos hk2;have hwr:=Ca hpos (NR (Nat.le_of_lt hk2) hlen);clear hqo hto d1;by_cases hgt:aR o qe te<=0
   .have HEE:OE (fY p n o ts k=4):=by show _=_;rw[HER.o,Oc (by simpa using HZ.o),HPE.o,Oe];show fN o qe te=false;unfold fN;exact NO (by omega)
    rw[HEE.o];go_enter func101,ntmps101;go_wp2_with fail;rw[<-hw1];clear hw1;go_region_held (λW=>OE (LT w1 W)/\W.cell? (OV w.heap.size 0)=some (OW p)/\W.cell? (OV w.heap.size 1)=some (OW n)/\W.cell? (OV w.heap.size 2)=some (OW o)/\W.cell? (OV w.heap.size 3)=some (OW v)/\W.cell? ⟨b,off+k*2,none⟩=some (OW tc)/\W.cell? ⟨b,off+k*2+1,none⟩=some (.slice ea te.length ec))
     (first|exact KEEP.o _ HB0.o|exact KEEP.o _ (Io HB0.o hb9))
     (first|(go_at_call 132;refine(sV p n o v 1 tc _ te _ HR.o ?_).mono ?_;exact HSE.o.below HB0.o;rintro e w9 ⟨rfl,hb9⟩))
    have HB9:=ae (show LT w1 w9 from Io HB0.o hb9);clear hb9;rw[HZ.o];go_wp2_with fail;go_region_held (λW=>OE (LT w1 W)/\W.cell? (OV w.heap.size 0)=some (OW p)/\W.cell? (OV w.heap.size 1)=some (OW n)/\W.cell? (OV w.heap.size 2)=some (OW o)/\W.cell? (OV w.heap.size 3)=some (OW v)/\W.cell? ⟨b,off+k*2,none⟩=some (OW tc)/\W.cell? ⟨b,off+k*2+1,none⟩=some (.slice ea te.length ec)/\W.cell? ⟨b,off+(k-1)*2+1,none⟩=some (.slice ea2 qe.length ec2))
     (first|exact KEEP2.o _ HB9.o.drew|exact KEEP2.o _ (Io HB9.o.drew hb8))
     (first|(go_at_call 90;refine(oJ p n o v _ _ qe te _ HO.o hq0 hq3 HLL.o HQB.o.1 HQB.o.2 ?_ ?_).mono ?_;exact HSE2.o.below HB9.o.drew;exact HSE.o.below HB9.o.drew;rintro e w8 ⟨rfl,hb8⟩))
    have HB8:=ae (show LT w1 w8 from Io HB9.o.drew hb8);clear hb8;go_wp2_with fail;go_ret;exact⟨rfl,Io HBW.o HB8.o⟩
   .have HEE:OE (fY p n o ts k=0):=by show _=_;rw[HER.o,Oc (by simpa using HZ.o),HPE.o,Oc];show¬fN o qe te=false;unfold fN;rw[NP (show 0<aR o qe te by omega)];simp
    rw[HEE.o];go_enter func101,ntmps101;go_wp2_with fail;rw[<-hw1];clear hw1;go_region_held (λW=>OE (LT w1 W)/\W.cell? (OV w.heap.size 0)=some (OW p)/\W.cell? (OV w.heap.size 1)=some (OW n)/\W.cell? (OV w.heap.size 2)=some (OW o)/\W.cell? (OV w.heap.size 3)=some (OW v)/\W.cell? ⟨b,off+k*2,none⟩=some (OW tc)/\W.cell? ⟨b,off+k*2+1,none⟩=some (.slice ea te.length ec))
     (first|exact KEEP.o _ HB0.o|exact KEEP.o _ (Io HB0.o hb9))
     (first|(go_at_call 132;refine(sV p n o v 1 tc _ te _ HR.o ?_).mono ?_;exact HSE.o.below HB0.o;rintro e w9 ⟨rfl,hb9⟩))
    have HB9:=ae (show LT w1 w9 from Io HB0.o hb9);clear hb9;rw[HZ.o];go_wp2_with fail;go_region_held (λW=>OE (LT w1 W)/\W.cell? (OV w.heap.size 0)=some (OW p)/\W.cell? (OV w.heap.size 1)=some (OW n)/\W.cell? (OV w.heap.size 2)=some (OW o)/\W.cell? (OV w.heap.size 3)=some (OW v)/\W.cell? ⟨b,off+k*2,none⟩=some (OW tc)/\W.cell? ⟨b,off+k*2+1,none⟩=some (.slice ea te.length ec)/\W.cell? ⟨b,off+(k-1)*2+1,none⟩=some (.slice ea2 qe.length ec2))
     (first|exact KEEP2.o _ HB9.o.drew|exact KEEP2.o _ (Io HB9.o.drew hb8))
     (first|(go_at_call 90;refine(oJ p n o v _ _ qe te _ HO.o hq0 hq3 HLL.o HQB.o.1 HQB.o.2 ?_ ?_).mono ?_;exact HSE2.o.below HB9.o.drew;exact HSE.o.below HB9.o.drew;rintro e w8 ⟨rfl,hb8⟩))
    have HB8:=ae (show LT w1 w8 from Io HB9.o.drew hb8);clear hb8;go_wp2_with fail;go_ret;exact⟨rfl,Io HBW.o HB8.o⟩
 .have HEE:OE (fY p n o ts k=fQ 1 p n (tc,te)):=by show _=_;rw[HER.o,Oe (by simpa using hz)]
  rw[HEE.o];go_enter func101,ntmps101;go_wp2_with fail;rw[<-hw1];clear hw1;go_region_held (λW=>OE (LT w1 W)/\W.cell? (OV w.heap.size 0)=some (OW p)/\W.cell? (OV w.heap.size 1)=some (OW n)/\W.cell? (OV w.heap.size 2)=some (OW o)/\W.cell? (OV w.heap.size 3)=some (OW v)/\W.cell? ⟨b,off+k*2,none⟩=some (OW tc)/\W.cell? ⟨b,off+k*2+1,none⟩=some (.slice ea te.length ec))
   (first|exact KEEP.o _ HB0.o|exact KEEP.o _ (Io HB0.o hb9))
   (first|(go_at_call 132;refine(sV p n o v 1 tc _ te _ HR.o ?_).mono ?_;exact HSE.o.below HB0.o;rintro e w9 ⟨rfl,hb9⟩))
  have HB9:=ae (show LT w1 w9 from Io HB0.o hb9);clear hb9;go_wp2;go_ret;exact⟨rfl,Io HBW.o HB9.o⟩
def kI(p n o v:Int)(len:Nat)(E:Nat->Int):Int:=if bJ p n o v≠0 then bJ p n o v else if 2000<len then 2 else eW E len 0
theorem xj(E:Nat->Int)(m:Nat):∀k,k<=m->(∀j,j<k->E j=0)->eW E m 0=eW E (m-k) k
 |0,_,_=>rfl
 |k+1,hk,h=>by rw[xj E m k (by omega) (λj hj=>h j (by omega)),DF E (show k<m by omega),Oc (by simpa using h k (by omega))]
variable{E:Nat->Int}
theorem xk(h:∀j,j<m->E j=0):eW E m 0=0:=by rw[xj E m m (NL _) h,Nat.sub_self];rfl
theorem xl(hk:k<m)(h:∀j,j<k->E j=0)(h2:E k≠0):eW E m 0=E k:=by rw[xj E m k (by omega) h,DF E hk,Oe h2]
theorem MD(p n o v:Int)(lv:OR)(ts:Lt)(rb fb:Nat)(E:Nat->Int)(w:OQ)(pf:Pl w lv ts)(H:bJ p n o v=0->ts.length<=2000->∀i w',i<ts.length->(∀j,j<i->E j=0)->LT w w'->Calls prog 100 #[OW i,OS rb,OS fb] w' λe w''=>e=.returned (OW (E i))/\LT w' w''):Calls prog 99 #[aI p n o v,lv,.func (.func 100) #[] #[OS rb,OS fb]] w λe w'=>e=.returned (OW (kI p n o v ts.length E))/\LT w w':=by
 obtain⟨a,c,rfl,_,_⟩:=pf;have HH:=ae H;clear H;cases hR:(bJ p n o v !=0)
 .have hR0:bJ p n o v=0:=by simpa using hR
  have HR:=ae hR0;clear hR0;by_cases hlen:2000<ts.length
  .have he:kI p n o v ts.length E=2:=by unfold kI;rw[Oc (by simpa using HR.o),Oe hlen]
   rw[he];clear he;go_enter func99,ntmps99;go_wp2_with (go_at_call 55;refine(ke _ _ _ _ _).mono ?_;rintro e w1 ⟨rfl,hb1⟩);go_ret;exact⟨rfl,bE.trans (hb1.mono (by simp))⟩
  .have he:kI p n o v ts.length E=eW E ts.length 0:=by unfold kI;rw[Oc (by simpa using HR.o),Oc hlen]
   rw[he];clear he;go_enter func99,ntmps99;go_wp2_with (go_at_call 55;refine(ke _ _ _ _ _).mono ?_;rintro e w1 ⟨rfl,hb1⟩);have HB1:=ae (show LT w w1 from bE.trans (hb1.mono (by simp)));clear hb1;go_loopw [20] (λi wr=>∃k:Nat,k<=ts.length/\i=OW k/\(∀j,j<k->E j=0)/\LT w1 wr) (λi _=>ts.length-(intOf i).toNat);case atStart=>exact⟨0,NS _,rfl,λj hj=>by omega,NM _ _⟩
   case round=>
    obtain⟨k,hk,rfl,hz,hbr⟩:=hrel;have HZ:=ae hz;have HDN:=ae (Io HB1.o hbr);have HBR:=ae hbr;clear hz hbr;by_cases hk2:k<ts.length
    .have HC:=ae (HH.o HR.o (by omega) k wr hk2 HZ.o HDN.o);have HHIT:=ae (λh=>xl (E:=E) hk2 HZ.o h);cases he:(E k !=0)
     .have HE0:OE (E k=0):=by simpa [OE] using he
      go_wp2_with (go_at_call 100;refine HC.o.mono ?_;rintro e w2 ⟨rfl,hb2⟩;have HB2:=ae (Io HBR.o hb2);clear hb2);go_roundw;case rel=>exact⟨k+1,by omega,by go_num,λj hj=>by
       rcases Nat.lt_or_ge j k with h|h
       .exact HZ.o j h
       .rw[show j=k by omega];exact HE0.o,HB2.o⟩
      case measure=>simp[intOf];omega
     .go_wp2_with (go_at_call 100;refine HC.o.mono ?_;rintro e w2 ⟨rfl,hb2⟩;have HB2:=ae (Io HBR.o hb2);clear hb2);go_ret;exact⟨cM (HHIT.o (by simpa using he)).symm,Io HB1.o HB2.o⟩
    .go_wp2;go_ret;exact⟨cM (xk (λj hj=>HZ.o j (by omega))).symm,Io HB1.o HBR.o⟩
 .have he:kI p n o v ts.length E=bJ p n o v:=by unfold kI;rw[Oe (by simpa using hR)]
  rw[he];clear he;go_enter func99,ntmps99;go_wp2_with (go_at_call 55;refine(ke _ _ _ _ _).mono ?_;rintro e w1 ⟨rfl,hb1⟩);go_ret;exact⟨rfl,bE.trans (hb1.mono (by simp))⟩
theorem ME(p n o v:Int)(k rb fb:Nat)(fv:OR)(ts:Lt)(w:OQ)(hR:bJ p n o v=0)(hk2:k<ts.length)(hlen:ts.length<=2000)(hq:∀j,j<k->cd n (ts.getD j bH).2=0)(bx:bA w rb p n o v)(hc:w.cell? (OV fb 0)=some fv)(pf:Pl w fv ts):Calls prog 100 #[OW k,OS rb,OS fb] w λe w'=>e=.returned (OW (fY p n o ts k))/\LT w w':=by have HP:=ae pf;have HC:=ae (λW (h:Pl W fv ts)=>MC p n o v fv ts k W hR hk2 hlen hq h);obtain⟨_,bx0,bx1,bx2,bx3⟩:=bx;obtain⟨a,c,rfl,_,_⟩:=pf;clear hR hq;go_enter func100,ntmps100;go_wp2_with (go_at_call 101;refine(HC.o _ HP.o).mono ?_;rintro e w1 ⟨rfl,hb1⟩;have HB:=ae hb1;clear hb1);go_ret;exact⟨rfl,HB.o⟩
def gC(p n o v:Int)(ts:Lt):Int:=if bJ p n o v≠0 then bJ p n o v else de p n o ts
theorem MF(p n o v:Int)(ts:Lt):kI p n o v ts.length (fY p n o ts)=gC p n o v ts:=by unfold kI gC de;rw[DG ts ts.length 0 (by omega)];rfl
def ag(p n o v:Int):OG->Int
 |[]=>0
 |f::r=>if gC p n o v f≠0 then gC p n o v f else ag p n o v r
theorem MG(p n o v:Int)(fss:OG)(k:Nat)(h:k<fss.length):ag p n o v (fss.drop k)=if gC p n o v (fss.getD k [])≠0 then gC p n o v (fss.getD k []) else ag p n o v (fss.drop (k+1)):=by rw[Ov h];simp[ag,NY,h]
theorem rX{n:Int}:gC p n o v ts=0↔bJ p n o v=0/\de p n o ts=0:=by
 unfold gC;by_cases h1:bJ p n o v=0
 .rw[Oc (by simpa using h1)];simp[h1]
 .rw[Oe h1];simp[h1]
theorem MH(p n o v:Int)(lv:OR)(fss:OG)(w:OQ)(hm:fss.length<=1200000000000)(hs:Vl w lv fss):Calls prog 62 #[aI p n o v,lv] w λe w'=>e=.returned (OW (ag p n o v fss))/\LT w w':=by
 have HS:=ae hs;obtain⟨la,lc,rfl,hat0⟩:=hs;have HAT:=ae hat0;obtain⟨w1,hw1⟩:∃w1,w1=w.alloc (.cells #[OW p,OW n,OW o,OW v] 23):=⟨_,rfl⟩;have hbx:bA w1 w.heap.size p n o v:=by rw[hw1];exact bA.new w p n o v _
 have hbw:LT w w1:=by rw[hw1];exact bE
 have HBX:=ae hbx;have HBW:=ae hbw;clear hat0 hbx hbw;go_enter func62,ntmps62;go_wp2_with fail;rw[<-hw1];clear hw1;go_loopw [10] (λi wr=>∃k:Nat,k<=fss.length/\i=OW k/\ag p n o v fss=ag p n o v (fss.drop k)/\LT w1 wr) (λi _=>fss.length-(intOf i).toNat);case atStart=>exact⟨0,NS _,rfl,by simp,NM _ _⟩
 case round=>
  obtain⟨k,hk,rfl,hcur,hbr⟩:=hrel;have HBR:=ae hbr;clear hbr;by_cases hk2:k<fss.length
  .obtain⟨b,off,rfl,hlt,hat⟩:=HAT.o (by omega);obtain⟨vv,hcell,hsl⟩:=hat k hk2;have HER:=ae (hcur.trans (MG p n o v fss k hk2));have HDN:=ae (Io HBW.o HBR.o);have d0:=af hcell HDN.o;generalize fss.getD k []=f at hsl HER;have HSL:=ae (hsl.below HDN.o);obtain⟨fa,fc,rfl,_,_⟩:=hsl;have HBX2:=ae (HBX.o.below HBR.o);obtain⟨_,bx0,bx1,bx2,bx3⟩:=HBX.o.below HBR.o;clear hcur hat hcell;have HBN:OE (∀A,LT wr (wr.alloc A)):=λA=>ai;have y0:=λA=>af bx0 (HBN.o A);have y1:=λA=>af bx1 (HBN.o A);have y2:=λA=>af bx2 (HBN.o A);have y3:=λA=>af bx3 (HBN.o A);obtain⟨w2,hw2⟩:∃w2,w2=wr.alloc (.cells #[.slice fa f.length fc] 40):=⟨_,rfl⟩;have HB2:OE (LT wr w2):=by rw[hw2];exact HBN.o _
   have HCF:OE (w2.cell? (OV wr.heap.size 0)=some (.slice fa f.length fc)):=by show _=_;rw[hw2];simp[go_sem]
   have HCT:=ae (MD p n o v _ f w.heap.size wr.heap.size (fY p n o f) w2 (HSL.o.below HB2.o) (λhr hl i w' hi hj hb=>ME p n o v i w.heap.size wr.heap.size _ f w' hr hi hl (λj hjj=>MA (hj j hjj)) ((HBX2.o.below HB2.o).below hb) (af HCF.o hb) ((HSL.o.below HB2.o).below hb)));rw[MF] at HCT;cases hz:(gC p n o v f !=0)
   .go_wp2_with fail;try rw[<-hw2]
    refine HCT.o.mono ?_;rintro e w3 ⟨rfl,hb3⟩;have HB3:=ae (Io HBR.o (Io HB2.o hb3));clear hb3;go_wp2_with fail;go_roundw;case rel=>exact⟨k+1,Nat.succ_le_of_lt hk2,by go_num,by rw[HER.o,Oc (by simpa using hz)],HB3.o⟩
    case measure=>simp[intOf];omega
   .go_wp2_with fail;try rw[<-hw2]
    refine HCT.o.mono ?_;rintro e w3 ⟨rfl,hb3⟩;have HB3:=ae (Io HBR.o (Io HB2.o hb3));clear hb3;go_wp2_with fail;go_ret;exact⟨cM (by rw[HER.o,Oe (by simpa using hz)]),Io HBW.o HB3.o⟩
  .go_wp2;go_ret;exact⟨cM (by rw[hcur,Ow (by omega)];rfl),Io HBW.o HBR.o⟩
theorem DH{p n o v:Int}:∀{fss:OG},ag p n o v fss=0->∀f∈fss,gC p n o v f=0
 |[],_,f,hf=>by simp at hf
 |g::r,h,f,hf=>by
  unfold ag at h;by_cases hg:gC p n o v g=0
  .rw[Oc (by simpa using hg)] at h;rcases Og.1 hf with rfl|hf
   .exact hg
   .exact DH h f hf
  .rw[Oe hg] at h;exact absurd h hg
theorem v8{p n o v:Int}:∀{fss:OG},(∀f∈fss,gC p n o v f=0)->ag p n o v fss=0
 |[],_=>rfl
 |g::r,h=>by unfold ag;rw[Oc (by simpa using h g (by simp))];exact v8 (λf hf=>h f (by simp[hf]))
theorem BL(p n o v:Int):vW p n o v (ag p n o v):=by
 refine⟨λfss lv w hm hs=>MH p n o v lv fss w hm hs,λfss hne h=>?_,λhr fss h=>v8 (λf hf=>rX.2 ⟨hr,h f hf⟩)⟩;have hall:=DH h;cases fss with
 |nil=>exact absurd rfl hne
 |cons g r=>exact⟨(rX.1 (hall g (by simp))).1,λf hf=>(rX.1 (hall f hf)).2⟩
variable{B g n:Nat}{w:OQ}
theorem MI{T:TypeId}{xs:OO}(h:w.ownsRow B T 1 (OU g n n) n xs)(hs:∀u∈xs,∃a n c,u=.slice a n c):cK w g:=by
 rcases h.2 with ⟨h1,_⟩|⟨g',cap,ag,h1,hb,hg,hn,hm,hcs,ht⟩
 .simp at h1
 .simp only[N8,N7,Addr.mk.injEq,and_true,true_and] at h1;obtain⟨rfl,rfl⟩:=h1;refine sd hg (λu hu=>hs u ?_);rw[<-ht,N5 (by rw[Array.length_toList,hcs];exact NL _)];exact hu
structure fZ(w wr:OQ)(g n:Nat)(us:OO)(fss:OG):Prop where
 own:∃rest,wr.ownsRow w.heap.size 40 1 (OU g n n) n (us++rest)/\(us++rest).length=n/\∀u∈us++rest,∃a n c,u=.slice a n c
 len:us.length=fss.length
 pls:∀i,i<fss.length->Pl wr (us.getD i aL) (fss.getD i [])
 below:LT w wr
 ge:w.heap.size<=g
variable{fss:OG}{us:OO}{wr w':OQ}
theorem fZ.next(h:fZ w wr g n us fss)(hb:LT wr w'):fZ w w' g n us fss:=by obtain⟨rest,h1,h2,h3⟩:=h.own;exact⟨⟨rest,aF h1 hb,h2,h3⟩,h.len,λi hi=>(h.pls i hi).below hb,Io h.below hb,h.ge⟩
theorem fZ.cells(h:fZ w wr g n us fss)(hk:us.length<n):∃a,wr.cell? (OV g us.length)=some a/\wr.frozen? (OV g us.length)=false:=by obtain⟨rest,h1,h2,_⟩:=h.own;have e1:=h1.cellAt us.length (by omega);rw[NZ (by omega)] at e1;exact⟨_,e1,h1.frozenAt _⟩
theorem MJ(l:OO)(a:OR):∀r:OO,1<=r.length->(l++r).set l.length a=l++[a]++r.drop 1
 |[],h=>by simp at h
 |x::r,_=>by simp[List.set_append_right]
theorem fZ.put(h:fZ w wr g n us fss)(hk:us.length<n)(u:OR)(f:Lt)(hu:Pl wr u f):fZ w (wr.setCell (OV g us.length) u) g n (us++[u]) (fss++[f]):=by
 obtain⟨rest,h1,h2,h3⟩:=h.own;have s1:=h1.stored us.length u;have hk2:=MI h1 h3;have hus:∃a n c,u=.slice a n c:=by obtain⟨a,c,e,_⟩:=hu;exact⟨_,_,_,e⟩
 rw[N3] at h2;have e:=MJ us u rest (by omega);refine⟨⟨rest.drop 1,by rw[<-e];exact s1.1,by rw[N3,N3,List.length_drop];simp;omega,λx hx=>?_⟩,by simp[h.len],λi hi=>?_,h.below.trans (cV s1.2 h.ge h.below.size),h.ge⟩
 .rcases N1.1 hx with hx|hx
  .rcases N1.1 hx with hx|hx
   .exact h3 x (N1.2 (Ox hx))
   .rw[N2] at hx;rw[hx];exact hus
  .exact h3 x (N1.2 (Oy (List.mem_of_mem_drop hx)))
 .rw[N3] at hi;simp only[Oh,List.length_nil] at hi;rcases Nat.lt_or_ge i fss.length with hl|hl
  .have e1:(us++[u]).getD i aL=us.getD i aL:=by simp[NY,Ol (show i<us.length by rw[h.len];exact hl)]
   have e2:(fss++[f]).getD i []=fss.getD i []:=by simp[NY,Ol hl]
   rw[e1,e2];exact mz hk2 s1.2 (h.pls i hl)
  .have e:i=fss.length:=by omega
   subst e;have e1:(us++[u]).getD fss.length aL=u:=by rw[<-h.len];simp[NY]
   have e2:(fss++[f]).getD fss.length []=f:=by simp[NY]
   rw[e1,e2];exact mz hk2 s1.2 hu
theorem fZ.done(h:fZ w wr g n us fss)(hn:us.length=n):Vl wr (OU g n n) fss:=by
 obtain⟨rest,h1,h2,_⟩:=h.own;have hlt:=(NK h1 g rfl).2;refine⟨_,n,by rw[<-h.len,hn],λ_=>⟨g,0,rfl,hlt,λi hi=>⟨us.getD i aL,?_,h.pls i hi⟩⟩⟩;have hi2:i<us.length:=by rw[h.len];exact hi
 rw[N4,h1.cellAt i (by omega),Ol hi2];simp[NY,hi2]
theorem fZ.made(h:w'.ownsRow w.heap.size 40 1 (OU w.heap.size n n) n (madeCells (Value.cells (.slice none 0 0)) (n*1)).toList)(hg:w.grownBy w' none):fZ w w' w.heap.size n [] []:=by refine⟨⟨_,h,by simp[size_madeCells],λu hu=>?_⟩,rfl,λi hi=>by simp at hi,⟨hg.os,hg.tape,hg.output,hg.size,λk hk=>hg.block k hk (by simp)⟩,NL _⟩;simp[madeCells,Value.cells] at hu;obtain⟨l,_,hx⟩:=hu;rw[Nat.mod_one] at hx;exact⟨none,0,0,by rw[<-hx];rfl⟩
def mI(E:Nat->Int)(R:Nat->Lt)(n:Nat):OG:=if eW E n 0=0 then (List.range n).map R else []
variable{R:Nat->Lt}
theorem DI(h:eW E n 0=0):mI E R n=(List.range n).map R:=by unfold mI;rw[Oe h]
theorem DJ(h:eW E n 0≠0):mI E R n=[]:=by unfold mI;rw[Oc h]
theorem xo{α:Type}(R:Nat->α)(k:Nat):(List.range (k+1)).map R=(List.range k).map R++[R k]:=by rw[List.range_succ,Oi];rfl
structure oC(w1 w:OQ)(sv:OR)(qs:List (TV×OR)):Prop where
 own:w.ownsRow w1.heap.size 40 1 sv qs.length (qs.map Prod.snd)
 rows:∀q∈qs,w.ownsRow w1.heap.size 47 2 q.2 1 (bj [q.1])
 es:∀q∈qs,Sl w1 q.1.2.1 q.1.2.2
 below:LT w1 w
variable{qs:List (TV×OR)}{sv:OR}{w1:OQ}
theorem oC.next(h:oC w1 w sv qs)(hb:LT w w'):oC w1 w' sv qs:=
 ⟨aF h.own hb,λq hq=>aF (h.rows q hq) hb,h.es,Io h.below hb⟩
theorem oC.snoc{W W2:OQ}{sv2:OR}{q:TV×OR}(h:oC w1 W sv qs)(hq:W.ownsRow w1.heap.size 47 2 q.2 1 (bj [q.1]))(he:Sl w1 q.1.2.1 q.1.2.2)(h2:W2.ownsRow w1.heap.size 40 1 sv2 (qs.length+1) (qs.map Prod.snd++[q.2]))(g2:W.grownBy W2 sv.ownBlock):oC w1 W2 sv2 (qs++[q]):=by
 have hT:(47:TypeId)≠40:=by decide
 refine⟨by rw[N3,Oi];exact h2,λr hr=>?_,λr hr=>?_,eR h.own h.below g2 (NL _)⟩
 .rcases N1.1 hr with hr|hr
  .exact(h.rows r hr).kept g2 (iY hT (h.rows r hr) h.own)
  .rw[N2] at hr;subst hr;exact hq.kept g2 (iY hT hq h.own)
 .rcases N1.1 hr with hr|hr
  .exact h.es r hr
  .rw[N2] at hr;subst hr;exact he
theorem pY(hB:B<=w.heap.size)(c:Int)(ev:OR):(w.alloc (.cells #[OW c,ev] 47)).ownsRow B 47 2 (OU w.heap.size 1 1) 1 [OW c,ev]:=
 ⟨by simp,.inr ⟨w.heap.size,1,_,rfl,hB,heap_alloc_new w _,NL _,by decide,by simp,by simp⟩⟩
end Go.Proofs.YtjkalahhpobefaaGreat
