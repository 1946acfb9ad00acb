/- checkTerm. -/
import Derived.Test.YtjkalahhpobefaaGreatPN
import Derived.Test.YtjkalahhpobefaaGreatWB
set_option maxHeartbeats 2000000
set_option maxRecDepth 100000
namespace Go.Proofs.YtjkalahhpobefaaGreat
set_option linter.all false
open Go.Proofs.Tryz Go.RowKit
def fR(least p n:Int)(t:Tm):Int:=if t.1<least\/p<=t.1 then 3 else cU n t.2
def fZ(p n o:Int)(ts:LT)(k:Nat):Int:=
 if fR 1 p n (ts.getD k bV)≠0 then fR 1 p n (ts.getD k bV) else if kI o (lJ ts k) (ts.getD k bV).2=false then 4 else 0
def dD(E:Nat->Int):Nat->Nat->Int
 |0,_=>0
 |m+1,k=>if E k≠0 then E k else dD E m (k+1)
variable{k m:Nat}
theorem Dj(E:Nat->Int)(h:k<m):dD E (m-k) k=if E k≠0 then E k else dD E (m-(k+1)) (k+1):=by obtain⟨d,rfl⟩:∃d,m=k+1+d:=⟨m-(k+1),by omega⟩;rw[show k+1+d-k=d+1 by omega,show k+1+d-(k+1)=d by omega];rfl
theorem Dk{p n o:Int}(ts:LT):∀(m k:Nat),k+m=ts.length->dD (fZ p n o ts) m k=lI p n o (lJ ts k) (ts.drop k)
 |0,k,h=>by rw[Pe (by omega)];rfl
 |m+1,k,h=>by
  have hk:k<ts.length:=by omega
  rw[Ks p n o ts k hk];have ih:=Dk (p:=p) (n:=n) (o:=o) ts m (k+1) (by omega);have hu:dD (fZ p n o ts) (m+1) k=if fZ p n o ts k≠0 then fZ p n o ts k else dD (fZ p n o ts) m (k+1):=rfl
  rw[hu,ih];unfold fZ fR;generalize ts.getD k bV=t;have hb:eW t.1 1 (p-1)=false↔(t.1<1\/p<=t.1):=by
   have e:eW t.1 1 (p-1)=decide (1<=t.1/\t.1<=p-1):=by simp[eW]
   rw[e,decide_eq_false_iff_not];omega
  by_cases h1:t.1<1\/p<=t.1
  .rw[OW (hb.2 h1),OW h1];simp
  .rw[OV (λh=>h1 (hb.1 h)),OV h1];by_cases h2:cU n t.2≠0
   .rw[OW h2,OW h2,OW h2]
   .rw[OV h2,OV h2];cases h3:kI o (lJ ts k) t.2<;>simp
variable{ts:LT}{p o:Int}
theorem Mn{n:Int}(h:fZ p n o ts k=0):cU n (ts.getD k bV).2=0:=by
 unfold fZ at h;by_cases h1:fR 1 p n (ts.getD k bV)=0
 .unfold fR at h1;split at h1
  .omega
  .exact h1
 .rw[OW h1] at h;exact absurd h h1
variable{v:Int}
theorem Mp{n:Int}{te:PI}(hR:bE p n o v=0):kR p n o v [te]=cU n te:=by
 unfold kR;rw[OW hR];simp only[kj];split
 .rename_i h;exact h.symm
 .rfl
theorem sX(p n o v least c:Int)(ev:PK)(te:PI)(w:PJ)(hR:bE p n o v=0)(hs:Sl w ev te):Calls prog 132 #[aI p n o v,PO least,.agg #[PO c,ev]] w λe w'=>e=.returned (PO (fR least p n (c,te)))/\Io w w':=by
 have HS:=ae hs;have HALL:=ae (Mp (te:=te) hR);obtain⟨a,cap,rfl,_⟩:=hs;have HB2:Po (∀A B,Io w ((w.alloc A).alloc B)):=λA B=>cY;clear hR;by_cases h1:c<least
 .have HE:Po (fR least p n (c,te)=3):=by show _=_;unfold fR;rw[OW (Pf h1)]
  rw[HE.o];go_enter func132,ntmps132;go_wp2;go_ret;exact⟨rfl,HB2.o _ _⟩
 .by_cases h2:p<=c
  .have HE:Po (fR least p n (c,te)=3):=by show _=_;unfold fR;rw[OW (Pg h2)]
   rw[HE.o];go_enter func132,ntmps132;go_wp2;go_ret;exact⟨rfl,HB2.o _ _⟩
  .have HE:Po (fR least p n (c,te)=cU n te):=by show _=_;unfold fR;rw[OV (by simp only;omega)]
   rw[HE.o];go_enter func132,ntmps132;go_wp2_with (go_at_call 160;refine(EJ p n o v _ te _ (HS.o.below (HB2.o _ _))).mono ?_;rw[HALL.o];rintro e w2 ⟨rfl,hb2⟩;have HB9:=ae ((HB2.o _ _).trans (hb2.mono (HB2.o _ _).size));clear hb2);go_ret;exact⟨rfl,HB9.o⟩
theorem Mq(p n o v:Int)(fv:PK)(ts:LT)(k:Nat)(w:PJ)(hR:bE p n o v=0)(hk2:k<ts.length)(hlen:ts.length<=2000)(hq:∀j,j<k->cU n (ts.getD j bV).2=0)(pf:Pl w fv ts):Calls prog 101 #[aI p n o v,fv,PO k] w λe w'=>e=.returned (PO (fZ p n o ts k))/\Io w w':=by
 obtain⟨fa,fc,rfl,_,hfc⟩:=pf;obtain⟨b,off,rfl,hlt,hat⟩:=hfc (by omega);obtain⟨_,hn1,hn2,ho,_⟩:=lX hR;have HR:=ae hR;have HO:=ae ho;have HQ:=ae hq;obtain⟨w1,hw1⟩:∃w1,w1=w.alloc (.cells #[PO p,PO n,PO o,PO v] 23):=⟨_,rfl⟩;have hbx:bO w1 w.heap.size p n o v:=by rw[hw1];exact bO.new w p n o v _
 have hbw:Io w w1:=by rw[hw1];exact aY
 obtain⟨_,bx0,bx1,bx2,bx3⟩:=hbx;have HBW:=ae hbw;have HB0:Po (Io w1 w1.drew):=(Ov _ _).drew;obtain⟨c0,ev,c1,hse⟩:=hat k hk2;have HAT:=ae hat;have HER:Po (fZ p n o ts k=if fR 1 p n (ts.getD k bV)≠0 then fR 1 p n (ts.getD k bV) else if kI o (lJ ts k) (ts.getD k bV).2=false then 4 else 0):=rfl;generalize ts.getD k bV=t at c0 hse HER;obtain⟨tc,te⟩:=t;have HSE:=ae (hse.below hbw);obtain⟨ea,ec,rfl,_⟩:=hse;simp only at c0 c1 HER;have KEEP:Po (∀W,Io w1 W->(Po (Io w1 W)/\W.cell? (PN w.heap.size 0)=some (PO p)/\W.cell? (PN w.heap.size 1)=some (PO n)/\W.cell? (PN w.heap.size 2)=some (PO o)/\W.cell? (PN w.heap.size 3)=some (PO v)/\W.cell? ⟨b,off+k*2,none⟩=some (PO tc)/\W.cell? ⟨b,off+k*2+1,none⟩=some (.slice ea te.length ec))):=
  λW hb=>⟨hb,af bx0 hb,af bx1 hb,af bx2 hb,af bx3 hb,af (af c0 hbw) hb,af (af c1 hbw) hb⟩
 have KEEPC:=ae (fun(W:PJ)(hb:Io w1 W)(b2 o2:Nat)(u:PK)(hc:w.cell? (PN b2 o2)=some u)=>af (af hc hbw) hb);clear hR ho hq hat c0 c1 bx0 bx1 bx2 bx3 hbw;cases hz:(fR 1 p n (tc,te) !=0)
 .have hz0:fR 1 p n (tc,te)=0:=by simpa using hz
  have HZ:=ae hz0;have hem:cU n te=0:=by
   unfold fR at hz0;split at hz0
   .omega
   .exact hz0
  have HEM:=ae hem;clear hz0 hem;rcases Nat.eq_zero_or_pos k with rfl|hpos
  .simp only[Nat.zero_mul,Nat.add_zero] at KEEP;have HEE:Po (fZ p n o ts 0=0):=by show _=_;rw[HER.o,OV (by simpa using HZ.o),OV (by simp[lJ,kI])]
   rw[HEE.o];go_enter func101,ntmps101;go_wp2_with fail;rw[<-hw1];clear hw1;go_region_held (λW=>Po (Io w1 W)/\W.cell? (PN w.heap.size 0)=some (PO p)/\W.cell? (PN w.heap.size 1)=some (PO n)/\W.cell? (PN w.heap.size 2)=some (PO o)/\W.cell? (PN w.heap.size 3)=some (PO v)/\W.cell? (PN b off)=some (PO tc)/\W.cell? (PN b (off+1))=some (.slice ea te.length ec))
    (first|exact KEEP.o _ HB0.o|exact KEEP.o _ (In HB0.o hb9))
    (first|(go_at_call 132;refine(sX p n o v 1 tc _ te _ HR.o ?_).mono ?_;exact HSE.o.below HB0.o;rintro e w9 ⟨rfl,hb9⟩))
   have HB9:=ae (show Io w1 w9 from In HB0.o hb9);clear hb9;rw[HZ.o];go_wp2_with fail;go_quiet (fail);have HQ1:=ae (below_drewN HB9.o nq);go_wp2;go_ret;exact⟨rfl,In HBW.o HQ1.o⟩
  .have hk3:k-1<ts.length:=by omega
   obtain⟨_,ev2,d1,hse2⟩:=HAT.o (k-1) hk3;have HPE:Po (lJ ts k=some (ts.getD (k-1) bV).2):=by obtain⟨m,rfl⟩:∃m,k=m+1:=⟨k-1,by omega⟩;rfl
   have HQE:=ae (HQ.o (k-1) (by omega));generalize ts.getD (k-1) bV=q at hse2 HPE HQE;obtain⟨qc,qe⟩:=q;have HSE2:=ae (hse2.below HBW.o);obtain⟨ea2,ec2,rfl,_⟩:=hse2;simp only at d1 HPE HQE;have hqo:=kS HQE.o;have hto:=kS HEM.o;have HLL:Po (qe.length=te.length):=by have h1:=hqo.1;have h2:=hto.1;show _=_;omega
   have hq0:0<qe.length:=by have h1:=hqo.1;omega
   have hq3:qe.length<=3:=by have h1:=hqo.1;omega
   have HQB:=ae (Ow (show∀x∈qe,0<=x/\x<=40000 from λx hx=>by have:=hqo.2.1 x hx;omega) (show∀x∈te,0<=x/\x<=40000 from λx hx=>by have:=hto.2.1 x hx;omega));have KEEP2:Po (∀W,Io w1 W->(Po (Io w1 W)/\W.cell? (PN w.heap.size 0)=some (PO p)/\W.cell? (PN w.heap.size 1)=some (PO n)/\W.cell? (PN w.heap.size 2)=some (PO o)/\W.cell? (PN w.heap.size 3)=some (PO v)/\W.cell? ⟨b,off+k*2,none⟩=some (PO tc)/\W.cell? ⟨b,off+k*2+1,none⟩=some (.slice ea te.length ec)/\W.cell? ⟨b,off+(k-1)*2+1,none⟩=some (.slice ea2 qe.length ec2))):=λW hb=>by have h:=KEEP.o W hb;exact⟨h.1,h.2.1,h.2.2.1,h.2.2.2.1,h.2.2.2.2.1,h.2.2.2.2.2.1,h.2.2.2.2.2.2,KEEPC.o W hb _ _ _ d1⟩
   obtain⟨hq1,hq2,hq4,hq5,hq6,hq7,hq8⟩:=Ku hpos hk2;have hwr:=Kt hpos (OA (Nat.le_of_lt hk2) hlen);clear hqo hto d1;by_cases hgt:aW o qe te<=0
   .have HEE:Po (fZ p n o ts k=4):=by show _=_;rw[HER.o,OV (by simpa using HZ.o),HPE.o,OW];show ol o qe te=false;unfold ol;exact Ox (by omega)
    rw[HEE.o];go_enter func101,ntmps101;go_wp2_with fail;rw[<-hw1];clear hw1;go_region_held (λW=>Po (Io w1 W)/\W.cell? (PN w.heap.size 0)=some (PO p)/\W.cell? (PN w.heap.size 1)=some (PO n)/\W.cell? (PN w.heap.size 2)=some (PO o)/\W.cell? (PN w.heap.size 3)=some (PO v)/\W.cell? ⟨b,off+k*2,none⟩=some (PO tc)/\W.cell? ⟨b,off+k*2+1,none⟩=some (.slice ea te.length ec))
     (first|exact KEEP.o _ HB0.o|exact KEEP.o _ (In HB0.o hb9))
     (first|(go_at_call 132;refine(sX p n o v 1 tc _ te _ HR.o ?_).mono ?_;exact HSE.o.below HB0.o;rintro e w9 ⟨rfl,hb9⟩))
    have HB9:=ae (show Io w1 w9 from In HB0.o hb9);clear hb9;rw[HZ.o];go_wp2_with fail;go_region_held (λW=>Po (Io w1 W)/\W.cell? (PN w.heap.size 0)=some (PO p)/\W.cell? (PN w.heap.size 1)=some (PO n)/\W.cell? (PN w.heap.size 2)=some (PO o)/\W.cell? (PN w.heap.size 3)=some (PO v)/\W.cell? ⟨b,off+k*2,none⟩=some (PO tc)/\W.cell? ⟨b,off+k*2+1,none⟩=some (.slice ea te.length ec)/\W.cell? ⟨b,off+(k-1)*2+1,none⟩=some (.slice ea2 qe.length ec2))
     (first|exact KEEP2.o _ HB9.o.drew|exact KEEP2.o _ (In HB9.o.drew hb8))
     (first|(go_at_call 90;refine(oS p n o v _ _ qe te _ HO.o hq0 hq3 HLL.o HQB.o.1 HQB.o.2 ?_ ?_).mono ?_;exact HSE2.o.below HB9.o.drew;exact HSE.o.below HB9.o.drew;rintro e w8 ⟨rfl,hb8⟩))
    have HB8:=ae (show Io w1 w8 from In HB9.o.drew hb8);clear hb8;go_wp2_with fail;go_ret;exact⟨rfl,In HBW.o HB8.o⟩
   .have HEE:Po (fZ p n o ts k=0):=by show _=_;rw[HER.o,OV (by simpa using HZ.o),HPE.o,OV];show¬ol o qe te=false;unfold ol;rw[Oy (show 0<aW o qe te by omega)];simp
    rw[HEE.o];go_enter func101,ntmps101;go_wp2_with fail;rw[<-hw1];clear hw1;go_region_held (λW=>Po (Io w1 W)/\W.cell? (PN w.heap.size 0)=some (PO p)/\W.cell? (PN w.heap.size 1)=some (PO n)/\W.cell? (PN w.heap.size 2)=some (PO o)/\W.cell? (PN w.heap.size 3)=some (PO v)/\W.cell? ⟨b,off+k*2,none⟩=some (PO tc)/\W.cell? ⟨b,off+k*2+1,none⟩=some (.slice ea te.length ec))
     (first|exact KEEP.o _ HB0.o|exact KEEP.o _ (In HB0.o hb9))
     (first|(go_at_call 132;refine(sX p n o v 1 tc _ te _ HR.o ?_).mono ?_;exact HSE.o.below HB0.o;rintro e w9 ⟨rfl,hb9⟩))
    have HB9:=ae (show Io w1 w9 from In HB0.o hb9);clear hb9;rw[HZ.o];go_wp2_with fail;go_region_held (λW=>Po (Io w1 W)/\W.cell? (PN w.heap.size 0)=some (PO p)/\W.cell? (PN w.heap.size 1)=some (PO n)/\W.cell? (PN w.heap.size 2)=some (PO o)/\W.cell? (PN w.heap.size 3)=some (PO v)/\W.cell? ⟨b,off+k*2,none⟩=some (PO tc)/\W.cell? ⟨b,off+k*2+1,none⟩=some (.slice ea te.length ec)/\W.cell? ⟨b,off+(k-1)*2+1,none⟩=some (.slice ea2 qe.length ec2))
     (first|exact KEEP2.o _ HB9.o.drew|exact KEEP2.o _ (In HB9.o.drew hb8))
     (first|(go_at_call 90;refine(oS p n o v _ _ qe te _ HO.o hq0 hq3 HLL.o HQB.o.1 HQB.o.2 ?_ ?_).mono ?_;exact HSE2.o.below HB9.o.drew;exact HSE.o.below HB9.o.drew;rintro e w8 ⟨rfl,hb8⟩))
    have HB8:=ae (show Io w1 w8 from In HB9.o.drew hb8);clear hb8;go_wp2_with fail;go_ret;exact⟨rfl,In HBW.o HB8.o⟩
 .have HEE:Po (fZ p n o ts k=fR 1 p n (tc,te)):=by show _=_;rw[HER.o,OW (by simpa using hz)]
  rw[HEE.o];go_enter func101,ntmps101;go_wp2_with fail;rw[<-hw1];clear hw1;go_region_held (λW=>Po (Io w1 W)/\W.cell? (PN w.heap.size 0)=some (PO p)/\W.cell? (PN w.heap.size 1)=some (PO n)/\W.cell? (PN w.heap.size 2)=some (PO o)/\W.cell? (PN w.heap.size 3)=some (PO v)/\W.cell? ⟨b,off+k*2,none⟩=some (PO tc)/\W.cell? ⟨b,off+k*2+1,none⟩=some (.slice ea te.length ec))
   (first|exact KEEP.o _ HB0.o|exact KEEP.o _ (In HB0.o hb9))
   (first|(go_at_call 132;refine(sX p n o v 1 tc _ te _ HR.o ?_).mono ?_;exact HSE.o.below HB0.o;rintro e w9 ⟨rfl,hb9⟩))
  have HB9:=ae (show Io w1 w9 from In HB0.o hb9);clear hb9;go_wp2;go_ret;exact⟨rfl,In HBW.o HB9.o⟩
def kK(p n o v:Int)(len:Nat)(E:Nat->Int):Int:=if bE p n o v≠0 then bE p n o v else if 2000<len then 2 else dD E len 0
theorem xq(E:Nat->Int)(m:Nat):∀k,k<=m->(∀j,j<k->E j=0)->dD E m 0=dD E (m-k) k
 |0,_,_=>rfl
 |k+1,hk,h=>by rw[xq E m k (by omega) (λj hj=>h j (by omega)),Dj E (show k<m by omega),OV (by simpa using h k (by omega))]
variable{E:Nat->Int}
theorem sY(h:∀j,j<m->E j=0):dD E m 0=0:=by rw[xq E m m (Ou _) h,Nat.sub_self];rfl
theorem sZ(hk:k<m)(h:∀j,j<k->E j=0)(h2:E k≠0):dD E m 0=E k:=by rw[xq E m k (by omega) h,Dj E hk,OW h2]
theorem Mr(p n o v:Int)(lv:PK)(ts:LT)(rb fb:Nat)(E:Nat->Int)(w:PJ)(pf:Pl w lv ts)(H:bE p n o v=0->ts.length<=2000->∀i w',i<ts.length->(∀j,j<i->E j=0)->Io w w'->Calls prog 100 #[PO i,PL rb,PL fb] w' λe w''=>e=.returned (PO (E i))/\Io w' w''):Calls prog 99 #[aI p n o v,lv,.func (.func 100) #[] #[PL rb,PL fb]] w λe w'=>e=.returned (PO (kK p n o v ts.length E))/\Io w w':=by
 obtain⟨a,c,rfl,_,_⟩:=pf;have HH:=ae H;clear H;cases hR:(bE p n o v !=0)
 .have hR0:bE p n o v=0:=by simpa using hR
  have HR:=ae hR0;clear hR0;by_cases hlen:2000<ts.length
  .have he:kK p n o v ts.length E=2:=by unfold kK;rw[OV (by simpa using HR.o),OW hlen]
   rw[he];clear he;go_enter func99,ntmps99;go_wp2_with (go_at_call 55;refine(jk _ _ _ _ _).mono ?_;rintro e w1 ⟨rfl,hb1⟩);go_ret;exact⟨rfl,aY.trans (hb1.mono (by simp))⟩
  .have he:kK p n o v ts.length E=dD E ts.length 0:=by unfold kK;rw[OV (by simpa using HR.o),OV hlen]
   rw[he];clear he;go_enter func99,ntmps99;go_wp2_with (go_at_call 55;refine(jk _ _ _ _ _).mono ?_;rintro e w1 ⟨rfl,hb1⟩);have HB1:=ae (show Io w w1 from aY.trans (hb1.mono (by simp)));clear hb1;go_loopw [20] (λi wr=>∃k:Nat,k<=ts.length/\i=PO k/\(∀j,j<k->E j=0)/\Io w1 wr) (λi _=>ts.length-(intOf i).toNat);case atStart=>exact⟨0,OB _,rfl,λj hj=>by omega,Ov _ _⟩
   case round=>
    obtain⟨k,hk,rfl,hz,hbr⟩:=hrel;have HZ:=ae hz;have HDN:=ae (In HB1.o hbr);have HBR:=ae hbr;clear hz hbr;by_cases hk2:k<ts.length
    .have HC:=ae (HH.o HR.o (by omega) k wr hk2 HZ.o HDN.o);have HHIT:=ae (λh=>sZ (E:=E) hk2 HZ.o h);cases he:(E k !=0)
     .have HE0:Po (E k=0):=by simpa [Po] using he
      go_wp2_with (go_at_call 100;refine HC.o.mono ?_;rintro e w2 ⟨rfl,hb2⟩;have HB2:=ae (In HBR.o hb2);clear hb2);go_roundw;case rel=>exact⟨k+1,by omega,by go_num,λj hj=>by
       rcases Nat.lt_or_ge j k with h|h
       .exact HZ.o j h
       .rw[show j=k by omega];exact HE0.o,HB2.o⟩
      case measure=>simp[intOf];omega
     .go_wp2_with (go_at_call 100;refine HC.o.mono ?_;rintro e w2 ⟨rfl,hb2⟩;have HB2:=ae (In HBR.o hb2);clear hb2);go_ret;exact⟨et (HHIT.o (by simpa using he)).symm,In HB1.o HB2.o⟩
    .go_wp2;go_ret;exact⟨et (sY (λj hj=>HZ.o j (by omega))).symm,In HB1.o HBR.o⟩
 .have he:kK p n o v ts.length E=bE p n o v:=by unfold kK;rw[OW (by simpa using hR)]
  rw[he];clear he;go_enter func99,ntmps99;go_wp2_with (go_at_call 55;refine(jk _ _ _ _ _).mono ?_;rintro e w1 ⟨rfl,hb1⟩);go_ret;exact⟨rfl,aY.trans (hb1.mono (by simp))⟩
theorem Ms(p n o v:Int)(k rb fb:Nat)(fv:PK)(ts:LT)(w:PJ)(hR:bE p n o v=0)(hk2:k<ts.length)(hlen:ts.length<=2000)(hq:∀j,j<k->cU n (ts.getD j bV).2=0)(bx:bO w rb p n o v)(hc:w.cell? (PN fb 0)=some fv)(pf:Pl w fv ts):Calls prog 100 #[PO k,PL rb,PL fb] w λe w'=>e=.returned (PO (fZ p n o ts k))/\Io w w':=by have HP:=ae pf;have HC:=ae (λW (h:Pl W fv ts)=>Mq p n o v fv ts k W hR hk2 hlen hq h);obtain⟨_,bx0,bx1,bx2,bx3⟩:=bx;obtain⟨a,c,rfl,_,_⟩:=pf;clear hR hq;go_enter func100,ntmps100;go_wp2_with (go_at_call 101;refine(HC.o _ HP.o).mono ?_;rintro e w1 ⟨rfl,hb1⟩;have HB:=ae hb1;clear hb1);go_ret;exact⟨rfl,HB.o⟩
def gB(p n o v:Int)(ts:LT):Int:=if bE p n o v≠0 then bE p n o v else ep p n o ts
theorem Mu(p n o v:Int)(ts:LT):kK p n o v ts.length (fZ p n o ts)=gB p n o v ts:=by unfold kK gB ep;rw[Dk ts ts.length 0 (by omega)];rfl
def ag(p n o v:Int):Lt->Int
 |[]=>0
 |f::r=>if gB p n o v f≠0 then gB p n o v f else ag p n o v r
theorem Mv(p n o v:Int)(fss:Lt)(k:Nat)(h:k<fss.length):ag p n o v (fss.drop k)=if gB p n o v (fss.getD k [])≠0 then gB p n o v (fss.getD k []) else ag p n o v (fss.drop (k+1)):=by rw[Pd h];simp[ag,OH,h]
theorem sE{n:Int}:gB p n o v ts=0↔bE p n o v=0/\ep p n o ts=0:=by
 unfold gB;by_cases h1:bE p n o v=0
 .rw[OV (by simpa using h1)];simp[h1]
 .rw[OW h1];simp[h1]
theorem Mw(p n o v:Int)(lv:PK)(fss:Lt)(w:PJ)(hm:fss.length<=1200000000000)(hs:Vl w lv fss):Calls prog 62 #[aI p n o v,lv] w λe w'=>e=.returned (PO (ag p n o v fss))/\Io w w':=by
 have HS:=ae hs;obtain⟨la,lc,rfl,hat0⟩:=hs;have HAT:=ae hat0;obtain⟨w1,hw1⟩:∃w1,w1=w.alloc (.cells #[PO p,PO n,PO o,PO v] 23):=⟨_,rfl⟩;have hbx:bO w1 w.heap.size p n o v:=by rw[hw1];exact bO.new w p n o v _
 have hbw:Io w w1:=by rw[hw1];exact aY
 have HBX:=ae hbx;have HBW:=ae hbw;clear hat0 hbx hbw;go_enter func62,ntmps62;go_wp2_with fail;rw[<-hw1];clear hw1;go_loopw [10] (λi wr=>∃k:Nat,k<=fss.length/\i=PO k/\ag p n o v fss=ag p n o v (fss.drop k)/\Io w1 wr) (λi _=>fss.length-(intOf i).toNat);case atStart=>exact⟨0,OB _,rfl,by simp,Ov _ _⟩
 case round=>
  obtain⟨k,hk,rfl,hcur,hbr⟩:=hrel;have HBR:=ae hbr;clear hbr;by_cases hk2:k<fss.length
  .obtain⟨b,off,rfl,hlt,hat⟩:=HAT.o (by omega);obtain⟨vv,hcell,hsl⟩:=hat k hk2;have HER:=ae (hcur.trans (Mv p n o v fss k hk2));have HDN:=ae (In HBW.o HBR.o);have d0:=af hcell HDN.o;generalize fss.getD k []=f at hsl HER;have HSL:=ae (hsl.below HDN.o);obtain⟨fa,fc,rfl,_,_⟩:=hsl;have HBX2:=ae (HBX.o.below HBR.o);obtain⟨_,bx0,bx1,bx2,bx3⟩:=HBX.o.below HBR.o;clear hcur hat hcell;have HBN:Po (∀A,Io wr (wr.alloc A)):=λA=>ai;have y0:=λA=>af bx0 (HBN.o A);have y1:=λA=>af bx1 (HBN.o A);have y2:=λA=>af bx2 (HBN.o A);have y3:=λA=>af bx3 (HBN.o A);obtain⟨w2,hw2⟩:∃w2,w2=wr.alloc (.cells #[.slice fa f.length fc] 40):=⟨_,rfl⟩;have HB2:Po (Io wr w2):=by rw[hw2];exact HBN.o _
   have HCF:Po (w2.cell? (PN wr.heap.size 0)=some (.slice fa f.length fc)):=by show _=_;rw[hw2];simp[go_sem]
   have HCT:=ae (Mr p n o v _ f w.heap.size wr.heap.size (fZ p n o f) w2 (HSL.o.below HB2.o) (λhr hl i w' hi hj hb=>Ms p n o v i w.heap.size wr.heap.size _ f w' hr hi hl (λj hjj=>Mn (hj j hjj)) ((HBX2.o.below HB2.o).below hb) (af HCF.o hb) ((HSL.o.below HB2.o).below hb)));rw[Mu] at HCT;cases hz:(gB p n o v f !=0)
   .go_wp2_with fail;try rw[<-hw2]
    refine HCT.o.mono ?_;rintro e w3 ⟨rfl,hb3⟩;have HB3:=ae (In HBR.o (In HB2.o hb3));clear hb3;go_wp2_with fail;go_roundw;case rel=>exact⟨k+1,Nat.succ_le_of_lt hk2,by go_num,by rw[HER.o,OV (by simpa using hz)],HB3.o⟩
    case measure=>simp[intOf];omega
   .go_wp2_with fail;try rw[<-hw2]
    refine HCT.o.mono ?_;rintro e w3 ⟨rfl,hb3⟩;have HB3:=ae (In HBR.o (In HB2.o hb3));clear hb3;go_wp2_with fail;go_ret;exact⟨et (by rw[HER.o,OW (by simpa using hz)]),In HBW.o HB3.o⟩
  .go_wp2;go_ret;exact⟨et (by rw[hcur,Pe (by omega)];rfl),In HBW.o HBR.o⟩
theorem Dl{p n o v:Int}:∀{fss:Lt},ag p n o v fss=0->∀f∈fss,gB p n o v f=0
 |[],_,f,hf=>by simp at hf
 |g::r,h,f,hf=>by
  unfold ag at h;by_cases hg:gB p n o v g=0
  .rw[OV (by simpa using hg)] at h;rcases OY.1 hf with rfl|hf
   .exact hg
   .exact Dl h f hf
  .rw[OW hg] at h;exact absurd h hg
theorem wM{p n o v:Int}:∀{fss:Lt},(∀f∈fss,gB p n o v f=0)->ag p n o v fss=0
 |[],_=>rfl
 |g::r,h=>by unfold ag;rw[OV (by simpa using h g (by simp))];exact wM (λf hf=>h f (by simp[hf]))
theorem wK(p n o v:Int):su p n o v (ag p n o v):=by
 refine⟨λfss lv w hm hs=>Mw p n o v lv fss w hm hs,λfss hne h=>?_,λhr fss h=>wM (λf hf=>sE.2 ⟨hr,h f hf⟩)⟩;have hall:=Dl h;cases fss with
 |nil=>exact absurd rfl hne
 |cons g r=>exact⟨(sE.1 (hall g (by simp))).1,λf hf=>(sE.1 (hall f hf)).2⟩
variable{B g n:Nat}{w:PJ}
theorem Mx{T:TypeId}{xs:PH}(h:w.ownsRow B T 1 (PM g n n) n xs)(hs:∀u∈xs,∃a n c,u=.slice a n c):cG w g:=by
 rcases h.2 with ⟨h1,_⟩|⟨g',cap,ag,h1,hb,hg,hn,hm,hcs,ht⟩
 .simp at h1
 .simp only[OQ,OP,Addr.mk.injEq,and_true,true_and] at h1;obtain⟨rfl,rfl⟩:=h1;refine r8 hg (λu hu=>hs u ?_);rw[<-ht,OO (by rw[Array.length_toList,hcs];exact Ou _)];exact hu
structure fH(w wr:PJ)(g n:Nat)(us:PH)(fss:Lt):Prop where
 own:∃rest,wr.ownsRow w.heap.size 40 1 (PM g n n) n (us++rest)/\(us++rest).length=n/\∀u∈us++rest,∃a n c,u=.slice a n c
 len:us.length=fss.length
 pls:∀i,i<fss.length->Pl wr (us.getD i aL) (fss.getD i [])
 below:Io w wr
 ge:w.heap.size<=g
variable{fss:Lt}{us:PH}{wr w':PJ}
theorem fH.next(h:fH w wr g n us fss)(hb:Io wr w'):fH w w' g n us fss:=by obtain⟨rest,h1,h2,h3⟩:=h.own;exact⟨⟨rest,aF h1 hb,h2,h3⟩,h.len,λi hi=>(h.pls i hi).below hb,In h.below hb,h.ge⟩
theorem fH.cells(h:fH w wr g n us fss)(hk:us.length<n):∃a,wr.cell? (PN g us.length)=some a/\wr.frozen? (PN g us.length)=false:=by obtain⟨rest,h1,h2,_⟩:=h.own;have e1:=h1.cellAt us.length (by omega);rw[OI (by omega)] at e1;exact⟨_,e1,h1.frozenAt _⟩
theorem My(l:PH)(a:PK):∀r:PH,1<=r.length->(l++r).set l.length a=l++[a]++r.drop 1
 |[],h=>by simp at h
 |x::r,_=>by simp[List.set_append_right]
theorem fH.put(h:fH w wr g n us fss)(hk:us.length<n)(u:PK)(f:LT)(hu:Pl wr u f):fH w (wr.setCell (PN g us.length) u) g n (us++[u]) (fss++[f]):=by
 obtain⟨rest,h1,h2,h3⟩:=h.own;have s1:=h1.stored us.length u;have hk2:=Mx h1 h3;have hus:∃a n c,u=.slice a n c:=by obtain⟨a,c,e,_⟩:=hu;exact⟨_,_,_,e⟩
 rw[OM] at h2;have e:=My us u rest (by omega);refine⟨⟨rest.drop 1,by rw[<-e];exact s1.1,by rw[OM,OM,List.length_drop];simp;omega,λx hx=>?_⟩,by simp[h.len],λi hi=>?_,h.below.trans (cQ s1.2 h.ge h.below.size),h.ge⟩
 .rcases OK.1 hx with hx|hx
  .rcases OK.1 hx with hx|hx
   .exact h3 x (OK.2 (Pf hx))
   .rw[OL] at hx;rw[hx];exact hus
  .exact h3 x (OK.2 (Pg (List.mem_of_mem_drop hx)))
 .rw[OM] at hi;simp only[OZ,List.length_nil] at hi;rcases Nat.lt_or_ge i fss.length with hl|hl
  .have e1:(us++[u]).getD i aL=us.getD i aL:=by simp[OH,O4 (show i<us.length by rw[h.len];exact hl)]
   have e2:(fss++[f]).getD i []=fss.getD i []:=by simp[OH,O4 hl]
   rw[e1,e2];exact mD hk2 s1.2 (h.pls i hl)
  .have e:i=fss.length:=by omega
   subst e;have e1:(us++[u]).getD fss.length aL=u:=by rw[<-h.len];simp[OH]
   have e2:(fss++[f]).getD fss.length []=f:=by simp[OH]
   rw[e1,e2];exact mD hk2 s1.2 hu
theorem fH.done(h:fH w wr g n us fss)(hn:us.length=n):Vl wr (PM g n n) fss:=by
 obtain⟨rest,h1,h2,_⟩:=h.own;have hlt:=(Ot h1 g rfl).2;refine⟨_,n,by rw[<-h.len,hn],λ_=>⟨g,0,rfl,hlt,λi hi=>⟨us.getD i aL,?_,h.pls i hi⟩⟩⟩;have hi2:i<us.length:=by rw[h.len];exact hi
 rw[ON,h1.cellAt i (by omega),O4 hi2];simp[OH,hi2]
theorem fH.made(h:w'.ownsRow w.heap.size 40 1 (PM w.heap.size n n) n (madeCells (Value.cells (.slice none 0 0)) (n*1)).toList)(hg:w.grownBy w' none):fH w w' w.heap.size n [] []:=by refine⟨⟨_,h,by simp[size_madeCells],λu hu=>?_⟩,rfl,λi hi=>by simp at hi,⟨hg.os,hg.tape,hg.output,hg.size,λk hk=>hg.block k hk (by simp)⟩,Ou _⟩;simp[madeCells,Value.cells] at hu;obtain⟨l,_,hx⟩:=hu;rw[Nat.mod_one] at hx;exact⟨none,0,0,by rw[<-hx];rfl⟩
def ke(E:Nat->Int)(R:Nat->LT)(n:Nat):Lt:=if dD E n 0=0 then (List.range n).map R else []
variable{R:Nat->LT}
theorem xr(h:dD E n 0=0):ke E R n=(List.range n).map R:=by unfold ke;rw[OW h]
theorem xt(h:dD E n 0≠0):ke E R n=[]:=by unfold ke;rw[OV h]
theorem ta{α:Type}(R:Nat->α)(k:Nat):(List.range (k+1)).map R=(List.range k).map R++[R k]:=by rw[List.range_succ,O0];rfl
theorem Kn(rb wb:Nat)(x:PK)(fss:Lt)(E:Nat->Int)(R:Nat->LT)(w:PJ)(hm:fss.length<=1000)(pf:Vl w x fss)(H:∀i w' fa fc,i<fss.length->Io w w'->Pl w' (.slice fa (fss.getD i []).length fc) (fss.getD i [])->Calls prog 30 #[PO i,.slice fa (fss.getD i []).length fc,PL rb,PL wb] w' λe w''=>∃u,e=.returned (.tuple #[u,PO (E i)])/\Pl w'' u (R i)/\Io w' w''):Calls prog 26 #[x,.func (.func 30) #[] #[PL rb,PL wb]] w λe w'=>∃u,e=.returned (.tuple #[u,PO (dD E fss.length 0)])/\Vl w' u (ke E R fss.length)/\Io w w':=by
 have HX:=ae pf;have HH:=ae H;obtain⟨ax,cx,rfl,_⟩:=pf;obtain⟨i0,hi,hz0,hz1,hz2⟩:=info_parts Tryz.infoPolyW;clear H;go_enter func26,ntmps26;go_wp2_with (at_make;refine wpList_make_full _ rfl _ _ 32 rfl w.heap.size 40 i0 _ 1 underlying32 hi hz0 hz1 .i64 .i64 _ _ fss.length rfl rfl rfl rfl (by rw[hz2];omega) (by unfold maxLen;omega) (Ou _) ?_;intro w1 hown hgrow;have HV0:=ae (fH.made hown hgrow);clear hown hgrow);clear hi hz0 hz1 hz2;go_loopw [16] (λi wr=>∃(k:Nat)(us:PH),k<=fss.length/\i=PO k/\us.length=k/\(∀j,j<k->E j=0)/\fH w wr w.heap.size fss.length us ((List.range k).map R)) (λi _=>fss.length-(intOf i).toNat);case atStart=>exact⟨0,[],OB _,rfl,rfl,λj hj=>by omega,HV0.o⟩
 case round=>
  clear HV0;obtain⟨k,us,hk,rfl,hul,hz,hv⟩:=hrel;have HZ:=ae hz;have HV:=ae hv;have HUL:=ae hul;clear hz hv hul;by_cases hk2:k<fss.length
  .obtain⟨b,off,fa,fc,rfl,hlt,c0,hpf⟩:=jD HX.o k hk2;have d0:=af c0 HV.o.below;have HC:=ae (HH.o k wr fa fc hk2 HV.o.below (hpf.below HV.o.below));have HHIT:=ae (λh=>sZ (E:=E) hk2 HZ.o h);generalize fss.getD k []=f at c0 d0 hpf HC;clear c0 hpf;cases he:(E k !=0)
   .have HE0:Po (E k=0):=by simpa [Po] using he
    go_wp2_with (go_at_call 30;refine HC.o.mono ?_;rintro e w2 ⟨u,rfl,hu,hb2⟩;have HV2:=ae (HV.o.next hb2);have HU:=ae hu;obtain⟨ua,uc,rfl,_,_⟩:=hu;obtain⟨ov,x0,x1⟩:=HV2.o.cells (by have:=HUL.o;omega);rw[HUL.o] at x0 x1;clear hb2);go_roundw;case rel=>
     refine⟨k+1,us++[.slice ua (R k).length uc],by omega,by go_num,by rw[pB,HUL.o],λj hj=>?_,?_⟩
     .rcases Nat.lt_or_ge j k with h|h
      .exact HZ.o j h
      .rw[show j=k by omega];exact HE0.o
     .rw[ta];have h:=HV2.o.put (by have:=HUL.o;omega) _ _ HU.o;rw[HUL.o] at h;exact h
    case measure=>simp[intOf];omega
   .have HF:Po (dD E fss.length 0=E k):=HHIT.o (by simpa using he);have HNE:Po (E k≠0):=by simpa [Po] using he
    go_wp2_with (go_at_call 30;refine HC.o.mono ?_;rintro e w2 ⟨u,rfl,hu,hb2⟩;have HV2:=ae (HV.o.next hb2);obtain⟨ua,uc,rfl,_,_⟩:=hu;clear hb2);go_ret2;refine⟨.slice none 0 0,by rw[HF.o];rfl,?_,HV2.o.below⟩;rw[xt (by rw[HF.o];exact HNE.o)];exact⟨none,0,rfl,λh=>by simp at h⟩
  .have e:k=fss.length:=by omega
   subst e;have HF:Po (dD E fss.length 0=0):=sY HZ.o;have HD:=ae (HV.o.done HUL.o);go_wp2;go_ret2;refine⟨PM w.heap.size fss.length fss.length,by rw[HF.o];rfl,?_,HV.o.below⟩;rw[xr HF.o];exact HD.o
structure oC(w1 w:PJ)(sv:PK)(qs:List (TV×PK)):Prop where
 own:w.ownsRow w1.heap.size 40 1 sv qs.length (qs.map Prod.snd)
 rows:∀q∈qs,w.ownsRow w1.heap.size 47 2 q.2 1 (bm [q.1])
 es:∀q∈qs,Sl w1 q.1.2.1 q.1.2.2
 below:Io w1 w
variable{qs:List (TV×PK)}{sv:PK}{w1:PJ}
theorem oC.next(h:oC w1 w sv qs)(hb:Io w w'):oC w1 w' sv qs:=
 ⟨aF h.own hb,λq hq=>aF (h.rows q hq) hb,h.es,In h.below hb⟩
theorem oC.snoc{W W2:PJ}{sv2:PK}{q:TV×PK}(h:oC w1 W sv qs)(hq:W.ownsRow w1.heap.size 47 2 q.2 1 (bm [q.1]))(he:Sl w1 q.1.2.1 q.1.2.2)(h2:W2.ownsRow w1.heap.size 40 1 sv2 (qs.length+1) (qs.map Prod.snd++[q.2]))(g2:W.grownBy W2 sv.ownBlock):oC w1 W2 sv2 (qs++[q]):=by
 have hT:(47:TypeId)≠40:=by decide
 refine⟨by rw[OM,O0];exact h2,λr hr=>?_,λr hr=>?_,eS h.own h.below g2 (Ou _)⟩
 .rcases OK.1 hr with hr|hr
  .exact(h.rows r hr).kept g2 (i5 hT (h.rows r hr) h.own)
  .rw[OL] at hr;subst hr;exact hq.kept g2 (i5 hT hq h.own)
 .rcases OK.1 hr with hr|hr
  .exact h.es r hr
  .rw[OL] at hr;subst hr;exact he
theorem p9(hB:B<=w.heap.size)(c:Int)(ev:PK):(w.alloc (.cells #[PO c,ev] 47)).ownsRow B 47 2 (PM w.heap.size 1 1) 1 [PO c,ev]:=
 ⟨by simp,.inr ⟨w.heap.size,1,_,rfl,hB,heap_alloc_new w _,Ou _,by decide,by simp,by simp⟩⟩
end Go.Proofs.YtjkalahhpobefaaGreat
