/- checkTerm, checkFalling: what is told of one term. -/
import Derived.Test.YtglijodcbdcngaaGreatPM
import Derived.Test.YtglijodcbdcngaaGreatRE
import Derived.Test.YtglijodcbdcngaaGreatWB
import Derived.Test.YtglijodcbdcngaaGreatFG
set_option maxHeartbeats 2000000
set_option maxRecDepth 100000
namespace Go.Proofs.YtglijodcbdcngaaGreat
set_option linter.unusedSimpArgs false
set_option linter.unusedVariables false
open Go.Proofs.Tryz Go.RowKit
def eO(least p n:Int)(t:Tm):Int:=if t.1<least\/p<=t.1 then 3 else bL n t.2
def eW(p n o:Int)(ts:List Tm)(k:Nat):Int:=
 if eO 1 p n (ts.getD k aM)≠0 then eO 1 p n (ts.getD k aM) else if iz o (g9 ts k) (ts.getD k aM).2=false then 4 else 0
def ee(E:Nat->Int):Nat->Nat->Int
 |0,_=>0
 |m+1,k=>if E k≠0 then E k else ee E m (k+1)
theorem yD(E:Nat->Int){k m:Nat}(h:k<m):ee E (m-k) k=if E k≠0 then E k else ee E (m-(k+1)) (k+1):=by obtain⟨d,rfl⟩:∃d,m=k+1+d:=⟨m-(k+1),by omega⟩;rw[show k+1+d-k=d+1 by omega,show k+1+d-(k+1)=d by omega];rfl
theorem yE{p n o:Int}(ts:List Tm):∀(m k:Nat),k+m=ts.length->ee (eW p n o ts) m k=iA p n o (g9 ts k) (ts.drop k)
 |0,k,h=>by rw[List.drop_eq_nil_of_le (by omega)];rfl
 |m+1,k,h=>by
  have hk:k<ts.length:=by omega
  rw[yw p n o ts k hk];have ih:=yE (p:=p) (n:=n) (o:=o) ts m (k+1) (by omega);have hu:ee (eW p n o ts) (m+1) k=if eW p n o ts k≠0 then eW p n o ts k else ee (eW p n o ts) m (k+1):=rfl
  rw[hu,ih];unfold eW eO;generalize ts.getD k aM=t;have hb:bW t.1 1 (p-1)=false↔(t.1<1\/p<=t.1):=by
   have e:bW t.1 1 (p-1)=decide (1<=t.1/\t.1<=p-1):=by simp[bW]
   rw[e,decide_eq_false_iff_not];omega
  by_cases h1:t.1<1\/p<=t.1
  ·rw[if_pos (hb.2 h1),if_pos h1];simp
  ·rw[if_neg (λh=>h1 (hb.1 h)),if_neg h1];by_cases h2:bL n t.2≠0
   ·rw[if_pos h2,if_pos h2,if_pos h2]
   ·rw[if_neg h2,if_neg h2];cases h3:iz o (g9 ts k) t.2<;>simp
theorem FH{p n o:Int}{ts:List Tm}{k:Nat}(h:eW p n o ts k=0):bL n (ts.getD k aM).2=0:=by
 unfold eW at h;by_cases h1:eO 1 p n (ts.getD k aM)=0
 ·unfold eO at h1;split at h1
  ·omega
  ·exact h1
 ·rw[if_pos h1] at h;exact absurd h h1
theorem FI{p n o v:Int}{te:List Int}(hR:bo p n o v=0):jI p n o v [te]=bL n te:=by
 unfold jI;rw[if_pos hR];simp only[i8];split
 ·rename_i h;exact h.symm
 ·rfl
theorem po(p n o v least c:Int)(ev:Value)(te:List Int)(w:World)(hR:bo p n o v=0)(hs:Sl w ev te):Calls prog 224 #[az p n o v,.int .i64 least,.agg #[.int .i64 c,ev]] w λe w'=>e=.returned (.int .i64 (eO least p n (c,te)))/\Below w.heap.size w w':=by
 have HS:=aa hs;have HALL:=aa (FI (te:=te) hR);obtain⟨a,cap,rfl,_⟩:=hs;have HB2:Ic (∀A B,Below w.heap.size w ((w.alloc A).alloc B)):=λA B=>cW;clear hR;by_cases h1:c<least
 ·have HE:Ic (eO least p n (c,te)=3):=by show _=_;unfold eO;rw[if_pos (Or.inl h1)]
  rw[HE.o];go_enter func224,ntmps224;go_wp2;go_ret;exact⟨rfl,HB2.o _ _⟩
 ·by_cases h2:p<=c
  ·have HE:Ic (eO least p n (c,te)=3):=by show _=_;unfold eO;rw[if_pos (Or.inr h2)]
   rw[HE.o];go_enter func224,ntmps224;go_wp2;go_ret;exact⟨rfl,HB2.o _ _⟩
  ·have HE:Ic (eO least p n (c,te)=bL n te):=by show _=_;unfold eO;rw[if_neg (by simp only;omega)]
   rw[HE.o];go_enter func224,ntmps224;go_wp2_with (go_at_call 262;refine(zH p n o v _ te _ (HS.o.below (HB2.o _ _))).mono ?_;rw[HALL.o];rintro e w2 ⟨rfl,hb2⟩;have HB9:=aa ((HB2.o _ _).trans (hb2.mono (HB2.o _ _).size));clear hb2);go_ret;exact⟨rfl,HB9.o⟩
theorem FJ(p n o v:Int)(fv:Value)(ts:List Tm)(k:Nat)(w:World)(hR:bo p n o v=0)(hk2:k<ts.length)(hlen:ts.length<=2000)(hq:∀j,j<k->bL n (ts.getD j aM).2=0)(pf:Pl w fv ts):Calls prog 192 #[az p n o v,fv,.int .i64 k] w λe w'=>e=.returned (.int .i64 (eW p n o ts k))/\Below w.heap.size w w':=by
 obtain⟨fa,fc,rfl,_,hfc⟩:=pf;obtain⟨b,off,rfl,hlt,hat⟩:=hfc (by omega);obtain⟨_,hn1,hn2,ho,_⟩:=kX hR;have HR:=aa hR;have HO:=aa ho;have HQ:=aa hq;obtain⟨w1,hw1⟩:∃w1,w1=w.alloc (.cells #[.int .i64 p,.int .i64 n,.int .i64 o,.int .i64 v] 23):=⟨_,rfl⟩;have hbx:aX w1 w.heap.size p n o v:=by rw[hw1];exact aX.new w p n o v _
 have hbw:Below w.heap.size w w1:=by rw[hw1];exact bp
 obtain⟨_,bx0,bx1,bx2,bx3⟩:=hbx;have HBW:=aa hbw;have HB0:Ic (Below w1.heap.size w1 w1.drew):=(Hf _ _).drew;obtain⟨c0,ev,c1,hse⟩:=hat k hk2;have HAT:=aa hat;have HER:Ic (eW p n o ts k=if eO 1 p n (ts.getD k aM)≠0 then eO 1 p n (ts.getD k aM) else if iz o (g9 ts k) (ts.getD k aM).2=false then 4 else 0):=rfl;generalize ts.getD k aM=t at c0 hse HER;obtain⟨tc,te⟩:=t;have HSE:=aa (hse.below hbw);obtain⟨ea,ec,rfl,_⟩:=hse;simp only at c0 c1 HER;have KEEP:Ic (∀W,Below w1.heap.size w1 W->(Ic (Below w1.heap.size w1 W)/\W.cell? ⟨w.heap.size,0,none⟩=some (.int .i64 p)/\W.cell? ⟨w.heap.size,1,none⟩=some (.int .i64 n)/\W.cell? ⟨w.heap.size,2,none⟩=some (.int .i64 o)/\W.cell? ⟨w.heap.size,3,none⟩=some (.int .i64 v)/\W.cell? ⟨b,off+k*2,none⟩=some (.int .i64 tc)/\W.cell? ⟨b,off+k*2+1,none⟩=some (.slice ea te.length ec))):=
  λW hb=>⟨hb,ae bx0 hb,ae bx1 hb,ae bx2 hb,ae bx3 hb,ae (ae c0 hbw) hb,ae (ae c1 hbw) hb⟩
 have KEEPC:=aa (fun(W:World)(hb:Below w1.heap.size w1 W)(b2 o2:Nat)(u:Value)(hc:w.cell? ⟨b2,o2,none⟩=some u)=>ae (ae hc hbw) hb);clear hR ho hq hat c0 c1 bx0 bx1 bx2 bx3 hbw;cases hz:(eO 1 p n (tc,te) !=0)
 ·have hz0:eO 1 p n (tc,te)=0:=by simpa using hz
  have HZ:=aa hz0;have hem:bL n te=0:=by
   unfold eO at hz0;split at hz0
   ·omega
   ·exact hz0
  have HEM:=aa hem;clear hz0 hem;rcases Nat.eq_zero_or_pos k with rfl|hpos
  ·simp only[Nat.zero_mul,Nat.add_zero] at KEEP;have HEE:Ic (eW p n o ts 0=0):=by show _=_;rw[HER.o,if_neg (by simpa using HZ.o),if_neg (by simp[g9,iz])]
   rw[HEE.o];go_enter func192,ntmps192;go_wp2_with fail;rw[<-hw1];clear hw1;go_region_held (λW=>Ic (Below w1.heap.size w1 W)/\W.cell? ⟨w.heap.size,0,none⟩=some (.int .i64 p)/\W.cell? ⟨w.heap.size,1,none⟩=some (.int .i64 n)/\W.cell? ⟨w.heap.size,2,none⟩=some (.int .i64 o)/\W.cell? ⟨w.heap.size,3,none⟩=some (.int .i64 v)/\W.cell? ⟨b,off,none⟩=some (.int .i64 tc)/\W.cell? ⟨b,off+1,none⟩=some (.slice ea te.length ec))
    (first|exact KEEP.o _ HB0.o|exact KEEP.o _ (HB0.o.trans (hb9.mono HB0.o.size)))
    (first|(go_at_call 224;refine(po p n o v 1 tc _ te _ HR.o ?_).mono ?_;exact HSE.o.below HB0.o;rintro e w9 ⟨rfl,hb9⟩))
   have HB9:=aa (show Below w1.heap.size w1 w9 from HB0.o.trans (hb9.mono HB0.o.size));clear hb9;rw[HZ.o];go_wp2_with fail;go_quiet (fail);have HQ1:=aa (below_drewN HB9.o nq);go_wp2;go_ret;exact⟨rfl,HBW.o.trans (HQ1.o.mono HBW.o.size)⟩
  ·have hk3:k-1<ts.length:=by omega
   obtain⟨_,ev2,d1,hse2⟩:=HAT.o (k-1) hk3;have HPE:Ic (g9 ts k=some (ts.getD (k-1) aM).2):=by obtain⟨m,rfl⟩:∃m,k=m+1:=⟨k-1,by omega⟩;rfl
   have HQE:=aa (HQ.o (k-1) (by omega));generalize ts.getD (k-1) aM=q at hse2 HPE HQE;obtain⟨qc,qe⟩:=q;have HSE2:=aa (hse2.below HBW.o);obtain⟨ea2,ec2,rfl,_⟩:=hse2;simp only at d1 HPE HQE;have hqo:=iD HQE.o;have hto:=iD HEM.o;have HLL:Ic (qe.length=te.length):=by have h1:=hqo.1;have h2:=hto.1;show _=_;omega
   have hq0:0<qe.length:=by have h1:=hqo.1;omega
   have hq3:qe.length<=3:=by have h1:=hqo.1;omega
   have HQB:=aa (Hg (show∀x∈qe,0<=x/\x<=40000 from λx hx=>by have:=hqo.2.1 x hx;omega) (show∀x∈te,0<=x/\x<=40000 from λx hx=>by have:=hto.2.1 x hx;omega));have KEEP2:Ic (∀W,Below w1.heap.size w1 W->(Ic (Below w1.heap.size w1 W)/\W.cell? ⟨w.heap.size,0,none⟩=some (.int .i64 p)/\W.cell? ⟨w.heap.size,1,none⟩=some (.int .i64 n)/\W.cell? ⟨w.heap.size,2,none⟩=some (.int .i64 o)/\W.cell? ⟨w.heap.size,3,none⟩=some (.int .i64 v)/\W.cell? ⟨b,off+k*2,none⟩=some (.int .i64 tc)/\W.cell? ⟨b,off+k*2+1,none⟩=some (.slice ea te.length ec)/\W.cell? ⟨b,off+(k-1)*2+1,none⟩=some (.slice ea2 qe.length ec2))):=λW hb=>by have h:=KEEP.o W hb;exact⟨h.1,h.2.1,h.2.2.1,h.2.2.2.1,h.2.2.2.2.1,h.2.2.2.2.2.1,h.2.2.2.2.2.2,KEEPC.o W hb _ _ _ d1⟩
   obtain⟨hq1,hq2,hq4,hq5,hq6,hq7,hq8⟩:=yA hpos hk2;have hwr:=yy hpos (Hk (Nat.le_of_lt hk2) hlen);clear hqo hto d1;by_cases hgt:aF o qe te<=0
   ·have HEE:Ic (eW p n o ts k=4):=by show _=_;rw[HER.o,if_neg (by simpa using HZ.o),HPE.o,if_pos];show cL o qe te=false;unfold cL;exact Hh (by omega)
    rw[HEE.o];go_enter func192,ntmps192;go_wp2_with fail;rw[<-hw1];clear hw1;go_region_held (λW=>Ic (Below w1.heap.size w1 W)/\W.cell? ⟨w.heap.size,0,none⟩=some (.int .i64 p)/\W.cell? ⟨w.heap.size,1,none⟩=some (.int .i64 n)/\W.cell? ⟨w.heap.size,2,none⟩=some (.int .i64 o)/\W.cell? ⟨w.heap.size,3,none⟩=some (.int .i64 v)/\W.cell? ⟨b,off+k*2,none⟩=some (.int .i64 tc)/\W.cell? ⟨b,off+k*2+1,none⟩=some (.slice ea te.length ec))
     (first|exact KEEP.o _ HB0.o|exact KEEP.o _ (HB0.o.trans (hb9.mono HB0.o.size)))
     (first|(go_at_call 224;refine(po p n o v 1 tc _ te _ HR.o ?_).mono ?_;exact HSE.o.below HB0.o;rintro e w9 ⟨rfl,hb9⟩))
    have HB9:=aa (show Below w1.heap.size w1 w9 from HB0.o.trans (hb9.mono HB0.o.size));clear hb9;rw[HZ.o];go_wp2_with fail;go_region_held (λW=>Ic (Below w1.heap.size w1 W)/\W.cell? ⟨w.heap.size,0,none⟩=some (.int .i64 p)/\W.cell? ⟨w.heap.size,1,none⟩=some (.int .i64 n)/\W.cell? ⟨w.heap.size,2,none⟩=some (.int .i64 o)/\W.cell? ⟨w.heap.size,3,none⟩=some (.int .i64 v)/\W.cell? ⟨b,off+k*2,none⟩=some (.int .i64 tc)/\W.cell? ⟨b,off+k*2+1,none⟩=some (.slice ea te.length ec)/\W.cell? ⟨b,off+(k-1)*2+1,none⟩=some (.slice ea2 qe.length ec2))
     (first|exact KEEP2.o _ HB9.o.drew|exact KEEP2.o _ (HB9.o.drew.trans (hb8.mono HB9.o.drew.size)))
     (first|(go_at_call 225;refine(mv p n o v _ _ qe te _ HO.o hq0 hq3 HLL.o HQB.o.1 HQB.o.2 ?_ ?_).mono ?_;exact HSE2.o.below HB9.o.drew;exact HSE.o.below HB9.o.drew;rintro e w8 ⟨rfl,hb8⟩))
    have HB8:=aa (show Below w1.heap.size w1 w8 from HB9.o.drew.trans (hb8.mono HB9.o.drew.size));clear hb8;go_wp2_with fail;go_ret;exact⟨rfl,HBW.o.trans (HB8.o.mono HBW.o.size)⟩
   ·have HEE:Ic (eW p n o ts k=0):=by show _=_;rw[HER.o,if_neg (by simpa using HZ.o),HPE.o,if_neg];show¬cL o qe te=false;unfold cL;rw[Hi (show 0<aF o qe te by omega)];simp
    rw[HEE.o];go_enter func192,ntmps192;go_wp2_with fail;rw[<-hw1];clear hw1;go_region_held (λW=>Ic (Below w1.heap.size w1 W)/\W.cell? ⟨w.heap.size,0,none⟩=some (.int .i64 p)/\W.cell? ⟨w.heap.size,1,none⟩=some (.int .i64 n)/\W.cell? ⟨w.heap.size,2,none⟩=some (.int .i64 o)/\W.cell? ⟨w.heap.size,3,none⟩=some (.int .i64 v)/\W.cell? ⟨b,off+k*2,none⟩=some (.int .i64 tc)/\W.cell? ⟨b,off+k*2+1,none⟩=some (.slice ea te.length ec))
     (first|exact KEEP.o _ HB0.o|exact KEEP.o _ (HB0.o.trans (hb9.mono HB0.o.size)))
     (first|(go_at_call 224;refine(po p n o v 1 tc _ te _ HR.o ?_).mono ?_;exact HSE.o.below HB0.o;rintro e w9 ⟨rfl,hb9⟩))
    have HB9:=aa (show Below w1.heap.size w1 w9 from HB0.o.trans (hb9.mono HB0.o.size));clear hb9;rw[HZ.o];go_wp2_with fail;go_region_held (λW=>Ic (Below w1.heap.size w1 W)/\W.cell? ⟨w.heap.size,0,none⟩=some (.int .i64 p)/\W.cell? ⟨w.heap.size,1,none⟩=some (.int .i64 n)/\W.cell? ⟨w.heap.size,2,none⟩=some (.int .i64 o)/\W.cell? ⟨w.heap.size,3,none⟩=some (.int .i64 v)/\W.cell? ⟨b,off+k*2,none⟩=some (.int .i64 tc)/\W.cell? ⟨b,off+k*2+1,none⟩=some (.slice ea te.length ec)/\W.cell? ⟨b,off+(k-1)*2+1,none⟩=some (.slice ea2 qe.length ec2))
     (first|exact KEEP2.o _ HB9.o.drew|exact KEEP2.o _ (HB9.o.drew.trans (hb8.mono HB9.o.drew.size)))
     (first|(go_at_call 225;refine(mv p n o v _ _ qe te _ HO.o hq0 hq3 HLL.o HQB.o.1 HQB.o.2 ?_ ?_).mono ?_;exact HSE2.o.below HB9.o.drew;exact HSE.o.below HB9.o.drew;rintro e w8 ⟨rfl,hb8⟩))
    have HB8:=aa (show Below w1.heap.size w1 w8 from HB9.o.drew.trans (hb8.mono HB9.o.drew.size));clear hb8;go_wp2_with fail;go_ret;exact⟨rfl,HBW.o.trans (HB8.o.mono HBW.o.size)⟩
 ·have HEE:Ic (eW p n o ts k=eO 1 p n (tc,te)):=by show _=_;rw[HER.o,if_pos (by simpa using hz)]
  rw[HEE.o];go_enter func192,ntmps192;go_wp2_with fail;rw[<-hw1];clear hw1;go_region_held (λW=>Ic (Below w1.heap.size w1 W)/\W.cell? ⟨w.heap.size,0,none⟩=some (.int .i64 p)/\W.cell? ⟨w.heap.size,1,none⟩=some (.int .i64 n)/\W.cell? ⟨w.heap.size,2,none⟩=some (.int .i64 o)/\W.cell? ⟨w.heap.size,3,none⟩=some (.int .i64 v)/\W.cell? ⟨b,off+k*2,none⟩=some (.int .i64 tc)/\W.cell? ⟨b,off+k*2+1,none⟩=some (.slice ea te.length ec))
   (first|exact KEEP.o _ HB0.o|exact KEEP.o _ (HB0.o.trans (hb9.mono HB0.o.size)))
   (first|(go_at_call 224;refine(po p n o v 1 tc _ te _ HR.o ?_).mono ?_;exact HSE.o.below HB0.o;rintro e w9 ⟨rfl,hb9⟩))
  have HB9:=aa (show Below w1.heap.size w1 w9 from HB0.o.trans (hb9.mono HB0.o.size));clear hb9;go_wp2;go_ret;exact⟨rfl,HBW.o.trans (HB9.o.mono HBW.o.size)⟩
def jC(p n o v:Int)(len:Nat)(E:Nat->Int):Int:=if bo p n o v≠0 then bo p n o v else if 2000<len then 2 else ee E len 0
theorem sf(E:Nat->Int)(m:Nat):∀k,k<=m->(∀j,j<k->E j=0)->ee E m 0=ee E (m-k) k
 |0,_,_=>rfl
 |k+1,hk,h=>by rw[sf E m k (by omega) (λj hj=>h j (by omega)),yD E (show k<m by omega),if_neg (by simpa using h k (by omega))]
theorem sg{E:Nat->Int}{m:Nat}(h:∀j,j<m->E j=0):ee E m 0=0:=by rw[sf E m m (He _) h,Nat.sub_self];rfl
theorem sh{E:Nat->Int}{m k:Nat}(hk:k<m)(h:∀j,j<k->E j=0)(h2:E k≠0):ee E m 0=E k:=by rw[sf E m k (by omega) h,yD E hk,if_pos h2]
theorem FK(p n o v:Int)(lv:Value)(ts:List Tm)(rb fb:Nat)(E:Nat->Int)(w:World)(pf:Pl w lv ts)(H:bo p n o v=0->ts.length<=2000->∀i w',i<ts.length->(∀j,j<i->E j=0)->Below w.heap.size w w'->Calls prog 191 #[.int .i64 i,.pointer (some ⟨rb,0,none⟩),.pointer (some ⟨fb,0,none⟩)] w' λe w''=>e=.returned (.int .i64 (E i))/\Below w'.heap.size w' w''):Calls prog 190 #[az p n o v,lv,.func (.func 191) #[] #[.pointer (some ⟨rb,0,none⟩),.pointer (some ⟨fb,0,none⟩)]] w λe w'=>e=.returned (.int .i64 (jC p n o v ts.length E))/\Below w.heap.size w w':=by
 obtain⟨a,c,rfl,_,_⟩:=pf;have HH:=aa H;clear H;cases hR:(bo p n o v !=0)
 ·have hR0:bo p n o v=0:=by simpa using hR
  have HR:=aa hR0;clear hR0;by_cases hlen:2000<ts.length
  ·have he:jC p n o v ts.length E=2:=by unfold jC;rw[if_neg (by simpa using HR.o),if_pos hlen]
   rw[he];clear he;go_enter func190,ntmps190;go_wp2_with (go_at_call 50;refine(i7 _ _ _ _ _).mono ?_;rintro e w1 ⟨rfl,hb1⟩);go_ret;exact⟨rfl,bp.trans (hb1.mono (by simp))⟩
  ·have he:jC p n o v ts.length E=ee E ts.length 0:=by unfold jC;rw[if_neg (by simpa using HR.o),if_neg hlen]
   rw[he];clear he;go_enter func190,ntmps190;go_wp2_with (go_at_call 50;refine(i7 _ _ _ _ _).mono ?_;rintro e w1 ⟨rfl,hb1⟩);have HB1:=aa (show Below w.heap.size w w1 from bp.trans (hb1.mono (by simp)));clear hb1;go_loopw [20] (λi wr=>∃k:Nat,k<=ts.length/\i=.int .i64 k/\(∀j,j<k->E j=0)/\Below w1.heap.size w1 wr) (λi _=>ts.length-(intOf i).toNat);case atStart=>exact⟨0,Hl _,rfl,λj hj=>by omega,Hf _ _⟩
   case round=>
    obtain⟨k,hk,rfl,hz,hbr⟩:=hrel;have HZ:=aa hz;have HDN:=aa (HB1.o.trans (hbr.mono HB1.o.size));have HBR:=aa hbr;clear hz hbr;by_cases hk2:k<ts.length
    ·have HC:=aa (HH.o HR.o (by omega) k wr hk2 HZ.o HDN.o);have HHIT:=aa (λh=>sh (E:=E) hk2 HZ.o h);cases he:(E k !=0)
     ·have HE0:Ic (E k=0):=by simpa [Ic] using he
      go_wp2_with (go_at_call 191;refine HC.o.mono ?_;rintro e w2 ⟨rfl,hb2⟩;have HB2:=aa (HBR.o.trans (hb2.mono HBR.o.size));clear hb2);go_roundw;case rel=>exact⟨k+1,by omega,by go_num,λj hj=>by
       rcases Nat.lt_or_ge j k with h|h
       ·exact HZ.o j h
       ·rw[show j=k by omega];exact HE0.o,HB2.o⟩
      case measure=>simp[intOf];omega
     ·go_wp2_with (go_at_call 191;refine HC.o.mono ?_;rintro e w2 ⟨rfl,hb2⟩;have HB2:=aa (HBR.o.trans (hb2.mono HBR.o.size));clear hb2);go_ret;exact⟨cm (HHIT.o (by simpa using he)).symm,HB1.o.trans (HB2.o.mono HB1.o.size)⟩
    ·go_wp2;go_ret;exact⟨cm (sg (λj hj=>HZ.o j (by omega))).symm,HB1.o.trans (HBR.o.mono HB1.o.size)⟩
 ·have he:jC p n o v ts.length E=bo p n o v:=by unfold jC;rw[if_pos (by simpa using hR)]
  rw[he];clear he;go_enter func190,ntmps190;go_wp2_with (go_at_call 50;refine(i7 _ _ _ _ _).mono ?_;rintro e w1 ⟨rfl,hb1⟩);go_ret;exact⟨rfl,bp.trans (hb1.mono (by simp))⟩
theorem FL(p n o v:Int)(k rb fb:Nat)(fv:Value)(ts:List Tm)(w:World)(hR:bo p n o v=0)(hk2:k<ts.length)(hlen:ts.length<=2000)(hq:∀j,j<k->bL n (ts.getD j aM).2=0)(bx:aX w rb p n o v)(hc:w.cell? ⟨fb,0,none⟩=some fv)(pf:Pl w fv ts):Calls prog 191 #[.int .i64 k,.pointer (some ⟨rb,0,none⟩),.pointer (some ⟨fb,0,none⟩)] w λe w'=>e=.returned (.int .i64 (eW p n o ts k))/\Below w.heap.size w w':=by have HP:=aa pf;have HC:=aa (λW (h:Pl W fv ts)=>FJ p n o v fv ts k W hR hk2 hlen hq h);obtain⟨_,bx0,bx1,bx2,bx3⟩:=bx;obtain⟨a,c,rfl,_,_⟩:=pf;clear hR hq;go_enter func191,ntmps191;go_wp2_with (go_at_call 192;refine(HC.o _ HP.o).mono ?_;rintro e w1 ⟨rfl,hb1⟩;have HB:=aa hb1;clear hb1);go_ret;exact⟨rfl,HB.o⟩
def fA(p n o v:Int)(ts:List Tm):Int:=if bo p n o v≠0 then bo p n o v else cz p n o ts
theorem FM(p n o v:Int)(ts:List Tm):jC p n o v ts.length (eW p n o ts)=fA p n o v ts:=by unfold jC fA cz;rw[yE ts ts.length 0 (by omega)];rfl
def ai(p n o v:Int):List (List Tm)->Int
 |[]=>0
 |f::r=>if fA p n o v f≠0 then fA p n o v f else ai p n o v r
theorem FN(p n o v:Int)(fss:List (List Tm))(k:Nat)(h:k<fss.length):ai p n o v (fss.drop k)=if fA p n o v (fss.getD k [])≠0 then fA p n o v (fss.getD k []) else ai p n o v (fss.drop (k+1)):=by rw[List.drop_eq_getElem_cons h];simp[ai,Hs,h]
theorem ph{p n o v:Int}{ts:List Tm}:fA p n o v ts=0↔bo p n o v=0/\cz p n o ts=0:=by
 unfold fA;by_cases h1:bo p n o v=0
 ·rw[if_neg (by simpa using h1)];simp[h1]
 ·rw[if_pos h1];simp[h1]
theorem FO(p n o v:Int)(lv:Value)(fss:List (List Tm))(w:World)(hm:fss.length<=1200000000000)(hs:Vl w lv fss):Calls prog 140 #[az p n o v,lv] w λe w'=>e=.returned (.int .i64 (ai p n o v fss))/\Below w.heap.size w w':=by
 have HS:=aa hs;obtain⟨la,lc,rfl,hat0⟩:=hs;have HAT:=aa hat0;obtain⟨w1,hw1⟩:∃w1,w1=w.alloc (.cells #[.int .i64 p,.int .i64 n,.int .i64 o,.int .i64 v] 23):=⟨_,rfl⟩;have hbx:aX w1 w.heap.size p n o v:=by rw[hw1];exact aX.new w p n o v _
 have hbw:Below w.heap.size w w1:=by rw[hw1];exact bp
 have HBX:=aa hbx;have HBW:=aa hbw;clear hat0 hbx hbw;go_enter func140,ntmps140;go_wp2_with fail;rw[<-hw1];clear hw1;go_loopw [10] (λi wr=>∃k:Nat,k<=fss.length/\i=.int .i64 k/\ai p n o v fss=ai p n o v (fss.drop k)/\Below w1.heap.size w1 wr) (λi _=>fss.length-(intOf i).toNat);case atStart=>exact⟨0,Hl _,rfl,by simp,Hf _ _⟩
 case round=>
  obtain⟨k,hk,rfl,hcur,hbr⟩:=hrel;have HBR:=aa hbr;clear hbr;by_cases hk2:k<fss.length
  ·obtain⟨b,off,rfl,hlt,hat⟩:=HAT.o (by omega);obtain⟨vv,hcell,hsl⟩:=hat k hk2;have HER:=aa (hcur.trans (FN p n o v fss k hk2));have HDN:=aa (HBW.o.trans (HBR.o.mono HBW.o.size));have d0:=ae hcell HDN.o;generalize fss.getD k []=f at hsl HER;have HSL:=aa (hsl.below HDN.o);obtain⟨fa,fc,rfl,_,_⟩:=hsl;have HBX2:=aa (HBX.o.below HBR.o);obtain⟨_,bx0,bx1,bx2,bx3⟩:=HBX.o.below HBR.o;clear hcur hat hcell;have HBN:Ic (∀A,Below wr.heap.size wr (wr.alloc A)):=λA=>af;have y0:=λA=>ae bx0 (HBN.o A);have y1:=λA=>ae bx1 (HBN.o A);have y2:=λA=>ae bx2 (HBN.o A);have y3:=λA=>ae bx3 (HBN.o A);obtain⟨w2,hw2⟩:∃w2,w2=wr.alloc (.cells #[.slice fa f.length fc] 31):=⟨_,rfl⟩;have HB2:Ic (Below wr.heap.size wr w2):=by rw[hw2];exact HBN.o _
   have HCF:Ic (w2.cell? ⟨wr.heap.size,0,none⟩=some (.slice fa f.length fc)):=by show _=_;rw[hw2];simp[go_sem]
   have HCT:=aa (FK p n o v _ f w.heap.size wr.heap.size (eW p n o f) w2 (HSL.o.below HB2.o) (λhr hl i w' hi hj hb=>FL p n o v i w.heap.size wr.heap.size _ f w' hr hi hl (λj hjj=>FH (hj j hjj)) ((HBX2.o.below HB2.o).below hb) (ae HCF.o hb) ((HSL.o.below HB2.o).below hb)));rw[FM] at HCT;cases hz:(fA p n o v f !=0)
   ·go_wp2_with fail;try rw[<-hw2]
    refine HCT.o.mono ?_;rintro e w3 ⟨rfl,hb3⟩;have HB3:=aa (HBR.o.trans ((HB2.o.trans (hb3.mono HB2.o.size)).mono HBR.o.size));clear hb3;go_wp2_with fail;go_roundw;case rel=>exact⟨k+1,Nat.succ_le_of_lt hk2,by go_num,by rw[HER.o,if_neg (by simpa using hz)],HB3.o⟩
    case measure=>simp[intOf];omega
   ·go_wp2_with fail;try rw[<-hw2]
    refine HCT.o.mono ?_;rintro e w3 ⟨rfl,hb3⟩;have HB3:=aa (HBR.o.trans ((HB2.o.trans (hb3.mono HB2.o.size)).mono HBR.o.size));clear hb3;go_wp2_with fail;go_ret;exact⟨cm (by rw[HER.o,if_pos (by simpa using hz)]),HBW.o.trans (HB3.o.mono HBW.o.size)⟩
  ·go_wp2;go_ret;exact⟨cm (by rw[hcur,List.drop_eq_nil_of_le (by omega)];rfl),HBW.o.trans (HBR.o.mono HBW.o.size)⟩
theorem yF{p n o v:Int}:∀{fss:List (List Tm)},ai p n o v fss=0->∀f∈fss,fA p n o v f=0
 |[],_,f,hf=>by simp at hf
 |g::r,h,f,hf=>by
  unfold ai at h;by_cases hg:fA p n o v g=0
  ·rw[if_neg (by simpa using hg)] at h;rcases List.mem_cons.1 hf with rfl|hf
   ·exact hg
   ·exact yF h f hf
  ·rw[if_pos hg] at h;exact absurd h hg
theorem rZ{p n o v:Int}:∀{fss:List (List Tm)},(∀f∈fss,fA p n o v f=0)->ai p n o v fss=0
 |[],_=>rfl
 |g::r,h=>by unfold ai;rw[if_neg (by simpa using h g (by simp))];exact rZ (λf hf=>h f (by simp[hf]))
theorem xW(p n o v:Int):rU p n o v (ai p n o v):=by
 refine⟨λfss lv w hm hs=>FO p n o v lv fss w hm hs,λfss hne h=>?_,λhr fss h=>rZ (λf hf=>ph.2 ⟨hr,h f hf⟩)⟩;have hall:=yF h;cases fss with
 |nil=>exact absurd rfl hne
 |cons g r=>exact⟨(ph.1 (hall g (by simp))).1,λf hf=>(ph.1 (hall f hf)).2⟩
theorem FP{w:World}{B g n:Nat}{T:TypeId}{xs:List Value}(h:w.ownsRow B T 1 (.slice (some ⟨g,0,none⟩) n n) n xs)(hs:∀u∈xs,∃a n c,u=.slice a n c):di w g:=by
 rcases h.2 with ⟨h1,_⟩|⟨g',cap,ai,h1,hb,hg,hn,hm,hcs,ht⟩
 ·simp at h1
 ·simp only[H7,H6,Addr.mk.injEq,and_true,true_and] at h1;obtain⟨rfl,rfl⟩:=h1;refine pj hg (λu hu=>hs u ?_);rw[<-ht,Hz (by rw[Array.length_toList,hcs];exact He _)];exact hu
structure eX(w wr:World)(g n:Nat)(us:List Value)(fss:List (List Tm)):Prop where
 own:∃rest,wr.ownsRow w.heap.size 31 1 (.slice (some ⟨g,0,none⟩) n n) n (us++rest)/\(us++rest).length=n/\∀u∈us++rest,∃a n c,u=.slice a n c
 len:us.length=fss.length
 pls:∀i,i<fss.length->Pl wr (us.getD i aP) (fss.getD i [])
 below:Below w.heap.size w wr
 ge:w.heap.size<=g
theorem eX.next{w wr w':World}{g n:Nat}{us:List Value}{fss:List (List Tm)}(h:eX w wr g n us fss)(hb:Below wr.heap.size wr w'):eX w w' g n us fss:=by obtain⟨rest,h1,h2,h3⟩:=h.own;exact⟨⟨rest,aH h1 hb,h2,h3⟩,h.len,λi hi=>(h.pls i hi).below hb,h.below.trans (hb.mono h.below.size),h.ge⟩
theorem eX.cells{w wr:World}{g n:Nat}{us:List Value}{fss:List (List Tm)}(h:eX w wr g n us fss)(hk:us.length<n):∃a,wr.cell? ⟨g,us.length,none⟩=some a/\wr.frozen? ⟨g,us.length,none⟩=false:=by obtain⟨rest,h1,h2,_⟩:=h.own;have e1:=h1.cellAt us.length (by omega);rw[Ht (by omega)] at e1;exact⟨_,e1,h1.frozenAt _⟩
theorem FQ(l:List Value)(a:Value):∀r:List Value,1<=r.length->(l++r).set l.length a=l++[a]++r.drop 1
 |[],h=>by simp at h
 |x::r,_=>by simp[List.set_append_right]
theorem eX.put{w wr:World}{g n:Nat}{us:List Value}{fss:List (List Tm)}(h:eX w wr g n us fss)(hk:us.length<n)(u:Value)(f:List Tm)(hu:Pl wr u f):eX w (wr.setCell ⟨g,us.length,none⟩ u) g n (us++[u]) (fss++[f]):=by
 obtain⟨rest,h1,h2,h3⟩:=h.own;have s1:=h1.stored us.length u;have hk2:=FP h1 h3;have hus:∃a n c,u=.slice a n c:=by obtain⟨a,c,e,_⟩:=hu;exact⟨_,_,_,e⟩
 rw[Hx] at h2;have e:=FQ us u rest (by omega);refine⟨⟨rest.drop 1,by rw[<-e];exact s1.1,by rw[Hx,Hx,List.length_drop];simp;omega,λx hx=>?_⟩,by simp[h.len],λi hi=>?_,h.below.trans (ck s1.2 h.ge h.below.size),h.ge⟩
 ·rcases Hv.1 hx with hx|hx
  ·rcases Hv.1 hx with hx|hx
   ·exact h3 x (Hv.2 (Or.inl hx))
   ·rw[Hw] at hx;rw[hx];exact hus
  ·exact h3 x (Hv.2 (Or.inr (List.mem_of_mem_drop hx)))
 ·rw[Hx] at hi;simp only[List.length_cons,List.length_nil] at hi;rcases Nat.lt_or_ge i fss.length with hl|hl
  ·have e1:(us++[u]).getD i aP=us.getD i aP:=by simp[Hs,List.getElem?_append_left (show i<us.length by rw[h.len];exact hl)]
   have e2:(fss++[f]).getD i []=fss.getD i []:=by simp[Hs,List.getElem?_append_left hl]
   rw[e1,e2];exact kT hk2 s1.2 (h.pls i hl)
  ·have e:i=fss.length:=by omega
   subst e;have e1:(us++[u]).getD fss.length aP=u:=by rw[<-h.len];simp[Hs]
   have e2:(fss++[f]).getD fss.length []=f:=by simp[Hs]
   rw[e1,e2];exact kT hk2 s1.2 hu
theorem eX.done{w wr:World}{g n:Nat}{us:List Value}{fss:List (List Tm)}(h:eX w wr g n us fss)(hn:us.length=n):Vl wr (.slice (some ⟨g,0,none⟩) n n) fss:=by
 obtain⟨rest,h1,h2,_⟩:=h.own;have hlt:=(Hd h1 g rfl).2;refine⟨_,n,by rw[<-h.len,hn],λ_=>⟨g,0,rfl,hlt,λi hi=>⟨us.getD i aP,?_,h.pls i hi⟩⟩⟩;have hi2:i<us.length:=by rw[h.len];exact hi
 rw[Hy,h1.cellAt i (by omega),List.getElem?_append_left hi2];simp[Hs,hi2]
theorem eX.made{w w':World}{n:Nat}(h:w'.ownsRow w.heap.size 31 1 (.slice (some ⟨w.heap.size,0,none⟩) n n) n (madeCells (Value.cells (.slice none 0 0)) (n*1)).toList)(hg:w.grownBy w' none):eX w w' w.heap.size n [] []:=by refine⟨⟨_,h,by simp[size_madeCells],λu hu=>?_⟩,rfl,λi hi=>by simp at hi,⟨hg.os,hg.tape,hg.output,hg.size,λk hk=>hg.block k hk (by simp)⟩,He _⟩;simp[madeCells,Value.cells] at hu;obtain⟨l,_,hx⟩:=hu;rw[Nat.mod_one] at hx;exact⟨none,0,0,by rw[<-hx];rfl⟩
def kU(E:Nat->Int)(R:Nat->List Tm)(n:Nat):List (List Tm):=if ee E n 0=0 then (List.range n).map R else []
theorem yG{E:Nat->Int}{R:Nat->List Tm}{n:Nat}(h:ee E n 0=0):kU E R n=(List.range n).map R:=by unfold kU;rw[if_pos h]
theorem yH{E:Nat->Int}{R:Nat->List Tm}{n:Nat}(h:ee E n 0≠0):kU E R n=[]:=by unfold kU;rw[if_neg h]
theorem sk{α:Type}(R:Nat->α)(k:Nat):(List.range (k+1)).map R=(List.range k).map R++[R k]:=by rw[List.range_succ,List.map_append];rfl
structure ko(w1 w:World)(sv:Value)(qs:List (TV×Value)):Prop where
 own:w.ownsRow w1.heap.size 31 1 sv qs.length (qs.map Prod.snd)
 rows:∀q∈qs,w.ownsRow w1.heap.size 54 2 q.2 1 (ak [q.1])
 es:∀q∈qs,Sl w1 q.1.2.1 q.1.2.2
 below:Below w1.heap.size w1 w
theorem ko.next{w1 w w':World}{sv:Value}{qs:List (TV×Value)}(h:ko w1 w sv qs)(hb:Below w.heap.size w w'):ko w1 w' sv qs:=
 ⟨aH h.own hb,λq hq=>aH (h.rows q hq) hb,h.es,h.below.trans (hb.mono h.below.size)⟩
theorem ko.snoc{w1 W W2:World}{sv sv2:Value}{qs:List (TV×Value)}{q:TV×Value}(h:ko w1 W sv qs)(hq:W.ownsRow w1.heap.size 54 2 q.2 1 (ak [q.1]))(he:Sl w1 q.1.2.1 q.1.2.2)(h2:W2.ownsRow w1.heap.size 31 1 sv2 (qs.length+1) (qs.map Prod.snd++[q.2]))(g2:W.grownBy W2 sv.ownBlock):ko w1 W2 sv2 (qs++[q]):=by
 have hT:(54:TypeId)≠31:=by decide
 refine⟨by rw[Hx,List.map_append];exact h2,λr hr=>?_,λr hr=>?_,bU h.own h.below g2 (He _)⟩
 ·rcases Hv.1 hr with hr|hr
  ·exact(h.rows r hr).kept g2 (iG hT (h.rows r hr) h.own)
  ·rw[Hw] at hr;subst hr;exact hq.kept g2 (iG hT hq h.own)
 ·rcases Hv.1 hr with hr|hr
  ·exact h.es r hr
  ·rw[Hw] at hr;subst hr;exact he
theorem ko.vl{w1 w:World}{sv:Value}{qs:List (TV×Value)}(h:ko w1 w sv qs):Vl w sv (qs.map λq=>[tm q.1]):=by
 obtain⟨a,c,rfl⟩:=cq h.own;refine⟨a,c,by rw[Ia],λhp=>?_⟩;rw[Ia] at hp;obtain⟨g,rfl,_,hlt,_⟩:=kz h.own 0 hp;refine⟨g,0,rfl,hlt,λi hi=>?_⟩;rw[Ia] at hi;obtain⟨g2,hg2,_,_,hc⟩:=kz h.own i hi;simp only[H6,Addr.mk.injEq,and_true] at hg2;subst hg2;have e:(qs.map λq=>[tm q.1]).getD i []=[tm qs[i].1]:=by simp[Hs,hi]
 rw[e];refine⟨qs[i].2,by rw[Hy,hc];simp[hi],?_⟩;have hm:qs[i]∈qs:=Hp hi;exact kf (ts:=[qs[i].1]) (h.rows _ hm) (λt ht=>by
  rw[Hw] at ht;subst ht;exact(h.es _ hm).below h.below)
theorem nv{w:World}{B:Nat}(hB:B<=w.heap.size)(c:Int)(ev:Value):(w.alloc (.cells #[.int .i64 c,ev] 54)).ownsRow B 54 2 (.slice (some ⟨w.heap.size,0,none⟩) 1 1) 1 [.int .i64 c,ev]:=
 ⟨by simp,.inr ⟨w.heap.size,1,_,rfl,hB,heap_alloc_new w _,He _,by decide,by simp,by simp⟩⟩
end Go.Proofs.YtglijodcbdcngaaGreat
