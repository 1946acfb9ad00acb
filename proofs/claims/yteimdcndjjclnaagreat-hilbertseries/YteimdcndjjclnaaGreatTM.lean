/- checkTerms, checkAll: what they tell. -/
import Derived.Lib.ItoaNum
import Derived.Lib.Join
import Derived.Test.YteimdcndjjclnaaGreatWB
set_option maxHeartbeats 2000000
set_option maxRecDepth 100000
namespace Go.Proofs.YteimdcndjjclnaaGreat
set_option linter.all false
open Go.Proofs.Tryz Go.RowKit
def kq(p n o v:Int)(len:Nat)(E:Nat->Int):Int:=if a8 p n o v≠0 then a8 p n o v else if 2000<len then 2 else iS E len 0
theorem uQ(E:Nat->Int)(m:Nat):∀k,k<=m->(∀j,j<k->E j=0)->iS E m 0=iS E (m-k) k
 |0,_,_=>rfl
 |k+1,hk,h=>by rw[uQ E m k (by omega) (λj hj=>h j (by omega)),Bq E (show k<m by omega),LH (by simpa using h k (by omega))]
theorem JF{E:Nat->Int}{m:Nat}(h:∀j,j<m->E j=0):iS E m 0=0:=by rw[uQ E m m (Lc _) h,Nat.sub_self];rfl
theorem JG{E:Nat->Int}{m k:Nat}(hk:k<m)(h:∀j,j<k->E j=0)(h2:E k≠0):iS E m 0=E k:=by rw[uQ E m k (by omega) h,Bq E hk,LI h2]
theorem JH(p n o v:Int)(lv:Value)(ts:List Tm)(rb fb:Nat)(E:Nat->Int)(w:World)(pf:Pl w lv ts)(H:a8 p n o v=0->ts.length<=2000->∀i w',i<ts.length->(∀j,j<i->E j=0)->Below w.heap.size w w'->Calls prog 149 #[.int .i64 i,.pointer (some ⟨rb,0,none⟩),.pointer (some ⟨fb,0,none⟩)] w' λe w''=>e=.returned (.int .i64 (E i))/\Below w'.heap.size w' w''):Calls prog 148 #[aT p n o v,lv,.func (.func 149) #[] #[.pointer (some ⟨rb,0,none⟩),.pointer (some ⟨fb,0,none⟩)]] w λe w'=>e=.returned (.int .i64 (kq p n o v ts.length E))/\Below w.heap.size w w':=by
 obtain⟨a,c,rfl,_,_⟩:=pf;have HH:=ac H;clear H;cases hR:(a8 p n o v !=0)
 .have hR0:a8 p n o v=0:=by simpa using hR
  have HR:=ac hR0;clear hR0;by_cases hlen:2000<ts.length
  .have he:kq p n o v ts.length E=2:=by unfold kq;rw[LH (by simpa using HR.o),LI hlen]
   rw[he];clear he;go_enter func148,ntmps148;go_wp2_with (go_at_call 63;refine(iX _ _ _ _ _).mono ?_;rintro e w1 ⟨rfl,hb1⟩);go_ret;exact⟨rfl,bv.trans (hb1.mono (by simp))⟩
  .have he:kq p n o v ts.length E=iS E ts.length 0:=by unfold kq;rw[LH (by simpa using HR.o),LH hlen]
   rw[he];clear he;go_enter func148,ntmps148;go_wp2_with (go_at_call 63;refine(iX _ _ _ _ _).mono ?_;rintro e w1 ⟨rfl,hb1⟩);have HB1:=ac (show Below w.heap.size w w1 from bv.trans (hb1.mono (by simp)));clear hb1;go_loopw [20] (λi wr=>∃k:Nat,k<=ts.length/\i=.int .i64 k/\(∀j,j<k->E j=0)/\Below w1.heap.size w1 wr) (λi _=>ts.length-(intOf i).toNat);case atStart=>exact⟨0,Ll _,rfl,λj hj=>by omega,Lf _ _⟩
   case round=>
    obtain⟨k,hk,rfl,hz,hbr⟩:=hrel;have HZ:=ac hz;have HDN:=ac (HB1.o.trans (hbr.mono HB1.o.size));have HBR:=ac hbr;clear hz hbr;by_cases hk2:k<ts.length
    .have HC:=ac (HH.o HR.o (by omega) k wr hk2 HZ.o HDN.o);have HHIT:=ac (λh=>JG (E:=E) hk2 HZ.o h);cases he:(E k !=0)
     .have HE0:Ma (E k=0):=by simpa [Ma] using he
      go_wp2_with (go_at_call 149;refine HC.o.mono ?_;rintro e w2 ⟨rfl,hb2⟩;have HB2:=ac (HBR.o.trans (hb2.mono HBR.o.size));clear hb2);go_roundw;case rel=>exact⟨k+1,by omega,by go_num,λj hj=>by
       rcases Nat.lt_or_ge j k with h|h
       .exact HZ.o j h
       .rw[show j=k by omega];exact HE0.o,HB2.o⟩
      case measure=>simp[intOf];omega
     .go_wp2_with (go_at_call 149;refine HC.o.mono ?_;rintro e w2 ⟨rfl,hb2⟩;have HB2:=ac (HBR.o.trans (hb2.mono HBR.o.size));clear hb2);go_ret;exact⟨bJ (HHIT.o (by simpa using he)).symm,HB1.o.trans (HB2.o.mono HB1.o.size)⟩
    .go_wp2;go_ret;exact⟨bJ (JF (λj hj=>HZ.o j (by omega))).symm,HB1.o.trans (HBR.o.mono HB1.o.size)⟩
 .have he:kq p n o v ts.length E=a8 p n o v:=by unfold kq;rw[LI (by simpa using hR)]
  rw[he];clear he;go_enter func148,ntmps148;go_wp2_with (go_at_call 63;refine(iX _ _ _ _ _).mono ?_;rintro e w1 ⟨rfl,hb1⟩);go_ret;exact⟨rfl,bv.trans (hb1.mono (by simp))⟩
theorem JI(p n o v:Int)(k rb fb:Nat)(fv:Value)(ts:List Tm)(w:World)(hR:a8 p n o v=0)(hk2:k<ts.length)(hlen:ts.length<=2000)(hq:∀j,j<k->bQ n (ts.getD j bT).2=0)(bx:bE w rb p n o v)(hc:w.cell? ⟨fb,0,none⟩=some fv)(pf:Pl w fv ts):Calls prog 149 #[.int .i64 k,.pointer (some ⟨rb,0,none⟩),.pointer (some ⟨fb,0,none⟩)] w λe w'=>e=.returned (.int .i64 (fP p n o ts k))/\Below w.heap.size w w':=by have HP:=ac pf;have HC:=ac (λW (h:Pl W fv ts)=>JE p n o v fv ts k W hR hk2 hlen hq h);obtain⟨_,bx0,bx1,bx2,bx3⟩:=bx;obtain⟨a,c,rfl,_,_⟩:=pf;clear hR hq;go_enter func149,ntmps149;go_wp2_with (go_at_call 150;refine(HC.o _ HP.o).mono ?_;rintro e w1 ⟨rfl,hb1⟩;have HB:=ac hb1;clear hb1);go_ret;exact⟨rfl,HB.o⟩
def gm(p n o v:Int)(ts:List Tm):Int:=if a8 p n o v≠0 then a8 p n o v else cB p n o ts
theorem JJ(p n o v:Int)(ts:List Tm):kq p n o v ts.length (fP p n o ts)=gm p n o v ts:=by unfold kq gm cB;rw[Br ts ts.length 0 (by omega)];rfl
def af(p n o v:Int):List (List Tm)->Int
 |[]=>0
 |f::r=>if gm p n o v f≠0 then gm p n o v f else af p n o v r
theorem JK(p n o v:Int)(fss:List (List Tm))(k:Nat)(h:k<fss.length):af p n o v (fss.drop k)=if gm p n o v (fss.getD k [])≠0 then gm p n o v (fss.getD k []) else af p n o v (fss.drop (k+1)):=by rw[LY h];simp[af,Lr,h]
theorem uR{p n o v:Int}{ts:List Tm}:gm p n o v ts=0↔a8 p n o v=0/\cB p n o ts=0:=by
 unfold gm;by_cases h1:a8 p n o v=0
 .rw[LH (by simpa using h1)];simp[h1]
 .rw[LI h1];simp[h1]
theorem JL(p n o v:Int)(lv:Value)(fss:List (List Tm))(w:World)(hm:fss.length<=1200000000000)(hs:Vl w lv fss):Calls prog 123 #[aT p n o v,lv] w λe w'=>e=.returned (.int .i64 (af p n o v fss))/\Below w.heap.size w w':=by
 have HS:=ac hs;obtain⟨la,lc,rfl,hat0⟩:=hs;have HAT:=ac hat0;obtain⟨w1,hw1⟩:∃w1,w1=w.alloc (.cells #[.int .i64 p,.int .i64 n,.int .i64 o,.int .i64 v] 23):=⟨_,rfl⟩;have hbx:bE w1 w.heap.size p n o v:=by rw[hw1];exact bE.new w p n o v _
 have hbw:Below w.heap.size w w1:=by rw[hw1];exact bv
 have HBX:=ac hbx;have HBW:=ac hbw;clear hat0 hbx hbw;go_enter func123,ntmps123;go_wp2_with fail;rw[<-hw1];clear hw1;go_loopw [10] (λi wr=>∃k:Nat,k<=fss.length/\i=.int .i64 k/\af p n o v fss=af p n o v (fss.drop k)/\Below w1.heap.size w1 wr) (λi _=>fss.length-(intOf i).toNat);case atStart=>exact⟨0,Ll _,rfl,by simp,Lf _ _⟩
 case round=>
  obtain⟨k,hk,rfl,hcur,hbr⟩:=hrel;have HBR:=ac hbr;clear hbr;by_cases hk2:k<fss.length
  .obtain⟨b,off,rfl,hlt,hat⟩:=HAT.o (by omega);obtain⟨vv,hcell,hsl⟩:=hat k hk2;have HER:=ac (hcur.trans (JK p n o v fss k hk2));have HDN:=ac (HBW.o.trans (HBR.o.mono HBW.o.size));have d0:=ae hcell HDN.o;generalize fss.getD k []=f at hsl HER;have HSL:=ac (hsl.below HDN.o);obtain⟨fa,fc,rfl,_,_⟩:=hsl;have HBX2:=ac (HBX.o.below HBR.o);obtain⟨_,bx0,bx1,bx2,bx3⟩:=HBX.o.below HBR.o;clear hcur hat hcell;have HBN:Ma (∀A,Below wr.heap.size wr (wr.alloc A)):=λA=>aj;have y0:=λA=>ae bx0 (HBN.o A);have y1:=λA=>ae bx1 (HBN.o A);have y2:=λA=>ae bx2 (HBN.o A);have y3:=λA=>ae bx3 (HBN.o A);obtain⟨w2,hw2⟩:∃w2,w2=wr.alloc (.cells #[.slice fa f.length fc] 59):=⟨_,rfl⟩;have HB2:Ma (Below wr.heap.size wr w2):=by rw[hw2];exact HBN.o _
   have HCF:Ma (w2.cell? ⟨wr.heap.size,0,none⟩=some (.slice fa f.length fc)):=by show _=_;rw[hw2];simp[go_sem]
   have HCT:=ac (JH p n o v _ f w.heap.size wr.heap.size (fP p n o f) w2 (HSL.o.below HB2.o) (λhr hl i w' hi hj hb=>JI p n o v i w.heap.size wr.heap.size _ f w' hr hi hl (λj hjj=>JC (hj j hjj)) ((HBX2.o.below HB2.o).below hb) (ae HCF.o hb) ((HSL.o.below HB2.o).below hb)));rw[JJ] at HCT;cases hz:(gm p n o v f !=0)
   .go_wp2_with fail;try rw[<-hw2]
    refine HCT.o.mono ?_;rintro e w3 ⟨rfl,hb3⟩;have HB3:=ac (HBR.o.trans ((HB2.o.trans (hb3.mono HB2.o.size)).mono HBR.o.size));clear hb3;go_wp2_with fail;go_roundw;case rel=>exact⟨k+1,Nat.succ_le_of_lt hk2,by go_num,by rw[HER.o,LH (by simpa using hz)],HB3.o⟩
    case measure=>simp[intOf];omega
   .go_wp2_with fail;try rw[<-hw2]
    refine HCT.o.mono ?_;rintro e w3 ⟨rfl,hb3⟩;have HB3:=ac (HBR.o.trans ((HB2.o.trans (hb3.mono HB2.o.size)).mono HBR.o.size));clear hb3;go_wp2_with fail;go_ret;exact⟨bJ (by rw[HER.o,LI (by simpa using hz)]),HBW.o.trans (HB3.o.mono HBW.o.size)⟩
  .go_wp2;go_ret;exact⟨bJ (by rw[hcur,LZ (by omega)];rfl),HBW.o.trans (HBR.o.mono HBW.o.size)⟩
theorem Bt{p n o v:Int}:∀{fss:List (List Tm)},af p n o v fss=0->∀f∈fss,gm p n o v f=0
 |[],_,f,hf=>by simp at hf
 |g::r,h,f,hf=>by
  unfold af at h;by_cases hg:gm p n o v g=0
  .rw[LH (by simpa using hg)] at h;rcases LL.1 hf with rfl|hf
   .exact hg
   .exact Bt h f hf
  .rw[LI hg] at h;exact absurd h hg
theorem Bu{p n o v:Int}:∀{fss:List (List Tm)},(∀f∈fss,gm p n o v f=0)->af p n o v fss=0
 |[],_=>rfl
 |g::r,h=>by unfold af;rw[LH (by simpa using h g (by simp))];exact Bu (λf hf=>h f (by simp[hf]))
theorem JM(p n o v:Int):Bp p n o v (af p n o v):=by
 refine⟨λfss lv w hm hs=>JL p n o v lv fss w hm hs,λfss hne h=>?_,λhr fss h=>Bu (λf hf=>uR.2 ⟨hr,h f hf⟩)⟩;have hall:=Bt h;cases fss with
 |nil=>exact absurd rfl hne
 |cons g r=>exact⟨(uR.1 (hall g (by simp))).1,λf hf=>(uR.1 (hall f hf)).2⟩
theorem Bv(p n o v:Int)(chk:List (List Tm)->Int)(HC:Bp p n o v chk)(x:Value)(fs:List Tm)(w:World)(pf:Pl w x fs):Calls prog 93 #[aT p n o v,x] w λe w'=>e=.returned (.int .i64 (chk [fs]))/\Below w.heap.size w w':=by have HP:=ac pf;have HT:=ac HC;obtain⟨a,c,rfl,_,_⟩:=pf;clear HC;have HB2:Ma (∀A B,Below w.heap.size w ((w.alloc A).alloc B)):=λA B=>fS;go_enter func93,ntmps93;go_wp2_with fail;refine(HT.o.1 [fs] _ _ (by simp) (JA (HP.o.below (HB2.o _ _)) (by simp) (by simp[go_sem]))).mono ?_;rintro e w1 ⟨rfl,hb1⟩;have HB1:=ac ((HB2.o _ _).trans (hb1.mono (HB2.o _ _).size));clear hb1;go_wp2;go_ret;exact⟨rfl,HB1.o⟩
theorem IN(c:Int)(a:Option Addr)(n m:Nat)(w:World):Calls prog 51 #[.int .i64 c,.slice a n m] w λe w'=>e=.returned (.agg #[.int .i64 c,.slice a n m])/\Below w.heap.size w w':=by go_enter func51,ntmps51;go_wp2;exact Lm (v:=.agg #[.int .i64 c,.slice a n m]) (by simp[results,Tryz.results51,go_sem]) rfl ⟨rfl,(Lf _ _).alloc (Lc _) _⟩
theorem JN{p n o v:Int}{f:List Tm}(hR:a8 p n o v=0):af p n o v [f]=cB p n o f:=by
 have e:gm p n o v f=cB p n o f:=by unfold gm;rw[LH (by simpa using hR)]
 have hu:af p n o v [f]=if gm p n o v f≠0 then gm p n o v f else 0:=rfl
 rw[hu,e];by_cases h:cB p n o f=0
 .rw[LH (by simpa using h),h]
 .rw[LI h]
theorem uS(p n o v:Int)(lv:Value)(fss:List (List Tm))(w:World)(hR:a8 p n o v=0)(hm:fss.length<=1200000000000)(hs:Vl w lv fss):Calls prog 65 #[aT p n o v,lv] w λe w'=>e=.returned (.int .i64 (cO p n o fss))/\Below w.heap.size w w':=by
 have HS:=ac hs;have HR:=ac hR;have HT:=ac (JM p n o v);obtain⟨la,lc,rfl,_⟩:=hs;obtain⟨w1,hw1⟩:∃w1,w1=w.alloc (.cells #[.int .i64 p,.int .i64 n,.int .i64 o,.int .i64 v] 23):=⟨_,rfl⟩;have hbx:bE w1 w.heap.size p n o v:=by rw[hw1];exact bE.new w p n o v _
 have hbw:Below w.heap.size w w1:=by rw[hw1];exact bv
 have HBX:=ac hbx;have HBW:=ac hbw;clear hR hbx hbw;go_enter func65,ntmps65;go_wp2_with fail;rw[<-hw1];clear hw1;go_loopw [10] (λi wr=>∃k:Nat,k<=fss.length/\i=.int .i64 k/\cO p n o fss=cO p n o (fss.drop k)/\Below w1.heap.size w1 wr) (λi _=>fss.length-(intOf i).toNat);case atStart=>exact⟨0,Ll _,rfl,rfl,Lf _ _⟩
 case round=>
  obtain⟨k,hk,rfl,her,hbr⟩:=hrel;have HBR:=ac hbr;have HER0:=ac her;clear hbr her;by_cases hk2:k<fss.length
  .have HER:=ac (HER0.o.trans (Bl p n o fss k hk2));have HDN:=ac (HBW.o.trans (HBR.o.mono HBW.o.size));obtain⟨b,off,fa,fc,rfl,hlt,c0,hpf⟩:=nw HS.o k hk2;generalize fss.getD k []=f at c0 hpf HER;have HPF:=ac (hpf.below HDN.o);have d0:=ae c0 HDN.o;have HC1:=ac (JN (f:=f) HR.o);obtain⟨_,bx0,bx1,bx2,bx3⟩:=HBX.o.below HBR.o;clear c0 hpf;cases hz:(cB p n o f !=0)
   .have HZ:Ma (cB p n o f=0):=by simpa [Ma] using hz
    go_wp2_with (go_at_call 93;refine(Bv p n o v _ HT.o _ f _ HPF.o).mono ?_;rw[HC1.o];rintro e w2 ⟨rfl,hb2⟩;have HB2:=ac (HBR.o.trans (hb2.mono HBR.o.size));clear hb2);go_roundw;case rel=>exact⟨k+1,by omega,by go_num,by rw[HER.o,LI HZ.o],HB2.o⟩
    case measure=>simp[intOf];omega
   .have HZ:Ma (cB p n o f≠0):=by simpa [Ma] using hz
    go_wp2_with (go_at_call 93;refine(Bv p n o v _ HT.o _ f _ HPF.o).mono ?_;rw[HC1.o];rintro e w2 ⟨rfl,hb2⟩;have HB2:=ac (HBR.o.trans (hb2.mono HBR.o.size));clear hb2);go_ret;exact⟨bJ (by rw[HER.o,LH HZ.o]),HBW.o.trans (HB2.o.mono HBW.o.size)⟩
  .go_wp2;go_ret;exact⟨bJ (by rw[HER0.o,LZ (by omega)];rfl),HBW.o.trans (HBR.o.mono HBW.o.size)⟩
theorem re(m:Int)(w:World):Calls prog 64 #[.int .i64 m] w λe w'=>e=.returned (.bool (bH m 1 40))/\w'=w:=by
 have HE:Ma (bH m 1 40=decide (1<=m/\m<=40)):=by show _=_;simp[bH]
 rw[HE.o];by_cases h1:1<=m
 .by_cases h2:m<=40
  .have HD:Ma (decide (1<=m/\m<=40)=true):=Li ⟨h1,h2⟩;rw[HD.o];go_enter func64,ntmps64;go_wp2;go_ret;exact⟨jK (by simp[h2]),rfl⟩
  .have HD:Ma (decide (1<=m/\m<=40)=false):=Lh (by omega);rw[HD.o];go_enter func64,ntmps64;go_wp2;go_ret;exact⟨jK (by simp[h2]),rfl⟩
 .have HD:Ma (decide (1<=m/\m<=40)=false):=Lh (by omega);rw[HD.o];go_enter func64,ntmps64;go_wp2;go_ret;exact⟨rfl,rfl⟩
theorem Bw(va:Option Addr)(vc:Nat)(fss:List (List Tm))(w:World):Calls prog 70 #[.slice va fss.length vc] w λe w'=>e=.returned (.bool (gk fss))/\w'=w:=by go_enter func70,ntmps70;go_wp2_with (go_at_call 64;refine(re _ _).mono ?_;rintro e w' ⟨rfl,rfl⟩);go_ret;exact⟨rfl,rfl⟩
theorem JO(va:Option Addr)(vc vb:Nat)(fss:List (List Tm))(la:Option Addr)(lc:Nat)(vss:List (List (List Tm)))(w:World)(hp:0<vss.length)(hb:w.cell? ⟨vb,0,none⟩=some (.slice la vss.length lc))(hs:Wl w (.slice la vss.length lc) vss):Calls prog 71 #[.slice va fss.length vc,.pointer (some ⟨vb,0,none⟩)] w λe w'=>e=.returned (.bool (fi (vss.getD 0 []).length fss))/\w'=w:=by
 obtain⟨b,off,va2,vc2,rfl,hlt,c0,_⟩:=jB hs 0 hp;generalize vss.getD 0 []=gss at c0;simp only[Nat.add_zero] at c0;clear hs;cases hun:((fss.length:Int) !=(gss.length:Int))
 .have HU:=ac (JP (m:=gss.length) hun);rw[HU.o];go_enter func71,ntmps71;go_wp2;go_ret;exact⟨jK (by simp),rfl⟩
 .have HU:=ac (JQ (m:=gss.length) hun);rw[HU.o];go_enter func71,ntmps71;go_wp2;go_ret;exact⟨jK (by simp),rfl⟩
theorem JR(lv:Value)(vss:List (List (List Tm)))(w:World)(hm:vss.length<=1000)(hs:Wl w lv vss):Calls prog 94 #[lv,.func (.func 70) #[] #[]] w λe w'=>∃r:Int,e=.returned (.int .i64 r)/\decide (0<=r)=vss.any gk/\w'=w:=by
 have HS:=ac hs;obtain⟨la,lc,rfl,_⟩:=hs;go_enter func94,ntmps94;go_wp2;go_loop [8] (λi=>∃k:Nat,k<=vss.length/\i=.int .i64 k/\(vss.take k).any gk=false) (λi=>vss.length-(intOf i).toNat);case atStart=>exact⟨0,Ll _,rfl,by simp⟩
 case round=>
  obtain⟨k,hk,rfl,hn⟩:=hrel;have HN:=ac hn;clear hn;by_cases hlt:k<vss.length
  .obtain⟨b,off,va,vc,rfl,_,c0,_⟩:=jB HS.o k hlt;have H1:=ac (By gk vss k hlt HN.o);have H2:=ac (Bz gk vss k hlt);generalize vss.getD k []=fss at c0 H1 H2;cases hy:gk fss
   .go_wp2_with (go_at_call 70;refine(Bw _ _ fss _).mono ?_;rw[hy];rintro e w' ⟨rfl,rfl⟩);go_round;case rel=>exact⟨k+1,by omega,by go_num,H1.o hy⟩
    case measure=>simp[intOf];omega
   .go_wp2_with (go_at_call 70;refine(Bw _ _ fss _).mono ?_;rw[hy];rintro e w' ⟨rfl,rfl⟩);go_ret;exact⟨(k:Int),rfl,by rw[H2.o hy];simp,rfl⟩
  .go_wp2;go_ret;exact⟨-1,rfl,by have:=HN.o;rw[Lz (by omega)] at this;rw[this];simp,rfl⟩
theorem JS(la:Option Addr)(lc vb:Nat)(vss:List (List (List Tm)))(w:World)(hm:vss.length<=1000)(hb:w.cell? ⟨vb,0,none⟩=some (.slice la vss.length lc))(hs:Wl w (.slice la vss.length lc) vss):Calls prog 94 #[.slice la vss.length lc,.func (.func 71) #[] #[.pointer (some ⟨vb,0,none⟩)]] w λe w'=>∃r:Int,e=.returned (.int .i64 r)/\decide (0<=r)=vss.any (fi (vss.getD 0 []).length)/\w'=w:=by
 have HS:=ac hs;have HB:=ac hb;have HUN:Ma (0<vss.length->∀va vc fss,Calls prog 71 #[.slice va fss.length vc,.pointer (some ⟨vb,0,none⟩)] w λe w'=>e=.returned (.bool (fi (vss.getD 0 []).length fss))/\w'=w):=λhp va vc fss=>JO va vc vb fss la lc vss w hp hb hs;obtain⟨m,hmm⟩:∃m,(vss.getD 0 []).length=m:=⟨_,rfl⟩;rw[hmm] at HUN⊢;clear hs hb hmm;go_enter func94,ntmps94;go_wp2;go_loop [8] (λi=>∃k:Nat,k<=vss.length/\i=.int .i64 k/\(vss.take k).any (fi m)=false) (λi=>vss.length-(intOf i).toNat);case atStart=>exact⟨0,Ll _,rfl,by simp⟩
 case round=>
  obtain⟨k,hk,rfl,hn⟩:=hrel;have HN:=ac hn;clear hn;by_cases hlt:k<vss.length
  .obtain⟨b,off,va,vc,rfl,_,c0,_⟩:=jB HS.o k hlt;have H1:=ac (By (fi m) vss k hlt HN.o);have H2:=ac (Bz (fi m) vss k hlt);generalize vss.getD k []=fss at c0 H1 H2;have HC:=ac (HUN.o (by omega) va vc fss);cases hy:fi m fss
   .go_wp2_with (go_at_call 71;refine HC.o.mono ?_;rw[hy];rintro e w' ⟨rfl,rfl⟩);go_round;case rel=>exact⟨k+1,by omega,by go_num,H1.o hy⟩
    case measure=>simp[intOf];omega
   .go_wp2_with (go_at_call 71;refine HC.o.mono ?_;rw[hy];rintro e w' ⟨rfl,rfl⟩);go_ret;exact⟨(k:Int),rfl,by rw[H2.o hy];simp,rfl⟩
  .go_wp2;go_ret;exact⟨-1,rfl,by have:=HN.o;rw[Lz (by omega)] at this;rw[this];simp,rfl⟩
theorem BA(lv:Value)(vss:List (List (List Tm)))(w:World)(hm:vss.length<=1000)(hs:Wl w lv vss):Calls prog 66 #[lv,.func (.func 70) #[] #[]] w λe w'=>e=.returned (.bool (vss.any gk))/\w'=w:=by have HS:=ac hs;obtain⟨la,lc,rfl,_⟩:=hs;go_enter func66,ntmps66;go_wp2_with (go_at_call 94;refine(JR _ vss _ hm HS.o).mono ?_;rintro e w' ⟨r,rfl,hr,rfl⟩);go_ret;exact⟨by rw[<-hr];rfl,rfl⟩
theorem JT(la:Option Addr)(lc vb:Nat)(vss:List (List (List Tm)))(w:World)(hm:vss.length<=1000)(hb:w.cell? ⟨vb,0,none⟩=some (.slice la vss.length lc))(hs:Wl w (.slice la vss.length lc) vss):Calls prog 66 #[.slice la vss.length lc,.func (.func 71) #[] #[.pointer (some ⟨vb,0,none⟩)]] w λe w'=>e=.returned (.bool (vss.any (fi (vss.getD 0 []).length)))/\w'=w:=by have HI:=ac (JS la lc vb vss w hm hb hs);clear hs hb;go_enter func66,ntmps66;go_wp2_with (go_at_call 94;refine HI.o.mono ?_;rintro e w' ⟨r,rfl,hr,rfl⟩;have HRR:=ac hr;clear hr);go_ret;exact⟨by rw[<-HRR.o];rfl,rfl⟩
theorem JU(p n o v:Int)(lv:Value)(vss:List (List (List Tm)))(w:World)(hm:vss.length<=1000)(hs:Wl w lv vss):Calls prog 44 #[aT p n o v,lv] w λe w'=>e=.returned (.int .i64 (fh p n o v vss))/\Below w.heap.size w w':=by
 have HS:=ac hs;obtain⟨la,lc,rfl,_⟩:=hs;obtain⟨w2,hw2⟩:∃w2,w2=(w.alloc (.cells #[.int .i64 p,.int .i64 n,.int .i64 o,.int .i64 v] 23)).alloc (.cells #[.slice la vss.length lc] 25):=⟨_,rfl⟩;have hb2:Below w.heap.size w w2:=by rw[hw2];exact fS
 have hbx:bE w2 w.heap.size p n o v:=by rw[hw2];exact(bE.new w p n o v _).below bv
 have hcf:w2.cell? ⟨w.heap.size+1,0,none⟩=some (.slice la vss.length lc):=by rw[hw2];simp[go_sem]
 have HB2:=ac hb2;have HBX:=ac hbx;have HCF:=ac hcf;obtain⟨_,bx0,bx1,bx2,bx3⟩:=hbx;clear hb2;cases hR:(a8 p n o v !=0)
 .have hR0:a8 p n o v=0:=by simpa using hR
  have HR:=ac hR0;have HE:Ma (fh p n o v vss=if vss.any gk then 3 else if vss.any (fi (vss.getD 0 []).length) then 1 else eK (cO p n o) vss):=by show _=_;unfold fh;rw[LH (by simpa using hR0)]
  clear hR0;go_enter func44,ntmps44;go_wp2_with fail;try rw[<-hw2]
  refine(iX p n o v w2).mono ?_;rintro e w3 ⟨rfl,hb3⟩;have HB3:=ac (HB2.o.trans (hb3.mono HB2.o.size));have HBX3:=ac (HBX.o.below hb3);have hcf3:=ae HCF.o hb3;have HCF3:=ac hcf3;have HS3:=ac (HS.o.below HB3.o);clear hb3 bx0 bx1 bx2 bx3 hcf hw2;obtain⟨_,bx0,bx1,bx2,bx3⟩:=HBX3.o;have HCB:=ac (BA _ vss w3 hm HS3.o);have HCU:=ac (JT la lc (w.heap.size+1) vss w3 hm HCF3.o HS3.o);cases hab:vss.any gk
  .have HE2:Ma (fh p n o v vss=if vss.any (fi (vss.getD 0 []).length) then 1 else eK (cO p n o) vss):=by show _=_;rw[HE.o,LH (by rw[hab];simp)]
   have HAB:=ac hab;cases hun:vss.any (fi (vss.getD 0 []).length)
   .rw[hun] at HCU;have HUN:=ac hun;have HE3:Ma (fh p n o v vss=eK (cO p n o) vss):=by show _=_;rw[HE2.o,LH (by rw[hun];simp)]
    clear HE HE2 hun;go_wp2_with fail;refine HCB.o.mono ?_;rw[HAB.o];rintro e w4 ⟨rfl,rfl⟩;go_wp2_with fail;refine HCU.o.mono ?_;rintro e w4 ⟨rfl,rfl⟩;go_wp2_with fail;obtain⟨wo,hwo⟩:∃wo,wo=w4:=⟨_,rfl⟩;subst hwo;clear bx0 bx1 bx2 bx3 hcf3;go_loopw [21] (λi wr=>∃k:Nat,k<=vss.length/\i=.int .i64 k/\eK (cO p n o) vss=eK (cO p n o) (vss.drop k)/\Below wo.heap.size wo wr) (λi _=>vss.length-(intOf i).toNat);case atStart=>exact⟨0,Ll _,rfl,rfl,Lf _ _⟩
    case round=>
     obtain⟨k,hk,rfl,her,hbr⟩:=hrel;have HBR:=ac hbr;have HER0:=ac her;clear hbr her;by_cases hk2:k<vss.length
     .have HER:=ac (HER0.o.trans (uT (cO p n o) vss k hk2));obtain⟨b,off,va,vc,rfl,hlt,c0,hvl⟩:=jB HS3.o k hk2;have HFLs:Ma ((vss.getD k []).length<=1200000000000):=JV HAB.o (uU vss k hk2);generalize vss.getD k []=fss at c0 hvl HER HFLs;have HVL:=ac (hvl.below HBR.o);have d0:=ae c0 HBR.o;obtain⟨_,bx0,bx1,bx2,bx3⟩:=HBX3.o.below HBR.o;clear c0 hvl;cases hz:(cO p n o fss !=0)
      .have HZ:Ma (cO p n o fss=0):=by simpa [Ma] using hz
       go_wp2_with (go_at_call 65;refine(uS p n o v _ fss _ HR.o HFLs.o HVL.o).mono ?_;rintro e w4 ⟨rfl,hb4⟩;have HB4:=ac (HBR.o.trans (hb4.mono HBR.o.size));clear hb4);go_roundw;case rel=>exact⟨k+1,by omega,by go_num,by rw[HER.o,LI HZ.o],HB4.o⟩
       case measure=>simp[intOf];omega
      .have HZ:Ma (cO p n o fss≠0):=by simpa [Ma] using hz
       go_wp2_with (go_at_call 65;refine(uS p n o v _ fss _ HR.o HFLs.o HVL.o).mono ?_;rintro e w4 ⟨rfl,hb4⟩;have HB4:=ac (HBR.o.trans (hb4.mono HBR.o.size));clear hb4);go_ret;exact⟨bJ (by rw[HE3.o,HER.o,LH HZ.o]),HB3.o.trans (HB4.o.mono HB3.o.size)⟩
     .go_wp2;go_ret;exact⟨bJ (by rw[HE3.o,HER0.o,LZ (by omega)];rfl),HB3.o.trans (HBR.o.mono HB3.o.size)⟩
   .rw[hun] at HCU;have HE3:Ma (fh p n o v vss=1):=by show _=_;rw[HE2.o,LI hun]
    clear hun;clear HE HE2;go_wp2_with fail;refine HCB.o.mono ?_;rw[HAB.o];rintro e w4 ⟨rfl,rfl⟩;go_wp2_with fail;refine HCU.o.mono ?_;rintro e w4 ⟨rfl,rfl⟩;go_wp2_with fail;go_ret;exact⟨bJ HE3.o.symm,HB3.o⟩
  .have HE3:Ma (fh p n o v vss=3):=by show _=_;rw[HE.o,LI hab]
   clear HE;go_wp2_with (go_at_call 66;refine(BA _ vss _ hm HS3.o).mono ?_;rw[hab];rintro e w' ⟨rfl,rfl⟩);go_ret;exact⟨bJ HE3.o.symm,HB3.o⟩
 .have HE:Ma (fh p n o v vss=a8 p n o v):=by show _=_;unfold fh;rw[LI (by simpa using hR)]
  rw[HE.o];go_enter func44,ntmps44;go_wp2_with fail;try rw[<-hw2]
  refine(iX p n o v w2).mono ?_;rintro e w3 ⟨rfl,hb3⟩;have HB3:=ac (HB2.o.trans (hb3.mono HB2.o.size));clear hb3;go_wp2;go_ret;exact⟨rfl,HB3.o⟩
theorem JW{w:World}{B g n:Nat}{T:TypeId}{xs:List Value}(h:w.ownsRow B T 1 (.slice (some ⟨g,0,none⟩) n n) n xs)(hs:∀u∈xs,∃a n c,u=.slice a n c):cz w g:=by
 rcases h.2 with ⟨h1,_⟩|⟨g',cap,af,h1,hb,hg,hn,hm,hcs,ht⟩
 .simp at h1
 .simp only[LB,LA,Addr.mk.injEq,and_true,true_and] at h1;obtain⟨rfl,rfl⟩:=h1;refine uI hg (λu hu=>hs u ?_);rw[<-ht,Lz (by rw[Array.length_toList,hcs];exact Lc _)];exact hu
structure iT(w wr:World)(g n:Nat)(us:List Value)(fss:List (List Tm)):Prop where
 own:∃rest,wr.ownsRow w.heap.size 59 1 (.slice (some ⟨g,0,none⟩) n n) n (us++rest)/\(us++rest).length=n/\∀u∈us++rest,∃a n c,u=.slice a n c
 len:us.length=fss.length
 pls:∀i,i<fss.length->Pl wr (us.getD i aB) (fss.getD i [])
 below:Below w.heap.size w wr
 ge:w.heap.size<=g
theorem iT.next{w wr w':World}{g n:Nat}{us:List Value}{fss:List (List Tm)}(h:iT w wr g n us fss)(hb:Below wr.heap.size wr w'):iT w w' g n us fss:=by obtain⟨rest,h1,h2,h3⟩:=h.own;exact⟨⟨rest,aK h1 hb,h2,h3⟩,h.len,λi hi=>(h.pls i hi).below hb,h.below.trans (hb.mono h.below.size),h.ge⟩
theorem iT.cells{w wr:World}{g n:Nat}{us:List Value}{fss:List (List Tm)}(h:iT w wr g n us fss)(hk:us.length<n):∃a,wr.cell? ⟨g,us.length,none⟩=some a/\wr.frozen? ⟨g,us.length,none⟩=false:=by obtain⟨rest,h1,h2,_⟩:=h.own;have e1:=h1.cellAt us.length (by omega);rw[Ls (by omega)] at e1;exact⟨_,e1,h1.frozenAt _⟩
theorem JX(l:List Value)(a:Value):∀r:List Value,1<=r.length->(l++r).set l.length a=l++[a]++r.drop 1
 |[],h=>by simp at h
 |x::r,_=>by simp[List.set_append_right]
theorem iT.put{w wr:World}{g n:Nat}{us:List Value}{fss:List (List Tm)}(h:iT w wr g n us fss)(hk:us.length<n)(u:Value)(f:List Tm)(hu:Pl wr u f):iT w (wr.setCell ⟨g,us.length,none⟩ u) g n (us++[u]) (fss++[f]):=by
 obtain⟨rest,h1,h2,h3⟩:=h.own;have s1:=h1.stored us.length u;have hk2:=JW h1 h3;have hus:∃a n c,u=.slice a n c:=by obtain⟨a,c,e,_⟩:=hu;exact⟨_,_,_,e⟩
 rw[Lx] at h2;have e:=JX us u rest (by omega);refine⟨⟨rest.drop 1,by rw[<-e];exact s1.1,by rw[Lx,Lx,List.length_drop];simp;omega,λx hx=>?_⟩,by simp[h.len],λi hi=>?_,h.below.trans (dE s1.2 h.ge h.below.size),h.ge⟩
 .rcases Lv.1 hx with hx|hx
  .rcases Lv.1 hx with hx|hx
   .exact h3 x (Lv.2 (L0 hx))
   .rw[Lw] at hx;rw[hx];exact hus
  .exact h3 x (Lv.2 (L3 (List.mem_of_mem_drop hx)))
 .rw[Lx] at hi;simp only[LN,List.length_nil] at hi;rcases Nat.lt_or_ge i fss.length with hl|hl
  .have e1:(us++[u]).getD i aB=us.getD i aB:=by simp[Lr,LQ (show i<us.length by rw[h.len];exact hl)]
   have e2:(fss++[f]).getD i []=fss.getD i []:=by simp[Lr,LQ hl]
   rw[e1,e2];exact l9 hk2 s1.2 (h.pls i hl)
  .have e:i=fss.length:=by omega
   subst e;have e1:(us++[u]).getD fss.length aB=u:=by rw[<-h.len];simp[Lr]
   have e2:(fss++[f]).getD fss.length []=f:=by simp[Lr]
   rw[e1,e2];exact l9 hk2 s1.2 hu
theorem iT.done{w wr:World}{g n:Nat}{us:List Value}{fss:List (List Tm)}(h:iT w wr g n us fss)(hn:us.length=n):Vl wr (.slice (some ⟨g,0,none⟩) n n) fss:=by
 obtain⟨rest,h1,h2,_⟩:=h.own;have hlt:=(Lb h1 g rfl).2;refine⟨_,n,by rw[<-h.len,hn],λ_=>⟨g,0,rfl,hlt,λi hi=>⟨us.getD i aB,?_,h.pls i hi⟩⟩⟩;have hi2:i<us.length:=by rw[h.len];exact hi
 rw[Ly,h1.cellAt i (by omega),LQ hi2];simp[Lr,hi2]
theorem iT.made{w w':World}{n:Nat}(h:w'.ownsRow w.heap.size 59 1 (.slice (some ⟨w.heap.size,0,none⟩) n n) n (madeCells (Value.cells (.slice none 0 0)) (n*1)).toList)(hg:w.grownBy w' none):iT w w' w.heap.size n [] []:=by refine⟨⟨_,h,by simp[size_madeCells],λu hu=>?_⟩,rfl,λi hi=>by simp at hi,⟨hg.os,hg.tape,hg.output,hg.size,λk hk=>hg.block k hk (by simp)⟩,Lc _⟩;simp[madeCells,Value.cells] at hu;obtain⟨l,_,hx⟩:=hu;rw[Nat.mod_one] at hx;exact⟨none,0,0,by rw[<-hx];rfl⟩
theorem Ir(p n o v rank:Int)(lv:Value)(vss:List (List (List Tm)))(w:World)(hs:Wl w lv vss):Calls prog 39 #[aT p n o v,.int .i64 rank,lv] w λe w'=>e=.returned (.int .i64 (df p n o v rank vss))/\Below w.heap.size w w':=by
 have HS:=ac hs;obtain⟨la,lc,rfl,_⟩:=hs;cases hR:(a8 p n o v !=0)
 .have hR0:a8 p n o v=0:=by simpa using hR
  have HR:=ac hR0;have HE:Ma (df p n o v rank vss=hZ p n o rank vss):=by show _=_;unfold df;rw[LH (by simpa using hR0)]
  clear hR0;cases hbt:bH rank 1 40
  .have HE2:Ma (df p n o v rank vss=3):=by show _=_;rw[HE.o];unfold hZ;rw[LI hbt]
   rw[HE2.o];go_enter func39,ntmps39;go_wp2_with (first|(go_at_call 63;refine(iX _ _ _ _ _).mono ?_;rintro e w1 ⟨rfl,hb1⟩;have HB1:=ac (show Below w.heap.size w w1 from bv.trans (hb1.mono (by simp)));clear hb1)|(go_at_call 64;refine(re _ _).mono ?_;rw[hbt];rintro e w' ⟨rfl,rfl⟩));go_ret;exact⟨rfl,HB1.o⟩
  .by_cases hlen:60<vss.length
   .have HE2:Ma (df p n o v rank vss=2):=by show _=_;rw[HE.o];unfold hZ;rw[LH (by rw[hbt];simp),LI hlen]
    rw[HE2.o];go_enter func39,ntmps39;go_wp2_with (first|(go_at_call 63;refine(iX _ _ _ _ _).mono ?_;rintro e w1 ⟨rfl,hb1⟩;have HB1:=ac (show Below w.heap.size w w1 from bv.trans (hb1.mono (by simp)));clear hb1)|(go_at_call 64;refine(re _ _).mono ?_;rw[hbt];rintro e w' ⟨rfl,rfl⟩));go_ret;exact⟨rfl,HB1.o⟩
   .have HE2:Ma (df p n o v rank vss=eK (fC p n o rank) vss):=by show _=_;rw[HE.o];unfold hZ;rw[LH (by rw[hbt];simp),LH hlen]
    rw[HE2.o];have HRK:Ma (1<=rank/\rank<=40):=by simpa [bH,Ma] using hbt
    clear HE HE2;go_enter func39,ntmps39;go_wp2_with fail;refine(iX _ _ _ _ _).mono ?_;rintro e w1 ⟨rfl,hb1⟩;have HB1:=ac (show Below w.heap.size w w1 from bv.trans (hb1.mono (by simp)));have HBX:=ac ((bE.new w p n o v 23).below hb1);clear hb1;go_wp2_with fail;refine(re _ _).mono ?_;rw[hbt];rintro e w2 ⟨rfl,rfl⟩;have HS1:=ac (HS.o.below HB1.o);go_wp2_with fail;obtain⟨wo,hwo⟩:∃wo,wo=w2:=⟨_,rfl⟩;subst hwo;clear hbt;go_loopw [24] (λi wr=>∃k:Nat,k<=vss.length/\i=.int .i64 k/\eK (fC p n o rank) vss=eK (fC p n o rank) (vss.drop k)/\Below wo.heap.size wo wr) (λi _=>vss.length-(intOf i).toNat);case atStart=>exact⟨0,Ll _,rfl,rfl,Lf _ _⟩
    case round=>
     obtain⟨k,hk,rfl,her,hbr⟩:=hrel;have HBR:=ac hbr;have HER0:=ac her;clear hbr her;by_cases hk2:k<vss.length
     .have HER:=ac (HER0.o.trans (uT (fC p n o rank) vss k hk2));obtain⟨b,off,va,vc,rfl,hlt,c0,hvl⟩:=jB HS1.o k hk2;generalize vss.getD k []=fss at c0 hvl HER;have HVL:=ac (hvl.below HBR.o);have d0:=ae c0 HBR.o;obtain⟨_,bx0,bx1,bx2,bx3⟩:=HBX.o.below HBR.o;clear c0 hvl;cases hln:((fss.length:Int) !=rank)
      .have hrk:(fss.length:Int)=rank:=by simpa using hln
       subst hrk;have HEV:Ma (fC p n o (fss.length:Int) fss=cO p n o fss):=by show _=_;unfold fC;rw[LH (by simp)]
       have hf40:fss.length<=40:=by have:=HRK.o;omega
       have HVP:=ac (uS p n o v _ fss wr HR.o (by omega) HVL.o);clear hln;cases hz:(cO p n o fss !=0)
       .have HZ:Ma (cO p n o fss=0):=by simpa [Ma] using hz
        go_wp2_with (go_at_call 65;refine HVP.o.mono ?_;rintro e w4 ⟨rfl,hb4⟩;have HB4:=ac (HBR.o.trans (hb4.mono HBR.o.size));clear hb4);go_roundw;case rel=>exact⟨k+1,by omega,by go_num,by rw[HER.o,HEV.o,LI HZ.o],HB4.o⟩
        case measure=>simp[intOf];omega
       .have HZ:Ma (cO p n o fss≠0):=by simpa [Ma] using hz
        go_wp2_with (go_at_call 65;refine HVP.o.mono ?_;rintro e w4 ⟨rfl,hb4⟩;have HB4:=ac (HBR.o.trans (hb4.mono HBR.o.size));clear hb4);go_ret;exact⟨bJ (by rw[HER.o,HEV.o,LH HZ.o]),HB1.o.trans (HB4.o.mono HB1.o.size)⟩
      .have HEV:Ma (fC p n o rank fss=1):=by show _=_;unfold fC;rw[LI (by simpa using hln)]
       go_wp2_with fail;go_ret;exact⟨bJ (by rw[HER.o,HEV.o];simp),HB1.o.trans (HBR.o.mono HB1.o.size)⟩
     .go_wp2;go_ret;exact⟨bJ (by rw[HER0.o,LZ (by omega)];rfl),HB1.o.trans (HBR.o.mono HB1.o.size)⟩
 .have HE:Ma (df p n o v rank vss=a8 p n o v):=by show _=_;unfold df;rw[LI (by simpa using hR)]
  rw[HE.o];go_enter func39,ntmps39;go_wp2_with (go_at_call 63;refine(iX _ _ _ _ _).mono ?_;rintro e w1 ⟨rfl,hb1⟩;have HB1:=ac (show Below w.heap.size w w1 from bv.trans (hb1.mono (by simp)));clear hb1);go_ret;exact⟨rfl,HB1.o⟩
theorem AK{w:World}{x:Value}{fss:List (List Tm)}{b c:Nat}(hf:Vl w x fss)(hlt:b<w.heap.size)(c0:w.cell? ⟨b,0,none⟩=some x):Wl w (.slice (some ⟨b,0,none⟩) 1 c) [fss]:=by
 refine⟨_,c,rfl,λ_=>⟨b,0,rfl,hlt,λi hi=>?_⟩⟩;simp only[LN,List.length_nil] at hi;rcases i with _|i
 .exact⟨x,c0,hf⟩
 .omega
theorem JY{p n o v:Int}{vss:List (List (List Tm))}(h:fh p n o v vss=0):a8 p n o v=0/\∀fss∈vss,(1<=fss.length/\fss.length<=40)/\fss.length=(vss.getD 0 []).length/\∀f∈fss,cB p n o f=0:=by
 unfold fh at h;by_cases hr:a8 p n o v=0
 .rw[LH (by simpa using hr)] at h;cases h1:vss.any gk
  .rw[h1,LH (by simp)] at h;cases h2:vss.any (fi (vss.getD 0 []).length)
   .rw[h2,LH (by simp)] at h;refine⟨hr,λfss hf=>?_⟩;have a1:=List.any_eq_false.1 h1 fss hf;have a2:=List.any_eq_false.1 h2 fss hf;simp[gk,bH] at a1;simp only[fi,decide_eq_true_eq,Decidable.not_not] at a2;exact⟨by omega,a2,uP (uV h fss hf)⟩
   .rw[h2,LI rfl] at h;omega
  .rw[h1,LI rfl] at h;omega
 .rw[LI hr] at h;exact absurd h hr
abbrev Ld:=Option (Nat×Tm)
def JZ(o ov:Int)(st:Ld)(i:Nat):List Tm->Ld
 |[]=>st
 |t::_=>match st with
  |none=>some (i,t)
  |some (j,u)=>if ov=1/\0<aJ o t.2 u.2 then some (i,t) else some (j,u)
def oX(o ov:Int)(fss:List (List Tm)):Nat->Ld
 |0=>none
 |k+1=>JZ o ov (oX o ov fss k) k (fss.getD k [])
structure nA(w1 w:World)(sv:Value)(qs:List (TV×Value)):Prop where
 own:w.ownsRow w1.heap.size 59 1 sv qs.length (qs.map Prod.snd)
 rows:∀q∈qs,w.ownsRow w1.heap.size 57 2 q.2 1 (bO [q.1])
 es:∀q∈qs,Sl w1 q.1.2.1 q.1.2.2
 below:Below w1.heap.size w1 w
theorem nA.next{w1 w w':World}{sv:Value}{qs:List (TV×Value)}(h:nA w1 w sv qs)(hb:Below w.heap.size w w'):nA w1 w' sv qs:=
 ⟨aK h.own hb,λq hq=>aK (h.rows q hq) hb,h.es,h.below.trans (hb.mono h.below.size)⟩
theorem nA.snoc{w1 W W2:World}{sv sv2:Value}{qs:List (TV×Value)}{q:TV×Value}(h:nA w1 W sv qs)(hq:W.ownsRow w1.heap.size 57 2 q.2 1 (bO [q.1]))(he:Sl w1 q.1.2.1 q.1.2.2)(h2:W2.ownsRow w1.heap.size 59 1 sv2 (qs.length+1) (qs.map Prod.snd++[q.2]))(g2:W.grownBy W2 sv.ownBlock):nA w1 W2 sv2 (qs++[q]):=by
 have hT:(57:TypeId)≠59:=by decide
 refine⟨by rw[Lx,LO];exact h2,λr hr=>?_,λr hr=>?_,i8 h.own h.below g2 (Lc _)⟩
 .rcases Lv.1 hr with hr|hr
  .exact(h.rows r hr).kept g2 (i6 hT (h.rows r hr) h.own)
  .rw[Lw] at hr;subst hr;exact hq.kept g2 (i6 hT hq h.own)
 .rcases Lv.1 hr with hr|hr
  .exact h.es r hr
  .rw[Lw] at hr;subst hr;exact he
theorem oY{w:World}{B:Nat}(hB:B<=w.heap.size)(c:Int)(ev:Value):(w.alloc (.cells #[.int .i64 c,ev] 57)).ownsRow B 57 2 (.slice (some ⟨w.heap.size,0,none⟩) 1 1) 1 [.int .i64 c,ev]:=
 ⟨by simp,.inr ⟨w.heap.size,1,_,rfl,hB,heap_alloc_new w _,Lc _,by decide,by simp,by simp⟩⟩
def nB:Ld->Int
 |none=>0
 |some (_,u)=>u.1
def iU:Ld->List Int
 |none=>[]
 |some (_,u)=>u.2
structure kY(w wr:World)(p n o v:Int)(st:Ld):Prop where
 below:Below w.heap.size w wr
 box:bE wr w.heap.size p n o v
 res:wr.ownsRow w.heap.size 57 2 (.slice (some ⟨w.heap.size+1,0,none⟩) 1 1) 1 [.int .i64 0,.slice none 0 0]
 own:∃ea ec,wr.ownsRow w.heap.size 57 2 (.slice (some ⟨w.heap.size+1+1,0,none⟩) 1 1) 1 [.int .i64 (nB st),.slice ea (iU st).length ec]/\Sl w (.slice ea (iU st).length ec) (iU st)
theorem kY.next{w wr w':World}{p n o v:Int}{st:Ld}(h:kY w wr p n o v st)(hb:Below wr.heap.size wr w'):kY w w' p n o v st:=by obtain⟨ea,ec,h1,h2⟩:=h.own;exact⟨h.below.trans (hb.mono h.below.size),h.box.below hb,aK h.res hb,ea,ec,aK h1 hb,h2⟩
theorem kY.put{w wr:World}{p n o v:Int}{st:Ld}(h:kY w wr p n o v st)(i:Nat)(t:Tm)(ea:Option Addr)(ec:Nat)(hs:Sl w (.slice ea t.2.length ec) t.2):kY w ((wr.setCell ⟨w.heap.size+1+1,0,none⟩ (.int .i64 t.1)).setCell ⟨w.heap.size+1+1,1,none⟩ (.slice ea t.2.length ec)) p n o v (some (i,t)):=by
 obtain⟨ea0,ec0,h1,_⟩:=h.own;have s1:=h1.stored 0 (.int .i64 t.1);have s2:=s1.1.stored 1 (.slice ea t.2.length ec);have hg:=cE s1.2 s2.2;have hlt:=h.box.1;refine⟨h.below.trans (dE hg (by omega) h.below.size),?_,h.res.kept hg (L3 (by simp[Value.ownBlock])),ea,ec,?_,hs⟩
 .have far:=λo=>jM (o:=o) hg hlt (show w.heap.size≠w.heap.size+1+1 by omega);obtain⟨_,b0,b1,b2,b3⟩:=h.box;exact⟨Lj hlt hg.size,by rw[far];exact b0,by rw[far];exact b1,by rw[far];exact b2,by rw[far];exact b3⟩
 .have:=s2.1;simpa [nB,iU] using this
theorem kY.first(w:World)(p n o v:Int):kY w (((w.alloc (.cells #[.int .i64 p,.int .i64 n,.int .i64 o,.int .i64 v] 23)).alloc (.cells #[.int .i64 0,.slice none 0 0] 57)).alloc (.cells #[.int .i64 0,.slice none 0 0] 57)) p n o v none:=by
 have h1:=oY (w:=w.alloc (.cells #[.int .i64 p,.int .i64 n,.int .i64 o,.int .i64 v] 23)) (B:=w.heap.size) (by simp) 0 (.slice none 0 0);have h2:=oY (w:=(w.alloc (.cells #[.int .i64 p,.int .i64 n,.int .i64 o,.int .i64 v] 23)).alloc (.cells #[.int .i64 0,.slice none 0 0] 57)) (B:=w.heap.size) (by simp;omega) 0 (.slice none 0 0);refine⟨fS.trans (aj.mono fS.size),((bE.new w p n o v _).below aj).below aj,?_,none,0,?_,none,0,rfl,λh=>by simp[iU] at h⟩
 .have:=aK h1 (aj (A:=.cells #[.int .i64 0,.slice none 0 0] 57));simpa using this
 .simpa [nB,iU] using h2
structure kr(w wr:World)(p n o v:Int):Prop where
 below:Below w.heap.size w wr
 box:bE wr w.heap.size p n o v
 res:wr.ownsRow w.heap.size 57 2 (.slice (some ⟨w.heap.size+1,0,none⟩) 1 1) 1 [.int .i64 0,.slice none 0 0]
theorem kr.next{w wr w':World}{p n o v:Int}(h:kr w wr p n o v)(hb:Below wr.heap.size wr w'):kr w w' p n o v:=
 ⟨h.below.trans (hb.mono h.below.size),h.box.below hb,aK h.res hb⟩
theorem kr.first(w:World)(p n o v:Int):kr w ((w.alloc (.cells #[.int .i64 p,.int .i64 n,.int .i64 o,.int .i64 v] 23)).alloc (.cells #[.int .i64 0,.slice none 0 0] 57)) p n o v:=by have h1:=oY (w:=w.alloc (.cells #[.int .i64 p,.int .i64 n,.int .i64 o,.int .i64 v] 23)) (B:=w.heap.size) (by simp) 0 (.slice none 0 0);exact⟨fS,(bE.new w p n o v _).below aj,by simpa using h1⟩
theorem kr.cells{w wr:World}{p n o v:Int}(h:kr w wr p n o v):wr.cell? ⟨w.heap.size+1,0,none⟩=some (.int .i64 0)/\wr.cell? ⟨w.heap.size+1,1,none⟩=some (.slice none 0 0)/\wr.frozen? ⟨w.heap.size+1,0,none⟩=false/\wr.frozen? ⟨w.heap.size+1,1,none⟩=false:=
 ⟨h.res.cellAt 0 (by omega),h.res.cellAt 1 (by omega),h.res.frozenAt 0,h.res.frozenAt 1⟩
theorem kr.put{w wr:World}{p n o v:Int}(h:kr w wr p n o v)(c:Int)(u:Value):Below w.heap.size w ((wr.setCell ⟨w.heap.size+1,0,none⟩ (.int .i64 c)).setCell ⟨w.heap.size+1,1,none⟩ u)/\((wr.setCell ⟨w.heap.size+1,0,none⟩ (.int .i64 c)).setCell ⟨w.heap.size+1,1,none⟩ u).cell? ⟨w.heap.size+1,0,none⟩=some (.int .i64 c)/\((wr.setCell ⟨w.heap.size+1,0,none⟩ (.int .i64 c)).setCell ⟨w.heap.size+1,1,none⟩ u).cell? ⟨w.heap.size+1,1,none⟩=some u:=by have s1:=h.res.stored 0 (.int .i64 c);have s2:=s1.1.stored 1 u;exact⟨h.below.trans (dE (cE s1.2 s2.2) (by omega) h.below.size),s2.1.cellAt 0 (by omega),s2.1.cellAt 1 (by omega)⟩
structure kZ(w0 w wr:World)(p n o v:Int)(st:Ld):Prop where
 below:Below w.heap.size w wr
 box:bE wr w.heap.size p n o v
 res:wr.ownsRow w.heap.size 57 2 (.slice (some ⟨w.heap.size+1,0,none⟩) 1 1) 1 [.int .i64 0,.slice none 0 0]
 own:∃ea ec,wr.ownsRow w.heap.size 57 2 (.slice (some ⟨w.heap.size+1+1,0,none⟩) 1 1) 1 [.int .i64 (nB st),.slice ea (iU st).length ec]/\Sl w0 (.slice ea (iU st).length ec) (iU st)
theorem kZ.next{w0 w wr w':World}{p n o v:Int}{st:Ld}(h:kZ w0 w wr p n o v st)(hb:Below wr.heap.size wr w'):kZ w0 w w' p n o v st:=by obtain⟨ea,ec,h1,h2⟩:=h.own;exact⟨h.below.trans (hb.mono h.below.size),h.box.below hb,aK h.res hb,ea,ec,aK h1 hb,h2⟩
theorem kZ.put{w0 w wr:World}{p n o v:Int}{st:Ld}(h:kZ w0 w wr p n o v st)(i:Nat)(t:Tm)(ea:Option Addr)(ec:Nat)(hs:Sl w0 (.slice ea t.2.length ec) t.2):kZ w0 w ((wr.setCell ⟨w.heap.size+1+1,0,none⟩ (.int .i64 t.1)).setCell ⟨w.heap.size+1+1,1,none⟩ (.slice ea t.2.length ec)) p n o v (some (i,t)):=by
 obtain⟨ea0,ec0,h1,_⟩:=h.own;have s1:=h1.stored 0 (.int .i64 t.1);have s2:=s1.1.stored 1 (.slice ea t.2.length ec);have hg:=cE s1.2 s2.2;have hlt:=h.box.1;refine⟨h.below.trans (dE hg (by omega) h.below.size),?_,h.res.kept hg (L3 (by simp[Value.ownBlock])),ea,ec,?_,hs⟩
 .have far:=λo=>jM (o:=o) hg hlt (show w.heap.size≠w.heap.size+1+1 by omega);obtain⟨_,b0,b1,b2,b3⟩:=h.box;exact⟨Lj hlt hg.size,by rw[far];exact b0,by rw[far];exact b1,by rw[far];exact b2,by rw[far];exact b3⟩
 .have:=s2.1;simpa [nB,iU] using this
theorem kZ.first(w0 w:World)(p n o v:Int):kZ w0 w (((w.alloc (.cells #[.int .i64 p,.int .i64 n,.int .i64 o,.int .i64 v] 23)).alloc (.cells #[.int .i64 0,.slice none 0 0] 57)).alloc (.cells #[.int .i64 0,.slice none 0 0] 57)) p n o v none:=by
 have h1:=oY (w:=w.alloc (.cells #[.int .i64 p,.int .i64 n,.int .i64 o,.int .i64 v] 23)) (B:=w.heap.size) (by simp) 0 (.slice none 0 0);have h2:=oY (w:=(w.alloc (.cells #[.int .i64 p,.int .i64 n,.int .i64 o,.int .i64 v] 23)).alloc (.cells #[.int .i64 0,.slice none 0 0] 57)) (B:=w.heap.size) (by simp;omega) 0 (.slice none 0 0);refine⟨fS.trans (aj.mono fS.size),((bE.new w p n o v _).below aj).below aj,?_,none,0,?_,none,0,rfl,λh=>by simp[iU] at h⟩
 .have:=aK h1 (aj (A:=.cells #[.int .i64 0,.slice none 0 0] 57));simpa using this
 .simpa [nB,iU] using h2
end Go.Proofs.YteimdcndjjclnaaGreat
