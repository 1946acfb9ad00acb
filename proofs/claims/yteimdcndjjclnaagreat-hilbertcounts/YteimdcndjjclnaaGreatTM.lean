/- checkTerms, checkAll: what they tell. -/
import Derived.Lib.ItoaNum
import Derived.Lib.Join
import Derived.Test.YteimdcndjjclnaaGreatWB
set_option maxHeartbeats 2000000
set_option maxRecDepth 100000
namespace Go.Proofs.YteimdcndjjclnaaGreat
set_option linter.all false
open Go.Proofs.Tryz Go.RowKit
def kW(p n o v:Int)(len:Nat)(E:Nat->Int):Int:=if bm p n o v≠0 then bm p n o v else if 2000<len then 2 else jo E len 0
theorem we(E:Nat->Int)(m:Nat):∀k,k<=m->(∀j,j<k->E j=0)->jo E m 0=jo E (m-k) k
 |0,_,_=>rfl
 |k+1,hk,h=>by rw[we E m k (by omega) (λj hj=>h j (by omega)),Cj E (show k<m by omega),M8 (by simpa using h k (by omega))]
theorem Kz{E:Nat->Int}{m:Nat}(h:∀j,j<m->E j=0):jo E m 0=0:=by rw[we E m m (MI _) h,Nat.sub_self];rfl
theorem KB{E:Nat->Int}{m k:Nat}(hk:k<m)(h:∀j,j<k->E j=0)(h2:E k≠0):jo E m 0=E k:=by rw[we E m k (by omega) h,Cj E hk,M9 h2]
theorem KD(p n o v:Int)(lv:Value)(ts:List Tm)(rb fb:Nat)(E:Nat->Int)(w:World)(pf:Pl w lv ts)(H:bm p n o v=0->ts.length<=2000->∀i w',i<ts.length->(∀j,j<i->E j=0)->Below w.heap.size w w'->Calls prog 149 #[.int .i64 i,.pointer (some ⟨rb,0,none⟩),.pointer (some ⟨fb,0,none⟩)] w' λe w''=>e=.returned (.int .i64 (E i))/\Below w'.heap.size w' w''):Calls prog 148 #[aS p n o v,lv,.func (.func 149) #[] #[.pointer (some ⟨rb,0,none⟩),.pointer (some ⟨fb,0,none⟩)]] w λe w'=>e=.returned (.int .i64 (kW p n o v ts.length E))/\Below w.heap.size w w':=by
 obtain⟨a,c,rfl,_,_⟩:=pf;have HH:=ae H;clear H;cases hR:(bm p n o v !=0)
 .have hR0:bm p n o v=0:=by simpa using hR
  have HR:=ae hR0;clear hR0;by_cases hlen:2000<ts.length
  .have he:kW p n o v ts.length E=2:=by unfold kW;rw[M8 (by simpa using HR.o),M9 hlen]
   rw[he];clear he;go_enter func148,ntmps148;go_wp2_with (go_at_call 63;refine(ju _ _ _ _ _).mono ?_;rintro e w1 ⟨rfl,hb1⟩);go_ret;exact⟨rfl,bA.trans (hb1.mono (by simp))⟩
  .have he:kW p n o v ts.length E=jo E ts.length 0:=by unfold kW;rw[M8 (by simpa using HR.o),M8 hlen]
   rw[he];clear he;go_enter func148,ntmps148;go_wp2_with (go_at_call 63;refine(ju _ _ _ _ _).mono ?_;rintro e w1 ⟨rfl,hb1⟩);have HB1:=ae (show Below w.heap.size w w1 from bA.trans (hb1.mono (by simp)));clear hb1;go_loopw [20] (λi wr=>∃k:Nat,k<=ts.length/\i=.int .i64 k/\(∀j,j<k->E j=0)/\Below w1.heap.size w1 wr) (λi _=>ts.length-(intOf i).toNat);case atStart=>exact⟨0,MP _,rfl,λj hj=>by omega,MJ _ _⟩
   case round=>
    obtain⟨k,hk,rfl,hz,hbr⟩:=hrel;have HZ:=ae hz;have HDN:=ae (HB1.o.trans (hbr.mono HB1.o.size));have HBR:=ae hbr;clear hz hbr;by_cases hk2:k<ts.length
    .have HC:=ae (HH.o HR.o (by omega) k wr hk2 HZ.o HDN.o);have HHIT:=ae (λh=>KB (E:=E) hk2 HZ.o h);cases he:(E k !=0)
     .have HE0:Nw (E k=0):=by simpa [Nw] using he
      go_wp2_with (go_at_call 149;refine HC.o.mono ?_;rintro e w2 ⟨rfl,hb2⟩;have HB2:=ae (HBR.o.trans (hb2.mono HBR.o.size));clear hb2);go_roundw;case rel=>exact⟨k+1,by omega,by go_num,λj hj=>by
       rcases Nat.lt_or_ge j k with h|h
       .exact HZ.o j h
       .rw[show j=k by omega];exact HE0.o,HB2.o⟩
      case measure=>simp[intOf];omega
     .go_wp2_with (go_at_call 149;refine HC.o.mono ?_;rintro e w2 ⟨rfl,hb2⟩;have HB2:=ae (HBR.o.trans (hb2.mono HBR.o.size));clear hb2);go_ret;exact⟨bL (HHIT.o (by simpa using he)).symm,HB1.o.trans (HB2.o.mono HB1.o.size)⟩
    .go_wp2;go_ret;exact⟨bL (Kz (λj hj=>HZ.o j (by omega))).symm,HB1.o.trans (HBR.o.mono HB1.o.size)⟩
 .have he:kW p n o v ts.length E=bm p n o v:=by unfold kW;rw[M9 (by simpa using hR)]
  rw[he];clear he;go_enter func148,ntmps148;go_wp2_with (go_at_call 63;refine(ju _ _ _ _ _).mono ?_;rintro e w1 ⟨rfl,hb1⟩);go_ret;exact⟨rfl,bA.trans (hb1.mono (by simp))⟩
theorem KE(p n o v:Int)(k rb fb:Nat)(fv:Value)(ts:List Tm)(w:World)(hR:bm p n o v=0)(hk2:k<ts.length)(hlen:ts.length<=2000)(hq:∀j,j<k->bW n (ts.getD j bi).2=0)(bx:bE w rb p n o v)(hc:w.cell? ⟨fb,0,none⟩=some fv)(pf:Pl w fv ts):Calls prog 149 #[.int .i64 k,.pointer (some ⟨rb,0,none⟩),.pointer (some ⟨fb,0,none⟩)] w λe w'=>e=.returned (.int .i64 (gE p n o ts k))/\Below w.heap.size w w':=by have HP:=ae pf;have HC:=ae (λW (h:Pl W fv ts)=>Ky p n o v fv ts k W hR hk2 hlen hq h);obtain⟨_,bx0,bx1,bx2,bx3⟩:=bx;obtain⟨a,c,rfl,_,_⟩:=pf;clear hR hq;go_enter func149,ntmps149;go_wp2_with (go_at_call 150;refine(HC.o _ HP.o).mono ?_;rintro e w1 ⟨rfl,hb1⟩;have HB:=ae hb1;clear hb1);go_ret;exact⟨rfl,HB.o⟩
def gY(p n o v:Int)(ts:List Tm):Int:=if bm p n o v≠0 then bm p n o v else cQ p n o ts
theorem KF(p n o v:Int)(ts:List Tm):kW p n o v ts.length (gE p n o ts)=gY p n o v ts:=by unfold kW gY cQ;rw[Ck ts ts.length 0 (by omega)];rfl
def ag(p n o v:Int):List (List Tm)->Int
 |[]=>0
 |f::r=>if gY p n o v f≠0 then gY p n o v f else ag p n o v r
theorem KG(p n o v:Int)(fss:List (List Tm))(k:Nat)(h:k<fss.length):ag p n o v (fss.drop k)=if gY p n o v (fss.getD k [])≠0 then gY p n o v (fss.getD k []) else ag p n o v (fss.drop (k+1)):=by rw[Nn h];simp[ag,MV,h]
theorem wg{p n o v:Int}{ts:List Tm}:gY p n o v ts=0↔bm p n o v=0/\cQ p n o ts=0:=by
 unfold gY;by_cases h1:bm p n o v=0
 .rw[M8 (by simpa using h1)];simp[h1]
 .rw[M9 h1];simp[h1]
theorem KH(p n o v:Int)(lv:Value)(fss:List (List Tm))(w:World)(hm:fss.length<=1200000000000)(hs:Vl w lv fss):Calls prog 123 #[aS p n o v,lv] w λe w'=>e=.returned (.int .i64 (ag p n o v fss))/\Below w.heap.size w w':=by
 have HS:=ae hs;obtain⟨la,lc,rfl,hat0⟩:=hs;have HAT:=ae hat0;obtain⟨w1,hw1⟩:∃w1,w1=w.alloc (.cells #[.int .i64 p,.int .i64 n,.int .i64 o,.int .i64 v] 23):=⟨_,rfl⟩;have hbx:bE w1 w.heap.size p n o v:=by rw[hw1];exact bE.new w p n o v _
 have hbw:Below w.heap.size w w1:=by rw[hw1];exact bA
 have HBX:=ae hbx;have HBW:=ae hbw;clear hat0 hbx hbw;go_enter func123,ntmps123;go_wp2_with fail;rw[<-hw1];clear hw1;go_loopw [10] (λi wr=>∃k:Nat,k<=fss.length/\i=.int .i64 k/\ag p n o v fss=ag p n o v (fss.drop k)/\Below w1.heap.size w1 wr) (λi _=>fss.length-(intOf i).toNat);case atStart=>exact⟨0,MP _,rfl,by simp,MJ _ _⟩
 case round=>
  obtain⟨k,hk,rfl,hcur,hbr⟩:=hrel;have HBR:=ae hbr;clear hbr;by_cases hk2:k<fss.length
  .obtain⟨b,off,rfl,hlt,hat⟩:=HAT.o (by omega);obtain⟨vv,hcell,hsl⟩:=hat k hk2;have HER:=ae (hcur.trans (KG p n o v fss k hk2));have HDN:=ae (HBW.o.trans (HBR.o.mono HBW.o.size));have d0:=af hcell HDN.o;generalize fss.getD k []=f at hsl HER;have HSL:=ae (hsl.below HDN.o);obtain⟨fa,fc,rfl,_,_⟩:=hsl;have HBX2:=ae (HBX.o.below HBR.o);obtain⟨_,bx0,bx1,bx2,bx3⟩:=HBX.o.below HBR.o;clear hcur hat hcell;have HBN:Nw (∀A,Below wr.heap.size wr (wr.alloc A)):=λA=>ai;have y0:=λA=>af bx0 (HBN.o A);have y1:=λA=>af bx1 (HBN.o A);have y2:=λA=>af bx2 (HBN.o A);have y3:=λA=>af bx3 (HBN.o A);obtain⟨w2,hw2⟩:∃w2,w2=wr.alloc (.cells #[.slice fa f.length fc] 59):=⟨_,rfl⟩;have HB2:Nw (Below wr.heap.size wr w2):=by rw[hw2];exact HBN.o _
   have HCF:Nw (w2.cell? ⟨wr.heap.size,0,none⟩=some (.slice fa f.length fc)):=by show _=_;rw[hw2];simp[go_sem]
   have HCT:=ae (KD p n o v _ f w.heap.size wr.heap.size (gE p n o f) w2 (HSL.o.below HB2.o) (λhr hl i w' hi hj hb=>KE p n o v i w.heap.size wr.heap.size _ f w' hr hi hl (λj hjj=>Kw (hj j hjj)) ((HBX2.o.below HB2.o).below hb) (af HCF.o hb) ((HSL.o.below HB2.o).below hb)));rw[KF] at HCT;cases hz:(gY p n o v f !=0)
   .go_wp2_with fail;try rw[<-hw2]
    refine HCT.o.mono ?_;rintro e w3 ⟨rfl,hb3⟩;have HB3:=ae (HBR.o.trans ((HB2.o.trans (hb3.mono HB2.o.size)).mono HBR.o.size));clear hb3;go_wp2_with fail;go_roundw;case rel=>exact⟨k+1,Nat.succ_le_of_lt hk2,by go_num,by rw[HER.o,M8 (by simpa using hz)],HB3.o⟩
    case measure=>simp[intOf];omega
   .go_wp2_with fail;try rw[<-hw2]
    refine HCT.o.mono ?_;rintro e w3 ⟨rfl,hb3⟩;have HB3:=ae (HBR.o.trans ((HB2.o.trans (hb3.mono HB2.o.size)).mono HBR.o.size));clear hb3;go_wp2_with fail;go_ret;exact⟨bL (by rw[HER.o,M9 (by simpa using hz)]),HBW.o.trans (HB3.o.mono HBW.o.size)⟩
  .go_wp2;go_ret;exact⟨bL (by rw[hcur,No (by omega)];rfl),HBW.o.trans (HBR.o.mono HBW.o.size)⟩
theorem Cq{p n o v:Int}:∀{fss:List (List Tm)},ag p n o v fss=0->∀f∈fss,gY p n o v f=0
 |[],_,f,hf=>by simp at hf
 |g::r,h,f,hf=>by
  unfold ag at h;by_cases hg:gY p n o v g=0
  .rw[M8 (by simpa using hg)] at h;rcases Nb.1 hf with rfl|hf
   .exact hg
   .exact Cq h f hf
  .rw[M9 hg] at h;exact absurd h hg
theorem Cr{p n o v:Int}:∀{fss:List (List Tm)},(∀f∈fss,gY p n o v f=0)->ag p n o v fss=0
 |[],_=>rfl
 |g::r,h=>by unfold ag;rw[M8 (by simpa using h g (by simp))];exact Cr (λf hf=>h f (by simp[hf]))
theorem KI(p n o v:Int):Ci p n o v (ag p n o v):=by
 refine⟨λfss lv w hm hs=>KH p n o v lv fss w hm hs,λfss hne h=>?_,λhr fss h=>Cr (λf hf=>wg.2 ⟨hr,h f hf⟩)⟩;have hall:=Cq h;cases fss with
 |nil=>exact absurd rfl hne
 |cons g r=>exact⟨(wg.1 (hall g (by simp))).1,λf hf=>(wg.1 (hall f hf)).2⟩
theorem Cs(p n o v:Int)(chk:List (List Tm)->Int)(HC:Ci p n o v chk)(x:Value)(fs:List Tm)(w:World)(pf:Pl w x fs):Calls prog 93 #[aS p n o v,x] w λe w'=>e=.returned (.int .i64 (chk [fs]))/\Below w.heap.size w w':=by have HP:=ae pf;have HT:=ae HC;obtain⟨a,c,rfl,_,_⟩:=pf;clear HC;have HB2:Nw (∀A B,Below w.heap.size w ((w.alloc A).alloc B)):=λA B=>gH;go_enter func93,ntmps93;go_wp2_with fail;refine(HT.o.1 [fs] _ _ (by simp) (Kt (HP.o.below (HB2.o _ _)) (by simp) (by simp[go_sem]))).mono ?_;rintro e w1 ⟨rfl,hb1⟩;have HB1:=ae ((HB2.o _ _).trans (hb1.mono (HB2.o _ _).size));clear hb1;go_wp2;go_ret;exact⟨rfl,HB1.o⟩
theorem JL(c:Int)(a:Option Addr)(n m:Nat)(w:World):Calls prog 51 #[.int .i64 c,.slice a n m] w λe w'=>e=.returned (.agg #[.int .i64 c,.slice a n m])/\Below w.heap.size w w':=by go_enter func51,ntmps51;go_wp2;exact MQ (v:=.agg #[.int .i64 c,.slice a n m]) (by simp[results,Tryz.results51,go_sem]) rfl ⟨rfl,(MJ _ _).alloc (MI _) _⟩
theorem KL{p n o v:Int}{f:List Tm}(hR:bm p n o v=0):ag p n o v [f]=cQ p n o f:=by
 have e:gY p n o v f=cQ p n o f:=by unfold gY;rw[M8 (by simpa using hR)]
 have hu:ag p n o v [f]=if gY p n o v f≠0 then gY p n o v f else 0:=rfl
 rw[hu,e];by_cases h:cQ p n o f=0
 .rw[M8 (by simpa using h),h]
 .rw[M9 h]
theorem wh(p n o v:Int)(lv:Value)(fss:List (List Tm))(w:World)(hR:bm p n o v=0)(hm:fss.length<=1200000000000)(hs:Vl w lv fss):Calls prog 65 #[aS p n o v,lv] w λe w'=>e=.returned (.int .i64 (de p n o fss))/\Below w.heap.size w w':=by
 have HS:=ae hs;have HR:=ae hR;have HT:=ae (KI p n o v);obtain⟨la,lc,rfl,_⟩:=hs;obtain⟨w1,hw1⟩:∃w1,w1=w.alloc (.cells #[.int .i64 p,.int .i64 n,.int .i64 o,.int .i64 v] 23):=⟨_,rfl⟩;have hbx:bE w1 w.heap.size p n o v:=by rw[hw1];exact bE.new w p n o v _
 have hbw:Below w.heap.size w w1:=by rw[hw1];exact bA
 have HBX:=ae hbx;have HBW:=ae hbw;clear hR hbx hbw;go_enter func65,ntmps65;go_wp2_with fail;rw[<-hw1];clear hw1;go_loopw [10] (λi wr=>∃k:Nat,k<=fss.length/\i=.int .i64 k/\de p n o fss=de p n o (fss.drop k)/\Below w1.heap.size w1 wr) (λi _=>fss.length-(intOf i).toNat);case atStart=>exact⟨0,MP _,rfl,rfl,MJ _ _⟩
 case round=>
  obtain⟨k,hk,rfl,her,hbr⟩:=hrel;have HBR:=ae hbr;have HER0:=ae her;clear hbr her;by_cases hk2:k<fss.length
  .have HER:=ae (HER0.o.trans (Ct p n o fss k hk2));have HDN:=ae (HBW.o.trans (HBR.o.mono HBW.o.size));obtain⟨b,off,fa,fc,rfl,hlt,c0,hpf⟩:=lU HS.o k hk2;generalize fss.getD k []=f at c0 hpf HER;have HPF:=ae (hpf.below HDN.o);have d0:=af c0 HDN.o;have HC1:=ae (KL (f:=f) HR.o);obtain⟨_,bx0,bx1,bx2,bx3⟩:=HBX.o.below HBR.o;clear c0 hpf;cases hz:(cQ p n o f !=0)
   .have HZ:Nw (cQ p n o f=0):=by simpa [Nw] using hz
    go_wp2_with (go_at_call 93;refine(Cs p n o v _ HT.o _ f _ HPF.o).mono ?_;rw[HC1.o];rintro e w2 ⟨rfl,hb2⟩;have HB2:=ae (HBR.o.trans (hb2.mono HBR.o.size));clear hb2);go_roundw;case rel=>exact⟨k+1,by omega,by go_num,by rw[HER.o,M9 HZ.o],HB2.o⟩
    case measure=>simp[intOf];omega
   .have HZ:Nw (cQ p n o f≠0):=by simpa [Nw] using hz
    go_wp2_with (go_at_call 93;refine(Cs p n o v _ HT.o _ f _ HPF.o).mono ?_;rw[HC1.o];rintro e w2 ⟨rfl,hb2⟩;have HB2:=ae (HBR.o.trans (hb2.mono HBR.o.size));clear hb2);go_ret;exact⟨bL (by rw[HER.o,M8 HZ.o]),HBW.o.trans (HB2.o.mono HBW.o.size)⟩
  .go_wp2;go_ret;exact⟨bL (by rw[HER0.o,No (by omega)];rfl),HBW.o.trans (HBR.o.mono HBW.o.size)⟩
theorem so(m:Int)(w:World):Calls prog 64 #[.int .i64 m] w λe w'=>e=.returned (.bool (bO m 1 40))/\w'=w:=by
 have HE:Nw (bO m 1 40=decide (1<=m/\m<=40)):=by show _=_;simp[bO]
 rw[HE.o];by_cases h1:1<=m
 .by_cases h2:m<=40
  .have HD:Nw (decide (1<=m/\m<=40)=true):=MM ⟨h1,h2⟩;rw[HD.o];go_enter func64,ntmps64;go_wp2;go_ret;exact⟨kh (by simp[h2]),rfl⟩
  .have HD:Nw (decide (1<=m/\m<=40)=false):=ML (by omega);rw[HD.o];go_enter func64,ntmps64;go_wp2;go_ret;exact⟨kh (by simp[h2]),rfl⟩
 .have HD:Nw (decide (1<=m/\m<=40)=false):=ML (by omega);rw[HD.o];go_enter func64,ntmps64;go_wp2;go_ret;exact⟨rfl,rfl⟩
theorem Cu(va:Option Addr)(vc:Nat)(fss:List (List Tm))(w:World):Calls prog 70 #[.slice va fss.length vc] w λe w'=>e=.returned (.bool (gU fss))/\w'=w:=by go_enter func70,ntmps70;go_wp2_with (go_at_call 64;refine(so _ _).mono ?_;rintro e w' ⟨rfl,rfl⟩);go_ret;exact⟨rfl,rfl⟩
theorem KM(va:Option Addr)(vc vb:Nat)(fss:List (List Tm))(la:Option Addr)(lc:Nat)(vss:List (List (List Tm)))(w:World)(hp:0<vss.length)(hb:w.cell? ⟨vb,0,none⟩=some (.slice la vss.length lc))(hs:Wl w (.slice la vss.length lc) vss):Calls prog 71 #[.slice va fss.length vc,.pointer (some ⟨vb,0,none⟩)] w λe w'=>e=.returned (.bool (fJ (vss.getD 0 []).length fss))/\w'=w:=by
 obtain⟨b,off,va2,vc2,rfl,hlt,c0,_⟩:=jC hs 0 hp;generalize vss.getD 0 []=gss at c0;simp only[Nat.add_zero] at c0;clear hs;cases hun:((fss.length:Int) !=(gss.length:Int))
 .have HU:=ae (KN (m:=gss.length) hun);rw[HU.o];go_enter func71,ntmps71;go_wp2;go_ret;exact⟨kh (by simp),rfl⟩
 .have HU:=ae (KO (m:=gss.length) hun);rw[HU.o];go_enter func71,ntmps71;go_wp2;go_ret;exact⟨kh (by simp),rfl⟩
theorem KP(lv:Value)(vss:List (List (List Tm)))(w:World)(hm:vss.length<=1000)(hs:Wl w lv vss):Calls prog 94 #[lv,.func (.func 70) #[] #[]] w λe w'=>∃r:Int,e=.returned (.int .i64 r)/\decide (0<=r)=vss.any gU/\w'=w:=by
 have HS:=ae hs;obtain⟨la,lc,rfl,_⟩:=hs;go_enter func94,ntmps94;go_wp2;go_loop [8] (λi=>∃k:Nat,k<=vss.length/\i=.int .i64 k/\(vss.take k).any gU=false) (λi=>vss.length-(intOf i).toNat);case atStart=>exact⟨0,MP _,rfl,by simp⟩
 case round=>
  obtain⟨k,hk,rfl,hn⟩:=hrel;have HN:=ae hn;clear hn;by_cases hlt:k<vss.length
  .obtain⟨b,off,va,vc,rfl,_,c0,_⟩:=jC HS.o k hlt;have H1:=ae (Cv gU vss k hlt HN.o);have H2:=ae (Cw gU vss k hlt);generalize vss.getD k []=fss at c0 H1 H2;cases hy:gU fss
   .go_wp2_with (go_at_call 70;refine(Cu _ _ fss _).mono ?_;rw[hy];rintro e w' ⟨rfl,rfl⟩);go_round;case rel=>exact⟨k+1,by omega,by go_num,H1.o hy⟩
    case measure=>simp[intOf];omega
   .go_wp2_with (go_at_call 70;refine(Cu _ _ fss _).mono ?_;rw[hy];rintro e w' ⟨rfl,rfl⟩);go_ret;exact⟨(k:Int),rfl,by rw[H2.o hy];simp,rfl⟩
  .go_wp2;go_ret;exact⟨-1,rfl,by have:=HN.o;rw[M2 (by omega)] at this;rw[this];simp,rfl⟩
theorem KQ(la:Option Addr)(lc vb:Nat)(vss:List (List (List Tm)))(w:World)(hm:vss.length<=1000)(hb:w.cell? ⟨vb,0,none⟩=some (.slice la vss.length lc))(hs:Wl w (.slice la vss.length lc) vss):Calls prog 94 #[.slice la vss.length lc,.func (.func 71) #[] #[.pointer (some ⟨vb,0,none⟩)]] w λe w'=>∃r:Int,e=.returned (.int .i64 r)/\decide (0<=r)=vss.any (fJ (vss.getD 0 []).length)/\w'=w:=by
 have HS:=ae hs;have HB:=ae hb;have HUN:Nw (0<vss.length->∀va vc fss,Calls prog 71 #[.slice va fss.length vc,.pointer (some ⟨vb,0,none⟩)] w λe w'=>e=.returned (.bool (fJ (vss.getD 0 []).length fss))/\w'=w):=λhp va vc fss=>KM va vc vb fss la lc vss w hp hb hs;obtain⟨m,hmm⟩:∃m,(vss.getD 0 []).length=m:=⟨_,rfl⟩;rw[hmm] at HUN⊢;clear hs hb hmm;go_enter func94,ntmps94;go_wp2;go_loop [8] (λi=>∃k:Nat,k<=vss.length/\i=.int .i64 k/\(vss.take k).any (fJ m)=false) (λi=>vss.length-(intOf i).toNat);case atStart=>exact⟨0,MP _,rfl,by simp⟩
 case round=>
  obtain⟨k,hk,rfl,hn⟩:=hrel;have HN:=ae hn;clear hn;by_cases hlt:k<vss.length
  .obtain⟨b,off,va,vc,rfl,_,c0,_⟩:=jC HS.o k hlt;have H1:=ae (Cv (fJ m) vss k hlt HN.o);have H2:=ae (Cw (fJ m) vss k hlt);generalize vss.getD k []=fss at c0 H1 H2;have HC:=ae (HUN.o (by omega) va vc fss);cases hy:fJ m fss
   .go_wp2_with (go_at_call 71;refine HC.o.mono ?_;rw[hy];rintro e w' ⟨rfl,rfl⟩);go_round;case rel=>exact⟨k+1,by omega,by go_num,H1.o hy⟩
    case measure=>simp[intOf];omega
   .go_wp2_with (go_at_call 71;refine HC.o.mono ?_;rw[hy];rintro e w' ⟨rfl,rfl⟩);go_ret;exact⟨(k:Int),rfl,by rw[H2.o hy];simp,rfl⟩
  .go_wp2;go_ret;exact⟨-1,rfl,by have:=HN.o;rw[M2 (by omega)] at this;rw[this];simp,rfl⟩
theorem Cx(lv:Value)(vss:List (List (List Tm)))(w:World)(hm:vss.length<=1000)(hs:Wl w lv vss):Calls prog 66 #[lv,.func (.func 70) #[] #[]] w λe w'=>e=.returned (.bool (vss.any gU))/\w'=w:=by have HS:=ae hs;obtain⟨la,lc,rfl,_⟩:=hs;go_enter func66,ntmps66;go_wp2_with (go_at_call 94;refine(KP _ vss _ hm HS.o).mono ?_;rintro e w' ⟨r,rfl,hr,rfl⟩);go_ret;exact⟨by rw[<-hr];rfl,rfl⟩
theorem KR(la:Option Addr)(lc vb:Nat)(vss:List (List (List Tm)))(w:World)(hm:vss.length<=1000)(hb:w.cell? ⟨vb,0,none⟩=some (.slice la vss.length lc))(hs:Wl w (.slice la vss.length lc) vss):Calls prog 66 #[.slice la vss.length lc,.func (.func 71) #[] #[.pointer (some ⟨vb,0,none⟩)]] w λe w'=>e=.returned (.bool (vss.any (fJ (vss.getD 0 []).length)))/\w'=w:=by have HI:=ae (KQ la lc vb vss w hm hb hs);clear hs hb;go_enter func66,ntmps66;go_wp2_with (go_at_call 94;refine HI.o.mono ?_;rintro e w' ⟨r,rfl,hr,rfl⟩;have HRR:=ae hr;clear hr);go_ret;exact⟨by rw[<-HRR.o];rfl,rfl⟩
theorem KS(p n o v:Int)(lv:Value)(vss:List (List (List Tm)))(w:World)(hm:vss.length<=1000)(hs:Wl w lv vss):Calls prog 44 #[aS p n o v,lv] w λe w'=>e=.returned (.int .i64 (fI p n o v vss))/\Below w.heap.size w w':=by
 have HS:=ae hs;obtain⟨la,lc,rfl,_⟩:=hs;obtain⟨w2,hw2⟩:∃w2,w2=(w.alloc (.cells #[.int .i64 p,.int .i64 n,.int .i64 o,.int .i64 v] 23)).alloc (.cells #[.slice la vss.length lc] 25):=⟨_,rfl⟩;have hb2:Below w.heap.size w w2:=by rw[hw2];exact gH
 have hbx:bE w2 w.heap.size p n o v:=by rw[hw2];exact(bE.new w p n o v _).below bA
 have hcf:w2.cell? ⟨w.heap.size+1,0,none⟩=some (.slice la vss.length lc):=by rw[hw2];simp[go_sem]
 have HB2:=ae hb2;have HBX:=ae hbx;have HCF:=ae hcf;obtain⟨_,bx0,bx1,bx2,bx3⟩:=hbx;clear hb2;cases hR:(bm p n o v !=0)
 .have hR0:bm p n o v=0:=by simpa using hR
  have HR:=ae hR0;have HE:Nw (fI p n o v vss=if vss.any gU then 3 else if vss.any (fJ (vss.getD 0 []).length) then 1 else eY (de p n o) vss):=by show _=_;unfold fI;rw[M8 (by simpa using hR0)]
  clear hR0;go_enter func44,ntmps44;go_wp2_with fail;try rw[<-hw2]
  refine(ju p n o v w2).mono ?_;rintro e w3 ⟨rfl,hb3⟩;have HB3:=ae (HB2.o.trans (hb3.mono HB2.o.size));have HBX3:=ae (HBX.o.below hb3);have hcf3:=af HCF.o hb3;have HCF3:=ae hcf3;have HS3:=ae (HS.o.below HB3.o);clear hb3 bx0 bx1 bx2 bx3 hcf hw2;obtain⟨_,bx0,bx1,bx2,bx3⟩:=HBX3.o;have HCB:=ae (Cx _ vss w3 hm HS3.o);have HCU:=ae (KR la lc (w.heap.size+1) vss w3 hm HCF3.o HS3.o);cases hab:vss.any gU
  .have HE2:Nw (fI p n o v vss=if vss.any (fJ (vss.getD 0 []).length) then 1 else eY (de p n o) vss):=by show _=_;rw[HE.o,M8 (by rw[hab];simp)]
   have HAB:=ae hab;cases hun:vss.any (fJ (vss.getD 0 []).length)
   .rw[hun] at HCU;have HUN:=ae hun;have HE3:Nw (fI p n o v vss=eY (de p n o) vss):=by show _=_;rw[HE2.o,M8 (by rw[hun];simp)]
    clear HE HE2 hun;go_wp2_with fail;refine HCB.o.mono ?_;rw[HAB.o];rintro e w4 ⟨rfl,rfl⟩;go_wp2_with fail;refine HCU.o.mono ?_;rintro e w4 ⟨rfl,rfl⟩;go_wp2_with fail;obtain⟨wo,hwo⟩:∃wo,wo=w4:=⟨_,rfl⟩;subst hwo;clear bx0 bx1 bx2 bx3 hcf3;go_loopw [21] (λi wr=>∃k:Nat,k<=vss.length/\i=.int .i64 k/\eY (de p n o) vss=eY (de p n o) (vss.drop k)/\Below wo.heap.size wo wr) (λi _=>vss.length-(intOf i).toNat);case atStart=>exact⟨0,MP _,rfl,rfl,MJ _ _⟩
    case round=>
     obtain⟨k,hk,rfl,her,hbr⟩:=hrel;have HBR:=ae hbr;have HER0:=ae her;clear hbr her;by_cases hk2:k<vss.length
     .have HER:=ae (HER0.o.trans (wj (de p n o) vss k hk2));obtain⟨b,off,va,vc,rfl,hlt,c0,hvl⟩:=jC HS3.o k hk2;have HFLs:Nw ((vss.getD k []).length<=1200000000000):=KT HAB.o (wl vss k hk2);generalize vss.getD k []=fss at c0 hvl HER HFLs;have HVL:=ae (hvl.below HBR.o);have d0:=af c0 HBR.o;obtain⟨_,bx0,bx1,bx2,bx3⟩:=HBX3.o.below HBR.o;clear c0 hvl;cases hz:(de p n o fss !=0)
      .have HZ:Nw (de p n o fss=0):=by simpa [Nw] using hz
       go_wp2_with (go_at_call 65;refine(wh p n o v _ fss _ HR.o HFLs.o HVL.o).mono ?_;rintro e w4 ⟨rfl,hb4⟩;have HB4:=ae (HBR.o.trans (hb4.mono HBR.o.size));clear hb4);go_roundw;case rel=>exact⟨k+1,by omega,by go_num,by rw[HER.o,M9 HZ.o],HB4.o⟩
       case measure=>simp[intOf];omega
      .have HZ:Nw (de p n o fss≠0):=by simpa [Nw] using hz
       go_wp2_with (go_at_call 65;refine(wh p n o v _ fss _ HR.o HFLs.o HVL.o).mono ?_;rintro e w4 ⟨rfl,hb4⟩;have HB4:=ae (HBR.o.trans (hb4.mono HBR.o.size));clear hb4);go_ret;exact⟨bL (by rw[HE3.o,HER.o,M8 HZ.o]),HB3.o.trans (HB4.o.mono HB3.o.size)⟩
     .go_wp2;go_ret;exact⟨bL (by rw[HE3.o,HER0.o,No (by omega)];rfl),HB3.o.trans (HBR.o.mono HB3.o.size)⟩
   .rw[hun] at HCU;have HE3:Nw (fI p n o v vss=1):=by show _=_;rw[HE2.o,M9 hun]
    clear hun;clear HE HE2;go_wp2_with fail;refine HCB.o.mono ?_;rw[HAB.o];rintro e w4 ⟨rfl,rfl⟩;go_wp2_with fail;refine HCU.o.mono ?_;rintro e w4 ⟨rfl,rfl⟩;go_wp2_with fail;go_ret;exact⟨bL HE3.o.symm,HB3.o⟩
  .have HE3:Nw (fI p n o v vss=3):=by show _=_;rw[HE.o,M9 hab]
   clear HE;go_wp2_with (go_at_call 66;refine(Cx _ vss _ hm HS3.o).mono ?_;rw[hab];rintro e w' ⟨rfl,rfl⟩);go_ret;exact⟨bL HE3.o.symm,HB3.o⟩
 .have HE:Nw (fI p n o v vss=bm p n o v):=by show _=_;unfold fI;rw[M9 (by simpa using hR)]
  rw[HE.o];go_enter func44,ntmps44;go_wp2_with fail;try rw[<-hw2]
  refine(ju p n o v w2).mono ?_;rintro e w3 ⟨rfl,hb3⟩;have HB3:=ae (HB2.o.trans (hb3.mono HB2.o.size));clear hb3;go_wp2;go_ret;exact⟨rfl,HB3.o⟩
theorem KJ{w:World}{B g n:Nat}{T:TypeId}{xs:List Value}(h:w.ownsRow B T 1 (.slice (some ⟨g,0,none⟩) n n) n xs)(hs:∀u∈xs,∃a n c,u=.slice a n c):cO w g:=by
 rcases h.2 with ⟨h1,_⟩|⟨g',cap,ag,h1,hb,hg,hn,hm,hcs,ht⟩
 .simp at h1
 .simp only[M4,M3,Addr.mk.injEq,and_true,true_and] at h1;obtain⟨rfl,rfl⟩:=h1;refine vU hg (λu hu=>hs u ?_);rw[<-ht,M2 (by rw[Array.length_toList,hcs];exact MI _)];exact hu
structure jq(w wr:World)(g n:Nat)(us:List Value)(fss:List (List Tm)):Prop where
 own:∃rest,wr.ownsRow w.heap.size 59 1 (.slice (some ⟨g,0,none⟩) n n) n (us++rest)/\(us++rest).length=n/\∀u∈us++rest,∃a n c,u=.slice a n c
 len:us.length=fss.length
 pls:∀i,i<fss.length->Pl wr (us.getD i aD) (fss.getD i [])
 below:Below w.heap.size w wr
 ge:w.heap.size<=g
theorem jq.next{w wr w':World}{g n:Nat}{us:List Value}{fss:List (List Tm)}(h:jq w wr g n us fss)(hb:Below wr.heap.size wr w'):jq w w' g n us fss:=by obtain⟨rest,h1,h2,h3⟩:=h.own;exact⟨⟨rest,aI h1 hb,h2,h3⟩,h.len,λi hi=>(h.pls i hi).below hb,h.below.trans (hb.mono h.below.size),h.ge⟩
theorem jq.cells{w wr:World}{g n:Nat}{us:List Value}{fss:List (List Tm)}(h:jq w wr g n us fss)(hk:us.length<n):∃a,wr.cell? ⟨g,us.length,none⟩=some a/\wr.frozen? ⟨g,us.length,none⟩=false:=by obtain⟨rest,h1,h2,_⟩:=h.own;have e1:=h1.cellAt us.length (by omega);rw[MW (by omega)] at e1;exact⟨_,e1,h1.frozenAt _⟩
theorem KK(l:List Value)(a:Value):∀r:List Value,1<=r.length->(l++r).set l.length a=l++[a]++r.drop 1
 |[],h=>by simp at h
 |x::r,_=>by simp[List.set_append_right]
theorem jq.put{w wr:World}{g n:Nat}{us:List Value}{fss:List (List Tm)}(h:jq w wr g n us fss)(hk:us.length<n)(u:Value)(f:List Tm)(hu:Pl wr u f):jq w (wr.setCell ⟨g,us.length,none⟩ u) g n (us++[u]) (fss++[f]):=by
 obtain⟨rest,h1,h2,h3⟩:=h.own;have s1:=h1.stored us.length u;have hk2:=KJ h1 h3;have hus:∃a n c,u=.slice a n c:=by obtain⟨a,c,e,_⟩:=hu;exact⟨_,_,_,e⟩
 rw[M0] at h2;have e:=KK us u rest (by omega);refine⟨⟨rest.drop 1,by rw[<-e];exact s1.1,by rw[M0,M0,List.length_drop];simp;omega,λx hx=>?_⟩,by simp[h.len],λi hi=>?_,h.below.trans (dI s1.2 h.ge h.below.size),h.ge⟩
 .rcases MY.1 hx with hx|hx
  .rcases MY.1 hx with hx|hx
   .exact h3 x (MY.2 (Np hx))
   .rw[MZ] at hx;rw[hx];exact hus
  .exact h3 x (MY.2 (Nq (List.mem_of_mem_drop hx)))
 .rw[M0] at hi;simp only[Nc,List.length_nil] at hi;rcases Nat.lt_or_ge i fss.length with hl|hl
  .have e1:(us++[u]).getD i aD=us.getD i aD:=by simp[MV,Ng (show i<us.length by rw[h.len];exact hl)]
   have e2:(fss++[f]).getD i []=fss.getD i []:=by simp[MV,Ng hl]
   rw[e1,e2];exact mU hk2 s1.2 (h.pls i hl)
  .have e:i=fss.length:=by omega
   subst e;have e1:(us++[u]).getD fss.length aD=u:=by rw[<-h.len];simp[MV]
   have e2:(fss++[f]).getD fss.length []=f:=by simp[MV]
   rw[e1,e2];exact mU hk2 s1.2 hu
theorem jq.done{w wr:World}{g n:Nat}{us:List Value}{fss:List (List Tm)}(h:jq w wr g n us fss)(hn:us.length=n):Vl wr (.slice (some ⟨g,0,none⟩) n n) fss:=by
 obtain⟨rest,h1,h2,_⟩:=h.own;have hlt:=(MH h1 g rfl).2;refine⟨_,n,by rw[<-h.len,hn],λ_=>⟨g,0,rfl,hlt,λi hi=>⟨us.getD i aD,?_,h.pls i hi⟩⟩⟩;have hi2:i<us.length:=by rw[h.len];exact hi
 rw[M1,h1.cellAt i (by omega),Ng hi2];simp[MV,hi2]
theorem jq.made{w w':World}{n:Nat}(h:w'.ownsRow w.heap.size 59 1 (.slice (some ⟨w.heap.size,0,none⟩) n n) n (madeCells (Value.cells (.slice none 0 0)) (n*1)).toList)(hg:w.grownBy w' none):jq w w' w.heap.size n [] []:=by refine⟨⟨_,h,by simp[size_madeCells],λu hu=>?_⟩,rfl,λi hi=>by simp at hi,⟨hg.os,hg.tape,hg.output,hg.size,λk hk=>hg.block k hk (by simp)⟩,MI _⟩;simp[madeCells,Value.cells] at hu;obtain⟨l,_,hx⟩:=hu;rw[Nat.mod_one] at hx;exact⟨none,0,0,by rw[<-hx];rfl⟩
theorem I4(p n o v rank:Int)(lv:Value)(vss:List (List (List Tm)))(w:World)(hs:Wl w lv vss):Calls prog 39 #[aS p n o v,.int .i64 rank,lv] w λe w'=>e=.returned (.int .i64 (dB p n o v rank vss))/\Below w.heap.size w w':=by
 have HS:=ae hs;obtain⟨la,lc,rfl,_⟩:=hs;cases hR:(bm p n o v !=0)
 .have hR0:bm p n o v=0:=by simpa using hR
  have HR:=ae hR0;have HE:Nw (dB p n o v rank vss=iM p n o rank vss):=by show _=_;unfold dB;rw[M8 (by simpa using hR0)]
  clear hR0;cases hbt:bO rank 1 40
  .have HE2:Nw (dB p n o v rank vss=3):=by show _=_;rw[HE.o];unfold iM;rw[M9 hbt]
   rw[HE2.o];go_enter func39,ntmps39;go_wp2_with (first|(go_at_call 63;refine(ju _ _ _ _ _).mono ?_;rintro e w1 ⟨rfl,hb1⟩;have HB1:=ae (show Below w.heap.size w w1 from bA.trans (hb1.mono (by simp)));clear hb1)|(go_at_call 64;refine(so _ _).mono ?_;rw[hbt];rintro e w' ⟨rfl,rfl⟩));go_ret;exact⟨rfl,HB1.o⟩
  .by_cases hlen:60<vss.length
   .have HE2:Nw (dB p n o v rank vss=2):=by show _=_;rw[HE.o];unfold iM;rw[M8 (by rw[hbt];simp),M9 hlen]
    rw[HE2.o];go_enter func39,ntmps39;go_wp2_with (first|(go_at_call 63;refine(ju _ _ _ _ _).mono ?_;rintro e w1 ⟨rfl,hb1⟩;have HB1:=ae (show Below w.heap.size w w1 from bA.trans (hb1.mono (by simp)));clear hb1)|(go_at_call 64;refine(so _ _).mono ?_;rw[hbt];rintro e w' ⟨rfl,rfl⟩));go_ret;exact⟨rfl,HB1.o⟩
   .have HE2:Nw (dB p n o v rank vss=eY (fW p n o rank) vss):=by show _=_;rw[HE.o];unfold iM;rw[M8 (by rw[hbt];simp),M8 hlen]
    rw[HE2.o];have HRK:Nw (1<=rank/\rank<=40):=by simpa [bO,Nw] using hbt
    clear HE HE2;go_enter func39,ntmps39;go_wp2_with fail;refine(ju _ _ _ _ _).mono ?_;rintro e w1 ⟨rfl,hb1⟩;have HB1:=ae (show Below w.heap.size w w1 from bA.trans (hb1.mono (by simp)));have HBX:=ae ((bE.new w p n o v 23).below hb1);clear hb1;go_wp2_with fail;refine(so _ _).mono ?_;rw[hbt];rintro e w2 ⟨rfl,rfl⟩;have HS1:=ae (HS.o.below HB1.o);go_wp2_with fail;obtain⟨wo,hwo⟩:∃wo,wo=w2:=⟨_,rfl⟩;subst hwo;clear hbt;go_loopw [24] (λi wr=>∃k:Nat,k<=vss.length/\i=.int .i64 k/\eY (fW p n o rank) vss=eY (fW p n o rank) (vss.drop k)/\Below wo.heap.size wo wr) (λi _=>vss.length-(intOf i).toNat);case atStart=>exact⟨0,MP _,rfl,rfl,MJ _ _⟩
    case round=>
     obtain⟨k,hk,rfl,her,hbr⟩:=hrel;have HBR:=ae hbr;have HER0:=ae her;clear hbr her;by_cases hk2:k<vss.length
     .have HER:=ae (HER0.o.trans (wj (fW p n o rank) vss k hk2));obtain⟨b,off,va,vc,rfl,hlt,c0,hvl⟩:=jC HS1.o k hk2;generalize vss.getD k []=fss at c0 hvl HER;have HVL:=ae (hvl.below HBR.o);have d0:=af c0 HBR.o;obtain⟨_,bx0,bx1,bx2,bx3⟩:=HBX.o.below HBR.o;clear c0 hvl;cases hln:((fss.length:Int) !=rank)
      .have hrk:(fss.length:Int)=rank:=by simpa using hln
       subst hrk;have HEV:Nw (fW p n o (fss.length:Int) fss=de p n o fss):=by show _=_;unfold fW;rw[M8 (by simp)]
       have hf40:fss.length<=40:=by have:=HRK.o;omega
       have HVP:=ae (wh p n o v _ fss wr HR.o (by omega) HVL.o);clear hln;cases hz:(de p n o fss !=0)
       .have HZ:Nw (de p n o fss=0):=by simpa [Nw] using hz
        go_wp2_with (go_at_call 65;refine HVP.o.mono ?_;rintro e w4 ⟨rfl,hb4⟩;have HB4:=ae (HBR.o.trans (hb4.mono HBR.o.size));clear hb4);go_roundw;case rel=>exact⟨k+1,by omega,by go_num,by rw[HER.o,HEV.o,M9 HZ.o],HB4.o⟩
        case measure=>simp[intOf];omega
       .have HZ:Nw (de p n o fss≠0):=by simpa [Nw] using hz
        go_wp2_with (go_at_call 65;refine HVP.o.mono ?_;rintro e w4 ⟨rfl,hb4⟩;have HB4:=ae (HBR.o.trans (hb4.mono HBR.o.size));clear hb4);go_ret;exact⟨bL (by rw[HER.o,HEV.o,M8 HZ.o]),HB1.o.trans (HB4.o.mono HB1.o.size)⟩
      .have HEV:Nw (fW p n o rank fss=1):=by show _=_;unfold fW;rw[M9 (by simpa using hln)]
       go_wp2_with fail;go_ret;exact⟨bL (by rw[HER.o,HEV.o];simp),HB1.o.trans (HBR.o.mono HB1.o.size)⟩
     .go_wp2;go_ret;exact⟨bL (by rw[HER0.o,No (by omega)];rfl),HB1.o.trans (HBR.o.mono HB1.o.size)⟩
 .have HE:Nw (dB p n o v rank vss=bm p n o v):=by show _=_;unfold dB;rw[M9 (by simpa using hR)]
  rw[HE.o];go_enter func39,ntmps39;go_wp2_with (go_at_call 63;refine(ju _ _ _ _ _).mono ?_;rintro e w1 ⟨rfl,hb1⟩;have HB1:=ae (show Below w.heap.size w w1 from bA.trans (hb1.mono (by simp)));clear hb1);go_ret;exact⟨rfl,HB1.o⟩
theorem By{w:World}{x:Value}{fss:List (List Tm)}{b c:Nat}(hf:Vl w x fss)(hlt:b<w.heap.size)(c0:w.cell? ⟨b,0,none⟩=some x):Wl w (.slice (some ⟨b,0,none⟩) 1 c) [fss]:=by
 refine⟨_,c,rfl,λ_=>⟨b,0,rfl,hlt,λi hi=>?_⟩⟩;simp only[Nc,List.length_nil] at hi;rcases i with _|i
 .exact⟨x,c0,hf⟩
 .omega
theorem KU{p n o v:Int}{vss:List (List (List Tm))}(h:fI p n o v vss=0):bm p n o v=0/\∀fss∈vss,(1<=fss.length/\fss.length<=40)/\fss.length=(vss.getD 0 []).length/\∀f∈fss,cQ p n o f=0:=by
 unfold fI at h;by_cases hr:bm p n o v=0
 .rw[M8 (by simpa using hr)] at h;cases h1:vss.any gU
  .rw[h1,M8 (by simp)] at h;cases h2:vss.any (fJ (vss.getD 0 []).length)
   .rw[h2,M8 (by simp)] at h;refine⟨hr,λfss hf=>?_⟩;have a1:=List.any_eq_false.1 h1 fss hf;have a2:=List.any_eq_false.1 h2 fss hf;simp[gU,bO] at a1;simp only[fJ,decide_eq_true_eq,Decidable.not_not] at a2;exact⟨by omega,a2,wu (wv h fss hf)⟩
   .rw[h2,M9 rfl] at h;omega
  .rw[h1,M9 rfl] at h;omega
 .rw[M9 hr] at h;exact absurd h hr
abbrev Ld:=Option (Nat×Tm)
def KV(o ov:Int)(st:Ld)(i:Nat):List Tm->Ld
 |[]=>st
 |t::_=>match st with
  |none=>some (i,t)
  |some (j,u)=>if ov=1/\0<aX o t.2 u.2 then some (i,t) else some (j,u)
def pU(o ov:Int)(fss:List (List Tm)):Nat->Ld
 |0=>none
 |k+1=>KV o ov (pU o ov fss k) k (fss.getD k [])
structure lT(w1 w:World)(sv:Value)(qs:List (TV×Value)):Prop where
 own:w.ownsRow w1.heap.size 59 1 sv qs.length (qs.map Prod.snd)
 rows:∀q∈qs,w.ownsRow w1.heap.size 57 2 q.2 1 (au [q.1])
 es:∀q∈qs,Sl w1 q.1.2.1 q.1.2.2
 below:Below w1.heap.size w1 w
theorem lT.next{w1 w w':World}{sv:Value}{qs:List (TV×Value)}(h:lT w1 w sv qs)(hb:Below w.heap.size w w'):lT w1 w' sv qs:=
 ⟨aI h.own hb,λq hq=>aI (h.rows q hq) hb,h.es,h.below.trans (hb.mono h.below.size)⟩
theorem lT.snoc{w1 W W2:World}{sv sv2:Value}{qs:List (TV×Value)}{q:TV×Value}(h:lT w1 W sv qs)(hq:W.ownsRow w1.heap.size 57 2 q.2 1 (au [q.1]))(he:Sl w1 q.1.2.1 q.1.2.2)(h2:W2.ownsRow w1.heap.size 59 1 sv2 (qs.length+1) (qs.map Prod.snd++[q.2]))(g2:W.grownBy W2 sv.ownBlock):lT w1 W2 sv2 (qs++[q]):=by
 have hT:(57:TypeId)≠59:=by decide
 refine⟨by rw[M0,Nd];exact h2,λr hr=>?_,λr hr=>?_,dE h.own h.below g2 (MI _)⟩
 .rcases MY.1 hr with hr|hr
  .exact(h.rows r hr).kept g2 (fj hT (h.rows r hr) h.own)
  .rw[MZ] at hr;subst hr;exact hq.kept g2 (fj hT hq h.own)
 .rcases MY.1 hr with hr|hr
  .exact h.es r hr
  .rw[MZ] at hr;subst hr;exact he
theorem lT.vl{w1 w:World}{sv:Value}{qs:List (TV×Value)}(h:lT w1 w sv qs):Vl w sv (qs.map λq=>[tm q.1]):=by
 obtain⟨a,c,rfl⟩:=bY h.own;refine⟨a,c,by rw[M6],λhp=>?_⟩;rw[M6] at hp;obtain⟨g,rfl,_,hlt,_⟩:=ik h.own 0 hp;refine⟨g,0,rfl,hlt,λi hi=>?_⟩;rw[M6] at hi;obtain⟨g2,hg2,_,_,hc⟩:=ik h.own i hi;simp only[M3,Addr.mk.injEq,and_true] at hg2;subst hg2;have e:(qs.map λq=>[tm q.1]).getD i []=[tm qs[i].1]:=by simp[MV,hi]
 rw[e];refine⟨qs[i].2,by rw[M1,hc];simp[hi],?_⟩;have hm:qs[i]∈qs:=MS hi;exact ow (ts:=[qs[i].1]) (h.rows _ hm) (λt ht=>by
  rw[MZ] at ht;subst ht;exact(h.es _ hm).below h.below)
theorem pT{w:World}{B:Nat}(hB:B<=w.heap.size)(c:Int)(ev:Value):(w.alloc (.cells #[.int .i64 c,ev] 57)).ownsRow B 57 2 (.slice (some ⟨w.heap.size,0,none⟩) 1 1) 1 [.int .i64 c,ev]:=
 ⟨by simp,.inr ⟨w.heap.size,1,_,rfl,hB,heap_alloc_new w _,MI _,by decide,by simp,by simp⟩⟩
def oy:Ld->Int
 |none=>0
 |some (_,u)=>u.1
def jr:Ld->List Int
 |none=>[]
 |some (_,u)=>u.2
structure lV(w wr:World)(p n o v:Int)(st:Ld):Prop where
 below:Below w.heap.size w wr
 box:bE wr w.heap.size p n o v
 res:wr.ownsRow w.heap.size 57 2 (.slice (some ⟨w.heap.size+1,0,none⟩) 1 1) 1 [.int .i64 0,.slice none 0 0]
 own:∃ea ec,wr.ownsRow w.heap.size 57 2 (.slice (some ⟨w.heap.size+1+1,0,none⟩) 1 1) 1 [.int .i64 (oy st),.slice ea (jr st).length ec]/\Sl w (.slice ea (jr st).length ec) (jr st)
theorem lV.next{w wr w':World}{p n o v:Int}{st:Ld}(h:lV w wr p n o v st)(hb:Below wr.heap.size wr w'):lV w w' p n o v st:=by obtain⟨ea,ec,h1,h2⟩:=h.own;exact⟨h.below.trans (hb.mono h.below.size),h.box.below hb,aI h.res hb,ea,ec,aI h1 hb,h2⟩
theorem lV.put{w wr:World}{p n o v:Int}{st:Ld}(h:lV w wr p n o v st)(i:Nat)(t:Tm)(ea:Option Addr)(ec:Nat)(hs:Sl w (.slice ea t.2.length ec) t.2):lV w ((wr.setCell ⟨w.heap.size+1+1,0,none⟩ (.int .i64 t.1)).setCell ⟨w.heap.size+1+1,1,none⟩ (.slice ea t.2.length ec)) p n o v (some (i,t)):=by
 obtain⟨ea0,ec0,h1,_⟩:=h.own;have s1:=h1.stored 0 (.int .i64 t.1);have s2:=s1.1.stored 1 (.slice ea t.2.length ec);have hg:=cN s1.2 s2.2;have hlt:=h.box.1;refine⟨h.below.trans (dI hg (by omega) h.below.size),?_,h.res.kept hg (Nq (by simp[Value.ownBlock])),ea,ec,?_,hs⟩
 .have far:=λo=>kl (o:=o) hg hlt (show w.heap.size≠w.heap.size+1+1 by omega);obtain⟨_,b0,b1,b2,b3⟩:=h.box;exact⟨MN hlt hg.size,by rw[far];exact b0,by rw[far];exact b1,by rw[far];exact b2,by rw[far];exact b3⟩
 .have:=s2.1;simpa [oy,jr] using this
theorem lV.first(w:World)(p n o v:Int):lV w (((w.alloc (.cells #[.int .i64 p,.int .i64 n,.int .i64 o,.int .i64 v] 23)).alloc (.cells #[.int .i64 0,.slice none 0 0] 57)).alloc (.cells #[.int .i64 0,.slice none 0 0] 57)) p n o v none:=by
 have h1:=pT (w:=w.alloc (.cells #[.int .i64 p,.int .i64 n,.int .i64 o,.int .i64 v] 23)) (B:=w.heap.size) (by simp) 0 (.slice none 0 0);have h2:=pT (w:=(w.alloc (.cells #[.int .i64 p,.int .i64 n,.int .i64 o,.int .i64 v] 23)).alloc (.cells #[.int .i64 0,.slice none 0 0] 57)) (B:=w.heap.size) (by simp;omega) 0 (.slice none 0 0);refine⟨gH.trans (ai.mono gH.size),((bE.new w p n o v _).below ai).below ai,?_,none,0,?_,none,0,rfl,λh=>by simp[jr] at h⟩
 .have:=aI h1 (ai (A:=.cells #[.int .i64 0,.slice none 0 0] 57));simpa using this
 .simpa [oy,jr] using h2
structure kX(w wr:World)(p n o v:Int):Prop where
 below:Below w.heap.size w wr
 box:bE wr w.heap.size p n o v
 res:wr.ownsRow w.heap.size 57 2 (.slice (some ⟨w.heap.size+1,0,none⟩) 1 1) 1 [.int .i64 0,.slice none 0 0]
theorem kX.next{w wr w':World}{p n o v:Int}(h:kX w wr p n o v)(hb:Below wr.heap.size wr w'):kX w w' p n o v:=
 ⟨h.below.trans (hb.mono h.below.size),h.box.below hb,aI h.res hb⟩
theorem kX.first(w:World)(p n o v:Int):kX w ((w.alloc (.cells #[.int .i64 p,.int .i64 n,.int .i64 o,.int .i64 v] 23)).alloc (.cells #[.int .i64 0,.slice none 0 0] 57)) p n o v:=by have h1:=pT (w:=w.alloc (.cells #[.int .i64 p,.int .i64 n,.int .i64 o,.int .i64 v] 23)) (B:=w.heap.size) (by simp) 0 (.slice none 0 0);exact⟨gH,(bE.new w p n o v _).below ai,by simpa using h1⟩
theorem kX.cells{w wr:World}{p n o v:Int}(h:kX w wr p n o v):wr.cell? ⟨w.heap.size+1,0,none⟩=some (.int .i64 0)/\wr.cell? ⟨w.heap.size+1,1,none⟩=some (.slice none 0 0)/\wr.frozen? ⟨w.heap.size+1,0,none⟩=false/\wr.frozen? ⟨w.heap.size+1,1,none⟩=false:=
 ⟨h.res.cellAt 0 (by omega),h.res.cellAt 1 (by omega),h.res.frozenAt 0,h.res.frozenAt 1⟩
theorem kX.put{w wr:World}{p n o v:Int}(h:kX w wr p n o v)(c:Int)(u:Value):Below w.heap.size w ((wr.setCell ⟨w.heap.size+1,0,none⟩ (.int .i64 c)).setCell ⟨w.heap.size+1,1,none⟩ u)/\((wr.setCell ⟨w.heap.size+1,0,none⟩ (.int .i64 c)).setCell ⟨w.heap.size+1,1,none⟩ u).cell? ⟨w.heap.size+1,0,none⟩=some (.int .i64 c)/\((wr.setCell ⟨w.heap.size+1,0,none⟩ (.int .i64 c)).setCell ⟨w.heap.size+1,1,none⟩ u).cell? ⟨w.heap.size+1,1,none⟩=some u:=by have s1:=h.res.stored 0 (.int .i64 c);have s2:=s1.1.stored 1 u;exact⟨h.below.trans (dI (cN s1.2 s2.2) (by omega) h.below.size),s2.1.cellAt 0 (by omega),s2.1.cellAt 1 (by omega)⟩
structure lW(w0 w wr:World)(p n o v:Int)(st:Ld):Prop where
 below:Below w.heap.size w wr
 box:bE wr w.heap.size p n o v
 res:wr.ownsRow w.heap.size 57 2 (.slice (some ⟨w.heap.size+1,0,none⟩) 1 1) 1 [.int .i64 0,.slice none 0 0]
 own:∃ea ec,wr.ownsRow w.heap.size 57 2 (.slice (some ⟨w.heap.size+1+1,0,none⟩) 1 1) 1 [.int .i64 (oy st),.slice ea (jr st).length ec]/\Sl w0 (.slice ea (jr st).length ec) (jr st)
theorem lW.next{w0 w wr w':World}{p n o v:Int}{st:Ld}(h:lW w0 w wr p n o v st)(hb:Below wr.heap.size wr w'):lW w0 w w' p n o v st:=by obtain⟨ea,ec,h1,h2⟩:=h.own;exact⟨h.below.trans (hb.mono h.below.size),h.box.below hb,aI h.res hb,ea,ec,aI h1 hb,h2⟩
theorem lW.put{w0 w wr:World}{p n o v:Int}{st:Ld}(h:lW w0 w wr p n o v st)(i:Nat)(t:Tm)(ea:Option Addr)(ec:Nat)(hs:Sl w0 (.slice ea t.2.length ec) t.2):lW w0 w ((wr.setCell ⟨w.heap.size+1+1,0,none⟩ (.int .i64 t.1)).setCell ⟨w.heap.size+1+1,1,none⟩ (.slice ea t.2.length ec)) p n o v (some (i,t)):=by
 obtain⟨ea0,ec0,h1,_⟩:=h.own;have s1:=h1.stored 0 (.int .i64 t.1);have s2:=s1.1.stored 1 (.slice ea t.2.length ec);have hg:=cN s1.2 s2.2;have hlt:=h.box.1;refine⟨h.below.trans (dI hg (by omega) h.below.size),?_,h.res.kept hg (Nq (by simp[Value.ownBlock])),ea,ec,?_,hs⟩
 .have far:=λo=>kl (o:=o) hg hlt (show w.heap.size≠w.heap.size+1+1 by omega);obtain⟨_,b0,b1,b2,b3⟩:=h.box;exact⟨MN hlt hg.size,by rw[far];exact b0,by rw[far];exact b1,by rw[far];exact b2,by rw[far];exact b3⟩
 .have:=s2.1;simpa [oy,jr] using this
theorem lW.first(w0 w:World)(p n o v:Int):lW w0 w (((w.alloc (.cells #[.int .i64 p,.int .i64 n,.int .i64 o,.int .i64 v] 23)).alloc (.cells #[.int .i64 0,.slice none 0 0] 57)).alloc (.cells #[.int .i64 0,.slice none 0 0] 57)) p n o v none:=by
 have h1:=pT (w:=w.alloc (.cells #[.int .i64 p,.int .i64 n,.int .i64 o,.int .i64 v] 23)) (B:=w.heap.size) (by simp) 0 (.slice none 0 0);have h2:=pT (w:=(w.alloc (.cells #[.int .i64 p,.int .i64 n,.int .i64 o,.int .i64 v] 23)).alloc (.cells #[.int .i64 0,.slice none 0 0] 57)) (B:=w.heap.size) (by simp;omega) 0 (.slice none 0 0);refine⟨gH.trans (ai.mono gH.size),((bE.new w p n o v _).below ai).below ai,?_,none,0,?_,none,0,rfl,λh=>by simp[jr] at h⟩
 .have:=aI h1 (ai (A:=.cells #[.int .i64 0,.slice none 0 0] 57));simpa using this
 .simpa [oy,jr] using h2
end Go.Proofs.YteimdcndjjclnaaGreat
