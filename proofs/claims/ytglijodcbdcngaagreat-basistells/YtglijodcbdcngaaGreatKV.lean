/- A sum of two vectors. -/
import Derived.Test.YtglijodcbdcngaaGreatKR
import Derived.Test.YtglijodcbdcngaaGreatKF
import Derived.Test.YtglijodcbdcngaaGreatZJ
import Derived.Deep.RegionLaw
set_option maxHeartbeats 4000000
set_option maxRecDepth 100000
namespace Go.Proofs.YtglijodcbdcngaaGreat
set_option linter.unusedSimpArgs false
set_option linter.unusedVariables false
open Go.Proofs.Tryz Go.RowKit
theorem DB(ob vb voff vc:Nat)(p k0 k1 k2:Int)(G:Ft->Prop)(sv v1 v2:Value)(f1 f2:List Ft)(w:World)(hob:aQ w ob p k0 k1 k2 sv)(hp:2<=p/\p<=101)(hv1:w.cell? ⟨vb,voff,none⟩=some v1)(hv2:w.cell? ⟨vb,voff+1,none⟩=some v2)(hf1:Fv w v1 f1)(hf2:Fv w v2 f2)(hr1:aO p G [f1])(hr2:aO p G [f2])(hG:∀x t,fN x t->G t->G x)(hM:∀r,Dn r->(∀t∈r,G t)->r.length<=100000000000):Calls prog 116 #[.pointer (some ⟨ob,0,none⟩),.slice (some ⟨vb,voff,none⟩) 2 vc] w λe w'=>e=.returned (.pointer (some ⟨w.heap.size,0,none⟩))/\∃rv us rows,dp p G w.heap.size w' w.heap.size ob rv us rows (λk=>aw k f1+aw k f2)/\Below w.heap.size w w':=by
 have HOB:=aa hob;have HF1:=aa hf1;have HF2:=aa hf2;have HV1:=aa hv1;have HV2:=aa hv2;have hobl:=hob.lt;obtain⟨va,vcc,rfl,_,_⟩:=hf1;obtain⟨va2,vcc2,rfl,_,_⟩:=hf2;obtain⟨w1,hw1⟩:∃w1,w1=w.alloc (.cells #[.pointer (some ⟨ob,0,none⟩),.slice none 0 0] 208):=⟨_,rfl⟩;have HB1:Ic (Below w.heap.size w w1):=by rw[hw1];exact af
 have HS1:Ic (aW w.heap.size w1 w.heap.size ob (.slice none 0 0) [] []):=by rw[hw1];exact qV w ob _ (He _)
 have HAD:=aa (mV w.heap.size w.heap.size ob p k0 k1 k2 G sv (.slice none 0 0) _ [] [] f1 w1 HS1.o (by have:=HB1.o.size;omega) (HOB.o.below HB1.o) (by omega) hp (by simp) (HF1.o.below HB1.o) ⟨λr hr=>by simp at hr,λr hr=>by simp at hr,λr hr=>by simp at hr⟩ hr1 hG hM);have HAD2:Ic (∀rv us rows W,dp p G w.heap.size W w.heap.size ob rv us rows (λk=>aw k f1)->Below w.heap.size w W->Calls prog 166 #[.pointer (some ⟨w.heap.size,0,none⟩),.slice va2 f2.length vcc2] W λe w'=>e=.returned (.tuple #[])/\∃rv' us' rows',dp p G w.heap.size w' w.heap.size ob rv' us' rows' (λk=>aw k f1+aw k f2)/\Below w.heap.size w w'):=λrv us rows W h hb=>by refine(mV w.heap.size w.heap.size ob p k0 k1 k2 G sv rv _ us rows f2 W h.sum hb.size (HOB.o.below hb) (by omega) hp h.len (HF2.o.below hb) h.ok hr2 hG hM).mono ?_;rintro e w' ⟨rfl,rv',us',rows',q1,q2,q3,q4,q5,q6⟩;refine⟨rfl,rv',us',rows',⟨q1,q2,q3,λk=>?_⟩,hb.trans (h.sum.frm_below q5 hb.size)⟩;obtain⟨x,hx⟩:=q4 k;obtain⟨y,hy⟩:=h.cn k;exact⟨x+y,by rw[Int.mul_add];omega⟩
 have c1:=ae HV1.o HB1.o;clear hob hv1 hv2 hr1 hr2 hG hM;go_enter func116,ntmps116;go_wp2_with fail;rw[<-hw1];clear hw1;go_loopw [13] (λi wr=>(i=.int .i64 0/\wr=w1)\/(i=.int .i64 1/\∃rv us rows,dp p G w.heap.size wr w.heap.size ob rv us rows (λk=>aw k f1)/\Below w.heap.size w wr)\/(i=.int .i64 2/\∃rv us rows,dp p G w.heap.size wr w.heap.size ob rv us rows (λk=>aw k f1+aw k f2)/\Below w.heap.size w wr)) (λi _=>2-(intOf i).toNat);case atStart=>exact Or.inl ⟨rfl,rfl⟩
 case round=>
  rcases hrel with ⟨rfl,rfl⟩|⟨rfl,rv,us,rows,hsm,hb⟩|⟨rfl,rv,us,rows,hsm,hb⟩
  ·go_wp2_with (go_at_call 166;refine HAD.o.mono ?_;rintro e w9 ⟨rfl,rv9,us9,rows9,q1,q2,q3,q4,q5,q6⟩;have H9:Ic (dp p G w.heap.size w9 w.heap.size ob rv9 us9 rows9 (λk=>aw k f1)/\Below w.heap.size w w9):=⟨⟨q1,q2,q3,λk=>by have:=q4 k;simpa [aw] using this⟩,HB1.o.trans (q5.to_below HB1.o.size (λx hx=>by rcases hx with hx|hx;exact Nat.le_of_eq hx.symm;simp[Value.ownBlock] at hx))⟩;clear q1 q2 q3 q4 q5 q6);go_roundw;case rel=>exact Or.inr (Or.inl ⟨by go_num,rv9,us9,rows9,H9.o.1,H9.o.2⟩)
   case measure=>simp[intOf]
  ·have c2:=ae HV2.o hb;have HA:=aa (HAD2.o rv us rows _ hsm hb);clear hsm hb;go_wp2_with (go_at_call 166;refine HA.o.mono ?_;rintro e w9 ⟨rfl,rv9,us9,rows9,q1,q2⟩;have H9:=aa (Hg q1 q2);clear q1 q2);go_roundw;case rel=>exact Or.inr (Or.inr ⟨by go_num,rv9,us9,rows9,H9.o.1,H9.o.2⟩)
   case measure=>simp[intOf]
  ·have HSM:=aa (Hg hsm hb);clear hsm hb;go_wp2;go_ret;exact⟨rfl,rv,us,rows,HSM.o.1,HSM.o.2⟩
def gE(ab:Nat):Value:=.slice (some ⟨ab,0,none⟩) 1 1
theorem DC{n0:Nat}{w:World}{ab:Nat}{b:Bool}(h:w.ownsRow n0 4 1 (gE ab) 1 [.bool b]):bO iR w ab:=by
 rcases h.2 with ⟨h1,_⟩|⟨g2,cap,ai,h1,_,hh,_,_,hcs,htake⟩
 ·simp[gE] at h1
 ·simp only[gE,H7,H6,Addr.mk.injEq,and_true,true_and] at h1;obtain⟨rfl,rfl⟩:=h1;refine lI hh λu hu=>?_;have e:ai.toList=[.bool b]:=by rw[<-htake,Hz (by rw[Array.length_toList,hcs];omega)]
  rw[e,Hw] at hu;subst hu;intro x e;simp at e
theorem DD(n0 ab:Nat)(b:Bool)(t:Ft)(w:World)(hB:n0<=w.heap.size)(ho:w.ownsRow n0 4 1 (gE ab) 1 [.bool b]):Calls prog 115 #[aY t,.pointer (some ⟨ab,0,none⟩)] w λe w'=>e=.returned (.bool false)/\w'.ownsRow n0 4 1 (gE ab) 1 [.bool true]/\ao (λk=>k=ab) w w':=by
 obtain⟨w1,hw1⟩:∃w1,w1=w.alloc (.cells #[.int .i64 t.k,.int .u16 t.a,.int .u16 t.b,.int .u16 t.d,.int .u16 t.z,.int .u8 t.pl,.int .u8 t.c] 144):=⟨_,rfl⟩;have HB1:Ic (Below w.heap.size w w1):=by rw[hw1];exact af
 have HO:=aa (aH ho HB1.o);have k1:=Hc HO.o 0 (by omega);have k2:=Hb HO.o 0;clear ho;unfold aY;go_enter func115,ntmps115;go_upto_region 1 with fail;rw[<-hw1];clear hw1;go_wp2;go_ret;have h9:=HO.o.stored 0 (.bool true);exact⟨rfl,h9.1,(ao.of_below HB1.o).trans (ao.of_grown (S:=λk=>k=ab) h9.2 λk e=>by simpa using e.symm) λk _ e=>e⟩
theorem aW.far1{n0:Nat}{w w':World}{sb ob ab:Nat}{rw:Value}{us:List Value}{rows:List (List Ft)}{b:Bool}(h:aW n0 w sb ob rw us rows)(ho:w.ownsRow n0 4 1 (gE ab) 1 [.bool b])(hf:ao (λk=>k=ab) w w'):aW n0 w' sb ob rw us rows:=by
 have hT:∀{T:TypeId},4≠T->∀k,k=ab->cX w T k:=λhT k e=>by subst e;exact bM ho rfl hT
 refine⟨eh hf h.box (hT (by decide)),hf.kdb h.kind h.lt.2 λe=>?_,h.rws.frm hf (λk e=>by subst e;exact DC ho) λk hk e=>?_⟩
 ·obtain⟨ai,e2⟩:=cD h.box (g:=sb) rfl;exact hT (T:=208) (by decide) sb e ai e2
 ·obtain⟨ai,e2⟩:=cD h.rws.own hk;exact hT (T:=93) (by decide) k e ai e2
def lP(n0 ab:Nat)(W:World)(acc:List Ft):Prop:=W.ownsRow n0 4 1 (gE ab) 1 [.bool (!acc.isEmpty)]
theorem DE(n0 sb ob ab:Nat):mT n0 sb ob (λk=>k=ab) (lP n0 ab) where
 next:=λh hb=>aH h hb
 sum:=fun {W W' acc rw us rows} h hs hx hf=>hf.own h λg hg hs2=>by
  simp only[gE,Value.ownBlock,H6] at hg;subst hg;rcases hs2 with e|e
  ·exact(hx ab rfl).2 e
  ·exact(hx ab rfl).1 e
theorem DF(n0 sb ob ab:Nat)(W:World)(acc:List Ft)(t:Ft)(tb:Nat)(hE:lP n0 ab W acc)(hB:n0<=W.heap.size)(ht:cC W tb 0 t):Calls prog 115 #[aY t,.pointer (some ⟨ab,0,none⟩)] W λe w'=>e=.returned (.bool ((fun(_:List Ft)(_:Ft)=>false) acc t))/\lP n0 ab w' (acc++[t])/\Below n0 W w'/\cC w' tb 0 t/\∀rw us rows,aW n0 W sb ob rw us rows->(∀r∈rows,∀u∈r,0<u.c)->aW n0 w' sb ob rw us rows:=by
 refine(DD n0 ab _ t W hB hE).mono ?_;rintro e w' ⟨rfl,h1,h2⟩;have hne:tb≠ab:=λe=>by have c:=Hc hE 0 (by omega);have d:=ht.1;rw[e,c] at d;simp at d
 refine⟨rfl,?_,h2.to_below hB λx hx=>?_,?_,λrw us rows hs _=>hs.far1 hE h2⟩
 ·unfold lP;have:(acc++[t]).isEmpty=false:=by cases acc<;>rfl
  rw[this];exact h1
 ·subst hx;exact(Hd hE x rfl).1
 ·obtain⟨t0,t1,t2,t3,t4,t5,t6⟩:=ht;exact⟨h2.cell t0 hne,h2.cell t1 hne,h2.cell t2 hne,h2.cell t3 hne,h2.cell t4 hne,h2.cell t5 hne,h2.cell t6 hne⟩
theorem DG(p k0 k1 k2:Int)(R:Nat)(Gp:Ft->Prop)(ms:List Mm)(J:List (List Ft)->Prop)(I:Ft->List (List Ft)->Prop)(n0:Nat)(w0:World)(ob mb sb:Nat)(sv rw:Value)(us:List Value)(rows:List (List Ft))(w:World)(hcx:kM p k0 k1 k2 R Gp ms)(hdi:kN p k0 k1 k2 Gp ms (λrows acc=>acc=[]/\J rows) (λt rows acc=>acc=[]/\I t rows) (λ_ _=>false))(hm:gM p w0 mb R ms)(hob:aQ w0 ob p k0 k1 k2 sv)(hsz:w0.heap.size=n0)(hb:Below n0 w0 w)(hn:n0<=w.heap.size)(hs:aW n0 w sb ob rw us rows)(hr:aO p Gp rows)(hl:rows.length<=65)(hJ:J rows)(hK:∀f∈rows,∀u∈f,u.k<1000000000000000000):Calls prog 65 #[.pointer (some ⟨mb,0,none⟩),.pointer (some ⟨sb,0,none⟩)] w λe w'=>Below n0 w0 w'/\((e=.returned (.bool false)/\∃rows rows2,J rows/\aO p Gp rows/\Nx p rows none rows2)\/(e=.returned (.bool true)/\∃t rows,Gp t/\0<t.c/\t.c<p/\(∀f∈rows,∀u∈f,u.k<t.k)/\aO p Gp rows/\I t rows/\fm ms t=none)):=by
 obtain⟨w1,hw1⟩:∃w1,w1=w.alloc (.cells #[.bool false] 4):=⟨_,rfl⟩;have HB1:Ic (Below w.heap.size w w1):=by rw[hw1];exact af
 have HE1:Ic (lP n0 w.heap.size w1 []):=by rw[hw1];exact⟨by simp,.inr ⟨w.heap.size,1,_,rfl,hn,heap_alloc_new w _,He _,by decide,by simp,by simp⟩⟩
 have HDV:=aa (vY 115 (Or.inl rfl) p k0 k1 k2 R Gp ms (λrows acc=>acc=[]/\J rows) (λt rows acc=>acc=[]/\I t rows) (λ_ _=>false) (λk=>k=w.heap.size) (lP n0 w.heap.size) n0 w0 ob mb w.heap.size sb sv rw us rows [] w1 hcx hdi (DE n0 sb ob w.heap.size) (λW acc t tb h1 h2 h3 _ _=>(DF n0 sb ob w.heap.size W acc t tb h1 h2 h3).mono λe w' ⟨q1,q2,q3,q4,q5⟩=>⟨q1,q2,q3,q4,λrw us rows hs _=>q5 rw us rows hs⟩) hm hob hsz (hb.trans (HB1.o.mono hn)) (Hk hn HB1.o.size) (hs.next HB1.o) (λk e=>by
  subst e;have h1:=hs.lt.2;refine⟨λe=>?_,by omega⟩;have:=(Hd hs.rws.own _ e).2;omega) (λk e=>by subst e;rw[hw1];simp) hr hl HE1.o ⟨rfl,hJ⟩ hK)
 clear hcx hdi hm hob hb hs hr hl hJ hK;go_enter func65,ntmps65;go_upto_region 2 with fail;rw[<-hw1];clear hw1;go_wp2_with (go_at_call 112;refine HDV.o.mono ?_;rintro e w9 ⟨rfl,q1,q2,acc,q3,q4⟩;have HB9:=aa q1;have HE9:=aa q3;have HR9:=aa q4;have c9:=Hc q3 0 (by omega);simp only[List.getElem?_cons_zero] at c9;clear q1 q2 q3 q4);go_ret;refine⟨HB9.o,?_⟩;rcases HR9.o with ⟨rows,rows2,⟨ha,hj⟩,h2,h3⟩|⟨t,rows,acc0,g1,g2,g3,g4,g5,⟨ha,g6⟩,g7,_,g8⟩
 ·subst ha;exact Or.inl ⟨rfl,rows,rows2,hj,h2,h3⟩
 ·subst ha;rw[g8];exact Or.inr ⟨rfl,t,rows,g1,g2,g3,g4,g5,g6,g7⟩
theorem qW{t:Ft}{ts:List Ft}(h:Dn (t::ts)):aw t.k (t::ts)=t.c:=by simp only[aw,if_pos];rw[oE λu hu=>by have:=h.head u hu;omega];omega
theorem wG{p:Int}:∀{fs acc:List Ft},Dn fs->(∀t∈fs,0<t.c/\t.c<p)->Dn acc->(∀t∈acc,0<t.c/\t.c<p)->(∀u∈acc,∃v∈fs,fN u v)->(∀k,p∣aw k acc-aw k fs)->acc=fs
 |[],[],_,_,_,_,_,_=>rfl
 |[],u::acc,_,_,_,_,hg,_=>by obtain⟨v,hv,_⟩:=hg u (by simp);simp at hv
 |t::fs,[],hd,hc,_,_,_,hk=>by have h:=hk t.k;rw[qW hd] at h;have c:=hc t (by simp);simp only[aw] at h;have:=Int.le_of_dvd (by omega) (Int.dvd_neg.2 h);omega
 |t::fs,u::acc,hd,hc,hd2,hc2,hg,hk=>by
  obtain⟨v,hv,ha⟩:=hg u (by simp);have hle:=hd.le v hv;have hkk:=hk t.k;have c1:=hc t (by simp);have c2:=hc2 u (by simp);rw[qW hd] at hkk;have huk:u.k=t.k:=by
   apply Classical.byContradiction;intro hne;have hlt:u.k<t.k:=by have:=ha.1;omega
   rw[oE λx hx=>by have:=hd2.le x hx;omega] at hkk;have:=Int.le_of_dvd (by omega) (Int.dvd_neg.2 hkk);omega
  have hvt:v=t:=by
   rcases List.mem_cons.1 hv with rfl|hv
   ·rfl
   ·have:=hd.head v hv;have:=ha.1;omega
  subst hvt;have hcc:u.c=v.c:=by
   rw[<-huk,qW hd2] at hkk;obtain⟨z,hz⟩:=hkk;have hz0:z=0:=by
    have h1:z<1:=by apply Int.lt_of_not_ge;intro h;have:p*1<=p*z:=Int.mul_le_mul_of_nonneg_left h (by omega);omega
    have h2:-1<z:=by apply Int.lt_of_not_ge;intro h;have:p*z<=p*(-1):=Int.mul_le_mul_of_nonneg_left h (by omega);omega
    omega
   rw[hz0] at hz;omega
  have hut:u=v:=by obtain⟨a1,a2,a3,a4,a5,a6⟩:=ha;cases u;cases v;simp only[Ft.mk.injEq];exact⟨a1,a2,a3,a4,a5,a6,hcc⟩
  subst hut;rw[wG hd.tail (λx hx=>hc x (by simp[hx])) hd2.tail (λx hx=>hc2 x (by simp[hx])) (λx hx=>?_) (λk=>?_)]
  ·obtain⟨w,hw,hb⟩:=hg x (by simp[hx]);rcases List.mem_cons.1 hw with rfl|hw
   ·have:=hd2.head x hx;have:=hb.1;omega
   ·exact⟨w,hw,hb⟩
  ·have h:=hk k;simp only[aw] at h;have e:(if u.k=k then u.c else 0)+aw k acc-((if u.k=k then u.c else 0)+aw k fs)=aw k acc-aw k fs:=by omega
   rw[e] at h;exact h
structure eQ(p:Int)(fs:List Ft)(rows:List (List Ft))(acc:List Ft):Prop where
 dn:Dn acc
 co:∀t∈acc,0<t.c/\t.c<p
 gd:∀u∈acc,∃v∈fs,fN u v
 lt:∀a∈acc,∀r∈rows,∀u∈r,u.k<a.k
 cn:∀k,p∣aw k acc+aw k rows.flatten-aw k fs
def cd(fs:List Ft)(u:Ft):Prop:=∃v∈fs,fN u v
theorem cd.alk{fs:List Ft}:∀x t,fN x t->cd fs t->cd fs x:=λx t h ⟨v,hv,k⟩=>⟨v,hv,h.1.trans k.1,h.2.1.trans k.2.1,h.2.2.1.trans k.2.2.1,h.2.2.2.1.trans k.2.2.2.1,h.2.2.2.2.1.trans k.2.2.2.2.1,h.2.2.2.2.2.trans k.2.2.2.2.2⟩
theorem eQ.start{p:Int}{fs:List Ft}{rows:List (List Ft)}(h:∀k,p∣aw k rows.flatten-aw k fs):eQ p fs rows []:=
 ⟨List.Pairwise.nil,λt ht=>by simp at ht,λt ht=>by simp at ht,λt ht=>by simp at ht,λk=>by have:=h k;simp only[aw];rw[Int.zero_add];exact this⟩
theorem DH{p a b c d e:Int}(h1:p∣a+b-c)(h2:p∣b-(d+e)):p∣a+e+d-c:=by obtain⟨x,hx⟩:=h1;obtain⟨y,hy⟩:=h2;exact⟨x-y,by rw[Int.mul_sub];omega⟩
theorem eQ.next{p:Int}(hp:2<=p){fs:List Ft}{rows rows2:List (List Ft)}{acc:List Ft}{t:Ft}(h:eQ p fs rows acc)(hr:aO p (cd fs) rows)(hn:Nx p rows (some t) rows2):eQ p fs rows2 (acc++[t])/\aO p (cd fs) rows2/\cd fs t/\0<t.c/\t.c<p:=by
 have hK:∀a∈acc,t.k<a.k:=λa ha=>by have hs:=Nx.spec hp (G:=λu=>cd fs u/\u.k<a.k) (λx t hx hg=>⟨cd.alk x t hx hg.1,by rw[hx.1];exact hg.2⟩) hn (qK hr (h.lt a ha));exact hs.2.2.1.2
 obtain⟨s1,s2,s3,s4,s5,s6,s7⟩:=Nx.spec hp cd.alk hn hr;refine⟨⟨?_,λx hx=>?_,λx hx=>?_,λa ha r hr u hu=>?_,λk=>?_⟩,s1,s3,s4,s5⟩
 ·unfold Dn;rw[List.pairwise_append];exact⟨h.dn,by simp,λa ha b hb=>by simp at hb;subst hb;exact hK a ha⟩
 ·rcases Hv.1 hx with hx|hx
  ·exact h.co x hx
  ·simp at hx;subst hx;exact⟨s4,s5⟩
 ·rcases Hv.1 hx with hx|hx
  ·exact h.gd x hx
  ·simp at hx;subst hx;exact s3
 ·rcases Hv.1 ha with ha|ha
  ·have h1:=s6 r hr u hu;have h2:=hK a ha;omega
  ·simp at ha;subst ha;exact s6 r hr u hu
 ·rw[iM];have e:aw k [t]=if k=t.k then t.c else 0:=by
   simp only[aw];by_cases hk:k=t.k
   ·simp[hk]
   ·rw[if_neg hk,if_neg λe=>hk e.symm];omega
  rw[e];exact DH (h.cn k) (s7 k)
theorem eQ.stop{p:Int}(hp:2<=p){fs:List Ft}(hd:Dn fs)(hc:∀t∈fs,0<t.c/\t.c<p){rows rows2:List (List Ft)}{acc:List Ft}(h:eQ p fs rows acc)(hr:aO p (cd fs) rows)(hn:Nx p rows none rows2):acc=fs:=by obtain⟨_,_,s3⟩:=Nx.spec hp cd.alk hn hr;refine wG hd hc h.dn h.co h.gd λk=>?_;obtain⟨x,hx⟩:=h.cn k;obtain⟨y,hy⟩:=s3 k;exact⟨x-y,by rw[Int.mul_sub];omega⟩
theorem A4(p k0 k1 k2:Int)(hp:2<=p)(fs:List Ft):kN p k0 k1 k2 (cd fs) [] (λrows acc=>eQ p fs rows acc) (λt rows acc=>eQ p fs rows (acc++[t])) (λ_ _=>true) where
 next:=λrows acc t rows2 hr hJ hn=>(hJ.next hp hr hn).1
 left:=λt rows acc _ _ _ _ _ hI _ _=>hI
 take:=λt rows acc x bt rows' _ _ _ _ _ _ hf=>by simp[fm,bI] at hf
theorem qh(p k0 k1 k2:Int)(R:Nat)(fs:List Ft)(hpr:aZ p=0)(b0:0<=k0/\k0<=137438953472)(b1:0<=k1/\k1<=137438953472)(b2:0<=k2/\k2<=137438953472)(hf:∀t∈fs,eH p t/\0<=t.pl/\t.pl<R)(hl:fs.length<=100000):kM p k0 k1 k2 R (cd fs) [] where
 pr:=hpr
 b0:=b0
 b1:=b1
 b2:=b2
 alk:=cd.alk
 len:=λr hd hg=>by
  have hsub:(r.map Ft.k).Nodup:=by rw[List.nodup_iff_pairwise_ne,List.pairwise_map];exact hd.imp λh e=>by omega
  have:(r.map Ft.k)⊆fs.map Ft.k:=λk hk=>by obtain⟨u,hu,rfl⟩:=H8.1 hk;obtain⟨v,hv,ha⟩:=hg u hu;exact H8.2 ⟨v,hv,ha.1.symm⟩
  have h:=hsub.length_le_of_subset this;simp at h;omega
 bd:=λt ⟨v,hv,a1,a2,a3,a4,a5,a6⟩=>by obtain⟨f,p1,p2⟩:=hf v hv;have h1:=f.k;have h2:=f.a;have h3:=f.b;have h4:=f.d;have h5:=f.z;rw[a1,a2,a3,a4,a5,a6];exact⟨by omega,by omega,by omega,by omega,by omega,p1,p2⟩
 fok:=λx hx=>by simp at hx
 lds:=λx hx=>by simp at hx
 rln:=λx hx=>by simp at hx
 mul:=λx hx=>by simp at hx
 ml:=by simp
theorem qX:∀(fs:List Ft)(q r:Nat)(h:q<fs.length),r<7->(aD fs)[q*7+r]?=(aA fs[q])[r]?
 |[],_,_,h,_=>by simp at h
 |t::fs,0,r,_,hr=>by rw[j8,Nat.zero_mul,Hy,List.getElem?_append_left (by simpa [aA] using hr)];rfl
 |t::fs,q+1,r,h,hr=>by
  rw[j8,List.getElem?_append_right (by simp[aA];omega)];have e:(q+1)*7+r-(aA t).length=q*7+r:=by simp[aA];omega
  rw[e];exact qX fs q r (by simpa using h) hr
theorem DI(f:List Ft)(q:Nat)(h:q<f.length):(aD f)[q*7]?=some (.int .i64 (f[q]).k):=qX f q 0 h (by omega)
theorem DJ(f:List Ft)(q:Nat)(h:q<f.length):(aD f)[q*7+6]?=some (.int .u8 (f[q]).c):=qX f q 6 h (by omega)
def fZ(W:World)(v:Value)(n:Nat):Prop:=∀g,v.ownBlock=some g->∀j x,W.cell? ⟨g,j,none⟩=some x->(j%7≠0->∀k,x≠.int .i64 k)/\(j%7=6->n*7<=j->x=.int .u8 0)
def lQ(C:List Value)(n:Nat):Prop:=∀j x,C[j]?=some x->(j%7≠0->∀k,x≠.int .i64 k)/\(j%7=6->n*7<=j->x=.int .u8 0)
def kP(C:List Value):Prop:=∀j x,C[j]?=some x->j%7≠0->∀k,x≠.int .i64 k
def qY(C:List Value):Prop:=∀j x,C[j]?=some x->(j%7≠0->∀k,x≠.int .i64 k)/\(j%7=6->x=.int .u8 0)
theorem qZ(t:Ft):kP (aA t):=by
 intro j x hj hm k e;have hl:j<7:=by apply Ib;intro h;rw[Hu (by simpa [aA] using h)] at hj;simp at hj
 have:j=1\/j=2\/j=3\/j=4\/j=5\/j=6:=by omega
 rcases this with rfl|rfl|rfl|rfl|rfl|rfl<;>simp[aA] at hj<;>subst hj<;>cases e
theorem wH{A B:List Value}{n:Nat}(ha:kP A)(hl:A.length=n*7)(hb:kP B):kP (A++B):=by
 intro j x hj;by_cases h:j<A.length
 ·rw[List.getElem?_append_left h] at hj;exact ha j x hj
 ·rw[List.getElem?_append_right (by omega)] at hj;intro hm;exact hb _ x hj (by omega)
theorem wJ:∀fs:List Ft,kP (aD fs)
 |[]=>λj x hj=>by simp[aD] at hj
 |t::fs=>wH (n:=1) (A:=aA t) (qZ t) rfl (wJ fs)
theorem rd{A D:List Value}{n:Nat}(ha:kP A)(hl:A.length=n*7)(hd:qY D):lQ (A++D) n:=by
 intro j x hj;by_cases h:j<A.length
 ·rw[List.getElem?_append_left h] at hj;exact⟨ha j x hj,λ_ h2=>by omega⟩
 ·rw[List.getElem?_append_right (by omega)] at hj;obtain⟨h1,h2⟩:=hd _ x hj;exact⟨λhm=>h1 (by omega),λhm _=>h2 (by omega)⟩
theorem DK{C:List Value}{n:Nat}(h:lQ C n):qY (C.drop (n*7)):=by intro j x hj;rw[List.getElem?_drop] at hj;obtain⟨h1,h2⟩:=h _ x hj;exact⟨λhm=>h1 (by omega),λhm=>h2 (by omega) (by omega)⟩
theorem DL{C:List Value}{n m:Nat}(h:lQ C n)(hm:n<=m):lQ C m:=λj x hj=>⟨(h j x hj).1,λh1 h2=>(h j x hj).2 h1 (by have:=Nat.mul_le_mul_right 7 hm;omega)⟩
theorem wK{z:Value}(hz:z.cells=#[.int .i64 0,.int .u16 0,.int .u16 0,.int .u16 0,.int .u16 0,.int .u8 0,.int .u8 0])(q:Nat):qY (Builtin.zeroCells z.cells q).toList:=by
 intro j x hj;rw[hz] at hj;simp[Builtin.zeroCells] at hj;obtain⟨l,hl,hx⟩:=hj;have hlj:l=j:=by rw[List.getElem?_eq_some_iff] at hl;obtain⟨h1,h2⟩:=hl;simpa using h2.symm
 subst hlj;have hm:l%7=0\/l%7=1\/l%7=2\/l%7=3\/l%7=4\/l%7=5\/l%7=6:=by omega
 rcases hm with h|h|h|h|h|h|h<;>simp[h] at hx<;>subst hx<;>simp[h]
theorem re{W:World}{g n c:Nat}{C:Array Value}{T:TypeId}{k:Nat}(hg:W.heap[g]?=some (.cells C T (0,0)))(h:lQ C.toList n):fZ W (.slice (some ⟨g,0,none⟩) k c) n:=by intro g2 hg2 j x hx;simp only[Value.ownBlock,H6] at hg2;subst hg2;refine h j x ?_;unfold World.cell? at hx;rw[hg] at hx;simpa using hx
theorem DM{W:World}{g n c:Nat}{C:Array Value}{T:TypeId}{k:Nat}(hg:W.heap[g]?=some (.cells C T (0,0)))(h:fZ W (.slice (some ⟨g,0,none⟩) k c) n):lQ C.toList n:=λj x hj=>h g rfl j x (by
 unfold World.cell?;rw[hg];simpa using hj)
theorem fZ.nil(W:World)(n:Nat):fZ W (.slice none 0 0) n:=λg hg=>by simp[Value.ownBlock] at hg
theorem fZ.block{W W':World}{v:Value}{n:Nat}(h:fZ W v n)(hb:∀g,v.ownBlock=some g->W'.heap[g]?=W.heap[g]?):fZ W' v n:=λg hg j x hx=>h g hg j x (by
 rw[<-World.cell?_of_block (a:=⟨g,j,none⟩) (hb g hg)];exact hx)
theorem DN{P:Program}(w:World)(base:Nat)(t ty e:TypeId)(i:TypeInfo)(z:Value)(ht:P.underlying t=some (.slice e))(hi:P.info? e=some i)(hz:i.zero=some z)(hsize:i.size=7)(hby:i.bytes=24)(hzc:z.cells=#[.int .i64 0,.int .u16 0,.int .u16 0,.int .u16 0,.int .u16 0,.int .u8 0,.int .u8 0])(v:Value)(fs:List Ft)(hown:w.ownsRow base e 7 v fs.length (aD fs))(hsp:fZ w v fs.length)(u:Ft)(ad:Addr)(c:Nat)(hnew:∀j x,(aA u)[j]?=some x->w.cell? (ad.add j)=some x)(hb:fs.length<=1000000000000)(hbase:base<=w.heap.size):∃v' w',(Builtin.append_ #[t,t] ty #[v,.slice (some ad) 1 c]).run P w=.ok v' w'/\w'.ownsRow base e 7 v' (fs++[u]).length (aD (fs++[u]))/\w.grownBy w' v.ownBlock/\fZ w' v' (fs++[u]).length/\∀y f,Fv w y f->(∀s∈f,0<s.c)->Fv w' y f:=by
 obtain⟨v',w',hr,h2,h3⟩:=wL (P:=P) w base t ty e i z ht hi hz hsize hby (by rw[hzc];rfl) v fs hown u ad c hnew hb hbase;refine⟨v',w',hr,h2,h3,?_⟩;have hl7:(aA u).length=1*i.size:=by rw[hsize];rfl
 have hlen:(fs++[u]).length=fs.length+1:=by simp
 rw[hlen];have hfl:=eG fs;have hmx:fs.length+1<=9223372036854775807:=by omega
 have htl:kP (aD fs++aA u):=wH (n:=fs.length) (wJ fs) (by omega) (qZ u);have htll:(aD fs++aA u).length=(fs.length+1)*7:=by simp only[Hx];rw[hfl];simp[aA];omega
 rcases hown.2 with ⟨rfl,h0⟩|⟨g,cap,ai,rfl,hbg,hg,hnc,hcm,hcs,htake⟩
 ·have e0:fs=[]:=List.eq_nil_of_length_eq_zero (by rw[h0] at hfl;simp at hfl;omega);subst e0;have hr2:=run_append_nil (P:=P) w t ty e i z ht hi hz ad 1 c (aA u) hl7 hnew (by omega) (by omega) (by omega);rw[hr] at hr2;simp only[Result.ok.injEq] at hr2;obtain⟨rfl,rfl⟩:=hr2;refine⟨re (heap_alloc_new w.drew _) ?_,λy f hf _=>hf.below ((Hf _ _).drew.alloc (He _) _)⟩;rw[Array.toList_append,List.toList_toArray];exact rd (qZ u) rfl (wK hzc _)
 ·by_cases hroom:fs.length+1<=cap
  ·have hfit:fs.length*i.size+(aA u).length<=ai.size:=by have h7:(aA u).length=7:=rfl;rw[hcs,hsize,h7];have:=Nat.mul_le_mul_right 7 hroom;omega
   have hr2:=run_append_room (P:=P) w t ty e i ht hi g fs.length cap ai hg ad 1 c (aA u) hl7 hnew (jU u) hroom hfit;rw[hr] at hr2;simp only[Result.ok.injEq] at hr2;obtain⟨rfl,rfl⟩:=hr2;have hzl:=DM hg hsp;have hh:=setRow_heap w g ai (ai.toList.take (fs.length*i.size)++aA u++ai.toList.drop (fs.length*i.size+(aA u).length)).toArray e (0,0) hg;rw[hsize] at hh h3⊢;have etk:ai.toList.take (fs.length*7)=aD fs:=htake;refine⟨re hh ?_,λy f hf hc=>?_⟩
   ·rw[List.toList_toArray,etk];refine rd htl htll ?_;have e9:fs.length*7+(aA u).length=(fs.length+1)*7:=by simp[aA];omega
    rw[e9];exact DK (DL hzl (by omega))
   ·obtain⟨a,cp,rfl,hcap,h1⟩:=hf;refine⟨a,cp,rfl,hcap,λhp=>?_⟩;obtain⟨b,off,rfl,hlt,hcs2⟩:=h1 hp;refine⟨b,off,rfl,Hj hlt h3.size,λj x hj=>?_⟩;by_cases hbg2:b=g
    ·subst hbg2;have hold:=hcs2 j x hj;have hjl:j<(aD f).length:=by apply Ib;intro h;rw[Hu h] at hj;simp at hj
     rw[eG] at hjl;have hq:j/7<f.length:=by omega
     have hk0:(aD f)[j/7*7]?=some (.int .i64 (f[j/7]).k):=DI f (j/7) hq;have hk6:(aD f)[j/7*7+6]?=some (.int .u8 (f[j/7]).c):=DJ f (j/7) hq;have a0:=hsp b rfl _ _ (hcs2 _ _ hk0);have a6:=hsp b rfl _ _ (hcs2 _ _ hk6);have hm0:(off+j/7*7)%7=0:=by apply Classical.byContradiction;intro h;exact a0.1 h _ rfl
     have hne:¬(fs.length*7<=off+j/\off+j<fs.length*7+7):=λh=>by have h6:=a6.2 (by omega) (by omega);have hpos:=hc (f[j/7]) (Hp hq);simp only[Value.int.injEq,true_and] at h6;omega
     rw[cell_of_row _ b _ _ e (0,0) hg] at hold;rw[cell_of_row _ b _ _ e (0,0) hh,List.getElem?_toArray];have htl2:(ai.toList.take (fs.length*7)).length=fs.length*7:=by rw[etk,hfl]
     have hcl:ai.toList[off+j]?=some x:=by simpa using hold
     by_cases hlo:off+j<fs.length*7
     ·rw[List.append_assoc,List.getElem?_append_left (by omega),List.getElem?_take_of_lt hlo];exact hcl
     ·have h7:(aA u).length=7:=rfl;rw[List.getElem?_append_right (by rw[Hx,htl2,h7];omega),Hx,htl2,h7,List.getElem?_drop];have e5:fs.length*7+7+(off+j-(fs.length*7+7))=off+j:=by omega
      rw[e5];exact hcl
    ·rw[World.cell?_of_block (a:=⟨b,off+j,none⟩) (h3.block b hlt (by simp[Value.ownBlock];omega))];exact hcs2 j x hj
  ·have holds:∀j x,(aD fs)[j]?=some x->w.cell? ((⟨g,0,none⟩:Addr).add j)=some x:=hown.cells (g:=g) rfl;have hr2:=run_append_grow (P:=P) w t ty e i z ht hi hz ⟨g,0,none⟩ fs.length cap (aD fs) (by rw[hsize];exact hown.1) holds ad 1 c (aA u) hl7 hnew (by omega) (by omega) (growslice_fits (by omega) (by rw[hby];omega));rw[hr] at hr2;simp only[Result.ok.injEq] at hr2;obtain⟨rfl,rfl⟩:=hr2;refine⟨re (heap_alloc_new w.drew _) ?_,λy f hf _=>hf.below ((Hf _ _).drew.alloc (He _) _)⟩;rw[Array.toList_append,Array.toList_append,List.toList_toArray,List.toList_toArray];exact rd htl htll (wK hzc _)
theorem DO{P:Program}{w:World}{ops:Array Oper}{rest:List Oper}{o:Oper}{a:Act}{Q:Exit->Act->World->Prop}(hgd:o.guard=none)(s x:Operand)(t:TypeId)(ho:o.op=.call {callee:=.builtin .append,args:=#[s,x],argTypes:=#[t,t]})(base:Nat)(e:TypeId)(i:TypeInfo)(z:Value)(ht:P.underlying t=some (.slice e))(hi:P.info? e=some i)(hz:i.zero=some z)(hsize:i.size=7)(hby:i.bytes=24)(hzc:z.cells=#[.int .i64 0,.int .u16 0,.int .u16 0,.int .u16 0,.int .u16 0,.int .u8 0,.int .u8 0])(v:Value)(fs:List Ft)(hs:a.eval s=v)(hown:w.ownsRow base e 7 v fs.length (aD fs))(hsp:fZ w v fs.length)(u:Ft)(ad:Addr)(c:Nat)(hx:a.eval x=.slice (some ad) 1 c)(hnew:∀j x,(aA u)[j]?=some x->w.cell? (ad.add j)=some x)(hb:fs.length<=1000000000000)(hbase:base<=w.heap.size)(hK:∀v' w',w'.ownsRow base e 7 v' (fs++[u]).length (aD (fs++[u]))->w.grownBy w' v.ownBlock->fZ w' v' (fs++[u]).length->(∀y f,Fv w y f->(∀s∈f,0<s.c)->Fv w' y f)->wpList P ops Q rest (a.put o.dst v') w'):wpList P ops Q (o::rest) a w:=by refine wpList_plain hgd λK hK'=>?_;obtain⟨v',w',hr,h2,h3,h4,h5⟩:=DN (P:=P) w base t o.type e i z ht hi hz hsize hby hzc v fs hown hsp u ad c hnew hb hbase;unfold Oper.wp execOp;simp only[ho,resolve,invoke,builtin,Sem.run_bind,Sem.run_pure,Result.andThen_ok,List.map_toArray,List.map_cons,List.map_nil,hs,hx,hr];exact hK' _ _ (hK v' w' h2 h3 h4 h5)
structure iS(n0 lb:Nat)(W:World)(acc:List Ft)(v:Value):Prop where
 box:W.ownsRow n0 93 1 (gE lb) 1 [v]
 row:W.ownsRow n0 144 7 v acc.length (aD acc)
 sp:fZ W v acc.length
theorem iS.next{n0 lb:Nat}{W W':World}{acc:List Ft}{v:Value}(h:iS n0 lb W acc v)(hb:Below W.heap.size W W'):iS n0 lb W' acc v:=
 ⟨aH h.box hb,aH h.row hb,h.sp.block λg hg=>hb.block g (Hd h.row g hg).2⟩
theorem DP{n0 lb:Nat}{W:World}{v:Value}(h:W.ownsRow n0 93 1 (gE lb) 1 [v])(hv:∃a n c,v=.slice a n c):bO iR W lb:=by
 rcases h.2 with ⟨h1,_⟩|⟨g2,cap,ai,h1,_,hh,_,_,hcs,htake⟩
 ·simp[gE] at h1
 ·simp only[gE,H7,H6,Addr.mk.injEq,and_true,true_and] at h1;obtain⟨rfl,rfl⟩:=h1;refine lI hh λu hu=>?_;have e:ai.toList=[v]:=by rw[<-htake,Hz (by rw[Array.length_toList,hcs];omega)]
  rw[e,Hw] at hu;subst hu;obtain⟨a,n,c,rfl⟩:=hv;intro x e;simp at e
theorem DQ(n0 lb sb ob:Nat)(v:Value)(acc:List Ft)(t:Ft)(w:World)(hB:n0<=w.heap.size)(he:iS n0 lb w acc v)(hl:acc.length<=1000000000000):Calls prog 206 #[aY t,.pointer (some ⟨lb,0,none⟩)] w λe w'=>e=.returned (.bool true)/\(∃v',iS n0 lb w' (acc++[t]) v')/\ao (λk=>k=lb\/v.ownBlock=some k) w w'/\∀y f,Fv w y f->(∀s∈f,0<s.c)->Fv w' y f:=by
 obtain⟨i0,hi,hz0,hz1,hz2⟩:=info_parts Tryz.infoFt;have HI:=aa (Hg hi (Hg hz0 (Hg hz1 hz2)));clear hi hz0 hz1 hz2;obtain⟨va,vc,rfl⟩:=cq he.row;obtain⟨w1,hw1⟩:∃w1,w1=w.alloc (.cells #[.int .i64 t.k,.int .u16 t.a,.int .u16 t.b,.int .u16 t.d,.int .u16 t.z,.int .u8 t.pl,.int .u8 t.c] 144):=⟨_,rfl⟩;have HB1:Ic (Below w.heap.size w w1):=by rw[hw1];exact af
 have HX1:Ic (cC w1 w.heap.size 0 t):=by rw[hw1];exact(show Bx w.heap.size _ w.heap.size t from cS (He _) t).at
 have HE1:=aa (he.next HB1.o);have HE2:=aa (HE1.o.next (af (A:=.cells #[.int .i64 t.k,.int .u16 t.a,.int .u16 t.b,.int .u16 t.d,.int .u16 t.z,.int .u8 t.pl,.int .u8 t.c] 144)));have c0:=Hc HE1.o.box 0 (by omega);simp only[List.getElem?_cons_zero] at c0;obtain⟨y0,y1,y2,y3,y4,y5,y6⟩:=HX1.o;simp only[Hy] at y0 y1 y2 y3 y4 y5 y6;have HB12:Ic (n0<=w1.heap.size):=Hk hB HB1.o.size;clear he;unfold aY;go_enter func206,ntmps206;go_upto_region 1 with fail;rw[<-hw1];clear hw1;go_wp2_with (at_builtin;refine DO rfl (.tmp 4) (.tmp 6) 93 rfl n0 144 i0 _ underlying93 HI.o.1 HI.o.2.1 HI.o.2.2.1 HI.o.2.2.2 rfl (.slice va acc.length vc) acc rfl HE2.o.row HE2.o.sp t ⟨w1.heap.size,0,none⟩ 1 rfl (ik _ _ _) hl (by have:=HB12.o;simp;omega) ?_;intro v9 w9 r1 r2 r3 r4;rw[show (acc++[t]).length=acc.length+1 from by simp] at r1 r3;obtain⟨va9,vc9,hv9⟩:=cq r1;subst hv9;have R1:=aa r1;have R2:=aa r2;have R3:=aa r3;have R4:=aa r4;have HBX:=aa (World.ownsRow.kept HE2.o.box r2 (iG (by decide) HE2.o.box HE2.o.row|>λh=>by rcases h with h|h;exact Or.inl h;exact Or.inr h));have d0:=Hc HBX.o 0 (by omega);have d1:=Hb HBX.o 0;simp only[List.getElem?_cons_zero] at d0;clear r1 r2 r3 r4);go_ret;have hl9:(acc++[t]).length=acc.length+1:=by simp
 have s:=HBX.o.stored 0 (.slice va9 (acc.length+1) vc9);have hT:∀k,k=lb->cX w9 144 k:=λk e=>by subst e;exact bM HBX.o rfl (by decide)
 have hne:∀g,(Value.slice va9 (acc.length+1) vc9).ownBlock=some g->g≠lb:=λg hg e=>by obtain⟨ai,e2⟩:=cD R1.o hg;exact hT g e ai e2
 have hfs:ao (λk=>k=lb) w9 (w9.setCell ⟨lb,0,none⟩ (.slice va9 (acc.length+1) vc9)):=ao.of_grown s.2 λk e=>by simpa using e.symm
 have hb2:Below w.heap.size w (w1.alloc (.cells #[.int .i64 t.k,.int .u16 t.a,.int .u16 t.b,.int .u16 t.d,.int .u16 t.z,.int .u8 t.pl,.int .u8 t.c] 144)):=HB1.o.trans (af.mono HB1.o.size);refine⟨rfl,⟨.slice va9 (acc.length+1) vc9,by have h:=s.1;exact h,by rw[hl9];exact eh hfs R1.o hT,by rw[hl9];exact R3.o.block λg hg=>Below.heap_setCell _ _ _ _ (hne g hg)⟩,?_,λy f hf hc=>ju hfs (λk e=>by subst e;exact DP HBX.o ⟨_,_,_,rfl⟩) (R4.o y f (hf.below hb2) hc)⟩;refine((ao.of_below hb2).trans (ao.of_grown (S:=λk=>(Value.slice va acc.length vc).ownBlock=some k) R2.o λk e=>e) λk _ e=>Or.inr e).trans hfs λk _ e=>Or.inl e
theorem DR{w:World}{tb:Nat}{t:Ft}(h:cC w tb 0 t):Fv w (.slice (some ⟨tb,0,none⟩) 1 1) [t]:=by
 refine⟨_,_,rfl,He _,λ_=>⟨tb,0,rfl,Hr w _ h.1,λj u hj=>?_⟩⟩;have e:aD [t]=aA t:=by simp[aD]
 rw[e] at hj;have hl:j<7:=by apply Ib;intro h;rw[Hu (by simpa [aA] using h)] at hj;simp at hj
 obtain⟨h0,h1,h2,h3,h4,h5,h6⟩:=h;have:j=0\/j=1\/j=2\/j=3\/j=4\/j=5\/j=6:=by omega
 rcases this with rfl|rfl|rfl|rfl|rfl|rfl|rfl<;>simp[aA] at hj<;>subst hj
 ·exact h0
 ·exact h1
 ·exact h2
 ·exact h3
 ·exact h4
 ·exact h5
 ·exact h6
theorem um{w:World}{tb:Nat}{t:Ft}(h:Fv w (.slice (some ⟨tb,0,none⟩) 1 1) [t]):cC w tb 0 t:=by obtain⟨a,cap,e,_,h⟩:=h;obtain⟨b,off,e2,_,h3⟩:=h (by simp);subst e2;simp only[H7,H6,Addr.mk.injEq,and_true] at e;obtain⟨⟨rfl,rfl⟩,_,_⟩:=e;exact lR λj u hj=>h3 j u (by simpa [aD] using hj)
theorem DT(n0 sb ob lb:Nat)(y:Value)(f:List Ft):mT n0 sb ob (λk=>k=lb) (λW acc=>(∃v,iS n0 lb W acc v)/\Fv W y f) where
 next:=fun⟨⟨v,h⟩,hy⟩ hb=>⟨⟨v,h.next hb⟩,hy.below hb⟩
 sum:=fun {W W' acc rw us rows} ⟨⟨v,h⟩,hy⟩ hs hx hf=>by
  have hT:∀k,eV sb rw k->cX W 144 k:=λk hk=>by
   rcases hk with rfl|hk
   ·exact bM hs.box rfl (by decide)
   ·exact bM hs.rws.own hk (by decide)
  refine⟨⟨v,hf.own h.box λg hg hs2=>?_,eh hf h.row hT,h.sp.block λg hg=>hf.block g (Hd h.row g hg).2 λhs2=>?_⟩,ju hf (λg hg=>?_) hy⟩
  ·simp only[gE,Value.ownBlock,H6] at hg;subst hg;rcases hs2 with e|e
   ·exact(hx lb rfl).2 e
   ·exact(hx lb rfl).1 e
  ·obtain⟨ai,e⟩:=cD h.row hg;exact hT g hs2 ai e
  ·rcases hg with rfl|hg
   ·exact hs.kind
   ·intro j u hu x e;obtain⟨a,n,c,h2⟩:=hs.rws.kind g hg j u hu;rw[h2] at e;cases e
theorem DU(n0 sb ob lb:Nat)(y:Value)(f:List Ft)(hyc:∀s∈f,0<s.c)(W:World)(acc:List Ft)(t:Ft)(tb:Nat)(hE:(∃v,iS n0 lb W acc v)/\Fv W y f)(hB:n0<=W.heap.size)(ht:cC W tb 0 t)(hc:0<t.c)(hl:acc.length<=1000000000000):Calls prog 206 #[aY t,.pointer (some ⟨lb,0,none⟩)] W λe w'=>e=.returned (.bool ((fun(_:List Ft)(_:Ft)=>true) acc t))/\((∃v,iS n0 lb w' (acc++[t]) v)/\Fv w' y f)/\Below n0 W w'/\cC w' tb 0 t/\∀rw us rows,aW n0 W sb ob rw us rows->(∀k,k=lb->rw.ownBlock≠some k/\k≠sb)->(∀r∈rows,∀u∈r,0<u.c)->aW n0 w' sb ob rw us rows:=by
 obtain⟨⟨v,hE⟩,hy⟩:=hE;refine(DQ n0 lb sb ob v acc t W hB hE hl).mono ?_;rintro e w' ⟨rfl,h1,h2,h3⟩;have hft:Fv W (.slice (some ⟨tb,0,none⟩) 1 1) [t]:=DR ht;refine⟨rfl,⟨h1,h3 _ _ hy hyc⟩,h2.to_below hB λx hx=>?_,?_,λrw us rows hs hx hcc=>?_⟩
 ·rcases hx with rfl|hx
  ·exact(Hd hE.box x rfl).1
  ·exact(Hd hE.row x hx).1
 ·exact um (h3 _ _ hft λs hs=>by simp at hs;subst hs;exact hc)
 ·have hT:∀{T:TypeId},144≠T->93≠T->∀k,(k=lb\/v.ownBlock=some k)->cX W T k:=λa1 a2 k hk=>by
   rcases hk with rfl|hk
   ·exact bM hE.box rfl a2
   ·exact bM hE.row hk a1
  have hrw:∀g,rw.ownBlock=some g->¬(g=lb\/v.ownBlock=some g):=λg hg hk=>by
   rcases hk with rfl|hk
   ·exact(hx g rfl).1 hg
   ·obtain⟨ai,e⟩:=cD hs.rws.own hg;exact bM hE.row hk (T':=93) (by decide) ai e
  have hsb:¬(sb=lb\/v.ownBlock=some sb):=λhk=>by obtain⟨ai,e⟩:=cD hs.box (g:=sb) rfl;exact hT (T:=208) (by decide) (by decide) sb hk ai e
  refine⟨eh h2 hs.box (hT (by decide) (by decide)),h2.kdb hs.kind hs.lt.2 hsb,hs.rws.len,h2.own hs.rws.own hrw,λg hg=>h2.kdb (hs.rws.kind g hg) (Hd hs.rws.own g hg).2 (hrw g hg),λi hi=>h3 _ _ (hs.rws.fvs i hi) λs hs2=>?_⟩;have hi2:rows.getD i []∈rows:=by rw[Hs,Ht hi];exact Hp hi
  exact hcc _ hi2 s hs2
theorem A3(p k0 k1 k2:Int)(R:Nat)(Gp:Ft->Prop)(ms:List Mm)(J:List (List Ft)->List Ft->Prop)(I:Ft->List (List Ft)->List Ft->Prop)(n0:Nat)(w0:World)(ob mb sb:Nat)(sv rw:Value)(us:List Value)(rows:List (List Ft))(w:World)(hcx:kM p k0 k1 k2 R Gp ms)(hdi:kN p k0 k1 k2 Gp ms J I (λ_ _=>true))(hla:∀t rows acc,I t rows acc->acc.length<=1000000000000)(hm:gM p w0 mb R ms)(hob:aQ w0 ob p k0 k1 k2 sv)(hsz:w0.heap.size=n0)(hb:Below n0 w0 w)(hn:n0<=w.heap.size)(hs:aW n0 w sb ob rw us rows)(hr:aO p Gp rows)(hl:rows.length<=65)(hJ:J rows [])(hK:∀f∈rows,∀u∈f,u.k<1000000000000000000)(y:Value)(yf:List Ft)(hy:Fv w y yf)(hyc:∀s∈yf,0<s.c):Calls prog 172 #[.pointer (some ⟨mb,0,none⟩),.pointer (some ⟨sb,0,none⟩)] w λe w'=>Below n0 w0 w'/\∃u acc,e=.returned u/\w'.ownsRow n0 144 7 u acc.length (aD acc)/\fZ w' u acc.length/\Fv w' y yf/\∃rows rows2,J rows acc/\aO p Gp rows/\Nx p rows none rows2:=by
 obtain⟨w1,hw1⟩:∃w1,w1=w.alloc (.cells #[.slice none 0 0] 93):=⟨_,rfl⟩;have HB1:Ic (Below w.heap.size w w1):=by rw[hw1];exact af
 have HE1:Ic ((∃v,iS n0 w.heap.size w1 [] v)/\Fv w1 y yf):=by refine⟨⟨.slice none 0 0,?_,World.ownsRow_nil _ _ _ _,fZ.nil _ _⟩,hy.below HB1.o⟩;rw[hw1];exact⟨by simp,.inr ⟨w.heap.size,1,_,rfl,hn,heap_alloc_new w _,He _,by decide,by simp,by simp⟩⟩
 have HDV:=aa (vY 206 (Or.inr rfl) p k0 k1 k2 R Gp ms J I (λ_ _=>true) (λk=>k=w.heap.size) (λW acc=>(∃v,iS n0 w.heap.size W acc v)/\Fv W y yf) n0 w0 ob mb w.heap.size sb sv rw us rows [] w1 hcx hdi (DT n0 sb ob w.heap.size y yf) (λW acc t tb h1 h2 h3 h4 h5=>DU n0 sb ob w.heap.size y yf hyc W acc t tb h1 h2 h3 h4 (by obtain⟨rows,h5⟩:=h5;exact hla _ _ _ h5)) hm hob hsz (hb.trans (HB1.o.mono hn)) (Hk hn HB1.o.size) (hs.next HB1.o) (λk e=>by
  subst e;have h1:=hs.lt.2;refine⟨λe=>?_,by omega⟩;have:=(Hd hs.rws.own _ e).2;omega) (λk e=>by subst e;rw[hw1];simp) hr hl HE1.o hJ hK)
 have HSP:Ic (∀W,Below n0 w0 W->W.cell? ⟨mb,4,none⟩=some (.pointer none)):=λW h=>ae hm.work (by rw[hsz];exact h);have HSPT:=aa qH;clear hcx hdi hla hm hob hb hs hr hl hJ hK;go_enter func172,ntmps172;go_upto_region 2 with fail;rw[<-hw1];clear hw1;go_wp2_with (first|(go_at_call 112;refine HDV.o.mono ?_;rintro e w9 ⟨rfl,q1,q2,acc,⟨⟨v9,q3⟩,q5⟩,q4⟩;have HY9:=aa q5;have HB9:=aa q1;have HE9:=aa q3;have HR9:=aa q4;have c9:=Hc q3.box 0 (by omega);simp only[List.getElem?_cons_zero] at c9;have m9:=HSP.o w9 q1;obtain⟨va9,vc9,hv9⟩:=cq q3.row;subst hv9;clear q1 q2 q3 q4 q5)|(go_at_call 168;refine(HSPT.o _).mono ?_;rintro e w8 ⟨rfl,n8,rfl⟩;have HB9:=aa (below_drewN HB9.o n8);have HE9:=aa (HE9.o.next (below_drewN (Hf _ _) n8));have HY9:=aa (HY9.o.below (below_drewN (Hf _ _) n8));have c9:=Hc HE9.o.box 0 (by omega);simp only[List.getElem?_cons_zero] at c9));go_ret;refine⟨HB9.o,_,acc,rfl,HE9.o.row,HE9.o.sp,HY9.o,?_⟩;rcases HR9.o with ⟨rows,rows2,hj,h2,h3⟩|⟨t,rows,acc0,_,_,_,_,_,_,_,g8,_⟩
 ·exact⟨rows,rows2,hj,h2,h3⟩
 ·simp at g8
end Go.Proofs.YtglijodcbdcngaaGreat
namespace Go.Proofs.YtglijodcbdcngaaGreat
set_option linter.unusedSimpArgs false
set_option linter.unusedVariables false
open Go.Proofs.Tryz Go.RowKit Go.Sort
theorem nX{P:Program}{w:World}{ops:Array Oper}{rest:List Oper}{o:Oper}{a:Act}{Q:Exit->Act->World->Prop}(hgd:o.guard=none)(s x:Operand)(t:TypeId)(ho:o.op=.call {callee:=.builtin .append,args:=#[s,x],argTypes:=#[t,t]})(base:Nat)(e:TypeId)(zz:Value)(size bytes:Nat)(ht:P.underlying t=some (.slice e))(hi:(P.info? e).map (λi=>(i.zero,i.size,i.bytes))=some (some zz,size,bytes))(hzs:zz.cells.size=size)(hsz:0<size)(v:Value)(n:Nat)(xs:List Value)(hs:a.eval s=v)(hown:w.ownsRow base e size v n xs)(ad:Addr)(m c:Nat)(news:List Value)(hl:news.length=m*size)(hx:a.eval x=.slice (some ad) m c)(hnew:∀j u,news[j]?=some u->w.cell? (ad.add j)=some u)(h1:∀u∈news,u.oneCell'=true)(h63:n+m<=maxLen)(hbytes:(n+m)*bytes<=140737488355328)(hbase:base<=w.heap.size)(hK:∀v' w',w'.ownsRow base e size v' (n+m) (xs++news)->w.grownBy w' v.ownBlock->wpList P ops Q rest (a.put o.dst v') w'):wpList P ops Q (o::rest) a w:=by refine wpList_plain hgd λK hK'=>?_;obtain⟨i,hi0,hz0,hz1,hz2⟩:=info_parts hi;obtain⟨v',w',hr,h2,h3,_⟩:=run_append_own (P:=P) w base t o.type e i zz size bytes ht hi0 hz0 hz1 hz2 hzs hsz v n xs hown ad m c news hl hnew h1 h63 hbytes hbase;unfold Oper.wp execOp;simp only[ho,resolve,invoke,builtin,Sem.run_bind,Sem.run_pure,Result.andThen_ok,List.map_toArray,List.map_cons,List.map_nil,hs,hx,hr];exact hK' _ _ (hK v' w' h2 h3)
theorem il{w:World}{B:Nat}{T:TypeId}{s:Nat}{v:Value}{n:Nat}{xs:List Value}(h:w.ownsRow B T s v n xs)(hn:0<xs.length):∃g cap,v=.slice (some ⟨g,0,none⟩) n cap/\B<=g/\g<w.heap.size/\n<=cap:=by
 rcases h.2 with ⟨rfl,h0⟩|⟨g,cap,ai,rfl,hb,hg,hnc,_⟩
 ·have:=h.1;rw[h0] at this;simp at this;rw[this] at hn;simp at hn
 ·exact⟨g,cap,rfl,hb,(Hd h g rfl).2,hnc⟩
theorem jR{P:Program}{w:World}{ops:Array Oper}{rest:List Oper}{o:Oper}{a:Act}{Q:Exit->Act->World->Prop}(hgd:o.guard=none)(s x:Operand)(t:TypeId)(ho:o.op=.call {callee:=.builtin .append,args:=#[s,x],argTypes:=#[t,t]})(e:TypeId)(zz:Value)(bytes:Nat)(ht:P.underlying t=some (.slice e))(hi:(P.info? e).map (λi=>(i.zero,i.size,i.bytes))=some (some zz,1,bytes))(hzs:zz.cells.size=1)(hby:bytes<=1000)(hs:a.eval s=.slice none 0 0)(ad:Addr)(c:Nat)(u:Value)(hx:a.eval x=.slice (some ad) 1 c)(hnew:w.cell? ad=some u)(h1:u.oneCell'=true)(hK:∀b cap w',w.heap.size<=b->w'.cell? ⟨b,0,none⟩=some u->w'.ownsRow w.heap.size e 1 (.slice (some ⟨b,0,none⟩) 1 cap) 1 [u]->Below w.heap.size w w'->wpList P ops Q rest (a.put o.dst (.slice (some ⟨b,0,none⟩) 1 cap)) w'):wpList P ops Q (o::rest) a w:=by
 refine nX hgd s x t ho w.heap.size e zz 1 bytes ht hi hzs (by decide) (.slice none 0 0) 0 [] hs (World.ownsRow_nil _ _ _ _) ad 1 c [u] rfl hx (λj x hj=>?_) (λx hx=>by simp at hx;subst hx;exact h1) (by unfold maxLen;omega) (by omega) (He _) λv' w' h2 h3=>?_
 ·have:j=0:=by apply Nat.eq_zero_of_not_pos;intro h;rw[Hu (by simp;omega)] at hj;simp at hj
  subst this;simp at hj;subst hj;exact hnew
 ·simp only[Hy,List.nil_append] at h2;obtain⟨g,cap,rfl,hb,_,_⟩:=il h2 (by simp);exact hK g cap w' hb (Hc h2 0 (by omega)) h2 ((Hf _ _).grown h3 (He _) λk hk=>by simp[Value.ownBlock] at hk)
def oF(w:World)(v:Value)(fs:List Ft):Prop:=∃b off c u,v=.slice (some ⟨b,off,none⟩) 1 c/\w.cell? ⟨b,off,none⟩=some u/\Fv w u fs
theorem oF.below{w w':World}{v:Value}{fs:List Ft}(h:oF w v fs)(hb:Below w.heap.size w w'):oF w' v fs:=by obtain⟨b,off,c,u,h1,h2,h3⟩:=h;exact⟨b,off,c,u,h1,ae h2 hb,h3.below hb⟩
theorem Tryz.infoFvL:(prog.info? 93).map (λi=>(i.zero,i.size,i.bytes))=some (some (.slice none 0 0),1,24):=by kernel_rfl
def fV(s:Int)(pl:Int):Ft:=⟨s,0,0,0,0,pl,1⟩
theorem qf(ob pl:Nat)(p k0 k1 k2:Int)(sv:Value)(ss:List Int)(w:World)(hob:aQ w ob p k0 k1 k2 sv)(hs:Sl w sv ss)(hpl:pl<ss.length)(hpl2:pl<=255):Calls prog 207 #[.pointer (some ⟨ob,0,none⟩),.int .i64 pl] w λe w'=>e=.returned (aY (fV (ss.getD pl 0) pl))/\Below w.heap.size w w':=by
 obtain⟨sa,sc,rfl,hsi⟩:=hs;obtain⟨sb,soff,rfl,hslt,hsc⟩:=hsi (by omega);have s0:=hsc pl hpl;generalize ss.getD pl 0=s at s0⊢;obtain⟨olt,o0,o1,o2,o3,o4⟩:=hob;clear hsi hsc o0 o1 o2 o3;obtain⟨wa,hwa⟩:∃wa,wa=w.alloc (.cells #[.int .i64 0,.int .u16 0,.int .u16 0,.int .u16 0,.int .u16 0,.int .u8 0,.int .u8 0] 144):=⟨_,rfl⟩;have HBA:Ic (Below w.heap.size w wa):=by rw[hwa];exact af
 have HBX:Ic (Bx w.heap.size wa w.heap.size ⟨0,0,0,0,0,0,0⟩):=by rw[hwa];exact Bx.new w _ (He _)
 have y0:=ae s0 HBA.o;have y1:=ae o4 HBA.o;obtain⟨v0,v1,v2,v3,v4,v5,v6⟩:=HBX.o.at;have r0:=Hb HBX.o 0;have r1:=Hb HBX.o 1;have r2:=Hb HBX.o 2;have r3:=Hb HBX.o 3;have r4:=Hb HBX.o 4;have r5:=Hb HBX.o 5;have r6:=Hb HBX.o 6;simp only[Hy] at v0 v1 v2 v3 v4 v5 v6;have HP:=aa (HBX.o.put (fV s pl));have hpat:=HP.o.1.at;have HPB:Ic (Below w.heap.size w (dO wa w.heap.size (fV s pl))):=HBA.o.trans (ck HP.o.2 (He _) HBA.o.size);unfold dO at hpat HPB;obtain⟨q0,q1,q2,q3,q4,q5,q6⟩:=hpat;simp only[Hy,fV] at q0 q1 q2 q3 q4 q5 q6;have hpi:(pl:Int)<(ss.length:Int):=by omega
 have hwp:IntKind.u8.wrap (pl:Int)=pl:=by rw[IntKind.wrap_u8];omega
 clear s0 o4;go_enter func207,ntmps207;go_upto_region 1 with fail;rw[<-hwa];clear hwa;go_wp2;refine Hn (v:=aY (fV s pl)) (by simp[results,Tryz.results207,go_sem,q0,q1,q2,q3,q4,q5,q6,aY,fV]) rfl ⟨rfl,HPB.o⟩
theorem DV(a:Option Addr)(c:Nat)(fn:Value)(w:World):Calls prog 238 #[.slice a 1 c,.int .i64 0,.int .i64 1,fn] w λe w'=>e=.returned (.tuple #[])/\w'=w:=by go_enter func238,ntmps238;go_wp2_with fail;refine wp_loop_rounds 1 ?_;rw[rounds_succ];go_wp2;go_end0;exact⟨rfl,rfl⟩
theorem DW(a:Option Addr)(c:Nat)(fn:Value)(w:World):Calls prog 205 #[.slice a 1 c,.int .i64 1,fn] w λe w'=>e=.returned (.tuple #[])/\w'=w:=by have HI:=aa (DV a c fn);go_enter func205,ntmps205;go_wp2_with fail;refine wp_loop_rounds 1 ?_;rw[rounds_succ];go_wp2_with (go_at_call 238;refine(HI.o _).mono ?_;rintro e w1 ⟨rfl,rfl⟩);refine wp_loop_rounds 1 ?_;rw[rounds_succ];go_wp2;go_end0;exact⟨rfl,rfl⟩
theorem A6(a:Option Addr)(c:Nat)(fn:Value)(w:World):Calls prog 170 #[.slice a 1 c,fn] w λe w'=>e=.returned (.tuple #[])/\w'=w:=by have HI:=aa (DW a c fn);go_enter func170,ntmps170;go_wp2_with (go_at_call 205;refine(HI.o _).mono ?_;rintro e w1 ⟨rfl,rfl⟩);go_end0;exact⟨rfl,rfl⟩
def wM:Value->Nat| .slice _ n _=>n|_=>0
theorem eQ.len{p:Int}{fs acc:List Ft}{rows:List (List Ft)}(h:eQ p fs rows acc):acc.length<=fs.length:=by
 have hsub:(acc.map Ft.k).Nodup:=by rw[List.nodup_iff_pairwise_ne,List.pairwise_map];exact h.dn.imp λh e=>by omega
 have:(acc.map Ft.k)⊆fs.map Ft.k:=λk hk=>by obtain⟨u,hu,rfl⟩:=H8.1 hk;obtain⟨v,hv,ha⟩:=h.gd u hu;exact H8.2 ⟨v,hv,ha.1.symm⟩
 have h:=hsub.length_le_of_subset this;simpa using h
structure lS(p:Int)(B:Nat)(fs:List Ft)(w wr:World)(sb ob:Nat)(rv v:Value)(tb:Nat)(r:Option Ft)(acc:List Ft):Prop where
 below:Below B w wr
 le:w.heap.size<=wr.heap.size
 own:wr.ownsRow w.heap.size 144 7 v acc.length (aD acc)
 box:Bx w.heap.size wr tb (bE r)
 ne:∀g,v.ownBlock=some g->g≠tb
 sum:∃us rows,aW B wr sb ob rv us rows/\iP w.heap.size us rows/\aO p (cd fs) rows/\rows.length<=65/\(∀t,r=some t->eQ p fs rows (acc++[t]))/\(r=none->acc=fs)
theorem wN{B L:Nat}{w wr:World}{sb ob:Nat}{rv:Value}{rows:List (List Ft)}(h:cK B L w wr sb ob rv rows)(hB:B<=w.heap.size):Below B w wr:=h.frm.to_below hB λx hx=>(h.rv_lt x hx).1
theorem lS.of_next{p:Int}(hp:2<=p){B:Nat}{fs:List Ft}(hd:Dn fs)(hc:∀t∈fs,0<t.c/\t.c<p){w w3 w4:World}{sb ob tb:Nat}{rv v:Value}{r:Option Ft}{acc:List Ft}{rows rows2:List (List Ft)}{t0:Ft}(hB:B<=w.heap.size)(hrl:∀g,rv.ownBlock=some g->g<w.heap.size)(hsl:sb<w.heap.size)(hb:Below B w w3)(hle:w.heap.size<=w3.heap.size)(ho:w3.ownsRow w.heap.size 144 7 v acc.length (aD acc))(hbx:Bx w.heap.size w3 tb t0)(hne:∀g,v.ownBlock=some g->g≠tb)(hr:aO p (cd fs) rows)(hl:rows.length<=65)(hso:eQ p fs rows acc)(hn:Nx p rows r rows2)(hk:cK B w.heap.size w3 w4 sb ob rv rows2):lS p B fs w (dO w4 tb (bE r)) sb ob rv v tb r acc:=by
 obtain⟨us,hs4,hl4⟩:=hk.sum;have hb4:Below B w w4:=hb.trans (wN hk (Hk hB hle));have h4:Bx w.heap.size w4 tb t0:=oG hbx hk.frm λe=>by have h1:=hrl tb e;have h2:=(Hd hbx tb rfl).1;omega
 have ho4:w4.ownsRow w.heap.size 144 7 v acc.length (aD acc):=hk.frm.own ho λg hg e=>by have h1:=hrl g e;have h2:=(Hd ho g hg).1;omega
 have hP:=h4.put (bE r);have htb:=(Hd h4 tb rfl).1;have hle4:w.heap.size<=w4.heap.size:=Hk hle hk.frm.size;have hsp:=Nx.spec hp (cd.alk (fs:=fs)) hn hr;refine⟨hb4.trans (ck hP.2 (Hk hB htb) (Hk hB hle4)),Hk hle4 hP.2.size,ho4.kept hP.2 ?_,hP.1,hne,us,rows2,hs4.far hP.2 hl4 htb (by omega) (λe=>by have:=hrl tb e;omega),hl4,hsp.1,by rw[hsp.2.1];exact hl,λt e=>?_,λe=>?_⟩
 ·cases hv:v.ownBlock with
  |none=>exact Or.inl rfl
  |some g=>exact Or.inr (by simpa using hne g hv)
 ·subst e;exact(hso.next hp hr hn).1
 ·subst e;exact hso.stop hp hd hc hr hn
theorem DX{B L:Nat}{W W':World}{sb ob:Nat}{rv:Value}{us:List Value}{rows:List (List Ft)}{ro:Option Nat}(h:aW B W sb ob rv us rows)(hl:iP L us rows)(hg:W.grownBy W' ro)(hro:∀g,ro=some g->L<=g)(hsl:sb<L)(hrl:∀g,rv.ownBlock=some g->g<L):aW B W' sb ob rv us rows:=by
 cases ro with
 |none=>exact h.next ((Hf _ _).grown hg (He _) λk hk=>by simp at hk)
 |some g=>have h1:=hro g rfl;exact h.far hg hl h1 (by omega) λe=>by have:=hrl g e;omega
theorem DY(B sb ob:Nat)(p k0 k1 k2:Int)(sv rv:Value)(us:List Value)(rows:List (List Ft))(fs:List Ft)(w:World)(hs:aW B w sb ob rv us rows)(hB:B<=w.heap.size)(hob:aQ w ob p k0 k1 k2 sv)(hob2:ob<B)(hp:2<=p/\p<=101)(hn:rows.length<=65)(hr:aO p (cd fs) rows)(hd:Dn fs)(hc:∀t∈fs,0<t.c/\t.c<p)(hcn:∀k,p∣aw k rows.flatten-aw k fs)(hfl:fs.length<=1000000):Calls prog 209 #[.pointer (some ⟨sb,0,none⟩)] w λe w'=>∃u,e=.returned u/\w'.ownsRow w.heap.size 144 7 u fs.length (aD fs)/\Below B w w':=by
 obtain⟨i0,hi,hz0,hz1,hz2⟩:=info_parts Tryz.infoFt;have HI:=aa (Hg hi (Hg hz0 (Hg hz1 hz2)));clear hi hz0 hz1 hz2;have HRL:Ic (∀g,rv.ownBlock=some g->g<w.heap.size):=λg hg=>(Hd hs.rws.own g hg).2;have HSL:=aa hs.lt.2;have HOB:Ic (∀W,Below B w W->aQ W ob p k0 k1 k2 sv):=λW hb=>hob.frm (S:=λk=>B<=k) ⟨hb.os,hb.tape,hb.output,hb.size,λk _ hn=>hb.block k (by omega)⟩ (by omega);have HN0:=aa (qN B w.heap.size sb ob p k0 k1 k2 sv rv us rows w hs (He _) hs.loc hob hp (by omega) hr.co hr.dn);have HST:=aa (eQ.start (p:=p) (fs:=fs) hcn);have HRR:=aa hr;have HDN:=aa hd;have HCO:=aa hc;unfold aY at HN0;clear hs hob hr hd hc hcn;go_enter func209,ntmps209;go_wp2_with (go_at_call 164;refine HN0.o.mono ?_;rintro e w1 ⟨r1,rfl,rows1,q1,q2⟩;have HNX:=aa q1;have HTK:=aa q2;clear q1 q2);obtain⟨w2,hw2⟩:∃w2,w2=w1.alloc (.cells #[.int .i64 (bE r1).k,.int .u16 (bE r1).a,.int .u16 (bE r1).b,.int .u16 (bE r1).d,.int .u16 (bE r1).z,.int .u8 (bE r1).pl,.int .u8 (bE r1).c] 144):=⟨_,rfl⟩;have HH0:Ic (lS p B fs w w2 sb ob rv (.slice none 0 0) w1.heap.size r1 []):=by have hsp:=Nx.spec hp.1 (cd.alk (fs:=fs)) HNX.o HRR.o;obtain⟨us1,hs1,hl1⟩:=HTK.o.sum;rw[hw2];exact⟨(wN HTK.o hB).trans (af.mono (Hk hB HTK.o.frm.size)),by have:=HTK.o.frm.size;simp;omega,World.ownsRow_nil _ _ _ _,cS HTK.o.frm.size _,λg hg=>by simp[Value.ownBlock] at hg,us1,rows1,hs1.next af,hl1,hsp.1,by rw[hsp.2.1];exact hn,λt e=>by subst e;exact(HST.o.next hp.1 HRR.o HNX.o).1,λe=>by subst e;exact HST.o.stop hp.1 HDN.o HCO.o HRR.o HNX.o⟩
 rw[<-hw2];clear hw2;go_loopw [3,4,5] (λz b m wr=>∃(v:Value)(tb:Nat)(r:Option Ft)(acc:List Ft),z=v/\b=.pointer (some ⟨tb,0,none⟩)/\m=.bool r.isSome/\lS p B fs w wr sb ob rv v tb r acc) (λz _ _ _=>fs.length-wM z);case atStart=>exact⟨_,_,r1,[],rfl,rfl,rfl,HH0.o⟩
 case round=>
  clear HH0 HN0 HNX HTK HST HRR;obtain⟨v,tb,r,acc,hz,rfl,rfl,hh⟩:=hrel;subst hz;have HH:=aa hh;clear hh;obtain⟨va,vc,hv⟩:=a7 HH.o.own;subst hv;cases r with
  |none=>obtain⟨us3,rows3,_,_,_,_,_,h6⟩:=HH.o.sum;have HEQ:=aa (h6 rfl);clear h6;simp only[Option.isSome_none];go_wp2;go_ret;exact⟨_,rfl,by rw[<-HEQ.o];exact HH.o.own,HH.o.below⟩
  |some t=>
   simp only[Option.isSome_some];obtain⟨us3,rows3,s1,s2,s3,s4,s5,_⟩:=HH.o.sum;have HS:=aa s1;have HLC:=aa s2;have HRK:=aa s3;have HLN:=aa s4;have HSO:=aa (s5 t rfl);have HALN:Ic (acc.length+1<=fs.length):=by have:=HSO.o.len;show _<=_;simpa using this
   have hbx:=HH.o.box;simp only[bE,Option.getD_some] at hbx;have HBX:=aa hbx;obtain⟨y0,y1,y2,y3,y4,y5,y6⟩:=HBX.o.at;simp only[Hy] at y0 y1 y2 y3 y4 y5 y6;clear s1 s2 s3 s4 s5 hbx;have HO1:=aa (HH.o.own.alloc (.cells #[.int .i64 t.k,.int .u16 t.a,.int .u16 t.b,.int .u16 t.d,.int .u16 t.z,.int .u8 t.pl,.int .u8 t.c] 144));have HS1:=aa (HS.o.next (af (A:=.cells #[.int .i64 t.k,.int .u16 t.a,.int .u16 t.b,.int .u16 t.d,.int .u16 t.z,.int .u8 t.pl,.int .u8 t.c] 144)));have HX1:=aa (HBX.o.below (af (A:=.cells #[.int .i64 t.k,.int .u16 t.a,.int .u16 t.b,.int .u16 t.d,.int .u16 t.z,.int .u8 t.pl,.int .u8 t.c] 144)));have HB1:Ic (Below B w (wr.alloc (.cells #[.int .i64 t.k,.int .u16 t.a,.int .u16 t.b,.int .u16 t.d,.int .u16 t.z,.int .u8 t.pl,.int .u8 t.c] 144))):=HH.o.below.alloc (Hk hB HH.o.le) _;have HL1:Ic (w.heap.size<=(wr.alloc (.cells #[.int .i64 t.k,.int .u16 t.a,.int .u16 t.b,.int .u16 t.d,.int .u16 t.z,.int .u8 t.pl,.int .u8 t.c] 144)).heap.size):=by have:=HH.o.le;show _<=_;simp;omega
   go_upto_region 6 with (at_builtin;refine mI rfl (.tmp 17) (.tmp 19) 93 rfl w.heap.size 144 i0 _ underlying93 HI.o.1 HI.o.2.1 HI.o.2.2.1 HI.o.2.2.2 rfl (.slice va acc.length vc) acc rfl HO1.o t ⟨wr.heap.size,0,none⟩ 1 rfl (ik _ _ _) (by have:=HALN.o;omega) HL1.o ?_;intro v9 w9 r1 r2;rw[show (acc++[t]).length=acc.length+1 from by simp] at r1;have R1:=aa r1;have R2:=aa r2;obtain⟨va9,vc9,hv9⟩:=a7 r1;subst hv9;clear r1 r2);have HGE:Ic (∀g,(Value.slice va acc.length vc).ownBlock=some g->w.heap.size<=g):=λg hg=>(Hd HH.o.own g hg).1;have HS9:=aa (DX HS1.o HLC.o R2.o HGE.o HSL.o HRL.o);have HX9:Ic (Bx w.heap.size w9 tb t):=World.ownsRow.kept HX1.o R2.o (Or.inr λe=>HH.o.ne tb e.symm rfl);have HB9:Ic (Below B w w9):=HB1.o.grown R2.o (Hk hB HL1.o) λk hk=>Hk hB (HGE.o k hk);have HL9:Ic (w.heap.size<=w9.heap.size):=Hk HL1.o R2.o.size;obtain⟨x0,x1,x2,x3,x4,x5,x6⟩:=HX9.o.at;simp only[Hy] at x0 x1 x2 x3 x4 x5 x6;clear y0 y1 y2 y3 y4 y5 y6 HO1 HS1 HX1 HB1 HL1 HBX;obtain⟨w10,hw10⟩:∃w10,w10=w9.alloc (.cells #[.int .i64 t.k,.int .u16 t.a,.int .u16 t.b,.int .u16 t.d,.int .u16 t.z,.int .u8 t.pl,.int .u8 t.c] 144):=⟨_,rfl⟩;have H10:Ic (Below w9.heap.size w9 w10/\Bx w.heap.size w10 w9.heap.size t):=by show _/\_;rw[hw10];exact⟨af,cS HL9.o t⟩
   have HS10:=aa (HS9.o.next H10.o.1);have HB10:Ic (Below B w w10):=HB9.o.trans (H10.o.1.mono (Hk hB HL9.o));have HL10:Ic (w.heap.size<=w10.heap.size):=Hk HL9.o H10.o.1.size;have HO10:=aa (aH R1.o H10.o.1);have HNE:Ic (∀g,(Value.slice va9 (acc.length+1) vc9).ownBlock=some g->g≠w9.heap.size):=λg hg e=>by have:=(Hd R1.o g hg).2;omega
   have HN10:=aa (qN B w.heap.size sb ob p k0 k1 k2 sv rv us3 rows3 w10 HS10.o HL10.o HLC.o (HOB.o w10 HB10.o) hp (by have:=HLN.o;omega) HRK.o.co HRK.o.dn);unfold aY at HN10;have HFIN:Ic (∀r11 rows11 w11,Nx p rows3 r11 rows11->cK B w.heap.size w10 w11 sb ob rv rows11->lS p B fs w (dO w11 w9.heap.size (bE r11)) sb ob rv (.slice va9 (acc.length+1) vc9) w9.heap.size r11 (acc++[t])/\Bx w.heap.size w11 w9.heap.size t):=λr11 rows11 w11 h1 h2=>by
    have hl9:(acc++[t]).length=acc.length+1:=by simp
    refine⟨lS.of_next hp.1 HDN.o HCO.o hB HRL.o HSL.o HB10.o HL10.o (by rw[hl9];exact HO10.o) H10.o.2 HNE.o HRK.o HLN.o HSO.o h1 h2,oG H10.o.2 h2.frm λe=>?_⟩;have h3:=HRL.o _ e;have:=HL9.o;omega
   go_upto_region 4 with fail;rw[<-hw10];clear hw10 x0 x1 x2 x3 x4 x5 x6;go_wp2_with (go_at_call 164;refine HN10.o.mono ?_;rintro e w11 ⟨r11,rfl,rows11,q1,q2⟩;have HF11:=aa (HFIN.o r11 rows11 w11 q1 q2);clear q1 q2;obtain⟨y0,y1,y2,y3,y4,y5,y6⟩:=HF11.o.2.at;have z0:=Hb HF11.o.2 0;have z1:=Hb HF11.o.2 1;have z2:=Hb HF11.o.2 2;have z3:=Hb HF11.o.2 3;have z4:=Hb HF11.o.2 4;have z5:=Hb HF11.o.2 5;have z6:=Hb HF11.o.2 6;simp only[Hy] at y0 y1 y2 y3 y4 y5 y6);have HF12:=aa HF11.o.1;unfold dO at HF12;go_roundw;case rel=>exact⟨_,w9.heap.size,r11,acc++[t],rfl,rfl,rfl,HF12.o⟩
   case measure=>simp only[wM];have:=HALN.o;omega
theorem DZ(ob:Nat)(w:World):Calls prog 116 #[.pointer (some ⟨ob,0,none⟩),.slice none 0 0] w λe w'=>e=.returned (.pointer (some ⟨w.heap.size,0,none⟩))/\aW w.heap.size w' w.heap.size ob (.slice none 0 0) [] []/\Below w.heap.size w w':=by
 obtain⟨w1,hw1⟩:∃w1,w1=w.alloc (.cells #[.pointer (some ⟨ob,0,none⟩),.slice none 0 0] 208):=⟨_,rfl⟩;have HB1:Ic (Below w.heap.size w w1):=by rw[hw1];exact af
 have HS1:Ic (aW w.heap.size w1 w.heap.size ob (.slice none 0 0) [] []):=by rw[hw1];exact qV w ob _ (He _)
 go_enter func116,ntmps116;go_wp2_with fail;rw[<-hw1];clear hw1;refine wp_loop_rounds 1 ?_;rw[rounds_succ];go_wp2;go_ret;exact⟨rfl,HS1.o,HB1.o⟩
theorem uG(ob:Nat)(p k0 k1 k2:Int)(sv wv rv:Value)(bt:Ft)(fs gs:List Ft)(w:World)(hob:aQ w ob p k0 k1 k2 sv)(hp:2<=p/\p<=101)(h0:0<=k0/\k0<=137438953472)(h1:0<=k1/\k1<=137438953472)(h2:0<=k2/\k2<=137438953472)(hbt:bt.pl=0)(hbo:eH p bt)(hf:∀u∈fs,eH p u)(hl:fs.length<=1000)(hw:Fv w wv [bt])(hr:oF w rv fs)(hg:fs.map (bh p (bt.a*k0+bt.b*k1+bt.d*k2) bt)=gs)(hd:Dn gs)(hc:∀t∈gs,0<t.c/\t.c<p):Calls prog 176 #[.pointer (some ⟨ob,0,none⟩),wv,rv] w λe w'=>∃u,e=.returned u/\w'.ownsRow w.heap.size 144 7 u gs.length (aD gs)/\Below w.heap.size w w':=by
 have HNS:=aa (DZ ob w);obtain⟨rb,roff,rc,ru,rfl,r0,hru⟩:=hr;have hfv:=hw;obtain⟨wa,wc,rfl,_,hwc⟩:=hw;obtain⟨wb,woff,rfl,hwlt,_⟩:=hwc (by simp);obtain⟨b2,off2,e2,hlt2,_,hft⟩:=hfv.at 0 (by simp);simp only[H6,Addr.mk.injEq,and_true] at e2;obtain⟨rfl,rfl⟩:=e2;have e0:[bt].getD 0 dC=bt:=rfl;rw[e0] at hft;have HFT:Ic (∀W,Below w.heap.size w W->cC W wb (woff+0*7) bt):=λW hb=>hft.keep hb;have HRU:=aa r0;have HSC:Ic (∀W,Below w.heap.size w W->Calls prog 117 #[.pointer (some ⟨ob,0,none⟩),aY bt,ru] W λe w'=>∃u,e=.returned u/\Fv w' u gs/\Below W.heap.size W w'):=λW hb=>by have h:=mU ob p k0 k1 k2 sv ru bt fs W (hob.below hb) hp h0 h1 h2 hbo hf (by omega) (hru.below hb);rw[hg] at h;exact h
 have hrk:aO p (cd gs) [gs]:=⟨λr hr=>by simp at hr;subst hr;exact hd,λr hr=>by simp at hr;subst hr;exact hc,λr hr t ht=>by simp at hr;subst hr;exact⟨t,ht,rfl,rfl,rfl,rfl,rfl,rfl⟩⟩;have hgl:gs.length=fs.length:=by rw[<-hg];simp
 have hob2:=hob.lt;have hMl:∀r,Dn r->(∀t∈r,cd gs t)->r.length<=100000000000:=λr hdr hgr=>by
  have hsub:(r.map Ft.k).Nodup:=by rw[List.nodup_iff_pairwise_ne,List.pairwise_map];exact hdr.imp λh e=>by omega
  have:(r.map Ft.k)⊆gs.map Ft.k:=λk hk=>by obtain⟨u,hu,rfl⟩:=H8.1 hk;obtain⟨v,hv,ha⟩:=hgr u hu;exact H8.2 ⟨v,hv,ha.1.symm⟩
  have h:=hsub.length_le_of_subset this;simp at h;omega
 have HAD:Ic (∀W u,aW w.heap.size W w.heap.size ob (.slice none 0 0) [] []->Below w.heap.size w W->Fv W u gs->Calls prog 166 #[.pointer (some ⟨w.heap.size,0,none⟩),u] W λe w'=>e=.returned (.tuple #[])/\∃rv' us' rows',dp p (cd gs) w.heap.size w' w.heap.size ob rv' us' rows' (λk=>aw k gs)/\Below w.heap.size w w'):=λW u hs hb hu=>by
  refine(mV w.heap.size w.heap.size ob p k0 k1 k2 (cd gs) sv (.slice none 0 0) u [] [] gs W hs hb.size (hob.below hb) (by omega) hp (by simp) hu ⟨λr hr=>by simp at hr,λr hr=>by simp at hr,λr hr=>by simp at hr⟩ hrk cd.alk hMl).mono ?_;rintro e w' ⟨rfl,rv',us',rows',q1,q2,q3,q4,q5,_⟩;refine⟨rfl,rv',us',rows',⟨q1,q2,q3,λk=>by have:=q4 k;simpa [aw] using this⟩,hb.trans (q5.to_below hb.size λx hx=>?_)⟩;rcases hx with hx|hx
  ·exact Nat.le_of_eq hx.symm
  ·simp[Value.ownBlock] at hx
 have HAL:Ic (∀W rv' us' rows',dp p (cd gs) w.heap.size W w.heap.size ob rv' us' rows' (λk=>aw k gs)->Below w.heap.size w W->Calls prog 209 #[.pointer (some ⟨w.heap.size,0,none⟩)] W λe w'=>∃u,e=.returned u/\w'.ownsRow W.heap.size 144 7 u gs.length (aD gs)/\Below w.heap.size W w'):=λW rv' us' rows' h hb=>DY w.heap.size w.heap.size ob p k0 k1 k2 sv rv' us' rows' gs W h.sum hb.size (hob.below hb) hob2 hp h.len h.ok hd hc h.cn (by omega);obtain⟨rua,ruc,rfl,_,_⟩:=hru;have hwl:=Hr w _ r0;unfold aY at HSC;clear hob hbo hf hg hd hc hrk hgl hMl hfv hwc hft r0;go_enter func176,ntmps176;go_wp2_with (go_at_call 116;refine HNS.o.mono ?_;rintro e w1 ⟨rfl,q1,q2⟩;have HS1:=aa q1;have HB1:=aa q2;clear q1 q2);go_loopw [14] (λi wr=>(i=.int .i64 0/\wr=w1)\/(i=.int .i64 1/\∃rv' us' rows',dp p (cd gs) w.heap.size wr w.heap.size ob rv' us' rows' (λk=>aw k gs)/\Below w.heap.size w wr)) (λi _=>1-(intOf i).toNat);case atStart=>exact Or.inl ⟨rfl,rfl⟩
 case round=>
  rcases hrel with ⟨rfl,rfl⟩|⟨rfl,rv',us',rows',hsm,hb⟩
  ·obtain⟨f0,f1,f2,f3,f4,f5,f6⟩:=HFT.o wr HB1.o;rw[hbt] at f5;simp only[Nat.zero_mul,Nat.add_zero] at f0 f1 f2 f3 f4 f5 f6;have z0:=ae HRU.o HB1.o;go_upto_region 5 with fail;obtain⟨w2,hw2⟩:∃w2,w2=wr.alloc (.cells #[.int .i64 bt.k,.int .u16 bt.a,.int .u16 bt.b,.int .u16 bt.d,.int .u16 bt.z,.int .u8 0,.int .u8 bt.c] 144):=⟨_,rfl⟩;have HB2:Ic (Below wr.heap.size wr w2):=by rw[hw2];exact af
   have FX:Ic (cC w2 wr.heap.size 0 {bt with pl:=0}):=by rw[hw2];exact(show Bx wr.heap.size _ wr.heap.size {bt with pl:=0} from cS (He _) {bt with pl:=0}).at
   obtain⟨x0,x1,x2,x3,x4,x5,x6⟩:=FX.o;simp only[Hy] at x0 x1 x2 x3 x4 x5 x6;have y0:=ae z0 HB2.o;have HB02:Ic (Below w.heap.size w w2):=HB1.o.trans (HB2.o.mono HB1.o.size);have HS2:=aa (HS1.o.next HB2.o);rw[hbt] at HSC;rw[<-hw2];clear hw2 f0 f1 f2 f3 f4 f5 f6 z0;go_region_law (first|(go_simp;refine(HSC.o _ HB02.o.drew).mono ?_;rintro e w8 ⟨u8,rfl,q1,q2⟩;have HF8:=aa q1;have HB8:=aa (HB02.o.trans (((Hf w2.heap.size w2).drew.trans q2).mono HB02.o.size));have HS8:=aa (HS2.o.next ((Hf w2.heap.size w2).drew.trans q2));clear q1 q2;dsimp only)|(go_simp;refine(HAD.o _ _ HS8.o HB8.o HF8.o).mono ?_;rintro e w9 ⟨rfl,rv9,us9,rows9,q1,q2⟩;have HS9:=aa q1;have HB9:=aa q2;clear q1 q2;dsimp only));all_goals
    go_wp2;go_roundw;case rel=>exact Or.inr ⟨by go_num,rv9,us9,rows9,HS9.o,HB9.o⟩
    case measure=>simp[intOf]
  ·have HSM:=aa hsm;have HB:=aa hb;clear hsm hb;go_wp2_with (go_at_call 209;refine(HAL.o _ _ _ _ HSM.o HB.o).mono ?_;rintro e w9 ⟨u9,rfl,q1,q2⟩;have HO9:=aa q1;have HB9:=aa (HB.o.trans q2);obtain⟨ua9,uc9,hu9⟩:=a7 q1;subst hu9;clear q1 q2);go_ret;exact⟨_,rfl,tP HO9.o HB.o.size,HB9.o⟩
theorem D2(mb:Nat)(pa:Option Addr)(pc:Nat)(d:Int)(w:World)(hc:w.cell? ⟨mb,3,none⟩=some (.slice pa 0 pc)):Calls prog 188 #[.pointer (some ⟨mb,0,none⟩),.int .i64 d] w λe w'=>e=.returned (.tuple #[.agg #[.pointer none,.pointer none,.int .u16 0,.int .u16 0,.int .u16 0,.int .u16 0,.int .i64 0,.int .i64 0],.bool false])/\Below w.heap.size w w':=by have hlt:=Hr w _ hc;simp only at hlt;go_enter func188,ntmps188;go_wp2;refine Hn (v:=.tuple #[.agg #[.pointer none,.pointer none,.int .u16 0,.int .u16 0,.int .u16 0,.int .u16 0,.int .i64 0,.int .i64 0],.bool false]) (by simp[results,Tryz.results188,go_sem]) rfl ⟨rfl,?_⟩;exact af
theorem Bh(mb:Nat)(pa:Option Addr)(pc:Nat)(d:Int)(w:World)(hc:w.cell? ⟨mb,3,none⟩=some (.slice pa 0 pc))(hk:w.cell? ⟨mb,4,none⟩=some (.pointer none)):Calls prog 134 #[.pointer (some ⟨mb,0,none⟩),.int .i64 d] w λe w'=>e=.returned (.tuple #[])/\Below w.heap.size w w':=by have HTP:Ic (∀W,Below w.heap.size w W->Calls prog 188 #[.pointer (some ⟨mb,0,none⟩),.int .i64 d] W λe w'=>e=.returned (.tuple #[.agg #[.pointer none,.pointer none,.int .u16 0,.int .u16 0,.int .u16 0,.int .u16 0,.int .i64 0,.int .i64 0],.bool false])/\Below W.heap.size W w'):=λW hb=>D2 mb pa pc d W (ae hc hb);have HSP:=aa qH;clear hc;go_enter func134,ntmps134;go_wp2_with fail;refine wp_loop_rounds 1 ?_;rw[rounds_succ];go_wp2_with (first|(go_at_call 168;refine(HSP.o _).mono ?_;rintro e w1 ⟨rfl,n1,rfl⟩;have HB1:=aa (below_drewN (Hf w.heap.size w) n1))|(go_at_call 188;refine(HTP.o _ HB1.o).mono ?_;rintro e w2 ⟨rfl,q1⟩;have HB2:=aa (HB1.o.trans (q1.mono HB1.o.size));clear q1));refine Hn (Ho rfl _ _ _) rfl ?_;exact⟨rfl,HB2.o.alloc HB2.o.size _⟩
end Go.Proofs.YtglijodcbdcngaaGreat
