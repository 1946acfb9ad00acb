/- A vector, made flat, lies in a row of its own. -/
import Derived.Test.YtglijodcbdcngaaGreatZH
import Derived.Test.YtglijodcbdcngaaGreatKV
import Derived.Test.YtglijodcbdcngaaGreatWE
import Derived.Test.YtglijodcbdcngaaGreatZN
import Derived.Deep.RegionLaw
set_option maxHeartbeats 4000000
set_option maxRecDepth 100000
namespace Go.Proofs.YtglijodcbdcngaaGreat
set_option linter.unusedSimpArgs false
set_option linter.unusedVariables false
open Go.Proofs.Tryz Go.RowKit Go.Sort
theorem AS[Inhabited Ft]{w:World}{B g cap n:Nat}{fs:List Ft}{d:Array Ft}{os:Array Obj}(h:w.ownsRow B 144 7 (.slice (some ⟨g,0,none⟩) fs.length cap) fs.length (aD fs))(hd:d.size=fs.length):(sortWorldK aA 7 w g 0 n d os).ownsRow B 144 7 (.slice (some ⟨g,0,none⟩) fs.length cap) fs.length (aD d.toList):=by
 have hl:(aD d.toList).length=fs.length*7:=by rw[eG];simp[hd]
 refine⟨hl,?_⟩;rcases h.2 with ⟨h1,_⟩|⟨g2,cap2,ai,h1,hb,hg,hnc,hmx,hcs,htake⟩
 ·simp at h1
 ·simp only[H7,H6,Addr.mk.injEq,and_true,true_and] at h1;obtain⟨rfl,rfl⟩:=h1;have hlt:g<w.heap.size:=by apply Ib;intro hle;rw[Array.getElem?_eq_none hle] at hg;simp at hg
  refine .inr ⟨g,cap,putCells id 0 (flatK aA 7 d) ai,rfl,hb,?_,hnc,hmx,by simp[putCells,hcs],?_⟩
  ·unfold sortWorldK putRowK;rw[heap_grow_old _ _ (by simpa [putRow,mapBlock,Sort.ahead] using hlt)];simp[putRow,mapBlock,Sort.ahead,Array.getElem?_modify,hg,onCells]
  ·apply List.ext_getElem?;intro j;by_cases hj:j<fs.length*7
   ·rw[List.getElem?_take_of_lt hj,nT d.toList j (by simpa [hd] using hj)];have hjc:j<ai.size:=by rw[hcs];have:=Nat.mul_le_mul_right 7 hnc;omega
    simp[putCells,hjc,hd,hj];have h7:=get_flatK aA 7 d j (by rw[hd];exact hj);rw[getElem!_pos _ j (by simpa [hd] using hj)] at h7;rw[h7];simp
   ·rw[Hu (by rw[List.length_take];omega),Hu (by omega)]
theorem AT(B g cap:Nat)(fs:List Ft)(w:World)(hown:w.ownsRow B 144 7 (.slice (some ⟨g,0,none⟩) fs.length cap) fs.length (aD fs))(hc:fs.length<=cap)(hsz:fs.length<4611686018427387904)(hB:B<=w.heap.size):Calls prog 99 #[.slice (some ⟨g,0,none⟩) fs.length cap] w λe w'=>e=.returned (.tuple #[])/\∃fs':List Ft,fs'.Perm fs/\kC fs'/\Fv w' (.slice (some ⟨g,0,none⟩) fs.length cap) fs'/\Below B w w'/\w'.ownsRow B 144 7 (.slice (some ⟨g,0,none⟩) fs.length cap) fs.length (aD fs'):=by
 have inh:Inhabited Ft:=⟨⟨0,0,0,0,0,0,0⟩⟩;have hlt:=Hd hown g rfl;have hH:=tV hown;have HC:=aa (tW g cap fs w hH hlt.2 hsz);have HH:=aa hH;have HLT:=aa hlt;have HOWN:=aa hown;clear hH hown hlt;go_enter func99,ntmps99;go_wp2_with (go_at_call 142;refine HC.o.mono ?_;rintro e w' ⟨rfl,d',n,os,hp,hs,hw⟩;have HR:=aa (Hg hp (Hg hs hw));clear hp hs hw);go_end0;obtain⟨hp,hs,hw⟩:=HR.o;have hds:d'.size=fs.length:=by simpa using hp.1
 have e1:d'.toList.length=fs.length:=by simpa using hds
 refine⟨rfl,d'.toList,?_,?_,?_,?_,?_⟩
 ·have h:=hp.2.2;rw[show fs.toArray.extract 0 fs.length=fs.toArray from by simp,show d'.extract 0 fs.length=d' from by rw[<-hds];simp] at h;simpa using h
 ·unfold kC;rw[List.pairwise_iff_getElem];intro i j hi hj hij;have h:=hs i j (Hl _) hij (by omega);rw[mH,getElem!_pos _ j (by simpa using hj),getElem!_pos _ i (by simpa using hi)] at h;simp only[decide_eq_false_iff_not] at h;simp only[Array.getElem_toList];omega
 ·have h:=holdsK_sortWorldK aA 7 w g 0 n fs.toArray d' os HLT.o.2 HH.o (by simpa using hds);rw[<-hw] at h;have hg:=nU (w:=w) (g:=g) (n:=n) (os:=os) d';rw[<-hw] at hg;have k:=tX (cap:=cap) (fs:=d'.toList) (by simpa using h) (Hj HLT.o.2 hg.size) (by omega);rw[e1] at k;exact k
 ·have hg:=nU (w:=w) (g:=g) (n:=n) (os:=os) d';rw[<-hw] at hg;exact ck hg HLT.o.1 hB
 ·rw[hw];exact AS HOWN.o hds
theorem AU(ob:Nat)(p k0 k1 k2:Int)(sv x:Value)(ss:List Int)(fss:List (List Tm))(N:Nat)(w:World)(hob:aQ w ob p k0 k1 k2 sv)(hs:Sl w sv ss)(hl:fss.length<=ss.length)(hl2:fss.length<=255)(hss:∀s∈ss,-600000000000000000<=s/\s<=600000000000000000)(h0:0<=k0/\k0<=137438953472)(h1:0<=k1/\k1<=137438953472)(h2:0<=k2/\k2<=137438953472)(hN0:0<N)(hN3:N<=3)(hf:∀f∈fss,f.length<=2000/\∀t∈f,t.2.length=N/\(∀x∈t.2,0<=x/\x<=30000)/\0<=t.1/\t.1<=255)(pf:Vl w x fss):Calls prog 59 #[.pointer (some ⟨ob,0,none⟩),.int .i64 0,x] w λe w'=>∃u fs,e=.returned u/\Fv w' u fs/\fs.Perm (cR k0 k1 k2 ss fss fss.length)/\kC fs/\Below w.heap.size w w'/\w'.ownsRow w.heap.size 144 7 u fs.length (aD fs):=by
 have HX:=aa pf;have HF:=aa hf;have HOB:=aa hob;have HS:=aa hs;have HSS:=aa hss;have HK:=aa (Hg h0 (Hg h1 h2));obtain⟨ax,cx,rfl,_⟩:=pf;clear hf hob hs hss h0 h1 h2;obtain⟨i0,hi,hz0,hz1,hz2⟩:=info_parts Tryz.infoFt;have HI:=aa (Hg hi (Hg hz0 (Hg hz1 hz2)));clear hi hz0 hz1 hz2;have HLEN:Ic (∀i,i<=fss.length->(cR k0 k1 k2 ss fss i).length<=i*2000):=λi=>by
  induction i with
  |zero=>intro _;simp[cR]
  |succ i ih=>intro hi;have h1:=ih (by omega);have h2:=(HF.o _ (cG fss i (by omega))).1;simp only[cR,Hx,Ia];omega
 go_enter func59,ntmps59;go_wp2_with fail;go_loopw [7,14] (λz i wr=>∃k:Nat,k<=fss.length/\i=.int .i64 k/\wr.ownsRow w.heap.size 144 7 z (cR k0 k1 k2 ss fss k).length (aD (cR k0 k1 k2 ss fss k))/\Below w.heap.size w wr) (λ_ i _=>fss.length-(intOf i).toNat);case atStart=>exact⟨0,Hl _,rfl,World.ownsRow_nil _ _ _ _,Hf _ _⟩
 case round=>
  obtain⟨k,hk,rfl,hown,hbr⟩:=hrel;have HO:=aa hown;have HB:=aa hbr;have HL:=aa (HLEN.o k hk);have HST:Ic (cR k0 k1 k2 ss fss (k+1)=cR k0 k1 k2 ss fss k++(fss.getD k []).map (cr (ss.getD k 0) k0 k1 k2 k)):=rfl;clear hown hbr;by_cases hk2:k<fss.length
  ·generalize cR k0 k1 k2 ss fss k=done at HO HL HST;obtain⟨b,off,fa,fc,rfl,hlt,c0,hpf⟩:=ez HX.o k hk2;have HFK:=aa (HF.o _ (cG fss k hk2));generalize fss.getD k []=f at c0 hpf HFK HST;have HPF:=aa hpf;have d0:=ae c0 HB.o;have hfl:f.length<=2000:=HFK.o.1;obtain⟨za,zc,hz⟩:=a7 HO.o;subst hz;clear c0 hpf;have hk3:k<ss.length:=by omega
   have hk4:k<=255:=by omega
   have hdl:done.length<=600000:=by have h5:=HL.o;omega
   go_wp2;clear d0;go_loopw [7,21] (λz i wm=>∃m:Nat,m<=f.length/\i=.int .i64 m/\wm.ownsRow w.heap.size 144 7 z (done++(f.take m).map (cr (ss.getD k 0) k0 k1 k2 k)).length (aD (done++(f.take m).map (cr (ss.getD k 0) k0 k1 k2 k)))/\Below w.heap.size w wm) (λ_ i _=>f.length-(intOf i).toNat);case atStart=>exact⟨0,Hl _,rfl,by simpa using HO.o,HB.o⟩
   case round=>
    clear HO HB;obtain⟨wo,hwo⟩:∃wo:World,wo=wr:=⟨_,rfl⟩;subst hwo;obtain⟨m,hm,rfl,hown,hbr⟩:=hrel;have HO:=aa hown;have HB:=aa hbr;clear hown hbr;by_cases hm2:m<f.length
    ·obtain⟨fa2,fc2,hfv,_,hat0⟩:=HPF.o;obtain⟨b2,off2,hfa,hlt2,hat⟩:=hat0 (by omega);simp only[H7,true_and] at hfv;obtain⟨e1,e2⟩:=hfv;subst e1;subst e2;subst hfa;obtain⟨t0,ev,t1,hse⟩:=hat m hm2;have HTK:Ic (f.take (m+1)=f.take m++[f.getD m aM]):=by show _=_;rw[List.take_succ_eq_append_getElem hm2];simp[Hs,hm2]
     have HTO:=aa (HFK.o.2 _ (eA f m hm2));generalize f.getD m aM=t at t0 hse HTK HTO;obtain⟨tc,te⟩:=t;have HSE:=aa hse;obtain⟨ea,ec,rfl,_⟩:=hse;simp only at t0 t1;have q0:=ae t0 HB.o;have q1:=ae t1 HB.o;have hdm:Ic ((done++(f.take m).map (cr (ss.getD k 0) k0 k1 k2 k)).length<=1000000000000):=by show _<=_;rw[Hx,Ia,List.length_take];omega
     have HTM:=aa (fun(W:World)(hb:Below w.heap.size w W)=>tY ob k p k0 k1 k2 sv (.slice ea te.length ec) ss te tc W (HOB.o.below hb) (HS.o.below hb) hk3 hk4 HSS.o HK.o.1 HK.o.2.1 HK.o.2.2 ⟨HTO.o.2.2.1,HTO.o.2.2.2⟩ (by have h5:=HTO.o.1;simp only at h5;omega) (by have h5:=HTO.o.1;simp only at h5;omega) HTO.o.2.1 (HSE.o.below hb));have HNX:Ic (done++(f.take (m+1)).map (cr (ss.getD k 0) k0 k1 k2 k)=done++(f.take m).map (cr (ss.getD k 0) k0 k1 k2 k)++[cr (ss.getD k 0) k0 k1 k2 k (tc,te)]):=by show _=_;rw[HTK.o,List.map_append,List.append_assoc];rfl
     generalize cr (ss.getD k 0) k0 k1 k2 k (tc,te)=ft at HTM HNX;generalize done++(f.take m).map (cr (ss.getD k 0) k0 k1 k2 k)=dm at HO HNX hdm;unfold aY at HTM;obtain⟨ya,yc,hy⟩:=a7 HO.o;subst hy;clear hat0 hat t0 t1;have HBA:Ic (Below w.heap.size w (wo.alloc (.cells #[.int .i64 tc,.slice ea te.length ec] 54))):=HB.o.alloc HB.o.size _;go_wp2_with (first|(go_at_call 98;refine(HTM.o _ HBA.o).mono ?_;rintro e w8 ⟨rfl,hb8⟩;have HB8:=aa (HBA.o.trans (hb8.mono HBA.o.size));have HO8:=aa (aH HO.o (af.trans (hb8.mono (by simp))));have HO9:=aa (HO8.o.alloc (.cells #[.int .i64 ft.k,.int .u16 ft.a,.int .u16 ft.b,.int .u16 ft.d,.int .u16 ft.z,.int .u8 ft.pl,.int .u8 ft.c] 144));clear hb8)|(at_builtin;refine mI rfl (.tmp 25) (.tmp 32) 93 rfl w.heap.size 144 i0 _ underlying93 HI.o.1 HI.o.2.1 HI.o.2.2.1 HI.o.2.2.2 rfl (.slice ya dm.length yc) dm rfl HO9.o ft ⟨w8.heap.size,0,none⟩ 1 rfl (ik _ _ _) hdm.o (Hk HB8.o.size (by simp)) ?_;intro v9 w9 r1 r2;have R1:=aa r1;have R2:=aa (show Below w.heap.size w w9 from bU HO9.o (HB8.o.alloc HB8.o.size _) r2 (He _));obtain⟨va9,vc9,hv9⟩:=a7 r1;subst hv9;clear r1 r2));go_roundw;case rel=>exact⟨m+1,by omega,by go_num,by rw[HNX.o];have h:=R1.o;rwa [show (dm++[ft]).length=dm.length+1 from by simp] at h⊢,R2.o⟩
     case measure=>simp[intOf];omega
    ·have e:m=f.length:=by omega
     subst e;have HO2:=aa HO.o;rw[Hz (He _),<-HST.o] at HO2;go_wp2;go_roundw;case rel=>exact⟨k+1,by omega,by go_num,HO2.o,HB.o⟩
     case measure=>simp[intOf];omega
  ·have e:k=fss.length:=by omega
   subst e;have hdl:(cR k0 k1 k2 ss fss fss.length).length<4611686018427387904:=by have h5:=HL.o;omega
   have HOQ:=aa HO.o;have hc:=HO.o.2;generalize hAL:cR k0 k1 k2 ss fss fss.length=al at HO HOQ HL hdl hc;have HAL:=aa hAL;clear hAL;rcases hc with ⟨hz,hn⟩|⟨g,cap,ai,hz,hg,hh,hn,hmx,hcs,ht⟩
   ·subst hz;have hal:al=[]:=List.length_eq_zero_iff.1 hn;subst hal;have HSN:=aa (fun(W:World)=>tZ W);go_wp2_with (go_at_call 99;refine(HSN.o _).mono ?_;rintro e w8 ⟨rfl,rfl⟩);go_ret;exact⟨_,[],rfl,kD _ _,(by rw[HAL.o]),List.Pairwise.nil,HB.o,World.ownsRow_nil _ _ _ _⟩
   ·subst hz;have HGE:=aa hg;have HSO:=aa (AT w.heap.size g cap al wr HOQ.o hn hdl HB.o.size);clear hh hcs ht;go_wp2_with (go_at_call 99;refine HSO.o.mono ?_;rintro e w8 ⟨rfl,fs',h1,h2,h3,h4,h5⟩;have HR:=aa (Hg h1 (Hg h2 (Hg h3 (Hg h4 h5))));clear h1 h2 h3 h4 h5);go_ret;refine⟨.slice (some ⟨g,0,none⟩) al.length cap,fs',rfl,HR.o.2.2.1,(by rw[HAL.o];exact HR.o.1),HR.o.2.1,HB.o.trans HR.o.2.2.2.1,by rw[HR.o.1.length_eq];exact HR.o.2.2.2.2⟩
def LV(w:World)(lv:Value)(f:List Tm):Prop:=∃lb vb pv,lv=.slice (some ⟨lb,0,none⟩) 1 1/\w.cell? ⟨lb,0,none⟩=some (.slice (some ⟨vb,0,none⟩) 1 1)/\w.cell? ⟨vb,0,none⟩=some pv/\Pl w pv f
theorem LV.below{w w':World}{lv:Value}{f:List Tm}(h:LV w lv f)(hb:Below w.heap.size w w'):LV w' lv f:=by obtain⟨lb,vb,pv,h1,h2,h3,h4⟩:=h;exact⟨lb,vb,pv,h1,ae h2 hb,ae h3 hb,h4.below hb⟩
theorem t7{w:World}{b off c:Nat}{pv:Value}{f:List Tm}(h:w.cell? ⟨b,off,none⟩=some pv)(hp:Pl w pv f):Vl w (.slice (some ⟨b,off,none⟩) 1 c) [f]:=by
 refine⟨_,c,rfl,λ_=>⟨b,off,rfl,Hr w _ h,λi hi=>?_⟩⟩;have e0:i=0:=by simp at hi;omega
 subst e0;exact⟨pv,h,hp⟩
theorem LV.wl{w:World}{lv:Value}{f:List Tm}(h:LV w lv f):Wl w lv [[f]]:=by
 obtain⟨lb,vb,pv,rfl,h2,h3,h4⟩:=h;refine⟨_,1,rfl,λ_=>⟨lb,0,rfl,Hr w _ h2,λi hi=>?_⟩⟩;have e0:i=0:=by simp at hi;omega
 subst e0;exact⟨_,h2,t7 h3 h4⟩
theorem t8(ob:Nat)(p k0 k1 k2 s0 s1:Int)(sv lv:Value)(t:Tm)(w:World)(hob:aQ w ob p k0 k1 k2 sv)(hs:Sl w sv [s0,s1])(hss:∀s∈[s0,s1],-600000000000000000<=s/\s<=600000000000000000)(h0:0<=k0/\k0<=137438953472)(h1:0<=k1/\k1<=137438953472)(h2:0<=k2/\k2<=137438953472)(ht:t.2.length=2)(hte:∀x∈t.2,0<=x/\x<=30000)(htc:0<=t.1/\t.1<=255)(hl:LV w lv [t]):Calls prog 173 #[.pointer (some ⟨ob,0,none⟩),lv,.int .i64 0,.int .i64 1] w λe w'=>∃b c u,e=.returned (.slice (some ⟨b,0,none⟩) 1 c)/\w'.cell? ⟨b,0,none⟩=some u/\Fv w' u [cr s0 k0 k1 k2 0 t,fV s1 1]/\Below w.heap.size w w':=by
 obtain⟨lb,vb,pv,rfl,c0,c1,hp⟩:=hl;have HOV:=aa (AU ob p k0 k1 k2 sv (.slice (some ⟨vb,0,none⟩) 1 1) [s0,s1] [[t]] 2 w hob hs (by simp) (by simp) hss h0 h1 h2 (by omega) (by omega) (λf hf=>by simp at hf;subst hf;exact⟨by simp,λu hu=>by simp at hu;subst hu;exact⟨ht,hte,htc⟩⟩) (t7 c1 hp));have HUN:Ic (∀W,Below w.heap.size w W->Calls prog 207 #[.pointer (some ⟨ob,0,none⟩),.int .i64 1] W λe w'=>e=.returned (aY (fV s1 1))/\Below W.heap.size W w'):=λW hb=>qf ob 1 p k0 k1 k2 sv [s0,s1] W (hob.below hb) (hs.below hb) (by simp) (by omega);have HPE:Ic (∀fs:List Ft,fs.Perm (cR k0 k1 k2 [s0,s1] [[t]] [[t]].length)->fs=[cr s0 k0 k1 k2 0 t]):=λfs h=>by have e:cR k0 k1 k2 [s0,s1] [[t]] [[t]].length=[cr s0 k0 k1 k2 0 t]:=rfl;rw[e] at h;exact List.perm_singleton.1 h
 unfold aY at HUN;clear hob hs hss h0 h1 h2 ht hte htc hp;generalize cr s0 k0 k1 k2 0 t=ft at HPE⊢;generalize hun:fV s1 1=un at HUN⊢;clear hun;obtain⟨i0,hi,hz0,hz1,hz2⟩:=info_parts Tryz.infoFt;have HI:=aa (Hg hi (Hg hz0 (Hg hz1 hz2)));clear hi hz0 hz1 hz2;go_enter func173,ntmps173;go_wp2_with fail;go_loopw [9,14] (λz i wr=>(i=.int .i64 0/\z=.slice none 0 0/\wr=w)\/(i=.int .i64 1/\∃b c u,z=.slice (some ⟨b,0,none⟩) 1 c/\wr.cell? ⟨b,0,none⟩=some u/\Fv wr u [ft,un]/\Below w.heap.size w wr)) (λ_ i _=>1-(intOf i).toNat);case atStart=>exact Or.inl ⟨rfl,rfl,rfl⟩
 case round=>
  rcases hrel with ⟨rfl,rfl,rfl⟩|⟨rfl,b,c,u,rfl,hc,hf,hb⟩
  ·go_wp2_with (first|(go_at_call 59;refine HOV.o.mono ?_;rintro e w2 ⟨u2,fs2,rfl,q1,q2,q3,q4,q5⟩;have hfs:=HPE.o fs2 q2;subst hfs;have HB2:=aa q4;have HO2:=aa q5;obtain⟨ua,uc,hu2⟩:=a7 q5;subst hu2;clear q1 q2 q3 q4 q5)|(go_at_call 207;refine(HUN.o _ HB2.o).mono ?_;rintro e w3 ⟨rfl,q1⟩;have HB3:=aa (HB2.o.trans (q1.mono HB2.o.size));have HO3:=aa (aH HO2.o q1);have HO4:=aa (HO3.o.alloc (.cells #[.int .i64 un.k,.int .u16 un.a,.int .u16 un.b,.int .u16 un.d,.int .u16 un.z,.int .u8 un.pl,.int .u8 un.c] 144));have HB4:=aa (HB3.o.alloc HB3.o.size (.cells #[.int .i64 un.k,.int .u16 un.a,.int .u16 un.b,.int .u16 un.d,.int .u16 un.z,.int .u8 un.pl,.int .u8 un.c] 144));clear q1)|(at_builtin;refine mI rfl (.tmp 25) (.tmp 33) 93 rfl wr.heap.size 144 i0 _ underlying93 HI.o.1 HI.o.2.1 HI.o.2.2.1 HI.o.2.2.2 rfl _ [ft] rfl HO4.o un ⟨w3.heap.size,0,none⟩ 1 rfl (ik _ _ _) (by simp) HB4.o.size ?_;intro v9 w9 r1 r2;have HB9:=aa (bU HO4.o HB4.o r2 (He _));have HF9:=aa (fH r1);obtain⟨va9,vc9,hv9⟩:=a7 r1;subst hv9;clear r1 r2)|(at_builtin;refine jR rfl (.tmp 19) (.tmp 35) 171 rfl 93 _ 24 underlying171 Tryz.infoFvL rfl (by decide) rfl ⟨w9.heap.size,0,none⟩ 1 _ rfl (by simp[go_sem];rfl) rfl ?_;intro b c w10 q1 q2 q3 q4;have HC10:=aa q2;have HF10:=aa ((HF9.o.below af).below q4);have HB10:=aa (HB9.o.trans ((af.trans (q4.mono (by simp))).mono HB9.o.size));clear q1 q2 q3 q4));go_roundw;case rel=>exact Or.inr ⟨by go_num,b,c,_,rfl,HC10.o,HF10.o,HB10.o⟩
   case measure=>simp[intOf]
  ·have HF:=aa hf;have HB:=aa hb;have HC:=aa hc;clear hf hb hc;go_wp2;go_ret;exact⟨b,c,u,rfl,HC.o,HF.o,HB.o⟩
theorem t9:(madeCells #[.int .i64 0] 1)=#[.int .i64 0]:=by kernel_rfl
theorem AV(lv:Value)(c:Int)(w:World)(hl:LV w lv [(c,[1,0])]):Calls prog 240 #[lv] w λe w'=>e=.returned (.slice (some ⟨w.heap.size,0,none⟩) 1 1)/\w'.cell? ⟨w.heap.size,0,none⟩=some (.int .i64 1)/\Below w.heap.size w w':=by
 have hmk2:∀W:World,(Instr.makeSlice 37 (.int .i64 1) (.int .i64 1)).run prog W=.ok (.slice (some ⟨W.heap.size,0,none⟩) 1 1) (W.alloc (.cells #[.int .i64 0] 3)):=λW=>by have h:=run_make_row' (P:=prog) 37 3 (.int .i64 0) 8 underlying37 Tryz.infoIntB rfl .i64 .i64 1 (by omega) (by omega) W;rw[t9] at h;exact h
 obtain⟨lb,vb,pv,rfl,c0,c1,pa,pc,rfl,_,hp⟩:=hl;obtain⟨pb,poff,rfl,hlt,hat⟩:=hp (by simp);obtain⟨t0,ev,t1,hse⟩:=hat 0 (by simp);have e0:[(c,[(1:Int),0])].getD 0 aM=(c,[1,0]):=rfl;rw[e0] at t0 hse;simp only[Nat.zero_mul,Nat.add_zero] at t0 t1;have HD:Ic (∀W,Below w.heap.size w W->Calls prog 56 #[ev] W λe w'=>e=.returned (.int .i64 1)/\w'=W):=λW hb=>by obtain⟨ea,ec,rfl,hs⟩:=hse.below hb;obtain⟨eb,eoff,rfl,_,hi⟩:=hs (by simp);exact ic [1,0] eb eoff ec W (λx hx=>by simp at hx;rcases hx with rfl|rfl<;>omega) (by simp) hi
 obtain⟨ea,ec,rfl,_⟩:=hse;have hl0:=Hr w _ c0;have hl1:=Hr w _ c1;simp only at hl0 hl1;clear hp hat;go_enter func240,ntmps240;go_wp2;refine wp_loop_rounds 2 ?_;rw[rounds_succ];go_wp2;refine wp_loop_rounds 2 ?_;rw[rounds_succ];go_wp2;refine wp_loop_rounds 2 ?_;rw[rounds_succ];go_wp2;have HB2:Ic (Below w.heap.size w ((w.alloc (.cells #[.int .i64 0] 3)).alloc (.cells #[.int .i64 c,.slice ea 2 ec] 54))):=cW;go_region_law (go_simp;refine(HD.o _ HB2.o.drew).mono ?_;rintro e w8 ⟨rfl,rfl⟩;dsimp only);all_goals
  go_wp2;rw[rounds_succ];go_wp2;rw[rounds_succ];go_wp2;rw[rounds_succ];go_wp2;go_ret;refine⟨rfl,?_,cW.drew⟩;show (World.alloc _ _).cell? _=_;have h:=cell_of_row (w.alloc (.cells #[.int .i64 (max 0 1)] 3)) w.heap.size 0 _ 3 (0,0) (heap_alloc_new w _);exact ae (h.trans (by rfl)) af
end Go.Proofs.YtglijodcbdcngaaGreat
