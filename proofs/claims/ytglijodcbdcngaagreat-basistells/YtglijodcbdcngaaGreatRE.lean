/- CheckOne, CheckPolys of the reference. -/
import Derived.Test.YtglijodcbdcngaaGreatRC
import Derived.Test.YtglijodcbdcngaaGreatFG
import Derived.Test.YtglijodcbdcngaaGreatZF
set_option maxHeartbeats 2000000
set_option maxRecDepth 100000
namespace Go.Proofs.YtglijodcbdcngaaGreat
set_option linter.unusedSimpArgs false
set_option linter.unusedVariables false
open Go.Proofs.Tryz Go.RowKit
def iz(o:Int)(q:Option (List Int))(e:List Int):Bool:=
 match q with
 |some x=>cL o x e
 |none=>true
def iA(p n o:Int):Option (List Int)->List Tm->Int
 |_,[]=>0
 |q,t::ts=>if bW t.1 1 (p-1)=false then 3 else if bL n t.2≠0 then bL n t.2 else if iz o q t.2=false then 4 else iA p n o (some t.2) ts
def g9(ts:List Tm):Nat->Option (List Int)
 |0=>none
 |k+1=>some (ts.getD k aM).2
theorem yw(p n o:Int)(ts:List Tm)(k:Nat)(h:k<ts.length)(q:Option (List Int)):iA p n o q (ts.drop k)=if bW (ts.getD k aM).1 1 (p-1)=false then 3 else if bL n (ts.getD k aM).2≠0 then bL n (ts.getD k aM).2 else if iz o q (ts.getD k aM).2=false then 4 else iA p n o (g9 ts (k+1)) (ts.drop (k+1)):=by
 rw[List.drop_eq_getElem_cons h];have e:ts.getD k aM=ts[k]:=by simp[Hs,h]
 rw[g9,e];rfl
def cz(p n o:Int)(ts:List Tm):Int:=if 2000<ts.length then 2 else iA p n o none ts
theorem yx{p o:Int}{N:Nat}:∀(ts:List Tm) (q:Option (List Int)),iA p N o q ts=0->(∀e,q=some e->e.length=N)->(∀t∈ts,(1<=t.1/\t.1<p)/\bL N t.2=0)/\fw o ts/\(∀e t ts',q=some e->ts=t::ts'->0<aF o e t.2)
 |[],q,_,_=>⟨λt ht=>by simp at ht,trivial,λe t ts' _ h=>by simp at h⟩
 |t::ts,q,h,hq=>by
  have hu:iA p N o q (t::ts)=if bW t.1 1 (p-1)=false then 3 else if bL N t.2≠0 then bL N t.2 else if iz o q t.2=false then 4 else iA p N o (some t.2) ts:=rfl
  rw[hu] at h;clear hu;by_cases h1:bW t.1 1 (p-1)=false
  ·rw[if_pos h1] at h;omega
  rw[if_neg h1] at h;by_cases h2:bL N t.2≠0
  ·rw[if_pos h2] at h;exact absurd h h2
  rw[if_neg h2] at h;by_cases h3:iz o q t.2=false
  ·rw[if_pos h3] at h;omega
  rw[if_neg h3] at h;have h2':bL N t.2=0:=by omega
  have hl:t.2.length=N:=by have:=(iD h2').1;omega
  obtain⟨i1,i2,i3⟩:=yx ts (some t.2) h (λe he=>by simp at he;rw[<-he];exact hl);have hb:1<=t.1/\t.1<p:=by simp[bW] at h1;omega
  refine⟨λu hu=>?_,⟨λu hu=>?_,i2⟩,λe u ts' he hu=>?_⟩
  ·rcases List.mem_cons.1 hu with rfl|hu
   ·exact⟨hb,h2'⟩
   ·exact i1 u hu
  ·cases ts with
   |nil=>simp at hu
   |cons x xs=>
    have hx:=i3 t.2 x xs rfl rfl;rcases List.mem_cons.1 hu with rfl|hu
    ·exact hx
    ·have l1:x.2.length=N:=by have:=(iD (i1 x (by simp)).2).1;omega
     have l2:u.2.length=N:=by have:=(iD (i1 u (by simp[hu])).2).1;omega
     exact jQ o t.2 x.2 u.2 (by omega) (by omega) hx (i2.1 u hu)
  ·rw[he] at h3;simp only[List.cons.injEq] at hu;obtain⟨rfl,_⟩:=hu;simpa [iz,cL] using h3
structure cN(p o:Int)(N:Nat)(ts:List Tm):Prop where
 canon:bk p o N ts
 bd:fR ts
 len:ts.length<=2000
 deg:∀t∈ts,ag t.2<=200
theorem uU{p o:Int}{N:Nat}{ts:List Tm}(h:cz p N o ts=0):cN p o N ts:=by
 unfold cz at h;split at h
 ·omega
 rename_i hl;obtain⟨h1,h2,_⟩:=yx ts none h (λe he=>by simp at he);refine⟨⟨λt ht=>?_,h2,λt ht=>(h1 t ht).1⟩,λt ht x hx=>by have h9:=(iD (h1 t ht).2).2.1 x hx;omega,by omega,λt ht=>(iD (h1 t ht).2).2.2⟩;have:=(iD (h1 t ht).2).1;omega
theorem Fz(ts:List Tm)(k:Nat)(h:k<ts.length):ts.getD k aM∈ts.take (k+1):=by rw[List.take_succ_eq_append_getElem h,Hs,Ht h,Hv];right;simp
theorem yy{k:Nat}(h:0<k)(h2:k<=2000):IntKind.i64.wrap ((k:Int)-1)=(k:Int)-1:=by rw[IntKind.wrap_i64];omega
theorem yA{k n:Nat}(h:0<k)(h2:k<n):(0:Int)<=(k:Int)-1/\(k:Int)-1<(n:Int)/\((k:Int)-1).toNat=k-1/\(1:Int)<=(k:Int)/\(k:Int)<=(n:Int)/\¬(k:Int)<1/\¬(n:Int)<=(k:Int)-1:=⟨by omega,by omega,by omega,by omega,by omega,by omega,by omega⟩
theorem pQ(p o:Int)(N:Nat):cN p o N []:=⟨⟨λt ht=>by simp at ht,trivial,λt ht=>by simp at ht⟩,λt ht=>by simp at ht,by simp,λt ht=>by simp at ht⟩
theorem FA(p n o v:Int)(fv:Value)(ts:List Tm)(w:World)(hp:2<=p/\p<=101)(hn:1<=n/\n<=3)(ho:o=1\/o=2)(pf:Pl w fv ts):Calls prog 68 #[az p n o v,fv] w λe w'=>e=.returned (.int .i64 (cz p n o ts))/\Below w.heap.size w w':=by
 obtain⟨fa,fc,rfl,_,hfc⟩:=pf;have HFC:=aa hfc;have HN:=aa hn;have HO:=aa ho;obtain⟨hp1,hp2⟩:=hp;clear hfc hn ho;obtain⟨w1,hw1⟩:∃w1,w1=w.alloc (.cells #[.int .i64 p,.int .i64 n,.int .i64 o,.int .i64 v] 23):=⟨_,rfl⟩;have hbx:aX w1 w.heap.size p n o v:=by rw[hw1];exact aX.new w p n o v _
 have hbw:Below w.heap.size w w1:=by rw[hw1];exact bp
 have HBX:=aa hbx;have HBW:=aa hbw;clear hbx hbw;by_cases hlen:2000<ts.length
 ·have he:cz p n o ts=2:=by unfold cz;rw[if_pos hlen]
  rw[he];clear he;go_enter func68,ntmps68;go_wp2;go_ret;rw[<-hw1];exact⟨rfl,HBW.o⟩
 ·have he:cz p n o ts=iA p n o none ts:=by unfold cz;rw[if_neg hlen]
  rw[he];clear he;go_enter func68,ntmps68;go_wp2_with fail;rw[<-hw1];clear hw1;go_loopw [5] (λi wr=>∃k:Nat,k<=ts.length/\i=.int .i64 k/\iA p n o none ts=iA p n o (g9 ts k) (ts.drop k)/\(∀t∈ts.take k,bL n t.2=0)/\Below w1.heap.size w1 wr) (λi _=>ts.length-(intOf i).toNat);case atStart=>exact⟨0,Hl _,rfl,rfl,by simp,Hf _ _⟩
  case round=>
   obtain⟨k,hk,rfl,herr,hall,hbr⟩:=hrel;have HBR:=aa hbr;have HALL:=aa hall;clear hall hbr;by_cases hk2:k<ts.length
   ·obtain⟨b,off,rfl,hlt,hat⟩:=HFC.o (by omega);obtain⟨c0,ev,c1,hse⟩:=hat k hk2;have HER:=aa (herr.trans (yw p n o ts k hk2 (g9 ts k)));have HTK:Ic (∀t∈ts.take (k+1),t∈ts.take k\/t=ts.getD k aM):=by
     intro u hu;rw[List.take_succ_eq_append_getElem hk2,Hv,Hw] at hu;rcases hu with hu|hu
     ·exact Or.inl hu
     ·right;rw[hu];simp[Hs,hk2]
    have HDN:=aa (HBW.o.trans (HBR.o.mono HBW.o.size));have HAT:=aa hat;clear herr hat;generalize ts.getD k aM=t at c0 hse HER HTK;obtain⟨tc,te⟩:=t;have HSE0:=aa hse;have HSE:=aa (hse.below HDN.o);obtain⟨ea,ec,rfl,_⟩:=hse;simp only at c0 c1;have bx:=HBX.o;obtain⟨_,bx0,bx1,bx2,bx3⟩:=bx;have KEEP:Ic (∀W,Below w1.heap.size w1 W->(Ic (Below w1.heap.size w1 W)/\W.cell? ⟨w.heap.size,0,none⟩=some (.int .i64 p)/\W.cell? ⟨w.heap.size,1,none⟩=some (.int .i64 n)/\W.cell? ⟨w.heap.size,2,none⟩=some (.int .i64 o)/\W.cell? ⟨w.heap.size,3,none⟩=some (.int .i64 v)/\W.cell? ⟨b,off+k*2,none⟩=some (.int .i64 tc)/\W.cell? ⟨b,off+k*2+1,none⟩=some (.slice ea te.length ec))):=
     λW hb=>⟨hb,ae bx0 hb,ae bx1 hb,ae bx2 hb,ae bx3 hb,ae (ae c0 HBW.o) hb,ae (ae c1 HBW.o) hb⟩
    have K0:=KEEP.o wr HBR.o;obtain⟨_,kp,_,_,_,kc0,kc1⟩:=K0;clear bx0 bx1 bx2 bx3;cases hb1:bW tc 1 (p-1)
    ·go_wp2_with fail;go_quiet ((go_at_call 41;exact Calls.quiet_of_same (fd _ _ _ _)));have HQ1:=aa (below_drewN HBR.o nq);go_wp2;go_ret;exact⟨cm (by rw[HER.o,if_pos hb1]),HBW.o.trans (HQ1.o.mono HBW.o.size)⟩
    ·cases hb2:(bL n te !=0)
     ·have hb20:bL n te=0:=by simpa using hb2
      have HB20:=aa hb20;rcases Nat.eq_zero_or_pos k with rfl|hpos
      ·simp only[Nat.zero_mul,Nat.add_zero] at c0 c1 kc0 kc1 KEEP;go_wp2_with fail;go_quiet ((go_at_call 41;exact Calls.quiet_of_same (fd _ _ _ _)));have HQ1:=aa (below_drewN HBR.o nq);go_wp2_with fail;go_region_held (λW=>Ic (Below w1.heap.size w1 W)/\W.cell? ⟨w.heap.size,0,none⟩=some (.int .i64 p)/\W.cell? ⟨w.heap.size,1,none⟩=some (.int .i64 n)/\W.cell? ⟨w.heap.size,2,none⟩=some (.int .i64 o)/\W.cell? ⟨w.heap.size,3,none⟩=some (.int .i64 v)/\W.cell? ⟨b,off,none⟩=some (.int .i64 tc)/\W.cell? ⟨b,off+1,none⟩=some (.slice ea te.length ec))
        (first|exact KEEP.o _ HQ1.o.drew|exact KEEP.o _ (HQ1.o.drew.trans (hb9.mono HQ1.o.drew.size)))
        (first|(go_at_call 120;refine(oJ p n o v _ te _ HN.o ?_).mono ?_;exact HSE.o.below (below_drewN (Hf _ _) _).drew;rintro e w9 ⟨rfl,hb9⟩))
       have HB9:=aa (show Below w1.heap.size w1 w9 from HQ1.o.drew.trans (hb9.mono HQ1.o.drew.size));clear hb9;try rw[HB20.o]
       go_wp2_with fail;go_quiet (fail);go_wp2;go_roundw;case rel=>exact⟨1,by omega,by go_num,by rw[HER.o,if_neg (by rw[hb1];simp),if_neg (by simpa using HB20.o)];simp[g9,iz],λt ht=>by
        rcases HTK.o t ht with h|h
        ·simp at h
        ·rw[h];exact HB20.o,below_drewN HB9.o _⟩
       case measure=>simp[intOf];omega
      ·have hk3:k-1<ts.length:=by omega
       obtain⟨_,ev2,d1,hse2⟩:=HAT.o (k-1) hk3;have hse2':=hse2;have HPE:Ic (g9 ts k=some (ts.getD (k-1) aM).2):=by obtain⟨m,rfl⟩:∃m,k=m+1:=⟨k-1,by omega⟩;rfl
       have HQE:=aa (HALL.o _ (by have h:=Fz ts (k-1) hk3;rwa [show k-1+1=k from Nat.sub_add_cancel hpos] at h));generalize ts.getD (k-1) aM=q at hse2 hse2' HPE HQE;obtain⟨qc,qe⟩:=q;have HSE2:=aa (hse2.below HDN.o);obtain⟨ea2,ec2,rfl,_⟩:=hse2;simp only at d1 HPE HQE;have hq:=iD HQE.o;have ht:=iD hb20;have HLL:Ic (qe.length=te.length):=by have h1:=hq.1;have h2:=ht.1;show _=_;omega
       have hq0:0<qe.length:=by have h1:=hq.1;have h2:=HN.o;omega
       have hq3:qe.length<=3:=by have h1:=hq.1;have h2:=HN.o;omega
       have HQB:=aa (Hg (show∀x∈qe,0<=x/\x<=40000 from λx hx=>by have:=hq.2.1 x hx;omega) (show∀x∈te,0<=x/\x<=40000 from λx hx=>by have:=ht.2.1 x hx;omega));have HSQ:=aa (Hg (hse2'.below HBW.o) (HSE0.o.below HBW.o));have KEEP2:Ic (∀W,Below w1.heap.size w1 W->(Ic (Below w1.heap.size w1 W)/\W.cell? ⟨w.heap.size,0,none⟩=some (.int .i64 p)/\W.cell? ⟨w.heap.size,1,none⟩=some (.int .i64 n)/\W.cell? ⟨w.heap.size,2,none⟩=some (.int .i64 o)/\W.cell? ⟨w.heap.size,3,none⟩=some (.int .i64 v)/\W.cell? ⟨b,off+k*2,none⟩=some (.int .i64 tc)/\W.cell? ⟨b,off+k*2+1,none⟩=some (.slice ea te.length ec)/\W.cell? ⟨b,off+(k-1)*2+1,none⟩=some (.slice ea2 qe.length ec2))):=λW hb=>by have h:=KEEP.o W hb;exact⟨h.1,h.2.1,h.2.2.1,h.2.2.2.1,h.2.2.2.2.1,h.2.2.2.2.2.1,h.2.2.2.2.2.2,ae (ae d1 HBW.o) hb⟩
       obtain⟨hq1,hq2,hq4,hq5,hq6,hq7,hq8⟩:=yA hpos hk2;have hwr:=yy hpos (Hk hk (Nat.not_lt.1 hlen));clear hq ht hb20;cases hb3:cL o qe te
       ·go_wp2_with fail;go_quiet ((go_at_call 41;exact Calls.quiet_of_same (fd _ _ _ _)));have HQ1:=aa (below_drewN HBR.o nq);go_wp2_with fail;go_region_held (λW=>Ic (Below w1.heap.size w1 W)/\W.cell? ⟨w.heap.size,0,none⟩=some (.int .i64 p)/\W.cell? ⟨w.heap.size,1,none⟩=some (.int .i64 n)/\W.cell? ⟨w.heap.size,2,none⟩=some (.int .i64 o)/\W.cell? ⟨w.heap.size,3,none⟩=some (.int .i64 v)/\W.cell? ⟨b,off+k*2,none⟩=some (.int .i64 tc)/\W.cell? ⟨b,off+k*2+1,none⟩=some (.slice ea te.length ec))
         (first|exact KEEP.o _ HQ1.o.drew|exact KEEP.o _ (HQ1.o.drew.trans (hb9.mono HQ1.o.drew.size)))
         (first|(go_at_call 120;refine(oJ p n o v _ te _ HN.o ?_).mono ?_;exact HSE.o.below (below_drewN (Hf _ _) _).drew;rintro e w9 ⟨rfl,hb9⟩))
        have HB9:=aa (show Below w1.heap.size w1 w9 from HQ1.o.drew.trans (hb9.mono HQ1.o.drew.size));clear hb9;rw[HB20.o];go_wp2_with fail;go_region_held (λW=>Ic (Below w1.heap.size w1 W)/\W.cell? ⟨w.heap.size,0,none⟩=some (.int .i64 p)/\W.cell? ⟨w.heap.size,1,none⟩=some (.int .i64 n)/\W.cell? ⟨w.heap.size,2,none⟩=some (.int .i64 o)/\W.cell? ⟨w.heap.size,3,none⟩=some (.int .i64 v)/\W.cell? ⟨b,off+k*2,none⟩=some (.int .i64 tc)/\W.cell? ⟨b,off+k*2+1,none⟩=some (.slice ea te.length ec)/\W.cell? ⟨b,off+(k-1)*2+1,none⟩=some (.slice ea2 qe.length ec2))
         (first|exact KEEP2.o _ HB9.o.drew|exact KEEP2.o _ (HB9.o.drew.trans (hb8.mono HB9.o.drew.size)))
         (first|(go_at_call 121;refine(mY p n o v _ _ qe te _ HO.o hq0 hq3 HLL.o HQB.o.1 HQB.o.2 ?_ ?_).mono ?_;exact HSQ.o.1.below HB9.o.drew;exact HSQ.o.2.below HB9.o.drew;rintro e w8 ⟨rfl,hb8⟩))
        have HB8:=aa (show Below w1.heap.size w1 w8 from HB9.o.drew.trans (hb8.mono HB9.o.drew.size));clear hb8;try rw[hb3]
        go_wp2_with fail;go_ret;exact⟨cm (by rw[HER.o,if_neg (by rw[hb1];simp),if_neg (by simpa using HB20.o),if_pos (by rw[HPE.o];exact hb3)]),HBW.o.trans (HB8.o.mono HBW.o.size)⟩
       ·go_wp2_with fail;go_quiet ((go_at_call 41;exact Calls.quiet_of_same (fd _ _ _ _)));have HQ1:=aa (below_drewN HBR.o nq);go_wp2_with fail;go_region_held (λW=>Ic (Below w1.heap.size w1 W)/\W.cell? ⟨w.heap.size,0,none⟩=some (.int .i64 p)/\W.cell? ⟨w.heap.size,1,none⟩=some (.int .i64 n)/\W.cell? ⟨w.heap.size,2,none⟩=some (.int .i64 o)/\W.cell? ⟨w.heap.size,3,none⟩=some (.int .i64 v)/\W.cell? ⟨b,off+k*2,none⟩=some (.int .i64 tc)/\W.cell? ⟨b,off+k*2+1,none⟩=some (.slice ea te.length ec))
         (first|exact KEEP.o _ HQ1.o.drew|exact KEEP.o _ (HQ1.o.drew.trans (hb9.mono HQ1.o.drew.size)))
         (first|(go_at_call 120;refine(oJ p n o v _ te _ HN.o ?_).mono ?_;exact HSE.o.below (below_drewN (Hf _ _) _).drew;rintro e w9 ⟨rfl,hb9⟩))
        have HB9:=aa (show Below w1.heap.size w1 w9 from HQ1.o.drew.trans (hb9.mono HQ1.o.drew.size));clear hb9;rw[HB20.o];go_wp2_with fail;go_region_held (λW=>Ic (Below w1.heap.size w1 W)/\W.cell? ⟨w.heap.size,0,none⟩=some (.int .i64 p)/\W.cell? ⟨w.heap.size,1,none⟩=some (.int .i64 n)/\W.cell? ⟨w.heap.size,2,none⟩=some (.int .i64 o)/\W.cell? ⟨w.heap.size,3,none⟩=some (.int .i64 v)/\W.cell? ⟨b,off+k*2,none⟩=some (.int .i64 tc)/\W.cell? ⟨b,off+k*2+1,none⟩=some (.slice ea te.length ec)/\W.cell? ⟨b,off+(k-1)*2+1,none⟩=some (.slice ea2 qe.length ec2))
         (first|exact KEEP2.o _ HB9.o.drew|exact KEEP2.o _ (HB9.o.drew.trans (hb8.mono HB9.o.drew.size)))
         (first|(go_at_call 121;refine(mY p n o v _ _ qe te _ HO.o hq0 hq3 HLL.o HQB.o.1 HQB.o.2 ?_ ?_).mono ?_;exact HSQ.o.1.below HB9.o.drew;exact HSQ.o.2.below HB9.o.drew;rintro e w8 ⟨rfl,hb8⟩))
        have HB8:=aa (show Below w1.heap.size w1 w8 from HB9.o.drew.trans (hb8.mono HB9.o.drew.size));clear hb8;try rw[hb3]
        go_wp2_with fail;go_roundw;case rel=>exact⟨k+1,by omega,by go_num,by rw[HER.o,if_neg (by rw[hb1];simp),if_neg (by simpa using HB20.o),if_neg (by rw[HPE.o];simp[iz,hb3])],λt ht=>by
         rcases HTK.o t ht with h|h
         ·exact HALL.o t h
         ·rw[h];exact HB20.o,HB8.o⟩
        case measure=>simp[intOf];omega
     ·go_wp2_with fail;go_quiet ((go_at_call 41;exact Calls.quiet_of_same (fd _ _ _ _)));have HQ1:=aa (below_drewN HBR.o nq);go_wp2_with fail;go_region_held (λW=>Ic (Below w1.heap.size w1 W)/\W.cell? ⟨w.heap.size,0,none⟩=some (.int .i64 p)/\W.cell? ⟨w.heap.size,1,none⟩=some (.int .i64 n)/\W.cell? ⟨w.heap.size,2,none⟩=some (.int .i64 o)/\W.cell? ⟨w.heap.size,3,none⟩=some (.int .i64 v)/\W.cell? ⟨b,off+k*2,none⟩=some (.int .i64 tc)/\W.cell? ⟨b,off+k*2+1,none⟩=some (.slice ea te.length ec))
       (first|exact KEEP.o _ HQ1.o.drew|exact KEEP.o _ (HQ1.o.drew.trans (hb9.mono HQ1.o.drew.size)))
       (first|(go_at_call 120;refine(oJ p n o v _ te _ HN.o ?_).mono ?_;exact HSE.o.below (below_drewN (Hf _ _) _).drew;rintro e w9 ⟨rfl,hb9⟩))
      have HB9:=aa (show Below w1.heap.size w1 w9 from HQ1.o.drew.trans (hb9.mono HQ1.o.drew.size));clear hb9;go_wp2;go_ret;exact⟨cm (by rw[HER.o,if_neg (by rw[hb1];simp),if_pos (by simpa using hb2)]),HBW.o.trans (HB9.o.mono HBW.o.size)⟩
   ·go_wp2;go_ret;exact⟨cm (by rw[herr,List.drop_eq_nil_of_le (by omega)];cases k<;>rfl),HBW.o.trans (HBR.o.mono HBW.o.size)⟩
def dB(p n o:Int):List (List Tm)->Int
 |[]=>0
 |f::r=>if cz p n o f=0 then dB p n o r else cz p n o f
theorem xX(p n o:Int)(fss:List (List Tm))(k:Nat)(h:k<fss.length):dB p n o (fss.drop k)=if cz p n o (fss.getD k [])=0 then dB p n o (fss.drop (k+1)) else cz p n o (fss.getD k []):=by rw[List.drop_eq_getElem_cons h];simp[dB,Hs,h]
def jg(p n o v:Int)(fss:List (List Tm)):Int:=if bo p n o v=0 then dB p n o fss else bo p n o v
theorem se{p n o:Int}:∀{fss:List (List Tm)},dB p n o fss=0->∀f∈fss,cz p n o f=0
 |[],_,f,hf=>by simp at hf
 |g::r,h,f,hf=>by
  unfold dB at h;by_cases hg:cz p n o g=0
  ·rw[if_pos hg] at h;rcases List.mem_cons.1 hf with rfl|hf
   ·exact hg
   ·exact se h f hf
  ·rw[if_neg hg] at h;exact absurd h hg
theorem FB{p n o v:Int}{fss:List (List Tm)}(h:jg p n o v fss=0):bo p n o v=0/\∀f∈fss,cz p n o f=0:=by
 unfold jg at h;by_cases hr:bo p n o v=0
 ·rw[if_pos hr] at h;exact⟨hr,se h⟩
 ·rw[if_neg hr] at h;exact absurd h hr
theorem FC(x:Value)(xs:List Int)(w:World)(h0:0<xs.length)(hm:xs.length<=3)(hb:∀x∈xs,0<=x/\x<=40000)(hs:Sl w x xs):Calls prog 26 #[x] w λe w'=>e=.returned (.int .i64 (ag xs))/\w'=w:=by obtain⟨a,cap,rfl,h1⟩:=hs;obtain⟨b,off,rfl,hlt,hc⟩:=h1 h0;exact lj xs b off cap w hb hm hc
def cI(m:Int):List Tm->Int
 |[]=>m
 |t::ts=>cI (if m<ag t.2 then ag t.2 else m) ts
theorem FD(ts:List Tm):∀(m:Int)(k:Nat),k<ts.length->cI m (ts.take (k+1))=if cI m (ts.take k)<ag (ts.getD k aM).2 then ag (ts.getD k aM).2 else cI m (ts.take k):=by
 induction ts with
 |nil=>intro m k h;simp at h
 |cons t ts ih=>
  intro m k h;cases k with
  |zero=>simp[cI]
  |succ k=>simp only[List.take_succ_cons,cI];rw[ih _ k (by simpa using h)];simp
theorem yB:∀(ts:List Tm)(m:Int),(∀t∈ts,ag t.2<=120000)->m<=120000->m<=cI m ts/\cI m ts<=120000
 |[],m,_,hm=>⟨Int.le_refl _,hm⟩
 |t::ts,m,h,hm=>by simp only[cI];have h1:=h t (by simp);have h2:=yB ts (if m<ag t.2 then ag t.2 else m) (λu hu=>h u (by simp[hu])) (by split<;>omega);refine⟨Int.le_trans ?_ h2.1,h2.2⟩;split<;>omega
theorem Ck(x:Value)(fs:List Tm)(w:World)(hm:fs.length<=2400000000000)(hl:∀t∈fs,0<t.2.length/\t.2.length<=3/\∀x∈t.2,0<=x/\x<=40000)(pf:Pl w x fs):Calls prog 8 #[x] w λe w'=>e=.returned (.int .i64 (cI (-1) fs))/\w'=w:=by
 obtain⟨fa,fc,rfl,_,hfc⟩:=pf;have HFC:=aa hfc;have HL:=aa hl;have HS:Ic (∀t∈fs,0<=ag t.2/\ag t.2<=120000):=λt ht=>by have h1:=hl t ht;have h2:=jG t.2 h1.2.2;omega
 clear hfc hl;go_enter func8,ntmps8;go_wp2;go_loop [3,4] (λm i=>∃k:Nat,k<=fs.length/\i=.int .i64 k/\m=.int .i64 (cI (-1) (fs.take k))) (λ_ i=>fs.length-(intOf i).toNat);case atStart=>exact⟨0,Hl _,rfl,rfl⟩
 case round=>
  obtain⟨k,hk,rfl,rfl⟩:=hrel;by_cases hk2:k<fs.length
  ·obtain⟨b,off,rfl,hlt,hat⟩:=HFC.o (by omega);obtain⟨c0,ev,c1,hse⟩:=hat k hk2;have HT:=aa (FD fs (-1) k hk2);have HLK:=aa (HL.o _ (eA fs k hk2));have htop:=yB (fs.take k) (-1) (λt ht=>(HS.o t (List.mem_of_mem_take ht)).2) (by omega);generalize cI (-1) (fs.take k)=m at HT htop;generalize fs.getD k aM=t at c0 hse HT HLK;obtain⟨tc,te⟩:=t;have HSE:=aa hse;obtain⟨ea,ec,rfl,_⟩:=hse;simp only at c1;have hsb:=jG te HLK.o.2.2;have hl3:te.length<=3:=HLK.o.2.1;have HDG:=aa (λW (h:Sl W (.slice ea te.length ec) te)=>FC _ te W HLK.o.1 HLK.o.2.1 HLK.o.2.2 h);clear hat c0;by_cases hgt:m<ag te
   ·go_wp2_with (go_at_call 26;refine(HDG.o _ HSE.o).mono ?_;rintro e w' ⟨rfl,rfl⟩);go_round;case rel=>exact⟨k+1,by omega,by go_num,by rw[HT.o,if_pos hgt]⟩
    case measure=>simp[intOf];omega
   ·go_wp2_with (go_at_call 26;refine(HDG.o _ HSE.o).mono ?_;rintro e w' ⟨rfl,rfl⟩);go_round;case rel=>exact⟨k+1,by omega,by go_num,by rw[HT.o,if_neg (Int.not_lt.2 hgt)]⟩
    case measure=>simp[intOf];omega
  ·go_wp2;go_ret;exact⟨cm (by rw[Hz (by omega)]),rfl⟩
def bX(fs:List Tm):Bool:=decide (200<cI (-1) fs)||decide (2000<fs.length)
def di(w:World)(g:Nat):Prop:=∀j u,w.cell? ⟨g,j,none⟩=some u->∃a n c,u=.slice a n c
theorem di.below{w w':World}{g:Nat}(h:di w g)(hlt:g<w.heap.size)(hb:Below w.heap.size w w'):di w' g:=by intro j u hu;rw[hb.cell (p:=⟨g,j,none⟩) hlt] at hu;exact h j u hu
theorem iX{w w':World}{g b o:Nat}(hg:w.grownBy w' (some g))(hlt:b<w.heap.size)(hne:b≠g):w'.cell? ⟨b,o,none⟩=w.cell? ⟨b,o,none⟩:=
 World.cell?_of_block (hg.block b hlt (by simpa using hne))
theorem rz{w w':World}{g:Nat}(hk:di w g)(hg:w.grownBy w' (some g)){v:Value}{xs:List Int}(h:Sl w v xs):Sl w' v xs:=by
 obtain⟨a,cap,rfl,h⟩:=h;refine⟨a,cap,rfl,λhp=>?_⟩;obtain⟨b,off,rfl,hlt,hc⟩:=h hp;have hne:b≠g:=by intro e;subst e;obtain⟨_,_,_,hx⟩:=hk _ _ (hc 0 hp);cases hx
 exact⟨b,off,rfl,Hj hlt hg.size,λi hi=>by rw[iX hg hlt hne];exact hc i hi⟩
theorem kT{w w':World}{g:Nat}(hk:di w g)(hg:w.grownBy w' (some g)){v:Value}{ts:List Tm}(h:Pl w v ts):Pl w' v ts:=by
 obtain⟨a,cap,rfl,hcap,h⟩:=h;refine⟨a,cap,rfl,hcap,λhp=>?_⟩;obtain⟨b,off,rfl,hlt,hc⟩:=h hp;have hne:b≠g:=by intro e;subst e;obtain⟨_,_,_,hx⟩:=hk _ _ (hc 0 hp).1;cases hx
 refine⟨b,off,rfl,Hj hlt hg.size,λi hi=>?_⟩;obtain⟨h1,u,h2,h3⟩:=hc i hi;exact⟨by rw[iX hg hlt hne];exact h1,u,by rw[iX hg hlt hne];exact h2,rz hk hg h3⟩
theorem yC{w:World}{C:Array Value}{T:TypeId}(h:∀u∈C.toList,∃a n c,u=.slice a n c):di (w.alloc (.cells C T)) w.heap.size:=by
 intro j u hu;have e:(w.alloc (.cells C T)).cell? ⟨w.heap.size,j,none⟩=C[j]?:=by unfold World.cell?;rw[show (w.alloc (.cells C T)).heap[w.heap.size]?=some (.cells C T (0,0)) from heap_alloc_new w _];simp
 rw[e] at hu;exact h u (by rw[Array.mem_toList_iff];exact Array.mem_of_getElem? hu)
theorem pj{w:World}{g:Nat}{C:Array Value}{T:TypeId}(hg:w.heap[g]?=some (.cells C T (0,0)))(h:∀u∈C.toList,∃a n c,u=.slice a n c):di w g:=by
 intro j u hu;have e:w.cell? ⟨g,j,none⟩=C[j]?:=by unfold World.cell?;rw[hg];simp
 rw[e] at hu;exact h u (by rw[Array.mem_toList_iff];exact Array.mem_of_getElem? hu)
theorem yg{w:World}{g:Nat}{C:Array Value}{T:TypeId}(hg:w.heap[g]?=some (.cells C T (0,0)))(h:di w g):∀u∈C.toList,∃a n c,u=.slice a n c:=by intro u hu;obtain⟨j,hj,rfl⟩:=List.getElem_of_mem hu;refine h j _ ?_;unfold World.cell?;rw[hg];simp at hj⊢
theorem FE{P:Program}(w:World)(base:Nat)(t ty e:TypeId)(i:TypeInfo)(ht:P.underlying t=some (.slice e))(hi:P.info? e=some i)(hz:i.zero=some (.slice none 0 0))(hsize:i.size=1)(hby:i.bytes=24)(v:Value)(n:Nat)(xs:List Value)(hown:w.ownsRow base e 1 v n xs)(hk:∀g,v.ownBlock=some g->di w g)(a:Addr)(c:Nat)(u:Value)(hu:∃a n c,u=.slice a n c)(hnew:∀j x,[u][j]?=some x->w.cell? (a.add j)=some x)(hn:n<=1200000000000)(hbase:base<=w.heap.size):∃v' w',(Builtin.append_ #[t,t] ty #[v,.slice (some a) 1 c]).run P w=.ok v' w'/\w'.ownsRow base e 1 v' (n+1) (xs++[u])/\w.grownBy w' v.ownBlock/\(∀g,v'.ownBlock=some g->di w' g):=by
 have hone:∀x∈[u],x.oneCell'=true:=by intro x hx;rw[Hw] at hx;obtain⟨_,_,_,e⟩:=hu;rw[hx,e];rfl
 obtain⟨v',w',hr,h2,h3,_⟩:=run_append_own (P:=P) w base t ty e i (.slice none 0 0) 1 24 ht hi hz hsize hby rfl (by decide) v n xs hown a 1 c [u] (by simp) hnew hone (by unfold maxLen;omega) (by omega) hbase;refine⟨v',w',hr,h2,h3,?_⟩;have hzero:∀(m:Nat),∀x∈(Builtin.zeroCells (Value.cells (.slice none 0 0)) m).toList,∃a n c,x=.slice a n c:=by intro m x hx;simp[Builtin.zeroCells,Value.cells] at hx;obtain⟨l,_,hx⟩:=hx;rw[Nat.mod_one] at hx;exact⟨none,0,0,by rw[<-hx];rfl⟩
 rcases hown.2 with ⟨rfl,rfl⟩|⟨g,cap,ai,rfl,hbg,hg,hnc,hcm,hcs,htake⟩
 ·have hr2:=run_append_nil (P:=P) w t ty e i (.slice none 0 0) ht hi hz a 1 c [u] (by rw[hsize];rfl) hnew (by omega) (by omega) (by rw[hby];omega);rw[hr] at hr2;simp only[Result.ok.injEq] at hr2;obtain⟨rfl,rfl⟩:=hr2;intro g hg;simp only[Value.ownBlock,H6] at hg;subst hg;refine yC (w:=w.drew) (λx hx=>?_);rw[Array.toList_append,Hv] at hx;rcases hx with hx|hx
  ·simp at hx;rw[hx];exact hu
  ·exact hzero _ x hx
 ·have hcur:=yg hg (hk g rfl);by_cases hroom:n+1<=cap
  ·have hr2:=run_append_room (P:=P) w t ty e i ht hi g n cap ai hg a 1 c [u] (by rw[hsize];rfl) hnew hone hroom (by rw[hsize,hcs];simp;omega);rw[hr] at hr2;simp only[Result.ok.injEq] at hr2;obtain⟨rfl,rfl⟩:=hr2;intro g2 hg2;simp only[Value.ownBlock,H6] at hg2;subst hg2;refine pj (setRow_heap w g ai _ e _ hg) (λx hx=>?_);rw[List.toList_toArray,Hv,Hv] at hx;rcases hx with (hx|hx)|hx
   ·exact hcur x (List.mem_of_mem_take hx)
   ·rw[Hw] at hx;rw[hx];exact hu
   ·exact hcur x (List.mem_of_mem_drop hx)
  ·have holds:∀j x,xs[j]?=some x->w.cell? ((⟨g,0,none⟩:Addr).add j)=some x:=hown.cells (g:=g) rfl;have hr2:=run_append_grow (P:=P) w t ty e i (.slice none 0 0) ht hi hz ⟨g,0,none⟩ n cap xs (by rw[hsize];exact hown.1) holds a 1 c [u] (by rw[hsize];rfl) hnew (by omega) (by omega) (growslice_fits (by omega) (by rw[hby];omega));rw[hr] at hr2;simp only[Result.ok.injEq] at hr2;obtain⟨rfl,rfl⟩:=hr2;intro g2 hg2;simp only[Value.ownBlock,H6] at hg2;subst hg2;refine yC (w:=w.drew) (λx hx=>?_);rw[Array.toList_append,Array.toList_append,Hv,Hv] at hx;rcases hx with (hx|hx)|hx
   ·rw[List.toList_toArray,<-htake] at hx;exact hcur x (List.mem_of_mem_take hx)
   ·simp at hx;rw[hx];exact hu
   ·exact hzero _ x hx
theorem Tryz.infoPolyW:(prog.info? 31).map (λi=>(i.zero,i.size,i.bytes))=some (some (.slice none 0 0),1,24):=by kernel_rfl
def aP:Value:=.slice none 0 0
structure cl(B:Nat)(w:World)(v:Value)(us:List Value)(fss:List (List Tm)):Prop where
 len:us.length=fss.length
 own:w.ownsRow B 31 1 v fss.length us
 kind:∀g,v.ownBlock=some g->di w g
 pls:∀i,i<fss.length->Pl w (us.getD i aP) (fss.getD i [])
theorem cl.next{B:Nat}{w w':World}{v:Value}{us:List Value}{fss:List (List Tm)}(h:cl B w v us fss)(hb:Below w.heap.size w w'):cl B w' v us fss:=
 ⟨h.len,aH h.own hb,λg hg=>(h.kind g hg).below (Hd h.own g hg).2 hb,λi hi=>(h.pls i hi).below hb⟩
theorem cl.nil(B:Nat)(w:World):cl B w (.slice none 0 0) [] []:=
 ⟨rfl,World.ownsRow_nil _ _ _ _,λg hg=>by simp[Value.ownBlock] at hg,λi hi=>by simp at hi⟩
theorem cl.vl{B:Nat}{w:World}{v:Value}{us:List Value}{fss:List (List Tm)}(h:cl B w v us fss):Vl w v fss:=by
 obtain⟨a,c,rfl⟩:=cq h.own;refine⟨a,c,rfl,λhp=>?_⟩;obtain⟨g,rfl,_,hlt,_⟩:=kz h.own 0 hp;refine⟨g,0,rfl,hlt,λi hi=>?_⟩;obtain⟨g2,hg2,_,_,hc⟩:=kz h.own i hi;simp only[H6,Addr.mk.injEq,and_true] at hg2;subst hg2;refine⟨us.getD i aP,?_,h.pls i hi⟩;rw[Hy,hc];have:i<us.length:=by rw[h.len];exact hi
 simp[Hs,this]
theorem cl.snoc{B:Nat}{W W2:World}{v v2:Value}{us:List Value}{fss:List (List Tm)}{u:Value}{f:List Tm}(h:cl B W v us fss)(hu:Pl W u f)(h2:W2.ownsRow B 31 1 v2 (fss.length+1) (us++[u]))(g2:W.grownBy W2 v.ownBlock)(k2:∀g,v2.ownBlock=some g->di W2 g):cl B W2 v2 (us++[u]) (fss++[f]):=by
 have keep:∀{x:Value}{ts:List Tm},Pl W x ts->Pl W2 x ts:=by
  intro x ts hx;cases ho:v.ownBlock with
  |none=>rw[ho] at g2;exact hx.below ⟨g2.os,g2.tape,g2.output,g2.size,λk hk=>g2.block k hk (by simp)⟩
  |some g=>rw[ho] at g2;exact kT (h.kind g ho) g2 hx
 refine⟨by simp[h.len],by rw[Hx];exact h2,k2,λi hi=>?_⟩;rw[Hx] at hi;simp only[List.length_cons,List.length_nil] at hi;rcases Nat.lt_or_ge i fss.length with hl|hl
 ·have e1:(us++[u]).getD i aP=us.getD i aP:=by simp[Hs,List.getElem?_append_left (show i<us.length by rw[h.len];exact hl)]
  have e2:(fss++[f]).getD i []=fss.getD i []:=by simp[Hs,List.getElem?_append_left hl]
  rw[e1,e2];exact keep (h.pls i hl)
 ·have e:i=fss.length:=by omega
  subst e;have e1:(us++[u]).getD fss.length aP=u:=by rw[<-h.len];simp[Hs]
  have e2:(fss++[f]).getD fss.length []=f:=by simp[Hs]
  rw[e1,e2];exact keep hu
theorem cl.grown{B:Nat}{w W w':World}{v:Value}{us:List Value}{fss:List (List Tm)}(h:cl B W v us fss)(hb:Below B w W)(hg:W.grownBy w' v.ownBlock)(hB:B<=w.heap.size):Below B w w':=bU h.own hb hg hB
theorem r7{ops:Array Oper}{o:Oper}{a:Act}{w:World}{K:Act->World->Prop}{Q:Exit->Act->World->Prop}{E:Prop}(hgd:o.guard=none)(s x:Operand)(t:TypeId)(ho:o.op=.call {callee:=.builtin .append,args:=#[s,x],argTypes:=#[t,t]})(ht:prog.underlying t=some (.slice 31))(B:Nat)(v:Value)(us:List Value)(fss:List (List Tm))(hs:a.eval s=v)(h:cl B w v us fss)(ad:Addr)(c:Nat)(u:Value)(f:List Tm)(hu:Pl w u f)(hx:a.eval x=.slice (some ad) 1 c)(hnew:∀j y,[u][j]?=some y->w.cell? (ad.add j)=some y)(hn:fss.length<=1200000000000)(hB:B<=w.heap.size)(hK:∀v' w',cl B w' v' (us++[u]) (fss++[f])->w.grownBy w' v.ownBlock->K (a.put o.dst v') w'):if Region.wanted o (yielded ops a.tmps)=true then Oper.wp prog o a w K Q else E:=by
 have hw:Region.wanted o (yielded ops a.tmps)=true:=by simp[Region.wanted,hgd]
 rw[if_pos hw];obtain⟨i0,hi,hz0,hz1,hz2⟩:=info_parts Tryz.infoPolyW;obtain⟨v',w',hr,h2,h3,h4⟩:=FE (P:=prog) w B t o.type 31 i0 ht hi hz0 hz1 hz2 v fss.length us h.own h.kind ad c u (by obtain⟨a,c,e,_⟩:=hu;exact⟨_,_,_,e⟩) hnew hn hB;unfold Oper.wp execOp;simp only[ho,resolve,invoke,builtin,Sem.run_bind,Sem.run_pure,Result.andThen_ok,List.map_toArray,List.map_cons,List.map_nil,hs,hx,hr];exact hK v' w' (h.snoc hu h2 h3 h4) h3
def cQ(xs:List Int)(k:Nat)(j:Nat):Int:=(xs.take k).getD j 0
def pm(s pl c:Int)(xs:List Int)(k:Nat):Ft:=⟨s,cQ xs k 0,cQ xs k 1,cQ xs k 2,0,pl,c⟩
structure gi(w wr:World)(c:Int)(ev:Value)(t:Ft):Prop where
 below:Below w.heap.size w wr
 b0:wr.cell? ⟨w.heap.size,0,none⟩=some (.int .i64 c)
 b1:wr.cell? ⟨w.heap.size,1,none⟩=some ev
 res:wr.ownsRow w.heap.size 144 7 (.slice (some ⟨w.heap.size+1,0,none⟩) 1 1) 1 (aA dC)
 own:wr.ownsRow w.heap.size 144 7 (.slice (some ⟨w.heap.size+1+1,0,none⟩) 1 1) 1 (aA t)
 lt:w.heap.size<wr.heap.size
theorem gi.next{w wr w':World}{c:Int}{ev:Value}{t:Ft}(h:gi w wr c ev t)(hb:Below wr.heap.size wr w'):gi w w' c ev t:=
 ⟨h.below.trans (hb.mono h.below.size),ae h.b0 hb,ae h.b1 hb,aH h.res hb,aH h.own hb,Hj h.lt hb.size⟩
theorem gi.first(w:World)(c:Int)(ev:Value)(t:Ft):gi w (((w.alloc (.cells #[.int .i64 c,ev] 54)).alloc (.cells #[.int .i64 0,.int .u16 0,.int .u16 0,.int .u16 0,.int .u16 0,.int .u8 0,.int .u8 0] 144)).alloc (.cells #[.int .i64 t.k,.int .u16 t.a,.int .u16 t.b,.int .u16 t.d,.int .u16 t.z,.int .u8 t.pl,.int .u8 t.c] 144)) c ev t:=by
 have h1:=cS (w:=w.alloc (.cells #[.int .i64 c,ev] 54)) (B:=w.heap.size) (by simp) dC;have h2:=cS (w:=(w.alloc (.cells #[.int .i64 c,ev] 54)).alloc (.cells #[.int .i64 0,.int .u16 0,.int .u16 0,.int .u16 0,.int .u16 0,.int .u8 0,.int .u8 0] 144)) (B:=w.heap.size) (by simp;omega) t;refine⟨jX,by simp[go_sem],by simp[go_sem],?_,?_,by simp;omega⟩
 ·have:=aH h1 (af (A:=.cells #[.int .i64 t.k,.int .u16 t.a,.int .u16 t.b,.int .u16 t.d,.int .u16 t.z,.int .u8 t.pl,.int .u8 t.c] 144));simpa [dC] using this
 ·simpa using h2
theorem gi.put{w wr:World}{c:Int}{ev:Value}{t t2:Ft}(h:gi w wr c ev t)(j:Nat)(v:Value)(he:(aA t).set j v=aA t2):gi w (wr.setCell ⟨w.heap.size+1+1,j,none⟩ v) c ev t2:=by have s1:=h.own.stored j v;rw[he] at s1;have far:=λo=>iX (o:=o) (b:=w.heap.size) s1.2 h.lt (by omega);exact⟨h.below.trans (ck s1.2 (by omega) h.below.size),by rw[far];exact h.b0,by rw[far];exact h.b1,h.res.kept s1.2 (Or.inr (by simp[Value.ownBlock])),s1.1,Hj h.lt s1.2.size⟩
theorem gi.cells{w wr:World}{c:Int}{ev:Value}{t:Ft}(h:gi w wr c ev t):wr.cell? ⟨w.heap.size+1+1,0,none⟩=some (.int .i64 t.k)/\wr.cell? ⟨w.heap.size+1+1,1,none⟩=some (.int .u16 t.a)/\wr.cell? ⟨w.heap.size+1+1,2,none⟩=some (.int .u16 t.b)/\wr.cell? ⟨w.heap.size+1+1,3,none⟩=some (.int .u16 t.d)/\wr.cell? ⟨w.heap.size+1+1,4,none⟩=some (.int .u16 t.z)/\wr.cell? ⟨w.heap.size+1+1,5,none⟩=some (.int .u8 t.pl)/\wr.cell? ⟨w.heap.size+1+1,6,none⟩=some (.int .u8 t.c):=
 ⟨h.own.cellAt 0 (by omega),h.own.cellAt 1 (by omega),h.own.cellAt 2 (by omega),h.own.cellAt 3 (by omega),h.own.cellAt 4 (by omega),h.own.cellAt 5 (by omega),h.own.cellAt 6 (by omega)⟩
def cr(s k0 k1 k2 pl:Int)(t:Tm):Ft:=⟨s+(t.2.getD 0 0*k0+t.2.getD 1 0*k1+t.2.getD 2 0*k2),t.2.getD 0 0,t.2.getD 1 0,t.2.getD 2 0,0,pl,t.1⟩
theorem FF{w:World}{B g:Nat}{u:Ft}(h:w.ownsRow B 144 7 (.slice (some ⟨g,0,none⟩) 1 1) 1 (aA u))(t:Ft):(nu w g 0 t).ownsRow B 144 7 (.slice (some ⟨g,0,none⟩) 1 1) 1 (aA t)/\w.grownBy (nu w g 0 t) (some g):=by have s1:=h.stored 0 (.int .i64 t.k);have s2:=s1.1.stored 1 (.int .u16 t.a);have s3:=s2.1.stored 2 (.int .u16 t.b);have s4:=s3.1.stored 3 (.int .u16 t.d);have s5:=s4.1.stored 4 (.int .u16 t.z);have s6:=s5.1.stored 5 (.int .u8 t.pl);have s7:=s6.1.stored 6 (.int .u8 t.c);exact⟨s7.1,cj (cj (cj (cj (cj (cj s1.2 s2.2) s3.2) s4.2) s5.2) s6.2) s7.2⟩
theorem FG(s pl c:Int)(xs:List Int)(k:Nat)(h:k<xs.length)(h3:xs.length<=3):(aA (pm s pl c xs k)).set (1+k) (.int .u16 (xs.getD k 0))=aA (pm s pl c xs (k+1)):=by
 match xs,k,h,h3 with
 |[x],0,_,_=>rfl
 |[x,y],0,_,_=>rfl
 |[x,y],1,_,_=>rfl
 |[x,y,z],0,_,_=>rfl
 |[x,y,z],1,_,_=>rfl
 |[x,y,z],2,_,_=>rfl
 |_::_::_::_::_,_,_,h=>exact absurd h (by simp)
theorem mn{xs:List Int}(h:∀x∈xs,0<=x/\x<=30000)(k j:Nat):0<=cQ xs k j/\cQ xs k j<=65535:=by
 unfold cQ;rw[Hs];cases hj:(xs.take k)[j]? with
 |none=>simp
 |some x=>have:=h x (List.mem_of_mem_take (List.mem_of_getElem? hj));simp;omega
theorem tY(ob pl:Nat)(p k0 k1 k2:Int)(sv ev:Value)(ss xs:List Int)(c:Int)(w:World)(hob:aQ w ob p k0 k1 k2 sv)(hs:Sl w sv ss)(hpl:pl<ss.length)(hpl2:pl<=255)(hss:∀s∈ss,-600000000000000000<=s/\s<=600000000000000000)(h0:0<=k0/\k0<=137438953472)(h1:0<=k1/\k1<=137438953472)(h2:0<=k2/\k2<=137438953472)(hc:0<=c/\c<=255)(hx0:0<xs.length)(hx3:xs.length<=3)(hxs:∀x∈xs,0<=x/\x<=30000)(he:Sl w ev xs):Calls prog 98 #[.pointer (some ⟨ob,0,none⟩),.int .i64 pl,.agg #[.int .i64 c,ev]] w λe w'=>e=.returned (aY (cr (ss.getD pl 0) k0 k1 k2 pl (c,xs)))/\Below w.heap.size w w':=by
 obtain⟨hc0,hc1⟩:=hc;have HE:=aa he;have HXS:=aa hxs;have HSS:=aa (hss _ (gl ss pl hpl));have HOB:=aa hob;obtain⟨ea,ec,rfl,hei⟩:=he;obtain⟨eb,eoff,rfl,helt,hec⟩:=hei hx0;obtain⟨sa,sc,rfl,hsi⟩:=hs;obtain⟨sb,soff,rfl,hslt,hsc⟩:=hsi (by omega);have s0:=hsc pl hpl;have HS0:=aa s0;generalize ss.getD pl 0=s at s0 HS0 HSS⊢;obtain⟨olt,o0,o1,o2,o3,o4⟩:=hob;clear hxs hss hei hsi hsc;have HT0:=aa (gi.first w c (.slice (some ⟨eb,eoff,none⟩) xs.length ec) ⟨s,0,0,0,0,pl,c⟩);obtain⟨wa,hwa⟩:∃wa,wa=(w.alloc (.cells #[.int .i64 c,.slice (some ⟨eb,eoff,none⟩) xs.length ec] 54)).alloc (.cells #[.int .i64 0,.int .u16 0,.int .u16 0,.int .u16 0,.int .u16 0,.int .u8 0,.int .u8 0] 144):=⟨_,rfl⟩;have HBA:Ic (Below w.heap.size w wa):=by rw[hwa];exact cW
 have HSZ:Ic (wa.heap.size=w.heap.size+1+1):=by show _=_;rw[hwa];simp
 have z0:wa.cell? ⟨w.heap.size,0,none⟩=some (.int .i64 c):=by rw[hwa];simp[go_sem]
 have z1:wa.cell? ⟨w.heap.size,1,none⟩=some (.slice (some ⟨eb,eoff,none⟩) xs.length ec):=by rw[hwa];simp[go_sem]
 have y0:=ae s0 HBA.o;have y1:=ae o4 HBA.o;clear s0 o0 o1 o2 o3 o4;have hpi:(pl:Int)<(ss.length:Int):=by omega
 have hwp:IntKind.u8.wrap (pl:Int)=pl:=by rw[IntKind.wrap_u8];omega
 have hwc:IntKind.u8.wrap c=c:=by rw[IntKind.wrap_u8];omega
 go_enter func98,ntmps98;go_wp2_with fail;rw[<-hwa];rw[<-hwa] at HT0;clear hwa;have n0:=World.new_ne wa _ z0;have n1:=World.new_ne wa _ y0;have n2:=World.new_ne wa _ y1;simp only at n0 n1 n2;go_region_held (λW=>W.cell? ⟨w.heap.size,0,none⟩=some (.int .i64 c)/\W.cell? ⟨sb,soff+pl,none⟩=some (.int .i64 s)/\W.cell? ⟨ob,4,none⟩=some (.slice (some ⟨sb,soff,none⟩) ss.length sc)) (go_keep) (fail);have HT1:Ic (gi w (wa.alloc (.cells #[.int .i64 s,.int .u16 0,.int .u16 0,.int .u16 0,.int .u16 0,.int .u8 pl,.int .u8 c] 144)).drew c (.slice (some ⟨eb,eoff,none⟩) xs.length ec) (pm s pl c xs 0)):=HT0.o.next (Hf _ _).drew;generalize (wa.alloc (.cells #[.int .i64 s,.int .u16 0,.int .u16 0,.int .u16 0,.int .u16 0,.int .u8 pl,.int .u8 c] 144)).drew=wb at HT1⊢;rw[HSZ.o];clear HT0 z0 z1 y0 y1 n0 n1 n2;have zb:=HT1.o.b1;go_wp2;clear zb;go_loopw [26] (λi wr=>∃k:Nat,k<=xs.length/\i=.int .i64 k/\gi w wr c (.slice (some ⟨eb,eoff,none⟩) xs.length ec) (pm s pl c xs k)) (λi _=>xs.length-(intOf i).toNat);case atStart=>exact⟨0,Hl _,rfl,HT1.o⟩
 case round=>
  clear HT1;obtain⟨k,hk,rfl,ht⟩:=hrel;have HT:=aa ht;clear ht;by_cases hk2:k<xs.length
  ·have x0:=ae (hec k hk2) HT.o.below;obtain⟨hx1,hx2⟩:=HXS.o _ (gl xs k hk2);have HSET:=aa (FG s pl c xs k hk2 hx3);generalize xs.getD k 0=x at x0 hx1 hx2 HSET;have hwx:IntKind.u16.wrap x=x:=by rw[IntKind.wrap_u16];omega
   have hk4:(k:Int)<4:=by omega
   have z1:∃u,wr.cell? ⟨w.heap.size+1+1,1+k,none⟩=some u:=by have h:=HT.o.own.cellAt (1+k) (by omega);rw[Ht (by simp[aA];omega)] at h;exact⟨_,h⟩
   obtain⟨u,z1⟩:=z1;have z2:=HT.o.own.frozenAt (1+k);go_wp2;go_roundw;case rel=>exact⟨k+1,by omega,by go_num,HT.o.put _ _ HSET.o⟩
   case measure=>simp[intOf];omega
  ·have e:k=xs.length:=by omega
   subst e;have HAD:=aa (fun(W:World) (hW:aQ W ob p k0 k1 k2 (.slice (some ⟨sb,soff,none⟩) ss.length sc))=>qP ob p k0 k1 k2 _ (cQ xs xs.length 0) (cQ xs xs.length 1) (cQ xs xs.length 2) 0 W hW (mn HXS.o _ _) (mn HXS.o _ _) (mn HXS.o _ _) h0 h1 h2);unfold bR at HAD;have HADB:=aa (show-9007061815787520*3<=cQ xs xs.length 0*k0+cQ xs xs.length 1*k1+cQ xs xs.length 2*k2/\cQ xs xs.length 0*k0+cQ xs xs.length 1*k1+cQ xs xs.length 2*k2<=9007061815787520*3 from by
    obtain⟨m0,q0⟩:=gT (mn HXS.o xs.length 0) h0;obtain⟨m1,q1⟩:=gT (mn HXS.o xs.length 1) h1;obtain⟨m2,q2⟩:=gT (mn HXS.o xs.length 2) h2;exact⟨by omega,by omega⟩)
   have HFIN:Ic (cr s k0 k1 k2 pl (c,xs)=⟨s+(cQ xs xs.length 0*k0+cQ xs xs.length 1*k1+cQ xs xs.length 2*k2),cQ xs xs.length 0,cQ xs xs.length 1,cQ xs xs.length 2,0,pl,c⟩):=by show _=_;unfold cr cQ;rw[Hz (He _)]
   have HTE:Ic (gi w wr c (.slice (some ⟨eb,eoff,none⟩) xs.length ec) ⟨s,cQ xs xs.length 0,cQ xs xs.length 1,cQ xs xs.length 2,0,pl,c⟩):=HT.o;generalize cQ xs xs.length 0=xa at HAD HADB HFIN HTE;generalize cQ xs xs.length 1=xb at HAD HADB HFIN HTE;generalize cQ xs xs.length 2=xd at HAD HADB HFIN HTE;generalize xa*k0+xb*k1+xd*k2=more at HAD HADB HFIN;clear HT;obtain⟨m0,q0⟩:=HADB.o;obtain⟨m1,q1⟩:=HSS.o;have hwk:IntKind.i64.wrap (s+more)=s+more:=by rw[IntKind.wrap_i64];omega
   clear m0 q0 m1 q1;obtain⟨y0,y1,y2,y3,y4,y5,y6⟩:=HTE.o.cells;simp only at y0 y1 y2 y3 y4 y5 y6;go_wp2;go_region_with (go_at_call 141;refine(HAD.o _ ((HOB.o.below HTE.o.below).below (Hf _ _).drew)).mono ?_;rintro e w8 ⟨rfl,hb8⟩;have HT8:=aa ((HTE.o.next (Hf _ _).drew).next hb8);obtain⟨u0,u1,u2,u3,u4,u5,u6⟩:=HT8.o.cells;simp only at u0 u1 u2 u3 u4 u5 u6;have uf:=HT8.o.own.frozenAt 0;clear hb8);all_goals
    have HT9:=aa (HT8.o.put 0 (.int .i64 (s+more)) (t2:=⟨s+more,xa,xb,xd,0,pl,c⟩) rfl);generalize w8.setCell ⟨w.heap.size+1+1,0,none⟩ (.int .i64 (s+more))=w9 at HT9⊢;clear y0 y1 y2 y3 y4 y5 y6 u0 u1 u2 u3 u4 u5 u6 uf HT8 HTE;obtain⟨y0,y1,y2,y3,y4,y5,y6⟩:=HT9.o.cells;simp only at y0 y1 y2 y3 y4 y5 y6;have r0:=HT9.o.res.cellAt 0 (by omega);have q0:=HT9.o.res.frozenAt 0;have r1:=HT9.o.res.cellAt 1 (by omega);have q1:=HT9.o.res.frozenAt 1;have r2:=HT9.o.res.cellAt 2 (by omega);have q2:=HT9.o.res.frozenAt 2;have r3:=HT9.o.res.cellAt 3 (by omega);have q3:=HT9.o.res.frozenAt 3;have r4:=HT9.o.res.cellAt 4 (by omega);have q4:=HT9.o.res.frozenAt 4;have r5:=HT9.o.res.cellAt 5 (by omega);have q5:=HT9.o.res.frozenAt 5;have r6:=HT9.o.res.cellAt 6 (by omega);have q6:=HT9.o.res.frozenAt 6;simp only[aA,List.getElem?_cons_zero,List.getElem?_cons_succ] at r0 r1 r2 r3 r4 r5 r6;have HRP:=aa (FF HT9.o.res ⟨s+more,xa,xb,xd,0,pl,c⟩);go_wp2;have HRP2:Ic ((((((((w9.setCell ⟨w.heap.size+1,0,none⟩ (.int .i64 (s+more))).setCell ⟨w.heap.size+1,1,none⟩ (.int .u16 xa)).setCell ⟨w.heap.size+1,2,none⟩ (.int .u16 xb)).setCell ⟨w.heap.size+1,3,none⟩ (.int .u16 xd)).setCell ⟨w.heap.size+1,4,none⟩ (.int .u16 0)).setCell ⟨w.heap.size+1,5,none⟩ (.int .u8 pl)).setCell ⟨w.heap.size+1,6,none⟩ (.int .u8 c)).ownsRow w.heap.size 144 7 (.slice (some ⟨w.heap.size+1,0,none⟩) 1 1) 1 (aA ⟨s+more,xa,xb,xd,0,pl,c⟩)/\w9.grownBy (((((((w9.setCell ⟨w.heap.size+1,0,none⟩ (.int .i64 (s+more))).setCell ⟨w.heap.size+1,1,none⟩ (.int .u16 xa)).setCell ⟨w.heap.size+1,2,none⟩ (.int .u16 xb)).setCell ⟨w.heap.size+1,3,none⟩ (.int .u16 xd)).setCell ⟨w.heap.size+1,4,none⟩ (.int .u16 0)).setCell ⟨w.heap.size+1,5,none⟩ (.int .u8 pl)).setCell ⟨w.heap.size+1,6,none⟩ (.int .u8 c)) (some (w.heap.size+1))):=HRP.o;generalize (((((((w9.setCell ⟨w.heap.size+1,0,none⟩ (.int .i64 (s+more))).setCell ⟨w.heap.size+1,1,none⟩ (.int .u16 xa)).setCell ⟨w.heap.size+1,2,none⟩ (.int .u16 xb)).setCell ⟨w.heap.size+1,3,none⟩ (.int .u16 xd)).setCell ⟨w.heap.size+1,4,none⟩ (.int .u16 0)).setCell ⟨w.heap.size+1,5,none⟩ (.int .u8 pl)).setCell ⟨w.heap.size+1,6,none⟩ (.int .u8 c))=wz at HRP2⊢;have HBF:=aa (HT9.o.below.trans (ck HRP2.o.2 (by omega) HT9.o.below.size));have HRR:=aa (HRP2.o.1);rw[HFIN.o];refine Hn (v:=.agg #[.int .i64 (s+more),.int .u16 xa,.int .u16 xb,.int .u16 xd,.int .u16 0,.int .u8 pl,.int .u8 c]) ?_ rfl ⟨rfl,HBF.o⟩;have x0:=HRR.o.cellAt 0 (by omega);have x1:=HRR.o.cellAt 1 (by omega);have x2:=HRR.o.cellAt 2 (by omega);have x3:=HRR.o.cellAt 3 (by omega);have x4:=HRR.o.cellAt 4 (by omega);have x5:=HRR.o.cellAt 5 (by omega);have x6:=HRR.o.cellAt 6 (by omega);simp only[aA,List.getElem?_cons_zero,List.getElem?_cons_succ] at x0 x1 x2 x3 x4 x5 x6;simp[results,Tryz.results98,go_sem,x0,x1,x2,x3,x4,x5,x6]
end Go.Proofs.YtglijodcbdcngaaGreat
