/- LeadOf of the reference, where the vector lies in an elder world: so do the lead's exponents. Printed by genYE.py. -/
import Derived.Test.YtglijodcbdcngaaGreatWK
import Derived.Test.YtglijodcbdcngaaGreatWB
set_option maxHeartbeats 4000000
set_option maxRecDepth 100000
namespace Go.Proofs.YtglijodcbdcngaaGreat
set_option linter.unusedSimpArgs false
set_option linter.unusedVariables false
open Go.Proofs.Tryz Go.RowKit
structure gj(w0 w wr:World)(p n o v:Int)(st:Ld):Prop where
 below:Below w.heap.size w wr
 box:aX wr w.heap.size p n o v
 res:wr.ownsRow w.heap.size 54 2 (.slice (some ⟨w.heap.size+1,0,none⟩) 1 1) 1 [.int .i64 0,.slice none 0 0]
 own:∃ea ec,wr.ownsRow w.heap.size 54 2 (.slice (some ⟨w.heap.size+1+1,0,none⟩) 1 1) 1 [.int .i64 (dk st),.slice ea (ce st).length ec]/\Sl w0 (.slice ea (ce st).length ec) (ce st)
theorem gj.next{w0 w wr w':World}{p n o v:Int}{st:Ld}(h:gj w0 w wr p n o v st)(hb:Below wr.heap.size wr w'):gj w0 w w' p n o v st:=by obtain⟨ea,ec,h1,h2⟩:=h.own;exact⟨h.below.trans (hb.mono h.below.size),h.box.below hb,aH h.res hb,ea,ec,aH h1 hb,h2⟩
theorem gj.put{w0 w wr:World}{p n o v:Int}{st:Ld}(h:gj w0 w wr p n o v st)(i:Nat)(t:Tm)(ea:Option Addr)(ec:Nat)(hs:Sl w0 (.slice ea t.2.length ec) t.2):gj w0 w ((wr.setCell ⟨w.heap.size+1+1,0,none⟩ (.int .i64 t.1)).setCell ⟨w.heap.size+1+1,1,none⟩ (.slice ea t.2.length ec)) p n o v (some (i,t)):=by
 obtain⟨ea0,ec0,h1,_⟩:=h.own;have s1:=h1.stored 0 (.int .i64 t.1);have s2:=s1.1.stored 1 (.slice ea t.2.length ec);have hg:=cj s1.2 s2.2;have hlt:=h.box.1;refine⟨h.below.trans (ck hg (by omega) h.below.size),?_,h.res.kept hg (Or.inr (by simp[Value.ownBlock])),ea,ec,?_,hs⟩
 ·have far:=λo=>iX (o:=o) hg hlt (show w.heap.size≠w.heap.size+1+1 by omega);obtain⟨_,b0,b1,b2,b3⟩:=h.box;exact⟨Hj hlt hg.size,by rw[far];exact b0,by rw[far];exact b1,by rw[far];exact b2,by rw[far];exact b3⟩
 ·have:=s2.1;simpa [dk,ce] using this
theorem gj.first(w0 w:World)(p n o v:Int):gj w0 w (((w.alloc (.cells #[.int .i64 p,.int .i64 n,.int .i64 o,.int .i64 v] 23)).alloc (.cells #[.int .i64 0,.slice none 0 0] 54)).alloc (.cells #[.int .i64 0,.slice none 0 0] 54)) p n o v none:=by
 have h1:=nv (w:=w.alloc (.cells #[.int .i64 p,.int .i64 n,.int .i64 o,.int .i64 v] 23)) (B:=w.heap.size) (by simp) 0 (.slice none 0 0);have h2:=nv (w:=(w.alloc (.cells #[.int .i64 p,.int .i64 n,.int .i64 o,.int .i64 v] 23)).alloc (.cells #[.int .i64 0,.slice none 0 0] 54)) (B:=w.heap.size) (by simp;omega) 0 (.slice none 0 0);refine⟨cW.trans (af.mono cW.size),((aX.new w p n o v _).below af).below af,?_,none,0,?_,none,0,rfl,λh=>by simp[ce] at h⟩
 ·have:=aH h1 (af (A:=.cells #[.int .i64 0,.slice none 0 0] 54));simpa using this
 ·simpa [dk,ce] using h2
theorem kY(w0:World)(p n o v:Int)(N:Nat)(x:Value)(fss:List (List Tm))(w:World)(h0:Below w0.heap.size w0 w)(hov:v=1\/v=2)(ho:o=1\/o=2)(hN0:0<N)(hN:N<=3)(hm:fss.length<=1000)(hf:∀f∈fss,cN p o N f)(pf:Vl w0 x fss):Calls prog 27 #[az p n o v,x] w λe w'=>∃ea ec,e=.returned (.tuple #[.int .i64 (dV (aq o v fss fss.length)),.agg #[.int .i64 (dk (aq o v fss fss.length)),.slice ea (ce (aq o v fss fss.length)).length ec]])/\Sl w0 (.slice ea (ce (aq o v fss fss.length)).length ec) (ce (aq o v fss fss.length))/\Below w.heap.size w w':=by
 have H0:=aa h0;clear h0;have HX:=aa pf;have HF:=aa hf;have HO:=aa ho;have HOV:=aa hov;have HL0:=aa (gj.first w0 w p n o v);obtain⟨ax,cx,rfl,_⟩:=pf;clear hf ho hov;go_enter func27,ntmps27;go_wp2_with fail;go_loopw [6,8] (λs i wr=>∃k:Nat,k<=fss.length/\i=.int .i64 k/\s=.int .i64 (dV (aq o v fss k))/\gj w0 w wr p n o v (aq o v fss k)) (λ_ i _=>fss.length-(intOf i).toNat);case atStart=>exact⟨0,Hl _,rfl,rfl,HL0.o⟩
 case round=>
  clear HL0;obtain⟨k,hk,rfl,rfl,hld⟩:=hrel;have HLD:=aa hld;clear hld;by_cases hk2:k<fss.length
  ·obtain⟨b,off,fa,fc,rfl,hlt,c0,hpf⟩:=ez HX.o k hk2;have HST:Ic (aq o v fss (k+1)=dG o v (aq o v fss k) k (fss.getD k [])):=rfl;have HRT:=aa (HF.o _ (cG fss k hk2));have HSB:Ic (∀j' u',aq o v fss k=some (j',u')->j'<k/\u'.2.length=N/\∀x∈u'.2,0<=x/\x<=40000):=λj' u' h=>by obtain⟨h1,us,h2⟩:=dJ h;have hr:=HF.o _ (cG fss j' (by omega));rw[h2] at hr;exact⟨h1,hr.canon.len u' (by simp),hr.bd.bd u' (by simp)⟩
   generalize aq o v fss k=st at HST HSB HLD;generalize fss.getD k []=f at c0 hpf HST HRT;have HPF:=aa hpf;have hfl2:f.length<=2000:=HRT.o.len;have HC0:=aa (ae c0 H0.o);clear hpf c0;go_wp2_with fail;go_loopw [6,9] (λs i wm=>∃m:Nat,m<=f.length/\i=.int .i64 m/\s=.int .i64 (dV (cZ o v st k f m))/\gj w0 w wm p n o v (cZ o v st k f m)) (λ_ i _=>f.length-(intOf i).toNat);case atStart=>exact⟨0,Hl _,rfl,rfl,HLD.o⟩
   case round=>
    clear HLD;obtain⟨m,hmm,rfl,rfl,hlm⟩:=hrel;have HLM:=aa hlm;have d0:=ae HC0.o hlm.below;by_cases hm2:m<f.length
    ·obtain⟨fa2,fc2,hfv,_,hat0⟩:=HPF.o;obtain⟨b2,off2,hfa,hlt2,hat⟩:=hat0 (by omega);simp only[H7,true_and] at hfv;obtain⟨e1,e2⟩:=hfv;subst e1;subst e2;subst hfa;obtain⟨t0,ev,t1,hse⟩:=hat m hm2;have HNO:=aa (λh=>yL (o:=o) (ov:=v) (st:=st) (i:=k) (f:=f) hm2 h);have HSO:=aa (λj u h=>yM (o:=o) (ov:=v) (N:=N) (st:=st) (i:=k) (f:=f) (m:=m) (j:=j) (u:=u) HOV.o HRT.o.canon.falls HRT.o.canon.len hm2 (λj' u' h'=>⟨(HSB.o j' u' h').1,(HSB.o j' u' h').2.1⟩) h);have HTE:=aa (Hg (HRT.o.canon.len _ (eA f m hm2)) (HRT.o.bd.bd _ (eA f m hm2)));have HUB:Ic (∀j u,cZ o v st k f m=some (j,u)->u.2.length=N/\∀x∈u.2,0<=x/\x<=40000):=λj u h=>by
      unfold cZ at h;split at h
      ·exact(HSB.o j u h).2
      ·cases f with
       |nil=>simp at hm2
       |cons t ts=>
        have ht:t.2.length=N/\∀x∈t.2,0<=x/\x<=40000:=⟨HRT.o.canon.len t (by simp),HRT.o.bd.bd t (by simp)⟩;cases hs:st with
        |none=>rw[hs] at h;simp only[dG,H6,Prod.mk.injEq] at h;rw[<-h.2];exact ht
        |some q=>
         obtain⟨j0,u0⟩:=q;rw[hs] at h;simp only[dG] at h;split at h
         ·simp only[H6,Prod.mk.injEq] at h;rw[<-h.2];exact ht
         ·simp only[H6,Prod.mk.injEq] at h;rw[<-h.2];exact(HSB.o j0 u0 hs).2
     generalize cZ o v st k f m=ai at HNO HSO HUB HLM hlm;generalize f.getD m aM=t at t0 hse HNO HSO HTE;have HSE:=aa hse;obtain⟨ea,ec,rfl,_⟩:=hse;have k0:=ae (ae t0 H0.o) hlm.below;have k1:=ae (ae t1 H0.o) hlm.below;clear hat0 hat t0 t1;cases ai with
     |none=>
      have HN1:=aa (HNO.o rfl);obtain⟨mm,hm1⟩:∃mm:Int,dV none=mm:=⟨_,rfl⟩;have hm0:mm<0:=by rw[<-hm1];decide
      have hd:decide (mm<0)=true:=Hi hm0;rw[hm1];clear hm1 hlm;obtain⟨ea0,ec0,hown,_⟩:=HLM.o.own;have z0:wr.cell? ⟨w.heap.size+1+1,0,none⟩=some (.int .i64 (dk none)):=hown.cellAt 0 (by omega);have z1:wr.cell? ⟨w.heap.size+1+1,1,none⟩=some (.slice ea0 (ce none).length ec0):=hown.cellAt 1 (by omega);have y0:=hown.frozenAt 0;have y1:=hown.frozenAt 1;clear hown;go_wp2_with fail;go_quiet (fail);go_wp2_with fail;go_region;all_goals
       have HLQ:=aa ((HLM.o.next (below_drewN (Hf wr.heap.size wr) (nq+1))).put k t ea ec HSE.o);go_wp2_with fail;go_roundw;case rel=>exact⟨m+1,by omega,by go_num,by rw[HN1.o];rfl,by rw[HN1.o];exact HLQ.o⟩
       case measure=>simp[intOf];omega
     |some q=>
      obtain⟨j,u⟩:=q;have HS1:=aa (HSO.o j u rfl);have HU:=aa (HUB.o j u rfl);obtain⟨mm,hmj⟩:∃mm:Int,(j:Int)=mm:=⟨_,rfl⟩;have hm0:¬mm<0:=by omega
      have hd:decide (mm<0)=false:=Hh hm0;rw[jO,hmj];rw[hmj] at HS1;have HMJ:=aa hmj;obtain⟨ea0,ec0,hown,hsu⟩:=HLM.o.own;have z1:wr.cell? ⟨w.heap.size+1+1,1,none⟩=some (.slice ea0 u.2.length ec0):=hown.cellAt 1 (by omega);have HSU:Ic (Sl w0 (.slice ea0 u.2.length ec0) u.2):=hsu;have HLL:Ic (t.2.length=u.2.length):=HTE.o.1.trans HU.o.1.symm;have ht0:0<t.2.length:=by rw[HTE.o.1];exact hN0
      have ht3:t.2.length<=3:=by rw[HTE.o.1];exact hN
      obtain⟨_,bx0,bx1,bx2,bx3⟩:=HLM.o.box;have KEEP:Ic (∀W,Below wr.heap.size wr W->(Ic (Below wr.heap.size wr W)/\W.cell? ⟨w.heap.size,0,none⟩=some (.int .i64 p)/\W.cell? ⟨w.heap.size,1,none⟩=some (.int .i64 n)/\W.cell? ⟨w.heap.size,2,none⟩=some (.int .i64 o)/\W.cell? ⟨w.heap.size,3,none⟩=some (.int .i64 v)/\W.cell? ⟨b,off+k,none⟩=some (.slice (some ⟨b2,off2,none⟩) f.length fc)/\W.cell? ⟨b2,off2+m*2+1,none⟩=some (.slice ea t.2.length ec)/\W.cell? ⟨w.heap.size+1+1,1,none⟩=some (.slice ea0 u.2.length ec0))):=
       λW hb=>⟨hb,ae bx0 hb,ae bx1 hb,ae bx2 hb,ae bx3 hb,ae d0 hb,ae k1 hb,ae z1 hb⟩
      have HK0:=aa k0;have HK1:=aa k1;have HD0:=aa d0;have HB0:Ic (Below wr.heap.size wr wr.drew):=(Hf _ _).drew;have HBL:=aa hlm.below;clear hmj hown hsu z1 bx0 bx1 bx2 bx3 hlm k0 k1;cases hb:gI o v k t.2 mm u.2
      ·rw[hb,if_neg (by simp)] at HS1;go_wp2_with fail;go_region_held (λW=>Ic (Below wr.heap.size wr W)/\W.cell? ⟨w.heap.size,0,none⟩=some (.int .i64 p)/\W.cell? ⟨w.heap.size,1,none⟩=some (.int .i64 n)/\W.cell? ⟨w.heap.size,2,none⟩=some (.int .i64 o)/\W.cell? ⟨w.heap.size,3,none⟩=some (.int .i64 v)/\W.cell? ⟨b,off+k,none⟩=some (.slice (some ⟨b2,off2,none⟩) f.length fc)/\W.cell? ⟨b2,off2+m*2+1,none⟩=some (.slice ea t.2.length ec)/\W.cell? ⟨w.heap.size+1+1,1,none⟩=some (.slice ea0 u.2.length ec0))
        (first|exact KEEP.o _ HB0.o|exact KEEP.o _ (HB0.o.trans (hb9.mono HB0.o.size)))
        (first|(go_at_call 69;refine(pi p n o v k mm _ _ t.2 u.2 _ HO.o ht0 ht3 HLL.o HTE.o.2 HU.o.2 ?_ ?_).mono ?_;exact((HSE.o.below H0.o).below HBL.o).below HB0.o;exact((HSU.o.below H0.o).below HBL.o).below HB0.o;rw[hb];rintro e w9 ⟨rfl,hb9⟩))
       have HB9:=aa (show Below wr.heap.size wr w9 from HB0.o.trans (hb9.mono HB0.o.size));clear hb9;go_wp2_with fail;go_roundw;case rel=>exact⟨m+1,by omega,by go_num,by rw[HS1.o,jO,HMJ.o],by rw[HS1.o];exact HLM.o.next HB9.o⟩
       case measure=>simp[intOf];omega
      ·rw[hb,if_pos rfl] at HS1;go_wp2_with fail;go_region_held (λW=>Ic (Below wr.heap.size wr W)/\W.cell? ⟨w.heap.size,0,none⟩=some (.int .i64 p)/\W.cell? ⟨w.heap.size,1,none⟩=some (.int .i64 n)/\W.cell? ⟨w.heap.size,2,none⟩=some (.int .i64 o)/\W.cell? ⟨w.heap.size,3,none⟩=some (.int .i64 v)/\W.cell? ⟨b,off+k,none⟩=some (.slice (some ⟨b2,off2,none⟩) f.length fc)/\W.cell? ⟨b2,off2+m*2+1,none⟩=some (.slice ea t.2.length ec)/\W.cell? ⟨w.heap.size+1+1,1,none⟩=some (.slice ea0 u.2.length ec0))
        (first|exact KEEP.o _ HB0.o|exact KEEP.o _ (HB0.o.trans (hb9.mono HB0.o.size)))
        (first|(go_at_call 69;refine(pi p n o v k mm _ _ t.2 u.2 _ HO.o ht0 ht3 HLL.o HTE.o.2 HU.o.2 ?_ ?_).mono ?_;exact((HSE.o.below H0.o).below HBL.o).below HB0.o;exact((HSU.o.below H0.o).below HBL.o).below HB0.o;rw[hb];rintro e w9 ⟨rfl,hb9⟩))
       have HB9:=aa (show Below wr.heap.size wr w9 from HB0.o.trans (hb9.mono HB0.o.size));clear hb9;have HL9:=aa (HLM.o.next HB9.o);obtain⟨ea1,ec1,hown,_⟩:=HL9.o.own;have z0:w9.cell? ⟨w.heap.size+1+1,0,none⟩=some (.int .i64 (dk (some (j,u)))):=hown.cellAt 0 (by omega);have z1:w9.cell? ⟨w.heap.size+1+1,1,none⟩=some (.slice ea1 (ce (some (j,u))).length ec1):=hown.cellAt 1 (by omega);have y0:=hown.frozenAt 0;have y1:=hown.frozenAt 1;have k0:=ae HK0.o HB9.o;have k1:=ae HK1.o HB9.o;have d0:=ae HD0.o HB9.o;clear hown;go_wp2_with fail;go_region;all_goals
        have HLQ:=aa ((HL9.o.next (Hf w9.heap.size w9).drew).put k t ea ec HSE.o);go_wp2_with fail;go_roundw;case rel=>exact⟨m+1,by omega,by go_num,by rw[HS1.o];rfl,by rw[HS1.o];exact HLQ.o⟩
        case measure=>simp[intOf];omega
    ·have e:m=f.length:=by omega
     subst e;have HFIN:Ic (cZ o v st k f f.length=aq o v fss (k+1)):=by show _=_;rw[HST.o,yK]
     rw[HFIN.o] at HLM⊢;clear hlm;go_wp2_with fail;go_roundw;case rel=>exact⟨k+1,by omega,by go_num,rfl,HLM.o⟩
     case measure=>simp[intOf];omega
  ·have e:k=fss.length:=by omega
   subst e;obtain⟨ea0,ec0,hown,hsl⟩:=HLD.o.own;have z0:wr.cell? ⟨w.heap.size+1+1,0,none⟩=some (.int .i64 (dk (aq o v fss fss.length))):=hown.cellAt 0 (by omega);have z1:wr.cell? ⟨w.heap.size+1+1,1,none⟩=some (.slice ea0 (ce (aq o v fss fss.length)).length ec0):=hown.cellAt 1 (by omega);have r0:wr.cell? ⟨w.heap.size+1,0,none⟩=some (.int .i64 0):=HLD.o.res.cellAt 0 (by omega);have r1:wr.cell? ⟨w.heap.size+1,1,none⟩=some (.slice none 0 0):=HLD.o.res.cellAt 1 (by omega);have q0:=HLD.o.res.frozenAt 0;have q1:=HLD.o.res.frozenAt 1;have HSL:=aa hsl;clear hown hsl;go_wp2_with fail;go_region;have s1:=HLD.o.res.stored 0 (.int .i64 (dk (aq o v fss fss.length)));have s2:=s1.1.stored 1 (.slice ea0 (ce (aq o v fss fss.length)).length ec0);have HBF:=aa (HLD.o.below.trans (ck (cj s1.2 s2.2) (by omega) HLD.o.below.size)).drew;have x0:=s2.1.cellAt 0 (by omega);have x1:=s2.1.cellAt 1 (by omega);clear s1 s2;go_wp2;refine Hn (v:=.tuple #[.int .i64 (dV (aq o v fss fss.length)),.agg #[.int .i64 (dk (aq o v fss fss.length)),.slice ea0 (ce (aq o v fss fss.length)).length ec0]]) (by simp at x0 x1;simp[results,Tryz.results27,go_sem,x0,x1]) rfl ⟨ea0,ec0,rfl,HSL.o,HBF.o⟩
structure yi(p o:Int)(N:Nat)(f:List Tm):Prop where
 canon:bk p o N f
 bd:∀t∈f,∀x∈t.2,0<=x/\x<=40000
 len:f.length<=600000000000
theorem Eg(w0:World)(p n o v:Int)(N:Nat)(x:Value)(fss:List (List Tm))(w:World)(h0:Below w0.heap.size w0 w)(hov:v=1\/v=2)(ho:o=1\/o=2)(hN0:0<N)(hN:N<=3)(hm:fss.length<=1000)(hf:∀f∈fss,yi p o N f)(pf:Vl w0 x fss):Calls prog 27 #[az p n o v,x] w λe w'=>∃ea ec,e=.returned (.tuple #[.int .i64 (dV (aq o v fss fss.length)),.agg #[.int .i64 (dk (aq o v fss fss.length)),.slice ea (ce (aq o v fss fss.length)).length ec]])/\Sl w0 (.slice ea (ce (aq o v fss fss.length)).length ec) (ce (aq o v fss fss.length))/\Below w.heap.size w w':=by
 have H0:=aa h0;clear h0;have HX:=aa pf;have HF:=aa hf;have HO:=aa ho;have HOV:=aa hov;have HL0:=aa (gj.first w0 w p n o v);obtain⟨ax,cx,rfl,_⟩:=pf;clear hf ho hov;go_enter func27,ntmps27;go_wp2_with fail;go_loopw [6,8] (λs i wr=>∃k:Nat,k<=fss.length/\i=.int .i64 k/\s=.int .i64 (dV (aq o v fss k))/\gj w0 w wr p n o v (aq o v fss k)) (λ_ i _=>fss.length-(intOf i).toNat);case atStart=>exact⟨0,Hl _,rfl,rfl,HL0.o⟩
 case round=>
  clear HL0;obtain⟨k,hk,rfl,rfl,hld⟩:=hrel;have HLD:=aa hld;clear hld;by_cases hk2:k<fss.length
  ·obtain⟨b,off,fa,fc,rfl,hlt,c0,hpf⟩:=ez HX.o k hk2;have HST:Ic (aq o v fss (k+1)=dG o v (aq o v fss k) k (fss.getD k [])):=rfl;have HRT:=aa (HF.o _ (cG fss k hk2));have HSB:Ic (∀j' u',aq o v fss k=some (j',u')->j'<k/\u'.2.length=N/\∀x∈u'.2,0<=x/\x<=40000):=λj' u' h=>by obtain⟨h1,us,h2⟩:=dJ h;have hr:=HF.o _ (cG fss j' (by omega));rw[h2] at hr;exact⟨h1,hr.canon.len u' (by simp),hr.bd u' (by simp)⟩
   generalize aq o v fss k=st at HST HSB HLD;generalize fss.getD k []=f at c0 hpf HST HRT;have HPF:=aa hpf;have hfl2:f.length<=600000000000:=HRT.o.len;have HC0:=aa (ae c0 H0.o);clear hpf c0;go_wp2_with fail;go_loopw [6,9] (λs i wm=>∃m:Nat,m<=f.length/\i=.int .i64 m/\s=.int .i64 (dV (cZ o v st k f m))/\gj w0 w wm p n o v (cZ o v st k f m)) (λ_ i _=>f.length-(intOf i).toNat);case atStart=>exact⟨0,Hl _,rfl,rfl,HLD.o⟩
   case round=>
    clear HLD;obtain⟨m,hmm,rfl,rfl,hlm⟩:=hrel;have HLM:=aa hlm;have d0:=ae HC0.o hlm.below;by_cases hm2:m<f.length
    ·obtain⟨fa2,fc2,hfv,_,hat0⟩:=HPF.o;obtain⟨b2,off2,hfa,hlt2,hat⟩:=hat0 (by omega);simp only[H7,true_and] at hfv;obtain⟨e1,e2⟩:=hfv;subst e1;subst e2;subst hfa;obtain⟨t0,ev,t1,hse⟩:=hat m hm2;have HNO:=aa (λh=>yL (o:=o) (ov:=v) (st:=st) (i:=k) (f:=f) hm2 h);have HSO:=aa (λj u h=>yM (o:=o) (ov:=v) (N:=N) (st:=st) (i:=k) (f:=f) (m:=m) (j:=j) (u:=u) HOV.o HRT.o.canon.falls HRT.o.canon.len hm2 (λj' u' h'=>⟨(HSB.o j' u' h').1,(HSB.o j' u' h').2.1⟩) h);have HTE:=aa (Hg (HRT.o.canon.len _ (eA f m hm2)) (HRT.o.bd _ (eA f m hm2)));have HUB:Ic (∀j u,cZ o v st k f m=some (j,u)->u.2.length=N/\∀x∈u.2,0<=x/\x<=40000):=λj u h=>by
      unfold cZ at h;split at h
      ·exact(HSB.o j u h).2
      ·cases f with
       |nil=>simp at hm2
       |cons t ts=>
        have ht:t.2.length=N/\∀x∈t.2,0<=x/\x<=40000:=⟨HRT.o.canon.len t (by simp),HRT.o.bd t (by simp)⟩;cases hs:st with
        |none=>rw[hs] at h;simp only[dG,H6,Prod.mk.injEq] at h;rw[<-h.2];exact ht
        |some q=>
         obtain⟨j0,u0⟩:=q;rw[hs] at h;simp only[dG] at h;split at h
         ·simp only[H6,Prod.mk.injEq] at h;rw[<-h.2];exact ht
         ·simp only[H6,Prod.mk.injEq] at h;rw[<-h.2];exact(HSB.o j0 u0 hs).2
     generalize cZ o v st k f m=ai at HNO HSO HUB HLM hlm;generalize f.getD m aM=t at t0 hse HNO HSO HTE;have HSE:=aa hse;obtain⟨ea,ec,rfl,_⟩:=hse;have k0:=ae (ae t0 H0.o) hlm.below;have k1:=ae (ae t1 H0.o) hlm.below;clear hat0 hat t0 t1;cases ai with
     |none=>
      have HN1:=aa (HNO.o rfl);obtain⟨mm,hm1⟩:∃mm:Int,dV none=mm:=⟨_,rfl⟩;have hm0:mm<0:=by rw[<-hm1];decide
      have hd:decide (mm<0)=true:=Hi hm0;rw[hm1];clear hm1 hlm;obtain⟨ea0,ec0,hown,_⟩:=HLM.o.own;have z0:wr.cell? ⟨w.heap.size+1+1,0,none⟩=some (.int .i64 (dk none)):=hown.cellAt 0 (by omega);have z1:wr.cell? ⟨w.heap.size+1+1,1,none⟩=some (.slice ea0 (ce none).length ec0):=hown.cellAt 1 (by omega);have y0:=hown.frozenAt 0;have y1:=hown.frozenAt 1;clear hown;go_wp2_with fail;go_quiet (fail);go_wp2_with fail;go_region;all_goals
       have HLQ:=aa ((HLM.o.next (below_drewN (Hf wr.heap.size wr) (nq+1))).put k t ea ec HSE.o);go_wp2_with fail;go_roundw;case rel=>exact⟨m+1,by omega,by go_num,by rw[HN1.o];rfl,by rw[HN1.o];exact HLQ.o⟩
       case measure=>simp[intOf];omega
     |some q=>
      obtain⟨j,u⟩:=q;have HS1:=aa (HSO.o j u rfl);have HU:=aa (HUB.o j u rfl);obtain⟨mm,hmj⟩:∃mm:Int,(j:Int)=mm:=⟨_,rfl⟩;have hm0:¬mm<0:=by omega
      have hd:decide (mm<0)=false:=Hh hm0;rw[jO,hmj];rw[hmj] at HS1;have HMJ:=aa hmj;obtain⟨ea0,ec0,hown,hsu⟩:=HLM.o.own;have z1:wr.cell? ⟨w.heap.size+1+1,1,none⟩=some (.slice ea0 u.2.length ec0):=hown.cellAt 1 (by omega);have HSU:Ic (Sl w0 (.slice ea0 u.2.length ec0) u.2):=hsu;have HLL:Ic (t.2.length=u.2.length):=HTE.o.1.trans HU.o.1.symm;have ht0:0<t.2.length:=by rw[HTE.o.1];exact hN0
      have ht3:t.2.length<=3:=by rw[HTE.o.1];exact hN
      obtain⟨_,bx0,bx1,bx2,bx3⟩:=HLM.o.box;have KEEP:Ic (∀W,Below wr.heap.size wr W->(Ic (Below wr.heap.size wr W)/\W.cell? ⟨w.heap.size,0,none⟩=some (.int .i64 p)/\W.cell? ⟨w.heap.size,1,none⟩=some (.int .i64 n)/\W.cell? ⟨w.heap.size,2,none⟩=some (.int .i64 o)/\W.cell? ⟨w.heap.size,3,none⟩=some (.int .i64 v)/\W.cell? ⟨b,off+k,none⟩=some (.slice (some ⟨b2,off2,none⟩) f.length fc)/\W.cell? ⟨b2,off2+m*2+1,none⟩=some (.slice ea t.2.length ec)/\W.cell? ⟨w.heap.size+1+1,1,none⟩=some (.slice ea0 u.2.length ec0))):=
       λW hb=>⟨hb,ae bx0 hb,ae bx1 hb,ae bx2 hb,ae bx3 hb,ae d0 hb,ae k1 hb,ae z1 hb⟩
      have HK0:=aa k0;have HK1:=aa k1;have HD0:=aa d0;have HB0:Ic (Below wr.heap.size wr wr.drew):=(Hf _ _).drew;have HBL:=aa hlm.below;clear hmj hown hsu z1 bx0 bx1 bx2 bx3 hlm k0 k1;cases hb:gI o v k t.2 mm u.2
      ·rw[hb,if_neg (by simp)] at HS1;go_wp2_with fail;go_region_held (λW=>Ic (Below wr.heap.size wr W)/\W.cell? ⟨w.heap.size,0,none⟩=some (.int .i64 p)/\W.cell? ⟨w.heap.size,1,none⟩=some (.int .i64 n)/\W.cell? ⟨w.heap.size,2,none⟩=some (.int .i64 o)/\W.cell? ⟨w.heap.size,3,none⟩=some (.int .i64 v)/\W.cell? ⟨b,off+k,none⟩=some (.slice (some ⟨b2,off2,none⟩) f.length fc)/\W.cell? ⟨b2,off2+m*2+1,none⟩=some (.slice ea t.2.length ec)/\W.cell? ⟨w.heap.size+1+1,1,none⟩=some (.slice ea0 u.2.length ec0))
        (first|exact KEEP.o _ HB0.o|exact KEEP.o _ (HB0.o.trans (hb9.mono HB0.o.size)))
        (first|(go_at_call 69;refine(pi p n o v k mm _ _ t.2 u.2 _ HO.o ht0 ht3 HLL.o HTE.o.2 HU.o.2 ?_ ?_).mono ?_;exact((HSE.o.below H0.o).below HBL.o).below HB0.o;exact((HSU.o.below H0.o).below HBL.o).below HB0.o;rw[hb];rintro e w9 ⟨rfl,hb9⟩))
       have HB9:=aa (show Below wr.heap.size wr w9 from HB0.o.trans (hb9.mono HB0.o.size));clear hb9;go_wp2_with fail;go_roundw;case rel=>exact⟨m+1,by omega,by go_num,by rw[HS1.o,jO,HMJ.o],by rw[HS1.o];exact HLM.o.next HB9.o⟩
       case measure=>simp[intOf];omega
      ·rw[hb,if_pos rfl] at HS1;go_wp2_with fail;go_region_held (λW=>Ic (Below wr.heap.size wr W)/\W.cell? ⟨w.heap.size,0,none⟩=some (.int .i64 p)/\W.cell? ⟨w.heap.size,1,none⟩=some (.int .i64 n)/\W.cell? ⟨w.heap.size,2,none⟩=some (.int .i64 o)/\W.cell? ⟨w.heap.size,3,none⟩=some (.int .i64 v)/\W.cell? ⟨b,off+k,none⟩=some (.slice (some ⟨b2,off2,none⟩) f.length fc)/\W.cell? ⟨b2,off2+m*2+1,none⟩=some (.slice ea t.2.length ec)/\W.cell? ⟨w.heap.size+1+1,1,none⟩=some (.slice ea0 u.2.length ec0))
        (first|exact KEEP.o _ HB0.o|exact KEEP.o _ (HB0.o.trans (hb9.mono HB0.o.size)))
        (first|(go_at_call 69;refine(pi p n o v k mm _ _ t.2 u.2 _ HO.o ht0 ht3 HLL.o HTE.o.2 HU.o.2 ?_ ?_).mono ?_;exact((HSE.o.below H0.o).below HBL.o).below HB0.o;exact((HSU.o.below H0.o).below HBL.o).below HB0.o;rw[hb];rintro e w9 ⟨rfl,hb9⟩))
       have HB9:=aa (show Below wr.heap.size wr w9 from HB0.o.trans (hb9.mono HB0.o.size));clear hb9;have HL9:=aa (HLM.o.next HB9.o);obtain⟨ea1,ec1,hown,_⟩:=HL9.o.own;have z0:w9.cell? ⟨w.heap.size+1+1,0,none⟩=some (.int .i64 (dk (some (j,u)))):=hown.cellAt 0 (by omega);have z1:w9.cell? ⟨w.heap.size+1+1,1,none⟩=some (.slice ea1 (ce (some (j,u))).length ec1):=hown.cellAt 1 (by omega);have y0:=hown.frozenAt 0;have y1:=hown.frozenAt 1;have k0:=ae HK0.o HB9.o;have k1:=ae HK1.o HB9.o;have d0:=ae HD0.o HB9.o;clear hown;go_wp2_with fail;go_region;all_goals
        have HLQ:=aa ((HL9.o.next (Hf w9.heap.size w9).drew).put k t ea ec HSE.o);go_wp2_with fail;go_roundw;case rel=>exact⟨m+1,by omega,by go_num,by rw[HS1.o];rfl,by rw[HS1.o];exact HLQ.o⟩
        case measure=>simp[intOf];omega
    ·have e:m=f.length:=by omega
     subst e;have HFIN:Ic (cZ o v st k f f.length=aq o v fss (k+1)):=by show _=_;rw[HST.o,yK]
     rw[HFIN.o] at HLM⊢;clear hlm;go_wp2_with fail;go_roundw;case rel=>exact⟨k+1,by omega,by go_num,rfl,HLM.o⟩
     case measure=>simp[intOf];omega
  ·have e:k=fss.length:=by omega
   subst e;obtain⟨ea0,ec0,hown,hsl⟩:=HLD.o.own;have z0:wr.cell? ⟨w.heap.size+1+1,0,none⟩=some (.int .i64 (dk (aq o v fss fss.length))):=hown.cellAt 0 (by omega);have z1:wr.cell? ⟨w.heap.size+1+1,1,none⟩=some (.slice ea0 (ce (aq o v fss fss.length)).length ec0):=hown.cellAt 1 (by omega);have r0:wr.cell? ⟨w.heap.size+1,0,none⟩=some (.int .i64 0):=HLD.o.res.cellAt 0 (by omega);have r1:wr.cell? ⟨w.heap.size+1,1,none⟩=some (.slice none 0 0):=HLD.o.res.cellAt 1 (by omega);have q0:=HLD.o.res.frozenAt 0;have q1:=HLD.o.res.frozenAt 1;have HSL:=aa hsl;clear hown hsl;go_wp2_with fail;go_region;have s1:=HLD.o.res.stored 0 (.int .i64 (dk (aq o v fss fss.length)));have s2:=s1.1.stored 1 (.slice ea0 (ce (aq o v fss fss.length)).length ec0);have HBF:=aa (HLD.o.below.trans (ck (cj s1.2 s2.2) (by omega) HLD.o.below.size)).drew;have x0:=s2.1.cellAt 0 (by omega);have x1:=s2.1.cellAt 1 (by omega);clear s1 s2;go_wp2;refine Hn (v:=.tuple #[.int .i64 (dV (aq o v fss fss.length)),.agg #[.int .i64 (dk (aq o v fss fss.length)),.slice ea0 (ce (aq o v fss fss.length)).length ec0]]) (by simp at x0 x1;simp[results,Tryz.results27,go_sem,x0,x1]) rfl ⟨ea0,ec0,rfl,HSL.o,HBF.o⟩
structure mB(p o:Int)(N:Nat)(f:List Tm):Prop where
 canon:bk p o N f
 bd:fR f
 len:f.length<=2000
theorem pT(p n o v:Int)(N:Nat)(x y:Value)(f:List Tm)(gss:List (List Tm))(w:World)(hp:2<=p/\p<=101)(ho:o=1\/o=2)(hN0:0<N)(hN:N<=3)(hm:gss.length<=1000)(hf:mB p o N f)(hg:∀g∈gss,cN p o N g)(pf:Pl w x f)(pg:Vl w y gss):Calls prog 46 #[az p n o v,x,y] w λe w'=>∃u,e=.returned u/\Vl w' u (aN p o f gss)/\Below w.heap.size w w':=by
 have HX:=aa pf;have HY:=aa pg;have HF:=aa hf;have HG:=aa hg;have HP:=aa hp;have HO:=aa ho;obtain⟨ax,cx,rfl,_,_⟩:=pf;obtain⟨ay,cy,rfl,_⟩:=pg;unfold aN;clear hf hg hp ho;obtain⟨w1,hw1⟩:∃w1,w1=w.alloc (.cells #[.int .i64 p,.int .i64 n,.int .i64 o,.int .i64 v] 23):=⟨_,rfl⟩;have hbx:aX w1 w.heap.size p n o v:=by rw[hw1];exact aX.new w p n o v _
 have hbw:Below w.heap.size w w1:=by rw[hw1];exact bp
 have HBX:=aa hbx;have HBW:=aa hbw;clear hbx hbw;go_enter func46,ntmps46;go_wp2_with fail;rw[<-hw1];clear hw1;go_loopw [7,8] (λz i wr=>∃(k:Nat)(us:List Value),k<=gss.length/\i=.int .i64 k/\cl w1.heap.size wr z us (((gss.map λg=>aG p o (aB p f g))).take k)/\Below w1.heap.size w1 wr) (λ_ i _=>gss.length-(intOf i).toNat);case atStart=>exact⟨0,[],Hl _,rfl,cl.nil _ _,Hf _ _⟩
 case round=>
  obtain⟨k,us,hk,rfl,hrow,hbr⟩:=hrel;have HROW:=aa hrow;have HBR:=aa hbr;obtain⟨ys,hys⟩:∃ys,((gss.map λg=>aG p o (aB p f g))).take k=ys:=⟨_,rfl⟩;have HTL:Ic (ys.length=k):=by show _=_;rw[<-hys,List.length_take,Ia];omega
  rw[hys] at hrow HROW;have HYS:=aa hys;clear hys;obtain⟨za,zc,hz⟩:=cq hrow.own;subst hz;clear hrow hbr;by_cases hk2:k<gss.length
  ·obtain⟨b2,off2,ga,gc,rfl,hlt2,d0,hpg⟩:=ez HY.o k hk2;have HDN:=aa (HBW.o.trans (HBR.o.mono HBW.o.size));have HTS:Ic (((gss.map λg=>aG p o (aB p f g))).take (k+1)=ys++[aG p o (aB p f (gss.getD k []))]):=by show _=_;rw[<-HYS.o,nN _ _ (by rw[Ia];exact hk2),kh (λg=>aG p o (aB p f g)) _ _ hk2]
   have HGK:=aa (HG.o _ (cG gss k hk2));generalize gss.getD k []=g at d0 hpg HTS HGK;have HPG:=aa (hpg.below HBW.o);clear hpg;obtain⟨_,bx0,bx1,bx2,bx3⟩:=HBX.o;have KEEP:Ic (∀W,Below w1.heap.size w1 W->(Ic (Below w1.heap.size w1 W)/\W.cell? ⟨w.heap.size,0,none⟩=some (.int .i64 p)/\W.cell? ⟨w.heap.size,1,none⟩=some (.int .i64 n)/\W.cell? ⟨w.heap.size,2,none⟩=some (.int .i64 o)/\W.cell? ⟨w.heap.size,3,none⟩=some (.int .i64 v)/\W.cell? ⟨b2,off2+k,none⟩=some (.slice ga g.length gc))):=
    λW hb=>⟨hb,ae bx0 hb,ae bx1 hb,ae bx2 hb,ae bx3 hb,ae (ae d0 HBW.o) hb⟩
   have HB0:Ic (Below w1.heap.size w1 wr.drew):=HBR.o.drew;clear bx0 bx1 bx2 bx3 d0;go_wp2;go_region_held_law (λW=>Ic (Below w1.heap.size w1 W)/\W.cell? ⟨w.heap.size,0,none⟩=some (.int .i64 p)/\W.cell? ⟨w.heap.size,1,none⟩=some (.int .i64 n)/\W.cell? ⟨w.heap.size,2,none⟩=some (.int .i64 o)/\W.cell? ⟨w.heap.size,3,none⟩=some (.int .i64 v)/\W.cell? ⟨b2,off2+k,none⟩=some (.slice ga g.length gc))
    (first|exact KEEP.o _ HB0.o|exact KEEP.o _ HB7.o|exact KEEP.o _ (HB6.o.trans (af.mono HB6.o.size))|exact KEEP.o _ HB6.o)
    (first|(refine r7 rfl (.tmp 15) (.tmp 23) 33 rfl underlying33 w1.heap.size (.slice za ys.length zc) us ys (by simp[Act.eval,Act.put]) (PR6.o.next af) ⟨w6.heap.size,0,none⟩ 1 (.slice ua6 (aG p o (aB p f g)).length uc6) (aG p o (aB p f g)) (HU6.o.below af) (by simp[Act.eval,Act.put]) (ns _ _ _) (by rw[HTL.o];omega) (Hk HB6.o.size (by simp)) ?_;intro v7 w7 r1 r2;have HB7:=aa (show Below w1.heap.size w1 w7 from (PR6.o.next af).grown (HB6.o.trans (af.mono HB6.o.size)) r2 (He _));obtain⟨va7,vc7,hv7⟩:=cq r1.own;rw[jT] at hv7;subst hv7;have HR7:=aa r1;clear r1 r2)|(go_at_call 89;refine(Fy p n o v N _ _ f g _ HP.o HO.o hN0 hN HF.o.canon.len HGK.o.canon.len ?_ ?_ HF.o.bd HGK.o.bd HF.o.len HGK.o.len ?_ ?_).mono ?_;exact(λt ht=>⟨by have:=HF.o.canon.coef t ht;omega,(HF.o.canon.coef t ht).2⟩);exact(λt ht=>⟨by have:=HGK.o.canon.coef t ht;omega,(HGK.o.canon.coef t ht).2⟩);exact(HX.o.below HBW.o).below HB0.o;exact HPG.o.below HB0.o;rintro e w6 ⟨u6,rfl,hu6,hb6⟩;have PR6:=aa (HROW.o.next (((Hf wr.heap.size wr).drew).trans hb6));have HB6:=aa (show Below w1.heap.size w1 w6 from HB0.o.trans (hb6.mono HB0.o.size));have HU6:=aa hu6;obtain⟨ua6,uc6,rfl,_,_⟩:=hu6;clear hb6))
   all_goals
    go_wp2;first
     |exact⟨⟨k+1,us++[_],by omega,by go_num,by rw[HTS.o];exact HR7.o,HB7.o⟩,by simp[intOf];omega⟩
     |(go_roundw;(case rel=>exact⟨k+1,us++[_],by omega,by go_num,by rw[HTS.o];exact HR7.o,HB7.o⟩);case measure=>simp[intOf];omega)
  ·have e:k=gss.length:=by omega
   subst e;have HE:Ic ((gss.map λg=>aG p o (aB p f g))=ys):=by show _=_;rw[<-HYS.o,Hz (by rw[Ia];exact He _)]
   have HV:=aa HROW.o.vl;go_wp2;go_ret;exact⟨_,rfl,by rw[HE.o];exact HV.o,HBW.o.trans (HBR.o.mono HBW.o.size)⟩
end Go.Proofs.YtglijodcbdcngaaGreat
