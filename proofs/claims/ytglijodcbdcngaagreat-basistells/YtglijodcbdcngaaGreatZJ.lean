/- NewOrder. -/
import Derived.Test.YtglijodcbdcngaaGreatRE
import Derived.Test.YtglijodcbdcngaaGreatRC
set_option maxHeartbeats 2000000
set_option maxRecDepth 100000
namespace Go.Proofs.YtglijodcbdcngaaGreat
set_option linter.unusedSimpArgs false
set_option linter.unusedVariables false
open Go.Proofs.Tryz Go.RowKit
theorem Tryz.infoI64Z:(prog.info? 2).map (λi=>(i.zero,i.size,i.bytes))=some (some (.int .i64 0),1,8):=by kernel_rfl
structure dH(w wr:World)(p n o v k0 k1 k2:Int)(sv:Value)(ss:List Int):Prop where
 below:Below w.heap.size w wr
 box:aX wr w.heap.size p n o v
 own:wr.ownsRow w.heap.size 141 5 (.slice (some ⟨w.heap.size+1,0,none⟩) 1 1) 1 [.int .u32 p,.int .i64 k0,.int .i64 k1,.int .i64 k2,sv]
 st:wr.ownsRow (w.heap.size+1+1) 2 1 sv ss.length (ss.map (Value.int .i64))
 ge:w.heap.size+1+1<=wr.heap.size
theorem dH.next{w wr w':World}{p n o v k0 k1 k2:Int}{sv:Value}{ss:List Int}(h:dH w wr p n o v k0 k1 k2 sv ss)(hb:Below wr.heap.size wr w'):dH w w' p n o v k0 k1 k2 sv ss:=
 ⟨h.below.trans (hb.mono h.below.size),h.box.below hb,aH h.own hb,aH h.st hb,Hk h.ge hb.size⟩
theorem dH.first(w:World)(p n o v:Int):dH w ((w.alloc (.cells #[.int .i64 p,.int .i64 n,.int .i64 o,.int .i64 v] 23)).alloc (.cells #[.int .u32 p,.int .i64 0,.int .i64 0,.int .i64 0,.slice none 0 0] 141)) p n o v 0 0 0 (.slice none 0 0) []:=by refine⟨cW,(aX.new w p n o v _).below af,?_,World.ownsRow_nil _ _ _ _,by simp⟩;exact⟨by simp,.inr ⟨w.heap.size+1,1,_,rfl,by omega,by have:=heap_alloc_new (w.alloc (.cells #[.int .i64 p,.int .i64 n,.int .i64 o,.int .i64 v] 23)) (.cells #[.int .u32 p,.int .i64 0,.int .i64 0,.int .i64 0,.slice none 0 0] 141);simpa using this,He _,by decide,by simp,by simp⟩⟩
theorem dH.put{w wr:World}{p n o v k0 k1 k2 l0 l1 l2:Int}{sv sv2:Value}{ss:List Int}(h:dH w wr p n o v k0 k1 k2 sv ss)(j:Nat)(u:Value)(he:([.int .u32 p,.int .i64 k0,.int .i64 k1,.int .i64 k2,sv]:List Value).set j u=[.int .u32 p,.int .i64 l0,.int .i64 l1,.int .i64 l2,sv2])(hs:(wr.setCell ⟨w.heap.size+1,j,none⟩ u).ownsRow (w.heap.size+1+1) 2 1 sv2 ss.length (ss.map (Value.int .i64))):dH w (wr.setCell ⟨w.heap.size+1,j,none⟩ u) p n o v l0 l1 l2 sv2 ss:=by have s1:=h.own.stored j u;rw[he] at s1;have far:=λo=>iX (o:=o) (b:=w.heap.size) s1.2 h.box.1 (by omega);obtain⟨bl,b0,b1,b2,b3⟩:=h.box;exact⟨h.below.trans (ck s1.2 (by omega) h.below.size),⟨Hj bl s1.2.size,by rw[far];exact b0,by rw[far];exact b1,by rw[far];exact b2,by rw[far];exact b3⟩,s1.1,hs,Hk h.ge s1.2.size⟩
theorem dH.putK{w wr:World}{p n o v k0 k1 k2 l0 l1 l2:Int}{sv:Value}{ss:List Int}(h:dH w wr p n o v k0 k1 k2 sv ss)(j:Nat)(u:Value)(he:([.int .u32 p,.int .i64 k0,.int .i64 k1,.int .i64 k2,sv]:List Value).set j u=[.int .u32 p,.int .i64 l0,.int .i64 l1,.int .i64 l2,sv]):dH w (wr.setCell ⟨w.heap.size+1,j,none⟩ u) p n o v l0 l1 l2 sv ss:=
 h.put j u he (h.st.kept (h.own.stored j u).2 (by
  cases ho:sv.ownBlock with
  |none=>exact Or.inl rfl
  |some g=>right;have:=(Hd h.st g ho).1;simp[Value.ownBlock];omega))
theorem dH.grow{w wr w5:World}{p n o v k0 k1 k2 x:Int}{sv v5:Value}{ss:List Int}(h:dH w wr p n o v k0 k1 k2 sv ss)(h5:w5.ownsRow (w.heap.size+1+1) 2 1 v5 (ss.length+1) (ss.map (Value.int .i64)++[.int .i64 x]))(hg:wr.grownBy w5 sv.ownBlock):dH w (w5.setCell ⟨w.heap.size+1,4,none⟩ v5) p n o v k0 k1 k2 v5 (ss++[x]):=by
 have hlt:∀g,sv.ownBlock=some g->w.heap.size+1+1<=g:=λg e=>(Hd h.st g e).1;have o5:=h.own.kept hg (by
  right;intro e;have:=hlt (w.heap.size+1) (by rw[<-e];rfl);omega)
 have b5:Below (w.heap.size+1) wr w5:=(Hf _ _).grown hg (Hk (by omega) h.ge) (λk hk=>by have:=hlt k hk;omega);have s1:=o5.stored 4 v5;have b6:Below (w.heap.size+1) wr (w5.setCell ⟨w.heap.size+1,4,none⟩ v5):=b5.trans (ck s1.2 (He _) (by have:=h.ge;have:=b5.size;omega));have far:∀o,(w5.setCell ⟨w.heap.size+1,4,none⟩ v5).cell? ⟨w.heap.size,o,none⟩=wr.cell? ⟨w.heap.size,o,none⟩:=λo=>World.cell?_of_block (b6.block w.heap.size (by omega));obtain⟨bl,b0,b1,b2,b3⟩:=h.box;refine⟨h.below.trans (b6.mono (by omega)),⟨Hj bl b6.size,by rw[far];exact b0,by rw[far];exact b1,by rw[far];exact b2,by rw[far];exact b3⟩,by have h:=s1.1;exact h,?_,Hk h.ge b6.size⟩;have h6:=h5.kept s1.2 (by
  right;intro e;have:=(Hd h5 (w.heap.size+1) e).1;omega)
 simpa using h6
theorem dH.mid{w wr w5:World}{p n o v k0 k1 k2:Int}{sv:Value}{ss:List Int}(h:dH w wr p n o v k0 k1 k2 sv ss)(hg:wr.grownBy w5 sv.ownBlock):w5.ownsRow w.heap.size 141 5 (.slice (some ⟨w.heap.size+1,0,none⟩) 1 1) 1 [.int .u32 p,.int .i64 k0,.int .i64 k1,.int .i64 k2,sv]:=
 h.own.kept hg (by
  right;intro e;have:=(Hd h.st (w.heap.size+1) (by rw[<-e];rfl)).1;omega)
theorem sB(wr:World)(x:Int)(T:TypeId):∀j u,[Value.int .i64 x][j]?=some u->(wr.alloc (.cells #[.int .i64 x] T)).drew.cell? ((⟨wr.heap.size,0,none⟩:Addr).add j)=some u:=by intro j u hj;show (wr.alloc (.cells #[.int .i64 x] T)).cell? _=_;exact cell_one_new _ _ _ j u hj
theorem sC(wr:World)(x:Int)(T:TypeId):∀j u,[Value.int .i64 x][j]?=some u->(wr.drew.alloc (.cells #[.int .i64 x] T)).cell? ((⟨wr.heap.size,0,none⟩:Addr).add j)=some u:=by intro j u hj;exact cell_one_new wr.drew _ _ j u hj
def aU(o:Int)(n k i:Nat):Int:=if i<k/\i<n then iY o i else 0
theorem yW(p o:Int)(n k:Nat)(sv:Value)(h:k<n)(h3:n<=3):([.int .u32 p,.int .i64 (aU o n k 0),.int .i64 (aU o n k 1),.int .i64 (aU o n k 2),sv]:List Value).set (1+k) (.int .i64 (iY o k))=[.int .u32 p,.int .i64 (aU o n (k+1) 0),.int .i64 (aU o n (k+1) 1),.int .i64 (aU o n (k+1) 2),sv]:=by
 have hk:k=0\/k=1\/k=2:=by omega
 have hn:n=1\/n=2\/n=3:=by omega
 rcases hk with rfl|rfl|rfl<;>rcases hn with rfl|rfl|rfl<;>first|(exfalso;omega)|rfl
theorem Gy(p o v:Int)(n R:Nat)(w:World)(hp:2<=p/\p<=101)(ho:o=1\/o=2)(hv:v=1\/v=2)(hn:n<=3)(hR:R<=200):Calls prog 58 #[az p n o v,.int .i64 R,.int .i64 0] w λe w'=>∃ob sv,e=.returned (.pointer (some ⟨ob,0,none⟩))/\aQ w' ob p (aU o n n 0) (aU o n n 1) (aU o n n 2) sv/\Sl w' sv ((List.range R).map λi:Nat=>bG v (i:Int))/\Below w.heap.size w w':=by
 have HO:=aa ho;have HV:=aa hv;obtain⟨hp0,hp1⟩:=hp;have hwp:IntKind.u32.wrap p=p:=by rw[IntKind.wrap_u32];omega
 have H0:=aa (dH.first w p n o v);obtain⟨w1,hw1⟩:∃w1,w1=(w.alloc (.cells #[.int .i64 p,.int .i64 n,.int .i64 o,.int .i64 v] 23)).alloc (.cells #[.int .u32 p,.int .i64 0,.int .i64 0,.int .i64 0,.slice none 0 0] 141):=⟨_,rfl⟩;rw[<-hw1] at H0;clear ho hv;go_enter func58,ntmps58;go_wp2_with fail;rw[<-hw1];clear hw1;go_loopw [18] (λi wr=>∃k:Nat,k<=n/\i=.int .i64 k/\dH w wr p n o v (aU o n k 0) (aU o n k 1) (aU o n k 2) (.slice none 0 0) []) (λi _=>n-(intOf i).toNat);case atStart=>exact⟨0,Hl _,rfl,H0.o⟩
 case round=>
  clear H0;obtain⟨k,hk,rfl,ht⟩:=hrel;have HT:=aa ht;clear ht;by_cases hk2:k<n
  ·obtain⟨_,b0,b1,b2,b3⟩:=HT.o.box;have HWT:=aa (fun(W:World)=>yR o k W HO.o (by omega));have HSET:=aa (yW p o n k (.slice none 0 0) hk2 hn);have z1:∃u,wr.cell? ⟨w.heap.size+1,1+k,none⟩=some u:=by have h:=HT.o.own.cellAt (1+k) (by omega);rw[Ht (by simp;omega)] at h;exact⟨_,h⟩
   obtain⟨u,z1⟩:=z1;have z2:=HT.o.own.frozenAt (1+k);have hk3:(k:Int)<3:=by omega
   generalize iY o k=wk at HWT HSET;go_wp2;go_region_with (go_at_call 96;refine(HWT.o _).mono ?_;rintro e w8 ⟨rfl,rfl⟩);all_goals
    go_wp2;go_roundw;case rel=>exact⟨k+1,by omega,by go_num,by first|exact(HT.o.next (Hf _ _).drew).putK _ _ HSET.o|exact(HT.o.putK _ _ HSET.o).next (Hf _ _).drew⟩
    case measure=>simp[intOf];omega
  ·have e:k=n:=by omega
   subst e;generalize hg0:aU o k k 0=g0 at HT;generalize hg1:aU o k k 1=g1 at HT;generalize hg2:aU o k k 2=g2 at HT;have HG:=aa (Hg hg0 (Hg hg1 hg2));clear hg0 hg1 hg2;go_wp2;go_loopw [32] (λi wr=>∃(m:Nat)(sv:Value),m<=R/\i=.int .i64 m/\dH w wr p k o v g0 g1 g2 sv ((List.range m).map λi:Nat=>bG v (i:Int))) (λi _=>R-(intOf i).toNat);case atStart=>exact⟨0,_,Hl _,rfl,HT.o⟩
   case round=>
    clear HT;obtain⟨m,sv,hm,rfl,ht⟩:=hrel;have HT:=aa ht;clear ht;by_cases hm2:m<R
    ·obtain⟨_,b0,b1,b2,b3⟩:=HT.o.box;have HSA:=aa (fun(W:World)=>sr v m W HV.o (by omega));have HR:Ic (((List.range (m+1)).map λi:Nat=>bG v (i:Int))=((List.range m).map λi:Nat=>bG v (i:Int))++[bG v m]):=by show _=_;rw[List.range_succ];simp
     have HL:Ic (((List.range m).map λi:Nat=>bG v (i:Int)).length=m):=by show _=_;simp
     generalize ((List.range m).map λi:Nat=>bG v (i:Int))=ss at HT HR HL;generalize bG v m=x at HSA HR;have z1:wr.cell? ⟨w.heap.size+1,4,none⟩=some sv:=HT.o.own.cellAt 4 (by omega);have z2:=HT.o.own.frozenAt 4;obtain⟨ya,yc,hy⟩:=a7 HT.o.st;rw[HL.o] at hy;subst hy;obtain⟨i0,hi0,hz0,hz1,hz2⟩:∃i0,prog.info? 2=some i0/\i0.zero=some (.int .i64 0)/\i0.size=1/\i0.bytes=8:=by
      have h:=Tryz.infoI64Z;cases hi:prog.info? 2 with
      |none=>rw[hi] at h;cases h
      |some i0=>rw[hi] at h;simp only[Option.map_some,H6,Prod.mk.injEq] at h;exact⟨i0,rfl,h.1,h.2.1,h.2.2⟩
     have HI:=aa (Hg hi0 (Hg hz0 (Hg hz1 hz2)));clear hi0 hz0 hz1 hz2;have HOWN:Ic (∀W,Below wr.heap.size wr W->W.ownsRow (w.heap.size+1+1) 2 1 (.slice ya m yc) ss.length (ss.map (Value.int .i64))):=λW hb=>aH HT.o.st hb;go_wp2;have HA:=aa (HT.o.next ((af (w:=wr) (A:=.cells #[.int .i64 x] 2)).drew));have HB:=aa (HT.o.next (((Hf wr.heap.size wr).drew).alloc (He _) (.cells #[.int .i64 x] 2)));have z3:(wr.alloc (.cells #[.int .i64 x] 2)).cell? ⟨w.heap.size+1,4,none⟩=some (.slice ya m yc):=HA.o.own.cellAt 4 (by omega);have z4:(wr.drew.alloc (.cells #[.int .i64 x] 2)).cell? ⟨w.heap.size+1,4,none⟩=some (.slice ya m yc):=HB.o.own.cellAt 4 (by omega);go_region_law (first|(refine gr rfl (.tmp 39) (.tmp 44) 139 rfl (w.heap.size+1+1) 2 i0 (.int .i64 0) 1 8 underlying139 HI.o.1 HI.o.2.1 HI.o.2.2.1 HI.o.2.2.2 rfl (by decide) (.slice ya m yc) ss.length (ss.map (Value.int .i64)) (by simp[Act.eval,Act.put]) HA.o.st ⟨wr.heap.size,0,none⟩ 1 1 [.int .i64 x] (by simp[Act.eval,Act.put]) rfl (sB wr x _) (iU _) (by unfold maxLen;have:=HL.o;omega) (by have:=HL.o;omega) HA.o.ge ?_;intro v5 w5 r1 r2 r3;obtain⟨va5,vc5,hv5⟩:=a7 r1;subst hv5;have HM:=aa (HA.o.grow r1 r2);have y1:w5.cell? ⟨w.heap.size+1,4,none⟩=some (.slice ya m yc):=(HA.o.mid r2).cellAt 4 (by omega);have y2:=(HA.o.mid r2).frozenAt 4;clear r1 r2 r3)|(refine gr rfl (.tmp 39) (.tmp 44) 139 rfl (w.heap.size+1+1) 2 i0 (.int .i64 0) 1 8 underlying139 HI.o.1 HI.o.2.1 HI.o.2.2.1 HI.o.2.2.2 rfl (by decide) (.slice ya m yc) ss.length (ss.map (Value.int .i64)) (by simp[Act.eval,Act.put]) HB.o.st ⟨wr.heap.size,0,none⟩ 1 1 [.int .i64 x] (by simp[Act.eval,Act.put]) rfl (sC wr x _) (iU _) (by unfold maxLen;have:=HL.o;omega) (by have:=HL.o;omega) HB.o.ge ?_;intro v5 w5 r1 r2 r3;obtain⟨va5,vc5,hv5⟩:=a7 r1;subst hv5;have HM:=aa (HB.o.grow r1 r2);have y1:w5.cell? ⟨w.heap.size+1,4,none⟩=some (.slice ya m yc):=(HB.o.mid r2).cellAt 4 (by omega);have y2:=(HB.o.mid r2).frozenAt 4;clear r1 r2 r3)|(go_simp;refine(HSA.o _).mono ?_;rintro e w8 ⟨rfl,rfl⟩;dsimp only));all_goals
      go_wp2;go_roundw;case rel=>exact⟨m+1,_,by omega,by go_num,by rw[HR.o];exact HM.o⟩
      case measure=>simp[intOf];omega
    ·have e:m=R:=by omega
     subst e;go_wp2;refine wp_loop_rounds 1 ?_;rw[rounds_succ];go_wp2;go_ret;refine⟨w.heap.size+1,sv,rfl,?_,jc HT.o.st,HT.o.below⟩;rw[HG.o.1,HG.o.2.1,HG.o.2.2];have ho:=HT.o.own;have hl:=HT.o.ge;exact⟨by omega,ho.cellAt 0 (by omega),ho.cellAt 1 (by omega),ho.cellAt 2 (by omega),ho.cellAt 3 (by omega),ho.cellAt 4 (by omega)⟩
def eB:Int:=-288230376151711744
theorem Gz(m:Nat)(h:m<=200):0<=bG 1 m/\bG 1 m<=255:=by unfold bG;simp;omega
theorem uA(p o v:Int)(n R M:Nat)(w:World)(hp:2<=p/\p<=101)(ho:o=1\/o=2)(hv:v=1\/v=2)(hn:n<=3)(hR:R<=200)(hM:M<=200):Calls prog 58 #[az p n o v,.int .i64 R,.int .i64 M] w λe w'=>∃ob sv,e=.returned (.pointer (some ⟨ob,0,none⟩))/\aQ w' ob p (aU o n n 0) (aU o n n 1) (aU o n n 2) sv/\Sl w' sv ((List.range R).map (λi:Nat=>bG v (i:Int))++(List.range M).map λi:Nat=>eB+bG 1 (i:Int))/\Below w.heap.size w w':=by
 have HO:=aa ho;have HV:=aa hv;obtain⟨hp0,hp1⟩:=hp;have hwp:IntKind.u32.wrap p=p:=by rw[IntKind.wrap_u32];omega
 have H0:=aa (dH.first w p n o v);obtain⟨w1,hw1⟩:∃w1,w1=(w.alloc (.cells #[.int .i64 p,.int .i64 n,.int .i64 o,.int .i64 v] 23)).alloc (.cells #[.int .u32 p,.int .i64 0,.int .i64 0,.int .i64 0,.slice none 0 0] 141):=⟨_,rfl⟩;rw[<-hw1] at H0;clear ho hv;go_enter func58,ntmps58;go_wp2_with fail;rw[<-hw1];clear hw1;go_loopw [18] (λi wr=>∃k:Nat,k<=n/\i=.int .i64 k/\dH w wr p n o v (aU o n k 0) (aU o n k 1) (aU o n k 2) (.slice none 0 0) []) (λi _=>n-(intOf i).toNat);case atStart=>exact⟨0,Hl _,rfl,H0.o⟩
 case round=>
  clear H0;obtain⟨k,hk,rfl,ht⟩:=hrel;have HT:=aa ht;clear ht;by_cases hk2:k<n
  ·obtain⟨_,b0,b1,b2,b3⟩:=HT.o.box;have HWT:=aa (fun(W:World)=>yR o k W HO.o (by omega));have HSET:=aa (yW p o n k (.slice none 0 0) hk2 hn);have z1:∃u,wr.cell? ⟨w.heap.size+1,1+k,none⟩=some u:=by have h:=HT.o.own.cellAt (1+k) (by omega);rw[Ht (by simp;omega)] at h;exact⟨_,h⟩
   obtain⟨u,z1⟩:=z1;have z2:=HT.o.own.frozenAt (1+k);have hk3:(k:Int)<3:=by omega
   generalize iY o k=wk at HWT HSET;go_wp2;go_region_with (go_at_call 96;refine(HWT.o _).mono ?_;rintro e w8 ⟨rfl,rfl⟩);all_goals
    go_wp2;go_roundw;case rel=>exact⟨k+1,by omega,by go_num,by first|exact(HT.o.next (Hf _ _).drew).putK _ _ HSET.o|exact(HT.o.putK _ _ HSET.o).next (Hf _ _).drew⟩
    case measure=>simp[intOf];omega
  ·have e:k=n:=by omega
   subst e;generalize hg0:aU o k k 0=g0 at HT;generalize hg1:aU o k k 1=g1 at HT;generalize hg2:aU o k k 2=g2 at HT;have HG:=aa (Hg hg0 (Hg hg1 hg2));clear hg0 hg1 hg2;go_wp2;go_loopw [32] (λi wr=>∃(m:Nat)(sv:Value),m<=R/\i=.int .i64 m/\dH w wr p k o v g0 g1 g2 sv ((List.range m).map λi:Nat=>bG v (i:Int))) (λi _=>R-(intOf i).toNat);case atStart=>exact⟨0,_,Hl _,rfl,HT.o⟩
   case round=>
    clear HT;obtain⟨m,sv,hm,rfl,ht⟩:=hrel;have HT:=aa ht;clear ht;by_cases hm2:m<R
    ·obtain⟨_,b0,b1,b2,b3⟩:=HT.o.box;have HSA:=aa (fun(W:World)=>sr v m W HV.o (by omega));have HR:Ic (((List.range (m+1)).map λi:Nat=>bG v (i:Int))=((List.range m).map λi:Nat=>bG v (i:Int))++[bG v m]):=by show _=_;rw[List.range_succ];simp
     have HL:Ic (((List.range m).map λi:Nat=>bG v (i:Int)).length=m):=by show _=_;simp
     generalize ((List.range m).map λi:Nat=>bG v (i:Int))=ss at HT HR HL;generalize bG v m=x at HSA HR;have z1:wr.cell? ⟨w.heap.size+1,4,none⟩=some sv:=HT.o.own.cellAt 4 (by omega);have z2:=HT.o.own.frozenAt 4;obtain⟨ya,yc,hy⟩:=a7 HT.o.st;rw[HL.o] at hy;subst hy;obtain⟨i0,hi0,hz0,hz1,hz2⟩:∃i0,prog.info? 2=some i0/\i0.zero=some (.int .i64 0)/\i0.size=1/\i0.bytes=8:=by
      have h:=Tryz.infoI64Z;cases hi:prog.info? 2 with
      |none=>rw[hi] at h;cases h
      |some i0=>rw[hi] at h;simp only[Option.map_some,H6,Prod.mk.injEq] at h;exact⟨i0,rfl,h.1,h.2.1,h.2.2⟩
     have HI:=aa (Hg hi0 (Hg hz0 (Hg hz1 hz2)));clear hi0 hz0 hz1 hz2;have HOWN:Ic (∀W,Below wr.heap.size wr W->W.ownsRow (w.heap.size+1+1) 2 1 (.slice ya m yc) ss.length (ss.map (Value.int .i64))):=λW hb=>aH HT.o.st hb;go_wp2;have HA:=aa (HT.o.next ((af (w:=wr) (A:=.cells #[.int .i64 x] 2)).drew));have HB:=aa (HT.o.next (((Hf wr.heap.size wr).drew).alloc (He _) (.cells #[.int .i64 x] 2)));have z3:(wr.alloc (.cells #[.int .i64 x] 2)).cell? ⟨w.heap.size+1,4,none⟩=some (.slice ya m yc):=HA.o.own.cellAt 4 (by omega);have z4:(wr.drew.alloc (.cells #[.int .i64 x] 2)).cell? ⟨w.heap.size+1,4,none⟩=some (.slice ya m yc):=HB.o.own.cellAt 4 (by omega);go_region_law (first|(refine gr rfl (.tmp 39) (.tmp 44) 139 rfl (w.heap.size+1+1) 2 i0 (.int .i64 0) 1 8 underlying139 HI.o.1 HI.o.2.1 HI.o.2.2.1 HI.o.2.2.2 rfl (by decide) (.slice ya m yc) ss.length (ss.map (Value.int .i64)) (by simp[Act.eval,Act.put]) HA.o.st ⟨wr.heap.size,0,none⟩ 1 1 [.int .i64 x] (by simp[Act.eval,Act.put]) rfl (sB wr x _) (iU _) (by unfold maxLen;have:=HL.o;omega) (by have:=HL.o;omega) HA.o.ge ?_;intro v5 w5 r1 r2 r3;obtain⟨va5,vc5,hv5⟩:=a7 r1;subst hv5;have HM:=aa (HA.o.grow r1 r2);have y1:w5.cell? ⟨w.heap.size+1,4,none⟩=some (.slice ya m yc):=(HA.o.mid r2).cellAt 4 (by omega);have y2:=(HA.o.mid r2).frozenAt 4;clear r1 r2 r3)|(refine gr rfl (.tmp 39) (.tmp 44) 139 rfl (w.heap.size+1+1) 2 i0 (.int .i64 0) 1 8 underlying139 HI.o.1 HI.o.2.1 HI.o.2.2.1 HI.o.2.2.2 rfl (by decide) (.slice ya m yc) ss.length (ss.map (Value.int .i64)) (by simp[Act.eval,Act.put]) HB.o.st ⟨wr.heap.size,0,none⟩ 1 1 [.int .i64 x] (by simp[Act.eval,Act.put]) rfl (sC wr x _) (iU _) (by unfold maxLen;have:=HL.o;omega) (by have:=HL.o;omega) HB.o.ge ?_;intro v5 w5 r1 r2 r3;obtain⟨va5,vc5,hv5⟩:=a7 r1;subst hv5;have HM:=aa (HB.o.grow r1 r2);have y1:w5.cell? ⟨w.heap.size+1,4,none⟩=some (.slice ya m yc):=(HB.o.mid r2).cellAt 4 (by omega);have y2:=(HB.o.mid r2).frozenAt 4;clear r1 r2 r3)|(go_simp;refine(HSA.o _).mono ?_;rintro e w8 ⟨rfl,rfl⟩;dsimp only));all_goals
      go_wp2;go_roundw;case rel=>exact⟨m+1,_,by omega,by go_num,by rw[HR.o];exact HM.o⟩
      case measure=>simp[intOf];omega
    ·have e:m=R:=by omega
     subst e;generalize hs0:((List.range m).map λi:Nat=>bG v (i:Int))=ss0 at HT;have HS0:=aa hs0;have HL0:Ic (ss0.length=m):=by show _=_;rw[<-HS0.o];simp
     clear hs0;go_wp2;go_loopw [50] (λi wr=>∃(m2:Nat)(sv:Value),m2<=M/\i=.int .i64 m2/\dH w wr p k o v g0 g1 g2 sv (ss0++(List.range m2).map λi:Nat=>eB+bG 1 (i:Int))) (λi _=>M-(intOf i).toNat);case atStart=>exact⟨0,_,Hl _,rfl,by simpa using HT.o⟩
     case round=>
      clear HT;obtain⟨m2,sv,hm9,rfl,ht⟩:=hrel;have HT:=aa ht;clear ht;by_cases hm2:m2<M
      ·obtain⟨_,b0,b1,b2,b3⟩:=HT.o.box;have HSA:=aa (fun(W:World)=>sr 1 m2 W (Or.inl rfl) (by omega));have HR:Ic ((ss0++(List.range (m2+1)).map λi:Nat=>eB+bG 1 (i:Int))=(ss0++(List.range m2).map λi:Nat=>eB+bG 1 (i:Int))++[eB+bG 1 m2]):=by show _=_;rw[List.range_succ];simp
       have HL:Ic ((ss0++(List.range m2).map λi:Nat=>eB+bG 1 (i:Int)).length=m+m2):=by show _=_;simp[HL0.o]
       generalize (ss0++(List.range m2).map λi:Nat=>eB+bG 1 (i:Int))=ss at HT HR HL;have hxb:=Gz m2 (by omega);have hwb:IntKind.wrap .i64 (-288230376151711744+bG 1 m2)=eB+bG 1 m2:=by unfold eB;rw[IntKind.wrap_i64];omega
       generalize bG 1 m2=x0 at HSA HR hxb hwb;generalize eB+x0=x at HR hwb;have z1:wr.cell? ⟨w.heap.size+1,4,none⟩=some sv:=HT.o.own.cellAt 4 (by omega);have z2:=HT.o.own.frozenAt 4;obtain⟨ya,yc,hy⟩:=a7 HT.o.st;rw[HL.o] at hy;subst hy;obtain⟨i0,hi0,hz0,hz1,hz2⟩:∃i0,prog.info? 2=some i0/\i0.zero=some (.int .i64 0)/\i0.size=1/\i0.bytes=8:=by
        have h:=Tryz.infoI64Z;cases hi:prog.info? 2 with
        |none=>rw[hi] at h;cases h
        |some i0=>rw[hi] at h;simp only[Option.map_some,H6,Prod.mk.injEq] at h;exact⟨i0,rfl,h.1,h.2.1,h.2.2⟩
       have HI:=aa (Hg hi0 (Hg hz0 (Hg hz1 hz2)));clear hi0 hz0 hz1 hz2;have HOWN:Ic (∀W,Below wr.heap.size wr W->W.ownsRow (w.heap.size+1+1) 2 1 (.slice ya (m+m2) yc) ss.length (ss.map (Value.int .i64))):=λW hb=>aH HT.o.st hb;go_wp2;have HA:=aa (HT.o.next ((af (w:=wr) (A:=.cells #[.int .i64 x] 2)).drew));have HB:=aa (HT.o.next (((Hf wr.heap.size wr).drew).alloc (He _) (.cells #[.int .i64 x] 2)));have z3:(wr.alloc (.cells #[.int .i64 x] 2)).cell? ⟨w.heap.size+1,4,none⟩=some (.slice ya (m+m2) yc):=HA.o.own.cellAt 4 (by omega);have z4:(wr.drew.alloc (.cells #[.int .i64 x] 2)).cell? ⟨w.heap.size+1,4,none⟩=some (.slice ya (m+m2) yc):=HB.o.own.cellAt 4 (by omega);go_region_law (first|(refine gr rfl (.tmp 57) (.tmp 61) 139 rfl (w.heap.size+1+1) 2 i0 (.int .i64 0) 1 8 underlying139 HI.o.1 HI.o.2.1 HI.o.2.2.1 HI.o.2.2.2 rfl (by decide) (.slice ya (m+m2) yc) ss.length (ss.map (Value.int .i64)) (by simp[Act.eval,Act.put]) HA.o.st ⟨wr.heap.size,0,none⟩ 1 1 [.int .i64 x] (by simp[Act.eval,Act.put]) rfl (sB wr x _) (iU _) (by unfold maxLen;have:=HL.o;omega) (by have:=HL.o;omega) HA.o.ge ?_;intro v5 w5 r1 r2 r3;obtain⟨va5,vc5,hv5⟩:=a7 r1;subst hv5;have HM:=aa (HA.o.grow r1 r2);have y1:w5.cell? ⟨w.heap.size+1,4,none⟩=some (.slice ya (m+m2) yc):=(HA.o.mid r2).cellAt 4 (by omega);have y2:=(HA.o.mid r2).frozenAt 4;clear r1 r2 r3)|(refine gr rfl (.tmp 57) (.tmp 61) 139 rfl (w.heap.size+1+1) 2 i0 (.int .i64 0) 1 8 underlying139 HI.o.1 HI.o.2.1 HI.o.2.2.1 HI.o.2.2.2 rfl (by decide) (.slice ya (m+m2) yc) ss.length (ss.map (Value.int .i64)) (by simp[Act.eval,Act.put]) HB.o.st ⟨wr.heap.size,0,none⟩ 1 1 [.int .i64 x] (by simp[Act.eval,Act.put]) rfl (sC wr x _) (iU _) (by unfold maxLen;have:=HL.o;omega) (by have:=HL.o;omega) HB.o.ge ?_;intro v5 w5 r1 r2 r3;obtain⟨va5,vc5,hv5⟩:=a7 r1;subst hv5;have HM:=aa (HB.o.grow r1 r2);have y1:w5.cell? ⟨w.heap.size+1,4,none⟩=some (.slice ya (m+m2) yc):=(HB.o.mid r2).cellAt 4 (by omega);have y2:=(HB.o.mid r2).frozenAt 4;clear r1 r2 r3)|(go_simp;refine(HSA.o _).mono ?_;rintro e w8 ⟨rfl,rfl⟩;dsimp only));all_goals
        go_wp2;go_roundw;case rel=>exact⟨m2+1,_,by omega,by go_num,by rw[HR.o];exact HM.o⟩
        case measure=>simp[intOf];omega
      ·have e:m2=M:=by omega
       subst e;go_wp2;go_ret;refine⟨w.heap.size+1,sv,rfl,?_,by have h:=jc HT.o.st;rw[<-HS0.o] at h;exact h,HT.o.below⟩;rw[HG.o.1,HG.o.2.1,HG.o.2.2];have ho:=HT.o.own;have hl:=HT.o.ge;exact⟨by omega,ho.cellAt 0 (by omega),ho.cellAt 1 (by omega),ho.cellAt 2 (by omega),ho.cellAt 3 (by omega),ho.cellAt 4 (by omega)⟩
end Go.Proofs.YtglijodcbdcngaaGreat
