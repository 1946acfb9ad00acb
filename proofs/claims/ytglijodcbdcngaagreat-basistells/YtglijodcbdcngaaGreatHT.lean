/- A member is put into a making: what turns is no flat vector. -/
import Derived.Test.YtglijodcbdcngaaGreatKR
set_option maxHeartbeats 4000000
set_option maxRecDepth 100000
namespace Go.Proofs.YtglijodcbdcngaaGreat
set_option linter.unusedSimpArgs false
set_option linter.unusedVariables false
open Go.Proofs.Tryz Go.RowKit
theorem A7(p:Int)(B:Nat)(w:World)(mb ob R g:Nat)(dv pv:Value)(us:List Value)(ms:List Mm)(qs:List Pq)(f:Mm)(hm:bH p B w mb ob R g dv pv us ms qs)(hf:bN p B w f)(hfd:∀x∈ms,x.blk≠f.blk)(hB:B<=w.heap.size)(hpl:0<=f.L.pl/\f.L.pl<R)(hml:ms.length<=1000)(hR:R<=255):Calls prog 105 #[.pointer (some ⟨mb,0,none⟩),.pointer (some ⟨f.blk,0,none⟩)] w λe w'=>e=.returned (.tuple #[])/\∃us',bH p B w' mb ob R g dv pv us' (ms++[f]) qs/\Below B w w'/\cO w w':=by
 obtain⟨n,hnpl⟩:∃n:Nat,f.L.pl=n:=⟨f.L.pl.toNat,by omega⟩;have hnR:n<R:=by omega
 obtain⟨w1,hw1⟩:∃w1,w1=(w.alloc (.cells #[.pointer (some ⟨f.blk,0,none⟩)] 102)).drew:=⟨_,rfl⟩;have HB1:Ic (Below w.heap.size w w1):=by rw[hw1];exact(af (w:=w)).drew
 have HM1:=aa (hm.next HB1.o);have HF1:=aa (hf.next HB1.o);have hB1:B<=w1.heap.size:=Hk hB HB1.o.size;have hc1:w1.cell? ⟨w.heap.size,0,none⟩=some (fK f):=by rw[hw1];exact ux w _ _
 obtain⟨v5,w5,hap,h5,hg5,hk5,hl5⟩:=uy 150 B (us.getD n aP) (bI ms n) f (HM1.o.mks.row n hnR) (HM1.o.mks.rkd n hnR) ⟨w.heap.size,0,none⟩ 1 hc1 (by have:=List.length_filter_le (λx:Mm=>decide (x.L.pl=n)) ms;unfold bI;omega) hB1;have hsn:=HM1.o.mks.snoc HF1.o hfd hB1 hnR hnpl h5 hg5 hk5 hl5;have hS:∀{T:TypeId},150≠T->102≠T->∀k,(k=g\/(us.getD n aP).ownBlock=some k)->cX w1 T k:=fun {T} t1 t2 k hk=>by
  rcases hk with e|e
  ·subst e;exact bM HM1.o.mks.o rfl t1
  ·exact bM (HM1.o.mks.row n hnR) e t2
 have HFIN:Ic (bH p B (w5.setCell ⟨g,n,none⟩ v5) mb ob R g dv pv (us.set n v5) (ms++[f]) qs/\Below B w (w5.setCell ⟨g,n,none⟩ v5)/\cO w (w5.setCell ⟨g,n,none⟩ v5)):=by
  refine⟨⟨eh hsn.2 HM1.o.box (hS (by decide) (by decide)),HM1.o.dvs,hsn.1,HM1.o.prs.frm hsn.2 λk hk hs=>?_⟩,(HB1.o.mono hB).trans (hsn.2.to_below hB1 λk hk=>?_),(cO.of_below HB1.o).trans (cO.of_frm hsn.2 λk hk=>by rcases hk with rfl|hk;exact HM1.o.mks.okd;exact HM1.o.mks.rkd n hnR k hk)⟩
  ·obtain⟨ai,e2⟩:=cD HM1.o.prs.own hk;exact hS (T:=104) (by decide) (by decide) k hs ai e2
  ·rcases hk with rfl|hk
   ·exact(Hd HM1.o.mks.o k rfl).1
   ·exact(Hd (HM1.o.mks.row n hnR) k hk).1
 have hf5:ao (λk=>(us.getD n aP).ownBlock=some k) w1 w5:=ao.of_grown hg5 λk e=>e;have hfar:∀{T:TypeId}{bb:Value}{kk ss nn:Nat}{xs:List Value},102≠T->w1.ownsRow B T ss (.slice (some ⟨kk,0,none⟩) nn nn) nn xs->¬(us.getD n aP).ownBlock=some kk:=fun {T bb kk ss nn xs} t1 ho e=>by obtain⟨ai,e2⟩:=cD ho (g:=kk) rfl;exact bM (HM1.o.mks.row n hnR) e t1 ai e2
 obtain⟨_,_,m2,_,_⟩:=hm.cells;obtain⟨r0,r1⟩:=hm.mks.at n hnR;have c5:=hf.mbr.div.cells.2.2.2.2.2.1;simp only[Hy] at c5;rw[hnpl] at c5;have a2:=ae m2 HB1.o;have a0:=ae r0 HB1.o;have a5:=ae c5 HB1.o;have b2:=hf5.cell a2 (hfar (bb:=aP) (by decide) HM1.o.box);have b0:=hf5.cell a0 (hfar (bb:=aP) (by decide) HM1.o.mks.o);have b5:=hf5.cell a5 (hfar (bb:=aP) (by decide) HF1.o.own);have bz:w5.frozen? ⟨g,n,none⟩=false:=by have ho:=eh hf5 HM1.o.mks.o λk hk=>bM (HM1.o.mks.row n hnR) hk (by decide);exact Hb ho n
 have hnI:(n:Int)<(R:Int):=by omega
 obtain⟨ra,rc,hrow⟩:=cq (HM1.o.mks.row n hnR);obtain⟨va,vc,hv5⟩:=cq h5;rw[jT] at hv5;subst hv5;rw[hrow] at hap r0 a0 b0;unfold fK at hc1;clear hm hf hfd HM1 HF1 hsn hS hf5 hfar h5 hg5 hk5 hl5 hpl hml r1;subst hw1;have d2:(w.alloc (.cells #[.pointer (some ⟨f.blk,0,none⟩)] 102)).cell? _=some _:=a2;have d0:(w.alloc (.cells #[.pointer (some ⟨f.blk,0,none⟩)] 102)).cell? _=some _:=a0;have d5:(w.alloc (.cells #[.pointer (some ⟨f.blk,0,none⟩)] 102)).cell? _=some _:=a5;simp[go_sem] at hap;go_enter func105,ntmps105;go_region;clear hap;go_end0;exact⟨rfl,_,HFIN.o⟩
end Go.Proofs.YtglijodcbdcngaaGreat
