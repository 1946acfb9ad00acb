/- A member is put into a. -/
import Derived.Test.YtjkalahhpobefaaGreatKQ
set_option maxHeartbeats 4000000
set_option maxRecDepth 100000
namespace Go.Proofs.YtjkalahhpobefaaGreat
set_option linter.all false
open Go.Proofs.Tryz Go.RowKit
theorem AL(p:Int)(B:Nat)(w:PJ)(mb ob R g:Nat)(dv pv:PK)(us:PH)(ms:PD)(qs:PF)(f:Mm)(hm:bh p B w mb ob R g dv pv us ms qs)(hf:b9 p B w f)(hfd:∀x∈ms,x.blk≠f.blk)(hB:B<=w.heap.size)(hpl:0<=f.L.pl/\f.L.pl<R)(hml:ms.length<=2100000)(hR:R<=255):Calls prog 43 #[PL mb,PL f.blk] w λe w'=>e=.returned (.tuple #[])/\∃us',bh p B w' mb ob R g dv pv us' (ms++[f]) qs/\Below B w w'/\dy w w'/\bq w w'/\∀T:TypeId,128≠T->81≠T->∀k,k<w.heap.size->¬cq w T k->w'.heap[k]?=w.heap[k]?:=by
 obtain⟨n,hnpl⟩:∃n:Nat,f.L.pl=n:=⟨f.L.pl.toNat,by omega⟩;have hnR:n<R:=by omega
 obtain⟨w1,hw1⟩:∃w1,w1=(w.alloc (.cells #[PL f.blk] 81)).drew:=⟨_,rfl⟩;have HB1:Po (Io w w1):=by rw[hw1];exact(ai (w:=w)).drew
 have HM1:=ae (hm.next HB1.o);have HF1:=ae (hf.next HB1.o);have hB1:B<=w1.heap.size:=OA hB HB1.o.size;have hc1:w1.cell? (PN w.heap.size 0)=some (ee f):=by rw[hw1];exact AM w _ _
 obtain⟨v5,w5,hap,h5,hg5,hk5,hl5⟩:=AN 128 B (us.getD n aL) (a8 ms n) f (HM1.o.mks.row n hnR) (HM1.o.mks.rkd n hnR) (PN w.heap.size 0) 1 hc1 (by have:=Pc (λx:Mm=>decide (x.L.pl=n)) ms;unfold a8;omega) hB1;have hsn:=HM1.o.mks.snoc HF1.o hfd hB1 hnR hnpl h5 hg5 hk5 hl5;have hS:∀{T:TypeId},128≠T->81≠T->∀k,(k=g\/(us.getD n aL).ownBlock=some k)->cq w1 T k:=fun {T} t1 t2 k hk=>by
  rcases hk with e|e
  .subst e;exact bj HM1.o.mks.o rfl t1
  .exact bj (HM1.o.mks.row n hnR) e t2
 have HFIN:Po (bh p B (w5.setCell (PN g n) v5) mb ob R g dv pv (us.set n v5) (ms++[f]) qs/\Below B w (w5.setCell (PN g n) v5)/\dy w (w5.setCell (PN g n) v5)/\bq w (w5.setCell (PN g n) v5)/\∀T:TypeId,128≠T->81≠T->∀k,k<w.heap.size->¬cq w T k->(w5.setCell (PN g n) v5).heap[k]?=w.heap[k]?):=by
  refine⟨⟨dB hsn.2 HM1.o.box (hS (by decide) (by decide)),HM1.o.dvs,hsn.1,HM1.o.prs.frm hsn.2 λk hk hs=>?_⟩,(HB1.o.mono hB).trans (hsn.2.to_below hB1 λk hk=>?_),(dy.of_below HB1.o).trans (dy.of_frm hsn.2 λk hk=>by rcases hk with rfl|hk;exact HM1.o.mks.okd;exact HM1.o.mks.rkd n hnR k hk),(bq.of_below HB1.o).trans (bq.of_frm hsn.2 (hS (by decide) (by decide)) (hS (by decide) (by decide)) (hS (by decide) (by decide))),λT t1 t2 k hk hn=>(hsn.2.block k (Oz hk HB1.o.size) λhs=>hn λag e=>hS t1 t2 k hs ag ((HB1.o.block k hk).trans e)).trans (HB1.o.block k hk)⟩
  .obtain⟨ag,e2⟩:=cF HM1.o.prs.own hk;exact hS (T:=238) (by decide) (by decide) k hs ag e2
  .rcases hk with rfl|hk
   .exact(Ot HM1.o.mks.o k rfl).1
   .exact(Ot (HM1.o.mks.row n hnR) k hk).1
 have hf5:aj (λk=>(us.getD n aL).ownBlock=some k) w1 w5:=aj.of_grown hg5 λk e=>e;have hfar:∀{T:TypeId}{bb:PK}{kk ss nn:Nat}{xs:PH},81≠T->w1.ownsRow B T ss (PM kk nn nn) nn xs->¬(us.getD n aL).ownBlock=some kk:=fun {T bb kk ss nn xs} t1 ho e=>by obtain⟨ag,e2⟩:=cF ho (g:=kk) rfl;exact bj (HM1.o.mks.row n hnR) e t1 ag e2
 obtain⟨_,_,m2,_,_⟩:=hm.cells;obtain⟨r0,r1⟩:=hm.mks.at n hnR;have c5:=hf.mbr.div.cells.2.2.2.2.2.1;simp only[ON] at c5;rw[hnpl] at c5;have a2:=af m2 HB1.o;have a0:=af r0 HB1.o;have a5:=af c5 HB1.o;have b2:=hf5.cell a2 (hfar (bb:=aL) (by decide) HM1.o.box);have b0:=hf5.cell a0 (hfar (bb:=aL) (by decide) HM1.o.mks.o);have b5:=hf5.cell a5 (hfar (bb:=aL) (by decide) HF1.o.own);have bz:w5.frozen? (PN g n)=false:=by have ho:=dB hf5 HM1.o.mks.o λk hk=>bj (HM1.o.mks.row n hnR) hk (by decide);exact Oo ho n
 have hnI:(n:Int)<(R:Int):=by omega
 obtain⟨ra,rc,hrow⟩:=cl (HM1.o.mks.row n hnR);obtain⟨va,vc,hv5⟩:=cl h5;rw[pB] at hv5;subst hv5;rw[hrow] at hap r0 a0 b0;unfold ee at hc1;clear hm hf hfd HM1 HF1 hsn hS hf5 hfar h5 hg5 hk5 hl5 hpl hml r1;subst hw1;have d2:(w.alloc (.cells #[PL f.blk] 81)).cell? _=some _:=a2;have d0:(w.alloc (.cells #[PL f.blk] 81)).cell? _=some _:=a0;have d5:(w.alloc (.cells #[PL f.blk] 81)).cell? _=some _:=a5;simp[go_sem] at hap;go_enter func43,ntmps43;go_region;clear hap;go_end0;exact⟨rfl,_,HFIN.o⟩
theorem G4(p:Int)(B:Nat)(w:PJ)(mb ob R g:Nat)(dv pv:PK)(us:PH)(ms:PD)(qs:PF)(f:Mm)(hm:bh p B w mb ob R g dv pv us ms qs)(hf:b9 p B w f)(hfd:∀x∈ms,x.blk≠f.blk)(hB:B<=w.heap.size)(hpl:0<=f.L.pl/\f.L.pl<R)(hml:ms.length<=2100000)(hR:R<=255):Calls prog 43 #[PL mb,PL f.blk] w λe w'=>e=.returned (.tuple #[])/\∃us',bh p B w' mb ob R g dv pv us' (ms++[f]) qs/\Below B w w'/\dy w w'/\bq w w':=by refine(AL p B w mb ob R g dv pv us ms qs f hm hf hfd hB hpl hml hR).mono ?_;rintro e w' ⟨rfl,us',q1,q2,q3,q4,q5⟩;exact⟨rfl,us',q1,q2,q3,q4⟩
end Go.Proofs.YtjkalahhpobefaaGreat
