/- NewSum of one vector. -/
import Derived.Test.YteimdcndjjclnaaGreatZN
import Derived.Test.YteimdcndjjclnaaGreatWN
set_option maxHeartbeats 2000000
set_option maxRecDepth 100000
namespace Go.Proofs.YteimdcndjjclnaaGreat
set_option linter.all false
open Go.Proofs.Tryz Go.RowKit
structure fV(p:Int)(G:Ft->Prop)(B:Nat)(w:World)(sb ob:Nat)(rv:Value)(us:List Value)(rows:List (List Ft))(C:Int->Int):Prop where
 sum:bB B w sb ob rv us rows
 ok:aO p G rows
 len:rows.length<=65
 cn:∀k,p∣ao k rows.flatten-C k
theorem zk(w:World)(ob:Nat)(B:Nat)(hB:B<=w.heap.size):bB B (w.alloc (.cells #[.pointer (some ⟨ob,0,none⟩),.slice none 0 0] 157)) w.heap.size ob (.slice none 0 0) [] []:=
 ⟨⟨by simp,.inr ⟨w.heap.size,1,_,rfl,hB,heap_alloc_new w _,Lc _,by decide,by simp,by simp⟩⟩,qT (λu hu x e=>by simp at hu;rcases hu with rfl|rfl<;>cases e),cF.nil _ _⟩
theorem EV(ob vb voff vc:Nat)(p k0 k1 k2:Int)(G:Ft->Prop)(sv vv:Value)(fs:List Ft)(w:World)(hob:bk w ob p k0 k1 k2 sv)(hp:2<=p/\p<=101)(hv:w.cell? ⟨vb,voff,none⟩=some vv)(hf:Fv w vv fs)(hrf:aO p G [fs])(hG:∀x t,f9 x t->G t->G x)(hM:∀r,Dn r->(∀t∈r,G t)->r.length<=100000000000):Calls prog 83 #[.pointer (some ⟨ob,0,none⟩),.slice (some ⟨vb,voff,none⟩) 1 vc] w λe w'=>e=.returned (.pointer (some ⟨w.heap.size,0,none⟩))/\∃rv us rows,fV p G w.heap.size w' w.heap.size ob rv us rows (λk=>ao k fs)/\Below w.heap.size w w':=by
 have HOB:=ac hob;have HF:=ac hf;have HV:=ac hv;have hobl:=hob.lt;obtain⟨va,vcc,rfl,_,_⟩:=hf;obtain⟨w1,hw1⟩:∃w1,w1=w.alloc (.cells #[.pointer (some ⟨ob,0,none⟩),.slice none 0 0] 157):=⟨_,rfl⟩;have HB1:Ma (Below w.heap.size w w1):=by rw[hw1];exact aj
 have HS1:Ma (bB w.heap.size w1 w.heap.size ob (.slice none 0 0) [] []):=by rw[hw1];exact zk w ob _ (Lc _)
 have HAD:=ac (qr w.heap.size w.heap.size ob p k0 k1 k2 G sv (.slice none 0 0) _ [] [] fs w1 HS1.o (by have:=HB1.o.size;omega) (HOB.o.below HB1.o) (by omega) hp (by simp) (HF.o.below HB1.o) ⟨λr hr=>by simp at hr,λr hr=>by simp at hr,λr hr=>by simp at hr⟩ hrf hG hM);have c1:=ae HV.o HB1.o;clear hob hv hrf hG hM;go_enter func83,ntmps83;go_wp2_with fail;rw[<-hw1];clear hw1;go_loopw [13] (λi wr=>(i=.int .i64 0/\wr=w1)\/(i=.int .i64 1/\∃rv us rows,fV p G w.heap.size wr w.heap.size ob rv us rows (λk=>ao k fs)/\Below w.heap.size w wr)) (λi _=>1-(intOf i).toNat);case atStart=>exact L0 ⟨rfl,rfl⟩
 case round=>
  rcases hrel with ⟨rfl,rfl⟩|⟨rfl,rv,us,rows,hsm,hb⟩
  .go_wp2_with (go_at_call 107;refine HAD.o.mono ?_;rintro e w9 ⟨rfl,rv9,us9,rows9,q1,q2,q3,q4,q5,q6⟩;have H9:Ma (fV p G w.heap.size w9 w.heap.size ob rv9 us9 rows9 (λk=>ao k fs)/\Below w.heap.size w w9):=⟨⟨q1,q2,q3,λk=>by have:=q4 k;simpa [ao] using this⟩,HB1.o.trans (q5.to_below HB1.o.size (λx hx=>by rcases hx with hx|hx;exact Nat.le_of_eq hx.symm;simp[Value.ownBlock] at hx))⟩;clear q1 q2 q3 q4 q5 q6);go_roundw;case rel=>exact L3 ⟨by go_num,rv9,us9,rows9,H9.o.1,H9.o.2⟩
   case measure=>simp[intOf]
  .have HSM:=ac (Lg hsm hb);clear hsm hb;go_wp2;go_ret;exact⟨rfl,rv,us,rows,HSM.o.1,HSM.o.2⟩
def qu(L:Ft)(rv:Value)(num inv:Int):Value:=.agg #[.int .i64 L.k,.int .u16 L.a,.int .u16 L.b,.int .u16 L.d,.int .u16 L.z,.int .u8 L.pl,.int .u8 L.c,rv,.int .i64 num,.int .u8 inv]
def ib(w:World)(g:Nat)(L:Ft)(rv:Value)(num inv:Int):World:=(((fL w g L).setCell ⟨g,7,none⟩ rv).setCell ⟨g,8,none⟩ (.int .i64 num)).setCell ⟨g,9,none⟩ (.int .u8 inv)
theorem K5{w:World}{g b o:Nat}{L:Ft}{rv:Value}{num inv:Int}(h:b≠g):(ib w g L rv num inv).cell? ⟨b,o,none⟩=w.cell? ⟨b,o,none⟩:=by have H:∀(w:World)(j:Nat)(u:Value),(w.setCell ⟨g,j,none⟩ u).cell? ⟨b,o,none⟩=w.cell? ⟨b,o,none⟩:=λw j u=>World.cell?_setCell_far _ _ _ _ (λe=>h e.symm);unfold ib fL;simp only[H]
def pk(B:Nat)(wr:World)(g:Nat)(xs:List Value):Prop:=wr.ownsRow B 133 10 (.slice (some ⟨g,0,none⟩) 1 1) 1 xs
def m6(L:Ft)(rv:Value)(num inv:Int):List Value:=aw L++[rv,.int .i64 num,.int .u8 inv]
theorem pk.put{B:Nat}{wr:World}{g:Nat}{xs:List Value}(h:pk B wr g xs)(L:Ft)(rv:Value)(num inv:Int):pk B (ib wr g L rv num inv) g (m6 L rv num inv)/\wr.grownBy (ib wr g L rv num inv) (some g):=by
 have s1:=Lp h 0 (.int .i64 L.k);have s2:=s1.1.stored 1 (.int .u16 L.a);have s3:=s2.1.stored 2 (.int .u16 L.b);have s4:=s3.1.stored 3 (.int .u16 L.d);have s5:=s4.1.stored 4 (.int .u16 L.z);have s6:=s5.1.stored 5 (.int .u8 L.pl);have s7:=s6.1.stored 6 (.int .u8 L.c);have s8:=s7.1.stored 7 rv;have s9:=s8.1.stored 8 (.int .i64 num);have s10:=s9.1.stored 9 (.int .u8 inv);have hl:xs.length=10:=h.1;refine⟨?_,cE (cE (cE (cE (cE (cE (cE (cE (cE s1.2 s2.2) s3.2) s4.2) s5.2) s6.2) s7.2) s8.2) s9.2) s10.2⟩;have e:(((((((((xs.set 0 (.int .i64 L.k)).set 1 (.int .u16 L.a)).set 2 (.int .u16 L.b)).set 3 (.int .u16 L.d)).set 4 (.int .u16 L.z)).set 5 (.int .u8 L.pl)).set 6 (.int .u8 L.c)).set 7 rv).set 8 (.int .i64 num)).set 9 (.int .u8 inv)=m6 L rv num inv:=by
  match xs,hl with
  |[_,_,_,_,_,_,_,_,_,_],_=>rfl
 have:=s10.1;rw[e] at this;exact this
theorem F0(ob:Nat)(p k0 k1 k2 num:Int)(sv vv:Value)(L:Ft)(r:List Ft)(w:World)(hob:bk w ob p k0 k1 k2 sv)(hpr:bm p=0)(hc:0<L.c/\L.c<p)(hf:Fv w vv (L::r)):Calls prog 133 #[.pointer (some ⟨ob,0,none⟩),.int .i64 num,vv] w λe w'=>∃rv,e=.returned (qu L rv num (aN p L.c))/\Fv w' rv r/\Below w.heap.size w w'/\∀g,rv.ownBlock=some g->vv.ownBlock=some g:=by
 obtain⟨b,off,cap,rfl,hcap,hlt,hft,h1,h2⟩:=hf.head;obtain⟨A,hA,hplA⟩:=Fv.tail ⟨h1,h2⟩;have HPA:=ac hplA;have HAB:Ma (A.block=b):=by
  show _=_;by_cases hc1:cap=1
  .rw[LI hc1] at hA;simp only[LA] at hA;rw[<-hA]
  .rw[LH hc1] at hA;simp only[LA] at hA;rw[<-hA]
 have HOB:=ac hob;have HFT:=ac hft;have hle:(1:Int)<=(r.length:Int)+1:=by omega
 obtain⟨w1,hw1⟩:∃w1,w1=w.alloc (.cells #[.int .i64 0,.int .u16 0,.int .u16 0,.int .u16 0,.int .u16 0,.int .u8 0,.int .u8 0,.slice none 0 0,.int .i64 0,.int .u8 0] 133):=⟨_,rfl⟩;have HB1:Ma (Below w.heap.size w w1):=by rw[hw1];exact aj
 have HX1:Ma (pk w.heap.size w1 w.heap.size [.int .i64 0,.int .u16 0,.int .u16 0,.int .u16 0,.int .u16 0,.int .u8 0,.int .u8 0,.slice none 0 0,.int .i64 0,.int .u8 0]):=by rw[hw1];exact⟨by simp,.inr ⟨w.heap.size,1,_,rfl,Lc _,heap_alloc_new w _,Lc _,by decide,by simp,by simp⟩⟩
 have HIN:Ma (∀W,Below w1.heap.size w1 W->Calls prog 134 #[.pointer (some ⟨ob,0,none⟩),.int .u8 L.c] W λe w'=>e=.returned (.int .u8 (aN p L.c))/\Below W.heap.size W w'):=λW hb=>yS ob p k0 k1 k2 sv L.c W ((HOB.o.below HB1.o).below hb) hpr hc;have KEEP:Ma (∀W,Below w1.heap.size w1 W->W.cell? ⟨b,off,none⟩=some (.int .i64 L.k)/\W.cell? ⟨b,off+1,none⟩=some (.int .u16 L.a)/\W.cell? ⟨b,off+2,none⟩=some (.int .u16 L.b)/\W.cell? ⟨b,off+3,none⟩=some (.int .u16 L.d)/\W.cell? ⟨b,off+4,none⟩=some (.int .u16 L.z)/\W.cell? ⟨b,off+5,none⟩=some (.int .u8 L.pl)/\W.cell? ⟨b,off+6,none⟩=some (.int .u8 L.c)):=λW hb=>(HFT.o.keep HB1.o).keep hb;have KEEPS:Ma (∀W,(W.cell? ⟨b,off,none⟩=some (.int .i64 L.k)/\W.cell? ⟨b,off+1,none⟩=some (.int .u16 L.a)/\W.cell? ⟨b,off+2,none⟩=some (.int .u16 L.b)/\W.cell? ⟨b,off+3,none⟩=some (.int .u16 L.d)/\W.cell? ⟨b,off+4,none⟩=some (.int .u16 L.z)/\W.cell? ⟨b,off+5,none⟩=some (.int .u8 L.pl)/\W.cell? ⟨b,off+6,none⟩=some (.int .u8 L.c))->(ib W w.heap.size L (.slice (some A) r.length (cap-1)) num (aN p L.c)).cell? ⟨b,off,none⟩=some (.int .i64 L.k)/\(ib W w.heap.size L (.slice (some A) r.length (cap-1)) num (aN p L.c)).cell? ⟨b,off+1,none⟩=some (.int .u16 L.a)/\(ib W w.heap.size L (.slice (some A) r.length (cap-1)) num (aN p L.c)).cell? ⟨b,off+2,none⟩=some (.int .u16 L.b)/\(ib W w.heap.size L (.slice (some A) r.length (cap-1)) num (aN p L.c)).cell? ⟨b,off+3,none⟩=some (.int .u16 L.d)/\(ib W w.heap.size L (.slice (some A) r.length (cap-1)) num (aN p L.c)).cell? ⟨b,off+4,none⟩=some (.int .u16 L.z)/\(ib W w.heap.size L (.slice (some A) r.length (cap-1)) num (aN p L.c)).cell? ⟨b,off+5,none⟩=some (.int .u8 L.pl)/\(ib W w.heap.size L (.slice (some A) r.length (cap-1)) num (aN p L.c)).cell? ⟨b,off+6,none⟩=some (.int .u8 L.c)):=λW h=>by simp only[K5 (show b≠w.heap.size by omega)];exact h
 have CE:Ma (∀W,Below w1.heap.size w1 W->pk w.heap.size W w.heap.size [.int .i64 0,.int .u16 0,.int .u16 0,.int .u16 0,.int .u16 0,.int .u8 0,.int .u8 0,.slice none 0 0,.int .i64 0,.int .u8 0]):=λW hb=>aK HX1.o hb;unfold ib fL at KEEPS;have HB0:Ma (Below w1.heap.size w1 w1.drew):=(Lf _ _).drew;clear hf hft h1 h2 hplA hob hpr hc;go_enter func133,ntmps133;go_wp2_with fail;rw[<-hw1];clear hw1;go_region_held (λW=>W.cell? ⟨b,off,none⟩=some (.int .i64 L.k)/\W.cell? ⟨b,off+1,none⟩=some (.int .u16 L.a)/\W.cell? ⟨b,off+2,none⟩=some (.int .u16 L.b)/\W.cell? ⟨b,off+3,none⟩=some (.int .u16 L.d)/\W.cell? ⟨b,off+4,none⟩=some (.int .u16 L.z)/\W.cell? ⟨b,off+5,none⟩=some (.int .u8 L.pl)/\W.cell? ⟨b,off+6,none⟩=some (.int .u8 L.c))
  (first|with_reducible exact KEEP.o _ HB0.o|with_reducible exact KEEP.o _ HB8.o|with_reducible exact KEEPS.o w8 (KEEP.o _ HB8.o))
  (first|(go_at_call 134;refine(HIN.o _ HB0.o).mono ?_;rintro e w8 ⟨rfl,hb8⟩;have HB8:=ac (HB0.o.trans (hb8.mono HB0.o.size));have HX8:=ac (CE.o _ HB8.o);have y0:=La HX8.o 0 (by omega);have y1:=La HX8.o 1 (by omega);have y2:=La HX8.o 2 (by omega);have y3:=La HX8.o 3 (by omega);have y4:=La HX8.o 4 (by omega);have y5:=La HX8.o 5 (by omega);have y6:=La HX8.o 6 (by omega);have y7:=La HX8.o 7 (by omega);have y8:=La HX8.o 8 (by omega);have y9:=La HX8.o 9 (by omega);have z0:=K8 HX8.o 0;have z1:=K8 HX8.o 1;have z2:=K8 HX8.o 2;have z3:=K8 HX8.o 3;have z4:=K8 HX8.o 4;have z5:=K8 HX8.o 5;have z6:=K8 HX8.o 6;have z7:=K8 HX8.o 7;have z8:=K8 HX8.o 8;have z9:=K8 HX8.o 9;clear hb8))
 all_goals
  have HP:=ac (HX8.o.put L (.slice (some A) r.length (cap-1)) num (aN p L.c));have x0:=La HP.o.1 0 (by omega);have x1:=La HP.o.1 1 (by omega);have x2:=La HP.o.1 2 (by omega);have x3:=La HP.o.1 3 (by omega);have x4:=La HP.o.1 4 (by omega);have x5:=La HP.o.1 5 (by omega);have x6:=La HP.o.1 6 (by omega);have x7:=La HP.o.1 7 (by omega);have x8:=La HP.o.1 8 (by omega);have x9:=La HP.o.1 9 (by omega);have HBF:Ma (Below w.heap.size w (ib w8 w.heap.size L (.slice (some A) r.length (cap-1)) num (aN p L.c))):=HB1.o.trans ((HB8.o.mono HB1.o.size).trans (dE HP.o.2 (Lc _) (by have:=HB1.o.size;have:=HB8.o.size;omega)));have HFN:=ac (HPA.o.below HBF.o);unfold ib fL at x0 x1 x2 x3 x4 x5 x6 x7 x8 x9 HBF HFN;simp only[m6,aw,List.cons_append,List.nil_append,List.getElem?_cons_zero,List.getElem?_cons_succ] at x0 x1 x2 x3 x4 x5 x6 x7 x8 x9;go_wp2;refine Lm (v:=qu L (.slice (some A) r.length (cap-1)) num (aN p L.c)) (by simp[results,Tryz.results133,go_sem,x0,x1,x2,x3,x4,x5,x6,x7,x8,x9,qu]) rfl ⟨_,rfl,HFN.o,HBF.o,λg hg=>by simp only[Value.ownBlock,LA] at hg⊢;rw[<-hg,HAB.o]⟩
abbrev De:=Nat×Ft×List Ft×Value
def BY(d:De):BS:=(d.1,d.2.1,d.2.2.1)
def nJ(p:Int)(d:De):List Value:=m6 d.2.1 d.2.2.2 d.1 (aN p d.2.1.c)
def ry(p:Int)(ds:List De):List Value:=ds.flatMap (nJ p)
theorem vx(p:Int)(d:De):(nJ p d).length=10:=rfl
theorem BZ(p:Int)(d:De)(ds:List De):ry p (d::ds)=nJ p d++ry p ds:=rfl
theorem B1(p:Int):∀(ds:List De)(k j:Nat)(h:k<ds.length),j<10->(ry p ds)[k*10+j]?=(nJ p ds[k])[j]?
 |d::ds,0,j,_,hj=>by rw[BZ,LQ (by rw[vx];omega)];simp
 |d::ds,k+1,j,h,hj=>by rw[BZ,LW (by rw[vx];omega),vx,show (k+1)*10+j-10=k*10+j by omega,B1 p ds k j (by simpa using h) hj];simp
structure ku(p:Int)(B:Nat)(w:World)(v:Value)(ds:List De):Prop where
 own:w.ownsRow B 133 10 v ds.length (ry p ds)
 fvs:∀d∈ds,Fv w d.2.2.2 d.2.2.1
 apart:∀d∈ds,∀b,d.2.2.2.ownBlock=some b->v.ownBlock≠some b/\b<w.heap.size
theorem ku.next{p:Int}{B:Nat}{w w':World}{v:Value}{ds:List De}(h:ku p B w v ds)(hb:Below w.heap.size w w'):ku p B w' v ds:=
 ⟨aK h.own hb,λd hd=>(h.fvs d hd).below hb,λd hd b hb2=>⟨(h.apart d hd b hb2).1,Lj (h.apart d hd b hb2).2 hb.size⟩⟩
theorem ku.nil(p:Int)(B:Nat)(w:World):ku p B w (.slice none 0 0) []:=
 ⟨World.ownsRow_nil _ _ _ _,λd hd=>by simp at hd,λd hd=>by simp at hd⟩
theorem ku.at{p:Int}{B:Nat}{w:World}{v:Value}{ds:List De}(h:ku p B w v ds)(k:Nat)(hk:k<ds.length):∃g c,v=.slice (some ⟨g,0,none⟩) ds.length c/\g<w.heap.size/\km w g (k*10) ds[k].2.1 ds[k].2.2.2 ds[k].1 (aN p ds[k].2.1.c):=by
 rcases h.own.2 with ⟨_,h0⟩|⟨g,cap,af,rfl,_⟩
 .omega
 .have hlt:=(Lb h.own g rfl).2;have hc:∀j,j<10->w.cell? ⟨g,k*10+j,none⟩=(nJ p ds[k])[j]?:=λj hj=>by rw[La h.own (k*10+j) (by omega),B1 p ds k j hk hj]
  refine⟨g,cap,rfl,hlt,hlt,λj u hj=>?_,hc 7 (by omega),hc 8 (by omega),hc 9 (by omega)⟩;have hjl:j<7:=by have:=(List.getElem?_eq_some_iff.1 hj).1;simpa [aw] using this
  rw[hc j (by omega)];unfold nJ m6;rw[LQ (by simpa [aw] using hjl)];exact hj
structure vy(w:World)(ob:Nat)(p o ov:Int)(N R:Nat)(sv:Value):Prop where
 ord:bk w ob p (az o N N 0) (az o N N 1) (az o N N 2) sv
 sl:Sl w sv (KX ov R)
theorem vy.below{w w':World}{ob:Nat}{p o ov:Int}{N R:Nat}{sv:Value}(h:vy w ob p o ov N R sv)(hb:Below w.heap.size w w'):vy w' ob p o ov N R sv:=⟨h.ord.below hb,h.sl.below hb⟩
theorem iH(o:Int)(N i:Nat):0<=az o N N i/\az o N N i<=137438953472:=by
 unfold az j6 W0 W1 W2;split
 .split
  .split<;>omega
  .split
   .split<;>omega
   .split<;>omega
 .omega
theorem Et{p o:Int}{N:Nat}{v:List (List Tm)}(h:∀f∈v,cQ p o N f):mI p o N (λ_=>200) v:=by
 refine⟨λi=>?_,λi t ht x hx=>?_,λi t ht=>?_⟩<;>rcases vp v i with e|hm
 .rw[e];exact(Jr p o N).canon
 .exact(h _ hm).canon
 .rw[e] at ht;simp at ht
 .exact((h _ hm).bd t ht x hx).1
 .rw[e] at ht;simp at ht
 .exact(h _ hm).deg t ht
structure ky(p o ov:Int)(N R:Nat)(lss:List (List (List Tm)))(w wr:World)(m:Nat)(v:Value)(ds:List De)(fls:List (List Ft)):Prop where
 dvs:ku p w.heap.size wr v ds
 made:ds.map BY=jm 0 fls
 len:fls.length=m
 flr:∀i,i<m->nH p o ov N R 200 (lss.getD i []) (fls.getD i [])
 below:Below w.heap.size w wr
theorem ky.next{p o ov:Int}{N R:Nat}{lss:List (List (List Tm))}{w wr w':World}{m:Nat}{v:Value}{ds:List De}{fls:List (List Ft)}(h:ky p o ov N R lss w wr m v ds fls)(hb:Below wr.heap.size wr w'):ky p o ov N R lss w w' m v ds fls:=
 ⟨h.dvs.next hb,h.made,h.len,h.flr,h.below.trans (hb.mono h.below.size)⟩
theorem B4{p o ov:Int}{N R:Nat}{lss:List (List (List Tm))}{m:Nat}{fls:List (List Ft)}{f:List Ft}(hl:fls.length=m)(h:∀i,i<m->nH p o ov N R 200 (lss.getD i []) (fls.getD i []))(hf:nH p o ov N R 200 (lss.getD m []) f):∀i,i<m+1->nH p o ov N R 200 (lss.getD i []) ((fls++[f]).getD i []):=by
 intro i hi;rcases Nat.lt_succ_iff_lt_or_eq.1 hi with hl2|rfl
 .rw[Lr (l:=fls++[f]),LQ (by omega),<-Lr];exact h i hl2
 .rw[Lr (l:=fls++[f]),LW (by omega),hl];simpa using hf
theorem ky.none{p o ov:Int}{N R:Nat}{lss:List (List (List Tm))}{w wr:World}{m:Nat}{v:Value}{ds:List De}{fls:List (List Ft)}(h:ky p o ov N R lss w wr m v ds fls)(hf:nH p o ov N R 200 (lss.getD m []) []):ky p o ov N R lss w wr (m+1) v ds (fls++[[]]):=
 ⟨h.dvs,by rw[rl,h.made];simp[jm],by simp[h.len],B4 h.len h.flr hf,h.below⟩
theorem ky.one{p o ov:Int}{N R:Nat}{lss:List (List (List Tm))}{w wr w2:World}{m:Nat}{v v2:Value}{ds:List De}{fls:List (List Ft)}{L:Ft}{r:List Ft}{rv:Value}(h:ky p o ov N R lss w wr m v ds fls)(hf:nH p o ov N R 200 (lss.getD m []) (L::r))(hd:ku p w.heap.size w2 v2 (ds++[(m,L,r,rv)]))(hg:wr.grownBy w2 v.ownBlock):ky p o ov N R lss w w2 (m+1) v2 (ds++[(m,L,r,rv)]) (fls++[L::r]):=by refine⟨hd,?_,by simp[h.len],B4 h.len h.flr hf,i8 h.dvs.own h.below hg (Lc _)⟩;rw[rl,LO,h.made,Ly,h.len];simp[jm,BY]
def rA(N:Nat)(xs:List Int)(k:Nat):List Value:=((xs.take k++List.replicate (N-k) 0).map (Value.int .i64))
theorem K6(N:Nat)(xs:List Int)(k:Nat)(hl:xs.length=N)(hk:k<N):(rA N xs k).set k (.int .i64 (xs.getD k 0))=rA N xs (k+1):=by
 have hlen:(xs.take k).length=k:=by rw[LU];omega
 have e:xs.getD k 0=xs[k]:=by simp[Lr,show k<xs.length by omega]
 unfold rA;rw[LO,List.set_append_right _ _ (by rw[LD,hlen];exact Lc _),LD,hlen,Nat.sub_self,show N-k=(N-(k+1))+1 by omega,List.replicate_succ,List.map_cons,List.set_cons_zero,LK (show k<xs.length by omega),e,LO,LO,List.append_assoc];rfl
structure vz(w wr:World)(N:Nat)(t:Ft)(k:Nat):Prop where
 below:Below w.heap.size w wr
 box:Bx w.heap.size wr w.heap.size t
 res:wr.ownsRow w.heap.size 57 2 (.slice (some ⟨w.heap.size+1,0,none⟩) 1 1) 1 [.int .i64 0,.slice none 0 0]
 row:wr.ownsRow w.heap.size 3 1 (.slice (some ⟨w.heap.size+1+1,0,none⟩) N N) N (rA N (aE N t) k)
theorem vz.put{w wr:World}{N:Nat}{t:Ft}{k:Nat}(h:vz w wr N t k)(hl:(aE N t).length=N)(hk:k<N):vz w (wr.setCell ⟨w.heap.size+1+1,k,none⟩ (.int .i64 ((aE N t).getD k 0))) N t (k+1):=by have s:=Lp h.row k (.int .i64 ((aE N t).getD k 0));refine⟨h.below.trans (dE s.2 (by omega) h.below.size),World.ownsRow.kept h.box s.2 (L3 (by simp[Value.ownBlock];omega)),World.ownsRow.kept h.res s.2 (L3 (by simp[Value.ownBlock])),?_⟩;rw[<-K6 N _ k hl hk];exact s.1
structure gw(B N:Nat)(w:World)(u:Value)(ts:List TV):Prop where
 own:w.ownsRow B 57 2 u ts.length (bO ts)
 kind:∀g,u.ownBlock=some g->bU jA w g
 es:∀t∈ts,w.ownsRow B 3 1 t.2.1 N (t.2.2.map (Value.int .i64))
def b8(w:World)(T:TypeId)(g:Nat):Prop:=∀af,w.heap[g]?≠some (.cells af T (0,0))
theorem dp{w:World}{B:Nat}{T:TypeId}{s:Nat}{v:Value}{n:Nat}{xs:List Value}(h:w.ownsRow B T s v n xs){g:Nat}(hg:v.ownBlock=some g):∃af,w.heap[g]?=some (.cells af T (0,0)):=by
 rcases h.2 with ⟨rfl,_⟩|⟨g2,cap,af,rfl,_,hh,_⟩
 .simp[Value.ownBlock] at hg
 .simp only[Value.ownBlock,LA] at hg;subst hg;exact⟨af,hh⟩
theorem bp{w:World}{B:Nat}{T T':TypeId}{s:Nat}{v:Value}{n:Nat}{xs:List Value}(h:w.ownsRow B T s v n xs){g:Nat}(hg:v.ownBlock=some g)(hT:T≠T'):b8 w T' g:=by obtain⟨af,hh⟩:=dp h hg;intro cur2 e;rw[hh] at e;simp only[LA,Obj.cells.injEq] at e;exact hT e.2.1
theorem gw.frm{B N:Nat}{S:Nat->Prop}{w w':World}{u:Value}{ts:List TV}(h:gw B N w u ts)(hf:ai S w w')(hu:∀g,u.ownBlock=some g->¬S g)(hS:∀g,S g->b8 w 3 g):gw B N w' u ts:=
 ⟨hf.own h.own hu,λg hg=>hf.kdb (h.kind g hg) (Lb h.own g hg).2 (hu g hg),λt ht=>hf.own (h.es t ht) λg hg hs=>by
  obtain⟨af,e⟩:=dp (h.es t ht) hg;exact hS g hs af e⟩
theorem gw.next{B N:Nat}{w w':World}{u:Value}{ts:List TV}(h:gw B N w u ts)(hb:Below w.heap.size w w'):gw B N w' u ts:=
 h.frm (S:=λ_=>False) (ai.of_below hb) (λ_ _ h=>h) λ_ h=>h.elim
theorem gw.nil(B N:Nat)(w:World):gw B N w (.slice none 0 0) []:=⟨World.ownsRow_nil _ _ _ _,λg hg=>by simp[Value.ownBlock] at hg,λt ht=>by simp at ht⟩
theorem gw.pl{B N:Nat}{w:World}{u:Value}{ts:List TV}(h:gw B N w u ts)(hl:∀t∈ts,t.2.2.length=N):Pl w u (ts.map tm):=by refine uM h.own λt ht=>?_;exact yi (T:=3) (by rw[hl t ht];exact h.es t ht)
theorem gw.snoc{B N:Nat}{w w':World}{u v:Value}{ts:List TV}{c:Int}{ev:Value}{xs:List Int}(h:gw B N w u ts)(hev:w.ownsRow B 3 1 ev N (xs.map (Value.int .i64)))(h2:w'.ownsRow B 57 2 v (ts.length+1) (bO ts++[.int .i64 c,ev]))(h3:w.grownBy w' u.ownBlock)(h4:∀g,v.ownBlock=some g->bU jA w' g):gw B N w' v (ts++[(c,ev,xs)]):=by
 have hf:ai (λk=>u.ownBlock=some k) w w':=ai.of_grown h3 λ_ e=>e;have hk:∀{z:Value}{n:Nat}{zs:List Value},w.ownsRow B 3 1 z n zs->w'.ownsRow B 3 1 z n zs:=fun {z n zs} hz=>hf.own hz λg hg e=>by obtain⟨af,e2⟩:=dp hz hg;exact bp h.own e (by decide) af e2
 refine⟨?_,h4,λt ht=>?_⟩
 .have e:bO (ts++[(c,ev,xs)])=bO ts++[.int .i64 c,ev]:=by simp[bO]
  rw[e,Lx];exact h2
 .rcases Lv.1 ht with ht|ht
  .exact hk (h.es t ht)
  .rw[Lw] at ht;subst ht;exact hk hev
structure rB(B N:Nat)(w wx:World)(fb b i n rc:Nat)(us:List Value)(ts:List TV)(f:Bool)(t:Ft)(ev v:Value):Prop where
 pol:gw B N wx v (ts++[(t.c,ev,aE N t)])
 row:wx.ownsRow B 59 1 (.slice (some ⟨b,0,none⟩) n rc) n (us.set i v)
 kind:cz wx b
 fit:wx.ownsRow B 4 1 (.slice (some ⟨fb,0,none⟩) 1 1) 1 [.bool f]
 frm:ai (λk=>k=b\/(us.getD i aB).ownBlock=some k\/k=fb) w wx
 loc:v.ownBlock=(us.getD i aB).ownBlock\/∃g,v.ownBlock=some g/\w.heap.size<=g
theorem rB.next{B N:Nat}{w wx w':World}{fb b i n rc:Nat}{us:List Value}{ts:List TV}{f:Bool}{t:Ft}{ev v:Value}(h:rB B N w wx fb b i n rc us ts f t ev v)(hb:Below wx.heap.size wx w'):rB B N w w' fb b i n rc us ts f t ev v:=
 ⟨h.pol.next hb,aK h.row hb,bU.below h.kind (hb.block b (Lb h.row b rfl).2),aK h.fit hb,h.frm.trans (ai.of_below (S:=λ_=>False) hb) (λ_ _ h=>h.elim),h.loc⟩
def kz{α:Type}(f:Bool->α)(s:Bool)(x:α):Bool->α:=λs'=>if s'=s then x else f s'
theorem pm{α:Type}(f:Bool->α)(s:Bool)(x:α):kz f s x s=x:=by simp[kz]
theorem po{α:Type}(f:Bool->α){s s':Bool}(x:α)(h:s'≠s):kz f s x s'=f s':=by simp[kz,h]
structure QW(B N:Nat)(w:World)(rv:Bool->Value)(us:Bool->List Value)(tss:Bool->List (List TV)):Prop where
 len:∀s,(us s).length=(tss s).length
 own:∀s,w.ownsRow B 59 1 (rv s) (tss s).length (us s)
 kind:∀s g,(rv s).ownBlock=some g->cz w g
 pol:∀s i,i<(tss s).length->gw B N w ((us s).getD i aB) ((tss s).getD i [])
 rap:∀g,(rv true).ownBlock=some g->(rv false).ownBlock≠some g
 sap:∀s i s' j,i<(tss s).length->j<(tss s').length->¬(s=s'/\i=j)->∀g,((us s).getD i aB).ownBlock=some g->((us s').getD j aB).ownBlock≠some g
 lens:∀s i,∀t∈(tss s).getD i [],t.2.2.length=N
theorem QW.rne{B N:Nat}{w:World}{rv:Bool->Value}{us:Bool->List Value}{tss:Bool->List (List TV)}(h:QW B N w rv us tss){s s':Bool}(hs:s≠s'):∀g,(rv s).ownBlock=some g->(rv s').ownBlock≠some g:=by
 intro g hg e;cases s<;>cases s'
 .exact hs rfl
 .exact h.rap g e hg
 .exact h.rap g hg e
 .exact hs rfl
theorem QW.frm{B N:Nat}{S:Nat->Prop}{w w':World}{rv:Bool->Value}{us:Bool->List Value}{tss:Bool->List (List TV)}(h:QW B N w rv us tss)(hf:ai S w w')(hp:∀g,S g->b8 w 59 g)(ht:∀g,S g->b8 w 57 g)(hi:∀g,S g->b8 w 3 g):QW B N w' rv us tss:=by
 have hrow:∀s g,(rv s).ownBlock=some g->¬S g:=λs g hg hs=>by obtain⟨af,e⟩:=dp (h.own s) hg;exact hp g hs af e
 refine⟨h.len,λs=>hf.own (h.own s) (hrow s),λs g hg=>hf.kdb (h.kind s g hg) (Lb (h.own s) g hg).2 (hrow s g hg),λs i hl=>(h.pol s i hl).frm hf (λg hg hs=>?_) hi,h.rap,h.sap,h.lens⟩;obtain⟨af,e⟩:=dp (h.pol s i hl).own hg;exact ht g hs af e
theorem QW.next{B N:Nat}{w w':World}{rv:Bool->Value}{us:Bool->List Value}{tss:Bool->List (List TV)}(h:QW B N w rv us tss)(hb:Below w.heap.size w w'):QW B N w' rv us tss:=
 h.frm (S:=λ_=>False) (ai.of_below hb) (λ_ h=>h.elim) (λ_ h=>h.elim) λ_ h=>h.elim
theorem QW.grow{B N:Nat}{w w':World}{rv:Bool->Value}{us:Bool->List Value}{tss:Bool->List (List TV)}(h:QW B N w rv us tss){s:Bool}{fb b i n rc:Nat}{f0 f:Bool}{t:Ft}{ev v:Value}(hi:i<(tss s).length)(hv:rv s=.slice (some ⟨b,0,none⟩) n rc)(hn:n=(tss s).length)(hx:(aE N t).length=N)(hfb:w.ownsRow B 4 1 (.slice (some ⟨fb,0,none⟩) 1 1) 1 [.bool f0])(hg:rB B N w w' fb b i n rc (us s) ((tss s).getD i []) f t ev v):QW B N w' rv (kz us s ((us s).set i v)) (kz tss s ((tss s).set i ((tss s).getD i []++[(t.c,ev,aE N t)]))):=by
 subst hn;have hbs:(rv s).ownBlock=some b:=by rw[hv];rfl
 have hb:=h.own s;have hS:∀g,(g=b\/((us s).getD i aB).ownBlock=some g\/g=fb)->b8 w 3 g:=λg hgS=>by
  rcases hgS with rfl|e|rfl
  .exact bp hb hbs (by decide)
  .exact bp (h.pol s i hi).own e (by decide)
  .exact bp hfb rfl (by decide)
 have hrow:∀s',s'≠s->∀g,(rv s').ownBlock=some g->¬(g=b\/((us s).getD i aB).ownBlock=some g\/g=fb):=λs' hs' g hg2 hgS=>by
  obtain⟨af,e⟩:=dp (h.own s') hg2;rcases hgS with rfl|e2|rfl
  .exact h.rne hs' g hg2 hbs
  .exact bp (h.pol s i hi).own e2 (by decide) af e
  .exact bp hfb rfl (by decide) af e
 have hpol:∀s' j,j<(tss s').length->¬(s=s'/\i=j)->gw B N w' ((us s').getD j aB) ((tss s').getD j []):=λs' j hj hne=>
  (h.pol s' j hj).frm hg.frm (λg hg2 hgS=>by
   obtain⟨af,e⟩:=dp (h.pol s' j hj).own hg2;rcases hgS with rfl|e2|rfl
   .exact bp hb hbs (by decide) af e
   .exact h.sap s i s' j hi hj hne g e2 hg2
   .exact bp hfb rfl (by decide) af e) hS
 have hlt:∀s' j,j<(tss s').length->∀g,((us s').getD j aB).ownBlock=some g->g<w.heap.size:=λs' j hj g hg2=>(Lb (h.pol s' j hj).own g hg2).2;have hul:∀s' j,(kz us s ((us s).set i v) s').getD j aB=if s'=s/\i=j/\j<(us s).length then v else (us s').getD j aB:=λs' j=>by
  by_cases e:s'=s
  .subst e;rw[pm,lK];by_cases e2:i=j/\j<(us s').length
   .rw[LI e2,LI ⟨rfl,e2⟩]
   .rw[LH e2,LH λh=>e2 h.2]
  .rw[po _ _ e,LH λh=>e h.1]
 have htl:∀s' j,(kz tss s ((tss s).set i ((tss s).getD i []++[(t.c,ev,aE N t)])) s').getD j []=if s'=s/\i=j/\j<(tss s).length then (tss s).getD i []++[(t.c,ev,aE N t)] else (tss s').getD j []:=λs' j=>by
  by_cases e:s'=s
  .subst e;rw[pm,lK];by_cases e2:i=j/\j<(tss s').length
   .rw[LI e2,LI ⟨rfl,e2⟩]
   .rw[LH e2,LH λh=>e2 h.2]
  .rw[po _ _ e,LH λh=>e h.1]
 have hlen:∀s',(kz tss s ((tss s).set i ((tss s).getD i []++[(t.c,ev,aE N t)])) s').length=(tss s').length:=λs'=>by
  by_cases e:s'=s
  .subst e;rw[pm,List.length_set]
  .rw[po _ _ e]
 refine⟨λs'=>?_,λs'=>?_,λs' g hg2=>?_,λs' j hj=>?_,h.rap,λs1 i1 s2 j2 h1 h2 hne g e1=>?_,λs' j x hx2=>?_⟩
 .rw[hlen];by_cases e:s'=s
  .subst e;rw[pm,List.length_set];exact h.len s'
  .rw[po _ _ e];exact h.len s'
 .rw[hlen];by_cases e:s'=s
  .subst e;rw[pm,hv];exact hg.row
  .rw[po _ _ e];exact hg.frm.own (h.own s') (hrow s' e)
 .by_cases e:s'=s
  .subst e;rw[hbs] at hg2;simp only[LA] at hg2;subst hg2;exact hg.kind
  .exact hg.frm.kdb (h.kind s' g hg2) (Lb (h.own s') g hg2).2 (hrow s' e g hg2)
 .rw[hlen] at hj;rw[hul,htl,h.len];by_cases e:s'=s/\i=j/\j<(tss s).length
  .rw[LI e,LI e];exact hg.pol
  .rw[LH e,LH e];exact hpol s' j hj λh4=>e ⟨h4.1.symm,h4.2,by rw[h4.1];exact hj⟩
 .rw[hlen] at h1 h2;rw[hul,h.len] at e1⊢;by_cases ea:s1=s/\i=i1/\i1<(tss s).length
  .rw[LI ea] at e1;have eb:¬(s2=s/\i=j2/\j2<(tss s).length):=λh4=>hne ⟨ea.1.trans h4.1.symm,ea.2.1.symm.trans h4.2.1⟩;rw[LH eb];rcases hg.loc with hl|⟨g2,hl,hge⟩
   .rw[hl] at e1;exact h.sap s i s2 j2 hi h2 (λh4=>hne ⟨ea.1.trans h4.1,ea.2.1.symm.trans h4.2⟩) g e1
   .rw[hl] at e1;simp only[LA] at e1;intro e2;have:=hlt s2 j2 h2 g e2;omega
  .rw[LH ea] at e1;by_cases eb:s2=s/\i=j2/\j2<(tss s).length
   .rw[LI eb];rcases hg.loc with hl|⟨g2,hl,hge⟩
    .rw[hl];have:=h.sap s1 i1 s2 j2 h1 h2 hne g e1;rw[eb.1,<-eb.2.1] at this;exact this
    .rw[hl];intro e2;simp only[LA] at e2;have:=hlt s1 i1 h1 g e1;omega
   .rw[LH eb];exact h.sap s1 i1 s2 j2 h1 h2 hne g e1
 .rw[htl] at hx2;split at hx2
  .rcases Lv.1 hx2 with hx2|hx2
   .exact h.lens s i x hx2
   .rw[Lw] at hx2;subst hx2;exact hx
  .exact h.lens s' j x hx2
theorem dN{S:Nat->Prop}{w w':World}(hf:ai S w w'){B:Nat}{T:TypeId}{s:Nat}{v:Value}{n:Nat}{xs:List Value}(h:w.ownsRow B T s v n xs)(hS:∀g,S g->b8 w T g):w'.ownsRow B T s v n xs:=
 hf.own h λg hg hs=>by obtain⟨af,e⟩:=dp h hg;exact hS g hs af e
theorem qo{B B2:Nat}{w w':World}{g sb ob:Nat}{t:Ft}{rw:Value}{us:List Value}{rows:List (List Ft)}(h:Bx B w g t)(hs:bB B2 w sb ob rw us rows)(hf:ai (fK sb rw) w w'):Bx B w' g t:=dN hf h λk hk=>by
 rcases hk with rfl|e
 .exact bp hs.box rfl (by decide)
 .exact bp hs.rws.own e (by decide)
structure lh(p:Int)(B L:Nat)(w wr:World)(sb ob:Nat)(rv:Value)(rows af:List (List Ft)):Prop where
 tk:dU B L w wr sb ob rv af
 res:Bx w.heap.size wr w.heap.size ⟨0,0,0,0,0,0,0⟩
 go:∀r rows2,Nx p af r rows2->Nx p rows r rows2
 co:∀r∈af,∀t∈r,0<t.c/\t.c<p
 dn:∀r∈af,Dn r
 len:af.length=rows.length
theorem lh.next{p:Int}{B L:Nat}{w wr w':World}{sb ob:Nat}{rv:Value}{rows af:List (List Ft)}(h:lh p B L w wr sb ob rv rows af)(hb:Below wr.heap.size wr w'):lh p B L w w' sb ob rv rows af:=
 ⟨h.tk.next hb,h.res.below hb,h.go,h.co,h.dn,h.len⟩
theorem FQ(B L sb ob:Nat)(p k0 k1 k2:Int)(sv rv:Value)(us:List Value)(rows:List (List Ft))(w:World)(hs:bB B w sb ob rv us rows)(hL:L<=w.heap.size)(hloc:kP L us rows)(hob:bk w ob p k0 k1 k2 sv)(hp:2<=p/\p<=101)(hn:rows.length<=1000)(hc:∀r∈rows,∀t∈r,0<t.c/\t.c<p)(hd:∀r∈rows,Dn r):Calls prog 128 #[.pointer (some ⟨sb,0,none⟩)] w λe w'=>∃r,e=.returned (.tuple #[bX (cA r),.bool r.isSome])/\∃rows2,Nx p rows r rows2/\dU B L w w' sb ob rv rows2:=by
 have HOB:=ac hob;have HAP:=ac (hs.ob_apart hob);have HRL:Ma (∀g,rv.ownBlock=some g->g<w.heap.size):=λg hg=>(Lb hs.rws.own g hg).2;have HSL:=ac hs.lt.2;obtain⟨w0,hw0⟩:∃w0,w0=w.alloc (.cells #[.int .i64 0,.int .u16 0,.int .u16 0,.int .u16 0,.int .u16 0,.int .u8 0,.int .u8 0] 95):=⟨_,rfl⟩;have H0:Ma (lh p B L w w0 sb ob rv rows rows):=by show lh _ _ _ _ _ _ _ _ _ _;rw[hw0];exact⟨⟨⟨us,hs.next aj,hloc⟩,ai.of_below aj⟩,Bx.new w _ (Lc _),λ_ _ h=>h,hc,hd,rfl⟩
 clear hs hob hc hd hloc;go_enter func128,ntmps128;go_wp2_with fail;rw[<-hw0];clear hw0;go_loopw [3] (λf wr=>f=.bool false/\∃af,lh p B L w wr sb ob rv rows af) (λ_ wr=>nI wr rv);case atStart=>exact⟨rfl,rows,H0.o⟩
 case round=>
  clear H0;obtain⟨rfl,af,ht⟩:=hrel;have HT:=ac ht;obtain⟨us1,hs1,_⟩:=ht.tk.sum;obtain⟨x0,x1,x2⟩:=hs1.cells;have HG:=ac (KM sb rv af wr hs1.lt.2 x1 hs1.rws.rws (by rw[ht.len];exact hn));have HTOT:=ac hs1.rws.total;clear ht hs1 x0 x1 x2;cases hgr:eu af with
  |none=>
   have HGR:=ac hgr;rw[hgr] at HG;simp only[cA,bX,Option.getD_none,Option.isSome_none] at HG;clear hgr;go_upto_region 2 with (go_at_call 153;refine HG.o.mono ?_;rintro e w1 ⟨rfl,hb1⟩;have HT1:=ac (HT.o.next hb1);have HBX:=ac (Bx.new w1 w.heap.size HT1.o.tk.frm.size);obtain⟨y0,y1,y2,y3,y4,y5,y6⟩:=HBX.o.at;have z0:=K8 HBX.o 0;have z1:=K8 HBX.o 1;have z2:=K8 HBX.o 2;have z3:=K8 HBX.o 3;have z4:=K8 HBX.o 4;have z5:=K8 HBX.o 5;have z6:=K8 HBX.o 6;simp only[Ly] at y0 y1 y2 y3 y4 y5 y6;clear hb1);obtain⟨wq,hwq⟩:∃wq,wq=w1.alloc (.cells #[.int .i64 0,.int .u16 0,.int .u16 0,.int .u16 0,.int .u16 0,.int .u8 0,.int .u8 0] 95):=⟨_,rfl⟩;have HQ:Ma (lh p B L w wq sb ob rv rows af/\Bx w.heap.size wq w1.heap.size ⟨0,0,0,0,0,0,0⟩/\w.heap.size<w1.heap.size/\nI wq rv=fQ af):=by show _/\_/\_/\_;rw[hwq];obtain⟨us2,hs2,_⟩:=(HT1.o.next (aj (A:=.cells #[.int .i64 0,.int .u16 0,.int .u16 0,.int .u16 0,.int .u16 0,.int .u8 0,.int .u8 0] 95))).tk.sum;exact⟨HT1.o.next aj,iM HT1.o.tk.frm.size ⟨0,0,0,0,0,0,0⟩,(Lb HT1.o.res _ rfl).2,hs2.rws.total⟩
   rw[<-hwq];clear hwq HBX y0 y1 y2 y3 y4 y5 y6 z0 z1 z2 z3 z4 z5 z6;have HLT2:=HQ.o.2.2.1;obtain⟨v0,v1,v2,v3,v4,v5,v6⟩:=HQ.o.1.res.at;have r0:=K8 HQ.o.1.res 0;have r1:=K8 HQ.o.1.res 1;have r2:=K8 HQ.o.1.res 2;have r3:=K8 HQ.o.1.res 3;have r4:=K8 HQ.o.1.res 4;have r5:=K8 HQ.o.1.res 5;have r6:=K8 HQ.o.1.res 6;simp only[Ly] at v0 v1 v2 v3 v4 v5 v6;have HP:=ac (HQ.o.1.res.put ⟨0,0,0,0,0,0,0⟩);have hpat:=HP.o.1.at;have HPT:=ac (HQ.o.1.tk.far HP.o.2 hL (Lc _) HSL.o HRL.o);unfold fL at hpat HPT;obtain⟨s0,s1,s2,s3,s4,s5,s6⟩:=hpat;simp only[Ly] at s0 s1 s2 s3 s4 s5 s6;go_wp2;refine Lm (v:=.tuple #[bX (cA none),.bool false]) (by simp[results,Tryz.results128,go_sem,s0,s1,s2,s3,s4,s5,s6,bX,cA]) rfl ⟨none,rfl,af,HQ.o.1.go _ _ (Nx.stop af HGR.o),HPT.o⟩
  |some t=>
   have HGR:=ac hgr;rw[hgr] at HG;simp only[cA,bX,Option.getD_some,Option.isSome_some] at HG;clear hgr;go_upto_region 2 with (go_at_call 153;refine HG.o.mono ?_;rintro e w1 ⟨rfl,hb1⟩;have HT1:=ac (HT.o.next hb1);have HBX:=ac (Bx.new w1 w.heap.size HT1.o.tk.frm.size);obtain⟨y0,y1,y2,y3,y4,y5,y6⟩:=HBX.o.at;have z0:=K8 HBX.o 0;have z1:=K8 HBX.o 1;have z2:=K8 HBX.o 2;have z3:=K8 HBX.o 3;have z4:=K8 HBX.o 4;have z5:=K8 HBX.o 5;have z6:=K8 HBX.o 6;simp only[Ly] at y0 y1 y2 y3 y4 y5 y6;clear hb1);obtain⟨wq,hwq⟩:∃wq,wq=w1.alloc (.cells #[.int .i64 t.k,.int .u16 t.a,.int .u16 t.b,.int .u16 t.d,.int .u16 t.z,.int .u8 t.pl,.int .u8 t.c] 95):=⟨_,rfl⟩;have HQ:Ma (lh p B L w wq sb ob rv rows af/\Bx w.heap.size wq w1.heap.size t/\w.heap.size<w1.heap.size/\nI wq rv=fQ af):=by show _/\_/\_/\_;rw[hwq];obtain⟨us2,hs2,_⟩:=(HT1.o.next (aj (A:=.cells #[.int .i64 t.k,.int .u16 t.a,.int .u16 t.b,.int .u16 t.d,.int .u16 t.z,.int .u8 t.pl,.int .u8 t.c] 95))).tk.sum;exact⟨HT1.o.next aj,iM HT1.o.tk.frm.size t,(Lb HT1.o.res _ rfl).2,hs2.rws.total⟩
   rw[<-hwq];clear hwq HBX y0 y1 y2 y3 y4 y5 y6 z0 z1 z2 z3 z4 z5 z6;have HLT2:=HQ.o.2.2.1;have HTA:Ma (Calls prog 154 #[.pointer (some ⟨sb,0,none⟩),.int .i64 t.k] wq λe w'=>e=.returned (.int .u8 (cY t.k af%p))/\dU B L wq w' sb ob rv (tk t.k af)):=by obtain⟨us2,hs2,hl2⟩:=HQ.o.1.tk.sum;exact K2 B L sb ob p k0 k1 k2 t.k sv rv us2 af wq hs2 hl2 (HOB.o.frm HQ.o.1.tk.frm HAP.o) hp (by rw[HQ.o.1.len];exact hn) λr hr t ht=>by have:=HQ.o.1.co r hr t ht;omega
   obtain⟨b0,b1,b2,b3,b4,b5,b6⟩:=HQ.o.2.1.at;simp only[Ly] at b0 b1 b2 b3 b4 b5 b6;have hmem:=(BL HQ.o.1.dn HGR.o).1;have HMEM:=ac hmem;obtain⟨t2,ht2⟩:∃t2:Ft,t2={t with c:=cY t.k af%p}:=⟨_,rfl⟩;have HT2:=ac ht2;have hcd:cY t.k af%p=t2.c:=by rw[ht2]
   have HCD:=ac hcd;have HEN:Ma ((aw t).set 6 (.int .u8 t2.c)=aw t2):=by show _=_;rw[ht2];rfl
   rw[hcd] at HTA;clear hmem hcd ht2;have STEP:Ma (∀w3,dU B L wq w3 sb ob rv (tk t.k af)->dU B L w w3 sb ob rv (tk t.k af)/\Bx w.heap.size w3 w1.heap.size t/\Bx w.heap.size w3 w.heap.size ⟨0,0,0,0,0,0,0⟩):=λw3 h3=>⟨HQ.o.1.tk.trans h3,BU HQ.o.2.1 h3.frm (λe=>by have:=HRL.o _ e;omega),BU HQ.o.1.res h3.frm (λe=>by have:=HRL.o _ e;omega)⟩
   go_upto_region 5 with (go_at_call 154;refine HTA.o.mono ?_;rintro e w3 ⟨rfl,h3⟩;have H3:=ac (STEP.o w3 h3);clear h3;have d6:=(H3.o.2.1.at).2.2.2.2.2.2;have f6:=K8 H3.o.2.1 6;simp only[Ly] at d6);have s6:=Lp H3.o.2.1 6 (.int .u8 t2.c);obtain⟨w4,hw4⟩:∃w4,w4=w3.setCell ⟨w1.heap.size,6,none⟩ (.int .u8 t2.c):=⟨_,rfl⟩;have H4:Ma (dU B L w w4 sb ob rv (tk t.k af)/\Bx w.heap.size w4 w1.heap.size t2/\Bx w.heap.size w4 w.heap.size ⟨0,0,0,0,0,0,0⟩):=by show _/\_/\_;rw[hw4];exact⟨H3.o.1.far s6.2 (by omega) (by omega) HSL.o HRL.o,by have:=s6.1;rw[HEN.o] at this;exact this,World.ownsRow.kept H3.o.2.2 s6.2 (L3 (by simp[Value.ownBlock];omega))⟩
   rw[<-hw4];clear hw4 s6 d6 f6;obtain⟨e0,e1,e2,e3,e4,e5,e6⟩:=H4.o.2.1.at;simp only[Ly] at e0 e1 e2 e3 e4 e5 e6;by_cases hz:t2.c=0
   .have HZ:=ac hz;go_wp2;go_roundw;case rel=>
     refine⟨rfl,tk t.k af,H4.o.1,H4.o.2.2,λr rows2 h=>HQ.o.1.go _ _ (Nx.go af rows2 t r HGR.o (HCD.o.trans HZ.o) h),λr hr x hx=>?_,λr hr=>?_,?_⟩
     .obtain⟨r0,h0,rfl⟩:=LC.1 hr;exact HQ.o.1.co r0 h0 x (vf _ r0 x hx)
     .obtain⟨r0,h0,rfl⟩:=LC.1 hr;exact uG (HQ.o.1.dn r0 h0)
     .have:=HQ.o.1.len;simp[tk,this]
    case measure=>obtain⟨us4,hs4,_⟩:=H4.o.1.sum;have h4:=hs4.rws.total;obtain⟨ts,hm⟩:=HMEM.o;have h5:=BN hm;have h6:=HTOT.o;omega
   .have HZ:=ac hz;go_upto_region 6 with fail;obtain⟨v0,v1,v2,v3,v4,v5,v6⟩:=H4.o.2.2.at;have r0:=K8 H4.o.2.2 0;have r1:=K8 H4.o.2.2 1;have r2:=K8 H4.o.2.2 2;have r3:=K8 H4.o.2.2 3;have r4:=K8 H4.o.2.2 4;have r5:=K8 H4.o.2.2 5;have r6:=K8 H4.o.2.2 6;simp only[Ly] at v0 v1 v2 v3 v4 v5 v6;have HP:=ac (H4.o.2.2.put t2);have hpat:=HP.o.1.at;have HPT:=ac (H4.o.1.far HP.o.2 hL (Lc _) HSL.o HRL.o);unfold fL at hpat HPT;obtain⟨s0,s1,s2,s3,s4,s5,s6⟩:=hpat;simp only[Ly] at s0 s1 s2 s3 s4 s5 s6;have HNX:=ac (HQ.o.1.go _ _ (Nx.hit af t HGR.o (by rw[HCD.o];exact HZ.o)));rw[<-HT2.o] at HNX;go_wp2;refine Lm (v:=.tuple #[bX (cA (some t2)),.bool true]) (by simp[results,Tryz.results128,go_sem,s0,s1,s2,s3,s4,s5,s6,bX,cA]) rfl ⟨some t2,rfl,_,HNX.o,HPT.o⟩
theorem pX{o:Int}{N:Nat}{bt:Ft}(h0:0<N)(h3:N<=3):bt.a*az o N N 0+bt.b*az o N N 1+bt.d*az o N N 2=bA o (aE N bt):=by
 have hN:N=1\/N=2\/N=3:=by omega
 rcases hN with rfl|rfl|rfl<;>simp[aE,bA,az,j6]
end Go.Proofs.YteimdcndjjclnaaGreat
