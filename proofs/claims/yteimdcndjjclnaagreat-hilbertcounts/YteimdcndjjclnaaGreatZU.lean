/- NewSum of one vector. -/
import Derived.Test.YteimdcndjjclnaaGreatZN
import Derived.Test.YteimdcndjjclnaaGreatWN
set_option maxHeartbeats 2000000
set_option maxRecDepth 100000
namespace Go.Proofs.YteimdcndjjclnaaGreat
set_option linter.all false
open Go.Proofs.Tryz Go.RowKit
structure gK(p:Int)(G:Ft->Prop)(B:Nat)(w:World)(sb ob:Nat)(rv:Value)(us:List Value)(rows:List (List Ft))(C:Int->Int):Prop where
 sum:bI B w sb ob rv us rows
 ok:aP p G rows
 len:rows.length<=65
 cn:∀k,p∣ao k rows.flatten-C k
theorem AD(w:World)(ob:Nat)(B:Nat)(hB:B<=w.heap.size):bI B (w.alloc (.cells #[.pointer (some ⟨ob,0,none⟩),.slice none 0 0] 157)) w.heap.size ob (.slice none 0 0) [] []:=
 ⟨⟨by simp,.inr ⟨w.heap.size,1,_,rfl,hB,heap_alloc_new w _,MI _,by decide,by simp,by simp⟩⟩,rZ (λu hu x e=>by simp at hu;rcases hu with rfl|rfl<;>cases e),cU.nil _ _⟩
theorem F7(ob vb voff vc:Nat)(p k0 k1 k2:Int)(G:Ft->Prop)(sv vv:Value)(fs:List Ft)(w:World)(hob:bw w ob p k0 k1 k2 sv)(hp:2<=p/\p<=101)(hv:w.cell? ⟨vb,voff,none⟩=some vv)(hf:Fv w vv fs)(hrf:aP p G [fs])(hG:∀x t,gQ x t->G t->G x)(hM:∀r,Dn r->(∀t∈r,G t)->r.length<=100000000000):Calls prog 83 #[.pointer (some ⟨ob,0,none⟩),.slice (some ⟨vb,voff,none⟩) 1 vc] w λe w'=>e=.returned (.pointer (some ⟨w.heap.size,0,none⟩))/\∃rv us rows,gK p G w.heap.size w' w.heap.size ob rv us rows (λk=>ao k fs)/\Below w.heap.size w w':=by
 have HOB:=ae hob;have HF:=ae hf;have HV:=ae hv;have hobl:=hob.lt;obtain⟨va,vcc,rfl,_,_⟩:=hf;obtain⟨w1,hw1⟩:∃w1,w1=w.alloc (.cells #[.pointer (some ⟨ob,0,none⟩),.slice none 0 0] 157):=⟨_,rfl⟩;have HB1:Nw (Below w.heap.size w w1):=by rw[hw1];exact ai
 have HS1:Nw (bI w.heap.size w1 w.heap.size ob (.slice none 0 0) [] []):=by rw[hw1];exact AD w ob _ (MI _)
 have HAD:=ae (rx w.heap.size w.heap.size ob p k0 k1 k2 G sv (.slice none 0 0) _ [] [] fs w1 HS1.o (by have:=HB1.o.size;omega) (HOB.o.below HB1.o) (by omega) hp (by simp) (HF.o.below HB1.o) ⟨λr hr=>by simp at hr,λr hr=>by simp at hr,λr hr=>by simp at hr⟩ hrf hG hM);have c1:=af HV.o HB1.o;clear hob hv hrf hG hM;go_enter func83,ntmps83;go_wp2_with fail;rw[<-hw1];clear hw1;go_loopw [13] (λi wr=>(i=.int .i64 0/\wr=w1)\/(i=.int .i64 1/\∃rv us rows,gK p G w.heap.size wr w.heap.size ob rv us rows (λk=>ao k fs)/\Below w.heap.size w wr)) (λi _=>1-(intOf i).toNat);case atStart=>exact Np ⟨rfl,rfl⟩
 case round=>
  rcases hrel with ⟨rfl,rfl⟩|⟨rfl,rv,us,rows,hsm,hb⟩
  .go_wp2_with (go_at_call 107;refine HAD.o.mono ?_;rintro e w9 ⟨rfl,rv9,us9,rows9,q1,q2,q3,q4,q5,q6⟩;have H9:Nw (gK p G w.heap.size w9 w.heap.size ob rv9 us9 rows9 (λk=>ao k fs)/\Below w.heap.size w w9):=⟨⟨q1,q2,q3,λk=>by have:=q4 k;simpa [ao] using this⟩,HB1.o.trans (q5.to_below HB1.o.size (λx hx=>by rcases hx with hx|hx;exact Nat.le_of_eq hx.symm;simp[Value.ownBlock] at hx))⟩;clear q1 q2 q3 q4 q5 q6);go_roundw;case rel=>exact Nq ⟨by go_num,rv9,us9,rows9,H9.o.1,H9.o.2⟩
   case measure=>simp[intOf]
  .have HSM:=ae (MK hsm hb);clear hsm hb;go_wp2;go_ret;exact⟨rfl,rv,us,rows,HSM.o.1,HSM.o.2⟩
def rA(L:Ft)(rv:Value)(num inv:Int):Value:=.agg #[.int .i64 L.k,.int .u16 L.a,.int .u16 L.b,.int .u16 L.d,.int .u16 L.z,.int .u8 L.pl,.int .u8 L.c,rv,.int .i64 num,.int .u8 inv]
def iO(w:World)(g:Nat)(L:Ft)(rv:Value)(num inv:Int):World:=(((gw w g L).setCell ⟨g,7,none⟩ rv).setCell ⟨g,8,none⟩ (.int .i64 num)).setCell ⟨g,9,none⟩ (.int .u8 inv)
theorem MA{w:World}{g b o:Nat}{L:Ft}{rv:Value}{num inv:Int}(h:b≠g):(iO w g L rv num inv).cell? ⟨b,o,none⟩=w.cell? ⟨b,o,none⟩:=by have H:∀(w:World)(j:Nat)(u:Value),(w.setCell ⟨g,j,none⟩ u).cell? ⟨b,o,none⟩=w.cell? ⟨b,o,none⟩:=λw j u=>World.cell?_setCell_far _ _ _ _ (λe=>h e.symm);unfold iO gw;simp only[H]
def qh(B:Nat)(wr:World)(g:Nat)(xs:List Value):Prop:=wr.ownsRow B 133 10 (.slice (some ⟨g,0,none⟩) 1 1) 1 xs
def od(L:Ft)(rv:Value)(num inv:Int):List Value:=aA L++[rv,.int .i64 num,.int .u8 inv]
theorem qh.put{B:Nat}{wr:World}{g:Nat}{xs:List Value}(h:qh B wr g xs)(L:Ft)(rv:Value)(num inv:Int):qh B (iO wr g L rv num inv) g (od L rv num inv)/\wr.grownBy (iO wr g L rv num inv) (some g):=by
 have s1:=MT h 0 (.int .i64 L.k);have s2:=s1.1.stored 1 (.int .u16 L.a);have s3:=s2.1.stored 2 (.int .u16 L.b);have s4:=s3.1.stored 3 (.int .u16 L.d);have s5:=s4.1.stored 4 (.int .u16 L.z);have s6:=s5.1.stored 5 (.int .u8 L.pl);have s7:=s6.1.stored 6 (.int .u8 L.c);have s8:=s7.1.stored 7 rv;have s9:=s8.1.stored 8 (.int .i64 num);have s10:=s9.1.stored 9 (.int .u8 inv);have hl:xs.length=10:=h.1;refine⟨?_,cN (cN (cN (cN (cN (cN (cN (cN (cN s1.2 s2.2) s3.2) s4.2) s5.2) s6.2) s7.2) s8.2) s9.2) s10.2⟩;have e:(((((((((xs.set 0 (.int .i64 L.k)).set 1 (.int .u16 L.a)).set 2 (.int .u16 L.b)).set 3 (.int .u16 L.d)).set 4 (.int .u16 L.z)).set 5 (.int .u8 L.pl)).set 6 (.int .u8 L.c)).set 7 rv).set 8 (.int .i64 num)).set 9 (.int .u8 inv)=od L rv num inv:=by
  match xs,hl with
  |[_,_,_,_,_,_,_,_,_,_],_=>rfl
 have:=s10.1;rw[e] at this;exact this
theorem Hb(ob:Nat)(p k0 k1 k2 num:Int)(sv vv:Value)(L:Ft)(r:List Ft)(w:World)(hob:bw w ob p k0 k1 k2 sv)(hpr:bq p=0)(hc:0<L.c/\L.c<p)(hf:Fv w vv (L::r)):Calls prog 133 #[.pointer (some ⟨ob,0,none⟩),.int .i64 num,vv] w λe w'=>∃rv,e=.returned (rA L rv num (aM p L.c))/\Fv w' rv r/\Below w.heap.size w w'/\∀g,rv.ownBlock=some g->vv.ownBlock=some g:=by
 obtain⟨b,off,cap,rfl,hcap,hlt,hft,h1,h2⟩:=hf.head;obtain⟨A,hA,hplA⟩:=Fv.tail ⟨h1,h2⟩;have HPA:=ae hplA;have HAB:Nw (A.block=b):=by
  show _=_;by_cases hc1:cap=1
  .rw[M9 hc1] at hA;simp only[M3] at hA;rw[<-hA]
  .rw[M8 hc1] at hA;simp only[M3] at hA;rw[<-hA]
 have HOB:=ae hob;have HFT:=ae hft;have hle:(1:Int)<=(r.length:Int)+1:=by omega
 obtain⟨w1,hw1⟩:∃w1,w1=w.alloc (.cells #[.int .i64 0,.int .u16 0,.int .u16 0,.int .u16 0,.int .u16 0,.int .u8 0,.int .u8 0,.slice none 0 0,.int .i64 0,.int .u8 0] 133):=⟨_,rfl⟩;have HB1:Nw (Below w.heap.size w w1):=by rw[hw1];exact ai
 have HX1:Nw (qh w.heap.size w1 w.heap.size [.int .i64 0,.int .u16 0,.int .u16 0,.int .u16 0,.int .u16 0,.int .u8 0,.int .u8 0,.slice none 0 0,.int .i64 0,.int .u8 0]):=by rw[hw1];exact⟨by simp,.inr ⟨w.heap.size,1,_,rfl,MI _,heap_alloc_new w _,MI _,by decide,by simp,by simp⟩⟩
 have HIN:Nw (∀W,Below w1.heap.size w1 W->Calls prog 134 #[.pointer (some ⟨ob,0,none⟩),.int .u8 L.c] W λe w'=>e=.returned (.int .u8 (aM p L.c))/\Below W.heap.size W w'):=λW hb=>Am ob p k0 k1 k2 sv L.c W ((HOB.o.below HB1.o).below hb) hpr hc;have KEEP:Nw (∀W,Below w1.heap.size w1 W->W.cell? ⟨b,off,none⟩=some (.int .i64 L.k)/\W.cell? ⟨b,off+1,none⟩=some (.int .u16 L.a)/\W.cell? ⟨b,off+2,none⟩=some (.int .u16 L.b)/\W.cell? ⟨b,off+3,none⟩=some (.int .u16 L.d)/\W.cell? ⟨b,off+4,none⟩=some (.int .u16 L.z)/\W.cell? ⟨b,off+5,none⟩=some (.int .u8 L.pl)/\W.cell? ⟨b,off+6,none⟩=some (.int .u8 L.c)):=λW hb=>(HFT.o.keep HB1.o).keep hb;have KEEPS:Nw (∀W,(W.cell? ⟨b,off,none⟩=some (.int .i64 L.k)/\W.cell? ⟨b,off+1,none⟩=some (.int .u16 L.a)/\W.cell? ⟨b,off+2,none⟩=some (.int .u16 L.b)/\W.cell? ⟨b,off+3,none⟩=some (.int .u16 L.d)/\W.cell? ⟨b,off+4,none⟩=some (.int .u16 L.z)/\W.cell? ⟨b,off+5,none⟩=some (.int .u8 L.pl)/\W.cell? ⟨b,off+6,none⟩=some (.int .u8 L.c))->(iO W w.heap.size L (.slice (some A) r.length (cap-1)) num (aM p L.c)).cell? ⟨b,off,none⟩=some (.int .i64 L.k)/\(iO W w.heap.size L (.slice (some A) r.length (cap-1)) num (aM p L.c)).cell? ⟨b,off+1,none⟩=some (.int .u16 L.a)/\(iO W w.heap.size L (.slice (some A) r.length (cap-1)) num (aM p L.c)).cell? ⟨b,off+2,none⟩=some (.int .u16 L.b)/\(iO W w.heap.size L (.slice (some A) r.length (cap-1)) num (aM p L.c)).cell? ⟨b,off+3,none⟩=some (.int .u16 L.d)/\(iO W w.heap.size L (.slice (some A) r.length (cap-1)) num (aM p L.c)).cell? ⟨b,off+4,none⟩=some (.int .u16 L.z)/\(iO W w.heap.size L (.slice (some A) r.length (cap-1)) num (aM p L.c)).cell? ⟨b,off+5,none⟩=some (.int .u8 L.pl)/\(iO W w.heap.size L (.slice (some A) r.length (cap-1)) num (aM p L.c)).cell? ⟨b,off+6,none⟩=some (.int .u8 L.c)):=λW h=>by simp only[MA (show b≠w.heap.size by omega)];exact h
 have CE:Nw (∀W,Below w1.heap.size w1 W->qh w.heap.size W w.heap.size [.int .i64 0,.int .u16 0,.int .u16 0,.int .u16 0,.int .u16 0,.int .u8 0,.int .u8 0,.slice none 0 0,.int .i64 0,.int .u8 0]):=λW hb=>aI HX1.o hb;unfold iO gw at KEEPS;have HB0:Nw (Below w1.heap.size w1 w1.drew):=(MJ _ _).drew;clear hf hft h1 h2 hplA hob hpr hc;go_enter func133,ntmps133;go_wp2_with fail;rw[<-hw1];clear hw1;go_region_held (λW=>W.cell? ⟨b,off,none⟩=some (.int .i64 L.k)/\W.cell? ⟨b,off+1,none⟩=some (.int .u16 L.a)/\W.cell? ⟨b,off+2,none⟩=some (.int .u16 L.b)/\W.cell? ⟨b,off+3,none⟩=some (.int .u16 L.d)/\W.cell? ⟨b,off+4,none⟩=some (.int .u16 L.z)/\W.cell? ⟨b,off+5,none⟩=some (.int .u8 L.pl)/\W.cell? ⟨b,off+6,none⟩=some (.int .u8 L.c))
  (first|with_reducible exact KEEP.o _ HB0.o|with_reducible exact KEEP.o _ HB8.o|with_reducible exact KEEPS.o w8 (KEEP.o _ HB8.o))
  (first|(go_at_call 134;refine(HIN.o _ HB0.o).mono ?_;rintro e w8 ⟨rfl,hb8⟩;have HB8:=ae (HB0.o.trans (hb8.mono HB0.o.size));have HX8:=ae (CE.o _ HB8.o);have y0:=MG HX8.o 0 (by omega);have y1:=MG HX8.o 1 (by omega);have y2:=MG HX8.o 2 (by omega);have y3:=MG HX8.o 3 (by omega);have y4:=MG HX8.o 4 (by omega);have y5:=MG HX8.o 5 (by omega);have y6:=MG HX8.o 6 (by omega);have y7:=MG HX8.o 7 (by omega);have y8:=MG HX8.o 8 (by omega);have y9:=MG HX8.o 9 (by omega);have z0:=MF HX8.o 0;have z1:=MF HX8.o 1;have z2:=MF HX8.o 2;have z3:=MF HX8.o 3;have z4:=MF HX8.o 4;have z5:=MF HX8.o 5;have z6:=MF HX8.o 6;have z7:=MF HX8.o 7;have z8:=MF HX8.o 8;have z9:=MF HX8.o 9;clear hb8))
 all_goals
  have HP:=ae (HX8.o.put L (.slice (some A) r.length (cap-1)) num (aM p L.c));have x0:=MG HP.o.1 0 (by omega);have x1:=MG HP.o.1 1 (by omega);have x2:=MG HP.o.1 2 (by omega);have x3:=MG HP.o.1 3 (by omega);have x4:=MG HP.o.1 4 (by omega);have x5:=MG HP.o.1 5 (by omega);have x6:=MG HP.o.1 6 (by omega);have x7:=MG HP.o.1 7 (by omega);have x8:=MG HP.o.1 8 (by omega);have x9:=MG HP.o.1 9 (by omega);have HBF:Nw (Below w.heap.size w (iO w8 w.heap.size L (.slice (some A) r.length (cap-1)) num (aM p L.c))):=HB1.o.trans ((HB8.o.mono HB1.o.size).trans (dI HP.o.2 (MI _) (by have:=HB1.o.size;have:=HB8.o.size;omega)));have HFN:=ae (HPA.o.below HBF.o);unfold iO gw at x0 x1 x2 x3 x4 x5 x6 x7 x8 x9 HBF HFN;simp only[od,aA,List.cons_append,List.nil_append,List.getElem?_cons_zero,List.getElem?_cons_succ] at x0 x1 x2 x3 x4 x5 x6 x7 x8 x9;go_wp2;refine MQ (v:=rA L (.slice (some A) r.length (cap-1)) num (aM p L.c)) (by simp[results,Tryz.results133,go_sem,x0,x1,x2,x3,x4,x5,x6,x7,x8,x9,rA]) rfl ⟨_,rfl,HFN.o,HBF.o,λg hg=>by simp only[Value.ownBlock,M3] at hg⊢;rw[<-hg,HAB.o]⟩
abbrev De:=Nat×Ft×List Ft×Value
def C0(d:De):CU:=(d.1,d.2.1,d.2.2.1)
def oD(p:Int)(d:De):List Value:=od d.2.1 d.2.2.2 d.1 (aM p d.2.1.c)
def sH(p:Int)(ds:List De):List Value:=ds.flatMap (oD p)
theorem wP(p:Int)(d:De):(oD p d).length=10:=rfl
theorem C1(p:Int)(d:De)(ds:List De):sH p (d::ds)=oD p d++sH p ds:=rfl
theorem C2(p:Int):∀(ds:List De)(k j:Nat)(h:k<ds.length),j<10->(sH p ds)[k*10+j]?=(oD p ds[k])[j]?
 |d::ds,0,j,_,hj=>by rw[C1,Ng (by rw[wP];omega)];simp
 |d::ds,k+1,j,h,hj=>by rw[C1,Nl (by rw[wP];omega),wP,show (k+1)*10+j-10=k*10+j by omega,C2 p ds k j (by simpa using h) hj];simp
structure k9(p:Int)(B:Nat)(w:World)(v:Value)(ds:List De):Prop where
 own:w.ownsRow B 133 10 v ds.length (sH p ds)
 fvs:∀d∈ds,Fv w d.2.2.2 d.2.2.1
 apart:∀d∈ds,∀b,d.2.2.2.ownBlock=some b->v.ownBlock≠some b/\b<w.heap.size
theorem k9.next{p:Int}{B:Nat}{w w':World}{v:Value}{ds:List De}(h:k9 p B w v ds)(hb:Below w.heap.size w w'):k9 p B w' v ds:=
 ⟨aI h.own hb,λd hd=>(h.fvs d hd).below hb,λd hd b hb2=>⟨(h.apart d hd b hb2).1,MN (h.apart d hd b hb2).2 hb.size⟩⟩
theorem k9.nil(p:Int)(B:Nat)(w:World):k9 p B w (.slice none 0 0) []:=
 ⟨World.ownsRow_nil _ _ _ _,λd hd=>by simp at hd,λd hd=>by simp at hd⟩
theorem k9.at{p:Int}{B:Nat}{w:World}{v:Value}{ds:List De}(h:k9 p B w v ds)(k:Nat)(hk:k<ds.length):∃g c,v=.slice (some ⟨g,0,none⟩) ds.length c/\g<w.heap.size/\kS w g (k*10) ds[k].2.1 ds[k].2.2.2 ds[k].1 (aM p ds[k].2.1.c):=by
 rcases h.own.2 with ⟨_,h0⟩|⟨g,cap,ag,rfl,_⟩
 .omega
 .have hlt:=(MH h.own g rfl).2;have hc:∀j,j<10->w.cell? ⟨g,k*10+j,none⟩=(oD p ds[k])[j]?:=λj hj=>by rw[MG h.own (k*10+j) (by omega),C2 p ds k j hk hj]
  refine⟨g,cap,rfl,hlt,hlt,λj u hj=>?_,hc 7 (by omega),hc 8 (by omega),hc 9 (by omega)⟩;have hjl:j<7:=by have:=(List.getElem?_eq_some_iff.1 hj).1;simpa [aA] using this
  rw[hc j (by omega)];unfold oD od;rw[Ng (by simpa [aA] using hjl)];exact hj
structure wQ(w:World)(ob:Nat)(p o ov:Int)(N R:Nat)(sv:Value):Prop where
 ord:bw w ob p (aB o N N 0) (aB o N N 1) (aB o N N 2) sv
 sl:Sl w sv (Ms ov R)
theorem wQ.below{w w':World}{ob:Nat}{p o ov:Int}{N R:Nat}{sv:Value}(h:wQ w ob p o ov N R sv)(hb:Below w.heap.size w w'):wQ w' ob p o ov N R sv:=⟨h.ord.below hb,h.sl.below hb⟩
theorem je(o:Int)(N i:Nat):0<=aB o N N i/\aB o N N i<=137438953472:=by
 unfold aB kH W0 W1 W2;split
 .split
  .split<;>omega
  .split
   .split<;>omega
   .split<;>omega
 .omega
theorem FE{p o:Int}{N:Nat}{v:List (List Tm)}(h:∀f∈v,cL p o N f):pm p o N (λ_=>200) v:=by
 refine⟨λi=>?_,λi t ht x hx=>?_,λi t ht=>?_⟩<;>rcases wK v i with e|hm
 .rw[e];exact(Lc p o N).canon
 .exact(h _ hm).canon
 .rw[e] at ht;simp at ht
 .exact((h _ hm).bd t ht x hx).1
 .rw[e] at ht;simp at ht
 .exact(h _ hm).deg t ht
structure lh(p o ov:Int)(N R:Nat)(lss:List (List (List Tm)))(w wr:World)(m:Nat)(v:Value)(ds:List De)(fls:List (List Ft)):Prop where
 dvs:k9 p w.heap.size wr v ds
 made:ds.map C0=jN 0 fls
 len:fls.length=m
 flr:∀i,i<m->oB p o ov N R 200 (lss.getD i []) (fls.getD i [])
 below:Below w.heap.size w wr
theorem lh.next{p o ov:Int}{N R:Nat}{lss:List (List (List Tm))}{w wr w':World}{m:Nat}{v:Value}{ds:List De}{fls:List (List Ft)}(h:lh p o ov N R lss w wr m v ds fls)(hb:Below wr.heap.size wr w'):lh p o ov N R lss w w' m v ds fls:=
 ⟨h.dvs.next hb,h.made,h.len,h.flr,h.below.trans (hb.mono h.below.size)⟩
theorem C3{p o ov:Int}{N R:Nat}{lss:List (List (List Tm))}{m:Nat}{fls:List (List Ft)}{f:List Ft}(hl:fls.length=m)(h:∀i,i<m->oB p o ov N R 200 (lss.getD i []) (fls.getD i []))(hf:oB p o ov N R 200 (lss.getD m []) f):∀i,i<m+1->oB p o ov N R 200 (lss.getD i []) ((fls++[f]).getD i []):=by
 intro i hi;rcases Nat.lt_succ_iff_lt_or_eq.1 hi with hl2|rfl
 .rw[MV (l:=fls++[f]),Ng (by omega),<-MV];exact h i hl2
 .rw[MV (l:=fls++[f]),Nl (by omega),hl];simpa using hf
theorem lh.none{p o ov:Int}{N R:Nat}{lss:List (List (List Tm))}{w wr:World}{m:Nat}{v:Value}{ds:List De}{fls:List (List Ft)}(h:lh p o ov N R lss w wr m v ds fls)(hf:oB p o ov N R 200 (lss.getD m []) []):lh p o ov N R lss w wr (m+1) v ds (fls++[[]]):=
 ⟨h.dvs,by rw[sE,h.made];simp[jN],by simp[h.len],C3 h.len h.flr hf,h.below⟩
theorem lh.one{p o ov:Int}{N R:Nat}{lss:List (List (List Tm))}{w wr w2:World}{m:Nat}{v v2:Value}{ds:List De}{fls:List (List Ft)}{L:Ft}{r:List Ft}{rv:Value}(h:lh p o ov N R lss w wr m v ds fls)(hf:oB p o ov N R 200 (lss.getD m []) (L::r))(hd:k9 p w.heap.size w2 v2 (ds++[(m,L,r,rv)]))(hg:wr.grownBy w2 v.ownBlock):lh p o ov N R lss w w2 (m+1) v2 (ds++[(m,L,r,rv)]) (fls++[L::r]):=by refine⟨hd,?_,by simp[h.len],C3 h.len h.flr hf,dE h.dvs.own h.below hg (MI _)⟩;rw[sE,Nd,h.made,M1,h.len];simp[jN,C0]
def sI(N:Nat)(xs:List Int)(k:Nat):List Value:=((xs.take k++List.replicate (N-k) 0).map (Value.int .i64))
theorem MB(N:Nat)(xs:List Int)(k:Nat)(hl:xs.length=N)(hk:k<N):(sI N xs k).set k (.int .i64 (xs.getD k 0))=sI N xs (k+1):=by
 have hlen:(xs.take k).length=k:=by rw[Nj];omega
 have e:xs.getD k 0=xs[k]:=by simp[MV,show k<xs.length by omega]
 unfold sI;rw[Nd,List.set_append_right _ _ (by rw[M6,hlen];exact MI _),M6,hlen,Nat.sub_self,show N-k=(N-(k+1))+1 by omega,List.replicate_succ,List.map_cons,List.set_cons_zero,Na (show k<xs.length by omega),e,Nd,Nd,List.append_assoc];rfl
structure wR(w wr:World)(N:Nat)(t:Ft)(k:Nat):Prop where
 below:Below w.heap.size w wr
 box:Bx w.heap.size wr w.heap.size t
 res:wr.ownsRow w.heap.size 57 2 (.slice (some ⟨w.heap.size+1,0,none⟩) 1 1) 1 [.int .i64 0,.slice none 0 0]
 row:wr.ownsRow w.heap.size 3 1 (.slice (some ⟨w.heap.size+1+1,0,none⟩) N N) N (sI N (aH N t) k)
theorem wR.put{w wr:World}{N:Nat}{t:Ft}{k:Nat}(h:wR w wr N t k)(hl:(aH N t).length=N)(hk:k<N):wR w (wr.setCell ⟨w.heap.size+1+1,k,none⟩ (.int .i64 ((aH N t).getD k 0))) N t (k+1):=by have s:=MT h.row k (.int .i64 ((aH N t).getD k 0));refine⟨h.below.trans (dI s.2 (by omega) h.below.size),World.ownsRow.kept h.box s.2 (Nq (by simp[Value.ownBlock];omega)),World.ownsRow.kept h.res s.2 (Nq (by simp[Value.ownBlock])),?_⟩;rw[<-MB N _ k hl hk];exact s.1
structure ia(B N:Nat)(w:World)(u:Value)(ts:List TV):Prop where
 own:w.ownsRow B 57 2 u ts.length (au ts)
 kind:∀g,u.ownBlock=some g->bZ j7 w g
 es:∀t∈ts,w.ownsRow B 3 1 t.2.1 N (t.2.2.map (Value.int .i64))
def cw(w:World)(T:TypeId)(g:Nat):Prop:=∀ag,w.heap[g]?≠some (.cells ag T (0,0))
theorem dF{w:World}{B:Nat}{T:TypeId}{s:Nat}{v:Value}{n:Nat}{xs:List Value}(h:w.ownsRow B T s v n xs){g:Nat}(hg:v.ownBlock=some g):∃ag,w.heap[g]?=some (.cells ag T (0,0)):=by
 rcases h.2 with ⟨rfl,_⟩|⟨g2,cap,ag,rfl,_,hh,_⟩
 .simp[Value.ownBlock] at hg
 .simp only[Value.ownBlock,M3] at hg;subst hg;exact⟨ag,hh⟩
theorem bC{w:World}{B:Nat}{T T':TypeId}{s:Nat}{v:Value}{n:Nat}{xs:List Value}(h:w.ownsRow B T s v n xs){g:Nat}(hg:v.ownBlock=some g)(hT:T≠T'):cw w T' g:=by obtain⟨ag,hh⟩:=dF h hg;intro cur2 e;rw[hh] at e;simp only[M3,Obj.cells.injEq] at e;exact hT e.2.1
theorem ia.frm{B N:Nat}{S:Nat->Prop}{w w':World}{u:Value}{ts:List TV}(h:ia B N w u ts)(hf:am S w w')(hu:∀g,u.ownBlock=some g->¬S g)(hS:∀g,S g->cw w 3 g):ia B N w' u ts:=
 ⟨hf.own h.own hu,λg hg=>hf.kdb (h.kind g hg) (MH h.own g hg).2 (hu g hg),λt ht=>hf.own (h.es t ht) λg hg hs=>by
  obtain⟨ag,e⟩:=dF (h.es t ht) hg;exact hS g hs ag e⟩
theorem ia.next{B N:Nat}{w w':World}{u:Value}{ts:List TV}(h:ia B N w u ts)(hb:Below w.heap.size w w'):ia B N w' u ts:=
 h.frm (S:=λ_=>False) (am.of_below hb) (λ_ _ h=>h) λ_ h=>h.elim
theorem ia.nil(B N:Nat)(w:World):ia B N w (.slice none 0 0) []:=⟨World.ownsRow_nil _ _ _ _,λg hg=>by simp[Value.ownBlock] at hg,λt ht=>by simp at ht⟩
theorem ia.pl{B N:Nat}{w:World}{u:Value}{ts:List TV}(h:ia B N w u ts)(hl:∀t∈ts,t.2.2.length=N):Pl w u (ts.map tm):=by refine ow h.own λt ht=>?_;exact uq (T:=3) (by rw[hl t ht];exact h.es t ht)
theorem ia.snoc{B N:Nat}{w w':World}{u v:Value}{ts:List TV}{c:Int}{ev:Value}{xs:List Int}(h:ia B N w u ts)(hev:w.ownsRow B 3 1 ev N (xs.map (Value.int .i64)))(h2:w'.ownsRow B 57 2 v (ts.length+1) (au ts++[.int .i64 c,ev]))(h3:w.grownBy w' u.ownBlock)(h4:∀g,v.ownBlock=some g->bZ j7 w' g):ia B N w' v (ts++[(c,ev,xs)]):=by
 have hf:am (λk=>u.ownBlock=some k) w w':=am.of_grown h3 λ_ e=>e;have hk:∀{z:Value}{n:Nat}{zs:List Value},w.ownsRow B 3 1 z n zs->w'.ownsRow B 3 1 z n zs:=fun {z n zs} hz=>hf.own hz λg hg e=>by obtain⟨ag,e2⟩:=dF hz hg;exact bC h.own e (by decide) ag e2
 refine⟨?_,h4,λt ht=>?_⟩
 .have e:au (ts++[(c,ev,xs)])=au ts++[.int .i64 c,ev]:=by simp[au]
  rw[e,M0];exact h2
 .rcases MY.1 ht with ht|ht
  .exact hk (h.es t ht)
  .rw[MZ] at ht;subst ht;exact hk hev
structure sJ(B N:Nat)(w wx:World)(fb b i n rc:Nat)(us:List Value)(ts:List TV)(f:Bool)(t:Ft)(ev v:Value):Prop where
 pol:ia B N wx v (ts++[(t.c,ev,aH N t)])
 row:wx.ownsRow B 59 1 (.slice (some ⟨b,0,none⟩) n rc) n (us.set i v)
 kind:cO wx b
 fit:wx.ownsRow B 4 1 (.slice (some ⟨fb,0,none⟩) 1 1) 1 [.bool f]
 frm:am (λk=>k=b\/(us.getD i aD).ownBlock=some k\/k=fb) w wx
 loc:v.ownBlock=(us.getD i aD).ownBlock\/∃g,v.ownBlock=some g/\w.heap.size<=g
theorem sJ.next{B N:Nat}{w wx w':World}{fb b i n rc:Nat}{us:List Value}{ts:List TV}{f:Bool}{t:Ft}{ev v:Value}(h:sJ B N w wx fb b i n rc us ts f t ev v)(hb:Below wx.heap.size wx w'):sJ B N w w' fb b i n rc us ts f t ev v:=
 ⟨h.pol.next hb,aI h.row hb,bZ.below h.kind (hb.block b (MH h.row b rfl).2),aI h.fit hb,h.frm.trans (am.of_below (S:=λ_=>False) hb) (λ_ _ h=>h.elim),h.loc⟩
def ll{α:Type}(f:Bool->α)(s:Bool)(x:α):Bool->α:=λs'=>if s'=s then x else f s'
theorem qi{α:Type}(f:Bool->α)(s:Bool)(x:α):ll f s x s=x:=by simp[ll]
theorem qj{α:Type}(f:Bool->α){s s':Bool}(x:α)(h:s'≠s):ll f s x s'=f s':=by simp[ll,h]
structure QW(B N:Nat)(w:World)(rv:Bool->Value)(us:Bool->List Value)(tss:Bool->List (List TV)):Prop where
 len:∀s,(us s).length=(tss s).length
 own:∀s,w.ownsRow B 59 1 (rv s) (tss s).length (us s)
 kind:∀s g,(rv s).ownBlock=some g->cO w g
 pol:∀s i,i<(tss s).length->ia B N w ((us s).getD i aD) ((tss s).getD i [])
 rap:∀g,(rv true).ownBlock=some g->(rv false).ownBlock≠some g
 sap:∀s i s' j,i<(tss s).length->j<(tss s').length->¬(s=s'/\i=j)->∀g,((us s).getD i aD).ownBlock=some g->((us s').getD j aD).ownBlock≠some g
 lens:∀s i,∀t∈(tss s).getD i [],t.2.2.length=N
theorem QW.rne{B N:Nat}{w:World}{rv:Bool->Value}{us:Bool->List Value}{tss:Bool->List (List TV)}(h:QW B N w rv us tss){s s':Bool}(hs:s≠s'):∀g,(rv s).ownBlock=some g->(rv s').ownBlock≠some g:=by
 intro g hg e;cases s<;>cases s'
 .exact hs rfl
 .exact h.rap g e hg
 .exact h.rap g hg e
 .exact hs rfl
theorem QW.frm{B N:Nat}{S:Nat->Prop}{w w':World}{rv:Bool->Value}{us:Bool->List Value}{tss:Bool->List (List TV)}(h:QW B N w rv us tss)(hf:am S w w')(hp:∀g,S g->cw w 59 g)(ht:∀g,S g->cw w 57 g)(hi:∀g,S g->cw w 3 g):QW B N w' rv us tss:=by
 have hrow:∀s g,(rv s).ownBlock=some g->¬S g:=λs g hg hs=>by obtain⟨ag,e⟩:=dF (h.own s) hg;exact hp g hs ag e
 refine⟨h.len,λs=>hf.own (h.own s) (hrow s),λs g hg=>hf.kdb (h.kind s g hg) (MH (h.own s) g hg).2 (hrow s g hg),λs i hl=>(h.pol s i hl).frm hf (λg hg hs=>?_) hi,h.rap,h.sap,h.lens⟩;obtain⟨ag,e⟩:=dF (h.pol s i hl).own hg;exact ht g hs ag e
theorem QW.next{B N:Nat}{w w':World}{rv:Bool->Value}{us:Bool->List Value}{tss:Bool->List (List TV)}(h:QW B N w rv us tss)(hb:Below w.heap.size w w'):QW B N w' rv us tss:=
 h.frm (S:=λ_=>False) (am.of_below hb) (λ_ h=>h.elim) (λ_ h=>h.elim) λ_ h=>h.elim
theorem QW.grow{B N:Nat}{w w':World}{rv:Bool->Value}{us:Bool->List Value}{tss:Bool->List (List TV)}(h:QW B N w rv us tss){s:Bool}{fb b i n rc:Nat}{f0 f:Bool}{t:Ft}{ev v:Value}(hi:i<(tss s).length)(hv:rv s=.slice (some ⟨b,0,none⟩) n rc)(hn:n=(tss s).length)(hx:(aH N t).length=N)(hfb:w.ownsRow B 4 1 (.slice (some ⟨fb,0,none⟩) 1 1) 1 [.bool f0])(hg:sJ B N w w' fb b i n rc (us s) ((tss s).getD i []) f t ev v):QW B N w' rv (ll us s ((us s).set i v)) (ll tss s ((tss s).set i ((tss s).getD i []++[(t.c,ev,aH N t)]))):=by
 subst hn;have hbs:(rv s).ownBlock=some b:=by rw[hv];rfl
 have hb:=h.own s;have hS:∀g,(g=b\/((us s).getD i aD).ownBlock=some g\/g=fb)->cw w 3 g:=λg hgS=>by
  rcases hgS with rfl|e|rfl
  .exact bC hb hbs (by decide)
  .exact bC (h.pol s i hi).own e (by decide)
  .exact bC hfb rfl (by decide)
 have hrow:∀s',s'≠s->∀g,(rv s').ownBlock=some g->¬(g=b\/((us s).getD i aD).ownBlock=some g\/g=fb):=λs' hs' g hg2 hgS=>by
  obtain⟨ag,e⟩:=dF (h.own s') hg2;rcases hgS with rfl|e2|rfl
  .exact h.rne hs' g hg2 hbs
  .exact bC (h.pol s i hi).own e2 (by decide) ag e
  .exact bC hfb rfl (by decide) ag e
 have hpol:∀s' j,j<(tss s').length->¬(s=s'/\i=j)->ia B N w' ((us s').getD j aD) ((tss s').getD j []):=λs' j hj hne=>
  (h.pol s' j hj).frm hg.frm (λg hg2 hgS=>by
   obtain⟨ag,e⟩:=dF (h.pol s' j hj).own hg2;rcases hgS with rfl|e2|rfl
   .exact bC hb hbs (by decide) ag e
   .exact h.sap s i s' j hi hj hne g e2 hg2
   .exact bC hfb rfl (by decide) ag e) hS
 have hlt:∀s' j,j<(tss s').length->∀g,((us s').getD j aD).ownBlock=some g->g<w.heap.size:=λs' j hj g hg2=>(MH (h.pol s' j hj).own g hg2).2;have hul:∀s' j,(ll us s ((us s).set i v) s').getD j aD=if s'=s/\i=j/\j<(us s).length then v else (us s').getD j aD:=λs' j=>by
  by_cases e:s'=s
  .subst e;rw[qi,mA];by_cases e2:i=j/\j<(us s').length
   .rw[M9 e2,M9 ⟨rfl,e2⟩]
   .rw[M8 e2,M8 λh=>e2 h.2]
  .rw[qj _ _ e,M8 λh=>e h.1]
 have htl:∀s' j,(ll tss s ((tss s).set i ((tss s).getD i []++[(t.c,ev,aH N t)])) s').getD j []=if s'=s/\i=j/\j<(tss s).length then (tss s).getD i []++[(t.c,ev,aH N t)] else (tss s').getD j []:=λs' j=>by
  by_cases e:s'=s
  .subst e;rw[qi,mA];by_cases e2:i=j/\j<(tss s').length
   .rw[M9 e2,M9 ⟨rfl,e2⟩]
   .rw[M8 e2,M8 λh=>e2 h.2]
  .rw[qj _ _ e,M8 λh=>e h.1]
 have hlen:∀s',(ll tss s ((tss s).set i ((tss s).getD i []++[(t.c,ev,aH N t)])) s').length=(tss s').length:=λs'=>by
  by_cases e:s'=s
  .subst e;rw[qi,List.length_set]
  .rw[qj _ _ e]
 refine⟨λs'=>?_,λs'=>?_,λs' g hg2=>?_,λs' j hj=>?_,h.rap,λs1 i1 s2 j2 h1 h2 hne g e1=>?_,λs' j x hx2=>?_⟩
 .rw[hlen];by_cases e:s'=s
  .subst e;rw[qi,List.length_set];exact h.len s'
  .rw[qj _ _ e];exact h.len s'
 .rw[hlen];by_cases e:s'=s
  .subst e;rw[qi,hv];exact hg.row
  .rw[qj _ _ e];exact hg.frm.own (h.own s') (hrow s' e)
 .by_cases e:s'=s
  .subst e;rw[hbs] at hg2;simp only[M3] at hg2;subst hg2;exact hg.kind
  .exact hg.frm.kdb (h.kind s' g hg2) (MH (h.own s') g hg2).2 (hrow s' e g hg2)
 .rw[hlen] at hj;rw[hul,htl,h.len];by_cases e:s'=s/\i=j/\j<(tss s).length
  .rw[M9 e,M9 e];exact hg.pol
  .rw[M8 e,M8 e];exact hpol s' j hj λh4=>e ⟨h4.1.symm,h4.2,by rw[h4.1];exact hj⟩
 .rw[hlen] at h1 h2;rw[hul,h.len] at e1⊢;by_cases ea:s1=s/\i=i1/\i1<(tss s).length
  .rw[M9 ea] at e1;have eb:¬(s2=s/\i=j2/\j2<(tss s).length):=λh4=>hne ⟨ea.1.trans h4.1.symm,ea.2.1.symm.trans h4.2.1⟩;rw[M8 eb];rcases hg.loc with hl|⟨g2,hl,hge⟩
   .rw[hl] at e1;exact h.sap s i s2 j2 hi h2 (λh4=>hne ⟨ea.1.trans h4.1,ea.2.1.symm.trans h4.2⟩) g e1
   .rw[hl] at e1;simp only[M3] at e1;intro e2;have:=hlt s2 j2 h2 g e2;omega
  .rw[M8 ea] at e1;by_cases eb:s2=s/\i=j2/\j2<(tss s).length
   .rw[M9 eb];rcases hg.loc with hl|⟨g2,hl,hge⟩
    .rw[hl];have:=h.sap s1 i1 s2 j2 h1 h2 hne g e1;rw[eb.1,<-eb.2.1] at this;exact this
    .rw[hl];intro e2;simp only[M3] at e2;have:=hlt s1 i1 h1 g e1;omega
   .rw[M8 eb];exact h.sap s1 i1 s2 j2 h1 h2 hne g e1
 .rw[htl] at hx2;split at hx2
  .rcases MY.1 hx2 with hx2|hx2
   .exact h.lens s i x hx2
   .rw[MZ] at hx2;subst hx2;exact hx
  .exact h.lens s' j x hx2
theorem QW.vl{B N:Nat}{w:World}{rv:Bool->Value}{us:Bool->List Value}{tss:Bool->List (List TV)}(h:QW B N w rv us tss)(s:Bool):Vl w (rv s) ((tss s).map (List.map tm)):=by
 have hp:dV B w (rv s) (us s) ((tss s).map (List.map tm)):=by
  refine⟨by rw[M6];exact h.len s,by rw[M6];exact h.own s,h.kind s,λi hi=>?_⟩;rw[M6] at hi;have e:((tss s).map (List.map tm)).getD i []=((tss s).getD i []).map tm:=by simp[MV,hi]
  rw[e];exact(h.pol s i hi).pl (h.lens s i)
 exact hp.vl
theorem d8{S:Nat->Prop}{w w':World}(hf:am S w w'){B:Nat}{T:TypeId}{s:Nat}{v:Value}{n:Nat}{xs:List Value}(h:w.ownsRow B T s v n xs)(hS:∀g,S g->cw w T g):w'.ownsRow B T s v n xs:=
 hf.own h λg hg hs=>by obtain⟨ag,e⟩:=dF h hg;exact hS g hs ag e
theorem rj{B B2:Nat}{w w':World}{g sb ob:Nat}{t:Ft}{rw:Value}{us:List Value}{rows:List (List Ft)}(h:Bx B w g t)(hs:bI B2 w sb ob rw us rows)(hf:am (gr sb rw) w w'):Bx B w' g t:=d8 hf h λk hk=>by
 rcases hk with rfl|e
 .exact bC hs.box rfl (by decide)
 .exact bC hs.rws.own e (by decide)
structure lY(p:Int)(B L:Nat)(w wr:World)(sb ob:Nat)(rv:Value)(rows ag:List (List Ft)):Prop where
 tk:eu B L w wr sb ob rv ag
 res:Bx w.heap.size wr w.heap.size ⟨0,0,0,0,0,0,0⟩
 go:∀r rows2,Nx p ag r rows2->Nx p rows r rows2
 co:∀r∈ag,∀t∈r,0<t.c/\t.c<p
 dn:∀r∈ag,Dn r
 len:ag.length=rows.length
theorem lY.next{p:Int}{B L:Nat}{w wr w':World}{sb ob:Nat}{rv:Value}{rows ag:List (List Ft)}(h:lY p B L w wr sb ob rv rows ag)(hb:Below wr.heap.size wr w'):lY p B L w w' sb ob rv rows ag:=
 ⟨h.tk.next hb,h.res.below hb,h.go,h.co,h.dn,h.len⟩
theorem GY(B L sb ob:Nat)(p k0 k1 k2:Int)(sv rv:Value)(us:List Value)(rows:List (List Ft))(w:World)(hs:bI B w sb ob rv us rows)(hL:L<=w.heap.size)(hloc:lK L us rows)(hob:bw w ob p k0 k1 k2 sv)(hp:2<=p/\p<=101)(hn:rows.length<=1000)(hc:∀r∈rows,∀t∈r,0<t.c/\t.c<p)(hd:∀r∈rows,Dn r):Calls prog 128 #[.pointer (some ⟨sb,0,none⟩)] w λe w'=>∃r,e=.returned (.tuple #[ce (cP r),.bool r.isSome])/\∃rows2,Nx p rows r rows2/\eu B L w w' sb ob rv rows2:=by
 have HOB:=ae hob;have HAP:=ae (hs.ob_apart hob);have HRL:Nw (∀g,rv.ownBlock=some g->g<w.heap.size):=λg hg=>(MH hs.rws.own g hg).2;have HSL:=ae hs.lt.2;obtain⟨w0,hw0⟩:∃w0,w0=w.alloc (.cells #[.int .i64 0,.int .u16 0,.int .u16 0,.int .u16 0,.int .u16 0,.int .u8 0,.int .u8 0] 95):=⟨_,rfl⟩;have H0:Nw (lY p B L w w0 sb ob rv rows rows):=by show lY _ _ _ _ _ _ _ _ _ _;rw[hw0];exact⟨⟨⟨us,hs.next ai,hloc⟩,am.of_below ai⟩,Bx.new w _ (MI _),λ_ _ h=>h,hc,hd,rfl⟩
 clear hs hob hc hd hloc;go_enter func128,ntmps128;go_wp2_with fail;rw[<-hw0];clear hw0;go_loopw [3] (λf wr=>f=.bool false/\∃ag,lY p B L w wr sb ob rv rows ag) (λ_ wr=>oC wr rv);case atStart=>exact⟨rfl,rows,H0.o⟩
 case round=>
  clear H0;obtain⟨rfl,ag,ht⟩:=hrel;have HT:=ae ht;obtain⟨us1,hs1,_⟩:=ht.tk.sum;obtain⟨x0,x1,x2⟩:=hs1.cells;have HG:=ae (Mg sb rv ag wr hs1.lt.2 x1 hs1.rws.rws (by rw[ht.len];exact hn));have HTOT:=ae hs1.rws.total;clear ht hs1 x0 x1 x2;cases hgr:eL ag with
  |none=>
   have HGR:=ae hgr;rw[hgr] at HG;simp only[cP,ce,Option.getD_none,Option.isSome_none] at HG;clear hgr;go_upto_region 2 with (go_at_call 153;refine HG.o.mono ?_;rintro e w1 ⟨rfl,hb1⟩;have HT1:=ae (HT.o.next hb1);have HBX:=ae (Bx.new w1 w.heap.size HT1.o.tk.frm.size);obtain⟨y0,y1,y2,y3,y4,y5,y6⟩:=HBX.o.at;have z0:=MF HBX.o 0;have z1:=MF HBX.o 1;have z2:=MF HBX.o 2;have z3:=MF HBX.o 3;have z4:=MF HBX.o 4;have z5:=MF HBX.o 5;have z6:=MF HBX.o 6;simp only[M1] at y0 y1 y2 y3 y4 y5 y6;clear hb1);obtain⟨wq,hwq⟩:∃wq,wq=w1.alloc (.cells #[.int .i64 0,.int .u16 0,.int .u16 0,.int .u16 0,.int .u16 0,.int .u8 0,.int .u8 0] 95):=⟨_,rfl⟩;have HQ:Nw (lY p B L w wq sb ob rv rows ag/\Bx w.heap.size wq w1.heap.size ⟨0,0,0,0,0,0,0⟩/\w.heap.size<w1.heap.size/\oC wq rv=gF ag):=by show _/\_/\_/\_;rw[hwq];obtain⟨us2,hs2,_⟩:=(HT1.o.next (ai (A:=.cells #[.int .i64 0,.int .u16 0,.int .u16 0,.int .u16 0,.int .u16 0,.int .u8 0,.int .u8 0] 95))).tk.sum;exact⟨HT1.o.next ai,jk HT1.o.tk.frm.size ⟨0,0,0,0,0,0,0⟩,(MH HT1.o.res _ rfl).2,hs2.rws.total⟩
   rw[<-hwq];clear hwq HBX y0 y1 y2 y3 y4 y5 y6 z0 z1 z2 z3 z4 z5 z6;have HLT2:=HQ.o.2.2.1;obtain⟨v0,v1,v2,v3,v4,v5,v6⟩:=HQ.o.1.res.at;have r0:=MF HQ.o.1.res 0;have r1:=MF HQ.o.1.res 1;have r2:=MF HQ.o.1.res 2;have r3:=MF HQ.o.1.res 3;have r4:=MF HQ.o.1.res 4;have r5:=MF HQ.o.1.res 5;have r6:=MF HQ.o.1.res 6;simp only[M1] at v0 v1 v2 v3 v4 v5 v6;have HP:=ae (HQ.o.1.res.put ⟨0,0,0,0,0,0,0⟩);have hpat:=HP.o.1.at;have HPT:=ae (HQ.o.1.tk.far HP.o.2 hL (MI _) HSL.o HRL.o);unfold gw at hpat HPT;obtain⟨s0,s1,s2,s3,s4,s5,s6⟩:=hpat;simp only[M1] at s0 s1 s2 s3 s4 s5 s6;go_wp2;refine MQ (v:=.tuple #[ce (cP none),.bool false]) (by simp[results,Tryz.results128,go_sem,s0,s1,s2,s3,s4,s5,s6,ce,cP]) rfl ⟨none,rfl,ag,HQ.o.1.go _ _ (Nx.stop ag HGR.o),HPT.o⟩
  |some t=>
   have HGR:=ae hgr;rw[hgr] at HG;simp only[cP,ce,Option.getD_some,Option.isSome_some] at HG;clear hgr;go_upto_region 2 with (go_at_call 153;refine HG.o.mono ?_;rintro e w1 ⟨rfl,hb1⟩;have HT1:=ae (HT.o.next hb1);have HBX:=ae (Bx.new w1 w.heap.size HT1.o.tk.frm.size);obtain⟨y0,y1,y2,y3,y4,y5,y6⟩:=HBX.o.at;have z0:=MF HBX.o 0;have z1:=MF HBX.o 1;have z2:=MF HBX.o 2;have z3:=MF HBX.o 3;have z4:=MF HBX.o 4;have z5:=MF HBX.o 5;have z6:=MF HBX.o 6;simp only[M1] at y0 y1 y2 y3 y4 y5 y6;clear hb1);obtain⟨wq,hwq⟩:∃wq,wq=w1.alloc (.cells #[.int .i64 t.k,.int .u16 t.a,.int .u16 t.b,.int .u16 t.d,.int .u16 t.z,.int .u8 t.pl,.int .u8 t.c] 95):=⟨_,rfl⟩;have HQ:Nw (lY p B L w wq sb ob rv rows ag/\Bx w.heap.size wq w1.heap.size t/\w.heap.size<w1.heap.size/\oC wq rv=gF ag):=by show _/\_/\_/\_;rw[hwq];obtain⟨us2,hs2,_⟩:=(HT1.o.next (ai (A:=.cells #[.int .i64 t.k,.int .u16 t.a,.int .u16 t.b,.int .u16 t.d,.int .u16 t.z,.int .u8 t.pl,.int .u8 t.c] 95))).tk.sum;exact⟨HT1.o.next ai,jk HT1.o.tk.frm.size t,(MH HT1.o.res _ rfl).2,hs2.rws.total⟩
   rw[<-hwq];clear hwq HBX y0 y1 y2 y3 y4 y5 y6 z0 z1 z2 z3 z4 z5 z6;have HLT2:=HQ.o.2.2.1;have HTA:Nw (Calls prog 154 #[.pointer (some ⟨sb,0,none⟩),.int .i64 t.k] wq λe w'=>e=.returned (.int .u8 (dz t.k ag%p))/\eu B L wq w' sb ob rv (tk t.k ag)):=by obtain⟨us2,hs2,hl2⟩:=HQ.o.1.tk.sum;exact Mx B L sb ob p k0 k1 k2 t.k sv rv us2 ag wq hs2 hl2 (HOB.o.frm HQ.o.1.tk.frm HAP.o) hp (by rw[HQ.o.1.len];exact hn) λr hr t ht=>by have:=HQ.o.1.co r hr t ht;omega
   obtain⟨b0,b1,b2,b3,b4,b5,b6⟩:=HQ.o.2.1.at;simp only[M1] at b0 b1 b2 b3 b4 b5 b6;have hmem:=(CP HQ.o.1.dn HGR.o).1;have HMEM:=ae hmem;obtain⟨t2,ht2⟩:∃t2:Ft,t2={t with c:=dz t.k ag%p}:=⟨_,rfl⟩;have HT2:=ae ht2;have hcd:dz t.k ag%p=t2.c:=by rw[ht2]
   have HCD:=ae hcd;have HEN:Nw ((aA t).set 6 (.int .u8 t2.c)=aA t2):=by show _=_;rw[ht2];rfl
   rw[hcd] at HTA;clear hmem hcd ht2;have STEP:Nw (∀w3,eu B L wq w3 sb ob rv (tk t.k ag)->eu B L w w3 sb ob rv (tk t.k ag)/\Bx w.heap.size w3 w1.heap.size t/\Bx w.heap.size w3 w.heap.size ⟨0,0,0,0,0,0,0⟩):=λw3 h3=>⟨HQ.o.1.tk.trans h3,CW HQ.o.2.1 h3.frm (λe=>by have:=HRL.o _ e;omega),CW HQ.o.1.res h3.frm (λe=>by have:=HRL.o _ e;omega)⟩
   go_upto_region 5 with (go_at_call 154;refine HTA.o.mono ?_;rintro e w3 ⟨rfl,h3⟩;have H3:=ae (STEP.o w3 h3);clear h3;have d6:=(H3.o.2.1.at).2.2.2.2.2.2;have f6:=MF H3.o.2.1 6;simp only[M1] at d6);have s6:=MT H3.o.2.1 6 (.int .u8 t2.c);obtain⟨w4,hw4⟩:∃w4,w4=w3.setCell ⟨w1.heap.size,6,none⟩ (.int .u8 t2.c):=⟨_,rfl⟩;have H4:Nw (eu B L w w4 sb ob rv (tk t.k ag)/\Bx w.heap.size w4 w1.heap.size t2/\Bx w.heap.size w4 w.heap.size ⟨0,0,0,0,0,0,0⟩):=by show _/\_/\_;rw[hw4];exact⟨H3.o.1.far s6.2 (by omega) (by omega) HSL.o HRL.o,by have:=s6.1;rw[HEN.o] at this;exact this,World.ownsRow.kept H3.o.2.2 s6.2 (Nq (by simp[Value.ownBlock];omega))⟩
   rw[<-hw4];clear hw4 s6 d6 f6;obtain⟨e0,e1,e2,e3,e4,e5,e6⟩:=H4.o.2.1.at;simp only[M1] at e0 e1 e2 e3 e4 e5 e6;by_cases hz:t2.c=0
   .have HZ:=ae hz;go_wp2;go_roundw;case rel=>
     refine⟨rfl,tk t.k ag,H4.o.1,H4.o.2.2,λr rows2 h=>HQ.o.1.go _ _ (Nx.go ag rows2 t r HGR.o (HCD.o.trans HZ.o) h),λr hr x hx=>?_,λr hr=>?_,?_⟩
     .obtain⟨r0,h0,rfl⟩:=M5.1 hr;exact HQ.o.1.co r0 h0 x (wG _ r0 x hx)
     .obtain⟨r0,h0,rfl⟩:=M5.1 hr;exact vS (HQ.o.1.dn r0 h0)
     .have:=HQ.o.1.len;simp[tk,this]
    case measure=>obtain⟨us4,hs4,_⟩:=H4.o.1.sum;have h4:=hs4.rws.total;obtain⟨ts,hm⟩:=HMEM.o;have h5:=CR hm;have h6:=HTOT.o;omega
   .have HZ:=ae hz;go_upto_region 6 with fail;obtain⟨v0,v1,v2,v3,v4,v5,v6⟩:=H4.o.2.2.at;have r0:=MF H4.o.2.2 0;have r1:=MF H4.o.2.2 1;have r2:=MF H4.o.2.2 2;have r3:=MF H4.o.2.2 3;have r4:=MF H4.o.2.2 4;have r5:=MF H4.o.2.2 5;have r6:=MF H4.o.2.2 6;simp only[M1] at v0 v1 v2 v3 v4 v5 v6;have HP:=ae (H4.o.2.2.put t2);have hpat:=HP.o.1.at;have HPT:=ae (H4.o.1.far HP.o.2 hL (MI _) HSL.o HRL.o);unfold gw at hpat HPT;obtain⟨s0,s1,s2,s3,s4,s5,s6⟩:=hpat;simp only[M1] at s0 s1 s2 s3 s4 s5 s6;have HNX:=ae (HQ.o.1.go _ _ (Nx.hit ag t HGR.o (by rw[HCD.o];exact HZ.o)));rw[<-HT2.o] at HNX;go_wp2;refine MQ (v:=.tuple #[ce (cP (some t2)),.bool true]) (by simp[results,Tryz.results128,go_sem,s0,s1,s2,s3,s4,s5,s6,ce,cP]) rfl ⟨some t2,rfl,_,HNX.o,HPT.o⟩
theorem qX{o:Int}{N:Nat}{bt:Ft}(h0:0<N)(h3:N<=3):bt.a*aB o N N 0+bt.b*aB o N N 1+bt.d*aB o N N 2=bU o (aH N bt):=by
 have hN:N=1\/N=2\/N=3:=by omega
 rcases hN with rfl|rfl|rfl<;>simp[aH,bU,aB,kH]
end Go.Proofs.YteimdcndjjclnaaGreat
