/- NewDivisor. -/
import Derived.Test.YtglijodcbdcngaaGreatZQ
import Derived.Test.YtglijodcbdcngaaGreatWE
import Derived.Test.YtglijodcbdcngaaGreatWK
import Derived.Test.YtglijodcbdcngaaGreatPP
set_option maxHeartbeats 2000000
set_option maxRecDepth 100000
namespace Go.Proofs.YtglijodcbdcngaaGreat
set_option linter.unusedSimpArgs false
set_option linter.unusedVariables false
open Go.Proofs.Tryz Go.RowKit
def oA(L:Ft)(rv:Value)(num inv:Int):Value:=.agg #[.int .i64 L.k,.int .u16 L.a,.int .u16 L.b,.int .u16 L.d,.int .u16 L.z,.int .u8 L.pl,.int .u8 L.c,rv,.int .i64 num,.int .u8 inv]
def gk(w:World)(g:Nat)(L:Ft)(rv:Value)(num inv:Int):World:=(((dO w g L).setCell ⟨g,7,none⟩ rv).setCell ⟨g,8,none⟩ (.int .i64 num)).setCell ⟨g,9,none⟩ (.int .u8 inv)
theorem G4{w:World}{g b o:Nat}{L:Ft}{rv:Value}{num inv:Int}(h:b≠g):(gk w g L rv num inv).cell? ⟨b,o,none⟩=w.cell? ⟨b,o,none⟩:=by have H:∀(w:World)(j:Nat)(u:Value),(w.setCell ⟨g,j,none⟩ u).cell? ⟨b,o,none⟩=w.cell? ⟨b,o,none⟩:=λw j u=>World.cell?_setCell_far _ _ _ _ (λe=>h e.symm);unfold gk dO;simp only[H]
def nH(B:Nat)(wr:World)(g:Nat)(xs:List Value):Prop:=wr.ownsRow B 152 10 (.slice (some ⟨g,0,none⟩) 1 1) 1 xs
def lL(L:Ft)(rv:Value)(num inv:Int):List Value:=aA L++[rv,.int .i64 num,.int .u8 inv]
theorem nH.put{B:Nat}{wr:World}{g:Nat}{xs:List Value}(h:nH B wr g xs)(L:Ft)(rv:Value)(num inv:Int):nH B (gk wr g L rv num inv) g (lL L rv num inv)/\wr.grownBy (gk wr g L rv num inv) (some g):=by
 have s1:=Hq h 0 (.int .i64 L.k);have s2:=s1.1.stored 1 (.int .u16 L.a);have s3:=s2.1.stored 2 (.int .u16 L.b);have s4:=s3.1.stored 3 (.int .u16 L.d);have s5:=s4.1.stored 4 (.int .u16 L.z);have s6:=s5.1.stored 5 (.int .u8 L.pl);have s7:=s6.1.stored 6 (.int .u8 L.c);have s8:=s7.1.stored 7 rv;have s9:=s8.1.stored 8 (.int .i64 num);have s10:=s9.1.stored 9 (.int .u8 inv);have hl:xs.length=10:=h.1;refine⟨?_,cj (cj (cj (cj (cj (cj (cj (cj (cj s1.2 s2.2) s3.2) s4.2) s5.2) s6.2) s7.2) s8.2) s9.2) s10.2⟩;have e:(((((((((xs.set 0 (.int .i64 L.k)).set 1 (.int .u16 L.a)).set 2 (.int .u16 L.b)).set 3 (.int .u16 L.d)).set 4 (.int .u16 L.z)).set 5 (.int .u8 L.pl)).set 6 (.int .u8 L.c)).set 7 rv).set 8 (.int .i64 num)).set 9 (.int .u8 inv)=lL L rv num inv:=by
  match xs,hl with
  |[_,_,_,_,_,_,_,_,_,_],_=>rfl
 have:=s10.1;rw[e] at this;exact this
theorem C4(ob:Nat)(p k0 k1 k2 num:Int)(sv vv:Value)(L:Ft)(r:List Ft)(w:World)(hob:aQ w ob p k0 k1 k2 sv)(hpr:aZ p=0)(hc:0<L.c/\L.c<p)(hf:Fv w vv (L::r)):Calls prog 144 #[.pointer (some ⟨ob,0,none⟩),.int .i64 num,vv] w λe w'=>∃rv,e=.returned (oA L rv num (aC p L.c))/\Fv w' rv r/\Below w.heap.size w w'/\∀g,rv.ownBlock=some g->vv.ownBlock=some g:=by
 obtain⟨b,off,cap,rfl,hcap,hlt,hft,h1,h2⟩:=hf.head;obtain⟨A,hA,hplA⟩:=Fv.tail ⟨h1,h2⟩;have HPA:=aa hplA;have HAB:Ic (A.block=b):=by
  show _=_;by_cases hc1:cap=1
  ·rw[if_pos hc1] at hA;simp only[H6] at hA;rw[<-hA]
  ·rw[if_neg hc1] at hA;simp only[H6] at hA;rw[<-hA]
 have HOB:=aa hob;have HFT:=aa hft;have hle:(1:Int)<=(r.length:Int)+1:=by omega
 obtain⟨w1,hw1⟩:∃w1,w1=w.alloc (.cells #[.int .i64 0,.int .u16 0,.int .u16 0,.int .u16 0,.int .u16 0,.int .u8 0,.int .u8 0,.slice none 0 0,.int .i64 0,.int .u8 0] 152):=⟨_,rfl⟩;have HB1:Ic (Below w.heap.size w w1):=by rw[hw1];exact af
 have HX1:Ic (nH w.heap.size w1 w.heap.size [.int .i64 0,.int .u16 0,.int .u16 0,.int .u16 0,.int .u16 0,.int .u8 0,.int .u8 0,.slice none 0 0,.int .i64 0,.int .u8 0]):=by rw[hw1];exact⟨by simp,.inr ⟨w.heap.size,1,_,rfl,He _,heap_alloc_new w _,He _,by decide,by simp,by simp⟩⟩
 have HIN:Ic (∀W,Below w1.heap.size w1 W->Calls prog 145 #[.pointer (some ⟨ob,0,none⟩),.int .u8 L.c] W λe w'=>e=.returned (.int .u8 (aC p L.c))/\Below W.heap.size W w'):=λW hb=>we ob p k0 k1 k2 sv L.c W ((HOB.o.below HB1.o).below hb) hpr hc;have KEEP:Ic (∀W,Below w1.heap.size w1 W->W.cell? ⟨b,off,none⟩=some (.int .i64 L.k)/\W.cell? ⟨b,off+1,none⟩=some (.int .u16 L.a)/\W.cell? ⟨b,off+2,none⟩=some (.int .u16 L.b)/\W.cell? ⟨b,off+3,none⟩=some (.int .u16 L.d)/\W.cell? ⟨b,off+4,none⟩=some (.int .u16 L.z)/\W.cell? ⟨b,off+5,none⟩=some (.int .u8 L.pl)/\W.cell? ⟨b,off+6,none⟩=some (.int .u8 L.c)):=λW hb=>(HFT.o.keep HB1.o).keep hb;have KEEPS:Ic (∀W,(W.cell? ⟨b,off,none⟩=some (.int .i64 L.k)/\W.cell? ⟨b,off+1,none⟩=some (.int .u16 L.a)/\W.cell? ⟨b,off+2,none⟩=some (.int .u16 L.b)/\W.cell? ⟨b,off+3,none⟩=some (.int .u16 L.d)/\W.cell? ⟨b,off+4,none⟩=some (.int .u16 L.z)/\W.cell? ⟨b,off+5,none⟩=some (.int .u8 L.pl)/\W.cell? ⟨b,off+6,none⟩=some (.int .u8 L.c))->(gk W w.heap.size L (.slice (some A) r.length (cap-1)) num (aC p L.c)).cell? ⟨b,off,none⟩=some (.int .i64 L.k)/\(gk W w.heap.size L (.slice (some A) r.length (cap-1)) num (aC p L.c)).cell? ⟨b,off+1,none⟩=some (.int .u16 L.a)/\(gk W w.heap.size L (.slice (some A) r.length (cap-1)) num (aC p L.c)).cell? ⟨b,off+2,none⟩=some (.int .u16 L.b)/\(gk W w.heap.size L (.slice (some A) r.length (cap-1)) num (aC p L.c)).cell? ⟨b,off+3,none⟩=some (.int .u16 L.d)/\(gk W w.heap.size L (.slice (some A) r.length (cap-1)) num (aC p L.c)).cell? ⟨b,off+4,none⟩=some (.int .u16 L.z)/\(gk W w.heap.size L (.slice (some A) r.length (cap-1)) num (aC p L.c)).cell? ⟨b,off+5,none⟩=some (.int .u8 L.pl)/\(gk W w.heap.size L (.slice (some A) r.length (cap-1)) num (aC p L.c)).cell? ⟨b,off+6,none⟩=some (.int .u8 L.c)):=λW h=>by simp only[G4 (show b≠w.heap.size by omega)];exact h
 have CE:Ic (∀W,Below w1.heap.size w1 W->nH w.heap.size W w.heap.size [.int .i64 0,.int .u16 0,.int .u16 0,.int .u16 0,.int .u16 0,.int .u8 0,.int .u8 0,.slice none 0 0,.int .i64 0,.int .u8 0]):=λW hb=>aH HX1.o hb;unfold gk dO at KEEPS;have HB0:Ic (Below w1.heap.size w1 w1.drew):=(Hf _ _).drew;clear hf hft h1 h2 hplA hob hpr hc;go_enter func144,ntmps144;go_wp2_with fail;rw[<-hw1];clear hw1;go_region_held (λW=>W.cell? ⟨b,off,none⟩=some (.int .i64 L.k)/\W.cell? ⟨b,off+1,none⟩=some (.int .u16 L.a)/\W.cell? ⟨b,off+2,none⟩=some (.int .u16 L.b)/\W.cell? ⟨b,off+3,none⟩=some (.int .u16 L.d)/\W.cell? ⟨b,off+4,none⟩=some (.int .u16 L.z)/\W.cell? ⟨b,off+5,none⟩=some (.int .u8 L.pl)/\W.cell? ⟨b,off+6,none⟩=some (.int .u8 L.c))
  (first|with_reducible exact KEEP.o _ HB0.o|with_reducible exact KEEP.o _ HB8.o|with_reducible exact KEEPS.o w8 (KEEP.o _ HB8.o))
  (first|(go_at_call 145;refine(HIN.o _ HB0.o).mono ?_;rintro e w8 ⟨rfl,hb8⟩;have HB8:=aa (HB0.o.trans (hb8.mono HB0.o.size));have HX8:=aa (CE.o _ HB8.o);have y0:=Hc HX8.o 0 (by omega);have y1:=Hc HX8.o 1 (by omega);have y2:=Hc HX8.o 2 (by omega);have y3:=Hc HX8.o 3 (by omega);have y4:=Hc HX8.o 4 (by omega);have y5:=Hc HX8.o 5 (by omega);have y6:=Hc HX8.o 6 (by omega);have y7:=Hc HX8.o 7 (by omega);have y8:=Hc HX8.o 8 (by omega);have y9:=Hc HX8.o 9 (by omega);have z0:=Hb HX8.o 0;have z1:=Hb HX8.o 1;have z2:=Hb HX8.o 2;have z3:=Hb HX8.o 3;have z4:=Hb HX8.o 4;have z5:=Hb HX8.o 5;have z6:=Hb HX8.o 6;have z7:=Hb HX8.o 7;have z8:=Hb HX8.o 8;have z9:=Hb HX8.o 9;clear hb8))
 all_goals
  have HP:=aa (HX8.o.put L (.slice (some A) r.length (cap-1)) num (aC p L.c));have x0:=Hc HP.o.1 0 (by omega);have x1:=Hc HP.o.1 1 (by omega);have x2:=Hc HP.o.1 2 (by omega);have x3:=Hc HP.o.1 3 (by omega);have x4:=Hc HP.o.1 4 (by omega);have x5:=Hc HP.o.1 5 (by omega);have x6:=Hc HP.o.1 6 (by omega);have x7:=Hc HP.o.1 7 (by omega);have x8:=Hc HP.o.1 8 (by omega);have x9:=Hc HP.o.1 9 (by omega);have HBF:Ic (Below w.heap.size w (gk w8 w.heap.size L (.slice (some A) r.length (cap-1)) num (aC p L.c))):=HB1.o.trans ((HB8.o.mono HB1.o.size).trans (ck HP.o.2 (He _) (by have:=HB1.o.size;have:=HB8.o.size;omega)));have HFN:=aa (HPA.o.below HBF.o);unfold gk dO at x0 x1 x2 x3 x4 x5 x6 x7 x8 x9 HBF HFN;simp only[lL,aA,List.cons_append,List.nil_append,List.getElem?_cons_zero,List.getElem?_cons_succ] at x0 x1 x2 x3 x4 x5 x6 x7 x8 x9;go_wp2;refine Hn (v:=oA L (.slice (some A) r.length (cap-1)) num (aC p L.c)) (by simp[results,Tryz.results144,go_sem,x0,x1,x2,x3,x4,x5,x6,x7,x8,x9,oA]) rfl ⟨_,rfl,HFN.o,HBF.o,λg hg=>by simp only[Value.ownBlock,H6] at hg⊢;rw[<-hg,HAB.o]⟩
abbrev De:=Nat×Ft×List Ft×Value
def G5(d:De):zr:=(d.1,d.2.1,d.2.2.1)
def mr(p:Int)(d:De):List Value:=lL d.2.1 d.2.2.2 d.1 (aC p d.2.1.c)
def pD(p:Int)(ds:List De):List Value:=ds.flatMap (mr p)
theorem sP(p:Int)(d:De):(mr p d).length=10:=rfl
theorem zx(p:Int)(d:De)(ds:List De):pD p (d::ds)=mr p d++pD p ds:=rfl
theorem zy(p:Int):∀(ds:List De)(k j:Nat)(h:k<ds.length),j<10->(pD p ds)[k*10+j]?=(mr p ds[k])[j]?
 |d::ds,0,j,_,hj=>by rw[zx,List.getElem?_append_left (by rw[sP];omega)];simp
 |d::ds,k+1,j,h,hj=>by rw[zx,List.getElem?_append_right (by rw[sP];omega),sP,show (k+1)*10+j-10=k*10+j by omega,zy p ds k j (by simpa using h) hj];simp
structure iC(p:Int)(B:Nat)(w:World)(v:Value)(ds:List De):Prop where
 own:w.ownsRow B 152 10 v ds.length (pD p ds)
 fvs:∀d∈ds,Fv w d.2.2.2 d.2.2.1
 apart:∀d∈ds,∀b,d.2.2.2.ownBlock=some b->v.ownBlock≠some b/\b<w.heap.size
theorem iC.next{p:Int}{B:Nat}{w w':World}{v:Value}{ds:List De}(h:iC p B w v ds)(hb:Below w.heap.size w w'):iC p B w' v ds:=
 ⟨aH h.own hb,λd hd=>(h.fvs d hd).below hb,λd hd b hb2=>⟨(h.apart d hd b hb2).1,Hj (h.apart d hd b hb2).2 hb.size⟩⟩
theorem iC.nil(p:Int)(B:Nat)(w:World):iC p B w (.slice none 0 0) []:=
 ⟨World.ownsRow_nil _ _ _ _,λd hd=>by simp at hd,λd hd=>by simp at hd⟩
theorem iC.at{p:Int}{B:Nat}{w:World}{v:Value}{ds:List De}(h:iC p B w v ds)(k:Nat)(hk:k<ds.length):∃g c,v=.slice (some ⟨g,0,none⟩) ds.length c/\g<w.heap.size/\jo w g (k*10) ds[k].2.1 ds[k].2.2.2 ds[k].1 (aC p ds[k].2.1.c):=by
 rcases h.own.2 with ⟨_,h0⟩|⟨g,cap,ai,rfl,_⟩
 ·omega
 ·have hlt:=(Hd h.own g rfl).2;have hc:∀j,j<10->w.cell? ⟨g,k*10+j,none⟩=(mr p ds[k])[j]?:=λj hj=>by rw[Hc h.own (k*10+j) (by omega),zy p ds k j hk hj]
  refine⟨g,cap,rfl,hlt,hlt,λj u hj=>?_,hc 7 (by omega),hc 8 (by omega),hc 9 (by omega)⟩;have hjl:j<7:=by have:=(List.getElem?_eq_some_iff.1 hj).1;simpa [aA] using this
  rw[hc j (by omega)];unfold mr lL;rw[List.getElem?_append_left (by simpa [aA] using hjl)];exact hj
structure iK(w:World)(ob:Nat)(p o ov:Int)(N R:Nat)(sv:Value):Prop where
 ord:aQ w ob p (aU o N N 0) (aU o N N 1) (aU o N N 2) sv
 sl:Sl w sv (jE ov R)
theorem iK.below{w w':World}{ob:Nat}{p o ov:Int}{N R:Nat}{sv:Value}(h:iK w ob p o ov N R sv)(hb:Below w.heap.size w w'):iK w' ob p o ov N R sv:=⟨h.ord.below hb,h.sl.below hb⟩
theorem gO(o:Int)(N i:Nat):0<=aU o N N i/\aU o N N i<=137438953472:=by
 unfold aU iY W0 W1 W2;split
 ·split
  ·split<;>omega
  ·split
   ·split<;>omega
   ·split<;>omega
 ·omega
theorem G6{ov:Int}{R:Nat}(hR:R<=40):∀s∈jE ov R,-600000000000000000<=s/\s<=600000000000000000:=by intro s hs;simp only[jE,H8,List.mem_range] at hs;obtain⟨i,hi,rfl⟩:=hs;unfold bG;split<;>omega
theorem qq{p o:Int}{N:Nat}{v:List (List Tm)}(h:∀f∈v,cN p o N f):b9 p o N (λ_=>200) v:=by
 refine⟨λi=>?_,λi t ht x hx=>?_,λi t ht=>?_⟩<;>rcases sI v i with e|hm
 ·rw[e];exact(pQ p o N).canon
 ·exact(h _ hm).canon
 ·rw[e] at ht;simp at ht
 ·exact((h _ hm).bd t ht x hx).1
 ·rw[e] at ht;simp at ht
 ·exact(h _ hm).deg t ht
structure sQ(p o ov:Int)(N R:Nat)(lss:List (List (List Tm)))(w wr:World)(m:Nat)(v:Value)(ds:List De)(fls:List (List Ft)):Prop where
 dvs:iC p w.heap.size wr v ds
 made:ds.map G5=sJ 0 fls
 len:fls.length=m
 flr:∀i,i<m->mP p o ov N R 200 (lss.getD i []) (fls.getD i [])
 below:Below w.heap.size w wr
theorem sQ.next{p o ov:Int}{N R:Nat}{lss:List (List (List Tm))}{w wr w':World}{m:Nat}{v:Value}{ds:List De}{fls:List (List Ft)}(h:sQ p o ov N R lss w wr m v ds fls)(hb:Below wr.heap.size wr w'):sQ p o ov N R lss w w' m v ds fls:=
 ⟨h.dvs.next hb,h.made,h.len,h.flr,h.below.trans (hb.mono h.below.size)⟩
def pE(N:Nat)(xs:List Int)(k:Nat):List Value:=((xs.take k++List.replicate (N-k) 0).map (Value.int .i64))
theorem G7(N:Nat)(xs:List Int)(k:Nat)(hl:xs.length=N)(hk:k<N):(pE N xs k).set k (.int .i64 (xs.getD k 0))=pE N xs (k+1):=by
 have hlen:(xs.take k).length=k:=by rw[List.length_take];omega
 have e:xs.getD k 0=xs[k]:=by simp[Hs,show k<xs.length by omega]
 unfold pE;rw[List.map_append,List.set_append_right _ _ (by rw[Ia,hlen];exact He _),Ia,hlen,Nat.sub_self,show N-k=(N-(k+1))+1 by omega,List.replicate_succ,List.map_cons,List.set_cons_zero,List.take_succ_eq_append_getElem (show k<xs.length by omega),e,List.map_append,List.map_append,List.append_assoc];rfl
structure sR(w wr:World)(N:Nat)(t:Ft)(k:Nat):Prop where
 below:Below w.heap.size w wr
 box:Bx w.heap.size wr w.heap.size t
 res:wr.ownsRow w.heap.size 54 2 (.slice (some ⟨w.heap.size+1,0,none⟩) 1 1) 1 [.int .i64 0,.slice none 0 0]
 row:wr.ownsRow w.heap.size 3 1 (.slice (some ⟨w.heap.size+1+1,0,none⟩) N N) N (pE N (aJ N t) k)
theorem sR.put{w wr:World}{N:Nat}{t:Ft}{k:Nat}(h:sR w wr N t k)(hl:(aJ N t).length=N)(hk:k<N):sR w (wr.setCell ⟨w.heap.size+1+1,k,none⟩ (.int .i64 ((aJ N t).getD k 0))) N t (k+1):=by have s:=Hq h.row k (.int .i64 ((aJ N t).getD k 0));refine⟨h.below.trans (ck s.2 (by omega) h.below.size),World.ownsRow.kept h.box s.2 (Or.inr (by simp[Value.ownBlock];omega)),World.ownsRow.kept h.res s.2 (Or.inr (by simp[Value.ownBlock])),?_⟩;rw[<-G7 N _ k hl hk];exact s.1
structure fF(B N:Nat)(w:World)(u:Value)(ts:List TV):Prop where
 own:w.ownsRow B 54 2 u ts.length (ak ts)
 kind:∀g,u.ownBlock=some g->bO iR w g
 es:∀t∈ts,w.ownsRow B 3 1 t.2.1 N (t.2.2.map (Value.int .i64))
def cX(w:World)(T:TypeId)(g:Nat):Prop:=∀ai,w.heap[g]?≠some (.cells ai T (0,0))
theorem cD{w:World}{B:Nat}{T:TypeId}{s:Nat}{v:Value}{n:Nat}{xs:List Value}(h:w.ownsRow B T s v n xs){g:Nat}(hg:v.ownBlock=some g):∃ai,w.heap[g]?=some (.cells ai T (0,0)):=by
 rcases h.2 with ⟨rfl,_⟩|⟨g2,cap,ai,rfl,_,hh,_⟩
 ·simp[Value.ownBlock] at hg
 ·simp only[Value.ownBlock,H6] at hg;subst hg;exact⟨ai,hh⟩
theorem bM{w:World}{B:Nat}{T T':TypeId}{s:Nat}{v:Value}{n:Nat}{xs:List Value}(h:w.ownsRow B T s v n xs){g:Nat}(hg:v.ownBlock=some g)(hT:T≠T'):cX w T' g:=by obtain⟨ai,hh⟩:=cD h hg;intro cur2 e;rw[hh] at e;simp only[H6,Obj.cells.injEq] at e;exact hT e.2.1
theorem fF.frm{B N:Nat}{S:Nat->Prop}{w w':World}{u:Value}{ts:List TV}(h:fF B N w u ts)(hf:ao S w w')(hu:∀g,u.ownBlock=some g->¬S g)(hS:∀g,S g->cX w 3 g):fF B N w' u ts:=
 ⟨hf.own h.own hu,λg hg=>hf.kdb (h.kind g hg) (Hd h.own g hg).2 (hu g hg),λt ht=>hf.own (h.es t ht) λg hg hs=>by
  obtain⟨ai,e⟩:=cD (h.es t ht) hg;exact hS g hs ai e⟩
theorem fF.next{B N:Nat}{w w':World}{u:Value}{ts:List TV}(h:fF B N w u ts)(hb:Below w.heap.size w w'):fF B N w' u ts:=
 h.frm (S:=λ_=>False) (ao.of_below hb) (λ_ _ h=>h) λ_ h=>h.elim
theorem fF.nil(B N:Nat)(w:World):fF B N w (.slice none 0 0) []:=⟨World.ownsRow_nil _ _ _ _,λg hg=>by simp[Value.ownBlock] at hg,λt ht=>by simp at ht⟩
theorem fF.pl{B N:Nat}{w:World}{u:Value}{ts:List TV}(h:fF B N w u ts)(hl:∀t∈ts,t.2.2.length=N):Pl w u (ts.map tm):=by refine kf h.own λt ht=>?_;exact jc (T:=3) (by rw[hl t ht];exact h.es t ht)
theorem fF.snoc{B N:Nat}{w w':World}{u v:Value}{ts:List TV}{c:Int}{ev:Value}{xs:List Int}(h:fF B N w u ts)(hev:w.ownsRow B 3 1 ev N (xs.map (Value.int .i64)))(h2:w'.ownsRow B 54 2 v (ts.length+1) (ak ts++[.int .i64 c,ev]))(h3:w.grownBy w' u.ownBlock)(h4:∀g,v.ownBlock=some g->bO iR w' g):fF B N w' v (ts++[(c,ev,xs)]):=by
 have hf:ao (λk=>u.ownBlock=some k) w w':=ao.of_grown h3 λ_ e=>e;have hk:∀{z:Value}{n:Nat}{zs:List Value},w.ownsRow B 3 1 z n zs->w'.ownsRow B 3 1 z n zs:=fun {z n zs} hz=>hf.own hz λg hg e=>by obtain⟨ai,e2⟩:=cD hz hg;exact bM h.own e (by decide) ai e2
 refine⟨?_,h4,λt ht=>?_⟩
 ·have e:ak (ts++[(c,ev,xs)])=ak ts++[.int .i64 c,ev]:=by simp[ak]
  rw[e,Hx];exact h2
 ·rcases Hv.1 ht with ht|ht
  ·exact hk (h.es t ht)
  ·rw[Hw] at ht;subst ht;exact hk hev
structure pF(B N:Nat)(w wx:World)(fb b i n rc:Nat)(us:List Value)(ts:List TV)(f:Bool)(t:Ft)(ev v:Value):Prop where
 pol:fF B N wx v (ts++[(t.c,ev,aJ N t)])
 row:wx.ownsRow B 31 1 (.slice (some ⟨b,0,none⟩) n rc) n (us.set i v)
 kind:di wx b
 fit:wx.ownsRow B 4 1 (.slice (some ⟨fb,0,none⟩) 1 1) 1 [.bool f]
 frm:ao (λk=>k=b\/(us.getD i aP).ownBlock=some k\/k=fb) w wx
 loc:v.ownBlock=(us.getD i aP).ownBlock\/∃g,v.ownBlock=some g/\w.heap.size<=g
theorem pF.next{B N:Nat}{w wx w':World}{fb b i n rc:Nat}{us:List Value}{ts:List TV}{f:Bool}{t:Ft}{ev v:Value}(h:pF B N w wx fb b i n rc us ts f t ev v)(hb:Below wx.heap.size wx w'):pF B N w w' fb b i n rc us ts f t ev v:=
 ⟨h.pol.next hb,aH h.row hb,bO.below h.kind (hb.block b (Hd h.row b rfl).2),aH h.fit hb,h.frm.trans (ao.of_below (S:=λ_=>False) hb) (λ_ _ h=>h.elim),h.loc⟩
def jF{α:Type}(f:Bool->α)(s:Bool)(x:α):Bool->α:=λs'=>if s'=s then x else f s'
theorem nI{α:Type}(f:Bool->α)(s:Bool)(x:α):jF f s x s=x:=by simp[jF]
theorem nJ{α:Type}(f:Bool->α){s s':Bool}(x:α)(h:s'≠s):jF f s x s'=f s':=by simp[jF,h]
structure QW(B N:Nat)(w:World)(rv:Bool->Value)(us:Bool->List Value)(tss:Bool->List (List TV)):Prop where
 len:∀s,(us s).length=(tss s).length
 own:∀s,w.ownsRow B 31 1 (rv s) (tss s).length (us s)
 kind:∀s g,(rv s).ownBlock=some g->di w g
 pol:∀s i,i<(tss s).length->fF B N w ((us s).getD i aP) ((tss s).getD i [])
 rap:∀g,(rv true).ownBlock=some g->(rv false).ownBlock≠some g
 sap:∀s i s' j,i<(tss s).length->j<(tss s').length->¬(s=s'/\i=j)->∀g,((us s).getD i aP).ownBlock=some g->((us s').getD j aP).ownBlock≠some g
 lens:∀s i,∀t∈(tss s).getD i [],t.2.2.length=N
theorem QW.rne{B N:Nat}{w:World}{rv:Bool->Value}{us:Bool->List Value}{tss:Bool->List (List TV)}(h:QW B N w rv us tss){s s':Bool}(hs:s≠s'):∀g,(rv s).ownBlock=some g->(rv s').ownBlock≠some g:=by
 intro g hg e;cases s<;>cases s'
 ·exact hs rfl
 ·exact h.rap g e hg
 ·exact h.rap g hg e
 ·exact hs rfl
theorem QW.frm{B N:Nat}{S:Nat->Prop}{w w':World}{rv:Bool->Value}{us:Bool->List Value}{tss:Bool->List (List TV)}(h:QW B N w rv us tss)(hf:ao S w w')(hp:∀g,S g->cX w 31 g)(ht:∀g,S g->cX w 54 g)(hi:∀g,S g->cX w 3 g):QW B N w' rv us tss:=by
 have hrow:∀s g,(rv s).ownBlock=some g->¬S g:=λs g hg hs=>by obtain⟨ai,e⟩:=cD (h.own s) hg;exact hp g hs ai e
 refine⟨h.len,λs=>hf.own (h.own s) (hrow s),λs g hg=>hf.kdb (h.kind s g hg) (Hd (h.own s) g hg).2 (hrow s g hg),λs i hl=>(h.pol s i hl).frm hf (λg hg hs=>?_) hi,h.rap,h.sap,h.lens⟩;obtain⟨ai,e⟩:=cD (h.pol s i hl).own hg;exact ht g hs ai e
theorem QW.next{B N:Nat}{w w':World}{rv:Bool->Value}{us:Bool->List Value}{tss:Bool->List (List TV)}(h:QW B N w rv us tss)(hb:Below w.heap.size w w'):QW B N w' rv us tss:=
 h.frm (S:=λ_=>False) (ao.of_below hb) (λ_ h=>h.elim) (λ_ h=>h.elim) λ_ h=>h.elim
theorem QW.grow{B N:Nat}{w w':World}{rv:Bool->Value}{us:Bool->List Value}{tss:Bool->List (List TV)}(h:QW B N w rv us tss){s:Bool}{fb b i n rc:Nat}{f0 f:Bool}{t:Ft}{ev v:Value}(hi:i<(tss s).length)(hv:rv s=.slice (some ⟨b,0,none⟩) n rc)(hn:n=(tss s).length)(hx:(aJ N t).length=N)(hfb:w.ownsRow B 4 1 (.slice (some ⟨fb,0,none⟩) 1 1) 1 [.bool f0])(hg:pF B N w w' fb b i n rc (us s) ((tss s).getD i []) f t ev v):QW B N w' rv (jF us s ((us s).set i v)) (jF tss s ((tss s).set i ((tss s).getD i []++[(t.c,ev,aJ N t)]))):=by
 subst hn;have hbs:(rv s).ownBlock=some b:=by rw[hv];rfl
 have hb:=h.own s;have hS:∀g,(g=b\/((us s).getD i aP).ownBlock=some g\/g=fb)->cX w 3 g:=λg hgS=>by
  rcases hgS with rfl|e|rfl
  ·exact bM hb hbs (by decide)
  ·exact bM (h.pol s i hi).own e (by decide)
  ·exact bM hfb rfl (by decide)
 have hrow:∀s',s'≠s->∀g,(rv s').ownBlock=some g->¬(g=b\/((us s).getD i aP).ownBlock=some g\/g=fb):=λs' hs' g hg2 hgS=>by
  obtain⟨ai,e⟩:=cD (h.own s') hg2;rcases hgS with rfl|e2|rfl
  ·exact h.rne hs' g hg2 hbs
  ·exact bM (h.pol s i hi).own e2 (by decide) ai e
  ·exact bM hfb rfl (by decide) ai e
 have hpol:∀s' j,j<(tss s').length->¬(s=s'/\i=j)->fF B N w' ((us s').getD j aP) ((tss s').getD j []):=λs' j hj hne=>
  (h.pol s' j hj).frm hg.frm (λg hg2 hgS=>by
   obtain⟨ai,e⟩:=cD (h.pol s' j hj).own hg2;rcases hgS with rfl|e2|rfl
   ·exact bM hb hbs (by decide) ai e
   ·exact h.sap s i s' j hi hj hne g e2 hg2
   ·exact bM hfb rfl (by decide) ai e) hS
 have hlt:∀s' j,j<(tss s').length->∀g,((us s').getD j aP).ownBlock=some g->g<w.heap.size:=λs' j hj g hg2=>(Hd (h.pol s' j hj).own g hg2).2;have hul:∀s' j,(jF us s ((us s).set i v) s').getD j aP=if s'=s/\i=j/\j<(us s).length then v else (us s').getD j aP:=λs' j=>by
  by_cases e:s'=s
  ·subst e;rw[nI,gD];by_cases e2:i=j/\j<(us s').length
   ·rw[if_pos e2,if_pos ⟨rfl,e2⟩]
   ·rw[if_neg e2,if_neg λh=>e2 h.2]
  ·rw[nJ _ _ e,if_neg λh=>e h.1]
 have htl:∀s' j,(jF tss s ((tss s).set i ((tss s).getD i []++[(t.c,ev,aJ N t)])) s').getD j []=if s'=s/\i=j/\j<(tss s).length then (tss s).getD i []++[(t.c,ev,aJ N t)] else (tss s').getD j []:=λs' j=>by
  by_cases e:s'=s
  ·subst e;rw[nI,gD];by_cases e2:i=j/\j<(tss s').length
   ·rw[if_pos e2,if_pos ⟨rfl,e2⟩]
   ·rw[if_neg e2,if_neg λh=>e2 h.2]
  ·rw[nJ _ _ e,if_neg λh=>e h.1]
 have hlen:∀s',(jF tss s ((tss s).set i ((tss s).getD i []++[(t.c,ev,aJ N t)])) s').length=(tss s').length:=λs'=>by
  by_cases e:s'=s
  ·subst e;rw[nI,List.length_set]
  ·rw[nJ _ _ e]
 refine⟨λs'=>?_,λs'=>?_,λs' g hg2=>?_,λs' j hj=>?_,h.rap,λs1 i1 s2 j2 h1 h2 hne g e1=>?_,λs' j x hx2=>?_⟩
 ·rw[hlen];by_cases e:s'=s
  ·subst e;rw[nI,List.length_set];exact h.len s'
  ·rw[nJ _ _ e];exact h.len s'
 ·rw[hlen];by_cases e:s'=s
  ·subst e;rw[nI,hv];exact hg.row
  ·rw[nJ _ _ e];exact hg.frm.own (h.own s') (hrow s' e)
 ·by_cases e:s'=s
  ·subst e;rw[hbs] at hg2;simp only[H6] at hg2;subst hg2;exact hg.kind
  ·exact hg.frm.kdb (h.kind s' g hg2) (Hd (h.own s') g hg2).2 (hrow s' e g hg2)
 ·rw[hlen] at hj;rw[hul,htl,h.len];by_cases e:s'=s/\i=j/\j<(tss s).length
  ·rw[if_pos e,if_pos e];exact hg.pol
  ·rw[if_neg e,if_neg e];exact hpol s' j hj λh4=>e ⟨h4.1.symm,h4.2,by rw[h4.1];exact hj⟩
 ·rw[hlen] at h1 h2;rw[hul,h.len] at e1⊢;by_cases ea:s1=s/\i=i1/\i1<(tss s).length
  ·rw[if_pos ea] at e1;have eb:¬(s2=s/\i=j2/\j2<(tss s).length):=λh4=>hne ⟨ea.1.trans h4.1.symm,ea.2.1.symm.trans h4.2.1⟩;rw[if_neg eb];rcases hg.loc with hl|⟨g2,hl,hge⟩
   ·rw[hl] at e1;exact h.sap s i s2 j2 hi h2 (λh4=>hne ⟨ea.1.trans h4.1,ea.2.1.symm.trans h4.2⟩) g e1
   ·rw[hl] at e1;simp only[H6] at e1;intro e2;have:=hlt s2 j2 h2 g e2;omega
  ·rw[if_neg ea] at e1;by_cases eb:s2=s/\i=j2/\j2<(tss s).length
   ·rw[if_pos eb];rcases hg.loc with hl|⟨g2,hl,hge⟩
    ·rw[hl];have:=h.sap s1 i1 s2 j2 h1 h2 hne g e1;rw[eb.1,<-eb.2.1] at this;exact this
    ·rw[hl];intro e2;simp only[H6] at e2;have:=hlt s1 i1 h1 g e1;omega
   ·rw[if_neg eb];exact h.sap s1 i1 s2 j2 h1 h2 hne g e1
 ·rw[htl] at hx2;split at hx2
  ·rcases Hv.1 hx2 with hx2|hx2
   ·exact h.lens s i x hx2
   ·rw[Hw] at hx2;subst hx2;exact hx
  ·exact h.lens s' j x hx2
theorem QW.vl{B N:Nat}{w:World}{rv:Bool->Value}{us:Bool->List Value}{tss:Bool->List (List TV)}(h:QW B N w rv us tss)(s:Bool):Vl w (rv s) ((tss s).map (List.map tm)):=by
 have hp:cl B w (rv s) (us s) ((tss s).map (List.map tm)):=by
  refine⟨by rw[Ia];exact h.len s,by rw[Ia];exact h.own s,h.kind s,λi hi=>?_⟩;rw[Ia] at hi;have e:((tss s).map (List.map tm)).getD i []=((tss s).getD i []).map tm:=by simp[Hs,hi]
  rw[e];exact(h.pol s i hi).pl (h.lens s i)
 exact hp.vl
theorem eh{S:Nat->Prop}{w w':World}(hf:ao S w w'){B:Nat}{T:TypeId}{s:Nat}{v:Value}{n:Nat}{xs:List Value}(h:w.ownsRow B T s v n xs)(hS:∀g,S g->cX w T g):w'.ownsRow B T s v n xs:=
 hf.own h λg hg hs=>by obtain⟨ai,e⟩:=cD h hg;exact hS g hs ai e
theorem G8{a b c d a2 b2 c2 d2:Int}(h0:0<=a)(h1:0<=b)(h2:0<=c)(h3:0<=d)(h4:b+c+d<=400)(g0:0<=a2)(g1:0<=b2)(g2:0<=c2)(g3:0<=d2)(g4:b2+c2+d2<=400)(e:(a*64481201+(b*160801+(c*401+d))).toNat=(a2*64481201+(b2*160801+(c2*401+d2))).toNat):a=a2/\b=b2/\c=c2/\d=d2:=by
 have q1:0<=c*401+d/\c*401+d<160801:=by omega
 have q2:0<=c2*401+d2/\c2*401+d2<160801:=by omega
 have q3:0<=b*160801+(c*401+d)/\b*160801+(c*401+d)<64481201:=by omega
 have q4:0<=b2*160801+(c2*401+d2)/\b2*160801+(c2*401+d2)<64481201:=by omega
 have e1:a=a2/\b*160801+(c*401+d)=b2*160801+(c2*401+d2):=by generalize b*160801+(c*401+d)=x at e q3;generalize b2*160801+(c2*401+d2)=y at e q4;omega
 have e2:b=b2/\c*401+d=c2*401+d2:=by have:=e1.2;generalize c*401+d=x at this q1;generalize c2*401+d2=y at this q2;omega
 have e3:c=c2/\d=d2:=by omega
 exact⟨e1.1,e2.1,e3.1,e3.2⟩
theorem BW{o ov:Int}{N R:Nat}(hR:R<=40):∀r,Dn r->(∀t∈r,Gd o ov N R 400 t)->r.length<=100000000000:=by
 intro r hd hg;let idx:Ft->Nat:=λt=>(t.pl*64481201+(t.a*160801+(t.b*401+t.d))).toNat;have hn:(r.map idx).Nodup:=by
  rw[List.nodup_iff_pairwise_ne,List.pairwise_map];refine List.Pairwise.imp_of_mem (R:=λa b:Ft=>b.k<a.k) (fun {a b} ha hb hlt e=>?_) hd;have ga:=hg a ha;have gb:=hg b hb;obtain⟨k1,a1,b1,d1,s1,z1,p1,q1,_,_⟩:=ga;obtain⟨k2,a2,b2,d2,s2,z2,p2,q2,_,_⟩:=gb;have e2:=G8 p1 a1 b1 d1 s1 p2 a2 b2 d2 s2 e;have e3:aJ N a=aJ N b:=by unfold aJ;rw[e2.2.1,e2.2.2.1,e2.2.2.2]
  rw[k1,k2,e3,e2.1] at hlt;omega
 have hb:∀x∈r.map idx,x<100000000000:=λx hx=>by obtain⟨t,ht,rfl⟩:=H8.1 hx;obtain⟨k1,a1,b1,d1,s1,z1,p1,q1,_,_⟩:=hg t ht;simp only[idx];omega
 have:=mR _ _ hn hb;rwa [Ia] at this
theorem oy{B B2:Nat}{w w':World}{g sb ob:Nat}{t:Ft}{rw:Value}{us:List Value}{rows:List (List Ft)}(h:Bx B w g t)(hs:aW B2 w sb ob rw us rows)(hf:ao (eV sb rw) w w'):Bx B w' g t:=eh hf h λk hk=>by
 rcases hk with rfl|e
 ·exact bM hs.box rfl (by decide)
 ·exact bM hs.rws.own e (by decide)
structure ks(p:Int)(B L:Nat)(w wr:World)(sb ob:Nat)(rv:Value)(rows ai:List (List Ft)):Prop where
 tk:cK B L w wr sb ob rv ai
 res:Bx w.heap.size wr w.heap.size ⟨0,0,0,0,0,0,0⟩
 go:∀r rows2,Nx p ai r rows2->Nx p rows r rows2
 co:∀r∈ai,∀t∈r,0<t.c/\t.c<p
 dn:∀r∈ai,Dn r
 len:ai.length=rows.length
theorem ks.next{p:Int}{B L:Nat}{w wr w':World}{sb ob:Nat}{rv:Value}{rows ai:List (List Ft)}(h:ks p B L w wr sb ob rv rows ai)(hb:Below wr.heap.size wr w'):ks p B L w w' sb ob rv rows ai:=
 ⟨h.tk.next hb,h.res.below hb,h.go,h.co,h.dn,h.len⟩
theorem qN(B L sb ob:Nat)(p k0 k1 k2:Int)(sv rv:Value)(us:List Value)(rows:List (List Ft))(w:World)(hs:aW B w sb ob rv us rows)(hL:L<=w.heap.size)(hloc:iP L us rows)(hob:aQ w ob p k0 k1 k2 sv)(hp:2<=p/\p<=101)(hn:rows.length<=1000)(hc:∀r∈rows,∀t∈r,0<t.c/\t.c<p)(hd:∀r∈rows,Dn r):Calls prog 164 #[.pointer (some ⟨sb,0,none⟩)] w λe w'=>∃r,e=.returned (.tuple #[aY (bE r),.bool r.isSome])/\∃rows2,Nx p rows r rows2/\cK B L w w' sb ob rv rows2:=by
 have HOB:=aa hob;have HAP:=aa (hs.ob_apart hob);have HRL:Ic (∀g,rv.ownBlock=some g->g<w.heap.size):=λg hg=>(Hd hs.rws.own g hg).2;have HSL:=aa hs.lt.2;obtain⟨w0,hw0⟩:∃w0,w0=w.alloc (.cells #[.int .i64 0,.int .u16 0,.int .u16 0,.int .u16 0,.int .u16 0,.int .u8 0,.int .u8 0] 144):=⟨_,rfl⟩;have H0:Ic (ks p B L w w0 sb ob rv rows rows):=by show ks _ _ _ _ _ _ _ _ _ _;rw[hw0];exact⟨⟨⟨us,hs.next af,hloc⟩,ao.of_below af⟩,Bx.new w _ (He _),λ_ _ h=>h,hc,hd,rfl⟩
 clear hs hob hc hd hloc;go_enter func164,ntmps164;go_wp2_with fail;rw[<-hw0];clear hw0;go_loopw [3] (λf wr=>f=.bool false/\∃ai,ks p B L w wr sb ob rv rows ai) (λ_ wr=>mq wr rv);case atStart=>exact⟨rfl,rows,H0.o⟩
 case round=>
  clear H0;obtain⟨rfl,ai,ht⟩:=hrel;have HT:=aa ht;obtain⟨us1,hs1,_⟩:=ht.tk.sum;obtain⟨x0,x1,x2⟩:=hs1.cells;have HG:=aa (GA sb rv ai wr hs1.lt.2 x1 hs1.rws.rws (by rw[ht.len];exact hn));have HTOT:=aa hs1.rws.total;clear ht hs1 x0 x1 x2;cases hgr:eF ai with
  |none=>
   have HGR:=aa hgr;rw[hgr] at HG;simp only[bE,aY,Option.getD_none,Option.isSome_none] at HG;clear hgr;go_upto_region 2 with (go_at_call 202;refine HG.o.mono ?_;rintro e w1 ⟨rfl,hb1⟩;have HT1:=aa (HT.o.next hb1);have HBX:=aa (Bx.new w1 w.heap.size HT1.o.tk.frm.size);obtain⟨y0,y1,y2,y3,y4,y5,y6⟩:=HBX.o.at;have z0:=Hb HBX.o 0;have z1:=Hb HBX.o 1;have z2:=Hb HBX.o 2;have z3:=Hb HBX.o 3;have z4:=Hb HBX.o 4;have z5:=Hb HBX.o 5;have z6:=Hb HBX.o 6;simp only[Hy] at y0 y1 y2 y3 y4 y5 y6;clear hb1);obtain⟨wq,hwq⟩:∃wq,wq=w1.alloc (.cells #[.int .i64 0,.int .u16 0,.int .u16 0,.int .u16 0,.int .u16 0,.int .u8 0,.int .u8 0] 144):=⟨_,rfl⟩;have HQ:Ic (ks p B L w wq sb ob rv rows ai/\Bx w.heap.size wq w1.heap.size ⟨0,0,0,0,0,0,0⟩/\w.heap.size<w1.heap.size/\mq wq rv=eY ai):=by show _/\_/\_/\_;rw[hwq];obtain⟨us2,hs2,_⟩:=(HT1.o.next (af (A:=.cells #[.int .i64 0,.int .u16 0,.int .u16 0,.int .u16 0,.int .u16 0,.int .u8 0,.int .u8 0] 144))).tk.sum;exact⟨HT1.o.next af,cS HT1.o.tk.frm.size ⟨0,0,0,0,0,0,0⟩,(Hd HT1.o.res _ rfl).2,hs2.rws.total⟩
   rw[<-hwq];clear hwq HBX y0 y1 y2 y3 y4 y5 y6 z0 z1 z2 z3 z4 z5 z6;have HLT2:=HQ.o.2.2.1;obtain⟨v0,v1,v2,v3,v4,v5,v6⟩:=HQ.o.1.res.at;have r0:=Hb HQ.o.1.res 0;have r1:=Hb HQ.o.1.res 1;have r2:=Hb HQ.o.1.res 2;have r3:=Hb HQ.o.1.res 3;have r4:=Hb HQ.o.1.res 4;have r5:=Hb HQ.o.1.res 5;have r6:=Hb HQ.o.1.res 6;simp only[Hy] at v0 v1 v2 v3 v4 v5 v6;have HP:=aa (HQ.o.1.res.put ⟨0,0,0,0,0,0,0⟩);have hpat:=HP.o.1.at;have HPT:=aa (HQ.o.1.tk.far HP.o.2 hL (He _) HSL.o HRL.o);unfold dO at hpat HPT;obtain⟨s0,s1,s2,s3,s4,s5,s6⟩:=hpat;simp only[Hy] at s0 s1 s2 s3 s4 s5 s6;go_wp2;refine Hn (v:=.tuple #[aY (bE none),.bool false]) (by simp[results,Tryz.results164,go_sem,s0,s1,s2,s3,s4,s5,s6,aY,bE]) rfl ⟨none,rfl,ai,HQ.o.1.go _ _ (Nx.stop ai HGR.o),HPT.o⟩
  |some t=>
   have HGR:=aa hgr;rw[hgr] at HG;simp only[bE,aY,Option.getD_some,Option.isSome_some] at HG;clear hgr;go_upto_region 2 with (go_at_call 202;refine HG.o.mono ?_;rintro e w1 ⟨rfl,hb1⟩;have HT1:=aa (HT.o.next hb1);have HBX:=aa (Bx.new w1 w.heap.size HT1.o.tk.frm.size);obtain⟨y0,y1,y2,y3,y4,y5,y6⟩:=HBX.o.at;have z0:=Hb HBX.o 0;have z1:=Hb HBX.o 1;have z2:=Hb HBX.o 2;have z3:=Hb HBX.o 3;have z4:=Hb HBX.o 4;have z5:=Hb HBX.o 5;have z6:=Hb HBX.o 6;simp only[Hy] at y0 y1 y2 y3 y4 y5 y6;clear hb1);obtain⟨wq,hwq⟩:∃wq,wq=w1.alloc (.cells #[.int .i64 t.k,.int .u16 t.a,.int .u16 t.b,.int .u16 t.d,.int .u16 t.z,.int .u8 t.pl,.int .u8 t.c] 144):=⟨_,rfl⟩;have HQ:Ic (ks p B L w wq sb ob rv rows ai/\Bx w.heap.size wq w1.heap.size t/\w.heap.size<w1.heap.size/\mq wq rv=eY ai):=by show _/\_/\_/\_;rw[hwq];obtain⟨us2,hs2,_⟩:=(HT1.o.next (af (A:=.cells #[.int .i64 t.k,.int .u16 t.a,.int .u16 t.b,.int .u16 t.d,.int .u16 t.z,.int .u8 t.pl,.int .u8 t.c] 144))).tk.sum;exact⟨HT1.o.next af,cS HT1.o.tk.frm.size t,(Hd HT1.o.res _ rfl).2,hs2.rws.total⟩
   rw[<-hwq];clear hwq HBX y0 y1 y2 y3 y4 y5 y6 z0 z1 z2 z3 z4 z5 z6;have HLT2:=HQ.o.2.2.1;have HTA:Ic (Calls prog 203 #[.pointer (some ⟨sb,0,none⟩),.int .i64 t.k] wq λe w'=>e=.returned (.int .u8 (cV t.k ai%p))/\cK B L wq w' sb ob rv (tk t.k ai)):=by obtain⟨us2,hs2,hl2⟩:=HQ.o.1.tk.sum;exact G1 B L sb ob p k0 k1 k2 t.k sv rv us2 ai wq hs2 hl2 (HOB.o.frm HQ.o.1.tk.frm HAP.o) hp (by rw[HQ.o.1.len];exact hn) λr hr t ht=>by have:=HQ.o.1.co r hr t ht;omega
   obtain⟨b0,b1,b2,b3,b4,b5,b6⟩:=HQ.o.2.1.at;simp only[Hy] at b0 b1 b2 b3 b4 b5 b6;have hmem:=(yY HQ.o.1.dn HGR.o).1;have HMEM:=aa hmem;obtain⟨t2,ht2⟩:∃t2:Ft,t2={t with c:=cV t.k ai%p}:=⟨_,rfl⟩;have HT2:=aa ht2;have hcd:cV t.k ai%p=t2.c:=by rw[ht2]
   have HCD:=aa hcd;have HEN:Ic ((aA t).set 6 (.int .u8 t2.c)=aA t2):=by show _=_;rw[ht2];rfl
   rw[hcd] at HTA;clear hmem hcd ht2;have STEP:Ic (∀w3,cK B L wq w3 sb ob rv (tk t.k ai)->cK B L w w3 sb ob rv (tk t.k ai)/\Bx w.heap.size w3 w1.heap.size t/\Bx w.heap.size w3 w.heap.size ⟨0,0,0,0,0,0,0⟩):=λw3 h3=>⟨HQ.o.1.tk.trans h3,oG HQ.o.2.1 h3.frm (λe=>by have:=HRL.o _ e;omega),oG HQ.o.1.res h3.frm (λe=>by have:=HRL.o _ e;omega)⟩
   go_upto_region 5 with (go_at_call 203;refine HTA.o.mono ?_;rintro e w3 ⟨rfl,h3⟩;have H3:=aa (STEP.o w3 h3);clear h3;have d6:=(H3.o.2.1.at).2.2.2.2.2.2;have f6:=Hb H3.o.2.1 6;simp only[Hy] at d6);have s6:=Hq H3.o.2.1 6 (.int .u8 t2.c);obtain⟨w4,hw4⟩:∃w4,w4=w3.setCell ⟨w1.heap.size,6,none⟩ (.int .u8 t2.c):=⟨_,rfl⟩;have H4:Ic (cK B L w w4 sb ob rv (tk t.k ai)/\Bx w.heap.size w4 w1.heap.size t2/\Bx w.heap.size w4 w.heap.size ⟨0,0,0,0,0,0,0⟩):=by show _/\_/\_;rw[hw4];exact⟨H3.o.1.far s6.2 (by omega) (by omega) HSL.o HRL.o,by have:=s6.1;rw[HEN.o] at this;exact this,World.ownsRow.kept H3.o.2.2 s6.2 (Or.inr (by simp[Value.ownBlock];omega))⟩
   rw[<-hw4];clear hw4 s6 d6 f6;obtain⟨e0,e1,e2,e3,e4,e5,e6⟩:=H4.o.2.1.at;simp only[Hy] at e0 e1 e2 e3 e4 e5 e6;by_cases hz:t2.c=0
   ·have HZ:=aa hz;go_wp2;go_roundw;case rel=>
     refine⟨rfl,tk t.k ai,H4.o.1,H4.o.2.2,λr rows2 h=>HQ.o.1.go _ _ (Nx.go ai rows2 t r HGR.o (HCD.o.trans HZ.o) h),λr hr x hx=>?_,λr hr=>?_,?_⟩
     ·obtain⟨r0,h0,rfl⟩:=H8.1 hr;exact HQ.o.1.co r0 h0 x (sF _ r0 x hx)
     ·obtain⟨r0,h0,rfl⟩:=H8.1 hr;exact qE (HQ.o.1.dn r0 h0)
     ·have:=HQ.o.1.len;simp[tk,this]
    case measure=>obtain⟨us4,hs4,_⟩:=H4.o.1.sum;have h4:=hs4.rws.total;obtain⟨ts,hm⟩:=HMEM.o;have h5:=zd hm;have h6:=HTOT.o;omega
   ·have HZ:=aa hz;go_upto_region 6 with fail;obtain⟨v0,v1,v2,v3,v4,v5,v6⟩:=H4.o.2.2.at;have r0:=Hb H4.o.2.2 0;have r1:=Hb H4.o.2.2 1;have r2:=Hb H4.o.2.2 2;have r3:=Hb H4.o.2.2 3;have r4:=Hb H4.o.2.2 4;have r5:=Hb H4.o.2.2 5;have r6:=Hb H4.o.2.2 6;simp only[Hy] at v0 v1 v2 v3 v4 v5 v6;have HP:=aa (H4.o.2.2.put t2);have hpat:=HP.o.1.at;have HPT:=aa (H4.o.1.far HP.o.2 hL (He _) HSL.o HRL.o);unfold dO at hpat HPT;obtain⟨s0,s1,s2,s3,s4,s5,s6⟩:=hpat;simp only[Hy] at s0 s1 s2 s3 s4 s5 s6;have HNX:=aa (HQ.o.1.go _ _ (Nx.hit ai t HGR.o (by rw[HCD.o];exact HZ.o)));rw[<-HT2.o] at HNX;go_wp2;refine Hn (v:=.tuple #[aY (bE (some t2)),.bool true]) (by simp[results,Tryz.results164,go_sem,s0,s1,s2,s3,s4,s5,s6,aY,bE]) rfl ⟨some t2,rfl,_,HNX.o,HPT.o⟩
theorem oI{o:Int}{N:Nat}{bt:Ft}(h0:0<N)(h3:N<=3):bt.a*aU o N N 0+bt.b*aU o N N 1+bt.d*aU o N N 2=a8 o (aJ N bt):=by
 have hN:N=1\/N=2\/N=3:=by omega
 rcases hN with rfl|rfl|rfl<;>simp[aJ,a8,aU,iY]
theorem BT(ob:Nat)(p o ov:Int)(N R:Nat)(sv x:Value)(v:List (List Tm))(w:World)(hx:bj p o ov N R)(hoc:iK w ob p o ov N R sv)(hl:v.length=R)(hr:∀f∈v,cN p o N f)(hv:Vl w x v):Calls prog 59 #[.pointer (some ⟨ob,0,none⟩),.int .i64 0,x] w λe w'=>∃u,e=.returned u/\∃fs,Fv w' u fs/\mP p o ov N R 200 v fs/\fs.Perm (eC o ov N v R)/\Below w.heap.size w w':=by
 have hp:=dU hx.pr;have hls:(jE ov R).length=R:=by simp[jE]
 have hR:=hx.r;refine(Gw ob p _ _ _ sv x (jE ov R) v N w hoc.ord hoc.sl (by omega) (by omega) (G6 hx.r) (gO o N 0) (gO o N 1) (gO o N 2) hx.n0 hx.n3 (λf hf=>⟨(hr f hf).len,λt ht=>⟨(hr f hf).canon.len t ht,λy hy=>?_,?_⟩⟩) hv).mono ?_
 ·have:=(hr f hf).bd t ht y hy;omega
 ·have:=(hr f hf).canon.coef t ht;omega
 ·rintro e w' ⟨u,fs,rfl,h1,h2,h3,h4,h5⟩;rw[hl,zm R (He _)] at h2;exact⟨u,rfl,fs,h1,GN hx (qq hr) hl h2 h3,h2,h4⟩
theorem BQ(p o ov:Int)(N R:Nat)(w:World)(hx:bj p o ov N R):Calls prog 58 #[az p N o ov,.int .i64 R,.int .i64 0] w λe w'=>∃ob,e=.returned (.pointer (some ⟨ob,0,none⟩))/\∃sv,iK w' ob p o ov N R sv/\Below w.heap.size w w':=by refine(Gy p o ov N R w (dU hx.pr) hx.o hx.ov hx.n3 (by have:=hx.r;omega)).mono ?_;rintro e w' ⟨ob,sv,rfl,h1,h2,h3⟩;exact⟨ob,rfl,sv,⟨h1,h2⟩,h3⟩
theorem aW.mono{B B':Nat}{w:World}{sb ob:Nat}{rw:Value}{us:List Value}{rows:List (List Ft)}(h:aW B' w sb ob rw us rows)(hb:B<=B'):aW B w sb ob rw us rows:=
 ⟨kS h.box hb,h.kind,⟨h.rws.len,kS h.rws.own hb,h.rws.kind,h.rws.fvs⟩⟩
theorem iC.mono{p:Int}{B B':Nat}{w:World}{v:Value}{ds:List De}(h:iC p B' w v ds)(hb:B<=B'):iC p B w v ds:=⟨kS h.own hb,h.fvs,h.apart⟩
end Go.Proofs.YtglijodcbdcngaaGreat
