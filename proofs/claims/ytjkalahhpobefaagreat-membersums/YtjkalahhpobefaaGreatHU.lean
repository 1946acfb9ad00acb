/- The orders, and the. -/
import Derived.Test.YtjkalahhpobefaaGreatTA
set_option maxHeartbeats 2000000
set_option maxRecDepth 100000
namespace Go.Proofs.YtjkalahhpobefaaGreat
set_option linter.all false
open Go.Proofs.Tryz Go.RowKit Go.Sort
def K0:Int:=68719476736
def K1:Int:=68719476480
theorem nT:am 1 2 2 0=K0/\am 1 2 2 1=K1/\am 1 2 2 2=0:=by decide+kernel
theorem G5(w:PJ):Calls prog 40 #[aI 7 2 1 1,PO 1,PO 0] w λe w'=>∃ob sv,e=.returned (PL ob)/\aQ w' ob 7 K0 K1 0 sv/\Sl w' sv [255]/\Io w w':=by refine(rC 7 1 1 2 1 0 w (by omega) (Pf rfl) (Pf rfl) (by omega) (by omega) (by omega)).mono ?_;rintro e w' ⟨ob,sv,rfl,h1,h2,h3⟩;rw[nT.1,nT.2.1,nT.2.2] at h1;exact⟨ob,sv,rfl,h1,h2,h3⟩
theorem AO:0<=K0/\K0<=137438953472:=by unfold K0;omega
theorem AP:0<=K1/\K1<=137438953472:=by unfold K1;omega
theorem AQ:(0:Int)<=0/\(0:Int)<=137438953472:=by omega
variable{A:Obj}{w W:PJ}
theorem rD(h:Io w W):Io w (W.alloc A):=h.alloc h.size A
theorem G6(h:Io w W):Io w W.drew:=h.drew
def pC:Ft:=⟨255,0,0,0,0,0,1⟩
def P3:Ft:=⟨68719476735,0,1,0,0,0,3⟩
def W3:Ft:=⟨-288230307432235009,0,1,0,0,0,3⟩
theorem G7(v:PK)(t:Ft)(w:PJ)(hv:Fv w v [t]):Calls prog 161 #[v] w λe w'=>∃g cap,e=.returned (PM g 1 cap)/\w'.ownsRow w.heap.size 88 7 (PM g 1 cap) 1 (aB t)/\Io w w':=by
 obtain⟨va,vc,rfl,_,hvc⟩:=hv;obtain⟨vb,voff,rfl,hlt,hcs⟩:=hvc (by simp);have HNW:Po (∀j u,(aB t)[j]?=some u->(w.alloc (.cells #[] 88)).cell? (((PN vb voff):Addr).add j)=some u):=λj u hj=>by
  have h:=af (hcs j u (by simpa [aA] using hj)) (ai (A:=.cells #[] 88));by_cases hj0:j=0
  .subst hj0;simpa [Addr.add] using h
  .simpa [Addr.add,hj0] using h
 have HO0:Po ((w.alloc (.cells #[] 88)).ownsRow w.heap.size 88 7 (PM w.heap.size 0 0) 0 []):=World.ownsRow_made w #[] 0 (Ou _) (by decide) (by simp);have hnil:=fun(w:PJ)(a:Option Addr)(n c:Nat)=>Lib.run_eql_slice_nil (P:=prog) w 79 88 a n c 0 0 underlying79;go_enter func161,ntmps161;go_wp2_with (at_builtin;refine AR rfl (.tmp 5) (.tmp 6) 79 rfl w.heap.size 88 _ 7 24 underlying79 Tryz.infoFt rfl (by decide) (PM w.heap.size 0 0) 0 [] rfl HO0.o (PN vb voff) 1 vc (aB t) rfl rfl HNW.o (lr t) (by unfold maxLen;omega) (by omega) (by simp) ?_;intro v5 w5 r1 r2;simp only[ON,List.nil_append] at r1;have HO5:=ae r1;have HB5:=ae (show Io w w5 from eS HO0.o ai r2 (Ou _));obtain⟨g,cap,hv5,_,_,_⟩:=mu r1 (by simp[aB]);subst hv5;clear r1 r2);go_ret;exact⟨g,cap,rfl,HO5.o,HB5.o⟩
theorem G8{B g cap:Nat}{T:TypeId}{xs:PH}(h:w.ownsRow B T 7 (PM g 1 cap) 1 xs):1<=cap/\B<=g:=by obtain⟨g2,cap2,e,h1,_,h2⟩:=mu h (by have:=h.1;omega);simp only[OQ,OP,Addr.mk.injEq,and_true,true_and] at e;obtain⟨rfl,rfl⟩:=e;exact⟨h2,h1⟩
theorem G9(ob:Nat)(sv v:PK)(w:PJ)(hob:aQ w ob 7 K0 K1 0 sv)(hsl:Sl w sv [255])(hv:Fv w v [W3]):Calls prog 134 #[PL ob,v] w λe w'=>∃g cap,e=.returned (PM g 1 cap)/\Fv w' (PM g 1 cap) [P3]/\Io w w':=by
 have HCL:=ae (G7 v W3 w hv);have HUN:Po (∀W,Io w W->Calls prog 114 #[PL ob,PO 0] W λe w'=>e=.returned (aX pC)/\Io W w'):=λW hb=>by have h:=vt ob 0 7 K0 K1 0 sv [255] W (hob.below hb) (hsl.below hb) (by simp) (by omega);exact h
 have HKT:Po (∀W,Io w W->Calls prog 162 #[PL ob,aX pC,cw 0 1 0 0] W λe w'=>e=.returned (PO 68719476735)/\Io W w'):=λW hb=>by
  have h:=AS ob 7 K0 K1 0 sv pC 0 1 0 0 W (hob.below hb) (by simp[pC]) (by omega) (by omega) (by omega) AO AP AQ;have e:pC.k+(0*K0+1*K1+0*0)=68719476735:=by rfl
  rw[e] at h;exact h
 have HSO:Po (∀W g cap,W.ownsRow w.heap.size 88 7 (PM g 1 cap) 1 (aB P3)->1<=cap->w.heap.size<=W.heap.size->Calls prog 120 #[PM g 1 cap] W λe w'=>e=.returned (.tuple #[])/\Fv w' (PM g 1 cap) [P3]/\Below w.heap.size W w'):=λW g cap h1 h2 h3=>by
  have e:aA [P3]=aB P3:=by simp[aA]
  refine(Ha w.heap.size g cap [P3] W (by rw[e];exact h1) h2 (by simp) h3).mono ?_;rintro e w' ⟨rfl,fs,q1,_,q3,q4⟩;have:=List.perm_singleton.1 q1;subst this;exact⟨rfl,q3,q4⟩
 obtain⟨va,vc,rfl,_,_⟩:=hv;unfold aX at HUN HKT;unfold cw at HKT;clear hob hsl;go_enter func134,ntmps134;go_wp2_with (go_at_call 161;refine HCL.o.mono ?_;rintro e w1 ⟨g,cap,rfl,q1,q2⟩;have HO1:=ae q1;have HB1:=ae q2;have HCP:Po (1<=cap/\w.heap.size<=g):=G8 q1;clear q1 q2);refine wp_loop_rounds 2 ?_;rw[rounds_succ];have hc:∀j u,(aB W3)[j]?=some u->w1.cell? (PN g j)=some u:=λj u hj=>by
  have hl:j<7:=by apply OU;intro h;rw[OJ (by simpa [aB] using h)] at hj;simp at hj
  rw[Oq HO1.o j (by omega)];exact hj
 have d0:=hc 0 _ rfl;have d1:=hc 1 _ rfl;have d2:=hc 2 _ rfl;have d3:=hc 3 _ rfl;have d4:=hc 4 _ rfl;have d5:=hc 5 _ rfl;have d6:=hc 6 _ rfl;simp only[W3] at d0 d1 d2 d3 d4 d5 d6;clear hc;go_upto_region 5 with fail;obtain⟨w2,hw2⟩:∃w2,w2=w1.alloc (.cells #[PO (-288230307432235009),PP 0,PP 1,PP 0,PP 0,PQ 0,PQ 3] 88):=⟨_,rfl⟩;have HB2:Po (Io w1 w2):=by rw[hw2];exact ai
 have FX:Po (cu w2 w1.heap.size 0 W3):=by rw[hw2];exact(show Bx w1.heap.size _ w1.heap.size W3 from dr (Ou _) W3).at
 have HBW2:Po (Io w w2):=In HB1.o HB2.o;have HO2:Po (∀W,Io w2 W->W.ownsRow w.heap.size 88 7 (PM g 1 cap) 1 (aB W3)):=λW hb=>aF (aF HO1.o HB2.o) hb;have KB:Po (∀W,Io w2 W->(W.cell? (PN w1.heap.size 1)=some (PP 0)/\W.cell? (PN w1.heap.size 2)=some (PP 1)/\W.cell? (PN w1.heap.size 3)=some (PP 0)/\W.cell? (PN w1.heap.size 4)=some (PP 0)/\W.cell? (PN w1.heap.size 5)=some (PQ 0))):=λW hb=>by obtain⟨_,x1,x2,x3,x4,x5,_⟩:=FX.o.keep hb;exact⟨by simpa [W3] using x1,by simpa [W3] using x2,by simpa [W3] using x3,by simpa [W3] using x4,by simpa [W3] using x5⟩
 obtain⟨x1,x2,x3,x4,x5⟩:=KB.o w2 (Ov _ _);rw[<-hw2];clear hw2 d0 d1 d2 d3 d4 d5 d6;go_region_law (first|(go_simp;refine(HUN.o _ ?_).mono ?_;(focus (exact HBW2.o.drew));rintro e w8 ⟨rfl,q1⟩;have HB8:=ae ((Ov w2.heap.size w2).drew.trans q1);clear q1;obtain⟨y1,y2,y3,y4,y5⟩:=KB.o w8 HB8.o;dsimp only)|(go_simp;refine(HKT.o _ ?_).mono ?_;(focus (exact In HBW2.o HB8.o));rintro e w9 ⟨rfl,q1⟩;have HB9:=ae (In HB8.o q1);clear q1;obtain⟨y1,y2,y3,y4,y5⟩:=KB.o w9 HB9.o;have s1:=Oq (HO2.o w9 HB9.o) 0 (by omega);have s2:=Oo (HO2.o w9 HB9.o) 0;simp only[aB,List.getElem?_cons_zero] at s1;dsimp only));all_goals
  have s9:=OF (HO2.o w9 HB9.o) 0 (PO 68719476735);have HO9:Po ((w9.setCell (PN g 0) (PO 68719476735)).ownsRow w.heap.size 88 7 (PM g 1 cap) 1 (aB P3)):=s9.1;have HBW9:Po (Io w (w9.setCell (PN g 0) (PO 68719476735))):=(In HBW2.o HB9.o).setCell HCP.o.2 _;generalize w9.setCell (PN g 0) (PO 68719476735)=w10 at HO9 HBW9⊢;have HSO10:=ae (HSO.o w10 g cap HO9.o HCP.o.1 HBW9.o.size);go_wp2_with fail;rw[rounds_succ];go_wp2_with (go_at_call 120;refine HSO10.o.mono ?_;rintro e w11 ⟨rfl,q1,q2⟩;have HF11:=ae q1;have HB11:=ae (HBW9.o.trans q2);clear q1 q2);go_ret;exact⟨g,cap,rfl,HF11.o,HB11.o⟩
theorem Hb:cR 7 2 1 1 1 [[[(1,[1,0])]]]=0:=by decide+kernel
theorem Hc:i7 7 2 1 1 [[(3,[0,1])]]=0:=by decide+kernel
theorem AT:cr 7 1 (1:Int).toNat [[(3,[0,1])]] [[[(1,[1,0])]]] 1=[[(3,[1,1])]]:=by decide+kernel
theorem Hd:jW 7 1 [(3,[0,1])] [(1,[1,0])]=false:=by decide+kernel
theorem He:([[((3:Int),[(1:Int),1])]]).any bF=false:=by decide+kernel
theorem AU:eY 7 2 1 1 1 [[(3,[0,1])]] [[[(1,[1,0])]]]=0:=by
 unfold eY;rw[OV (by rw[Hb];simp),OV (by simp),OV (by rw[Hc];simp),OV];rintro (⟨i,hi,k,hk,h⟩|h)
 .have hi0:i=0:=by simp at hi;omega
  have hk0:k=0:=by omega
  subst hi0 hk0;have e:jW 7 1 ([[((3:Int),[(0:Int),1])]].getD 0 []) (([[[((1:Int),[(1:Int),0])]]].getD 0 []).getD 0 [])=false:=Hd;rw[e] at h;simp at h
 .have e:cr 7 1 (1:Int).toNat [[((3:Int),[(0:Int),1])]] [[[((1:Int),[(1:Int),0])]]] [[[((1:Int),[(1:Int),0])]]].length=[[(3,[1,1])]]:=AT;rw[e,He] at h;simp at h
theorem Hf:jX 7 2 1 1 1 [[(3,[0,1])]] [[[(1,[1,0])]]]=[[(3,[1,1])]]:=by unfold jX;rw[OW AU];exact AT
structure iL(W:PJ)(sb ob:Nat)(sv lv:PK):Prop where
 r0:W.cell? (PN sb 0)=some (PO 7)
 r1:W.cell? (PN sb 1)=some (PO 2)
 r2:W.cell? (PN sb 2)=some (PO 1)
 r3:W.cell? (PN sb 3)=some (PO 1)
 rk:W.cell? (PN sb 4)=some (PO 1)
 ls:W.cell? (PN sb 5)=some lv
 od:W.cell? (PN sb 6)=some (PL ob)
 ord:aQ W ob 7 K0 K1 0 sv
 sl:Sl W sv [255]
 lvs:LV W lv [(1,[1,0])]
variable{sv lv:PK}{sb ob:Nat}{W':PJ}
theorem iL.below(h:iL W sb ob sv lv)(hb:Io W W'):iL W' sb ob sv lv:=
 ⟨af h.r0 hb,af h.r1 hb,af h.r2 hb,af h.r3 hb,af h.rk hb,af h.ls hb,af h.od hb,h.ord.below hb,h.sl.below hb,h.lvs.below hb⟩
variable{d e:PK}
theorem AV{a b c:PK}{T:TypeId}(h1:aQ W ob 7 K0 K1 0 sv)(h2:Sl W sv [255])(h3:LV W lv [(1,[1,0])]):iL (W.alloc (.cells #[PO 7,PO 2,PO 1,PO 1,PO 1,lv,PL ob,a,b,c,d,e] T)) W.heap.size ob sv lv:=by have hc:∀j,(W.alloc (.cells #[PO 7,PO 2,PO 1,PO 1,PO 1,lv,PL ob,a,b,c,d,e] T)).cell? (PN W.heap.size j)=(#[PO 7,PO 2,PO 1,PO 1,PO 1,lv,PL ob,a,b,c,d,e]:Array PK)[j]?:=λj=>cell_of_row _ W.heap.size j _ T (0,0) (heap_alloc_new W _);exact⟨by rw[hc];rfl,by rw[hc];rfl,by rw[hc];rfl,by rw[hc];rfl,by rw[hc];rfl,by rw[hc];rfl,by rw[hc];rfl,h1.below ai,h2.below ai,h3.below ai⟩
theorem Hh{a b c:PK}{T:TypeId}(h1:aQ W ob 7 K0 K1 0 sv)(h2:Sl W sv [255])(h3:LV W lv [(1,[1,0])]):iL ((W.alloc A).alloc (.cells #[PO 7,PO 2,PO 1,PO 1,PO 1,lv,PL ob,a,b,c,d,e] T)) (W.heap.size+1) ob sv lv:=by
 have h:=AV (W:=W.alloc A) (a:=a) (b:=b) (c:=c) (d:=d) (e:=e) (T:=T) (h1.below ai) (h2.below ai) (h3.below ai);have e:(W.alloc A).heap.size=W.heap.size+1:=by simp
 rw[e] at h;exact h
theorem Hi(lv:PK)(w:PJ)(hl:LV w lv [(1,[1,0])]):Calls prog 73 #[aI 7 2 1 1,PO 1,lv,.slice none 0 0] w λe w'=>∃sb ob sv,e=.returned (PL sb)/\iL w' sb ob sv lv/\Io w w':=by
 obtain⟨w1,hw1⟩:∃w1,w1=w.alloc (.cells #[PO 7,PO 2,PO 1,PO 1] 23):=⟨_,rfl⟩;have HB1:Po (Io w w1):=by rw[hw1];exact ai
 obtain⟨k0,k1,k2,k3⟩:w1.cell? (PN w.heap.size 0)=some (PO 7)/\w1.cell? (PN w.heap.size 1)=some (PO 2)/\w1.cell? (PN w.heap.size 2)=some (PO 1)/\w1.cell? (PN w.heap.size 3)=some (PO 1):=by rw[hw1];exact AW w 7 2 1 1 _
 have HO:Po (∀W,Io w1 W->Calls prog 40 #[aI 7 2 1 1,PO 1,PO 0] W λe w'=>∃ob sv,e=.returned (PL ob)/\aQ w' ob 7 K0 K1 0 sv/\Sl w' sv [255]/\LV w' lv [(1,[1,0])]/\Io w1 w'):=λW hb=>by refine(G5 W).mono ?_;rintro e w' ⟨ob,sv,rfl,h1,h2,h3⟩;exact⟨ob,sv,rfl,h1,h2,((hl.below HB1.o).below hb).below h3,In hb h3⟩
 obtain⟨lb,vb,pv,rfl,_⟩:=hl;have hwl:w.heap.size<w1.heap.size:=OG w1 (PN w.heap.size 0) k0;unfold aI at HO⊢;go_enter func73,ntmps73;go_upto_region 1 with fail;rw[<-hw1];clear hw1;go_region_law (first|(go_simp;refine(HO.o _ ?_).mono ?_;(focus ((repeat (first|with_reducible exact Ov _ _|with_reducible refine G6 ?_|with_reducible refine rD ?_));done));rintro e w8 ⟨ob,sv,rfl,q1,q2,q3,q4⟩;have HO8:=ae q1;have HS8:=ae q2;have HL8:=ae q3;have HB8:=ae q4;have g0:=af k0 q4;have g1:=af k1 q4;have g2:=af k2 q4;have g3:=af k3 q4;have hl8:w.heap.size<w8.heap.size:=Oz hwl q4.size;clear q1 q2 q3 q4;dsimp only));all_goals
  go_wp2;go_ret;first
  |exact⟨w8.heap.size+1,ob,sv,by rfl,Hh HO8.o HS8.o HL8.o,In HB1.o (rD (rD HB8.o))⟩
  |exact⟨w8.heap.size,ob,sv,by rfl,AV HO8.o HS8.o HL8.o,In HB1.o (rD HB8.o)⟩
theorem Hj(sb ob:Nat)(sv lv v:PK)(w:PJ)(hs:iL w sb ob sv lv)(hv:Fv w v [W3]):Calls prog 107 #[PL sb,v] w λe w'=>∃g,e=.returned (PM g 1 1)/\w.heap.size<=g/\Vl w' (PM g 1 1) [[(3,[0,1])]]/\Io w w':=by
 have KEEP:Po (∀W,Io w W->(W.cell? (PN sb 1)=some (PO 2)/\W.cell? (PN sb 5)=some lv/\W.cell? (PN sb 6)=some (PL ob))):=λW hb=>⟨af hs.r1 hb,af hs.ls hb,af hs.od hb⟩;have HOW:Po (∀W,Io w W->Calls prog 134 #[PL ob,v] W λe w'=>∃g cap,e=.returned (PM g 1 cap)/\Fv w' (PM g 1 cap) [P3]/\Io w w'):=λW hb=>by refine(G9 ob sv v W (hs.ord.below hb) (hs.sl.below hb) (hv.below hb)).mono ?_;rintro e w' ⟨g,cap,rfl,q1,q2⟩;exact⟨g,cap,rfl,q1,In hb q2⟩
 have HFU:Po (∀W x,Io w W->Fv W x [P3]->Calls prog 135 #[x,PO 2,PO 0,PO 1] W λe w'=>∃g,e=.returned (PM g 1 1)/\w.heap.size<=g/\Vl w' (PM g 1 1) [[(3,[0,1])]]/\Io w w'):=λW x hb hx=>by refine(GS P3 [] x W hx (by simp[P3]) (by simp[P3]) (by simp[P3]) rfl (λu hu=>by simp at hu) (by simp)).mono ?_;rintro e w' ⟨g,rfl,q1,q2,q3⟩;exact⟨g,rfl,OA hb.size q1,q2,In hb q3⟩
 obtain⟨lb,vb,pv,hlv,_⟩:=hs.lvs;subst hlv;obtain⟨va,vc,rfl,_,_⟩:=hv;have HB0:Po (Io w w.drew):=(Ov _ _).drew;clear hs;go_enter func107,ntmps107;go_wp2_with fail;go_region_held (λW=>W.cell? (PN sb 1)=some (PO 2)/\W.cell? (PN sb 5)=some (PM lb 1 1)/\W.cell? (PN sb 6)=some (PL ob))
  (first|with_reducible exact KEEP.o _ HB0.o|with_reducible exact KEEP.o _ HB3.o|with_reducible exact KEEP.o _ HB4.o)
  (first|(go_at_call 134;refine(HOW.o _ HB0.o).mono ?_;rintro e w3 ⟨g3,c3,rfl,q1,q2⟩;have HB3:=ae q2;have HFU3:=ae (HFU.o w3 _ q2 q1);clear q1 q2)|(go_at_call 135;refine HFU3.o.mono ?_;rintro e w4 ⟨g4,rfl,q1,q2,q3⟩;have HB4:=ae q3;have HV4:=ae q2;have HG4:=ae q1;clear q1 q2 q3))
 all_goals
  go_wp2;go_ret;exact⟨g4,rfl,HG4.o,HV4.o,HB4.o⟩
theorem Hk(sb ob:Nat)(sv lv x y:PK)(w:PJ)(hs:iL w sb ob sv lv)(hx:Vl w x [[(3,[0,1])]])(hy:Vl w y [[(3,[1,1])]]):Calls prog 108 #[PL sb,x,y] w λe w'=>e=.returned (.bool true)/\Io w w':=by
 have KEEP:Po (∀W,Io w W->(W.cell? (PN sb 0)=some (PO 7)/\W.cell? (PN sb 1)=some (PO 2)/\W.cell? (PN sb 2)=some (PO 1)/\W.cell? (PN sb 3)=some (PO 1)/\W.cell? (PN sb 4)=some (PO 1)/\W.cell? (PN sb 5)=some lv)):=λW hb=>⟨af hs.r0 hb,af hs.r1 hb,af hs.r2 hb,af hs.r3 hb,af hs.rk hb,af hs.ls hb⟩;have HCO:Po (∀W,Io w W->Calls prog 10 #[aI 7 2 1 1,PO 1,x,lv] W λe w'=>∃u,e=.returned (.tuple #[u,PO 0])/\Vl w' u [[(3,[1,1])]]/\Io w w'):=λW hb=>by refine(AX 7 2 1 1 1 x lv [[(3,[0,1])]] [[[(1,[1,0])]]] W (hx.below hb) (hs.lvs.below hb).wl).mono ?_;rintro e w' ⟨u,rfl,q1,q2⟩;rw[Hf] at q1;rw[AU];exact⟨u,rfl,q1,In hb q2⟩
 have HEQ:Po (∀W u,Io w W->Vl W u [[(3,[1,1])]]->Calls prog 136 #[u,y,.func (.func 137) #[] #[]] W λe w'=>e=.returned (.bool true)/\Io W w'):=λW u hb hu=>Hl u y [[(3,[1,1])]] W (by simp) (λf hf=>by simp at hf;subst hf;exact⟨by simp,λt ht=>by simp at ht;subst ht;simp⟩) hu (hy.below hb);obtain⟨lb,vb,pv,hlv,_⟩:=hs.lvs;subst hlv;obtain⟨xa,xc,rfl,_⟩:=hx;obtain⟨ya,yc,rfl,_⟩:=hy;have HB0:Po (Io w w.drew):=(Ov _ _).drew;unfold aI at HCO;clear hs;go_enter func108,ntmps108;go_wp2_with fail;go_region_held (λW=>W.cell? (PN sb 0)=some (PO 7)/\W.cell? (PN sb 1)=some (PO 2)/\W.cell? (PN sb 2)=some (PO 1)/\W.cell? (PN sb 3)=some (PO 1)/\W.cell? (PN sb 4)=some (PO 1)/\W.cell? (PN sb 5)=some (PM lb 1 1))
  (first|with_reducible exact KEEP.o _ HB0.o|with_reducible exact KEEP.o _ HB3.o)
  (first|(go_at_call 10;refine(HCO.o _ HB0.o).mono ?_;rintro e w3 ⟨u3,rfl,q1,q2⟩;have HB3:=ae q2;have HEQ3:=ae (HEQ.o w3 u3 q2 q1);obtain⟨ua,uc,hu,_⟩:=q1;subst hu;clear q2))
 all_goals
  go_wp2_with (go_at_call 136;refine HEQ3.o.mono ?_;rintro e w4 ⟨rfl,q1⟩;have HB4:=ae (In HB3.o q1);clear q1);go_ret;exact⟨rfl,HB4.o⟩
def nU(W W':PJ):Prop:=W.heap.size<=W'.heap.size/\∀a u,W.cell? a=some u->u≠.slice none 0 0->W'.cell? a=some u
theorem Hn{ab j:Nat}{x:PK}(h:W.cell? (PN ab j)=some (.slice none 0 0)):nU W (W.setCell (PN ab j) x):=by
 refine⟨by simp[World.setCell],λa u ha hu=>?_⟩;rw[World.cell?_setCell_other]
 .exact ha
 .intro e;rw[<-e,h] at ha;exact hu (by simpa using ha.symm)
variable{v:PK}
theorem AY(hq:nU W W'){xs:PI}(h:Sl W v xs):Sl W' v xs:=by obtain⟨a,c,rfl,h1⟩:=h;refine⟨a,c,rfl,λhp=>?_⟩;obtain⟨b,off,rfl,hlt,hi⟩:=h1 hp;exact⟨b,off,rfl,Oz hlt hq.1,λi hi2=>hq.2 _ _ (hi i hi2) (by simp)⟩
variable{c a b:Int}
theorem AZ(hq:nU W W')(h:Pl W v [(c,[a,b])]):Pl W' v [(c,[a,b])]:=by
 obtain⟨pa,pc,rfl,hc,h1⟩:=h;refine⟨pa,pc,rfl,hc,λhp=>?_⟩;obtain⟨pb,off,rfl,hlt,hat⟩:=h1 hp;refine⟨pb,off,rfl,Oz hlt hq.1,λi hi=>?_⟩;have e0:i=0:=by simp at hi;omega
 subst e0;obtain⟨t0,ev,t1,hs⟩:=hat 0 (by simp);refine⟨hq.2 _ _ t0 (by simp),ev,hq.2 _ _ t1 ?_,AY hq hs⟩;obtain⟨ea,ec,rfl,_⟩:=hs;simp
theorem rE(hq:nU W W')(h:Vl W v [[(c,[a,b])]]):Vl W' v [[(c,[a,b])]]:=by
 obtain⟨pa,pc,rfl,h1⟩:=h;refine⟨pa,pc,rfl,λhp=>?_⟩;obtain⟨pb,off,rfl,hlt,hat⟩:=h1 hp;refine⟨pb,off,rfl,Oz hlt hq.1,λi hi=>?_⟩;have e0:i=0:=by simp at hi;omega
 subst e0;obtain⟨pv,t0,hs⟩:=hat 0 (by simp);refine⟨pv,hq.2 _ _ t0 ?_,AZ hq hs⟩;obtain⟨ea,ec,rfl,_⟩:=hs;simp
theorem Ho(hq:nU W W')(h:LV W lv [(c,[a,b])]):LV W' lv [(c,[a,b])]:=by obtain⟨lb,vb,pv,rfl,h1,h2,h3⟩:=h;refine⟨lb,vb,pv,rfl,hq.2 _ _ h1 (by simp),hq.2 _ _ h2 ?_,AZ hq h3⟩;obtain⟨ea,ec,rfl,_⟩:=h3;simp
theorem Hp(hq:nU W W')(h:iL W sb ob sv lv):iL W' sb ob sv lv:=by
 have hl:lv≠.slice none 0 0:=by obtain⟨lb,vb,pv,rfl,_⟩:=h.lvs;simp
 have hs:sv≠.slice none 0 0:=by obtain⟨a,c,rfl,h1⟩:=h.sl;simp
 exact⟨hq.2 _ _ h.r0 (by simp),hq.2 _ _ h.r1 (by simp),hq.2 _ _ h.r2 (by simp),hq.2 _ _ h.r3 (by simp),hq.2 _ _ h.rk (by simp),hq.2 _ _ h.ls hl,hq.2 _ _ h.od (by simp),⟨Oz h.ord.lt hq.1,hq.2 _ _ h.ord.c0 (by simp),hq.2 _ _ h.ord.c1 (by simp),hq.2 _ _ h.ord.c2 (by simp),hq.2 _ _ h.ord.c3 (by simp),hq.2 _ _ h.ord.c4 hs⟩,AY hq h.sl,Ho hq h.lvs⟩
theorem Hq(B sb ob ab ac wb wc:Nat)(sv lv xv wv:PK)(w:PJ)(hs:iL w sb ob sv lv)(ha:w.ownsRow B 110 2 (PM ab 1 ac) 1 [xv,.slice none 0 0])(hB:B<=w.heap.size)(hx:Vl w xv [[(3,[1,1])]])(hw:w.cell? (PN wb 0)=some wv)(hwf:Fv w wv [W3]):Calls prog 75 #[PL sb,PM ab 1 ac,PM wb 1 wc] w λe w'=>e=.returned (.tuple #[])/\∃g1,w'.ownsRow B 110 2 (PM ab 1 ac) 1 [xv,PM g1 1 1]/\Vl w' (PM g1 1 1) [[(3,[0,1])]]/\Vl w' xv [[(3,[1,1])]]/\Below B w w':=by
 have HPO:=ae (Hj sb ob sv lv wv w hs hwf);have HFIN:Po (∀W (g:Nat),Io w W->Vl W (PM g 1 1) [[(3,[0,1])]]->W.cell? (PN ab 1)=some (.slice none 0 0)/\W.frozen? (PN ab 1)=false/\(W.setCell (PN ab 1) (PM g 1 1)).ownsRow B 110 2 (PM ab 1 ac) 1 [xv,PM g 1 1]/\Vl (W.setCell (PN ab 1) (PM g 1 1)) xv [[(3,[1,1])]]/\(Below B w (W.setCell (PN ab 1) (PM g 1 1))/\Vl (W.setCell (PN ab 1) (PM g 1 1)) (PM g 1 1) [[(3,[0,1])]])/\Calls prog 108 #[PL sb,PM g 1 1,xv] (W.setCell (PN ab 1) (PM g 1 1)).drew λe w'=>e=.returned (.bool true)/\Below (W.setCell (PN ab 1) (PM g 1 1)).heap.size (W.setCell (PN ab 1) (PM g 1 1)) w'):=λW g hb hv=>by have ho:=aF ha hb;have c1:W.cell? (PN ab 1)=some (.slice none 0 0):=Oq ho 1 (by omega);have hq:=Hn (x:=PM g 1 1) c1;have hst:=ho.stored 1 (PM g 1 1);have hab:=(Ot ha ab rfl).1;refine⟨c1,Oo ho 1,hst.1,rE hq (hx.below hb),⟨(hb.mono hB).trans ((Ov _ _).setCell hab _),rE hq hv⟩,?_⟩;refine(Hk sb ob sv lv _ xv _ ((Hp hq (hs.below hb)).below (Ov _ _).drew) ((rE hq hv).below (Ov _ _).drew) ((rE hq (hx.below hb)).below (Ov _ _).drew)).mono ?_;rintro e w' ⟨rfl,q⟩;exact⟨rfl,(Ov _ _).drew.trans q⟩
 obtain⟨xa,xc,rfl,_⟩:=hx;obtain⟨wa,wcc,rfl,_,_⟩:=hwf;clear hs ha;go_enter func75,ntmps75;go_wp2_with fail;refine wp_loop_rounds 2 ?_;rw[rounds_succ];go_upto_region 5 with (go_at_call 107;refine HPO.o.mono ?_;rintro e w2 ⟨g2,rfl,q1,q2,q3⟩;have HF2:=ae (HFIN.o w2 g2 q3 q2);have s1:=HF2.o.1;have s2:=HF2.o.2.1;clear q1 q2 q3);obtain⟨w3,hw3⟩:∃w3,w3=w2.setCell (PN ab 1) (PM g2 1 1):=⟨_,rfl⟩;rw[<-hw3] at HF2;rw[<-hw3];clear hw3 s1 s2 HFIN HPO;have HO3:=ae HF2.o.2.2.1;have HMK:=ae HF2.o.2.2.2.2.2;have HK:Po (∀W,Io w3 W->(W.cell? (PN ab 0)=some (.slice xa 1 xc)/\W.cell? (PN ab 1)=some (PM g2 1 1))):=λW hb=>by have ho:=aF HO3.o hb;exact⟨Oq ho 0 (by omega),Oq ho 1 (by omega)⟩
 refine wp_region_held_drew (S:=λW=>W.cell? (PN ab 0)=some (.slice xa 1 xc)/\W.cell? (PN ab 1)=some (PM g2 1 1)) (by kernel_rfl) ?_ (λhHeld=>?_)
 .exact HK.o _ (Ov _ _).drew
 refine eT (i:=0) (d:=some 23) (v:=?_) rfl rfl (by kernel_rfl) (by kernel_rfl) (by kernel_rfl) (λ_ _ _ h=>h) (Pf ⟨by rfl,?_⟩) (by assumption) ?_
 rotate_left
 ·(intro w hSw;obtain⟨hs0,hs1⟩:=hSw;(try dsimp only at hs0 hs1);go_simp<;>with_reducible rfl)
 simp only[Act.put,List.setIfInBounds_toArray,List.set_cons_zero,List.set_cons_succ];refine eT (i:=1) (d:=some 24) (v:=?_) rfl rfl (by kernel_rfl) (by kernel_rfl) (by kernel_rfl) (λ_ _ _ h=>h) (Pf ⟨by rfl,?_⟩) (by assumption) ?_
 rotate_left
 ·(intro w hSw;obtain⟨hs0,hs1⟩:=hSw;(try dsimp only at hs0 hs1);go_simp<;>with_reducible rfl)
 simp only[Act.put,List.setIfInBounds_toArray,List.set_cons_zero,List.set_cons_succ];refine eT (i:=2) (d:=some 25) (v:=?_) rfl rfl (by kernel_rfl) (by kernel_rfl) (by kernel_rfl) (λ_ _ _ h=>h) (Pf ⟨by rfl,?_⟩) (by assumption) ?_
 rotate_left
 ·(intro w hSw;obtain⟨hs0,hs1⟩:=hSw;(try dsimp only at hs0 hs1);go_simp<;>with_reducible rfl)
 simp only[Act.put,List.setIfInBounds_toArray,List.set_cons_zero,List.set_cons_succ];refine eT (i:=3) (d:=some 26) (v:=?_) rfl rfl (by kernel_rfl) (by kernel_rfl) (by kernel_rfl) (λ_ _ _ h=>h) (Pf ⟨by rfl,?_⟩) (by assumption) ?_
 rotate_left
 ·(intro w hSw;obtain⟨hs0,hs1⟩:=hSw;(try dsimp only at hs0 hs1);go_simp<;>with_reducible rfl)
 simp only[Act.put,List.setIfInBounds_toArray,List.set_cons_zero,List.set_cons_succ];refine eT (i:=4) (d:=some 27) (v:=?_) rfl rfl (by kernel_rfl) (by kernel_rfl) (by kernel_rfl) (λ_ _ _ h=>h) (Pf ⟨by rfl,?_⟩) (by assumption) ?_
 rotate_left
 ·(intro w hSw;obtain⟨hs0,hs1⟩:=hSw;(try dsimp only at hs0 hs1);go_simp<;>with_reducible rfl)
 simp only[Act.put,List.setIfInBounds_toArray,List.set_cons_zero,List.set_cons_succ];refine eT (i:=5) (d:=some 28) (v:=?_) rfl rfl (by kernel_rfl) (by kernel_rfl) (by kernel_rfl) (λ_ _ _ h=>h) (Pf ⟨by rfl,?_⟩) (by assumption) ?_
 rotate_left
 ·(intro w hSw;obtain⟨hs0,hs1⟩:=hSw;(try dsimp only at hs0 hs1);go_simp<;>with_reducible rfl)
 simp only[Act.put,List.setIfInBounds_toArray,List.set_cons_zero,List.set_cons_succ];refine eT (i:=6) (d:=some 29) (v:=?_) rfl rfl (by kernel_rfl) (by kernel_rfl) (by kernel_rfl) (λ_ _ _ h=>h) (Pf ⟨by rfl,?_⟩) (by assumption) ?_
 rotate_left
 ·(intro w hSw;obtain⟨hs0,hs1⟩:=hSw;(try dsimp only at hs0 hs1);go_simp<;>with_reducible rfl)
 simp only[Act.put,List.setIfInBounds_toArray,List.set_cons_zero,List.set_cons_succ];refine eT (i:=7) (d:=some 30) (v:=?_) rfl rfl (by kernel_rfl) (by kernel_rfl) (by kernel_rfl) (λ_ _ _ h=>h) (Pf ⟨by rfl,?_⟩) (by assumption) ?_
 rotate_left
 ·(intro w hSw;obtain⟨hs0,hs1⟩:=hSw;(try dsimp only at hs0 hs1);go_simp<;>with_reducible rfl)
 simp only[Act.put,List.setIfInBounds_toArray,List.set_cons_zero,List.set_cons_succ];refine eT (i:=8) (d:=some 31) (v:=?_) rfl rfl (by kernel_rfl) (by kernel_rfl) (by kernel_rfl) (λ_ _ _ h=>h) (Pf ⟨by rfl,?_⟩) (by assumption) ?_
 rotate_left
 ·(intro w hSw;obtain⟨hs0,hs1⟩:=hSw;(try dsimp only at hs0 hs1);go_simp<;>with_reducible rfl)
 simp only[Act.put,List.setIfInBounds_toArray,List.set_cons_zero,List.set_cons_succ];refine eT (i:=9) (d:=some 32) (v:=?_) rfl rfl (by kernel_rfl) (by kernel_rfl) (by kernel_rfl) (λ_ _ _ h=>h) (Pf ⟨by rfl,?_⟩) (by assumption) ?_
 rotate_left
 ·(intro w hSw;obtain⟨hs0,hs1⟩:=hSw;(try dsimp only at hs0 hs1);go_simp<;>with_reducible rfl)
 simp only[Act.put,List.setIfInBounds_toArray,List.set_cons_zero,List.set_cons_succ];refine eT (i:=10) (d:=some 33) (v:=?_) rfl rfl (by kernel_rfl) (by kernel_rfl) (by kernel_rfl) (λ_ _ _ h=>h) (Pf ⟨by rfl,?_⟩) (by assumption) ?_
 rotate_left
 ·(intro w hSw;obtain⟨hs0,hs1⟩:=hSw;(try dsimp only at hs0 hs1);go_simp<;>with_reducible rfl)
 simp only[Act.put,List.setIfInBounds_toArray,List.set_cons_zero,List.set_cons_succ];refine wpAnyH_ready (rs:=[11]) (by kernel_rfl) (by simp) ?_;refine AllReadyH.cons rfl (λK hK=>?_) AllReadyH.nil;go_simp;refine HMK.o.mono ?_;rintro e w9 ⟨rfl,q9⟩;have HB9:=ae q9;clear q9;dsimp only;refine hK.out _ _ (HK.o w9 HB9.o) (λhHeld=>?_);clear hK K;try simp only[Act.put,List.setIfInBounds_toArray,List.set_cons_zero,List.set_cons_succ]
 refine eT (i:=12) (d:=some 35) (v:=?_) rfl rfl (by kernel_rfl) (by kernel_rfl) (by kernel_rfl) (λ_ _ _ h=>h) (Pf ⟨by rfl,?_⟩) (by assumption) ?_
 rotate_left
 ·(intro w hSw;obtain⟨hs0,hs1⟩:=hSw;(try dsimp only at hs0 hs1);go_simp<;>with_reducible rfl)
 simp only[Act.put,List.setIfInBounds_toArray,List.set_cons_zero,List.set_cons_succ];refine eT (i:=13) (d:=some 36) (v:=?_) rfl rfl (by kernel_rfl) (by kernel_rfl) (by kernel_rfl) (λ_ _ _ h=>h) (Pf ⟨by rfl,?_⟩) (by assumption) ?_
 rotate_left
 ·(intro w hSw;obtain⟨hs0,hs1⟩:=hSw;(try dsimp only at hs0 hs1);go_simp<;>with_reducible rfl)
 simp only[Act.put,List.setIfInBounds_toArray,List.set_cons_zero,List.set_cons_succ];refine eT (i:=14) (d:=some 37) (v:=undef) rfl rfl (by kernel_rfl) (by kernel_rfl) (by kernel_rfl) (λ_ _ _ h=>h) (Pg ⟨by rfl,rfl⟩) (by assumption) ?_;simp only[Act.put,List.setIfInBounds_toArray,List.set_cons_zero,List.set_cons_succ];refine eT (i:=15) (d:=some 38) (v:=undef) rfl rfl (by kernel_rfl) (by kernel_rfl) (by kernel_rfl) (λ_ _ _ h=>h) (Pg ⟨by rfl,rfl⟩) (by assumption) ?_;simp only[Act.put,List.setIfInBounds_toArray,List.set_cons_zero,List.set_cons_succ];refine eT (i:=16) (d:=some 39) (v:=undef) rfl rfl (by kernel_rfl) (by kernel_rfl) (by kernel_rfl) (λ_ _ _ h=>h) (Pg ⟨by rfl,rfl⟩) (by assumption) ?_;simp only[Act.put,List.setIfInBounds_toArray,List.set_cons_zero,List.set_cons_succ];refine eT (i:=17) (d:=some 40) (v:=undef) rfl rfl (by kernel_rfl) (by kernel_rfl) (by kernel_rfl) (λ_ _ _ h=>h) (Pg ⟨by rfl,rfl⟩) (by assumption) ?_;simp only[Act.put,List.setIfInBounds_toArray,List.set_cons_zero,List.set_cons_succ];refine eT (i:=18) (d:=some 41) (v:=undef) rfl rfl (by kernel_rfl) (by kernel_rfl) (by kernel_rfl) (λ_ _ _ h=>h) (Pg ⟨by rfl,rfl⟩) (by assumption) ?_;simp only[Act.put,List.setIfInBounds_toArray,List.set_cons_zero,List.set_cons_succ];refine eT (i:=19) (d:=some 42) (v:=undef) rfl rfl (by kernel_rfl) (by kernel_rfl) (by kernel_rfl) (λ_ _ _ h=>h) (Pg ⟨by rfl,rfl⟩) (by assumption) ?_;simp only[Act.put,List.setIfInBounds_toArray,List.set_cons_zero,List.set_cons_succ];refine eT (i:=20) (d:=some 43) (v:=undef) rfl rfl (by kernel_rfl) (by kernel_rfl) (by kernel_rfl) (λ_ _ _ h=>h) (Pg ⟨by rfl,rfl⟩) (by assumption) ?_;simp only[Act.put,List.setIfInBounds_toArray,List.set_cons_zero,List.set_cons_succ];refine eT (i:=21) (d:=some 44) (v:=?_) rfl rfl (by kernel_rfl) (by kernel_rfl) (by kernel_rfl) (λ_ _ _ h=>h) (Pf ⟨by rfl,?_⟩) (by assumption) ?_
 rotate_left
 ·(intro w hSw;obtain⟨hs0,hs1⟩:=hSw;(try dsimp only at hs0 hs1);go_simp<;>with_reducible rfl)
 simp only[Act.put,List.setIfInBounds_toArray,List.set_cons_zero,List.set_cons_succ];refine wpAnyH_done (by kernel_rfl) ?_ _;go_wp2_with fail;rw[rounds_succ];go_wp2;go_end0;exact⟨rfl,_,aF HO3.o HB9.o,HF2.o.2.2.2.2.1.2.below HB9.o,HF2.o.2.2.2.1.below HB9.o,HF2.o.2.2.2.2.1.1.trans (HB9.o.mono (OA hB HF2.o.2.2.2.2.1.1.size))⟩
end Go.Proofs.YtjkalahhpobefaaGreat
