/- poly.limited, degree, Add, Mul: by what checkAll tells. -/
import Derived.Test.YtjkalahhpobefaaGreatPL
import Derived.Lib.ItoaNum
import Derived.Lib.Join
set_option maxHeartbeats 2000000
set_option maxRecDepth 100000
namespace Go.Proofs.YtjkalahhpobefaaGreat
set_option linter.all false
open Go.Proofs.Tryz Go.RowKit
def vW(p n o v:Int)(chk:OG->Int):Prop:=
 (∀(fss:OG) (lv:OR) (w:OQ),fss.length<=1200000000000->Vl w lv fss->Calls prog 62 #[aI p n o v,lv] w λe w'=>e=.returned (OW (chk fss))/\LT w w')/\
 (∀fss,fss≠[]->chk fss=0->bJ p n o v=0/\∀f∈fss,de p n o f=0)/\
 (bJ p n o v=0->∀fss,(∀f∈fss,de p n o f=0)->chk fss=0)
theorem Mz(x:OR)(ts:Lt)(w:OQ)(h:2000<ts.length)(pf:Pl w x ts):Calls prog 63 #[x] w λe w'=>e=.returned (.tuple #[.slice none 0 0,OW 2])/\w'=w:=by obtain⟨a,c,rfl,_,_⟩:=pf;go_enter func63,ntmps63;go_wp2;go_ret2;exact⟨rfl,rfl⟩
theorem xi(x:OR)(ts:Lt)(w:OQ)(h:¬2000<ts.length)(pf:Pl w x ts):Calls prog 63 #[x] w λe w'=>e=.returned (.tuple #[x,OW 0])/\w'=w:=by obtain⟨a,c,rfl,_,_⟩:=pf;go_enter func63,ntmps63;go_wp2;go_ret2;exact⟨rfl,rfl⟩
theorem oA(x:OR)(t:Tm)(ts:Lt)(w:OQ)(h0:0<t.2.length)(h3:t.2.length<=3)(hb:∀x∈t.2,0<=x/\x<=40000)(pf:Pl w x (t::ts)):Calls prog 94 #[x] w λe w'=>e=.returned (OW (aj t.2))/\w'=w:=by
 obtain⟨b,off,cap,ev,rfl,hcap,hlt,c0,c1,hse,_,_⟩:=pf.head;have HB:=ae hb;obtain⟨a,c,rfl,hs⟩:=hse;obtain⟨eb,eoff,rfl,helt,hei⟩:=hs h0;have HEI:=ae hei;clear hb hei hs pf;have hle:(0:Int)<(ts.length:Int)+1:=by omega
 go_enter func94,ntmps94;go_wp2_with (go_at_call 92;refine(jf t.2 _ _ _ _ HB.o h3 HEI.o).mono ?_;rintro e w' ⟨rfl,rfl⟩);go_ret;exact⟨rfl,rfl⟩
variable{b c:Nat}{fs:Lt}{x:OR}{w:OQ}
theorem oB{y:OR}{gs:Lt}(hf:Pl w x fs)(hg:Pl w y gs)(hlt:b<w.heap.size)(c0:w.cell? (OV b 0)=some x)(c1:w.cell? (OV b 1)=some y):Vl w (OU b 2 c) [fs,gs]:=by
 refine⟨_,c,rfl,λ_=>⟨b,0,rfl,hlt,λi hi=>?_⟩⟩;simp only[Oh,List.length_nil] at hi;rcases i with _|_|i
 .exact⟨x,c0,hf⟩
 .exact⟨y,c1,hg⟩
 .omega
theorem Jx(hf:Pl w x fs)(hlt:b<w.heap.size)(c0:w.cell? (OV b 0)=some x):Vl w (OU b 1 c) [fs]:=by
 refine⟨_,c,rfl,λ_=>⟨b,0,rfl,hlt,λi hi=>?_⟩⟩;simp only[Oh,List.length_nil] at hi;rcases i with _|i
 .exact⟨x,c0,hf⟩
 .omega
variable{f:Lt}{p o:Int}
theorem sU{n v:Int}(hr:bJ p n o v=0)(h:de p n o f=0):fO p o n.toNat f/\0<n.toNat/\n.toNat<=3/\bo p=0/\(2<=p/\p<=101)/\(o=1\/o=2):=by
 obtain⟨h1,h2,h3,h4,_⟩:=kg hr;have e:n=(n.toNat:Int):=by omega
 rw[e] at h;exact⟨rN h,by omega,by omega,h1,dS h1,h4⟩
def iU(E:Int)(p o:Int)(f g:Lt):Int:=if E≠0 then E else if cC (bm p o (aH p f g)) then 2 else 0
def kH(E:Int)(p o:Int)(f g:Lt):Lt:=if iU E p o f g=0 then bm p o (aH p f g) else []
variable{g:Lt}{E:Int}
theorem DD(h:E≠0):iU E p o f g=E/\kH E p o f g=[]:=by
 have h1:iU E p o f g=E:=by unfold iU;rw[Oe h]
 exact⟨h1,by unfold kH;rw[h1,Oc h]⟩
theorem pW(h:E=0)(hg:cC (bm p o (aH p f g))=true):iU E p o f g=2/\kH E p o f g=[]:=by
 have h1:iU E p o f g=2:=by unfold iU;rw[Oc (by simpa using h),Oe hg]
 exact⟨h1,by unfold kH;rw[h1,Oc (by omega)]⟩
theorem pX(h:E=0)(hg:cC (bm p o (aH p f g))=false):iU E p o f g=0/\kH E p o f g=bm p o (aH p f g):=by
 have h1:iU E p o f g=0:=by unfold iU;rw[Oc (by simpa using h),Oc (by simp[hg])]
 exact⟨h1,by unfold kH;rw[h1,Oe rfl]⟩
theorem DE(p n o v:Int)(chk:OG->Int)(HC:vW p n o v chk)(x y:OR)(fs gs:Lt)(w:OQ)(pf:Pl w x fs)(pg:Pl w y gs):Calls prog 58 #[aI p n o v,x,y] w λe w'=>∃u,e=.returned (.tuple #[u,OW (iU (chk [fs,gs]) p o fs gs)])/\Pl w' u (kH (chk [fs,gs]) p o fs gs)/\LT w w':=by
 have HP:=ae pf;have HQ:=ae pg;have HT:=ae HC;obtain⟨a,c,rfl,_,_⟩:=pf;obtain⟨a2,c2,rfl,_,_⟩:=pg;clear HC;have HB2:OE (∀A B,LT w ((w.alloc A).alloc B)):=λA B=>dR;cases hE:(chk [fs,gs] !=0)
 .have hE0:chk [fs,gs]=0:=by simpa using hE
  obtain⟨hr,hall⟩:=HT.o.2.1 [fs,gs] (by simp) hE0;obtain⟨rf,hN0,hN3,hpr,hp,ho⟩:=sU hr (hall fs (by simp));obtain⟨rg,_⟩:=sU hr (hall gs (by simp));have HR:=ae (NN rf rg);have HPO:=ae (NN hp (NN ho hpr));have HE0:=ae hE0;clear hE0 hr hall rf rg hp ho hpr;by_cases hem:fs=[]\/gs=[]
  .have HEM:=ae hem;have hl0:¬(0<fs.length/\0<gs.length):=by
    rcases hem with h|h
    .rw[h];simp
    .rw[h];simp
   have hcn:bm p o (aH p fs gs)=[]:=My hem;have hgr:cC (bm p o (aH p fs gs))=false:=by rw[hcn];rfl
   rw[(pX HE0.o hgr).1,(pX HE0.o hgr).2];have hl:¬2000<(bm p o (aH p fs gs)).length:=by rw[hcn];simp
   clear hgr hcn hem;by_cases hf0:0<fs.length
   .have hg0:¬0<gs.length:=λh=>hl0 ⟨hf0,h⟩;go_enter func58,ntmps58;go_wp2_with fail;refine(HT.o.1 [fs,gs] _ _ (by simp) (oB (HP.o.below (HB2.o _ _)) (HQ.o.below (HB2.o _ _)) (by simp) (by simp[go_sem]) (by simp[go_sem]))).mono ?_;rintro e w1 ⟨rfl,hb1⟩;rw[HE0.o];have HB1:=ae ((HB2.o _ _).trans (hb1.mono (HB2.o _ _).size));have bx0:w1.cell? (OV w.heap.size 0)=some (OW p):=by rw[hb1.cell (p:=(OV w.heap.size 0)) (by simp;omega)];simp[go_sem]
    have bx1:w1.cell? (OV w.heap.size 1)=some (OW n):=by rw[hb1.cell (p:=(OV w.heap.size 1)) (by simp;omega)];simp[go_sem]
    have bx2:w1.cell? (OV w.heap.size 2)=some (OW o):=by rw[hb1.cell (p:=(OV w.heap.size 2)) (by simp;omega)];simp[go_sem]
    have bx3:w1.cell? (OV w.heap.size 3)=some (OW v):=by rw[hb1.cell (p:=(OV w.heap.size 3)) (by simp;omega)];simp[go_sem]
    clear hb1;go_wp2_with fail;refine(rW p n o v n.toNat _ _ fs gs _ HPO.o.2.2 HPO.o.2.1 hN0 hN3 HR.o.1.canon HR.o.2.canon HR.o.1.bd HR.o.2.bd HR.o.1.len HR.o.2.len (HP.o.below HB1.o) (HQ.o.below HB1.o)).mono ?_;rintro e w2 ⟨u9,rfl,hu,hb2⟩;have HU:=ae hu;have HB3:=ae (Io HB1.o hb2);obtain⟨ua,uc,rfl,_,_⟩:=hu;clear hb2 bx0 bx1 bx2 bx3;go_wp2_with fail;refine(xi _ _ _ hl HU.o).mono ?_;rintro e w3 ⟨rfl,rfl⟩;go_wp2;go_ret2;exact⟨_,rfl,HU.o,HB3.o⟩
   .clear hl0;go_enter func58,ntmps58;go_wp2_with fail;refine(HT.o.1 [fs,gs] _ _ (by simp) (oB (HP.o.below (HB2.o _ _)) (HQ.o.below (HB2.o _ _)) (by simp) (by simp[go_sem]) (by simp[go_sem]))).mono ?_;rintro e w1 ⟨rfl,hb1⟩;rw[HE0.o];have HB1:=ae ((HB2.o _ _).trans (hb1.mono (HB2.o _ _).size));have bx0:w1.cell? (OV w.heap.size 0)=some (OW p):=by rw[hb1.cell (p:=(OV w.heap.size 0)) (by simp;omega)];simp[go_sem]
    have bx1:w1.cell? (OV w.heap.size 1)=some (OW n):=by rw[hb1.cell (p:=(OV w.heap.size 1)) (by simp;omega)];simp[go_sem]
    have bx2:w1.cell? (OV w.heap.size 2)=some (OW o):=by rw[hb1.cell (p:=(OV w.heap.size 2)) (by simp;omega)];simp[go_sem]
    have bx3:w1.cell? (OV w.heap.size 3)=some (OW v):=by rw[hb1.cell (p:=(OV w.heap.size 3)) (by simp;omega)];simp[go_sem]
    clear hb1;go_wp2_with fail;refine(rW p n o v n.toNat _ _ fs gs _ HPO.o.2.2 HPO.o.2.1 hN0 hN3 HR.o.1.canon HR.o.2.canon HR.o.1.bd HR.o.2.bd HR.o.1.len HR.o.2.len (HP.o.below HB1.o) (HQ.o.below HB1.o)).mono ?_;rintro e w2 ⟨u9,rfl,hu,hb2⟩;have HU:=ae hu;have HB3:=ae (Io HB1.o hb2);obtain⟨ua,uc,rfl,_,_⟩:=hu;clear hb2 bx0 bx1 bx2 bx3;go_wp2_with fail;refine(xi _ _ _ hl HU.o).mono ?_;rintro e w3 ⟨rfl,rfl⟩;go_wp2;go_ret2;exact⟨_,rfl,HU.o,HB3.o⟩
  .cases fs with
   |nil=>exact absurd (Ox rfl) hem
   |cons t fs2=>
   cases gs with
   |nil=>exact absurd (Oy rfl) hem
   |cons u gs2=>
   have HG:=ae (DC HPO.o.2.2 HR.o.1.canon HR.o.2.canon);have HTL:OE (0<t.2.length/\t.2.length<=3/\∀x∈t.2,0<=x/\x<=40000):=⟨by rw[HR.o.1.canon.len t (by simp)];exact hN0,by rw[HR.o.1.canon.len t (by simp)];exact hN3,HR.o.1.bd.bd t (by simp)⟩;have HUL:OE (0<u.2.length/\u.2.length<=3/\∀x∈u.2,0<=x/\x<=40000):=⟨by rw[HR.o.2.canon.len u (by simp)];exact hN0,by rw[HR.o.2.canon.len u (by simp)];exact hN3,HR.o.2.bd.bd u (by simp)⟩;have hs1:=kN t.2 HTL.o.2.2;have hs2:=kN u.2 HUL.o.2.2;have ht3:=HTL.o.2.1;have hu3:=HUL.o.2.1;have hq1:(0:Int)<(fs2.length:Int)+1:=by omega
   have hq2:(0:Int)<(gs2.length:Int)+1:=by omega
   clear hem;by_cases hd:200<aj t.2+aj u.2
   .have hgr:cC (bm p o (aH p (t::fs2) (u::gs2)))=true:=by rw[HG.o,NP hd,Bool.true_or]
    rw[(pW HE0.o hgr).1,(pW HE0.o hgr).2];clear hgr;go_enter func58,ntmps58;go_wp2_with fail;refine(HT.o.1 [t::fs2,u::gs2] _ _ (by simp) (oB (HP.o.below (HB2.o _ _)) (HQ.o.below (HB2.o _ _)) (by simp) (by simp[go_sem]) (by simp[go_sem]))).mono ?_;rintro e w1 ⟨rfl,hb1⟩;rw[HE0.o];have HB1:=ae ((HB2.o _ _).trans (hb1.mono (HB2.o _ _).size));have bx0:w1.cell? (OV w.heap.size 0)=some (OW p):=by rw[hb1.cell (p:=(OV w.heap.size 0)) (by simp;omega)];simp[go_sem]
    have bx1:w1.cell? (OV w.heap.size 1)=some (OW n):=by rw[hb1.cell (p:=(OV w.heap.size 1)) (by simp;omega)];simp[go_sem]
    have bx2:w1.cell? (OV w.heap.size 2)=some (OW o):=by rw[hb1.cell (p:=(OV w.heap.size 2)) (by simp;omega)];simp[go_sem]
    have bx3:w1.cell? (OV w.heap.size 3)=some (OW v):=by rw[hb1.cell (p:=(OV w.heap.size 3)) (by simp;omega)];simp[go_sem]
    clear hb1;go_wp2_with fail;refine(oA _ t fs2 _ HTL.o.1 HTL.o.2.1 HTL.o.2.2 (HP.o.below HB1.o)).mono ?_;rintro e w' ⟨rfl,hw'⟩;subst w';go_wp2_with fail;refine(oA _ u gs2 _ HUL.o.1 HUL.o.2.1 HUL.o.2.2 (HQ.o.below HB1.o)).mono ?_;rintro e w' ⟨rfl,hw'⟩;subst w';go_wp2;go_ret2;exact⟨_,rfl,Pl.empty _,HB1.o⟩
   .by_cases hl:2000<(bm p o (aH p (t::fs2) (u::gs2))).length
    .have hgr:cC (bm p o (aH p (t::fs2) (u::gs2)))=true:=by rw[HG.o,NP hl,Bool.or_true]
     rw[(pW HE0.o hgr).1,(pW HE0.o hgr).2];clear hgr;go_enter func58,ntmps58;go_wp2_with fail;refine(HT.o.1 [t::fs2,u::gs2] _ _ (by simp) (oB (HP.o.below (HB2.o _ _)) (HQ.o.below (HB2.o _ _)) (by simp) (by simp[go_sem]) (by simp[go_sem]))).mono ?_;rintro e w1 ⟨rfl,hb1⟩;rw[HE0.o];have HB1:=ae ((HB2.o _ _).trans (hb1.mono (HB2.o _ _).size));have bx0:w1.cell? (OV w.heap.size 0)=some (OW p):=by rw[hb1.cell (p:=(OV w.heap.size 0)) (by simp;omega)];simp[go_sem]
     have bx1:w1.cell? (OV w.heap.size 1)=some (OW n):=by rw[hb1.cell (p:=(OV w.heap.size 1)) (by simp;omega)];simp[go_sem]
     have bx2:w1.cell? (OV w.heap.size 2)=some (OW o):=by rw[hb1.cell (p:=(OV w.heap.size 2)) (by simp;omega)];simp[go_sem]
     have bx3:w1.cell? (OV w.heap.size 3)=some (OW v):=by rw[hb1.cell (p:=(OV w.heap.size 3)) (by simp;omega)];simp[go_sem]
     clear hb1;go_wp2_with fail;refine(oA _ t fs2 _ HTL.o.1 HTL.o.2.1 HTL.o.2.2 (HP.o.below HB1.o)).mono ?_;rintro e w' ⟨rfl,hw'⟩;subst w';go_wp2_with fail;refine(oA _ u gs2 _ HUL.o.1 HUL.o.2.1 HUL.o.2.2 (HQ.o.below HB1.o)).mono ?_;rintro e w' ⟨rfl,hw'⟩;subst w';go_wp2_with fail;refine(rW p n o v n.toNat _ _ (t::fs2) (u::gs2) _ HPO.o.2.2 HPO.o.2.1 hN0 hN3 HR.o.1.canon HR.o.2.canon HR.o.1.bd HR.o.2.bd HR.o.1.len HR.o.2.len (HP.o.below HB1.o) (HQ.o.below HB1.o)).mono ?_;rintro e w2 ⟨u9,rfl,hu,hb2⟩;have HU:=ae hu;have HB3:=ae (Io HB1.o hb2);obtain⟨ua,uc,rfl,_,_⟩:=hu;clear hb2 bx0 bx1 bx2 bx3;go_wp2_with fail;refine(Mz _ _ _ hl HU.o).mono ?_;rintro e w3 ⟨rfl,rfl⟩;go_wp2;go_ret2;exact⟨_,rfl,Pl.empty _,HB3.o⟩
    .have hgr:cC (bm p o (aH p (t::fs2) (u::gs2)))=false:=by rw[HG.o,NO hd,NO hl,Bool.or_false]
     rw[(pX HE0.o hgr).1,(pX HE0.o hgr).2];clear hgr;go_enter func58,ntmps58;go_wp2_with fail;refine(HT.o.1 [t::fs2,u::gs2] _ _ (by simp) (oB (HP.o.below (HB2.o _ _)) (HQ.o.below (HB2.o _ _)) (by simp) (by simp[go_sem]) (by simp[go_sem]))).mono ?_;rintro e w1 ⟨rfl,hb1⟩;rw[HE0.o];have HB1:=ae ((HB2.o _ _).trans (hb1.mono (HB2.o _ _).size));have bx0:w1.cell? (OV w.heap.size 0)=some (OW p):=by rw[hb1.cell (p:=(OV w.heap.size 0)) (by simp;omega)];simp[go_sem]
     have bx1:w1.cell? (OV w.heap.size 1)=some (OW n):=by rw[hb1.cell (p:=(OV w.heap.size 1)) (by simp;omega)];simp[go_sem]
     have bx2:w1.cell? (OV w.heap.size 2)=some (OW o):=by rw[hb1.cell (p:=(OV w.heap.size 2)) (by simp;omega)];simp[go_sem]
     have bx3:w1.cell? (OV w.heap.size 3)=some (OW v):=by rw[hb1.cell (p:=(OV w.heap.size 3)) (by simp;omega)];simp[go_sem]
     clear hb1;go_wp2_with fail;refine(oA _ t fs2 _ HTL.o.1 HTL.o.2.1 HTL.o.2.2 (HP.o.below HB1.o)).mono ?_;rintro e w' ⟨rfl,hw'⟩;subst w';go_wp2_with fail;refine(oA _ u gs2 _ HUL.o.1 HUL.o.2.1 HUL.o.2.2 (HQ.o.below HB1.o)).mono ?_;rintro e w' ⟨rfl,hw'⟩;subst w';go_wp2_with fail;refine(rW p n o v n.toNat _ _ (t::fs2) (u::gs2) _ HPO.o.2.2 HPO.o.2.1 hN0 hN3 HR.o.1.canon HR.o.2.canon HR.o.1.bd HR.o.2.bd HR.o.1.len HR.o.2.len (HP.o.below HB1.o) (HQ.o.below HB1.o)).mono ?_;rintro e w2 ⟨u9,rfl,hu,hb2⟩;have HU:=ae hu;have HB3:=ae (Io HB1.o hb2);obtain⟨ua,uc,rfl,_,_⟩:=hu;clear hb2 bx0 bx1 bx2 bx3;go_wp2_with fail;refine(xi _ _ _ hl HU.o).mono ?_;rintro e w3 ⟨rfl,rfl⟩;go_wp2;go_ret2;exact⟨_,rfl,HU.o,HB3.o⟩
 .have hE0:chk [fs,gs]≠0:=by simpa using hE
  rw[(DD (p:=p) (o:=o) (f:=fs) (g:=gs) hE0).1,(DD (p:=p) (o:=o) (f:=fs) (g:=gs) hE0).2];clear hE0;go_enter func58,ntmps58;go_wp2_with fail;refine(HT.o.1 [fs,gs] _ _ (by simp) (oB (HP.o.below (HB2.o _ _)) (HQ.o.below (HB2.o _ _)) (by simp) (by simp[go_sem]) (by simp[go_sem]))).mono ?_;rintro e w1 ⟨rfl,hb1⟩;have HB1:=ae ((HB2.o _ _).trans (hb1.mono (HB2.o _ _).size));clear hb1;go_wp2;go_ret2;exact⟨_,rfl,Pl.empty _,HB1.o⟩
theorem BK(p n o v:Int)(chk:OG->Int)(HC:vW p n o v chk)(x:OR)(fs:Lt)(w:OQ)(pf:Pl w x fs):Calls prog 57 #[aI p n o v,x] w λe w'=>e=.returned (OW (chk [fs]))/\LT w w':=by have HP:=ae pf;have HT:=ae HC;obtain⟨a,c,rfl,_,_⟩:=pf;clear HC;have HB2:OE (∀A B,LT w ((w.alloc A).alloc B)):=λA B=>dR;go_enter func57,ntmps57;go_wp2_with fail;refine(HT.o.1 [fs] _ _ (by simp) (Jx (HP.o.below (HB2.o _ _)) (by simp) (by simp[go_sem]))).mono ?_;rintro e w1 ⟨rfl,hb1⟩;have HB1:=ae ((HB2.o _ _).trans (hb1.mono (HB2.o _ _).size));clear hb1;go_wp2;go_ret;exact⟨rfl,HB1.o⟩
theorem vX(c:Int)(a:Option Addr)(n m:Nat)(w:OQ):Calls prog 18 #[OW c,.slice a n m] w λe w'=>e=.returned (.agg #[OW c,.slice a n m])/\LT w w':=by go_enter func18,ntmps18;go_wp2;exact NT (v:=.agg #[OW c,.slice a n m]) (by simp[results,Tryz.results18,go_sem]) rfl ⟨rfl,(NM _ _).alloc (NL _) _⟩
def rL(f:Lt):Int:=match f with|[]=>0|t::_=>aj t.2
theorem IM(x:OR)(f:Lt)(w:OQ)(hf:Pl w x f)(hl:∀t∈f,0<t.2.length/\t.2.length<=3)(he:∀t∈f,∀e∈t.2,0<=e/\e<=400):Calls prog 66 #[x] w λe w'=>e=.returned (OW (rL f))/\w'=w:=by
 cases f with
 |nil=>obtain⟨a,cap,rfl,hcap,h⟩:=hf;go_enter func66,ntmps66;go_wp2;go_ret;exact⟨rfl,rfl⟩
 |cons t ts=>
  have h3:=(hl t (by simp)).2;have HB:OE (∀x∈t.2,0<=x/\x<=40000):=λx hx=>by have:=he t (by simp) x hx;omega
  obtain⟨b,off,cap,ev,rfl,hcap,hlt,c0,c1,hse,_,_⟩:=hf.head;obtain⟨a,c,rfl,hs⟩:=hse;obtain⟨eb,eoff,rfl,helt,hei⟩:=hs (hl t (by simp)).1;have HEI:=ae hei;clear hei hs hf hl he;have hle:(0:Int)<(ts.length:Int)+1:=by omega
  have hne:((ts.length:Int)+1==0)=false:=by simp;omega
  have hn2:decide ((ts.length:Int)+1=0)=false:=by simp;omega
  have hn3:¬((ts.length:Int)+1=0):=by omega
  go_enter func66,ntmps66;go_wp2_with (go_at_call 92;refine(jf t.2 _ _ _ _ HB.o h3 HEI.o).mono ?_;rintro e w' ⟨rfl,rfl⟩);go_ret;exact⟨rfl,rfl⟩
end Go.Proofs.YtjkalahhpobefaaGreat
