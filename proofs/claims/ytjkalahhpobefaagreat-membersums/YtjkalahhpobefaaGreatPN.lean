/- poly.limited, degree. -/
import Derived.Test.YtjkalahhpobefaaGreatPL
import Derived.Lib.ItoaNum
import Derived.Lib.Join
set_option maxHeartbeats 2000000
set_option maxRecDepth 100000
namespace Go.Proofs.YtjkalahhpobefaaGreat
set_option linter.all false
open Go.Proofs.Tryz Go.RowKit
def su(p n o v:Int)(chk:Lt->Int):Prop:=
 (∀(fss:Lt) (lv:PK) (w:PJ),fss.length<=1200000000000->Vl w lv fss->Calls prog 62 #[aI p n o v,lv] w λe w'=>e=.returned (PO (chk fss))/\Io w w')/\
 (∀fss,fss≠[]->chk fss=0->bE p n o v=0/\∀f∈fss,ep p n o f=0)/\
 (bE p n o v=0->∀fss,(∀f∈fss,ep p n o f=0)->chk fss=0)
theorem DM(x:PK)(ts:LT)(w:PJ)(h:2000<ts.length)(pf:Pl w x ts):Calls prog 63 #[x] w λe w'=>e=.returned (.tuple #[.slice none 0 0,PO 2])/\w'=w:=by obtain⟨a,c,rfl,_,_⟩:=pf;go_enter func63,ntmps63;go_wp2;go_ret2;exact⟨rfl,rfl⟩
theorem tz(x:PK)(ts:LT)(w:PJ)(h:¬2000<ts.length)(pf:Pl w x ts):Calls prog 63 #[x] w λe w'=>e=.returned (.tuple #[x,PO 0])/\w'=w:=by obtain⟨a,c,rfl,_,_⟩:=pf;go_enter func63,ntmps63;go_wp2;go_ret2;exact⟨rfl,rfl⟩
theorem oI(x:PK)(t:Tm)(ts:LT)(w:PJ)(h0:0<t.2.length)(h3:t.2.length<=3)(hb:∀x∈t.2,0<=x/\x<=40000)(pf:Pl w x (t::ts)):Calls prog 94 #[x] w λe w'=>e=.returned (PO (au t.2))/\w'=w:=by
 obtain⟨b,off,cap,ev,rfl,hcap,hlt,c0,c1,hse,_,_⟩:=pf.head;have HB:=ae hb;obtain⟨a,c,rfl,hs⟩:=hse;obtain⟨eb,eoff,rfl,helt,hei⟩:=hs h0;have HEI:=ae hei;clear hb hei hs pf;have hle:(0:Int)<(ts.length:Int)+1:=by omega
 go_enter func94,ntmps94;go_wp2_with (go_at_call 92;refine(iV t.2 _ _ _ _ HB.o h3 HEI.o).mono ?_;rintro e w' ⟨rfl,rfl⟩);go_ret;exact⟨rfl,rfl⟩
variable{b c:Nat}{fs:LT}{x:PK}{w:PJ}
theorem jg{y:PK}{gs:LT}(hf:Pl w x fs)(hg:Pl w y gs)(hlt:b<w.heap.size)(c0:w.cell? (PN b 0)=some x)(c1:w.cell? (PN b 1)=some y):Vl w (PM b 2 c) [fs,gs]:=by
 refine⟨_,c,rfl,λ_=>⟨b,0,rfl,hlt,λi hi=>?_⟩⟩;simp only[OZ,List.length_nil] at hi;rcases i with _|_|i
 .exact⟨x,c0,hf⟩
 .exact⟨y,c1,hg⟩
 .omega
theorem J7(hf:Pl w x fs)(hlt:b<w.heap.size)(c0:w.cell? (PN b 0)=some x):Vl w (PM b 1 c) [fs]:=by
 refine⟨_,c,rfl,λ_=>⟨b,0,rfl,hlt,λi hi=>?_⟩⟩;simp only[OZ,List.length_nil] at hi;rcases i with _|i
 .exact⟨x,c0,hf⟩
 .omega
variable{f:LT}{p o:Int}
theorem oJ{n v:Int}(hr:bE p n o v=0)(h:ep p n o f=0):fO p o n.toNat f/\0<n.toNat/\n.toNat<=3/\bA p=0/\(2<=p/\p<=101)/\(o=1\/o=2):=by
 obtain⟨h1,h2,h3,h4,_⟩:=lX hr;have e:n=(n.toNat:Int):=by omega
 rw[e] at h;exact⟨rU h,by omega,by omega,h1,dY h1,h4⟩
def gU(E:Int)(p o:Int)(f g:LT):Int:=if E≠0 then E else if bF (aR p o (f++g)) then 2 else 0
def iU(E:Int)(p o:Int)(f g:LT):Int:=if E≠0 then E else if bF (aR p o (aH p f g)) then 2 else 0
def jE(E:Int)(p o:Int)(f g:LT):LT:=if gU E p o f g=0 then aR p o (f++g) else []
def kM(E:Int)(p o:Int)(f g:LT):LT:=if iU E p o f g=0 then aR p o (aH p f g) else []
variable{g:LT}{E:Int}
theorem DN(h:E≠0):gU E p o f g=E/\jE E p o f g=[]:=by
 have h1:gU E p o f g=E:=by unfold gU;rw[OW h]
 exact⟨h1,by unfold jE;rw[h1,OV h]⟩
theorem DO(h:E=0)(hg:bF (aR p o (f++g))=true):gU E p o f g=2/\jE E p o f g=[]:=by
 have h1:gU E p o f g=2:=by unfold gU;rw[OV (by simpa using h),OW hg]
 exact⟨h1,by unfold jE;rw[h1,OV (by omega)]⟩
theorem DP(h:E=0)(hg:bF (aR p o (f++g))=false):gU E p o f g=0/\jE E p o f g=aR p o (f++g):=by
 have h1:gU E p o f g=0:=by unfold gU;rw[OV (by simpa using h),OV (by simp[hg])]
 exact⟨h1,by unfold jE;rw[h1,OW rfl]⟩
theorem DQ(h:E≠0):iU E p o f g=E/\kM E p o f g=[]:=by
 have h1:iU E p o f g=E:=by unfold iU;rw[OW h]
 exact⟨h1,by unfold kM;rw[h1,OV h]⟩
theorem qf(h:E=0)(hg:bF (aR p o (aH p f g))=true):iU E p o f g=2/\kM E p o f g=[]:=by
 have h1:iU E p o f g=2:=by unfold iU;rw[OV (by simpa using h),OW hg]
 exact⟨h1,by unfold kM;rw[h1,OV (by omega)]⟩
theorem qg(h:E=0)(hg:bF (aR p o (aH p f g))=false):iU E p o f g=0/\kM E p o f g=aR p o (aH p f g):=by
 have h1:iU E p o f g=0:=by unfold iU;rw[OV (by simpa using h),OV (by simp[hg])]
 exact⟨h1,by unfold kM;rw[h1,OW rfl]⟩
theorem Km(p n o v:Int)(chk:Lt->Int)(HC:su p n o v chk)(x y:PK)(fs gs:LT)(w:PJ)(pf:Pl w x fs)(pg:Pl w y gs):Calls prog 31 #[aI p n o v,x,y] w λe w'=>∃u,e=.returned (.tuple #[u,PO (gU (chk [fs,gs]) p o fs gs)])/\Pl w' u (jE (chk [fs,gs]) p o fs gs)/\Io w w':=by
 have HP:=ae pf;have HQ:=ae pg;have HT:=ae HC;obtain⟨a,c,rfl,_,_⟩:=pf;obtain⟨a2,c2,rfl,_,_⟩:=pg;clear HC;have HB2:Po (∀A B,Io w ((w.alloc A).alloc B)):=λA B=>cY;cases hE:(chk [fs,gs] !=0)
 .have hE0:chk [fs,gs]=0:=by simpa using hE
  obtain⟨hr,hall⟩:=HT.o.2.1 [fs,gs] (by simp) hE0;obtain⟨rf,hN0,hN3,hpr,hp,ho⟩:=oJ hr (hall fs (by simp));obtain⟨rg,_⟩:=oJ hr (hall gs (by simp));have HR:=ae (Ow rf rg);have HPO:=ae (Ow hp (Ow ho hpr));have HE0:=ae hE0;clear hE0 hr hall rf rg hp ho hpr;have HG:=ae (wN (KD HR.o.1 HR.o.2));by_cases hl:2000<(aR p o (fs++gs)).length
  .have hgr:bF (aR p o (fs++gs))=true:=by rw[HG.o];exact Oy hl
   rw[(DO HE0.o hgr).1,(DO HE0.o hgr).2];clear hgr;go_enter func31,ntmps31;go_wp2_with fail;refine(HT.o.1 [fs,gs] _ _ (by simp) (jg (HP.o.below (HB2.o _ _)) (HQ.o.below (HB2.o _ _)) (by simp) (by simp[go_sem]) (by simp[go_sem]))).mono ?_;rintro e w1 ⟨rfl,hb1⟩;rw[HE0.o];have HB1:=ae ((HB2.o _ _).trans (hb1.mono (HB2.o _ _).size));have bx0:w1.cell? (PN w.heap.size 0)=some (PO p):=by rw[hb1.cell (p:=(PN w.heap.size 0)) (by simp;omega)];simp[go_sem]
   have bx1:w1.cell? (PN w.heap.size 1)=some (PO n):=by rw[hb1.cell (p:=(PN w.heap.size 1)) (by simp;omega)];simp[go_sem]
   have bx2:w1.cell? (PN w.heap.size 2)=some (PO o):=by rw[hb1.cell (p:=(PN w.heap.size 2)) (by simp;omega)];simp[go_sem]
   have bx3:w1.cell? (PN w.heap.size 3)=some (PO v):=by rw[hb1.cell (p:=(PN w.heap.size 3)) (by simp;omega)];simp[go_sem]
   clear hb1;go_wp2_with fail;refine(wG p n o v n.toNat 2000 _ [fs,gs] _ HPO.o.1 HPO.o.2.1 hN0 hN3 ?_ (by simp) (by simp) (jg ((HP.o.below HB1.o).below aY) ((HQ.o.below HB1.o).below aY) (by simp) (by simp[go_sem]) (by simp[go_sem]))).mono ?_
   .intro f hf;simp only[OY,List.not_mem_nil,or_false] at hf;rcases hf with rfl|rfl
    .exact⟨HR.o.1.canon,HR.o.1.bd.bd,HR.o.1.len⟩
    .exact⟨HR.o.2.canon,HR.o.2.bd.bd,HR.o.2.len⟩
   rintro e w2 ⟨u,rfl,hu,hb2⟩;have hfl:[fs,gs].flatten=fs++gs:=by simp
   rw[hfl] at hu;have HU:=ae hu;have HB3:=ae (In HB1.o (aY.trans (hb2.mono (by simp))));obtain⟨ua,uc,rfl,_,_⟩:=hu;clear hb2 bx0 bx1 bx2 bx3 hfl;go_wp2_with fail;refine(DM _ _ _ hl HU.o).mono ?_;rintro e w3 ⟨rfl,rfl⟩;go_wp2;go_ret2;exact⟨_,rfl,Pl.empty _,HB3.o⟩
  .have hgr:bF (aR p o (fs++gs))=false:=by rw[HG.o];exact Ox hl
   rw[(DP HE0.o hgr).1,(DP HE0.o hgr).2];clear hgr;go_enter func31,ntmps31;go_wp2_with fail;refine(HT.o.1 [fs,gs] _ _ (by simp) (jg (HP.o.below (HB2.o _ _)) (HQ.o.below (HB2.o _ _)) (by simp) (by simp[go_sem]) (by simp[go_sem]))).mono ?_;rintro e w1 ⟨rfl,hb1⟩;rw[HE0.o];have HB1:=ae ((HB2.o _ _).trans (hb1.mono (HB2.o _ _).size));have bx0:w1.cell? (PN w.heap.size 0)=some (PO p):=by rw[hb1.cell (p:=(PN w.heap.size 0)) (by simp;omega)];simp[go_sem]
   have bx1:w1.cell? (PN w.heap.size 1)=some (PO n):=by rw[hb1.cell (p:=(PN w.heap.size 1)) (by simp;omega)];simp[go_sem]
   have bx2:w1.cell? (PN w.heap.size 2)=some (PO o):=by rw[hb1.cell (p:=(PN w.heap.size 2)) (by simp;omega)];simp[go_sem]
   have bx3:w1.cell? (PN w.heap.size 3)=some (PO v):=by rw[hb1.cell (p:=(PN w.heap.size 3)) (by simp;omega)];simp[go_sem]
   clear hb1;go_wp2_with fail;refine(wG p n o v n.toNat 2000 _ [fs,gs] _ HPO.o.1 HPO.o.2.1 hN0 hN3 ?_ (by simp) (by simp) (jg ((HP.o.below HB1.o).below aY) ((HQ.o.below HB1.o).below aY) (by simp) (by simp[go_sem]) (by simp[go_sem]))).mono ?_
   .intro f hf;simp only[OY,List.not_mem_nil,or_false] at hf;rcases hf with rfl|rfl
    .exact⟨HR.o.1.canon,HR.o.1.bd.bd,HR.o.1.len⟩
    .exact⟨HR.o.2.canon,HR.o.2.bd.bd,HR.o.2.len⟩
   rintro e w2 ⟨u,rfl,hu,hb2⟩;have hfl:[fs,gs].flatten=fs++gs:=by simp
   rw[hfl] at hu;have HU:=ae hu;have HB3:=ae (In HB1.o (aY.trans (hb2.mono (by simp))));obtain⟨ua,uc,rfl,_,_⟩:=hu;clear hb2 bx0 bx1 bx2 bx3 hfl;go_wp2_with fail;refine(tz _ _ _ hl HU.o).mono ?_;rintro e w3 ⟨rfl,rfl⟩;go_wp2;go_ret2;exact⟨_,rfl,HU.o,HB3.o⟩
 .have hE0:chk [fs,gs]≠0:=by simpa using hE
  rw[(DN (p:=p) (o:=o) (f:=fs) (g:=gs) hE0).1,(DN (p:=p) (o:=o) (f:=fs) (g:=gs) hE0).2];clear hE0;go_enter func31,ntmps31;go_wp2_with fail;refine(HT.o.1 [fs,gs] _ _ (by simp) (jg (HP.o.below (HB2.o _ _)) (HQ.o.below (HB2.o _ _)) (by simp) (by simp[go_sem]) (by simp[go_sem]))).mono ?_;rintro e w1 ⟨rfl,hb1⟩;have HB1:=ae ((HB2.o _ _).trans (hb1.mono (HB2.o _ _).size));clear hb1;go_wp2;go_ret2;exact⟨_,rfl,Pl.empty _,HB1.o⟩
theorem DR(p n o v:Int)(chk:Lt->Int)(HC:su p n o v chk)(x y:PK)(fs gs:LT)(w:PJ)(pf:Pl w x fs)(pg:Pl w y gs):Calls prog 58 #[aI p n o v,x,y] w λe w'=>∃u,e=.returned (.tuple #[u,PO (iU (chk [fs,gs]) p o fs gs)])/\Pl w' u (kM (chk [fs,gs]) p o fs gs)/\Io w w':=by
 have HP:=ae pf;have HQ:=ae pg;have HT:=ae HC;obtain⟨a,c,rfl,_,_⟩:=pf;obtain⟨a2,c2,rfl,_,_⟩:=pg;clear HC;have HB2:Po (∀A B,Io w ((w.alloc A).alloc B)):=λA B=>cY;cases hE:(chk [fs,gs] !=0)
 .have hE0:chk [fs,gs]=0:=by simpa using hE
  obtain⟨hr,hall⟩:=HT.o.2.1 [fs,gs] (by simp) hE0;obtain⟨rf,hN0,hN3,hpr,hp,ho⟩:=oJ hr (hall fs (by simp));obtain⟨rg,_⟩:=oJ hr (hall gs (by simp));have HR:=ae (Ow rf rg);have HPO:=ae (Ow hp (Ow ho hpr));have HE0:=ae hE0;clear hE0 hr hall rf rg hp ho hpr;by_cases hem:fs=[]\/gs=[]
  .have HEM:=ae hem;have hl0:¬(0<fs.length/\0<gs.length):=by
    rcases hem with h|h
    .rw[h];simp
    .rw[h];simp
   have hcn:aR p o (aH p fs gs)=[]:=KC hem;have hgr:bF (aR p o (aH p fs gs))=false:=by rw[hcn];rfl
   rw[(qg HE0.o hgr).1,(qg HE0.o hgr).2];have hl:¬2000<(aR p o (aH p fs gs)).length:=by rw[hcn];simp
   clear hgr hcn hem;by_cases hf0:0<fs.length
   .have hg0:¬0<gs.length:=λh=>hl0 ⟨hf0,h⟩;go_enter func58,ntmps58;go_wp2_with fail;refine(HT.o.1 [fs,gs] _ _ (by simp) (jg (HP.o.below (HB2.o _ _)) (HQ.o.below (HB2.o _ _)) (by simp) (by simp[go_sem]) (by simp[go_sem]))).mono ?_;rintro e w1 ⟨rfl,hb1⟩;rw[HE0.o];have HB1:=ae ((HB2.o _ _).trans (hb1.mono (HB2.o _ _).size));have bx0:w1.cell? (PN w.heap.size 0)=some (PO p):=by rw[hb1.cell (p:=(PN w.heap.size 0)) (by simp;omega)];simp[go_sem]
    have bx1:w1.cell? (PN w.heap.size 1)=some (PO n):=by rw[hb1.cell (p:=(PN w.heap.size 1)) (by simp;omega)];simp[go_sem]
    have bx2:w1.cell? (PN w.heap.size 2)=some (PO o):=by rw[hb1.cell (p:=(PN w.heap.size 2)) (by simp;omega)];simp[go_sem]
    have bx3:w1.cell? (PN w.heap.size 3)=some (PO v):=by rw[hb1.cell (p:=(PN w.heap.size 3)) (by simp;omega)];simp[go_sem]
    clear hb1;go_wp2_with fail;refine(sr p n o v n.toNat _ _ fs gs _ HPO.o.2.2 HPO.o.2.1 hN0 hN3 HR.o.1.canon HR.o.2.canon HR.o.1.bd HR.o.2.bd HR.o.1.len HR.o.2.len (HP.o.below HB1.o) (HQ.o.below HB1.o)).mono ?_;rintro e w2 ⟨u9,rfl,hu,hb2⟩;have HU:=ae hu;have HB3:=ae (In HB1.o hb2);obtain⟨ua,uc,rfl,_,_⟩:=hu;clear hb2 bx0 bx1 bx2 bx3;go_wp2_with fail;refine(tz _ _ _ hl HU.o).mono ?_;rintro e w3 ⟨rfl,rfl⟩;go_wp2;go_ret2;exact⟨_,rfl,HU.o,HB3.o⟩
   .clear hl0;go_enter func58,ntmps58;go_wp2_with fail;refine(HT.o.1 [fs,gs] _ _ (by simp) (jg (HP.o.below (HB2.o _ _)) (HQ.o.below (HB2.o _ _)) (by simp) (by simp[go_sem]) (by simp[go_sem]))).mono ?_;rintro e w1 ⟨rfl,hb1⟩;rw[HE0.o];have HB1:=ae ((HB2.o _ _).trans (hb1.mono (HB2.o _ _).size));have bx0:w1.cell? (PN w.heap.size 0)=some (PO p):=by rw[hb1.cell (p:=(PN w.heap.size 0)) (by simp;omega)];simp[go_sem]
    have bx1:w1.cell? (PN w.heap.size 1)=some (PO n):=by rw[hb1.cell (p:=(PN w.heap.size 1)) (by simp;omega)];simp[go_sem]
    have bx2:w1.cell? (PN w.heap.size 2)=some (PO o):=by rw[hb1.cell (p:=(PN w.heap.size 2)) (by simp;omega)];simp[go_sem]
    have bx3:w1.cell? (PN w.heap.size 3)=some (PO v):=by rw[hb1.cell (p:=(PN w.heap.size 3)) (by simp;omega)];simp[go_sem]
    clear hb1;go_wp2_with fail;refine(sr p n o v n.toNat _ _ fs gs _ HPO.o.2.2 HPO.o.2.1 hN0 hN3 HR.o.1.canon HR.o.2.canon HR.o.1.bd HR.o.2.bd HR.o.1.len HR.o.2.len (HP.o.below HB1.o) (HQ.o.below HB1.o)).mono ?_;rintro e w2 ⟨u9,rfl,hu,hb2⟩;have HU:=ae hu;have HB3:=ae (In HB1.o hb2);obtain⟨ua,uc,rfl,_,_⟩:=hu;clear hb2 bx0 bx1 bx2 bx3;go_wp2_with fail;refine(tz _ _ _ hl HU.o).mono ?_;rintro e w3 ⟨rfl,rfl⟩;go_wp2;go_ret2;exact⟨_,rfl,HU.o,HB3.o⟩
  .cases fs with
   |nil=>exact absurd (Pf rfl) hem
   |cons t fs2=>
   cases gs with
   |nil=>exact absurd (Pg rfl) hem
   |cons u gs2=>
   have HG:=ae (Cw HPO.o.2.2 HR.o.1.canon HR.o.2.canon);have HTL:Po (0<t.2.length/\t.2.length<=3/\∀x∈t.2,0<=x/\x<=40000):=⟨by rw[HR.o.1.canon.len t (by simp)];exact hN0,by rw[HR.o.1.canon.len t (by simp)];exact hN3,HR.o.1.bd.bd t (by simp)⟩;have HUL:Po (0<u.2.length/\u.2.length<=3/\∀x∈u.2,0<=x/\x<=40000):=⟨by rw[HR.o.2.canon.len u (by simp)];exact hN0,by rw[HR.o.2.canon.len u (by simp)];exact hN3,HR.o.2.bd.bd u (by simp)⟩;have hs1:=oR t.2 HTL.o.2.2;have hs2:=oR u.2 HUL.o.2.2;have ht3:=HTL.o.2.1;have hu3:=HUL.o.2.1;have hq1:(0:Int)<(fs2.length:Int)+1:=by omega
   have hq2:(0:Int)<(gs2.length:Int)+1:=by omega
   clear hem;by_cases hd:200<au t.2+au u.2
   .have hgr:bF (aR p o (aH p (t::fs2) (u::gs2)))=true:=by rw[HG.o,Oy hd,Bool.true_or]
    rw[(qf HE0.o hgr).1,(qf HE0.o hgr).2];clear hgr;go_enter func58,ntmps58;go_wp2_with fail;refine(HT.o.1 [t::fs2,u::gs2] _ _ (by simp) (jg (HP.o.below (HB2.o _ _)) (HQ.o.below (HB2.o _ _)) (by simp) (by simp[go_sem]) (by simp[go_sem]))).mono ?_;rintro e w1 ⟨rfl,hb1⟩;rw[HE0.o];have HB1:=ae ((HB2.o _ _).trans (hb1.mono (HB2.o _ _).size));have bx0:w1.cell? (PN w.heap.size 0)=some (PO p):=by rw[hb1.cell (p:=(PN w.heap.size 0)) (by simp;omega)];simp[go_sem]
    have bx1:w1.cell? (PN w.heap.size 1)=some (PO n):=by rw[hb1.cell (p:=(PN w.heap.size 1)) (by simp;omega)];simp[go_sem]
    have bx2:w1.cell? (PN w.heap.size 2)=some (PO o):=by rw[hb1.cell (p:=(PN w.heap.size 2)) (by simp;omega)];simp[go_sem]
    have bx3:w1.cell? (PN w.heap.size 3)=some (PO v):=by rw[hb1.cell (p:=(PN w.heap.size 3)) (by simp;omega)];simp[go_sem]
    clear hb1;go_wp2_with fail;refine(oI _ t fs2 _ HTL.o.1 HTL.o.2.1 HTL.o.2.2 (HP.o.below HB1.o)).mono ?_;rintro e w' ⟨rfl,hw'⟩;subst w';go_wp2_with fail;refine(oI _ u gs2 _ HUL.o.1 HUL.o.2.1 HUL.o.2.2 (HQ.o.below HB1.o)).mono ?_;rintro e w' ⟨rfl,hw'⟩;subst w';go_wp2;go_ret2;exact⟨_,rfl,Pl.empty _,HB1.o⟩
   .by_cases hl:2000<(aR p o (aH p (t::fs2) (u::gs2))).length
    .have hgr:bF (aR p o (aH p (t::fs2) (u::gs2)))=true:=by rw[HG.o,Oy hl,Bool.or_true]
     rw[(qf HE0.o hgr).1,(qf HE0.o hgr).2];clear hgr;go_enter func58,ntmps58;go_wp2_with fail;refine(HT.o.1 [t::fs2,u::gs2] _ _ (by simp) (jg (HP.o.below (HB2.o _ _)) (HQ.o.below (HB2.o _ _)) (by simp) (by simp[go_sem]) (by simp[go_sem]))).mono ?_;rintro e w1 ⟨rfl,hb1⟩;rw[HE0.o];have HB1:=ae ((HB2.o _ _).trans (hb1.mono (HB2.o _ _).size));have bx0:w1.cell? (PN w.heap.size 0)=some (PO p):=by rw[hb1.cell (p:=(PN w.heap.size 0)) (by simp;omega)];simp[go_sem]
     have bx1:w1.cell? (PN w.heap.size 1)=some (PO n):=by rw[hb1.cell (p:=(PN w.heap.size 1)) (by simp;omega)];simp[go_sem]
     have bx2:w1.cell? (PN w.heap.size 2)=some (PO o):=by rw[hb1.cell (p:=(PN w.heap.size 2)) (by simp;omega)];simp[go_sem]
     have bx3:w1.cell? (PN w.heap.size 3)=some (PO v):=by rw[hb1.cell (p:=(PN w.heap.size 3)) (by simp;omega)];simp[go_sem]
     clear hb1;go_wp2_with fail;refine(oI _ t fs2 _ HTL.o.1 HTL.o.2.1 HTL.o.2.2 (HP.o.below HB1.o)).mono ?_;rintro e w' ⟨rfl,hw'⟩;subst w';go_wp2_with fail;refine(oI _ u gs2 _ HUL.o.1 HUL.o.2.1 HUL.o.2.2 (HQ.o.below HB1.o)).mono ?_;rintro e w' ⟨rfl,hw'⟩;subst w';go_wp2_with fail;refine(sr p n o v n.toNat _ _ (t::fs2) (u::gs2) _ HPO.o.2.2 HPO.o.2.1 hN0 hN3 HR.o.1.canon HR.o.2.canon HR.o.1.bd HR.o.2.bd HR.o.1.len HR.o.2.len (HP.o.below HB1.o) (HQ.o.below HB1.o)).mono ?_;rintro e w2 ⟨u9,rfl,hu,hb2⟩;have HU:=ae hu;have HB3:=ae (In HB1.o hb2);obtain⟨ua,uc,rfl,_,_⟩:=hu;clear hb2 bx0 bx1 bx2 bx3;go_wp2_with fail;refine(DM _ _ _ hl HU.o).mono ?_;rintro e w3 ⟨rfl,rfl⟩;go_wp2;go_ret2;exact⟨_,rfl,Pl.empty _,HB3.o⟩
    .have hgr:bF (aR p o (aH p (t::fs2) (u::gs2)))=false:=by rw[HG.o,Ox hd,Ox hl,Bool.or_false]
     rw[(qg HE0.o hgr).1,(qg HE0.o hgr).2];clear hgr;go_enter func58,ntmps58;go_wp2_with fail;refine(HT.o.1 [t::fs2,u::gs2] _ _ (by simp) (jg (HP.o.below (HB2.o _ _)) (HQ.o.below (HB2.o _ _)) (by simp) (by simp[go_sem]) (by simp[go_sem]))).mono ?_;rintro e w1 ⟨rfl,hb1⟩;rw[HE0.o];have HB1:=ae ((HB2.o _ _).trans (hb1.mono (HB2.o _ _).size));have bx0:w1.cell? (PN w.heap.size 0)=some (PO p):=by rw[hb1.cell (p:=(PN w.heap.size 0)) (by simp;omega)];simp[go_sem]
     have bx1:w1.cell? (PN w.heap.size 1)=some (PO n):=by rw[hb1.cell (p:=(PN w.heap.size 1)) (by simp;omega)];simp[go_sem]
     have bx2:w1.cell? (PN w.heap.size 2)=some (PO o):=by rw[hb1.cell (p:=(PN w.heap.size 2)) (by simp;omega)];simp[go_sem]
     have bx3:w1.cell? (PN w.heap.size 3)=some (PO v):=by rw[hb1.cell (p:=(PN w.heap.size 3)) (by simp;omega)];simp[go_sem]
     clear hb1;go_wp2_with fail;refine(oI _ t fs2 _ HTL.o.1 HTL.o.2.1 HTL.o.2.2 (HP.o.below HB1.o)).mono ?_;rintro e w' ⟨rfl,hw'⟩;subst w';go_wp2_with fail;refine(oI _ u gs2 _ HUL.o.1 HUL.o.2.1 HUL.o.2.2 (HQ.o.below HB1.o)).mono ?_;rintro e w' ⟨rfl,hw'⟩;subst w';go_wp2_with fail;refine(sr p n o v n.toNat _ _ (t::fs2) (u::gs2) _ HPO.o.2.2 HPO.o.2.1 hN0 hN3 HR.o.1.canon HR.o.2.canon HR.o.1.bd HR.o.2.bd HR.o.1.len HR.o.2.len (HP.o.below HB1.o) (HQ.o.below HB1.o)).mono ?_;rintro e w2 ⟨u9,rfl,hu,hb2⟩;have HU:=ae hu;have HB3:=ae (In HB1.o hb2);obtain⟨ua,uc,rfl,_,_⟩:=hu;clear hb2 bx0 bx1 bx2 bx3;go_wp2_with fail;refine(tz _ _ _ hl HU.o).mono ?_;rintro e w3 ⟨rfl,rfl⟩;go_wp2;go_ret2;exact⟨_,rfl,HU.o,HB3.o⟩
 .have hE0:chk [fs,gs]≠0:=by simpa using hE
  rw[(DQ (p:=p) (o:=o) (f:=fs) (g:=gs) hE0).1,(DQ (p:=p) (o:=o) (f:=fs) (g:=gs) hE0).2];clear hE0;go_enter func58,ntmps58;go_wp2_with fail;refine(HT.o.1 [fs,gs] _ _ (by simp) (jg (HP.o.below (HB2.o _ _)) (HQ.o.below (HB2.o _ _)) (by simp) (by simp[go_sem]) (by simp[go_sem]))).mono ?_;rintro e w1 ⟨rfl,hb1⟩;have HB1:=ae ((HB2.o _ _).trans (hb1.mono (HB2.o _ _).size));clear hb1;go_wp2;go_ret2;exact⟨_,rfl,Pl.empty _,HB1.o⟩
theorem Cc(p n o v:Int)(chk:Lt->Int)(HC:su p n o v chk)(x:PK)(fs:LT)(w:PJ)(pf:Pl w x fs):Calls prog 57 #[aI p n o v,x] w λe w'=>e=.returned (PO (chk [fs]))/\Io w w':=by have HP:=ae pf;have HT:=ae HC;obtain⟨a,c,rfl,_,_⟩:=pf;clear HC;have HB2:Po (∀A B,Io w ((w.alloc A).alloc B)):=λA B=>cY;go_enter func57,ntmps57;go_wp2_with fail;refine(HT.o.1 [fs] _ _ (by simp) (J7 (HP.o.below (HB2.o _ _)) (by simp) (by simp[go_sem]))).mono ?_;rintro e w1 ⟨rfl,hb1⟩;have HB1:=ae ((HB2.o _ _).trans (hb1.mono (HB2.o _ _).size));clear hb1;go_wp2;go_ret;exact⟨rfl,HB1.o⟩
theorem sw(c:Int)(a:Option Addr)(n m:Nat)(w:PJ):Calls prog 18 #[PO c,.slice a n m] w λe w'=>e=.returned (.agg #[PO c,.slice a n m])/\Io w w':=by go_enter func18,ntmps18;go_wp2;exact OC (v:=.agg #[PO c,.slice a n m]) (by simp[results,Tryz.results18,go_sem]) rfl ⟨rfl,(Ov _ _).alloc (Ou _) _⟩
def rT(f:LT):Int:=match f with|[]=>0|t::_=>au t.2
theorem Jf(x:PK)(f:LT)(w:PJ)(hf:Pl w x f)(hl:∀t∈f,0<t.2.length/\t.2.length<=3)(he:∀t∈f,∀e∈t.2,0<=e/\e<=400):Calls prog 66 #[x] w λe w'=>e=.returned (PO (rT f))/\w'=w:=by
 cases f with
 |nil=>obtain⟨a,cap,rfl,hcap,h⟩:=hf;go_enter func66,ntmps66;go_wp2;go_ret;exact⟨rfl,rfl⟩
 |cons t ts=>
  have h3:=(hl t (by simp)).2;have HB:Po (∀x∈t.2,0<=x/\x<=40000):=λx hx=>by have:=he t (by simp) x hx;omega
  obtain⟨b,off,cap,ev,rfl,hcap,hlt,c0,c1,hse,_,_⟩:=hf.head;obtain⟨a,c,rfl,hs⟩:=hse;obtain⟨eb,eoff,rfl,helt,hei⟩:=hs (hl t (by simp)).1;have HEI:=ae hei;clear hei hs hf hl he;have hle:(0:Int)<(ts.length:Int)+1:=by omega
  have hne:((ts.length:Int)+1==0)=false:=by simp;omega
  have hn2:decide ((ts.length:Int)+1=0)=false:=by simp;omega
  have hn3:¬((ts.length:Int)+1=0):=by omega
  go_enter func66,ntmps66;go_wp2_with (go_at_call 92;refine(iV t.2 _ _ _ _ HB.o h3 HEI.o).mono ?_;rintro e w' ⟨rfl,rfl⟩);go_ret;exact⟨rfl,rfl⟩
end Go.Proofs.YtjkalahhpobefaaGreat
