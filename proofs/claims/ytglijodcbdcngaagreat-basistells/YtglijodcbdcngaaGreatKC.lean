/- The members of a basis that is made, in memory; the one that goes into a term. -/
import Derived.Test.YtglijodcbdcngaaGreatKA
import Derived.Test.YtglijodcbdcngaaGreatZV
import Derived.BigQuiet
set_option maxHeartbeats 4000000
set_option maxRecDepth 100000
namespace Go.Proofs.YtglijodcbdcngaaGreat
set_option linter.unusedSimpArgs false
set_option linter.unusedVariables false
open Go.Proofs.Tryz Go.RowKit
structure Mm where
 blk:Nat
 L:Ft
 rv:Value
 r:List Ft
 gone:Bool
structure gR(p:Int)(w:World)(x:Mm):Prop where
 div:jo w x.blk 0 x.L x.rv 0 (aC p x.L.c)
 gone:w.cell? ⟨x.blk,10,none⟩=some (.bool x.gone)
 rest:Fv w x.rv x.r
theorem gR.below{p:Int}{w w':World}{x:Mm}(h:gR p w x)(hb:Below w.heap.size w w'):gR p w' x:=⟨h.div.below hb,ae h.gone hb,h.rest.below hb⟩
def mS(w:World)(u:Value)(l:List Mm):Prop:=∃a c,u=.slice a l.length c/\∀j (h:j<l.length),∃b off,a=some ⟨b,off,none⟩/\w.cell? ⟨b,off+j,none⟩=some (.pointer (some ⟨l[j].blk,0,none⟩))
theorem mS.below{w w':World}{u:Value}{l:List Mm}(h:mS w u l)(hb:Below w.heap.size w w'):mS w' u l:=by obtain⟨a,c,h1,h2⟩:=h;refine⟨a,c,h1,λj hj=>?_⟩;obtain⟨b,off,h3,h4⟩:=h2 j hj;exact⟨b,off,h3,ae h4 hb⟩
def bI(ms:List Mm)(pl:Nat):List Mm:=ms.filter λx=>decide (x.L.pl=pl)
structure gM(p:Int)(w:World)(mb R:Nat)(ms:List Mm):Prop where
 row:∃g c,w.cell? ⟨mb,2,none⟩=some (.slice (some ⟨g,0,none⟩) R c)/\∀pl,pl<R->∃u,w.cell? ⟨g,pl,none⟩=some u/\mS w u (bI ms pl)
 mem:∀x∈ms,gR p w x
 work:w.cell? ⟨mb,4,none⟩=some (.pointer none)
theorem gM.below{p:Int}{w w':World}{mb R:Nat}{ms:List Mm}(h:gM p w mb R ms)(hb:Below w.heap.size w w'):gM p w' mb R ms:=by obtain⟨⟨g,c,h1,h2⟩,h3,h4⟩:=h;refine⟨⟨g,c,ae h1 hb,λpl hp=>?_⟩,λx hx=>(h3 x hx).below hb,ae h4 hb⟩;obtain⟨u,q1,q2⟩:=h2 pl hp;exact⟨u,ae q1 hb,q2.below hb⟩
def eU(t:Ft)(x:Mm):Bool:=!x.gone&&dE x.L t
def fm(ms:List Mm)(t:Ft):Option Mm:=(bI ms t.pl.toNat).find? (eU t)
def mJ(x:Option Mm):Value:=.pointer (x.map λx=>⟨x.blk,0,none⟩)
theorem ur(p:Int)(mb R:Nat)(ms:List Mm)(t:Ft)(w:World)(hm:gM p w mb R ms)(hn:ms.length<=1000)(h0:0<=t.pl)(hR:t.pl<R):Calls prog 113 #[.pointer (some ⟨mb,0,none⟩),aY t] w λe w'=>e=.returned (mJ (fm ms t))/\Below w.heap.size w w':=by
 obtain⟨n,hnpl⟩:∃n:Nat,t.pl=n:=⟨t.pl.toNat,by omega⟩;have hnR:n<R:=by omega
 have HMEM:=aa hm.mem;obtain⟨g,c,hg1,hg2⟩:=hm.row;obtain⟨u,hu1,hu2⟩:=hg2 n hnR;obtain⟨a,c2,rfl,hpt⟩:=hu2;have HPT:=aa hpt;have htn:t.pl.toNat=n:=by omega
 have HFM:Ic (fm ms t=(bI ms n).find? (eU t)):=by show _=_;unfold fm;rw[htn]
 have HSUB:Ic (∀x∈bI ms n,x∈ms):=λx hx=>(List.mem_filter.1 hx).1;have hln:(bI ms n).length<=1000:=Hk (List.length_filter_le _ _) hn;obtain⟨w1,hw1⟩:∃w1,w1=w.alloc (.cells #[.int .i64 t.k,.int .u16 t.a,.int .u16 t.b,.int .u16 t.d,.int .u16 t.z,.int .u8 t.pl,.int .u8 t.c] 144):=⟨_,rfl⟩;have HB1:Ic (Below w.heap.size w w1):=by rw[hw1];exact af
 have HX1:Ic (Bx w.heap.size w1 w.heap.size t):=by rw[hw1];exact cS (He _) t
 have HPLN:=aa hnpl;have k1:=ae hg1 HB1.o;have k2:=ae hu1 HB1.o;obtain⟨y0,y1,y2,y3,y4,y5,y6⟩:=HX1.o.at;simp only[Hy] at y0 y1 y2 y3 y4 y5 y6;rw[hnpl] at y5;have hnRI:(n:Int)<(R:Int):=by omega
 clear hm hg1 hg2 hu1 hpt htn hn y0 y1 y2 y3 y4 y6 hnpl h0 hR;rw[HFM.o];clear HFM;generalize bI ms n=l at*;unfold aY;go_enter func113,ntmps113;go_upto_region 1 with fail;rw[<-hw1];clear hw1;go_quiet (fail);clear k1 k2 y5;have HB2:Ic (Below w1.heap.size w1 (w1.drewN nq)):=below_drewN (Hf _ _) _;go_wp2_with fail;go_loopw [16] (λi wr=>∃m:Nat,m<=l.length/\i=.int .i64 m/\(∀j (h:j<l.length),j<m->eU t l[j]=false)/\Below w1.heap.size w1 wr) (λi _=>l.length-(intOf i).toNat);case atStart=>exact⟨0,Hl _,rfl,λj _ h=>by omega,HB2.o⟩
 case round=>
  obtain⟨m,hm,rfl,hno,hbr⟩:=hrel;have HNO:=aa hno;have HBR:=aa hbr;clear hno hbr;have HBT:=aa (HB1.o.trans (HBR.o.mono HB1.o.size));by_cases hm2:m<l.length
  ·obtain⟨b,off,rfl,hcell⟩:=HPT.o m hm2;have k1:=ae hcell HBT.o;have HM:=aa ((HMEM.o _ (HSUB.o _ (Hp hm2))).below HBT.o);have HXR:=aa (HX1.o.below HBR.o);have HFI:Ic (eU t l[m]=true->l.find? (eU t)=some l[m]):=λh=>by rw[List.find?_eq_some_iff_getElem];exact⟨h,m,hm2,rfl,λj hj=>by have:=HNO.o j (by omega) hj;simp[this]⟩
   have HNX:Ic (eU t l[m]=false->∀j (h:j<l.length),j<m+1->eU t l[j]=false):=λh j hj hjm=>by
    rcases Nat.lt_succ_iff_lt_or_eq.1 hjm with h2|rfl
    ·exact HNO.o j hj h2
    ·exact h
   have hmI:(m:Int)<(l.length:Int):=by omega
   have HPM:Ic (∀x,l.find? (eU t)=some x->mJ (l.find? (eU t))=.pointer (some ⟨x.blk,0,none⟩)):=λx h=>by rw[h];rfl
   generalize hx:l[m]=x at*;clear hx hcell;cases hgn:x.gone with
   |true=>
    have HGO:Ic (eU t x=false):=by show _=_;unfold eU;rw[hgn];rfl
    have k2:=HM.o.gone;rw[hgn] at k2;clear hgn;go_upto_region 4 with fail;go_quiet (fail);go_wp2;go_roundw;case rel=>exact⟨m+1,by omega,by go_num,HNX.o HGO.o,below_drewN HBR.o _⟩
    case measure=>simp[intOf];omega
   |false=>
    have HGO:Ic (eU t x=dE x.L t):=by show _=_;unfold eU;rw[hgn];rfl
    have k2:=HM.o.gone;rw[hgn] at k2;clear hgn;have HIN:Ic (∀W,Below wr.heap.size wr W->Calls prog 104 #[.pointer (some ⟨x.blk,0,none⟩),aY t] W λe w'=>e=.returned (.bool (dE x.L t))/\Below W.heap.size W w'):=λW hb=>vS x.blk 0 x.L t _ _ _ W (HM.o.div.below hb);unfold aY at HIN;have KEEP:Ic (∀W,Below wr.heap.size wr W->(Ic (Below wr.heap.size wr W)/\W.cell? ⟨x.blk,10,none⟩=some (.bool false)/\W.cell? ⟨w.heap.size,0,none⟩=some (.int .i64 t.k)/\W.cell? ⟨w.heap.size,1,none⟩=some (.int .u16 t.a)/\W.cell? ⟨w.heap.size,2,none⟩=some (.int .u16 t.b)/\W.cell? ⟨w.heap.size,3,none⟩=some (.int .u16 t.d)/\W.cell? ⟨w.heap.size,4,none⟩=some (.int .u16 t.z)/\W.cell? ⟨w.heap.size,5,none⟩=some (.int .u8 t.pl)/\W.cell? ⟨w.heap.size,6,none⟩=some (.int .u8 t.c))):=λW hb=>by obtain⟨y0,y1,y2,y3,y4,y5,y6⟩:=HXR.o.at.keep hb;simp only[Hy] at y0 y1 y2 y3 y4 y5 y6;exact⟨hb,ae k2 hb,y0,y1,y2,y3,y4,y5,y6⟩
    have HB0:Ic (Below wr.heap.size wr wr.drew):=(Hf _ _).drew;have HG2:=HGO.o;rw[HGO.o] at HFI HNX;generalize dE x.L t=bb at HIN HFI HNX;clear HGO HG2 k2;go_upto_region 4 with fail;go_region_held (λW=>Ic (Below wr.heap.size wr W)/\W.cell? ⟨x.blk,10,none⟩=some (.bool false)/\W.cell? ⟨w.heap.size,0,none⟩=some (.int .i64 t.k)/\W.cell? ⟨w.heap.size,1,none⟩=some (.int .u16 t.a)/\W.cell? ⟨w.heap.size,2,none⟩=some (.int .u16 t.b)/\W.cell? ⟨w.heap.size,3,none⟩=some (.int .u16 t.d)/\W.cell? ⟨w.heap.size,4,none⟩=some (.int .u16 t.z)/\W.cell? ⟨w.heap.size,5,none⟩=some (.int .u8 t.pl)/\W.cell? ⟨w.heap.size,6,none⟩=some (.int .u8 t.c))
     (first|exact KEEP.o _ HB0.o|exact KEEP.o _ HB9.o)
     (first|(go_at_call 104;refine(HIN.o _ HB0.o).mono ?_;rintro e w9 ⟨rfl,hb9⟩;have HB9:=aa (HB0.o.trans (hb9.mono HB0.o.size));clear hb9))
    cases bb with
    |true=>have HE:=aa (HPM.o x (HFI.o rfl));go_wp2;go_ret;refine⟨?_,HBT.o.trans (HB9.o.mono HBT.o.size)⟩;rw[HE.o];rfl
    |false=>
     go_wp2;go_roundw;case rel=>exact⟨m+1,by omega,by go_num,HNX.o rfl,HBR.o.trans (HB9.o.mono HBR.o.size)⟩
     case measure=>simp[intOf];omega
  ·have e:m=l.length:=by omega
   subst e;have HE:Ic (l.find? (eU t)=none):=by show _=_;rw[List.find?_eq_none];intro d hdm;obtain⟨j,hj,rfl⟩:=List.getElem_of_mem hdm;have:=HNO.o j hj hj;simp[this]
   go_wp2;go_ret;refine⟨?_,HBT.o⟩;rw[HE.o];rfl
theorem CO(n:Int)(w:World):Calls prog 167 #[.pointer none,.int .i64 n] w λe w'=>e=.returned (.tuple #[])/\w'=w:=by go_enter func167,ntmps167;go_wp2;go_end0;exact⟨rfl,rfl⟩
theorem qH(w:World):Calls prog 168 #[.pointer none] w λe w'=>e=.returned (.bool false)/\∃n,w'=w.drewN n:=by go_enter func168,ntmps168;go_wp2;go_ret;exact⟨rfl,0,rfl⟩
theorem CP(mb g dof:Nat)(L t:Ft)(ra:Option Addr)(rn rc:Nat)(num inv:Int)(w:World)(hw:w.cell? ⟨mb,4,none⟩=some (.pointer none))(hd:jo w g dof L (.slice ra rn rc) num inv)(hr:rn<=100000000000):Calls prog 114 #[.pointer (some ⟨mb,0,none⟩),.pointer (some ⟨g,dof,none⟩),aY t] w λe w'=>e=.returned (.bool true)/\Below w.heap.size w w':=by
 obtain⟨w1,hw1⟩:∃w1,w1=w.alloc (.cells #[.int .i64 t.k,.int .u16 t.a,.int .u16 t.b,.int .u16 t.d,.int .u16 t.z,.int .u8 t.pl,.int .u8 t.c] 144):=⟨_,rfl⟩;have HB1:Ic (Below w.heap.size w w1):=by rw[hw1];exact af
 have k1:=ae hw HB1.o;have k2:=ae hd.c7 HB1.o;clear hw hd;unfold aY;go_enter func114,ntmps114;go_upto_region 1 with fail;rw[<-hw1];clear hw1;have K0:Ic (w1.drew.cell? ⟨mb,4,none⟩=some (.pointer none)/\w1.drew.cell? ⟨g,dof+7,none⟩=some (.slice ra rn rc)):=⟨k1,k2⟩;go_region_held (λW=>W.cell? ⟨mb,4,none⟩=some (.pointer none)/\W.cell? ⟨g,dof+7,none⟩=some (.slice ra rn rc))
  (first|with_reducible exact K0.o)
  (first|(go_at_call 167;refine(CO _ _).mono ?_;rintro e w' ⟨rfl,rfl⟩))
 go_wp2_with (go_at_call 168;refine(qH _).mono ?_;rintro e w' ⟨rfl,n9,rfl⟩);go_ret;exact⟨rfl,below_drewN HB1.o _⟩
def vT(w:World)(b:Nat):Prop:=∃i x,w.cell? ⟨b,i,none⟩=some (.int .u8 x)
structure cO(w w':World):Prop where
 size:w.heap.size<=w'.heap.size
 keep:∀b j u,vT w b->w.cell? ⟨b,j,none⟩=some u->(∀c,u≠.bool c)->w'.cell? ⟨b,j,none⟩=some u
theorem cO.refl(w:World):cO w w:=⟨He _,λ_ _ _ _ h _=>h⟩
theorem cO.trans{a b c:World}(h:cO a b)(k:cO b c):cO a c:=by refine⟨Hk h.size k.size,λbl j u hb hc hn=>k.keep bl j u ?_ (h.keep bl j u hb hc hn) hn⟩;obtain⟨i,x,hi⟩:=hb;exact⟨i,x,h.keep bl i _ ⟨i,x,hi⟩ hi (λc e=>by cases e)⟩
theorem cO.of_below{w w':World}(h:Below w.heap.size w w'):cO w w':=⟨h.size,λb j u _ hc _=>ae hc h⟩
def dY(u:Value):Prop:=∀x,u≠.int .u8 x
theorem cO.of_frm{S:Nat->Prop}{w w':World}(h:ao S w w')(hn:∀g,S g->bO dY w g):cO w w':=
 ⟨h.size,λb j u hb hc _=>h.cell hc λhs=>by obtain⟨i,x,hi⟩:=hb;exact hn b hs i _ hi x rfl⟩
theorem cO.of_bool{w:World}{b j:Nat}{c:Bool}(hc:w.cell? ⟨b,j,none⟩=some (.bool c))(u:Value):cO w (w.setCell ⟨b,j,none⟩ u):=by
 refine⟨by simp[World.setCell],λb2 j2 u2 _ hc2 hn=>?_⟩;rw[World.cell?_setCell_other]
 ·exact hc2
 ·intro e;rw[<-e,hc] at hc2;exact hn c (by simpa using hc2.symm)
theorem CQ(fs:List Ft):∀u∈aD fs,∀c,u≠.bool c:=by intro u hu c e;simp only[aD,List.mem_flatMap] at hu;obtain⟨t,_,hu⟩:=hu;subst e;simp[aA] at hu
theorem Fv.fr8{w w':World}{v:Value}{fs:List Ft}(h:Fv w v fs)(k:cO w w'):Fv w' v fs:=by
 obtain⟨a,cap,rfl,hc,h1⟩:=h;refine⟨a,cap,rfl,hc,λhp=>?_⟩;obtain⟨b,off,rfl,hlt,hcs⟩:=h1 hp;have hb:vT w b:=by
  cases fs with
  |nil=>simp at hp
  |cons t ts=>exact⟨off+5,t.pl,hcs 5 _ rfl⟩
 exact⟨b,off,rfl,Hj hlt k.size,λj u hj=>k.keep b _ u hb (hcs j u hj) (CQ fs u (List.mem_of_getElem? hj))⟩
def ow(p:Int)(x:Mm):List Value:=lL x.L x.rv 0 (aC p x.L.c)++[.bool x.gone]
def jq(b:Nat):Value:=.slice (some ⟨b,0,none⟩) 1 1
structure bN(p:Int)(B:Nat)(w:World)(x:Mm):Prop where
 own:w.ownsRow B 154 11 (jq x.blk) 1 (ow p x)
 rest:Fv w x.rv x.r
theorem bN.next{p:Int}{B:Nat}{w w':World}{x:Mm}(h:bN p B w x)(hb:Below w.heap.size w w'):bN p B w' x:=⟨aH h.own hb,h.rest.below hb⟩
theorem bN.lt{p:Int}{B:Nat}{w:World}{x:Mm}(h:bN p B w x):B<=x.blk/\x.blk<w.heap.size:=Hd h.own x.blk rfl
theorem bN.mbr{p:Int}{B:Nat}{w:World}{x:Mm}(h:bN p B w x):gR p w x:=by
 have hc:∀j,j<11->w.cell? ⟨x.blk,j,none⟩=(ow p x)[j]?:=λj hj=>Hc h.own j (by omega);refine⟨⟨h.lt.2,λj u hj=>?_,?_,?_,?_⟩,?_,h.rest⟩
 ·have hj7:j<7:=by apply Ib;intro hle;rw[Hu (by simpa [aA] using hle)] at hj;simp at hj
  rw[Hy,hc j (by omega)];have:j=0\/j=1\/j=2\/j=3\/j=4\/j=5\/j=6:=by omega
  rcases this with rfl|rfl|rfl|rfl|rfl|rfl|rfl<;>exact hj
 ·rw[hc 7 (by omega)];rfl
 ·rw[hc 8 (by omega)];rfl
 ·rw[hc 9 (by omega)];rfl
 ·rw[hc 10 (by omega)];rfl
theorem bN.frm{p:Int}{B:Nat}{S:Nat->Prop}{w w':World}{x:Mm}(h:bN p B w x)(hf:ao S w w')(h8:cO w w')(hs:¬S x.blk):bN p B w' x:=
 ⟨hf.own h.own λg hg=>by simp only[jq,Value.ownBlock,H6] at hg;rw[<-hg];exact hs,h.rest.fr8 h8⟩
theorem bN.nob{p:Int}{B:Nat}{w:World}{x:Mm}(h:bN p B w x){g:Nat}(hk:bO dY w g):x.blk≠g:=λe=>by have:=h.mbr.div.cells.2.2.2.2.2.1;rw[e] at this;exact hk _ _ this _ rfl
theorem bN.put{p:Int}{B:Nat}{w:World}{x:Mm}(h:bN p B w x)(c:Bool):bN p B (w.setCell ⟨x.blk,10,none⟩ (.bool c)) {x with gone:=c}/\w.grownBy (w.setCell ⟨x.blk,10,none⟩ (.bool c)) (some x.blk)/\cO w (w.setCell ⟨x.blk,10,none⟩ (.bool c)):=by have h1:=Hq h.own 10 (.bool c);have h8:=cO.of_bool h.mbr.gone (.bool c);refine⟨⟨?_,h.rest.fr8 h8⟩,h1.2,h8⟩;have:=h1.1;have e:(ow p x).set 10 (.bool c)=ow p {x with gone:=c}:=rfl;rw[e] at this;exact this
def fK(x:Mm):Value:=.pointer (some ⟨x.blk,0,none⟩)
structure ei(p:Int)(B:Nat)(w:World)(R g:Nat)(us:List Value)(ms:List Mm):Prop where
 o:w.ownsRow B 150 1 (.slice (some ⟨g,0,none⟩) R R) R us
 okd:bO dY w g
 row:∀pl,pl<R->w.ownsRow B 102 1 (us.getD pl aP) (bI ms pl).length ((bI ms pl).map fK)
 rkd:∀pl,pl<R->∀k,(us.getD pl aP).ownBlock=some k->bO dY w k
 dis:∀i j,i<R->j<R->i≠j->∀k,(us.getD i aP).ownBlock=some k->(us.getD j aP).ownBlock≠some k
 mem:∀x∈ms,bN p B w x
 nd:(ms.map Mm.blk).Nodup
theorem ei.frm{p:Int}{B:Nat}{S:Nat->Prop}{w w':World}{R g:Nat}{us:List Value}{ms:List Mm}(h:ei p B w R g us ms)(hf:ao S w w')(hn:∀k,S k->bO dY w k)(ht:∀k,S k->cX w 150 k/\cX w 102 k):ei p B w' R g us ms:=by
 have h8:=cO.of_frm hf hn;have hog:¬S g:=λhs=>by obtain⟨ai,e⟩:=cD h.o (g:=g) rfl;exact(ht g hs).1 ai e
 refine⟨eh hf h.o λk hk=>(ht k hk).1,hf.kdb h.okd (Hd h.o g rfl).2 hog,λpl hp=>eh hf (h.row pl hp) λk hk=>(ht k hk).2,λpl hp k hk=>?_,h.dis,λx hx=>(h.mem x hx).frm hf h8 λhs=>(h.mem x hx).nob (hn _ hs) rfl,h.nd⟩;refine hf.kdb (h.rkd pl hp k hk) (Hd (h.row pl hp) k hk).2 λhs=>?_;obtain⟨ai,e⟩:=cD (h.row pl hp) hk;exact(ht k hs).2 ai e
theorem ei.next{p:Int}{B:Nat}{w w':World}{R g:Nat}{us:List Value}{ms:List Mm}(h:ei p B w R g us ms)(hb:Below w.heap.size w w'):ei p B w' R g us ms:=
 h.frm (S:=λ_=>False) (ao.of_below hb) (λ_ h=>h.elim) λ_ h=>h.elim
theorem vU(f:Mm->Mm)(hf:∀x,(f x).L=x.L)(ms:List Mm)(pl:Nat):bI (ms.map f) pl=(bI ms pl).map f:=by unfold bI;rw[List.filter_map];congr 1;apply List.filter_congr;intro x _;simp only[Function.comp,hf]
def fq(b:Nat)(c:Bool)(x:Mm):Mm:=if x.blk=b then {x with gone:=c} else x
theorem qI(b:Nat)(c:Bool)(x:Mm):(fq b c x).L=x.L/\(fq b c x).blk=x.blk/\(fq b c x).rv=x.rv/\(fq b c x).r=x.r:=by unfold fq;split<;>simp
theorem ei.put{p:Int}{B:Nat}{w:World}{R g:Nat}{us:List Value}{ms:List Mm}(h:ei p B w R g us ms){x:Mm}(hx:x∈ms)(c:Bool):ei p B (w.setCell ⟨x.blk,10,none⟩ (.bool c)) R g us (ms.map (fq x.blk c)):=by
 obtain⟨h1,h2,h8⟩:=(h.mem x hx).put c;have hf:ao (λk=>k=x.blk) w (w.setCell ⟨x.blk,10,none⟩ (.bool c)):=ao.of_grown h2 λk e=>by simpa using e.symm
 have hT:∀{T:TypeId},154≠T->∀k,k=x.blk->cX w T k:=λhT k e=>by subst e;exact bM (h.mem x hx).own rfl hT
 have hrow:∀pl,(bI (ms.map (fq x.blk c)) pl).map fK=(bI ms pl).map fK/\(bI (ms.map (fq x.blk c)) pl).length=(bI ms pl).length:=λpl=>by rw[vU _ λy=>(qI x.blk c y).1,List.map_map];refine⟨?_,by simp⟩;apply List.map_congr_left;intro y _;simp only[Function.comp,fK,(qI x.blk c y).2.1]
 refine⟨eh hf h.o (hT (by decide)),hf.kdb h.okd (Hd h.o g rfl).2 λe=>?_,λpl hp=>?_,λpl hp k hk=>?_,h.dis,λy hy=>?_,?_⟩
 ·obtain⟨ai,e2⟩:=cD h.o (g:=g) rfl;exact hT (T:=150) (by decide) g e ai e2
 ·rw[(hrow pl).1,(hrow pl).2];exact eh hf (h.row pl hp) (hT (by decide))
 ·refine hf.kdb (h.rkd pl hp k hk) (Hd (h.row pl hp) k hk).2 λe=>?_;obtain⟨ai,e2⟩:=cD (h.row pl hp) hk;exact hT (T:=102) (by decide) k e ai e2
 ·obtain⟨y0,hy0,rfl⟩:=H8.1 hy;by_cases e:y0.blk=x.blk
  ·have e2:y0=x:=by
    have hnd:=h.nd;rw[List.nodup_iff_pairwise_ne,List.pairwise_map] at hnd;apply Classical.byContradiction;intro hne;obtain⟨i,hi,rfl⟩:=List.getElem_of_mem hy0;obtain⟨j,hj,rfl⟩:=List.getElem_of_mem hx;rw[List.pairwise_iff_getElem] at hnd;rcases Nat.lt_trichotomy i j with hl|hl|hl
    ·exact hnd i j hi hj hl e
    ·subst hl;exact hne rfl
    ·exact hnd j i hj hi hl e.symm
   subst e2;unfold fq;rw[if_pos rfl];exact h1
  ·unfold fq;rw[if_neg e];exact(h.mem y0 hy0).frm hf h8 e
 ·rw[List.map_map];have:(Mm.blk∘fq x.blk c)=Mm.blk:=by funext y;exact(qI x.blk c y).2.1
  rw[this];exact h.nd
structure Pq where
 b1:Nat
 b2:Nat
 a:Int
 b:Int
 d:Int
 z:Int
 dg:Int
 k:Int
def aI(q:Pq):List Value:=[.pointer (some ⟨q.b1,0,none⟩),.pointer (some ⟨q.b2,0,none⟩),.int .u16 q.a,.int .u16 q.b,.int .u16 q.d,.int .u16 q.z,.int .i64 q.dg,.int .i64 q.k]
def dw(q:Pq):Value:=.agg #[.pointer (some ⟨q.b1,0,none⟩),.pointer (some ⟨q.b2,0,none⟩),.int .u16 q.a,.int .u16 q.b,.int .u16 q.d,.int .u16 q.z,.int .i64 q.dg,.int .i64 q.k]
def ct(qs:List Pq):List Value:=qs.flatMap aI
theorem lF(qs:List Pq):(ct qs).length=qs.length*8:=by
 induction qs with
 |nil=>rfl
 |cons q qs ih=>simp only[ct,List.flatMap_cons,Hx,List.length_cons] at ih⊢;rw[ih];simp[aI];omega
theorem vV(a b:List Pq):ct (a++b)=ct a++ct b:=by unfold ct;rw[List.flatMap_append]
theorem qx(q:Pq):∀u∈aI q,u.oneCell'=true:=by intro u hu;simp only[aI,List.mem_cons,List.not_mem_nil,or_false] at hu;rcases hu with rfl|rfl|rfl|rfl|rfl|rfl|rfl|rfl<;>rfl
theorem CR(qs:List Pq):∀u∈ct qs,u.oneCell'=true:=by intro u hu;simp only[ct,List.mem_flatMap] at hu;obtain⟨t,_,hu⟩:=hu;exact qx t u hu
theorem CS(q:Pq):∀u∈aI q,dY u:=by intro u hu x e;subst e;simp[aI] at hu
theorem CW(qs:List Pq):∀u∈ct qs,dY u:=by intro u hu;simp only[ct,List.mem_flatMap] at hu;obtain⟨t,_,hu⟩:=hu;exact CS t u hu
structure bD(B:Nat)(w:World)(v:Value)(qs:List Pq):Prop where
 own:w.ownsRow B 104 8 v qs.length (ct qs)
 kd:∀g,v.ownBlock=some g->bO dY w g
theorem bD.nil(B:Nat)(w:World):bD B w (.slice none 0 0) []:=⟨World.ownsRow_nil _ _ _ _,λg hg=>by simp[Value.ownBlock] at hg⟩
theorem bD.next{B:Nat}{w w':World}{v:Value}{qs:List Pq}(h:bD B w v qs)(hb:Below w.heap.size w w'):bD B w' v qs:=
 ⟨aH h.own hb,λg hg=>(h.kd g hg).below (hb.block g (Hd h.own g hg).2)⟩
theorem bD.frm{B:Nat}{S:Nat->Prop}{w w':World}{v:Value}{qs:List Pq}(h:bD B w v qs)(hf:ao S w w')(hs:∀g,v.ownBlock=some g->¬S g):bD B w' v qs:=
 ⟨hf.own h.own hs,λg hg=>hf.kdb (h.kd g hg) (Hd h.own g hg).2 (hs g hg)⟩
def gS(ob g R:Nat)(dv pv:Value):List Value:=[.pointer (some ⟨ob,0,none⟩),dv,.slice (some ⟨g,0,none⟩) R R,pv,.pointer none]
structure bH(p:Int)(B:Nat)(w:World)(mb ob R g:Nat)(dv pv:Value)(us:List Value)(ms:List Mm)(qs:List Pq):Prop where
 box:w.ownsRow B 98 5 (jq mb) 1 (gS ob g R dv pv)
 dvs:∃a n c,dv=.slice a n c
 mks:ei p B w R g us ms
 prs:bD B w pv qs
theorem bD.sl{B:Nat}{w:World}{v:Value}{qs:List Pq}(h:bD B w v qs):∃a c,v=.slice a qs.length c:=cq h.own
theorem bH.kd{p:Int}{B:Nat}{w:World}{mb ob R g:Nat}{dv pv:Value}{us:List Value}{ms:List Mm}{qs:List Pq}(h:bH p B w mb ob R g dv pv us ms qs):bO dY w mb:=by
 rcases h.box.2 with ⟨h1,_⟩|⟨g2,cap,ai,h1,_,hh,_,_,hcs,htake⟩
 ·simp[jq] at h1
 ·simp only[jq,H7,H6,Addr.mk.injEq,and_true,true_and] at h1;obtain⟨rfl,rfl⟩:=h1;refine lI hh λu hu=>?_;have e:ai.toList=gS ob g R dv pv:=by rw[<-htake,Hz (by rw[Array.length_toList,hcs];omega)]
  rw[e] at hu;obtain⟨a,n,c,rfl⟩:=h.dvs;obtain⟨a2,c2,rfl⟩:=h.prs.sl;intro x ex;subst ex;simp[gS] at hu
theorem bH.next{p:Int}{B:Nat}{w w':World}{mb ob R g:Nat}{dv pv:Value}{us:List Value}{ms:List Mm}{qs:List Pq}(h:bH p B w mb ob R g dv pv us ms qs)(hb:Below w.heap.size w w'):bH p B w' mb ob R g dv pv us ms qs:=
 ⟨aH h.box hb,h.dvs,h.mks.next hb,h.prs.next hb⟩
theorem bH.cells{p:Int}{B:Nat}{w:World}{mb ob R g:Nat}{dv pv:Value}{us:List Value}{ms:List Mm}{qs:List Pq}(h:bH p B w mb ob R g dv pv us ms qs):w.cell? ⟨mb,0,none⟩=some (.pointer (some ⟨ob,0,none⟩))/\w.cell? ⟨mb,1,none⟩=some dv/\w.cell? ⟨mb,2,none⟩=some (.slice (some ⟨g,0,none⟩) R R)/\w.cell? ⟨mb,3,none⟩=some pv/\w.cell? ⟨mb,4,none⟩=some (.pointer none):=by have hc:∀j,j<5->w.cell? ⟨mb,j,none⟩=(gS ob g R dv pv)[j]?:=λj hj=>Hc h.box j (by omega);exact⟨by rw[hc 0 (by omega)];rfl,by rw[hc 1 (by omega)];rfl,by rw[hc 2 (by omega)];rfl,by rw[hc 3 (by omega)];rfl,by rw[hc 4 (by omega)];rfl⟩
theorem ei.at{p:Int}{B:Nat}{w:World}{R g:Nat}{us:List Value}{ms:List Mm}(h:ei p B w R g us ms)(pl:Nat)(hp:pl<R):w.cell? ⟨g,pl,none⟩=some (us.getD pl aP)/\w.frozen? ⟨g,pl,none⟩=false:=by
 have hl:us.length=R:=by have:=h.o.1;omega
 refine⟨?_,Hb h.o pl⟩;rw[Hc h.o pl (by omega)];rw[Hs,Ht (by omega)];rfl
theorem ei.pts{p:Int}{B:Nat}{w:World}{R g:Nat}{us:List Value}{ms:List Mm}(h:ei p B w R g us ms)(pl:Nat)(hp:pl<R):mS w (us.getD pl aP) (bI ms pl):=by have ho:=h.row pl hp;obtain⟨a,c,e⟩:=cq ho;refine⟨a,c,e,λj hj=>?_⟩;rw[e] at ho;obtain⟨b,rfl,_,hlt,hc⟩:=kz ho j (by simpa using hj);exact⟨b,0,rfl,by rw[Hy,hc,List.getElem?_map,Ht hj];rfl⟩
theorem bH.mrw{p:Int}{B:Nat}{w:World}{mb ob R g:Nat}{dv pv:Value}{us:List Value}{ms:List Mm}{qs:List Pq}(h:bH p B w mb ob R g dv pv us ms qs):gM p w mb R ms:=by obtain⟨_,_,c2,_,c4⟩:=h.cells;exact⟨⟨g,R,c2,λpl hp=>⟨_,(h.mks.at pl hp).1,h.mks.pts pl hp⟩⟩,λx hx=>(h.mks.mem x hx).mbr,c4⟩
theorem bH.repair{p:Int}{B:Nat}{w w2:World}{mb ob R g:Nat}{dv pv pv2:Value}{us:List Value}{ms:List Mm}{qs qs2:List Pq}(h:bH p B w mb ob R g dv pv us ms qs)(hB:B<=w.heap.size)(hf:ao (λk=>pv.ownBlock=some k) w w2)(hp:bD B w2 pv2 qs2):bH p B (w2.setCell ⟨mb,3,none⟩ pv2) mb ob R g dv pv2 us ms qs2/\ao (λk=>k=mb\/pv.ownBlock=some k) w (w2.setCell ⟨mb,3,none⟩ pv2)/\Below B w (w2.setCell ⟨mb,3,none⟩ pv2):=by
 have hm2:w2.ownsRow B 98 5 (jq mb) 1 (gS ob g R dv pv):=eh hf h.box λk hk=>bM h.prs.own hk (by decide);have hst:=Hq hm2 3 pv2;have e:(gS ob g R dv pv).set 3 pv2=gS ob g R dv pv2:=rfl;rw[e] at hst;have hf2:ao (λk=>k=mb) w2 (w2.setCell ⟨mb,3,none⟩ pv2):=ao.of_grown hst.2 λk e=>by simpa using e.symm
 have hkm:bO dY w2 mb:=by refine hf.kdb h.kd (Hd h.box mb rfl).2 λe=>?_;obtain⟨ai,e2⟩:=cD h.box (g:=mb) rfl;exact bM h.prs.own e (T':=98) (by decide) ai e2
 have hA2:ei p B w2 R g us ms:=h.mks.frm hf (λk hk=>h.prs.kd k hk) λk hk=>⟨bM h.prs.own hk (by decide),bM h.prs.own hk (by decide)⟩;have hA3:=hA2.frm hf2 (λk hk=>by rw[hk];exact hkm) λk hk=>by subst hk;exact⟨bM hm2 rfl (by decide),bM hm2 rfl (by decide)⟩
 have hp3:=hp.frm hf2 λk hk e=>by subst e;obtain⟨ai,e2⟩:=cD hm2 (g:=k) rfl;exact bM hp.own hk (T':=98) (by decide) ai e2
 have hff:ao (λk=>k=mb\/pv.ownBlock=some k) w (w2.setCell ⟨mb,3,none⟩ pv2):=(hf.wide (T:=λk=>k=mb\/pv.ownBlock=some k) λ_ _ h=>Or.inr h).trans hf2 λk _ e=>Or.inl e;refine⟨⟨hst.1,h.dvs,hA3,hp3⟩,hff,hff.to_below hB λk hk=>?_⟩;rcases hk with rfl|hk
 ·exact(Hd h.box k rfl).1
 ·exact(Hd h.prs.own k hk).1
theorem Tryz.infoPms:(prog.info? 150).map (λi=>(i.zero,i.size,i.bytes))=some (some (.slice none 0 0),1,24):=by kernel_rfl
theorem vW(n:Nat):(madeCells #[.slice none 0 0] n).toList=List.replicate n aP:=by
 apply List.ext_getElem
 ·simp[size_madeCells]
 ·intro i h1 h2;simp[madeCells,Nat.mod_one,aP]
theorem CX(p:Int)(w:World)(R:Nat)(hR:R<=255):ei p w.heap.size (w.alloc (.cells (madeCells #[.slice none 0 0] R) 150)) R w.heap.size (List.replicate R aP) []:=by
 have hg:∀pl,(List.replicate R aP).getD pl aP=aP:=λpl=>by
  rw[Hs];by_cases h:pl<R
  ·rw[Ht (by simpa using h)];simp
  ·rw[Hu (by simpa using h)];rfl
 have ho:∀{k:Nat},aP.ownBlock=some k->False:=λh=>by simp[aP,Value.ownBlock] at h
 refine⟨⟨by simp,.inr ⟨w.heap.size,R,_,rfl,He _,heap_alloc_new w _,He _,by unfold maxLen;omega,by simp[size_madeCells],?_⟩⟩,ox λu hu=>?_,λpl _=>?_,λpl _ k hk=>?_,λi j _ _ _ k hk=>?_,λx hx=>by simp at hx,by simp⟩
 ·rw[vW];simp
 ·rw[vW] at hu;have:=(List.mem_replicate.1 hu).2;rw[this];intro x e;simp[aP] at e
 ·rw[hg];exact World.ownsRow_nil _ _ _ _
 ·rw[hg] at hk;exact(ho hk).elim
 ·rw[hg] at hk;exact(ho hk).elim
theorem qi(p:Int)(ob R b off c:Nat)(w:World)(hR:R<=255):Calls prog 57 #[.pointer (some ⟨ob,0,none⟩),.slice (some ⟨b,off,none⟩) R c] w λe w'=>∃mb g us,e=.returned (.pointer (some ⟨mb,0,none⟩))/\bH p w.heap.size w' mb ob R g (.slice (some ⟨b,off,none⟩) R c) (.slice none 0 0) us [] []/\Below w.heap.size w w':=by
 have hmk:=fun(W:World)=>run_make_row' (P:=prog) 94 150 (.slice none 0 0) 24 underlying94 Tryz.infoPms rfl .i64 .i64 R (by omega) (by omega) W;have HA:=aa (CX p w R hR);go_enter func57,ntmps57;go_wp2;go_ret;obtain⟨w1,hw1⟩:∃w1,w1=w.alloc (.cells (madeCells #[.slice none 0 0] R) 150):=⟨_,rfl⟩;have hs1:w1.heap.size=w.heap.size+1:=by rw[hw1];simp
 have h1:Below w.heap.size w w1:=by rw[hw1];exact af
 have h0:=HA.o;rw[<-hw1] at h0⊢;have h2:=h0.next (af (A:=.cells #[.pointer (some ⟨ob,0,none⟩),.slice (some ⟨b,off,none⟩) R c,.slice (some ⟨w.heap.size,0,none⟩) R R,.slice none 0 0,.pointer none] 98));have hbx:(w1.alloc (.cells #[.pointer (some ⟨ob,0,none⟩),.slice (some ⟨b,off,none⟩) R c,.slice (some ⟨w.heap.size,0,none⟩) R R,.slice none 0 0,.pointer none] 98)).ownsRow w.heap.size 98 5 (jq w1.heap.size) 1 (gS ob w.heap.size R (.slice (some ⟨b,off,none⟩) R c) (.slice none 0 0)):=
  ⟨by simp[gS],.inr ⟨w1.heap.size,1,_,rfl,by omega,heap_alloc_new w1 _,He _,by decide,by simp,by simp[gS]⟩⟩
 rw[hs1] at hbx;exact⟨w.heap.size+1,w.heap.size,_,rfl,⟨hbx,⟨_,_,_,rfl⟩,h2,bD.nil _ _⟩,h1.trans (af.mono h1.size)⟩
end Go.Proofs.YtglijodcbdcngaaGreat
