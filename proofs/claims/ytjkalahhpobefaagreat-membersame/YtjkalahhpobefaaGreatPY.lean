/- PolyRing: what its polynomials tell. -/
import Derived.Test.YtjkalahhpobefaaGreatWN
import Derived.Test.YtjkalahhpobefaaGreatBA
import Derived.Test.YtjkalahhpobefaaGreatZT
set_option maxHeartbeats 4000000
set_option maxRecDepth 100000
namespace Go.Proofs.YtjkalahhpobefaaGreat
set_option linter.all false
open Go.Proofs.Tryz Go.RowKit
def mk(p:Int)(φ:OP->Int)(lss:OH)(q:OG)(i:Nat):Nat->Int
 |0=>0
 |k+1=>mk p φ lss q i k+az φ (aH p (q.getD k []) ((lss.getD k []).getD i []))
variable{i:Nat}{p o:Int}
theorem JB{φ:OP->Int}{v w:OG}(hl:v.length=w.length)(hi:i<v.length):p∣az φ ((lF p o v w).getD i [])-(az φ (v.getD i [])+az φ (w.getD i [])):=by rw[BO hl hi,<-ns];exact o8 p o φ _
theorem we{p o:Int}{R:Nat}{lss:OH}{q:OG}(hl:∀g∈lss,g.length=R)(φ:OP->Int)(i:Nat)(hi:i<R):∀k,k<=lss.length->(cB p o R q lss k).length=R/\p∣az φ ((cB p o R q lss k).getD i [])-mk p φ lss q i k
 |0,_=>by
  refine⟨by simp[cB],0,?_⟩;have e:(cB p o R q lss 0).getD i []=[]:=by simp[cB,NY,hi]
  rw[e];simp[az,mk]
 |k+1,hk=>by
  obtain⟨h1,a,ha⟩:=we hl φ i hi k (by omega);have hgl:=hl _ (pE lss k (by omega));have hpl:(jy p o (q.getD k []) (lss.getD k [])).length=R:=by unfold jy;rw[Oa,hgl]
  refine⟨by simp only[cB];rw[BP (by rw[h1,hpl])];exact h1,?_⟩;simp only[cB,mk];obtain⟨c1,hc1⟩:=JB (p:=p) (o:=o) (φ:=φ) (v:=cB p o R q lss k) (w:=jy p o (q.getD k []) (lss.getD k [])) (i:=i) (by rw[h1,hpl]) (by omega);have e1:(jy p o (q.getD k []) (lss.getD k [])).getD i []=bm p o (aH p (q.getD k []) ((lss.getD k []).getD i [])):=by unfold jy;rw[wg (λg=>bm p o (aH p (q.getD k []) g)) _ _ (by rw[hgl];exact hi)]
  rw[e1] at hc1;obtain⟨c2,hc2⟩:=o8 p o φ (aH p (q.getD k []) ((lss.getD k []).getD i []));refine⟨a+c1+c2,?_⟩;rw[Int.mul_add,Int.mul_add];omega
theorem pF{τ:Type}(φ:τ->Int):∀a b:List (Int×τ),Gb.ln φ (a++b)=Gb.ln φ a+Gb.ln φ b
 |[],b=>by simp[Gb.ln]
 |x::a,b=>by simp only[List.cons_append,Gb.ln];rw[pF φ a b];omega
def TB(w:OQ)(bb:Nat)(c:Int)(ev:OR):Prop:=w.cell? (OV bb 0)=some (OW c)/\w.cell? (OV bb 1)=some ev
variable{bb:Nat}{w w':OQ}
theorem TB.below{c:Int}{ev:OR}(h:TB w bb c ev)(hb:LT w w'):TB w' bb c ev:=⟨af h.1 hb,af h.2 hb⟩
def TZ(w:OQ)(bb:Nat):Prop:=w.ownsRow bb 47 2 (OU bb 1 1) 1 [OW 0,.slice none 0 0]
theorem TZ.below(h:TZ w bb)(hb:LT w w'):TZ w' bb:=aF h hb
theorem TZ.put(h:TZ w bb)(c:Int)(ev:OR):TB ((w.setCell (OV bb 0) (OW c)).setCell (OV bb 1) ev) bb c ev:=by have s1:=h.stored 0 (OW c);have s2:=s1.1.stored 1 ev;have x0:=s2.1.cellAt 0 (by simp);have x1:=s2.1.cellAt 1 (by simp);exact⟨by simpa using x0,by simpa using x1⟩
def bI(R:Nat)(t:Ft):Gb.Te:=(R-1-t.pl.toNat,t.a.toNat,t.b.toNat,t.d.toNat)
def sK(ψ:Int->Int):OI->Int
 |[]=>0
 |t::ts=>t.c*ψ t.k+sK ψ ts
theorem BQ(ψ:Int->Int):∀f g:OI,sK ψ (f++g)=sK ψ f+sK ψ g
 |[],g=>by simp[sK]
 |t::f,g=>by simp only[List.cons_append,sK,BQ ψ f g];omega
theorem BR(ψ:Int->Int)(a:Int):∀l:OI,sK ψ l=aq a l*ψ a+sK ψ (l.filter λt=>decide (t.k≠a))
 |[]=>by simp[sK,aq]
 |t::l=>by
  have ih:=BR ψ a l;by_cases h:t.k=a
  .rw[List.filter_cons_of_neg (by simp[h])];simp only[sK,aq,Oe h,Int.add_mul];rw[ih,h];omega
  .rw[List.filter_cons_of_pos (by simp[h])];simp only[sK,aq,Oc h];rw[ih];simp only[Int.zero_add];omega
theorem BS(k a:Int):∀l:OI,aq k (l.filter λt=>decide (t.k≠a))=if k=a then 0 else aq k l
 |[]=>by simp[aq]
 |t::l=>by
  have ih:=BS k a l;by_cases h:t.k=a
  .rw[List.filter_cons_of_neg (by simp[h]),ih];by_cases hk:k=a
   .rw[Oe hk,Oe hk]
   .rw[Oc hk,Oc hk];simp only[aq];rw[Oc (by omega)];omega
  .rw[List.filter_cons_of_pos (by simp[h])];simp only[aq];rw[ih];by_cases hk:k=a
   .rw[Oe hk,Oe hk,Oc (by omega)];omega
   .rw[Oc hk,Oc hk]
theorem JC(ψ:Int->Int):∀(n:Nat)(l:OI),l.length<=n->(∀k,p∣aq k l)->p∣sK ψ l:=by
 intro n;induction n with
 |zero=>intro l hl _;have:l=[]:=Oq.1 (by omega);subst this;exact⟨0,by simp[sK]⟩
 |succ n ih=>
  intro l hl hc;cases l with
  |nil=>exact⟨0,by simp[sK]⟩
  |cons t l=>
   rw[BR ψ t.k];have h1:((t::l).filter λu=>decide (u.k≠t.k)).length<=n:=by rw[List.filter_cons_of_neg (by simp)];have:=Ou (λu:Ft=>decide (u.k≠t.k)) l;simp at hl;omega
   obtain⟨x,hx⟩:=ih _ h1 λk=>by
    rw[BS];by_cases hk:k=t.k
    .rw[Oe hk];exact⟨0,by omega⟩
    .rw[Oc hk];exact hc k
   obtain⟨y,hy⟩:=hc t.k;exact⟨y*ψ t.k+x,by rw[hx,hy];grind⟩
theorem BT(ψ:Int->Int):∀l:OI,sK ψ (l.map λt=>{t with c:=-t.c})=-sK ψ l
 |[]=>by simp[sK]
 |t::l=>by simp only[List.map_cons,sK,BT ψ l,Int.neg_mul];omega
theorem BU(k:Int):∀l:OI,aq k (l.map λt=>{t with c:=-t.c})=-aq k l
 |[]=>by simp[aq]
 |t::l=>by
  simp only[List.map_cons,aq,BU k l];by_cases h:t.k=k
  .rw[Oe h,Oe h];omega
  .rw[Oc h,Oc h];omega
theorem GU(ψ:Int->Int){f g:OI}(h:∀k,p∣aq k f-aq k g):p∣sK ψ f-sK ψ g:=by
 have h2:=JC (p:=p) ψ _ (f++g.map λt=>{t with c:=-t.c}) (NL _) λk=>by rw[iX,BU];obtain⟨x,hx⟩:=h k;exact⟨x,by omega⟩
 rw[BQ,BT] at h2;obtain⟨x,hx⟩:=h2;exact⟨x,by omega⟩
def rY(ov pl:Int):Int:=if ov=1 then 80 else 80+40*pl
def og(o ov:Int)(N R:Nat)(t:Ft):Prop:=Gd o ov N R (rY ov t.pl) t
variable{ov:Int}
theorem JD{pl:Int}(h0:0<=pl)(h:pl<40):80<=rY ov pl/\rY ov pl<=1640:=by unfold rY;split<;>omega
variable{N R:Nat}
theorem og.alk(x t:Ft)(h:eu x t)(g:og o ov N R t):og o ov N R x:=by unfold og at g⊢;have:=Gd.alk x t h g;rw[h.2.2.2.2.2];exact this
variable{t:Ft}{Q2:Int}
theorem Gd.wide{Q:Int}(g:Gd o ov N R Q t)(h:t.a+t.b+t.d<=Q2):Gd o ov N R Q2 t:=⟨g.k,g.a,g.b,g.d,h,g.z,g.pl0,g.pl,g.n1,g.n2⟩
theorem og.gd(hR:R<=40)(g:og o ov N R t):Gd o ov N R 1640 t:=by have h0:=g.pl0;have h1:=g.pl;have h2:=g.deg;exact Gd.wide g (by have:=JD (ov:=ov) h0 (by omega);omega)
def BV(b:Ft):Gb.Mo:=(b.a.toNat,b.b.toNat,b.d.toNat)
variable{L bt:Ft}
theorem oV{p:Int}(h0:0<N)(h3:N<=3)(ha:bt.a+L.a=t.a)(hb:bt.b+L.b=t.b)(hd:bt.d+L.d=t.d):aD N t=aP (·+·) (aD N bt) (aD N L):=by
 have hN:N=1\/N=2\/N=3:=by omega
 rcases hN with rfl|rfl|rfl<;>simp[aD,aP]<;>omega
theorem jM(h3:N<=3)(t:Ft):(aD N t).length=N:=by unfold aD;rw[Oo];simp;omega
structure rZ(N:Nat)(t L bt:Ft):Prop where
 pl:L.pl=t.pl
 a:bt.a+L.a=t.a
 b:bt.b+L.b=t.b
 d:bt.d+L.d=t.d
 a0:0<=bt.a
 b0:0<=bt.b
 d0:0<=bt.d
 z:bt.z=0
 n1:N<=1->bt.b=0
 n2:N<=2->bt.d=0
theorem rZ.key{Q1:Int}(h:rZ N t L bt)(h0:0<N)(h3:N<=3)(gt:Gd o ov N R Q1 t)(gL:Gd o ov N R Q2 L):L.k+bG o (aD N bt)=t.k:=by rw[gt.k,gL.k,oV (p:=0) h0 h3 h.a h.b h.d,<-h.pl];unfold jr;rw[oW h3 (jM h3 _) (jM h3 _)];omega
theorem rZ.te(h:rZ N t L bt)(gL:Gd o ov N R Q2 L):Gb.yj (BV bt) (bI R L)=bI R t:=by have h1:=h.a;have h2:=h.b;have h3:=h.d;have h4:=h.a0;have h5:=h.b0;have h6:=h.d0;have g1:=gL.a;have g2:=gL.b;have g3:=gL.d;unfold Gb.yj BV bI;rw[h.pl];simp only[Prod.mk.injEq,true_and];omega
variable{rows:OJ}
theorem iG{G:Ft->Prop}(h:aG p G rows):∀t∈rows.flatten,G t:=λt ht=>by obtain⟨r,h1,h2⟩:=List.mem_flatten.1 ht;exact h.gd r h1 t h2
theorem zA{rows2:OJ}{r:Option Ft}(hn:Nx p rows r rows2):(∀f∈rows,Dn f)->r=none->∀f∈rows2,f=[]:=by
 induction hn using Nx.ind with
 |stop rows hg=>exact λhd _=>BW hd hg
 |hit rows t hg hne=>exact λ_ h=>by simp at h
 |go rows rows2 t r hg hz hn ih=>intro hd he;refine ih (λf hf=>?_) he;obtain⟨f0,h0,rfl⟩:=N9.1 hf;exact wh (hd f0 h0)
structure Mm where
 blk:Nat
 L:Ft
 rv:OR
 r:OI
 gone:Bool
abbrev OK:=List Mm
structure i6(p:Int)(w:OQ)(x:Mm):Prop where
 div:kD w x.blk 0 x.L x.rv 0 (aW p x.L.c)
 gone:w.cell? (OV x.blk 10)=some (.bool x.gone)
 rest:Fv w x.rv x.r
variable{x:Mm}
theorem i6.below(h:i6 p w x)(hb:LT w w'):i6 p w' x:=⟨h.div.below hb,af h.gone hb,h.rest.below hb⟩
def mw(w:OQ)(u:OR)(l:OK):Prop:=∃a c,u=.slice a l.length c/\∀j (h:j<l.length),∃b off,a=some (OV b off)/\w.cell? (OV b (off+j))=some (OS (l[j].blk))
variable{u:OR}
theorem mw.below{l:OK}(h:mw w u l)(hb:LT w w'):mw w' u l:=by obtain⟨a,c,h1,h2⟩:=h;refine⟨a,c,h1,λj hj=>?_⟩;obtain⟨b,off,h3,h4⟩:=h2 j hj;exact⟨b,off,h3,af h4 hb⟩
def aZ(ms:OK)(pl:Nat):OK:=ms.filter λx=>decide (x.L.pl=pl)
structure jW(p:Int)(w:OQ)(mb R:Nat)(ms:OK):Prop where
 row:∃g c,w.cell? (OV mb 2)=some (OU g R c)/\∀pl,pl<R->∃u,w.cell? (OV g pl)=some u/\mw w u (aZ ms pl)
 mem:∀x∈ms,i6 p w x
 work:w.cell? (OV mb 4)=some (.pointer none)
variable{ms:OK}{mb:Nat}
theorem jW.below(h:jW p w mb R ms)(hb:LT w w'):jW p w' mb R ms:=by obtain⟨⟨g,c,h1,h2⟩,h3,h4⟩:=h;refine⟨⟨g,c,af h1 hb,λpl hp=>?_⟩,λx hx=>(h3 x hx).below hb,af h4 hb⟩;obtain⟨u,q1,q2⟩:=h2 pl hp;exact⟨u,af q1 hb,q2.below hb⟩
def eP(t:Ft)(x:Mm):Bool:=!x.gone&&cF x.L t
def eO(ms:OK)(t:Ft):Option Mm:=(aZ ms t.pl.toNat).find? (eP t)
def oh(x:Option Mm):OR:=.pointer (x.map λx=>(OV x.blk 0))
theorem BX(p:Int)(mb R:Nat)(ms:OK)(t:Ft)(w:OQ)(hm:jW p w mb R ms)(hn:ms.length<=2100000)(h0:0<=t.pl)(hR:t.pl<R):Calls prog 88 #[OS mb,aX t] w λe w'=>e=.returned (oh (eO ms t))/\LT w w':=by
 obtain⟨n,hnpl⟩:∃n:Nat,t.pl=n:=⟨t.pl.toNat,by omega⟩;have hnR:n<R:=by omega
 have HMEM:=ae hm.mem;obtain⟨g,c,hg1,hg2⟩:=hm.row;obtain⟨u,hu1,hu2⟩:=hg2 n hnR;obtain⟨a,c2,rfl,hpt⟩:=hu2;have HPT:=ae hpt;have htn:t.pl.toNat=n:=by omega
 have HFM:OE (eO ms t=(aZ ms n).find? (eP t)):=by show _=_;unfold eO;rw[htn]
 have HSUB:OE (∀x∈aZ ms n,x∈ms):=λx hx=>(Om.1 hx).1;have hln:(aZ ms n).length<=2100000:=NR (Ou _ _) hn;obtain⟨w1,hw1⟩:∃w1,w1=w.alloc (.cells #[OW t.k,OX t.a,OX t.b,OX t.d,OX t.z,OY t.pl,OY t.c] 88):=⟨_,rfl⟩;have HB1:OE (LT w w1):=by rw[hw1];exact ai
 have HX1:OE (Bx w.heap.size w1 w.heap.size t):=by rw[hw1];exact dB (NL _) t
 have HPLN:=ae hnpl;have k1:=af hg1 HB1.o;have k2:=af hu1 HB1.o;obtain⟨y0,y1,y2,y3,y4,y5,y6⟩:=HX1.o.at;simp only[N4] at y0 y1 y2 y3 y4 y5 y6;rw[hnpl] at y5;have hnRI:(n:Int)<(R:Int):=by omega
 clear hm hg1 hg2 hu1 hpt htn hn y0 y1 y2 y3 y4 y6 hnpl h0 hR;rw[HFM.o];clear HFM;generalize aZ ms n=l at*;unfold aX;go_enter func88,ntmps88;go_upto_region 1 with fail;rw[<-hw1];clear hw1;go_quiet (fail);clear k1 k2 y5;have HB2:OE (LT w1 (w1.drewN nq)):=below_drewN (NM _ _) _;go_wp2_with fail;go_loopw [16] (λi wr=>∃m:Nat,m<=l.length/\i=OW m/\(∀j (h:j<l.length),j<m->eP t l[j]=false)/\LT w1 wr) (λi _=>l.length-(intOf i).toNat);case atStart=>exact⟨0,NS _,rfl,λj _ h=>by omega,HB2.o⟩
 case round=>
  obtain⟨m,hm,rfl,hno,hbr⟩:=hrel;have HNO:=ae hno;have HBR:=ae hbr;clear hno hbr;have HBT:=ae (Io HB1.o HBR.o);by_cases hm2:m<l.length
  .obtain⟨b,off,rfl,hcell⟩:=HPT.o m hm2;have k1:=af hcell HBT.o;have HM:=ae ((HMEM.o _ (HSUB.o _ (NV hm2))).below HBT.o);have HXR:=ae (HX1.o.below HBR.o);have HFI:OE (eP t l[m]=true->l.find? (eP t)=some l[m]):=λh=>by rw[List.find?_eq_some_iff_getElem];exact⟨h,m,hm2,rfl,λj hj=>by have:=HNO.o j (by omega) hj;simp[this]⟩
   have HNX:OE (eP t l[m]=false->∀j (h:j<l.length),j<m+1->eP t l[j]=false):=λh j hj hjm=>by
    rcases Nat.lt_succ_iff_lt_or_eq.1 hjm with h2|rfl
    .exact HNO.o j hj h2
    .exact h
   have hmI:(m:Int)<(l.length:Int):=by omega
   have HPM:OE (∀x,l.find? (eP t)=some x->oh (l.find? (eP t))=OS x.blk):=λx h=>by rw[h];rfl
   generalize hx:l[m]=x at*;clear hx hcell;cases hgn:x.gone with
   |true=>
    have HGO:OE (eP t x=false):=by show _=_;unfold eP;rw[hgn];rfl
    have k2:=HM.o.gone;rw[hgn] at k2;clear hgn;go_upto_region 4 with fail;go_quiet (fail);go_wp2;go_roundw;case rel=>exact⟨m+1,by omega,by go_num,HNX.o HGO.o,below_drewN HBR.o _⟩
    case measure=>simp[intOf];omega
   |false=>
    have HGO:OE (eP t x=cF x.L t):=by show _=_;unfold eP;rw[hgn];rfl
    have k2:=HM.o.gone;rw[hgn] at k2;clear hgn;have HIN:OE (∀W,LT wr W->Calls prog 123 #[OS x.blk,aX t] W λe w'=>e=.returned (.bool (cF x.L t))/\LT W w'):=λW hb=>Ba x.blk 0 x.L t _ _ _ W (HM.o.div.below hb);unfold aX at HIN;have KEEP:OE (∀W,LT wr W->(OE (LT wr W)/\W.cell? (OV x.blk 10)=some (.bool false)/\W.cell? (OV w.heap.size 0)=some (OW t.k)/\W.cell? (OV w.heap.size 1)=some (OX t.a)/\W.cell? (OV w.heap.size 2)=some (OX t.b)/\W.cell? (OV w.heap.size 3)=some (OX t.d)/\W.cell? (OV w.heap.size 4)=some (OX t.z)/\W.cell? (OV w.heap.size 5)=some (OY t.pl)/\W.cell? (OV w.heap.size 6)=some (OY t.c))):=λW hb=>by obtain⟨y0,y1,y2,y3,y4,y5,y6⟩:=HXR.o.at.keep hb;simp only[N4] at y0 y1 y2 y3 y4 y5 y6;exact⟨hb,af k2 hb,y0,y1,y2,y3,y4,y5,y6⟩
    have HB0:OE (LT wr wr.drew):=(NM _ _).drew;have HG2:=HGO.o;rw[HGO.o] at HFI HNX;generalize cF x.L t=bb at HIN HFI HNX;clear HGO HG2 k2;go_upto_region 4 with fail;go_region_held (λW=>OE (LT wr W)/\W.cell? (OV x.blk 10)=some (.bool false)/\W.cell? (OV w.heap.size 0)=some (OW t.k)/\W.cell? (OV w.heap.size 1)=some (OX t.a)/\W.cell? (OV w.heap.size 2)=some (OX t.b)/\W.cell? (OV w.heap.size 3)=some (OX t.d)/\W.cell? (OV w.heap.size 4)=some (OX t.z)/\W.cell? (OV w.heap.size 5)=some (OY t.pl)/\W.cell? (OV w.heap.size 6)=some (OY t.c))
     (first|exact KEEP.o _ HB0.o|exact KEEP.o _ HB9.o)
     (first|(go_at_call 123;refine(HIN.o _ HB0.o).mono ?_;rintro e w9 ⟨rfl,hb9⟩;have HB9:=ae (Io HB0.o hb9);clear hb9))
    cases bb with
    |true=>have HE:=ae (HPM.o x (HFI.o rfl));go_wp2;go_ret;refine⟨?_,Io HBT.o HB9.o⟩;rw[HE.o];rfl
    |false=>
     go_wp2;go_roundw;case rel=>exact⟨m+1,by omega,by go_num,HNX.o rfl,Io HBR.o HB9.o⟩
     case measure=>simp[intOf];omega
  .have e:m=l.length:=by omega
   subst e;have HE:OE (l.find? (eP t)=none):=by show _=_;rw[List.find?_eq_none];intro d hdm;obtain⟨j,hj,rfl⟩:=List.getElem_of_mem hdm;have:=HNO.o j hj hj;simp[this]
   go_wp2;go_ret;refine⟨?_,HBT.o⟩;rw[HE.o];rfl
theorem JE(n:Int)(w:OQ):Calls prog 124 #[.pointer none,OW n] w λe w'=>e=.returned (.tuple #[])/\w'=w:=by go_enter func124,ntmps124;go_wp2;go_end0;exact⟨rfl,rfl⟩
theorem uH(w:OQ):Calls prog 125 #[.pointer none] w λe w'=>e=.returned (.bool false)/\∃n,w'=w.drewN n:=by go_enter func125,ntmps125;go_wp2;go_ret;exact⟨rfl,0,rfl⟩
theorem JF(mb g dof:Nat)(L t:Ft)(ra:Option Addr)(rn rc:Nat)(num inv:Int)(w:OQ)(hw:w.cell? (OV mb 4)=some (.pointer none))(hd:kD w g dof L (.slice ra rn rc) num inv)(hr:rn<=1100000000000):Calls prog 89 #[OS mb,.pointer (some (OV g dof)),aX t] w λe w'=>e=.returned (.bool true)/\LT w w':=by
 obtain⟨w1,hw1⟩:∃w1,w1=w.alloc (.cells #[OW t.k,OX t.a,OX t.b,OX t.d,OX t.z,OY t.pl,OY t.c] 88):=⟨_,rfl⟩;have HB1:OE (LT w w1):=by rw[hw1];exact ai
 have k1:=af hw HB1.o;have k2:=af hd.c7 HB1.o;clear hw hd;unfold aX;go_enter func89,ntmps89;go_upto_region 1 with fail;rw[<-hw1];clear hw1;have K0:OE (w1.drew.cell? (OV mb 4)=some (.pointer none)/\w1.drew.cell? (OV g (dof+7))=some (.slice ra rn rc)):=⟨k1,k2⟩;go_region_held (λW=>W.cell? (OV mb 4)=some (.pointer none)/\W.cell? (OV g (dof+7))=some (.slice ra rn rc))
  (first|with_reducible exact K0.o)
  (first|(go_at_call 124;refine(JE _ _).mono ?_;rintro e w' ⟨rfl,rfl⟩))
 go_wp2_with (go_at_call 125;refine(uH _).mono ?_;rintro e w' ⟨rfl,n9,rfl⟩);go_ret;exact⟨rfl,below_drewN HB1.o _⟩
def BY(w:OQ)(b:Nat):Prop:=∃i x,w.cell? (OV b i)=some (OY x)
structure dC(w w':OQ):Prop where
 size:w.heap.size<=w'.heap.size
 keep:∀b j u,BY w b->w.cell? (OV b j)=some u->(∀c,u≠.bool c)->w'.cell? (OV b j)=some u
theorem dC.refl(w:OQ):dC w w:=⟨NL _,λ_ _ _ _ h _=>h⟩
theorem dC.trans{a b c:OQ}(h:dC a b)(k:dC b c):dC a c:=by refine⟨NR h.size k.size,λbl j u hb hc hn=>k.keep bl j u ?_ (h.keep bl j u hb hc hn) hn⟩;obtain⟨i,x,hi⟩:=hb;exact⟨i,x,h.keep bl i _ ⟨i,x,hi⟩ hi (λc e=>by cases e)⟩
theorem dC.of_below(h:LT w w'):dC w w':=⟨h.size,λb j u _ hc _=>af hc h⟩
def ee(u:OR):Prop:=∀x,u≠OY x
variable{S:Nat->Prop}
theorem dC.of_frm(h:am S w w')(hn:∀g,S g->bW ee w g):dC w w':=
 ⟨h.size,λb j u hb hc _=>h.cell hc λhs=>by obtain⟨i,x,hi⟩:=hb;exact hn b hs i _ hi x rfl⟩
theorem dC.of_bool{b j:Nat}{c:Bool}(hc:w.cell? (OV b j)=some (.bool c))(u:OR):dC w (w.setCell (OV b j) u):=by
 refine⟨by simp[World.setCell],λb2 j2 u2 _ hc2 hn=>?_⟩;rw[World.cell?_setCell_other]
 .exact hc2
 .intro e;rw[<-e,hc] at hc2;exact hn c (by simpa using hc2.symm)
theorem JG(fs:OI):∀u∈aA fs,∀c,u≠.bool c:=by intro u hu c e;simp only[aA,OB] at hu;obtain⟨t,_,hu⟩:=hu;subst e;simp[aB] at hu
variable{v:OR}
theorem Fv.fr8{fs:OI}(h:Fv w v fs)(k:dC w w'):Fv w' v fs:=by
 obtain⟨a,cap,rfl,hc,h1⟩:=h;refine⟨a,cap,rfl,hc,λhp=>?_⟩;obtain⟨b,off,rfl,hlt,hcs⟩:=h1 hp;have hb:BY w b:=by
  cases fs with
  |nil=>simp at hp
  |cons t ts=>exact⟨off+5,t.pl,hcs 5 _ rfl⟩
 exact⟨b,off,rfl,NQ hlt k.size,λj u hj=>k.keep b _ u hb (hcs j u hj) (JG fs u (List.mem_of_getElem? hj))⟩
def r7(p:Int)(x:Mm):OO:=oj x.L x.rv 0 (aW p x.L.c)++[.bool x.gone]
def jQ(b:Nat):OR:=OU b 1 1
structure b9(p:Int)(B:Nat)(w:OQ)(x:Mm):Prop where
 own:w.ownsRow B 132 11 (jQ x.blk) 1 (r7 p x)
 rest:Fv w x.rv x.r
variable{B:Nat}
theorem b9.next(h:b9 p B w x)(hb:LT w w'):b9 p B w' x:=⟨aF h.own hb,h.rest.below hb⟩
theorem b9.lt(h:b9 p B w x):B<=x.blk/\x.blk<w.heap.size:=NK h.own x.blk rfl
theorem b9.mbr(h:b9 p B w x):i6 p w x:=by
 have hc:∀j,j<11->w.cell? (OV x.blk j)=(r7 p x)[j]?:=λj hj=>NJ h.own j (by omega);refine⟨⟨h.lt.2,λj u hj=>?_,?_,?_,?_⟩,?_,h.rest⟩
 .have hj7:j<7:=by apply Ob;intro hle;rw[N0 (by simpa [aB] using hle)] at hj;simp at hj
  rw[N4,hc j (by omega)];have:j=0\/j=1\/j=2\/j=3\/j=4\/j=5\/j=6:=by omega
  rcases this with rfl|rfl|rfl|rfl|rfl|rfl|rfl<;>exact hj
 .rw[hc 7 (by omega)];rfl
 .rw[hc 8 (by omega)];rfl
 .rw[hc 9 (by omega)];rfl
 .rw[hc 10 (by omega)];rfl
theorem b9.frm(h:b9 p B w x)(hf:am S w w')(h8:dC w w')(hs:¬S x.blk):b9 p B w' x:=
 ⟨hf.own h.own λg hg=>by simp only[jQ,Value.ownBlock,N7] at hg;rw[<-hg];exact hs,h.rest.fr8 h8⟩
variable{g:Nat}
theorem b9.nob(h:b9 p B w x)(hk:bW ee w g):x.blk≠g:=λe=>by have:=h.mbr.div.cells.2.2.2.2.2.1;rw[e] at this;exact hk _ _ this _ rfl
theorem b9.put(h:b9 p B w x)(c:Bool):b9 p B (w.setCell (OV x.blk 10) (.bool c)) {x with gone:=c}/\w.grownBy (w.setCell (OV x.blk 10) (.bool c)) (some x.blk)/\dC w (w.setCell (OV x.blk 10) (.bool c)):=by have h1:=NW h.own 10 (.bool c);have h8:=dC.of_bool h.mbr.gone (.bool c);refine⟨⟨?_,h.rest.fr8 h8⟩,h1.2,h8⟩;have:=h1.1;have e:(r7 p x).set 10 (.bool c)=r7 p {x with gone:=c}:=rfl;rw[e] at this;exact this
def eh(x:Mm):OR:=OS x.blk
structure eZ(p:Int)(B:Nat)(w:OQ)(R g:Nat)(us:OO)(ms:OK):Prop where
 o:w.ownsRow B 128 1 (OU g R R) R us
 okd:bW ee w g
 row:∀pl,pl<R->w.ownsRow B 81 1 (us.getD pl aL) (aZ ms pl).length ((aZ ms pl).map eh)
 rkd:∀pl,pl<R->∀k,(us.getD pl aL).ownBlock=some k->bW ee w k
 dis:∀i j,i<R->j<R->i≠j->∀k,(us.getD i aL).ownBlock=some k->(us.getD j aL).ownBlock≠some k
 mem:∀x∈ms,b9 p B w x
 nd:(ms.map Mm.blk).Nodup
variable{us:OO}
theorem eZ.frm(h:eZ p B w R g us ms)(hf:am S w w')(hn:∀k,S k->bW ee w k)(ht:∀k,S k->cu w 128 k/\cu w 81 k):eZ p B w' R g us ms:=by
 have h8:=dC.of_frm hf hn;have hog:¬S g:=λhs=>by obtain⟨ag,e⟩:=cJ h.o (g:=g) rfl;exact(ht g hs).1 ag e
 refine⟨dG hf h.o λk hk=>(ht k hk).1,hf.kdb h.okd (NK h.o g rfl).2 hog,λpl hp=>dG hf (h.row pl hp) λk hk=>(ht k hk).2,λpl hp k hk=>?_,h.dis,λx hx=>(h.mem x hx).frm hf h8 λhs=>(h.mem x hx).nob (hn _ hs) rfl,h.nd⟩;refine hf.kdb (h.rkd pl hp k hk) (NK (h.row pl hp) k hk).2 λhs=>?_;obtain⟨ag,e⟩:=cJ (h.row pl hp) hk;exact(ht k hs).2 ag e
theorem eZ.next(h:eZ p B w R g us ms)(hb:LT w w'):eZ p B w' R g us ms:=
 h.frm (S:=λ_=>False) (am.of_below hb) (λ_ h=>h.elim) λ_ h=>h.elim
theorem A9(f:Mm->Mm)(hf:∀x,(f x).L=x.L)(ms:OK)(pl:Nat):aZ (ms.map f) pl=(aZ ms pl).map f:=by unfold aZ;rw[List.filter_map];congr 1;apply List.filter_congr;intro x _;simp only[Function.comp,hf]
def gz(b:Nat)(c:Bool)(x:Mm):Mm:=if x.blk=b then {x with gone:=c} else x
theorem wi(b:Nat)(c:Bool)(x:Mm):(gz b c x).L=x.L/\(gz b c x).blk=x.blk/\(gz b c x).rv=x.rv/\(gz b c x).r=x.r:=by unfold gz;split<;>simp
theorem eZ.put(h:eZ p B w R g us ms)(hx:x∈ms)(c:Bool):eZ p B (w.setCell (OV x.blk 10) (.bool c)) R g us (ms.map (gz x.blk c)):=by
 obtain⟨h1,h2,h8⟩:=(h.mem x hx).put c;have hf:am (λk=>k=x.blk) w (w.setCell (OV x.blk 10) (.bool c)):=am.of_grown h2 λk e=>by simpa using e.symm
 have hT:∀{T:TypeId},132≠T->∀k,k=x.blk->cu w T k:=λhT k e=>by subst e;exact bh (h.mem x hx).own rfl hT
 have hrow:∀pl,(aZ (ms.map (gz x.blk c)) pl).map eh=(aZ ms pl).map eh/\(aZ (ms.map (gz x.blk c)) pl).length=(aZ ms pl).length:=λpl=>by rw[A9 _ λy=>(wi x.blk c y).1,List.map_map];refine⟨?_,by simp⟩;apply List.map_congr_left;intro y _;simp only[Function.comp,eh,(wi x.blk c y).2.1]
 refine⟨dG hf h.o (hT (by decide)),hf.kdb h.okd (NK h.o g rfl).2 λe=>?_,λpl hp=>?_,λpl hp k hk=>?_,h.dis,λy hy=>?_,?_⟩
 .obtain⟨ag,e2⟩:=cJ h.o (g:=g) rfl;exact hT (T:=128) (by decide) g e ag e2
 .rw[(hrow pl).1,(hrow pl).2];exact dG hf (h.row pl hp) (hT (by decide))
 .refine hf.kdb (h.rkd pl hp k hk) (NK (h.row pl hp) k hk).2 λe=>?_;obtain⟨ag,e2⟩:=cJ (h.row pl hp) hk;exact hT (T:=81) (by decide) k e ag e2
 .obtain⟨y0,hy0,rfl⟩:=N9.1 hy;by_cases e:y0.blk=x.blk
  .have e2:y0=x:=by
    have hnd:=h.nd;rw[List.nodup_iff_pairwise_ne,List.pairwise_map] at hnd;apply Oj;intro hne;obtain⟨i,hi,rfl⟩:=List.getElem_of_mem hy0;obtain⟨j,hj,rfl⟩:=List.getElem_of_mem hx;rw[List.pairwise_iff_getElem] at hnd;rcases Nat.lt_trichotomy i j with hl|hl|hl
    .exact hnd i j hi hj hl e
    .subst hl;exact hne rfl
    .exact hnd j i hj hi hl e.symm
   subst e2;unfold gz;rw[Oe rfl];exact h1
  .unfold gz;rw[Oc e];exact(h.mem y0 hy0).frm hf h8 e
 .rw[List.map_map];have:(Mm.blk∘gz x.blk c)=Mm.blk:=by funext y;exact(wi x.blk c y).2.1
  rw[this];exact h.nd
structure Pq where
 b1:Nat
 b2:Nat
 a:Int
 b:Int
 d:Int
 z:Int
 dg:Int
 k:Int
abbrev OM:=List Pq
def aO(q:Pq):OO:=[OS q.b1,OS q.b2,OX q.a,OX q.b,OX q.d,OX q.z,OW q.dg,OW q.k]
def eG(q:Pq):OR:=.agg #[OS q.b1,OS q.b2,OX q.a,OX q.b,OX q.d,OX q.z,OW q.dg,OW q.k]
def bR(qs:OM):OO:=qs.flatMap aO
theorem iZ(qs:OM):(bR qs).length=qs.length*8:=by
 induction qs with
 |nil=>rfl
 |cons q qs ih=>simp only[bR,List.flatMap_cons,N3,Oh] at ih⊢;rw[ih];simp[aO];omega
theorem nk(a b:OM):bR (a++b)=bR a++bR b:=by unfold bR;rw[List.flatMap_append]
theorem zS(qs:OM)(q:Pq):bR (qs++[q])=bR qs++aO q:=by rw[nk];simp[bR]
theorem A4(q:Pq):∀u∈aO q,u.oneCell'=true:=by intro u hu;simp only[aO,Og,List.not_mem_nil,or_false] at hu;rcases hu with rfl|rfl|rfl|rfl|rfl|rfl|rfl|rfl<;>rfl
theorem zR(qs:OM):∀u∈bR qs,u.oneCell'=true:=by intro u hu;simp only[bR,OB] at hu;obtain⟨t,_,hu⟩:=hu;exact A4 t u hu
theorem JH(q:Pq):∀u∈aO q,ee u:=by intro u hu x e;subst e;simp[aO] at hu
theorem zT(qs:OM):∀u∈bR qs,ee u:=by intro u hu;simp only[bR,OB] at hu;obtain⟨t,_,hu⟩:=hu;exact JH t u hu
structure bN(B:Nat)(w:OQ)(v:OR)(qs:OM):Prop where
 own:w.ownsRow B 238 8 v qs.length (bR qs)
 kd:∀g,v.ownBlock=some g->bW ee w g
theorem bN.nil(B:Nat)(w:OQ):bN B w (.slice none 0 0) []:=⟨World.ownsRow_nil _ _ _ _,λg hg=>by simp[Value.ownBlock] at hg⟩
variable{qs:OM}
theorem bN.next(h:bN B w v qs)(hb:LT w w'):bN B w' v qs:=
 ⟨aF h.own hb,λg hg=>(h.kd g hg).below (hb.block g (NK h.own g hg).2)⟩
theorem bN.frm(h:bN B w v qs)(hf:am S w w')(hs:∀g,v.ownBlock=some g->¬S g):bN B w' v qs:=
 ⟨hf.own h.own hs,λg hg=>hf.kdb (h.kd g hg) (NK h.own g hg).2 (hs g hg)⟩
def iI(ob g R:Nat)(dv pv:OR):OO:=[OS ob,dv,OU g R R,pv,.pointer none]
structure a8(p:Int)(B:Nat)(w:OQ)(mb ob R g:Nat)(dv pv:OR)(us:OO)(ms:OK)(qs:OM):Prop where
 box:w.ownsRow B 107 5 (jQ mb) 1 (iI ob g R dv pv)
 dvs:∃a n c,dv=.slice a n c
 mks:eZ p B w R g us ms
 prs:bN B w pv qs
theorem bN.sl(h:bN B w v qs):∃a c,v=.slice a qs.length c:=ct h.own
variable{dv pv:OR}{ob:Nat}
theorem a8.kd(h:a8 p B w mb ob R g dv pv us ms qs):bW ee w mb:=by
 rcases h.box.2 with ⟨h1,_⟩|⟨g2,cap,ag,h1,_,hh,_,_,hcs,htake⟩
 .simp[jQ] at h1
 .simp only[jQ,N8,N7,Addr.mk.injEq,and_true,true_and] at h1;obtain⟨rfl,rfl⟩:=h1;refine kV hh λu hu=>?_;have e:ag.toList=iI ob g R dv pv:=by rw[<-htake,N5 (by rw[Array.length_toList,hcs];omega)]
  rw[e] at hu;obtain⟨a,n,c,rfl⟩:=h.dvs;obtain⟨a2,c2,rfl⟩:=h.prs.sl;intro x ex;subst ex;simp[iI] at hu
theorem a8.next(h:a8 p B w mb ob R g dv pv us ms qs)(hb:LT w w'):a8 p B w' mb ob R g dv pv us ms qs:=
 ⟨aF h.box hb,h.dvs,h.mks.next hb,h.prs.next hb⟩
theorem a8.cells(h:a8 p B w mb ob R g dv pv us ms qs):w.cell? (OV mb 0)=some (OS ob)/\w.cell? (OV mb 1)=some dv/\w.cell? (OV mb 2)=some (OU g R R)/\w.cell? (OV mb 3)=some pv/\w.cell? (OV mb 4)=some (.pointer none):=by have hc:∀j,j<5->w.cell? (OV mb j)=(iI ob g R dv pv)[j]?:=λj hj=>NJ h.box j (by omega);exact⟨by rw[hc 0 (by omega)];rfl,by rw[hc 1 (by omega)];rfl,by rw[hc 2 (by omega)];rfl,by rw[hc 3 (by omega)];rfl,by rw[hc 4 (by omega)];rfl⟩
theorem eZ.at(h:eZ p B w R g us ms)(pl:Nat)(hp:pl<R):w.cell? (OV g pl)=some (us.getD pl aL)/\w.frozen? (OV g pl)=false:=by
 have hl:us.length=R:=by have:=h.o.1;omega
 refine⟨?_,NI h.o pl⟩;rw[NJ h.o pl (by omega)];rw[NY,NZ (by omega)];rfl
theorem eZ.pts(h:eZ p B w R g us ms)(pl:Nat)(hp:pl<R):mw w (us.getD pl aL) (aZ ms pl):=by have ho:=h.row pl hp;obtain⟨a,c,e⟩:=ct ho;refine⟨a,c,e,λj hj=>?_⟩;rw[e] at ho;obtain⟨b,rfl,_,hlt,hc⟩:=qQ ho j (by simpa using hj);exact⟨b,0,rfl,by rw[N4,hc,List.getElem?_map,NZ hj];rfl⟩
theorem a8.mrw(h:a8 p B w mb ob R g dv pv us ms qs):jW p w mb R ms:=by obtain⟨_,_,c2,_,c4⟩:=h.cells;exact⟨⟨g,R,c2,λpl hp=>⟨_,(h.mks.at pl hp).1,h.mks.pts pl hp⟩⟩,λx hx=>(h.mks.mem x hx).mbr,c4⟩
theorem a8.repair{w2:OQ}{pv2:OR}{qs2:OM}(h:a8 p B w mb ob R g dv pv us ms qs)(hB:B<=w.heap.size)(hf:am (λk=>pv.ownBlock=some k) w w2)(hp:bN B w2 pv2 qs2):a8 p B (w2.setCell (OV mb 3) pv2) mb ob R g dv pv2 us ms qs2/\am (λk=>k=mb\/pv.ownBlock=some k) w (w2.setCell (OV mb 3) pv2)/\Below B w (w2.setCell (OV mb 3) pv2):=by
 have hm2:w2.ownsRow B 107 5 (jQ mb) 1 (iI ob g R dv pv):=dG hf h.box λk hk=>bh h.prs.own hk (by decide);have hst:=NW hm2 3 pv2;have e:(iI ob g R dv pv).set 3 pv2=iI ob g R dv pv2:=rfl;rw[e] at hst;have hf2:am (λk=>k=mb) w2 (w2.setCell (OV mb 3) pv2):=am.of_grown hst.2 λk e=>by simpa using e.symm
 have hkm:bW ee w2 mb:=by refine hf.kdb h.kd (NK h.box mb rfl).2 λe=>?_;obtain⟨ag,e2⟩:=cJ h.box (g:=mb) rfl;exact bh h.prs.own e (T':=107) (by decide) ag e2
 have hA2:eZ p B w2 R g us ms:=h.mks.frm hf (λk hk=>h.prs.kd k hk) λk hk=>⟨bh h.prs.own hk (by decide),bh h.prs.own hk (by decide)⟩;have hA3:=hA2.frm hf2 (λk hk=>by rw[hk];exact hkm) λk hk=>by subst hk;exact⟨bh hm2 rfl (by decide),bh hm2 rfl (by decide)⟩
 have hp3:=hp.frm hf2 λk hk e=>by subst e;obtain⟨ag,e2⟩:=cJ hm2 (g:=k) rfl;exact bh hp.own hk (T':=107) (by decide) ag e2
 have hff:am (λk=>k=mb\/pv.ownBlock=some k) w (w2.setCell (OV mb 3) pv2):=(hf.wide (T:=λk=>k=mb\/pv.ownBlock=some k) λ_ _ h=>Oy h).trans hf2 λk _ e=>Ox e;refine⟨⟨hst.1,h.dvs,hA3,hp3⟩,hff,hff.to_below hB λk hk=>?_⟩;rcases hk with rfl|hk
 .exact(NK h.box k rfl).1
 .exact(NK h.prs.own k hk).1
theorem Tryz.infoPms:(prog.info? 128).map (λi=>(i.zero,i.size,i.bytes))=some (some (.slice none 0 0),1,24):=by kernel_rfl
theorem BZ(n:Nat):(madeCells #[.slice none 0 0] n).toList=List.replicate n aL:=by
 apply List.ext_getElem
 .simp[size_madeCells]
 .intro i h1 h2;simp[madeCells,Nat.mod_one,aL]
theorem JI(p:Int)(w:OQ)(R:Nat)(hR:R<=255):eZ p w.heap.size (w.alloc (.cells (madeCells #[.slice none 0 0] R) 128)) R w.heap.size (List.replicate R aL) []:=by
 have hg:∀pl,(List.replicate R aL).getD pl aL=aL:=λpl=>by
  rw[NY];by_cases h:pl<R
  .rw[NZ (by simpa using h)];simp
  .rw[N0 (by simpa using h)];rfl
 have ho:∀{k:Nat},aL.ownBlock=some k->False:=λh=>by simp[aL,Value.ownBlock] at h
 refine⟨⟨by simp,.inr ⟨w.heap.size,R,_,rfl,NL _,heap_alloc_new w _,NL _,by unfold maxLen;omega,by simp[size_madeCells],?_⟩⟩,r8 λu hu=>?_,λpl _=>?_,λpl _ k hk=>?_,λi j _ _ _ k hk=>?_,λx hx=>by simp at hx,by simp⟩
 .rw[BZ];simp
 .rw[BZ] at hu;have:=(List.mem_replicate.1 hu).2;rw[this];intro x e;simp[aL] at e
 .rw[hg];exact World.ownsRow_nil _ _ _ _
 .rw[hg] at hk;exact(ho hk).elim
 .rw[hg] at hk;exact(ho hk).elim
theorem wj(p:Int)(ob R b off c:Nat)(w:OQ)(hR:R<=255):Calls prog 41 #[OS ob,.slice (some (OV b off)) R c] w λe w'=>∃mb g us,e=.returned (OS mb)/\a8 p w.heap.size w' mb ob R g (.slice (some (OV b off)) R c) (.slice none 0 0) us [] []/\LT w w':=by
 have hmk:=fun(W:OQ)=>run_make_row' (P:=prog) 103 128 (.slice none 0 0) 24 underlying103 Tryz.infoPms rfl .i64 .i64 R (by omega) (by omega) W;have HA:=ae (JI p w R hR);go_enter func41,ntmps41;go_wp2;go_ret;obtain⟨w1,hw1⟩:∃w1,w1=w.alloc (.cells (madeCells #[.slice none 0 0] R) 128):=⟨_,rfl⟩;have hs1:w1.heap.size=w.heap.size+1:=by rw[hw1];simp
 have h1:LT w w1:=by rw[hw1];exact ai
 have h0:=HA.o;rw[<-hw1] at h0⊢;have h2:=h0.next (ai (A:=.cells #[OS ob,.slice (some (OV b off)) R c,OU w.heap.size R R,.slice none 0 0,.pointer none] 107));have hbx:(w1.alloc (.cells #[OS ob,.slice (some (OV b off)) R c,OU w.heap.size R R,.slice none 0 0,.pointer none] 107)).ownsRow w.heap.size 107 5 (jQ w1.heap.size) 1 (iI ob w.heap.size R (.slice (some (OV b off)) R c) (.slice none 0 0)):=
  ⟨by simp[iI],.inr ⟨w1.heap.size,1,_,rfl,by omega,heap_alloc_new w1 _,NL _,by decide,by simp,by simp[iI]⟩⟩
 rw[hs1] at hbx;exact⟨w.heap.size+1,w.heap.size,_,rfl,⟨hbx,⟨_,_,_,rfl⟩,h2,bN.nil _ _⟩,Io h1 ai⟩
variable{fss:OG}
theorem fC.mono{B':Nat}(h:fC B' w v us fss)(hb:B<=B'):fC B w v us fss:=⟨h.len,JJ h.own hb,h.kind,h.pls⟩
def B3:OR->Option Nat
 | .slice (some a) _ _=>some a.block
 |_=>none
theorem Vl.far{x:OR}(h:Vl w x fss)(hk:cK w g)(hg:w.grownBy w' (some g))(hne:B3 x≠some g):Vl w' x fss:=by obtain⟨a,c,rfl,h⟩:=h;refine⟨a,c,rfl,λhp=>?_⟩;obtain⟨b,off,rfl,hlt,hat⟩:=h hp;have hb:b≠g:=λe=>hne (by simp[B3,e]);refine⟨b,off,rfl,NQ hlt hg.size,λi hi=>?_⟩;obtain⟨v,hc,hpl⟩:=hat i hi;exact⟨v,by rw[jZ hg hlt hb];exact hc,mz hk hg hpl⟩
theorem fC.far(h:fC B w v us fss)(hk:cK w g)(hg:w.grownBy w' (some g))(hne:v.ownBlock≠some g):fC B w' v us fss:=by refine⟨h.len,h.own.kept hg (Oy hne),λg2 h2 j u hu=>?_,λi hi=>mz hk hg (h.pls i hi)⟩;have hlt:=(NK h.own g2 h2).2;rw[jZ hg hlt (λe=>hne (by rw[h2,e]))] at hu;exact h.kind g2 h2 j u hu
theorem fC.put{c n:Nat}{f:Lt}(h:fC B w (OU g n c) us fss)(hn:n=fss.length)(hi:i<fss.length)(hu:Pl w u f):fC B (w.setCell (OV g i) u) (OU g n c) (us.set i u) (fss.set i f)/\w.grownBy (w.setCell (OV g i) u) (some g):=by
 subst hn;have hk:=h.kind g rfl;obtain⟨s1,s2⟩:=h.own.stored i u;have huS:∃a n c,u=.slice a n c:=by obtain⟨a,c,e,_⟩:=hu;exact⟨_,_,_,e⟩
 refine⟨⟨by simp[h.len],by rw[List.length_set];exact s1,λg2 h2=>?_,λk hk2=>?_⟩,s2⟩
 .simp only[Value.ownBlock,N7] at h2;subst h2;rcases h.own.2 with ⟨h',_⟩|⟨g',cap',ag,h',hb,hg,_⟩
  .simp at h'
  .simp only[N8,N7,Addr.mk.injEq,and_true,true_and] at h';obtain⟨rfl,rfl⟩:=h';have hcur:=wu hg hk;refine sd (heap_setCell_same w g i ag _ u hg) λy hy=>?_;rw[Array.mem_toList_iff] at hy;rcases Array.mem_or_eq_of_mem_setIfInBounds hy with h9|h9
   .exact hcur y (by rw[Array.mem_toList_iff];exact h9)
   .rw[h9];exact huS
 .rw[List.length_set] at hk2;by_cases e:i=k
  .subst e;have e1:(us.set i u).getD i aL=u:=by simp[NY,show i<us.length by rw[h.len];exact hi]
   have e2:(fss.set i f).getD i []=f:=by simp[NY,hi]
   rw[e1,e2];exact mz hk s2 hu
  .have e1:(us.set i u).getD k aL=us.getD k aL:=by simp[NY,List.getElem?_set_ne e]
   have e2:(fss.set i f).getD k []=fss.getD k []:=by simp[NY,List.getElem?_set_ne e]
   rw[e1,e2];exact mz hk s2 (h.pls k hk2)
theorem BB:∀{xs:OP},(∀x∈xs,0<=x)->∀x∈xs,x<=aj xs
 |[],_,x,hx=>by simp at hx
 |y::ys,h,x,hx=>by
  have h0:=h y (by simp);have h1:=vO (xs:=ys) λz hz=>h z (by simp[hz]);simp only[aj];rcases Og.1 hx with rfl|hx
  .omega
  .have:=BB (xs:=ys) (λz hz=>h z (by simp[hz])) x hx;omega
end Go.Proofs.YtjkalahhpobefaaGreat
