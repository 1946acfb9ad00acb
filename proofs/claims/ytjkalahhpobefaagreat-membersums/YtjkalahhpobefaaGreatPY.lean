/- PolyRing: what its. -/
import Derived.Test.YtjkalahhpobefaaGreatWN
import Derived.Test.YtjkalahhpobefaaGreatBA
import Derived.Test.YtjkalahhpobefaaGreatZT
set_option maxHeartbeats 4000000
set_option maxRecDepth 100000
namespace Go.Proofs.YtjkalahhpobefaaGreat
set_option linter.all false
open Go.Proofs.Tryz Go.RowKit
def mk(p:Int)(φ:PI->Int)(lss:PA)(q:Lt)(i:Nat):Nat->Int
 |0=>0
 |k+1=>mk p φ lss q i k+az φ (aH p (q.getD k []) ((lss.getD k []).getD i []))
variable{i:Nat}{p o:Int}
theorem BO{φ:PI->Int}{v w:Lt}(hl:v.length=w.length)(hi:i<v.length):p∣az φ ((eh p o v w).getD i [])-(az φ (v.getD i [])+az φ (w.getD i [])):=by rw[wi hl hi,<-nC];exact pp p o φ _
theorem wj{p o:Int}{R:Nat}{lss:PA}{q:Lt}(hl:∀g∈lss,g.length=R)(φ:PI->Int)(i:Nat)(hi:i<R):∀k,k<=lss.length->(cr p o R q lss k).length=R/\p∣az φ ((cr p o R q lss k).getD i [])-mk p φ lss q i k
 |0,_=>by
  refine⟨by simp[cr],0,?_⟩;have e:(cr p o R q lss 0).getD i []=[]:=by simp[cr,OH,hi]
  rw[e];simp[az,mk]
 |k+1,hk=>by
  obtain⟨h1,a,ha⟩:=wj hl φ i hi k (by omega);have hgl:=hl _ (mB lss k (by omega));have hpl:(jB p o (q.getD k []) (lss.getD k [])).length=R:=by unfold jB;rw[OS,hgl]
  refine⟨by simp only[cr];rw[wu (by rw[h1,hpl])];exact h1,?_⟩;simp only[cr,mk];obtain⟨c1,hc1⟩:=BO (p:=p) (o:=o) (φ:=φ) (v:=cr p o R q lss k) (w:=jB p o (q.getD k []) (lss.getD k [])) (i:=i) (by rw[h1,hpl]) (by omega);have e1:(jB p o (q.getD k []) (lss.getD k [])).getD i []=aR p o (aH p (q.getD k []) ((lss.getD k []).getD i [])):=by unfold jB;rw[ww (λg=>aR p o (aH p (q.getD k []) g)) _ _ (by rw[hgl];exact hi)]
  rw[e1] at hc1;obtain⟨c2,hc2⟩:=pp p o φ (aH p (q.getD k []) ((lss.getD k []).getD i []));refine⟨a+c1+c2,?_⟩;rw[Int.mul_add,Int.mul_add];omega
theorem pL{τ:Type}(φ:τ->Int):∀a b:List (Int×τ),Gb.ln φ (a++b)=Gb.ln φ a+Gb.ln φ b
 |[],b=>by simp[Gb.ln]
 |x::a,b=>by simp only[List.cons_append,Gb.ln];rw[pL φ a b];omega
def TB(w:PJ)(bb:Nat)(c:Int)(ev:PK):Prop:=w.cell? (PN bb 0)=some (PO c)/\w.cell? (PN bb 1)=some ev
variable{bb:Nat}{w w':PJ}
theorem TB.below{c:Int}{ev:PK}(h:TB w bb c ev)(hb:Io w w'):TB w' bb c ev:=⟨af h.1 hb,af h.2 hb⟩
def TZ(w:PJ)(bb:Nat):Prop:=w.ownsRow bb 47 2 (PM bb 1 1) 1 [PO 0,.slice none 0 0]
theorem TZ.below(h:TZ w bb)(hb:Io w w'):TZ w' bb:=aF h hb
theorem TZ.put(h:TZ w bb)(c:Int)(ev:PK):TB ((w.setCell (PN bb 0) (PO c)).setCell (PN bb 1) ev) bb c ev:=by have s1:=h.stored 0 (PO c);have s2:=s1.1.stored 1 ev;have x0:=s2.1.cellAt 0 (by simp);have x1:=s2.1.cellAt 1 (by simp);exact⟨by simpa using x0,by simpa using x1⟩
def bG(R:Nat)(t:Ft):Gb.Te:=(R-1-t.pl.toNat,t.a.toNat,t.b.toNat,t.d.toNat)
def sK(ψ:Int->Int):PB->Int
 |[]=>0
 |t::ts=>t.c*ψ t.k+sK ψ ts
theorem BP(ψ:Int->Int):∀f g:PB,sK ψ (f++g)=sK ψ f+sK ψ g
 |[],g=>by simp[sK]
 |t::f,g=>by simp only[List.cons_append,sK,BP ψ f g];omega
theorem BQ(ψ:Int->Int)(a:Int):∀l:PB,sK ψ l=ao a l*ψ a+sK ψ (l.filter λt=>decide (t.k≠a))
 |[]=>by simp[sK,ao]
 |t::l=>by
  have ih:=BQ ψ a l;by_cases h:t.k=a
  .rw[List.filter_cons_of_neg (by simp[h])];simp only[sK,ao,OW h,Int.add_mul];rw[ih,h];omega
  .rw[List.filter_cons_of_pos (by simp[h])];simp only[sK,ao,OV h];rw[ih];simp only[Int.zero_add];omega
theorem BR(k a:Int):∀l:PB,ao k (l.filter λt=>decide (t.k≠a))=if k=a then 0 else ao k l
 |[]=>by simp[ao]
 |t::l=>by
  have ih:=BR k a l;by_cases h:t.k=a
  .rw[List.filter_cons_of_neg (by simp[h]),ih];by_cases hk:k=a
   .rw[OW hk,OW hk]
   .rw[OV hk,OV hk];simp only[ao];rw[OV (by omega)];omega
  .rw[List.filter_cons_of_pos (by simp[h])];simp only[ao];rw[ih];by_cases hk:k=a
   .rw[OW hk,OW hk,OV (by omega)];omega
   .rw[OV hk,OV hk]
theorem JE(ψ:Int->Int):∀(n:Nat)(l:PB),l.length<=n->(∀k,p∣ao k l)->p∣sK ψ l:=by
 intro n;induction n with
 |zero=>intro l hl _;have:l=[]:=O8.1 (by omega);subst this;exact⟨0,by simp[sK]⟩
 |succ n ih=>
  intro l hl hc;cases l with
  |nil=>exact⟨0,by simp[sK]⟩
  |cons t l=>
   rw[BQ ψ t.k];have h1:((t::l).filter λu=>decide (u.k≠t.k)).length<=n:=by rw[List.filter_cons_of_neg (by simp)];have:=Pc (λu:Ft=>decide (u.k≠t.k)) l;simp at hl;omega
   obtain⟨x,hx⟩:=ih _ h1 λk=>by
    rw[BR];by_cases hk:k=t.k
    .rw[OW hk];exact⟨0,by omega⟩
    .rw[OV hk];exact hc k
   obtain⟨y,hy⟩:=hc t.k;exact⟨y*ψ t.k+x,by rw[hx,hy];grind⟩
theorem BS(ψ:Int->Int):∀l:PB,sK ψ (l.map λt=>{t with c:=-t.c})=-sK ψ l
 |[]=>by simp[sK]
 |t::l=>by simp only[List.map_cons,sK,BS ψ l,Int.neg_mul];omega
theorem BT(k:Int):∀l:PB,ao k (l.map λt=>{t with c:=-t.c})=-ao k l
 |[]=>by simp[ao]
 |t::l=>by
  simp only[List.map_cons,ao,BT k l];by_cases h:t.k=k
  .rw[OW h,OW h];omega
  .rw[OV h,OV h];omega
theorem Hu(ψ:Int->Int){f g:PB}(h:∀k,p∣ao k f-ao k g):p∣sK ψ f-sK ψ g:=by
 have h2:=JE (p:=p) ψ _ (f++g.map λt=>{t with c:=-t.c}) (Ou _) λk=>by rw[iY,BT];obtain⟨x,hx⟩:=h k;exact⟨x,by omega⟩
 rw[BP,BS] at h2;obtain⟨x,hx⟩:=h2;exact⟨x,by omega⟩
def rX(ov pl:Int):Int:=if ov=1 then 80 else 80+40*pl
def oq(o ov:Int)(N R:Nat)(t:Ft):Prop:=Gd o ov N R (rX ov t.pl) t
variable{ov:Int}
theorem JF{pl:Int}(h0:0<=pl)(h:pl<40):80<=rX ov pl/\rX ov pl<=1640:=by unfold rX;split<;>omega
variable{N R:Nat}
theorem oq.alk(x t:Ft)(h:eC x t)(g:oq o ov N R t):oq o ov N R x:=by unfold oq at g⊢;have:=Gd.alk x t h g;rw[h.2.2.2.2.2];exact this
variable{t:Ft}{Q2:Int}
theorem Gd.wide{Q:Int}(g:Gd o ov N R Q t)(h:t.a+t.b+t.d<=Q2):Gd o ov N R Q2 t:=⟨g.k,g.a,g.b,g.d,h,g.z,g.pl0,g.pl,g.n1,g.n2⟩
theorem oq.gd(hR:R<=40)(g:oq o ov N R t):Gd o ov N R 1640 t:=by have h0:=g.pl0;have h1:=g.pl;have h2:=g.deg;exact Gd.wide g (by have:=JF (ov:=ov) h0 (by omega);omega)
def BU(b:Ft):Gb.Mo:=(b.a.toNat,b.b.toNat,b.d.toNat)
variable{L bt:Ft}
theorem pd{p:Int}(h0:0<N)(h3:N<=3)(ha:bt.a+L.a=t.a)(hb:bt.b+L.b=t.b)(hd:bt.d+L.d=t.d):aD N t=aP (·+·) (aD N bt) (aD N L):=by
 have hN:N=1\/N=2\/N=3:=by omega
 rcases hN with rfl|rfl|rfl<;>simp[aD,aP]<;>omega
theorem jP(h3:N<=3)(t:Ft):(aD N t).length=N:=by unfold aD;rw[O7];simp;omega
structure rY(N:Nat)(t L bt:Ft):Prop where
 pl:L.pl=t.pl
 a:bt.a+L.a=t.a
 b:bt.b+L.b=t.b
 d:bt.d+L.d=t.d
 a0:0<=bt.a
 b0:0<=bt.b
 d0:0<=bt.d
 z:bt.z=0
 n1:N<=1->bt.b=0
 n2:N<=2->bt.d=0
theorem rY.key{Q1:Int}(h:rY N t L bt)(h0:0<N)(h3:N<=3)(gt:Gd o ov N R Q1 t)(gL:Gd o ov N R Q2 L):L.k+bC o (aD N bt)=t.k:=by rw[gt.k,gL.k,pd (p:=0) h0 h3 h.a h.b h.d,<-h.pl];unfold jv;rw[pe h3 (jP h3 _) (jP h3 _)];omega
theorem rY.te(h:rY N t L bt)(gL:Gd o ov N R Q2 L):Gb.yq (BU bt) (bG R L)=bG R t:=by have h1:=h.a;have h2:=h.b;have h3:=h.d;have h4:=h.a0;have h5:=h.b0;have h6:=h.d0;have g1:=gL.a;have g2:=gL.b;have g3:=gL.d;unfold Gb.yq BU bG;rw[h.pl];simp only[Prod.mk.injEq,true_and];omega
variable{rows:PC}
theorem iF{G:Ft->Prop}(h:aG p G rows):∀t∈rows.flatten,G t:=λt ht=>by obtain⟨r,h1,h2⟩:=List.mem_flatten.1 ht;exact h.gd r h1 t h2
theorem zN{rows2:PC}{r:Option Ft}(hn:Nx p rows r rows2):(∀f∈rows,Dn f)->r=none->∀f∈rows2,f=[]:=by
 induction hn using Nx.ind with
 |stop rows hg=>exact λhd _=>BV hd hg
 |hit rows t hg hne=>exact λ_ h=>by simp at h
 |go rows rows2 t r hg hz hn ih=>intro hd he;refine ih (λf hf=>?_) he;obtain⟨f0,h0,rfl⟩:=OR.1 hf;exact wy (hd f0 h0)
structure Mm where
 blk:Nat
 L:Ft
 rv:PK
 r:PB
 gone:Bool
abbrev PD:=List Mm
structure i9(p:Int)(w:PJ)(x:Mm):Prop where
 div:kF w x.blk 0 x.L x.rv 0 (aV p x.L.c)
 gone:w.cell? (PN x.blk 10)=some (.bool x.gone)
 rest:Fv w x.rv x.r
variable{x:Mm}
theorem i9.below(h:i9 p w x)(hb:Io w w'):i9 p w' x:=⟨h.div.below hb,af h.gone hb,h.rest.below hb⟩
def mC(w:PJ)(u:PK)(l:PD):Prop:=∃a c,u=.slice a l.length c/\∀j (h:j<l.length),∃b off,a=some (PN b off)/\w.cell? (PN b (off+j))=some (PL (l[j].blk))
variable{u:PK}
theorem mC.below{l:PD}(h:mC w u l)(hb:Io w w'):mC w' u l:=by obtain⟨a,c,h1,h2⟩:=h;refine⟨a,c,h1,λj hj=>?_⟩;obtain⟨b,off,h3,h4⟩:=h2 j hj;exact⟨b,off,h3,af h4 hb⟩
def a8(ms:PD)(pl:Nat):PD:=ms.filter λx=>decide (x.L.pl=pl)
structure j6(p:Int)(w:PJ)(mb R:Nat)(ms:PD):Prop where
 row:∃g c,w.cell? (PN mb 2)=some (PM g R c)/\∀pl,pl<R->∃u,w.cell? (PN g pl)=some u/\mC w u (a8 ms pl)
 mem:∀x∈ms,i9 p w x
 work:w.cell? (PN mb 4)=some (.pointer none)
variable{ms:PD}{mb:Nat}
theorem j6.below(h:j6 p w mb R ms)(hb:Io w w'):j6 p w' mb R ms:=by obtain⟨⟨g,c,h1,h2⟩,h3,h4⟩:=h;refine⟨⟨g,c,af h1 hb,λpl hp=>?_⟩,λx hx=>(h3 x hx).below hb,af h4 hb⟩;obtain⟨u,q1,q2⟩:=h2 pl hp;exact⟨u,af q1 hb,q2.below hb⟩
def eQ(t:Ft)(x:Mm):Bool:=!x.gone&&cA x.L t
def eP(ms:PD)(t:Ft):Option Mm:=(a8 ms t.pl.toNat).find? (eQ t)
def ot(x:Option Mm):PK:=.pointer (x.map λx=>(PN x.blk 0))
theorem BW(p:Int)(mb R:Nat)(ms:PD)(t:Ft)(w:PJ)(hm:j6 p w mb R ms)(hn:ms.length<=2100000)(h0:0<=t.pl)(hR:t.pl<R):Calls prog 88 #[PL mb,aX t] w λe w'=>e=.returned (ot (eP ms t))/\Io w w':=by
 obtain⟨n,hnpl⟩:∃n:Nat,t.pl=n:=⟨t.pl.toNat,by omega⟩;have hnR:n<R:=by omega
 have HMEM:=ae hm.mem;obtain⟨g,c,hg1,hg2⟩:=hm.row;obtain⟨u,hu1,hu2⟩:=hg2 n hnR;obtain⟨a,c2,rfl,hpt⟩:=hu2;have HPT:=ae hpt;have htn:t.pl.toNat=n:=by omega
 have HFM:Po (eP ms t=(a8 ms n).find? (eQ t)):=by show _=_;unfold eP;rw[htn]
 have HSUB:Po (∀x∈a8 ms n,x∈ms):=λx hx=>(O5.1 hx).1;have hln:(a8 ms n).length<=2100000:=OA (Pc _ _) hn;obtain⟨w1,hw1⟩:∃w1,w1=w.alloc (.cells #[PO t.k,PP t.a,PP t.b,PP t.d,PP t.z,PQ t.pl,PQ t.c] 88):=⟨_,rfl⟩;have HB1:Po (Io w w1):=by rw[hw1];exact ai
 have HX1:Po (Bx w.heap.size w1 w.heap.size t):=by rw[hw1];exact dr (Ou _) t
 have HPLN:=ae hnpl;have k1:=af hg1 HB1.o;have k2:=af hu1 HB1.o;obtain⟨y0,y1,y2,y3,y4,y5,y6⟩:=HX1.o.at;simp only[ON] at y0 y1 y2 y3 y4 y5 y6;rw[hnpl] at y5;have hnRI:(n:Int)<(R:Int):=by omega
 clear hm hg1 hg2 hu1 hpt htn hn y0 y1 y2 y3 y4 y6 hnpl h0 hR;rw[HFM.o];clear HFM;generalize a8 ms n=l at*;unfold aX;go_enter func88,ntmps88;go_upto_region 1 with fail;rw[<-hw1];clear hw1;go_quiet (fail);clear k1 k2 y5;have HB2:Po (Io w1 (w1.drewN nq)):=below_drewN (Ov _ _) _;go_wp2_with fail;go_loopw [16] (λi wr=>∃m:Nat,m<=l.length/\i=PO m/\(∀j (h:j<l.length),j<m->eQ t l[j]=false)/\Io w1 wr) (λi _=>l.length-(intOf i).toNat);case atStart=>exact⟨0,OB _,rfl,λj _ h=>by omega,HB2.o⟩
 case round=>
  obtain⟨m,hm,rfl,hno,hbr⟩:=hrel;have HNO:=ae hno;have HBR:=ae hbr;clear hno hbr;have HBT:=ae (In HB1.o HBR.o);by_cases hm2:m<l.length
  .obtain⟨b,off,rfl,hcell⟩:=HPT.o m hm2;have k1:=af hcell HBT.o;have HM:=ae ((HMEM.o _ (HSUB.o _ (OE hm2))).below HBT.o);have HXR:=ae (HX1.o.below HBR.o);have HFI:Po (eQ t l[m]=true->l.find? (eQ t)=some l[m]):=λh=>by rw[List.find?_eq_some_iff_getElem];exact⟨h,m,hm2,rfl,λj hj=>by have:=HNO.o j (by omega) hj;simp[this]⟩
   have HNX:Po (eQ t l[m]=false->∀j (h:j<l.length),j<m+1->eQ t l[j]=false):=λh j hj hjm=>by
    rcases Nat.lt_succ_iff_lt_or_eq.1 hjm with h2|rfl
    .exact HNO.o j hj h2
    .exact h
   have hmI:(m:Int)<(l.length:Int):=by omega
   have HPM:Po (∀x,l.find? (eQ t)=some x->ot (l.find? (eQ t))=PL x.blk):=λx h=>by rw[h];rfl
   generalize hx:l[m]=x at*;clear hx hcell;cases hgn:x.gone with
   |true=>
    have HGO:Po (eQ t x=false):=by show _=_;unfold eQ;rw[hgn];rfl
    have k2:=HM.o.gone;rw[hgn] at k2;clear hgn;go_upto_region 4 with fail;go_quiet (fail);go_wp2;go_roundw;case rel=>exact⟨m+1,by omega,by go_num,HNX.o HGO.o,below_drewN HBR.o _⟩
    case measure=>simp[intOf];omega
   |false=>
    have HGO:Po (eQ t x=cA x.L t):=by show _=_;unfold eQ;rw[hgn];rfl
    have k2:=HM.o.gone;rw[hgn] at k2;clear hgn;have HIN:Po (∀W,Io wr W->Calls prog 123 #[PL x.blk,aX t] W λe w'=>e=.returned (.bool (cA x.L t))/\Io W w'):=λW hb=>Bn x.blk 0 x.L t _ _ _ W (HM.o.div.below hb);unfold aX at HIN;have KEEP:Po (∀W,Io wr W->(Po (Io wr W)/\W.cell? (PN x.blk 10)=some (.bool false)/\W.cell? (PN w.heap.size 0)=some (PO t.k)/\W.cell? (PN w.heap.size 1)=some (PP t.a)/\W.cell? (PN w.heap.size 2)=some (PP t.b)/\W.cell? (PN w.heap.size 3)=some (PP t.d)/\W.cell? (PN w.heap.size 4)=some (PP t.z)/\W.cell? (PN w.heap.size 5)=some (PQ t.pl)/\W.cell? (PN w.heap.size 6)=some (PQ t.c))):=λW hb=>by obtain⟨y0,y1,y2,y3,y4,y5,y6⟩:=HXR.o.at.keep hb;simp only[ON] at y0 y1 y2 y3 y4 y5 y6;exact⟨hb,af k2 hb,y0,y1,y2,y3,y4,y5,y6⟩
    have HB0:Po (Io wr wr.drew):=(Ov _ _).drew;have HG2:=HGO.o;rw[HGO.o] at HFI HNX;generalize cA x.L t=bb at HIN HFI HNX;clear HGO HG2 k2;go_upto_region 4 with fail;go_region_held (λW=>Po (Io wr W)/\W.cell? (PN x.blk 10)=some (.bool false)/\W.cell? (PN w.heap.size 0)=some (PO t.k)/\W.cell? (PN w.heap.size 1)=some (PP t.a)/\W.cell? (PN w.heap.size 2)=some (PP t.b)/\W.cell? (PN w.heap.size 3)=some (PP t.d)/\W.cell? (PN w.heap.size 4)=some (PP t.z)/\W.cell? (PN w.heap.size 5)=some (PQ t.pl)/\W.cell? (PN w.heap.size 6)=some (PQ t.c))
     (first|exact KEEP.o _ HB0.o|exact KEEP.o _ HB9.o)
     (first|(go_at_call 123;refine(HIN.o _ HB0.o).mono ?_;rintro e w9 ⟨rfl,hb9⟩;have HB9:=ae (In HB0.o hb9);clear hb9))
    cases bb with
    |true=>have HE:=ae (HPM.o x (HFI.o rfl));go_wp2;go_ret;refine⟨?_,In HBT.o HB9.o⟩;rw[HE.o];rfl
    |false=>
     go_wp2;go_roundw;case rel=>exact⟨m+1,by omega,by go_num,HNX.o rfl,In HBR.o HB9.o⟩
     case measure=>simp[intOf];omega
  .have e:m=l.length:=by omega
   subst e;have HE:Po (l.find? (eQ t)=none):=by show _=_;rw[List.find?_eq_none];intro d hdm;obtain⟨j,hj,rfl⟩:=List.getElem_of_mem hdm;have:=HNO.o j hj hj;simp[this]
   go_wp2;go_ret;refine⟨?_,HBT.o⟩;rw[HE.o];rfl
theorem JG(n:Int)(w:PJ):Calls prog 124 #[.pointer none,PO n] w λe w'=>e=.returned (.tuple #[])/\w'=w:=by go_enter func124,ntmps124;go_wp2;go_end0;exact⟨rfl,rfl⟩
theorem uR(w:PJ):Calls prog 125 #[.pointer none] w λe w'=>e=.returned (.bool false)/\∃n,w'=w.drewN n:=by go_enter func125,ntmps125;go_wp2;go_ret;exact⟨rfl,0,rfl⟩
theorem JH(mb g dof:Nat)(L t:Ft)(ra:Option Addr)(rn rc:Nat)(num inv:Int)(w:PJ)(hw:w.cell? (PN mb 4)=some (.pointer none))(hd:kF w g dof L (.slice ra rn rc) num inv)(hr:rn<=1100000000000):Calls prog 89 #[PL mb,.pointer (some (PN g dof)),aX t] w λe w'=>e=.returned (.bool true)/\Io w w':=by
 obtain⟨w1,hw1⟩:∃w1,w1=w.alloc (.cells #[PO t.k,PP t.a,PP t.b,PP t.d,PP t.z,PQ t.pl,PQ t.c] 88):=⟨_,rfl⟩;have HB1:Po (Io w w1):=by rw[hw1];exact ai
 have k1:=af hw HB1.o;have k2:=af hd.c7 HB1.o;clear hw hd;unfold aX;go_enter func89,ntmps89;go_upto_region 1 with fail;rw[<-hw1];clear hw1;have K0:Po (w1.drew.cell? (PN mb 4)=some (.pointer none)/\w1.drew.cell? (PN g (dof+7))=some (.slice ra rn rc)):=⟨k1,k2⟩;go_region_held (λW=>W.cell? (PN mb 4)=some (.pointer none)/\W.cell? (PN g (dof+7))=some (.slice ra rn rc))
  (first|with_reducible exact K0.o)
  (first|(go_at_call 124;refine(JG _ _).mono ?_;rintro e w' ⟨rfl,rfl⟩))
 go_wp2_with (go_at_call 125;refine(uR _).mono ?_;rintro e w' ⟨rfl,n9,rfl⟩);go_ret;exact⟨rfl,below_drewN HB1.o _⟩
def BZ(w:PJ)(b:Nat):Prop:=∃i x,w.cell? (PN b i)=some (PQ x)
structure dy(w w':PJ):Prop where
 size:w.heap.size<=w'.heap.size
 keep:∀b j u,BZ w b->w.cell? (PN b j)=some u->(∀c,u≠.bool c)->w'.cell? (PN b j)=some u
theorem dy.refl(w:PJ):dy w w:=⟨Ou _,λ_ _ _ _ h _=>h⟩
theorem dy.trans{a b c:PJ}(h:dy a b)(k:dy b c):dy a c:=by refine⟨OA h.size k.size,λbl j u hb hc hn=>k.keep bl j u ?_ (h.keep bl j u hb hc hn) hn⟩;obtain⟨i,x,hi⟩:=hb;exact⟨i,x,h.keep bl i _ ⟨i,x,hi⟩ hi (λc e=>by cases e)⟩
theorem dy.of_below(h:Io w w'):dy w w':=⟨h.size,λb j u _ hc _=>af hc h⟩
def d8(u:PK):Prop:=∀x,u≠PQ x
variable{S:Nat->Prop}
theorem dy.of_frm(h:aj S w w')(hn:∀g,S g->bU d8 w g):dy w w':=
 ⟨h.size,λb j u hb hc _=>h.cell hc λhs=>by obtain⟨i,x,hi⟩:=hb;exact hn b hs i _ hi x rfl⟩
theorem dy.of_bool{b j:Nat}{c:Bool}(hc:w.cell? (PN b j)=some (.bool c))(u:PK):dy w (w.setCell (PN b j) u):=by
 refine⟨by simp[World.setCell],λb2 j2 u2 _ hc2 hn=>?_⟩;rw[World.cell?_setCell_other]
 .exact hc2
 .intro e;rw[<-e,hc] at hc2;exact hn c (by simpa using hc2.symm)
theorem JI(fs:PB):∀u∈aA fs,∀c,u≠.bool c:=by intro u hu c e;simp only[aA,Pk] at hu;obtain⟨t,_,hu⟩:=hu;subst e;simp[aB] at hu
variable{v:PK}
theorem Fv.fr8{fs:PB}(h:Fv w v fs)(k:dy w w'):Fv w' v fs:=by
 obtain⟨a,cap,rfl,hc,h1⟩:=h;refine⟨a,cap,rfl,hc,λhp=>?_⟩;obtain⟨b,off,rfl,hlt,hcs⟩:=h1 hp;have hb:BZ w b:=by
  cases fs with
  |nil=>simp at hp
  |cons t ts=>exact⟨off+5,t.pl,hcs 5 _ rfl⟩
 exact⟨b,off,rfl,Oz hlt k.size,λj u hj=>k.keep b _ u hb (hcs j u hj) (JI fs u (List.mem_of_getElem? hj))⟩
def rZ(p:Int)(x:Mm):PH:=ou x.L x.rv 0 (aV p x.L.c)++[.bool x.gone]
def jT(b:Nat):PK:=PM b 1 1
structure b9(p:Int)(B:Nat)(w:PJ)(x:Mm):Prop where
 own:w.ownsRow B 132 11 (jT x.blk) 1 (rZ p x)
 rest:Fv w x.rv x.r
variable{B:Nat}
theorem b9.next(h:b9 p B w x)(hb:Io w w'):b9 p B w' x:=⟨aF h.own hb,h.rest.below hb⟩
theorem b9.lt(h:b9 p B w x):B<=x.blk/\x.blk<w.heap.size:=Ot h.own x.blk rfl
theorem b9.mbr(h:b9 p B w x):i9 p w x:=by
 have hc:∀j,j<11->w.cell? (PN x.blk j)=(rZ p x)[j]?:=λj hj=>Oq h.own j (by omega);refine⟨⟨h.lt.2,λj u hj=>?_,?_,?_,?_⟩,?_,h.rest⟩
 .have hj7:j<7:=by apply OU;intro hle;rw[OJ (by simpa [aB] using hle)] at hj;simp at hj
  rw[ON,hc j (by omega)];have:j=0\/j=1\/j=2\/j=3\/j=4\/j=5\/j=6:=by omega
  rcases this with rfl|rfl|rfl|rfl|rfl|rfl|rfl<;>exact hj
 .rw[hc 7 (by omega)];rfl
 .rw[hc 8 (by omega)];rfl
 .rw[hc 9 (by omega)];rfl
 .rw[hc 10 (by omega)];rfl
theorem b9.frm(h:b9 p B w x)(hf:aj S w w')(h8:dy w w')(hs:¬S x.blk):b9 p B w' x:=
 ⟨hf.own h.own λg hg=>by simp only[jT,Value.ownBlock,OP] at hg;rw[<-hg];exact hs,h.rest.fr8 h8⟩
variable{g:Nat}
theorem b9.nob(h:b9 p B w x)(hk:bU d8 w g):x.blk≠g:=λe=>by have:=h.mbr.div.cells.2.2.2.2.2.1;rw[e] at this;exact hk _ _ this _ rfl
theorem b9.put(h:b9 p B w x)(c:Bool):b9 p B (w.setCell (PN x.blk 10) (.bool c)) {x with gone:=c}/\w.grownBy (w.setCell (PN x.blk 10) (.bool c)) (some x.blk)/\dy w (w.setCell (PN x.blk 10) (.bool c)):=by have h1:=OF h.own 10 (.bool c);have h8:=dy.of_bool h.mbr.gone (.bool c);refine⟨⟨?_,h.rest.fr8 h8⟩,h1.2,h8⟩;have:=h1.1;have e:(rZ p x).set 10 (.bool c)=rZ p {x with gone:=c}:=rfl;rw[e] at this;exact this
def ee(x:Mm):PK:=PL x.blk
structure eZ(p:Int)(B:Nat)(w:PJ)(R g:Nat)(us:PH)(ms:PD):Prop where
 o:w.ownsRow B 128 1 (PM g R R) R us
 okd:bU d8 w g
 row:∀pl,pl<R->w.ownsRow B 81 1 (us.getD pl aL) (a8 ms pl).length ((a8 ms pl).map ee)
 rkd:∀pl,pl<R->∀k,(us.getD pl aL).ownBlock=some k->bU d8 w k
 dis:∀i j,i<R->j<R->i≠j->∀k,(us.getD i aL).ownBlock=some k->(us.getD j aL).ownBlock≠some k
 mem:∀x∈ms,b9 p B w x
 nd:(ms.map Mm.blk).Nodup
variable{us:PH}
theorem eZ.frm(h:eZ p B w R g us ms)(hf:aj S w w')(hn:∀k,S k->bU d8 w k)(ht:∀k,S k->cq w 128 k/\cq w 81 k):eZ p B w' R g us ms:=by
 have h8:=dy.of_frm hf hn;have hog:¬S g:=λhs=>by obtain⟨ag,e⟩:=cF h.o (g:=g) rfl;exact(ht g hs).1 ag e
 refine⟨dB hf h.o λk hk=>(ht k hk).1,hf.kdb h.okd (Ot h.o g rfl).2 hog,λpl hp=>dB hf (h.row pl hp) λk hk=>(ht k hk).2,λpl hp k hk=>?_,h.dis,λx hx=>(h.mem x hx).frm hf h8 λhs=>(h.mem x hx).nob (hn _ hs) rfl,h.nd⟩;refine hf.kdb (h.rkd pl hp k hk) (Ot (h.row pl hp) k hk).2 λhs=>?_;obtain⟨ag,e⟩:=cF (h.row pl hp) hk;exact(ht k hs).2 ag e
theorem eZ.next(h:eZ p B w R g us ms)(hb:Io w w'):eZ p B w' R g us ms:=
 h.frm (S:=λ_=>False) (aj.of_below hb) (λ_ h=>h.elim) λ_ h=>h.elim
theorem Bm(f:Mm->Mm)(hf:∀x,(f x).L=x.L)(ms:PD)(pl:Nat):a8 (ms.map f) pl=(a8 ms pl).map f:=by unfold a8;rw[List.filter_map];congr 1;apply List.filter_congr;intro x _;simp only[Function.comp,hf]
def gz(b:Nat)(c:Bool)(x:Mm):Mm:=if x.blk=b then {x with gone:=c} else x
theorem wB(b:Nat)(c:Bool)(x:Mm):(gz b c x).L=x.L/\(gz b c x).blk=x.blk/\(gz b c x).rv=x.rv/\(gz b c x).r=x.r:=by unfold gz;split<;>simp
theorem eZ.put(h:eZ p B w R g us ms)(hx:x∈ms)(c:Bool):eZ p B (w.setCell (PN x.blk 10) (.bool c)) R g us (ms.map (gz x.blk c)):=by
 obtain⟨h1,h2,h8⟩:=(h.mem x hx).put c;have hf:aj (λk=>k=x.blk) w (w.setCell (PN x.blk 10) (.bool c)):=aj.of_grown h2 λk e=>by simpa using e.symm
 have hT:∀{T:TypeId},132≠T->∀k,k=x.blk->cq w T k:=λhT k e=>by subst e;exact bj (h.mem x hx).own rfl hT
 have hrow:∀pl,(a8 (ms.map (gz x.blk c)) pl).map ee=(a8 ms pl).map ee/\(a8 (ms.map (gz x.blk c)) pl).length=(a8 ms pl).length:=λpl=>by rw[Bm _ λy=>(wB x.blk c y).1,List.map_map];refine⟨?_,by simp⟩;apply List.map_congr_left;intro y _;simp only[Function.comp,ee,(wB x.blk c y).2.1]
 refine⟨dB hf h.o (hT (by decide)),hf.kdb h.okd (Ot h.o g rfl).2 λe=>?_,λpl hp=>?_,λpl hp k hk=>?_,h.dis,λy hy=>?_,?_⟩
 .obtain⟨ag,e2⟩:=cF h.o (g:=g) rfl;exact hT (T:=128) (by decide) g e ag e2
 .rw[(hrow pl).1,(hrow pl).2];exact dB hf (h.row pl hp) (hT (by decide))
 .refine hf.kdb (h.rkd pl hp k hk) (Ot (h.row pl hp) k hk).2 λe=>?_;obtain⟨ag,e2⟩:=cF (h.row pl hp) hk;exact hT (T:=81) (by decide) k e ag e2
 .obtain⟨y0,hy0,rfl⟩:=OR.1 hy;by_cases e:y0.blk=x.blk
  .have e2:y0=x:=by
    have hnd:=h.nd;rw[List.nodup_iff_pairwise_ne,List.pairwise_map] at hnd;apply O3;intro hne;obtain⟨i,hi,rfl⟩:=List.getElem_of_mem hy0;obtain⟨j,hj,rfl⟩:=List.getElem_of_mem hx;rw[List.pairwise_iff_getElem] at hnd;rcases Nat.lt_trichotomy i j with hl|hl|hl
    .exact hnd i j hi hj hl e
    .subst hl;exact hne rfl
    .exact hnd j i hj hi hl e.symm
   subst e2;unfold gz;rw[OW rfl];exact h1
  .unfold gz;rw[OV e];exact(h.mem y0 hy0).frm hf h8 e
 .rw[List.map_map];have:(Mm.blk∘gz x.blk c)=Mm.blk:=by funext y;exact(wB x.blk c y).2.1
  rw[this];exact h.nd
structure Pq where
 b1:Nat
 b2:Nat
 a:Int
 b:Int
 d:Int
 z:Int
 dg:Int
 k:Int
abbrev PF:=List Pq
def aO(q:Pq):PH:=[PL q.b1,PL q.b2,PP q.a,PP q.b,PP q.d,PP q.z,PO q.dg,PO q.k]
def eI(q:Pq):PK:=.agg #[PL q.b1,PL q.b2,PP q.a,PP q.b,PP q.d,PP q.z,PO q.dg,PO q.k]
def bP(qs:PF):PH:=qs.flatMap aO
theorem i6(qs:PF):(bP qs).length=qs.length*8:=by
 induction qs with
 |nil=>rfl
 |cons q qs ih=>simp only[bP,List.flatMap_cons,OM,OZ] at ih⊢;rw[ih];simp[aO];omega
theorem nz(a b:PF):bP (a++b)=bP a++bP b:=by unfold bP;rw[List.flatMap_append]
theorem Ad(qs:PF)(q:Pq):bP (qs++[q])=bP qs++aO q:=by rw[nz];simp[bP]
theorem Bh(q:Pq):∀u∈aO q,u.oneCell'=true:=by intro u hu;simp only[aO,OY,List.not_mem_nil,or_false] at hu;rcases hu with rfl|rfl|rfl|rfl|rfl|rfl|rfl|rfl<;>rfl
theorem Ac(qs:PF):∀u∈bP qs,u.oneCell'=true:=by intro u hu;simp only[bP,Pk] at hu;obtain⟨t,_,hu⟩:=hu;exact Bh t u hu
theorem JJ(q:Pq):∀u∈aO q,d8 u:=by intro u hu x e;subst e;simp[aO] at hu
theorem Ae(qs:PF):∀u∈bP qs,d8 u:=by intro u hu;simp only[bP,Pk] at hu;obtain⟨t,_,hu⟩:=hu;exact JJ t u hu
structure bK(B:Nat)(w:PJ)(v:PK)(qs:PF):Prop where
 own:w.ownsRow B 238 8 v qs.length (bP qs)
 kd:∀g,v.ownBlock=some g->bU d8 w g
theorem bK.nil(B:Nat)(w:PJ):bK B w (.slice none 0 0) []:=⟨World.ownsRow_nil _ _ _ _,λg hg=>by simp[Value.ownBlock] at hg⟩
variable{qs:PF}
theorem bK.next(h:bK B w v qs)(hb:Io w w'):bK B w' v qs:=
 ⟨aF h.own hb,λg hg=>(h.kd g hg).below (hb.block g (Ot h.own g hg).2)⟩
theorem bK.frm(h:bK B w v qs)(hf:aj S w w')(hs:∀g,v.ownBlock=some g->¬S g):bK B w' v qs:=
 ⟨hf.own h.own hs,λg hg=>hf.kdb (h.kd g hg) (Ot h.own g hg).2 (hs g hg)⟩
def iH(ob g R:Nat)(dv pv:PK):PH:=[PL ob,dv,PM g R R,pv,.pointer none]
structure bh(p:Int)(B:Nat)(w:PJ)(mb ob R g:Nat)(dv pv:PK)(us:PH)(ms:PD)(qs:PF):Prop where
 box:w.ownsRow B 107 5 (jT mb) 1 (iH ob g R dv pv)
 dvs:∃a n c,dv=.slice a n c
 mks:eZ p B w R g us ms
 prs:bK B w pv qs
theorem bK.sl(h:bK B w v qs):∃a c,v=.slice a qs.length c:=cl h.own
variable{dv pv:PK}{ob:Nat}
theorem bh.kd(h:bh p B w mb ob R g dv pv us ms qs):bU d8 w mb:=by
 rcases h.box.2 with ⟨h1,_⟩|⟨g2,cap,ag,h1,_,hh,_,_,hcs,htake⟩
 .simp[jT] at h1
 .simp only[jT,OQ,OP,Addr.mk.injEq,and_true,true_and] at h1;obtain⟨rfl,rfl⟩:=h1;refine kZ hh λu hu=>?_;have e:ag.toList=iH ob g R dv pv:=by rw[<-htake,OO (by rw[Array.length_toList,hcs];omega)]
  rw[e] at hu;obtain⟨a,n,c,rfl⟩:=h.dvs;obtain⟨a2,c2,rfl⟩:=h.prs.sl;intro x ex;subst ex;simp[iH] at hu
theorem bh.next(h:bh p B w mb ob R g dv pv us ms qs)(hb:Io w w'):bh p B w' mb ob R g dv pv us ms qs:=
 ⟨aF h.box hb,h.dvs,h.mks.next hb,h.prs.next hb⟩
theorem bh.cells(h:bh p B w mb ob R g dv pv us ms qs):w.cell? (PN mb 0)=some (PL ob)/\w.cell? (PN mb 1)=some dv/\w.cell? (PN mb 2)=some (PM g R R)/\w.cell? (PN mb 3)=some pv/\w.cell? (PN mb 4)=some (.pointer none):=by have hc:∀j,j<5->w.cell? (PN mb j)=(iH ob g R dv pv)[j]?:=λj hj=>Oq h.box j (by omega);exact⟨by rw[hc 0 (by omega)];rfl,by rw[hc 1 (by omega)];rfl,by rw[hc 2 (by omega)];rfl,by rw[hc 3 (by omega)];rfl,by rw[hc 4 (by omega)];rfl⟩
theorem eZ.at(h:eZ p B w R g us ms)(pl:Nat)(hp:pl<R):w.cell? (PN g pl)=some (us.getD pl aL)/\w.frozen? (PN g pl)=false:=by
 have hl:us.length=R:=by have:=h.o.1;omega
 refine⟨?_,Oo h.o pl⟩;rw[Oq h.o pl (by omega)];rw[OH,OI (by omega)];rfl
theorem eZ.pts(h:eZ p B w R g us ms)(pl:Nat)(hp:pl<R):mC w (us.getD pl aL) (a8 ms pl):=by have ho:=h.row pl hp;obtain⟨a,c,e⟩:=cl ho;refine⟨a,c,e,λj hj=>?_⟩;rw[e] at ho;obtain⟨b,rfl,_,hlt,hc⟩:=rd ho j (by simpa using hj);exact⟨b,0,rfl,by rw[ON,hc,List.getElem?_map,OI hj];rfl⟩
theorem bh.mrw(h:bh p B w mb ob R g dv pv us ms qs):j6 p w mb R ms:=by obtain⟨_,_,c2,_,c4⟩:=h.cells;exact⟨⟨g,R,c2,λpl hp=>⟨_,(h.mks.at pl hp).1,h.mks.pts pl hp⟩⟩,λx hx=>(h.mks.mem x hx).mbr,c4⟩
theorem bh.repair{w2:PJ}{pv2:PK}{qs2:PF}(h:bh p B w mb ob R g dv pv us ms qs)(hB:B<=w.heap.size)(hf:aj (λk=>pv.ownBlock=some k) w w2)(hp:bK B w2 pv2 qs2):bh p B (w2.setCell (PN mb 3) pv2) mb ob R g dv pv2 us ms qs2/\aj (λk=>k=mb\/pv.ownBlock=some k) w (w2.setCell (PN mb 3) pv2)/\Below B w (w2.setCell (PN mb 3) pv2):=by
 have hm2:w2.ownsRow B 107 5 (jT mb) 1 (iH ob g R dv pv):=dB hf h.box λk hk=>bj h.prs.own hk (by decide);have hst:=OF hm2 3 pv2;have e:(iH ob g R dv pv).set 3 pv2=iH ob g R dv pv2:=rfl;rw[e] at hst;have hf2:aj (λk=>k=mb) w2 (w2.setCell (PN mb 3) pv2):=aj.of_grown hst.2 λk e=>by simpa using e.symm
 have hkm:bU d8 w2 mb:=by refine hf.kdb h.kd (Ot h.box mb rfl).2 λe=>?_;obtain⟨ag,e2⟩:=cF h.box (g:=mb) rfl;exact bj h.prs.own e (T':=107) (by decide) ag e2
 have hA2:eZ p B w2 R g us ms:=h.mks.frm hf (λk hk=>h.prs.kd k hk) λk hk=>⟨bj h.prs.own hk (by decide),bj h.prs.own hk (by decide)⟩;have hA3:=hA2.frm hf2 (λk hk=>by rw[hk];exact hkm) λk hk=>by subst hk;exact⟨bj hm2 rfl (by decide),bj hm2 rfl (by decide)⟩
 have hp3:=hp.frm hf2 λk hk e=>by subst e;obtain⟨ag,e2⟩:=cF hm2 (g:=k) rfl;exact bj hp.own hk (T':=107) (by decide) ag e2
 have hff:aj (λk=>k=mb\/pv.ownBlock=some k) w (w2.setCell (PN mb 3) pv2):=(hf.wide (T:=λk=>k=mb\/pv.ownBlock=some k) λ_ _ h=>Pg h).trans hf2 λk _ e=>Pf e;refine⟨⟨hst.1,h.dvs,hA3,hp3⟩,hff,hff.to_below hB λk hk=>?_⟩;rcases hk with rfl|hk
 .exact(Ot h.box k rfl).1
 .exact(Ot h.prs.own k hk).1
theorem Tryz.infoPms:(prog.info? 128).map (λi=>(i.zero,i.size,i.bytes))=some (some (.slice none 0 0),1,24):=by kernel_rfl
theorem B3(n:Nat):(madeCells #[.slice none 0 0] n).toList=List.replicate n aL:=by
 apply List.ext_getElem
 .simp[size_madeCells]
 .intro i h1 h2;simp[madeCells,Nat.mod_one,aL]
theorem JK(p:Int)(w:PJ)(R:Nat)(hR:R<=255):eZ p w.heap.size (w.alloc (.cells (madeCells #[.slice none 0 0] R) 128)) R w.heap.size (List.replicate R aL) []:=by
 have hg:∀pl,(List.replicate R aL).getD pl aL=aL:=λpl=>by
  rw[OH];by_cases h:pl<R
  .rw[OI (by simpa using h)];simp
  .rw[OJ (by simpa using h)];rfl
 have ho:∀{k:Nat},aL.ownBlock=some k->False:=λh=>by simp[aL,Value.ownBlock] at h
 refine⟨⟨by simp,.inr ⟨w.heap.size,R,_,rfl,Ou _,heap_alloc_new w _,Ou _,by unfold maxLen;omega,by simp[size_madeCells],?_⟩⟩,r7 λu hu=>?_,λpl _=>?_,λpl _ k hk=>?_,λi j _ _ _ k hk=>?_,λx hx=>by simp at hx,by simp⟩
 .rw[B3];simp
 .rw[B3] at hu;have:=(List.mem_replicate.1 hu).2;rw[this];intro x e;simp[aL] at e
 .rw[hg];exact World.ownsRow_nil _ _ _ _
 .rw[hg] at hk;exact(ho hk).elim
 .rw[hg] at hk;exact(ho hk).elim
theorem wC(p:Int)(ob R b off c:Nat)(w:PJ)(hR:R<=255):Calls prog 41 #[PL ob,.slice (some (PN b off)) R c] w λe w'=>∃mb g us,e=.returned (PL mb)/\bh p w.heap.size w' mb ob R g (.slice (some (PN b off)) R c) (.slice none 0 0) us [] []/\Io w w':=by
 have hmk:=fun(W:PJ)=>run_make_row' (P:=prog) 103 128 (.slice none 0 0) 24 underlying103 Tryz.infoPms rfl .i64 .i64 R (by omega) (by omega) W;have HA:=ae (JK p w R hR);go_enter func41,ntmps41;go_wp2;go_ret;obtain⟨w1,hw1⟩:∃w1,w1=w.alloc (.cells (madeCells #[.slice none 0 0] R) 128):=⟨_,rfl⟩;have hs1:w1.heap.size=w.heap.size+1:=by rw[hw1];simp
 have h1:Io w w1:=by rw[hw1];exact ai
 have h0:=HA.o;rw[<-hw1] at h0⊢;have h2:=h0.next (ai (A:=.cells #[PL ob,.slice (some (PN b off)) R c,PM w.heap.size R R,.slice none 0 0,.pointer none] 107));have hbx:(w1.alloc (.cells #[PL ob,.slice (some (PN b off)) R c,PM w.heap.size R R,.slice none 0 0,.pointer none] 107)).ownsRow w.heap.size 107 5 (jT w1.heap.size) 1 (iH ob w.heap.size R (.slice (some (PN b off)) R c) (.slice none 0 0)):=
  ⟨by simp[iH],.inr ⟨w1.heap.size,1,_,rfl,by omega,heap_alloc_new w1 _,Ou _,by decide,by simp,by simp[iH]⟩⟩
 rw[hs1] at hbx;exact⟨w.heap.size+1,w.heap.size,_,rfl,⟨hbx,⟨_,_,_,rfl⟩,h2,bK.nil _ _⟩,In h1 ai⟩
variable{fss:Lt}
theorem fB.mono{B':Nat}(h:fB B' w v us fss)(hb:B<=B'):fB B w v us fss:=⟨h.len,JL h.own hb,h.kind,h.pls⟩
def B4:PK->Option Nat
 | .slice (some a) _ _=>some a.block
 |_=>none
theorem Vl.far{x:PK}(h:Vl w x fss)(hk:cG w g)(hg:w.grownBy w' (some g))(hne:B4 x≠some g):Vl w' x fss:=by obtain⟨a,c,rfl,h⟩:=h;refine⟨a,c,rfl,λhp=>?_⟩;obtain⟨b,off,rfl,hlt,hat⟩:=h hp;have hb:b≠g:=λe=>hne (by simp[B4,e]);refine⟨b,off,rfl,Oz hlt hg.size,λi hi=>?_⟩;obtain⟨v,hc,hpl⟩:=hat i hi;exact⟨v,by rw[j7 hg hlt hb];exact hc,mD hk hg hpl⟩
theorem fB.far(h:fB B w v us fss)(hk:cG w g)(hg:w.grownBy w' (some g))(hne:v.ownBlock≠some g):fB B w' v us fss:=by refine⟨h.len,h.own.kept hg (Pg hne),λg2 h2 j u hu=>?_,λi hi=>mD hk hg (h.pls i hi)⟩;have hlt:=(Ot h.own g2 h2).2;rw[j7 hg hlt (λe=>hne (by rw[h2,e]))] at hu;exact h.kind g2 h2 j u hu
theorem fB.put{c n:Nat}{f:LT}(h:fB B w (PM g n c) us fss)(hn:n=fss.length)(hi:i<fss.length)(hu:Pl w u f):fB B (w.setCell (PN g i) u) (PM g n c) (us.set i u) (fss.set i f)/\w.grownBy (w.setCell (PN g i) u) (some g):=by
 subst hn;have hk:=h.kind g rfl;obtain⟨s1,s2⟩:=h.own.stored i u;have huS:∃a n c,u=.slice a n c:=by obtain⟨a,c,e,_⟩:=hu;exact⟨_,_,_,e⟩
 refine⟨⟨by simp[h.len],by rw[List.length_set];exact s1,λg2 h2=>?_,λk hk2=>?_⟩,s2⟩
 .simp only[Value.ownBlock,OP] at h2;subst h2;rcases h.own.2 with ⟨h',_⟩|⟨g',cap',ag,h',hb,hg,_⟩
  .simp at h'
  .simp only[OQ,OP,Addr.mk.injEq,and_true,true_and] at h';obtain⟨rfl,rfl⟩:=h';have hcur:=wD hg hk;refine r8 (heap_setCell_same w g i ag _ u hg) λy hy=>?_;rw[Array.mem_toList_iff] at hy;rcases Array.mem_or_eq_of_mem_setIfInBounds hy with h9|h9
   .exact hcur y (by rw[Array.mem_toList_iff];exact h9)
   .rw[h9];exact huS
 .rw[List.length_set] at hk2;by_cases e:i=k
  .subst e;have e1:(us.set i u).getD i aL=u:=by simp[OH,show i<us.length by rw[h.len];exact hi]
   have e2:(fss.set i f).getD i []=f:=by simp[OH,hi]
   rw[e1,e2];exact mD hk s2 hu
  .have e1:(us.set i u).getD k aL=us.getD k aL:=by simp[OH,List.getElem?_set_ne e]
   have e2:(fss.set i f).getD k []=fss.getD k []:=by simp[OH,List.getElem?_set_ne e]
   rw[e1,e2];exact mD hk s2 (h.pls k hk2)
theorem BK:∀{xs:PI},(∀x∈xs,0<=x)->∀x∈xs,x<=au xs
 |[],_,x,hx=>by simp at hx
 |y::ys,h,x,hx=>by
  have h0:=h y (by simp);have h1:=vY (xs:=ys) λz hz=>h z (by simp[hz]);simp only[au];rcases OY.1 hx with rfl|hx
  .omega
  .have:=BK (xs:=ys) (λz hz=>h z (by simp[hz])) x hx;omega
end Go.Proofs.YtjkalahhpobefaaGreat
