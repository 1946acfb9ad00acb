/- What hangs together: the mathematics of DivideHangs. -/
import Derived.Test.YteimdcndjjclnaaGreatBA
import Derived.Test.YteimdcndjjclnaaGreatZU
set_option maxHeartbeats 4000000
set_option maxRecDepth 100000
namespace Go.Proofs.YteimdcndjjclnaaGreat
set_option linter.all false
open Go.Proofs.Tryz Go.RowKit
def mk(p:Int)(φ:List Int->Int)(lss:List (List (List Tm)))(q:List (List Tm))(i:Nat):Nat->Int
 |0=>0
 |k+1=>mk p φ lss q i k+am φ (cN p (q.getD k []) ((lss.getD k []).getD i []))
def eG(R i:Nat)(e:List Int):Gb.Te:=(R-1-i,(e.getD 0 0).toNat,(e.getD 1 0).toNat,(e.getD 2 0).toNat)
def eQ(e:List Int):Gb.Mo:=((e.getD 0 0).toNat,(e.getD 1 0).toNat,(e.getD 2 0).toNat)
theorem AL{τ:Type}(φ:τ->Int):∀a b:List (Int×τ),Gb.ln φ (a++b)=Gb.ln φ a+Gb.ln φ b
 |[],b=>by simp[Gb.ln]
 |x::a,b=>by simp only[List.cons_append,Gb.ln];rw[AL φ a b];omega
def lY(F:Nat->Int):Nat->Int
 |0=>0
 |k+1=>lY F k+F k
theorem Ic{N R i:Nat}{a b:List Int}(hN:N<=3)(ha:a.length=N)(hb:b.length=N)(na:∀x∈a,0<=x)(nb:∀x∈b,0<=x):eG R i (bL (·+·) a b)=Gb.aA (eQ a) (eG R i b):=by
 have hz:∀k,(bL (·+·) a b).getD k 0=a.getD k 0+b.getD k 0:=λk=>by
  by_cases hk:k<N
  .have:=sB (·+·) a b (by omega) k (by omega)
   simpa using this
  .have h1:=kF (·+·) a b (by omega)
   simp[Lr,Lu (show (bL (·+·) a b).length<=k by omega),Lu (show a.length<=k by omega),Lu (show b.length<=k by omega)]
 have hnn:∀(l:List Int)(h:∀x∈l,0<=x)(k:Nat),0<=l.getD k 0:=λl h k=>by
  by_cases hk:k<l.length
  .rw[Lr,Ls hk];exact h _ (Lo hk)
  .rw[Lr,Lu (by omega)];simp
 unfold eG Gb.aA eQ;simp only[hz,Prod.mk.injEq,true_and];have a0:=hnn a na 0;have a1:=hnn a na 1;have a2:=hnn a na 2;have b0:=hnn b nb 0;have b1:=hnn b nb 1;have b2:=hnn b nb 2;omega
theorem mZ{l:List Int}(h:∀x∈l,0<=x)(k:Nat):0<=l.getD k 0:=by
 by_cases hk:k<l.length
 .rw[Lr,Ls hk];exact h _ (Lo hk)
 .rw[Lr,Lu (by omega)];simp
theorem En{N:Nat}{xs:List Int}(h3:N<=3)(hl:xs.length=N):xs.getD 0 0+xs.getD 1 0+xs.getD 2 0=ah xs:=by
 match xs,hl with
 |[],_=>simp[ah]
 |[a],_=>simp[ah]
 |[a,b],_=>simp[ah]
 |[a,b,c],_=>simp[ah];omega
 |_::_::_::_::_,hl=>simp at hl;omega
def TB(w:World)(bb:Nat)(c:Int)(ev:Value):Prop:=w.cell? ⟨bb,0,none⟩=some (.int .i64 c)/\w.cell? ⟨bb,1,none⟩=some ev
theorem TB.below{w w':World}{bb:Nat}{c:Int}{ev:Value}(h:TB w bb c ev)(hb:Below w.heap.size w w'):TB w' bb c ev:=⟨ae h.1 hb,ae h.2 hb⟩
def TZ(w:World)(bb:Nat):Prop:=w.ownsRow bb 57 2 (.slice (some ⟨bb,0,none⟩) 1 1) 1 [.int .i64 0,.slice none 0 0]
theorem TZ.below{w w':World}{bb:Nat}(h:TZ w bb)(hb:Below w.heap.size w w'):TZ w' bb:=aK h hb
theorem TZ.put{w:World}{bb:Nat}(h:TZ w bb)(c:Int)(ev:Value):TB ((w.setCell ⟨bb,0,none⟩ (.int .i64 c)).setCell ⟨bb,1,none⟩ ev) bb c ev:=by have s1:=h.stored 0 (.int .i64 c);have s2:=s1.1.stored 1 ev;have x0:=s2.1.cellAt 0 (by simp);have x1:=s2.1.cellAt 1 (by simp);exact⟨by simpa using x0,by simpa using x1⟩
theorem tj{N R i j:Nat}{a b:List Int}(h3:N<=3)(hi:i<R)(hj:j<R)(ha:a.length=N)(hb:b.length=N)(na:∀x∈a,0<=x)(nb:∀x∈b,0<=x)(h:eG R i a=eG R j b):i=j/\a=b:=by
 unfold eG at h;simp only[Prod.mk.injEq] at h;have a0:=mZ na 0;have a1:=mZ na 1;have a2:=mZ na 2;have b0:=mZ nb 0;have b1:=mZ nb 1;have b2:=mZ nb 2;refine⟨by omega,?_⟩;apply List.ext_getElem?;intro k;by_cases hk:k<N
 .have h4:a.getD k 0=b.getD k 0:=by
   have:k=0\/k=1\/k=2:=by omega
   rcases this with rfl|rfl|rfl<;>omega
  simp only[Lr,Ls (show k<a.length by omega),Ls (show k<b.length by omega),Option.getD_some] at h4⊢;rw[h4]
 .rw[Lu (by omega),Lu (by omega)]
def ag(R:Nat)(t:Ft):Gb.Te:=(R-1-t.pl.toNat,t.a.toNat,t.b.toNat,t.d.toNat)
def aF(R:Nat)(φ:Gb.Te->Int)(fs:List Ft):Int:=Gb.ln φ (fs.map λt=>(t.c,ag R t))
theorem kH(R:Nat)(φ:Gb.Te->Int):aF R φ []=0:=rfl
theorem gG(R:Nat)(φ:Gb.Te->Int)(t:Ft)(fs:List Ft):aF R φ (t::fs)=t.c*φ (ag R t)+aF R φ fs:=rfl
theorem qB(R:Nat)(φ:Gb.Te->Int)(f g:List Ft):aF R φ (f++g)=aF R φ f+aF R φ g:=by unfold aF;rw[LO,AL]
def sK(ψ:Int->Int):List Ft->Int
 |[]=>0
 |t::ts=>t.c*ψ t.k+sK ψ ts
theorem AM(ψ:Int->Int):∀f g:List Ft,sK ψ (f++g)=sK ψ f+sK ψ g
 |[],g=>by simp[sK]
 |t::f,g=>by simp only[List.cons_append,sK,AM ψ f g];omega
theorem AN(ψ:Int->Int)(a:Int):∀l:List Ft,sK ψ l=ao a l*ψ a+sK ψ (l.filter λt=>decide (t.k≠a))
 |[]=>by simp[sK,ao]
 |t::l=>by
  have ih:=AN ψ a l;by_cases h:t.k=a
  .rw[List.filter_cons_of_neg (by simp[h])];simp only[sK,ao,LI h,Int.add_mul];rw[ih,h];omega
  .rw[List.filter_cons_of_pos (by simp[h])];simp only[sK,ao,LH h];rw[ih];simp only[Int.zero_add];omega
theorem AO(k a:Int):∀l:List Ft,ao k (l.filter λt=>decide (t.k≠a))=if k=a then 0 else ao k l
 |[]=>by simp[ao]
 |t::l=>by
  have ih:=AO k a l;by_cases h:t.k=a
  .rw[List.filter_cons_of_neg (by simp[h]),ih];by_cases hk:k=a
   .rw[LI hk,LI hk]
   .rw[LH hk,LH hk];simp only[ao];rw[LH (by omega)];omega
  .rw[List.filter_cons_of_pos (by simp[h])];simp only[ao];rw[ih];by_cases hk:k=a
   .rw[LI hk,LI hk,LH (by omega)];omega
   .rw[LH hk,LH hk]
theorem IW{p:Int}(ψ:Int->Int):∀(n:Nat)(l:List Ft),l.length<=n->(∀k,p∣ao k l)->p∣sK ψ l:=by
 intro n;induction n with
 |zero=>intro l hl _;have:l=[]:=LV.1 (by omega);subst this;exact⟨0,by simp[sK]⟩
 |succ n ih=>
  intro l hl hc;cases l with
  |nil=>exact⟨0,by simp[sK]⟩
  |cons t l=>
   rw[AN ψ t.k];have h1:((t::l).filter λu=>decide (u.k≠t.k)).length<=n:=by rw[List.filter_cons_of_neg (by simp)];have:=LX (λu:Ft=>decide (u.k≠t.k)) l;simp at hl;omega
   obtain⟨x,hx⟩:=ih _ h1 λk=>by
    rw[AO];by_cases hk:k=t.k
    .rw[LI hk];exact⟨0,by omega⟩
    .rw[LH hk];exact hc k
   obtain⟨y,hy⟩:=hc t.k;exact⟨y*ψ t.k+x,by rw[hx,hy];grind⟩
theorem AP(ψ:Int->Int):∀l:List Ft,sK ψ (l.map λt=>{t with c:=-t.c})=-sK ψ l
 |[]=>by simp[sK]
 |t::l=>by simp only[List.map_cons,sK,AP ψ l,Int.neg_mul];omega
theorem AQ(k:Int):∀l:List Ft,ao k (l.map λt=>{t with c:=-t.c})=-ao k l
 |[]=>by simp[ao]
 |t::l=>by
  simp only[List.map_cons,ao,AQ k l];by_cases h:t.k=k
  .rw[LI h,LI h];omega
  .rw[LH h,LH h];omega
theorem IX{p:Int}(ψ:Int->Int){f g:List Ft}(h:∀k,p∣ao k f-ao k g):p∣sK ψ f-sK ψ g:=by
 have h2:=IW (p:=p) ψ _ (f++g.map λt=>{t with c:=-t.c}) (Lc _) λk=>by rw[kg,AQ];obtain⟨x,hx⟩:=h k;exact⟨x,by omega⟩
 rw[AM,AP] at h2;obtain⟨x,hx⟩:=h2;exact⟨x,by omega⟩
theorem uF(R:Nat)(φ:Gb.Te->Int)(ψ:Int->Int):∀f:List Ft,(∀t∈f,ψ t.k=φ (ag R t))->aF R φ f=sK ψ f
 |[],_=>rfl
 |t::f,h=>by rw[gG];simp only[sK];rw[uF R φ ψ f λu hu=>h u (by simp[hu]),h t (by simp)]
open Classical in
theorem oE{p:Int}{R:Nat}{f g:List Ft}(hi:∀t u,t∈f++g->u∈f++g->t.k=u.k->ag R t=ag R u)(h:∀k,p∣ao k f-ao k g)(φ:Gb.Te->Int):p∣aF R φ f-aF R φ g:=by
 let ψ:Int->Int:=λk=>if h:∃t,t∈f++g/\t.k=k then φ (ag R (Classical.choose h)) else 0
 have hψ:∀t∈f++g,ψ t.k=φ (ag R t):=λt ht=>by have he:∃u,u∈f++g/\u.k=t.k:=⟨t,ht,rfl⟩;show (if h:∃u,u∈f++g/\u.k=t.k then φ (ag R (Classical.choose h)) else 0)=_;rw[dif_pos he];have hs:=Classical.choose_spec he;rw[hi _ _ hs.1 ht hs.2]
 rw[uF R φ ψ f λt ht=>hψ t (by simp[ht]),uF R φ ψ g λt ht=>hψ t (by simp[ht])];exact IX ψ h
def qR(ov pl:Int):Int:=if ov=1 then 80 else 80+40*pl
def m5(o ov:Int)(N R:Nat)(t:Ft):Prop:=Gd o ov N R (qR ov t.pl) t
theorem IY{ov pl:Int}(h0:0<=pl)(h:pl<40):80<=qR ov pl/\qR ov pl<=1640:=by unfold qR;split<;>omega
theorem m5.alk{o ov:Int}{N R:Nat}(x t:Ft)(h:f9 x t)(g:m5 o ov N R t):m5 o ov N R x:=by unfold m5 at g⊢;have:=Gd.alk x t h g;rw[h.2.2.2.2.2];exact this
theorem Gd.wide{o ov:Int}{N R:Nat}{Q Q2:Int}{t:Ft}(g:Gd o ov N R Q t)(h:t.a+t.b+t.d<=Q2):Gd o ov N R Q2 t:=⟨g.k,g.a,g.b,g.d,h,g.z,g.pl0,g.pl,g.n1,g.n2⟩
theorem m5.gd{o ov:Int}{N R:Nat}{t:Ft}(hR:R<=40)(g:m5 o ov N R t):Gd o ov N R 1640 t:=by have h0:=g.pl0;have h1:=g.pl;have h2:=g.deg;exact Gd.wide g (by have:=IY (ov:=ov) h0 (by omega);omega)
theorem H7{o ov:Int}{N R:Nat}{Q:Int}{t:Ft}(h0:0<N)(h3:N<=3)(g:Gd o ov N R Q t):ag R t=eG R t.pl.toNat (aE N t):=by
 have h1:=g.n1;have h2:=g.n2;have hN:N=1\/N=2\/N=3:=by omega
 rcases hN with rfl|rfl|rfl
 .have:=h1 (by omega);have:=h2 (by omega);simp[ag,eG,aE, *]
 .have:=h2 (by omega);simp[ag,eG,aE, *]
 .simp[ag,eG,aE]
def bP(b:Ft):Gb.Mo:=(b.a.toNat,b.b.toNat,b.d.toNat)
theorem zm{p:Int}{N:Nat}{t L bt:Ft}(h0:0<N)(h3:N<=3)(ha:bt.a+L.a=t.a)(hb:bt.b+L.b=t.b)(hd:bt.d+L.d=t.d):aE N t=bL (·+·) (aE N bt) (aE N L):=by
 have hN:N=1\/N=2\/N=3:=by omega
 rcases hN with rfl|rfl|rfl<;>simp[aE,bL]<;>omega
theorem qz{N:Nat}(h3:N<=3)(t:Ft):(aE N t).length=N:=by unfold aE;rw[LU];simp;omega
structure i7(N:Nat)(t L bt:Ft):Prop where
 pl:L.pl=t.pl
 a:bt.a+L.a=t.a
 b:bt.b+L.b=t.b
 d:bt.d+L.d=t.d
 a0:0<=bt.a
 b0:0<=bt.b
 d0:0<=bt.d
 z:bt.z=0
 n1:N<=1->bt.b=0
 n2:N<=2->bt.d=0
theorem qC{p:Int}{R:Nat}{more c:Int}{bt:Ft}(a0:0<=bt.a)(b0:0<=bt.b)(d0:0<=bt.d)(φ:Gb.Te->Int):∀fs:List Ft,(∀t∈fs,0<=t.a/\0<=t.b/\0<=t.d)->p∣aF R φ (fs.map (bu p more {bt with c:=c}))-c*aF R (λs=>φ (Gb.aA (bP bt) s)) fs
 |[],_=>⟨0,by simp[kH]⟩
 |t::fs,h=>by
  obtain⟨x,hx⟩:=qC (p:=p) (R:=R) (more:=more) (c:=c) a0 b0 d0 φ fs λu hu=>h u (by simp[hu]);rw[List.map_cons,gG,gG];have e:ag R (bu p more {bt with c:=c} t)=Gb.aA (bP bt) (ag R t):=by have:=h t (by simp);unfold ag Gb.aA bP bu;simp only[Prod.mk.injEq,true_and];omega
  rw[e];obtain⟨y,hy⟩:=jx p (t.c*c);show p∣(t.c*c%p)*φ (Gb.aA (bP bt) (ag R t))+_-_;generalize φ (Gb.aA (bP bt) (ag R t))=z at*;generalize t.c*c%p=q at*;have e2:q=t.c*c+p*y:=by omega
  exact⟨y*z+x,by rw[e2];grind⟩
def lU(R:Nat)(φ:Gb.Te->Int):Option Ft->Int
 |none=>0
 |some t=>t.c*φ (ag R t)
theorem lV{p:Int}{G:Ft->Prop}{rows:List (List Ft)}(h:aO p G rows):∀t∈rows.flatten,G t:=λt ht=>by obtain⟨r,h1,h2⟩:=List.mem_flatten.1 ht;exact h.gd r h1 t h2
theorem GG{p:Int}{rows rows2:List (List Ft)}{r:Option Ft}(hn:Nx p rows r rows2):(∀f∈rows,Dn f)->r=none->∀f∈rows2,f=[]:=by
 induction hn using Nx.ind with
 |stop rows hg=>exact λhd _=>AR hd hg
 |hit rows t hg hne=>exact λ_ h=>by simp at h
 |go rows rows2 t r hg hz hn ih=>intro hd he;refine ih (λf hf=>?_) he;obtain⟨f0,h0,rfl⟩:=LC.1 hf;exact uG (hd f0 h0)
structure Mm where
 blk:Nat
 L:Ft
 rv:Value
 r:List Ft
 gone:Bool
structure iO(p:Int)(w:World)(x:Mm):Prop where
 div:km w x.blk 0 x.L x.rv 0 (aN p x.L.c)
 gone:w.cell? ⟨x.blk,10,none⟩=some (.bool x.gone)
 rest:Fv w x.rv x.r
theorem iO.below{p:Int}{w w':World}{x:Mm}(h:iO p w x)(hb:Below w.heap.size w w'):iO p w' x:=⟨h.div.below hb,ae h.gone hb,h.rest.below hb⟩
def oQ(w:World)(u:Value)(l:List Mm):Prop:=∃a c,u=.slice a l.length c/\∀j (h:j<l.length),∃b off,a=some ⟨b,off,none⟩/\w.cell? ⟨b,off+j,none⟩=some (.pointer (some ⟨l[j].blk,0,none⟩))
theorem oQ.below{w w':World}{u:Value}{l:List Mm}(h:oQ w u l)(hb:Below w.heap.size w w'):oQ w' u l:=by obtain⟨a,c,h1,h2⟩:=h;refine⟨a,c,h1,λj hj=>?_⟩;obtain⟨b,off,h3,h4⟩:=h2 j hj;exact⟨b,off,h3,ae h4 hb⟩
def aS(ms:List Mm)(pl:Nat):List Mm:=ms.filter λx=>decide (x.L.pl=pl)
structure kO(p:Int)(w:World)(mb R:Nat)(ms:List Mm):Prop where
 row:∃g c,w.cell? ⟨mb,2,none⟩=some (.slice (some ⟨g,0,none⟩) R c)/\∀pl,pl<R->∃u,w.cell? ⟨g,pl,none⟩=some u/\oQ w u (aS ms pl)
 mem:∀x∈ms,iO p w x
 work:w.cell? ⟨mb,4,none⟩=some (.pointer none)
theorem kO.below{p:Int}{w w':World}{mb R:Nat}{ms:List Mm}(h:kO p w mb R ms)(hb:Below w.heap.size w w'):kO p w' mb R ms:=by obtain⟨⟨g,c,h1,h2⟩,h3,h4⟩:=h;refine⟨⟨g,c,ae h1 hb,λpl hp=>?_⟩,λx hx=>(h3 x hx).below hb,ae h4 hb⟩;obtain⟨u,q1,q2⟩:=h2 pl hp;exact⟨u,ae q1 hb,q2.below hb⟩
def fH(t:Ft)(x:Mm):Bool:=!x.gone&&dZ x.L t
def gO(ms:List Mm)(t:Ft):Option Mm:=(aS ms t.pl.toNat).find? (fH t)
def qn(x:Option Mm):Value:=.pointer (x.map λx=>⟨x.blk,0,none⟩)
theorem FT(p:Int)(mb R:Nat)(ms:List Mm)(t:Ft)(w:World)(hm:kO p w mb R ms)(hn:ms.length<=1300000)(h0:0<=t.pl)(hR:t.pl<R):Calls prog 104 #[.pointer (some ⟨mb,0,none⟩),bX t] w λe w'=>e=.returned (qn (gO ms t))/\Below w.heap.size w w':=by
 obtain⟨n,hnpl⟩:∃n:Nat,t.pl=n:=⟨t.pl.toNat,by omega⟩;have hnR:n<R:=by omega
 have HMEM:=ac hm.mem;obtain⟨g,c,hg1,hg2⟩:=hm.row;obtain⟨u,hu1,hu2⟩:=hg2 n hnR;obtain⟨a,c2,rfl,hpt⟩:=hu2;have HPT:=ac hpt;have htn:t.pl.toNat=n:=by omega
 have HFM:Ma (gO ms t=(aS ms n).find? (fH t)):=by show _=_;unfold gO;rw[htn]
 have HSUB:Ma (∀x∈aS ms n,x∈ms):=λx hx=>(LR.1 hx).1;have hln:(aS ms n).length<=1300000:=Lk (LX _ _) hn;obtain⟨w1,hw1⟩:∃w1,w1=w.alloc (.cells #[.int .i64 t.k,.int .u16 t.a,.int .u16 t.b,.int .u16 t.d,.int .u16 t.z,.int .u8 t.pl,.int .u8 t.c] 95):=⟨_,rfl⟩;have HB1:Ma (Below w.heap.size w w1):=by rw[hw1];exact aj
 have HX1:Ma (Bx w.heap.size w1 w.heap.size t):=by rw[hw1];exact iM (Lc _) t
 have HPLN:=ac hnpl;have k1:=ae hg1 HB1.o;have k2:=ae hu1 HB1.o;obtain⟨y0,y1,y2,y3,y4,y5,y6⟩:=HX1.o.at;simp only[Ly] at y0 y1 y2 y3 y4 y5 y6;rw[hnpl] at y5;have hnRI:(n:Int)<(R:Int):=by omega
 clear hm hg1 hg2 hu1 hpt htn hn y0 y1 y2 y3 y4 y6 hnpl h0 hR;rw[HFM.o];clear HFM;generalize aS ms n=l at*;unfold bX;go_enter func104,ntmps104;go_upto_region 1 with fail;rw[<-hw1];clear hw1;go_quiet (fail);clear k1 k2 y5;have HB2:Ma (Below w1.heap.size w1 (w1.drewN nq)):=below_drewN (Lf _ _) _;go_wp2_with fail;go_loopw [16] (λi wr=>∃m:Nat,m<=l.length/\i=.int .i64 m/\(∀j (h:j<l.length),j<m->fH t l[j]=false)/\Below w1.heap.size w1 wr) (λi _=>l.length-(intOf i).toNat);case atStart=>exact⟨0,Ll _,rfl,λj _ h=>by omega,HB2.o⟩
 case round=>
  obtain⟨m,hm,rfl,hno,hbr⟩:=hrel;have HNO:=ac hno;have HBR:=ac hbr;clear hno hbr;have HBT:=ac (HB1.o.trans (HBR.o.mono HB1.o.size));by_cases hm2:m<l.length
  .obtain⟨b,off,rfl,hcell⟩:=HPT.o m hm2;have k1:=ae hcell HBT.o;have HM:=ac ((HMEM.o _ (HSUB.o _ (Lo hm2))).below HBT.o);have HXR:=ac (HX1.o.below HBR.o);have HFI:Ma (fH t l[m]=true->l.find? (fH t)=some l[m]):=λh=>by rw[List.find?_eq_some_iff_getElem];exact⟨h,m,hm2,rfl,λj hj=>by have:=HNO.o j (by omega) hj;simp[this]⟩
   have HNX:Ma (fH t l[m]=false->∀j (h:j<l.length),j<m+1->fH t l[j]=false):=λh j hj hjm=>by
    rcases Nat.lt_succ_iff_lt_or_eq.1 hjm with h2|rfl
    .exact HNO.o j hj h2
    .exact h
   have hmI:(m:Int)<(l.length:Int):=by omega
   have HPM:Ma (∀x,l.find? (fH t)=some x->qn (l.find? (fH t))=.pointer (some ⟨x.blk,0,none⟩)):=λx h=>by rw[h];rfl
   generalize hx:l[m]=x at*;clear hx hcell;cases hgn:x.gone with
   |true=>
    have HGO:Ma (fH t x=false):=by show _=_;unfold fH;rw[hgn];rfl
    have k2:=HM.o.gone;rw[hgn] at k2;clear hgn;go_upto_region 4 with fail;go_quiet (fail);go_wp2;go_roundw;case rel=>exact⟨m+1,by omega,by go_num,HNX.o HGO.o,below_drewN HBR.o _⟩
    case measure=>simp[intOf];omega
   |false=>
    have HGO:Ma (fH t x=dZ x.L t):=by show _=_;unfold fH;rw[hgn];rfl
    have k2:=HM.o.gone;rw[hgn] at k2;clear hgn;have HIN:Ma (∀W,Below wr.heap.size wr W->Calls prog 112 #[.pointer (some ⟨x.blk,0,none⟩),bX t] W λe w'=>e=.returned (.bool (dZ x.L t))/\Below W.heap.size W w'):=λW hb=>zj x.blk 0 x.L t _ _ _ W (HM.o.div.below hb);unfold bX at HIN;have KEEP:Ma (∀W,Below wr.heap.size wr W->(Ma (Below wr.heap.size wr W)/\W.cell? ⟨x.blk,10,none⟩=some (.bool false)/\W.cell? ⟨w.heap.size,0,none⟩=some (.int .i64 t.k)/\W.cell? ⟨w.heap.size,1,none⟩=some (.int .u16 t.a)/\W.cell? ⟨w.heap.size,2,none⟩=some (.int .u16 t.b)/\W.cell? ⟨w.heap.size,3,none⟩=some (.int .u16 t.d)/\W.cell? ⟨w.heap.size,4,none⟩=some (.int .u16 t.z)/\W.cell? ⟨w.heap.size,5,none⟩=some (.int .u8 t.pl)/\W.cell? ⟨w.heap.size,6,none⟩=some (.int .u8 t.c))):=λW hb=>by obtain⟨y0,y1,y2,y3,y4,y5,y6⟩:=HXR.o.at.keep hb;simp only[Ly] at y0 y1 y2 y3 y4 y5 y6;exact⟨hb,ae k2 hb,y0,y1,y2,y3,y4,y5,y6⟩
    have HB0:Ma (Below wr.heap.size wr wr.drew):=(Lf _ _).drew;have HG2:=HGO.o;rw[HGO.o] at HFI HNX;generalize dZ x.L t=bb at HIN HFI HNX;clear HGO HG2 k2;go_upto_region 4 with fail;go_region_held (λW=>Ma (Below wr.heap.size wr W)/\W.cell? ⟨x.blk,10,none⟩=some (.bool false)/\W.cell? ⟨w.heap.size,0,none⟩=some (.int .i64 t.k)/\W.cell? ⟨w.heap.size,1,none⟩=some (.int .u16 t.a)/\W.cell? ⟨w.heap.size,2,none⟩=some (.int .u16 t.b)/\W.cell? ⟨w.heap.size,3,none⟩=some (.int .u16 t.d)/\W.cell? ⟨w.heap.size,4,none⟩=some (.int .u16 t.z)/\W.cell? ⟨w.heap.size,5,none⟩=some (.int .u8 t.pl)/\W.cell? ⟨w.heap.size,6,none⟩=some (.int .u8 t.c))
     (first|exact KEEP.o _ HB0.o|exact KEEP.o _ HB9.o)
     (first|(go_at_call 112;refine(HIN.o _ HB0.o).mono ?_;rintro e w9 ⟨rfl,hb9⟩;have HB9:=ac (HB0.o.trans (hb9.mono HB0.o.size));clear hb9))
    cases bb with
    |true=>have HE:=ac (HPM.o x (HFI.o rfl));go_wp2;go_ret;refine⟨?_,HBT.o.trans (HB9.o.mono HBT.o.size)⟩;rw[HE.o];rfl
    |false=>
     go_wp2;go_roundw;case rel=>exact⟨m+1,by omega,by go_num,HNX.o rfl,HBR.o.trans (HB9.o.mono HBR.o.size)⟩
     case measure=>simp[intOf];omega
  .have e:m=l.length:=by omega
   subst e;have HE:Ma (l.find? (fH t)=none):=by show _=_;rw[List.find?_eq_none];intro d hdm;obtain⟨j,hj,rfl⟩:=List.getElem_of_mem hdm;have:=HNO.o j hj hj;simp[this]
   go_wp2;go_ret;refine⟨?_,HBT.o⟩;rw[HE.o];rfl
theorem IZ(n:Int)(w:World):Calls prog 130 #[.pointer none,.int .i64 n] w λe w'=>e=.returned (.tuple #[])/\w'=w:=by go_enter func130,ntmps130;go_wp2;go_end0;exact⟨rfl,rfl⟩
theorem sV(w:World):Calls prog 86 #[.pointer none] w λe w'=>e=.returned (.bool false)/\∃n,w'=w.drewN n:=by go_enter func86,ntmps86;go_wp2;go_ret;exact⟨rfl,0,rfl⟩
theorem FU(mb g dof:Nat)(L t:Ft)(ra:Option Addr)(rn rc:Nat)(num inv:Int)(w:World)(hw:w.cell? ⟨mb,4,none⟩=some (.pointer none))(hd:km w g dof L (.slice ra rn rc) num inv)(hr:rn<=100000000000):Calls prog 105 #[.pointer (some ⟨mb,0,none⟩),.pointer (some ⟨g,dof,none⟩),bX t] w λe w'=>e=.returned (.bool true)/\Below w.heap.size w w':=by
 obtain⟨w1,hw1⟩:∃w1,w1=w.alloc (.cells #[.int .i64 t.k,.int .u16 t.a,.int .u16 t.b,.int .u16 t.d,.int .u16 t.z,.int .u8 t.pl,.int .u8 t.c] 95):=⟨_,rfl⟩;have HB1:Ma (Below w.heap.size w w1):=by rw[hw1];exact aj
 have k1:=ae hw HB1.o;have k2:=ae hd.c7 HB1.o;clear hw hd;unfold bX;go_enter func105,ntmps105;go_upto_region 1 with fail;rw[<-hw1];clear hw1;have K0:Ma (w1.drew.cell? ⟨mb,4,none⟩=some (.pointer none)/\w1.drew.cell? ⟨g,dof+7,none⟩=some (.slice ra rn rc)):=⟨k1,k2⟩;go_region_held (λW=>W.cell? ⟨mb,4,none⟩=some (.pointer none)/\W.cell? ⟨g,dof+7,none⟩=some (.slice ra rn rc))
  (first|with_reducible exact K0.o)
  (first|(go_at_call 130;refine(IZ _ _).mono ?_;rintro e w' ⟨rfl,rfl⟩))
 go_wp2_with (go_at_call 86;refine(sV _).mono ?_;rintro e w' ⟨rfl,n9,rfl⟩);go_ret;exact⟨rfl,below_drewN HB1.o _⟩
def AS(w:World)(b:Nat):Prop:=∃i x,w.cell? ⟨b,i,none⟩=some (.int .u8 x)
structure dW(w w':World):Prop where
 size:w.heap.size<=w'.heap.size
 keep:∀b j u,AS w b->w.cell? ⟨b,j,none⟩=some u->(∀c,u≠.bool c)->w'.cell? ⟨b,j,none⟩=some u
theorem dW.refl(w:World):dW w w:=⟨Lc _,λ_ _ _ _ h _=>h⟩
theorem dW.trans{a b c:World}(h:dW a b)(k:dW b c):dW a c:=by refine⟨Lk h.size k.size,λbl j u hb hc hn=>k.keep bl j u ?_ (h.keep bl j u hb hc hn) hn⟩;obtain⟨i,x,hi⟩:=hb;exact⟨i,x,h.keep bl i _ ⟨i,x,hi⟩ hi (λc e=>by cases e)⟩
theorem dW.of_below{w w':World}(h:Below w.heap.size w w'):dW w w':=⟨h.size,λb j u _ hc _=>ae hc h⟩
def dP(u:Value):Prop:=∀x,u≠.int .u8 x
theorem dW.of_frm{S:Nat->Prop}{w w':World}(h:ai S w w')(hn:∀g,S g->bU dP w g):dW w w':=
 ⟨h.size,λb j u hb hc _=>h.cell hc λhs=>by obtain⟨i,x,hi⟩:=hb;exact hn b hs i _ hi x rfl⟩
theorem dW.of_bool{w:World}{b j:Nat}{c:Bool}(hc:w.cell? ⟨b,j,none⟩=some (.bool c))(u:Value):dW w (w.setCell ⟨b,j,none⟩ u):=by
 refine⟨by simp[World.setCell],λb2 j2 u2 _ hc2 hn=>?_⟩;rw[World.cell?_setCell_other]
 .exact hc2
 .intro e;rw[<-e,hc] at hc2;exact hn c (by simpa using hc2.symm)
theorem I0(fs:List Ft):∀u∈aC fs,∀c,u≠.bool c:=by intro u hu c e;simp only[aC,L7] at hu;obtain⟨t,_,hu⟩:=hu;subst e;simp[aw] at hu
theorem Fv.fr8{w w':World}{v:Value}{fs:List Ft}(h:Fv w v fs)(k:dW w w'):Fv w' v fs:=by
 obtain⟨a,cap,rfl,hc,h1⟩:=h;refine⟨a,cap,rfl,hc,λhp=>?_⟩;obtain⟨b,off,rfl,hlt,hcs⟩:=h1 hp;have hb:AS w b:=by
  cases fs with
  |nil=>simp at hp
  |cons t ts=>exact⟨off+5,t.pl,hcs 5 _ rfl⟩
 exact⟨b,off,rfl,Lj hlt k.size,λj u hj=>k.keep b _ u hb (hcs j u hj) (I0 fs u (List.mem_of_getElem? hj))⟩
def qS(p:Int)(x:Mm):List Value:=m6 x.L x.rv 0 (aN p x.L.c)++[.bool x.gone]
def jz(b:Nat):Value:=.slice (some ⟨b,0,none⟩) 1 1
structure cj(p:Int)(B:Nat)(w:World)(x:Mm):Prop where
 own:w.ownsRow B 135 11 (jz x.blk) 1 (qS p x)
 rest:Fv w x.rv x.r
theorem cj.next{p:Int}{B:Nat}{w w':World}{x:Mm}(h:cj p B w x)(hb:Below w.heap.size w w'):cj p B w' x:=⟨aK h.own hb,h.rest.below hb⟩
theorem cj.lt{p:Int}{B:Nat}{w:World}{x:Mm}(h:cj p B w x):B<=x.blk/\x.blk<w.heap.size:=Lb h.own x.blk rfl
theorem cj.mbr{p:Int}{B:Nat}{w:World}{x:Mm}(h:cj p B w x):iO p w x:=by
 have hc:∀j,j<11->w.cell? ⟨x.blk,j,none⟩=(qS p x)[j]?:=λj hj=>La h.own j (by omega);refine⟨⟨h.lt.2,λj u hj=>?_,?_,?_,?_⟩,?_,h.rest⟩
 .have hj7:j<7:=by apply LF;intro hle;rw[Lu (by simpa [aw] using hle)] at hj;simp at hj
  rw[Ly,hc j (by omega)];have:j=0\/j=1\/j=2\/j=3\/j=4\/j=5\/j=6:=by omega
  rcases this with rfl|rfl|rfl|rfl|rfl|rfl|rfl<;>exact hj
 .rw[hc 7 (by omega)];rfl
 .rw[hc 8 (by omega)];rfl
 .rw[hc 9 (by omega)];rfl
 .rw[hc 10 (by omega)];rfl
theorem cj.frm{p:Int}{B:Nat}{S:Nat->Prop}{w w':World}{x:Mm}(h:cj p B w x)(hf:ai S w w')(h8:dW w w')(hs:¬S x.blk):cj p B w' x:=
 ⟨hf.own h.own λg hg=>by simp only[jz,Value.ownBlock,LA] at hg;rw[<-hg];exact hs,h.rest.fr8 h8⟩
theorem cj.nob{p:Int}{B:Nat}{w:World}{x:Mm}(h:cj p B w x){g:Nat}(hk:bU dP w g):x.blk≠g:=λe=>by have:=h.mbr.div.cells.2.2.2.2.2.1;rw[e] at this;exact hk _ _ this _ rfl
theorem cj.put{p:Int}{B:Nat}{w:World}{x:Mm}(h:cj p B w x)(c:Bool):cj p B (w.setCell ⟨x.blk,10,none⟩ (.bool c)) {x with gone:=c}/\w.grownBy (w.setCell ⟨x.blk,10,none⟩ (.bool c)) (some x.blk)/\dW w (w.setCell ⟨x.blk,10,none⟩ (.bool c)):=by have h1:=Lp h.own 10 (.bool c);have h8:=dW.of_bool h.mbr.gone (.bool c);refine⟨⟨?_,h.rest.fr8 h8⟩,h1.2,h8⟩;have:=h1.1;have e:(qS p x).set 10 (.bool c)=qS p {x with gone:=c}:=rfl;rw[e] at this;exact this
def eH(x:Mm):Value:=.pointer (some ⟨x.blk,0,none⟩)
structure eS(p:Int)(B:Nat)(w:World)(R g:Nat)(us:List Value)(ms:List Mm):Prop where
 o:w.ownsRow B 130 1 (.slice (some ⟨g,0,none⟩) R R) R us
 okd:bU dP w g
 row:∀pl,pl<R->w.ownsRow B 124 1 (us.getD pl aB) (aS ms pl).length ((aS ms pl).map eH)
 rkd:∀pl,pl<R->∀k,(us.getD pl aB).ownBlock=some k->bU dP w k
 dis:∀i j,i<R->j<R->i≠j->∀k,(us.getD i aB).ownBlock=some k->(us.getD j aB).ownBlock≠some k
 mem:∀x∈ms,cj p B w x
 nd:(ms.map Mm.blk).Nodup
theorem eS.frm{p:Int}{B:Nat}{S:Nat->Prop}{w w':World}{R g:Nat}{us:List Value}{ms:List Mm}(h:eS p B w R g us ms)(hf:ai S w w')(hn:∀k,S k->bU dP w k)(ht:∀k,S k->b8 w 130 k/\b8 w 124 k):eS p B w' R g us ms:=by
 have h8:=dW.of_frm hf hn;have hog:¬S g:=λhs=>by obtain⟨af,e⟩:=dp h.o (g:=g) rfl;exact(ht g hs).1 af e
 refine⟨dN hf h.o λk hk=>(ht k hk).1,hf.kdb h.okd (Lb h.o g rfl).2 hog,λpl hp=>dN hf (h.row pl hp) λk hk=>(ht k hk).2,λpl hp k hk=>?_,h.dis,λx hx=>(h.mem x hx).frm hf h8 λhs=>(h.mem x hx).nob (hn _ hs) rfl,h.nd⟩;refine hf.kdb (h.rkd pl hp k hk) (Lb (h.row pl hp) k hk).2 λhs=>?_;obtain⟨af,e⟩:=dp (h.row pl hp) hk;exact(ht k hs).2 af e
theorem eS.next{p:Int}{B:Nat}{w w':World}{R g:Nat}{us:List Value}{ms:List Mm}(h:eS p B w R g us ms)(hb:Below w.heap.size w w'):eS p B w' R g us ms:=
 h.frm (S:=λ_=>False) (ai.of_below hb) (λ_ h=>h.elim) λ_ h=>h.elim
theorem zi(f:Mm->Mm)(hf:∀x,(f x).L=x.L)(ms:List Mm)(pl:Nat):aS (ms.map f) pl=(aS ms pl).map f:=by unfold aS;rw[List.filter_map];congr 1;apply List.filter_congr;intro x _;simp only[Function.comp,hf]
def gh(b:Nat)(c:Bool)(x:Mm):Mm:=if x.blk=b then {x with gone:=c} else x
theorem uH(b:Nat)(c:Bool)(x:Mm):(gh b c x).L=x.L/\(gh b c x).blk=x.blk/\(gh b c x).rv=x.rv/\(gh b c x).r=x.r:=by unfold gh;split<;>simp
theorem eS.put{p:Int}{B:Nat}{w:World}{R g:Nat}{us:List Value}{ms:List Mm}(h:eS p B w R g us ms){x:Mm}(hx:x∈ms)(c:Bool):eS p B (w.setCell ⟨x.blk,10,none⟩ (.bool c)) R g us (ms.map (gh x.blk c)):=by
 obtain⟨h1,h2,h8⟩:=(h.mem x hx).put c;have hf:ai (λk=>k=x.blk) w (w.setCell ⟨x.blk,10,none⟩ (.bool c)):=ai.of_grown h2 λk e=>by simpa using e.symm
 have hT:∀{T:TypeId},135≠T->∀k,k=x.blk->b8 w T k:=λhT k e=>by subst e;exact bp (h.mem x hx).own rfl hT
 have hrow:∀pl,(aS (ms.map (gh x.blk c)) pl).map eH=(aS ms pl).map eH/\(aS (ms.map (gh x.blk c)) pl).length=(aS ms pl).length:=λpl=>by rw[zi _ λy=>(uH x.blk c y).1,List.map_map];refine⟨?_,by simp⟩;apply List.map_congr_left;intro y _;simp only[Function.comp,eH,(uH x.blk c y).2.1]
 refine⟨dN hf h.o (hT (by decide)),hf.kdb h.okd (Lb h.o g rfl).2 λe=>?_,λpl hp=>?_,λpl hp k hk=>?_,h.dis,λy hy=>?_,?_⟩
 .obtain⟨af,e2⟩:=dp h.o (g:=g) rfl;exact hT (T:=130) (by decide) g e af e2
 .rw[(hrow pl).1,(hrow pl).2];exact dN hf (h.row pl hp) (hT (by decide))
 .refine hf.kdb (h.rkd pl hp k hk) (Lb (h.row pl hp) k hk).2 λe=>?_;obtain⟨af,e2⟩:=dp (h.row pl hp) hk;exact hT (T:=124) (by decide) k e af e2
 .obtain⟨y0,hy0,rfl⟩:=LC.1 hy;by_cases e:y0.blk=x.blk
  .have e2:y0=x:=by
    have hnd:=h.nd;rw[List.nodup_iff_pairwise_ne,List.pairwise_map] at hnd;apply LP;intro hne;obtain⟨i,hi,rfl⟩:=List.getElem_of_mem hy0;obtain⟨j,hj,rfl⟩:=List.getElem_of_mem hx;rw[List.pairwise_iff_getElem] at hnd;rcases Nat.lt_trichotomy i j with hl|hl|hl
    .exact hnd i j hi hj hl e
    .subst hl;exact hne rfl
    .exact hnd j i hj hi hl e.symm
   subst e2;unfold gh;rw[LI rfl];exact h1
  .unfold gh;rw[LH e];exact(h.mem y0 hy0).frm hf h8 e
 .rw[List.map_map];have:(Mm.blk∘gh x.blk c)=Mm.blk:=by funext y;exact(uH x.blk c y).2.1
  rw[this];exact h.nd
structure Pq where
 b1:Nat
 b2:Nat
 a:Int
 b:Int
 d:Int
 z:Int
 dg:Int
 k:Int
def aH(q:Pq):List Value:=[.pointer (some ⟨q.b1,0,none⟩),.pointer (some ⟨q.b2,0,none⟩),.int .u16 q.a,.int .u16 q.b,.int .u16 q.d,.int .u16 q.z,.int .i64 q.dg,.int .i64 q.k]
def d8(q:Pq):Value:=.agg #[.pointer (some ⟨q.b1,0,none⟩),.pointer (some ⟨q.b2,0,none⟩),.int .u16 q.a,.int .u16 q.b,.int .u16 q.d,.int .u16 q.z,.int .i64 q.dg,.int .i64 q.k]
def bw(qs:List Pq):List Value:=qs.flatMap aH
theorem iF(qs:List Pq):(bw qs).length=qs.length*8:=by
 induction qs with
 |nil=>rfl
 |cons q qs ih=>simp only[bw,List.flatMap_cons,Lx,LN] at ih⊢;rw[ih];simp[aH];omega
theorem mE(a b:List Pq):bw (a++b)=bw a++bw b:=by unfold bw;rw[List.flatMap_append]
theorem xN(qs:List Pq)(q:Pq):bw (qs++[q])=bw qs++aH q:=by rw[mE];simp[bw]
theorem zd(q:Pq):∀u∈aH q,u.oneCell'=true:=by intro u hu;simp only[aH,LL,List.not_mem_nil,or_false] at hu;rcases hu with rfl|rfl|rfl|rfl|rfl|rfl|rfl|rfl<;>rfl
theorem xM(qs:List Pq):∀u∈bw qs,u.oneCell'=true:=by intro u hu;simp only[bw,L7] at hu;obtain⟨t,_,hu⟩:=hu;exact zd t u hu
theorem I1(q:Pq):∀u∈aH q,dP u:=by intro u hu x e;subst e;simp[aH] at hu
theorem xO(qs:List Pq):∀u∈bw qs,dP u:=by intro u hu;simp only[bw,L7] at hu;obtain⟨t,_,hu⟩:=hu;exact I1 t u hu
structure aZ(B:Nat)(w:World)(v:Value)(qs:List Pq):Prop where
 own:w.ownsRow B 126 8 v qs.length (bw qs)
 kd:∀g,v.ownBlock=some g->bU dP w g
theorem aZ.nil(B:Nat)(w:World):aZ B w (.slice none 0 0) []:=⟨World.ownsRow_nil _ _ _ _,λg hg=>by simp[Value.ownBlock] at hg⟩
theorem aZ.next{B:Nat}{w w':World}{v:Value}{qs:List Pq}(h:aZ B w v qs)(hb:Below w.heap.size w w'):aZ B w' v qs:=
 ⟨aK h.own hb,λg hg=>(h.kd g hg).below (hb.block g (Lb h.own g hg).2)⟩
theorem aZ.frm{B:Nat}{S:Nat->Prop}{w w':World}{v:Value}{qs:List Pq}(h:aZ B w v qs)(hf:ai S w w')(hs:∀g,v.ownBlock=some g->¬S g):aZ B w' v qs:=
 ⟨hf.own h.own hs,λg hg=>hf.kdb (h.kd g hg) (Lb h.own g hg).2 (hs g hg)⟩
def ii(ob g R:Nat)(dv pv:Value):List Value:=[.pointer (some ⟨ob,0,none⟩),dv,.slice (some ⟨g,0,none⟩) R R,pv,.pointer none]
structure bj(p:Int)(B:Nat)(w:World)(mb ob R g:Nat)(dv pv:Value)(us:List Value)(ms:List Mm)(qs:List Pq):Prop where
 box:w.ownsRow B 121 5 (jz mb) 1 (ii ob g R dv pv)
 dvs:∃a n c,dv=.slice a n c
 mks:eS p B w R g us ms
 prs:aZ B w pv qs
theorem aZ.sl{B:Nat}{w:World}{v:Value}{qs:List Pq}(h:aZ B w v qs):∃a c,v=.slice a qs.length c:=cw h.own
theorem bj.kd{p:Int}{B:Nat}{w:World}{mb ob R g:Nat}{dv pv:Value}{us:List Value}{ms:List Mm}{qs:List Pq}(h:bj p B w mb ob R g dv pv us ms qs):bU dP w mb:=by
 rcases h.box.2 with ⟨h1,_⟩|⟨g2,cap,af,h1,_,hh,_,_,hcs,htake⟩
 .simp[jz] at h1
 .simp only[jz,LB,LA,Addr.mk.injEq,and_true,true_and] at h1;obtain⟨rfl,rfl⟩:=h1;refine mF hh λu hu=>?_;have e:af.toList=ii ob g R dv pv:=by rw[<-htake,Lz (by rw[Array.length_toList,hcs];omega)]
  rw[e] at hu;obtain⟨a,n,c,rfl⟩:=h.dvs;obtain⟨a2,c2,rfl⟩:=h.prs.sl;intro x ex;subst ex;simp[ii] at hu
theorem bj.next{p:Int}{B:Nat}{w w':World}{mb ob R g:Nat}{dv pv:Value}{us:List Value}{ms:List Mm}{qs:List Pq}(h:bj p B w mb ob R g dv pv us ms qs)(hb:Below w.heap.size w w'):bj p B w' mb ob R g dv pv us ms qs:=
 ⟨aK h.box hb,h.dvs,h.mks.next hb,h.prs.next hb⟩
theorem bj.cells{p:Int}{B:Nat}{w:World}{mb ob R g:Nat}{dv pv:Value}{us:List Value}{ms:List Mm}{qs:List Pq}(h:bj p B w mb ob R g dv pv us ms qs):w.cell? ⟨mb,0,none⟩=some (.pointer (some ⟨ob,0,none⟩))/\w.cell? ⟨mb,1,none⟩=some dv/\w.cell? ⟨mb,2,none⟩=some (.slice (some ⟨g,0,none⟩) R R)/\w.cell? ⟨mb,3,none⟩=some pv/\w.cell? ⟨mb,4,none⟩=some (.pointer none):=by have hc:∀j,j<5->w.cell? ⟨mb,j,none⟩=(ii ob g R dv pv)[j]?:=λj hj=>La h.box j (by omega);exact⟨by rw[hc 0 (by omega)];rfl,by rw[hc 1 (by omega)];rfl,by rw[hc 2 (by omega)];rfl,by rw[hc 3 (by omega)];rfl,by rw[hc 4 (by omega)];rfl⟩
theorem eS.at{p:Int}{B:Nat}{w:World}{R g:Nat}{us:List Value}{ms:List Mm}(h:eS p B w R g us ms)(pl:Nat)(hp:pl<R):w.cell? ⟨g,pl,none⟩=some (us.getD pl aB)/\w.frozen? ⟨g,pl,none⟩=false:=by
 have hl:us.length=R:=by have:=h.o.1;omega
 refine⟨?_,K8 h.o pl⟩;rw[La h.o pl (by omega)];rw[Lr,Ls (by omega)];rfl
theorem eS.pts{p:Int}{B:Nat}{w:World}{R g:Nat}{us:List Value}{ms:List Mm}(h:eS p B w R g us ms)(pl:Nat)(hp:pl<R):oQ w (us.getD pl aB) (aS ms pl):=by have ho:=h.row pl hp;obtain⟨a,c,e⟩:=cw ho;refine⟨a,c,e,λj hj=>?_⟩;rw[e] at ho;obtain⟨b,rfl,_,hlt,hc⟩:=sF ho j (by simpa using hj);exact⟨b,0,rfl,by rw[Ly,hc,List.getElem?_map,Ls hj];rfl⟩
theorem bj.mrw{p:Int}{B:Nat}{w:World}{mb ob R g:Nat}{dv pv:Value}{us:List Value}{ms:List Mm}{qs:List Pq}(h:bj p B w mb ob R g dv pv us ms qs):kO p w mb R ms:=by obtain⟨_,_,c2,_,c4⟩:=h.cells;exact⟨⟨g,R,c2,λpl hp=>⟨_,(h.mks.at pl hp).1,h.mks.pts pl hp⟩⟩,λx hx=>(h.mks.mem x hx).mbr,c4⟩
theorem bj.repair{p:Int}{B:Nat}{w w2:World}{mb ob R g:Nat}{dv pv pv2:Value}{us:List Value}{ms:List Mm}{qs qs2:List Pq}(h:bj p B w mb ob R g dv pv us ms qs)(hB:B<=w.heap.size)(hf:ai (λk=>pv.ownBlock=some k) w w2)(hp:aZ B w2 pv2 qs2):bj p B (w2.setCell ⟨mb,3,none⟩ pv2) mb ob R g dv pv2 us ms qs2/\ai (λk=>k=mb\/pv.ownBlock=some k) w (w2.setCell ⟨mb,3,none⟩ pv2)/\Below B w (w2.setCell ⟨mb,3,none⟩ pv2):=by
 have hm2:w2.ownsRow B 121 5 (jz mb) 1 (ii ob g R dv pv):=dN hf h.box λk hk=>bp h.prs.own hk (by decide);have hst:=Lp hm2 3 pv2;have e:(ii ob g R dv pv).set 3 pv2=ii ob g R dv pv2:=rfl;rw[e] at hst;have hf2:ai (λk=>k=mb) w2 (w2.setCell ⟨mb,3,none⟩ pv2):=ai.of_grown hst.2 λk e=>by simpa using e.symm
 have hkm:bU dP w2 mb:=by refine hf.kdb h.kd (Lb h.box mb rfl).2 λe=>?_;obtain⟨af,e2⟩:=dp h.box (g:=mb) rfl;exact bp h.prs.own e (T':=121) (by decide) af e2
 have hA2:eS p B w2 R g us ms:=h.mks.frm hf (λk hk=>h.prs.kd k hk) λk hk=>⟨bp h.prs.own hk (by decide),bp h.prs.own hk (by decide)⟩;have hA3:=hA2.frm hf2 (λk hk=>by rw[hk];exact hkm) λk hk=>by subst hk;exact⟨bp hm2 rfl (by decide),bp hm2 rfl (by decide)⟩
 have hp3:=hp.frm hf2 λk hk e=>by subst e;obtain⟨af,e2⟩:=dp hm2 (g:=k) rfl;exact bp hp.own hk (T':=121) (by decide) af e2
 have hff:ai (λk=>k=mb\/pv.ownBlock=some k) w (w2.setCell ⟨mb,3,none⟩ pv2):=(hf.wide (T:=λk=>k=mb\/pv.ownBlock=some k) λ_ _ h=>L3 h).trans hf2 λk _ e=>L0 e;refine⟨⟨hst.1,h.dvs,hA3,hp3⟩,hff,hff.to_below hB λk hk=>?_⟩;rcases hk with rfl|hk
 .exact(Lb h.box k rfl).1
 .exact(Lb h.prs.own k hk).1
theorem Tryz.infoPms:(prog.info? 130).map (λi=>(i.zero,i.size,i.bytes))=some (some (.slice none 0 0),1,24):=by kernel_rfl
theorem uh(n:Nat):(madeCells #[.slice none 0 0] n).toList=List.replicate n aB:=by
 apply List.ext_getElem
 .simp[size_madeCells]
 .intro i h1 h2;simp[madeCells,Nat.mod_one,aB]
theorem I2(p:Int)(w:World)(R:Nat)(hR:R<=255):eS p w.heap.size (w.alloc (.cells (madeCells #[.slice none 0 0] R) 130)) R w.heap.size (List.replicate R aB) []:=by
 have hg:∀pl,(List.replicate R aB).getD pl aB=aB:=λpl=>by
  rw[Lr];by_cases h:pl<R
  .rw[Ls (by simpa using h)];simp
  .rw[Lu (by simpa using h)];rfl
 have ho:∀{k:Nat},aB.ownBlock=some k->False:=λh=>by simp[aB,Value.ownBlock] at h
 refine⟨⟨by simp,.inr ⟨w.heap.size,R,_,rfl,Lc _,heap_alloc_new w _,Lc _,by unfold maxLen;omega,by simp[size_madeCells],?_⟩⟩,qT λu hu=>?_,λpl _=>?_,λpl _ k hk=>?_,λi j _ _ _ k hk=>?_,λx hx=>by simp at hx,by simp⟩
 .rw[uh];simp
 .rw[uh] at hu;have:=(List.mem_replicate.1 hu).2;rw[this];intro x e;simp[aB] at e
 .rw[hg];exact World.ownsRow_nil _ _ _ _
 .rw[hg] at hk;exact(ho hk).elim
 .rw[hg] at hk;exact(ho hk).elim
theorem Em(p:Int)(ob R b off c:Nat)(w:World)(hR:R<=255):Calls prog 74 #[.pointer (some ⟨ob,0,none⟩),.slice (some ⟨b,off,none⟩) R c] w λe w'=>∃mb g us,e=.returned (.pointer (some ⟨mb,0,none⟩))/\bj p w.heap.size w' mb ob R g (.slice (some ⟨b,off,none⟩) R c) (.slice none 0 0) us [] []/\Below w.heap.size w w':=by
 have hmk:=fun(W:World)=>run_make_row' (P:=prog) 117 130 (.slice none 0 0) 24 underlying117 Tryz.infoPms rfl .i64 .i64 R (by omega) (by omega) W;have HA:=ac (I2 p w R hR);go_enter func74,ntmps74;go_wp2;go_ret;obtain⟨w1,hw1⟩:∃w1,w1=w.alloc (.cells (madeCells #[.slice none 0 0] R) 130):=⟨_,rfl⟩;have hs1:w1.heap.size=w.heap.size+1:=by rw[hw1];simp
 have h1:Below w.heap.size w w1:=by rw[hw1];exact aj
 have h0:=HA.o;rw[<-hw1] at h0⊢;have h2:=h0.next (aj (A:=.cells #[.pointer (some ⟨ob,0,none⟩),.slice (some ⟨b,off,none⟩) R c,.slice (some ⟨w.heap.size,0,none⟩) R R,.slice none 0 0,.pointer none] 121));have hbx:(w1.alloc (.cells #[.pointer (some ⟨ob,0,none⟩),.slice (some ⟨b,off,none⟩) R c,.slice (some ⟨w.heap.size,0,none⟩) R R,.slice none 0 0,.pointer none] 121)).ownsRow w.heap.size 121 5 (jz w1.heap.size) 1 (ii ob w.heap.size R (.slice (some ⟨b,off,none⟩) R c) (.slice none 0 0)):=
  ⟨by simp[ii],.inr ⟨w1.heap.size,1,_,rfl,by omega,heap_alloc_new w1 _,Lc _,by decide,by simp,by simp[ii]⟩⟩
 rw[hs1] at hbx;exact⟨w.heap.size+1,w.heap.size,_,rfl,⟨hbx,⟨_,_,_,rfl⟩,h2,aZ.nil _ _⟩,h1.trans (aj.mono h1.size)⟩
theorem fj.mono{B B':Nat}{w:World}{v:Value}{us:List Value}{fss:List (List Tm)}(h:fj B' w v us fss)(hb:B<=B'):fj B w v us fss:=⟨h.len,I3 h.own hb,h.kind,h.pls⟩
def AT:Value->Option Nat
 | .slice (some a) _ _=>some a.block
 |_=>none
theorem Vl.far{w w':World}{g:Nat}{x:Value}{fss:List (List Tm)}(h:Vl w x fss)(hk:cz w g)(hg:w.grownBy w' (some g))(hne:AT x≠some g):Vl w' x fss:=by obtain⟨a,c,rfl,h⟩:=h;refine⟨a,c,rfl,λhp=>?_⟩;obtain⟨b,off,rfl,hlt,hat⟩:=h hp;have hb:b≠g:=λe=>hne (by simp[AT,e]);refine⟨b,off,rfl,Lj hlt hg.size,λi hi=>?_⟩;obtain⟨v,hc,hpl⟩:=hat i hi;exact⟨v,by rw[jM hg hlt hb];exact hc,l9 hk hg hpl⟩
theorem fj.far{B:Nat}{w w':World}{g:Nat}{v:Value}{us:List Value}{fss:List (List Tm)}(h:fj B w v us fss)(hk:cz w g)(hg:w.grownBy w' (some g))(hne:v.ownBlock≠some g):fj B w' v us fss:=by refine⟨h.len,h.own.kept hg (L3 hne),λg2 h2 j u hu=>?_,λi hi=>l9 hk hg (h.pls i hi)⟩;have hlt:=(Lb h.own g2 h2).2;rw[jM hg hlt (λe=>hne (by rw[h2,e]))] at hu;exact h.kind g2 h2 j u hu
theorem fj.put{B:Nat}{w:World}{g c n:Nat}{us:List Value}{fss:List (List Tm)}{i:Nat}{u:Value}{f:List Tm}(h:fj B w (.slice (some ⟨g,0,none⟩) n c) us fss)(hn:n=fss.length)(hi:i<fss.length)(hu:Pl w u f):fj B (w.setCell ⟨g,i,none⟩ u) (.slice (some ⟨g,0,none⟩) n c) (us.set i u) (fss.set i f)/\w.grownBy (w.setCell ⟨g,i,none⟩ u) (some g):=by
 subst hn;have hk:=h.kind g rfl;obtain⟨s1,s2⟩:=h.own.stored i u;have huS:∃a n c,u=.slice a n c:=by obtain⟨a,c,e,_⟩:=hu;exact⟨_,_,_,e⟩
 refine⟨⟨by simp[h.len],by rw[List.length_set];exact s1,λg2 h2=>?_,λk hk2=>?_⟩,s2⟩
 .simp only[Value.ownBlock,LA] at h2;subst h2;rcases h.own.2 with ⟨h',_⟩|⟨g',cap',af,h',hb,hg,_⟩
  .simp at h'
  .simp only[LB,LA,Addr.mk.injEq,and_true,true_and] at h';obtain⟨rfl,rfl⟩:=h';have hcur:=AU hg hk;refine uI (heap_setCell_same w g i af _ u hg) λy hy=>?_;rw[Array.mem_toList_iff] at hy;rcases Array.mem_or_eq_of_mem_setIfInBounds hy with h9|h9
   .exact hcur y (by rw[Array.mem_toList_iff];exact h9)
   .rw[h9];exact huS
 .rw[List.length_set] at hk2;by_cases e:i=k
  .subst e;have e1:(us.set i u).getD i aB=u:=by simp[Lr,show i<us.length by rw[h.len];exact hi]
   have e2:(fss.set i f).getD i []=f:=by simp[Lr,hi]
   rw[e1,e2];exact l9 hk s2 hu
  .have e1:(us.set i u).getD k aB=us.getD k aB:=by simp[Lr,List.getElem?_set_ne e]
   have e2:(fss.set i f).getD k []=fss.getD k []:=by simp[Lr,List.getElem?_set_ne e]
   rw[e1,e2];exact l9 hk s2 (h.pls k hk2)
theorem ta:∀{xs:List Int},(∀x∈xs,0<=x)->∀x∈xs,x<=ah xs
 |[],_,x,hx=>by simp at hx
 |y::ys,h,x,hx=>by
  have h0:=h y (by simp);have h1:=p9 (xs:=ys) λz hz=>h z (by simp[hz]);simp only[ah];rcases LL.1 hx with rfl|hx
  .omega
  .have:=ta (xs:=ys) (λz hz=>h z (by simp[hz])) x hx;omega
end Go.Proofs.YteimdcndjjclnaaGreat
