/- Vectors with leads. -/
import Derived.Test.YtjkalahhpobefaaGreatSD
import Derived.Test.YtjkalahhpobefaaGreatTB
import Derived.Test.YtjkalahhpobefaaGreatHT
import Derived.Test.YtjkalahhpobefaaGreatGE
set_option maxHeartbeats 6000000
set_option maxRecDepth 100000
namespace Go.Proofs.YtjkalahhpobefaaGreat
set_option linter.all false
open Go.Proofs.Tryz Go.RowKit Go.Sort
theorem Kf{α β:Type}{zs ys:List α}(h:zs.Perm ys):∀l:List (α×β),l.map Prod.fst=ys->∃l':List (α×β),l'.Perm l/\l'.map Prod.fst=zs:=by
 induction h with
 |nil=>intro l e;exact⟨l,List.Perm.refl _,e⟩
 |cons x h ih=>
  intro l e;cases l with
  |nil=>simp at e
  |cons a l=>simp only[List.map_cons,List.cons.injEq] at e;obtain⟨l',h1,h2⟩:=ih l e.2;exact⟨a::l',h1.cons a,by rw[List.map_cons,h2,e.1]⟩
 |swap x y s=>
  intro l e
  match l,e with
  |a::b::l,e=>simp only[List.map_cons,List.cons.injEq] at e;exact⟨b::a::l,List.Perm.swap _ _ _,by simp[e.1,e.2.1,e.2.2]⟩
 |trans h k ih1 ih2=>intro l e;obtain⟨l2,h1,h2⟩:=ih2 l e;obtain⟨l3,h3,h4⟩:=ih1 l2 h2;exact⟨l3,h3.trans h1,h4⟩
variable{fs:OI}{v:OR}{w:OQ}
theorem Kg(h:Fv w v fs):∃x:bP,v=dX x:=by obtain⟨a,c,e,_⟩:=h;exact⟨(a,fs.length,c),e⟩
theorem Ci:∀(us:OO) (rows:OJ) (w:OQ),us.length=rows.length->(∀i,i<rows.length->Fv w (us.getD i aL) (rows.getD i []))->∃prs:List (bP×OI),prs.map (λx=>dX x.1)=us/\prs.map Prod.snd=rows/\∀x∈prs,Fv w (dX x.1) x.2
 |[],[],_,_,_=>⟨[],rfl,rfl,λx hx=>by simp at hx⟩
 |[],_::_,_,h,_=>by simp at h
 |_::_,[],_,h,_=>by simp at h
 |u::us,r::rows,w,h,hf=>by
  obtain⟨prs,h1,h2,h3⟩:=Ci us rows w (by simpa using h) λi hi=>by simpa using hf (i+1) (by simpa using hi)
  have h0:=hf 0 (by simp);simp at h0;obtain⟨x,hx⟩:=Kg h0;refine⟨(x,r)::prs,by simp[h1,hx],by simp[h2],λy hy=>?_⟩;rcases Og.1 hy with rfl|hy
  .rw[<-hx];exact h0
  .exact h3 y hy
variable{rows:OJ}{us:OO}{B:Nat}
theorem aM.prs(h:aM B w v us rows):∃prs:List (bP×OI),iO B w v (prs.map Prod.fst)/\prs.map Prod.snd=rows/\∀x∈prs,Fv w (dX x.1) x.2:=by
 obtain⟨prs,h1,h2,h3⟩:=Ci us rows w h.len h.fvs;refine⟨prs,⟨?_,h.kind⟩,h2,h3⟩;have e1:(prs.map Prod.fst).length=rows.length:=by rw[<-h2];simp
 have e2:(prs.map Prod.fst).map dX=us:=by rw[<-h1,List.map_map];rfl
 rw[e1,e2];exact h.own
variable{g:Nat}
theorem Kh(h:cK w g):bW ee w g:=λj u hu x e=>by obtain⟨a,n,c,e2⟩:=h j u hu;rw[e2] at e;cases e
def sq(l:List (bP×OI))(x:bP):Int:=((l.find? λy=>decide (y.1=x)).bind λy=>y.2.head?).elim 0 Ft.k
theorem Cj{l:List (bP×OI)}{x:bP}(hx:x∈l.map Prod.fst):∃y∈l,y.1=x/\sq l x=y.2.head?.elim 0 Ft.k:=by
 unfold sq;cases h:l.find? λy=>decide (y.1=x) with
 |none=>obtain⟨y,hy,e⟩:=N9.1 hx;have:=List.find?_eq_none.1 h y hy;simp[e] at this
 |some y=>exact⟨y,List.mem_of_find?_eq_some h,by simpa using List.find?_some h,rfl⟩
theorem Ki(u v:OR)(s t:Ft)(ss ts:OI)(w:OQ)(hu:Fv w u (s::ss))(hv:Fv w v (t::ts)):Calls prog 186 #[u,v] w λe w'=>e=.returned (OW (aS s.k t.k))/\LT w w':=by
 obtain⟨ub,uo,uc,hu1,_,_,hf,_⟩:=hu.head;obtain⟨vb,vo,vc,hv1,_,_,hg,_⟩:=hv.head;obtain⟨f0,_⟩:=hf;obtain⟨g0,_⟩:=hg;subst hu1;subst hv1;have hl1:(0:Int)<(ss.length:Int)+1:=by omega
 have hl2:(0:Int)<(ts.length:Int)+1:=by omega
 have HC:=ae (λW=>vM s.k t.k W);clear hu hv;generalize aS s.k t.k=r at HC⊢;go_enter func186,ntmps186;go_upto_region 1 with fail;go_quiet ((go_at_call 155;exact Calls.quiet_of_same (HC.o _)));go_wp2;go_ret;exact⟨rfl,Go.Lib.below_grow _ w (NL _) nq #[]⟩
theorem Kj{prs:List (bP×OI)}(hr:iO B w v (prs.map Prod.fst))(hf:∀x∈prs,Fv w (dX x.1) x.2)(hne:∀x∈prs,x.2≠[])(hg:v.ownBlock=some g):mA w g (prs.map Prod.fst) (sq prs):=λW hW x hx y hy=>by
 have hn:∀k,k=g->bW io w k:=λk e=>by rw[e];exact kF (hr.kind g hg)
 obtain⟨a,ha,rfl,e1⟩:=Cj hx;obtain⟨b,hb,rfl,e2⟩:=Cj hy;rw[e1,e2];have fa:=fM hW hn (hf a ha);have fb:=fM hW hn (hf b hb);have na:=hne a ha;have nb:=hne b hb;obtain⟨xa,la⟩:=a;obtain⟨xb,lb⟩:=b;cases la with
 |nil=>exact absurd rfl na
 |cons s ss=>
  cases lb with
  |nil=>exact absurd rfl nb
  |cons t ts=>exact Ki _ _ s t ss ts W fa fb
variable{A:Obj}{W:OQ}
theorem fX(h:LT w W):LT w (W.alloc A):=h.alloc h.size A
theorem oo(h:LT w W):LT w W.drew:=h.drew
theorem sr(W:OQ)(t:Ft):Fv (W.alloc (.cells #[OW t.k,OX t.a,OX t.b,OX t.d,OX t.z,OY t.pl,OY t.c] 88)) (OU W.heap.size 1 1) [t]:=fT (dB (NL _) t)
theorem Fv.alG(h:Fv W v fs):Fv (W.alloc A) v fs:=h.below ai
theorem Fv.drG(h:Fv W v fs):Fv W.drew v fs:=h.below (NM _ _).drew
variable{ob:Nat}{w':OQ}{p:Int}
theorem cT.nextG{G:Ft->Prop}{sb:Nat}{rv:OR}{C:Int->Int}(h:cT p G B w sb ob rv us rows C)(hb:LT w w'):cT p G B w' sb ob rv us rows C:=⟨h.sum.next hb,h.ok,h.len,h.cn⟩
variable{n B':Nat}
theorem wC{T:TypeId}{s:Nat}{xs:OO}(h:w.ownsRow B T s v n xs)(hb:B'<=B):w.ownsRow B' T s v n xs:=by
 refine⟨h.1,?_⟩;rcases h.2 with h2|⟨g,cap,ag,e,hg,r⟩
 .exact .inl h2
 .exact .inr ⟨g,cap,ag,e,NR hb hg,r⟩
theorem aM.low(h:aM B w v us rows)(hb:B'<=B):aM B' w v us rows:=⟨h.len,wC h.own hb,h.kind,h.fvs⟩
theorem aM.put8(h:aM B w v us rows)(h8:dC w w')(k:bw w w'):aM B w' v us rows:=by
 have hs:∀g,v.ownBlock=some g->w'.heap[g]?=w.heap[g]?:=λg hg=>by obtain⟨ag,hc⟩:=cJ h.own hg;exact k.2 g (On.1 hc).1 λe=>e.2.2 ag hc
 refine⟨h.len,⟨h.own.1,?_⟩,λg hg=>bW.below (h.kind g hg) (hs g hg),λi hi=>(h.fvs i hi).fr8 h8⟩;rcases h.own.2 with h2|⟨g,cap,ag,rfl,hb,hh,r⟩
 .exact .inl h2
 .exact .inr ⟨g,cap,ag,rfl,hb,(hs g rfl).trans hh,r⟩
theorem Ck{P:Program}(w:OQ)(T ty e:TypeId)(i:TypeInfo)(z:OR)(ht:P.underlying T=some (.slice e))(hi:P.info? e=some i)(hz:i.zero=some z)(hsize:i.size=7)(hby:i.bytes=24)(hzs:z.cells.size=7)(he:e=88)(g:Nat)(t:Ft)(hs:Fv w (OU g 1 1) [t])(xa:Option Addr)(xc:Nat)(r:OI)(hx:Fv w (.slice xa r.length xc) r)(hl:r.length<=1200000000000):∃g' cap w',(Builtin.append_ #[T,T] ty #[OU g 1 1,.slice xa r.length xc]).run P w=.ok (OU g' (1+r.length) cap) w'/\Fv w' (OU g' (1+r.length) cap) (t::r)/\LT w w':=by
 subst he;by_cases hr0:0<r.length
 .obtain⟨xa2,xc2,ex,_,hxc⟩:=hx;obtain⟨xb,xoff,hxa,_,hxs⟩:=hxc hr0;simp only[N8,true_and] at ex;obtain⟨rfl,rfl⟩:=ex;subst hxa;have hadd:∀(b o j:Nat),((OV b o):Addr).add j=(OV b (o+j)):=λb o j=>by
   by_cases h:j=0
   .subst h;simp[Addr.add]
   .simp[Addr.add,h]
  obtain⟨_,_,es,_,hsc⟩:=hs;obtain⟨sb,soff,hsa,_,hss⟩:=hsc (by simp);subst hsa;simp only[N8,N7,Addr.mk.injEq,and_true] at es;obtain⟨⟨rfl,rfl⟩,_,_⟩:=es;have hr:=run_append_grow (P:=P) w T ty 88 i z ht hi hz (OV g 0) 1 1 (aB t) (by rw[hsize];rfl) (λj x hj=>by rw[hadd];exact hss j x (by simpa [aA] using hj)) (OV xb xoff) r.length xc (aA r) (by rw[hsize];exact fz r) (λj x hj=>by rw[hadd];exact hxs j x hj) (by omega) (by omega) (growslice_fits (by omega) (by rw[hby];omega));refine⟨_,_,_,hr,?_,(NM _ _).drew.alloc (NL _) _⟩;have hcap:1+r.length<=grownCap w (1+r.length) 1 88/\grownCap w (1+r.length) 1 88<=maxLen:=by unfold grownCap maxLen;simp only[Question.cut];have:=Nat.mod_lt (w.tape w.drawn (Question.appendCap (1+r.length) 1 88)) (show 0<2 ^ 63-(1+r.length) by omega);omega
  have e1:1+r.length=(t::r).length:=by simp;omega
  rw[e1] at hcap⊢;refine fT (B:=w.heap.size) ⟨by simp[fz],.inr ⟨w.heap.size,_,_,rfl,NL _,heap_alloc_new w.drew _,hcap.1,hcap.2,?_,?_⟩⟩
  .simp[Builtin.zeroCells,hzs,fz,aB];simp at hcap;omega
  .have hlen:(aB t++aA r).length=(t::r).length*7:=by simp[fz,aB];omega
   rw[Array.toList_append,Array.toList_append,List.toList_toArray,List.toList_toArray,<-hlen,List.take_left];rfl
 .have e:r=[]:=List.eq_nil_of_length_eq_zero (by omega);subst e;refine⟨g,1,w,?_,hs,NM _ _⟩;cases xa with
  |none=>simp[Builtin.append_,run_underlying ht,sizeOf,typeInfo,hi,Builtin.lenOf,Builtin.firstCells,storeCells,loadCells,loadCellsFrom]
  |some ad=>simp[Builtin.append_,run_underlying ht,sizeOf,typeInfo,hi,Builtin.lenOf,Builtin.firstCells,storeCells,loadCells,loadCellsFrom]
variable{r:OI}{L:Ft}{N wd:Nat}
theorem su(h:d8 p N wd n L r):kS (eA wd L) (fA wd L):=by
 have h1:=h.dg;have g:=h.vc.gd L (by simp);have:=g.a;have:=g.b;have:=g.d;unfold kS eA fA;unfold gO at*;by_cases c:L.pl<wd
 .rw[Oe c,Oe c];omega
 .rw[Oc c,Oc c];omega
variable{ra:List (List (Int×C4.Tt))}
theorem Kk(hx:ci p N wd n){acc:OI}{rows2:OJ}(hm:d8 p N wd n L r)(hmm:bq p ra λφ=>au φ (L::r))(hJ:LA p ra N wd n (eA wd L) (fA wd L) (λφ=>au φ r) L.k acc none rows)(hn:Nx p rows none rows2):d8 p N wd n L acc/\bq p ra λφ=>au φ (L::acc):=by
 have hR:=su hm;have h1:=(oX hx (by have:=hR.1;omega) (by have:=hR.2.1;omega) hJ hn).2 rfl;refine⟨⟨⟨List.pairwise_cons.2 ⟨λt ht=>(hJ.ak t ht).2.2,hJ.av.dn⟩,λt ht=>?_,λt ht=>?_⟩,hm.dg⟩,?_⟩
 .rcases Og.1 ht with rfl|ht
  .exact hm.vc.co t (by simp)
  .exact hJ.av.co t ht
 .rcases Og.1 ht with rfl|ht
  .exact hm.vc.gd t (by simp)
  .exact hJ.av.gd t ht
 .refine(hmm.add (h1.scl (-1))).congr λφ=>⟨0,?_⟩;rw[cY,cY];omega
structure pH(p:Int)(ra:List (List (Int×C4.Tt)))(N wd n:Nat)(rows rows':OJ):Prop where
 ok:∀f∈rows',∃L r,f=L::r/\d8 p N wd n L r/\bq p ra λφ=>au φ (L::r)
 cov:∀f∈rows,∀L r,f=L::r->∃L' r',(L'::r')∈rows'/\cF L' L=true
 len:rows'.length<=rows.length
def jc(x:Mm):OI:=x.L::x.r
structure mB(p:Int)(ra:List (List (Int×C4.Tt)))(N wd n:Nat)(B B1:Nat)(w1 wr:OQ)(mb ob R g:Nat)(dv:OR)(us:OO)(ms:OK)(sv:OR)(av:OO)(done:List (bP×OI)):Prop where
 mkg:a8 p B1 wr mb ob R g dv (.slice none 0 0) us ms []
 mss:jN p ra N wd n ms
 rows:aM B wr sv av (ms.map jc)
 below:LT w1 wr
 cov:∀y∈done,∀L r,y.2=L::r->∃x∈ms,cF x.L L=true
 len:ms.length<=done.length
variable{y:bP×OI}{done:List (bP×OI)}{av:OO}{sv dv:OR}{ms:OK}{mb R B1:Nat}{w1:OQ}
theorem mB.skip{wr w2:OQ}(h:mB p ra N wd n B B1 w1 wr mb ob R g dv us ms sv av done)(hb:LT wr w2){x:Mm}(hy:y.2=L::r)(hf:eO ms L=some x):mB p ra N wd n B B1 w1 w2 mb ob R g dv us ms sv av (done++[y]):=by
 refine⟨h.mkg.next hb,h.mss,h.rows.next hb,Io h.below hb,λz hz L2 r2 e=>?_,by have:=h.len;simp;omega⟩;rcases N1.1 hz with hz|hz
 .exact h.cov z hz L2 r2 e
 .rw[N2] at hz;subst hz;rw[hy] at e;simp only[List.cons.injEq] at e;refine⟨x,(Om.1 (List.mem_of_find?_eq_some hf)).1,?_⟩;have hgo:=List.find?_some hf;unfold eP at hgo;simp only[Bool.and_eq_true] at hgo;rw[<-e.1];exact hgo.2
theorem Kl(L:Ft):cF L L=true:=by unfold cF eM;simp
theorem mB.new{w5 w10:OQ}{sv2 u:OR}{f:Mm}(hm:a8 p B1 w5 mb ob R g dv (.slice none 0 0) us (ms++[f]) [])(hms:jN p ra N wd n ms)(hfm:d8 p N wd n f.L f.r/\bq p ra λφ=>au φ (f.L::f.r))(hr:aM B w5 sv av (ms.map jc))(hb5:LT w1 w5)(hB:w1.heap.size<=B)(hcov:∀y∈done,∀L r,y.2=L::r->∃x∈ms,cF x.L L=true)(hln:ms.length<=done.length)(hy:y.2=f.L::r)(hfu:Fv w5 u (jc f))(ho:w10.ownsRow B 79 1 sv2 (ms.length+1) (av++[u]))(hg:w5.grownBy w10 sv.ownBlock)(hk:∀g,sv2.ownBlock=some g->cK w10 g):mB p ra N wd n B B1 w1 w10 mb ob R g dv us (ms++[f]) sv2 (av++[u]) (done++[y]):=by
 have hfr:am (λk=>sv.ownBlock=some k) w5 w10:=am.of_grown hg λg e=>e;refine⟨hm.frmS hfr (λk hk=>Kh (hr.kind k hk)) (λk hk=>⟨bh hr.own hk (by decide),bh hr.own hk (by decide),bh hr.own hk (by decide)⟩) (λk hk=>by simp[Value.ownBlock] at hk),λx hx=>?_,?_,hb5.trans (hfr.to_below hb5.size λk hk=>NR hB (NK hr.own k hk).1),λz hz L2 r2 e=>?_,by simp;omega⟩
 .rcases N1.1 hx with hx|hx
  .exact hms x hx
  .rw[N2] at hx;rw[hx];exact hfm
 .rw[Oi];exact hr.add hfu (by simpa using ho) hg hk
 .rcases N1.1 hz with hz|hz
  .obtain⟨x,hx,h2⟩:=hcov z hz L2 r2 e;exact⟨x,List.mem_append_left _ hx,h2⟩
  .rw[N2] at hz;subst hz;rw[hy] at e;simp only[List.cons.injEq] at e;exact⟨f,by simp,by rw[<-e.1];exact Kl _⟩
def pI(N wd n:Nat)(L:Ft)(u:Ft):Prop:=bi N wd n (eA wd L) (fA wd L) u/\u.k<L.k
theorem Km(p:Int)(N wd n:Nat)(hx:ci p N wd n)(L:Ft)(r:OI)(hm:d8 p N wd n L r)(ob vb:Nat)(sv tv:OR)(W:OQ)(hob:aQ W ob p (ao 1 N N 0) (ao 1 N N 1) (ao 1 N N 2) sv)(hv:W.cell? (OV vb 0)=some tv)(hf:Fv W tv r):Calls prog 85 #[OS ob,OU vb 1 1] W λe w'=>∃rv us rows,e=.returned (OS W.heap.size)/\cT p (pI N wd n L) W.heap.size w' W.heap.size ob rv us rows (λk=>aq k r)/\LT W w':=by
 have hR:=su hm;refine(uI ob vb 0 1 p _ _ _ (pI N wd n L) sv tv r W hob (dS hx.pr) hv hf ⟨λx hx=>?_,λx hx u hu=>?_,λx hx u hu=>?_⟩ (λx t ha hg=>⟨bi.alk x t ha hg.1,by rw[ha.1];exact hg.2⟩) λf hd hg=>jO hx (by have:=hR.1;omega) (by have:=hR.2.1;omega) f hd λt ht=>(hg t ht).1).mono ?_
 .rw[N2] at hx;subst hx;exact hm.vc.dn.tail
 .rw[N2] at hx;subst hx;exact hm.vc.co u (by simp[hu])
 .rw[N2] at hx;subst hx;exact⟨hm.vc.gd u (by simp[hu]),hm.vc.dn.head u hu⟩
 .rintro e w' ⟨rfl,rv,us,rows,q1,q2⟩;exact⟨rv,us,rows,rfl,q1,q2⟩
theorem Kn(p:Int)(ra:List (List (Int×C4.Tt)))(N wd n R:Nat)(hRn:R=wd+n)(hx:ci p N wd n)(L:Ft)(r:OI)(hm:d8 p N wd n L r)(hmm:bq p ra λφ=>au φ (L::r))(ms:OK)(hms:jN p ra N wd n ms)(hl:ms.length<=2100000)(W0 W:OQ)(ob mb:Nat)(sv rv:OR)(us:OO)(rows:OJ)(hmr:jW p W0 mb R ms)(hob:aQ W0 ob p (ao 1 N N 0) (ao 1 N N 1) (ao 1 N N 2) sv)(hb:LT W0 W)(hs:cT p (pI N wd n L) W0.heap.size W W0.heap.size ob rv us rows (λk=>aq k r))(y:OR)(yf:OI)(hy:Fv W y yf)(hyc:∀s∈yf,0<s.c):Calls prog 145 #[OS mb,OS W0.heap.size] W λe w'=>LT W0 w'/\∃u acc,e=.returned u/\Fv w' u acc/\Fv w' y yf/\acc.length<=1200000000000/\d8 p N wd n L acc/\bq p ra λφ=>au φ (L::acc):=by
 subst hRn;have hR:=su hm;have hE:eA wd L<=9700:=by have:=hR.1;omega
 have hF:fA wd L<=9700:=by have:=hR.2.1;omega
 have hvr:cR p N wd n (eA wd L) (fA wd L) r:=⟨hm.vc.dn.tail,λt ht=>hm.vc.co t (by simp[ht]),λt ht=>hm.vc.gd t (by simp[ht])⟩;refine(uF p _ _ _ (wd+n) (bi N wd n (eA wd L) (fA wd L)) ms _ _ W0.heap.size W0 ob mb W0.heap.size sv rv us rows W (zE hx hms hl hR) (Fp hx hms hR (X:=λφ=>au φ r) (K:=L.k) λ_ _=>true) (λt rows acc h=>um hx hR h.1) hmr hob rfl hb hb.size hs.sum ⟨hs.ok.dn,hs.ok.co,λf hf u hu=>(hs.ok.gd f hf u hu).1⟩ hs.len ⟨zG hx hE hF hvr hs.ok hs.cn,λt ht=>by simp at ht⟩ (λf hf u hu=>?_) y yf hy hyc).mono ?_
 .have:=((hs.ok.gd f hf u hu).1.kb hx hE hF).2;omega
 .rintro e w' ⟨h1,u,acc,rfl,h2,_,h3,rows,rows2,h4,h5,h6⟩;have h7:=Kk hx hm hmm h4.1 h6;exact⟨h1,u,acc,rfl,fT h2,h3,um hx hR h4.1,h7.1,h7.2⟩
theorem Ko(p:Int)(ra:List (List (Int×C4.Tt)))(N wd n R:Nat)(hx:ci p N wd n)(hR:R=wd+n)(B ob:Nat)(sv v:OR)(us:OO)(rows:OJ)(w:OQ)(hob:aQ w ob p (ao 1 N N 0) (ao 1 N N 1) (ao 1 N N 2) sv)(hoB:ob<B)(hB:B<=w.heap.size)(hr:aM B w v us rows)(hok:∀f∈rows,∃L r,f=L::r/\d8 p N wd n L r/\bq p ra λφ=>au φ (L::r))(hl:rows.length<=2100000):Calls prog 148 #[OS ob,OW R,v] w λe w'=>∃v' us' rows',e=.returned v'/\aM B w' v' us' rows'/\Below B w w'/\pH p ra N wd n rows rows':=by
 obtain⟨prs,hrs,hsnd,hfv⟩:=hr.prs;have hR7:R<=7:=by have:=hx.hw;have:=hx.hn;omega
 have hmk:=fun(W:OQ)=>run_make_row' (P:=prog) 45 3 (OW 0) 8 underlying45 Tryz.infoIntB rfl .i64 .i64 R (by omega) (by omega) W;have hpl:prs.length=rows.length:=by rw[<-hsnd];simp
 have hne:∀x∈prs,∃L r,x.2=L::r/\d8 p N wd n L r/\bq p ra λφ=>au φ (L::r):=λx hx=>hok x.2 (by rw[<-hsnd];exact List.mem_map_of_mem hx);have HSO:=ae (Ke B v (prs.map Prod.fst) w (sq prs) (λg hg=>Kj hrs hfv (λx hx e=>by obtain⟨L,r,e2,_⟩:=hne x hx;rw[e2] at e;simp at e) hg) hrs (by simp;omega));have HFIN:OE (∀ms:OK,∀prs':List (bP×OI),prs'.Perm prs->jN p ra N wd n ms->(∀y∈prs',∀L r,y.2=L::r->∃x∈ms,cF x.L L=true)->ms.length<=prs'.length->pH p ra N wd n rows (ms.map jc)):=λms prs' hp h1 h2 h3=>by
  refine⟨λf hf=>?_,λf hf L r e=>?_,?_⟩
  .obtain⟨x,hx,rfl⟩:=N9.1 hf;exact⟨x.L,x.r,rfl,(h1 x hx).1,(h1 x hx).2⟩
  .rw[<-hsnd] at hf;obtain⟨y,hy,rfl⟩:=N9.1 hf;obtain⟨x,hx,h⟩:=h2 y (hp.symm.mem_iff.1 hy) L r e;exact⟨x.L,x.r,List.mem_map_of_mem (f:=jc) hx,h⟩
  .rw[Oa,<-hpl,<-hp.length_eq];exact h3
 have HNE:=ae hne;have HFV:=ae hfv;have HRS:=ae hrs;have HOB:=ae hob;have HNM:=ae (fun(b:Nat)(W:OQ)=>wj p ob R b 0 R W (by omega));have hpl2:prs.length<=2100000:=by omega
 obtain⟨va,vc,hv⟩:=ct hrs.own;rw[Oa] at hv;subst hv;have HHR:OE (R=wd+n):=hR;have HHX:=ae hx;clear hr hsnd hfv hne hrs hob hok hpl hR hx;go_enter func148,ntmps148;go_wp2_with (first|(go_at_call 185;refine HSO.o.mono ?_;rintro e w1 ⟨rfl,zs',q1,q2,q3⟩;have HZ1:=ae q1;have HR1:=ae q2;have HF1:=ae q3;clear q1 q2 q3)|(go_at_call 41;refine(HNM.o _ _).mono ?_;rintro e w2 ⟨mb,mg,us2,rfl,q1,q2⟩;have HM2:=ae q1;have HS2:=ae q2.size;have HB2:=ae (ai.trans (q2.mono (by simp)));clear q1 q2));obtain⟨prs',hp',hz'⟩:=Kf HZ1.o prs rfl;subst hz';have HP':=ae hp';have HLN:OE (prs'.length=prs.length):=hp'.length_eq;have HBF1:OE (Below B w w1):=HF1.o.to_below hB λk hk=>(NK HRS.o.own k hk).1;have HOB1:OE (aQ w1 ob p (ao 1 N N 0) (ao 1 N N 1) (ao 1 N N 2) sv):=⟨NQ HOB.o.lt HF1.o.size,(HBF1.o.cell (p:=(OV ob 0)) hoB).trans HOB.o.c0,(HBF1.o.cell (p:=(OV ob 1)) hoB).trans HOB.o.c1,(HBF1.o.cell (p:=(OV ob 2)) hoB).trans HOB.o.c2,(HBF1.o.cell (p:=(OV ob 3)) hoB).trans HOB.o.c3,(HBF1.o.cell (p:=(OV ob 4)) hoB).trans HOB.o.c4⟩;have HFV1:OE (∀y∈prs',Fv w1 (dX y.1) y.2):=λy hy=>fM HF1.o (λk hk=>kF (HRS.o.kind k hk)) (HFV.o y (HP'.o.mem_iff.1 hy));have HNE1:OE (∀y∈prs',∃L r,y.2=L::r/\d8 p N wd n L r/\bq p ra λφ=>au φ (L::r)):=λy hy=>HNE.o y (HP'.o.mem_iff.1 hy);have hBs:B<=w1.heap.size:=NR hB HF1.o.size;obtain⟨B1,hB1⟩:∃B1,B1=(w1.alloc (.cells (madeCells #[OW 0] R) 3)).heap.size:=⟨_,rfl⟩;have HB1:OE (w1.heap.size<=B1/\B1<=w2.heap.size):=⟨by rw[hB1];simp,by rw[hB1];exact HS2.o⟩;have HM2':OE (a8 p B1 w2 mb ob R mg (OU w1.heap.size R R) (.slice none 0 0) us2 [] []):=by rw[hB1];exact HM2.o
 have HR2:OE (w1.ownsRow B 79 1 (.slice va prs.length vc) prs.length ((prs'.map Prod.fst).map dX)):=by have h:=HR1.o.own;rw[Oa,HLN.o] at h;exact h
 clear hp' hB1 HM2 HSO HNM HRS HFV HNE HOB hmk;generalize (OU w1.heap.size R R)=dv at HM2';go_loopw [8,19] (λs8 s19 wr=>∃(m:Nat)(us3:OO)(ms:OK)(av:OO),m<=prs.length/\s19=OW m/\(∃a c,s8=.slice a ms.length c)/\mB p ra N wd n w1.heap.size B1 w1 wr mb ob R mg dv us3 ms s8 av (prs'.take m)) (λ_ s19 _=>prs.length-(intOf s19).toNat);case atStart=>exact⟨0,us2,[],[],NS _,rfl,⟨none,0,rfl⟩,HM2'.o,λx hx=>by simp at hx,aM.nil _ _,HB2.o,λy hy=>by simp at hy,by simp⟩
 case round=>
  rename OQ=>wr;obtain⟨m,us3,ms,av,hm,rfl,⟨sa,sc,rfl⟩,hrd⟩:=hrel;have HRD:=ae hrd;clear hrd;by_cases hm2:m<prs.length
  .have hmI:(m:Int)<(prs.length:Int):=by omega
   have hm3:m<prs'.length:=by rw[HLN.o];exact hm2
   have HTK:OE (prs'.take (m+1)=prs'.take m++[prs'[m]]):=by show _=_;rw[List.take_add_one,NZ hm3];rfl
   have hmsl:ms.length<=2100000:=by have h1:=HRD.o.len;rw[Oo] at h1;omega
   have hmem:=NV hm3;obtain⟨cb,rfl,_,_,hcc⟩:=qQ HR2.o m hm2;rw[List.getElem?_map,List.getElem?_map,NZ hm3] at hcc;simp only[Option.map_some] at hcc;have hfy:=HFV1.o _ hmem;have hny:=HNE1.o _ hmem;generalize prs'[m]=y at hcc hfy hny HTK;clear hm3 hmem;obtain⟨⟨xa,xn,xc⟩,fs⟩:=y;obtain⟨L,r,hy2,hmb,haf⟩:=hny;simp only at hy2;subst hy2;have HMB:=ae hmb;have HAF:=ae haf;simp only[dX] at hcc hfy;obtain⟨ub,uoff,uc,hu,huc,hult,hft,ht1,ht2⟩:=hfy.head;simp only[N8] at hu;obtain⟨rfl,rfl,rfl⟩:=hu;obtain⟨A,hA,hplA⟩:=Fv.tail ⟨ht1,ht2⟩;have HFT:OE (∀W,LT w1 W->cz W ub uoff L/\Fv W (.slice (some A) r.length (xc-1)) r):=λW hb=>⟨hft.keep hb,hplA.below hb⟩;have z0:=af hcc HRD.o.below;have hgl:=HMB.o.vc.gd L (by simp);have HLC:OE (0<=L.pl/\L.pl<R/\0<L.c/\L.c<p):=⟨hgl.pl0,by have:=hgl.pl;have:=HHR.o;omega,(HMB.o.vc.co L (by simp)).1,(HMB.o.vc.co L (by simp)).2⟩;have hle:(1:Int)<=(r.length:Int)+1:=by omega
   clear hmb haf hfy hft ht1 ht2 hplA hgl hcc;obtain⟨f0,f1,f2,f3,f4,f5,f6⟩:=(HFT.o wr HRD.o.below).1;have HFD:=ae (BX p mb R ms L wr HRD.o.mkg.mrw hmsl HLC.o.1 HLC.o.2.1);unfold aX at HFD;cases hfm:eO ms L with
   |some x=>
    have hfn:oh (some x)=OS x.blk:=rfl;rw[hfm,hfn] at HFD;have HFM:=ae hfm;clear hfm;go_wp2_with (go_at_call 88;refine HFD.o.mono ?_;rintro e w3 ⟨rfl,q1⟩;have HB3:=ae q1;clear q1);go_roundw;case rel=>exact⟨m+1,us3,ms,av,by omega,by go_num,⟨sa,sc,rfl⟩,by rw[HTK.o];exact HRD.o.skip HB3.o rfl HFM.o⟩
    case measure=>simp[intOf];omega
   |none=>
    have hfn:oh none=.pointer none:=rfl;rw[hfm,hfn] at HFD;clear hfm;go_upto_region 8 with (go_at_call 88;refine HFD.o.mono ?_;rintro e w3 ⟨rfl,q1⟩;have HBR3:=ae q1;have HB3:=ae (Io HRD.o.below q1);clear q1);have hle3:w1.heap.size<=w3.heap.size:=HB3.o.size;have HNS:OE (∀(W:OQ)(vb:Nat)(y:OR)(yf:OI),LT w3 W->W.cell? (OV vb 0)=some (.slice (some A) r.length (xc-1))->Fv W y yf->Calls prog 85 #[OS ob,OU vb 1 1] W λe w'=>∃W0 rv us rows,e=.returned (OS W0.heap.size)/\LT w3 W0/\cT p (pI N wd n L) W0.heap.size w' W0.heap.size ob rv us rows (λk=>aq k r)/\LT W0 w'/\LT w3 w'/\Fv w' y yf):=λW vb y yf hb hv hy=>by have hbw:LT w1 W:=Io HB3.o hb;refine(Km p N wd n HHX.o L r HMB.o ob vb sv _ W (HOB1.o.below hbw) hv (HFT.o W hbw).2).mono ?_;rintro e w' ⟨rv,us,rows,rfl,q1,q2⟩;exact⟨W,rv,us,rows,rfl,hb,q1,q2,Io hb q2,hy.below q2⟩
    have HLF:OE (∀(W0 W:OQ) rv us rows y yf,LT w3 W0->LT W0 W->cT p (pI N wd n L) W0.heap.size W W0.heap.size ob rv us rows (λk=>aq k r)->Fv W y yf->(∀s∈yf,0<s.c)->Calls prog 145 #[OS mb,OS W0.heap.size] W λe w'=>LT w3 w'/\∃u acc,e=.returned u/\Fv w' u acc/\Fv w' y yf/\OE (acc.length<=1200000000000/\d8 p N wd n L acc/\bq p ra λφ=>au φ (L::acc))):=λW0 W rv us rows y yf h1' h2' h3' hy hyc=>by have hbw:LT wr W0:=Io HBR3.o h1';refine(Kn p ra N wd n R HHR.o HHX.o L r HMB.o HAF.o ms HRD.o.mss hmsl W0 W ob mb sv rv us rows (HRD.o.mkg.mrw.below hbw) (HOB1.o.below (Io HRD.o.below hbw)) h2' h3' y yf hy hyc).mono ?_;rintro e w' ⟨q1,u,acc,rfl,q2,q3,q4⟩;exact⟨Io h1' q1,u,acc,rfl,q2,q3,q4⟩
    obtain⟨i0,hi,hz0,hz1,hz2⟩:=info_parts Tryz.infoFt;have HI:=ae (NN hi (NN hz0 (NN hz1 hz2)));have HTC:=HLC.o.2.2.1;clear hi hz0 hz1 hz2 f0 f1 f2 f3 f4 f5 f6 z0;obtain⟨f0,f1,f2,f3,f4,f5,f6⟩:=(HFT.o w3 HB3.o).1;have hult3:ub<w3.heap.size:=by omega
    go_cut [10] from 29 to 40 (λs10 wx=>∃g cap acc,s10=OU g (1+acc.length) cap/\Fv wx (OU g (1+acc.length) cap) (L::acc)/\OE (acc.length<=1200000000000/\d8 p N wd n L acc/\bq p ra λφ=>au φ (L::acc))/\LT w3 wx)
    case first=>
     clear HRD HFIN HFD HOB1 HFV1 HNE1 HR1 HR2 HTK HF1 HZ1 HP';go_region_law (first|((with_reducible show ite _ (Oper.wp _ _ _ w9 _ _) _);obtain⟨g6,cap6,w6,h1',h2',h3'⟩:=Ck (P:=prog) w9 79 79 88 i0 _ underlying79 HI.o.1 HI.o.2.1 HI.o.2.2.1 HI.o.2.2.2 rfl rfl _ L HY9.o _ _ acc HU9.o HG9.o.1;refine rD rfl (.tmp 32) (.tmp 39) 79 79 rfl rfl _ _ _ ?_ ?_ h1' ?_;(focus (simp[Act.eval,Act.put];done));(focus (simp[Act.eval,Act.put];done));have HF6:=ae h2';have HB6:=ae (Io HB9.o h3');clear h1' h2' h3')|((with_reducible show ite _ (Oper.wp _ _ _ (w9.alloc _) _ _) _);obtain⟨g6,cap6,w6,h1',h2',h3'⟩:=Ck (P:=prog) (w9.alloc (.cells #[OW L.k,OX L.a,OX L.b,OX L.d,OX L.z,OY L.pl,OY L.c] 88)) 79 79 88 i0 _ underlying79 HI.o.1 HI.o.2.1 HI.o.2.2.1 HI.o.2.2.2 rfl rfl _ L (sr w9 L) _ _ acc (HU9.o.below ai) HG9.o.1;refine rD rfl (.tmp 32) (.tmp 39) 79 79 rfl rfl _ _ _ ?_ ?_ h1' ?_;(focus (simp[Act.eval,Act.put];done));(focus (simp[Act.eval,Act.put];done));have HF6:=ae h2';have HB6:=ae ((fX HB9.o).trans (h3'.mono (fX HB9.o).size));clear h1' h2' h3')|(go_simp;refine(HNS.o _ _ (OU w3.heap.size 1 1) [L] ?_ ?_ ?_).mono ?_;(focus ((repeat (first|with_reducible exact NM _ _|with_reducible refine oo ?_|with_reducible refine fX ?_));done));(focus (simp[go_sem];done));(focus ((repeat (first|with_reducible exact sr _ _|with_reducible refine Fv.drG ?_|with_reducible refine Fv.alG ?_));done));rintro e w8 ⟨W0,rv8,us8,rows8,rfl,q1,q2,q3,q4,q5⟩;have HW0:=ae q1;have HS8:=ae q2;have HB8:=ae q3;have HBB8:=ae q4;have HY8:=ae q5;clear q1 q2 q3 q4 q5;obtain⟨g0,g1,g2,g3,g4,g5,g6⟩:=(HFT.o w8 (Io HB3.o HBB8.o)).1;have hult8:ub<w8.heap.size:=NQ hult3 HBB8.o.size;dsimp only)|(go_simp;refine(HNS.o _ _ (.slice (some ⟨(w3.alloc (.cells #[.slice (some A) r.length (xc-1)] 79)).heap.size,0,none⟩) 1 1) [L] ?_ ?_ ?_).mono ?_;(focus ((repeat (first|with_reducible exact NM _ _|with_reducible refine oo ?_|with_reducible refine fX ?_));done));(focus (simp[go_sem];done));(focus ((repeat (first|with_reducible exact sr _ _|with_reducible refine Fv.drG ?_|with_reducible refine Fv.alG ?_));done));rintro e w8 ⟨W0,rv8,us8,rows8,rfl,q1,q2,q3,q4,q5⟩;have HW0:=ae q1;have HS8:=ae q2;have HB8:=ae q3;have HBB8:=ae q4;simp only[World.alloc,Array.size_push] at q5;have HY8:=ae q5;clear q1 q2 q3 q4 q5;obtain⟨g0,g1,g2,g3,g4,g5,g6⟩:=(HFT.o w8 (Io HB3.o HBB8.o)).1;have hult8:ub<w8.heap.size:=NQ hult3 HBB8.o.size;dsimp only)|(go_simp;refine(HNS.o _ _ (.slice none 0 0) [] ?_ ?_ ?_).mono ?_;(focus ((repeat (first|with_reducible exact NM _ _|with_reducible refine oo ?_|with_reducible refine fX ?_));done));(focus (simp[go_sem];done));(focus (exact mf _ _;done));rintro e w8 ⟨W0,rv8,us8,rows8,rfl,q1,q2,q3,q4,q5⟩;have HW0:=ae q1;have HS8:=ae q2;have HB8:=ae q3;have HBB8:=ae q4;skip;clear q1 q2 q3 q4 q5;obtain⟨g0,g1,g2,g3,g4,g5,g6⟩:=(HFT.o w8 (Io HB3.o HBB8.o)).1;have hult8:ub<w8.heap.size:=NQ hult3 HBB8.o.size;dsimp only)|(go_simp;(with_reducible show Calls _ _ _ w8 _);refine(HLF.o W0 w8 rv8 us8 rows8 _ [L] HW0.o HB8.o HS8.o HY8.o ?_).mono ?_;(focus (intro s hs;simp at hs;subst hs;exact HTC));rintro e w9 ⟨q1,u9,acc,rfl,q2,q3,HG9⟩;have HB9:=ae q1;have HU9:=ae q2;have HY9:=ae q3;clear q1 q2 q3;obtain⟨g0,g1,g2,g3,g4,g5,g6⟩:=(HFT.o w9 (Io HB3.o HB9.o)).1;have hult9:ub<w9.heap.size:=NQ hult3 HB9.o.size;obtain⟨u9a,u9c,hu9,_⟩:=HU9.o;subst hu9;dsimp only)|(go_simp;(with_reducible show Calls _ _ _ (w8.alloc _) _);refine(HLF.o W0 (w8.alloc (.cells #[OW L.k,OX L.a,OX L.b,OX L.d,OX L.z,OY L.pl,OY L.c] 88)) rv8 us8 rows8 (OU w8.heap.size 1 1) [L] HW0.o (fX HB8.o) (HS8.o.nextG ai) (sr w8 L) ?_).mono ?_;(focus (intro s hs;simp at hs;subst hs;exact HTC));rintro e w9 ⟨q1,u9,acc,rfl,q2,q3,HG9⟩;have HB9:=ae q1;have HU9:=ae q2;have HY9:=ae q3;clear q1 q2 q3;obtain⟨g0,g1,g2,g3,g4,g5,g6⟩:=(HFT.o w9 (Io HB3.o HB9.o)).1;have hult9:ub<w9.heap.size:=NQ hult3 HB9.o.size;obtain⟨u9a,u9c,hu9,_⟩:=HU9.o;subst hu9;dsimp only)|(go_simp;(with_reducible show Calls _ _ _ w8 _);refine(HLF.o W0 w8 rv8 us8 rows8 (.slice none 0 0) [] HW0.o HB8.o HS8.o (mf _ _) ?_).mono ?_;(focus (intro s hs;simp at hs));rintro e w9 ⟨q1,u9,acc,rfl,q2,q3,HG9⟩;have HB9:=ae q1;have HU9:=ae q2;have HY9:=ae q3;clear q1 q2 q3;obtain⟨g0,g1,g2,g3,g4,g5,g6⟩:=(HFT.o w9 (Io HB3.o HB9.o)).1;have hult9:ub<w9.heap.size:=NQ hult3 HB9.o.size;obtain⟨u9a,u9c,hu9,_⟩:=HU9.o;subst hu9;dsimp only));all_goals
      go_wp2_with fail;go_meet;case rel=>exact⟨_,cap6,acc,rfl,HF6.o,HG9,HB6.o⟩
    case rest=>
     obtain⟨vg,vcap,acc,rfl,hfx,HG,hbx⟩:=hcut;rename OQ=>wx;have HFX:=ae hfx;have HRX:OE (LT wr wx):=Io HBR3.o hbx;have HBX:OE (LT w1 wx):=Io HB3.o hbx;clear hfx hbx f0 f1 f2 f3 f4 f5 f6 HNS HLF HFD;have HMX:=ae (HRD.o.mkg.next HRX.o);have HBB:OE (B1<=wx.heap.size/\w1.heap.size<=B1):=⟨by have h:=HMX.o.box;have h2:=NK h mb rfl;omega,HB1.o.1⟩;have HNB:=ae (rm B1 mb ob p _ _ _ sv (OU vg (1+acc.length) vcap) L acc wx HBB.o.1 HMX.o.cells.1 (HOB1.o.below HBX.o) HHX.o.pr HLC.o.2.2 HFX.o);have HPU:OE (∀(W:OQ)(f:Mm),f.L=L->b9 p B1 W f->wx.heap.size<=f.blk->LT wx W->Calls prog 43 #[OS mb,OS f.blk] W λe w'=>e=.returned (.tuple #[])/\∃us',a8 p B1 w' mb ob R mg dv (.slice none 0 0) us' (ms++[f]) []/\Below B1 W w'/\dC W w'/\bw W w'):=λW f hfl hfw hfb hb=>by exact GQ p B1 W mb ob R mg _ _ us3 ms [] f (HMX.o.next hb) hfw (λx hx e=>by have:=(HMX.o.mks.mem x hx).lt.2;omega) (NR HBB.o.1 hb.size) (by rw[hfl];exact⟨HLC.o.1,HLC.o.2.1⟩) hmsl (by omega)
     obtain⟨i1,hi,hz0,hz1,hz2⟩:=info_parts Tryz.infoFvL;have HIV:=ae (NN hi (NN hz0 (NN hz1 hz2)));clear hi hz0 hz1 hz2;have HRW:=ae HRD.o.rows;go_wp2_with (first|(go_at_call 44;refine HNB.o.mono ?_;rintro e w4 ⟨blk,rv4,rfl,q1,q2,q3⟩;have HPU4:=ae (HPU.o w4 _ rfl q1 q2 q3);have HB4:=ae q3;have HF4:=ae (HFX.o.below q3);have HR4:=ae ((HRW.o.next HRX.o).next q3);clear q1 q2 q3)|(go_at_call 43;refine HPU4.o.mono ?_;rintro e w5 ⟨rfl,us5,q1,q2,q3,q4⟩;have HM5:=ae q1;have HF5:=ae (HF4.o.fr8 q3);have HR5:=ae (HR4.o.put8 q3 q4);have HB5:=ae ((Io HBX.o HB4.o).trans (q2.mono HBB.o.2));clear q1 q2 q3 q4)|(at_builtin;refine pJ rfl (.tmp 46) (.tmp 48) 76 rfl w1.heap.size 79 i1 underlying76 HIV.o.1 HIV.o.2.1 HIV.o.2.2.1 HIV.o.2.2.2 _ ms.length av rfl (by have h:=(HR5.o.next (ai (A:=.cells #[OU vg (1+acc.length) vcap] 79))).own;rw[Oa] at h;exact h) (HR5.o.next ai).kind (OV w5.heap.size 0) 1 (OU vg (1+acc.length) vcap) ⟨_,_,_,rfl⟩ rfl (by simp[go_sem]) (by omega) (fX HB5.o).size ?_;intro v10 w10 r1 r2 r3;obtain⟨va10,vc10,hv10⟩:=cQ r1;have HN10:=ae (mB.new (y:=((some (OV ub uoff),r.length+1,xc),L::r)) (HM5.o.next ai) HRD.o.mss (f:=⟨blk,L,rv4,acc,false⟩) ⟨HG.o.2.1,HG.o.2.2⟩ (HR5.o.next ai) (fX HB5.o) (NL _) HRD.o.cov HRD.o.len rfl (HF5.o.below ai) r1 r2 r3);subst hv10;clear r1 r2 r3));go_roundw;case rel=>exact⟨m+1,us5,ms++[⟨blk,L,rv4,acc,false⟩],_,by omega,by go_num,⟨va10,vc10,by simp⟩,by rw[HTK.o];exact HN10.o⟩
     case measure=>simp[intOf];omega
  .have e:m=prs.length:=by omega
   subst e;go_wp2;go_ret;refine⟨.slice sa ms.length sc,av,ms.map jc,rfl,HRD.o.rows.low hBs,HBF1.o.trans (HRD.o.below.mono hBs),HFIN.o ms prs' HP'.o HRD.o.mss (λy hy L r e=>HRD.o.cov y (by rw[N5 (by rw[HLN.o];exact NL _)];exact hy) L r e) (by have h:=HRD.o.len;rw[Oo] at h;have:=HLN.o;omega)⟩
end Go.Proofs.YtjkalahhpobefaaGreat
