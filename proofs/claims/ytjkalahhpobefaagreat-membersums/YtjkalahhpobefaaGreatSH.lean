/- Vectors with leads. -/
import Derived.Test.YtjkalahhpobefaaGreatSD
import Derived.Test.YtjkalahhpobefaaGreatTB
import Derived.Test.YtjkalahhpobefaaGreatHT
import Derived.Test.YtjkalahhpobefaaGreatGE
set_option maxHeartbeats 6000000
set_option maxRecDepth 100000
namespace Go.Proofs.YtjkalahhpobefaaGreat
set_option linter.all false
open Go.Proofs.Tryz Go.RowKit Go.Sort
theorem KR{α β:Type}{zs ys:List α}(h:zs.Perm ys):∀l:List (α×β),l.map Prod.fst=ys->∃l':List (α×β),l'.Perm l/\l'.map Prod.fst=zs:=by
 induction h with
 |nil=>intro l e;exact⟨l,List.Perm.refl _,e⟩
 |cons x h ih=>
  intro l e;cases l with
  |nil=>simp at e
  |cons a l=>simp only[List.map_cons,List.cons.injEq] at e;obtain⟨l',h1,h2⟩:=ih l e.2;exact⟨a::l',h1.cons a,by rw[List.map_cons,h2,e.1]⟩
 |swap x y s=>
  intro l e
  match l,e with
  |a::b::l,e=>simp only[List.map_cons,List.cons.injEq] at e;exact⟨b::a::l,List.Perm.swap _ _ _,by simp[e.1,e.2.1,e.2.2]⟩
 |trans h k ih1 ih2=>intro l e;obtain⟨l2,h1,h2⟩:=ih2 l e;obtain⟨l3,h3,h4⟩:=ih1 l2 h2;exact⟨l3,h3.trans h1,h4⟩
variable{fs:PB}{v:PK}{w:PJ}
theorem KS(h:Fv w v fs):∃x:bM,v=dU x:=by obtain⟨a,c,e,_⟩:=h;exact⟨(a,fs.length,c),e⟩
theorem Cx:∀(us:PH) (rows:PC) (w:PJ),us.length=rows.length->(∀i,i<rows.length->Fv w (us.getD i aL) (rows.getD i []))->∃prs:List (bM×PB),prs.map (λx=>dU x.1)=us/\prs.map Prod.snd=rows/\∀x∈prs,Fv w (dU x.1) x.2
 |[],[],_,_,_=>⟨[],rfl,rfl,λx hx=>by simp at hx⟩
 |[],_::_,_,h,_=>by simp at h
 |_::_,[],_,h,_=>by simp at h
 |u::us,r::rows,w,h,hf=>by
  obtain⟨prs,h1,h2,h3⟩:=Cx us rows w (by simpa using h) λi hi=>by simpa using hf (i+1) (by simpa using hi)
  have h0:=hf 0 (by simp);simp at h0;obtain⟨x,hx⟩:=KS h0;refine⟨(x,r)::prs,by simp[h1,hx],by simp[h2],λy hy=>?_⟩;rcases OY.1 hy with rfl|hy
  .rw[<-hx];exact h0
  .exact h3 y hy
variable{rows:PC}{us:PH}{B:Nat}
theorem aM.prs(h:aM B w v us rows):∃prs:List (bM×PB),iO B w v (prs.map Prod.fst)/\prs.map Prod.snd=rows/\∀x∈prs,Fv w (dU x.1) x.2:=by
 obtain⟨prs,h1,h2,h3⟩:=Cx us rows w h.len h.fvs;refine⟨prs,⟨?_,h.kind⟩,h2,h3⟩;have e1:(prs.map Prod.fst).length=rows.length:=by rw[<-h2];simp
 have e2:(prs.map Prod.fst).map dU=us:=by rw[<-h1,List.map_map];rfl
 rw[e1,e2];exact h.own
variable{g:Nat}
theorem KT(h:cG w g):bU d8 w g:=λj u hu x e=>by obtain⟨a,n,c,e2⟩:=h j u hu;rw[e2] at e;cases e
def sM(l:List (bM×PB))(x:bM):Int:=((l.find? λy=>decide (y.1=x)).bind λy=>y.2.head?).elim 0 Ft.k
theorem Cy{l:List (bM×PB)}{x:bM}(hx:x∈l.map Prod.fst):∃y∈l,y.1=x/\sM l x=y.2.head?.elim 0 Ft.k:=by
 unfold sM;cases h:l.find? λy=>decide (y.1=x) with
 |none=>obtain⟨y,hy,e⟩:=OR.1 hx;have:=List.find?_eq_none.1 h y hy;simp[e] at this
 |some y=>exact⟨y,List.mem_of_find?_eq_some h,by simpa using List.find?_some h,rfl⟩
theorem KU(u v:PK)(s t:Ft)(ss ts:PB)(w:PJ)(hu:Fv w u (s::ss))(hv:Fv w v (t::ts)):Calls prog 186 #[u,v] w λe w'=>e=.returned (PO (bi s.k t.k))/\Io w w':=by
 obtain⟨ub,uo,uc,hu1,_,_,hf,_⟩:=hu.head;obtain⟨vb,vo,vc,hv1,_,_,hg,_⟩:=hv.head;obtain⟨f0,_⟩:=hf;obtain⟨g0,_⟩:=hg;subst hu1;subst hv1;have hl1:(0:Int)<(ss.length:Int)+1:=by omega
 have hl2:(0:Int)<(ts.length:Int)+1:=by omega
 have HC:=ae (λW=>vW s.k t.k W);clear hu hv;generalize bi s.k t.k=r at HC⊢;go_enter func186,ntmps186;go_upto_region 1 with fail;go_quiet ((go_at_call 155;exact Calls.quiet_of_same (HC.o _)));go_wp2;go_ret;exact⟨rfl,Go.Lib.below_grow _ w (Ou _) nq #[]⟩
theorem KV{prs:List (bM×PB)}(hr:iO B w v (prs.map Prod.fst))(hf:∀x∈prs,Fv w (dU x.1) x.2)(hne:∀x∈prs,x.2≠[])(hg:v.ownBlock=some g):mI w g (prs.map Prod.fst) (sM prs):=λW hW x hx y hy=>by
 have hn:∀k,k=g->bU io w k:=λk e=>by rw[e];exact kJ (hr.kind g hg)
 obtain⟨a,ha,rfl,e1⟩:=Cy hx;obtain⟨b,hb,rfl,e2⟩:=Cy hy;rw[e1,e2];have fa:=fN hW hn (hf a ha);have fb:=fN hW hn (hf b hb);have na:=hne a ha;have nb:=hne b hb;obtain⟨xa,la⟩:=a;obtain⟨xb,lb⟩:=b;cases la with
 |nil=>exact absurd rfl na
 |cons s ss=>
  cases lb with
  |nil=>exact absurd rfl nb
  |cons t ts=>exact KU _ _ s t ss ts W fa fb
variable{A:Obj}{W:PJ}
theorem fY(h:Io w W):Io w (W.alloc A):=h.alloc h.size A
theorem oy(h:Io w W):Io w W.drew:=h.drew
theorem sN(W:PJ)(t:Ft):Fv (W.alloc (.cells #[PO t.k,PP t.a,PP t.b,PP t.d,PP t.z,PQ t.pl,PQ t.c] 88)) (PM W.heap.size 1 1) [t]:=fU (dr (Ou _) t)
theorem Fv.alG(h:Fv W v fs):Fv (W.alloc A) v fs:=h.below ai
theorem Fv.drG(h:Fv W v fs):Fv W.drew v fs:=h.below (Ov _ _).drew
variable{ob:Nat}{w':PJ}{p:Int}
theorem cN.nextG{G:Ft->Prop}{sb:Nat}{rv:PK}{C:Int->Int}(h:cN p G B w sb ob rv us rows C)(hb:Io w w'):cN p G B w' sb ob rv us rows C:=⟨h.sum.next hb,h.ok,h.len,h.cn⟩
variable{n B':Nat}
theorem wP{T:TypeId}{s:Nat}{xs:PH}(h:w.ownsRow B T s v n xs)(hb:B'<=B):w.ownsRow B' T s v n xs:=by
 refine⟨h.1,?_⟩;rcases h.2 with h2|⟨g,cap,ag,e,hg,r⟩
 .exact .inl h2
 .exact .inr ⟨g,cap,ag,e,OA hb hg,r⟩
theorem aM.low(h:aM B w v us rows)(hb:B'<=B):aM B' w v us rows:=⟨h.len,wP h.own hb,h.kind,h.fvs⟩
theorem aM.put8(h:aM B w v us rows)(h8:dy w w')(k:bq w w'):aM B w' v us rows:=by
 have hs:∀g,v.ownBlock=some g->w'.heap[g]?=w.heap[g]?:=λg hg=>by obtain⟨ag,hc⟩:=cF h.own hg;exact k.2 g (O6.1 hc).1 λe=>e.2.2 ag hc
 refine⟨h.len,⟨h.own.1,?_⟩,λg hg=>bU.below (h.kind g hg) (hs g hg),λi hi=>(h.fvs i hi).fr8 h8⟩;rcases h.own.2 with h2|⟨g,cap,ag,rfl,hb,hh,r⟩
 .exact .inl h2
 .exact .inr ⟨g,cap,ag,rfl,hb,(hs g rfl).trans hh,r⟩
theorem Cz{P:Program}(w:PJ)(T ty e:TypeId)(i:TypeInfo)(z:PK)(ht:P.underlying T=some (.slice e))(hi:P.info? e=some i)(hz:i.zero=some z)(hsize:i.size=7)(hby:i.bytes=24)(hzs:z.cells.size=7)(he:e=88)(g:Nat)(t:Ft)(hs:Fv w (PM g 1 1) [t])(xa:Option Addr)(xc:Nat)(r:PB)(hx:Fv w (.slice xa r.length xc) r)(hl:r.length<=1200000000000):∃g' cap w',(Builtin.append_ #[T,T] ty #[PM g 1 1,.slice xa r.length xc]).run P w=.ok (PM g' (1+r.length) cap) w'/\Fv w' (PM g' (1+r.length) cap) (t::r)/\Io w w':=by
 subst he;by_cases hr0:0<r.length
 .obtain⟨xa2,xc2,ex,_,hxc⟩:=hx;obtain⟨xb,xoff,hxa,_,hxs⟩:=hxc hr0;simp only[OQ,true_and] at ex;obtain⟨rfl,rfl⟩:=ex;subst hxa;have hadd:∀(b o j:Nat),((PN b o):Addr).add j=(PN b (o+j)):=λb o j=>by
   by_cases h:j=0
   .subst h;simp[Addr.add]
   .simp[Addr.add,h]
  obtain⟨_,_,es,_,hsc⟩:=hs;obtain⟨sb,soff,hsa,_,hss⟩:=hsc (by simp);subst hsa;simp only[OQ,OP,Addr.mk.injEq,and_true] at es;obtain⟨⟨rfl,rfl⟩,_,_⟩:=es;have hr:=run_append_grow (P:=P) w T ty 88 i z ht hi hz (PN g 0) 1 1 (aB t) (by rw[hsize];rfl) (λj x hj=>by rw[hadd];exact hss j x (by simpa [aA] using hj)) (PN xb xoff) r.length xc (aA r) (by rw[hsize];exact fw r) (λj x hj=>by rw[hadd];exact hxs j x hj) (by omega) (by omega) (growslice_fits (by omega) (by rw[hby];omega));refine⟨_,_,_,hr,?_,(Ov _ _).drew.alloc (Ou _) _⟩;have hcap:1+r.length<=grownCap w (1+r.length) 1 88/\grownCap w (1+r.length) 1 88<=maxLen:=by unfold grownCap maxLen;simp only[Question.cut];have:=Nat.mod_lt (w.tape w.drawn (Question.appendCap (1+r.length) 1 88)) (show 0<2 ^ 63-(1+r.length) by omega);omega
  have e1:1+r.length=(t::r).length:=by simp;omega
  rw[e1] at hcap⊢;refine fU (B:=w.heap.size) ⟨by simp[fw],.inr ⟨w.heap.size,_,_,rfl,Ou _,heap_alloc_new w.drew _,hcap.1,hcap.2,?_,?_⟩⟩
  .simp[Builtin.zeroCells,hzs,fw,aB];simp at hcap;omega
  .have hlen:(aB t++aA r).length=(t::r).length*7:=by simp[fw,aB];omega
   rw[Array.toList_append,Array.toList_append,List.toList_toArray,List.toList_toArray,<-hlen,List.take_left];rfl
 .have e:r=[]:=List.eq_nil_of_length_eq_zero (by omega);subst e;refine⟨g,1,w,?_,hs,Ov _ _⟩;cases xa with
  |none=>simp[Builtin.append_,run_underlying ht,sizeOf,typeInfo,hi,Builtin.lenOf,Builtin.firstCells,storeCells,loadCells,loadCellsFrom]
  |some ad=>simp[Builtin.append_,run_underlying ht,sizeOf,typeInfo,hi,Builtin.lenOf,Builtin.firstCells,storeCells,loadCells,loadCellsFrom]
variable{r:PB}{L:Ft}{N wd:Nat}
theorem sO(h:dX p N wd n L r):kW (eA wd L) (fA wd L):=by
 have h1:=h.dg;have g:=h.vc.gd L (by simp);have:=g.a;have:=g.b;have:=g.d;unfold kW eA fA;unfold gO at*;by_cases c:L.pl<wd
 .rw[OW c,OW c];omega
 .rw[OV c,OV c];omega
variable{ra:List (List (Int×C4.Tt))}
theorem KW(hx:ch p N wd n){acc:PB}{rows2:PC}(hm:dX p N wd n L r)(hmm:bp p ra λφ=>aq φ (L::r))(hJ:LA p ra N wd n (eA wd L) (fA wd L) (λφ=>aq φ r) L.k acc none rows)(hn:Nx p rows none rows2):dX p N wd n L acc/\bp p ra λφ=>aq φ (L::acc):=by
 have hR:=sO hm;have h1:=(ph hx (by have:=hR.1;omega) (by have:=hR.2.1;omega) hJ hn).2 rfl;refine⟨⟨⟨List.pairwise_cons.2 ⟨λt ht=>(hJ.ak t ht).2.2,hJ.av.dn⟩,λt ht=>?_,λt ht=>?_⟩,hm.dg⟩,?_⟩
 .rcases OY.1 ht with rfl|ht
  .exact hm.vc.co t (by simp)
  .exact hJ.av.co t ht
 .rcases OY.1 ht with rfl|ht
  .exact hm.vc.gd t (by simp)
  .exact hJ.av.gd t ht
 .refine(hmm.add (h1.scl (-1))).congr λφ=>⟨0,?_⟩;rw[cV,cV];omega
structure pS(p:Int)(ra:List (List (Int×C4.Tt)))(N wd n:Nat)(rows rows':PC):Prop where
 ok:∀f∈rows',∃L r,f=L::r/\dX p N wd n L r/\bp p ra λφ=>aq φ (L::r)
 cov:∀f∈rows,∀L r,f=L::r->∃L' r',(L'::r')∈rows'/\cA L' L=true
 len:rows'.length<=rows.length
def jf(x:Mm):PB:=x.L::x.r
structure mJ(p:Int)(ra:List (List (Int×C4.Tt)))(N wd n:Nat)(B B1:Nat)(w1 wr:PJ)(mb ob R g:Nat)(dv:PK)(us:PH)(ms:PD)(sv:PK)(av:PH)(done:List (bM×PB)):Prop where
 mkg:bh p B1 wr mb ob R g dv (.slice none 0 0) us ms []
 mss:jQ p ra N wd n ms
 rows:aM B wr sv av (ms.map jf)
 below:Io w1 wr
 cov:∀y∈done,∀L r,y.2=L::r->∃x∈ms,cA x.L L=true
 len:ms.length<=done.length
variable{y:bM×PB}{done:List (bM×PB)}{av:PH}{sv dv:PK}{ms:PD}{mb R B1:Nat}{w1:PJ}
theorem mJ.skip{wr w2:PJ}(h:mJ p ra N wd n B B1 w1 wr mb ob R g dv us ms sv av done)(hb:Io wr w2){x:Mm}(hy:y.2=L::r)(hf:eP ms L=some x):mJ p ra N wd n B B1 w1 w2 mb ob R g dv us ms sv av (done++[y]):=by
 refine⟨h.mkg.next hb,h.mss,h.rows.next hb,In h.below hb,λz hz L2 r2 e=>?_,by have:=h.len;simp;omega⟩;rcases OK.1 hz with hz|hz
 .exact h.cov z hz L2 r2 e
 .rw[OL] at hz;subst hz;rw[hy] at e;simp only[List.cons.injEq] at e;refine⟨x,(O5.1 (List.mem_of_find?_eq_some hf)).1,?_⟩;have hgo:=List.find?_some hf;unfold eQ at hgo;simp only[Bool.and_eq_true] at hgo;rw[<-e.1];exact hgo.2
theorem KX(L:Ft):cA L L=true:=by unfold cA eN;simp
theorem mJ.new{w5 w10:PJ}{sv2 u:PK}{f:Mm}(hm:bh p B1 w5 mb ob R g dv (.slice none 0 0) us (ms++[f]) [])(hms:jQ p ra N wd n ms)(hfm:dX p N wd n f.L f.r/\bp p ra λφ=>aq φ (f.L::f.r))(hr:aM B w5 sv av (ms.map jf))(hb5:Io w1 w5)(hB:w1.heap.size<=B)(hcov:∀y∈done,∀L r,y.2=L::r->∃x∈ms,cA x.L L=true)(hln:ms.length<=done.length)(hy:y.2=f.L::r)(hfu:Fv w5 u (jf f))(ho:w10.ownsRow B 79 1 sv2 (ms.length+1) (av++[u]))(hg:w5.grownBy w10 sv.ownBlock)(hk:∀g,sv2.ownBlock=some g->cG w10 g):mJ p ra N wd n B B1 w1 w10 mb ob R g dv us (ms++[f]) sv2 (av++[u]) (done++[y]):=by
 have hfr:aj (λk=>sv.ownBlock=some k) w5 w10:=aj.of_grown hg λg e=>e;refine⟨hm.frmS hfr (λk hk=>KT (hr.kind k hk)) (λk hk=>⟨bj hr.own hk (by decide),bj hr.own hk (by decide),bj hr.own hk (by decide)⟩) (λk hk=>by simp[Value.ownBlock] at hk),λx hx=>?_,?_,hb5.trans (hfr.to_below hb5.size λk hk=>OA hB (Ot hr.own k hk).1),λz hz L2 r2 e=>?_,by simp;omega⟩
 .rcases OK.1 hx with hx|hx
  .exact hms x hx
  .rw[OL] at hx;rw[hx];exact hfm
 .rw[O0];exact hr.add hfu (by simpa using ho) hg hk
 .rcases OK.1 hz with hz|hz
  .obtain⟨x,hx,h2⟩:=hcov z hz L2 r2 e;exact⟨x,List.mem_append_left _ hx,h2⟩
  .rw[OL] at hz;subst hz;rw[hy] at e;simp only[List.cons.injEq] at e;exact⟨f,by simp,by rw[<-e.1];exact KX _⟩
def pT(N wd n:Nat)(L:Ft)(u:Ft):Prop:=bk N wd n (eA wd L) (fA wd L) u/\u.k<L.k
theorem KY(p:Int)(N wd n:Nat)(hx:ch p N wd n)(L:Ft)(r:PB)(hm:dX p N wd n L r)(ob vb:Nat)(sv tv:PK)(W:PJ)(hob:aQ W ob p (am 1 N N 0) (am 1 N N 1) (am 1 N N 2) sv)(hv:W.cell? (PN vb 0)=some tv)(hf:Fv W tv r):Calls prog 85 #[PL ob,PM vb 1 1] W λe w'=>∃rv us rows,e=.returned (PL W.heap.size)/\cN p (pT N wd n L) W.heap.size w' W.heap.size ob rv us rows (λk=>ao k r)/\Io W w':=by
 have hR:=sO hm;refine(uS ob vb 0 1 p _ _ _ (pT N wd n L) sv tv r W hob (dY hx.pr) hv hf ⟨λx hx=>?_,λx hx u hu=>?_,λx hx u hu=>?_⟩ (λx t ha hg=>⟨bk.alk x t ha hg.1,by rw[ha.1];exact hg.2⟩) λf hd hg=>jR hx (by have:=hR.1;omega) (by have:=hR.2.1;omega) f hd λt ht=>(hg t ht).1).mono ?_
 .rw[OL] at hx;subst hx;exact hm.vc.dn.tail
 .rw[OL] at hx;subst hx;exact hm.vc.co u (by simp[hu])
 .rw[OL] at hx;subst hx;exact⟨hm.vc.gd u (by simp[hu]),hm.vc.dn.head u hu⟩
 .rintro e w' ⟨rfl,rv,us,rows,q1,q2⟩;exact⟨rv,us,rows,rfl,q1,q2⟩
theorem KZ(p:Int)(ra:List (List (Int×C4.Tt)))(N wd n R:Nat)(hRn:R=wd+n)(hx:ch p N wd n)(L:Ft)(r:PB)(hm:dX p N wd n L r)(hmm:bp p ra λφ=>aq φ (L::r))(ms:PD)(hms:jQ p ra N wd n ms)(hl:ms.length<=2100000)(W0 W:PJ)(ob mb:Nat)(sv rv:PK)(us:PH)(rows:PC)(hmr:j6 p W0 mb R ms)(hob:aQ W0 ob p (am 1 N N 0) (am 1 N N 1) (am 1 N N 2) sv)(hb:Io W0 W)(hs:cN p (pT N wd n L) W0.heap.size W W0.heap.size ob rv us rows (λk=>ao k r))(y:PK)(yf:PB)(hy:Fv W y yf)(hyc:∀s∈yf,0<s.c):Calls prog 145 #[PL mb,PL W0.heap.size] W λe w'=>Io W0 w'/\∃u acc,e=.returned u/\Fv w' u acc/\Fv w' y yf/\acc.length<=1200000000000/\dX p N wd n L acc/\bp p ra λφ=>aq φ (L::acc):=by
 subst hRn;have hR:=sO hm;have hE:eA wd L<=9700:=by have:=hR.1;omega
 have hF:fA wd L<=9700:=by have:=hR.2.1;omega
 have hvr:cM p N wd n (eA wd L) (fA wd L) r:=⟨hm.vc.dn.tail,λt ht=>hm.vc.co t (by simp[ht]),λt ht=>hm.vc.gd t (by simp[ht])⟩;refine(uP p _ _ _ (wd+n) (bk N wd n (eA wd L) (fA wd L)) ms _ _ W0.heap.size W0 ob mb W0.heap.size sv rv us rows W (zR hx hms hl hR) (FT hx hms hR (X:=λφ=>aq φ r) (K:=L.k) λ_ _=>true) (λt rows acc h=>uD hx hR h.1) hmr hob rfl hb hb.size hs.sum ⟨hs.ok.dn,hs.ok.co,λf hf u hu=>(hs.ok.gd f hf u hu).1⟩ hs.len ⟨zS hx hE hF hvr hs.ok hs.cn,λt ht=>by simp at ht⟩ (λf hf u hu=>?_) y yf hy hyc).mono ?_
 .have:=((hs.ok.gd f hf u hu).1.kb hx hE hF).2;omega
 .rintro e w' ⟨h1,u,acc,rfl,h2,_,h3,rows,rows2,h4,h5,h6⟩;have h7:=KW hx hm hmm h4.1 h6;exact⟨h1,u,acc,rfl,fU h2,h3,uD hx hR h4.1,h7.1,h7.2⟩
theorem K2(p:Int)(ra:List (List (Int×C4.Tt)))(N wd n R:Nat)(hx:ch p N wd n)(hR:R=wd+n)(B ob:Nat)(sv v:PK)(us:PH)(rows:PC)(w:PJ)(hob:aQ w ob p (am 1 N N 0) (am 1 N N 1) (am 1 N N 2) sv)(hoB:ob<B)(hB:B<=w.heap.size)(hr:aM B w v us rows)(hok:∀f∈rows,∃L r,f=L::r/\dX p N wd n L r/\bp p ra λφ=>aq φ (L::r))(hl:rows.length<=2100000):Calls prog 148 #[PL ob,PO R,v] w λe w'=>∃v' us' rows',e=.returned v'/\aM B w' v' us' rows'/\Below B w w'/\pS p ra N wd n rows rows':=by
 obtain⟨prs,hrs,hsnd,hfv⟩:=hr.prs;have hR7:R<=7:=by have:=hx.hw;have:=hx.hn;omega
 have hmk:=fun(W:PJ)=>run_make_row' (P:=prog) 45 3 (PO 0) 8 underlying45 Tryz.infoIntB rfl .i64 .i64 R (by omega) (by omega) W;have hpl:prs.length=rows.length:=by rw[<-hsnd];simp
 have hne:∀x∈prs,∃L r,x.2=L::r/\dX p N wd n L r/\bp p ra λφ=>aq φ (L::r):=λx hx=>hok x.2 (by rw[<-hsnd];exact List.mem_map_of_mem hx);have HSO:=ae (KQ B v (prs.map Prod.fst) w (sM prs) (λg hg=>KV hrs hfv (λx hx e=>by obtain⟨L,r,e2,_⟩:=hne x hx;rw[e2] at e;simp at e) hg) hrs (by simp;omega));have HFIN:Po (∀ms:PD,∀prs':List (bM×PB),prs'.Perm prs->jQ p ra N wd n ms->(∀y∈prs',∀L r,y.2=L::r->∃x∈ms,cA x.L L=true)->ms.length<=prs'.length->pS p ra N wd n rows (ms.map jf)):=λms prs' hp h1 h2 h3=>by
  refine⟨λf hf=>?_,λf hf L r e=>?_,?_⟩
  .obtain⟨x,hx,rfl⟩:=OR.1 hf;exact⟨x.L,x.r,rfl,(h1 x hx).1,(h1 x hx).2⟩
  .rw[<-hsnd] at hf;obtain⟨y,hy,rfl⟩:=OR.1 hf;obtain⟨x,hx,h⟩:=h2 y (hp.symm.mem_iff.1 hy) L r e;exact⟨x.L,x.r,List.mem_map_of_mem (f:=jf) hx,h⟩
  .rw[OS,<-hpl,<-hp.length_eq];exact h3
 have HNE:=ae hne;have HFV:=ae hfv;have HRS:=ae hrs;have HOB:=ae hob;have HNM:=ae (fun(b:Nat)(W:PJ)=>wC p ob R b 0 R W (by omega));have hpl2:prs.length<=2100000:=by omega
 obtain⟨va,vc,hv⟩:=cl hrs.own;rw[OS] at hv;subst hv;have HHR:Po (R=wd+n):=hR;have HHX:=ae hx;clear hr hsnd hfv hne hrs hob hok hpl hR hx;go_enter func148,ntmps148;go_wp2_with (first|(go_at_call 185;refine HSO.o.mono ?_;rintro e w1 ⟨rfl,zs',q1,q2,q3⟩;have HZ1:=ae q1;have HR1:=ae q2;have HF1:=ae q3;clear q1 q2 q3)|(go_at_call 41;refine(HNM.o _ _).mono ?_;rintro e w2 ⟨mb,mg,us2,rfl,q1,q2⟩;have HM2:=ae q1;have HS2:=ae q2.size;have HB2:=ae (ai.trans (q2.mono (by simp)));clear q1 q2));obtain⟨prs',hp',hz'⟩:=KR HZ1.o prs rfl;subst hz';have HP':=ae hp';have HLN:Po (prs'.length=prs.length):=hp'.length_eq;have HBF1:Po (Below B w w1):=HF1.o.to_below hB λk hk=>(Ot HRS.o.own k hk).1;have HOB1:Po (aQ w1 ob p (am 1 N N 0) (am 1 N N 1) (am 1 N N 2) sv):=⟨Oz HOB.o.lt HF1.o.size,(HBF1.o.cell (p:=(PN ob 0)) hoB).trans HOB.o.c0,(HBF1.o.cell (p:=(PN ob 1)) hoB).trans HOB.o.c1,(HBF1.o.cell (p:=(PN ob 2)) hoB).trans HOB.o.c2,(HBF1.o.cell (p:=(PN ob 3)) hoB).trans HOB.o.c3,(HBF1.o.cell (p:=(PN ob 4)) hoB).trans HOB.o.c4⟩;have HFV1:Po (∀y∈prs',Fv w1 (dU y.1) y.2):=λy hy=>fN HF1.o (λk hk=>kJ (HRS.o.kind k hk)) (HFV.o y (HP'.o.mem_iff.1 hy));have HNE1:Po (∀y∈prs',∃L r,y.2=L::r/\dX p N wd n L r/\bp p ra λφ=>aq φ (L::r)):=λy hy=>HNE.o y (HP'.o.mem_iff.1 hy);have hBs:B<=w1.heap.size:=OA hB HF1.o.size;obtain⟨B1,hB1⟩:∃B1,B1=(w1.alloc (.cells (madeCells #[PO 0] R) 3)).heap.size:=⟨_,rfl⟩;have HB1:Po (w1.heap.size<=B1/\B1<=w2.heap.size):=⟨by rw[hB1];simp,by rw[hB1];exact HS2.o⟩;have HM2':Po (bh p B1 w2 mb ob R mg (PM w1.heap.size R R) (.slice none 0 0) us2 [] []):=by rw[hB1];exact HM2.o
 have HR2:Po (w1.ownsRow B 79 1 (.slice va prs.length vc) prs.length ((prs'.map Prod.fst).map dU)):=by have h:=HR1.o.own;rw[OS,HLN.o] at h;exact h
 clear hp' hB1 HM2 HSO HNM HRS HFV HNE HOB hmk;generalize (PM w1.heap.size R R:PK)=dv at HM2';go_loopw [8,19] (λs8 s19 wr=>∃(m:Nat)(us3:PH)(ms:PD)(av:PH),m<=prs.length/\s19=PO m/\(∃a c,s8=.slice a ms.length c)/\mJ p ra N wd n w1.heap.size B1 w1 wr mb ob R mg dv us3 ms s8 av (prs'.take m)) (λ_ s19 _=>prs.length-(intOf s19).toNat);case atStart=>exact⟨0,us2,[],[],OB _,rfl,⟨none,0,rfl⟩,HM2'.o,λx hx=>by simp at hx,aM.nil _ _,HB2.o,λy hy=>by simp at hy,by simp⟩
 case round=>
  rename PJ=>wr;obtain⟨m,us3,ms,av,hm,rfl,⟨sa,sc,rfl⟩,hrd⟩:=hrel;have HRD:=ae hrd;clear hrd;by_cases hm2:m<prs.length
  .have hmI:(m:Int)<(prs.length:Int):=by omega
   have hm3:m<prs'.length:=by rw[HLN.o];exact hm2
   have HTK:Po (prs'.take (m+1)=prs'.take m++[prs'[m]]):=by show _=_;rw[List.take_add_one,OI hm3];rfl
   have hmsl:ms.length<=2100000:=by have h1:=HRD.o.len;rw[O7] at h1;omega
   have hmem:=OE hm3;obtain⟨cb,rfl,_,_,hcc⟩:=rd HR2.o m hm2;rw[List.getElem?_map,List.getElem?_map,OI hm3] at hcc;simp only[Option.map_some] at hcc;have hfy:=HFV1.o _ hmem;have hny:=HNE1.o _ hmem;generalize prs'[m]=y at hcc hfy hny HTK;clear hm3 hmem;obtain⟨⟨xa,xn,xc⟩,fs⟩:=y;obtain⟨L,r,hy2,hmb,haf⟩:=hny;simp only at hy2;subst hy2;have HMB:=ae hmb;have HAF:=ae haf;simp only[dU] at hcc hfy;obtain⟨ub,uoff,uc,hu,huc,hult,hft,ht1,ht2⟩:=hfy.head;simp only[OQ] at hu;obtain⟨rfl,rfl,rfl⟩:=hu;obtain⟨A,hA,hplA⟩:=Fv.tail ⟨ht1,ht2⟩;have HFT:Po (∀W,Io w1 W->cu W ub uoff L/\Fv W (.slice (some A) r.length (xc-1)) r):=λW hb=>⟨hft.keep hb,hplA.below hb⟩;have z0:=af hcc HRD.o.below;have hgl:=HMB.o.vc.gd L (by simp);have HLC:Po (0<=L.pl/\L.pl<R/\0<L.c/\L.c<p):=⟨hgl.pl0,by have:=hgl.pl;have:=HHR.o;omega,(HMB.o.vc.co L (by simp)).1,(HMB.o.vc.co L (by simp)).2⟩;have hle:(1:Int)<=(r.length:Int)+1:=by omega
   clear hmb haf hfy hft ht1 ht2 hplA hgl hcc;obtain⟨f0,f1,f2,f3,f4,f5,f6⟩:=(HFT.o wr HRD.o.below).1;have HFD:=ae (BW p mb R ms L wr HRD.o.mkg.mrw hmsl HLC.o.1 HLC.o.2.1);unfold aX at HFD;cases hfm:eP ms L with
   |some x=>
    have hfn:ot (some x)=PL x.blk:=rfl;rw[hfm,hfn] at HFD;have HFM:=ae hfm;clear hfm;go_wp2_with (go_at_call 88;refine HFD.o.mono ?_;rintro e w3 ⟨rfl,q1⟩;have HB3:=ae q1;clear q1);go_roundw;case rel=>exact⟨m+1,us3,ms,av,by omega,by go_num,⟨sa,sc,rfl⟩,by rw[HTK.o];exact HRD.o.skip HB3.o rfl HFM.o⟩
    case measure=>simp[intOf];omega
   |none=>
    have hfn:ot none=.pointer none:=rfl;rw[hfm,hfn] at HFD;clear hfm;go_upto_region 8 with (go_at_call 88;refine HFD.o.mono ?_;rintro e w3 ⟨rfl,q1⟩;have HBR3:=ae q1;have HB3:=ae (In HRD.o.below q1);clear q1);have hle3:w1.heap.size<=w3.heap.size:=HB3.o.size;have HNS:Po (∀(W:PJ)(vb:Nat)(y:PK)(yf:PB),Io w3 W->W.cell? (PN vb 0)=some (.slice (some A) r.length (xc-1))->Fv W y yf->Calls prog 85 #[PL ob,PM vb 1 1] W λe w'=>∃W0 rv us rows,e=.returned (PL W0.heap.size)/\Io w3 W0/\cN p (pT N wd n L) W0.heap.size w' W0.heap.size ob rv us rows (λk=>ao k r)/\Io W0 w'/\Io w3 w'/\Fv w' y yf):=λW vb y yf hb hv hy=>by have hbw:Io w1 W:=In HB3.o hb;refine(KY p N wd n HHX.o L r HMB.o ob vb sv _ W (HOB1.o.below hbw) hv (HFT.o W hbw).2).mono ?_;rintro e w' ⟨rv,us,rows,rfl,q1,q2⟩;exact⟨W,rv,us,rows,rfl,hb,q1,q2,In hb q2,hy.below q2⟩
    have HLF:Po (∀(W0 W:PJ) rv us rows y yf,Io w3 W0->Io W0 W->cN p (pT N wd n L) W0.heap.size W W0.heap.size ob rv us rows (λk=>ao k r)->Fv W y yf->(∀s∈yf,0<s.c)->Calls prog 145 #[PL mb,PL W0.heap.size] W λe w'=>Io w3 w'/\∃u acc,e=.returned u/\Fv w' u acc/\Fv w' y yf/\Po (acc.length<=1200000000000/\dX p N wd n L acc/\bp p ra λφ=>aq φ (L::acc))):=λW0 W rv us rows y yf h1' h2' h3' hy hyc=>by have hbw:Io wr W0:=In HBR3.o h1';refine(KZ p ra N wd n R HHR.o HHX.o L r HMB.o HAF.o ms HRD.o.mss hmsl W0 W ob mb sv rv us rows (HRD.o.mkg.mrw.below hbw) (HOB1.o.below (In HRD.o.below hbw)) h2' h3' y yf hy hyc).mono ?_;rintro e w' ⟨q1,u,acc,rfl,q2,q3,q4⟩;exact⟨In h1' q1,u,acc,rfl,q2,q3,q4⟩
    obtain⟨i0,hi,hz0,hz1,hz2⟩:=info_parts Tryz.infoFt;have HI:=ae (Ow hi (Ow hz0 (Ow hz1 hz2)));have HTC:=HLC.o.2.2.1;clear hi hz0 hz1 hz2 f0 f1 f2 f3 f4 f5 f6 z0;obtain⟨f0,f1,f2,f3,f4,f5,f6⟩:=(HFT.o w3 HB3.o).1;have hult3:ub<w3.heap.size:=by omega
    go_cut [10] from 29 to 40 (λs10 wx=>∃g cap acc,s10=PM g (1+acc.length) cap/\Fv wx (PM g (1+acc.length) cap) (L::acc)/\Po (acc.length<=1200000000000/\dX p N wd n L acc/\bp p ra λφ=>aq φ (L::acc))/\Io w3 wx)
    case first=>
     clear HRD HFIN HFD HOB1 HFV1 HNE1 HR1 HR2 HTK HF1 HZ1 HP';go_region_law (first|((with_reducible show ite _ (Oper.wp _ _ _ w9 _ _) _);obtain⟨g6,cap6,w6,h1',h2',h3'⟩:=Cz (P:=prog) w9 79 79 88 i0 _ underlying79 HI.o.1 HI.o.2.1 HI.o.2.2.1 HI.o.2.2.2 rfl rfl _ L HY9.o _ _ acc HU9.o HG9.o.1;refine rM rfl (.tmp 32) (.tmp 39) 79 79 rfl rfl _ _ _ ?_ ?_ h1' ?_;(focus (simp[Act.eval,Act.put];done));(focus (simp[Act.eval,Act.put];done));have HF6:=ae h2';have HB6:=ae (In HB9.o h3');clear h1' h2' h3')|((with_reducible show ite _ (Oper.wp _ _ _ (w9.alloc _) _ _) _);obtain⟨g6,cap6,w6,h1',h2',h3'⟩:=Cz (P:=prog) (w9.alloc (.cells #[PO L.k,PP L.a,PP L.b,PP L.d,PP L.z,PQ L.pl,PQ L.c] 88)) 79 79 88 i0 _ underlying79 HI.o.1 HI.o.2.1 HI.o.2.2.1 HI.o.2.2.2 rfl rfl _ L (sN w9 L) _ _ acc (HU9.o.below ai) HG9.o.1;refine rM rfl (.tmp 32) (.tmp 39) 79 79 rfl rfl _ _ _ ?_ ?_ h1' ?_;(focus (simp[Act.eval,Act.put];done));(focus (simp[Act.eval,Act.put];done));have HF6:=ae h2';have HB6:=ae ((fY HB9.o).trans (h3'.mono (fY HB9.o).size));clear h1' h2' h3')|(go_simp;refine(HNS.o _ _ (PM w3.heap.size 1 1) [L] ?_ ?_ ?_).mono ?_;(focus ((repeat (first|with_reducible exact Ov _ _|with_reducible refine oy ?_|with_reducible refine fY ?_));done));(focus (simp[go_sem];done));(focus ((repeat (first|with_reducible exact sN _ _|with_reducible refine Fv.drG ?_|with_reducible refine Fv.alG ?_));done));rintro e w8 ⟨W0,rv8,us8,rows8,rfl,q1,q2,q3,q4,q5⟩;have HW0:=ae q1;have HS8:=ae q2;have HB8:=ae q3;have HBB8:=ae q4;have HY8:=ae q5;clear q1 q2 q3 q4 q5;obtain⟨g0,g1,g2,g3,g4,g5,g6⟩:=(HFT.o w8 (In HB3.o HBB8.o)).1;have hult8:ub<w8.heap.size:=Oz hult3 HBB8.o.size;dsimp only)|(go_simp;refine(HNS.o _ _ (.slice (some ⟨(w3.alloc (.cells #[.slice (some A) r.length (xc-1)] 79)).heap.size,0,none⟩) 1 1) [L] ?_ ?_ ?_).mono ?_;(focus ((repeat (first|with_reducible exact Ov _ _|with_reducible refine oy ?_|with_reducible refine fY ?_));done));(focus (simp[go_sem];done));(focus ((repeat (first|with_reducible exact sN _ _|with_reducible refine Fv.drG ?_|with_reducible refine Fv.alG ?_));done));rintro e w8 ⟨W0,rv8,us8,rows8,rfl,q1,q2,q3,q4,q5⟩;have HW0:=ae q1;have HS8:=ae q2;have HB8:=ae q3;have HBB8:=ae q4;simp only[World.alloc,Array.size_push] at q5;have HY8:=ae q5;clear q1 q2 q3 q4 q5;obtain⟨g0,g1,g2,g3,g4,g5,g6⟩:=(HFT.o w8 (In HB3.o HBB8.o)).1;have hult8:ub<w8.heap.size:=Oz hult3 HBB8.o.size;dsimp only)|(go_simp;refine(HNS.o _ _ (.slice none 0 0) [] ?_ ?_ ?_).mono ?_;(focus ((repeat (first|with_reducible exact Ov _ _|with_reducible refine oy ?_|with_reducible refine fY ?_));done));(focus (simp[go_sem];done));(focus (exact mo _ _;done));rintro e w8 ⟨W0,rv8,us8,rows8,rfl,q1,q2,q3,q4,q5⟩;have HW0:=ae q1;have HS8:=ae q2;have HB8:=ae q3;have HBB8:=ae q4;skip;clear q1 q2 q3 q4 q5;obtain⟨g0,g1,g2,g3,g4,g5,g6⟩:=(HFT.o w8 (In HB3.o HBB8.o)).1;have hult8:ub<w8.heap.size:=Oz hult3 HBB8.o.size;dsimp only)|(go_simp;(with_reducible show Calls _ _ _ w8 _);refine(HLF.o W0 w8 rv8 us8 rows8 _ [L] HW0.o HB8.o HS8.o HY8.o ?_).mono ?_;(focus (intro s hs;simp at hs;subst hs;exact HTC));rintro e w9 ⟨q1,u9,acc,rfl,q2,q3,HG9⟩;have HB9:=ae q1;have HU9:=ae q2;have HY9:=ae q3;clear q1 q2 q3;obtain⟨g0,g1,g2,g3,g4,g5,g6⟩:=(HFT.o w9 (In HB3.o HB9.o)).1;have hult9:ub<w9.heap.size:=Oz hult3 HB9.o.size;obtain⟨u9a,u9c,hu9,_⟩:=HU9.o;subst hu9;dsimp only)|(go_simp;(with_reducible show Calls _ _ _ (w8.alloc _) _);refine(HLF.o W0 (w8.alloc (.cells #[PO L.k,PP L.a,PP L.b,PP L.d,PP L.z,PQ L.pl,PQ L.c] 88)) rv8 us8 rows8 (PM w8.heap.size 1 1) [L] HW0.o (fY HB8.o) (HS8.o.nextG ai) (sN w8 L) ?_).mono ?_;(focus (intro s hs;simp at hs;subst hs;exact HTC));rintro e w9 ⟨q1,u9,acc,rfl,q2,q3,HG9⟩;have HB9:=ae q1;have HU9:=ae q2;have HY9:=ae q3;clear q1 q2 q3;obtain⟨g0,g1,g2,g3,g4,g5,g6⟩:=(HFT.o w9 (In HB3.o HB9.o)).1;have hult9:ub<w9.heap.size:=Oz hult3 HB9.o.size;obtain⟨u9a,u9c,hu9,_⟩:=HU9.o;subst hu9;dsimp only)|(go_simp;(with_reducible show Calls _ _ _ w8 _);refine(HLF.o W0 w8 rv8 us8 rows8 (.slice none 0 0) [] HW0.o HB8.o HS8.o (mo _ _) ?_).mono ?_;(focus (intro s hs;simp at hs));rintro e w9 ⟨q1,u9,acc,rfl,q2,q3,HG9⟩;have HB9:=ae q1;have HU9:=ae q2;have HY9:=ae q3;clear q1 q2 q3;obtain⟨g0,g1,g2,g3,g4,g5,g6⟩:=(HFT.o w9 (In HB3.o HB9.o)).1;have hult9:ub<w9.heap.size:=Oz hult3 HB9.o.size;obtain⟨u9a,u9c,hu9,_⟩:=HU9.o;subst hu9;dsimp only));all_goals
      go_wp2_with fail;go_meet;case rel=>exact⟨_,cap6,acc,rfl,HF6.o,HG9,HB6.o⟩
    case rest=>
     obtain⟨vg,vcap,acc,rfl,hfx,HG,hbx⟩:=hcut;rename PJ=>wx;have HFX:=ae hfx;have HRX:Po (Io wr wx):=In HBR3.o hbx;have HBX:Po (Io w1 wx):=In HB3.o hbx;clear hfx hbx f0 f1 f2 f3 f4 f5 f6 HNS HLF HFD;have HMX:=ae (HRD.o.mkg.next HRX.o);have HBB:Po (B1<=wx.heap.size/\w1.heap.size<=B1):=⟨by have h:=HMX.o.box;have h2:=Ot h mb rfl;omega,HB1.o.1⟩;have HNB:=ae (rG B1 mb ob p _ _ _ sv (PM vg (1+acc.length) vcap) L acc wx HBB.o.1 HMX.o.cells.1 (HOB1.o.below HBX.o) HHX.o.pr HLC.o.2.2 HFX.o);have HPU:Po (∀(W:PJ)(f:Mm),f.L=L->b9 p B1 W f->wx.heap.size<=f.blk->Io wx W->Calls prog 43 #[PL mb,PL f.blk] W λe w'=>e=.returned (.tuple #[])/\∃us',bh p B1 w' mb ob R mg dv (.slice none 0 0) us' (ms++[f]) []/\Below B1 W w'/\dy W w'/\bq W w'):=λW f hfl hfw hfb hb=>by exact G4 p B1 W mb ob R mg _ _ us3 ms [] f (HMX.o.next hb) hfw (λx hx e=>by have:=(HMX.o.mks.mem x hx).lt.2;omega) (OA HBB.o.1 hb.size) (by rw[hfl];exact⟨HLC.o.1,HLC.o.2.1⟩) hmsl (by omega)
     obtain⟨i1,hi,hz0,hz1,hz2⟩:=info_parts Tryz.infoFvL;have HIV:=ae (Ow hi (Ow hz0 (Ow hz1 hz2)));clear hi hz0 hz1 hz2;have HRW:=ae HRD.o.rows;go_wp2_with (first|(go_at_call 44;refine HNB.o.mono ?_;rintro e w4 ⟨blk,rv4,rfl,q1,q2,q3⟩;have HPU4:=ae (HPU.o w4 _ rfl q1 q2 q3);have HB4:=ae q3;have HF4:=ae (HFX.o.below q3);have HR4:=ae ((HRW.o.next HRX.o).next q3);clear q1 q2 q3)|(go_at_call 43;refine HPU4.o.mono ?_;rintro e w5 ⟨rfl,us5,q1,q2,q3,q4⟩;have HM5:=ae q1;have HF5:=ae (HF4.o.fr8 q3);have HR5:=ae (HR4.o.put8 q3 q4);have HB5:=ae ((In HBX.o HB4.o).trans (q2.mono HBB.o.2));clear q1 q2 q3 q4)|(at_builtin;refine pU rfl (.tmp 46) (.tmp 48) 76 rfl w1.heap.size 79 i1 underlying76 HIV.o.1 HIV.o.2.1 HIV.o.2.2.1 HIV.o.2.2.2 _ ms.length av rfl (by have h:=(HR5.o.next (ai (A:=.cells #[PM vg (1+acc.length) vcap] 79))).own;rw[OS] at h;exact h) (HR5.o.next ai).kind (PN w5.heap.size 0) 1 (PM vg (1+acc.length) vcap) ⟨_,_,_,rfl⟩ rfl (by simp[go_sem]) (by omega) (fY HB5.o).size ?_;intro v10 w10 r1 r2 r3;obtain⟨va10,vc10,hv10⟩:=cE r1;have HN10:=ae (mJ.new (y:=((some (PN ub uoff),r.length+1,xc),L::r)) (HM5.o.next ai) HRD.o.mss (f:=⟨blk,L,rv4,acc,false⟩) ⟨HG.o.2.1,HG.o.2.2⟩ (HR5.o.next ai) (fY HB5.o) (Ou _) HRD.o.cov HRD.o.len rfl (HF5.o.below ai) r1 r2 r3);subst hv10;clear r1 r2 r3));go_roundw;case rel=>exact⟨m+1,us5,ms++[⟨blk,L,rv4,acc,false⟩],_,by omega,by go_num,⟨va10,vc10,by simp⟩,by rw[HTK.o];exact HN10.o⟩
     case measure=>simp[intOf];omega
  .have e:m=prs.length:=by omega
   subst e;go_wp2;go_ret;refine⟨.slice sa ms.length sc,av,ms.map jf,rfl,HRD.o.rows.low hBs,HBF1.o.trans (HRD.o.below.mono hBs),HFIN.o ms prs' HP'.o HRD.o.mss (λy hy L r e=>HRD.o.cov y (by rw[OO (by rw[HLN.o];exact Ou _)];exact hy) L r e) (by have h:=HRD.o.len;rw[O7] at h;have:=HLN.o;omega)⟩
end Go.Proofs.YtjkalahhpobefaaGreat
