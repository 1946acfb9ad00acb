/- bare.Product. -/
import Derived.Test.YtjkalahhpobefaaGreatPI
import Derived.Deep.CutBlock
import Derived.Deep.RegionHeldLaw
set_option maxHeartbeats 2000000
set_option maxRecDepth 100000
namespace Go.Proofs.YtjkalahhpobefaaGreat
set_option linter.all false
open Go.Proofs.Tryz Go.RowKit
def i9(ts:Lt):Prop:=∀t∈ts,∀x∈t.2,0<=x/\x<=20000
variable{ts:Lt}
theorem i9.bd(h:i9 ts):Bd ts:=λt ht x hx=>by have:=h t ht x hx;omega
theorem mv(ts:Lt)(k:Nat)(h:k<ts.length):ts.getD k bH∈ts:=by rw[NY,NZ h];simp
theorem vU:∀(a b:OP),(∀x∈a,0<=x/\x<=20000)->(∀x∈b,0<=x/\x<=20000)->∀x∈aP (·+·) a b,0<=x/\x<=40000
 |[],_,_,_,x,hx=>by simp[aP] at hx
 |_::_,[],_,_,x,hx=>by simp[aP] at hx
 |a::ar,b::br,ha,hb,x,hx=>by
  simp only[aP,Og] at hx;rcases hx with rfl|hx
  .have:=ha a (by simp);have:=hb b (by simp);omega
  .exact vU ar br (λy hy=>ha y (by simp[hy])) (λy hy=>hb y (by simp[hy])) x hx
variable{gs:Lt}{p:Int}
theorem Jv{t:Tm}(ht:∀x∈t.2,0<=x/\x<=20000)(hg:i9 gs):Bd (cG p t gs):=by intro u hu;simp only[cG,N9] at hu;obtain⟨g,hgm,rfl⟩:=hu;exact vU _ _ ht (hg g hgm)
theorem Jw(p n o v:Int)(N i rb fb gb:Nat)(fv gv:OR)(fs gs:Lt)(w:OQ)(hp:2<=p/\p<=101)(hN0:0<N)(hN:N<=3)(hf:cq p o N fs)(hg:cq p o N gs)(bf:i9 fs)(bg:i9 gs)(hm:gs.length<=1200000000000)(hi:i<fs.length)(hbx:bA w rb p n o v)(hcf:w.cell? (OV fb 0)=some fv)(hcg:w.cell? (OV gb 0)=some gv)(pf:Pl w fv fs)(pg:Pl w gv gs):Calls prog 129 #[OW i,OS rb,OS fb,OS gb] w λe w'=>∃u,e=.returned u/\Pl w' u (cG p (fs.getD i bH) gs)/\LT w w':=by
 have HPG:=ae pg;obtain⟨fa,fc,rfl,_,hfc⟩:=pf;obtain⟨ga,gc,rfl,_,_⟩:=pg;obtain⟨b,off,rfl,hlt,hat⟩:=hfc (by omega);obtain⟨c0,ev,c1,hse⟩:=hat i hi;obtain⟨bx,bx0,bx1,bx2,bx3⟩:=hbx;have HT:=ae (NN (hf.coef _ (mv fs i hi)) (NN (hf.len _ (mv fs i hi)) (bf _ (mv fs i hi))));have HG:OE (∀t∈gs,t.2.length=N/\(∀x∈t.2,0<=x/\x<=20000)/\0<=t.1/\t.1<p):=λt ht=>⟨hg.len t ht,bg t ht,by have:=hg.coef t ht;omega,(hg.coef t ht).2⟩;generalize fs.getD i bH=t at c0 hse HT;obtain⟨tc,te⟩:=t;have HSE:=ae hse;obtain⟨ea,ec,rfl,_⟩:=hse;have HP:=ae hp;simp only at c0 c1;have hte0:0<te.length:=by have:=HT.o.2.1;simp only at this;omega
 have hte3:te.length<=3:=by have:=HT.o.2.1;simp only at this;omega
 have KEEP:OE (∀W,LT w W->(OE (LT w W)/\W.cell? (OV rb 0)=some (OW p)/\W.cell? (OV rb 1)=some (OW n)/\W.cell? (OV rb 2)=some (OW o)/\W.cell? (OV rb 3)=some (OW v)/\W.cell? (OV fb 0)=some (.slice (some (OV b off)) fs.length fc)/\W.cell? (OV gb 0)=some (.slice ga gs.length gc)/\W.cell? ⟨b,off+i*2,none⟩=some (OW tc)/\W.cell? ⟨b,off+i*2+1,none⟩=some (.slice ea te.length ec))):=
  λW hb=>⟨hb,af bx0 hb,af bx1 hb,af bx2 hb,af bx3 hb,af hcf hb,af hcg hb,af c0 hb,af c1 hb⟩
 clear hf hg bf bg hfc hat hp;go_enter func129,ntmps129;go_wp2;go_region_held (λW=>OE (LT w W)/\W.cell? (OV rb 0)=some (OW p)/\W.cell? (OV rb 1)=some (OW n)/\W.cell? (OV rb 2)=some (OW o)/\W.cell? (OV rb 3)=some (OW v)/\W.cell? (OV fb 0)=some (.slice (some (OV b off)) fs.length fc)/\W.cell? (OV gb 0)=some (.slice ga gs.length gc)/\W.cell? ⟨b,off+i*2,none⟩=some (OW tc)/\W.cell? ⟨b,off+i*2+1,none⟩=some (.slice ea te.length ec))
  (first|exact KEEP.o _ (NM _ _).drew|exact KEEP.o _ (jX (by assumption) hb9 (NL _)))
  (first|(go_at_call 130;refine(Jn p n o v tc _ te _ gs _ HP.o ⟨by have:=HT.o.1;omega,HT.o.1.2⟩ hte0 hte3 HT.o.2.2 (λt ht=>⟨(HG.o t ht).1.trans HT.o.2.1.symm,(HG.o t ht).2⟩) hm ?_ ?_).mono ?_;exact HSE.o.below (NM _ _).drew;exact HPG.o.below (NM _ _).drew;rintro e w9 ⟨u,rfl,hu,hb9⟩;have HU:=ae hu;obtain⟨ua,uc,rfl,_,_⟩:=hu))
 have hb19:LT w w9:=OE.o (And.left (by assumption));go_wp2;go_ret;exact⟨_,rfl,HU.o,hb19⟩
structure vV(w w0:OQ)(p n o v:Int)(fv gv:OR):Prop where
 below:LT w w0
 box:bA w0 w.heap.size p n o v
 cf:w0.cell? (OV (w.heap.size+1) 0)=some fv
 cg:w0.cell? (OV (w.heap.size+1+1) 0)=some gv
variable{w:OQ}{fs:Lt}{N:Nat}{o:Int}
theorem BJ{n v:Int}{fv gv:OR}{w0:OQ}(he:bo p=0)(ho:o=1\/o=2)(hN0:0<N)(hN:N<=3)(hf:cq p o N fs)(hg:cq p o N gs)(bf:i9 fs)(bg:i9 gs)(lf:fs.length<=2000)(lg:gs.length<=2000)(hb:vV w w0 p n o v fv gv)(pf:Pl w fv fs)(pg:Pl w gv gs):Calls prog 96 #[aI p n o v,OW 0,OW fs.length,.func (.func 129) #[] #[OS w.heap.size,OS (w.heap.size+1),OS (w.heap.size+1+1)]] w0 λe w'=>∃u,e=.returned u/\Pl w' u (bm p o (aH p fs gs))/\LT w0 w':=by
 have hp:=dS he;have H:∀i w',i<fs.length->LT w0 w'->Calls prog 129 #[OW i,OS w.heap.size,OS (w.heap.size+1),OS (w.heap.size+1+1)] w' λe w''=>∃u,e=.returned u/\Pl w'' u (cG p (fs.getD i bH) gs)/\LT w' w'':=by intro i w' hi hbw;have hbb:=Io hb.below hbw;exact Jw p n o v N i _ _ _ fv gv fs gs w' hp hN0 hN hf hg bf bg (by omega) hi (hb.box.below hbw) (af hb.cf hbw) (af hb.cg hbw) (pf.below hbb) (pg.below hbb)
 have hF:∀i,i<fs.length->cq p o N (cG p (fs.getD i bH) gs)/\Bd (cG p (fs.getD i bH) gs)/\(cG p (fs.getD i bH) gs).length<=2000:=by intro i hi;have hm:=mv fs i hi;exact⟨Au he (hf.coef _ hm) (hf.len _ hm) hg,Jv (bf _ hm) bg,by simp[cG];omega⟩
 have hL:fs.length*2000<=1200000000000:=by omega
 refine(Jq p n o v N fs.length 2000 (λi=>cG p (fs.getD i bH) gs) _ _ _ w0 hp ho hN0 hN hF (by omega) hL H fs.length 0 fs.length w0 (by omega) (by omega) (NL _) (NM _ _)).mono ?_;rintro e w1 ⟨u,ts,rfl,hr,hb1⟩;refine⟨u,rfl,?_,hb1⟩;have hs:=hr.same;rw[Nat.sub_zero,Js] at hs;have ho:=hf.okl.prod hp.1 hg.okl;have e:=uT hp.1 ho.len ho.coef hr.canon hs;rw[<-e];exact hr.pl
theorem rW(p n o v:Int)(N:Nat)(fv gv:OR)(fs gs:Lt)(w:OQ)(he:bo p=0)(ho:o=1\/o=2)(hN0:0<N)(hN:N<=3)(hf:cq p o N fs)(hg:cq p o N gs)(bf:i9 fs)(bg:i9 gs)(lf:fs.length<=2000)(lg:gs.length<=2000)(pf:Pl w fv fs)(pg:Pl w gv gs):Calls prog 95 #[aI p n o v,fv,gv] w λe w'=>∃u,e=.returned u/\Pl w' u (bm p o (aH p fs gs))/\LT w w':=by
 have HPF:=ae pf;have HPG:=ae pg;have HALL:=ae (NN he (NN ho (NN hf (NN hg (NN bf bg)))));obtain⟨fa,fc,rfl,_,_⟩:=pf;obtain⟨ga,gc,rfl,_,_⟩:=pg;clear he ho hf hg bf bg;by_cases hlen:gs.length<fs.length
 .have HB:OE (∀T1 T2 T3,vV w ((((w.alloc (.cells #[OW p,OW n,OW o,OW v] T1)).alloc (.cells #[.slice ga gs.length gc] T2)).alloc (.cells #[.slice fa fs.length fc] T3))) p n o v (.slice ga gs.length gc) (.slice fa fs.length fc)):=by intro T1 T2 T3;exact⟨((dR).alloc (by simp;omega) _),⟨by simp;omega,by simp[go_sem],by simp[go_sem],by simp[go_sem],by simp[go_sem]⟩,by simp[go_sem],by simp[go_sem]⟩
  go_enter func95,ntmps95;go_wp2_with fail;refine(BJ HALL.o.1 HALL.o.2.1 hN0 hN HALL.o.2.2.2.1 HALL.o.2.2.1 HALL.o.2.2.2.2.2 HALL.o.2.2.2.2.1 lg lf (HB.o _ _ _) HPG.o HPF.o).mono ?_;rintro e w1 ⟨u,rfl,hu,hb1⟩;rw[Ge (dS HALL.o.1).1 HALL.o.2.2.2.1.okl HALL.o.2.2.1.okl] at hu;have HU:=ae hu;have HB1:=ae ((HB.o _ _ _).below.trans (hb1.mono (HB.o _ _ _).below.size));obtain⟨ua,uc,rfl,_,_⟩:=hu;clear hb1;go_wp2;go_ret;exact⟨_,rfl,HU.o,HB1.o⟩
 .have HB:OE (∀T1 T2 T3,vV w ((((w.alloc (.cells #[OW p,OW n,OW o,OW v] T1)).alloc (.cells #[.slice fa fs.length fc] T2)).alloc (.cells #[.slice ga gs.length gc] T3))) p n o v (.slice fa fs.length fc) (.slice ga gs.length gc)):=by intro T1 T2 T3;exact⟨((dR).alloc (by simp;omega) _),⟨by simp;omega,by simp[go_sem],by simp[go_sem],by simp[go_sem],by simp[go_sem]⟩,by simp[go_sem],by simp[go_sem]⟩
  go_enter func95,ntmps95;go_wp2_with fail;refine(BJ HALL.o.1 HALL.o.2.1 hN0 hN HALL.o.2.2.1 HALL.o.2.2.2.1 HALL.o.2.2.2.2.1 HALL.o.2.2.2.2.2 lf lg (HB.o _ _ _) HPF.o HPG.o).mono ?_;rintro e w1 ⟨u,rfl,hu,hb1⟩;have HU:=ae hu;have HB1:=ae ((HB.o _ _ _).below.trans (hb1.mono (HB.o _ _ _).below.size));obtain⟨ua,uc,rfl,_,_⟩:=hu;clear hb1;go_wp2;go_ret;exact⟨_,rfl,HU.o,HB1.o⟩
theorem ww(p o:Int)(t:Tm)(post:Lt):∀pre:Lt,(∀u∈pre,0<aR o u.2 t.2)->bZ p o (pre++post) t=pre++bZ p o post t
 |[],_=>rfl
 |u::pre,h=>by simp only[List.cons_append,bZ];rw[Oe (h u (by simp)),ww p o t post pre (λx hx=>h x (by simp[hx]))]
theorem B5{p o:Int}{t:Tm}:∀out:Lt,(bZ p o out t).length<=out.length+1
 |[]=>by simp[bZ]
 |u::out=>by
  simp only[bZ];split
  .have:=B5 (p:=p) (o:=o) (t:=t) out;simp only[Oh];omega
  .split<;>simp only[Oh]<;>omega
theorem B6{p o:Int}:∀(l out:Lt),(l.foldl (bZ p o) out).length<=out.length+l.length
 |[],out=>by simp
 |t::l,out=>by simp only[List.foldl_cons,Oh];have h1:=B6 (p:=p) (o:=o) l (bZ p o out t);have h2:=B5 (p:=p) (o:=o) (t:=t) out;omega
structure iN(Φ:OR->Prop)(p o:Int)(w1 wr:OQ)(ts:Lt)(k:Nat)(v:OR)(outs:List TV):Prop where
 own:wr.ownsRow w1.heap.size 47 2 v outs.length (bj outs)
 es:Es w1 outs
 below:LT w1 wr
 eq:outs.map tm=(ts.take k).foldl (bZ p o) []
 nil:outs=[]->v=.slice none 0 0
 ap:∀t∈outs,Φ t.2.1
variable{outs:List TV}{v:OR}{k:Nat}{w1 wr w':OQ}{Φ:OR->Prop}
theorem iN.next(h:iN Φ p o w1 wr ts k v outs)(hb:LT wr w'):iN Φ p o w1 w' ts k v outs:=
 ⟨aF h.own hb,h.es,Io h.below hb,h.eq,h.nil,h.ap⟩
theorem iN.len(h:iN Φ p o w1 wr ts k v outs):outs.length<=k:=by have h1:=B6 (p:=p) (o:=o) (ts.take k) [];rw[<-h.eq] at h1;rw[Oa] at h1;have h2:=List.length_take_le k ts;simp only[List.length_nil] at h1;omega
theorem iN.at(h:iN Φ p o w1 wr ts k v outs)(h0:0<outs.length):∃g cap,v=OU g outs.length cap/\outs.length<=cap/\w1.heap.size<=g/\g<wr.heap.size/\(∀j,wr.frozen? (OV g j)=false)/\∀j u,(bj outs)[j]?=some u->wr.cell? (OV g j)=some u:=by
 rcases h.own.2 with ⟨h1,h2⟩|⟨g,cap,ag,rfl,hg,hh,hn,hm,hcs,ht⟩
 .omega
 .have hlt:=NK h.own g rfl;refine⟨g,cap,rfl,hn,hlt.1,hlt.2,λj=>h.own.frozenAt j,λj u hj=>?_⟩;have hjl:j<outs.length*2:=by rw[<-mt];apply Ob;intro hle;rw[N0 hle] at hj;simp at hj
  rw[h.own.cellAt j hjl];exact hj
theorem B7:∀(j:Nat)(ts:List TV)(c:Int),j<ts.length->(bj ts).set (j*2) (OW c)=bj (ts.set j (c,(ts.getD j dh).2))
 |_,[],c,h=>by simp at h
 |0,t::ts,c,_=>by simp[pA]
 |j+1,t::ts,c,h=>by rw[pA,show (j+1)*2=j*2+1+1 by omega];simp only[List.set_cons_succ,pA];rw[B7 j ts c (by simpa using h)];simp
variable{t:TV}{j:Nat}
theorem JK(hm:∀u∈outs.take j,0<aR o u.2.2 t.2.2)(hn:j<outs.length->¬0<aR o (outs.getD j dh).2.2 t.2.2)(hs:¬(j<outs.length/\(outs.getD j dh).2.2=t.2.2)):bZ p o (outs.map tm) (tm t)=(outs.take j++[t]++outs.drop j).map tm:=by
 have e:outs.map tm=(outs.take j).map tm++(outs.drop j).map tm:=by rw[<-Oi,List.take_append_drop]
 rw[e,ww _ _ _ _ _ (λu hu=>by
  obtain⟨x,hx,rfl⟩:=N9.1 hu;exact hm x hx)]
 rw[List.append_assoc,Oi];congr 1;by_cases hj:j<outs.length
 .have e2:outs.drop j=outs.getD j dh::outs.drop (j+1):=by rw[Ov hj];simp[NY,hj]
  rw[e2];simp only[List.map_cons,List.singleton_append,bZ];rw[Oc (by exact hn hj),Oc (by exact λh=>hs ⟨hj,h⟩)]
 .rw[Ow (by omega)];rfl
theorem JL(hm:∀u∈outs.take j,0<aR o u.2.2 t.2.2)(hj:j<outs.length)(hs:(outs.getD j dh).2.2=t.2.2)(hn:¬0<aR o (outs.getD j dh).2.2 t.2.2):bZ p o (outs.map tm) (tm t)=(outs.set j (((outs.getD j dh).1+t.1)%p,(outs.getD j dh).2)).map tm:=by
 have e:outs.map tm=(outs.take j).map tm++(outs.drop j).map tm:=by rw[<-Oi,List.take_append_drop]
 have e3:outs.set j (((outs.getD j dh).1+t.1)%p,(outs.getD j dh).2)=outs.take j++(((outs.getD j dh).1+t.1)%p,(outs.getD j dh).2)::outs.drop (j+1):=by rw[List.set_eq_take_append_cons_drop,Oe hj]
 rw[e,ww _ _ _ _ _ (λu hu=>by
  obtain⟨x,hx,rfl⟩:=N9.1 hu;exact hm x hx),e3,Oi]
 congr 1;have e2:outs.drop j=outs.getD j dh::outs.drop (j+1):=by rw[Ov hj];simp[NY,hj]
 rw[e2];simp only[List.map_cons,bZ];rw[Oc (by exact hn),Oe (by exact hs)];rfl
variable{v':OR}
theorem iN.grow(h:iN Φ p o w1 wr ts k v outs)(ht:ts.take (k+1)=ts.take k++[tm t])(hs:Sl w1 t.2.1 t.2.2)(hΦ:Φ t.2.1)(hj:j<=outs.length)(hm:∀u∈outs.take j,0<aR o u.2.2 t.2.2)(hn:j<outs.length->¬0<aR o (outs.getD j dh).2.2 t.2.2)(hsm:¬(j<outs.length/\(outs.getD j dh).2.2=t.2.2))(hb:LT wr w')(hown:w'.ownsRow w1.heap.size 47 2 v' (j+1+(outs.length-j)) (bj (outs.take j)++bj [t]++bj (outs.drop j))):iN Φ p o w1 w' ts (k+1) v' (outs.take j++[t]++outs.drop j):=by
 have el:(outs.take j++[t]++outs.drop j).length=j+1+(outs.length-j):=by simp only[N3,Oo,List.length_drop,Oh,List.length_nil];omega
 refine⟨?_,?_,Io h.below hb,?_,λe=>?_,?_⟩
 .rw[el,kC,kC];exact hown
 .intro u hu;rcases N1.1 hu with hu|hu
  .rcases N1.1 hu with hu|hu
   .exact h.es u (OA hu)
   .rw[N2] at hu;subst hu;exact hs
  .exact h.es u (List.mem_of_mem_drop hu)
 .rw[ht,List.foldl_append,<-h.eq];simp only[List.foldl_cons,List.foldl_nil];exact(JK hm hn hsm).symm
 .have:(outs.take j++[t]++outs.drop j).length=0:=by rw[e];rfl
  omega
 .intro u hu;rcases N1.1 hu with hu|hu
  .rcases N1.1 hu with hu|hu
   .exact h.ap u (OA hu)
   .rw[N2] at hu;subst hu;exact hΦ
  .exact h.ap u (List.mem_of_mem_drop hu)
variable{g:Nat}
theorem iN.put{cap:Nat}{c:Int}(h:iN Φ p o w1 wr ts k (OU g outs.length cap) outs)(ht:ts.take (k+1)=ts.take k++[tm t])(hj:j<outs.length)(hm:∀u∈outs.take j,0<aR o u.2.2 t.2.2)(hn:¬0<aR o (outs.getD j dh).2.2 t.2.2)(hs:(outs.getD j dh).2.2=t.2.2)(hc:c=((outs.getD j dh).1+t.1)%p)(hg:w1.heap.size<=g):iN Φ p o w1 (wr.setCell ⟨g,j*2,none⟩ (OW c)) ts (k+1) (OU g outs.length cap) (outs.set j (c,(outs.getD j dh).2)):=by
 have s1:=h.own.stored (j*2) (OW c);rw[B7 j outs c hj] at s1;refine⟨?_,?_,h.below.trans (cV s1.2 hg h.below.size),?_,λe=>?_,?_⟩
 .rw[List.length_set];exact s1.1
 .intro u hu;rcases List.mem_or_eq_of_mem_set hu with hu|hu
  .exact h.es u hu
  .subst hu;have h1:=h.es _ (mu outs j hj);exact h1
 .rw[ht,List.foldl_append,<-h.eq];simp only[List.foldl_cons,List.foldl_nil];rw[hc];exact(JL hm hj hs hn).symm
 .have:(outs.set j (c,(outs.getD j dh).2)).length=0:=by rw[e];rfl
  rw[List.length_set] at this;omega
 .intro u hu;rcases List.mem_or_eq_of_mem_set hu with hu|hu
  .exact h.ap u hu
  .subst hu;have h1:=h.ap _ (mu outs j hj);exact h1
variable{xs:OO}{n s B:Nat}
theorem JJ{B':Nat}{T:TypeId}(h:w.ownsRow B' T s v n xs)(hb:B<=B'):w.ownsRow B T s v n xs:=by
 obtain⟨h1,h2⟩:=h;refine⟨h1,?_⟩;rcases h2 with h2|⟨g,c,ag,e,hg,r⟩
 .exact Ox h2
 .exact Oy ⟨g,c,ag,e,NR hb hg,r⟩
variable{W:OQ}
theorem eR{T:TypeId}(h:W.ownsRow B T s v n xs)(hb:Below B w W)(hg:W.grownBy w' v.ownBlock)(hB:B<=w.heap.size):Below B w w':=
 hb.grown hg (NR hB hb.size) (λk hk=>(NK h k hk).1)
def sg(r:Option Nat)(v:OR):Prop:=∀b off n c,v=.slice (some (OV b off)) n c->some b≠r
theorem JM{r:Option Nat}{xs:OP}(h:w.grownBy w' r)(hs:Sl w v xs)(hne:sg r v):Sl w' v xs:=by obtain⟨a,cap,rfl,h1⟩:=hs;refine⟨a,cap,rfl,λhp=>?_⟩;obtain⟨b,off,rfl,hlt,hc⟩:=h1 hp;exact⟨b,off,rfl,NQ hlt h.size,λi hi=>h.cell (hc i hi) (hne b off _ _ rfl)⟩
structure ol(N:Nat)(w1 wr:OQ)(v:OR)(ls:List TV):Prop where
 own:wr.ownsRow w1.heap.size 47 2 v ls.length (bj ls)
 es:Es wr ls
 ap:∀t∈ls,sg v.ownBlock t.2.1
 ln:∀t∈ls,t.2.2.length=N
 below:LT w1 wr
variable{ls:List TV}
theorem ol.next(h:ol N w1 wr v ls)(hb:LT wr w'):ol N w1 w' v ls:=
 ⟨aF h.own hb,h.es.below hb,h.ap,h.ln,Io h.below hb⟩
theorem ol.add(hN:0<N)(h:ol N w1 wr v ls)(hs:Sl wr t.2.1 t.2.2)(hl:t.2.2.length=N)(ha:sg v.ownBlock t.2.1)(hown:w'.ownsRow w1.heap.size 47 2 v' (ls.length+1) (bj ls++bj [t]))(hg:wr.grownBy w' v.ownBlock)(hloc:v'.ownBlock=v.ownBlock\/v'.ownBlock=some wr.heap.size):ol N w1 w' v' (ls++[t]):=by
 have hall:∀u∈ls++[t],Sl wr u.2.1 u.2.2/\sg v.ownBlock u.2.1/\u.2.2.length=N:=by
  intro u hu;rcases N1.1 hu with hu|hu
  .exact⟨h.es u hu,h.ap u hu,h.ln u hu⟩
  .rw[N2] at hu;subst hu;exact⟨hs,ha,hl⟩
 refine⟨by rw[kC,N3];exact hown,λu hu=>JM hg (hall u hu).1 (hall u hu).2.1,λu hu=>?_,λu hu=>(hall u hu).2.2,eR h.own h.below hg (NL _)⟩;rcases hloc with e|e
 .rw[e];exact(hall u hu).2.1
 .rw[e];intro b off n c hv hb;obtain⟨a,cap,hv2,h1⟩:=(hall u hu).1;obtain⟨b2,off2,hv3,hlt,_⟩:=h1 (by rw[(hall u hu).2.2];exact hN);rw[hv2,hv3] at hv;simp only[N8,N7,Addr.mk.injEq] at hv hb;omega
theorem JN(hp:2<=p)(lf:eI N fs)(lg:eI N gs)(bf:i9 fs)(bg:i9 gs):∀t∈aH p fs gs,lD p N t:=by intro t ht;simp only[Go.Proofs.YtjkalahhpobefaaGreat.aH,cG,OB,N9] at ht;obtain⟨a,ha,b,hb,rfl⟩:=ht;refine⟨by simp only;rw[ky _ _ _ (by rw[lf a ha,lg b hb])];exact lf a ha,vU _ _ (bf a ha) (bg b hb),Int.emod_nonneg _ (by omega),Int.emod_lt_of_pos _ (by omega)⟩
def jz(o:Int)(q:Option (OP))(e:OP):Bool:=
 match q with
 |some x=>fN o x e
 |none=>true
def jA(p n o:Int):Option (OP)->Lt->Int
 |_,[]=>0
 |q,t::ts=>if cE t.1 1 (p-1)=false then 3 else if cd n t.2≠0 then cd n t.2 else if jz o q t.2=false then 4 else jA p n o (some t.2) ts
def jb(ts:Lt):Nat->Option (OP)
 |0=>none
 |k+1=>some (ts.getD k bH).2
theorem B8(p n o:Int)(ts:Lt)(k:Nat)(h:k<ts.length)(q:Option (OP)):jA p n o q (ts.drop k)=if cE (ts.getD k bH).1 1 (p-1)=false then 3 else if cd n (ts.getD k bH).2≠0 then cd n (ts.getD k bH).2 else if jz o q (ts.getD k bH).2=false then 4 else jA p n o (jb ts (k+1)) (ts.drop (k+1)):=by
 rw[Ov h];have e:ts.getD k bH=ts[k]:=by simp[NY,h]
 rw[jb,e];rfl
def de(p n o:Int)(ts:Lt):Int:=if 2000<ts.length then 2 else jA p n o none ts
theorem B9{p o:Int}{N:Nat}:∀(ts:Lt) (q:Option (OP)),jA p N o q ts=0->(∀e,q=some e->e.length=N)->(∀t∈ts,(1<=t.1/\t.1<p)/\cd N t.2=0)/\ij o ts/\(∀e t ts',q=some e->ts=t::ts'->0<aR o e t.2)
 |[],q,_,_=>⟨λt ht=>by simp at ht,trivial,λe t ts' _ h=>by simp at h⟩
 |t::ts,q,h,hq=>by
  have hu:jA p N o q (t::ts)=if cE t.1 1 (p-1)=false then 3 else if cd N t.2≠0 then cd N t.2 else if jz o q t.2=false then 4 else jA p N o (some t.2) ts:=rfl
  rw[hu] at h;clear hu;by_cases h1:cE t.1 1 (p-1)=false
  .rw[Oe h1] at h;omega
  rw[Oc h1] at h;by_cases h2:cd N t.2≠0
  .rw[Oe h2] at h;exact absurd h h2
  rw[Oc h2] at h;by_cases h3:jz o q t.2=false
  .rw[Oe h3] at h;omega
  rw[Oc h3] at h;have h2':cd N t.2=0:=by omega
  have hl:t.2.length=N:=by have:=(jH h2').1;omega
  obtain⟨i1,i2,i3⟩:=B9 ts (some t.2) h (λe he=>by simp at he;rw[<-he];exact hl);have hb:1<=t.1/\t.1<p:=by simp[cE] at h1;omega
  refine⟨λu hu=>?_,⟨λu hu=>?_,i2⟩,λe u ts' he hu=>?_⟩
  .rcases Og.1 hu with rfl|hu
   .exact⟨hb,h2'⟩
   .exact i1 u hu
  .cases ts with
   |nil=>simp at hu
   |cons x xs=>
    have hx:=i3 t.2 x xs rfl rfl;rcases Og.1 hu with rfl|hu
    .exact hx
    .have l1:x.2.length=N:=by have:=(jH (i1 x (by simp)).2).1;omega
     have l2:u.2.length=N:=by have:=(jH (i1 u (by simp[hu])).2).1;omega
     exact mh o t.2 x.2 u.2 (by omega) (by omega) hx (i2.1 u hu)
  .rw[he] at h3;simp only[List.cons.injEq] at hu;obtain⟨rfl,_⟩:=hu;simpa [jz,fN] using h3
structure fO(p o:Int)(N:Nat)(ts:Lt):Prop where
 canon:cq p o N ts
 bd:i9 ts
 len:ts.length<=2000
 deg:∀t∈ts,aj t.2<=200
theorem rN(h:de p N o ts=0):fO p o N ts:=by
 unfold de at h;split at h
 .omega
 rename_i hl;obtain⟨h1,h2,_⟩:=B9 ts none h (λe he=>by simp at he);refine⟨⟨λt ht=>?_,h2,λt ht=>(h1 t ht).1⟩,λt ht x hx=>by have h9:=(jH (h1 t ht).2).2.1 x hx;omega,by omega,λt ht=>(jH (h1 t ht).2).2.2⟩;have:=(jH (h1 t ht).2).1;omega
theorem JO(ts:Lt)(k:Nat)(h:k<ts.length):ts.getD k bH∈ts.take (k+1):=by rw[Of h,NY,NZ h,N1];right;simp
theorem Ca(h:0<k)(h2:k<=2000):IntKind.i64.wrap ((k:Int)-1)=(k:Int)-1:=by rw[IntKind.wrap_i64];omega
theorem Cb(h:0<k)(h2:k<n):(0:Int)<=(k:Int)-1/\(k:Int)-1<(n:Int)/\((k:Int)-1).toNat=k-1/\(1:Int)<=(k:Int)/\(k:Int)<=(n:Int)/\¬(k:Int)<1/\¬(n:Int)<=(k:Int)-1:=⟨by omega,by omega,by omega,by omega,by omega,by omega,by omega⟩
theorem JP(p o:Int)(N:Nat):fO p o N []:=⟨⟨λt ht=>by simp at ht,trivial,λt ht=>by simp at ht⟩,λt ht=>by simp at ht,by simp,λt ht=>by simp at ht⟩
theorem JQ(p n o v:Int)(fv:OR)(ts:Lt)(w:OQ)(hp:2<=p/\p<=101)(hn:1<=n/\n<=3)(ho:o=1\/o=2)(pf:Pl w fv ts):Calls prog 70 #[aI p n o v,fv] w λe w'=>e=.returned (OW (de p n o ts))/\LT w w':=by
 obtain⟨fa,fc,rfl,_,hfc⟩:=pf;have HFC:=ae hfc;have HN:=ae hn;have HO:=ae ho;obtain⟨hp1,hp2⟩:=hp;clear hfc hn ho;obtain⟨w1,hw1⟩:∃w1,w1=w.alloc (.cells #[OW p,OW n,OW o,OW v] 23):=⟨_,rfl⟩;have hbx:bA w1 w.heap.size p n o v:=by rw[hw1];exact bA.new w p n o v _
 have hbw:LT w w1:=by rw[hw1];exact bE
 have HBX:=ae hbx;have HBW:=ae hbw;clear hbx hbw;by_cases hlen:2000<ts.length
 .have he:de p n o ts=2:=by unfold de;rw[Oe hlen]
  rw[he];clear he;go_enter func70,ntmps70;go_wp2;go_ret;rw[<-hw1];exact⟨rfl,HBW.o⟩
 .have he:de p n o ts=jA p n o none ts:=by unfold de;rw[Oc hlen]
  rw[he];clear he;go_enter func70,ntmps70;go_wp2_with fail;rw[<-hw1];clear hw1;go_loopw [5] (λi wr=>∃k:Nat,k<=ts.length/\i=OW k/\jA p n o none ts=jA p n o (jb ts k) (ts.drop k)/\(∀t∈ts.take k,cd n t.2=0)/\LT w1 wr) (λi _=>ts.length-(intOf i).toNat);case atStart=>exact⟨0,NS _,rfl,rfl,by simp,NM _ _⟩
  case round=>
   obtain⟨k,hk,rfl,herr,hall,hbr⟩:=hrel;have HBR:=ae hbr;have HALL:=ae hall;clear hall hbr;by_cases hk2:k<ts.length
   .obtain⟨b,off,rfl,hlt,hat⟩:=HFC.o (by omega);obtain⟨c0,ev,c1,hse⟩:=hat k hk2;have HER:=ae (herr.trans (B8 p n o ts k hk2 (jb ts k)));have HTK:OE (∀t∈ts.take (k+1),t∈ts.take k\/t=ts.getD k bH):=by
     intro u hu;rw[Of hk2,N1,N2] at hu;rcases hu with hu|hu
     .exact Ox hu
     .right;rw[hu];simp[NY,hk2]
    have HDN:=ae (Io HBW.o HBR.o);have HAT:=ae hat;clear herr hat;generalize ts.getD k bH=t at c0 hse HER HTK;obtain⟨tc,te⟩:=t;have HSE0:=ae hse;have HSE:=ae (hse.below HDN.o);obtain⟨ea,ec,rfl,_⟩:=hse;simp only at c0 c1;have bx:=HBX.o;obtain⟨_,bx0,bx1,bx2,bx3⟩:=bx;have KEEP:OE (∀W,LT w1 W->(OE (LT w1 W)/\W.cell? (OV w.heap.size 0)=some (OW p)/\W.cell? (OV w.heap.size 1)=some (OW n)/\W.cell? (OV w.heap.size 2)=some (OW o)/\W.cell? (OV w.heap.size 3)=some (OW v)/\W.cell? ⟨b,off+k*2,none⟩=some (OW tc)/\W.cell? ⟨b,off+k*2+1,none⟩=some (.slice ea te.length ec))):=
     λW hb=>⟨hb,af bx0 hb,af bx1 hb,af bx2 hb,af bx3 hb,af (af c0 HBW.o) hb,af (af c1 HBW.o) hb⟩
    have K0:=KEEP.o wr HBR.o;obtain⟨_,kp,_,_,_,kc0,kc1⟩:=K0;clear bx0 bx1 bx2 bx3;cases hb1:cE tc 1 (p-1)
    .go_wp2_with fail;go_quiet ((go_at_call 69;exact Calls.quiet_of_same (gi _ _ _ _)));have HQ1:=ae (below_drewN HBR.o nq);go_wp2;go_ret;exact⟨cM (by rw[HER.o,Oe hb1]),Io HBW.o HQ1.o⟩
    .cases hb2:(cd n te !=0)
     .have hb20:cd n te=0:=by simpa using hb2
      have HB20:=ae hb20;rcases Nat.eq_zero_or_pos k with rfl|hpos
      .simp only[Nat.zero_mul,Nat.add_zero] at c0 c1 kc0 kc1 KEEP;go_wp2_with fail;go_quiet ((go_at_call 69;exact Calls.quiet_of_same (gi _ _ _ _)));have HQ1:=ae (below_drewN HBR.o nq);go_wp2_with fail;go_region_held (λW=>OE (LT w1 W)/\W.cell? (OV w.heap.size 0)=some (OW p)/\W.cell? (OV w.heap.size 1)=some (OW n)/\W.cell? (OV w.heap.size 2)=some (OW o)/\W.cell? (OV w.heap.size 3)=some (OW v)/\W.cell? (OV b off)=some (OW tc)/\W.cell? (OV b (off+1))=some (.slice ea te.length ec))
        (first|exact KEEP.o _ HQ1.o.drew|exact KEEP.o _ (Io HQ1.o.drew hb9))
        (first|(go_at_call 104;refine(rI p n o v _ te _ HN.o ?_).mono ?_;exact HSE.o.below (below_drewN (NM _ _) _).drew;rintro e w9 ⟨rfl,hb9⟩))
       have HB9:=ae (show LT w1 w9 from Io HQ1.o.drew hb9);clear hb9;try rw[HB20.o]
       go_wp2_with fail;go_quiet (fail);go_wp2;go_roundw;case rel=>exact⟨1,by omega,by go_num,by rw[HER.o,Oc (by rw[hb1];simp),Oc (by simpa using HB20.o)];simp[jb,jz],λt ht=>by
        rcases HTK.o t ht with h|h
        .simp at h
        .rw[h];exact HB20.o,below_drewN HB9.o _⟩
       case measure=>simp[intOf];omega
      .have hk3:k-1<ts.length:=by omega
       obtain⟨_,ev2,d1,hse2⟩:=HAT.o (k-1) hk3;have hse2':=hse2;have HPE:OE (jb ts k=some (ts.getD (k-1) bH).2):=by obtain⟨m,rfl⟩:∃m,k=m+1:=⟨k-1,by omega⟩;rfl
       have HQE:=ae (HALL.o _ (by have h:=JO ts (k-1) hk3;rwa [show k-1+1=k from Nat.sub_add_cancel hpos] at h));generalize ts.getD (k-1) bH=q at hse2 hse2' HPE HQE;obtain⟨qc,qe⟩:=q;have HSE2:=ae (hse2.below HDN.o);obtain⟨ea2,ec2,rfl,_⟩:=hse2;simp only at d1 HPE HQE;have hq:=jH HQE.o;have ht:=jH hb20;have HLL:OE (qe.length=te.length):=by have h1:=hq.1;have h2:=ht.1;show _=_;omega
       have hq0:0<qe.length:=by have h1:=hq.1;have h2:=HN.o;omega
       have hq3:qe.length<=3:=by have h1:=hq.1;have h2:=HN.o;omega
       have HQB:=ae (NN (show∀x∈qe,0<=x/\x<=40000 from λx hx=>by have:=hq.2.1 x hx;omega) (show∀x∈te,0<=x/\x<=40000 from λx hx=>by have:=ht.2.1 x hx;omega));have HSQ:=ae (NN (hse2'.below HBW.o) (HSE0.o.below HBW.o));have KEEP2:OE (∀W,LT w1 W->(OE (LT w1 W)/\W.cell? (OV w.heap.size 0)=some (OW p)/\W.cell? (OV w.heap.size 1)=some (OW n)/\W.cell? (OV w.heap.size 2)=some (OW o)/\W.cell? (OV w.heap.size 3)=some (OW v)/\W.cell? ⟨b,off+k*2,none⟩=some (OW tc)/\W.cell? ⟨b,off+k*2+1,none⟩=some (.slice ea te.length ec)/\W.cell? ⟨b,off+(k-1)*2+1,none⟩=some (.slice ea2 qe.length ec2))):=λW hb=>by have h:=KEEP.o W hb;exact⟨h.1,h.2.1,h.2.2.1,h.2.2.2.1,h.2.2.2.2.1,h.2.2.2.2.2.1,h.2.2.2.2.2.2,af (af d1 HBW.o) hb⟩
       obtain⟨hq1,hq2,hq4,hq5,hq6,hq7,hq8⟩:=Cb hpos hk2;have hwr:=Ca hpos (NR hk (Nat.not_lt.1 hlen));clear hq ht hb20;cases hb3:fN o qe te
       .go_wp2_with fail;go_quiet ((go_at_call 69;exact Calls.quiet_of_same (gi _ _ _ _)));have HQ1:=ae (below_drewN HBR.o nq);go_wp2_with fail;go_region_held (λW=>OE (LT w1 W)/\W.cell? (OV w.heap.size 0)=some (OW p)/\W.cell? (OV w.heap.size 1)=some (OW n)/\W.cell? (OV w.heap.size 2)=some (OW o)/\W.cell? (OV w.heap.size 3)=some (OW v)/\W.cell? ⟨b,off+k*2,none⟩=some (OW tc)/\W.cell? ⟨b,off+k*2+1,none⟩=some (.slice ea te.length ec))
         (first|exact KEEP.o _ HQ1.o.drew|exact KEEP.o _ (Io HQ1.o.drew hb9))
         (first|(go_at_call 104;refine(rI p n o v _ te _ HN.o ?_).mono ?_;exact HSE.o.below (below_drewN (NM _ _) _).drew;rintro e w9 ⟨rfl,hb9⟩))
        have HB9:=ae (show LT w1 w9 from Io HQ1.o.drew hb9);clear hb9;rw[HB20.o];go_wp2_with fail;go_region_held (λW=>OE (LT w1 W)/\W.cell? (OV w.heap.size 0)=some (OW p)/\W.cell? (OV w.heap.size 1)=some (OW n)/\W.cell? (OV w.heap.size 2)=some (OW o)/\W.cell? (OV w.heap.size 3)=some (OW v)/\W.cell? ⟨b,off+k*2,none⟩=some (OW tc)/\W.cell? ⟨b,off+k*2+1,none⟩=some (.slice ea te.length ec)/\W.cell? ⟨b,off+(k-1)*2+1,none⟩=some (.slice ea2 qe.length ec2))
         (first|exact KEEP2.o _ HB9.o.drew|exact KEEP2.o _ (Io HB9.o.drew hb8))
         (first|(go_at_call 105;refine(Bw p n o v _ _ qe te _ HO.o hq0 hq3 HLL.o HQB.o.1 HQB.o.2 ?_ ?_).mono ?_;exact HSQ.o.1.below HB9.o.drew;exact HSQ.o.2.below HB9.o.drew;rintro e w8 ⟨rfl,hb8⟩))
        have HB8:=ae (show LT w1 w8 from Io HB9.o.drew hb8);clear hb8;try rw[hb3]
        go_wp2_with fail;go_ret;exact⟨cM (by rw[HER.o,Oc (by rw[hb1];simp),Oc (by simpa using HB20.o),Oe (by rw[HPE.o];exact hb3)]),Io HBW.o HB8.o⟩
       .go_wp2_with fail;go_quiet ((go_at_call 69;exact Calls.quiet_of_same (gi _ _ _ _)));have HQ1:=ae (below_drewN HBR.o nq);go_wp2_with fail;go_region_held (λW=>OE (LT w1 W)/\W.cell? (OV w.heap.size 0)=some (OW p)/\W.cell? (OV w.heap.size 1)=some (OW n)/\W.cell? (OV w.heap.size 2)=some (OW o)/\W.cell? (OV w.heap.size 3)=some (OW v)/\W.cell? ⟨b,off+k*2,none⟩=some (OW tc)/\W.cell? ⟨b,off+k*2+1,none⟩=some (.slice ea te.length ec))
         (first|exact KEEP.o _ HQ1.o.drew|exact KEEP.o _ (Io HQ1.o.drew hb9))
         (first|(go_at_call 104;refine(rI p n o v _ te _ HN.o ?_).mono ?_;exact HSE.o.below (below_drewN (NM _ _) _).drew;rintro e w9 ⟨rfl,hb9⟩))
        have HB9:=ae (show LT w1 w9 from Io HQ1.o.drew hb9);clear hb9;rw[HB20.o];go_wp2_with fail;go_region_held (λW=>OE (LT w1 W)/\W.cell? (OV w.heap.size 0)=some (OW p)/\W.cell? (OV w.heap.size 1)=some (OW n)/\W.cell? (OV w.heap.size 2)=some (OW o)/\W.cell? (OV w.heap.size 3)=some (OW v)/\W.cell? ⟨b,off+k*2,none⟩=some (OW tc)/\W.cell? ⟨b,off+k*2+1,none⟩=some (.slice ea te.length ec)/\W.cell? ⟨b,off+(k-1)*2+1,none⟩=some (.slice ea2 qe.length ec2))
         (first|exact KEEP2.o _ HB9.o.drew|exact KEEP2.o _ (Io HB9.o.drew hb8))
         (first|(go_at_call 105;refine(Bw p n o v _ _ qe te _ HO.o hq0 hq3 HLL.o HQB.o.1 HQB.o.2 ?_ ?_).mono ?_;exact HSQ.o.1.below HB9.o.drew;exact HSQ.o.2.below HB9.o.drew;rintro e w8 ⟨rfl,hb8⟩))
        have HB8:=ae (show LT w1 w8 from Io HB9.o.drew hb8);clear hb8;try rw[hb3]
        go_wp2_with fail;go_roundw;case rel=>exact⟨k+1,by omega,by go_num,by rw[HER.o,Oc (by rw[hb1];simp),Oc (by simpa using HB20.o),Oc (by rw[HPE.o];simp[jz,hb3])],λt ht=>by
         rcases HTK.o t ht with h|h
         .exact HALL.o t h
         .rw[h];exact HB20.o,HB8.o⟩
        case measure=>simp[intOf];omega
     .go_wp2_with fail;go_quiet ((go_at_call 69;exact Calls.quiet_of_same (gi _ _ _ _)));have HQ1:=ae (below_drewN HBR.o nq);go_wp2_with fail;go_region_held (λW=>OE (LT w1 W)/\W.cell? (OV w.heap.size 0)=some (OW p)/\W.cell? (OV w.heap.size 1)=some (OW n)/\W.cell? (OV w.heap.size 2)=some (OW o)/\W.cell? (OV w.heap.size 3)=some (OW v)/\W.cell? ⟨b,off+k*2,none⟩=some (OW tc)/\W.cell? ⟨b,off+k*2+1,none⟩=some (.slice ea te.length ec))
       (first|exact KEEP.o _ HQ1.o.drew|exact KEEP.o _ (Io HQ1.o.drew hb9))
       (first|(go_at_call 104;refine(rI p n o v _ te _ HN.o ?_).mono ?_;exact HSE.o.below (below_drewN (NM _ _) _).drew;rintro e w9 ⟨rfl,hb9⟩))
      have HB9:=ae (show LT w1 w9 from Io HQ1.o.drew hb9);clear hb9;go_wp2;go_ret;exact⟨cM (by rw[HER.o,Oc (by rw[hb1];simp),Oe (by simpa using hb2)]),Io HBW.o HB9.o⟩
   .go_wp2;go_ret;exact⟨cM (by rw[herr,Ow (by omega)];cases k<;>rfl),Io HBW.o HBR.o⟩
def ep(p n o:Int):OG->Int
 |[]=>0
 |f::r=>if de p n o f=0 then ep p n o r else de p n o f
theorem BM(p n o:Int)(fss:OG)(k:Nat)(h:k<fss.length):ep p n o (fss.drop k)=if de p n o (fss.getD k [])=0 then ep p n o (fss.drop (k+1)) else de p n o (fss.getD k []):=by rw[Ov h];simp[ep,NY,h]
def kz(p n o v:Int)(fss:OG):Int:=if bJ p n o v=0 then ep p n o fss else bJ p n o v
theorem wy{p n o:Int}:∀{fss:OG},ep p n o fss=0->∀f∈fss,de p n o f=0
 |[],_,f,hf=>by simp at hf
 |g::r,h,f,hf=>by
  unfold ep at h;by_cases hg:de p n o g=0
  .rw[Oe hg] at h;rcases Og.1 hf with rfl|hf
   .exact hg
   .exact wy h f hf
  .rw[Oc hg] at h;exact absurd h hg
variable{fss:OG}
theorem JR{n v:Int}(h:kz p n o v fss=0):bJ p n o v=0/\∀f∈fss,de p n o f=0:=by
 unfold kz at h;by_cases hr:bJ p n o v=0
 .rw[Oe hr] at h;exact⟨hr,wy h⟩
 .rw[Oc hr] at h;exact absurd h hr
theorem JS(x:OR)(xs:OP)(w:OQ)(h0:0<xs.length)(hm:xs.length<=3)(hb:∀x∈xs,0<=x/\x<=40000)(hs:Sl w x xs):Calls prog 37 #[x] w λe w'=>e=.returned (OW (aj xs))/\w'=w:=by obtain⟨a,cap,rfl,h1⟩:=hs;obtain⟨b,off,rfl,hlt,hc⟩:=h1 h0;exact nH xs b off cap w hb hm hc
def da(m:Int):Lt->Int
 |[]=>m
 |t::ts=>da (if m<aj t.2 then aj t.2 else m) ts
theorem JT(ts:Lt):∀(m:Int)(k:Nat),k<ts.length->da m (ts.take (k+1))=if da m (ts.take k)<aj (ts.getD k bH).2 then aj (ts.getD k bH).2 else da m (ts.take k):=by
 induction ts with
 |nil=>intro m k h;simp at h
 |cons t ts ih=>
  intro m k h;cases k with
  |zero=>simp[da]
  |succ k=>simp only[List.take_succ_cons,da];rw[ih _ k (by simpa using h)];simp
theorem Cc:∀(ts:Lt)(m:Int),(∀t∈ts,aj t.2<=120000)->m<=120000->m<=da m ts/\da m ts<=120000
 |[],m,_,hm=>⟨Int.le_refl _,hm⟩
 |t::ts,m,h,hm=>by simp only[da];have h1:=h t (by simp);have h2:=Cc ts (if m<aj t.2 then aj t.2 else m) (λu hu=>h u (by simp[hu])) (by split<;>omega);refine⟨Int.le_trans ?_ h2.1,h2.2⟩;split<;>omega
theorem JU(x:OR)(fs:Lt)(w:OQ)(hm:fs.length<=2400000000000)(hl:∀t∈fs,0<t.2.length/\t.2.length<=3/\∀x∈t.2,0<=x/\x<=40000)(pf:Pl w x fs):Calls prog 15 #[x] w λe w'=>e=.returned (OW (da (-1) fs))/\w'=w:=by
 obtain⟨fa,fc,rfl,_,hfc⟩:=pf;have HFC:=ae hfc;have HL:=ae hl;have HS:OE (∀t∈fs,0<=aj t.2/\aj t.2<=120000):=λt ht=>by have h1:=hl t ht;have h2:=kN t.2 h1.2.2;omega
 clear hfc hl;go_enter func15,ntmps15;go_wp2;go_loop [3,4] (λm i=>∃k:Nat,k<=fs.length/\i=OW k/\m=OW (da (-1) (fs.take k))) (λ_ i=>fs.length-(intOf i).toNat);case atStart=>exact⟨0,NS _,rfl,rfl⟩
 case round=>
  obtain⟨k,hk,rfl,rfl⟩:=hrel;by_cases hk2:k<fs.length
  .obtain⟨b,off,rfl,hlt,hat⟩:=HFC.o (by omega);obtain⟨c0,ev,c1,hse⟩:=hat k hk2;have HT:=ae (JT fs (-1) k hk2);have HLK:=ae (HL.o _ (mv fs k hk2));have htop:=Cc (fs.take k) (-1) (λt ht=>(HS.o t (OA ht)).2) (by omega);generalize da (-1) (fs.take k)=m at HT htop;generalize fs.getD k bH=t at c0 hse HT HLK;obtain⟨tc,te⟩:=t;have HSE:=ae hse;obtain⟨ea,ec,rfl,_⟩:=hse;simp only at c1;have hsb:=kN te HLK.o.2.2;have hl3:te.length<=3:=HLK.o.2.1;have HDG:=ae (λW (h:Sl W (.slice ea te.length ec) te)=>JS _ te W HLK.o.1 HLK.o.2.1 HLK.o.2.2 h);clear hat c0;by_cases hgt:m<aj te
   .go_wp2_with (go_at_call 37;refine(HDG.o _ HSE.o).mono ?_;rintro e w' ⟨rfl,rfl⟩);go_round;case rel=>exact⟨k+1,by omega,by go_num,by rw[HT.o,Oe hgt]⟩
    case measure=>simp[intOf];omega
   .go_wp2_with (go_at_call 37;refine(HDG.o _ HSE.o).mono ?_;rintro e w' ⟨rfl,rfl⟩);go_round;case rel=>exact⟨k+1,by omega,by go_num,by rw[HT.o,Oc (Int.not_lt.2 hgt)]⟩
    case measure=>simp[intOf];omega
  .go_wp2;go_ret;exact⟨cM (by rw[N5 (by omega)]),rfl⟩
def cC(fs:Lt):Bool:=decide (200<da (-1) fs)||decide (2000<fs.length)
def cK(w:OQ)(g:Nat):Prop:=∀j u,w.cell? (OV g j)=some u->∃a n c,u=.slice a n c
theorem cK.below(h:cK w g)(hlt:g<w.heap.size)(hb:LT w w'):cK w' g:=by intro j u hu;rw[hb.cell (p:=(OV g j)) hlt] at hu;exact h j u hu
theorem jZ{b o:Nat}(hg:w.grownBy w' (some g))(hlt:b<w.heap.size)(hne:b≠g):w'.cell? (OV b o)=w.cell? (OV b o):=
 World.cell?_of_block (hg.block b hlt (by simpa using hne))
theorem JV(hk:cK w g)(hg:w.grownBy w' (some g)){xs:OP}(h:Sl w v xs):Sl w' v xs:=by
 obtain⟨a,cap,rfl,h⟩:=h;refine⟨a,cap,rfl,λhp=>?_⟩;obtain⟨b,off,rfl,hlt,hc⟩:=h hp;have hne:b≠g:=by intro e;subst e;obtain⟨_,_,_,hx⟩:=hk _ _ (hc 0 hp);cases hx
 exact⟨b,off,rfl,NQ hlt hg.size,λi hi=>by rw[jZ hg hlt hne];exact hc i hi⟩
theorem mz(hk:cK w g)(hg:w.grownBy w' (some g))(h:Pl w v ts):Pl w' v ts:=by
 obtain⟨a,cap,rfl,hcap,h⟩:=h;refine⟨a,cap,rfl,hcap,λhp=>?_⟩;obtain⟨b,off,rfl,hlt,hc⟩:=h hp;have hne:b≠g:=by intro e;subst e;obtain⟨_,_,_,hx⟩:=hk _ _ (hc 0 hp).1;cases hx
 refine⟨b,off,rfl,NQ hlt hg.size,λi hi=>?_⟩;obtain⟨h1,u,h2,h3⟩:=hc i hi;exact⟨by rw[jZ hg hlt hne];exact h1,u,by rw[jZ hg hlt hne];exact h2,JV hk hg h3⟩
variable{C:Array OR}
theorem sk{T:TypeId}(h:∀u∈C.toList,∃a n c,u=.slice a n c):cK (w.alloc (.cells C T)) w.heap.size:=by
 intro j u hu;have e:(w.alloc (.cells C T)).cell? (OV w.heap.size j)=C[j]?:=by unfold World.cell?;rw[show (w.alloc (.cells C T)).heap[w.heap.size]?=some (.cells C T (0,0)) from heap_alloc_new w _];simp
 rw[e] at hu;exact h u (by rw[Array.mem_toList_iff];exact Array.mem_of_getElem? hu)
theorem sd{T:TypeId}(hg:w.heap[g]?=some (.cells C T (0,0)))(h:∀u∈C.toList,∃a n c,u=.slice a n c):cK w g:=by
 intro j u hu;have e:w.cell? (OV g j)=C[j]?:=by unfold World.cell?;rw[hg];simp
 rw[e] at hu;exact h u (by rw[Array.mem_toList_iff];exact Array.mem_of_getElem? hu)
theorem wu{T:TypeId}(hg:w.heap[g]?=some (.cells C T (0,0)))(h:cK w g):∀u∈C.toList,∃a n c,u=.slice a n c:=by intro u hu;obtain⟨j,hj,rfl⟩:=List.getElem_of_mem hu;refine h j _ ?_;unfold World.cell?;rw[hg];simp at hj⊢
theorem Cd{P:Program}(w:OQ)(base:Nat)(t ty e:TypeId)(i:TypeInfo)(ht:P.underlying t=some (.slice e))(hi:P.info? e=some i)(hz:i.zero=some (.slice none 0 0))(hsize:i.size=1)(hby:i.bytes=24)(v:OR)(n:Nat)(xs:OO)(hown:w.ownsRow base e 1 v n xs)(hk:∀g,v.ownBlock=some g->cK w g)(a:Addr)(c:Nat)(u:OR)(hu:∃a n c,u=.slice a n c)(hnew:∀j x,[u][j]?=some x->w.cell? (a.add j)=some x)(hn:n<=1200000000000)(hbase:base<=w.heap.size):∃v' w',(Builtin.append_ #[t,t] ty #[v,.slice (some a) 1 c]).run P w=.ok v' w'/\w'.ownsRow base e 1 v' (n+1) (xs++[u])/\w.grownBy w' v.ownBlock/\(∀g,v'.ownBlock=some g->cK w' g):=by
 have hone:∀x∈[u],x.oneCell'=true:=by intro x hx;rw[N2] at hx;obtain⟨_,_,_,e⟩:=hu;rw[hx,e];rfl
 obtain⟨v',w',hr,h2,h3,_⟩:=run_append_own (P:=P) w base t ty e i (.slice none 0 0) 1 24 ht hi hz hsize hby rfl (by decide) v n xs hown a 1 c [u] (by simp) hnew hone (by unfold maxLen;omega) (by omega) hbase;refine⟨v',w',hr,h2,h3,?_⟩;have hzero:∀(m:Nat),∀x∈(Builtin.zeroCells (Value.cells (.slice none 0 0)) m).toList,∃a n c,x=.slice a n c:=by intro m x hx;simp[Builtin.zeroCells,Value.cells] at hx;obtain⟨l,_,hx⟩:=hx;rw[Nat.mod_one] at hx;exact⟨none,0,0,by rw[<-hx];rfl⟩
 rcases hown.2 with ⟨rfl,rfl⟩|⟨g,cap,ag,rfl,hbg,hg,hnc,hcm,hcs,htake⟩
 .have hr2:=run_append_nil (P:=P) w t ty e i (.slice none 0 0) ht hi hz a 1 c [u] (by rw[hsize];rfl) hnew (by omega) (by omega) (by rw[hby];omega);rw[hr] at hr2;simp only[Result.ok.injEq] at hr2;obtain⟨rfl,rfl⟩:=hr2;intro g hg;simp only[Value.ownBlock,N7] at hg;subst hg;refine sk (w:=w.drew) (λx hx=>?_);rw[Array.toList_append,N1] at hx;rcases hx with hx|hx
  .simp at hx;rw[hx];exact hu
  .exact hzero _ x hx
 .have hcur:=wu hg (hk g rfl);by_cases hroom:n+1<=cap
  .have hr2:=run_append_room (P:=P) w t ty e i ht hi g n cap ag hg a 1 c [u] (by rw[hsize];rfl) hnew hone hroom (by rw[hsize,hcs];simp;omega);rw[hr] at hr2;simp only[Result.ok.injEq] at hr2;obtain⟨rfl,rfl⟩:=hr2;intro g2 hg2;simp only[Value.ownBlock,N7] at hg2;subst hg2;refine sd (setRow_heap w g ag _ e _ hg) (λx hx=>?_);rw[List.toList_toArray,N1,N1] at hx;rcases hx with (hx|hx)|hx
   .exact hcur x (OA hx)
   .rw[N2] at hx;rw[hx];exact hu
   .exact hcur x (List.mem_of_mem_drop hx)
  .have holds:∀j x,xs[j]?=some x->w.cell? (((OV g 0):Addr).add j)=some x:=hown.cells (g:=g) rfl;have hr2:=run_append_grow (P:=P) w t ty e i (.slice none 0 0) ht hi hz (OV g 0) n cap xs (by rw[hsize];exact hown.1) holds a 1 c [u] (by rw[hsize];rfl) hnew (by omega) (by omega) (growslice_fits (by omega) (by rw[hby];omega));rw[hr] at hr2;simp only[Result.ok.injEq] at hr2;obtain⟨rfl,rfl⟩:=hr2;intro g2 hg2;simp only[Value.ownBlock,N7] at hg2;subst hg2;refine sk (w:=w.drew) (λx hx=>?_);rw[Array.toList_append,Array.toList_append,N1,N1] at hx;rcases hx with (hx|hx)|hx
   .rw[List.toList_toArray,<-htake] at hx;exact hcur x (OA hx)
   .simp at hx;rw[hx];exact hu
   .exact hzero _ x hx
theorem Tryz.infoPolyW:(prog.info? 40).map (λi=>(i.zero,i.size,i.bytes))=some (some (.slice none 0 0),1,24):=by kernel_rfl
def aL:OR:=.slice none 0 0
structure fC(B:Nat)(w:OQ)(v:OR)(us:OO)(fss:OG):Prop where
 len:us.length=fss.length
 own:w.ownsRow B 40 1 v fss.length us
 kind:∀g,v.ownBlock=some g->cK w g
 pls:∀i,i<fss.length->Pl w (us.getD i aL) (fss.getD i [])
variable{us:OO}
theorem fC.next(h:fC B w v us fss)(hb:LT w w'):fC B w' v us fss:=
 ⟨h.len,aF h.own hb,λg hg=>(h.kind g hg).below (NK h.own g hg).2 hb,λi hi=>(h.pls i hi).below hb⟩
theorem fC.nil(B:Nat)(w:OQ):fC B w (.slice none 0 0) [] []:=
 ⟨rfl,World.ownsRow_nil _ _ _ _,λg hg=>by simp[Value.ownBlock] at hg,λi hi=>by simp at hi⟩
theorem fC.snoc{W2:OQ}{v2:OR}{u:OR}{f:Lt}(h:fC B W v us fss)(hu:Pl W u f)(h2:W2.ownsRow B 40 1 v2 (fss.length+1) (us++[u]))(g2:W.grownBy W2 v.ownBlock)(k2:∀g,v2.ownBlock=some g->cK W2 g):fC B W2 v2 (us++[u]) (fss++[f]):=by
 have keep:∀{x:OR}{ts:Lt},Pl W x ts->Pl W2 x ts:=by
  intro x ts hx;cases ho:v.ownBlock with
  |none=>rw[ho] at g2;exact hx.below ⟨g2.os,g2.tape,g2.output,g2.size,λk hk=>g2.block k hk (by simp)⟩
  |some g=>rw[ho] at g2;exact mz (h.kind g ho) g2 hx
 refine⟨by simp[h.len],by rw[N3];exact h2,k2,λi hi=>?_⟩;rw[N3] at hi;simp only[Oh,List.length_nil] at hi;rcases Nat.lt_or_ge i fss.length with hl|hl
 .have e1:(us++[u]).getD i aL=us.getD i aL:=by simp[NY,Ol (show i<us.length by rw[h.len];exact hl)]
  have e2:(fss++[f]).getD i []=fss.getD i []:=by simp[NY,Ol hl]
  rw[e1,e2];exact keep (h.pls i hl)
 .have e:i=fss.length:=by omega
  subst e;have e1:(us++[u]).getD fss.length aL=u:=by rw[<-h.len];simp[NY]
  have e2:(fss++[f]).getD fss.length []=f:=by simp[NY]
  rw[e1,e2];exact keep hu
theorem fC.grown(h:fC B W v us fss)(hb:Below B w W)(hg:W.grownBy w' v.ownBlock)(hB:B<=w.heap.size):Below B w w':=eR h.own hb hg hB
end Go.Proofs.YtjkalahhpobefaaGreat
namespace Go.Proofs.YtjkalahhpobefaaGreat
open Go.Proofs.Tryz
set_option linter.all false
theorem Dw{p o:Int}:∀(l out:Lt)(x:Tm),x∈l.foldl (bZ p o) out->(∃y∈l,x.2=y.2)\/∃u∈out,x.2=u.2
 |[],out,x,h=>Oy ⟨x,h,rfl⟩
 |t::l,out,x,h=>by
  rcases Dw l (bZ p o out t) x h with ⟨y,hy,e⟩|⟨u,hu,e⟩
  .exact Ox ⟨y,by simp[hy],e⟩
  .rcases qU hu with e2|⟨y,hy,e2⟩
   .exact Ox ⟨t,by simp,by rw[e,e2]⟩
   .exact Oy ⟨y,hy,by rw[e,e2]⟩
variable{x:Tm}{p o:Int}
theorem xh{l:Lt}(h:x∈bm p o l):∃y∈l,x.2=y.2:=by
 rcases Dw l [] x (Om.1 h).1 with h|⟨u,hu,_⟩
 .exact h
 .simp at hu
theorem Mv{xs ys:OP}(h:0<aR o xs ys):aj ys<=aj xs:=by
 have h2:=eH (aj xs) (aj ys);unfold aR at h;by_cases hz:aS (aj xs) (aj ys)=0
 .omega
 .rw[Oc hz] at h;omega
theorem Dz:∀(ts:Lt)(m:Int),m<=da m ts/\∀x∈ts,aj x.2<=da m ts
 |[],m=>⟨Int.le_refl _,λx hx=>by simp at hx⟩
 |t::ts,m=>by
  have h:=Dz ts (if m<aj t.2 then aj t.2 else m);simp only[da];have hm:m<=(if m<aj t.2 then aj t.2 else m)/\aj t.2<=(if m<aj t.2 then aj t.2 else m):=by split<;>omega
  refine⟨Int.le_trans hm.1 h.1,λx hx=>?_⟩;rcases Og.1 hx with rfl|hx
  .exact Int.le_trans hm.2 h.1
  .exact h.2 x hx
theorem sT{B:Int}:∀(ts:Lt)(m:Int),(∀x∈ts,aj x.2<=B)->m<=B->da m ts<=B
 |[],m,_,hm=>hm
 |t::ts,m,h,hm=>by simp only[da];refine sT ts _ (λx hx=>h x (by simp[hx])) ?_;have:=h t (by simp);split<;>omega
variable{ts:Lt}
theorem DA(h:∀x∈ts,aj x.2<=200):cC ts=decide (2000<ts.length):=by unfold cC;have:=sT ts (-1) h (by omega);rw[NO (by omega),Bool.false_or]
theorem DB(hx:x∈ts)(h:200<aj x.2):cC ts=true:=by unfold cC;have:=(Dz ts (-1)).2 x hx;rw[NP (by omega),Bool.true_or]
variable{t:Tm}{N:Nat}
theorem oa(h:cq p o N (t::ts)):∀x∈t::ts,aj x.2<=aj t.2:=by
 intro x hx;rcases Og.1 hx with rfl|hx
 .exact Int.le_refl _
 .exact Mv (h.falls.1 x hx)
variable{f g:Lt}{u:Tm}
theorem Mw(hf:cq p o N (t::f))(hg:cq p o N (u::g)):∀x∈bm p o (aH p (t::f) (u::g)),aj x.2<=aj t.2+aj u.2:=by intro x hx;obtain⟨y,hy,e⟩:=xh hx;simp only[Go.Proofs.YtjkalahhpobefaaGreat.aH,cG,OB,N9] at hy;obtain⟨a,ha,b,hb,rfl⟩:=hy;rw[e];simp only;rw[o7 _ _ (by rw[hf.len a ha,hg.len b hb])];have h1:=oa hf a ha;have h2:=oa hg b hb;omega
theorem Mx(he:bo p=0)(hf:cq p o N (t::f))(hg:cq p o N (u::g)):∃x∈bm p o (aH p (t::f) (u::g)),x.2=aP (·+·) t.2 u.2:=by
 apply Oj;intro hno;have hz:az (eQ (aP (·+·) t.2 u.2)) (bm p o (aH p (t::f) (u::g)))=0:=nv (λx hx e=>hno ⟨x,hx,e⟩)
 have hl:=o8 p o (eQ (aP (·+·) t.2 u.2)) (aH p (t::f) (u::g))
 rw[hz] at hl;have lt:=hf.len t (by simp);have lu:=hg.len u (by simp);have e0:aH p (t::f) (u::g)=(t.1*u.1%p,aP (·+·) t.2 u.2)::(cG p t g++aH p f (u::g)):=rfl
 have hne:∀x∈cG p t g++aH p f (u::g),x.2≠aP (·+·) t.2 u.2:=by
  intro x hx e;have pos:0<aR o (aP (·+·) t.2 u.2) x.2:=by
   rcases N1.1 hx with hx|hx
   .simp only[cG,N9] at hx;obtain⟨b,hb,rfl⟩:=hx;have lb:=hg.len b (by simp[hb]);simp only;rw[kZ t.2 u.2,kZ t.2 b.2,qT o u.2 b.2 t.2 (by omega) (by omega)];exact hg.falls.1 b hb
   .simp only[Go.Proofs.YtjkalahhpobefaaGreat.aH,cG,OB,N9] at hx;obtain⟨a,ha,b,hb,rfl⟩:=hx;have la:=hf.len a (by simp[ha]);have lb:=hg.len b hb;simp only;have h1:0<aR o (aP (·+·) t.2 u.2) (aP (·+·) a.2 u.2):=by rw[qT o t.2 a.2 u.2 (by omega) (by omega)];exact hf.falls.1 a ha
    rcases Og.1 hb with rfl|hb
    .exact h1
    .have h2:0<aR o (aP (·+·) a.2 u.2) (aP (·+·) a.2 b.2):=by rw[kZ a.2 u.2,kZ a.2 b.2,qT o u.2 b.2 a.2 (by omega) (by omega)];exact hg.falls.1 b hb
     exact mh o _ _ _ (by rw[ky _ _ _ (by omega),ky _ _ _ (by omega)];omega) (by rw[ky _ _ _ (by omega),ky _ _ _ (by omega)]) h1 h2
  rw[e] at pos;have:=(kY o (aP (·+·) t.2 u.2) (aP (·+·) t.2 u.2) rfl).2 rfl
  omega
 rw[e0] at hl;simp only[az] at hl;rw[nv hne] at hl;have h1:=l8 he (hf.coef t (by simp)).1 (hf.coef t (by simp)).2 (hg.coef u (by simp)).1 (hg.coef u (by simp)).2;have h2:eQ (aP (·+·) t.2 u.2) (aP (·+·) t.2 u.2)=1:=by unfold eQ;rw[Oe rfl]
 rw[h2] at hl;have h3:=uR hl;have:=Int.le_of_dvd (by omega) h3;omega
theorem DC(he:bo p=0)(hf:cq p o N (t::f))(hg:cq p o N (u::g)):cC (bm p o (aH p (t::f) (u::g)))=(decide (200<aj t.2+aj u.2)||decide (2000<(bm p o (aH p (t::f) (u::g))).length)):=by
 by_cases h:200<aj t.2+aj u.2
 .obtain⟨x,hx,e⟩:=Mx he hf hg;rw[DB hx (by rw[e,o7 _ _ (by rw[hf.len t (by simp),hg.len u (by simp)])];exact h),NP h,Bool.true_or]
 .rw[DA (λx hx=>by have:=Mw hf hg x hx;omega),NO h,Bool.false_or]
theorem My(h:f=[]\/g=[]):bm p o (aH p f g)=[]:=by
 rcases h with rfl|rfl
 .rfl
 .have:aH p f []=[]:=by
   unfold Go.Proofs.YtjkalahhpobefaaGreat.aH;induction f with
   |nil=>rfl
   |cons t f ih=>simp[cG]
  rw[this];rfl
end Go.Proofs.YtjkalahhpobefaaGreat
