/- bare.Product. -/
import Derived.Test.YtjkalahhpobefaaGreatPI
import Derived.Deep.CutBlock
import Derived.Deep.RegionHeldLaw
set_option maxHeartbeats 1000000
set_option maxRecDepth 100000
namespace Go.Proofs.YtjkalahhpobefaaGreat
set_option linter.all false
open Go.Proofs.Tryz Go.RowKit
def jc(ts:LT):Prop:=∀t∈ts,∀x∈t.2,0<=x/\x<=20000
variable{ts:LT}
theorem jc.bd(h:jc ts):Bd ts:=λt ht x hx=>by have:=h t ht x hx;omega
theorem ow(ts:LT)(k:Nat)(h:k<ts.length):ts.getD k bV∈ts:=by rw[OH,OI h];simp
theorem wH:∀(a b:PI),(∀x∈a,0<=x/\x<=20000)->(∀x∈b,0<=x/\x<=20000)->∀x∈aP (·+·) a b,0<=x/\x<=40000
 |[],_,_,_,x,hx=>by simp[aP] at hx
 |_::_,[],_,_,x,hx=>by simp[aP] at hx
 |a::ar,b::br,ha,hb,x,hx=>by
  simp only[aP,OY] at hx;rcases hx with rfl|hx
  .have:=ha a (by simp);have:=hb b (by simp);omega
  .exact wH ar br (λy hy=>ha y (by simp[hy])) (λy hy=>hb y (by simp[hy])) x hx
variable{gs:LT}{p:Int}
theorem J3{t:Tm}(ht:∀x∈t.2,0<=x/\x<=20000)(hg:jc gs):Bd (cB p t gs):=by intro u hu;simp only[cB,OR] at hu;obtain⟨g,hgm,rfl⟩:=hu;exact wH _ _ ht (hg g hgm)
theorem J4(p n o v:Int)(N i rb fb gb:Nat)(fv gv:PK)(fs gs:LT)(w:PJ)(hp:2<=p/\p<=101)(hN0:0<N)(hN:N<=3)(hf:ck p o N fs)(hg:ck p o N gs)(bf:jc fs)(bg:jc gs)(hm:gs.length<=1200000000000)(hi:i<fs.length)(hbx:bO w rb p n o v)(hcf:w.cell? (PN fb 0)=some fv)(hcg:w.cell? (PN gb 0)=some gv)(pf:Pl w fv fs)(pg:Pl w gv gs):Calls prog 129 #[PO i,PL rb,PL fb,PL gb] w λe w'=>∃u,e=.returned u/\Pl w' u (cB p (fs.getD i bV) gs)/\Io w w':=by
 have HPG:=ae pg;obtain⟨fa,fc,rfl,_,hfc⟩:=pf;obtain⟨ga,gc,rfl,_,_⟩:=pg;obtain⟨b,off,rfl,hlt,hat⟩:=hfc (by omega);obtain⟨c0,ev,c1,hse⟩:=hat i hi;obtain⟨bx,bx0,bx1,bx2,bx3⟩:=hbx;have HT:=ae (Ow (hf.coef _ (ow fs i hi)) (Ow (hf.len _ (ow fs i hi)) (bf _ (ow fs i hi))));have HG:Po (∀t∈gs,t.2.length=N/\(∀x∈t.2,0<=x/\x<=20000)/\0<=t.1/\t.1<p):=λt ht=>⟨hg.len t ht,bg t ht,by have:=hg.coef t ht;omega,(hg.coef t ht).2⟩;generalize fs.getD i bV=t at c0 hse HT;obtain⟨tc,te⟩:=t;have HSE:=ae hse;obtain⟨ea,ec,rfl,_⟩:=hse;have HP:=ae hp;simp only at c0 c1;have hte0:0<te.length:=by have:=HT.o.2.1;simp only at this;omega
 have hte3:te.length<=3:=by have:=HT.o.2.1;simp only at this;omega
 have KEEP:Po (∀W,Io w W->(Po (Io w W)/\W.cell? (PN rb 0)=some (PO p)/\W.cell? (PN rb 1)=some (PO n)/\W.cell? (PN rb 2)=some (PO o)/\W.cell? (PN rb 3)=some (PO v)/\W.cell? (PN fb 0)=some (.slice (some (PN b off)) fs.length fc)/\W.cell? (PN gb 0)=some (.slice ga gs.length gc)/\W.cell? ⟨b,off+i*2,none⟩=some (PO tc)/\W.cell? ⟨b,off+i*2+1,none⟩=some (.slice ea te.length ec))):=
  λW hb=>⟨hb,af bx0 hb,af bx1 hb,af bx2 hb,af bx3 hb,af hcf hb,af hcg hb,af c0 hb,af c1 hb⟩
 clear hf hg bf bg hfc hat hp;go_enter func129,ntmps129;go_wp2;go_region_held (λW=>Po (Io w W)/\W.cell? (PN rb 0)=some (PO p)/\W.cell? (PN rb 1)=some (PO n)/\W.cell? (PN rb 2)=some (PO o)/\W.cell? (PN rb 3)=some (PO v)/\W.cell? (PN fb 0)=some (.slice (some (PN b off)) fs.length fc)/\W.cell? (PN gb 0)=some (.slice ga gs.length gc)/\W.cell? ⟨b,off+i*2,none⟩=some (PO tc)/\W.cell? ⟨b,off+i*2+1,none⟩=some (.slice ea te.length ec))
  (first|exact KEEP.o _ (Ov _ _).drew|exact KEEP.o _ (j8 (by assumption) hb9 (Ou _)))
  (first|(go_at_call 130;refine(JW p n o v tc _ te _ gs _ HP.o ⟨by have:=HT.o.1;omega,HT.o.1.2⟩ hte0 hte3 HT.o.2.2 (λt ht=>⟨(HG.o t ht).1.trans HT.o.2.1.symm,(HG.o t ht).2⟩) hm ?_ ?_).mono ?_;exact HSE.o.below (Ov _ _).drew;exact HPG.o.below (Ov _ _).drew;rintro e w9 ⟨u,rfl,hu,hb9⟩;have HU:=ae hu;obtain⟨ua,uc,rfl,_,_⟩:=hu))
 have hb19:Io w w9:=Po.o (And.left (by assumption));go_wp2;go_ret;exact⟨_,rfl,HU.o,hb19⟩
structure wI(w w0:PJ)(p n o v:Int)(fv gv:PK):Prop where
 below:Io w w0
 box:bO w0 w.heap.size p n o v
 cf:w0.cell? (PN (w.heap.size+1) 0)=some fv
 cg:w0.cell? (PN (w.heap.size+1+1) 0)=some gv
variable{w:PJ}{fs:LT}{N:Nat}{o:Int}
theorem B8{n v:Int}{fv gv:PK}{w0:PJ}(he:bA p=0)(ho:o=1\/o=2)(hN0:0<N)(hN:N<=3)(hf:ck p o N fs)(hg:ck p o N gs)(bf:jc fs)(bg:jc gs)(lf:fs.length<=2000)(lg:gs.length<=2000)(hb:wI w w0 p n o v fv gv)(pf:Pl w fv fs)(pg:Pl w gv gs):Calls prog 96 #[aI p n o v,PO 0,PO fs.length,.func (.func 129) #[] #[PL w.heap.size,PL (w.heap.size+1),PL (w.heap.size+1+1)]] w0 λe w'=>∃u,e=.returned u/\Pl w' u (aR p o (aH p fs gs))/\Io w0 w':=by
 have hp:=dY he;have H:∀i w',i<fs.length->Io w0 w'->Calls prog 129 #[PO i,PL w.heap.size,PL (w.heap.size+1),PL (w.heap.size+1+1)] w' λe w''=>∃u,e=.returned u/\Pl w'' u (cB p (fs.getD i bV) gs)/\Io w' w'':=by intro i w' hi hbw;have hbb:=In hb.below hbw;exact J4 p n o v N i _ _ _ fv gv fs gs w' hp hN0 hN hf hg bf bg (by omega) hi (hb.box.below hbw) (af hb.cf hbw) (af hb.cg hbw) (pf.below hbb) (pg.below hbb)
 have hF:∀i,i<fs.length->ck p o N (cB p (fs.getD i bV) gs)/\Bd (cB p (fs.getD i bV) gs)/\(cB p (fs.getD i bV) gs).length<=2000:=by intro i hi;have hm:=ow fs i hi;exact⟨AE he (hf.coef _ hm) (hf.len _ hm) hg,J3 (bf _ hm) bg,by simp[cB];omega⟩
 have hL:fs.length*2000<=1200000000000:=by omega
 refine(JZ p n o v N fs.length 2000 (λi=>cB p (fs.getD i bV) gs) _ _ _ w0 hp ho hN0 hN hF (by omega) hL H fs.length 0 fs.length w0 (by omega) (by omega) (Ou _) (Ov _ _)).mono ?_;rintro e w1 ⟨u,ts,rfl,hr,hb1⟩;refine⟨u,rfl,?_,hb1⟩;have hs:=hr.same;rw[Nat.sub_zero,J1] at hs;have ho:=hf.okl.prod hp.1 hg.okl;have e:=ve hp.1 ho.len ho.coef hr.canon hs;rw[<-e];exact hr.pl
theorem sr(p n o v:Int)(N:Nat)(fv gv:PK)(fs gs:LT)(w:PJ)(he:bA p=0)(ho:o=1\/o=2)(hN0:0<N)(hN:N<=3)(hf:ck p o N fs)(hg:ck p o N gs)(bf:jc fs)(bg:jc gs)(lf:fs.length<=2000)(lg:gs.length<=2000)(pf:Pl w fv fs)(pg:Pl w gv gs):Calls prog 95 #[aI p n o v,fv,gv] w λe w'=>∃u,e=.returned u/\Pl w' u (aR p o (aH p fs gs))/\Io w w':=by
 have HPF:=ae pf;have HPG:=ae pg;have HALL:=ae (Ow he (Ow ho (Ow hf (Ow hg (Ow bf bg)))));obtain⟨fa,fc,rfl,_,_⟩:=pf;obtain⟨ga,gc,rfl,_,_⟩:=pg;clear he ho hf hg bf bg;by_cases hlen:gs.length<fs.length
 .have HB:Po (∀T1 T2 T3,wI w ((((w.alloc (.cells #[PO p,PO n,PO o,PO v] T1)).alloc (.cells #[.slice ga gs.length gc] T2)).alloc (.cells #[.slice fa fs.length fc] T3))) p n o v (.slice ga gs.length gc) (.slice fa fs.length fc)):=by intro T1 T2 T3;exact⟨((cY).alloc (by simp;omega) _),⟨by simp;omega,by simp[go_sem],by simp[go_sem],by simp[go_sem],by simp[go_sem]⟩,by simp[go_sem],by simp[go_sem]⟩
  go_enter func95,ntmps95;go_wp2_with fail;refine(B8 HALL.o.1 HALL.o.2.1 hN0 hN HALL.o.2.2.2.1 HALL.o.2.2.1 HALL.o.2.2.2.2.2 HALL.o.2.2.2.2.1 lg lf (HB.o _ _ _) HPG.o HPF.o).mono ?_;rintro e w1 ⟨u,rfl,hu,hb1⟩;rw[GH (dY HALL.o.1).1 HALL.o.2.2.2.1.okl HALL.o.2.2.1.okl] at hu;have HU:=ae hu;have HB1:=ae ((HB.o _ _ _).below.trans (hb1.mono (HB.o _ _ _).below.size));obtain⟨ua,uc,rfl,_,_⟩:=hu;clear hb1;go_wp2;go_ret;exact⟨_,rfl,HU.o,HB1.o⟩
 .have HB:Po (∀T1 T2 T3,wI w ((((w.alloc (.cells #[PO p,PO n,PO o,PO v] T1)).alloc (.cells #[.slice fa fs.length fc] T2)).alloc (.cells #[.slice ga gs.length gc] T3))) p n o v (.slice fa fs.length fc) (.slice ga gs.length gc)):=by intro T1 T2 T3;exact⟨((cY).alloc (by simp;omega) _),⟨by simp;omega,by simp[go_sem],by simp[go_sem],by simp[go_sem],by simp[go_sem]⟩,by simp[go_sem],by simp[go_sem]⟩
  go_enter func95,ntmps95;go_wp2_with fail;refine(B8 HALL.o.1 HALL.o.2.1 hN0 hN HALL.o.2.2.1 HALL.o.2.2.2.1 HALL.o.2.2.2.2.1 HALL.o.2.2.2.2.2 lf lg (HB.o _ _ _) HPF.o HPG.o).mono ?_;rintro e w1 ⟨u,rfl,hu,hb1⟩;have HU:=ae hu;have HB1:=ae ((HB.o _ _ _).below.trans (hb1.mono (HB.o _ _ _).below.size));obtain⟨ua,uc,rfl,_,_⟩:=hu;clear hb1;go_wp2;go_ret;exact⟨_,rfl,HU.o,HB1.o⟩
theorem wJ(p o:Int)(t:Tm)(post:LT):∀pre:LT,(∀u∈pre,0<aW o u.2 t.2)->bZ p o (pre++post) t=pre++bZ p o post t
 |[],_=>rfl
 |u::pre,h=>by simp only[List.cons_append,bZ];rw[OW (h u (by simp)),wJ p o t post pre (λx hx=>h x (by simp[hx]))]
theorem B9{p o:Int}{t:Tm}:∀out:LT,(bZ p o out t).length<=out.length+1
 |[]=>by simp[bZ]
 |u::out=>by
  simp only[bZ];split
  .have:=B9 (p:=p) (o:=o) (t:=t) out;simp only[OZ];omega
  .split<;>simp only[OZ]<;>omega
theorem Ca{p o:Int}:∀(l out:LT),(l.foldl (bZ p o) out).length<=out.length+l.length
 |[],out=>by simp
 |t::l,out=>by simp only[List.foldl_cons,OZ];have h1:=Ca (p:=p) (o:=o) l (bZ p o out t);have h2:=B9 (p:=p) (o:=o) (t:=t) out;omega
structure iN(Φ:PK->Prop)(p o:Int)(w1 wr:PJ)(ts:LT)(k:Nat)(v:PK)(outs:List TV):Prop where
 own:wr.ownsRow w1.heap.size 47 2 v outs.length (bm outs)
 es:Es w1 outs
 below:Io w1 wr
 eq:outs.map tm=(ts.take k).foldl (bZ p o) []
 nil:outs=[]->v=.slice none 0 0
 ap:∀t∈outs,Φ t.2.1
variable{outs:List TV}{v:PK}{k:Nat}{w1 wr w':PJ}{Φ:PK->Prop}
theorem iN.next(h:iN Φ p o w1 wr ts k v outs)(hb:Io wr w'):iN Φ p o w1 w' ts k v outs:=
 ⟨aF h.own hb,h.es,In h.below hb,h.eq,h.nil,h.ap⟩
theorem iN.len(h:iN Φ p o w1 wr ts k v outs):outs.length<=k:=by have h1:=Ca (p:=p) (o:=o) (ts.take k) [];rw[<-h.eq] at h1;rw[OS] at h1;have h2:=List.length_take_le k ts;simp only[List.length_nil] at h1;omega
theorem iN.at(h:iN Φ p o w1 wr ts k v outs)(h0:0<outs.length):∃g cap,v=PM g outs.length cap/\outs.length<=cap/\w1.heap.size<=g/\g<wr.heap.size/\(∀j,wr.frozen? (PN g j)=false)/\∀j u,(bm outs)[j]?=some u->wr.cell? (PN g j)=some u:=by
 rcases h.own.2 with ⟨h1,h2⟩|⟨g,cap,ag,rfl,hg,hh,hn,hm,hcs,ht⟩
 .omega
 .have hlt:=Ot h.own g rfl;refine⟨g,cap,rfl,hn,hlt.1,hlt.2,λj=>h.own.frozenAt j,λj u hj=>?_⟩;have hjl:j<outs.length*2:=by rw[<-mF];apply OU;intro hle;rw[OJ hle] at hj;simp at hj
  rw[h.own.cellAt j hjl];exact hj
theorem Cb:∀(j:Nat)(ts:List TV)(c:Int),j<ts.length->(bm ts).set (j*2) (PO c)=bm (ts.set j (c,(ts.getD j cX).2))
 |_,[],c,h=>by simp at h
 |0,t::ts,c,_=>by simp[pM]
 |j+1,t::ts,c,h=>by rw[pM,show (j+1)*2=j*2+1+1 by omega];simp only[List.set_cons_succ,pM];rw[Cb j ts c (by simpa using h)];simp
variable{t:TV}{j:Nat}
theorem J5(hm:∀u∈outs.take j,0<aW o u.2.2 t.2.2)(hn:j<outs.length->¬0<aW o (outs.getD j cX).2.2 t.2.2)(hs:¬(j<outs.length/\(outs.getD j cX).2.2=t.2.2)):bZ p o (outs.map tm) (tm t)=(outs.take j++[t]++outs.drop j).map tm:=by
 have e:outs.map tm=(outs.take j).map tm++(outs.drop j).map tm:=by rw[<-O0,List.take_append_drop]
 rw[e,wJ _ _ _ _ _ (λu hu=>by
  obtain⟨x,hx,rfl⟩:=OR.1 hu;exact hm x hx)]
 rw[List.append_assoc,O0];congr 1;by_cases hj:j<outs.length
 .have e2:outs.drop j=outs.getD j cX::outs.drop (j+1):=by rw[Pd hj];simp[OH,hj]
  rw[e2];simp only[List.map_cons,List.singleton_append,bZ];rw[OV (by exact hn hj),OV (by exact λh=>hs ⟨hj,h⟩)]
 .rw[Pe (by omega)];rfl
theorem J6(hm:∀u∈outs.take j,0<aW o u.2.2 t.2.2)(hj:j<outs.length)(hs:(outs.getD j cX).2.2=t.2.2)(hn:¬0<aW o (outs.getD j cX).2.2 t.2.2):bZ p o (outs.map tm) (tm t)=(outs.set j (((outs.getD j cX).1+t.1)%p,(outs.getD j cX).2)).map tm:=by
 have e:outs.map tm=(outs.take j).map tm++(outs.drop j).map tm:=by rw[<-O0,List.take_append_drop]
 have e3:outs.set j (((outs.getD j cX).1+t.1)%p,(outs.getD j cX).2)=outs.take j++(((outs.getD j cX).1+t.1)%p,(outs.getD j cX).2)::outs.drop (j+1):=by rw[List.set_eq_take_append_cons_drop,OW hj]
 rw[e,wJ _ _ _ _ _ (λu hu=>by
  obtain⟨x,hx,rfl⟩:=OR.1 hu;exact hm x hx),e3,O0]
 congr 1;have e2:outs.drop j=outs.getD j cX::outs.drop (j+1):=by rw[Pd hj];simp[OH,hj]
 rw[e2];simp only[List.map_cons,bZ];rw[OV (by exact hn),OW (by exact hs)];rfl
variable{v':PK}
theorem iN.grow(h:iN Φ p o w1 wr ts k v outs)(ht:ts.take (k+1)=ts.take k++[tm t])(hs:Sl w1 t.2.1 t.2.2)(hΦ:Φ t.2.1)(hj:j<=outs.length)(hm:∀u∈outs.take j,0<aW o u.2.2 t.2.2)(hn:j<outs.length->¬0<aW o (outs.getD j cX).2.2 t.2.2)(hsm:¬(j<outs.length/\(outs.getD j cX).2.2=t.2.2))(hb:Io wr w')(hown:w'.ownsRow w1.heap.size 47 2 v' (j+1+(outs.length-j)) (bm (outs.take j)++bm [t]++bm (outs.drop j))):iN Φ p o w1 w' ts (k+1) v' (outs.take j++[t]++outs.drop j):=by
 have el:(outs.take j++[t]++outs.drop j).length=j+1+(outs.length-j):=by simp only[OM,O7,List.length_drop,OZ,List.length_nil];omega
 refine⟨?_,?_,In h.below hb,?_,λe=>?_,?_⟩
 .rw[el,kG,kG];exact hown
 .intro u hu;rcases OK.1 hu with hu|hu
  .rcases OK.1 hu with hu|hu
   .exact h.es u (Pj hu)
   .rw[OL] at hu;subst hu;exact hs
  .exact h.es u (List.mem_of_mem_drop hu)
 .rw[ht,List.foldl_append,<-h.eq];simp only[List.foldl_cons,List.foldl_nil];exact(J5 hm hn hsm).symm
 .have:(outs.take j++[t]++outs.drop j).length=0:=by rw[e];rfl
  omega
 .intro u hu;rcases OK.1 hu with hu|hu
  .rcases OK.1 hu with hu|hu
   .exact h.ap u (Pj hu)
   .rw[OL] at hu;subst hu;exact hΦ
  .exact h.ap u (List.mem_of_mem_drop hu)
variable{g:Nat}
theorem iN.put{cap:Nat}{c:Int}(h:iN Φ p o w1 wr ts k (PM g outs.length cap) outs)(ht:ts.take (k+1)=ts.take k++[tm t])(hj:j<outs.length)(hm:∀u∈outs.take j,0<aW o u.2.2 t.2.2)(hn:¬0<aW o (outs.getD j cX).2.2 t.2.2)(hs:(outs.getD j cX).2.2=t.2.2)(hc:c=((outs.getD j cX).1+t.1)%p)(hg:w1.heap.size<=g):iN Φ p o w1 (wr.setCell ⟨g,j*2,none⟩ (PO c)) ts (k+1) (PM g outs.length cap) (outs.set j (c,(outs.getD j cX).2)):=by
 have s1:=h.own.stored (j*2) (PO c);rw[Cb j outs c hj] at s1;refine⟨?_,?_,h.below.trans (cQ s1.2 hg h.below.size),?_,λe=>?_,?_⟩
 .rw[List.length_set];exact s1.1
 .intro u hu;rcases List.mem_or_eq_of_mem_set hu with hu|hu
  .exact h.es u hu
  .subst hu;have h1:=h.es _ (mG outs j hj);exact h1
 .rw[ht,List.foldl_append,<-h.eq];simp only[List.foldl_cons,List.foldl_nil];rw[hc];exact(J6 hm hj hs hn).symm
 .have:(outs.set j (c,(outs.getD j cX).2)).length=0:=by rw[e];rfl
  rw[List.length_set] at this;omega
 .intro u hu;rcases List.mem_or_eq_of_mem_set hu with hu|hu
  .exact h.ap u hu
  .subst hu;have h1:=h.ap _ (mG outs j hj);exact h1
variable{xs:PH}{n s B:Nat}
theorem JL{B':Nat}{T:TypeId}(h:w.ownsRow B' T s v n xs)(hb:B<=B'):w.ownsRow B T s v n xs:=by
 obtain⟨h1,h2⟩:=h;refine⟨h1,?_⟩;rcases h2 with h2|⟨g,c,ag,e,hg,r⟩
 .exact Pf h2
 .exact Pg ⟨g,c,ag,e,OA hb hg,r⟩
variable{W:PJ}
theorem eS{T:TypeId}(h:W.ownsRow B T s v n xs)(hb:Below B w W)(hg:W.grownBy w' v.ownBlock)(hB:B<=w.heap.size):Below B w w':=
 hb.grown hg (OA hB hb.size) (λk hk=>(Ot h k hk).1)
def sG(r:Option Nat)(v:PK):Prop:=∀b off n c,v=.slice (some (PN b off)) n c->some b≠r
theorem Kq{r:Option Nat}{xs:PI}(h:w.grownBy w' r)(hs:Sl w v xs)(hne:sG r v):Sl w' v xs:=by obtain⟨a,cap,rfl,h1⟩:=hs;refine⟨a,cap,rfl,λhp=>?_⟩;obtain⟨b,off,rfl,hlt,hc⟩:=h1 hp;exact⟨b,off,rfl,Oz hlt h.size,λi hi=>h.cell (hc i hi) (hne b off _ _ rfl)⟩
structure ox(N:Nat)(w1 wr:PJ)(v:PK)(ls:List TV):Prop where
 own:wr.ownsRow w1.heap.size 47 2 v ls.length (bm ls)
 es:Es wr ls
 ap:∀t∈ls,sG v.ownBlock t.2.1
 ln:∀t∈ls,t.2.2.length=N
 below:Io w1 wr
variable{ls:List TV}
theorem ox.next(h:ox N w1 wr v ls)(hb:Io wr w'):ox N w1 w' v ls:=
 ⟨aF h.own hb,h.es.below hb,h.ap,h.ln,In h.below hb⟩
theorem ox.add(hN:0<N)(h:ox N w1 wr v ls)(hs:Sl wr t.2.1 t.2.2)(hl:t.2.2.length=N)(ha:sG v.ownBlock t.2.1)(hown:w'.ownsRow w1.heap.size 47 2 v' (ls.length+1) (bm ls++bm [t]))(hg:wr.grownBy w' v.ownBlock)(hloc:v'.ownBlock=v.ownBlock\/v'.ownBlock=some wr.heap.size):ox N w1 w' v' (ls++[t]):=by
 have hall:∀u∈ls++[t],Sl wr u.2.1 u.2.2/\sG v.ownBlock u.2.1/\u.2.2.length=N:=by
  intro u hu;rcases OK.1 hu with hu|hu
  .exact⟨h.es u hu,h.ap u hu,h.ln u hu⟩
  .rw[OL] at hu;subst hu;exact⟨hs,ha,hl⟩
 refine⟨by rw[kG,OM];exact hown,λu hu=>Kq hg (hall u hu).1 (hall u hu).2.1,λu hu=>?_,λu hu=>(hall u hu).2.2,eS h.own h.below hg (Ou _)⟩;rcases hloc with e|e
 .rw[e];exact(hall u hu).2.1
 .rw[e];intro b off n c hv hb;obtain⟨a,cap,hv2,h1⟩:=(hall u hu).1;obtain⟨b2,off2,hv3,hlt,_⟩:=h1 (by rw[(hall u hu).2.2];exact hN);rw[hv2,hv3] at hv;simp only[OQ,OP,Addr.mk.injEq] at hv hb;omega
theorem Kr(hp:2<=p)(lf:eJ N fs)(lg:eJ N gs)(bf:jc fs)(bg:jc gs):∀t∈aH p fs gs,lG p N t:=by intro t ht;simp only[Go.Proofs.YtjkalahhpobefaaGreat.aH,cB,Pk,OR] at ht;obtain⟨a,ha,b,hb,rfl⟩:=ht;refine⟨by simp only;rw[kC _ _ _ (by rw[lf a ha,lg b hb])];exact lf a ha,wH _ _ (bf a ha) (bg b hb),Int.emod_nonneg _ (by omega),Int.emod_lt_of_pos _ (by omega)⟩
def kI(o:Int)(q:Option (PI))(e:PI):Bool:=
 match q with
 |some x=>ol o x e
 |none=>true
def lI(p n o:Int):Option (PI)->LT->Int
 |_,[]=>0
 |q,t::ts=>if eW t.1 1 (p-1)=false then 3 else if cU n t.2≠0 then cU n t.2 else if kI o q t.2=false then 4 else lI p n o (some t.2) ts
def lJ(ts:LT):Nat->Option (PI)
 |0=>none
 |k+1=>some (ts.getD k bV).2
theorem Ks(p n o:Int)(ts:LT)(k:Nat)(h:k<ts.length)(q:Option (PI)):lI p n o q (ts.drop k)=if eW (ts.getD k bV).1 1 (p-1)=false then 3 else if cU n (ts.getD k bV).2≠0 then cU n (ts.getD k bV).2 else if kI o q (ts.getD k bV).2=false then 4 else lI p n o (lJ ts (k+1)) (ts.drop (k+1)):=by
 rw[Pd h];have e:ts.getD k bV=ts[k]:=by simp[OH,h]
 rw[lJ,e];rfl
def ep(p n o:Int)(ts:LT):Int:=if 2000<ts.length then 2 else lI p n o none ts
theorem Co{p o:Int}{N:Nat}:∀(ts:LT) (q:Option (PI)),lI p N o q ts=0->(∀e,q=some e->e.length=N)->(∀t∈ts,(1<=t.1/\t.1<p)/\cU N t.2=0)/\ij o ts/\(∀e t ts',q=some e->ts=t::ts'->0<aW o e t.2)
 |[],q,_,_=>⟨λt ht=>by simp at ht,trivial,λe t ts' _ h=>by simp at h⟩
 |t::ts,q,h,hq=>by
  have hu:lI p N o q (t::ts)=if eW t.1 1 (p-1)=false then 3 else if cU N t.2≠0 then cU N t.2 else if kI o q t.2=false then 4 else lI p N o (some t.2) ts:=rfl
  rw[hu] at h;clear hu;by_cases h1:eW t.1 1 (p-1)=false
  .rw[OW h1] at h;omega
  rw[OV h1] at h;by_cases h2:cU N t.2≠0
  .rw[OW h2] at h;exact absurd h h2
  rw[OV h2] at h;by_cases h3:kI o q t.2=false
  .rw[OW h3] at h;omega
  rw[OV h3] at h;have h2':cU N t.2=0:=by omega
  have hl:t.2.length=N:=by have:=(kS h2').1;omega
  obtain⟨i1,i2,i3⟩:=Co ts (some t.2) h (λe he=>by simp at he;rw[<-he];exact hl);have hb:1<=t.1/\t.1<p:=by simp[eW] at h1;omega
  refine⟨λu hu=>?_,⟨λu hu=>?_,i2⟩,λe u ts' he hu=>?_⟩
  .rcases OY.1 hu with rfl|hu
   .exact⟨hb,h2'⟩
   .exact i1 u hu
  .cases ts with
   |nil=>simp at hu
   |cons x xs=>
    have hx:=i3 t.2 x xs rfl rfl;rcases OY.1 hu with rfl|hu
    .exact hx
    .have l1:x.2.length=N:=by have:=(kS (i1 x (by simp)).2).1;omega
     have l2:u.2.length=N:=by have:=(kS (i1 u (by simp[hu])).2).1;omega
     exact mr o t.2 x.2 u.2 (by omega) (by omega) hx (i2.1 u hu)
  .rw[he] at h3;simp only[List.cons.injEq] at hu;obtain⟨rfl,_⟩:=hu;simpa [kI,ol] using h3
structure fO(p o:Int)(N:Nat)(ts:LT):Prop where
 canon:ck p o N ts
 bd:jc ts
 len:ts.length<=2000
 deg:∀t∈ts,au t.2<=200
theorem rU(h:ep p N o ts=0):fO p o N ts:=by
 unfold ep at h;split at h
 .omega
 rename_i hl;obtain⟨h1,h2,_⟩:=Co ts none h (λe he=>by simp at he);refine⟨⟨λt ht=>?_,h2,λt ht=>(h1 t ht).1⟩,λt ht x hx=>by have h9:=(kS (h1 t ht).2).2.1 x hx;omega,by omega,λt ht=>(kS (h1 t ht).2).2.2⟩;have:=(kS (h1 t ht).2).1;omega
theorem Kt(h:0<k)(h2:k<=2000):IntKind.i64.wrap ((k:Int)-1)=(k:Int)-1:=by rw[IntKind.wrap_i64];omega
theorem Ku(h:0<k)(h2:k<n):(0:Int)<=(k:Int)-1/\(k:Int)-1<(n:Int)/\((k:Int)-1).toNat=k-1/\(1:Int)<=(k:Int)/\(k:Int)<=(n:Int)/\¬(k:Int)<1/\¬(n:Int)<=(k:Int)-1:=⟨by omega,by omega,by omega,by omega,by omega,by omega,by omega⟩
theorem Kv(p o:Int)(N:Nat):fO p o N []:=⟨⟨λt ht=>by simp at ht,trivial,λt ht=>by simp at ht⟩,λt ht=>by simp at ht,by simp,λt ht=>by simp at ht⟩
def dC(p n o:Int):Lt->Int
 |[]=>0
 |f::r=>if ep p n o f=0 then dC p n o r else ep p n o f
theorem J9(p n o:Int)(fss:Lt)(k:Nat)(h:k<fss.length):dC p n o (fss.drop k)=if ep p n o (fss.getD k [])=0 then dC p n o (fss.drop (k+1)) else ep p n o (fss.getD k []):=by rw[Pd h];simp[dC,OH,h]
def i7(p n o v:Int)(fss:Lt):Int:=if bE p n o v=0 then dC p n o fss else bE p n o v
theorem sB{p n o:Int}:∀{fss:Lt},dC p n o fss=0->∀f∈fss,ep p n o f=0
 |[],_,f,hf=>by simp at hf
 |g::r,h,f,hf=>by
  unfold dC at h;by_cases hg:ep p n o g=0
  .rw[OW hg] at h;rcases OY.1 hf with rfl|hf
   .exact hg
   .exact sB h f hf
  .rw[OV hg] at h;exact absurd h hg
variable{fss:Lt}
theorem Cp{n v:Int}(h:i7 p n o v fss=0):bE p n o v=0/\∀f∈fss,ep p n o f=0:=by
 unfold i7 at h;by_cases hr:bE p n o v=0
 .rw[OW hr] at h;exact⟨hr,sB h⟩
 .rw[OV hr] at h;exact absurd h hr
def fz(m:Int):LT->Int
 |[]=>m
 |t::ts=>fz (if m<au t.2 then au t.2 else m) ts
def bF(fs:LT):Bool:=decide (200<fz (-1) fs)||decide (2000<fs.length)
def cG(w:PJ)(g:Nat):Prop:=∀j u,w.cell? (PN g j)=some u->∃a n c,u=.slice a n c
theorem cG.below(h:cG w g)(hlt:g<w.heap.size)(hb:Io w w'):cG w' g:=by intro j u hu;rw[hb.cell (p:=(PN g j)) hlt] at hu;exact h j u hu
theorem j7{b o:Nat}(hg:w.grownBy w' (some g))(hlt:b<w.heap.size)(hne:b≠g):w'.cell? (PN b o)=w.cell? (PN b o):=
 World.cell?_of_block (hg.block b hlt (by simpa using hne))
theorem Kw(hk:cG w g)(hg:w.grownBy w' (some g)){xs:PI}(h:Sl w v xs):Sl w' v xs:=by
 obtain⟨a,cap,rfl,h⟩:=h;refine⟨a,cap,rfl,λhp=>?_⟩;obtain⟨b,off,rfl,hlt,hc⟩:=h hp;have hne:b≠g:=by intro e;subst e;obtain⟨_,_,_,hx⟩:=hk _ _ (hc 0 hp);cases hx
 exact⟨b,off,rfl,Oz hlt hg.size,λi hi=>by rw[j7 hg hlt hne];exact hc i hi⟩
theorem mD(hk:cG w g)(hg:w.grownBy w' (some g))(h:Pl w v ts):Pl w' v ts:=by
 obtain⟨a,cap,rfl,hcap,h⟩:=h;refine⟨a,cap,rfl,hcap,λhp=>?_⟩;obtain⟨b,off,rfl,hlt,hc⟩:=h hp;have hne:b≠g:=by intro e;subst e;obtain⟨_,_,_,hx⟩:=hk _ _ (hc 0 hp).1;cases hx
 refine⟨b,off,rfl,Oz hlt hg.size,λi hi=>?_⟩;obtain⟨h1,u,h2,h3⟩:=hc i hi;exact⟨by rw[j7 hg hlt hne];exact h1,u,by rw[j7 hg hlt hne];exact h2,Kw hk hg h3⟩
variable{C:Array PK}
theorem sH{T:TypeId}(h:∀u∈C.toList,∃a n c,u=.slice a n c):cG (w.alloc (.cells C T)) w.heap.size:=by
 intro j u hu;have e:(w.alloc (.cells C T)).cell? (PN w.heap.size j)=C[j]?:=by unfold World.cell?;rw[show (w.alloc (.cells C T)).heap[w.heap.size]?=some (.cells C T (0,0)) from heap_alloc_new w _];simp
 rw[e] at hu;exact h u (by rw[Array.mem_toList_iff];exact Array.mem_of_getElem? hu)
theorem r8{T:TypeId}(hg:w.heap[g]?=some (.cells C T (0,0)))(h:∀u∈C.toList,∃a n c,u=.slice a n c):cG w g:=by
 intro j u hu;have e:w.cell? (PN g j)=C[j]?:=by unfold World.cell?;rw[hg];simp
 rw[e] at hu;exact h u (by rw[Array.mem_toList_iff];exact Array.mem_of_getElem? hu)
theorem wD{T:TypeId}(hg:w.heap[g]?=some (.cells C T (0,0)))(h:cG w g):∀u∈C.toList,∃a n c,u=.slice a n c:=by intro u hu;obtain⟨j,hj,rfl⟩:=List.getElem_of_mem hu;refine h j _ ?_;unfold World.cell?;rw[hg];simp at hj⊢
theorem Cq{P:Program}(w:PJ)(base:Nat)(t ty e:TypeId)(i:TypeInfo)(ht:P.underlying t=some (.slice e))(hi:P.info? e=some i)(hz:i.zero=some (.slice none 0 0))(hsize:i.size=1)(hby:i.bytes=24)(v:PK)(n:Nat)(xs:PH)(hown:w.ownsRow base e 1 v n xs)(hk:∀g,v.ownBlock=some g->cG w g)(a:Addr)(c:Nat)(u:PK)(hu:∃a n c,u=.slice a n c)(hnew:∀j x,[u][j]?=some x->w.cell? (a.add j)=some x)(hn:n<=1200000000000)(hbase:base<=w.heap.size):∃v' w',(Builtin.append_ #[t,t] ty #[v,.slice (some a) 1 c]).run P w=.ok v' w'/\w'.ownsRow base e 1 v' (n+1) (xs++[u])/\w.grownBy w' v.ownBlock/\(∀g,v'.ownBlock=some g->cG w' g):=by
 have hone:∀x∈[u],x.oneCell'=true:=by intro x hx;rw[OL] at hx;obtain⟨_,_,_,e⟩:=hu;rw[hx,e];rfl
 obtain⟨v',w',hr,h2,h3,_⟩:=run_append_own (P:=P) w base t ty e i (.slice none 0 0) 1 24 ht hi hz hsize hby rfl (by decide) v n xs hown a 1 c [u] (by simp) hnew hone (by unfold maxLen;omega) (by omega) hbase;refine⟨v',w',hr,h2,h3,?_⟩;have hzero:∀(m:Nat),∀x∈(Builtin.zeroCells (Value.cells (.slice none 0 0)) m).toList,∃a n c,x=.slice a n c:=by intro m x hx;simp[Builtin.zeroCells,Value.cells] at hx;obtain⟨l,_,hx⟩:=hx;rw[Nat.mod_one] at hx;exact⟨none,0,0,by rw[<-hx];rfl⟩
 rcases hown.2 with ⟨rfl,rfl⟩|⟨g,cap,ag,rfl,hbg,hg,hnc,hcm,hcs,htake⟩
 .have hr2:=run_append_nil (P:=P) w t ty e i (.slice none 0 0) ht hi hz a 1 c [u] (by rw[hsize];rfl) hnew (by omega) (by omega) (by rw[hby];omega);rw[hr] at hr2;simp only[Result.ok.injEq] at hr2;obtain⟨rfl,rfl⟩:=hr2;intro g hg;simp only[Value.ownBlock,OP] at hg;subst hg;refine sH (w:=w.drew) (λx hx=>?_);rw[Array.toList_append,OK] at hx;rcases hx with hx|hx
  .simp at hx;rw[hx];exact hu
  .exact hzero _ x hx
 .have hcur:=wD hg (hk g rfl);by_cases hroom:n+1<=cap
  .have hr2:=run_append_room (P:=P) w t ty e i ht hi g n cap ag hg a 1 c [u] (by rw[hsize];rfl) hnew hone hroom (by rw[hsize,hcs];simp;omega);rw[hr] at hr2;simp only[Result.ok.injEq] at hr2;obtain⟨rfl,rfl⟩:=hr2;intro g2 hg2;simp only[Value.ownBlock,OP] at hg2;subst hg2;refine r8 (setRow_heap w g ag _ e _ hg) (λx hx=>?_);rw[List.toList_toArray,OK,OK] at hx;rcases hx with (hx|hx)|hx
   .exact hcur x (Pj hx)
   .rw[OL] at hx;rw[hx];exact hu
   .exact hcur x (List.mem_of_mem_drop hx)
  .have holds:∀j x,xs[j]?=some x->w.cell? (((PN g 0):Addr).add j)=some x:=hown.cells (g:=g) rfl;have hr2:=run_append_grow (P:=P) w t ty e i (.slice none 0 0) ht hi hz (PN g 0) n cap xs (by rw[hsize];exact hown.1) holds a 1 c [u] (by rw[hsize];rfl) hnew (by omega) (by omega) (growslice_fits (by omega) (by rw[hby];omega));rw[hr] at hr2;simp only[Result.ok.injEq] at hr2;obtain⟨rfl,rfl⟩:=hr2;intro g2 hg2;simp only[Value.ownBlock,OP] at hg2;subst hg2;refine sH (w:=w.drew) (λx hx=>?_);rw[Array.toList_append,Array.toList_append,OK,OK] at hx;rcases hx with (hx|hx)|hx
   .rw[List.toList_toArray,<-htake] at hx;exact hcur x (Pj hx)
   .simp at hx;rw[hx];exact hu
   .exact hzero _ x hx
theorem Tryz.infoPolyW:(prog.info? 40).map (λi=>(i.zero,i.size,i.bytes))=some (some (.slice none 0 0),1,24):=by kernel_rfl
def aL:PK:=.slice none 0 0
structure fB(B:Nat)(w:PJ)(v:PK)(us:PH)(fss:Lt):Prop where
 len:us.length=fss.length
 own:w.ownsRow B 40 1 v fss.length us
 kind:∀g,v.ownBlock=some g->cG w g
 pls:∀i,i<fss.length->Pl w (us.getD i aL) (fss.getD i [])
variable{us:PH}
theorem fB.next(h:fB B w v us fss)(hb:Io w w'):fB B w' v us fss:=
 ⟨h.len,aF h.own hb,λg hg=>(h.kind g hg).below (Ot h.own g hg).2 hb,λi hi=>(h.pls i hi).below hb⟩
theorem fB.nil(B:Nat)(w:PJ):fB B w (.slice none 0 0) [] []:=
 ⟨rfl,World.ownsRow_nil _ _ _ _,λg hg=>by simp[Value.ownBlock] at hg,λi hi=>by simp at hi⟩
theorem fB.snoc{W2:PJ}{v2:PK}{u:PK}{f:LT}(h:fB B W v us fss)(hu:Pl W u f)(h2:W2.ownsRow B 40 1 v2 (fss.length+1) (us++[u]))(g2:W.grownBy W2 v.ownBlock)(k2:∀g,v2.ownBlock=some g->cG W2 g):fB B W2 v2 (us++[u]) (fss++[f]):=by
 have keep:∀{x:PK}{ts:LT},Pl W x ts->Pl W2 x ts:=by
  intro x ts hx;cases ho:v.ownBlock with
  |none=>rw[ho] at g2;exact hx.below ⟨g2.os,g2.tape,g2.output,g2.size,λk hk=>g2.block k hk (by simp)⟩
  |some g=>rw[ho] at g2;exact mD (h.kind g ho) g2 hx
 refine⟨by simp[h.len],by rw[OM];exact h2,k2,λi hi=>?_⟩;rw[OM] at hi;simp only[OZ,List.length_nil] at hi;rcases Nat.lt_or_ge i fss.length with hl|hl
 .have e1:(us++[u]).getD i aL=us.getD i aL:=by simp[OH,O4 (show i<us.length by rw[h.len];exact hl)]
  have e2:(fss++[f]).getD i []=fss.getD i []:=by simp[OH,O4 hl]
  rw[e1,e2];exact keep (h.pls i hl)
 .have e:i=fss.length:=by omega
  subst e;have e1:(us++[u]).getD fss.length aL=u:=by rw[<-h.len];simp[OH]
  have e2:(fss++[f]).getD fss.length []=f:=by simp[OH]
  rw[e1,e2];exact keep hu
theorem fB.grown(h:fB B W v us fss)(hb:Below B w W)(hg:W.grownBy w' v.ownBlock)(hB:B<=w.heap.size):Below B w w':=eS h.own hb hg hB
end Go.Proofs.YtjkalahhpobefaaGreat
namespace Go.Proofs.YtjkalahhpobefaaGreat
open Go.Proofs.Tryz
set_option linter.all false
theorem Ct{p o:Int}:∀(l out:LT)(x:Tm),x∈l.foldl (bZ p o) out->(∃y∈l,x.2=y.2)\/∃u∈out,x.2=u.2
 |[],out,x,h=>Pg ⟨x,h,rfl⟩
 |t::l,out,x,h=>by
  rcases Ct l (bZ p o out t) x h with ⟨y,hy,e⟩|⟨u,hu,e⟩
  .exact Pf ⟨y,by simp[hy],e⟩
  .rcases rj hu with e2|⟨y,hy,e2⟩
   .exact Pf ⟨t,by simp,by rw[e,e2]⟩
   .exact Pg ⟨y,hy,by rw[e,e2]⟩
variable{x:Tm}{p o:Int}
theorem sJ{l:LT}(h:x∈aR p o l):∃y∈l,x.2=y.2:=by
 rcases Ct l [] x (O5.1 h).1 with h|⟨u,hu,_⟩
 .exact h
 .simp at hu
theorem Kx{xs ys:PI}(h:0<aW o xs ys):au ys<=au xs:=by
 have h2:=iK (au xs) (au ys);unfold aW at h;by_cases hz:bi (au xs) (au ys)=0
 .omega
 .rw[OV hz] at h;omega
theorem Cu:∀(ts:LT)(m:Int),m<=fz m ts/\∀x∈ts,au x.2<=fz m ts
 |[],m=>⟨Int.le_refl _,λx hx=>by simp at hx⟩
 |t::ts,m=>by
  have h:=Cu ts (if m<au t.2 then au t.2 else m);simp only[fz];have hm:m<=(if m<au t.2 then au t.2 else m)/\au t.2<=(if m<au t.2 then au t.2 else m):=by split<;>omega
  refine⟨Int.le_trans hm.1 h.1,λx hx=>?_⟩;rcases OY.1 hx with rfl|hx
  .exact Int.le_trans hm.2 h.1
  .exact h.2 x hx
theorem sL{B:Int}:∀(ts:LT)(m:Int),(∀x∈ts,au x.2<=B)->m<=B->fz m ts<=B
 |[],m,_,hm=>hm
 |t::ts,m,h,hm=>by simp only[fz];refine sL ts _ (λx hx=>h x (by simp[hx])) ?_;have:=h t (by simp);split<;>omega
variable{ts:LT}
theorem wN(h:∀x∈ts,au x.2<=200):bF ts=decide (2000<ts.length):=by unfold bF;have:=sL ts (-1) h (by omega);rw[Ox (by omega),Bool.false_or]
theorem Cv(hx:x∈ts)(h:200<au x.2):bF ts=true:=by unfold bF;have:=(Cu ts (-1)).2 x hx;rw[Oy (by omega),Bool.true_or]
variable{t:Tm}{N:Nat}
theorem om(h:ck p o N (t::ts)):∀x∈t::ts,au x.2<=au t.2:=by
 intro x hx;rcases OY.1 hx with rfl|hx
 .exact Int.le_refl _
 .exact Kx (h.falls.1 x hx)
variable{f g:LT}{u:Tm}
theorem Ky(hf:ck p o N (t::f))(hg:ck p o N (u::g)):∀x∈aR p o (aH p (t::f) (u::g)),au x.2<=au t.2+au u.2:=by intro x hx;obtain⟨y,hy,e⟩:=sJ hx;simp only[Go.Proofs.YtjkalahhpobefaaGreat.aH,cB,Pk,OR] at hy;obtain⟨a,ha,b,hb,rfl⟩:=hy;rw[e];simp only;rw[pm _ _ (by rw[hf.len a ha,hg.len b hb])];have h1:=om hf a ha;have h2:=om hg b hb;omega
theorem Kz(he:bA p=0)(hf:ck p o N (t::f))(hg:ck p o N (u::g)):∃x∈aR p o (aH p (t::f) (u::g)),x.2=aP (·+·) t.2 u.2:=by
 apply O3;intro hno;have hz:az (eR (aP (·+·) t.2 u.2)) (aR p o (aH p (t::f) (u::g)))=0:=nE (λx hx e=>hno ⟨x,hx,e⟩)
 have hl:=pp p o (eR (aP (·+·) t.2 u.2)) (aH p (t::f) (u::g))
 rw[hz] at hl;have lt:=hf.len t (by simp);have lu:=hg.len u (by simp);have e0:aH p (t::f) (u::g)=(t.1*u.1%p,aP (·+·) t.2 u.2)::(cB p t g++aH p f (u::g)):=rfl
 have hne:∀x∈cB p t g++aH p f (u::g),x.2≠aP (·+·) t.2 u.2:=by
  intro x hx e;have pos:0<aW o (aP (·+·) t.2 u.2) x.2:=by
   rcases OK.1 hx with hx|hx
   .simp only[cB,OR] at hx;obtain⟨b,hb,rfl⟩:=hx;have lb:=hg.len b (by simp[hb]);simp only;rw[lp t.2 u.2,lp t.2 b.2,ri o u.2 b.2 t.2 (by omega) (by omega)];exact hg.falls.1 b hb
   .simp only[Go.Proofs.YtjkalahhpobefaaGreat.aH,cB,Pk,OR] at hx;obtain⟨a,ha,b,hb,rfl⟩:=hx;have la:=hf.len a (by simp[ha]);have lb:=hg.len b hb;simp only;have h1:0<aW o (aP (·+·) t.2 u.2) (aP (·+·) a.2 u.2):=by rw[ri o t.2 a.2 u.2 (by omega) (by omega)];exact hf.falls.1 a ha
    rcases OY.1 hb with rfl|hb
    .exact h1
    .have h2:0<aW o (aP (·+·) a.2 u.2) (aP (·+·) a.2 b.2):=by rw[lp a.2 u.2,lp a.2 b.2,ri o u.2 b.2 a.2 (by omega) (by omega)];exact hg.falls.1 b hb
     exact mr o _ _ _ (by rw[kC _ _ _ (by omega),kC _ _ _ (by omega)];omega) (by rw[kC _ _ _ (by omega),kC _ _ _ (by omega)]) h1 h2
  rw[e] at pos;have:=(lo o (aP (·+·) t.2 u.2) (aP (·+·) t.2 u.2) rfl).2 rfl
  omega
 rw[e0] at hl;simp only[az] at hl;rw[nE hne] at hl;have h1:=mi he (hf.coef t (by simp)).1 (hf.coef t (by simp)).2 (hg.coef u (by simp)).1 (hg.coef u (by simp)).2;have h2:eR (aP (·+·) t.2 u.2) (aP (·+·) t.2 u.2)=1:=by unfold eR;rw[OW rfl]
 rw[h2] at hl;have h3:=u7 hl;have:=Int.le_of_dvd (by omega) h3;omega
theorem Cw(he:bA p=0)(hf:ck p o N (t::f))(hg:ck p o N (u::g)):bF (aR p o (aH p (t::f) (u::g)))=(decide (200<au t.2+au u.2)||decide (2000<(aR p o (aH p (t::f) (u::g))).length)):=by
 by_cases h:200<au t.2+au u.2
 .obtain⟨x,hx,e⟩:=Kz he hf hg;rw[Cv hx (by rw[e,pm _ _ (by rw[hf.len t (by simp),hg.len u (by simp)])];exact h),Oy h,Bool.true_or]
 .rw[wN (λx hx=>by have:=Ky hf hg x hx;omega),Ox h,Bool.false_or]
theorem KC(h:f=[]\/g=[]):aR p o (aH p f g)=[]:=by
 rcases h with rfl|rfl
 .rfl
 .have:aH p f []=[]:=by
   unfold Go.Proofs.YtjkalahhpobefaaGreat.aH;induction f with
   |nil=>rfl
   |cons t f ih=>simp[cB]
  rw[this];rfl
theorem KD(hf:fO p o N f)(hg:fO p o N g):∀x∈aR p o (f++g),au x.2<=200:=by intro x hx;obtain⟨y,hy,e⟩:=sJ hx;rw[e];exact(OK.1 hy).elim (hf.deg y) (hg.deg y)
end Go.Proofs.YtjkalahhpobefaaGreat
