/- All of a sum of one. -/
import Derived.Test.YtjkalahhpobefaaGreatKX
set_option maxHeartbeats 4000000
set_option maxRecDepth 100000
namespace Go.Proofs.YtjkalahhpobefaaGreat
set_option linter.all false
open Go.Proofs.Tryz Go.RowKit Go.Sort
variable{rows:PC}{fs acc:PB}{p:Int}
theorem jx.len(h:jx p fs rows acc):acc.length<=fs.length:=by
 have hsub:(acc.map Ft.k).Nodup:=by rw[List.nodup_iff_pairwise_ne,List.pairwise_map];exact h.dn.imp λh e=>by omega
 have:(acc.map Ft.k)⊆fs.map Ft.k:=λk hk=>by obtain⟨u,hu,rfl⟩:=OR.1 hk;obtain⟨v,hv,ha⟩:=h.gd u hu;exact OR.2 ⟨v,hv,ha.1.symm⟩
 have h:=hsub.length_le_of_subset this;simpa using h
structure AI(p:Int)(B:Nat)(fs:PB)(w wr:PJ)(sb ob:Nat)(rv v:PK)(tb:Nat)(r:Option Ft)(acc:PB):Prop where
 below:Below B w wr
 le:w.heap.size<=wr.heap.size
 own:wr.ownsRow w.heap.size 88 7 v acc.length (aA acc)
 box:Bx w.heap.size wr tb (bQ r)
 ne:∀g,v.ownBlock=some g->g≠tb
 sum:∃us rows,aT B wr sb ob rv us rows/\jy w.heap.size us rows/\aG p (ik fs) rows/\rows.length<=65/\(∀t,r=some t->jx p fs rows (acc++[t]))/\(r=none->acc=fs)
variable{rv:PK}{sb ob B L:Nat}{w:PJ}
theorem vm{wr:PJ}(h:dw B L w wr sb ob rv rows)(hB:B<=w.heap.size):Below B w wr:=h.frm.to_below hB λx hx=>(h.rv_lt x hx).1
variable{t0:Ft}{rows2:PC}{r:Option Ft}{v:PK}{tb:Nat}{w3 w4:PJ}
theorem AI.of_next(hp:2<=p)(hd:Dn fs)(hc:∀t∈fs,0<t.c/\t.c<p)(hB:B<=w.heap.size)(hrl:∀g,rv.ownBlock=some g->g<w.heap.size)(hsl:sb<w.heap.size)(hb:Below B w w3)(hle:w.heap.size<=w3.heap.size)(ho:w3.ownsRow w.heap.size 88 7 v acc.length (aA acc))(hbx:Bx w.heap.size w3 tb t0)(hne:∀g,v.ownBlock=some g->g≠tb)(hr:aG p (ik fs) rows)(hl:rows.length<=65)(hso:jx p fs rows acc)(hn:Nx p rows r rows2)(hk:dw B w.heap.size w3 w4 sb ob rv rows2):AI p B fs w (eB w4 tb (bQ r)) sb ob rv v tb r acc:=by
 obtain⟨us,hs4,hl4⟩:=hk.sum;have hb4:Below B w w4:=hb.trans (vm hk (OA hB hle));have h4:Bx w.heap.size w4 tb t0:=pz hbx hk.frm λe=>by have h1:=hrl tb e;have h2:=(Ot hbx tb rfl).1;omega
 have ho4:w4.ownsRow w.heap.size 88 7 v acc.length (aA acc):=hk.frm.own ho λg hg e=>by have h1:=hrl g e;have h2:=(Ot ho g hg).1;omega
 have hP:=h4.put (bQ r);have htb:=(Ot h4 tb rfl).1;have hle4:w.heap.size<=w4.heap.size:=OA hle hk.frm.size;have hsp:=Nx.spec hp (ik.alk (fs:=fs)) hn hr;refine⟨hb4.trans (cQ hP.2 (OA hB htb) (OA hB hle4)),OA hle4 hP.2.size,ho4.kept hP.2 ?_,hP.1,hne,us,rows2,hs4.far hP.2 hl4 htb (by omega) (λe=>by have:=hrl tb e;omega),hl4,hsp.1,by rw[hsp.2.1];exact hl,λt e=>?_,λe=>?_⟩
 .cases hv:v.ownBlock with
  |none=>exact Pf rfl
  |some g=>exact Pg (by simpa using hne g hv)
 .subst e;exact(hso.next hp hr hn).1
 .subst e;exact hso.stop hp hd hc hr hn
theorem GX{W W':PJ}{us:PH}{ro:Option Nat}(h:aT B W sb ob rv us rows)(hl:jy L us rows)(hg:W.grownBy W' ro)(hro:∀g,ro=some g->L<=g)(hsl:sb<L)(hrl:∀g,rv.ownBlock=some g->g<L):aT B W' sb ob rv us rows:=by
 cases ro with
 |none=>exact h.next ((Ov _ _).grown hg (Ou _) λk hk=>by simp at hk)
 |some g=>have h1:=hro g rfl;exact h.far hg hl h1 (by omega) λe=>by have:=hrl g e;omega
theorem GY(ob:Nat)(w:PJ):Calls prog 85 #[PL ob,.slice none 0 0] w λe w'=>e=.returned (PL w.heap.size)/\aT w.heap.size w' w.heap.size ob (.slice none 0 0) [] []/\Io w w':=by
 obtain⟨w1,hw1⟩:∃w1,w1=w.alloc (.cells #[PL ob,.slice none 0 0] 176):=⟨_,rfl⟩;have HB1:Po (Io w w1):=by rw[hw1];exact ai
 have HS1:Po (aT w.heap.size w1 w.heap.size ob (.slice none 0 0) [] []):=by rw[hw1];exact vp w ob _ (Ou _)
 go_enter func85,ntmps85;go_wp2_with fail;rw[<-hw1];clear hw1;refine wp_loop_rounds 1 ?_;rw[rounds_succ];go_wp2;go_ret;exact⟨rfl,HS1.o,HB1.o⟩
structure jV(p:Int)(G:Ft->Prop)(C:Int->Int)(rows:PC)(acc:PB):Prop where
 dn:Dn acc
 co:∀t∈acc,0<t.c/\t.c<p
 gd:∀u∈acc,G u
 lt:∀a∈acc,∀r∈rows,∀u∈r,u.k<a.k
 cn:∀k,p∣ao k acc+ao k rows.flatten-C k
variable{C:Int->Int}{G:Ft->Prop}
theorem jV.start(h:∀k,p∣ao k rows.flatten-C k):jV p G C rows []:=
 ⟨List.Pairwise.nil,λt ht=>by simp at ht,λt ht=>by simp at ht,λt ht=>by simp at ht,λk=>by have:=h k;simp only[ao];rw[Int.zero_add];exact this⟩
theorem jV.next(hp:2<=p)(hG:∀x t,eC x t->G t->G x){t:Ft}(h:jV p G C rows acc)(hr:aG p G rows)(hn:Nx p rows (some t) rows2):jV p G C rows2 (acc++[t])/\aG p G rows2/\G t/\0<t.c/\t.c<p:=by
 have hK:∀a∈acc,t.k<a.k:=λa ha=>by have hs:=Nx.spec hp (G:=λu=>G u/\u.k<a.k) (λx t hx hg=>⟨hG x t hx hg.1,by rw[hx.1];exact hg.2⟩) hn (ry hr (h.lt a ha));exact hs.2.2.1.2
 obtain⟨s1,s2,s3,s4,s5,s6,s7⟩:=Nx.spec hp hG hn hr;refine⟨⟨?_,λx hx=>?_,λx hx=>?_,λa ha r hr u hu=>?_,λk=>?_⟩,s1,s3,s4,s5⟩
 .unfold Dn;rw[List.pairwise_append];exact⟨h.dn,by simp,λa ha b hb=>by simp at hb;subst hb;exact hK a ha⟩
 .rcases OK.1 hx with hx|hx
  .exact h.co x hx
  .simp at hx;subst hx;exact⟨s4,s5⟩
 .rcases OK.1 hx with hx|hx
  .exact h.gd x hx
  .simp at hx;subst hx;exact s3
 .rcases OK.1 ha with ha|ha
  .have h1:=s6 r hr u hu;have h2:=hK a ha;omega
  .simp at ha;subst ha;exact s6 r hr u hu
 .rw[iY];have e:ao k [t]=if k=t.k then t.c else 0:=by
   simp only[ao];by_cases hk:k=t.k
   .simp[hk]
   .rw[OV hk,OV λe=>hk e.symm];omega
  rw[e];exact AJ (h.cn k) (s7 k)
structure nP(p:Int)(G:Ft->Prop)(C:Int->Int)(acc:PB):Prop where
 dn:Dn acc
 co:∀t∈acc,0<t.c/\t.c<p
 gd:∀u∈acc,G u
 cn:∀k,p∣ao k acc-C k
theorem jV.stop(hp:2<=p)(hG:∀x t,eC x t->G t->G x)(h:jV p G C rows acc)(hr:aG p G rows)(hn:Nx p rows none rows2):nP p G C acc:=by obtain⟨_,_,s3⟩:=Nx.spec hp hG hn hr;refine⟨h.dn,h.co,h.gd,λk=>?_⟩;obtain⟨x,hx⟩:=h.cn k;obtain⟨y,hy⟩:=s3 k;exact⟨x-y,by rw[Int.mul_sub];omega⟩
structure nQ(p:Int)(G:Ft->Prop)(C:Int->Int)(B:Nat)(w wr:PJ)(sb ob:Nat)(rv v:PK)(tb:Nat)(r:Option Ft)(acc:PB):Prop where
 below:Below B w wr
 le:w.heap.size<=wr.heap.size
 own:wr.ownsRow w.heap.size 88 7 v acc.length (aA acc)
 box:Bx w.heap.size wr tb (bQ r)
 ne:∀g,v.ownBlock=some g->g≠tb
 sum:∃us rows,aT B wr sb ob rv us rows/\jy w.heap.size us rows/\aG p G rows/\rows.length<=65/\(∀t,r=some t->jV p G C rows (acc++[t]))/\(r=none->nP p G C acc)
theorem nQ.of_next(hp:2<=p)(hG:∀x t,eC x t->G t->G x)(hB:B<=w.heap.size)(hrl:∀g,rv.ownBlock=some g->g<w.heap.size)(hsl:sb<w.heap.size)(hb:Below B w w3)(hle:w.heap.size<=w3.heap.size)(ho:w3.ownsRow w.heap.size 88 7 v acc.length (aA acc))(hbx:Bx w.heap.size w3 tb t0)(hne:∀g,v.ownBlock=some g->g≠tb)(hr:aG p G rows)(hl:rows.length<=65)(hso:jV p G C rows acc)(hn:Nx p rows r rows2)(hk:dw B w.heap.size w3 w4 sb ob rv rows2):nQ p G C B w (eB w4 tb (bQ r)) sb ob rv v tb r acc:=by
 obtain⟨us,hs4,hl4⟩:=hk.sum;have hb4:Below B w w4:=hb.trans (vm hk (OA hB hle));have h4:Bx w.heap.size w4 tb t0:=pz hbx hk.frm λe=>by have h1:=hrl tb e;have h2:=(Ot hbx tb rfl).1;omega
 have ho4:w4.ownsRow w.heap.size 88 7 v acc.length (aA acc):=hk.frm.own ho λg hg e=>by have h1:=hrl g e;have h2:=(Ot ho g hg).1;omega
 have hP:=h4.put (bQ r);have htb:=(Ot h4 tb rfl).1;have hle4:w.heap.size<=w4.heap.size:=OA hle hk.frm.size;have hsp:=Nx.spec hp hG hn hr;refine⟨hb4.trans (cQ hP.2 (OA hB htb) (OA hB hle4)),OA hle4 hP.2.size,ho4.kept hP.2 ?_,hP.1,hne,us,rows2,hs4.far hP.2 hl4 htb (by omega) (λe=>by have:=hrl tb e;omega),hl4,hsp.1,by rw[hsp.2.1];exact hl,λt e=>?_,λe=>?_⟩
 .cases hv:v.ownBlock with
  |none=>exact Pf rfl
  |some g=>exact Pg (by simpa using hne g hv)
 .subst e;exact(hso.next hp hG hr hn).1
 .subst e;exact hso.stop hp hG hr hn
theorem GZ(B sb ob:Nat)(p k0 k1 k2:Int)(sv rv:PK)(us:PH)(rows:PC)(G:Ft->Prop)(C:Int->Int)(w:PJ)(hs:aT B w sb ob rv us rows)(hB:B<=w.heap.size)(hob:aQ w ob p k0 k1 k2 sv)(hob2:ob<B)(hp:2<=p/\p<=101)(hn:rows.length<=65)(hr:aG p G rows)(hG:∀x t,eC x t->G t->G x)(hM:∀r,Dn r->(∀t∈r,G t)->r.length<=1100000000000)(hkb:∀t,G t→-1000000000000000000<=t.k)(hcn:∀k,p∣ao k rows.flatten-C k):Calls prog 117 #[PL sb] w λe w'=>∃u acc,e=.returned u/\w'.ownsRow w.heap.size 88 7 u acc.length (aA acc)/\Below B w w'/\nP p G C acc:=by
 obtain⟨i0,hi,hz0,hz1,hz2⟩:=info_parts Tryz.infoFt;have HI:=ae (Ow hi (Ow hz0 (Ow hz1 hz2)));clear hi hz0 hz1 hz2;have HRL:Po (∀g,rv.ownBlock=some g->g<w.heap.size):=λg hg=>(Ot hs.rws.own g hg).2;have HSL:=ae hs.lt.2;have HOB:Po (∀W,Below B w W->aQ W ob p k0 k1 k2 sv):=λW hb=>hob.frm (S:=λk=>B<=k) ⟨hb.os,hb.tape,hb.output,hb.size,λk _ hn=>hb.block k (by omega)⟩ (by omega);have HN0:=ae (vq B w.heap.size sb ob p k0 k1 k2 sv rv us rows w hs (Ou _) hs.loc hob hp (by omega) hr.co hr.dn);have HST:=ae (jV.start (p:=p) (G:=G) (C:=C) hcn);have HRR:=ae hr;have HG:=ae hG;have HM:=ae hM;have HKB:=ae hkb;unfold aX at HN0;clear hs hob hr hG hM hkb hcn;go_enter func117,ntmps117;go_wp2_with (go_at_call 121;refine HN0.o.mono ?_;rintro e w1 ⟨r1,rfl,rows1,q1,q2⟩;have HNX:=ae q1;have HTK:=ae q2;clear q1 q2);obtain⟨w2,hw2⟩:∃w2,w2=w1.alloc (.cells #[PO (bQ r1).k,PP (bQ r1).a,PP (bQ r1).b,PP (bQ r1).d,PP (bQ r1).z,PQ (bQ r1).pl,PQ (bQ r1).c] 88):=⟨_,rfl⟩;have HH0:Po (nQ p G C B w w2 sb ob rv (.slice none 0 0) w1.heap.size r1 []):=by have hsp:=Nx.spec hp.1 HG.o HNX.o HRR.o;obtain⟨us1,hs1,hl1⟩:=HTK.o.sum;rw[hw2];exact⟨(vm HTK.o hB).trans (ai.mono (OA hB HTK.o.frm.size)),by have:=HTK.o.frm.size;simp;omega,World.ownsRow_nil _ _ _ _,dr HTK.o.frm.size _,λg hg=>by simp[Value.ownBlock] at hg,us1,rows1,hs1.next ai,hl1,hsp.1,by rw[hsp.2.1];exact hn,λt e=>by subst e;exact(HST.o.next hp.1 HG.o HRR.o HNX.o).1,λe=>by subst e;exact HST.o.stop hp.1 HG.o HRR.o HNX.o⟩
 rw[<-hw2];clear hw2;go_loopw [3,4,5] (λz b m wr=>∃(v:PK)(tb:Nat)(r:Option Ft)(acc:PB),z=v/\b=PL tb/\m=.bool r.isSome/\nQ p G C B w wr sb ob rv v tb r acc) (λ_ b m wr=>il b m wr);case atStart=>exact⟨_,_,r1,[],rfl,rfl,rfl,HH0.o⟩
 case round=>
  clear HH0 HN0 HNX HTK HST HRR;obtain⟨v,tb,r,acc,hz,rfl,rfl,hh⟩:=hrel;subst hz;have HH:=ae hh;clear hh;obtain⟨va,vc,hv⟩:=cE HH.o.own;subst hv;cases r with
  |none=>obtain⟨us3,mt,_,_,_,_,_,h6⟩:=HH.o.sum;have HEQ:=ae (h6 rfl);clear h6;simp only[Option.isSome_none];go_wp2;go_ret;exact⟨_,acc,rfl,HH.o.own,HH.o.below,HEQ.o⟩
  |some t=>
   simp only[Option.isSome_some];obtain⟨us3,mt,s1,s2,s3,s4,s5,_⟩:=HH.o.sum;have HS:=ae s1;have HLC:=ae s2;have HRK:=ae s3;have HLN:=ae s4;have HSO:=ae (s5 t rfl);have HALN:Po (acc.length+1<=1100000000000):=by have:=HM.o _ HSO.o.dn HSO.o.gd;show _<=_;simpa using this
   have HTK0:=ae (HKB.o t (HSO.o.gd t (by simp)));have hbx:=HH.o.box;simp only[bQ,Option.getD_some] at hbx;have HBX:=ae hbx;have HB00:=ae hbx;obtain⟨y0,y1,y2,y3,y4,y5,y6⟩:=HBX.o.at;simp only[ON] at y0 y1 y2 y3 y4 y5 y6;clear s1 s2 s3 s4 s5 hbx;have HO1:=ae (HH.o.own.alloc (.cells #[PO t.k,PP t.a,PP t.b,PP t.d,PP t.z,PQ t.pl,PQ t.c] 88));have HS1:=ae (HS.o.next (ai (A:=.cells #[PO t.k,PP t.a,PP t.b,PP t.d,PP t.z,PQ t.pl,PQ t.c] 88)));have HX1:=ae (HBX.o.below (ai (A:=.cells #[PO t.k,PP t.a,PP t.b,PP t.d,PP t.z,PQ t.pl,PQ t.c] 88)));have HB1:Po (Below B w (wr.alloc (.cells #[PO t.k,PP t.a,PP t.b,PP t.d,PP t.z,PQ t.pl,PQ t.c] 88))):=HH.o.below.alloc (OA hB HH.o.le) _;have HL1:Po (w.heap.size<=(wr.alloc (.cells #[PO t.k,PP t.a,PP t.b,PP t.d,PP t.z,PQ t.pl,PQ t.c] 88)).heap.size):=by have:=HH.o.le;show _<=_;simp;omega
   go_upto_region 6 with (at_builtin;refine rA rfl (.tmp 17) (.tmp 19) 79 rfl w.heap.size 88 i0 _ underlying79 HI.o.1 HI.o.2.1 HI.o.2.2.1 HI.o.2.2.2 rfl (.slice va acc.length vc) acc rfl HO1.o t (PN wr.heap.size 0) 1 rfl (jz _ _ _) (by have:=HALN.o;omega) HL1.o ?_;intro v9 w9 r1 r2;rw[show (acc++[t]).length=acc.length+1 from by simp] at r1;have R1:=ae r1;have R2:=ae r2;obtain⟨va9,vc9,hv9⟩:=cE r1;subst hv9;clear r1 r2);have HGE:Po (∀g,(Value.slice va acc.length vc).ownBlock=some g->w.heap.size<=g):=λg hg=>(Ot HH.o.own g hg).1;have HS9:=ae (GX HS1.o HLC.o R2.o HGE.o HSL.o HRL.o);have HX9:Po (Bx w.heap.size w9 tb t):=World.ownsRow.kept HX1.o R2.o (Pg λe=>HH.o.ne tb e.symm rfl);have HB9:Po (Below B w w9):=HB1.o.grown R2.o (OA hB HL1.o) λk hk=>OA hB (HGE.o k hk);have HL9:Po (w.heap.size<=w9.heap.size):=OA HL1.o R2.o.size;obtain⟨x0,x1,x2,x3,x4,x5,x6⟩:=HX9.o.at;simp only[ON] at x0 x1 x2 x3 x4 x5 x6;clear y0 y1 y2 y3 y4 y5 y6 HO1 HS1 HX1 HB1 HL1 HBX;obtain⟨w10,hw10⟩:∃w10,w10=w9.alloc (.cells #[PO t.k,PP t.a,PP t.b,PP t.d,PP t.z,PQ t.pl,PQ t.c] 88):=⟨_,rfl⟩;have H10:Po (Io w9 w10/\Bx w.heap.size w10 w9.heap.size t):=by show _/\_;rw[hw10];exact⟨ai,dr HL9.o t⟩
   have HS10:=ae (HS9.o.next H10.o.1);have HB10:Po (Below B w w10):=HB9.o.trans (H10.o.1.mono (OA hB HL9.o));have HL10:Po (w.heap.size<=w10.heap.size):=OA HL9.o H10.o.1.size;have HO10:=ae (aF R1.o H10.o.1);have HNE:Po (∀g,(Value.slice va9 (acc.length+1) vc9).ownBlock=some g->g≠w9.heap.size):=λg hg e=>by have:=(Ot R1.o g hg).2;omega
   have HN10:=ae (vq B w.heap.size sb ob p k0 k1 k2 sv rv us3 mt w10 HS10.o HL10.o HLC.o (HOB.o w10 HB10.o) hp (by have:=HLN.o;omega) HRK.o.co HRK.o.dn);unfold aX at HN10;have HFIN:Po (∀r11 rows11 w11,Nx p mt r11 rows11->dw B w.heap.size w10 w11 sb ob rv rows11->nQ p G C B w (eB w11 w9.heap.size (bQ r11)) sb ob rv (.slice va9 (acc.length+1) vc9) w9.heap.size r11 (acc++[t])/\Bx w.heap.size w11 w9.heap.size t):=λr11 rows11 w11 h1 h2=>by
    have hl9:(acc++[t]).length=acc.length+1:=by simp
    refine⟨nQ.of_next hp.1 HG.o hB HRL.o HSL.o HB10.o HL10.o (by rw[hl9];exact HO10.o) H10.o.2 HNE.o HRK.o HLN.o HSO.o h1 h2,pz H10.o.2 h2.frm λe=>?_⟩;have h3:=HRL.o _ e;have:=HL9.o;omega
   go_upto_region 4 with fail;rw[<-hw10];clear hw10 x0 x1 x2 x3 x4 x5 x6;go_wp2_with (go_at_call 121;refine HN10.o.mono ?_;rintro e w11 ⟨r11,rfl,rows11,q1,q2⟩;have HF11:=ae (HFIN.o r11 rows11 w11 q1 q2);clear q1 q2;obtain⟨y0,y1,y2,y3,y4,y5,y6⟩:=HF11.o.2.at;have z0:=Oo HF11.o.2 0;have z1:=Oo HF11.o.2 1;have z2:=Oo HF11.o.2 2;have z3:=Oo HF11.o.2 3;have z4:=Oo HF11.o.2 4;have z5:=Oo HF11.o.2 5;have z6:=Oo HF11.o.2 6;simp only[ON] at y0 y1 y2 y3 y4 y5 y6);have HF12:=ae HF11.o.1;unfold eB at HF12;go_roundw;case rel=>exact⟨_,w9.heap.size,r11,acc++[t],rfl,rfl,rfl,HF12.o⟩
   case measure=>
    have hold:il (PL tb) (.bool true) wr=(t.k+2000000000000000000).toNat:=by have:=HB00.o.at.1;simp only[il];rw[this];rfl
    have ht0:=HTK0.o;cases r11 with
    |none=>rw[hold];simp only[il,Option.isSome_none];omega
    |some t6=>
     obtain⟨us6,rows6,_,_,_,_,s6,_⟩:=HF12.o.sum;have hso:=s6 t6 rfl;have hlt:t6.k<t.k:=(List.pairwise_append.1 hso.dn).2.2 t (by simp) t6 (by simp);rw[hold];simp only[il,Option.isSome_some];have h6:=HF12.o.box.at.1;try simp only[ON] at h6
     rw[h6];simp only[rB,bQ,Option.getD_some];omega
end Go.Proofs.YtjkalahhpobefaaGreat
namespace Go.Proofs.YtjkalahhpobefaaGreat
set_option linter.all false
open Go.Proofs.Tryz Go.RowKit
def fV(p k0 k1 k2:Int)(rows:PC)(k:Int):PB->Int
 |[]=>0
 |t::ws=>ao k ((rows.getD t.pl.toNat []).map (aJ p (t.a*k0+t.b*k1+t.d*k2) t))+fV p k0 k1 k2 rows k ws
theorem AK(p k0 k1 k2:Int)(rows:PC)(k:Int)(t:Ft):∀ws:PB,fV p k0 k1 k2 rows k (ws++[t])=fV p k0 k1 k2 rows k ws+ao k ((rows.getD t.pl.toNat []).map (aJ p (t.a*k0+t.b*k1+t.d*k2) t))
 |[]=>by simp[fV]
 |u::ws=>by rw[List.cons_append];simp only[fV];rw[AK p k0 k1 k2 rows k t ws];omega
theorem G2{ws:PB}{m:Nat}(h:m<ws.length):ws.take (m+1)=ws.take m++[ws.getD m dT]:=by rw[List.take_add_one,OH,OI h];rfl
theorem G3(ob:Nat)(p k0 k1 k2:Int)(sv wv rv:PK)(ws:PB)(rows:PC)(G:Ft->Prop)(w:PJ)(hob:aQ w ob p k0 k1 k2 sv)(hp:2<=p/\p<=101)(h0:0<=k0/\k0<=137438953472)(h1:0<=k1/\k1<=137438953472)(h2:0<=k2/\k2<=137438953472)(hw:Fv w wv ws)(hr:nR w rv rows)(hwl:ws.length<=1200000000000)(hrl:rows.length<=200)(hpl:∀t∈ws,0<=t.pl/\t.pl<rows.length)(hwo:∀t∈ws,im p t)(hro:∀f∈rows,(∀u∈f,im p u)/\f.length<=2300000000000)(hrk:∀t∈ws,aG p G [(rows.getD t.pl.toNat []).map (aJ p (t.a*k0+t.b*k1+t.d*k2) t)])(hG:∀x t,eC x t->G t->G x)(hM:∀r,Dn r->(∀t∈r,G t)->r.length<=1100000000000)(hkb:∀t,G t→-1000000000000000000<=t.k):Calls prog 83 #[PL ob,wv,rv] w λe w'=>∃u acc,e=.returned u/\w'.ownsRow w.heap.size 88 7 u acc.length (aA acc)/\Io w w'/\nP p G (λk=>fV p k0 k1 k2 rows k ws) acc:=by
 have HNS:=ae (GY ob w);have HFV:=ae hw;obtain⟨wa,wc,rfl,_,_⟩:=hw;have HRW:=ae hr;obtain⟨ra,rc,rfl,_⟩:=hr;have HPL:=ae hpl;have HSC:Po (∀W t u f,t∈ws->f∈rows->Io w W->Fv w u f->Calls prog 77 #[PL ob,aX t,u] W λe w'=>∃u,e=.returned u/\Fv w' u (f.map (aJ p (t.a*k0+t.b*k1+t.d*k2) t))/\Io W w'):=λW t u f ht hf hb hu=>nS ob p k0 k1 k2 sv u t f W (hob.below hb) hp h0 h1 h2 (hwo t ht) (hro f hf).1 (hro f hf).2 (hu.below hb);have hob2:=hob.lt;have HAD:Po (∀W u f rv us rs C,cN p G w.heap.size W w.heap.size ob rv us rs C->Io w W->aG p G [f]->Fv W u f->Calls prog 116 #[PL w.heap.size,u] W λe w'=>e=.returned (.tuple #[])/\∃rv' us' rows',cN p G w.heap.size w' w.heap.size ob rv' us' rows' (λk=>C k+ao k f)/\Io w w'):=λW u f rv us rs C hs hb hf hu=>by
  refine(pA w.heap.size w.heap.size ob p k0 k1 k2 G sv rv u us rs f W hs.sum hb.size (hob.below hb) (by omega) hp hs.len hu hs.ok hf hG hM).mono ?_;rintro e w' ⟨rfl,rv',us',rows',q1,q2,q3,q4,q5,_⟩;refine⟨rfl,rv',us',rows',⟨q1,q2,q3,λk=>?_⟩,hb.trans (q5.to_below hb.size λx hx=>?_)⟩
  .obtain⟨a,ha⟩:=q4 k;obtain⟨b,hb⟩:=hs.cn k;exact⟨a+b,by rw[Int.mul_add];omega⟩
  .rcases hx with hx|hx
   .exact Nat.le_of_eq hx.symm
   .exact(Ot hs.sum.rws.own x hx).1
 have HAL:Po (∀W rv' us' rows' C,cN p G w.heap.size W w.heap.size ob rv' us' rows' C->Io w W->Calls prog 117 #[PL w.heap.size] W λe w'=>∃u acc,e=.returned u/\w'.ownsRow W.heap.size 88 7 u acc.length (aA acc)/\Below w.heap.size W w'/\nP p G C acc):=λW rv' us' rows' C h hb=>GZ w.heap.size w.heap.size ob p k0 k1 k2 sv rv' us' rows' G C W h.sum hb.size (hob.below hb) hob2 hp h.len h.ok hG hM hkb h.cn;have HRK:=ae hrk;have HSM0:Po (∀W,aT w.heap.size W w.heap.size ob (.slice none 0 0) [] []->cN p G w.heap.size W w.heap.size ob (.slice none 0 0) [] [] (λk=>fV p k0 k1 k2 rows k (ws.take 0))):=λW h=>⟨h,⟨λr hr=>by simp at hr,λr hr=>by simp at hr,λr hr=>by simp at hr⟩,by simp,λk=>⟨0,by simp[ao,fV]⟩⟩;unfold aX at HSC;clear hob hp h0 h1 h2 hwo hro hrk hG hM hkb hpl;go_enter func83,ntmps83;go_wp2_with (go_at_call 85;refine HNS.o.mono ?_;rintro e w1 ⟨rfl,q1,q2⟩;have HS1:=ae (HSM0.o _ q1);have HB1:=ae q2;clear q1 q2);go_loopw [14] (λi wr=>∃(m:Nat)(rv':PK)(us':PH) (rows':PC),m<=ws.length/\i=PO m/\cN p G w.heap.size wr w.heap.size ob rv' us' rows' (λk=>fV p k0 k1 k2 rows k (ws.take m))/\Io w wr) (λi _=>ws.length-(intOf i).toNat);case atStart=>exact⟨0,_,_,_,OB _,rfl,HS1.o,HB1.o⟩
 case round=>
  rename PJ=>wr;obtain⟨m,rv',us',rows',hm,rfl,hsm,hb⟩:=hrel;have HSM:=ae hsm;have HB:=ae hb;clear hsm hb HS1 HB1;by_cases hm2:m<ws.length
  .have hmI:(m:Int)<(ws.length:Int):=by omega
   obtain⟨wb,woff,rfl,hwlt,_,hft⟩:=HFV.o.at m hm2;have htm:ws.getD m dT∈ws:=by rw[OH,OI hm2];exact OE hm2
   have HTK:=ae (G2 hm2);generalize ws.getD m dT=t at hft htm HTK;obtain⟨hq0,hq1⟩:=HPL.o t htm;obtain⟨q,hq⟩:=Int.eq_ofNat_of_zero_le hq0;have hqr:q<rows.length:=by omega
   have hqI:(q:Int)<(rows.length:Int):=by omega
   obtain⟨ra2,rc2,e9,hrr⟩:=HRW.o;simp only[OQ,true_and] at e9;obtain⟨rfl,rfl⟩:=e9;obtain⟨rb,roff,ru,rfl,hrlt,r0,hru⟩:=hrr q hqr;have hfm:rows.getD q []∈rows:=by rw[OH,OI hqr];exact OE hqr
   have HRK2:=ae (HRK.o t htm);have HSC2:=ae (λW hb=>HSC.o W t ru (rows.getD q []) htm hfm hb hru);have HQ:=ae hq;rw[hq,Int.toNat_natCast] at HRK2;obtain⟨f0,f1,f2,f3,f4,f5,f6⟩:=hft.keep HB.o;rw[hq] at f5 HSC2;have z0:=af r0 HB.o;have HCN:Po (∀k,fV p k0 k1 k2 rows k (ws.take (m+1))=fV p k0 k1 k2 rows k (ws.take m)+ao k ((rows.getD q []).map (aJ p (t.a*k0+t.b*k1+t.d*k2) t))):=λk=>by rw[HTK.o,AK,HQ.o,Int.toNat_natCast]
   clear hft htm hq hq0 hq1 hrr r0 hfm;generalize rows.getD q []=fq at HRK2 HSC2 HCN hru;obtain⟨rua,ruc,rfl,_,_⟩:=hru;go_upto_region 5 with fail;obtain⟨w2,hw2⟩:∃w2,w2=wr.alloc (.cells #[PO t.k,PP t.a,PP t.b,PP t.d,PP t.z,PQ (q:Int),PQ t.c] 88):=⟨_,rfl⟩;have HB2:Po (Io wr w2):=by rw[hw2];exact ai
   have FX:Po (cu w2 wr.heap.size 0 {t with pl:=q}):=by rw[hw2];exact(show Bx wr.heap.size _ wr.heap.size {t with pl:=q} from dr (Ou _) {t with pl:=q}).at
   obtain⟨x0,x1,x2,x3,x4,x5,x6⟩:=FX.o;simp only[ON] at x0 x1 x2 x3 x4 x5 x6;have y0:=af z0 HB2.o;have HB02:Po (Io w w2):=In HB.o HB2.o;have HS2:Po (cN p G w.heap.size w2 w.heap.size ob rv' us' rows' (λk=>fV p k0 k1 k2 rows k (ws.take m))):=⟨HSM.o.sum.next HB2.o,HSM.o.ok,HSM.o.len,HSM.o.cn⟩;rw[<-hw2];clear hw2 f0 f1 f2 f3 f4 f5 f6 z0;go_region_law (first|(go_simp;(with_reducible refine(HSC2.o _ HB02.o.drew).mono ?_);rintro e w8 ⟨u8,rfl,q1,q2⟩;have HF8:=ae q1;have HB8:=ae (In HB02.o ((Ov w2.heap.size w2).drew.trans q2));have HS8:Po (cN p G w.heap.size w8 w.heap.size ob rv' us' rows' (λk=>fV p k0 k1 k2 rows k (ws.take m))):=⟨HS2.o.sum.next ((Ov w2.heap.size w2).drew.trans q2),HS2.o.ok,HS2.o.len,HS2.o.cn⟩;clear q1 q2;dsimp only)|(go_simp;(with_reducible refine(HAD.o w8 _ _ rv' us' rows' _ HS8.o HB8.o HRK2.o HF8.o).mono ?_);rintro e w9 ⟨rfl,rv9,us9,rows9,q1,q2⟩;have HS9:=ae q1;have HB9:=ae q2;clear q1 q2;dsimp only));all_goals
    go_wp2;go_roundw;case rel=>exact⟨m+1,rv9,us9,rows9,by omega,by go_num,⟨HS9.o.sum,HS9.o.ok,HS9.o.len,λk=>by rw[HCN.o k];exact HS9.o.cn k⟩,HB9.o⟩
    case measure=>simp[intOf];omega
  .have e:m=ws.length:=by omega
   subst e;go_wp2_with (go_at_call 117;refine(HAL.o _ _ _ _ _ HSM.o HB.o).mono ?_;rintro e w9 ⟨u9,acc9,rfl,q1,q2,q3⟩;have HO9:=ae q1;have HB9:=ae (HB.o.trans q2);have HA9:=ae q3;obtain⟨ua9,uc9,hu9⟩:=cE q1;subst hu9;clear q1 q2 q3);go_ret;have h:=HA9.o;rw[OO (Ou _)] at h;exact⟨_,acc9,rfl,Ga HO9.o HB.o.size,HB9.o,h⟩
end Go.Proofs.YtjkalahhpobefaaGreat
