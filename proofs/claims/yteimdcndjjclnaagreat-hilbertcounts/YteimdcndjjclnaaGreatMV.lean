/- hilbert.Count. -/
import Derived.Test.YteimdcndjjclnaaGreatMK
import Derived.Test.YteimdcndjjclnaaGreatMM
set_option maxHeartbeats 4000000
set_option maxRecDepth 100000
namespace Go.Proofs.YteimdcndjjclnaaGreat
set_option linter.all false
open Go.Proofs.Tryz Go.RowKit
structure n5(p n o v:Int)(ds:List Int)(vss:List (List (List Tm)))(N:Nat):Prop where
 hn:n=N
 nn:N=1\/N=2\/N=3
 ho:o=1\/o=2
 cx:aR p (λi=>ds.getD i 0) N ds.length
 l0:0<ds.length
 ds6:∀d∈ds,0<=d/\d<=6
 g0:∀i,0<=ds.getD i 0/\ds.getD i 0<=6
 v4:vss.length<=4
 len:∀g∈vss,g.length=ds.length
 right:∀g∈vss,∀f∈g,cL p o N f
 hom:∀g∈vss,∃D,D<=9/\kI (λi=>ds.getD i 0) D g
theorem vK{p n o v:Int}{ds:List Int}{vss:List (List (List Tm))}(h:cz p n o v ds vss=0):∃N,n5 p n o v ds vss N:=by
 have hb:eE p n o v ds.length vss=0:=by
  by_cases e:eE p n o v ds.length vss=0
  .exact e
  .rw[A8 e] at h;exact h
 obtain⟨hv,hr3,hv4,hbig⟩:=vu hb;obtain⟨hR,hrk,_,hall⟩:=pI hv;obtain⟨hpr,hn1,hn3,ho,_⟩:=jQ hR;have h6:ds.any eJ=false:=by
  cases e:ds.any eJ
  .rfl
  .rw[A9 hb e] at h;exact absurd h (by decide)
 rw[Ba hb h6] at h;have hds:∀d∈ds,0<=d/\d<=6:=λd hd=>by have:=List.any_eq_false.1 h6 d hd;unfold eJ bO at this;simp at this;exact this
 have hg0:∀i,0<=ds.getD i 0/\ds.getD i 0<=6:=λi=>by
  by_cases hi:i<ds.length
  .exact hds _ (fh ds i hi)
  .rw[MV,MX (by omega)];simp
 have hlen:∀g∈vss,g.length=ds.length:=λg hg=>by have:=(hall g hg).1;omega
 have hrt:∀g∈vss,∀f∈g,cL p o n.toNat f:=λg hg f hf=>by have h:=(hall g hg).2 f hf;rw[show n=(n.toNat:Int) by omega] at h;exact pJ h
 have hun:vss.any (iX ds)=false:=by
  unfold lO at h;cases e:vss.any (iX ds)
  .rfl
  .rw[e] at h;exact absurd h (by decide)
 refine⟨n.toNat,by omega,by omega,ho,⟨hpr,by omega,by omega,by omega,λi hi=>hg0 i⟩,by omega,hds,hg0,hv4,hlen,hrt,λg hg=>?_⟩;have hu:iX ds g=false:=by have:=List.any_eq_false.1 hun g hg;simpa using this
 have hbg:iW g=false:=by have:=List.any_eq_false.1 hbig g hg;simpa using this
 have h3:∀i,∀t∈g.getD i [],aj t.2<=3/\i<g.length:=λi t ht=>by
  have hi:i<g.length:=by apply M7;intro hle;rw[MV,MX hle] at ht;simp at ht
  have hm:g.getD i []∈g:=by rw[MV,MW hi];exact MS hi
  have hb1:gT (g.getD i [])=false:=by have:=List.any_eq_false.1 hbg _ hm;simpa using this
  have hR1:=hrt g hg _ hm;unfold gT at hb1;rw[A3 hR1] at hb1;refine⟨?_,hi⟩;revert hb1 hR1 ht;generalize g.getD i []=f;intro ht hb1 hR1;cases f with
  |nil=>simp at ht
  |cons u us=>
   have h4:=A4 hR1.canon t ht;have h5:¬3<aj u.2:=by simp only[Bool.or_eq_false_iff,decide_eq_false_iff_not] at hb1;exact hb1.2
   omega
 have hmemd:∀i,∀t∈g.getD i [],ds.getD i 0+aj t.2∈aV ds g g.length:=λi t ht=>by unfold aV;rw[Nt];refine⟨i,by rw[List.mem_range];exact(h3 i t ht).2,?_⟩;unfold cR;exact M5.2 ⟨t,ht,rfl⟩
 cases e:aV ds g g.length with
 |nil=>refine⟨0,by decide,λi t ht=>?_⟩;have:=hmemd i t ht;rw[e] at this;simp at this
 |cons z zs=>
  have hall2:zs.all (λy=>y==z)=true:=by
   unfold iX at hu;rw[e,mR] at hu;cases e2:zs.all (λy=>y==z)
   .rw[e2] at hu;simp at hu
   .rfl
  have hz:∀x∈aV ds g g.length,x=z:=λx hx=>by
   rw[e] at hx;rcases Nb.1 hx with rfl|hx
   .rfl
   .have:=List.all_eq_true.1 hall2 x hx;simpa using this
  have hz9:z<=9:=by
   have hx:z∈aV ds g g.length:=by rw[e];simp
   unfold aV at hx;rw[Nt] at hx;obtain⟨i,_,hx⟩:=hx;unfold cR at hx;obtain⟨t,ht,rfl⟩:=M5.1 hx;have:=h3 i t ht;have:=hg0 i;omega
  refine⟨z,hz9,λi t ht=>?_⟩;have h7:=hz _ (hmemd i t ht);show aj t.2+ds.getD i 0=z;omega
def eZ(p n o v:Int)(ds:List Int)(vss:List (List (List Tm)))(d:Int):Int:=if cz p n o v ds vss≠0 then cz p n o v ds vss else if d<0\/12<d then 3 else 0
def fd(p n o v:Int)(ds:List Int)(vss:List (List (List Tm)))(d:Int):Int:=if cz p n o v ds vss≠0 then 0 else if d<0\/12<d then 0 else eo p o n.toNat ds vss d
theorem vL{p:Int}{dg:Nat->Int}{N R:Nat}(hx:aR p dg N R)(hR:R<=3){vs:List (List Ft)}{ms:List Mm}{qs:List Pq}{E:Nat->Nat->Prop}{T:Int}(h:Cp p dg N R vs ms qs E T)(pl:Nat):(bh ((aT ms R).map Mm.L) pl).length<=5000000:=by have h1:=pu (h.len hx).1 R;have h2:=Nr 407253 hR;have h3:=Nm (λt:Ft=>decide (t.pl=(pl:Int))) ((aT ms R).map Mm.L);unfold bh;rw[M6] at h3⊢;omega
theorem Bu(p n o v:Int)(dv lv:Value)(ds:List Int)(vss:List (List (List Tm)))(d:Int)(w:World)(hds:Sl w dv ds)(hs:Wl w lv vss)(hdb:-9223372036854775808<=d/\d<=9223372036854775807):Calls prog 5 #[aS p n o v,dv,lv,.int .i64 d] w λe w'=>e=.returned (.tuple #[.int .i64 (fd p n o v ds vss d),.int .i64 (eZ p n o v ds vss d)])/\Below w.heap.size w w':=by
 have HS:=ae hs;have HD:=ae hds;obtain⟨w1,hw1⟩:∃w1,w1=w.alloc (.cells #[.int .i64 p,.int .i64 n,.int .i64 o,.int .i64 v] 23):=⟨_,rfl⟩;have hbx:bE w1 w.heap.size p n o v:=by rw[hw1];exact bE.new w p n o v _
 have HBW:Nw (Below w.heap.size w w1):=by rw[hw1];exact bA
 have HCV:=ae (rQ p n o v dv lv ds vss w1 (hds.below HBW.o) (hs.below HBW.o));obtain⟨la,lc,rfl,_⟩:=hs;obtain⟨da,dc,rfl,_⟩:=hds;have HRV:Nw (aS p n o v=.agg #[.int .i64 p,.int .i64 n,.int .i64 o,.int .i64 v]):=rfl;rw[HRV.o] at HCV;rw[HRV.o];obtain⟨_,bx0,bx1,bx2,bx3⟩:=hbx;cases hev:(cz p n o v ds vss !=0)
 rotate_left
 .have hne:cz p n o v ds vss≠0:=by simpa using hev
  have HE:Nw (eZ p n o v ds vss d=cz p n o v ds vss/\fd p n o v ds vss d=0):=by unfold Nw eZ fd;rw[M9 hne,M9 hne];exact⟨rfl,rfl⟩
  rw[HE.o.1,HE.o.2];clear hne;go_enter func5,ntmps5;go_upto_region 1 with fail;rw[<-hw1];clear hw1;go_wp2_with (go_at_call 8;refine HCV.o.mono ?_;rintro e w2 ⟨rfl,q1⟩;have HB2:=ae q1;clear q1);go_ret2;exact⟨rfl,HBW.o.trans (HB2.o.mono HBW.o.size)⟩
 .have hz:cz p n o v ds vss=0:=by simpa using hev
  have HZ:=ae hz;rw[hz] at HCV;clear hev;by_cases hout:d<0\/12<d
  .have HE:Nw (eZ p n o v ds vss d=3/\fd p n o v ds vss d=0):=by unfold Nw eZ fd;rw[M8 (by simpa using hz),M9 hout,M8 (by simpa using hz),M9 hout];exact⟨rfl,rfl⟩
   rw[HE.o.1,HE.o.2];clear hz;by_cases h0:d<0
   .have k1:decide (d<0)=true:=by simpa using h0
    go_enter func5,ntmps5;go_upto_region 1 with fail;rw[<-hw1];clear hw1;go_wp2_with (go_at_call 8;refine HCV.o.mono ?_;rintro e w2 ⟨rfl,q1⟩;have HB2:=ae q1;clear q1);go_ret2;exact⟨rfl,HBW.o.trans (HB2.o.mono HBW.o.size)⟩
   .have k1:decide (d<0)=false:=by simpa using h0
    have k2:decide (12<d)=true:=by simp;omega
    go_enter func5,ntmps5;go_upto_region 1 with fail;rw[<-hw1];clear hw1;go_wp2_with (go_at_call 8;refine HCV.o.mono ?_;rintro e w2 ⟨rfl,q1⟩;have HB2:=ae q1;clear q1);go_ret2;exact⟨rfl,HBW.o.trans (HB2.o.mono HBW.o.size)⟩
  .have HE:Nw (eZ p n o v ds vss d=0/\fd p n o v ds vss d=eo p o n.toNat ds vss d):=by unfold Nw eZ fd;rw[M8 (by simpa using hz),M8 hout,M8 (by simpa using hz),M8 hout];exact⟨rfl,rfl⟩
   rw[HE.o.1,HE.o.2];obtain⟨N,hC⟩:=vK hz;have hnN:=hC.hn;subst hnN;have HC:=ae hC;have hN3:=hC.cx.r;have hl0:=hC.l0;rw[Int.toNat_natCast];have k1:decide (d<0)=false:=by simp;omega
   have k2:decide (12<d)=false:=by simp;omega
   have hd0:0<=d:=by omega
   have hd12:d<=12:=by omega
   clear hz hout hC HE HRV;have HNO:Nw (∀W,Below w.heap.size w W->Calls prog 13 #[.agg #[.int .i64 p,.int .i64 (N:Int),.int .i64 o,.int .i64 v],.slice da ds.length dc,.slice la vss.length lc] W λe w'=>∃b x,e=.returned (.pointer (some ⟨b,0,none⟩))/\Below W.heap.size W w'/\Calls prog 14 #[.pointer (some ⟨b,0,none⟩),.int .i64 d] w' λe w''=>e=.returned (.int .i64 (eo p o N ds vss d))/\Below w'.heap.size w' w''):=λW hW=>by refine(AY p o v N (.slice da ds.length dc) (.slice la vss.length lc) ds vss W HC.o.cx (HD.o.below hW) HC.o.l0 HC.o.ds6 (HS.o.below hW) HC.o.v4 HC.o.len HC.o.right HC.o.hom).mono ?_;rintro e w' ⟨b,x,fls,vs,ms,E,T,rfl,q1,q2,q3,q4,q5,q6,q7⟩;refine⟨b,x,rfl,q7,?_⟩;have hc:=A0 N b HC.o.nn (.slice da ds.length dc) x ds (bh ((aT ms ds.length).map Mm.L)) d w' q1 ((HD.o.below hW).below q7) hl0 hN3 (λi _=>HC.o.g0 i) q6 (λpl _=>vL HC.o.cx hN3 q4 pl) (by omega) (by omega);rw[rT HC.o.nn rfl HC.o.cx (λi=>(HC.o.g0 i).1) (by omega) HC.o.len HC.o.right q2 q3 q4 q5] at hc;exact hc
   go_enter func5,ntmps5;go_upto_region 1 with fail;rw[<-hw1];clear hw1;go_upto_region 6 with (go_at_call 8;refine HCV.o.mono ?_;rintro e w2 ⟨rfl,q1⟩;have HB2:=ae q1;clear q1);have y0:=af bx0 HB2.o;have y1:=af bx1 HB2.o;have y2:=af bx2 HB2.o;have y3:=af bx3 HB2.o;have HNO2:=ae (HNO.o w2 (HBW.o.trans (HB2.o.mono HBW.o.size)));go_wp2_with (first|(go_at_call 13;refine HNO2.o.mono ?_;rintro e w3 ⟨b,x,rfl,q1,q2⟩;have HB3:=ae q1;have HCT:=ae q2;clear q1 q2)|(go_at_call 14;refine HCT.o.mono ?_;rintro e w4 ⟨rfl,q1⟩;have HB4:=ae q1;clear q1));go_ret2;exact⟨rfl,HBW.o.trans ((HB2.o.trans ((HB3.o.trans (HB4.o.mono HB3.o.size)).mono HB2.o.size)).mono HBW.o.size)⟩
def fL(a b:Gb.Mo):Gb.Mo:=(max a.1 b.1,max a.2.1 b.2.1,max a.2.2 b.2.2)
def fA(es:List Gb.Mo):Gb.Mo:=es.foldl fL (0,0,0)
def ix(e:Gb.Mo):Nat:=e.1+e.2.1+e.2.2
def gB(ds:List Int)(ess:Nat->List Gb.Mo):Nat->Int
 |0=>0
 |k+1=>max (gB ds ess k) (ds.getD k 0+(ix (fA (ess k)):Nat))
theorem Js(es:List Gb.Mo)(e:Gb.Mo):fA (es++[e])=fL (fA es) e:=by unfold fA;rw[List.foldl_append];rfl
theorem vM{B:Nat}:∀{es:List Gb.Mo},(∀e∈es,e.1<=B/\e.2.1<=B/\e.2.2<=B)->(fA es).1<=B/\(fA es).2.1<=B/\(fA es).2.2<=B:=by
 intro es;have key:∀(es:List Gb.Mo)(a:Gb.Mo),(a.1<=B/\a.2.1<=B/\a.2.2<=B)->(∀e∈es,e.1<=B/\e.2.1<=B/\e.2.2<=B)->(es.foldl fL a).1<=B/\(es.foldl fL a).2.1<=B/\(es.foldl fL a).2.2<=B:=by
  intro es;induction es with
  |nil=>exact λa h _=>h
  |cons e es ih=>intro a h1 h2;rw[List.foldl_cons];have h3:=h2 e (by simp);refine ih _ ?_ λx hx=>h2 x (by simp[hx]);unfold fL;simp only;omega
 exact λh=>key es (0,0,0) ⟨MP _,MP _,MP _⟩ h
theorem Jt{W:World}{b:Nat}{a0 a1 a2 a3:Value}{t:TypeId}(h:W.heap[b]?=some (.cells #[a0,a1,a2,a3] t (0,0)))(x0 x1 x2 x3:Value):((((W.setCell ⟨b,0,none⟩ x0).setCell ⟨b,1,none⟩ x1).setCell ⟨b,2,none⟩ x2).setCell ⟨b,3,none⟩ x3).heap[b]?=some (.cells #[x0,x1,x2,x3] t (0,0)):=by have hlt:=(Ni.1 h).1;simp[World.setCell,Array.getElem?_modify,h]
theorem Ju(N b:Nat)(dv x:Value)(ds:List Int)(ess:Nat->List Gb.Mo)(w:World)(ho:mN w b N dv x)(hs:Sl w dv ds)(hl0:0<ds.length)(hl3:ds.length<=3)(hds:∀i,0<=ds.getD i 0/\ds.getD i 0<=6)(hld:jF w x ds.length ess)(hes:∀pl,pl<ds.length->(ess pl).length<=5000000)(hbd:∀pl,pl<ds.length->∀e∈ess pl,e.1<=901/\e.2.1<=901/\e.2.2<=901):Calls prog 29 #[.pointer (some ⟨b,0,none⟩)] w λe w'=>e=.returned (.int .i64 (gB ds ess ds.length))/\Below w.heap.size w w':=by
 have HDS:=ae hds;have HBD:=ae hbd;have HLB:Nw (∀k,k<=ds.length->0<=gB ds ess k/\gB ds ess k<=2709):=by
  intro k;induction k with
  |zero=>exact λ_=>⟨Int.le_refl _,by show (0:Int)<=2709;decide⟩
  |succ k ih=>
   intro hk;have h1:=ih (by omega);have h2:=hds k;have h3:=vM (hbd k (by omega));have h4:ix (fA (ess k))<=2703:=by unfold ix;omega
   simp only[gB];omega
 obtain⟨da,dc,rfl,hsl⟩:=hs;obtain⟨db,doff,rfl,hdb,hdi⟩:=hsl hl0;have HDI:=ae hdi;obtain⟨gb,gc,rfl,hgb,hgr⟩:=hld;have HGR:=ae hgr;obtain⟨hlb,c0,c1,c2⟩:=ho;clear hds hbd hsl hdi hgr;go_enter func29,ntmps29;go_wp2_with fail;go_loopw [3,14] (λs i wr=>∃k:Nat,k<=ds.length/\i=.int .i64 k/\s=.int .i64 (gB ds ess k)/\Below w.heap.size w wr) (λ_ i _=>ds.length-(intOf i).toNat);case atStart=>exact⟨0,MP _,rfl,rfl,MJ _ _⟩
 case round=>
  obtain⟨k,hk,rfl,rfl,hbr⟩:=hrel;have HBR:=ae hbr;clear hbr;by_cases hk2:k<ds.length
  .obtain⟨u,hu,hxs⟩:=HGR.o k hk2;have hku:=(HBR.o.cell (p:=⟨gb,k,none⟩) hgb).trans hu;obtain⟨ea,ec,rfl,hx2⟩:=hxs;have HXS:Nw (j9 w (.slice ea (ess k).length ec) (ess k)):=⟨ea,ec,rfl,hx2⟩;have hzr:=HBR.o.size;have hkI:(k:Int)<(ds.length:Int):=by omega
   have hel:=hes k hk2;obtain⟨hl1,hl2⟩:=HLB.o k hk;have HST:Nw (gB ds ess (k+1)=max (gB ds ess k) (ds.getD k 0+(ix (fA (ess k)):Nat))):=rfl;have HBK:=ae (HBD.o k hk2);generalize gB ds ess k=lk at hl1 hl2 HST;generalize hEE:ess k=es at HXS hel HST HBK hku;clear hEE hx2 hu;obtain⟨wo,hwo⟩:∃wo:World,wo=wr:=⟨_,rfl⟩;subst hwo;obtain⟨wb,hwb⟩:∃wb,wb=wo.alloc (.cells #[.int .u16 0,.int .u16 0,.int .u16 0,.int .u16 0] 45):=⟨_,rfl⟩;have HBB:Nw (Below wo.heap.size wo wb):=by rw[hwb];exact ai
   have HH0:Nw (wb.heap[wo.heap.size]?=some (.cells #[.int .u16 0,.int .u16 0,.int .u16 0,.int .u16 0] 45 (0,0))):=by rw[hwb];exact heap_alloc_new wo _
   go_upto_region 6 with fail;rw[<-hwb];clear hwb hku;go_wp2_with fail;go_loopw [21] (λi wq=>∃j:Nat,j<=es.length/\i=.int .i64 j/\wq.heap[wo.heap.size]?=some (.cells #[.int .u16 ((fA (es.take j)).1:Int),.int .u16 ((fA (es.take j)).2.1:Int),.int .u16 ((fA (es.take j)).2.2:Int),.int .u16 0] 45 (0,0))/\Below wo.heap.size wo wq) (λi _=>es.length-(intOf i).toNat);case atStart=>exact⟨0,MP _,rfl,HH0.o,HBB.o⟩
   case round=>
    rename World=>wq;obtain⟨j,hj,rfl,hcl,hbq⟩:=hrel;have HBQ:=ae hbq;have HCL:=ae hcl;have hlq:wo.heap.size<wq.heap.size:=(Ni.1 hcl).1;by_cases hj2:j<es.length
    .obtain⟨a2,c2',e2,h2⟩:=(HXS.o.below (HBR.o.trans (hbq.mono HBR.o.size)));simp only[M4,true_and] at e2;obtain⟨e3,e4⟩:=e2;subst e3 e4;obtain⟨eb,rfl,helt,hxe⟩:=h2 j hj2;obtain⟨f0,f1,f2,f3⟩:=hxe;have HTK:Nw (fA (es.take (j+1))=fL (fA (es.take j)) es[j]):=by unfold Nw;rw[Na hj2,Js]
     generalize fA (es.take j)=L at hcl HCL HTK;generalize es[j]=q at f0 f1 f2 f3 HTK;have l0:wq.cell? ⟨wo.heap.size,0,none⟩=some (.int .u16 (L.1:Int)):=fH hcl 0;have l1:wq.cell? ⟨wo.heap.size,1,none⟩=some (.int .u16 (L.2.1:Int)):=fH hcl 1;have l2:wq.cell? ⟨wo.heap.size,2,none⟩=some (.int .u16 (L.2.2:Int)):=fH hcl 2;have l3:wq.cell? ⟨wo.heap.size,3,none⟩=some (.int .u16 0):=fH hcl 3;have hjI:(j:Int)<(es.length:Int):=by omega
     obtain⟨wc,hwc⟩:∃wc,wc=wq.alloc (.cells #[.int .u16 (q.1:Int),.int .u16 (q.2.1:Int),.int .u16 (q.2.2:Int),.int .u16 0] 45):=⟨_,rfl⟩;have HBC:Nw (Below wq.heap.size wq wc):=by rw[hwc];exact ai
     have q0:wc.cell? ⟨wq.heap.size,0,none⟩=some (.int .u16 (q.1:Int)):=by rw[hwc];simp[go_sem]
     have q1:wc.cell? ⟨wq.heap.size,1,none⟩=some (.int .u16 (q.2.1:Int)):=by rw[hwc];simp[go_sem]
     have q2:wc.cell? ⟨wq.heap.size,2,none⟩=some (.int .u16 (q.2.2:Int)):=by rw[hwc];simp[go_sem]
     have q3:wc.cell? ⟨wq.heap.size,3,none⟩=some (.int .u16 0):=by rw[hwc];simp[go_sem]
     have m0:=af l0 HBC.o;have m1:=af l1 HBC.o;have m2:=af l2 HBC.o;have m3:=af l3 HBC.o;have HLS:Nw (Calls prog 52 #[.agg #[.int .u16 (L.1:Int),.int .u16 (L.2.1:Int),.int .u16 (L.2.2:Int),.int .u16 0],.agg #[.int .u16 (q.1:Int),.int .u16 (q.2.1:Int),.int .u16 (q.2.2:Int),.int .u16 0]] wc λe w'=>e=.returned (.agg #[.int .u16 ((fL L q).1:Int),.int .u16 ((fL L q).2.1:Int),.int .u16 ((fL L q).2.2:Int),.int .u16 0])/\Below wc.heap.size wc w'):=by
      have h:=ry L.1 L.2.1 L.2.2 0 q.1 q.2.1 q.2.2 0 wc;have e1:max (L.1:Int) (q.1:Int)=((fL L q).1:Int):=by unfold fL;simp only;omega
      have e2:max (L.2.1:Int) (q.2.1:Int)=((fL L q).2.1:Int):=by unfold fL;simp only;omega
      have e3:max (L.2.2:Int) (q.2.2:Int)=((fL L q).2.2:Int):=by unfold fL;simp only;omega
      rw[e1,e2,e3] at h;exact h
     clear hcl hbq h2;go_upto_region 9 with fail;rw[<-hwc];clear hwc f0 f1 f2 f3 l0 l1 l2 l3;go_wp2_with (go_at_call 52;refine HLS.o.mono ?_;rintro e w9 ⟨rfl,qb⟩;have HB9:=ae qb;have n0:=af m0 qb;have n1:=af m1 qb;have n2:=af m2 qb;have n3:=af m3 qb;have HH9:Nw (w9.heap[wo.heap.size]?=some (.cells #[.int .u16 (L.1:Int),.int .u16 (L.2.1:Int),.int .u16 (L.2.2:Int),.int .u16 0] 45 (0,0))):=(qb.block _ (MN hlq HBC.o.size)).trans ((HBC.o.block _ hlq).trans HCL.o);have g0:=mM HH9.o 0;have g1:=mM HH9.o 1;have g2:=mM HH9.o 2;have g3:=mM HH9.o 3;clear qb);go_roundw;case rel=>
      refine⟨j+1,by omega,by go_num,?_,?_⟩
      .rw[HTK.o];exact Jt HH9.o _ _ _ _
      .exact(((((HBQ.o.trans (HBC.o.mono HBQ.o.size)).trans (HB9.o.mono (MO HBQ.o.size HBC.o.size))).setCell (p:=⟨wo.heap.size,0,none⟩) (MI _) _).setCell (p:=⟨wo.heap.size,1,none⟩) (MI _) _).setCell (p:=⟨wo.heap.size,2,none⟩) (MI _) _).setCell (p:=⟨wo.heap.size,3,none⟩) (MI _) _
     case measure=>simp[intOf];omega
    .have hje:j=es.length:=by omega
     subst hje;rw[M2 (MI _)] at hcl;have hLb:=vM HBK.o;generalize fA es=L at hcl HST hLb;have l0:wq.cell? ⟨wo.heap.size,0,none⟩=some (.int .u16 (L.1:Int)):=fH hcl 0;have l1:wq.cell? ⟨wo.heap.size,1,none⟩=some (.int .u16 (L.2.1:Int)):=fH hcl 1;have l2:wq.cell? ⟨wo.heap.size,2,none⟩=some (.int .u16 (L.2.2:Int)):=fH hcl 2;have l3:wq.cell? ⟨wo.heap.size,3,none⟩=some (.int .u16 0):=fH hcl 3;have HBWQ:Nw (Below w.heap.size w wq):=HBR.o.trans (hbq.mono HBR.o.size);have s1:=af c1 HBWQ.o;have HC9:Nw (∀W,Below w.heap.size w W->W.cell? ⟨db,doff+k,none⟩=some (.int .i64 (ds.getD k 0))):=λW h=>(h.cell (p:=⟨db,doff+k,none⟩) hdb).trans (HDI.o k hk2);have s2:=HC9.o wq HBWQ.o;have hdk:=HDS.o k;have HDEG:Nw (Calls prog 53 #[.agg #[.int .u16 (L.1:Int),.int .u16 (L.2.1:Int),.int .u16 (L.2.2:Int),.int .u16 0]] wq.drew λe w'=>e=.returned (.int .i64 (ix L:Nat))/\Below wq.heap.size wq w'):=by
      have h:=uC L.1 L.2.1 L.2.2 0 wq.drew (by omega) (by omega) (by omega) (by omega);have e1:(L.1:Int)+(L.2.1:Int)+(L.2.2:Int)+0=((ix L:Nat):Int):=by unfold ix;omega
      rw[e1] at h;refine h.mono ?_;rintro e w' ⟨rfl,hb⟩;exact⟨rfl,(MJ _ wq).drew.trans hb⟩
     have hdX:ix L<=2703:=by unfold ix;omega
     generalize ds.getD k 0=dk at HST s2 HC9 hdk;generalize ix L=dX at HST HDEG hdX;obtain⟨hd1,hd2⟩:=hdk;have hwr1:IntKind.i64.wrap (dk+(dX:Int))=dk+(dX:Int):=rN (by omega) (by omega);have HB9':=ae hbq;clear hcl hbq HCL HBQ;go_upto_region 11 with fail;refine wp_region_held_drew (S:=λW=>W.cell? ⟨b,1,none⟩=some (.slice (some ⟨db,doff,none⟩) ds.length dc)/\W.cell? ⟨db,doff+k,none⟩=some (.int .i64 dk)/\W.cell? ⟨wo.heap.size,0,none⟩=some (.int .u16 (L.1:Int))/\W.cell? ⟨wo.heap.size,1,none⟩=some (.int .u16 (L.2.1:Int))/\W.cell? ⟨wo.heap.size,2,none⟩=some (.int .u16 (L.2.2:Int))/\W.cell? ⟨wo.heap.size,3,none⟩=some (.int .u16 0)) (by kernel_rfl) ⟨s1,s2,l0,l1,l2,l3⟩ (λhHeld=>?_);refine aG 0 29 rfl rfl hHeld (Np ⟨rfl,λw ⟨s1,s2,s3,s4,s5,s6⟩=>by go_simp<;>with_reducible rfl⟩) ?_;refine aG 1 30 rfl rfl hHeld (Np ⟨rfl,λw ⟨s1,s2,s3,s4,s5,s6⟩=>by go_simp<;>with_reducible rfl⟩) ?_;refine aG 2 31 rfl rfl hHeld (Np ⟨rfl,λw ⟨s1,s2,s3,s4,s5,s6⟩=>by go_simp<;>with_reducible rfl⟩) ?_;refine aG 3 32 rfl rfl hHeld (Np ⟨rfl,λw ⟨s1,s2,s3,s4,s5,s6⟩=>by go_simp<;>with_reducible rfl⟩) ?_;refine aG 4 33 rfl rfl hHeld (Np ⟨rfl,λw ⟨s1,s2,s3,s4,s5,s6⟩=>by go_simp<;>with_reducible rfl⟩) ?_;refine aG 5 34 rfl rfl hHeld (Np ⟨rfl,λw ⟨s1,s2,s3,s4,s5,s6⟩=>by go_simp<;>with_reducible rfl⟩) ?_;refine aG 6 35 rfl rfl hHeld (Np ⟨rfl,λw ⟨s1,s2,s3,s4,s5,s6⟩=>by go_simp<;>with_reducible rfl⟩) ?_;refine aG 7 36 rfl rfl hHeld (Np ⟨rfl,λw ⟨s1,s2,s3,s4,s5,s6⟩=>by go_simp<;>with_reducible rfl⟩) ?_;refine aG 8 37 rfl rfl hHeld (Np ⟨rfl,λw ⟨s1,s2,s3,s4,s5,s6⟩=>by go_simp<;>with_reducible rfl⟩) ?_;simp only[Act.put,List.setIfInBounds_toArray,List.set_cons_zero,List.set_cons_succ];refine wpAnyH_ready (rs:=[9]) (by kernel_rfl) (by simp) ?_;refine AllReadyH.cons rfl (λK hK=>?_) AllReadyH.nil;go_simp;refine HDEG.o.mono ?_;rintro e w9 ⟨rfl,hb9⟩;have HB9:Nw (Below wq.heap.size wq w9):=hb9;have HBW9:Nw (Below w.heap.size w w9):=HBWQ.o.trans (hb9.mono HBWQ.o.size);clear hb9;dsimp only;refine hK.out _ _ ⟨af s1 HB9.o,HC9.o _ HBW9.o,af l0 HB9.o,af l1 HB9.o,af l2 HB9.o,af l3 HB9.o⟩ (λhHeld=>?_);clear hK K;try refine aG 10 39 rfl rfl hHeld (Np ⟨rfl,λw ⟨s1,s2,s3,s4,s5,s6⟩=>by go_simp<;>with_reducible rfl⟩) ?_
     refine aG 11 40 rfl rfl hHeld (Np ⟨rfl,λw ⟨s1,s2,s3,s4,s5,s6⟩=>by go_simp<;>with_reducible rfl⟩) ?_;refine aG 12 3 rfl rfl hHeld (Np ⟨rfl,λw ⟨s1,s2,s3,s4,s5,s6⟩=>by go_simp<;>with_reducible rfl⟩) ?_;simp only[Act.put,List.setIfInBounds_toArray,List.set_cons_zero,List.set_cons_succ];refine wpAnyH_done (by kernel_rfl) ?_ _;go_wp2_with fail;go_roundw;case rel=>exact⟨k+1,by omega,by go_num,by rw[HST.o],HBW9.o⟩
     case measure=>simp[intOf];omega
  .have hke:k=ds.length:=by omega
   subst hke;go_wp2;go_ret;exact⟨rfl,HBR.o⟩
theorem Tryz.infoIntM:(prog.info? 3).map (λi=>(i.zero,i.size,i.bytes))=some (some (.int .i64 0),1,8):=by kernel_rfl
def jK(n:Nat)(f:Nat->Int):Array Value:=((List.range n).map λj=>Value.int .i64 (f j)).toArray
def cH(W:World)(b n:Nat)(f:Nat->Int):Prop:=W.heap[b]?=some (.cells (jK n f) 3 (0,0))
theorem rU{n:Nat}{f:Nat->Int}{i:Nat}(hi:i<n):(jK n f)[i]?=some (.int .i64 (f i)):=by unfold jK;rw[List.getElem?_toArray,List.getElem?_map,List.getElem?_range hi];rfl
theorem rV(n:Nat)(f:Nat->Int):(jK n f).size=n:=by unfold jK;simp
theorem cH.at{W:World}{b n:Nat}{f:Nat->Int}(h:cH W b n f){i:Nat}(hi:i<n):W.cell? ⟨b,i,none⟩=some (.int .i64 (f i)):=by rw[fH h i];exact rU hi
theorem cH.fr{W:World}{b n:Nat}{f:Nat->Int}(h:cH W b n f)(i:Nat):W.frozen? ⟨b,i,none⟩=false:=mM h i
theorem cH.lt{W:World}{b n:Nat}{f:Nat->Int}(h:cH W b n f):b<W.heap.size:=(Ni.1 h).1
theorem cH.keep{W W':World}{b n:Nat}{f:Nat->Int}(h:cH W b n f)(hb:Below W.heap.size W W'):cH W' b n f:=(hb.block _ h.lt).trans h
theorem Jv{n:Nat}{f:Nat->Int}{i:Nat}(hi:i<n)(y:Int):(jK n f).setIfInBounds i (.int .i64 y)=jK n (λj=>if j=i then y else f j):=by
 apply Array.ext_getElem?;intro j;by_cases hj:j<n
 .rw[rU hj,Array.getElem?_setIfInBounds];by_cases e:i=j
  .subst e;rw[M9 rfl,M9 (by rw[rV];exact hi)];simp
  .rw[M8 e,rU hj,M8 (Ne.symm e)]
 .rw[Array.getElem?_eq_none (by rw[Array.size_setIfInBounds,rV];omega),Array.getElem?_eq_none (by rw[rV];omega)]
theorem cH.put{W:World}{b n:Nat}{f:Nat->Int}(h:cH W b n f){i:Nat}(hi:i<n)(y:Int):cH (W.setCell ⟨b,i,none⟩ (.int .i64 y)) b n (λj=>if j=i then y else f j):=by have hlt:=h.lt;unfold cH at h⊢;rw[<-Jv hi y];simp[World.setCell,Array.getElem?_modify,h]
theorem cH.drew{W:World}{b n:Nat}{f:Nat->Int}(h:cH W b n f):cH W.drew b n f:=h
theorem cH.eq{W:World}{b n:Nat}{f g:Nat->Int}(h:cH W b n f)(e:f=g):cH W b n g:=e ▸ h
theorem cH.new(w:World)(n:Nat):cH (w.alloc (.cells (madeCells #[.int .i64 0] n) 3)) w.heap.size n (λ_=>0):=by
 unfold cH;rw[heap_alloc_new w _];congr 2;apply Array.ext_getElem?;intro j;by_cases hj:j<n
 .rw[rU hj];unfold madeCells;simp[hj,Nat.mod_one]
 .rw[show (jK n λ_=>0)[j]?=none from Array.getElem?_eq_none (by rw[rV];omega)];unfold madeCells;simp;omega
theorem cH.sl{W:World}{b n:Nat}{f:Nat->Int}(h:cH W b n f){m:Nat}(hm:m<=n)(c:Nat):Sl W (.slice (some ⟨b,0,none⟩) m c) ((List.range m).map f):=by refine⟨some ⟨b,0,none⟩,c,by simp,λ_=>⟨b,0,rfl,h.lt,λi hi=>?_⟩⟩;rw[M6,List.length_range] at hi;rw[M1,h.at (MN hi hm),MV,List.getElem?_map,List.getElem?_range hi];rfl
def mS(f:Nat->Int):Nat->Int:=λj=>if 0<j then f j-f (j-1) else f j
def iY(f:Nat->Int)(k:Nat):Nat->Int:=λj=>if k<j then f j-f (j-1) else f j
def dw(f:Nat->Int):Nat->Nat->Int
 |0=>f
 |k+1=>mS (dw f k)
theorem Jw(f:Nat->Int){d:Nat}(hd:0<d):(λj=>if j=d then iY f d d-iY f d (d-1) else iY f d j)=iY f (d-1):=by
 funext j;unfold iY;by_cases e:j=d
 .subst e;rw[M9 rfl,M8 (Nat.lt_irrefl _),M8 (by omega),M9 (by omega)]
 .rw[M8 e];by_cases h:d<j
  .rw[M9 h,M9 (by omega)]
  .rw[M8 h,M8 (by omega)]
theorem Jy(f:Nat->Int){n d:Nat}(h:n<=d+1):∀j,j<n->iY f d j=f j:=λj hj=>by unfold iY;rw[M8 (by omega)]
theorem cH.ext{W:World}{b n:Nat}{f g:Nat->Int}(h:cH W b n f)(e:∀j,j<n->f j=g j):cH W b n g:=by
 have e2:jK n f=jK n g:=by unfold jK;congr 1;exact List.map_congr_left λj hj=>by rw[e j (List.mem_range.1 hj)]
 unfold cH;rw[<-e2];exact h
theorem vN{f:Nat->Int}{B:Int}(hB:0<=B)(h:∀j,-B<=f j/\f j<=B)(j:Nat):-(2*B)<=mS f j/\mS f j<=2*B:=by unfold mS;have h1:=h j;have h2:=h (j-1);split<;>omega
def kj(L:Nat)(F:Nat->Int):Nat->Int:=λj=>if j<=L then F j else 0
theorem Jz(L:Nat)(F:Nat->Int):∀k j,j<=L->dw (kj L F) k j=dw F k j:=by
 intro k;induction k with
 |zero=>intro j hj;simp[dw,kj,hj]
 |succ k ih=>
  intro j hj;simp only[dw];unfold mS;rw[ih j hj];by_cases h:0<j
  .rw[M9 h,M9 h,ih (j-1) (by omega)]
  .rw[M8 h,M8 h]
def mT(F:Nat->Int)(k:Nat):Nat->Int:=λj=>if j<k then F j else 0
theorem JA(F:Nat->Int)(k:Nat):(λj=>if j=k then F k else mT F k j)=mT F (k+1):=by
 funext j;unfold mT;by_cases e:j=k
 .subst e;rw[M9 rfl,M9 (Nat.lt_succ_self _)]
 .rw[M8 e];by_cases h:j<k
  .rw[M9 h,M9 (by omega)]
  .rw[M8 h,M8 (by omega)]
theorem JB(F:Nat->Int)(L:Nat):mT F (L+1)=kj L F:=by
 funext j;unfold mT kj;by_cases h:j<=L
 .rw[M9 h,M9 (by omega)]
 .rw[M8 h,M8 (by omega)]
theorem vO{ms:List Mm}{x:Mm}:∀k,x∈aT ms k->x∈ms
 |0,h=>by simp[aT] at h
 |k+1,h=>by
  simp only[aT,MY,aU,Nh] at h;rcases h with h|h
  .exact vO k h
  .exact h.1
theorem JC{p:Int}{ds:List Int}{N R:Nat}(h0:∀i,0<=ds.getD i 0){vs:List (List Ft)}{ms:List Mm}{qs:List Pq}{E:Nat->Nat->Prop}{T:Int}(h:Cp p (λi=>ds.getD i 0) N R vs ms qs E T)(pl:Nat):∀e∈bh ((aT ms R).map Mm.L) pl,e.1<=901/\e.2.1<=901/\e.2.2<=901:=by intro e he;unfold bh at he;obtain⟨t,ht,rfl⟩:=M5.1 he;obtain⟨h1,_⟩:=Nh.1 ht;obtain⟨x,hx,rfl⟩:=M5.1 h1;obtain⟨D,_,h2,h3⟩:=h.mb x (vO R hx);have g:=h3.gd x.L (by simp);have g1:=g.a;have g2:=g.b;have g3:=g.d;have g4:=g.deg;have g5:=h0 x.L.pl.toNat;unfold bV;simp only;omega
theorem JD{ds:List Int}{ess:Nat->List Gb.Mo}(hds:∀i,0<=ds.getD i 0/\ds.getD i 0<=6)(hbd:∀pl,∀e∈ess pl,e.1<=901/\e.2.1<=901/\e.2.2<=901):∀k,0<=gB ds ess k/\gB ds ess k<=2709:=by
 intro k;induction k with
 |zero=>exact⟨Int.le_refl _,by show (0:Int)<=2709;decide⟩
 |succ k ih=>
  have h2:=hds k;have h3:=vM (hbd k);have h4:ix (fA (ess k))<=2703:=by unfold ix;omega
  simp only[gB];omega
def pM(p:Int)(N:Nat)(ds:List Int)(vss:List (List (List Tm)))(L:Nat):Prop:=∃fls vs ms E T,kJ p ds N ds.length vss fls/\vs.Perm (b9 fls)/\Cp p (λi=>ds.getD i 0) N ds.length vs ms [] E T/\dT p (λi=>ds.getD i 0) ds.length ms E/\(L:Int)=gB ds (bh ((aT ms ds.length).map Mm.L)) ds.length
theorem JE{p o:Int}{N L:Nat}{ds:List Int}{vss:List (List (List Tm))}{n v:Int}(hC:n5 p n o v ds vss N)(h:pM p N ds vss L)(j:Nat)(hj:j<=2709):0<=eo p o N ds vss j/\eo p o N ds vss j<=768096003:=by obtain⟨fls,vs,ms,E,T,q2,q3,q4,q5,_⟩:=h;have hn:=hC.nn;have hr:=hC.cx.r;have e:=rT hC.nn rfl hC.cx (λi=>(hC.g0 i).1) (d:=(j:Int)) (by omega) hC.len hC.right q2 q3 q4 q5;have h1:=vn (N:=N) (ds:=ds) (ess:=bh ((aT ms ds.length).map Mm.L)) (d:=(j:Int)) (by omega) (by omega) (λi=>(hC.g0 i).1) ds.length;have h2:=Nr 256032001 hr;omega
theorem JF(p o v:Int)(N:Nat)(n:Int)(dv lv:Value)(ds:List Int)(vss:List (List (List Tm)))(w:World)(hC:n5 p n o v ds vss N)(hs:Sl w dv ds)(hw:Wl w lv vss):Calls prog 13 #[aS p N o v,dv,lv] w λe w'=>∃b L,e=.returned (.pointer (some ⟨b,0,none⟩))/\Below w.heap.size w w'/\L<=2709/\pM p N ds vss L/\(∀W,Below w'.heap.size w' W->Calls prog 29 #[.pointer (some ⟨b,0,none⟩)] W λe W'=>e=.returned (.int .i64 (L:Nat))/\Below W.heap.size W W')/\(∀W,Below w'.heap.size w' W->∀j:Nat,j<=L->Calls prog 14 #[.pointer (some ⟨b,0,none⟩),.int .i64 (j:Nat)] W λe W'=>e=.returned (.int .i64 (eo p o N ds vss j))/\Below W.heap.size W W'):=by
 have hl0:=hC.l0;have hN3:=hC.cx.r;refine(AY p o v N dv lv ds vss w hC.cx hs hC.l0 hC.ds6 hw hC.v4 hC.len hC.right hC.hom).mono ?_;rintro e w' ⟨b,x,fls,vs,ms,E,T,rfl,q1,q2,q3,q4,q5,q6,q7⟩;have hbd:=λpl=>JC (R:=ds.length) (λi=>(hC.g0 i).1) q4 pl;have hlb:=JD hC.g0 hbd ds.length;obtain⟨L,hL⟩:∃L:Nat,(L:Int)=gB ds (bh ((aT ms ds.length).map Mm.L)) ds.length:=⟨(gB ds (bh ((aT ms ds.length).map Mm.L)) ds.length).toNat,by omega⟩;refine⟨b,L,rfl,q7,by omega,⟨fls,vs,ms,E,T,q2,q3,q4,q5,hL⟩,λW hW=>?_,λW hW j hj=>?_⟩
 .have h:=Ju N b dv x ds (bh ((aT ms ds.length).map Mm.L)) W (q1.below hW) ((hs.below q7).below hW) hl0 hN3 hC.g0 (q6.below hW) (λpl _=>vL hC.cx hN3 q4 pl) (λpl _=>hbd pl);rw[<-hL] at h;exact h
 .have hc:=A0 N b hC.nn dv x ds (bh ((aT ms ds.length).map Mm.L)) (j:Int) W (q1.below hW) ((hs.below q7).below hW) hl0 hN3 (λi _=>hC.g0 i) (q6.below hW) (λpl _=>vL hC.cx hN3 q4 pl) (by omega) (by omega);rw[rT hC.nn rfl hC.cx (λi=>(hC.g0 i).1) (by omega) hC.len hC.right q2 q3 q4 q5] at hc;exact hc
end Go.Proofs.YteimdcndjjclnaaGreat
namespace Go.Proofs.YteimdcndjjclnaaGreat
open Go.Proofs.Tryz
set_option linter.all false
def lH:List (List (List Tm)):=[[[(1,[1,0])]]]
theorem oQ{p:Int}{dg:Nat->Int}{R:Nat}{fss:List (List Ft)}(hf:∀fs∈fss,∀t∈fs,1<=t.a.toNat){u:Gb.Te}(hu:u.2.1=0):∀rp:Gb.Rp Gb.Mo,Gb.ev (az p dg R fss) (Gb.dl u) rp=0
 |[]=>rfl
 |r::rp=>by
  simp only[Gb.ev];rw[oQ hf hu rp];have e:Gb.ln (λt=>Gb.dl u ((Gb.aF (dR dg R)).act r.2.1 t)) ((az p dg R fss).g r.2.2)=0:=Gb.jv λy hy=>by
   have hy:y∈dp R (fss.getD r.2.2 []):=hy;obtain⟨t,ht,rfl⟩:=M5.1 hy;have hm:1<=t.a.toNat:=by
    by_cases hi:r.2.2<fss.length
    .rw[MV,MW hi] at ht;exact hf _ (MS hi) t ht
    .rw[MV,MX (by omega)] at ht;simp at ht
   show Gb.dl u (Gb.aC r.2.1 (ah R t))=0;unfold Gb.dl;rw[M8];intro e;have e2:=congrArg (λs:Gb.Te=>s.2.1) e;unfold Gb.aC ah at e2;simp only at e2;omega
  rw[e];omega
theorem Cp.far{p:Int}{dg:Nat->Int}{N R:Nat}(hx:aR p dg N R){vs:List (List Ft)}{ms:List Mm}{qs:List Pq}{E:Nat->Nat->Prop}{T:Int}(h:Cp p dg N R vs ms qs E T)(hvs:∀fs∈vs,∀t∈fs,1<=t.a.toNat):∀x∈ms,1<=x.L.a.toNat:=by
 intro x hxm;apply Nat.pos_of_ne_zero;intro h0;obtain⟨D2,_,d901,hm⟩:=h.mb x hxm;have hgL:=hm.gd x.L (by simp);obtain⟨rp,r1,r2⟩:=h.mx x hxm D2 hm;have h3:p∣aJ R (Gb.dl (ah R x.L)) (x.L::x.r)-Gb.ev (az p dg R vs) (Gb.dl (ah R x.L)) rp:=r2 (Gb.dl (ah R x.L));have e0:Gb.ev (az p dg R vs) (Gb.dl (ah R x.L)) rp=0:=oQ hvs h0 rp;have low:∀u∈x.r,(Gb.aF (dR dg R)).lt (ah R u) (ah R x.L):=λu hu=>ns hx (by omega) (hm.gd u (by simp[hu])) hgL (hm.dn.head u hu);have e1:aJ R (Gb.dl (ah R x.L)) x.r=0:=Gb.jv λy hy=>by obtain⟨u,hu,rfl⟩:=M5.1 hy;have hlt:=low u hu;show Gb.dl (ah R x.L) (ah R u)=0;unfold Gb.dl;rw[M8];intro e;rw[e] at hlt;exact(Gb.aF (dR dg R)).irr _ hlt
 have e2:aJ R (Gb.dl (ah R x.L)) (x.L::x.r)=1:=by rw[im,e1,hm.c1];unfold Gb.dl;rw[M9 rfl];decide
 rw[e0,e2] at h3;have hp:=eO hx.pr;have:=Int.le_of_dvd (by decide) h3;omega
theorem JG{α:Type}{l:List α}{a:α}(hn:l.Nodup)(h:∀y,y∈l↔y=a):l.length=1:=by
 cases l with
 |nil=>exact absurd ((h a).2 rfl) (by simp)
 |cons b l=>
  cases l with
  |nil=>rfl
  |cons c l=>have e1:=(h b).1 (by simp);have e2:=(h c).1 (by simp);rw[List.nodup_cons] at hn;exact absurd (show b∈c::l by rw[e1,e2];simp) hn.1
theorem Bv:∀(es:List Gb.Mo)(a e:Gb.Mo),(e∈es\/e.1<=a.1)->e.1<=(es.foldl fL a).1
 |[],a,e,h=>by simpa using h
 |q::es,a,e,h=>by
  rw[List.foldl_cons];refine Bv es _ e ?_;rcases h with h|h
  .rcases Nb.1 h with rfl|h
   .exact Nq (by unfold fL;simp only;omega)
   .exact Np h
  .exact Nq (by unfold fL;simp only;omega)
theorem fZ:eo 7 1 2 [0] lH 1=1:=by kernel_rfl
theorem JH{L:Nat}(hC:n5 7 2 1 1 [0] lH 2)(h:pM 7 2 [0] lH L):1<=L/\∀j:Nat,eo 7 1 2 [0] lH j=1:=by
 obtain⟨fls,vs,ms,E,T,q2,q3,q4,q5,q6⟩:=h;have hvs:∀fs∈vs,∀t∈fs,1<=t.a.toNat:=λfs hfs t ht=>by
  have h1:fs∈fls:=(Nh.1 (q3.mem_iff.1 hfs)).1;obtain⟨i,hi,rfl⟩:=Nu.1 h1;have hl:fls.length=1:=q2.len;have hi0:i=0:=by omega
  subst hi0;have hp:=(q2.at_ 0 (by decide)).1;rw[MV,MW hi] at hp;have h2:=hp.mem_iff.1 ht;have h3:t=eQ (λi=>[(0:Int)].getD i 0) 2 0 (1,[1,0]):=by have h4:fQ (λi=>[(0:Int)].getD i 0) 2 (lH.getD 0 []) 1=[eQ (λi=>[(0:Int)].getD i 0) 2 0 (1,[1,0])]:=rfl;have h5:t∈fQ (λi=>[(0:Int)].getD i 0) 2 (lH.getD 0 []) 1:=h2;rw[h4,MZ] at h5;exact h5
  rw[h3];exact MI 1
 have hA:=q4.far hC.cx hvs;have hE1:∀e∈bh ((aT ms 1).map Mm.L) 0,1<=e.1:=λe he=>by unfold bh at he;obtain⟨t,ht,rfl⟩:=M5.1 he;obtain⟨h1,_⟩:=Nh.1 ht;obtain⟨x,hx,rfl⟩:=M5.1 h1;exact hA x (vO 1 hx)
 have hcn:∀d:Int,0<=d->(gz 2 [0] (bh ((aT ms 1).map Mm.L)) d 1:Int)=eo 7 1 2 [0] lH d:=λd hd=>rT (R:=1) hC.nn rfl hC.cx (λi=>(hC.g0 i).1) hd hC.len hC.right q2 q3 q4 q5;have hq6:(L:Int)=gB [0] (bh ((aT ms 1).map Mm.L)) 1:=q6;have hoq:∀d:Int,gz 2 [0] (bh ((aT ms 1).map Mm.L)) d 1=((bR 2 d).filter λe=>!(bh ((aT ms 1).map Mm.L) 0).any λl=>dr l e).length:=λd=>by simp only[gz,mO];rw[M1,show d-[(0:Int)].getD 0 0=d from Int.sub_zero d]
 have hls:gB [0] (bh ((aT ms 1).map Mm.L)) 1=max 0 (0+(ix (fA (bh ((aT ms 1).map Mm.L) 0)):Nat)):=rfl;rw[hls] at hq6;generalize bh ((aT ms 1).map Mm.L)=ess at hE1 hcn hoq hq6;generalize ess 0=es at hE1 hoq hq6;have hno:∀y:Gb.Mo,y.1=0->(es.any λl=>dr l y)=false:=λy hy=>by
  cases e:es.any λl=>dr l y
  .rfl
  .obtain⟨l,hl,hd⟩:=List.any_eq_true.1 e;have h1:=hE1 l hl;unfold dr at hd;simp only[Bool.and_eq_true,decide_eq_true_eq] at hd;omega
 have hx1:(es.any λl=>dr l (1,0,0))=true:=by
  cases e:es.any λl=>dr l (1,0,0)
  .have h1:=hcn 1 (by decide);rw[hoq 1,fZ] at h1;have h2:bR 2 1=[(1,0,0),(0,1,0)]:=by decide
   rw[h2,List.filter_cons,M9 (by rw[e];rfl),List.filter_cons,M9 (by rw[hno (0,1,0) rfl];rfl)] at h1;simp at h1
  .rfl
 obtain⟨e1,he1,hd1⟩:=List.any_eq_true.1 hx1;have h11:=hE1 e1 he1;refine⟨?_,λj=>?_⟩
 .have h5:=Bv es (0,0,0) e1 (Np he1);have h6:1<=ix (fA es):=by unfold ix fA;omega
  omega
 .rw[<-hcn j (by omega),hoq];have h7:((bR 2 (j:Int)).filter λe=>!es.any λl=>dr l e).length=1:=by
   refine JG (a:=(0,j,0)) ((Bi (by omega) _).filter _) λy=>?_;rw[Nh,Bh (by omega)];unfold nM;constructor
   .rintro ⟨⟨⟨_,h2⟩,h3⟩,h4⟩;have h2:=h2 (by omega);have h5:y.1=0:=by
     apply Nat.eq_zero_of_not_pos;intro hy;have h6:(es.any λl=>dr l y)=true:=by rw[List.any_eq_true];refine⟨e1,he1,?_⟩;unfold dr at hd1⊢;simp only[Bool.and_eq_true,decide_eq_true_eq] at hd1⊢;omega
     rw[h6] at h4;simp at h4
    obtain⟨a,b,c⟩:=y;simp only at h2 h3 h5;subst h2 h5;have:b=j:=by omega
    rw[this]
   .rintro rfl;refine⟨⟨⟨λh=>absurd h (by omega),λ_=>rfl⟩,by simp⟩,?_⟩;rw[hno (0,j,0) rfl];rfl
  rw[h7];rfl
theorem rW(j:Nat):dw (λ_=>1) 2 j=if j=0 then 1 else if j=1 then-1 else 0:=by
 simp only[dw];unfold mS;by_cases h0:j=0
 .subst h0;simp
 .by_cases h1:j=1
  .subst h1;simp
  .rw[M9 (by omega),M9 (by omega),M9 (by omega),M8 h0,M8 h1];rfl
theorem JI{L m:Nat}(hC:n5 7 2 1 1 [0] lH 2)(h:pM 7 2 [0] lH L)(hz:∀j,m<=j->j<=L->dw (λj=>eo 7 1 2 [0] lH j) 2 j=0)(hm:m=0\/dw (λj=>eo 7 1 2 [0] lH j) 2 (m-1)≠0):(List.range m).map (dw (λj=>eo 7 1 2 [0] lH j) 2)=[1,-1]:=by
 obtain⟨h1,h2⟩:=JH hC h;have e:(λj:Nat=>eo 7 1 2 [0] lH (j:Int))=λ_=>1:=funext λj=>h2 j;rw[e] at hz hm⊢;have e2:m=2:=by
  have a1:2<=m:=by apply Nat.le_of_not_lt;intro hlt;have:=hz 1 (by omega) h1;rw[rW] at this;simp at this
  apply Nat.le_antisymm _ a1;apply Nat.le_of_not_lt;intro hlt;rcases hm with hm|hm
  .omega
  .rw[rW,M8 (by omega),M8 (by omega)] at hm;exact hm rfl
 subst e2;rw[show List.range 2=[0,1] from rfl,List.map_cons,List.map_cons,List.map_nil,rW,rW];rfl
end Go.Proofs.YteimdcndjjclnaaGreat
