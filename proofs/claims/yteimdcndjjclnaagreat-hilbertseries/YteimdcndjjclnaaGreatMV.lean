/- hilbert.Count. -/
import Derived.Test.YteimdcndjjclnaaGreatMK
import Derived.Test.YteimdcndjjclnaaGreatMM
set_option maxHeartbeats 4000000
set_option maxRecDepth 100000
namespace Go.Proofs.YteimdcndjjclnaaGreat
set_option linter.all false
open Go.Proofs.Tryz Go.RowKit
structure jH(p n o v:Int)(ds:List Int)(vss:List (List (List Tm)))(N:Nat):Prop where
 hn:n=N
 nn:N=1\/N=2\/N=3
 ho:o=1\/o=2
 cx:aP p (λi=>ds.getD i 0) N ds.length
 l0:0<ds.length
 ds6:∀d∈ds,0<=d/\d<=6
 g0:∀i,0<=ds.getD i 0/\ds.getD i 0<=6
 v4:vss.length<=4
 len:∀g∈vss,g.length=ds.length
 right:∀g∈vss,∀f∈g,cQ p o N f
 hom:∀g∈vss,∃D,D<=9/\j7 (λi=>ds.getD i 0) D g
theorem t8{p n o v:Int}{ds:List Int}{vss:List (List (List Tm))}(h:cM p n o v ds vss=0):∃N,jH p n o v ds vss N:=by
 have hb:dY p n o v ds.length vss=0:=by
  by_cases e:dY p n o v ds.length vss=0
  .exact e
  .rw[AE e] at h;exact h
 obtain⟨hv,hr3,hv4,hbig⟩:=uy hb;obtain⟨hR,hrk,_,hall⟩:=oN hv;obtain⟨hpr,hn1,hn3,ho,_⟩:=jq hR;have h6:ds.any eo=false:=by
  cases e:ds.any eo
  .rfl
  .rw[AF hb e] at h;exact absurd h (by decide)
 rw[AG hb h6] at h;have hds:∀d∈ds,0<=d/\d<=6:=λd hd=>by have:=List.any_eq_false.1 h6 d hd;unfold eo bH at this;simp at this;exact this
 have hg0:∀i,0<=ds.getD i 0/\ds.getD i 0<=6:=λi=>by
  by_cases hi:i<ds.length
  .exact hds _ (ix ds i hi)
  .rw[Lr,Lu (by omega)];simp
 have hlen:∀g∈vss,g.length=ds.length:=λg hg=>by have:=(hall g hg).1;omega
 have hrt:∀g∈vss,∀f∈g,cQ p o n.toNat f:=λg hg f hf=>by have h:=(hall g hg).2 f hf;rw[show n=(n.toNat:Int) by omega] at h;exact oO h
 have hun:vss.any (ir ds)=false:=by
  unfold kW at h;cases e:vss.any (ir ds)
  .rfl
  .rw[e] at h;exact absurd h (by decide)
 refine⟨n.toNat,by omega,by omega,ho,⟨hpr,by omega,by omega,by omega,λi hi=>hg0 i⟩,by omega,hds,hg0,hv4,hlen,hrt,λg hg=>?_⟩;have hu:ir ds g=false:=by have:=List.any_eq_false.1 hun g hg;simpa using this
 have hbg:iq g=false:=by have:=List.any_eq_false.1 hbig g hg;simpa using this
 have h3:∀i,∀t∈g.getD i [],ah t.2<=3/\i<g.length:=λi t ht=>by
  have hi:i<g.length:=by apply LF;intro hle;rw[Lr,Lu hle] at ht;simp at ht
  have hm:g.getD i []∈g:=by rw[Lr,Ls hi];exact Lo hi
  have hb1:gj (g.getD i [])=false:=by have:=List.any_eq_false.1 hbg _ hm;simpa using this
  have hR1:=hrt g hg _ hm;unfold gj at hb1;rw[Az hR1] at hb1;refine⟨?_,hi⟩;revert hb1 hR1 ht;generalize g.getD i []=f;intro ht hb1 hR1;cases f with
  |nil=>simp at ht
  |cons u us=>
   have h4:=AA hR1.canon t ht;have h5:¬3<ah u.2:=by simp only[Bool.or_eq_false_iff,decide_eq_false_iff_not] at hb1;exact hb1.2
   omega
 have hmemd:∀i,∀t∈g.getD i [],ds.getD i 0+ah t.2∈aY ds g g.length:=λi t ht=>by unfold aY;rw[L7];refine⟨i,by rw[List.mem_range];exact(h3 i t ht).2,?_⟩;unfold cI;exact LC.2 ⟨t,ht,rfl⟩
 cases e:aY ds g g.length with
 |nil=>refine⟨0,by decide,λi t ht=>?_⟩;have:=hmemd i t ht;rw[e] at this;simp at this
 |cons z zs=>
  have hall2:zs.all (λy=>y==z)=true:=by
   unfold ir at hu;rw[e,l6] at hu;cases e2:zs.all (λy=>y==z)
   .rw[e2] at hu;simp at hu
   .rfl
  have hz:∀x∈aY ds g g.length,x=z:=λx hx=>by
   rw[e] at hx;rcases LL.1 hx with rfl|hx
   .rfl
   .have:=List.all_eq_true.1 hall2 x hx;simpa using this
  have hz9:z<=9:=by
   have hx:z∈aY ds g g.length:=by rw[e];simp
   unfold aY at hx;rw[L7] at hx;obtain⟨i,_,hx⟩:=hx;unfold cI at hx;obtain⟨t,ht,rfl⟩:=LC.1 hx;have:=h3 i t ht;have:=hg0 i;omega
  refine⟨z,hz9,λi t ht=>?_⟩;have h7:=hz _ (hmemd i t ht);show ah t.2+ds.getD i 0=z;omega
def jJ(p n o v:Int)(ds:List Int)(vss:List (List (List Tm)))(d:Int):Int:=if cM p n o v ds vss≠0 then cM p n o v ds vss else if d<0\/12<d then 3 else 0
def jI(p n o v:Int)(ds:List Int)(vss:List (List (List Tm)))(d:Int):Int:=if cM p n o v ds vss≠0 then 0 else if d<0\/12<d then 0 else cL p o n.toNat ds vss d
theorem uA{p:Int}{dg:Nat->Int}{N R:Nat}(hx:aP p dg N R)(hR:R<=3){vs:List (List Ft)}{ms:List Mm}{qs:List Pq}{E:Nat->Nat->Prop}{T:Int}(h:Cp p dg N R vs ms qs E T)(pl:Nat):(aX ((aQ ms R).map Mm.L) pl).length<=5000000:=by have h1:=ou (h.len hx).1 R;have h2:=L5 407253 hR;have h3:=LX (λt:Ft=>decide (t.pl=(pl:Int))) ((aQ ms R).map Mm.L);unfold aX;rw[LD] at h3⊢;omega
theorem zN(p n o v:Int)(dv lv:Value)(ds:List Int)(vss:List (List (List Tm)))(d:Int)(w:World)(hds:Sl w dv ds)(hs:Wl w lv vss)(hdb:-9223372036854775808<=d/\d<=9223372036854775807):Calls prog 5 #[aT p n o v,dv,lv,.int .i64 d] w λe w'=>e=.returned (.tuple #[.int .i64 (jI p n o v ds vss d),.int .i64 (jJ p n o v ds vss d)])/\Below w.heap.size w w':=by
 have HS:=ac hs;have HD:=ac hds;obtain⟨w1,hw1⟩:∃w1,w1=w.alloc (.cells #[.int .i64 p,.int .i64 n,.int .i64 o,.int .i64 v] 23):=⟨_,rfl⟩;have hbx:bE w1 w.heap.size p n o v:=by rw[hw1];exact bE.new w p n o v _
 have HBW:Ma (Below w.heap.size w w1):=by rw[hw1];exact bv
 have HCV:=ac (qM p n o v dv lv ds vss w1 (hds.below HBW.o) (hs.below HBW.o));obtain⟨la,lc,rfl,_⟩:=hs;obtain⟨da,dc,rfl,_⟩:=hds;have HRV:Ma (aT p n o v=.agg #[.int .i64 p,.int .i64 n,.int .i64 o,.int .i64 v]):=rfl;rw[HRV.o] at HCV;rw[HRV.o];obtain⟨_,bx0,bx1,bx2,bx3⟩:=hbx;cases hev:(cM p n o v ds vss !=0)
 rotate_left
 .have hne:cM p n o v ds vss≠0:=by simpa using hev
  have HE:Ma (jJ p n o v ds vss d=cM p n o v ds vss/\jI p n o v ds vss d=0):=by unfold Ma jJ jI;rw[LI hne,LI hne];exact⟨rfl,rfl⟩
  rw[HE.o.1,HE.o.2];clear hne;go_enter func5,ntmps5;go_upto_region 1 with fail;rw[<-hw1];clear hw1;go_wp2_with (go_at_call 8;refine HCV.o.mono ?_;rintro e w2 ⟨rfl,q1⟩;have HB2:=ac q1;clear q1);go_ret2;exact⟨rfl,HBW.o.trans (HB2.o.mono HBW.o.size)⟩
 .have hz:cM p n o v ds vss=0:=by simpa using hev
  have HZ:=ac hz;rw[hz] at HCV;clear hev;by_cases hout:d<0\/12<d
  .have HE:Ma (jJ p n o v ds vss d=3/\jI p n o v ds vss d=0):=by unfold Ma jJ jI;rw[LH (by simpa using hz),LI hout,LH (by simpa using hz),LI hout];exact⟨rfl,rfl⟩
   rw[HE.o.1,HE.o.2];clear hz;by_cases h0:d<0
   .have k1:decide (d<0)=true:=by simpa using h0
    go_enter func5,ntmps5;go_upto_region 1 with fail;rw[<-hw1];clear hw1;go_wp2_with (go_at_call 8;refine HCV.o.mono ?_;rintro e w2 ⟨rfl,q1⟩;have HB2:=ac q1;clear q1);go_ret2;exact⟨rfl,HBW.o.trans (HB2.o.mono HBW.o.size)⟩
   .have k1:decide (d<0)=false:=by simpa using h0
    have k2:decide (12<d)=true:=by simp;omega
    go_enter func5,ntmps5;go_upto_region 1 with fail;rw[<-hw1];clear hw1;go_wp2_with (go_at_call 8;refine HCV.o.mono ?_;rintro e w2 ⟨rfl,q1⟩;have HB2:=ac q1;clear q1);go_ret2;exact⟨rfl,HBW.o.trans (HB2.o.mono HBW.o.size)⟩
  .have HE:Ma (jJ p n o v ds vss d=0/\jI p n o v ds vss d=cL p o n.toNat ds vss d):=by unfold Ma jJ jI;rw[LH (by simpa using hz),LH hout,LH (by simpa using hz),LH hout];exact⟨rfl,rfl⟩
   rw[HE.o.1,HE.o.2];obtain⟨N,hC⟩:=t8 hz;have hnN:=hC.hn;subst hnN;have HC:=ac hC;have hN3:=hC.cx.r;have hl0:=hC.l0;rw[Int.toNat_natCast];have k1:decide (d<0)=false:=by simp;omega
   have k2:decide (12<d)=false:=by simp;omega
   have hd0:0<=d:=by omega
   have hd12:d<=12:=by omega
   clear hz hout hC HE HRV;have HNO:Ma (∀W,Below w.heap.size w W->Calls prog 13 #[.agg #[.int .i64 p,.int .i64 (N:Int),.int .i64 o,.int .i64 v],.slice da ds.length dc,.slice la vss.length lc] W λe w'=>∃b x,e=.returned (.pointer (some ⟨b,0,none⟩))/\Below W.heap.size W w'/\Calls prog 14 #[.pointer (some ⟨b,0,none⟩),.int .i64 d] w' λe w''=>e=.returned (.int .i64 (cL p o N ds vss d))/\Below w'.heap.size w' w''):=λW hW=>by refine(Af p o v N (.slice da ds.length dc) (.slice la vss.length lc) ds vss W HC.o.cx (HD.o.below hW) HC.o.l0 HC.o.ds6 (HS.o.below hW) HC.o.v4 HC.o.len HC.o.right HC.o.hom).mono ?_;rintro e w' ⟨b,x,fls,vs,ms,E,T,rfl,q1,q2,q3,q4,q5,q6,q7⟩;refine⟨b,x,rfl,q7,?_⟩;have hc:=Ah N b HC.o.nn (.slice da ds.length dc) x ds (aX ((aQ ms ds.length).map Mm.L)) d w' q1 ((HD.o.below hW).below q7) hl0 hN3 (λi _=>HC.o.g0 i) q6 (λpl _=>uA HC.o.cx hN3 q4 pl) (by omega) (by omega);rw[oH HC.o.nn rfl HC.o.cx (λi=>(HC.o.g0 i).1) (by omega) HC.o.len HC.o.right q2 q3 q4 q5] at hc;exact hc
   go_enter func5,ntmps5;go_upto_region 1 with fail;rw[<-hw1];clear hw1;go_upto_region 6 with (go_at_call 8;refine HCV.o.mono ?_;rintro e w2 ⟨rfl,q1⟩;have HB2:=ac q1;clear q1);have y0:=ae bx0 HB2.o;have y1:=ae bx1 HB2.o;have y2:=ae bx2 HB2.o;have y3:=ae bx3 HB2.o;have HNO2:=ac (HNO.o w2 (HBW.o.trans (HB2.o.mono HBW.o.size)));go_wp2_with (first|(go_at_call 13;refine HNO2.o.mono ?_;rintro e w3 ⟨b,x,rfl,q1,q2⟩;have HB3:=ac q1;have HCT:=ac q2;clear q1 q2)|(go_at_call 14;refine HCT.o.mono ?_;rintro e w4 ⟨rfl,q1⟩;have HB4:=ac q1;clear q1));go_ret2;exact⟨rfl,HBW.o.trans ((HB2.o.trans ((HB3.o.trans (HB4.o.mono HB3.o.size)).mono HB2.o.size)).mono HBW.o.size)⟩
def de(a b:Gb.Mo):Gb.Mo:=(max a.1 b.1,max a.2.1 b.2.1,max a.2.2 b.2.2)
def dS(es:List Gb.Mo):Gb.Mo:=es.foldl de (0,0,0)
def fM(e:Gb.Mo):Nat:=e.1+e.2.1+e.2.2
def fd(ds:List Int)(ess:Nat->List Gb.Mo):Nat->Int
 |0=>0
 |k+1=>max (fd ds ess k) (ds.getD k 0+(fM (dS (ess k)):Nat))
theorem Iz(es:List Gb.Mo)(e:Gb.Mo):dS (es++[e])=de (dS es) e:=by unfold dS;rw[List.foldl_append];rfl
theorem uB{B:Nat}:∀{es:List Gb.Mo},(∀e∈es,e.1<=B/\e.2.1<=B/\e.2.2<=B)->(dS es).1<=B/\(dS es).2.1<=B/\(dS es).2.2<=B:=by
 intro es;have key:∀(es:List Gb.Mo)(a:Gb.Mo),(a.1<=B/\a.2.1<=B/\a.2.2<=B)->(∀e∈es,e.1<=B/\e.2.1<=B/\e.2.2<=B)->(es.foldl de a).1<=B/\(es.foldl de a).2.1<=B/\(es.foldl de a).2.2<=B:=by
  intro es;induction es with
  |nil=>exact λa h _=>h
  |cons e es ih=>intro a h1 h2;rw[List.foldl_cons];have h3:=h2 e (by simp);refine ih _ ?_ λx hx=>h2 x (by simp[hx]);unfold de;simp only;omega
 exact λh=>key es (0,0,0) ⟨Ll _,Ll _,Ll _⟩ h
theorem IA{W:World}{b:Nat}{a0 a1 a2 a3:Value}{t:TypeId}(h:W.heap[b]?=some (.cells #[a0,a1,a2,a3] t (0,0)))(x0 x1 x2 x3:Value):((((W.setCell ⟨b,0,none⟩ x0).setCell ⟨b,1,none⟩ x1).setCell ⟨b,2,none⟩ x2).setCell ⟨b,3,none⟩ x3).heap[b]?=some (.cells #[x0,x1,x2,x3] t (0,0)):=by have hlt:=(LS.1 h).1;simp[World.setCell,Array.getElem?_modify,h]
theorem IB(N b:Nat)(dv x:Value)(ds:List Int)(ess:Nat->List Gb.Mo)(w:World)(ho:lX w b N dv x)(hs:Sl w dv ds)(hl0:0<ds.length)(hl3:ds.length<=3)(hds:∀i,0<=ds.getD i 0/\ds.getD i 0<=6)(hld:jb w x ds.length ess)(hes:∀pl,pl<ds.length->(ess pl).length<=5000000)(hbd:∀pl,pl<ds.length->∀e∈ess pl,e.1<=901/\e.2.1<=901/\e.2.2<=901):Calls prog 29 #[.pointer (some ⟨b,0,none⟩)] w λe w'=>e=.returned (.int .i64 (fd ds ess ds.length))/\Below w.heap.size w w':=by
 have HDS:=ac hds;have HBD:=ac hbd;have HLB:Ma (∀k,k<=ds.length->0<=fd ds ess k/\fd ds ess k<=2709):=by
  intro k;induction k with
  |zero=>exact λ_=>⟨Int.le_refl _,by show (0:Int)<=2709;decide⟩
  |succ k ih=>
   intro hk;have h1:=ih (by omega);have h2:=hds k;have h3:=uB (hbd k (by omega));have h4:fM (dS (ess k))<=2703:=by unfold fM;omega
   simp only[fd];omega
 obtain⟨da,dc,rfl,hsl⟩:=hs;obtain⟨db,doff,rfl,hdb,hdi⟩:=hsl hl0;have HDI:=ac hdi;obtain⟨gb,gc,rfl,hgb,hgr⟩:=hld;have HGR:=ac hgr;obtain⟨hlb,c0,c1,c2⟩:=ho;clear hds hbd hsl hdi hgr;go_enter func29,ntmps29;go_wp2_with fail;go_loopw [3,14] (λs i wr=>∃k:Nat,k<=ds.length/\i=.int .i64 k/\s=.int .i64 (fd ds ess k)/\Below w.heap.size w wr) (λ_ i _=>ds.length-(intOf i).toNat);case atStart=>exact⟨0,Ll _,rfl,rfl,Lf _ _⟩
 case round=>
  obtain⟨k,hk,rfl,rfl,hbr⟩:=hrel;have HBR:=ac hbr;clear hbr;by_cases hk2:k<ds.length
  .obtain⟨u,hu,hxs⟩:=HGR.o k hk2;have hku:=(HBR.o.cell (p:=⟨gb,k,none⟩) hgb).trans hu;obtain⟨ea,ec,rfl,hx2⟩:=hxs;have HXS:Ma (jD w (.slice ea (ess k).length ec) (ess k)):=⟨ea,ec,rfl,hx2⟩;have hzr:=HBR.o.size;have hkI:(k:Int)<(ds.length:Int):=by omega
   have hel:=hes k hk2;obtain⟨hl1,hl2⟩:=HLB.o k hk;have HST:Ma (fd ds ess (k+1)=max (fd ds ess k) (ds.getD k 0+(fM (dS (ess k)):Nat))):=rfl;have HBK:=ac (HBD.o k hk2);generalize fd ds ess k=lk at hl1 hl2 HST;generalize hEE:ess k=es at HXS hel HST HBK hku;clear hEE hx2 hu;obtain⟨wo,hwo⟩:∃wo:World,wo=wr:=⟨_,rfl⟩;subst hwo;obtain⟨wb,hwb⟩:∃wb,wb=wo.alloc (.cells #[.int .u16 0,.int .u16 0,.int .u16 0,.int .u16 0] 45):=⟨_,rfl⟩;have HBB:Ma (Below wo.heap.size wo wb):=by rw[hwb];exact aj
   have HH0:Ma (wb.heap[wo.heap.size]?=some (.cells #[.int .u16 0,.int .u16 0,.int .u16 0,.int .u16 0] 45 (0,0))):=by rw[hwb];exact heap_alloc_new wo _
   go_upto_region 6 with fail;rw[<-hwb];clear hwb hku;go_wp2_with fail;go_loopw [21] (λi wq=>∃j:Nat,j<=es.length/\i=.int .i64 j/\wq.heap[wo.heap.size]?=some (.cells #[.int .u16 ((dS (es.take j)).1:Int),.int .u16 ((dS (es.take j)).2.1:Int),.int .u16 ((dS (es.take j)).2.2:Int),.int .u16 0] 45 (0,0))/\Below wo.heap.size wo wq) (λi _=>es.length-(intOf i).toNat);case atStart=>exact⟨0,Ll _,rfl,HH0.o,HBB.o⟩
   case round=>
    rename World=>wq;obtain⟨j,hj,rfl,hcl,hbq⟩:=hrel;have HBQ:=ac hbq;have HCL:=ac hcl;have hlq:wo.heap.size<wq.heap.size:=(LS.1 hcl).1;by_cases hj2:j<es.length
    .obtain⟨a2,c2',e2,h2⟩:=(HXS.o.below (HBR.o.trans (hbq.mono HBR.o.size)));simp only[LB,true_and] at e2;obtain⟨e3,e4⟩:=e2;subst e3 e4;obtain⟨eb,rfl,helt,hxe⟩:=h2 j hj2;obtain⟨f0,f1,f2,f3⟩:=hxe;have HTK:Ma (dS (es.take (j+1))=de (dS (es.take j)) es[j]):=by unfold Ma;rw[LK hj2,Iz]
     generalize dS (es.take j)=L at hcl HCL HTK;generalize es[j]=q at f0 f1 f2 f3 HTK;have l0:wq.cell? ⟨wo.heap.size,0,none⟩=some (.int .u16 (L.1:Int)):=fe hcl 0;have l1:wq.cell? ⟨wo.heap.size,1,none⟩=some (.int .u16 (L.2.1:Int)):=fe hcl 1;have l2:wq.cell? ⟨wo.heap.size,2,none⟩=some (.int .u16 (L.2.2:Int)):=fe hcl 2;have l3:wq.cell? ⟨wo.heap.size,3,none⟩=some (.int .u16 0):=fe hcl 3;have hjI:(j:Int)<(es.length:Int):=by omega
     obtain⟨wc,hwc⟩:∃wc,wc=wq.alloc (.cells #[.int .u16 (q.1:Int),.int .u16 (q.2.1:Int),.int .u16 (q.2.2:Int),.int .u16 0] 45):=⟨_,rfl⟩;have HBC:Ma (Below wq.heap.size wq wc):=by rw[hwc];exact aj
     have q0:wc.cell? ⟨wq.heap.size,0,none⟩=some (.int .u16 (q.1:Int)):=by rw[hwc];simp[go_sem]
     have q1:wc.cell? ⟨wq.heap.size,1,none⟩=some (.int .u16 (q.2.1:Int)):=by rw[hwc];simp[go_sem]
     have q2:wc.cell? ⟨wq.heap.size,2,none⟩=some (.int .u16 (q.2.2:Int)):=by rw[hwc];simp[go_sem]
     have q3:wc.cell? ⟨wq.heap.size,3,none⟩=some (.int .u16 0):=by rw[hwc];simp[go_sem]
     have m0:=ae l0 HBC.o;have m1:=ae l1 HBC.o;have m2:=ae l2 HBC.o;have m3:=ae l3 HBC.o;have HLS:Ma (Calls prog 52 #[.agg #[.int .u16 (L.1:Int),.int .u16 (L.2.1:Int),.int .u16 (L.2.2:Int),.int .u16 0],.agg #[.int .u16 (q.1:Int),.int .u16 (q.2.1:Int),.int .u16 (q.2.2:Int),.int .u16 0]] wc λe w'=>e=.returned (.agg #[.int .u16 ((de L q).1:Int),.int .u16 ((de L q).2.1:Int),.int .u16 ((de L q).2.2:Int),.int .u16 0])/\Below wc.heap.size wc w'):=by
      have h:=qt L.1 L.2.1 L.2.2 0 q.1 q.2.1 q.2.2 0 wc;have e1:max (L.1:Int) (q.1:Int)=((de L q).1:Int):=by unfold de;simp only;omega
      have e2:max (L.2.1:Int) (q.2.1:Int)=((de L q).2.1:Int):=by unfold de;simp only;omega
      have e3:max (L.2.2:Int) (q.2.2:Int)=((de L q).2.2:Int):=by unfold de;simp only;omega
      rw[e1,e2,e3] at h;exact h
     clear hcl hbq h2;go_upto_region 9 with fail;rw[<-hwc];clear hwc f0 f1 f2 f3 l0 l1 l2 l3;go_wp2_with (go_at_call 52;refine HLS.o.mono ?_;rintro e w9 ⟨rfl,qb⟩;have HB9:=ac qb;have n0:=ae m0 qb;have n1:=ae m1 qb;have n2:=ae m2 qb;have n3:=ae m3 qb;have HH9:Ma (w9.heap[wo.heap.size]?=some (.cells #[.int .u16 (L.1:Int),.int .u16 (L.2.1:Int),.int .u16 (L.2.2:Int),.int .u16 0] 45 (0,0))):=(qb.block _ (Lj hlq HBC.o.size)).trans ((HBC.o.block _ hlq).trans HCL.o);have g0:=lW HH9.o 0;have g1:=lW HH9.o 1;have g2:=lW HH9.o 2;have g3:=lW HH9.o 3;clear qb);go_roundw;case rel=>
      refine⟨j+1,by omega,by go_num,?_,?_⟩
      .rw[HTK.o];exact IA HH9.o _ _ _ _
      .exact(((((HBQ.o.trans (HBC.o.mono HBQ.o.size)).trans (HB9.o.mono (Lk HBQ.o.size HBC.o.size))).setCell (p:=⟨wo.heap.size,0,none⟩) (Lc _) _).setCell (p:=⟨wo.heap.size,1,none⟩) (Lc _) _).setCell (p:=⟨wo.heap.size,2,none⟩) (Lc _) _).setCell (p:=⟨wo.heap.size,3,none⟩) (Lc _) _
     case measure=>simp[intOf];omega
    .have hje:j=es.length:=by omega
     subst hje;rw[Lz (Lc _)] at hcl;have hLb:=uB HBK.o;generalize dS es=L at hcl HST hLb;have l0:wq.cell? ⟨wo.heap.size,0,none⟩=some (.int .u16 (L.1:Int)):=fe hcl 0;have l1:wq.cell? ⟨wo.heap.size,1,none⟩=some (.int .u16 (L.2.1:Int)):=fe hcl 1;have l2:wq.cell? ⟨wo.heap.size,2,none⟩=some (.int .u16 (L.2.2:Int)):=fe hcl 2;have l3:wq.cell? ⟨wo.heap.size,3,none⟩=some (.int .u16 0):=fe hcl 3;have HBWQ:Ma (Below w.heap.size w wq):=HBR.o.trans (hbq.mono HBR.o.size);have s1:=ae c1 HBWQ.o;have HC9:Ma (∀W,Below w.heap.size w W->W.cell? ⟨db,doff+k,none⟩=some (.int .i64 (ds.getD k 0))):=λW h=>(h.cell (p:=⟨db,doff+k,none⟩) hdb).trans (HDI.o k hk2);have s2:=HC9.o wq HBWQ.o;have hdk:=HDS.o k;have HDEG:Ma (Calls prog 53 #[.agg #[.int .u16 (L.1:Int),.int .u16 (L.2.1:Int),.int .u16 (L.2.2:Int),.int .u16 0]] wq.drew λe w'=>e=.returned (.int .i64 (fM L:Nat))/\Below wq.heap.size wq w'):=by
      have h:=tu L.1 L.2.1 L.2.2 0 wq.drew (by omega) (by omega) (by omega) (by omega);have e1:(L.1:Int)+(L.2.1:Int)+(L.2.2:Int)+0=((fM L:Nat):Int):=by unfold fM;omega
      rw[e1] at h;refine h.mono ?_;rintro e w' ⟨rfl,hb⟩;exact⟨rfl,(Lf _ wq).drew.trans hb⟩
     have hdX:fM L<=2703:=by unfold fM;omega
     generalize ds.getD k 0=dk at HST s2 HC9 hdk;generalize fM L=dX at HST HDEG hdX;obtain⟨hd1,hd2⟩:=hdk;have hwr1:IntKind.i64.wrap (dk+(dX:Int))=dk+(dX:Int):=qJ (by omega) (by omega);have HB9':=ac hbq;clear hcl hbq HCL HBQ;go_upto_region 11 with fail;refine wp_region_held_drew (S:=λW=>W.cell? ⟨b,1,none⟩=some (.slice (some ⟨db,doff,none⟩) ds.length dc)/\W.cell? ⟨db,doff+k,none⟩=some (.int .i64 dk)/\W.cell? ⟨wo.heap.size,0,none⟩=some (.int .u16 (L.1:Int))/\W.cell? ⟨wo.heap.size,1,none⟩=some (.int .u16 (L.2.1:Int))/\W.cell? ⟨wo.heap.size,2,none⟩=some (.int .u16 (L.2.2:Int))/\W.cell? ⟨wo.heap.size,3,none⟩=some (.int .u16 0)) (by kernel_rfl) ⟨s1,s2,l0,l1,l2,l3⟩ (λhHeld=>?_);refine bG 0 29 rfl rfl hHeld (L0 ⟨rfl,λw ⟨s1,s2,s3,s4,s5,s6⟩=>by go_simp<;>with_reducible rfl⟩) ?_;refine bG 1 30 rfl rfl hHeld (L0 ⟨rfl,λw ⟨s1,s2,s3,s4,s5,s6⟩=>by go_simp<;>with_reducible rfl⟩) ?_;refine bG 2 31 rfl rfl hHeld (L0 ⟨rfl,λw ⟨s1,s2,s3,s4,s5,s6⟩=>by go_simp<;>with_reducible rfl⟩) ?_;refine bG 3 32 rfl rfl hHeld (L0 ⟨rfl,λw ⟨s1,s2,s3,s4,s5,s6⟩=>by go_simp<;>with_reducible rfl⟩) ?_;refine bG 4 33 rfl rfl hHeld (L0 ⟨rfl,λw ⟨s1,s2,s3,s4,s5,s6⟩=>by go_simp<;>with_reducible rfl⟩) ?_;refine bG 5 34 rfl rfl hHeld (L0 ⟨rfl,λw ⟨s1,s2,s3,s4,s5,s6⟩=>by go_simp<;>with_reducible rfl⟩) ?_;refine bG 6 35 rfl rfl hHeld (L0 ⟨rfl,λw ⟨s1,s2,s3,s4,s5,s6⟩=>by go_simp<;>with_reducible rfl⟩) ?_;refine bG 7 36 rfl rfl hHeld (L0 ⟨rfl,λw ⟨s1,s2,s3,s4,s5,s6⟩=>by go_simp<;>with_reducible rfl⟩) ?_;refine bG 8 37 rfl rfl hHeld (L0 ⟨rfl,λw ⟨s1,s2,s3,s4,s5,s6⟩=>by go_simp<;>with_reducible rfl⟩) ?_;simp only[Act.put,List.setIfInBounds_toArray,List.set_cons_zero,List.set_cons_succ];refine wpAnyH_ready (rs:=[9]) (by kernel_rfl) (by simp) ?_;refine AllReadyH.cons rfl (λK hK=>?_) AllReadyH.nil;go_simp;refine HDEG.o.mono ?_;rintro e w9 ⟨rfl,hb9⟩;have HB9:Ma (Below wq.heap.size wq w9):=hb9;have HBW9:Ma (Below w.heap.size w w9):=HBWQ.o.trans (hb9.mono HBWQ.o.size);clear hb9;dsimp only;refine hK.out _ _ ⟨ae s1 HB9.o,HC9.o _ HBW9.o,ae l0 HB9.o,ae l1 HB9.o,ae l2 HB9.o,ae l3 HB9.o⟩ (λhHeld=>?_);clear hK K;try refine bG 10 39 rfl rfl hHeld (L0 ⟨rfl,λw ⟨s1,s2,s3,s4,s5,s6⟩=>by go_simp<;>with_reducible rfl⟩) ?_
     refine bG 11 40 rfl rfl hHeld (L0 ⟨rfl,λw ⟨s1,s2,s3,s4,s5,s6⟩=>by go_simp<;>with_reducible rfl⟩) ?_;refine bG 12 3 rfl rfl hHeld (L0 ⟨rfl,λw ⟨s1,s2,s3,s4,s5,s6⟩=>by go_simp<;>with_reducible rfl⟩) ?_;simp only[Act.put,List.setIfInBounds_toArray,List.set_cons_zero,List.set_cons_succ];refine wpAnyH_done (by kernel_rfl) ?_ _;go_wp2_with fail;go_roundw;case rel=>exact⟨k+1,by omega,by go_num,by rw[HST.o],HBW9.o⟩
     case measure=>simp[intOf];omega
  .have hke:k=ds.length:=by omega
   subst hke;go_wp2;go_ret;exact⟨rfl,HBR.o⟩
theorem Tryz.infoIntM:(prog.info? 3).map (λi=>(i.zero,i.size,i.bytes))=some (some (.int .i64 0),1,8):=by kernel_rfl
def jj(n:Nat)(f:Nat->Int):Array Value:=((List.range n).map λj=>Value.int .i64 (f j)).toArray
def cr(W:World)(b n:Nat)(f:Nat->Int):Prop:=W.heap[b]?=some (.cells (jj n f) 3 (0,0))
theorem qO{n:Nat}{f:Nat->Int}{i:Nat}(hi:i<n):(jj n f)[i]?=some (.int .i64 (f i)):=by unfold jj;rw[List.getElem?_toArray,List.getElem?_map,List.getElem?_range hi];rfl
theorem qP(n:Nat)(f:Nat->Int):(jj n f).size=n:=by unfold jj;simp
theorem cr.at{W:World}{b n:Nat}{f:Nat->Int}(h:cr W b n f){i:Nat}(hi:i<n):W.cell? ⟨b,i,none⟩=some (.int .i64 (f i)):=by rw[fe h i];exact qO hi
theorem cr.fr{W:World}{b n:Nat}{f:Nat->Int}(h:cr W b n f)(i:Nat):W.frozen? ⟨b,i,none⟩=false:=lW h i
theorem cr.lt{W:World}{b n:Nat}{f:Nat->Int}(h:cr W b n f):b<W.heap.size:=(LS.1 h).1
theorem cr.keep{W W':World}{b n:Nat}{f:Nat->Int}(h:cr W b n f)(hb:Below W.heap.size W W'):cr W' b n f:=(hb.block _ h.lt).trans h
theorem IC{n:Nat}{f:Nat->Int}{i:Nat}(hi:i<n)(y:Int):(jj n f).setIfInBounds i (.int .i64 y)=jj n (λj=>if j=i then y else f j):=by
 apply Array.ext_getElem?;intro j;by_cases hj:j<n
 .rw[qO hj,Array.getElem?_setIfInBounds];by_cases e:i=j
  .subst e;rw[LI rfl,LI (by rw[qP];exact hi)];simp
  .rw[LH e,qO hj,LH (Ne.symm e)]
 .rw[Array.getElem?_eq_none (by rw[Array.size_setIfInBounds,qP];omega),Array.getElem?_eq_none (by rw[qP];omega)]
theorem cr.put{W:World}{b n:Nat}{f:Nat->Int}(h:cr W b n f){i:Nat}(hi:i<n)(y:Int):cr (W.setCell ⟨b,i,none⟩ (.int .i64 y)) b n (λj=>if j=i then y else f j):=by have hlt:=h.lt;unfold cr at h⊢;rw[<-IC hi y];simp[World.setCell,Array.getElem?_modify,h]
theorem cr.drew{W:World}{b n:Nat}{f:Nat->Int}(h:cr W b n f):cr W.drew b n f:=h
theorem cr.eq{W:World}{b n:Nat}{f g:Nat->Int}(h:cr W b n f)(e:f=g):cr W b n g:=e ▸ h
theorem cr.new(w:World)(n:Nat):cr (w.alloc (.cells (madeCells #[.int .i64 0] n) 3)) w.heap.size n (λ_=>0):=by
 unfold cr;rw[heap_alloc_new w _];congr 2;apply Array.ext_getElem?;intro j;by_cases hj:j<n
 .rw[qO hj];unfold madeCells;simp[hj,Nat.mod_one]
 .rw[show (jj n λ_=>0)[j]?=none from Array.getElem?_eq_none (by rw[qP];omega)];unfold madeCells;simp;omega
theorem cr.sl{W:World}{b n:Nat}{f:Nat->Int}(h:cr W b n f){m:Nat}(hm:m<=n)(c:Nat):Sl W (.slice (some ⟨b,0,none⟩) m c) ((List.range m).map f):=by refine⟨some ⟨b,0,none⟩,c,by simp,λ_=>⟨b,0,rfl,h.lt,λi hi=>?_⟩⟩;rw[LD,List.length_range] at hi;rw[Ly,h.at (Lj hi hm),Lr,List.getElem?_map,List.getElem?_range hi];rfl
def ck(f:Nat->Int):Nat->Int:=λj=>if 0<j then f j-f (j-1) else f j
def iu(f:Nat->Int)(k:Nat):Nat->Int:=λj=>if k<j then f j-f (j-1) else f j
def aR(f:Nat->Int):Nat->Nat->Int
 |0=>f
 |k+1=>ck (aR f k)
theorem ID(f:Nat->Int){d:Nat}(hd:0<d):(λj=>if j=d then iu f d d-iu f d (d-1) else iu f d j)=iu f (d-1):=by
 funext j;unfold iu;by_cases e:j=d
 .subst e;rw[LI rfl,LH (Nat.lt_irrefl _),LH (by omega),LI (by omega)]
 .rw[LH e];by_cases h:d<j
  .rw[LI h,LI (by omega)]
  .rw[LH h,LH (by omega)]
theorem IE(f:Nat->Int){n d:Nat}(h:n<=d+1):∀j,j<n->iu f d j=f j:=λj hj=>by unfold iu;rw[LH (by omega)]
theorem cr.ext{W:World}{b n:Nat}{f g:Nat->Int}(h:cr W b n f)(e:∀j,j<n->f j=g j):cr W b n g:=by
 have e2:jj n f=jj n g:=by unfold jj;congr 1;exact List.map_congr_left λj hj=>by rw[e j (List.mem_range.1 hj)]
 unfold cr;rw[<-e2];exact h
theorem mV{f:Nat->Int}{B:Int}(hB:0<=B)(h:∀j,-B<=f j/\f j<=B)(j:Nat):-(2*B)<=ck f j/\ck f j<=2*B:=by unfold ck;have h1:=h j;have h2:=h (j-1);split<;>omega
def ip(L:Nat)(F:Nat->Int):Nat->Int:=λj=>if j<=L then F j else 0
theorem zI(L:Nat)(F:Nat->Int):∀k j,j<=L->aR (ip L F) k j=aR F k j:=by
 intro k;induction k with
 |zero=>intro j hj;simp[aR,ip,hj]
 |succ k ih=>
  intro j hj;simp only[aR];unfold ck;rw[ih j hj];by_cases h:0<j
  .rw[LI h,LI h,ih (j-1) (by omega)]
  .rw[LH h,LH h]
def l8(F:Nat->Int)(k:Nat):Nat->Int:=λj=>if j<k then F j else 0
theorem IF(F:Nat->Int)(k:Nat):(λj=>if j=k then F k else l8 F k j)=l8 F (k+1):=by
 funext j;unfold l8;by_cases e:j=k
 .subst e;rw[LI rfl,LI (Nat.lt_succ_self _)]
 .rw[LH e];by_cases h:j<k
  .rw[LI h,LI (by omega)]
  .rw[LH h,LH (by omega)]
theorem IG(F:Nat->Int)(L:Nat):l8 F (L+1)=ip L F:=by
 funext j;unfold l8 ip;by_cases h:j<=L
 .rw[LI h,LI (by omega)]
 .rw[LH h,LH (by omega)]
theorem uC{ms:List Mm}{x:Mm}:∀k,x∈aQ ms k->x∈ms
 |0,h=>by simp[aQ] at h
 |k+1,h=>by
  simp only[aQ,Lv,aS,LR] at h;rcases h with h|h
  .exact uC k h
  .exact h.1
theorem zG{p:Int}{ds:List Int}{N R:Nat}(h0:∀i,0<=ds.getD i 0){vs:List (List Ft)}{ms:List Mm}{qs:List Pq}{E:Nat->Nat->Prop}{T:Int}(h:Cp p (λi=>ds.getD i 0) N R vs ms qs E T)(pl:Nat):∀e∈aX ((aQ ms R).map Mm.L) pl,e.1<=901/\e.2.1<=901/\e.2.2<=901:=by intro e he;unfold aX at he;obtain⟨t,ht,rfl⟩:=LC.1 he;obtain⟨h1,_⟩:=LR.1 ht;obtain⟨x,hx,rfl⟩:=LC.1 h1;obtain⟨D,_,h2,h3⟩:=h.mb x (uC R hx);have g:=h3.gd x.L (by simp);have g1:=g.a;have g2:=g.b;have g3:=g.d;have g4:=g.deg;have g5:=h0 x.L.pl.toNat;unfold bP;simp only;omega
theorem zF{ds:List Int}{ess:Nat->List Gb.Mo}(hds:∀i,0<=ds.getD i 0/\ds.getD i 0<=6)(hbd:∀pl,∀e∈ess pl,e.1<=901/\e.2.1<=901/\e.2.2<=901):∀k,0<=fd ds ess k/\fd ds ess k<=2709:=by
 intro k;induction k with
 |zero=>exact⟨Int.le_refl _,by show (0:Int)<=2709;decide⟩
 |succ k ih=>
  have h2:=hds k;have h3:=uB (hbd k);have h4:fM (dS (ess k))<=2703:=by unfold fM;omega
  simp only[fd];omega
def kS(p:Int)(N:Nat)(ds:List Int)(vss:List (List (List Tm)))(L:Nat):Prop:=∃fls vs ms E T,j8 p ds N ds.length vss fls/\vs.Perm (bV fls)/\Cp p (λi=>ds.getD i 0) N ds.length vs ms [] E T/\dF p (λi=>ds.getD i 0) ds.length ms E/\(L:Int)=fd ds (aX ((aQ ms ds.length).map Mm.L)) ds.length
theorem t7{p o:Int}{N L:Nat}{ds:List Int}{vss:List (List (List Tm))}{n v:Int}(hC:jH p n o v ds vss N)(h:kS p N ds vss L)(j:Nat)(hj:j<=2709):0<=cL p o N ds vss j/\cL p o N ds vss j<=768096003:=by obtain⟨fls,vs,ms,E,T,q2,q3,q4,q5,_⟩:=h;have hn:=hC.nn;have hr:=hC.cx.r;have e:=oH hC.nn rfl hC.cx (λi=>(hC.g0 i).1) (d:=(j:Int)) (by omega) hC.len hC.right q2 q3 q4 q5;have h1:=ui (N:=N) (ds:=ds) (ess:=aX ((aQ ms ds.length).map Mm.L)) (d:=(j:Int)) (by omega) (by omega) (λi=>(hC.g0 i).1) ds.length;have h2:=L5 256032001 hr;omega
theorem II(p o v:Int)(N:Nat)(n:Int)(dv lv:Value)(ds:List Int)(vss:List (List (List Tm)))(w:World)(hC:jH p n o v ds vss N)(hs:Sl w dv ds)(hw:Wl w lv vss):Calls prog 13 #[aT p N o v,dv,lv] w λe w'=>∃b L,e=.returned (.pointer (some ⟨b,0,none⟩))/\Below w.heap.size w w'/\L<=2709/\kS p N ds vss L/\(∀W,Below w'.heap.size w' W->Calls prog 29 #[.pointer (some ⟨b,0,none⟩)] W λe W'=>e=.returned (.int .i64 (L:Nat))/\Below W.heap.size W W')/\(∀W,Below w'.heap.size w' W->∀j:Nat,j<=L->Calls prog 14 #[.pointer (some ⟨b,0,none⟩),.int .i64 (j:Nat)] W λe W'=>e=.returned (.int .i64 (cL p o N ds vss j))/\Below W.heap.size W W'):=by
 have hl0:=hC.l0;have hN3:=hC.cx.r;refine(Af p o v N dv lv ds vss w hC.cx hs hC.l0 hC.ds6 hw hC.v4 hC.len hC.right hC.hom).mono ?_;rintro e w' ⟨b,x,fls,vs,ms,E,T,rfl,q1,q2,q3,q4,q5,q6,q7⟩;have hbd:=λpl=>zG (R:=ds.length) (λi=>(hC.g0 i).1) q4 pl;have hlb:=zF hC.g0 hbd ds.length;obtain⟨L,hL⟩:∃L:Nat,(L:Int)=fd ds (aX ((aQ ms ds.length).map Mm.L)) ds.length:=⟨(fd ds (aX ((aQ ms ds.length).map Mm.L)) ds.length).toNat,by omega⟩;refine⟨b,L,rfl,q7,by omega,⟨fls,vs,ms,E,T,q2,q3,q4,q5,hL⟩,λW hW=>?_,λW hW j hj=>?_⟩
 .have h:=IB N b dv x ds (aX ((aQ ms ds.length).map Mm.L)) W (q1.below hW) ((hs.below q7).below hW) hl0 hN3 hC.g0 (q6.below hW) (λpl _=>uA hC.cx hN3 q4 pl) (λpl _=>hbd pl);rw[<-hL] at h;exact h
 .have hc:=Ah N b hC.nn dv x ds (aX ((aQ ms ds.length).map Mm.L)) (j:Int) W (q1.below hW) ((hs.below q7).below hW) hl0 hN3 (λi _=>hC.g0 i) (q6.below hW) (λpl _=>uA hC.cx hN3 q4 pl) (by omega) (by omega);rw[oH hC.nn rfl hC.cx (λi=>(hC.g0 i).1) (by omega) hC.len hC.right q2 q3 q4 q5] at hc;exact hc
end Go.Proofs.YteimdcndjjclnaaGreat
namespace Go.Proofs.YteimdcndjjclnaaGreat
open Go.Proofs.Tryz
set_option linter.all false
def lH:List (List (List Tm)):=[[[(1,[1,0])]]]
theorem nY{p:Int}{dg:Nat->Int}{R:Nat}{fss:List (List Ft)}(hf:∀fs∈fss,∀t∈fs,1<=t.a.toNat){u:Gb.Te}(hu:u.2.1=0):∀rp:Gb.Rp Gb.Mo,Gb.ev (au p dg R fss) (Gb.dl u) rp=0
 |[]=>rfl
 |r::rp=>by
  simp only[Gb.ev];rw[nY hf hu rp];have e:Gb.ln (λt=>Gb.dl u ((Gb.aD (dR dg R)).act r.2.1 t)) ((au p dg R fss).g r.2.2)=0:=Gb.iY λy hy=>by
   have hy:y∈cV R (fss.getD r.2.2 []):=hy;obtain⟨t,ht,rfl⟩:=LC.1 hy;have hm:1<=t.a.toNat:=by
    by_cases hi:r.2.2<fss.length
    .rw[Lr,Ls hi] at ht;exact hf _ (Lo hi) t ht
    .rw[Lr,Lu (by omega)] at ht;simp at ht
   show Gb.dl u (Gb.aA r.2.1 (ag R t))=0;unfold Gb.dl;rw[LH];intro e;have e2:=congrArg (λs:Gb.Te=>s.2.1) e;unfold Gb.aA ag at e2;simp only at e2;omega
  rw[e];omega
theorem Cp.far{p:Int}{dg:Nat->Int}{N R:Nat}(hx:aP p dg N R){vs:List (List Ft)}{ms:List Mm}{qs:List Pq}{E:Nat->Nat->Prop}{T:Int}(h:Cp p dg N R vs ms qs E T)(hvs:∀fs∈vs,∀t∈fs,1<=t.a.toNat):∀x∈ms,1<=x.L.a.toNat:=by
 intro x hxm;apply Nat.pos_of_ne_zero;intro h0;obtain⟨D2,_,d901,hm⟩:=h.mb x hxm;have hgL:=hm.gd x.L (by simp);obtain⟨rp,r1,r2⟩:=h.mx x hxm D2 hm;have h3:p∣aF R (Gb.dl (ag R x.L)) (x.L::x.r)-Gb.ev (au p dg R vs) (Gb.dl (ag R x.L)) rp:=r2 (Gb.dl (ag R x.L));have e0:Gb.ev (au p dg R vs) (Gb.dl (ag R x.L)) rp=0:=nY hvs h0 rp;have low:∀u∈x.r,(Gb.aD (dR dg R)).lt (ag R u) (ag R x.L):=λu hu=>mw hx (by omega) (hm.gd u (by simp[hu])) hgL (hm.dn.head u hu);have e1:aF R (Gb.dl (ag R x.L)) x.r=0:=Gb.iY λy hy=>by obtain⟨u,hu,rfl⟩:=LC.1 hy;have hlt:=low u hu;show Gb.dl (ag R x.L) (ag R u)=0;unfold Gb.dl;rw[LH];intro e;rw[e] at hlt;exact(Gb.aD (dR dg R)).irr _ hlt
 have e2:aF R (Gb.dl (ag R x.L)) (x.L::x.r)=1:=by rw[gG,e1,hm.c1];unfold Gb.dl;rw[LI rfl];decide
 rw[e0,e2] at h3;have hp:=fq hx.pr;have:=Int.le_of_dvd (by decide) h3;omega
theorem IJ{α:Type}{l:List α}{a:α}(hn:l.Nodup)(h:∀y,y∈l↔y=a):l.length=1:=by
 cases l with
 |nil=>exact absurd ((h a).2 rfl) (by simp)
 |cons b l=>
  cases l with
  |nil=>rfl
  |cons c l=>have e1:=(h b).1 (by simp);have e2:=(h c).1 (by simp);rw[List.nodup_cons] at hn;exact absurd (show b∈c::l by rw[e1,e2];simp) hn.1
theorem AI:∀(es:List Gb.Mo)(a e:Gb.Mo),(e∈es\/e.1<=a.1)->e.1<=(es.foldl de a).1
 |[],a,e,h=>by simpa using h
 |q::es,a,e,h=>by
  rw[List.foldl_cons];refine AI es _ e ?_;rcases h with h|h
  .rcases LL.1 h with rfl|h
   .exact L3 (by unfold de;simp only;omega)
   .exact L0 h
  .exact L3 (by unfold de;simp only;omega)
theorem fE:cL 7 1 2 [0] lH 1=1:=by kernel_rfl
theorem IK{L:Nat}(hC:jH 7 2 1 1 [0] lH 2)(h:kS 7 2 [0] lH L):1<=L/\∀j:Nat,cL 7 1 2 [0] lH j=1:=by
 obtain⟨fls,vs,ms,E,T,q2,q3,q4,q5,q6⟩:=h;have hvs:∀fs∈vs,∀t∈fs,1<=t.a.toNat:=λfs hfs t ht=>by
  have h1:fs∈fls:=(LR.1 (q3.mem_iff.1 hfs)).1;obtain⟨i,hi,rfl⟩:=L8.1 h1;have hl:fls.length=1:=q2.len;have hi0:i=0:=by omega
  subst hi0;have hp:=(q2.at_ 0 (by decide)).1;rw[Lr,Ls hi] at hp;have h2:=hp.mem_iff.1 ht;have h3:t=eD (λi=>[(0:Int)].getD i 0) 2 0 (1,[1,0]):=by have h4:fw (λi=>[(0:Int)].getD i 0) 2 (lH.getD 0 []) 1=[eD (λi=>[(0:Int)].getD i 0) 2 0 (1,[1,0])]:=rfl;have h5:t∈fw (λi=>[(0:Int)].getD i 0) 2 (lH.getD 0 []) 1:=h2;rw[h4,Lw] at h5;exact h5
  rw[h3];exact Lc 1
 have hA:=q4.far hC.cx hvs;have hE1:∀e∈aX ((aQ ms 1).map Mm.L) 0,1<=e.1:=λe he=>by unfold aX at he;obtain⟨t,ht,rfl⟩:=LC.1 he;obtain⟨h1,_⟩:=LR.1 ht;obtain⟨x,hx,rfl⟩:=LC.1 h1;exact hA x (uC 1 hx)
 have hcn:∀d:Int,0<=d->(dT 2 [0] (aX ((aQ ms 1).map Mm.L)) d 1:Int)=cL 7 1 2 [0] lH d:=λd hd=>oH (R:=1) hC.nn rfl hC.cx (λi=>(hC.g0 i).1) hd hC.len hC.right q2 q3 q4 q5;have hq6:(L:Int)=fd [0] (aX ((aQ ms 1).map Mm.L)) 1:=q6;have hoq:∀d:Int,dT 2 [0] (aX ((aQ ms 1).map Mm.L)) d 1=((bq 2 d).filter λe=>!(aX ((aQ ms 1).map Mm.L) 0).any λl=>cd l e).length:=λd=>by simp only[dT,jf];rw[Ly,show d-[(0:Int)].getD 0 0=d from Int.sub_zero d]
 have hls:fd [0] (aX ((aQ ms 1).map Mm.L)) 1=max 0 (0+(fM (dS (aX ((aQ ms 1).map Mm.L) 0)):Nat)):=rfl;rw[hls] at hq6;generalize aX ((aQ ms 1).map Mm.L)=ess at hE1 hcn hoq hq6;generalize ess 0=es at hE1 hoq hq6;have hno:∀y:Gb.Mo,y.1=0->(es.any λl=>cd l y)=false:=λy hy=>by
  cases e:es.any λl=>cd l y
  .rfl
  .obtain⟨l,hl,hd⟩:=List.any_eq_true.1 e;have h1:=hE1 l hl;unfold cd at hd;simp only[Bool.and_eq_true,decide_eq_true_eq] at hd;omega
 have hx1:(es.any λl=>cd l (1,0,0))=true:=by
  cases e:es.any λl=>cd l (1,0,0)
  .have h1:=hcn 1 (by decide);rw[hoq 1,fE] at h1;have h2:bq 2 1=[(1,0,0),(0,1,0)]:=by decide
   rw[h2,List.filter_cons,LI (by rw[e];rfl),List.filter_cons,LI (by rw[hno (0,1,0) rfl];rfl)] at h1;simp at h1
  .rfl
 obtain⟨e1,he1,hd1⟩:=List.any_eq_true.1 hx1;have h11:=hE1 e1 he1;refine⟨?_,λj=>?_⟩
 .have h5:=AI es (0,0,0) e1 (L0 he1);have h6:1<=fM (dS es):=by unfold fM dS;omega
  omega
 .rw[<-hcn j (by omega),hoq];have h7:((bq 2 (j:Int)).filter λe=>!es.any λl=>cd l e).length=1:=by
   refine IJ (a:=(0,j,0)) ((Ak (by omega) _).filter _) λy=>?_;rw[LR,Aj (by omega)];unfold nM;constructor
   .rintro ⟨⟨⟨_,h2⟩,h3⟩,h4⟩;have h2:=h2 (by omega);have h5:y.1=0:=by
     apply Nat.eq_zero_of_not_pos;intro hy;have h6:(es.any λl=>cd l y)=true:=by rw[List.any_eq_true];refine⟨e1,he1,?_⟩;unfold cd at hd1⊢;simp only[Bool.and_eq_true,decide_eq_true_eq] at hd1⊢;omega
     rw[h6] at h4;simp at h4
    obtain⟨a,b,c⟩:=y;simp only at h2 h3 h5;subst h2 h5;have:b=j:=by omega
    rw[this]
   .rintro rfl;refine⟨⟨⟨λh=>absurd h (by omega),λ_=>rfl⟩,by simp⟩,?_⟩;rw[hno (0,j,0) rfl];rfl
  rw[h7];rfl
theorem qQ(j:Nat):aR (λ_=>1) 2 j=if j=0 then 1 else if j=1 then-1 else 0:=by
 simp only[aR];unfold ck;by_cases h0:j=0
 .subst h0;simp
 .by_cases h1:j=1
  .subst h1;simp
  .rw[LI (by omega),LI (by omega),LI (by omega),LH h0,LH h1];rfl
theorem IL{L m:Nat}(hC:jH 7 2 1 1 [0] lH 2)(h:kS 7 2 [0] lH L)(hz:∀j,m<=j->j<=L->aR (λj=>cL 7 1 2 [0] lH j) 2 j=0)(hm:m=0\/aR (λj=>cL 7 1 2 [0] lH j) 2 (m-1)≠0):(List.range m).map (aR (λj=>cL 7 1 2 [0] lH j) 2)=[1,-1]:=by
 obtain⟨h1,h2⟩:=IK hC h;have e:(λj:Nat=>cL 7 1 2 [0] lH (j:Int))=λ_=>1:=funext λj=>h2 j;rw[e] at hz hm⊢;have e2:m=2:=by
  have a1:2<=m:=by apply Nat.le_of_not_lt;intro hlt;have:=hz 1 (by omega) h1;rw[qQ] at this;simp at this
  apply Nat.le_antisymm _ a1;apply Nat.le_of_not_lt;intro hlt;rcases hm with hm|hm
  .omega
  .rw[qQ,LH (by omega),LH (by omega)] at hm;exact hm rfl
 subst e2;rw[show List.range 2=[0,1] from rfl,List.map_cons,List.map_cons,List.map_nil,qQ,qQ];rfl
end Go.Proofs.YteimdcndjjclnaaGreat
