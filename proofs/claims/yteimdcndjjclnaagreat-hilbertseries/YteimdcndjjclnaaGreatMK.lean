/- hilbert's newOutside: the leads of a list beside its degrees. -/
import Derived.Test.YteimdcndjjclnaaGreatMJ
set_option maxHeartbeats 2000000
set_option maxRecDepth 100000
namespace Go.Proofs.YteimdcndjjclnaaGreat
set_option linter.all false
open Go.Proofs.Tryz Go.RowKit
structure lX(w:World)(b N:Nat)(dv x:Value):Prop where
 lt:b<w.heap.size
 c0:w.cell? ⟨b,0,none⟩=some (.int .i64 (N:Int))
 c1:w.cell? ⟨b,1,none⟩=some dv
 c2:w.cell? ⟨b,2,none⟩=some x
theorem lX.below{w w':World}{b N:Nat}{dv x:Value}(h:lX w b N dv x)(hb:Below w.heap.size w w'):lX w' b N dv x:=⟨Lj h.lt hb.size,ae h.c0 hb,ae h.c1 hb,ae h.c2 hb⟩
theorem Af(p o v:Int)(N:Nat)(dv lv:Value)(ds:List Int)(lss:List (List (List Tm)))(w:World)(hx:aP p (λi=>ds.getD i 0) N ds.length)(hs:Sl w dv ds)(hl0:0<ds.length)(hd:∀d∈ds,0<=d/\d<=6)(hw:Wl w lv lss)(hll:lss.length<=4)(hl:∀g∈lss,g.length=ds.length)(hr:∀g∈lss,∀f∈g,cQ p o N f)(hh:∀g∈lss,∃D,D<=9/\j7 (λi=>ds.getD i 0) D g):Calls prog 13 #[aT p N o v,dv,lv] w λe w'=>∃b x fls vs ms E T,e=.returned (.pointer (some ⟨b,0,none⟩))/\lX w' b N dv x/\j8 p ds N ds.length lss fls/\vs.Perm (bV fls)/\Cp p (λi=>ds.getD i 0) N ds.length vs ms [] E T/\dF p (λi=>ds.getD i 0) ds.length ms E/\jb w' x ds.length (aX ((aQ ms ds.length).map Mm.L))/\Below w.heap.size w w':=by
 obtain⟨w1,hw1⟩:∃w1,w1=w.alloc (.cells #[.int .i64 p,.int .i64 N,.int .i64 o,.int .i64 v] 23):=⟨_,rfl⟩;have HB1:Ma (Below w.heap.size w w1):=by rw[hw1];exact aj
 have b0:w1.cell? ⟨w.heap.size,0,none⟩=some (.int .i64 p):=by rw[hw1];simp[go_sem]
 have b1:w1.cell? ⟨w.heap.size,1,none⟩=some (.int .i64 N):=by rw[hw1];simp[go_sem]
 have b2:w1.cell? ⟨w.heap.size,2,none⟩=some (.int .i64 o):=by rw[hw1];simp[go_sem]
 have b3:w1.cell? ⟨w.heap.size,3,none⟩=some (.int .i64 v):=by rw[hw1];simp[go_sem]
 have hz1:w1.heap.size=w.heap.size+1:=by rw[hw1];simp
 have HLE:=ac (Hu p o v N dv lv ds lss w1.drew hx ((hs.below HB1.o).below (Lf _ w1).drew) hl0 hd ((hw.below HB1.o).below (Lf _ w1).drew) hll hl hr hh);obtain⟨da,dc,rfl,_⟩:=hs;obtain⟨la,lc,rfl,_⟩:=hw;unfold aT at HLE;unfold aT;clear hd hx hl hr hh hll;go_enter func13,ntmps13;go_upto_region 1 with fail;rw[<-hw1];clear hw1;refine wp_region_held_drew (S:=λW=>W.cell? ⟨w.heap.size,0,none⟩=some (.int .i64 p)/\W.cell? ⟨w.heap.size,1,none⟩=some (.int .i64 N)/\W.cell? ⟨w.heap.size,2,none⟩=some (.int .i64 o)/\W.cell? ⟨w.heap.size,3,none⟩=some (.int .i64 v)) (by kernel_rfl) ⟨b0,b1,b2,b3⟩ (λhHeld=>?_);refine bG 0 7 rfl rfl hHeld (L0 ⟨rfl,λw ⟨s1,s2,s3,s4⟩=>by go_simp<;>with_reducible rfl⟩) ?_;refine bG 1 8 rfl rfl hHeld (L0 ⟨rfl,λw ⟨s1,s2,s3,s4⟩=>by go_simp<;>with_reducible rfl⟩) ?_;refine bG 2 9 rfl rfl hHeld (L0 ⟨rfl,λw ⟨s1,s2,s3,s4⟩=>by go_simp<;>with_reducible rfl⟩) ?_;refine bG 3 10 rfl rfl hHeld (L0 ⟨rfl,λw ⟨s1,s2,s3,s4⟩=>by go_simp<;>with_reducible rfl⟩) ?_;refine bG 4 11 rfl rfl hHeld (L0 ⟨rfl,λw ⟨s1,s2,s3,s4⟩=>by go_simp<;>with_reducible rfl⟩) ?_;refine bG 5 12 rfl rfl hHeld (L0 ⟨rfl,λw ⟨s1,s2,s3,s4⟩=>by go_simp<;>with_reducible rfl⟩) ?_;simp only[Act.put,List.setIfInBounds_toArray,List.set_cons_zero,List.set_cons_succ];refine wpAnyH_ready (rs:=[6]) (by kernel_rfl) (by simp) ?_;refine AllReadyH.cons rfl (λK hK=>?_) AllReadyH.nil;go_simp;refine HLE.o.mono ?_;rintro e w2 ⟨x,fls,vs,ms,E,T,rfl,q1,q2,q3,q4,q5,q6⟩;have HB2:Ma (Below w1.heap.size w1 w2):=((Lf _ w1).drew).trans q6;have HQ:=ac (Lg q1 (Lg q2 (Lg q3 (Lg q4 q5))));obtain⟨gb,gc,hx2,_,_⟩:=q5;subst hx2;clear q1 q2 q3 q4 q6;dsimp only;refine hK.out _ _ ⟨ae b0 HB2.o,ae b1 HB2.o,ae b2 HB2.o,ae b3 HB2.o⟩ (λhHeld=>?_);clear hK K;try refine bG 7 14 rfl rfl hHeld (L0 ⟨rfl,λw ⟨s1,s2,s3,s4⟩=>by go_simp<;>with_reducible rfl⟩) ?_
 simp only[Act.put,List.setIfInBounds_toArray,List.set_cons_zero,List.set_cons_succ];obtain⟨w3,hw3⟩:∃w3,w3=w2.alloc (.cells #[.int .i64 (N:Int),.slice da ds.length dc,.slice (some ⟨gb,0,none⟩) ds.length gc] 68):=⟨_,rfl⟩;have HB3:Ma (Below w2.heap.size w2 w3):=by rw[hw3];exact aj
 have HO:Ma (lX w3 w2.heap.size N (.slice da ds.length dc) (.slice (some ⟨gb,0,none⟩) ds.length gc)):=by rw[hw3];exact⟨by simp,by simp[go_sem],by simp[go_sem],by simp[go_sem]⟩
 have HBX:Ma (Below w1.heap.size w1 w3):=HB2.o.trans (HB3.o.mono HB2.o.size);refine wpAnyH_ready (rs:=[8]) (by kernel_rfl) (by simp) ?_;refine AllReadyH.cons rfl (λK hK=>?_) AllReadyH.nil;go_simp;rw[<-hw3];clear hw3;refine hK.out _ _ ⟨ae b0 HBX.o,ae b1 HBX.o,ae b2 HBX.o,ae b3 HBX.o⟩ (λhHeld=>?_);clear hK K;try refine bG 9 6 rfl rfl hHeld (L0 ⟨rfl,λw ⟨s1,s2,s3,s4⟩=>by go_simp<;>with_reducible rfl⟩) ?_
 simp only[Act.put,List.setIfInBounds_toArray,List.set_cons_zero,List.set_cons_succ];refine wpAnyH_done (by kernel_rfl) ?_ _;go_wp2_with fail;go_ret;exact⟨_,_,fls,vs,ms,E,T,rfl,HO.o,HQ.o.1,HQ.o.2.1,HQ.o.2.2.1,HQ.o.2.2.2.1,HQ.o.2.2.2.2.below HB3.o,HB1.o.trans (HBX.o.mono HB1.o.size)⟩
def jf(N:Nat)(ds:List Int)(ess:Nat->List Gb.Mo)(d:Int)(pl:Nat):Nat:=((bq N (d-ds.getD pl 0)).filter λe=>!(ess pl).any λl=>cd l e).length
def dT(N:Nat)(ds:List Int)(ess:Nat->List Gb.Mo)(d:Int):Nat->Nat
 |0=>0
 |k+1=>dT N ds ess d k+jf N ds ess d k
theorem qJ{x:Int}(h1:-9223372036854775808<=x)(h2:x<=9223372036854775807):IntKind.i64.wrap x=x:=by simp[IntKind.wrap,IntKind.signed,IntKind.bits];omega
theorem Ag{N:Nat}{ds:List Int}{ess:Nat->List Gb.Mo}{d:Int}(hN:N<=3)(hd:d<=16000){pl:Nat}(h0:0<=ds.getD pl 0):jf N ds ess d pl<=256032001:=Lk (LX _ _) (Ac hN (by omega))
theorem ui{N:Nat}{ds:List Int}{ess:Nat->List Gb.Mo}{d:Int}(hN:N<=3)(hd:d<=16000)(h0:∀pl,0<=ds.getD pl 0):∀k,dT N ds ess d k<=k*256032001
 |0=>by simp[dT]
 |k+1=>by have:=ui (ess:=ess) hN hd h0 k;have:=Ag (ess:=ess) hN hd (h0 k);simp only[dT];omega
theorem Ah(N b:Nat)(hN:N=1\/N=2\/N=3)(dv x:Value)(ds:List Int)(ess:Nat->List Gb.Mo)(d:Int)(w:World)(ho:lX w b N dv x)(hs:Sl w dv ds)(hl0:0<ds.length)(hl3:ds.length<=3)(hds:∀i,i<ds.length->0<=ds.getD i 0/\ds.getD i 0<=6)(hld:jb w x ds.length ess)(hes:∀pl,pl<ds.length->(ess pl).length<=5000000)(hd0:0<=d)(hd:d<=12000):Calls prog 14 #[.pointer (some ⟨b,0,none⟩),.int .i64 d] w λe w'=>e=.returned (.int .i64 (dT N ds ess d ds.length:Nat))/\Below w.heap.size w w':=by
 have hg0:∀pl,0<=ds.getD pl 0:=λpl=>by
  by_cases h:pl<ds.length
  .exact(hds pl h).1
  .rw[Lr,Lu (by omega)];simp
 have HLEN:Ma (∀k,dT N ds ess d k<=k*256032001):=ui (by omega) (by omega) hg0;have HPL:Ma (∀pl,jf N ds ess d pl<=256032001):=λpl=>Ag (by omega) (by omega) (hg0 pl);have HO:=ac ho;have HES:=ac hes;have HDS:=ac hds;have HLD:=ac hld;obtain⟨da,dc,rfl,hsl⟩:=hs;obtain⟨db,doff,rfl,hdb,hdi⟩:=hsl hl0;have HDI:=ac hdi;obtain⟨gb,gc,rfl,hgb,hgr⟩:=hld;have HGR:=ac hgr;obtain⟨hlb,c0,c1,c2⟩:=ho;clear hg0 hds hes hsl hdi hgr;go_enter func14,ntmps14;go_wp2_with fail;go_loopw [5,13] (λs i wr=>∃k:Nat,k<=ds.length/\i=.int .i64 k/\s=.int .i64 (dT N ds ess d k:Nat)/\Below w.heap.size w wr) (λ_ i _=>ds.length-(intOf i).toNat);case atStart=>exact⟨0,Ll _,rfl,rfl,Lf _ _⟩
 case round=>
  obtain⟨k,hk,rfl,rfl,hbr⟩:=hrel;have HBR:=ac hbr;clear hbr;by_cases hk2:k<ds.length
  .obtain⟨u,hu,hxs⟩:=HGR.o k hk2;have hku:=(HBR.o.cell (p:=⟨gb,k,none⟩) hgb).trans hu;obtain⟨ea,ec,rfl,hx2⟩:=hxs;have HXS:Ma (jD w (.slice ea (ess k).length ec) (ess k)):=⟨ea,ec,rfl,hx2⟩;have hzr:=HBR.o.size;obtain⟨wb,hwb⟩:∃wb,wb=wr.alloc (.cells #[.slice ea (ess k).length ec] 69):=⟨_,rfl⟩;have HBB:Ma (Below wr.heap.size wr wb):=by rw[hwb];exact aj
   have y0:wb.cell? ⟨wr.heap.size,0,none⟩=some (.slice ea (ess k).length ec):=by rw[hwb];simp[go_sem]
   have hzb:wb.heap.size=wr.heap.size+1:=by rw[hwb];simp
   have HBW:Ma (Below w.heap.size w wb):=HBR.o.trans (HBB.o.mono HBR.o.size);have s0:=ae c0 HBW.o;have s1':=ae c1 HBW.o;have s2':=(HBW.o.cell (p:=⟨db,doff+k,none⟩) hdb).trans (HDI.o k hk2);obtain⟨d1,d2⟩:=HDS.o k hk2;have hkI:(k:Int)<(ds.length:Int):=by omega
   have ha1:=HLEN.o k;have ha2:=HPL.o k;have HST:Ma (dT N ds ess d (k+1)=dT N ds ess d k+jf N ds ess d k):=rfl;have HHM:Ma (Calls prog 15 #[.int .i64 (N:Int),.int .i64 (d-ds.getD k 0),.func (.func 31) #[] #[.pointer (some ⟨wr.heap.size,0,none⟩)]] wb.drew λr w'=>r=.returned (.int .i64 (jf N ds ess d k:Nat))/\Below wb.drew.heap.size wb.drew w'):=
    Hi wr.heap.size N hN (d-ds.getD k 0) (by omega) (by omega) (λe=>!(ess k).any λl=>cd l e) wb.drew (λW e hW _=>Hq wr.heap.size (.slice ea (ess k).length ec) (ess k) e W (by have h2:wb.heap.size<=W.heap.size:=hW.size;omega) ((hW.cell (p:=⟨wr.heap.size,0,none⟩) (show wr.heap.size<wb.heap.size by omega)).trans y0) (((HXS.o.below HBW.o).below (Lf _ wb).drew).below hW) (HES.o k hk2))
   generalize jf N ds ess d k=np at HHM ha2 HST;generalize dT N ds ess d k=nn at ha1 HST;have ha3:nn<=768096003:=by have:=L5 256032001 (show k<=3 by omega);omega
   have HC9:Ma (∀W,Below w.heap.size w W->W.cell? ⟨db,doff+k,none⟩=some (.int .i64 (ds.getD k 0))):=λW h=>(h.cell (p:=⟨db,doff+k,none⟩) hdb).trans (HDI.o k hk2);clear hx2 ha1;generalize ds.getD k 0=dk at s2' d1 d2 HHM HC9;have hwr1:IntKind.i64.wrap (d-dk)=d-dk:=qJ (by omega) (by omega);have hwr2:IntKind.i64.wrap ((nn:Int)+(np:Int))=(nn:Int)+(np:Int):=qJ (by omega) (by omega);go_upto_region 5 with fail;rw[<-hwb];clear hwb hku hu;refine wp_region_held_drew (S:=λW=>W.cell? ⟨b,0,none⟩=some (.int .i64 (N:Int))/\W.cell? ⟨b,1,none⟩=some (.slice (some ⟨db,doff,none⟩) ds.length dc)/\W.cell? ⟨db,doff+k,none⟩=some (.int .i64 dk)) (by kernel_rfl) ⟨s0,s1',s2'⟩ (λhHeld=>?_);refine bG 0 18 rfl rfl hHeld (L0 ⟨rfl,λw ⟨s1,s2,s3⟩=>by go_simp<;>with_reducible rfl⟩) ?_;refine bG 1 19 rfl rfl hHeld (L0 ⟨rfl,λw ⟨s1,s2,s3⟩=>by go_simp<;>with_reducible rfl⟩) ?_;refine bG 2 20 rfl rfl hHeld (L0 ⟨rfl,λw ⟨s1,s2,s3⟩=>by go_simp<;>with_reducible rfl⟩) ?_;refine bG 3 21 rfl rfl hHeld (L0 ⟨rfl,λw ⟨s1,s2,s3⟩=>by go_simp<;>with_reducible rfl⟩) ?_;refine bG 4 22 rfl rfl hHeld (L0 ⟨rfl,λw ⟨s1,s2,s3⟩=>by go_simp<;>with_reducible rfl⟩) ?_;refine bG 5 23 rfl rfl hHeld (L0 ⟨rfl,λw ⟨s1,s2,s3⟩=>by go_simp<;>with_reducible rfl⟩) ?_;refine bG 6 24 rfl rfl hHeld (L0 ⟨rfl,λw ⟨s1,s2,s3⟩=>by go_simp<;>with_reducible rfl⟩) ?_;refine bG 7 25 rfl rfl hHeld (L0 ⟨rfl,λw ⟨s1,s2,s3⟩=>by go_simp<;>with_reducible rfl⟩) ?_;refine bG 8 26 rfl rfl hHeld (L0 ⟨rfl,λw ⟨s1,s2,s3⟩=>by go_simp<;>with_reducible rfl⟩) ?_;refine bG 9 27 rfl rfl hHeld (L0 ⟨rfl,λw ⟨s1,s2,s3⟩=>by go_simp<;>with_reducible rfl⟩) ?_;refine bG 10 28 rfl rfl hHeld (L0 ⟨rfl,λw ⟨s1,s2,s3⟩=>by go_simp<;>with_reducible rfl⟩) ?_;refine bG 11 29 rfl rfl hHeld (L0 ⟨rfl,λw ⟨s1,s2,s3⟩=>by go_simp<;>with_reducible rfl⟩) ?_;refine bG 12 30 rfl rfl hHeld (L0 ⟨rfl,λw ⟨s1,s2,s3⟩=>by go_simp<;>with_reducible rfl⟩) ?_;refine bG 13 31 rfl rfl hHeld (L0 ⟨rfl,λw ⟨s1,s2,s3⟩=>by go_simp<;>with_reducible rfl⟩) ?_;refine bG 14 32 rfl rfl hHeld (L0 ⟨rfl,λw ⟨s1,s2,s3⟩=>by go_simp<;>with_reducible rfl⟩) ?_;simp only[Act.put,List.setIfInBounds_toArray,List.set_cons_zero,List.set_cons_succ];refine wpAnyH_ready (rs:=[15]) (by kernel_rfl) (by simp) ?_;refine AllReadyH.cons rfl (λK hK=>?_) AllReadyH.nil;go_simp;refine HHM.o.mono ?_;rintro e w9 ⟨rfl,hb9⟩;have HB9:Ma (Below w.heap.size w w9):=HBW.o.trans (((Lf _ wb).drew.trans hb9).mono HBW.o.size);clear hb9;dsimp only;refine hK.out _ _ ⟨ae c0 HB9.o,ae c1 HB9.o,HC9.o _ HB9.o⟩ (λhHeld=>?_);clear hK K;try refine bG 16 34 rfl rfl hHeld (L0 ⟨rfl,λw ⟨s1,s2,s3⟩=>by go_simp<;>with_reducible rfl⟩) ?_
   refine bG 17 5 rfl rfl hHeld (L0 ⟨rfl,λw ⟨s1,s2,s3⟩=>by go_simp<;>with_reducible rfl⟩) ?_;simp only[Act.put,List.setIfInBounds_toArray,List.set_cons_zero,List.set_cons_succ];refine wpAnyH_done (by kernel_rfl) ?_ _;go_wp2_with fail;go_roundw;case rel=>exact⟨k+1,by omega,by go_num,by rw[HST.o];go_num,HB9.o⟩
   case measure=>simp[intOf];omega
  .have hke:k=ds.length:=by omega
   subst hke;go_wp2;go_ret;exact⟨rfl,HBR.o⟩
end Go.Proofs.YteimdcndjjclnaaGreat
namespace Go.Proofs.YteimdcndjjclnaaGreat
open Go.Proofs.Tryz
set_option linter.all false
def jL(N:Nat)(d:Nat)(y:Gb.Mo):Prop:=nM N y/\y.1+y.2.1+y.2.2=d
theorem uj(d:Nat)(y:Gb.Mo):y∈cK 1 d↔jL 1 d y:=by
 obtain⟨a,b,c⟩:=y;simp only[cK,Lw,Prod.mk.injEq,jL,nM];constructor
 .rintro ⟨rfl,rfl,rfl⟩;simp
 .rintro ⟨⟨h1,h2⟩,h3⟩;have:=h1 (by omega);have:=h2 (by omega);omega
theorem oI(d:Nat)(y:Gb.Mo):y∈cK 2 d↔jL 2 d y:=by
 obtain⟨a,b,c⟩:=y;show (a,b,c)∈(List.range (d+1)).flatMap (λk=>(cK 1 (d-k)).map (b9 1 k))↔_;rw[L7];constructor
 .rintro ⟨k,hk,h⟩;rw[List.mem_range] at hk;obtain⟨⟨x,z,t⟩,h1,h2⟩:=LC.1 h;have h3:=(uj _ _).1 h1;unfold jL nM at h3;simp only at h3;simp only[b9,Prod.mk.injEq,if_true] at h2;have:=h3.1.1 (by omega);have:=h3.1.2 (by omega);unfold jL nM;simp only;refine⟨⟨λh=>by omega,λ_=>by omega⟩,by omega⟩
 .rintro ⟨⟨_,h2⟩,h3⟩;simp only at h2 h3;have:=h2 (by omega);refine⟨b,by rw[List.mem_range];omega,LC.2 ⟨(a,0,0),(uj _ _).2 ⟨⟨λ_=>rfl,λ_=>rfl⟩,by simp only;omega⟩,?_⟩⟩;simp only[b9,if_true,Prod.mk.injEq,true_and];omega
theorem Hv(d:Nat)(y:Gb.Mo):y∈cK 3 d↔jL 3 d y:=by
 obtain⟨a,b,c⟩:=y;show (a,b,c)∈(List.range (d+1)).flatMap (λk=>(cK 2 (d-k)).map (b9 2 k))↔_;rw[L7];constructor
 .rintro ⟨k,hk,h⟩;rw[List.mem_range] at hk;obtain⟨⟨x,z,t⟩,h1,h2⟩:=LC.1 h;have h3:=(oI _ _).1 h1;unfold jL nM at h3;simp only at h3;have e2:b9 2 k (x,z,t)=(x,z,k):=rfl;rw[e2] at h2;simp only[Prod.mk.injEq] at h2;have:=h3.1.2 (by omega);unfold jL nM;simp only;refine⟨⟨λh=>by omega,λh=>by omega⟩,by omega⟩
 .rintro ⟨_,h3⟩;simp only at h3;refine⟨c,by rw[List.mem_range];omega,LC.2 ⟨(a,b,0),(oI _ _).2 ⟨⟨λh=>by omega,λ_=>rfl⟩,by simp only;omega⟩,rfl⟩⟩
theorem Hw(d:Nat):(cK 1 d).Nodup:=by simp[cK]
theorem Ai(d:Nat):(cK 2 d).Nodup:=by
 show ((List.range (d+1)).flatMap (λk=>(cK 1 (d-k)).map (b9 1 k))).Nodup;refine th (λy=>y.2.1) (λk y hy=>?_) (λk=>?_) List.nodup_range
 .obtain⟨x,_,rfl⟩:=LC.1 hy;rfl
 .simp[cK]
theorem Hx(d:Nat):(cK 3 d).Nodup:=by
 show ((List.range (d+1)).flatMap (λk=>(cK 2 (d-k)).map (b9 2 k))).Nodup;refine th (λy=>y.2.2) (λk y hy=>?_) (λk=>?_) List.nodup_range
 .obtain⟨x,_,rfl⟩:=LC.1 hy;rfl
 .refine List.pairwise_map.2 ((Ai (d-k)).imp_of_mem fun {a b} ha hb hne e=>hne ?_);have h1:=((oI _ _).1 ha).1.2 (by omega);have h2:=((oI _ _).1 hb).1.2 (by omega);obtain⟨x,y,z⟩:=a;obtain⟨x',y',z'⟩:=b;have e1:((x,y,k):Gb.Mo)=(x',y',k):=e;simp only at h1 h2;simp only[Prod.mk.injEq] at e1;rw[e1.1,e1.2.1,h1,h2]
theorem Aj{N:Nat}(hN:N=1\/N=2\/N=3){d:Int}{y:Gb.Mo}:y∈bq N d↔nM N y/\((y.1+y.2.1+y.2.2:Nat):Int)=d:=by
 unfold bq;by_cases h:d<0
 .rw[LI h];constructor
  .intro hy;simp at hy
  .rintro ⟨_,h2⟩;omega
 .rw[LH h];have key:y∈cK N d.toNat↔jL N d.toNat y:=by
   rcases hN with rfl|rfl|rfl
   .exact uj _ _
   .exact oI _ _
   .exact Hv _ _
  rw[key];unfold jL;constructor
  .rintro ⟨h1,h2⟩;exact⟨h1,by omega⟩
  .rintro ⟨h1,h2⟩;exact⟨h1,by omega⟩
theorem Ak{N:Nat}(hN:N=1\/N=2\/N=3)(d:Int):(bq N d).Nodup:=by
 unfold bq;split
 .simp
 .rcases hN with rfl|rfl|rfl
  .exact Hw _
  .exact Ai _
  .exact Hx _
def kl(N R:Nat)(ds:List Int)(ess:Nat->List Gb.Mo)(d:Int):Nat->List Gb.Te
 |0=>[]
 |k+1=>kl N R ds ess d k++((bq N (d-ds.getD k 0)).filter λe=>!(ess k).any λl=>cd l e).map λe=>(R-1-k,e)
theorem Al(N R:Nat)(ds:List Int)(ess:Nat->List Gb.Mo)(d:Int):∀k,(kl N R ds ess d k).length=dT N ds ess d k
 |0=>rfl
 |k+1=>by simp only[kl,dT,Lx,LD,Al N R ds ess d k];rfl
theorem uk{N R:Nat}(hN:N=1\/N=2\/N=3){ds:List Int}{ess:Nat->List Gb.Mo}{d:Int}{s:Gb.Te}:∀k,s∈kl N R ds ess d k↔∃pl,pl<k/\s.1=R-1-pl/\nM N s.2/\((s.2.1+s.2.2.1+s.2.2.2:Nat):Int)=d-ds.getD pl 0/\(ess pl).any (λl=>cd l s.2)=false
 |0=>by simp[kl]
 |k+1=>by
  simp only[kl,Lv,uk hN k,LC,LR,Aj hN];constructor
  .rintro (⟨pl,h1,h2⟩|⟨e,⟨⟨h1,h2⟩,h3⟩,rfl⟩)
   .exact⟨pl,by omega,h2⟩
   .exact⟨k,by omega,rfl,h1,h2,by simpa using h3⟩
  .rintro ⟨pl,h1,h2,h3,h4,h5⟩;by_cases h:pl<k
   .exact L0 ⟨pl,h,h2,h3,h4,h5⟩
   .have e:pl=k:=by omega
    subst e;exact L3 ⟨s.2,⟨⟨h3,h4⟩,by simpa using h5⟩,by rw[<-h2]⟩
theorem Am{N R:Nat}(hN:N=1\/N=2\/N=3){ds:List Int}{ess:Nat->List Gb.Mo}{d:Int}:∀k,k<=R->(kl N R ds ess d k).Nodup
 |0,_=>by simp[kl]
 |k+1,hk=>by simp only[kl];refine List.nodup_append.2 ⟨Am hN k (by omega),List.Pairwise.map _ (λu v h e=>h (by simpa using e)) ((Ak hN _).filter _),λa ha b hb e=>?_⟩;obtain⟨pl,h1,h2,_⟩:=(uk hN k).1 ha;obtain⟨x,_,rfl⟩:=LC.1 hb;rw[e] at h2;simp only at h2;omega
theorem An{p:Int}{dg:Nat->Int}{N R:Nat}{vs:List (List Ft)}{ms:List Mm}{qs:List Pq}{E:Nat->Nat->Prop}{T:Int}(h:Cp p dg N R vs ms qs E T){pl:Nat}(hpl:pl<R)(y:Gb.Mo):(aX ((aQ ms R).map Mm.L) pl).any (λl=>cd l y)=true↔∃x∈ms,Gb.aW.dv (ag R x.L) (R-1-pl,y):=by
 have hmem:∀x,x∈aQ ms R↔x∈ms/\x.L.pl.toNat<R:=λx=>by
  have key:∀k,x∈aQ ms k↔x∈ms/\(∃j,j<k/\x.L.pl=(j:Int)):=by
   intro k;induction k with
   |zero=>simp[aQ]
   |succ k ih=>
    simp only[aQ,Lv,ih,aS,LR];constructor
    .rintro (⟨h1,j,h2,h3⟩|⟨h1,h2⟩)
     .exact⟨h1,j,by omega,h3⟩
     .exact⟨h1,k,by omega,by simpa using h2⟩
    .rintro ⟨h1,j,h2,h3⟩;by_cases hj:j<k
     .exact L0 ⟨h1,j,hj,h3⟩
     .have e:j=k:=by omega
      subst e;exact L3 ⟨h1,by simpa using h3⟩
  rw[key R];constructor
  .rintro ⟨h1,j,h2,h3⟩;exact⟨h1,by omega⟩
  .rintro ⟨h1,h2⟩;have:=h.pls x h1;exact⟨h1,x.L.pl.toNat,h2,by omega⟩
 rw[List.any_eq_true];unfold aX;constructor
 .rintro ⟨l,hl,hd⟩;obtain⟨t,ht,rfl⟩:=LC.1 hl;obtain⟨h1,h2⟩:=LR.1 ht;obtain⟨x,hx,rfl⟩:=LC.1 h1;refine⟨x,((hmem x).1 hx).1,?_⟩;have hp:x.L.pl=(pl:Int):=by simpa using h2
  unfold cd bP at hd;simp only[Bool.and_eq_true,decide_eq_true_eq] at hd;show _/\_;unfold ag;refine⟨?_,hd.1.1,hd.1.2,hd.2⟩;show R-1-x.L.pl.toNat=R-1-pl;rw[hp];simp
 .rintro ⟨x,hx,hd⟩;have hp:=h.pls x hx;have hd:R-1-x.L.pl.toNat=R-1-pl/\x.L.a.toNat<=y.1/\x.L.b.toNat<=y.2.1/\x.L.d.toNat<=y.2.2:=hd;refine⟨bP x.L,LC.2 ⟨x.L,LR.2 ⟨LC.2 ⟨x,(hmem x).2 ⟨hx,by omega⟩,rfl⟩,?_⟩,rfl⟩,?_⟩
  .simp only[decide_eq_true_eq];omega
  .unfold cd bP;simp only[Bool.and_eq_true,decide_eq_true_eq];exact⟨⟨hd.2.1,hd.2.2.1⟩,hd.2.2.2⟩
theorem Hy{p:Int}{N R:Nat}(hN:N=1\/N=2\/N=3){ds:List Int}(h0:∀i,0<=ds.getD i 0){d:Int}(hd:0<=d){vs:List (List Ft)}{ms:List Mm}{qs:List Pq}{E:Nat->Nat->Prop}{T:Int}(h:Cp p (λi=>ds.getD i 0) N R vs ms qs E T)(P:Gb.Te->Bool)(hP:∀s,P s=true↔¬∃x∈ms,Gb.aW.dv (ag R x.L) s):((fX N R ds d).filter P).length=dT N ds (aX ((aQ ms R).map Mm.L)) d R:=by
 rw[<-Al N R];refine(List.Perm.length_eq ((List.perm_ext_iff_of_nodup ((yA (by omega) (by omega)).filter _) (Am hN R (Lc _))).2 λs=>?_));rw[LR,yx (by omega) (by omega) h0 hd,uk hN,hP];obtain⟨i,y⟩:=s;unfold aL dR Gb.bK nT;simp only;constructor
 .rintro ⟨⟨h1,h2,h3⟩,h4⟩;have hz:=h0 (R-1-i);refine⟨R-1-i,by omega,by omega,h3,by omega,?_⟩;rw[<-Bool.not_eq_true,An h (by omega),show R-1-(R-1-i)=i by omega];exact h4
 .rintro ⟨pl,h1,h2,h3,h4,h5⟩;have hz:=h0 pl;have e:R-1-i=pl:=by omega
  rw[e];refine⟨⟨by omega,by omega,h3⟩,?_⟩;rw[<-Bool.not_eq_true,An h h1,<-h2] at h5;exact h5
structure um(p:Int)(ds:List Int)(N R:Nat)(g:List (List Tm))(f:List Ft)(D:Int):Prop where
 perm:f.Perm (fw (λi=>ds.getD i 0) N g R)
 vc:cP p (λi=>ds.getD i 0) N R D f
 hom:j7 (λi=>ds.getD i 0) D g
theorem Hz{R:Nat}(φ:Gb.Te->Int){f g:List Ft}(h:f.Perm g):aF R φ f=aF R φ g:=by
 induction h with
 |nil=>rfl
 |cons x _ ih=>rw[gG,gG,ih]
 |swap x y l=>simp only[gG];omega
 |trans _ _ i1 i2=>rw[i1,i2]
theorem Ao{p:Int}{dg:Nat->Int}{N R:Nat}(hx:aP p dg N R){g:List (List Tm)}(hg:∀i,∀u∈g.getD i [],u.2.length=N/\∀x∈u.2,0<=x)(φ:Gb.Te->Int):∀k,k<=R->aF R φ (fw dg N g k)=lY (λi=>am (λe=>φ (eG R i e)) (g.getD i [])) k
 |0,_=>rfl
 |k+1,hk=>by
  simp only[fw,lY];rw[qB,Ao hx hg φ k (by omega)];have key:∀l:List Tm,(∀u∈l,u.2.length=N/\∀x∈u.2,0<=x)->aF R φ (l.map (eD dg N k))=am (λe=>φ (eG R k e)) l:=by
   intro l;induction l with
   |nil=>exact λ_=>rfl
   |cons u l ih=>
    intro h;obtain⟨a1,a2⟩:=h u (by simp);obtain⟨g1,e1,e2,e3,e4⟩:=pZ (i:=k) hx a1 a2 (by omega);obtain⟨g2,f1,f2,f3,_⟩:=yj (o:=1) (ov:=1) (R:=R) (i:=k) hx.n0 hx.n3 a1 a2 (Int.le_refl _) (by omega);have et:ag R (eD dg N k u)=eG R k u.2:=by rw[e4,H7 hx.n0 hx.n3 g2,f1,f3];simp
    rw[List.map_cons,gG,ih λx hx=>h x (by simp[hx]),e2,et];simp[am]
  rw[key _ (hg k)]
theorem Ap{f:Nat->Int}{j:Nat}:∀k,j<k->(∀i,i<k->i≠j->f i=0)->lY f k=f j
 |k+1,hj,h=>by
  simp only[lY];by_cases e:j=k
  .subst e;have hz:∀m,m<=j->lY f m=0:=by
    intro m;induction m with
    |zero=>exact λ_=>rfl
    |succ m ih=>intro hm;simp only[lY];rw[ih (by omega),h m (by omega) (by omega)];rfl
   rw[hz j (Lc _)];omega
  .rw[Ap k (by omega) λi hi hne=>h i (by omega) hne,h k (by omega) (by omega)];omega
theorem H8{p o:Int}{N:Nat}{f:List Tm}(h:dQ p o N f)(m:List Int):lZ f m=am (λe=>if e=m then 1 else 0) f:=by
 have key:∀(f:List Tm)(a:Int),gK o f->(∀t∈f,t.2=m->a=0)->f.foldl (λa t=>if gW t.2 m=true then t.1 else a) a=a+am (λe=>if e=m then 1 else 0) f:=by
  intro f;induction f with
  |nil=>intro a _ _;simp[am]
  |cons t f ih=>
   intro a hf ha;rw[List.foldl_cons];by_cases e:t.2=m
   .have hs:gW t.2 m=true:=by unfold gW;simpa using e
    rw[LI hs,ha t (by simp) e];have hno:∀u∈f,¬u.2=m:=λu hu e2=>by have:=hf.1 u hu;rw[e,e2,(kf o m m rfl).2 rfl] at this;omega
    have h2:=ih t.1 hf.2 (λu hu e2=>absurd e2 (hno u hu));rw[h2];simp only[am,LI e];omega
   .have hs:¬gW t.2 m=true:=by unfold gW;simpa using e
    rw[LH hs,ih a hf.2 (λu hu e2=>ha u (by simp[hu]) e2)];simp only[am,LH e];omega
 have:=key f 0 h.falls (λ_ _ _=>rfl);unfold lZ;rw[this];omega
theorem Ia{p o:Int}{N:Nat}{g:List (List Tm)}(hg:∀f∈g,cQ p o N f):∀i,∀u∈g.getD i [],u.2.length=N/\∀x∈u.2,0<=x:=λi u hu=>by
 have hi:i<g.length:=by apply LF;intro hle;rw[Lr,Lu hle] at hu;simp at hu
 have hm:g.getD i []∈g:=by rw[Lr,Ls hi];exact Lo hi
 exact⟨(hg _ hm).canon.len u hu,λx hx=>((hg _ hm).bd u hu x hx).1⟩
theorem Aq{φ:List Int->Int}:∀{f:List Tm},(∀t∈f,φ t.2=0)->am φ f=0
 |[],_=>rfl
 |t::f,h=>by simp only[am];rw[h t (by simp),Aq λu hu=>h u (by simp[hu])];omega
theorem Ar{φ ψ:List Int->Int}:∀{f:List Tm},(∀t∈f,φ t.2=ψ t.2)->am φ f=am ψ f
 |[],_=>rfl
 |t::f,h=>by simp only[am];rw[h t (by simp),Ar λu hu=>h u (by simp[hu])]
theorem Ib{p o:Int}(hp:2<=p){ds:List Int}{N R:Nat}(hx:aP p (λi=>ds.getD i 0) N R){g:List (List Tm)}(hgl:g.length=R)(hg:∀f∈g,cQ p o N f){f:List Ft}{D:Int}(hf:um p ds N R g f D){m mc:List Int}(hm:m.length=N)(hmn:∀x∈m,0<=x){pc:Nat}(hpc:pc<R)(hc:mc.length=N)(hcn:∀x∈mc,0<=x):p∣lZ ((jh p o [(1,m)] g).getD pc []) mc-aF R (λu=>Gb.dl (eG R pc mc) (Gb.aA (eQ m) u)) f:=by
 have hgd:=Ia hg;rw[As (by omega),Hz _ hf.perm,Ao hx hgd _ R (Lc _)];have hmem:g.getD pc []∈g:=by rw[Lr,Ls (by omega)];exact Lo _
 rw[H8 (At hp hm (hg _ hmem))];have hact:∀i,i<R->∀u∈g.getD i [],Gb.aA (eQ m) (eG R i u.2)=eG R i (bL (·+·) m u.2):=λi hi u hu=>by obtain⟨a1,a2⟩:=hgd i u hu;rw[Ic hx.n3 hm a1 hmn a2]
 have hzl:∀i,∀u∈g.getD i [],(bL (·+·) m u.2).length=N/\∀x∈bL (·+·) m u.2,0<=x:=λi u hu=>by
  obtain⟨a1,a2⟩:=hgd i u hu;refine⟨by rw[kF _ _ _ (by rw[hm,a1]),hm],λx hxm=>?_⟩;obtain⟨k,hk,e⟩:=L8.1 hxm;rw[kF _ _ _ (by rw[hm,a1])] at hk;have e2:=sB (·+·) m u.2 (by rw[hm,a1]) k hk
  rw[Lr,Ls (by rw[kF _ _ _ (by rw[hm,a1])];exact hk)] at e2;simp only[Option.getD_some] at e2;rw[<-e,e2];have b1:=hmn _ (ix m k hk);have b2:=a2 _ (ix u.2 k (by omega));show 0<=m.getD k 0+u.2.getD k 0;omega
 rw[Ap (j:=pc) R hpc λi hi hne=>Aq λu hu=>by
  rw[hact i hi u hu];unfold Gb.dl;rw[LH];intro e;exact hne (tj hx.n3 hi hpc (hzl i u hu).1 hc (hzl i u hu).2 hcn e).1]
 have e1:am (λe=>Gb.dl (eG R pc mc) (Gb.aA (eQ m) (eG R pc e))) (g.getD pc [])=am (λb=>if bL (·+·) m b=mc then (1:Int) else 0) (g.getD pc []):=Ar λu hu=>by
  rw[hact pc hpc u hu];unfold Gb.dl;by_cases e:bL (·+·) m u.2=mc
  .rw[LI (by rw[e])];exact(LI e).symm
  .rw[LH (λh=>e (tj hx.n3 hpc hpc (hzl pc u hu).1 hc (hzl pc u hu).2 hcn h).2)];exact(LH e).symm
 rw[e1];obtain⟨a,ha⟩:=un p o (λe=>if e=mc then (1:Int) else 0) (cN p [(1,m)] (g.getD pc []));obtain⟨b,hb⟩:=uq p (λe=>if e=mc then (1:Int) else 0) (1,m) (g.getD pc []);have e2:cN p [(1,m)] (g.getD pc [])=iP p (1,m) (g.getD pc []):=by simp[cN]
 rw[e2] at ha;simp only at hb;rw[e2];exact⟨a+b,by rw[Int.mul_add];omega⟩
theorem Au{p o:Int}{ds:List Int}{N R:Nat}(hx:aP p (λi=>ds.getD i 0) N R){g:List (List Tm)}(hgl:g.length=R)(hg:∀f∈g,cQ p o N f){f:List Ft}{D:Int}(hf:um p ds N R g f D):(f=[]->eI (aY ds g g.length)=5)/\(f≠[]->eI (aY ds g g.length)=0/\iQ (aY ds g g.length)=D):=by
 have hall:∀x∈aY ds g g.length,x=D:=λx hxm=>by unfold aY at hxm;rw[L7] at hxm;obtain⟨i,hi,hxm⟩:=hxm;unfold cI at hxm;obtain⟨t,ht,rfl⟩:=LC.1 hxm;have h1:ah t.2+ds.getD i 0=D:=hf.hom i t ht;omega
 have hlen:∀k,k<=R->((fw (λi=>ds.getD i 0) N g k).length=(aY ds g k).length):=by
  intro k;induction k with
  |zero=>exact λ_=>rfl
  |succ k ih=>intro hk;rw[oJ];simp only[fw,Lx,LD];rw[ih (by omega)];simp[cI]
 have hl:=hlen R (Lc _);rw[<-hf.perm.length_eq,<-hgl] at hl;constructor
 .intro e;rw[e] at hl;have:aY ds g g.length=[]:=LV.1 hl.symm;rw[this];rfl
 .intro hne;cases e:aY ds g g.length with
  |nil=>rw[e] at hl;exact absurd (LV.1 hl) hne
  |cons z zs=>
   rw[e] at hall;have hz:=hall z (by simp);have ha:zs.all (λy=>y==z)=true:=List.all_eq_true.2 λy hy=>by rw[hall y (by simp[hy]),hz];simp
   rw[l6,oK,LI ha,LI ha];exact⟨rfl,hz⟩
def gM(p o:Int)(N:Nat)(ds:List Int)(d:Int)(cols:List (Nat×List Int)):Nat->List (List (List Tm)×List Ft)->List (List Int×(Nat×Gb.Mo))
 |_,[]=>[]
 |i,(g,f)::l=>if f=[] then gM p o N ds d cols i l else (dK N (d-iQ (aY ds g g.length))).map (λm=>(kV cols (jh p o [(1,m)] g),(i,eQ m)))++gM p o N ds d cols (i+1) l
theorem Av{p:Int}{dg:Nat->Int}{R:Nat}{fss:List (List Ft)}{i:Nat}{f:List Ft}(h:fss[i]?=some f)(φ:Gb.Te->Int)(y:Gb.Mo):Gb.ev (au p dg R fss) φ [(1,y,i)]=aF R (λu=>φ (Gb.aA y u)) f:=by
 simp only[Gb.ev];have e:(au p dg R fss).g i=cV R f:=by show cV R _=_;rw[dw h]
 rw[e];show 1*Gb.ln (λu=>φ (Gb.aA y u)) (cV R f)+0=_;rw[Int.one_mul,Int.add_zero];rfl
theorem Aw{N:Nat}(h1:0<N){x:Int}{m:List Int}(hm:m∈dK N x):0<=x/\m.length=N/\(∀e∈m,0<=e)/\ah m=x:=by
 have hx0:0<=x:=by apply Int.not_lt.1;intro h;rw[qa h] at hm;simp at hm
 have hok:=qd N x hx0 m hm;exact⟨hx0,oc N x m hm,λe he=>(hok.1 e he).1,hok.2 h1⟩
structure ur(p o:Int)(ds:List Int)(N R:Nat)(e:List (List Tm)×List Ft):Prop where
 fl:∃D,um p ds N R e.1 e.2 D
 len:e.1.length=R
 right:∀f∈e.1,cQ p o N f
theorem ut{p o:Int}(hp:2<=p){ds:List Int}{N R:Nat}(hx:aP p (λi=>ds.getD i 0) N R){d:Int}(hd:0<=d):∀(l:List (List (List Tm)×List Ft)) (pre:List (List Ft)),(∀e∈l,ur p o ds N R e)->(∀e∈gM p o N ds d (dj N ds d R) pre.length l,lF (au p (λi=>ds.getD i 0) R (pre++bV (l.map Prod.snd))) N (pre++bV (l.map Prod.snd)).length d.toNat [(1,e.2.2,e.2.1)]/\∀j (hj:j<(fX N R ds d).length),p∣e.1.getD j 0-Gb.ev (au p (λi=>ds.getD i 0) R (pre++bV (l.map Prod.snd))) (Gb.dl (fX N R ds d)[j]) [(1,e.2.2,e.2.1)])/\(∀i y,pre.length<=i->lF (au p (λi=>ds.getD i 0) R (pre++bV (l.map Prod.snd))) N (pre++bV (l.map Prod.snd)).length d.toNat [(1,y,i)]->∃r,(r,(i,y))∈gM p o N ds d (dj N ds d R) pre.length l)
 |[],pre,_=>by refine⟨λe he=>by simp[gM] at he,λi y hi hm=>?_⟩;have:=(hm (1,y,i) (by simp)).1;simp[bV] at this;omega
 |(g,f)::l,pre,h=>by
  have hh:=h (g,f) (by simp);obtain⟨D,hfl⟩:=hh.fl;simp only at hfl;have hdeg:=Au hx hh.len hh.right hfl;cases f with
  |nil=>
   have ih:=ut hp hx hd l pre λe he=>h e (by simp[he]);have e1:bV (((g,([]:List Ft))::l).map Prod.snd)=bV (l.map Prod.snd):=by simp[bV]
   have e2:gM p o N ds d (dj N ds d R) pre.length ((g,[])::l)=gM p o N ds d (dj N ds d R) pre.length l:=by simp[gM]
   rw[e1,e2];exact ih
  |cons t ts=>
   have ih:=ut hp hx hd l (pre++[t::ts]) λe he=>h e (by simp[he]);have e1:pre++bV (((g,t::ts)::l).map Prod.snd)=(pre++[t::ts])++bV (l.map Prod.snd):=by simp[bV]
   have hV:=(hdeg.2 (by simp)).2;have e2:gM p o N ds d (dj N ds d R) pre.length ((g,t::ts)::l)=(dK N (d-D)).map (λm=>(kV (dj N ds d R) (jh p o [(1,m)] g),(pre.length,eQ m)))++gM p o N ds d (dj N ds d R) (pre++[t::ts]).length l:=by simp only[gM];rw[LH (by simp),hV,Lx];rfl
   rw[e1,e2];have hat:(pre++[t::ts]++bV (l.map Prod.snd))[pre.length]?=some (t::ts):=by simp
   have hlt:pre.length<(pre++[t::ts]++bV (l.map Prod.snd)).length:=by simp
   have hld:(au p (λi=>ds.getD i 0) R (pre++[t::ts]++bV (l.map Prod.snd))).ld pre.length=ag R t:=by show gF R _=_;rw[dw hat];rfl
   have hgt:=hfl.vc.gd t (by simp);have hts:=hgt.ts hx;have hD0:=(hgt.bd hx).2.1;refine⟨λe he=>?_,λi y hi hm=>?_⟩
   .rcases Lv.1 he with he|he
    .obtain⟨m,hm,rfl⟩:=LC.1 he;obtain⟨hx0,m1,m2,m3⟩:=Aw hx.n0 hm;have hs3:=yu hx.n0 hx.n3 m1 m2;refine⟨λr hr=>?_,λj hj=>?_⟩
     .rw[Lw] at hr;subst hr;refine⟨hlt,hs3.2,?_⟩;simp only;rw[hld,hts.1];omega
     .simp only;rw[Av hat];have hjc:j<(dj N ds d R).length:=by unfold fX at hj;simpa using hj
      have hcm:=(lJ R).1 (Lo hjc);obtain⟨_,c1,c2,_⟩:=Aw hx.n0 hcm.2;have eT:(fX N R ds d)[j]=eG R (dj N ds d R)[j].1 (dj N ds d R)[j].2:=by simp[fX]
      have eR:(kV (dj N ds d R) (jh p o [(1,m)] g)).getD j 0=lZ ((jh p o [(1,m)] g).getD (dj N ds d R)[j].1 []) (dj N ds d R)[j].2:=by unfold kV;simp[Lr,hjc]
      rw[eT,eR];exact Ib hp hx hh.len hh.right hfl m1 m2 hcm.1 c1 c2
    .exact ih.1 e he
   .by_cases hip:i=pre.length
    .subst hip;obtain⟨_,h2,h3⟩:=hm (1,y,pre.length) (by simp);simp only at h2 h3;rw[hld,hts.1] at h3;obtain⟨l1,l2,l3,l4⟩:=yv hx.n0 hx.n3 h2;have hmem:fW N y∈dK N (d-D):=td hx.n0 (by omega) l1 l2 (by rw[l4];omega);exact⟨_,List.mem_append_left _ (LC.2 ⟨fW N y,hmem,by rw[l3]⟩)⟩
    .obtain⟨r,hr⟩:=ih.2 i y (by simp;omega) hm;exact⟨r,List.mem_append_right _ hr⟩
theorem uu{p o:Int}{ds:List Int}{N R:Nat}(hx:aP p (λi=>ds.getD i 0) N R){d:Int}{cols:List (Nat×List Int)}:∀(l:List (List (List Tm)×List Ft)) (i:Nat),(∀e∈l,ur p o ds N R e)->(gM p o N ds d cols i l).map Prod.fst=(l.map Prod.fst).flatMap (mY p o N ds d cols)
 |[],_,_=>rfl
 |(g,f)::l,i,h=>by
  have hh:=h (g,f) (by simp);obtain⟨D,hfl⟩:=hh.fl;simp only at hfl;have hdeg:=Au hx hh.len hh.right hfl;rw[List.map_cons,List.flatMap_cons];simp only[gM];by_cases hf:f=[]
  .rw[LI hf,uu hx l i λe he=>h e (by simp[he])];unfold mY;rw[hdeg.1 hf,LH (by decide)];rfl
  .rw[LH hf,LO,List.map_map,uu hx l (i+1) λe he=>h e (by simp[he])];unfold mY;rw[(hdeg.2 hf).1,LI rfl];rfl
theorem Ie{p:Int}{dg:Nat->Int}{N R:Nat}(hx:aP p dg N R){Q:Int}(hQ:Q<=16000){vs vs':List (List Ft)}(h:iC p dg N R Q vs')(hs:∀v∈vs,v∈vs'):∀i,(au p dg R vs).live i->Gb.Vb (au p dg R vs') (λs=>aL dg R s=aL dg R ((au p dg R vs).ld i)) λφ=>Gb.ln φ ((au p dg R vs).g i):=λi hi=>by
 obtain⟨t,r,h1,_⟩:=hi;obtain⟨j,hj,e⟩:=L8.1 (hs _ (List.mem_of_getElem? h1));have h2:vs'[j]?=some (t::r):=by rw[Ls hj,e]
 have hl:(au p dg R vs').live j:=xF hx hQ h hj;have e1:(au p dg R vs).ld i=ag R t:=by show gF R _=_;rw[dw h1];rfl
 have e2:(au p dg R vs').ld j=ag R t:=by show gF R _=_;rw[dw h2];rfl
 have e3:(au p dg R vs).g i=cV R (t::r):=by show cV R _=_;rw[dw h1]
 refine⟨[(1,(0,0,0),j)],λx hxm=>?_,λφ=>⟨0,?_⟩⟩
 .rw[Lw] at hxm;subst hxm;refine⟨hl,?_⟩;show aL dg R (Gb.aA (0,0,0) _)=_;rw[jW,e1,e2];rfl
 .rw[Av h2,e3];have e4:(λu=>φ (Gb.aA (0,0,0) u))=φ:=by funext u;obtain⟨a,b,c,d⟩:=u;simp[Gb.aA]
  rw[e4];show aF R φ (t::r)-aF R φ (t::r)=p*0;omega
theorem Cp.list{p:Int}{dg:Nat->Int}{N R:Nat}(hx:aP p dg N R){vs vs':List (List Ft)}{ms:List Mm}{qs:List Pq}{E:Nat->Nat->Prop}{T:Int}(h:Cp p dg N R vs ms qs E T)(hs:∀v,v∈vs↔v∈vs'):Cp p dg N R vs' ms qs E T:=
 have hv:iC p dg N R 9 vs':=λv hm=>h.vb v ((hs v).2 hm)
 ⟨h.inv,h.nd,h.pr,h.mb,h.ng,h.anti,hv,λx hxm D hD=>pP (Ie hx (by omega) hv λv hm=>(hs v).1 hm) (h.mx x hxm D hD),λv hm=>h.my v ((hs v).2 hm),h.ql⟩
theorem oH{p o:Int}{N R:Nat}(hN:N=1\/N=2\/N=3){ds:List Int}(hR:ds.length=R)(hx:aP p (λi=>ds.getD i 0) N R)(h0:∀i,0<=ds.getD i 0){d:Int}(hd:0<=d){lss:List (List (List Tm))}(hl:∀g∈lss,g.length=R)(hr:∀g∈lss,∀f∈g,cQ p o N f){fls:List (List Ft)}(hv:j8 p ds N R lss fls){vs:List (List Ft)}(hp:vs.Perm (bV fls)){ms:List Mm}{E:Nat->Nat->Prop}{T:Int}(h:Cp p (λi=>ds.getD i 0) N R vs ms [] E T)(hE:dF p (λi=>ds.getD i 0) R ms E):(dT N ds (aX ((aQ ms R).map Mm.L)) d R:Int)=cL p o N ds lss d:=by
 obtain⟨pn,rfl⟩:∃pn:Nat,p=pn:=⟨p.toNat,by have:=fq hx.pr;omega⟩;have hpo:=pE hx.pr;have hpr:dH pn pn=true:=by have:=hpo.2.2;simpa [kA] using this
 have hp2:2<=pn:=by omega
 have hp101:pn<=101:=by omega
 have h':=h.list hx (vs':=bV fls) λv=>hp.mem_iff;have hls:∀e∈lss.zip fls,ur (pn:Int) o ds N R e:=λe he=>by
  obtain⟨i,hi,e2⟩:=L8.1 he;rw[List.length_zip] at hi;have hi1:i<lss.length:=by omega
  have hi2:i<fls.length:=by omega
  rw[List.getElem_zip] at e2;obtain⟨hper,D,_,hvc,hho⟩:=hv.at_ i hi1;rw[Lr,Ls hi2] at hper hvc;rw[Lr,Ls hi1] at hper hho;simp only[Option.getD_some] at hper hvc hho;rw[<-e2];exact⟨⟨D,hper,hvc,hho⟩,hl _ (Lo hi1),hr _ (Lo hi1)⟩
 have hz1:(lss.zip fls).map Prod.fst=lss:=by rw[List.map_fst_zip];rw[hv.len];exact Lc _
 have hz2:(lss.zip fls).map Prod.snd=fls:=by rw[List.map_snd_zip];rw[hv.len];exact Lc _
 have hok:=ut (o:=o) (by omega) hx hd (lss.zip fls) [] hls;have hrw:=uu (o:=o) hx (d:=d) (cols:=dj N ds d R) (lss.zip fls) 0 hls;rw[hz2] at hok;rw[hz1] at hrw;simp only[List.nil_append,List.length_nil] at hok;have hrc:(gM (pn:Int) o N ds d (dj N ds d R) 0 (lss.zip fls)).map Prod.fst=oL (pn:Int) o N ds d lss:=by rw[hrw];unfold oL;rw[hR]
 generalize hPL:gM (pn:Int) o N ds d (dj N ds d R) 0 (lss.zip fls)=PL at hok hrc;have hRW:sQ (au (pn:Int) (λi=>ds.getD i 0) R (bV fls)) N (bV fls).length d.toNat (fX N R ds d) (PL.map Prod.snd) (oL (pn:Int) o N ds d lss):=by
  rw[<-hrc];refine⟨by rw[LD,LD],λk hk=>?_,λi y hm=>?_,λk hk j hj=>?_⟩
  .rw[LD] at hk;have:=(hok.1 PL[k] (Lo hk)).1;simpa using this
  .obtain⟨r,hr2⟩:=hok.2 i y (Ll _) hm;exact LC.2 ⟨_,hr2,rfl⟩
  .rw[LD] at hk;have h2:=(hok.1 PL[k] (Lo hk)).2 j hj;have e:Uf (PL.map Prod.fst) k j=PL[k].1.getD j 0:=by unfold Uf;simp[Lr,hk]
   rw[e];simpa using h2
 have hT:=yx (R:=R) hx.n0 hx.n3 h0 hd;have hrow:∀r∈oL (pn:Int) o N ds d lss,cU pn (fX N R ds d).length r:=λr hm=>by
  have hl2:(fX N R ds d).length=(dj N ds d ds.length).length:=by unfold fX;rw[LD,hR]
  rw[hl2];exact If (by omega) hr r hm
 obtain⟨P,hP⟩:∃P:Gb.Te->Bool,∀s,P s=true↔¬∃x∈ms,Gb.aW.dv (ag R x.L) s:=⟨λs=>@decide (¬∃x∈ms,Gb.aW.dv (ag R x.L) s) (Classical.propDecidable _),λs=>by simp⟩;have hfin:=DE hp2 hp101 hpr hx h' hE hT (yA hx.n0 hx.n3) hRW hrow P hP;rw[Hy hN h0 hd h' P hP] at hfin;unfold cL;have hl2:(fX N R ds d).length=(dj N ds d ds.length).length:=by unfold fX;rw[LD,hR]
 rw[hl2] at hfin;omega
end Go.Proofs.YteimdcndjjclnaaGreat
