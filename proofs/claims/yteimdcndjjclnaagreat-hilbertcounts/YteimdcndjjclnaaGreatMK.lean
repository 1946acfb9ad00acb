/- hilbert's newOutside: the leads of a list beside its degrees. -/
import Derived.Test.YteimdcndjjclnaaGreatMJ
set_option maxHeartbeats 2000000
set_option maxRecDepth 100000
namespace Go.Proofs.YteimdcndjjclnaaGreat
set_option linter.all false
open Go.Proofs.Tryz Go.RowKit
structure mN(w:World)(b N:Nat)(dv x:Value):Prop where
 lt:b<w.heap.size
 c0:w.cell? ⟨b,0,none⟩=some (.int .i64 (N:Int))
 c1:w.cell? ⟨b,1,none⟩=some dv
 c2:w.cell? ⟨b,2,none⟩=some x
theorem mN.below{w w':World}{b N:Nat}{dv x:Value}(h:mN w b N dv x)(hb:Below w.heap.size w w'):mN w' b N dv x:=⟨MN h.lt hb.size,af h.c0 hb,af h.c1 hb,af h.c2 hb⟩
theorem AY(p o v:Int)(N:Nat)(dv lv:Value)(ds:List Int)(lss:List (List (List Tm)))(w:World)(hx:aR p (λi=>ds.getD i 0) N ds.length)(hs:Sl w dv ds)(hl0:0<ds.length)(hd:∀d∈ds,0<=d/\d<=6)(hw:Wl w lv lss)(hll:lss.length<=4)(hl:∀g∈lss,g.length=ds.length)(hr:∀g∈lss,∀f∈g,cL p o N f)(hh:∀g∈lss,∃D,D<=9/\kI (λi=>ds.getD i 0) D g):Calls prog 13 #[aS p N o v,dv,lv] w λe w'=>∃b x fls vs ms E T,e=.returned (.pointer (some ⟨b,0,none⟩))/\mN w' b N dv x/\kJ p ds N ds.length lss fls/\vs.Perm (b9 fls)/\Cp p (λi=>ds.getD i 0) N ds.length vs ms [] E T/\dT p (λi=>ds.getD i 0) ds.length ms E/\jF w' x ds.length (bh ((aT ms ds.length).map Mm.L))/\Below w.heap.size w w':=by
 obtain⟨w1,hw1⟩:∃w1,w1=w.alloc (.cells #[.int .i64 p,.int .i64 N,.int .i64 o,.int .i64 v] 23):=⟨_,rfl⟩;have HB1:Nw (Below w.heap.size w w1):=by rw[hw1];exact ai
 have b0:w1.cell? ⟨w.heap.size,0,none⟩=some (.int .i64 p):=by rw[hw1];simp[go_sem]
 have b1:w1.cell? ⟨w.heap.size,1,none⟩=some (.int .i64 N):=by rw[hw1];simp[go_sem]
 have b2:w1.cell? ⟨w.heap.size,2,none⟩=some (.int .i64 o):=by rw[hw1];simp[go_sem]
 have b3:w1.cell? ⟨w.heap.size,3,none⟩=some (.int .i64 v):=by rw[hw1];simp[go_sem]
 have hz1:w1.heap.size=w.heap.size+1:=by rw[hw1];simp
 have HLE:=ae (IT p o v N dv lv ds lss w1.drew hx ((hs.below HB1.o).below (MJ _ w1).drew) hl0 hd ((hw.below HB1.o).below (MJ _ w1).drew) hll hl hr hh);obtain⟨da,dc,rfl,_⟩:=hs;obtain⟨la,lc,rfl,_⟩:=hw;unfold aS at HLE;unfold aS;clear hd hx hl hr hh hll;go_enter func13,ntmps13;go_upto_region 1 with fail;rw[<-hw1];clear hw1;refine wp_region_held_drew (S:=λW=>W.cell? ⟨w.heap.size,0,none⟩=some (.int .i64 p)/\W.cell? ⟨w.heap.size,1,none⟩=some (.int .i64 N)/\W.cell? ⟨w.heap.size,2,none⟩=some (.int .i64 o)/\W.cell? ⟨w.heap.size,3,none⟩=some (.int .i64 v)) (by kernel_rfl) ⟨b0,b1,b2,b3⟩ (λhHeld=>?_);refine aG 0 7 rfl rfl hHeld (Np ⟨rfl,λw ⟨s1,s2,s3,s4⟩=>by go_simp<;>with_reducible rfl⟩) ?_;refine aG 1 8 rfl rfl hHeld (Np ⟨rfl,λw ⟨s1,s2,s3,s4⟩=>by go_simp<;>with_reducible rfl⟩) ?_;refine aG 2 9 rfl rfl hHeld (Np ⟨rfl,λw ⟨s1,s2,s3,s4⟩=>by go_simp<;>with_reducible rfl⟩) ?_;refine aG 3 10 rfl rfl hHeld (Np ⟨rfl,λw ⟨s1,s2,s3,s4⟩=>by go_simp<;>with_reducible rfl⟩) ?_;refine aG 4 11 rfl rfl hHeld (Np ⟨rfl,λw ⟨s1,s2,s3,s4⟩=>by go_simp<;>with_reducible rfl⟩) ?_;refine aG 5 12 rfl rfl hHeld (Np ⟨rfl,λw ⟨s1,s2,s3,s4⟩=>by go_simp<;>with_reducible rfl⟩) ?_;simp only[Act.put,List.setIfInBounds_toArray,List.set_cons_zero,List.set_cons_succ];refine wpAnyH_ready (rs:=[6]) (by kernel_rfl) (by simp) ?_;refine AllReadyH.cons rfl (λK hK=>?_) AllReadyH.nil;go_simp;refine HLE.o.mono ?_;rintro e w2 ⟨x,fls,vs,ms,E,T,rfl,q1,q2,q3,q4,q5,q6⟩;have HB2:Nw (Below w1.heap.size w1 w2):=((MJ _ w1).drew).trans q6;have HQ:=ae (MK q1 (MK q2 (MK q3 (MK q4 q5))));obtain⟨gb,gc,hx2,_,_⟩:=q5;subst hx2;clear q1 q2 q3 q4 q6;dsimp only;refine hK.out _ _ ⟨af b0 HB2.o,af b1 HB2.o,af b2 HB2.o,af b3 HB2.o⟩ (λhHeld=>?_);clear hK K;try refine aG 7 14 rfl rfl hHeld (Np ⟨rfl,λw ⟨s1,s2,s3,s4⟩=>by go_simp<;>with_reducible rfl⟩) ?_
 simp only[Act.put,List.setIfInBounds_toArray,List.set_cons_zero,List.set_cons_succ];obtain⟨w3,hw3⟩:∃w3,w3=w2.alloc (.cells #[.int .i64 (N:Int),.slice da ds.length dc,.slice (some ⟨gb,0,none⟩) ds.length gc] 68):=⟨_,rfl⟩;have HB3:Nw (Below w2.heap.size w2 w3):=by rw[hw3];exact ai
 have HO:Nw (mN w3 w2.heap.size N (.slice da ds.length dc) (.slice (some ⟨gb,0,none⟩) ds.length gc)):=by rw[hw3];exact⟨by simp,by simp[go_sem],by simp[go_sem],by simp[go_sem]⟩
 have HBX:Nw (Below w1.heap.size w1 w3):=HB2.o.trans (HB3.o.mono HB2.o.size);refine wpAnyH_ready (rs:=[8]) (by kernel_rfl) (by simp) ?_;refine AllReadyH.cons rfl (λK hK=>?_) AllReadyH.nil;go_simp;rw[<-hw3];clear hw3;refine hK.out _ _ ⟨af b0 HBX.o,af b1 HBX.o,af b2 HBX.o,af b3 HBX.o⟩ (λhHeld=>?_);clear hK K;try refine aG 9 6 rfl rfl hHeld (Np ⟨rfl,λw ⟨s1,s2,s3,s4⟩=>by go_simp<;>with_reducible rfl⟩) ?_
 simp only[Act.put,List.setIfInBounds_toArray,List.set_cons_zero,List.set_cons_succ];refine wpAnyH_done (by kernel_rfl) ?_ _;go_wp2_with fail;go_ret;exact⟨_,_,fls,vs,ms,E,T,rfl,HO.o,HQ.o.1,HQ.o.2.1,HQ.o.2.2.1,HQ.o.2.2.2.1,HQ.o.2.2.2.2.below HB3.o,HB1.o.trans (HBX.o.mono HB1.o.size)⟩
def mO(N:Nat)(ds:List Int)(ess:Nat->List Gb.Mo)(d:Int)(pl:Nat):Nat:=((bR N (d-ds.getD pl 0)).filter λe=>!(ess pl).any λl=>dr l e).length
def gz(N:Nat)(ds:List Int)(ess:Nat->List Gb.Mo)(d:Int):Nat->Nat
 |0=>0
 |k+1=>gz N ds ess d k+mO N ds ess d k
theorem rN{x:Int}(h1:-9223372036854775808<=x)(h2:x<=9223372036854775807):IntKind.i64.wrap x=x:=by simp[IntKind.wrap,IntKind.signed,IntKind.bits];omega
theorem AZ{N:Nat}{ds:List Int}{ess:Nat->List Gb.Mo}{d:Int}(hN:N<=3)(hd:d<=16000){pl:Nat}(h0:0<=ds.getD pl 0):mO N ds ess d pl<=256032001:=MO (Nm _ _) (AU hN (by omega))
theorem vn{N:Nat}{ds:List Int}{ess:Nat->List Gb.Mo}{d:Int}(hN:N<=3)(hd:d<=16000)(h0:∀pl,0<=ds.getD pl 0):∀k,gz N ds ess d k<=k*256032001
 |0=>by simp[gz]
 |k+1=>by have:=vn (ess:=ess) hN hd h0 k;have:=AZ (ess:=ess) hN hd (h0 k);simp only[gz];omega
theorem A0(N b:Nat)(hN:N=1\/N=2\/N=3)(dv x:Value)(ds:List Int)(ess:Nat->List Gb.Mo)(d:Int)(w:World)(ho:mN w b N dv x)(hs:Sl w dv ds)(hl0:0<ds.length)(hl3:ds.length<=3)(hds:∀i,i<ds.length->0<=ds.getD i 0/\ds.getD i 0<=6)(hld:jF w x ds.length ess)(hes:∀pl,pl<ds.length->(ess pl).length<=5000000)(hd0:0<=d)(hd:d<=12000):Calls prog 14 #[.pointer (some ⟨b,0,none⟩),.int .i64 d] w λe w'=>e=.returned (.int .i64 (gz N ds ess d ds.length:Nat))/\Below w.heap.size w w':=by
 have hg0:∀pl,0<=ds.getD pl 0:=λpl=>by
  by_cases h:pl<ds.length
  .exact(hds pl h).1
  .rw[MV,MX (by omega)];simp
 have HLEN:Nw (∀k,gz N ds ess d k<=k*256032001):=vn (by omega) (by omega) hg0;have HPL:Nw (∀pl,mO N ds ess d pl<=256032001):=λpl=>AZ (by omega) (by omega) (hg0 pl);have HO:=ae ho;have HES:=ae hes;have HDS:=ae hds;have HLD:=ae hld;obtain⟨da,dc,rfl,hsl⟩:=hs;obtain⟨db,doff,rfl,hdb,hdi⟩:=hsl hl0;have HDI:=ae hdi;obtain⟨gb,gc,rfl,hgb,hgr⟩:=hld;have HGR:=ae hgr;obtain⟨hlb,c0,c1,c2⟩:=ho;clear hg0 hds hes hsl hdi hgr;go_enter func14,ntmps14;go_wp2_with fail;go_loopw [5,13] (λs i wr=>∃k:Nat,k<=ds.length/\i=.int .i64 k/\s=.int .i64 (gz N ds ess d k:Nat)/\Below w.heap.size w wr) (λ_ i _=>ds.length-(intOf i).toNat);case atStart=>exact⟨0,MP _,rfl,rfl,MJ _ _⟩
 case round=>
  obtain⟨k,hk,rfl,rfl,hbr⟩:=hrel;have HBR:=ae hbr;clear hbr;by_cases hk2:k<ds.length
  .obtain⟨u,hu,hxs⟩:=HGR.o k hk2;have hku:=(HBR.o.cell (p:=⟨gb,k,none⟩) hgb).trans hu;obtain⟨ea,ec,rfl,hx2⟩:=hxs;have HXS:Nw (j9 w (.slice ea (ess k).length ec) (ess k)):=⟨ea,ec,rfl,hx2⟩;have hzr:=HBR.o.size;obtain⟨wb,hwb⟩:∃wb,wb=wr.alloc (.cells #[.slice ea (ess k).length ec] 69):=⟨_,rfl⟩;have HBB:Nw (Below wr.heap.size wr wb):=by rw[hwb];exact ai
   have y0:wb.cell? ⟨wr.heap.size,0,none⟩=some (.slice ea (ess k).length ec):=by rw[hwb];simp[go_sem]
   have hzb:wb.heap.size=wr.heap.size+1:=by rw[hwb];simp
   have HBW:Nw (Below w.heap.size w wb):=HBR.o.trans (HBB.o.mono HBR.o.size);have s0:=af c0 HBW.o;have s1':=af c1 HBW.o;have s2':=(HBW.o.cell (p:=⟨db,doff+k,none⟩) hdb).trans (HDI.o k hk2);obtain⟨d1,d2⟩:=HDS.o k hk2;have hkI:(k:Int)<(ds.length:Int):=by omega
   have ha1:=HLEN.o k;have ha2:=HPL.o k;have HST:Nw (gz N ds ess d (k+1)=gz N ds ess d k+mO N ds ess d k):=rfl;have HHM:Nw (Calls prog 15 #[.int .i64 (N:Int),.int .i64 (d-ds.getD k 0),.func (.func 31) #[] #[.pointer (some ⟨wr.heap.size,0,none⟩)]] wb.drew λr w'=>r=.returned (.int .i64 (mO N ds ess d k:Nat))/\Below wb.drew.heap.size wb.drew w'):=
    II wr.heap.size N hN (d-ds.getD k 0) (by omega) (by omega) (λe=>!(ess k).any λl=>dr l e) wb.drew (λW e hW _=>IQ wr.heap.size (.slice ea (ess k).length ec) (ess k) e W (by have h2:wb.heap.size<=W.heap.size:=hW.size;omega) ((hW.cell (p:=⟨wr.heap.size,0,none⟩) (show wr.heap.size<wb.heap.size by omega)).trans y0) (((HXS.o.below HBW.o).below (MJ _ wb).drew).below hW) (HES.o k hk2))
   generalize mO N ds ess d k=np at HHM ha2 HST;generalize gz N ds ess d k=nn at ha1 HST;have ha3:nn<=768096003:=by have:=Nr 256032001 (show k<=3 by omega);omega
   have HC9:Nw (∀W,Below w.heap.size w W->W.cell? ⟨db,doff+k,none⟩=some (.int .i64 (ds.getD k 0))):=λW h=>(h.cell (p:=⟨db,doff+k,none⟩) hdb).trans (HDI.o k hk2);clear hx2 ha1;generalize ds.getD k 0=dk at s2' d1 d2 HHM HC9;have hwr1:IntKind.i64.wrap (d-dk)=d-dk:=rN (by omega) (by omega);have hwr2:IntKind.i64.wrap ((nn:Int)+(np:Int))=(nn:Int)+(np:Int):=rN (by omega) (by omega);go_upto_region 5 with fail;rw[<-hwb];clear hwb hku hu;refine wp_region_held_drew (S:=λW=>W.cell? ⟨b,0,none⟩=some (.int .i64 (N:Int))/\W.cell? ⟨b,1,none⟩=some (.slice (some ⟨db,doff,none⟩) ds.length dc)/\W.cell? ⟨db,doff+k,none⟩=some (.int .i64 dk)) (by kernel_rfl) ⟨s0,s1',s2'⟩ (λhHeld=>?_);refine aG 0 18 rfl rfl hHeld (Np ⟨rfl,λw ⟨s1,s2,s3⟩=>by go_simp<;>with_reducible rfl⟩) ?_;refine aG 1 19 rfl rfl hHeld (Np ⟨rfl,λw ⟨s1,s2,s3⟩=>by go_simp<;>with_reducible rfl⟩) ?_;refine aG 2 20 rfl rfl hHeld (Np ⟨rfl,λw ⟨s1,s2,s3⟩=>by go_simp<;>with_reducible rfl⟩) ?_;refine aG 3 21 rfl rfl hHeld (Np ⟨rfl,λw ⟨s1,s2,s3⟩=>by go_simp<;>with_reducible rfl⟩) ?_;refine aG 4 22 rfl rfl hHeld (Np ⟨rfl,λw ⟨s1,s2,s3⟩=>by go_simp<;>with_reducible rfl⟩) ?_;refine aG 5 23 rfl rfl hHeld (Np ⟨rfl,λw ⟨s1,s2,s3⟩=>by go_simp<;>with_reducible rfl⟩) ?_;refine aG 6 24 rfl rfl hHeld (Np ⟨rfl,λw ⟨s1,s2,s3⟩=>by go_simp<;>with_reducible rfl⟩) ?_;refine aG 7 25 rfl rfl hHeld (Np ⟨rfl,λw ⟨s1,s2,s3⟩=>by go_simp<;>with_reducible rfl⟩) ?_;refine aG 8 26 rfl rfl hHeld (Np ⟨rfl,λw ⟨s1,s2,s3⟩=>by go_simp<;>with_reducible rfl⟩) ?_;refine aG 9 27 rfl rfl hHeld (Np ⟨rfl,λw ⟨s1,s2,s3⟩=>by go_simp<;>with_reducible rfl⟩) ?_;refine aG 10 28 rfl rfl hHeld (Np ⟨rfl,λw ⟨s1,s2,s3⟩=>by go_simp<;>with_reducible rfl⟩) ?_;refine aG 11 29 rfl rfl hHeld (Np ⟨rfl,λw ⟨s1,s2,s3⟩=>by go_simp<;>with_reducible rfl⟩) ?_;refine aG 12 30 rfl rfl hHeld (Np ⟨rfl,λw ⟨s1,s2,s3⟩=>by go_simp<;>with_reducible rfl⟩) ?_;refine aG 13 31 rfl rfl hHeld (Np ⟨rfl,λw ⟨s1,s2,s3⟩=>by go_simp<;>with_reducible rfl⟩) ?_;refine aG 14 32 rfl rfl hHeld (Np ⟨rfl,λw ⟨s1,s2,s3⟩=>by go_simp<;>with_reducible rfl⟩) ?_;simp only[Act.put,List.setIfInBounds_toArray,List.set_cons_zero,List.set_cons_succ];refine wpAnyH_ready (rs:=[15]) (by kernel_rfl) (by simp) ?_;refine AllReadyH.cons rfl (λK hK=>?_) AllReadyH.nil;go_simp;refine HHM.o.mono ?_;rintro e w9 ⟨rfl,hb9⟩;have HB9:Nw (Below w.heap.size w w9):=HBW.o.trans (((MJ _ wb).drew.trans hb9).mono HBW.o.size);clear hb9;dsimp only;refine hK.out _ _ ⟨af c0 HB9.o,af c1 HB9.o,HC9.o _ HB9.o⟩ (λhHeld=>?_);clear hK K;try refine aG 16 34 rfl rfl hHeld (Np ⟨rfl,λw ⟨s1,s2,s3⟩=>by go_simp<;>with_reducible rfl⟩) ?_
   refine aG 17 5 rfl rfl hHeld (Np ⟨rfl,λw ⟨s1,s2,s3⟩=>by go_simp<;>with_reducible rfl⟩) ?_;simp only[Act.put,List.setIfInBounds_toArray,List.set_cons_zero,List.set_cons_succ];refine wpAnyH_done (by kernel_rfl) ?_ _;go_wp2_with fail;go_roundw;case rel=>exact⟨k+1,by omega,by go_num,by rw[HST.o];go_num,HB9.o⟩
   case measure=>simp[intOf];omega
  .have hke:k=ds.length:=by omega
   subst hke;go_wp2;go_ret;exact⟨rfl,HBR.o⟩
end Go.Proofs.YteimdcndjjclnaaGreat
namespace Go.Proofs.YteimdcndjjclnaaGreat
open Go.Proofs.Tryz
set_option linter.all false
def ki(N:Nat)(d:Nat)(y:Gb.Mo):Prop:=nM N y/\y.1+y.2.1+y.2.2=d
theorem vC(d:Nat)(y:Gb.Mo):y∈dP 1 d↔ki 1 d y:=by
 obtain⟨a,b,c⟩:=y;simp only[dP,MZ,Prod.mk.injEq,ki,nM];constructor
 .rintro ⟨rfl,rfl,rfl⟩;simp
 .rintro ⟨⟨h1,h2⟩,h3⟩;have:=h1 (by omega);have:=h2 (by omega);omega
theorem pK(d:Nat)(y:Gb.Mo):y∈dP 2 d↔ki 2 d y:=by
 obtain⟨a,b,c⟩:=y;show (a,b,c)∈(List.range (d+1)).flatMap (λk=>(dP 1 (d-k)).map (ei 1 k))↔_;rw[Nt];constructor
 .rintro ⟨k,hk,h⟩;rw[List.mem_range] at hk;obtain⟨⟨x,z,t⟩,h1,h2⟩:=M5.1 h;have h3:=(vC _ _).1 h1;unfold ki nM at h3;simp only at h3;simp only[ei,Prod.mk.injEq,if_true] at h2;have:=h3.1.1 (by omega);have:=h3.1.2 (by omega);unfold ki nM;simp only;refine⟨⟨λh=>by omega,λ_=>by omega⟩,by omega⟩
 .rintro ⟨⟨_,h2⟩,h3⟩;simp only at h2 h3;have:=h2 (by omega);refine⟨b,by rw[List.mem_range];omega,M5.2 ⟨(a,0,0),(vC _ _).2 ⟨⟨λ_=>rfl,λ_=>rfl⟩,by simp only;omega⟩,?_⟩⟩;simp only[ei,if_true,Prod.mk.injEq,true_and];omega
theorem Jh(d:Nat)(y:Gb.Mo):y∈dP 3 d↔ki 3 d y:=by
 obtain⟨a,b,c⟩:=y;show (a,b,c)∈(List.range (d+1)).flatMap (λk=>(dP 2 (d-k)).map (ei 2 k))↔_;rw[Nt];constructor
 .rintro ⟨k,hk,h⟩;rw[List.mem_range] at hk;obtain⟨⟨x,z,t⟩,h1,h2⟩:=M5.1 h;have h3:=(pK _ _).1 h1;unfold ki nM at h3;simp only at h3;have e2:ei 2 k (x,z,t)=(x,z,k):=rfl;rw[e2] at h2;simp only[Prod.mk.injEq] at h2;have:=h3.1.2 (by omega);unfold ki nM;simp only;refine⟨⟨λh=>by omega,λh=>by omega⟩,by omega⟩
 .rintro ⟨_,h3⟩;simp only at h3;refine⟨c,by rw[List.mem_range];omega,M5.2 ⟨(a,b,0),(pK _ _).2 ⟨⟨λh=>by omega,λ_=>rfl⟩,by simp only;omega⟩,rfl⟩⟩
theorem Ji(d:Nat):(dP 1 d).Nodup:=by simp[dP]
theorem Bg(d:Nat):(dP 2 d).Nodup:=by
 show ((List.range (d+1)).flatMap (λk=>(dP 1 (d-k)).map (ei 1 k))).Nodup;refine uw (λy=>y.2.1) (λk y hy=>?_) (λk=>?_) List.nodup_range
 .obtain⟨x,_,rfl⟩:=M5.1 hy;rfl
 .simp[dP]
theorem Jj(d:Nat):(dP 3 d).Nodup:=by
 show ((List.range (d+1)).flatMap (λk=>(dP 2 (d-k)).map (ei 2 k))).Nodup;refine uw (λy=>y.2.2) (λk y hy=>?_) (λk=>?_) List.nodup_range
 .obtain⟨x,_,rfl⟩:=M5.1 hy;rfl
 .refine List.pairwise_map.2 ((Bg (d-k)).imp_of_mem fun {a b} ha hb hne e=>hne ?_);have h1:=((pK _ _).1 ha).1.2 (by omega);have h2:=((pK _ _).1 hb).1.2 (by omega);obtain⟨x,y,z⟩:=a;obtain⟨x',y',z'⟩:=b;have e1:((x,y,k):Gb.Mo)=(x',y',k):=e;simp only at h1 h2;simp only[Prod.mk.injEq] at e1;rw[e1.1,e1.2.1,h1,h2]
theorem Bh{N:Nat}(hN:N=1\/N=2\/N=3){d:Int}{y:Gb.Mo}:y∈bR N d↔nM N y/\((y.1+y.2.1+y.2.2:Nat):Int)=d:=by
 unfold bR;by_cases h:d<0
 .rw[M9 h];constructor
  .intro hy;simp at hy
  .rintro ⟨_,h2⟩;omega
 .rw[M8 h];have key:y∈dP N d.toNat↔ki N d.toNat y:=by
   rcases hN with rfl|rfl|rfl
   .exact vC _ _
   .exact pK _ _
   .exact Jh _ _
  rw[key];unfold ki;constructor
  .rintro ⟨h1,h2⟩;exact⟨h1,by omega⟩
  .rintro ⟨h1,h2⟩;exact⟨h1,by omega⟩
theorem Bi{N:Nat}(hN:N=1\/N=2\/N=3)(d:Int):(bR N d).Nodup:=by
 unfold bR;split
 .simp
 .rcases hN with rfl|rfl|rfl
  .exact Ji _
  .exact Bg _
  .exact Jj _
def kR(N R:Nat)(ds:List Int)(ess:Nat->List Gb.Mo)(d:Int):Nat->List Gb.Te
 |0=>[]
 |k+1=>kR N R ds ess d k++((bR N (d-ds.getD k 0)).filter λe=>!(ess k).any λl=>dr l e).map λe=>(R-1-k,e)
theorem Bj(N R:Nat)(ds:List Int)(ess:Nat->List Gb.Mo)(d:Int):∀k,(kR N R ds ess d k).length=gz N ds ess d k
 |0=>rfl
 |k+1=>by simp only[kR,gz,M0,M6,Bj N R ds ess d k];rfl
theorem vD{N R:Nat}(hN:N=1\/N=2\/N=3){ds:List Int}{ess:Nat->List Gb.Mo}{d:Int}{s:Gb.Te}:∀k,s∈kR N R ds ess d k↔∃pl,pl<k/\s.1=R-1-pl/\nM N s.2/\((s.2.1+s.2.2.1+s.2.2.2:Nat):Int)=d-ds.getD pl 0/\(ess pl).any (λl=>dr l s.2)=false
 |0=>by simp[kR]
 |k+1=>by
  simp only[kR,MY,vD hN k,M5,Nh,Bh hN];constructor
  .rintro (⟨pl,h1,h2⟩|⟨e,⟨⟨h1,h2⟩,h3⟩,rfl⟩)
   .exact⟨pl,by omega,h2⟩
   .exact⟨k,by omega,rfl,h1,h2,by simpa using h3⟩
  .rintro ⟨pl,h1,h2,h3,h4,h5⟩;by_cases h:pl<k
   .exact Np ⟨pl,h,h2,h3,h4,h5⟩
   .have e:pl=k:=by omega
    subst e;exact Nq ⟨s.2,⟨⟨h3,h4⟩,by simpa using h5⟩,by rw[<-h2]⟩
theorem Bk{N R:Nat}(hN:N=1\/N=2\/N=3){ds:List Int}{ess:Nat->List Gb.Mo}{d:Int}:∀k,k<=R->(kR N R ds ess d k).Nodup
 |0,_=>by simp[kR]
 |k+1,hk=>by simp only[kR];refine List.nodup_append.2 ⟨Bk hN k (by omega),List.Pairwise.map _ (λu v h e=>h (by simpa using e)) ((Bi hN _).filter _),λa ha b hb e=>?_⟩;obtain⟨pl,h1,h2,_⟩:=(vD hN k).1 ha;obtain⟨x,_,rfl⟩:=M5.1 hb;rw[e] at h2;simp only at h2;omega
theorem Bl{p:Int}{dg:Nat->Int}{N R:Nat}{vs:List (List Ft)}{ms:List Mm}{qs:List Pq}{E:Nat->Nat->Prop}{T:Int}(h:Cp p dg N R vs ms qs E T){pl:Nat}(hpl:pl<R)(y:Gb.Mo):(bh ((aT ms R).map Mm.L) pl).any (λl=>dr l y)=true↔∃x∈ms,Gb.a8.dv (ah R x.L) (R-1-pl,y):=by
 have hmem:∀x,x∈aT ms R↔x∈ms/\x.L.pl.toNat<R:=λx=>by
  have key:∀k,x∈aT ms k↔x∈ms/\(∃j,j<k/\x.L.pl=(j:Int)):=by
   intro k;induction k with
   |zero=>simp[aT]
   |succ k ih=>
    simp only[aT,MY,ih,aU,Nh];constructor
    .rintro (⟨h1,j,h2,h3⟩|⟨h1,h2⟩)
     .exact⟨h1,j,by omega,h3⟩
     .exact⟨h1,k,by omega,by simpa using h2⟩
    .rintro ⟨h1,j,h2,h3⟩;by_cases hj:j<k
     .exact Np ⟨h1,j,hj,h3⟩
     .have e:j=k:=by omega
      subst e;exact Nq ⟨h1,by simpa using h3⟩
  rw[key R];constructor
  .rintro ⟨h1,j,h2,h3⟩;exact⟨h1,by omega⟩
  .rintro ⟨h1,h2⟩;have:=h.pls x h1;exact⟨h1,x.L.pl.toNat,h2,by omega⟩
 rw[List.any_eq_true];unfold bh;constructor
 .rintro ⟨l,hl,hd⟩;obtain⟨t,ht,rfl⟩:=M5.1 hl;obtain⟨h1,h2⟩:=Nh.1 ht;obtain⟨x,hx,rfl⟩:=M5.1 h1;refine⟨x,((hmem x).1 hx).1,?_⟩;have hp:x.L.pl=(pl:Int):=by simpa using h2
  unfold dr bV at hd;simp only[Bool.and_eq_true,decide_eq_true_eq] at hd;show _/\_;unfold ah;refine⟨?_,hd.1.1,hd.1.2,hd.2⟩;show R-1-x.L.pl.toNat=R-1-pl;rw[hp];simp
 .rintro ⟨x,hx,hd⟩;have hp:=h.pls x hx;have hd:R-1-x.L.pl.toNat=R-1-pl/\x.L.a.toNat<=y.1/\x.L.b.toNat<=y.2.1/\x.L.d.toNat<=y.2.2:=hd;refine⟨bV x.L,M5.2 ⟨x.L,Nh.2 ⟨M5.2 ⟨x,(hmem x).2 ⟨hx,by omega⟩,rfl⟩,?_⟩,rfl⟩,?_⟩
  .simp only[decide_eq_true_eq];omega
  .unfold dr bV;simp only[Bool.and_eq_true,decide_eq_true_eq];exact⟨⟨hd.2.1,hd.2.2.1⟩,hd.2.2.2⟩
theorem Jk{p:Int}{N R:Nat}(hN:N=1\/N=2\/N=3){ds:List Int}(h0:∀i,0<=ds.getD i 0){d:Int}(hd:0<=d){vs:List (List Ft)}{ms:List Mm}{qs:List Pq}{E:Nat->Nat->Prop}{T:Int}(h:Cp p (λi=>ds.getD i 0) N R vs ms qs E T)(P:Gb.Te->Bool)(hP:∀s,P s=true↔¬∃x∈ms,Gb.a8.dv (ah R x.L) s):((gN N R ds d).filter P).length=gz N ds (bh ((aT ms R).map Mm.L)) d R:=by
 rw[<-Bj N R];refine(List.Perm.length_eq ((List.perm_ext_iff_of_nodup ((zS (by omega) (by omega)).filter _) (Bk hN R (MI _))).2 λs=>?_));rw[Nh,zR (by omega) (by omega) h0 hd,vD hN,hP];obtain⟨i,y⟩:=s;unfold aN dR Gb.bP nT;simp only;constructor
 .rintro ⟨⟨h1,h2,h3⟩,h4⟩;have hz:=h0 (R-1-i);refine⟨R-1-i,by omega,by omega,h3,by omega,?_⟩;rw[<-Bool.not_eq_true,Bl h (by omega),show R-1-(R-1-i)=i by omega];exact h4
 .rintro ⟨pl,h1,h2,h3,h4,h5⟩;have hz:=h0 pl;have e:R-1-i=pl:=by omega
  rw[e];refine⟨⟨by omega,by omega,h3⟩,?_⟩;rw[<-Bool.not_eq_true,Bl h h1,<-h2] at h5;exact h5
structure vE(p:Int)(ds:List Int)(N R:Nat)(g:List (List Tm))(f:List Ft)(D:Int):Prop where
 perm:f.Perm (fQ (λi=>ds.getD i 0) N g R)
 vc:dh p (λi=>ds.getD i 0) N R D f
 hom:kI (λi=>ds.getD i 0) D g
theorem Jl{R:Nat}(φ:Gb.Te->Int){f g:List Ft}(h:f.Perm g):aJ R φ f=aJ R φ g:=by
 induction h with
 |nil=>rfl
 |cons x _ ih=>rw[im,im,ih]
 |swap x y l=>simp only[im];omega
 |trans _ _ i1 i2=>rw[i1,i2]
theorem Bm{p:Int}{dg:Nat->Int}{N R:Nat}(hx:aR p dg N R){g:List (List Tm)}(hg:∀i,∀u∈g.getD i [],u.2.length=N/\∀x∈u.2,0<=x)(φ:Gb.Te->Int):∀k,k<=R->aJ R φ (fQ dg N g k)=mQ (λi=>aq (λe=>φ (eU R i e)) (g.getD i [])) k
 |0,_=>rfl
 |k+1,hk=>by
  simp only[fQ,mQ];rw[rH,Bm hx hg φ k (by omega)];have key:∀l:List Tm,(∀u∈l,u.2.length=N/\∀x∈u.2,0<=x)->aJ R φ (l.map (eQ dg N k))=aq (λe=>φ (eU R k e)) l:=by
   intro l;induction l with
   |nil=>exact λ_=>rfl
   |cons u l ih=>
    intro h;obtain⟨a1,a2⟩:=h u (by simp);obtain⟨g1,e1,e2,e3,e4⟩:=qZ (i:=k) hx a1 a2 (by omega);obtain⟨g2,f1,f2,f3,_⟩:=zF (o:=1) (ov:=1) (R:=R) (i:=k) hx.n0 hx.n3 a1 a2 (Int.le_refl _) (by omega);have et:ah R (eQ dg N k u)=eU R k u.2:=by rw[e4,Jm hx.n0 hx.n3 g2,f1,f3];simp
    rw[List.map_cons,im,ih λx hx=>h x (by simp[hx]),e2,et];simp[aq]
  rw[key _ (hg k)]
theorem Bn{f:Nat->Int}{j:Nat}:∀k,j<k->(∀i,i<k->i≠j->f i=0)->mQ f k=f j
 |k+1,hj,h=>by
  simp only[mQ];by_cases e:j=k
  .subst e;have hz:∀m,m<=j->mQ f m=0:=by
    intro m;induction m with
    |zero=>exact λ_=>rfl
    |succ m ih=>intro hm;simp only[mQ];rw[ih (by omega),h m (by omega) (by omega)];rfl
   rw[hz j (MI _)];omega
  .rw[Bn k (by omega) λi hi hne=>h i (by omega) hne,h k (by omega) (by omega)];omega
theorem Jn{p o:Int}{N:Nat}{f:List Tm}(h:eB p o N f)(m:List Int):gA f m=aq (λe=>if e=m then 1 else 0) f:=by
 have key:∀(f:List Tm)(a:Int),iu o f->(∀t∈f,t.2=m->a=0)->f.foldl (λa t=>if fR t.2 m=true then t.1 else a) a=a+aq (λe=>if e=m then 1 else 0) f:=by
  intro f;induction f with
  |nil=>intro a _ _;simp[aq]
  |cons t f ih=>
   intro a hf ha;rw[List.foldl_cons];by_cases e:t.2=m
   .have hs:fR t.2 m=true:=by unfold fR;simpa using e
    rw[M9 hs,ha t (by simp) e];have hno:∀u∈f,¬u.2=m:=λu hu e2=>by have:=hf.1 u hu;rw[e,e2,(lI o m m rfl).2 rfl] at this;omega
    have h2:=ih t.1 hf.2 (λu hu e2=>absurd e2 (hno u hu));rw[h2];simp only[aq,M9 e];omega
   .have hs:¬fR t.2 m=true:=by unfold fR;simpa using e
    rw[M8 hs,ih a hf.2 (λu hu e2=>ha u (by simp[hu]) e2)];simp only[aq,M8 e];omega
 have:=key f 0 h.falls (λ_ _ _=>rfl);unfold gA;rw[this];omega
theorem Jo{p o:Int}{N:Nat}{g:List (List Tm)}(hg:∀f∈g,cL p o N f):∀i,∀u∈g.getD i [],u.2.length=N/\∀x∈u.2,0<=x:=λi u hu=>by
 have hi:i<g.length:=by apply M7;intro hle;rw[MV,MX hle] at hu;simp at hu
 have hm:g.getD i []∈g:=by rw[MV,MW hi];exact MS hi
 exact⟨(hg _ hm).canon.len u hu,λx hx=>((hg _ hm).bd u hu x hx).1⟩
theorem Bo{φ:List Int->Int}:∀{f:List Tm},(∀t∈f,φ t.2=0)->aq φ f=0
 |[],_=>rfl
 |t::f,h=>by simp only[aq];rw[h t (by simp),Bo λu hu=>h u (by simp[hu])];omega
theorem Bp{φ ψ:List Int->Int}:∀{f:List Tm},(∀t∈f,φ t.2=ψ t.2)->aq φ f=aq ψ f
 |[],_=>rfl
 |t::f,h=>by simp only[aq];rw[h t (by simp),Bp λu hu=>h u (by simp[hu])]
theorem Jp{p o:Int}(hp:2<=p){ds:List Int}{N R:Nat}(hx:aR p (λi=>ds.getD i 0) N R){g:List (List Tm)}(hgl:g.length=R)(hg:∀f∈g,cL p o N f){f:List Ft}{D:Int}(hf:vE p ds N R g f D){m mc:List Int}(hm:m.length=N)(hmn:∀x∈m,0<=x){pc:Nat}(hpc:pc<R)(hc:mc.length=N)(hcn:∀x∈mc,0<=x):p∣gA ((dG p o [(1,m)] g).getD pc []) mc-aJ R (λu=>Gb.dl (eU R pc mc) (Gb.aC (fq m) u)) f:=by
 have hgd:=Jo hg;rw[vA (by omega),Jl _ hf.perm,Bm hx hgd _ R (MI _)];have hmem:g.getD pc []∈g:=by rw[MV,MW (by omega)];exact MS _
 rw[Jn (vy hp hm (hg _ hmem))];have hact:∀i,i<R->∀u∈g.getD i [],Gb.aC (fq m) (eU R i u.2)=eU R i (aY (·+·) m u.2):=λi hi u hu=>by obtain⟨a1,a2⟩:=hgd i u hu;rw[Jq hx.n3 hm a1 hmn a2]
 have hzl:∀i,∀u∈g.getD i [],(aY (·+·) m u.2).length=N/\∀x∈aY (·+·) m u.2,0<=x:=λi u hu=>by
  obtain⟨a1,a2⟩:=hgd i u hu;refine⟨by rw[jz _ _ _ (by rw[hm,a1]),hm],λx hxm=>?_⟩;obtain⟨k,hk,e⟩:=Nu.1 hxm;rw[jz _ _ _ (by rw[hm,a1])] at hk;have e2:=oW (·+·) m u.2 (by rw[hm,a1]) k hk
  rw[MV,MW (by rw[jz _ _ _ (by rw[hm,a1])];exact hk)] at e2;simp only[Option.getD_some] at e2;rw[<-e,e2];have b1:=hmn _ (fh m k hk);have b2:=a2 _ (fh u.2 k (by omega));show 0<=m.getD k 0+u.2.getD k 0;omega
 rw[Bn (j:=pc) R hpc λi hi hne=>Bo λu hu=>by
  rw[hact i hi u hu];unfold Gb.dl;rw[M8];intro e;exact hne (uy hx.n3 hi hpc (hzl i u hu).1 hc (hzl i u hu).2 hcn e).1]
 have e1:aq (λe=>Gb.dl (eU R pc mc) (Gb.aC (fq m) (eU R pc e))) (g.getD pc [])=aq (λb=>if aY (·+·) m b=mc then (1:Int) else 0) (g.getD pc []):=Bp λu hu=>by
  rw[hact pc hpc u hu];unfold Gb.dl;by_cases e:aY (·+·) m u.2=mc
  .rw[M9 (by rw[e])];exact(M9 e).symm
  .rw[M8 (λh=>e (uy hx.n3 hpc hpc (hzl pc u hu).1 hc (hzl pc u hu).2 hcn h).2)];exact(M8 e).symm
 rw[e1];obtain⟨a,ha⟩:=vF p o (λe=>if e=mc then (1:Int) else 0) (bk p [(1,m)] (g.getD pc []));obtain⟨b,hb⟩:=vG p (λe=>if e=mc then (1:Int) else 0) (1,m) (g.getD pc []);have e2:bk p [(1,m)] (g.getD pc [])=eK p (1,m) (g.getD pc []):=by simp[bk]
 rw[e2] at ha;simp only at hb;rw[e2];exact⟨a+b,by rw[Int.mul_add];omega⟩
theorem Bq{p o:Int}{ds:List Int}{N R:Nat}(hx:aR p (λi=>ds.getD i 0) N R){g:List (List Tm)}(hgl:g.length=R)(hg:∀f∈g,cL p o N f){f:List Ft}{D:Int}(hf:vE p ds N R g f D):(f=[]->eF (aV ds g g.length)=5)/\(f≠[]->eF (aV ds g g.length)=0/\fK (aV ds g g.length)=D):=by
 have hall:∀x∈aV ds g g.length,x=D:=λx hxm=>by unfold aV at hxm;rw[Nt] at hxm;obtain⟨i,hi,hxm⟩:=hxm;unfold cR at hxm;obtain⟨t,ht,rfl⟩:=M5.1 hxm;have h1:aj t.2+ds.getD i 0=D:=hf.hom i t ht;omega
 have hlen:∀k,k<=R->((fQ (λi=>ds.getD i 0) N g k).length=(aV ds g k).length):=by
  intro k;induction k with
  |zero=>exact λ_=>rfl
  |succ k ih=>intro hk;rw[pL];simp only[fQ,M0,M6];rw[ih (by omega)];simp[cR]
 have hl:=hlen R (MI _);rw[<-hf.perm.length_eq,<-hgl] at hl;constructor
 .intro e;rw[e] at hl;have:aV ds g g.length=[]:=Nk.1 hl.symm;rw[this];rfl
 .intro hne;cases e:aV ds g g.length with
  |nil=>rw[e] at hl;exact absurd (Nk.1 hl) hne
  |cons z zs=>
   rw[e] at hall;have hz:=hall z (by simp);have ha:zs.all (λy=>y==z)=true:=List.all_eq_true.2 λy hy=>by rw[hall y (by simp[hy]),hz];simp
   rw[mR,n4,M9 ha,M9 ha];exact⟨rfl,hz⟩
def iw(p o:Int)(N:Nat)(ds:List Int)(d:Int)(cols:List (Nat×List Int)):Nat->List (List (List Tm)×List Ft)->List (List Int×(Nat×Gb.Mo))
 |_,[]=>[]
 |i,(g,f)::l=>if f=[] then iw p o N ds d cols i l else (ba N (d-fK (aV ds g g.length))).map (λm=>(fT cols (dG p o [(1,m)] g),(i,fq m)))++iw p o N ds d cols (i+1) l
theorem Br{p:Int}{dg:Nat->Int}{R:Nat}{fss:List (List Ft)}{i:Nat}{f:List Ft}(h:fss[i]?=some f)(φ:Gb.Te->Int)(y:Gb.Mo):Gb.ev (az p dg R fss) φ [(1,y,i)]=aJ R (λu=>φ (Gb.aC y u)) f:=by
 simp only[Gb.ev];have e:(az p dg R fss).g i=dp R f:=by show dp R _=_;rw[dJ h]
 rw[e];show 1*Gb.ln (λu=>φ (Gb.aC y u)) (dp R f)+0=_;rw[Int.one_mul,Int.add_zero];rfl
theorem Bt{N:Nat}(h1:0<N){x:Int}{m:List Int}(hm:m∈ba N x):0<=x/\m.length=N/\(∀e∈m,0<=e)/\aj m=x:=by
 have hx0:0<=x:=by apply Int.not_lt.1;intro h;rw[pp h] at hm;simp at hm
 have hok:=pt N x hx0 m hm;exact⟨hx0,jV N x m hm,λe he=>(hok.1 e he).1,hok.2 h1⟩
structure vH(p o:Int)(ds:List Int)(N R:Nat)(e:List (List Tm)×List Ft):Prop where
 fl:∃D,vE p ds N R e.1 e.2 D
 len:e.1.length=R
 right:∀f∈e.1,cL p o N f
theorem vI{p o:Int}(hp:2<=p){ds:List Int}{N R:Nat}(hx:aR p (λi=>ds.getD i 0) N R){d:Int}(hd:0<=d):∀(l:List (List (List Tm)×List Ft)) (pre:List (List Ft)),(∀e∈l,vH p o ds N R e)->(∀e∈iw p o N ds d (bH N ds d R) pre.length l,mt (az p (λi=>ds.getD i 0) R (pre++b9 (l.map Prod.snd))) N (pre++b9 (l.map Prod.snd)).length d.toNat [(1,e.2.2,e.2.1)]/\∀j (hj:j<(gN N R ds d).length),p∣e.1.getD j 0-Gb.ev (az p (λi=>ds.getD i 0) R (pre++b9 (l.map Prod.snd))) (Gb.dl (gN N R ds d)[j]) [(1,e.2.2,e.2.1)])/\(∀i y,pre.length<=i->mt (az p (λi=>ds.getD i 0) R (pre++b9 (l.map Prod.snd))) N (pre++b9 (l.map Prod.snd)).length d.toNat [(1,y,i)]->∃r,(r,(i,y))∈iw p o N ds d (bH N ds d R) pre.length l)
 |[],pre,_=>by refine⟨λe he=>by simp[iw] at he,λi y hi hm=>?_⟩;have:=(hm (1,y,i) (by simp)).1;simp[b9] at this;omega
 |(g,f)::l,pre,h=>by
  have hh:=h (g,f) (by simp);obtain⟨D,hfl⟩:=hh.fl;simp only at hfl;have hdeg:=Bq hx hh.len hh.right hfl;cases f with
  |nil=>
   have ih:=vI hp hx hd l pre λe he=>h e (by simp[he]);have e1:b9 (((g,([]:List Ft))::l).map Prod.snd)=b9 (l.map Prod.snd):=by simp[b9]
   have e2:iw p o N ds d (bH N ds d R) pre.length ((g,[])::l)=iw p o N ds d (bH N ds d R) pre.length l:=by simp[iw]
   rw[e1,e2];exact ih
  |cons t ts=>
   have ih:=vI hp hx hd l (pre++[t::ts]) λe he=>h e (by simp[he]);have e1:pre++b9 (((g,t::ts)::l).map Prod.snd)=(pre++[t::ts])++b9 (l.map Prod.snd):=by simp[b9]
   have hV:=(hdeg.2 (by simp)).2;have e2:iw p o N ds d (bH N ds d R) pre.length ((g,t::ts)::l)=(ba N (d-D)).map (λm=>(fT (bH N ds d R) (dG p o [(1,m)] g),(pre.length,fq m)))++iw p o N ds d (bH N ds d R) (pre++[t::ts]).length l:=by simp only[iw];rw[M8 (by simp),hV,M0];rfl
   rw[e1,e2];have hat:(pre++[t::ts]++b9 (l.map Prod.snd))[pre.length]?=some (t::ts):=by simp
   have hlt:pre.length<(pre++[t::ts]++b9 (l.map Prod.snd)).length:=by simp
   have hld:(az p (λi=>ds.getD i 0) R (pre++[t::ts]++b9 (l.map Prod.snd))).ld pre.length=ah R t:=by show il R _=_;rw[dJ hat];rfl
   have hgt:=hfl.vc.gd t (by simp);have hts:=hgt.ts hx;have hD0:=(hgt.bd hx).2.1;refine⟨λe he=>?_,λi y hi hm=>?_⟩
   .rcases MY.1 he with he|he
    .obtain⟨m,hm,rfl⟩:=M5.1 he;obtain⟨hx0,m1,m2,m3⟩:=Bt hx.n0 hm;have hs3:=zN hx.n0 hx.n3 m1 m2;refine⟨λr hr=>?_,λj hj=>?_⟩
     .rw[MZ] at hr;subst hr;refine⟨hlt,hs3.2,?_⟩;simp only;rw[hld,hts.1];omega
     .simp only;rw[Br hat];have hjc:j<(bH N ds d R).length:=by unfold gN at hj;simpa using hj
      have hcm:=(mz R).1 (MS hjc);obtain⟨_,c1,c2,_⟩:=Bt hx.n0 hcm.2;have eT:(gN N R ds d)[j]=eU R (bH N ds d R)[j].1 (bH N ds d R)[j].2:=by simp[gN]
      have eR:(fT (bH N ds d R) (dG p o [(1,m)] g)).getD j 0=gA ((dG p o [(1,m)] g).getD (bH N ds d R)[j].1 []) (bH N ds d R)[j].2:=by unfold fT;simp[MV,hjc]
      rw[eT,eR];exact Jp hp hx hh.len hh.right hfl m1 m2 hcm.1 c1 c2
    .exact ih.1 e he
   .by_cases hip:i=pre.length
    .subst hip;obtain⟨_,h2,h3⟩:=hm (1,y,pre.length) (by simp);simp only at h2 h3;rw[hld,hts.1] at h3;obtain⟨l1,l2,l3,l4⟩:=zO hx.n0 hx.n3 h2;have hmem:gM N y∈ba N (d-D):=uv hx.n0 (by omega) l1 l2 (by rw[l4];omega);exact⟨_,List.mem_append_left _ (M5.2 ⟨gM N y,hmem,by rw[l3]⟩)⟩
    .obtain⟨r,hr⟩:=ih.2 i y (by simp;omega) hm;exact⟨r,List.mem_append_right _ hr⟩
theorem vJ{p o:Int}{ds:List Int}{N R:Nat}(hx:aR p (λi=>ds.getD i 0) N R){d:Int}{cols:List (Nat×List Int)}:∀(l:List (List (List Tm)×List Ft)) (i:Nat),(∀e∈l,vH p o ds N R e)->(iw p o N ds d cols i l).map Prod.fst=(l.map Prod.fst).flatMap (gW p o N ds d cols)
 |[],_,_=>rfl
 |(g,f)::l,i,h=>by
  have hh:=h (g,f) (by simp);obtain⟨D,hfl⟩:=hh.fl;simp only at hfl;have hdeg:=Bq hx hh.len hh.right hfl;rw[List.map_cons,List.flatMap_cons];simp only[iw];by_cases hf:f=[]
  .rw[M9 hf,vJ hx l i λe he=>h e (by simp[he])];unfold gW;rw[hdeg.1 hf,M8 (by decide)];rfl
  .rw[M8 hf,Nd,List.map_map,vJ hx l (i+1) λe he=>h e (by simp[he])];unfold gW;rw[(hdeg.2 hf).1,M9 rfl];rfl
theorem Jr{p:Int}{dg:Nat->Int}{N R:Nat}(hx:aR p dg N R){Q:Int}(hQ:Q<=16000){vs vs':List (List Ft)}(h:i9 p dg N R Q vs')(hs:∀v∈vs,v∈vs'):∀i,(az p dg R vs).live i->Gb.Vb (az p dg R vs') (λs=>aN dg R s=aN dg R ((az p dg R vs).ld i)) λφ=>Gb.ln φ ((az p dg R vs).g i):=λi hi=>by
 obtain⟨t,r,h1,_⟩:=hi;obtain⟨j,hj,e⟩:=Nu.1 (hs _ (List.mem_of_getElem? h1));have h2:vs'[j]?=some (t::r):=by rw[MW hj,e]
 have hl:(az p dg R vs').live j:=zg hx hQ h hj;have e1:(az p dg R vs).ld i=ah R t:=by show il R _=_;rw[dJ h1];rfl
 have e2:(az p dg R vs').ld j=ah R t:=by show il R _=_;rw[dJ h2];rfl
 have e3:(az p dg R vs).g i=dp R (t::r):=by show dp R _=_;rw[dJ h1]
 refine⟨[(1,(0,0,0),j)],λx hxm=>?_,λφ=>⟨0,?_⟩⟩
 .rw[MZ] at hxm;subst hxm;refine⟨hl,?_⟩;show aN dg R (Gb.aC (0,0,0) _)=_;rw[kD,e1,e2];rfl
 .rw[Br h2,e3];have e4:(λu=>φ (Gb.aC (0,0,0) u))=φ:=by funext u;obtain⟨a,b,c,d⟩:=u;simp[Gb.aC]
  rw[e4];show aJ R φ (t::r)-aJ R φ (t::r)=p*0;omega
theorem Cp.list{p:Int}{dg:Nat->Int}{N R:Nat}(hx:aR p dg N R){vs vs':List (List Ft)}{ms:List Mm}{qs:List Pq}{E:Nat->Nat->Prop}{T:Int}(h:Cp p dg N R vs ms qs E T)(hs:∀v,v∈vs↔v∈vs'):Cp p dg N R vs' ms qs E T:=
 have hv:i9 p dg N R 9 vs':=λv hm=>h.vb v ((hs v).2 hm)
 ⟨h.inv,h.nd,h.pr,h.mb,h.ng,h.anti,hv,λx hxm D hD=>qP (Jr hx (by omega) hv λv hm=>(hs v).1 hm) (h.mx x hxm D hD),λv hm=>h.my v ((hs v).2 hm),h.ql⟩
theorem rT{p o:Int}{N R:Nat}(hN:N=1\/N=2\/N=3){ds:List Int}(hR:ds.length=R)(hx:aR p (λi=>ds.getD i 0) N R)(h0:∀i,0<=ds.getD i 0){d:Int}(hd:0<=d){lss:List (List (List Tm))}(hl:∀g∈lss,g.length=R)(hr:∀g∈lss,∀f∈g,cL p o N f){fls:List (List Ft)}(hv:kJ p ds N R lss fls){vs:List (List Ft)}(hp:vs.Perm (b9 fls)){ms:List Mm}{E:Nat->Nat->Prop}{T:Int}(h:Cp p (λi=>ds.getD i 0) N R vs ms [] E T)(hE:dT p (λi=>ds.getD i 0) R ms E):(gz N ds (bh ((aT ms R).map Mm.L)) d R:Int)=eo p o N ds lss d:=by
 obtain⟨pn,rfl⟩:∃pn:Nat,p=pn:=⟨p.toNat,by have:=eO hx.pr;omega⟩;have hpo:=oR hx.pr;have hpr:dQ pn pn=true:=by have:=hpo.2.2;simpa [ko] using this
 have hp2:2<=pn:=by omega
 have hp101:pn<=101:=by omega
 have h':=h.list hx (vs':=b9 fls) λv=>hp.mem_iff;have hls:∀e∈lss.zip fls,vH (pn:Int) o ds N R e:=λe he=>by
  obtain⟨i,hi,e2⟩:=Nu.1 he;rw[List.length_zip] at hi;have hi1:i<lss.length:=by omega
  have hi2:i<fls.length:=by omega
  rw[List.getElem_zip] at e2;obtain⟨hper,D,_,hvc,hho⟩:=hv.at_ i hi1;rw[MV,MW hi2] at hper hvc;rw[MV,MW hi1] at hper hho;simp only[Option.getD_some] at hper hvc hho;rw[<-e2];exact⟨⟨D,hper,hvc,hho⟩,hl _ (MS hi1),hr _ (MS hi1)⟩
 have hz1:(lss.zip fls).map Prod.fst=lss:=by rw[List.map_fst_zip];rw[hv.len];exact MI _
 have hz2:(lss.zip fls).map Prod.snd=fls:=by rw[List.map_snd_zip];rw[hv.len];exact MI _
 have hok:=vI (o:=o) (by omega) hx hd (lss.zip fls) [] hls;have hrw:=vJ (o:=o) hx (d:=d) (cols:=bH N ds d R) (lss.zip fls) 0 hls;rw[hz2] at hok;rw[hz1] at hrw;simp only[List.nil_append,List.length_nil] at hok;have hrc:(iw (pn:Int) o N ds d (bH N ds d R) 0 (lss.zip fls)).map Prod.fst=iH (pn:Int) o N ds d lss:=by rw[hrw];unfold iH;rw[hR]
 generalize hPL:iw (pn:Int) o N ds d (bH N ds d R) 0 (lss.zip fls)=PL at hok hrc;have hRW:t8 (az (pn:Int) (λi=>ds.getD i 0) R (b9 fls)) N (b9 fls).length d.toNat (gN N R ds d) (PL.map Prod.snd) (iH (pn:Int) o N ds d lss):=by
  rw[<-hrc];refine⟨by rw[M6,M6],λk hk=>?_,λi y hm=>?_,λk hk j hj=>?_⟩
  .rw[M6] at hk;have:=(hok.1 PL[k] (MS hk)).1;simpa using this
  .obtain⟨r,hr2⟩:=hok.2 i y (MP _) hm;exact M5.2 ⟨_,hr2,rfl⟩
  .rw[M6] at hk;have h2:=(hok.1 PL[k] (MS hk)).2 j hj;have e:Uf (PL.map Prod.fst) k j=PL[k].1.getD j 0:=by unfold Uf;simp[MV,hk]
   rw[e];simpa using h2
 have hT:=zR (R:=R) hx.n0 hx.n3 h0 hd;have hrow:∀r∈iH (pn:Int) o N ds d lss,df pn (gN N R ds d).length r:=λr hm=>by
  have hl2:(gN N R ds d).length=(bH N ds d ds.length).length:=by unfold gN;rw[M6,hR]
  rw[hl2];exact Bf (by omega) hr r hm
 obtain⟨P,hP⟩:∃P:Gb.Te->Bool,∀s,P s=true↔¬∃x∈ms,Gb.a8.dv (ah R x.L) s:=⟨λs=>@decide (¬∃x∈ms,Gb.a8.dv (ah R x.L) s) (Classical.propDecidable _),λs=>by simp⟩;have hfin:=EQ hp2 hp101 hpr hx h' hE hT (zS hx.n0 hx.n3) hRW hrow P hP;rw[Jk hN h0 hd h' P hP] at hfin;unfold eo;have hl2:(gN N R ds d).length=(bH N ds d ds.length).length:=by unfold gN;rw[M6,hR]
 rw[hl2] at hfin;omega
end Go.Proofs.YteimdcndjjclnaaGreat
