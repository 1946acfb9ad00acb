/- Divisor of the reference. -/
import Derived.Test.YtglijodcbdcngaaGreatYE
import Derived.Test.YtglijodcbdcngaaGreatZN
import Derived.Test.YtglijodcbdcngaaGreatXV
import Derived.Test.YtglijodcbdcngaaGreatNH
set_option maxHeartbeats 4000000
set_option maxRecDepth 100000
namespace Go.Proofs.YtglijodcbdcngaaGreat
set_option linter.unusedSimpArgs false
set_option linter.unusedVariables false
open Go.Proofs.Tryz Go.RowKit
def jz(o ov:Int)(lss:List (List (List Tm)))(j:Nat)(e:List Int):Int:=
 match d9 o ov lss j e with
 |none=>-1
 |some i=>(i:Int)
def TB(w:World)(bb:Nat)(c:Int)(ev:Value):Prop:=w.cell? ⟨bb,0,none⟩=some (.int .i64 c)/\w.cell? ⟨bb,1,none⟩=some ev
theorem TB.below{w w':World}{bb:Nat}{c:Int}{ev:Value}(h:TB w bb c ev)(hb:Below w.heap.size w w'):TB w' bb c ev:=⟨ae h.1 hb,ae h.2 hb⟩
theorem fU(w:World)(c:Int)(ev:Value):TB (w.alloc (.cells #[.int .i64 c,ev] 54)) w.heap.size c ev:=by
 have h:∀j u,#[Value.int .i64 c,ev][j]?=some u->(w.alloc (.cells #[.int .i64 c,ev] 54)).cell? ⟨w.heap.size,j,none⟩=some u:=λj u hu=>by unfold World.cell?;rw[show (w.alloc (.cells #[.int .i64 c,ev] 54)).heap[w.heap.size]?=some (.cells #[.int .i64 c,ev] 54 (0,0)) from heap_alloc_new w _];simpa using hu
 exact⟨h 0 _ rfl,h 1 _ rfl⟩
def TZ(w:World)(bb:Nat):Prop:=w.ownsRow bb 54 2 (.slice (some ⟨bb,0,none⟩) 1 1) 1 [.int .i64 0,.slice none 0 0]
theorem ig(w:World):TZ (w.alloc (.cells #[.int .i64 0,.slice none 0 0] 54)) w.heap.size:=
 ⟨by simp,.inr ⟨w.heap.size,1,_,rfl,He _,heap_alloc_new w _,He _,by decide,by simp,by simp⟩⟩
theorem TZ.below{w w':World}{bb:Nat}(h:TZ w bb)(hb:Below w.heap.size w w'):TZ w' bb:=aH h hb
theorem TZ.put{w:World}{bb:Nat}(h:TZ w bb)(c:Int)(ev:Value):TB ((w.setCell ⟨bb,0,none⟩ (.int .i64 c)).setCell ⟨bb,1,none⟩ ev) bb c ev:=by have s1:=h.stored 0 (.int .i64 c);have s2:=s1.1.stored 1 ev;have x0:=s2.1.cellAt 0 (by simp);have x1:=s2.1.cellAt 1 (by simp);exact⟨by simpa using x0,by simpa using x1⟩
theorem E9{o ov:Int}{lss:List (List (List Tm))}{j:Nat}{e:List Int}(h:∀m,m<lss.length->fB o ov j e (lss.getD m [])=false):jz o ov lss j e=-1:=by
 have:d9 o ov lss j e=none:=by unfold d9;rw[List.findIdx?_eq_none_iff];intro g hg;obtain⟨m,hm,rfl⟩:=List.getElem_of_mem hg;have:=h m hm;simpa [Hs,hm] using this
 unfold jz;rw[this]
theorem Fa{o ov:Int}{lss:List (List (List Tm))}{j:Nat}{e:List Int}{k:Nat}(hk:k<lss.length)(h:∀m,m<k->fB o ov j e (lss.getD m [])=false)(h2:fB o ov j e (lss.getD k [])=true):jz o ov lss j e=k:=by
 have:d9 o ov lss j e=some k:=by
  unfold d9;rw[List.findIdx?_eq_some_iff_getElem];refine⟨hk,by simpa [Hs,hk] using h2,λm hm=>?_⟩;have:=h m hm;have hml:m<lss.length:=by omega
  simpa [Hs,hml] using this
 unfold jz;rw[this]
theorem Fb{o ov:Int}{j:Nat}{e:List Int}{g:List (List Tm)}(h:aq o ov g g.length=none):fB o ov j e g=false:=by unfold fB;rw[h]
theorem xZ{o ov:Int}{j:Nat}{e:List Int}{g:List (List Tm)}{k:Nat}{u:Tm}(h:aq o ov g g.length=some (k,u)):fB o ov j e g=(decide (k=j)&& !fk e u.2):=by unfold fB;rw[h]
theorem Ei(p n o v:Int)(N j:Nat)(lv te:Value)(c:Int)(lss:List (List (List Tm)))(e:List Int)(w:World)(hov:v=1\/v=2)(ho:o=1\/o=2)(hN0:0<N)(hN:N<=3)(hL:lss.length<=60)(hr:∀g∈lss,g.length<=1000/\∀f∈g,cN p o N f)(hl:Wl w lv lss)(he:e.length=N)(ht:Sl w te e):Calls prog 70 #[az p n o v,lv,.int .i64 (j:Int),.agg #[.int .i64 c,te]] w λx w'=>x=.returned (.int .i64 (jz o v lss j e))/\Below w.heap.size w w':=by
 have HR:=aa hr;have HY:=aa hl;have HT:=aa ht;have HE:=aa he;have HOV:=aa hov;have HO:=aa ho;obtain⟨ly,lc,rfl,_⟩:=hl;obtain⟨ta,tc,rfl,hta⟩:=ht;obtain⟨tb,toff,rfl,_,htc⟩:=hta (by omega);obtain⟨w1,hw1⟩:∃w1,w1=w.alloc (.cells #[.int .i64 p,.int .i64 n,.int .i64 o,.int .i64 v] 23):=⟨_,rfl⟩;obtain⟨w2,hw2⟩:∃w2,w2=w1.alloc (.cells #[.int .i64 c,.slice (some ⟨tb,toff,none⟩) e.length tc] 54):=⟨_,rfl⟩;have hs1:w1.heap.size=w.heap.size+1:=by rw[hw1];simp
 have HB1:Ic (Below w.heap.size w w1):=by rw[hw1];exact af
 have HB12:Ic (Below w1.heap.size w1 w2):=by rw[hw2];exact af
 have HB2:Ic (Below w.heap.size w w2):=HB1.o.trans (HB12.o.mono HB1.o.size);have HX2:Ic (aX w2 w.heap.size p n o v):=by
  have h:aX w1 w.heap.size p n o v:=by rw[hw1];exact aX.new w p n o v _
  exact h.below HB12.o
 have HT2:Ic (TB w2 (w.heap.size+1) c (.slice (some ⟨tb,toff,none⟩) e.length tc)):=by show TB _ _ _ _;rw[hw2,<-hs1];exact fU w1 c _
 clear hr ho hov hta he htc hs1;unfold az;go_enter func70,ntmps70;go_wp2_with fail;rw[<-hw1,<-hw2];clear hw1 hw2;go_loopw [9] (λi wr=>∃k:Nat,k<=lss.length/\i=.int .i64 k/\(∀m,m<k->fB o v j e (lss.getD m [])=false)/\Below w2.heap.size w2 wr) (λi _=>lss.length-(intOf i).toNat);case atStart=>exact⟨0,Hl _,rfl,λm hm=>by omega,Hf _ _⟩
 case round=>
  obtain⟨k,hk,rfl,hno,hbr⟩:=hrel;have HNO:=aa hno;have HBR:=aa hbr;clear hno hbr;by_cases hk2:k<lss.length
  ·obtain⟨b2,off2,va,vc,rfl,hlt2,d0,hpv⟩:=jd HY.o k hk2;have HRK:=aa (HR.o _ (de lss k hk2));have HIT:=aa (fun(h:fB o v j e (lss.getD k [])=true)=>Fa hk2 HNO.o h);have HIF:Ic (fB o v j e (lss.getD k [])=false->∀m,m<k+1->fB o v j e (lss.getD m [])=false):=λh m hm=>by
    rcases Nat.lt_or_ge m k with h1|h1
    ·exact HNO.o m h1
    ·have:m=k:=by omega
     subst this;exact h
   generalize lss.getD k []=g at d0 hpv HRK HIT HIF;have HLE:Ic (∀W,Below w2.heap.size w2 W->Calls prog 27 #[az p n o v,.slice va g.length vc] W λe w'=>∃ea ec,e=.returned (.tuple #[.int .i64 (dV (aq o v g g.length)),.agg #[.int .i64 (dk (aq o v g g.length)),.slice ea (ce (aq o v g g.length)).length ec]])/\Sl w2 (.slice ea (ce (aq o v g g.length)).length ec) (ce (aq o v g g.length))/\Below W.heap.size W w'):=λW hb=>kY w2 p n o v N _ g W hb HOV.o HO.o hN0 hN HRK.o.1 HRK.o.2 (hpv.below HB2.o)
   unfold az at HLE;have HLU:Ic (∀q u,aq o v g g.length=some (q,u)->u.2.length=N):=λq u h=>by obtain⟨h1,us,h2⟩:=dJ h;have hr:=HRK.o.2 _ (cG g q (by omega));rw[h2] at hr;exact hr.canon.len u (by simp)
   have HDN:=aa (fun(h:aq o v g g.length=none)=>Fb (j:=j) (e:=e) h);have HDS:=aa (λq u (h:aq o v g g.length=some (q,u))=>xZ (j:=j) (e:=e) h);generalize aq o v g g.length=L at HLE HLU HDN HDS;obtain⟨_,bx0,bx1,bx2,bx3⟩:=HX2.o;have hd0:=ae d0 HB2.o;have KEEP:Ic (∀W,Below w2.heap.size w2 W->(Ic (Below w2.heap.size w2 W)/\W.cell? ⟨w.heap.size,0,none⟩=some (.int .i64 p)/\W.cell? ⟨w.heap.size,1,none⟩=some (.int .i64 n)/\W.cell? ⟨w.heap.size,2,none⟩=some (.int .i64 o)/\W.cell? ⟨w.heap.size,3,none⟩=some (.int .i64 v)/\W.cell? ⟨b2,off2+k,none⟩=some (.slice va g.length vc))):=
    λW hb=>⟨hb,ae bx0 hb,ae bx1 hb,ae bx2 hb,ae bx3 hb,ae hd0 hb⟩
   have HB0:Ic (Below w2.heap.size w2 wr.drew):=HBR.o.drew;have HBA:Ic (Below w2.heap.size w2 (wr.drew.alloc (.cells #[.int .i64 0,.slice none 0 0] 54))):=HBR.o.drew.trans (af.mono HBR.o.size);have HBB:Ic (Below w2.heap.size w2 (wr.alloc (.cells #[.int .i64 0,.slice none 0 0] 54)).drew):=(HBR.o.trans (af.mono HBR.o.size)).drew;have HZA:Ic (TZ (wr.drew.alloc (.cells #[.int .i64 0,.slice none 0 0] 54)) wr.heap.size):=ig wr.drew;have HZB:Ic (TZ (wr.alloc (.cells #[.int .i64 0,.slice none 0 0] 54)).drew wr.heap.size):=(ig wr).below (Hf _ _).drew;have LAYB:Ic (∀w8 (v0 v1:Value),Below w2.heap.size w2 w8->Below w2.heap.size w2 ((w8.setCell ⟨wr.heap.size,0,none⟩ v0).setCell ⟨wr.heap.size,1,none⟩ v1)):=λw8 v0 v1 h=>(h.setCell HBR.o.size _).setCell HBR.o.size _;clear bx0 bx1 bx2 bx3 d0 hd0 hpv;go_upto_region 4 with fail;go_cut [10,11] from 18 to 26 (λs10 s11 wx=>∃(bb:Nat)(ea:Option Addr)(ec:Nat),s10=.int .i64 (dV L)/\s11=.pointer (some ⟨bb,0,none⟩)/\Below w2.heap.size w2 wx/\TB wx bb (dk L) (.slice ea (ce L).length ec)/\Sl w2 (.slice ea (ce L).length ec) (ce L))
   case first=>
    go_region_held (λW=>Ic (Below w2.heap.size w2 W)/\W.cell? ⟨w.heap.size,0,none⟩=some (.int .i64 p)/\W.cell? ⟨w.heap.size,1,none⟩=some (.int .i64 n)/\W.cell? ⟨w.heap.size,2,none⟩=some (.int .i64 o)/\W.cell? ⟨w.heap.size,3,none⟩=some (.int .i64 v)/\W.cell? ⟨b2,off2+k,none⟩=some (.slice va g.length vc))
     (first|with_reducible exact KEEP.o _ HB0.o|with_reducible exact KEEP.o _ HBA.o|with_reducible exact KEEP.o _ HBB.o|with_reducible exact KEEP.o _ HB8.o|with_reducible exact KEEP.o _ (HB8.o.trans (af.mono HB8.o.size))|with_reducible exact KEEP.o _ (LAYB.o _ _ _ HB8.o))
     (first|(go_at_call 27;refine(HLE.o _ HB0.o).mono ?_;rintro e8 w8 ⟨ea,ec,rfl,hsl,hb8⟩;have HB8:=aa (HB0.o.trans (hb8.mono HB0.o.size));have HSL:=aa hsl;clear hb8 hsl)|(go_at_call 27;refine(HLE.o _ HBA.o).mono ?_;rintro e8 w8 ⟨ea,ec,rfl,hsl,hb8⟩;have HB8:=aa (HBA.o.trans (hb8.mono HBA.o.size));have HSL:=aa hsl;have HZ8:=aa (HZA.o.below hb8);clear hb8 hsl;have y0:=Hc HZ8.o 0 (by simp);have y1:=Hc HZ8.o 1 (by simp);have z0:=Hb HZ8.o 0;have z1:=Hb HZ8.o 1)|(go_at_call 27;refine(HLE.o _ HBB.o).mono ?_;rintro e8 w8 ⟨ea,ec,rfl,hsl,hb8⟩;have HB8:=aa (HBB.o.trans (hb8.mono HBB.o.size));have HSL:=aa hsl;have HZ8:=aa (HZB.o.below hb8);clear hb8 hsl;have y0:=Hc HZ8.o 0 (by simp);have y1:=Hc HZ8.o 1 (by simp);have z0:=Hb HZ8.o 0;have z1:=Hb HZ8.o 1))
    all_goals
     go_wp2_with fail;go_meet;first
      |exact⟨_,ea,ec,rfl,rfl,HB8.o.trans (af.mono HB8.o.size),fU _ _ _,HSL.o⟩
      |exact⟨_,ea,ec,rfl,rfl,LAYB.o _ _ _ HB8.o,HZ8.o.put _ _,HSL.o⟩
   case rest=>
    obtain⟨bb,ea,ec,rfl,rfl,hbx,htb,hsl⟩:=hcut;have HBX:=aa hbx;have HSL:=aa hsl;obtain⟨q0,q1⟩:=htb;obtain⟨t0,t1⟩:=HT2.o.below hbx;clear hbx hsl;cases L with
    |none=>
     have HD:=aa (HIF.o (HDN.o rfl));obtain⟨mm,hm1⟩:∃mm:Int,dV none=mm:=⟨_,rfl⟩;have hm0:mm<0:=by rw[<-hm1];decide
     have hd:(mm==(j:Int))=false:=by simp;omega
     have hd2:decide (mm=(j:Int))=false:=by simp;omega
     rw[hm1];clear hm1;go_wp2_with fail;go_roundw;case rel=>exact⟨k+1,by omega,by go_num,HD.o,HBX.o⟩
     case measure=>simp[intOf];omega
    |some q=>
     obtain⟨q,u⟩:=q;have HUL:=aa (HLU.o q u rfl);have HDD:=aa (HDS.o q u rfl);rw[jO];by_cases hq:q=j
     ·subst hq;have q1b:wc.cell? ⟨bb,1,none⟩=some (.slice ea u.2.length ec):=q1;have HSU:Ic (Sl wc (.slice ea u.2.length ec) u.2):=Sl.below HSL.o HBX.o;have HTU:Ic (Sl wc (.slice (some ⟨tb,toff,none⟩) e.length tc) e):=(HT.o.below HB2.o).below HBX.o;obtain⟨ea2,ec2,hee,hse⟩:=HSU.o;simp only[H7,true_and] at hee;obtain⟨rfl,rfl⟩:=hee;obtain⟨eb,eoff,rfl,_,hce⟩:=hse (by rw[HUL.o];exact hN0);obtain⟨ta2,tc2,het,hst⟩:=HTU.o;obtain⟨tb2,toff2,htt,_,hct⟩:=hst (by rw[HE.o];exact hN0);subst htt;simp only[H7,H6,Addr.mk.injEq,true_and,and_true] at het;obtain⟨⟨rfl,rfl⟩,rfl⟩:=het;have HG:=aa (AN e u.2 tb toff tc eb eoff ec wc (by rw[HE.o];exact hN) (by rw[HE.o,HUL.o]) hct hce);clear hse hce hst hct q1;have hd:((q:Int)==(q:Int))=true:=by simp
      have hd2:decide ((q:Int)=(q:Int))=true:=by simp
      cases hb:fk e u.2
      ·have HD:=aa (HIT.o (by rw[HDD.o,hb];simp));rw[hb] at HG;go_wp2_with (go_at_call 122;refine HG.o.mono ?_;rintro e9 w9 ⟨rfl,n9,rfl⟩);go_ret;exact⟨by rw[HD.o];rfl,HB2.o.trans ((below_drewN HBX.o n9).mono HB2.o.size)⟩
      ·have HD:=aa (HIF.o (by rw[HDD.o,hb];simp));rw[hb] at HG;go_wp2_with (go_at_call 122;refine HG.o.mono ?_;rintro e9 w9 ⟨rfl,n9,rfl⟩);go_roundw;case rel=>exact⟨k+1,by omega,by go_num,HD.o,below_drewN HBX.o n9⟩
       case measure=>simp[intOf];omega
     ·have HD:Ic (∀m,m<k+1->fB o v j e (lss.getD m [])=false):=HIF.o (by rw[HDD.o];simp[hq]);have hd:((q:Int)==(j:Int))=false:=by simp;omega
      have hd2:decide ((q:Int)=(j:Int))=false:=by simp;omega
      go_wp2_with fail;go_roundw;case rel=>exact⟨k+1,by omega,by go_num,HD.o,HBX.o⟩
      case measure=>simp[intOf];omega
  ·have e1:k=lss.length:=by omega
   subst e1;have HF:=aa (E9 HNO.o);go_wp2;go_ret;exact⟨by rw[HF.o];rfl,HB2.o.trans (HBR.o.mono HB2.o.size)⟩
theorem vR{τ M:Type}{S:Gb.cA τ M}{p:Int}{G:Gb.bw S p}{X:Gb.Fn τ}(h:Gb.Vb G (λ_=>True) X):(∀φ,p∣X φ)\/∃T,Gb.Vb G (λs=>S.lt s T\/s=T) X:=by
 obtain⟨rp,h1,h2⟩:=h;cases rp with
 |nil=>exact Or.inl λφ=>by simpa [Gb.ev] using h2 φ
 |cons r rp=>
  right;have hmax:∀(l:Gb.Rp M)(m:τ),∃m2,(S.lt m m2\/m=m2)/\∀x∈l,S.lt (S.act x.2.1 (G.ld x.2.2)) m2\/S.act x.2.1 (G.ld x.2.2)=m2:=by
   intro l;induction l with
   |nil=>exact λm=>⟨m,Or.inr rfl,λx hx=>by simp at hx⟩
   |cons y l ihl=>
    intro m;obtain⟨m2,a2,a3⟩:=ihl m;rcases S.tri (S.act y.2.1 (G.ld y.2.2)) m2 with h|h|h
    ·exact⟨m2,a2,λx hx=>(List.mem_cons.1 hx).elim (λe=>by rw[e];exact Or.inl h) (a3 x)⟩
    ·exact⟨m2,a2,λx hx=>(List.mem_cons.1 hx).elim (λe=>by rw[e];exact Or.inr h) (a3 x)⟩
    ·exact⟨S.act y.2.1 (G.ld y.2.2),Or.inl (a2.elim (λh2=>S.trans h2 h) (λe=>by rw[e];exact h)),λx hx=>(List.mem_cons.1 hx).elim (λe=>by rw[e];exact Or.inr rfl) (λhx=>Or.inl ((a3 x hx).elim (λh2=>S.trans h2 h) (λe=>by rw[e];exact h)))⟩
  obtain⟨m2,b2,b3⟩:=hmax rp (S.act r.2.1 (G.ld r.2.2));refine⟨m2,r::rp,λx hx=>⟨(h1 x hx).1,?_⟩,h2⟩;rcases List.mem_cons.1 hx with rfl|hx
  ·exact b2
  ·exact b3 x hx
theorem Fc{N R i j:Nat}{a b:List Int}(h3:N<=3)(hi:i<R)(hj:j<R)(ha:a.length=N)(hb:b.length=N)(na:∀x∈a,0<=x)(nb:∀x∈b,0<=x)(h:aL R i a=aL R j b):i=j/\a=b:=by
 unfold aL at h;simp only[Prod.mk.injEq] at h;have a0:=dj na 0;have a1:=dj na 1;have a2:=dj na 2;have b0:=dj nb 0;have b1:=dj nb 1;have b2:=dj nb 2;refine⟨by omega,?_⟩;apply List.ext_getElem?;intro k;by_cases hk:k<N
 ·have h4:a.getD k 0=b.getD k 0:=by
   have:k=0\/k=1\/k=2:=by omega
   rcases this with rfl|rfl|rfl<;>omega
  simp only[Hs,Ht (show k<a.length by omega),Ht (show k<b.length by omega),Option.getD_some] at h4⊢;rw[h4]
 ·rw[Hu (by omega),Hu (by omega)]
theorem ye{R:Nat}{v:List (List Tm)}{x:Int×Gb.Te}:∀k,x∈ci R v k->∃i t,i<k/\x=(t.1,aL R i t.2)/\t∈v.getD i []
 |0,h=>by simp[ci] at h
 |k+1,h=>by
  simp only[ci] at h;rcases Hv.1 h with h|h
  ·obtain⟨i,t,a,b,c⟩:=ye k h;exact⟨i,t,by omega,b,c⟩
  ·obtain⟨t,ht,rfl⟩:=H8.1 h;exact⟨k,t,by omega,rfl,ht⟩
theorem Fd{o ov:Int}{N R i:Nat}{xs:List Int}(ho:o=1\/o=2)(h0:0<N)(h3:N<=3)(hi:i<R)(hR:R<=40)(hx:dM N xs):aK o ov i xs<1000*1125899906842624:=by have:=mX ho h0 h3 hx;unfold aK bG;split<;>omega
theorem zU{p o ov:Int}{N R:Nat}(hx:bj p o ov N R){lss:List (List (List Tm))}(hl:cF p o N R lss)(hA:Gb.da (bq p o ov N R hx lss hl)){v0:List (List Tm)}(hinv:ef p o ov N R lss ⟨v0,List.replicate lss.length [],List.replicate R []⟩)(hm:Gb.Vb (bq p o ov N R hx lss hl) (λ_=>True) λφ=>Gb.ln φ (ci R v0 R)){f:DS}(hdv:Dv p o ov lss ⟨v0,List.replicate lss.length [],List.replicate R []⟩ f)(hend:aq o ov f.v f.v.length=none):∀m,f.l.getD m []=[]:=by
 have h0:∀(n m:Nat),(List.replicate n ([]:List Tm)).getD m []=[]:=λn m=>by rw[Hs];by_cases h:m<n<;>simp[h]
 have hD:∀i,i<R->Dg ov i<=16000:=λi hi=>by have:=(kg (ov:=ov) hx.r i hi).2;omega
 obtain⟨hfi,_,hfq⟩:=xq hx hl (K:=1000*1125899906842624) hdv hinv (λi t ht=>by
  have hi:i<R:=by have h1:i<v0.length:=kH ht;have h2:v0.length=R:=hinv.vl;omega
  exact Fd hx.o hx.n0 hx.n3 hi hx.r (hinv.vok.exq (by rw[hinv.vl];exact hD) ht)) (λm=>h0 _ m)
 have hfv:∀m,f.v.getD m []=[]:=λm=>by
  by_cases hm:m<f.v.length
  ·exact rE f.v.length (He _) hend m hm
  ·rw[Hs,Hu (by omega)];rfl
 have hQ:Gb.Vb (bq p o ov N R hx lss hl) (λ_=>True) λφ=>Gb.ev (bq p o ov N R hx lss hl) φ (gX f.q lss.length):=⟨gX f.q lss.length,λr hr=>by
  obtain⟨k,y,hk,hy,rfl⟩:=rH _ hr;obtain⟨_,j2,x,hld,_⟩:=hfq k y hy;exact⟨⟨hk,by rw[hld];rfl⟩,trivial⟩,λφ=>⟨0,by simp⟩⟩
 have hY:Gb.Vb (bq p o ov N R hx lss hl) (λ_=>True) λφ=>Gb.ln φ (ci R f.l R):=by refine(Gb.Vb.add hm (Gb.Vb.scl (-1) hQ)).congr λφ=>?_;obtain⟨z,hz⟩:=xp hx hl hdv hinv (λm=>h0 _ m) (λm=>h0 _ m) φ;simp only at hz;rw[oT hfv] at hz;have e0:Gb.ln φ ([]:List (Int×Gb.Te))=0:=rfl;rw[e0] at hz;exact⟨-z,by rw[Int.mul_neg];omega⟩
 have hdn:=Er hdv (λi t ht=>by simp only[h0] at ht;simp at ht);have hco:∀φ t,¬p∣Gb.ln (Gb.dl t) (ci R f.l R)->φ=0->∃m s,m<R/\s∈f.l.getD m []/\aL R m s.2=t:=λφ t hn _=>by
  apply Classical.byContradiction;intro hno;apply hn;rw[Gb.kt λx hxm=>by
   obtain⟨m,s,a1,rfl,a3⟩:=ye R hxm;unfold Gb.dl;rw[if_neg];intro e;exact hno ⟨m,s,a1,a3,e⟩]
  exact⟨0,by simp⟩
 have hzero:(∀φ,p∣Gb.ln φ (ci R f.l R))->∀m,f.l.getD m []=[]:=λhz m=>by
  cases hf:f.l.getD m [] with
  |nil=>rfl
  |cons t us=>
   exfalso;have hmR:m<R:=by
    have:t∈f.l.getD m []:=by rw[hf];simp
    have:=kH this;have:=hfi.ll;omega
   obtain⟨r,e,hr⟩:=rG (R:=R) hf R hmR;have h9:=hz (Gb.dl (aL R m t.2));rw[e,Gb.kt (l:=r) λx hxm=>by
    obtain⟨i2,s,a1,rfl,a3⟩:=hr x hxm;unfold Gb.dl;rw[if_neg];intro e2;have hsm:s∈f.l.getD i2 []:=by
     rcases a3 with ⟨_,a⟩|⟨e3,a⟩
     ·exact a
     ·rw[e3,hf];exact List.mem_cons_of_mem _ a
    have htm:t∈f.l.getD m []:=by rw[hf];simp
    obtain⟨e4,e5⟩:=Fc hx.n3 a1 hmR ((hfi.lok.canon i2).len s hsm) ((hfi.lok.canon m).len t htm) (hfi.lok.nn i2 s hsm) (hfi.lok.nn m t htm) e2;rcases a3 with ⟨ne,_⟩|⟨_,a⟩
    ·exact ne e4
    ·have hfa:=(hfi.lok.canon m).falls;rw[hf] at hfa;have h8:=hfa.1 s a;rw[e5,(fj o t.2 t.2 rfl).2 rfl] at h8;omega] at h9
   have hc:=(hfi.lok.canon m).coef t (by rw[hf];simp);have e6:Gb.dl (aL R m t.2) (aL R m t.2)=1:=by unfold Gb.dl;rw[if_pos rfl]
   rw[e6] at h9;exact qG (a:=t.1) (by simpa using h9) hc.1 hc.2
 rcases vR hY with hz|⟨T,hT⟩
 ·exact hzero hz
 ·rcases Gb.tA hA T _ hT with hz|⟨i,a,t,hlive,hact,hn,_⟩
  ·exact hzero hz
  ·exfalso;obtain⟨m,s,hmR,hs,et⟩:=hco 0 t hn rfl;obtain⟨hil,hsome⟩:=hlive;have hnone:=hdn m s hs;unfold d9 at hnone;rw[List.findIdx?_eq_none_iff] at hnone;have hgm:=de lss i hil;have hdv2:=hnone _ hgm;cases hld:aq o ov (lss.getD i []) (lss.getD i []).length with
   |none=>rw[hld] at hsome;simp at hsome
   |some q=>
    obtain⟨j,x⟩:=q;rw[xZ hld] at hdv2;rw[(jL (hx:=hx) (hl:=hl) hld).1,<-et] at hact;have hact2:Gb.bB a (aL R j x.2)=aL R m s.2:=hact;obtain⟨hj,us,hus⟩:=dJ hld;have hok:=hl.ok _ hgm;have hgl:=hl.len _ hgm;have xm:x∈(lss.getD i []).getD j []:=by rw[hus];simp
    have xl:=(hok.canon j).len x xm;have sl:=(hfi.lok.canon m).len s hs;have x0:=dj (hok.nn j x xm) 0;have x1:=dj (hok.nn j x xm) 1;have x2:=dj (hok.nn j x xm) 2;have s0:=dj (hfi.lok.nn m s hs) 0;have s1:=dj (hfi.lok.nn m s hs) 1;have s2:=dj (hfi.lok.nn m s hs) 2;unfold Gb.bB aL at hact2;simp only[Prod.mk.injEq] at hact2;have hjm:j=m:=by omega
    have hlk:fk s.2 x.2=false:=by
     have hle:∀k,x.2.getD k 0<=s.2.getD k 0:=λk=>by
      by_cases hk:k<N
      ·have hn3:=hx.n3;have:k=0\/k=1\/k=2:=by omega
       rcases this with rfl|rfl|rfl<;>omega
      ·rw[Hs,Hs,Hu (by omega),Hu (by omega)];simp
     have key:∀(u v:List Int),u.length=v.length->(∀k,v.getD k 0<=u.getD k 0)->fk u v=false:=by
      intro u;induction u with
      |nil=>intro v hv _;cases v with
       |nil=>rfl
       |cons _ _=>simp at hv
      |cons y u ih=>
       intro v hv hk;cases v with
       |nil=>simp at hv
       |cons z v=>have h1:=ih v (by simpa using hv) (λk=>by have:=hk (k+1);simpa using this);have h2:=hk 0;unfold fk at h1⊢;simp only[ah,List.any_cons,h1,Bool.or_false];unfold gK;simp at h2⊢;omega
     exact key s.2 x.2 (by rw[sl,xl]) hle
    rw[hjm,hlk] at hdv2;simp at hdv2
theorem cl.mono{B B':Nat}{w:World}{v:Value}{us:List Value}{fss:List (List Tm)}(h:cl B' w v us fss)(hb:B<=B'):cl B w v us fss:=⟨h.len,kS h.own hb,h.kind,h.pls⟩
def jA:Value->Option Nat
 | .slice (some a) _ _=>some a.block
 |_=>none
theorem Vl.far{w w':World}{g:Nat}{x:Value}{fss:List (List Tm)}(h:Vl w x fss)(hk:di w g)(hg:w.grownBy w' (some g))(hne:jA x≠some g):Vl w' x fss:=by obtain⟨a,c,rfl,h⟩:=h;refine⟨a,c,rfl,λhp=>?_⟩;obtain⟨b,off,rfl,hlt,hat⟩:=h hp;have hb:b≠g:=λe=>hne (by simp[jA,e]);refine⟨b,off,rfl,Hj hlt hg.size,λi hi=>?_⟩;obtain⟨v,hc,hpl⟩:=hat i hi;exact⟨v,by rw[iX hg hlt hb];exact hc,kT hk hg hpl⟩
theorem cl.far{B:Nat}{w w':World}{g:Nat}{v:Value}{us:List Value}{fss:List (List Tm)}(h:cl B w v us fss)(hk:di w g)(hg:w.grownBy w' (some g))(hne:v.ownBlock≠some g):cl B w' v us fss:=by refine⟨h.len,h.own.kept hg (Or.inr hne),λg2 h2 j u hu=>?_,λi hi=>kT hk hg (h.pls i hi)⟩;have hlt:=(Hd h.own g2 h2).2;rw[iX hg hlt (λe=>hne (by rw[h2,e]))] at hu;exact h.kind g2 h2 j u hu
theorem cl.put{B:Nat}{w:World}{g c n:Nat}{us:List Value}{fss:List (List Tm)}{i:Nat}{u:Value}{f:List Tm}(h:cl B w (.slice (some ⟨g,0,none⟩) n c) us fss)(hn:n=fss.length)(hi:i<fss.length)(hu:Pl w u f):cl B (w.setCell ⟨g,i,none⟩ u) (.slice (some ⟨g,0,none⟩) n c) (us.set i u) (fss.set i f)/\w.grownBy (w.setCell ⟨g,i,none⟩ u) (some g):=by
 subst hn;have hk:=h.kind g rfl;obtain⟨s1,s2⟩:=h.own.stored i u;have huS:∃a n c,u=.slice a n c:=by obtain⟨a,c,e,_⟩:=hu;exact⟨_,_,_,e⟩
 refine⟨⟨by simp[h.len],by rw[List.length_set];exact s1,λg2 h2=>?_,λk hk2=>?_⟩,s2⟩
 ·simp only[Value.ownBlock,H6] at h2;subst h2;rcases h.own.2 with ⟨h',_⟩|⟨g',cap',ai,h',hb,hg,_⟩
  ·simp at h'
  ·simp only[H7,H6,Addr.mk.injEq,and_true,true_and] at h';obtain⟨rfl,rfl⟩:=h';have hcur:=yg hg hk;refine pj (heap_setCell_same w g i ai _ u hg) λy hy=>?_;rw[Array.mem_toList_iff] at hy;rcases Array.mem_or_eq_of_mem_setIfInBounds hy with h9|h9
   ·exact hcur y (by rw[Array.mem_toList_iff];exact h9)
   ·rw[h9];exact huS
 ·rw[List.length_set] at hk2;by_cases e:i=k
  ·subst e;have e1:(us.set i u).getD i aP=u:=by simp[Hs,show i<us.length by rw[h.len];exact hi]
   have e2:(fss.set i f).getD i []=f:=by simp[Hs,hi]
   rw[e1,e2];exact kT hk s2 hu
  ·have e1:(us.set i u).getD k aP=us.getD k aP:=by simp[Hs,List.getElem?_set_ne e]
   have e2:(fss.set i f).getD k []=fss.getD k []:=by simp[Hs,List.getElem?_set_ne e]
   rw[e1,e2];exact kT hk s2 (h.pls k hk2)
theorem Fe{w:World}{v:Value}{xs ys:List Int}(h:Sl w v xs)(k:Sl w v ys):xs=ys:=by
 obtain⟨a,c,rfl,h⟩:=h;obtain⟨a2,c2,e,k⟩:=k;simp only[H7] at e;obtain⟨rfl,e,rfl⟩:=e;apply List.ext_getElem?;intro i;by_cases hi:i<xs.length
 ·obtain⟨b,off,rfl,_,hc⟩:=h (by omega);obtain⟨b2,off2,e3,_,hc2⟩:=k (by omega);simp only[H6,Addr.mk.injEq,and_true] at e3;obtain⟨rfl,rfl⟩:=e3;have h1:=hc i hi;have h2:=hc2 i (by omega);rw[h1] at h2;simp only[H6,Value.int.injEq,true_and] at h2;have hi2:i<ys.length:=by omega
  simp only[Hs,Ht hi,Ht hi2,Option.getD_some] at h2⊢;rw[h2]
 ·rw[Hu (by omega),Hu (by omega)]
theorem Ff{w:World}{v:Value}{xs ys:List Tm}(h:Pl w v xs)(k:Pl w v ys):xs=ys:=by
 obtain⟨a,c,rfl,_,h⟩:=h;obtain⟨a2,c2,e,_,k⟩:=k;simp only[H7] at e;obtain⟨rfl,e,rfl⟩:=e;apply List.ext_getElem?;intro i;by_cases hi:i<xs.length
 ·obtain⟨b,off,rfl,_,hc⟩:=h (by omega);obtain⟨b2,off2,e3,_,hc2⟩:=k (by omega);simp only[H6,Addr.mk.injEq,and_true] at e3;obtain⟨rfl,rfl⟩:=e3;obtain⟨h1,u1,h2,h3⟩:=hc i hi;obtain⟨k1,u2,k2,k3⟩:=hc2 i (by omega);rw[h1] at k1;rw[h2] at k2;simp only[H6,Value.int.injEq,true_and] at k1 k2;subst k2;have h4:=Fe h3 k3;have hi2:i<ys.length:=by omega
  simp only[Hs,Ht hi,Ht hi2,Option.getD_some] at k1 h4⊢;exact congrArg some (Prod.ext k1 h4)
 ·rw[Hu (by omega),Hu (by omega)]
theorem Fg{w:World}{v:Value}{xs ys:List (List Tm)}(h:Vl w v xs)(k:Vl w v ys):xs=ys:=by
 obtain⟨a,c,rfl,h⟩:=h;obtain⟨a2,c2,e,k⟩:=k;simp only[H7] at e;obtain⟨rfl,e,rfl⟩:=e;apply List.ext_getElem?;intro i;by_cases hi:i<xs.length
 ·obtain⟨b,off,rfl,_,hc⟩:=h (by omega);obtain⟨b2,off2,e3,_,hc2⟩:=k (by omega);simp only[H6,Addr.mk.injEq,and_true] at e3;obtain⟨rfl,rfl⟩:=e3;obtain⟨u1,h2,h3⟩:=hc i hi;obtain⟨u2,k2,k3⟩:=hc2 i (by omega);rw[h2] at k2;simp only[H6] at k2;subst k2;have h4:=Ff h3 k3;have hi2:i<ys.length:=by omega
  simp only[Hs,Ht hi,Ht hi2,Option.getD_some] at h4⊢;rw[h4]
 ·rw[Hu (by omega),Hu (by omega)]
open Classical in
theorem Ie(o ov:Int):∃f:Value->World->Nat,∀x w v,Vl w x v->f x w=lW o ov v:=by refine⟨λx w=>if h:∃v,Vl w x v then lW o ov h.choose else 0,λx w v h=>?_⟩;have he:∃v,Vl w x v:=⟨v,h⟩;simp only;rw[dif_pos he,Fg he.choose_spec h]
theorem yh{o:Int}:∀{f:List Tm},fw o f->f.Pairwise λa b=>a.2≠b.2
 |[],_=>List.Pairwise.nil
 |t::ts,h=>List.Pairwise.cons (λu hu e=>by
   have h1:=h.1 u hu;rw[e,(fj o u.2 u.2 rfl).2 rfl] at h1;omega) (yh h.2)
def pk(t:Tm):Nat:=((t.2.getD 0 0)*64016001+((t.2.getD 1 0)*8001+t.2.getD 2 0)).toNat
theorem wX{p o:Int}{N:Nat}(hN:N<=3){f:List Tm}(h:bk p o N f)(hb:∀t∈f,∀x∈t.2,0<=x/\x<=8000):f.length<=600000000000:=by
 have hg:∀t∈f,∀i,0<=t.2.getD i 0/\t.2.getD i 0<=8000:=λt ht i=>by
  by_cases hi:i<t.2.length
  ·rw[Hs,Ht hi];exact hb t ht _ (Hp hi)
  ·rw[Hs,Hu (by omega)];simp
 have hn:(f.map pk).Nodup:=by
  rw[List.nodup_iff_pairwise_ne,List.pairwise_map];refine List.Pairwise.imp_of_mem (R:=λa b:Tm=>a.2≠b.2) (fun {a b} ha hb2 hne e=>hne ?_) (yh h.falls);have a0:=hg a ha 0;have a1:=hg a ha 1;have a2:=hg a ha 2;have b0:=hg b hb2 0;have b1:=hg b hb2 1;have b2:=hg b hb2 2;have la:=h.len a ha;have lb:=h.len b hb2;unfold pk at e;have e0:a.2.getD 0 0=b.2.getD 0 0/\a.2.getD 1 0=b.2.getD 1 0/\a.2.getD 2 0=b.2.getD 2 0:=by omega
  apply List.ext_getElem?;intro i;by_cases hi:i<N
  ·have h3:a.2.getD i 0=b.2.getD i 0:=by
    have:i=0\/i=1\/i=2:=by omega
    rcases this with rfl|rfl|rfl
    ·exact e0.1
    ·exact e0.2.1
    ·exact e0.2.2
   simp only[Hs,Ht (show i<a.2.length by omega),Ht (show i<b.2.length by omega),Option.getD_some] at h3⊢;rw[h3]
  ·rw[Hu (by omega),Hu (by omega)]
 have hb:∀x∈f.map pk,x<600000000000:=λx hx=>by obtain⟨t,ht,rfl⟩:=H8.1 hx;have a0:=hg t ht 0;have a1:=hg t ht 1;have a2:=hg t ht 2;unfold pk;omega
 have:=mR _ _ hn hb;rwa [Ia] at this
theorem iE:∀{xs:List Int},(∀x∈xs,0<=x)->∀x∈xs,x<=ag xs
 |[],_,x,hx=>by simp at hx
 |y::ys,h,x,hx=>by
  have h0:=h y (by simp);have h1:=jb (xs:=ys) λz hz=>h z (by simp[hz]);simp only[ag];rcases List.mem_cons.1 hx with rfl|hx
  ·omega
  ·have:=iE (xs:=ys) (λz hz=>h z (by simp[hz])) x hx;omega
theorem oN{p o ov:Int}{N R:Nat}(hx:bj p o ov N R){v:List (List Tm)}(h:b9 p o N (Dg ov) v)(hl:v.length=R):∀f∈v,bk p o N f/\(∀t∈f,∀x∈t.2,0<=x/\x<=8000)/\f.length<=600000000000:=by
 intro f hf;obtain⟨i,hi,rfl⟩:=List.getElem_of_mem hf;have e:v.getD i []=v[i]:=by simp[Hs,hi]
 rw[<-e];have hd:=(kg (ov:=ov) hx.r i (by omega)).2;have hb:∀t∈v.getD i [],∀x∈t.2,0<=x/\x<=8000:=λt ht x hx2=>by have h1:=h.nn i t ht;have h2:=iE h1 x hx2;have h3:=h.deg i t ht;exact⟨h1 x hx2,by omega⟩
 exact⟨h.canon i,hb,wX hx.n3 (h.canon i) hb⟩
theorem Eh{p o ov:Int}{N R:Nat}(hx:bj p o ov N R){v:List (List Tm)}(h:b9 p o N (Dg ov) v)(hl:v.length=R):∀f∈v,yi p o N f:=λf hf=>by obtain⟨h1,h2,h3⟩:=oN hx h hl f hf;exact⟨h1,λt ht x hx=>by have:=h2 t ht x hx;omega,h3⟩
theorem wU{p o ov:Int}{N R:Nat}(hx:bj p o ov N R){v:List (List Tm)}(h:b9 p o N (Dg ov) v)(hl:v.length=R):∀f∈v,Sm p N f:=λf hf=>by obtain⟨h1,h2,h3⟩:=oN hx h hl f hf;exact⟨λt ht=>⟨h1.len t ht,λx hx=>by have:=h2 t ht x hx;omega,by have:=h1.coef t ht;omega,(h1.coef t ht).2⟩,by omega⟩
theorem Fh(L:Nat):(madeCells (Value.cells (.slice none 0 0)) (L*1)).toList=List.replicate L (.slice none 0 0):=by
 apply List.ext_getElem?;intro i;by_cases h:i<L
 ·simp[madeCells,Value.cells,h,Nat.mod_one]
 ·simp[madeCells,Value.cells,h]
theorem rm{w':World}{B g n:Nat}(h:w'.ownsRow B 31 1 (.slice (some ⟨g,0,none⟩) n n) n (madeCells (Value.cells (.slice none 0 0)) (n*1)).toList):cl B w' (.slice (some ⟨g,0,none⟩) n n) (List.replicate n (.slice none 0 0)) (List.replicate n []):=by
 rw[Fh] at h;refine⟨by simp,by rw[List.length_replicate];exact h,λg2 h2=>?_,λi hi=>?_⟩
 ·simp only[Value.ownBlock,H6] at h2;subst h2;rcases h.2 with ⟨h',_⟩|⟨g',cap',ai,h',hb,hg,hnc,hcm,hcs,htake⟩
  ·simp at h'
  ·simp only[H7,H6,Addr.mk.injEq,and_true,true_and] at h';obtain⟨rfl,rfl⟩:=h';refine pj hg λu hu=>?_;rw[Hz (by simp[hcs])] at htake;rw[htake] at hu;exact⟨_,_,_,List.eq_of_mem_replicate hu⟩
 ·rw[List.length_replicate] at hi;have e1:(List.replicate n (Value.slice none 0 0)).getD i aP=.slice none 0 0:=by simp[Hs,hi]
  have e2:(List.replicate n ([]:List Tm)).getD i []=[]:=by simp[Hs,hi]
  rw[e1,e2];exact Pl.empty _
theorem oO{B:Nat}{w:World}{v:Value}{us:List Value}{fss:List (List Tm)}(h:cl B w v us fss):∀g,jA v=some g->B<=g:=by
 intro g hg;rcases h.own.2 with ⟨rfl,_⟩|⟨g',cap',ai,rfl,hb,_⟩
 ·simp[jA] at hg
 ·simp only[jA,H6] at hg;omega
structure wS(p o ov:Int)(N R:Nat)(lss:List (List (List Tm)))(w1 wr:World)(qa la:Nat)(x:Value)(s0 s:DS):Prop where
 vl:Vl wr x s.v
 nq:jA x≠some qa
 nl:jA x≠some la
 q:∃uq,cl w1.heap.size wr (.slice (some ⟨qa,0,none⟩) lss.length lss.length) uq s.q
 l:∃ul,cl w1.heap.size wr (.slice (some ⟨la,0,none⟩) R R) ul s.l
 dv:Dv p o ov lss s0 s
 inv:ef p o ov N R lss s
 below:Below w1.heap.size w1 wr
theorem Ej{o ov:Int}{lss:List (List (List Tm))}{j:Nat}{e:List Int}(h:d9 o ov lss j e=none):jz o ov lss j e=-1:=by unfold jz;rw[h]
theorem El{o ov:Int}{lss:List (List (List Tm))}{j i:Nat}{e:List Int}(h:d9 o ov lss j e=some i):jz o ov lss j e=i:=by unfold jz;rw[h]
theorem Ek{p o ov:Int}{lss:List (List (List Tm))}{s:DS}{j:Nat}{t:Tm}(h:aq o ov s.v s.v.length=some (j,t))(hd:d9 o ov lss j t.2=none):dK p o ov lss s=some ⟨ch p o s.v (fu s.v.length j [(p-t.1,t.2)]),s.q,s.l.set j (s.l.getD j []++[t])⟩:=by unfold dK;rw[h];simp only;rw[hd]
theorem Em{p o ov:Int}{lss:List (List (List Tm))}{s:DS}{j i:Nat}{t:Tm}(h:aq o ov s.v s.v.length=some (j,t))(hd:d9 o ov lss j t.2=some i):dK p o ov lss s=some ⟨ch p o s.v (aN p o [(p-(gW p t (fQ o ov (lss.getD i []))).1,(gW p t (fQ o ov (lss.getD i []))).2)] (lss.getD i [])),s.q.set i (s.q.getD i []++[gW p t (fQ o ov (lss.getD i []))]),s.l⟩:=by unfold dK;rw[h];simp only;rw[hd]
theorem wR{w:World}{x:Value}{fss:List (List Tm)}(h:Vl w x fss)(h0:0<fss.length):∀g,jA x=some g->g<w.heap.size:=by intro g hg;obtain⟨a,c,rfl,h⟩:=h;obtain⟨b,off,rfl,hlt,_⟩:=h h0;simp only[jA,H6] at hg;omega
theorem wT(p n o v:Int)(N:Nat)(x y:Value)(fss gss:List (List Tm))(w:World)(hp:2<=p/\p<=101)(ho:o=1\/o=2)(hN0:0<N)(hN:N<=3)(hl:fss.length=gss.length)(hm:fss.length<=1000)(hf:∀f∈fss,Sm p N f)(hg:∀g∈gss,Sm p N g)(pf:Vl w x fss)(pg:Vl w y gss):Calls prog 74 #[az p n o v,x,y] w λe w'=>∃u us,e=.returned u/\cl w.heap.size w' u us (ch p o fss gss)/\Below w.heap.size w w':=by
 have HX:=aa pf;have HY:=aa pg;have HF:=aa hf;have HG:=aa hg;have HP:=aa hp;have HO:=aa ho;have HL:=aa hl;obtain⟨ax,cx,rfl,_⟩:=pf;obtain⟨ay,cy,rfl,_⟩:=pg;clear hf hg hp ho hl;obtain⟨w1,hw1⟩:∃w1,w1=w.alloc (.cells #[.int .i64 p,.int .i64 n,.int .i64 o,.int .i64 v] 23):=⟨_,rfl⟩;have hbx:aX w1 w.heap.size p n o v:=by rw[hw1];exact aX.new w p n o v _
 have hbw:Below w.heap.size w w1:=by rw[hw1];exact bp
 have HBX:=aa hbx;have HBW:=aa hbw;clear hbx hbw;go_enter func74,ntmps74;go_wp2_with fail;rw[<-hw1];clear hw1;go_loopw [7,8] (λz i wr=>∃(k:Nat)(us:List Value),k<=fss.length/\i=.int .i64 k/\cl w1.heap.size wr z us ((ch p o fss gss).take k)/\Below w1.heap.size w1 wr) (λ_ i _=>fss.length-(intOf i).toNat);case atStart=>exact⟨0,[],Hl _,rfl,cl.nil _ _,Hf _ _⟩
 case round=>
  obtain⟨k,us,hk,rfl,hrow,hbr⟩:=hrel;have HROW:=aa hrow;have HBR:=aa hbr;obtain⟨ys,hys⟩:∃ys,(ch p o fss gss).take k=ys:=⟨_,rfl⟩;have HTL:Ic (ys.length=k):=by show _=_;rw[<-hys,List.length_take,iu HL.o];omega
  rw[hys] at hrow HROW;have HYS:=aa hys;clear hys;obtain⟨za,zc,hz⟩:=cq hrow.own;subst hz;clear hrow hbr;by_cases hk2:k<fss.length
  ·have hk3:k<gss.length:=by have:=HL.o;omega
   obtain⟨b,off,fa,fc,rfl,hlt,c0,hpf⟩:=ez HX.o k hk2;obtain⟨b2,off2,ga,gc,rfl,hlt2,d0,hpg⟩:=ez HY.o k hk3;have hkI:(k:Int)<(gss.length:Int):=by omega
   have HDN:=aa (HBW.o.trans (HBR.o.mono HBW.o.size));have HTS:Ic ((ch p o fss gss).take (k+1)=ys++[aG p o (fss.getD k []++gss.getD k [])]):=by show _=_;rw[<-HYS.o,nN _ _ (by rw[iu HL.o];exact hk2),lU HL.o hk2]
   have HFG:=aa (Hg (HF.o _ (cG fss k hk2)) (HG.o _ (cG gss k hk3)));generalize fss.getD k []=f at c0 hpf HTS HFG;generalize gss.getD k []=g at d0 hpg HTS HFG;have HPF:=aa (hpf.below HBW.o);have HPG:=aa (hpg.below HBW.o);clear hpf hpg;obtain⟨_,bx0,bx1,bx2,bx3⟩:=HBX.o;have KEEP:Ic (∀W,Below w1.heap.size w1 W->(Ic (Below w1.heap.size w1 W)/\W.cell? ⟨w.heap.size,0,none⟩=some (.int .i64 p)/\W.cell? ⟨w.heap.size,1,none⟩=some (.int .i64 n)/\W.cell? ⟨w.heap.size,2,none⟩=some (.int .i64 o)/\W.cell? ⟨w.heap.size,3,none⟩=some (.int .i64 v)/\W.cell? ⟨b,off+k,none⟩=some (.slice fa f.length fc)/\W.cell? ⟨b2,off2+k,none⟩=some (.slice ga g.length gc))):=
    λW hb=>⟨hb,ae bx0 hb,ae bx1 hb,ae bx2 hb,ae bx3 hb,ae (ae c0 HBW.o) hb,ae (ae d0 HBW.o) hb⟩
   have HB0:Ic (Below w1.heap.size w1 wr.drew):=HBR.o.drew;clear bx0 bx1 bx2 bx3 c0 d0;go_wp2;go_region_held_law (λW=>Ic (Below w1.heap.size w1 W)/\W.cell? ⟨w.heap.size,0,none⟩=some (.int .i64 p)/\W.cell? ⟨w.heap.size,1,none⟩=some (.int .i64 n)/\W.cell? ⟨w.heap.size,2,none⟩=some (.int .i64 o)/\W.cell? ⟨w.heap.size,3,none⟩=some (.int .i64 v)/\W.cell? ⟨b,off+k,none⟩=some (.slice fa f.length fc)/\W.cell? ⟨b2,off2+k,none⟩=some (.slice ga g.length gc))
    (first|exact KEEP.o _ HB0.o|exact KEEP.o _ HB7.o|exact KEEP.o _ (HB6.o.trans (af.mono HB6.o.size))|exact KEEP.o _ HB6.o)
    (first|(refine r7 rfl (.tmp 15) (.tmp 26) 33 rfl underlying33 w1.heap.size (.slice za ys.length zc) us ys (by simp[Act.eval,Act.put]) (PR6.o.next af) ⟨w6.heap.size,0,none⟩ 1 (.slice ua6 (aG p o (f++g)).length uc6) (aG p o (f++g)) (HU6.o.below af) (by simp[Act.eval,Act.put]) (ns _ _ _) (by rw[HTL.o];omega) (Hk HB6.o.size (by simp)) ?_;intro v7 w7 r1 r2;have HB7:=aa (show Below w1.heap.size w1 w7 from (PR6.o.next af).grown (HB6.o.trans (af.mono HB6.o.size)) r2 (He _));obtain⟨va7,vc7,hv7⟩:=cq r1.own;rw[jT] at hv7;subst hv7;have HR7:=aa r1;clear r1 r2)|(go_at_call 73;refine(rB p n o v N _ _ f g _ HP.o HO.o hN0 hN HFG.o.1.1 HFG.o.2.1 ?_ ?_ ?_).mono ?_;(have h1:=HFG.o.1.2;have h2:=HFG.o.2.2;omega);exact HPF.o.below HB0.o;exact HPG.o.below HB0.o;rintro e w6 ⟨u6,rfl,hu6,hb6⟩;have PR6:=aa (HROW.o.next (((Hf wr.heap.size wr).drew).trans hb6));have HB6:=aa (show Below w1.heap.size w1 w6 from HB0.o.trans (hb6.mono HB0.o.size));have HU6:=aa hu6;obtain⟨ua6,uc6,rfl,_,_⟩:=hu6;clear hb6))
   all_goals
    go_wp2;first
     |exact⟨⟨k+1,us++[_],by omega,by go_num,by rw[HTS.o];exact HR7.o,HB7.o⟩,by simp[intOf];omega⟩
     |(go_roundw;(case rel=>exact⟨k+1,us++[_],by omega,by go_num,by rw[HTS.o];exact HR7.o,HB7.o⟩);case measure=>simp[intOf];omega)
  ·have e:k=fss.length:=by omega
   subst e;have HE:Ic (ch p o fss gss=ys):=by show _=_;rw[<-HYS.o,Hz (by rw[iu HL.o];exact He _)]
   have HV:=aa (HROW.o.mono HBW.o.size);go_wp2;go_ret;exact⟨_,us,rfl,by rw[HE.o];exact HV.o,HBW.o.trans (HBR.o.mono HBW.o.size)⟩
end Go.Proofs.YtglijodcbdcngaaGreat
