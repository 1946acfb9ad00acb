/- Sum of the reference. -/
import Derived.Test.YteimdcndjjclnaaGreatRB
import Derived.Deep.RegionHeldLaw
set_option maxHeartbeats 2000000
set_option maxRecDepth 100000
namespace Go.Proofs.YteimdcndjjclnaaGreat
set_option linter.all false
open Go.Proofs.Tryz Go.RowKit
def qZ(r:Option Nat)(v:Value):Prop:=∀b off n c,v=.slice (some ⟨b,off,none⟩) n c->some b≠r
theorem Jo{w w':World}{r:Option Nat}{v:Value}{xs:List Int}(h:w.grownBy w' r)(hs:Sl w v xs)(hne:qZ r v):Sl w' v xs:=by obtain⟨a,cap,rfl,h1⟩:=hs;refine⟨a,cap,rfl,λhp=>?_⟩;obtain⟨b,off,rfl,hlt,hc⟩:=h1 hp;exact⟨b,off,rfl,Lj hlt h.size,λi hi=>h.cell (hc i hi) (hne b off _ _ rfl)⟩
structure nv(N:Nat)(w1 wr:World)(v:Value)(ls:List TV):Prop where
 own:wr.ownsRow w1.heap.size 57 2 v ls.length (bO ls)
 es:Es wr ls
 ap:∀t∈ls,qZ v.ownBlock t.2.1
 ln:∀t∈ls,t.2.2.length=N
 below:Below w1.heap.size w1 wr
theorem nv.next{N:Nat}{w1 wr w':World}{v:Value}{ls:List TV}(h:nv N w1 wr v ls)(hb:Below wr.heap.size wr w'):nv N w1 w' v ls:=
 ⟨aK h.own hb,h.es.below hb,h.ap,h.ln,h.below.trans (hb.mono h.below.size)⟩
theorem nv.add{N:Nat}{w1 wr w':World}{v v':Value}{ls:List TV}{t:TV}(hN:0<N)(h:nv N w1 wr v ls)(hs:Sl wr t.2.1 t.2.2)(hl:t.2.2.length=N)(ha:qZ v.ownBlock t.2.1)(hown:w'.ownsRow w1.heap.size 57 2 v' (ls.length+1) (bO ls++bO [t]))(hg:wr.grownBy w' v.ownBlock)(hloc:v'.ownBlock=v.ownBlock\/v'.ownBlock=some wr.heap.size):nv N w1 w' v' (ls++[t]):=by
 have hall:∀u∈ls++[t],Sl wr u.2.1 u.2.2/\qZ v.ownBlock u.2.1/\u.2.2.length=N:=by
  intro u hu;rcases Lv.1 hu with hu|hu
  .exact⟨h.es u hu,h.ap u hu,h.ln u hu⟩
  .rw[Lw] at hu;subst hu;exact⟨hs,ha,hl⟩
 refine⟨by rw[ko,Lx];exact hown,λu hu=>Jo hg (hall u hu).1 (hall u hu).2.1,λu hu=>?_,λu hu=>(hall u hu).2.2,i8 h.own h.below hg (Lc _)⟩;rcases hloc with e|e
 .rw[e];exact(hall u hu).2.1
 .rw[e];intro b off n c hv hb;obtain⟨a,cap,hv2,h1⟩:=(hall u hu).1;obtain⟨b2,off2,hv3,hlt,_⟩:=h1 (by rw[(hall u hu).2.2];exact hN);rw[hv2,hv3] at hv;simp only[LB,LA,Addr.mk.injEq] at hv hb;omega
theorem Jp{p:Int}{N:Nat}(hp:2<=p){fs gs:List Tm}(lf:ep N fs)(lg:ep N gs)(bf:oW fs)(bg:oW gs):∀t∈cN p fs gs,uN p N t:=by intro t ht;simp only[Go.Proofs.YteimdcndjjclnaaGreat.cN,iP,L7,LC] at ht;obtain⟨a,ha,b,hb,rfl⟩:=ht;refine⟨by simp only;rw[kF _ _ _ (by rw[lf a ha,lg b hb])];exact lf a ha,Bc _ _ (bf a ha) (bg b hb),Int.emod_nonneg _ (by omega),Int.emod_lt_of_pos _ (by omega)⟩
def jk(o:Int)(q:Option (List Int))(e:List Int):Bool:=
 match q with
 |some x=>fA o x e
 |none=>true
def jl(p n o:Int):Option (List Int)->List Tm->Int
 |_,[]=>0
 |q,t::ts=>if bH t.1 1 (p-1)=false then 3 else if bQ n t.2≠0 then bQ n t.2 else if jk o q t.2=false then 4 else jl p n o (some t.2) ts
def iR(ts:List Tm):Nat->Option (List Int)
 |0=>none
 |k+1=>some (ts.getD k bT).2
theorem Bh(p n o:Int)(ts:List Tm)(k:Nat)(h:k<ts.length)(q:Option (List Int)):jl p n o q (ts.drop k)=if bH (ts.getD k bT).1 1 (p-1)=false then 3 else if bQ n (ts.getD k bT).2≠0 then bQ n (ts.getD k bT).2 else if jk o q (ts.getD k bT).2=false then 4 else jl p n o (iR ts (k+1)) (ts.drop (k+1)):=by
 rw[LY h];have e:ts.getD k bT=ts[k]:=by simp[Lr,h]
 rw[iR,e];rfl
def cB(p n o:Int)(ts:List Tm):Int:=if 2000<ts.length then 2 else jl p n o none ts
theorem Bi{p o:Int}{N:Nat}:∀(ts:List Tm) (q:Option (List Int)),jl p N o q ts=0->(∀e,q=some e->e.length=N)->(∀t∈ts,(1<=t.1/\t.1<p)/\bQ N t.2=0)/\gK o ts/\(∀e t ts',q=some e->ts=t::ts'->0<aJ o e t.2)
 |[],q,_,_=>⟨λt ht=>by simp at ht,trivial,λe t ts' _ h=>by simp at h⟩
 |t::ts,q,h,hq=>by
  have hu:jl p N o q (t::ts)=if bH t.1 1 (p-1)=false then 3 else if bQ N t.2≠0 then bQ N t.2 else if jk o q t.2=false then 4 else jl p N o (some t.2) ts:=rfl
  rw[hu] at h;clear hu;by_cases h1:bH t.1 1 (p-1)=false
  .rw[LI h1] at h;omega
  rw[LH h1] at h;by_cases h2:bQ N t.2≠0
  .rw[LI h2] at h;exact absurd h h2
  rw[LH h2] at h;by_cases h3:jk o q t.2=false
  .rw[LI h3] at h;omega
  rw[LH h3] at h;have h2':bQ N t.2=0:=by omega
  have hl:t.2.length=N:=by have:=(jr h2').1;omega
  obtain⟨i1,i2,i3⟩:=Bi ts (some t.2) h (λe he=>by simp at he;rw[<-he];exact hl);have hb:1<=t.1/\t.1<p:=by simp[bH] at h1;omega
  refine⟨λu hu=>?_,⟨λu hu=>?_,i2⟩,λe u ts' he hu=>?_⟩
  .rcases LL.1 hu with rfl|hu
   .exact⟨hb,h2'⟩
   .exact i1 u hu
  .cases ts with
   |nil=>simp at hu
   |cons x xs=>
    have hx:=i3 t.2 x xs rfl rfl;rcases LL.1 hu with rfl|hu
    .exact hx
    .have l1:x.2.length=N:=by have:=(jr (i1 x (by simp)).2).1;omega
     have l2:u.2.length=N:=by have:=(jr (i1 u (by simp[hu])).2).1;omega
     exact mL o t.2 x.2 u.2 (by omega) (by omega) hx (i2.1 u hu)
  .rw[he] at h3;simp only[List.cons.injEq] at hu;obtain⟨rfl,_⟩:=hu;simpa [jk,fA] using h3
structure cQ(p o:Int)(N:Nat)(ts:List Tm):Prop where
 canon:dQ p o N ts
 bd:oW ts
 len:ts.length<=2000
 deg:∀t∈ts,ah t.2<=200
theorem oO{p o:Int}{N:Nat}{ts:List Tm}(h:cB p N o ts=0):cQ p o N ts:=by
 unfold cB at h;split at h
 .omega
 rename_i hl;obtain⟨h1,h2,_⟩:=Bi ts none h (λe he=>by simp at he);refine⟨⟨λt ht=>?_,h2,λt ht=>(h1 t ht).1⟩,λt ht x hx=>by have h9:=(jr (h1 t ht).2).2.1 x hx;omega,by omega,λt ht=>(jr (h1 t ht).2).2.2⟩;have:=(jr (h1 t ht).2).1;omega
theorem Jq(ts:List Tm)(k:Nat)(h:k<ts.length):ts.getD k bT∈ts.take (k+1):=by rw[LK h,Lr,Ls h,Lv];right;simp
theorem Bj{k:Nat}(h:0<k)(h2:k<=2000):IntKind.i64.wrap ((k:Int)-1)=(k:Int)-1:=by rw[IntKind.wrap_i64];omega
theorem Bk{k n:Nat}(h:0<k)(h2:k<n):(0:Int)<=(k:Int)-1/\(k:Int)-1<(n:Int)/\((k:Int)-1).toNat=k-1/\(1:Int)<=(k:Int)/\(k:Int)<=(n:Int)/\¬(k:Int)<1/\¬(n:Int)<=(k:Int)-1:=⟨by omega,by omega,by omega,by omega,by omega,by omega,by omega⟩
theorem Jr(p o:Int)(N:Nat):cQ p o N []:=⟨⟨λt ht=>by simp at ht,trivial,λt ht=>by simp at ht⟩,λt ht=>by simp at ht,by simp,λt ht=>by simp at ht⟩
theorem Js(p n o v:Int)(fv:Value)(ts:List Tm)(w:World)(hp:2<=p/\p<=101)(hn:1<=n/\n<=3)(ho:o=1\/o=2)(pf:Pl w fv ts):Calls prog 91 #[aT p n o v,fv] w λe w'=>e=.returned (.int .i64 (cB p n o ts))/\Below w.heap.size w w':=by
 obtain⟨fa,fc,rfl,_,hfc⟩:=pf;have HFC:=ac hfc;have HN:=ac hn;have HO:=ac ho;obtain⟨hp1,hp2⟩:=hp;clear hfc hn ho;obtain⟨w1,hw1⟩:∃w1,w1=w.alloc (.cells #[.int .i64 p,.int .i64 n,.int .i64 o,.int .i64 v] 23):=⟨_,rfl⟩;have hbx:bE w1 w.heap.size p n o v:=by rw[hw1];exact bE.new w p n o v _
 have hbw:Below w.heap.size w w1:=by rw[hw1];exact bv
 have HBX:=ac hbx;have HBW:=ac hbw;clear hbx hbw;by_cases hlen:2000<ts.length
 .have he:cB p n o ts=2:=by unfold cB;rw[LI hlen]
  rw[he];clear he;go_enter func91,ntmps91;go_wp2;go_ret;rw[<-hw1];exact⟨rfl,HBW.o⟩
 .have he:cB p n o ts=jl p n o none ts:=by unfold cB;rw[LH hlen]
  rw[he];clear he;go_enter func91,ntmps91;go_wp2_with fail;rw[<-hw1];clear hw1;go_loopw [5] (λi wr=>∃k:Nat,k<=ts.length/\i=.int .i64 k/\jl p n o none ts=jl p n o (iR ts k) (ts.drop k)/\(∀t∈ts.take k,bQ n t.2=0)/\Below w1.heap.size w1 wr) (λi _=>ts.length-(intOf i).toNat);case atStart=>exact⟨0,Ll _,rfl,rfl,by simp,Lf _ _⟩
  case round=>
   obtain⟨k,hk,rfl,herr,hall,hbr⟩:=hrel;have HBR:=ac hbr;have HALL:=ac hall;clear hall hbr;by_cases hk2:k<ts.length
   .obtain⟨b,off,rfl,hlt,hat⟩:=HFC.o (by omega);obtain⟨c0,ev,c1,hse⟩:=hat k hk2;have HER:=ac (herr.trans (Bh p n o ts k hk2 (iR ts k)));have HTK:Ma (∀t∈ts.take (k+1),t∈ts.take k\/t=ts.getD k bT):=by
     intro u hu;rw[LK hk2,Lv,Lw] at hu;rcases hu with hu|hu
     .exact L0 hu
     .right;rw[hu];simp[Lr,hk2]
    have HDN:=ac (HBW.o.trans (HBR.o.mono HBW.o.size));have HAT:=ac hat;clear herr hat;generalize ts.getD k bT=t at c0 hse HER HTK;obtain⟨tc,te⟩:=t;have HSE0:=ac hse;have HSE:=ac (hse.below HDN.o);obtain⟨ea,ec,rfl,_⟩:=hse;simp only at c0 c1;have bx:=HBX.o;obtain⟨_,bx0,bx1,bx2,bx3⟩:=bx;have KEEP:Ma (∀W,Below w1.heap.size w1 W->(Ma (Below w1.heap.size w1 W)/\W.cell? ⟨w.heap.size,0,none⟩=some (.int .i64 p)/\W.cell? ⟨w.heap.size,1,none⟩=some (.int .i64 n)/\W.cell? ⟨w.heap.size,2,none⟩=some (.int .i64 o)/\W.cell? ⟨w.heap.size,3,none⟩=some (.int .i64 v)/\W.cell? ⟨b,off+k*2,none⟩=some (.int .i64 tc)/\W.cell? ⟨b,off+k*2+1,none⟩=some (.slice ea te.length ec))):=
     λW hb=>⟨hb,ae bx0 hb,ae bx1 hb,ae bx2 hb,ae bx3 hb,ae (ae c0 HBW.o) hb,ae (ae c1 HBW.o) hb⟩
    have K0:=KEEP.o wr HBR.o;obtain⟨_,kp,_,_,_,kc0,kc1⟩:=K0;clear bx0 bx1 bx2 bx3;cases hb1:bH tc 1 (p-1)
    .go_wp2_with fail;go_quiet ((go_at_call 18;exact Calls.quiet_of_same (fo _ _ _ _)));have HQ1:=ac (below_drewN HBR.o nq);go_wp2;go_ret;exact⟨bJ (by rw[HER.o,LI hb1]),HBW.o.trans (HQ1.o.mono HBW.o.size)⟩
    .cases hb2:(bQ n te !=0)
     .have hb20:bQ n te=0:=by simpa using hb2
      have HB20:=ac hb20;rcases Nat.eq_zero_or_pos k with rfl|hpos
      .simp only[Nat.zero_mul,Nat.add_zero] at c0 c1 kc0 kc1 KEEP;go_wp2_with fail;go_quiet ((go_at_call 18;exact Calls.quiet_of_same (fo _ _ _ _)));have HQ1:=ac (below_drewN HBR.o nq);go_wp2_with fail;go_region_held (λW=>Ma (Below w1.heap.size w1 W)/\W.cell? ⟨w.heap.size,0,none⟩=some (.int .i64 p)/\W.cell? ⟨w.heap.size,1,none⟩=some (.int .i64 n)/\W.cell? ⟨w.heap.size,2,none⟩=some (.int .i64 o)/\W.cell? ⟨w.heap.size,3,none⟩=some (.int .i64 v)/\W.cell? ⟨b,off,none⟩=some (.int .i64 tc)/\W.cell? ⟨b,off+1,none⟩=some (.slice ea te.length ec))
        (first|exact KEEP.o _ HQ1.o.drew|exact KEEP.o _ (HQ1.o.drew.trans (hb9.mono HQ1.o.drew.size)))
        (first|(go_at_call 122;refine(qG p n o v _ te _ HN.o ?_).mono ?_;exact HSE.o.below (below_drewN (Lf _ _) _).drew;rintro e w9 ⟨rfl,hb9⟩))
       have HB9:=ac (show Below w1.heap.size w1 w9 from HQ1.o.drew.trans (hb9.mono HQ1.o.drew.size));clear hb9;try rw[HB20.o]
       go_wp2_with fail;go_quiet (fail);go_wp2;go_roundw;case rel=>exact⟨1,by omega,by go_num,by rw[HER.o,LH (by rw[hb1];simp),LH (by simpa using HB20.o)];simp[iR,jk],λt ht=>by
        rcases HTK.o t ht with h|h
        .simp at h
        .rw[h];exact HB20.o,below_drewN HB9.o _⟩
       case measure=>simp[intOf];omega
      .have hk3:k-1<ts.length:=by omega
       obtain⟨_,ev2,d1,hse2⟩:=HAT.o (k-1) hk3;have hse2':=hse2;have HPE:Ma (iR ts k=some (ts.getD (k-1) bT).2):=by obtain⟨m,rfl⟩:∃m,k=m+1:=⟨k-1,by omega⟩;rfl
       have HQE:=ac (HALL.o _ (by have h:=Jq ts (k-1) hk3;rwa [show k-1+1=k from Nat.sub_add_cancel hpos] at h));generalize ts.getD (k-1) bT=q at hse2 hse2' HPE HQE;obtain⟨qc,qe⟩:=q;have HSE2:=ac (hse2.below HDN.o);obtain⟨ea2,ec2,rfl,_⟩:=hse2;simp only at d1 HPE HQE;have hq:=jr HQE.o;have ht:=jr hb20;have HLL:Ma (qe.length=te.length):=by have h1:=hq.1;have h2:=ht.1;show _=_;omega
       have hq0:0<qe.length:=by have h1:=hq.1;have h2:=HN.o;omega
       have hq3:qe.length<=3:=by have h1:=hq.1;have h2:=HN.o;omega
       have HQB:=ac (Lg (show∀x∈qe,0<=x/\x<=40000 from λx hx=>by have:=hq.2.1 x hx;omega) (show∀x∈te,0<=x/\x<=40000 from λx hx=>by have:=ht.2.1 x hx;omega));have HSQ:=ac (Lg (hse2'.below HBW.o) (HSE0.o.below HBW.o));have KEEP2:Ma (∀W,Below w1.heap.size w1 W->(Ma (Below w1.heap.size w1 W)/\W.cell? ⟨w.heap.size,0,none⟩=some (.int .i64 p)/\W.cell? ⟨w.heap.size,1,none⟩=some (.int .i64 n)/\W.cell? ⟨w.heap.size,2,none⟩=some (.int .i64 o)/\W.cell? ⟨w.heap.size,3,none⟩=some (.int .i64 v)/\W.cell? ⟨b,off+k*2,none⟩=some (.int .i64 tc)/\W.cell? ⟨b,off+k*2+1,none⟩=some (.slice ea te.length ec)/\W.cell? ⟨b,off+(k-1)*2+1,none⟩=some (.slice ea2 qe.length ec2))):=λW hb=>by have h:=KEEP.o W hb;exact⟨h.1,h.2.1,h.2.2.1,h.2.2.2.1,h.2.2.2.2.1,h.2.2.2.2.2.1,h.2.2.2.2.2.2,ae (ae d1 HBW.o) hb⟩
       obtain⟨hq1,hq2,hq4,hq5,hq6,hq7,hq8⟩:=Bk hpos hk2;have hwr:=Bj hpos (Lk hk (Nat.not_lt.1 hlen));clear hq ht hb20;cases hb3:fA o qe te
       .go_wp2_with fail;go_quiet ((go_at_call 18;exact Calls.quiet_of_same (fo _ _ _ _)));have HQ1:=ac (below_drewN HBR.o nq);go_wp2_with fail;go_region_held (λW=>Ma (Below w1.heap.size w1 W)/\W.cell? ⟨w.heap.size,0,none⟩=some (.int .i64 p)/\W.cell? ⟨w.heap.size,1,none⟩=some (.int .i64 n)/\W.cell? ⟨w.heap.size,2,none⟩=some (.int .i64 o)/\W.cell? ⟨w.heap.size,3,none⟩=some (.int .i64 v)/\W.cell? ⟨b,off+k*2,none⟩=some (.int .i64 tc)/\W.cell? ⟨b,off+k*2+1,none⟩=some (.slice ea te.length ec))
         (first|exact KEEP.o _ HQ1.o.drew|exact KEEP.o _ (HQ1.o.drew.trans (hb9.mono HQ1.o.drew.size)))
         (first|(go_at_call 122;refine(qG p n o v _ te _ HN.o ?_).mono ?_;exact HSE.o.below (below_drewN (Lf _ _) _).drew;rintro e w9 ⟨rfl,hb9⟩))
        have HB9:=ac (show Below w1.heap.size w1 w9 from HQ1.o.drew.trans (hb9.mono HQ1.o.drew.size));clear hb9;rw[HB20.o];go_wp2_with fail;go_region_held (λW=>Ma (Below w1.heap.size w1 W)/\W.cell? ⟨w.heap.size,0,none⟩=some (.int .i64 p)/\W.cell? ⟨w.heap.size,1,none⟩=some (.int .i64 n)/\W.cell? ⟨w.heap.size,2,none⟩=some (.int .i64 o)/\W.cell? ⟨w.heap.size,3,none⟩=some (.int .i64 v)/\W.cell? ⟨b,off+k*2,none⟩=some (.int .i64 tc)/\W.cell? ⟨b,off+k*2+1,none⟩=some (.slice ea te.length ec)/\W.cell? ⟨b,off+(k-1)*2+1,none⟩=some (.slice ea2 qe.length ec2))
         (first|exact KEEP2.o _ HB9.o.drew|exact KEEP2.o _ (HB9.o.drew.trans (hb8.mono HB9.o.drew.size)))
         (first|(go_at_call 96;refine(zS p n o v _ _ qe te _ HO.o hq0 hq3 HLL.o HQB.o.1 HQB.o.2 ?_ ?_).mono ?_;exact HSQ.o.1.below HB9.o.drew;exact HSQ.o.2.below HB9.o.drew;rintro e w8 ⟨rfl,hb8⟩))
        have HB8:=ac (show Below w1.heap.size w1 w8 from HB9.o.drew.trans (hb8.mono HB9.o.drew.size));clear hb8;try rw[hb3]
        go_wp2_with fail;go_ret;exact⟨bJ (by rw[HER.o,LH (by rw[hb1];simp),LH (by simpa using HB20.o),LI (by rw[HPE.o];exact hb3)]),HBW.o.trans (HB8.o.mono HBW.o.size)⟩
       .go_wp2_with fail;go_quiet ((go_at_call 18;exact Calls.quiet_of_same (fo _ _ _ _)));have HQ1:=ac (below_drewN HBR.o nq);go_wp2_with fail;go_region_held (λW=>Ma (Below w1.heap.size w1 W)/\W.cell? ⟨w.heap.size,0,none⟩=some (.int .i64 p)/\W.cell? ⟨w.heap.size,1,none⟩=some (.int .i64 n)/\W.cell? ⟨w.heap.size,2,none⟩=some (.int .i64 o)/\W.cell? ⟨w.heap.size,3,none⟩=some (.int .i64 v)/\W.cell? ⟨b,off+k*2,none⟩=some (.int .i64 tc)/\W.cell? ⟨b,off+k*2+1,none⟩=some (.slice ea te.length ec))
         (first|exact KEEP.o _ HQ1.o.drew|exact KEEP.o _ (HQ1.o.drew.trans (hb9.mono HQ1.o.drew.size)))
         (first|(go_at_call 122;refine(qG p n o v _ te _ HN.o ?_).mono ?_;exact HSE.o.below (below_drewN (Lf _ _) _).drew;rintro e w9 ⟨rfl,hb9⟩))
        have HB9:=ac (show Below w1.heap.size w1 w9 from HQ1.o.drew.trans (hb9.mono HQ1.o.drew.size));clear hb9;rw[HB20.o];go_wp2_with fail;go_region_held (λW=>Ma (Below w1.heap.size w1 W)/\W.cell? ⟨w.heap.size,0,none⟩=some (.int .i64 p)/\W.cell? ⟨w.heap.size,1,none⟩=some (.int .i64 n)/\W.cell? ⟨w.heap.size,2,none⟩=some (.int .i64 o)/\W.cell? ⟨w.heap.size,3,none⟩=some (.int .i64 v)/\W.cell? ⟨b,off+k*2,none⟩=some (.int .i64 tc)/\W.cell? ⟨b,off+k*2+1,none⟩=some (.slice ea te.length ec)/\W.cell? ⟨b,off+(k-1)*2+1,none⟩=some (.slice ea2 qe.length ec2))
         (first|exact KEEP2.o _ HB9.o.drew|exact KEEP2.o _ (HB9.o.drew.trans (hb8.mono HB9.o.drew.size)))
         (first|(go_at_call 96;refine(zS p n o v _ _ qe te _ HO.o hq0 hq3 HLL.o HQB.o.1 HQB.o.2 ?_ ?_).mono ?_;exact HSQ.o.1.below HB9.o.drew;exact HSQ.o.2.below HB9.o.drew;rintro e w8 ⟨rfl,hb8⟩))
        have HB8:=ac (show Below w1.heap.size w1 w8 from HB9.o.drew.trans (hb8.mono HB9.o.drew.size));clear hb8;try rw[hb3]
        go_wp2_with fail;go_roundw;case rel=>exact⟨k+1,by omega,by go_num,by rw[HER.o,LH (by rw[hb1];simp),LH (by simpa using HB20.o),LH (by rw[HPE.o];simp[jk,hb3])],λt ht=>by
         rcases HTK.o t ht with h|h
         .exact HALL.o t h
         .rw[h];exact HB20.o,HB8.o⟩
        case measure=>simp[intOf];omega
     .go_wp2_with fail;go_quiet ((go_at_call 18;exact Calls.quiet_of_same (fo _ _ _ _)));have HQ1:=ac (below_drewN HBR.o nq);go_wp2_with fail;go_region_held (λW=>Ma (Below w1.heap.size w1 W)/\W.cell? ⟨w.heap.size,0,none⟩=some (.int .i64 p)/\W.cell? ⟨w.heap.size,1,none⟩=some (.int .i64 n)/\W.cell? ⟨w.heap.size,2,none⟩=some (.int .i64 o)/\W.cell? ⟨w.heap.size,3,none⟩=some (.int .i64 v)/\W.cell? ⟨b,off+k*2,none⟩=some (.int .i64 tc)/\W.cell? ⟨b,off+k*2+1,none⟩=some (.slice ea te.length ec))
       (first|exact KEEP.o _ HQ1.o.drew|exact KEEP.o _ (HQ1.o.drew.trans (hb9.mono HQ1.o.drew.size)))
       (first|(go_at_call 122;refine(qG p n o v _ te _ HN.o ?_).mono ?_;exact HSE.o.below (below_drewN (Lf _ _) _).drew;rintro e w9 ⟨rfl,hb9⟩))
      have HB9:=ac (show Below w1.heap.size w1 w9 from HQ1.o.drew.trans (hb9.mono HQ1.o.drew.size));clear hb9;go_wp2;go_ret;exact⟨bJ (by rw[HER.o,LH (by rw[hb1];simp),LI (by simpa using hb2)]),HBW.o.trans (HB9.o.mono HBW.o.size)⟩
   .go_wp2;go_ret;exact⟨bJ (by rw[herr,LZ (by omega)];cases k<;>rfl),HBW.o.trans (HBR.o.mono HBW.o.size)⟩
def cO(p n o:Int):List (List Tm)->Int
 |[]=>0
 |f::r=>if cB p n o f=0 then cO p n o r else cB p n o f
theorem Bl(p n o:Int)(fss:List (List Tm))(k:Nat)(h:k<fss.length):cO p n o (fss.drop k)=if cB p n o (fss.getD k [])=0 then cO p n o (fss.drop (k+1)) else cB p n o (fss.getD k []):=by rw[LY h];simp[cO,Lr,h]
theorem uP{p n o:Int}:∀{fss:List (List Tm)},cO p n o fss=0->∀f∈fss,cB p n o f=0
 |[],_,f,hf=>by simp at hf
 |g::r,h,f,hf=>by
  unfold cO at h;by_cases hg:cB p n o g=0
  .rw[LI hg] at h;rcases LL.1 hf with rfl|hf
   .exact hg
   .exact uP h f hf
  .rw[LH hg] at h;exact absurd h hg
theorem Jt(x:Value)(xs:List Int)(w:World)(h0:0<xs.length)(hm:xs.length<=3)(hb:∀x∈xs,0<=x/\x<=40000)(hs:Sl w x xs):Calls prog 38 #[x] w λe w'=>e=.returned (.int .i64 (ah xs))/\w'=w:=by obtain⟨a,cap,rfl,h1⟩:=hs;obtain⟨b,off,rfl,hlt,hc⟩:=h1 h0;exact lM xs b off cap w hb hm hc
def eJ(m:Int):List Tm->Int
 |[]=>m
 |t::ts=>eJ (if m<ah t.2 then ah t.2 else m) ts
theorem Ju(ts:List Tm):∀(m:Int)(k:Nat),k<ts.length->eJ m (ts.take (k+1))=if eJ m (ts.take k)<ah (ts.getD k bT).2 then ah (ts.getD k bT).2 else eJ m (ts.take k):=by
 induction ts with
 |nil=>intro m k h;simp at h
 |cons t ts ih=>
  intro m k h;cases k with
  |zero=>simp[eJ]
  |succ k=>simp only[List.take_succ_cons,eJ];rw[ih _ k (by simpa using h)];simp
theorem Bm:∀(ts:List Tm)(m:Int),(∀t∈ts,ah t.2<=120000)->m<=120000->m<=eJ m ts/\eJ m ts<=120000
 |[],m,_,hm=>⟨Int.le_refl _,hm⟩
 |t::ts,m,h,hm=>by simp only[eJ];have h1:=h t (by simp);have h2:=Bm ts (if m<ah t.2 then ah t.2 else m) (λu hu=>h u (by simp[hu])) (by split<;>omega);refine⟨Int.le_trans ?_ h2.1,h2.2⟩;split<;>omega
theorem Jv(x:Value)(fs:List Tm)(w:World)(hm:fs.length<=2400000000000)(hl:∀t∈fs,0<t.2.length/\t.2.length<=3/\∀x∈t.2,0<=x/\x<=40000)(pf:Pl w x fs):Calls prog 37 #[x] w λe w'=>e=.returned (.int .i64 (eJ (-1) fs))/\w'=w:=by
 obtain⟨fa,fc,rfl,_,hfc⟩:=pf;have HFC:=ac hfc;have HL:=ac hl;have HS:Ma (∀t∈fs,0<=ah t.2/\ah t.2<=120000):=λt ht=>by have h1:=hl t ht;have h2:=mj t.2 h1.2.2;omega
 clear hfc hl;go_enter func37,ntmps37;go_wp2;go_loop [3,4] (λm i=>∃k:Nat,k<=fs.length/\i=.int .i64 k/\m=.int .i64 (eJ (-1) (fs.take k))) (λ_ i=>fs.length-(intOf i).toNat);case atStart=>exact⟨0,Ll _,rfl,rfl⟩
 case round=>
  obtain⟨k,hk,rfl,rfl⟩:=hrel;by_cases hk2:k<fs.length
  .obtain⟨b,off,rfl,hlt,hat⟩:=HFC.o (by omega);obtain⟨c0,ev,c1,hse⟩:=hat k hk2;have HT:=ac (Ju fs (-1) k hk2);have HLK:=ac (HL.o _ (mh fs k hk2));have htop:=Bm (fs.take k) (-1) (λt ht=>(HS.o t (L6 ht)).2) (by omega);generalize eJ (-1) (fs.take k)=m at HT htop;generalize fs.getD k bT=t at c0 hse HT HLK;obtain⟨tc,te⟩:=t;have HSE:=ac hse;obtain⟨ea,ec,rfl,_⟩:=hse;simp only at c1;have hsb:=mj te HLK.o.2.2;have hl3:te.length<=3:=HLK.o.2.1;have HDG:=ac (λW (h:Sl W (.slice ea te.length ec) te)=>Jt _ te W HLK.o.1 HLK.o.2.1 HLK.o.2.2 h);clear hat c0;by_cases hgt:m<ah te
   .go_wp2_with (go_at_call 38;refine(HDG.o _ HSE.o).mono ?_;rintro e w' ⟨rfl,rfl⟩);go_round;case rel=>exact⟨k+1,by omega,by go_num,by rw[HT.o,LI hgt]⟩
    case measure=>simp[intOf];omega
   .go_wp2_with (go_at_call 38;refine(HDG.o _ HSE.o).mono ?_;rintro e w' ⟨rfl,rfl⟩);go_round;case rel=>exact⟨k+1,by omega,by go_num,by rw[HT.o,LH (Int.not_lt.2 hgt)]⟩
    case measure=>simp[intOf];omega
  .go_wp2;go_ret;exact⟨bJ (by rw[Lz (by omega)]),rfl⟩
def cz(w:World)(g:Nat):Prop:=∀j u,w.cell? ⟨g,j,none⟩=some u->∃a n c,u=.slice a n c
theorem cz.below{w w':World}{g:Nat}(h:cz w g)(hlt:g<w.heap.size)(hb:Below w.heap.size w w'):cz w' g:=by intro j u hu;rw[hb.cell (p:=⟨g,j,none⟩) hlt] at hu;exact h j u hu
theorem jM{w w':World}{g b o:Nat}(hg:w.grownBy w' (some g))(hlt:b<w.heap.size)(hne:b≠g):w'.cell? ⟨b,o,none⟩=w.cell? ⟨b,o,none⟩:=
 World.cell?_of_block (hg.block b hlt (by simpa using hne))
theorem Jw{w w':World}{g:Nat}(hk:cz w g)(hg:w.grownBy w' (some g)){v:Value}{xs:List Int}(h:Sl w v xs):Sl w' v xs:=by
 obtain⟨a,cap,rfl,h⟩:=h;refine⟨a,cap,rfl,λhp=>?_⟩;obtain⟨b,off,rfl,hlt,hc⟩:=h hp;have hne:b≠g:=by intro e;subst e;obtain⟨_,_,_,hx⟩:=hk _ _ (hc 0 hp);cases hx
 exact⟨b,off,rfl,Lj hlt hg.size,λi hi=>by rw[jM hg hlt hne];exact hc i hi⟩
theorem l9{w w':World}{g:Nat}(hk:cz w g)(hg:w.grownBy w' (some g)){v:Value}{ts:List Tm}(h:Pl w v ts):Pl w' v ts:=by
 obtain⟨a,cap,rfl,hcap,h⟩:=h;refine⟨a,cap,rfl,hcap,λhp=>?_⟩;obtain⟨b,off,rfl,hlt,hc⟩:=h hp;have hne:b≠g:=by intro e;subst e;obtain⟨_,_,_,hx⟩:=hk _ _ (hc 0 hp).1;cases hx
 refine⟨b,off,rfl,Lj hlt hg.size,λi hi=>?_⟩;obtain⟨h1,u,h2,h3⟩:=hc i hi;exact⟨by rw[jM hg hlt hne];exact h1,u,by rw[jM hg hlt hne];exact h2,Jw hk hg h3⟩
theorem Bn{w:World}{C:Array Value}{T:TypeId}(h:∀u∈C.toList,∃a n c,u=.slice a n c):cz (w.alloc (.cells C T)) w.heap.size:=by
 intro j u hu;have e:(w.alloc (.cells C T)).cell? ⟨w.heap.size,j,none⟩=C[j]?:=by unfold World.cell?;rw[show (w.alloc (.cells C T)).heap[w.heap.size]?=some (.cells C T (0,0)) from heap_alloc_new w _];simp
 rw[e] at hu;exact h u (by rw[Array.mem_toList_iff];exact Array.mem_of_getElem? hu)
theorem uI{w:World}{g:Nat}{C:Array Value}{T:TypeId}(hg:w.heap[g]?=some (.cells C T (0,0)))(h:∀u∈C.toList,∃a n c,u=.slice a n c):cz w g:=by
 intro j u hu;have e:w.cell? ⟨g,j,none⟩=C[j]?:=by unfold World.cell?;rw[hg];simp
 rw[e] at hu;exact h u (by rw[Array.mem_toList_iff];exact Array.mem_of_getElem? hu)
theorem AU{w:World}{g:Nat}{C:Array Value}{T:TypeId}(hg:w.heap[g]?=some (.cells C T (0,0)))(h:cz w g):∀u∈C.toList,∃a n c,u=.slice a n c:=by intro u hu;obtain⟨j,hj,rfl⟩:=List.getElem_of_mem hu;refine h j _ ?_;unfold World.cell?;rw[hg];simp at hj⊢
theorem yr{P:Program}(w:World)(base:Nat)(t ty e:TypeId)(i:TypeInfo)(ht:P.underlying t=some (.slice e))(hi:P.info? e=some i)(hz:i.zero=some (.slice none 0 0))(hsize:i.size=1)(hby:i.bytes=24)(v:Value)(n:Nat)(xs:List Value)(hown:w.ownsRow base e 1 v n xs)(hk:∀g,v.ownBlock=some g->cz w g)(a:Addr)(c:Nat)(u:Value)(hu:∃a n c,u=.slice a n c)(hnew:∀j x,[u][j]?=some x->w.cell? (a.add j)=some x)(hn:n<=1200000000000)(hbase:base<=w.heap.size):∃v' w',(Builtin.append_ #[t,t] ty #[v,.slice (some a) 1 c]).run P w=.ok v' w'/\w'.ownsRow base e 1 v' (n+1) (xs++[u])/\w.grownBy w' v.ownBlock/\(∀g,v'.ownBlock=some g->cz w' g):=by
 have hone:∀x∈[u],x.oneCell'=true:=by intro x hx;rw[Lw] at hx;obtain⟨_,_,_,e⟩:=hu;rw[hx,e];rfl
 obtain⟨v',w',hr,h2,h3,_⟩:=run_append_own (P:=P) w base t ty e i (.slice none 0 0) 1 24 ht hi hz hsize hby rfl (by decide) v n xs hown a 1 c [u] (by simp) hnew hone (by unfold maxLen;omega) (by omega) hbase;refine⟨v',w',hr,h2,h3,?_⟩;have hzero:∀(m:Nat),∀x∈(Builtin.zeroCells (Value.cells (.slice none 0 0)) m).toList,∃a n c,x=.slice a n c:=by intro m x hx;simp[Builtin.zeroCells,Value.cells] at hx;obtain⟨l,_,hx⟩:=hx;rw[Nat.mod_one] at hx;exact⟨none,0,0,by rw[<-hx];rfl⟩
 rcases hown.2 with ⟨rfl,rfl⟩|⟨g,cap,af,rfl,hbg,hg,hnc,hcm,hcs,htake⟩
 .have hr2:=run_append_nil (P:=P) w t ty e i (.slice none 0 0) ht hi hz a 1 c [u] (by rw[hsize];rfl) hnew (by omega) (by omega) (by rw[hby];omega);rw[hr] at hr2;simp only[Result.ok.injEq] at hr2;obtain⟨rfl,rfl⟩:=hr2;intro g hg;simp only[Value.ownBlock,LA] at hg;subst hg;refine Bn (w:=w.drew) (λx hx=>?_);rw[Array.toList_append,Lv] at hx;rcases hx with hx|hx
  .simp at hx;rw[hx];exact hu
  .exact hzero _ x hx
 .have hcur:=AU hg (hk g rfl);by_cases hroom:n+1<=cap
  .have hr2:=run_append_room (P:=P) w t ty e i ht hi g n cap af hg a 1 c [u] (by rw[hsize];rfl) hnew hone hroom (by rw[hsize,hcs];simp;omega);rw[hr] at hr2;simp only[Result.ok.injEq] at hr2;obtain⟨rfl,rfl⟩:=hr2;intro g2 hg2;simp only[Value.ownBlock,LA] at hg2;subst hg2;refine uI (setRow_heap w g af _ e _ hg) (λx hx=>?_);rw[List.toList_toArray,Lv,Lv] at hx;rcases hx with (hx|hx)|hx
   .exact hcur x (L6 hx)
   .rw[Lw] at hx;rw[hx];exact hu
   .exact hcur x (List.mem_of_mem_drop hx)
  .have holds:∀j x,xs[j]?=some x->w.cell? ((⟨g,0,none⟩:Addr).add j)=some x:=hown.cells (g:=g) rfl;have hr2:=run_append_grow (P:=P) w t ty e i (.slice none 0 0) ht hi hz ⟨g,0,none⟩ n cap xs (by rw[hsize];exact hown.1) holds a 1 c [u] (by rw[hsize];rfl) hnew (by omega) (by omega) (growslice_fits (by omega) (by rw[hby];omega));rw[hr] at hr2;simp only[Result.ok.injEq] at hr2;obtain⟨rfl,rfl⟩:=hr2;intro g2 hg2;simp only[Value.ownBlock,LA] at hg2;subst hg2;refine Bn (w:=w.drew) (λx hx=>?_);rw[Array.toList_append,Array.toList_append,Lv,Lv] at hx;rcases hx with (hx|hx)|hx
   .rw[List.toList_toArray,<-htake] at hx;exact hcur x (L6 hx)
   .simp at hx;rw[hx];exact hu
   .exact hzero _ x hx
def aB:Value:=.slice none 0 0
structure fj(B:Nat)(w:World)(v:Value)(us:List Value)(fss:List (List Tm)):Prop where
 len:us.length=fss.length
 own:w.ownsRow B 59 1 v fss.length us
 kind:∀g,v.ownBlock=some g->cz w g
 pls:∀i,i<fss.length->Pl w (us.getD i aB) (fss.getD i [])
theorem fj.next{B:Nat}{w w':World}{v:Value}{us:List Value}{fss:List (List Tm)}(h:fj B w v us fss)(hb:Below w.heap.size w w'):fj B w' v us fss:=
 ⟨h.len,aK h.own hb,λg hg=>(h.kind g hg).below (Lb h.own g hg).2 hb,λi hi=>(h.pls i hi).below hb⟩
theorem fj.nil(B:Nat)(w:World):fj B w (.slice none 0 0) [] []:=
 ⟨rfl,World.ownsRow_nil _ _ _ _,λg hg=>by simp[Value.ownBlock] at hg,λi hi=>by simp at hi⟩
theorem fj.snoc{B:Nat}{W W2:World}{v v2:Value}{us:List Value}{fss:List (List Tm)}{u:Value}{f:List Tm}(h:fj B W v us fss)(hu:Pl W u f)(h2:W2.ownsRow B 59 1 v2 (fss.length+1) (us++[u]))(g2:W.grownBy W2 v.ownBlock)(k2:∀g,v2.ownBlock=some g->cz W2 g):fj B W2 v2 (us++[u]) (fss++[f]):=by
 have keep:∀{x:Value}{ts:List Tm},Pl W x ts->Pl W2 x ts:=by
  intro x ts hx;cases ho:v.ownBlock with
  |none=>rw[ho] at g2;exact hx.below ⟨g2.os,g2.tape,g2.output,g2.size,λk hk=>g2.block k hk (by simp)⟩
  |some g=>rw[ho] at g2;exact l9 (h.kind g ho) g2 hx
 refine⟨by simp[h.len],by rw[Lx];exact h2,k2,λi hi=>?_⟩;rw[Lx] at hi;simp only[LN,List.length_nil] at hi;rcases Nat.lt_or_ge i fss.length with hl|hl
 .have e1:(us++[u]).getD i aB=us.getD i aB:=by simp[Lr,LQ (show i<us.length by rw[h.len];exact hl)]
  have e2:(fss++[f]).getD i []=fss.getD i []:=by simp[Lr,LQ hl]
  rw[e1,e2];exact keep (h.pls i hl)
 .have e:i=fss.length:=by omega
  subst e;have e1:(us++[u]).getD fss.length aB=u:=by rw[<-h.len];simp[Lr]
  have e2:(fss++[f]).getD fss.length []=f:=by simp[Lr]
  rw[e1,e2];exact keep hu
theorem fj.grown{B:Nat}{w W w':World}{v:Value}{us:List Value}{fss:List (List Tm)}(h:fj B W v us fss)(hb:Below B w W)(hg:W.grownBy w' v.ownBlock)(hB:B<=w.heap.size):Below B w w':=i8 h.own hb hg hB
end Go.Proofs.YteimdcndjjclnaaGreat
namespace Go.Proofs.YteimdcndjjclnaaGreat
open Go.Proofs.Tryz
set_option linter.all false
theorem Bo{p o:Int}:∀(l out:List Tm)(x:Tm),x∈l.foldl (bN p o) out->(∃y∈l,x.2=y.2)\/∃u∈out,x.2=u.2
 |[],out,x,h=>L3 ⟨x,h,rfl⟩
 |t::l,out,x,h=>by
  rcases Bo l (bN p o out t) x h with ⟨y,hy,e⟩|⟨u,hu,e⟩
  .exact L0 ⟨y,by simp[hy],e⟩
  .rcases qU hu with e2|⟨y,hy,e2⟩
   .exact L0 ⟨t,by simp,by rw[e,e2]⟩
   .exact L3 ⟨y,hy,by rw[e,e2]⟩
theorem Jy{p o:Int}{l:List Tm}{x:Tm}(h:x∈eL p o l):∃y∈l,x.2=y.2:=by
 rcases Bo l [] x (LR.1 h).1 with h|⟨u,hu,_⟩
 .exact h
 .simp at hu
theorem Jz{o:Int}{xs ys:List Int}(h:0<aJ o xs ys):ah ys<=ah xs:=by
 have h2:=fz (ah xs) (ah ys);unfold aJ at h;by_cases hz:aI (ah xs) (ah ys)=0
 .omega
 .rw[LH hz] at h;omega
theorem AA{p o:Int}{N:Nat}{t:Tm}{ts:List Tm}(h:dQ p o N (t::ts)):∀x∈t::ts,ah x.2<=ah t.2:=by
 intro x hx;rcases LL.1 hx with rfl|hx
 .exact Int.le_refl _
 .exact Jz (h.falls.1 x hx)
end Go.Proofs.YteimdcndjjclnaaGreat
namespace Go.Proofs.YteimdcndjjclnaaGreat
set_option linter.all false
open Go.Proofs.Tryz Go.RowKit
def Bp(p n o v:Int)(chk:List (List Tm)->Int):Prop:=
 (∀(fss:List (List Tm)) (lv:Value) (w:World),fss.length<=1200000000000->Vl w lv fss->Calls prog 123 #[aT p n o v,lv] w λe w'=>e=.returned (.int .i64 (chk fss))/\Below w.heap.size w w')/\
 (∀fss,fss≠[]->chk fss=0->a8 p n o v=0/\∀f∈fss,cB p n o f=0)/\
 (a8 p n o v=0->∀fss,(∀f∈fss,cB p n o f=0)->chk fss=0)
theorem JA{w:World}{x:Value}{fs:List Tm}{b c:Nat}(hf:Pl w x fs)(hlt:b<w.heap.size)(c0:w.cell? ⟨b,0,none⟩=some x):Vl w (.slice (some ⟨b,0,none⟩) 1 c) [fs]:=by
 refine⟨_,c,rfl,λ_=>⟨b,0,rfl,hlt,λi hi=>?_⟩⟩;simp only[LN,List.length_nil] at hi;rcases i with _|i
 .exact⟨x,c0,hf⟩
 .omega
theorem JB{p n o v:Int}{f:List Tm}(hr:a8 p n o v=0)(h:cB p n o f=0):cQ p o n.toNat f/\0<n.toNat/\n.toNat<=3/\bm p=0/\(2<=p/\p<=101)/\(o=1\/o=2):=by
 obtain⟨h1,h2,h3,h4,_⟩:=jq hr;have e:n=(n.toNat:Int):=by omega
 rw[e] at h;exact⟨oO h,by omega,by omega,h1,fq h1,h4⟩
def fB(least p n:Int)(t:Tm):Int:=if t.1<least\/p<=t.1 then 3 else bQ n t.2
def fP(p n o:Int)(ts:List Tm)(k:Nat):Int:=
 if fB 1 p n (ts.getD k bT)≠0 then fB 1 p n (ts.getD k bT) else if jk o (iR ts k) (ts.getD k bT).2=false then 4 else 0
def iS(E:Nat->Int):Nat->Nat->Int
 |0,_=>0
 |m+1,k=>if E k≠0 then E k else iS E m (k+1)
theorem Bq(E:Nat->Int){k m:Nat}(h:k<m):iS E (m-k) k=if E k≠0 then E k else iS E (m-(k+1)) (k+1):=by obtain⟨d,rfl⟩:∃d,m=k+1+d:=⟨m-(k+1),by omega⟩;rw[show k+1+d-k=d+1 by omega,show k+1+d-(k+1)=d by omega];rfl
theorem Br{p n o:Int}(ts:List Tm):∀(m k:Nat),k+m=ts.length->iS (fP p n o ts) m k=jl p n o (iR ts k) (ts.drop k)
 |0,k,h=>by rw[LZ (by omega)];rfl
 |m+1,k,h=>by
  have hk:k<ts.length:=by omega
  rw[Bh p n o ts k hk];have ih:=Br (p:=p) (n:=n) (o:=o) ts m (k+1) (by omega);have hu:iS (fP p n o ts) (m+1) k=if fP p n o ts k≠0 then fP p n o ts k else iS (fP p n o ts) m (k+1):=rfl
  rw[hu,ih];unfold fP fB;generalize ts.getD k bT=t;have hb:bH t.1 1 (p-1)=false↔(t.1<1\/p<=t.1):=by
   have e:bH t.1 1 (p-1)=decide (1<=t.1/\t.1<=p-1):=by simp[bH]
   rw[e,decide_eq_false_iff_not];omega
  by_cases h1:t.1<1\/p<=t.1
  .rw[LI (hb.2 h1),LI h1];simp
  .rw[LH (λh=>h1 (hb.1 h)),LH h1];by_cases h2:bQ n t.2≠0
   .rw[LI h2,LI h2,LI h2]
   .rw[LH h2,LH h2];cases h3:jk o (iR ts k) t.2<;>simp
theorem JC{p n o:Int}{ts:List Tm}{k:Nat}(h:fP p n o ts k=0):bQ n (ts.getD k bT).2=0:=by
 unfold fP at h;by_cases h1:fB 1 p n (ts.getD k bT)=0
 .unfold fB at h1;split at h1
  .omega
  .exact h1
 .rw[LI h1] at h;exact absurd h h1
theorem JD{p n o v:Int}{te:List Int}(hR:a8 p n o v=0):kB p n o v [te]=bQ n te:=by
 unfold kB;rw[LI hR];simp only[jP];split
 .rename_i h;exact h.symm
 .rfl
theorem rd(p n o v least c:Int)(ev:Value)(te:List Int)(w:World)(hR:a8 p n o v=0)(hs:Sl w ev te):Calls prog 163 #[aT p n o v,.int .i64 least,.agg #[.int .i64 c,ev]] w λe w'=>e=.returned (.int .i64 (fB least p n (c,te)))/\Below w.heap.size w w':=by
 have HS:=ac hs;have HALL:=ac (JD (te:=te) hR);obtain⟨a,cap,rfl,_⟩:=hs;have HB2:Ma (∀A B,Below w.heap.size w ((w.alloc A).alloc B)):=λA B=>fS;clear hR;by_cases h1:c<least
 .have HE:Ma (fB least p n (c,te)=3):=by show _=_;unfold fB;rw[LI (L0 h1)]
  rw[HE.o];go_enter func163,ntmps163;go_wp2;go_ret;exact⟨rfl,HB2.o _ _⟩
 .by_cases h2:p<=c
  .have HE:Ma (fB least p n (c,te)=3):=by show _=_;unfold fB;rw[LI (L3 h2)]
   rw[HE.o];go_enter func163,ntmps163;go_wp2;go_ret;exact⟨rfl,HB2.o _ _⟩
  .have HE:Ma (fB least p n (c,te)=bQ n te):=by show _=_;unfold fB;rw[LH (by simp only;omega)]
   rw[HE.o];go_enter func163,ntmps163;go_wp2_with (go_at_call 178;refine(Cc p n o v _ te _ (HS.o.below (HB2.o _ _))).mono ?_;rw[HALL.o];rintro e w2 ⟨rfl,hb2⟩;have HB9:=ac ((HB2.o _ _).trans (hb2.mono (HB2.o _ _).size));clear hb2);go_ret;exact⟨rfl,HB9.o⟩
theorem JE(p n o v:Int)(fv:Value)(ts:List Tm)(k:Nat)(w:World)(hR:a8 p n o v=0)(hk2:k<ts.length)(hlen:ts.length<=2000)(hq:∀j,j<k->bQ n (ts.getD j bT).2=0)(pf:Pl w fv ts):Calls prog 150 #[aT p n o v,fv,.int .i64 k] w λe w'=>e=.returned (.int .i64 (fP p n o ts k))/\Below w.heap.size w w':=by
 obtain⟨fa,fc,rfl,_,hfc⟩:=pf;obtain⟨b,off,rfl,hlt,hat⟩:=hfc (by omega);obtain⟨_,hn1,hn2,ho,_⟩:=jq hR;have HR:=ac hR;have HO:=ac ho;have HQ:=ac hq;obtain⟨w1,hw1⟩:∃w1,w1=w.alloc (.cells #[.int .i64 p,.int .i64 n,.int .i64 o,.int .i64 v] 23):=⟨_,rfl⟩;have hbx:bE w1 w.heap.size p n o v:=by rw[hw1];exact bE.new w p n o v _
 have hbw:Below w.heap.size w w1:=by rw[hw1];exact bv
 obtain⟨_,bx0,bx1,bx2,bx3⟩:=hbx;have HBW:=ac hbw;have HB0:Ma (Below w1.heap.size w1 w1.drew):=(Lf _ _).drew;obtain⟨c0,ev,c1,hse⟩:=hat k hk2;have HAT:=ac hat;have HER:Ma (fP p n o ts k=if fB 1 p n (ts.getD k bT)≠0 then fB 1 p n (ts.getD k bT) else if jk o (iR ts k) (ts.getD k bT).2=false then 4 else 0):=rfl;generalize ts.getD k bT=t at c0 hse HER;obtain⟨tc,te⟩:=t;have HSE:=ac (hse.below hbw);obtain⟨ea,ec,rfl,_⟩:=hse;simp only at c0 c1 HER;have KEEP:Ma (∀W,Below w1.heap.size w1 W->(Ma (Below w1.heap.size w1 W)/\W.cell? ⟨w.heap.size,0,none⟩=some (.int .i64 p)/\W.cell? ⟨w.heap.size,1,none⟩=some (.int .i64 n)/\W.cell? ⟨w.heap.size,2,none⟩=some (.int .i64 o)/\W.cell? ⟨w.heap.size,3,none⟩=some (.int .i64 v)/\W.cell? ⟨b,off+k*2,none⟩=some (.int .i64 tc)/\W.cell? ⟨b,off+k*2+1,none⟩=some (.slice ea te.length ec))):=
  λW hb=>⟨hb,ae bx0 hb,ae bx1 hb,ae bx2 hb,ae bx3 hb,ae (ae c0 hbw) hb,ae (ae c1 hbw) hb⟩
 have KEEPC:=ac (fun(W:World)(hb:Below w1.heap.size w1 W)(b2 o2:Nat)(u:Value)(hc:w.cell? ⟨b2,o2,none⟩=some u)=>ae (ae hc hbw) hb);clear hR ho hq hat c0 c1 bx0 bx1 bx2 bx3 hbw;cases hz:(fB 1 p n (tc,te) !=0)
 .have hz0:fB 1 p n (tc,te)=0:=by simpa using hz
  have HZ:=ac hz0;have hem:bQ n te=0:=by
   unfold fB at hz0;split at hz0
   .omega
   .exact hz0
  have HEM:=ac hem;clear hz0 hem;rcases Nat.eq_zero_or_pos k with rfl|hpos
  .simp only[Nat.zero_mul,Nat.add_zero] at KEEP;have HEE:Ma (fP p n o ts 0=0):=by show _=_;rw[HER.o,LH (by simpa using HZ.o),LH (by simp[iR,jk])]
   rw[HEE.o];go_enter func150,ntmps150;go_wp2_with fail;rw[<-hw1];clear hw1;go_region_held (λW=>Ma (Below w1.heap.size w1 W)/\W.cell? ⟨w.heap.size,0,none⟩=some (.int .i64 p)/\W.cell? ⟨w.heap.size,1,none⟩=some (.int .i64 n)/\W.cell? ⟨w.heap.size,2,none⟩=some (.int .i64 o)/\W.cell? ⟨w.heap.size,3,none⟩=some (.int .i64 v)/\W.cell? ⟨b,off,none⟩=some (.int .i64 tc)/\W.cell? ⟨b,off+1,none⟩=some (.slice ea te.length ec))
    (first|exact KEEP.o _ HB0.o|exact KEEP.o _ (HB0.o.trans (hb9.mono HB0.o.size)))
    (first|(go_at_call 163;refine(rd p n o v 1 tc _ te _ HR.o ?_).mono ?_;exact HSE.o.below HB0.o;rintro e w9 ⟨rfl,hb9⟩))
   have HB9:=ac (show Below w1.heap.size w1 w9 from HB0.o.trans (hb9.mono HB0.o.size));clear hb9;rw[HZ.o];go_wp2_with fail;go_quiet (fail);have HQ1:=ac (below_drewN HB9.o nq);go_wp2;go_ret;exact⟨rfl,HBW.o.trans (HQ1.o.mono HBW.o.size)⟩
  .have hk3:k-1<ts.length:=by omega
   obtain⟨_,ev2,d1,hse2⟩:=HAT.o (k-1) hk3;have HPE:Ma (iR ts k=some (ts.getD (k-1) bT).2):=by obtain⟨m,rfl⟩:∃m,k=m+1:=⟨k-1,by omega⟩;rfl
   have HQE:=ac (HQ.o (k-1) (by omega));generalize ts.getD (k-1) bT=q at hse2 HPE HQE;obtain⟨qc,qe⟩:=q;have HSE2:=ac (hse2.below HBW.o);obtain⟨ea2,ec2,rfl,_⟩:=hse2;simp only at d1 HPE HQE;have hqo:=jr HQE.o;have hto:=jr HEM.o;have HLL:Ma (qe.length=te.length):=by have h1:=hqo.1;have h2:=hto.1;show _=_;omega
   have hq0:0<qe.length:=by have h1:=hqo.1;omega
   have hq3:qe.length<=3:=by have h1:=hqo.1;omega
   have HQB:=ac (Lg (show∀x∈qe,0<=x/\x<=40000 from λx hx=>by have:=hqo.2.1 x hx;omega) (show∀x∈te,0<=x/\x<=40000 from λx hx=>by have:=hto.2.1 x hx;omega));have KEEP2:Ma (∀W,Below w1.heap.size w1 W->(Ma (Below w1.heap.size w1 W)/\W.cell? ⟨w.heap.size,0,none⟩=some (.int .i64 p)/\W.cell? ⟨w.heap.size,1,none⟩=some (.int .i64 n)/\W.cell? ⟨w.heap.size,2,none⟩=some (.int .i64 o)/\W.cell? ⟨w.heap.size,3,none⟩=some (.int .i64 v)/\W.cell? ⟨b,off+k*2,none⟩=some (.int .i64 tc)/\W.cell? ⟨b,off+k*2+1,none⟩=some (.slice ea te.length ec)/\W.cell? ⟨b,off+(k-1)*2+1,none⟩=some (.slice ea2 qe.length ec2))):=λW hb=>by have h:=KEEP.o W hb;exact⟨h.1,h.2.1,h.2.2.1,h.2.2.2.1,h.2.2.2.2.1,h.2.2.2.2.2.1,h.2.2.2.2.2.2,KEEPC.o W hb _ _ _ d1⟩
   obtain⟨hq1,hq2,hq4,hq5,hq6,hq7,hq8⟩:=Bk hpos hk2;have hwr:=Bj hpos (Lk (Nat.le_of_lt hk2) hlen);clear hqo hto d1;by_cases hgt:aJ o qe te<=0
   .have HEE:Ma (fP p n o ts k=4):=by show _=_;rw[HER.o,LH (by simpa using HZ.o),HPE.o,LI];show fA o qe te=false;unfold fA;exact Lh (by omega)
    rw[HEE.o];go_enter func150,ntmps150;go_wp2_with fail;rw[<-hw1];clear hw1;go_region_held (λW=>Ma (Below w1.heap.size w1 W)/\W.cell? ⟨w.heap.size,0,none⟩=some (.int .i64 p)/\W.cell? ⟨w.heap.size,1,none⟩=some (.int .i64 n)/\W.cell? ⟨w.heap.size,2,none⟩=some (.int .i64 o)/\W.cell? ⟨w.heap.size,3,none⟩=some (.int .i64 v)/\W.cell? ⟨b,off+k*2,none⟩=some (.int .i64 tc)/\W.cell? ⟨b,off+k*2+1,none⟩=some (.slice ea te.length ec))
     (first|exact KEEP.o _ HB0.o|exact KEEP.o _ (HB0.o.trans (hb9.mono HB0.o.size)))
     (first|(go_at_call 163;refine(rd p n o v 1 tc _ te _ HR.o ?_).mono ?_;exact HSE.o.below HB0.o;rintro e w9 ⟨rfl,hb9⟩))
    have HB9:=ac (show Below w1.heap.size w1 w9 from HB0.o.trans (hb9.mono HB0.o.size));clear hb9;rw[HZ.o];go_wp2_with fail;go_region_held (λW=>Ma (Below w1.heap.size w1 W)/\W.cell? ⟨w.heap.size,0,none⟩=some (.int .i64 p)/\W.cell? ⟨w.heap.size,1,none⟩=some (.int .i64 n)/\W.cell? ⟨w.heap.size,2,none⟩=some (.int .i64 o)/\W.cell? ⟨w.heap.size,3,none⟩=some (.int .i64 v)/\W.cell? ⟨b,off+k*2,none⟩=some (.int .i64 tc)/\W.cell? ⟨b,off+k*2+1,none⟩=some (.slice ea te.length ec)/\W.cell? ⟨b,off+(k-1)*2+1,none⟩=some (.slice ea2 qe.length ec2))
     (first|exact KEEP2.o _ HB9.o.drew|exact KEEP2.o _ (HB9.o.drew.trans (hb8.mono HB9.o.drew.size)))
     (first|(go_at_call 164;refine(vO p n o v _ _ qe te _ HO.o hq0 hq3 HLL.o HQB.o.1 HQB.o.2 ?_ ?_).mono ?_;exact HSE2.o.below HB9.o.drew;exact HSE.o.below HB9.o.drew;rintro e w8 ⟨rfl,hb8⟩))
    have HB8:=ac (show Below w1.heap.size w1 w8 from HB9.o.drew.trans (hb8.mono HB9.o.drew.size));clear hb8;go_wp2_with fail;go_ret;exact⟨rfl,HBW.o.trans (HB8.o.mono HBW.o.size)⟩
   .have HEE:Ma (fP p n o ts k=0):=by show _=_;rw[HER.o,LH (by simpa using HZ.o),HPE.o,LH];show¬fA o qe te=false;unfold fA;rw[Li (show 0<aJ o qe te by omega)];simp
    rw[HEE.o];go_enter func150,ntmps150;go_wp2_with fail;rw[<-hw1];clear hw1;go_region_held (λW=>Ma (Below w1.heap.size w1 W)/\W.cell? ⟨w.heap.size,0,none⟩=some (.int .i64 p)/\W.cell? ⟨w.heap.size,1,none⟩=some (.int .i64 n)/\W.cell? ⟨w.heap.size,2,none⟩=some (.int .i64 o)/\W.cell? ⟨w.heap.size,3,none⟩=some (.int .i64 v)/\W.cell? ⟨b,off+k*2,none⟩=some (.int .i64 tc)/\W.cell? ⟨b,off+k*2+1,none⟩=some (.slice ea te.length ec))
     (first|exact KEEP.o _ HB0.o|exact KEEP.o _ (HB0.o.trans (hb9.mono HB0.o.size)))
     (first|(go_at_call 163;refine(rd p n o v 1 tc _ te _ HR.o ?_).mono ?_;exact HSE.o.below HB0.o;rintro e w9 ⟨rfl,hb9⟩))
    have HB9:=ac (show Below w1.heap.size w1 w9 from HB0.o.trans (hb9.mono HB0.o.size));clear hb9;rw[HZ.o];go_wp2_with fail;go_region_held (λW=>Ma (Below w1.heap.size w1 W)/\W.cell? ⟨w.heap.size,0,none⟩=some (.int .i64 p)/\W.cell? ⟨w.heap.size,1,none⟩=some (.int .i64 n)/\W.cell? ⟨w.heap.size,2,none⟩=some (.int .i64 o)/\W.cell? ⟨w.heap.size,3,none⟩=some (.int .i64 v)/\W.cell? ⟨b,off+k*2,none⟩=some (.int .i64 tc)/\W.cell? ⟨b,off+k*2+1,none⟩=some (.slice ea te.length ec)/\W.cell? ⟨b,off+(k-1)*2+1,none⟩=some (.slice ea2 qe.length ec2))
     (first|exact KEEP2.o _ HB9.o.drew|exact KEEP2.o _ (HB9.o.drew.trans (hb8.mono HB9.o.drew.size)))
     (first|(go_at_call 164;refine(vO p n o v _ _ qe te _ HO.o hq0 hq3 HLL.o HQB.o.1 HQB.o.2 ?_ ?_).mono ?_;exact HSE2.o.below HB9.o.drew;exact HSE.o.below HB9.o.drew;rintro e w8 ⟨rfl,hb8⟩))
    have HB8:=ac (show Below w1.heap.size w1 w8 from HB9.o.drew.trans (hb8.mono HB9.o.drew.size));clear hb8;go_wp2_with fail;go_ret;exact⟨rfl,HBW.o.trans (HB8.o.mono HBW.o.size)⟩
 .have HEE:Ma (fP p n o ts k=fB 1 p n (tc,te)):=by show _=_;rw[HER.o,LI (by simpa using hz)]
  rw[HEE.o];go_enter func150,ntmps150;go_wp2_with fail;rw[<-hw1];clear hw1;go_region_held (λW=>Ma (Below w1.heap.size w1 W)/\W.cell? ⟨w.heap.size,0,none⟩=some (.int .i64 p)/\W.cell? ⟨w.heap.size,1,none⟩=some (.int .i64 n)/\W.cell? ⟨w.heap.size,2,none⟩=some (.int .i64 o)/\W.cell? ⟨w.heap.size,3,none⟩=some (.int .i64 v)/\W.cell? ⟨b,off+k*2,none⟩=some (.int .i64 tc)/\W.cell? ⟨b,off+k*2+1,none⟩=some (.slice ea te.length ec))
   (first|exact KEEP.o _ HB0.o|exact KEEP.o _ (HB0.o.trans (hb9.mono HB0.o.size)))
   (first|(go_at_call 163;refine(rd p n o v 1 tc _ te _ HR.o ?_).mono ?_;exact HSE.o.below HB0.o;rintro e w9 ⟨rfl,hb9⟩))
  have HB9:=ac (show Below w1.heap.size w1 w9 from HB0.o.trans (hb9.mono HB0.o.size));clear hb9;go_wp2;go_ret;exact⟨rfl,HBW.o.trans (HB9.o.mono HBW.o.size)⟩
def qK(f:List Tm):Int:=match f with|[]=>0|t::_=>ah t.2
theorem Ip(x:Value)(f:List Tm)(w:World)(hf:Pl w x f)(hl:∀t∈f,0<t.2.length/\t.2.length<=3)(he:∀t∈f,∀e∈t.2,0<=e/\e<=400):Calls prog 42 #[x] w λe w'=>e=.returned (.int .i64 (qK f))/\w'=w:=by
 cases f with
 |nil=>obtain⟨a,cap,rfl,hcap,h⟩:=hf;go_enter func42,ntmps42;go_wp2;go_ret;exact⟨rfl,rfl⟩
 |cons t ts=>
  have h3:=(hl t (by simp)).2;have HB:Ma (∀x∈t.2,0<=x/\x<=40000):=λx hx=>by have:=he t (by simp) x hx;omega
  obtain⟨b,off,cap,ev,rfl,hcap,hlt,c0,c1,hse,_,_⟩:=hf.head;obtain⟨a,c,rfl,hs⟩:=hse;obtain⟨eb,eoff,rfl,helt,hei⟩:=hs (hl t (by simp)).1;have HEI:=ac hei;clear hei hs hf hl he;have hle:(0:Int)<(ts.length:Int)+1:=by omega
  have hne:((ts.length:Int)+1==0)=false:=by simp;omega
  have hn2:decide ((ts.length:Int)+1=0)=false:=by simp;omega
  have hn3:¬((ts.length:Int)+1=0):=by omega
  go_enter func42,ntmps42;go_wp2_with (go_at_call 69;refine(jo t.2 _ _ _ _ HB.o h3 HEI.o).mono ?_;rintro e w' ⟨rfl,rfl⟩);go_ret;exact⟨rfl,rfl⟩
end Go.Proofs.YteimdcndjjclnaaGreat
