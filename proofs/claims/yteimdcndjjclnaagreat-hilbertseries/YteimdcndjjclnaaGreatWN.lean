/- slices.Min, slices.Max; termDegrees. -/
import Derived.Test.YteimdcndjjclnaaGreatTM
set_option maxHeartbeats 2000000
set_option maxRecDepth 100000
namespace Go.Proofs.YteimdcndjjclnaaGreat
set_option linter.all false
open Go.Proofs.Tryz Go.RowKit
theorem J5(x:Value)(zs:List Int)(w:World)(hm:zs.length<=1200000000000)(h0:0<zs.length)(hs:Sl w x zs):Calls prog 47 #[x] w λe w'=>∃r:Int,e=.returned (.int .i64 r)/\(∀z∈zs,r<=z)/\r∈zs/\w'=w:=by
 obtain⟨a,cap,rfl,h1⟩:=hs;obtain⟨b,off,rfl,hlt,hc⟩:=h1 h0;have HC:=ac hc;have hcell0:=hc 0 h0;have HZ0:Ma (zs.take 1=[zs.getD 0 0]):=by show _=_;rw[LK h0];simp[Lr,h0]
 clear hc h1;rw[Nat.add_zero] at hcell0;generalize zs.getD 0 0=z0 at hcell0 HZ0;go_enter func47,ntmps47;go_wp2;go_loop [3,4] (λm i=>∃k:Nat,1<=k/\k<=zs.length/\i=.int .i64 k/\∃r:Int,m=.int .i64 r/\(∀z∈zs.take k,r<=z)/\r∈zs.take k) (λ_ i=>zs.length-(intOf i).toNat);case atStart=>exact⟨1,by omega,by omega,rfl,z0,rfl,by rw[HZ0.o];simp,by rw[HZ0.o];simp⟩
 case round=>
  clear hcell0 HZ0;obtain⟨k,hk1,hk,rfl,r,rfl,hr,hmem⟩:=hrel;have HR:=ac (Lg hr hmem);clear hr hmem;by_cases hk2:k<zs.length
  .have hcell:=HC.o k hk2;have HN:Ma (zs.take (k+1)=zs.take k++[zs.getD k 0]):=by show _=_;rw[LK hk2];simp[Lr,hk2]
   generalize zs.getD k 0=z at hcell HN;go_wp2;all_goals
    go_round;case rel=>
     refine⟨k+1,by omega,by omega,by go_num,_,rfl,?_,?_⟩
     .intro y hy;rw[HN.o,Lv,Lw] at hy;rcases hy with hy|hy
      .have:=HR.o.1 y hy;omega
      .omega
     .rw[HN.o,Lv,Lw];split<;>first|exact L3 rfl|exact L0 HR.o.2
    case measure=>simp[intOf];omega
  .have e:k=zs.length:=by omega
   subst e;go_wp2;go_ret;have h:=HR.o;rw[Lz (Lc _)] at h;exact⟨r,rfl,h.1,h.2,rfl⟩
theorem J6(x:Value)(zs:List Int)(w:World)(hm:zs.length<=1200000000000)(h0:0<zs.length)(hs:Sl w x zs):Calls prog 48 #[x] w λe w'=>∃r:Int,e=.returned (.int .i64 r)/\(∀z∈zs,z<=r)/\r∈zs/\w'=w:=by
 obtain⟨a,cap,rfl,h1⟩:=hs;obtain⟨b,off,rfl,hlt,hc⟩:=h1 h0;have HC:=ac hc;have hcell0:=hc 0 h0;have HZ0:Ma (zs.take 1=[zs.getD 0 0]):=by show _=_;rw[LK h0];simp[Lr,h0]
 clear hc h1;rw[Nat.add_zero] at hcell0;generalize zs.getD 0 0=z0 at hcell0 HZ0;go_enter func48,ntmps48;go_wp2;go_loop [3,4] (λm i=>∃k:Nat,1<=k/\k<=zs.length/\i=.int .i64 k/\∃r:Int,m=.int .i64 r/\(∀z∈zs.take k,z<=r)/\r∈zs.take k) (λ_ i=>zs.length-(intOf i).toNat);case atStart=>exact⟨1,by omega,by omega,rfl,z0,rfl,by rw[HZ0.o];simp,by rw[HZ0.o];simp⟩
 case round=>
  clear hcell0 HZ0;obtain⟨k,hk1,hk,rfl,r,rfl,hr,hmem⟩:=hrel;have HR:=ac (Lg hr hmem);clear hr hmem;by_cases hk2:k<zs.length
  .have hcell:=HC.o k hk2;have HN:Ma (zs.take (k+1)=zs.take k++[zs.getD k 0]):=by show _=_;rw[LK hk2];simp[Lr,hk2]
   generalize zs.getD k 0=z at hcell HN;go_wp2;all_goals
    go_round;case rel=>
     refine⟨k+1,by omega,by omega,by go_num,_,rfl,?_,?_⟩
     .intro y hy;rw[HN.o,Lv,Lw] at hy;rcases hy with hy|hy
      .have:=HR.o.1 y hy;omega
      .omega
     .rw[HN.o,Lv,Lw];split<;>first|exact L3 rfl|exact L0 HR.o.2
    case measure=>simp[intOf];omega
  .have e:k=zs.length:=by omega
   subst e;go_wp2;go_ret;have h:=HR.o;rw[Lz (Lc _)] at h;exact⟨r,rfl,h.1,h.2,rfl⟩
theorem J7{ops:Array Oper}{o:Oper}{a:Act}{w:World}{K:Act->World->Prop}{Q:Exit->Act->World->Prop}{E:Prop}(hgd:o.guard=none)(s x:Operand)(t:TypeId)(ho:o.op=.call {callee:=.builtin .append,args:=#[s,x],argTypes:=#[t,t]})(ht:prog.underlying t=some (.slice 3))(B:Nat)(v:Value)(L:List Int)(hs:a.eval s=v)(h:w.ownsRow B 3 1 v L.length (lu L))(ad:Addr)(c:Nat)(z:Int)(hx:a.eval x=.slice (some ad) 1 c)(hnew:∀j y,[Value.int .i64 z][j]?=some y->w.cell? (ad.add j)=some y)(hn:L.length<=1200000000000)(hB:B<=w.heap.size)(hK:∀v' w',w'.ownsRow B 3 1 v' (L++[z]).length (lu (L++[z]))->w.grownBy w' v.ownBlock->K (a.put o.dst v') w'):if Region.wanted o (yielded ops a.tmps)=true then Oper.wp prog o a w K Q else E:=by
 have hw:Region.wanted o (yielded ops a.tmps)=true:=by simp[Region.wanted,hgd]
 rw[LI hw];obtain⟨i0,hi,hz0,hz1,hz2⟩:=info_parts Tryz.infoInt;obtain⟨v',w',hr,h2,h3,_⟩:=run_append_own (P:=prog) w B t o.type 3 i0 _ 1 8 ht hi hz0 hz1 hz2 rfl (by decide) v L.length (lu L) h ad 1 c [.int .i64 z] rfl hnew (λu hu=>by rw[Lw] at hu;rw[hu];rfl) (by unfold maxLen;omega) (by omega) hB;unfold Oper.wp execOp;simp only[ho,resolve,invoke,builtin,Sem.run_bind,Sem.run_pure,Result.andThen_ok,List.map_toArray,List.map_cons,List.map_nil,hs,hx,hr];exact hK v' w' (by rw[oC];simpa [lu] using h2) h3
def cI(d:Int)(f:List Tm):List Int:=f.map λt=>d+ah t.2
def aY(ds:List Int)(fss:List (List Tm))(k:Nat):List Int:=(List.range k).flatMap λi=>cI (ds.getD i 0) (fss.getD i [])
theorem oJ(ds:List Int)(fss:List (List Tm))(k:Nat):aY ds fss (k+1)=aY ds fss k++cI (ds.getD k 0) (fss.getD k []):=by unfold aY;rw[List.range_succ,List.flatMap_append];simp
theorem uX{ds:List Int}{fss:List (List Tm)}{N:Nat}(h:∀f∈fss,f.length<=N):∀k,k<=fss.length->(aY ds fss k).length<=N*k
 |0,_=>by simp[aY]
 |k+1,hk=>by rw[oJ,Lx];have h1:=uX (ds:=ds) h k (by omega);have h2:=h _ (ik fss k (by omega));simp only[cI,LD];rw[Nat.mul_succ];omega
theorem J8(x y:Value)(p o:Int)(N:Nat)(ds:List Int)(fss:List (List Tm))(w:World)(hN0:0<N)(hN:N<=3)(hl:ds.length=fss.length)(hm:fss.length<=40)(hd:∀d∈ds,0<=d/\d<=200)(hf:∀f∈fss,cQ p o N f)(sd:Sl w x ds)(pf:Vl w y fss):Calls prog 46 #[x,y] w λe w'=>∃u,e=.returned u/\Sl w' u (aY ds fss fss.length)/\Below w.heap.size w w':=by
 have HX:=ac sd;have HY:=ac pf;have HD:=ac hd;have HF:=ac hf;have HL:=ac hl;obtain⟨ax,cx,rfl,hsx⟩:=sd;obtain⟨ay,cy,rfl,_⟩:=pf;have HLN:=ac (uX (ds:=ds) (fss:=fss) (N:=2000) (λf hf2=>(hf f hf2).len));have HSX:=ac hsx;clear hd hf hl hsx;go_enter func46,ntmps46;go_wp2_with fail;go_loopw [5,12] (λz i wr=>∃k:Nat,k<=fss.length/\i=.int .i64 k/\wr.ownsRow w.heap.size 3 1 z (aY ds fss k).length (lu (aY ds fss k))/\Below w.heap.size w wr) (λ_ i _=>fss.length-(intOf i).toNat);case atStart=>exact⟨0,Ll _,rfl,World.ownsRow_nil _ _ _ _,Lf _ _⟩
 case round=>
  obtain⟨k,hk,rfl,hown,hbr⟩:=hrel;have HOWN:=ac hown;have HBR:=ac hbr;obtain⟨za,zc,hz⟩:=fu hown;subst hz;clear hown hbr;by_cases hk2:k<fss.length
  .have hk3:k<ds.length:=by rw[HL.o];exact hk2
   obtain⟨b,off,fa,fc,rfl,hlt,c0,hpf⟩:=nw HY.o k hk2;obtain⟨b3,off3,rfl,hlt3,hc3⟩:=HSX.o (by omega);have g0:=hc3 k hk3;have hdk:=HD.o _ (ix ds k hk3);have HSU:=ac (oJ ds fss k);have HRT:=ac (HF.o _ (ik fss k hk2));have HLK:=ac (HLN.o k hk);have hkI:(k:Int)<(ds.length:Int):=by omega
   generalize aY ds fss k=L at HOWN HSU HLK;generalize fss.getD k []=f at c0 hpf HSU HRT;generalize ds.getD k 0=d at g0 hdk HSU;have HPF:=ac hpf;have HG0:=ac g0;have d0:=ae c0 HBR.o;have hfl2:f.length<=2000:=HRT.o.len;clear hpf c0 g0 hc3;go_wp2_with fail;go_loopw [5,19] (λz i wm=>∃(m:Nat)(M:List Int),m<=f.length/\i=.int .i64 m/\M=L++cI d (f.take m)/\M.length<=2000*k+m/\wm.ownsRow w.heap.size 3 1 z M.length (lu M)/\Below w.heap.size w wm) (λ_ i _=>f.length-(intOf i).toNat);case atStart=>exact⟨0,L,Ll _,rfl,by simp[cI],HLK.o,HOWN.o,HBR.o⟩
   case round=>
    clear HOWN HBR d0;obtain⟨m,M,hmm,rfl,hM,hMl,hown,hbm⟩:=hrel;have HM:=ac hM;have HOWN:=ac hown;have HBM:=ac hbm;obtain⟨za,zc,hz⟩:=fu hown;subst hz;clear hM hown hbm;by_cases hm2:m<f.length
    .obtain⟨fa2,fc2,hfv,_,hat0⟩:=HPF.o;obtain⟨b2,off2,hfa,hlt2,hat⟩:=hat0 (by omega);simp only[LB,true_and] at hfv;obtain⟨e1,e2⟩:=hfv;subst e1;subst e2;subst hfa;obtain⟨t0,ev,t1,hse⟩:=hat m hm2;have HTE:=ac (Lg (HRT.o.canon.len _ (mh f m hm2)) (Lg (HRT.o.bd.bd _ (mh f m hm2)) (HRT.o.deg _ (mh f m hm2))));have HTK:Ma (cI d (f.take (m+1))=cI d (f.take m)++[d+ah (f.getD m bT).2]):=by show _=_;unfold cI;rw[LK hm2,LO];simp[Lr,hm2]
     generalize f.getD m bT=t at t0 hse HTE HTK;have hte0:0<t.2.length:=by rw[HTE.o.1];exact hN0
     have hte3:t.2.length<=3:=by rw[HTE.o.1];exact hN
     obtain⟨ea,ec,rfl,hse1⟩:=hse;obtain⟨eb,eoff,rfl,helt,hei⟩:=hse1 hte0;have HEI:Ma (∀W,Below w.heap.size w W->eB W eb eoff t.2):=λW hb j hj=>ae (hei j hj) hb;have k0:=ae t0 HBM.o;have k1:=ae t1 HBM.o;obtain⟨w5,hw5⟩:∃w5,w5=wr.alloc (.cells #[.int .i64 t.1,.slice (some ⟨eb,eoff,none⟩) t.2.length ec] 57):=⟨_,rfl⟩;have hb5:Below wr.heap.size wr w5:=by rw[hw5];exact aj
     have hc5:w5.cell? ⟨wr.heap.size,1,none⟩=some (.slice (some ⟨eb,eoff,none⟩) t.2.length ec):=by rw[hw5];simp[go_sem]
     have HB5:=ac (HBM.o.trans (hb5.mono HBM.o.size));have HO5:=ac (aK HOWN.o hb5);obtain⟨S,hS⟩:∃S,ah t.2=S:=⟨_,rfl⟩;obtain⟨hS1,hS2⟩:0<=S/\S<=120000:=by have:=mj t.2 HTE.o.2.1;rw[hS] at this;omega
     obtain⟨hd1,hd2⟩:=hdk;have HDG:=ac (fun(W:World)(hb:Below w.heap.size w W)=>jo t.2 eb eoff ec W HTE.o.2.1 hte3 (HEI.o W hb));rw[hS] at HDG HTK;have hlt5:wr.heap.size<w5.heap.size:=by rw[hw5];simp
     have HC5:=ac hc5;have KEEP:Ma (∀W,Below w.heap.size w W->W.cell? ⟨wr.heap.size,1,none⟩=some (.slice (some ⟨eb,eoff,none⟩) t.2.length ec)->(Ma (Below w.heap.size w W)/\W.cell? ⟨b3,off3+k,none⟩=some (.int .i64 d)/\W.cell? ⟨wr.heap.size,1,none⟩=some (.slice (some ⟨eb,eoff,none⟩) t.2.length ec))):=
      λW hb hc=>⟨hb,ae HG0.o hb,hc⟩
     have HBA:Ma (∀A,Below w5.heap.size w5 ((w5.alloc A).drew)):=λA=>((Lf w5.heap.size w5).alloc (Lc _) A).drew;have HWD:=ac (HB5.o.drew);have HWA:Ma (∀A,Below w.heap.size w ((w5.alloc A).drew)):=λA=>HB5.o.trans ((HBA.o A).mono HB5.o.size);have HKD:Ma (w5.drew.cell? ⟨wr.heap.size,1,none⟩=some (.slice (some ⟨eb,eoff,none⟩) t.2.length ec)):=hc5;have HKA:Ma (∀A,((w5.alloc A).drew).cell? ⟨wr.heap.size,1,none⟩=some (.slice (some ⟨eb,eoff,none⟩) t.2.length ec)):=λA=>by rw[(HBA.o A).cell (p:=⟨wr.heap.size,1,none⟩) hlt5];exact HC5.o
     have HFAR:Ma (∀A w7,((w5.alloc A).drew).grownBy w7 (Value.ownBlock (.slice za M.length zc))->w7.cell? ⟨wr.heap.size,1,none⟩=some (.slice (some ⟨eb,eoff,none⟩) t.2.length ec)):=λA w7 hg=>by
      rw[World.cell?_of_block (a:=⟨wr.heap.size,1,none⟩) (hg.block wr.heap.size (Lj hlt5 (HBA.o A).size) (λe=>by
       have:=(Lb HOWN.o wr.heap.size e.symm).2;omega))]
      exact HKA.o A
     have HO6:=ac (aK HO5.o (HBA.o (.cells #[.int .i64 (d+S)] 3)));have HNW:=ac (uW w5 (.int .i64 (d+S)) 3);have HML:Ma (M.length<=1200000000000):=by show _<=_;omega
     have HWS:=ac (HWA.o (.cells #[.int .i64 (d+S)] 3)).size;have HGR:Ma (∀w7,((w5.alloc (.cells #[.int .i64 (d+S)] 3)).drew).grownBy w7 (Value.ownBlock (.slice za M.length zc))->Below w.heap.size w w7):=λw7 r2=>i8 HO6.o (HWA.o (.cells #[.int .i64 (d+S)] 3)) r2 (Lc _);have hwr:IntKind.i64.wrap (d+S)=d+S:=by rw[IntKind.wrap_i64];omega
     clear hc5 hb5;go_wp2_with fail;try rw[<-hw5]
     clear hw5;go_region_held_law (λW=>Ma (Below w.heap.size w W)/\W.cell? ⟨b3,off3+k,none⟩=some (.int .i64 d)/\W.cell? ⟨wr.heap.size,1,none⟩=some (.slice (some ⟨eb,eoff,none⟩) t.2.length ec))
      (first|exact KEEP.o _ HWD.o HKD.o|exact KEEP.o _ HB7.o HK7.o|exact KEEP.o _ (HWA.o _) (HKA.o _))
      (first|(refine J7 rfl (.tmp 23) (.tmp 32) 24 rfl underlying24 w.heap.size (.slice za M.length zc) M (by simp[Act.eval,Act.put]) HO6.o ⟨w5.heap.size,0,none⟩ 1 (d+S) (by simp[Act.eval,Act.put]) HNW.o HML.o HWS.o ?_;intro v7 w7 r1 r2;have HB7:=ac (HGR.o w7 r2);have HK7:=ac (HFAR.o (.cells #[.int .i64 (d+S)] 3) w7 r2);obtain⟨va7,vc7,hv7⟩:=fu r1;rw[oC] at hv7;subst hv7;have HR7:=ac r1;clear r1 r2)|(go_at_call 69;refine(HDG.o _ HWD.o).mono ?_;rintro e w6 ⟨rfl,rfl⟩))
     all_goals
      go_wp2;first
       |exact⟨⟨m+1,M++[d+S],by omega,by go_num,by rw[HM.o,HTK.o,List.append_assoc],by rw[oC];omega,HR7.o,HB7.o⟩,by simp[intOf];omega⟩
       |(go_roundw;(case rel=>exact⟨m+1,M++[d+S],by omega,by go_num,by rw[HM.o,HTK.o,List.append_assoc],by rw[oC];omega,HR7.o,HB7.o⟩);case measure=>simp[intOf];omega)
    .have e:m=f.length:=by omega
     subst e;have HME:Ma (aY ds fss (k+1)=M):=by show _=_;rw[HSU.o,HM.o,Lz (Lc _)]
     go_wp2_with fail;go_roundw;case rel=>exact⟨k+1,by omega,by go_num,by rw[HME.o];exact HOWN.o,HBM.o⟩
     case measure=>simp[intOf];omega
  .have e:k=fss.length:=by omega
   subst e;have HSL:=ac (Jl HOWN.o);go_wp2;go_ret;exact⟨_,rfl,HSL.o,HBR.o⟩
theorem BC(x:Int)(w:World):Calls prog 45 #[.int .i64 x] w λe w'=>e=.returned (.bool (ct x))/\w'=w:=by
 unfold ct;by_cases h:x<0
 .go_enter func45,ntmps45;go_wp2;go_ret;exact⟨by simp[h],rfl⟩
 .go_enter func45,ntmps45;go_wp2;go_ret;exact⟨by simp;omega,rfl⟩
theorem J9(x:Value)(xs:List Int)(w:World)(hm:xs.length<=1000)(hs:Sl w x xs):Calls prog 43 #[x,.func (.func 45) #[] #[]] w λe w'=>∃r:Int,e=.returned (.int .i64 r)/\decide (0<=r)=xs.any ct/\w'=w:=by
 obtain⟨a,cap,rfl,h1⟩:=hs;have HC:=ac h1;clear h1;go_enter func43,ntmps43;go_wp2;go_loop [8] (λi=>∃k:Nat,k<=xs.length/\i=.int .i64 k/\(xs.take k).any ct=false) (λi=>xs.length-(intOf i).toNat);case atStart=>exact⟨0,Ll _,rfl,by simp⟩
 case round=>
  obtain⟨k,hk,rfl,hn⟩:=hrel;have HN:=ac hn;clear hn;by_cases hlt:k<xs.length
  .obtain⟨b,off,rfl,_,hc⟩:=HC.o (by omega);have hcell:=hc k hlt;have H1:=ac (nL ct xs k hlt HN.o);have H2:=ac (nN ct xs k hlt);generalize xs.getD k 0=y at hcell H1 H2;clear hc;cases hy:ct y
   .go_wp2_with (go_at_call 45;refine(BC _ _).mono ?_;rintro e w' ⟨rfl,rfl⟩);go_round;case rel=>exact⟨k+1,by omega,by go_num,H1.o hy⟩
    case measure=>simp[intOf];omega
   .go_wp2_with (go_at_call 45;refine(BC _ _).mono ?_;rintro e w' ⟨rfl,rfl⟩);go_ret;exact⟨(k:Int),rfl,by rw[H2.o hy];simp,rfl⟩
  .go_wp2;go_ret;exact⟨-1,rfl,by have:=HN.o;rw[Lz (by omega)] at this;rw[this];simp,rfl⟩
theorem uY(x:Value)(xs:List Int)(w:World)(hm:xs.length<=1000)(hs:Sl w x xs):Calls prog 21 #[x,.func (.func 45) #[] #[]] w λe w'=>e=.returned (.bool (xs.any ct))/\w'=w:=by have HS:=ac hs;obtain⟨a,cap,rfl,_⟩:=hs;go_enter func21,ntmps21;go_wp2_with (go_at_call 43;refine(J9 _ xs _ hm HS.o).mono ?_;rintro e w' ⟨r,rfl,hr,rfl⟩);go_ret;exact⟨by rw[<-hr];rfl,rfl⟩
def eI:List Int->Int
 |[]=>5
 |z::zs=>if zs.all (λy=>y==z) then 0 else 4
def iQ:List Int->Int
 |[]=>0
 |z::zs=>if zs.all (λy=>y==z) then z else 0
theorem l6(z:Int)(zs:List Int):eI (z::zs)=if zs.all (λy=>y==z) then 0 else 4:=rfl
theorem oK(z:Int)(zs:List Int):iQ (z::zs)=if zs.all (λy=>y==z) then z else 0:=rfl
def ji(E:Int)(ds:List Int)(fss:List (List Tm)):Int:=if E≠0 then E else if ds.length≠fss.length then 1 else if ds.any ct then 3 else eI (aY ds fss fss.length)
def kt(E:Int)(ds:List Int)(fss:List (List Tm)):Int:=if E≠0 then 0 else if ds.length≠fss.length then 0 else if ds.any ct then 0 else iQ (aY ds fss fss.length)
theorem Ka{E:Int}{ds:List Int}{fss:List (List Tm)}(h:E≠0):ji E ds fss=E/\kt E ds fss=0:=by
 constructor
 .unfold ji;rw[LI h]
 .unfold kt;rw[LI h]
theorem Kb{ds:List Int}{fss:List (List Tm)}(h:ds.length≠fss.length):ji 0 ds fss=1/\kt 0 ds fss=0:=by
 constructor
 .unfold ji;rw[LH (by simp),LI h]
 .unfold kt;rw[LH (by simp),LI h]
theorem Kc{ds:List Int}{fss:List (List Tm)}(h:ds.length=fss.length)(ha:ds.any ct=true):ji 0 ds fss=3/\kt 0 ds fss=0:=by
 constructor
 .unfold ji;rw[LH (by simp),LH (by omega),LI ha]
 .unfold kt;rw[LH (by simp),LH (by omega),LI ha]
theorem Kd{ds:List Int}{fss:List (List Tm)}(h:ds.length=fss.length)(ha:ds.any ct=false):ji 0 ds fss=eI (aY ds fss fss.length)/\kt 0 ds fss=iQ (aY ds fss fss.length):=by
 constructor
 .unfold ji;rw[LH (by simp),LH (by omega),LH (by rw[ha];simp)]
 .unfold kt;rw[LH (by simp),LH (by omega),LH (by rw[ha];simp)]
theorem Ke{a b:Nat}(h:((a:Int) !=(b:Int))=false):a=b:=by
 have h1:(a:Int)=b:=by simpa using h
 omega
theorem Kf{a b:Nat}(h:((a:Int) !=(b:Int))=true):a≠b:=by
 have h1:¬(a:Int)=b:=by simpa using h
 omega
theorem Iv(p n o v:Int)(x y:Value)(ds:List Int)(fss:List (List Tm))(w:World)(sd:Sl w x ds)(pf:Vl w y fss):Calls prog 23 #[aT p n o v,x,y] w λe w'=>e=.returned (.tuple #[.int .i64 (kt (fh p n o v [fss]) ds fss),.int .i64 (ji (fh p n o v [fss]) ds fss)])/\Below w.heap.size w w':=by
 have HX:=ac sd;have HY:=ac pf;obtain⟨ax,cx,rfl,_⟩:=sd;obtain⟨ay,cy,rfl,_⟩:=pf;obtain⟨w2,hw2⟩:∃w2,w2=w.alloc (.cells #[.int .i64 p,.int .i64 n,.int .i64 o,.int .i64 v] 23):=⟨_,rfl⟩;have hb2:Below w.heap.size w w2:=by rw[hw2];exact bv
 have hbx:bE w2 w.heap.size p n o v:=by rw[hw2];exact bE.new w p n o v _
 have hs2:w2.heap.size=w.heap.size+1:=by rw[hw2];simp
 have HB2:=ac hb2;have HW2:Ma (∀T,Wl (w2.alloc (.cells #[.slice ay fss.length cy] T)) (.slice (some ⟨w2.heap.size,0,none⟩) 1 1) [fss]):=λT=>AK ((HY.o.below hb2).below bv) (by simp) (by simp[go_sem]);rw[hs2] at HW2;have HVA:=ac (λT=>JU p n o v _ [fss] _ (by simp) (HW2.o T));obtain⟨_,bx0,bx1,bx2,bx3⟩:=hbx;clear hs2 hb2;cases hz:(fh p n o v [fss] !=0)
 .have hz0:fh p n o v [fss]=0:=by simpa using hz
  have HZ:=ac hz0;obtain⟨hR,hall⟩:=JY hz0;obtain⟨h1,_,h3⟩:=hall fss (by simp);obtain⟨hpr,hn1,hn2,ho,hov⟩:=jq hR;have HRT:Ma (∀f∈fss,cQ p o n.toNat f):=λf hf=>(JB hR (h3 f hf)).1;have hN0:0<n.toNat:=by omega
  have hN3:n.toNat<=3:=by omega
  have h40:fss.length<=40:=h1.2;clear hz0 hR hall h1 h3 hpr ho hov;cases hln:((ds.length:Int) !=(fss.length:Int))
  .have hl:ds.length=fss.length:=Ke hln;have HL:=ac hl;have hd40:ds.length<=1000:=by omega
   clear hl;cases hany:ds.any ct
   .have hE:=Kd (fss:=fss) HL.o hany;rw[HZ.o,hE.1,hE.2];have HDB:Ma (∀d∈ds,0<=d/\d<=200):=λd hd=>by have h:=List.any_eq_false.1 hany d hd;simp[ct] at h;omega
    have HTD:=ac (fun(W:World) (h1:Sl W (.slice ax ds.length cx) ds) (h2:Vl W (.slice ay fss.length cy) fss)=>J8 _ _ p o n.toNat ds fss W hN0 hN3 HL.o h40 HDB.o HRT.o h1 h2);have HLN:=ac (uX (ds:=ds) (fss:=fss) (N:=2000) (λf hf2=>(HRT.o f hf2).len) fss.length (Lc _));clear hE;generalize aY ds fss fss.length=zs at HTD HLN⊢;cases zs with
    |nil=>
     go_enter func23,ntmps23;go_wp2_with fail;try rw[<-hw2]
     refine(HVA.o _).mono ?_;rw[HZ.o];rintro e w3 ⟨rfl,hb3⟩;have HB3:=ac (HB2.o.trans ((show Below w2.heap.size w2 w3 from bv.trans (hb3.mono (by simp))).mono HB2.o.size));clear hb3 bx0 bx1 bx2 bx3 hw2;go_wp2_with fail;refine(uY _ ds _ hd40 (HX.o.below HB3.o)).mono ?_;rw[hany];rintro e w4 ⟨rfl,rfl⟩;go_wp2_with fail;refine(HTD.o _ (HX.o.below HB3.o) (HY.o.below HB3.o)).mono ?_;rintro e w5 ⟨u,rfl,hu,hb5⟩;have HB5:=ac (HB3.o.trans (hb5.mono HB3.o.size));obtain⟨ua,uc,rfl,_⟩:=hu;clear hb5;go_wp2;go_ret2;exact⟨rfl,HB5.o⟩
    |cons z zs=>
     have hlen:(z::zs).length<=1200000000000:=by have:=HLN.o;omega
     cases hal:zs.all (λy=>y==z);all_goals
      go_enter func23,ntmps23;go_wp2_with fail;try rw[<-hw2]
      refine(HVA.o _).mono ?_;rw[HZ.o];rintro e w3 ⟨rfl,hb3⟩;have HB3:=ac (HB2.o.trans ((show Below w2.heap.size w2 w3 from bv.trans (hb3.mono (by simp))).mono HB2.o.size));clear hb3 bx0 bx1 bx2 bx3 hw2;go_wp2_with fail;refine(uY _ ds _ hd40 (HX.o.below HB3.o)).mono ?_;rw[hany];rintro e w4 ⟨rfl,rfl⟩;go_wp2_with fail;refine(HTD.o _ (HX.o.below HB3.o) (HY.o.below HB3.o)).mono ?_;rintro e w5 ⟨u,rfl,hu,hb5⟩;have HB5:=ac (HB3.o.trans (hb5.mono HB3.o.size));have HU:=ac hu;obtain⟨ua,uc,rfl,hu1⟩:=hu;obtain⟨ub,uoff,rfl,_,huc⟩:=hu1 (by simp);have u0:=huc 0 (by simp);simp only[Nat.add_zero,List.getD_cons_zero] at u0;clear hb5 hu1 huc;go_wp2_with fail;refine(J5 _ (z::zs) _ hlen (by simp) HU.o).mono ?_;rintro e w6 ⟨r1,rfl,hr1,hm1,rfl⟩;go_wp2_with fail;refine(J6 _ (z::zs) _ hlen (by simp) HU.o).mono ?_;rintro e w6 ⟨r2,rfl,hr2,hm2,rfl⟩
     .have HNE:Ma (r1≠r2):=by
       intro e;have hn:¬zs.all (λy=>y==z)=true:=by rw[hal];simp
       apply hn;rw[List.all_eq_true];intro y hy;have a1:=hr1 y (by simp[hy]);have a2:=hr2 y (by simp[hy]);have b1:=hr1 z (by simp);have b2:=hr2 z (by simp);simp only[beq_iff_eq];omega
      have hne:(r1 !=r2)=true:=by simpa using HNE.o
      have HDE:Ma (eI (z::zs)=4/\iQ (z::zs)=0):=⟨by rw[l6,hal];rfl,by rw[oK,hal];rfl⟩;clear hr1 hr2 hm1 hm2;go_wp2;go_ret2;exact⟨by rw[HDE.o.1,HDE.o.2];rfl,HB5.o⟩
     .have hall2:∀y∈z::zs,y=z:=by
       intro y hy;rcases LL.1 hy with rfl|hy
       .rfl
       .have:=List.all_eq_true.1 hal y hy;simpa using this
      have e1:=hall2 r1 hm1;have e2:=hall2 r2 hm2;have hne:(r1 !=r2)=false:=by rw[e1,e2];simp
      have HDE:Ma (eI (z::zs)=0/\iQ (z::zs)=z):=⟨by rw[l6,hal];rfl,by rw[oK,hal];rfl⟩;clear hr1 hr2 hm1 hm2 hall2 e1 e2;go_wp2;go_ret2;exact⟨by rw[HDE.o.1,HDE.o.2];rfl,HB5.o⟩
   .have hE:=Kc (fss:=fss) HL.o hany;rw[HZ.o,hE.1,hE.2];clear hE;go_enter func23,ntmps23;go_wp2_with fail;try rw[<-hw2]
    refine(HVA.o _).mono ?_;rw[HZ.o];rintro e w3 ⟨rfl,hb3⟩;have HB3:=ac (HB2.o.trans ((show Below w2.heap.size w2 w3 from bv.trans (hb3.mono (by simp))).mono HB2.o.size));clear hb3 bx0 bx1 bx2 bx3 hw2;go_wp2_with fail;refine(uY _ ds _ hd40 (HX.o.below HB3.o)).mono ?_;rw[hany];rintro e w4 ⟨rfl,rfl⟩;go_wp2;go_ret2;exact⟨rfl,HB3.o⟩
  .have hl:ds.length≠fss.length:=Kf hln;have hE:=Kb hl;rw[HZ.o,hE.1,hE.2];clear hE hl;go_enter func23,ntmps23;go_wp2_with fail;try rw[<-hw2]
   refine(HVA.o _).mono ?_;rw[HZ.o];rintro e w3 ⟨rfl,hb3⟩;have HB3:=ac (HB2.o.trans ((show Below w2.heap.size w2 w3 from bv.trans (hb3.mono (by simp))).mono HB2.o.size));clear hb3 bx0 bx1 bx2 bx3 hw2;go_wp2;go_ret2;exact⟨rfl,HB3.o⟩
 .have hz0:fh p n o v [fss]≠0:=by simpa using hz
  have hE:=Ka (ds:=ds) (fss:=fss) hz0;rw[hE.1,hE.2];clear hE hz0;go_enter func23,ntmps23;go_wp2_with fail;try rw[<-hw2]
  refine(HVA.o _).mono ?_;rintro e w3 ⟨rfl,hb3⟩;have HB3:=ac (HB2.o.trans ((show Below w2.heap.size w2 w3 from bv.trans (hb3.mono (by simp))).mono HB2.o.size));clear hb3;go_wp2;go_ret2;exact⟨rfl,HB3.o⟩
theorem IP{w:World}{c1:Int}{s1:Value}{e1:List Int}{T:TypeId}(h1:Sl w s1 e1):Pl (w.alloc (.cells #[.int .i64 c1,s1] T)) (.slice (some ⟨w.heap.size,0,none⟩) 1 1) [(c1,e1)]:=by
 refine⟨_,1,rfl,Lc _,λ_=>⟨w.heap.size,0,rfl,by simp,λi hi=>?_⟩⟩;rcases i with _|i
 .exact⟨by simp[go_sem],s1,by simp[go_sem],h1.below bv⟩
 .simp at hi
def fD:List Int->Int
 |[]=>-1
 |z::_=>z
def nC(L:List Int):Prop:=∀y∈L,y=fD L
theorem Kg{L:List Int}(h:nC L):eI L=(if L=[] then 5 else 0)/\iQ L=(if L=[] then 0 else fD L):=by
 cases L with
 |nil=>exact⟨rfl,rfl⟩
 |cons z zs=>
  have ha:zs.all (λy=>y==z)=true:=by rw[List.all_eq_true];intro y hy;have h1:y=z:=h y (by simp[hy]);simpa using h1
  rw[l6,oK,ha];simp[fD]
theorem Kh{L M:List Int}{d:Int}(hL:L≠[])(hd:d≠fD L)(hp:∃R,M=L++d::R):eI M=4/\iQ M=0:=by
 obtain⟨R,rfl⟩:=hp;cases L with
 |nil=>exact absurd rfl hL
 |cons z zs=>
  have ha:(zs++d::R).all (λy=>y==z)=false:=by rw[List.all_eq_false];exact⟨d,by simp,by simpa [fD] using hd⟩
  rw[List.cons_append,l6,oK,ha];simp
theorem Ki{L:List Int}{d:Int}(h:nC L)(hd:L=[]\/d=fD L):nC (L++[d])/\fD (L++[d])=d:=by
 cases L with
 |nil=>exact⟨λy hy=>by simpa [fD] using hy,rfl⟩
 |cons z zs=>
  have e:d=z:=by
   rcases hd with hd|hd
   .simp at hd
   .exact hd
  refine⟨λy hy=>?_,e.symm⟩;rcases Lv.1 hy with hy|hy
  .exact h y hy
  .rw[Lw] at hy;rw[hy,e];rfl
theorem Kj(d:Int)(f:List Tm)(m:Nat)(h:m<f.length):cI d f=cI d (f.take m)++(d+ah (f.getD m bT).2)::cI d (f.drop (m+1)):=by
 have e:f=f.take m++f.getD m bT::f.drop (m+1):=by
  have h1:f.getD m bT=f[m]:=by simp[Lr,h]
  rw[h1,<-LY h,List.take_append_drop]
 conv=>lhs;rw[e]
 simp[cI]
theorem BD(ds:List Int)(fss:List (List Tm))(k:Nat):∀n,k<=n->∃R,aY ds fss n=aY ds fss k++R
 |0,h=>⟨[],by rw[show k=0 by omega];simp⟩
 |n+1,h=>by
  rcases Nat.eq_or_lt_of_le h with rfl|hlt
  .exact⟨[],by simp⟩
  .obtain⟨R,hR⟩:=BD ds fss k n (by omega);exact⟨R++cI (ds.getD n 0) (fss.getD n []),by rw[oJ,hR,List.append_assoc]⟩
theorem Kk(x y:Value)(p o:Int)(N:Nat)(ds:List Int)(fss:List (List Tm))(w:World)(hN0:0<N)(hN:N<=3)(hl:ds.length=fss.length)(hm:fss.length<=40)(hd:∀d∈ds,0<=d/\d<=200)(hf:∀f∈fss,cQ p o N f)(sd:Sl w x ds)(pf:Vl w y fss):Calls prog 19 #[x,y] w λe w'=>e=.returned (.tuple #[.int .i64 (iQ (aY ds fss fss.length)),.int .i64 (eI (aY ds fss fss.length))])/\Below w.heap.size w w':=by
 have HY:=ac pf;have HD:=ac hd;have HF:=ac hf;have HL:=ac hl;obtain⟨ax,cx,rfl,hsx⟩:=sd;obtain⟨ay,cy,rfl,_⟩:=pf;have HSX:=ac hsx;clear hd hf hl hsx;go_enter func19,ntmps19;go_wp2_with fail;go_loopw [6,7] (λs i wr=>∃k:Nat,k<=fss.length/\i=.int .i64 k/\s=.int .i64 (fD (aY ds fss k))/\nC (aY ds fss k)/\(-1<=fD (aY ds fss k)/\(fD (aY ds fss k)<0↔aY ds fss k=[]))/\Below w.heap.size w wr) (λ_ i _=>fss.length-(intOf i).toNat);case atStart=>exact⟨0,Ll _,rfl,rfl,λy hy=>by simp[aY] at hy,by simp[aY,fD],Lf _ _⟩
 case round=>
  obtain⟨k,hk,rfl,rfl,hal,hsg,hbr⟩:=hrel;have HAL:=ac (Lg hal hsg);have HBR:=ac hbr;clear hal hsg hbr;by_cases hk2:k<fss.length
  .have hk3:k<ds.length:=by rw[HL.o];exact hk2
   obtain⟨b,off,fa,fc,rfl,hlt,c0,hpf⟩:=nw HY.o k hk2;obtain⟨b3,off3,rfl,hlt3,hc3⟩:=HSX.o (by omega);have g0:=hc3 k hk3;have hdk:=HD.o _ (ix ds k hk3);have HSU:=ac (oJ ds fss k);have HPR:=ac (BD ds fss (k+1) fss.length (by omega));have HRT:=ac (HF.o _ (ik fss k hk2));have hkI:(k:Int)<(ds.length:Int):=by omega
   generalize aY ds fss k=L at HAL HSU;generalize fss.getD k []=f at c0 hpf HSU HRT;generalize ds.getD k 0=d at g0 hdk HSU;have HPF:=ac hpf;have HC0:=ac c0;have HG0:=ac g0;have d0:=ae c0 HBR.o;have hfl2:f.length<=2000:=HRT.o.len;obtain⟨hd1,hd2⟩:=hdk;clear hpf c0 g0 hc3;go_wp2_with fail;go_loopw [6,8] (λs i wm=>∃m:Nat,m<=f.length/\i=.int .i64 m/\s=.int .i64 (fD (L++cI d (f.take m)))/\nC (L++cI d (f.take m))/\(-1<=fD (L++cI d (f.take m))/\(fD (L++cI d (f.take m))<0↔L++cI d (f.take m)=[]))/\Below w.heap.size w wm) (λ_ i _=>f.length-(intOf i).toNat);case atStart=>exact⟨0,Ll _,rfl,by simp[cI],by simpa [cI] using HAL.o.1,by simpa [cI] using HAL.o.2,HBR.o⟩
   case round=>
    clear HBR d0;obtain⟨m,hmm,rfl,rfl,hal,hsg,hbm⟩:=hrel;have HAM:=ac (Lg hal hsg);have HBM:=ac hbm;have d0:=ae HC0.o hbm;have g0:=ae HG0.o hbm;clear hal hsg hbm;by_cases hm2:m<f.length
    .obtain⟨fa2,fc2,hfv,_,hat0⟩:=HPF.o;obtain⟨b2,off2,hfa,hlt2,hat⟩:=hat0 (by omega);simp only[LB,true_and] at hfv;obtain⟨e1,e2⟩:=hfv;subst e1;subst e2;subst hfa;obtain⟨t0,ev,t1,hse⟩:=hat m hm2;have HTE:=ac (Lg (HRT.o.canon.len _ (mh f m hm2)) (HRT.o.bd.bd _ (mh f m hm2)));have HTK:Ma (cI d (f.take (m+1))=cI d (f.take m)++[d+ah (f.getD m bT).2]):=by show _=_;unfold cI;rw[LK hm2,LO];simp[Lr,hm2]
     have HSP:=ac (Kj d f m hm2);generalize f.getD m bT=t at t0 hse HTE HTK HSP;have hte0:0<t.2.length:=by rw[HTE.o.1];exact hN0
     have hte3:t.2.length<=3:=by rw[HTE.o.1];exact hN
     obtain⟨ea,ec,rfl,hse1⟩:=hse;obtain⟨eb,eoff,rfl,helt,hei⟩:=hse1 hte0;have HEI:Ma (∀W,Below w.heap.size w W->eB W eb eoff t.2):=λW hb j hj=>ae (hei j hj) hb;have k1:=ae t1 HBM.o;obtain⟨S,hS⟩:∃S,ah t.2=S:=⟨_,rfl⟩;obtain⟨hS1,hS2⟩:0<=S/\S<=120000:=by have:=mj t.2 HTE.o.2;rw[hS] at this;omega
     have HDG:=ac (fun(W:World)(hb:Below w.heap.size w W)=>lM t.2 eb eoff ec W HTE.o.2 hte3 (HEI.o W hb));rw[hS] at HDG HTK HSP;have hwr:IntKind.i64.wrap (d+S)=d+S:=by rw[IntKind.wrap_i64];omega
     obtain⟨q,hq⟩:∃q,fD (L++cI d (f.take m))=q:=⟨_,rfl⟩;obtain⟨M,hM⟩:∃M,L++cI d (f.take m)=M:=⟨_,rfl⟩;rw[hM] at hq HAM⊢;have HM:=ac hM;have HQ:=ac hq;rw[hq] at HAM⊢;have hdS:0<=d+S:=by omega
     have KEEP:Ma (∀W,Below w.heap.size w W->(Ma (Below w.heap.size w W)/\W.cell? ⟨b3,off3+k,none⟩=some (.int .i64 d)/\W.cell? ⟨b,off+k,none⟩=some (.slice (some ⟨b2,off2,none⟩) f.length fc)/\W.cell? ⟨b2,off2+m*2+1,none⟩=some (.slice (some ⟨eb,eoff,none⟩) t.2.length ec))):=
      λW hb=>⟨hb,ae HG0.o hb,ae HC0.o hb,ae t1 hb⟩
     have HWD:=ac HBM.o.drew;have HNX:Ma (L++cI d (f.take (m+1))=M++[d+S]):=by show _=_;rw[HTK.o,<-List.append_assoc,HM.o]
     have HFU:Ma (∃R,aY ds fss fss.length=M++(d+S)::R):=by obtain⟨R,hR⟩:=HPR.o;exact⟨cI d (f.drop (m+1))++R,by rw[hR,HSU.o,HSP.o,<-List.append_assoc L,HM.o,List.append_assoc,List.cons_append]⟩
     clear hat0 hat t0 t1 hse1 hei hq hM hS;have HNEXT:Ma (M=[]\/d+S=q->nC (M++[d+S])/\fD (M++[d+S])=d+S):=λh=>Ki HAM.o.1 (by rw[HQ.o];exact h);by_cases hM0:M=[]
     .have hq0:¬0<=q:=by have:=HAM.o.2.2.2 hM0;omega
      have HN2:=ac (HNEXT.o (L0 hM0));have hge:decide (0<=q)=false:=Lh hq0;clear hM0;go_wp2_with fail;go_region_held (λW=>Ma (Below w.heap.size w W)/\W.cell? ⟨b3,off3+k,none⟩=some (.int .i64 d)/\W.cell? ⟨b,off+k,none⟩=some (.slice (some ⟨b2,off2,none⟩) f.length fc)/\W.cell? ⟨b2,off2+m*2+1,none⟩=some (.slice (some ⟨eb,eoff,none⟩) t.2.length ec))
       (first|exact KEEP.o _ HWD.o)
       (first|(go_at_call 38;refine(HDG.o _ HWD.o).mono ?_;rintro e w6 ⟨rfl,rfl⟩))
      go_wp2_with fail;go_roundw;case rel=>exact⟨m+1,by omega,by go_num,by rw[HNX.o,HN2.o.2],by rw[HNX.o];exact HN2.o.1,by rw[HNX.o,HN2.o.2];exact⟨by omega,λh=>by omega,λh=>by simp at h⟩,HWD.o⟩
      case measure=>simp[intOf];omega
     .have hq0:0<=q:=by have h1:=HAM.o.2.2;have h2:=HAM.o.2.1;apply Int.not_lt.1;intro h;exact hM0 (h1.1 h)
      have hge:decide (0<=q)=true:=Li hq0;cases hne:(d+S !=q)
      .have HN2:=ac (HNEXT.o (L3 (by simpa using hne)));go_wp2_with fail;go_region_held (λW=>Ma (Below w.heap.size w W)/\W.cell? ⟨b3,off3+k,none⟩=some (.int .i64 d)/\W.cell? ⟨b,off+k,none⟩=some (.slice (some ⟨b2,off2,none⟩) f.length fc)/\W.cell? ⟨b2,off2+m*2+1,none⟩=some (.slice (some ⟨eb,eoff,none⟩) t.2.length ec))
        (first|exact KEEP.o _ HWD.o)
        (first|(go_at_call 38;refine(HDG.o _ HWD.o).mono ?_;rintro e w6 ⟨rfl,rfl⟩))
       go_wp2_with fail;go_roundw;case rel=>exact⟨m+1,by omega,by go_num,by rw[HNX.o,HN2.o.2],by rw[HNX.o];exact HN2.o.1,by rw[HNX.o,HN2.o.2];exact⟨by omega,λh=>by omega,λh=>by simp at h⟩,HWD.o⟩
       case measure=>simp[intOf];omega
      .have HUL:=ac (Kh hM0 (d:=d+S) (by rw[HQ.o];simpa using hne) HFU.o);go_wp2_with fail;go_region_held (λW=>Ma (Below w.heap.size w W)/\W.cell? ⟨b3,off3+k,none⟩=some (.int .i64 d)/\W.cell? ⟨b,off+k,none⟩=some (.slice (some ⟨b2,off2,none⟩) f.length fc)/\W.cell? ⟨b2,off2+m*2+1,none⟩=some (.slice (some ⟨eb,eoff,none⟩) t.2.length ec))
        (first|exact KEEP.o _ HWD.o)
        (first|(go_at_call 38;refine(HDG.o _ HWD.o).mono ?_;rintro e w6 ⟨rfl,rfl⟩))
       go_wp2_with fail;go_ret2;exact⟨by rw[HUL.o.1,HUL.o.2];rfl,HWD.o⟩
    .have e:m=f.length:=by omega
     subst e;have HFE:Ma (L++cI d (f.take f.length)=aY ds fss (k+1)):=by show _=_;rw[HSU.o,Lz (Lc _)]
     rw[HFE.o] at HAM⊢;go_wp2_with fail;go_roundw;case rel=>exact⟨k+1,by omega,by go_num,rfl,HAM.o.1,HAM.o.2,HBM.o⟩
     case measure=>simp[intOf];omega
  .have e:k=fss.length:=by omega
   subst e;have HDG:=ac (Kg HAL.o.1);obtain⟨q,hq⟩:∃q,fD (aY ds fss fss.length)=q:=⟨_,rfl⟩;rw[hq] at HAL HDG⊢;clear hq;by_cases hL:aY ds fss fss.length=[]
   .have hq0:q<0:=HAL.o.2.2.2 hL;rw[LI hL,LI hL] at HDG;clear hL;go_wp2;go_ret2;exact⟨by rw[HDG.o.1,HDG.o.2];rfl,HBR.o⟩
   .have hq0:¬q<0:=λh=>hL (HAL.o.2.2.1 h);rw[LH hL,LH hL] at HDG;clear hL;go_wp2;go_ret2;exact⟨by rw[HDG.o.1,HDG.o.2];rfl,HBR.o⟩
theorem oN{p n o v rank:Int}{vss:List (List (List Tm))}(h:df p n o v rank vss=0):a8 p n o v=0/\(1<=rank/\rank<=40)/\vss.length<=60/\∀u∈vss,(u.length:Int)=rank/\∀f∈u,cB p n o f=0:=by
 unfold df at h;by_cases hr:a8 p n o v=0
 .rw[LH (by simpa using hr)] at h;unfold hZ at h;cases hb:bH rank 1 40
  .rw[LI hb] at h;exact absurd h (by decide)
  .rw[LH (by rw[hb];simp)] at h;by_cases hl:60<vss.length
   .rw[LI hl] at h;exact absurd h (by decide)
   .rw[LH hl] at h;refine⟨hr,by simpa [bH] using hb,by omega,λu hu=>?_⟩;have h1:=uV h u hu;unfold fC at h1;by_cases hu2:(u.length:Int)=rank
    .rw[LH (by simpa using hu2)] at h1;exact⟨hu2,uP h1⟩
    .rw[LI hu2] at h1;exact absurd h1 (by decide)
 .rw[LI hr] at h;exact absurd h hr
theorem Kl{p o:Int}{N:Nat}{f:List Tm}(hN0:0<N)(hN:N<=3)(h:cQ p o N f):f.length<=2000/\∀t∈f,0<t.2.length/\t.2.length<=3/\∀x∈t.2,0<=x/\x<=40000:=by refine⟨h.len,λt ht=>?_⟩;have h1:=h.canon.len t ht;refine⟨by rw[h1];exact hN0,by rw[h1];exact hN,λx hx=>?_⟩;have:=h.bd t ht x hx;omega
def rg(p o:Int)(cs:List (List Tm))(vss:List (List (List Tm)))(k i:Nat):List Tm:=eL p o (cN p (cs.getD i []) ((vss.getD i []).getD k []))
def BE(p o:Int)(cs:List (List Tm))(vss:List (List (List Tm)))(k m:Nat):List (List Tm):=(List.range m).map (rg p o cs vss k)
structure jQ(p o:Int)(N R:Nat)(cs:List (List Tm))(vss:List (List (List Tm))):Prop where
 c:∀c∈cs,cQ p o N c
 v:∀u∈vss,u.length=R/\∀f∈u,cQ p o N f
 l:cs.length=vss.length
theorem jQ.at{p o:Int}{N R:Nat}{cs:List (List Tm)}{vss:List (List (List Tm))}(h:jQ p o N R cs vss){k i:Nat}(hi:i<vss.length)(hk:k<R):cQ p o N (cs.getD i [])/\cQ p o N ((vss.getD i []).getD k []):=by have h1:=h.v _ (uU vss i hi);exact⟨h.c _ (ik cs i (by rw[h.l];exact hi)),h1.2 _ (ik _ k (by rw[h1.1];exact hk))⟩
theorem jQ.pr{p o:Int}{N R:Nat}{cs:List (List Tm)}{vss:List (List (List Tm))}(hp:2<=p)(h:jQ p o N R cs vss){k i:Nat}(hi:i<vss.length)(hk:k<R):dQ p o N (rg p o cs vss k i)/\Bd (rg p o cs vss k i):=by obtain⟨h1,h2⟩:=h.at hi hk;refine⟨eM.col hp (eM.prod hp h1.canon.okl h2.canon.okl),λt ht x hx=>?_⟩;obtain⟨y,hy,ey⟩:=Jy ht;rw[ey] at hx;exact(Jp hp h1.canon.len h2.canon.len h1.bd h2.bd y hy).2.1 x hx
theorem BF{p:Int}{n:Nat}:∀{fss:List (List Tm)},(∀f∈fss,eM p n f)->eM p n fss.flatten
 |[],_=>⟨λt ht=>by simp at ht,λt ht=>by simp at ht⟩
 |f::r,h=>by rw[List.flatten_cons];exact(h f (by simp)).append (BF (λg hg=>h g (by simp[hg])))
theorem Km{p o:Int}{cs:List (List Tm)}{vss:List (List (List Tm))}{k m:Nat}{f:List Tm}(h:f∈BE p o cs vss k m):∃i,i<m/\f=rg p o cs vss k i:=by obtain⟨i,hi,e⟩:=LC.1 h;exact⟨i,List.mem_range.1 hi,e.symm⟩
theorem jQ.okl{p o:Int}{N R:Nat}{cs:List (List Tm)}{vss:List (List (List Tm))}(hp:2<=p)(h:jQ p o N R cs vss){k m:Nat}(hm:m<=vss.length)(hk:k<R):eM p N (BE p o cs vss k m).flatten:=
 BF (λf hf=>by obtain⟨i,hi,rfl⟩:=Km hf;exact(h.pr hp (by omega) hk).1.okl)
def gj(f:List Tm):Bool:=decide (6<f.length)||decide (3<eJ (-1) f)
def iq(g:List (List Tm)):Bool:=g.any gj
def l7(vss:List (List (List Tm))):Int:=if vss.any iq then 2 else 0
def dY(p n o v rank:Int)(vss:List (List (List Tm))):Int:=if df p n o v rank vss≠0 then df p n o v rank vss else if 3<rank\/4<vss.length then 2 else l7 vss
theorem qN{α:Type}(F:List α->Bool)(l:List (List α))(k:Nat)(h:k<l.length):(l.drop k).any F=(F (l.getD k [])||(l.drop (k+1)).any F):=by rw[LY h,List.any_cons,Lr,Ls h];rfl
theorem uw{p n o v rank:Int}{vss:List (List (List Tm))}(h:df p n o v rank vss≠0):dY p n o v rank vss=df p n o v rank vss:=by unfold dY;rw[LI h]
theorem qL{p n o v rank:Int}{vss:List (List (List Tm))}(h:df p n o v rank vss=0)(h2:3<rank\/4<vss.length):dY p n o v rank vss=2:=by unfold dY;rw[LH (by simpa using h),LI h2]
theorem ux{p n o v rank:Int}{vss:List (List (List Tm))}(h:df p n o v rank vss=0)(h2:¬(3<rank\/4<vss.length)):dY p n o v rank vss=l7 vss:=by unfold dY;rw[LH (by simpa using h),LH h2]
theorem Kn{p n o v:Int}(hR:a8 p n o v=0){f:List Tm}(hf:cB p n o f=0){x:Value}{W:World}(hp:Pl W x f):Calls prog 37 #[x] W λe w'=>e=.returned (.int .i64 (eJ (-1) f))/\w'=W:=by obtain⟨_,hn1,hn3,_,_⟩:=jq hR;have hr:cQ p o n.toNat f:=oO (by rw[show (n.toNat:Int)=n by omega];exact hf);have h:=Kl (by omega) (by omega) hr;exact Jv x f W (by omega) h.2 hp
theorem Ko(p n o v rank:Int)(lv:Value)(vss:List (List (List Tm)))(w:World)(hs:Wl w lv vss):Calls prog 17 #[aT p n o v,.int .i64 rank,lv] w λe w'=>e=.returned (.int .i64 (dY p n o v rank vss))/\Below w.heap.size w w':=by
 have HS:=ac hs;obtain⟨w1,hw1⟩:∃w1,w1=w.alloc (.cells #[.int .i64 p,.int .i64 n,.int .i64 o,.int .i64 v] 23):=⟨_,rfl⟩;have hbx:bE w1 w.heap.size p n o v:=by rw[hw1];exact bE.new w p n o v _
 have HBW:Ma (Below w.heap.size w w1):=by rw[hw1];exact bv
 have HCV:=ac (J1 p n o v rank lv vss w1 (hs.below HBW.o));obtain⟨la,lc,rfl,_⟩:=hs;unfold aT at HCV;unfold aT;obtain⟨_,bx0,bx1,bx2,bx3⟩:=hbx;cases hev:(df p n o v rank vss !=0)
 rotate_left
 .have HE:=ac (uw (show df p n o v rank vss≠0 by simpa using hev));rw[HE.o];go_enter func17,ntmps17;go_upto_region 1 with fail;rw[<-hw1];clear hw1;go_wp2_with (go_at_call 36;refine HCV.o.mono ?_;rintro e w2 ⟨rfl,q1⟩;have HB2:=ac q1;clear q1);go_ret;exact⟨rfl,HBW.o.trans (HB2.o.mono HBW.o.size)⟩
 .have hz:df p n o v rank vss=0:=by simpa using hev
  have HZ:=ac hz;obtain⟨hR,hrk,hvl,hall⟩:=oN hz;have HALL:=ac hall;have HRR:=ac hR;rw[hz] at HCV;clear hz hall hR hev;by_cases hm:3<rank\/4<vss.length
  .have HE:=ac (qL HZ.o hm);rw[HE.o];clear HE;by_cases hr3:3<rank
   .go_enter func17,ntmps17;go_upto_region 1 with fail;rw[<-hw1];clear hw1;go_wp2_with (go_at_call 36;refine HCV.o.mono ?_;rintro e w2 ⟨rfl,q1⟩;have HB2:=ac q1;clear q1);go_ret;exact⟨rfl,HBW.o.trans (HB2.o.mono HBW.o.size)⟩
   .have hl4:(4:Int)<vss.length:=by omega
    go_enter func17,ntmps17;go_upto_region 1 with fail;rw[<-hw1];clear hw1;go_wp2_with (go_at_call 36;refine HCV.o.mono ?_;rintro e w2 ⟨rfl,q1⟩;have HB2:=ac q1;clear q1);go_ret;exact⟨rfl,HBW.o.trans (HB2.o.mono HBW.o.size)⟩
  .have HE:=ac (ux HZ.o hm);rw[HE.o];have hr3:¬3<rank:=λh=>hm (L0 h);have hl4:¬(4:Int)<vss.length:=λh=>hm (L3 (by omega));obtain⟨hpr,hn1,hn2,ho,_⟩:=jq HRR.o;have HP:=ac (fq hpr);have HN:=ac (Lg hn1 hn2);clear hm HE hpr ho hn1 hn2;go_enter func17,ntmps17;go_upto_region 1 with fail;rw[<-hw1];clear hw1;go_wp2_with (go_at_call 36;refine HCV.o.mono ?_;rintro e w2 ⟨rfl,q1⟩;have HB2:=ac (HBW.o.trans (q1.mono HBW.o.size));clear q1);go_loopw [8] (λi wr=>∃k:Nat,k<=vss.length/\i=.int .i64 k/\vss.any iq=(vss.drop k).any iq/\Below w.heap.size w wr) (λi _=>vss.length-(intOf i).toNat);case atStart=>exact⟨0,Ll _,rfl,rfl,HB2.o⟩
   case round=>
    rename World=>wr;obtain⟨k,hk,rfl,her,hbr⟩:=hrel;have HBR:=ac hbr;have HER0:=ac her;clear hbr her;by_cases hk2:k<vss.length
    .have HER:=ac (HER0.o.trans (qN iq vss k hk2));obtain⟨b,off,va,vc,rfl,hlt,c0,hvl2⟩:=jB HS.o k hk2;have hmem:=ik vss k hk2;generalize vss.getD k []=fss at c0 hvl2 HER hmem;obtain⟨hfl,hfo⟩:=HALL.o fss hmem;have HVL:=ac hvl2;have HFO:=ac hfo;subst hfl;have hf40:fss.length<=40:=by omega
     clear hvl2 hfo hmem;go_wp2_with fail;go_loopw [9] (λi wm=>∃j:Nat,j<=fss.length/\i=.int .i64 j/\fss.any gj=(fss.drop j).any gj/\Below w.heap.size w wm) (λi _=>fss.length-(intOf i).toNat);case atStart=>exact⟨0,Ll _,rfl,rfl,HBR.o⟩
     case round=>
      rename World=>wm;obtain⟨j,hj,rfl,hej,hbm⟩:=hrel;have HBM:=ac hbm;have HEJ:=ac hej;clear hbm hej;by_cases hj2:j<fss.length
      .have HFJ:=ac (HEJ.o.trans (qN gj fss j hj2));obtain⟨b2,off2,fa,fc,rfl,hlt2,e0,hpf⟩:=nw HVL.o j hj2;have hmj:=ik fss j hj2;generalize fss.getD j []=f at e0 hpf HFJ hmj;have HOK:=ac (HFO.o f hmj);have HPF:=ac (hpf.below HBM.o);have d0:=ae c0 HBM.o;have d1:=ae e0 HBM.o;have HTO:Ma (Calls prog 37 #[.slice fa f.length fc] wm λe w'=>e=.returned (.int .i64 (eJ (-1) f))/\w'=wm):=Kn HRR.o HOK.o HPF.o;clear hpf hmj e0;by_cases h6:6<f.length
       .have h6I:(6:Int)<f.length:=by omega
        have HBP:Ma (gj f=true):=by show _=_;unfold gj;rw[Li h6];rfl
        go_wp2_with fail;go_ret;refine⟨bJ ?_,HBM.o⟩;have h1:iq fss=true:=by show fss.any gj=true;rw[HFJ.o,HBP.o];rfl
        unfold l7;rw[HER.o,h1];rfl
       .have h6I:¬(6:Int)<f.length:=by omega
        by_cases h3:3<eJ (-1) f
        .have HBP:Ma (gj f=true):=by show _=_;unfold gj;rw[Li h3];simp
         go_wp2_with (go_at_call 37;refine HTO.o.mono ?_;rintro e w9 ⟨rfl,rfl⟩);go_ret;refine⟨bJ ?_,HBM.o⟩;have h1:iq fss=true:=by show fss.any gj=true;rw[HFJ.o,HBP.o];rfl
         unfold l7;rw[HER.o,h1];rfl
        .have HBP:Ma (gj f=false):=by show _=_;unfold gj;rw[Lh h6,Lh h3];rfl
         go_wp2_with (go_at_call 37;refine HTO.o.mono ?_;rintro e w9 ⟨rfl,rfl⟩);go_roundw;case rel=>exact⟨j+1,by omega,by go_num,by rw[HFJ.o,HBP.o];rfl,HBM.o⟩
         case measure=>simp[intOf];omega
      .have hz:iq fss=false:=by show fss.any gj=false;rw[HEJ.o,LZ (by omega)];rfl
       have HZ2:=ac hz;clear hz;go_wp2_with fail;go_roundw;case rel=>exact⟨k+1,by omega,by go_num,by rw[HER.o,HZ2.o];rfl,HBM.o⟩
       case measure=>simp[intOf];omega
    .go_wp2;go_ret;refine⟨bJ ?_,HBR.o⟩;unfold l7;rw[HER0.o,LZ (by omega)];rfl
def eo(d:Int):Bool:=!bH d 0 6
def ir(ds:List Int)(g:List (List Tm)):Bool:=decide (eI (aY ds g g.length)=4)
def kW(ds:List Int)(vss:List (List (List Tm))):Int:=if vss.any (ir ds) then 4 else 0
def cM(p n o v:Int)(ds:List Int)(vss:List (List (List Tm))):Int:=if dY p n o v ds.length vss≠0 then dY p n o v ds.length vss else if ds.any eo then 3 else kW ds vss
theorem sW{w:World}{a:Option Addr}{c:Nat}{xs:List Int}(h:Sl w (.slice a xs.length c) xs)(k:Nat)(hk:k<xs.length):∃b off,a=some ⟨b,off,none⟩/\b<w.heap.size/\w.cell? ⟨b,off+k,none⟩=some (.int .i64 (xs.getD k 0)):=by obtain⟨a2,c2,e,h2⟩:=h;simp only[LB] at e;obtain⟨rfl,_,_⟩:=e;obtain⟨b,off,e2,hlt,hc⟩:=h2 (by omega);exact⟨b,off,e2,hlt,hc k hk⟩
theorem Kp(l:List Int)(k:Nat)(h:k<l.length):l.take (k+1)=l.take k++[l.getD k 0]:=by rw[List.take_add_one,Lr,Ls h];rfl
theorem uy{p n o v rank:Int}{vss:List (List (List Tm))}(h:dY p n o v rank vss=0):df p n o v rank vss=0/\rank<=3/\vss.length<=4/\vss.any iq=false:=by
 by_cases h1:df p n o v rank vss=0
 .by_cases h2:3<rank\/4<vss.length
  .rw[qL h1 h2] at h;exact absurd h (by decide)
  .rw[ux h1 h2] at h;unfold l7 at h;cases h3:vss.any iq with
   |true=>rw[h3] at h;exact absurd h (by decide)
   |false=>exact⟨h1,by omega,by omega,rfl⟩
 .rw[uw h1] at h;exact absurd h h1
theorem AH(L:List Int):eI L=5\/eI L=0\/eI L=4:=by
 cases L with
 |nil=>exact L0 rfl
 |cons z zs=>
  rw[l6];split
  .exact L3 (L0 rfl)
  .exact L3 (L3 rfl)
theorem zL(p n o v:Int)(dv lv:Value)(ds:List Int)(vss:List (List (List Tm)))(w:World)(hds:Sl w dv ds)(hs:Wl w lv vss):Calls prog 7 #[aT p n o v,dv,lv] w λe w'=>e=.returned (.int .i64 (cM p n o v ds vss))/\Below w.heap.size w w':=by
 have HS:=ac hs;have HD:=ac hds;obtain⟨w1,hw1⟩:∃w1,w1=w.alloc (.cells #[.int .i64 p,.int .i64 n,.int .i64 o,.int .i64 v] 23):=⟨_,rfl⟩;have hbx:bE w1 w.heap.size p n o v:=by rw[hw1];exact bE.new w p n o v _
 have HBW:Ma (Below w.heap.size w w1):=by rw[hw1];exact bv
 have HCV:=ac (Ko p n o v ds.length lv vss w1 (hs.below HBW.o));obtain⟨la,lc,rfl,_⟩:=hs;obtain⟨da,dc,rfl,_⟩:=hds;unfold aT at HCV;unfold aT;obtain⟨_,bx0,bx1,bx2,bx3⟩:=hbx;cases hev:(dY p n o v ds.length vss !=0)
 rotate_left
 .have HE:Ma (cM p n o v ds vss=dY p n o v ds.length vss):=by show _=_;unfold cM;rw[LI (by simpa using hev)]
  rw[HE.o];go_enter func7,ntmps7;go_upto_region 1 with fail;rw[<-hw1];clear hw1;go_wp2_with (go_at_call 17;refine HCV.o.mono ?_;rintro e w2 ⟨rfl,q1⟩;have HB2:=ac q1;clear q1);go_ret;exact⟨rfl,HBW.o.trans (HB2.o.mono HBW.o.size)⟩
 .have hz:dY p n o v ds.length vss=0:=by simpa using hev
  have HZ:=ac hz;obtain⟨hvz,hr3,hl4,_⟩:=uy hz;obtain⟨hR,hrk,hvl,hall⟩:=oN hvz;obtain⟨_,hn1,hn2,_,_⟩:=jq hR;have HALL:=ac hall;have HRR:=ac hR;have HN:=ac (Lg hn1 hn2);rw[hz] at HCV;have hd3:ds.length<=3:=by omega
  clear hz hall hR hev hvz hrk hn1 hn2 hr3;go_enter func7,ntmps7;go_upto_region 1 with fail;rw[<-hw1];clear hw1;go_wp2_with (go_at_call 17;refine HCV.o.mono ?_;rintro e w2 ⟨rfl,q1⟩;have HB2:=ac (HBW.o.trans (q1.mono HBW.o.size));clear q1);go_loopw [8] (λi wr=>∃k:Nat,k<=ds.length/\i=.int .i64 k/\(∀d∈ds.take k,eo d=false)/\wr=w2) (λi _=>ds.length-(intOf i).toNat);case atStart=>exact⟨0,Ll _,rfl,λd hd=>by simp at hd,rfl⟩
  case round=>
   rename World=>wr;obtain⟨k,hk,rfl,her,hwr⟩:=hrel;subst hwr;have HER:=ac her;clear her;by_cases hk2:k<ds.length
   .obtain⟨b,off,rfl,_,c0⟩:=sW HD.o k hk2;have d0:=ae c0 HB2.o;have hmd:=ix ds k hk2;have HTK:Ma (ds.take (k+1)=ds.take k++[ds.getD k 0]):=Kp ds k hk2;generalize ds.getD k 0=x at d0 hmd HTK c0;have HMD:=ac hmd;cases hbt:bH x 0 6
    .have HE:Ma (cM p n o v ds vss=3):=by show _=_;unfold cM;rw[LH (by simpa using HZ.o),LI (List.any_eq_true.2 ⟨x,HMD.o,by unfold eo;rw[hbt];rfl⟩)]
     go_wp2_with (go_at_call 18;refine(fo _ _ _ _).mono ?_;rw[hbt];rintro e w' ⟨rfl,rfl⟩);go_ret;exact⟨bJ HE.o.symm,HB2.o⟩
    .go_wp2_with (go_at_call 18;refine(fo _ _ _ _).mono ?_;rw[hbt];rintro e w' ⟨rfl,rfl⟩);go_roundw;case rel=>
      refine⟨k+1,by omega,by go_num,λd hd=>?_,by simp⟩;rw[HTK.o] at hd;rcases Lv.1 hd with hd|hd
      .exact HER.o d hd
      .rw[Lw] at hd;rw[hd];unfold eo;rw[hbt];rfl
     case measure=>simp[intOf];omega
   .have hall6:∀d∈ds,eo d=false:=λd hd=>HER.o d (by rw[Lz (by omega)];exact hd);have HE:Ma (cM p n o v ds vss=kW ds vss):=by
     show _=_;unfold cM;rw[LH (by simpa using HZ.o),LH (by
      intro h;obtain⟨d,h1,h2⟩:=List.any_eq_true.1 h;rw[hall6 d h1] at h2;simp at h2)]
    have HD6:Ma (∀d∈ds,0<=d/\d<=200):=λd hd=>by have h:=hall6 d hd;unfold eo bH at h;simp at h;omega
    have HDS:=ac HD.o;clear hall6 HER;go_wp2_with fail;go_loopw [9] (λi wm=>∃j:Nat,j<=vss.length/\i=.int .i64 j/\vss.any (ir ds)=(vss.drop j).any (ir ds)/\Below w.heap.size w wm) (λi _=>vss.length-(intOf i).toNat);case atStart=>exact⟨0,Ll _,rfl,rfl,HB2.o⟩
    case round=>
     rename World=>wm;obtain⟨j,hj,rfl,hej,hbm⟩:=hrel;have HBM:=ac hbm;have HEJ:=ac hej;clear hbm hej;by_cases hj2:j<vss.length
     .have HFJ:=ac (HEJ.o.trans (qN (ir ds) vss j hj2));obtain⟨b,off,va,vc,rfl,hlt,c0,hvl2⟩:=jB HS.o j hj2;have hmem:=ik vss j hj2;generalize vss.getD j []=fss at c0 hvl2 HFJ hmem;obtain⟨hfl,hfo⟩:=HALL.o fss hmem;have d0:=ae c0 HBM.o;have HVD:=ac (Kk (.slice da ds.length dc) (.slice va fss.length vc) p o n.toNat ds fss wm (by have:=HN.o;omega) (by have:=HN.o;omega) (by omega) (by omega) HD6.o (λf hf=>oO (by have:=HN.o;rw[show (n.toNat:Int)=n by omega];exact hfo f hf)) (HDS.o.below HBM.o) (hvl2.below HBM.o));clear hvl2 hfo hmem hfl;have HUN:Ma (ir ds fss=decide (eI (aY ds fss fss.length)=4)):=rfl;have HDC:=ac (AH (aY ds fss fss.length));generalize eI (aY ds fss fss.length)=ee at HVD HUN HDC;generalize iQ (aY ds fss fss.length)=dd at HVD;by_cases he4:ee=4
      .subst he4;go_wp2_with (go_at_call 19;refine HVD.o.mono ?_;rintro e w9 ⟨rfl,q1⟩;have HB9:=ac (HBM.o.trans (q1.mono HBM.o.size));clear q1);go_ret;refine⟨bJ ?_,HB9.o⟩;rw[HE.o];unfold kW;rw[HFJ.o,HUN.o];rfl
      .have he5:(ee==4)=false:=by simp[he4]
       go_wp2_with (go_at_call 19;refine HVD.o.mono ?_;rintro e w9 ⟨rfl,q1⟩;have HB9:=ac (HBM.o.trans (q1.mono HBM.o.size));clear q1);go_roundw;case rel=>exact⟨j+1,by omega,by go_num,by rw[HFJ.o,HUN.o,Lh he4];rfl,HB9.o⟩
       case measure=>simp[intOf];omega
     .go_wp2;go_ret;refine⟨bJ ?_,HBM.o⟩;rw[HE.o];unfold kW;rw[HEJ.o,LZ (by omega)];rfl
end Go.Proofs.YteimdcndjjclnaaGreat
