/- RankOf of the reference. -/
import Derived.Test.YteimdcndjjclnaaGreatFG
import Derived.Deep.AppendLies
set_option maxHeartbeats 4000000
set_option maxRecDepth 100000
namespace Go.Proofs.YteimdcndjjclnaaGreat
set_option linter.all false
open Go.Proofs.Tryz Go.RowKit
theorem qJ{P:Program}(w:World)(base:Nat)(t ty e:TypeId)(i:TypeInfo)(size:Nat)(ht:P.underlying t=some (.slice e))(hi:P.info? e=some i)(v:Value)(n c:Nat)(xs:List Value)(hown:w.ownsRow base e size v n xs):(Builtin.append_ #[t,t] ty #[v,.slice none 0 c]).run P w=.ok v w:=by
 rcases hown.2 with ⟨rfl,rfl⟩|⟨g,cap,ag,rfl,_,_,hnc,_⟩
 .simp[Builtin.append_,run_underlying ht,sizeOf,typeInfo,hi,Builtin.lenOf,Builtin.firstCells]
 .simp[Builtin.append_,run_underlying ht,sizeOf,typeInfo,hi,Builtin.lenOf,Builtin.firstCells,hnc,storeCells]
theorem yM{P:Program}{w:World}{ops:Array Oper}{rest:List Oper}{o:Oper}{a:Act}{Q:Exit->Act->World->Prop}(hgd:o.guard=none)(s x:Operand)(t:TypeId)(ho:o.op=.call {callee:=.builtin .append,args:=#[s,x],argTypes:=#[t,t]})(base:Nat)(e:TypeId)(i:TypeInfo)(size:Nat)(ht:P.underlying t=some (.slice e))(hi:P.info? e=some i)(v:Value)(n c:Nat)(xs:List Value)(hs:a.eval s=v)(hown:w.ownsRow base e size v n xs)(hx:a.eval x=.slice none 0 c)(h:wpList P ops Q rest (a.put o.dst v) w):wpList P ops Q (o::rest) a w:=by refine wpList_plain hgd λK hK=>?_;have hrun:=qJ (P:=P) w base t o.type e i size ht hi v n c xs hown;unfold Oper.wp;simp[execOp,ho,resolve,invoke,builtin,hs,hx,hrun,Result.andThen];exact hK _ _ h
theorem Tryz.infoInts:(prog.info? 24).map (λi=>(i.zero,i.size,i.bytes))=some (some (.slice none 0 0),1,24):=by kernel_rfl
theorem fj{w:World}{B B':Nat}{T T':TypeId}{s s':Nat}{u v:Value}{n m:Nat}{xs ys:List Value}(hT:T≠T')(h:w.ownsRow B T s u n xs)(k:w.ownsRow B' T' s' v m ys):u.ownBlock=none\/u.ownBlock≠v.ownBlock:=by
 rcases h.2 with ⟨rfl,_⟩|⟨g,c,ag,rfl,_,hg,_⟩
 .left;rfl
 .right;rcases k.2 with ⟨rfl,_⟩|⟨g',c',cur',rfl,_,hg',_⟩
  .simp[Value.ownBlock]
  .simp only[Value.ownBlock,ne_eq,M3];intro e;subst e;rw[hg] at hg';simp at hg';exact hT hg'.2
def oX(qs:List jA):List Value:=qs.map Prod.snd
def ni(qs:List jA):List Value:=qs.map λq=>.int .i64 q.1.1
structure lu(B:Nat)(w:World)(kv av:Value)(qs:List jA):Prop where
 own:w.ownsRow B 24 1 kv qs.length (oX qs)
 cols:w.ownsRow B 3 1 av qs.length (ni qs)
 rows:∀q∈qs,cq w B q.2 q.1.2
 apart:∀q∈qs,q.2.ownBlock=none\/q.2.ownBlock≠av.ownBlock
theorem lu.below{B:Nat}{w w':World}{kv av:Value}{qs:List jA}(h:lu B w kv av qs)(hb:Below w.heap.size w w'):lu B w' kv av qs:=
 ⟨aI h.own hb,aI h.cols hb,λq hq=>aI (h.rows q hq) hb,h.apart⟩
theorem bY{w:World}{B:Nat}{T:TypeId}{s:Nat}{v:Value}{n:Nat}{xs:List Value}(h:w.ownsRow B T s v n xs):∃a c,v=.slice a n c:=by
 rcases h.2 with ⟨h1,h2⟩|⟨g,c,ag,h1,_⟩
 .exact⟨none,0,by rw[h1,h2]⟩
 .exact⟨_,c,h1⟩
theorem ik{w:World}{B:Nat}{T:TypeId}{a:Option Addr}{c n:Nat}{xs:List Value}(h:w.ownsRow B T 1 (.slice a n c) n xs)(k:Nat)(hk:k<n):∃g,a=some ⟨g,0,none⟩/\B<=g/\g<w.heap.size/\w.cell? ⟨g,k,none⟩=xs[k]?:=by
 rcases h.2 with ⟨h1,h2⟩|⟨g,c',ag,h1,hB,hg,_⟩
 .omega
 .simp only[M4] at h1;obtain⟨rfl,_,_⟩:=h1;have hlt:=MH h g rfl;exact⟨g,rfl,hlt.1,hlt.2,h.cellAt k (by omega)⟩
theorem lu.snoc{B:Nat}{W W2 W4:World}{kv av kv2:Value}{qs:List jA}{c:Nat}{r:List Int}{u:Value}{O1 O2:Obj}{ga ca:Nat}(h:lu B W kv av qs)(hu:cq W B u r)(hua:u.ownBlock=none\/u.ownBlock≠av.ownBlock)(h2:W2.ownsRow B 24 1 kv2 (qs.length+1) (oX qs++[u]))(g2:(W.alloc O1).grownBy W2 kv.ownBlock)(h4:W4.ownsRow B 3 1 (.slice (some ⟨ga,0,none⟩) (qs.length+1) ca) (qs.length+1) (ni qs++[.int .i64 c]))(g4:(W2.alloc O2).grownBy W4 av.ownBlock)(hat:av.ownBlock=some ga\/ga=(W2.alloc O2).heap.size):lu B W4 kv2 (.slice (some ⟨ga,0,none⟩) (qs.length+1) ca) (qs++[((c,r),u)]):=by
 have hTne:(3:TypeId)≠24:=by decide
 have k1:=h.below (ai (A:=O1));have u1:=aI hu (ai (A:=O1));have r2:∀q∈qs,cq W2 B q.2 q.1.2:=λq hq=>(k1.rows q hq).kept g2 (fj hTne (k1.rows q hq) k1.own);have c2:=k1.cols.kept g2 (fj hTne k1.cols k1.own);have u2:=u1.kept g2 (fj hTne u1 k1.own);have r3:∀q∈qs,cq (W2.alloc O2) B q.2 q.1.2:=λq hq=>aI (r2 q hq) ai;have c3:=aI c2 (ai (A:=O2));have u3:=aI u2 (ai (A:=O2));have k3:=aI h2 (ai (A:=O2));have k4:=k3.kept g4 (fj (Ne.symm hTne) k3 c3);have new:∀{x:Value}{ys:List Int},cq (W2.alloc O2) B x ys->(x.ownBlock=none\/x.ownBlock≠av.ownBlock)->(x.ownBlock=none\/x.ownBlock≠Value.ownBlock (.slice (some ⟨ga,0,none⟩) (qs.length+1) ca)):=by
  intro x ys hx hxa;rcases hxa with hxa|hxa
  .exact Np hxa
  .rcases hat with hat|hat
   .rw[hat] at hxa;exact Nq hxa
   .cases hb:x.ownBlock with
    |none=>exact Np rfl
    |some kx=>have:=(MH hx kx hb).2;right;simp only[Value.ownBlock,ne_eq,M3];omega
 refine⟨?_,?_,λq hq=>?_,λq hq=>?_⟩
 .rw[oX,Nd,M0];exact k4
 .rw[ni,Nd,M0];exact h4
 .rw[MY,MZ] at hq;rcases hq with hq|rfl
  .exact(r3 q hq).kept g4 (h.apart q hq)
  .exact u3.kept g4 hua
 .rw[MY,MZ] at hq;rcases hq with hq|rfl
  .exact new (r3 q hq) (h.apart q hq)
  .exact new u3 hua
theorem Ey(qs:List jA)(k:Nat)(h:k<qs.length):(ni qs)[k]?=some (.int .i64 qs[k].1.1):=by simp[ni,h]
theorem Ez(qs:List jA)(k:Nat)(h:k<qs.length):(oX qs)[k]?=some qs[k].2:=by simp[oX,h]
theorem qK(w:World)(a:Value)(T:TypeId):∀j u,[a][j]?=some u->(w.alloc (.cells #[a] T)).cell? ((⟨w.heap.size,0,none⟩:Addr).add j)=some u:=by
 intro j u hj;rcases j with _|j
 .simp at hj;subst hj;simp[Addr.add]
 .simp at hj
theorem nj(a:Option Addr)(n k:Nat):∀u∈[Value.slice a n k],u.oneCell'=true:=by intro u hu;simp at hu;subst hu;rfl
theorem qL(c:Int):∀u∈[Value.int .i64 c],u.oneCell'=true:=by intro u hu;simp at hu;subst hu;rfl
theorem EA(p n:Nat)(v:Value)(rows:List (List Int))(w:World)(hp:2<=p)(hp2:p<=101)(hpr:dQ p p=true)(hm:rows.length<=400)(hn:n<=400)(hrows:∀r∈rows,df p n r)(hr:oS w v rows):Calls prog 26 #[.int .i64 p,v] w λe w'=>e=.returned (.int .i64 (gJ p rows).length)/\Below w.heap.size w w':=by
 have HR:=ae hr;have HROWS:=ae hrows;have HPR:=ae hpr;obtain⟨ra,rcap,rfl,_⟩:=hr;obtain⟨i0,hi,hz0,hz1,hz2⟩:=info_parts Tryz.infoInt;have HI:=ae (MK hi (MK hz0 (MK hz1 hz2)));clear hrows hi hz0 hz1 hz2 hpr;obtain⟨i1,hi,hz0,hz1,hz2⟩:=info_parts Tryz.infoInts;have HI1:=ae (MK hi (MK hz0 (MK hz1 hz2)));clear hi hz0 hz1 hz2;go_enter func26,ntmps26;go_wp2;go_loopw [5,6,7] (λkv av i wr=>∃(k:Nat)(qs:List jA),k<=rows.length/\i=.int .i64 k/\qs.length<=k/\lu w.heap.size wr kv av qs/\(∀f∈cJ qs,oU p n f)/\cJ qs=(rows.take k).foldl (fP p) []/\Below w.heap.size w wr) (λ_ _ i _=>rows.length-(intOf i).toNat);case atStart=>exact⟨0,[],MP _,rfl,MI _,⟨World.ownsRow_nil _ _ _ _,World.ownsRow_nil _ _ _ _,λq hq=>by simp at hq,λq hq=>by simp at hq⟩,λf hf=>by simp at hf,rfl,MJ _ _⟩
 case round=>
  obtain⟨k,qs,hk,rfl,hqk,hfo,hok,hfs,hbr⟩:=hrel;obtain⟨wo,hwo⟩:∃wo:World,wo=wr:=⟨_,rfl⟩;subst hwo;have HFO:=ae hfo;have HOK:=ae hok;have HFS:=ae hfs;have HBR:=ae hbr;obtain⟨fa,fc,rfl⟩:=bY hfo.own;obtain⟨ta,tc,rfl⟩:=bY hfo.cols;clear hfo hok hfs;by_cases hk2:k<rows.length
  .obtain⟨a,cap,he,hrr⟩:=HR.o;obtain⟨b,off,ha,hlt,hsl⟩:=hrr (by omega);simp only[M4] at he;obtain⟨rfl,_,rfl⟩:=he;subst ha;obtain⟨sa,sc,hcell,hs⟩:=El hsl k hk2;rw[<-hbr.cell (p:=⟨b,off+k,none⟩) hlt] at hcell;have HSL:=ae (hs.below hbr);have HRW:=ae (HROWS.o _ (D9 rows k hk2));have HST:Nw ((rows.take (k+1)).foldl (fP p) []=fP p (cJ qs) (rows.getD k [])):=by unfold Nw;rw[Na hk2,List.foldl_append,<-HFS.o];simp[MV,hk2]
   have hso:=hbr.size;clear hrr hsl hs hbr;generalize rows.getD k []=row at HSL HRW HST hcell;have hlr1:row.length<=400:=by have:=HRW.o.1;omega
   have hcell2:∀O,(wo.alloc O).cell? ⟨b,off+k,none⟩=some (.slice sa row.length sc):=λO=>by rw[ai.cell (p:=⟨b,off+k,none⟩) (show b<wo.heap.size by omega)];exact hcell
   obtain⟨hi,hz0,hz1,hz2⟩:=HI.o;by_cases hn0:row.length=0
   .have hnn:n=0:=by have:=HRW.o.1;omega
    have hq0:qs=[]:=by
     cases qs with
     |nil=>rfl
     |cons q qs=>have h1:=(HOK.o q.1 (by simp)).1;omega
    have hrow:row=[]:=Nk.1 hn0;subst hq0 hrow;clear hn0 hnn;cases sa with
    |none=>
     have HB2:=ae (show Below wo.heap.size wo (wo.alloc (.cells #[] 3)) from ai);go_wp2_with (at_builtin;refine yM rfl _ _ 24 rfl wo.heap.size 3 i0 1 underlying24 hi _ _ _ _ rfl (World.ownsRow_made wo #[] 0 (MI _) (by decide) (by simp)) rfl ?_);have HST2:Nw ((rows.take (k+1)).foldl (fP p) []=[]):=HST.o;go_wp2_with fail;go_loop [9] (λi=>i=.int .i64 0) (λ_=>0);case atStart=>rfl
     case round=>
      subst hrel;go_wp2_with fail;go_loop [12] (λi=>i=.int .i64 0) (λ_=>0);case atStart=>rfl
      case round=>
       subst hrel;go_wp2_with fail;go_roundw;case rel=>exact⟨k+1,[],by omega,by go_num,by simp,HFO.o.below HB2.o,λf hf=>by simp at hf,by rw[HST2.o];rfl,HBR.o.trans (HB2.o.mono HBR.o.size)⟩
       case measure=>simp[intOf];omega
    |some ad=>
     have HN:Nw (∀j u,(fC [])[j]?=some u->(wo.alloc (.cells #[] 3)).cell? (ad.add j)=some u):=by intro j u hj;simp at hj
     go_wp2_with (at_builtin;refine wpList_append_own _ rfl _ _ 24 rfl wo.heap.size 3 i0 (.int .i64 0) 1 8 underlying24 hi hz0 hz1 hz2 rfl (by decide) _ _ _ rfl (World.ownsRow_made wo #[] 0 (MI _) (by decide) (by simp)) ad 0 sc (fC []) rfl (by simp) HN.o (tI []) (by unfold maxLen;omega) (by omega) (by simp) ?_);intro rest w2 hown' hgrow _;try simp only[M1,List.nil_append] at hown'
     have hown:cq w2 wo.heap.size rest []:=hown';have HB2:=ae (show Below wo.heap.size wo w2 from (ai).grown hgrow (by simp) (λk hk=>by simp[Value.ownBlock] at hk;omega));obtain⟨ra',rc',hrf⟩:=Ej hown;subst hrf;clear hown hown' hgrow;have HST2:Nw ((rows.take (k+1)).foldl (fP p) []=[]):=HST.o;go_wp2_with fail;go_loop [9] (λi=>i=.int .i64 0) (λ_=>0);case atStart=>rfl
     case round=>
      subst hrel;go_wp2_with fail;go_loop [12] (λi=>i=.int .i64 0) (λ_=>0);case atStart=>rfl
      case round=>
       subst hrel;go_wp2_with fail;go_roundw;case rel=>exact⟨k+1,[],by omega,by go_num,by simp,HFO.o.below HB2.o,λf hf=>by simp at hf,by rw[HST2.o];rfl,HBR.o.trans (HB2.o.mono HBR.o.size)⟩
       case measure=>simp[intOf];omega
   .obtain⟨a3,c3,he3,hh3⟩:=HSL.o;obtain⟨b3,off3,ha3,hlt3,hc3⟩:=hh3 (by omega);simp only[M4] at he3;obtain⟨rfl,_,rfl⟩:=he3;subst ha3;have HN:Nw (∀j u,(fC row)[j]?=some u->(wo.alloc (.cells #[] 3)).cell? ((⟨b3,off3,none⟩:Addr).add j)=some u):=by intro j u hj;refine yt (w:=wo.alloc (.cells #[] 3)) (b:=b3) (off:=off3) ?_ j u hj;intro i hi;rw[ai.cell (p:=⟨b3,off3+i,none⟩) hlt3];exact hc3 i hi
    clear hc3 hh3;go_wp2_with (at_builtin;refine wpList_append_own _ rfl _ _ 24 rfl wo.heap.size 3 i0 (.int .i64 0) 1 8 underlying24 hi hz0 hz1 hz2 rfl (by decide) _ _ _ rfl (World.ownsRow_made wo #[] 0 (MI _) (by decide) (by simp)) ⟨b3,off3,none⟩ row.length sc (fC row) rfl (by simp) HN.o (tI row) (by unfold maxLen;omega) (by omega) (by simp) ?_);intro rest w2 hown' hgrow _;try simp only[M1,List.nil_append] at hown'
    have hown:cq w2 wo.heap.size rest row:=hown';have HB2:=ae (show Below wo.heap.size wo w2 from (ai).grown hgrow (by simp) (λk hk=>by simp[Value.ownBlock] at hk;omega));have HOWN:=ae hown;obtain⟨g,gc,hrest,hgB,hgw⟩:=mj hown (by omega);subst hrest;clear hown hown' hgrow hi hz0 hz1 hz2 hcell hcell2 HN;go_wp2_with fail;go_loopw [9] (λi wx=>∃j:Nat,j<=qs.length/\i=.int .i64 j/\cq wx wo.heap.size (.slice (some ⟨g,0,none⟩) row.length gc) (bN p row ((cJ qs).take j))/\Below wo.heap.size wo wx) (λi _=>qs.length-(intOf i).toNat);case atStart=>exact⟨0,MP _,rfl,HOWN.o,HB2.o⟩
    case round=>
     obtain⟨j,hj,rfl,ho,hbx⟩:=hrel;by_cases hj2:j<qs.length
     .have hfx:=HFO.o.below hbx;obtain⟨fg,hfa,hfg1,hfg2,hfc1⟩:=ik hfx.own j hj2;obtain⟨tg,hta,htg1,htg2,htc1⟩:=ik hfx.cols j hj2;rw[Ez qs j hj2] at hfc1;rw[Ey qs j hj2] at htc1;subst hfa hta;have hfg0:=(MH HFO.o.own fg rfl).2;have htg0:=(MH HFO.o.cols tg rfl).2;have hjf:j<(cJ qs).length:=by simpa using hj2
      have HPV:=ae (HOK.o (cJ qs)[j] (MS hjf));have HRD:=ae (Ei (p:=p) (row:=row) hjf);have HRX:=ae (oT (n:=n) (by omega) ((cJ qs).take j) row HRW.o (λf hf=>(HOK.o f (Ns hf)).2));have hqr:=hfx.rows qs[j] (MS hj2);have hqr0:=HFO.o.rows qs[j] (MS hj2);have efs:(cJ qs)[j]=qs[j].1:=by simp
      rw[efs] at HPV HRD;generalize qs[j]=q at hfc1 htc1 hqr hqr0 HPV HRD;obtain⟨⟨qc,qrow⟩,qv⟩:=q;have hql:qrow.length=row.length:=by have h1:=HPV.o.2.1;have h2:=HRW.o.1;simp only at h1;omega
      obtain⟨qg,qcap,hqv,hqg1,hqg2⟩:=mj hqr0 (by simp only;omega);simp only at hfc1 htc1 hqr hqr0 hqv;subst hqv;have HRL:=ae (show (bN p row ((cJ qs).take j)).length=row.length by rw[HRX.o.1,HRW.o.1]);have hqc:qc<row.length:=by have h1:=HPV.o.1;have h2:=HRW.o.1;simp only at h1;omega
      have hrc:=nh ho HRL.o qc hqc;have hxb:=HRX.o.2 _ (fh _ qc (by rw[HRL.o];exact hqc));have HQL:=ae hql;have HQR:=ae hqr;have HO:=ae ho;have HBX:=ae hbx;have hsx:=hbx.size;have HCL:Nw (fD p (bN p row ((cJ qs).take j)) (qc,qrow)=if (bN p row ((cJ qs).take j)).getD qc 0=0 then bN p row ((cJ qs).take j) else aY (mh p (p-(bN p row ((cJ qs).take j)).getD qc 0)) (bN p row ((cJ qs).take j)) qrow):=rfl;have HRD2:Nw (bN p row ((cJ qs).take (j+1))=fD p (bN p row ((cJ qs).take j)) (qc,qrow)):=HRD.o;rw[HCL.o] at HRD2;clear hfx hjf efs hqr hqr0 hql ho hbx HCL HRD;have hqcI:(qc:Int)<(row.length:Int):=by omega
      generalize bN p row ((cJ qs).take j)=xs at HRX HRL hrc hxb HO HRD2;generalize xs.getD qc 0=x at hrc hxb HRD2;obtain⟨hx1,hx2⟩:=hxb;obtain⟨wi,hwi⟩:∃wi:World,wi=wr:=⟨_,rfl⟩;subst hwi;cases hz:(x !=0)
      .have hz':x=0:=by simpa using hz
       rw[M9 hz'] at HRD2;clear hz';go_wp2_with fail;go_loop [11] (λi=>i=.int .i64 0) (λ_=>0);case atStart=>rfl
       case round=>
        subst hrel;go_wp2_with fail;go_roundw;case rel=>exact⟨j+1,by omega,by go_num,by rw[HRD2.o];exact HO.o,HBX.o⟩
        case measure=>simp[intOf];omega
      .have hz':¬x=0:=by simpa using hz
       rw[M8 hz'] at HRD2;have HLZ:=ae (show (aY (mh p (p-x)) xs qrow).length=xs.length from jz _ _ _ (by rw[HRL.o,HQL.o]));have HZA:=ae (λm hm=>oW (mh p (p-x)) xs qrow (by rw[HRL.o,HQL.o]) m hm);have hgw2:g<wi.heap.size:=(Ee HO.o).2;clear hz';generalize hzs:aY (mh p (p-x)) xs qrow=zs at HLZ HZA HRD2;clear hzs;go_wp2_with fail;clear hrc;go_loopw [11] (λi wx=>∃m:Nat,m<=row.length/\i=.int .i64 m/\cq wx wo.heap.size (.slice (some ⟨g,0,none⟩) row.length gc) (gh zs xs m)/\wi.grownBy wx (some g)) (λi _=>row.length-(intOf i).toNat);case atStart=>exact⟨0,MP _,rfl,by simpa [gh] using HO.o,qB _ _⟩
       case round=>
        obtain⟨m,hm1,rfl,hom,hgm⟩:=hrel;have HOM:=ae hom;have HGM:=ae hgm;have hml:=yv zs xs m HLZ.o (by rw[HRL.o];exact hm1);rw[HRL.o] at hml;by_cases hm2:m<row.length
        .have hcm:=nh hom hml m hm2;have hfr:=tM hom hml m;have hst:=λz=>tN hom hml m z;have hat:=yw zs xs m HLZ.o (by rw[HRL.o];exact hm2);have hset:=yx zs xs m HLZ.o (by rw[HRL.o];exact hm2);rw[hat] at hcm;have hza:=HZA.o m (by rw[HRL.o];exact hm2);rw[hza] at hset;have hxm:=HRX.o.2 _ (fh xs m (by rw[HRL.o];exact hm2));have hym:=HPV.o.2.2 _ (fh qrow m (by rw[HQL.o];exact hm2));have hfc2:=hgm.cell hfc1 (λe=>by simp at e;omega);have hqm:=hgm.cell (qC HQR.o m (by rw[HQL.o];exact hm2)) (λe=>by simp at e;omega);have HSS:Nw (∀z,z=mh p (p-x) (xs.getD m 0) (qrow.getD m 0)->cq (wr.setCell ⟨g,m,none⟩ (.int .i64 z)) wo.heap.size (.slice (some ⟨g,0,none⟩) row.length gc) (gh zs xs (m+1))):=by intro z hz;rw[hz,<-hset];exact hst _
         have hqml:(m:Int)<(qrow.length:Int):=by have:=HQL.o;omega
         clear hst hat hset hom hgm hml hza;generalize xs.getD m 0=x1 at hcm HSS hxm;generalize qrow.getD m 0=y1 at hqm HSS hym;obtain⟨hxm1,hxm2⟩:=hxm;obtain⟨hym1,hym2⟩:=hym;obtain⟨hmb1,hmb2⟩:=qA (a:=(p:Int)-x) (b:=y1) ⟨by omega,by omega,by omega,by omega⟩;go_wp2_with fail;go_region;all_goals
          go_wp2;go_roundw;case rel=>exact⟨m+1,by omega,by go_num,HSS.o _ rfl,Ea (cN HGM.o (Eb _ _ _ _))⟩
          case measure=>simp[intOf];omega
        .have efin:gh zs xs m=zs:=by unfold gh;rw[M2 (by rw[HLZ.o,HRL.o];omega),No (by rw[HRL.o];omega),List.append_nil]
         rw[efin] at HOM;clear efin hom hgm hml;go_wp2_with fail;go_roundw;case rel=>exact⟨j+1,by omega,by go_num,by rw[HRD2.o];exact HOM.o,HBX.o.trans (dI HGM.o hgB hsx)⟩
         case measure=>simp[intOf];omega
     .have etk:(cJ qs).take j=cJ qs:=M2 (by simp;omega);rw[etk] at ho;have HRX:=ae (oT (n:=n) (by omega) (cJ qs) row HRW.o (λf hf=>(HOK.o f hf).2));have hRN:(bN p row (cJ qs)).length=row.length:=by rw[HRX.o.1,HRW.o.1]
      have HRN:=ae hRN;have HSP:Nw (fP p (cJ qs) row=if nz (bN p row (cJ qs))=row.length then cJ qs else cJ qs++[(nz (bN p row (cJ qs)),ck p (aM p ((bN p row (cJ qs)).getD (nz (bN p row (cJ qs))) 0)) (bN p row (cJ qs)))]):=by unfold Nw fP;rw[hRN]
      have HO:=ae ho;have HBX:=ae hbx;have HSOK:=ae (yA (p:=p) (n:=n) (by omega) HOK.o HRW.o);rw[HSP.o] at HSOK;rw[HSP.o] at HST;clear ho hbx etk hRN HSP;have hnzle:=qD (bN p row (cJ qs));have hnzat:=tK (bN p row (cJ qs));have NB:=ae (tL (bN p row (cJ qs)));rw[HRN.o] at hnzle hnzat;have HNA:=ae hnzat;clear hnzat;generalize bN p row (cJ qs)=r at HRX HRN HST HO HSOK hnzle HNA NB;obtain⟨wi,hwi⟩:∃wi:World,wi=wr:=⟨_,rfl⟩;subst hwi;go_wp2_with fail;clear hj hj2;go_loop [12] (λi=>∃f:Nat,f<=nz r/\i=.int .i64 f) (λi=>row.length-(intOf i).toNat);case atStart=>exact⟨0,MP _,rfl⟩
      case round=>
       obtain⟨f,hf,rfl⟩:=hrel;by_cases hf2:f<nz r
       .have hfN:f<row.length:=by omega
        have hcf:=nh HO.o HRN.o f hfN;rw[NB.o f hf2] at hcf;go_wp2;go_round;case rel=>exact⟨f+1,by omega,by go_num⟩
        case measure=>simp[intOf];omega
       .have hfe:f=nz r:=by omega
        by_cases hz:nz r=row.length
        .rw[M9 hz] at HST HSOK;have hfl:f=row.length:=by omega
         have hfl2:((f:Int)==(row.length:Int))=true:=by simp;omega
         have hfl3:¬(f:Int)<(row.length:Int):=by omega
         clear hfe hz hf hf2 hnzle hfl;go_wp2_with fail;go_roundw;case rel=>exact⟨k+1,qs,by omega,by go_num,by omega,HFO.o.below HBX.o,HSOK.o,by rw[HST.o],HBR.o.trans (HBX.o.mono HBR.o.size)⟩
         case measure=>simp[intOf];omega
        .rw[M8 hz] at HST HSOK;have hcN:f<row.length:=by omega
         have hcell:=nh HO.o HRN.o f hcN;have hne0:=HNA.o (by omega);have hmem:=HRX.o.2 _ (fh r f (by rw[HRN.o];exact hcN));rw[<-hfe] at hne0 HST HSOK;clear hz hf hf2 hnzle hfe NB HNA;generalize hx:r.getD f 0=x at*;clear hx;obtain⟨an,rfl⟩:∃an:Nat,x=an:=⟨x.toNat,by omega⟩;have ha1:an<p:=by omega
         have ha0:((an:Int)==0)=false:=by simpa using hne0
         have hfN:((f:Int)==(row.length:Int))=false:=by simp;omega
         have HOKI:=ae (tH (p:=p) (a:=an) hp hp2 HPR.o (by omega) ha1);have hcN':(f:Int)<(row.length:Int):=by omega
         clear hmem hne0;go_wp2_with fail;refine(D8 p an _ hp hp2 ha1 HOKI.o).mono ?_;rintro e wd ⟨rfl,hwd⟩;have hbd:=qo (MJ wi.heap.size wi) hwd;have HOD:=ae (Ef HO.o hbd);have HBD:=ae (HBX.o.trans (hbd.mono HBX.o.size));have hsl:=yq p an hp (p-2);have HSV:Nw (aM (p:Int) (an:Int)=(dS p an:Int)):=rfl;rw[HSV.o] at HST HSOK;have hsl2:dS p an<p:=hsl;clear hsl HSV hwd hbd HO HBX hcell;generalize dS p an=s at hsl2 HST HSOK;have HLS:Nw ((ck p s r).length=r.length):=by simp[Nw,ck]
         go_wp2_with fail;go_loopw [14] (λi wx=>∃m:Nat,m<=row.length/\i=.int .i64 m/\cq wx wo.heap.size (.slice (some ⟨g,0,none⟩) row.length gc) (gh (ck p s r) r m)/\Below wo.heap.size wo wx) (λi _=>row.length-(intOf i).toNat);case atStart=>exact⟨0,MP _,rfl,by simpa [gh] using HOD.o,HBD.o⟩
         case round=>
          obtain⟨m,hm1,rfl,hom,hbm⟩:=hrel;have HOM:=ae hom;have HBM:=ae hbm;have hml:=yv (ck p s r) r m HLS.o (by rw[HRN.o];exact hm1);rw[HRN.o] at hml;by_cases hm2:m<row.length
          .have hcm:=nh hom hml m hm2;have hfr:=tM hom hml m;have hst:=λz=>tN hom hml m z;have hat:=yw (ck p s r) r m HLS.o (by rw[HRN.o];exact hm2);have hset:=yx (ck p s r) r m HLS.o (by rw[HRN.o];exact hm2);rw[Ek p s r m (by rw[HRN.o];exact hm2)] at hset;rw[hat] at hcm;have hrm:=HRX.o.2 _ (fh r m (by rw[HRN.o];exact hm2));have HSS:Nw (∀z,z=r.getD m 0*(s:Int)%(p:Int)->cq (wr.setCell ⟨g,m,none⟩ (.int .i64 z)) wo.heap.size (.slice (some ⟨g,0,none⟩) row.length gc) (gh (ck p s r) r (m+1))):=by intro z hz;rw[hz,<-hset];exact hst _
           obtain⟨hmb1,hmb2⟩:=qA (a:=r.getD m 0) (b:=(s:Int)) ⟨by omega,by omega,by omega,by omega⟩;clear hst hat hset hom hbm hml;generalize r.getD m 0=y at hcm HSS hmb1 hmb2 hrm;go_wp2;go_roundw;case rel=>exact⟨m+1,by omega,by go_num,HSS.o _ rfl,HBM.o.setCell hgB _⟩
           case measure=>simp[intOf];omega
          .have efin:gh (ck p s r) r m=ck p s r:=by unfold gh;rw[M2 (by rw[HLS.o,HRN.o];omega),No (by rw[HRN.o];omega),List.append_nil]
           rw[efin] at HOM;have FND:=ae (HFO.o.below HBM.o);have hsz:w.heap.size<=wr.heap.size:=MO HBR.o.size HBM.o.size;have HUA:Nw (Value.ownBlock (.slice (some ⟨g,0,none⟩) row.length gc)=none\/Value.ownBlock (.slice (some ⟨g,0,none⟩) row.length gc)≠Value.ownBlock (.slice ta qs.length tc)):=by right;intro e;have h1:=(MH HFO.o.cols g (by rw[<-e];rfl)).2;omega
           clear efin hom hbm hml;obtain⟨hi,hz0,hz1,hz2⟩:=HI.o;obtain⟨ji,jz0,jz1,jz2⟩:=HI1.o;go_wp2_with (at_builtin;refine wpList_append_own _ rfl (.tmp 111) (.tmp 113) 32 rfl w.heap.size 24 i1 (.slice none 0 0) 1 24 underlying32 ji jz0 jz1 jz2 rfl (by decide) _ _ _ rfl (FND.o.own.alloc _) ⟨wr.heap.size,0,none⟩ 1 1 [.slice (some ⟨g,0,none⟩) row.length gc] rfl rfl (qK _ _ _) (nj _ _ _) (by unfold maxLen;omega) (by omega) (by simp;omega) ?_);intro kv2 w4 hown2 hgrow2 _;obtain⟨ka,kc,hkv⟩:=bY hown2;subst hkv;have H2:=ae hown2;have G2:=ae hgrow2;have C4:=ae (show w4.ownsRow w.heap.size 3 1 (.slice ta qs.length tc) qs.length (ni qs) from ((FND.o.below ai).cols).kept hgrow2 (fj (by decide) FND.o.cols FND.o.own));have hs4:wr.heap.size<w4.heap.size:=by have:=hgrow2.size;simp at this;omega
           clear hown2 hgrow2 ji jz0 jz1 jz2;go_wp2_with (at_builtin;refine wpList_append_lies _ rfl (.tmp 115) (.tmp 117) 24 rfl w.heap.size 3 i0 (.int .i64 0) 1 8 underlying24 hi hz0 hz1 hz2 rfl (by decide) _ _ _ rfl (C4.o.alloc _) ⟨w4.heap.size,0,none⟩ 1 1 [.int .i64 f] rfl rfl (qK _ _ _) (qL _) (by decide) (by unfold maxLen;omega) (by omega) (by simp;omega) _ rfl ?_);intro ga ca w5 hown4 hgrow4 hat4 _;have FN2:=ae (lu.snoc FND.o (mi HOM.o (show w.heap.size<=wo.heap.size from HBR.o.size)) HUA.o H2.o G2.o hown4 hgrow4 (by rw[show (w4.alloc (Obj.cells #[Value.int IntKind.i64 (f:Int)] 3)).heap.size=w4.heap.size+1 by simp];exact hat4));have HB5:=ae (show Below w.heap.size w w5 from by
            have b1:Below w.heap.size w wr:=HBR.o.trans (HBM.o.mono HBR.o.size);have b2:=(b1.trans (ai.mono b1.size)).grown G2.o (by simp;omega) (λk' hk'=>(MH FND.o.own k' hk').1);exact(b2.trans (ai.mono b2.size)).grown hgrow4 (by simp;omega) (λk' hk'=>(MH FND.o.cols k' hk').1))
           clear hown4 hgrow4 hat4 hi hz0 hz1 hz2;go_wp2_with fail;go_roundw;case rel=>exact⟨k+1,qs++[((f,ck p s r),.slice (some ⟨g,0,none⟩) row.length gc)],by omega,by go_num,by simp;omega,FN2.o,by rw[yB];exact HSOK.o,by rw[yB,HST.o],HB5.o⟩
           case measure=>simp[intOf];omega
  .have etk:rows.take k=rows:=M2 (by omega);rw[etk] at HFS;have HLN:Nw ((qs.length:Int)=((gJ p rows).length:Int)):=by
    have h1:qs.length=(gJ p rows).length:=by unfold gJ;rw[<-HFS.o];simp
    unfold Nw;omega
   clear etk;go_wp2;go_ret;exact⟨bL HLN.o,HBR.o⟩
structure cr(B:Nat)(w:World)(v:Value)(qs:List (List Int×Value)):Prop where
 own:w.ownsRow B 24 1 v qs.length (qs.map Prod.snd)
 rows:∀q∈qs,cq w B q.2 q.1
theorem cr.below{B:Nat}{w w':World}{v:Value}{qs:List (List Int×Value)}(h:cr B w v qs)(hb:Below w.heap.size w w'):cr B w' v qs:=⟨aI h.own hb,λq hq=>aI (h.rows q hq) hb⟩
theorem cr.snoc{B:Nat}{W W2:World}{v v2:Value}{qs:List (List Int×Value)}{r:List Int}{u:Value}{O:Obj}(h:cr B W v qs)(hu:cq W B u r)(h2:W2.ownsRow B 24 1 v2 (qs.length+1) (qs.map Prod.snd++[u]))(g2:(W.alloc O).grownBy W2 v.ownBlock):cr B W2 v2 (qs++[(r,u)]):=by
 have hTne:(3:TypeId)≠24:=by decide
 have k1:=h.below (ai (A:=O));have u1:=aI hu (ai (A:=O));refine⟨by rw[Nd,M0];exact h2,λq hq=>?_⟩;rw[MY,MZ] at hq;rcases hq with hq|rfl
 .exact(k1.rows q hq).kept g2 (fj hTne (k1.rows q hq) k1.own)
 .exact u1.kept g2 (fj hTne u1 k1.own)
theorem cr.other{B B2:Nat}{W W2:World}{v v7:Value}{qs rs:List (List Int×Value)}{O:Obj}(h:cr B W v qs)(k:cr B2 W v7 rs)(hn:v7.ownBlock=none\/v7.ownBlock≠v.ownBlock)(g2:(W.alloc O).grownBy W2 v.ownBlock):cr B2 W2 v7 rs:=by
 have hTne:(3:TypeId)≠24:=by decide
 have k1:=k.below (ai (A:=O));have h1:=h.below (ai (A:=O));exact⟨k1.own.kept g2 hn,λq hq=>(k1.rows q hq).kept g2 (fj hTne (k1.rows q hq) h1.own)⟩
theorem cr.base{B B2:Nat}{W:World}{v:Value}{qs:List (List Int×Value)}(h:cr B W v qs)(hB:B2<=B):cr B2 W v qs:=⟨mi h.own hB,λq hq=>mi (h.rows q hq) hB⟩
def iP:Nat->Nat->List (List Int)
 |0,_=>[]
 |1,d=>[[(d:Int)]]
 |n+2,d=>(List.range (d+1)).flatMap λk=>(iP (n+1) (d-k)).map λr=>(k:Int)::r
def ba(n:Nat)(d:Int):List (List Int):=if d<0 then [] else iP n d.toNat
def gi(m:Nat)(d:Int)(j:Nat):List (List Int):=(List.range j).flatMap λi:Nat=>(ba (m+1) (d-(i:Int))).map λr=>(i:Int)::r
theorem tP(m:Nat)(d:Int)(j:Nat):gi m d (j+1)=gi m d j++(ba (m+1) (d-j)).map λr=>(j:Int)::r:=by unfold gi;rw[List.range_succ,List.flatMap_append];simp
theorem yN{α β:Type}{f g:α->List β}:∀{l:List α},(∀x∈l,f x=g x)->l.flatMap f=l.flatMap g
 |[],_=>rfl
 |x::l,h=>by rw[List.flatMap_cons,List.flatMap_cons,h x (by simp),yN λy hy=>h y (by simp[hy])]
theorem kC(m:Nat){d:Int}(h:0<=d):gi m d (d.toNat+1)=ba (m+2) d:=by unfold gi ba;rw[M8 (by omega)];show _=(List.range (d.toNat+1)).flatMap _;refine yN λi hi=>?_;rw[List.mem_range] at hi;rw[M8 (by omega),show (d-(i:Int)).toNat=d.toNat-i by omega]
theorem oY(m:Nat)(d:Int){c:Nat}(h:∀i:Nat,(ba (m+1) (d-(i:Int))).length<=c):∀j,(gi m d j).length<=j*c
 |0=>by simp[gi]
 |j+1=>by rw[tP,M0,M6,Nat.succ_mul];have:=oY m d h j;have:=h j;omega
theorem jV:∀(n:Nat)(d:Int),∀r∈ba n d,r.length=n
 |0,d,r,h=>by unfold ba at h;split at h<;>simp[iP] at h
 |1,d,r,h=>by unfold ba at h;split at h<;>simp[iP] at h;rw[h];rfl
 |n+2,d,r,h=>by
  by_cases hd:d<0
  .unfold ba at h;rw[M9 hd] at h;simp at h
  .rw[<-kC n (by omega)] at h;unfold gi at h;rw[Nt] at h;obtain⟨i,_,h⟩:=h;obtain⟨q,hq,rfl⟩:=M5.1 h;have:=jV (n+1) _ q hq;simp[this]
theorem oZ(d:Int):(ba 1 d).length<=1:=by unfold ba;split<;>simp[iP]
theorem EB{d:Int}(h:d<=100):(ba 2 d).length<=101:=by
 by_cases hd:d<0
 .unfold ba;rw[M9 hd];simp
 .rw[<-kC 0 (by omega)];have:=oY 0 d (c:=1) (λi=>oZ _) (d.toNat+1);omega
theorem lw(w:World)(x:Value)(T:TypeId):(w.alloc (.cells #[x] T)).ownsRow w.heap.size T 1 (.slice (some ⟨w.heap.size,0,none⟩) 1 1) 1 [x]:=
 ⟨by simp,.inr ⟨w.heap.size,1,#[x],rfl,MI _,heap_alloc_new w _,by decide,by decide,by simp,by simp⟩⟩
theorem EC{w:World}{B g c:Nat}{r:List Int}(h:cq w B (.slice (some ⟨g,0,none⟩) r.length c) r):∀j u,(fC r)[j]?=some u->w.cell? ((⟨g,0,none⟩:Addr).add j)=some u:=
 yt (w:=w) (b:=g) (off:=0) λi hi=>by rw[M1];exact qC h i hi
theorem qM{w:World}{B:Nat}:cr B w (.slice none 0 0) []:=⟨World.ownsRow_nil _ _ _ _,λq hq=>by simp at hq⟩
theorem ED(n d:Int)(hd:d<0)(w:World):Calls prog 10 #[.int .i64 n,.int .i64 d] w λe w'=>e=.returned (.slice none 0 0)/\w'=w:=by
 have hz:decide (d<0)=true:=by simpa using hd
 go_enter func10,ntmps10;go_wp2;go_ret;exact⟨rfl,rfl⟩
theorem yO(d:Int)(hd:0<=d)(w:World):Calls prog 10 #[.int .i64 1,.int .i64 d] w λe w'=>∃v qs,e=.returned v/\cr w.heap.size w' v qs/\qs.map Prod.fst=ba 1 d/\Below w.heap.size w w':=by
 have hz:decide (d<0)=false:=by simp;omega
 go_enter func10,ntmps10;go_wp2;go_ret;refine⟨_,[([d],.slice (some ⟨w.heap.size,0,none⟩) 1 1)],rfl,⟨?_,λq hq=>?_⟩,?_,?_⟩
 .have:=lw (w.alloc (.cells #[.int .i64 d] 3)) (.slice (some ⟨w.heap.size,0,none⟩) 1 1) 24;simp only[World.size_alloc] at this;exact mi this (by omega)
 .rw[MZ] at hq;subst hq;exact aI (lw w (.int .i64 d) 3) ai
 .unfold ba;rw[M8 (by omega)];simp[iP];omega
 .exact(ai (A:=_)).trans (ai.mono (by simp))
theorem yP{b:Nat}(hb:b=0\/b=1){d:Int}(h:d<=100):(ba (b+1) d).length<=101:=by
 rcases hb with rfl|rfl
 .exact MO (oZ d) (by decide)
 .exact EB h
theorem yQ(b:Nat)(hb:b=0\/b=1)(ih:∀(d:Int)(_:0<=d)(_:d<=100)(w:World),Calls prog 10 #[.int .i64 ((b:Int)+1),.int .i64 d] w λe w'=>∃v qs,e=.returned v/\cr w.heap.size w' v qs/\qs.map Prod.fst=ba (b+1) d/\Below w.heap.size w w')(d:Int)(hd:0<=d)(hd2:d<=100)(w:World):Calls prog 10 #[.int .i64 ((b:Int)+2),.int .i64 d] w λe w'=>∃v qs,e=.returned v/\cr w.heap.size w' v qs/\qs.map Prod.fst=ba (b+2) d/\Below w.heap.size w w':=by
 have hq1:(((b:Int)+2)==1)=false:=by rcases hb with rfl|rfl<;>rfl
 have hq2:(b:Int)+2-1=(b:Int)+1:=by omega
 have hb1:b<=1:=by omega
 have hz:decide (d<0)=false:=by simp;omega
 have HIN:=ae ih;obtain⟨i0,hi,hz0,hz1,hz2⟩:=info_parts Tryz.infoInt;obtain⟨i1,ji,jz0,jz1,jz2⟩:=info_parts Tryz.infoInts;have HI:Nw (prog.info? 3=some i0/\i0.zero=some (.int .i64 0)/\i0.size=1/\i0.bytes=8):=⟨hi,hz0,hz1,hz2⟩;have HI1:Nw (prog.info? 24=some i1/\i1.zero=some (.slice none 0 0)/\i1.size=1/\i1.bytes=24):=⟨ji,jz0,jz1,jz2⟩;clear hi hz0 hz1 hz2 ji jz0 jz1 jz2;go_enter func10,ntmps10;go_wp2;go_loopw [5,6] (λv i wr=>∃(k:Nat) (qs:List (List Int×Value)) (a:Option Addr) (c:Nat),(k:Int)<=d+1/\i=.int .i64 k/\v=.slice a qs.length c/\cr w.heap.size wr (.slice a qs.length c) qs/\qs.map Prod.fst=gi b d k/\Below w.heap.size w wr) (λ_ i _=>(d+1-intOf i).toNat);case atStart=>exact⟨0,[],none,0,by omega,rfl,rfl,qM,by simp[gi],MJ _ _⟩
 case round=>
  obtain⟨k,qs,a,c,hk,rfl,rfl,hro,hqs,hbl⟩:=hrel;by_cases hkd:(k:Int)<=d
  .have HRO:=ae hro;have HBL:=ae hbl;have HQS:=ae hqs;have hql:qs.length<=k*101:=by have h1:=congrArg List.length hqs;rw[M6] at h1;have h2:=oY b d (c:=101) (λi=>yP hb (by omega)) k;omega
   have hwz:=hbl.size;clear hro hqs hbl;have hkd2:decide ((k:Int)<=d)=true:=by simpa using hkd
   obtain⟨wo,hwo⟩:∃wo:World,wo=wr:=⟨_,rfl⟩;subst hwo;have HC:Nw (Calls prog 10 #[.int .i64 ((b:Int)+1),.int .i64 (d-(k:Int))] wo λe w'=>∃v qs,e=.returned v/\cr wo.heap.size w' v qs/\qs.map Prod.fst=ba (b+1) (d-(k:Int))/\Below wo.heap.size wo w'):=HIN.o _ (by omega) (by omega) _;go_wp2_with (go_at_call 10;refine HC.o.mono ?_;rintro e w7 ⟨v7,rs,rfl,hr7,hq7,hb7⟩);obtain⟨a7,c7,hv7⟩:=bY hr7.own;subst hv7;have hq7l:rs.length<=101:=by have h1:=congrArg List.length hq7;rw[M6] at h1;have h2:(ba (b+1) (d-(k:Int))).length<=101:=yP hb (by omega);omega
   have HQ7:=ae hq7;have HR7:=ae hr7;have HB7:=ae hb7;have HAP:Nw (Value.ownBlock (.slice a7 rs.length c7)=none\/Value.ownBlock (.slice a7 rs.length c7)≠Value.ownBlock (.slice a qs.length c)):=by
    cases h7:Value.ownBlock (.slice a7 rs.length c7) with
    |none=>exact Np rfl
    |some g7=>right;intro e;have h1:=(MH HRO.o.own g7 e.symm).2;have h2:=(MH hr7.own g7 h7).1;omega
   have h7z:=hb7.size;clear hq7 hr7 hb7 HC;go_wp2_with fail;go_loopw [5,8] (λv i wx=>∃(j:Nat) (qs2:List (List Int×Value)) (a2:Option Addr) (c2:Nat),j<=rs.length/\i=.int .i64 j/\v=.slice a2 qs2.length c2/\cr w.heap.size wx (.slice a2 qs2.length c2) qs2/\qs2.map Prod.fst=gi b d k++(rs.take j).map (λq=>(k:Int)::q.1)/\qs2.length=qs.length+j/\cr wo.heap.size wx (.slice a7 rs.length c7) rs/\(Value.ownBlock (.slice a7 rs.length c7)=none\/Value.ownBlock (.slice a7 rs.length c7)≠Value.ownBlock (.slice a2 qs2.length c2))/\Below w.heap.size w wx) (λ_ i _=>rs.length-(intOf i).toNat);case atStart=>exact⟨0,qs,a,c,MP _,rfl,rfl,HRO.o.below HB7.o,by simp;exact HQS.o,rfl,HR7.o,HAP.o,HBL.o.trans (HB7.o.mono HBL.o.size)⟩
   case round=>
    obtain⟨j,qs2,a2,c2,hj,rfl,rfl,hro2,hqs2,hl2,hr72,hap2,hbl2⟩:=hrel;by_cases hjl:j<rs.length
    .obtain⟨g7,ha7,hg7B,hg7,hc7⟩:=ik hr72.own j hjl;have hcm:(rs.map Prod.snd)[j]?=some rs[j].2:=by simp[hjl]
     rw[hcm] at hc7;have hrow:=hr72.rows rs[j] (MS hjl);have HTK:Nw ((rs.take (j+1)).map (λq=>(k:Int)::q.1)=(rs.take j).map (λq=>(k:Int)::q.1)++[(k:Int)::rs[j].1]):=by unfold Nw;rw[Na hjl,Nd];rfl
     have hrl:rs[j].1.length=b+1:=jV (b+1) (d-(k:Int)) rs[j].1 (by rw[<-HQ7.o];exact List.mem_map_of_mem (MS hjl));generalize rs[j]=q at hc7 hrow HTK hrl;obtain⟨r,u⟩:=q;simp only at hc7 hrow hrl;obtain⟨gu,cu,hu,hguB,hgul⟩:=mj hrow (by omega);subst hu ha7;have HNW:Nw (∀i x,(fC r)[i]?=some x->(wr.alloc (.cells #[.int .i64 (k:Int)] 3)).cell? ((⟨gu,0,none⟩:Addr).add i)=some x):=EC (aI hrow ai);have HRO2:=ae hro2;have HR72:=ae hr72;have HAP2:=ae hap2;have HBL2:=ae hbl2;have HQS2:=ae hqs2;have HRL:=ae hrl;have hz2:=hbl2.size;have hjI:(j:Int)<(rs.length:Int):=by omega
     have hq2l:qs2.length<=20000:=by omega
     have hrl3:r.length<=3:=by omega
     have HL2:=ae hl2;clear hro2 hr72 hap2 hbl2 hqs2 hrow hcm hl2 hrl;obtain⟨hi,hy0,hy1,hy2⟩:=HI.o;obtain⟨ji,jy0,jy1,jy2⟩:=HI1.o;go_wp2_with (at_builtin;refine wpList_append_lies _ rfl (.tmp 35) (.tmp 39) 24 rfl wr.heap.size 3 i0 (.int .i64 0) 1 8 underlying24 hi hy0 hy1 hy2 rfl (by decide) _ _ _ rfl (lw wr (.int .i64 (k:Int)) 3) ⟨gu,0,none⟩ r.length cu (fC r) rfl (by simp) HNW.o (tI r) (by rcases hb with rfl|rfl<;>rw[HRL.o]<;>decide) (by rcases hb with rfl|rfl<;>rw[HRL.o]<;>decide) (by rcases hb with rfl|rfl<;>rw[HRL.o]<;>decide) (by simp) _ rfl ?_);intro g5 c5 w2 hown2 hgrow2 hat2 hg5;have HB2:Nw (Below wr.heap.size wr w2):=(ai).grown hgrow2 (by simp) (λx hx=>by simp[Value.ownBlock] at hx;omega);have HU:Nw (cq w2 w.heap.size (.slice (some ⟨g5,0,none⟩) (1+r.length) c5) ((k:Int)::r)):=by have:=mi hown2 hz2;unfold Nw cq;rw[Nc,Nat.add_comm r.length 1];exact this
     have hz3:=HB2.o.size;clear hown2 hgrow2 hat2 HNW;have hown3:=(HRO2.o.below HB2.o).own;go_wp2_with (at_builtin;refine wpList_append_lies _ rfl (.tmp 33) (.tmp 41) 32 rfl w.heap.size 24 i1 (.slice none 0 0) 1 24 underlying32 ji jy0 jy1 jy2 rfl (by decide) _ _ _ rfl (hown3.alloc _) ⟨w2.heap.size,0,none⟩ 1 1 [.slice (some ⟨g5,0,none⟩) (1+r.length) c5] rfl rfl (qK _ _ _) (nj _ _ _) (by decide) (by unfold maxLen;omega) (by omega) (by simp;omega) _ rfl ?_);intro g6 c6 w3 hown6 hgrow6 hat6 hg6;have HRO3:=ae (cr.snoc (HRO2.o.below HB2.o) HU.o hown6 hgrow6);have HR73:=ae (cr.other (HRO2.o.below HB2.o) (HR72.o.below HB2.o) HAP2.o hgrow6);have HB3:Nw (Below w.heap.size w w3):=by have b2:=HBL2.o.trans (HB2.o.mono hz2);exact(b2.trans (ai.mono b2.size)).grown hgrow6 (by simp;omega) (λx hx=>(MH hown3 x hx).1)
     have HAP3:Nw (Value.ownBlock (.slice (some ⟨g7,0,none⟩) rs.length c7)=none\/Value.ownBlock (.slice (some ⟨g7,0,none⟩) rs.length c7)≠Value.ownBlock (.slice (some ⟨g6,0,none⟩) (qs2.length+1) c6)):=by
      rcases hat6 with h6|h6
      .have h:=HAP2.o;rw[h6] at h;exact h
      .right;simp only[Value.ownBlock,ne_eq,M3];omega
     have hl3:(qs2++[((k:Int)::r,Value.slice (some ⟨g5,0,none⟩) (1+r.length) c5)]).length=qs2.length+1:=by simp
     clear hown6 hgrow6 hat6 hi hy0 hy1 hy2 ji jy0 jy1 jy2 hown3;go_wp2_with fail;go_roundw;case rel=>exact⟨j+1,qs2++[((k:Int)::r,Value.slice (some ⟨g5,0,none⟩) (1+r.length) c5)],some ⟨g6,0,none⟩,c6,by omega,by go_num,by rw[hl3],by rw[hl3];exact HRO3.o,by rw[Nd,HQS2.o,HTK.o,List.append_assoc];rfl,by rw[hl3];have:=HL2.o;omega,HR73.o,by rw[hl3];exact HAP3.o,HB3.o⟩
     case measure=>simp[intOf];omega
    .have hje:j=rs.length:=by omega
     have HRO2:=ae hro2;have HBL2:=ae hbl2;have HQ3:Nw (qs2.map Prod.fst=gi b d (k+1)):=by unfold Nw;rw[hqs2,tP,<-HQ7.o,hje,M2 (MI _),List.map_map];rfl
     have hjI:¬(j:Int)<(rs.length:Int):=by omega
     clear hro2 hr72 hap2 hbl2 hqs2 hl2 hje;go_wp2_with fail;go_roundw;case rel=>exact⟨k+1,qs2,a2,c2,by omega,by go_num,rfl,HRO2.o,HQ3.o,HBL2.o⟩
     case measure=>simp[intOf];omega
  .have hkd2:decide ((k:Int)<=d)=false:=by simpa using hkd
   have hke:k=d.toNat+1:=by omega
   have HF:Nw (qs.map Prod.fst=ba (b+2) d):=by unfold Nw;rw[hqs,hke,kC b hd]
   have HRO:=ae hro;have HBL:=ae hbl;clear hro hqs hbl hke;go_wp2;go_ret;exact⟨_,rfl,qs,HRO.o,HF.o,HBL.o⟩
theorem yR(d:Int)(hd:0<=d)(hd2:d<=100)(w:World):Calls prog 10 #[.int .i64 2,.int .i64 d] w λe w'=>∃v qs,e=.returned v/\cr w.heap.size w' v qs/\qs.map Prod.fst=ba 2 d/\Below w.heap.size w w':=yQ 0 (Np rfl) (λd h _ w=>yO d h w) d hd hd2 w
theorem EE(d:Int)(hd:0<=d)(hd2:d<=100)(w:World):Calls prog 10 #[.int .i64 3,.int .i64 d] w λe w'=>∃v qs,e=.returned v/\cr w.heap.size w' v qs/\qs.map Prod.fst=ba 3 d/\Below w.heap.size w w':=yQ 1 (Nq rfl) yR d hd hd2 w
theorem tQ(nn:Nat)(hnn:nn=1\/nn=2\/nn=3)(d:Int)(hd2:d<=100)(w:World):Calls prog 10 #[.int .i64 (nn:Int),.int .i64 d] w λe w'=>∃a c qs,e=.returned (.slice a qs.length c)/\cr w.heap.size w' (.slice a qs.length c) qs/\qs.map Prod.fst=ba nn d/\Below w.heap.size w w':=by
 by_cases h:d<0
 .refine(ED nn d h w).mono ?_;rintro e w' ⟨rfl,rfl⟩;exact⟨none,0,[],rfl,qM,by unfold ba;rw[M9 h];rfl,MJ _ _⟩
 .have key:∀{e:Ending}{w':World},(∃v qs,e=.returned v/\cr w.heap.size w' v qs/\qs.map Prod.fst=ba nn d/\Below w.heap.size w w')->∃a c qs,e=.returned (.slice a qs.length c)/\cr w.heap.size w' (.slice a qs.length c) qs/\qs.map Prod.fst=ba nn d/\Below w.heap.size w w':=by rintro e w' ⟨v,qs,rfl,h1,h2,h3⟩;obtain⟨a,c,rfl⟩:=bY h1.own;exact⟨a,c,qs,rfl,h1,h2,h3⟩
  rcases hnn with rfl|rfl|rfl
  .exact(yO d (by omega) w).mono λe w' h=>key h
  .exact(yR d (by omega) hd2 w).mono λe w' h=>key h
  .exact(EE d (by omega) hd2 w).mono λe w' h=>key h
structure eA(B:Nat)(W:World)(kv av:Value)(nk nc:Nat)(ks cs:List Value)(ru:List (List Int×Value))(B2:Nat)(mv:Value)(rs:List (List Int×Value)):Prop where
 own:W.ownsRow B 24 1 kv nk ks
 cols:W.ownsRow B 3 1 av nc cs
 rows:∀q∈ru,cq W B q.2 q.1
 apart:∀q∈ru,q.2.ownBlock=none\/q.2.ownBlock≠av.ownBlock
 mrow:cr B2 W mv rs
 mkk:mv.ownBlock=none\/mv.ownBlock≠kv.ownBlock
 ma:∀q∈rs,q.2.ownBlock=none\/q.2.ownBlock≠av.ownBlock
theorem eA.below{B:Nat}{W W':World}{kv av:Value}{nk nc:Nat}{ks cs:List Value}{ru:List (List Int×Value)}{B2:Nat}{mv:Value}{rs:List (List Int×Value)}(h:eA B W kv av nk nc ks cs ru B2 mv rs)(hb:Below W.heap.size W W'):eA B W' kv av nk nc ks cs ru B2 mv rs:=
 ⟨aI h.own hb,aI h.cols hb,λq hq=>aI (h.rows q hq) hb,h.apart,h.mrow.below hb,h.mkk,h.ma⟩
theorem mn:(3:TypeId)≠24:=by decide
theorem tR{W:World}{B g n c:Nat}{T:TypeId}{s:Nat}{x av:Value}{k:Nat}{ys:List Value}(h:W.ownsRow B T s x k ys)(ha:x.ownBlock=none\/x.ownBlock≠av.ownBlock)(hl:av.ownBlock=some g\/g=W.heap.size):x.ownBlock=none\/x.ownBlock≠Value.ownBlock (.slice (some ⟨g,0,none⟩) n c):=by
 rcases ha with ha|ha
 .exact Np ha
 .rcases hl with e|e
  .rw[e] at ha;exact Nq ha
  .cases hb:x.ownBlock with
   |none=>exact Np rfl
   |some kx=>have:=(MH h kx hb).2;right;simp only[Value.ownBlock,ne_eq,M3];omega
theorem eA.addC{B:Nat}{W W':World}{kv av:Value}{nk nc:Nat}{ks cs:List Value}{ru:List (List Int×Value)}{B2:Nat}{mv:Value}{rs:List (List Int×Value)}{g c:Nat}{x:Value}(h:eA B W kv av nk nc ks cs ru B2 mv rs)(ho:W'.ownsRow B 3 1 (.slice (some ⟨g,0,none⟩) (nc+1) c) (nc+1) (cs++[x]))(hg:W.grownBy W' av.ownBlock)(hl:av.ownBlock=some g\/g=W.heap.size):eA B W' kv (.slice (some ⟨g,0,none⟩) (nc+1) c) nk (nc+1) ks (cs++[x]) ru B2 mv rs:=by refine⟨h.own.kept hg (fj (Ne.symm mn) h.own h.cols),ho,λq hq=>(h.rows q hq).kept hg (h.apart q hq),λq hq=>tR (h.rows q hq) (h.apart q hq) hl,⟨h.mrow.own.kept hg (fj (Ne.symm mn) h.mrow.own h.cols),λq hq=>(h.mrow.rows q hq).kept hg (h.ma q hq)⟩,h.mkk,λq hq=>tR (h.mrow.rows q hq) (h.ma q hq) hl⟩
theorem eA.addK{B:Nat}{W W':World}{kv av:Value}{nk nc:Nat}{ks cs:List Value}{ru:List (List Int×Value)}{B2:Nat}{mv:Value}{rs:List (List Int×Value)}{g c:Nat}{x:Value}(h:eA B W kv av nk nc ks cs ru B2 mv rs)(ho:W'.ownsRow B 24 1 (.slice (some ⟨g,0,none⟩) (nk+1) c) (nk+1) (ks++[x]))(hg:W.grownBy W' kv.ownBlock)(hl:kv.ownBlock=some g\/g=W.heap.size):eA B W' (.slice (some ⟨g,0,none⟩) (nk+1) c) av (nk+1) nc (ks++[x]) cs ru B2 mv rs:=by refine⟨ho,h.cols.kept hg (fj mn h.cols h.own),λq hq=>(h.rows q hq).kept hg (fj mn (h.rows q hq) h.own),h.apart,⟨h.mrow.own.kept hg h.mkk,λq hq=>(h.mrow.rows q hq).kept hg (fj mn (h.mrow.rows q hq) h.own)⟩,tR h.mrow.own h.mkk hl,h.ma⟩
theorem eA.take{B:Nat}{W:World}{kv av:Value}{nk nc:Nat}{ks cs:List Value}{ru:List (List Int×Value)}{B2:Nat}{mv:Value}{rs:List (List Int×Value)}(h:eA B W kv av nk nc ks cs ru B2 mv rs)(hB:B<=B2){q:List Int×Value}(hq:q∈rs):eA B W kv av nk nc ks cs (ru++[q]) B2 mv rs:=
 ⟨h.own,h.cols,λx hx=>by
  rcases MY.1 hx with hx|hx
  .exact h.rows x hx
  .rw[MZ] at hx;subst hx;exact mi (h.mrow.rows _ hq) hB,λx hx=>by
  rcases MY.1 hx with hx|hx
  .exact h.apart x hx
  .rw[MZ] at hx;subst hx;exact h.ma _ hq,h.mrow,h.mkk,h.ma⟩
theorem eA.come{B:Nat}{W W':World}{kv av:Value}{nk nc:Nat}{ks cs:List Value}{ru:List (List Int×Value)}{B2:Nat}{mv:Value}{rs:List (List Int×Value)}(h:eA B W kv av nk nc ks cs ru B2 mv rs)(hb:Below W.heap.size W W'){mv':Value}{rs':List (List Int×Value)}(hr:cr W.heap.size W' mv' rs'):eA B W' kv av nk nc ks cs ru W.heap.size mv' rs':=by
 have hfar:∀{T T':TypeId}{s s' n n' B1 B3:Nat}{x y:Value}{xs ys:List Value},W'.ownsRow B1 T s x n xs->W.heap.size<=B1->W.ownsRow B3 T' s' y n' ys->x.ownBlock=none\/x.ownBlock≠y.ownBlock:=by
  intro T T' s s' n n' B1 B3 x y xs ys h1 hB h2;cases hx:x.ownBlock with
  |none=>exact Np rfl
  |some k=>right;intro e;have a:=(MH h1 k hx).1;have b:=(MH h2 k e.symm).2;omega
 exact⟨aI h.own hb,aI h.cols hb,λq hq=>aI (h.rows q hq) hb,h.apart,hr,hfar hr.own (MI _) h.own,λq hq=>hfar (hr.rows q hq) (MI _) h.cols⟩
theorem eA.nil(B:Nat)(W:World):eA B W (.slice none 0 0) (.slice none 0 0) 0 0 [] [] [] B (.slice none 0 0) []:=
 ⟨World.ownsRow_nil _ _ _ _,World.ownsRow_nil _ _ _ _,λq hq=>by simp at hq,λq hq=>by simp at hq,qM,Np rfl,λq hq=>by simp at hq⟩
end Go.Proofs.YteimdcndjjclnaaGreat
