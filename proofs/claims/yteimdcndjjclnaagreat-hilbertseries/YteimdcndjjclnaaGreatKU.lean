/- A vector comes into a making. -/
import Derived.Test.YteimdcndjjclnaaGreatKQ
import Derived.Test.YteimdcndjjclnaaGreatKF
set_option maxHeartbeats 4000000
set_option maxRecDepth 100000
namespace Go.Proofs.YteimdcndjjclnaaGreat
set_option linter.all false
open Go.Proofs.Tryz Go.RowKit
theorem Gy{P:Program}{ops:Array Oper}{o:Oper}{a:Act}{w w':World}{K:Act->World->Prop}{Q:Exit->Act->World->Prop}{E:Prop}(hgd:o.guard=none)(s x:Operand)(t ty:TypeId)(ho:o.op=.call {callee:=.builtin .append,args:=#[s,x],argTypes:=#[t,t]})(hty:o.type=ty)(v u v':Value)(hs:a.eval s=v)(hx:a.eval x=u)(hrun:(Builtin.append_ #[t,t] ty #[v,u]).run P w=.ok v' w')(hK:K (a.put o.dst v') w'):if Region.wanted o (yielded ops a.tmps)=true then Oper.wp P o a w K Q else E:=by
 have hw:Region.wanted o (yielded ops a.tmps)=true:=by simp[Region.wanted,hgd]
 rw[LI hw];subst hty;unfold Oper.wp execOp;simp only[ho,resolve,invoke,builtin,Sem.run_bind,Sem.run_pure,Result.andThen_ok,List.map_toArray,List.map_cons,List.map_nil,hs,hx,hrun];exact hK
theorem gi{P:Program}{ops:Array Oper}{Q:Exit->Act->World->Prop}{md:Region.Mode}{S:World->Prop}{i:Nat}{oi:Oper}{d:Option Tmp}{v:Value}{fuel:Nat}{listed:Array Bool}{a:Act}{w:World}(hi:ops[i]?=some oi)(hd:oi.dst=d)(hs:Region.noSelect ops=true)(hf:Region.free md ops listed i=true)(hr:(Region.ready md ops listed).contains i=true)(hQ:∀c a w,Q (.panic c) (a.put d v) w->Q (.panic c) a w)(hy:YieldsIf P ops S oi v a)(hS:S w)(h:wpAnyH P md ops Q S fuel (listed.setIfInBounds i true) (a.put d v) w):wpAnyH P md ops Q S (fuel+1) listed a w:=by subst hd;exact wpAnyH_take hi hs hf hr hQ hy hS h
theorem Gz(L:Ft)(ms:List Mm):ms.map (eV L [])=ms:=by
 have:eV L []=id:=by funext x;simp[eV]
 rw[this,List.map_id]
theorem eY(L:Ft)(x:Mm):(bo L x).L=x.L/\(bo L x).blk=x.blk/\(bo L x).r=x.r:=by unfold bo kJ;split<;>simp
theorem GA{l:List Mm}{m:Nat}(hnd:(l.map Mm.blk).Nodup)(hm:m<l.length):l[m].blk∉(l.take m).map Mm.blk:=by
 intro h;obtain⟨y,hy,e⟩:=LC.1 h;obtain⟨j,hj,e2⟩:=L8.1 hy;rw[LU] at hj;rw[List.getElem_take] at e2;have h1:(l.map Mm.blk)[j]'(by simp;omega)=(l.map Mm.blk)[m]'(by simp;omega):=by simp[e2,e]
 have:=(List.getElem_inj hnd).1 h1;omega
theorem DT(p k0 k1 k2:Int)(w0 w:World)(mb ob R g:Nat)(dv pv sv vv:Value)(us:List Value)(ms:List Mm)(qs:List Pq)(t:Ft)(ts:List Ft)(dg:Nat->Int)(hb0:Below w0.heap.size w0 w)(hm:bj p w0.heap.size w mb ob R g dv pv us ms qs)(hob:bk w0 ob p k0 k1 k2 sv)(hdg:gR w0 dv R dg)(hpr:bm p=0)(hd:∀pl,pl<R->0<=dg pl/\dg pl<=100000)(hR:R<=255)(k0b:0<=k0/\k0<=137438953472)(k1b:0<=k1/\k1<=137438953472)(k2b:0<=k2/\k2<=137438953472)(bx:∀x∈ms,lR x.L)(hc:0<t.c/\t.c<p)(hfs:∀u∈t::ts,je p u)(hlen:(t::ts).length<=100000000000)(hfv:Fv w vv (t::ts))(hpl:0<=t.pl/\t.pl<R)(hml:ms.length<=1300000)(hql:qs.length<=500000000000)(hq:∀q∈qs,∃x y,x∈ms/\y∈ms/\q.b1=x.blk/\q.b2=y.blk):Calls prog 84 #[.pointer (some ⟨mb,0,none⟩),vv] w λe w'=>e=.returned (.tuple #[])/\∃pv' us' f srt,f.L=dz p (aN p t.c) t/\f.r=ts.map (dz p (aN p t.c))/\f.gone=false/\(∀x∈ms,x.blk≠f.blk)/\srt.Perm ((gQ ms t.pl.toNat).map λx=>cW k0 k1 k2 dg x f)/\bj p w0.heap.size w' mb ob R g dv pv' us' (ms.map (bo f.L)++[f]) (qs.filter (λq=>!eC ms f.L q)++bh [] srt)/\Below w0.heap.size w w'/\ba w w':=by
 obtain⟨n,hnpl⟩:∃n:Nat,t.pl=n:=⟨t.pl.toNat,by omega⟩;have hnR:n<R:=by omega
 have hnI:(n:Int)<(R:Int):=by omega
 have HOB:Ma (∀W,Below w0.heap.size w0 W->bk W ob p k0 k1 k2 sv):=λW h=>hob.below h;have HDG:Ma (∀W,Below w0.heap.size w0 W->gR W dv R dg):=λW h=>hdg.below h;have hi:=mu hpr hc;have HMO:=ac (FY ob p k0 k1 k2 sv vv t ts w (HOB.o w hb0) hpr k0b k1b k2b hc hfs hlen hfv);obtain⟨L,hL⟩:∃L,L=dz p (aN p t.c) t:=⟨_,rfl⟩;obtain⟨r,hr⟩:∃r,r=ts.map (dz p (aN p t.c)):=⟨_,rfl⟩;have hLc:0<L.c/\L.c<p:=by rw[hL];have:=fq hpr;simp only[dz];rw[hi.2.2];omega
 have hLp:L.pl=n:=by rw[hL];exact hnpl
 have bf:lR L:=by have:=hfs t (by simp);rw[hL];exact⟨this.k,this.a,this.b,this.d,this.z⟩
 have htn:t.pl.toNat=n:=by omega
 have htl:L.pl.toNat=n:=by omega
 rw[htn];rw[List.map_cons,<-hL,<-hr] at HMO;rw[<-hL,<-hr];have HM:=ac hm;have HB0:=ac hb0;have HQ:=ac hq;have HHD:=ac hd;have HBX:=ac bx;have HBF:=ac bf;obtain⟨va,vc,hvv,_,_⟩:=hfv;subst hvv;have m0:=hm.cells.1;clear hm hb0 hq hd bx bf hob hdg hi hfs hc hL hr htn;clear hpl hnpl;go_enter func84,ntmps84;go_upto_region 1 with (first|(go_at_call 109;refine HMO.o.mono ?_;rintro e w2 ⟨u2,rfl,q1,q2⟩;have HB2:=ac q2;have HB02:=ac (HB0.o.trans (q2.mono HB0.o.size));have HNM:=ac (FZ w0.heap.size mb ob p k0 k1 k2 sv u2 L r w2 HB02.o.size (ae m0 q2) (HOB.o w2 HB02.o) hpr hLc q1);obtain⟨ua2,uc2,hu2,_,_⟩:=q1;subst hu2;clear q2)|(go_at_call 108;refine HNM.o.mono ?_;rintro e w3 ⟨blk,rv,rfl,q1,q2,q3⟩;have HF3:=ac q1;have HB3:=ac (HB2.o.trans (q3.mono HB2.o.size));have HBK:Ma (w.heap.size<=blk):=Lk HB2.o.size q2;clear q1 q2 q3));obtain⟨f,hf⟩:∃f:Mm,f=⟨blk,L,rv,r,false⟩:=⟨_,rfl⟩;rw[<-hf] at HF3;have hfb:blk=f.blk:=by rw[hf]
 have hfL:L=f.L:=by rw[hf]
 have HFR:Ma (f.r=r/\f.gone=false):=by rw[hf];exact⟨rfl,rfl⟩
 have HM3:=ac (HM.o.next HB3.o);have HB03:=ac (HB0.o.trans (HB3.o.mono HB0.o.size));have HNE:Ma (∀x∈ms,x.blk≠f.blk):=λx hx e=>by have h1:=(HM.o.mks.mem x hx).lt.2;have h2:=HBK.o;rw[hfb] at h2;omega
 have hnd:=HM.o.mks.nd;have HND:=ac hnd;have HDP:=ac (Ga p w0.heap.size w3 mb ob R g dv pv us ms qs f (eC ms L) HM3.o HB03.o.size HF3.o hql λq hq=>by
  obtain⟨x,y,hx,hy,e1,e2⟩:=HQ.o q hq;exact⟨x,y,hx,hy,e1,e2,by unfold eC;rw[e1,e2,mB hnd hx,mB hnd hy,hfL]⟩)
 have HFL:Ma (f.L=L):=hfL.symm;rw[hfL] at HDP HBF hLp htl;have hLP:Ma (f.L.pl=n):=hLp;rw[hfb];clear hf hfb hfL hnd HMO HNM HB2 HB02 m0 HQ hLc;go_upto_region 2 with (go_at_call 110;refine HDP.o.mono ?_;rintro e w4 ⟨rfl,pv4,q1,q2,q3,q9⟩;have HK4:=ac ((ba.of_below HB3.o).trans q9);have HM4:=ac q1;have HF4:=ac q2;have HB4:=ac ((HB3.o.mono HB0.o.size).trans q3);have HB04:=ac (HB03.o.trans q3);clear q1 q2 q3 q9);have hlq:(qs.filter λq=>!eC ms f.L q).length<=500000000000:=Lk (LX _ _) hql;generalize hq4:(qs.filter λq=>!eC ms f.L q)=q4 at HM4 hlq;have HQ4:=ac hq4;clear hq4;clear HDP HM3 HF3 HB3 HB03 HB0;have hB4:w0.heap.size<=w4.heap.size:=HB04.o.size;have HNP:=ac (Gr p w0.heap.size w4.drew mb ob R g dv pv4 sv us ms q4 f k0 k1 k2 dg (HM4.o.next (Lf _ _).drew) (HF4.o.next (Lf _ _).drew) (HOB.o _ HB04.o.drew) (HDG.o _ HB04.o.drew) HHD.o hR k0b k1b k2b HBX.o HBF.o ⟨by omega,by omega⟩ hml);rw[htl] at HNP;have HALN:Ma ((gQ ms n).length<=1300000):=by refine Lk (LX _ _) (Lk (LX _ _) hml)
 have HAPP:Ma (∀w5 v5 srt,srt.Perm ((gQ ms n).map λx=>cW k0 k1 k2 dg x f)->aZ w4.drew.heap.size w5 v5 (bh [] srt)->Below w4.drew.heap.size w4.drew w5->∃v6 w6,(Builtin.append_ #[118,118] 118 #[pv4,v5]).run prog w5=.ok v6 w6/\w5.cell? ⟨mb,3,none⟩=some pv4/\w6.cell? ⟨mb,3,none⟩=some pv4/\w6.frozen? ⟨mb,3,none⟩=false/\(∃a c,v6=.slice a (q4++bh [] srt).length c)/\bj p w0.heap.size (w6.setCell ⟨mb,3,none⟩ v6) mb ob R g dv v6 us ms (q4++bh [] srt)/\cj p w0.heap.size (w6.setCell ⟨mb,3,none⟩ v6) f/\Below w0.heap.size w4.drew (w6.setCell ⟨mb,3,none⟩ v6)/\ba w4.drew (w6.setCell ⟨mb,3,none⟩ v6)):=λw5 v5 srt h1 h2 h3=>by refine bj.app (HM4.o.next (Lf _ _).drew) (HF4.o.next (Lf _ _).drew) hB4 h2 h3 ?_;have e1:=tR srt [];have e2:=h1.length_eq;rw[LD] at e2;have:=HALN.o;simp only[List.length_nil] at e1;omega
 obtain⟨pa4,pc4,hpv4⟩:=HM4.o.prs.sl;have c34:=HM4.o.cells.2.2.2.1;rw[hpv4] at c34 HAPP;clear hpv4;go_region_law (first|(refine Gy rfl (.tmp 22) (.tmp 25) 118 118 rfl rfl _ _ _ (by simp[Act.eval,Act.put]) (by simp[Act.eval,Act.put]) HAP.o ?_)|(go_simp;refine HNP.o.mono ?_;rintro e w5 ⟨v5,rfl,srt,q1,q2,q3⟩;obtain⟨v6,w6,h1,h2,h3,h4,⟨va6,vc6,h5⟩,h6,h7,h8,h10⟩:=HAPP.o w5 v5 srt q1 q2 q3;rw[Lx] at h5;subst h5;obtain⟨va5,vc5,h9⟩:=q2.sl;subst h9;have HAP:=ac h1;have HPM:=ac q1;have HM6:=ac h6;have HF6:=ac h7;have HB6:=ac (HB4.o.drew.trans h8);have HK6:=ac ((HK4.o.trans (ba.of_below (Lf _ _).drew)).trans h10);clear h1 q1 q2 q3 h6 h7 h8 h10;dsimp only));all_goals
  clear HNP HAPP HAP HALN;generalize w6.setCell ⟨mb,3,none⟩ _=w7 at HM6 HF6 HB6 HK6⊢;have HPT:=ac (HM6.o.mks.pts n hnR);obtain⟨ra,rc,hrow,_⟩:=HPT.o;have HROW:=ac hrow;have a2:=HM6.o.cells.2.2.1;have a0:=(HM6.o.mks.at n hnR).1;rw[hrow] at a0;have a5:=HF6.o.mbr.div.cells.2.2.2.2.2.1;simp only[Ly] at a5;rw[hLP.o] at a5;clear hrow HPT;go_wp2_with fail;go_quiet (fail);have HB7:=ac (below_drewN HB6.o nq);have HK7:=ac (HK6.o.trans (ba.of_below (below_drewN (Lf _ _) nq)));have HM7:=ac (HM6.o.next (below_drewN (Lf _ _) nq));have HF7:=ac (HF6.o.next (below_drewN (Lf _ _) nq));clear a2 a0 a5 HM6 HF6 HB6 HK6;generalize w7.drewN nq=w8 at*;clear h2 h3 h4 c34 HM4 HF4 HOB HDG HHD HBX;have HLN:Ma ((aS ms n).length<=1300000):=Lk (LX _ _) hml;have HSUB:Ma (∀x∈aS ms n,x∈ms):=λx hx=>(LR.1 hx).1;have HLND:Ma (((aS ms n).map Mm.blk).Nodup):=List.Nodup.sublist (List.Sublist.map _ List.filter_sublist) HND.o;have HALL:=ac (Gx (L:=f.L) (ms:=ms) (n:=n) hLP.o HND.o);have HATP:Ma (∀bs,aS (ms.map (eV f.L bs)) n=(aS ms n).map (eV f.L bs)):=λbs=>zi _ (λx=>(zh f.L bs x).1) ms n;have hln:=HLN.o;generalize hl:aS ms n=l at*;clear hl;go_wp2_with fail;go_loopw [42] (λvi wr=>∃m:Nat,m<=l.length/\vi=.int .i64 m/\bj p w0.heap.size wr mb ob R g dv (.slice va6 (q4.length+(bh [] srt).length) vc6) us (ms.map (eV f.L ((l.take m).map Mm.blk))) (q4++bh [] srt)/\cj p w0.heap.size wr f/\Below w0.heap.size w wr/\ba w wr) (λvi _=>l.length-(intOf vi).toNat);case atStart=>exact⟨0,Ll _,rfl,by rw[List.take_zero,List.map_nil,Gz];exact HM7.o,HF7.o,HB7.o,HK7.o⟩
  case round=>
   clear HB7 HM7 HF7 HK7;rename World=>wr;obtain⟨m,hml2,rfl,hmw,hfw,hbr,hkr⟩:=hrel;have HKR:=ac hkr;have HMR:=ac hmw;have HFW:=ac hfw;have HBR:=ac hbr;clear hmw hfw hbr hkr;have hBr:w0.heap.size<=wr.heap.size:=HMR.o.box|>λh=>by have:=(Lb h mb rfl);omega
   by_cases hm2:m<l.length
   .have hnot:=GA HLND.o hm2;have hgo:eV f.L ((l.take m).map Mm.blk) l[m]=l[m]:=by unfold eV;rw[LH hnot]
    have hxm:=HSUB.o l[m] (Lo hm2);have hxi:l[m]∈ms.map (eV f.L ((l.take m).map Mm.blk)):=LC.2 ⟨_,hxm,hgo⟩;have HMX:=ac (HMR.o.mks.mem _ hxi);have HCE:Ma (∃b off,ra=some ⟨b,off,none⟩/\wr.cell? ⟨b,off+m,none⟩=some (.pointer (some ⟨l[m].blk,0,none⟩))):=by obtain⟨a,c,e,h⟩:=HMR.o.mks.pts n hnR;rw[HROW.o] at e;simp only[LB] at e;obtain⟨rfl,_,_⟩:=e;obtain⟨b,off,e2,e3⟩:=h m (by rw[HATP.o,LD];exact hm2);refine⟨b,off,e2,?_⟩;rw[e3];simp only[HATP.o,List.getElem_map,(zh f.L _ _).2]
    have HPUT:Ma (∀W c,Below wr.heap.size wr W->c=(l[m].gone||dZ f.L l[m].L)->bj p w0.heap.size (W.setCell ⟨l[m].blk,10,none⟩ (.bool c)) mb ob R g dv (.slice va6 (q4.length+(bh [] srt).length) vc6) us (ms.map (eV f.L ((l.take (m+1)).map Mm.blk))) (q4++bh [] srt)/\cj p w0.heap.size (W.setCell ⟨l[m].blk,10,none⟩ (.bool c)) f/\Below w0.heap.size w (W.setCell ⟨l[m].blk,10,none⟩ (.bool c))/\W.cell? ⟨l[m].blk,10,none⟩=some (.bool l[m].gone)/\W.frozen? ⟨l[m].blk,10,none⟩=false/\ba w (W.setCell ⟨l[m].blk,10,none⟩ (.bool c))):=λW c hb hc=>by have hmW:=HMR.o.next hb;have hxW:=HMX.o.next hb;obtain⟨h1,h2,h3,h4⟩:=hmW.put (HFW.o.next hb) (Lk hBr hb.size) hxi (λe=>HNE.o _ hxm e.symm) c;refine⟨?_,h2,HBR.o.trans ((hb.mono hBr).trans h3),hxW.mbr.gone,K8 hxW.own 10,(HKR.o.trans (ba.of_below hb)).trans h4⟩;have e:=Gw (L:=f.L) HND.o hxm hnot;rw[<-hc] at e;rw[e] at h1;rw[List.take_add_one,Ls hm2,LO];exact h1
    have HIN:Ma (∀W,Below wr.heap.size wr W->Calls prog 112 #[.pointer (some ⟨f.blk,0,none⟩),bX l[m].L] W λe w'=>e=.returned (.bool (dZ f.L l[m].L))/\Below W.heap.size W w'):=λW hb=>zj f.blk 0 f.L l[m].L f.rv 0 _ W (HFW.o.next hb).mbr.div;unfold bX at HIN;obtain⟨b,off,hra,c1⟩:=HCE.o;subst hra;have hmI:(m:Int)<(l.length:Int):=by omega
    have hxg:=HMX.o.mbr.gone;obtain⟨d0,d1,d2,d3,d4,d5,d6⟩:=HMX.o.mbr.div.cells;simp only[Ly] at d0 d1 d2 d3 d4 d5 d6;clear hxi hgo hnot HCE hxm;generalize l[m]=x at*;have HLN2:=HLN;clear HROW;cases hgo:x.gone with
    |true=>
     rw[hgo] at hxg HPUT;have HP:=ac (HPUT.o wr.drew true (Lf _ _).drew (by simp));have z0:wr.frozen? ⟨x.blk,10,none⟩=false:=HP.o.2.2.2.2.1;clear hgo HPUT HIN;go_upto_region 6 with fail;go_region;all_goals
      go_wp2_with fail;go_roundw;case rel=>exact⟨m+1,by omega,by go_num,HP.o.1,HP.o.2.1,HP.o.2.2.1,HP.o.2.2.2.2.2⟩
      case measure=>simp[intOf];omega
    |false=>
     rw[hgo] at hxg HPUT;have HP2:Ma (∀W,Below wr.drew.heap.size wr.drew W->_):=λW hb=>HPUT.o W (dZ f.L x.L) ((Lf _ _).drew.trans hb) (by simp);have HIN2:=ac (HIN.o wr.drew (Lf _ _).drew);clear hgo HPUT HIN;go_upto_region 6 with fail;refine wp_region_held_drew (S:=λ_=>True) (by kernel_rfl) trivial (λhHeld=>?_);refine gi (i:=0) (d:=some 46) (v:=?_) rfl rfl (by kernel_rfl) (by kernel_rfl) (by kernel_rfl) (λ_ _ _ h=>h) (L0 ⟨by rfl,?_⟩) trivial ?_
     rotate_left
     ·(intro w hSw;go_simp<;>with_reducible rfl)
     simp only[Act.put,List.setIfInBounds_toArray,List.set_cons_zero,List.set_cons_succ];refine gi (i:=1) (d:=some 47) (v:=?_) rfl rfl (by kernel_rfl) (by kernel_rfl) (by kernel_rfl) (λ_ _ _ h=>h) (L0 ⟨by rfl,?_⟩) trivial ?_
     rotate_left
     ·(intro w hSw;go_simp<;>with_reducible rfl)
     simp only[Act.put,List.setIfInBounds_toArray,List.set_cons_zero,List.set_cons_succ];refine gi (i:=2) (d:=some 48) (v:=?_) rfl rfl (by kernel_rfl) (by kernel_rfl) (by kernel_rfl) (λ_ _ _ h=>h) (L0 ⟨by rfl,?_⟩) trivial ?_
     rotate_left
     ·(intro w hSw;go_simp<;>with_reducible rfl)
     simp only[Act.put,List.setIfInBounds_toArray,List.set_cons_zero,List.set_cons_succ];refine gi (i:=3) (d:=some 49) (v:=?_) rfl rfl (by kernel_rfl) (by kernel_rfl) (by kernel_rfl) (λ_ _ _ h=>h) (L0 ⟨by rfl,?_⟩) trivial ?_
     rotate_left
     ·(intro w hSw;go_simp<;>with_reducible rfl)
     simp only[Act.put,List.setIfInBounds_toArray,List.set_cons_zero,List.set_cons_succ];refine wpAnyH_ready (rs:=[4]) (by kernel_rfl) (by simp) ?_;refine AllReadyH.cons rfl (λK hK=>?_) AllReadyH.nil;go_simp;refine hK.out _ _ trivial (λhHeld=>?_);clear hK K;try simp only[Act.put,List.setIfInBounds_toArray,List.set_cons_zero,List.set_cons_succ]
     refine gi (i:=5) (d:=some 51) (v:=?_) rfl rfl (by kernel_rfl) (by kernel_rfl) (by kernel_rfl) (λ_ _ _ h=>h) (L0 ⟨by rfl,?_⟩) trivial ?_
     rotate_left
     ·(intro w hSw;go_simp<;>with_reducible rfl)
     simp only[Act.put,List.setIfInBounds_toArray,List.set_cons_zero,List.set_cons_succ];refine gi (i:=6) (d:=some 52) (v:=?_) rfl rfl (by kernel_rfl) (by kernel_rfl) (by kernel_rfl) (λ_ _ _ h=>h) (L0 ⟨by rfl,?_⟩) trivial ?_
     rotate_left
     ·(intro w hSw;go_simp<;>with_reducible rfl)
     simp only[Act.put,List.setIfInBounds_toArray,List.set_cons_zero,List.set_cons_succ];refine gi (i:=7) (d:=some 53) (v:=?_) rfl rfl (by kernel_rfl) (by kernel_rfl) (by kernel_rfl) (λ_ _ _ h=>h) (L0 ⟨by rfl,?_⟩) trivial ?_
     rotate_left
     ·(intro w hSw;go_simp<;>with_reducible rfl)
     simp only[Act.put,List.setIfInBounds_toArray,List.set_cons_zero,List.set_cons_succ];refine gi (i:=8) (d:=some 54) (v:=?_) rfl rfl (by kernel_rfl) (by kernel_rfl) (by kernel_rfl) (λ_ _ _ h=>h) (L0 ⟨by rfl,?_⟩) trivial ?_
     rotate_left
     ·(intro w hSw;go_simp<;>with_reducible rfl)
     simp only[Act.put,List.setIfInBounds_toArray,List.set_cons_zero,List.set_cons_succ];refine gi (i:=9) (d:=some 55) (v:=?_) rfl rfl (by kernel_rfl) (by kernel_rfl) (by kernel_rfl) (λ_ _ _ h=>h) (L0 ⟨by rfl,?_⟩) trivial ?_
     rotate_left
     ·(intro w hSw;go_simp<;>with_reducible rfl)
     simp only[Act.put,List.setIfInBounds_toArray,List.set_cons_zero,List.set_cons_succ];refine gi (i:=10) (d:=some 56) (v:=?_) rfl rfl (by kernel_rfl) (by kernel_rfl) (by kernel_rfl) (λ_ _ _ h=>h) (L0 ⟨by rfl,?_⟩) trivial ?_
     rotate_left
     ·(intro w hSw;go_simp<;>with_reducible rfl)
     simp only[Act.put,List.setIfInBounds_toArray,List.set_cons_zero,List.set_cons_succ];refine gi (i:=11) (d:=some 57) (v:=?_) rfl rfl (by kernel_rfl) (by kernel_rfl) (by kernel_rfl) (λ_ _ _ h=>h) (L0 ⟨by rfl,?_⟩) trivial ?_
     rotate_left
     ·(intro w hSw;go_simp<;>with_reducible rfl)
     simp only[Act.put,List.setIfInBounds_toArray,List.set_cons_zero,List.set_cons_succ];refine gi (i:=12) (d:=some 58) (v:=?_) rfl rfl (by kernel_rfl) (by kernel_rfl) (by kernel_rfl) (λ_ _ _ h=>h) (L0 ⟨by rfl,?_⟩) trivial ?_
     rotate_left
     ·(intro w hSw;go_simp<;>with_reducible rfl)
     simp only[Act.put,List.setIfInBounds_toArray,List.set_cons_zero,List.set_cons_succ];refine wpAnyH_ready (rs:=[13]) (by kernel_rfl) (by simp) ?_;refine AllReadyH.cons rfl (λK hK=>?_) AllReadyH.nil;go_simp;refine hK.out _ _ trivial (λhHeld=>?_);clear hK K;try simp only[Act.put,List.setIfInBounds_toArray,List.set_cons_zero,List.set_cons_succ]
     refine wpAnyH_ready (rs:=[14]) (by kernel_rfl) (by simp) ?_;refine AllReadyH.cons rfl (λK hK=>?_) AllReadyH.nil;go_simp;refine HIN2.o.mono ?_;rintro e w9 ⟨rfl,hb9⟩;have HP:=ac (HP2.o w9 hb9);have y1:=HP.o.2.2.2.1;have y2:=HP.o.2.2.2.2.1;clear hb9;dsimp only;refine hK.out _ _ trivial (λhHeld=>?_);clear hK K;try simp only[Act.put,List.setIfInBounds_toArray,List.set_cons_zero,List.set_cons_succ]
     refine gi (i:=15) (d:=some 61) (v:=?_) rfl rfl (by kernel_rfl) (by kernel_rfl) (by kernel_rfl) (λ_ _ _ h=>h) (L0 ⟨by rfl,?_⟩) trivial ?_
     rotate_left
     ·(intro w hSw;go_simp<;>with_reducible rfl)
     simp only[Act.put,List.setIfInBounds_toArray,List.set_cons_zero,List.set_cons_succ];refine gi (i:=16) (d:=some 62) (v:=?_) rfl rfl (by kernel_rfl) (by kernel_rfl) (by kernel_rfl) (λ_ _ _ h=>h) (L0 ⟨by rfl,?_⟩) trivial ?_
     rotate_left
     ·(intro w hSw;go_simp<;>with_reducible rfl)
     simp only[Act.put,List.setIfInBounds_toArray,List.set_cons_zero,List.set_cons_succ];refine gi (i:=17) (d:=some 63) (v:=?_) rfl rfl (by kernel_rfl) (by kernel_rfl) (by kernel_rfl) (λ_ _ _ h=>h) (L0 ⟨by rfl,?_⟩) trivial ?_
     rotate_left
     ·(intro w hSw;go_simp<;>with_reducible rfl)
     simp only[Act.put,List.setIfInBounds_toArray,List.set_cons_zero,List.set_cons_succ];refine wpAnyH_ready (rs:=[18]) (by kernel_rfl) (by simp) ?_;refine AllReadyH.cons rfl (λK hK=>?_) AllReadyH.nil;go_simp;refine hK.out _ _ trivial (λhHeld=>?_);clear hK K;try simp only[Act.put,List.setIfInBounds_toArray,List.set_cons_zero,List.set_cons_succ]
     refine wpAnyH_done (by kernel_rfl) ?_ _;all_goals
      go_wp2_with fail;go_roundw;case rel=>exact⟨m+1,by omega,by go_num,HP.o.1,HP.o.2.1,HP.o.2.2.1,HP.o.2.2.2.2.2⟩
      case measure=>simp[intOf];omega
   .have e:m=l.length:=by omega
    subst e;rw[Lz (Lc _),HALL.o] at HMR;have HPU:=ac (Gv p w0.heap.size wr mb ob R g dv _ us (ms.map (bo f.L)) _ f HMR.o HFW.o (λx hx=>by obtain⟨y,hy,rfl⟩:=LC.1 hx;rw[(eY f.L y).2.1];exact HNE.o y hy) hBr ⟨by rw[hLP.o];omega,by rw[hLP.o];omega⟩ (by simpa using hml) hR);go_wp2_with (go_at_call 113;refine HPU.o.mono ?_;rintro e w9 ⟨rfl,us9,q1,q2,q3⟩;have HM9:=ac q1;have HB9:=ac (HBR.o.trans q2);have HK9:=ac (HKR.o.trans q3);clear q1 q2 q3);go_end0;exact⟨rfl,_,us9,f,srt,HFL.o,HFR.o.1,HFR.o.2,HNE.o,HPM.o,by rw[HQ4.o];exact HM9.o,HB9.o,HK9.o⟩
theorem GB(ob vb voff vc:Nat)(p k0 k1 k2:Int)(G:Ft->Prop)(sv v1 v2:Value)(f1 f2:List Ft)(w:World)(hob:bk w ob p k0 k1 k2 sv)(hp:2<=p/\p<=101)(hv1:w.cell? ⟨vb,voff,none⟩=some v1)(hv2:w.cell? ⟨vb,voff+1,none⟩=some v2)(hf1:Fv w v1 f1)(hf2:Fv w v2 f2)(hr1:aO p G [f1])(hr2:aO p G [f2])(hG:∀x t,f9 x t->G t->G x)(hM:∀r,Dn r->(∀t∈r,G t)->r.length<=100000000000):Calls prog 83 #[.pointer (some ⟨ob,0,none⟩),.slice (some ⟨vb,voff,none⟩) 2 vc] w λe w'=>e=.returned (.pointer (some ⟨w.heap.size,0,none⟩))/\∃rv us rows,fV p G w.heap.size w' w.heap.size ob rv us rows (λk=>ao k f1+ao k f2)/\Below w.heap.size w w':=by
 have HOB:=ac hob;have HF1:=ac hf1;have HF2:=ac hf2;have HV1:=ac hv1;have HV2:=ac hv2;have hobl:=hob.lt;obtain⟨va,vcc,rfl,_,_⟩:=hf1;obtain⟨va2,vcc2,rfl,_,_⟩:=hf2;obtain⟨w1,hw1⟩:∃w1,w1=w.alloc (.cells #[.pointer (some ⟨ob,0,none⟩),.slice none 0 0] 157):=⟨_,rfl⟩;have HB1:Ma (Below w.heap.size w w1):=by rw[hw1];exact aj
 have HS1:Ma (bB w.heap.size w1 w.heap.size ob (.slice none 0 0) [] []):=by rw[hw1];exact zk w ob _ (Lc _)
 have HAD:=ac (qr w.heap.size w.heap.size ob p k0 k1 k2 G sv (.slice none 0 0) _ [] [] f1 w1 HS1.o (by have:=HB1.o.size;omega) (HOB.o.below HB1.o) (by omega) hp (by simp) (HF1.o.below HB1.o) ⟨λr hr=>by simp at hr,λr hr=>by simp at hr,λr hr=>by simp at hr⟩ hr1 hG hM);have HAD2:Ma (∀rv us rows W,fV p G w.heap.size W w.heap.size ob rv us rows (λk=>ao k f1)->Below w.heap.size w W->Calls prog 107 #[.pointer (some ⟨w.heap.size,0,none⟩),.slice va2 f2.length vcc2] W λe w'=>e=.returned (.tuple #[])/\∃rv' us' rows',fV p G w.heap.size w' w.heap.size ob rv' us' rows' (λk=>ao k f1+ao k f2)/\Below w.heap.size w w'):=λrv us rows W h hb=>by refine(qr w.heap.size w.heap.size ob p k0 k1 k2 G sv rv _ us rows f2 W h.sum hb.size (HOB.o.below hb) (by omega) hp h.len (HF2.o.below hb) h.ok hr2 hG hM).mono ?_;rintro e w' ⟨rfl,rv',us',rows',q1,q2,q3,q4,q5,q6⟩;refine⟨rfl,rv',us',rows',⟨q1,q2,q3,λk=>?_⟩,hb.trans (h.sum.frm_below q5 hb.size)⟩;obtain⟨x,hx⟩:=q4 k;obtain⟨y,hy⟩:=h.cn k;exact⟨x+y,by rw[Int.mul_add];omega⟩
 have c1:=ae HV1.o HB1.o;clear hob hv1 hv2 hr1 hr2 hG hM;go_enter func83,ntmps83;go_wp2_with fail;rw[<-hw1];clear hw1;go_loopw [13] (λi wr=>(i=.int .i64 0/\wr=w1)\/(i=.int .i64 1/\∃rv us rows,fV p G w.heap.size wr w.heap.size ob rv us rows (λk=>ao k f1)/\Below w.heap.size w wr)\/(i=.int .i64 2/\∃rv us rows,fV p G w.heap.size wr w.heap.size ob rv us rows (λk=>ao k f1+ao k f2)/\Below w.heap.size w wr)) (λi _=>2-(intOf i).toNat);case atStart=>exact L0 ⟨rfl,rfl⟩
 case round=>
  rcases hrel with ⟨rfl,rfl⟩|⟨rfl,rv,us,rows,hsm,hb⟩|⟨rfl,rv,us,rows,hsm,hb⟩
  .go_wp2_with (go_at_call 107;refine HAD.o.mono ?_;rintro e w9 ⟨rfl,rv9,us9,rows9,q1,q2,q3,q4,q5,q6⟩;have H9:Ma (fV p G w.heap.size w9 w.heap.size ob rv9 us9 rows9 (λk=>ao k f1)/\Below w.heap.size w w9):=⟨⟨q1,q2,q3,λk=>by have:=q4 k;simpa [ao] using this⟩,HB1.o.trans (q5.to_below HB1.o.size (λx hx=>by rcases hx with hx|hx;exact Nat.le_of_eq hx.symm;simp[Value.ownBlock] at hx))⟩;clear q1 q2 q3 q4 q5 q6);go_roundw;case rel=>exact L3 (L0 ⟨by go_num,rv9,us9,rows9,H9.o.1,H9.o.2⟩)
   case measure=>simp[intOf]
  .have c2:=ae HV2.o hb;have HA:=ac (HAD2.o rv us rows _ hsm hb);clear hsm hb;go_wp2_with (go_at_call 107;refine HA.o.mono ?_;rintro e w9 ⟨rfl,rv9,us9,rows9,q1,q2⟩;have H9:=ac (Lg q1 q2);clear q1 q2);go_roundw;case rel=>exact L3 (L3 ⟨by go_num,rv9,us9,rows9,H9.o.1,H9.o.2⟩)
   case measure=>simp[intOf]
  .have HSM:=ac (Lg hsm hb);clear hsm hb;go_wp2;go_ret;exact⟨rfl,rv,us,rows,HSM.o.1,HSM.o.2⟩
theorem bG{P:Program}{ops:Array Oper}{Q:Exit->Act->World->Prop}{md:Region.Mode}{S:World->Prop}(i:Nat)(d:Tmp){oi:Oper}{v:Value}{fuel:Nat}{listed:Array Bool}{a:Act}{w:World}(hi:ops[i]?=some oi)(hd:oi.dst=some d)(hS:S w)(hy:YieldsIf P ops S oi v a)(h:wpAnyH P md ops Q S fuel (listed.setIfInBounds i true) (a.put (some d) v) w)(hQ:∀c a w,Q (.panic c) (a.put (some d) v) w->Q (.panic c) a w:=by exact λ_ _ _ h=>h)(hs:Region.noSelect ops=true:=by kernel_rfl)(hf:Region.free md ops listed i=true:=by kernel_rfl)(hr:(Region.ready md ops listed).contains i=true:=by kernel_rfl):wpAnyH P md ops Q S (fuel+1) listed a w:=
 gi hi hd hs hf hr hQ hy hS h
end Go.Proofs.YteimdcndjjclnaaGreat
