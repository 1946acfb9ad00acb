/- A vector comes into a making. -/
import Derived.Test.YteimdcndjjclnaaGreatKQ
import Derived.Test.YteimdcndjjclnaaGreatKF
set_option maxHeartbeats 4000000
set_option maxRecDepth 100000
namespace Go.Proofs.YteimdcndjjclnaaGreat
set_option linter.all false
open Go.Proofs.Tryz Go.RowKit
theorem If{P:Program}{ops:Array Oper}{o:Oper}{a:Act}{w w':World}{K:Act->World->Prop}{Q:Exit->Act->World->Prop}{E:Prop}(hgd:o.guard=none)(s x:Operand)(t ty:TypeId)(ho:o.op=.call {callee:=.builtin .append,args:=#[s,x],argTypes:=#[t,t]})(hty:o.type=ty)(v u v':Value)(hs:a.eval s=v)(hx:a.eval x=u)(hrun:(Builtin.append_ #[t,t] ty #[v,u]).run P w=.ok v' w')(hK:K (a.put o.dst v') w'):if Region.wanted o (yielded ops a.tmps)=true then Oper.wp P o a w K Q else E:=by
 have hw:Region.wanted o (yielded ops a.tmps)=true:=by simp[Region.wanted,hgd]
 rw[M9 hw];subst hty;unfold Oper.wp execOp;simp only[ho,resolve,invoke,builtin,Sem.run_bind,Sem.run_pure,Result.andThen_ok,List.map_toArray,List.map_cons,List.map_nil,hs,hx,hrun];exact hK
theorem gS{P:Program}{ops:Array Oper}{Q:Exit->Act->World->Prop}{md:Region.Mode}{S:World->Prop}{i:Nat}{oi:Oper}{d:Option Tmp}{v:Value}{fuel:Nat}{listed:Array Bool}{a:Act}{w:World}(hi:ops[i]?=some oi)(hd:oi.dst=d)(hs:Region.noSelect ops=true)(hf:Region.free md ops listed i=true)(hr:(Region.ready md ops listed).contains i=true)(hQ:∀c a w,Q (.panic c) (a.put d v) w->Q (.panic c) a w)(hy:YieldsIf P ops S oi v a)(hS:S w)(h:wpAnyH P md ops Q S fuel (listed.setIfInBounds i true) (a.put d v) w):wpAnyH P md ops Q S (fuel+1) listed a w:=by subst hd;exact wpAnyH_take hi hs hf hr hQ hy hS h
theorem Ig(L:Ft)(ms:List Mm):ms.map (fz L [])=ms:=by
 have:fz L []=id:=by funext x;simp[fz]
 rw[this,List.map_id]
theorem fF(L:Ft)(x:Mm):(bB L x).L=x.L/\(bB L x).blk=x.blk/\(bB L x).r=x.r:=by unfold bB lC;split<;>simp
theorem Ih{l:List Mm}{m:Nat}(hnd:(l.map Mm.blk).Nodup)(hm:m<l.length):l[m].blk∉(l.take m).map Mm.blk:=by
 intro h;obtain⟨y,hy,e⟩:=M5.1 h;obtain⟨j,hj,e2⟩:=Nu.1 hy;rw[Nj] at hj;rw[List.getElem_take] at e2;have h1:(l.map Mm.blk)[j]'(by simp;omega)=(l.map Mm.blk)[m]'(by simp;omega):=by simp[e2,e]
 have:=(List.getElem_inj hnd).1 h1;omega
theorem E7(p k0 k1 k2:Int)(w0 w:World)(mb ob R g:Nat)(dv pv sv vv:Value)(us:List Value)(ms:List Mm)(qs:List Pq)(t:Ft)(ts:List Ft)(dg:Nat->Int)(hb0:Below w0.heap.size w0 w)(hm:bv p w0.heap.size w mb ob R g dv pv us ms qs)(hob:bw w0 ob p k0 k1 k2 sv)(hdg:iB w0 dv R dg)(hpr:bq p=0)(hd:∀pl,pl<R->0<=dg pl/\dg pl<=100000)(hR:R<=255)(k0b:0<=k0/\k0<=137438953472)(k1b:0<=k1/\k1<=137438953472)(k2b:0<=k2/\k2<=137438953472)(bx:∀x∈ms,mG x.L)(hc:0<t.c/\t.c<p)(hfs:∀u∈t::ts,jH p u)(hlen:(t::ts).length<=100000000000)(hfv:Fv w vv (t::ts))(hpl:0<=t.pl/\t.pl<R)(hml:ms.length<=1300000)(hql:qs.length<=500000000000)(hq:∀q∈qs,∃x y,x∈ms/\y∈ms/\q.b1=x.blk/\q.b2=y.blk):Calls prog 84 #[.pointer (some ⟨mb,0,none⟩),vv] w λe w'=>e=.returned (.tuple #[])/\∃pv' us' f srt,f.L=dK p (aM p t.c) t/\f.r=ts.map (dK p (aM p t.c))/\f.gone=false/\(∀x∈ms,x.blk≠f.blk)/\srt.Perm ((iA ms t.pl.toNat).map λx=>dq k0 k1 k2 dg x f)/\bv p w0.heap.size w' mb ob R g dv pv' us' (ms.map (bB f.L)++[f]) (qs.filter (λq=>!eP ms f.L q)++bp [] srt)/\Below w0.heap.size w w'/\bo w w':=by
 obtain⟨n,hnpl⟩:∃n:Nat,t.pl=n:=⟨t.pl.toNat,by omega⟩;have hnR:n<R:=by omega
 have hnI:(n:Int)<(R:Int):=by omega
 have HOB:Nw (∀W,Below w0.heap.size w0 W->bw W ob p k0 k1 k2 sv):=λW h=>hob.below h;have HDG:Nw (∀W,Below w0.heap.size w0 W->iB W dv R dg):=λW h=>hdg.below h;have hi:=nr hpr hc;have HMO:=ae (G9 ob p k0 k1 k2 sv vv t ts w (HOB.o w hb0) hpr k0b k1b k2b hc hfs hlen hfv);obtain⟨L,hL⟩:∃L,L=dK p (aM p t.c) t:=⟨_,rfl⟩;obtain⟨r,hr⟩:∃r,r=ts.map (dK p (aM p t.c)):=⟨_,rfl⟩;have hLc:0<L.c/\L.c<p:=by rw[hL];have:=eO hpr;simp only[dK];rw[hi.2.2];omega
 have hLp:L.pl=n:=by rw[hL];exact hnpl
 have bf:mG L:=by have:=hfs t (by simp);rw[hL];exact⟨this.k,this.a,this.b,this.d,this.z⟩
 have htn:t.pl.toNat=n:=by omega
 have htl:L.pl.toNat=n:=by omega
 rw[htn];rw[List.map_cons,<-hL,<-hr] at HMO;rw[<-hL,<-hr];have HM:=ae hm;have HB0:=ae hb0;have HQ:=ae hq;have HHD:=ae hd;have HBX:=ae bx;have HBF:=ae bf;obtain⟨va,vc,hvv,_,_⟩:=hfv;subst hvv;have m0:=hm.cells.1;clear hm hb0 hq hd bx bf hob hdg hi hfs hc hL hr htn;clear hpl hnpl;go_enter func84,ntmps84;go_upto_region 1 with (first|(go_at_call 109;refine HMO.o.mono ?_;rintro e w2 ⟨u2,rfl,q1,q2⟩;have HB2:=ae q2;have HB02:=ae (HB0.o.trans (q2.mono HB0.o.size));have HNM:=ae (Ha w0.heap.size mb ob p k0 k1 k2 sv u2 L r w2 HB02.o.size (af m0 q2) (HOB.o w2 HB02.o) hpr hLc q1);obtain⟨ua2,uc2,hu2,_,_⟩:=q1;subst hu2;clear q2)|(go_at_call 108;refine HNM.o.mono ?_;rintro e w3 ⟨blk,rv,rfl,q1,q2,q3⟩;have HF3:=ae q1;have HB3:=ae (HB2.o.trans (q3.mono HB2.o.size));have HBK:Nw (w.heap.size<=blk):=MO HB2.o.size q2;clear q1 q2 q3));obtain⟨f,hf⟩:∃f:Mm,f=⟨blk,L,rv,r,false⟩:=⟨_,rfl⟩;rw[<-hf] at HF3;have hfb:blk=f.blk:=by rw[hf]
 have hfL:L=f.L:=by rw[hf]
 have HFR:Nw (f.r=r/\f.gone=false):=by rw[hf];exact⟨rfl,rfl⟩
 have HM3:=ae (HM.o.next HB3.o);have HB03:=ae (HB0.o.trans (HB3.o.mono HB0.o.size));have HNE:Nw (∀x∈ms,x.blk≠f.blk):=λx hx e=>by have h1:=(HM.o.mks.mem x hx).lt.2;have h2:=HBK.o;rw[hfb] at h2;omega
 have hnd:=HM.o.mks.nd;have HND:=ae hnd;have HDP:=ae (Hk p w0.heap.size w3 mb ob R g dv pv us ms qs f (eP ms L) HM3.o HB03.o.size HF3.o hql λq hq=>by
  obtain⟨x,y,hx,hy,e1,e2⟩:=HQ.o q hq;exact⟨x,y,hx,hy,e1,e2,by unfold eP;rw[e1,e2,nA hnd hx,nA hnd hy,hfL]⟩)
 have HFL:Nw (f.L=L):=hfL.symm;rw[hfL] at HDP HBF hLp htl;have hLP:Nw (f.L.pl=n):=hLp;rw[hfb];clear hf hfb hfL hnd HMO HNM HB2 HB02 m0 HQ hLc;go_upto_region 2 with (go_at_call 110;refine HDP.o.mono ?_;rintro e w4 ⟨rfl,pv4,q1,q2,q3,q9⟩;have HK4:=ae ((bo.of_below HB3.o).trans q9);have HM4:=ae q1;have HF4:=ae q2;have HB4:=ae ((HB3.o.mono HB0.o.size).trans q3);have HB04:=ae (HB03.o.trans q3);clear q1 q2 q3 q9);have hlq:(qs.filter λq=>!eP ms f.L q).length<=500000000000:=MO (Nm _ _) hql;generalize hq4:(qs.filter λq=>!eP ms f.L q)=q4 at HM4 hlq;have HQ4:=ae hq4;clear hq4;clear HDP HM3 HF3 HB3 HB03 HB0;have hB4:w0.heap.size<=w4.heap.size:=HB04.o.size;have HNP:=ae (Hz p w0.heap.size w4.drew mb ob R g dv pv4 sv us ms q4 f k0 k1 k2 dg (HM4.o.next (MJ _ _).drew) (HF4.o.next (MJ _ _).drew) (HOB.o _ HB04.o.drew) (HDG.o _ HB04.o.drew) HHD.o hR k0b k1b k2b HBX.o HBF.o ⟨by omega,by omega⟩ hml);rw[htl] at HNP;have HALN:Nw ((iA ms n).length<=1300000):=by refine MO (Nm _ _) (MO (Nm _ _) hml)
 have HAPP:Nw (∀w5 v5 srt,srt.Perm ((iA ms n).map λx=>dq k0 k1 k2 dg x f)->bj w4.drew.heap.size w5 v5 (bp [] srt)->Below w4.drew.heap.size w4.drew w5->∃v6 w6,(Builtin.append_ #[118,118] 118 #[pv4,v5]).run prog w5=.ok v6 w6/\w5.cell? ⟨mb,3,none⟩=some pv4/\w6.cell? ⟨mb,3,none⟩=some pv4/\w6.frozen? ⟨mb,3,none⟩=false/\(∃a c,v6=.slice a (q4++bp [] srt).length c)/\bv p w0.heap.size (w6.setCell ⟨mb,3,none⟩ v6) mb ob R g dv v6 us ms (q4++bp [] srt)/\cG p w0.heap.size (w6.setCell ⟨mb,3,none⟩ v6) f/\Below w0.heap.size w4.drew (w6.setCell ⟨mb,3,none⟩ v6)/\bo w4.drew (w6.setCell ⟨mb,3,none⟩ v6)):=λw5 v5 srt h1 h2 h3=>by refine bv.app (HM4.o.next (MJ _ _).drew) (HF4.o.next (MJ _ _).drew) hB4 h2 h3 ?_;have e1:=uZ srt [];have e2:=h1.length_eq;rw[M6] at e2;have:=HALN.o;simp only[List.length_nil] at e1;omega
 obtain⟨pa4,pc4,hpv4⟩:=HM4.o.prs.sl;have c34:=HM4.o.cells.2.2.2.1;rw[hpv4] at c34 HAPP;clear hpv4;go_region_law (first|(refine If rfl (.tmp 22) (.tmp 25) 118 118 rfl rfl _ _ _ (by simp[Act.eval,Act.put]) (by simp[Act.eval,Act.put]) HAP.o ?_)|(go_simp;refine HNP.o.mono ?_;rintro e w5 ⟨v5,rfl,srt,q1,q2,q3⟩;obtain⟨v6,w6,h1,h2,h3,h4,⟨va6,vc6,h5⟩,h6,h7,h8,h10⟩:=HAPP.o w5 v5 srt q1 q2 q3;rw[M0] at h5;subst h5;obtain⟨va5,vc5,h9⟩:=q2.sl;subst h9;have HAP:=ae h1;have HPM:=ae q1;have HM6:=ae h6;have HF6:=ae h7;have HB6:=ae (HB4.o.drew.trans h8);have HK6:=ae ((HK4.o.trans (bo.of_below (MJ _ _).drew)).trans h10);clear h1 q1 q2 q3 h6 h7 h8 h10;dsimp only));all_goals
  clear HNP HAPP HAP HALN;generalize w6.setCell ⟨mb,3,none⟩ _=w7 at HM6 HF6 HB6 HK6⊢;have HPT:=ae (HM6.o.mks.pts n hnR);obtain⟨ra,rc,hrow,_⟩:=HPT.o;have HROW:=ae hrow;have a2:=HM6.o.cells.2.2.1;have a0:=(HM6.o.mks.at n hnR).1;rw[hrow] at a0;have a5:=HF6.o.mbr.div.cells.2.2.2.2.2.1;simp only[M1] at a5;rw[hLP.o] at a5;clear hrow HPT;go_wp2_with fail;go_quiet (fail);have HB7:=ae (below_drewN HB6.o nq);have HK7:=ae (HK6.o.trans (bo.of_below (below_drewN (MJ _ _) nq)));have HM7:=ae (HM6.o.next (below_drewN (MJ _ _) nq));have HF7:=ae (HF6.o.next (below_drewN (MJ _ _) nq));clear a2 a0 a5 HM6 HF6 HB6 HK6;generalize w7.drewN nq=w8 at*;clear h2 h3 h4 c34 HM4 HF4 HOB HDG HHD HBX;have HLN:Nw ((aU ms n).length<=1300000):=MO (Nm _ _) hml;have HSUB:Nw (∀x∈aU ms n,x∈ms):=λx hx=>(Nh.1 hx).1;have HLND:Nw (((aU ms n).map Mm.blk).Nodup):=List.Nodup.sublist (List.Sublist.map _ List.filter_sublist) HND.o;have HALL:=ae (Ie (L:=f.L) (ms:=ms) (n:=n) hLP.o HND.o);have HATP:Nw (∀bs,aU (ms.map (fz f.L bs)) n=(aU ms n).map (fz f.L bs)):=λbs=>AB _ (λx=>(AA f.L bs x).1) ms n;have hln:=HLN.o;generalize hl:aU ms n=l at*;clear hl;go_wp2_with fail;go_loopw [42] (λvi wr=>∃m:Nat,m<=l.length/\vi=.int .i64 m/\bv p w0.heap.size wr mb ob R g dv (.slice va6 (q4.length+(bp [] srt).length) vc6) us (ms.map (fz f.L ((l.take m).map Mm.blk))) (q4++bp [] srt)/\cG p w0.heap.size wr f/\Below w0.heap.size w wr/\bo w wr) (λvi _=>l.length-(intOf vi).toNat);case atStart=>exact⟨0,MP _,rfl,by rw[List.take_zero,List.map_nil,Ig];exact HM7.o,HF7.o,HB7.o,HK7.o⟩
  case round=>
   clear HB7 HM7 HF7 HK7;rename World=>wr;obtain⟨m,hml2,rfl,hmw,hfw,hbr,hkr⟩:=hrel;have HKR:=ae hkr;have HMR:=ae hmw;have HFW:=ae hfw;have HBR:=ae hbr;clear hmw hfw hbr hkr;have hBr:w0.heap.size<=wr.heap.size:=HMR.o.box|>λh=>by have:=(MH h mb rfl);omega
   by_cases hm2:m<l.length
   .have hnot:=Ih HLND.o hm2;have hgo:fz f.L ((l.take m).map Mm.blk) l[m]=l[m]:=by unfold fz;rw[M8 hnot]
    have hxm:=HSUB.o l[m] (MS hm2);have hxi:l[m]∈ms.map (fz f.L ((l.take m).map Mm.blk)):=M5.2 ⟨_,hxm,hgo⟩;have HMX:=ae (HMR.o.mks.mem _ hxi);have HCE:Nw (∃b off,ra=some ⟨b,off,none⟩/\wr.cell? ⟨b,off+m,none⟩=some (.pointer (some ⟨l[m].blk,0,none⟩))):=by obtain⟨a,c,e,h⟩:=HMR.o.mks.pts n hnR;rw[HROW.o] at e;simp only[M4] at e;obtain⟨rfl,_,_⟩:=e;obtain⟨b,off,e2,e3⟩:=h m (by rw[HATP.o,M6];exact hm2);refine⟨b,off,e2,?_⟩;rw[e3];simp only[HATP.o,List.getElem_map,(AA f.L _ _).2]
    have HPUT:Nw (∀W c,Below wr.heap.size wr W->c=(l[m].gone||eG f.L l[m].L)->bv p w0.heap.size (W.setCell ⟨l[m].blk,10,none⟩ (.bool c)) mb ob R g dv (.slice va6 (q4.length+(bp [] srt).length) vc6) us (ms.map (fz f.L ((l.take (m+1)).map Mm.blk))) (q4++bp [] srt)/\cG p w0.heap.size (W.setCell ⟨l[m].blk,10,none⟩ (.bool c)) f/\Below w0.heap.size w (W.setCell ⟨l[m].blk,10,none⟩ (.bool c))/\W.cell? ⟨l[m].blk,10,none⟩=some (.bool l[m].gone)/\W.frozen? ⟨l[m].blk,10,none⟩=false/\bo w (W.setCell ⟨l[m].blk,10,none⟩ (.bool c))):=λW c hb hc=>by have hmW:=HMR.o.next hb;have hxW:=HMX.o.next hb;obtain⟨h1,h2,h3,h4⟩:=hmW.put (HFW.o.next hb) (MO hBr hb.size) hxi (λe=>HNE.o _ hxm e.symm) c;refine⟨?_,h2,HBR.o.trans ((hb.mono hBr).trans h3),hxW.mbr.gone,MF hxW.own 10,(HKR.o.trans (bo.of_below hb)).trans h4⟩;have e:=Ic (L:=f.L) HND.o hxm hnot;rw[<-hc] at e;rw[e] at h1;rw[List.take_add_one,MW hm2,Nd];exact h1
    have HIN:Nw (∀W,Below wr.heap.size wr W->Calls prog 112 #[.pointer (some ⟨f.blk,0,none⟩),ce l[m].L] W λe w'=>e=.returned (.bool (eG f.L l[m].L))/\Below W.heap.size W w'):=λW hb=>AC f.blk 0 f.L l[m].L f.rv 0 _ W (HFW.o.next hb).mbr.div;unfold ce at HIN;obtain⟨b,off,hra,c1⟩:=HCE.o;subst hra;have hmI:(m:Int)<(l.length:Int):=by omega
    have hxg:=HMX.o.mbr.gone;obtain⟨d0,d1,d2,d3,d4,d5,d6⟩:=HMX.o.mbr.div.cells;simp only[M1] at d0 d1 d2 d3 d4 d5 d6;clear hxi hgo hnot HCE hxm;generalize l[m]=x at*;have HLN2:=HLN;clear HROW;cases hgo:x.gone with
    |true=>
     rw[hgo] at hxg HPUT;have HP:=ae (HPUT.o wr.drew true (MJ _ _).drew (by simp));have z0:wr.frozen? ⟨x.blk,10,none⟩=false:=HP.o.2.2.2.2.1;clear hgo HPUT HIN;go_upto_region 6 with fail;go_region;all_goals
      go_wp2_with fail;go_roundw;case rel=>exact⟨m+1,by omega,by go_num,HP.o.1,HP.o.2.1,HP.o.2.2.1,HP.o.2.2.2.2.2⟩
      case measure=>simp[intOf];omega
    |false=>
     rw[hgo] at hxg HPUT;have HP2:Nw (∀W,Below wr.drew.heap.size wr.drew W->_):=λW hb=>HPUT.o W (eG f.L x.L) ((MJ _ _).drew.trans hb) (by simp);have HIN2:=ae (HIN.o wr.drew (MJ _ _).drew);clear hgo HPUT HIN;go_upto_region 6 with fail;refine wp_region_held_drew (S:=λ_=>True) (by kernel_rfl) trivial (λhHeld=>?_);refine gS (i:=0) (d:=some 46) (v:=?_) rfl rfl (by kernel_rfl) (by kernel_rfl) (by kernel_rfl) (λ_ _ _ h=>h) (Np ⟨by rfl,?_⟩) trivial ?_
     rotate_left
     ·(intro w hSw;go_simp<;>with_reducible rfl)
     simp only[Act.put,List.setIfInBounds_toArray,List.set_cons_zero,List.set_cons_succ];refine gS (i:=1) (d:=some 47) (v:=?_) rfl rfl (by kernel_rfl) (by kernel_rfl) (by kernel_rfl) (λ_ _ _ h=>h) (Np ⟨by rfl,?_⟩) trivial ?_
     rotate_left
     ·(intro w hSw;go_simp<;>with_reducible rfl)
     simp only[Act.put,List.setIfInBounds_toArray,List.set_cons_zero,List.set_cons_succ];refine gS (i:=2) (d:=some 48) (v:=?_) rfl rfl (by kernel_rfl) (by kernel_rfl) (by kernel_rfl) (λ_ _ _ h=>h) (Np ⟨by rfl,?_⟩) trivial ?_
     rotate_left
     ·(intro w hSw;go_simp<;>with_reducible rfl)
     simp only[Act.put,List.setIfInBounds_toArray,List.set_cons_zero,List.set_cons_succ];refine gS (i:=3) (d:=some 49) (v:=?_) rfl rfl (by kernel_rfl) (by kernel_rfl) (by kernel_rfl) (λ_ _ _ h=>h) (Np ⟨by rfl,?_⟩) trivial ?_
     rotate_left
     ·(intro w hSw;go_simp<;>with_reducible rfl)
     simp only[Act.put,List.setIfInBounds_toArray,List.set_cons_zero,List.set_cons_succ];refine wpAnyH_ready (rs:=[4]) (by kernel_rfl) (by simp) ?_;refine AllReadyH.cons rfl (λK hK=>?_) AllReadyH.nil;go_simp;refine hK.out _ _ trivial (λhHeld=>?_);clear hK K;try simp only[Act.put,List.setIfInBounds_toArray,List.set_cons_zero,List.set_cons_succ]
     refine gS (i:=5) (d:=some 51) (v:=?_) rfl rfl (by kernel_rfl) (by kernel_rfl) (by kernel_rfl) (λ_ _ _ h=>h) (Np ⟨by rfl,?_⟩) trivial ?_
     rotate_left
     ·(intro w hSw;go_simp<;>with_reducible rfl)
     simp only[Act.put,List.setIfInBounds_toArray,List.set_cons_zero,List.set_cons_succ];refine gS (i:=6) (d:=some 52) (v:=?_) rfl rfl (by kernel_rfl) (by kernel_rfl) (by kernel_rfl) (λ_ _ _ h=>h) (Np ⟨by rfl,?_⟩) trivial ?_
     rotate_left
     ·(intro w hSw;go_simp<;>with_reducible rfl)
     simp only[Act.put,List.setIfInBounds_toArray,List.set_cons_zero,List.set_cons_succ];refine gS (i:=7) (d:=some 53) (v:=?_) rfl rfl (by kernel_rfl) (by kernel_rfl) (by kernel_rfl) (λ_ _ _ h=>h) (Np ⟨by rfl,?_⟩) trivial ?_
     rotate_left
     ·(intro w hSw;go_simp<;>with_reducible rfl)
     simp only[Act.put,List.setIfInBounds_toArray,List.set_cons_zero,List.set_cons_succ];refine gS (i:=8) (d:=some 54) (v:=?_) rfl rfl (by kernel_rfl) (by kernel_rfl) (by kernel_rfl) (λ_ _ _ h=>h) (Np ⟨by rfl,?_⟩) trivial ?_
     rotate_left
     ·(intro w hSw;go_simp<;>with_reducible rfl)
     simp only[Act.put,List.setIfInBounds_toArray,List.set_cons_zero,List.set_cons_succ];refine gS (i:=9) (d:=some 55) (v:=?_) rfl rfl (by kernel_rfl) (by kernel_rfl) (by kernel_rfl) (λ_ _ _ h=>h) (Np ⟨by rfl,?_⟩) trivial ?_
     rotate_left
     ·(intro w hSw;go_simp<;>with_reducible rfl)
     simp only[Act.put,List.setIfInBounds_toArray,List.set_cons_zero,List.set_cons_succ];refine gS (i:=10) (d:=some 56) (v:=?_) rfl rfl (by kernel_rfl) (by kernel_rfl) (by kernel_rfl) (λ_ _ _ h=>h) (Np ⟨by rfl,?_⟩) trivial ?_
     rotate_left
     ·(intro w hSw;go_simp<;>with_reducible rfl)
     simp only[Act.put,List.setIfInBounds_toArray,List.set_cons_zero,List.set_cons_succ];refine gS (i:=11) (d:=some 57) (v:=?_) rfl rfl (by kernel_rfl) (by kernel_rfl) (by kernel_rfl) (λ_ _ _ h=>h) (Np ⟨by rfl,?_⟩) trivial ?_
     rotate_left
     ·(intro w hSw;go_simp<;>with_reducible rfl)
     simp only[Act.put,List.setIfInBounds_toArray,List.set_cons_zero,List.set_cons_succ];refine gS (i:=12) (d:=some 58) (v:=?_) rfl rfl (by kernel_rfl) (by kernel_rfl) (by kernel_rfl) (λ_ _ _ h=>h) (Np ⟨by rfl,?_⟩) trivial ?_
     rotate_left
     ·(intro w hSw;go_simp<;>with_reducible rfl)
     simp only[Act.put,List.setIfInBounds_toArray,List.set_cons_zero,List.set_cons_succ];refine wpAnyH_ready (rs:=[13]) (by kernel_rfl) (by simp) ?_;refine AllReadyH.cons rfl (λK hK=>?_) AllReadyH.nil;go_simp;refine hK.out _ _ trivial (λhHeld=>?_);clear hK K;try simp only[Act.put,List.setIfInBounds_toArray,List.set_cons_zero,List.set_cons_succ]
     refine wpAnyH_ready (rs:=[14]) (by kernel_rfl) (by simp) ?_;refine AllReadyH.cons rfl (λK hK=>?_) AllReadyH.nil;go_simp;refine HIN2.o.mono ?_;rintro e w9 ⟨rfl,hb9⟩;have HP:=ae (HP2.o w9 hb9);have y1:=HP.o.2.2.2.1;have y2:=HP.o.2.2.2.2.1;clear hb9;dsimp only;refine hK.out _ _ trivial (λhHeld=>?_);clear hK K;try simp only[Act.put,List.setIfInBounds_toArray,List.set_cons_zero,List.set_cons_succ]
     refine gS (i:=15) (d:=some 61) (v:=?_) rfl rfl (by kernel_rfl) (by kernel_rfl) (by kernel_rfl) (λ_ _ _ h=>h) (Np ⟨by rfl,?_⟩) trivial ?_
     rotate_left
     ·(intro w hSw;go_simp<;>with_reducible rfl)
     simp only[Act.put,List.setIfInBounds_toArray,List.set_cons_zero,List.set_cons_succ];refine gS (i:=16) (d:=some 62) (v:=?_) rfl rfl (by kernel_rfl) (by kernel_rfl) (by kernel_rfl) (λ_ _ _ h=>h) (Np ⟨by rfl,?_⟩) trivial ?_
     rotate_left
     ·(intro w hSw;go_simp<;>with_reducible rfl)
     simp only[Act.put,List.setIfInBounds_toArray,List.set_cons_zero,List.set_cons_succ];refine gS (i:=17) (d:=some 63) (v:=?_) rfl rfl (by kernel_rfl) (by kernel_rfl) (by kernel_rfl) (λ_ _ _ h=>h) (Np ⟨by rfl,?_⟩) trivial ?_
     rotate_left
     ·(intro w hSw;go_simp<;>with_reducible rfl)
     simp only[Act.put,List.setIfInBounds_toArray,List.set_cons_zero,List.set_cons_succ];refine wpAnyH_ready (rs:=[18]) (by kernel_rfl) (by simp) ?_;refine AllReadyH.cons rfl (λK hK=>?_) AllReadyH.nil;go_simp;refine hK.out _ _ trivial (λhHeld=>?_);clear hK K;try simp only[Act.put,List.setIfInBounds_toArray,List.set_cons_zero,List.set_cons_succ]
     refine wpAnyH_done (by kernel_rfl) ?_ _;all_goals
      go_wp2_with fail;go_roundw;case rel=>exact⟨m+1,by omega,by go_num,HP.o.1,HP.o.2.1,HP.o.2.2.1,HP.o.2.2.2.2.2⟩
      case measure=>simp[intOf];omega
   .have e:m=l.length:=by omega
    subst e;rw[M2 (MI _),HALL.o] at HMR;have HPU:=ae (Ib p w0.heap.size wr mb ob R g dv _ us (ms.map (bB f.L)) _ f HMR.o HFW.o (λx hx=>by obtain⟨y,hy,rfl⟩:=M5.1 hx;rw[(fF f.L y).2.1];exact HNE.o y hy) hBr ⟨by rw[hLP.o];omega,by rw[hLP.o];omega⟩ (by simpa using hml) hR);go_wp2_with (go_at_call 113;refine HPU.o.mono ?_;rintro e w9 ⟨rfl,us9,q1,q2,q3⟩;have HM9:=ae q1;have HB9:=ae (HBR.o.trans q2);have HK9:=ae (HKR.o.trans q3);clear q1 q2 q3);go_end0;exact⟨rfl,_,us9,f,srt,HFL.o,HFR.o.1,HFR.o.2,HNE.o,HPM.o,by rw[HQ4.o];exact HM9.o,HB9.o,HK9.o⟩
theorem Ii(ob vb voff vc:Nat)(p k0 k1 k2:Int)(G:Ft->Prop)(sv v1 v2:Value)(f1 f2:List Ft)(w:World)(hob:bw w ob p k0 k1 k2 sv)(hp:2<=p/\p<=101)(hv1:w.cell? ⟨vb,voff,none⟩=some v1)(hv2:w.cell? ⟨vb,voff+1,none⟩=some v2)(hf1:Fv w v1 f1)(hf2:Fv w v2 f2)(hr1:aP p G [f1])(hr2:aP p G [f2])(hG:∀x t,gQ x t->G t->G x)(hM:∀r,Dn r->(∀t∈r,G t)->r.length<=100000000000):Calls prog 83 #[.pointer (some ⟨ob,0,none⟩),.slice (some ⟨vb,voff,none⟩) 2 vc] w λe w'=>e=.returned (.pointer (some ⟨w.heap.size,0,none⟩))/\∃rv us rows,gK p G w.heap.size w' w.heap.size ob rv us rows (λk=>ao k f1+ao k f2)/\Below w.heap.size w w':=by
 have HOB:=ae hob;have HF1:=ae hf1;have HF2:=ae hf2;have HV1:=ae hv1;have HV2:=ae hv2;have hobl:=hob.lt;obtain⟨va,vcc,rfl,_,_⟩:=hf1;obtain⟨va2,vcc2,rfl,_,_⟩:=hf2;obtain⟨w1,hw1⟩:∃w1,w1=w.alloc (.cells #[.pointer (some ⟨ob,0,none⟩),.slice none 0 0] 157):=⟨_,rfl⟩;have HB1:Nw (Below w.heap.size w w1):=by rw[hw1];exact ai
 have HS1:Nw (bI w.heap.size w1 w.heap.size ob (.slice none 0 0) [] []):=by rw[hw1];exact AD w ob _ (MI _)
 have HAD:=ae (rx w.heap.size w.heap.size ob p k0 k1 k2 G sv (.slice none 0 0) _ [] [] f1 w1 HS1.o (by have:=HB1.o.size;omega) (HOB.o.below HB1.o) (by omega) hp (by simp) (HF1.o.below HB1.o) ⟨λr hr=>by simp at hr,λr hr=>by simp at hr,λr hr=>by simp at hr⟩ hr1 hG hM);have HAD2:Nw (∀rv us rows W,gK p G w.heap.size W w.heap.size ob rv us rows (λk=>ao k f1)->Below w.heap.size w W->Calls prog 107 #[.pointer (some ⟨w.heap.size,0,none⟩),.slice va2 f2.length vcc2] W λe w'=>e=.returned (.tuple #[])/\∃rv' us' rows',gK p G w.heap.size w' w.heap.size ob rv' us' rows' (λk=>ao k f1+ao k f2)/\Below w.heap.size w w'):=λrv us rows W h hb=>by refine(rx w.heap.size w.heap.size ob p k0 k1 k2 G sv rv _ us rows f2 W h.sum hb.size (HOB.o.below hb) (by omega) hp h.len (HF2.o.below hb) h.ok hr2 hG hM).mono ?_;rintro e w' ⟨rfl,rv',us',rows',q1,q2,q3,q4,q5,q6⟩;refine⟨rfl,rv',us',rows',⟨q1,q2,q3,λk=>?_⟩,hb.trans (h.sum.frm_below q5 hb.size)⟩;obtain⟨x,hx⟩:=q4 k;obtain⟨y,hy⟩:=h.cn k;exact⟨x+y,by rw[Int.mul_add];omega⟩
 have c1:=af HV1.o HB1.o;clear hob hv1 hv2 hr1 hr2 hG hM;go_enter func83,ntmps83;go_wp2_with fail;rw[<-hw1];clear hw1;go_loopw [13] (λi wr=>(i=.int .i64 0/\wr=w1)\/(i=.int .i64 1/\∃rv us rows,gK p G w.heap.size wr w.heap.size ob rv us rows (λk=>ao k f1)/\Below w.heap.size w wr)\/(i=.int .i64 2/\∃rv us rows,gK p G w.heap.size wr w.heap.size ob rv us rows (λk=>ao k f1+ao k f2)/\Below w.heap.size w wr)) (λi _=>2-(intOf i).toNat);case atStart=>exact Np ⟨rfl,rfl⟩
 case round=>
  rcases hrel with ⟨rfl,rfl⟩|⟨rfl,rv,us,rows,hsm,hb⟩|⟨rfl,rv,us,rows,hsm,hb⟩
  .go_wp2_with (go_at_call 107;refine HAD.o.mono ?_;rintro e w9 ⟨rfl,rv9,us9,rows9,q1,q2,q3,q4,q5,q6⟩;have H9:Nw (gK p G w.heap.size w9 w.heap.size ob rv9 us9 rows9 (λk=>ao k f1)/\Below w.heap.size w w9):=⟨⟨q1,q2,q3,λk=>by have:=q4 k;simpa [ao] using this⟩,HB1.o.trans (q5.to_below HB1.o.size (λx hx=>by rcases hx with hx|hx;exact Nat.le_of_eq hx.symm;simp[Value.ownBlock] at hx))⟩;clear q1 q2 q3 q4 q5 q6);go_roundw;case rel=>exact Nq (Np ⟨by go_num,rv9,us9,rows9,H9.o.1,H9.o.2⟩)
   case measure=>simp[intOf]
  .have c2:=af HV2.o hb;have HA:=ae (HAD2.o rv us rows _ hsm hb);clear hsm hb;go_wp2_with (go_at_call 107;refine HA.o.mono ?_;rintro e w9 ⟨rfl,rv9,us9,rows9,q1,q2⟩;have H9:=ae (MK q1 q2);clear q1 q2);go_roundw;case rel=>exact Nq (Nq ⟨by go_num,rv9,us9,rows9,H9.o.1,H9.o.2⟩)
   case measure=>simp[intOf]
  .have HSM:=ae (MK hsm hb);clear hsm hb;go_wp2;go_ret;exact⟨rfl,rv,us,rows,HSM.o.1,HSM.o.2⟩
theorem aG{P:Program}{ops:Array Oper}{Q:Exit->Act->World->Prop}{md:Region.Mode}{S:World->Prop}(i:Nat)(d:Tmp){oi:Oper}{v:Value}{fuel:Nat}{listed:Array Bool}{a:Act}{w:World}(hi:ops[i]?=some oi)(hd:oi.dst=some d)(hS:S w)(hy:YieldsIf P ops S oi v a)(h:wpAnyH P md ops Q S fuel (listed.setIfInBounds i true) (a.put (some d) v) w)(hQ:∀c a w,Q (.panic c) (a.put (some d) v) w->Q (.panic c) a w:=by exact λ_ _ _ h=>h)(hs:Region.noSelect ops=true:=by kernel_rfl)(hf:Region.free md ops listed i=true:=by kernel_rfl)(hr:(Region.ready md ops listed).contains i=true:=by kernel_rfl):wpAnyH P md ops Q S (fuel+1) listed a w:=
 gS hi hd hs hf hr hQ hy hS h
end Go.Proofs.YteimdcndjjclnaaGreat
