/- A pair is taken out of. -/
import Derived.Lib.AppendIntMem
import Derived.Test.YtjkalahhpobefaaGreatDN
set_option maxHeartbeats 4000000
set_option maxRecDepth 100000
namespace Go.Proofs.YtjkalahhpobefaaGreat
set_option linter.all false
open Go.Proofs.Tryz Go.RowKit Go.Sort
variable{qs:PF}{g B:Nat}{w:PJ}
theorem bK.shift{cap n:Nat}(h:bK B w (PM g (n+1) cap) qs)(hl:qs.length=n+1)(i:Nat)(hi:i<n+1)(ad:Addr)(had:i<n->ad=⟨g,(i+1)*8,none⟩)(c:Nat)(ty:TypeId):∃w',(Builtin.append_ #[104,104] ty #[PM g i cap,.slice (some ad) (n-i) c]).run prog w=.ok (PM g n cap) w'/\(∃cs,cs.length=n+1/\cs.take n=qs.take i++qs.drop (i+1)/\bK B w' (PM g (n+1) cap) cs)/\aj (λj=>j=g) w w':=by
 obtain⟨i0,hii,hz0,hz1,hz2⟩:=info_parts Tryz.infoPr;have hl2:=i6 qs;have ho:=h.own;rw[hl] at ho;rcases ho.2 with ⟨h1,_⟩|⟨g2,cap2,ag,h1,hb,hh,hnc,hcm,hcs,htake⟩
 .simp at h1
 .simp only[OQ,OP,Addr.mk.injEq,and_true,true_and] at h1;obtain⟨rfl,rfl⟩:=h1;have esp:bP qs=bP (qs.take (i+1))++bP (qs.drop (i+1)):=by rw[<-nz,List.take_append_drop]
  have el1:(bP (qs.take (i+1))).length=(i+1)*8:=by rw[i6,O7,Nat.min_eq_left (by omega)]
  have el2:(bP (qs.drop (i+1))).length=(n-i)*8:=by rw[i6,List.length_drop,hl,show n+1-(i+1)=n-i by omega]
  have hnew:∀j u,(bP (qs.drop (i+1)))[j]?=some u->w.cell? (ad.add j)=some u:=λj u hj=>by
   have hjl:j<(n-i)*8:=by apply OU;intro h9;rw[OJ (by omega)] at hj;simp at hj
   have hq:(bP qs)[(i+1)*8+j]?=some u:=by rw[esp,O9 (by omega),el1,show (i+1)*8+j-(i+1)*8=j by omega];exact hj
   have hc:=ho.cells (g:=g) rfl _ _ hq;rw[had (by omega)];by_cases hj0:j=0
   .subst hj0;simpa [Addr.add] using hc
   .simpa [Addr.add,hj0] using hc
  have hfit:i*i0.size+(bP (qs.drop (i+1))).length<=ag.size:=by rw[hz1,el2,hcs];omega
  have hr:=run_append_room (P:=prog) w 104 ty 238 i0 underlying104 hii g i cap ag hh ad (n-i) c (bP (qs.drop (i+1))) (by rw[hz1];exact el2) hnew (Ac _) (by omega) hfit;rw[hz1] at hr;have en:i+(n-i)=n:=by omega
  rw[en] at hr;have ecur:ag.toList.length=cap*8:=by rw[Array.length_toList,hcs]
  have hqn:n<qs.length:=by omega
  generalize hlast:qs[n]=ql;have e2:qs=qs.take n++[ql]:=by have h9:=List.take_append_drop n qs;rw[Pd hqn,Pe (show qs.length<=n+1 by omega),hlast] at h9;exact h9.symm
  have e3:bP qs=bP (qs.take n)++aO ql:=by have h9:=Ad (qs.take n) ql;rw[<-e2] at h9;exact h9
  have elast:(ag.toList.drop (n*8)).take 8=aO ql:=by
   have e1:(ag.toList.drop (n*8)).take 8=(ag.toList.take ((n+1)*8)).drop (n*8):=by rw[List.drop_take,show (n+1)*8-n*8=8 by omega]
   rw[e1,htake,e3,List.drop_left' (by rw[i6,O7,Nat.min_eq_left (by omega)])]
  have etk:ag.toList.take (i*8)=bP (qs.take i):=by
   have e1:ag.toList.take (i*8)=(bP qs).take (i*8):=by rw[<-htake,List.take_take,Nat.min_eq_left (by omega)]
   have e4:bP qs=bP (qs.take i)++bP (qs.drop i):=by rw[<-nz,List.take_append_drop]
   rw[e1,e4,List.take_left' (by rw[i6,O7,Nat.min_eq_left (by omega)])]
  have ecl:(qs.take i++qs.drop (i+1)++[ql]).length=n+1:=by simp only[OM,O7,List.length_drop,OZ,List.length_nil];omega
  have epl:(qs.take i++qs.drop (i+1)).length=n:=by simp only[OM,O7,List.length_drop];omega
  refine⟨_,hr,⟨qs.take i++qs.drop (i+1)++[ql],ecl,?_,⟨?_,.inr ⟨g,cap,_,?_,hb,setRow_heap w g ag _ _ _ hh,?_,hcm,?_,?_⟩⟩,λk hk=>?_⟩,⟨rfl,rfl,rfl,by simp,λk _ hk=>setRow_other w g k _ hk⟩⟩
  .rw[List.take_left' epl]
  .rw[i6]
  .rw[ecl]
  .rw[ecl];exact hnc
  .simp only[List.size_toArray,OM,O7,List.length_drop,ecur,el2];omega
  .rw[ecl,List.toList_toArray,etk,el2];have e4:i*8+(n-i)*8=n*8:=by omega
   rw[e4,Ad,nz,<-elast];have e5:(bP (qs.take i)++bP (qs.drop (i+1))).length=n*8:=by rw[OM,el2,i6,O7,Nat.min_eq_left (by omega)];omega
   rw[List.take_append,e5,OO (by omega),show (n+1)*8-n*8=8 by omega]
  .simp only[Value.ownBlock,OP] at hk;subst hk;refine kZ (setRow_heap w g ag _ _ _ hh) (λx hx=>?_);have hcur:=uL hh (h.kd g rfl);rw[List.toList_toArray,OK,OK] at hx;rcases hx with (hx|hx)|hx
   .exact hcur x (Pj hx)
   .exact Ae _ x hx
   .exact hcur x (List.mem_of_mem_drop hx)
theorem Gc(B g cap n i:Nat)(qs:PF)(w:PJ)(hp:bK B w (PM g (n+1) cap) qs)(hl:qs.length=n+1)(hi:i<n+1)(hn:n+1<=2100000000000):Calls prog 221 #[PM g (n+1) cap,PO i,PO ((i:Int)+1)] w λe w'=>e=.returned (PM g n cap)/\bK B w' (PM g n cap) (qs.take i++qs.drop (i+1))/\aj (λk=>k=g) w w':=by
 have hcap:n+1<=cap:=by
  rcases hp.own.2 with ⟨h1,_⟩|⟨g2,cap2,ag,h1,_,_,hnc,_⟩
  .simp at h1
  .simp only[OQ] at h1;omega
 have hd:bK B w.drew (PM g (n+1) cap) qs:=hp.next (Ov _ _).drew;have key:∀(ad:Addr),(i<n->ad=⟨g,(i+1)*8,none⟩)->∃w5 w6,(Builtin.append_ #[104,104] 104 #[PM g i cap,.slice (some ad) (n-i) (cap-(i+1))]).run prog w.drew=.ok (PM g n cap) w5/\(Builtin.clear_ #[104] 0 #[.slice (some ⟨g,n*8,none⟩) 1 (cap-n)]).run prog w5=.ok (.tuple #[]) w6/\Po (bK B w6 (PM g n cap) (qs.take i++qs.drop (i+1)))/\Po (aj (λk=>k=g) w w6):=λad had=>by obtain⟨w5,hap,⟨cs,hc1,hc2,hc3⟩,hf5⟩:=hd.shift hl i hi ad had (cap-(i+1)) 104;obtain⟨w6,hcl,hp6,hf6⟩:=hc3.clear n (by omega) 0;rw[hc2] at hp6;rw[show n+1-n=1 by omega] at hcl;exact⟨w5,w6,hap,hcl,hp6,((aj.of_below (S:=λk=>k=g) (Ov _ _).drew).trans hf5 λ_ _ h=>h).trans hf6 λ_ _ h=>h⟩
 obtain⟨m,rfl⟩:∃m,n=i+m:=⟨n-i,by omega⟩;have hcn:¬cap=i+m:=by omega
 have hroom:i+m<=cap:=by omega
 have hi2:((i:Int)==(i:Int)+1)=false:=by simp;omega
 have hic:i<=cap:=by omega
 rw[show i+m-i=m by omega] at key;clear hp hd hl hi;by_cases hce:cap=i+1
 .have hni:m=0:=by omega
  subst hce;subst hni;obtain⟨w5,w6,hap,hcl,HP6,HF⟩:=key (PN g 0) (λh=>by omega);clear key;simp[go_sem] at hap;simp only[Nat.add_zero] at hcl hn hcap hcn hroom;rw[show i+1-i=1 by omega] at hcl;go_enter func221,ntmps221;go_upto_region 5 with fail;go_region;clear hap;go_wp2;go_ret;exact⟨rfl,HP6.o,HF.o⟩
 .obtain⟨w5,w6,hap,hcl,HP6,HF⟩:=key ⟨g,(i+1)*8,none⟩ (λ_=>rfl);clear key;simp[go_sem,hroom] at hap;go_enter func221,ntmps221;go_upto_region 5 with fail;go_region;clear hap;go_wp2;go_ret;exact⟨rfl,HP6.o,HF.o⟩
variable{x y:Pq}
theorem Ge(h:kA x y<0):x.dg<=y.dg:=by
 unfold kA at h;rw[Af] at h;by_cases h1:x.dg<y.dg
 .omega
 .rw[OV h1] at h;by_cases h2:y.dg<x.dg
  .rw[OW h2] at h;omega
  .omega
theorem Gf(h:¬kA x y<0):y.dg<=x.dg:=by
 unfold kA at h;rw[Af] at h;by_cases h1:x.dg<y.dg
 .rw[OW h1] at h;omega
 .omega
theorem Gg(w:PJ)(k:Nat)(os:Array Obj):Io w (grow (w.drewN k) os):=Go.Lib.below_grow _ w (Ou _) k os
def zQ:PH:=[.pointer none,.pointer none,PP 0,PP 0,PP 0,PP 0,PO 0,PO 0]
def zV:PK:=.agg #[.pointer none,.pointer none,PP 0,PP 0,PP 0,PP 0,PO 0,PO 0]
theorem bh.frmS{p:Int}{S:Nat->Prop}{w':PJ}{mb ob R:Nat}{dv pv:PK}{us:PH}{ms:PD}(h:bh p B w mb ob R g dv pv us ms qs)(hf:aj S w w')(hn:∀k,S k->bU d8 w k)(ht:∀k,S k->cq w 128 k/\cq w 81 k/\cq w 107 k)(hp:∀k,pv.ownBlock=some k->¬S k):bh p B w' mb ob R g dv pv us ms qs:=
 ⟨dB hf h.box λk hk=>(ht k hk).2.2,h.dvs,h.mks.frm hf hn λk hk=>⟨(ht k hk).1,(ht k hk).2.1⟩,h.prs.frm hf hp⟩
theorem Gh{T:TypeId}{xs:PH}(h:w.ownsRow B T 8 (PM g 1 1) 1 xs)(hx:∀u∈xs,d8 u):bU d8 w g:=by
 rcases h.2 with ⟨h1,_⟩|⟨g2,cap,ag,h1,_,hh,_,_,hcs,htake⟩
 .simp at h1
 .simp only[OQ,OP,Addr.mk.injEq,and_true,true_and] at h1;obtain⟨rfl,rfl⟩:=h1;refine kZ hh λu hu=>?_;have e:ag.toList=xs:=by rw[<-htake,OO (by rw[Array.length_toList,hcs];omega)]
  rw[e] at hu;exact hx u hu
theorem Gi:∀u∈zQ,d8 u:=by intro u hu x e;simp only[zQ,OY,List.not_mem_nil,or_false] at hu;rcases hu with rfl|rfl|rfl|rfl|rfl|rfl|rfl|rfl<;>cases e
theorem Gj(p:Int)(B:Nat)(w:PJ)(mb ob R g:Nat)(dv pv:PK)(us:PH)(ms:PD)(qs:PF)(d:Int)(hm:bh p B w mb ob R g dv pv us ms qs)(hB:B<=w.heap.size)(hn:qs.length<=2100000000000):Calls prog 183 #[PL mb,PO d] w λe w'=>
   (e=.returned (.tuple #[zV,.bool false])/\Io w w'/\∀q∈qs,d<q.dg)\/
   (∃(k:Nat)(hk:k<qs.length),e=.returned (.tuple #[eI qs[k],.bool true])/\qs[k].dg<=d/\(∀q∈qs,qs[k].dg<=q.dg)/\∃pv',bh p B w' mb ob R g dv pv' us ms (qs.take k++qs.drop (k+1))/\Below B w w'/\bq w w'):=by
 obtain⟨c0,c1,c2,c3,c4⟩:=hm.cells;have HM:=ae hm;obtain⟨pa,pc,hpv⟩:=hm.prs.sl;by_cases hq0:qs=[]
 .subst hq0;rw[hpv] at c3;simp only[List.length_nil] at c3;have hlt:=OG w _ c3;simp only at hlt;clear hm hpv c0 c1 c2 c4;go_enter func183,ntmps183;go_wp2;refine OC (v:=.tuple #[zV,.bool false]) (by simp[results,Tryz.results183,go_sem,zV]) rfl (Pf ⟨rfl,?_,λq hq=>by simp at hq⟩);exact ai
 .obtain⟨n,hn1⟩:∃n,qs.length=n+1:=⟨qs.length-1,by have:=List.length_pos_iff.2 hq0;omega⟩;have HN:=ae hn1;obtain⟨gp,hgp⟩:∃gp,pa=some (PN gp 0):=by
   rcases hm.prs.own.2 with ⟨h1,h2⟩|⟨g,cap,ag,h1,_⟩
   .omega
   .rw[hpv] at h1;simp only[OQ] at h1;exact⟨g,h1.1⟩
  subst hgp;rw[hn1] at hpv;subst hpv;obtain⟨w1,hw1⟩:∃w1,w1=w.alloc (.cells #[.pointer none,.pointer none,PP 0,PP 0,PP 0,PP 0,PO 0,PO 0] 238):=⟨_,rfl⟩;have HB1:Po (Io w w1):=by rw[hw1];exact ai
  have HZ1:Po (w1.ownsRow w.heap.size 238 8 (PM w.heap.size 1 1) 1 zQ):=by rw[hw1];exact World.ownsRow_lit w _ 1 (Ou _) (by decide) (by simp[zQ])
  have HPR:Po (∀W,Io w W->bK B W (PM gp (n+1) pc) qs):=λW hb=>HM.o.prs.next hb;have y3:=af c3 HB1.o;have HY3:Po (∀W,Io w W->W.cell? (PN mb 3)=some (PM gp (n+1) pc)):=λW hb=>af c3 hb;have hnI:((n:Int)+1==0)=false:=by simp;omega
  have hn5:n+1<=2100000000000:=by omega
  clear hm c0 c1 c2 c4 c3 hn1 hn hq0;go_enter func183,ntmps183;go_upto_region 1 with fail;rw[<-hw1];clear hw1;go_wp2_with fail;clear hnI y3;go_loopw [6,22] (λs6 s22 wr=>∃(m k:Nat)(hk:k<qs.length),m<=qs.length/\s6=PO k/\s22=PO m/\(∀q∈qs.take m,qs[k].dg<=q.dg)/\Io w wr/\wr.ownsRow w.heap.size 238 8 (PM w.heap.size 1 1) 1 zQ) (λ_ s22 _=>qs.length-(intOf s22).toNat);case atStart=>exact⟨0,0,by have:=HN.o;omega,OB _,rfl,rfl,λq hq=>by simp at hq,HB1.o,HZ1.o⟩
  case round=>
   rename PJ=>wr;obtain⟨m,k,hk,hm,rfl,rfl,hmin,hbr,hzr⟩:=hrel;have HBR:=ae hbr;have HZR:=ae hzr;have HMN:=ae hmin;clear hbr hzr hmin;have HPW:=ae (HPR.o wr HBR.o);by_cases hm2:m<qs.length
   .have hpq:=HPW.o.cells8 m hm2;obtain⟨f0,f1,f2,f3,f4,f5,f6,f7⟩:=hpq;have hkI:(k:Int)<(n:Int)+1:=by have:=HN.o;omega
    have hmI:(m:Int)<(n:Int)+1:=by have:=HN.o;omega
    have HCP:=ae (λW=>Gk qs[m] qs[k] W);have HNX:Po (kA qs[m] qs[k]<0->∀q∈qs.take (m+1),qs[m].dg<=q.dg):=λh q hq=>by
     have h1:=Ge h;rw[List.take_add_one,OI hm2] at hq;rcases OK.1 hq with hq|hq
     .have:=HMN.o q hq;omega
     .simp at hq;rw[hq];exact Int.le_refl _
    have HNY:Po (¬kA qs[m] qs[k]<0->∀q∈qs.take (m+1),qs[k].dg<=q.dg):=λh q hq=>by
     have h1:=Gf h;rw[List.take_add_one,OI hm2] at hq;rcases OK.1 hq with hq|hq
     .exact HMN.o q hq
     .simp at hq;rw[hq];exact h1
    have HKC:=ae (λW (hb:Io wr W)=>(HPW.o.cells8 k hk).keep hb);generalize hcm:kA qs[m] qs[k]=cm at HCP HNX HNY;generalize hqm:qs[m]=qm at f0 f1 f2 f3 f4 f5 f6 f7 HCP HNX;generalize hqk:qs[k]=qk at HCP HKC;clear hcm;obtain⟨w2,hw2⟩:∃w2,w2=wr.alloc (.cells #[PL qm.b1,PL qm.b2,PP qm.a,PP qm.b,PP qm.d,PP qm.z,PO qm.dg,PO qm.k] 238):=⟨_,rfl⟩;have HB2:Po (Io wr w2):=by rw[hw2];exact ai
    have HX2:Po (iG w2 wr.heap.size 0 qm):=by rw[hw2];exact(lh (Ou _) qm).at
    obtain⟨a0,a1,a2,a3,a4,a5,a6,a7⟩:=HKC.o w2 HB2.o;obtain⟨b0,b1,b2,b3,b4,b5,b6,b7⟩:=HX2.o;simp only[ON] at b0 b1 b2 b3 b4 b5 b6 b7;have y3:=HY3.o w2 (In HBR.o HB2.o);unfold aO at HCP;go_upto_region 7 with fail;rw[<-hw2];clear hw2 f0 f1 f2 f3 f4 f5 f6 f7;go_region_with (go_at_call 220;refine(HCP.o _).mono ?_;rintro e w9 ⟨rfl,q9,os9,hw9⟩;have HB9:Po (Below w2.drew.heap.size w2.drew w9):=(by rw[hw9];exact Gg _ _ _);clear hw9);all_goals
     have HB10:Po (Io wr w9):=In HB2.o ((Ov w2.heap.size w2).drew.trans HB9.o);by_cases hc9:cm<0
     .go_wp2;go_roundw;case rel=>exact⟨m+1,m,hm2,by omega,rfl,by go_num,by rw[hqm];exact HNX.o hc9,In HBR.o HB10.o,aF HZR.o HB10.o⟩
      case measure=>simp[intOf];omega
     .go_wp2;go_roundw;case rel=>exact⟨m+1,k,hk,by omega,rfl,by go_num,HNY.o (by omega),In HBR.o HB10.o,aF HZR.o HB10.o⟩
      case measure=>simp[intOf];omega
   .have e:m=qs.length:=by omega
    subst e;have HALL:Po (∀q∈qs,qs[k].dg<=q.dg):=λq hq=>HMN.o q (by rw[OO (Ou _)];exact hq);obtain⟨a0,a1,a2,a3,a4,a5,a6,a7⟩:=HPW.o.cells8 k hk;have hkI:(k:Int)<(n:Int)+1:=by have:=HN.o;omega
    have y3:=HY3.o wr HBR.o;have hlenI:(qs.length:Int)=(n:Int)+1:=by have:=HN.o;omega
    generalize hqk:qs[k]=qk at a0 a1 a2 a3 a4 a5 a6 a7 HALL;have HQK:=ae hqk;clear hqk HMN;obtain⟨w4,hw4⟩:∃w4,w4=wr.alloc (.cells #[PL qk.b1,PL qk.b2,PP qk.a,PP qk.b,PP qk.d,PP qk.z,PO qk.dg,PO qk.k] 238):=⟨_,rfl⟩;have HB4:Po (Io wr w4):=by rw[hw4];exact ai
    have HX4:Po (kB wr.heap.size w4 wr.heap.size qk):=by rw[hw4];exact lh (Ou _) qk
    have HZ4:=ae (aF HZR.o HB4.o);go_upto_region 11 with fail;rw[<-hw4];clear hw4 a0 a1 a2 a3 a4 a5 a6 a7 y3;obtain⟨b0,b1,b2,b3,b4,b5,b6,b7⟩:=HX4.o.at;simp only[ON] at b0 b1 b2 b3 b4 b5 b6 b7;by_cases hdd:d<qk.dg
    .have z0:=Oq HZ4.o;have z8:=Oo HZ4.o;have x0:w4.cell? (PN w.heap.size 0)=some (.pointer none):=z0 0 (by omega);have x1:w4.cell? (PN w.heap.size 1)=some (.pointer none):=z0 1 (by omega);have x2:w4.cell? (PN w.heap.size 2)=some (PP 0):=z0 2 (by omega);have x3:w4.cell? (PN w.heap.size 3)=some (PP 0):=z0 3 (by omega);have x4:w4.cell? (PN w.heap.size 4)=some (PP 0):=z0 4 (by omega);have x5:w4.cell? (PN w.heap.size 5)=some (PP 0):=z0 5 (by omega);have x6:w4.cell? (PN w.heap.size 6)=some (PO 0):=z0 6 (by omega);have x7:w4.cell? (PN w.heap.size 7)=some (PO 0):=z0 7 (by omega);have v0:=z8 0;have v1:=z8 1;have v2:=z8 2;have v3:=z8 3;have v4:=z8 4;have v5:=z8 5;have v6:=z8 6;have v7:=z8 7;clear z0 z8;go_wp2;refine OC (v:=.tuple #[zV,.bool false]) (by simp[results,Tryz.results183,go_sem,zV,x0,x1,x2,x3,x4,x5,x6,x7]) rfl (Pf ⟨rfl,?_,λq hq=>by have:=HALL.o q hq;omega⟩);have hb:=In HBR.o HB4.o;exact(((((((hb.setCell (Ou _) _).setCell (Ou _) _).setCell (Ou _) _).setCell (Ou _) _).setCell (Ou _) _).setCell (Ou _) _).setCell (Ou _) _).setCell (Ou _) _
    .have hB4:B<=w4.heap.size:=OA hB (In HBR.o HB4.o).size;have hb4:=In HBR.o HB4.o;have HM4:=ae (HM.o.next hb4);have HDL:=ae (Gc B gp pc n k qs w4 HM4.o.prs HN.o (by have:=HN.o;omega) hn5);have y3:=HY3.o w4 hb4;have HFIN:Po (∀v' W,bK B W v' (qs.take k++qs.drop (k+1))->aj (λj=>j=gp) w4 W->(∃u,W.cell? (PN mb 3)=some u)/\W.frozen? (PN mb 3)=false/\bh p B (W.setCell (PN mb 3) v') mb ob R g dv v' us ms (qs.take k++qs.drop (k+1))/\Below B w (W.setCell (PN mb 3) v')/\bq w (W.setCell (PN mb 3) v')/\(W.setCell (PN mb 3) v').ownsRow w.heap.size 238 8 (PM w.heap.size 1 1) 1 zQ/\kB wr.heap.size (W.setCell (PN mb 3) v') wr.heap.size qk):=λv' W h1 h2=>by
      have h2b:aj (λj=>(Value.slice (some (PN gp 0)) (n+1) pc).ownBlock=some j) w4 W:=⟨h2.os,h2.tape,h2.output,h2.size,λj hj hne=>h2.block j hj λe=>hne (by rw[e];rfl)⟩;have hbx:W.ownsRow B 107 5 (jT mb) 1 (iH ob g R dv (PM gp (n+1) pc)):=dB h2b HM4.o.box λj hj=>bj HM4.o.prs.own hj (by decide);obtain⟨r1,r2,r3⟩:=HM4.o.repair hB4 h2b h1;have hS:∀{T:TypeId},107≠T->238≠T->∀j,(j=mb\/(Value.slice (some (PN gp 0)) (n+1) pc).ownBlock=some j)->cq w4 T j:=λt1 t2 j hj=>by
       rcases hj with e|e
       .subst e;exact bj HM4.o.box rfl t1
       .exact bj HM4.o.prs.own e t2
      have hold:∀j,(j=mb\/(Value.slice (some (PN gp 0)) (n+1) pc).ownBlock=some j)->j<w.heap.size:=λj hj=>by
       rcases hj with e|e
       .subst e;exact(Ot HM.o.box j rfl).2
       .exact(Ot HM.o.prs.own j e).2
      refine⟨⟨_,Oq hbx 3 (by omega)⟩,Oo hbx 3,r1,(hb4.mono hB).trans r3,(bq.of_below hb4).trans (bq.of_frm r2 (hS (by decide) (by decide)) (hS (by decide) (by decide)) (hS (by decide) (by decide))),r2.own HZ4.o λj hj hs=>?_,r2.own HX4.o λj hj hs=>?_⟩
      .simp only[Value.ownBlock,OP] at hj;have:=hold j hs;omega
      .simp only[Value.ownBlock,OP] at hj;have h3:=hold j hs;have:=HBR.o.size;omega
     have hd2:¬d<qk.dg:=hdd;go_upto_region 14 with (go_at_call 221;refine HDL.o.mono ?_;rintro e w5 ⟨rfl,hp5,hf5⟩;have H5:=ae (HFIN.o _ w5 hp5 hf5);clear hp5 hf5;obtain⟨u5,d5⟩:=H5.o.1;have z5:=H5.o.2.1);obtain⟨w6,hw6⟩:∃w6,w6=w5.setCell (PN mb 3) (PM gp n pc):=⟨_,rfl⟩;rw[<-hw6];have H6:Po (bh p B w6 mb ob R g dv (PM gp n pc) us ms (qs.take k++qs.drop (k+1))/\Below B w w6/\bq w w6/\w6.ownsRow w.heap.size 238 8 (PM w.heap.size 1 1) 1 zQ/\kB wr.heap.size w6 wr.heap.size qk):=by rw[hw6];exact H5.o.2.2
     clear hw6 d5 z5 y3 H5;have hgpl:gp<w.heap.size:=(Ot HM.o.prs.own gp rfl).2;have HPUT:Po (∀v0 v1 v2 v3 v4 v5 v6 v7,bh p B (dQ w6 w.heap.size v0 v1 v2 v3 v4 v5 v6 v7) mb ob R g dv (PM gp n pc) us ms (qs.take k++qs.drop (k+1))/\Below B w (dQ w6 w.heap.size v0 v1 v2 v3 v4 v5 v6 v7)/\bq w (dQ w6 w.heap.size v0 v1 v2 v3 v4 v5 v6 v7)):=λv0 v1 v2 v3 v4 v5 v6 v7=>by
      obtain⟨h1,h2,h3,h4,h5⟩:=H6.o;have hp:=Ag h4 v0 v1 v2 v3 v4 v5 v6 v7;have hf:aj (λj=>j=w.heap.size) w6 (dQ w6 w.heap.size v0 v1 v2 v3 v4 v5 v6 v7):=hp.2;refine⟨h1.frmS hf (λj hj=>by rw[hj];exact Gh h4 Gi) (λj hj=>by rw[hj];exact⟨bj h4 rfl (by decide),bj h4 rfl (by decide),bj h4 rfl (by decide)⟩) (λj hj e=>?_),h2.trans (hf.to_below (OA hB h2.size) λx e=>?_),h3.trans (bq.of_frm hf (λj hj=>by rw[hj];exact bj h4 rfl (by decide)) (λj hj=>by rw[hj];exact bj h4 rfl (by decide)) (λj hj=>by rw[hj];exact bj h4 rfl (by decide)))⟩
      .simp only[Value.ownBlock,OP] at hj;omega
      .omega
     have z0:=Oq H6.o.2.2.2.1;have z8:=Oo H6.o.2.2.2.1;have x0:w6.cell? (PN w.heap.size 0)=some (.pointer none):=z0 0 (by omega);have x1:w6.cell? (PN w.heap.size 1)=some (.pointer none):=z0 1 (by omega);have x2:w6.cell? (PN w.heap.size 2)=some (PP 0):=z0 2 (by omega);have x3:w6.cell? (PN w.heap.size 3)=some (PP 0):=z0 3 (by omega);have x4:w6.cell? (PN w.heap.size 4)=some (PP 0):=z0 4 (by omega);have x5:w6.cell? (PN w.heap.size 5)=some (PP 0):=z0 5 (by omega);have x6:w6.cell? (PN w.heap.size 6)=some (PO 0):=z0 6 (by omega);have x7:w6.cell? (PN w.heap.size 7)=some (PO 0):=z0 7 (by omega);have v0:=z8 0;have v1:=z8 1;have v2:=z8 2;have v3:=z8 3;have v4:=z8 4;have v5:=z8 5;have v6:=z8 6;have v7:=z8 7;clear b0 b1 b2 b3 b4 b5 b6 b7;obtain⟨b0,b1,b2,b3,b4,b5,b6,b7⟩:=H6.o.2.2.2.2.at;simp only[ON] at b0 b1 b2 b3 b4 b5 b6 b7;clear z0 z8;unfold dQ at HPUT;go_wp2;refine OC (v:=.tuple #[eI qk,.bool true]) (by simp[results,Tryz.results183,go_sem,eI,x0,x1,x2,x3,x4,x5,x6,x7]) rfl (Pg ⟨k,hk,by rw[HQK.o],by rw[HQK.o];omega,by rw[HQK.o];exact HALL.o,_,HPUT.o _ _ _ _ _ _ _ _⟩)
end Go.Proofs.YtjkalahhpobefaaGreat
namespace Go.Proofs.YtjkalahhpobefaaGreat
set_option linter.all false
open Go.Proofs.Tryz Go.RowKit
def rh:Option PK->Nat
 |some (.slice _ n _)=>n
 |_=>0
def pk(w:PJ)(g:Nat):Nat->Nat
 |0=>0
 |k+1=>pk w g k+rh (w.cell? (PN g k))
def mm(mb R:Nat)(w:PJ):Nat:=
 match w.cell? (PN mb 2) with
 |some (.slice (some a) _ _)=>(2100000-pk w a.block R)*3000000+rh (w.cell? (PN mb 3))
 |_=>0
theorem Ah:∀(R:Nat)(l:PD),(∀x∈l,0<=x.L.pl/\x.L.pl<R)->∀(f:Nat->Nat),(∀pl:Nat,pl<R->f pl=(a8 l pl).length)->∀(s:Nat->Nat),s 0=0->(∀k,s (k+1)=s k+f k)->s R=l.length
 |0,l,h,f,hf,s,s0,hs=>by
  cases l with
  |nil=>simpa using s0
  |cons x l=>have:=h x (by simp);omega
 |R+1,l,h,f,hf,s,s0,hs=>by
  obtain⟨l2,hl2⟩:∃l2,l2=l.filter λx=>!decide (x.L.pl=(R:Int)):=⟨_,rfl⟩;have e2:∀pl:Nat,pl<R->a8 l2 pl=a8 l pl:=λpl hp=>by
   rw[hl2];unfold a8;rw[List.filter_filter];apply List.filter_congr;intro x _;by_cases hx:x.L.pl=(pl:Int)
   .rw[hx];simp;omega
   .simp[hx]
  have h1:=Ah R l2 (λx hx=>by
   rw[hl2] at hx;obtain⟨a,b⟩:=O5.1 hx;have:=h x a;simp only[Bool.not_eq_true',decide_eq_false_iff_not] at b;omega) f (λpl hp=>by rw[e2 pl hp];exact hf pl (by omega)) s s0 hs
  have h3:l.length=(a8 l R).length+l2.length:=by rw[hl2];unfold a8;rw[<-List.countP_eq_length_filter,<-List.countP_eq_length_filter];have:=List.length_eq_countP_add_countP (λx:Mm=>decide (x.L.pl=(R:Int))) (l:=l);simpa using this
  rw[hs R,hf R (by omega),h1];omega
variable{qs:PF}{ms:PD}{dv:PK}{mb ob g:Nat}{p:Int}
theorem uM{B:Nat}{w:PJ}{R:Nat}{pv:PK}{us:PH}(h:bh p B w mb ob R g dv pv us ms qs)(hl:∀x∈ms,0<=x.L.pl/\x.L.pl<R):mm mb R w=(2100000-ms.length)*3000000+qs.length:=by
 obtain⟨_,_,c2,c3,_⟩:=h.cells;obtain⟨pa,pc,hpv⟩:=h.prs.sl;have hs:pk w g R=ms.length:=Ah R ms hl (λk=>rh (w.cell? (PN g k))) (λpl hp=>by
  show rh (w.cell? (PN g pl))=_;rw[(h.mks.at pl hp).1];obtain⟨ra,rc,hr⟩:=cl (h.mks.row pl hp);rw[hr];rfl) (pk w g) rfl λk=>rfl
 unfold mm;rw[c2,c3,hpv];show (2100000-pk w g R)*3000000+qs.length=_;rw[hs]
structure ju(p:Int)(dg:Nat->Int)(N wd n:Nat)(w0 W:PJ)(mb ob g:Nat)(dv:PK)(vs:PC)(ms:PD)(qs:PF)(E:Nat->Nat->Prop)(T:Int):Prop where
 mkw:∃pv us,bh p w0.heap.size W mb ob (wd+n) g dv pv us ms qs
 cp:Cs p dg N wd n vs ms qs E T
 good:eO p dg wd ms E
 below:Io w0 W
variable{T:Int}{E:Nat->Nat->Prop}{vs:PC}{N wd n:Nat}{dg:Nat->Int}
theorem ju.next{w0 W W':PJ}(h:ju p dg N wd n w0 W mb ob g dv vs ms qs E T)(hb:Io W W'):ju p dg N wd n w0 W' mb ob g dv vs ms qs E T:=by obtain⟨pv,us,hm⟩:=h.mkw;exact⟨⟨pv,us,hm.next hb⟩,h.cp,h.good,In h.below hb⟩
theorem Cs.pls(h:Cs p dg N wd n vs ms qs E T):∀x∈ms,0<=x.L.pl/\x.L.pl<((wd+n:Nat):Int):=λx hx=>by obtain⟨D,_,h3⟩:=h.mb x hx;exact⟨(h3.gd x.L (by simp)).pl0,(h3.gd x.L (by simp)).pl⟩
theorem Ai(hx:bB p dg N wd n)(w0 W:PJ)(mb ob g:Nat)(dv pv sv vv:PK)(us:PH)(vs:PC)(ms:PD)(qs:PF)(E:Nat->Nat->Prop)(T D:Int)(t:Ft)(ts:PB)(hm:bh p w0.heap.size W mb ob (wd+n) g dv pv us ms qs)(hcp:Cs p dg N wd n vs ms qs E T)(hb:Io w0 W)(hob:aQ w0 ob p (am 1 N N 0) (am 1 N N 1) (am 1 N N 2) sv)(hdg:iI w0 dv (wd+n) dg)(hl:ms.length<=2000005)(hD:D<=9700)(hv:dR p dg N wd n D (t::ts))(hfv:Fv W vv (t::ts)):Calls prog 146 #[PL mb,vv] W λe w'=>e=.returned (.tuple #[])/\∃pv' us' f srt,f.L=dM p (aV p t.c) t/\f.r=ts.map (dM p (aV p t.c))/\f.gone=false/\(∀x∈ms,x.blk≠f.blk)/\srt.Perm ((ig ms f.L.pl.toNat).map λx=>di (am 1 N N 0) (am 1 N N 1) (am 1 N N 2) dg x f)/\bh p w0.heap.size w' mb ob (wd+n) g dv pv' us' (ms.map (aU f.L)++[f]) (qs.filter (λq=>!fL ms f.L q)++bN [] srt)/\Below w0.heap.size W w'/\bq W w':=by
 have gt:=hv.gd t (by simp);have hR:=hx.hw;have hR2:=hx.hn;have hq:=zx hcp.ql hl;refine(Gl p (am 1 N N 0) (am 1 N N 1) (am 1 N N 2) w0 W mb ob (wd+n) g dv pv sv vv us ms qs t ts dg hb hm hob hdg hx.pr (λpl hpl=>by have:=hx.dg pl hpl;omega) (by omega) (dZ 1 N 0) (dZ 1 N 1) (dZ 1 N 2) (λx hxm=>by
   obtain⟨D2,h2,h3⟩:=hcp.mb x hxm;have c:=h3.co x.L (by simp);have f:=(h3.gd x.L (by simp)).fok hx (by omega) (p:=p) (by omega);exact⟨f.k,f.a,f.b,f.d,f.z⟩) (hv.co t (by simp)) (λu hu=>(hv.gd u hu).fok hx hD (by have:=hv.co u hu;omega)) (mn hx hD _ hv.dn hv.gd) hfv ⟨gt.pl0,gt.pl⟩ (by omega) hq (λq hq=>by obtain⟨x,y,a1,a2,a3,a4,_⟩:=hcp.pr q hq;exact⟨x,y,a1,a2,a3,a4⟩)).mono ?_
 rintro e w' ⟨rfl,pv',us',f,srt,f1,f2,f3,f4,f5,f6,f7,f8⟩;refine⟨rfl,pv',us',f,srt,f1,f2,f3,f4,?_,f6,f7,f8⟩;have e:f.L.pl=t.pl:=by rw[f1];rfl
 rw[e];exact f5
end Go.Proofs.YtjkalahhpobefaaGreat
