/- A pair is taken out of a row of pairs: slices.Delete, takePair. -/
import Derived.Test.YteimdcndjjclnaaGreatKZ
import Derived.Lib.AppendIntMem
set_option maxHeartbeats 4000000
set_option maxRecDepth 100000
namespace Go.Proofs.YteimdcndjjclnaaGreat
set_option linter.all false
open Go.Proofs.Tryz Go.RowKit Go.Sort
theorem aZ.shift{B:Nat}{w:World}{g cap n:Nat}{qs:List Pq}(h:aZ B w (.slice (some ⟨g,0,none⟩) (n+1) cap) qs)(hl:qs.length=n+1)(i:Nat)(hi:i<n+1)(ad:Addr)(had:i<n->ad=⟨g,(i+1)*8,none⟩)(c:Nat)(ty:TypeId):∃w',(Builtin.append_ #[118,118] ty #[.slice (some ⟨g,0,none⟩) i cap,.slice (some ad) (n-i) c]).run prog w=.ok (.slice (some ⟨g,0,none⟩) n cap) w'/\(∃cs,cs.length=n+1/\cs.take n=qs.take i++qs.drop (i+1)/\aZ B w' (.slice (some ⟨g,0,none⟩) (n+1) cap) cs)/\ai (λj=>j=g) w w':=by
 obtain⟨i0,hii,hz0,hz1,hz2⟩:=info_parts Tryz.infoPr;have hl2:=iF qs;have ho:=h.own;rw[hl] at ho;rcases ho.2 with ⟨h1,_⟩|⟨g2,cap2,af,h1,hb,hh,hnc,hcm,hcs,htake⟩
 .simp at h1
 .simp only[LB,LA,Addr.mk.injEq,and_true,true_and] at h1;obtain⟨rfl,rfl⟩:=h1;have esp:bw qs=bw (qs.take (i+1))++bw (qs.drop (i+1)):=by rw[<-mE,List.take_append_drop]
  have el1:(bw (qs.take (i+1))).length=(i+1)*8:=by rw[iF,LU,Nat.min_eq_left (by omega)]
  have el2:(bw (qs.drop (i+1))).length=(n-i)*8:=by rw[iF,List.length_drop,hl,show n+1-(i+1)=n-i by omega]
  have hnew:∀j u,(bw (qs.drop (i+1)))[j]?=some u->w.cell? (ad.add j)=some u:=λj u hj=>by
   have hjl:j<(n-i)*8:=by apply LF;intro h9;rw[Lu (by omega)] at hj;simp at hj
   have hq:(bw qs)[(i+1)*8+j]?=some u:=by rw[esp,LW (by omega),el1,show (i+1)*8+j-(i+1)*8=j by omega];exact hj
   have hc:=ho.cells (g:=g) rfl _ _ hq;rw[had (by omega)];by_cases hj0:j=0
   .subst hj0;simpa [Addr.add] using hc
   .simpa [Addr.add,hj0] using hc
  have hfit:i*i0.size+(bw (qs.drop (i+1))).length<=af.size:=by rw[hz1,el2,hcs];omega
  have hr:=run_append_room (P:=prog) w 118 ty 126 i0 underlying118 hii g i cap af hh ad (n-i) c (bw (qs.drop (i+1))) (by rw[hz1];exact el2) hnew (xM _) (by omega) hfit;rw[hz1] at hr;have en:i+(n-i)=n:=by omega
  rw[en] at hr;have ecur:af.toList.length=cap*8:=by rw[Array.length_toList,hcs]
  have hqn:n<qs.length:=by omega
  generalize hlast:qs[n]=ql;have e2:qs=qs.take n++[ql]:=by have h9:=List.take_append_drop n qs;rw[LY hqn,LZ (show qs.length<=n+1 by omega),hlast] at h9;exact h9.symm
  have e3:bw qs=bw (qs.take n)++aH ql:=by have h9:=xN (qs.take n) ql;rw[<-e2] at h9;exact h9
  have elast:(af.toList.drop (n*8)).take 8=aH ql:=by
   have e1:(af.toList.drop (n*8)).take 8=(af.toList.take ((n+1)*8)).drop (n*8):=by rw[List.drop_take,show (n+1)*8-n*8=8 by omega]
   rw[e1,htake,e3,List.drop_left' (by rw[iF,LU,Nat.min_eq_left (by omega)])]
  have etk:af.toList.take (i*8)=bw (qs.take i):=by
   have e1:af.toList.take (i*8)=(bw qs).take (i*8):=by rw[<-htake,List.take_take,Nat.min_eq_left (by omega)]
   have e4:bw qs=bw (qs.take i)++bw (qs.drop i):=by rw[<-mE,List.take_append_drop]
   rw[e1,e4,List.take_left' (by rw[iF,LU,Nat.min_eq_left (by omega)])]
  have ecl:(qs.take i++qs.drop (i+1)++[ql]).length=n+1:=by simp only[Lx,LU,List.length_drop,LN,List.length_nil];omega
  have epl:(qs.take i++qs.drop (i+1)).length=n:=by simp only[Lx,LU,List.length_drop];omega
  refine⟨_,hr,⟨qs.take i++qs.drop (i+1)++[ql],ecl,?_,⟨?_,.inr ⟨g,cap,_,?_,hb,setRow_heap w g af _ _ _ hh,?_,hcm,?_,?_⟩⟩,λk hk=>?_⟩,⟨rfl,rfl,rfl,by simp,λk _ hk=>setRow_other w g k _ hk⟩⟩
  .rw[List.take_left' epl]
  .rw[iF]
  .rw[ecl]
  .rw[ecl];exact hnc
  .simp only[List.size_toArray,Lx,LU,List.length_drop,ecur,el2];omega
  .rw[ecl,List.toList_toArray,etk,el2];have e4:i*8+(n-i)*8=n*8:=by omega
   rw[e4,xN,mE,<-elast];have e5:(bw (qs.take i)++bw (qs.drop (i+1))).length=n*8:=by rw[Lx,el2,iF,LU,Nat.min_eq_left (by omega)];omega
   rw[List.take_append,e5,Lz (by omega),show (n+1)*8-n*8=8 by omega]
  .simp only[Value.ownBlock,LA] at hk;subst hk;refine mF (setRow_heap w g af _ _ _ hh) (λx hx=>?_);have hcur:=sR hh (h.kd g rfl);rw[List.toList_toArray,Lv,Lv] at hx;rcases hx with (hx|hx)|hx
   .exact hcur x (L6 hx)
   .exact xO _ x hx
   .exact hcur x (List.mem_of_mem_drop hx)
theorem DK(B g cap n i:Nat)(qs:List Pq)(w:World)(hp:aZ B w (.slice (some ⟨g,0,none⟩) (n+1) cap) qs)(hl:qs.length=n+1)(hi:i<n+1)(hn:n+1<=500000000000):Calls prog 117 #[.slice (some ⟨g,0,none⟩) (n+1) cap,.int .i64 i,.int .i64 ((i:Int)+1)] w λe w'=>e=.returned (.slice (some ⟨g,0,none⟩) n cap)/\aZ B w' (.slice (some ⟨g,0,none⟩) n cap) (qs.take i++qs.drop (i+1))/\ai (λk=>k=g) w w':=by
 have hcap:n+1<=cap:=by
  rcases hp.own.2 with ⟨h1,_⟩|⟨g2,cap2,af,h1,_,_,hnc,_⟩
  .simp at h1
  .simp only[LB] at h1;omega
 have hd:aZ B w.drew (.slice (some ⟨g,0,none⟩) (n+1) cap) qs:=hp.next (Lf _ _).drew;have key:∀(ad:Addr),(i<n->ad=⟨g,(i+1)*8,none⟩)->∃w5 w6,(Builtin.append_ #[118,118] 118 #[.slice (some ⟨g,0,none⟩) i cap,.slice (some ad) (n-i) (cap-(i+1))]).run prog w.drew=.ok (.slice (some ⟨g,0,none⟩) n cap) w5/\(Builtin.clear_ #[118] 0 #[.slice (some ⟨g,n*8,none⟩) 1 (cap-n)]).run prog w5=.ok (.tuple #[]) w6/\Ma (aZ B w6 (.slice (some ⟨g,0,none⟩) n cap) (qs.take i++qs.drop (i+1)))/\Ma (ai (λk=>k=g) w w6):=λad had=>by obtain⟨w5,hap,⟨cs,hc1,hc2,hc3⟩,hf5⟩:=hd.shift hl i hi ad had (cap-(i+1)) 118;obtain⟨w6,hcl,hp6,hf6⟩:=hc3.clear n (by omega) 0;rw[hc2] at hp6;rw[show n+1-n=1 by omega] at hcl;exact⟨w5,w6,hap,hcl,hp6,((ai.of_below (S:=λk=>k=g) (Lf _ _).drew).trans hf5 λ_ _ h=>h).trans hf6 λ_ _ h=>h⟩
 obtain⟨m,rfl⟩:∃m,n=i+m:=⟨n-i,by omega⟩;have hcn:¬cap=i+m:=by omega
 have hroom:i+m<=cap:=by omega
 have hi2:((i:Int)==(i:Int)+1)=false:=by simp;omega
 have hic:i<=cap:=by omega
 rw[show i+m-i=m by omega] at key;clear hp hd hl hi;by_cases hce:cap=i+1
 .have hni:m=0:=by omega
  subst hce;subst hni;obtain⟨w5,w6,hap,hcl,HP6,HF⟩:=key ⟨g,0,none⟩ (λh=>by omega);clear key;simp[go_sem] at hap;simp only[Nat.add_zero] at hcl hn hcap hcn hroom;rw[show i+1-i=1 by omega] at hcl;go_enter func117,ntmps117;go_upto_region 5 with fail;go_region;clear hap;go_wp2;go_ret;exact⟨rfl,HP6.o,HF.o⟩
 .obtain⟨w5,w6,hap,hcl,HP6,HF⟩:=key ⟨g,(i+1)*8,none⟩ (λ_=>rfl);clear key;simp[go_sem,hroom] at hap;go_enter func117,ntmps117;go_upto_region 5 with fail;go_region;clear hap;go_wp2;go_ret;exact⟨rfl,HP6.o,HF.o⟩
theorem DL{x y:Pq}(h:jY x y<0):x.dg<=y.dg:=by
 unfold jY at h;rw[xP] at h;by_cases h1:x.dg<y.dg
 .omega
 .rw[LH h1] at h;by_cases h2:y.dg<x.dg
  .rw[LI h2] at h;omega
  .omega
theorem DM{x y:Pq}(h:¬jY x y<0):y.dg<=x.dg:=by
 unfold jY at h;rw[xP] at h;by_cases h1:x.dg<y.dg
 .rw[LI h1] at h;omega
 .omega
theorem DN(w:World)(k:Nat)(os:Array Obj):Below w.heap.size w (grow (w.drewN k) os):=Go.Lib.below_grow _ w (Lc _) k os
def zQ:List Value:=[.pointer none,.pointer none,.int .u16 0,.int .u16 0,.int .u16 0,.int .u16 0,.int .i64 0,.int .i64 0]
def zV:Value:=.agg #[.pointer none,.pointer none,.int .u16 0,.int .u16 0,.int .u16 0,.int .u16 0,.int .i64 0,.int .i64 0]
theorem bj.frmS{p:Int}{B:Nat}{S:Nat->Prop}{w w':World}{mb ob R g:Nat}{dv pv:Value}{us:List Value}{ms:List Mm}{qs:List Pq}(h:bj p B w mb ob R g dv pv us ms qs)(hf:ai S w w')(hn:∀k,S k->bU dP w k)(ht:∀k,S k->b8 w 130 k/\b8 w 124 k/\b8 w 121 k)(hp:∀k,pv.ownBlock=some k->¬S k):bj p B w' mb ob R g dv pv us ms qs:=
 ⟨dN hf h.box λk hk=>(ht k hk).2.2,h.dvs,h.mks.frm hf hn λk hk=>⟨(ht k hk).1,(ht k hk).2.1⟩,h.prs.frm hf hp⟩
theorem DO{B:Nat}{w:World}{T:TypeId}{g:Nat}{xs:List Value}(h:w.ownsRow B T 8 (.slice (some ⟨g,0,none⟩) 1 1) 1 xs)(hx:∀u∈xs,dP u):bU dP w g:=by
 rcases h.2 with ⟨h1,_⟩|⟨g2,cap,af,h1,_,hh,_,_,hcs,htake⟩
 .simp at h1
 .simp only[LB,LA,Addr.mk.injEq,and_true,true_and] at h1;obtain⟨rfl,rfl⟩:=h1;refine mF hh λu hu=>?_;have e:af.toList=xs:=by rw[<-htake,Lz (by rw[Array.length_toList,hcs];omega)]
  rw[e] at hu;exact hx u hu
theorem DP:∀u∈zQ,dP u:=by intro u hu x e;simp only[zQ,LL,List.not_mem_nil,or_false] at hu;rcases hu with rfl|rfl|rfl|rfl|rfl|rfl|rfl|rfl<;>cases e
theorem DQ(p:Int)(B:Nat)(w:World)(mb ob R g:Nat)(dv pv:Value)(us:List Value)(ms:List Mm)(qs:List Pq)(d:Int)(hm:bj p B w mb ob R g dv pv us ms qs)(hB:B<=w.heap.size)(hn:qs.length<=500000000000):Calls prog 87 #[.pointer (some ⟨mb,0,none⟩),.int .i64 d] w λe w'=>
   (e=.returned (.tuple #[zV,.bool false])/\Below w.heap.size w w'/\∀q∈qs,d<q.dg)\/
   (∃(k:Nat)(hk:k<qs.length),e=.returned (.tuple #[d8 qs[k],.bool true])/\qs[k].dg<=d/\(∀q∈qs,qs[k].dg<=q.dg)/\∃pv',bj p B w' mb ob R g dv pv' us ms (qs.take k++qs.drop (k+1))/\Below B w w'/\ba w w'):=by
 obtain⟨c0,c1,c2,c3,c4⟩:=hm.cells;have HM:=ac hm;obtain⟨pa,pc,hpv⟩:=hm.prs.sl;by_cases hq0:qs=[]
 .subst hq0;rw[hpv] at c3;simp only[List.length_nil] at c3;have hlt:=Lq w _ c3;simp only at hlt;clear hm hpv c0 c1 c2 c4;go_enter func87,ntmps87;go_wp2;refine Lm (v:=.tuple #[zV,.bool false]) (by simp[results,Tryz.results87,go_sem,zV]) rfl (L0 ⟨rfl,?_,λq hq=>by simp at hq⟩);exact aj
 .obtain⟨n,hn1⟩:∃n,qs.length=n+1:=⟨qs.length-1,by have:=List.length_pos_iff.2 hq0;omega⟩;have HN:=ac hn1;obtain⟨gp,hgp⟩:∃gp,pa=some ⟨gp,0,none⟩:=by
   rcases hm.prs.own.2 with ⟨h1,h2⟩|⟨g,cap,af,h1,_⟩
   .omega
   .rw[hpv] at h1;simp only[LB] at h1;exact⟨g,h1.1⟩
  subst hgp;rw[hn1] at hpv;subst hpv;obtain⟨w1,hw1⟩:∃w1,w1=w.alloc (.cells #[.pointer none,.pointer none,.int .u16 0,.int .u16 0,.int .u16 0,.int .u16 0,.int .i64 0,.int .i64 0] 126):=⟨_,rfl⟩;have HB1:Ma (Below w.heap.size w w1):=by rw[hw1];exact aj
  have HZ1:Ma (w1.ownsRow w.heap.size 126 8 (.slice (some ⟨w.heap.size,0,none⟩) 1 1) 1 zQ):=by rw[hw1];exact World.ownsRow_lit w _ 1 (Lc _) (by decide) (by simp[zQ])
  have HPR:Ma (∀W,Below w.heap.size w W->aZ B W (.slice (some ⟨gp,0,none⟩) (n+1) pc) qs):=λW hb=>HM.o.prs.next hb;have y3:=ae c3 HB1.o;have HY3:Ma (∀W,Below w.heap.size w W->W.cell? ⟨mb,3,none⟩=some (.slice (some ⟨gp,0,none⟩) (n+1) pc)):=λW hb=>ae c3 hb;have hnI:((n:Int)+1==0)=false:=by simp;omega
  have hn5:n+1<=500000000000:=by omega
  clear hm c0 c1 c2 c4 c3 hn1 hn hq0;go_enter func87,ntmps87;go_upto_region 1 with fail;rw[<-hw1];clear hw1;go_wp2_with fail;clear hnI y3;go_loopw [6,22] (λs6 s22 wr=>∃(m k:Nat)(hk:k<qs.length),m<=qs.length/\s6=.int .i64 k/\s22=.int .i64 m/\(∀q∈qs.take m,qs[k].dg<=q.dg)/\Below w.heap.size w wr/\wr.ownsRow w.heap.size 126 8 (.slice (some ⟨w.heap.size,0,none⟩) 1 1) 1 zQ) (λ_ s22 _=>qs.length-(intOf s22).toNat);case atStart=>exact⟨0,0,by have:=HN.o;omega,Ll _,rfl,rfl,λq hq=>by simp at hq,HB1.o,HZ1.o⟩
  case round=>
   rename World=>wr;obtain⟨m,k,hk,hm,rfl,rfl,hmin,hbr,hzr⟩:=hrel;have HBR:=ac hbr;have HZR:=ac hzr;have HMN:=ac hmin;clear hbr hzr hmin;have HPW:=ac (HPR.o wr HBR.o);by_cases hm2:m<qs.length
   .have hpq:=HPW.o.cells8 m hm2;obtain⟨f0,f1,f2,f3,f4,f5,f6,f7⟩:=hpq;have hkI:(k:Int)<(n:Int)+1:=by have:=HN.o;omega
    have hmI:(m:Int)<(n:Int)+1:=by have:=HN.o;omega
    have HCP:=ac (λW=>DR qs[m] qs[k] W);have HNX:Ma (jY qs[m] qs[k]<0->∀q∈qs.take (m+1),qs[m].dg<=q.dg):=λh q hq=>by
     have h1:=DL h;rw[List.take_add_one,Ls hm2] at hq;rcases Lv.1 hq with hq|hq
     .have:=HMN.o q hq;omega
     .simp at hq;rw[hq];exact Int.le_refl _
    have HNY:Ma (¬jY qs[m] qs[k]<0->∀q∈qs.take (m+1),qs[k].dg<=q.dg):=λh q hq=>by
     have h1:=DM h;rw[List.take_add_one,Ls hm2] at hq;rcases Lv.1 hq with hq|hq
     .exact HMN.o q hq
     .simp at hq;rw[hq];exact h1
    have HKC:=ac (λW (hb:Below wr.heap.size wr W)=>(HPW.o.cells8 k hk).keep hb);generalize hcm:jY qs[m] qs[k]=cm at HCP HNX HNY;generalize hqm:qs[m]=qm at f0 f1 f2 f3 f4 f5 f6 f7 HCP HNX;generalize hqk:qs[k]=qk at HCP HKC;clear hcm;obtain⟨w2,hw2⟩:∃w2,w2=wr.alloc (.cells #[.pointer (some ⟨qm.b1,0,none⟩),.pointer (some ⟨qm.b2,0,none⟩),.int .u16 qm.a,.int .u16 qm.b,.int .u16 qm.d,.int .u16 qm.z,.int .i64 qm.dg,.int .i64 qm.k] 126):=⟨_,rfl⟩;have HB2:Ma (Below wr.heap.size wr w2):=by rw[hw2];exact aj
    have HX2:Ma (ig w2 wr.heap.size 0 qm):=by rw[hw2];exact(kL (Lc _) qm).at
    obtain⟨a0,a1,a2,a3,a4,a5,a6,a7⟩:=HKC.o w2 HB2.o;obtain⟨b0,b1,b2,b3,b4,b5,b6,b7⟩:=HX2.o;simp only[Ly] at b0 b1 b2 b3 b4 b5 b6 b7;have y3:=HY3.o w2 (HBR.o.trans (HB2.o.mono HBR.o.size));unfold aH at HCP;go_upto_region 7 with fail;rw[<-hw2];clear hw2 f0 f1 f2 f3 f4 f5 f6 f7;go_region_with (go_at_call 116;refine(HCP.o _).mono ?_;rintro e w9 ⟨rfl,q9,os9,hw9⟩;have HB9:Ma (Below w2.drew.heap.size w2.drew w9):=(by rw[hw9];exact DN _ _ _);clear hw9);all_goals
     have HB10:Ma (Below wr.heap.size wr w9):=HB2.o.trans (((Lf w2.heap.size w2).drew.trans HB9.o).mono HB2.o.size);by_cases hc9:cm<0
     .go_wp2;go_roundw;case rel=>exact⟨m+1,m,hm2,by omega,rfl,by go_num,by rw[hqm];exact HNX.o hc9,HBR.o.trans (HB10.o.mono HBR.o.size),aK HZR.o HB10.o⟩
      case measure=>simp[intOf];omega
     .go_wp2;go_roundw;case rel=>exact⟨m+1,k,hk,by omega,rfl,by go_num,HNY.o (by omega),HBR.o.trans (HB10.o.mono HBR.o.size),aK HZR.o HB10.o⟩
      case measure=>simp[intOf];omega
   .have e:m=qs.length:=by omega
    subst e;have HALL:Ma (∀q∈qs,qs[k].dg<=q.dg):=λq hq=>HMN.o q (by rw[Lz (Lc _)];exact hq);obtain⟨a0,a1,a2,a3,a4,a5,a6,a7⟩:=HPW.o.cells8 k hk;have hkI:(k:Int)<(n:Int)+1:=by have:=HN.o;omega
    have y3:=HY3.o wr HBR.o;have hlenI:(qs.length:Int)=(n:Int)+1:=by have:=HN.o;omega
    generalize hqk:qs[k]=qk at a0 a1 a2 a3 a4 a5 a6 a7 HALL;have HQK:=ac hqk;clear hqk HMN;obtain⟨w4,hw4⟩:∃w4,w4=wr.alloc (.cells #[.pointer (some ⟨qk.b1,0,none⟩),.pointer (some ⟨qk.b2,0,none⟩),.int .u16 qk.a,.int .u16 qk.b,.int .u16 qk.d,.int .u16 qk.z,.int .i64 qk.dg,.int .i64 qk.k] 126):=⟨_,rfl⟩;have HB4:Ma (Below wr.heap.size wr w4):=by rw[hw4];exact aj
    have HX4:Ma (jZ wr.heap.size w4 wr.heap.size qk):=by rw[hw4];exact kL (Lc _) qk
    have HZ4:=ac (aK HZR.o HB4.o);go_upto_region 11 with fail;rw[<-hw4];clear hw4 a0 a1 a2 a3 a4 a5 a6 a7 y3;obtain⟨b0,b1,b2,b3,b4,b5,b6,b7⟩:=HX4.o.at;simp only[Ly] at b0 b1 b2 b3 b4 b5 b6 b7;by_cases hdd:d<qk.dg
    .have z0:=La HZ4.o;have z8:=K8 HZ4.o;have x0:w4.cell? ⟨w.heap.size,0,none⟩=some (.pointer none):=z0 0 (by omega);have x1:w4.cell? ⟨w.heap.size,1,none⟩=some (.pointer none):=z0 1 (by omega);have x2:w4.cell? ⟨w.heap.size,2,none⟩=some (.int .u16 0):=z0 2 (by omega);have x3:w4.cell? ⟨w.heap.size,3,none⟩=some (.int .u16 0):=z0 3 (by omega);have x4:w4.cell? ⟨w.heap.size,4,none⟩=some (.int .u16 0):=z0 4 (by omega);have x5:w4.cell? ⟨w.heap.size,5,none⟩=some (.int .u16 0):=z0 5 (by omega);have x6:w4.cell? ⟨w.heap.size,6,none⟩=some (.int .i64 0):=z0 6 (by omega);have x7:w4.cell? ⟨w.heap.size,7,none⟩=some (.int .i64 0):=z0 7 (by omega);have v0:=z8 0;have v1:=z8 1;have v2:=z8 2;have v3:=z8 3;have v4:=z8 4;have v5:=z8 5;have v6:=z8 6;have v7:=z8 7;clear z0 z8;go_wp2;refine Lm (v:=.tuple #[zV,.bool false]) (by simp[results,Tryz.results87,go_sem,zV,x0,x1,x2,x3,x4,x5,x6,x7]) rfl (L0 ⟨rfl,?_,λq hq=>by have:=HALL.o q hq;omega⟩);have hb:=HBR.o.trans (HB4.o.mono HBR.o.size);exact(((((((hb.setCell (Lc _) _).setCell (Lc _) _).setCell (Lc _) _).setCell (Lc _) _).setCell (Lc _) _).setCell (Lc _) _).setCell (Lc _) _).setCell (Lc _) _
    .have hB4:B<=w4.heap.size:=Lk hB (HBR.o.trans (HB4.o.mono HBR.o.size)).size;have hb4:=HBR.o.trans (HB4.o.mono HBR.o.size);have HM4:=ac (HM.o.next hb4);have HDL:=ac (DK B gp pc n k qs w4 HM4.o.prs HN.o (by have:=HN.o;omega) hn5);have y3:=HY3.o w4 hb4;have HFIN:Ma (∀v' W,aZ B W v' (qs.take k++qs.drop (k+1))->ai (λj=>j=gp) w4 W->(∃u,W.cell? ⟨mb,3,none⟩=some u)/\W.frozen? ⟨mb,3,none⟩=false/\bj p B (W.setCell ⟨mb,3,none⟩ v') mb ob R g dv v' us ms (qs.take k++qs.drop (k+1))/\Below B w (W.setCell ⟨mb,3,none⟩ v')/\ba w (W.setCell ⟨mb,3,none⟩ v')/\(W.setCell ⟨mb,3,none⟩ v').ownsRow w.heap.size 126 8 (.slice (some ⟨w.heap.size,0,none⟩) 1 1) 1 zQ/\jZ wr.heap.size (W.setCell ⟨mb,3,none⟩ v') wr.heap.size qk):=λv' W h1 h2=>by
      have h2b:ai (λj=>(Value.slice (some ⟨gp,0,none⟩) (n+1) pc).ownBlock=some j) w4 W:=⟨h2.os,h2.tape,h2.output,h2.size,λj hj hne=>h2.block j hj λe=>hne (by rw[e];rfl)⟩;have hbx:W.ownsRow B 121 5 (jz mb) 1 (ii ob g R dv (.slice (some ⟨gp,0,none⟩) (n+1) pc)):=dN h2b HM4.o.box λj hj=>bp HM4.o.prs.own hj (by decide);obtain⟨r1,r2,r3⟩:=HM4.o.repair hB4 h2b h1;have hS:∀{T:TypeId},121≠T->126≠T->∀j,(j=mb\/(Value.slice (some ⟨gp,0,none⟩) (n+1) pc).ownBlock=some j)->b8 w4 T j:=λt1 t2 j hj=>by
       rcases hj with e|e
       .subst e;exact bp HM4.o.box rfl t1
       .exact bp HM4.o.prs.own e t2
      have hold:∀j,(j=mb\/(Value.slice (some ⟨gp,0,none⟩) (n+1) pc).ownBlock=some j)->j<w.heap.size:=λj hj=>by
       rcases hj with e|e
       .subst e;exact(Lb HM.o.box j rfl).2
       .exact(Lb HM.o.prs.own j e).2
      refine⟨⟨_,La hbx 3 (by omega)⟩,K8 hbx 3,r1,(hb4.mono hB).trans r3,(ba.of_below hb4).trans (ba.of_frm r2 (hS (by decide) (by decide)) (hS (by decide) (by decide)) (hS (by decide) (by decide))),r2.own HZ4.o λj hj hs=>?_,r2.own HX4.o λj hj hs=>?_⟩
      .simp only[Value.ownBlock,LA] at hj;have:=hold j hs;omega
      .simp only[Value.ownBlock,LA] at hj;have h3:=hold j hs;have:=HBR.o.size;omega
     have hd2:¬d<qk.dg:=hdd;go_upto_region 14 with (go_at_call 117;refine HDL.o.mono ?_;rintro e w5 ⟨rfl,hp5,hf5⟩;have H5:=ac (HFIN.o _ w5 hp5 hf5);clear hp5 hf5;obtain⟨u5,d5⟩:=H5.o.1;have z5:=H5.o.2.1);obtain⟨w6,hw6⟩:∃w6,w6=w5.setCell ⟨mb,3,none⟩ (.slice (some ⟨gp,0,none⟩) n pc):=⟨_,rfl⟩;rw[<-hw6];have H6:Ma (bj p B w6 mb ob R g dv (.slice (some ⟨gp,0,none⟩) n pc) us ms (qs.take k++qs.drop (k+1))/\Below B w w6/\ba w w6/\w6.ownsRow w.heap.size 126 8 (.slice (some ⟨w.heap.size,0,none⟩) 1 1) 1 zQ/\jZ wr.heap.size w6 wr.heap.size qk):=by rw[hw6];exact H5.o.2.2
     clear hw6 d5 z5 y3 H5;have hgpl:gp<w.heap.size:=(Lb HM.o.prs.own gp rfl).2;have HPUT:Ma (∀v0 v1 v2 v3 v4 v5 v6 v7,bj p B (dG w6 w.heap.size v0 v1 v2 v3 v4 v5 v6 v7) mb ob R g dv (.slice (some ⟨gp,0,none⟩) n pc) us ms (qs.take k++qs.drop (k+1))/\Below B w (dG w6 w.heap.size v0 v1 v2 v3 v4 v5 v6 v7)/\ba w (dG w6 w.heap.size v0 v1 v2 v3 v4 v5 v6 v7)):=λv0 v1 v2 v3 v4 v5 v6 v7=>by
      obtain⟨h1,h2,h3,h4,h5⟩:=H6.o;have hp:=xQ h4 v0 v1 v2 v3 v4 v5 v6 v7;have hf:ai (λj=>j=w.heap.size) w6 (dG w6 w.heap.size v0 v1 v2 v3 v4 v5 v6 v7):=hp.2;refine⟨h1.frmS hf (λj hj=>by rw[hj];exact DO h4 DP) (λj hj=>by rw[hj];exact⟨bp h4 rfl (by decide),bp h4 rfl (by decide),bp h4 rfl (by decide)⟩) (λj hj e=>?_),h2.trans (hf.to_below (Lk hB h2.size) λx e=>?_),h3.trans (ba.of_frm hf (λj hj=>by rw[hj];exact bp h4 rfl (by decide)) (λj hj=>by rw[hj];exact bp h4 rfl (by decide)) (λj hj=>by rw[hj];exact bp h4 rfl (by decide)))⟩
      .simp only[Value.ownBlock,LA] at hj;omega
      .omega
     have z0:=La H6.o.2.2.2.1;have z8:=K8 H6.o.2.2.2.1;have x0:w6.cell? ⟨w.heap.size,0,none⟩=some (.pointer none):=z0 0 (by omega);have x1:w6.cell? ⟨w.heap.size,1,none⟩=some (.pointer none):=z0 1 (by omega);have x2:w6.cell? ⟨w.heap.size,2,none⟩=some (.int .u16 0):=z0 2 (by omega);have x3:w6.cell? ⟨w.heap.size,3,none⟩=some (.int .u16 0):=z0 3 (by omega);have x4:w6.cell? ⟨w.heap.size,4,none⟩=some (.int .u16 0):=z0 4 (by omega);have x5:w6.cell? ⟨w.heap.size,5,none⟩=some (.int .u16 0):=z0 5 (by omega);have x6:w6.cell? ⟨w.heap.size,6,none⟩=some (.int .i64 0):=z0 6 (by omega);have x7:w6.cell? ⟨w.heap.size,7,none⟩=some (.int .i64 0):=z0 7 (by omega);have v0:=z8 0;have v1:=z8 1;have v2:=z8 2;have v3:=z8 3;have v4:=z8 4;have v5:=z8 5;have v6:=z8 6;have v7:=z8 7;clear b0 b1 b2 b3 b4 b5 b6 b7;obtain⟨b0,b1,b2,b3,b4,b5,b6,b7⟩:=H6.o.2.2.2.2.at;simp only[Ly] at b0 b1 b2 b3 b4 b5 b6 b7;clear z0 z8;unfold dG at HPUT;go_wp2;refine Lm (v:=.tuple #[d8 qk,.bool true]) (by simp[results,Tryz.results87,go_sem,d8,x0,x1,x2,x3,x4,x5,x6,x7]) rfl (L3 ⟨k,hk,by rw[HQK.o],by rw[HQK.o];omega,by rw[HQK.o];exact HALL.o,_,HPUT.o _ _ _ _ _ _ _ _⟩)
end Go.Proofs.YteimdcndjjclnaaGreat
