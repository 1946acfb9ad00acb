/- A vector whose terms are of one degree is filled up by nothing. -/
import Derived.Test.YtglijodcbdcngaaGreatKR
import Derived.Test.YtglijodcbdcngaaGreatKV
import Derived.Deep.RegionLaw
set_option maxHeartbeats 4000000
set_option maxRecDepth 100000
namespace Go.Proofs.YtglijodcbdcngaaGreat
set_option linter.unusedSimpArgs false
set_option linter.unusedVariables false
open Go.Proofs.Tryz Go.RowKit Go.Sort
theorem qg{w:World}{b j:Nat}{v:Value}(h:w.cell? ⟨b,j,none⟩=some v):w.setCell ⟨b,j,none⟩ v=w:=by
 have hlt:=Hr w ⟨b,j,none⟩ h;simp only at hlt;have hh:w.heap.modify b (fun| .cells c elem frozen=>.cells (if (none:Option Nat).isSome then c else c.setIfInBounds j v) elem frozen|o=>o)=w.heap:=by
  apply Array.ext
  ·simp
  ·intro i h1 h2;rw[Array.getElem_modify];split
   ·rename_i e;subst e;unfold World.cell? at h;rw[Array.getElem?_eq_getElem h2] at h;cases ho:w.heap[b] with
    |cells c el fr=>
     rw[ho] at h;simp only[Option.isSome_none,Bool.false_eq_true,if_false];congr 1;apply Array.ext
     ·simp
     ·intro k k1 k2;rw[Array.getElem_setIfInBounds];split
      ·rename_i e2;subst e2;simp at h;rw[Array.getElem?_eq_getElem k2] at h;simpa using h.symm
      ·rfl
    |_=>rfl
   ·rfl
 have e:w.setCell ⟨b,j,none⟩ v={w with heap:=w.heap.modify b (fun| .cells c elem frozen=>.cells (if (none:Option Nat).isSome then c else c.setIfInBounds j v) elem frozen|o=>o)}:=rfl;rw[e,hh]
def dF(m:Nat)(D:Int):Int:=if m=0 then 0 else D
structure nV(R:Nat)(dg:Nat->Int)(D:Int)(x:Ft):Prop where
 a:0<=x.a/\x.a<=30000
 b:0<=x.b/\x.b<=30000
 d:0<=x.d/\x.d<=30000
 z:x.z=0
 pl:0<=x.pl/\x.pl<R
 dg:x.a+x.b+x.d+dg x.pl.toNat=D
theorem AW(mb R g cap:Nat)(dv:Value)(dg:Nat->Int)(D:Int)(fs:List Ft)(w:World)(hm:w.cell? ⟨mb,1,none⟩=some dv)(hdg:fI w dv R dg)(hR:R<=255)(hD:0<=D/\D<=100000)(hd:∀pl,pl<R->0<=dg pl/\dg pl<=100000)(hf:∀x∈fs,nV R dg D x)(hl:fs.length<=1000)(B:Nat)(hv:w.ownsRow B 144 7 (.slice (some ⟨g,0,none⟩) fs.length cap) fs.length (aD fs)):Calls prog 241 #[.pointer (some ⟨mb,0,none⟩),.slice (some ⟨g,0,none⟩) fs.length cap] w λe w'=>e=.returned (.tuple #[])/\Below w.heap.size w w':=by
 have HM:=aa hm;have HDG:=aa hdg;have HDB:=aa hd;have HF:=aa hf;have HV:=aa hv;have HFV:=aa (fH hv);obtain⟨db,doff,dc,rfl,_⟩:=hdg;obtain⟨hD0,hD1⟩:=hD;have HEX:=aa (fun(W:World)(x:Ft)(h:nV R dg D x)=>ud x.a x.b x.d x.z W (by have:=h.a;omega) (by have:=h.b;omega) (by have:=h.d;omega) (by have:=h.z;omega));have STEP:Ic (∀(W:World)(m:Nat),Below w.heap.size w W->m<fs.length->∃x:Ft,nV R dg D x/\cC W g (0+m*7) x/\W.frozen? ⟨g,0+m*7+4,none⟩=false/\∃n:Nat,x.pl=n/\n<R/\W.cell? ⟨db,doff+n,none⟩=some (.int .i64 (dg n))/\0<=dg n/\dg n<=100000/\x.a+x.b+x.d+dg n=D):=λW m hb hm=>by
  obtain⟨b,off,e,_,_,hft⟩:=(HFV.o.below hb).at m hm;simp only[H6,Addr.mk.injEq,and_true] at e;obtain⟨rfl,rfl⟩:=e;have hmem:fs.getD m dC∈fs:=by rw[Hs,Ht hm];exact Hp hm
  have hx:=HF.o _ hmem;refine⟨_,hx,hft,Hb (aH HV.o hb) _,(fs.getD m dC).pl.toNat,by have:=hx.pl;omega,by have:=hx.pl;omega,?_,?_,?_,hx.dg⟩
  ·obtain⟨b2,off2,c2,e2,h2⟩:=HDG.o.below hb;simp only[H7,H6,Addr.mk.injEq,and_true,true_and] at e2;obtain⟨⟨rfl,rfl⟩,_⟩:=e2;exact h2 _ (by have:=hx.pl;omega)
  ·exact(HDB.o _ (by have:=hx.pl;omega)).1
  ·exact(HDB.o _ (by have:=hx.pl;omega)).2
 unfold bR at HEX;clear hm hd hf hv;go_enter func241,ntmps241;go_wp2_with fail;go_loopw [4,11] (λd i wr=>∃m:Nat,m<=fs.length/\i=.int .i64 m/\d=.int .i64 (dF m D)/\Below w.heap.size w wr) (λ_ i _=>fs.length-(intOf i).toNat);case atStart=>exact⟨0,Hl _,rfl,rfl,Hf _ _⟩
 case round=>
  obtain⟨m,hm,rfl,rfl,hbr⟩:=hrel;have HBR:=aa hbr;clear hbr;by_cases hm2:m<fs.length
  ·obtain⟨x,hx,hft,_,n,hpl,hnR,hcd,hg0,hg1,hsum⟩:=STEP.o wr m HBR.o hm2;have HX:=aa hx;obtain⟨f0,f1,f2,f3,f4,f5,f6⟩:=hft;simp only[Hy] at f0 f1 f2 f3 f4 f5 f6;rw[hx.z] at f4;rw[hpl] at f5;generalize hdf:dF m D=df at*;have HDF:=aa hdf;clear hdf;have HEX2:=aa (λW=>HEX.o W x HX.o);rw[hx.z,Int.add_zero] at HEX2;have z1:=ae HM.o HBR.o;have hxa:=hx.a;have hxb:=hx.b;have hxd:=hx.d;have hmI:(m:Int)<(fs.length:Int):=by omega
   have hnI:(n:Int)<(R:Int):=by omega
   have HMX:Ic (max df (x.a+x.b+x.d+dg n)=dF (m+1) D):=by show _=_;rw[hsum,<-HDF.o];unfold dF;rw[if_neg (show¬m+1=0 by omega)];split<;>omega
   have hwr:IntKind.i64.wrap (x.a+x.b+x.d+dg n)=x.a+x.b+x.d+dg n:=by rw[IntKind.wrap_i64];omega
   have HSUM:=aa hsum;clear hx hsum;go_upto_region 4 with fail;obtain⟨w2,hw2⟩:∃w2,w2=wr.alloc (.cells #[.int .i64 x.k,.int .u16 x.a,.int .u16 x.b,.int .u16 x.d,.int .u16 0,.int .u8 n,.int .u8 x.c] 144):=⟨_,rfl⟩;have HB2:Ic (Below wr.heap.size wr w2):=by rw[hw2];exact af
   have FX:Ic (cC w2 wr.heap.size 0 {x with z:=0,pl:=n}):=by rw[hw2];exact(show Bx wr.heap.size _ wr.heap.size {x with z:=0,pl:=(n:Int)} from cS (He _) _).at
   obtain⟨x0,x1,x2,x3,x4,x5,x6⟩:=FX.o;simp only[Hy] at x0 x1 x2 x3 x4 x5 x6;have y0:=ae hcd HB2.o;have y1:=ae z1 HB2.o;rw[<-hw2];clear hw2 f0 f1 f2 f3 f4 f5 f6 z1 hcd;have KEEP:Ic (∀W,Below w2.heap.size w2 W->(W.cell? ⟨wr.heap.size,1,none⟩=some (.int .u16 x.a)/\W.cell? ⟨wr.heap.size,2,none⟩=some (.int .u16 x.b)/\W.cell? ⟨wr.heap.size,3,none⟩=some (.int .u16 x.d)/\W.cell? ⟨wr.heap.size,4,none⟩=some (.int .u16 0)/\W.cell? ⟨wr.heap.size,5,none⟩=some (.int .u8 n)/\W.cell? ⟨db,doff+n,none⟩=some (.int .i64 (dg n))/\W.cell? ⟨mb,1,none⟩=some (.slice (some ⟨db,doff,none⟩) R dc))):=λW hb=>⟨ae x1 hb,ae x2 hb,ae x3 hb,ae x4 hb,ae x5 hb,ae y0 hb,ae y1 hb⟩;go_region_held (λW=>W.cell? ⟨wr.heap.size,1,none⟩=some (.int .u16 x.a)/\W.cell? ⟨wr.heap.size,2,none⟩=some (.int .u16 x.b)/\W.cell? ⟨wr.heap.size,3,none⟩=some (.int .u16 x.d)/\W.cell? ⟨wr.heap.size,4,none⟩=some (.int .u16 0)/\W.cell? ⟨wr.heap.size,5,none⟩=some (.int .u8 n)/\W.cell? ⟨db,doff+n,none⟩=some (.int .i64 (dg n))/\W.cell? ⟨mb,1,none⟩=some (.slice (some ⟨db,doff,none⟩) R dc))
    (first|with_reducible exact KEEP.o _ HB8.o|with_reducible exact KEEP.o _ (Hf _ _).drew)
    (first|(go_at_call 91;refine(HEX2.o _).mono ?_;rintro e w8 ⟨rfl,q1⟩;have HB8:=aa ((Hf w2.heap.size w2).drew.trans q1);clear q1))
   all_goals
    go_wp2;go_roundw;case rel=>exact⟨m+1,by omega,by go_num,by rw[<-HMX.o],HBR.o.trans ((HB2.o.trans (HB8.o.mono HB2.o.size)).mono HBR.o.size)⟩
    case measure=>simp[intOf];omega
  ·have e:m=fs.length:=by omega
   subst e;by_cases hfl:fs.length=0
   ·have hfn:fs=[]:=List.eq_nil_of_length_eq_zero hfl;generalize dF fs.length D=df at*;go_wp2;refine wp_loop_rounds 1 ?_;rw[rounds_succ];go_wp2;go_end0;exact⟨rfl,HBR.o⟩
   ·have HDL:Ic (dF fs.length D=D):=by show _=_;unfold dF;rw[if_neg hfl]
    rw[HDL.o];go_wp2_with fail;go_loopw [32] (λi wr=>∃m:Nat,m<=fs.length/\i=.int .i64 m/\Below w.heap.size w wr) (λi _=>fs.length-(intOf i).toNat);case atStart=>exact⟨0,Hl _,rfl,HBR.o⟩
    case round=>
     clear HBR;obtain⟨m,hm,rfl,hbr⟩:=hrel;rename World=>wq;have HBR:=aa hbr;clear hbr;by_cases hm2:m<fs.length
     ·obtain⟨x,hx,hft,hfz,n,hpl,hnR,hcd,hg0,hg1,hsum⟩:=STEP.o wq m HBR.o hm2;have HX:=aa hx;obtain⟨f0,f1,f2,f3,f4,f5,f6⟩:=hft;simp only[Hy] at f0 f1 f2 f3 f4 f5 f6 hfz;rw[hx.z] at f4;rw[hpl] at f5;have HEX2:=aa (λW=>HEX.o W x HX.o);rw[hx.z,Int.add_zero] at HEX2;have z1:=ae HM.o HBR.o;have hxa:=hx.a;have hxb:=hx.b;have hxd:=hx.d;have hmI:(m:Int)<(fs.length:Int):=by omega
      have hnI:(n:Int)<(R:Int):=by omega
      have hw1:IntKind.i64.wrap (D-(x.a+x.b+x.d))=D-(x.a+x.b+x.d):=by rw[IntKind.wrap_i64];omega
      have hw2:IntKind.i64.wrap (D-(x.a+x.b+x.d)-dg n)=0:=by rw[IntKind.wrap_i64];omega
      have hw3:IntKind.u16.wrap 0=0:=by decide
      have HSUM:=aa hsum;clear hx hsum;go_upto_region 9 with fail;obtain⟨w2,hw2⟩:∃w2,w2=wq.alloc (.cells #[.int .i64 x.k,.int .u16 x.a,.int .u16 x.b,.int .u16 x.d,.int .u16 0,.int .u8 n,.int .u8 x.c] 144):=⟨_,rfl⟩;have HB2:Ic (Below wq.heap.size wq w2):=by rw[hw2];exact af
      have FX:Ic (cC w2 wq.heap.size 0 {x with z:=0,pl:=n}):=by rw[hw2];exact(show Bx wq.heap.size _ wq.heap.size {x with z:=0,pl:=(n:Int)} from cS (He _) _).at
      obtain⟨x0,x1,x2,x3,x4,x5,x6⟩:=FX.o;simp only[Hy] at x0 x1 x2 x3 x4 x5 x6;have y0:=ae hcd HB2.o;have y1:=ae z1 HB2.o;have y2:=ae f4 HB2.o;have hglt:=Hr wq _ f4;have HG2:Ic (g<w2.heap.size):=by have:=HB2.o.size;simp only at hglt;show _<_;omega
      have y3:w2.frozen? ⟨g,m*7+4,none⟩=false:=(HB2.o.frozen hglt).trans hfz;rw[<-hw2];clear hw2 f0 f1 f2 f3 f4 f5 f6 z1 hcd hfz;have KEEP:Ic (∀W,Below w2.heap.size w2 W->(W.cell? ⟨wq.heap.size,1,none⟩=some (.int .u16 x.a)/\W.cell? ⟨wq.heap.size,2,none⟩=some (.int .u16 x.b)/\W.cell? ⟨wq.heap.size,3,none⟩=some (.int .u16 x.d)/\W.cell? ⟨wq.heap.size,4,none⟩=some (.int .u16 0)/\W.cell? ⟨wq.heap.size,5,none⟩=some (.int .u8 n)/\W.cell? ⟨db,doff+n,none⟩=some (.int .i64 (dg n))/\W.cell? ⟨mb,1,none⟩=some (.slice (some ⟨db,doff,none⟩) R dc)/\W.cell? ⟨g,m*7+4,none⟩=some (.int .u16 0)/\W.frozen? ⟨g,m*7+4,none⟩=false)):=λW hb=>⟨ae x1 hb,ae x2 hb,ae x3 hb,ae x4 hb,ae x5 hb,ae y0 hb,ae y1 hb,ae y2 hb,(hb.frozen HG2.o).trans y3⟩;go_region_held (λW=>W.cell? ⟨wq.heap.size,1,none⟩=some (.int .u16 x.a)/\W.cell? ⟨wq.heap.size,2,none⟩=some (.int .u16 x.b)/\W.cell? ⟨wq.heap.size,3,none⟩=some (.int .u16 x.d)/\W.cell? ⟨wq.heap.size,4,none⟩=some (.int .u16 0)/\W.cell? ⟨wq.heap.size,5,none⟩=some (.int .u8 n)/\W.cell? ⟨db,doff+n,none⟩=some (.int .i64 (dg n))/\W.cell? ⟨mb,1,none⟩=some (.slice (some ⟨db,doff,none⟩) R dc)/\W.cell? ⟨g,m*7+4,none⟩=some (.int .u16 0)/\W.frozen? ⟨g,m*7+4,none⟩=false)
       (first|with_reducible exact KEEP.o _ HB8.o|with_reducible exact KEEP.o _ (Hf _ _).drew|(rw[qg (KEEP.o _ HB8.o).2.2.2.2.2.2.2.1];with_reducible exact KEEP.o _ HB8.o))
       (first|(go_at_call 91;refine(HEX2.o _).mono ?_;rintro e w8 ⟨rfl,q1⟩;have HB8:=aa ((Hf w2.heap.size w2).drew.trans q1);clear q1))
      all_goals
       go_wp2;go_roundw;case rel=>exact⟨m+1,by omega,by go_num,by rw[qg (KEEP.o _ HB8.o).2.2.2.2.2.2.2.1];exact HBR.o.trans ((HB2.o.trans (HB8.o.mono HB2.o.size)).mono HBR.o.size)⟩
       case measure=>simp[intOf];omega
     ·go_wp2;go_end0;exact⟨rfl,HBR.o⟩
theorem AX(p:Int)(B:Nat)(x:Mm)(w:World)(hm:bN p B w x)(hl:x.r.length<=1000)(hr0:0<x.r.length):Calls prog 271 #[.pointer (some ⟨x.blk,0,none⟩)] w λe w'=>∃u,e=.returned u/\w'.ownsRow w.heap.size 144 7 u (x.L::x.r).length (aD (x.L::x.r))/\Below w.heap.size w w':=by
 have HM:=aa hm.mbr;obtain⟨d0,d1,d2,d3,d4,d5,d6⟩:=HM.o.div.cells;simp only[Hy] at d0 d1 d2 d3 d4 d5 d6;have d7:=HM.o.div.c7;simp only[Hy] at d7;obtain⟨ra,rc,hrv,_,hrr⟩:=HM.o.rest;obtain⟨rb,roff,hra,hrl,hrcs⟩:=hrr hr0;subst hra;rw[hrv] at d7;have HNEW:Ic (∀W,Below w.heap.size w W->∀j u,(aD x.r)[j]?=some u->W.cell? ((⟨rb,roff,none⟩:Addr).add j)=some u):=λW hb j u hj=>by
  have h:=ae (hrcs j u hj) hb;by_cases hj0:j=0
  ·subst hj0;simpa [Addr.add] using h
  ·simpa [Addr.add,hj0] using h
 obtain⟨i0,hi,hz0,hz1,hz2⟩:=info_parts Tryz.infoFt;have HI:=aa (Hg hi (Hg hz0 (Hg hz1 hz2)));have hblt:=HM.o.div.lt;clear hi hz0 hz1 hz2 hrr hrcs hrv hm;have HLC:Ic ((x.L::x.r).length=1+x.r.length/\aD (x.L::x.r)=aA x.L++aD x.r):=⟨by simp;omega,rfl⟩;go_enter func271,ntmps271;go_wp2_with fail;go_region_law (first|(refine gr rfl (.tmp 8) (.tmp 13) 93 rfl w.heap.size 144 i0 _ 7 24 underlying93 HI.o.1 HI.o.2.1 HI.o.2.2.1 HI.o.2.2.2 rfl (by decide) (.slice (some ⟨w.heap.size,0,none⟩) 1 1) 1 (aA x.L) (by simp[Act.eval,Act.put]) (cS (w:=w) (He _) x.L) ⟨rb,roff,none⟩ x.r.length rc (aD x.r) (by simp[Act.eval,Act.put]) (eG x.r) (HNEW.o _ af) (nW x.r) (by unfold maxLen;omega) (by omega) (by simp) ?_;intro v5 w5 r1 r2 r3;obtain⟨va5,vc5,hv5⟩:=a7 r1;subst hv5;have R1:=aa r1;have R2:=aa r2;clear r1 r2 r3)|(refine gr rfl (.tmp 8) (.tmp 13) 93 rfl w.heap.size 144 i0 _ 7 24 underlying93 HI.o.1 HI.o.2.1 HI.o.2.2.1 HI.o.2.2.2 rfl (by decide) (.slice (some ⟨w.heap.size,0,none⟩) 1 1) 1 (aA x.L) (by simp[Act.eval,Act.put]) (cS (w:=w.drew) (He _) x.L) ⟨rb,roff,none⟩ x.r.length rc (aD x.r) (by simp[Act.eval,Act.put]) (eG x.r) (HNEW.o _ ((Hf _ _).drew.alloc (He _) _)) (nW x.r) (by unfold maxLen;omega) (by omega) (by simp) ?_;intro v5 w5 r1 r2 r3;obtain⟨va5,vc5,hv5⟩:=a7 r1;subst hv5;have R1:=aa r1;have R2:=aa r2;clear r1 r2 r3)|(refine gr rfl (.tmp 8) (.tmp 13) 93 rfl w.heap.size 144 i0 _ 7 24 underlying93 HI.o.1 HI.o.2.1 HI.o.2.2.1 HI.o.2.2.2 rfl (by decide) (.slice (some ⟨w.heap.size,0,none⟩) 1 1) 1 (aA x.L) (by simp[Act.eval,Act.put]) (aH (cS (w:=w) (He _) x.L) (Hf _ _).drew) ⟨rb,roff,none⟩ x.r.length rc (aD x.r) (by simp[Act.eval,Act.put]) (eG x.r) (HNEW.o _ af.drew) (nW x.r) (by unfold maxLen;omega) (by omega) (by simp) ?_;intro v5 w5 r1 r2 r3;obtain⟨va5,vc5,hv5⟩:=a7 r1;subst hv5;have R1:=aa r1;have R2:=aa r2;clear r1 r2 r3));all_goals
  go_wp2;go_ret;refine⟨.slice va5 (1+x.r.length) vc5,by rfl,by rw[Nat.add_comm x.r.length 1,HLC.o.2];exact R1.o,?_⟩;first
  |exact bU (cS (w:=w) (He _) x.L) af R2.o (He _)
  |exact bU (cS (w:=w.drew) (He _) x.L) ((Hf _ _).drew.alloc (He _) _) R2.o (He _)
  |exact bU (aH (cS (w:=w) (He _) x.L) (Hf _ _).drew) af.drew R2.o (He _)
theorem Tryz.infoPmB:(prog.info? 102).map (λi=>(i.zero,i.size,i.bytes))=some (some (.pointer none),1,8):=by kernel_rfl
theorem AY(w:World):Calls prog 223 #[.slice none 0 0,.int .i64 1] w λe w'=>∃g cap,e=.returned (.slice (some ⟨g,0,none⟩) 0 cap)/\w'.ownsRow w.heap.size 102 1 (.slice (some ⟨g,0,none⟩) 0 cap) 0 []/\Below w.heap.size w w':=by
 go_enter func223,ntmps223;go_wp2;obtain⟨C,hC⟩:∃C,C=(Question.appendCap 1 0 102).cut (w.tape w.drawn (Question.appendCap 1 0 102)):=⟨_,rfl⟩;have hC1:1<=C/\C<=maxLen:=by rw[hC];simp only[Question.cut];unfold maxLen;have:=Nat.mod_lt (w.tape w.drawn (Question.appendCap 1 0 102)) (show 0<2 ^ 63-1 by decide);omega
 rw[<-hC];go_ret;refine⟨w.heap.size,C,rfl,⟨by simp,.inr ⟨w.heap.size,C,Builtin.zeroCells #[.pointer none] 1++Builtin.zeroCells #[.pointer none] (C-1),rfl,He _,heap_alloc_new w _,Hl _,hC1.2,by simp[Builtin.zeroCells];omega,by simp⟩⟩,af.drew⟩
theorem ug{P:Program}{w:World}{ops:Array Oper}{rest:List Oper}{o:Oper}{a:Act}{Q:Exit->Act->World->Prop}(hgd:o.guard=none)(s x:Operand)(t:TypeId)(ho:o.op=.call {callee:=.builtin .append,args:=#[s,x],argTypes:=#[t,t]})(base:Nat)(e:TypeId)(zz:Value)(size bytes:Nat)(ht:P.underlying t=some (.slice e))(hi:(P.info? e).map (λi=>(i.zero,i.size,i.bytes))=some (some zz,size,bytes))(v:Value)(n:Nat)(xs:List Value)(hs:a.eval s=v)(hown:w.ownsRow base e size v n xs)(ad:Option Addr)(c:Nat)(hx:a.eval x=.slice ad 0 c)(hK:wpList P ops Q rest (a.put o.dst v) w):wpList P ops Q (o::rest) a w:=by refine wpList_plain hgd λK hK'=>?_;obtain⟨i,hi0,hz0,hz1,hz2⟩:=info_parts hi;have hr:=uh (P:=P) w base t o.type e i size ht hi0 v n c ad xs hown;unfold Oper.wp execOp;simp only[ho,resolve,invoke,builtin,Sem.run_bind,Sem.run_pure,Result.andThen_ok,List.map_toArray,List.map_cons,List.map_nil,hs,hx,hr];exact hK' _ _ hK
theorem AZ(g rb x:Nat)(a1:Option Addr)(rc c1:Nat)(w:World)(h0:w.cell? ⟨g,0,none⟩=some (.slice (some ⟨rb,0,none⟩) 1 rc))(h1:w.cell? ⟨g,1,none⟩=some (.slice a1 0 c1))(hr:w.cell? ⟨rb,0,none⟩=some (.pointer (some ⟨x,0,none⟩))):Calls prog 189 #[.slice (some ⟨g,0,none⟩) 2 2] w λe w'=>∃b cap,e=.returned (.slice (some ⟨b,0,none⟩) 1 cap)/\w'.cell? ⟨b,0,none⟩=some (.pointer (some ⟨x,0,none⟩))/\Below w.heap.size w w':=by have HG:=aa (AY w);have hgl:=Hr w _ h0;simp only at hgl;go_enter func189,ntmps189;go_wp2_with fail;refine wp_loop_rounds 3 ?_;rw[rounds_succ];go_wp2_with fail;rw[rounds_succ];go_wp2_with fail;rw[rounds_succ];go_wp2_with (go_at_call 223;refine HG.o.mono ?_;rintro e w1 ⟨gb,gc,rfl,q1,q2⟩;have HO1:=aa q1;have HB1:=aa q2;have k0:=ae h0 q2;have k1:=ae h1 q2;have k2:=ae hr q2;clear q1 q2);refine wp_loop_rounds 3 ?_;rw[rounds_succ];go_wp2_with (at_builtin;refine nX rfl (.tmp 31) (.tmp 32) 150 rfl w.heap.size 102 _ 1 8 underlying150 Tryz.infoPmB rfl (by decide) (.slice (some ⟨gb,0,none⟩) 0 gc) 0 [] rfl HO1.o ⟨rb,0,none⟩ 1 rc [.pointer (some ⟨x,0,none⟩)] rfl rfl (λj u hj=>by have hj0:j=0:=(by apply Nat.eq_zero_of_not_pos;intro h;rw[Hu (by simp;omega)] at hj;simp at hj);subst hj0;simp at hj;subst hj;exact k2) (λu hu=>by simp at hu;subst hu;rfl) (by unfold maxLen;omega) (by omega) HB1.o.size ?_;intro v2 w2 r1 r2;simp only[Hy,List.nil_append] at r1;have HO2:=aa r1;have HB2:=aa (bU HO1.o HB1.o r2 (He _));obtain⟨va2,vc2,hv2⟩:=a7 r1;subst hv2;have m1:=ae h1 HB2.o;clear r1 r2);rw[rounds_succ];go_wp2_with (at_builtin;refine ug rfl (.tmp 31) (.tmp 32) 150 rfl w.heap.size 102 _ 1 8 underlying150 Tryz.infoPmB _ 1 _ rfl HO2.o a1 c1 rfl ?_);rw[rounds_succ];go_wp2;go_ret;obtain⟨b,cap,e,_,_,_⟩:=il HO2.o (by simp);refine⟨b,cap,by rw[<-e];rfl,?_,HB2.o⟩;rw[e] at HO2;exact Hc HO2.o 0 (by omega)
theorem A0(p:Int)(B:Nat)(mb g rb:Nat)(a1:Option Addr)(rc c1:Nat)(x:Mm)(w:World)(hmb:w.cell? ⟨mb,2,none⟩=some (.slice (some ⟨g,0,none⟩) 2 2))(h0:w.cell? ⟨g,0,none⟩=some (.slice (some ⟨rb,0,none⟩) 1 rc))(h1:w.cell? ⟨g,1,none⟩=some (.slice a1 0 c1))(hr:w.cell? ⟨rb,0,none⟩=some (.pointer (some ⟨x.blk,0,none⟩)))(hm:bN p B w x)(hg:x.gone=false)(hl:x.r.length<=1000)(hr0:0<x.r.length)(hz:∀u∈x.L::x.r,u.z=0):Calls prog 242 #[.pointer (some ⟨mb,0,none⟩)] w λe w'=>∃b c u,e=.returned (.slice (some ⟨b,0,none⟩) 1 c)/\w'.cell? ⟨b,0,none⟩=some u/\w'.ownsRow w.heap.size 93 1 (.slice (some ⟨b,0,none⟩) 1 c) 1 [u]/\Fv w' u (x.L::x.r)/\Below w.heap.size w w':=by
 have HCC:=aa (AZ g rb x.blk a1 rc c1 w h0 h1 hr);have HM:Ic (∀W,Below w.heap.size w W->bN p B W x):=λW hb=>hm.next hb;have HZ:=aa hz;have HAL:Ic (∀W,Below w.heap.size w W->Calls prog 271 #[.pointer (some ⟨x.blk,0,none⟩)] W λe w'=>∃u,e=.returned u/\w'.ownsRow W.heap.size 144 7 u (x.L::x.r).length (aD (x.L::x.r))/\Below W.heap.size W w'):=λW hb=>AX p B x W (hm.next hb) hl hr0;obtain⟨fs,hfs⟩:∃fs,fs=x.L::x.r:=⟨_,rfl⟩;have HLF:Ic (fs.length=x.r.length+1/\fs.length<=1001):=by show _/\_;rw[hfs];simp;omega
 have hfl:fs.length<=1001:=HLF.o.2;rw[<-hfs] at HAL HZ;rw[<-hfs];clear hm h0 h1 hr hz;clear hfs;go_enter func242,ntmps242;go_wp2_with (go_at_call 189;refine HCC.o.mono ?_;rintro e w1 ⟨cb,cc,rfl,q1,q2⟩;have HC1:=aa q1;have HB1:=aa q2;clear q1 q2);refine wp_loop_rounds 2 ?_;rw[rounds_succ];have k0:=HC1.o;have k1:=(HM.o w1 HB1.o).mbr.gone;rw[hg] at k1;go_wp2_with (go_at_call 271;refine(HAL.o _ HB1.o).mono ?_;rintro e w2 ⟨u2,rfl,q1,q2⟩;have HO2:=aa q1;have HB2:=aa (HB1.o.trans (q2.mono HB1.o.size));obtain⟨ub,uc,hu2,hub,_,_⟩:=il q1 (by rw[eG];have:=HLF.o;omega);subst hu2;clear q1 q2);go_loopw [27] (λi wr=>∃m:Nat,m<=fs.length/\i=.int .i64 m/\Below w2.heap.size w2 wr) (λi _=>fs.length-(intOf i).toNat);case atStart=>exact⟨0,Hl _,rfl,Hf _ _⟩
 case round=>
  obtain⟨m,hm,rfl,hbr⟩:=hrel;have HBR:=aa hbr;clear hbr;by_cases hm2:m<fs.length
  ·obtain⟨b,off,e,_,_,hft⟩:=((fH HO2.o).below HBR.o).at m hm2;simp only[H6,Addr.mk.injEq,and_true] at e;obtain⟨rfl,rfl⟩:=e;have hmem:fs.getD m dC∈fs:=by rw[Hs,Ht hm2];exact Hp hm2
   have hz0:=HZ.o _ hmem;have hfz:=Hb (aH HO2.o HBR.o) (m*7+4);generalize fs.getD m dC=t at hft hz0;obtain⟨f0,f1,f2,f3,f4,f5,f6⟩:=hft;rw[hz0] at f4;simp only[Hy] at f0 f1 f2 f3 f4 f5 f6;have hmI:(m:Int)<(fs.length:Int):=by omega
   have HF4:Ic (wr.cell? ⟨ub,m*7+1+3,none⟩=some (.int .u16 0)):=f4;have HM2:Ic (m+1<=fs.length):=hm2;clear hmem;go_wp2;go_roundw;case rel=>exact⟨m+1,HM2.o,by go_num,by rw[qg HF4.o];exact HBR.o.alloc HBR.o.size _⟩
   case measure=>have:=HM2.o;simp[intOf];omega
  ·have HO3:=aa (aH HO2.o HBR.o);have HB3:=aa (HB2.o.trans (HBR.o.mono HB2.o.size));have HF3:=aa (fH HO3.o);go_wp2_with (at_builtin;refine jR rfl (.tmp 38) (.tmp 40) 171 rfl 93 _ 24 underlying171 Tryz.infoFvL rfl (by decide) rfl ⟨wr.heap.size,0,none⟩ 1 _ rfl (by simp[go_sem];rfl) rfl ?_;intro b c w10 q1 q2 q3 q4;have HC10:=aa q2;have HO10:=aa q3;have HF10:=aa ((HF3.o.below af).below q4);have HB10:=aa (HB3.o.trans ((af.trans (q4.mono (by simp))).mono HB3.o.size));have HLE:=aa (HB3.o.size);clear q1 q2 q3 q4);rw[rounds_succ];go_wp2;go_ret;exact⟨b,c,_,rfl,HC10.o,tP HO10.o (by have:=HLE.o;simp;omega),HF10.o,HB10.o⟩
end Go.Proofs.YtglijodcbdcngaaGreat
