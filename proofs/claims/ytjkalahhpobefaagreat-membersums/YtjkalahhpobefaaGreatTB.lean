/- Rows of members put. -/
import Derived.Lib.AppendZeros
import Derived.Test.YtjkalahhpobefaaGreatTA
import Derived.Test.YtjkalahhpobefaaGreatDN
import Derived.Test.YtjkalahhpobefaaGreatHK
set_option maxHeartbeats 4000000
set_option maxRecDepth 100000
namespace Go.Proofs.YtjkalahhpobefaaGreat
set_option linter.all false
open Go.Proofs.Tryz Go.RowKit Go.Sort
theorem Mc{P:Program}{w:PJ}{ops:Array Oper}{rest:List Oper}{o:Oper}{a:Act}{Q:Exit->Act->PJ->Prop}(hgd:o.guard=none)(s x:Operand)(t:TypeId)(ho:o.op=.call {callee:=.builtin .append,args:=#[s,x],argTypes:=#[t,t]})(base:Nat)(e:TypeId)(zz:PK)(size bytes:Nat)(ht:P.underlying t=some (.slice e))(hi:(P.info? e).map (λi=>(i.zero,i.size,i.bytes))=some (some zz,size,bytes))(hzs:zz.cells.size=size)(hsz:0<size)(v:PK)(n:Nat)(xs:PH)(hs:a.eval s=v)(hown:w.ownsRow base e size v n xs)(ad:Option Addr)(m c:Nat)(news:PH)(hl:news.length=m*size)(hx:a.eval x=.slice ad m c)(hnew:0<m->∃ad',ad=some ad'/\∀j u,news[j]?=some u->w.cell? (ad'.add j)=some u)(h1:∀u∈news,u.oneCell'=true)(h63:n+m<=maxLen)(hbytes:(n+m)*bytes<=140737488355328)(hbase:base<=w.heap.size)(hK:∀v' w',w'.ownsRow base e size v' (n+m) (xs++news)->w.grownBy w' v.ownBlock->wpList P ops Q rest (a.put o.dst v') w'):wpList P ops Q (o::rest) a w:=by
 by_cases hm:m=0
 .subst hm;have hn:news=[]:=List.eq_nil_of_length_eq_zero (by simpa using hl);subst hn;refine wpList_plain hgd λK hK'=>?_;obtain⟨i,hi0,hz0,hz1,hz2⟩:=info_parts hi;have hr:=rL (P:=P) w base t o.type e i size ht hi0 v n c ad xs hown;unfold Oper.wp execOp;simp only[ho,resolve,invoke,builtin,Sem.run_bind,Sem.run_pure,Result.andThen_ok,List.map_toArray,List.map_cons,List.map_nil,hs,hx,hr];exact hK' _ _ (hK v w (by simpa using hown) ⟨rfl,rfl,rfl,Ou _,λ_ _ _=>rfl⟩)
 .obtain⟨ad',rfl,hc⟩:=hnew (by omega);exact AR hgd s x t ho base e zz size bytes ht hi hzs hsz v n xs hs hown ad' m c news hl hx hc h1 h63 hbytes hbase hK
theorem Md(n:Nat)(hn:n<=2100000)(w:PJ):Calls prog 223 #[.slice none 0 0,PO n] w λe w'=>∃a c,e=.returned (.slice a 0 c)/\w'.ownsRow w.heap.size 81 1 (.slice a 0 c) 0 []/\Io w w':=by
 by_cases hn0:n=0
 .subst hn0;go_enter func223,ntmps223;go_wp2;go_ret;exact⟨_,_,rfl,World.ownsRow_nil _ _ _ _,Ov _ _⟩
 .have hnI:(0:Int)<n:=by omega
  have hnN:0<n:=by omega
  have hnI2:¬(n:Int)<0:=by omega
  obtain⟨i0,hi0,hz0,hz1,hz2⟩:=info_parts Tryz.infoPm;have hr:=Go.Lib.run_append_nil_zeros (P:=prog) w 128 3 128 81 i0 _ .i64 .i64 underlying128 underlying3 hi0 hz0 n (by omega) (by omega) (by omega) (by rw[hz2];omega);obtain⟨C,hC⟩:∃C,C=grownCap w n 0 81:=⟨_,rfl⟩;have hC1:n<=C/\C<=maxLen:=by rw[hC];exact⟨grownCap_ge ..,grownCap_le_maxLen _ _ _ _ (by unfold maxLen;omega)⟩
  rw[<-hC] at hr;have hC0:0<=C:=OB _;clear hC;go_enter func223,ntmps223;go_wp2_with (at_builtin;refine Go.Lib.wpList_append_run _ rfl _ _ _ _ rfl _ _ rfl rfl _ _ hr ?_);go_ret;refine⟨_,_,rfl,⟨by simp,.inr ⟨w.heap.size,C,_,rfl,Ou _,heap_alloc_new w.drew _,OB _,hC1.2,?_,by simp⟩⟩,(Ov _ _).drew.alloc (Ou _) _⟩;simp[Builtin.zeroCells];omega
def bT(ms:PD):Nat->PD
 |0=>[]
 |k+1=>bT ms k++a8 ms k
theorem C1(x:Mm)(ms:PD):∀R:Nat,(bT (x::ms) R).length=(bT ms R).length+if 0<=x.L.pl/\x.L.pl<R then 1 else 0
 |0=>by
  have:¬(0<=x.L.pl/\x.L.pl<((0:Nat):Int)):=by omega
  rw[OV this];rfl
 |R+1=>by
  have ih:=C1 x ms R;have ea:(a8 (x::ms) R).length=(a8 ms R).length+if x.L.pl=(R:Int) then 1 else 0:=by
   unfold a8;by_cases h:x.L.pl=(R:Int)
   .rw[List.filter_cons_of_pos (by simpa using h),OW h];rfl
   .rw[List.filter_cons_of_neg (by simpa using h),OV h];rfl
  simp only[bT,OM,ih,ea];by_cases h:x.L.pl=(R:Int)
  .rw[OW h,OV (show¬(0<=x.L.pl/\x.L.pl<(R:Int)) by omega),OW (show 0<=x.L.pl/\x.L.pl<((R+1:Nat):Int) by omega)];omega
  .rw[OV h];by_cases h2:0<=x.L.pl/\x.L.pl<(R:Int)
   .rw[OW h2,OW (show 0<=x.L.pl/\x.L.pl<((R+1:Nat):Int) by omega)];omega
   .rw[OV h2,OV (show¬(0<=x.L.pl/\x.L.pl<((R+1:Nat):Int)) by omega)];omega
theorem sT:∀(ms:PD)(R:Nat),(bT ms R).length<=ms.length
 |[],R=>by
  have:bT [] R=[]:=by
   induction R with
   |zero=>rfl
   |succ R ih=>simp[bT,ih,a8]
  rw[this];exact Ou _
 |x::ms,R=>by rw[C1,OZ];have:=sT ms R;split<;>omega
theorem pZ{ms:PD}:∀{R:Nat}{x:Mm},x∈bT ms R->x∈ms
 |0,x,h=>by simp[bT] at h
 |R+1,x,h=>by
  simp only[bT,OK] at h;rcases h with h|h
  .exact pZ h
  .exact(O5.1 h).1
theorem Me(p:Int)(B:Nat)(w:PJ)(R g:Nat)(us:PH)(ms:PD)(h:eZ p B w R g us ms)(hR:R<=255)(hln:ms.length<=2100000):Calls prog 187 #[PM g R R] w λe w'=>∃a c,e=.returned (.slice a (bT ms R).length c)/\w'.ownsRow w.heap.size 81 1 (.slice a (bT ms R).length c) (bT ms R).length ((bT ms R).map ee)/\Io w w':=by
 have H:=ae h;have HLB:Po (∀k,k<=R->(bT ms k).length<=2100000):=λk _=>OA (sT ms k) hln;have HGR:=ae (Md (bT ms R).length (by have:=HLB.o R (Ou _);omega));clear h;go_enter func187,ntmps187;go_wp2_with fail;go_loopw [3,11] (λs3 s11 wr=>∃k:Nat,k<=R/\s11=PO k/\s3=PO (bT ms k).length/\wr=w) (λ_ s11 _=>R-(intOf s11).toNat);case atStart=>exact⟨0,OB _,rfl,rfl,rfl⟩
 case round=>
  rename PJ=>wr;obtain⟨k,hk,rfl,rfl,hw⟩:=hrel;subst hw;by_cases hk2:k<R
  .obtain⟨c0,_⟩:=H.o.at k hk2;obtain⟨ra,rc,hra⟩:=cE (H.o.row k hk2);rw[hra] at c0;have HL:Po ((bT ms (k+1)).length=(bT ms k).length+(a8 ms k).length):=by show _=_;simp[bT]
   have hb1:=HLB.o k hk;have hb2:=HLB.o (k+1) hk2;rw[HL.o] at hb2;generalize (a8 ms k).length=n1 at c0 HL hb2;generalize hn0:(bT ms k).length=n0 at HL hb1 hb2;have hnn:¬((n0:Int)+(n1:Int))<0:=by omega
   go_wp2;go_roundw;case rel=>exact⟨k+1,by omega,by go_num,by rw[HL.o];go_num,by simp⟩
   case measure=>simp[intOf];omega
  .have e:k=R:=by omega
   subst e;generalize hnK:(bT ms k).length=nK at HGR;have HNK:=ae hnK;clear hnK;go_wp2_with (go_at_call 223;refine(HGR.o _).mono ?_;rintro e w1 ⟨ga,gc,rfl,q1,q2⟩;have HO1:=ae q1;have HB1:=ae q2;clear q1 q2);go_loopw [6,27] (λs6 s27 w2=>∃(m:Nat)(a:Option Addr)(c:Nat),m<=k/\s27=PO m/\s6=.slice a (bT ms m).length c/\w2.ownsRow wr.heap.size 81 1 (.slice a (bT ms m).length c) (bT ms m).length ((bT ms m).map ee)/\Io wr w2) (λ_ s27 _=>k-(intOf s27).toNat);case atStart=>exact⟨0,ga,gc,OB _,rfl,rfl,HO1.o,HB1.o⟩
   case round=>
    rename PJ=>w2;obtain⟨m,a,c,hm,rfl,rfl,ho,hb⟩:=hrel;have HO:=ae ho;have HB:=ae hb;clear ho hb HO1 HB1;by_cases hm2:m<k
    .obtain⟨c0,_⟩:=H.o.at m hm2;have hrow:=H.o.row m hm2;obtain⟨ra,rc,hra⟩:=cE hrow;rw[hra] at c0 hrow;have d0:=af c0 HB.o;have HROW:=ae (aF hrow HB.o);have HL:Po ((bT ms (m+1)).length=(bT ms m).length+(a8 ms m).length):=by show _=_;simp[bT]
     have HMP:Po ((bT ms (m+1)).map ee=(bT ms m).map ee++(a8 ms m).map ee):=by show _=_;simp[bT]
     have hb2:=HLB.o (m+1) hm2;rw[HL.o] at hb2;have HNEW:Po (0<(a8 ms m).length->∃ad',ra=some ad'/\∀j u,((a8 ms m).map ee)[j]?=some u->w2.cell? (ad'.add j)=some u):=λhp=>by obtain⟨g2,cap2,e2,_,_,_⟩:=mu HROW.o (by simpa using hp);simp only[OQ,true_and] at e2;obtain⟨rfl,_⟩:=e2;exact⟨_,rfl,λj u hj=>HROW.o.cells (g:=g2) rfl j u hj⟩
     clear hrow c0;go_wp2_with (at_builtin;refine Mc rfl (.tmp 31) (.tmp 32) 128 rfl wr.heap.size 81 _ 1 8 underlying128 Tryz.infoPm rfl (by decide) _ (bT ms m).length _ rfl HO.o ra (a8 ms m).length rc ((a8 ms m).map ee) (by simp) rfl HNEW.o (λu hu=>by obtain⟨x,_,rfl⟩:=OR.1 hu;rfl) (by unfold maxLen;omega) (by omega) HB.o.size ?_;intro v3 w3 r1 r2;have HO3:=ae r1;have HB3:=ae (eS HO.o HB.o r2 (Ou _));obtain⟨va3,vc3,hv3⟩:=cE r1;subst hv3;clear r1 r2);go_roundw;case rel=>refine⟨m+1,va3,vc3,by omega,by go_num,by rw[HL.o],?_,HB3.o⟩;rw[HL.o,HMP.o];exact HO3.o
     case measure=>simp[intOf];omega
    .have e:m=k:=by omega
     subst e;go_wp2;go_ret;exact⟨_,_,rfl,HO.o,HB.o⟩
end Go.Proofs.YtjkalahhpobefaaGreat
namespace Go.Proofs.YtjkalahhpobefaaGreat
set_option linter.all false
open Go.Proofs.Tryz Go.RowKit
theorem C2(z:Int):∀(fs:PB)(m:Nat)(h:m<fs.length),(aA fs).set (m*7+4) (PP z)=aA (fs.set m {fs[m] with z:=z})
 |[],m,h=>by simp at h
 |t::fs,0,h=>by rw[ja];simp only[List.set_cons_zero,List.getElem_cons_zero];rw[ja];simp[aB]
 |t::fs,m+1,h=>by
  rw[ja,List.set_append_right _ _ (by simp[aB];omega)];have e:(m+1)*7+4-(aB t).length=m*7+4:=by simp[aB];omega
  rw[e,C2 z fs m (by simpa using h)];simp only[List.set_cons_succ,List.getElem_cons_succ];rw[ja]
def zF(f:Ft->Int)(m:Nat)(fs:PB):PB:=(fs.take m).map (λt=>{t with z:=f t})++fs.drop m
theorem mM(f:Ft->Int)(m:Nat)(fs:PB):(zF f m fs).length=fs.length:=by simp[zF];omega
theorem C3(f:Ft->Int)(fs:PB):zF f 0 fs=fs:=by simp[zF]
theorem C5(f:Ft->Int)(fs:PB):zF f fs.length fs=fs.map λt=>{t with z:=f t}:=by simp[zF]
variable{fs:PB}{m:Nat}{f:Ft->Int}
theorem C6(h:m<fs.length):(zF f m fs)[m]'(by rw[mM];exact h)=fs[m]:=by unfold zF;rw[List.getElem_append_right (by simp;omega)];simp[Nat.min_eq_left (Nat.le_of_lt h)]
theorem C7(h:m<fs.length):(aA (zF f m fs)).set (m*7+4) (PP (f fs[m]))=aA (zF f (m+1) fs):=by
 rw[C2 _ _ m (by rw[mM];exact h),C6 h];congr 1;unfold zF;rw[List.set_append_right _ _ (by simp;omega)];have e:m-((fs.take m).map λt=>({t with z:=f t}:Ft)).length=0:=by simp;omega
 rw[e,Pd h,List.set_cons_zero,List.take_add_one,OI h,O0,List.append_assoc];rfl
variable{w:PJ}
theorem p6{P:Program}{ops:Array Oper}{o:Oper}{a:Act}{K:Act->PJ->Prop}{Q:Exit->Act->PJ->Prop}{E:Prop}(hg:o.guard=none)(s x:Operand)(t:TypeId)(hop:o.op=Op.call {callee:=Callee.builtin Builtin.append,args:=#[s,x],argTypes:=#[t,t]})(base:Nat)(e:TypeId)(i:TypeInfo)(z:PK)(size bytes:Nat)(ht:P.underlying t=some (.slice e))(hi:P.info? e=some i)(hz:i.zero=some z)(hsize:i.size=size)(hby:i.bytes=bytes)(hzs:z.cells.size=size)(hsz:0<size)(v:PK)(n:Nat)(xs:PH)(hs:a.eval s=v)(hown:w.ownsRow base e size v n xs)(ad:Option Addr)(m c:Nat)(news:PH)(hx:a.eval x=.slice ad m c)(hl:news.length=m*size)(hnews:0<m->∃ad',ad=some ad'/\∀j u,news[j]?=some u->w.cell? (ad'.add j)=some u)(h1:∀u∈news,u.oneCell'=true)(h63:n+m<=maxLen)(hbytes:(n+m)*bytes<=140737488355328)(hbase:base<=w.heap.size)(hK:∀v' w',w'.ownsRow base e size v' (n+m) (xs++news)->w.grownBy w' v.ownBlock->K (a.put o.dst v') w'):if Region.wanted o (yielded ops a.tmps)=true then Oper.wp P o a w K Q else E:=by
 by_cases hm:m=0
 .subst hm;have hn:news=[]:=List.eq_nil_of_length_eq_zero (by simpa using hl);subst hn;exact rM hg s x t o.type hop rfl v _ v hs hx (rL (P:=P) w base t o.type e i size ht hi v n c ad xs hown) (hK v w (by simpa using hown) ⟨rfl,rfl,rfl,Ou _,λ_ _ _=>rfl⟩)
 .obtain⟨ad',rfl,hc⟩:=hnews (by omega);exact nO hg s x t hop base e i z size bytes ht hi hz hsize hby hzs hsz v n xs hs hown ad' m c news hx hl hc h1 h63 hbytes hbase λv' w' r1 r2 _=>hK v' w' r1 r2
theorem Mf{a:Option Addr}{c:Nat}{r:PB}(h:Fv w (.slice a r.length c) r){W:PJ}(hb:Io w W):0<r.length->∃ad',a=some ad'/\∀j u,(aA r)[j]?=some u->W.cell? (ad'.add j)=some u:=λhp=>by
 obtain⟨a2,c2,e,_,h2⟩:=h;obtain⟨rb,roff,hra,_,hrcs⟩:=h2 hp;simp only[OQ,true_and] at e;obtain⟨rfl,_⟩:=e;refine⟨_,hra,λj u hj=>?_⟩;have h:=af (hrcs j u hj) hb;by_cases hj0:j=0
 .subst hj0;simpa [Addr.add] using h
 .simpa [Addr.add,hj0] using h
theorem Mg(p:Int)(B:Nat)(x:Mm)(w:PJ)(hm:b9 p B w x)(hl:x.r.length<=1100000000000):Calls prog 106 #[PL x.blk] w λe w'=>∃u,e=.returned u/\w'.ownsRow w.heap.size 88 7 u (x.L::x.r).length (aA (x.L::x.r))/\Io w w':=by
 have HM:=ae hm.mbr;obtain⟨d0,d1,d2,d3,d4,d5,d6⟩:=HM.o.div.cells;simp only[ON] at d0 d1 d2 d3 d4 d5 d6;have d7:=HM.o.div.c7;simp only[ON] at d7;have HFR:=ae HM.o.rest;obtain⟨ra,rc,hrv,_,_⟩:=HM.o.rest;rw[hrv] at d7 HFR;have HNEW:=ae (λW hb=>Mf HFR.o (W:=W) hb);obtain⟨i0,hi,hz0,hz1,hz2⟩:=info_parts Tryz.infoFt;have HI:=ae (Ow hi (Ow hz0 (Ow hz1 hz2)));have hblt:=HM.o.div.lt;clear hi hz0 hz1 hz2 hrv hm;have HLC:Po ((x.L::x.r).length=1+x.r.length/\aA (x.L::x.r)=aB x.L++aA x.r):=⟨by simp;omega,rfl⟩;go_enter func106,ntmps106;go_wp2_with fail;go_region_law (first|(refine p6 rfl (.tmp 8) (.tmp 13) 79 rfl w.heap.size 88 i0 _ 7 24 underlying79 HI.o.1 HI.o.2.1 HI.o.2.2.1 HI.o.2.2.2 rfl (by decide) (PM w.heap.size 1 1) 1 (aB x.L) (by simp[Act.eval,Act.put]) (dr (w:=w) (Ou _) x.L) ra x.r.length rc (aA x.r) (by simp[Act.eval,Act.put]) (fw x.r) (HNEW.o _ ai) (sW x.r) (by unfold maxLen;omega) (by omega) (by simp) ?_;intro v5 w5 r1 r2;obtain⟨va5,vc5,hv5⟩:=cE r1;subst hv5;have R1:=ae r1;have R2:=ae r2;clear r1 r2)|(refine p6 rfl (.tmp 8) (.tmp 13) 79 rfl w.heap.size 88 i0 _ 7 24 underlying79 HI.o.1 HI.o.2.1 HI.o.2.2.1 HI.o.2.2.2 rfl (by decide) (PM w.heap.size 1 1) 1 (aB x.L) (by simp[Act.eval,Act.put]) (dr (w:=w.drew) (Ou _) x.L) ra x.r.length rc (aA x.r) (by simp[Act.eval,Act.put]) (fw x.r) (HNEW.o _ ((Ov _ _).drew.alloc (Ou _) _)) (sW x.r) (by unfold maxLen;omega) (by omega) (by simp) ?_;intro v5 w5 r1 r2;obtain⟨va5,vc5,hv5⟩:=cE r1;subst hv5;have R1:=ae r1;have R2:=ae r2;clear r1 r2)|(refine p6 rfl (.tmp 8) (.tmp 13) 79 rfl w.heap.size 88 i0 _ 7 24 underlying79 HI.o.1 HI.o.2.1 HI.o.2.2.1 HI.o.2.2.2 rfl (by decide) (PM w.heap.size 1 1) 1 (aB x.L) (by simp[Act.eval,Act.put]) (aF (dr (w:=w) (Ou _) x.L) (Ov _ _).drew) ra x.r.length rc (aA x.r) (by simp[Act.eval,Act.put]) (fw x.r) (HNEW.o _ ai.drew) (sW x.r) (by unfold maxLen;omega) (by omega) (by simp) ?_;intro v5 w5 r1 r2;obtain⟨va5,vc5,hv5⟩:=cE r1;subst hv5;have R1:=ae r1;have R2:=ae r2;clear r1 r2));all_goals
  go_wp2;go_ret;refine⟨.slice va5 (1+x.r.length) vc5,by rfl,by rw[Nat.add_comm x.r.length 1,HLC.o.2];exact R1.o,?_⟩;first
  |exact eS (dr (w:=w) (Ou _) x.L) ai R2.o (Ou _)
  |exact eS (dr (w:=w.drew) (Ou _) x.L) ((Ov _ _).drew.alloc (Ou _) _) R2.o (Ou _)
  |exact eS (aF (dr (w:=w) (Ou _) x.L) (Ov _ _).drew) ai.drew R2.o (Ou _)
def dz(l:PD):PC:=(l.filter λx=>!x.gone).map λx=>(x.L::x.r).map bJ
theorem C8(l:PD)(x:Mm):dz (l++[x])=dz l++if x.gone then [] else [(x.L::x.r).map bJ]:=by unfold dz;rw[List.filter_append,O0];cases h:x.gone<;>simp[h]
theorem CP(l:PD):(dz l).length<=l.length:=by unfold dz;rw[OS];exact Pc _ _
theorem LJ(p:Int)(B:Nat)(w:PJ)(mb ob R g:Nat)(dv pv:PK)(us:PH)(ms:PD)(qs:PF)(h:bh p B w mb ob R g dv pv us ms qs)(hR:R<=255)(hln:ms.length<=2100000)(hl:∀x∈ms,x.r.length<=1100000000000):Calls prog 149 #[PL mb] w λe w'=>∃v us',e=.returned v/\aM w.heap.size w' v us' (dz (bT ms R))/\Io w w'/\∀u∈us',eU w' u:=by
 obtain⟨i1,hi,hz0,hz1,hz2⟩:=info_parts Tryz.infoFvL;have HIV:=ae (Ow hi (Ow hz0 (Ow hz1 hz2)));clear hi hz0 hz1 hz2;obtain⟨_,_,c2,_,_⟩:=h.cells;have HCM:=ae (Me p B w R g us ms h.mks hR hln);have HMM:Po (∀x∈bT ms R,∀W,Io w W->b9 p B W x):=λx hx W hb=>(h.mks.mem x (pZ hx)).next hb
 have HAL:Po (∀x∈bT ms R,∀W,Io w W->Calls prog 106 #[PL x.blk] W λe w'=>∃u,e=.returned u/\w'.ownsRow W.heap.size 88 7 u (x.L::x.r).length (aA (x.L::x.r))/\Io W w'):=λx hx W hb=>Mg p B x W (HMM.o x hx W hb) (hl x (pZ hx));have HXL:Po (∀x∈bT ms R,x.r.length<=1100000000000):=λx hx=>hl x (pZ hx);have hcl:(bT ms R).length<=2100000:=OA (sT ms R) hln;generalize bT ms R=cm at HCM HMM HAL HXL hcl⊢;clear h hl;go_enter func149,ntmps149;go_wp2_with (go_at_call 187;refine HCM.o.mono ?_;rintro e w1 ⟨ca,cc,rfl,q1,q2⟩;have HC1:=ae q1;have HB1:=ae q2;clear q1 q2);go_loopw [3,15] (λs3 s15 wr=>∃(m:Nat)(us':PH),m<=cm.length/\s15=PO m/\(∃a c,s3=.slice a (dz (cm.take m)).length c)/\aM w.heap.size wr s3 us' (dz (cm.take m))/\Io w wr/\wr.ownsRow w.heap.size 81 1 (.slice ca cm.length cc) cm.length (cm.map ee)/\∀u∈us',eU wr u) (λ_ s15 _=>cm.length-(intOf s15).toNat);case atStart=>exact⟨0,[],OB _,rfl,⟨none,0,by simp[dz]⟩,by simp only[List.take_zero];exact aM.nil _ _,HB1.o,HC1.o,λu hu=>by simp at hu⟩
 case round=>
  rename PJ=>wr;obtain⟨m,us',hm,rfl,⟨va,vc,rfl⟩,hrw,hbr,hbr1,hty⟩:=hrel;have HRW:=ae hrw;have HBR:=ae hbr;have HBR1:=ae hbr1;have HTY:=ae hty;clear hrw hbr hbr1 hty;by_cases hm2:m<cm.length
  .have hmI:(m:Int)<(cm.length:Int):=by omega
   have HTK:Po (cm.take (m+1)=cm.take m++[cm[m]]):=by show _=_;rw[List.take_add_one,OI hm2];rfl
   have hmem:=OE hm2;obtain⟨cb,rfl,_,_,hcc⟩:=rd HBR1.o m (by simpa using hm2);rw[List.getElem?_map,OI hm2] at hcc;simp only[Option.map_some,ee] at hcc;have HX:=ae (HMM.o _ hmem wr HBR.o);have HA:=ae (HAL.o _ hmem wr HBR.o);have HL:=ae (HXL.o _ hmem);have HELN:Po ((dz (cm.take m)).length<=2100000):=by have h1:=CP (cm.take m);rw[O7] at h1;show _<=_;omega
   generalize cm[m]=x at hcc HX HA HL HTK;have hgo:=HX.o.mbr.gone;cases hg:x.gone with
   |true=>
    have HE:Po (dz (cm.take (m+1))=dz (cm.take m)):=by show _=_;rw[HTK.o,C8,hg];simp
    rw[hg] at hgo;go_wp2;go_roundw;case rel=>exact⟨m+1,us',by omega,by go_num,⟨va,vc,by rw[HE.o]⟩,by rw[HE.o];exact HRW.o,HBR.o,HBR1.o,HTY.o⟩
    case measure=>simp[intOf];omega
   |false=>
    have HE:Po (dz (cm.take (m+1))=dz (cm.take m)++[(x.L::x.r).map bJ]):=by show _=_;rw[HTK.o,C8,hg];simp
    rw[hg] at hgo;obtain⟨fs,hfs⟩:∃fs,fs=x.L::x.r:=⟨_,rfl⟩;have HFL:Po (0<fs.length/\fs.length<=1100000000001):=by have:=HL.o;show _/\_;rw[hfs];simp;omega
    have hfl:=HFL.o.2;rw[<-hfs] at HA HE;clear hfs;go_upto_region 7 with (go_at_call 106;refine HA.o.mono ?_;rintro e w2 ⟨u2,rfl,q1,q2⟩;have HO2:=ae q1;have HB2:=ae q2;obtain⟨ub,uc,hu2,hub,_,_⟩:=mu q1 (by rw[fw];have:=HFL.o;omega);subst hu2;clear q1 q2);have HUB:=ae hub;clear hub;go_wp2_with fail;go_loopw [27] (λi w3=>∃k:Nat,k<=fs.length/\i=PO k/\w3.ownsRow wr.heap.size 88 7 (PM ub fs.length uc) fs.length (aA (zF (λ_=>0) k fs))/\Io wr w3) (λi _=>fs.length-(intOf i).toNat);case atStart=>exact⟨0,OB _,rfl,by rw[C3];exact HO2.o,HB2.o⟩
    case round=>
     rename PJ=>w3;obtain⟨k,hk,rfl,ho,hb⟩:=hrel;have HO:=ae ho;have HB:=ae hb;clear ho hb;by_cases hk2:k<fs.length
     .have hkI:(k:Int)<(fs.length:Int):=by omega
      have HO':Po (w3.ownsRow wr.heap.size 88 7 (PM ub (zF (λ_=>0) k fs).length uc) (zF (λ_=>0) k fs).length (aA (zF (λ_=>0) k fs))):=by show World.ownsRow _ _ _ _ _ _ _;rw[mM];exact HO.o
      obtain⟨b,off,e,_,_,hft⟩:=(fU HO'.o).at k (by rw[mM];exact hk2);simp only[OP,Addr.mk.injEq,and_true] at e;obtain⟨rfl,rfl⟩:=e;generalize (zF (λ_=>0) k fs).getD k dT=t at hft;obtain⟨f0,f1,f2,f3,f4,f5,f6⟩:=hft;simp only[ON] at f0 f1 f2 f3 f4 f5 f6;have HO4:=ae (HO.o.alloc (.cells #[PO t.k,PP t.a,PP t.b,PP t.d,PP t.z,PQ t.pl,PQ t.c] 88));have HST:=ae (OF HO.o (k*7+4) (PP 0));have hfz:=Oo HO4.o (k*7+4);have HZS:=ae (C7 (f:=λ_=>0) hk2);have HF4:(w3.alloc (.cells #[PO t.k,PP t.a,PP t.b,PP t.d,PP t.z,PQ t.pl,PQ t.c] 88)).cell? ⟨ub,k*7+1+3,none⟩=some (PP t.z):=af f4 ai;have hfz2:(w3.alloc (.cells #[PO t.k,PP t.a,PP t.b,PP t.d,PP t.z,PQ t.pl,PQ t.c] 88)).frozen? ⟨ub,k*7+1+3,none⟩=false:=hfz;have HBL:Po (wr.heap.size<=ub):=(Ot HO.o ub rfl).1;go_wp2;go_roundw;case rel=>
       refine⟨k+1,by omega,by go_num,?_,?_⟩
       .rw[<-HZS.o];exact HST.o.1.alloc _
       .have hb:=HB.o.trans (cQ HST.o.2 HBL.o HB.o.size);exact hb.alloc hb.size _
      case measure=>simp[intOf];omega
     .have e:k=fs.length:=by omega
      subst e;have hzl:=HO.o;rw[C5] at hzl;have HOE:Po (w3.ownsRow wr.heap.size 88 7 (PM ub (fs.map bJ).length uc) (fs.map bJ).length (aA (fs.map bJ))):=by show World.ownsRow _ _ _ _ _ _ _;rw[OS];exact hzl
      have HFE:=ae (fU HOE.o);have HTE:Po (eU w3 (PM ub fs.length uc)):=λb off n c e=>by simp only[OQ,OP,Addr.mk.injEq,and_true] at e;obtain⟨⟨rfl,rfl⟩,_,_⟩:=e;exact cF hzl rfl
      rw[OS] at HFE;have HRW3:=ae ((HRW.o.next HB.o).next (ai (A:=.cells #[PM ub fs.length uc] 79)));have HB3:=ae (In HBR.o (In HB.o (ai (A:=.cells #[PM ub fs.length uc] 79))));have HC3:=ae (aF (aF HBR1.o HB.o) (ai (A:=.cells #[PM ub fs.length uc] 79)));clear hzl HOE;go_wp2_with (at_builtin;refine pU rfl (.tmp 38) (.tmp 40) 76 rfl w.heap.size 79 i1 underlying76 HIV.o.1 HIV.o.2.1 HIV.o.2.2.1 HIV.o.2.2.2 _ (dz (cm.take m)).length us' rfl HRW3.o.own HRW3.o.kind (PN w3.heap.size 0) 1 (PM ub fs.length uc) ⟨_,_,_,rfl⟩ rfl (by simp[go_sem]) (by have:=HELN.o;omega) HB3.o.size ?_;intro v4 w4 r1 r2 r3;obtain⟨va4,vc4,hv4⟩:=cE r1;have HR4:=ae (HRW3.o.add (HFE.o.below ai) r1 r2 r3);have HT4:=ae (wW HRW3.o.own r2 (λu hu=>((HTY.o u hu).below HB.o).below ai) (HTE.o.below ai));have HB4:=ae (eS HRW3.o.own HB3.o r2 (Ou _));have HB14:=ae (dB (aj.of_grown (S:=λk=>(Value.slice va (dz (cm.take m)).length vc).ownBlock=some k) r2 λk e=>e) HC3.o (λk hk=>bj HRW3.o.own hk (by decide)));subst hv4;clear r1 r2 r3);go_roundw;case rel=>exact⟨m+1,_,by omega,by go_num,⟨va4,vc4,by rw[HE.o];simp⟩,by rw[HE.o];exact HR4.o,HB4.o,HB14.o,HT4.o⟩
      case measure=>simp[intOf];omega
  .have e:m=cm.length:=by omega
   subst e;go_wp2;go_ret;refine⟨.slice va (dz (cm.take cm.length)).length vc,us',rfl,?_,HBR.o,HTY.o⟩;have h:=HRW.o;rw[show dz (cm.take cm.length)=dz cm by rw[OO (Ou _)]] at h⊢;exact h
end Go.Proofs.YtjkalahhpobefaaGreat
