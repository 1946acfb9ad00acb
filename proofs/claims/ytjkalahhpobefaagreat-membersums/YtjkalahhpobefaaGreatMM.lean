/- basis.Check: anyPoly. -/
import Derived.Test.YtjkalahhpobefaaGreatKK
set_option maxHeartbeats 4000000
set_option maxRecDepth 100000
namespace Go.Proofs.YtjkalahhpobefaaGreat
set_option linter.all false
open Go.Proofs.Tryz Go.RowKit
def I7(f:LT):Prop:=(∀t∈f,0<t.2.length/\t.2.length<=3)/\∀t∈f,∀e∈t.2,0<=e/\e<=400
def ip(T:LT->Bool)(v:Lt):Bool:=v.any T
theorem I8(cf:FuncId)(hcf:cf=65\/False)(T:LT->Bool)(Ok:LT->Prop)(hcl:∀(u:PK) f (W:PJ),Pl W u f->Ok f->Calls prog cf #[u] W λe w'=>e=.returned (.bool (T f))/\w'=W)(v:PK)(fs:Lt)(w:PJ)(hv:Vl w v fs)(hn:fs.length<=1000000)(hok:∀f∈fs,Ok f):Calls prog 133 #[v,.func (.func cf) #[] #[]] w λe w'=>∃r:Int,e=.returned (PO r)∧-1<=r/\(decide (0<=r)=fs.any T)/\w'=w:=by
 have e41:cf=65:=hcf.elim id False.elim;clear hcf;subst e41;all_goals
  have HOK:=ae hok;have HCL:=ae hcl;obtain⟨xa,xc,rfl,hp⟩:=hv;have HP:=ae hp;clear hok hp hcl;go_enter func133,ntmps133;go_wp2_with fail;go_loopw [8] (λi wr=>∃m:Nat,m<=fs.length/\i=PO m/\(∀j (h:j<fs.length),j<m->T fs[j]=false)/\wr=w) (λi _=>fs.length-(intOf i).toNat);case atStart=>exact⟨0,OB _,rfl,λj _ h=>by omega,rfl⟩
  case round=>
   obtain⟨m,hm,rfl,hno,rfl⟩:=hrel;have HNO:=ae hno;clear hno;by_cases hm2:m<fs.length
   .obtain⟨b,off,rfl,hlt,hpl⟩:=HP.o (by omega);obtain⟨u,hu,hpu⟩:=hpl m hm2;have e:fs.getD m []=fs[m]:=by rw[OH,OI hm2];rfl
    rw[e] at hpu;have hk:=HOK.o fs[m] (OE hm2);have HC:=ae (HCL.o u fs[m] _ hpu hk);obtain⟨ua,uc,rfl,_,_⟩:=hpu;have HFI:Po (T fs[m]=true->decide ((0:Int)<=(m:Int))=fs.any T):=λh=>by show _=_;rw[List.any_eq_true.2 ⟨fs[m],OE hm2,h⟩];simp
    have HNX:Po (T fs[m]=false->∀j (h:j<fs.length),j<m+1->T fs[j]=false):=λh j hj hjm=>by
     rcases Nat.lt_succ_iff_lt_or_eq.1 hjm with h2|rfl
     .exact HNO.o j hj h2
     .exact h
    clear hpl hk e;generalize fs[m]=f at HC HFI HNX hu;cases hh:T f with
    |false=>
     rw[hh] at HC;have HN:=ae (HNX.o hh);clear hh HNX HFI;go_wp2_with (refine HC.o.mono ?_;rintro e w9 ⟨rfl,rfl⟩);go_roundw;case rel=>exact⟨m+1,by omega,by go_num,HN.o,by trivial⟩
     case measure=>simp[intOf];omega
    |true=>rw[hh] at HC;have HN:=ae (HFI.o hh);clear hh HNX HFI;go_wp2_with (refine HC.o.mono ?_;rintro e w9 ⟨rfl,rfl⟩);go_ret;exact⟨m,rfl,by omega,HN.o,rfl⟩
   .have e:m=fs.length:=by omega
    subst e;have HE:Po (decide ((0:Int)≤-1)=fs.any T):=by
     show _=_;rw[List.any_eq_false.2 λf hf=>by
      obtain⟨j,hj,rfl⟩:=List.getElem_of_mem hf;simp[HNO.o j hj hj]]
     rfl
    go_wp2;go_ret;exact⟨-1,rfl,by omega,HE.o,rfl⟩
theorem I9(cf:FuncId)(hcf:cf=65\/False)(T:LT->Bool)(Ok:LT->Prop)(hcl:∀(u:PK) f (W:PJ),Pl W u f->Ok f->Calls prog cf #[u] W λe w'=>e=.returned (.bool (T f))/\w'=W)(v:PK)(fs:Lt)(w:PJ)(hv:Vl w v fs)(hn:fs.length<=1000000)(hok:∀f∈fs,Ok f):Calls prog 103 #[v,.func (.func cf) #[] #[]] w λe w'=>e=.returned (.bool (fs.any T))/\w'=w:=by have HIX:=ae (I8 cf hcf T Ok hcl v fs w hv hn hok);obtain⟨xa,xc,rfl,_⟩:=hv;clear hok hcl hcf;go_enter func103,ntmps103;go_wp2_with (go_at_call 133;refine HIX.o.mono ?_;rintro e w9 ⟨r9,rfl,h1,h2,rfl⟩;have H2:=ae h2;clear h2);go_ret;exact⟨by rw[<-H2.o];rfl,rfl⟩
theorem Ja(cf:FuncId)(hcf:cf=65\/False)(T:LT->Bool)(Ok:LT->Prop)(hcl:∀(u:PK) f (W:PJ),Pl W u f->Ok f->Calls prog cf #[u] W λe w'=>e=.returned (.bool (T f))/\w'=W)(cb:Nat)(v:PK)(fs:Lt)(w:PJ)(hcb:w.cell? (PN cb 0)=some (.func (.func cf) #[] #[]))(hv:Vl w v fs)(hn:fs.length<=1000000)(hok:∀f∈fs,Ok f):Calls prog 102 #[v,PL cb] w λe w'=>e=.returned (.bool (ip T fs))/\w'=w:=by have HC:=ae (I9 cf hcf T Ok hcl v fs w hv hn hok);obtain⟨xa,xc,rfl,_⟩:=hv;unfold ip;generalize fs.any T=r at HC⊢;clear hok hcl;go_enter func102,ntmps102;go_wp2_with (go_at_call 103;refine HC.o.mono ?_;rintro e w9 ⟨rfl,rfl⟩);go_ret;exact⟨rfl,rfl⟩
theorem Jb(cf:FuncId)(hcf:cf=65\/False)(T:LT->Bool)(Ok:LT->Prop)(hcl:∀(u:PK) f (W:PJ),Pl W u f->Ok f->Calls prog cf #[u] W λe w'=>e=.returned (.bool (T f))/\w'=W)(cb:Nat)(v:PK)(vss:PA)(w:PJ)(hcb:w.cell? (PN cb 0)=some (.func (.func cf) #[] #[]))(hv:Wl w v vss)(hn:vss.length<=1000000)(hok:∀f∈vss,f.length<=1000000/\∀g∈f,Ok g):Calls prog 67 #[v,.func (.func 102) #[] #[PL cb]] w λe w'=>∃r:Int,e=.returned (PO r)∧-1<=r/\(decide (0<=r)=vss.any (ip T))/\w'=w:=by
 have HOK:=ae hok;have HCL:=ae hcl;obtain⟨xa,xc,rfl,hp⟩:=hv;have HP:=ae hp;clear hok hp hcl;go_enter func67,ntmps67;go_wp2_with fail;go_loopw [8] (λi wr=>∃m:Nat,m<=vss.length/\i=PO m/\(∀j (h:j<vss.length),j<m->(ip T) vss[j]=false)/\wr=w) (λi _=>vss.length-(intOf i).toNat);case atStart=>exact⟨0,OB _,rfl,λj _ h=>by omega,rfl⟩
 case round=>
  obtain⟨m,hm,rfl,hno,rfl⟩:=hrel;have HNO:=ae hno;clear hno;by_cases hm2:m<vss.length
  .obtain⟨b,off,rfl,hlt,hpl⟩:=HP.o (by omega);obtain⟨u,hu,hpu⟩:=hpl m hm2;have e:vss.getD m []=vss[m]:=by rw[OH,OI hm2];rfl
   rw[e] at hpu;have hk:=HOK.o vss[m] (OE hm2);have HC:=ae (Ja cf hcf T Ok HCL.o cb u vss[m] _ hcb hpu hk.1 hk.2);obtain⟨ua,uc,rfl,_⟩:=hpu;have HFI:Po ((ip T) vss[m]=true->decide ((0:Int)<=(m:Int))=vss.any (ip T)):=λh=>by show _=_;rw[List.any_eq_true.2 ⟨vss[m],OE hm2,h⟩];simp
   have HNX:Po ((ip T) vss[m]=false->∀j (h:j<vss.length),j<m+1->(ip T) vss[j]=false):=λh j hj hjm=>by
    rcases Nat.lt_succ_iff_lt_or_eq.1 hjm with h2|rfl
    .exact HNO.o j hj h2
    .exact h
   clear hpl hk e;generalize vss[m]=f at HC HFI HNX hu;cases hh:(ip T) f with
   |false=>
    rw[hh] at HC;have HN:=ae (HNX.o hh);clear hh HNX HFI;go_wp2_with (go_at_call 102;refine HC.o.mono ?_;rintro e w9 ⟨rfl,rfl⟩);go_roundw;case rel=>exact⟨m+1,by omega,by go_num,HN.o,by trivial⟩
    case measure=>simp[intOf];omega
   |true=>rw[hh] at HC;have HN:=ae (HFI.o hh);clear hh HNX HFI;go_wp2_with (go_at_call 102;refine HC.o.mono ?_;rintro e w9 ⟨rfl,rfl⟩);go_ret;exact⟨m,rfl,by omega,HN.o,rfl⟩
  .have e:m=vss.length:=by omega
   subst e;have HE:Po (decide ((0:Int)≤-1)=vss.any (ip T)):=by
    show _=_;rw[List.any_eq_false.2 λf hf=>by
     obtain⟨j,hj,rfl⟩:=List.getElem_of_mem hf;simp[HNO.o j hj hj]]
    rfl
   go_wp2;go_ret;exact⟨-1,rfl,by omega,HE.o,rfl⟩
theorem Jc(cf:FuncId)(hcf:cf=65\/False)(T:LT->Bool)(Ok:LT->Prop)(hcl:∀(u:PK) f (W:PJ),Pl W u f->Ok f->Calls prog cf #[u] W λe w'=>e=.returned (.bool (T f))/\w'=W)(cb:Nat)(v:PK)(vss:PA)(w:PJ)(hcb:w.cell? (PN cb 0)=some (.func (.func cf) #[] #[]))(hv:Wl w v vss)(hn:vss.length<=1000000)(hok:∀f∈vss,f.length<=1000000/\∀g∈f,Ok g):Calls prog 33 #[v,.func (.func 102) #[] #[PL cb]] w λe w'=>e=.returned (.bool (vss.any (ip T)))/\w'=w:=by have HIX:=ae (Jb cf hcf T Ok hcl cb v vss w hcb hv hn hok);obtain⟨xa,xc,rfl,_⟩:=hv;clear hok hcb hcl;go_enter func33,ntmps33;go_wp2_with (go_at_call 67;refine HIX.o.mono ?_;rintro e w9 ⟨r9,rfl,h1,h2,rfl⟩;have H2:=ae h2;clear h2);go_ret;exact⟨by rw[<-H2.o];rfl,rfl⟩
theorem Jd(cf:FuncId)(hcf:cf=65\/False)(T:LT->Bool)(Ok:LT->Prop)(hcl:∀(u:PK) f (W:PJ),Pl W u f->Ok f->Calls prog cf #[u] W λe w'=>e=.returned (.bool (T f))/\w'=W)(v:PK)(vss:PA)(w:PJ)(hv:Wl w v vss)(hn:vss.length<=1000000)(hok:∀f∈vss,f.length<=1000000/\∀g∈f,Ok g):Calls prog 64 #[v,.func (.func cf) #[] #[]] w λe w'=>e=.returned (.bool (vss.any (ip T)))/\Io w w':=by
 obtain⟨w1,hw1⟩:∃w1,w1=w.alloc (.cells #[.func (.func cf) #[] #[]] 99):=⟨_,rfl⟩;have HB1:Po (Io w w1):=by rw[hw1];exact ai
 have hc1:w1.cell? (PN w.heap.size 0)=some (.func (.func cf) #[] #[]):=by rw[hw1];simp[go_sem]
 have HC:=ae (Jc cf hcf T Ok hcl w.heap.size v vss w1 hc1 (hv.below HB1.o) hn hok);obtain⟨xa,xc,rfl,_⟩:=hv;generalize vss.any (ip T)=r at HC⊢;clear hok hc1 hcl;go_enter func64,ntmps64;go_upto_region 1 with fail;rw[<-hw1];clear hw1;go_wp2_with (go_at_call 33;refine HC.o.mono ?_;rintro e w9 ⟨rfl,rfl⟩);go_ret;exact⟨rfl,HB1.o⟩
theorem BH:∀(ts:LT)(m:Int),(∀t∈ts,au t.2<=m)->fz m ts=m
 |[],m,_=>rfl
 |t::ts,m,h=>by have h1:=h t (by simp);simp only[fz];rw[OV (by omega)];exact BH ts m λu hu=>h u (by simp[hu])
variable{f:LT}{N:Nat}{p o:Int}
theorem BI(h:fO p o N f):decide (3<fz (-1) f)=decide (3<rT f):=by
 cases f with
 |nil=>rfl
 |cons t ts=>
  have h1:=om h.canon;have h0:0<=au t.2:=vY λx hx=>(h.bd t (by simp) x hx).1;have e:fz (-1) (t::ts)=au t.2:=by simp only[fz];rw[OW (by omega)];exact BH ts _ λu hu=>h1 u (by simp[hu])
  rw[e];rfl
theorem BJ(hn:0<N)(h3:N<=3)(h:fO p o N f):I7 f:=by
 refine⟨λt ht=>?_,λt ht e he=>?_⟩
 .have:=h.canon.len t ht;omega
 .have h0:∀x∈t.2,0<=x:=λx hx=>(h.bd t ht x hx).1;have h1:=BK h0 e he;have h2:=h.deg t ht;have h4:=h0 e he;omega
def pJ(f:LT):Bool:=decide (6<f.length)||decide (3<rT f)
theorem Je(v:PK)(f:LT)(w:PJ)(hv:Pl w v f)(hok:∀t∈f,0<t.2.length/\t.2.length<=3)(hb:∀t∈f,∀e∈t.2,0<=e/\e<=400):Calls prog 65 #[v] w λe w'=>e=.returned (.bool (pJ f))/\w'=w:=by
 have HD:=ae (Jf v f w hv hok hb);unfold pJ;obtain⟨xa,xc,rfl,_,_⟩:=hv;generalize rT f=d at HD⊢;clear hok hb;by_cases hl:6<f.length
 .have hl2:decide ((6:Int)<(f.length:Int))=true:=Oy (by omega);rw[Oy hl,Bool.true_or];go_enter func65,ntmps65;go_wp2_with (go_at_call 66;refine HD.o.mono ?_;rintro e w9 ⟨rfl,rfl⟩);go_ret;exact⟨rfl,rfl⟩
 .have hl2:decide ((6:Int)<(f.length:Int))=false:=Ox (by omega);rw[Ox hl,Bool.false_or];go_enter func65,ntmps65;go_wp2_with (go_at_call 66;refine HD.o.mono ?_;rintro e w9 ⟨rfl,rfl⟩);go_ret;exact⟨rfl,rfl⟩
theorem vZ{α:Type}{f g:α->Bool}:∀{l:List α},(∀x∈l,f x=g x)->l.any f=l.any g
 |[],_=>rfl
 |x::l,h=>by rw[List.any_cons,List.any_cons,h x (by simp),vZ λy hy=>h y (by simp[hy])]
theorem BL(p n o v rank:Int)(lv:PK)(vss:PA)(w:PJ)(hs:Wl w lv vss):Calls prog 32 #[aI p n o v,PO rank,lv] w λe w'=>e=.returned (PO (cO p n o v rank vss))/\Io w w':=by
 have HS:=ae hs;obtain⟨w1,hw1⟩:∃w1,w1=w.alloc (.cells #[PO p,PO n,PO o,PO v] 23):=⟨_,rfl⟩;have hbx:bO w1 w.heap.size p n o v:=by rw[hw1];exact bO.new w p n o v _
 have HBW:Po (Io w w1):=by rw[hw1];exact aY
 have HCV:=ae (oo p n o v rank lv vss w1 (hs.below HBW.o));obtain⟨la,lc,rfl,_⟩:=hs;unfold aI at HCV;unfold aI;obtain⟨_,bx0,bx1,bx2,bx3⟩:=hbx;cases hev:(cR p n o v rank vss !=0)
 rotate_left
 .have HE:=ae (BM (show cR p n o v rank vss≠0 by simpa using hev));rw[HE.o];go_enter func32,ntmps32;go_upto_region 1 with fail;rw[<-hw1];clear hw1;go_wp2_with (go_at_call 24;refine HCV.o.mono ?_;rintro e w2 ⟨rfl,q1⟩;have HB2:=ae q1;clear q1);go_ret;exact⟨rfl,In HBW.o HB2.o⟩
 .have hz:cR p n o v rank vss=0:=by simpa using hev
  have HZ:=ae hz;obtain⟨hR,hrk,hvl,hall⟩:=v8 hz;obtain⟨_,hn1,hn3,_,_⟩:=lX hR;have HRT:Po (∀g∈vss,∀f∈g,fO p o n.toNat f):=λg hg f hf=>by have h:=(hall g hg).2 f hf;rw[show n=(n.toNat:Int) by omega] at h;exact rU h
  have HAL:Po (∀g∈vss,g.length<=1000000):=λg hg=>by have:=(hall g hg).1;omega
  have HN:=ae (Ow hn1 hn3);rw[hz] at HCV;clear hz hall hR hev hn1 hn3;by_cases hr3:3<rank
  .have HE:=ae (we HZ.o (Pf hr3));rw[HE.o];have hd3:decide (3<rank)=true:=by simpa using hr3
   go_enter func32,ntmps32;go_upto_region 1 with fail;rw[<-hw1];clear hw1;go_wp2_with (go_at_call 24;refine HCV.o.mono ?_;rintro e w2 ⟨rfl,q1⟩;have HB2:=ae q1;clear q1);go_ret;exact⟨rfl,In HBW.o HB2.o⟩
  .have hd3:decide (3<rank)=false:=by simpa using hr3
   by_cases hl4:4<vss.length
   .have HE:=ae (we HZ.o (Pg hl4));rw[HE.o];have ii:decide ((4:Int)<(vss.length:Int))=true:=Oy (by omega);go_enter func32,ntmps32;go_upto_region 1 with fail;rw[<-hw1];clear hw1;go_wp2_with (go_at_call 24;refine HCV.o.mono ?_;rintro e w2 ⟨rfl,q1⟩;have HB2:=ae q1;clear q1);go_ret;exact⟨rfl,In HBW.o HB2.o⟩
   .have ii:decide ((4:Int)<(vss.length:Int))=false:=Ox (by omega);have HE:=ae (wg HZ.o (show¬(3<rank\/4<vss.length) by omega));have HAN:Po (∀W,Io w W->Calls prog 64 #[.slice la vss.length lc,.func (.func 65) #[] #[]] W λe w'=>e=.returned (.bool (vss.any lF))/\Io W w'):=λW hW=>by
     have h:=Jd 65 (Pf rfl) pJ (λf=>fO p o n.toNat f) (λu f W h1 h2=>Je u f W h1 (BJ (by have:=HN.o;omega) (by have:=HN.o;omega) h2).1 (BJ (by have:=HN.o;omega) (by have:=HN.o;omega) h2).2) (.slice la vss.length lc) vss W (HS.o.below hW) (by omega) (λg hg=>⟨HAL.o g hg,HRT.o g hg⟩);have e:vss.any (ip pJ)=vss.any lF:=vZ λg hg=>vZ λf hf=>by unfold pJ rV;rw[BI (HRT.o g hg f hf)]
     rw[e] at h;exact h
    rw[HE.o];unfold pK;cases hbg:vss.any lF
    .rw[hbg] at HAN;rw[OV (by simp)];go_enter func32,ntmps32;go_upto_region 1 with fail;rw[<-hw1];clear hw1;go_upto_region 6 with (go_at_call 24;refine HCV.o.mono ?_;rintro e w2 ⟨rfl,q1⟩;have HB2:=ae (In HBW.o q1);clear q1);go_wp2_with (go_at_call 64;refine(HAN.o _ HB2.o).mono ?_;rintro e w3 ⟨rfl,q1⟩;have HB3:=ae q1;clear q1);go_ret;exact⟨rfl,In HB2.o HB3.o⟩
    .rw[hbg] at HAN;rw[OW rfl];go_enter func32,ntmps32;go_upto_region 1 with fail;rw[<-hw1];clear hw1;go_upto_region 6 with (go_at_call 24;refine HCV.o.mono ?_;rintro e w2 ⟨rfl,q1⟩;have HB2:=ae (In HBW.o q1);clear q1);go_wp2_with (go_at_call 64;refine(HAN.o _ HB2.o).mono ?_;rintro e w3 ⟨rfl,q1⟩;have HB3:=ae q1;clear q1);go_ret;exact⟨rfl,In HB2.o HB3.o⟩
def dJ(p n o v rank:Int)(a b:PA):Int:=if cO p n o v rank a≠0 then cO p n o v rank a else cO p n o v rank b
theorem wh(p n o v rank:Int)(b c:Nat)(av bv:PK)(ass bss:PA)(w:PJ)(ha:Wl w av ass)(hb:Wl w bv bss)(c0:w.cell? (PN b 0)=some av)(c1:w.cell? (PN b 1)=some bv):Calls prog 12 #[aI p n o v,PO rank,PM b 2 c] w λe w'=>e=.returned (PO (dJ p n o v rank ass bss))/\Io w w':=by
 obtain⟨w1,hw1⟩:∃w1,w1=w.alloc (.cells #[PO p,PO n,PO o,PO v] 23):=⟨_,rfl⟩;have hbx:bO w1 w.heap.size p n o v:=by rw[hw1];exact bO.new w p n o v _
 have HB1:Po (Io w w1):=by rw[hw1];exact aY
 obtain⟨_,bx0,bx1,bx2,bx3⟩:=hbx;have HCA:Po (∀W,Io w W->Calls prog 32 #[aI p n o v,PO rank,av] W λe w'=>e=.returned (PO (cO p n o v rank ass))/\Io W w'):=λW h=>BL p n o v rank av ass W (ha.below h);have HCB:Po (∀W,Io w W->Calls prog 32 #[aI p n o v,PO rank,bv] W λe w'=>e=.returned (PO (cO p n o v rank bss))/\Io W w'):=λW h=>BL p n o v rank bv bss W (hb.below h);have k0:=af c0 HB1.o;have k1:=af c1 HB1.o;obtain⟨aa,ac,rfl,_⟩:=ha;obtain⟨ba,bc,rfl,_⟩:=hb;have HET:Po ((cO p n o v rank ass=0->dJ p n o v rank ass bss=cO p n o v rank bss)/\(cO p n o v rank ass≠0->dJ p n o v rank ass bss=cO p n o v rank ass)):=by
  constructor
  .intro h;unfold dJ;rw[OV (by simpa using h)]
  .intro h;unfold dJ;rw[OW h]
 unfold aI at HCA HCB;unfold aI;clear c0 c1;cases hea:(cO p n o v rank ass !=0)
 rotate_left
 .have HE:=ae (HET.o.2 (by simpa using hea));rw[HE.o];generalize cO p n o v rank ass=ea at hea HCA;go_enter func12,ntmps12;go_wp2_with fail;refine wp_loop_rounds 3 ?_;rw[rounds_succ];rw[<-hw1];clear hw1;go_wp2_with (go_at_call 32;refine(HCA.o _ HB1.o).mono ?_;rintro e w2 ⟨rfl,q1⟩;have HB2:=ae q1;clear q1);go_ret;exact⟨rfl,In HB1.o HB2.o⟩
 .have hz:cO p n o v rank ass=0:=by simpa using hea
  have HE:=ae (HET.o.1 hz);rw[HE.o];rw[hz] at HCA;clear hea;cases heb:(cO p n o v rank bss !=0)
  rotate_left
  .generalize cO p n o v rank bss=eb at heb HCB;go_enter func12,ntmps12;go_wp2_with fail;refine wp_loop_rounds 3 ?_;rw[rounds_succ];rw[<-hw1];clear hw1;go_wp2_with (go_at_call 32;refine(HCA.o _ HB1.o).mono ?_;rintro e w2 ⟨rfl,q1⟩;have HB2:=ae (In HB1.o q1);have k1:=af k1 q1;have bx0:=af bx0 q1;have bx1:=af bx1 q1;have bx2:=af bx2 q1;have bx3:=af bx3 q1;clear q1);rw[rounds_succ];go_wp2_with (go_at_call 32;refine(HCB.o _ HB2.o).mono ?_;rintro e w3 ⟨rfl,q1⟩;have HB3:=ae (In HB2.o q1);clear q1);go_ret;exact⟨rfl,HB3.o⟩
  .have hz2:cO p n o v rank bss=0:=by simpa using heb
   rw[hz2] at HCB⊢;clear heb;go_enter func12,ntmps12;go_wp2_with fail;refine wp_loop_rounds 3 ?_;rw[rounds_succ];rw[<-hw1];clear hw1;go_wp2_with (go_at_call 32;refine(HCA.o _ HB1.o).mono ?_;rintro e w2 ⟨rfl,q1⟩;have HB2:=ae (In HB1.o q1);have k1:=af k1 q1;have bx0:=af bx0 q1;have bx1:=af bx1 q1;have bx2:=af bx2 q1;have bx3:=af bx3 q1;clear q1);rw[rounds_succ];go_wp2_with (go_at_call 32;refine(HCB.o _ HB2.o).mono ?_;rintro e w3 ⟨rfl,q1⟩;have HB3:=ae (In HB2.o q1);clear q1);rw[rounds_succ];go_wp2_with fail;go_ret;exact⟨rfl,HB3.o⟩
theorem Jg(p n o v rank:Int)(ca la wa:Option Addr)(cn ln wn cc lc wc:Nat)(EC E1 E2 EX EY:Int)(B1 BX BY:Bool)(V S:Lt)(w:PJ)(h1:EC=0->E1=0->B1=true)(hxy:EC=0->E1=0->E2=0->EX=0->EY=0->BX=BY)(HBG:Po (∀W,Calls prog 7 #[] W λe w'=>e=.returned (.bool true)/\Io W w'))(HVB:Po (∀W,Calls prog 9 #[] W λe w'=>e=.returned (.bool true)/\Io W w'))(HCM:Po (∀W,Io w W->Calls prog 10 #[.agg #[PO p,PO n,PO o,PO v],PO rank,.slice ca cn cc,.slice la ln lc] W λe w'=>∃u,e=.returned (.tuple #[u,PO EC])/\Vl w' u V/\Io W w'))(HIN:Po (∀W gv,Io w W->(Vl W gv V->Calls prog 8 #[.agg #[PO p,PO n,PO o,PO v],PO rank,gv,.slice la ln lc] W λe w'=>e=.returned (.tuple #[.bool B1,PO E1])/\Io W w')/\(Vl W gv S->Calls prog 8 #[.agg #[PO p,PO n,PO o,PO v],PO rank,gv,.slice la ln lc] W λe w'=>e=.returned (.tuple #[.bool BY,PO EY])/\Io W w')))(HAD:Po (∀W gv,Io w W->Vl W gv V->Calls prog 11 #[.agg #[PO p,PO n,PO o,PO v],gv,.slice wa wn wc] W λe w'=>∃u,e=.returned (.tuple #[u,PO E2])/\(E2=0->Vl w' u S)/\(∃a m c,u=.slice a m c)/\Io W w'))(HIW:Po (∀W,Io w W->Calls prog 8 #[.agg #[PO p,PO n,PO o,PO v],PO rank,.slice wa wn wc,.slice la ln lc] W λe w'=>e=.returned (.tuple #[.bool BX,PO EX])/\Io W w')):Calls prog 4 #[.agg #[PO p,PO n,PO o,PO v],PO rank,.slice la ln lc,.slice ca cn cc,.slice wa wn wc] w λe w'=>e=.returned (.bool true)/\Io w w':=by
 obtain⟨w1,hw1⟩:∃w1,w1=w.alloc (.cells #[PO p,PO n,PO o,PO v] 23):=⟨_,rfl⟩;have hbx:bO w1 w.heap.size p n o v:=by rw[hw1];exact bO.new w p n o v _
 have HBA:Po (Io w w1):=by rw[hw1];exact aY
 obtain⟨_,bx0,bx1,bx2,bx3⟩:=hbx;have H1:=ae h1;have HXY:=ae hxy;clear h1 hxy;go_enter func4,ntmps4;go_upto_region 1 with fail;rw[<-hw1];clear hw1;go_upto_region 4 with (first|(go_at_call 7;refine(HBG.o _).mono ?_;rintro e w2 ⟨rfl,q1⟩;have HBA:=ae (In HBA.o q1);have bx0:=af bx0 q1;have bx1:=af bx1 q1;have bx2:=af bx2 q1;have bx3:=af bx3 q1;clear q1)|(go_at_call 9;refine(HVB.o _).mono ?_;rintro e w3 ⟨rfl,q1⟩;have HBA:=ae (In HBA.o q1);have bx0:=af bx0 q1;have bx1:=af bx1 q1;have bx2:=af bx2 q1;have bx3:=af bx3 q1;clear q1)|(go_at_call 10;refine(HCM.o _ HBA.o).mono ?_;rintro e w4 ⟨u4,rfl,q0,q1⟩;have HBA:=ae (In HBA.o q1);have bx0:=af bx0 q1;have bx1:=af bx1 q1;have bx2:=af bx2 q1;have bx3:=af bx3 q1;have HV:=ae q0;obtain⟨va,vc,hu,_⟩:=q0;subst hu;clear q1));cases hE:(EC !=0)
 rotate_left
 .go_wp2_with fail;go_ret;exact⟨rfl,HBA.o⟩
 have HZ:Po (EC=0):=ae (by simpa using hE);go_upto_region 7 with (go_at_call 8;refine((HIN.o _ _ HBA.o).1 HV.o).mono ?_;rintro e w5 ⟨rfl,q1⟩;have HBA:=ae (In HBA.o q1);have bx0:=af bx0 q1;have bx1:=af bx1 q1;have bx2:=af bx2 q1;have bx3:=af bx3 q1;have HV:=ae (HV.o.below q1);clear q1);cases hE1:(E1 !=0)
 rotate_left
 .go_wp2_with fail;go_ret;exact⟨rfl,HBA.o⟩
 have HZ1:Po (E1=0):=ae (by simpa using hE1);have hb:=H1.o HZ.o HZ1.o;subst hb;go_upto_region 12 with (go_at_call 11;refine(HAD.o _ _ HBA.o HV.o).mono ?_;rintro e w6 ⟨u6,rfl,q0,⟨sa,sm,sc,hu⟩,q1⟩;have HBA:=ae (In HBA.o q1);have bx0:=af bx0 q1;have bx1:=af bx1 q1;have bx2:=af bx2 q1;have bx3:=af bx3 q1;have HS:=ae q0;subst hu;clear q1 q0);cases hE2:(E2 !=0)
 rotate_left
 .go_wp2_with fail;go_ret;exact⟨rfl,HBA.o⟩
 have HZ2:Po (E2=0):=ae (by simpa using hE2);have HS2:=ae (HS.o HZ2.o);go_upto_region 15 with (go_at_call 8;refine(HIW.o _ HBA.o).mono ?_;rintro e w7 ⟨rfl,q1⟩;have HBA:=ae (In HBA.o q1);have bx0:=af bx0 q1;have bx1:=af bx1 q1;have bx2:=af bx2 q1;have bx3:=af bx3 q1;have HS3:=ae (HS2.o.below q1);clear q1);go_upto_region 16 with (go_at_call 8;refine((HIN.o _ _ HBA.o).2 HS3.o).mono ?_;rintro e w8 ⟨rfl,q1⟩;have HBA:=ae (In HBA.o q1);have bx0:=af bx0 q1;have bx1:=af bx1 q1;have bx2:=af bx2 q1;have bx3:=af bx3 q1;clear q1);cases hEX:(EX !=0)
 rotate_left
 .go_wp2_with fail;go_ret;exact⟨rfl,HBA.o⟩
 cases hEY:(EY !=0)
 rotate_left
 .go_wp2_with fail;go_ret;exact⟨rfl,HBA.o⟩
 have heq:(BX==BY)=true:=by simpa using HXY.o HZ.o HZ1.o HZ2.o (by simpa using hEX) (by simpa using hEY)
 go_wp2_with fail;go_ret;exact⟨rfl,HBA.o⟩
theorem Jh(md bb:Nat)(gv:PK)(g:Lt)(t:Bool)(w:PJ)(hg:Vl w gv g)(hc:w.cell? (PN bb 0)=some (PL md))(HH:Po (Calls prog 21 #[PL md,gv] w λe w'=>e=.returned (.bool t)/\Io w w')):Calls prog 34 #[gv,PL bb] w λe w'=>e=.returned (.bool (!t))/\Io w w':=by obtain⟨ga,gc,rfl,_⟩:=hg;go_enter func34,ntmps34;go_wp2_with (go_at_call 21;refine HH.o.mono ?_;rintro e w9 ⟨rfl,q1⟩;have HB:=ae q1;clear q1);go_ret;exact⟨rfl,HB.o⟩
theorem Ji(md bb:Nat)(T:Lt->Bool)(v:PK)(vss:PA)(w:PJ)(hv:Wl w v vss)(hn:vss.length<=1000000)(hc:w.cell? (PN bb 0)=some (PL md))(HH:Po (∀W gv,∀g∈vss,Io w W->Vl W gv g->Calls prog 21 #[PL md,gv] W λe w'=>e=.returned (.bool (T g))/\Io W w')):Calls prog 67 #[v,.func (.func 34) #[] #[PL bb]] w λe w'=>∃r:Int,e=.returned (PO r)∧-1<=r/\(decide (0<=r)=!(vss.all T))/\Io w w':=by
 obtain⟨xa,xc,rfl,hp⟩:=hv;have HP:=ae hp;have HCB:=ae hc;clear hp hc;go_enter func67,ntmps67;go_wp2_with fail;go_loopw [8] (λi wr=>∃m:Nat,m<=vss.length/\i=PO m/\(∀j (h:j<vss.length),j<m->T vss[j]=true)/\Io w wr) (λi _=>vss.length-(intOf i).toNat);case atStart=>exact⟨0,OB _,rfl,λj _ h=>by omega,Ov _ _⟩
 case round=>
  rename PJ=>wr;obtain⟨m,hm,rfl,hno,hbr⟩:=hrel;have HNO:=ae hno;have HBR:=ae hbr;clear hno hbr;by_cases hm2:m<vss.length
  .obtain⟨b,off,rfl,hlt,hpl⟩:=HP.o (by omega);obtain⟨u,hu,hpu⟩:=hpl m hm2;have e:vss.getD m []=vss[m]:=by rw[OH,OI hm2];rfl
   rw[e] at hpu;have hpw:=hpu.below HBR.o;have hu:=af hu HBR.o;have HC:=ae (Jh md bb u vss[m] (T vss[m]) wr hpw (af HCB.o HBR.o) (ae (HH.o wr u vss[m] (OE hm2) HBR.o hpw)));obtain⟨ua,uc,rfl,_⟩:=hpu;have HFI:Po (T vss[m]=false->decide ((0:Int)<=(m:Int))=!(vss.all T)):=λh=>by show _=_;rw[List.all_eq_false.2 ⟨vss[m],OE hm2,by simp[h]⟩];simp
   have HNX:Po (T vss[m]=true->∀j (h:j<vss.length),j<m+1->T vss[j]=true):=λh j hj hjm=>by
    rcases Nat.lt_succ_iff_lt_or_eq.1 hjm with h2|rfl
    .exact HNO.o j hj h2
    .exact h
   clear hpl e hpw;generalize vss[m]=f at HC HFI HNX hu;cases hh:T f with
   |true=>
    rw[hh] at HC;have HN:=ae (HNX.o hh);clear hh HNX HFI;go_wp2_with (go_at_call 34;refine HC.o.mono ?_;rintro e w9 ⟨rfl,q1⟩;have HB9:=ae (In HBR.o q1);clear q1);go_roundw;case rel=>exact⟨m+1,by omega,by go_num,HN.o,HB9.o⟩
    case measure=>simp[intOf];omega
   |false=>rw[hh] at HC;have HN:=ae (HFI.o hh);clear hh HNX HFI;go_wp2_with (go_at_call 34;refine HC.o.mono ?_;rintro e w9 ⟨rfl,q1⟩;have HB9:=ae (In HBR.o q1);clear q1);go_ret;exact⟨m,rfl,by omega,HN.o,HB9.o⟩
  .have e:m=vss.length:=by omega
   subst e;have HE:Po (decide ((0:Int)≤-1)=!(vss.all T)):=by
    show _=_;rw[List.all_eq_true.2 λf hf=>by
     obtain⟨j,hj,rfl⟩:=List.getElem_of_mem hf;exact HNO.o j hj hj]
    rfl
   go_wp2;go_ret;exact⟨-1,rfl,by omega,HE.o,HBR.o⟩
theorem Jj(md bb:Nat)(T:Lt->Bool)(v:PK)(vss:PA)(w:PJ)(hv:Wl w v vss)(hn:vss.length<=1000000)(hc:w.cell? (PN bb 0)=some (PL md))(HH:Po (∀W gv,∀g∈vss,Io w W->Vl W gv g->Calls prog 21 #[PL md,gv] W λe w'=>e=.returned (.bool (T g))/\Io W w')):Calls prog 33 #[v,.func (.func 34) #[] #[PL bb]] w λe w'=>e=.returned (.bool (!(vss.all T)))/\Io w w':=by have HIX:=ae (Ji md bb T v vss w hv hn hc HH);obtain⟨xa,xc,rfl,_⟩:=hv;clear hc HH;generalize vss.all T=r at HIX⊢;go_enter func33,ntmps33;go_wp2_with (go_at_call 67;refine HIX.o.mono ?_;rintro e w9 ⟨r9,rfl,h1,h2,q1⟩;have H2:=ae h2;have HB:=ae q1;clear h2 q1);go_ret;exact⟨by rw[<-H2.o];rfl,HB.o⟩
theorem Jk(p n o v rank:Int)(T:Lt->Bool)(lv xv:PK)(lss vss:PA)(w:PJ)(hl:Wl w lv lss)(hv:Wl w xv vss)(hn:vss.length<=1000000)(HNM:Po (∀W,Io w W->Calls prog 20 #[aI p n o v,PO rank,lv] W λe w'=>∃md,e=.returned (PL md)/\Io W w'/\Po (∀W2 gv,∀g∈vss,Io w' W2->Vl W2 gv g->Calls prog 21 #[PL md,gv] W2 λe w'=>e=.returned (.bool (T g))/\Io W2 w'))):Calls prog 13 #[aI p n o v,PO rank,lv,xv] w λe w'=>e=.returned (.bool (vss.all T))/\Io w w':=by
 obtain⟨w1,hw1⟩:∃w1,w1=w.alloc (.cells #[PO p,PO n,PO o,PO v] 23):=⟨_,rfl⟩;have hbx:bO w1 w.heap.size p n o v:=by rw[hw1];exact bO.new w p n o v _
 have HB1:Po (Io w w1):=by rw[hw1];exact aY
 obtain⟨_,bx0,bx1,bx2,bx3⟩:=hbx;have HV:=ae hv;have HN1:=ae (HNM.o w1 HB1.o);obtain⟨xa,xc,rfl,_⟩:=hv;obtain⟨la,lc,rfl,_⟩:=hl;unfold aI at HN1⊢;clear HNM;go_enter func13,ntmps13;go_upto_region 1 with fail;rw[<-hw1];clear hw1;go_upto_region 2 with (go_at_call 20;refine HN1.o.mono ?_;rintro e w2 ⟨md,rfl,q1,HH2⟩;have HB2:=ae (In HB1.o q1);clear q1);obtain⟨w3,hw3⟩:∃w3,w3=w2.alloc (.cells #[PL md] 50):=⟨_,rfl⟩;have H3:Po (Io w2 w3/\w3.cell? (PN w2.heap.size 0)=some (PL md)):=by show _/\_;rw[hw3];exact⟨ai,by simp[go_sem]⟩
 have HB3:Po (Io w w3):=In HB2.o H3.o.1;have HC:=ae (Jj md w2.heap.size T _ vss w3 (HV.o.below HB3.o) hn H3.o.2 (ae λW gv g hg hb hgv=>HH2.o W gv g hg (In H3.o.1 hb) hgv));obtain⟨r,hr⟩:∃r,r=vss.all T:=⟨_,rfl⟩;rw[<-hr] at HC;have HR:=ae hr;clear hr;rw[<-hw3];clear hw3 H3 HH2;go_wp2_with (go_at_call 33;refine HC.o.mono ?_;rintro e w9 ⟨rfl,q1⟩;have HB9:=ae (In HB3.o q1);clear q1);go_ret;exact⟨by rw[<-HR.o];simp,HB9.o⟩
theorem Jl(p n o v rank:Int)(gv lv:PK)(g:Lt)(lss:PA)(T:Bool)(w:PJ)(hg:Vl w gv g)(hl:Wl w lv lss)(HNM:dJ p n o v rank lss [g]=0->Po (∀W,Io w W->Calls prog 20 #[aI p n o v,PO rank,lv] W λe w'=>∃md,e=.returned (PL md)/\Io W w'/\Po (Calls prog 21 #[PL md,gv] w' λe w2=>e=.returned (.bool T)/\Io w' w2)))(hT:dJ p n o v rank lss [g]≠0->T=false):Calls prog 8 #[aI p n o v,PO rank,gv,lv] w λe w'=>e=.returned (.tuple #[.bool T,PO (dJ p n o v rank lss [g])])/\Io w w':=by
 obtain⟨w1,hw1⟩:∃w1,w1=w.alloc (.cells #[PO p,PO n,PO o,PO v] 23):=⟨_,rfl⟩;have hbx:bO w1 w.heap.size p n o v:=by rw[hw1];exact bO.new w p n o v _
 have HB1:Po (Io w w1):=by rw[hw1];exact aY
 obtain⟨w2,hw2⟩:∃w2,w2=(w1.alloc (.cells #[gv] 32)).alloc (.cells #[lv,PM w1.heap.size 1 1] 24):=⟨_,rfl⟩;have HB2:Po (Io w1 w2):=by rw[hw2];exact((Ov _ _).alloc (Ou _) _).alloc (by simp) _
 have HB02:Po (Io w w2):=In HB1.o HB2.o;have HCK:Po (Calls prog 12 #[aI p n o v,PO rank,PM (w1.heap.size+1) 2 2] w2 λe w'=>e=.returned (PO (dJ p n o v rank lss [g]))/\Io w2 w'):=by
  refine wh p n o v rank _ 2 lv (PM w1.heap.size 1 1) lss [g] w2 (hl.below HB02.o) (rW (hg.below HB02.o) ?_ ?_) ?_ ?_
  .rw[hw2];simp;omega
  .rw[hw2];simp[go_sem]
  .rw[hw2];simp[go_sem]
  .rw[hw2];simp[go_sem]
 obtain⟨_,bx0,bx1,bx2,bx3⟩:=hbx;obtain⟨ga,gc,rfl,_⟩:=hg;obtain⟨la,lc,rfl,_⟩:=hl;have HT:=ae hT;have HNN:=ae HNM;clear hT HNM;unfold aI at HCK HNN⊢;generalize dJ p n o v rank lss [g]=E at HCK HNN HT⊢;cases hE:(E !=0)
 rotate_left
 .have hTf:=HT.o (by simpa using hE);subst hTf;clear HNN HT;go_enter func8,ntmps8;go_upto_region 1 with fail;rw[<-hw1];clear hw1;go_wp2_with (rw[<-hw2];go_at_call 12;refine HCK.o.mono ?_;rintro e w3 ⟨rfl,q1⟩;have HB3:=ae (In HB02.o q1);clear q1);go_ret2;exact⟨rfl,HB3.o⟩
 .have hz:E=0:=by simpa using hE
  subst hz;have HNM:=HNN.o rfl;clear HNN HT hE;go_enter func8,ntmps8;go_upto_region 1 with fail;rw[<-hw1];clear hw1;go_wp2_with (first|(rw[<-hw2];go_at_call 12;refine HCK.o.mono ?_;rintro e w3 ⟨rfl,q1⟩;have HB3:=ae (In HB02.o q1);have hk:=In HB2.o q1;have bx0:=af bx0 hk;have bx1:=af bx1 hk;have bx2:=af bx2 hk;have bx3:=af bx3 hk;clear q1 hk hw2)|(go_at_call 20;refine(HNM.o _ HB3.o).mono ?_;rintro e w4 ⟨md,rfl,q1,HH⟩;have HB4:=ae (In HB3.o q1);clear q1)|(go_at_call 21;refine HH.o.mono ?_;rintro e w5 ⟨rfl,q1⟩;have HB5:=ae (In HB4.o q1);clear q1));go_ret2;exact⟨rfl,HB5.o⟩
theorem Jm(p n o v rank:Int)(av bv:PK)(ass bss:PA)(Sa Sb:Bool)(w:PJ)(ha:Wl w av ass)(hb:Wl w bv bss)(HNA:dJ p n o v rank ass bss=0->Po (∀W,Io w W->Calls prog 13 #[aI p n o v,PO rank,av,bv] W λe w'=>e=.returned (.bool Sa)/\Io W w'))(HNB:dJ p n o v rank ass bss=0->Po (∀W,Io w W->Calls prog 13 #[aI p n o v,PO rank,bv,av] W λe w'=>e=.returned (.bool Sb)/\Io W w')):Calls prog 5 #[aI p n o v,PO rank,av,bv] w λe w'=>∃S,e=.returned (.tuple #[.bool S,PO (dJ p n o v rank ass bss)])/\(dJ p n o v rank ass bss=0->S=(Sa&&Sb))/\(dJ p n o v rank ass bss≠0->S=false)/\Io w w':=by
 obtain⟨w1,hw1⟩:∃w1,w1=w.alloc (.cells #[PO p,PO n,PO o,PO v] 23):=⟨_,rfl⟩;have hbx:bO w1 w.heap.size p n o v:=by rw[hw1];exact bO.new w p n o v _
 have HB1:Po (Io w w1):=by rw[hw1];exact aY
 obtain⟨w2,hw2⟩:∃w2,w2=w1.alloc (.cells #[av,bv] 24):=⟨_,rfl⟩;have HB2:Po (Io w1 w2):=by rw[hw2];exact ai
 have HB02:Po (Io w w2):=In HB1.o HB2.o;have HCK:Po (Calls prog 12 #[aI p n o v,PO rank,PM w1.heap.size 2 2] w2 λe w'=>e=.returned (PO (dJ p n o v rank ass bss))/\Io w2 w'):=by
  refine wh p n o v rank _ 2 av bv ass bss w2 (ha.below HB02.o) (hb.below HB02.o) ?_ ?_
  .rw[hw2];simp[go_sem]
  .rw[hw2];simp[go_sem]
 obtain⟨_,bx0,bx1,bx2,bx3⟩:=hbx;obtain⟨aa,ac,rfl,_⟩:=ha;obtain⟨ba,bc,rfl,_⟩:=hb;have HA:=ae HNA;have HB:=ae HNB;clear HNA HNB;unfold aI at HCK HA HB⊢;generalize dJ p n o v rank ass bss=E at HCK HA HB⊢;cases hE:(E !=0)
 rotate_left
 .have HE:Po (E≠0):=ae (by simpa using hE);clear HA HB;go_enter func5,ntmps5;go_upto_region 1 with fail;rw[<-hw1];clear hw1;go_wp2_with (rw[<-hw2];go_at_call 12;refine HCK.o.mono ?_;rintro e w3 ⟨rfl,q1⟩;have HB3:=ae (In HB02.o q1);clear q1);go_ret2;exact⟨false,rfl,λh=>(HE.o h).elim,λ_=>rfl,HB3.o⟩
 .have hz:E=0:=by simpa using hE
  subst hz;have HA2:=HA.o rfl;have HB2':=HB.o rfl;clear HA HB hE;cases Sa;all_goals
   go_enter func5,ntmps5;go_upto_region 1 with fail;rw[<-hw1];clear hw1;go_wp2_with (first|(rw[<-hw2];go_at_call 12;refine HCK.o.mono ?_;rintro e w3 ⟨rfl,q1⟩;have HB3:=ae (In HB02.o q1);have hk:=In HB2.o q1;have bx0:=af bx0 hk;have bx1:=af bx1 hk;have bx2:=af bx2 hk;have bx3:=af bx3 hk;clear q1 hk hw2)|((with_reducible show Calls _ _ _ w3 _);go_at_call 13;refine(HA2.o _ HB3.o).mono ?_;rintro e w4 ⟨rfl,q1⟩;have HB4:=ae (In HB3.o q1);have bx0:=af bx0 q1;have bx1:=af bx1 q1;have bx2:=af bx2 q1;have bx3:=af bx3 q1;clear q1)|(go_at_call 13;refine(HB2'.o _ HB4.o).mono ?_;rintro e w5 ⟨rfl,q1⟩;have HB4:=ae (In HB4.o q1);clear q1));go_ret2;exact⟨_,rfl,λ_=>by simp,λh=>(h rfl).elim,HB4.o⟩
end Go.Proofs.YtjkalahhpobefaaGreat
