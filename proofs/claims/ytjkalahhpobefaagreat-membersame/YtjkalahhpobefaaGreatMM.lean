/- basis.Check: anyPoly with its own closure, and the whole. -/
import Derived.Test.YtjkalahhpobefaaGreatKK
set_option maxHeartbeats 4000000
set_option maxRecDepth 100000
namespace Go.Proofs.YtjkalahhpobefaaGreat
set_option linter.all false
open Go.Proofs.Tryz Go.RowKit
def ID(f:Lt):Prop:=(∀t∈f,0<t.2.length/\t.2.length<=3)/\∀t∈f,∀e∈t.2,0<=e/\e<=400
def ip(T:Lt->Bool)(v:OG):Bool:=v.any T
theorem IE(cf:FuncId)(hcf:cf=65\/False)(T:Lt->Bool)(Ok:Lt->Prop)(hcl:∀(u:OR) f (W:OQ),Pl W u f->Ok f->Calls prog cf #[u] W λe w'=>e=.returned (.bool (T f))/\w'=W)(v:OR)(fs:OG)(w:OQ)(hv:Vl w v fs)(hn:fs.length<=1000000)(hok:∀f∈fs,Ok f):Calls prog 133 #[v,.func (.func cf) #[] #[]] w λe w'=>∃r:Int,e=.returned (OW r)∧-1<=r/\(decide (0<=r)=fs.any T)/\w'=w:=by
 have e41:cf=65:=hcf.elim id False.elim;clear hcf;subst e41;all_goals
  have HOK:=ae hok;have HCL:=ae hcl;obtain⟨xa,xc,rfl,hp⟩:=hv;have HP:=ae hp;clear hok hp hcl;go_enter func133,ntmps133;go_wp2_with fail;go_loopw [8] (λi wr=>∃m:Nat,m<=fs.length/\i=OW m/\(∀j (h:j<fs.length),j<m->T fs[j]=false)/\wr=w) (λi _=>fs.length-(intOf i).toNat);case atStart=>exact⟨0,NS _,rfl,λj _ h=>by omega,rfl⟩
  case round=>
   obtain⟨m,hm,rfl,hno,rfl⟩:=hrel;have HNO:=ae hno;clear hno;by_cases hm2:m<fs.length
   .obtain⟨b,off,rfl,hlt,hpl⟩:=HP.o (by omega);obtain⟨u,hu,hpu⟩:=hpl m hm2;have e:fs.getD m []=fs[m]:=by rw[NY,NZ hm2];rfl
    rw[e] at hpu;have hk:=HOK.o fs[m] (NV hm2);have HC:=ae (HCL.o u fs[m] _ hpu hk);obtain⟨ua,uc,rfl,_,_⟩:=hpu;have HFI:OE (T fs[m]=true->decide ((0:Int)<=(m:Int))=fs.any T):=λh=>by show _=_;rw[List.any_eq_true.2 ⟨fs[m],NV hm2,h⟩];simp
    have HNX:OE (T fs[m]=false->∀j (h:j<fs.length),j<m+1->T fs[j]=false):=λh j hj hjm=>by
     rcases Nat.lt_succ_iff_lt_or_eq.1 hjm with h2|rfl
     .exact HNO.o j hj h2
     .exact h
    clear hpl hk e;generalize fs[m]=f at HC HFI HNX hu;cases hh:T f with
    |false=>
     rw[hh] at HC;have HN:=ae (HNX.o hh);clear hh HNX HFI;go_wp2_with (refine HC.o.mono ?_;rintro e w9 ⟨rfl,rfl⟩);go_roundw;case rel=>exact⟨m+1,by omega,by go_num,HN.o,by trivial⟩
     case measure=>simp[intOf];omega
    |true=>rw[hh] at HC;have HN:=ae (HFI.o hh);clear hh HNX HFI;go_wp2_with (refine HC.o.mono ?_;rintro e w9 ⟨rfl,rfl⟩);go_ret;exact⟨m,rfl,by omega,HN.o,rfl⟩
   .have e:m=fs.length:=by omega
    subst e;have HE:OE (decide ((0:Int)≤-1)=fs.any T):=by
     show _=_;rw[List.any_eq_false.2 λf hf=>by
      obtain⟨j,hj,rfl⟩:=List.getElem_of_mem hf;simp[HNO.o j hj hj]]
     rfl
    go_wp2;go_ret;exact⟨-1,rfl,by omega,HE.o,rfl⟩
theorem IF(cf:FuncId)(hcf:cf=65\/False)(T:Lt->Bool)(Ok:Lt->Prop)(hcl:∀(u:OR) f (W:OQ),Pl W u f->Ok f->Calls prog cf #[u] W λe w'=>e=.returned (.bool (T f))/\w'=W)(v:OR)(fs:OG)(w:OQ)(hv:Vl w v fs)(hn:fs.length<=1000000)(hok:∀f∈fs,Ok f):Calls prog 103 #[v,.func (.func cf) #[] #[]] w λe w'=>e=.returned (.bool (fs.any T))/\w'=w:=by have HIX:=ae (IE cf hcf T Ok hcl v fs w hv hn hok);obtain⟨xa,xc,rfl,_⟩:=hv;clear hok hcl hcf;go_enter func103,ntmps103;go_wp2_with (go_at_call 133;refine HIX.o.mono ?_;rintro e w9 ⟨r9,rfl,h1,h2,rfl⟩;have H2:=ae h2;clear h2);go_ret;exact⟨by rw[<-H2.o];rfl,rfl⟩
theorem IG(cf:FuncId)(hcf:cf=65\/False)(T:Lt->Bool)(Ok:Lt->Prop)(hcl:∀(u:OR) f (W:OQ),Pl W u f->Ok f->Calls prog cf #[u] W λe w'=>e=.returned (.bool (T f))/\w'=W)(cb:Nat)(v:OR)(fs:OG)(w:OQ)(hcb:w.cell? (OV cb 0)=some (.func (.func cf) #[] #[]))(hv:Vl w v fs)(hn:fs.length<=1000000)(hok:∀f∈fs,Ok f):Calls prog 102 #[v,OS cb] w λe w'=>e=.returned (.bool (ip T fs))/\w'=w:=by have HC:=ae (IF cf hcf T Ok hcl v fs w hv hn hok);obtain⟨xa,xc,rfl,_⟩:=hv;unfold ip;generalize fs.any T=r at HC⊢;clear hok hcl;go_enter func102,ntmps102;go_wp2_with (go_at_call 103;refine HC.o.mono ?_;rintro e w9 ⟨rfl,rfl⟩);go_ret;exact⟨rfl,rfl⟩
theorem II(cf:FuncId)(hcf:cf=65\/False)(T:Lt->Bool)(Ok:Lt->Prop)(hcl:∀(u:OR) f (W:OQ),Pl W u f->Ok f->Calls prog cf #[u] W λe w'=>e=.returned (.bool (T f))/\w'=W)(cb:Nat)(v:OR)(vss:OH)(w:OQ)(hcb:w.cell? (OV cb 0)=some (.func (.func cf) #[] #[]))(hv:Wl w v vss)(hn:vss.length<=1000000)(hok:∀f∈vss,f.length<=1000000/\∀g∈f,Ok g):Calls prog 67 #[v,.func (.func 102) #[] #[OS cb]] w λe w'=>∃r:Int,e=.returned (OW r)∧-1<=r/\(decide (0<=r)=vss.any (ip T))/\w'=w:=by
 have HOK:=ae hok;have HCL:=ae hcl;obtain⟨xa,xc,rfl,hp⟩:=hv;have HP:=ae hp;clear hok hp hcl;go_enter func67,ntmps67;go_wp2_with fail;go_loopw [8] (λi wr=>∃m:Nat,m<=vss.length/\i=OW m/\(∀j (h:j<vss.length),j<m->(ip T) vss[j]=false)/\wr=w) (λi _=>vss.length-(intOf i).toNat);case atStart=>exact⟨0,NS _,rfl,λj _ h=>by omega,rfl⟩
 case round=>
  obtain⟨m,hm,rfl,hno,rfl⟩:=hrel;have HNO:=ae hno;clear hno;by_cases hm2:m<vss.length
  .obtain⟨b,off,rfl,hlt,hpl⟩:=HP.o (by omega);obtain⟨u,hu,hpu⟩:=hpl m hm2;have e:vss.getD m []=vss[m]:=by rw[NY,NZ hm2];rfl
   rw[e] at hpu;have hk:=HOK.o vss[m] (NV hm2);have HC:=ae (IG cf hcf T Ok HCL.o cb u vss[m] _ hcb hpu hk.1 hk.2);obtain⟨ua,uc,rfl,_⟩:=hpu;have HFI:OE ((ip T) vss[m]=true->decide ((0:Int)<=(m:Int))=vss.any (ip T)):=λh=>by show _=_;rw[List.any_eq_true.2 ⟨vss[m],NV hm2,h⟩];simp
   have HNX:OE ((ip T) vss[m]=false->∀j (h:j<vss.length),j<m+1->(ip T) vss[j]=false):=λh j hj hjm=>by
    rcases Nat.lt_succ_iff_lt_or_eq.1 hjm with h2|rfl
    .exact HNO.o j hj h2
    .exact h
   clear hpl hk e;generalize vss[m]=f at HC HFI HNX hu;cases hh:(ip T) f with
   |false=>
    rw[hh] at HC;have HN:=ae (HNX.o hh);clear hh HNX HFI;go_wp2_with (go_at_call 102;refine HC.o.mono ?_;rintro e w9 ⟨rfl,rfl⟩);go_roundw;case rel=>exact⟨m+1,by omega,by go_num,HN.o,by trivial⟩
    case measure=>simp[intOf];omega
   |true=>rw[hh] at HC;have HN:=ae (HFI.o hh);clear hh HNX HFI;go_wp2_with (go_at_call 102;refine HC.o.mono ?_;rintro e w9 ⟨rfl,rfl⟩);go_ret;exact⟨m,rfl,by omega,HN.o,rfl⟩
  .have e:m=vss.length:=by omega
   subst e;have HE:OE (decide ((0:Int)≤-1)=vss.any (ip T)):=by
    show _=_;rw[List.any_eq_false.2 λf hf=>by
     obtain⟨j,hj,rfl⟩:=List.getElem_of_mem hf;simp[HNO.o j hj hj]]
    rfl
   go_wp2;go_ret;exact⟨-1,rfl,by omega,HE.o,rfl⟩
theorem IJ(cf:FuncId)(hcf:cf=65\/False)(T:Lt->Bool)(Ok:Lt->Prop)(hcl:∀(u:OR) f (W:OQ),Pl W u f->Ok f->Calls prog cf #[u] W λe w'=>e=.returned (.bool (T f))/\w'=W)(cb:Nat)(v:OR)(vss:OH)(w:OQ)(hcb:w.cell? (OV cb 0)=some (.func (.func cf) #[] #[]))(hv:Wl w v vss)(hn:vss.length<=1000000)(hok:∀f∈vss,f.length<=1000000/\∀g∈f,Ok g):Calls prog 33 #[v,.func (.func 102) #[] #[OS cb]] w λe w'=>e=.returned (.bool (vss.any (ip T)))/\w'=w:=by have HIX:=ae (II cf hcf T Ok hcl cb v vss w hcb hv hn hok);obtain⟨xa,xc,rfl,_⟩:=hv;clear hok hcb hcl;go_enter func33,ntmps33;go_wp2_with (go_at_call 67;refine HIX.o.mono ?_;rintro e w9 ⟨r9,rfl,h1,h2,rfl⟩;have H2:=ae h2;clear h2);go_ret;exact⟨by rw[<-H2.o];rfl,rfl⟩
theorem IK(cf:FuncId)(hcf:cf=65\/False)(T:Lt->Bool)(Ok:Lt->Prop)(hcl:∀(u:OR) f (W:OQ),Pl W u f->Ok f->Calls prog cf #[u] W λe w'=>e=.returned (.bool (T f))/\w'=W)(v:OR)(vss:OH)(w:OQ)(hv:Wl w v vss)(hn:vss.length<=1000000)(hok:∀f∈vss,f.length<=1000000/\∀g∈f,Ok g):Calls prog 64 #[v,.func (.func cf) #[] #[]] w λe w'=>e=.returned (.bool (vss.any (ip T)))/\LT w w':=by
 obtain⟨w1,hw1⟩:∃w1,w1=w.alloc (.cells #[.func (.func cf) #[] #[]] 99):=⟨_,rfl⟩;have HB1:OE (LT w w1):=by rw[hw1];exact ai
 have hc1:w1.cell? (OV w.heap.size 0)=some (.func (.func cf) #[] #[]):=by rw[hw1];simp[go_sem]
 have HC:=ae (IJ cf hcf T Ok hcl w.heap.size v vss w1 hc1 (hv.below HB1.o) hn hok);obtain⟨xa,xc,rfl,_⟩:=hv;generalize vss.any (ip T)=r at HC⊢;clear hok hc1 hcl;go_enter func64,ntmps64;go_upto_region 1 with fail;rw[<-hw1];clear hw1;go_wp2_with (go_at_call 33;refine HC.o.mono ?_;rintro e w9 ⟨rfl,rfl⟩);go_ret;exact⟨rfl,HB1.o⟩
theorem By:∀(ts:Lt)(m:Int),(∀t∈ts,aj t.2<=m)->da m ts=m
 |[],m,_=>rfl
 |t::ts,m,h=>by have h1:=h t (by simp);simp only[da];rw[Oc (by omega)];exact By ts m λu hu=>h u (by simp[hu])
variable{f:Lt}{N:Nat}{p o:Int}
theorem Bz(h:fO p o N f):decide (3<da (-1) f)=decide (3<rL f):=by
 cases f with
 |nil=>rfl
 |cons t ts=>
  have h1:=oa h.canon;have h0:0<=aj t.2:=vO λx hx=>(h.bd t (by simp) x hx).1;have e:da (-1) (t::ts)=aj t.2:=by simp only[da];rw[Oe (by omega)];exact By ts _ λu hu=>h1 u (by simp[hu])
  rw[e];rfl
theorem BA(hn:0<N)(h3:N<=3)(h:fO p o N f):ID f:=by
 refine⟨λt ht=>?_,λt ht e he=>?_⟩
 .have:=h.canon.len t ht;omega
 .have h0:∀x∈t.2,0<=x:=λx hx=>(h.bd t ht x hx).1;have h1:=BB h0 e he;have h2:=h.deg t ht;have h4:=h0 e he;omega
def pw(f:Lt):Bool:=decide (6<f.length)||decide (3<rL f)
theorem IL(v:OR)(f:Lt)(w:OQ)(hv:Pl w v f)(hok:∀t∈f,0<t.2.length/\t.2.length<=3)(hb:∀t∈f,∀e∈t.2,0<=e/\e<=400):Calls prog 65 #[v] w λe w'=>e=.returned (.bool (pw f))/\w'=w:=by
 have HD:=ae (IM v f w hv hok hb);unfold pw;obtain⟨xa,xc,rfl,_,_⟩:=hv;generalize rL f=d at HD⊢;clear hok hb;by_cases hl:6<f.length
 .have hl2:decide ((6:Int)<(f.length:Int))=true:=NP (by omega);rw[NP hl,Bool.true_or];go_enter func65,ntmps65;go_wp2_with (go_at_call 66;refine HD.o.mono ?_;rintro e w9 ⟨rfl,rfl⟩);go_ret;exact⟨rfl,rfl⟩
 .have hl2:decide ((6:Int)<(f.length:Int))=false:=NO (by omega);rw[NO hl,Bool.false_or];go_enter func65,ntmps65;go_wp2_with (go_at_call 66;refine HD.o.mono ?_;rintro e w9 ⟨rfl,rfl⟩);go_ret;exact⟨rfl,rfl⟩
theorem vP{α:Type}{f g:α->Bool}:∀{l:List α},(∀x∈l,f x=g x)->l.any f=l.any g
 |[],_=>rfl
 |x::l,h=>by rw[List.any_cons,List.any_cons,h x (by simp),vP λy hy=>h y (by simp[hy])]
theorem BC(p n o v rank:Int)(lv:OR)(vss:OH)(w:OQ)(hs:Wl w lv vss):Calls prog 32 #[aI p n o v,OW rank,lv] w λe w'=>e=.returned (OW (cr p n o v rank vss))/\LT w w':=by
 have HS:=ae hs;obtain⟨w1,hw1⟩:∃w1,w1=w.alloc (.cells #[OW p,OW n,OW o,OW v] 23):=⟨_,rfl⟩;have hbx:bA w1 w.heap.size p n o v:=by rw[hw1];exact bA.new w p n o v _
 have HBW:OE (LT w w1):=by rw[hw1];exact bE
 have HCV:=ae (pz p n o v rank lv vss w1 (hs.below HBW.o));obtain⟨la,lc,rfl,_⟩:=hs;unfold aI at HCV;unfold aI;obtain⟨_,bx0,bx1,bx2,bx3⟩:=hbx;cases hev:(cD p n o v rank vss !=0)
 rotate_left
 .have HE:=ae (vQ (show cD p n o v rank vss≠0 by simpa using hev));rw[HE.o];go_enter func32,ntmps32;go_upto_region 1 with fail;rw[<-hw1];clear hw1;go_wp2_with (go_at_call 24;refine HCV.o.mono ?_;rintro e w2 ⟨rfl,q1⟩;have HB2:=ae q1;clear q1);go_ret;exact⟨rfl,Io HBW.o HB2.o⟩
 .have hz:cD p n o v rank vss=0:=by simpa using hev
  have HZ:=ae hz;obtain⟨hR,hrk,hvl,hall⟩:=rM hz;obtain⟨_,hn1,hn3,_,_⟩:=kg hR;have HRT:OE (∀g∈vss,∀f∈g,fO p o n.toNat f):=λg hg f hf=>by have h:=(hall g hg).2 f hf;rw[show n=(n.toNat:Int) by omega] at h;exact rN h
  have HAL:OE (∀g∈vss,g.length<=1000000):=λg hg=>by have:=(hall g hg).1;omega
  have HN:=ae (NN hn1 hn3);rw[hz] at HCV;clear hz hall hR hev hn1 hn3;by_cases hr3:3<rank
  .have HE:=ae (rO HZ.o (Ox hr3));rw[HE.o];have hd3:decide (3<rank)=true:=by simpa using hr3
   go_enter func32,ntmps32;go_upto_region 1 with fail;rw[<-hw1];clear hw1;go_wp2_with (go_at_call 24;refine HCV.o.mono ?_;rintro e w2 ⟨rfl,q1⟩;have HB2:=ae q1;clear q1);go_ret;exact⟨rfl,Io HBW.o HB2.o⟩
  .have hd3:decide (3<rank)=false:=by simpa using hr3
   by_cases hl4:4<vss.length
   .have HE:=ae (rO HZ.o (Oy hl4));rw[HE.o];have ig:decide ((4:Int)<(vss.length:Int))=true:=NP (by omega);go_enter func32,ntmps32;go_upto_region 1 with fail;rw[<-hw1];clear hw1;go_wp2_with (go_at_call 24;refine HCV.o.mono ?_;rintro e w2 ⟨rfl,q1⟩;have HB2:=ae q1;clear q1);go_ret;exact⟨rfl,Io HBW.o HB2.o⟩
   .have ig:decide ((4:Int)<(vss.length:Int))=false:=NO (by omega);have HE:=ae (rP HZ.o (show¬(3<rank\/4<vss.length) by omega));have HAN:OE (∀W,LT w W->Calls prog 64 #[.slice la vss.length lc,.func (.func 65) #[] #[]] W λe w'=>e=.returned (.bool (vss.any iq))/\LT W w'):=λW hW=>by
     have h:=IK 65 (Ox rfl) pw (λf=>fO p o n.toNat f) (λu f W h1 h2=>IL u f W h1 (BA (by have:=HN.o;omega) (by have:=HN.o;omega) h2).1 (BA (by have:=HN.o;omega) (by have:=HN.o;omega) h2).2) (.slice la vss.length lc) vss W (HS.o.below hW) (by omega) (λg hg=>⟨HAL.o g hg,HRT.o g hg⟩);have e:vss.any (ip pw)=vss.any iq:=vP λg hg=>vP λf hf=>by unfold pw gB;rw[Bz (HRT.o g hg f hf)]
     rw[e] at h;exact h
    rw[HE.o];unfold lB;cases hbg:vss.any iq
    .rw[hbg] at HAN;rw[Oc (by simp)];go_enter func32,ntmps32;go_upto_region 1 with fail;rw[<-hw1];clear hw1;go_upto_region 6 with (go_at_call 24;refine HCV.o.mono ?_;rintro e w2 ⟨rfl,q1⟩;have HB2:=ae (Io HBW.o q1);clear q1);go_wp2_with (go_at_call 64;refine(HAN.o _ HB2.o).mono ?_;rintro e w3 ⟨rfl,q1⟩;have HB3:=ae q1;clear q1);go_ret;exact⟨rfl,Io HB2.o HB3.o⟩
    .rw[hbg] at HAN;rw[Oe rfl];go_enter func32,ntmps32;go_upto_region 1 with fail;rw[<-hw1];clear hw1;go_upto_region 6 with (go_at_call 24;refine HCV.o.mono ?_;rintro e w2 ⟨rfl,q1⟩;have HB2:=ae (Io HBW.o q1);clear q1);go_wp2_with (go_at_call 64;refine(HAN.o _ HB2.o).mono ?_;rintro e w3 ⟨rfl,q1⟩;have HB3:=ae q1;clear q1);go_ret;exact⟨rfl,Io HB2.o HB3.o⟩
def cW(p n o v rank:Int)(a b:OH):Int:=if cr p n o v rank a≠0 then cr p n o v rank a else cr p n o v rank b
theorem vR(p n o v rank:Int)(b c:Nat)(av bv:OR)(ass bss:OH)(w:OQ)(ha:Wl w av ass)(hb:Wl w bv bss)(c0:w.cell? (OV b 0)=some av)(c1:w.cell? (OV b 1)=some bv):Calls prog 12 #[aI p n o v,OW rank,OU b 2 c] w λe w'=>e=.returned (OW (cW p n o v rank ass bss))/\LT w w':=by
 obtain⟨w1,hw1⟩:∃w1,w1=w.alloc (.cells #[OW p,OW n,OW o,OW v] 23):=⟨_,rfl⟩;have hbx:bA w1 w.heap.size p n o v:=by rw[hw1];exact bA.new w p n o v _
 have HB1:OE (LT w w1):=by rw[hw1];exact bE
 obtain⟨_,bx0,bx1,bx2,bx3⟩:=hbx;have HCA:OE (∀W,LT w W->Calls prog 32 #[aI p n o v,OW rank,av] W λe w'=>e=.returned (OW (cr p n o v rank ass))/\LT W w'):=λW h=>BC p n o v rank av ass W (ha.below h);have HCB:OE (∀W,LT w W->Calls prog 32 #[aI p n o v,OW rank,bv] W λe w'=>e=.returned (OW (cr p n o v rank bss))/\LT W w'):=λW h=>BC p n o v rank bv bss W (hb.below h);have k0:=af c0 HB1.o;have k1:=af c1 HB1.o;obtain⟨aa,ac,rfl,_⟩:=ha;obtain⟨ba,bc,rfl,_⟩:=hb;have HET:OE ((cr p n o v rank ass=0->cW p n o v rank ass bss=cr p n o v rank bss)/\(cr p n o v rank ass≠0->cW p n o v rank ass bss=cr p n o v rank ass)):=by
  constructor
  .intro h;unfold cW;rw[Oc (by simpa using h)]
  .intro h;unfold cW;rw[Oe h]
 unfold aI at HCA HCB;unfold aI;clear c0 c1;cases hea:(cr p n o v rank ass !=0)
 rotate_left
 .have HE:=ae (HET.o.2 (by simpa using hea));rw[HE.o];generalize cr p n o v rank ass=ea at hea HCA;go_enter func12,ntmps12;go_wp2_with fail;refine wp_loop_rounds 3 ?_;rw[rounds_succ];rw[<-hw1];clear hw1;go_wp2_with (go_at_call 32;refine(HCA.o _ HB1.o).mono ?_;rintro e w2 ⟨rfl,q1⟩;have HB2:=ae q1;clear q1);go_ret;exact⟨rfl,Io HB1.o HB2.o⟩
 .have hz:cr p n o v rank ass=0:=by simpa using hea
  have HE:=ae (HET.o.1 hz);rw[HE.o];rw[hz] at HCA;clear hea;cases heb:(cr p n o v rank bss !=0)
  rotate_left
  .generalize cr p n o v rank bss=eb at heb HCB;go_enter func12,ntmps12;go_wp2_with fail;refine wp_loop_rounds 3 ?_;rw[rounds_succ];rw[<-hw1];clear hw1;go_wp2_with (go_at_call 32;refine(HCA.o _ HB1.o).mono ?_;rintro e w2 ⟨rfl,q1⟩;have HB2:=ae (Io HB1.o q1);have k1:=af k1 q1;have bx0:=af bx0 q1;have bx1:=af bx1 q1;have bx2:=af bx2 q1;have bx3:=af bx3 q1;clear q1);rw[rounds_succ];go_wp2_with (go_at_call 32;refine(HCB.o _ HB2.o).mono ?_;rintro e w3 ⟨rfl,q1⟩;have HB3:=ae (Io HB2.o q1);clear q1);go_ret;exact⟨rfl,HB3.o⟩
  .have hz2:cr p n o v rank bss=0:=by simpa using heb
   rw[hz2] at HCB⊢;clear heb;go_enter func12,ntmps12;go_wp2_with fail;refine wp_loop_rounds 3 ?_;rw[rounds_succ];rw[<-hw1];clear hw1;go_wp2_with (go_at_call 32;refine(HCA.o _ HB1.o).mono ?_;rintro e w2 ⟨rfl,q1⟩;have HB2:=ae (Io HB1.o q1);have k1:=af k1 q1;have bx0:=af bx0 q1;have bx1:=af bx1 q1;have bx2:=af bx2 q1;have bx3:=af bx3 q1;clear q1);rw[rounds_succ];go_wp2_with (go_at_call 32;refine(HCB.o _ HB2.o).mono ?_;rintro e w3 ⟨rfl,q1⟩;have HB3:=ae (Io HB2.o q1);clear q1);rw[rounds_succ];go_wp2_with fail;go_ret;exact⟨rfl,HB3.o⟩
theorem BD{α:Type}(f:α->Bool)(l:List (List α))(k:Nat)(h:k<l.length)(g:List α->Bool):(l.take (k+1)).all g=((l.take k).all g&&g (l.getD k [])):=by
 have e:l.take (k+1)=l.take k++[l.getD k []]:=by rw[List.take_add_one,NY,NZ h];rfl
 rw[e,List.all_append];simp
theorem IN(p n o v rank:Int)(aa ba:Option Addr)(ac bc:Nat)(ass bss:OH)(ta tb:OG->Bool)(w:OQ)(ha:Wl w (.slice aa ass.length ac) ass)(hb:Wl w (.slice ba bss.length bc) bss)(hla:ass.length<=4)(hlb:bss.length<=4)(HSM:OE (∀W,LT w W->Calls prog 5 #[.agg #[OW p,OW n,OW o,OW v],OW rank,.slice aa ass.length ac,.slice ba bss.length bc] W λe w'=>e=.returned (.tuple #[.bool (bss.all ta&&ass.all tb),OW 0])/\LT W w'))(HCA:OE (∀W,LT w W->Calls prog 6 #[.agg #[OW p,OW n,OW o,OW v],OW rank,.slice aa ass.length ac] W λe w'=>e=.returned (OW 0)/\LT W w'))(HCB:OE (∀W,LT w W->Calls prog 6 #[.agg #[OW p,OW n,OW o,OW v],OW rank,.slice ba bss.length bc] W λe w'=>e=.returned (OW 0)/\LT W w'))(HBG:OE (∀W,Calls prog 7 #[] W λe w'=>e=.returned (.bool true)/\LT W w'))(HIA:OE (∀W gv,∀g∈ass,LT w W->Vl W gv g->Calls prog 8 #[.agg #[OW p,OW n,OW o,OW v],OW rank,gv,.slice ba bss.length bc] W λe w'=>e=.returned (.tuple #[.bool (tb g),OW 0])/\LT W w'))(HIB:OE (∀W gv,∀g∈bss,LT w W->Vl W gv g->Calls prog 8 #[.agg #[OW p,OW n,OW o,OW v],OW rank,gv,.slice aa ass.length ac] W λe w'=>e=.returned (.tuple #[.bool (ta g),OW 0])/\LT W w')):Calls prog 3 #[.agg #[OW p,OW n,OW o,OW v],OW rank,.slice aa ass.length ac,.slice ba bss.length bc] w λe w'=>e=.returned (.bool true)/\LT w w':=by
 have HA:=ae ha;have HB:=ae hb;clear ha hb;obtain⟨w1,hw1⟩:∃w1,w1=w.alloc (.cells #[OW p,OW n,OW o,OW v] 23):=⟨_,rfl⟩;have hbx:bA w1 w.heap.size p n o v:=by rw[hw1];exact bA.new w p n o v _
 have HBA:OE (LT w w1):=by rw[hw1];exact bE
 obtain⟨_,bx0,bx1,bx2,bx3⟩:=hbx;go_enter func3,ntmps3;go_upto_region 1 with fail;rw[<-hw1];clear hw1;go_upto_region 10 with (first|(go_at_call 5;refine(HSM.o _ HBA.o).mono ?_;rintro e w2 ⟨rfl,q1⟩;have HBA:=ae (Io HBA.o q1);have bx0:=af bx0 q1;have bx1:=af bx1 q1;have bx2:=af bx2 q1;have bx3:=af bx3 q1;clear q1)|((with_reducible show Calls _ _ _ w2 _);go_at_call 6;refine(HCA.o _ HBA.o).mono ?_;rintro e w3 ⟨rfl,q1⟩;have HBA:=ae (Io HBA.o q1);have bx0:=af bx0 q1;have bx1:=af bx1 q1;have bx2:=af bx2 q1;have bx3:=af bx3 q1;clear q1)|(go_at_call 6;refine(HCB.o _ HBA.o).mono ?_;rintro e w4 ⟨rfl,q1⟩;have HBA:=ae (Io HBA.o q1);have bx0:=af bx0 q1;have bx1:=af bx1 q1;have bx2:=af bx2 q1;have bx3:=af bx3 q1;clear q1)|(go_at_call 7;refine(HBG.o _).mono ?_;rintro e w5 ⟨rfl,q1⟩;have HBA:=ae (Io HBA.o q1);have bx0:=af bx0 q1;have bx1:=af bx1 q1;have bx2:=af bx2 q1;have bx3:=af bx3 q1;clear q1));have HS1:OE (∀k,k<ass.length->(ass.take (k+1)).all tb=((ass.take k).all tb&&tb (ass.getD k []))):=λk hk=>BD (α:=Lt) (λ_=>true) ass k hk tb;have HS2:OE (∀k,k<bss.length->(bss.take (k+1)).all ta=((bss.take k).all ta&&ta (bss.getD k []))):=λk hk=>BD (α:=Lt) (λ_=>true) bss k hk ta;have HM1:OE (∀k,k<ass.length->ass.getD k []∈ass):=λk hk=>by rw[NY,NZ hk];exact NV hk
 have HM2:OE (∀k,k<bss.length->bss.getD k []∈bss):=λk hk=>by rw[NY,NZ hk];exact NV hk
 clear HSM HCA HCB HBG;go_wp2_with fail;go_loopw [12,13] (λs1 s2 wr=>∃k:Nat,k<=ass.length/\s2=OW k/\s1=.bool ((ass.take k).all tb)/\LT w5 wr) (λ_ s2 _=>ass.length-(intOf s2).toNat);case atStart=>exact⟨0,NS _,rfl,rfl,NM _ _⟩
 case round=>
  rename OQ=>wr;obtain⟨k,hk,rfl,rfl,hbr⟩:=hrel;have HBR:=ae hbr;have HBW:OE (LT w wr):=Io HBA.o hbr;clear hbr;by_cases hk2:k<ass.length
  .have hkI:(k:Int)<(ass.length:Int):=by omega
   obtain⟨xb,xoff,va,vc,hxa,hxl,hxc,hxv⟩:=lC HA.o k hk2;have HIN:OE (∀W,LT wr W->Calls prog 8 #[.agg #[OW p,OW n,OW o,OW v],OW rank,.slice va (ass.getD k []).length vc,.slice ba bss.length bc] W λe w'=>e=.returned (.tuple #[.bool (tb (ass.getD k [])),OW 0])/\LT W w'):=λW hb=>by have h:=Io HBW.o hb;exact HIA.o W _ _ (HM1.o k hk2) h (hxv.below h)
   have HSS:=ae (HS1.o k hk2);have hxc2:=af hxc HBW.o;have hk0:∀P:bu wr,P.w'.cell? (OV w.heap.size 0)=some (OW p):=λP=>af (af bx0 HBR.o) P.h;have hk1:∀P:bu wr,P.w'.cell? (OV w.heap.size 1)=some (OW n):=λP=>af (af bx1 HBR.o) P.h;have hk2':∀P:bu wr,P.w'.cell? (OV w.heap.size 2)=some (OW o):=λP=>af (af bx2 HBR.o) P.h;have hk3:∀P:bu wr,P.w'.cell? (OV w.heap.size 3)=some (OW v):=λP=>af (af bx3 HBR.o) P.h;have hk4:∀P:bu wr,P.w'.cell? (OV xb (xoff+k))=some (.slice va (ass.getD k []).length vc):=λP=>af hxc2 P.h;have hne:Nonempty (bu wr):=⟨⟨wr,NM _ _⟩⟩;clear hxc hxc2 hxl hxv;subst hxa;generalize tb (ass.getD k [])=tk at HIN HSS;generalize (ass.getD k []).length=gl at HIN hk4;generalize (ass.take k).all tb=tt at HSS⊢;go_upto_region 13 with fail;refine eT (by kernel_rfl) (by kernel_rfl) ?_;repeat (go_big_quiet_step (first|(go_at_call 8;exact Calls.below_of (HIN.o _ (bu.h _)))))
   refine wpQuiet_nil ?_;intro w8 hw';obtain⟨⟨w9,hb9⟩,rfl⟩:=hw';have HBN:=ae (Io HBR.o hb9);clear hb9 hne hk0 hk1 hk2' hk3 hk4;cases tt<;>cases tk;all_goals
    go_wp2_with fail;exact⟨⟨k+1,by omega,by go_num,by rw[HSS.o];rfl,HBN.o⟩,by simp[intOf];omega⟩
  .have e:k=ass.length:=by omega
   subst e;rw[N5 (NL _)];have HBV:=ae HBR.o;clear HBR HBW HIA HS1 HM1;go_wp2_with fail;go_loopw [12,16] (λs1 s2 wr=>∃k:Nat,k<=bss.length/\s2=OW k/\s1=.bool (ass.all tb&&(bss.take k).all ta)/\LT w5 wr) (λ_ s2 _=>bss.length-(intOf s2).toNat);case atStart=>exact⟨0,NS _,rfl,by simp,HBV.o⟩
   case round=>
    rename OQ=>wr;obtain⟨k,hk,rfl,rfl,hbr⟩:=hrel;have HBR:=ae hbr;have HBW:OE (LT w wr):=Io HBA.o hbr;clear hbr;by_cases hk2:k<bss.length
    .have hkI:(k:Int)<(bss.length:Int):=by omega
     obtain⟨xb,xoff,va,vc,hxa,hxl,hxc,hxv⟩:=lC HB.o k hk2;have HIN:OE (∀W,LT wr W->Calls prog 8 #[.agg #[OW p,OW n,OW o,OW v],OW rank,.slice va (bss.getD k []).length vc,.slice aa ass.length ac] W λe w'=>e=.returned (.tuple #[.bool (ta (bss.getD k [])),OW 0])/\LT W w'):=λW hb=>by have h:=Io HBW.o hb;exact HIB.o W _ _ (HM2.o k hk2) h (hxv.below h)
     have HSS:=ae (HS2.o k hk2);have hxc2:=af hxc HBW.o;have hk0:∀P:bu wr,P.w'.cell? (OV w.heap.size 0)=some (OW p):=λP=>af (af bx0 HBR.o) P.h;have hk1:∀P:bu wr,P.w'.cell? (OV w.heap.size 1)=some (OW n):=λP=>af (af bx1 HBR.o) P.h;have hk2':∀P:bu wr,P.w'.cell? (OV w.heap.size 2)=some (OW o):=λP=>af (af bx2 HBR.o) P.h;have hk3:∀P:bu wr,P.w'.cell? (OV w.heap.size 3)=some (OW v):=λP=>af (af bx3 HBR.o) P.h;have hk4:∀P:bu wr,P.w'.cell? (OV xb (xoff+k))=some (.slice va (bss.getD k []).length vc):=λP=>af hxc2 P.h;have hne:Nonempty (bu wr):=⟨⟨wr,NM _ _⟩⟩;clear hxc hxc2 hxl hxv;subst hxa;generalize ta (bss.getD k [])=tk at HIN HSS;generalize (bss.getD k []).length=gl at HIN hk4;have HSS2:OE ((ass.all tb&&(bss.take (k+1)).all ta)=((ass.all tb&&(bss.take k).all ta)&&tk)):=by show _=_;rw[HSS.o,Bool.and_assoc]
     clear HSS;have HSS:=HSS2;clear HSS2;generalize (ass.all tb&&(bss.take k).all ta)=tt at HSS⊢;go_upto_region 18 with fail;refine eT (by kernel_rfl) (by kernel_rfl) ?_;repeat (go_big_quiet_step (first|(go_at_call 8;exact Calls.below_of (HIN.o _ (bu.h _)))))
     refine wpQuiet_nil ?_;intro w8 hw';obtain⟨⟨w9,hb9⟩,rfl⟩:=hw';have HBN:=ae (Io HBR.o hb9);clear hb9 hne hk0 hk1 hk2' hk3 hk4;cases tt<;>cases tk;all_goals
      go_wp2_with fail;exact⟨⟨k+1,by omega,by go_num,by rw[HSS.o];rfl,HBN.o⟩,by simp[intOf];omega⟩
    .have e:k=bss.length:=by omega
     subst e;rw[N5 (NL _),Bool.and_comm];generalize (bss.all ta&&ass.all tb)=tt;cases tt;all_goals
      go_wp2_with fail;go_ret;exact⟨rfl,HBW.o⟩
theorem IP(p n o v rank E:Int)(hE:(E !=0)=true)(hE2:(E==0)=false)(hE3:(E !=E)=false)(aa ba:Option Addr)(an bn ac bc:Nat)(w:OQ)(HSM:OE (∀W,LT w W->Calls prog 5 #[.agg #[OW p,OW n,OW o,OW v],OW rank,.slice aa an ac,.slice ba bn bc] W λe w'=>e=.returned (.tuple #[.bool false,OW E])/\LT W w'))(HCA:OE (∀W,LT w W->Calls prog 6 #[.agg #[OW p,OW n,OW o,OW v],OW rank,.slice aa an ac] W λe w'=>e=.returned (OW E)/\LT W w'))(HBG:OE (∀W,Calls prog 7 #[] W λe w'=>e=.returned (.bool true)/\LT W w')):Calls prog 3 #[.agg #[OW p,OW n,OW o,OW v],OW rank,.slice aa an ac,.slice ba bn bc] w λe w'=>e=.returned (.bool true)/\LT w w':=by
 obtain⟨w1,hw1⟩:∃w1,w1=w.alloc (.cells #[OW p,OW n,OW o,OW v] 23):=⟨_,rfl⟩;have hbx:bA w1 w.heap.size p n o v:=by rw[hw1];exact bA.new w p n o v _
 have HBA:OE (LT w w1):=by rw[hw1];exact bE
 obtain⟨_,bx0,bx1,bx2,bx3⟩:=hbx;go_enter func3,ntmps3;go_upto_region 1 with fail;rw[<-hw1];clear hw1;go_wp2_with (first|(go_at_call 5;refine(HSM.o _ HBA.o).mono ?_;rintro e w2 ⟨rfl,q1⟩;have HBA:=ae (Io HBA.o q1);have bx0:=af bx0 q1;have bx1:=af bx1 q1;have bx2:=af bx2 q1;have bx3:=af bx3 q1;clear q1)|((with_reducible show Calls _ _ _ w2 _);go_at_call 6;refine(HCA.o _ HBA.o).mono ?_;rintro e w3 ⟨rfl,q1⟩;have HBA:=ae (Io HBA.o q1);have bx0:=af bx0 q1;have bx1:=af bx1 q1;have bx2:=af bx2 q1;have bx3:=af bx3 q1;clear q1)|(go_at_call 7;refine(HBG.o _).mono ?_;rintro e w5 ⟨rfl,q1⟩;have HBA:=ae (Io HBA.o q1);clear q1));go_ret;exact⟨rfl,HBA.o⟩
theorem IQ(p n o v rank E:Int)(hE:(E !=0)=true)(hE2:(E==0)=false)(hE3:(E !=E)=false)(aa ba:Option Addr)(an bn ac bc:Nat)(w:OQ)(HSM:OE (∀W,LT w W->Calls prog 5 #[.agg #[OW p,OW n,OW o,OW v],OW rank,.slice aa an ac,.slice ba bn bc] W λe w'=>e=.returned (.tuple #[.bool false,OW E])/\LT W w'))(HCA:OE (∀W,LT w W->Calls prog 6 #[.agg #[OW p,OW n,OW o,OW v],OW rank,.slice aa an ac] W λe w'=>e=.returned (OW 0)/\LT W w'))(HCB:OE (∀W,LT w W->Calls prog 6 #[.agg #[OW p,OW n,OW o,OW v],OW rank,.slice ba bn bc] W λe w'=>e=.returned (OW E)/\LT W w'))(HBG:OE (∀W,Calls prog 7 #[] W λe w'=>e=.returned (.bool true)/\LT W w')):Calls prog 3 #[.agg #[OW p,OW n,OW o,OW v],OW rank,.slice aa an ac,.slice ba bn bc] w λe w'=>e=.returned (.bool true)/\LT w w':=by
 obtain⟨w1,hw1⟩:∃w1,w1=w.alloc (.cells #[OW p,OW n,OW o,OW v] 23):=⟨_,rfl⟩;have hbx:bA w1 w.heap.size p n o v:=by rw[hw1];exact bA.new w p n o v _
 have HBA:OE (LT w w1):=by rw[hw1];exact bE
 obtain⟨_,bx0,bx1,bx2,bx3⟩:=hbx;go_enter func3,ntmps3;go_upto_region 1 with fail;rw[<-hw1];clear hw1;go_wp2_with (first|(go_at_call 5;refine(HSM.o _ HBA.o).mono ?_;rintro e w2 ⟨rfl,q1⟩;have HBA:=ae (Io HBA.o q1);have bx0:=af bx0 q1;have bx1:=af bx1 q1;have bx2:=af bx2 q1;have bx3:=af bx3 q1;clear q1)|((with_reducible show Calls _ _ _ w2 _);go_at_call 6;refine(HCA.o _ HBA.o).mono ?_;rintro e w3 ⟨rfl,q1⟩;have HBA:=ae (Io HBA.o q1);have bx0:=af bx0 q1;have bx1:=af bx1 q1;have bx2:=af bx2 q1;have bx3:=af bx3 q1;clear q1)|(go_at_call 6;refine(HCB.o _ HBA.o).mono ?_;rintro e w4 ⟨rfl,q1⟩;have HBA:=ae (Io HBA.o q1);have bx0:=af bx0 q1;have bx1:=af bx1 q1;have bx2:=af bx2 q1;have bx3:=af bx3 q1;clear q1)|(go_at_call 7;refine(HBG.o _).mono ?_;rintro e w5 ⟨rfl,q1⟩;have HBA:=ae (Io HBA.o q1);clear q1));go_ret;exact⟨rfl,HBA.o⟩
theorem IR(md bb:Nat)(gv:OR)(g:OG)(t:Bool)(w:OQ)(hg:Vl w gv g)(hc:w.cell? (OV bb 0)=some (OS md))(HH:OE (Calls prog 21 #[OS md,gv] w λe w'=>e=.returned (.bool t)/\LT w w')):Calls prog 34 #[gv,OS bb] w λe w'=>e=.returned (.bool (!t))/\LT w w':=by obtain⟨ga,gc,rfl,_⟩:=hg;go_enter func34,ntmps34;go_wp2_with (go_at_call 21;refine HH.o.mono ?_;rintro e w9 ⟨rfl,q1⟩;have HB:=ae q1;clear q1);go_ret;exact⟨rfl,HB.o⟩
theorem IS(md bb:Nat)(T:OG->Bool)(v:OR)(vss:OH)(w:OQ)(hv:Wl w v vss)(hn:vss.length<=1000000)(hc:w.cell? (OV bb 0)=some (OS md))(HH:OE (∀W gv,∀g∈vss,LT w W->Vl W gv g->Calls prog 21 #[OS md,gv] W λe w'=>e=.returned (.bool (T g))/\LT W w')):Calls prog 67 #[v,.func (.func 34) #[] #[OS bb]] w λe w'=>∃r:Int,e=.returned (OW r)∧-1<=r/\(decide (0<=r)=!(vss.all T))/\LT w w':=by
 obtain⟨xa,xc,rfl,hp⟩:=hv;have HP:=ae hp;have HCB:=ae hc;clear hp hc;go_enter func67,ntmps67;go_wp2_with fail;go_loopw [8] (λi wr=>∃m:Nat,m<=vss.length/\i=OW m/\(∀j (h:j<vss.length),j<m->T vss[j]=true)/\LT w wr) (λi _=>vss.length-(intOf i).toNat);case atStart=>exact⟨0,NS _,rfl,λj _ h=>by omega,NM _ _⟩
 case round=>
  rename OQ=>wr;obtain⟨m,hm,rfl,hno,hbr⟩:=hrel;have HNO:=ae hno;have HBR:=ae hbr;clear hno hbr;by_cases hm2:m<vss.length
  .obtain⟨b,off,rfl,hlt,hpl⟩:=HP.o (by omega);obtain⟨u,hu,hpu⟩:=hpl m hm2;have e:vss.getD m []=vss[m]:=by rw[NY,NZ hm2];rfl
   rw[e] at hpu;have hpw:=hpu.below HBR.o;have hu:=af hu HBR.o;have HC:=ae (IR md bb u vss[m] (T vss[m]) wr hpw (af HCB.o HBR.o) (ae (HH.o wr u vss[m] (NV hm2) HBR.o hpw)));obtain⟨ua,uc,rfl,_⟩:=hpu;have HFI:OE (T vss[m]=false->decide ((0:Int)<=(m:Int))=!(vss.all T)):=λh=>by show _=_;rw[List.all_eq_false.2 ⟨vss[m],NV hm2,by simp[h]⟩];simp
   have HNX:OE (T vss[m]=true->∀j (h:j<vss.length),j<m+1->T vss[j]=true):=λh j hj hjm=>by
    rcases Nat.lt_succ_iff_lt_or_eq.1 hjm with h2|rfl
    .exact HNO.o j hj h2
    .exact h
   clear hpl e hpw;generalize vss[m]=f at HC HFI HNX hu;cases hh:T f with
   |true=>
    rw[hh] at HC;have HN:=ae (HNX.o hh);clear hh HNX HFI;go_wp2_with (go_at_call 34;refine HC.o.mono ?_;rintro e w9 ⟨rfl,q1⟩;have HB9:=ae (Io HBR.o q1);clear q1);go_roundw;case rel=>exact⟨m+1,by omega,by go_num,HN.o,HB9.o⟩
    case measure=>simp[intOf];omega
   |false=>rw[hh] at HC;have HN:=ae (HFI.o hh);clear hh HNX HFI;go_wp2_with (go_at_call 34;refine HC.o.mono ?_;rintro e w9 ⟨rfl,q1⟩;have HB9:=ae (Io HBR.o q1);clear q1);go_ret;exact⟨m,rfl,by omega,HN.o,HB9.o⟩
  .have e:m=vss.length:=by omega
   subst e;have HE:OE (decide ((0:Int)≤-1)=!(vss.all T)):=by
    show _=_;rw[List.all_eq_true.2 λf hf=>by
     obtain⟨j,hj,rfl⟩:=List.getElem_of_mem hf;exact HNO.o j hj hj]
    rfl
   go_wp2;go_ret;exact⟨-1,rfl,by omega,HE.o,HBR.o⟩
theorem IT(md bb:Nat)(T:OG->Bool)(v:OR)(vss:OH)(w:OQ)(hv:Wl w v vss)(hn:vss.length<=1000000)(hc:w.cell? (OV bb 0)=some (OS md))(HH:OE (∀W gv,∀g∈vss,LT w W->Vl W gv g->Calls prog 21 #[OS md,gv] W λe w'=>e=.returned (.bool (T g))/\LT W w')):Calls prog 33 #[v,.func (.func 34) #[] #[OS bb]] w λe w'=>e=.returned (.bool (!(vss.all T)))/\LT w w':=by have HIX:=ae (IS md bb T v vss w hv hn hc HH);obtain⟨xa,xc,rfl,_⟩:=hv;clear hc HH;generalize vss.all T=r at HIX⊢;go_enter func33,ntmps33;go_wp2_with (go_at_call 67;refine HIX.o.mono ?_;rintro e w9 ⟨r9,rfl,h1,h2,q1⟩;have H2:=ae h2;have HB:=ae q1;clear h2 q1);go_ret;exact⟨by rw[<-H2.o];rfl,HB.o⟩
theorem IU(p n o v rank:Int)(T:OG->Bool)(lv xv:OR)(lss vss:OH)(w:OQ)(hl:Wl w lv lss)(hv:Wl w xv vss)(hn:vss.length<=1000000)(HNM:OE (∀W,LT w W->Calls prog 20 #[aI p n o v,OW rank,lv] W λe w'=>∃md,e=.returned (OS md)/\LT W w'/\OE (∀W2 gv,∀g∈vss,LT w' W2->Vl W2 gv g->Calls prog 21 #[OS md,gv] W2 λe w'=>e=.returned (.bool (T g))/\LT W2 w'))):Calls prog 13 #[aI p n o v,OW rank,lv,xv] w λe w'=>e=.returned (.bool (vss.all T))/\LT w w':=by
 obtain⟨w1,hw1⟩:∃w1,w1=w.alloc (.cells #[OW p,OW n,OW o,OW v] 23):=⟨_,rfl⟩;have hbx:bA w1 w.heap.size p n o v:=by rw[hw1];exact bA.new w p n o v _
 have HB1:OE (LT w w1):=by rw[hw1];exact bE
 obtain⟨_,bx0,bx1,bx2,bx3⟩:=hbx;have HV:=ae hv;have HN1:=ae (HNM.o w1 HB1.o);obtain⟨xa,xc,rfl,_⟩:=hv;obtain⟨la,lc,rfl,_⟩:=hl;unfold aI at HN1⊢;clear HNM;go_enter func13,ntmps13;go_upto_region 1 with fail;rw[<-hw1];clear hw1;go_upto_region 2 with (go_at_call 20;refine HN1.o.mono ?_;rintro e w2 ⟨md,rfl,q1,HH2⟩;have HB2:=ae (Io HB1.o q1);clear q1);obtain⟨w3,hw3⟩:∃w3,w3=w2.alloc (.cells #[OS md] 50):=⟨_,rfl⟩;have H3:OE (LT w2 w3/\w3.cell? (OV w2.heap.size 0)=some (OS md)):=by show _/\_;rw[hw3];exact⟨ai,by simp[go_sem]⟩
 have HB3:OE (LT w w3):=Io HB2.o H3.o.1;have HC:=ae (IT md w2.heap.size T _ vss w3 (HV.o.below HB3.o) hn H3.o.2 (ae λW gv g hg hb hgv=>HH2.o W gv g hg (Io H3.o.1 hb) hgv));obtain⟨r,hr⟩:∃r,r=vss.all T:=⟨_,rfl⟩;rw[<-hr] at HC;have HR:=ae hr;clear hr;rw[<-hw3];clear hw3 H3 HH2;go_wp2_with (go_at_call 33;refine HC.o.mono ?_;rintro e w9 ⟨rfl,q1⟩;have HB9:=ae (Io HB3.o q1);clear q1);go_ret;exact⟨by rw[<-HR.o];simp,HB9.o⟩
theorem IV(p n o v rank:Int)(gv lv:OR)(g:OG)(lss:OH)(T:Bool)(w:OQ)(hg:Vl w gv g)(hl:Wl w lv lss)(HNM:cW p n o v rank lss [g]=0->OE (∀W,LT w W->Calls prog 20 #[aI p n o v,OW rank,lv] W λe w'=>∃md,e=.returned (OS md)/\LT W w'/\OE (Calls prog 21 #[OS md,gv] w' λe w2=>e=.returned (.bool T)/\LT w' w2)))(hT:cW p n o v rank lss [g]≠0->T=false):Calls prog 8 #[aI p n o v,OW rank,gv,lv] w λe w'=>e=.returned (.tuple #[.bool T,OW (cW p n o v rank lss [g])])/\LT w w':=by
 obtain⟨w1,hw1⟩:∃w1,w1=w.alloc (.cells #[OW p,OW n,OW o,OW v] 23):=⟨_,rfl⟩;have hbx:bA w1 w.heap.size p n o v:=by rw[hw1];exact bA.new w p n o v _
 have HB1:OE (LT w w1):=by rw[hw1];exact bE
 obtain⟨w2,hw2⟩:∃w2,w2=(w1.alloc (.cells #[gv] 32)).alloc (.cells #[lv,OU w1.heap.size 1 1] 24):=⟨_,rfl⟩;have HB2:OE (LT w1 w2):=by rw[hw2];exact((NM _ _).alloc (NL _) _).alloc (by simp) _
 have HB02:OE (LT w w2):=Io HB1.o HB2.o;have HCK:OE (Calls prog 12 #[aI p n o v,OW rank,OU (w1.heap.size+1) 2 2] w2 λe w'=>e=.returned (OW (cW p n o v rank lss [g]))/\LT w2 w'):=by
  refine vR p n o v rank _ 2 lv (OU w1.heap.size 1 1) lss [g] w2 (hl.below HB02.o) (BE (hg.below HB02.o) ?_ ?_) ?_ ?_
  .rw[hw2];simp;omega
  .rw[hw2];simp[go_sem]
  .rw[hw2];simp[go_sem]
  .rw[hw2];simp[go_sem]
 obtain⟨_,bx0,bx1,bx2,bx3⟩:=hbx;obtain⟨ga,gc,rfl,_⟩:=hg;obtain⟨la,lc,rfl,_⟩:=hl;have HT:=ae hT;have HNN:=ae HNM;clear hT HNM;unfold aI at HCK HNN⊢;generalize cW p n o v rank lss [g]=E at HCK HNN HT⊢;cases hE:(E !=0)
 rotate_left
 .have hTf:=HT.o (by simpa using hE);subst hTf;clear HNN HT;go_enter func8,ntmps8;go_upto_region 1 with fail;rw[<-hw1];clear hw1;go_wp2_with (rw[<-hw2];go_at_call 12;refine HCK.o.mono ?_;rintro e w3 ⟨rfl,q1⟩;have HB3:=ae (Io HB02.o q1);clear q1);go_ret2;exact⟨rfl,HB3.o⟩
 .have hz:E=0:=by simpa using hE
  subst hz;have HNM:=HNN.o rfl;clear HNN HT hE;go_enter func8,ntmps8;go_upto_region 1 with fail;rw[<-hw1];clear hw1;go_wp2_with (first|(rw[<-hw2];go_at_call 12;refine HCK.o.mono ?_;rintro e w3 ⟨rfl,q1⟩;have HB3:=ae (Io HB02.o q1);have hk:=Io HB2.o q1;have bx0:=af bx0 hk;have bx1:=af bx1 hk;have bx2:=af bx2 hk;have bx3:=af bx3 hk;clear q1 hk hw2)|(go_at_call 20;refine(HNM.o _ HB3.o).mono ?_;rintro e w4 ⟨md,rfl,q1,HH⟩;have HB4:=ae (Io HB3.o q1);clear q1)|(go_at_call 21;refine HH.o.mono ?_;rintro e w5 ⟨rfl,q1⟩;have HB5:=ae (Io HB4.o q1);clear q1));go_ret2;exact⟨rfl,HB5.o⟩
theorem IW(p n o v rank:Int)(av bv:OR)(ass bss:OH)(Sa Sb:Bool)(w:OQ)(ha:Wl w av ass)(hb:Wl w bv bss)(HNA:cW p n o v rank ass bss=0->OE (∀W,LT w W->Calls prog 13 #[aI p n o v,OW rank,av,bv] W λe w'=>e=.returned (.bool Sa)/\LT W w'))(HNB:cW p n o v rank ass bss=0->OE (∀W,LT w W->Calls prog 13 #[aI p n o v,OW rank,bv,av] W λe w'=>e=.returned (.bool Sb)/\LT W w')):Calls prog 5 #[aI p n o v,OW rank,av,bv] w λe w'=>∃S,e=.returned (.tuple #[.bool S,OW (cW p n o v rank ass bss)])/\(cW p n o v rank ass bss=0->S=(Sa&&Sb))/\(cW p n o v rank ass bss≠0->S=false)/\LT w w':=by
 obtain⟨w1,hw1⟩:∃w1,w1=w.alloc (.cells #[OW p,OW n,OW o,OW v] 23):=⟨_,rfl⟩;have hbx:bA w1 w.heap.size p n o v:=by rw[hw1];exact bA.new w p n o v _
 have HB1:OE (LT w w1):=by rw[hw1];exact bE
 obtain⟨w2,hw2⟩:∃w2,w2=w1.alloc (.cells #[av,bv] 24):=⟨_,rfl⟩;have HB2:OE (LT w1 w2):=by rw[hw2];exact ai
 have HB02:OE (LT w w2):=Io HB1.o HB2.o;have HCK:OE (Calls prog 12 #[aI p n o v,OW rank,OU w1.heap.size 2 2] w2 λe w'=>e=.returned (OW (cW p n o v rank ass bss))/\LT w2 w'):=by
  refine vR p n o v rank _ 2 av bv ass bss w2 (ha.below HB02.o) (hb.below HB02.o) ?_ ?_
  .rw[hw2];simp[go_sem]
  .rw[hw2];simp[go_sem]
 obtain⟨_,bx0,bx1,bx2,bx3⟩:=hbx;obtain⟨aa,ac,rfl,_⟩:=ha;obtain⟨ba,bc,rfl,_⟩:=hb;have HA:=ae HNA;have HB:=ae HNB;clear HNA HNB;unfold aI at HCK HA HB⊢;generalize cW p n o v rank ass bss=E at HCK HA HB⊢;cases hE:(E !=0)
 rotate_left
 .have HE:OE (E≠0):=ae (by simpa using hE);clear HA HB;go_enter func5,ntmps5;go_upto_region 1 with fail;rw[<-hw1];clear hw1;go_wp2_with (rw[<-hw2];go_at_call 12;refine HCK.o.mono ?_;rintro e w3 ⟨rfl,q1⟩;have HB3:=ae (Io HB02.o q1);clear q1);go_ret2;exact⟨false,rfl,λh=>(HE.o h).elim,λ_=>rfl,HB3.o⟩
 .have hz:E=0:=by simpa using hE
  subst hz;have HA2:=HA.o rfl;have HB2':=HB.o rfl;clear HA HB hE;cases Sa;all_goals
   go_enter func5,ntmps5;go_upto_region 1 with fail;rw[<-hw1];clear hw1;go_wp2_with (first|(rw[<-hw2];go_at_call 12;refine HCK.o.mono ?_;rintro e w3 ⟨rfl,q1⟩;have HB3:=ae (Io HB02.o q1);have hk:=Io HB2.o q1;have bx0:=af bx0 hk;have bx1:=af bx1 hk;have bx2:=af bx2 hk;have bx3:=af bx3 hk;clear q1 hk hw2)|((with_reducible show Calls _ _ _ w3 _);go_at_call 13;refine(HA2.o _ HB3.o).mono ?_;rintro e w4 ⟨rfl,q1⟩;have HB4:=ae (Io HB3.o q1);have bx0:=af bx0 q1;have bx1:=af bx1 q1;have bx2:=af bx2 q1;have bx3:=af bx3 q1;clear q1)|(go_at_call 13;refine(HB2'.o _ HB4.o).mono ?_;rintro e w5 ⟨rfl,q1⟩;have HB4:=ae (Io HB4.o q1);clear q1));go_ret2;exact⟨_,rfl,λ_=>by simp,λh=>(h rfl).elim,HB4.o⟩
end Go.Proofs.YtjkalahhpobefaaGreat
