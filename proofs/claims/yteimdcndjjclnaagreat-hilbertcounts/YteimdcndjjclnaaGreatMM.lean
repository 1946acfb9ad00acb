/- basis.Check: anyPoly with its own closure, and the whole. -/
import Derived.Test.YteimdcndjjclnaaGreatNH
import Derived.Laws.EntriesVeiled
set_option maxHeartbeats 2000000
set_option maxRecDepth 100000
namespace Go.Proofs.YteimdcndjjclnaaGreat
set_option linter.all false
open Go.Proofs.Tryz Go.RowKit
def IU(f:List Tm):Prop:=(∀t∈f,0<t.2.length/\t.2.length<=3)/\∀t∈f,∀e∈t.2,0<=e/\e<=400
def iG(T:List Tm->Bool)(v:List (List Tm)):Bool:=v.any T
theorem IV(cf:FuncId)(hcf:cf=41\/False)(T:List Tm->Bool)(Ok:List Tm->Prop)(hcl:∀(u:Value) f (W:World),Pl W u f->Ok f->Calls prog cf #[u] W λe w'=>e=.returned (.bool (T f))/\w'=W)(v:Value)(fs:List (List Tm))(w:World)(hv:Vl w v fs)(hn:fs.length<=1000000)(hok:∀f∈fs,Ok f):Calls prog 95 #[v,.func (.func cf) #[] #[]] w λe w'=>∃r:Int,e=.returned (.int .i64 r)∧-1<=r/\(decide (0<=r)=fs.any T)/\w'=w:=by
 have e41:cf=41:=hcf.elim id False.elim;clear hcf;subst e41;all_goals
  have HOK:=ae hok;have HCL:=ae hcl;obtain⟨xa,xc,rfl,hp⟩:=hv;have HP:=ae hp;clear hok hp hcl;go_enter func95,ntmps95;go_wp2_with fail;go_loopw [8] (λi wr=>∃m:Nat,m<=fs.length/\i=.int .i64 m/\(∀j (h:j<fs.length),j<m->T fs[j]=false)/\wr=w) (λi _=>fs.length-(intOf i).toNat);case atStart=>exact⟨0,MP _,rfl,λj _ h=>by omega,rfl⟩
  case round=>
   obtain⟨m,hm,rfl,hno,rfl⟩:=hrel;have HNO:=ae hno;clear hno;by_cases hm2:m<fs.length
   .obtain⟨b,off,rfl,hlt,hpl⟩:=HP.o (by omega);obtain⟨u,hu,hpu⟩:=hpl m hm2;have e:fs.getD m []=fs[m]:=by rw[MV,MW hm2];rfl
    rw[e] at hpu;have hk:=HOK.o fs[m] (MS hm2);have HC:=ae (HCL.o u fs[m] _ hpu hk);obtain⟨ua,uc,rfl,_,_⟩:=hpu;have HFI:Nw (T fs[m]=true->decide ((0:Int)<=(m:Int))=fs.any T):=λh=>by show _=_;rw[List.any_eq_true.2 ⟨fs[m],MS hm2,h⟩];simp
    have HNX:Nw (T fs[m]=false->∀j (h:j<fs.length),j<m+1->T fs[j]=false):=λh j hj hjm=>by
     rcases Nat.lt_succ_iff_lt_or_eq.1 hjm with h2|rfl
     .exact HNO.o j hj h2
     .exact h
    clear hpl hk e;generalize fs[m]=f at HC HFI HNX hu;cases hh:T f with
    |false=>
     rw[hh] at HC;have HN:=ae (HNX.o hh);clear hh HNX HFI;go_wp2_with (refine HC.o.mono ?_;rintro e w9 ⟨rfl,rfl⟩);go_roundw;case rel=>exact⟨m+1,by omega,by go_num,HN.o,by trivial⟩
     case measure=>simp[intOf];omega
    |true=>rw[hh] at HC;have HN:=ae (HFI.o hh);clear hh HNX HFI;go_wp2_with (refine HC.o.mono ?_;rintro e w9 ⟨rfl,rfl⟩);go_ret;exact⟨m,rfl,by omega,HN.o,rfl⟩
   .have e:m=fs.length:=by omega
    subst e;have HE:Nw (decide ((0:Int)≤-1)=fs.any T):=by
     show _=_;rw[List.any_eq_false.2 λf hf=>by
      obtain⟨j,hj,rfl⟩:=List.getElem_of_mem hf;simp[HNO.o j hj hj]]
     rfl
    go_wp2;go_ret;exact⟨-1,rfl,by omega,HE.o,rfl⟩
theorem IW(cf:FuncId)(hcf:cf=41\/False)(T:List Tm->Bool)(Ok:List Tm->Prop)(hcl:∀(u:Value) f (W:World),Pl W u f->Ok f->Calls prog cf #[u] W λe w'=>e=.returned (.bool (T f))/\w'=W)(v:Value)(fs:List (List Tm))(w:World)(hv:Vl w v fs)(hn:fs.length<=1000000)(hok:∀f∈fs,Ok f):Calls prog 68 #[v,.func (.func cf) #[] #[]] w λe w'=>e=.returned (.bool (fs.any T))/\w'=w:=by have HIX:=ae (IV cf hcf T Ok hcl v fs w hv hn hok);obtain⟨xa,xc,rfl,_⟩:=hv;clear hok hcl hcf;go_enter func68,ntmps68;go_wp2_with (go_at_call 95;refine HIX.o.mono ?_;rintro e w9 ⟨r9,rfl,h1,h2,rfl⟩;have H2:=ae h2;clear h2);go_ret;exact⟨by rw[<-H2.o];rfl,rfl⟩
theorem IX(cf:FuncId)(hcf:cf=41\/False)(T:List Tm->Bool)(Ok:List Tm->Prop)(hcl:∀(u:Value) f (W:World),Pl W u f->Ok f->Calls prog cf #[u] W λe w'=>e=.returned (.bool (T f))/\w'=W)(cb:Nat)(v:Value)(fs:List (List Tm))(w:World)(hcb:w.cell? ⟨cb,0,none⟩=some (.func (.func cf) #[] #[]))(hv:Vl w v fs)(hn:fs.length<=1000000)(hok:∀f∈fs,Ok f):Calls prog 67 #[v,.pointer (some ⟨cb,0,none⟩)] w λe w'=>e=.returned (.bool (iG T fs))/\w'=w:=by have HC:=ae (IW cf hcf T Ok hcl v fs w hv hn hok);obtain⟨xa,xc,rfl,_⟩:=hv;unfold iG;generalize fs.any T=r at HC⊢;clear hok hcl;go_enter func67,ntmps67;go_wp2_with (go_at_call 68;refine HC.o.mono ?_;rintro e w9 ⟨rfl,rfl⟩);go_ret;exact⟨rfl,rfl⟩
theorem IY(cf:FuncId)(hcf:cf=41\/False)(T:List Tm->Bool)(Ok:List Tm->Prop)(hcl:∀(u:Value) f (W:World),Pl W u f->Ok f->Calls prog cf #[u] W λe w'=>e=.returned (.bool (T f))/\w'=W)(cb:Nat)(v:Value)(vss:List (List (List Tm)))(w:World)(hcb:w.cell? ⟨cb,0,none⟩=some (.func (.func cf) #[] #[]))(hv:Wl w v vss)(hn:vss.length<=1000000)(hok:∀f∈vss,f.length<=1000000/\∀g∈f,Ok g):Calls prog 94 #[v,.func (.func 67) #[] #[.pointer (some ⟨cb,0,none⟩)]] w λe w'=>∃r:Int,e=.returned (.int .i64 r)∧-1<=r/\(decide (0<=r)=vss.any (iG T))/\w'=w:=by
 have HOK:=ae hok;have HCL:=ae hcl;obtain⟨xa,xc,rfl,hp⟩:=hv;have HP:=ae hp;clear hok hp hcl;go_enter func94,ntmps94;go_wp2_with fail;go_loopw [8] (λi wr=>∃m:Nat,m<=vss.length/\i=.int .i64 m/\(∀j (h:j<vss.length),j<m->(iG T) vss[j]=false)/\wr=w) (λi _=>vss.length-(intOf i).toNat);case atStart=>exact⟨0,MP _,rfl,λj _ h=>by omega,rfl⟩
 case round=>
  obtain⟨m,hm,rfl,hno,rfl⟩:=hrel;have HNO:=ae hno;clear hno;by_cases hm2:m<vss.length
  .obtain⟨b,off,rfl,hlt,hpl⟩:=HP.o (by omega);obtain⟨u,hu,hpu⟩:=hpl m hm2;have e:vss.getD m []=vss[m]:=by rw[MV,MW hm2];rfl
   rw[e] at hpu;have hk:=HOK.o vss[m] (MS hm2);have HC:=ae (IX cf hcf T Ok HCL.o cb u vss[m] _ hcb hpu hk.1 hk.2);obtain⟨ua,uc,rfl,_⟩:=hpu;have HFI:Nw ((iG T) vss[m]=true->decide ((0:Int)<=(m:Int))=vss.any (iG T)):=λh=>by show _=_;rw[List.any_eq_true.2 ⟨vss[m],MS hm2,h⟩];simp
   have HNX:Nw ((iG T) vss[m]=false->∀j (h:j<vss.length),j<m+1->(iG T) vss[j]=false):=λh j hj hjm=>by
    rcases Nat.lt_succ_iff_lt_or_eq.1 hjm with h2|rfl
    .exact HNO.o j hj h2
    .exact h
   clear hpl hk e;generalize vss[m]=f at HC HFI HNX hu;cases hh:(iG T) f with
   |false=>
    rw[hh] at HC;have HN:=ae (HNX.o hh);clear hh HNX HFI;go_wp2_with (go_at_call 67;refine HC.o.mono ?_;rintro e w9 ⟨rfl,rfl⟩);go_roundw;case rel=>exact⟨m+1,by omega,by go_num,HN.o,by trivial⟩
    case measure=>simp[intOf];omega
   |true=>rw[hh] at HC;have HN:=ae (HFI.o hh);clear hh HNX HFI;go_wp2_with (go_at_call 67;refine HC.o.mono ?_;rintro e w9 ⟨rfl,rfl⟩);go_ret;exact⟨m,rfl,by omega,HN.o,rfl⟩
  .have e:m=vss.length:=by omega
   subst e;have HE:Nw (decide ((0:Int)≤-1)=vss.any (iG T)):=by
    show _=_;rw[List.any_eq_false.2 λf hf=>by
     obtain⟨j,hj,rfl⟩:=List.getElem_of_mem hf;simp[HNO.o j hj hj]]
    rfl
   go_wp2;go_ret;exact⟨-1,rfl,by omega,HE.o,rfl⟩
theorem IZ(cf:FuncId)(hcf:cf=41\/False)(T:List Tm->Bool)(Ok:List Tm->Prop)(hcl:∀(u:Value) f (W:World),Pl W u f->Ok f->Calls prog cf #[u] W λe w'=>e=.returned (.bool (T f))/\w'=W)(cb:Nat)(v:Value)(vss:List (List (List Tm)))(w:World)(hcb:w.cell? ⟨cb,0,none⟩=some (.func (.func cf) #[] #[]))(hv:Wl w v vss)(hn:vss.length<=1000000)(hok:∀f∈vss,f.length<=1000000/\∀g∈f,Ok g):Calls prog 66 #[v,.func (.func 67) #[] #[.pointer (some ⟨cb,0,none⟩)]] w λe w'=>e=.returned (.bool (vss.any (iG T)))/\w'=w:=by have HIX:=ae (IY cf hcf T Ok hcl cb v vss w hcb hv hn hok);obtain⟨xa,xc,rfl,_⟩:=hv;clear hok hcb hcl;go_enter func66,ntmps66;go_wp2_with (go_at_call 94;refine HIX.o.mono ?_;rintro e w9 ⟨r9,rfl,h1,h2,rfl⟩;have H2:=ae h2;clear h2);go_ret;exact⟨by rw[<-H2.o];rfl,rfl⟩
theorem I0(cf:FuncId)(hcf:cf=41\/False)(T:List Tm->Bool)(Ok:List Tm->Prop)(hcl:∀(u:Value) f (W:World),Pl W u f->Ok f->Calls prog cf #[u] W λe w'=>e=.returned (.bool (T f))/\w'=W)(v:Value)(vss:List (List (List Tm)))(w:World)(hv:Wl w v vss)(hn:vss.length<=1000000)(hok:∀f∈vss,f.length<=1000000/\∀g∈f,Ok g):Calls prog 40 #[v,.func (.func cf) #[] #[]] w λe w'=>e=.returned (.bool (vss.any (iG T)))/\Below w.heap.size w w':=by
 obtain⟨w1,hw1⟩:∃w1,w1=w.alloc (.cells #[.func (.func cf) #[] #[]] 77):=⟨_,rfl⟩;have HB1:Nw (Below w.heap.size w w1):=by rw[hw1];exact ai
 have hc1:w1.cell? ⟨w.heap.size,0,none⟩=some (.func (.func cf) #[] #[]):=by rw[hw1];simp[go_sem]
 have HC:=ae (IZ cf hcf T Ok hcl w.heap.size v vss w1 hc1 (hv.below HB1.o) hn hok);obtain⟨xa,xc,rfl,_⟩:=hv;generalize vss.any (iG T)=r at HC⊢;clear hok hc1 hcl;go_enter func40,ntmps40;go_upto_region 1 with fail;rw[<-hw1];clear hw1;go_wp2_with (go_at_call 66;refine HC.o.mono ?_;rintro e w9 ⟨rfl,rfl⟩);go_ret;exact⟨rfl,HB1.o⟩
theorem A1:∀(ts:List Tm)(m:Int),(∀t∈ts,aj t.2<=m)->eX m ts=m
 |[],m,_=>rfl
 |t::ts,m,h=>by have h1:=h t (by simp);simp only[eX];rw[M8 (by omega)];exact A1 ts m λu hu=>h u (by simp[hu])
theorem A3{p o:Int}{N:Nat}{f:List Tm}(h:cL p o N f):decide (3<eX (-1) f)=decide (3<rO f):=by
 cases f with
 |nil=>rfl
 |cons t ts=>
  have h1:=A4 h.canon;have h0:0<=aj t.2:=po λx hx=>(h.bd t (by simp) x hx).1;have e:eX (-1) (t::ts)=aj t.2:=by simp only[eX];rw[M9 (by omega)];exact A1 ts _ λu hu=>h1 u (by simp[hu])
  rw[e];rfl
theorem A5{p o:Int}{N:Nat}(hn:0<N)(h3:N<=3){f:List Tm}(h:cL p o N f):IU f:=by
 refine⟨λt ht=>?_,λt ht e he=>?_⟩
 .have:=h.canon.len t ht;omega
 .have h0:∀x∈t.2,0<=x:=λx hx=>(h.bd t ht x hx).1;have h1:=ut h0 e he;have h2:=h.deg t ht;have h4:=h0 e he;omega
def pH(f:List Tm):Bool:=decide (6<f.length)||decide (3<rO f)
theorem I1(v:Value)(f:List Tm)(w:World)(hv:Pl w v f)(hok:∀t∈f,0<t.2.length/\t.2.length<=3)(hb:∀t∈f,∀e∈t.2,0<=e/\e<=400):Calls prog 41 #[v] w λe w'=>e=.returned (.bool (pH f))/\w'=w:=by
 have HD:=ae (I2 v f w hv hok hb);unfold pH;obtain⟨xa,xc,rfl,_,_⟩:=hv;generalize rO f=d at HD⊢;clear hok hb;by_cases hl:6<f.length
 .have hl2:decide ((6:Int)<(f.length:Int))=true:=MM (by omega);rw[MM hl,Bool.true_or];go_enter func41,ntmps41;go_wp2_with (go_at_call 42;refine HD.o.mono ?_;rintro e w9 ⟨rfl,rfl⟩);go_ret;exact⟨rfl,rfl⟩
 .have hl2:decide ((6:Int)<(f.length:Int))=false:=ML (by omega);rw[ML hl,Bool.false_or];go_enter func41,ntmps41;go_wp2_with (go_at_call 42;refine HD.o.mono ?_;rintro e w9 ⟨rfl,rfl⟩);go_ret;exact⟨rfl,rfl⟩
theorem vp{α:Type}{f g:α->Bool}:∀{l:List α},(∀x∈l,f x=g x)->l.any f=l.any g
 |[],_=>rfl
 |x::l,h=>by rw[List.any_cons,List.any_cons,h x (by simp),vp λy hy=>h y (by simp[hy])]
theorem I3(p n o v rank:Int)(lv:Value)(vss:List (List (List Tm)))(w:World)(hs:Wl w lv vss):Calls prog 20 #[aS p n o v,.int .i64 rank,lv] w λe w'=>e=.returned (.int .i64 (eE p n o v rank vss))/\Below w.heap.size w w':=by
 have HS:=ae hs;obtain⟨w1,hw1⟩:∃w1,w1=w.alloc (.cells #[.int .i64 p,.int .i64 n,.int .i64 o,.int .i64 v] 23):=⟨_,rfl⟩;have hbx:bE w1 w.heap.size p n o v:=by rw[hw1];exact bE.new w p n o v _
 have HBW:Nw (Below w.heap.size w w1):=by rw[hw1];exact bA
 have HCV:=ae (I4 p n o v rank lv vss w1 (hs.below HBW.o));obtain⟨la,lc,rfl,_⟩:=hs;unfold aS at HCV;unfold aS;obtain⟨_,bx0,bx1,bx2,bx3⟩:=hbx;cases hev:(dB p n o v rank vss !=0)
 rotate_left
 .have HE:=ae (vq (show dB p n o v rank vss≠0 by simpa using hev));rw[HE.o];go_enter func20,ntmps20;go_upto_region 1 with fail;rw[<-hw1];clear hw1;go_wp2_with (go_at_call 39;refine HCV.o.mono ?_;rintro e w2 ⟨rfl,q1⟩;have HB2:=ae q1;clear q1);go_ret;exact⟨rfl,HBW.o.trans (HB2.o.mono HBW.o.size)⟩
 .have hz:dB p n o v rank vss=0:=by simpa using hev
  have HZ:=ae hz;obtain⟨hR,hrk,hvl,hall⟩:=pI hz;obtain⟨_,hn1,hn3,_,_⟩:=jQ hR;have HRT:Nw (∀g∈vss,∀f∈g,cL p o n.toNat f):=λg hg f hf=>by have h:=(hall g hg).2 f hf;rw[show n=(n.toNat:Int) by omega] at h;exact pJ h
  have HAL:Nw (∀g∈vss,g.length<=1000000):=λg hg=>by have:=(hall g hg).1;omega
  have HN:=ae (MK hn1 hn3);rw[hz] at HCV;clear hz hall hR hev hn1 hn3;by_cases hr3:3<rank
  .have HE:=ae (rP HZ.o (Np hr3));rw[HE.o];have hd3:decide (3<rank)=true:=by simpa using hr3
   go_enter func20,ntmps20;go_upto_region 1 with fail;rw[<-hw1];clear hw1;go_wp2_with (go_at_call 39;refine HCV.o.mono ?_;rintro e w2 ⟨rfl,q1⟩;have HB2:=ae q1;clear q1);go_ret;exact⟨rfl,HBW.o.trans (HB2.o.mono HBW.o.size)⟩
  .have hd3:decide (3<rank)=false:=by simpa using hr3
   by_cases hl4:4<vss.length
   .have HE:=ae (rP HZ.o (Nq hl4));rw[HE.o];have hd4:decide ((4:Int)<(vss.length:Int))=true:=MM (by omega);go_enter func20,ntmps20;go_upto_region 1 with fail;rw[<-hw1];clear hw1;go_wp2_with (go_at_call 39;refine HCV.o.mono ?_;rintro e w2 ⟨rfl,q1⟩;have HB2:=ae q1;clear q1);go_ret;exact⟨rfl,HBW.o.trans (HB2.o.mono HBW.o.size)⟩
   .have hd4:decide ((4:Int)<(vss.length:Int))=false:=ML (by omega);have HE:=ae (vt HZ.o (show¬(3<rank\/4<vss.length) by omega));have HAN:Nw (∀W,Below w.heap.size w W->Calls prog 40 #[.slice la vss.length lc,.func (.func 41) #[] #[]] W λe w'=>e=.returned (.bool (vss.any iW))/\Below W.heap.size W w'):=λW hW=>by
     have h:=I0 41 (Np rfl) pH (λf=>cL p o n.toNat f) (λu f W h1 h2=>I1 u f W h1 (A5 (by have:=HN.o;omega) (by have:=HN.o;omega) h2).1 (A5 (by have:=HN.o;omega) (by have:=HN.o;omega) h2).2) (.slice la vss.length lc) vss W (HS.o.below hW) (by omega) (λg hg=>⟨HAL.o g hg,HRT.o g hg⟩);have e:vss.any (iG pH)=vss.any iW:=vp λg hg=>vp λf hf=>by unfold pH gT;rw[A3 (HRT.o g hg f hf)]
     rw[e] at h;exact h
    rw[HE.o];unfold mP;cases hbg:vss.any iW
    .rw[hbg] at HAN;rw[M8 (by simp)];go_enter func20,ntmps20;go_upto_region 1 with fail;rw[<-hw1];clear hw1;go_upto_region 6 with (go_at_call 39;refine HCV.o.mono ?_;rintro e w2 ⟨rfl,q1⟩;have HB2:=ae (HBW.o.trans (q1.mono HBW.o.size));clear q1);go_wp2_with (go_at_call 40;refine(HAN.o _ HB2.o).mono ?_;rintro e w3 ⟨rfl,q1⟩;have HB3:=ae q1;clear q1);go_ret;exact⟨rfl,HB2.o.trans (HB3.o.mono HB2.o.size)⟩
    .rw[hbg] at HAN;rw[M9 rfl];go_enter func20,ntmps20;go_upto_region 1 with fail;rw[<-hw1];clear hw1;go_upto_region 6 with (go_at_call 39;refine HCV.o.mono ?_;rintro e w2 ⟨rfl,q1⟩;have HB2:=ae (HBW.o.trans (q1.mono HBW.o.size));clear q1);go_wp2_with (go_at_call 40;refine(HAN.o _ HB2.o).mono ?_;rintro e w3 ⟨rfl,q1⟩;have HB3:=ae q1;clear q1);go_ret;exact⟨rfl,HB2.o.trans (HB3.o.mono HB2.o.size)⟩
theorem A6(x:Int)(w:World):Calls prog 22 #[.int .i64 x] w λe w'=>e=.returned (.bool (eJ x))/\w'=w:=by
 unfold eJ bO;by_cases h:x<0
 .have h2:decide (x<0)=true:=by simpa using h
  go_enter func22,ntmps22;go_wp2;go_ret;exact⟨by simp;omega,rfl⟩
 .have h2:decide (x<0)=false:=by simpa using h
  go_enter func22,ntmps22;go_wp2;go_ret;refine⟨?_,rfl⟩;have e:decide (0<=x)=true:=by simp;omega
  by_cases h6:x<=6
  .have e1:decide (x<=6)=true:=by simpa using h6
   have e2:decide (6<x)=false:=by simp;omega
   simp[e,e1,e2]
  .have e1:decide (x<=6)=false:=by simpa using h6
   have e2:decide (6<x)=true:=by simp;omega
   simp[e,e1,e2]
theorem I5(x:Value)(xs:List Int)(w:World)(hm:xs.length<=1000)(hs:Sl w x xs):Calls prog 43 #[x,.func (.func 22) #[] #[]] w λe w'=>∃r:Int,e=.returned (.int .i64 r)/\decide (0<=r)=xs.any eJ/\w'=w:=by
 obtain⟨a,cap,rfl,h1⟩:=hs;have HC:=ae h1;clear h1;go_enter func43,ntmps43;go_wp2;go_loop [8] (λi=>∃k:Nat,k<=xs.length/\i=.int .i64 k/\(xs.take k).any eJ=false) (λi=>xs.length-(intOf i).toNat);case atStart=>exact⟨0,MP _,rfl,by simp⟩
 case round=>
  obtain⟨k,hk,rfl,hn⟩:=hrel;have HN:=ae hn;clear hn;by_cases hlt:k<xs.length
  .obtain⟨b,off,rfl,_,hc⟩:=HC.o (by omega);have hcell:=hc k hlt;have H1:=ae (oE eJ xs k hlt HN.o);have H2:=ae (oF eJ xs k hlt);generalize xs.getD k 0=y at hcell H1 H2;clear hc;cases hy:eJ y
   .go_wp2_with (go_at_call 22;refine(A6 _ _).mono ?_;rintro e w' ⟨rfl,rfl⟩);go_round;case rel=>exact⟨k+1,by omega,by go_num,H1.o hy⟩
    case measure=>simp[intOf];omega
   .go_wp2_with (go_at_call 22;refine(A6 _ _).mono ?_;rintro e w' ⟨rfl,rfl⟩);go_ret;exact⟨(k:Int),rfl,by rw[H2.o hy];simp,rfl⟩
  .go_wp2;go_ret;exact⟨-1,rfl,by have:=HN.o;rw[M2 (by omega)] at this;rw[this];simp,rfl⟩
theorem I6(x:Value)(xs:List Int)(w:World)(hm:xs.length<=1000)(hs:Sl w x xs):Calls prog 21 #[x,.func (.func 22) #[] #[]] w λe w'=>e=.returned (.bool (xs.any eJ))/\w'=w:=by have HS:=ae hs;obtain⟨a,cap,rfl,_⟩:=hs;go_enter func21,ntmps21;go_wp2_with (go_at_call 43;refine(I5 _ xs _ hm HS.o).mono ?_;rintro e w' ⟨r,rfl,hr,rfl⟩);go_ret;exact⟨by rw[<-hr];rfl,rfl⟩
theorem A7{p n o:Int}:∀{fss:List (List Tm)},(∀f∈fss,cQ p n o f=0)->de p n o fss=0
 |[],_=>rfl
 |g::r,h=>by unfold de;rw[M9 (h g (by simp)),A7 λf hf=>h f (by simp[hf])]
theorem I7{p n o v:Int}{fss:List (List Tm)}(hR:bm p n o v=0)(h1:1<=fss.length)(h2:fss.length<=40)(h:∀f∈fss,cQ p n o f=0):fI p n o v [fss]=0:=by
 have e1:gU fss=false:=by unfold gU bO;simp;omega
 have e2:eY (de p n o) [fss]=0:=by simp only[eY];rw[M9 (A7 h)]
 unfold fI;rw[M8 (by simpa using hR),M8 (by simp[e1]),M8 (by simp[fJ]),e2]
theorem A8{p n o v:Int}{ds:List Int}{vss:List (List (List Tm))}(h:eE p n o v ds.length vss≠0):cz p n o v ds vss=eE p n o v ds.length vss:=by unfold cz;rw[M9 h]
theorem A9{p n o v:Int}{ds:List Int}{vss:List (List (List Tm))}(h:eE p n o v ds.length vss=0)(h2:ds.any eJ=true):cz p n o v ds vss=3:=by unfold cz;rw[M8 (by simpa using h),M9 h2]
theorem Ba{p n o v:Int}{ds:List Int}{vss:List (List (List Tm))}(h:eE p n o v ds.length vss=0)(h2:ds.any eJ=false):cz p n o v ds vss=lO ds vss:=by unfold cz;rw[M8 (by simpa using h),M8 (by simp[h2])]
theorem rQ(p n o v:Int)(dv lv:Value)(ds:List Int)(vss:List (List (List Tm)))(w:World)(hds:Sl w dv ds)(hs:Wl w lv vss):Calls prog 8 #[aS p n o v,dv,lv] w λe w'=>e=.returned (.int .i64 (cz p n o v ds vss))/\Below w.heap.size w w':=by
 have HS:=ae hs;have HD:=ae hds;obtain⟨w1,hw1⟩:∃w1,w1=w.alloc (.cells #[.int .i64 p,.int .i64 n,.int .i64 o,.int .i64 v] 23):=⟨_,rfl⟩;have hbx:bE w1 w.heap.size p n o v:=by rw[hw1];exact bE.new w p n o v _
 have HBW:Nw (Below w.heap.size w w1):=by rw[hw1];exact bA
 have HCV:=ae (I3 p n o v ds.length lv vss w1 (hs.below HBW.o));obtain⟨la,lc,rfl,_⟩:=hs;obtain⟨da,dc,rfl,_⟩:=hds;have HRV:Nw (aS p n o v=.agg #[.int .i64 p,.int .i64 n,.int .i64 o,.int .i64 v]):=rfl;rw[HRV.o] at HCV;rw[HRV.o];obtain⟨_,bx0,bx1,bx2,bx3⟩:=hbx;cases hev:(eE p n o v ds.length vss !=0)
 rotate_left
 .have HE:=ae (A8 (ds:=ds) (vss:=vss) (show eE p n o v ds.length vss≠0 by simpa using hev));rw[HE.o];go_enter func8,ntmps8;go_upto_region 1 with fail;rw[<-hw1];clear hw1;go_wp2_with (go_at_call 20;refine HCV.o.mono ?_;rintro e w2 ⟨rfl,q1⟩;have HB2:=ae q1;clear q1);go_ret;exact⟨rfl,HBW.o.trans (HB2.o.mono HBW.o.size)⟩
 .have hz:eE p n o v ds.length vss=0:=by simpa using hev
  have HZ:=ae hz;obtain⟨hvz,hr3,hl4,_⟩:=vu hz;obtain⟨hR,hrk,hvl,hall⟩:=pI hvz;have HALL:=ae hall;have HRR:=ae hR;rw[hz] at HCV;have hd3:ds.length<=3:=by omega
  have HCF:Nw (∀W,Below w.heap.size w W->Calls prog 21 #[.slice da ds.length dc,.func (.func 22) #[] #[]] W λe w'=>e=.returned (.bool (ds.any eJ))/\w'=W):=λW hW=>I6 _ ds W (by omega) (HD.o.below hW);have hrk1:1<=ds.length:=by omega
  clear hz hall hR hev hvz hrk hr3;cases h6:ds.any eJ
  rotate_left
  .have HE:=ae (A9 HZ.o h6);rw[HE.o];rw[h6] at HCF;go_enter func8,ntmps8;go_upto_region 1 with fail;rw[<-hw1];clear hw1;go_upto_region 4 with (go_at_call 20;refine HCV.o.mono ?_;rintro e w2 ⟨rfl,q1⟩;have HB2:=ae (HBW.o.trans (q1.mono HBW.o.size));clear q1);go_wp2_with (go_at_call 21;refine(HCF.o _ HB2.o).mono ?_;rintro e w3 ⟨rfl,rfl⟩);go_ret;exact⟨rfl,HB2.o⟩
  .have HE:=ae (Ba HZ.o h6);have HOB:Nw (ds.any cI=false):=by refine List.any_eq_false.2 λx hx=>?_;have:=List.any_eq_false.1 h6 x hx;unfold eJ bO at this;unfold cI;simp at this⊢;omega
   rw[HE.o];rw[h6] at HCF;have HDG:Nw (∀fss∈vss,∀y W,Below w.heap.size w W->Vl W y fss->Calls prog 23 #[.agg #[.int .i64 p,.int .i64 n,.int .i64 o,.int .i64 v],.slice da ds.length dc,y] W λe w'=>∃dd,e=.returned (.tuple #[.int .i64 dd,.int .i64 (eF (aV ds fss fss.length))])/\Below W.heap.size W w'):=λfss hm y W hW hv=>by
    obtain⟨hfl,hfo⟩:=HALL.o fss hm;have hlen:fss.length=ds.length:=by omega
    have ha:=I7 (v:=v) HRR.o (fss:=fss) (by omega) (by omega) hfo;have h:=I8 p n o v (.slice da ds.length dc) y ds fss W (HD.o.below hW) hv;have e:jJ (fI p n o v [fss]) ds fss=eF (aV ds fss fss.length):=by unfold jJ;rw[M8 (by simpa using ha),M8 (by omega),M8 (by rw[HOB.o];simp)]
    rw[e] at h;refine h.mono ?_;rintro e2 w' ⟨rfl,hb⟩;exact⟨_,rfl,hb⟩
   clear h6 HALL HRR HOB;go_enter func8,ntmps8;go_upto_region 1 with fail;rw[<-hw1];clear hw1;go_upto_region 4 with (go_at_call 20;refine HCV.o.mono ?_;rintro e w2 ⟨rfl,q1⟩;have HB2:=ae (HBW.o.trans (q1.mono HBW.o.size));have HB12:=ae q1;clear q1);go_wp2_with (go_at_call 21;refine(HCF.o _ HB2.o).mono ?_;rintro e w3 ⟨rfl,rfl⟩);have y0:=af bx0 HB12.o;have y1:=af bx1 HB12.o;have y2:=af bx2 HB12.o;have y3:=af bx3 HB12.o;go_loopw [24] (λi wm=>∃j:Nat,j<=vss.length/\i=.int .i64 j/\vss.any (iX ds)=(vss.drop j).any (iX ds)/\Below w1.heap.size w1 wm) (λi _=>vss.length-(intOf i).toNat);case atStart=>exact⟨0,MP _,rfl,rfl,HB12.o⟩
   case round=>
    rename World=>wm;obtain⟨j,hj,rfl,hej,hbm⟩:=hrel;have HBM:=ae hbm;have HBX:Nw (Below w.heap.size w wm):=HBW.o.trans (hbm.mono HBW.o.size);have HEJ:=ae hej;clear hbm hej y0 y1 y2 y3;have y0:=af bx0 HBM.o;have y1:=af bx1 HBM.o;have y2:=af bx2 HBM.o;have y3:=af bx3 HBM.o;by_cases hj2:j<vss.length
    .have HFJ:=ae (HEJ.o.trans (rR (iX ds) vss j hj2));obtain⟨b,off,va,vc,rfl,hlt,c0,hvl2⟩:=jC HS.o j hj2;have hmem:=iq vss j hj2;have HDV:=ae (HDG.o (vss.getD j []) hmem (.slice va (vss.getD j []).length vc) wm HBX.o (hvl2.below HBX.o));generalize vss.getD j []=fss at c0 hvl2 HFJ hmem HDV;have d0:=af c0 HBX.o;have HUN:Nw (iX ds fss=decide (eF (aV ds fss fss.length)=4)):=rfl;have HDC:=ae (Bb (aV ds fss fss.length));generalize eF (aV ds fss fss.length)=ee at HDV HUN HDC;clear hvl2 hmem;have hjI:(j:Int)<(vss.length:Int):=by omega
     rcases HDC.o with h5|h5|h5
     .subst h5;go_wp2_with (go_at_call 23;refine HDV.o.mono ?_;rintro e w9 ⟨dd,rfl,q1⟩;have HB9:=ae (HBM.o.trans (q1.mono HBM.o.size));clear q1);go_roundw;case rel=>exact⟨j+1,by omega,by go_num,by rw[HFJ.o,HUN.o];rfl,HB9.o⟩
      case measure=>simp[intOf];omega
     .subst h5;go_wp2_with (go_at_call 23;refine HDV.o.mono ?_;rintro e w9 ⟨dd,rfl,q1⟩;have HB9:=ae (HBM.o.trans (q1.mono HBM.o.size));clear q1);go_roundw;case rel=>exact⟨j+1,by omega,by go_num,by rw[HFJ.o,HUN.o];rfl,HB9.o⟩
      case measure=>simp[intOf];omega
     .subst h5;go_wp2_with (go_at_call 23;refine HDV.o.mono ?_;rintro e w9 ⟨dd,rfl,q1⟩;have HB9:=ae (HBM.o.trans (q1.mono HBM.o.size));clear q1);go_ret;refine⟨bL ?_,HBW.o.trans (HB9.o.mono HBW.o.size)⟩;unfold lO;rw[HFJ.o,HUN.o];rfl
    .go_wp2;go_ret;refine⟨bL ?_,HBX.o⟩;unfold lO;rw[HEJ.o,No (by omega)];rfl
end Go.Proofs.YteimdcndjjclnaaGreat
