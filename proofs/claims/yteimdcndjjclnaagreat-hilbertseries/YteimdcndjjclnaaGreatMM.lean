/- basis.Check: anyPoly with its own closure, and the whole. -/
import Derived.Test.YteimdcndjjclnaaGreatNH
import Derived.Laws.EntriesVeiled
set_option maxHeartbeats 2000000
set_option maxRecDepth 100000
namespace Go.Proofs.YteimdcndjjclnaaGreat
set_option linter.all false
open Go.Proofs.Tryz Go.RowKit
def Ig(f:List Tm):Prop:=(∀t∈f,0<t.2.length/\t.2.length<=3)/\∀t∈f,∀e∈t.2,0<=e/\e<=400
def gY(T:List Tm->Bool)(v:List (List Tm)):Bool:=v.any T
theorem Ih(cf:FuncId)(hcf:cf=41\/False)(T:List Tm->Bool)(Ok:List Tm->Prop)(hcl:∀(u:Value) f (W:World),Pl W u f->Ok f->Calls prog cf #[u] W λe w'=>e=.returned (.bool (T f))/\w'=W)(v:Value)(fs:List (List Tm))(w:World)(hv:Vl w v fs)(hn:fs.length<=1000000)(hok:∀f∈fs,Ok f):Calls prog 95 #[v,.func (.func cf) #[] #[]] w λe w'=>∃r:Int,e=.returned (.int .i64 r)∧-1<=r/\(decide (0<=r)=fs.any T)/\w'=w:=by
 have e41:cf=41:=hcf.elim id False.elim;clear hcf;subst e41;all_goals
  have HOK:=ac hok;have HCL:=ac hcl;obtain⟨xa,xc,rfl,hp⟩:=hv;have HP:=ac hp;clear hok hp hcl;go_enter func95,ntmps95;go_wp2_with fail;go_loopw [8] (λi wr=>∃m:Nat,m<=fs.length/\i=.int .i64 m/\(∀j (h:j<fs.length),j<m->T fs[j]=false)/\wr=w) (λi _=>fs.length-(intOf i).toNat);case atStart=>exact⟨0,Ll _,rfl,λj _ h=>by omega,rfl⟩
  case round=>
   obtain⟨m,hm,rfl,hno,rfl⟩:=hrel;have HNO:=ac hno;clear hno;by_cases hm2:m<fs.length
   .obtain⟨b,off,rfl,hlt,hpl⟩:=HP.o (by omega);obtain⟨u,hu,hpu⟩:=hpl m hm2;have e:fs.getD m []=fs[m]:=by rw[Lr,Ls hm2];rfl
    rw[e] at hpu;have hk:=HOK.o fs[m] (Lo hm2);have HC:=ac (HCL.o u fs[m] _ hpu hk);obtain⟨ua,uc,rfl,_,_⟩:=hpu;have HFI:Ma (T fs[m]=true->decide ((0:Int)<=(m:Int))=fs.any T):=λh=>by show _=_;rw[List.any_eq_true.2 ⟨fs[m],Lo hm2,h⟩];simp
    have HNX:Ma (T fs[m]=false->∀j (h:j<fs.length),j<m+1->T fs[j]=false):=λh j hj hjm=>by
     rcases Nat.lt_succ_iff_lt_or_eq.1 hjm with h2|rfl
     .exact HNO.o j hj h2
     .exact h
    clear hpl hk e;generalize fs[m]=f at HC HFI HNX hu;cases hh:T f with
    |false=>
     rw[hh] at HC;have HN:=ac (HNX.o hh);clear hh HNX HFI;go_wp2_with (refine HC.o.mono ?_;rintro e w9 ⟨rfl,rfl⟩);go_roundw;case rel=>exact⟨m+1,by omega,by go_num,HN.o,by trivial⟩
     case measure=>simp[intOf];omega
    |true=>rw[hh] at HC;have HN:=ac (HFI.o hh);clear hh HNX HFI;go_wp2_with (refine HC.o.mono ?_;rintro e w9 ⟨rfl,rfl⟩);go_ret;exact⟨m,rfl,by omega,HN.o,rfl⟩
   .have e:m=fs.length:=by omega
    subst e;have HE:Ma (decide ((0:Int)≤-1)=fs.any T):=by
     show _=_;rw[List.any_eq_false.2 λf hf=>by
      obtain⟨j,hj,rfl⟩:=List.getElem_of_mem hf;simp[HNO.o j hj hj]]
     rfl
    go_wp2;go_ret;exact⟨-1,rfl,by omega,HE.o,rfl⟩
theorem Ii(cf:FuncId)(hcf:cf=41\/False)(T:List Tm->Bool)(Ok:List Tm->Prop)(hcl:∀(u:Value) f (W:World),Pl W u f->Ok f->Calls prog cf #[u] W λe w'=>e=.returned (.bool (T f))/\w'=W)(v:Value)(fs:List (List Tm))(w:World)(hv:Vl w v fs)(hn:fs.length<=1000000)(hok:∀f∈fs,Ok f):Calls prog 68 #[v,.func (.func cf) #[] #[]] w λe w'=>e=.returned (.bool (fs.any T))/\w'=w:=by have HIX:=ac (Ih cf hcf T Ok hcl v fs w hv hn hok);obtain⟨xa,xc,rfl,_⟩:=hv;clear hok hcl hcf;go_enter func68,ntmps68;go_wp2_with (go_at_call 95;refine HIX.o.mono ?_;rintro e w9 ⟨r9,rfl,h1,h2,rfl⟩;have H2:=ac h2;clear h2);go_ret;exact⟨by rw[<-H2.o];rfl,rfl⟩
theorem Ij(cf:FuncId)(hcf:cf=41\/False)(T:List Tm->Bool)(Ok:List Tm->Prop)(hcl:∀(u:Value) f (W:World),Pl W u f->Ok f->Calls prog cf #[u] W λe w'=>e=.returned (.bool (T f))/\w'=W)(cb:Nat)(v:Value)(fs:List (List Tm))(w:World)(hcb:w.cell? ⟨cb,0,none⟩=some (.func (.func cf) #[] #[]))(hv:Vl w v fs)(hn:fs.length<=1000000)(hok:∀f∈fs,Ok f):Calls prog 67 #[v,.pointer (some ⟨cb,0,none⟩)] w λe w'=>e=.returned (.bool (gY T fs))/\w'=w:=by have HC:=ac (Ii cf hcf T Ok hcl v fs w hv hn hok);obtain⟨xa,xc,rfl,_⟩:=hv;unfold gY;generalize fs.any T=r at HC⊢;clear hok hcl;go_enter func67,ntmps67;go_wp2_with (go_at_call 68;refine HC.o.mono ?_;rintro e w9 ⟨rfl,rfl⟩);go_ret;exact⟨rfl,rfl⟩
theorem Ik(cf:FuncId)(hcf:cf=41\/False)(T:List Tm->Bool)(Ok:List Tm->Prop)(hcl:∀(u:Value) f (W:World),Pl W u f->Ok f->Calls prog cf #[u] W λe w'=>e=.returned (.bool (T f))/\w'=W)(cb:Nat)(v:Value)(vss:List (List (List Tm)))(w:World)(hcb:w.cell? ⟨cb,0,none⟩=some (.func (.func cf) #[] #[]))(hv:Wl w v vss)(hn:vss.length<=1000000)(hok:∀f∈vss,f.length<=1000000/\∀g∈f,Ok g):Calls prog 94 #[v,.func (.func 67) #[] #[.pointer (some ⟨cb,0,none⟩)]] w λe w'=>∃r:Int,e=.returned (.int .i64 r)∧-1<=r/\(decide (0<=r)=vss.any (gY T))/\w'=w:=by
 have HOK:=ac hok;have HCL:=ac hcl;obtain⟨xa,xc,rfl,hp⟩:=hv;have HP:=ac hp;clear hok hp hcl;go_enter func94,ntmps94;go_wp2_with fail;go_loopw [8] (λi wr=>∃m:Nat,m<=vss.length/\i=.int .i64 m/\(∀j (h:j<vss.length),j<m->(gY T) vss[j]=false)/\wr=w) (λi _=>vss.length-(intOf i).toNat);case atStart=>exact⟨0,Ll _,rfl,λj _ h=>by omega,rfl⟩
 case round=>
  obtain⟨m,hm,rfl,hno,rfl⟩:=hrel;have HNO:=ac hno;clear hno;by_cases hm2:m<vss.length
  .obtain⟨b,off,rfl,hlt,hpl⟩:=HP.o (by omega);obtain⟨u,hu,hpu⟩:=hpl m hm2;have e:vss.getD m []=vss[m]:=by rw[Lr,Ls hm2];rfl
   rw[e] at hpu;have hk:=HOK.o vss[m] (Lo hm2);have HC:=ac (Ij cf hcf T Ok HCL.o cb u vss[m] _ hcb hpu hk.1 hk.2);obtain⟨ua,uc,rfl,_⟩:=hpu;have HFI:Ma ((gY T) vss[m]=true->decide ((0:Int)<=(m:Int))=vss.any (gY T)):=λh=>by show _=_;rw[List.any_eq_true.2 ⟨vss[m],Lo hm2,h⟩];simp
   have HNX:Ma ((gY T) vss[m]=false->∀j (h:j<vss.length),j<m+1->(gY T) vss[j]=false):=λh j hj hjm=>by
    rcases Nat.lt_succ_iff_lt_or_eq.1 hjm with h2|rfl
    .exact HNO.o j hj h2
    .exact h
   clear hpl hk e;generalize vss[m]=f at HC HFI HNX hu;cases hh:(gY T) f with
   |false=>
    rw[hh] at HC;have HN:=ac (HNX.o hh);clear hh HNX HFI;go_wp2_with (go_at_call 67;refine HC.o.mono ?_;rintro e w9 ⟨rfl,rfl⟩);go_roundw;case rel=>exact⟨m+1,by omega,by go_num,HN.o,by trivial⟩
    case measure=>simp[intOf];omega
   |true=>rw[hh] at HC;have HN:=ac (HFI.o hh);clear hh HNX HFI;go_wp2_with (go_at_call 67;refine HC.o.mono ?_;rintro e w9 ⟨rfl,rfl⟩);go_ret;exact⟨m,rfl,by omega,HN.o,rfl⟩
  .have e:m=vss.length:=by omega
   subst e;have HE:Ma (decide ((0:Int)≤-1)=vss.any (gY T)):=by
    show _=_;rw[List.any_eq_false.2 λf hf=>by
     obtain⟨j,hj,rfl⟩:=List.getElem_of_mem hf;simp[HNO.o j hj hj]]
    rfl
   go_wp2;go_ret;exact⟨-1,rfl,by omega,HE.o,rfl⟩
theorem Il(cf:FuncId)(hcf:cf=41\/False)(T:List Tm->Bool)(Ok:List Tm->Prop)(hcl:∀(u:Value) f (W:World),Pl W u f->Ok f->Calls prog cf #[u] W λe w'=>e=.returned (.bool (T f))/\w'=W)(cb:Nat)(v:Value)(vss:List (List (List Tm)))(w:World)(hcb:w.cell? ⟨cb,0,none⟩=some (.func (.func cf) #[] #[]))(hv:Wl w v vss)(hn:vss.length<=1000000)(hok:∀f∈vss,f.length<=1000000/\∀g∈f,Ok g):Calls prog 66 #[v,.func (.func 67) #[] #[.pointer (some ⟨cb,0,none⟩)]] w λe w'=>e=.returned (.bool (vss.any (gY T)))/\w'=w:=by have HIX:=ac (Ik cf hcf T Ok hcl cb v vss w hcb hv hn hok);obtain⟨xa,xc,rfl,_⟩:=hv;clear hok hcb hcl;go_enter func66,ntmps66;go_wp2_with (go_at_call 94;refine HIX.o.mono ?_;rintro e w9 ⟨r9,rfl,h1,h2,rfl⟩;have H2:=ac h2;clear h2);go_ret;exact⟨by rw[<-H2.o];rfl,rfl⟩
theorem Im(cf:FuncId)(hcf:cf=41\/False)(T:List Tm->Bool)(Ok:List Tm->Prop)(hcl:∀(u:Value) f (W:World),Pl W u f->Ok f->Calls prog cf #[u] W λe w'=>e=.returned (.bool (T f))/\w'=W)(v:Value)(vss:List (List (List Tm)))(w:World)(hv:Wl w v vss)(hn:vss.length<=1000000)(hok:∀f∈vss,f.length<=1000000/\∀g∈f,Ok g):Calls prog 40 #[v,.func (.func cf) #[] #[]] w λe w'=>e=.returned (.bool (vss.any (gY T)))/\Below w.heap.size w w':=by
 obtain⟨w1,hw1⟩:∃w1,w1=w.alloc (.cells #[.func (.func cf) #[] #[]] 77):=⟨_,rfl⟩;have HB1:Ma (Below w.heap.size w w1):=by rw[hw1];exact aj
 have hc1:w1.cell? ⟨w.heap.size,0,none⟩=some (.func (.func cf) #[] #[]):=by rw[hw1];simp[go_sem]
 have HC:=ac (Il cf hcf T Ok hcl w.heap.size v vss w1 hc1 (hv.below HB1.o) hn hok);obtain⟨xa,xc,rfl,_⟩:=hv;generalize vss.any (gY T)=r at HC⊢;clear hok hc1 hcl;go_enter func40,ntmps40;go_upto_region 1 with fail;rw[<-hw1];clear hw1;go_wp2_with (go_at_call 66;refine HC.o.mono ?_;rintro e w9 ⟨rfl,rfl⟩);go_ret;exact⟨rfl,HB1.o⟩
theorem Ay:∀(ts:List Tm)(m:Int),(∀t∈ts,ah t.2<=m)->eJ m ts=m
 |[],m,_=>rfl
 |t::ts,m,h=>by have h1:=h t (by simp);simp only[eJ];rw[LH (by omega)];exact Ay ts m λu hu=>h u (by simp[hu])
theorem Az{p o:Int}{N:Nat}{f:List Tm}(h:cQ p o N f):decide (3<eJ (-1) f)=decide (3<qK f):=by
 cases f with
 |nil=>rfl
 |cons t ts=>
  have h1:=AA h.canon;have h0:0<=ah t.2:=p9 λx hx=>(h.bd t (by simp) x hx).1;have e:eJ (-1) (t::ts)=ah t.2:=by simp only[eJ];rw[LI (by omega)];exact Ay ts _ λu hu=>h1 u (by simp[hu])
  rw[e];rfl
theorem AB{p o:Int}{N:Nat}(hn:0<N)(h3:N<=3){f:List Tm}(h:cQ p o N f):Ig f:=by
 refine⟨λt ht=>?_,λt ht e he=>?_⟩
 .have:=h.canon.len t ht;omega
 .have h0:∀x∈t.2,0<=x:=λx hx=>(h.bd t ht x hx).1;have h1:=ta h0 e he;have h2:=h.deg t ht;have h4:=h0 e he;omega
def oM(f:List Tm):Bool:=decide (6<f.length)||decide (3<qK f)
theorem In(v:Value)(f:List Tm)(w:World)(hv:Pl w v f)(hok:∀t∈f,0<t.2.length/\t.2.length<=3)(hb:∀t∈f,∀e∈t.2,0<=e/\e<=400):Calls prog 41 #[v] w λe w'=>e=.returned (.bool (oM f))/\w'=w:=by
 have HD:=ac (Ip v f w hv hok hb);unfold oM;obtain⟨xa,xc,rfl,_,_⟩:=hv;generalize qK f=d at HD⊢;clear hok hb;by_cases hl:6<f.length
 .have hl2:decide ((6:Int)<(f.length:Int))=true:=Li (by omega);rw[Li hl,Bool.true_or];go_enter func41,ntmps41;go_wp2_with (go_at_call 42;refine HD.o.mono ?_;rintro e w9 ⟨rfl,rfl⟩);go_ret;exact⟨rfl,rfl⟩
 .have hl2:decide ((6:Int)<(f.length:Int))=false:=Lh (by omega);rw[Lh hl,Bool.false_or];go_enter func41,ntmps41;go_wp2_with (go_at_call 42;refine HD.o.mono ?_;rintro e w9 ⟨rfl,rfl⟩);go_ret;exact⟨rfl,rfl⟩
theorem uv{α:Type}{f g:α->Bool}:∀{l:List α},(∀x∈l,f x=g x)->l.any f=l.any g
 |[],_=>rfl
 |x::l,h=>by rw[List.any_cons,List.any_cons,h x (by simp),uv λy hy=>h y (by simp[hy])]
theorem Iq(p n o v rank:Int)(lv:Value)(vss:List (List (List Tm)))(w:World)(hs:Wl w lv vss):Calls prog 20 #[aT p n o v,.int .i64 rank,lv] w λe w'=>e=.returned (.int .i64 (dY p n o v rank vss))/\Below w.heap.size w w':=by
 have HS:=ac hs;obtain⟨w1,hw1⟩:∃w1,w1=w.alloc (.cells #[.int .i64 p,.int .i64 n,.int .i64 o,.int .i64 v] 23):=⟨_,rfl⟩;have hbx:bE w1 w.heap.size p n o v:=by rw[hw1];exact bE.new w p n o v _
 have HBW:Ma (Below w.heap.size w w1):=by rw[hw1];exact bv
 have HCV:=ac (Ir p n o v rank lv vss w1 (hs.below HBW.o));obtain⟨la,lc,rfl,_⟩:=hs;unfold aT at HCV;unfold aT;obtain⟨_,bx0,bx1,bx2,bx3⟩:=hbx;cases hev:(df p n o v rank vss !=0)
 rotate_left
 .have HE:=ac (uw (show df p n o v rank vss≠0 by simpa using hev));rw[HE.o];go_enter func20,ntmps20;go_upto_region 1 with fail;rw[<-hw1];clear hw1;go_wp2_with (go_at_call 39;refine HCV.o.mono ?_;rintro e w2 ⟨rfl,q1⟩;have HB2:=ac q1;clear q1);go_ret;exact⟨rfl,HBW.o.trans (HB2.o.mono HBW.o.size)⟩
 .have hz:df p n o v rank vss=0:=by simpa using hev
  have HZ:=ac hz;obtain⟨hR,hrk,hvl,hall⟩:=oN hz;obtain⟨_,hn1,hn3,_,_⟩:=jq hR;have HRT:Ma (∀g∈vss,∀f∈g,cQ p o n.toNat f):=λg hg f hf=>by have h:=(hall g hg).2 f hf;rw[show n=(n.toNat:Int) by omega] at h;exact oO h
  have HAL:Ma (∀g∈vss,g.length<=1000000):=λg hg=>by have:=(hall g hg).1;omega
  have HN:=ac (Lg hn1 hn3);rw[hz] at HCV;clear hz hall hR hev hn1 hn3;by_cases hr3:3<rank
  .have HE:=ac (qL HZ.o (L0 hr3));rw[HE.o];have hd3:decide (3<rank)=true:=by simpa using hr3
   go_enter func20,ntmps20;go_upto_region 1 with fail;rw[<-hw1];clear hw1;go_wp2_with (go_at_call 39;refine HCV.o.mono ?_;rintro e w2 ⟨rfl,q1⟩;have HB2:=ac q1;clear q1);go_ret;exact⟨rfl,HBW.o.trans (HB2.o.mono HBW.o.size)⟩
  .have hd3:decide (3<rank)=false:=by simpa using hr3
   by_cases hl4:4<vss.length
   .have HE:=ac (qL HZ.o (L3 hl4));rw[HE.o];have hd4:decide ((4:Int)<(vss.length:Int))=true:=Li (by omega);go_enter func20,ntmps20;go_upto_region 1 with fail;rw[<-hw1];clear hw1;go_wp2_with (go_at_call 39;refine HCV.o.mono ?_;rintro e w2 ⟨rfl,q1⟩;have HB2:=ac q1;clear q1);go_ret;exact⟨rfl,HBW.o.trans (HB2.o.mono HBW.o.size)⟩
   .have hd4:decide ((4:Int)<(vss.length:Int))=false:=Lh (by omega);have HE:=ac (ux HZ.o (show¬(3<rank\/4<vss.length) by omega));have HAN:Ma (∀W,Below w.heap.size w W->Calls prog 40 #[.slice la vss.length lc,.func (.func 41) #[] #[]] W λe w'=>e=.returned (.bool (vss.any iq))/\Below W.heap.size W w'):=λW hW=>by
     have h:=Im 41 (L0 rfl) oM (λf=>cQ p o n.toNat f) (λu f W h1 h2=>In u f W h1 (AB (by have:=HN.o;omega) (by have:=HN.o;omega) h2).1 (AB (by have:=HN.o;omega) (by have:=HN.o;omega) h2).2) (.slice la vss.length lc) vss W (HS.o.below hW) (by omega) (λg hg=>⟨HAL.o g hg,HRT.o g hg⟩);have e:vss.any (gY oM)=vss.any iq:=uv λg hg=>uv λf hf=>by unfold oM gj;rw[Az (HRT.o g hg f hf)]
     rw[e] at h;exact h
    rw[HE.o];unfold l7;cases hbg:vss.any iq
    .rw[hbg] at HAN;rw[LH (by simp)];go_enter func20,ntmps20;go_upto_region 1 with fail;rw[<-hw1];clear hw1;go_upto_region 6 with (go_at_call 39;refine HCV.o.mono ?_;rintro e w2 ⟨rfl,q1⟩;have HB2:=ac (HBW.o.trans (q1.mono HBW.o.size));clear q1);go_wp2_with (go_at_call 40;refine(HAN.o _ HB2.o).mono ?_;rintro e w3 ⟨rfl,q1⟩;have HB3:=ac q1;clear q1);go_ret;exact⟨rfl,HB2.o.trans (HB3.o.mono HB2.o.size)⟩
    .rw[hbg] at HAN;rw[LI rfl];go_enter func20,ntmps20;go_upto_region 1 with fail;rw[<-hw1];clear hw1;go_upto_region 6 with (go_at_call 39;refine HCV.o.mono ?_;rintro e w2 ⟨rfl,q1⟩;have HB2:=ac (HBW.o.trans (q1.mono HBW.o.size));clear q1);go_wp2_with (go_at_call 40;refine(HAN.o _ HB2.o).mono ?_;rintro e w3 ⟨rfl,q1⟩;have HB3:=ac q1;clear q1);go_ret;exact⟨rfl,HB2.o.trans (HB3.o.mono HB2.o.size)⟩
theorem AC(x:Int)(w:World):Calls prog 22 #[.int .i64 x] w λe w'=>e=.returned (.bool (eo x))/\w'=w:=by
 unfold eo bH;by_cases h:x<0
 .have h2:decide (x<0)=true:=by simpa using h
  go_enter func22,ntmps22;go_wp2;go_ret;exact⟨by simp;omega,rfl⟩
 .have h2:decide (x<0)=false:=by simpa using h
  go_enter func22,ntmps22;go_wp2;go_ret;refine⟨?_,rfl⟩;have e:decide (0<=x)=true:=by simp;omega
  by_cases h6:x<=6
  .have e1:decide (x<=6)=true:=by simpa using h6
   have e2:decide (6<x)=false:=by simp;omega
   simp[e,e1,e2]
  .have e1:decide (x<=6)=false:=by simpa using h6
   have e2:decide (6<x)=true:=by simp;omega
   simp[e,e1,e2]
theorem Is(x:Value)(xs:List Int)(w:World)(hm:xs.length<=1000)(hs:Sl w x xs):Calls prog 43 #[x,.func (.func 22) #[] #[]] w λe w'=>∃r:Int,e=.returned (.int .i64 r)/\decide (0<=r)=xs.any eo/\w'=w:=by
 obtain⟨a,cap,rfl,h1⟩:=hs;have HC:=ac h1;clear h1;go_enter func43,ntmps43;go_wp2;go_loop [8] (λi=>∃k:Nat,k<=xs.length/\i=.int .i64 k/\(xs.take k).any eo=false) (λi=>xs.length-(intOf i).toNat);case atStart=>exact⟨0,Ll _,rfl,by simp⟩
 case round=>
  obtain⟨k,hk,rfl,hn⟩:=hrel;have HN:=ac hn;clear hn;by_cases hlt:k<xs.length
  .obtain⟨b,off,rfl,_,hc⟩:=HC.o (by omega);have hcell:=hc k hlt;have H1:=ac (nL eo xs k hlt HN.o);have H2:=ac (nN eo xs k hlt);generalize xs.getD k 0=y at hcell H1 H2;clear hc;cases hy:eo y
   .go_wp2_with (go_at_call 22;refine(AC _ _).mono ?_;rintro e w' ⟨rfl,rfl⟩);go_round;case rel=>exact⟨k+1,by omega,by go_num,H1.o hy⟩
    case measure=>simp[intOf];omega
   .go_wp2_with (go_at_call 22;refine(AC _ _).mono ?_;rintro e w' ⟨rfl,rfl⟩);go_ret;exact⟨(k:Int),rfl,by rw[H2.o hy];simp,rfl⟩
  .go_wp2;go_ret;exact⟨-1,rfl,by have:=HN.o;rw[Lz (by omega)] at this;rw[this];simp,rfl⟩
theorem It(x:Value)(xs:List Int)(w:World)(hm:xs.length<=1000)(hs:Sl w x xs):Calls prog 21 #[x,.func (.func 22) #[] #[]] w λe w'=>e=.returned (.bool (xs.any eo))/\w'=w:=by have HS:=ac hs;obtain⟨a,cap,rfl,_⟩:=hs;go_enter func21,ntmps21;go_wp2_with (go_at_call 43;refine(Is _ xs _ hm HS.o).mono ?_;rintro e w' ⟨r,rfl,hr,rfl⟩);go_ret;exact⟨by rw[<-hr];rfl,rfl⟩
theorem AD{p n o:Int}:∀{fss:List (List Tm)},(∀f∈fss,cB p n o f=0)->cO p n o fss=0
 |[],_=>rfl
 |g::r,h=>by unfold cO;rw[LI (h g (by simp)),AD λf hf=>h f (by simp[hf])]
theorem Iu{p n o v:Int}{fss:List (List Tm)}(hR:a8 p n o v=0)(h1:1<=fss.length)(h2:fss.length<=40)(h:∀f∈fss,cB p n o f=0):fh p n o v [fss]=0:=by
 have e1:gk fss=false:=by unfold gk bH;simp;omega
 have e2:eK (cO p n o) [fss]=0:=by simp only[eK];rw[LI (AD h)]
 unfold fh;rw[LH (by simpa using hR),LH (by simp[e1]),LH (by simp[fi]),e2]
theorem AE{p n o v:Int}{ds:List Int}{vss:List (List (List Tm))}(h:dY p n o v ds.length vss≠0):cM p n o v ds vss=dY p n o v ds.length vss:=by unfold cM;rw[LI h]
theorem AF{p n o v:Int}{ds:List Int}{vss:List (List (List Tm))}(h:dY p n o v ds.length vss=0)(h2:ds.any eo=true):cM p n o v ds vss=3:=by unfold cM;rw[LH (by simpa using h),LI h2]
theorem AG{p n o v:Int}{ds:List Int}{vss:List (List (List Tm))}(h:dY p n o v ds.length vss=0)(h2:ds.any eo=false):cM p n o v ds vss=kW ds vss:=by unfold cM;rw[LH (by simpa using h),LH (by simp[h2])]
theorem qM(p n o v:Int)(dv lv:Value)(ds:List Int)(vss:List (List (List Tm)))(w:World)(hds:Sl w dv ds)(hs:Wl w lv vss):Calls prog 8 #[aT p n o v,dv,lv] w λe w'=>e=.returned (.int .i64 (cM p n o v ds vss))/\Below w.heap.size w w':=by
 have HS:=ac hs;have HD:=ac hds;obtain⟨w1,hw1⟩:∃w1,w1=w.alloc (.cells #[.int .i64 p,.int .i64 n,.int .i64 o,.int .i64 v] 23):=⟨_,rfl⟩;have hbx:bE w1 w.heap.size p n o v:=by rw[hw1];exact bE.new w p n o v _
 have HBW:Ma (Below w.heap.size w w1):=by rw[hw1];exact bv
 have HCV:=ac (Iq p n o v ds.length lv vss w1 (hs.below HBW.o));obtain⟨la,lc,rfl,_⟩:=hs;obtain⟨da,dc,rfl,_⟩:=hds;have HRV:Ma (aT p n o v=.agg #[.int .i64 p,.int .i64 n,.int .i64 o,.int .i64 v]):=rfl;rw[HRV.o] at HCV;rw[HRV.o];obtain⟨_,bx0,bx1,bx2,bx3⟩:=hbx;cases hev:(dY p n o v ds.length vss !=0)
 rotate_left
 .have HE:=ac (AE (ds:=ds) (vss:=vss) (show dY p n o v ds.length vss≠0 by simpa using hev));rw[HE.o];go_enter func8,ntmps8;go_upto_region 1 with fail;rw[<-hw1];clear hw1;go_wp2_with (go_at_call 20;refine HCV.o.mono ?_;rintro e w2 ⟨rfl,q1⟩;have HB2:=ac q1;clear q1);go_ret;exact⟨rfl,HBW.o.trans (HB2.o.mono HBW.o.size)⟩
 .have hz:dY p n o v ds.length vss=0:=by simpa using hev
  have HZ:=ac hz;obtain⟨hvz,hr3,hl4,_⟩:=uy hz;obtain⟨hR,hrk,hvl,hall⟩:=oN hvz;have HALL:=ac hall;have HRR:=ac hR;rw[hz] at HCV;have hd3:ds.length<=3:=by omega
  have HCF:Ma (∀W,Below w.heap.size w W->Calls prog 21 #[.slice da ds.length dc,.func (.func 22) #[] #[]] W λe w'=>e=.returned (.bool (ds.any eo))/\w'=W):=λW hW=>It _ ds W (by omega) (HD.o.below hW);have hrk1:1<=ds.length:=by omega
  clear hz hall hR hev hvz hrk hr3;cases h6:ds.any eo
  rotate_left
  .have HE:=ac (AF HZ.o h6);rw[HE.o];rw[h6] at HCF;go_enter func8,ntmps8;go_upto_region 1 with fail;rw[<-hw1];clear hw1;go_upto_region 4 with (go_at_call 20;refine HCV.o.mono ?_;rintro e w2 ⟨rfl,q1⟩;have HB2:=ac (HBW.o.trans (q1.mono HBW.o.size));clear q1);go_wp2_with (go_at_call 21;refine(HCF.o _ HB2.o).mono ?_;rintro e w3 ⟨rfl,rfl⟩);go_ret;exact⟨rfl,HB2.o⟩
  .have HE:=ac (AG HZ.o h6);have HOB:Ma (ds.any ct=false):=by refine List.any_eq_false.2 λx hx=>?_;have:=List.any_eq_false.1 h6 x hx;unfold eo bH at this;unfold ct;simp at this⊢;omega
   rw[HE.o];rw[h6] at HCF;have HDG:Ma (∀fss∈vss,∀y W,Below w.heap.size w W->Vl W y fss->Calls prog 23 #[.agg #[.int .i64 p,.int .i64 n,.int .i64 o,.int .i64 v],.slice da ds.length dc,y] W λe w'=>∃dd,e=.returned (.tuple #[.int .i64 dd,.int .i64 (eI (aY ds fss fss.length))])/\Below W.heap.size W w'):=λfss hm y W hW hv=>by
    obtain⟨hfl,hfo⟩:=HALL.o fss hm;have hlen:fss.length=ds.length:=by omega
    have ha:=Iu (v:=v) HRR.o (fss:=fss) (by omega) (by omega) hfo;have h:=Iv p n o v (.slice da ds.length dc) y ds fss W (HD.o.below hW) hv;have e:ji (fh p n o v [fss]) ds fss=eI (aY ds fss fss.length):=by unfold ji;rw[LH (by simpa using ha),LH (by omega),LH (by rw[HOB.o];simp)]
    rw[e] at h;refine h.mono ?_;rintro e2 w' ⟨rfl,hb⟩;exact⟨_,rfl,hb⟩
   clear h6 HALL HRR HOB;go_enter func8,ntmps8;go_upto_region 1 with fail;rw[<-hw1];clear hw1;go_upto_region 4 with (go_at_call 20;refine HCV.o.mono ?_;rintro e w2 ⟨rfl,q1⟩;have HB2:=ac (HBW.o.trans (q1.mono HBW.o.size));have HB12:=ac q1;clear q1);go_wp2_with (go_at_call 21;refine(HCF.o _ HB2.o).mono ?_;rintro e w3 ⟨rfl,rfl⟩);have y0:=ae bx0 HB12.o;have y1:=ae bx1 HB12.o;have y2:=ae bx2 HB12.o;have y3:=ae bx3 HB12.o;go_loopw [24] (λi wm=>∃j:Nat,j<=vss.length/\i=.int .i64 j/\vss.any (ir ds)=(vss.drop j).any (ir ds)/\Below w1.heap.size w1 wm) (λi _=>vss.length-(intOf i).toNat);case atStart=>exact⟨0,Ll _,rfl,rfl,HB12.o⟩
   case round=>
    rename World=>wm;obtain⟨j,hj,rfl,hej,hbm⟩:=hrel;have HBM:=ac hbm;have HBX:Ma (Below w.heap.size w wm):=HBW.o.trans (hbm.mono HBW.o.size);have HEJ:=ac hej;clear hbm hej y0 y1 y2 y3;have y0:=ae bx0 HBM.o;have y1:=ae bx1 HBM.o;have y2:=ae bx2 HBM.o;have y3:=ae bx3 HBM.o;by_cases hj2:j<vss.length
    .have HFJ:=ac (HEJ.o.trans (qN (ir ds) vss j hj2));obtain⟨b,off,va,vc,rfl,hlt,c0,hvl2⟩:=jB HS.o j hj2;have hmem:=ik vss j hj2;have HDV:=ac (HDG.o (vss.getD j []) hmem (.slice va (vss.getD j []).length vc) wm HBX.o (hvl2.below HBX.o));generalize vss.getD j []=fss at c0 hvl2 HFJ hmem HDV;have d0:=ae c0 HBX.o;have HUN:Ma (ir ds fss=decide (eI (aY ds fss fss.length)=4)):=rfl;have HDC:=ac (AH (aY ds fss fss.length));generalize eI (aY ds fss fss.length)=ee at HDV HUN HDC;clear hvl2 hmem;have hjI:(j:Int)<(vss.length:Int):=by omega
     rcases HDC.o with h5|h5|h5
     .subst h5;go_wp2_with (go_at_call 23;refine HDV.o.mono ?_;rintro e w9 ⟨dd,rfl,q1⟩;have HB9:=ac (HBM.o.trans (q1.mono HBM.o.size));clear q1);go_roundw;case rel=>exact⟨j+1,by omega,by go_num,by rw[HFJ.o,HUN.o];rfl,HB9.o⟩
      case measure=>simp[intOf];omega
     .subst h5;go_wp2_with (go_at_call 23;refine HDV.o.mono ?_;rintro e w9 ⟨dd,rfl,q1⟩;have HB9:=ac (HBM.o.trans (q1.mono HBM.o.size));clear q1);go_roundw;case rel=>exact⟨j+1,by omega,by go_num,by rw[HFJ.o,HUN.o];rfl,HB9.o⟩
      case measure=>simp[intOf];omega
     .subst h5;go_wp2_with (go_at_call 23;refine HDV.o.mono ?_;rintro e w9 ⟨dd,rfl,q1⟩;have HB9:=ac (HBM.o.trans (q1.mono HBM.o.size));clear q1);go_ret;refine⟨bJ ?_,HBW.o.trans (HB9.o.mono HBW.o.size)⟩;unfold kW;rw[HFJ.o,HUN.o];rfl
    .go_wp2;go_ret;refine⟨bJ ?_,HBX.o⟩;unfold kW;rw[HEJ.o,LZ (by omega)];rfl
end Go.Proofs.YteimdcndjjclnaaGreat
