/- VSum, VTimes of the reference. -/
import Derived.Test.YtglijodcbdcngaaGreatRE
import Derived.Test.YtglijodcbdcngaaGreatRC
set_option maxHeartbeats 2000000
set_option maxRecDepth 100000
namespace Go.Proofs.YtglijodcbdcngaaGreat
set_option linter.unusedSimpArgs false
set_option linter.unusedVariables false
open Go.Proofs.Tryz Go.RowKit
theorem ez{w:World}{a:Option Addr}{c:Nat}{fss:List (List Tm)}(h:Vl w (.slice a fss.length c) fss)(k:Nat)(hk:k<fss.length):∃b off fa fc,a=some ⟨b,off,none⟩/\b<w.heap.size/\w.cell? ⟨b,off+k,none⟩=some (.slice fa (fss.getD k []).length fc)/\Pl w (.slice fa (fss.getD k []).length fc) (fss.getD k []):=by obtain⟨a2,c2,e,h1⟩:=h;obtain⟨b,off,rfl,hlt,hat⟩:=h1 (by omega);simp only[H7,true_and] at e;obtain⟨rfl,rfl⟩:=e;obtain⟨v,hc,hp⟩:=hat k hk;have hp2:=hp;obtain⟨fa,fc,rfl,_,_⟩:=hp;exact⟨b,off,fa,fc,rfl,hlt,hc,hp2⟩
theorem jT{α:Type}(l:List α)(x:α):(l++[x]).length=l.length+1:=by simp
theorem nN{α:Type}(l:List (List α))(k:Nat)(h:k<l.length):l.take (k+1)=l.take k++[l.getD k []]:=by rw[List.take_succ_eq_append_getElem h];simp[Hs,h]
theorem kh{α:Type}(F:List α->List α)(l:List (List α))(k:Nat)(h:k<l.length):(l.map F).getD k []=F (l.getD k []):=by simp[Hs,h]
def ch(p o:Int)(fss gss:List (List Tm)):List (List Tm):=List.zipWith (λf g=>aG p o (f++g)) fss gss
theorem iu{p o:Int}{fss gss:List (List Tm)}(h:fss.length=gss.length):(ch p o fss gss).length=fss.length:=by unfold ch;rw[List.length_zipWith];omega
theorem lU{p o:Int}{fss gss:List (List Tm)}{k:Nat}(h:fss.length=gss.length)(hk:k<fss.length):(ch p o fss gss).getD k []=aG p o (fss.getD k []++gss.getD k []):=by unfold ch;simp[Hs,List.getElem?_zipWith,hk,show k<gss.length by omega]
def aN(p o:Int)(f:List Tm)(gss:List (List Tm)):List (List Tm):=gss.map λg=>aG p o (aB p f g)
theorem ns(w:World)(x:Value)(T:TypeId):∀j u,[x][j]?=some u->(w.alloc (.cells #[x] T)).cell? ((⟨w.heap.size,0,none⟩:Addr).add j)=some u:=by
 intro j u hj;rcases j with _|j
 ·simp at hj;subst hj;simp[Addr.add,go_sem]
 ·simp at hj
def Sm(p:Int)(N:Nat)(f:List Tm):Prop:=(∀t∈f,dP p N t)/\f.length<=600000000000
theorem zY(p n o v:Int)(N:Nat)(x y:Value)(fss gss:List (List Tm))(w:World)(hp:2<=p/\p<=101)(ho:o=1\/o=2)(hN0:0<N)(hN:N<=3)(hl:fss.length=gss.length)(hm:fss.length<=1000)(hf:∀f∈fss,Sm p N f)(hg:∀g∈gss,Sm p N g)(pf:Vl w x fss)(pg:Vl w y gss):Calls prog 74 #[az p n o v,x,y] w λe w'=>∃u,e=.returned u/\Vl w' u (ch p o fss gss)/\Below w.heap.size w w':=by
 have HX:=aa pf;have HY:=aa pg;have HF:=aa hf;have HG:=aa hg;have HP:=aa hp;have HO:=aa ho;have HL:=aa hl;obtain⟨ax,cx,rfl,_⟩:=pf;obtain⟨ay,cy,rfl,_⟩:=pg;clear hf hg hp ho hl;obtain⟨w1,hw1⟩:∃w1,w1=w.alloc (.cells #[.int .i64 p,.int .i64 n,.int .i64 o,.int .i64 v] 23):=⟨_,rfl⟩;have hbx:aX w1 w.heap.size p n o v:=by rw[hw1];exact aX.new w p n o v _
 have hbw:Below w.heap.size w w1:=by rw[hw1];exact bp
 have HBX:=aa hbx;have HBW:=aa hbw;clear hbx hbw;go_enter func74,ntmps74;go_wp2_with fail;rw[<-hw1];clear hw1;go_loopw [7,8] (λz i wr=>∃(k:Nat)(us:List Value),k<=fss.length/\i=.int .i64 k/\cl w1.heap.size wr z us ((ch p o fss gss).take k)/\Below w1.heap.size w1 wr) (λ_ i _=>fss.length-(intOf i).toNat);case atStart=>exact⟨0,[],Hl _,rfl,cl.nil _ _,Hf _ _⟩
 case round=>
  obtain⟨k,us,hk,rfl,hrow,hbr⟩:=hrel;have HROW:=aa hrow;have HBR:=aa hbr;obtain⟨ys,hys⟩:∃ys,(ch p o fss gss).take k=ys:=⟨_,rfl⟩;have HTL:Ic (ys.length=k):=by show _=_;rw[<-hys,List.length_take,iu HL.o];omega
  rw[hys] at hrow HROW;have HYS:=aa hys;clear hys;obtain⟨za,zc,hz⟩:=cq hrow.own;subst hz;clear hrow hbr;by_cases hk2:k<fss.length
  ·have hk3:k<gss.length:=by have:=HL.o;omega
   obtain⟨b,off,fa,fc,rfl,hlt,c0,hpf⟩:=ez HX.o k hk2;obtain⟨b2,off2,ga,gc,rfl,hlt2,d0,hpg⟩:=ez HY.o k hk3;have hkI:(k:Int)<(gss.length:Int):=by omega
   have HDN:=aa (HBW.o.trans (HBR.o.mono HBW.o.size));have HTS:Ic ((ch p o fss gss).take (k+1)=ys++[aG p o (fss.getD k []++gss.getD k [])]):=by show _=_;rw[<-HYS.o,nN _ _ (by rw[iu HL.o];exact hk2),lU HL.o hk2]
   have HFG:=aa (Hg (HF.o _ (cG fss k hk2)) (HG.o _ (cG gss k hk3)));generalize fss.getD k []=f at c0 hpf HTS HFG;generalize gss.getD k []=g at d0 hpg HTS HFG;have HPF:=aa (hpf.below HBW.o);have HPG:=aa (hpg.below HBW.o);clear hpf hpg;obtain⟨_,bx0,bx1,bx2,bx3⟩:=HBX.o;have KEEP:Ic (∀W,Below w1.heap.size w1 W->(Ic (Below w1.heap.size w1 W)/\W.cell? ⟨w.heap.size,0,none⟩=some (.int .i64 p)/\W.cell? ⟨w.heap.size,1,none⟩=some (.int .i64 n)/\W.cell? ⟨w.heap.size,2,none⟩=some (.int .i64 o)/\W.cell? ⟨w.heap.size,3,none⟩=some (.int .i64 v)/\W.cell? ⟨b,off+k,none⟩=some (.slice fa f.length fc)/\W.cell? ⟨b2,off2+k,none⟩=some (.slice ga g.length gc))):=
    λW hb=>⟨hb,ae bx0 hb,ae bx1 hb,ae bx2 hb,ae bx3 hb,ae (ae c0 HBW.o) hb,ae (ae d0 HBW.o) hb⟩
   have HB0:Ic (Below w1.heap.size w1 wr.drew):=HBR.o.drew;clear bx0 bx1 bx2 bx3 c0 d0;go_wp2;go_region_held_law (λW=>Ic (Below w1.heap.size w1 W)/\W.cell? ⟨w.heap.size,0,none⟩=some (.int .i64 p)/\W.cell? ⟨w.heap.size,1,none⟩=some (.int .i64 n)/\W.cell? ⟨w.heap.size,2,none⟩=some (.int .i64 o)/\W.cell? ⟨w.heap.size,3,none⟩=some (.int .i64 v)/\W.cell? ⟨b,off+k,none⟩=some (.slice fa f.length fc)/\W.cell? ⟨b2,off2+k,none⟩=some (.slice ga g.length gc))
    (first|exact KEEP.o _ HB0.o|exact KEEP.o _ HB7.o|exact KEEP.o _ (HB6.o.trans (af.mono HB6.o.size))|exact KEEP.o _ HB6.o)
    (first|(refine r7 rfl (.tmp 15) (.tmp 26) 33 rfl underlying33 w1.heap.size (.slice za ys.length zc) us ys (by simp[Act.eval,Act.put]) (PR6.o.next af) ⟨w6.heap.size,0,none⟩ 1 (.slice ua6 (aG p o (f++g)).length uc6) (aG p o (f++g)) (HU6.o.below af) (by simp[Act.eval,Act.put]) (ns _ _ _) (by rw[HTL.o];omega) (Hk HB6.o.size (by simp)) ?_;intro v7 w7 r1 r2;have HB7:=aa (show Below w1.heap.size w1 w7 from (PR6.o.next af).grown (HB6.o.trans (af.mono HB6.o.size)) r2 (He _));obtain⟨va7,vc7,hv7⟩:=cq r1.own;rw[jT] at hv7;subst hv7;have HR7:=aa r1;clear r1 r2)|(go_at_call 73;refine(rB p n o v N _ _ f g _ HP.o HO.o hN0 hN HFG.o.1.1 HFG.o.2.1 ?_ ?_ ?_).mono ?_;(have h1:=HFG.o.1.2;have h2:=HFG.o.2.2;omega);exact HPF.o.below HB0.o;exact HPG.o.below HB0.o;rintro e w6 ⟨u6,rfl,hu6,hb6⟩;have PR6:=aa (HROW.o.next (((Hf wr.heap.size wr).drew).trans hb6));have HB6:=aa (show Below w1.heap.size w1 w6 from HB0.o.trans (hb6.mono HB0.o.size));have HU6:=aa hu6;obtain⟨ua6,uc6,rfl,_,_⟩:=hu6;clear hb6))
   all_goals
    go_wp2;first
     |exact⟨⟨k+1,us++[_],by omega,by go_num,by rw[HTS.o];exact HR7.o,HB7.o⟩,by simp[intOf];omega⟩
     |(go_roundw;(case rel=>exact⟨k+1,us++[_],by omega,by go_num,by rw[HTS.o];exact HR7.o,HB7.o⟩);case measure=>simp[intOf];omega)
  ·have e:k=fss.length:=by omega
   subst e;have HE:Ic (ch p o fss gss=ys):=by show _=_;rw[<-HYS.o,Hz (by rw[iu HL.o];exact He _)]
   have HV:=aa HROW.o.vl;go_wp2;go_ret;exact⟨_,rfl,by rw[HE.o];exact HV.o,HBW.o.trans (HBR.o.mono HBW.o.size)⟩
theorem Vl.empty(w:World):Vl w (.slice none 0 0) []:=⟨none,0,rfl,λh=>absurd h (by simp)⟩
theorem FR(x y:Value)(xs:List Int)(w:World)(hm:xs.length<=1000000)(hx:Sl w x xs)(hy:Sl w y xs):Calls prog 249 #[x,y] w λe w'=>e=.returned (.bool true)/\Below w.heap.size w w':=by
 obtain⟨xa,xc,rfl,hxc⟩:=hx;obtain⟨ya,yc,rfl,hyc⟩:=hy;have HX:=aa hxc;have HY:=aa hyc;clear hxc hyc;go_enter func249,ntmps249;go_wp2;go_loopw [13] (λi wr=>∃k:Nat,k<=xs.length/\i=.int .i64 k/\Below w.heap.size w wr) (λi _=>xs.length-(intOf i).toNat);case atStart=>exact⟨0,Hl _,rfl,Hf _ _⟩
 case round=>
  obtain⟨k,hk,rfl,hbr⟩:=hrel;have HBR:=aa hbr;clear hbr;by_cases hk2:k<xs.length
  ·obtain⟨b,off,rfl,hlt,hat⟩:=HX.o (by omega);obtain⟨b2,off2,rfl,hlt2,hat2⟩:=HY.o (by omega);have c0:=ae (hat k hk2) HBR.o;have d0:=ae (hat2 k hk2) HBR.o;generalize xs.getD k 0=z at c0 d0;have hkI:(k:Int)<(xs.length:Int):=by omega
   clear hat hat2;go_wp2;go_region;all_goals
    go_wp2;go_roundw;case rel=>exact⟨k+1,by omega,by go_num,by first|exact HBR.o.drew|exact HBR.o⟩
    case measure=>simp[intOf];omega
  ·have e:k=xs.length:=by omega
   subst e;go_wp2;go_ret;exact⟨rfl,HBR.o⟩
theorem FS(c:Int)(x y:Value)(xs:List Int)(w:World)(hm:xs.length<=1000000)(hx:Sl w x xs)(hy:Sl w y xs):Calls prog 248 #[.agg #[.int .i64 c,x],.agg #[.int .i64 c,y]] w λe w'=>e=.returned (.bool true)/\Below w.heap.size w w':=by have HE:Ic (∀W,Below w.heap.size w W->Calls prog 249 #[x,y] W λe w'=>e=.returned (.bool true)/\Below W.heap.size W w'):=λW hb=>FR x y xs W hm (hx.below hb) (hy.below hb);obtain⟨xa,xc,rfl,_⟩:=hx;obtain⟨ya,yc,rfl,_⟩:=hy;have HB2:Ic (Below w.heap.size w ((w.alloc (.cells #[.int .i64 c,.slice xa xs.length xc] 54)).alloc (.cells #[.int .i64 c,.slice ya xs.length yc] 54))):=cW;go_enter func248,ntmps248;go_wp2_with (go_at_call 249;refine(HE.o _ HB2.o).mono ?_;rintro e w9 ⟨rfl,hb9⟩;have HB9:=aa (HB2.o.trans (hb9.mono HB2.o.size));clear hb9);go_ret;exact⟨rfl,HB9.o⟩
theorem FT(x y:Value)(fs:List Tm)(w:World)(hm:fs.length<=1000000)(hl:∀t∈fs,t.2.length<=3)(hx:Pl w x fs)(hy:Pl w y fs):Calls prog 247 #[x,y,.func (.func 248) #[] #[]] w λe w'=>e=.returned (.bool true)/\Below w.heap.size w w':=by
 obtain⟨xa,xc,rfl,_,hxc⟩:=hx;obtain⟨ya,yc,rfl,_,hyc⟩:=hy;have HX:=aa hxc;have HY:=aa hyc;have HL:=aa hl;clear hxc hyc hl;go_enter func247,ntmps247;go_wp2_with fail;go_loopw [17] (λi wr=>∃k:Nat,k<=fs.length/\i=.int .i64 k/\Below w.heap.size w wr) (λi _=>fs.length-(intOf i).toNat);case atStart=>exact⟨0,Hl _,rfl,Hf _ _⟩
 case round=>
  obtain⟨k,hk,rfl,hbr⟩:=hrel;have HBR:=aa hbr;clear hbr;by_cases hk2:k<fs.length
  ·obtain⟨b,off,rfl,hlt,hat⟩:=HX.o (by omega);obtain⟨b2,off2,rfl,hlt2,hat2⟩:=HY.o (by omega);obtain⟨c0,ev,c1,hse⟩:=hat k hk2;obtain⟨d0,ev2,d1,hse2⟩:=hat2 k hk2;have HL3:=aa (HL.o _ (eA fs k hk2));generalize fs.getD k aM=t at c0 hse d0 hse2 HL3;obtain⟨tc,te⟩:=t;simp only at c0 d0 hse hse2;have HT:Ic (∀W,Below wr.heap.size wr W->Calls prog 248 #[.agg #[.int .i64 tc,ev],.agg #[.int .i64 tc,ev2]] W λe w'=>e=.returned (.bool true)/\Below W.heap.size W w'):=λW hb=>FS tc ev ev2 te W (by have:=HL3.o;simp only at this;omega) (hse.below (HBR.o.trans (hb.mono HBR.o.size))) (hse2.below (HBR.o.trans (hb.mono HBR.o.size)));obtain⟨ea,ec,rfl,_⟩:=hse;obtain⟨ea2,ec2,rfl,_⟩:=hse2;have e0:=ae c0 HBR.o;have e1:=ae c1 HBR.o;have f0:=ae d0 HBR.o;have f1:=ae d1 HBR.o;have HB2:Ic (Below wr.heap.size wr ((wr.alloc (.cells #[.int .i64 tc,.slice ea te.length ec] 54)).alloc (.cells #[.int .i64 tc,.slice ea2 te.length ec2] 54))):=cW;have g0:(wr.alloc (.cells #[.int .i64 tc,.slice ea te.length ec] 54)).cell? ⟨b2,off2+k*2,none⟩=some (.int .i64 tc):=ae f0 af;have g1:(wr.alloc (.cells #[.int .i64 tc,.slice ea te.length ec] 54)).cell? ⟨b2,off2+k*2+1,none⟩=some (.slice ea2 te.length ec2):=ae f1 af;have hkI:(k:Int)<(fs.length:Int):=by omega
   clear hat hat2 c0 c1 d0 d1 f0 f1;go_wp2_with (go_at_call 248;refine(HT.o _ HB2.o).mono ?_;rintro e w9 ⟨rfl,hb9⟩;have HB9:=aa (HB2.o.trans (hb9.mono HB2.o.size));clear hb9);go_roundw;case rel=>exact⟨k+1,by omega,by go_num,HBR.o.trans (HB9.o.mono HBR.o.size)⟩
   case measure=>simp[intOf];omega
  ·have e:k=fs.length:=by omega
   subst e;go_wp2;go_ret;exact⟨rfl,HBR.o⟩
theorem FU(x y:Value)(fs:List Tm)(w:World)(hm:fs.length<=1000000)(hl:∀t∈fs,t.2.length<=3)(hx:Pl w x fs)(hy:Pl w y fs):Calls prog 213 #[x,y] w λe w'=>e=.returned (.bool true)/\Below w.heap.size w w':=by have HE:=aa (FT x y fs w hm hl hx hy);obtain⟨xa,xc,rfl,_⟩:=hx;obtain⟨ya,yc,rfl,_⟩:=hy;go_enter func213,ntmps213;go_wp2_with (go_at_call 247;refine HE.o.mono ?_;rintro e w9 ⟨rfl,hb9⟩;have HB9:=aa hb9;clear hb9);go_ret;exact⟨rfl,HB9.o⟩
theorem By(x y:Value)(v:List (List Tm))(w:World)(hm:v.length<=1000000)(hl:∀f∈v,f.length<=1000000/\∀t∈f,t.2.length<=3)(hx:Vl w x v)(hy:Vl w y v):Calls prog 212 #[x,y,.func (.func 213) #[] #[]] w λe w'=>e=.returned (.bool true)/\Below w.heap.size w w':=by
 have HX:=aa hx;have HY:=aa hy;have HL:=aa hl;obtain⟨xa,xc,rfl,_⟩:=hx;obtain⟨ya,yc,rfl,_⟩:=hy;clear hl;go_enter func212,ntmps212;go_wp2_with fail;go_loopw [17] (λi wr=>∃k:Nat,k<=v.length/\i=.int .i64 k/\Below w.heap.size w wr) (λi _=>v.length-(intOf i).toNat);case atStart=>exact⟨0,Hl _,rfl,Hf _ _⟩
 case round=>
  obtain⟨k,hk,rfl,hbr⟩:=hrel;have HBR:=aa hbr;clear hbr;by_cases hk2:k<v.length
  ·obtain⟨b,off,fa,fc,rfl,hlt,c0,hpf⟩:=ez (HX.o.below HBR.o) k hk2;obtain⟨b2,off2,ga,gc,rfl,hlt2,d0,hpg⟩:=ez (HY.o.below HBR.o) k hk2;have HL3:=aa (HL.o _ (cG v k hk2));generalize v.getD k []=f at c0 hpf d0 hpg HL3;have HE:=aa (FU _ _ f wr HL3.o.1 HL3.o.2 hpf hpg);have hkI:(k:Int)<(v.length:Int):=by omega
   clear hpf hpg;go_wp2_with (go_at_call 213;refine HE.o.mono ?_;rintro e w9 ⟨rfl,hb9⟩;have HB9:=aa hb9;clear hb9);go_roundw;case rel=>exact⟨k+1,by omega,by go_num,HBR.o.trans (HB9.o.mono HBR.o.size)⟩
   case measure=>simp[intOf];omega
  ·have e:k=v.length:=by omega
   subst e;go_wp2;go_ret;exact⟨rfl,HBR.o⟩
end Go.Proofs.YtglijodcbdcngaaGreat
