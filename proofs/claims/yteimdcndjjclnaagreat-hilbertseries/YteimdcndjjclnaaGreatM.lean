/- MonoOrders, walked. -/
import Derived.Test.YteimdcndjjclnaaGreatH
import Derived.Deep.DeepCutAuto
import Derived.Deep.RegionHeld
set_option maxHeartbeats 1000000
namespace Go.Proofs.YteimdcndjjclnaaGreat
set_option linter.all false
open Go.Proofs.Tryz Go.RowKit
def bE(w:World)(b:Nat)(p n o v:Int):Prop:=
 b<w.heap.size/\w.cell? ⟨b,0,none⟩=some (.int .i64 p)/\w.cell? ⟨b,1,none⟩=some (.int .i64 n)/\w.cell? ⟨b,2,none⟩=some (.int .i64 o)/\w.cell? ⟨b,3,none⟩=some (.int .i64 v)
theorem bE.below{w w':World}{b:Nat}{p n o v:Int}(h:bE w b p n o v)(hb:Below w.heap.size w w'):bE w' b p n o v:=by obtain⟨h0,h1,h2,h3,h4⟩:=h;exact⟨Lj h0 hb.size,by rw[hb.cell (p:=⟨b,0,none⟩) h0];exact h1,by rw[hb.cell (p:=⟨b,1,none⟩) h0];exact h2,by rw[hb.cell (p:=⟨b,2,none⟩) h0];exact h3,by rw[hb.cell (p:=⟨b,3,none⟩) h0];exact h4⟩
theorem bE.new(w:World)(p n o v:Int)(T:TypeId):bE (w.alloc (.cells #[.int .i64 p,.int .i64 n,.int .i64 o,.int .i64 v] T)) w.heap.size p n o v:=
 ⟨by simp,by simp,by simp,by simp,by simp⟩
structure t9(w w':World)(x y z:Value)(xs ys zs:List Int)(p n o v:Int):Prop where
 below:Below w.heap.size w w'
 box:bE w' w.heap.size p n o v
 sx:Sl w' x xs
 sy:Sl w' y ys
 sz:Sl w' z zs
theorem t9.next{w w' w2:World}{x y z:Value}{xs ys zs:List Int}{p n o v:Int}(h:t9 w w' x y z xs ys zs p n o v)(hb:Below w'.heap.size w' w2):t9 w w2 x y z xs ys zs p n o v:=
 ⟨h.below.trans (hb.mono h.below.size),h.box.below hb,h.sx.below hb,h.sy.below hb,h.sz.below hb⟩
theorem Sl.made(w:World)(n:Nat)(T:TypeId):Sl (w.alloc (.cells (madeCells #[.int .i64 0] n) T)) (.slice (some ⟨w.heap.size,0,none⟩) n n) (List.replicate n 0):=by refine⟨some ⟨w.heap.size,0,none⟩,n,by simp,λ_=>⟨_,_,rfl,by simp,λi hi=>?_⟩⟩;simp at hi;simp[madeCells,hi,Nat.mod_one]
theorem G5(x:Int):ct x=!bH x 0 200:=by unfold ct bH;by_cases h1:0<=x<;>by_cases h2:x<=200<;>simp[h1,h2]<;>omega
theorem qG(p n o v:Int)(x:Value)(xs:List Int)(w:World)(hn:1<=n/\n<=3)(hs:Sl w x xs):Calls prog 122 #[aT p n o v,x] w λe w'=>e=.returned (.int .i64 (bQ n xs))/\Below w.heap.size w w':=by
 obtain⟨a,cap,rfl,hs⟩:=hs;obtain⟨hn1,hn2⟩:=hn;by_cases hl:(xs.length:Int)=n
 .subst hl;obtain⟨b,off,rfl,hlt,hc⟩:=hs (by omega);clear hs;have HC:=ac hc;clear hc;have hm:xs.length<=3:=by omega
  go_enter func122,ntmps122;go_wp2;go_loop [5] (λi=>∃k:Nat,k<=xs.length/\i=.int .i64 k/\(xs.take k).any ct=false) (λi=>xs.length-(intOf i).toNat);case atStart=>exact⟨0,Ll _,rfl,by simp⟩
  case round=>
   obtain⟨k,hk,rfl,hn⟩:=hrel;have HN:=ac hn;clear hn;by_cases hk2:k<xs.length
   .have hcell:=HC.o k hk2;have H1:=ac (nL ct xs k hk2 HN.o);have H2:=ac (nN ct xs k hk2);rw[<-World.cell?_alloc_lt (w:=w) (o:=.cells #[.int .i64 p,.int .i64 xs.length,.int .i64 o,.int .i64 v] 23) (a:=⟨b,off+k,none⟩) hlt] at hcell;generalize xs.getD k 0=y at hcell H1 H2;rw[G5] at H1 H2;cases hy:bH y 0 200
    .go_wp2_with (go_at_call 18;refine(fo _ _ _ _).mono ?_;rintro e w' ⟨rfl,rfl⟩);go_ret;refine⟨bJ ?_,eN⟩;unfold bQ;rw[LH (by simp),LI (H2.o (by rw[hy];rfl))]
    .go_wp2_with (go_at_call 18;refine(fo _ _ _ _).mono ?_;rintro e w' ⟨rfl,rfl⟩);go_round;case rel=>exact⟨k+1,by omega,by go_num,H1.o (by rw[hy];rfl)⟩
     case measure=>simp[intOf];omega
   .have hy:=HN.o;rw[Lz (by omega)] at hy;have hb:=rD hy;have hb2:=ac (show∀x∈xs,0<=x/\x<=40000 from λx hx=>by have:=hb x hx;omega);have HE:Ma (bQ xs.length xs=if 200<ah xs then 3 else 0):=by show bQ xs.length xs=_;unfold bQ;rw[LH (by simp),LH (by simp[hy])]
    clear hb hy;go_wp2_with fail;refine(lM xs _ _ _ _ hb2.o hm ?_).mono ?_
    .intro i hi;rw[World.cell?_alloc_lt (w:=w) (o:=_) (a:=⟨b,off+i,none⟩) hlt];exact HC.o i hi
    rintro e w' ⟨rfl,rfl⟩;by_cases hd:200<ah xs
    .go_wp2;go_ret;exact⟨bJ (by rw[HE.o,LI hd]),eN⟩
    .go_wp2;go_ret;exact⟨bJ (by rw[HE.o,LH (by omega)]),eN⟩
 .have he:bQ n xs=1:=by simp[bQ,hl]
  rw[he];clear he hs;have hl2:((xs.length:Int) !=n)=true:=by simpa using hl
  clear hl;go_enter func122,ntmps122;go_wp2;go_ret;exact⟨rfl,eN⟩
theorem yi{w:World}{B:Nat}{v:Value}{zs:List Int}{T:TypeId}(h:w.ownsRow B T 1 v zs.length (zs.map (Value.int .i64))):Sl w v zs:=by
 obtain⟨_,h|⟨g,cap,af,rfl,hg,hh,hn,hm,hcs,ht⟩⟩:=h
 .obtain⟨rfl,h0⟩:=h;refine⟨none,0,by rw[h0],λhp=>absurd hp (by omega)⟩
 .refine⟨_,cap,rfl,λ_=>⟨g,0,rfl,?_,λi hi=>?_⟩⟩
  .apply LF;intro hle;rw[Array.getElem?_eq_none hle] at hh;simp at hh
  .have e:af.toList[i]?=some (.int .i64 (zs.getD i 0)):=by
    have h1:(af.toList.take (zs.length*1))[i]?=(zs.map (Value.int .i64))[i]?:=by rw[ht]
    rw[List.getElem?_take,LI (by omega),List.getElem?_map] at h1;rw[h1,Lr,Ls hi];rfl
   unfold World.cell?;simp only[hh,Ly];simpa using e
theorem yh(z:Int):∀u∈[Value.int .i64 z],u.oneCell'=true:=by intro u hu;simp at hu;subst hu;rfl
def fA(o:Int)(xs ys:List Int):Bool:=decide (0<aJ o xs ys)
theorem qH(a b:Int):decide (0<aI a b)=decide (b<a):=by have:=fz a b;exact decide_eq_decide.2 (by omega)
theorem zP{x y:Int}(h:(x !=y)=false):aI x y=0/\aI y x=0:=by
 have h1:x=y:=by simpa using h
 have h2:=fz x y;have h3:=fz y x;omega
theorem zR{x y:Int}(h:(x !=y)=true):¬aI x y=0/\¬aI y x=0:=by
 have h1:x≠y:=by simpa using h
 have h2:=fz x y;have h3:=fz y x;omega
theorem jK{a b:Bool}(h:a=b):Ending.returned (.bool a)=.returned (.bool b):=by rw[h]
theorem G6(p n v:Int)(xs ys:List Int)(b off cap b2 off2 cap2:Nat)(w:World)(hm:xs.length<=3)(hxy:xs.length=ys.length)(hbx:∀x∈xs,0<=x/\x<=40000)(hby:∀x∈ys,0<=x/\x<=40000)(hlt:b<w.heap.size)(hlt2:b2<w.heap.size)(hc:eB w b off xs)(hc2:eB w b2 off2 ys):Calls prog 96 #[aT p n 2 v,.slice (some ⟨b,off,none⟩) xs.length cap,.slice (some ⟨b2,off2,none⟩) ys.length cap2] w λe w'=>e=.returned (.bool (fA 2 xs ys))/\Below w.heap.size w w':=by
 have HC:=ac hc;have HC2:=ac hc2;have HBX:=ac hbx;have HBY:=ac hby;have HXY:=ac hxy;have hmy:ys.length<=3:=by omega
 clear hc hc2 hbx hby hxy;go_enter func96,ntmps96;go_wp2_with fail;refine(lM xs _ _ _ _ HBX.o hm ?_).mono ?_
 .intro i hi;rw[World.cell?_alloc_lt (w:=w) (o:=_) (a:=⟨b,off+i,none⟩) hlt];exact HC.o i hi
 rintro e w' ⟨rfl,rfl⟩;go_wp2_with fail;refine(lM ys _ _ _ _ HBY.o hmy ?_).mono ?_
 .intro i hi;rw[World.cell?_alloc_lt (w:=w) (o:=_) (a:=⟨b2,off2+i,none⟩) hlt2];exact HC2.o i hi
 rintro e w' ⟨rfl,rfl⟩;cases hd:(ah xs !=ah ys)
 .have hz:aI (ah xs) (ah ys)=0:=by
   have h1:ah xs=ah ys:=by simpa using hd
   have:=fz (ah xs) (ah ys);omega
  have HO:Ma (fA 2 xs ys=decide (0<cu xs ys)):=by unfold Ma fA aJ;rw[LI hz,LH (by omega)]
  clear hz;go_wp2;go_loopw [9] (λi wr=>∃k:Nat,k<=xs.length/\i=.int .i64 k/\cu xs ys=cu (xs.drop k) (ys.drop k)/\Below w.heap.size w wr) (λi _=>xs.length-(intOf i).toNat);case atStart=>exact⟨0,Ll _,rfl,rfl,eN⟩
  case round=>
   obtain⟨k,hk,rfl,hn,hbr⟩:=hrel;have HN:=ac hn;have HBR:=ac hbr;by_cases hk2:k<xs.length
   .have hcell:=HC.o k hk2;have hcell2:=HC2.o k (by rw[<-HXY.o];exact hk2);rw[<-hbr.cell (p:=⟨b,off+k,none⟩) hlt] at hcell;rw[<-hbr.cell (p:=⟨b2,off2+k,none⟩) hlt2] at hcell2;have HD:=ac (vL xs ys k hk2 (by rw[<-HXY.o];exact hk2));have hxl:(k:Int)<(xs.length:Int):=by omega
    have hyl:(k:Int)<(ys.length:Int):=by have:=HXY.o;omega
    clear hn hbr;generalize xs.getD k 0=x at hcell HD;generalize ys.getD k 0=y at hcell2 HD;cases hne:(x !=y)
    .go_wp2;go_quiet (fail);go_wp2;go_roundw;case rel=>exact⟨k+1,by omega,by go_num,by rw[HN.o,HD.o,LI (zP hne).1],below_drewN HBR.o _⟩
     case measure=>simp[intOf];omega
    .go_wp2;go_quiet (fail);go_wp2;go_quiet (fail);go_wp2;go_ret;refine⟨jK ?_,below_drewN (below_drewN HBR.o _) _⟩;rw[HO.o,HN.o,HD.o,LH (zR hne).1,qH]
   .clear hn hbr;go_wp2;go_ret;refine⟨jK ?_,HBR.o⟩;rw[HO.o,HN.o,LZ (by omega)];rfl
 .have HO:Ma (fA 2 xs ys=decide (ah ys<ah xs)):=by
   have h1:ah xs≠ah ys:=by simpa using hd
   have h2:=fz (ah xs) (ah ys);unfold Ma fA aJ;rw[LH (by omega),qH]
  go_wp2;go_ret;exact⟨jK HO.o.symm,eN⟩
theorem G7(p n v:Int)(xs ys:List Int)(b off cap b2 off2 cap2:Nat)(w:World)(hm:xs.length<=3)(hxy:xs.length=ys.length)(hbx:∀x∈xs,0<=x/\x<=40000)(hby:∀x∈ys,0<=x/\x<=40000)(hlt:b<w.heap.size)(hlt2:b2<w.heap.size)(hc:eB w b off xs)(hc2:eB w b2 off2 ys):Calls prog 96 #[aT p n 1 v,.slice (some ⟨b,off,none⟩) xs.length cap,.slice (some ⟨b2,off2,none⟩) ys.length cap2] w λe w'=>e=.returned (.bool (fA 1 xs ys))/\Below w.heap.size w w':=by
 have HC:=ac hc;have HC2:=ac hc2;have HBX:=ac hbx;have HBY:=ac hby;have HXY:=ac hxy;have hmy:ys.length<=3:=by omega
 clear hc hc2 hbx hby hxy;go_enter func96,ntmps96;go_wp2_with fail;refine(lM xs _ _ _ _ HBX.o hm ?_).mono ?_
 .intro i hi;rw[World.cell?_alloc_lt (w:=w) (o:=_) (a:=⟨b,off+i,none⟩) hlt];exact HC.o i hi
 rintro e w' ⟨rfl,rfl⟩;go_wp2_with fail;refine(lM ys _ _ _ _ HBY.o hmy ?_).mono ?_
 .intro i hi;rw[World.cell?_alloc_lt (w:=w) (o:=_) (a:=⟨b2,off2+i,none⟩) hlt2];exact HC2.o i hi
 rintro e w' ⟨rfl,rfl⟩;cases hd:(ah xs !=ah ys)
 .have hz:aI (ah xs) (ah ys)=0:=by
   have h1:ah xs=ah ys:=by simpa using hd
   have:=fz (ah xs) (ah ys);omega
  have HO:Ma (fA 1 xs ys=decide (0<iy xs ys)):=by unfold Ma fA aJ;rw[LI hz,LI rfl]
  clear hz;go_wp2;go_loopw [10] (λi wr=>∃k:Nat,k<=xs.length/\i=.int .i64 ((k:Int)-1)/\iy xs ys=cu (ys.take k).reverse (xs.take k).reverse/\Below w.heap.size w wr) (λi _=>(intOf i+1).toNat);case atStart=>exact⟨xs.length,Lc _,rfl,by rw[Lz (by have:=HXY.o;omega),Lz (by omega)];rfl,eN⟩
  case round=>
   obtain⟨k,hk,rfl,hn,hbr⟩:=hrel;have HN:=ac hn;have HBR:=ac hbr;cases k with
   |succ k=>
    have hk2:k<xs.length:=by omega
    have hcell:=HC.o k hk2;have hcell2:=HC2.o k (by rw[<-HXY.o];exact hk2);rw[<-hbr.cell (p:=⟨b,off+k,none⟩) hlt] at hcell;rw[<-hbr.cell (p:=⟨b2,off2+k,none⟩) hlt2] at hcell2;have HD:=ac (vN xs ys k hk2 (by rw[<-HXY.o];exact hk2));have hxl:(k:Int)<(xs.length:Int):=by omega
    have hyl:(k:Int)<(ys.length:Int):=by have:=HXY.o;omega
    have ek:(((k+1:Nat):Int)-1)=(k:Int):=by omega
    rw[ek];clear hn hbr ek;generalize xs.getD k 0=x at hcell HD;generalize ys.getD k 0=y at hcell2 HD;cases hne:(x !=y)
    .go_wp2;go_quiet (fail);go_wp2;go_roundw;case rel=>exact⟨k,by omega,rfl,by rw[HN.o,HD.o,LI (zP hne).2],below_drewN HBR.o _⟩
     case measure=>simp[intOf]
    .go_wp2;go_quiet (fail);go_wp2;go_quiet (fail);go_wp2;go_ret;refine⟨jK ?_,below_drewN (below_drewN HBR.o _) _⟩;rw[HO.o,HN.o,HD.o,LH (zR hne).2,qH]
   |zero=>clear hn hbr;go_wp2;go_ret;refine⟨jK ?_,HBR.o⟩;rw[HO.o,HN.o];rfl
 .have HO:Ma (fA 1 xs ys=decide (ah ys<ah xs)):=by
   have h1:ah xs≠ah ys:=by simpa using hd
   have h2:=fz (ah xs) (ah ys);unfold Ma fA aJ;rw[LH (by omega),qH]
  go_wp2;go_ret;exact⟨jK HO.o.symm,eN⟩
theorem zS(p n o v:Int)(x y:Value)(xs ys:List Int)(w:World)(ho:o=1\/o=2)(h0:0<xs.length)(hm:xs.length<=3)(hxy:xs.length=ys.length)(hbx:∀x∈xs,0<=x/\x<=40000)(hby:∀x∈ys,0<=x/\x<=40000)(hs:Sl w x xs)(hs2:Sl w y ys):Calls prog 96 #[aT p n o v,x,y] w λe w'=>e=.returned (.bool (fA o xs ys))/\Below w.heap.size w w':=by
 obtain⟨a,cap,rfl,h1⟩:=hs;obtain⟨a2,cap2,rfl,h2⟩:=hs2;obtain⟨b,off,rfl,hlt,hc⟩:=h1 h0;obtain⟨b2,off2,rfl,hlt2,hc2⟩:=h2 (by omega);rcases ho with rfl|rfl
 .exact G7 p n v xs ys b off cap b2 off2 cap2 w hm hxy hbx hby hlt hlt2 hc hc2
 .exact G6 p n v xs ys b off cap b2 off2 cap2 w hm hxy hbx hby hlt hlt2 hc hc2
end Go.Proofs.YteimdcndjjclnaaGreat
