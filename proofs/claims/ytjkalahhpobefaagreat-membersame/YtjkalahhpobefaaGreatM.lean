/- MonoOrders, walked. -/
import Derived.Test.YtjkalahhpobefaaGreatH
import Derived.Deep.RegionHeld
set_option maxHeartbeats 1000000
namespace Go.Proofs.YtjkalahhpobefaaGreat
set_option linter.all false
open Go.Proofs.Tryz Go.RowKit
def bA(w:OQ)(b:Nat)(p n o v:Int):Prop:=
 b<w.heap.size/\w.cell? (OV b 0)=some (OW p)/\w.cell? (OV b 1)=some (OW n)/\w.cell? (OV b 2)=some (OW o)/\w.cell? (OV b 3)=some (OW v)
variable{p n o v:Int}{w w':OQ}
theorem bA.below{b:Nat}(h:bA w b p n o v)(hb:LT w w'):bA w' b p n o v:=by obtain⟨h0,h1,h2,h3,h4⟩:=h;exact⟨NQ h0 hb.size,by rw[hb.cell (p:=(OV b 0)) h0];exact h1,by rw[hb.cell (p:=(OV b 1)) h0];exact h2,by rw[hb.cell (p:=(OV b 2)) h0];exact h3,by rw[hb.cell (p:=(OV b 3)) h0];exact h4⟩
theorem bA.new(w:OQ)(p n o v:Int)(T:TypeId):bA (w.alloc (.cells #[OW p,OW n,OW o,OW v] T)) w.heap.size p n o v:=
 ⟨by simp,by simp,by simp,by simp,by simp⟩
structure vN(w w':OQ)(x y z:OR)(xs ys zs:OP)(p n o v:Int):Prop where
 below:LT w w'
 box:bA w' w.heap.size p n o v
 sx:Sl w' x xs
 sy:Sl w' y ys
 sz:Sl w' z zs
variable{zs:OP}
theorem vN.next{w2:OQ}{x y z:OR}{xs ys:OP}(h:vN w w' x y z xs ys zs p n o v)(hb:LT w' w2):vN w w2 x y z xs ys zs p n o v:=
 ⟨Io h.below hb,h.box.below hb,h.sx.below hb,h.sy.below hb,h.sz.below hb⟩
theorem Sl.made(w:OQ)(n:Nat)(T:TypeId):Sl (w.alloc (.cells (madeCells #[OW 0] n) T)) (OU w.heap.size n n) (List.replicate n 0):=by refine⟨some (OV w.heap.size 0),n,by simp,λ_=>⟨_,_,rfl,by simp,λi hi=>?_⟩⟩;simp at hi;simp[madeCells,hi,Nat.mod_one]
theorem IA(x:Int):fk x=!cE x 0 200:=by unfold fk cE;by_cases h1:0<=x<;>by_cases h2:x<=200<;>simp[h1,h2]<;>omega
theorem rI(p n o v:Int)(x:OR)(xs:OP)(w:OQ)(hn:1<=n/\n<=3)(hs:Sl w x xs):Calls prog 104 #[aI p n o v,x] w λe w'=>e=.returned (OW (cd n xs))/\LT w w':=by
 obtain⟨a,cap,rfl,hs⟩:=hs;obtain⟨hn1,hn2⟩:=hn;by_cases hl:(xs.length:Int)=n
 .subst hl;obtain⟨b,off,rfl,hlt,hc⟩:=hs (by omega);clear hs;have HC:=ae hc;clear hc;have hm:xs.length<=3:=by omega
  go_enter func104,ntmps104;go_wp2;go_loop [5] (λi=>∃k:Nat,k<=xs.length/\i=OW k/\(xs.take k).any fk=false) (λi=>xs.length-(intOf i).toNat);case atStart=>exact⟨0,NS _,rfl,by simp⟩
  case round=>
   obtain⟨k,hk,rfl,hn⟩:=hrel;have HN:=ae hn;clear hn;by_cases hk2:k<xs.length
   .have hcell:=HC.o k hk2;have H1:=ae (tp fk xs k hk2 HN.o);have H2:=ae (tu fk xs k hk2);rw[<-World.cell?_alloc_lt (w:=w) (o:=.cells #[OW p,OW xs.length,OW o,OW v] 23) (a:=(OV b (off+k))) hlt] at hcell;generalize xs.getD k 0=y at hcell H1 H2;rw[IA] at H1 H2;cases hy:cE y 0 200
    .go_wp2_with (go_at_call 69;refine(gi _ _ _ _).mono ?_;rintro e w' ⟨rfl,rfl⟩);go_ret;refine⟨cM ?_,ii⟩;unfold cd;rw[Oc (by simp),Oe (H2.o (by rw[hy];rfl))]
    .go_wp2_with (go_at_call 69;refine(gi _ _ _ _).mono ?_;rintro e w' ⟨rfl,rfl⟩);go_round;case rel=>exact⟨k+1,by omega,by go_num,H1.o (by rw[hy];rfl)⟩
     case measure=>simp[intOf];omega
   .have hy:=HN.o;rw[N5 (by omega)] at hy;have hb:=tz hy;have hb2:=ae (show∀x∈xs,0<=x/\x<=40000 from λx hx=>by have:=hb x hx;omega);have HE:OE (cd xs.length xs=if 200<aj xs then 3 else 0):=by show cd xs.length xs=_;unfold cd;rw[Oc (by simp),Oc (by simp[hy])]
    clear hb hy;go_wp2_with fail;refine(nH xs _ _ _ _ hb2.o hm ?_).mono ?_
    .intro i hi;rw[World.cell?_alloc_lt (w:=w) (o:=_) (a:=(OV b (off+i))) hlt];exact HC.o i hi
    rintro e w' ⟨rfl,rfl⟩;by_cases hd:200<aj xs
    .go_wp2;go_ret;exact⟨cM (by rw[HE.o,Oe hd]),ii⟩
    .go_wp2;go_ret;exact⟨cM (by rw[HE.o,Oc (by omega)]),ii⟩
 .have he:cd n xs=1:=by simp[cd,hl]
  rw[he];clear he hs;have hl2:((xs.length:Int) !=n)=true:=by simpa using hl
  clear hl;go_enter func104,ntmps104;go_wp2;go_ret;exact⟨rfl,ii⟩
theorem Bs{B:Nat}{v:OR}{T:TypeId}(h:w.ownsRow B T 1 v zs.length (zs.map (Value.int .i64))):Sl w v zs:=by
 obtain⟨_,h|⟨g,cap,ag,rfl,hg,hh,hn,hm,hcs,ht⟩⟩:=h
 .obtain⟨rfl,h0⟩:=h;refine⟨none,0,by rw[h0],λhp=>absurd hp (by omega)⟩
 .refine⟨_,cap,rfl,λ_=>⟨g,0,rfl,?_,λi hi=>?_⟩⟩
  .apply Ob;intro hle;rw[Array.getElem?_eq_none hle] at hh;simp at hh
  .have e:ag.toList[i]?=some (OW (zs.getD i 0)):=by
    have h1:(ag.toList.take (zs.length*1))[i]?=(zs.map (Value.int .i64))[i]?:=by rw[ht]
    rw[List.getElem?_take,Oe (by omega),List.getElem?_map] at h1;rw[h1,NY,NZ hi];rfl
   unfold World.cell?;simp only[hh,N4];simpa using e
theorem rJ(z:Int):∀u∈[Value.int .i64 z],u.oneCell'=true:=by intro u hu;simp at hu;subst hu;rfl
def fN(o:Int)(xs ys:OP):Bool:=decide (0<aR o xs ys)
theorem rK(a b:Int):decide (0<aS a b)=decide (b<a):=by have:=eH a b;exact decide_eq_decide.2 (by omega)
variable{x y:Int}
theorem Bt(h:(x !=y)=false):aS x y=0/\aS y x=0:=by
 have h1:x=y:=by simpa using h
 have h2:=eH x y;have h3:=eH y x;omega
theorem Bu(h:(x !=y)=true):¬aS x y=0/\¬aS y x=0:=by
 have h1:x≠y:=by simpa using h
 have h2:=eH x y;have h3:=eH y x;omega
theorem lA{a b:Bool}(h:a=b):Ending.returned (.bool a)=.returned (.bool b):=by rw[h]
theorem IB(p n v:Int)(xs ys:OP)(b off cap b2 off2 cap2:Nat)(w:OQ)(hm:xs.length<=3)(hxy:xs.length=ys.length)(hbx:∀x∈xs,0<=x/\x<=40000)(hby:∀x∈ys,0<=x/\x<=40000)(hlt:b<w.heap.size)(hlt2:b2<w.heap.size)(hc:eX w b off xs)(hc2:eX w b2 off2 ys):Calls prog 105 #[aI p n 2 v,.slice (some (OV b off)) xs.length cap,.slice (some (OV b2 off2)) ys.length cap2] w λe w'=>e=.returned (.bool (fN 2 xs ys))/\LT w w':=by
 have HC:=ae hc;have HC2:=ae hc2;have HBX:=ae hbx;have HBY:=ae hby;have HXY:=ae hxy;have hmy:ys.length<=3:=by omega
 clear hc hc2 hbx hby hxy;go_enter func105,ntmps105;go_wp2_with fail;refine(nH xs _ _ _ _ HBX.o hm ?_).mono ?_
 .intro i hi;rw[World.cell?_alloc_lt (w:=w) (o:=_) (a:=(OV b (off+i))) hlt];exact HC.o i hi
 rintro e w' ⟨rfl,rfl⟩;go_wp2_with fail;refine(nH ys _ _ _ _ HBY.o hmy ?_).mono ?_
 .intro i hi;rw[World.cell?_alloc_lt (w:=w) (o:=_) (a:=(OV b2 (off2+i))) hlt2];exact HC2.o i hi
 rintro e w' ⟨rfl,rfl⟩;cases hd:(aj xs !=aj ys)
 .have hz:aS (aj xs) (aj ys)=0:=by
   have h1:aj xs=aj ys:=by simpa using hd
   have:=eH (aj xs) (aj ys);omega
  have HO:OE (fN 2 xs ys=decide (0<ck xs ys)):=by unfold OE fN aR;rw[Oe hz,Oc (by omega)]
  clear hz;go_wp2;go_loopw [9] (λi wr=>∃k:Nat,k<=xs.length/\i=OW k/\ck xs ys=ck (xs.drop k) (ys.drop k)/\LT w wr) (λi _=>xs.length-(intOf i).toNat);case atStart=>exact⟨0,NS _,rfl,rfl,ii⟩
  case round=>
   obtain⟨k,hk,rfl,hn,hbr⟩:=hrel;have HN:=ae hn;have HBR:=ae hbr;by_cases hk2:k<xs.length
   .have hcell:=HC.o k hk2;have hcell2:=HC2.o k (by rw[<-HXY.o];exact hk2);rw[<-hbr.cell (p:=(OV b (off+k))) hlt] at hcell;rw[<-hbr.cell (p:=(OV b2 (off2+k))) hlt2] at hcell2;have HD:=ae (xW xs ys k hk2 (by rw[<-HXY.o];exact hk2));have hxl:(k:Int)<(xs.length:Int):=by omega
    have hyl:(k:Int)<(ys.length:Int):=by have:=HXY.o;omega
    clear hn hbr;generalize xs.getD k 0=x at hcell HD;generalize ys.getD k 0=y at hcell2 HD;cases hne:(x !=y)
    .go_wp2;go_quiet (fail);go_wp2;go_roundw;case rel=>exact⟨k+1,by omega,by go_num,by rw[HN.o,HD.o,Oe (Bt hne).1],below_drewN HBR.o _⟩
     case measure=>simp[intOf];omega
    .go_wp2;go_quiet (fail);go_wp2;go_quiet (fail);go_wp2;go_ret;refine⟨lA ?_,below_drewN (below_drewN HBR.o _) _⟩;rw[HO.o,HN.o,HD.o,Oc (Bu hne).1,rK]
   .clear hn hbr;go_wp2;go_ret;refine⟨lA ?_,HBR.o⟩;rw[HO.o,HN.o,Ow (by omega)];rfl
 .have HO:OE (fN 2 xs ys=decide (aj ys<aj xs)):=by
   have h1:aj xs≠aj ys:=by simpa using hd
   have h2:=eH (aj xs) (aj ys);unfold OE fN aR;rw[Oc (by omega),rK]
  go_wp2;go_ret;exact⟨lA HO.o.symm,ii⟩
theorem IC(p n v:Int)(xs ys:OP)(b off cap b2 off2 cap2:Nat)(w:OQ)(hm:xs.length<=3)(hxy:xs.length=ys.length)(hbx:∀x∈xs,0<=x/\x<=40000)(hby:∀x∈ys,0<=x/\x<=40000)(hlt:b<w.heap.size)(hlt2:b2<w.heap.size)(hc:eX w b off xs)(hc2:eX w b2 off2 ys):Calls prog 105 #[aI p n 1 v,.slice (some (OV b off)) xs.length cap,.slice (some (OV b2 off2)) ys.length cap2] w λe w'=>e=.returned (.bool (fN 1 xs ys))/\LT w w':=by
 have HC:=ae hc;have HC2:=ae hc2;have HBX:=ae hbx;have HBY:=ae hby;have HXY:=ae hxy;have hmy:ys.length<=3:=by omega
 clear hc hc2 hbx hby hxy;go_enter func105,ntmps105;go_wp2_with fail;refine(nH xs _ _ _ _ HBX.o hm ?_).mono ?_
 .intro i hi;rw[World.cell?_alloc_lt (w:=w) (o:=_) (a:=(OV b (off+i))) hlt];exact HC.o i hi
 rintro e w' ⟨rfl,rfl⟩;go_wp2_with fail;refine(nH ys _ _ _ _ HBY.o hmy ?_).mono ?_
 .intro i hi;rw[World.cell?_alloc_lt (w:=w) (o:=_) (a:=(OV b2 (off2+i))) hlt2];exact HC2.o i hi
 rintro e w' ⟨rfl,rfl⟩;cases hd:(aj xs !=aj ys)
 .have hz:aS (aj xs) (aj ys)=0:=by
   have h1:aj xs=aj ys:=by simpa using hd
   have:=eH (aj xs) (aj ys);omega
  have HO:OE (fN 1 xs ys=decide (0<jg xs ys)):=by unfold OE fN aR;rw[Oe hz,Oe rfl]
  clear hz;go_wp2;go_loopw [10] (λi wr=>∃k:Nat,k<=xs.length/\i=OW ((k:Int)-1)/\jg xs ys=ck (ys.take k).reverse (xs.take k).reverse/\LT w wr) (λi _=>(intOf i+1).toNat);case atStart=>exact⟨xs.length,NL _,rfl,by rw[N5 (by have:=HXY.o;omega),N5 (by omega)];rfl,ii⟩
  case round=>
   obtain⟨k,hk,rfl,hn,hbr⟩:=hrel;have HN:=ae hn;have HBR:=ae hbr;cases k with
   |succ k=>
    have hk2:k<xs.length:=by omega
    have hcell:=HC.o k hk2;have hcell2:=HC2.o k (by rw[<-HXY.o];exact hk2);rw[<-hbr.cell (p:=(OV b (off+k))) hlt] at hcell;rw[<-hbr.cell (p:=(OV b2 (off2+k))) hlt2] at hcell2;have HD:=ae (xY xs ys k hk2 (by rw[<-HXY.o];exact hk2));have hxl:(k:Int)<(xs.length:Int):=by omega
    have hyl:(k:Int)<(ys.length:Int):=by have:=HXY.o;omega
    have ek:(((k+1:Nat):Int)-1)=(k:Int):=by omega
    rw[ek];clear hn hbr ek;generalize xs.getD k 0=x at hcell HD;generalize ys.getD k 0=y at hcell2 HD;cases hne:(x !=y)
    .go_wp2;go_quiet (fail);go_wp2;go_roundw;case rel=>exact⟨k,by omega,rfl,by rw[HN.o,HD.o,Oe (Bt hne).2],below_drewN HBR.o _⟩
     case measure=>simp[intOf]
    .go_wp2;go_quiet (fail);go_wp2;go_quiet (fail);go_wp2;go_ret;refine⟨lA ?_,below_drewN (below_drewN HBR.o _) _⟩;rw[HO.o,HN.o,HD.o,Oc (Bu hne).2,rK]
   |zero=>clear hn hbr;go_wp2;go_ret;refine⟨lA ?_,HBR.o⟩;rw[HO.o,HN.o];rfl
 .have HO:OE (fN 1 xs ys=decide (aj ys<aj xs)):=by
   have h1:aj xs≠aj ys:=by simpa using hd
   have h2:=eH (aj xs) (aj ys);unfold OE fN aR;rw[Oc (by omega),rK]
  go_wp2;go_ret;exact⟨lA HO.o.symm,ii⟩
theorem Bw(p n o v:Int)(x y:OR)(xs ys:OP)(w:OQ)(ho:o=1\/o=2)(h0:0<xs.length)(hm:xs.length<=3)(hxy:xs.length=ys.length)(hbx:∀x∈xs,0<=x/\x<=40000)(hby:∀x∈ys,0<=x/\x<=40000)(hs:Sl w x xs)(hs2:Sl w y ys):Calls prog 105 #[aI p n o v,x,y] w λe w'=>e=.returned (.bool (fN o xs ys))/\LT w w':=by
 obtain⟨a,cap,rfl,h1⟩:=hs;obtain⟨a2,cap2,rfl,h2⟩:=hs2;obtain⟨b,off,rfl,hlt,hc⟩:=h1 h0;obtain⟨b2,off2,rfl,hlt2,hc2⟩:=h2 (by omega);rcases ho with rfl|rfl
 .exact IC p n v xs ys b off cap b2 off2 cap2 w hm hxy hbx hby hlt hlt2 hc hc2
 .exact IB p n v xs ys b off cap b2 off2 cap2 w hm hxy hbx hby hlt hlt2 hc hc2
end Go.Proofs.YtjkalahhpobefaaGreat
