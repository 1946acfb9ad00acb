/- Contracts of the small functions: isNaN, Compare, the closures. -/
import Derived.Test.YtjkalahhpobefaaGreatProg
import Derived.JoinedTies
import Derived.WalkSpells
import Derived.WalkLawsBesides
import Derived.BigQuiet
import Derived.Deep.DeepCutAuto
set_option maxHeartbeats 1000000
namespace Go.Proofs.YtjkalahhpobefaaGreat
set_option linter.all false
open Go.Proofs.Tryz Go.RowKit
abbrev OR:=Value
abbrev OQ:=World
abbrev OP:=List Int
abbrev OO:=List Value
abbrev LT(w w':World):Prop:=Below w.heap.size w w'
theorem Io{a b c:World}(h:Below a.heap.size a b)(k:Below b.heap.size b c):Below a.heap.size a c:=h.trans (k.mono h.size)
abbrev OV(b o:Nat):Addr:=⟨b,o,none⟩
abbrev OS(b:Nat):Value:=.pointer (some ⟨b,0,none⟩)
abbrev OU(b n c:Nat):Value:=.slice (some ⟨b,0,none⟩) n c
abbrev OW(x:Int):Value:=.int .i64 x
abbrev OX(x:Int):Value:=.int .u16 x
abbrev OY(x:Int):Value:=.int .u8 x
def OE(p:Prop):Prop:=p
theorem OE.o{p:Prop}(h:OE p):p:=h
abbrev NI:=@World.ownsRow.frozenAt
abbrev NJ:=@World.ownsRow.cellAt
abbrev NK:=@World.ownsRow.lt
abbrev NL:=@Nat.le_refl
abbrev NM:=@Below.refl
abbrev NN:=@And.intro
abbrev NO:=@decide_eq_false
abbrev NP:=@decide_eq_true
abbrev NQ:=@Nat.lt_of_lt_of_le
abbrev NR:=@Nat.le_trans
abbrev NS:=@Nat.zero_le
abbrev NT:=@bodyPost_ret
abbrev NU:=@results_none
abbrev NV:=@List.getElem_mem
abbrev NW:=@World.ownsRow.stored
abbrev NX:=@World.block_lt_of_cell?
abbrev NY:=@List.getD_eq_getElem?_getD
abbrev NZ:=@List.getElem?_eq_getElem
abbrev N0:=@List.getElem?_eq_none
abbrev N1:=@List.mem_append
abbrev N2:=@List.mem_singleton
abbrev N3:=@List.length_append
abbrev N4:=@Nat.zero_add
abbrev N5:=@List.take_of_length_le
abbrev N7:=@Option.some.injEq
abbrev N8:=@Value.slice.injEq
abbrev N9:=@List.mem_map
abbrev Oa:=@List.length_map
abbrev Ob:=@Nat.lt_of_not_le
abbrev Oc:=@if_neg
abbrev Oe:=@if_pos
abbrev Of:=@List.take_succ_eq_append_getElem
abbrev Og:=@List.mem_cons
abbrev Oh:=@List.length_cons
abbrev Oi:=@List.map_append
abbrev Oj:=@Classical.byContradiction
abbrev Ol:=@List.getElem?_append_left
abbrev Om:=@List.mem_filter
abbrev On:=@Array.getElem?_eq_some_iff
abbrev Oo:=@List.length_take
abbrev Oq:=@List.length_eq_zero_iff
abbrev Ot:=@List.getElem?_append_right
abbrev Ou:=@List.length_filter_le
abbrev Ov:=@List.drop_eq_getElem_cons
abbrev Ow:=@List.drop_eq_nil_of_le
abbrev Ox:=@Or.inl
abbrev Oy:=@Or.inr
abbrev Oz:=@Nat.mul_le_mul_right
abbrev OA:=@List.mem_of_mem_take
abbrev OB:=@List.mem_flatMap
abbrev OC:=@List.mem_iff_getElem
abbrev OD:=@Nat.lt_of_le_of_lt
theorem ae{p:Prop}(h:p):OE p:=h
variable{a:Int}
theorem cM{k:IntKind}{b:Int}(h:a=b):Ending.returned (.int k a)=.returned (.int k b):=by rw[h]
def aS(a b:Int):Int:=if a<b then-1 else if b<a then 1 else 0
theorem j8(a b:Int)(w:OQ):Calls prog 126 #[OW a,OW b] w λe w'=>e=.returned (OW (aS a b))/\w'=w:=by
 unfold aS;by_cases h1:a<b
 .go_enter func126,ntmps126;go_wp2;go_ret;exact⟨by simp[h1],rfl⟩
 .by_cases h2:b<a
  .go_enter func126,ntmps126;go_wp2;go_ret;exact⟨by simp[h1,h2],rfl⟩
  .go_enter func126,ntmps126;go_wp2;go_ret;exact⟨by simp[h1,h2],rfl⟩
def fk(x:Int):Bool:=decide (x<0\/200<x)
theorem xK(x:Int)(w:OQ):Calls prog 257 #[OW x] w λe w'=>e=.returned (.bool (fk x))/\w'=w:=by
 unfold fk;by_cases h:x<0
 .go_enter func257,ntmps257;go_wp2;go_ret;exact⟨by simp[h],rfl⟩
 .go_enter func257,ntmps257;go_wp2;go_ret;exact⟨by simp;omega,rfl⟩
def eX(w:OQ)(b off:Nat)(xs:OP):Prop:=∀i,i<xs.length->w.cell? (OV b (off+i))=some (OW (xs.getD i 0))
def aj:OP->Int
 |[]=>0
 |x::xs=>x+aj xs
theorem xL(xs:OP)(k:Nat)(h:k<xs.length):aj (xs.take (k+1))=aj (xs.take k)+xs.getD k 0:=by
 induction xs generalizing k with
 |nil=>simp at h
 |cons x xs ih=>
  cases k with
  |zero=>simp[aj]
  |succ k=>simp only[List.take_succ_cons,aj];rw[ih k (by simpa using h)];simp;omega
theorem kN(xs:OP)(h:∀x∈xs,0<=x/\x<=40000):0<=aj xs/\aj xs<=40000*xs.length:=by
 induction xs with
 |nil=>simp[aj]
 |cons x xs ih=>have h1:=h x (by simp);have h2:=ih (λy hy=>h y (by simp[hy]));simp only[aj,Oh];omega
theorem lP(xs:OP)(k:Nat)(h:k<xs.length):xs.getD k 0∈xs:=by rw[NY,NZ h];simp
theorem jf(xs:OP)(b off cap:Nat)(w:OQ)(hxs:∀x∈xs,0<=x/\x<=40000)(hl:xs.length<=3)(hc:eX w b off xs):Calls prog 92 #[.slice (some (OV b off)) xs.length cap] w λe w'=>e=.returned (OW (aj xs))/\w'=w:=by
 have HC:OE (eX w b off xs):=hc;clear hc;go_enter func92,ntmps92;go_wp2;go_loop [3,8] (λn i=>∃k:Nat,k<=xs.length/\i=OW k/\n=OW (aj (xs.take k))) (λ_ i=>xs.length-(intOf i).toNat);case atStart=>exact⟨0,NS _,rfl,rfl⟩
 case round=>
  obtain⟨k,hk,rfl,rfl⟩:=hrel;have hd:=kN (xs.take k) (λx hx=>hxs x (OA hx));have hl2:(xs.take k).length<=k:=List.length_take_le _ _;by_cases hlt:k<xs.length
  .have hsn:=xL xs k hlt;have hb:=hxs _ (lP xs k hlt);have hcell:=HC.o k hlt;generalize xs.getD k 0=y at hsn hb hcell;have HS:OE (aj (xs.take (k+1))=aj (xs.take k)+y):=hsn;clear hsn hxs;go_wp2;go_round;case rel=>exact⟨k+1,by omega,by go_num,by rw[HS.o]⟩
   case measure=>simp[intOf];omega
  .go_wp2;go_ret;exact⟨cM (by rw[N5 (by omega)]),rfl⟩
def Sl(w:OQ)(v:OR)(xs:OP):Prop:=
 ∃a cap,v=.slice a xs.length cap/\(0<xs.length->∃b off,a=some (OV b off)/\b<w.heap.size/\eX w b off xs)
variable{xs:OP}{v:OR}{w w':OQ}
theorem Sl.below(h:Sl w v xs)(hb:LT w w'):Sl w' v xs:=by obtain⟨a,cap,rfl,h⟩:=h;refine⟨a,cap,rfl,λhp=>?_⟩;obtain⟨b,off,rfl,hlt,hc⟩:=h hp;refine⟨b,off,rfl,NQ hlt hb.size,λi hi=>?_⟩;rw[hb.cell (p:=(OV b (off+i))) hlt];exact hc i hi
theorem tp(f:Int->Bool)(xs:OP)(k:Nat)(h:k<xs.length)(h0:(xs.take k).any f=false)(h1:f (xs.getD k 0)=false):(xs.take (k+1)).any f=false:=by rw[Of h,List.any_append,h0];rw[NY,NZ h] at h1;simpa using h1
theorem tu(f:Int->Bool)(xs:OP)(k:Nat)(h:k<xs.length)(h1:f (xs.getD k 0)=true):xs.any f=true:=by rw[List.any_eq_true];exact⟨_,lP xs k h,h1⟩
theorem Ea(xs:OP)(b off cap:Nat)(w:OQ)(hm:xs.length<=3)(hc:eX w b off xs):Calls prog 91 #[.slice (some (OV b off)) xs.length cap,.func (.func 257) #[] #[]] w λe w'=>∃r:Int,e=.returned (OW r)/\decide (0<=r)=xs.any fk/\w'=w:=by
 have HC:OE (eX w b off xs):=hc;clear hc;go_enter func91,ntmps91;go_wp2;go_loop [8] (λi=>∃k:Nat,k<=xs.length/\i=OW k/\(xs.take k).any fk=false) (λi=>xs.length-(intOf i).toNat);case atStart=>exact⟨0,NS _,rfl,by simp⟩
 case round=>
  obtain⟨k,hk,rfl,hn⟩:=hrel;have HN:OE ((xs.take k).any fk=false):=hn;clear hn;by_cases hlt:k<xs.length
  .have hcell:=HC.o k hlt;have h1:=tp fk xs k hlt HN.o;have h2:=tu fk xs k hlt;have H1:=ae h1;have H2:=ae h2;clear h1 h2;generalize xs.getD k 0=y at hcell H1 H2;cases hy:fk y
   .go_wp2_with (go_at_call 257;refine(xK _ _).mono ?_;rintro e w' ⟨rfl,rfl⟩);go_round;case rel=>exact⟨k+1,by omega,by go_num,H1.o hy⟩
    case measure=>simp[intOf];omega
   .go_wp2_with (go_at_call 257;refine(xK _ _).mono ?_;rintro e w' ⟨rfl,rfl⟩);go_ret;exact⟨(k:Int),rfl,by rw[H2.o hy];simp,rfl⟩
  .go_wp2;go_ret;exact⟨-1,rfl,by have:=HN.o;rw[N5 (by omega)] at this;rw[this];simp,rfl⟩
theorem tx(xs:OP)(b off cap:Nat)(w:OQ)(hm:xs.length<=3)(hc:eX w b off xs):Calls prog 50 #[.slice (some (OV b off)) xs.length cap,.func (.func 257) #[] #[]] w λe w'=>e=.returned (.bool (xs.any fk))/\w'=w:=by
 have HC:=ae hc;clear hc;go_enter func50,ntmps50;go_wp2_with (go_at_call 91;refine(Ea xs _ _ _ _ hm HC.o).mono ?_;rintro e w' ⟨r,rfl,hr,rfl⟩);go_ret;exact⟨by rw[<-hr];rfl,rfl⟩
def cd(n:Int)(xs:OP):Int:=if (xs.length:Int)≠n then 1 else if xs.any fk then 3 else if 200<aj xs then 3 else 0
theorem tz(h:xs.any fk=false):∀x∈xs,0<=x/\x<=200:=by intro x hx;rw[List.any_eq_false] at h;have:=h x hx;simp[fk] at this;omega
theorem xM(n:Int)(v:OR)(xs:OP)(w:OQ)(hn:1<=n/\n<=3)(hs:Sl w v xs):Calls prog 233 #[OW n,v] w λe w'=>e=.returned (OW (cd n xs))/\w'=w:=by
 obtain⟨a,cap,rfl,hs⟩:=hs;obtain⟨hn1,hn2⟩:=hn;by_cases hl:(xs.length:Int)=n
 .subst hl;obtain⟨b,off,rfl,_,hc⟩:=hs (by omega);clear hs;have HC:=ae hc;clear hc;have hm:xs.length<=3:=by omega
  cases hy:xs.any fk
  .have hb:=tz hy;have hb2:=ae (show∀x∈xs,0<=x/\x<=40000 from λx hx=>by have:=hb x hx;omega);clear hb;by_cases hd:200<aj xs
   .have he:cd xs.length xs=3:=by simp[cd,hy,hd]
    rw[he];clear he;go_enter func233,ntmps233;go_wp2_with (first|(go_at_call 50;refine(tx xs _ _ _ _ hm HC.o).mono ?_;rintro e w' ⟨rfl,rfl⟩)|(go_at_call 92;refine(jf xs _ _ _ _ hb2.o hm HC.o).mono ?_;rintro e w' ⟨rfl,rfl⟩));go_ret;exact⟨rfl,rfl⟩
   .have he:cd xs.length xs=0:=by simp[cd,hy,hd]
    rw[he];clear he;go_enter func233,ntmps233;go_wp2_with (first|(go_at_call 50;refine(tx xs _ _ _ _ hm HC.o).mono ?_;rintro e w' ⟨rfl,rfl⟩)|(go_at_call 92;refine(jf xs _ _ _ _ hb2.o hm HC.o).mono ?_;rintro e w' ⟨rfl,rfl⟩));go_ret;exact⟨rfl,rfl⟩
  .have he:cd xs.length xs=3:=by simp[cd,hy]
   rw[he];clear he;go_enter func233,ntmps233;go_wp2_with (go_at_call 50;refine(tx xs _ _ _ _ hm HC.o).mono ?_;rintro e w' ⟨rfl,rfl⟩);go_ret;exact⟨rfl,rfl⟩
 .have he:cd n xs=1:=by simp[cd,hl]
  rw[he];clear he hs;have hl2:((xs.length:Int) !=n)=true:=by simpa using hl
  clear hl;go_enter func233,ntmps233;go_wp2;go_ret;exact⟨rfl,rfl⟩
def fl(p n:Nat):Bool:=(List.range n).all λd=>d<2||p%d !=0
def lQ(p:Int):Bool:=fl p.toNat p.toNat
def bo(p:Int):Int:=if p<2\/101<p then 3 else if lQ p then 0 else 4
theorem xN(p n:Nat):fl p (n+1)=(fl p n&&(n<2||p%n !=0)):=by simp[fl,List.range_succ,List.all_append]
theorem xO{p n m:Nat}(h:fl p n=false)(hm:n<=m):fl p m=false:=by
 induction hm with
 |refl=>exact h
 |step _ ih=>rw[xN,ih];rfl
theorem Eb:∀p,p<102->∀k,k<12->p<k*k->fl p k=true->fl p p=true:=by decide+kernel
theorem xP{p k:Nat}(h2:2<=k)(h:fl p k=true):fl p (k+1)=(p%k !=0):=by
 rw[xN,h];have:¬k<2:=by omega
 simp[this]
theorem xQ(p k:Nat)(h:0<k):((p:Int)%(k:Int)==0)=!(p%k !=0):=by
 have:((p:Int)%(k:Int))=((p%k:Nat):Int):=by omega
 rw[this];cases hh:p%k with
 |zero=>rfl
 |succ n=>simp;omega
theorem xR{n:Nat}(h1:2<=n)(h2:n<=101)(h:fl n n=true):bo (n:Int)=0:=by have hp:lQ (n:Int)=true:=h;unfold bo;rw[Oc (by omega),Oe hp]
theorem xS{n:Nat}(h1:2<=n)(h2:n<=101)(h:fl n n=false):bo (n:Int)=4:=by have hp:lQ (n:Int)=false:=h;unfold bo;rw[Oc (by omega),Oc (by simp[hp])]
theorem j9(p:Int)(w:OQ):Calls prog 93 #[OW p] w λe w'=>e=.returned (OW (bo p))/\w'=w:=by
 by_cases h1:p<2
 .have he:bo p=3:=by simp[bo,h1]
  rw[he];clear he;go_enter func93,ntmps93;go_wp2;go_ret;exact⟨rfl,rfl⟩
 by_cases h2:101<p
 .have he:bo p=3:=by simp[bo,h2]
  rw[he];clear he;go_enter func93,ntmps93;go_wp2;go_ret;exact⟨rfl,rfl⟩
 obtain⟨n,rfl⟩:∃n:Nat,p=n:=⟨p.toNat,by omega⟩;have hn1:2<=n:=by omega
 have hn2:n<=101:=by omega
 clear h1 h2;go_enter func93,ntmps93;go_wp2;go_loop [3] (λd=>∃k:Nat,2<=k/\k<=11/\d=OW k/\fl n k=true) (λd=>12-(intOf d).toNat);case atStart=>exact⟨2,by omega,by omega,rfl,rfl⟩
 case round=>
  obtain⟨k,hk1,hk2,rfl,hnd⟩:=hrel;have HN:=ae hnd;clear hnd;by_cases hlt:k*k<=n
  .have hk3:k<=10:=by apply Nat.le_of_not_lt;intro h;have:11*11<=k*k:=Nat.mul_le_mul h h;omega
   have hlt2:(k:Int)*k<=n:=by exact_mod_cast hlt
   have hkk:(k:Int)*k<=101:=by omega
   have hk0:(0:Int)<=(k:Int)*k:=by exact_mod_cast NS _
   have hat:=xP (p:=n) hk1 HN.o;have hmc:=xQ n k (by omega);cases hz:(n%k !=0)
   .rw[hz] at hat hmc;have HA:=ae hat;clear hat;have hmc2:((n:Int)%(k:Int)==0)=true:=hmc;clear hmc hz;go_wp2;go_ret;exact⟨cM (by
     have hkn:k+1<=n:=by have:2*k<=k*k:=Oz k hk1;omega
     exact(xS hn1 hn2 (xO HA.o hkn)).symm),rfl⟩
   .rw[hz] at hat hmc;have HA:=ae hat;clear hat;have hmc2:((n:Int)%(k:Int)==0)=false:=hmc;clear hmc hz;go_wp2;go_round;case rel=>exact⟨k+1,by omega,by omega,by go_num,HA.o⟩
    case measure=>simp[intOf];omega
  .have hlt2:¬(k:Int)*k<=n:=by intro h;apply hlt;exact_mod_cast h
   have hk0:(0:Int)<=(k:Int)*k:=by exact_mod_cast NS _
   have hk9:(k:Int)*k<=121:=by
    have:k*k<=11*11:=Nat.mul_le_mul hk2 hk2
    exact_mod_cast this
   go_wp2;go_ret;exact⟨cM (xR hn1 hn2 (Eb n (by omega) k (by omega) (by omega) HN.o)).symm,rfl⟩
def cE(n a b:Int):Bool:=decide (a<=n)&&decide (n<=b)
theorem gi(n a b:Int)(w:OQ):Calls prog 69 #[OW n,OW a,OW b] w λe w'=>e=.returned (.bool (cE n a b))/\w'=w:=by
 by_cases h:a<=n
 .have he:cE n a b=decide (n<=b):=by simp[cE,h]
  rw[he];clear he;go_enter func69,ntmps69;go_wp2;go_ret;exact⟨rfl,rfl⟩
 .have he:cE n a b=false:=by simp[cE,h]
  rw[he];clear he;go_enter func69,ntmps69;go_wp2;go_ret;exact⟨rfl,rfl⟩
theorem oI(p:Int)(w:OQ):Calls prog 68 #[OW p] w λe w'=>e=.returned (OW (bo p))/\w'=w:=by
 cases hb:cE p 2 101
 .have he:bo p=3:=by simp[cE] at hb;unfold bo;rw[Oe (by omega)]
  rw[he];clear he;go_enter func68,ntmps68;go_wp2_with (go_at_call 69;refine(gi _ _ _ _).mono ?_;rintro e w' ⟨rfl,rfl⟩);go_ret;exact⟨rfl,rfl⟩
 .have hb2:2<=p/\p<=101:=by simpa [cE] using hb
  obtain⟨n,rfl⟩:∃n:Nat,p=n:=⟨p.toNat,by omega⟩;have hn1:2<=n:=by omega
  have hn2:n<=101:=by omega
  clear hb2;go_enter func68,ntmps68;go_wp2_with (go_at_call 69;refine(gi _ _ _ _).mono ?_;rintro e w' ⟨rfl,rfl⟩);go_loop [3] (λd=>∃k:Nat,2<=k/\k<=n/\d=OW k/\fl n k=true) (λd=>102-(intOf d).toNat);case atStart=>exact⟨2,by omega,by omega,rfl,rfl⟩
  case round=>
   obtain⟨k,hk1,hk2,rfl,hnd⟩:=hrel;have HN:=ae hnd;clear hnd;by_cases hlt:k<n
   .have hat:=xP (p:=n) hk1 HN.o;have hmc:=xQ n k (by omega);cases hz:(n%k !=0)
    .rw[hz] at hat hmc;have HA:=ae hat;clear hat;have hmc2:((n:Int)%(k:Int)==0)=true:=hmc;clear hmc hz;go_wp2;go_ret;exact⟨cM (xS hn1 hn2 (xO HA.o hlt)).symm,rfl⟩
    .rw[hz] at hat hmc;have HA:=ae hat;clear hat;have hmc2:((n:Int)%(k:Int)==0)=false:=hmc;clear hmc hz;go_wp2;go_round;case rel=>exact⟨k+1,by omega,by omega,by go_num,HA.o⟩
     case measure=>simp[intOf];omega
   .have hkn:k=n:=by omega
    subst hkn;go_wp2;go_ret;exact⟨cM (xR hn1 hn2 HN.o).symm,rfl⟩
def bJ(p n o v:Int):Int:=if bo p≠0 then bo p else if n<1\/3<n then 3 else if (o≠1/\o≠2)\/(v≠1/\v≠2) then 6 else 0
abbrev aI(p n o v:Int):OR:=.agg #[OW p,OW n,OW o,OW v]
variable{p n o:Int}
theorem xT{v:Int}(h:(bo p !=0)=true):bJ p n o v=bo p:=by
 have:bo p≠0:=by simpa using h
 unfold bJ;rw[Oe this]
theorem tA{v:Int}(h:(bo p !=0)=false)(hn:n<1\/3<n):bJ p n o v=3:=by
 have:¬bo p≠0:=by simpa using h
 unfold bJ;rw[Oc this,Oe hn]
theorem qi{v:Int}(h:(bo p !=0)=false)(hn:¬(n<1\/3<n))(hk:(o≠1/\o≠2)\/(v≠1/\v≠2)):bJ p n o v=6:=by
 have:¬bo p≠0:=by simpa using h
 unfold bJ;rw[Oc this,Oc hn,Oe hk]
theorem xU{v:Int}(h:(bo p !=0)=false)(hn:¬(n<1\/3<n))(hk:¬((o≠1/\o≠2)\/(v≠1/\v≠2))):bJ p n o v=0:=by
 have:¬bo p≠0:=by simpa using h
 unfold bJ;rw[Oc this,Oc hn,Oc hk]
theorem ke(p n o v:Int)(w:OQ):Calls prog 55 #[aI p n o v] w λe w'=>e=.returned (OW (bJ p n o v))/\LT w w':=by
 cases hp:(bo p !=0)
 .by_cases hn1:n<1
  .rw[tA hp (Ox hn1)];go_enter func55,ntmps55;go_wp2_with (go_at_call 93;refine(j9 _ _).mono ?_;rintro e w' ⟨rfl,rfl⟩);go_ret;exact⟨rfl,(NM _ _).alloc (NL _) _⟩
  by_cases hn3:3<n
  .rw[tA hp (Oy hn3)];go_enter func55,ntmps55;go_wp2_with (go_at_call 93;refine(j9 _ _).mono ?_;rintro e w' ⟨rfl,rfl⟩);go_ret;exact⟨rfl,(NM _ _).alloc (NL _) _⟩
  have hn:¬(n<1\/3<n):=by omega
  by_cases ho:o≠1/\o≠2
  .rw[qi hp hn (Ox ho)];obtain⟨ho1,ho2⟩:=ho;have ho1':(o !=1)=true:=by simpa using ho1
   have ho2':(o !=2)=true:=by simpa using ho2
   clear ho1 ho2 hn;go_enter func55,ntmps55;go_wp2_with (go_at_call 93;refine(j9 _ _).mono ?_;rintro e w' ⟨rfl,rfl⟩);go_ret;exact⟨rfl,(NM _ _).alloc (NL _) _⟩
  by_cases hv:v≠1/\v≠2
  .rw[qi hp hn (Oy hv)];obtain⟨hv1,hv2⟩:=hv;have hv1':(v !=1)=true:=by simpa using hv1
   have hv2':(v !=2)=true:=by simpa using hv2
   have ho':o=1\/o=2:=by omega
   clear hv1 hv2 hn ho;rcases ho' with rfl|rfl;all_goals
    go_enter func55,ntmps55;go_wp2_with (go_at_call 93;refine(j9 _ _).mono ?_;rintro e w' ⟨rfl,rfl⟩);go_ret;exact⟨rfl,(NM _ _).alloc (NL _) _⟩
  .rw[xU hp hn (by omega)];have ho':o=1\/o=2:=by omega
   have hv':v=1\/v=2:=by omega
   clear hv hn ho;rcases ho' with rfl|rfl<;>rcases hv' with rfl|rfl;all_goals
    go_enter func55,ntmps55;go_wp2_with (go_at_call 93;refine(j9 _ _).mono ?_;rintro e w' ⟨rfl,rfl⟩);go_ret;exact⟨rfl,(NM _ _).alloc (NL _) _⟩
 .rw[xT hp];go_enter func55,ntmps55;go_wp2_with (go_at_call 93;refine(j9 _ _).mono ?_;rintro e w' ⟨rfl,rfl⟩);go_ret;exact⟨rfl,(NM _ _).alloc (NL _) _⟩
theorem xV(p n o v:Int)(w:OQ):Calls prog 35 #[aI p n o v] w λe w'=>e=.returned (OW (bJ p n o v))/\LT w w':=by
 have arm:∀x,cE x 1 2=true↔(x=1\/x=2):=λx=>by simp[cE];omega
 cases hp:(bo p !=0)
 .cases hn:cE n 1 3
  .rw[tA hp (by simp[cE] at hn;omega)];clear arm;go_enter func35,ntmps35;go_wp2_with (first|(go_at_call 68;refine(oI _ _).mono ?_;rintro e w' ⟨rfl,rfl⟩)|(go_at_call 69;refine(gi _ _ _ _).mono ?_;rintro e w' ⟨rfl,rfl⟩));go_ret;exact⟨rfl,(NM _ _).alloc (NL _) _⟩
  have hn':¬(n<1\/3<n):=by simp[cE] at hn;omega
  cases ho:cE o 1 2
  .have:=arm o;rw[qi hp hn' (by rw[ho] at this;simp at this;omega)];clear arm this hn';go_enter func35,ntmps35;go_wp2_with (first|(go_at_call 68;refine(oI _ _).mono ?_;rintro e w' ⟨rfl,rfl⟩)|(go_at_call 69;refine(gi _ _ _ _).mono ?_;rintro e w' ⟨rfl,rfl⟩));go_ret;exact⟨rfl,(NM _ _).alloc (NL _) _⟩
  cases hv:cE v 1 2
  .have:=arm v;rw[qi hp hn' (by rw[hv] at this;simp at this;omega)];clear arm this hn';go_enter func35,ntmps35;go_wp2_with (first|(go_at_call 68;refine(oI _ _).mono ?_;rintro e w' ⟨rfl,rfl⟩)|(go_at_call 69;refine(gi _ _ _ _).mono ?_;rintro e w' ⟨rfl,rfl⟩));go_ret;exact⟨rfl,(NM _ _).alloc (NL _) _⟩
  .have h1:=(arm v).1 hv;have h2:=(arm o).1 ho;rw[xU hp hn' (by omega)];clear arm h1 h2 hn';go_enter func35,ntmps35;go_wp2_with (first|(go_at_call 68;refine(oI _ _).mono ?_;rintro e w' ⟨rfl,rfl⟩)|(go_at_call 69;refine(gi _ _ _ _).mono ?_;rintro e w' ⟨rfl,rfl⟩));go_ret;exact⟨rfl,(NM _ _).alloc (NL _) _⟩
 .rw[xT hp];clear arm;go_enter func35,ntmps35;go_wp2_with (go_at_call 68;refine(oI _ _).mono ?_;rintro e w' ⟨rfl,rfl⟩);go_ret;exact⟨rfl,(NM _ _).alloc (NL _) _⟩
variable{W:OQ}
theorem Ec{w1:OQ}(hb:LT W w1):(∀b o,b<W.heap.size->w1.cell? (OV b o)=W.cell? (OV b o))/\(∀b o,b<W.heap.size->w1.frozen? (OV b o)=W.frozen? (OV b o)):=
 ⟨λb o h=>hb.cell (p:=(OV b o)) h,λb o h=>hb.frozen (p:=(OV b o)) h⟩
def kf(n:Int):List (OP)->Int
 |[]=>0
 |xs::r=>if cd n xs=0 then kf n r else cd n xs
def mK(w:OQ)(b off:Nat)(xss:List (OP)):Prop:=
 ∀i,i<xss.length->∃v,w.cell? (OV b (off+i))=some v/\Sl w v (xss.getD i [])
variable{xss:List (OP)}{b off:Nat}
theorem mK.below(h:mK w b off xss)(hlt:b<w.heap.size)(hb:LT w w'):mK w' b off xss:=by intro i hi;obtain⟨v,hc,hs⟩:=h i hi;exact⟨v,by rw[hb.cell (p:=(OV b (off+i))) hlt];exact hc,hs.below hb⟩
theorem Ee(n:Int)(xss:List (OP))(k:Nat)(h:k<xss.length):kf n (xss.drop k)=if cd n (xss.getD k [])=0 then kf n (xss.drop (k+1)) else cd n (xss.getD k []):=by rw[Ov h];simp[kf,NY,h]
def kO(p n o v:Int)(xss:List (OP)):Int:=if bJ p n o v=0 then kf n xss else bJ p n o v
theorem kg{v:Int}(h:bJ p n o v=0):bo p=0/\1<=n/\n<=3/\(o=1\/o=2)/\(v=1\/v=2):=by
 unfold bJ at h;by_cases h1:bo p=0
 .rw[Oc (by simp[h1])] at h;by_cases h2:n<1\/3<n
  .rw[Oe h2] at h;omega
  .rw[Oc h2] at h;by_cases h3:(o≠1/\o≠2)\/(v≠1/\v≠2)
   .rw[Oe h3] at h;omega
   .exact⟨h1,by omega,by omega,by omega,by omega⟩
 .rw[Oe h1] at h;exact absurd h h1
theorem Ef(p n o v:Int)(xss:List (OP))(b off cap:Nat)(w:OQ)(hl:xss.length<=2)(hlt:b<w.heap.size)(hs:mK w b off xss):Calls prog 194 #[aI p n o v,.slice (some (OV b off)) xss.length cap] w λe w'=>e=.returned (OW (kO p n o v xss))/\LT w w':=by
 have HS:=ae hs;clear hs;cases hp:(bJ p n o v !=0)
 .have hp0:bJ p n o v=0:=by simpa using hp
  obtain⟨_,hn1,hn2,_⟩:=kg hp0;have he:kO p n o v xss=kf n xss:=by unfold kO;rw[Oe hp0]
  rw[he];clear he hp0;go_enter func194,ntmps194;go_wp2_with (go_at_call 55;refine(ke _ _ _ _ _).mono ?_;rintro e w1 ⟨rfl,hb1⟩);have hb0:LT w w1:=((NM _ _).alloc (NL _) _).trans (hb1.mono (by simp));obtain⟨hcl,_⟩:=Ec hb1;have hbox:w1.cell? (OV w.heap.size 1)=some (OW n):=by rw[hcl _ _ (by simp)];simp[go_sem]
  have HS1:=ae (HS.o.below hlt hb0);clear hcl HS;go_loop [16] (λi=>∃k:Nat,k<=xss.length/\i=OW k/\kf n xss=kf n (xss.drop k)) (λi=>xss.length-(intOf i).toNat);case atStart=>exact⟨0,NS _,rfl,by simp⟩
  case round=>
   obtain⟨k,hk,rfl,hf⟩:=hrel;have HF:=ae hf;clear hf;by_cases hk2:k<xss.length
   .obtain⟨vv,hcell,hsl⟩:=HS1.o k hk2;have HSL:=ae hsl;have HD:=ae (Ee n xss k hk2);clear hsl;generalize xss.getD k []=xs at HSL HD;obtain⟨a,cc,hvv,_⟩:=HSL.o;subst hvv;cases hz:(cd n xs !=0)
    .go_wp2_with (go_at_call 233;refine(xM _ _ xs _ ⟨hn1,hn2⟩ HSL.o).mono ?_;rintro e w' ⟨rfl,rfl⟩);go_round;case rel=>exact⟨k+1,by omega,by go_num,by rw[HF.o,HD.o,Oe (by simpa using hz)]⟩
     case measure=>simp[intOf];omega
    .go_wp2_with (go_at_call 233;refine(xM _ _ xs _ ⟨hn1,hn2⟩ HSL.o).mono ?_;rintro e w' ⟨rfl,rfl⟩);go_ret;exact⟨cM (by rw[HF.o,HD.o,Oc (by simpa using hz)]),hb0⟩
   .go_wp2;go_ret;exact⟨cM (by rw[HF.o,Ow (by omega)];rfl),hb0⟩
 .have he:kO p n o v xss=bJ p n o v:=by unfold kO;rw[Oc (by simpa using hp)]
  rw[he];clear he;go_enter func194,ntmps194;go_wp2_with (go_at_call 55;refine(ke _ _ _ _ _).mono ?_;rintro e w1 ⟨rfl,hb1⟩);go_ret;exact⟨rfl,((NM _ _).alloc (NL _) _).trans (hb1.mono (by simp))⟩
def ck:OP->OP->Int
 |x::xs,y::ys=>if aS x y=0 then ck xs ys else aS x y
 |_,_=>0
def jg(xs ys:OP):Int:=ck ys.reverse xs.reverse
theorem xW(xs ys:OP)(k:Nat)(h:k<xs.length)(h2:k<ys.length):ck (xs.drop k) (ys.drop k)=if aS (xs.getD k 0) (ys.getD k 0)=0 then ck (xs.drop (k+1)) (ys.drop (k+1)) else aS (xs.getD k 0) (ys.getD k 0):=by rw[Ov h,Ov h2];simp[ck,NY,h,h2]
theorem xX(xs:OP)(k:Nat)(h:k<xs.length):(xs.take (k+1)).reverse=xs.getD k 0::(xs.take k).reverse:=by rw[Of h,List.reverse_append];simp[NY,h]
theorem xY(xs ys:OP)(k:Nat)(h:k<xs.length)(h2:k<ys.length):ck (ys.take (k+1)).reverse (xs.take (k+1)).reverse=if aS (ys.getD k 0) (xs.getD k 0)=0 then ck (ys.take k).reverse (xs.take k).reverse else aS (ys.getD k 0) (xs.getD k 0):=by rw[xX xs k h,xX ys k h2];simp[ck]
theorem Eg(xs ys:OP)(b off cap b2 off2 cap2:Nat)(w:OQ)(hm:xs.length<=3)(hxy:xs.length=ys.length)(hc:eX w b off xs)(hc2:eX w b2 off2 ys):Calls prog 128 #[.slice (some (OV b off)) xs.length cap,.slice (some (OV b2 off2)) ys.length cap2] w λe w'=>e=.returned (OW (ck xs ys))/\w'=w:=by
 have HC:=ae hc;have HC2:=ae hc2;clear hc hc2;rw[<-hxy];have HXY:=ae hxy;clear hxy;go_enter func128,ntmps128;go_wp2;go_loop [11] (λi=>∃k:Nat,k<=xs.length/\i=OW k/\ck xs ys=ck (xs.drop k) (ys.drop k)) (λi=>xs.length-(intOf i).toNat);case atStart=>exact⟨0,NS _,rfl,by simp⟩
 case round=>
  obtain⟨k,hk,rfl,hn⟩:=hrel;have HN:=ae hn;clear hn;by_cases hlt:k<xs.length
  .have hcell:=HC.o k hlt;have hcell2:=HC2.o k (by rw[<-HXY.o];exact hlt);have HD:=ae (xW xs ys k hlt (by rw[<-HXY.o];exact hlt));generalize xs.getD k 0=x at hcell HD;generalize ys.getD k 0=y at hcell2 HD;cases hy:(aS x y !=0)
   .go_wp2_with (go_at_call 126;refine(j8 _ _ _).mono ?_;rintro e w' ⟨rfl,rfl⟩);go_round;case rel=>exact⟨k+1,by omega,by go_num,by rw[HN.o,HD.o,Oe (by simpa using hy)]⟩
    case measure=>simp[intOf];omega
   .go_wp2_with (go_at_call 126;refine(j8 _ _ _).mono ?_;rintro e w' ⟨rfl,rfl⟩);go_ret;exact⟨cM (by rw[HN.o,HD.o,Oc (by simpa using hy)]),rfl⟩
  .go_wp2;go_ret;exact⟨cM (by rw[HN.o,Ow (by omega)];rfl),rfl⟩
theorem Eh(xs ys:OP)(b off cap b2 off2 cap2:Nat)(w:OQ)(hm:xs.length<=3)(hxy:xs.length=ys.length)(hc:eX w b off xs)(hc2:eX w b2 off2 ys):Calls prog 127 #[.slice (some (OV b off)) xs.length cap,.slice (some (OV b2 off2)) ys.length cap2] w λe w'=>e=.returned (OW (jg xs ys))/\∃n,w'=w.drewN n:=by
 have HC:=ae hc;have HC2:=ae hc2;clear hc hc2;rw[<-hxy];have HXY:=ae hxy;clear hxy;go_enter func127,ntmps127;go_wp2;go_loopw [5] (λi wr=>∃k n:Nat,k<=xs.length/\i=OW ((k:Int)-1)/\jg xs ys=ck (ys.take k).reverse (xs.take k).reverse/\wr=w.drewN n) (λi _=>(intOf i+1).toNat);case atStart=>exact⟨xs.length,0,NL _,rfl,by rw[N5 (by have:=HXY.o;omega),N5 (by omega)];rfl,rfl⟩
 case round=>
  obtain⟨k,n0,hk,rfl,hn,hw0⟩:=hrel;have HN:=ae hn;have HW:=ae hw0;clear hn hw0;cases k with
  |succ k=>
   have hlt:k<xs.length:=by omega
   have hcell:=HC.o k hlt;have hcell2:=HC2.o k (by rw[<-HXY.o];exact hlt);have e1:∀a,wr.cell? a=w.cell? a:=λa=>by rw[HW.o];rfl
   rw[<-e1] at hcell hcell2;clear e1;have HD:=ae (xY xs ys k hlt (by rw[<-HXY.o];exact hlt));have ek:(((k+1:Nat):Int)-1)=(k:Int):=by omega
   rw[ek];clear ek;generalize xs.getD k 0=x at hcell HD;generalize ys.getD k 0=y at hcell2 HD;cases hy:(aS y x !=0)
   .go_wp2;go_quiet ((go_at_call 126;exact Calls.quiet_of_same (j8 _ _ _)));go_wp2;go_roundw;case rel=>exact⟨k,_,by omega,rfl,by rw[HN.o,HD.o,Oe (by simpa using hy)],by rw[HW.o,World.drewN_drewN]⟩
    case measure=>simp[intOf]
   .go_wp2;go_quiet ((go_at_call 126;exact Calls.quiet_of_same (j8 _ _ _)));go_wp2;go_ret;exact⟨cM (by rw[HN.o,HD.o,Oc (by simpa using hy)]),_,by rw[HW.o,World.drewN_drewN]⟩
  |zero=>go_wp2;go_ret;exact⟨cM (by rw[HN.o];rfl),n0,HW.o⟩
theorem jH(h:cd n xs=0):(xs.length:Int)=n/\(∀x∈xs,0<=x/\x<=200)/\aj xs<=200:=by
 unfold cd at h;by_cases h1:(xs.length:Int)=n
 .rw[Oc (by simp[h1])] at h;cases h2:xs.any fk
  .rw[Oc (by simp[h2])] at h;by_cases h3:200<aj xs
   .rw[Oe h3] at h;omega
   .exact⟨h1,tz h2,by omega⟩
  .rw[Oe h2] at h;omega
 .rw[Oe h1] at h;omega
theorem Sl.sls1(h:Sl w v xs)(hc:w.cell? (OV b 0)=some v):mK w b 0 [xs]:=by intro i hi;simp at hi;subst hi;exact⟨v,hc,h⟩
theorem Ei(p n o v:Int)(x:OR)(xs:OP)(w:OQ)(hs:Sl w x xs):Calls prog 160 #[aI p n o v,x] w λe w'=>e=.returned (OW (kO p n o v [xs]))/\LT w w':=by
 have HS:=ae hs;obtain⟨a,cap,rfl,_⟩:=hs;go_enter func160,ntmps160;go_wp2_with fail;have hb:∀A B,LT w ((w.alloc A).alloc B):=λA B=>((NM _ _).alloc (NL _) _).alloc (by simp) _;refine(Ef p n o v [xs] _ _ _ _ (by simp) (by simp) ?_).mono ?_
 .exact(HS.o.below (hb _ _)).sls1 (by simp[go_sem])
 .rintro e w1 ⟨rfl,hb1⟩;go_wp2;go_ret;exact⟨rfl,(hb _ _).trans (hb1.mono (by simp;omega))⟩
def aR(o:Int)(xs ys:OP):Int:=
 if aS (aj xs) (aj ys)=0 then (if o=1 then jg xs ys else ck xs ys) else aS (aj xs) (aj ys)
variable{A:Obj}
theorem dR{B:Obj}:LT w ((w.alloc A).alloc B):=((NM _ _).alloc (NL _) _).alloc (by simp) _
theorem Ej{B:Nat}(h:Below B w W)(hd:∃n,w'=W.drewN n):Below B w w':=by obtain⟨n,rfl⟩:=hd;exact below_drewN h n
variable{ys:OP}
theorem Ek(h:(aS (aj xs) (aj ys) !=0)=true):aR o xs ys=aS (aj xs) (aj ys):=by unfold aR;rw[Oc (by simpa using h)]
theorem El(h:(aS (aj xs) (aj ys) !=0)=false):aR 1 xs ys=jg xs ys:=by unfold aR;rw[Oe (by simpa using h),Oe rfl]
theorem Em(h:(aS (aj xs) (aj ys) !=0)=false):aR 2 xs ys=ck xs ys:=by unfold aR;rw[Oe (by simpa using h),Oc (by omega)]
theorem bE:LT w (w.alloc A):=(NM _ _).alloc (NL _) _
theorem oJ(p n o v:Int)(x y:OR)(xs ys:OP)(w:OQ)(ho:o=1\/o=2)(h0:0<xs.length)(hm:xs.length<=3)(hxy:xs.length=ys.length)(hbx:∀x∈xs,0<=x/\x<=40000)(hby:∀x∈ys,0<=x/\x<=40000)(hs:Sl w x xs)(hs2:Sl w y ys):Calls prog 90 #[aI p n o v,x,y] w λe w'=>e=.returned (OW (aR o xs ys))/\LT w w':=by
 have HXY:=ae hxy;have HBX:=ae hbx;have HBY:=ae hby;have hmy:ys.length<=3:=by omega
 obtain⟨a,cap,rfl,h1⟩:=hs;obtain⟨a2,cap2,rfl,h2⟩:=hs2;obtain⟨b,off,rfl,hlt,hc⟩:=h1 h0;obtain⟨b2,off2,rfl,hlt2,hc2⟩:=h2 (by omega);have HC:=ae hc;have HC2:=ae hc2;clear hxy hbx hby h1 h2 hc hc2;have key:∀w1:OQ,LT w w1->eX w1 b off xs/\eX w1 b2 off2 ys:=λw1 hb=>⟨λi hi=>by rw[hb.cell (p:=(OV b (off+i))) hlt];exact HC.o i hi,λi hi=>by rw[hb.cell (p:=(OV b2 (off2+i))) hlt2];exact HC2.o i hi⟩
 have KEY:=ae key;clear key;cases hd:(aS (aj xs) (aj ys) !=0)
 .rcases ho with rfl|rfl
  .rw[El hd];go_enter func90,ntmps90;go_wp2_with fail;refine(jf xs _ _ _ _ HBX.o hm (KEY.o _ bE).1).mono ?_;rintro e w' ⟨rfl,rfl⟩;go_wp2_with fail;refine(jf ys _ _ _ _ HBY.o hmy (KEY.o _ bE).2).mono ?_;rintro e w' ⟨rfl,rfl⟩;go_wp2_with fail;refine(j8 _ _ _).mono ?_;rintro e w' ⟨rfl,rfl⟩;go_wp2_with fail;refine(Eh xs ys _ _ _ _ _ _ _ hm HXY.o (KEY.o _ bE).1 (KEY.o _ bE).2).mono ?_;rintro e w1 ⟨rfl,hd2⟩;go_wp2;go_ret;exact⟨rfl,Ej bE hd2⟩
  .rw[Em hd];go_enter func90,ntmps90;go_wp2_with fail;refine(jf xs _ _ _ _ HBX.o hm (KEY.o _ bE).1).mono ?_;rintro e w' ⟨rfl,rfl⟩;go_wp2_with fail;refine(jf ys _ _ _ _ HBY.o hmy (KEY.o _ bE).2).mono ?_;rintro e w' ⟨rfl,rfl⟩;go_wp2_with fail;refine(j8 _ _ _).mono ?_;rintro e w' ⟨rfl,rfl⟩;go_wp2_with fail;refine(Eg xs ys _ _ _ _ _ _ _ hm HXY.o (KEY.o _ bE).1 (KEY.o _ bE).2).mono ?_;rintro e w' ⟨rfl,rfl⟩;go_wp2;go_ret;exact⟨rfl,bE⟩
 .rw[Ek hd];go_enter func90,ntmps90;go_wp2_with fail;refine(jf xs _ _ _ _ HBX.o hm (KEY.o _ bE).1).mono ?_;rintro e w' ⟨rfl,rfl⟩;go_wp2_with fail;refine(jf ys _ _ _ _ HBY.o hmy (KEY.o _ bE).2).mono ?_;rintro e w' ⟨rfl,rfl⟩;go_wp2_with fail;refine(j8 _ _ _).mono ?_;rintro e w' ⟨rfl,rfl⟩;go_wp2;go_ret;exact⟨rfl,bE⟩
def gQ(p x:Int):Bool:=decide (x<0\/p<=x)
theorem Fs{b:Int}(h:0<=a/\a<=200/\0<=b/\b<=200):0<=a*b/\a*b<=40000:=by obtain⟨h1,h2,h3,h4⟩:=h;refine⟨Int.mul_nonneg h1 h3,?_⟩;have:a*b<=200*200:=Int.mul_le_mul h2 h4 h3 (by omega);omega
theorem zJ(p x:Int)(b:Nat)(w:OQ)(hb:w.cell? (OV b 0)=some (OW p)):Calls prog 251 #[OW x,OS b] w λe w'=>e=.returned (.bool (gQ p x))/\w'=w:=by
 unfold gQ;by_cases h:x<0
 .go_enter func251,ntmps251;go_wp2;go_ret;exact⟨by simp[h],rfl⟩
 .go_enter func251,ntmps251;go_wp2;go_ret;exact⟨by simp;omega,rfl⟩
theorem Fu(p:Int)(xs:OP)(b off cap pb:Nat)(w:OQ)(hm:xs.length<=400)(hc:eX w b off xs)(hp:w.cell? (OV pb 0)=some (OW p)):Calls prog 91 #[.slice (some (OV b off)) xs.length cap,.func (.func 251) #[] #[OS pb]] w λe w'=>∃r:Int,e=.returned (OW r)/\decide (0<=r)=xs.any (gQ p)/\w'=w:=by
 have HC:=ae hc;have HP:=ae hp;clear hc hp;go_enter func91,ntmps91;go_wp2;go_loop [8] (λi=>∃k:Nat,k<=xs.length/\i=OW k/\(xs.take k).any (gQ p)=false) (λi=>xs.length-(intOf i).toNat);case atStart=>exact⟨0,NS _,rfl,by simp⟩
 case round=>
  obtain⟨k,hk,rfl,hn⟩:=hrel;have HN:=ae hn;clear hn;by_cases hlt:k<xs.length
  .have hcell:=HC.o k hlt;have H1:=ae (tp (gQ p) xs k hlt HN.o);have H2:=ae (tu (gQ p) xs k hlt);generalize xs.getD k 0=y at hcell H1 H2;cases hy:gQ p y
   .go_wp2_with (go_at_call 251;refine(zJ p _ _ _ HP.o).mono ?_;rintro e w' ⟨rfl,rfl⟩);go_round;case rel=>exact⟨k+1,by omega,by go_num,H1.o hy⟩
    case measure=>simp[intOf];omega
   .go_wp2_with (go_at_call 251;refine(zJ p _ _ _ HP.o).mono ?_;rintro e w' ⟨rfl,rfl⟩);go_ret;exact⟨(k:Int),rfl,by rw[H2.o hy];simp,rfl⟩
  .go_wp2;go_ret;exact⟨-1,rfl,by have:=HN.o;rw[N5 (by omega)] at this;rw[this];simp,rfl⟩
theorem Fw(f:OR)(a:Option Addr)(cap:Nat)(w:OQ):Calls prog 91 #[.slice a 0 cap,f] w λe w'=>e=.returned (OW (-1))/\w'=w:=by
 go_enter func91,ntmps91;go_wp2;go_loop [8] (λi=>i=OW 0) (λ_=>0);case atStart=>rfl
 case round=>subst hrel;go_wp2;go_ret;exact⟨rfl,rfl⟩
theorem zK(p:Int)(v:OR)(xs:OP)(w:OQ)(hm:xs.length<=400)(hs:Sl w v xs):Calls prog 224 #[OW p,v] w λe w'=>e=.returned (.bool (xs.any (gQ p)))/\LT w w':=by
 have ii:∀{w:OQ}{A:Obj},LT w (w.alloc A):=fun {w A}=>(NM _ _).alloc (NL _) _;obtain⟨a,cap,rfl,h1⟩:=hs;have hcon:∀(W:OQ)(pb:Nat),W.cell? (OV pb 0)=some (OW p)->LT w W->Calls prog 50 #[.slice a xs.length cap,.func (.func 251) #[] #[OS pb]] W λe w'=>e=.returned (.bool (xs.any (gQ p)))/\w'=W:=by
  intro W pb hW hb;by_cases h0:0<xs.length
  .obtain⟨b,off,rfl,hlt,hc⟩:=h1 h0;have HC:OE (eX W b off xs):=λi hi=>by rw[hb.cell (p:=(OV b (off+i))) hlt];exact hc i hi
   have HW:=ae hW;clear hc h1 hb hW;go_enter func50,ntmps50;go_wp2_with (go_at_call 91;refine(Fu p xs _ _ _ _ _ hm HC.o HW.o).mono ?_;rintro e w' ⟨r,rfl,hr,rfl⟩);go_ret;exact⟨by rw[<-hr];rfl,rfl⟩
  .have e:xs=[]:=Oq.1 (by omega);subst e;clear h1 hb hW h0 hm;go_enter func50,ntmps50;go_wp2_with (go_at_call 91;refine(Fw _ _ _ _).mono ?_;rintro e w' ⟨rfl,rfl⟩);go_ret;exact⟨rfl,rfl⟩
 have HCON:=ae hcon;clear hcon h1;go_enter func224,ntmps224;go_wp2_with fail;refine(HCON.o _ _ (by simp) ii).mono ?_;rintro e w' ⟨rfl,rfl⟩;go_wp2;go_ret;exact⟨rfl,ii⟩
def gw(p:Int)(xs:OP):Int:=if bo p=0 then (if xs.any (gQ p) then 3 else 0) else bo p
theorem ai:LT w (w.alloc A):=(NM _ _).alloc (NL _) _
theorem ur(h:bo p=0):2<=p/\p<=101/\lQ p=true:=by
 unfold bo at h;by_cases h1:p<2\/101<p
 .rw[Oe h1] at h;omega
 .rw[Oc h1] at h;by_cases h2:lQ p=true
  .exact⟨by omega,by omega,h2⟩
  .rw[Oc h2] at h;omega
theorem Fx(h:xs.any (gQ p)=false):∀x∈xs,0<=x/\x<p:=by intro x hx;rw[List.any_eq_false] at h;have:=h x hx;simp[gQ] at this;omega
theorem ut(p:Int)(v:OR)(xs:OP)(w:OQ)(hm:xs.length<=400)(hs:Sl w v xs):Calls prog 190 #[OW p,v] w λe w'=>e=.returned (OW (gw p xs))/\LT w w':=by
 have HS:=ae hs;obtain⟨a,cap,rfl,_⟩:=hs;cases hp:(bo p !=0)
 .have hp0:bo p=0:=by simpa using hp
  cases hx:xs.any (gQ p)
  .have e:gw p xs=0:=by unfold gw;rw[Oe hp0,Oc (by simp[hx])]
   rw[e];clear e hp0;go_enter func190,ntmps190;go_wp2_with fail;refine(j9 _ _).mono ?_;rintro e w' ⟨rfl,rfl⟩;go_wp2_with fail;refine(zK p _ xs _ hm HS.o).mono ?_;rintro e w' ⟨rfl,hb⟩;go_wp2;go_ret;exact⟨rfl,hb⟩
  .have e:gw p xs=3:=by unfold gw;rw[Oe hp0,Oe hx]
   rw[e];clear e hp0;go_enter func190,ntmps190;go_wp2_with fail;refine(j9 _ _).mono ?_;rintro e w' ⟨rfl,rfl⟩;go_wp2_with fail;refine(zK p _ xs _ hm HS.o).mono ?_;rintro e w' ⟨rfl,hb⟩;go_wp2;go_ret;exact⟨rfl,hb⟩
 .have e:gw p xs=bo p:=by unfold gw;rw[Oc (by simpa using hp)]
  rw[e];clear e;go_enter func190,ntmps190;go_wp2_with fail;refine(j9 _ _).mono ?_;rintro e w' ⟨rfl,rfl⟩;go_wp2;go_ret;exact⟨rfl,NM _ _⟩
theorem Sl.of1(w:OQ)(a:Int)(T:TypeId):Sl (w.alloc (.cells #[OW a] T)) (OU w.heap.size 1 1) [a]:=by refine⟨_,_,rfl,λ_=>⟨_,_,rfl,by simp,λi hi=>?_⟩⟩;simp at hi;subst hi;simp
def jo(p a:Nat):Nat->Nat
 |0=>1
 |k+1=>jo p a k*a%p
theorem Fy(p a:Nat)(hp:2<=p):∀k,jo p a k<p
 |0=>by simp[jo];omega
 |k+1=>by simp only[jo];exact Nat.mod_lt _ (by omega)
def kr(p a:Nat):Nat:=jo p a (p-2)
def aW(p a:Int):Int:=kr p.toNat a.toNat
def uw(p a:Nat):Bool:=decide (1<=kr p a)&&decide (kr p a<p)&&(a*kr p a%p==1%p)&&(List.range (kr p a)).all λb=>a*b%p !=1%p
theorem Fz:((List.range 102).all λp=>!(decide (2<=p)&&fl p p)||(List.range p).all λa=>decide (a=0)||uw p a)=true:=by decide+kernel
theorem FA{p a:Nat}(h1:2<=p)(h2:p<=101)(h3:fl p p=true)(h4:0<a)(h5:a<p):uw p a=true:=by have h:=Fz;rw[List.all_eq_true] at h;have h6:=h p (by simp;omega);rw[h3,NP h1] at h6;simp only[Bool.and_self,Bool.not_true,Bool.false_or] at h6;rw[List.all_eq_true] at h6;have h7:=h6 a (by simpa using h5);rw[NO (by omega)] at h7;simpa using h7
theorem FB(p a k:Nat):((jo p a (k+1):Nat):Int)=(jo p a k:Int)*(a:Int)%(p:Int):=by simp[jo,Int.natCast_emod,Int.natCast_mul]
theorem FC(p a:Nat)(w:OQ)(hp:2<=p)(hp2:p<=101)(ha:a<p):Calls prog 191 #[OW p,OW a] w λe w'=>e=.returned (OW (kr p a))/\w'=w:=by
 go_enter func191,ntmps191;go_wp2;go_loop [5,8] (λr i=>∃k:Nat,k<=p-2/\i=OW k/\r=OW (jo p a k)) (λ_ i=>p-(intOf i).toNat);case atStart=>exact⟨0,NS _,rfl,rfl⟩
 case round=>
  obtain⟨k,hk,rfl,rfl⟩:=hrel;have hlt:=Fy p a hp k;by_cases hk2:k<p-2
  .have hc:=FB p a k;have hmb:=Fs (a:=(jo p a k:Int)) (b:=(a:Int)) ⟨by omega,by omega,by omega,by omega⟩;obtain⟨hm1,hm2⟩:=hmb;have HC:=ae hc;clear hc;generalize hq:jo p a k=q at*;clear hq;go_wp2;go_round;case rel=>exact⟨k+1,by omega,by go_num,by rw[HC.o]⟩
   case measure=>simp[intOf];omega
  .have e:k=p-2:=by omega
   go_wp2;go_ret;exact⟨cM (by first|rfl|(rw[e];rfl)),rfl⟩
theorem FD(h:gw p [a]=0):bo p=0/\0<=a/\a<p:=by
 unfold gw at h;by_cases h1:bo p=0
 .rw[Oe h1] at h;cases h2:[a].any (gQ p)
  .have ha:=Fx h2 a (by simp);exact⟨h1,ha.1,ha.2⟩
  .rw[Oe h2] at h;omega
 .rw[Oc h1] at h;exact absurd h h1
def jP(p a:Int):Int:=if gw p [a]=0 then (if a=0 then 5 else 0) else gw p [a]
def ks(p a:Int):Int:=if jP p a=0 then aW p a else 0
theorem FE(p a:Int)(w:OQ):Calls prog 152 #[OW p,OW a] w λe w'=>e=.returned (.tuple #[OW (ks p a),OW (jP p a)])/\LT w w':=by
 cases hz:(gw p [a] !=0)
 .have hz0:gw p [a]=0:=by simpa using hz
  obtain⟨h1,ha,ha2⟩:=FD hz0;obtain⟨hp1,hp2,_⟩:=ur h1;have HZ:=ae hz0;cases h0:(a==0)
  .have h0':a≠0:=by simpa using h0
   have e1:jP p a=0:=by unfold jP;rw[Oe hz0,Oc h0']
   have e2:ks p a=aW p a:=by unfold ks;rw[Oe e1]
   rw[e1,e2];obtain⟨pn,rfl⟩:∃n:Nat,p=n:=⟨p.toNat,by omega⟩;obtain⟨an,rfl⟩:∃n:Nat,a=n:=⟨a.toNat,by omega⟩;have e3:aW (pn:Int) (an:Int)=kr pn an:=rfl;rw[e3];clear e1 e2 e3 h1 hz0 hz h0';go_enter func152,ntmps152;go_wp2_with fail;refine(ut pn _ [(an:Int)] _ (by simp) (Sl.of1 _ _ _)).mono ?_;rintro e w1 ⟨rfl,hb1⟩;rw[HZ.o];go_wp2_with fail;refine(FC pn an _ (by omega) (by omega) (by omega)).mono ?_;rintro e w' ⟨rfl,rfl⟩;go_wp2;go_ret2;exact⟨rfl,ai.trans (hb1.mono (by simp))⟩
  .have h0':a=0:=by simpa using h0
   have e1:jP p a=5:=by unfold jP;rw[Oe hz0,Oe h0']
   have e2:ks p a=0:=by unfold ks;rw[Oc (by rw[e1];decide)]
   rw[e1,e2];clear e1 e2 h1 hz0 hz h0';go_enter func152,ntmps152;go_wp2_with fail;refine(ut p _ [a] _ (by simp) (Sl.of1 _ _ _)).mono ?_;rintro e w1 ⟨rfl,hb1⟩;rw[HZ.o];go_wp2;go_ret2;exact⟨rfl,ai.trans (hb1.mono (by simp))⟩
 .have e1:jP p a=gw p [a]:=by unfold jP;rw[Oc (by simpa using hz)]
  have e2:ks p a=0:=by unfold ks;rw[Oc (by rw[e1];simpa using hz)]
  rw[e1,e2];clear e1 e2;go_enter func152,ntmps152;go_wp2_with fail;refine(ut p _ [a] _ (by simp) (Sl.of1 _ _ _)).mono ?_;rintro e w1 ⟨rfl,hb1⟩;go_wp2;go_ret2;exact⟨rfl,ai.trans (hb1.mono (by simp))⟩
def ux(w:OQ)(v:OR)(xss:List (OP)):Prop:=
 ∃a cap,v=.slice a xss.length cap/\(0<xss.length->∃b off,a=some (OV b off)/\b<w.heap.size/\mK w b off xss)
theorem ux.below(h:ux w v xss)(hb:LT w w'):ux w' v xss:=by obtain⟨a,cap,rfl,h⟩:=h;refine⟨a,cap,rfl,λhp=>?_⟩;obtain⟨b,off,rfl,hlt,hc⟩:=h hp;exact⟨b,off,rfl,NQ hlt hb.size,hc.below hlt hb⟩
theorem Tryz.infoInt:(prog.info? 3).map (λi=>(i.zero,i.size,i.bytes))=some (some (OW 0),1,8):=by kernel_rfl
abbrev oY(xs:OP):OO:=xs.map (Value.int .i64)
def kU(w:OQ)(B:Nat)(v:OR)(xs:OP):Prop:=w.ownsRow B 3 1 v xs.length (oY xs)
theorem FF(h:eX w b off xs):∀j u,(oY xs)[j]?=some u->w.cell? (((OV b off):Addr).add j)=some u:=by
 intro j u hj;rw[List.getElem?_map] at hj;cases hx:xs[j]? with
 |none=>rw[hx] at hj;simp at hj
 |some x=>
  rw[hx] at hj;simp at hj;subst hj;have hl:j<xs.length:=by apply Ob;intro hle;rw[N0 hle] at hx;simp at hx
  have:=h j hl;rw[NY,hx] at this;by_cases h0:j=0
  .subst h0;simpa [Addr.add] using this
  .simpa [Addr.add,h0] using this
theorem FG(xs:OP):∀u∈oY xs,u.oneCell'=true:=by intro u hu;simp at hu;obtain⟨x,_,rfl⟩:=hu;rfl
theorem FH(v:OR)(xs:OP)(w:OQ)(hm:xs.length<=400)(hs:Sl w v xs):Calls prog 49 #[v] w λe w'=>∃u,e=.returned u/\kU w' w.heap.size u xs/\LT w w':=by
 obtain⟨a,cap,rfl,h1⟩:=hs;have hnil:=fun(w:OQ)(a:Option Addr)(n c:Nat)=>Lib.run_eql_slice_nil (P:=prog) w 45 3 a n c 0 0 underlying45;obtain⟨i0,hi,hz0,hz1,hz2⟩:=info_parts Tryz.infoInt;cases a with
 |none=>
  have h0:xs=[]:=Oq.1 (by
   apply Nat.eq_zero_of_not_pos;intro h;obtain⟨b,off,hh,_⟩:=h1 h;simp at hh)
  subst h0;clear h1;go_enter func49,ntmps49;go_wp2;go_ret;exact⟨_,rfl,World.ownsRow_nil _ _ _ _,NM _ _⟩
 |some ad=>
  have HN:OE (∀j u,(oY xs)[j]?=some u->(w.alloc (.cells #[] 3)).cell? (ad.add j)=some u):=by
   intro j u hj;by_cases h0:0<xs.length
   .obtain⟨b,off,hh,hlt,hc⟩:=h1 h0;simp at hh;subst hh;refine FF (w:=w.alloc (.cells #[] 3)) (b:=b) (off:=off) ?_ j u hj;intro i hi;rw[ai.cell (p:=(OV b (off+i))) hlt];exact hc i hi
   .have:xs=[]:=Oq.1 (by omega);subst this;simp at hj
  clear h1;go_enter func49,ntmps49;go_wp2_with (at_builtin;refine wpList_append_own _ rfl _ _ 45 rfl w.heap.size 3 i0 (OW 0) 1 8 underlying45 hi hz0 hz1 hz2 rfl (by decide) _ _ _ rfl (World.ownsRow_made w #[] 0 (NL _) (by decide) (by simp)) ad xs.length cap (oY xs) rfl (by simp) HN.o (FG xs) (by unfold maxLen;omega) (by omega) (by simp) ?_);intro v' w1 hown' hgrow _;try simp only[N4,List.nil_append] at hown'
  have hb:LT w w1:=(ai).grown hgrow (by simp) (λk hk=>by simp[Value.ownBlock] at hk;omega);have HO:=ae hown';obtain⟨g,c,hv⟩:∃g c,v'=.slice g xs.length c:=by
   rcases hown'.2 with ⟨h,h'⟩|⟨g,c,ag,h,_⟩
   .exact⟨none,0,by rw[h,h']⟩
   .exact⟨_,c,h⟩
  subst hv;clear hown' hgrow hnil;go_wp2;go_ret;exact⟨_,rfl,HO.o,hb⟩
end Go.Proofs.YtjkalahhpobefaaGreat
