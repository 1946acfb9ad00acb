/- Contracts of the small functions: isNaN, Compare, the closures. -/
import Derived.Test.YteimdcndjjclnaaGreatProg
import Derived.JoinedTies
import Derived.WalkSpells
import Derived.WalkLawsBesides
import Derived.BigQuiet
set_option maxHeartbeats 1000000
namespace Go.Proofs.YteimdcndjjclnaaGreat
set_option linter.all false
open Go.Proofs.Tryz Go.RowKit
def Nw(p:Prop):Prop:=p
theorem Nw.o{p:Prop}(h:Nw p):p:=h
abbrev MF:=@World.ownsRow.frozenAt
abbrev MG:=@World.ownsRow.cellAt
abbrev MH:=@World.ownsRow.lt
abbrev MI:=@Nat.le_refl
abbrev MJ:=@Below.refl
abbrev MK:=@And.intro
abbrev ML:=@decide_eq_false
abbrev MM:=@decide_eq_true
abbrev MN:=@Nat.lt_of_lt_of_le
abbrev MO:=@Nat.le_trans
abbrev MP:=@Nat.zero_le
abbrev MQ:=@bodyPost_ret
abbrev MR:=@results_none
abbrev MS:=@List.getElem_mem
abbrev MT:=@World.ownsRow.stored
abbrev MU:=@World.block_lt_of_cell?
abbrev MV:=@List.getD_eq_getElem?_getD
abbrev MW:=@List.getElem?_eq_getElem
abbrev MX:=@List.getElem?_eq_none
abbrev MY:=@List.mem_append
abbrev MZ:=@List.mem_singleton
abbrev M0:=@List.length_append
abbrev M1:=@Nat.zero_add
abbrev M2:=@List.take_of_length_le
abbrev M3:=@Option.some.injEq
abbrev M4:=@Value.slice.injEq
abbrev M5:=@List.mem_map
abbrev M6:=@List.length_map
abbrev M7:=@Nat.lt_of_not_le
abbrev M8:=@if_neg
abbrev M9:=@if_pos
abbrev Na:=@List.take_succ_eq_append_getElem
abbrev Nb:=@List.mem_cons
abbrev Nc:=@List.length_cons
abbrev Nd:=@List.map_append
abbrev Nf:=@Classical.byContradiction
abbrev Ng:=@List.getElem?_append_left
abbrev Nh:=@List.mem_filter
abbrev Ni:=@Array.getElem?_eq_some_iff
abbrev Nj:=@List.length_take
abbrev Nk:=@List.length_eq_zero_iff
abbrev Nl:=@List.getElem?_append_right
abbrev Nm:=@List.length_filter_le
abbrev Nn:=@List.drop_eq_getElem_cons
abbrev No:=@List.drop_eq_nil_of_le
abbrev Np:=@Or.inl
abbrev Nq:=@Or.inr
abbrev Nr:=@Nat.mul_le_mul_right
abbrev Ns:=@List.mem_of_mem_take
abbrev Nt:=@List.mem_flatMap
abbrev Nu:=@List.mem_iff_getElem
abbrev Nv:=@Nat.lt_of_le_of_lt
theorem ae{p:Prop}(h:p):Nw p:=h
theorem bL{k:IntKind}{a b:Int}(h:a=b):Ending.returned (.int k a)=.returned (.int k b):=by rw[h]
def aQ(a b:Int):Int:=if a<b then-1 else if b<a then 1 else 0
theorem jO(a b:Int)(w:World):Calls prog 80 #[.int .i64 a,.int .i64 b] w λe w'=>e=.returned (.int .i64 (aQ a b))/\w'=w:=by
 unfold aQ;by_cases h1:a<b
 .go_enter func80,ntmps80;go_wp2;go_ret;exact⟨by simp[h1],rfl⟩
 .by_cases h2:b<a
  .go_enter func80,ntmps80;go_wp2;go_ret;exact⟨by simp[h1,h2],rfl⟩
  .go_enter func80,ntmps80;go_wp2;go_ret;exact⟨by simp[h1,h2],rfl⟩
def cI(x:Int):Bool:=decide (x<0\/200<x)
theorem wS(x:Int)(w:World):Calls prog 194 #[.int .i64 x] w λe w'=>e=.returned (.bool (cI x))/\w'=w:=by
 unfold cI;by_cases h:x<0
 .go_enter func194,ntmps194;go_wp2;go_ret;exact⟨by simp[h],rfl⟩
 .go_enter func194,ntmps194;go_wp2;go_ret;exact⟨by simp;omega,rfl⟩
def ef(w:World)(b off:Nat)(xs:List Int):Prop:=∀i,i<xs.length->w.cell? ⟨b,off+i,none⟩=some (.int .i64 (xs.getD i 0))
def aj:List Int->Int
 |[]=>0
 |x::xs=>x+aj xs
theorem wT(xs:List Int)(k:Nat)(h:k<xs.length):aj (xs.take (k+1))=aj (xs.take k)+xs.getD k 0:=by
 induction xs generalizing k with
 |nil=>simp at h
 |cons x xs ih=>
  cases k with
  |zero=>simp[aj]
  |succ k=>simp only[List.take_succ_cons,aj];rw[ih k (by simpa using h)];simp;omega
theorem mY(xs:List Int)(h:∀x∈xs,0<=x/\x<=40000):0<=aj xs/\aj xs<=40000*xs.length:=by
 induction xs with
 |nil=>simp[aj]
 |cons x xs ih=>have h1:=h x (by simp);have h2:=ih (λy hy=>h y (by simp[hy]));simp only[aj,Nc];omega
theorem fh(xs:List Int)(k:Nat)(h:k<xs.length):xs.getD k 0∈xs:=by rw[MV,MW h];simp
theorem jP(xs:List Int)(b off cap:Nat)(w:World)(hxs:∀x∈xs,0<=x/\x<=40000)(hl:xs.length<=3)(hc:ef w b off xs):Calls prog 69 #[.slice (some ⟨b,off,none⟩) xs.length cap] w λe w'=>e=.returned (.int .i64 (aj xs))/\w'=w:=by
 have HC:Nw (ef w b off xs):=hc;clear hc;go_enter func69,ntmps69;go_wp2;go_loop [3,8] (λn i=>∃k:Nat,k<=xs.length/\i=.int .i64 k/\n=.int .i64 (aj (xs.take k))) (λ_ i=>xs.length-(intOf i).toNat);case atStart=>exact⟨0,MP _,rfl,rfl⟩
 case round=>
  obtain⟨k,hk,rfl,rfl⟩:=hrel;have hd:=mY (xs.take k) (λx hx=>hxs x (Ns hx));have hl2:(xs.take k).length<=k:=List.length_take_le _ _;by_cases hlt:k<xs.length
  .have hsn:=wT xs k hlt;have hb:=hxs _ (fh xs k hlt);have hcell:=HC.o k hlt;generalize xs.getD k 0=y at hsn hb hcell;have HS:Nw (aj (xs.take (k+1))=aj (xs.take k)+y):=hsn;clear hsn hxs;go_wp2;go_round;case rel=>exact⟨k+1,by omega,by go_num,by rw[HS.o]⟩
   case measure=>simp[intOf];omega
  .go_wp2;go_ret;exact⟨bL (by rw[M2 (by omega)]),rfl⟩
def Sl(w:World)(v:Value)(xs:List Int):Prop:=
 ∃a cap,v=.slice a xs.length cap/\(0<xs.length->∃b off,a=some ⟨b,off,none⟩/\b<w.heap.size/\ef w b off xs)
theorem Sl.below{w w':World}{v:Value}{xs:List Int}(h:Sl w v xs)(hb:Below w.heap.size w w'):Sl w' v xs:=by obtain⟨a,cap,rfl,h⟩:=h;refine⟨a,cap,rfl,λhp=>?_⟩;obtain⟨b,off,rfl,hlt,hc⟩:=h hp;refine⟨b,off,rfl,MN hlt hb.size,λi hi=>?_⟩;rw[hb.cell (p:=⟨b,off+i,none⟩) hlt];exact hc i hi
theorem oE(f:Int->Bool)(xs:List Int)(k:Nat)(h:k<xs.length)(h0:(xs.take k).any f=false)(h1:f (xs.getD k 0)=false):(xs.take (k+1)).any f=false:=by rw[Na h,List.any_append,h0];rw[MV,MW h] at h1;simpa using h1
theorem oF(f:Int->Bool)(xs:List Int)(k:Nat)(h:k<xs.length)(h1:f (xs.getD k 0)=true):xs.any f=true:=by rw[List.any_eq_true];exact⟨_,fh xs k h,h1⟩
theorem C5(xs:List Int)(b off cap:Nat)(w:World)(hm:xs.length<=3)(hc:ef w b off xs):Calls prog 43 #[.slice (some ⟨b,off,none⟩) xs.length cap,.func (.func 194) #[] #[]] w λe w'=>∃r:Int,e=.returned (.int .i64 r)/\decide (0<=r)=xs.any cI/\w'=w:=by
 have HC:Nw (ef w b off xs):=hc;clear hc;go_enter func43,ntmps43;go_wp2;go_loop [8] (λi=>∃k:Nat,k<=xs.length/\i=.int .i64 k/\(xs.take k).any cI=false) (λi=>xs.length-(intOf i).toNat);case atStart=>exact⟨0,MP _,rfl,by simp⟩
 case round=>
  obtain⟨k,hk,rfl,hn⟩:=hrel;have HN:Nw ((xs.take k).any cI=false):=hn;clear hn;by_cases hlt:k<xs.length
  .have hcell:=HC.o k hlt;have h1:=oE cI xs k hlt HN.o;have h2:=oF cI xs k hlt;have H1:=ae h1;have H2:=ae h2;clear h1 h2;generalize xs.getD k 0=y at hcell H1 H2;cases hy:cI y
   .go_wp2_with (go_at_call 194;refine(wS _ _).mono ?_;rintro e w' ⟨rfl,rfl⟩);go_round;case rel=>exact⟨k+1,by omega,by go_num,H1.o hy⟩
    case measure=>simp[intOf];omega
   .go_wp2_with (go_at_call 194;refine(wS _ _).mono ?_;rintro e w' ⟨rfl,rfl⟩);go_ret;exact⟨(k:Int),rfl,by rw[H2.o hy];simp,rfl⟩
  .go_wp2;go_ret;exact⟨-1,rfl,by have:=HN.o;rw[M2 (by omega)] at this;rw[this];simp,rfl⟩
theorem sL(xs:List Int)(b off cap:Nat)(w:World)(hm:xs.length<=3)(hc:ef w b off xs):Calls prog 21 #[.slice (some ⟨b,off,none⟩) xs.length cap,.func (.func 194) #[] #[]] w λe w'=>e=.returned (.bool (xs.any cI))/\w'=w:=by
 have HC:=ae hc;clear hc;go_enter func21,ntmps21;go_wp2_with (go_at_call 43;refine(C5 xs _ _ _ _ hm HC.o).mono ?_;rintro e w' ⟨r,rfl,hr,rfl⟩);go_ret;exact⟨by rw[<-hr];rfl,rfl⟩
def bW(n:Int)(xs:List Int):Int:=if (xs.length:Int)≠n then 1 else if xs.any cI then 3 else if 200<aj xs then 3 else 0
theorem sM{xs:List Int}(h:xs.any cI=false):∀x∈xs,0<=x/\x<=200:=by intro x hx;rw[List.any_eq_false] at h;have:=h x hx;simp[cI] at this;omega
theorem wU(n:Int)(v:Value)(xs:List Int)(w:World)(hn:1<=n/\n<=3)(hs:Sl w v xs):Calls prog 193 #[.int .i64 n,v] w λe w'=>e=.returned (.int .i64 (bW n xs))/\w'=w:=by
 obtain⟨a,cap,rfl,hs⟩:=hs;obtain⟨hn1,hn2⟩:=hn;by_cases hl:(xs.length:Int)=n
 .subst hl;obtain⟨b,off,rfl,_,hc⟩:=hs (by omega);clear hs;have HC:=ae hc;clear hc;have hm:xs.length<=3:=by omega
  cases hy:xs.any cI
  .have hb:=sM hy;have hb2:=ae (show∀x∈xs,0<=x/\x<=40000 from λx hx=>by have:=hb x hx;omega);clear hb;by_cases hd:200<aj xs
   .have he:bW xs.length xs=3:=by simp[bW,hy,hd]
    rw[he];clear he;go_enter func193,ntmps193;go_wp2_with (first|(go_at_call 21;refine(sL xs _ _ _ _ hm HC.o).mono ?_;rintro e w' ⟨rfl,rfl⟩)|(go_at_call 69;refine(jP xs _ _ _ _ hb2.o hm HC.o).mono ?_;rintro e w' ⟨rfl,rfl⟩));go_ret;exact⟨rfl,rfl⟩
   .have he:bW xs.length xs=0:=by simp[bW,hy,hd]
    rw[he];clear he;go_enter func193,ntmps193;go_wp2_with (first|(go_at_call 21;refine(sL xs _ _ _ _ hm HC.o).mono ?_;rintro e w' ⟨rfl,rfl⟩)|(go_at_call 69;refine(jP xs _ _ _ _ hb2.o hm HC.o).mono ?_;rintro e w' ⟨rfl,rfl⟩));go_ret;exact⟨rfl,rfl⟩
  .have he:bW xs.length xs=3:=by simp[bW,hy]
   rw[he];clear he;go_enter func193,ntmps193;go_wp2_with (go_at_call 21;refine(sL xs _ _ _ _ hm HC.o).mono ?_;rintro e w' ⟨rfl,rfl⟩);go_ret;exact⟨rfl,rfl⟩
 .have he:bW n xs=1:=by simp[bW,hl]
  rw[he];clear he hs;have hl2:((xs.length:Int) !=n)=true:=by simpa using hl
  clear hl;go_enter func193,ntmps193;go_wp2;go_ret;exact⟨rfl,rfl⟩
def dQ(p n:Nat):Bool:=(List.range n).all λd=>d<2||p%d !=0
def ko(p:Int):Bool:=dQ p.toNat p.toNat
def bq(p:Int):Int:=if p<2\/101<p then 3 else if ko p then 0 else 4
theorem wV(p n:Nat):dQ p (n+1)=(dQ p n&&(n<2||p%n !=0)):=by simp[dQ,List.range_succ,List.all_append]
theorem wW{p n m:Nat}(h:dQ p n=false)(hm:n<=m):dQ p m=false:=by
 induction hm with
 |refl=>exact h
 |step _ ih=>rw[wV,ih];rfl
theorem C6:∀p,p<102->∀k,k<12->p<k*k->dQ p k=true->dQ p p=true:=by decide+kernel
theorem wX{p k:Nat}(h2:2<=k)(h:dQ p k=true):dQ p (k+1)=(p%k !=0):=by
 rw[wV,h];have:¬k<2:=by omega
 simp[this]
theorem wY(p k:Nat)(h:0<k):((p:Int)%(k:Int)==0)=!(p%k !=0):=by
 have:((p:Int)%(k:Int))=((p%k:Nat):Int):=by omega
 rw[this];cases hh:p%k with
 |zero=>rfl
 |succ n=>simp;omega
theorem sN{n:Nat}(h1:2<=n)(h2:n<=101)(h:dQ n n=true):bq (n:Int)=0:=by have hp:ko (n:Int)=true:=h;unfold bq;rw[M8 (by omega),M9 hp]
theorem wZ{n:Nat}(h1:2<=n)(h2:n<=101)(h:dQ n n=false):bq (n:Int)=4:=by have hp:ko (n:Int)=false:=h;unfold bq;rw[M8 (by omega),M8 (by simp[hp])]
theorem kq(p:Int)(w:World):Calls prog 92 #[.int .i64 p] w λe w'=>e=.returned (.int .i64 (bq p))/\w'=w:=by
 by_cases h1:p<2
 .have he:bq p=3:=by simp[bq,h1]
  rw[he];clear he;go_enter func92,ntmps92;go_wp2;go_ret;exact⟨rfl,rfl⟩
 by_cases h2:101<p
 .have he:bq p=3:=by simp[bq,h2]
  rw[he];clear he;go_enter func92,ntmps92;go_wp2;go_ret;exact⟨rfl,rfl⟩
 obtain⟨n,rfl⟩:∃n:Nat,p=n:=⟨p.toNat,by omega⟩;have hn1:2<=n:=by omega
 have hn2:n<=101:=by omega
 clear h1 h2;go_enter func92,ntmps92;go_wp2;go_loop [3] (λd=>∃k:Nat,2<=k/\k<=11/\d=.int .i64 k/\dQ n k=true) (λd=>12-(intOf d).toNat);case atStart=>exact⟨2,by omega,by omega,rfl,rfl⟩
 case round=>
  obtain⟨k,hk1,hk2,rfl,hnd⟩:=hrel;have HN:=ae hnd;clear hnd;by_cases hlt:k*k<=n
  .have hk3:k<=10:=by apply Nat.le_of_not_lt;intro h;have:11*11<=k*k:=Nat.mul_le_mul h h;omega
   have hlt2:(k:Int)*k<=n:=by exact_mod_cast hlt
   have hkk:(k:Int)*k<=101:=by omega
   have hk0:(0:Int)<=(k:Int)*k:=by exact_mod_cast MP _
   have hat:=wX (p:=n) hk1 HN.o;have hmc:=wY n k (by omega);cases hz:(n%k !=0)
   .rw[hz] at hat hmc;have HA:=ae hat;clear hat;have hmc2:((n:Int)%(k:Int)==0)=true:=hmc;clear hmc hz;go_wp2;go_ret;exact⟨bL (by
     have hkn:k+1<=n:=by have:2*k<=k*k:=Nr k hk1;omega
     exact(wZ hn1 hn2 (wW HA.o hkn)).symm),rfl⟩
   .rw[hz] at hat hmc;have HA:=ae hat;clear hat;have hmc2:((n:Int)%(k:Int)==0)=false:=hmc;clear hmc hz;go_wp2;go_round;case rel=>exact⟨k+1,by omega,by omega,by go_num,HA.o⟩
    case measure=>simp[intOf];omega
  .have hlt2:¬(k:Int)*k<=n:=by intro h;apply hlt;exact_mod_cast h
   have hk0:(0:Int)<=(k:Int)*k:=by exact_mod_cast MP _
   have hk9:(k:Int)*k<=121:=by
    have:k*k<=11*11:=Nat.mul_le_mul hk2 hk2
    exact_mod_cast this
   go_wp2;go_ret;exact⟨bL (sN hn1 hn2 (C6 n (by omega) k (by omega) (by omega) HN.o)).symm,rfl⟩
def bO(n a b:Int):Bool:=decide (a<=n)&&decide (n<=b)
theorem fN(n a b:Int)(w:World):Calls prog 18 #[.int .i64 n,.int .i64 a,.int .i64 b] w λe w'=>e=.returned (.bool (bO n a b))/\w'=w:=by
 by_cases h:a<=n
 .have he:bO n a b=decide (n<=b):=by simp[bO,h]
  rw[he];clear he;go_enter func18,ntmps18;go_wp2;go_ret;exact⟨rfl,rfl⟩
 .have he:bO n a b=false:=by simp[bO,h]
  rw[he];clear he;go_enter func18,ntmps18;go_wp2;go_ret;exact⟨rfl,rfl⟩
theorem oG(p:Int)(w:World):Calls prog 90 #[.int .i64 p] w λe w'=>e=.returned (.int .i64 (bq p))/\w'=w:=by
 cases hb:bO p 2 101
 .have he:bq p=3:=by simp[bO] at hb;unfold bq;rw[M9 (by omega)]
  rw[he];clear he;go_enter func90,ntmps90;go_wp2_with (go_at_call 18;refine(fN _ _ _ _).mono ?_;rintro e w' ⟨rfl,rfl⟩);go_ret;exact⟨rfl,rfl⟩
 .have hb2:2<=p/\p<=101:=by simpa [bO] using hb
  obtain⟨n,rfl⟩:∃n:Nat,p=n:=⟨p.toNat,by omega⟩;have hn1:2<=n:=by omega
  have hn2:n<=101:=by omega
  clear hb2;go_enter func90,ntmps90;go_wp2_with (go_at_call 18;refine(fN _ _ _ _).mono ?_;rintro e w' ⟨rfl,rfl⟩);go_loop [3] (λd=>∃k:Nat,2<=k/\k<=n/\d=.int .i64 k/\dQ n k=true) (λd=>102-(intOf d).toNat);case atStart=>exact⟨2,by omega,by omega,rfl,rfl⟩
  case round=>
   obtain⟨k,hk1,hk2,rfl,hnd⟩:=hrel;have HN:=ae hnd;clear hnd;by_cases hlt:k<n
   .have hat:=wX (p:=n) hk1 HN.o;have hmc:=wY n k (by omega);cases hz:(n%k !=0)
    .rw[hz] at hat hmc;have HA:=ae hat;clear hat;have hmc2:((n:Int)%(k:Int)==0)=true:=hmc;clear hmc hz;go_wp2;go_ret;exact⟨bL (wZ hn1 hn2 (wW HA.o hlt)).symm,rfl⟩
    .rw[hz] at hat hmc;have HA:=ae hat;clear hat;have hmc2:((n:Int)%(k:Int)==0)=false:=hmc;clear hmc hz;go_wp2;go_round;case rel=>exact⟨k+1,by omega,by omega,by go_num,HA.o⟩
     case measure=>simp[intOf];omega
   .have hkn:k=n:=by omega
    subst hkn;go_wp2;go_ret;exact⟨bL (sN hn1 hn2 HN.o).symm,rfl⟩
def bm(p n o v:Int):Int:=if bq p≠0 then bq p else if n<1\/3<n then 3 else if (o≠1/\o≠2)\/(v≠1/\v≠2) then 6 else 0
abbrev aS(p n o v:Int):Value:=.agg #[.int .i64 p,.int .i64 n,.int .i64 o,.int .i64 v]
theorem xe{p n o v:Int}(h:(bq p !=0)=true):bm p n o v=bq p:=by
 have:bq p≠0:=by simpa using h
 unfold bm;rw[M9 this]
theorem sO{p n o v:Int}(h:(bq p !=0)=false)(hn:n<1\/3<n):bm p n o v=3:=by
 have:¬bq p≠0:=by simpa using h
 unfold bm;rw[M8 this,M9 hn]
theorem qn{p n o v:Int}(h:(bq p !=0)=false)(hn:¬(n<1\/3<n))(hk:(o≠1/\o≠2)\/(v≠1/\v≠2)):bm p n o v=6:=by
 have:¬bq p≠0:=by simpa using h
 unfold bm;rw[M8 this,M8 hn,M9 hk]
theorem xf{p n o v:Int}(h:(bq p !=0)=false)(hn:¬(n<1\/3<n))(hk:¬((o≠1/\o≠2)\/(v≠1/\v≠2))):bm p n o v=0:=by
 have:¬bq p≠0:=by simpa using h
 unfold bm;rw[M8 this,M8 hn,M8 hk]
theorem ju(p n o v:Int)(w:World):Calls prog 63 #[aS p n o v] w λe w'=>e=.returned (.int .i64 (bm p n o v))/\Below w.heap.size w w':=by
 cases hp:(bq p !=0)
 .by_cases hn1:n<1
  .rw[sO hp (Np hn1)];go_enter func63,ntmps63;go_wp2_with (go_at_call 92;refine(kq _ _).mono ?_;rintro e w' ⟨rfl,rfl⟩);go_ret;exact⟨rfl,(MJ _ _).alloc (MI _) _⟩
  by_cases hn3:3<n
  .rw[sO hp (Nq hn3)];go_enter func63,ntmps63;go_wp2_with (go_at_call 92;refine(kq _ _).mono ?_;rintro e w' ⟨rfl,rfl⟩);go_ret;exact⟨rfl,(MJ _ _).alloc (MI _) _⟩
  have hn:¬(n<1\/3<n):=by omega
  by_cases ho:o≠1/\o≠2
  .rw[qn hp hn (Np ho)];obtain⟨ho1,ho2⟩:=ho;have ho1':(o !=1)=true:=by simpa using ho1
   have ho2':(o !=2)=true:=by simpa using ho2
   clear ho1 ho2 hn;go_enter func63,ntmps63;go_wp2_with (go_at_call 92;refine(kq _ _).mono ?_;rintro e w' ⟨rfl,rfl⟩);go_ret;exact⟨rfl,(MJ _ _).alloc (MI _) _⟩
  by_cases hv:v≠1/\v≠2
  .rw[qn hp hn (Nq hv)];obtain⟨hv1,hv2⟩:=hv;have hv1':(v !=1)=true:=by simpa using hv1
   have hv2':(v !=2)=true:=by simpa using hv2
   have ho':o=1\/o=2:=by omega
   clear hv1 hv2 hn ho;rcases ho' with rfl|rfl;all_goals
    go_enter func63,ntmps63;go_wp2_with (go_at_call 92;refine(kq _ _).mono ?_;rintro e w' ⟨rfl,rfl⟩);go_ret;exact⟨rfl,(MJ _ _).alloc (MI _) _⟩
  .rw[xf hp hn (by omega)];have ho':o=1\/o=2:=by omega
   have hv':v=1\/v=2:=by omega
   clear hv hn ho;rcases ho' with rfl|rfl<;>rcases hv' with rfl|rfl;all_goals
    go_enter func63,ntmps63;go_wp2_with (go_at_call 92;refine(kq _ _).mono ?_;rintro e w' ⟨rfl,rfl⟩);go_ret;exact⟨rfl,(MJ _ _).alloc (MI _) _⟩
 .rw[xe hp];go_enter func63,ntmps63;go_wp2_with (go_at_call 92;refine(kq _ _).mono ?_;rintro e w' ⟨rfl,rfl⟩);go_ret;exact⟨rfl,(MJ _ _).alloc (MI _) _⟩
theorem xg(p n o v:Int)(w:World):Calls prog 61 #[aS p n o v] w λe w'=>e=.returned (.int .i64 (bm p n o v))/\Below w.heap.size w w':=by
 have arm:∀x,bO x 1 2=true↔(x=1\/x=2):=λx=>by simp[bO];omega
 cases hp:(bq p !=0)
 .cases hn:bO n 1 3
  .rw[sO hp (by simp[bO] at hn;omega)];clear arm;go_enter func61,ntmps61;go_wp2_with (first|(go_at_call 90;refine(oG _ _).mono ?_;rintro e w' ⟨rfl,rfl⟩)|(go_at_call 18;refine(fN _ _ _ _).mono ?_;rintro e w' ⟨rfl,rfl⟩));go_ret;exact⟨rfl,(MJ _ _).alloc (MI _) _⟩
  have hn':¬(n<1\/3<n):=by simp[bO] at hn;omega
  cases ho:bO o 1 2
  .have:=arm o;rw[qn hp hn' (by rw[ho] at this;simp at this;omega)];clear arm this hn';go_enter func61,ntmps61;go_wp2_with (first|(go_at_call 90;refine(oG _ _).mono ?_;rintro e w' ⟨rfl,rfl⟩)|(go_at_call 18;refine(fN _ _ _ _).mono ?_;rintro e w' ⟨rfl,rfl⟩));go_ret;exact⟨rfl,(MJ _ _).alloc (MI _) _⟩
  cases hv:bO v 1 2
  .have:=arm v;rw[qn hp hn' (by rw[hv] at this;simp at this;omega)];clear arm this hn';go_enter func61,ntmps61;go_wp2_with (first|(go_at_call 90;refine(oG _ _).mono ?_;rintro e w' ⟨rfl,rfl⟩)|(go_at_call 18;refine(fN _ _ _ _).mono ?_;rintro e w' ⟨rfl,rfl⟩));go_ret;exact⟨rfl,(MJ _ _).alloc (MI _) _⟩
  .have h1:=(arm v).1 hv;have h2:=(arm o).1 ho;rw[xf hp hn' (by omega)];clear arm h1 h2 hn';go_enter func61,ntmps61;go_wp2_with (first|(go_at_call 90;refine(oG _ _).mono ?_;rintro e w' ⟨rfl,rfl⟩)|(go_at_call 18;refine(fN _ _ _ _).mono ?_;rintro e w' ⟨rfl,rfl⟩));go_ret;exact⟨rfl,(MJ _ _).alloc (MI _) _⟩
 .rw[xe hp];clear arm;go_enter func61,ntmps61;go_wp2_with (go_at_call 90;refine(oG _ _).mono ?_;rintro e w' ⟨rfl,rfl⟩);go_ret;exact⟨rfl,(MJ _ _).alloc (MI _) _⟩
theorem C7{W w1:World}(hb:Below W.heap.size W w1):(∀b o,b<W.heap.size->w1.cell? ⟨b,o,none⟩=W.cell? ⟨b,o,none⟩)/\(∀b o,b<W.heap.size->w1.frozen? ⟨b,o,none⟩=W.frozen? ⟨b,o,none⟩):=
 ⟨λb o h=>hb.cell (p:=⟨b,o,none⟩) h,λb o h=>hb.frozen (p:=⟨b,o,none⟩) h⟩
def kr(n:Int):List (List Int)->Int
 |[]=>0
 |xs::r=>if bW n xs=0 then kr n r else bW n xs
def lZ(w:World)(b off:Nat)(xss:List (List Int)):Prop:=
 ∀i,i<xss.length->∃v,w.cell? ⟨b,off+i,none⟩=some v/\Sl w v (xss.getD i [])
theorem lZ.below{w w':World}{b off:Nat}{xss:List (List Int)}(h:lZ w b off xss)(hlt:b<w.heap.size)(hb:Below w.heap.size w w'):lZ w' b off xss:=by intro i hi;obtain⟨v,hc,hs⟩:=h i hi;exact⟨v,by rw[hb.cell (p:=⟨b,off+i,none⟩) hlt];exact hc,hs.below hb⟩
theorem C8(n:Int)(xss:List (List Int))(k:Nat)(h:k<xss.length):kr n (xss.drop k)=if bW n (xss.getD k [])=0 then kr n (xss.drop (k+1)) else bW n (xss.getD k []):=by rw[Nn h];simp[kr,MV,h]
def lm(p n o v:Int)(xss:List (List Int)):Int:=if bm p n o v=0 then kr n xss else bm p n o v
theorem jQ{p n o v:Int}(h:bm p n o v=0):bq p=0/\1<=n/\n<=3/\(o=1\/o=2)/\(v=1\/v=2):=by
 unfold bm at h;by_cases h1:bq p=0
 .rw[M8 (by simp[h1])] at h;by_cases h2:n<1\/3<n
  .rw[M9 h2] at h;omega
  .rw[M8 h2] at h;by_cases h3:(o≠1/\o≠2)\/(v≠1/\v≠2)
   .rw[M9 h3] at h;omega
   .exact⟨h1,by omega,by omega,by omega,by omega⟩
 .rw[M9 h1] at h;exact absurd h h1
theorem C9(p n o v:Int)(xss:List (List Int))(b off cap:Nat)(w:World)(hl:xss.length<=2)(hlt:b<w.heap.size)(hs:lZ w b off xss):Calls prog 189 #[aS p n o v,.slice (some ⟨b,off,none⟩) xss.length cap] w λe w'=>e=.returned (.int .i64 (lm p n o v xss))/\Below w.heap.size w w':=by
 have HS:=ae hs;clear hs;cases hp:(bm p n o v !=0)
 .have hp0:bm p n o v=0:=by simpa using hp
  obtain⟨_,hn1,hn2,_⟩:=jQ hp0;have he:lm p n o v xss=kr n xss:=by unfold lm;rw[M9 hp0]
  rw[he];clear he hp0;go_enter func189,ntmps189;go_wp2_with (go_at_call 63;refine(ju _ _ _ _ _).mono ?_;rintro e w1 ⟨rfl,hb1⟩);have hb0:Below w.heap.size w w1:=((MJ _ _).alloc (MI _) _).trans (hb1.mono (by simp));obtain⟨hcl,_⟩:=C7 hb1;have hbox:w1.cell? ⟨w.heap.size,1,none⟩=some (.int .i64 n):=by rw[hcl _ _ (by simp)];simp[go_sem]
  have HS1:=ae (HS.o.below hlt hb0);clear hcl HS;go_loop [16] (λi=>∃k:Nat,k<=xss.length/\i=.int .i64 k/\kr n xss=kr n (xss.drop k)) (λi=>xss.length-(intOf i).toNat);case atStart=>exact⟨0,MP _,rfl,by simp⟩
  case round=>
   obtain⟨k,hk,rfl,hf⟩:=hrel;have HF:=ae hf;clear hf;by_cases hk2:k<xss.length
   .obtain⟨vv,hcell,hsl⟩:=HS1.o k hk2;have HSL:=ae hsl;have HD:=ae (C8 n xss k hk2);clear hsl;generalize xss.getD k []=xs at HSL HD;obtain⟨a,cc,hvv,_⟩:=HSL.o;subst hvv;cases hz:(bW n xs !=0)
    .go_wp2_with (go_at_call 193;refine(wU _ _ xs _ ⟨hn1,hn2⟩ HSL.o).mono ?_;rintro e w' ⟨rfl,rfl⟩);go_round;case rel=>exact⟨k+1,by omega,by go_num,by rw[HF.o,HD.o,M9 (by simpa using hz)]⟩
     case measure=>simp[intOf];omega
    .go_wp2_with (go_at_call 193;refine(wU _ _ xs _ ⟨hn1,hn2⟩ HSL.o).mono ?_;rintro e w' ⟨rfl,rfl⟩);go_ret;exact⟨bL (by rw[HF.o,HD.o,M8 (by simpa using hz)]),hb0⟩
   .go_wp2;go_ret;exact⟨bL (by rw[HF.o,No (by omega)];rfl),hb0⟩
 .have he:lm p n o v xss=bm p n o v:=by unfold lm;rw[M8 (by simpa using hp)]
  rw[he];clear he;go_enter func189,ntmps189;go_wp2_with (go_at_call 63;refine(ju _ _ _ _ _).mono ?_;rintro e w1 ⟨rfl,hb1⟩);go_ret;exact⟨rfl,((MJ _ _).alloc (MI _) _).trans (hb1.mono (by simp))⟩
def cY:List Int->List Int->Int
 |x::xs,y::ys=>if aQ x y=0 then cY xs ys else aQ x y
 |_,_=>0
def kt(xs ys:List Int):Int:=cY ys.reverse xs.reverse
theorem xh(xs ys:List Int)(k:Nat)(h:k<xs.length)(h2:k<ys.length):cY (xs.drop k) (ys.drop k)=if aQ (xs.getD k 0) (ys.getD k 0)=0 then cY (xs.drop (k+1)) (ys.drop (k+1)) else aQ (xs.getD k 0) (ys.getD k 0):=by rw[Nn h,Nn h2];simp[cY,MV,h,h2]
theorem xi(xs:List Int)(k:Nat)(h:k<xs.length):(xs.take (k+1)).reverse=xs.getD k 0::(xs.take k).reverse:=by rw[Na h,List.reverse_append];simp[MV,h]
theorem xj(xs ys:List Int)(k:Nat)(h:k<xs.length)(h2:k<ys.length):cY (ys.take (k+1)).reverse (xs.take (k+1)).reverse=if aQ (ys.getD k 0) (xs.getD k 0)=0 then cY (ys.take k).reverse (xs.take k).reverse else aQ (ys.getD k 0) (xs.getD k 0):=by rw[xi xs k h,xi ys k h2];simp[cY]
theorem Da(xs ys:List Int)(b off cap b2 off2 cap2:Nat)(w:World)(hm:xs.length<=3)(hxy:xs.length=ys.length)(hc:ef w b off xs)(hc2:ef w b2 off2 ys):Calls prog 180 #[.slice (some ⟨b,off,none⟩) xs.length cap,.slice (some ⟨b2,off2,none⟩) ys.length cap2] w λe w'=>e=.returned (.int .i64 (cY xs ys))/\w'=w:=by
 have HC:=ae hc;have HC2:=ae hc2;clear hc hc2;rw[<-hxy];have HXY:=ae hxy;clear hxy;go_enter func180,ntmps180;go_wp2;go_loop [11] (λi=>∃k:Nat,k<=xs.length/\i=.int .i64 k/\cY xs ys=cY (xs.drop k) (ys.drop k)) (λi=>xs.length-(intOf i).toNat);case atStart=>exact⟨0,MP _,rfl,by simp⟩
 case round=>
  obtain⟨k,hk,rfl,hn⟩:=hrel;have HN:=ae hn;clear hn;by_cases hlt:k<xs.length
  .have hcell:=HC.o k hlt;have hcell2:=HC2.o k (by rw[<-HXY.o];exact hlt);have HD:=ae (xh xs ys k hlt (by rw[<-HXY.o];exact hlt));generalize xs.getD k 0=x at hcell HD;generalize ys.getD k 0=y at hcell2 HD;cases hy:(aQ x y !=0)
   .go_wp2_with (go_at_call 80;refine(jO _ _ _).mono ?_;rintro e w' ⟨rfl,rfl⟩);go_round;case rel=>exact⟨k+1,by omega,by go_num,by rw[HN.o,HD.o,M9 (by simpa using hy)]⟩
    case measure=>simp[intOf];omega
   .go_wp2_with (go_at_call 80;refine(jO _ _ _).mono ?_;rintro e w' ⟨rfl,rfl⟩);go_ret;exact⟨bL (by rw[HN.o,HD.o,M8 (by simpa using hy)]),rfl⟩
  .go_wp2;go_ret;exact⟨bL (by rw[HN.o,No (by omega)];rfl),rfl⟩
theorem Db(xs ys:List Int)(b off cap b2 off2 cap2:Nat)(w:World)(hm:xs.length<=3)(hxy:xs.length=ys.length)(hc:ef w b off xs)(hc2:ef w b2 off2 ys):Calls prog 179 #[.slice (some ⟨b,off,none⟩) xs.length cap,.slice (some ⟨b2,off2,none⟩) ys.length cap2] w λe w'=>e=.returned (.int .i64 (kt xs ys))/\∃n,w'=w.drewN n:=by
 have HC:=ae hc;have HC2:=ae hc2;clear hc hc2;rw[<-hxy];have HXY:=ae hxy;clear hxy;go_enter func179,ntmps179;go_wp2;go_loopw [5] (λi wr=>∃k n:Nat,k<=xs.length/\i=.int .i64 ((k:Int)-1)/\kt xs ys=cY (ys.take k).reverse (xs.take k).reverse/\wr=w.drewN n) (λi _=>(intOf i+1).toNat);case atStart=>exact⟨xs.length,0,MI _,rfl,by rw[M2 (by have:=HXY.o;omega),M2 (by omega)];rfl,rfl⟩
 case round=>
  obtain⟨k,n0,hk,rfl,hn,hw0⟩:=hrel;have HN:=ae hn;have HW:=ae hw0;clear hn hw0;cases k with
  |succ k=>
   have hlt:k<xs.length:=by omega
   have hcell:=HC.o k hlt;have hcell2:=HC2.o k (by rw[<-HXY.o];exact hlt);have e1:∀a,wr.cell? a=w.cell? a:=λa=>by rw[HW.o];rfl
   rw[<-e1] at hcell hcell2;clear e1;have HD:=ae (xj xs ys k hlt (by rw[<-HXY.o];exact hlt));have ek:(((k+1:Nat):Int)-1)=(k:Int):=by omega
   rw[ek];clear ek;generalize xs.getD k 0=x at hcell HD;generalize ys.getD k 0=y at hcell2 HD;cases hy:(aQ y x !=0)
   .go_wp2;go_quiet ((go_at_call 80;exact Calls.quiet_of_same (jO _ _ _)));go_wp2;go_roundw;case rel=>exact⟨k,_,by omega,rfl,by rw[HN.o,HD.o,M9 (by simpa using hy)],by rw[HW.o,World.drewN_drewN]⟩
    case measure=>simp[intOf]
   .go_wp2;go_quiet ((go_at_call 80;exact Calls.quiet_of_same (jO _ _ _)));go_wp2;go_ret;exact⟨bL (by rw[HN.o,HD.o,M8 (by simpa using hy)]),_,by rw[HW.o,World.drewN_drewN]⟩
  |zero=>go_wp2;go_ret;exact⟨bL (by rw[HN.o];rfl),n0,HW.o⟩
theorem jR{n:Int}{xs:List Int}(h:bW n xs=0):(xs.length:Int)=n/\(∀x∈xs,0<=x/\x<=200)/\aj xs<=200:=by
 unfold bW at h;by_cases h1:(xs.length:Int)=n
 .rw[M8 (by simp[h1])] at h;cases h2:xs.any cI
  .rw[M8 (by simp[h2])] at h;by_cases h3:200<aj xs
   .rw[M9 h3] at h;omega
   .exact⟨h1,sM h2,by omega⟩
  .rw[M9 h2] at h;omega
 .rw[M9 h1] at h;omega
theorem Sl.sls1{w:World}{v:Value}{xs:List Int}{b:Nat}(h:Sl w v xs)(hc:w.cell? ⟨b,0,none⟩=some v):lZ w b 0 [xs]:=by intro i hi;simp at hi;subst hi;exact⟨v,hc,h⟩
theorem Dc(p n o v:Int)(x:Value)(xs:List Int)(w:World)(hs:Sl w x xs):Calls prog 178 #[aS p n o v,x] w λe w'=>e=.returned (.int .i64 (lm p n o v [xs]))/\Below w.heap.size w w':=by
 have HS:=ae hs;obtain⟨a,cap,rfl,_⟩:=hs;go_enter func178,ntmps178;go_wp2_with fail;have hb:∀A B,Below w.heap.size w ((w.alloc A).alloc B):=λA B=>((MJ _ _).alloc (MI _) _).alloc (by simp) _;refine(C9 p n o v [xs] _ _ _ _ (by simp) (by simp) ?_).mono ?_
 .exact(HS.o.below (hb _ _)).sls1 (by simp[go_sem])
 .rintro e w1 ⟨rfl,hb1⟩;go_wp2;go_ret;exact⟨rfl,(hb _ _).trans (hb1.mono (by simp;omega))⟩
def aX(o:Int)(xs ys:List Int):Int:=
 if aQ (aj xs) (aj ys)=0 then (if o=1 then kt xs ys else cY xs ys) else aQ (aj xs) (aj ys)
theorem gH{w:World}{A B:Obj}:Below w.heap.size w ((w.alloc A).alloc B):=((MJ _ _).alloc (MI _) _).alloc (by simp) _
theorem qo{w W:World}{B:Nat}(h:Below B w W){w':World}(hd:∃n,w'=W.drewN n):Below B w w':=by obtain⟨n,rfl⟩:=hd;exact below_drewN h n
theorem Dd{o:Int}{xs ys:List Int}(h:(aQ (aj xs) (aj ys) !=0)=true):aX o xs ys=aQ (aj xs) (aj ys):=by unfold aX;rw[M8 (by simpa using h)]
theorem Df{xs ys:List Int}(h:(aQ (aj xs) (aj ys) !=0)=false):aX 1 xs ys=kt xs ys:=by unfold aX;rw[M9 (by simpa using h),M9 rfl]
theorem Dg{xs ys:List Int}(h:(aQ (aj xs) (aj ys) !=0)=false):aX 2 xs ys=cY xs ys:=by unfold aX;rw[M9 (by simpa using h),M8 (by omega)]
theorem bA{w:World}{A:Obj}:Below w.heap.size w (w.alloc A):=(MJ _ _).alloc (MI _) _
theorem xk(p n o v:Int)(x y:Value)(xs ys:List Int)(w:World)(ho:o=1\/o=2)(h0:0<xs.length)(hm:xs.length<=3)(hxy:xs.length=ys.length)(hbx:∀x∈xs,0<=x/\x<=40000)(hby:∀x∈ys,0<=x/\x<=40000)(hs:Sl w x xs)(hs2:Sl w y ys):Calls prog 164 #[aS p n o v,x,y] w λe w'=>e=.returned (.int .i64 (aX o xs ys))/\Below w.heap.size w w':=by
 have HXY:=ae hxy;have HBX:=ae hbx;have HBY:=ae hby;have hmy:ys.length<=3:=by omega
 obtain⟨a,cap,rfl,h1⟩:=hs;obtain⟨a2,cap2,rfl,h2⟩:=hs2;obtain⟨b,off,rfl,hlt,hc⟩:=h1 h0;obtain⟨b2,off2,rfl,hlt2,hc2⟩:=h2 (by omega);have HC:=ae hc;have HC2:=ae hc2;clear hxy hbx hby h1 h2 hc hc2;have key:∀w1:World,Below w.heap.size w w1->ef w1 b off xs/\ef w1 b2 off2 ys:=λw1 hb=>⟨λi hi=>by rw[hb.cell (p:=⟨b,off+i,none⟩) hlt];exact HC.o i hi,λi hi=>by rw[hb.cell (p:=⟨b2,off2+i,none⟩) hlt2];exact HC2.o i hi⟩
 have KEY:=ae key;clear key;cases hd:(aQ (aj xs) (aj ys) !=0)
 .rcases ho with rfl|rfl
  .rw[Df hd];go_enter func164,ntmps164;go_wp2_with fail;refine(jP xs _ _ _ _ HBX.o hm (KEY.o _ bA).1).mono ?_;rintro e w' ⟨rfl,rfl⟩;go_wp2_with fail;refine(jP ys _ _ _ _ HBY.o hmy (KEY.o _ bA).2).mono ?_;rintro e w' ⟨rfl,rfl⟩;go_wp2_with fail;refine(jO _ _ _).mono ?_;rintro e w' ⟨rfl,rfl⟩;go_wp2_with fail;refine(Db xs ys _ _ _ _ _ _ _ hm HXY.o (KEY.o _ bA).1 (KEY.o _ bA).2).mono ?_;rintro e w1 ⟨rfl,hd2⟩;go_wp2;go_ret;exact⟨rfl,qo bA hd2⟩
  .rw[Dg hd];go_enter func164,ntmps164;go_wp2_with fail;refine(jP xs _ _ _ _ HBX.o hm (KEY.o _ bA).1).mono ?_;rintro e w' ⟨rfl,rfl⟩;go_wp2_with fail;refine(jP ys _ _ _ _ HBY.o hmy (KEY.o _ bA).2).mono ?_;rintro e w' ⟨rfl,rfl⟩;go_wp2_with fail;refine(jO _ _ _).mono ?_;rintro e w' ⟨rfl,rfl⟩;go_wp2_with fail;refine(Da xs ys _ _ _ _ _ _ _ hm HXY.o (KEY.o _ bA).1 (KEY.o _ bA).2).mono ?_;rintro e w' ⟨rfl,rfl⟩;go_wp2;go_ret;exact⟨rfl,bA⟩
 .rw[Dd hd];go_enter func164,ntmps164;go_wp2_with fail;refine(jP xs _ _ _ _ HBX.o hm (KEY.o _ bA).1).mono ?_;rintro e w' ⟨rfl,rfl⟩;go_wp2_with fail;refine(jP ys _ _ _ _ HBY.o hmy (KEY.o _ bA).2).mono ?_;rintro e w' ⟨rfl,rfl⟩;go_wp2_with fail;refine(jO _ _ _).mono ?_;rintro e w' ⟨rfl,rfl⟩;go_wp2;go_ret;exact⟨rfl,bA⟩
end Go.Proofs.YteimdcndjjclnaaGreat
namespace Go.Proofs.YteimdcndjjclnaaGreat.Cn
open Go.Proofs.Tryz
set_option linter.unusedSimpArgs false
set_option linter.unusedVariables false
abbrev bX:=Nat->Nat
def deg(m:bX):Nat:=m 0+m 1+m 2
def fO:bX:=λ_=>0
def up(x:Nat)(m:bX):bX:=λi=>if i=x then m i+1 else m i
def dn(x:Nat)(m:bX):bX:=λi=>if i=x then m i-1 else m i
def Le(a b:bX):Prop:=∀i,a i<=b i
def cZ(m:bX)(U:List Nat):Prop:=∀i,i∉U->m i=0
def lp(B:bX->Prop):Prop:=∀a b,Le a b->B b->B a
theorem sS{x:Nat}(hx:x<3)(m:bX):deg (up x m)=deg m+1:=by rcases (show x=0\/x=1\/x=2 by omega) with rfl|rfl|rfl<;>simp[deg,up]<;>omega
theorem l6{x:Nat}{m:bX}(h:0<m x):up x (dn x m)=m:=by funext i;simp only[up,dn];split<;>(try subst_vars)<;>omega
theorem xq(x:Nat)(m:bX):dn x (up x m)=m:=by funext i;simp only[up,dn];split<;>omega
theorem xr{x:Nat}(hx:x<3){m:bX}(h:0<m x):deg m=deg (dn x m)+1:=by rw[<-sS hx,l6 h]
theorem Dk{x:Nat}{a b:bX}(h:up x a=up x b):a=b:=by rw[<-xq x a,h,xq]
theorem xt(x:Nat)(m:bX):Le m (up x m):=λi=>by simp only[up];split<;>omega
theorem sT(x:Nat)(m:bX):Le (dn x m) m:=λi=>by simp only[dn];split<;>omega
theorem Dl(x:Nat)(m:bX):0<up x m x:=by simp[up]
theorem Do{x:Nat}{m:bX}{U:List Nat}(hx:x∈U)(h:cZ m U):cZ (up x m) U:=λi hi=>by have:i≠x:=λe=>hi (e ▸ hx);simp[up,this,h i hi]
theorem oK{a b:bX}{U:List Nat}(h:Le a b)(hb:cZ b U):cZ a U:=λi hi=>by have:=h i;have:=hb i hi;omega
def HF(B:bX->Prop)(t k:Nat):Prop:=∃l:List bX,l.Nodup/\(∀m,m∈l↔B m/\deg m=t)/\l.length=k
theorem HF.congr{B C:bX->Prop}{t k:Nat}(h:HF B t k)(e:∀m,B m↔C m):HF C t k:=by obtain⟨l,h1,h2,h3⟩:=h;exact⟨l,h1,λm=>by rw[h2,e],h3⟩
theorem HF.split{B:bX->Prop}{x t a b:Nat}(hx:x<3)(h0:HF (λm=>B m/\m x=0) (t+1) a)(h1:HF (λm=>B (up x m)) t b):HF B (t+1) (a+b):=by
 obtain⟨l,p1,p2,p3⟩:=h0;obtain⟨k,q1,q2,q3⟩:=h1;refine⟨l++k.map (up x),?_,λm=>?_,by simp[p3,q3]⟩
 .rw[List.nodup_append];refine⟨p1,?_,λu hu v hv e=>?_⟩
  .exact List.Pairwise.map _ (λu v h e=>h (Dk e)) q1
  .obtain⟨w,_,rfl⟩:=M5.1 hv;have h:=(p2 u).1 hu;have:=Dl x w;have h2:=h.1.2;rw[e] at h2;omega
 .rw[MY,p2,M5];constructor
  .rintro (⟨⟨h1,_⟩,h2⟩|⟨w,hw,rfl⟩)
   .exact⟨h1,h2⟩
   .have h:=(q2 w).1 hw;exact⟨h.1,by rw[sS hx,h.2]⟩
  .rintro ⟨h1,h2⟩;by_cases hz:m x=0
   .exact Np ⟨⟨h1,hz⟩,h2⟩
   .refine Nq ⟨dn x m,(q2 _).2 ⟨?_,?_⟩,l6 (by omega)⟩
    .show B (up x (dn x m));rw[l6 (by omega)];exact h1
    .have:=xr hx (m:=m) (by omega);omega
theorem HF.zero{B:bX->Prop}(h:B fO)(hs:∀m,B m->cZ m [0,1,2]):HF B 0 1:=by
 refine⟨[fO],by simp,λm=>?_,rfl⟩;rw[MZ];constructor
 .rintro rfl;exact⟨h,rfl⟩
 .rintro ⟨h1,h2⟩;funext i;have h3:=hs m h1 i;unfold deg at h2;by_cases hi:i=0\/i=1\/i=2
  .rcases hi with rfl|rfl|rfl<;>(show _=0)<;>omega
  .exact h3 (by simp;omega)
theorem HF.none{B:bX->Prop}{t:Nat}(h:∀m,¬B m):HF B t 0:=⟨[],by simp,λm=>by simp[h m],rfl⟩
theorem HF.uniq{B:bX->Prop}{t a b:Nat}(h:HF B t a)(k:HF B t b):a=b:=by
 obtain⟨l,p1,p2,p3⟩:=h;obtain⟨m,q1,q2,q3⟩:=k;have:l.Perm m:=(List.perm_ext_iff_of_nodup p1 q1).2 λx=>by rw[p2,q2]
 rw[<-p3,<-q3,this.length_eq]
def xu(f:Nat->Nat):Nat->Nat
 |0=>f 0
 |s+1=>xu f s+f (s+1)
def nm:Nat->Nat->Nat
 |0=>λs=>if s=0 then 1 else 0
 |j+1=>xu (nm j)
def fZ(q:Nat×Nat)(t:Nat):Nat:=if q.1<=t then nm q.2 (t-q.1) else 0
def bJ(Q:List (Nat×Nat))(t:Nat):Nat:=(Q.map λq=>fZ q t).sum
theorem qq:∀j,nm j 0=1
 |0=>rfl
 |j+1=>qq j
theorem oL(j s:Nat):nm (j+1) (s+1)=nm (j+1) s+nm j (s+1):=rfl
def sh(q:Nat×Nat):Nat×Nat:=(q.1+1,q.2)
theorem Dp(q:Nat×Nat)(t:Nat):fZ (sh q) (t+1)=fZ q t:=by
 show (if q.1+1<=t+1 then nm q.2 (t+1-(q.1+1)) else 0)=if q.1<=t then nm q.2 (t-q.1) else 0
 by_cases h:q.1<=t
 .rw[M9 h,M9 (Nat.succ_le_succ h),Nat.add_sub_add_right]
 .rw[M8 h,M8 (by omega)]
theorem Dq(Q:List (Nat×Nat))(t:Nat):bJ (Q.map sh) (t+1)=bJ Q t:=by unfold bJ;rw[List.map_map];congr 1;exact List.map_congr_left λq _=>Dp q t
theorem Dr(Q:List (Nat×Nat)):bJ (Q.map sh) 0=0:=by
 unfold bJ;induction Q with
 |nil=>rfl
 |cons q Q ih=>simp only[List.map_cons,List.sum_cons];rw[ih];simp[fZ,sh]
theorem l7(P Q:List (Nat×Nat))(t:Nat):bJ (P++Q) t=bJ P t+bJ Q t:=by unfold bJ;rw[Nd,List.sum_append]
theorem HF.all:∀(U:List Nat),U.Nodup->(∀x∈U,x<3)->∀t,HF (λm=>cZ m U) t (nm U.length t)
 |[],_,_,t=>by
  cases t with
  |zero=>exact HF.zero (B:=λm=>cZ m []) (λ_ _=>rfl) (λm h i _=>h i (by simp))
  |succ t=>refine⟨[],by simp,λm=>?_,rfl⟩;simp only[List.not_mem_nil,false_iff];rintro ⟨h1,h2⟩;have:=h1 0 (by simp);have:=h1 1 (by simp);have:=h1 2 (by simp);unfold deg at h2;omega
 |x::U,hn,hx,t=>by
  induction t with
  |zero=>rw[qq];refine HF.zero (B:=λm=>cZ m (x::U)) (λ_ _=>rfl) (λm h i hi=>h i ?_);intro hc;have:=hx i hc;simp at hi;omega
  |succ t ih=>
   have hx3:=hx x (by simp);have hnd:=List.nodup_cons.1 hn;have h0:=HF.all U hnd.2 (λy hy=>hx y (by simp[hy])) (t+1);rw[Nc,oL,Nat.add_comm (nm (U.length+1) t)];refine HF.split hx3 (h0.congr λm=>?_) (ih.congr λm=>?_)
   .constructor
    .intro h;exact⟨λi hi=>h i (by simp at hi;exact hi.2),h x hnd.1⟩
    .rintro ⟨h,hz⟩ i hi;by_cases e:i=x
     .rw[e];exact hz
     .exact h i (by simp[e,hi])
   .constructor
    .exact λh=>Do (by simp) h
    .exact λh=>oK (xt x m) h
theorem sU(f:Nat->Nat):∃g:Nat->Nat,(∀i,g i<g (i+1))/\∀i,f (g i)<=f (g (i+1)):=by
 have least:∀n,∃k,n<=k/\∀j,n<=j->f k<=f j:=λn=>by
  have:∀b,∀k,n<=k->f k<=b->∃k,n<=k/\∀j,n<=j->f k<=f j:=by
   intro b;induction b with
   |zero=>exact λk hk hb=>⟨k,hk,λj _=>by omega⟩
   |succ b ih=>
    intro k hk hb;by_cases h:∃j,n<=j/\f j<=b
    .obtain⟨j,h1,h2⟩:=h;exact ih j h1 h2
    .exact⟨k,hk,λj hj=>Nat.le_of_not_lt λhlt=>h ⟨j,hj,by omega⟩⟩
  exact this (f n) n (MI _) (MI _)
 let c:Nat->Nat:=λn=>(least n).choose;have c1:∀n,n<=c n:=λn=>(least n).choose_spec.1;have c2:∀n j,n<=j->f (c n)<=f j:=λn=>(least n).choose_spec.2;let g:Nat->Nat:=λi=>Nat.rec (c 0) (λ_ r=>c (r+1)) i;have gs:∀i,g (i+1)=c (g i+1):=λ_=>rfl;have g0:g 0=c 0:=rfl;refine⟨g,λi=>by rw[gs];exact c1 _,λi=>?_⟩;have hle:∀i,g i<=g (i+1):=λi=>by rw[gs];exact MO (Nat.le_succ _) (c1 _)
 have hge:∀i,g i+1<=g (i+1):=λi=>by rw[gs];exact c1 _
 cases i with
 |zero=>rw[g0];exact c2 0 _ (MP _)
 |succ i=>have h:=c2 (g i+1) (g (i+1+1)) (MO (hge i) (hle (i+1)));rw[<-gs i] at h;exact h
theorem Ds(u:Nat->bX)(hu:∀k,cZ (u k) [0,1,2]):∃i j,i<j/\Le (u i) (u j):=by
 have lt_of:∀{g:Nat->Nat},(∀i,g i<g (i+1))->∀i j,i<j->g i<g j:=fun {g} hg i j hij=>by
  induction j with
  |zero=>omega
  |succ j ih=>
   by_cases h:i=j
   .rw[h];exact hg j
   .exact Nat.lt_trans (ih (by omega)) (hg j)
 have le_of:∀{f g:Nat->Nat},(∀i,f (g i)<=f (g (i+1)))->∀i j,i<=j->f (g i)<=f (g j):=fun {f g} hg i j hij=>by
  induction j with
  |zero=>
   have:i=0:=by omega
   rw[this];exact MI _
  |succ j ih=>
   by_cases h:i=j+1
   .rw[h];exact MI _
   .exact MO (ih (by omega)) (hg j)
 obtain⟨g,g1,g2⟩:=sU λk=>u k 0;obtain⟨h,h1,h2⟩:=sU λk=>u (g k) 1;obtain⟨e,e1,e2⟩:=sU λk=>u (g (h k)) 2;have e01:=e1 0;have a1:=lt_of h1 _ _ e01;refine⟨g (h (e 0)),g (h (e 1)),lt_of g1 _ _ a1,λi=>?_⟩;by_cases hi:i=0\/i=1\/i=2
 .rcases hi with rfl|rfl|rfl
  .exact le_of (f:=λk=>u k 0) g2 _ _ (Nat.le_of_lt a1)
  .exact le_of (f:=λk=>u (g k) 1) h2 _ _ (Nat.le_of_lt e01)
  .exact e2 0
 .rw[hu _ i (by simp;omega)];exact MP _
theorem Dt:WellFounded fun(A B:{B:bX->Prop//lp B/\∀m,B m->cZ m [0,1,2]})=>(∀m,A.1 m->B.1 m)/\∃m,B.1 m/\¬A.1 m:=by
 apply Nf;intro hn;have hex:∃B,¬Acc (fun(A B:{B:bX->Prop//lp B/\∀m,B m->cZ m [0,1,2]})=>(∀m,A.1 m->B.1 m)/\∃m,B.1 m/\¬A.1 m) B:=
  Nf λh=>hn ⟨λB=>Nf λhb=>h ⟨B,hb⟩⟩
 obtain⟨B0,hB0⟩:=hex;have next:∀B,¬Acc (fun(A B:{B:bX->Prop//lp B/\∀m,B m->cZ m [0,1,2]})=>(∀m,A.1 m->B.1 m)/\∃m,B.1 m/\¬A.1 m) B->∃A,((∀m,A.1 m->B.1 m)/\∃m,B.1 m/\¬A.1 m)/\¬Acc (fun(A B:{B:bX->Prop//lp B/\∀m,B m->cZ m [0,1,2]})=>(∀m,A.1 m->B.1 m)/\∃m,B.1 m/\¬A.1 m) A:=λB hB=>Nf λh=>hB ⟨_,λA hA=>Nf λhc=>h ⟨A,hA,hc⟩⟩
 let S:Nat->{B//¬Acc (fun(A B:{B:bX->Prop//lp B/\∀m,B m->cZ m [0,1,2]})=>(∀m,A.1 m->B.1 m)/\∃m,B.1 m/\¬A.1 m) B}:=λi=>Nat.rec ⟨B0,hB0⟩ (λ_ r=>⟨(next r.1 r.2).choose,(next r.1 r.2).choose_spec.2⟩) i
 have hS:∀i,(∀m,(S (i+1)).1.1 m->(S i).1.1 m)/\∃m,(S i).1.1 m/\¬(S (i+1)).1.1 m:=λi=>(next (S i).1 (S i).2).choose_spec.1;have anti:∀i j,i<=j->∀m,(S j).1.1 m->(S i).1.1 m:=λi j hij=>by
  induction j with
  |zero=>
   have:i=0:=by omega
   rw[this];exact λm h=>h
  |succ j ih=>
   by_cases h:i=j+1
   .rw[h];exact λm h=>h
   .exact λm hm=>ih (by omega) m ((hS j).1 m hm)
 let u:Nat->bX:=λi=>(hS i).2.choose;have u1:∀i,(S i).1.1 (u i):=λi=>(hS i).2.choose_spec.1;have u2:∀i,¬(S (i+1)).1.1 (u i):=λi=>(hS i).2.choose_spec.2;obtain⟨i,j,hij,hle⟩:=Ds u λk=>(S k).1.2.2 _ (u1 k);exact u2 i ((S (i+1)).1.2.1 _ _ hle (anti (i+1) j hij _ (u1 j)))
theorem m5:∀(U Z:List Nat),U.Nodup->(∀x∈U,x∈Z)->U.length<=Z.length
 |[],_,_,_=>MP _
 |x::U,Z,hn,hs=>by have hx:=hs x (by simp);have hnd:=List.nodup_cons.1 hn;have h:=m5 U (Z.erase x) hnd.2 λy hy=>(List.mem_erase_of_ne (λe:y=x=>hnd.1 (e ▸ hy))).2 (hs y (by simp[hy]));have hl:=List.length_erase_of_mem hx;have hp:=List.length_pos_of_mem hx;simp only[Nc];omega
def Dm(B:bX->Prop)(U:List Nat)(d:Nat):Prop:=∃Z:List Nat,Z.Nodup/\(∀x∈Z,x∈U)/\Z.length=d/\∀m,cZ m Z->B m
structure sV(U:List Nat)(B:bX->Prop)(Q:List (Nat×Nat))(d:Nat):Prop where
 hf:∀t,HF B t (bJ Q t)
 le:∀q∈Q,q.2<=d
 top:(0,d)∈Q
 dm:Dm B U d
 mx:∀d',Dm B U d'->d'<=d
 std:∀q∈Q,∀e,e<=q.1->∃q'∈Q,q'.1=e/\q.2<=q'.2
 gen:∀g,cZ g U->¬B g->(∀i,0<g i->B (dn i g))->∃q∈Q,deg g<=q.1+1
theorem Du(m:bX):Le fO m:=λ_=>MP _
theorem Dw{B:bX->Prop}{U:List Nat}(h:B fO):∃d,Dm B U d/\∀d',Dm B U d'->d'<=d:=by
 have h0:Dm B U 0:=⟨[],List.Pairwise.nil,λx hx=>by simp at hx,rfl,λm hm=>by
  have:m=fO:=by funext i;exact hm i (by simp)
  rw[this];exact h⟩
 have hb:∀d,Dm B U d->d<=U.length:=λd ⟨Z,h1,h2,h3,_⟩=>by rw[<-h3];exact m5 Z U h1 h2
 have:∀k d,Dm B U d->U.length<=d+k->∃d,Dm B U d/\∀d',Dm B U d'->d'<=d:=by
  intro k;induction k with
  |zero=>exact λd hd hk=>⟨d,hd,λd' h'=>MO (hb d' h') (by omega)⟩
  |succ k ih=>
   intro d hd hk;by_cases hm:∃d',Dm B U d'/\d<d'
   .obtain⟨d',h1,h2⟩:=hm;exact ih d' h1 (by omega)
   .exact⟨d,hd,λd' h'=>Nat.le_of_not_lt λhlt=>hm ⟨d',h',hlt⟩⟩
 exact this U.length 0 h0 (by omega)
theorem xv{U:List Nat}{B:bX->Prop}(hn:U.Nodup)(hU:∀x∈U,x<3)(hs:∀m,B m->cZ m U)(hf:∀m,cZ m U->B m):sV U B [(0,U.length)] U.length:=by
 refine⟨λt=>?_,λq hq=>?_,by simp,⟨U,hn,λx hx=>hx,rfl,hf⟩,λd ⟨Z,h1,h2,h3,_⟩=>by rw[<-h3];exact m5 Z U h1 h2,λq hq e he=>?_,λg h1 h2 _=>absurd (hf g h1) h2⟩
 .have h:=(HF.all U hn hU t).congr (C:=B) λm=>⟨hf m,hs m⟩;have e:bJ [(0,U.length)] t=nm U.length t:=by simp[bJ,fZ]
  rw[e];exact h
 .rw[MZ] at hq;rw[hq];exact MI _
 .rw[MZ] at hq;subst hq;exact⟨_,by simp,by simp at he⊢;omega,MI _⟩
theorem Dz:∀(n:Nat)(U:List Nat),U.length=n->U.Nodup->(∀x∈U,x<3)->∀B:{B:bX->Prop//lp B/\∀m,B m->cZ m [0,1,2]},(∀m,B.1 m->cZ m U)->B.1 fO->∃Q d,sV U B.1 Q d:=by
 intro n;induction n with
 |zero=>
  intro U hl hn hU B hs h1;have e:U=[]:=Nk.1 hl;subst e;exact⟨_,_,xv hn hU hs λm hm=>by
   have:m=fO:=by funext i;exact hm i (by simp)
   rw[this];exact h1⟩
 |succ n ihn=>
  intro U hl hn hU B;refine Dt.induction (C:=λB=>(∀m,B.1 m->cZ m U)->B.1 fO->∃Q d,sV U B.1 Q d) B ?_;intro B ih hs h1;by_cases hfull:∀m,cZ m U->B.1 m
  .exact⟨_,_,xv hn hU hs hfull⟩
  obtain⟨d,⟨Z,z1,z2,z3,z4⟩,hmx⟩:=Dw (U:=U) h1;have hx:∃x,x∈U/\x∉Z:=Nf λhc=>hfull λm hm=>z4 m λi hi=>hm i λhiU=>hc ⟨i,hiU,hi⟩;obtain⟨x,hxU,hxZ⟩:=hx;have hx3:=hU x hxU;have hE:∀y,y∈U.erase x↔y≠x/\y∈U:=λy=>hn.mem_erase_iff;have hs0:∀m,(B.1 m/\m x=0)->cZ m (U.erase x):=λm hm i hi=>by
   by_cases e:i=x
   .rw[e];exact hm.2
   .exact hs m hm.1 i λhc=>hi ((hE i).2 ⟨e,hc⟩)
  obtain⟨Q0,d0,D0⟩:=ihn (U.erase x) (by rw[List.length_erase_of_mem hxU];omega) (hn.erase x) (λy hy=>hU y ((hE y).1 hy).2) ⟨λm=>B.1 m/\m x=0,λa b hab hb=>⟨B.2.1 a b hab hb.1,by have:=hab x;have:=hb.2;omega⟩,λm hm=>B.2.2 m hm.1⟩ hs0 ⟨h1,rfl⟩;have hd0:d0=d:=by refine Nat.le_antisymm ?_ (D0.mx d ⟨Z,z1,λy hy=>(hE y).2 ⟨λe=>hxZ (e ▸ hy),z2 y hy⟩,z3,λm hm=>⟨z4 m hm,hm x hxZ⟩⟩);obtain⟨Y,y1,y2,y3,y4⟩:=D0.dm;exact hmx d0 ⟨Y,y1,λy hy=>((hE y).1 (y2 y hy)).2,y3,λm hm=>(y4 m hm).1⟩
  subst hd0;have hdn1:lp λm=>B.1 (up x m):=λa b hab hb=>B.2.1 _ _ (λi=>by have:=hab i;simp only[up];split<;>omega) hb;have hsub:∀m,B.1 (up x m)->B.1 m:=λm h=>B.2.1 _ _ (xt x m) h;have hstrict:∃m,B.1 m/\¬B.1 (up x m):=by
   apply Nf;intro hc;have hst:∀m,B.1 m->B.1 (up x m):=λm hm=>Nf λh=>hc ⟨m,hm,h⟩;have hall:∀k m,m x=k->cZ m (x::Z)->B.1 m:=by
    intro k;induction k with
    |zero=>
     intro m hk hm;refine z4 m λi hi=>?_;by_cases e:i=x
     .rw[e];exact hk
     .exact hm i (by simp[e,hi])
    |succ k ihk=>intro m hk hm;have h:=hst _ (ihk (dn x m) (by simp[dn,hk]) (oK (sT x m) hm));rw[l6 (by omega)] at h;exact h
   have hsubZ:∀y∈x::Z,y∈U:=λy hy=>by
    rcases Nb.1 hy with rfl|hy
    .exact hxU
    .exact z2 y hy
   have:=hmx (d0+1) ⟨x::Z,List.nodup_cons.2 ⟨hxZ,z1⟩,hsubZ,by simp[z3],λm hm=>hall _ m rfl hm⟩;omega
  have h00:HF B.1 0 1:=HF.zero h1 B.2.2;have h000:=D0.hf 0;have c00:bJ Q0 0=1:=h000.uniq (HF.zero (B:=λm=>B.1 m/\m x=0) ⟨h1,rfl⟩ λm hm=>B.2.2 m hm.1);have gen0:∀g,cZ g U->¬B.1 g->(∀i,0<g i->B.1 (dn i g))->g x=0->∃q∈Q0,deg g<=q.1+1:=λg g1 g2 g3 gx=>
   D0.gen g (λi hi=>by
    by_cases e:i=x
    .rw[e];exact gx
    .exact g1 i λhc=>hi ((hE i).2 ⟨e,hc⟩)) (λh=>g2 h.1) λi hi=>⟨g3 i hi,by simp only[dn];split<;>omega⟩
  by_cases hB1:B.1 (up x fO)
  .obtain⟨Q1,d1,D1⟩:=ih ⟨λm=>B.1 (up x m),hdn1,λm hm=>B.2.2 m (hsub m hm)⟩ ⟨hsub,hstrict⟩ (λm hm=>hs m (hsub m hm)) hB1;have hd1:d1<=d0:=by obtain⟨Y,y1,y2,y3,y4⟩:=D1.dm;exact hmx d1 ⟨Y,y1,y2,y3,λm hm=>hsub m (y4 m hm)⟩
   refine⟨Q0++Q1.map sh,d0,⟨λt=>?_,λq hq=>?_,by simp[D0.top],⟨Z,z1,z2,z3,z4⟩,hmx,λq hq e he=>?_,λg g1 g2 g3=>?_⟩⟩
   .rw[l7];cases t with
    |zero=>rw[Dr,c00];exact h00
    |succ t=>rw[Dq];exact HF.split hx3 (D0.hf (t+1)) (D1.hf t)
   .rcases MY.1 hq with hq|hq
    .exact D0.le q hq
    .obtain⟨q1,h,rfl⟩:=M5.1 hq;exact MO (D1.le q1 h) hd1
   .rcases MY.1 hq with hq|hq
    .obtain⟨q',a1,a2,a3⟩:=D0.std q hq e he;exact⟨q',MY.2 (Np a1),a2,a3⟩
    .obtain⟨q1,h,rfl⟩:=M5.1 hq;cases e with
     |zero=>exact⟨(0,d0),MY.2 (Np D0.top),rfl,MO (D1.le q1 h) hd1⟩
     |succ e=>obtain⟨q',a1,a2,a3⟩:=D1.std q1 h e (by simp only[sh] at he;omega);exact⟨sh q',MY.2 (Nq (M5.2 ⟨q',a1,rfl⟩)),by simp[sh,a2],a3⟩
   .by_cases gx:g x=0
    .obtain⟨q,a1,a2⟩:=gen0 g g1 g2 g3 gx;exact⟨q,MY.2 (Np a1),a2⟩
    .obtain⟨q,a1,a2⟩:=D1.gen (dn x g) (oK (sT x g) g1) (by show¬B.1 (up x (dn x g));rw[l6 (by omega)];exact g2) λi hi=>by
      have hgi:0<g i:=by simp only[dn] at hi;split at hi<;>omega
      have e:up x (dn i (dn x g))=dn i g:=by funext k;simp only[up,dn] at hi⊢;by_cases hk:k=x<;>by_cases hk2:k=i<;>simp[hk,hk2]<;>(try subst hk)<;>(try subst hk2)<;>simp_all<;>omega
      show B.1 (up x (dn i (dn x g)));rw[e];exact g3 i hgi
     have hdg:=xr hx3 (m:=g) (by omega);exact⟨sh q,MY.2 (Nq (M5.2 ⟨q,a1,rfl⟩)),by simp only[sh];omega⟩
  .have hnone:∀m,¬B.1 (up x m):=λm hm=>hB1 (hdn1 fO m (Du m) hm);refine⟨Q0,d0,⟨λt=>?_,D0.le,D0.top,⟨Z,z1,z2,z3,z4⟩,hmx,D0.std,λg g1 g2 g3=>?_⟩⟩
   .cases t with
    |zero=>rw[c00];exact h00
    |succ t=>exact HF.split hx3 (D0.hf (t+1)) (HF.none hnone)
   .by_cases gx:g x=0
    .exact gen0 g g1 g2 g3 gx
    .have h:=g3;have hg1:g=up x fO:=by
      apply Nf;intro hne;have hex:∃i,0<dn x g i:=Nf λhc=>hne (by
       rw[<-l6 (m:=g) (x:=x) (by omega)];congr 1;funext i;have:¬0<dn x g i:=λh=>hc ⟨i,h⟩;show _=0;omega)
      obtain⟨i,hi⟩:=hex;have hgi:0<g i:=by simp only[dn] at hi;split at hi<;>omega
      have h2:=g3 i hgi;refine hnone (dn x (dn i g)) ?_;rw[l6 (by simp only[dn] at hi⊢;split<;>simp_all<;>omega)];exact h2
     exact⟨(0,d0),D0.top,by rw[hg1,sS hx3];simp[deg,fO]⟩
end Go.Proofs.YteimdcndjjclnaaGreat.Cn
