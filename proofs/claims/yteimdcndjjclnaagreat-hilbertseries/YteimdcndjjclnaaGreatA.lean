/- Contracts of the small functions: isNaN, Compare, the closures. -/
import Derived.Test.YteimdcndjjclnaaGreatProg
import Derived.JoinedTies
import Derived.WalkSpells
import Derived.WalkLawsBesides
import Derived.BigQuiet
set_option maxHeartbeats 1000000
namespace Go.Proofs.YteimdcndjjclnaaGreat
set_option linter.all false
open Go.Proofs.Tryz Go.RowKit
def Ma(p:Prop):Prop:=p
theorem Ma.o{p:Prop}(h:Ma p):p:=h
abbrev K8:=@World.ownsRow.frozenAt
abbrev La:=@World.ownsRow.cellAt
abbrev Lb:=@World.ownsRow.lt
abbrev Lc:=@Nat.le_refl
abbrev Lf:=@Below.refl
abbrev Lg:=@And.intro
abbrev Lh:=@decide_eq_false
abbrev Li:=@decide_eq_true
abbrev Lj:=@Nat.lt_of_lt_of_le
abbrev Lk:=@Nat.le_trans
abbrev Ll:=@Nat.zero_le
abbrev Lm:=@bodyPost_ret
abbrev Ln:=@results_none
abbrev Lo:=@List.getElem_mem
abbrev Lp:=@World.ownsRow.stored
abbrev Lq:=@World.block_lt_of_cell?
abbrev Lr:=@List.getD_eq_getElem?_getD
abbrev Ls:=@List.getElem?_eq_getElem
abbrev Lu:=@List.getElem?_eq_none
abbrev Lv:=@List.mem_append
abbrev Lw:=@List.mem_singleton
abbrev Lx:=@List.length_append
abbrev Ly:=@Nat.zero_add
abbrev Lz:=@List.take_of_length_le
abbrev LA:=@Option.some.injEq
abbrev LB:=@Value.slice.injEq
abbrev LC:=@List.mem_map
abbrev LD:=@List.length_map
abbrev LF:=@Nat.lt_of_not_le
abbrev LH:=@if_neg
abbrev LI:=@if_pos
abbrev LK:=@List.take_succ_eq_append_getElem
abbrev LL:=@List.mem_cons
abbrev LN:=@List.length_cons
abbrev LO:=@List.map_append
abbrev LP:=@Classical.byContradiction
abbrev LQ:=@List.getElem?_append_left
abbrev LR:=@List.mem_filter
abbrev LS:=@Array.getElem?_eq_some_iff
abbrev LU:=@List.length_take
abbrev LV:=@List.length_eq_zero_iff
abbrev LW:=@List.getElem?_append_right
abbrev LX:=@List.length_filter_le
abbrev LY:=@List.drop_eq_getElem_cons
abbrev LZ:=@List.drop_eq_nil_of_le
abbrev L0:=@Or.inl
abbrev L3:=@Or.inr
abbrev L5:=@Nat.mul_le_mul_right
abbrev L6:=@List.mem_of_mem_take
abbrev L7:=@List.mem_flatMap
abbrev L8:=@List.mem_iff_getElem
abbrev L9:=@Nat.lt_of_le_of_lt
theorem ac{p:Prop}(h:p):Ma p:=h
theorem bJ{k:IntKind}{a b:Int}(h:a=b):Ending.returned (.int k a)=.returned (.int k b):=by rw[h]
def aI(a b:Int):Int:=if a<b then-1 else if b<a then 1 else 0
theorem jn(a b:Int)(w:World):Calls prog 80 #[.int .i64 a,.int .i64 b] w λe w'=>e=.returned (.int .i64 (aI a b))/\w'=w:=by
 unfold aI;by_cases h1:a<b
 .go_enter func80,ntmps80;go_wp2;go_ret;exact⟨by simp[h1],rfl⟩
 .by_cases h2:b<a
  .go_enter func80,ntmps80;go_wp2;go_ret;exact⟨by simp[h1,h2],rfl⟩
  .go_enter func80,ntmps80;go_wp2;go_ret;exact⟨by simp[h1,h2],rfl⟩
def ct(x:Int):Bool:=decide (x<0\/200<x)
theorem vA(x:Int)(w:World):Calls prog 194 #[.int .i64 x] w λe w'=>e=.returned (.bool (ct x))/\w'=w:=by
 unfold ct;by_cases h:x<0
 .go_enter func194,ntmps194;go_wp2;go_ret;exact⟨by simp[h],rfl⟩
 .go_enter func194,ntmps194;go_wp2;go_ret;exact⟨by simp;omega,rfl⟩
def eB(w:World)(b off:Nat)(xs:List Int):Prop:=∀i,i<xs.length->w.cell? ⟨b,off+i,none⟩=some (.int .i64 (xs.getD i 0))
def ah:List Int->Int
 |[]=>0
 |x::xs=>x+ah xs
theorem vB(xs:List Int)(k:Nat)(h:k<xs.length):ah (xs.take (k+1))=ah (xs.take k)+xs.getD k 0:=by
 induction xs generalizing k with
 |nil=>simp at h
 |cons x xs ih=>
  cases k with
  |zero=>simp[ah]
  |succ k=>simp only[List.take_succ_cons,ah];rw[ih k (by simpa using h)];simp;omega
theorem mj(xs:List Int)(h:∀x∈xs,0<=x/\x<=40000):0<=ah xs/\ah xs<=40000*xs.length:=by
 induction xs with
 |nil=>simp[ah]
 |cons x xs ih=>have h1:=h x (by simp);have h2:=ih (λy hy=>h y (by simp[hy]));simp only[ah,LN];omega
theorem ix(xs:List Int)(k:Nat)(h:k<xs.length):xs.getD k 0∈xs:=by rw[Lr,Ls h];simp
theorem jo(xs:List Int)(b off cap:Nat)(w:World)(hxs:∀x∈xs,0<=x/\x<=40000)(hl:xs.length<=3)(hc:eB w b off xs):Calls prog 69 #[.slice (some ⟨b,off,none⟩) xs.length cap] w λe w'=>e=.returned (.int .i64 (ah xs))/\w'=w:=by
 have HC:Ma (eB w b off xs):=hc;clear hc;go_enter func69,ntmps69;go_wp2;go_loop [3,8] (λn i=>∃k:Nat,k<=xs.length/\i=.int .i64 k/\n=.int .i64 (ah (xs.take k))) (λ_ i=>xs.length-(intOf i).toNat);case atStart=>exact⟨0,Ll _,rfl,rfl⟩
 case round=>
  obtain⟨k,hk,rfl,rfl⟩:=hrel;have hd:=mj (xs.take k) (λx hx=>hxs x (L6 hx));have hl2:(xs.take k).length<=k:=List.length_take_le _ _;by_cases hlt:k<xs.length
  .have hsn:=vB xs k hlt;have hb:=hxs _ (ix xs k hlt);have hcell:=HC.o k hlt;generalize xs.getD k 0=y at hsn hb hcell;have HS:Ma (ah (xs.take (k+1))=ah (xs.take k)+y):=hsn;clear hsn hxs;go_wp2;go_round;case rel=>exact⟨k+1,by omega,by go_num,by rw[HS.o]⟩
   case measure=>simp[intOf];omega
  .go_wp2;go_ret;exact⟨bJ (by rw[Lz (by omega)]),rfl⟩
def Sl(w:World)(v:Value)(xs:List Int):Prop:=
 ∃a cap,v=.slice a xs.length cap/\(0<xs.length->∃b off,a=some ⟨b,off,none⟩/\b<w.heap.size/\eB w b off xs)
theorem Sl.below{w w':World}{v:Value}{xs:List Int}(h:Sl w v xs)(hb:Below w.heap.size w w'):Sl w' v xs:=by obtain⟨a,cap,rfl,h⟩:=h;refine⟨a,cap,rfl,λhp=>?_⟩;obtain⟨b,off,rfl,hlt,hc⟩:=h hp;refine⟨b,off,rfl,Lj hlt hb.size,λi hi=>?_⟩;rw[hb.cell (p:=⟨b,off+i,none⟩) hlt];exact hc i hi
theorem nL(f:Int->Bool)(xs:List Int)(k:Nat)(h:k<xs.length)(h0:(xs.take k).any f=false)(h1:f (xs.getD k 0)=false):(xs.take (k+1)).any f=false:=by rw[LK h,List.any_append,h0];rw[Lr,Ls h] at h1;simpa using h1
theorem nN(f:Int->Bool)(xs:List Int)(k:Nat)(h:k<xs.length)(h1:f (xs.getD k 0)=true):xs.any f=true:=by rw[List.any_eq_true];exact⟨_,ix xs k h,h1⟩
theorem B5(xs:List Int)(b off cap:Nat)(w:World)(hm:xs.length<=3)(hc:eB w b off xs):Calls prog 43 #[.slice (some ⟨b,off,none⟩) xs.length cap,.func (.func 194) #[] #[]] w λe w'=>∃r:Int,e=.returned (.int .i64 r)/\decide (0<=r)=xs.any ct/\w'=w:=by
 have HC:Ma (eB w b off xs):=hc;clear hc;go_enter func43,ntmps43;go_wp2;go_loop [8] (λi=>∃k:Nat,k<=xs.length/\i=.int .i64 k/\(xs.take k).any ct=false) (λi=>xs.length-(intOf i).toNat);case atStart=>exact⟨0,Ll _,rfl,by simp⟩
 case round=>
  obtain⟨k,hk,rfl,hn⟩:=hrel;have HN:Ma ((xs.take k).any ct=false):=hn;clear hn;by_cases hlt:k<xs.length
  .have hcell:=HC.o k hlt;have h1:=nL ct xs k hlt HN.o;have h2:=nN ct xs k hlt;have H1:=ac h1;have H2:=ac h2;clear h1 h2;generalize xs.getD k 0=y at hcell H1 H2;cases hy:ct y
   .go_wp2_with (go_at_call 194;refine(vA _ _).mono ?_;rintro e w' ⟨rfl,rfl⟩);go_round;case rel=>exact⟨k+1,by omega,by go_num,H1.o hy⟩
    case measure=>simp[intOf];omega
   .go_wp2_with (go_at_call 194;refine(vA _ _).mono ?_;rintro e w' ⟨rfl,rfl⟩);go_ret;exact⟨(k:Int),rfl,by rw[H2.o hy];simp,rfl⟩
  .go_wp2;go_ret;exact⟨-1,rfl,by have:=HN.o;rw[Lz (by omega)] at this;rw[this];simp,rfl⟩
theorem rC(xs:List Int)(b off cap:Nat)(w:World)(hm:xs.length<=3)(hc:eB w b off xs):Calls prog 21 #[.slice (some ⟨b,off,none⟩) xs.length cap,.func (.func 194) #[] #[]] w λe w'=>e=.returned (.bool (xs.any ct))/\w'=w:=by
 have HC:=ac hc;clear hc;go_enter func21,ntmps21;go_wp2_with (go_at_call 43;refine(B5 xs _ _ _ _ hm HC.o).mono ?_;rintro e w' ⟨r,rfl,hr,rfl⟩);go_ret;exact⟨by rw[<-hr];rfl,rfl⟩
def bQ(n:Int)(xs:List Int):Int:=if (xs.length:Int)≠n then 1 else if xs.any ct then 3 else if 200<ah xs then 3 else 0
theorem rD{xs:List Int}(h:xs.any ct=false):∀x∈xs,0<=x/\x<=200:=by intro x hx;rw[List.any_eq_false] at h;have:=h x hx;simp[ct] at this;omega
theorem vC(n:Int)(v:Value)(xs:List Int)(w:World)(hn:1<=n/\n<=3)(hs:Sl w v xs):Calls prog 193 #[.int .i64 n,v] w λe w'=>e=.returned (.int .i64 (bQ n xs))/\w'=w:=by
 obtain⟨a,cap,rfl,hs⟩:=hs;obtain⟨hn1,hn2⟩:=hn;by_cases hl:(xs.length:Int)=n
 .subst hl;obtain⟨b,off,rfl,_,hc⟩:=hs (by omega);clear hs;have HC:=ac hc;clear hc;have hm:xs.length<=3:=by omega
  cases hy:xs.any ct
  .have hb:=rD hy;have hb2:=ac (show∀x∈xs,0<=x/\x<=40000 from λx hx=>by have:=hb x hx;omega);clear hb;by_cases hd:200<ah xs
   .have he:bQ xs.length xs=3:=by simp[bQ,hy,hd]
    rw[he];clear he;go_enter func193,ntmps193;go_wp2_with (first|(go_at_call 21;refine(rC xs _ _ _ _ hm HC.o).mono ?_;rintro e w' ⟨rfl,rfl⟩)|(go_at_call 69;refine(jo xs _ _ _ _ hb2.o hm HC.o).mono ?_;rintro e w' ⟨rfl,rfl⟩));go_ret;exact⟨rfl,rfl⟩
   .have he:bQ xs.length xs=0:=by simp[bQ,hy,hd]
    rw[he];clear he;go_enter func193,ntmps193;go_wp2_with (first|(go_at_call 21;refine(rC xs _ _ _ _ hm HC.o).mono ?_;rintro e w' ⟨rfl,rfl⟩)|(go_at_call 69;refine(jo xs _ _ _ _ hb2.o hm HC.o).mono ?_;rintro e w' ⟨rfl,rfl⟩));go_ret;exact⟨rfl,rfl⟩
  .have he:bQ xs.length xs=3:=by simp[bQ,hy]
   rw[he];clear he;go_enter func193,ntmps193;go_wp2_with (go_at_call 21;refine(rC xs _ _ _ _ hm HC.o).mono ?_;rintro e w' ⟨rfl,rfl⟩);go_ret;exact⟨rfl,rfl⟩
 .have he:bQ n xs=1:=by simp[bQ,hl]
  rw[he];clear he hs;have hl2:((xs.length:Int) !=n)=true:=by simpa using hl
  clear hl;go_enter func193,ntmps193;go_wp2;go_ret;exact⟨rfl,rfl⟩
def dH(p n:Nat):Bool:=(List.range n).all λd=>d<2||p%d !=0
def kA(p:Int):Bool:=dH p.toNat p.toNat
def bm(p:Int):Int:=if p<2\/101<p then 3 else if kA p then 0 else 4
theorem vD(p n:Nat):dH p (n+1)=(dH p n&&(n<2||p%n !=0)):=by simp[dH,List.range_succ,List.all_append]
theorem vE{p n m:Nat}(h:dH p n=false)(hm:n<=m):dH p m=false:=by
 induction hm with
 |refl=>exact h
 |step _ ih=>rw[vD,ih];rfl
theorem B6:∀p,p<102->∀k,k<12->p<k*k->dH p k=true->dH p p=true:=by decide+kernel
theorem vF{p k:Nat}(h2:2<=k)(h:dH p k=true):dH p (k+1)=(p%k !=0):=by
 rw[vD,h];have:¬k<2:=by omega
 simp[this]
theorem vG(p k:Nat)(h:0<k):((p:Int)%(k:Int)==0)=!(p%k !=0):=by
 have:((p:Int)%(k:Int))=((p%k:Nat):Int):=by omega
 rw[this];cases hh:p%k with
 |zero=>rfl
 |succ n=>simp;omega
theorem rE{n:Nat}(h1:2<=n)(h2:n<=101)(h:dH n n=true):bm (n:Int)=0:=by have hp:kA (n:Int)=true:=h;unfold bm;rw[LH (by omega),LI hp]
theorem vH{n:Nat}(h1:2<=n)(h2:n<=101)(h:dH n n=false):bm (n:Int)=4:=by have hp:kA (n:Int)=false:=h;unfold bm;rw[LH (by omega),LH (by simp[hp])]
theorem jO(p:Int)(w:World):Calls prog 92 #[.int .i64 p] w λe w'=>e=.returned (.int .i64 (bm p))/\w'=w:=by
 by_cases h1:p<2
 .have he:bm p=3:=by simp[bm,h1]
  rw[he];clear he;go_enter func92,ntmps92;go_wp2;go_ret;exact⟨rfl,rfl⟩
 by_cases h2:101<p
 .have he:bm p=3:=by simp[bm,h2]
  rw[he];clear he;go_enter func92,ntmps92;go_wp2;go_ret;exact⟨rfl,rfl⟩
 obtain⟨n,rfl⟩:∃n:Nat,p=n:=⟨p.toNat,by omega⟩;have hn1:2<=n:=by omega
 have hn2:n<=101:=by omega
 clear h1 h2;go_enter func92,ntmps92;go_wp2;go_loop [3] (λd=>∃k:Nat,2<=k/\k<=11/\d=.int .i64 k/\dH n k=true) (λd=>12-(intOf d).toNat);case atStart=>exact⟨2,by omega,by omega,rfl,rfl⟩
 case round=>
  obtain⟨k,hk1,hk2,rfl,hnd⟩:=hrel;have HN:=ac hnd;clear hnd;by_cases hlt:k*k<=n
  .have hk3:k<=10:=by apply Nat.le_of_not_lt;intro h;have:11*11<=k*k:=Nat.mul_le_mul h h;omega
   have hlt2:(k:Int)*k<=n:=by exact_mod_cast hlt
   have hkk:(k:Int)*k<=101:=by omega
   have hk0:(0:Int)<=(k:Int)*k:=by exact_mod_cast Ll _
   have hat:=vF (p:=n) hk1 HN.o;have hmc:=vG n k (by omega);cases hz:(n%k !=0)
   .rw[hz] at hat hmc;have HA:=ac hat;clear hat;have hmc2:((n:Int)%(k:Int)==0)=true:=hmc;clear hmc hz;go_wp2;go_ret;exact⟨bJ (by
     have hkn:k+1<=n:=by have:2*k<=k*k:=L5 k hk1;omega
     exact(vH hn1 hn2 (vE HA.o hkn)).symm),rfl⟩
   .rw[hz] at hat hmc;have HA:=ac hat;clear hat;have hmc2:((n:Int)%(k:Int)==0)=false:=hmc;clear hmc hz;go_wp2;go_round;case rel=>exact⟨k+1,by omega,by omega,by go_num,HA.o⟩
    case measure=>simp[intOf];omega
  .have hlt2:¬(k:Int)*k<=n:=by intro h;apply hlt;exact_mod_cast h
   have hk0:(0:Int)<=(k:Int)*k:=by exact_mod_cast Ll _
   have hk9:(k:Int)*k<=121:=by
    have:k*k<=11*11:=Nat.mul_le_mul hk2 hk2
    exact_mod_cast this
   go_wp2;go_ret;exact⟨bJ (rE hn1 hn2 (B6 n (by omega) k (by omega) (by omega) HN.o)).symm,rfl⟩
def bH(n a b:Int):Bool:=decide (a<=n)&&decide (n<=b)
theorem fo(n a b:Int)(w:World):Calls prog 18 #[.int .i64 n,.int .i64 a,.int .i64 b] w λe w'=>e=.returned (.bool (bH n a b))/\w'=w:=by
 by_cases h:a<=n
 .have he:bH n a b=decide (n<=b):=by simp[bH,h]
  rw[he];clear he;go_enter func18,ntmps18;go_wp2;go_ret;exact⟨rfl,rfl⟩
 .have he:bH n a b=false:=by simp[bH,h]
  rw[he];clear he;go_enter func18,ntmps18;go_wp2;go_ret;exact⟨rfl,rfl⟩
theorem nO(p:Int)(w:World):Calls prog 90 #[.int .i64 p] w λe w'=>e=.returned (.int .i64 (bm p))/\w'=w:=by
 cases hb:bH p 2 101
 .have he:bm p=3:=by simp[bH] at hb;unfold bm;rw[LI (by omega)]
  rw[he];clear he;go_enter func90,ntmps90;go_wp2_with (go_at_call 18;refine(fo _ _ _ _).mono ?_;rintro e w' ⟨rfl,rfl⟩);go_ret;exact⟨rfl,rfl⟩
 .have hb2:2<=p/\p<=101:=by simpa [bH] using hb
  obtain⟨n,rfl⟩:∃n:Nat,p=n:=⟨p.toNat,by omega⟩;have hn1:2<=n:=by omega
  have hn2:n<=101:=by omega
  clear hb2;go_enter func90,ntmps90;go_wp2_with (go_at_call 18;refine(fo _ _ _ _).mono ?_;rintro e w' ⟨rfl,rfl⟩);go_loop [3] (λd=>∃k:Nat,2<=k/\k<=n/\d=.int .i64 k/\dH n k=true) (λd=>102-(intOf d).toNat);case atStart=>exact⟨2,by omega,by omega,rfl,rfl⟩
  case round=>
   obtain⟨k,hk1,hk2,rfl,hnd⟩:=hrel;have HN:=ac hnd;clear hnd;by_cases hlt:k<n
   .have hat:=vF (p:=n) hk1 HN.o;have hmc:=vG n k (by omega);cases hz:(n%k !=0)
    .rw[hz] at hat hmc;have HA:=ac hat;clear hat;have hmc2:((n:Int)%(k:Int)==0)=true:=hmc;clear hmc hz;go_wp2;go_ret;exact⟨bJ (vH hn1 hn2 (vE HA.o hlt)).symm,rfl⟩
    .rw[hz] at hat hmc;have HA:=ac hat;clear hat;have hmc2:((n:Int)%(k:Int)==0)=false:=hmc;clear hmc hz;go_wp2;go_round;case rel=>exact⟨k+1,by omega,by omega,by go_num,HA.o⟩
     case measure=>simp[intOf];omega
   .have hkn:k=n:=by omega
    subst hkn;go_wp2;go_ret;exact⟨bJ (rE hn1 hn2 HN.o).symm,rfl⟩
def a8(p n o v:Int):Int:=if bm p≠0 then bm p else if n<1\/3<n then 3 else if (o≠1/\o≠2)\/(v≠1/\v≠2) then 6 else 0
abbrev aT(p n o v:Int):Value:=.agg #[.int .i64 p,.int .i64 n,.int .i64 o,.int .i64 v]
theorem vI{p n o v:Int}(h:(bm p !=0)=true):a8 p n o v=bm p:=by
 have:bm p≠0:=by simpa using h
 unfold a8;rw[LI this]
theorem rF{p n o v:Int}(h:(bm p !=0)=false)(hn:n<1\/3<n):a8 p n o v=3:=by
 have:¬bm p≠0:=by simpa using h
 unfold a8;rw[LH this,LI hn]
theorem pp{p n o v:Int}(h:(bm p !=0)=false)(hn:¬(n<1\/3<n))(hk:(o≠1/\o≠2)\/(v≠1/\v≠2)):a8 p n o v=6:=by
 have:¬bm p≠0:=by simpa using h
 unfold a8;rw[LH this,LH hn,LI hk]
theorem vJ{p n o v:Int}(h:(bm p !=0)=false)(hn:¬(n<1\/3<n))(hk:¬((o≠1/\o≠2)\/(v≠1/\v≠2))):a8 p n o v=0:=by
 have:¬bm p≠0:=by simpa using h
 unfold a8;rw[LH this,LH hn,LH hk]
theorem iX(p n o v:Int)(w:World):Calls prog 63 #[aT p n o v] w λe w'=>e=.returned (.int .i64 (a8 p n o v))/\Below w.heap.size w w':=by
 cases hp:(bm p !=0)
 .by_cases hn1:n<1
  .rw[rF hp (L0 hn1)];go_enter func63,ntmps63;go_wp2_with (go_at_call 92;refine(jO _ _).mono ?_;rintro e w' ⟨rfl,rfl⟩);go_ret;exact⟨rfl,(Lf _ _).alloc (Lc _) _⟩
  by_cases hn3:3<n
  .rw[rF hp (L3 hn3)];go_enter func63,ntmps63;go_wp2_with (go_at_call 92;refine(jO _ _).mono ?_;rintro e w' ⟨rfl,rfl⟩);go_ret;exact⟨rfl,(Lf _ _).alloc (Lc _) _⟩
  have hn:¬(n<1\/3<n):=by omega
  by_cases ho:o≠1/\o≠2
  .rw[pp hp hn (L0 ho)];obtain⟨ho1,ho2⟩:=ho;have ho1':(o !=1)=true:=by simpa using ho1
   have ho2':(o !=2)=true:=by simpa using ho2
   clear ho1 ho2 hn;go_enter func63,ntmps63;go_wp2_with (go_at_call 92;refine(jO _ _).mono ?_;rintro e w' ⟨rfl,rfl⟩);go_ret;exact⟨rfl,(Lf _ _).alloc (Lc _) _⟩
  by_cases hv:v≠1/\v≠2
  .rw[pp hp hn (L3 hv)];obtain⟨hv1,hv2⟩:=hv;have hv1':(v !=1)=true:=by simpa using hv1
   have hv2':(v !=2)=true:=by simpa using hv2
   have ho':o=1\/o=2:=by omega
   clear hv1 hv2 hn ho;rcases ho' with rfl|rfl;all_goals
    go_enter func63,ntmps63;go_wp2_with (go_at_call 92;refine(jO _ _).mono ?_;rintro e w' ⟨rfl,rfl⟩);go_ret;exact⟨rfl,(Lf _ _).alloc (Lc _) _⟩
  .rw[vJ hp hn (by omega)];have ho':o=1\/o=2:=by omega
   have hv':v=1\/v=2:=by omega
   clear hv hn ho;rcases ho' with rfl|rfl<;>rcases hv' with rfl|rfl;all_goals
    go_enter func63,ntmps63;go_wp2_with (go_at_call 92;refine(jO _ _).mono ?_;rintro e w' ⟨rfl,rfl⟩);go_ret;exact⟨rfl,(Lf _ _).alloc (Lc _) _⟩
 .rw[vI hp];go_enter func63,ntmps63;go_wp2_with (go_at_call 92;refine(jO _ _).mono ?_;rintro e w' ⟨rfl,rfl⟩);go_ret;exact⟨rfl,(Lf _ _).alloc (Lc _) _⟩
theorem vK(p n o v:Int)(w:World):Calls prog 61 #[aT p n o v] w λe w'=>e=.returned (.int .i64 (a8 p n o v))/\Below w.heap.size w w':=by
 have arm:∀x,bH x 1 2=true↔(x=1\/x=2):=λx=>by simp[bH];omega
 cases hp:(bm p !=0)
 .cases hn:bH n 1 3
  .rw[rF hp (by simp[bH] at hn;omega)];clear arm;go_enter func61,ntmps61;go_wp2_with (first|(go_at_call 90;refine(nO _ _).mono ?_;rintro e w' ⟨rfl,rfl⟩)|(go_at_call 18;refine(fo _ _ _ _).mono ?_;rintro e w' ⟨rfl,rfl⟩));go_ret;exact⟨rfl,(Lf _ _).alloc (Lc _) _⟩
  have hn':¬(n<1\/3<n):=by simp[bH] at hn;omega
  cases ho:bH o 1 2
  .have:=arm o;rw[pp hp hn' (by rw[ho] at this;simp at this;omega)];clear arm this hn';go_enter func61,ntmps61;go_wp2_with (first|(go_at_call 90;refine(nO _ _).mono ?_;rintro e w' ⟨rfl,rfl⟩)|(go_at_call 18;refine(fo _ _ _ _).mono ?_;rintro e w' ⟨rfl,rfl⟩));go_ret;exact⟨rfl,(Lf _ _).alloc (Lc _) _⟩
  cases hv:bH v 1 2
  .have:=arm v;rw[pp hp hn' (by rw[hv] at this;simp at this;omega)];clear arm this hn';go_enter func61,ntmps61;go_wp2_with (first|(go_at_call 90;refine(nO _ _).mono ?_;rintro e w' ⟨rfl,rfl⟩)|(go_at_call 18;refine(fo _ _ _ _).mono ?_;rintro e w' ⟨rfl,rfl⟩));go_ret;exact⟨rfl,(Lf _ _).alloc (Lc _) _⟩
  .have h1:=(arm v).1 hv;have h2:=(arm o).1 ho;rw[vJ hp hn' (by omega)];clear arm h1 h2 hn';go_enter func61,ntmps61;go_wp2_with (first|(go_at_call 90;refine(nO _ _).mono ?_;rintro e w' ⟨rfl,rfl⟩)|(go_at_call 18;refine(fo _ _ _ _).mono ?_;rintro e w' ⟨rfl,rfl⟩));go_ret;exact⟨rfl,(Lf _ _).alloc (Lc _) _⟩
 .rw[vI hp];clear arm;go_enter func61,ntmps61;go_wp2_with (go_at_call 90;refine(nO _ _).mono ?_;rintro e w' ⟨rfl,rfl⟩);go_ret;exact⟨rfl,(Lf _ _).alloc (Lc _) _⟩
theorem B7{W w1:World}(hb:Below W.heap.size W w1):(∀b o,b<W.heap.size->w1.cell? ⟨b,o,none⟩=W.cell? ⟨b,o,none⟩)/\(∀b o,b<W.heap.size->w1.frozen? ⟨b,o,none⟩=W.frozen? ⟨b,o,none⟩):=
 ⟨λb o h=>hb.cell (p:=⟨b,o,none⟩) h,λb o h=>hb.frozen (p:=⟨b,o,none⟩) h⟩
def jP(n:Int):List (List Int)->Int
 |[]=>0
 |xs::r=>if bQ n xs=0 then jP n r else bQ n xs
def mm(w:World)(b off:Nat)(xss:List (List Int)):Prop:=
 ∀i,i<xss.length->∃v,w.cell? ⟨b,off+i,none⟩=some v/\Sl w v (xss.getD i [])
theorem mm.below{w w':World}{b off:Nat}{xss:List (List Int)}(h:mm w b off xss)(hlt:b<w.heap.size)(hb:Below w.heap.size w w'):mm w' b off xss:=by intro i hi;obtain⟨v,hc,hs⟩:=h i hi;exact⟨v,by rw[hb.cell (p:=⟨b,off+i,none⟩) hlt];exact hc,hs.below hb⟩
theorem B8(n:Int)(xss:List (List Int))(k:Nat)(h:k<xss.length):jP n (xss.drop k)=if bQ n (xss.getD k [])=0 then jP n (xss.drop (k+1)) else bQ n (xss.getD k []):=by rw[LY h];simp[jP,Lr,h]
def kB(p n o v:Int)(xss:List (List Int)):Int:=if a8 p n o v=0 then jP n xss else a8 p n o v
theorem jq{p n o v:Int}(h:a8 p n o v=0):bm p=0/\1<=n/\n<=3/\(o=1\/o=2)/\(v=1\/v=2):=by
 unfold a8 at h;by_cases h1:bm p=0
 .rw[LH (by simp[h1])] at h;by_cases h2:n<1\/3<n
  .rw[LI h2] at h;omega
  .rw[LH h2] at h;by_cases h3:(o≠1/\o≠2)\/(v≠1/\v≠2)
   .rw[LI h3] at h;omega
   .exact⟨h1,by omega,by omega,by omega,by omega⟩
 .rw[LI h1] at h;exact absurd h h1
theorem B9(p n o v:Int)(xss:List (List Int))(b off cap:Nat)(w:World)(hl:xss.length<=2)(hlt:b<w.heap.size)(hs:mm w b off xss):Calls prog 189 #[aT p n o v,.slice (some ⟨b,off,none⟩) xss.length cap] w λe w'=>e=.returned (.int .i64 (kB p n o v xss))/\Below w.heap.size w w':=by
 have HS:=ac hs;clear hs;cases hp:(a8 p n o v !=0)
 .have hp0:a8 p n o v=0:=by simpa using hp
  obtain⟨_,hn1,hn2,_⟩:=jq hp0;have he:kB p n o v xss=jP n xss:=by unfold kB;rw[LI hp0]
  rw[he];clear he hp0;go_enter func189,ntmps189;go_wp2_with (go_at_call 63;refine(iX _ _ _ _ _).mono ?_;rintro e w1 ⟨rfl,hb1⟩);have hb0:Below w.heap.size w w1:=((Lf _ _).alloc (Lc _) _).trans (hb1.mono (by simp));obtain⟨hcl,_⟩:=B7 hb1;have hbox:w1.cell? ⟨w.heap.size,1,none⟩=some (.int .i64 n):=by rw[hcl _ _ (by simp)];simp[go_sem]
  have HS1:=ac (HS.o.below hlt hb0);clear hcl HS;go_loop [16] (λi=>∃k:Nat,k<=xss.length/\i=.int .i64 k/\jP n xss=jP n (xss.drop k)) (λi=>xss.length-(intOf i).toNat);case atStart=>exact⟨0,Ll _,rfl,by simp⟩
  case round=>
   obtain⟨k,hk,rfl,hf⟩:=hrel;have HF:=ac hf;clear hf;by_cases hk2:k<xss.length
   .obtain⟨vv,hcell,hsl⟩:=HS1.o k hk2;have HSL:=ac hsl;have HD:=ac (B8 n xss k hk2);clear hsl;generalize xss.getD k []=xs at HSL HD;obtain⟨a,cc,hvv,_⟩:=HSL.o;subst hvv;cases hz:(bQ n xs !=0)
    .go_wp2_with (go_at_call 193;refine(vC _ _ xs _ ⟨hn1,hn2⟩ HSL.o).mono ?_;rintro e w' ⟨rfl,rfl⟩);go_round;case rel=>exact⟨k+1,by omega,by go_num,by rw[HF.o,HD.o,LI (by simpa using hz)]⟩
     case measure=>simp[intOf];omega
    .go_wp2_with (go_at_call 193;refine(vC _ _ xs _ ⟨hn1,hn2⟩ HSL.o).mono ?_;rintro e w' ⟨rfl,rfl⟩);go_ret;exact⟨bJ (by rw[HF.o,HD.o,LH (by simpa using hz)]),hb0⟩
   .go_wp2;go_ret;exact⟨bJ (by rw[HF.o,LZ (by omega)];rfl),hb0⟩
 .have he:kB p n o v xss=a8 p n o v:=by unfold kB;rw[LH (by simpa using hp)]
  rw[he];clear he;go_enter func189,ntmps189;go_wp2_with (go_at_call 63;refine(iX _ _ _ _ _).mono ?_;rintro e w1 ⟨rfl,hb1⟩);go_ret;exact⟨rfl,((Lf _ _).alloc (Lc _) _).trans (hb1.mono (by simp))⟩
def cu:List Int->List Int->Int
 |x::xs,y::ys=>if aI x y=0 then cu xs ys else aI x y
 |_,_=>0
def iy(xs ys:List Int):Int:=cu ys.reverse xs.reverse
theorem vL(xs ys:List Int)(k:Nat)(h:k<xs.length)(h2:k<ys.length):cu (xs.drop k) (ys.drop k)=if aI (xs.getD k 0) (ys.getD k 0)=0 then cu (xs.drop (k+1)) (ys.drop (k+1)) else aI (xs.getD k 0) (ys.getD k 0):=by rw[LY h,LY h2];simp[cu,Lr,h,h2]
theorem vM(xs:List Int)(k:Nat)(h:k<xs.length):(xs.take (k+1)).reverse=xs.getD k 0::(xs.take k).reverse:=by rw[LK h,List.reverse_append];simp[Lr,h]
theorem vN(xs ys:List Int)(k:Nat)(h:k<xs.length)(h2:k<ys.length):cu (ys.take (k+1)).reverse (xs.take (k+1)).reverse=if aI (ys.getD k 0) (xs.getD k 0)=0 then cu (ys.take k).reverse (xs.take k).reverse else aI (ys.getD k 0) (xs.getD k 0):=by rw[vM xs k h,vM ys k h2];simp[cu]
theorem Ca(xs ys:List Int)(b off cap b2 off2 cap2:Nat)(w:World)(hm:xs.length<=3)(hxy:xs.length=ys.length)(hc:eB w b off xs)(hc2:eB w b2 off2 ys):Calls prog 180 #[.slice (some ⟨b,off,none⟩) xs.length cap,.slice (some ⟨b2,off2,none⟩) ys.length cap2] w λe w'=>e=.returned (.int .i64 (cu xs ys))/\w'=w:=by
 have HC:=ac hc;have HC2:=ac hc2;clear hc hc2;rw[<-hxy];have HXY:=ac hxy;clear hxy;go_enter func180,ntmps180;go_wp2;go_loop [11] (λi=>∃k:Nat,k<=xs.length/\i=.int .i64 k/\cu xs ys=cu (xs.drop k) (ys.drop k)) (λi=>xs.length-(intOf i).toNat);case atStart=>exact⟨0,Ll _,rfl,by simp⟩
 case round=>
  obtain⟨k,hk,rfl,hn⟩:=hrel;have HN:=ac hn;clear hn;by_cases hlt:k<xs.length
  .have hcell:=HC.o k hlt;have hcell2:=HC2.o k (by rw[<-HXY.o];exact hlt);have HD:=ac (vL xs ys k hlt (by rw[<-HXY.o];exact hlt));generalize xs.getD k 0=x at hcell HD;generalize ys.getD k 0=y at hcell2 HD;cases hy:(aI x y !=0)
   .go_wp2_with (go_at_call 80;refine(jn _ _ _).mono ?_;rintro e w' ⟨rfl,rfl⟩);go_round;case rel=>exact⟨k+1,by omega,by go_num,by rw[HN.o,HD.o,LI (by simpa using hy)]⟩
    case measure=>simp[intOf];omega
   .go_wp2_with (go_at_call 80;refine(jn _ _ _).mono ?_;rintro e w' ⟨rfl,rfl⟩);go_ret;exact⟨bJ (by rw[HN.o,HD.o,LH (by simpa using hy)]),rfl⟩
  .go_wp2;go_ret;exact⟨bJ (by rw[HN.o,LZ (by omega)];rfl),rfl⟩
theorem Cb(xs ys:List Int)(b off cap b2 off2 cap2:Nat)(w:World)(hm:xs.length<=3)(hxy:xs.length=ys.length)(hc:eB w b off xs)(hc2:eB w b2 off2 ys):Calls prog 179 #[.slice (some ⟨b,off,none⟩) xs.length cap,.slice (some ⟨b2,off2,none⟩) ys.length cap2] w λe w'=>e=.returned (.int .i64 (iy xs ys))/\∃n,w'=w.drewN n:=by
 have HC:=ac hc;have HC2:=ac hc2;clear hc hc2;rw[<-hxy];have HXY:=ac hxy;clear hxy;go_enter func179,ntmps179;go_wp2;go_loopw [5] (λi wr=>∃k n:Nat,k<=xs.length/\i=.int .i64 ((k:Int)-1)/\iy xs ys=cu (ys.take k).reverse (xs.take k).reverse/\wr=w.drewN n) (λi _=>(intOf i+1).toNat);case atStart=>exact⟨xs.length,0,Lc _,rfl,by rw[Lz (by have:=HXY.o;omega),Lz (by omega)];rfl,rfl⟩
 case round=>
  obtain⟨k,n0,hk,rfl,hn,hw0⟩:=hrel;have HN:=ac hn;have HW:=ac hw0;clear hn hw0;cases k with
  |succ k=>
   have hlt:k<xs.length:=by omega
   have hcell:=HC.o k hlt;have hcell2:=HC2.o k (by rw[<-HXY.o];exact hlt);have e1:∀a,wr.cell? a=w.cell? a:=λa=>by rw[HW.o];rfl
   rw[<-e1] at hcell hcell2;clear e1;have HD:=ac (vN xs ys k hlt (by rw[<-HXY.o];exact hlt));have ek:(((k+1:Nat):Int)-1)=(k:Int):=by omega
   rw[ek];clear ek;generalize xs.getD k 0=x at hcell HD;generalize ys.getD k 0=y at hcell2 HD;cases hy:(aI y x !=0)
   .go_wp2;go_quiet ((go_at_call 80;exact Calls.quiet_of_same (jn _ _ _)));go_wp2;go_roundw;case rel=>exact⟨k,_,by omega,rfl,by rw[HN.o,HD.o,LI (by simpa using hy)],by rw[HW.o,World.drewN_drewN]⟩
    case measure=>simp[intOf]
   .go_wp2;go_quiet ((go_at_call 80;exact Calls.quiet_of_same (jn _ _ _)));go_wp2;go_ret;exact⟨bJ (by rw[HN.o,HD.o,LH (by simpa using hy)]),_,by rw[HW.o,World.drewN_drewN]⟩
  |zero=>go_wp2;go_ret;exact⟨bJ (by rw[HN.o];rfl),n0,HW.o⟩
theorem jr{n:Int}{xs:List Int}(h:bQ n xs=0):(xs.length:Int)=n/\(∀x∈xs,0<=x/\x<=200)/\ah xs<=200:=by
 unfold bQ at h;by_cases h1:(xs.length:Int)=n
 .rw[LH (by simp[h1])] at h;cases h2:xs.any ct
  .rw[LH (by simp[h2])] at h;by_cases h3:200<ah xs
   .rw[LI h3] at h;omega
   .exact⟨h1,rD h2,by omega⟩
  .rw[LI h2] at h;omega
 .rw[LI h1] at h;omega
theorem Sl.sls1{w:World}{v:Value}{xs:List Int}{b:Nat}(h:Sl w v xs)(hc:w.cell? ⟨b,0,none⟩=some v):mm w b 0 [xs]:=by intro i hi;simp at hi;subst hi;exact⟨v,hc,h⟩
theorem Cc(p n o v:Int)(x:Value)(xs:List Int)(w:World)(hs:Sl w x xs):Calls prog 178 #[aT p n o v,x] w λe w'=>e=.returned (.int .i64 (kB p n o v [xs]))/\Below w.heap.size w w':=by
 have HS:=ac hs;obtain⟨a,cap,rfl,_⟩:=hs;go_enter func178,ntmps178;go_wp2_with fail;have hb:∀A B,Below w.heap.size w ((w.alloc A).alloc B):=λA B=>((Lf _ _).alloc (Lc _) _).alloc (by simp) _;refine(B9 p n o v [xs] _ _ _ _ (by simp) (by simp) ?_).mono ?_
 .exact(HS.o.below (hb _ _)).sls1 (by simp[go_sem])
 .rintro e w1 ⟨rfl,hb1⟩;go_wp2;go_ret;exact⟨rfl,(hb _ _).trans (hb1.mono (by simp;omega))⟩
def aJ(o:Int)(xs ys:List Int):Int:=
 if aI (ah xs) (ah ys)=0 then (if o=1 then iy xs ys else cu xs ys) else aI (ah xs) (ah ys)
theorem fS{w:World}{A B:Obj}:Below w.heap.size w ((w.alloc A).alloc B):=((Lf _ _).alloc (Lc _) _).alloc (by simp) _
theorem Cd{w W:World}{B:Nat}(h:Below B w W){w':World}(hd:∃n,w'=W.drewN n):Below B w w':=by obtain⟨n,rfl⟩:=hd;exact below_drewN h n
theorem Ce{o:Int}{xs ys:List Int}(h:(aI (ah xs) (ah ys) !=0)=true):aJ o xs ys=aI (ah xs) (ah ys):=by unfold aJ;rw[LH (by simpa using h)]
theorem Cf{xs ys:List Int}(h:(aI (ah xs) (ah ys) !=0)=false):aJ 1 xs ys=iy xs ys:=by unfold aJ;rw[LI (by simpa using h),LI rfl]
theorem Cg{xs ys:List Int}(h:(aI (ah xs) (ah ys) !=0)=false):aJ 2 xs ys=cu xs ys:=by unfold aJ;rw[LI (by simpa using h),LH (by omega)]
theorem bv{w:World}{A:Obj}:Below w.heap.size w (w.alloc A):=(Lf _ _).alloc (Lc _) _
theorem vO(p n o v:Int)(x y:Value)(xs ys:List Int)(w:World)(ho:o=1\/o=2)(h0:0<xs.length)(hm:xs.length<=3)(hxy:xs.length=ys.length)(hbx:∀x∈xs,0<=x/\x<=40000)(hby:∀x∈ys,0<=x/\x<=40000)(hs:Sl w x xs)(hs2:Sl w y ys):Calls prog 164 #[aT p n o v,x,y] w λe w'=>e=.returned (.int .i64 (aJ o xs ys))/\Below w.heap.size w w':=by
 have HXY:=ac hxy;have HBX:=ac hbx;have HBY:=ac hby;have hmy:ys.length<=3:=by omega
 obtain⟨a,cap,rfl,h1⟩:=hs;obtain⟨a2,cap2,rfl,h2⟩:=hs2;obtain⟨b,off,rfl,hlt,hc⟩:=h1 h0;obtain⟨b2,off2,rfl,hlt2,hc2⟩:=h2 (by omega);have HC:=ac hc;have HC2:=ac hc2;clear hxy hbx hby h1 h2 hc hc2;have key:∀w1:World,Below w.heap.size w w1->eB w1 b off xs/\eB w1 b2 off2 ys:=λw1 hb=>⟨λi hi=>by rw[hb.cell (p:=⟨b,off+i,none⟩) hlt];exact HC.o i hi,λi hi=>by rw[hb.cell (p:=⟨b2,off2+i,none⟩) hlt2];exact HC2.o i hi⟩
 have KEY:=ac key;clear key;cases hd:(aI (ah xs) (ah ys) !=0)
 .rcases ho with rfl|rfl
  .rw[Cf hd];go_enter func164,ntmps164;go_wp2_with fail;refine(jo xs _ _ _ _ HBX.o hm (KEY.o _ bv).1).mono ?_;rintro e w' ⟨rfl,rfl⟩;go_wp2_with fail;refine(jo ys _ _ _ _ HBY.o hmy (KEY.o _ bv).2).mono ?_;rintro e w' ⟨rfl,rfl⟩;go_wp2_with fail;refine(jn _ _ _).mono ?_;rintro e w' ⟨rfl,rfl⟩;go_wp2_with fail;refine(Cb xs ys _ _ _ _ _ _ _ hm HXY.o (KEY.o _ bv).1 (KEY.o _ bv).2).mono ?_;rintro e w1 ⟨rfl,hd2⟩;go_wp2;go_ret;exact⟨rfl,Cd bv hd2⟩
  .rw[Cg hd];go_enter func164,ntmps164;go_wp2_with fail;refine(jo xs _ _ _ _ HBX.o hm (KEY.o _ bv).1).mono ?_;rintro e w' ⟨rfl,rfl⟩;go_wp2_with fail;refine(jo ys _ _ _ _ HBY.o hmy (KEY.o _ bv).2).mono ?_;rintro e w' ⟨rfl,rfl⟩;go_wp2_with fail;refine(jn _ _ _).mono ?_;rintro e w' ⟨rfl,rfl⟩;go_wp2_with fail;refine(Ca xs ys _ _ _ _ _ _ _ hm HXY.o (KEY.o _ bv).1 (KEY.o _ bv).2).mono ?_;rintro e w' ⟨rfl,rfl⟩;go_wp2;go_ret;exact⟨rfl,bv⟩
 .rw[Ce hd];go_enter func164,ntmps164;go_wp2_with fail;refine(jo xs _ _ _ _ HBX.o hm (KEY.o _ bv).1).mono ?_;rintro e w' ⟨rfl,rfl⟩;go_wp2_with fail;refine(jo ys _ _ _ _ HBY.o hmy (KEY.o _ bv).2).mono ?_;rintro e w' ⟨rfl,rfl⟩;go_wp2_with fail;refine(jn _ _ _).mono ?_;rintro e w' ⟨rfl,rfl⟩;go_wp2;go_ret;exact⟨rfl,bv⟩
end Go.Proofs.YteimdcndjjclnaaGreat
namespace Go.Proofs.YteimdcndjjclnaaGreat.Cn
open Go.Proofs.Tryz
set_option linter.unusedSimpArgs false
set_option linter.unusedVariables false
abbrev bR:=Nat->Nat
def deg(m:bR):Nat:=m 0+m 1+m 2
def fp:bR:=λ_=>0
def up(x:Nat)(m:bR):bR:=λi=>if i=x then m i+1 else m i
def dn(x:Nat)(m:bR):bR:=λi=>if i=x then m i-1 else m i
def Le(a b:bR):Prop:=∀i,a i<=b i
def cJ(m:bR)(U:List Nat):Prop:=∀i,i∉U->m i=0
def kC(B:bR->Prop):Prop:=∀a b,Le a b->B b->B a
theorem rG{x:Nat}(hx:x<3)(m:bR):deg (up x m)=deg m+1:=by rcases (show x=0\/x=1\/x=2 by omega) with rfl|rfl|rfl<;>simp[deg,up]<;>omega
theorem ll{x:Nat}{m:bR}(h:0<m x):up x (dn x m)=m:=by funext i;simp only[up,dn];split<;>(try subst_vars)<;>omega
theorem vP(x:Nat)(m:bR):dn x (up x m)=m:=by funext i;simp only[up,dn];split<;>omega
theorem vQ{x:Nat}(hx:x<3){m:bR}(h:0<m x):deg m=deg (dn x m)+1:=by rw[<-rG hx,ll h]
theorem Ch{x:Nat}{a b:bR}(h:up x a=up x b):a=b:=by rw[<-vP x a,h,vP]
theorem vR(x:Nat)(m:bR):Le m (up x m):=λi=>by simp only[up];split<;>omega
theorem rH(x:Nat)(m:bR):Le (dn x m) m:=λi=>by simp only[dn];split<;>omega
theorem Ci(x:Nat)(m:bR):0<up x m x:=by simp[up]
theorem Cj{x:Nat}{m:bR}{U:List Nat}(hx:x∈U)(h:cJ m U):cJ (up x m) U:=λi hi=>by have:i≠x:=λe=>hi (e ▸ hx);simp[up,this,h i hi]
theorem nP{a b:bR}{U:List Nat}(h:Le a b)(hb:cJ b U):cJ a U:=λi hi=>by have:=h i;have:=hb i hi;omega
def HF(B:bR->Prop)(t k:Nat):Prop:=∃l:List bR,l.Nodup/\(∀m,m∈l↔B m/\deg m=t)/\l.length=k
theorem HF.congr{B C:bR->Prop}{t k:Nat}(h:HF B t k)(e:∀m,B m↔C m):HF C t k:=by obtain⟨l,h1,h2,h3⟩:=h;exact⟨l,h1,λm=>by rw[h2,e],h3⟩
theorem HF.split{B:bR->Prop}{x t a b:Nat}(hx:x<3)(h0:HF (λm=>B m/\m x=0) (t+1) a)(h1:HF (λm=>B (up x m)) t b):HF B (t+1) (a+b):=by
 obtain⟨l,p1,p2,p3⟩:=h0;obtain⟨k,q1,q2,q3⟩:=h1;refine⟨l++k.map (up x),?_,λm=>?_,by simp[p3,q3]⟩
 .rw[List.nodup_append];refine⟨p1,?_,λu hu v hv e=>?_⟩
  .exact List.Pairwise.map _ (λu v h e=>h (Ch e)) q1
  .obtain⟨w,_,rfl⟩:=LC.1 hv;have h:=(p2 u).1 hu;have:=Ci x w;have h2:=h.1.2;rw[e] at h2;omega
 .rw[Lv,p2,LC];constructor
  .rintro (⟨⟨h1,_⟩,h2⟩|⟨w,hw,rfl⟩)
   .exact⟨h1,h2⟩
   .have h:=(q2 w).1 hw;exact⟨h.1,by rw[rG hx,h.2]⟩
  .rintro ⟨h1,h2⟩;by_cases hz:m x=0
   .exact L0 ⟨⟨h1,hz⟩,h2⟩
   .refine L3 ⟨dn x m,(q2 _).2 ⟨?_,?_⟩,ll (by omega)⟩
    .show B (up x (dn x m));rw[ll (by omega)];exact h1
    .have:=vQ hx (m:=m) (by omega);omega
theorem HF.zero{B:bR->Prop}(h:B fp)(hs:∀m,B m->cJ m [0,1,2]):HF B 0 1:=by
 refine⟨[fp],by simp,λm=>?_,rfl⟩;rw[Lw];constructor
 .rintro rfl;exact⟨h,rfl⟩
 .rintro ⟨h1,h2⟩;funext i;have h3:=hs m h1 i;unfold deg at h2;by_cases hi:i=0\/i=1\/i=2
  .rcases hi with rfl|rfl|rfl<;>(show _=0)<;>omega
  .exact h3 (by simp;omega)
theorem HF.none{B:bR->Prop}{t:Nat}(h:∀m,¬B m):HF B t 0:=⟨[],by simp,λm=>by simp[h m],rfl⟩
theorem HF.uniq{B:bR->Prop}{t a b:Nat}(h:HF B t a)(k:HF B t b):a=b:=by
 obtain⟨l,p1,p2,p3⟩:=h;obtain⟨m,q1,q2,q3⟩:=k;have:l.Perm m:=(List.perm_ext_iff_of_nodup p1 q1).2 λx=>by rw[p2,q2]
 rw[<-p3,<-q3,this.length_eq]
def vS(f:Nat->Nat):Nat->Nat
 |0=>f 0
 |s+1=>vS f s+f (s+1)
def nm:Nat->Nat->Nat
 |0=>λs=>if s=0 then 1 else 0
 |j+1=>vS (nm j)
def fE(q:Nat×Nat)(t:Nat):Nat:=if q.1<=t then nm q.2 (t-q.1) else 0
def bC(Q:List (Nat×Nat))(t:Nat):Nat:=(Q.map λq=>fE q t).sum
theorem pt:∀j,nm j 0=1
 |0=>rfl
 |j+1=>pt j
theorem nQ(j s:Nat):nm (j+1) (s+1)=nm (j+1) s+nm j (s+1):=rfl
def sh(q:Nat×Nat):Nat×Nat:=(q.1+1,q.2)
theorem Ck(q:Nat×Nat)(t:Nat):fE (sh q) (t+1)=fE q t:=by
 show (if q.1+1<=t+1 then nm q.2 (t+1-(q.1+1)) else 0)=if q.1<=t then nm q.2 (t-q.1) else 0
 by_cases h:q.1<=t
 .rw[LI h,LI (Nat.succ_le_succ h),Nat.add_sub_add_right]
 .rw[LH h,LH (by omega)]
theorem Cl(Q:List (Nat×Nat))(t:Nat):bC (Q.map sh) (t+1)=bC Q t:=by unfold bC;rw[List.map_map];congr 1;exact List.map_congr_left λq _=>Ck q t
theorem Cm(Q:List (Nat×Nat)):bC (Q.map sh) 0=0:=by
 unfold bC;induction Q with
 |nil=>rfl
 |cons q Q ih=>simp only[List.map_cons,List.sum_cons];rw[ih];simp[fE,sh]
theorem lm(P Q:List (Nat×Nat))(t:Nat):bC (P++Q) t=bC P t+bC Q t:=by unfold bC;rw[LO,List.sum_append]
theorem HF.all:∀(U:List Nat),U.Nodup->(∀x∈U,x<3)->∀t,HF (λm=>cJ m U) t (nm U.length t)
 |[],_,_,t=>by
  cases t with
  |zero=>exact HF.zero (B:=λm=>cJ m []) (λ_ _=>rfl) (λm h i _=>h i (by simp))
  |succ t=>refine⟨[],by simp,λm=>?_,rfl⟩;simp only[List.not_mem_nil,false_iff];rintro ⟨h1,h2⟩;have:=h1 0 (by simp);have:=h1 1 (by simp);have:=h1 2 (by simp);unfold deg at h2;omega
 |x::U,hn,hx,t=>by
  induction t with
  |zero=>rw[pt];refine HF.zero (B:=λm=>cJ m (x::U)) (λ_ _=>rfl) (λm h i hi=>h i ?_);intro hc;have:=hx i hc;simp at hi;omega
  |succ t ih=>
   have hx3:=hx x (by simp);have hnd:=List.nodup_cons.1 hn;have h0:=HF.all U hnd.2 (λy hy=>hx y (by simp[hy])) (t+1);rw[LN,nQ,Nat.add_comm (nm (U.length+1) t)];refine HF.split hx3 (h0.congr λm=>?_) (ih.congr λm=>?_)
   .constructor
    .intro h;exact⟨λi hi=>h i (by simp at hi;exact hi.2),h x hnd.1⟩
    .rintro ⟨h,hz⟩ i hi;by_cases e:i=x
     .rw[e];exact hz
     .exact h i (by simp[e,hi])
   .constructor
    .exact λh=>Cj (by simp) h
    .exact λh=>nP (vR x m) h
theorem rI(f:Nat->Nat):∃g:Nat->Nat,(∀i,g i<g (i+1))/\∀i,f (g i)<=f (g (i+1)):=by
 have least:∀n,∃k,n<=k/\∀j,n<=j->f k<=f j:=λn=>by
  have:∀b,∀k,n<=k->f k<=b->∃k,n<=k/\∀j,n<=j->f k<=f j:=by
   intro b;induction b with
   |zero=>exact λk hk hb=>⟨k,hk,λj _=>by omega⟩
   |succ b ih=>
    intro k hk hb;by_cases h:∃j,n<=j/\f j<=b
    .obtain⟨j,h1,h2⟩:=h;exact ih j h1 h2
    .exact⟨k,hk,λj hj=>Nat.le_of_not_lt λhlt=>h ⟨j,hj,by omega⟩⟩
  exact this (f n) n (Lc _) (Lc _)
 let c:Nat->Nat:=λn=>(least n).choose;have c1:∀n,n<=c n:=λn=>(least n).choose_spec.1;have c2:∀n j,n<=j->f (c n)<=f j:=λn=>(least n).choose_spec.2;let g:Nat->Nat:=λi=>Nat.rec (c 0) (λ_ r=>c (r+1)) i;have gs:∀i,g (i+1)=c (g i+1):=λ_=>rfl;have g0:g 0=c 0:=rfl;refine⟨g,λi=>by rw[gs];exact c1 _,λi=>?_⟩;have hle:∀i,g i<=g (i+1):=λi=>by rw[gs];exact Lk (Nat.le_succ _) (c1 _)
 have hge:∀i,g i+1<=g (i+1):=λi=>by rw[gs];exact c1 _
 cases i with
 |zero=>rw[g0];exact c2 0 _ (Ll _)
 |succ i=>have h:=c2 (g i+1) (g (i+1+1)) (Lk (hge i) (hle (i+1)));rw[<-gs i] at h;exact h
theorem Co(u:Nat->bR)(hu:∀k,cJ (u k) [0,1,2]):∃i j,i<j/\Le (u i) (u j):=by
 have lt_of:∀{g:Nat->Nat},(∀i,g i<g (i+1))->∀i j,i<j->g i<g j:=fun {g} hg i j hij=>by
  induction j with
  |zero=>omega
  |succ j ih=>
   by_cases h:i=j
   .rw[h];exact hg j
   .exact Nat.lt_trans (ih (by omega)) (hg j)
 have le_of:∀{f g:Nat->Nat},(∀i,f (g i)<=f (g (i+1)))->∀i j,i<=j->f (g i)<=f (g j):=fun {f g} hg i j hij=>by
  induction j with
  |zero=>
   have:i=0:=by omega
   rw[this];exact Lc _
  |succ j ih=>
   by_cases h:i=j+1
   .rw[h];exact Lc _
   .exact Lk (ih (by omega)) (hg j)
 obtain⟨g,g1,g2⟩:=rI λk=>u k 0;obtain⟨h,h1,h2⟩:=rI λk=>u (g k) 1;obtain⟨e,e1,e2⟩:=rI λk=>u (g (h k)) 2;have e01:=e1 0;have a1:=lt_of h1 _ _ e01;refine⟨g (h (e 0)),g (h (e 1)),lt_of g1 _ _ a1,λi=>?_⟩;by_cases hi:i=0\/i=1\/i=2
 .rcases hi with rfl|rfl|rfl
  .exact le_of (f:=λk=>u k 0) g2 _ _ (Nat.le_of_lt a1)
  .exact le_of (f:=λk=>u (g k) 1) h2 _ _ (Nat.le_of_lt e01)
  .exact e2 0
 .rw[hu _ i (by simp;omega)];exact Ll _
theorem Cq:WellFounded fun(A B:{B:bR->Prop//kC B/\∀m,B m->cJ m [0,1,2]})=>(∀m,A.1 m->B.1 m)/\∃m,B.1 m/\¬A.1 m:=by
 apply LP;intro hn;have hex:∃B,¬Acc (fun(A B:{B:bR->Prop//kC B/\∀m,B m->cJ m [0,1,2]})=>(∀m,A.1 m->B.1 m)/\∃m,B.1 m/\¬A.1 m) B:=
  LP λh=>hn ⟨λB=>LP λhb=>h ⟨B,hb⟩⟩
 obtain⟨B0,hB0⟩:=hex;have next:∀B,¬Acc (fun(A B:{B:bR->Prop//kC B/\∀m,B m->cJ m [0,1,2]})=>(∀m,A.1 m->B.1 m)/\∃m,B.1 m/\¬A.1 m) B->∃A,((∀m,A.1 m->B.1 m)/\∃m,B.1 m/\¬A.1 m)/\¬Acc (fun(A B:{B:bR->Prop//kC B/\∀m,B m->cJ m [0,1,2]})=>(∀m,A.1 m->B.1 m)/\∃m,B.1 m/\¬A.1 m) A:=λB hB=>LP λh=>hB ⟨_,λA hA=>LP λhc=>h ⟨A,hA,hc⟩⟩
 let S:Nat->{B//¬Acc (fun(A B:{B:bR->Prop//kC B/\∀m,B m->cJ m [0,1,2]})=>(∀m,A.1 m->B.1 m)/\∃m,B.1 m/\¬A.1 m) B}:=λi=>Nat.rec ⟨B0,hB0⟩ (λ_ r=>⟨(next r.1 r.2).choose,(next r.1 r.2).choose_spec.2⟩) i
 have hS:∀i,(∀m,(S (i+1)).1.1 m->(S i).1.1 m)/\∃m,(S i).1.1 m/\¬(S (i+1)).1.1 m:=λi=>(next (S i).1 (S i).2).choose_spec.1;have anti:∀i j,i<=j->∀m,(S j).1.1 m->(S i).1.1 m:=λi j hij=>by
  induction j with
  |zero=>
   have:i=0:=by omega
   rw[this];exact λm h=>h
  |succ j ih=>
   by_cases h:i=j+1
   .rw[h];exact λm h=>h
   .exact λm hm=>ih (by omega) m ((hS j).1 m hm)
 let u:Nat->bR:=λi=>(hS i).2.choose;have u1:∀i,(S i).1.1 (u i):=λi=>(hS i).2.choose_spec.1;have u2:∀i,¬(S (i+1)).1.1 (u i):=λi=>(hS i).2.choose_spec.2;obtain⟨i,j,hij,hle⟩:=Co u λk=>(S k).1.2.2 _ (u1 k);exact u2 i ((S (i+1)).1.2.1 _ _ hle (anti (i+1) j hij _ (u1 j)))
theorem lp:∀(U Z:List Nat),U.Nodup->(∀x∈U,x∈Z)->U.length<=Z.length
 |[],_,_,_=>Ll _
 |x::U,Z,hn,hs=>by have hx:=hs x (by simp);have hnd:=List.nodup_cons.1 hn;have h:=lp U (Z.erase x) hnd.2 λy hy=>(List.mem_erase_of_ne (λe:y=x=>hnd.1 (e ▸ hy))).2 (hs y (by simp[hy]));have hl:=List.length_erase_of_mem hx;have hp:=List.length_pos_of_mem hx;simp only[LN];omega
def Dm(B:bR->Prop)(U:List Nat)(d:Nat):Prop:=∃Z:List Nat,Z.Nodup/\(∀x∈Z,x∈U)/\Z.length=d/\∀m,cJ m Z->B m
structure rJ(U:List Nat)(B:bR->Prop)(Q:List (Nat×Nat))(d:Nat):Prop where
 hf:∀t,HF B t (bC Q t)
 le:∀q∈Q,q.2<=d
 top:(0,d)∈Q
 dm:Dm B U d
 mx:∀d',Dm B U d'->d'<=d
 std:∀q∈Q,∀e,e<=q.1->∃q'∈Q,q'.1=e/\q.2<=q'.2
 gen:∀g,cJ g U->¬B g->(∀i,0<g i->B (dn i g))->∃q∈Q,deg g<=q.1+1
theorem Cr(m:bR):Le fp m:=λ_=>Ll _
theorem Cs{B:bR->Prop}{U:List Nat}(h:B fp):∃d,Dm B U d/\∀d',Dm B U d'->d'<=d:=by
 have h0:Dm B U 0:=⟨[],List.Pairwise.nil,λx hx=>by simp at hx,rfl,λm hm=>by
  have:m=fp:=by funext i;exact hm i (by simp)
  rw[this];exact h⟩
 have hb:∀d,Dm B U d->d<=U.length:=λd ⟨Z,h1,h2,h3,_⟩=>by rw[<-h3];exact lp Z U h1 h2
 have:∀k d,Dm B U d->U.length<=d+k->∃d,Dm B U d/\∀d',Dm B U d'->d'<=d:=by
  intro k;induction k with
  |zero=>exact λd hd hk=>⟨d,hd,λd' h'=>Lk (hb d' h') (by omega)⟩
  |succ k ih=>
   intro d hd hk;by_cases hm:∃d',Dm B U d'/\d<d'
   .obtain⟨d',h1,h2⟩:=hm;exact ih d' h1 (by omega)
   .exact⟨d,hd,λd' h'=>Nat.le_of_not_lt λhlt=>hm ⟨d',h',hlt⟩⟩
 exact this U.length 0 h0 (by omega)
theorem vT{U:List Nat}{B:bR->Prop}(hn:U.Nodup)(hU:∀x∈U,x<3)(hs:∀m,B m->cJ m U)(hf:∀m,cJ m U->B m):rJ U B [(0,U.length)] U.length:=by
 refine⟨λt=>?_,λq hq=>?_,by simp,⟨U,hn,λx hx=>hx,rfl,hf⟩,λd ⟨Z,h1,h2,h3,_⟩=>by rw[<-h3];exact lp Z U h1 h2,λq hq e he=>?_,λg h1 h2 _=>absurd (hf g h1) h2⟩
 .have h:=(HF.all U hn hU t).congr (C:=B) λm=>⟨hf m,hs m⟩;have e:bC [(0,U.length)] t=nm U.length t:=by simp[bC,fE]
  rw[e];exact h
 .rw[Lw] at hq;rw[hq];exact Lc _
 .rw[Lw] at hq;subst hq;exact⟨_,by simp,by simp at he⊢;omega,Lc _⟩
theorem Ct:∀(n:Nat)(U:List Nat),U.length=n->U.Nodup->(∀x∈U,x<3)->∀B:{B:bR->Prop//kC B/\∀m,B m->cJ m [0,1,2]},(∀m,B.1 m->cJ m U)->B.1 fp->∃Q d,rJ U B.1 Q d:=by
 intro n;induction n with
 |zero=>
  intro U hl hn hU B hs h1;have e:U=[]:=LV.1 hl;subst e;exact⟨_,_,vT hn hU hs λm hm=>by
   have:m=fp:=by funext i;exact hm i (by simp)
   rw[this];exact h1⟩
 |succ n ihn=>
  intro U hl hn hU B;refine Cq.induction (C:=λB=>(∀m,B.1 m->cJ m U)->B.1 fp->∃Q d,rJ U B.1 Q d) B ?_;intro B ih hs h1;by_cases hfull:∀m,cJ m U->B.1 m
  .exact⟨_,_,vT hn hU hs hfull⟩
  obtain⟨d,⟨Z,z1,z2,z3,z4⟩,hmx⟩:=Cs (U:=U) h1;have hx:∃x,x∈U/\x∉Z:=LP λhc=>hfull λm hm=>z4 m λi hi=>hm i λhiU=>hc ⟨i,hiU,hi⟩;obtain⟨x,hxU,hxZ⟩:=hx;have hx3:=hU x hxU;have hE:∀y,y∈U.erase x↔y≠x/\y∈U:=λy=>hn.mem_erase_iff;have hs0:∀m,(B.1 m/\m x=0)->cJ m (U.erase x):=λm hm i hi=>by
   by_cases e:i=x
   .rw[e];exact hm.2
   .exact hs m hm.1 i λhc=>hi ((hE i).2 ⟨e,hc⟩)
  obtain⟨Q0,d0,D0⟩:=ihn (U.erase x) (by rw[List.length_erase_of_mem hxU];omega) (hn.erase x) (λy hy=>hU y ((hE y).1 hy).2) ⟨λm=>B.1 m/\m x=0,λa b hab hb=>⟨B.2.1 a b hab hb.1,by have:=hab x;have:=hb.2;omega⟩,λm hm=>B.2.2 m hm.1⟩ hs0 ⟨h1,rfl⟩;have hd0:d0=d:=by refine Nat.le_antisymm ?_ (D0.mx d ⟨Z,z1,λy hy=>(hE y).2 ⟨λe=>hxZ (e ▸ hy),z2 y hy⟩,z3,λm hm=>⟨z4 m hm,hm x hxZ⟩⟩);obtain⟨Y,y1,y2,y3,y4⟩:=D0.dm;exact hmx d0 ⟨Y,y1,λy hy=>((hE y).1 (y2 y hy)).2,y3,λm hm=>(y4 m hm).1⟩
  subst hd0;have hdn1:kC λm=>B.1 (up x m):=λa b hab hb=>B.2.1 _ _ (λi=>by have:=hab i;simp only[up];split<;>omega) hb;have hsub:∀m,B.1 (up x m)->B.1 m:=λm h=>B.2.1 _ _ (vR x m) h;have hstrict:∃m,B.1 m/\¬B.1 (up x m):=by
   apply LP;intro hc;have hst:∀m,B.1 m->B.1 (up x m):=λm hm=>LP λh=>hc ⟨m,hm,h⟩;have hall:∀k m,m x=k->cJ m (x::Z)->B.1 m:=by
    intro k;induction k with
    |zero=>
     intro m hk hm;refine z4 m λi hi=>?_;by_cases e:i=x
     .rw[e];exact hk
     .exact hm i (by simp[e,hi])
    |succ k ihk=>intro m hk hm;have h:=hst _ (ihk (dn x m) (by simp[dn,hk]) (nP (rH x m) hm));rw[ll (by omega)] at h;exact h
   have hsubZ:∀y∈x::Z,y∈U:=λy hy=>by
    rcases LL.1 hy with rfl|hy
    .exact hxU
    .exact z2 y hy
   have:=hmx (d0+1) ⟨x::Z,List.nodup_cons.2 ⟨hxZ,z1⟩,hsubZ,by simp[z3],λm hm=>hall _ m rfl hm⟩;omega
  have h00:HF B.1 0 1:=HF.zero h1 B.2.2;have h000:=D0.hf 0;have c00:bC Q0 0=1:=h000.uniq (HF.zero (B:=λm=>B.1 m/\m x=0) ⟨h1,rfl⟩ λm hm=>B.2.2 m hm.1);have gen0:∀g,cJ g U->¬B.1 g->(∀i,0<g i->B.1 (dn i g))->g x=0->∃q∈Q0,deg g<=q.1+1:=λg g1 g2 g3 gx=>
   D0.gen g (λi hi=>by
    by_cases e:i=x
    .rw[e];exact gx
    .exact g1 i λhc=>hi ((hE i).2 ⟨e,hc⟩)) (λh=>g2 h.1) λi hi=>⟨g3 i hi,by simp only[dn];split<;>omega⟩
  by_cases hB1:B.1 (up x fp)
  .obtain⟨Q1,d1,D1⟩:=ih ⟨λm=>B.1 (up x m),hdn1,λm hm=>B.2.2 m (hsub m hm)⟩ ⟨hsub,hstrict⟩ (λm hm=>hs m (hsub m hm)) hB1;have hd1:d1<=d0:=by obtain⟨Y,y1,y2,y3,y4⟩:=D1.dm;exact hmx d1 ⟨Y,y1,y2,y3,λm hm=>hsub m (y4 m hm)⟩
   refine⟨Q0++Q1.map sh,d0,⟨λt=>?_,λq hq=>?_,by simp[D0.top],⟨Z,z1,z2,z3,z4⟩,hmx,λq hq e he=>?_,λg g1 g2 g3=>?_⟩⟩
   .rw[lm];cases t with
    |zero=>rw[Cm,c00];exact h00
    |succ t=>rw[Cl];exact HF.split hx3 (D0.hf (t+1)) (D1.hf t)
   .rcases Lv.1 hq with hq|hq
    .exact D0.le q hq
    .obtain⟨q1,h,rfl⟩:=LC.1 hq;exact Lk (D1.le q1 h) hd1
   .rcases Lv.1 hq with hq|hq
    .obtain⟨q',a1,a2,a3⟩:=D0.std q hq e he;exact⟨q',Lv.2 (L0 a1),a2,a3⟩
    .obtain⟨q1,h,rfl⟩:=LC.1 hq;cases e with
     |zero=>exact⟨(0,d0),Lv.2 (L0 D0.top),rfl,Lk (D1.le q1 h) hd1⟩
     |succ e=>obtain⟨q',a1,a2,a3⟩:=D1.std q1 h e (by simp only[sh] at he;omega);exact⟨sh q',Lv.2 (L3 (LC.2 ⟨q',a1,rfl⟩)),by simp[sh,a2],a3⟩
   .by_cases gx:g x=0
    .obtain⟨q,a1,a2⟩:=gen0 g g1 g2 g3 gx;exact⟨q,Lv.2 (L0 a1),a2⟩
    .obtain⟨q,a1,a2⟩:=D1.gen (dn x g) (nP (rH x g) g1) (by show¬B.1 (up x (dn x g));rw[ll (by omega)];exact g2) λi hi=>by
      have hgi:0<g i:=by simp only[dn] at hi;split at hi<;>omega
      have e:up x (dn i (dn x g))=dn i g:=by funext k;simp only[up,dn] at hi⊢;by_cases hk:k=x<;>by_cases hk2:k=i<;>simp[hk,hk2]<;>(try subst hk)<;>(try subst hk2)<;>simp_all<;>omega
      show B.1 (up x (dn i (dn x g)));rw[e];exact g3 i hgi
     have hdg:=vQ hx3 (m:=g) (by omega);exact⟨sh q,Lv.2 (L3 (LC.2 ⟨q,a1,rfl⟩)),by simp only[sh];omega⟩
  .have hnone:∀m,¬B.1 (up x m):=λm hm=>hB1 (hdn1 fp m (Cr m) hm);refine⟨Q0,d0,⟨λt=>?_,D0.le,D0.top,⟨Z,z1,z2,z3,z4⟩,hmx,D0.std,λg g1 g2 g3=>?_⟩⟩
   .cases t with
    |zero=>rw[c00];exact h00
    |succ t=>exact HF.split hx3 (D0.hf (t+1)) (HF.none hnone)
   .by_cases gx:g x=0
    .exact gen0 g g1 g2 g3 gx
    .have h:=g3;have hg1:g=up x fp:=by
      apply LP;intro hne;have hex:∃i,0<dn x g i:=LP λhc=>hne (by
       rw[<-ll (m:=g) (x:=x) (by omega)];congr 1;funext i;have:¬0<dn x g i:=λh=>hc ⟨i,h⟩;show _=0;omega)
      obtain⟨i,hi⟩:=hex;have hgi:0<g i:=by simp only[dn] at hi;split at hi<;>omega
      have h2:=g3 i hgi;refine hnone (dn x (dn i g)) ?_;rw[ll (by simp only[dn] at hi⊢;split<;>simp_all<;>omega)];exact h2
     exact⟨(0,d0),D0.top,by rw[hg1,rG hx3];simp[deg,fp]⟩
end Go.Proofs.YteimdcndjjclnaaGreat.Cn
