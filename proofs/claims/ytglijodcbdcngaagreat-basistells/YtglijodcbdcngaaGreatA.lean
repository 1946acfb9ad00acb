/- Contracts of the small functions: isNaN, Compare, the closures. -/
import Derived.Test.YtglijodcbdcngaaGreatProg
import GoSem.Claim
import GoSem.ClaimJoined
import GoSem.ClaimMapViews
import Derived.JoinedTies
import Derived.KernelRfl
import Derived.RowKit
import Derived.WalkKit
import Derived.WalkSpells
import Derived.WalkLawsBesides
import Derived.BigQuiet
import Derived.Deep.QuietTactic
set_option maxHeartbeats 1000000
namespace Go.Proofs.YtglijodcbdcngaaGreat
set_option linter.unusedSimpArgs false
set_option linter.unusedVariables false
open Go.Proofs.Tryz Go.RowKit
def Ic(p:Prop):Prop:=p
theorem Ic.o{p:Prop}(h:Ic p):p:=h
abbrev Hb:=@World.ownsRow.frozenAt
abbrev Hc:=@World.ownsRow.cellAt
abbrev Hd:=@World.ownsRow.lt
abbrev He:=@Nat.le_refl
abbrev Hf:=@Below.refl
abbrev Hg:=@And.intro
abbrev Hh:=@decide_eq_false
abbrev Hi:=@decide_eq_true
abbrev Hj:=@Nat.lt_of_lt_of_le
abbrev Hk:=@Nat.le_trans
abbrev Hl:=@Nat.zero_le
abbrev Hn:=@bodyPost_ret
abbrev Ho:=@results_none
abbrev Hp:=@List.getElem_mem
abbrev Hq:=@World.ownsRow.stored
abbrev Hr:=@World.block_lt_of_cell?
abbrev Hs:=@List.getD_eq_getElem?_getD
abbrev Ht:=@List.getElem?_eq_getElem
abbrev Hu:=@List.getElem?_eq_none
abbrev Hv:=@List.mem_append
abbrev Hw:=@List.mem_singleton
abbrev Hx:=@List.length_append
abbrev Hy:=@Nat.zero_add
abbrev Hz:=@List.take_of_length_le
abbrev H6:=@Option.some.injEq
abbrev H7:=@Value.slice.injEq
abbrev H8:=@List.mem_map
abbrev Ia:=@List.length_map
abbrev Ib:=@Nat.lt_of_not_le
theorem aa{p:Prop}(h:p):Ic p:=h
theorem cm{k:IntKind}{a b:Int}(h:a=b):Ending.returned (.int k a)=.returned (.int k b):=by rw[h]
def aR(a b:Int):Int:=if a<b then-1 else if b<a then 1 else 0
theorem i5(a b:Int)(w:World):Calls prog 109 #[.int .i64 a,.int .i64 b] w λe w'=>e=.returned (.int .i64 (aR a b))/\w'=w:=by
 unfold aR;by_cases h1:a<b
 ·go_enter func109,ntmps109;go_wp2;go_ret;exact⟨by simp[h1],rfl⟩
 ·by_cases h2:b<a
  ·go_enter func109,ntmps109;go_wp2;go_ret;exact⟨by simp[h1,h2],rfl⟩
  ·go_enter func109,ntmps109;go_wp2;go_ret;exact⟨by simp[h1,h2],rfl⟩
def aS(a b:Int):Int:=if a<b then b else a
def ep(x:Int):Bool:=decide (x<0\/200<x)
theorem sS(x:Int)(w:World):Calls prog 327 #[.int .i64 x] w λe w'=>e=.returned (.bool (ep x))/\w'=w:=by
 unfold ep;by_cases h:x<0
 ·go_enter func327,ntmps327;go_wp2;go_ret;exact⟨by simp[h],rfl⟩
 ·go_enter func327,ntmps327;go_wp2;go_ret;exact⟨by simp;omega,rfl⟩
def cM(w:World)(b off:Nat)(xs:List Int):Prop:=∀i,i<xs.length->w.cell? ⟨b,off+i,none⟩=some (.int .i64 (xs.getD i 0))
def ag:List Int->Int
 |[]=>0
 |x::xs=>x+ag xs
theorem sT(xs:List Int)(k:Nat)(h:k<xs.length):ag (xs.take (k+1))=ag (xs.take k)+xs.getD k 0:=by
 induction xs generalizing k with
 |nil=>simp at h
 |cons x xs ih=>
  cases k with
  |zero=>simp[ag]
  |succ k=>simp only[List.take_succ_cons,ag];rw[ih k (by simpa using h)];simp;omega
theorem jG(xs:List Int)(h:∀x∈xs,0<=x/\x<=40000):0<=ag xs/\ag xs<=40000*xs.length:=by
 induction xs with
 |nil=>simp[ag]
 |cons x xs ih=>have h1:=h x (by simp);have h2:=ih (λy hy=>h y (by simp[hy]));simp only[ag,List.length_cons];omega
theorem gl(xs:List Int)(k:Nat)(h:k<xs.length):xs.getD k 0∈xs:=by rw[Hs,Ht h];simp
theorem ic(xs:List Int)(b off cap:Nat)(w:World)(hxs:∀x∈xs,0<=x/\x<=40000)(hl:xs.length<=3)(hc:cM w b off xs):Calls prog 56 #[.slice (some ⟨b,off,none⟩) xs.length cap] w λe w'=>e=.returned (.int .i64 (ag xs))/\w'=w:=by
 have HC:Ic (cM w b off xs):=hc;clear hc;go_enter func56,ntmps56;go_wp2;go_loop [3,8] (λn i=>∃k:Nat,k<=xs.length/\i=.int .i64 k/\n=.int .i64 (ag (xs.take k))) (λ_ i=>xs.length-(intOf i).toNat);case atStart=>exact⟨0,Hl _,rfl,rfl⟩
 case round=>
  obtain⟨k,hk,rfl,rfl⟩:=hrel;have hd:=jG (xs.take k) (λx hx=>hxs x (List.mem_of_mem_take hx));have hl2:(xs.take k).length<=k:=List.length_take_le _ _;by_cases hlt:k<xs.length
  ·have hsn:=sT xs k hlt;have hb:=hxs _ (gl xs k hlt);have hcell:=HC.o k hlt;generalize xs.getD k 0=y at hsn hb hcell;have HS:Ic (ag (xs.take (k+1))=ag (xs.take k)+y):=hsn;clear hsn hxs;go_wp2;go_round;case rel=>exact⟨k+1,by omega,by go_num,by rw[HS.o]⟩
   case measure=>simp[intOf];omega
  ·go_wp2;go_ret;exact⟨cm (by rw[Hz (by omega)]),rfl⟩
def Sl(w:World)(v:Value)(xs:List Int):Prop:=
 ∃a cap,v=.slice a xs.length cap/\(0<xs.length->∃b off,a=some ⟨b,off,none⟩/\b<w.heap.size/\cM w b off xs)
theorem Sl.below{w w':World}{v:Value}{xs:List Int}(h:Sl w v xs)(hb:Below w.heap.size w w'):Sl w' v xs:=by obtain⟨a,cap,rfl,h⟩:=h;refine⟨a,cap,rfl,λhp=>?_⟩;obtain⟨b,off,rfl,hlt,hc⟩:=h hp;refine⟨b,off,rfl,Hj hlt hb.size,λi hi=>?_⟩;rw[hb.cell (p:=⟨b,off+i,none⟩) hlt];exact hc i hi
theorem pG(f:Int->Bool)(xs:List Int)(k:Nat)(h:k<xs.length)(h0:(xs.take k).any f=false)(h1:f (xs.getD k 0)=false):(xs.take (k+1)).any f=false:=by rw[List.take_succ_eq_append_getElem h,List.any_append,h0];rw[Hs,Ht h] at h1;simpa using h1
theorem nK(f:Int->Bool)(xs:List Int)(k:Nat)(h:k<xs.length)(h1:f (xs.getD k 0)=true):xs.any f=true:=by rw[List.any_eq_true];exact⟨_,gl xs k h,h1⟩
theorem zA(xs:List Int)(b off cap:Nat)(w:World)(hm:xs.length<=3)(hc:cM w b off xs):Calls prog 83 #[.slice (some ⟨b,off,none⟩) xs.length cap,.func (.func 327) #[] #[]] w λe w'=>∃r:Int,e=.returned (.int .i64 r)/\decide (0<=r)=xs.any ep/\w'=w:=by
 have HC:Ic (cM w b off xs):=hc;clear hc;go_enter func83,ntmps83;go_wp2;go_loop [8] (λi=>∃k:Nat,k<=xs.length/\i=.int .i64 k/\(xs.take k).any ep=false) (λi=>xs.length-(intOf i).toNat);case atStart=>exact⟨0,Hl _,rfl,by simp⟩
 case round=>
  obtain⟨k,hk,rfl,hn⟩:=hrel;have HN:Ic ((xs.take k).any ep=false):=hn;clear hn;by_cases hlt:k<xs.length
  ·have hcell:=HC.o k hlt;have h1:=pG ep xs k hlt HN.o;have h2:=nK ep xs k hlt;have H1:=aa h1;have H2:=aa h2;clear h1 h2;generalize xs.getD k 0=y at hcell H1 H2;cases hy:ep y
   ·go_wp2_with (go_at_call 327;refine(sS _ _).mono ?_;rintro e w' ⟨rfl,rfl⟩);go_round;case rel=>exact⟨k+1,by omega,by go_num,H1.o hy⟩
    case measure=>simp[intOf];omega
   ·go_wp2_with (go_at_call 327;refine(sS _ _).mono ?_;rintro e w' ⟨rfl,rfl⟩);go_ret;exact⟨(k:Int),rfl,by rw[H2.o hy];simp,rfl⟩
  ·go_wp2;go_ret;exact⟨-1,rfl,by have:=HN.o;rw[Hz (by omega)] at this;rw[this];simp,rfl⟩
theorem pH(xs:List Int)(b off cap:Nat)(w:World)(hm:xs.length<=3)(hc:cM w b off xs):Calls prog 43 #[.slice (some ⟨b,off,none⟩) xs.length cap,.func (.func 327) #[] #[]] w λe w'=>e=.returned (.bool (xs.any ep))/\w'=w:=by
 have HC:=aa hc;clear hc;go_enter func43,ntmps43;go_wp2_with (go_at_call 83;refine(zA xs _ _ _ _ hm HC.o).mono ?_;rintro e w' ⟨r,rfl,hr,rfl⟩);go_ret;exact⟨by rw[<-hr];rfl,rfl⟩
def bL(n:Int)(xs:List Int):Int:=if (xs.length:Int)≠n then 1 else if xs.any ep then 3 else if 200<ag xs then 3 else 0
theorem pI{xs:List Int}(h:xs.any ep=false):∀x∈xs,0<=x/\x<=200:=by intro x hx;rw[List.any_eq_false] at h;have:=h x hx;simp[ep] at this;omega
theorem sU(n:Int)(v:Value)(xs:List Int)(w:World)(hn:1<=n/\n<=3)(hs:Sl w v xs):Calls prog 314 #[.int .i64 n,v] w λe w'=>e=.returned (.int .i64 (bL n xs))/\w'=w:=by
 obtain⟨a,cap,rfl,hs⟩:=hs;obtain⟨hn1,hn2⟩:=hn;by_cases hl:(xs.length:Int)=n
 ·subst hl;obtain⟨b,off,rfl,_,hc⟩:=hs (by omega);clear hs;have HC:=aa hc;clear hc;have hm:xs.length<=3:=by omega
  cases hy:xs.any ep
  ·have hb:=pI hy;have hb2:=aa (show∀x∈xs,0<=x/\x<=40000 from λx hx=>by have:=hb x hx;omega);clear hb;by_cases hd:200<ag xs
   ·have he:bL xs.length xs=3:=by simp[bL,hy,hd]
    rw[he];clear he;go_enter func314,ntmps314;go_wp2_with (first|(go_at_call 43;refine(pH xs _ _ _ _ hm HC.o).mono ?_;rintro e w' ⟨rfl,rfl⟩)|(go_at_call 56;refine(ic xs _ _ _ _ hb2.o hm HC.o).mono ?_;rintro e w' ⟨rfl,rfl⟩));go_ret;exact⟨rfl,rfl⟩
   ·have he:bL xs.length xs=0:=by simp[bL,hy,hd]
    rw[he];clear he;go_enter func314,ntmps314;go_wp2_with (first|(go_at_call 43;refine(pH xs _ _ _ _ hm HC.o).mono ?_;rintro e w' ⟨rfl,rfl⟩)|(go_at_call 56;refine(ic xs _ _ _ _ hb2.o hm HC.o).mono ?_;rintro e w' ⟨rfl,rfl⟩));go_ret;exact⟨rfl,rfl⟩
  ·have he:bL xs.length xs=3:=by simp[bL,hy]
   rw[he];clear he;go_enter func314,ntmps314;go_wp2_with (go_at_call 43;refine(pH xs _ _ _ _ hm HC.o).mono ?_;rintro e w' ⟨rfl,rfl⟩);go_ret;exact⟨rfl,rfl⟩
 ·have he:bL n xs=1:=by simp[bL,hl]
  rw[he];clear he hs;have hl2:((xs.length:Int) !=n)=true:=by simpa using hl
  clear hl;go_enter func314,ntmps314;go_wp2;go_ret;exact⟨rfl,rfl⟩
def eu(p n:Nat):Bool:=(List.range n).all λd=>d<2||p%d !=0
def jH(p:Int):Bool:=eu p.toNat p.toNat
def aZ(p:Int):Int:=if p<2\/101<p then 3 else if jH p then 0 else 4
theorem sV(p n:Nat):eu p (n+1)=(eu p n&&(n<2||p%n !=0)):=by simp[eu,List.range_succ,List.all_append]
theorem sW{p n m:Nat}(h:eu p n=false)(hm:n<=m):eu p m=false:=by
 induction hm with
 |refl=>exact h
 |step _ ih=>rw[sV,ih];rfl
theorem zB:∀p,p<102->∀k,k<12->p<k*k->eu p k=true->eu p p=true:=by decide+kernel
theorem sX{p k:Nat}(h2:2<=k)(h:eu p k=true):eu p (k+1)=(p%k !=0):=by
 rw[sV,h];have:¬k<2:=by omega
 simp[this]
theorem sY(p k:Nat)(h:0<k):((p:Int)%(k:Int)==0)=!(p%k !=0):=by
 have:((p:Int)%(k:Int))=((p%k:Nat):Int):=by omega
 rw[this];cases hh:p%k with
 |zero=>rfl
 |succ n=>simp;omega
theorem sZ{n:Nat}(h1:2<=n)(h2:n<=101)(h:eu n n=true):aZ (n:Int)=0:=by have hp:jH (n:Int)=true:=h;unfold aZ;rw[if_neg (by omega),if_pos hp]
theorem td{n:Nat}(h1:2<=n)(h2:n<=101)(h:eu n n=false):aZ (n:Int)=4:=by have hp:jH (n:Int)=false:=h;unfold aZ;rw[if_neg (by omega),if_neg (by simp[hp])]
theorem i6(p:Int)(w:World):Calls prog 92 #[.int .i64 p] w λe w'=>e=.returned (.int .i64 (aZ p))/\w'=w:=by
 by_cases h1:p<2
 ·have he:aZ p=3:=by simp[aZ,h1]
  rw[he];clear he;go_enter func92,ntmps92;go_wp2;go_ret;exact⟨rfl,rfl⟩
 by_cases h2:101<p
 ·have he:aZ p=3:=by simp[aZ,h2]
  rw[he];clear he;go_enter func92,ntmps92;go_wp2;go_ret;exact⟨rfl,rfl⟩
 obtain⟨n,rfl⟩:∃n:Nat,p=n:=⟨p.toNat,by omega⟩;have hn1:2<=n:=by omega
 have hn2:n<=101:=by omega
 clear h1 h2;go_enter func92,ntmps92;go_wp2;go_loop [3] (λd=>∃k:Nat,2<=k/\k<=11/\d=.int .i64 k/\eu n k=true) (λd=>12-(intOf d).toNat);case atStart=>exact⟨2,by omega,by omega,rfl,rfl⟩
 case round=>
  obtain⟨k,hk1,hk2,rfl,hnd⟩:=hrel;have HN:=aa hnd;clear hnd;by_cases hlt:k*k<=n
  ·have hk3:k<=10:=by apply Nat.le_of_not_lt;intro h;have:11*11<=k*k:=Nat.mul_le_mul h h;omega
   have hlt2:(k:Int)*k<=n:=by exact_mod_cast hlt
   have hkk:(k:Int)*k<=101:=by omega
   have hk0:(0:Int)<=(k:Int)*k:=by exact_mod_cast Hl _
   have hat:=sX (p:=n) hk1 HN.o;have hmc:=sY n k (by omega);cases hz:(n%k !=0)
   ·rw[hz] at hat hmc;have HA:=aa hat;clear hat;have hmc2:((n:Int)%(k:Int)==0)=true:=hmc;clear hmc hz;go_wp2;go_ret;exact⟨cm (by
     have hkn:k+1<=n:=by have:2*k<=k*k:=Nat.mul_le_mul_right k hk1;omega
     exact(td hn1 hn2 (sW HA.o hkn)).symm),rfl⟩
   ·rw[hz] at hat hmc;have HA:=aa hat;clear hat;have hmc2:((n:Int)%(k:Int)==0)=false:=hmc;clear hmc hz;go_wp2;go_round;case rel=>exact⟨k+1,by omega,by omega,by go_num,HA.o⟩
    case measure=>simp[intOf];omega
  ·have hlt2:¬(k:Int)*k<=n:=by intro h;apply hlt;exact_mod_cast h
   have hk0:(0:Int)<=(k:Int)*k:=by exact_mod_cast Hl _
   have hk9:(k:Int)*k<=121:=by
    have:k*k<=11*11:=Nat.mul_le_mul hk2 hk2
    exact_mod_cast this
   go_wp2;go_ret;exact⟨cm (sZ hn1 hn2 (zB n (by omega) k (by omega) (by omega) HN.o)).symm,rfl⟩
def bW(n a b:Int):Bool:=decide (a<=n)&&decide (n<=b)
theorem fd(n a b:Int)(w:World):Calls prog 41 #[.int .i64 n,.int .i64 a,.int .i64 b] w λe w'=>e=.returned (.bool (bW n a b))/\w'=w:=by
 by_cases h:a<=n
 ·have he:bW n a b=decide (n<=b):=by simp[bW,h]
  rw[he];clear he;go_enter func41,ntmps41;go_wp2;go_ret;exact⟨rfl,rfl⟩
 ·have he:bW n a b=false:=by simp[bW,h]
  rw[he];clear he;go_enter func41,ntmps41;go_wp2;go_ret;exact⟨rfl,rfl⟩
theorem mt(p:Int)(w:World):Calls prog 67 #[.int .i64 p] w λe w'=>e=.returned (.int .i64 (aZ p))/\w'=w:=by
 cases hb:bW p 2 101
 ·have he:aZ p=3:=by simp[bW] at hb;unfold aZ;rw[if_pos (by omega)]
  rw[he];clear he;go_enter func67,ntmps67;go_wp2_with (go_at_call 41;refine(fd _ _ _ _).mono ?_;rintro e w' ⟨rfl,rfl⟩);go_ret;exact⟨rfl,rfl⟩
 ·have hb2:2<=p/\p<=101:=by simpa [bW] using hb
  obtain⟨n,rfl⟩:∃n:Nat,p=n:=⟨p.toNat,by omega⟩;have hn1:2<=n:=by omega
  have hn2:n<=101:=by omega
  clear hb2;go_enter func67,ntmps67;go_wp2_with (go_at_call 41;refine(fd _ _ _ _).mono ?_;rintro e w' ⟨rfl,rfl⟩);go_loop [3] (λd=>∃k:Nat,2<=k/\k<=n/\d=.int .i64 k/\eu n k=true) (λd=>102-(intOf d).toNat);case atStart=>exact⟨2,by omega,by omega,rfl,rfl⟩
  case round=>
   obtain⟨k,hk1,hk2,rfl,hnd⟩:=hrel;have HN:=aa hnd;clear hnd;by_cases hlt:k<n
   ·have hat:=sX (p:=n) hk1 HN.o;have hmc:=sY n k (by omega);cases hz:(n%k !=0)
    ·rw[hz] at hat hmc;have HA:=aa hat;clear hat;have hmc2:((n:Int)%(k:Int)==0)=true:=hmc;clear hmc hz;go_wp2;go_ret;exact⟨cm (td hn1 hn2 (sW HA.o hlt)).symm,rfl⟩
    ·rw[hz] at hat hmc;have HA:=aa hat;clear hat;have hmc2:((n:Int)%(k:Int)==0)=false:=hmc;clear hmc hz;go_wp2;go_round;case rel=>exact⟨k+1,by omega,by omega,by go_num,HA.o⟩
     case measure=>simp[intOf];omega
   ·have hkn:k=n:=by omega
    subst hkn;go_wp2;go_ret;exact⟨cm (sZ hn1 hn2 HN.o).symm,rfl⟩
def bo(p n o v:Int):Int:=if aZ p≠0 then aZ p else if n<1\/3<n then 3 else if (o≠1/\o≠2)\/(v≠1/\v≠2) then 6 else 0
abbrev az(p n o v:Int):Value:=.agg #[.int .i64 p,.int .i64 n,.int .i64 o,.int .i64 v]
theorem th{p n o v:Int}(h:(aZ p !=0)=true):bo p n o v=aZ p:=by
 have:aZ p≠0:=by simpa using h
 unfold bo;rw[if_pos this]
theorem pJ{p n o v:Int}(h:(aZ p !=0)=false)(hn:n<1\/3<n):bo p n o v=3:=by
 have:¬aZ p≠0:=by simpa using h
 unfold bo;rw[if_neg this,if_pos hn]
theorem nL{p n o v:Int}(h:(aZ p !=0)=false)(hn:¬(n<1\/3<n))(hk:(o≠1/\o≠2)\/(v≠1/\v≠2)):bo p n o v=6:=by
 have:¬aZ p≠0:=by simpa using h
 unfold bo;rw[if_neg this,if_neg hn,if_pos hk]
theorem ti{p n o v:Int}(h:(aZ p !=0)=false)(hn:¬(n<1\/3<n))(hk:¬((o≠1/\o≠2)\/(v≠1/\v≠2))):bo p n o v=0:=by
 have:¬aZ p≠0:=by simpa using h
 unfold bo;rw[if_neg this,if_neg hn,if_neg hk]
theorem i7(p n o v:Int)(w:World):Calls prog 50 #[az p n o v] w λe w'=>e=.returned (.int .i64 (bo p n o v))/\Below w.heap.size w w':=by
 cases hp:(aZ p !=0)
 ·by_cases hn1:n<1
  ·rw[pJ hp (Or.inl hn1)];go_enter func50,ntmps50;go_wp2_with (go_at_call 92;refine(i6 _ _).mono ?_;rintro e w' ⟨rfl,rfl⟩);go_ret;exact⟨rfl,(Hf _ _).alloc (He _) _⟩
  by_cases hn3:3<n
  ·rw[pJ hp (Or.inr hn3)];go_enter func50,ntmps50;go_wp2_with (go_at_call 92;refine(i6 _ _).mono ?_;rintro e w' ⟨rfl,rfl⟩);go_ret;exact⟨rfl,(Hf _ _).alloc (He _) _⟩
  have hn:¬(n<1\/3<n):=by omega
  by_cases ho:o≠1/\o≠2
  ·rw[nL hp hn (Or.inl ho)];obtain⟨ho1,ho2⟩:=ho;have ho1':(o !=1)=true:=by simpa using ho1
   have ho2':(o !=2)=true:=by simpa using ho2
   clear ho1 ho2 hn;go_enter func50,ntmps50;go_wp2_with (go_at_call 92;refine(i6 _ _).mono ?_;rintro e w' ⟨rfl,rfl⟩);go_ret;exact⟨rfl,(Hf _ _).alloc (He _) _⟩
  by_cases hv:v≠1/\v≠2
  ·rw[nL hp hn (Or.inr hv)];obtain⟨hv1,hv2⟩:=hv;have hv1':(v !=1)=true:=by simpa using hv1
   have hv2':(v !=2)=true:=by simpa using hv2
   have ho':o=1\/o=2:=by omega
   clear hv1 hv2 hn ho;rcases ho' with rfl|rfl;all_goals
    go_enter func50,ntmps50;go_wp2_with (go_at_call 92;refine(i6 _ _).mono ?_;rintro e w' ⟨rfl,rfl⟩);go_ret;exact⟨rfl,(Hf _ _).alloc (He _) _⟩
  ·rw[ti hp hn (by omega)];have ho':o=1\/o=2:=by omega
   have hv':v=1\/v=2:=by omega
   clear hv hn ho;rcases ho' with rfl|rfl<;>rcases hv' with rfl|rfl;all_goals
    go_enter func50,ntmps50;go_wp2_with (go_at_call 92;refine(i6 _ _).mono ?_;rintro e w' ⟨rfl,rfl⟩);go_ret;exact⟨rfl,(Hf _ _).alloc (He _) _⟩
 ·rw[th hp];go_enter func50,ntmps50;go_wp2_with (go_at_call 92;refine(i6 _ _).mono ?_;rintro e w' ⟨rfl,rfl⟩);go_ret;exact⟨rfl,(Hf _ _).alloc (He _) _⟩
theorem tj(p n o v:Int)(w:World):Calls prog 24 #[az p n o v] w λe w'=>e=.returned (.int .i64 (bo p n o v))/\Below w.heap.size w w':=by
 have arm:∀x,bW x 1 2=true↔(x=1\/x=2):=λx=>by simp[bW];omega
 cases hp:(aZ p !=0)
 ·cases hn:bW n 1 3
  ·rw[pJ hp (by simp[bW] at hn;omega)];clear arm;go_enter func24,ntmps24;go_wp2_with (first|(go_at_call 67;refine(mt _ _).mono ?_;rintro e w' ⟨rfl,rfl⟩)|(go_at_call 41;refine(fd _ _ _ _).mono ?_;rintro e w' ⟨rfl,rfl⟩));go_ret;exact⟨rfl,(Hf _ _).alloc (He _) _⟩
  have hn':¬(n<1\/3<n):=by simp[bW] at hn;omega
  cases ho:bW o 1 2
  ·have:=arm o;rw[nL hp hn' (by rw[ho] at this;simp at this;omega)];clear arm this hn';go_enter func24,ntmps24;go_wp2_with (first|(go_at_call 67;refine(mt _ _).mono ?_;rintro e w' ⟨rfl,rfl⟩)|(go_at_call 41;refine(fd _ _ _ _).mono ?_;rintro e w' ⟨rfl,rfl⟩));go_ret;exact⟨rfl,(Hf _ _).alloc (He _) _⟩
  cases hv:bW v 1 2
  ·have:=arm v;rw[nL hp hn' (by rw[hv] at this;simp at this;omega)];clear arm this hn';go_enter func24,ntmps24;go_wp2_with (first|(go_at_call 67;refine(mt _ _).mono ?_;rintro e w' ⟨rfl,rfl⟩)|(go_at_call 41;refine(fd _ _ _ _).mono ?_;rintro e w' ⟨rfl,rfl⟩));go_ret;exact⟨rfl,(Hf _ _).alloc (He _) _⟩
  ·have h1:=(arm v).1 hv;have h2:=(arm o).1 ho;rw[ti hp hn' (by omega)];clear arm h1 h2 hn';go_enter func24,ntmps24;go_wp2_with (first|(go_at_call 67;refine(mt _ _).mono ?_;rintro e w' ⟨rfl,rfl⟩)|(go_at_call 41;refine(fd _ _ _ _).mono ?_;rintro e w' ⟨rfl,rfl⟩));go_ret;exact⟨rfl,(Hf _ _).alloc (He _) _⟩
 ·rw[th hp];clear arm;go_enter func24,ntmps24;go_wp2_with (go_at_call 67;refine(mt _ _).mono ?_;rintro e w' ⟨rfl,rfl⟩);go_ret;exact⟨rfl,(Hf _ _).alloc (He _) _⟩
theorem zC{W w1:World}(hb:Below W.heap.size W w1):(∀b o,b<W.heap.size->w1.cell? ⟨b,o,none⟩=W.cell? ⟨b,o,none⟩)/\(∀b o,b<W.heap.size->w1.frozen? ⟨b,o,none⟩=W.frozen? ⟨b,o,none⟩):=
 ⟨λb o h=>hb.cell (p:=⟨b,o,none⟩) h,λb o h=>hb.frozen (p:=⟨b,o,none⟩) h⟩
def i8(n:Int):List (List Int)->Int
 |[]=>0
 |xs::r=>if bL n xs=0 then i8 n r else bL n xs
def kW(w:World)(b off:Nat)(xss:List (List Int)):Prop:=
 ∀i,i<xss.length->∃v,w.cell? ⟨b,off+i,none⟩=some v/\Sl w v (xss.getD i [])
theorem kW.below{w w':World}{b off:Nat}{xss:List (List Int)}(h:kW w b off xss)(hlt:b<w.heap.size)(hb:Below w.heap.size w w'):kW w' b off xss:=by intro i hi;obtain⟨v,hc,hs⟩:=h i hi;exact⟨v,by rw[hb.cell (p:=⟨b,off+i,none⟩) hlt];exact hc,hs.below hb⟩
theorem zD(n:Int)(xss:List (List Int))(k:Nat)(h:k<xss.length):i8 n (xss.drop k)=if bL n (xss.getD k [])=0 then i8 n (xss.drop (k+1)) else bL n (xss.getD k []):=by rw[List.drop_eq_getElem_cons h];simp[i8,Hs,h]
def jI(p n o v:Int)(xss:List (List Int)):Int:=if bo p n o v=0 then i8 n xss else bo p n o v
theorem kX{p n o v:Int}(h:bo p n o v=0):aZ p=0/\1<=n/\n<=3/\(o=1\/o=2)/\(v=1\/v=2):=by
 unfold bo at h;by_cases h1:aZ p=0
 ·rw[if_neg (by simp[h1])] at h;by_cases h2:n<1\/3<n
  ·rw[if_pos h2] at h;omega
  ·rw[if_neg h2] at h;by_cases h3:(o≠1/\o≠2)\/(v≠1/\v≠2)
   ·rw[if_pos h3] at h;omega
   ·exact⟨h1,by omega,by omega,by omega,by omega⟩
 ·rw[if_pos h1] at h;exact absurd h h1
theorem zE(p n o v:Int)(xss:List (List Int))(b off cap:Nat)(w:World)(hl:xss.length<=2)(hlt:b<w.heap.size)(hs:kW w b off xss):Calls prog 290 #[az p n o v,.slice (some ⟨b,off,none⟩) xss.length cap] w λe w'=>e=.returned (.int .i64 (jI p n o v xss))/\Below w.heap.size w w':=by
 have HS:=aa hs;clear hs;cases hp:(bo p n o v !=0)
 ·have hp0:bo p n o v=0:=by simpa using hp
  obtain⟨_,hn1,hn2,_⟩:=kX hp0;have he:jI p n o v xss=i8 n xss:=by unfold jI;rw[if_pos hp0]
  rw[he];clear he hp0;go_enter func290,ntmps290;go_wp2_with (go_at_call 50;refine(i7 _ _ _ _ _).mono ?_;rintro e w1 ⟨rfl,hb1⟩);have hb0:Below w.heap.size w w1:=((Hf _ _).alloc (He _) _).trans (hb1.mono (by simp));obtain⟨hcl,_⟩:=zC hb1;have hbox:w1.cell? ⟨w.heap.size,1,none⟩=some (.int .i64 n):=by rw[hcl _ _ (by simp)];simp[go_sem]
  have HS1:=aa (HS.o.below hlt hb0);clear hcl HS;go_loop [16] (λi=>∃k:Nat,k<=xss.length/\i=.int .i64 k/\i8 n xss=i8 n (xss.drop k)) (λi=>xss.length-(intOf i).toNat);case atStart=>exact⟨0,Hl _,rfl,by simp⟩
  case round=>
   obtain⟨k,hk,rfl,hf⟩:=hrel;have HF:=aa hf;clear hf;by_cases hk2:k<xss.length
   ·obtain⟨vv,hcell,hsl⟩:=HS1.o k hk2;have HSL:=aa hsl;have HD:=aa (zD n xss k hk2);clear hsl;generalize xss.getD k []=xs at HSL HD;obtain⟨a,cc,hvv,_⟩:=HSL.o;subst hvv;cases hz:(bL n xs !=0)
    ·go_wp2_with (go_at_call 314;refine(sU _ _ xs _ ⟨hn1,hn2⟩ HSL.o).mono ?_;rintro e w' ⟨rfl,rfl⟩);go_round;case rel=>exact⟨k+1,by omega,by go_num,by rw[HF.o,HD.o,if_pos (by simpa using hz)]⟩
     case measure=>simp[intOf];omega
    ·go_wp2_with (go_at_call 314;refine(sU _ _ xs _ ⟨hn1,hn2⟩ HSL.o).mono ?_;rintro e w' ⟨rfl,rfl⟩);go_ret;exact⟨cm (by rw[HF.o,HD.o,if_neg (by simpa using hz)]),hb0⟩
   ·go_wp2;go_ret;exact⟨cm (by rw[HF.o,List.drop_eq_nil_of_le (by omega)];rfl),hb0⟩
 ·have he:jI p n o v xss=bo p n o v:=by unfold jI;rw[if_neg (by simpa using hp)]
  rw[he];clear he;go_enter func290,ntmps290;go_wp2_with (go_at_call 50;refine(i7 _ _ _ _ _).mono ?_;rintro e w1 ⟨rfl,hb1⟩);go_ret;exact⟨rfl,((Hf _ _).alloc (He _) _).trans (hb1.mono (by simp))⟩
def bF:List Int->List Int->Int
 |x::xs,y::ys=>if aR x y=0 then bF xs ys else aR x y
 |_,_=>0
def fT(xs ys:List Int):Int:=bF ys.reverse xs.reverse
theorem tn(xs ys:List Int)(k:Nat)(h:k<xs.length)(h2:k<ys.length):bF (xs.drop k) (ys.drop k)=if aR (xs.getD k 0) (ys.getD k 0)=0 then bF (xs.drop (k+1)) (ys.drop (k+1)) else aR (xs.getD k 0) (ys.getD k 0):=by rw[List.drop_eq_getElem_cons h,List.drop_eq_getElem_cons h2];simp[bF,Hs,h,h2]
theorem tp(xs:List Int)(k:Nat)(h:k<xs.length):(xs.take (k+1)).reverse=xs.getD k 0::(xs.take k).reverse:=by rw[List.take_succ_eq_append_getElem h,List.reverse_append];simp[Hs,h]
theorem tt(xs ys:List Int)(k:Nat)(h:k<xs.length)(h2:k<ys.length):bF (ys.take (k+1)).reverse (xs.take (k+1)).reverse=if aR (ys.getD k 0) (xs.getD k 0)=0 then bF (ys.take k).reverse (xs.take k).reverse else aR (ys.getD k 0) (xs.getD k 0):=by rw[tp xs k h,tp ys k h2];simp[bF]
theorem zF(xs ys:List Int)(b off cap b2 off2 cap2:Nat)(w:World)(hm:xs.length<=3)(hxy:xs.length=ys.length)(hc:cM w b off xs)(hc2:cM w b2 off2 ys):Calls prog 264 #[.slice (some ⟨b,off,none⟩) xs.length cap,.slice (some ⟨b2,off2,none⟩) ys.length cap2] w λe w'=>e=.returned (.int .i64 (bF xs ys))/\w'=w:=by
 have HC:=aa hc;have HC2:=aa hc2;clear hc hc2;rw[<-hxy];have HXY:=aa hxy;clear hxy;go_enter func264,ntmps264;go_wp2;go_loop [11] (λi=>∃k:Nat,k<=xs.length/\i=.int .i64 k/\bF xs ys=bF (xs.drop k) (ys.drop k)) (λi=>xs.length-(intOf i).toNat);case atStart=>exact⟨0,Hl _,rfl,by simp⟩
 case round=>
  obtain⟨k,hk,rfl,hn⟩:=hrel;have HN:=aa hn;clear hn;by_cases hlt:k<xs.length
  ·have hcell:=HC.o k hlt;have hcell2:=HC2.o k (by rw[<-HXY.o];exact hlt);have HD:=aa (tn xs ys k hlt (by rw[<-HXY.o];exact hlt));generalize xs.getD k 0=x at hcell HD;generalize ys.getD k 0=y at hcell2 HD;cases hy:(aR x y !=0)
   ·go_wp2_with (go_at_call 109;refine(i5 _ _ _).mono ?_;rintro e w' ⟨rfl,rfl⟩);go_round;case rel=>exact⟨k+1,by omega,by go_num,by rw[HN.o,HD.o,if_pos (by simpa using hy)]⟩
    case measure=>simp[intOf];omega
   ·go_wp2_with (go_at_call 109;refine(i5 _ _ _).mono ?_;rintro e w' ⟨rfl,rfl⟩);go_ret;exact⟨cm (by rw[HN.o,HD.o,if_neg (by simpa using hy)]),rfl⟩
  ·go_wp2;go_ret;exact⟨cm (by rw[HN.o,List.drop_eq_nil_of_le (by omega)];rfl),rfl⟩
theorem zG(xs ys:List Int)(b off cap b2 off2 cap2:Nat)(w:World)(hm:xs.length<=3)(hxy:xs.length=ys.length)(hc:cM w b off xs)(hc2:cM w b2 off2 ys):Calls prog 263 #[.slice (some ⟨b,off,none⟩) xs.length cap,.slice (some ⟨b2,off2,none⟩) ys.length cap2] w λe w'=>e=.returned (.int .i64 (fT xs ys))/\∃n,w'=w.drewN n:=by
 have HC:=aa hc;have HC2:=aa hc2;clear hc hc2;rw[<-hxy];have HXY:=aa hxy;clear hxy;go_enter func263,ntmps263;go_wp2;go_loopw [5] (λi wr=>∃k n:Nat,k<=xs.length/\i=.int .i64 ((k:Int)-1)/\fT xs ys=bF (ys.take k).reverse (xs.take k).reverse/\wr=w.drewN n) (λi _=>(intOf i+1).toNat);case atStart=>exact⟨xs.length,0,He _,rfl,by rw[Hz (by have:=HXY.o;omega),Hz (by omega)];rfl,rfl⟩
 case round=>
  obtain⟨k,n0,hk,rfl,hn,hw0⟩:=hrel;have HN:=aa hn;have HW:=aa hw0;clear hn hw0;cases k with
  |succ k=>
   have hlt:k<xs.length:=by omega
   have hcell:=HC.o k hlt;have hcell2:=HC2.o k (by rw[<-HXY.o];exact hlt);have e1:∀a,wr.cell? a=w.cell? a:=λa=>by rw[HW.o];rfl
   rw[<-e1] at hcell hcell2;clear e1;have HD:=aa (tt xs ys k hlt (by rw[<-HXY.o];exact hlt));have ek:(((k+1:Nat):Int)-1)=(k:Int):=by omega
   rw[ek];clear ek;generalize xs.getD k 0=x at hcell HD;generalize ys.getD k 0=y at hcell2 HD;cases hy:(aR y x !=0)
   ·go_wp2;go_quiet ((go_at_call 109;exact Calls.quiet_of_same (i5 _ _ _)));go_wp2;go_roundw;case rel=>exact⟨k,_,by omega,rfl,by rw[HN.o,HD.o,if_pos (by simpa using hy)],by rw[HW.o,World.drewN_drewN]⟩
    case measure=>simp[intOf]
   ·go_wp2;go_quiet ((go_at_call 109;exact Calls.quiet_of_same (i5 _ _ _)));go_wp2;go_ret;exact⟨cm (by rw[HN.o,HD.o,if_neg (by simpa using hy)]),_,by rw[HW.o,World.drewN_drewN]⟩
  |zero=>go_wp2;go_ret;exact⟨cm (by rw[HN.o];rfl),n0,HW.o⟩
theorem iD{n:Int}{xs:List Int}(h:bL n xs=0):(xs.length:Int)=n/\(∀x∈xs,0<=x/\x<=200)/\ag xs<=200:=by
 unfold bL at h;by_cases h1:(xs.length:Int)=n
 ·rw[if_neg (by simp[h1])] at h;cases h2:xs.any ep
  ·rw[if_neg (by simp[h2])] at h;by_cases h3:200<ag xs
   ·rw[if_pos h3] at h;omega
   ·exact⟨h1,pI h2,by omega⟩
  ·rw[if_pos h2] at h;omega
 ·rw[if_pos h1] at h;omega
theorem Sl.sls1{w:World}{v:Value}{xs:List Int}{b:Nat}(h:Sl w v xs)(hc:w.cell? ⟨b,0,none⟩=some v):kW w b 0 [xs]:=by intro i hi;simp at hi;subst hi;exact⟨v,hc,h⟩
theorem zH(p n o v:Int)(x:Value)(xs:List Int)(w:World)(hs:Sl w x xs):Calls prog 262 #[az p n o v,x] w λe w'=>e=.returned (.int .i64 (jI p n o v [xs]))/\Below w.heap.size w w':=by
 have HS:=aa hs;obtain⟨a,cap,rfl,_⟩:=hs;go_enter func262,ntmps262;go_wp2_with fail;have hb:∀A B,Below w.heap.size w ((w.alloc A).alloc B):=λA B=>((Hf _ _).alloc (He _) _).alloc (by simp) _;refine(zE p n o v [xs] _ _ _ _ (by simp) (by simp) ?_).mono ?_
 ·exact(HS.o.below (hb _ _)).sls1 (by simp[go_sem])
 ·rintro e w1 ⟨rfl,hb1⟩;go_wp2;go_ret;exact⟨rfl,(hb _ _).trans (hb1.mono (by simp;omega))⟩
def aF(o:Int)(xs ys:List Int):Int:=
 if aR (ag xs) (ag ys)=0 then (if o=1 then fT xs ys else bF xs ys) else aR (ag xs) (ag ys)
theorem cW{w:World}{A B:Obj}:Below w.heap.size w ((w.alloc A).alloc B):=((Hf _ _).alloc (He _) _).alloc (by simp) _
theorem jJ{w W:World}{B:Nat}(h:Below B w W){w':World}(hd:∃n,w'=W.drewN n):Below B w w':=by obtain⟨n,rfl⟩:=hd;exact below_drewN h n
theorem zI{o:Int}{xs ys:List Int}(h:(aR (ag xs) (ag ys) !=0)=true):aF o xs ys=aR (ag xs) (ag ys):=by unfold aF;rw[if_neg (by simpa using h)]
theorem zJ{xs ys:List Int}(h:(aR (ag xs) (ag ys) !=0)=false):aF 1 xs ys=fT xs ys:=by unfold aF;rw[if_pos (by simpa using h),if_pos rfl]
theorem zK{xs ys:List Int}(h:(aR (ag xs) (ag ys) !=0)=false):aF 2 xs ys=bF xs ys:=by unfold aF;rw[if_pos (by simpa using h),if_neg (by omega)]
theorem bp{w:World}{A:Obj}:Below w.heap.size w (w.alloc A):=(Hf _ _).alloc (He _) _
theorem mv(p n o v:Int)(x y:Value)(xs ys:List Int)(w:World)(ho:o=1\/o=2)(h0:0<xs.length)(hm:xs.length<=3)(hxy:xs.length=ys.length)(hbx:∀x∈xs,0<=x/\x<=40000)(hby:∀x∈ys,0<=x/\x<=40000)(hs:Sl w x xs)(hs2:Sl w y ys):Calls prog 225 #[az p n o v,x,y] w λe w'=>e=.returned (.int .i64 (aF o xs ys))/\Below w.heap.size w w':=by
 have HXY:=aa hxy;have HBX:=aa hbx;have HBY:=aa hby;have hmy:ys.length<=3:=by omega
 obtain⟨a,cap,rfl,h1⟩:=hs;obtain⟨a2,cap2,rfl,h2⟩:=hs2;obtain⟨b,off,rfl,hlt,hc⟩:=h1 h0;obtain⟨b2,off2,rfl,hlt2,hc2⟩:=h2 (by omega);have HC:=aa hc;have HC2:=aa hc2;clear hxy hbx hby h1 h2 hc hc2;have key:∀w1:World,Below w.heap.size w w1->cM w1 b off xs/\cM w1 b2 off2 ys:=λw1 hb=>⟨λi hi=>by rw[hb.cell (p:=⟨b,off+i,none⟩) hlt];exact HC.o i hi,λi hi=>by rw[hb.cell (p:=⟨b2,off2+i,none⟩) hlt2];exact HC2.o i hi⟩
 have KEY:=aa key;clear key;cases hd:(aR (ag xs) (ag ys) !=0)
 ·rcases ho with rfl|rfl
  ·rw[zJ hd];go_enter func225,ntmps225;go_wp2_with fail;refine(ic xs _ _ _ _ HBX.o hm (KEY.o _ bp).1).mono ?_;rintro e w' ⟨rfl,rfl⟩;go_wp2_with fail;refine(ic ys _ _ _ _ HBY.o hmy (KEY.o _ bp).2).mono ?_;rintro e w' ⟨rfl,rfl⟩;go_wp2_with fail;refine(i5 _ _ _).mono ?_;rintro e w' ⟨rfl,rfl⟩;go_wp2_with fail;refine(zG xs ys _ _ _ _ _ _ _ hm HXY.o (KEY.o _ bp).1 (KEY.o _ bp).2).mono ?_;rintro e w1 ⟨rfl,hd2⟩;go_wp2;go_ret;exact⟨rfl,jJ bp hd2⟩
  ·rw[zK hd];go_enter func225,ntmps225;go_wp2_with fail;refine(ic xs _ _ _ _ HBX.o hm (KEY.o _ bp).1).mono ?_;rintro e w' ⟨rfl,rfl⟩;go_wp2_with fail;refine(ic ys _ _ _ _ HBY.o hmy (KEY.o _ bp).2).mono ?_;rintro e w' ⟨rfl,rfl⟩;go_wp2_with fail;refine(i5 _ _ _).mono ?_;rintro e w' ⟨rfl,rfl⟩;go_wp2_with fail;refine(zF xs ys _ _ _ _ _ _ _ hm HXY.o (KEY.o _ bp).1 (KEY.o _ bp).2).mono ?_;rintro e w' ⟨rfl,rfl⟩;go_wp2;go_ret;exact⟨rfl,bp⟩
 ·rw[zI hd];go_enter func225,ntmps225;go_wp2_with fail;refine(ic xs _ _ _ _ HBX.o hm (KEY.o _ bp).1).mono ?_;rintro e w' ⟨rfl,rfl⟩;go_wp2_with fail;refine(ic ys _ _ _ _ HBY.o hmy (KEY.o _ bp).2).mono ?_;rintro e w' ⟨rfl,rfl⟩;go_wp2_with fail;refine(i5 _ _ _).mono ?_;rintro e w' ⟨rfl,rfl⟩;go_wp2;go_ret;exact⟨rfl,bp⟩
end Go.Proofs.YtglijodcbdcngaaGreat
