/- Contracts of the small. -/
import Derived.Test.YtjkalahhpobefaaGreatProg
import Derived.JoinedTies
import Derived.WalkSpells
import Derived.WalkLawsBesides
import Derived.BigQuiet
import Derived.Deep.DeepCutAuto
set_option maxHeartbeats 1000000
namespace Go.Proofs.YtjkalahhpobefaaGreat
set_option linter.all false
open Go.Proofs.Tryz Go.RowKit
abbrev PK:=Value
abbrev PJ:=World
abbrev PI:=List Int
abbrev PH:=List Value
abbrev Io(w w':World):Prop:=Below w.heap.size w w'
theorem In{a b c:World}(h:Below a.heap.size a b)(k:Below b.heap.size b c):Below a.heap.size a c:=h.trans (k.mono h.size)
abbrev PN(b o:Nat):Addr:=⟨b,o,none⟩
abbrev PL(b:Nat):Value:=.pointer (some ⟨b,0,none⟩)
abbrev PM(b n c:Nat):Value:=.slice (some ⟨b,0,none⟩) n c
abbrev PO(x:Int):Value:=.int .i64 x
abbrev PP(x:Int):Value:=.int .u16 x
abbrev PQ(x:Int):Value:=.int .u8 x
def Po(p:Prop):Prop:=p
theorem Po.o{p:Prop}(h:Po p):p:=h
abbrev Oo:=@World.ownsRow.frozenAt
abbrev Oq:=@World.ownsRow.cellAt
abbrev Ot:=@World.ownsRow.lt
abbrev Ou:=@Nat.le_refl
abbrev Ov:=@Below.refl
abbrev Ow:=@And.intro
abbrev Ox:=@decide_eq_false
abbrev Oy:=@decide_eq_true
abbrev Oz:=@Nat.lt_of_lt_of_le
abbrev OA:=@Nat.le_trans
abbrev OB:=@Nat.zero_le
abbrev OC:=@bodyPost_ret
abbrev OD:=@results_none
abbrev OE:=@List.getElem_mem
abbrev OF:=@World.ownsRow.stored
abbrev OG:=@World.block_lt_of_cell?
abbrev OH:=@List.getD_eq_getElem?_getD
abbrev OI:=@List.getElem?_eq_getElem
abbrev OJ:=@List.getElem?_eq_none
abbrev OK:=@List.mem_append
abbrev OL:=@List.mem_singleton
abbrev OM:=@List.length_append
abbrev ON:=@Nat.zero_add
abbrev OO:=@List.take_of_length_le
abbrev OP:=@Option.some.injEq
abbrev OQ:=@Value.slice.injEq
abbrev OR:=@List.mem_map
abbrev OS:=@List.length_map
abbrev OU:=@Nat.lt_of_not_le
abbrev OV:=@if_neg
abbrev OW:=@if_pos
abbrev OX:=@List.take_succ_eq_append_getElem
abbrev OY:=@List.mem_cons
abbrev OZ:=@List.length_cons
abbrev O0:=@List.map_append
abbrev O3:=@Classical.byContradiction
abbrev O4:=@List.getElem?_append_left
abbrev O5:=@List.mem_filter
abbrev O6:=@Array.getElem?_eq_some_iff
abbrev O7:=@List.length_take
abbrev O8:=@List.length_eq_zero_iff
abbrev O9:=@List.getElem?_append_right
abbrev Pc:=@List.length_filter_le
abbrev Pd:=@List.drop_eq_getElem_cons
abbrev Pe:=@List.drop_eq_nil_of_le
abbrev Pf:=@Or.inl
abbrev Pg:=@Or.inr
abbrev Ph:=@Nat.mul_le_mul_right
abbrev Pj:=@List.mem_of_mem_take
abbrev Pk:=@List.mem_flatMap
abbrev Pm:=@List.mem_iff_getElem
abbrev Pn:=@Nat.lt_of_le_of_lt
theorem ae{p:Prop}(h:p):Po p:=h
variable{a:Int}
theorem et{k:IntKind}{b:Int}(h:a=b):Ending.returned (.int k a)=.returned (.int k b):=by rw[h]
def bi(a b:Int):Int:=if a<b then-1 else if b<a then 1 else 0
theorem kh(a b:Int)(w:PJ):Calls prog 126 #[PO a,PO b] w λe w'=>e=.returned (PO (bi a b))/\w'=w:=by
 unfold bi;by_cases h1:a<b
 .go_enter func126,ntmps126;go_wp2;go_ret;exact⟨by simp[h1],rfl⟩
 .by_cases h2:b<a
  .go_enter func126,ntmps126;go_wp2;go_ret;exact⟨by simp[h1,h2],rfl⟩
  .go_enter func126,ntmps126;go_wp2;go_ret;exact⟨by simp[h1,h2],rfl⟩
def ia(x:Int):Bool:=decide (x<0\/200<x)
theorem xY(x:Int)(w:PJ):Calls prog 257 #[PO x] w λe w'=>e=.returned (.bool (ia x))/\w'=w:=by
 unfold ia;by_cases h:x<0
 .go_enter func257,ntmps257;go_wp2;go_ret;exact⟨by simp[h],rfl⟩
 .go_enter func257,ntmps257;go_wp2;go_ret;exact⟨by simp;omega,rfl⟩
def gH(w:PJ)(b off:Nat)(xs:PI):Prop:=∀i,i<xs.length->w.cell? (PN b (off+i))=some (PO (xs.getD i 0))
def au:PI->Int
 |[]=>0
 |x::xs=>x+au xs
theorem Eo(xs:PI)(k:Nat)(h:k<xs.length):au (xs.take (k+1))=au (xs.take k)+xs.getD k 0:=by
 induction xs generalizing k with
 |nil=>simp at h
 |cons x xs ih=>
  cases k with
  |zero=>simp[au]
  |succ k=>simp only[List.take_succ_cons,au];rw[ih k (by simpa using h)];simp;omega
theorem oR(xs:PI)(h:∀x∈xs,0<=x/\x<=40000):0<=au xs/\au xs<=40000*xs.length:=by
 induction xs with
 |nil=>simp[au]
 |cons x xs ih=>have h1:=h x (by simp);have h2:=ih (λy hy=>h y (by simp[hy]));simp only[au,OZ];omega
theorem mQ(xs:PI)(k:Nat)(h:k<xs.length):xs.getD k 0∈xs:=by rw[OH,OI h];simp
theorem iV(xs:PI)(b off cap:Nat)(w:PJ)(hxs:∀x∈xs,0<=x/\x<=40000)(hl:xs.length<=3)(hc:gH w b off xs):Calls prog 92 #[.slice (some (PN b off)) xs.length cap] w λe w'=>e=.returned (PO (au xs))/\w'=w:=by
 have HC:Po (gH w b off xs):=hc;clear hc;go_enter func92,ntmps92;go_wp2;go_loop [3,8] (λn i=>∃k:Nat,k<=xs.length/\i=PO k/\n=PO (au (xs.take k))) (λ_ i=>xs.length-(intOf i).toNat);case atStart=>exact⟨0,OB _,rfl,rfl⟩
 case round=>
  obtain⟨k,hk,rfl,rfl⟩:=hrel;have hd:=oR (xs.take k) (λx hx=>hxs x (Pj hx));have hl2:(xs.take k).length<=k:=List.length_take_le _ _;by_cases hlt:k<xs.length
  .have hsn:=Eo xs k hlt;have hb:=hxs _ (mQ xs k hlt);have hcell:=HC.o k hlt;generalize xs.getD k 0=y at hsn hb hcell;have HS:Po (au (xs.take (k+1))=au (xs.take k)+y):=hsn;clear hsn hxs;go_wp2;go_round;case rel=>exact⟨k+1,by omega,by go_num,by rw[HS.o]⟩
   case measure=>simp[intOf];omega
  .go_wp2;go_ret;exact⟨et (by rw[OO (by omega)]),rfl⟩
def Sl(w:PJ)(v:PK)(xs:PI):Prop:=
 ∃a cap,v=.slice a xs.length cap/\(0<xs.length->∃b off,a=some (PN b off)/\b<w.heap.size/\gH w b off xs)
variable{xs:PI}{v:PK}{w w':PJ}
theorem Sl.below(h:Sl w v xs)(hb:Io w w'):Sl w' v xs:=by obtain⟨a,cap,rfl,h⟩:=h;refine⟨a,cap,rfl,λhp=>?_⟩;obtain⟨b,off,rfl,hlt,hc⟩:=h hp;refine⟨b,off,rfl,Oz hlt hb.size,λi hi=>?_⟩;rw[hb.cell (p:=(PN b (off+i))) hlt];exact hc i hi
theorem xZ(f:Int->Bool)(xs:PI)(k:Nat)(h:k<xs.length)(h0:(xs.take k).any f=false)(h1:f (xs.getD k 0)=false):(xs.take (k+1)).any f=false:=by rw[OX h,List.any_append,h0];rw[OH,OI h] at h1;simpa using h1
theorem ye(f:Int->Bool)(xs:PI)(k:Nat)(h:k<xs.length)(h1:f (xs.getD k 0)=true):xs.any f=true:=by rw[List.any_eq_true];exact⟨_,mQ xs k h,h1⟩
theorem Ep(xs:PI)(b off cap:Nat)(w:PJ)(hm:xs.length<=3)(hc:gH w b off xs):Calls prog 91 #[.slice (some (PN b off)) xs.length cap,.func (.func 257) #[] #[]] w λe w'=>∃r:Int,e=.returned (PO r)/\decide (0<=r)=xs.any ia/\w'=w:=by
 have HC:Po (gH w b off xs):=hc;clear hc;go_enter func91,ntmps91;go_wp2;go_loop [8] (λi=>∃k:Nat,k<=xs.length/\i=PO k/\(xs.take k).any ia=false) (λi=>xs.length-(intOf i).toNat);case atStart=>exact⟨0,OB _,rfl,by simp⟩
 case round=>
  obtain⟨k,hk,rfl,hn⟩:=hrel;have HN:Po ((xs.take k).any ia=false):=hn;clear hn;by_cases hlt:k<xs.length
  .have hcell:=HC.o k hlt;have h1:=xZ ia xs k hlt HN.o;have h2:=ye ia xs k hlt;have H1:=ae h1;have H2:=ae h2;clear h1 h2;generalize xs.getD k 0=y at hcell H1 H2;cases hy:ia y
   .go_wp2_with (go_at_call 257;refine(xY _ _).mono ?_;rintro e w' ⟨rfl,rfl⟩);go_round;case rel=>exact⟨k+1,by omega,by go_num,H1.o hy⟩
    case measure=>simp[intOf];omega
   .go_wp2_with (go_at_call 257;refine(xY _ _).mono ?_;rintro e w' ⟨rfl,rfl⟩);go_ret;exact⟨(k:Int),rfl,by rw[H2.o hy];simp,rfl⟩
  .go_wp2;go_ret;exact⟨-1,rfl,by have:=HN.o;rw[OO (by omega)] at this;rw[this];simp,rfl⟩
theorem tM(xs:PI)(b off cap:Nat)(w:PJ)(hm:xs.length<=3)(hc:gH w b off xs):Calls prog 50 #[.slice (some (PN b off)) xs.length cap,.func (.func 257) #[] #[]] w λe w'=>e=.returned (.bool (xs.any ia))/\w'=w:=by
 have HC:=ae hc;clear hc;go_enter func50,ntmps50;go_wp2_with (go_at_call 91;refine(Ep xs _ _ _ _ hm HC.o).mono ?_;rintro e w' ⟨r,rfl,hr,rfl⟩);go_ret;exact⟨by rw[<-hr];rfl,rfl⟩
def cU(n:Int)(xs:PI):Int:=if (xs.length:Int)≠n then 1 else if xs.any ia then 3 else if 200<au xs then 3 else 0
theorem yg(h:xs.any ia=false):∀x∈xs,0<=x/\x<=200:=by intro x hx;rw[List.any_eq_false] at h;have:=h x hx;simp[ia] at this;omega
theorem yh(n:Int)(v:PK)(xs:PI)(w:PJ)(hn:1<=n/\n<=3)(hs:Sl w v xs):Calls prog 233 #[PO n,v] w λe w'=>e=.returned (PO (cU n xs))/\w'=w:=by
 obtain⟨a,cap,rfl,hs⟩:=hs;obtain⟨hn1,hn2⟩:=hn;by_cases hl:(xs.length:Int)=n
 .subst hl;obtain⟨b,off,rfl,_,hc⟩:=hs (by omega);clear hs;have HC:=ae hc;clear hc;have hm:xs.length<=3:=by omega
  cases hy:xs.any ia
  .have hb:=yg hy;have hb2:=ae (show∀x∈xs,0<=x/\x<=40000 from λx hx=>by have:=hb x hx;omega);clear hb;by_cases hd:200<au xs
   .have he:cU xs.length xs=3:=by simp[cU,hy,hd]
    rw[he];clear he;go_enter func233,ntmps233;go_wp2_with (first|(go_at_call 50;refine(tM xs _ _ _ _ hm HC.o).mono ?_;rintro e w' ⟨rfl,rfl⟩)|(go_at_call 92;refine(iV xs _ _ _ _ hb2.o hm HC.o).mono ?_;rintro e w' ⟨rfl,rfl⟩));go_ret;exact⟨rfl,rfl⟩
   .have he:cU xs.length xs=0:=by simp[cU,hy,hd]
    rw[he];clear he;go_enter func233,ntmps233;go_wp2_with (first|(go_at_call 50;refine(tM xs _ _ _ _ hm HC.o).mono ?_;rintro e w' ⟨rfl,rfl⟩)|(go_at_call 92;refine(iV xs _ _ _ _ hb2.o hm HC.o).mono ?_;rintro e w' ⟨rfl,rfl⟩));go_ret;exact⟨rfl,rfl⟩
  .have he:cU xs.length xs=3:=by simp[cU,hy]
   rw[he];clear he;go_enter func233,ntmps233;go_wp2_with (go_at_call 50;refine(tM xs _ _ _ _ hm HC.o).mono ?_;rintro e w' ⟨rfl,rfl⟩);go_ret;exact⟨rfl,rfl⟩
 .have he:cU n xs=1:=by simp[cU,hl]
  rw[he];clear he hs;have hl2:((xs.length:Int) !=n)=true:=by simpa using hl
  clear hl;go_enter func233,ntmps233;go_wp2;go_ret;exact⟨rfl,rfl⟩
def fJ(p n:Nat):Bool:=(List.range n).all λd=>d<2||p%d !=0
def lW(p:Int):Bool:=fJ p.toNat p.toNat
def bA(p:Int):Int:=if p<2\/101<p then 3 else if lW p then 0 else 4
theorem yi(p n:Nat):fJ p (n+1)=(fJ p n&&(n<2||p%n !=0)):=by simp[fJ,List.range_succ,List.all_append]
theorem Er{p n m:Nat}(h:fJ p n=false)(hm:n<=m):fJ p m=false:=by
 induction hm with
 |refl=>exact h
 |step _ ih=>rw[yi,ih];rfl
theorem Et:∀p,p<102->∀k,k<12->p<k*k->fJ p k=true->fJ p p=true:=by decide+kernel
theorem Eu{p k:Nat}(h2:2<=k)(h:fJ p k=true):fJ p (k+1)=(p%k !=0):=by
 rw[yi,h];have:¬k<2:=by omega
 simp[this]
theorem Ev(p k:Nat)(h:0<k):((p:Int)%(k:Int)==0)=!(p%k !=0):=by
 have:((p:Int)%(k:Int))=((p%k:Nat):Int):=by omega
 rw[this];cases hh:p%k with
 |zero=>rfl
 |succ n=>simp;omega
theorem Ew{n:Nat}(h1:2<=n)(h2:n<=101)(h:fJ n n=true):bA (n:Int)=0:=by have hp:lW (n:Int)=true:=h;unfold bA;rw[OV (by omega),OW hp]
theorem Ey{n:Nat}(h1:2<=n)(h2:n<=101)(h:fJ n n=false):bA (n:Int)=4:=by have hp:lW (n:Int)=false:=h;unfold bA;rw[OV (by omega),OV (by simp[hp])]
theorem ki(p:Int)(w:PJ):Calls prog 93 #[PO p] w λe w'=>e=.returned (PO (bA p))/\w'=w:=by
 by_cases h1:p<2
 .have he:bA p=3:=by simp[bA,h1]
  rw[he];clear he;go_enter func93,ntmps93;go_wp2;go_ret;exact⟨rfl,rfl⟩
 by_cases h2:101<p
 .have he:bA p=3:=by simp[bA,h2]
  rw[he];clear he;go_enter func93,ntmps93;go_wp2;go_ret;exact⟨rfl,rfl⟩
 obtain⟨n,rfl⟩:∃n:Nat,p=n:=⟨p.toNat,by omega⟩;have hn1:2<=n:=by omega
 have hn2:n<=101:=by omega
 clear h1 h2;go_enter func93,ntmps93;go_wp2;go_loop [3] (λd=>∃k:Nat,2<=k/\k<=11/\d=PO k/\fJ n k=true) (λd=>12-(intOf d).toNat);case atStart=>exact⟨2,by omega,by omega,rfl,rfl⟩
 case round=>
  obtain⟨k,hk1,hk2,rfl,hnd⟩:=hrel;have HN:=ae hnd;clear hnd;by_cases hlt:k*k<=n
  .have hk3:k<=10:=by apply Nat.le_of_not_lt;intro h;have:11*11<=k*k:=Nat.mul_le_mul h h;omega
   have hlt2:(k:Int)*k<=n:=by exact_mod_cast hlt
   have hkk:(k:Int)*k<=101:=by omega
   have hk0:(0:Int)<=(k:Int)*k:=by exact_mod_cast OB _
   have hat:=Eu (p:=n) hk1 HN.o;have hmc:=Ev n k (by omega);cases hz:(n%k !=0)
   .rw[hz] at hat hmc;have HA:=ae hat;clear hat;have hmc2:((n:Int)%(k:Int)==0)=true:=hmc;clear hmc hz;go_wp2;go_ret;exact⟨et (by
     have hkn:k+1<=n:=by have:2*k<=k*k:=Ph k hk1;omega
     exact(Ey hn1 hn2 (Er HA.o hkn)).symm),rfl⟩
   .rw[hz] at hat hmc;have HA:=ae hat;clear hat;have hmc2:((n:Int)%(k:Int)==0)=false:=hmc;clear hmc hz;go_wp2;go_round;case rel=>exact⟨k+1,by omega,by omega,by go_num,HA.o⟩
    case measure=>simp[intOf];omega
  .have hlt2:¬(k:Int)*k<=n:=by intro h;apply hlt;exact_mod_cast h
   have hk0:(0:Int)<=(k:Int)*k:=by exact_mod_cast OB _
   have hk9:(k:Int)*k<=121:=by
    have:k*k<=11*11:=Nat.mul_le_mul hk2 hk2
    exact_mod_cast this
   go_wp2;go_ret;exact⟨et (Ew hn1 hn2 (Et n (by omega) k (by omega) (by omega) HN.o)).symm,rfl⟩
def eW(n a b:Int):Bool:=decide (a<=n)&&decide (n<=b)
def bE(p n o v:Int):Int:=if bA p≠0 then bA p else if n<1\/3<n then 3 else if (o≠1/\o≠2)\/(v≠1/\v≠2) then 6 else 0
abbrev aI(p n o v:Int):PK:=.agg #[PO p,PO n,PO o,PO v]
variable{p n o:Int}
theorem Ez{v:Int}(h:(bA p !=0)=true):bE p n o v=bA p:=by
 have:bA p≠0:=by simpa using h
 unfold bE;rw[OW this]
theorem yj{v:Int}(h:(bA p !=0)=false)(hn:n<1\/3<n):bE p n o v=3:=by
 have:¬bA p≠0:=by simpa using h
 unfold bE;rw[OV this,OW hn]
theorem yk{v:Int}(h:(bA p !=0)=false)(hn:¬(n<1\/3<n))(hk:(o≠1/\o≠2)\/(v≠1/\v≠2)):bE p n o v=6:=by
 have:¬bA p≠0:=by simpa using h
 unfold bE;rw[OV this,OV hn,OW hk]
theorem EA{v:Int}(h:(bA p !=0)=false)(hn:¬(n<1\/3<n))(hk:¬((o≠1/\o≠2)\/(v≠1/\v≠2))):bE p n o v=0:=by
 have:¬bA p≠0:=by simpa using h
 unfold bE;rw[OV this,OV hn,OV hk]
theorem jk(p n o v:Int)(w:PJ):Calls prog 55 #[aI p n o v] w λe w'=>e=.returned (PO (bE p n o v))/\Io w w':=by
 cases hp:(bA p !=0)
 .by_cases hn1:n<1
  .rw[yj hp (Pf hn1)];go_enter func55,ntmps55;go_wp2_with (go_at_call 93;refine(ki _ _).mono ?_;rintro e w' ⟨rfl,rfl⟩);go_ret;exact⟨rfl,(Ov _ _).alloc (Ou _) _⟩
  by_cases hn3:3<n
  .rw[yj hp (Pg hn3)];go_enter func55,ntmps55;go_wp2_with (go_at_call 93;refine(ki _ _).mono ?_;rintro e w' ⟨rfl,rfl⟩);go_ret;exact⟨rfl,(Ov _ _).alloc (Ou _) _⟩
  have hn:¬(n<1\/3<n):=by omega
  by_cases ho:o≠1/\o≠2
  .rw[yk hp hn (Pf ho)];obtain⟨ho1,ho2⟩:=ho;have ho1':(o !=1)=true:=by simpa using ho1
   have ho2':(o !=2)=true:=by simpa using ho2
   clear ho1 ho2 hn;go_enter func55,ntmps55;go_wp2_with (go_at_call 93;refine(ki _ _).mono ?_;rintro e w' ⟨rfl,rfl⟩);go_ret;exact⟨rfl,(Ov _ _).alloc (Ou _) _⟩
  by_cases hv:v≠1/\v≠2
  .rw[yk hp hn (Pg hv)];obtain⟨hv1,hv2⟩:=hv;have hv1':(v !=1)=true:=by simpa using hv1
   have hv2':(v !=2)=true:=by simpa using hv2
   have ho':o=1\/o=2:=by omega
   clear hv1 hv2 hn ho;rcases ho' with rfl|rfl;all_goals
    go_enter func55,ntmps55;go_wp2_with (go_at_call 93;refine(ki _ _).mono ?_;rintro e w' ⟨rfl,rfl⟩);go_ret;exact⟨rfl,(Ov _ _).alloc (Ou _) _⟩
  .rw[EA hp hn (by omega)];have ho':o=1\/o=2:=by omega
   have hv':v=1\/v=2:=by omega
   clear hv hn ho;rcases ho' with rfl|rfl<;>rcases hv' with rfl|rfl;all_goals
    go_enter func55,ntmps55;go_wp2_with (go_at_call 93;refine(ki _ _).mono ?_;rintro e w' ⟨rfl,rfl⟩);go_ret;exact⟨rfl,(Ov _ _).alloc (Ou _) _⟩
 .rw[Ez hp];go_enter func55,ntmps55;go_wp2_with (go_at_call 93;refine(ki _ _).mono ?_;rintro e w' ⟨rfl,rfl⟩);go_ret;exact⟨rfl,(Ov _ _).alloc (Ou _) _⟩
variable{W:PJ}
theorem EB{w1:PJ}(hb:Io W w1):(∀b o,b<W.heap.size->w1.cell? (PN b o)=W.cell? (PN b o))/\(∀b o,b<W.heap.size->w1.frozen? (PN b o)=W.frozen? (PN b o)):=
 ⟨λb o h=>hb.cell (p:=(PN b o)) h,λb o h=>hb.frozen (p:=(PN b o)) h⟩
def kj(n:Int):List (PI)->Int
 |[]=>0
 |xs::r=>if cU n xs=0 then kj n r else cU n xs
def mR(w:PJ)(b off:Nat)(xss:List (PI)):Prop:=
 ∀i,i<xss.length->∃v,w.cell? (PN b (off+i))=some v/\Sl w v (xss.getD i [])
variable{xss:List (PI)}{b off:Nat}
theorem mR.below(h:mR w b off xss)(hlt:b<w.heap.size)(hb:Io w w'):mR w' b off xss:=by intro i hi;obtain⟨v,hc,hs⟩:=h i hi;exact⟨v,by rw[hb.cell (p:=(PN b (off+i))) hlt];exact hc,hs.below hb⟩
theorem ED(n:Int)(xss:List (PI))(k:Nat)(h:k<xss.length):kj n (xss.drop k)=if cU n (xss.getD k [])=0 then kj n (xss.drop (k+1)) else cU n (xss.getD k []):=by rw[Pd h];simp[kj,OH,h]
def kR(p n o v:Int)(xss:List (PI)):Int:=if bE p n o v=0 then kj n xss else bE p n o v
theorem lX{v:Int}(h:bE p n o v=0):bA p=0/\1<=n/\n<=3/\(o=1\/o=2)/\(v=1\/v=2):=by
 unfold bE at h;by_cases h1:bA p=0
 .rw[OV (by simp[h1])] at h;by_cases h2:n<1\/3<n
  .rw[OW h2] at h;omega
  .rw[OV h2] at h;by_cases h3:(o≠1/\o≠2)\/(v≠1/\v≠2)
   .rw[OW h3] at h;omega
   .exact⟨h1,by omega,by omega,by omega,by omega⟩
 .rw[OW h1] at h;exact absurd h h1
theorem EE(p n o v:Int)(xss:List (PI))(b off cap:Nat)(w:PJ)(hl:xss.length<=2)(hlt:b<w.heap.size)(hs:mR w b off xss):Calls prog 194 #[aI p n o v,.slice (some (PN b off)) xss.length cap] w λe w'=>e=.returned (PO (kR p n o v xss))/\Io w w':=by
 have HS:=ae hs;clear hs;cases hp:(bE p n o v !=0)
 .have hp0:bE p n o v=0:=by simpa using hp
  obtain⟨_,hn1,hn2,_⟩:=lX hp0;have he:kR p n o v xss=kj n xss:=by unfold kR;rw[OW hp0]
  rw[he];clear he hp0;go_enter func194,ntmps194;go_wp2_with (go_at_call 55;refine(jk _ _ _ _ _).mono ?_;rintro e w1 ⟨rfl,hb1⟩);have hb0:Io w w1:=((Ov _ _).alloc (Ou _) _).trans (hb1.mono (by simp));obtain⟨hcl,_⟩:=EB hb1;have hbox:w1.cell? (PN w.heap.size 1)=some (PO n):=by rw[hcl _ _ (by simp)];simp[go_sem]
  have HS1:=ae (HS.o.below hlt hb0);clear hcl HS;go_loop [16] (λi=>∃k:Nat,k<=xss.length/\i=PO k/\kj n xss=kj n (xss.drop k)) (λi=>xss.length-(intOf i).toNat);case atStart=>exact⟨0,OB _,rfl,by simp⟩
  case round=>
   obtain⟨k,hk,rfl,hf⟩:=hrel;have HF:=ae hf;clear hf;by_cases hk2:k<xss.length
   .obtain⟨vv,hcell,hsl⟩:=HS1.o k hk2;have HSL:=ae hsl;have HD:=ae (ED n xss k hk2);clear hsl;generalize xss.getD k []=xs at HSL HD;obtain⟨a,cc,hvv,_⟩:=HSL.o;subst hvv;cases hz:(cU n xs !=0)
    .go_wp2_with (go_at_call 233;refine(yh _ _ xs _ ⟨hn1,hn2⟩ HSL.o).mono ?_;rintro e w' ⟨rfl,rfl⟩);go_round;case rel=>exact⟨k+1,by omega,by go_num,by rw[HF.o,HD.o,OW (by simpa using hz)]⟩
     case measure=>simp[intOf];omega
    .go_wp2_with (go_at_call 233;refine(yh _ _ xs _ ⟨hn1,hn2⟩ HSL.o).mono ?_;rintro e w' ⟨rfl,rfl⟩);go_ret;exact⟨et (by rw[HF.o,HD.o,OV (by simpa using hz)]),hb0⟩
   .go_wp2;go_ret;exact⟨et (by rw[HF.o,Pe (by omega)];rfl),hb0⟩
 .have he:kR p n o v xss=bE p n o v:=by unfold kR;rw[OV (by simpa using hp)]
  rw[he];clear he;go_enter func194,ntmps194;go_wp2_with (go_at_call 55;refine(jk _ _ _ _ _).mono ?_;rintro e w1 ⟨rfl,hb1⟩);go_ret;exact⟨rfl,((Ov _ _).alloc (Ou _) _).trans (hb1.mono (by simp))⟩
def cz:PI->PI->Int
 |x::xs,y::ys=>if bi x y=0 then cz xs ys else bi x y
 |_,_=>0
def kl(xs ys:PI):Int:=cz ys.reverse xs.reverse
theorem EF(xs ys:PI)(k:Nat)(h:k<xs.length)(h2:k<ys.length):cz (xs.drop k) (ys.drop k)=if bi (xs.getD k 0) (ys.getD k 0)=0 then cz (xs.drop (k+1)) (ys.drop (k+1)) else bi (xs.getD k 0) (ys.getD k 0):=by rw[Pd h,Pd h2];simp[cz,OH,h,h2]
theorem yl(xs:PI)(k:Nat)(h:k<xs.length):(xs.take (k+1)).reverse=xs.getD k 0::(xs.take k).reverse:=by rw[OX h,List.reverse_append];simp[OH,h]
theorem EG(xs ys:PI)(k:Nat)(h:k<xs.length)(h2:k<ys.length):cz (ys.take (k+1)).reverse (xs.take (k+1)).reverse=if bi (ys.getD k 0) (xs.getD k 0)=0 then cz (ys.take k).reverse (xs.take k).reverse else bi (ys.getD k 0) (xs.getD k 0):=by rw[yl xs k h,yl ys k h2];simp[cz]
theorem EH(xs ys:PI)(b off cap b2 off2 cap2:Nat)(w:PJ)(hm:xs.length<=3)(hxy:xs.length=ys.length)(hc:gH w b off xs)(hc2:gH w b2 off2 ys):Calls prog 128 #[.slice (some (PN b off)) xs.length cap,.slice (some (PN b2 off2)) ys.length cap2] w λe w'=>e=.returned (PO (cz xs ys))/\w'=w:=by
 have HC:=ae hc;have HC2:=ae hc2;clear hc hc2;rw[<-hxy];have HXY:=ae hxy;clear hxy;go_enter func128,ntmps128;go_wp2;go_loop [11] (λi=>∃k:Nat,k<=xs.length/\i=PO k/\cz xs ys=cz (xs.drop k) (ys.drop k)) (λi=>xs.length-(intOf i).toNat);case atStart=>exact⟨0,OB _,rfl,by simp⟩
 case round=>
  obtain⟨k,hk,rfl,hn⟩:=hrel;have HN:=ae hn;clear hn;by_cases hlt:k<xs.length
  .have hcell:=HC.o k hlt;have hcell2:=HC2.o k (by rw[<-HXY.o];exact hlt);have HD:=ae (EF xs ys k hlt (by rw[<-HXY.o];exact hlt));generalize xs.getD k 0=x at hcell HD;generalize ys.getD k 0=y at hcell2 HD;cases hy:(bi x y !=0)
   .go_wp2_with (go_at_call 126;refine(kh _ _ _).mono ?_;rintro e w' ⟨rfl,rfl⟩);go_round;case rel=>exact⟨k+1,by omega,by go_num,by rw[HN.o,HD.o,OW (by simpa using hy)]⟩
    case measure=>simp[intOf];omega
   .go_wp2_with (go_at_call 126;refine(kh _ _ _).mono ?_;rintro e w' ⟨rfl,rfl⟩);go_ret;exact⟨et (by rw[HN.o,HD.o,OV (by simpa using hy)]),rfl⟩
  .go_wp2;go_ret;exact⟨et (by rw[HN.o,Pe (by omega)];rfl),rfl⟩
theorem EI(xs ys:PI)(b off cap b2 off2 cap2:Nat)(w:PJ)(hm:xs.length<=3)(hxy:xs.length=ys.length)(hc:gH w b off xs)(hc2:gH w b2 off2 ys):Calls prog 127 #[.slice (some (PN b off)) xs.length cap,.slice (some (PN b2 off2)) ys.length cap2] w λe w'=>e=.returned (PO (kl xs ys))/\∃n,w'=w.drewN n:=by
 have HC:=ae hc;have HC2:=ae hc2;clear hc hc2;rw[<-hxy];have HXY:=ae hxy;clear hxy;go_enter func127,ntmps127;go_wp2;go_loopw [5] (λi wr=>∃k n:Nat,k<=xs.length/\i=PO ((k:Int)-1)/\kl xs ys=cz (ys.take k).reverse (xs.take k).reverse/\wr=w.drewN n) (λi _=>(intOf i+1).toNat);case atStart=>exact⟨xs.length,0,Ou _,rfl,by rw[OO (by have:=HXY.o;omega),OO (by omega)];rfl,rfl⟩
 case round=>
  obtain⟨k,n0,hk,rfl,hn,hw0⟩:=hrel;have HN:=ae hn;have HW:=ae hw0;clear hn hw0;cases k with
  |succ k=>
   have hlt:k<xs.length:=by omega
   have hcell:=HC.o k hlt;have hcell2:=HC2.o k (by rw[<-HXY.o];exact hlt);have e1:∀a,wr.cell? a=w.cell? a:=λa=>by rw[HW.o];rfl
   rw[<-e1] at hcell hcell2;clear e1;have HD:=ae (EG xs ys k hlt (by rw[<-HXY.o];exact hlt));have ek:(((k+1:Nat):Int)-1)=(k:Int):=by omega
   rw[ek];clear ek;generalize xs.getD k 0=x at hcell HD;generalize ys.getD k 0=y at hcell2 HD;cases hy:(bi y x !=0)
   .go_wp2;go_quiet ((go_at_call 126;exact Calls.quiet_of_same (kh _ _ _)));go_wp2;go_roundw;case rel=>exact⟨k,_,by omega,rfl,by rw[HN.o,HD.o,OW (by simpa using hy)],by rw[HW.o,World.drewN_drewN]⟩
    case measure=>simp[intOf]
   .go_wp2;go_quiet ((go_at_call 126;exact Calls.quiet_of_same (kh _ _ _)));go_wp2;go_ret;exact⟨et (by rw[HN.o,HD.o,OV (by simpa using hy)]),_,by rw[HW.o,World.drewN_drewN]⟩
  |zero=>go_wp2;go_ret;exact⟨et (by rw[HN.o];rfl),n0,HW.o⟩
theorem kS(h:cU n xs=0):(xs.length:Int)=n/\(∀x∈xs,0<=x/\x<=200)/\au xs<=200:=by
 unfold cU at h;by_cases h1:(xs.length:Int)=n
 .rw[OV (by simp[h1])] at h;cases h2:xs.any ia
  .rw[OV (by simp[h2])] at h;by_cases h3:200<au xs
   .rw[OW h3] at h;omega
   .exact⟨h1,yg h2,by omega⟩
  .rw[OW h2] at h;omega
 .rw[OW h1] at h;omega
theorem Sl.sls1(h:Sl w v xs)(hc:w.cell? (PN b 0)=some v):mR w b 0 [xs]:=by intro i hi;simp at hi;subst hi;exact⟨v,hc,h⟩
theorem EJ(p n o v:Int)(x:PK)(xs:PI)(w:PJ)(hs:Sl w x xs):Calls prog 160 #[aI p n o v,x] w λe w'=>e=.returned (PO (kR p n o v [xs]))/\Io w w':=by
 have HS:=ae hs;obtain⟨a,cap,rfl,_⟩:=hs;go_enter func160,ntmps160;go_wp2_with fail;have hb:∀A B,Io w ((w.alloc A).alloc B):=λA B=>((Ov _ _).alloc (Ou _) _).alloc (by simp) _;refine(EE p n o v [xs] _ _ _ _ (by simp) (by simp) ?_).mono ?_
 .exact(HS.o.below (hb _ _)).sls1 (by simp[go_sem])
 .rintro e w1 ⟨rfl,hb1⟩;go_wp2;go_ret;exact⟨rfl,(hb _ _).trans (hb1.mono (by simp;omega))⟩
def aW(o:Int)(xs ys:PI):Int:=
 if bi (au xs) (au ys)=0 then (if o=1 then kl xs ys else cz xs ys) else bi (au xs) (au ys)
variable{A:Obj}
theorem cY{B:Obj}:Io w ((w.alloc A).alloc B):=((Ov _ _).alloc (Ou _) _).alloc (by simp) _
theorem EK{B:Nat}(h:Below B w W)(hd:∃n,w'=W.drewN n):Below B w w':=by obtain⟨n,rfl⟩:=hd;exact below_drewN h n
variable{ys:PI}
theorem EL(h:(bi (au xs) (au ys) !=0)=true):aW o xs ys=bi (au xs) (au ys):=by unfold aW;rw[OV (by simpa using h)]
theorem EM(h:(bi (au xs) (au ys) !=0)=false):aW 1 xs ys=kl xs ys:=by unfold aW;rw[OW (by simpa using h),OW rfl]
theorem EN(h:(bi (au xs) (au ys) !=0)=false):aW 2 xs ys=cz xs ys:=by unfold aW;rw[OW (by simpa using h),OV (by omega)]
theorem aY:Io w (w.alloc A):=(Ov _ _).alloc (Ou _) _
theorem oS(p n o v:Int)(x y:PK)(xs ys:PI)(w:PJ)(ho:o=1\/o=2)(h0:0<xs.length)(hm:xs.length<=3)(hxy:xs.length=ys.length)(hbx:∀x∈xs,0<=x/\x<=40000)(hby:∀x∈ys,0<=x/\x<=40000)(hs:Sl w x xs)(hs2:Sl w y ys):Calls prog 90 #[aI p n o v,x,y] w λe w'=>e=.returned (PO (aW o xs ys))/\Io w w':=by
 have HXY:=ae hxy;have HBX:=ae hbx;have HBY:=ae hby;have hmy:ys.length<=3:=by omega
 obtain⟨a,cap,rfl,h1⟩:=hs;obtain⟨a2,cap2,rfl,h2⟩:=hs2;obtain⟨b,off,rfl,hlt,hc⟩:=h1 h0;obtain⟨b2,off2,rfl,hlt2,hc2⟩:=h2 (by omega);have HC:=ae hc;have HC2:=ae hc2;clear hxy hbx hby h1 h2 hc hc2;have key:∀w1:PJ,Io w w1->gH w1 b off xs/\gH w1 b2 off2 ys:=λw1 hb=>⟨λi hi=>by rw[hb.cell (p:=(PN b (off+i))) hlt];exact HC.o i hi,λi hi=>by rw[hb.cell (p:=(PN b2 (off2+i))) hlt2];exact HC2.o i hi⟩
 have KEY:=ae key;clear key;cases hd:(bi (au xs) (au ys) !=0)
 .rcases ho with rfl|rfl
  .rw[EM hd];go_enter func90,ntmps90;go_wp2_with fail;refine(iV xs _ _ _ _ HBX.o hm (KEY.o _ aY).1).mono ?_;rintro e w' ⟨rfl,rfl⟩;go_wp2_with fail;refine(iV ys _ _ _ _ HBY.o hmy (KEY.o _ aY).2).mono ?_;rintro e w' ⟨rfl,rfl⟩;go_wp2_with fail;refine(kh _ _ _).mono ?_;rintro e w' ⟨rfl,rfl⟩;go_wp2_with fail;refine(EI xs ys _ _ _ _ _ _ _ hm HXY.o (KEY.o _ aY).1 (KEY.o _ aY).2).mono ?_;rintro e w1 ⟨rfl,hd2⟩;go_wp2;go_ret;exact⟨rfl,EK aY hd2⟩
  .rw[EN hd];go_enter func90,ntmps90;go_wp2_with fail;refine(iV xs _ _ _ _ HBX.o hm (KEY.o _ aY).1).mono ?_;rintro e w' ⟨rfl,rfl⟩;go_wp2_with fail;refine(iV ys _ _ _ _ HBY.o hmy (KEY.o _ aY).2).mono ?_;rintro e w' ⟨rfl,rfl⟩;go_wp2_with fail;refine(kh _ _ _).mono ?_;rintro e w' ⟨rfl,rfl⟩;go_wp2_with fail;refine(EH xs ys _ _ _ _ _ _ _ hm HXY.o (KEY.o _ aY).1 (KEY.o _ aY).2).mono ?_;rintro e w' ⟨rfl,rfl⟩;go_wp2;go_ret;exact⟨rfl,aY⟩
 .rw[EL hd];go_enter func90,ntmps90;go_wp2_with fail;refine(iV xs _ _ _ _ HBX.o hm (KEY.o _ aY).1).mono ?_;rintro e w' ⟨rfl,rfl⟩;go_wp2_with fail;refine(iV ys _ _ _ _ HBY.o hmy (KEY.o _ aY).2).mono ?_;rintro e w' ⟨rfl,rfl⟩;go_wp2_with fail;refine(kh _ _ _).mono ?_;rintro e w' ⟨rfl,rfl⟩;go_wp2;go_ret;exact⟨rfl,aY⟩
def gQ(p x:Int):Bool:=decide (x<0\/p<=x)
theorem FU{b:Int}(h:0<=a/\a<=200/\0<=b/\b<=200):0<=a*b/\a*b<=40000:=by obtain⟨h1,h2,h3,h4⟩:=h;refine⟨Int.mul_nonneg h1 h3,?_⟩;have:a*b<=200*200:=Int.mul_le_mul h2 h4 h3 (by omega);omega
theorem zT(p x:Int)(b:Nat)(w:PJ)(hb:w.cell? (PN b 0)=some (PO p)):Calls prog 251 #[PO x,PL b] w λe w'=>e=.returned (.bool (gQ p x))/\w'=w:=by
 unfold gQ;by_cases h:x<0
 .go_enter func251,ntmps251;go_wp2;go_ret;exact⟨by simp[h],rfl⟩
 .go_enter func251,ntmps251;go_wp2;go_ret;exact⟨by simp;omega,rfl⟩
theorem FV(p:Int)(xs:PI)(b off cap pb:Nat)(w:PJ)(hm:xs.length<=400)(hc:gH w b off xs)(hp:w.cell? (PN pb 0)=some (PO p)):Calls prog 91 #[.slice (some (PN b off)) xs.length cap,.func (.func 251) #[] #[PL pb]] w λe w'=>∃r:Int,e=.returned (PO r)/\decide (0<=r)=xs.any (gQ p)/\w'=w:=by
 have HC:=ae hc;have HP:=ae hp;clear hc hp;go_enter func91,ntmps91;go_wp2;go_loop [8] (λi=>∃k:Nat,k<=xs.length/\i=PO k/\(xs.take k).any (gQ p)=false) (λi=>xs.length-(intOf i).toNat);case atStart=>exact⟨0,OB _,rfl,by simp⟩
 case round=>
  obtain⟨k,hk,rfl,hn⟩:=hrel;have HN:=ae hn;clear hn;by_cases hlt:k<xs.length
  .have hcell:=HC.o k hlt;have H1:=ae (xZ (gQ p) xs k hlt HN.o);have H2:=ae (ye (gQ p) xs k hlt);generalize xs.getD k 0=y at hcell H1 H2;cases hy:gQ p y
   .go_wp2_with (go_at_call 251;refine(zT p _ _ _ HP.o).mono ?_;rintro e w' ⟨rfl,rfl⟩);go_round;case rel=>exact⟨k+1,by omega,by go_num,H1.o hy⟩
    case measure=>simp[intOf];omega
   .go_wp2_with (go_at_call 251;refine(zT p _ _ _ HP.o).mono ?_;rintro e w' ⟨rfl,rfl⟩);go_ret;exact⟨(k:Int),rfl,by rw[H2.o hy];simp,rfl⟩
  .go_wp2;go_ret;exact⟨-1,rfl,by have:=HN.o;rw[OO (by omega)] at this;rw[this];simp,rfl⟩
theorem FW(f:PK)(a:Option Addr)(cap:Nat)(w:PJ):Calls prog 91 #[.slice a 0 cap,f] w λe w'=>e=.returned (PO (-1))/\w'=w:=by
 go_enter func91,ntmps91;go_wp2;go_loop [8] (λi=>i=PO 0) (λ_=>0);case atStart=>rfl
 case round=>subst hrel;go_wp2;go_ret;exact⟨rfl,rfl⟩
theorem zU(p:Int)(v:PK)(xs:PI)(w:PJ)(hm:xs.length<=400)(hs:Sl w v xs):Calls prog 224 #[PO p,v] w λe w'=>e=.returned (.bool (xs.any (gQ p)))/\Io w w':=by
 have iZ:∀{w:PJ}{A:Obj},Io w (w.alloc A):=fun {w A}=>(Ov _ _).alloc (Ou _) _;obtain⟨a,cap,rfl,h1⟩:=hs;have hcon:∀(W:PJ)(pb:Nat),W.cell? (PN pb 0)=some (PO p)->Io w W->Calls prog 50 #[.slice a xs.length cap,.func (.func 251) #[] #[PL pb]] W λe w'=>e=.returned (.bool (xs.any (gQ p)))/\w'=W:=by
  intro W pb hW hb;by_cases h0:0<xs.length
  .obtain⟨b,off,rfl,hlt,hc⟩:=h1 h0;have HC:Po (gH W b off xs):=λi hi=>by rw[hb.cell (p:=(PN b (off+i))) hlt];exact hc i hi
   have HW:=ae hW;clear hc h1 hb hW;go_enter func50,ntmps50;go_wp2_with (go_at_call 91;refine(FV p xs _ _ _ _ _ hm HC.o HW.o).mono ?_;rintro e w' ⟨r,rfl,hr,rfl⟩);go_ret;exact⟨by rw[<-hr];rfl,rfl⟩
  .have e:xs=[]:=O8.1 (by omega);subst e;clear h1 hb hW h0 hm;go_enter func50,ntmps50;go_wp2_with (go_at_call 91;refine(FW _ _ _ _).mono ?_;rintro e w' ⟨rfl,rfl⟩);go_ret;exact⟨rfl,rfl⟩
 have HCON:=ae hcon;clear hcon h1;go_enter func224,ntmps224;go_wp2_with fail;refine(HCON.o _ _ (by simp) iZ).mono ?_;rintro e w' ⟨rfl,rfl⟩;go_wp2;go_ret;exact⟨rfl,iZ⟩
def gw(p:Int)(xs:PI):Int:=if bA p=0 then (if xs.any (gQ p) then 3 else 0) else bA p
theorem ai:Io w (w.alloc A):=(Ov _ _).alloc (Ou _) _
theorem uE(h:bA p=0):2<=p/\p<=101/\lW p=true:=by
 unfold bA at h;by_cases h1:p<2\/101<p
 .rw[OW h1] at h;omega
 .rw[OV h1] at h;by_cases h2:lW p=true
  .exact⟨by omega,by omega,h2⟩
  .rw[OV h2] at h;omega
theorem FY(h:xs.any (gQ p)=false):∀x∈xs,0<=x/\x<p:=by intro x hx;rw[List.any_eq_false] at h;have:=h x hx;simp[gQ] at this;omega
theorem uF(p:Int)(v:PK)(xs:PI)(w:PJ)(hm:xs.length<=400)(hs:Sl w v xs):Calls prog 190 #[PO p,v] w λe w'=>e=.returned (PO (gw p xs))/\Io w w':=by
 have HS:=ae hs;obtain⟨a,cap,rfl,_⟩:=hs;cases hp:(bA p !=0)
 .have hp0:bA p=0:=by simpa using hp
  cases hx:xs.any (gQ p)
  .have e:gw p xs=0:=by unfold gw;rw[OW hp0,OV (by simp[hx])]
   rw[e];clear e hp0;go_enter func190,ntmps190;go_wp2_with fail;refine(ki _ _).mono ?_;rintro e w' ⟨rfl,rfl⟩;go_wp2_with fail;refine(zU p _ xs _ hm HS.o).mono ?_;rintro e w' ⟨rfl,hb⟩;go_wp2;go_ret;exact⟨rfl,hb⟩
  .have e:gw p xs=3:=by unfold gw;rw[OW hp0,OW hx]
   rw[e];clear e hp0;go_enter func190,ntmps190;go_wp2_with fail;refine(ki _ _).mono ?_;rintro e w' ⟨rfl,rfl⟩;go_wp2_with fail;refine(zU p _ xs _ hm HS.o).mono ?_;rintro e w' ⟨rfl,hb⟩;go_wp2;go_ret;exact⟨rfl,hb⟩
 .have e:gw p xs=bA p:=by unfold gw;rw[OV (by simpa using hp)]
  rw[e];clear e;go_enter func190,ntmps190;go_wp2_with fail;refine(ki _ _).mono ?_;rintro e w' ⟨rfl,rfl⟩;go_wp2;go_ret;exact⟨rfl,Ov _ _⟩
theorem Sl.of1(w:PJ)(a:Int)(T:TypeId):Sl (w.alloc (.cells #[PO a] T)) (PM w.heap.size 1 1) [a]:=by refine⟨_,_,rfl,λ_=>⟨_,_,rfl,by simp,λi hi=>?_⟩⟩;simp at hi;subst hi;simp
def jt(p a:Nat):Nat->Nat
 |0=>1
 |k+1=>jt p a k*a%p
theorem FZ(p a:Nat)(hp:2<=p):∀k,jt p a k<p
 |0=>by simp[jt];omega
 |k+1=>by simp only[jt];exact Nat.mod_lt _ (by omega)
def ky(p a:Nat):Nat:=jt p a (p-2)
def aV(p a:Int):Int:=ky p.toNat a.toNat
def uG(p a:Nat):Bool:=decide (1<=ky p a)&&decide (ky p a<p)&&(a*ky p a%p==1%p)&&(List.range (ky p a)).all λb=>a*b%p !=1%p
theorem F0:((List.range 102).all λp=>!(decide (2<=p)&&fJ p p)||(List.range p).all λa=>decide (a=0)||uG p a)=true:=by decide+kernel
theorem F3{p a:Nat}(h1:2<=p)(h2:p<=101)(h3:fJ p p=true)(h4:0<a)(h5:a<p):uG p a=true:=by have h:=F0;rw[List.all_eq_true] at h;have h6:=h p (by simp;omega);rw[h3,Oy h1] at h6;simp only[Bool.and_self,Bool.not_true,Bool.false_or] at h6;rw[List.all_eq_true] at h6;have h7:=h6 a (by simpa using h5);rw[Ox (by omega)] at h7;simpa using h7
theorem F4(p a k:Nat):((jt p a (k+1):Nat):Int)=(jt p a k:Int)*(a:Int)%(p:Int):=by simp[jt,Int.natCast_emod,Int.natCast_mul]
theorem F5(p a:Nat)(w:PJ)(hp:2<=p)(hp2:p<=101)(ha:a<p):Calls prog 191 #[PO p,PO a] w λe w'=>e=.returned (PO (ky p a))/\w'=w:=by
 go_enter func191,ntmps191;go_wp2;go_loop [5,8] (λr i=>∃k:Nat,k<=p-2/\i=PO k/\r=PO (jt p a k)) (λ_ i=>p-(intOf i).toNat);case atStart=>exact⟨0,OB _,rfl,rfl⟩
 case round=>
  obtain⟨k,hk,rfl,rfl⟩:=hrel;have hlt:=FZ p a hp k;by_cases hk2:k<p-2
  .have hc:=F4 p a k;have hmb:=FU (a:=(jt p a k:Int)) (b:=(a:Int)) ⟨by omega,by omega,by omega,by omega⟩;obtain⟨hm1,hm2⟩:=hmb;have HC:=ae hc;clear hc;generalize hq:jt p a k=q at*;clear hq;go_wp2;go_round;case rel=>exact⟨k+1,by omega,by go_num,by rw[HC.o]⟩
   case measure=>simp[intOf];omega
  .have e:k=p-2:=by omega
   go_wp2;go_ret;exact⟨et (by first|rfl|(rw[e];rfl)),rfl⟩
theorem F6(h:gw p [a]=0):bA p=0/\0<=a/\a<p:=by
 unfold gw at h;by_cases h1:bA p=0
 .rw[OW h1] at h;cases h2:[a].any (gQ p)
  .have ha:=FY h2 a (by simp);exact⟨h1,ha.1,ha.2⟩
  .rw[OW h2] at h;omega
 .rw[OV h1] at h;exact absurd h h1
def jS(p a:Int):Int:=if gw p [a]=0 then (if a=0 then 5 else 0) else gw p [a]
def kz(p a:Int):Int:=if jS p a=0 then aV p a else 0
theorem F7(p a:Int)(w:PJ):Calls prog 152 #[PO p,PO a] w λe w'=>e=.returned (.tuple #[PO (kz p a),PO (jS p a)])/\Io w w':=by
 cases hz:(gw p [a] !=0)
 .have hz0:gw p [a]=0:=by simpa using hz
  obtain⟨h1,ha,ha2⟩:=F6 hz0;obtain⟨hp1,hp2,_⟩:=uE h1;have HZ:=ae hz0;cases h0:(a==0)
  .have h0':a≠0:=by simpa using h0
   have e1:jS p a=0:=by unfold jS;rw[OW hz0,OV h0']
   have e2:kz p a=aV p a:=by unfold kz;rw[OW e1]
   rw[e1,e2];obtain⟨pn,rfl⟩:∃n:Nat,p=n:=⟨p.toNat,by omega⟩;obtain⟨an,rfl⟩:∃n:Nat,a=n:=⟨a.toNat,by omega⟩;have e3:aV (pn:Int) (an:Int)=ky pn an:=rfl;rw[e3];clear e1 e2 e3 h1 hz0 hz h0';go_enter func152,ntmps152;go_wp2_with fail;refine(uF pn _ [(an:Int)] _ (by simp) (Sl.of1 _ _ _)).mono ?_;rintro e w1 ⟨rfl,hb1⟩;rw[HZ.o];go_wp2_with fail;refine(F5 pn an _ (by omega) (by omega) (by omega)).mono ?_;rintro e w' ⟨rfl,rfl⟩;go_wp2;go_ret2;exact⟨rfl,ai.trans (hb1.mono (by simp))⟩
  .have h0':a=0:=by simpa using h0
   have e1:jS p a=5:=by unfold jS;rw[OW hz0,OW h0']
   have e2:kz p a=0:=by unfold kz;rw[OV (by rw[e1];decide)]
   rw[e1,e2];clear e1 e2 h1 hz0 hz h0';go_enter func152,ntmps152;go_wp2_with fail;refine(uF p _ [a] _ (by simp) (Sl.of1 _ _ _)).mono ?_;rintro e w1 ⟨rfl,hb1⟩;rw[HZ.o];go_wp2;go_ret2;exact⟨rfl,ai.trans (hb1.mono (by simp))⟩
 .have e1:jS p a=gw p [a]:=by unfold jS;rw[OV (by simpa using hz)]
  have e2:kz p a=0:=by unfold kz;rw[OV (by rw[e1];simpa using hz)]
  rw[e1,e2];clear e1 e2;go_enter func152,ntmps152;go_wp2_with fail;refine(uF p _ [a] _ (by simp) (Sl.of1 _ _ _)).mono ?_;rintro e w1 ⟨rfl,hb1⟩;go_wp2;go_ret2;exact⟨rfl,ai.trans (hb1.mono (by simp))⟩
def uH(w:PJ)(v:PK)(xss:List (PI)):Prop:=
 ∃a cap,v=.slice a xss.length cap/\(0<xss.length->∃b off,a=some (PN b off)/\b<w.heap.size/\mR w b off xss)
theorem uH.below(h:uH w v xss)(hb:Io w w'):uH w' v xss:=by obtain⟨a,cap,rfl,h⟩:=h;refine⟨a,cap,rfl,λhp=>?_⟩;obtain⟨b,off,rfl,hlt,hc⟩:=h hp;exact⟨b,off,rfl,Oz hlt hb.size,hc.below hlt hb⟩
theorem Tryz.infoInt:(prog.info? 3).map (λi=>(i.zero,i.size,i.bytes))=some (some (PO 0),1,8):=by kernel_rfl
abbrev pi(xs:PI):PH:=xs.map (Value.int .i64)
def kY(w:PJ)(B:Nat)(v:PK)(xs:PI):Prop:=w.ownsRow B 3 1 v xs.length (pi xs)
theorem F8(h:gH w b off xs):∀j u,(pi xs)[j]?=some u->w.cell? (((PN b off):Addr).add j)=some u:=by
 intro j u hj;rw[List.getElem?_map] at hj;cases hx:xs[j]? with
 |none=>rw[hx] at hj;simp at hj
 |some x=>
  rw[hx] at hj;simp at hj;subst hj;have hl:j<xs.length:=by apply OU;intro hle;rw[OJ hle] at hx;simp at hx
  have:=h j hl;rw[OH,hx] at this;by_cases h0:j=0
  .subst h0;simpa [Addr.add] using this
  .simpa [Addr.add,h0] using this
theorem F9(xs:PI):∀u∈pi xs,u.oneCell'=true:=by intro u hu;simp at hu;obtain⟨x,_,rfl⟩:=hu;rfl
theorem zW(v:PK)(xs:PI)(w:PJ)(hm:xs.length<=400)(hs:Sl w v xs):Calls prog 49 #[v] w λe w'=>∃u,e=.returned u/\kY w' w.heap.size u xs/\Io w w':=by
 obtain⟨a,cap,rfl,h1⟩:=hs;have hnil:=fun(w:PJ)(a:Option Addr)(n c:Nat)=>Lib.run_eql_slice_nil (P:=prog) w 45 3 a n c 0 0 underlying45;obtain⟨i0,hi,hz0,hz1,hz2⟩:=info_parts Tryz.infoInt;cases a with
 |none=>
  have h0:xs=[]:=O8.1 (by
   apply Nat.eq_zero_of_not_pos;intro h;obtain⟨b,off,hh,_⟩:=h1 h;simp at hh)
  subst h0;clear h1;go_enter func49,ntmps49;go_wp2;go_ret;exact⟨_,rfl,World.ownsRow_nil _ _ _ _,Ov _ _⟩
 |some ad=>
  have HN:Po (∀j u,(pi xs)[j]?=some u->(w.alloc (.cells #[] 3)).cell? (ad.add j)=some u):=by
   intro j u hj;by_cases h0:0<xs.length
   .obtain⟨b,off,hh,hlt,hc⟩:=h1 h0;simp at hh;subst hh;refine F8 (w:=w.alloc (.cells #[] 3)) (b:=b) (off:=off) ?_ j u hj;intro i hi;rw[ai.cell (p:=(PN b (off+i))) hlt];exact hc i hi
   .have:xs=[]:=O8.1 (by omega);subst this;simp at hj
  clear h1;go_enter func49,ntmps49;go_wp2_with (at_builtin;refine wpList_append_own _ rfl _ _ 45 rfl w.heap.size 3 i0 (PO 0) 1 8 underlying45 hi hz0 hz1 hz2 rfl (by decide) _ _ _ rfl (World.ownsRow_made w #[] 0 (Ou _) (by decide) (by simp)) ad xs.length cap (pi xs) rfl (by simp) HN.o (F9 xs) (by unfold maxLen;omega) (by omega) (by simp) ?_);intro v' w1 hown' hgrow _;try simp only[ON,List.nil_append] at hown'
  have hb:Io w w1:=(ai).grown hgrow (by simp) (λk hk=>by simp[Value.ownBlock] at hk;omega);have HO:=ae hown';obtain⟨g,c,hv⟩:∃g c,v'=.slice g xs.length c:=by
   rcases hown'.2 with ⟨h,h'⟩|⟨g,c,ag,h,_⟩
   .exact⟨none,0,by rw[h,h']⟩
   .exact⟨_,c,h⟩
  subst hv;clear hown' hgrow hnil;go_wp2;go_ret;exact⟨_,rfl,HO.o,hb⟩
end Go.Proofs.YtjkalahhpobefaaGreat
