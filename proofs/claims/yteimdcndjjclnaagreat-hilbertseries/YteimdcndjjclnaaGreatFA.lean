/- Numbers modulo a prime: the closures; looking through numbers. -/
import Derived.Test.YteimdcndjjclnaaGreatA
import Derived.Deep.DeepCutAuto
set_option maxHeartbeats 400000
namespace Go.Proofs.YteimdcndjjclnaaGreat
set_option linter.all false
open Go.Proofs.Tryz Go.RowKit
def gD(p x:Int):Bool:=decide (x<0\/p<=x)
theorem CW{a b:Int}(h:0<=a/\a<=200/\0<=b/\b<=200):0<=a*b/\a*b<=40000:=by obtain⟨h1,h2,h3,h4⟩:=h;refine⟨Int.mul_nonneg h1 h3,?_⟩;have:a*b<=200*200:=Int.mul_le_mul h2 h4 h3 (by omega);omega
theorem wR(p x:Int)(b:Nat)(w:World)(hb:w.cell? ⟨b,0,none⟩=some (.int .i64 p)):Calls prog 190 #[.int .i64 x,.pointer (some ⟨b,0,none⟩)] w λe w'=>e=.returned (.bool (gD p x))/\w'=w:=by
 unfold gD;by_cases h:x<0
 .go_enter func190,ntmps190;go_wp2;go_ret;exact⟨by simp[h],rfl⟩
 .go_enter func190,ntmps190;go_wp2;go_ret;exact⟨by simp;omega,rfl⟩
theorem CX(p:Int)(xs:List Int)(b off cap pb:Nat)(w:World)(hm:xs.length<=400)(hc:eB w b off xs)(hp:w.cell? ⟨pb,0,none⟩=some (.int .i64 p)):Calls prog 43 #[.slice (some ⟨b,off,none⟩) xs.length cap,.func (.func 190) #[] #[.pointer (some ⟨pb,0,none⟩)]] w λe w'=>∃r:Int,e=.returned (.int .i64 r)/\decide (0<=r)=xs.any (gD p)/\w'=w:=by
 have HC:=ac hc;have HP:=ac hp;clear hc hp;go_enter func43,ntmps43;go_wp2;go_loop [8] (λi=>∃k:Nat,k<=xs.length/\i=.int .i64 k/\(xs.take k).any (gD p)=false) (λi=>xs.length-(intOf i).toNat);case atStart=>exact⟨0,Ll _,rfl,by simp⟩
 case round=>
  obtain⟨k,hk,rfl,hn⟩:=hrel;have HN:=ac hn;clear hn;by_cases hlt:k<xs.length
  .have hcell:=HC.o k hlt;have H1:=ac (nL (gD p) xs k hlt HN.o);have H2:=ac (nN (gD p) xs k hlt);generalize xs.getD k 0=y at hcell H1 H2;cases hy:gD p y
   .go_wp2_with (go_at_call 190;refine(wR p _ _ _ HP.o).mono ?_;rintro e w' ⟨rfl,rfl⟩);go_round;case rel=>exact⟨k+1,by omega,by go_num,H1.o hy⟩
    case measure=>simp[intOf];omega
   .go_wp2_with (go_at_call 190;refine(wR p _ _ _ HP.o).mono ?_;rintro e w' ⟨rfl,rfl⟩);go_ret;exact⟨(k:Int),rfl,by rw[H2.o hy];simp,rfl⟩
  .go_wp2;go_ret;exact⟨-1,rfl,by have:=HN.o;rw[Lz (by omega)] at this;rw[this];simp,rfl⟩
theorem CY(f:Value)(a:Option Addr)(cap:Nat)(w:World):Calls prog 43 #[.slice a 0 cap,f] w λe w'=>e=.returned (.int .i64 (-1))/\w'=w:=by
 go_enter func43,ntmps43;go_wp2;go_loop [8] (λi=>i=.int .i64 0) (λ_=>0);case atStart=>rfl
 case round=>subst hrel;go_wp2;go_ret;exact⟨rfl,rfl⟩
theorem wS(p:Int)(v:Value)(xs:List Int)(w:World)(hm:xs.length<=400)(hs:Sl w v xs):Calls prog 182 #[.int .i64 p,v] w λe w'=>e=.returned (.bool (xs.any (gD p)))/\Below w.heap.size w w':=by
 have eN:∀{w:World}{A:Obj},Below w.heap.size w (w.alloc A):=fun {w A}=>(Lf _ _).alloc (Lc _) _;obtain⟨a,cap,rfl,h1⟩:=hs;have hcon:∀(W:World)(pb:Nat),W.cell? ⟨pb,0,none⟩=some (.int .i64 p)->Below w.heap.size w W->Calls prog 21 #[.slice a xs.length cap,.func (.func 190) #[] #[.pointer (some ⟨pb,0,none⟩)]] W λe w'=>e=.returned (.bool (xs.any (gD p)))/\w'=W:=by
  intro W pb hW hb;by_cases h0:0<xs.length
  .obtain⟨b,off,rfl,hlt,hc⟩:=h1 h0;have HC:Ma (eB W b off xs):=λi hi=>by rw[hb.cell (p:=⟨b,off+i,none⟩) hlt];exact hc i hi
   have HW:=ac hW;clear hc h1 hb hW;go_enter func21,ntmps21;go_wp2_with (go_at_call 43;refine(CX p xs _ _ _ _ _ hm HC.o HW.o).mono ?_;rintro e w' ⟨r,rfl,hr,rfl⟩);go_ret;exact⟨by rw[<-hr];rfl,rfl⟩
  .have e:xs=[]:=LV.1 (by omega);subst e;clear h1 hb hW h0 hm;go_enter func21,ntmps21;go_wp2_with (go_at_call 43;refine(CY _ _ _ _).mono ?_;rintro e w' ⟨rfl,rfl⟩);go_ret;exact⟨rfl,rfl⟩
 have HCON:=ac hcon;clear hcon h1;go_enter func182,ntmps182;go_wp2_with fail;refine(HCON.o _ _ (by simp) eN).mono ?_;rintro e w' ⟨rfl,rfl⟩;go_wp2;go_ret;exact⟨rfl,eN⟩
def fT(p:Int)(xs:List Int):Int:=if bm p=0 then (if xs.any (gD p) then 3 else 0) else bm p
theorem aj{w:World}{A:Obj}:Below w.heap.size w (w.alloc A):=(Lf _ _).alloc (Lc _) _
theorem pE{p:Int}(h:bm p=0):2<=p/\p<=101/\kA p=true:=by
 unfold bm at h;by_cases h1:p<2\/101<p
 .rw[LI h1] at h;omega
 .rw[LH h1] at h;by_cases h2:kA p=true
  .exact⟨by omega,by omega,h2⟩
  .rw[LH h2] at h;omega
theorem CZ{p:Int}{xs:List Int}(h:xs.any (gD p)=false):∀x∈xs,0<=x/\x<p:=by intro x hx;rw[List.any_eq_false] at h;have:=h x hx;simp[gD] at this;omega
theorem sq(p:Int)(v:Value)(xs:List Int)(w:World)(hm:xs.length<=400)(hs:Sl w v xs):Calls prog 166 #[.int .i64 p,v] w λe w'=>e=.returned (.int .i64 (fT p xs))/\Below w.heap.size w w':=by
 have HS:=ac hs;obtain⟨a,cap,rfl,_⟩:=hs;cases hp:(bm p !=0)
 .have hp0:bm p=0:=by simpa using hp
  cases hx:xs.any (gD p)
  .have e:fT p xs=0:=by unfold fT;rw[LI hp0,LH (by simp[hx])]
   rw[e];clear e hp0;go_enter func166,ntmps166;go_wp2_with fail;refine(jO _ _).mono ?_;rintro e w' ⟨rfl,rfl⟩;go_wp2_with fail;refine(wS p _ xs _ hm HS.o).mono ?_;rintro e w' ⟨rfl,hb⟩;go_wp2;go_ret;exact⟨rfl,hb⟩
  .have e:fT p xs=3:=by unfold fT;rw[LI hp0,LI hx]
   rw[e];clear e hp0;go_enter func166,ntmps166;go_wp2_with fail;refine(jO _ _).mono ?_;rintro e w' ⟨rfl,rfl⟩;go_wp2_with fail;refine(wS p _ xs _ hm HS.o).mono ?_;rintro e w' ⟨rfl,hb⟩;go_wp2;go_ret;exact⟨rfl,hb⟩
 .have e:fT p xs=bm p:=by unfold fT;rw[LH (by simpa using hp)]
  rw[e];clear e;go_enter func166,ntmps166;go_wp2_with fail;refine(jO _ _).mono ?_;rintro e w' ⟨rfl,rfl⟩;go_wp2;go_ret;exact⟨rfl,Lf _ _⟩
theorem Sl.of1(w:World)(a:Int)(T:TypeId):Sl (w.alloc (.cells #[.int .i64 a] T)) (.slice (some ⟨w.heap.size,0,none⟩) 1 1) [a]:=by refine⟨_,_,rfl,λ_=>⟨_,_,rfl,by simp,λi hi=>?_⟩⟩;simp at hi;subst hi;simp
def i5(p a:Nat):Nat->Nat
 |0=>1
 |k+1=>i5 p a k*a%p
theorem C0(p a:Nat)(hp:2<=p):∀k,i5 p a k<p
 |0=>by simp[i5];omega
 |k+1=>by simp only[i5];exact Nat.mod_lt _ (by omega)
def eO(p a:Nat):Nat:=i5 p a (p-2)
def aN(p a:Int):Int:=eO p.toNat a.toNat
def n6(p a:Nat):Bool:=decide (1<=eO p a)&&decide (eO p a<p)&&(a*eO p a%p==1%p)&&(List.range (eO p a)).all λb=>a*b%p !=1%p
theorem C1:((List.range 102).all λp=>!(decide (2<=p)&&dH p p)||(List.range p).all λa=>decide (a=0)||n6 p a)=true:=by decide+kernel
theorem wT{p a:Nat}(h1:2<=p)(h2:p<=101)(h3:dH p p=true)(h4:0<a)(h5:a<p):n6 p a=true:=by have h:=C1;rw[List.all_eq_true] at h;have h6:=h p (by simp;omega);rw[h3,Li h1] at h6;simp only[Bool.and_self,Bool.not_true,Bool.false_or] at h6;rw[List.all_eq_true] at h6;have h7:=h6 a (by simpa using h5);rw[Lh (by omega)] at h7;simpa using h7
theorem C2(p a k:Nat):((i5 p a (k+1):Nat):Int)=(i5 p a k:Int)*(a:Int)%(p:Int):=by simp[i5,Int.natCast_emod,Int.natCast_mul]
theorem C3(p a:Nat)(w:World)(hp:2<=p)(hp2:p<=101)(ha:a<p):Calls prog 167 #[.int .i64 p,.int .i64 a] w λe w'=>e=.returned (.int .i64 (eO p a))/\w'=w:=by
 go_enter func167,ntmps167;go_wp2;go_loop [5,8] (λr i=>∃k:Nat,k<=p-2/\i=.int .i64 k/\r=.int .i64 (i5 p a k)) (λ_ i=>p-(intOf i).toNat);case atStart=>exact⟨0,Ll _,rfl,rfl⟩
 case round=>
  obtain⟨k,hk,rfl,rfl⟩:=hrel;have hlt:=C0 p a hp k;by_cases hk2:k<p-2
  .have hc:=C2 p a k;have hmb:=CW (a:=(i5 p a k:Int)) (b:=(a:Int)) ⟨by omega,by omega,by omega,by omega⟩;obtain⟨hm1,hm2⟩:=hmb;have HC:=ac hc;clear hc;generalize hq:i5 p a k=q at*;clear hq;go_wp2;go_round;case rel=>exact⟨k+1,by omega,by go_num,by rw[HC.o]⟩
   case measure=>simp[intOf];omega
  .have e:k=p-2:=by omega
   go_wp2;go_ret;exact⟨bJ (by first|rfl|(rw[e];rfl)),rfl⟩
theorem C4{p a:Int}(h:fT p [a]=0):bm p=0/\0<=a/\a<p:=by
 unfold fT at h;by_cases h1:bm p=0
 .rw[LI h1] at h;cases h2:[a].any (gD p)
  .have ha:=CZ h2 a (by simp);exact⟨h1,ha.1,ha.2⟩
  .rw[LI h2] at h;omega
 .rw[LH h1] at h;exact absurd h h1
def ju(p a:Int):Int:=if fT p [a]=0 then (if a=0 then 5 else 0) else fT p [a]
def jU(p a:Int):Int:=if ju p a=0 then aN p a else 0
theorem C5(p a:Int)(w:World):Calls prog 157 #[.int .i64 p,.int .i64 a] w λe w'=>e=.returned (.tuple #[.int .i64 (jU p a),.int .i64 (ju p a)])/\Below w.heap.size w w':=by
 cases hz:(fT p [a] !=0)
 .have hz0:fT p [a]=0:=by simpa using hz
  obtain⟨h1,ha,ha2⟩:=C4 hz0;obtain⟨hp1,hp2,_⟩:=pE h1;have HZ:=ac hz0;cases h0:(a==0)
  .have h0':a≠0:=by simpa using h0
   have e1:ju p a=0:=by unfold ju;rw[LI hz0,LH h0']
   have e2:jU p a=aN p a:=by unfold jU;rw[LI e1]
   rw[e1,e2];obtain⟨pn,rfl⟩:∃n:Nat,p=n:=⟨p.toNat,by omega⟩;obtain⟨an,rfl⟩:∃n:Nat,a=n:=⟨a.toNat,by omega⟩;have e3:aN (pn:Int) (an:Int)=eO pn an:=rfl;rw[e3];clear e1 e2 e3 h1 hz0 hz h0';go_enter func157,ntmps157;go_wp2_with fail;refine(sq pn _ [(an:Int)] _ (by simp) (Sl.of1 _ _ _)).mono ?_;rintro e w1 ⟨rfl,hb1⟩;rw[HZ.o];go_wp2_with fail;refine(C3 pn an _ (by omega) (by omega) (by omega)).mono ?_;rintro e w' ⟨rfl,rfl⟩;go_wp2;go_ret2;exact⟨rfl,aj.trans (hb1.mono (by simp))⟩
  .have h0':a=0:=by simpa using h0
   have e1:ju p a=5:=by unfold ju;rw[LI hz0,LI h0']
   have e2:jU p a=0:=by unfold jU;rw[LH (by rw[e1];decide)]
   rw[e1,e2];clear e1 e2 h1 hz0 hz h0';go_enter func157,ntmps157;go_wp2_with fail;refine(sq p _ [a] _ (by simp) (Sl.of1 _ _ _)).mono ?_;rintro e w1 ⟨rfl,hb1⟩;rw[HZ.o];go_wp2;go_ret2;exact⟨rfl,aj.trans (hb1.mono (by simp))⟩
 .have e1:ju p a=fT p [a]:=by unfold ju;rw[LH (by simpa using hz)]
  have e2:jU p a=0:=by unfold jU;rw[LH (by rw[e1];simpa using hz)]
  rw[e1,e2];clear e1 e2;go_enter func157,ntmps157;go_wp2_with fail;refine(sq p _ [a] _ (by simp) (Sl.of1 _ _ _)).mono ?_;rintro e w1 ⟨rfl,hb1⟩;go_wp2;go_ret2;exact⟨rfl,aj.trans (hb1.mono (by simp))⟩
theorem C6{p a:Nat}(h:n6 p a=true):1<=eO p a/\eO p a<p/\a*eO p a%p=1%p/\∀b,b<eO p a->a*b%p≠1%p:=by unfold n6 at h;simp only[Bool.and_eq_true,decide_eq_true_eq,List.all_eq_true,beq_iff_eq,bne_iff_ne] at h;obtain⟨⟨⟨h1,h2⟩,h3⟩,h4⟩:=h;exact⟨h1,h2,h3,λb hb=>h4 b (by simpa using hb)⟩
def pF(w:World)(v:Value)(xss:List (List Int)):Prop:=
 ∃a cap,v=.slice a xss.length cap/\(0<xss.length->∃b off,a=some ⟨b,off,none⟩/\b<w.heap.size/\mm w b off xss)
theorem pF.below{w w':World}{v:Value}{xss:List (List Int)}(h:pF w v xss)(hb:Below w.heap.size w w'):pF w' v xss:=by obtain⟨a,cap,rfl,h⟩:=h;refine⟨a,cap,rfl,λhp=>?_⟩;obtain⟨b,off,rfl,hlt,hc⟩:=h hp;exact⟨b,off,rfl,Lj hlt hb.size,hc.below hlt hb⟩
theorem Tryz.infoInt:(prog.info? 3).map (λi=>(i.zero,i.size,i.bytes))=some (some (.int .i64 0),1,8):=by kernel_rfl
abbrev lu(xs:List Int):List Value:=xs.map (Value.int .i64)
def iB(w:World)(B:Nat)(v:Value)(xs:List Int):Prop:=w.ownsRow B 3 1 v xs.length (lu xs)
end Go.Proofs.YteimdcndjjclnaaGreat
