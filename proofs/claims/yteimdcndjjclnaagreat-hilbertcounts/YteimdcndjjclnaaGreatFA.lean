/- Numbers modulo a prime: the closures; looking through numbers. -/
import Derived.Test.YteimdcndjjclnaaGreatA
import Derived.Deep.DeepCutAuto
set_option maxHeartbeats 400000
namespace Go.Proofs.YteimdcndjjclnaaGreat
set_option linter.all false
open Go.Proofs.Tryz Go.RowKit
def ig(p x:Int):Bool:=decide (x<0\/p<=x)
theorem qA{a b:Int}(h:0<=a/\a<=200/\0<=b/\b<=200):0<=a*b/\a*b<=40000:=by obtain⟨h1,h2,h3,h4⟩:=h;refine⟨Int.mul_nonneg h1 h3,?_⟩;have:a*b<=200*200:=Int.mul_le_mul h2 h4 h3 (by omega);omega
theorem yo(p x:Int)(b:Nat)(w:World)(hb:w.cell? ⟨b,0,none⟩=some (.int .i64 p)):Calls prog 190 #[.int .i64 x,.pointer (some ⟨b,0,none⟩)] w λe w'=>e=.returned (.bool (ig p x))/\w'=w:=by
 unfold ig;by_cases h:x<0
 .go_enter func190,ntmps190;go_wp2;go_ret;exact⟨by simp[h],rfl⟩
 .go_enter func190,ntmps190;go_wp2;go_ret;exact⟨by simp;omega,rfl⟩
theorem DW(p:Int)(xs:List Int)(b off cap pb:Nat)(w:World)(hm:xs.length<=400)(hc:ef w b off xs)(hp:w.cell? ⟨pb,0,none⟩=some (.int .i64 p)):Calls prog 43 #[.slice (some ⟨b,off,none⟩) xs.length cap,.func (.func 190) #[] #[.pointer (some ⟨pb,0,none⟩)]] w λe w'=>∃r:Int,e=.returned (.int .i64 r)/\decide (0<=r)=xs.any (ig p)/\w'=w:=by
 have HC:=ae hc;have HP:=ae hp;clear hc hp;go_enter func43,ntmps43;go_wp2;go_loop [8] (λi=>∃k:Nat,k<=xs.length/\i=.int .i64 k/\(xs.take k).any (ig p)=false) (λi=>xs.length-(intOf i).toNat);case atStart=>exact⟨0,MP _,rfl,by simp⟩
 case round=>
  obtain⟨k,hk,rfl,hn⟩:=hrel;have HN:=ae hn;clear hn;by_cases hlt:k<xs.length
  .have hcell:=HC.o k hlt;have H1:=ae (oE (ig p) xs k hlt HN.o);have H2:=ae (oF (ig p) xs k hlt);generalize xs.getD k 0=y at hcell H1 H2;cases hy:ig p y
   .go_wp2_with (go_at_call 190;refine(yo p _ _ _ HP.o).mono ?_;rintro e w' ⟨rfl,rfl⟩);go_round;case rel=>exact⟨k+1,by omega,by go_num,H1.o hy⟩
    case measure=>simp[intOf];omega
   .go_wp2_with (go_at_call 190;refine(yo p _ _ _ HP.o).mono ?_;rintro e w' ⟨rfl,rfl⟩);go_ret;exact⟨(k:Int),rfl,by rw[H2.o hy];simp,rfl⟩
  .go_wp2;go_ret;exact⟨-1,rfl,by have:=HN.o;rw[M2 (by omega)] at this;rw[this];simp,rfl⟩
theorem DX(f:Value)(a:Option Addr)(cap:Nat)(w:World):Calls prog 43 #[.slice a 0 cap,f] w λe w'=>e=.returned (.int .i64 (-1))/\w'=w:=by
 go_enter func43,ntmps43;go_wp2;go_loop [8] (λi=>i=.int .i64 0) (λ_=>0);case atStart=>rfl
 case round=>subst hrel;go_wp2;go_ret;exact⟨rfl,rfl⟩
theorem yp(p:Int)(v:Value)(xs:List Int)(w:World)(hm:xs.length<=400)(hs:Sl w v xs):Calls prog 182 #[.int .i64 p,v] w λe w'=>e=.returned (.bool (xs.any (ig p)))/\Below w.heap.size w w':=by
 have fi:∀{w:World}{A:Obj},Below w.heap.size w (w.alloc A):=fun {w A}=>(MJ _ _).alloc (MI _) _;obtain⟨a,cap,rfl,h1⟩:=hs;have hcon:∀(W:World)(pb:Nat),W.cell? ⟨pb,0,none⟩=some (.int .i64 p)->Below w.heap.size w W->Calls prog 21 #[.slice a xs.length cap,.func (.func 190) #[] #[.pointer (some ⟨pb,0,none⟩)]] W λe w'=>e=.returned (.bool (xs.any (ig p)))/\w'=W:=by
  intro W pb hW hb;by_cases h0:0<xs.length
  .obtain⟨b,off,rfl,hlt,hc⟩:=h1 h0;have HC:Nw (ef W b off xs):=λi hi=>by rw[hb.cell (p:=⟨b,off+i,none⟩) hlt];exact hc i hi
   have HW:=ae hW;clear hc h1 hb hW;go_enter func21,ntmps21;go_wp2_with (go_at_call 43;refine(DW p xs _ _ _ _ _ hm HC.o HW.o).mono ?_;rintro e w' ⟨r,rfl,hr,rfl⟩);go_ret;exact⟨by rw[<-hr];rfl,rfl⟩
  .have e:xs=[]:=Nk.1 (by omega);subst e;clear h1 hb hW h0 hm;go_enter func21,ntmps21;go_wp2_with (go_at_call 43;refine(DX _ _ _ _).mono ?_;rintro e w' ⟨rfl,rfl⟩);go_ret;exact⟨rfl,rfl⟩
 have HCON:=ae hcon;clear hcon h1;go_enter func182,ntmps182;go_wp2_with fail;refine(HCON.o _ _ (by simp) fi).mono ?_;rintro e w' ⟨rfl,rfl⟩;go_wp2;go_ret;exact⟨rfl,fi⟩
def gI(p:Int)(xs:List Int):Int:=if bq p=0 then (if xs.any (ig p) then 3 else 0) else bq p
theorem ai{w:World}{A:Obj}:Below w.heap.size w (w.alloc A):=(MJ _ _).alloc (MI _) _
theorem oR{p:Int}(h:bq p=0):2<=p/\p<=101/\ko p=true:=by
 unfold bq at h;by_cases h1:p<2\/101<p
 .rw[M9 h1] at h;omega
 .rw[M8 h1] at h;by_cases h2:ko p=true
  .exact⟨by omega,by omega,h2⟩
  .rw[M8 h2] at h;omega
theorem DY{p:Int}{xs:List Int}(h:xs.any (ig p)=false):∀x∈xs,0<=x/\x<p:=by intro x hx;rw[List.any_eq_false] at h;have:=h x hx;simp[ig] at this;omega
theorem tG(p:Int)(v:Value)(xs:List Int)(w:World)(hm:xs.length<=400)(hs:Sl w v xs):Calls prog 166 #[.int .i64 p,v] w λe w'=>e=.returned (.int .i64 (gI p xs))/\Below w.heap.size w w':=by
 have HS:=ae hs;obtain⟨a,cap,rfl,_⟩:=hs;cases hp:(bq p !=0)
 .have hp0:bq p=0:=by simpa using hp
  cases hx:xs.any (ig p)
  .have e:gI p xs=0:=by unfold gI;rw[M9 hp0,M8 (by simp[hx])]
   rw[e];clear e hp0;go_enter func166,ntmps166;go_wp2_with fail;refine(kq _ _).mono ?_;rintro e w' ⟨rfl,rfl⟩;go_wp2_with fail;refine(yp p _ xs _ hm HS.o).mono ?_;rintro e w' ⟨rfl,hb⟩;go_wp2;go_ret;exact⟨rfl,hb⟩
  .have e:gI p xs=3:=by unfold gI;rw[M9 hp0,M9 hx]
   rw[e];clear e hp0;go_enter func166,ntmps166;go_wp2_with fail;refine(kq _ _).mono ?_;rintro e w' ⟨rfl,rfl⟩;go_wp2_with fail;refine(yp p _ xs _ hm HS.o).mono ?_;rintro e w' ⟨rfl,hb⟩;go_wp2;go_ret;exact⟨rfl,hb⟩
 .have e:gI p xs=bq p:=by unfold gI;rw[M8 (by simpa using hp)]
  rw[e];clear e;go_enter func166,ntmps166;go_wp2_with fail;refine(kq _ _).mono ?_;rintro e w' ⟨rfl,rfl⟩;go_wp2;go_ret;exact⟨rfl,MJ _ _⟩
theorem Sl.of1(w:World)(a:Int)(T:TypeId):Sl (w.alloc (.cells #[.int .i64 a] T)) (.slice (some ⟨w.heap.size,0,none⟩) 1 1) [a]:=by refine⟨_,_,rfl,λ_=>⟨_,_,rfl,by simp,λi hi=>?_⟩⟩;simp at hi;subst hi;simp
def jy(p a:Nat):Nat->Nat
 |0=>1
 |k+1=>jy p a k*a%p
theorem yq(p a:Nat)(hp:2<=p):∀k,jy p a k<p
 |0=>by simp[jy];omega
 |k+1=>by simp only[jy];exact Nat.mod_lt _ (by omega)
def dS(p a:Nat):Nat:=jy p a (p-2)
def aM(p a:Int):Int:=dS p.toNat a.toNat
def m8(p a:Nat):Bool:=decide (1<=dS p a)&&decide (dS p a<p)&&(a*dS p a%p==1%p)&&(List.range (dS p a)).all λb=>a*b%p !=1%p
theorem DZ:((List.range 102).all λp=>!(decide (2<=p)&&dQ p p)||(List.range p).all λa=>decide (a=0)||m8 p a)=true:=by decide+kernel
theorem tH{p a:Nat}(h1:2<=p)(h2:p<=101)(h3:dQ p p=true)(h4:0<a)(h5:a<p):m8 p a=true:=by have h:=DZ;rw[List.all_eq_true] at h;have h6:=h p (by simp;omega);rw[h3,MM h1] at h6;simp only[Bool.and_self,Bool.not_true,Bool.false_or] at h6;rw[List.all_eq_true] at h6;have h7:=h6 a (by simpa using h5);rw[ML (by omega)] at h7;simpa using h7
theorem D3(p a k:Nat):((jy p a (k+1):Nat):Int)=(jy p a k:Int)*(a:Int)%(p:Int):=by simp[jy,Int.natCast_emod,Int.natCast_mul]
theorem D4(p a:Nat)(w:World)(hp:2<=p)(hp2:p<=101)(ha:a<p):Calls prog 167 #[.int .i64 p,.int .i64 a] w λe w'=>e=.returned (.int .i64 (dS p a))/\w'=w:=by
 go_enter func167,ntmps167;go_wp2;go_loop [5,8] (λr i=>∃k:Nat,k<=p-2/\i=.int .i64 k/\r=.int .i64 (jy p a k)) (λ_ i=>p-(intOf i).toNat);case atStart=>exact⟨0,MP _,rfl,rfl⟩
 case round=>
  obtain⟨k,hk,rfl,rfl⟩:=hrel;have hlt:=yq p a hp k;by_cases hk2:k<p-2
  .have hc:=D3 p a k;have hmb:=qA (a:=(jy p a k:Int)) (b:=(a:Int)) ⟨by omega,by omega,by omega,by omega⟩;obtain⟨hm1,hm2⟩:=hmb;have HC:=ae hc;clear hc;generalize hq:jy p a k=q at*;clear hq;go_wp2;go_round;case rel=>exact⟨k+1,by omega,by go_num,by rw[HC.o]⟩
   case measure=>simp[intOf];omega
  .have e:k=p-2:=by omega
   go_wp2;go_ret;exact⟨bL (by first|rfl|(rw[e];rfl)),rfl⟩
theorem D5{p a:Int}(h:gI p [a]=0):bq p=0/\0<=a/\a<p:=by
 unfold gI at h;by_cases h1:bq p=0
 .rw[M9 h1] at h;cases h2:[a].any (ig p)
  .have ha:=DY h2 a (by simp);exact⟨h1,ha.1,ha.2⟩
  .rw[M9 h2] at h;omega
 .rw[M8 h1] at h;exact absurd h h1
def jU(p a:Int):Int:=if gI p [a]=0 then (if a=0 then 5 else 0) else gI p [a]
def kB(p a:Int):Int:=if jU p a=0 then aM p a else 0
theorem D6(p a:Int)(w:World):Calls prog 157 #[.int .i64 p,.int .i64 a] w λe w'=>e=.returned (.tuple #[.int .i64 (kB p a),.int .i64 (jU p a)])/\Below w.heap.size w w':=by
 cases hz:(gI p [a] !=0)
 .have hz0:gI p [a]=0:=by simpa using hz
  obtain⟨h1,ha,ha2⟩:=D5 hz0;obtain⟨hp1,hp2,_⟩:=oR h1;have HZ:=ae hz0;cases h0:(a==0)
  .have h0':a≠0:=by simpa using h0
   have e1:jU p a=0:=by unfold jU;rw[M9 hz0,M8 h0']
   have e2:kB p a=aM p a:=by unfold kB;rw[M9 e1]
   rw[e1,e2];obtain⟨pn,rfl⟩:∃n:Nat,p=n:=⟨p.toNat,by omega⟩;obtain⟨an,rfl⟩:∃n:Nat,a=n:=⟨a.toNat,by omega⟩;have e3:aM (pn:Int) (an:Int)=dS pn an:=rfl;rw[e3];clear e1 e2 e3 h1 hz0 hz h0';go_enter func157,ntmps157;go_wp2_with fail;refine(tG pn _ [(an:Int)] _ (by simp) (Sl.of1 _ _ _)).mono ?_;rintro e w1 ⟨rfl,hb1⟩;rw[HZ.o];go_wp2_with fail;refine(D4 pn an _ (by omega) (by omega) (by omega)).mono ?_;rintro e w' ⟨rfl,rfl⟩;go_wp2;go_ret2;exact⟨rfl,ai.trans (hb1.mono (by simp))⟩
  .have h0':a=0:=by simpa using h0
   have e1:jU p a=5:=by unfold jU;rw[M9 hz0,M9 h0']
   have e2:kB p a=0:=by unfold kB;rw[M8 (by rw[e1];decide)]
   rw[e1,e2];clear e1 e2 h1 hz0 hz h0';go_enter func157,ntmps157;go_wp2_with fail;refine(tG p _ [a] _ (by simp) (Sl.of1 _ _ _)).mono ?_;rintro e w1 ⟨rfl,hb1⟩;rw[HZ.o];go_wp2;go_ret2;exact⟨rfl,ai.trans (hb1.mono (by simp))⟩
 .have e1:jU p a=gI p [a]:=by unfold jU;rw[M8 (by simpa using hz)]
  have e2:kB p a=0:=by unfold kB;rw[M8 (by rw[e1];simpa using hz)]
  rw[e1,e2];clear e1 e2;go_enter func157,ntmps157;go_wp2_with fail;refine(tG p _ [a] _ (by simp) (Sl.of1 _ _ _)).mono ?_;rintro e w1 ⟨rfl,hb1⟩;go_wp2;go_ret2;exact⟨rfl,ai.trans (hb1.mono (by simp))⟩
theorem yr{p a:Nat}(h:m8 p a=true):1<=dS p a/\dS p a<p/\a*dS p a%p=1%p/\∀b,b<dS p a->a*b%p≠1%p:=by unfold m8 at h;simp only[Bool.and_eq_true,decide_eq_true_eq,List.all_eq_true,beq_iff_eq,bne_iff_ne] at h;obtain⟨⟨⟨h1,h2⟩,h3⟩,h4⟩:=h;exact⟨h1,h2,h3,λb hb=>h4 b (by simpa using hb)⟩
theorem D7(p a k:Nat):((a:Int)*(k:Int)%(p:Int)==1%(p:Int))=decide (a*k%p=1%p):=by
 have e1:(a:Int)*(k:Int)%(p:Int)=((a*k%p:Nat):Int):=by simp
 have e2:(1:Int)%(p:Int)=((1%p:Nat):Int):=by simp
 rw[e1,e2];by_cases h:a*k%p=1%p
 .simp[h]
 .rw[ML h];simp only[beq_eq_false_iff_ne];intro e;exact h (by exact_mod_cast e)
theorem D8(p a:Nat)(w:World)(hp:2<=p)(hp2:p<=101)(ha:a<p)(hok:m8 p a=true):Calls prog 50 #[.int .i64 p,.int .i64 a] w λe w'=>e=.returned (.int .i64 (dS p a))/\∃n,w'=w.drewN n:=by
 have PARTS:=ae (yr hok);clear hok;go_enter func50,ntmps50;go_wp2;go_loopw [5] (λi wr=>∃k n:Nat,1<=k/\k<=dS p a/\i=.int .i64 k/\wr=w.drewN n) (λi _=>p-(intOf i).toNat);case atStart=>exact⟨1,0,by omega,PARTS.o.1,rfl,rfl⟩
 case round=>
  obtain⟨k,n0,hk1,hk,rfl,hw0⟩:=hrel;have HW:=ae hw0;have HK:=ae hk;have hkp:k<p:=by have:=PARTS.o.2.1;omega
  have hmb:=qA (a:=(a:Int)) (b:=(k:Int)) ⟨by omega,by omega,by omega,by omega⟩;obtain⟨hm1,hm2⟩:=hmb;have hct:=D7 p a k;clear hw0 hk;by_cases he:k=dS p a
  .have ht:((a:Int)*(k:Int)%(p:Int)==1%(p:Int))=true:=by rw[hct,he];exact MM PARTS.o.2.2.1
   have HE:=ae he;clear hct he;go_wp2;go_quiet (fail);go_wp2;go_ret;exact⟨bL (by rw[<-HE.o]),_,by rw[HW.o,World.drewN_drewN]⟩
  .have ht:((a:Int)*(k:Int)%(p:Int)==1%(p:Int))=false:=by rw[hct];exact ML (PARTS.o.2.2.2 k (by have:=HK.o;omega))
   have HE:=ae he;clear hct he;go_wp2;go_quiet (fail);go_wp2;go_roundw;case rel=>exact⟨k+1,_,by omega,by have:=HK.o;have:=HE.o;omega,by go_num,by rw[HW.o,World.drewN_drewN]⟩
   case measure=>simp[intOf];omega
def oS(w:World)(v:Value)(xss:List (List Int)):Prop:=
 ∃a cap,v=.slice a xss.length cap/\(0<xss.length->∃b off,a=some ⟨b,off,none⟩/\b<w.heap.size/\lZ w b off xss)
theorem oS.below{w w':World}{v:Value}{xss:List (List Int)}(h:oS w v xss)(hb:Below w.heap.size w w'):oS w' v xss:=by obtain⟨a,cap,rfl,h⟩:=h;refine⟨a,cap,rfl,λhp=>?_⟩;obtain⟨b,off,rfl,hlt,hc⟩:=h hp;exact⟨b,off,rfl,MN hlt hb.size,hc.below hlt hb⟩
theorem D9(xs:List (List Int))(k:Nat)(h:k<xs.length):xs.getD k []∈xs:=by rw[MV,MW h];simp
theorem Tryz.infoInt:(prog.info? 3).map (λi=>(i.zero,i.size,i.bytes))=some (some (.int .i64 0),1,8):=by kernel_rfl
abbrev fC(xs:List Int):List Value:=xs.map (Value.int .i64)
def cq(w:World)(B:Nat)(v:Value)(xs:List Int):Prop:=w.ownsRow B 3 1 v xs.length (fC xs)
theorem yt{w:World}{b off:Nat}{xs:List Int}(h:ef w b off xs):∀j u,(fC xs)[j]?=some u->w.cell? ((⟨b,off,none⟩:Addr).add j)=some u:=by
 intro j u hj;rw[List.getElem?_map] at hj;cases hx:xs[j]? with
 |none=>rw[hx] at hj;simp at hj
 |some x=>
  rw[hx] at hj;simp at hj;subst hj;have hl:j<xs.length:=by apply M7;intro hle;rw[MX hle] at hx;simp at hx
  have:=h j hl;rw[MV,hx] at this;by_cases h0:j=0
  .subst h0;simpa [Addr.add] using this
  .simpa [Addr.add,h0] using this
theorem tI(xs:List Int):∀u∈fC xs,u.oneCell'=true:=by intro u hu;simp at hu;obtain⟨x,_,rfl⟩:=hu;rfl
end Go.Proofs.YteimdcndjjclnaaGreat
