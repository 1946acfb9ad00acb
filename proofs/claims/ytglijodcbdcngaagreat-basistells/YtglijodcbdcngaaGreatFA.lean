/- Numbers modulo a prime: the closures; looking through numbers. -/
import Derived.Test.YtglijodcbdcngaaGreatA
import Derived.Deep.DeepCutAuto
import Derived.Lib.SliceRun
set_option maxHeartbeats 400000
namespace Go.Proofs.YtglijodcbdcngaaGreat
set_option linter.unusedSimpArgs false
set_option linter.unusedVariables false
open Go.Proofs.Tryz Go.RowKit
def fG(p x:Int):Bool:=decide (x<0\/p<=x)
theorem tJ{a b:Int}(h:0<=a/\a<=200/\0<=b/\b<=200):0<=a*b/\a*b<=40000:=by obtain⟨h1,h2,h3,h4⟩:=h;refine⟨Int.mul_nonneg h1 h3,?_⟩;have:a*b<=200*200:=Int.mul_le_mul h2 h4 h3 (by omega);omega
theorem tK(p x:Int)(b:Nat)(w:World)(hb:w.cell? ⟨b,0,none⟩=some (.int .i64 p)):Calls prog 292 #[.int .i64 x,.pointer (some ⟨b,0,none⟩)] w λe w'=>e=.returned (.bool (fG p x))/\w'=w:=by
 unfold fG;by_cases h:x<0
 ·go_enter func292,ntmps292;go_wp2;go_ret;exact⟨by simp[h],rfl⟩
 ·go_enter func292,ntmps292;go_wp2;go_ret;exact⟨by simp;omega,rfl⟩
theorem Av(p:Int)(xs:List Int)(b off cap pb:Nat)(w:World)(hm:xs.length<=400)(hc:cM w b off xs)(hp:w.cell? ⟨pb,0,none⟩=some (.int .i64 p)):Calls prog 83 #[.slice (some ⟨b,off,none⟩) xs.length cap,.func (.func 292) #[] #[.pointer (some ⟨pb,0,none⟩)]] w λe w'=>∃r:Int,e=.returned (.int .i64 r)/\decide (0<=r)=xs.any (fG p)/\w'=w:=by
 have HC:=aa hc;have HP:=aa hp;clear hc hp;go_enter func83,ntmps83;go_wp2;go_loop [8] (λi=>∃k:Nat,k<=xs.length/\i=.int .i64 k/\(xs.take k).any (fG p)=false) (λi=>xs.length-(intOf i).toNat);case atStart=>exact⟨0,Hl _,rfl,by simp⟩
 case round=>
  obtain⟨k,hk,rfl,hn⟩:=hrel;have HN:=aa hn;clear hn;by_cases hlt:k<xs.length
  ·have hcell:=HC.o k hlt;have H1:=aa (pG (fG p) xs k hlt HN.o);have H2:=aa (nK (fG p) xs k hlt);generalize xs.getD k 0=y at hcell H1 H2;cases hy:fG p y
   ·go_wp2_with (go_at_call 292;refine(tK p _ _ _ HP.o).mono ?_;rintro e w' ⟨rfl,rfl⟩);go_round;case rel=>exact⟨k+1,by omega,by go_num,H1.o hy⟩
    case measure=>simp[intOf];omega
   ·go_wp2_with (go_at_call 292;refine(tK p _ _ _ HP.o).mono ?_;rintro e w' ⟨rfl,rfl⟩);go_ret;exact⟨(k:Int),rfl,by rw[H2.o hy];simp,rfl⟩
  ·go_wp2;go_ret;exact⟨-1,rfl,by have:=HN.o;rw[Hz (by omega)] at this;rw[this];simp,rfl⟩
theorem Aw(f:Value)(a:Option Addr)(cap:Nat)(w:World):Calls prog 83 #[.slice a 0 cap,f] w λe w'=>e=.returned (.int .i64 (-1))/\w'=w:=by
 go_enter func83,ntmps83;go_wp2;go_loop [8] (λi=>i=.int .i64 0) (λ_=>0);case atStart=>rfl
 case round=>subst hrel;go_wp2;go_ret;exact⟨rfl,rfl⟩
theorem tL(p:Int)(v:Value)(xs:List Int)(w:World)(hm:xs.length<=400)(hs:Sl w v xs):Calls prog 268 #[.int .i64 p,v] w λe w'=>e=.returned (.bool (xs.any (fG p)))/\Below w.heap.size w w':=by
 have gp:∀{w:World}{A:Obj},Below w.heap.size w (w.alloc A):=fun {w A}=>(Hf _ _).alloc (He _) _;obtain⟨a,cap,rfl,h1⟩:=hs;have hcon:∀(W:World)(pb:Nat),W.cell? ⟨pb,0,none⟩=some (.int .i64 p)->Below w.heap.size w W->Calls prog 43 #[.slice a xs.length cap,.func (.func 292) #[] #[.pointer (some ⟨pb,0,none⟩)]] W λe w'=>e=.returned (.bool (xs.any (fG p)))/\w'=W:=by
  intro W pb hW hb;by_cases h0:0<xs.length
  ·obtain⟨b,off,rfl,hlt,hc⟩:=h1 h0;have HC:Ic (cM W b off xs):=λi hi=>by rw[hb.cell (p:=⟨b,off+i,none⟩) hlt];exact hc i hi
   have HW:=aa hW;clear hc h1 hb hW;go_enter func43,ntmps43;go_wp2_with (go_at_call 83;refine(Av p xs _ _ _ _ _ hm HC.o HW.o).mono ?_;rintro e w' ⟨r,rfl,hr,rfl⟩);go_ret;exact⟨by rw[<-hr];rfl,rfl⟩
  ·have e:xs=[]:=List.length_eq_zero_iff.1 (by omega);subst e;clear h1 hb hW h0 hm;go_enter func43,ntmps43;go_wp2_with (go_at_call 83;refine(Aw _ _ _ _).mono ?_;rintro e w' ⟨rfl,rfl⟩);go_ret;exact⟨rfl,rfl⟩
 have HCON:=aa hcon;clear hcon h1;go_enter func268,ntmps268;go_wp2_with fail;refine(HCON.o _ _ (by simp) gp).mono ?_;rintro e w' ⟨rfl,rfl⟩;go_wp2;go_ret;exact⟨rfl,gp⟩
def fe(p:Int)(xs:List Int):Int:=if aZ p=0 then (if xs.any (fG p) then 3 else 0) else aZ p
theorem af{w:World}{A:Obj}:Below w.heap.size w (w.alloc A):=(Hf _ _).alloc (He _) _
theorem nO{p:Int}(h:aZ p=0):2<=p/\p<=101/\jH p=true:=by
 unfold aZ at h;by_cases h1:p<2\/101<p
 ·rw[if_pos h1] at h;omega
 ·rw[if_neg h1] at h;by_cases h2:jH p=true
  ·exact⟨by omega,by omega,h2⟩
  ·rw[if_neg h2] at h;omega
theorem Ax{p:Int}{xs:List Int}(h:xs.any (fG p)=false):∀x∈xs,0<=x/\x<p:=by intro x hx;rw[List.any_eq_false] at h;have:=h x hx;simp[fG] at this;omega
theorem pV(p:Int)(v:Value)(xs:List Int)(w:World)(hm:xs.length<=400)(hs:Sl w v xs):Calls prog 234 #[.int .i64 p,v] w λe w'=>e=.returned (.int .i64 (fe p xs))/\Below w.heap.size w w':=by
 have HS:=aa hs;obtain⟨a,cap,rfl,_⟩:=hs;cases hp:(aZ p !=0)
 ·have hp0:aZ p=0:=by simpa using hp
  cases hx:xs.any (fG p)
  ·have e:fe p xs=0:=by unfold fe;rw[if_pos hp0,if_neg (by simp[hx])]
   rw[e];clear e hp0;go_enter func234,ntmps234;go_wp2_with fail;refine(i6 _ _).mono ?_;rintro e w' ⟨rfl,rfl⟩;go_wp2_with fail;refine(tL p _ xs _ hm HS.o).mono ?_;rintro e w' ⟨rfl,hb⟩;go_wp2;go_ret;exact⟨rfl,hb⟩
  ·have e:fe p xs=3:=by unfold fe;rw[if_pos hp0,if_pos hx]
   rw[e];clear e hp0;go_enter func234,ntmps234;go_wp2_with fail;refine(i6 _ _).mono ?_;rintro e w' ⟨rfl,rfl⟩;go_wp2_with fail;refine(tL p _ xs _ hm HS.o).mono ?_;rintro e w' ⟨rfl,hb⟩;go_wp2;go_ret;exact⟨rfl,hb⟩
 ·have e:fe p xs=aZ p:=by unfold fe;rw[if_neg (by simpa using hp)]
  rw[e];clear e;go_enter func234,ntmps234;go_wp2_with fail;refine(i6 _ _).mono ?_;rintro e w' ⟨rfl,rfl⟩;go_wp2;go_ret;exact⟨rfl,Hf _ _⟩
theorem Sl.of1(w:World)(a:Int)(T:TypeId):Sl (w.alloc (.cells #[.int .i64 a] T)) (.slice (some ⟨w.heap.size,0,none⟩) 1 1) [a]:=by refine⟨_,_,rfl,λ_=>⟨_,_,rfl,by simp,λi hi=>?_⟩⟩;simp at hi;subst hi;simp
def ij(p a:Nat):Nat->Nat
 |0=>1
 |k+1=>ij p a k*a%p
theorem Ay(p a:Nat)(hp:2<=p):∀k,ij p a k<p
 |0=>by simp[ij];omega
 |k+1=>by simp only[ij];exact Nat.mod_lt _ (by omega)
def fh(p a:Nat):Nat:=ij p a (p-2)
def aC(p a:Int):Int:=fh p.toNat a.toNat
def k6(p a:Nat):Bool:=decide (1<=fh p a)&&decide (fh p a<p)&&(a*fh p a%p==1%p)&&(List.range (fh p a)).all λb=>a*b%p !=1%p
theorem Az:((List.range 102).all λp=>!(decide (2<=p)&&eu p p)||(List.range p).all λa=>decide (a=0)||k6 p a)=true:=by decide+kernel
theorem tM{p a:Nat}(h1:2<=p)(h2:p<=101)(h3:eu p p=true)(h4:0<a)(h5:a<p):k6 p a=true:=by have h:=Az;rw[List.all_eq_true] at h;have h6:=h p (by simp;omega);rw[h3,Hi h1] at h6;simp only[Bool.and_self,Bool.not_true,Bool.false_or] at h6;rw[List.all_eq_true] at h6;have h7:=h6 a (by simpa using h5);rw[Hh (by omega)] at h7;simpa using h7
theorem AA(p a k:Nat):((ij p a (k+1):Nat):Int)=(ij p a k:Int)*(a:Int)%(p:Int):=by simp[ij,Int.natCast_emod,Int.natCast_mul]
theorem AB(p a:Nat)(w:World)(hp:2<=p)(hp2:p<=101)(ha:a<p):Calls prog 235 #[.int .i64 p,.int .i64 a] w λe w'=>e=.returned (.int .i64 (fh p a))/\w'=w:=by
 go_enter func235,ntmps235;go_wp2;go_loop [5,8] (λr i=>∃k:Nat,k<=p-2/\i=.int .i64 k/\r=.int .i64 (ij p a k)) (λ_ i=>p-(intOf i).toNat);case atStart=>exact⟨0,Hl _,rfl,rfl⟩
 case round=>
  obtain⟨k,hk,rfl,rfl⟩:=hrel;have hlt:=Ay p a hp k;by_cases hk2:k<p-2
  ·have hc:=AA p a k;have hmb:=tJ (a:=(ij p a k:Int)) (b:=(a:Int)) ⟨by omega,by omega,by omega,by omega⟩;obtain⟨hm1,hm2⟩:=hmb;have HC:=aa hc;clear hc;generalize hq:ij p a k=q at*;clear hq;go_wp2;go_round;case rel=>exact⟨k+1,by omega,by go_num,by rw[HC.o]⟩
   case measure=>simp[intOf];omega
  ·have e:k=p-2:=by omega
   go_wp2;go_ret;exact⟨cm (by first|rfl|(rw[e];rfl)),rfl⟩
theorem AC{p a:Int}(h:fe p [a]=0):aZ p=0/\0<=a/\a<p:=by
 unfold fe at h;by_cases h1:aZ p=0
 ·rw[if_pos h1] at h;cases h2:[a].any (fG p)
  ·have ha:=Ax h2 a (by simp);exact⟨h1,ha.1,ha.2⟩
  ·rw[if_pos h2] at h;omega
 ·rw[if_neg h1] at h;exact absurd h h1
def iF(p a:Int):Int:=if fe p [a]=0 then (if a=0 then 5 else 0) else fe p [a]
def je(p a:Int):Int:=if iF p a=0 then aC p a else 0
theorem AD(p a:Int)(w:World):Calls prog 194 #[.int .i64 p,.int .i64 a] w λe w'=>e=.returned (.tuple #[.int .i64 (je p a),.int .i64 (iF p a)])/\Below w.heap.size w w':=by
 cases hz:(fe p [a] !=0)
 ·have hz0:fe p [a]=0:=by simpa using hz
  obtain⟨h1,ha,ha2⟩:=AC hz0;obtain⟨hp1,hp2,_⟩:=nO h1;have HZ:=aa hz0;cases h0:(a==0)
  ·have h0':a≠0:=by simpa using h0
   have e1:iF p a=0:=by unfold iF;rw[if_pos hz0,if_neg h0']
   have e2:je p a=aC p a:=by unfold je;rw[if_pos e1]
   rw[e1,e2];obtain⟨pn,rfl⟩:∃n:Nat,p=n:=⟨p.toNat,by omega⟩;obtain⟨an,rfl⟩:∃n:Nat,a=n:=⟨a.toNat,by omega⟩;have e3:aC (pn:Int) (an:Int)=fh pn an:=rfl;rw[e3];clear e1 e2 e3 h1 hz0 hz h0';go_enter func194,ntmps194;go_wp2_with fail;refine(pV pn _ [(an:Int)] _ (by simp) (Sl.of1 _ _ _)).mono ?_;rintro e w1 ⟨rfl,hb1⟩;rw[HZ.o];go_wp2_with fail;refine(AB pn an _ (by omega) (by omega) (by omega)).mono ?_;rintro e w' ⟨rfl,rfl⟩;go_wp2;go_ret2;exact⟨rfl,af.trans (hb1.mono (by simp))⟩
  ·have h0':a=0:=by simpa using h0
   have e1:iF p a=5:=by unfold iF;rw[if_pos hz0,if_pos h0']
   have e2:je p a=0:=by unfold je;rw[if_neg (by rw[e1];decide)]
   rw[e1,e2];clear e1 e2 h1 hz0 hz h0';go_enter func194,ntmps194;go_wp2_with fail;refine(pV p _ [a] _ (by simp) (Sl.of1 _ _ _)).mono ?_;rintro e w1 ⟨rfl,hb1⟩;rw[HZ.o];go_wp2;go_ret2;exact⟨rfl,af.trans (hb1.mono (by simp))⟩
 ·have e1:iF p a=fe p [a]:=by unfold iF;rw[if_neg (by simpa using hz)]
  have e2:je p a=0:=by unfold je;rw[if_neg (by rw[e1];simpa using hz)]
  rw[e1,e2];clear e1 e2;go_enter func194,ntmps194;go_wp2_with fail;refine(pV p _ [a] _ (by simp) (Sl.of1 _ _ _)).mono ?_;rintro e w1 ⟨rfl,hb1⟩;go_wp2;go_ret2;exact⟨rfl,af.trans (hb1.mono (by simp))⟩
theorem AE{p a:Nat}(h:k6 p a=true):1<=fh p a/\fh p a<p/\a*fh p a%p=1%p/\∀b,b<fh p a->a*b%p≠1%p:=by unfold k6 at h;simp only[Bool.and_eq_true,decide_eq_true_eq,List.all_eq_true,beq_iff_eq,bne_iff_ne] at h;obtain⟨⟨⟨h1,h2⟩,h3⟩,h4⟩:=h;exact⟨h1,h2,h3,λb hb=>h4 b (by simpa using hb)⟩
theorem AF(p a k:Nat):((a:Int)*(k:Int)%(p:Int)==1%(p:Int))=decide (a*k%p=1%p):=by
 have e1:(a:Int)*(k:Int)%(p:Int)=((a*k%p:Nat):Int):=by simp
 have e2:(1:Int)%(p:Int)=((1%p:Nat):Int):=by simp
 rw[e1,e2];by_cases h:a*k%p=1%p
 ·simp[h]
 ·rw[Hh h];simp only[beq_eq_false_iff_ne];intro e;exact h (by exact_mod_cast e)
theorem AG(p a:Nat)(w:World)(hp:2<=p)(hp2:p<=101)(ha:a<p)(hok:k6 p a=true):Calls prog 71 #[.int .i64 p,.int .i64 a] w λe w'=>e=.returned (.int .i64 (fh p a))/\∃n,w'=w.drewN n:=by
 have PARTS:=aa (AE hok);clear hok;go_enter func71,ntmps71;go_wp2;go_loopw [5] (λi wr=>∃k n:Nat,1<=k/\k<=fh p a/\i=.int .i64 k/\wr=w.drewN n) (λi _=>p-(intOf i).toNat);case atStart=>exact⟨1,0,by omega,PARTS.o.1,rfl,rfl⟩
 case round=>
  obtain⟨k,n0,hk1,hk,rfl,hw0⟩:=hrel;have HW:=aa hw0;have HK:=aa hk;have hkp:k<p:=by have:=PARTS.o.2.1;omega
  have hmb:=tJ (a:=(a:Int)) (b:=(k:Int)) ⟨by omega,by omega,by omega,by omega⟩;obtain⟨hm1,hm2⟩:=hmb;have hct:=AF p a k;clear hw0 hk;by_cases he:k=fh p a
  ·have ht:((a:Int)*(k:Int)%(p:Int)==1%(p:Int))=true:=by rw[hct,he];exact Hi PARTS.o.2.2.1
   have HE:=aa he;clear hct he;go_wp2;go_quiet (fail);go_wp2;go_ret;exact⟨cm (by rw[<-HE.o]),_,by rw[HW.o,World.drewN_drewN]⟩
  ·have ht:((a:Int)*(k:Int)%(p:Int)==1%(p:Int))=false:=by rw[hct];exact Hh (PARTS.o.2.2.2 k (by have:=HK.o;omega))
   have HE:=aa he;clear hct he;go_wp2;go_quiet (fail);go_wp2;go_roundw;case rel=>exact⟨k+1,_,by omega,by have:=HK.o;have:=HE.o;omega,by go_num,by rw[HW.o,World.drewN_drewN]⟩
   case measure=>simp[intOf];omega
def pW(w:World)(v:Value)(xss:List (List Int)):Prop:=
 ∃a cap,v=.slice a xss.length cap/\(0<xss.length->∃b off,a=some ⟨b,off,none⟩/\b<w.heap.size/\kW w b off xss)
theorem pW.below{w w':World}{v:Value}{xss:List (List Int)}(h:pW w v xss)(hb:Below w.heap.size w w'):pW w' v xss:=by obtain⟨a,cap,rfl,h⟩:=h;refine⟨a,cap,rfl,λhp=>?_⟩;obtain⟨b,off,rfl,hlt,hc⟩:=h hp;exact⟨b,off,rfl,Hj hlt hb.size,hc.below hlt hb⟩
theorem Tryz.infoInt:(prog.info? 3).map (λi=>(i.zero,i.size,i.bytes))=some (some (.int .i64 0),1,8):=by kernel_rfl
abbrev mC(xs:List Int):List Value:=xs.map (Value.int .i64)
def jP(w:World)(B:Nat)(v:Value)(xs:List Int):Prop:=w.ownsRow B 3 1 v xs.length (mC xs)
theorem AH{w:World}{b off:Nat}{xs:List Int}(h:cM w b off xs):∀j u,(mC xs)[j]?=some u->w.cell? ((⟨b,off,none⟩:Addr).add j)=some u:=by
 intro j u hj;rw[List.getElem?_map] at hj;cases hx:xs[j]? with
 |none=>rw[hx] at hj;simp at hj
 |some x=>
  rw[hx] at hj;simp at hj;subst hj;have hl:j<xs.length:=by apply Ib;intro hle;rw[Hu hle] at hx;simp at hx
  have:=h j hl;rw[Hs,hx] at this;by_cases h0:j=0
  ·subst h0;simpa [Addr.add] using this
  ·simpa [Addr.add,h0] using this
theorem AI(xs:List Int):∀u∈mC xs,u.oneCell'=true:=by intro u hu;simp at hu;obtain⟨x,_,rfl⟩:=hu;rfl
theorem AJ(v:Value)(xs:List Int)(w:World)(hm:xs.length<=400)(hs:Sl w v xs):Calls prog 275 #[v] w λe w'=>∃u,e=.returned u/\jP w' w.heap.size u xs/\Below w.heap.size w w':=by
 obtain⟨a,cap,rfl,h1⟩:=hs;have hnil:=fun(w:World)(a:Option Addr)(n c:Nat)=>Lib.run_eql_slice_nil (P:=prog) w 37 3 a n c 0 0 underlying37;obtain⟨i0,hi,hz0,hz1,hz2⟩:=info_parts Tryz.infoInt;cases a with
 |none=>
  have h0:xs=[]:=List.length_eq_zero_iff.1 (by
   apply Nat.eq_zero_of_not_pos;intro h;obtain⟨b,off,hh,_⟩:=h1 h;simp at hh)
  subst h0;clear h1;go_enter func275,ntmps275;go_wp2;go_ret;exact⟨_,rfl,World.ownsRow_nil _ _ _ _,Hf _ _⟩
 |some ad=>
  have HN:Ic (∀j u,(mC xs)[j]?=some u->(w.alloc (.cells #[] 3)).cell? (ad.add j)=some u):=by
   intro j u hj;by_cases h0:0<xs.length
   ·obtain⟨b,off,hh,hlt,hc⟩:=h1 h0;simp at hh;subst hh;refine AH (w:=w.alloc (.cells #[] 3)) (b:=b) (off:=off) ?_ j u hj;intro i hi;rw[af.cell (p:=⟨b,off+i,none⟩) hlt];exact hc i hi
   ·have:xs=[]:=List.length_eq_zero_iff.1 (by omega);subst this;simp at hj
  clear h1;go_enter func275,ntmps275;go_wp2_with (at_builtin;refine wpList_append_own _ rfl _ _ 37 rfl w.heap.size 3 i0 (.int .i64 0) 1 8 underlying37 hi hz0 hz1 hz2 rfl (by decide) _ _ _ rfl (World.ownsRow_made w #[] 0 (He _) (by decide) (by simp)) ad xs.length cap (mC xs) rfl (by simp) HN.o (AI xs) (by unfold maxLen;omega) (by omega) (by simp) ?_);intro v' w1 hown' hgrow _;try simp only[Hy,List.nil_append] at hown'
  have hb:Below w.heap.size w w1:=(af).grown hgrow (by simp) (λk hk=>by simp[Value.ownBlock] at hk;omega);have HO:=aa hown';obtain⟨g,c,hv⟩:∃g c,v'=.slice g xs.length c:=by
   rcases hown'.2 with ⟨h,h'⟩|⟨g,c,ai,h,_⟩
   ·exact⟨none,0,by rw[h,h']⟩
   ·exact⟨_,c,h⟩
  subst hv;clear hown' hgrow hnil;go_wp2;go_ret;exact⟨_,rfl,HO.o,hb⟩
end Go.Proofs.YtglijodcbdcngaaGreat
