/- Plain mathematics: degrees of sums and products. -/
import Derived.Test.YtglijodcbdcngaaGreatRE
set_option maxHeartbeats 2000000
set_option maxRecDepth 100000
namespace Go.Proofs.YtglijodcbdcngaaGreat
open Go.Proofs.Tryz
set_option linter.unusedSimpArgs false
set_option linter.unusedVariables false
theorem xN{p o:Int}:∀(l out:List Tm)(x:Tm),x∈l.foldl (bA p o) out->(∃y∈l,x.2=y.2)\/∃u∈out,x.2=u.2
 |[],out,x,h=>Or.inr ⟨x,h,rfl⟩
 |t::l,out,x,h=>by
  rcases xN l (bA p o out t) x h with ⟨y,hy,e⟩|⟨u,hu,e⟩
  ·exact Or.inl ⟨y,by simp[hy],e⟩
  ·rcases m8 hu with e2|⟨y,hy,e2⟩
   ·exact Or.inl ⟨t,by simp,by rw[e,e2]⟩
   ·exact Or.inr ⟨y,hy,by rw[e,e2]⟩
theorem ke{p o:Int}{l:List Tm}{x:Tm}(h:x∈aG p o l):∃y∈l,x.2=y.2:=by
 rcases xN l [] x (List.mem_filter.1 h).1 with h|⟨u,hu,_⟩
 ·exact h
 ·simp at hu
theorem xO{o:Int}{xs ys:List Int}(h:0<aF o xs ys):ag ys<=ag xs:=by
 have h2:=dL (ag xs) (ag ys);unfold aF at h;by_cases hz:aR (ag xs) (ag ys)=0
 ·omega
 ·rw[if_neg hz] at h;omega
theorem xP:∀(ts:List Tm)(m:Int),m<=cI m ts/\∀x∈ts,ag x.2<=cI m ts
 |[],m=>⟨Int.le_refl _,λx hx=>by simp at hx⟩
 |t::ts,m=>by
  have h:=xP ts (if m<ag t.2 then ag t.2 else m);simp only[cI];have hm:m<=(if m<ag t.2 then ag t.2 else m)/\ag t.2<=(if m<ag t.2 then ag t.2 else m):=by split<;>omega
  refine⟨Int.le_trans hm.1 h.1,λx hx=>?_⟩;rcases List.mem_cons.1 hx with rfl|hx
  ·exact Int.le_trans hm.2 h.1
  ·exact h.2 x hx
theorem pd{B:Int}:∀(ts:List Tm)(m:Int),(∀x∈ts,ag x.2<=B)->m<=B->cI m ts<=B
 |[],m,_,hm=>hm
 |t::ts,m,h,hm=>by simp only[cI];refine pd ts _ (λx hx=>h x (by simp[hx])) ?_;have:=h t (by simp);split<;>omega
theorem xQ{ts:List Tm}(h:∀x∈ts,ag x.2<=200):bX ts=decide (2000<ts.length):=by unfold bX;have:=pd ts (-1) h (by omega);rw[Hh (by omega),Bool.false_or]
theorem xR{ts:List Tm}{x:Tm}(hx:x∈ts)(h:200<ag x.2):bX ts=true:=by unfold bX;have:=(xP ts (-1)).2 x hx;rw[Hi (by omega),Bool.true_or]
theorem lB{p o:Int}{N:Nat}{t:Tm}{ts:List Tm}(h:bk p o N (t::ts)):∀x∈t::ts,ag x.2<=ag t.2:=by
 intro x hx;rcases List.mem_cons.1 hx with rfl|hx
 ·exact Int.le_refl _
 ·exact xO (h.falls.1 x hx)
theorem EZ{p o:Int}{N:Nat}{t u:Tm}{f g:List Tm}(hf:bk p o N (t::f))(hg:bk p o N (u::g)):∀x∈aG p o (aB p (t::f) (u::g)),ag x.2<=ag t.2+ag u.2:=by intro x hx;obtain⟨y,hy,e⟩:=ke hx;simp only[Go.Proofs.YtglijodcbdcngaaGreat.aB,aT,List.mem_flatMap,H8] at hy;obtain⟨a,ha,b,hb,rfl⟩:=hy;rw[e];simp only;rw[mG _ _ (by rw[hf.len a ha,hg.len b hb])];have h1:=lB hf a ha;have h2:=lB hg b hb;omega
theorem E0{p o:Int}{N:Nat}(he:aZ p=0){t u:Tm}{f g:List Tm}(hf:bk p o N (t::f))(hg:bk p o N (u::g)):∃x∈aG p o (aB p (t::f) (u::g)),x.2=ah (·+·) t.2 u.2:=by
 apply Classical.byContradiction;intro hno;have hz:aj (ed (ah (·+·) t.2 u.2)) (aG p o (aB p (t::f) (u::g)))=0:=lY (λx hx e=>hno ⟨x,hx,e⟩)
 have hl:=jx p o (ed (ah (·+·) t.2 u.2)) (aB p (t::f) (u::g))
 rw[hz] at hl;have lt:=hf.len t (by simp);have lu:=hg.len u (by simp);have e0:aB p (t::f) (u::g)=(t.1*u.1%p,ah (·+·) t.2 u.2)::(aT p t g++aB p f (u::g)):=rfl
 have hne:∀x∈aT p t g++aB p f (u::g),x.2≠ah (·+·) t.2 u.2:=by
  intro x hx e;have pos:0<aF o (ah (·+·) t.2 u.2) x.2:=by
   rcases Hv.1 hx with hx|hx
   ·simp only[aT,H8] at hx;obtain⟨b,hb,rfl⟩:=hx;have lb:=hg.len b (by simp[hb]);simp only;rw[ki t.2 u.2,ki t.2 b.2,nS o u.2 b.2 t.2 (by omega) (by omega)];exact hg.falls.1 b hb
   ·simp only[Go.Proofs.YtglijodcbdcngaaGreat.aB,aT,List.mem_flatMap,H8] at hx;obtain⟨a,ha,b,hb,rfl⟩:=hx;have la:=hf.len a (by simp[ha]);have lb:=hg.len b hb;simp only;have h1:0<aF o (ah (·+·) t.2 u.2) (ah (·+·) a.2 u.2):=by rw[nS o t.2 a.2 u.2 (by omega) (by omega)];exact hf.falls.1 a ha
    rcases List.mem_cons.1 hb with rfl|hb
    ·exact h1
    ·have h2:0<aF o (ah (·+·) a.2 u.2) (ah (·+·) a.2 b.2):=by rw[ki a.2 u.2,ki a.2 b.2,nS o u.2 b.2 a.2 (by omega) (by omega)];exact hg.falls.1 b hb
     exact jQ o _ _ _ (by rw[eP _ _ _ (by omega),eP _ _ _ (by omega)];omega) (by rw[eP _ _ _ (by omega),eP _ _ _ (by omega)]) h1 h2
  rw[e] at pos;have:=(fj o (ah (·+·) t.2 u.2) (ah (·+·) t.2 u.2) rfl).2 rfl
  omega
 rw[e0] at hl;simp only[aj] at hl;rw[lY hne] at hl;have h1:=lH he (hf.coef t (by simp)).1 (hf.coef t (by simp)).2 (hg.coef u (by simp)).1 (hg.coef u (by simp)).2;have h2:ed (ah (·+·) t.2 u.2) (ah (·+·) t.2 u.2)=1:=by unfold ed;rw[if_pos rfl]
 rw[h2] at hl;have h3:=rM hl;have:=Int.le_of_dvd (by omega) h3;omega
theorem xS{p o:Int}{N:Nat}(he:aZ p=0){t u:Tm}{f g:List Tm}(hf:bk p o N (t::f))(hg:bk p o N (u::g)):bX (aG p o (aB p (t::f) (u::g)))=(decide (200<ag t.2+ag u.2)||decide (2000<(aG p o (aB p (t::f) (u::g))).length)):=by
 by_cases h:200<ag t.2+ag u.2
 ·obtain⟨x,hx,e⟩:=E0 he hf hg;rw[xR hx (by rw[e,mG _ _ (by rw[hf.len t (by simp),hg.len u (by simp)])];exact h),Hi h,Bool.true_or]
 ·rw[xQ (λx hx=>by have:=EZ hf hg x hx;omega),Hh h,Bool.false_or]
theorem E1{p o:Int}{f g:List Tm}(h:f=[]\/g=[]):aG p o (aB p f g)=[]:=by
 rcases h with rfl|rfl
 ·rfl
 ·have:aB p f []=[]:=by
   unfold Go.Proofs.YtglijodcbdcngaaGreat.aB;induction f with
   |nil=>rfl
   |cons t f ih=>simp[aT]
  rw[this];rfl
end Go.Proofs.YtglijodcbdcngaaGreat
namespace Go.Proofs.YtglijodcbdcngaaGreat
set_option linter.unusedSimpArgs false
set_option linter.unusedVariables false
open Go.Proofs.Tryz Go.RowKit
def rU(p n o v:Int)(chk:List (List Tm)->Int):Prop:=
 (∀(fss:List (List Tm)) (lv:Value) (w:World),fss.length<=1200000000000->Vl w lv fss->Calls prog 140 #[az p n o v,lv] w λe w'=>e=.returned (.int .i64 (chk fss))/\Below w.heap.size w w')/\
 (∀fss,fss≠[]->chk fss=0->bo p n o v=0/\∀f∈fss,cz p n o f=0)/\
 (bo p n o v=0->∀fss,(∀f∈fss,cz p n o f=0)->chk fss=0)
theorem E2(x:Value)(ts:List Tm)(w:World)(h:2000<ts.length)(pf:Pl w x ts):Calls prog 296 #[x] w λe w'=>e=.returned (.tuple #[.slice none 0 0,.int .i64 2])/\w'=w:=by obtain⟨a,c,rfl,_,_⟩:=pf;go_enter func296,ntmps296;go_wp2;go_ret2;exact⟨rfl,rfl⟩
theorem rV(x:Value)(ts:List Tm)(w:World)(h:¬2000<ts.length)(pf:Pl w x ts):Calls prog 296 #[x] w λe w'=>e=.returned (.tuple #[x,.int .i64 0])/\w'=w:=by obtain⟨a,c,rfl,_,_⟩:=pf;go_enter func296,ntmps296;go_wp2;go_ret2;exact⟨rfl,rfl⟩
theorem mh(x:Value)(t:Tm)(ts:List Tm)(w:World)(h0:0<t.2.length)(h3:t.2.length<=3)(hb:∀x∈t.2,0<=x/\x<=40000)(pf:Pl w x (t::ts)):Calls prog 295 #[x] w λe w'=>e=.returned (.int .i64 (ag t.2))/\w'=w:=by
 obtain⟨b,off,cap,ev,rfl,hcap,hlt,c0,c1,hse,_,_⟩:=pf.head;have HB:=aa hb;obtain⟨a,c,rfl,hs⟩:=hse;obtain⟨eb,eoff,rfl,helt,hei⟩:=hs h0;have HEI:=aa hei;clear hb hei hs pf;have hle:(0:Int)<(ts.length:Int)+1:=by omega
 go_enter func295,ntmps295;go_wp2_with (go_at_call 56;refine(ic t.2 _ _ _ _ HB.o h3 HEI.o).mono ?_;rintro e w' ⟨rfl,rfl⟩);go_ret;exact⟨rfl,rfl⟩
theorem mj{w:World}{x y:Value}{fs gs:List Tm}{b c:Nat}(hf:Pl w x fs)(hg:Pl w y gs)(hlt:b<w.heap.size)(c0:w.cell? ⟨b,0,none⟩=some x)(c1:w.cell? ⟨b,1,none⟩=some y):Vl w (.slice (some ⟨b,0,none⟩) 2 c) [fs,gs]:=by
 refine⟨_,c,rfl,λ_=>⟨b,0,rfl,hlt,λi hi=>?_⟩⟩;simp only[List.length_cons,List.length_nil] at hi;rcases i with _|_|i
 ·exact⟨x,c0,hf⟩
 ·exact⟨y,c1,hg⟩
 ·omega
theorem E3{w:World}{x:Value}{fs:List Tm}{b c:Nat}(hf:Pl w x fs)(hlt:b<w.heap.size)(c0:w.cell? ⟨b,0,none⟩=some x):Vl w (.slice (some ⟨b,0,none⟩) 1 c) [fs]:=by
 refine⟨_,c,rfl,λ_=>⟨b,0,rfl,hlt,λi hi=>?_⟩⟩;simp only[List.length_cons,List.length_nil] at hi;rcases i with _|i
 ·exact⟨x,c0,hf⟩
 ·omega
theorem pe{p n o v:Int}{f:List Tm}(hr:bo p n o v=0)(h:cz p n o f=0):cN p o n.toNat f/\0<n.toNat/\n.toNat<=3/\aZ p=0/\(2<=p/\p<=101)/\(o=1\/o=2):=by
 obtain⟨h1,h2,h3,h4,_⟩:=kX hr;have e:n=(n.toNat:Int):=by omega
 rw[e] at h;exact⟨uU h,by omega,by omega,h1,dU h1,h4⟩
def gF(E:Int)(p o:Int)(f g:List Tm):Int:=if E≠0 then E else if bX (aG p o (aB p f g)) then 2 else 0
def jy(E:Int)(p o:Int)(f g:List Tm):List Tm:=if gF E p o f g=0 then aG p o (aB p f g) else []
theorem Ee{p o:Int}(l:List Tm):(aG p o l).length<=l.length:=by have h1:=List.length_filter_le (λt:Tm=>t.1%p !=0) (l.foldl (bA p o) []);have h2:=rW (p:=p) (o:=o) l [];simp only[List.length_nil] at h2;unfold aG;omega
theorem xT{E p o:Int}{f g:List Tm}(h:E≠0):gF E p o f g=E/\jy E p o f g=[]:=by
 have h1:gF E p o f g=E:=by unfold gF;rw[if_pos h]
 exact⟨h1,by unfold jy;rw[h1,if_neg h]⟩
theorem np{E p o:Int}{f g:List Tm}(h:E=0)(hg:bX (aG p o (aB p f g))=true):gF E p o f g=2/\jy E p o f g=[]:=by
 have h1:gF E p o f g=2:=by unfold gF;rw[if_neg (by simpa using h),if_pos hg]
 exact⟨h1,by unfold jy;rw[h1,if_neg (by omega)]⟩
theorem nr{E p o:Int}{f g:List Tm}(h:E=0)(hg:bX (aG p o (aB p f g))=false):gF E p o f g=0/\jy E p o f g=aG p o (aB p f g):=by
 have h1:gF E p o f g=0:=by unfold gF;rw[if_neg (by simpa using h),if_neg (by simp[hg])]
 exact⟨h1,by unfold jy;rw[h1,if_pos rfl]⟩
theorem xU(p n o v:Int)(chk:List (List Tm)->Int)(HC:rU p n o v chk)(x y:Value)(fs gs:List Tm)(w:World)(pf:Pl w x fs)(pg:Pl w y gs):Calls prog 272 #[az p n o v,x,y] w λe w'=>∃u,e=.returned (.tuple #[u,.int .i64 (gF (chk [fs,gs]) p o fs gs)])/\Pl w' u (jy (chk [fs,gs]) p o fs gs)/\Below w.heap.size w w':=by
 have HP:=aa pf;have HQ:=aa pg;have HT:=aa HC;obtain⟨a,c,rfl,_,_⟩:=pf;obtain⟨a2,c2,rfl,_,_⟩:=pg;clear HC;have HB2:Ic (∀A B,Below w.heap.size w ((w.alloc A).alloc B)):=λA B=>cW;cases hE:(chk [fs,gs] !=0)
 ·have hE0:chk [fs,gs]=0:=by simpa using hE
  obtain⟨hr,hall⟩:=HT.o.2.1 [fs,gs] (by simp) hE0;obtain⟨rf,hN0,hN3,hpr,hp,ho⟩:=pe hr (hall fs (by simp));obtain⟨rg,_⟩:=pe hr (hall gs (by simp));have HR:=aa (Hg rf rg);have HPO:=aa (Hg hp (Hg ho hpr));have HE0:=aa hE0;clear hE0 hr hall rf rg hp ho hpr;by_cases hem:fs=[]\/gs=[]
  ·have HEM:=aa hem;have hl0:¬(0<fs.length/\0<gs.length):=by
    rcases hem with h|h
    ·rw[h];simp
    ·rw[h];simp
   have hcn:aG p o (aB p fs gs)=[]:=E1 hem;have hgr:bX (aG p o (aB p fs gs))=false:=by rw[hcn];rfl
   rw[(nr HE0.o hgr).1,(nr HE0.o hgr).2];have hl:¬2000<(aG p o (aB p fs gs)).length:=by rw[hcn];simp
   clear hgr hcn hem;by_cases hf0:0<fs.length
   ·have hg0:¬0<gs.length:=λh=>hl0 ⟨hf0,h⟩;go_enter func272,ntmps272;go_wp2_with fail;refine(HT.o.1 [fs,gs] _ _ (by simp) (mj (HP.o.below (HB2.o _ _)) (HQ.o.below (HB2.o _ _)) (by simp) (by simp[go_sem]) (by simp[go_sem]))).mono ?_;rintro e w1 ⟨rfl,hb1⟩;rw[HE0.o];have HB1:=aa ((HB2.o _ _).trans (hb1.mono (HB2.o _ _).size));have bx0:w1.cell? ⟨w.heap.size,0,none⟩=some (.int .i64 p):=by rw[hb1.cell (p:=⟨w.heap.size,0,none⟩) (by simp;omega)];simp[go_sem]
    have bx1:w1.cell? ⟨w.heap.size,1,none⟩=some (.int .i64 n):=by rw[hb1.cell (p:=⟨w.heap.size,1,none⟩) (by simp;omega)];simp[go_sem]
    have bx2:w1.cell? ⟨w.heap.size,2,none⟩=some (.int .i64 o):=by rw[hb1.cell (p:=⟨w.heap.size,2,none⟩) (by simp;omega)];simp[go_sem]
    have bx3:w1.cell? ⟨w.heap.size,3,none⟩=some (.int .i64 v):=by rw[hb1.cell (p:=⟨w.heap.size,3,none⟩) (by simp;omega)];simp[go_sem]
    clear hb1;go_wp2_with fail;refine(o9 p n o v n.toNat _ _ fs gs _ HPO.o.2.2 HPO.o.2.1 hN0 hN3 HR.o.1.canon HR.o.2.canon HR.o.1.bd HR.o.2.bd HR.o.1.len HR.o.2.len (HP.o.below HB1.o) (HQ.o.below HB1.o)).mono ?_;rintro e w2 ⟨u9,rfl,hu,hb2⟩;have HU:=aa hu;have HB3:=aa (HB1.o.trans (hb2.mono HB1.o.size));obtain⟨ua,uc,rfl,_,_⟩:=hu;clear hb2 bx0 bx1 bx2 bx3;go_wp2_with fail;refine(rV _ _ _ hl HU.o).mono ?_;rintro e w3 ⟨rfl,rfl⟩;go_wp2;go_ret2;exact⟨_,rfl,HU.o,HB3.o⟩
   ·clear hl0;go_enter func272,ntmps272;go_wp2_with fail;refine(HT.o.1 [fs,gs] _ _ (by simp) (mj (HP.o.below (HB2.o _ _)) (HQ.o.below (HB2.o _ _)) (by simp) (by simp[go_sem]) (by simp[go_sem]))).mono ?_;rintro e w1 ⟨rfl,hb1⟩;rw[HE0.o];have HB1:=aa ((HB2.o _ _).trans (hb1.mono (HB2.o _ _).size));have bx0:w1.cell? ⟨w.heap.size,0,none⟩=some (.int .i64 p):=by rw[hb1.cell (p:=⟨w.heap.size,0,none⟩) (by simp;omega)];simp[go_sem]
    have bx1:w1.cell? ⟨w.heap.size,1,none⟩=some (.int .i64 n):=by rw[hb1.cell (p:=⟨w.heap.size,1,none⟩) (by simp;omega)];simp[go_sem]
    have bx2:w1.cell? ⟨w.heap.size,2,none⟩=some (.int .i64 o):=by rw[hb1.cell (p:=⟨w.heap.size,2,none⟩) (by simp;omega)];simp[go_sem]
    have bx3:w1.cell? ⟨w.heap.size,3,none⟩=some (.int .i64 v):=by rw[hb1.cell (p:=⟨w.heap.size,3,none⟩) (by simp;omega)];simp[go_sem]
    clear hb1;go_wp2_with fail;refine(o9 p n o v n.toNat _ _ fs gs _ HPO.o.2.2 HPO.o.2.1 hN0 hN3 HR.o.1.canon HR.o.2.canon HR.o.1.bd HR.o.2.bd HR.o.1.len HR.o.2.len (HP.o.below HB1.o) (HQ.o.below HB1.o)).mono ?_;rintro e w2 ⟨u9,rfl,hu,hb2⟩;have HU:=aa hu;have HB3:=aa (HB1.o.trans (hb2.mono HB1.o.size));obtain⟨ua,uc,rfl,_,_⟩:=hu;clear hb2 bx0 bx1 bx2 bx3;go_wp2_with fail;refine(rV _ _ _ hl HU.o).mono ?_;rintro e w3 ⟨rfl,rfl⟩;go_wp2;go_ret2;exact⟨_,rfl,HU.o,HB3.o⟩
  ·cases fs with
   |nil=>exact absurd (Or.inl rfl) hem
   |cons t fs2=>
   cases gs with
   |nil=>exact absurd (Or.inr rfl) hem
   |cons u gs2=>
   have HG:=aa (xS HPO.o.2.2 HR.o.1.canon HR.o.2.canon);have HTL:Ic (0<t.2.length/\t.2.length<=3/\∀x∈t.2,0<=x/\x<=40000):=⟨by rw[HR.o.1.canon.len t (by simp)];exact hN0,by rw[HR.o.1.canon.len t (by simp)];exact hN3,HR.o.1.bd.bd t (by simp)⟩;have HUL:Ic (0<u.2.length/\u.2.length<=3/\∀x∈u.2,0<=x/\x<=40000):=⟨by rw[HR.o.2.canon.len u (by simp)];exact hN0,by rw[HR.o.2.canon.len u (by simp)];exact hN3,HR.o.2.bd.bd u (by simp)⟩;have hs1:=jG t.2 HTL.o.2.2;have hs2:=jG u.2 HUL.o.2.2;have ht3:=HTL.o.2.1;have hu3:=HUL.o.2.1;have hq1:(0:Int)<(fs2.length:Int)+1:=by omega
   have hq2:(0:Int)<(gs2.length:Int)+1:=by omega
   clear hem;by_cases hd:200<ag t.2+ag u.2
   ·have hgr:bX (aG p o (aB p (t::fs2) (u::gs2)))=true:=by rw[HG.o,Hi hd,Bool.true_or]
    rw[(np HE0.o hgr).1,(np HE0.o hgr).2];clear hgr;go_enter func272,ntmps272;go_wp2_with fail;refine(HT.o.1 [t::fs2,u::gs2] _ _ (by simp) (mj (HP.o.below (HB2.o _ _)) (HQ.o.below (HB2.o _ _)) (by simp) (by simp[go_sem]) (by simp[go_sem]))).mono ?_;rintro e w1 ⟨rfl,hb1⟩;rw[HE0.o];have HB1:=aa ((HB2.o _ _).trans (hb1.mono (HB2.o _ _).size));have bx0:w1.cell? ⟨w.heap.size,0,none⟩=some (.int .i64 p):=by rw[hb1.cell (p:=⟨w.heap.size,0,none⟩) (by simp;omega)];simp[go_sem]
    have bx1:w1.cell? ⟨w.heap.size,1,none⟩=some (.int .i64 n):=by rw[hb1.cell (p:=⟨w.heap.size,1,none⟩) (by simp;omega)];simp[go_sem]
    have bx2:w1.cell? ⟨w.heap.size,2,none⟩=some (.int .i64 o):=by rw[hb1.cell (p:=⟨w.heap.size,2,none⟩) (by simp;omega)];simp[go_sem]
    have bx3:w1.cell? ⟨w.heap.size,3,none⟩=some (.int .i64 v):=by rw[hb1.cell (p:=⟨w.heap.size,3,none⟩) (by simp;omega)];simp[go_sem]
    clear hb1;go_wp2_with fail;refine(mh _ t fs2 _ HTL.o.1 HTL.o.2.1 HTL.o.2.2 (HP.o.below HB1.o)).mono ?_;rintro e w' ⟨rfl,hw'⟩;subst w';go_wp2_with fail;refine(mh _ u gs2 _ HUL.o.1 HUL.o.2.1 HUL.o.2.2 (HQ.o.below HB1.o)).mono ?_;rintro e w' ⟨rfl,hw'⟩;subst w';go_wp2;go_ret2;exact⟨_,rfl,Pl.empty _,HB1.o⟩
   ·by_cases hl:2000<(aG p o (aB p (t::fs2) (u::gs2))).length
    ·have hgr:bX (aG p o (aB p (t::fs2) (u::gs2)))=true:=by rw[HG.o,Hi hl,Bool.or_true]
     rw[(np HE0.o hgr).1,(np HE0.o hgr).2];clear hgr;go_enter func272,ntmps272;go_wp2_with fail;refine(HT.o.1 [t::fs2,u::gs2] _ _ (by simp) (mj (HP.o.below (HB2.o _ _)) (HQ.o.below (HB2.o _ _)) (by simp) (by simp[go_sem]) (by simp[go_sem]))).mono ?_;rintro e w1 ⟨rfl,hb1⟩;rw[HE0.o];have HB1:=aa ((HB2.o _ _).trans (hb1.mono (HB2.o _ _).size));have bx0:w1.cell? ⟨w.heap.size,0,none⟩=some (.int .i64 p):=by rw[hb1.cell (p:=⟨w.heap.size,0,none⟩) (by simp;omega)];simp[go_sem]
     have bx1:w1.cell? ⟨w.heap.size,1,none⟩=some (.int .i64 n):=by rw[hb1.cell (p:=⟨w.heap.size,1,none⟩) (by simp;omega)];simp[go_sem]
     have bx2:w1.cell? ⟨w.heap.size,2,none⟩=some (.int .i64 o):=by rw[hb1.cell (p:=⟨w.heap.size,2,none⟩) (by simp;omega)];simp[go_sem]
     have bx3:w1.cell? ⟨w.heap.size,3,none⟩=some (.int .i64 v):=by rw[hb1.cell (p:=⟨w.heap.size,3,none⟩) (by simp;omega)];simp[go_sem]
     clear hb1;go_wp2_with fail;refine(mh _ t fs2 _ HTL.o.1 HTL.o.2.1 HTL.o.2.2 (HP.o.below HB1.o)).mono ?_;rintro e w' ⟨rfl,hw'⟩;subst w';go_wp2_with fail;refine(mh _ u gs2 _ HUL.o.1 HUL.o.2.1 HUL.o.2.2 (HQ.o.below HB1.o)).mono ?_;rintro e w' ⟨rfl,hw'⟩;subst w';go_wp2_with fail;refine(o9 p n o v n.toNat _ _ (t::fs2) (u::gs2) _ HPO.o.2.2 HPO.o.2.1 hN0 hN3 HR.o.1.canon HR.o.2.canon HR.o.1.bd HR.o.2.bd HR.o.1.len HR.o.2.len (HP.o.below HB1.o) (HQ.o.below HB1.o)).mono ?_;rintro e w2 ⟨u9,rfl,hu,hb2⟩;have HU:=aa hu;have HB3:=aa (HB1.o.trans (hb2.mono HB1.o.size));obtain⟨ua,uc,rfl,_,_⟩:=hu;clear hb2 bx0 bx1 bx2 bx3;go_wp2_with fail;refine(E2 _ _ _ hl HU.o).mono ?_;rintro e w3 ⟨rfl,rfl⟩;go_wp2;go_ret2;exact⟨_,rfl,Pl.empty _,HB3.o⟩
    ·have hgr:bX (aG p o (aB p (t::fs2) (u::gs2)))=false:=by rw[HG.o,Hh hd,Hh hl,Bool.or_false]
     rw[(nr HE0.o hgr).1,(nr HE0.o hgr).2];clear hgr;go_enter func272,ntmps272;go_wp2_with fail;refine(HT.o.1 [t::fs2,u::gs2] _ _ (by simp) (mj (HP.o.below (HB2.o _ _)) (HQ.o.below (HB2.o _ _)) (by simp) (by simp[go_sem]) (by simp[go_sem]))).mono ?_;rintro e w1 ⟨rfl,hb1⟩;rw[HE0.o];have HB1:=aa ((HB2.o _ _).trans (hb1.mono (HB2.o _ _).size));have bx0:w1.cell? ⟨w.heap.size,0,none⟩=some (.int .i64 p):=by rw[hb1.cell (p:=⟨w.heap.size,0,none⟩) (by simp;omega)];simp[go_sem]
     have bx1:w1.cell? ⟨w.heap.size,1,none⟩=some (.int .i64 n):=by rw[hb1.cell (p:=⟨w.heap.size,1,none⟩) (by simp;omega)];simp[go_sem]
     have bx2:w1.cell? ⟨w.heap.size,2,none⟩=some (.int .i64 o):=by rw[hb1.cell (p:=⟨w.heap.size,2,none⟩) (by simp;omega)];simp[go_sem]
     have bx3:w1.cell? ⟨w.heap.size,3,none⟩=some (.int .i64 v):=by rw[hb1.cell (p:=⟨w.heap.size,3,none⟩) (by simp;omega)];simp[go_sem]
     clear hb1;go_wp2_with fail;refine(mh _ t fs2 _ HTL.o.1 HTL.o.2.1 HTL.o.2.2 (HP.o.below HB1.o)).mono ?_;rintro e w' ⟨rfl,hw'⟩;subst w';go_wp2_with fail;refine(mh _ u gs2 _ HUL.o.1 HUL.o.2.1 HUL.o.2.2 (HQ.o.below HB1.o)).mono ?_;rintro e w' ⟨rfl,hw'⟩;subst w';go_wp2_with fail;refine(o9 p n o v n.toNat _ _ (t::fs2) (u::gs2) _ HPO.o.2.2 HPO.o.2.1 hN0 hN3 HR.o.1.canon HR.o.2.canon HR.o.1.bd HR.o.2.bd HR.o.1.len HR.o.2.len (HP.o.below HB1.o) (HQ.o.below HB1.o)).mono ?_;rintro e w2 ⟨u9,rfl,hu,hb2⟩;have HU:=aa hu;have HB3:=aa (HB1.o.trans (hb2.mono HB1.o.size));obtain⟨ua,uc,rfl,_,_⟩:=hu;clear hb2 bx0 bx1 bx2 bx3;go_wp2_with fail;refine(rV _ _ _ hl HU.o).mono ?_;rintro e w3 ⟨rfl,rfl⟩;go_wp2;go_ret2;exact⟨_,rfl,HU.o,HB3.o⟩
 ·have hE0:chk [fs,gs]≠0:=by simpa using hE
  rw[(xT (p:=p) (o:=o) (f:=fs) (g:=gs) hE0).1,(xT (p:=p) (o:=o) (f:=fs) (g:=gs) hE0).2];clear hE0;go_enter func272,ntmps272;go_wp2_with fail;refine(HT.o.1 [fs,gs] _ _ (by simp) (mj (HP.o.below (HB2.o _ _)) (HQ.o.below (HB2.o _ _)) (by simp) (by simp[go_sem]) (by simp[go_sem]))).mono ?_;rintro e w1 ⟨rfl,hb1⟩;have HB1:=aa ((HB2.o _ _).trans (hb1.mono (HB2.o _ _).size));clear hb1;go_wp2;go_ret2;exact⟨_,rfl,Pl.empty _,HB1.o⟩
def jW(f:List Tm):Int:=match f with|[]=>0|t::_=>ag t.2
theorem vG(x:Value)(f:List Tm)(w:World)(hf:Pl w x f)(hl:∀t∈f,0<t.2.length/\t.2.length<=3)(he:∀t∈f,∀e∈t.2,0<=e/\e<=400):Calls prog 22 #[x] w λe w'=>e=.returned (.int .i64 (jW f))/\w'=w:=by
 cases f with
 |nil=>obtain⟨a,cap,rfl,hcap,h⟩:=hf;go_enter func22,ntmps22;go_wp2;go_ret;exact⟨rfl,rfl⟩
 |cons t ts=>
  have h3:=(hl t (by simp)).2;have HB:Ic (∀x∈t.2,0<=x/\x<=40000):=λx hx=>by have:=he t (by simp) x hx;omega
  obtain⟨b,off,cap,ev,rfl,hcap,hlt,c0,c1,hse,_,_⟩:=hf.head;obtain⟨a,c,rfl,hs⟩:=hse;obtain⟨eb,eoff,rfl,helt,hei⟩:=hs (hl t (by simp)).1;have HEI:=aa hei;clear hei hs hf hl he;have hle:(0:Int)<(ts.length:Int)+1:=by omega
  have hne:((ts.length:Int)+1==0)=false:=by simp;omega
  have hn2:decide ((ts.length:Int)+1=0)=false:=by simp;omega
  have hn3:¬((ts.length:Int)+1=0):=by omega
  go_enter func22,ntmps22;go_wp2_with (go_at_call 56;refine(ic t.2 _ _ _ _ HB.o h3 HEI.o).mono ?_;rintro e w' ⟨rfl,rfl⟩);go_ret;exact⟨rfl,rfl⟩
theorem E4(x:Value)(f:List Tm)(w:World)(hf:Pl w x f)(hl:∀t∈f,0<t.2.length/\t.2.length<=3)(he:∀t∈f,∀e∈t.2,0<=e/\e<=400):Calls prog 21 #[x] w λe w'=>e=.returned (.bool (decide (40<jW f)))/\w'=w:=by have HD:=aa (vG x f w hf hl he);obtain⟨a,cap,rfl,_,_⟩:=hf;generalize jW f=d at HD⊢;clear hl he;go_enter func21,ntmps21;go_wp2_with (go_at_call 22;refine HD.o.mono ?_;rintro e w' ⟨rfl,rfl⟩);go_ret;exact⟨rfl,rfl⟩
def gB(f:List Tm):Bool:=decide (40<jW f)
def lA(f:List Tm):Prop:=(∀t∈f,0<t.2.length/\t.2.length<=3)/\∀t∈f,∀e∈t.2,0<=e/\e<=400
def gG(T:List Tm->Bool)(v:List (List Tm)):Bool:=v.any T
theorem E5(cf:FuncId)(hcf:cf=21\/cf=76)(T:List Tm->Bool)(Ok:List Tm->Prop)(hcl:∀(u:Value) f (W:World),Pl W u f->Ok f->Calls prog cf #[u] W λe w'=>e=.returned (.bool (T f))/\w'=W)(v:Value)(fs:List (List Tm))(w:World)(hv:Vl w v fs)(hn:fs.length<=1000000)(hok:∀f∈fs,Ok f):Calls prog 95 #[v,.func (.func cf) #[] #[]] w λe w'=>∃r:Int,e=.returned (.int .i64 r)∧-1<=r/\(decide (0<=r)=fs.any T)/\w'=w:=by
 rcases hcf with rfl|rfl;all_goals
  have HOK:=aa hok;have HCL:=aa hcl;obtain⟨xa,xc,rfl,hp⟩:=hv;have HP:=aa hp;clear hok hp hcl;go_enter func95,ntmps95;go_wp2_with fail;go_loopw [8] (λi wr=>∃m:Nat,m<=fs.length/\i=.int .i64 m/\(∀j (h:j<fs.length),j<m->T fs[j]=false)/\wr=w) (λi _=>fs.length-(intOf i).toNat);case atStart=>exact⟨0,Hl _,rfl,λj _ h=>by omega,rfl⟩
  case round=>
   obtain⟨m,hm,rfl,hno,rfl⟩:=hrel;have HNO:=aa hno;clear hno;by_cases hm2:m<fs.length
   ·obtain⟨b,off,rfl,hlt,hpl⟩:=HP.o (by omega);obtain⟨u,hu,hpu⟩:=hpl m hm2;have e:fs.getD m []=fs[m]:=by rw[Hs,Ht hm2];rfl
    rw[e] at hpu;have hk:=HOK.o fs[m] (Hp hm2);have HC:=aa (HCL.o u fs[m] _ hpu hk);obtain⟨ua,uc,rfl,_,_⟩:=hpu;have HFI:Ic (T fs[m]=true->decide ((0:Int)<=(m:Int))=fs.any T):=λh=>by show _=_;rw[List.any_eq_true.2 ⟨fs[m],Hp hm2,h⟩];simp
    have HNX:Ic (T fs[m]=false->∀j (h:j<fs.length),j<m+1->T fs[j]=false):=λh j hj hjm=>by
     rcases Nat.lt_succ_iff_lt_or_eq.1 hjm with h2|rfl
     ·exact HNO.o j hj h2
     ·exact h
    clear hpl hk e;generalize fs[m]=f at HC HFI HNX hu;cases hh:T f with
    |false=>
     rw[hh] at HC;have HN:=aa (HNX.o hh);clear hh HNX HFI;go_wp2_with (refine HC.o.mono ?_;rintro e w9 ⟨rfl,rfl⟩);go_roundw;case rel=>exact⟨m+1,by omega,by go_num,HN.o,by trivial⟩
     case measure=>simp[intOf];omega
    |true=>rw[hh] at HC;have HN:=aa (HFI.o hh);clear hh HNX HFI;go_wp2_with (refine HC.o.mono ?_;rintro e w9 ⟨rfl,rfl⟩);go_ret;exact⟨m,rfl,by omega,HN.o,rfl⟩
   ·have e:m=fs.length:=by omega
    subst e;have HE:Ic (decide ((0:Int)≤-1)=fs.any T):=by
     show _=_;rw[List.any_eq_false.2 λf hf=>by
      obtain⟨j,hj,rfl⟩:=List.getElem_of_mem hf;simp[HNO.o j hj hj]]
     rfl
    go_wp2;go_ret;exact⟨-1,rfl,by omega,HE.o,rfl⟩
theorem E6(cf:FuncId)(hcf:cf=21\/cf=76)(T:List Tm->Bool)(Ok:List Tm->Prop)(hcl:∀(u:Value) f (W:World),Pl W u f->Ok f->Calls prog cf #[u] W λe w'=>e=.returned (.bool (T f))/\w'=W)(v:Value)(fs:List (List Tm))(w:World)(hv:Vl w v fs)(hn:fs.length<=1000000)(hok:∀f∈fs,Ok f):Calls prog 55 #[v,.func (.func cf) #[] #[]] w λe w'=>e=.returned (.bool (fs.any T))/\w'=w:=by have HIX:=aa (E5 cf hcf T Ok hcl v fs w hv hn hok);obtain⟨xa,xc,rfl,_⟩:=hv;clear hok hcl hcf;go_enter func55,ntmps55;go_wp2_with (go_at_call 95;refine HIX.o.mono ?_;rintro e w9 ⟨r9,rfl,h1,h2,rfl⟩;have H2:=aa h2;clear h2);go_ret;exact⟨by rw[<-H2.o];rfl,rfl⟩
end Go.Proofs.YtglijodcbdcngaaGreat
