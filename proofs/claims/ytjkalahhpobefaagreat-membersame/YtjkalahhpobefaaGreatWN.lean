/- slices.Min, slices.Max; termDegrees. -/
import Derived.Test.YtjkalahhpobefaaGreatWG
set_option maxHeartbeats 2000000
set_option maxRecDepth 100000
namespace Go.Proofs.YtjkalahhpobefaaGreat
set_option linter.all false
open Go.Proofs.Tryz Go.RowKit
variable{w:OQ}
theorem xg{c1:Int}{s1:OR}{e1:OP}{T:TypeId}(h1:Sl w s1 e1):Pl (w.alloc (.cells #[OW c1,s1] T)) (OU w.heap.size 1 1) [(c1,e1)]:=by
 refine⟨_,1,rfl,NL _,λ_=>⟨w.heap.size,0,rfl,by simp,λi hi=>?_⟩⟩;rcases i with _|i
 .exact⟨by simp[go_sem],s1,by simp[go_sem],h1.below bE⟩
 .simp at hi
def MK:OP->Int
 |[]=>-1
 |z::_=>z
def NH(L:OP):Prop:=∀y∈L,y=MK L
theorem ML{w':OQ}{n:Nat}(h:w'.ownsRow w.heap.size 40 1 (OU w.heap.size n n) n (madeCells (Value.cells (.slice none 0 0)) (n*1)).toList):Vl w' (OU w.heap.size n n) (List.replicate n []):=by
 have hlt:=(NK h w.heap.size rfl).2;refine⟨_,n,by rw[List.length_replicate],λ_=>⟨w.heap.size,0,rfl,hlt,λi hi=>⟨.slice none 0 0,?_,?_⟩⟩⟩
 .rw[List.length_replicate] at hi;rw[N4,h.cellAt i (by omega)];simp[madeCells,Value.cells,hi,Nat.mod_one]
 .rw[List.length_replicate] at hi;have e:(List.replicate n ([]:Lt)).getD i []=[]:=by simp[NY,hi]
  rw[e];exact Pl.empty _
def cB(p o:Int)(R:Nat)(cs:OG)(vss:OH):Nat->OG
 |0=>List.replicate R []
 |k+1=>lF p o (cB p o R cs vss k) (jy p o (cs.getD k []) (vss.getD k []))
def jT(p o:Int)(c f:Lt):Bool:=(decide (0<(c.length:Int))&&decide (0<(f.length:Int))&&decide (200<da (-1) c+da (-1) f))||cC (bm p o (aH p c f))
def MM(p o rank:Int)(cs:OG)(vss:OH):Decidable ((∃i,i<vss.length/\∃k:Nat,(k:Int)<rank/\jT p o (cs.getD i []) ((vss.getD i []).getD k [])=true)\/(cB p o rank.toNat cs vss vss.length).any cC=true):=
 decidable_of_iff ((List.range vss.length).any (λi=>(List.range rank.toNat).any λk=>jT p o (cs.getD i []) ((vss.getD i []).getD k []))=true\/(cB p o rank.toNat cs vss vss.length).any cC=true)
  (or_congr (by
   simp only[List.any_eq_true,List.mem_range];exact⟨fun⟨i,h1,k,h2,h3⟩=>⟨i,h1,k,by omega,h3⟩,fun⟨i,h1,k,h2,h3⟩=>⟨i,h1,k,by omega,h3⟩⟩) Iff.rfl)
def fV(p n o v rank:Int)(cs:OG)(vss:OH):Int:=
 if cD p n o v rank vss≠0 then cD p n o v rank vss else if cs.length≠vss.length then 1 else if kz p n o v cs≠0 then kz p n o v cs else haveI:=MM p o rank cs vss;if (∃i,i<vss.length/\∃k:Nat,(k:Int)<rank/\jT p o (cs.getD i []) ((vss.getD i []).getD k [])=true)\/(cB p o rank.toNat cs vss vss.length).any cC=true then 2 else 0
variable{vss:OH}{p n o v rank:Int}
theorem rM(h:cD p n o v rank vss=0):bJ p n o v=0/\(1<=rank/\rank<=40)/\vss.length<=60/\∀u∈vss,(u.length:Int)=rank/\∀f∈u,de p n o f=0:=by
 unfold cD at h;by_cases hr:bJ p n o v=0
 .rw[Oc (by simpa using hr)] at h;unfold gU at h;cases hb:cE rank 1 40
  .rw[Oe hb] at h;exact absurd h (by decide)
  .rw[Oc (by rw[hb];simp)] at h;by_cases hl:60<vss.length
   .rw[Oe hl] at h;exact absurd h (by decide)
   .rw[Oc hl] at h;refine⟨hr,by simpa [cE] using hb,by omega,λu hu=>?_⟩;have h1:=wZ h u hu;unfold fP at h1;by_cases hu2:(u.length:Int)=rank
    .rw[Oc (by simpa using hu2)] at h1;exact⟨hu2,wy h1⟩
    .rw[Oe hu2] at h1;exact absurd h1 (by decide)
 .rw[Oe hr] at h;exact absurd h hr
variable{f:Lt}{N:Nat}
theorem MN(hN0:0<N)(hN:N<=3)(h:fO p o N f):f.length<=2000/\∀t∈f,0<t.2.length/\t.2.length<=3/\∀x∈t.2,0<=x/\x<=40000:=by refine⟨h.len,λt ht=>?_⟩;have h1:=h.canon.len t ht;refine⟨by rw[h1];exact hN0,by rw[h1];exact hN,λx hx=>?_⟩;have:=h.bd t ht x hx;omega
variable{ts:Lt}
theorem MO(h:cC ts=false):ts.length<=2000:=by unfold cC at h;simp at h;omega
variable{i:Nat}
theorem eS{P:Program}{ops:Array Oper}{Q:Exit->Act->OQ->Prop}{md:Region.Mode}{S:OQ->Prop}{oi:Oper}{d:Option Tmp}{v:OR}{fuel:Nat}{listed:Array Bool}{a:Act}(hi:ops[i]?=some oi)(hd:oi.dst=d)(hs:Region.noSelect ops=true)(hf:Region.free md ops listed i=true)(hr:(Region.ready md ops listed).contains i=true)(hQ:∀c a w,Q (.panic c) (a.put d v) w->Q (.panic c) a w)(hy:YieldsIf P ops S oi v a)(hS:S w)(h:wpAnyH P md ops Q S fuel (listed.setIfInBounds i true) (a.put d v) w):wpAnyH P md ops Q S (fuel+1) listed a w:=by subst hd;exact wpAnyH_take hi hs hf hr hQ hy hS h
theorem MP(he:bo p=0){c:Lt}(hc:fO p o N c)(hf:fO p o N f):jT p o c f=cC (bm p o (aH p c f)):=by
 unfold jT;cases c with
 |nil=>simp
 |cons t c=>
  cases f with
  |nil=>simp
  |cons u f=>
   cases hg:cC (bm p o (aH p (t::c) (u::f)))
   .rw[DC he hc.canon hf.canon] at hg;have h2:=of_decide_eq_false (Bool.or_eq_false_iff.1 hg).1;have b1:=kN t.2 (λx hx=>by have:=hc.bd t (by simp) x hx;omega);have b2:=kN u.2 (λx hx=>by have:=hf.bd u (by simp) x hx;omega);have a1:da (-1) (t::c)<=aj t.2:=sT _ _ (oa hc.canon) (by omega);have a2:da (-1) (u::f)<=aj u.2:=sT _ _ (oa hf.canon) (by omega);have h3:¬200<da (-1) (t::c)+da (-1) (u::f):=by omega
    rw[NO h3,Bool.and_false,Bool.false_or]
   .rw[Bool.or_true]
def dQ(p o:Int)(cs:OG)(vss:OH)(k i:Nat):Lt:=bm p o (aH p (cs.getD i []) ((vss.getD i []).getD k []))
def eJ(p o:Int)(cs:OG)(vss:OH)(k m:Nat):OG:=(List.range m).map (dQ p o cs vss k)
structure ia(p o:Int)(N R:Nat)(cs:OG)(vss:OH):Prop where
 c:∀c∈cs,fO p o N c
 v:∀u∈vss,u.length=R/\∀f∈u,fO p o N f
 l:cs.length=vss.length
variable{k R:Nat}{cs:OG}
theorem ia.at(h:ia p o N R cs vss)(hi:i<vss.length)(hk:k<R):fO p o N (cs.getD i [])/\fO p o N ((vss.getD i []).getD k []):=by have h1:=h.v _ (pE vss i hi);exact⟨h.c _ (ir cs i (by rw[h.l];exact hi)),h1.2 _ (ir _ k (by rw[h1.1];exact hk))⟩
theorem ia.pr(hp:2<=p)(h:ia p o N R cs vss)(hi:i<vss.length)(hk:k<R):cq p o N (dQ p o cs vss k i)/\Bd (dQ p o cs vss k i):=by obtain⟨h1,h2⟩:=h.at hi hk;refine⟨dV.col hp (dV.prod hp h1.canon.okl h2.canon.okl),λt ht x hx=>?_⟩;obtain⟨y,hy,ey⟩:=xh ht;rw[ey] at hx;exact(JN hp h1.canon.len h2.canon.len h1.bd h2.bd y hy).2.1 x hx
theorem DK{p:Int}{n:Nat}:∀{fss:OG},(∀f∈fss,dV p n f)->dV p n fss.flatten
 |[],_=>⟨λt ht=>by simp at ht,λt ht=>by simp at ht⟩
 |f::r,h=>by rw[List.flatten_cons];exact(h f (by simp)).append (DK (λg hg=>h g (by simp[hg])))
theorem MQ(p o:Int)(cs:OG)(vss:OH)(k m:Nat):eJ p o cs vss k (m+1)=eJ p o cs vss k m++[dQ p o cs vss k m]:=xo _ _
variable{m:Nat}
theorem sW(h:f∈eJ p o cs vss k m):∃i,i<m/\f=dQ p o cs vss k i:=by obtain⟨i,hi,e⟩:=N9.1 h;exact⟨i,List.mem_range.1 hi,e.symm⟩
theorem ia.okl(hp:2<=p)(h:ia p o N R cs vss)(hm:m<=vss.length)(hk:k<R):dV p N (eJ p o cs vss k m).flatten:=
 DK (λf hf=>by obtain⟨i,hi,rfl⟩:=sW hf;exact(h.pr hp (by omega) hk).1.okl)
theorem oD{p o:Int}{N R:Nat}{cs:OG}{vss:OH}(hp:2<=p)(h:ia p o N R cs vss){k:Nat}(hk:k<R):∀m,m<=vss.length->(cB p o R cs vss m).length=R/\(cB p o R cs vss m).getD k []=bm p o (eJ p o cs vss k m).flatten
 |0,_=>⟨by simp[cB],by simp[cB,eJ,NY,hk];rfl⟩
 |m+1,hm=>by
  obtain⟨h1,h2⟩:=oD hp h hk m (by omega);have hv:=h.v _ (pE vss m (by omega));have hpl:(jy p o (cs.getD m []) (vss.getD m [])).length=R:=by unfold jy;rw[Oa];exact hv.1
  refine⟨by simp only[cB];rw[BP (by rw[h1,hpl])];exact h1,?_⟩;simp only[cB];rw[BO (by rw[h1,hpl]) (by rw[h1];exact hk),h2];have e:(jy p o (cs.getD m []) (vss.getD m [])).getD k []=dQ p o cs vss k m:=by unfold jy dQ;exact wg _ _ k (by rw[hv.1];exact hk)
  rw[e,MQ,List.flatten_append];have e2:[dQ p o cs vss k m].flatten=dQ p o cs vss k m:=by simp
  rw[e2];have o1:=h.okl hp (k:=k) (m:=m) (by omega) hk;have o2:=(h.pr hp (i:=m) (by omega) hk).1.okl;exact cw.col hp ((dV.col (o:=o) hp o1).okl.append o2) (o1.append o2) (cw.append (pd p o _) (cw.refl p _))
def fj(p o:Int)(cs:OG)(vss:OH)(m k:Nat):Int:=if (eJ p o cs vss k m).any cC=true\/2000<(bm p o (eJ p o cs vss k m).flatten).length then 2 else 0
def jF(p o:Int)(cs:OG)(vss:OH)(m k:Nat):Lt:=if fj p o cs vss m k=0 then bm p o (eJ p o cs vss k m).flatten else []
theorem DL(hi:i<m)(h:cC (dQ p o cs vss k i)=true):fj p o cs vss m k=2/\jF p o cs vss m k=[]:=by
 have e:fj p o cs vss m k=2:=by have hany:(eJ p o cs vss k m).any cC=true:=List.any_eq_true.2 ⟨dQ p o cs vss k i,N9.2 ⟨i,List.mem_range.2 hi,rfl⟩,h⟩;unfold fj;rw[Oe (Ox hany)]
 exact⟨e,by unfold jF;rw[e];rfl⟩
theorem MR(h:∀i,i<m->cC (dQ p o cs vss k i)=false):(eJ p o cs vss k m).any cC=false:=by rw[List.any_eq_false];intro f hf;obtain⟨i,hi,rfl⟩:=sW hf;rw[h i hi];simp
theorem DM(h:2000<(bm p o (eJ p o cs vss k m).flatten).length):fj p o cs vss m k=2/\jF p o cs vss m k=[]:=by
 have e:fj p o cs vss m k=2:=by unfold fj;rw[Oe (Oy h)]
 exact⟨e,by unfold jF;rw[e];rfl⟩
theorem xp(h:∀i,i<m->cC (dQ p o cs vss k i)=false)(h2:¬2000<(bm p o (eJ p o cs vss k m).flatten).length):fj p o cs vss m k=0/\jF p o cs vss m k=bm p o (eJ p o cs vss k m).flatten:=by
 have e:fj p o cs vss m k=0:=by unfold fj;rw[Oc (by rw[MR h];rintro (h|h);cases h;exact h2 h)]
 exact⟨e,by unfold jF;rw[e];rfl⟩
theorem MS(h:cC ts=false):∀x∈ts,aj x.2<=200:=λx hx=>by
 by_cases h2:200<aj x.2
 .rw[DB hx h2] at h;cases h
 .omega
theorem DN(h:∀i,i<m->cC (dQ p o cs vss k i)=false):cC (bm p o (eJ p o cs vss k m).flatten)=decide (2000<(bm p o (eJ p o cs vss k m).flatten).length):=by refine DA (λx hx=>?_);obtain⟨y,hy,ey⟩:=xh hx;obtain⟨f,hf,hyf⟩:=List.mem_flatten.1 hy;obtain⟨i,hi,rfl⟩:=sW hf;rw[ey];exact MS (h i hi) y hyf
theorem MT{E:Nat->Int}(h:∀k,k<m->E k=0\/E k=2):(eW E m 0=0/\∀k,k<m->E k=0)\/(eW E m 0=2/\∃k,k<m/\E k=2):=by
 by_cases hz:∀k,k<m->E k=0
 .exact Ox ⟨xk hz,hz⟩
 .refine Oy ?_;have hex:∀d,d<=m->(∀k,k<d->E k=0)\/∃k,k<d/\E k≠0/\∀j,j<k->E j=0:=by
   intro d;induction d with
   |zero=>intro _;exact Ox (λk hk=>by omega)
   |succ d ih=>
    intro hd;rcases ih (by omega) with h1|⟨k,h1,h2,h3⟩
    .by_cases h4:E d=0
     .exact Ox (λk hk=>by
       by_cases h5:k<d
       .exact h1 k h5
       .rw[show k=d by omega];exact h4)
     .exact Oy ⟨d,by omega,h4,h1⟩
    .exact Oy ⟨k,by omega,h2,h3⟩
  rcases hex m (NL _) with h1|⟨k,h1,h2,h3⟩
  .exact absurd h1 hz
  .have h4:E k=2:=(h k h1).resolve_left h2;exact⟨by rw[xl h1 h3 h2,h4],k,h1,h4⟩
theorem MU(p o:Int)(cs:OG)(vss:OH)(m k:Nat):fj p o cs vss m k=0\/fj p o cs vss m k=2:=by
 unfold fj;split
 .exact Oy rfl
 .exact Ox rfl
open Classical in
theorem MV(he:bo p=0)(hp:2<=p)(h:ia p o N R cs vss)(hv0:cD p n o v (R:Int) vss=0)(hp0:kz p n o v cs=0):eW (fj p o cs vss vss.length) R 0=fV p n o v (R:Int) cs vss/\mI (fj p o cs vss vss.length) (jF p o cs vss vss.length) R=if fV p n o v (R:Int) cs vss=0 then cB p o R cs vss vss.length else []:=by
 have hmany:∀i,i<vss.length->∀k,k<R->jT p o (cs.getD i []) ((vss.getD i []).getD k [])=cC (dQ p o cs vss k i):=λi hi k hk=>MP he (h.at hi hk).1 (h.at hi hk).2;have hdef:fV p n o v (R:Int) cs vss=if (∃i,i<vss.length/\∃k:Nat,(k:Int)<(R:Int)/\jT p o (cs.getD i []) ((vss.getD i []).getD k [])=true)\/(cB p o R cs vss vss.length).any cC=true then 2 else 0:=by
  unfold fV;rw[Oc (by rw[hv0];simp),Oc (by rw[h.l];simp),Oc (by rw[hp0];simp)];by_cases hC:(∃i,i<vss.length/\∃k:Nat,(k:Int)<(R:Int)/\jT p o (cs.getD i []) ((vss.getD i []).getD k [])=true)\/(cB p o R cs vss vss.length).any cC=true
  .rw[Oe hC];exact Oe (by rw[Int.toNat_natCast];exact hC)
  .rw[Oc hC];exact Oc (by rw[Int.toNat_natCast];exact hC)
 rcases MT (E:=fj p o cs vss vss.length) (m:=R) (λk _=>MU p o cs vss vss.length k) with ⟨h1,h2⟩|⟨h1,k,hk,h2⟩
 .have hg:∀k,k<R->∀i,i<vss.length->cC (dQ p o cs vss k i)=false:=λk hk i hi=>by
   cases hgk:cC (dQ p o cs vss k i)
   .rfl
   .have:=(DL hi hgk).1;rw[h2 k hk] at this;exact absurd this (by decide)
  have hn:∀k,k<R->¬2000<(bm p o (eJ p o cs vss k vss.length).flatten).length:=λk hk h3=>by have:=(DM h3).1;rw[h2 k hk] at this;exact absurd this (by decide)
  have hz:fV p n o v (R:Int) cs vss=0:=by
   rw[hdef,Oc];rintro (⟨i,hi,k,hk,h3⟩|h3)
   .rw[hmany i hi k (by omega),hg k (by omega) i hi] at h3;cases h3
   .obtain⟨f,hf,hgf⟩:=List.any_eq_true.1 h3;obtain⟨k,hk,rfl⟩:=List.getElem_of_mem hf;have hkR:k<R:=by
     by_cases hR:0<R
     .rw[(oD hp h hR vss.length (NL _)).1] at hk;exact hk
     .have hR0:R=0:=by omega
      subst hR0;exfalso;have:(cB p o 0 cs vss vss.length)=[]:=by
       have hh:∀m,cB p o 0 cs vss m=[]:=by
        intro m;induction m with
        |zero=>rfl
        |succ m ih=>simp only[cB];rw[ih];rfl
       exact hh _
      rw[this] at hk;simp at hk
    have e:=(oD hp h hkR vss.length (NL _)).2;rw[NY,NZ hk,Option.getD_some] at e;rw[e,DN (hg k hkR),NO (hn k hkR)] at hgf;cases hgf
  refine⟨by rw[h1,hz],?_⟩;rw[Oe hz,DI h1];by_cases hR:0<R
  .have hlen:=(oD hp h hR vss.length (NL _)).1;refine List.ext_getElem (by rw[Oa,List.length_range,hlen]) (λk hk1 hk2=>?_);rw[List.getElem_map,List.getElem_range];have hkR:k<R:=by rw[hlen] at hk2;exact hk2
   have e:=(oD hp h hkR vss.length (NL _)).2;rw[NY,NZ hk2,Option.getD_some] at e;rw[e,(xp (hg k hkR) (hn k hkR)).2]
  .have hR0:R=0:=by omega
   subst hR0;have hh:∀m,cB p o 0 cs vss m=[]:=by
    intro m;induction m with
    |zero=>rfl
    |succ m ih=>simp only[cB];rw[ih];rfl
   rw[hh];rfl
 .have hz:fV p n o v (R:Int) cs vss=2:=by
   rw[hdef,Oe];by_cases hg:∀i,i<vss.length->cC (dQ p o cs vss k i)=false
   .refine Oy ?_;have e:=(oD hp h hk vss.length (NL _));refine List.any_eq_true.2 ⟨_,ir _ k (by rw[e.1];exact hk),?_⟩;rw[e.2,DN hg];by_cases h3:2000<(bm p o (eJ p o cs vss k vss.length).flatten).length
    .exact NP h3
    .rw[(xp hg h3).1] at h2;exact absurd h2 (by decide)
   .refine Ox ?_;obtain⟨i,h3⟩:=Classical.not_forall.1 hg;obtain⟨hi,h4⟩:=Classical.not_imp.1 h3;refine⟨i,hi,k,by omega,?_⟩;rw[hmany i hi k hk];simpa using h4
  refine⟨by rw[h1,hz],?_⟩;rw[hz,Oc (by decide),DJ (by rw[h1];decide)]
theorem MW(rb cb lb:Nat)(x:OR)(fss:OG)(E:Nat->Int)(R:Nat->Lt)(w:OQ)(hm:fss.length<=1000)(pf:Vl w x fss)(H:∀i w' fa fc,i<fss.length->LT w w'->Pl w' (.slice fa (fss.getD i []).length fc) (fss.getD i [])->Calls prog 27 #[OW i,.slice fa (fss.getD i []).length fc,OS rb,OS cb,OS lb] w' λe w''=>∃u,e=.returned (.tuple #[u,OW (E i)])/\Pl w'' u (R i)/\LT w' w''):Calls prog 26 #[x,.func (.func 27) #[] #[OS rb,OS cb,OS lb]] w λe w'=>∃u,e=.returned (.tuple #[u,OW (eW E fss.length 0)])/\Vl w' u (mI E R fss.length)/\LT w w':=by
 have HX:=ae pf;have HH:=ae H;obtain⟨ax,cx,rfl,_⟩:=pf;obtain⟨i0,hi,hz0,hz1,hz2⟩:=info_parts Tryz.infoPolyW;clear H;go_enter func26,ntmps26;go_wp2_with (at_make;refine wpList_make_full _ rfl _ _ 32 rfl w.heap.size 40 i0 _ 1 underlying32 hi hz0 hz1 .i64 .i64 _ _ fss.length rfl rfl rfl rfl (by rw[hz2];omega) (by unfold maxLen;omega) (NL _) ?_;intro w1 hown hgrow;have HV0:=ae (fZ.made hown hgrow);clear hown hgrow);clear hi hz0 hz1 hz2;go_loopw [16] (λi wr=>∃(k:Nat)(us:OO),k<=fss.length/\i=OW k/\us.length=k/\(∀j,j<k->E j=0)/\fZ w wr w.heap.size fss.length us ((List.range k).map R)) (λi _=>fss.length-(intOf i).toNat);case atStart=>exact⟨0,[],NS _,rfl,rfl,λj hj=>by omega,HV0.o⟩
 case round=>
  clear HV0;obtain⟨k,us,hk,rfl,hul,hz,hv⟩:=hrel;have HZ:=ae hz;have HV:=ae hv;have HUL:=ae hul;clear hz hv hul;by_cases hk2:k<fss.length
  .obtain⟨b,off,fa,fc,rfl,hlt,c0,hpf⟩:=jY HX.o k hk2;have d0:=af c0 HV.o.below;have HC:=ae (HH.o k wr fa fc hk2 HV.o.below (hpf.below HV.o.below));have HHIT:=ae (λh=>xl (E:=E) hk2 HZ.o h);generalize fss.getD k []=f at c0 d0 hpf HC;clear c0 hpf;cases he:(E k !=0)
   .have HE0:OE (E k=0):=by simpa [OE] using he
    go_wp2_with (go_at_call 27;refine HC.o.mono ?_;rintro e w2 ⟨u,rfl,hu,hb2⟩;have HV2:=ae (HV.o.next hb2);have HU:=ae hu;obtain⟨ua,uc,rfl,_,_⟩:=hu;obtain⟨ov,x0,x1⟩:=HV2.o.cells (by have:=HUL.o;omega);rw[HUL.o] at x0 x1;clear hb2);go_roundw;case rel=>
     refine⟨k+1,us++[.slice ua (R k).length uc],by omega,by go_num,by rw[rj,HUL.o],λj hj=>?_,?_⟩
     .rcases Nat.lt_or_ge j k with h|h
      .exact HZ.o j h
      .rw[show j=k by omega];exact HE0.o
     .rw[xo];have h:=HV2.o.put (by have:=HUL.o;omega) _ _ HU.o;rw[HUL.o] at h;exact h
    case measure=>simp[intOf];omega
   .have HF:OE (eW E fss.length 0=E k):=HHIT.o (by simpa using he);have HNE:OE (E k≠0):=by simpa [OE] using he
    go_wp2_with (go_at_call 27;refine HC.o.mono ?_;rintro e w2 ⟨u,rfl,hu,hb2⟩;have HV2:=ae (HV.o.next hb2);obtain⟨ua,uc,rfl,_,_⟩:=hu;clear hb2);go_ret2;refine⟨.slice none 0 0,by rw[HF.o];rfl,?_,HV2.o.below⟩;rw[DJ (by rw[HF.o];exact HNE.o)];exact⟨none,0,rfl,λh=>by simp at h⟩
  .have e:k=fss.length:=by omega
   subst e;have HF:OE (eW E fss.length 0=0):=xk HZ.o;have HD:=ae (HV.o.done HUL.o);go_wp2;go_ret2;refine⟨OU w.heap.size fss.length fss.length,by rw[HF.o];rfl,?_,HV.o.below⟩;rw[DI HF.o];exact HD.o
def gB(f:Lt):Bool:=decide (6<f.length)||decide (3<da (-1) f)
def iq(g:OG):Bool:=g.any gB
def lB(vss:OH):Int:=if vss.any iq then 2 else 0
def cr(p n o v rank:Int)(vss:OH):Int:=if cD p n o v rank vss≠0 then cD p n o v rank vss else if 3<rank\/4<vss.length then 2 else lB vss
theorem DO{α:Type}(F:List α->Bool)(l:List (List α))(k:Nat)(h:k<l.length):(l.drop k).any F=(F (l.getD k [])||(l.drop (k+1)).any F):=by rw[Ov h,List.any_cons,NY,NZ h];rfl
theorem vQ(h:cD p n o v rank vss≠0):cr p n o v rank vss=cD p n o v rank vss:=by unfold cr;rw[Oe h]
theorem rO(h:cD p n o v rank vss=0)(h2:3<rank\/4<vss.length):cr p n o v rank vss=2:=by unfold cr;rw[Oc (by simpa using h),Oe h2]
theorem rP(h:cD p n o v rank vss=0)(h2:¬(3<rank\/4<vss.length)):cr p n o v rank vss=lB vss:=by unfold cr;rw[Oc (by simpa using h),Oc h2]
theorem MX(hR:bJ p n o v=0)(hf:de p n o f=0){x:OR}{W:OQ}(hp:Pl W x f):Calls prog 15 #[x] W λe w'=>e=.returned (OW (da (-1) f))/\w'=W:=by obtain⟨_,hn1,hn3,_,_⟩:=kg hR;have hr:fO p o n.toNat f:=rN (by rw[show (n.toNat:Int)=n by omega];exact hf);have h:=MN (by omega) (by omega) hr;exact JU x f W (by omega) h.2 hp
theorem Ds(p n o v rank:Int)(lv:OR)(vss:OH)(w:OQ)(hs:Wl w lv vss):Calls prog 6 #[aI p n o v,OW rank,lv] w λe w'=>e=.returned (OW (cr p n o v rank vss))/\LT w w':=by
 have HS:=ae hs;obtain⟨w1,hw1⟩:∃w1,w1=w.alloc (.cells #[OW p,OW n,OW o,OW v] 23):=⟨_,rfl⟩;have hbx:bA w1 w.heap.size p n o v:=by rw[hw1];exact bA.new w p n o v _
 have HBW:OE (LT w w1):=by rw[hw1];exact bE
 have HCV:=ae (Mu p n o v rank lv vss w1 (hs.below HBW.o));obtain⟨la,lc,rfl,_⟩:=hs;unfold aI at HCV;unfold aI;obtain⟨_,bx0,bx1,bx2,bx3⟩:=hbx;cases hev:(cD p n o v rank vss !=0)
 rotate_left
 .have HE:=ae (vQ (show cD p n o v rank vss≠0 by simpa using hev));rw[HE.o];go_enter func6,ntmps6;go_upto_region 1 with fail;rw[<-hw1];clear hw1;go_wp2_with (go_at_call 14;refine HCV.o.mono ?_;rintro e w2 ⟨rfl,q1⟩;have HB2:=ae q1;clear q1);go_ret;exact⟨rfl,Io HBW.o HB2.o⟩
 .have hz:cD p n o v rank vss=0:=by simpa using hev
  have HZ:=ae hz;obtain⟨hR,hrk,hvl,hall⟩:=rM hz;have HALL:=ae hall;have HRR:=ae hR;rw[hz] at HCV;clear hz hall hR hev;by_cases hm:3<rank\/4<vss.length
  .have HE:=ae (rO HZ.o hm);rw[HE.o];clear HE;by_cases hr3:3<rank
   .go_enter func6,ntmps6;go_upto_region 1 with fail;rw[<-hw1];clear hw1;go_wp2_with (go_at_call 14;refine HCV.o.mono ?_;rintro e w2 ⟨rfl,q1⟩;have HB2:=ae q1;clear q1);go_ret;exact⟨rfl,Io HBW.o HB2.o⟩
   .have hl4:(4:Int)<vss.length:=by omega
    go_enter func6,ntmps6;go_upto_region 1 with fail;rw[<-hw1];clear hw1;go_wp2_with (go_at_call 14;refine HCV.o.mono ?_;rintro e w2 ⟨rfl,q1⟩;have HB2:=ae q1;clear q1);go_ret;exact⟨rfl,Io HBW.o HB2.o⟩
  .have HE:=ae (rP HZ.o hm);rw[HE.o];have hr3:¬3<rank:=λh=>hm (Ox h);have hl4:¬(4:Int)<vss.length:=λh=>hm (Oy (by omega));obtain⟨hpr,hn1,hn2,ho,_⟩:=kg HRR.o;have HP:=ae (dS hpr);have HN:=ae (NN hn1 hn2);clear hm HE hpr ho hn1 hn2;go_enter func6,ntmps6;go_upto_region 1 with fail;rw[<-hw1];clear hw1;go_wp2_with (go_at_call 14;refine HCV.o.mono ?_;rintro e w2 ⟨rfl,q1⟩;have HB2:=ae (Io HBW.o q1);clear q1);go_loopw [8] (λi wr=>∃k:Nat,k<=vss.length/\i=OW k/\vss.any iq=(vss.drop k).any iq/\LT w wr) (λi _=>vss.length-(intOf i).toNat);case atStart=>exact⟨0,NS _,rfl,rfl,HB2.o⟩
   case round=>
    rename OQ=>wr;obtain⟨k,hk,rfl,her,hbr⟩:=hrel;have HBR:=ae hbr;have HER0:=ae her;clear hbr her;by_cases hk2:k<vss.length
    .have HER:=ae (HER0.o.trans (DO iq vss k hk2));obtain⟨b,off,va,vc,rfl,hlt,c0,hvl2⟩:=lC HS.o k hk2;have hmem:=ir vss k hk2;generalize vss.getD k []=fss at c0 hvl2 HER hmem;obtain⟨hfl,hfo⟩:=HALL.o fss hmem;have HVL:=ae hvl2;have HFO:=ae hfo;subst hfl;have hf40:fss.length<=40:=by omega
     clear hvl2 hfo hmem;go_wp2_with fail;go_loopw [9] (λi wm=>∃j:Nat,j<=fss.length/\i=OW j/\fss.any gB=(fss.drop j).any gB/\LT w wm) (λi _=>fss.length-(intOf i).toNat);case atStart=>exact⟨0,NS _,rfl,rfl,HBR.o⟩
     case round=>
      rename OQ=>wm;obtain⟨j,hj,rfl,hej,hbm⟩:=hrel;have HBM:=ae hbm;have HEJ:=ae hej;clear hbm hej;by_cases hj2:j<fss.length
      .have HFJ:=ae (HEJ.o.trans (DO gB fss j hj2));obtain⟨b2,off2,fa,fc,rfl,hlt2,e0,hpf⟩:=jY HVL.o j hj2;have hmj:=ir fss j hj2;generalize fss.getD j []=f at e0 hpf HFJ hmj;have HOK:=ae (HFO.o f hmj);have HPF:=ae (hpf.below HBM.o);have d0:=af c0 HBM.o;have d1:=af e0 HBM.o;have HTO:OE (Calls prog 15 #[.slice fa f.length fc] wm λe w'=>e=.returned (OW (da (-1) f))/\w'=wm):=MX HRR.o HOK.o HPF.o;clear hpf hmj e0;by_cases h6:6<f.length
       .have h6I:(6:Int)<f.length:=by omega
        have HBP:OE (gB f=true):=by show _=_;unfold gB;rw[NP h6];rfl
        go_wp2_with fail;go_ret;refine⟨cM ?_,HBM.o⟩;have h1:iq fss=true:=by show fss.any gB=true;rw[HFJ.o,HBP.o];rfl
        unfold lB;rw[HER.o,h1];rfl
       .have h6I:¬(6:Int)<f.length:=by omega
        by_cases h3:3<da (-1) f
        .have HBP:OE (gB f=true):=by show _=_;unfold gB;rw[NP h3];simp
         go_wp2_with (go_at_call 15;refine HTO.o.mono ?_;rintro e w9 ⟨rfl,rfl⟩);go_ret;refine⟨cM ?_,HBM.o⟩;have h1:iq fss=true:=by show fss.any gB=true;rw[HFJ.o,HBP.o];rfl
         unfold lB;rw[HER.o,h1];rfl
        .have HBP:OE (gB f=false):=by show _=_;unfold gB;rw[NO h6,NO h3];rfl
         go_wp2_with (go_at_call 15;refine HTO.o.mono ?_;rintro e w9 ⟨rfl,rfl⟩);go_roundw;case rel=>exact⟨j+1,by omega,by go_num,by rw[HFJ.o,HBP.o];rfl,HBM.o⟩
         case measure=>simp[intOf];omega
      .have hz:iq fss=false:=by show fss.any gB=false;rw[HEJ.o,Ow (by omega)];rfl
       have HZ2:=ae hz;clear hz;go_wp2_with fail;go_roundw;case rel=>exact⟨k+1,by omega,by go_num,by rw[HER.o,HZ2.o];rfl,HBM.o⟩
       case measure=>simp[intOf];omega
    .go_wp2;go_ret;refine⟨cM ?_,HBR.o⟩;unfold lB;rw[HER0.o,Ow (by omega)];rfl
theorem pV(h:cr p n o v rank vss=0):cD p n o v rank vss=0/\rank<=3/\vss.length<=4/\vss.any iq=false:=by
 by_cases h1:cD p n o v rank vss=0
 .by_cases h2:3<rank\/4<vss.length
  .rw[rO h1 h2] at h;exact absurd h (by decide)
  .rw[rP h1 h2] at h;unfold lB at h;cases h3:vss.any iq with
   |true=>rw[h3] at h;exact absurd h (by decide)
   |false=>exact⟨h1,by omega,by omega,rfl⟩
 .rw[vQ h1] at h;exact absurd h h1
theorem MY(p n o v:Int)(N R q:Nat)(x y:OR)(cs:OG)(vss:OH)(w:OQ)(hp:2<=p/\p<=101)(ho:o=1\/o=2)(hN0:0<N)(hN:N<=3)(hA:ia p o N R cs vss)(hm:vss.length<=60)(hq:q<R)(hcur:∀i,i<vss.length->ag p n o v [cs.getD i [],(vss.getD i []).getD q []]=0)(pc:Vl w x cs)(pv:Wl w y vss):Calls prog 28 #[aI p n o v,x,y,OW (q:Int)] w λe w'=>∃u,e=.returned (.tuple #[u,OW (fj p o cs vss vss.length q)])/\Pl w' u (jF p o cs vss vss.length q)/\LT w w':=by
 have HX:=ae pc;have HY:=ae pv;have HA:=ae hA;have HP:=ae hp;have HO:=ae ho;have HCU:=ae hcur;have HT:=ae (BL p n o v);have HNN:=ae (NN hN0 hN);obtain⟨ax,cx,rfl,_⟩:=pc;obtain⟨ay,cy,rfl,_⟩:=pv;obtain⟨w1,hw1⟩:∃w1,w1=w.alloc (.cells #[OW p,OW n,OW o,OW v] 23):=⟨_,rfl⟩;have HBX:OE (bA w1 w.heap.size p n o v):=by rw[hw1];exact bA.new w p n o v _
 have HBW:OE (LT w w1):=by rw[hw1];exact bE
 have hs1:OE (w1.heap.size=w.heap.size+1):=by show _=_;rw[hw1];simp
 obtain⟨i0,hi,hz0,hz1,hz2⟩:=info_parts Tryz.infoPolyW;have HI:=ae (NN hi (NN hz0 (NN hz1 hz2)));clear hA hp ho hcur hN0 hN hi hz0 hz1 hz2;go_enter func28,ntmps28;go_wp2_with (at_make;rw[<-hw1];refine wpList_make_full _ rfl _ _ 31 rfl w1.heap.size 40 i0 _ 1 underlying31 HI.o.1 HI.o.2.1 HI.o.2.2.1 .i64 .i64 _ _ vss.length rfl rfl rfl rfl (by rw[HI.o.2.2.2];omega) (by unfold maxLen;omega) (NL _) ?_;intro w2 hown hgrow;have HV0:=ae (fZ.made hown hgrow);clear hown hgrow);clear hw1;go_loopw [21] (λi wr=>∃(k:Nat)(us:OO),k<=vss.length/\i=OW k/\us.length=k/\(∀j,j<k->cC (dQ p o cs vss q j)=false)/\fZ w1 wr (w.heap.size+1) vss.length us ((List.range k).map (dQ p o cs vss q))) (λi _=>vss.length-(intOf i).toNat);case atStart=>have h0:=HV0.o;rw[hs1.o] at h0;exact⟨0,[],NS _,rfl,rfl,λj hj=>by omega,h0⟩
 case round=>
  clear HV0;obtain⟨k,us,hk,rfl,hul,hz,hv⟩:=hrel;have HZ:=ae hz;have HV:=ae hv;have HUL:=ae hul;clear hz hv hul;by_cases hk2:k<vss.length
  .have hk3:k<cs.length:=by rw[HA.o.l];exact hk2
   have hkI:(k:Int)<(cs.length:Int):=by omega
   obtain⟨b,off,fa,fc,rfl,hlt,c0,hpf⟩:=jY HX.o k hk3;obtain⟨b2,off2,va,vc,rfl,hlt2,d0,hpv⟩:=lC HY.o k hk2;have hvl:=(HA.o.v _ (pE vss k hk2)).1;obtain⟨b3,off3,ga,gc,rfl,hlt3,e0,hpg⟩:=jY hpv q (by rw[hvl];exact hq);have d1:=af (af d0 HBW.o) HV.o.below;rw[hvl] at d0 d1;have HCK:=ae (HCU.o k hk2);have HPK:OE (dQ p o cs vss q k=bm p o (aH p (cs.getD k []) ((vss.getD k []).getD q []))):=rfl;have HGR:=ae (λh=>DL (p:=p) (o:=o) (cs:=cs) (vss:=vss) (m:=vss.length) (k:=q) (i:=k) hk2 h);have HNX:OE (cC (dQ p o cs vss q k)=false->∀j,j<k+1->cC (dQ p o cs vss q j)=false):=λh j hj=>by
    by_cases h2:j<k
    .exact HZ.o j h2
    .have e:j=k:=by omega
     subst e;exact h
   have HRS:=ae (xo (dQ p o cs vss q) k);generalize dQ p o cs vss q k=z at HPK HGR HNX HRS;generalize cs.getD k []=c at c0 hpf HCK HPK;generalize (vss.getD k []).getD q []=f at e0 hpg HCK HPK;obtain⟨_,bx0,bx1,bx2,bx3⟩:=HBX.o;have KEEP:OE (∀W,LT w1 W->(OE (LT w1 W)/\W.cell? (OV w.heap.size 0)=some (OW p)/\W.cell? (OV w.heap.size 1)=some (OW n)/\W.cell? (OV w.heap.size 2)=some (OW o)/\W.cell? (OV w.heap.size 3)=some (OW v)/\W.cell? (OV b (off+k))=some (.slice fa c.length fc)/\W.cell? (OV b3 (off3+q))=some (.slice ga f.length gc))):=
    λW hb=>⟨hb,af bx0 hb,af bx1 hb,af bx2 hb,af bx3 hb,af (af c0 HBW.o) hb,af (af e0 HBW.o) hb⟩
   have HPF:=ae (hpf.below HBW.o);have HPG:=ae (hpg.below HBW.o);have HB0:OE (LT w1 wr.drew):=HV.o.below.drew;have HVD:OE (fZ w1 wr.drew (w.heap.size+1) vss.length us ((List.range k).map (dQ p o cs vss q))):=HV.o.next ((NM _ _).drew);clear bx0 bx1 bx2 bx3 c0 d0 e0 hpf hpg hpv hvl;cases hg:cC z
   .have HMU:OE (iU 0 p o c f=0/\kH 0 p o c f=z):=by rw[HPK.o];exact pX rfl (by rw[<-HPK.o];exact hg)
    have HN2:=ae (HNX.o hg);clear hg;go_wp2_with fail;go_region_held (λW=>OE (LT w1 W)/\W.cell? (OV w.heap.size 0)=some (OW p)/\W.cell? (OV w.heap.size 1)=some (OW n)/\W.cell? (OV w.heap.size 2)=some (OW o)/\W.cell? (OV w.heap.size 3)=some (OW v)/\W.cell? (OV b (off+k))=some (.slice fa c.length fc)/\W.cell? (OV b3 (off3+q))=some (.slice ga f.length gc))
     (first|exact KEEP.o _ HB0.o|exact KEEP.o _ HB9.o)
     (first|(go_at_call 58;refine(DE p n o v _ HT.o _ _ c f _ ?_ ?_).mono ?_;exact HPF.o.below HB0.o;exact HPG.o.below HB0.o;rw[HCK.o,HMU.o.1,HMU.o.2];rintro e w9 ⟨u9,rfl,hu9,hb9⟩;have HU9:=ae hu9;have HV9:=ae (HVD.o.next hb9);have HB9:=ae (show LT w1 w9 from Io HB0.o hb9);obtain⟨ua9,uc9,rfl,_,_⟩:=hu9;obtain⟨ov,x0,x1⟩:=HV9.o.cells (by have:=HUL.o;omega);rw[HUL.o] at x0 x1;clear hb9))
    go_wp2;go_roundw;case rel=>refine⟨k+1,us++[.slice ua9 z.length uc9],by omega,by go_num,by rw[rj,HUL.o],HN2.o,?_⟩;rw[HRS.o];have h:=HV9.o.put (by have:=HUL.o;omega) _ _ HU9.o;rw[HUL.o] at h;exact h
    case measure=>simp[intOf];omega
   .have HMU:OE (iU 0 p o c f=2/\kH 0 p o c f=[]):=pW rfl (by rw[<-HPK.o];exact hg);have HG2:=ae (HGR.o hg);clear hg;go_wp2_with fail;go_region_held (λW=>OE (LT w1 W)/\W.cell? (OV w.heap.size 0)=some (OW p)/\W.cell? (OV w.heap.size 1)=some (OW n)/\W.cell? (OV w.heap.size 2)=some (OW o)/\W.cell? (OV w.heap.size 3)=some (OW v)/\W.cell? (OV b (off+k))=some (.slice fa c.length fc)/\W.cell? (OV b3 (off3+q))=some (.slice ga f.length gc))
     (first|exact KEEP.o _ HB0.o|exact KEEP.o _ HB9.o)
     (first|(go_at_call 58;refine(DE p n o v _ HT.o _ _ c f _ ?_ ?_).mono ?_;exact HPF.o.below HB0.o;exact HPG.o.below HB0.o;rw[HCK.o,HMU.o.1,HMU.o.2];rintro e w9 ⟨u9,rfl,hu9,hb9⟩;have HB9:=ae (show LT w1 w9 from Io HB0.o hb9);obtain⟨ua9,uc9,rfl,_,_⟩:=hu9;clear hb9))
    go_wp2;go_ret2;refine⟨.slice none 0 0,by rw[HG2.o.1];rfl,?_,Io HBW.o HB9.o⟩;rw[HG2.o.2];exact Pl.empty _
  .have e:k=vss.length:=by omega
   subst e;have HD:=ae (HV.o.done HUL.o);have HLN:OE ((eJ p o cs vss q vss.length).length=vss.length):=by show _=_;unfold eJ;rw[Oa,List.length_range]
   have HPF:OE (∀f∈(List.range vss.length).map (dQ p o cs vss q),cq p o N f/\Bd f/\f.length<=2000):=λf hf=>by obtain⟨i,hi,rfl⟩:=sW hf;have h1:=HA.o.pr HP.o.1 (k:=q) (i:=i) hi hq;exact⟨h1.1,h1.2,MO (HZ.o i hi)⟩
   obtain⟨_,bx0,bx1,bx2,bx3⟩:=HBX.o.below HV.o.below;have HBN:=ae (Io HBW.o HV.o.below);have HLO:=ae (λh=>DM (p:=p) (o:=o) (cs:=cs) (vss:=vss) (m:=vss.length) (k:=q) h);have HOK:=ae (λh=>xp (p:=p) (o:=o) (cs:=cs) (vss:=vss) (m:=vss.length) (k:=q) HZ.o h);have HSU:OE (∀W,LT wr W->Calls prog 59 #[aI p n o v,OU (w.heap.size+1) vss.length vss.length] W λe w'=>∃u,e=.returned u/\Pl w' u (bm p o (eJ p o cs vss q vss.length).flatten)/\LT W w'):=λW hb=>Ju p n o v N 2000 _ _ W HP.o HO.o HNN.o.1 HNN.o.2 HPF.o (by rw[HLN.o];omega) (by rw[HLN.o];omega) (HD.o.below hb)
   generalize bm p o (eJ p o cs vss q vss.length).flatten=s at HSU HLO HOK;by_cases hl:2000<s.length
   .have HL2:=ae (HLO.o hl);have hlI:(2000:Int)<(s.length:Int):=by omega
    go_wp2_with (go_at_call 59;refine(HSU.o _ (NM _ _)).mono ?_;rintro e w8 ⟨u8,rfl,hu8,hb8⟩;have HB8:=ae (Io HBN.o hb8);obtain⟨ua8,uc8,rfl,_,_⟩:=hu8;clear hb8);go_ret2;refine⟨.slice none 0 0,by rw[HL2.o.1];rfl,?_,HB8.o⟩;rw[HL2.o.2];exact Pl.empty _
   .have HL2:=ae (HOK.o hl);have hlI:¬(2000:Int)<(s.length:Int):=by omega
    go_wp2_with (go_at_call 59;refine(HSU.o _ (NM _ _)).mono ?_;rintro e w8 ⟨u8,rfl,hu8,hb8⟩;have HU8:=ae hu8;have HB8:=ae (Io HBN.o hb8);obtain⟨ua8,uc8,rfl,_,_⟩:=hu8;clear hb8);go_ret2;exact⟨_,by rw[HL2.o.1];rfl,by rw[HL2.o.2];exact HU8.o,HB8.o⟩
theorem MZ(p n o v:Int)(N R q rb cb lb:Nat)(fv:OR)(ax ay:Option Addr)(cx cy:Nat)(cs:OG)(vss:OH)(w:OQ)(hp:2<=p/\p<=101)(ho:o=1\/o=2)(hN0:0<N)(hN:N<=3)(hA:ia p o N R cs vss)(hm:vss.length<=60)(hq:q<R)(hcur:∀i,i<vss.length->ag p n o v [cs.getD i [],(vss.getD i []).getD q []]=0)(bx:bA w rb p n o v)(hc:w.cell? (OV cb 0)=some (.slice ax cs.length cx))(hl:w.cell? (OV lb 0)=some (.slice ay vss.length cy))(pc:Vl w (.slice ax cs.length cx) cs)(pv:Wl w (.slice ay vss.length cy) vss):Calls prog 27 #[OW q,fv,OS rb,OS cb,OS lb] w λe w'=>∃u,e=.returned (.tuple #[u,OW (fj p o cs vss vss.length q)])/\Pl w' u (jF p o cs vss vss.length q)/\LT w w':=by have HC:=ae (MY p n o v N R q _ _ cs vss w hp ho hN0 hN hA hm hq hcur pc pv);obtain⟨_,bx0,bx1,bx2,bx3⟩:=bx;clear hp ho hA hcur pc pv;go_enter func27,ntmps27;go_wp2_with (go_at_call 28;refine HC.o.mono ?_;rintro e w9 ⟨u9,rfl,hu9,hb9⟩;have HU9:=ae hu9;have HB9:=ae hb9;obtain⟨ua9,uc9,rfl,_,_⟩:=hu9;clear hb9);go_ret2;exact⟨_,rfl,HU9.o,HB9.o⟩
def mm(p n o v rank:Int)(cs:OG)(vss:OH):OG:=if fV p n o v rank cs vss=0 then cB p o rank.toNat cs vss vss.length else []
theorem xq(h:fV p n o v rank cs vss≠0):mm p n o v rank cs vss=[]:=by unfold mm;rw[Oc h]
theorem M0{A B C:Obj}:LT w (((w.alloc A).alloc B).alloc C):=(((NM _ _).alloc (NL _) _).alloc (by simp) _).alloc (by simp;omega) _
theorem GK(p n o v rank:Int)(x y:OR)(cs:OG)(vss:OH)(w:OQ)(pc:Vl w x cs)(pv:Wl w y vss):Calls prog 10 #[aI p n o v,OW rank,x,y] w λe w'=>∃u,e=.returned (.tuple #[u,OW (fV p n o v rank cs vss)])/\Vl w' u (mm p n o v rank cs vss)/\LT w w':=by
 have HX:=ae pc;have HY:=ae pv;obtain⟨ax,cx,rfl,_⟩:=pc;obtain⟨ay,cy,rfl,_⟩:=pv;obtain⟨w2,hw2⟩:∃w2,w2=((w.alloc (.cells #[OW p,OW n,OW o,OW v] 23)).alloc (.cells #[.slice ax cs.length cx] 31)).alloc (.cells #[.slice ay vss.length cy] 24):=⟨_,rfl⟩;have hb2:LT w w2:=by rw[hw2];exact M0
 have hbx:bA w2 w.heap.size p n o v:=by rw[hw2];exact(bA.new w p n o v _).below dR
 have hcf:w2.cell? (OV (w.heap.size+1) 0)=some (.slice ax cs.length cx):=by rw[hw2];simp[go_sem]
 have hlf:w2.cell? (OV (w.heap.size+2) 0)=some (.slice ay vss.length cy):=by rw[hw2];simp[go_sem]
 have HB2:=ae hb2;have HBX:=ae hbx;have HCF:=ae hcf;have HLF:=ae hlf;have HYW:=ae (HY.o.below hb2);have HXW:=ae (HX.o.below hb2);clear hb2 hbx hcf hlf;by_cases hz:cD p n o v rank vss=0
 rotate_left
 .have he:fV p n o v rank cs vss=cD p n o v rank vss:=by unfold fV;rw[Oe hz]
  have HR:=ae (xq (p:=p) (n:=n) (o:=o) (v:=v) (rank:=rank) (cs:=cs) (vss:=vss) (by rw[he];exact hz));rw[HR.o,he];clear he;obtain⟨_,bx0,bx1,bx2,bx3⟩:=HBX.o;have hcf:=HCF.o;have hlf:=HLF.o;have hzB:(cD p n o v rank vss !=0)=true:=by simpa using hz
  clear hz;go_enter func10,ntmps10;go_wp2_with fail;try rw[<-hw2]
  refine(pz p n o v rank _ vss _ HYW.o).mono ?_;rintro e w3 ⟨rfl,hb3⟩;have HB3:=ae (Io HB2.o hb3);clear hb3;go_wp2;go_ret2;exact⟨_,rfl,Vl.empty _,HB3.o⟩
 obtain⟨hR,hrk,hv60,hvs⟩:=rM hz;have HZ:=ae hz;have HRR:=ae hR;clear hz;obtain⟨_,bx0,bx1,bx2,bx3⟩:=HBX.o;have hcf:=HCF.o;have hlf:=HLF.o;by_cases hl:cs.length=vss.length
 rotate_left
 .have he:fV p n o v rank cs vss=1:=by unfold fV;rw[Oc (by rw[HZ.o];simp),Oe hl]
  have HR:=ae (xq (p:=p) (n:=n) (o:=o) (v:=v) (rank:=rank) (cs:=cs) (vss:=vss) (by rw[he];decide));rw[HR.o,he];clear he hR hvs;have hlI:¬((cs.length:Int)=(vss.length:Int)):=λh=>hl (Int.ofNat.inj h);go_enter func10,ntmps10;go_wp2_with fail;try rw[<-hw2]
  refine(pz p n o v rank _ vss _ HYW.o).mono ?_;rw[HZ.o];rintro e w3 ⟨rfl,hb3⟩;have HB3:=ae (Io HB2.o hb3);have g1:=af hcf hb3;have g2:=af hlf hb3;clear hb3 bx0 bx1 bx2 bx3 hcf hlf hw2;go_wp2;go_ret2;exact⟨_,rfl,Vl.empty _,HB3.o⟩
 have HPE:OE (kz p n o v cs=ep p n o cs):=by show _=_;unfold kz;rw[Oe hR]
 have HL:=ae hl;have HM:OE (cs.length<=1200000000000):=by show _<=_;omega
 by_cases hpz:kz p n o v cs=0
 rotate_left
 .have he:fV p n o v rank cs vss=ep p n o cs:=by unfold fV;rw[Oc (by rw[HZ.o];simp),Oc (by rw[hl];simp),Oe hpz,HPE.o]
  have HR:=ae (xq (p:=p) (n:=n) (o:=o) (v:=v) (rank:=rank) (cs:=cs) (vss:=vss) (by rw[he,<-HPE.o];exact hpz));rw[HR.o,he];have hzB:(ep p n o cs !=0)=true:=by rw[<-HPE.o];simpa using hpz
  clear he hR hvs hpz;rw[HL.o] at hcf;have HXV:OE (Vl w2 (.slice ax vss.length cx) cs):=by rw[<-HL.o];exact HXW.o
  have hw3:=hw2;rw[HL.o] at hw3;rw[HL.o];clear hl hw2;go_enter func10,ntmps10;go_wp2_with fail;try rw[<-hw3]
  refine(pz p n o v rank _ vss _ HYW.o).mono ?_;rw[HZ.o];rintro e w3 ⟨rfl,hb3⟩;have HB3:=ae (Io HB2.o hb3);have HX3:=ae (HXV.o.below hb3);have g1:=af hcf hb3;have g2:=af hlf hb3;have h0:=af bx0 hb3;have h1:=af bx1 hb3;have h2:=af bx2 hb3;have h3:=af bx3 hb3;clear hb3 bx0 bx1 bx2 bx3 hcf hlf hw3;go_wp2_with (go_at_call 25;refine(vY p n o v _ cs _ HRR.o HM.o HX3.o).mono ?_;rintro e w4 ⟨rfl,hb4⟩;have HB4:=ae (Io HB3.o hb4);clear hb4);go_ret2;exact⟨_,rfl,Vl.empty _,HB4.o⟩
 obtain⟨R,rfl⟩:∃R:Nat,rank=(R:Int):=⟨rank.toNat,by omega⟩;have HPZ:=ae hpz;obtain⟨hpr,hn1,hn2,ho,_⟩:=kg hR;have HP:=ae (dS hpr);have hcs:=(JR hpz).2;have HA:OE (ia p o n.toNat R cs vss):=⟨λc hc=>(sU hR (hcs c hc)).1,λu hu=>⟨by have:=(hvs u hu).1;omega,λf hf=>(sU hR ((hvs u hu).2 f hf)).1⟩,hl⟩;have HCU:OE (∀q,q<R->∀i,i<vss.length->ag p n o v [cs.getD i [],(vss.getD i []).getD q []]=0):=λq hq i hi=>Jz hR (λf hf=>by
  have hu:=hvs _ (pE vss i hi);simp only[Og,List.not_mem_nil,or_false] at hf;rcases hf with rfl|rfl
  .exact hcs _ (ir cs i (by rw[hl];exact hi))
  .exact hu.2 _ (ir _ q (by omega)))
 have HALL:=ae (MV (n:=n) (v:=v) hpr HP.o.1 HA.o HZ.o hpz);have HCR:OE (mm p n o v (R:Int) cs vss=mI (fj p o cs vss vss.length) (jF p o cs vss vss.length) R):=by show _=_;unfold mm;rw[HALL.o.2,Int.toNat_natCast]
 rw[HCR.o,<-HALL.o.1];have hR40:R<=40:=by omega
 have HLR:OE ((List.replicate R ([]:Lt)).length=R):=by show _=_;rw[List.length_replicate]
 have HEA:=ae (fun(W:OQ)(u:OR)(hb:LT w2 W) (hu:Vl W u (List.replicate R []))=>MW w.heap.size (w.heap.size+1) (w.heap.size+2) u (List.replicate R []) (fj p o cs vss vss.length) (jF p o cs vss vss.length) W (by rw[HLR.o];omega) hu (λi w' fa fc hi hb' hpf=>by
  have hb2:=Io hb hb';exact MZ p n o v n.toNat R i w.heap.size (w.heap.size+1) (w.heap.size+2) _ ax ay cx cy cs vss w' HP.o ho (by omega) (by omega) HA.o hv60 (by rw[HLR.o] at hi;exact hi) (HCU.o i (by rw[HLR.o] at hi;exact hi)) (HBX.o.below hb2) (af HCF.o hb2) (af HLF.o hb2) (HXW.o.below hb2) (HYW.o.below hb2)))
 rw[HLR.o] at HEA;obtain⟨i0,hi,hz0,hz1,hz2⟩:=info_parts Tryz.infoPolyW;have HI:=ae (NN hi (NN hz0 (NN hz1 hz2)));have HF0:OE (ep p n o cs=0):=by show _=_;rw[<-HPE.o];exact HPZ.o
 rw[HL.o] at hcf;have HXV:OE (Vl w2 (.slice ax vss.length cx) cs):=by rw[<-HL.o];exact HXW.o
 have hw3:=hw2;rw[HL.o] at hw3;rw[HL.o];clear hR hrk hvs hl hpz hpr hn1 hn2 ho hcs hi hz0 hz1 hz2 hw2;go_enter func10,ntmps10;go_wp2_with fail;try rw[<-hw3]
 refine(pz p n o v (R:Int) _ vss _ HYW.o).mono ?_;rw[HZ.o];rintro e w3 ⟨rfl,hb3⟩;have HB3:=ae hb3;have HX3:=ae (HXV.o.below hb3);have g1:=af hcf hb3;have g2:=af hlf hb3;have h0:=af bx0 hb3;have h1:=af bx1 hb3;have h2:=af bx2 hb3;have h3:=af bx3 hb3;clear hb3 bx0 bx1 bx2 bx3 hcf hlf hw3;go_wp2_with (first|(go_at_call 25;refine(vY p n o v _ cs _ HRR.o HM.o HX3.o).mono ?_;rw[HF0.o];rintro e w4 ⟨rfl,hb4⟩;have HB4:=ae (show LT w2 w4 from Io HB3.o hb4);clear hb4 g1 g2 h0 h1 h2 h3)|(at_make;refine wpList_make_full _ rfl _ _ 32 rfl w4.heap.size 40 i0 _ 1 underlying32 HI.o.1 HI.o.2.1 HI.o.2.2.1 .i64 .i64 _ _ R rfl rfl rfl rfl (by rw[HI.o.2.2.2];omega) (by unfold maxLen;omega) (NL _) ?_;intro w5 hown hgrow;have HV5:=ae (ML hown);have HB5:OE (LT w2 w5):=Io HB4.o (⟨hgrow.os,hgrow.tape,hgrow.output,hgrow.size,λk hk=>hgrow.block k hk (by simp)⟩:LT w4 w5);clear hown hgrow)|(go_at_call 26;refine(HEA.o _ _ HB5.o HV5.o).mono ?_;rintro e w6 ⟨u6,rfl,hu6,hb6⟩;have HU6:=ae hu6;have HB6:=ae (Io HB2.o (Io HB5.o hb6));obtain⟨ua6,uc6,rfl,_⟩:=hu6;clear hb6));go_ret2;exact⟨_,rfl,HU6.o,HB6.o⟩
end Go.Proofs.YtjkalahhpobefaaGreat
