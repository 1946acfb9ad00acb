/- slices.Min, slices.Max. -/
import Derived.Test.YtjkalahhpobefaaGreatWG
set_option maxHeartbeats 2000000
set_option maxRecDepth 100000
namespace Go.Proofs.YtjkalahhpobefaaGreat
set_option linter.all false
open Go.Proofs.Tryz Go.RowKit
def vB:Lt:=[[],[(1,[1,0])]]
variable{w:PJ}
theorem tu{c1:Int}{s1:PK}{e1:PI}{T:TypeId}(h1:Sl w s1 e1):Pl (w.alloc (.cells #[PO c1,s1] T)) (PM w.heap.size 1 1) [(c1,e1)]:=by
 refine⟨_,1,rfl,Ou _,λ_=>⟨w.heap.size,0,rfl,by simp,λi hi=>?_⟩⟩;rcases i with _|i
 .exact⟨by simp[go_sem],s1,by simp[go_sem],h1.below aY⟩
 .simp at hi
def Nl:PI->Int
 |[]=>-1
 |z::_=>z
def On(L:PI):Prop:=∀y∈L,y=Nl L
theorem Nm{w':PJ}{n:Nat}(h:w'.ownsRow w.heap.size 40 1 (PM w.heap.size n n) n (madeCells (Value.cells (.slice none 0 0)) (n*1)).toList):Vl w' (PM w.heap.size n n) (List.replicate n []):=by
 have hlt:=(Ot h w.heap.size rfl).2;refine⟨_,n,by rw[List.length_replicate],λ_=>⟨w.heap.size,0,rfl,hlt,λi hi=>⟨.slice none 0 0,?_,?_⟩⟩⟩
 .rw[List.length_replicate] at hi;rw[ON,h.cellAt i (by omega)];simp[madeCells,Value.cells,hi,Nat.mod_one]
 .rw[List.length_replicate] at hi;have e:(List.replicate n ([]:LT)).getD i []=[]:=by simp[OH,hi]
  rw[e];exact Pl.empty _
def cr(p o:Int)(R:Nat)(cs:Lt)(vss:PA):Nat->Lt
 |0=>List.replicate R []
 |k+1=>eh p o (cr p o R cs vss k) (jB p o (cs.getD k []) (vss.getD k []))
def jW(p o:Int)(c f:LT):Bool:=(decide (0<(c.length:Int))&&decide (0<(f.length:Int))&&decide (200<fz (-1) c+fz (-1) f))||bF (aR p o (aH p c f))
def Nn(p o rank:Int)(cs:Lt)(vss:PA):Decidable ((∃i,i<vss.length/\∃k:Nat,(k:Int)<rank/\jW p o (cs.getD i []) ((vss.getD i []).getD k [])=true)\/(cr p o rank.toNat cs vss vss.length).any bF=true):=
 decidable_of_iff ((List.range vss.length).any (λi=>(List.range rank.toNat).any λk=>jW p o (cs.getD i []) ((vss.getD i []).getD k []))=true\/(cr p o rank.toNat cs vss vss.length).any bF=true)
  (or_congr (by
   simp only[List.any_eq_true,List.mem_range];exact⟨fun⟨i,h1,k,h2,h3⟩=>⟨i,h1,k,by omega,h3⟩,fun⟨i,h1,k,h2,h3⟩=>⟨i,h1,k,by omega,h3⟩⟩) Iff.rfl)
def eY(p n o v rank:Int)(cs:Lt)(vss:PA):Int:=
 if cR p n o v rank vss≠0 then cR p n o v rank vss else if cs.length≠vss.length then 1 else if i7 p n o v cs≠0 then i7 p n o v cs else haveI:=Nn p o rank cs vss;if (∃i,i<vss.length/\∃k:Nat,(k:Int)<rank/\jW p o (cs.getD i []) ((vss.getD i []).getD k [])=true)\/(cr p o rank.toNat cs vss vss.length).any bF=true then 2 else 0
variable{vss:PA}{p n o v rank:Int}
theorem v8(h:cR p n o v rank vss=0):bE p n o v=0/\(1<=rank/\rank<=40)/\vss.length<=60/\∀u∈vss,(u.length:Int)=rank/\∀f∈u,ep p n o f=0:=by
 unfold cR at h;by_cases hr:bE p n o v=0
 .rw[OV (by simpa using hr)] at h;unfold mH at h;cases hb:eW rank 1 40
  .rw[OW hb] at h;exact absurd h (by decide)
  .rw[OV (by rw[hb];simp)] at h;by_cases hl:60<vss.length
   .rw[OW hl] at h;exact absurd h (by decide)
   .rw[OV hl] at h;refine⟨hr,by simpa [eW] using hb,by omega,λu hu=>?_⟩;have h1:=sC h u hu;unfold j9 at h1;by_cases hu2:(u.length:Int)=rank
    .rw[OV (by simpa using hu2)] at h1;exact⟨hu2,sB h1⟩
    .rw[OW hu2] at h1;exact absurd h1 (by decide)
 .rw[OW hr] at h;exact absurd h hr
variable{ts:LT}
theorem No(h:bF ts=false):ts.length<=2000:=by unfold bF at h;simp at h;omega
variable{i:Nat}
theorem eT{P:Program}{ops:Array Oper}{Q:Exit->Act->PJ->Prop}{md:Region.Mode}{S:PJ->Prop}{oi:Oper}{d:Option Tmp}{v:PK}{fuel:Nat}{listed:Array Bool}{a:Act}(hi:ops[i]?=some oi)(hd:oi.dst=d)(hs:Region.noSelect ops=true)(hf:Region.free md ops listed i=true)(hr:(Region.ready md ops listed).contains i=true)(hQ:∀c a w,Q (.panic c) (a.put d v) w->Q (.panic c) a w)(hy:YieldsIf P ops S oi v a)(hS:S w)(h:wpAnyH P md ops Q S fuel (listed.setIfInBounds i true) (a.put d v) w):wpAnyH P md ops Q S (fuel+1) listed a w:=by subst hd;exact wpAnyH_take hi hs hf hr hQ hy hS h
variable{f:LT}{N:Nat}
theorem Np(he:bA p=0){c:LT}(hc:fO p o N c)(hf:fO p o N f):jW p o c f=bF (aR p o (aH p c f)):=by
 unfold jW;cases c with
 |nil=>simp
 |cons t c=>
  cases f with
  |nil=>simp
  |cons u f=>
   cases hg:bF (aR p o (aH p (t::c) (u::f)))
   .rw[Cw he hc.canon hf.canon] at hg;have h2:=of_decide_eq_false (Bool.or_eq_false_iff.1 hg).1;have b1:=oR t.2 (λx hx=>by have:=hc.bd t (by simp) x hx;omega);have b2:=oR u.2 (λx hx=>by have:=hf.bd u (by simp) x hx;omega);have a1:fz (-1) (t::c)<=au t.2:=sL _ _ (om hc.canon) (by omega);have a2:fz (-1) (u::f)<=au u.2:=sL _ _ (om hf.canon) (by omega);have h3:¬200<fz (-1) (t::c)+fz (-1) (u::f):=by omega
    rw[Ox h3,Bool.and_false,Bool.false_or]
   .rw[Bool.or_true]
def dP(p o:Int)(cs:Lt)(vss:PA)(k i:Nat):LT:=aR p o (aH p (cs.getD i []) ((vss.getD i []).getD k []))
def eK(p o:Int)(cs:Lt)(vss:PA)(k m:Nat):Lt:=(List.range m).map (dP p o cs vss k)
structure ic(p o:Int)(N R:Nat)(cs:Lt)(vss:PA):Prop where
 c:∀c∈cs,fO p o N c
 v:∀u∈vss,u.length=R/\∀f∈u,fO p o N f
 l:cs.length=vss.length
variable{k R:Nat}{cs:Lt}
theorem ic.at(h:ic p o N R cs vss)(hi:i<vss.length)(hk:k<R):fO p o N (cs.getD i [])/\fO p o N ((vss.getD i []).getD k []):=by have h1:=h.v _ (mB vss i hi);exact⟨h.c _ (iq cs i (by rw[h.l];exact hi)),h1.2 _ (iq _ k (by rw[h1.1];exact hk))⟩
theorem ic.pr(hp:2<=p)(h:ic p o N R cs vss)(hi:i<vss.length)(hk:k<R):ck p o N (dP p o cs vss k i)/\Bd (dP p o cs vss k i):=by obtain⟨h1,h2⟩:=h.at hi hk;refine⟨dS.col hp (dS.prod hp h1.canon.okl h2.canon.okl),λt ht x hx=>?_⟩;obtain⟨y,hy,ey⟩:=sJ ht;rw[ey] at hx;exact(Kr hp h1.canon.len h2.canon.len h1.bd h2.bd y hy).2.1 x hx
theorem DT{p:Int}{n:Nat}:∀{fss:Lt},(∀f∈fss,dS p n f)->dS p n fss.flatten
 |[],_=>⟨λt ht=>by simp at ht,λt ht=>by simp at ht⟩
 |f::r,h=>by rw[List.flatten_cons];exact(h f (by simp)).append (DT (λg hg=>h g (by simp[hg])))
theorem Nq(p o:Int)(cs:Lt)(vss:PA)(k m:Nat):eK p o cs vss k (m+1)=eK p o cs vss k m++[dP p o cs vss k m]:=ta _ _
variable{m:Nat}
theorem tA(h:f∈eK p o cs vss k m):∃i,i<m/\f=dP p o cs vss k i:=by obtain⟨i,hi,e⟩:=OR.1 h;exact⟨i,List.mem_range.1 hi,e.symm⟩
theorem ic.okl(hp:2<=p)(h:ic p o N R cs vss)(hm:m<=vss.length)(hk:k<R):dS p N (eK p o cs vss k m).flatten:=
 DT (λf hf=>by obtain⟨i,hi,rfl⟩:=tA hf;exact(h.pr hp (by omega) hk).1.okl)
theorem oL{p o:Int}{N R:Nat}{cs:Lt}{vss:PA}(hp:2<=p)(h:ic p o N R cs vss){k:Nat}(hk:k<R):∀m,m<=vss.length->(cr p o R cs vss m).length=R/\(cr p o R cs vss m).getD k []=aR p o (eK p o cs vss k m).flatten
 |0,_=>⟨by simp[cr],by simp[cr,eK,OH,hk];rfl⟩
 |m+1,hm=>by
  obtain⟨h1,h2⟩:=oL hp h hk m (by omega);have hv:=h.v _ (mB vss m (by omega));have hpl:(jB p o (cs.getD m []) (vss.getD m [])).length=R:=by unfold jB;rw[OS];exact hv.1
  refine⟨by simp only[cr];rw[wu (by rw[h1,hpl])];exact h1,?_⟩;simp only[cr];rw[wi (by rw[h1,hpl]) (by rw[h1];exact hk),h2];have e:(jB p o (cs.getD m []) (vss.getD m [])).getD k []=dP p o cs vss k m:=by unfold jB dP;exact ww _ _ k (by rw[hv.1];exact hk)
  rw[e,Nq,List.flatten_append];have e2:[dP p o cs vss k m].flatten=dP p o cs vss k m:=by simp
  rw[e2];have o1:=h.okl hp (k:=k) (m:=m) (by omega) hk;have o2:=(h.pr hp (i:=m) (by omega) hk).1.okl;exact ct.col hp ((dS.col (o:=o) hp o1).okl.append o2) (o1.append o2) (ct.append (pu p o _) (ct.refl p _))
def fi(p o:Int)(cs:Lt)(vss:PA)(m k:Nat):Int:=if (eK p o cs vss k m).any bF=true\/2000<(aR p o (eK p o cs vss k m).flatten).length then 2 else 0
def jJ(p o:Int)(cs:Lt)(vss:PA)(m k:Nat):LT:=if fi p o cs vss m k=0 then aR p o (eK p o cs vss k m).flatten else []
theorem DU(hi:i<m)(h:bF (dP p o cs vss k i)=true):fi p o cs vss m k=2/\jJ p o cs vss m k=[]:=by
 have e:fi p o cs vss m k=2:=by have hany:(eK p o cs vss k m).any bF=true:=List.any_eq_true.2 ⟨dP p o cs vss k i,OR.2 ⟨i,List.mem_range.2 hi,rfl⟩,h⟩;unfold fi;rw[OW (Pf hany)]
 exact⟨e,by unfold jJ;rw[e];rfl⟩
theorem Nr(h:∀i,i<m->bF (dP p o cs vss k i)=false):(eK p o cs vss k m).any bF=false:=by rw[List.any_eq_false];intro f hf;obtain⟨i,hi,rfl⟩:=tA hf;rw[h i hi];simp
theorem DV(h:2000<(aR p o (eK p o cs vss k m).flatten).length):fi p o cs vss m k=2/\jJ p o cs vss m k=[]:=by
 have e:fi p o cs vss m k=2:=by unfold fi;rw[OW (Pg h)]
 exact⟨e,by unfold jJ;rw[e];rfl⟩
theorem xG(h:∀i,i<m->bF (dP p o cs vss k i)=false)(h2:¬2000<(aR p o (eK p o cs vss k m).flatten).length):fi p o cs vss m k=0/\jJ p o cs vss m k=aR p o (eK p o cs vss k m).flatten:=by
 have e:fi p o cs vss m k=0:=by unfold fi;rw[OV (by rw[Nr h];rintro (h|h);cases h;exact h2 h)]
 exact⟨e,by unfold jJ;rw[e];rfl⟩
theorem Ns(h:bF ts=false):∀x∈ts,au x.2<=200:=λx hx=>by
 by_cases h2:200<au x.2
 .rw[Cv hx h2] at h;cases h
 .omega
theorem DW(h:∀i,i<m->bF (dP p o cs vss k i)=false):bF (aR p o (eK p o cs vss k m).flatten)=decide (2000<(aR p o (eK p o cs vss k m).flatten).length):=by refine wN (λx hx=>?_);obtain⟨y,hy,ey⟩:=sJ hx;obtain⟨f,hf,hyf⟩:=List.mem_flatten.1 hy;obtain⟨i,hi,rfl⟩:=tA hf;rw[ey];exact Ns (h i hi) y hyf
theorem Nt{E:Nat->Int}(h:∀k,k<m->E k=0\/E k=2):(dD E m 0=0/\∀k,k<m->E k=0)\/(dD E m 0=2/\∃k,k<m/\E k=2):=by
 by_cases hz:∀k,k<m->E k=0
 .exact Pf ⟨sY hz,hz⟩
 .refine Pg ?_;have hex:∀d,d<=m->(∀k,k<d->E k=0)\/∃k,k<d/\E k≠0/\∀j,j<k->E j=0:=by
   intro d;induction d with
   |zero=>intro _;exact Pf (λk hk=>by omega)
   |succ d ih=>
    intro hd;rcases ih (by omega) with h1|⟨k,h1,h2,h3⟩
    .by_cases h4:E d=0
     .exact Pf (λk hk=>by
       by_cases h5:k<d
       .exact h1 k h5
       .rw[show k=d by omega];exact h4)
     .exact Pg ⟨d,by omega,h4,h1⟩
    .exact Pg ⟨k,by omega,h2,h3⟩
  rcases hex m (Ou _) with h1|⟨k,h1,h2,h3⟩
  .exact absurd h1 hz
  .have h4:E k=2:=(h k h1).resolve_left h2;exact⟨by rw[sZ h1 h3 h2,h4],k,h1,h4⟩
theorem Nu(p o:Int)(cs:Lt)(vss:PA)(m k:Nat):fi p o cs vss m k=0\/fi p o cs vss m k=2:=by
 unfold fi;split
 .exact Pg rfl
 .exact Pf rfl
open Classical in
theorem Nv(he:bA p=0)(hp:2<=p)(h:ic p o N R cs vss)(hv0:cR p n o v (R:Int) vss=0)(hp0:i7 p n o v cs=0):dD (fi p o cs vss vss.length) R 0=eY p n o v (R:Int) cs vss/\ke (fi p o cs vss vss.length) (jJ p o cs vss vss.length) R=if eY p n o v (R:Int) cs vss=0 then cr p o R cs vss vss.length else []:=by
 have hmany:∀i,i<vss.length->∀k,k<R->jW p o (cs.getD i []) ((vss.getD i []).getD k [])=bF (dP p o cs vss k i):=λi hi k hk=>Np he (h.at hi hk).1 (h.at hi hk).2;have hdef:eY p n o v (R:Int) cs vss=if (∃i,i<vss.length/\∃k:Nat,(k:Int)<(R:Int)/\jW p o (cs.getD i []) ((vss.getD i []).getD k [])=true)\/(cr p o R cs vss vss.length).any bF=true then 2 else 0:=by
  unfold eY;rw[OV (by rw[hv0];simp),OV (by rw[h.l];simp),OV (by rw[hp0];simp)];by_cases hC:(∃i,i<vss.length/\∃k:Nat,(k:Int)<(R:Int)/\jW p o (cs.getD i []) ((vss.getD i []).getD k [])=true)\/(cr p o R cs vss vss.length).any bF=true
  .rw[OW hC];exact OW (by rw[Int.toNat_natCast];exact hC)
  .rw[OV hC];exact OV (by rw[Int.toNat_natCast];exact hC)
 rcases Nt (E:=fi p o cs vss vss.length) (m:=R) (λk _=>Nu p o cs vss vss.length k) with ⟨h1,h2⟩|⟨h1,k,hk,h2⟩
 .have hg:∀k,k<R->∀i,i<vss.length->bF (dP p o cs vss k i)=false:=λk hk i hi=>by
   cases hgk:bF (dP p o cs vss k i)
   .rfl
   .have:=(DU hi hgk).1;rw[h2 k hk] at this;exact absurd this (by decide)
  have hn:∀k,k<R->¬2000<(aR p o (eK p o cs vss k vss.length).flatten).length:=λk hk h3=>by have:=(DV h3).1;rw[h2 k hk] at this;exact absurd this (by decide)
  have hz:eY p n o v (R:Int) cs vss=0:=by
   rw[hdef,OV];rintro (⟨i,hi,k,hk,h3⟩|h3)
   .rw[hmany i hi k (by omega),hg k (by omega) i hi] at h3;cases h3
   .obtain⟨f,hf,hgf⟩:=List.any_eq_true.1 h3;obtain⟨k,hk,rfl⟩:=List.getElem_of_mem hf;have hkR:k<R:=by
     by_cases hR:0<R
     .rw[(oL hp h hR vss.length (Ou _)).1] at hk;exact hk
     .have hR0:R=0:=by omega
      subst hR0;exfalso;have:(cr p o 0 cs vss vss.length)=[]:=by
       have hh:∀m,cr p o 0 cs vss m=[]:=by
        intro m;induction m with
        |zero=>rfl
        |succ m ih=>simp only[cr];rw[ih];rfl
       exact hh _
      rw[this] at hk;simp at hk
    have e:=(oL hp h hkR vss.length (Ou _)).2;rw[OH,OI hk,Option.getD_some] at e;rw[e,DW (hg k hkR),Ox (hn k hkR)] at hgf;cases hgf
  refine⟨by rw[h1,hz],?_⟩;rw[OW hz,xr h1];by_cases hR:0<R
  .have hlen:=(oL hp h hR vss.length (Ou _)).1;refine List.ext_getElem (by rw[OS,List.length_range,hlen]) (λk hk1 hk2=>?_);rw[List.getElem_map,List.getElem_range];have hkR:k<R:=by rw[hlen] at hk2;exact hk2
   have e:=(oL hp h hkR vss.length (Ou _)).2;rw[OH,OI hk2,Option.getD_some] at e;rw[e,(xG (hg k hkR) (hn k hkR)).2]
  .have hR0:R=0:=by omega
   subst hR0;have hh:∀m,cr p o 0 cs vss m=[]:=by
    intro m;induction m with
    |zero=>rfl
    |succ m ih=>simp only[cr];rw[ih];rfl
   rw[hh];rfl
 .have hz:eY p n o v (R:Int) cs vss=2:=by
   rw[hdef,OW];by_cases hg:∀i,i<vss.length->bF (dP p o cs vss k i)=false
   .refine Pg ?_;have e:=(oL hp h hk vss.length (Ou _));refine List.any_eq_true.2 ⟨_,iq _ k (by rw[e.1];exact hk),?_⟩;rw[e.2,DW hg];by_cases h3:2000<(aR p o (eK p o cs vss k vss.length).flatten).length
    .exact Oy h3
    .rw[(xG hg h3).1] at h2;exact absurd h2 (by decide)
   .refine Pf ?_;obtain⟨i,h3⟩:=Classical.not_forall.1 hg;obtain⟨hi,h4⟩:=Classical.not_imp.1 h3;refine⟨i,hi,k,by omega,?_⟩;rw[hmany i hi k hk];simpa using h4
  refine⟨by rw[h1,hz],?_⟩;rw[hz,OV (by decide),xt (by rw[h1];decide)]
theorem Nw(rb cb lb:Nat)(x:PK)(fss:Lt)(E:Nat->Int)(R:Nat->LT)(w:PJ)(hm:fss.length<=1000)(pf:Vl w x fss)(H:∀i w' fa fc,i<fss.length->Io w w'->Pl w' (.slice fa (fss.getD i []).length fc) (fss.getD i [])->Calls prog 27 #[PO i,.slice fa (fss.getD i []).length fc,PL rb,PL cb,PL lb] w' λe w''=>∃u,e=.returned (.tuple #[u,PO (E i)])/\Pl w'' u (R i)/\Io w' w''):Calls prog 26 #[x,.func (.func 27) #[] #[PL rb,PL cb,PL lb]] w λe w'=>∃u,e=.returned (.tuple #[u,PO (dD E fss.length 0)])/\Vl w' u (ke E R fss.length)/\Io w w':=by
 have HX:=ae pf;have HH:=ae H;obtain⟨ax,cx,rfl,_⟩:=pf;obtain⟨i0,hi,hz0,hz1,hz2⟩:=info_parts Tryz.infoPolyW;clear H;go_enter func26,ntmps26;go_wp2_with (at_make;refine wpList_make_full _ rfl _ _ 32 rfl w.heap.size 40 i0 _ 1 underlying32 hi hz0 hz1 .i64 .i64 _ _ fss.length rfl rfl rfl rfl (by rw[hz2];omega) (by unfold maxLen;omega) (Ou _) ?_;intro w1 hown hgrow;have HV0:=ae (fH.made hown hgrow);clear hown hgrow);clear hi hz0 hz1 hz2;go_loopw [16] (λi wr=>∃(k:Nat)(us:PH),k<=fss.length/\i=PO k/\us.length=k/\(∀j,j<k->E j=0)/\fH w wr w.heap.size fss.length us ((List.range k).map R)) (λi _=>fss.length-(intOf i).toNat);case atStart=>exact⟨0,[],OB _,rfl,rfl,λj hj=>by omega,HV0.o⟩
 case round=>
  clear HV0;obtain⟨k,us,hk,rfl,hul,hz,hv⟩:=hrel;have HZ:=ae hz;have HV:=ae hv;have HUL:=ae hul;clear hz hv hul;by_cases hk2:k<fss.length
  .obtain⟨b,off,fa,fc,rfl,hlt,c0,hpf⟩:=jD HX.o k hk2;have d0:=af c0 HV.o.below;have HC:=ae (HH.o k wr fa fc hk2 HV.o.below (hpf.below HV.o.below));have HHIT:=ae (λh=>sZ (E:=E) hk2 HZ.o h);generalize fss.getD k []=f at c0 d0 hpf HC;clear c0 hpf;cases he:(E k !=0)
   .have HE0:Po (E k=0):=by simpa [Po] using he
    go_wp2_with (go_at_call 27;refine HC.o.mono ?_;rintro e w2 ⟨u,rfl,hu,hb2⟩;have HV2:=ae (HV.o.next hb2);have HU:=ae hu;obtain⟨ua,uc,rfl,_,_⟩:=hu;obtain⟨ov,x0,x1⟩:=HV2.o.cells (by have:=HUL.o;omega);rw[HUL.o] at x0 x1;clear hb2);go_roundw;case rel=>
     refine⟨k+1,us++[.slice ua (R k).length uc],by omega,by go_num,by rw[pB,HUL.o],λj hj=>?_,?_⟩
     .rcases Nat.lt_or_ge j k with h|h
      .exact HZ.o j h
      .rw[show j=k by omega];exact HE0.o
     .rw[ta];have h:=HV2.o.put (by have:=HUL.o;omega) _ _ HU.o;rw[HUL.o] at h;exact h
    case measure=>simp[intOf];omega
   .have HF:Po (dD E fss.length 0=E k):=HHIT.o (by simpa using he);have HNE:Po (E k≠0):=by simpa [Po] using he
    go_wp2_with (go_at_call 27;refine HC.o.mono ?_;rintro e w2 ⟨u,rfl,hu,hb2⟩;have HV2:=ae (HV.o.next hb2);obtain⟨ua,uc,rfl,_,_⟩:=hu;clear hb2);go_ret2;refine⟨.slice none 0 0,by rw[HF.o];rfl,?_,HV2.o.below⟩;rw[xt (by rw[HF.o];exact HNE.o)];exact⟨none,0,rfl,λh=>by simp at h⟩
  .have e:k=fss.length:=by omega
   subst e;have HF:Po (dD E fss.length 0=0):=sY HZ.o;have HD:=ae (HV.o.done HUL.o);go_wp2;go_ret2;refine⟨PM w.heap.size fss.length fss.length,by rw[HF.o];rfl,?_,HV.o.below⟩;rw[xr HF.o];exact HD.o
def rV(f:LT):Bool:=decide (6<f.length)||decide (3<fz (-1) f)
def lF(g:Lt):Bool:=g.any rV
def pK(vss:PA):Int:=if vss.any lF then 2 else 0
def cO(p n o v rank:Int)(vss:PA):Int:=if cR p n o v rank vss≠0 then cR p n o v rank vss else if 3<rank\/4<vss.length then 2 else pK vss
theorem BM(h:cR p n o v rank vss≠0):cO p n o v rank vss=cR p n o v rank vss:=by unfold cO;rw[OW h]
theorem we(h:cR p n o v rank vss=0)(h2:3<rank\/4<vss.length):cO p n o v rank vss=2:=by unfold cO;rw[OV (by simpa using h),OW h2]
theorem wg(h:cR p n o v rank vss=0)(h2:¬(3<rank\/4<vss.length)):cO p n o v rank vss=pK vss:=by unfold cO;rw[OV (by simpa using h),OV h2]
theorem xu(h:cO p n o v rank vss=0):cR p n o v rank vss=0/\rank<=3/\vss.length<=4/\vss.any lF=false:=by
 by_cases h1:cR p n o v rank vss=0
 .by_cases h2:3<rank\/4<vss.length
  .rw[we h1 h2] at h;exact absurd h (by decide)
  .rw[wg h1 h2] at h;unfold pK at h;cases h3:vss.any lF with
   |true=>rw[h3] at h;exact absurd h (by decide)
   |false=>exact⟨h1,by omega,by omega,rfl⟩
 .rw[BM h1] at h;exact absurd h h1
theorem Ny(p n o v:Int)(N R q:Nat)(x y:PK)(cs:Lt)(vss:PA)(w:PJ)(hp:2<=p/\p<=101)(ho:o=1\/o=2)(hN0:0<N)(hN:N<=3)(hA:ic p o N R cs vss)(hm:vss.length<=60)(hq:q<R)(hcur:∀i,i<vss.length->ag p n o v [cs.getD i [],(vss.getD i []).getD q []]=0)(pc:Vl w x cs)(pv:Wl w y vss):Calls prog 28 #[aI p n o v,x,y,PO (q:Int)] w λe w'=>∃u,e=.returned (.tuple #[u,PO (fi p o cs vss vss.length q)])/\Pl w' u (jJ p o cs vss vss.length q)/\Io w w':=by
 have HX:=ae pc;have HY:=ae pv;have HA:=ae hA;have HP:=ae hp;have HO:=ae ho;have HCU:=ae hcur;have HT:=ae (wK p n o v);have HNN:=ae (Ow hN0 hN);obtain⟨ax,cx,rfl,_⟩:=pc;obtain⟨ay,cy,rfl,_⟩:=pv;obtain⟨w1,hw1⟩:∃w1,w1=w.alloc (.cells #[PO p,PO n,PO o,PO v] 23):=⟨_,rfl⟩;have HBX:Po (bO w1 w.heap.size p n o v):=by rw[hw1];exact bO.new w p n o v _
 have HBW:Po (Io w w1):=by rw[hw1];exact aY
 have hs1:Po (w1.heap.size=w.heap.size+1):=by show _=_;rw[hw1];simp
 obtain⟨i0,hi,hz0,hz1,hz2⟩:=info_parts Tryz.infoPolyW;have HI:=ae (Ow hi (Ow hz0 (Ow hz1 hz2)));clear hA hp ho hcur hN0 hN hi hz0 hz1 hz2;go_enter func28,ntmps28;go_wp2_with (at_make;rw[<-hw1];refine wpList_make_full _ rfl _ _ 31 rfl w1.heap.size 40 i0 _ 1 underlying31 HI.o.1 HI.o.2.1 HI.o.2.2.1 .i64 .i64 _ _ vss.length rfl rfl rfl rfl (by rw[HI.o.2.2.2];omega) (by unfold maxLen;omega) (Ou _) ?_;intro w2 hown hgrow;have HV0:=ae (fH.made hown hgrow);clear hown hgrow);clear hw1;go_loopw [21] (λi wr=>∃(k:Nat)(us:PH),k<=vss.length/\i=PO k/\us.length=k/\(∀j,j<k->bF (dP p o cs vss q j)=false)/\fH w1 wr (w.heap.size+1) vss.length us ((List.range k).map (dP p o cs vss q))) (λi _=>vss.length-(intOf i).toNat);case atStart=>have h0:=HV0.o;rw[hs1.o] at h0;exact⟨0,[],OB _,rfl,rfl,λj hj=>by omega,h0⟩
 case round=>
  clear HV0;obtain⟨k,us,hk,rfl,hul,hz,hv⟩:=hrel;have HZ:=ae hz;have HV:=ae hv;have HUL:=ae hul;clear hz hv hul;by_cases hk2:k<vss.length
  .have hk3:k<cs.length:=by rw[HA.o.l];exact hk2
   have hkI:(k:Int)<(cs.length:Int):=by omega
   obtain⟨b,off,fa,fc,rfl,hlt,c0,hpf⟩:=jD HX.o k hk3;obtain⟨b2,off2,va,vc,rfl,hlt2,d0,hpv⟩:=lH HY.o k hk2;have hvl:=(HA.o.v _ (mB vss k hk2)).1;obtain⟨b3,off3,ga,gc,rfl,hlt3,e0,hpg⟩:=jD hpv q (by rw[hvl];exact hq);have d1:=af (af d0 HBW.o) HV.o.below;rw[hvl] at d0 d1;have HCK:=ae (HCU.o k hk2);have HPK:Po (dP p o cs vss q k=aR p o (aH p (cs.getD k []) ((vss.getD k []).getD q []))):=rfl;have HGR:=ae (λh=>DU (p:=p) (o:=o) (cs:=cs) (vss:=vss) (m:=vss.length) (k:=q) (i:=k) hk2 h);have HNX:Po (bF (dP p o cs vss q k)=false->∀j,j<k+1->bF (dP p o cs vss q j)=false):=λh j hj=>by
    by_cases h2:j<k
    .exact HZ.o j h2
    .have e:j=k:=by omega
     subst e;exact h
   have HRS:=ae (ta (dP p o cs vss q) k);generalize dP p o cs vss q k=z at HPK HGR HNX HRS;generalize cs.getD k []=c at c0 hpf HCK HPK;generalize (vss.getD k []).getD q []=f at e0 hpg HCK HPK;obtain⟨_,bx0,bx1,bx2,bx3⟩:=HBX.o;have KEEP:Po (∀W,Io w1 W->(Po (Io w1 W)/\W.cell? (PN w.heap.size 0)=some (PO p)/\W.cell? (PN w.heap.size 1)=some (PO n)/\W.cell? (PN w.heap.size 2)=some (PO o)/\W.cell? (PN w.heap.size 3)=some (PO v)/\W.cell? (PN b (off+k))=some (.slice fa c.length fc)/\W.cell? (PN b3 (off3+q))=some (.slice ga f.length gc))):=
    λW hb=>⟨hb,af bx0 hb,af bx1 hb,af bx2 hb,af bx3 hb,af (af c0 HBW.o) hb,af (af e0 HBW.o) hb⟩
   have HPF:=ae (hpf.below HBW.o);have HPG:=ae (hpg.below HBW.o);have HB0:Po (Io w1 wr.drew):=HV.o.below.drew;have HVD:Po (fH w1 wr.drew (w.heap.size+1) vss.length us ((List.range k).map (dP p o cs vss q))):=HV.o.next ((Ov _ _).drew);clear bx0 bx1 bx2 bx3 c0 d0 e0 hpf hpg hpv hvl;cases hg:bF z
   .have HMU:Po (iU 0 p o c f=0/\kM 0 p o c f=z):=by rw[HPK.o];exact qg rfl (by rw[<-HPK.o];exact hg)
    have HN2:=ae (HNX.o hg);clear hg;go_wp2_with fail;go_region_held (λW=>Po (Io w1 W)/\W.cell? (PN w.heap.size 0)=some (PO p)/\W.cell? (PN w.heap.size 1)=some (PO n)/\W.cell? (PN w.heap.size 2)=some (PO o)/\W.cell? (PN w.heap.size 3)=some (PO v)/\W.cell? (PN b (off+k))=some (.slice fa c.length fc)/\W.cell? (PN b3 (off3+q))=some (.slice ga f.length gc))
     (first|exact KEEP.o _ HB0.o|exact KEEP.o _ HB9.o)
     (first|(go_at_call 58;refine(DR p n o v _ HT.o _ _ c f _ ?_ ?_).mono ?_;exact HPF.o.below HB0.o;exact HPG.o.below HB0.o;rw[HCK.o,HMU.o.1,HMU.o.2];rintro e w9 ⟨u9,rfl,hu9,hb9⟩;have HU9:=ae hu9;have HV9:=ae (HVD.o.next hb9);have HB9:=ae (show Io w1 w9 from In HB0.o hb9);obtain⟨ua9,uc9,rfl,_,_⟩:=hu9;obtain⟨ov,x0,x1⟩:=HV9.o.cells (by have:=HUL.o;omega);rw[HUL.o] at x0 x1;clear hb9))
    go_wp2;go_roundw;case rel=>refine⟨k+1,us++[.slice ua9 z.length uc9],by omega,by go_num,by rw[pB,HUL.o],HN2.o,?_⟩;rw[HRS.o];have h:=HV9.o.put (by have:=HUL.o;omega) _ _ HU9.o;rw[HUL.o] at h;exact h
    case measure=>simp[intOf];omega
   .have HMU:Po (iU 0 p o c f=2/\kM 0 p o c f=[]):=qf rfl (by rw[<-HPK.o];exact hg);have HG2:=ae (HGR.o hg);clear hg;go_wp2_with fail;go_region_held (λW=>Po (Io w1 W)/\W.cell? (PN w.heap.size 0)=some (PO p)/\W.cell? (PN w.heap.size 1)=some (PO n)/\W.cell? (PN w.heap.size 2)=some (PO o)/\W.cell? (PN w.heap.size 3)=some (PO v)/\W.cell? (PN b (off+k))=some (.slice fa c.length fc)/\W.cell? (PN b3 (off3+q))=some (.slice ga f.length gc))
     (first|exact KEEP.o _ HB0.o|exact KEEP.o _ HB9.o)
     (first|(go_at_call 58;refine(DR p n o v _ HT.o _ _ c f _ ?_ ?_).mono ?_;exact HPF.o.below HB0.o;exact HPG.o.below HB0.o;rw[HCK.o,HMU.o.1,HMU.o.2];rintro e w9 ⟨u9,rfl,hu9,hb9⟩;have HB9:=ae (show Io w1 w9 from In HB0.o hb9);obtain⟨ua9,uc9,rfl,_,_⟩:=hu9;clear hb9))
    go_wp2;go_ret2;refine⟨.slice none 0 0,by rw[HG2.o.1];rfl,?_,In HBW.o HB9.o⟩;rw[HG2.o.2];exact Pl.empty _
  .have e:k=vss.length:=by omega
   subst e;have HD:=ae (HV.o.done HUL.o);have HLN:Po ((eK p o cs vss q vss.length).length=vss.length):=by show _=_;unfold eK;rw[OS,List.length_range]
   have HPF:Po (∀f∈(List.range vss.length).map (dP p o cs vss q),ck p o N f/\Bd f/\f.length<=2000):=λf hf=>by obtain⟨i,hi,rfl⟩:=tA hf;have h1:=HA.o.pr HP.o.1 (k:=q) (i:=i) hi hq;exact⟨h1.1,h1.2,No (HZ.o i hi)⟩
   obtain⟨_,bx0,bx1,bx2,bx3⟩:=HBX.o.below HV.o.below;have HBN:=ae (In HBW.o HV.o.below);have HLO:=ae (λh=>DV (p:=p) (o:=o) (cs:=cs) (vss:=vss) (m:=vss.length) (k:=q) h);have HOK:=ae (λh=>xG (p:=p) (o:=o) (cs:=cs) (vss:=vss) (m:=vss.length) (k:=q) HZ.o h);have HSU:Po (∀W,Io wr W->Calls prog 59 #[aI p n o v,PM (w.heap.size+1) vss.length vss.length] W λe w'=>∃u,e=.returned u/\Pl w' u (aR p o (eK p o cs vss q vss.length).flatten)/\Io W w'):=λW hb=>wG p n o v N 2000 _ _ W HP.o HO.o HNN.o.1 HNN.o.2 HPF.o (by rw[HLN.o];omega) (by rw[HLN.o];omega) (HD.o.below hb)
   generalize aR p o (eK p o cs vss q vss.length).flatten=s at HSU HLO HOK;by_cases hl:2000<s.length
   .have HL2:=ae (HLO.o hl);have hlI:(2000:Int)<(s.length:Int):=by omega
    go_wp2_with (go_at_call 59;refine(HSU.o _ (Ov _ _)).mono ?_;rintro e w8 ⟨u8,rfl,hu8,hb8⟩;have HB8:=ae (In HBN.o hb8);obtain⟨ua8,uc8,rfl,_,_⟩:=hu8;clear hb8);go_ret2;refine⟨.slice none 0 0,by rw[HL2.o.1];rfl,?_,HB8.o⟩;rw[HL2.o.2];exact Pl.empty _
   .have HL2:=ae (HOK.o hl);have hlI:¬(2000:Int)<(s.length:Int):=by omega
    go_wp2_with (go_at_call 59;refine(HSU.o _ (Ov _ _)).mono ?_;rintro e w8 ⟨u8,rfl,hu8,hb8⟩;have HU8:=ae hu8;have HB8:=ae (In HBN.o hb8);obtain⟨ua8,uc8,rfl,_,_⟩:=hu8;clear hb8);go_ret2;exact⟨_,by rw[HL2.o.1];rfl,by rw[HL2.o.2];exact HU8.o,HB8.o⟩
theorem Nz(p n o v:Int)(N R q rb cb lb:Nat)(fv:PK)(ax ay:Option Addr)(cx cy:Nat)(cs:Lt)(vss:PA)(w:PJ)(hp:2<=p/\p<=101)(ho:o=1\/o=2)(hN0:0<N)(hN:N<=3)(hA:ic p o N R cs vss)(hm:vss.length<=60)(hq:q<R)(hcur:∀i,i<vss.length->ag p n o v [cs.getD i [],(vss.getD i []).getD q []]=0)(bx:bO w rb p n o v)(hc:w.cell? (PN cb 0)=some (.slice ax cs.length cx))(hl:w.cell? (PN lb 0)=some (.slice ay vss.length cy))(pc:Vl w (.slice ax cs.length cx) cs)(pv:Wl w (.slice ay vss.length cy) vss):Calls prog 27 #[PO q,fv,PL rb,PL cb,PL lb] w λe w'=>∃u,e=.returned (.tuple #[u,PO (fi p o cs vss vss.length q)])/\Pl w' u (jJ p o cs vss vss.length q)/\Io w w':=by have HC:=ae (Ny p n o v N R q _ _ cs vss w hp ho hN0 hN hA hm hq hcur pc pv);obtain⟨_,bx0,bx1,bx2,bx3⟩:=bx;clear hp ho hA hcur pc pv;go_enter func27,ntmps27;go_wp2_with (go_at_call 28;refine HC.o.mono ?_;rintro e w9 ⟨u9,rfl,hu9,hb9⟩;have HU9:=ae hu9;have HB9:=ae hb9;obtain⟨ua9,uc9,rfl,_,_⟩:=hu9;clear hb9);go_ret2;exact⟨_,rfl,HU9.o,HB9.o⟩
def jX(p n o v rank:Int)(cs:Lt)(vss:PA):Lt:=if eY p n o v rank cs vss=0 then cr p o rank.toNat cs vss vss.length else []
theorem xH(h:eY p n o v rank cs vss≠0):jX p n o v rank cs vss=[]:=by unfold jX;rw[OV h]
theorem NA{A B C:Obj}:Io w (((w.alloc A).alloc B).alloc C):=(((Ov _ _).alloc (Ou _) _).alloc (by simp) _).alloc (by simp;omega) _
theorem AX(p n o v rank:Int)(x y:PK)(cs:Lt)(vss:PA)(w:PJ)(pc:Vl w x cs)(pv:Wl w y vss):Calls prog 10 #[aI p n o v,PO rank,x,y] w λe w'=>∃u,e=.returned (.tuple #[u,PO (eY p n o v rank cs vss)])/\Vl w' u (jX p n o v rank cs vss)/\Io w w':=by
 have HX:=ae pc;have HY:=ae pv;obtain⟨ax,cx,rfl,_⟩:=pc;obtain⟨ay,cy,rfl,_⟩:=pv;obtain⟨w2,hw2⟩:∃w2,w2=((w.alloc (.cells #[PO p,PO n,PO o,PO v] 23)).alloc (.cells #[.slice ax cs.length cx] 31)).alloc (.cells #[.slice ay vss.length cy] 24):=⟨_,rfl⟩;have hb2:Io w w2:=by rw[hw2];exact NA
 have hbx:bO w2 w.heap.size p n o v:=by rw[hw2];exact(bO.new w p n o v _).below cY
 have hcf:w2.cell? (PN (w.heap.size+1) 0)=some (.slice ax cs.length cx):=by rw[hw2];simp[go_sem]
 have hlf:w2.cell? (PN (w.heap.size+2) 0)=some (.slice ay vss.length cy):=by rw[hw2];simp[go_sem]
 have HB2:=ae hb2;have HBX:=ae hbx;have HCF:=ae hcf;have HLF:=ae hlf;have HYW:=ae (HY.o.below hb2);have HXW:=ae (HX.o.below hb2);clear hb2 hbx hcf hlf;by_cases hz:cR p n o v rank vss=0
 rotate_left
 .have he:eY p n o v rank cs vss=cR p n o v rank vss:=by unfold eY;rw[OW hz]
  have HR:=ae (xH (p:=p) (n:=n) (o:=o) (v:=v) (rank:=rank) (cs:=cs) (vss:=vss) (by rw[he];exact hz));rw[HR.o,he];clear he;obtain⟨_,bx0,bx1,bx2,bx3⟩:=HBX.o;have hcf:=HCF.o;have hlf:=HLF.o;have hzB:(cR p n o v rank vss !=0)=true:=by simpa using hz
  clear hz;go_enter func10,ntmps10;go_wp2_with fail;try rw[<-hw2]
  refine(oo p n o v rank _ vss _ HYW.o).mono ?_;rintro e w3 ⟨rfl,hb3⟩;have HB3:=ae (In HB2.o hb3);clear hb3;go_wp2;go_ret2;exact⟨_,rfl,Vl.empty _,HB3.o⟩
 obtain⟨hR,hrk,hv60,hvs⟩:=v8 hz;have HZ:=ae hz;have HRR:=ae hR;clear hz;obtain⟨_,bx0,bx1,bx2,bx3⟩:=HBX.o;have hcf:=HCF.o;have hlf:=HLF.o;by_cases hl:cs.length=vss.length
 rotate_left
 .have he:eY p n o v rank cs vss=1:=by unfold eY;rw[OV (by rw[HZ.o];simp),OW hl]
  have HR:=ae (xH (p:=p) (n:=n) (o:=o) (v:=v) (rank:=rank) (cs:=cs) (vss:=vss) (by rw[he];decide));rw[HR.o,he];clear he hR hvs;have hlI:¬((cs.length:Int)=(vss.length:Int)):=λh=>hl (Int.ofNat.inj h);go_enter func10,ntmps10;go_wp2_with fail;try rw[<-hw2]
  refine(oo p n o v rank _ vss _ HYW.o).mono ?_;rw[HZ.o];rintro e w3 ⟨rfl,hb3⟩;have HB3:=ae (In HB2.o hb3);have g1:=af hcf hb3;have g2:=af hlf hb3;clear hb3 bx0 bx1 bx2 bx3 hcf hlf hw2;go_wp2;go_ret2;exact⟨_,rfl,Vl.empty _,HB3.o⟩
 have HPE:Po (i7 p n o v cs=dC p n o cs):=by show _=_;unfold i7;rw[OW hR]
 have HL:=ae hl;have HM:Po (cs.length<=1200000000000):=by show _<=_;omega
 by_cases hpz:i7 p n o v cs=0
 rotate_left
 .have he:eY p n o v rank cs vss=dC p n o cs:=by unfold eY;rw[OV (by rw[HZ.o];simp),OV (by rw[hl];simp),OW hpz,HPE.o]
  have HR:=ae (xH (p:=p) (n:=n) (o:=o) (v:=v) (rank:=rank) (cs:=cs) (vss:=vss) (by rw[he,<-HPE.o];exact hpz));rw[HR.o,he];have hzB:(dC p n o cs !=0)=true:=by rw[<-HPE.o];simpa using hpz
  clear he hR hvs hpz;rw[HL.o] at hcf;have HXV:Po (Vl w2 (.slice ax vss.length cx) cs):=by rw[<-HL.o];exact HXW.o
  have hw3:=hw2;rw[HL.o] at hw3;rw[HL.o];clear hl hw2;go_enter func10,ntmps10;go_wp2_with fail;try rw[<-hw3]
  refine(oo p n o v rank _ vss _ HYW.o).mono ?_;rw[HZ.o];rintro e w3 ⟨rfl,hb3⟩;have HB3:=ae (In HB2.o hb3);have HX3:=ae (HXV.o.below hb3);have g1:=af hcf hb3;have g2:=af hlf hb3;have h0:=af bx0 hb3;have h1:=af bx1 hb3;have h2:=af bx2 hb3;have h3:=af bx3 hb3;clear hb3 bx0 bx1 bx2 bx3 hcf hlf hw3;go_wp2_with (go_at_call 25;refine(pP p n o v _ cs _ HRR.o HM.o HX3.o).mono ?_;rintro e w4 ⟨rfl,hb4⟩;have HB4:=ae (In HB3.o hb4);clear hb4);go_ret2;exact⟨_,rfl,Vl.empty _,HB4.o⟩
 obtain⟨R,rfl⟩:∃R:Nat,rank=(R:Int):=⟨rank.toNat,by omega⟩;have HPZ:=ae hpz;obtain⟨hpr,hn1,hn2,ho,_⟩:=lX hR;have HP:=ae (dY hpr);have hcs:=(Cp hpz).2;have HA:Po (ic p o n.toNat R cs vss):=⟨λc hc=>(oJ hR (hcs c hc)).1,λu hu=>⟨by have:=(hvs u hu).1;omega,λf hf=>(oJ hR ((hvs u hu).2 f hf)).1⟩,hl⟩;have HCU:Po (∀q,q<R->∀i,i<vss.length->ag p n o v [cs.getD i [],(vss.getD i []).getD q []]=0):=λq hq i hi=>Cj hR (λf hf=>by
  have hu:=hvs _ (mB vss i hi);simp only[OY,List.not_mem_nil,or_false] at hf;rcases hf with rfl|rfl
  .exact hcs _ (iq cs i (by rw[hl];exact hi))
  .exact hu.2 _ (iq _ q (by omega)))
 have HALL:=ae (Nv (n:=n) (v:=v) hpr HP.o.1 HA.o HZ.o hpz);have HCR:Po (jX p n o v (R:Int) cs vss=ke (fi p o cs vss vss.length) (jJ p o cs vss vss.length) R):=by show _=_;unfold jX;rw[HALL.o.2,Int.toNat_natCast]
 rw[HCR.o,<-HALL.o.1];have hR40:R<=40:=by omega
 have HLR:Po ((List.replicate R ([]:LT)).length=R):=by show _=_;rw[List.length_replicate]
 have HEA:=ae (fun(W:PJ)(u:PK)(hb:Io w2 W) (hu:Vl W u (List.replicate R []))=>Nw w.heap.size (w.heap.size+1) (w.heap.size+2) u (List.replicate R []) (fi p o cs vss vss.length) (jJ p o cs vss vss.length) W (by rw[HLR.o];omega) hu (λi w' fa fc hi hb' hpf=>by
  have hb2:=In hb hb';exact Nz p n o v n.toNat R i w.heap.size (w.heap.size+1) (w.heap.size+2) _ ax ay cx cy cs vss w' HP.o ho (by omega) (by omega) HA.o hv60 (by rw[HLR.o] at hi;exact hi) (HCU.o i (by rw[HLR.o] at hi;exact hi)) (HBX.o.below hb2) (af HCF.o hb2) (af HLF.o hb2) (HXW.o.below hb2) (HYW.o.below hb2)))
 rw[HLR.o] at HEA;obtain⟨i0,hi,hz0,hz1,hz2⟩:=info_parts Tryz.infoPolyW;have HI:=ae (Ow hi (Ow hz0 (Ow hz1 hz2)));have HF0:Po (dC p n o cs=0):=by show _=_;rw[<-HPE.o];exact HPZ.o
 rw[HL.o] at hcf;have HXV:Po (Vl w2 (.slice ax vss.length cx) cs):=by rw[<-HL.o];exact HXW.o
 have hw3:=hw2;rw[HL.o] at hw3;rw[HL.o];clear hR hrk hvs hl hpz hpr hn1 hn2 ho hcs hi hz0 hz1 hz2 hw2;go_enter func10,ntmps10;go_wp2_with fail;try rw[<-hw3]
 refine(oo p n o v (R:Int) _ vss _ HYW.o).mono ?_;rw[HZ.o];rintro e w3 ⟨rfl,hb3⟩;have HB3:=ae hb3;have HX3:=ae (HXV.o.below hb3);have g1:=af hcf hb3;have g2:=af hlf hb3;have h0:=af bx0 hb3;have h1:=af bx1 hb3;have h2:=af bx2 hb3;have h3:=af bx3 hb3;clear hb3 bx0 bx1 bx2 bx3 hcf hlf hw3;go_wp2_with (first|(go_at_call 25;refine(pP p n o v _ cs _ HRR.o HM.o HX3.o).mono ?_;rw[HF0.o];rintro e w4 ⟨rfl,hb4⟩;have HB4:=ae (show Io w2 w4 from In HB3.o hb4);clear hb4 g1 g2 h0 h1 h2 h3)|(at_make;refine wpList_make_full _ rfl _ _ 32 rfl w4.heap.size 40 i0 _ 1 underlying32 HI.o.1 HI.o.2.1 HI.o.2.2.1 .i64 .i64 _ _ R rfl rfl rfl rfl (by rw[HI.o.2.2.2];omega) (by unfold maxLen;omega) (Ou _) ?_;intro w5 hown hgrow;have HV5:=ae (Nm hown);have HB5:Po (Io w2 w5):=In HB4.o (⟨hgrow.os,hgrow.tape,hgrow.output,hgrow.size,λk hk=>hgrow.block k hk (by simp)⟩:Io w4 w5);clear hown hgrow)|(go_at_call 26;refine(HEA.o _ _ HB5.o HV5.o).mono ?_;rintro e w6 ⟨u6,rfl,hu6,hb6⟩;have HU6:=ae hu6;have HB6:=ae (In HB2.o (In HB5.o hb6));obtain⟨ua6,uc6,rfl,_⟩:=hu6;clear hb6));go_ret2;exact⟨_,rfl,HU6.o,HB6.o⟩
end Go.Proofs.YtjkalahhpobefaaGreat
