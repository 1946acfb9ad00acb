/- A making is finished, up to a degree. -/
import Derived.Test.YteimdcndjjclnaaGreatGE
import Derived.Test.YteimdcndjjclnaaGreatGC
import Derived.Test.YteimdcndjjclnaaGreatHB
import Derived.Lib.AppendZeros
set_option maxHeartbeats 4000000
set_option maxRecDepth 100000
namespace Go.Proofs.YteimdcndjjclnaaGreat
set_option linter.all false
open Go.Proofs.Tryz Go.RowKit
def pW:Option Value->Nat
 |some (.slice _ n _)=>n
 |_=>0
def om(w:World)(g:Nat):Nat->Nat
 |0=>0
 |k+1=>om w g k+pW (w.cell? ⟨g,k,none⟩)
def lG(mb R:Nat)(w:World):Nat:=
 match w.cell? ⟨mb,2,none⟩ with
 |some (.slice (some a) _ _)=>(1300000-om w a.block R)*500000+pW (w.cell? ⟨mb,3,none⟩)
 |_=>0
theorem xR:∀(R:Nat)(l:List Mm),(∀x∈l,0<=x.L.pl/\x.L.pl<R)->∀(f:Nat->Nat),(∀pl:Nat,pl<R->f pl=(aS l pl).length)->∀(s:Nat->Nat),s 0=0->(∀k,s (k+1)=s k+f k)->s R=l.length
 |0,l,h,f,hf,s,s0,hs=>by
  cases l with
  |nil=>simpa using s0
  |cons x l=>have:=h x (by simp);omega
 |R+1,l,h,f,hf,s,s0,hs=>by
  obtain⟨l2,hl2⟩:∃l2,l2=l.filter λx=>!decide (x.L.pl=(R:Int)):=⟨_,rfl⟩;have e2:∀pl:Nat,pl<R->aS l2 pl=aS l pl:=λpl hp=>by
   rw[hl2];unfold aS;rw[List.filter_filter];apply List.filter_congr;intro x _;by_cases hx:x.L.pl=(pl:Int)
   .rw[hx];simp;omega
   .simp[hx]
  have h1:=xR R l2 (λx hx=>by
   rw[hl2] at hx;obtain⟨a,b⟩:=LR.1 hx;have:=h x a;simp only[Bool.not_eq_true',decide_eq_false_iff_not] at b;omega) f (λpl hp=>by rw[e2 pl hp];exact hf pl (by omega)) s s0 hs
  have h3:l.length=(aS l R).length+l2.length:=by rw[hl2];unfold aS;rw[<-List.countP_eq_length_filter,<-List.countP_eq_length_filter];have:=List.length_eq_countP_add_countP (λx:Mm=>decide (x.L.pl=(R:Int))) (l:=l);simpa using this
  rw[hs R,hf R (by omega),h1];omega
theorem sS{p:Int}{B:Nat}{w:World}{mb ob R g:Nat}{dv pv:Value}{us:List Value}{ms:List Mm}{qs:List Pq}(h:bj p B w mb ob R g dv pv us ms qs)(hl:∀x∈ms,0<=x.L.pl/\x.L.pl<R):lG mb R w=(1300000-ms.length)*500000+qs.length:=by
 obtain⟨_,_,c2,c3,_⟩:=h.cells;obtain⟨pa,pc,hpv⟩:=h.prs.sl;have hs:om w g R=ms.length:=xR R ms hl (λk=>pW (w.cell? ⟨g,k,none⟩)) (λpl hp=>by
  show pW (w.cell? ⟨g,pl,none⟩)=_;rw[(h.mks.at pl hp).1];obtain⟨ra,rc,hr⟩:=cw (h.mks.row pl hp);rw[hr];rfl) (om w g) rfl λk=>rfl
 unfold lG;rw[c2,c3,hpv];show (1300000-om w g R)*500000+qs.length=_;rw[hs]
structure iG(p:Int)(dg:Nat->Int)(N R:Nat)(w0 W:World)(mb ob g:Nat)(dv:Value)(vs:List (List Ft))(ms:List Mm)(qs:List Pq)(E:Nat->Nat->Prop)(T:Int):Prop where
 mkw:∃pv us,bj p w0.heap.size W mb ob R g dv pv us ms qs
 cp:Cp p dg N R vs ms qs E T
 good:dF p dg R ms E
 below:Below w0.heap.size w0 W
theorem iG.next{p:Int}{dg:Nat->Int}{N R:Nat}{w0 W W':World}{mb ob g:Nat}{dv:Value}{vs:List (List Ft)}{ms:List Mm}{qs:List Pq}{E:Nat->Nat->Prop}{T:Int}(h:iG p dg N R w0 W mb ob g dv vs ms qs E T)(hb:Below W.heap.size W W'):iG p dg N R w0 W' mb ob g dv vs ms qs E T:=by obtain⟨pv,us,hm⟩:=h.mkw;exact⟨⟨pv,us,hm.next hb⟩,h.cp,h.good,h.below.trans (hb.mono h.below.size)⟩
theorem Cp.pls{p:Int}{dg:Nat->Int}{N R:Nat}{vs:List (List Ft)}{ms:List Mm}{qs:List Pq}{E:Nat->Nat->Prop}{T:Int}(h:Cp p dg N R vs ms qs E T):∀x∈ms,0<=x.L.pl/\x.L.pl<R:=λx hx=>by obtain⟨D,_,_,h3⟩:=h.mb x hx;exact⟨(h3.gd x.L (by simp)).pl0,(h3.gd x.L (by simp)).pl⟩
theorem xS{p:Int}{dg:Nat->Int}{N R:Nat}(hx:aP p dg N R)(w0 W:World)(mb ob g:Nat)(dv pv sv vv:Value)(us:List Value)(vs:List (List Ft))(ms:List Mm)(qs:List Pq)(E:Nat->Nat->Prop)(T D:Int)(t:Ft)(ts:List Ft)(hm:bj p w0.heap.size W mb ob R g dv pv us ms qs)(hcp:Cp p dg N R vs ms qs E T)(hb:Below w0.heap.size w0 W)(hob:bk w0 ob p (az 1 N N 0) (az 1 N N 1) (az 1 N N 2) sv)(hdg:gR w0 dv R dg)(hD:D<=16000)(hv:cP p dg N R D (t::ts))(hfv:Fv W vv (t::ts)):Calls prog 84 #[.pointer (some ⟨mb,0,none⟩),vv] W λe w'=>e=.returned (.tuple #[])/\∃pv' us' f srt,f.L=dz p (aN p t.c) t/\f.r=ts.map (dz p (aN p t.c))/\f.gone=false/\(∀x∈ms,x.blk≠f.blk)/\srt.Perm ((gQ ms f.L.pl.toNat).map λx=>cW (az 1 N N 0) (az 1 N N 1) (az 1 N N 2) dg x f)/\bj p w0.heap.size w' mb ob R g dv pv' us' (ms.map (bo f.L)++[f]) (qs.filter (λq=>!eC ms f.L q)++bh [] srt)/\Below w0.heap.size W w'/\ba W w':=by
 have hl:=hcp.len hx;have gt:=hv.gd t (by simp);have hR:=hx.r;refine(DT p (az 1 N N 0) (az 1 N N 1) (az 1 N N 2) w0 W mb ob R g dv pv sv vv us ms qs t ts dg hb hm hob hdg hx.pr (λpl hpl=>by have:=hx.dg pl hpl;omega) (by omega) (iH 1 N 0) (iH 1 N 1) (iH 1 N 2) (λx hxm=>by
   obtain⟨D2,_,h2,h3⟩:=hcp.mb x hxm;have c:=h3.co x.L (by simp);have f:=(h3.gd x.L (by simp)).fok hx (by omega) (p:=p) (by omega);exact⟨f.k,f.a,f.b,f.d,f.z⟩) (hv.co t (by simp)) (λu hu=>(hv.gd u hu).fok hx hD (by have:=hv.co u hu;omega)) (mG hx hD _ hv.dn hv.gd) hfv ⟨gt.pl0,gt.pl⟩ (by omega) hl.2.2 (λq hq=>by obtain⟨x,y,a1,a2,a3,a4,_⟩:=hcp.pr q hq;exact⟨x,y,a1,a2,a3,a4⟩)).mono ?_
 rintro e w' ⟨rfl,pv',us',f,srt,f1,f2,f3,f4,f5,f6,f7,f8⟩;refine⟨rfl,pv',us',f,srt,f1,f2,f3,f4,?_,f6,f7,f8⟩;have e:f.L.pl=t.pl:=by rw[f1];rfl
 rw[e];exact f5
theorem DU{p:Int}{dg:Nat->Int}{N R:Nat}(hx:aP p dg N R){vs:List (List Ft)}{ms:List Mm}{qs qs2:List Pq}{E:Nat->Nat->Prop}{T:Int}(hcp:Cp p dg N R vs ms qs E T)(i j:Nat)(hi:i<ms.length)(hj:j<ms.length)(q:Pq)(e1:q.b1=ms[i].blk)(e2:q.b2=ms[j].blk)(hpg:dM ms[i].L ms[j].L q)(B:Nat)(W:World)(mb ob g:Nat)(dv pv sv:Value)(us:List Value)(hm:bj p B W mb ob R g dv pv us ms qs2)(hob:bk W ob p (az 1 N N 0) (az 1 N N 1) (az 1 N N 2) sv):Calls prog 88 #[.pointer (some ⟨mb,0,none⟩),d8 q] W λe w'=>∃wn rv us rows,e=.returned (.pointer (some ⟨wn.heap.size,0,none⟩))/\Below W.heap.size W wn/\Below wn.heap.size wn w'/\fV p (λu=>aM dg N R (q.a+q.b+q.d+dg ms[i].L.pl.toNat) u/\u.k<(gI dg N q ms[i].L.pl).k) wn.heap.size w' wn.heap.size ob rv us rows (λk=>ao k (ms[i].r.map (bu p (bA 1 (aE N (bi q ms[i].L 1))) (bi q ms[i].L 1)))+ao k (ms[j].r.map (bu p (bA 1 (aE N (bi q ms[j].L (p-1)))) (bi q ms[j].L (p-1))))):=by
 have hp:=fq hx.pr;have xm:=Lo hi;have ym:=Lo hj;obtain⟨D1,_,d1,m1⟩:=hcp.mb _ xm;obtain⟨D2,_,d2,m2⟩:=hcp.mb _ ym;have gx:=m1.gd ms[i].L (by simp);have gy:=m2.gd ms[j].L (by simp);obtain⟨bx,by_,bD⟩:=hpg.btbG hx gx gy d1 d2;obtain⟨f1,_⟩:=hpg.byxG hx (c:=1) gx gy d1 d2;obtain⟨_,f2⟩:=hpg.byxG hx (c:=p-1) gx gy d1 d2;have gP:=hpg.gdG gx gy;have hpl:=gx.pl;have hpl0:=gx.pl0;have hdg:=hx.dg ms[i].L.pl.toNat (by omega);have hD:q.a+q.b+q.d+dg ms[i].L.pl.toNat<=16000:=by omega
 have hdc:=sT hx (hcp.msk hx) (by have:=(hcp.len hx).2.1;omega) hD;have s1:=mH hx (more:=bA 1 (aE N (bi q ms[i].L 1))) (c:=1) gP m1 f1 (by omega) rfl;have s2:=mH hx (more:=bA 1 (aE N (bi q ms[j].L (p-1)))) (c:=p-1) gP m2 f2 (by omega) rfl;have hmm:=hm.mrw;exact DV p (az 1 N N 0) (az 1 N N 1) (az 1 N N 2) mb ob sv _ ms[i] ms[j] q W hm.cells.1 hob hp (iH 1 N 0) (iH 1 N 1) (iH 1 N 2) (hmm.mem _ xm) (hmm.mem _ ym) e1 e2 bx by_ (hdc.fok _ xm) (hdc.fok _ ym) (by have:=hdc.rln _ xm;omega) (by have:=hdc.rln _ ym;omega) _ _ (by rw[pX hx.n0 hx.n3]) (by rw[pX hx.n0 hx.n3]) s1 s2 (λx t ha hg=>⟨aM.alk x t ha hg.1,by rw[ha.1];exact hg.2⟩) (λr hd hg=>mG hx hD r hd λt ht=>(hg t ht).1)
theorem DW{p:Int}{dg:Nat->Int}{N R:Nat}(hx:aP p dg N R){vs:List (List Ft)}{ms:List Mm}{qs qs2:List Pq}{E:Nat->Nat->Prop}{T:Int}(hcp:Cp p dg N R vs ms qs E T)(i j:Nat)(hi:i<ms.length)(hj:j<ms.length)(q:Pq)(hpg:dM ms[i].L ms[j].L q)(B:Nat)(W wn w9:World)(mb ob g:Nat)(dv pv sv rv:Value)(us us9:List Value)(rows:List (List Ft))(hm:bj p B W mb ob R g dv pv us ms qs2)(hob:bk W ob p (az 1 N N 0) (az 1 N N 1) (az 1 N N 2) sv)(h1:Below W.heap.size W wn)(h2:Below wn.heap.size wn w9)(h3:fV p (λu=>aM dg N R (q.a+q.b+q.d+dg ms[i].L.pl.toNat) u/\u.k<(gI dg N q ms[i].L.pl).k) wn.heap.size w9 wn.heap.size ob rv us9 rows (λk=>ao k (ms[i].r.map (bu p (bA 1 (aE N (bi q ms[i].L 1))) (bi q ms[i].L 1)))+ao k (ms[j].r.map (bu p (bA 1 (aE N (bi q ms[j].L (p-1)))) (bi q ms[j].L (p-1)))))):Calls prog 82 #[.pointer (some ⟨mb,0,none⟩),.pointer (some ⟨wn.heap.size,0,none⟩)] w9 λe w'=>Below W.heap.size W w'/\∃u acc,e=.returned u/\(∃a c,u=.slice a acc.length c)/\Fv w' u acc/\PL (au p dg R (fm ms)) N (q.a+q.b+q.d+dg ms[i].L.pl.toNat) (λs=>(Gb.aD (dR dg R)).lt s (ag R (gI dg N q ms[i].L.pl))) (λφ=>Gb.Hm (au p dg R (fm ms)) i (bP (bi q ms[i].L 1)) φ-Gb.Hm (au p dg R (fm ms)) j (bP (bi q ms[j].L (p-1))) φ) (gI dg N q ms[i].L.pl).k ms acc:=by
 have hp:=fq hx.pr;have xm:=Lo hi;have ym:=Lo hj;obtain⟨D1,_,d1,m1⟩:=hcp.mb _ xm;obtain⟨D2,_,d2,m2⟩:=hcp.mb _ ym;have gx:=m1.gd ms[i].L (by simp);have gy:=m2.gd ms[j].L (by simp);obtain⟨bx,by_,bD⟩:=hpg.btbG hx gx gy d1 d2;obtain⟨f1,_⟩:=hpg.byxG hx (c:=1) gx gy d1 d2;obtain⟨_,f2⟩:=hpg.byxG hx (c:=p-1) gx gy d1 d2;have gP:=hpg.gdG gx gy;have hpl:=gx.pl;have hpl0:=gx.pl0;have hdg:=hx.dg ms[i].L.pl.toNat (by omega);have hD:q.a+q.b+q.d+dg ms[i].L.pl.toNat<=16000:=by omega
 have hdc:=sT hx (hcp.msk hx) (by have:=(hcp.len hx).2.1;omega) hD;have s1:=mH hx (more:=bA 1 (aE N (bi q ms[i].L 1))) (c:=1) gP m1 f1 (by omega) rfl;have s2:=mH hx (more:=bA 1 (aE N (bi q ms[j].L (p-1)))) (c:=p-1) gP m2 f2 (by omega) rfl;have k1:=sJ hx (by omega) (mz hi) m1;have k2:=sJ hx (by omega) (mz hj) m2;have hPk:=gP.kb hx hD;generalize hDD:q.a+q.b+q.d+dg ms[i].L.pl.toNat=D at*;generalize hPP:gI dg N q ms[i].L.pl=P at*;have hst:=DX hx hD (c:=p-1) gP k1 k2 f1 f2 ⟨1,by omega⟩ h3.ok s1 s2 h3.cn;have hr:aO p (aM dg N R D) rows:=⟨h3.ok.dn,h3.ok.co,λr hr t ht=>(h3.ok.gd r hr t ht).1⟩;have hA:∀t,aM dg N R D t->t.k<P.k->(Gb.aD (dR dg R)).lt (ag R t) (ag R P):=λt gt hk=>mw hx hD gt gP hk;refine(xT p (az 1 N N 0) (az 1 N N 1) (az 1 N N 2) R (aM dg N R D) ms _ _ wn.heap.size wn ob mb wn.heap.size sv rv us9 rows w9 hdc (xU hx (hcp.msk hx) hD hA) (λt rows acc h=>xW hx hD h.1) (hm.mrw.below h1) (hob.below h1) rfl h2 h2.size h3.sum hr h3.len ⟨hst,λt ht=>by simp at ht⟩ (λf hf u hu=>?_) (.slice none 0 0) [] (oo none 0) (λs hs=>by simp at hs)).mono ?_
 .have:=(h3.ok.gd f hf u hu).2;omega
 .rintro e w' ⟨hb9,u,acc,rfl,ho,_,_,rows1,rows2,hJ,_,hn⟩;have hnx:=(sU hx hD hJ.1 hn).2 rfl;exact⟨h1.trans (hb9.mono h1.size),u,acc,rfl,cw ho,pY ho,⟨hJ.1.av,hJ.2,λt ht=>(hJ.1.ak t ht).2.2,hnx⟩⟩
theorem DY{p:Int}{dg:Nat->Int}{N R:Nat}(hx:aP p dg N R){vs:List (List Ft)}{ms:List Mm}{qs qs2 srt:List Pq}{E:Nat->Nat->Prop}{T:Int}(h:Cp p dg N R vs ms qs E T){F:Mm->Pq}{n:Nat}{Z:Pq->Bool}(hs:srt.Perm ((gQ ms n).map F)):(qs2.filter Z++bh [] srt).length<=qs2.length+407253:=by
 have h2:(bh [] srt).length<=srt.length:=by
  have:∀(xs kept:List Pq),(bh kept xs).length<=kept.length+xs.length:=by
   intro xs;induction xs with
   |nil=>intro kept;simp[bh]
   |cons x xs ih=>
    intro kept;unfold bh;split
    .have:=ih kept;simp only[LN];omega
    .have:=ih (kept++[x]);simp only[Lx,LN,List.length_nil] at this⊢;omega
  have:=this srt [];simpa using this
 have h3:=hs.length_eq;rw[LD] at h3;have h4:(gQ ms n).length<=(aS ms n).length:=LX _ _;have h5:=(h.len hx).1 n;have h6:=LX Z qs2;simp only[Lx];omega
theorem DZ{p:Int}{dg:Nat->Int}{N R:Nat}(hx:aP p dg N R){vs:List (List Ft)}{ms:List Mm}{qs:List Pq}{E:Nat->Nat->Prop}{T:Int}(hcp:Cp p dg N R vs ms qs E T){i j:Nat}(hi:i<ms.length)(hj:j<ms.length){q:Pq}(hpg:dM ms[i].L ms[j].L q)(c c2:Int):Gb.aA (bP (bi q ms[i].L c)) (bZ R ms i)=ag R (gI dg N q ms[i].L.pl)/\Gb.aA (bP (bi q ms[j].L c2)) (bZ R ms j)=ag R (gI dg N q ms[i].L.pl)/\ag R (gI dg N q ms[i].L.pl)=Gb.aW.lc (bZ R ms i) (bZ R ms j)/\aM dg N R (q.a+q.b+q.d+dg ms[i].L.pl.toNat) (gI dg N q ms[i].L.pl)/\q.a+q.b+q.d+dg ms[i].L.pl.toNat<=16000:=by
 obtain⟨D1,_,d1,m1⟩:=hcp.mb _ (Lo hi);obtain⟨D2,_,d2,m2⟩:=hcp.mb _ (Lo hj);have gx:=m1.gd ms[i].L (by simp);have gy:=m2.gd ms[j].L (by simp);obtain⟨_,_,bD⟩:=hpg.btbG hx gx gy d1 d2;have hpl:=gx.pl;have hpl0:=gx.pl0;have hdg:=hx.dg ms[i].L.pl.toNat (by omega);refine⟨?_,?_,?_,hpg.gdG gx gy,by omega⟩
 .rw[ce hi];exact(hpg.byxG hx (c:=c) gx gy d1 d2).1.teG gx
 .rw[ce hj];exact(hpg.byxG hx (c:=c2) gx gy d1 d2).2.teG gy
 .rw[ce hi,ce hj];exact DF hpg gx.ldb gy.ldb
structure xX(p:Int)(B:Nat)(w w':World)(mb ob R g:Nat)(dv:Value)(us:List Value)(ms:List Mm)(qs:List Pq)(d:Int)(a0 a1:Option Addr)(x2 x3 x4 x5 x6 x7:Int)(b:Bool):Prop where
 no:b=false->Below w.heap.size w w'/\∀q∈qs,d<q.dg
 yes:b=true->∃(k:Nat)(hk:k<qs.length),(a0=some ⟨qs[k].b1,0,none⟩/\a1=some ⟨qs[k].b2,0,none⟩/\x2=qs[k].a/\x3=qs[k].b/\x4=qs[k].d/\x5=qs[k].z/\x6=qs[k].dg/\x7=qs[k].k)/\qs[k].dg<=d/\(∀q∈qs,qs[k].dg<=q.dg)/\∃pv',bj p B w' mb ob R g dv pv' us ms (qs.take k++qs.drop (k+1))/\Below B w w'/\ba w w'
theorem D3(p:Int)(B:Nat)(w:World)(mb ob R g:Nat)(dv pv:Value)(us:List Value)(ms:List Mm)(qs:List Pq)(d:Int)(hm:bj p B w mb ob R g dv pv us ms qs)(hB:B<=w.heap.size)(hn:qs.length<=500000000000):Calls prog 87 #[.pointer (some ⟨mb,0,none⟩),.int .i64 d] w λe w'=>∃a0 a1 x2 x3 x4 x5 x6 x7 b,e=.returned (.tuple #[.agg #[.pointer a0,.pointer a1,.int .u16 x2,.int .u16 x3,.int .u16 x4,.int .u16 x5,.int .i64 x6,.int .i64 x7],.bool b])/\xX p B w w' mb ob R g dv us ms qs d a0 a1 x2 x3 x4 x5 x6 x7 b:=by
 refine(DQ p B w mb ob R g dv pv us ms qs d hm hB hn).mono ?_;rintro e w' (⟨rfl,h1,h2⟩|⟨k,hk,rfl,h1,h2,h3⟩)
 .exact⟨_,_,_,_,_,_,_,_,false,rfl,⟨λ_=>⟨h1,h2⟩,λh=>by simp at h⟩⟩
 .exact⟨_,_,_,_,_,_,_,_,true,rfl,⟨λh=>by simp at h,λ_=>⟨k,hk,⟨rfl,rfl,rfl,rfl,rfl,rfl,rfl,rfl⟩,h1,h2,h3⟩⟩⟩
theorem xY{p:Int}{dg:Nat->Int}{N R:Nat}(hx:aP p dg N R)(w0 w:World)(mb ob g:Nat)(dv sv:Value)(vs:List (List Ft))(ms:List Mm)(qs:List Pq)(E:Nat->Nat->Prop)(T d:Int)(h:iG p dg N R w0 w mb ob g dv vs ms qs E T)(hob:bk w0 ob p (az 1 N N 0) (az 1 N N 1) (az 1 N N 2) sv)(hdg:gR w0 dv R dg):Calls prog 57 #[.pointer (some ⟨mb,0,none⟩),.int .i64 d] w λe w'=>e=.returned (.tuple #[])/\∃ms' qs' E' T',iG p dg N R w0 w' mb ob g dv vs ms' qs' E' T'/\T<=T'/\(T'<=T\/T'<=d)/\(∀q∈qs',d<q.dg)/\ba w w':=by
 have HX:=ac hx;have H0:=ac h;have HOB:=ac hob;have HDG:=ac hdg;have HSP:=ac sV;clear h hob hdg hx;go_enter func57,ntmps57;go_wp2_with fail;go_loopw [] (λwr=>∃(ms':List Mm)(qs':List Pq)(E':Nat->Nat->Prop)(T':Int),iG p dg N R w0 wr mb ob g dv vs ms' qs' E' T'/\T<=T'/\(T'<=T\/T'<=d)/\ba w wr) (λwr=>lG mb R wr);case atStart=>exact⟨ms,qs,E,T,H0.o,Int.le_refl _,L0 (Int.le_refl _),ba.refl _⟩
 case round=>
  rename World=>wr;obtain⟨ms1,qs1,E1,T1,hc1,ht1,ht2,hk1⟩:=hrel;have HC:=ac hc1;have HT1:=ac ht1;have HT2:=ac ht2;have HK1:=ac hk1;obtain⟨pv,us,hm⟩:=hc1.mkw;have HM:=ac hm;have c4:=hm.cells.2.2.2.2;clear hc1 hm ht1 ht2 hk1 H0;have HLN:=ac (HC.o.cp.len HX.o);have hsz:w0.heap.size<=wr.heap.size:=HC.o.below.size;have HTK:Ma (∀n1,Calls prog 87 #[.pointer (some ⟨mb,0,none⟩),.int .i64 d] (wr.drewN n1) λe w'=>∃a0 a1 x2 x3 x4 x5 x6 x7 b,e=.returned (.tuple #[.agg #[.pointer a0,.pointer a1,.int .u16 x2,.int .u16 x3,.int .u16 x4,.int .u16 x5,.int .i64 x6,.int .i64 x7],.bool b])/\xX p w0.heap.size (wr.drewN n1) w' mb ob R g dv us ms1 qs1 d a0 a1 x2 x3 x4 x5 x6 x7 b):=λn1=>D3 p w0.heap.size (wr.drewN n1) mb ob R g dv pv us ms1 qs1 d (HM.o.next (below_drewN (Lf _ _) n1)) (by exact hsz) HLN.o.2.2;go_upto_region 2 with (first|(go_at_call 86;refine(HSP.o _).mono ?_;rintro e w1 ⟨rfl,n1,rfl⟩)|(go_at_call 87;refine(HTK.o _).mono ?_;rintro e w2 ⟨a0,a1,x2,x3,x4,x5,x6,x7,b,rfl,q1⟩;have HA:=ac q1;clear q1));obtain⟨w3,hw3⟩:∃w3,w3=w2.alloc (.cells #[.pointer a0,.pointer a1,.int .u16 x2,.int .u16 x3,.int .u16 x4,.int .u16 x5,.int .i64 x6,.int .i64 x7] 126):=⟨_,rfl⟩;have HB3:Ma (Below w2.heap.size w2 w3):=by rw[hw3];exact aj
  cases b with
  |false=>have HNO:=ac (HA.o.no rfl);rw[<-hw3];clear hw3;go_wp2;refine Lm (Ln rfl _ _ _) rfl ?_;have hb:Below wr.heap.size wr w3:=(below_drewN (Lf _ _) n1).trans (HNO.o.1.trans (HB3.o.mono HNO.o.1.size));exact⟨rfl,ms1,qs1,E1,T1,HC.o.next hb,HT1.o,HT2.o,HNO.o.2,HK1.o.trans (ba.of_below hb)⟩
  |true=>
   obtain⟨k,hk,⟨rfl,rfl,rfl,rfl,rfl,rfl,rfl,rfl⟩,hle,hmin,pv2,hm2,hb2,hk2⟩:=HA.o.yes rfl;have HX3:Ma (ig w3 w2.heap.size 0 qs1[k]):=by rw[hw3];exact(kL (Lc _) qs1[k]).at
   obtain⟨i,j,hi,hj,e1,e2,hpg,edg,htq,hcp2⟩:=HC.o.cp.pop hk hmin;have HMIN:=ac hmin;have HLE:=ac hle;have HM3:=ac (hm2.next HB3.o);have hb03:Below w0.heap.size w0 w3:=HC.o.below.trans (((below_drewN (Lf _ _) n1).mono hsz).trans (hb2.trans (HB3.o.mono (Lk hsz hb2.size))));have HB03:=ac hb03;have HK3:Ma (ba w w3):=HK1.o.trans ((ba.of_below (below_drewN (Lf _ _) n1)).trans (hk2.trans (ba.of_below HB3.o)));have HBT:=ac (DU HX.o HC.o.cp i j hi hj qs1[k] e1 e2 hpg w0.heap.size w3 mb ob g dv pv2 sv us HM3.o (HOB.o.below hb03));have HLV:=ac (λwn w9 rv us9 rows=>DW HX.o HC.o.cp i j hi hj qs1[k] hpg w0.heap.size w3 wn w9 mb ob g dv pv2 sv rv us us9 rows HM3.o (HOB.o.below hb03));have HPG:=ac (Lg hpg (Lg edg htq));have HCP2:=ac hcp2;clear hm2 hb2 hk2 hpg edg htq hcp2 hmin hle hb03 e1 e2;rw[<-hw3];clear hw3 HA;obtain⟨y0,y1,y2,y3,y4,y5,y6,y7⟩:=HX3.o;simp only[Ly] at y0 y1 y2 y3 y4 y5 y6 y7;have HQN:Ma (∃q,q=qs1[k]):=⟨_,rfl⟩;unfold d8 at HBT;generalize hqq:qs1[k]=q at*;have HQQ:=ac hqq;clear hqq HQN;go_upto_region 4 with (first|(go_at_call 88;refine HBT.o.mono ?_;rintro e w4 ⟨wn,rv4,us4,rows4,rfl,q1,q2,q3⟩;have HL4:=ac (HLV.o wn w4 rv4 us4 rows4 q1 q2 q3);clear q1 q2 q3)|(go_at_call 82;refine HL4.o.mono ?_;rintro e w5 ⟨q1,u5,acc,rfl,q2,q3,q4⟩;have HB5:=ac q1;have HF5:=ac q3;have HPL:=ac q4;obtain⟨ua,uc,hu⟩:=q2;subst hu;clear q1 q3 q4));have hEQ:=DZ HX.o HC.o.cp hi hj HPG.o.1 1 (p-1);have HEQ:=ac hEQ;clear hEQ;have HM5:=ac (HM3.o.next HB5.o);have HB05:=ac (HB03.o.trans (HB5.o.mono HB03.o.size));have HK5:=ac (HK3.o.trans (ba.of_below HB5.o));have HT5:Ma (T<=q.dg/\(q.dg<=T\/q.dg<=d)):=⟨by have h1:=HT1.o;have h2:=HPG.o.2.2;omega,L3 HLE.o⟩;have HPOP:Ma ((qs1.take k++qs1.drop (k+1)).length+1=qs1.length):=by show _=_;simp only[Lx,LU,List.length_drop];omega
   have HMS:=ac (sS HM.o HC.o.cp.pls);clear HBT HLV y0 y1 y2 y3 y4 y5 y6 y7 HX3;cases acc with
   |nil=>
    have HGD:=ac (DG HC.o.good hi hj HEQ.o.1 HEQ.o.2.1 HEQ.o.2.2.1 HPL.o);go_wp2;go_roundw;case rel=>exact⟨ms1,_,_,q.dg,⟨⟨_,_,HM5.o⟩,HCP2.o,HGD.o,HB05.o⟩,HT5.o.1,HT5.o.2,HK5.o⟩
    case measure=>have e5:=sS HM5.o HC.o.cp.pls;have e1:=HMS.o;have e2:=HPOP.o;show lG mb R w5<lG mb R wr;omega
   |cons t ts=>
    have HAD:=ac (xS HX.o w0 w5 mb ob g dv pv2 sv (.slice ua (t::ts).length uc) us vs ms1 _ _ q.dg _ t ts HM5.o HCP2.o HB05.o HOB.o HDG.o HEQ.o.2.2.2.2 HPL.o.vc HF5.o);go_wp2_with (go_at_call 84;refine HAD.o.mono ?_;rintro e w6 ⟨rfl,pv6,us6,f,srt,q1,q2,q3,q4,q5,q6,q7,q8⟩;have HM6:=ac q6;have HB6:=ac (HB05.o.trans q7);have HK6:=ac (HK5.o.trans q8);have HFI:=ac (Lg q1 (Lg q2 (Lg q3 (Lg q4 q5))));clear q1 q2 q3 q4 q5 q6 q7 q8);have HST:Ma (ms1.map (bo f.L)=ms1/\Cp p dg N R vs (ms1++[f]) ((qs1.take k++qs1.drop (k+1)).filter (λq=>!eC ms1 f.L q)++bh [] srt) (λx y=>E1 x y\/(x=i/\y=j)) q.dg/\dF p dg R (ms1++[f]) (λx y=>E1 x y\/(x=i/\y=j))):=by obtain⟨q1,q2,q3,q4,q5⟩:=HFI.o;obtain⟨a1,a2,a3,a4,a5⟩:=HEQ.o;have ed:=HPG.o.2.1;have hpl:=HPL.o;rw[<-ed] at a4 a5 hpl;exact DH HX.o HC.o.cp HC.o.good HMIN.o hi hj HCP2.o a5 a4 a1 a2 a3 hpl q1 q2 q3 q4 q5
    have HM7:Ma (bj p w0.heap.size w6 mb ob R g dv pv6 us6 (ms1++[f]) ((qs1.take k++qs1.drop (k+1)).filter (λq=>!eC ms1 f.L q)++bh [] srt)):=by have h:=HM6.o;rw[HST.o.1] at h;exact h
    go_roundw;case rel=>exact⟨ms1++[f],_,_,q.dg,⟨⟨_,_,HM7.o⟩,HST.o.2.1,HST.o.2.2,HB6.o⟩,HT5.o.1,HT5.o.2,HK6.o⟩
    case measure=>have e5:=sS HM7.o HST.o.2.1.pls;have e1:=HMS.o;have e2:=HPOP.o;have e3:=DY HX.o HC.o.cp (qs2:=qs1.take k++qs1.drop (k+1)) (Z:=λq=>!eC ms1 f.L q) HFI.o.2.2.2.2;have e4:=(HST.o.2.1.len HX.o).2.1;rw[Lx] at e4 e5;simp only[LN,List.length_nil] at e4 e5;show lG mb R w6<lG mb R wr;omega
end Go.Proofs.YteimdcndjjclnaaGreat
namespace Go.Proofs.YteimdcndjjclnaaGreat
set_option linter.all false
open Go.Proofs.Tryz Go.RowKit Go.Sort
theorem Tryz.infoIntG:(prog.info? 3).map (λi=>(i.zero,i.size,i.bytes))=some (some (.int .i64 0),1,8):=by kernel_rfl
theorem D4{w:World}{a:Option Addr}{c:Nat}{xs:List Int}(h:Sl w (.slice a xs.length c) xs)(hp:0<xs.length):∃ad',a=some ad'/\∀j u,(xs.map (Value.int .i64))[j]?=some u->w.cell? (ad'.add j)=some u:=by
 obtain⟨b,off,rfl,_,_⟩:=sW h 0 hp;refine⟨_,rfl,λj u hj=>?_⟩;have hjl:j<xs.length:=by apply LF;intro h9;rw[Lu (by simpa using h9)] at hj;simp at hj
 obtain⟨b2,off2,e2,_,hc⟩:=sW h j hjl;simp only[LA,Addr.mk.injEq,and_true] at e2;obtain⟨rfl,rfl⟩:=e2;rw[List.getElem?_map,Ls hjl] at hj;simp only[Option.map_some,LA] at hj;rw[<-hj];rw[Lr,Ls hjl] at hc;by_cases hj0:j=0
 .subst hj0;simpa [Addr.add] using hc
 .simpa [Addr.add,hj0] using hc
theorem sX{P:Program}{w:World}{ops:Array Oper}{rest:List Oper}{o:Oper}{a:Act}{Q:Exit->Act->World->Prop}(hgd:o.guard=none)(s x:Operand)(t:TypeId)(ho:o.op=.call {callee:=.builtin .append,args:=#[s,x],argTypes:=#[t,t]})(base:Nat)(e:TypeId)(zz:Value)(size bytes:Nat)(ht:P.underlying t=some (.slice e))(hi:(P.info? e).map (λi=>(i.zero,i.size,i.bytes))=some (some zz,size,bytes))(hzs:zz.cells.size=size)(hsz:0<size)(v:Value)(n:Nat)(xs:List Value)(hs:a.eval s=v)(hown:w.ownsRow base e size v n xs)(ad:Option Addr)(m c:Nat)(news:List Value)(hl:news.length=m*size)(hx:a.eval x=.slice ad m c)(hnew:0<m->∃ad',ad=some ad'/\∀j u,news[j]?=some u->w.cell? (ad'.add j)=some u)(h1:∀u∈news,u.oneCell'=true)(h63:n+m<=maxLen)(hbytes:(n+m)*bytes<=140737488355328)(hbase:base<=w.heap.size)(hK:∀v' w',w'.ownsRow base e size v' (n+m) (xs++news)->w.grownBy w' v.ownBlock->wpList P ops Q rest (a.put o.dst v') w'):wpList P ops Q (o::rest) a w:=by
 by_cases hm:m=0
 .subst hm;have hn:news=[]:=List.eq_nil_of_length_eq_zero (by simpa using hl);subst hn;refine wpList_plain hgd λK hK'=>?_;obtain⟨i,hi0,hz0,hz1,hz2⟩:=info_parts hi;have hr:=xZ (P:=P) w base t o.type e i size ht hi0 v n c ad xs hown;unfold Oper.wp execOp;simp only[ho,resolve,invoke,builtin,Sem.run_bind,Sem.run_pure,Result.andThen_ok,List.map_toArray,List.map_cons,List.map_nil,hs,hx,hr];exact hK' _ _ (hK v w (by simpa using hown) ⟨rfl,rfl,rfl,Lc _,λ_ _ _=>rfl⟩)
 .obtain⟨ad',rfl,hc⟩:=hnew (by omega);exact D5 hgd s x t ho base e zz size bytes ht hi hzs hsz v n xs hs hown ad' m c news hl hx hc h1 h63 hbytes hbase hK
theorem D6(n:Nat)(hn:n<=1300000)(w:World):Calls prog 98 #[.slice none 0 0,.int .i64 n] w λe w'=>∃a c,e=.returned (.slice a 0 c)/\w'.ownsRow w.heap.size 3 1 (.slice a 0 c) 0 []/\Below w.heap.size w w':=by
 by_cases hn0:n=0
 .subst hn0;go_enter func98,ntmps98;go_wp2;go_ret;exact⟨_,_,rfl,World.ownsRow_nil _ _ _ _,Lf _ _⟩
 .have hnI:(0:Int)<n:=by omega
  have hnN:0<n:=by omega
  have hnI2:¬(n:Int)<0:=by omega
  obtain⟨i0,hi0,hz0,hz1,hz2⟩:=info_parts Tryz.infoIntG;have hr:=Go.Lib.run_append_nil_zeros (P:=prog) w 24 3 24 3 i0 _ .i64 .i64 underlying24 underlying3 hi0 hz0 n (by omega) (by omega) (by omega) (by rw[hz2];omega);obtain⟨C,hC⟩:∃C,C=grownCap w n 0 3:=⟨_,rfl⟩;have hC1:n<=C/\C<=maxLen:=by rw[hC];exact⟨grownCap_ge ..,grownCap_le_maxLen _ _ _ _ (by unfold maxLen;omega)⟩
  rw[<-hC] at hr;have hC0:0<=C:=Ll _;clear hC;go_enter func98,ntmps98;go_wp2_with (at_builtin;refine Go.Lib.wpList_append_run _ rfl _ _ _ _ rfl _ _ rfl rfl _ _ hr ?_);go_ret;refine⟨_,_,rfl,⟨by simp,.inr ⟨w.heap.size,C,_,rfl,Lc _,heap_alloc_new w.drew _,Ll _,hC1.2,?_,by simp⟩⟩,(Lf _ _).drew.alloc (Lc _) _⟩;simp[Builtin.zeroCells];omega
theorem D7(n:Nat)(hn:n<=1300000)(w:World):Calls prog 121 #[.slice none 0 0,.int .i64 n] w λe w'=>∃a c,e=.returned (.slice a 0 c)/\w'.ownsRow w.heap.size 124 1 (.slice a 0 c) 0 []/\Below w.heap.size w w':=by
 by_cases hn0:n=0
 .subst hn0;go_enter func121,ntmps121;go_wp2;go_ret;exact⟨_,_,rfl,World.ownsRow_nil _ _ _ _,Lf _ _⟩
 .have hnI:(0:Int)<n:=by omega
  have hnN:0<n:=by omega
  have hnI2:¬(n:Int)<0:=by omega
  obtain⟨i0,hi0,hz0,hz1,hz2⟩:=info_parts Tryz.infoPm;have hr:=Go.Lib.run_append_nil_zeros (P:=prog) w 130 3 130 124 i0 _ .i64 .i64 underlying130 underlying3 hi0 hz0 n (by omega) (by omega) (by omega) (by rw[hz2];omega);obtain⟨C,hC⟩:∃C,C=grownCap w n 0 124:=⟨_,rfl⟩;have hC1:n<=C/\C<=maxLen:=by rw[hC];exact⟨grownCap_ge ..,grownCap_le_maxLen _ _ _ _ (by unfold maxLen;omega)⟩
  rw[<-hC] at hr;have hC0:0<=C:=Ll _;clear hC;go_enter func121,ntmps121;go_wp2_with (at_builtin;refine Go.Lib.wpList_append_run _ rfl _ _ _ _ rfl _ _ rfl rfl _ _ hr ?_);go_ret;refine⟨_,_,rfl,⟨by simp,.inr ⟨w.heap.size,C,_,rfl,Lc _,heap_alloc_new w.drew _,Ll _,hC1.2,?_,by simp⟩⟩,(Lf _ _).drew.alloc (Lc _) _⟩;simp[Builtin.zeroCells];omega
theorem ye(vb:Nat)(da:Option Addr)(dc:Nat)(ds:List Int)(w:World)(h0:w.cell? ⟨vb,0,none⟩=some (.slice da ds.length dc))(h1:w.cell? ⟨vb,1,none⟩=some (.slice none 0 0))(hs:Sl w (.slice da ds.length dc) ds)(hl:ds.length<=1000):Calls prog 76 #[.slice (some ⟨vb,0,none⟩) 2 2] w λe w'=>∃v,e=.returned v/\w'.ownsRow w.heap.size 3 1 v ds.length (ds.map (Value.int .i64))/\Below w.heap.size w w':=by
 have HG:=ac (D6 ds.length (by omega) w);have HS:=ac hs;have hgl:=Lq w _ h0;simp only at hgl;have hnn:¬(ds.length:Int)<0:=by omega
 clear hs;go_enter func76,ntmps76;go_wp2_with fail;refine wp_loop_rounds 3 ?_;rw[rounds_succ];go_wp2_with fail;rw[rounds_succ];go_wp2_with fail;rw[rounds_succ];go_wp2_with (go_at_call 98;refine HG.o.mono ?_;rintro e w1 ⟨ga,gc,rfl,q1,q2⟩;have HO1:=ac q1;have HB1:=ac q2;have k0:=ae h0 q2;have k1:=ae h1 q2;have HS1:=ac (HS.o.below q2);clear q1 q2);refine wp_loop_rounds 3 ?_;rw[rounds_succ];go_wp2_with (at_builtin;refine sX rfl (.tmp 31) (.tmp 32) 24 rfl w.heap.size 3 _ 1 8 underlying24 Tryz.infoIntG rfl (by decide) _ 0 [] rfl HO1.o da ds.length dc (ds.map (Value.int .i64)) (by simp) rfl (λhp=>(D4 HS1.o hp)) (λu hu=>by obtain⟨x,_,rfl⟩:=LC.1 hu;rfl) (by unfold maxLen;omega) (by omega) HB1.o.size ?_;intro v2 w2 r1 r2;simp only[Ly,List.nil_append] at r1;have HO2:=ac r1;have HB2:=ac (i8 HO1.o HB1.o r2 (Lc _));obtain⟨va2,vc2,hv2⟩:=fu r1;subst hv2;have m1:=ae h1 HB2.o;clear r1 r2);rw[rounds_succ];go_wp2_with (at_builtin;refine sX rfl (.tmp 31) (.tmp 32) 24 rfl w.heap.size 3 _ 1 8 underlying24 Tryz.infoIntG rfl (by decide) _ ds.length _ rfl HO2.o none 0 0 [] rfl rfl (λhp=>absurd hp (by omega)) (λu hu=>by simp at hu) (by unfold maxLen;omega) (by omega) HB2.o.size ?_;intro v3 w3 r1 r2;simp only[Nat.add_zero,List.append_nil] at r1;have HO3:=ac r1;have HB3:=ac (i8 HO2.o HB2.o r2 (Lc _));obtain⟨va3,vc3,hv3⟩:=fu r1;subst hv3;clear r1 r2);rw[rounds_succ];go_wp2;go_ret;exact⟨_,rfl,HO3.o,HB3.o⟩
theorem D8(p o v:Int)(n R:Nat)(w:World)(hp:2<=p/\p<=101)(ho:o=1\/o=2)(hv:v=1\/v=2)(hn:n<=3)(hR:R<=200):Calls prog 97 #[aT p n o v,.int .i64 R,.int .i64 0] w λe w'=>∃sv,e=.returned (.pointer (some ⟨w.heap.size+1,0,none⟩))/\bk w' (w.heap.size+1) p (az o n n 0) (az o n n 1) (az o n n 2) sv/\w'.ownsRow (w.heap.size+1+1) 2 1 sv ((List.range R).map λi:Nat=>ef v (i:Int)).length (((List.range R).map λi:Nat=>ef v (i:Int)).map (Value.int .i64))/\Below w.heap.size w w':=by
 have HO:=ac ho;have HV:=ac hv;obtain⟨hp0,hp1⟩:=hp;have hwp:IntKind.u32.wrap p=p:=by rw[IntKind.wrap_u32];omega
 have H0:=ac (eZ.first w p n o v);obtain⟨w1,hw1⟩:∃w1,w1=(w.alloc (.cells #[.int .i64 p,.int .i64 n,.int .i64 o,.int .i64 v] 23)).alloc (.cells #[.int .u32 p,.int .i64 0,.int .i64 0,.int .i64 0,.slice none 0 0] 146):=⟨_,rfl⟩;rw[<-hw1] at H0;clear ho hv;go_enter func97,ntmps97;go_wp2_with fail;rw[<-hw1];clear hw1;go_loopw [18] (λi wr=>∃k:Nat,k<=n/\i=.int .i64 k/\eZ w wr p n o v (az o n k 0) (az o n k 1) (az o n k 2) (.slice none 0 0) []) (λi _=>n-(intOf i).toNat);case atStart=>exact⟨0,Ll _,rfl,H0.o⟩
 case round=>
  clear H0;obtain⟨k,hk,rfl,ht⟩:=hrel;have HT:=ac ht;clear ht;by_cases hk2:k<n
  .obtain⟨_,b0,b1,b2,b3⟩:=HT.o.box;have HWT:=ac (fun(W:World)=>D9 o k W HO.o (by omega));have HSET:=ac (Ea p o n k (.slice none 0 0) hk2 hn);have z1:∃u,wr.cell? ⟨w.heap.size+1,1+k,none⟩=some u:=by have h:=HT.o.own.cellAt (1+k) (by omega);rw[Ls (by simp;omega)] at h;exact⟨_,h⟩
   obtain⟨u,z1⟩:=z1;have z2:=HT.o.own.frozenAt (1+k);have hk3:(k:Int)<3:=by omega
   generalize j6 o k=wk at HWT HSET;go_wp2;go_region_with (go_at_call 124;refine(HWT.o _).mono ?_;rintro e w8 ⟨rfl,rfl⟩);all_goals
    go_wp2;go_roundw;case rel=>exact⟨k+1,by omega,by go_num,by first|exact(HT.o.next (Lf _ _).drew).putK _ _ HSET.o|exact(HT.o.putK _ _ HSET.o).next (Lf _ _).drew⟩
    case measure=>simp[intOf];omega
  .have e:k=n:=by omega
   subst e;generalize hg0:az o k k 0=g0 at HT;generalize hg1:az o k k 1=g1 at HT;generalize hg2:az o k k 2=g2 at HT;have HG:=ac (Lg hg0 (Lg hg1 hg2));clear hg0 hg1 hg2;go_wp2;go_loopw [32] (λi wr=>∃(m:Nat)(sv:Value),m<=R/\i=.int .i64 m/\eZ w wr p k o v g0 g1 g2 sv ((List.range m).map λi:Nat=>ef v (i:Int))) (λi _=>R-(intOf i).toNat);case atStart=>exact⟨0,_,Ll _,rfl,HT.o⟩
   case round=>
    clear HT;obtain⟨m,sv,hm,rfl,ht⟩:=hrel;have HT:=ac ht;clear ht;by_cases hm2:m<R
    .obtain⟨_,b0,b1,b2,b3⟩:=HT.o.box;have HSA:=ac (fun(W:World)=>Eb v m W HV.o (by omega));have HR:Ma (((List.range (m+1)).map λi:Nat=>ef v (i:Int))=((List.range m).map λi:Nat=>ef v (i:Int))++[ef v m]):=by show _=_;rw[List.range_succ];simp
     have HL:Ma (((List.range m).map λi:Nat=>ef v (i:Int)).length=m):=by show _=_;simp
     generalize ((List.range m).map λi:Nat=>ef v (i:Int))=ss at HT HR HL;generalize ef v m=x at HSA HR;have z1:wr.cell? ⟨w.heap.size+1,4,none⟩=some sv:=HT.o.own.cellAt 4 (by omega);have z2:=HT.o.own.frozenAt 4;obtain⟨ya,yc,hy⟩:=fu HT.o.st;rw[HL.o] at hy;subst hy;obtain⟨i0,hi0,hz0,hz1,hz2⟩:∃i0,prog.info? 2=some i0/\i0.zero=some (.int .i64 0)/\i0.size=1/\i0.bytes=8:=by
      have h:=Tryz.infoI64Z;cases hi:prog.info? 2 with
      |none=>rw[hi] at h;cases h
      |some i0=>rw[hi] at h;simp only[Option.map_some,LA,Prod.mk.injEq] at h;exact⟨i0,rfl,h.1,h.2.1,h.2.2⟩
     have HI:=ac (Lg hi0 (Lg hz0 (Lg hz1 hz2)));clear hi0 hz0 hz1 hz2;have HOWN:Ma (∀W,Below wr.heap.size wr W->W.ownsRow (w.heap.size+1+1) 2 1 (.slice ya m yc) ss.length (ss.map (Value.int .i64))):=λW hb=>aK HT.o.st hb;go_wp2;have HA:=ac (HT.o.next ((aj (w:=wr) (A:=.cells #[.int .i64 x] 2)).drew));have HB:=ac (HT.o.next (((Lf wr.heap.size wr).drew).alloc (Lc _) (.cells #[.int .i64 x] 2)));have z3:(wr.alloc (.cells #[.int .i64 x] 2)).cell? ⟨w.heap.size+1,4,none⟩=some (.slice ya m yc):=HA.o.own.cellAt 4 (by omega);have z4:(wr.drew.alloc (.cells #[.int .i64 x] 2)).cell? ⟨w.heap.size+1,4,none⟩=some (.slice ya m yc):=HB.o.own.cellAt 4 (by omega);go_region_law (first|(refine yg rfl (.tmp 39) (.tmp 44) 144 rfl (w.heap.size+1+1) 2 i0 (.int .i64 0) 1 8 underlying144 HI.o.1 HI.o.2.1 HI.o.2.2.1 HI.o.2.2.2 rfl (by decide) (.slice ya m yc) ss.length (ss.map (Value.int .i64)) (by simp[Act.eval,Act.put]) HA.o.st ⟨wr.heap.size,0,none⟩ 1 1 [.int .i64 x] (by simp[Act.eval,Act.put]) rfl (Ec wr x _) (yh _) (by unfold maxLen;have:=HL.o;omega) (by have:=HL.o;omega) HA.o.ge ?_;intro v5 w5 r1 r2 r3;obtain⟨va5,vc5,hv5⟩:=fu r1;subst hv5;have HM:=ac (HA.o.grow r1 r2);have y1:w5.cell? ⟨w.heap.size+1,4,none⟩=some (.slice ya m yc):=(HA.o.mid r2).cellAt 4 (by omega);have y2:=(HA.o.mid r2).frozenAt 4;clear r1 r2 r3)|(refine yg rfl (.tmp 39) (.tmp 44) 144 rfl (w.heap.size+1+1) 2 i0 (.int .i64 0) 1 8 underlying144 HI.o.1 HI.o.2.1 HI.o.2.2.1 HI.o.2.2.2 rfl (by decide) (.slice ya m yc) ss.length (ss.map (Value.int .i64)) (by simp[Act.eval,Act.put]) HB.o.st ⟨wr.heap.size,0,none⟩ 1 1 [.int .i64 x] (by simp[Act.eval,Act.put]) rfl (Ee wr x _) (yh _) (by unfold maxLen;have:=HL.o;omega) (by have:=HL.o;omega) HB.o.ge ?_;intro v5 w5 r1 r2 r3;obtain⟨va5,vc5,hv5⟩:=fu r1;subst hv5;have HM:=ac (HB.o.grow r1 r2);have y1:w5.cell? ⟨w.heap.size+1,4,none⟩=some (.slice ya m yc):=(HB.o.mid r2).cellAt 4 (by omega);have y2:=(HB.o.mid r2).frozenAt 4;clear r1 r2 r3)|(go_simp;refine(HSA.o _).mono ?_;rintro e w8 ⟨rfl,rfl⟩;dsimp only));all_goals
      go_wp2;go_roundw;case rel=>exact⟨m+1,_,by omega,by go_num,by rw[HR.o];exact HM.o⟩
      case measure=>simp[intOf];omega
    .have e:m=R:=by omega
     subst e;go_wp2;refine wp_loop_rounds 1 ?_;rw[rounds_succ];go_wp2;go_ret;refine⟨sv,rfl,?_,HT.o.st,HT.o.below⟩;rw[HG.o.1,HG.o.2.1,HG.o.2.2];have ho:=HT.o.own;have hl:=HT.o.ge;exact⟨by omega,ho.cellAt 0 (by omega),ho.cellAt 1 (by omega),ho.cellAt 2 (by omega),ho.cellAt 3 (by omega),ho.cellAt 4 (by omega)⟩
def ij(dg:Nat->Int)(i:Nat):Int:=255-(i:Int)+dg i*68719476736
def gS(ds:List Int)(m:Nat):List Int:=(List.range ds.length).map λi:Nat=>if i<m then ij (λi=>ds.getD i 0) i else ef 1 (i:Int)
theorem sY(ds:List Int)(m:Nat):(gS ds m).length=ds.length:=by simp[gS]
theorem Ef(ds:List Int):gS ds 0=(List.range ds.length).map λi:Nat=>ef 1 (i:Int):=by simp[gS]
theorem Eg(ds:List Int):gS ds ds.length=(List.range ds.length).map (ij λi=>ds.getD i 0):=by unfold gS;apply List.map_congr_left;intro i hi;rw[List.mem_range] at hi;rw[LI hi]
theorem Eh(ds:List Int){m:Nat}(h:m<ds.length):(gS ds m)[m]?=some (255-(m:Int)):=by unfold gS;rw[List.getElem?_map,List.getElem?_range h];simp[ef]
theorem Ei(ds:List Int){m:Nat}(h:m<ds.length):(gS ds m).set m (255-(m:Int)+ds[m]*68719476736)=gS ds (m+1):=by
 refine List.ext_getElem? λi=>?_;by_cases e:i=m
 .subst e;rw[List.getElem?_set_self (by rw[sY];exact h)];unfold gS;rw[List.getElem?_map,List.getElem?_range h];simp only[Option.map_some,LA];rw[LI (by omega)];unfold ij;simp only;rw[Lr,Ls h];rfl
 .rw[List.getElem?_set_ne (by omega)];unfold gS;rw[List.getElem?_map,List.getElem?_map];by_cases hi:i<ds.length
  .rw[List.getElem?_range hi];simp only[Option.map_some,LA];by_cases h1:i<m
   .rw[LI h1,LI (by omega)]
   .rw[LH h1,LH (by omega)]
  .rw[Lu (by simpa using hi)];rfl
theorem Ej(p o v:Int)(n:Nat)(dv:Value)(ds:List Int)(w:World)(hp:2<=p/\p<=101)(ho:o=1\/o=2)(hn:n<=3)(hs:Sl w dv ds)(hl:ds.length<=3)(hd:∀d∈ds,0<=d/\d<=6):Calls prog 75 #[aT p n o v,dv,.slice none 0 0] w λe w'=>∃ob sv,e=.returned (.pointer (some ⟨ob,0,none⟩))/\bk w' ob p (az o n n 0) (az o n n 1) (az o n n 2) sv/\Sl w' sv ((List.range ds.length).map (ij λi=>ds.getD i 0))/\Below w.heap.size w w':=by
 obtain⟨w1,hw1⟩:∃w1,w1=w.alloc (.cells #[.int .i64 p,.int .i64 n,.int .i64 o,.int .i64 1] 23):=⟨_,rfl⟩;have HB1:Ma (Below w.heap.size w w1):=by rw[hw1];exact aj
 have b0:w1.cell? ⟨w.heap.size,0,none⟩=some (.int .i64 p):=by rw[hw1];simp[go_sem]
 have b1:w1.cell? ⟨w.heap.size,1,none⟩=some (.int .i64 n):=by rw[hw1];simp[go_sem]
 have b2:w1.cell? ⟨w.heap.size,2,none⟩=some (.int .i64 o):=by rw[hw1];simp[go_sem]
 have b3:w1.cell? ⟨w.heap.size,3,none⟩=some (.int .i64 1):=by rw[hw1];simp[go_sem]
 have HS:=ac hs;have HD:=ac hd;have HNO:=ac (D8 p o 1 n ds.length w1 hp ho (L0 rfl) hn (by omega));obtain⟨da,dc,rfl,_⟩:=hs;unfold aT at HNO;unfold aT;clear hd hp ho;go_enter func75,ntmps75;go_upto_region 2 with fail;rw[<-hw1];clear hw1;go_upto_region 3 with (go_at_call 97;refine HNO.o.mono ?_;rintro e w2 ⟨sv,rfl,q1,q2,q3⟩;have HO2:=ac q1;have HR2:=ac q2;have HB2:=ac q3;clear q1 q2 q3);obtain⟨w3,hw3⟩:∃w3,w3=w2.alloc (.cells #[.slice da ds.length dc,.slice none 0 0] 24):=⟨_,rfl⟩;have HB3:Ma (Below w2.heap.size w2 w3):=by rw[hw3];exact aj
 have HB03:=ac (HB1.o.trans ((HB2.o.trans (HB3.o.mono HB2.o.size)).mono HB1.o.size));have HC3:Ma (w3.cell? ⟨w2.heap.size,0,none⟩=some (.slice da ds.length dc)/\w3.cell? ⟨w2.heap.size,1,none⟩=some (.slice none 0 0)):=by rw[hw3];exact⟨by simp[go_sem],by simp[go_sem]⟩
 have HCC:=ac (ye w2.heap.size da dc ds w3 HC3.o.1 HC3.o.2 (HS.o.below HB03.o) (by omega));clear b0 b1 b2 b3;go_wp2_with (go_at_call 76;rw[<-hw3];refine HCC.o.mono ?_;rintro e w4 ⟨v4,rfl,q1,q2⟩;have HV4:=ac q1;have HB4:=ac q2;obtain⟨va,vc,hv4⟩:=fu q1;subst hv4;clear q1 q2);clear hw3;have HR4:Ma (w4.ownsRow (w1.heap.size+1+1) 2 1 sv ds.length ((gS ds 0).map (Value.int .i64))):=by have h:=aK (aK HR2.o HB3.o) HB4.o;rw[LD,List.length_range] at h;rw[Ef];exact h
 have HO4:=ac ((HO2.o.below HB3.o).below HB4.o);have HB04:=ac (HB03.o.trans (HB4.o.mono HB03.o.size));have HW12:=ac HB2.o.size;clear HO2 HR2 HB4 HB3 HB2 HC3 HCC HNO HB03;go_loopw [22] (λs22 wr=>∃m:Nat,m<=ds.length/\s22=.int .i64 m/\wr.ownsRow (w1.heap.size+1+1) 2 1 sv ds.length ((gS ds m).map (Value.int .i64))/\bk wr (w1.heap.size+1) p (az o n n 0) (az o n n 1) (az o n n 2) sv/\wr.ownsRow w3.heap.size 3 1 (.slice va ds.length vc) ds.length (ds.map (Value.int .i64))/\Below w.heap.size w wr) (λs22 _=>ds.length-(intOf s22).toNat);case atStart=>exact⟨0,Ll _,rfl,HR4.o,HO4.o,HV4.o,HB04.o⟩
 case round=>
  rename World=>wr;clear HR4 HO4 HV4 HB04;obtain⟨m,hm,rfl,hr,hob,hvr,hbr⟩:=hrel;have HR:=ac hr;have HOB:=ac hob;have HV:=ac hvr;have HBR:=ac hbr;clear hr hob hvr hbr;by_cases hm2:m<ds.length
  .obtain⟨gs,sc,hsv,hgs,hgs2,_⟩:=oq HR.o (by rw[LD,sY];omega);obtain⟨gv,vc2,hvv,_,_,_⟩:=oq HV.o (by rw[LD];omega);simp only[LB,true_and] at hvv;obtain⟨rfl,rfl⟩:=hvv;subst hsv;have z0:=La HR.o m (by omega);rw[List.getElem?_map,Eh ds hm2] at z0;simp only[Option.map_some] at z0;have z1:=K8 HR.o m;have z2:=La HV.o m (by omega);rw[List.getElem?_map,Ls hm2] at z2;simp only[Option.map_some] at z2;have z3:=HOB.o.c4;have hd:=HD.o ds[m] (Lo hm2);have HST:=ac (Lp HR.o m (.int .i64 (255-(m:Int)+ds[m]*68719476736)));generalize hdm:ds[m]=dm at z2 hd HST;have HDM:=ac hdm;clear hdm;have hF:ai (λk=>k=gs) wr (wr.setCell ⟨gs,m,none⟩ (.int .i64 (255-(m:Int)+dm*68719476736))):=ai.of_grown HST.o.2 λx e=>by simpa using e.symm
   have HF:=ac hF;clear hF;go_wp2;go_roundw;case rel=>
    refine⟨m+1,by omega,by go_num,?_,?_,dN HF.o HV.o λk hk=>by rw[hk];exact bp HR.o rfl (by decide),HBR.o.setCell (by have:=HB1.o.size;show w.heap.size<=gs;omega) _⟩
    .have h:=HST.o.1;rw[<-List.map_set,<-HDM.o,Ei ds hm2] at h;rw[<-HDM.o];exact h
    .obtain⟨l0,l1,l2,l3,l4,l5⟩:=HOB.o;have hne:¬w1.heap.size+1=gs:=by omega
     exact⟨Lj l0 HF.o.size,HF.o.cell l1 hne,HF.o.cell l2 hne,HF.o.cell l3 hne,HF.o.cell l4 hne,HF.o.cell l5 hne⟩
   case measure=>simp[intOf];omega
  .have e:m=ds.length:=by omega
   subst e;go_wp2;go_ret;refine⟨_,sv,rfl,HOB.o,?_,HBR.o⟩;rw[<-Eg];refine yi (B:=w1.heap.size+1+1) (T:=2) ?_;rw[sY];exact HR.o
structure lI(w:World)(ob:Nat)(p:Int)(N:Nat)(ds:List Int)(sv:Value):Prop where
 ord:bk w ob p (az 1 N N 0) (az 1 N N 1) (az 1 N N 2) sv
 st:Sl w sv ((List.range ds.length).map (ij λi=>ds.getD i 0))
theorem lI.below{w w':World}{ob:Nat}{p:Int}{N:Nat}{ds:List Int}{sv:Value}(h:lI w ob p N ds sv)(hb:Below w.heap.size w w'):lI w' ob p N ds sv:=⟨h.ord.below hb,h.st.below hb⟩
theorem Ek{w:World}{B:Nat}{v:Value}{ds:List Int}(h:w.ownsRow B 3 1 v ds.length (ds.map (Value.int .i64)))(hp:0<ds.length):gR w v ds.length λi=>ds.getD i 0:=by obtain⟨g,cap,rfl,_,_,_⟩:=oq h (by rw[LD];exact hp);refine⟨g,0,cap,rfl,λpl hpl=>?_⟩;have hc:=La h pl (by omega);rw[List.getElem?_map,Ls hpl] at hc;rw[Ly,hc];simp only[Option.map_some];rw[Lr,Ls hpl];rfl
theorem El(p o v:Int)(n:Nat)(dv:Value)(ds:List Int)(w:World)(hp:2<=p/\p<=101)(hn:n<=3)(hs:Sl w dv ds)(hl:ds.length<=3)(hl0:0<ds.length)(hd:∀d∈ds,0<=d/\d<=6):Calls prog 54 #[aT p n o v,dv,.slice none 0 0] w λe w'=>∃w0 mb ob g dv' sv us,e=.returned (.pointer (some ⟨mb,0,none⟩))/\Below w.heap.size w w0/\lI w0 ob p n ds sv/\gR w0 dv' ds.length (λi=>ds.getD i 0)/\bj p w0.heap.size w' mb ob ds.length g dv' (.slice none 0 0) us [] []/\Below w0.heap.size w0 w':=by
 obtain⟨w1,hw1⟩:∃w1,w1=w.alloc (.cells #[.int .i64 p,.int .i64 n,.int .i64 1,.int .i64 v] 23):=⟨_,rfl⟩;have HB1:Ma (Below w.heap.size w w1):=by rw[hw1];exact aj
 have b0:w1.cell? ⟨w.heap.size,0,none⟩=some (.int .i64 p):=by rw[hw1];simp[go_sem]
 have b1:w1.cell? ⟨w.heap.size,1,none⟩=some (.int .i64 n):=by rw[hw1];simp[go_sem]
 have b2:w1.cell? ⟨w.heap.size,2,none⟩=some (.int .i64 1):=by rw[hw1];simp[go_sem]
 have b3:w1.cell? ⟨w.heap.size,3,none⟩=some (.int .i64 v):=by rw[hw1];simp[go_sem]
 have HS:=ac hs;have HNO:=ac (Ej p 1 v n dv ds w1 hp (L0 rfl) hn (hs.below HB1.o) hl hd);obtain⟨da,dc,rfl,_⟩:=hs;unfold aT at HNO;unfold aT;clear hd hp;have HNM:Ma (∀ob b off c (W:World),Calls prog 74 #[.pointer (some ⟨ob,0,none⟩),.slice (some ⟨b,off,none⟩) ds.length c] W λe w'=>∃mb g us,e=.returned (.pointer (some ⟨mb,0,none⟩))/\bj p W.heap.size w' mb ob ds.length g (.slice (some ⟨b,off,none⟩) ds.length c) (.slice none 0 0) us [] []/\Below W.heap.size W w'):=λob b off c W=>Em p ob ds.length b off c W (by omega);go_enter func54,ntmps54;go_upto_region 2 with fail;rw[<-hw1];clear hw1;have HCC:Ma (∀W,Below w.heap.size w W->Calls prog 76 #[.slice (some ⟨W.heap.size,0,none⟩) 2 2] (W.alloc (.cells #[.slice da ds.length dc,.slice none 0 0] 24)) λe w'=>∃v,e=.returned v/\w'.ownsRow (W.alloc (.cells #[.slice da ds.length dc,.slice none 0 0] 24)).heap.size 3 1 v ds.length (ds.map (Value.int .i64))/\Below (W.alloc (.cells #[.slice da ds.length dc,.slice none 0 0] 24)).heap.size (W.alloc (.cells #[.slice da ds.length dc,.slice none 0 0] 24)) w'):=λW hb=>ye W.heap.size da dc ds _ (by simp[go_sem]) (by simp[go_sem]) ((HS.o.below hb).below aj) (by omega);go_wp2_with (first|(go_at_call 75;refine HNO.o.mono ?_;rintro e w2 ⟨ob,sv,rfl,q1,q2,q3⟩;have HO2:=ac (lI.mk q1 q2);have HB2:=ac (HB1.o.trans (q3.mono HB1.o.size));clear q1 q2 q3)|(go_at_call 76;refine(HCC.o w2 HB2.o).mono ?_;rintro e w4 ⟨v4,rfl,q1,q2⟩;obtain⟨gv,vc,hv4,_,_,_⟩:=oq q1 (by rw[LD];exact hl0);subst hv4;have HB4:=ac ((aj (w:=w2) (A:=.cells #[.slice da ds.length dc,.slice none 0 0] 24)).trans (q2.mono aj.size));have HD4:=ac (Ek q1 hl0);clear q1 q2)|(go_at_call 74;refine(HNM.o _ _ _ _ _).mono ?_;rintro e w5 ⟨mb,g,us,rfl,q1,q2⟩;have HM5:=ac q1;have HB5:=ac q2;clear q1 q2));go_ret;exact⟨w4,mb,ob,g,_,sv,us,rfl,HB2.o.trans (HB4.o.mono HB2.o.size),HO2.o.below HB4.o,HD4.o,HM5.o,HB5.o⟩
end Go.Proofs.YteimdcndjjclnaaGreat
