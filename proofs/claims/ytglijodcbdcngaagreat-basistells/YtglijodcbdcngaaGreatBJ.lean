/- IsBasisOf of the reference: all pairs leave nothing just if all multiples of one lead differ by what is below it. -/
import Derived.Test.YtglijodcbdcngaaGreatQY
import Derived.Test.YtglijodcbdcngaaGreatNC
set_option maxHeartbeats 8000000
set_option maxRecDepth 100000
namespace Go.Proofs.YtglijodcbdcngaaGreat
set_option linter.unusedSimpArgs false
set_option linter.unusedVariables false
open Go.Proofs.Tryz Go.RowKit
def jK(p o:Int)(R:Nat)(lss:List (List (List Tm)))(i k:Nat)(a b:Tm):DS:=⟨dT p o (lss.getD i []) (lss.getD k []) a b,List.replicate lss.length [],List.replicate R []⟩
def gm(p o ov:Int)(R:Nat)(lss:List (List (List Tm))):Prop:=∀i k j a b f,k<i->i<lss.length->aq o ov (lss.getD i []) (lss.getD i []).length=some (j,a)->aq o ov (lss.getD k []) (lss.getD k []).length=some (j,b)->Dv p o ov lss (jK p o R lss i k a b) f->aq o ov f.v f.v.length=none->∀m,f.l.getD m []=[]
theorem pO{p o ov:Int}{N R:Nat}(hx:bj p o ov N R){lss:List (List (List Tm))}(hl:cF p o N R lss)(h40:∀g∈lss,b9 p o N (λ_=>40) g){i k j:Nat}{a b:Tm}(hi:i<lss.length)(hk:k<lss.length)(ha:aq o ov (lss.getD i []) (lss.getD i []).length=some (j,a))(hb:aq o ov (lss.getD k []) (lss.getD k []).length=some (j,b)):ef p o ov N R lss (jK p o R lss i k a b):=by
 have mi:=de lss i hi;have mk2:=de lss k hk;obtain⟨b1,b2,_,_⟩:=pP hx (h40 _ mi) (h40 _ mk2) (hl.len _ mi) (hl.len _ mk2) ha hb;have h0:∀(n m:Nat),(List.replicate n ([]:List Tm)).getD m []=[]:=λn m=>by rw[Hs];by_cases h:m<n<;>simp[h]
 have hce:=(pQ p o N).canon;unfold jK;exact⟨b1,by simp,by simp,b2,⟨λm=>by simp only[h0];exact hce,λm t ht=>by simp only[h0] at ht;simp at ht,λm t ht=>by simp only[h0] at ht;simp at ht⟩,λm=>⟨by simp only[h0];exact hce,λt ht=>by simp only[h0] at ht;simp at ht,λt ht=>by simp only[h0] at ht;simp at ht⟩,λm y hy=>by simp only[h0] at hy;simp at hy,λm y hy=>by simp only[h0] at hy;simp at hy⟩
theorem tE{p o ov:Int}{N R:Nat}{hx:bj p o ov N R}{lss:List (List (List Tm))}{hl:cF p o N R lss}{i:Nat}(h:(bq p o ov N R hx lss hl).live i):i<lss.length/\∃j a,aq o ov (lss.getD i []) (lss.getD i []).length=some (j,a):=by
 obtain⟨h1,h2⟩:=h;refine⟨h1,?_⟩;cases hld:aq o ov (lss.getD i []) (lss.getD i []).length with
 |none=>rw[hld] at h2;simp at h2
 |some q=>exact⟨q.1,q.2,rfl⟩
theorem zQ{p o ov:Int}{N R:Nat}(hx:bj p o ov N R){lss:List (List (List Tm))}(hl:cF p o N R lss){i k j:Nat}{a b:Tm}(hi:i<lss.length)(hk:k<lss.length)(ha:aq o ov (lss.getD i []) (lss.getD i []).length=some (j,a))(hb:aq o ov (lss.getD k []) (lss.getD k []).length=some (j,b)):(Gb.bi o ov).act (cB (ah (· - ·) (ah aS a.2 b.2) a.2)) ((bq p o ov N R hx lss hl).ld i)=Gb.bP.lc ((bq p o ov N R hx lss hl).ld i) ((bq p o ov N R hx lss hl).ld k)/\(Gb.bi o ov).act (cB (ah (· - ·) (ah aS a.2 b.2) b.2)) ((bq p o ov N R hx lss hl).ld k)=Gb.bP.lc ((bq p o ov N R hx lss hl).ld i) ((bq p o ov N R hx lss hl).ld k):=by
 have oki:=hl.ok _ (de lss i hi);have okk:=hl.ok _ (de lss k hk);obtain⟨_,us,hua⟩:=dJ ha;obtain⟨_,vs,hub⟩:=dJ hb;have am:a∈(lss.getD i []).getD j []:=by rw[hua];simp
 have bm:b∈(lss.getD k []).getD j []:=by rw[hub];simp
 have al:=(oki.canon j).len a am;have bl:=(okk.canon j).len b bm;have ann:=oki.nn j a am;have bnn:=okk.nn j b bm;obtain⟨l1,l2,l3⟩:=mz a.2 b.2 (by rw[al,bl]);obtain⟨u1,u2,u3⟩:=ja (ah aS a.2 b.2) a.2 l1 l2;obtain⟨w1,w2,w3⟩:=ja (ah aS a.2 b.2) b.2 (by rw[l1,al,bl]) l3;rw[(jL (hx:=hx) (hl:=hl) ha).1,(jL (hx:=hx) (hl:=hl) hb).1];have e1:=mA (R:=R) (i:=j) hx.n3 (show (ah (· - ·) (ah aS a.2 b.2) a.2).length=N by rw[u1,al]) al u2 ann
 have e2:=mA (R:=R) (i:=j) hx.n3 (show (ah (· - ·) (ah aS a.2 b.2) b.2).length=N by rw[w1,bl]) bl w2 bnn
 rw[u3] at e1;rw[w3] at e2;have hz:∀k,(ah aS a.2 b.2).getD k 0=aS (a.2.getD k 0) (b.2.getD k 0):=λk=>by
  by_cases hk:k<N
  ·have:=ky aS a.2 b.2 (by omega) k (by omega);simpa using this
  ·simp[Hs,Hu (show (ah aS a.2 b.2).length<=k by omega),Hu (show a.2.length<=k by omega),Hu (show b.2.length<=k by omega),aS]
 have el:aL R j (ah aS a.2 b.2)=Gb.bP.lc (aL R j a.2) (aL R j b.2):=by have a0:=dj ann 0;have a1:=dj ann 1;have a2:=dj ann 2;have b0:=dj bnn 0;have b1:=dj bnn 1;have b2:=dj bnn 2;show aL R j (ah aS a.2 b.2)=((aL R j a.2).1,max (aL R j a.2).2.1 (aL R j b.2).2.1,max (aL R j a.2).2.2.1 (aL R j b.2).2.2.1,max (aL R j a.2).2.2.2 (aL R j b.2).2.2.2);unfold aL;simp only[hz,Prod.mk.injEq,true_and];unfold aS;refine⟨?_,?_,?_⟩<;>(split<;>omega)
 exact⟨e1.symm.trans el,e2.symm.trans el⟩
theorem zR{p o ov:Int}{N R:Nat}(hx:bj p o ov N R){lss:List (List (List Tm))}(hl:cF p o N R lss)(h40:∀g∈lss,b9 p o N (λ_=>40) g)(h:gm p o ov R lss):Gb.da (bq p o ov N R hx lss hl):=by
 have good:∀i k,k<i->(bq p o ov N R hx lss hl).live i->(bq p o ov N R hx lss hl).live k->((bq p o ov N R hx lss hl).ld i).1=((bq p o ov N R hx lss hl).ld k).1->∃a b,(Gb.bi o ov).act a ((bq p o ov N R hx lss hl).ld i)=Gb.bP.lc ((bq p o ov N R hx lss hl).ld i) ((bq p o ov N R hx lss hl).ld k)/\(Gb.bi o ov).act b ((bq p o ov N R hx lss hl).ld k)=Gb.bP.lc ((bq p o ov N R hx lss hl).ld i) ((bq p o ov N R hx lss hl).ld k)/\Gb.Rl (bq p o ov N R hx lss hl) i a k b:=by
  intro i k hki li lk hpl;obtain⟨hi,j,a,ha⟩:=tE li;obtain⟨hk,j2,b,hb⟩:=tE lk;rw[(jL (hx:=hx) (hl:=hl) ha).1,(jL (hx:=hx) (hl:=hl) hb).1] at hpl;have hja:j<R:=by have:=(dJ ha).1;have:=hl.len _ (de lss i hi);omega
  have hjb:j2<R:=by have:=(dJ hb).1;have:=hl.len _ (de lss k hk);omega
  have hjj:j2=j:=by have h9:R-1-j=R-1-j2:=hpl;omega
  subst hjj;have hinv:=pO hx hl h40 hi hk ha hb;obtain⟨f,f1,f2,f3⟩:=tF hx hl _ _ hinv (He _);have hnil:=h i k j2 a b f hki hi ha hb f1 (tG f3);obtain⟨e1,e2⟩:=zQ hx hl hi hk ha hb;exact⟨_,_,e1,e2,zS hx hl h40 hi hk ha hb f1 (tG f3) hnil⟩
 refine Gb.tB (D:=Gb.bP) (P:=λi k=>k<i/\(bq p o ov N R hx lss hl).live i/\(bq p o ov N R hx lss hl).live k) (Gb.tD o ov) (Gb.pM o ov) (λt i k li lk hit hkt=>?_) (λi k t hP hit hkt=>good i k hP.1 hP.2.1 hP.2.2 (hit.1.trans hkt.1.symm));rcases Nat.lt_trichotomy i k with h1|h1|h1
 ·exact(Gb.Pa.refl i).bwd ⟨⟨h1,lk,li⟩,hkt,hit,Gb.bP.lci hkt hit⟩
 ·rw[h1];exact Gb.Pa.refl _
 ·exact(Gb.Pa.refl i).fwd ⟨⟨h1,li,lk⟩,hit,hkt,Gb.bP.lci hit hkt⟩
theorem zT{p o ov:Int}{N R:Nat}(hx:bj p o ov N R){lss:List (List (List Tm))}(hl:cF p o N R lss)(h40:∀g∈lss,b9 p o N (λ_=>40) g)(hA:Gb.da (bq p o ov N R hx lss hl)):gm p o ov R lss:=by
 intro i k j a b f hki hi ha hb hdv hend;have hk:k<lss.length:=by omega
 have mi:=de lss i hi;have mk2:=de lss k hk;obtain⟨_,_,_,b4⟩:=pP hx (h40 _ mi) (h40 _ mk2) (hl.len _ mi) (hl.len _ mk2) ha hb;refine zU hx hl hA (pO hx hl h40 hi hk ha hb) ?_ hdv hend;refine⟨[(aC p a.1,cB (ah (· - ·) (ah aS a.2 b.2) a.2),i),(-(aC p b.1),cB (ah (· - ·) (ah aS a.2 b.2) b.2),k)],λr hr=>?_,λφ=>?_⟩
 ·simp only[List.mem_cons,List.not_mem_nil,or_false] at hr;rcases hr with rfl|rfl
  ·exact⟨⟨hi,by rw[ha];rfl⟩,trivial⟩
  ·exact⟨⟨hk,by rw[hb];rfl⟩,trivial⟩
 ·obtain⟨z,hz⟩:=b4 φ;refine⟨z,?_⟩;rw[<-hz];simp only[Gb.ev];have q1:Gb.ln (λt=>φ ((Gb.bi o ov).act (cB (ah (· - ·) (ah aS a.2 b.2) a.2)) t)) ((bq p o ov N R hx lss hl).g i)=Gb.ln (λt=>φ (Gb.bB (cB (ah (· - ·) (ah aS a.2 b.2) a.2)) t)) (ci R (lss.getD i []) R):=rfl
  have q2:Gb.ln (λt=>φ ((Gb.bi o ov).act (cB (ah (· - ·) (ah aS a.2 b.2) b.2)) t)) ((bq p o ov N R hx lss hl).g k)=Gb.ln (λt=>φ (Gb.bB (cB (ah (· - ·) (ah aS a.2 b.2) b.2)) t)) (ci R (lss.getD k []) R):=rfl
  rw[q1,q2,Int.neg_mul];omega
theorem zV{N:Nat}{xv yv:Value}{xs ys:List Int}(w:World)(hN0:0<N)(hN:N<=3)(lx:xs.length=N)(ly:ys.length=N)(bx:∀x∈xs,0<=x/\x<=200)(by':∀x∈ys,0<=x/\x<=200)(hx:Sl w xv xs)(hy:Sl w yv ys):Calls prog 72 #[xv,yv,.int .i64 3] w λe w'=>∃u,e=.returned u/\Sl w' u (ah aS xs ys)/\Below w.heap.size w w':=by obtain⟨a,c,rfl,ha⟩:=hx;obtain⟨a2,c2,rfl,ha2⟩:=hy;obtain⟨b,off,rfl,hlt,hc⟩:=ha (by omega);obtain⟨b2,off2,rfl,hlt2,hc2⟩:=ha2 (by omega);exact zW xs ys b off c b2 off2 c2 w (by omega) (by omega) (λx hx=>by have:=bx x hx;omega) (λx hx=>by have:=by' x hx;omega) hlt hlt2 hc hc2
theorem zX(p o ov:Int)(N R j:Nat)(x y:Value)(v u:List (List Tm))(a b:Tm)(w:World)(hx:bj p o ov N R)(hv:∀f∈v,cN p o N f)(hu:∀f∈u,cN p o N f)(hvl:v.length=R)(hul:u.length=R)(ha:aq o ov v v.length=some (j,a))(hb:aq o ov u u.length=some (j,b))(pv:Vl w x v)(pu:Vl w y u):Calls prog 29 #[az p N o ov,x,y] w λe w'=>∃z,e=.returned z/\Vl w' z (dT p o v u a b)/\Below w.heap.size w w':=by
 have HX:=aa hx;obtain⟨hp1,hp2⟩:=dU hx.pr;have hR40:=hx.r;obtain⟨w1,hw1⟩:∃w1,w1=w.alloc (.cells #[.int .i64 p,.int .i64 N,.int .i64 o,.int .i64 ov] 23):=⟨_,rfl⟩;have HB1:Ic (Below w.heap.size w w1):=by rw[hw1];exact af
 have HX1:Ic (aX w1 w.heap.size p N o ov):=by rw[hw1];exact aX.new w p N o ov _
 have hPV:=pv.below HB1.o;have hPU:=pu.below HB1.o;have HPV:=aa hPV;have HPU:=aa hPU;have HV:=aa hv;have HU:=aa hu;have HLA:Ic (∀W,Below w1.heap.size w1 W->Calls prog 27 #[az p N o ov,x] W λe w'=>∃ea ec,e=.returned (.tuple #[.int .i64 (j:Int),.agg #[.int .i64 a.1,.slice ea a.2.length ec]])/\Sl w1 (.slice ea a.2.length ec) a.2/\Below W.heap.size W w'):=λW hb=>by have h:=kY w1 p N o ov N _ v W hb hx.ov hx.o hx.n0 hx.n3 (by omega) hv hPV;rw[ha] at h;exact h
 have HLB:Ic (∀W,Below w1.heap.size w1 W->Calls prog 27 #[az p N o ov,y] W λe w'=>∃ea ec,e=.returned (.tuple #[.int .i64 (j:Int),.agg #[.int .i64 b.1,.slice ea b.2.length ec]])/\Sl w1 (.slice ea b.2.length ec) b.2/\Below W.heap.size W w'):=λW hbW=>by have h:=kY w1 p N o ov N _ u W hbW hx.ov hx.o hx.n0 hx.n3 (by omega) hu hPU;rw[hb] at h;exact h
 have fact:∀(g:List (List Tm)) (t:Tm),(∀f∈g,cN p o N f)->aq o ov g g.length=some (j,t)->t.2.length=N/\(1<=t.1/\t.1<p)/\(∀z∈t.2,0<=z/\z<=200):=λg t hg ht=>by
  obtain⟨hj,us,hus⟩:=dJ ht;have tm:t∈g.getD j []:=by rw[hus];simp
  have hr:=hg _ (cG g j hj);exact⟨hr.canon.len t tm,hr.canon.coef t tm,λz hz=>by have h1:=hr.deg t tm;have h2:=iE (λq hq=>(hr.bd t tm q hq).1) z hz;have h3:=(hr.bd t tm z hz).1;omega⟩
 obtain⟨al,aco,abd⟩:=fact v a hv ha;obtain⟨bl,bco,bbd⟩:=fact u b hu hb;obtain⟨l1,l2,l3⟩:=mz a.2 b.2 (by rw[al,bl]);have l4:=nM a.2 b.2 (by rw[al,bl]) (λz hz=>(abd z hz).1) (λz hz=>(bbd z hz).1);obtain⟨u1,u2,u3⟩:=ja (ah aS a.2 b.2) a.2 l1 l2;obtain⟨w1',w2',w3'⟩:=ja (ah aS a.2 b.2) b.2 (by rw[l1,al,bl]) l3;have enn:∀z∈ah aS a.2 b.2,0<=z:=by rw[<-u3];exact kZ _ _ u2 (λz hz=>(abd z hz).1)
 have lim:∀(l:List Int)(B:Int),l.length=N->(∀z∈l,0<=z/\z<=B)->ag l<=3*B\/B<0:=λl B hl h=>by
  have h3:=hx.n3
  match l,hl with
  |[],_=>exact(Int.lt_or_le B 0).elim Or.inr λhB=>Or.inl (by simp[ag];omega)
  |[q],_=>left;have:=h q (by simp);simp[ag];omega
  |[q,s],_=>left;have:=h q (by simp);have:=h s (by simp);simp[ag];omega
  |[q,s,r],_=>left;have:=h q (by simp);have:=h s (by simp);have:=h r (by simp);simp[ag];omega
  |_::_::_::_::_,hl=>simp at hl;omega
 have sa:=lim a.2 200 al abd;have sb:=lim b.2 200 bl bbd;have ebd:∀z∈ah aS a.2 b.2,0<=z/\z<=8000:=λz hz=>⟨enn z hz,by have:=iE enn z hz;omega⟩;have su:ag (ah (· - ·) (ah aS a.2 b.2) a.2)+ag a.2=ag (ah aS a.2 b.2):=by rw[<-jM _ _ u1,u3]
 have sw:ag (ah (· - ·) (ah aS a.2 b.2) b.2)+ag b.2=ag (ah aS a.2 b.2):=by rw[<-jM _ _ w1',w3']
 have an0:=jb (λz hz=>(abd z hz).1);have bn0:=jb (λz hz=>(bbd z hz).1);have HA:=aa (Hg al (Hg aco abd));have HBf:=aa (Hg bl (Hg bco bbd));have HE:=aa (Hg (show (ah aS a.2 b.2).length=N by rw[l1,al]) ebd);have HM:Ic ((ah (· - ·) (ah aS a.2 b.2) a.2).length=N/\∀z∈ah (· - ·) (ah aS a.2 b.2) a.2,0<=z/\z<=8000):=⟨by rw[u1,al],λz hz=>⟨u2 z hz,by have:=iE u2 z hz;omega⟩⟩
 have HN:Ic ((ah (· - ·) (ah aS a.2 b.2) b.2).length=N/\∀z∈ah (· - ·) (ah aS a.2 b.2) b.2,0<=z/\z<=8000):=⟨by rw[w1',bl],λz hz=>⟨w2' z hz,by have:=iE w2' z hz;omega⟩⟩
 have HVL:=aa hvl;have HUL:=aa hul;have HVS:=aa (Hg HVL.o HUL.o);obtain⟨_,r0,r1,r2,r3⟩:=HX1.o;obtain⟨xa,xc,hxe,_⟩:=pv;obtain⟨ya,yc,hye,_⟩:=pu;subst hxe;subst hye;unfold dT;obtain⟨e,he⟩:∃e,ah aS a.2 b.2=e:=⟨_,rfl⟩;have HEE:=aa he;rw[he] at HE HM HN⊢;obtain⟨m,hm⟩:∃m,ah (· - ·) e a.2=m:=⟨_,rfl⟩
 obtain⟨n,hn⟩:∃n,ah (· - ·) e b.2=n:=⟨_,rfl⟩
 have HMM:=aa hm;have HNN:=aa hn;rw[hm] at HM⊢;rw[hn] at HN⊢;have hia:=gJ hx.pr (show 0<a.1/\a.1<p by omega);have hib:=gJ hx.pr (show 0<b.1/\b.1<p by omega);have HIA:Ic (∀W,Calls prog 71 #[.int .i64 p,.int .i64 a.1] W λe w'=>e=.returned (.int .i64 (aC p a.1))/\Below W.heap.size W w'):=λW=>pR hx.pr (by omega) W;have HIB:Ic (∀W,Calls prog 71 #[.int .i64 p,.int .i64 b.1] W λe w'=>e=.returned (.int .i64 (aC p b.1))/\Below W.heap.size W w'):=λW=>pR hx.pr (by omega) W;generalize aC p a.1=ia at HIA hia⊢;generalize aC p b.1=ib at HIB hib⊢;have HIAB:=aa (Hg hia hib);clear he hm hn fact lim l1 l2 l3 l4 u1 u2 u3 w1' w2' w3' enn ebd su sw sa sb an0 bn0 al aco abd bl bco bbd hvl hul hv hu hx hPV hPU ha hb hia;unfold az at HLA HLB⊢;go_enter func29,ntmps29;go_upto_region 1 with fail;rw[<-hw1];clear hw1;go_upto_region 2 with (go_at_call 27;refine(HLA.o _ (Hf _ _)).mono ?_;rintro e1 w2 ⟨eaa,eac,rfl,hsl,hb2⟩;have HSA:=aa hsl;have HB2:=aa hb2;have s0:=ae r0 hb2;have s1:=ae r1 hb2;have s2:=ae r2 hb2;have s3:=ae r3 hb2;clear hsl hb2);obtain⟨w3,hw3⟩:∃w3,w3=w2.alloc (.cells #[.int .i64 a.1,.slice eaa a.2.length eac] 54):=⟨_,rfl⟩;have HB23:Ic (Below w2.heap.size w2 w3):=by rw[hw3];exact af
 have HT3:Ic (TB w3 w2.heap.size a.1 (.slice eaa a.2.length eac)):=by show TB _ _ _ _;rw[hw3];exact fU w2 _ _
 have HB3:Ic (Below w1.heap.size w1 w3):=HB2.o.trans (HB23.o.mono HB2.o.size);rw[<-hw3];clear hw3;obtain⟨_,t0,t1,t2,t3⟩:=HX1.o.below HB3.o;clear s0 s1 s2 s3;go_upto_region 3 with (go_at_call 27;refine(HLB.o _ HB3.o).mono ?_;rintro e1 w4 ⟨eba,ebc,rfl,hsl,hb4⟩;have HSB:=aa hsl;have HB34:=aa hb4;clear hsl hb4);obtain⟨w5,hw5⟩:∃w5,w5=w4.alloc (.cells #[.int .i64 b.1,.slice eba b.2.length ebc] 54):=⟨_,rfl⟩;have HB45:Ic (Below w4.heap.size w4 w5):=by rw[hw5];exact af
 have HT5b:Ic (TB w5 w4.heap.size b.1 (.slice eba b.2.length ebc)):=by show TB _ _ _ _;rw[hw5];exact fU w4 _ _
 have HB35:Ic (Below w3.heap.size w3 w5):=HB34.o.trans (HB45.o.mono HB34.o.size);have HB5:Ic (Below w1.heap.size w1 w5):=HB3.o.trans (HB35.o.mono HB3.o.size);rw[<-hw5];clear hw5 t0 t1 t2 t3;obtain⟨a0,a1⟩:=HT3.o.below HB35.o;obtain⟨b0,b1⟩:=HT5b.o;have HPL:Ic (Calls prog 72 #[.slice eaa a.2.length eac,.slice eba b.2.length ebc,.int .i64 3] w5 λx w'=>∃ga gc,x=.returned (.slice ga e.length gc)/\Sl w' (.slice ga e.length gc) e/\Below w5.heap.size w5 w'):=by refine(zV w5 HX.o.n0 HX.o.n3 HA.o.1 HBf.o.1 HA.o.2.2 HBf.o.2.2 (HSA.o.below HB5.o) (HSB.o.below HB5.o)).mono ?_;rintro x w' ⟨z,rfl,h1,h2⟩;rw[HEE.o] at h1;have h3:=h1;obtain⟨ga,gc,rfl,_⟩:=h1;exact⟨ga,gc,rfl,h3,h2⟩
 go_upto_region 4 with (go_at_call 72;refine HPL.o.mono ?_;rintro e1 w6 ⟨ga,gc,rfl,hsl,hb6⟩;have HSE:=aa hsl;have HB56:=aa hb6;clear hsl hb6);have HD4:Ic (Below w1.heap.size w1 w6):=HB5.o.trans (HB56.o.mono HB5.o.size);have HTB4:Ic (TB w6 w2.heap.size a.1 (.slice eaa a.2.length eac)):=(HT3.o.below HB35.o).below HB56.o;have HTBb:Ic (TB w6 w4.heap.size b.1 (.slice eba b.2.length ebc)):=HT5b.o.below HB56.o;have HSE4:=aa HSE.o;have HSL4:=aa (HSA.o.below HD4.o);clear a0 a1 b0 b1 HPL;obtain⟨_,x0,x1,x2,x3⟩:=HX1.o.below HD4.o;obtain⟨y0,y1⟩:=HTB4.o;have HPO4:Ic (∀W,Below w6.heap.size w6 W->Calls prog 72 #[.slice ga e.length gc,.slice eaa a.2.length eac,.int .i64 2] W λx w'=>∃ma mc,x=.returned (.slice ma m.length mc)/\Sl w' (.slice ma m.length mc) m/\Below W.heap.size W w'):=λW hb=>by refine(pS W HX.o.n0 HX.o.n3 HE.o.1 HA.o.1 HE.o.2 (λz hz=>by have:=HA.o.2.2 z hz;omega) (HSE4.o.below hb) (HSL4.o.below hb)).mono ?_;rintro x w' ⟨z,rfl,h1,h2⟩;rw[HMM.o] at h1;have h3:=jc h1;obtain⟨ma,mc,rfl⟩:=cq h1;exact⟨ma,mc,rfl,h3,h2⟩
 have HRG4:Ic (mB p o N [(ia,m)]):=⟨⟨λx hx=>by rw[Hw] at hx;rw[hx];exact HM.o.1,⟨λx hx=>by simp at hx,trivial⟩,λx hx=>by rw[Hw] at hx;rw[hx];have:=HIAB.o;simp only;omega⟩,λx hx y hy=>by rw[Hw] at hx;rw[hx] at hy;have:=HM.o.2 y hy;omega,by simp⟩;have HVT4:Ic (∀W g,Below w6.heap.size w6 W->Pl W (.slice (some ⟨g,0,none⟩) 1 1) [(ia,m)]->Calls prog 46 #[az p N o ov,.slice (some ⟨g,0,none⟩) 1 1,.slice xa v.length xc] W λx w'=>∃ua uc,x=.returned (.slice ua (aN p o [(ia,m)] v).length uc)/\Vl w' (.slice ua (aN p o [(ia,m)] v).length uc) (aN p o [(ia,m)] v)/\Below W.heap.size W w'):=λW g hb h1=>by refine(pT p N o ov N _ _ [(ia,m)] v W ⟨hp1,hp2⟩ HX.o.o HX.o.n0 HX.o.n3 (by have:=HVS.o;omega) HRG4.o HV.o h1 ((HPV.o.below HD4.o).below hb)).mono ?_;rintro x w' ⟨z,rfl,h2,h3⟩;have h4:=h2;obtain⟨ua,uc,rfl,_⟩:=h2;exact⟨ua,uc,rfl,h4,h3⟩
 unfold az at HVT4;have KEEP4:Ic (∀W,Below w6.heap.size w6 W->(Ic (Below w6.heap.size w6 W)/\W.cell? ⟨w.heap.size,0,none⟩=some (.int .i64 p)/\W.cell? ⟨w.heap.size,1,none⟩=some (.int .i64 N)/\W.cell? ⟨w.heap.size,2,none⟩=some (.int .i64 o)/\W.cell? ⟨w.heap.size,3,none⟩=some (.int .i64 ov)/\W.cell? ⟨w2.heap.size,0,none⟩=some (.int .i64 a.1)/\W.cell? ⟨w2.heap.size,1,none⟩=some (.slice eaa a.2.length eac))):=
  λW hb=>⟨hb,ae x0 hb,ae x1 hb,ae x2 hb,ae x3 hb,ae y0 hb,ae y1 hb⟩
 clear x0 x1 x2 x3 y0 y1;go_upto_region 4 with fail;go_cut [12] from 31 to 44 (λs12 wx=>∃ua uc,s12=.slice ua (aN p o [(ia,m)] v).length uc/\Vl wx (.slice ua (aN p o [(ia,m)] v).length uc) (aN p o [(ia,m)] v)/\Below w6.heap.size w6 wx)
 case first=>
  have HB0:Ic (Below w6.heap.size w6 w6.drew):=(Hf _ _).drew;go_region_held (λW=>Ic (Below w6.heap.size w6 W)/\W.cell? ⟨w.heap.size,0,none⟩=some (.int .i64 p)/\W.cell? ⟨w.heap.size,1,none⟩=some (.int .i64 N)/\W.cell? ⟨w.heap.size,2,none⟩=some (.int .i64 o)/\W.cell? ⟨w.heap.size,3,none⟩=some (.int .i64 ov)/\W.cell? ⟨w2.heap.size,0,none⟩=some (.int .i64 a.1)/\W.cell? ⟨w2.heap.size,1,none⟩=some (.slice eaa a.2.length eac))
   (first|with_reducible exact KEEP4.o _ HB0.o|with_reducible exact KEEP4.o _ HBV.o|with_reducible exact KEEP4.o _ HBP.o|with_reducible exact KEEP4.o _ HBI.o|with_reducible exact KEEP4.o _ (HBP.o.trans (af.mono HBP.o.size)))
   (first|(go_at_call 71;refine(HIA.o _).mono ?_;rintro e9 wI ⟨rfl,hbI⟩;have HBI:=aa (HB0.o.trans (hbI.mono HB0.o.size));clear hbI)|(go_at_call 72;refine(HPO4.o wI HBI.o).mono ?_;rintro e9 wP ⟨ma,mc,rfl,hsP,hbP⟩;have HBP:=aa (HBI.o.trans (hbP.mono HBI.o.size));have HSP:=aa hsP;clear hbP hsP)|(go_at_call 46;refine(HVT4.o _ wP.heap.size (HBP.o.trans (af.mono HBP.o.size)) (k5 (by simp) (fU wP _ _) (HSP.o.below af))).mono ?_;rintro e9 wV ⟨ua,uc,rfl,hz,hbV⟩;have HBV:=aa ((HBP.o.trans (af.mono HBP.o.size)).trans (hbV.mono (HBP.o.trans (af.mono HBP.o.size)).size));have HZV:=aa hz;clear hz hbV))
  all_goals
   go_wp2_with fail;go_meet;exact⟨ua,uc,rfl,HZV.o,HBV.o⟩
 case rest=>
  rename World=>w7;obtain⟨va,vc,rfl,hza,hb7⟩:=hcut;have HZA:=aa hza;have HB67:=aa hb7;have HD5:Ic (Below w1.heap.size w1 w7):=HD4.o.trans (hb7.mono HD4.o.size);have HTB5:Ic (TB w7 w4.heap.size b.1 (.slice eba b.2.length ebc)):=HTBb.o.below hb7;have HSE5:=aa (HSE4.o.below hb7);have HSL5:=aa (HSB.o.below HD5.o);clear hza hb7 KEEP4 HVT4 HPO4;obtain⟨_,x0,x1,x2,x3⟩:=HX1.o.below HD5.o;obtain⟨y0,y1⟩:=HTB5.o;have HPO5:Ic (∀W,Below w7.heap.size w7 W->Calls prog 72 #[.slice ga e.length gc,.slice eba b.2.length ebc,.int .i64 2] W λx w'=>∃ma mc,x=.returned (.slice ma n.length mc)/\Sl w' (.slice ma n.length mc) n/\Below W.heap.size W w'):=λW hb=>by refine(pS W HX.o.n0 HX.o.n3 HE.o.1 HBf.o.1 HE.o.2 (λz hz=>by have:=HBf.o.2.2 z hz;omega) (HSE5.o.below hb) (HSL5.o.below hb)).mono ?_;rintro x w' ⟨z,rfl,h1,h2⟩;rw[HNN.o] at h1;have h3:=jc h1;obtain⟨ma,mc,rfl⟩:=cq h1;exact⟨ma,mc,rfl,h3,h2⟩
  have HRG5:Ic (mB p o N [(p-ib,n)]):=⟨⟨λx hx=>by rw[Hw] at hx;rw[hx];exact HN.o.1,⟨λx hx=>by simp at hx,trivial⟩,λx hx=>by rw[Hw] at hx;rw[hx];have:=HIAB.o;simp only;omega⟩,λx hx y hy=>by rw[Hw] at hx;rw[hx] at hy;have:=HN.o.2 y hy;omega,by simp⟩;have HVT5:Ic (∀W g,Below w7.heap.size w7 W->Pl W (.slice (some ⟨g,0,none⟩) 1 1) [(p-ib,n)]->Calls prog 46 #[az p N o ov,.slice (some ⟨g,0,none⟩) 1 1,.slice ya u.length yc] W λx w'=>∃ua uc,x=.returned (.slice ua (aN p o [(p-ib,n)] u).length uc)/\Vl w' (.slice ua (aN p o [(p-ib,n)] u).length uc) (aN p o [(p-ib,n)] u)/\Below W.heap.size W w'):=λW g hb h1=>by refine(pT p N o ov N _ _ [(p-ib,n)] u W ⟨hp1,hp2⟩ HX.o.o HX.o.n0 HX.o.n3 (by have:=HVS.o;omega) HRG5.o HU.o h1 ((HPU.o.below HD5.o).below hb)).mono ?_;rintro x w' ⟨z,rfl,h2,h3⟩;have h4:=h2;obtain⟨ua,uc,rfl,_⟩:=h2;exact⟨ua,uc,rfl,h4,h3⟩
  unfold az at HVT5;have KEEP5:Ic (∀W,Below w7.heap.size w7 W->(Ic (Below w7.heap.size w7 W)/\W.cell? ⟨w.heap.size,0,none⟩=some (.int .i64 p)/\W.cell? ⟨w.heap.size,1,none⟩=some (.int .i64 N)/\W.cell? ⟨w.heap.size,2,none⟩=some (.int .i64 o)/\W.cell? ⟨w.heap.size,3,none⟩=some (.int .i64 ov)/\W.cell? ⟨w4.heap.size,0,none⟩=some (.int .i64 b.1)/\W.cell? ⟨w4.heap.size,1,none⟩=some (.slice eba b.2.length ebc))):=
   λW hb=>⟨hb,ae x0 hb,ae x1 hb,ae x2 hb,ae x3 hb,ae y0 hb,ae y1 hb⟩
  clear x0 x1 x2 x3 y0 y1;go_upto_region 5 with fail;go_cut [13] from 45 to 61 (λs12 wx=>∃ua uc,s12=.slice ua (aN p o [(p-ib,n)] u).length uc/\Vl wx (.slice ua (aN p o [(p-ib,n)] u).length uc) (aN p o [(p-ib,n)] u)/\Below w7.heap.size w7 wx)
  case first=>
   have HB0:Ic (Below w7.heap.size w7 w7.drew):=(Hf _ _).drew;go_region_held (λW=>Ic (Below w7.heap.size w7 W)/\W.cell? ⟨w.heap.size,0,none⟩=some (.int .i64 p)/\W.cell? ⟨w.heap.size,1,none⟩=some (.int .i64 N)/\W.cell? ⟨w.heap.size,2,none⟩=some (.int .i64 o)/\W.cell? ⟨w.heap.size,3,none⟩=some (.int .i64 ov)/\W.cell? ⟨w4.heap.size,0,none⟩=some (.int .i64 b.1)/\W.cell? ⟨w4.heap.size,1,none⟩=some (.slice eba b.2.length ebc))
    (first|with_reducible exact KEEP5.o _ HB0.o|with_reducible exact KEEP5.o _ HBV.o|with_reducible exact KEEP5.o _ HBP.o|with_reducible exact KEEP5.o _ HBI.o|with_reducible exact KEEP5.o _ (HBP.o.trans (af.mono HBP.o.size)))
    (first|(go_at_call 71;refine(HIB.o _).mono ?_;rintro e9 wI ⟨rfl,hbI⟩;have HBI:=aa (HB0.o.trans (hbI.mono HB0.o.size));clear hbI)|(go_at_call 72;refine(HPO5.o wI HBI.o).mono ?_;rintro e9 wP ⟨ma,mc,rfl,hsP,hbP⟩;have HBP:=aa (HBI.o.trans (hbP.mono HBI.o.size));have HSP:=aa hsP;clear hbP hsP)|(go_at_call 46;refine(HVT5.o _ wP.heap.size (HBP.o.trans (af.mono HBP.o.size)) (by have hwp:IntKind.i64.wrap (p-ib)=p-ib:=(by rw[IntKind.wrap_i64];have:=HIAB.o;omega);rw[hwp];exact k5 (by simp) (fU wP _ _) (HSP.o.below af))).mono ?_;rintro e9 wV ⟨ua,uc,rfl,hz,hbV⟩;have HBV:=aa ((HBP.o.trans (af.mono HBP.o.size)).trans (hbV.mono (HBP.o.trans (af.mono HBP.o.size)).size));have HZV:=aa hz;clear hz hbV))
   all_goals
    go_wp2_with fail;go_meet;exact⟨ua,uc,rfl,HZV.o,HBV.o⟩
  case rest=>
   rename World=>w8;obtain⟨za,zc,rfl,hzb,hb8⟩:=hcut;have HD6:Ic (Below w1.heap.size w1 w8):=HD5.o.trans (hb8.mono HD5.o.size);have e1:(aN p o [(ia,m)] v).length=R:=by unfold aN;rw[Ia];exact HVS.o.1
   have e2:(aN p o [(p-ib,n)] u).length=R:=by unfold aN;rw[Ia];exact HVS.o.2
   have HSM:=aa (zY p N o ov N (.slice va (aN p o [(ia,m)] v).length vc) (.slice za (aN p o [(p-ib,n)] u).length zc) (aN p o [(ia,m)] v) (aN p o [(p-ib,n)] u) w8 ⟨hp1,hp2⟩ HX.o.o HX.o.n0 HX.o.n3 (by rw[e1,e2]) (by rw[e1];omega) (pU hp1 HRG4.o HV.o) (pU hp1 HRG5.o HU.o) (HZA.o.below hb8) hzb);obtain⟨_,x0,x1,x2,x3⟩:=HX1.o.below HD6.o;unfold az at HSM;clear e1 e2 hzb hb8 KEEP5 HVT5 HPO5;go_wp2_with (go_at_call 74;refine HSM.o.mono ?_;rintro e9 w9 ⟨z,rfl,hz,hb9⟩;have HZ9:=aa hz;have HB9:=aa hb9;clear hz hb9);go_ret;exact⟨_,rfl,HZ9.o,HB1.o.trans ((HD6.o.trans (HB9.o.mono HD6.o.size)).mono HB1.o.size)⟩
theorem zZ(x:Value)(fss:List (List Tm))(w:World)(hm:fss.length<=1000)(pf:Vl w x fss):Calls prog 30 #[x] w λe w'=>e=.returned (.bool (fss.all List.isEmpty))/\w'=w:=by
 have HX:=aa pf;obtain⟨ax,cx,rfl,_⟩:=pf;go_enter func30,ntmps30;go_wp2_with fail;go_loop [3] (λi=>∃k:Nat,k<=fss.length/\i=.int .i64 k/\(fss.take k).all List.isEmpty=true) (λi=>fss.length-(intOf i).toNat);case atStart=>exact⟨0,Hl _,rfl,by simp⟩
 case round=>
  obtain⟨k,hk,rfl,hno⟩:=hrel;have HNO:=aa hno;clear hno;by_cases hk2:k<fss.length
  ·obtain⟨b,off,fa,fc,rfl,hlt,c0,_⟩:=ez HX.o k hk2;have HS:=aa (nN fss k hk2);have HM:=aa (cG fss k hk2);generalize fss.getD k []=f at c0 HS HM;cases f with
   |nil=>
    have HN2:Ic ((fss.take (k+1)).all List.isEmpty=true):=by show _=_;rw[HS.o,List.all_append,HNO.o];rfl
    simp only[List.length_nil] at c0;go_wp2_with fail;go_round;case rel=>exact⟨k+1,by omega,by go_num,HN2.o⟩
    case measure=>simp[intOf];omega
   |cons t ts=>
    have HF:Ic (fss.all List.isEmpty=false):=by show _=_;rw[List.all_eq_false];exact⟨_,HM.o,by simp⟩
    have hpos:(0:Int)<((t::ts).length:Int):=by simp only[List.length_cons];omega
    generalize (t::ts).length=nn at c0 hpos;go_wp2_with fail;go_ret;exact⟨by rw[HF.o];rfl,rfl⟩
  ·have e:k=fss.length:=by omega
   subst e;rw[Hz (He _)] at HNO;go_wp2;go_ret;exact⟨by rw[HNO.o];rfl,rfl⟩
def jN(p o ov:Int)(R:Nat)(lss:List (List (List Tm)))(i k:Nat):Prop:=∀j a b f,aq o ov (lss.getD i []) (lss.getD i []).length=some (j,a)->aq o ov (lss.getD k []) (lss.getD k []).length=some (j,b)->Dv p o ov lss (jK p o R lss i k a b) f->aq o ov f.v f.v.length=none->∀m,f.l.getD m []=[]
theorem Aa{p o ov:Int}{lss:List (List (List Tm))}{a b c:DS}(h:Dv p o ov lss a b)(k:Dv p o ov lss a c)(hb:aq o ov b.v b.v.length=none)(hc:aq o ov c.v c.v.length=none):b=c:=by
 have eb:dK p o ov lss b=none:=by unfold dK;rw[hb]
 have ec:dK p o ov lss c=none:=by unfold dK;rw[hc]
 rcases (Dv.linear h k ec).first with e|⟨d,hd,_⟩
 ·exact e
 ·rw[eb] at hd;simp at hd
theorem Ab{p o ov:Int}{N R:Nat}(hx:bj p o ov N R){lss:List (List (List Tm))}{s:DS}(h:ef p o ov N R lss s):s.l.length<=1000:=by have:=hx.r;have:=h.ll;omega
theorem Ac(p o ov:Int)(N R:Nat)(lv:Value)(lss:List (List (List Tm)))(w:World)(hx:bj p o ov N R)(hl:cF p o N R lss)(hL:lss.length<=60)(hR1:1<=R)(hr:∀g∈lss,∀f∈g,cN p o N f)(h40:∀g∈lss,b9 p o N (λ_=>40) g)(hlv:Wl w lv lss):Calls prog 9 #[az p N o ov,lv] w λe w'=>∃B:Bool,e=.returned (.bool B)/\(B=true↔gm p o ov R lss)/\Below w.heap.size w w':=by
 have HX:=aa hx;have HLK:=aa hl;have HRR:=aa hr;have H40:=aa h40;have HY:=aa hlv;have hR40:=hx.r;obtain⟨ly,lc,rfl,_⟩:=hlv;obtain⟨w1,hw1⟩:∃w1,w1=w.alloc (.cells #[.int .i64 p,.int .i64 N,.int .i64 o,.int .i64 ov] 23):=⟨_,rfl⟩;have HB1:Ic (Below w.heap.size w w1):=by rw[hw1];exact af
 have HX1:Ic (aX w1 w.heap.size p N o ov):=by rw[hw1];exact aX.new w p N o ov _
 have HY1:=aa (HY.o.below HB1.o);clear hx hl hr h40;unfold az;go_enter func9,ntmps9;go_wp2_with fail;rw[<-hw1];clear hw1;go_loopw [5] (λs wr=>∃i:Nat,i<=lss.length/\s=.int .i64 i/\(∀i2 k,i2<i->k<i2->jN p o ov R lss i2 k)/\Below w1.heap.size w1 wr) (λs _=>lss.length-(intOf s).toNat);case atStart=>exact⟨0,Hl _,rfl,λi2 k h=>by omega,Hf _ _⟩
 case round=>
  obtain⟨i,hi,rfl,hno,hbr⟩:=hrel;have HNO:=aa hno;have HBR:=aa hbr;clear hno hbr;by_cases hi2:i<lss.length
  ·go_wp2_with fail;go_loopw [6] (λs wm=>∃k:Nat,k<=i/\s=.int .i64 k/\(∀k2,k2<k->jN p o ov R lss i k2)/\Below w1.heap.size w1 wm) (λs _=>i-(intOf s).toNat);case atStart=>exact⟨0,Hl _,rfl,λk h=>by omega,HBR.o⟩
   case round=>
    obtain⟨k,hk,rfl,hnk,hbm⟩:=hrel;rename World=>w3;have HNK:=aa hnk;have HB3:=aa hbm;clear hnk hbm;by_cases hk2:k<i
    ·have hkl:k<lss.length:=by omega
     obtain⟨b2,off2,va,vc,rfl,_,d0,hpv⟩:=jd HY1.o i hi2;obtain⟨b2',off2',ua,uc,hab,_,d1,hpu⟩:=jd HY1.o k hkl;simp only[H6,Addr.mk.injEq,and_true] at hab;obtain⟨e1,e2⟩:=hab;subst e1;subst e2;have mi:=de lss i hi2;have mk2:=de lss k hkl;have HPI:Ic (∀j a b,aq o ov (lss.getD i []) (lss.getD i []).length=some (j,a)->aq o ov (lss.getD k []) (lss.getD k []).length=some (j,b)->∀f,Dv p o ov lss (jK p o R lss i k a b) f->aq o ov f.v f.v.length=none->(∀m,f.l.getD m []=[])->jN p o ov R lss i k):=λj a b ha hb f h1 h2 h3 j2 a2 b3 f2 ha2 hb2 g1 g2=>by rw[ha] at ha2;rw[hb] at hb2;simp only[H6,Prod.mk.injEq] at ha2 hb2;obtain⟨rfl,rfl⟩:=ha2;obtain⟨_,rfl⟩:=hb2;rw[<-Aa h1 g1 h2 g2];exact h3
     have HPZ:Ic (gm p o ov R lss->∀j a b,aq o ov (lss.getD i []) (lss.getD i []).length=some (j,a)->aq o ov (lss.getD k []) (lss.getD k []).length=some (j,b)->∀f,Dv p o ov lss (jK p o R lss i k a b) f->aq o ov f.v f.v.length=none->∀m,f.l.getD m []=[]):=λhP j a b ha hb f h1 h2=>hP i k j a b f hk2 hi2 ha hb h1 h2;have HPF:Ic (¬jN p o ov R lss i k->¬gm p o ov R lss):=λh g=>h λj a b f ha hb=>g i k j a b f hk2 hi2 ha hb;have HPV:=aa (fun(h:jN p o ov R lss i k) k3 (h3:k3<k+1)=>(show jN p o ov R lss i k3 from by
      rcases Nat.lt_or_ge k3 k with h4|h4
      ·exact HNK.o k3 h4
      ·have:k3=k:=by omega
       rw[this];exact h))
     have HPN:Ic ((∀j a b,aq o ov (lss.getD i []) (lss.getD i []).length=some (j,a)->aq o ov (lss.getD k []) (lss.getD k []).length=some (j,b)->False)->jN p o ov R lss i k):=λh j a b f ha hb=>absurd (h j a b ha hb) id;have HIN:=aa (λj a b ha hb=>pO HX.o HLK.o H40.o (j:=j) (a:=a) (b:=b) hi2 hkl ha hb);have HBW:Ic (∀a b,jK p o R lss i k a b=⟨dT p o (lss.getD i []) (lss.getD k []) a b,List.replicate lss.length [],List.replicate R []⟩):=λ_ _=>rfl;have HGI:=aa (Hg (HLK.o.len _ mi) (HRR.o _ mi));have HGK:=aa (Hg (HLK.o.len _ mk2) (HRR.o _ mk2));generalize lss.getD i []=g at d0 hpv HPI HPN HPZ HIN HBW HGI;generalize lss.getD k []=h at d1 hpu HPI HPN HPZ HIN HBW HGK;have HPVi:=aa (hpv.below HB3.o);have HPVk:=aa (hpu.below HB3.o);have HLA:Ic (∀W,Below w3.heap.size w3 W->Calls prog 27 #[.agg #[.int .i64 p,.int .i64 N,.int .i64 o,.int .i64 ov],.slice va g.length vc] W λe w'=>∃ea en ec,e=.returned (.tuple #[.int .i64 (dV (aq o ov g g.length)),.agg #[.int .i64 (dk (aq o ov g g.length)),.slice ea en ec]])/\Below W.heap.size W w'):=λW hb=>by have hh:=kY w3 p N o ov N _ g W hb HX.o.ov HX.o.o HX.o.n0 HX.o.n3 (by have:=HGI.o.1;omega) HGI.o.2 HPVi.o;exact hh.mono λe w' ⟨ea,ec,h1,_,h3⟩=>⟨ea,_,ec,h1,h3⟩
     have HLB:Ic (∀w5,Below w3.heap.size w3 w5->∀W,Below w5.heap.size w5 W->Calls prog 27 #[.agg #[.int .i64 p,.int .i64 N,.int .i64 o,.int .i64 ov],.slice ua h.length uc] W λe w'=>∃ea en ec,e=.returned (.tuple #[.int .i64 (dV (aq o ov h h.length)),.agg #[.int .i64 (dk (aq o ov h h.length)),.slice ea en ec]])/\Below W.heap.size W w'):=λw5 h5 W hb=>by have hh:=kY w5 p N o ov N _ h W hb HX.o.ov HX.o.o HX.o.n0 HX.o.n3 (by have:=HGK.o.1;omega) HGK.o.2 (HPVk.o.below h5);exact hh.mono λe w' ⟨ea,ec,h1,_,h3⟩=>⟨ea,_,ec,h1,h3⟩
     have hd0:=ae d0 HB3.o;have hd1:=ae d1 HB3.o;obtain⟨_,x0,x1,x2,x3⟩:=HX1.o.below HB3.o;have KEEPA:Ic (∀W,Below w3.heap.size w3 W->(Ic (Below w3.heap.size w3 W)/\W.cell? ⟨w.heap.size,0,none⟩=some (.int .i64 p)/\W.cell? ⟨w.heap.size,1,none⟩=some (.int .i64 N)/\W.cell? ⟨w.heap.size,2,none⟩=some (.int .i64 o)/\W.cell? ⟨w.heap.size,3,none⟩=some (.int .i64 ov)/\W.cell? ⟨b2,off2+i,none⟩=some (.slice va g.length vc))):=λW hb=>⟨hb,ae x0 hb,ae x1 hb,ae x2 hb,ae x3 hb,ae hd0 hb⟩;have HD01:=aa (Hg hd0 hd1);have hiI:(i:Int)<(lss.length:Int):=by omega
     have hkI:(k:Int)<(lss.length:Int):=by omega
     clear d0 d1 hpv hpu hd0 hd1 x0 x1 x2 x3;generalize hLa:aq o ov g g.length=La at HLA HPI HPN HPZ HIN;generalize hLb:aq o ov h h.length=Lb at HLB HPI HPN HPZ HIN;have HLL:=aa (Hg hLa hLb);clear hLa hLb;go_upto_region 7 with fail;go_cut [7,8] from 24 to 32 (λsa sb wx=>∃(bb:Nat),sa=.int .i64 (dV La)/\sb=.pointer (some ⟨bb,0,none⟩)/\Below w3.heap.size w3 wx)
     case first=>
      have HB0:Ic (Below w3.heap.size w3 w3.drew):=(Hf _ _).drew;have HBA:Ic (Below w3.heap.size w3 (w3.drew.alloc (.cells #[.int .i64 0,.slice none 0 0] 54))):=HB0.o.trans (af.mono (He _));have HBB:Ic (Below w3.heap.size w3 (w3.alloc (.cells #[.int .i64 0,.slice none 0 0] 54)).drew):=af.drew;have HZA:Ic (TZ (w3.drew.alloc (.cells #[.int .i64 0,.slice none 0 0] 54)) w3.heap.size):=ig w3.drew;have HZB:Ic (TZ (w3.alloc (.cells #[.int .i64 0,.slice none 0 0] 54)).drew w3.heap.size):=(ig w3).below (Hf _ _).drew;have LAYB:Ic (∀w8 (v0 v1:Value),Below w3.heap.size w3 w8->Below w3.heap.size w3 ((w8.setCell ⟨w3.heap.size,0,none⟩ v0).setCell ⟨w3.heap.size,1,none⟩ v1)):=λw8 v0 v1 h=>(h.setCell (He _) _).setCell (He _) _;go_region_held (λW=>Ic (Below w3.heap.size w3 W)/\W.cell? ⟨w.heap.size,0,none⟩=some (.int .i64 p)/\W.cell? ⟨w.heap.size,1,none⟩=some (.int .i64 N)/\W.cell? ⟨w.heap.size,2,none⟩=some (.int .i64 o)/\W.cell? ⟨w.heap.size,3,none⟩=some (.int .i64 ov)/\W.cell? ⟨b2,off2+i,none⟩=some (.slice va g.length vc))
       (first|with_reducible exact KEEPA.o _ HB0.o|with_reducible exact KEEPA.o _ HBA.o|with_reducible exact KEEPA.o _ HBB.o|with_reducible exact KEEPA.o _ HB8.o|with_reducible exact KEEPA.o _ (HB8.o.trans (af.mono HB8.o.size))|with_reducible exact KEEPA.o _ (LAYB.o _ _ _ HB8.o))
       (first|(go_at_call 27;refine(HLA.o _ HB0.o).mono ?_;rintro e8 w8 ⟨ea,en,ec,rfl,hb8⟩;have HB8:=aa (HB0.o.trans (hb8.mono HB0.o.size));clear hb8)|(go_at_call 27;refine(HLA.o _ HBA.o).mono ?_;rintro e8 w8 ⟨ea,en,ec,rfl,hb8⟩;have HB8:=aa (HBA.o.trans (hb8.mono HBA.o.size));have HZ8:=aa (HZA.o.below hb8);clear hb8;have y0:=Hc HZ8.o 0 (by simp);have y1:=Hc HZ8.o 1 (by simp);have z0:=Hb HZ8.o 0;have z1:=Hb HZ8.o 1)|(go_at_call 27;refine(HLA.o _ HBB.o).mono ?_;rintro e8 w8 ⟨ea,en,ec,rfl,hb8⟩;have HB8:=aa (HBB.o.trans (hb8.mono HBB.o.size));have HZ8:=aa (HZB.o.below hb8);clear hb8;have y0:=Hc HZ8.o 0 (by simp);have y1:=Hc HZ8.o 1 (by simp);have z0:=Hb HZ8.o 0;have z1:=Hb HZ8.o 1))
      all_goals
       go_wp2_with fail;go_meet;first
        |exact⟨_,rfl,rfl,HB8.o.trans (af.mono HB8.o.size)⟩
        |exact⟨_,rfl,rfl,LAYB.o _ _ _ HB8.o⟩
     case rest=>
      rename World=>w4;obtain⟨bb1,rfl,rfl,hb4⟩:=hcut;have HB34:=aa hb4;have HB4:Ic (Below w1.heap.size w1 w4):=HB3.o.trans (hb4.mono HB3.o.size);have HLB4:=aa (HLB.o w4 hb4);obtain⟨_,x0,x1,x2,x3⟩:=HX1.o.below HB4.o;have hd1:=ae HD01.o.2 hb4;have KEEPB:Ic (∀W,Below w4.heap.size w4 W->(Ic (Below w4.heap.size w4 W)/\W.cell? ⟨w.heap.size,0,none⟩=some (.int .i64 p)/\W.cell? ⟨w.heap.size,1,none⟩=some (.int .i64 N)/\W.cell? ⟨w.heap.size,2,none⟩=some (.int .i64 o)/\W.cell? ⟨w.heap.size,3,none⟩=some (.int .i64 ov)/\W.cell? ⟨b2,off2+k,none⟩=some (.slice ua h.length uc))):=λW hb=>⟨hb,ae x0 hb,ae x1 hb,ae x2 hb,ae x3 hb,ae hd1 hb⟩;clear x0 x1 x2 x3 hd1 hb4 KEEPA HLA HLB;go_upto_region 8 with fail;go_cut [9,10] from 33 to 41 (λsa sb wx=>∃(bb:Nat),sa=.int .i64 (dV Lb)/\sb=.pointer (some ⟨bb,0,none⟩)/\Below w4.heap.size w4 wx)
      case first=>
       have HB0:Ic (Below w4.heap.size w4 w4.drew):=(Hf _ _).drew;have HBA:Ic (Below w4.heap.size w4 (w4.drew.alloc (.cells #[.int .i64 0,.slice none 0 0] 54))):=HB0.o.trans (af.mono (He _));have HBB:Ic (Below w4.heap.size w4 (w4.alloc (.cells #[.int .i64 0,.slice none 0 0] 54)).drew):=af.drew;have HZA:Ic (TZ (w4.drew.alloc (.cells #[.int .i64 0,.slice none 0 0] 54)) w4.heap.size):=ig w4.drew;have HZB:Ic (TZ (w4.alloc (.cells #[.int .i64 0,.slice none 0 0] 54)).drew w4.heap.size):=(ig w4).below (Hf _ _).drew;have LAYB:Ic (∀w8 (v0 v1:Value),Below w4.heap.size w4 w8->Below w4.heap.size w4 ((w8.setCell ⟨w4.heap.size,0,none⟩ v0).setCell ⟨w4.heap.size,1,none⟩ v1)):=λw8 v0 v1 h=>(h.setCell (He _) _).setCell (He _) _;go_region_held (λW=>Ic (Below w4.heap.size w4 W)/\W.cell? ⟨w.heap.size,0,none⟩=some (.int .i64 p)/\W.cell? ⟨w.heap.size,1,none⟩=some (.int .i64 N)/\W.cell? ⟨w.heap.size,2,none⟩=some (.int .i64 o)/\W.cell? ⟨w.heap.size,3,none⟩=some (.int .i64 ov)/\W.cell? ⟨b2,off2+k,none⟩=some (.slice ua h.length uc))
        (first|with_reducible exact KEEPB.o _ HB0.o|with_reducible exact KEEPB.o _ HBA.o|with_reducible exact KEEPB.o _ HBB.o|with_reducible exact KEEPB.o _ HB8.o|with_reducible exact KEEPB.o _ (HB8.o.trans (af.mono HB8.o.size))|with_reducible exact KEEPB.o _ (LAYB.o _ _ _ HB8.o))
        (first|(go_at_call 27;refine(HLB4.o _ HB0.o).mono ?_;rintro e8 w8 ⟨ea,en,ec,rfl,hb8⟩;have HB8:=aa (HB0.o.trans (hb8.mono HB0.o.size));clear hb8)|(go_at_call 27;refine(HLB4.o _ HBA.o).mono ?_;rintro e8 w8 ⟨ea,en,ec,rfl,hb8⟩;have HB8:=aa (HBA.o.trans (hb8.mono HBA.o.size));have HZ8:=aa (HZA.o.below hb8);clear hb8;have y0:=Hc HZ8.o 0 (by simp);have y1:=Hc HZ8.o 1 (by simp);have z0:=Hb HZ8.o 0;have z1:=Hb HZ8.o 1)|(go_at_call 27;refine(HLB4.o _ HBB.o).mono ?_;rintro e8 w8 ⟨ea,en,ec,rfl,hb8⟩;have HB8:=aa (HBB.o.trans (hb8.mono HBB.o.size));have HZ8:=aa (HZB.o.below hb8);clear hb8;have y0:=Hc HZ8.o 0 (by simp);have y1:=Hc HZ8.o 1 (by simp);have z0:=Hb HZ8.o 0;have z1:=Hb HZ8.o 1))
       all_goals
        go_wp2_with fail;go_meet;first
         |exact⟨_,rfl,rfl,HB8.o.trans (af.mono HB8.o.size)⟩
         |exact⟨_,rfl,rfl,LAYB.o _ _ _ HB8.o⟩
      case rest=>
       rename World=>w5;obtain⟨bb2,rfl,rfl,hb5⟩:=hcut;have HB45:=aa hb5;have HB35:Ic (Below w3.heap.size w3 w5):=HB34.o.trans (hb5.mono HB34.o.size);have HB5:Ic (Below w1.heap.size w1 w5):=HB4.o.trans (hb5.mono HB4.o.size);clear hb5 KEEPB HLB4;cases La with
       |none=>
        obtain⟨mm,hm1⟩:∃mm:Int,dV none=mm:=⟨_,rfl⟩;have hm0:mm<0:=by rw[<-hm1];decide
        have hd:decide (mm<0)=true:=Hi hm0;rw[hm1];clear hm1;have HNX:=aa (HPV.o (HPN.o (λj a b h1 h2=>by simp at h1)));go_wp2_with fail;go_roundw;case rel=>exact⟨k+1,by omega,by go_num,HNX.o,HB5.o⟩
        case measure=>simp[intOf];omega
       |some qa0=>
        obtain⟨j,a⟩:=qa0;rw[jO];have hd:decide ((j:Int)<0)=false:=Hh (by omega);cases Lb with
        |none=>
         obtain⟨mm,hm1⟩:∃mm:Int,dV none=mm:=⟨_,rfl⟩;have hm0:mm<0:=by rw[<-hm1];decide
         have hq:((j:Int) !=mm)=true:=by simp;omega
         rw[hm1];clear hm1;have HNX:=aa (HPV.o (HPN.o (λj a b h1 h2=>by simp at h2)));go_wp2_with fail;go_roundw;case rel=>exact⟨k+1,by omega,by go_num,HNX.o,HB5.o⟩
         case measure=>simp[intOf];omega
        |some qb0=>
         obtain⟨j2,b⟩:=qb0;rw[jO];by_cases hjj:j=j2
         ·subst hjj;have hq:((j:Int) !=(j:Int))=false:=by simp
          have HDI:Ic (ef p o ov N R lss ⟨dT p o g h a b,List.replicate lss.length [],List.replicate R []⟩):=by have hh:=HIN.o j a b rfl rfl;rw[HBW.o] at hh;exact hh
          have HBT:Ic (∀W,Below w5.heap.size w5 W->Calls prog 29 #[.agg #[.int .i64 p,.int .i64 N,.int .i64 o,.int .i64 ov],.slice va g.length vc,.slice ua h.length uc] W λe w'=>∃za zc,e=.returned (.slice za (dT p o g h a b).length zc)/\Vl w' (.slice za (dT p o g h a b).length zc) (dT p o g h a b)/\Below W.heap.size W w'):=λW hb=>by refine(zX p o ov N R j _ _ g h a b W HX.o HGI.o.2 HGK.o.2 HGI.o.1 HGK.o.1 HLL.o.1 HLL.o.2 ((HPVi.o.below HB35.o).below hb) ((HPVk.o.below HB35.o).below hb)).mono ?_;rintro e w' ⟨z,rfl,h1,h2⟩;have h3:=h1;obtain⟨za,zc,rfl,_⟩:=h1;exact⟨za,zc,rfl,h3,h2⟩
          have HDO:Ic (∀W za zc,Below w5.heap.size w5 W->Vl W (.slice za (dT p o g h a b).length zc) (dT p o g h a b)->Calls prog 28 #[.agg #[.int .i64 p,.int .i64 N,.int .i64 o,.int .i64 ov],.slice za (dT p o g h a b).length zc,.slice (some ⟨b2,off2,none⟩) lss.length lc] W λe w'=>∃(qa:Option Addr)(qn qc:Nat)(xa:Option Addr)(xc:Nat)(s:DS),e=.returned (.tuple #[.slice qa qn qc,.slice xa s.l.length xc])/\Vl w' (.slice xa s.l.length xc) s.l/\Dv p o ov lss ⟨dT p o g h a b,List.replicate lss.length [],List.replicate R []⟩ s/\s.l.length<=1000/\aq o ov s.v s.v.length=none/\Below W.heap.size W w'):=λW za zc hb hz=>by refine(Ad p o ov N R _ _ (dT p o g h a b) lss W HX.o HLK.o hL HRR.o HDI.o.vl hR1 HDI.o hz ((HY1.o.below HB5.o).below hb)).mono ?_;rintro e w' ⟨qv,xv,s,rfl,hq,hxv,hdv,hiv,hld,hb2⟩;have hxv2:=hxv;obtain⟨qa,qc,rfl,_⟩:=hq;obtain⟨xa,xc,rfl,_⟩:=hxv;exact⟨qa,_,qc,xa,xc,s,rfl,hxv2,hdv,Ab HX.o hiv,hld,hb2⟩
          obtain⟨_,x0,x1,x2,x3⟩:=HX1.o.below HB5.o;have hd0:=ae HD01.o.1 HB35.o;have hd1:=ae HD01.o.2 HB35.o;have KEEPC:Ic (∀W,Below w5.heap.size w5 W->(Ic (Below w5.heap.size w5 W)/\W.cell? ⟨w.heap.size,0,none⟩=some (.int .i64 p)/\W.cell? ⟨w.heap.size,1,none⟩=some (.int .i64 N)/\W.cell? ⟨w.heap.size,2,none⟩=some (.int .i64 o)/\W.cell? ⟨w.heap.size,3,none⟩=some (.int .i64 ov)/\W.cell? ⟨b2,off2+i,none⟩=some (.slice va g.length vc)/\W.cell? ⟨b2,off2+k,none⟩=some (.slice ua h.length uc))):=λW hb=>⟨hb,ae x0 hb,ae x1 hb,ae x2 hb,ae x3 hb,ae hd0 hb,ae hd1 hb⟩;clear x0 x1 x2 x3 hd0 hd1;go_upto_region 10 with fail;go_cut [12] from 49 to 64 (λs12 wx=>∃(xa:Option Addr)(xc:Nat)(s:DS),s12=.slice xa s.l.length xc/\Vl wx (.slice xa s.l.length xc) s.l/\Dv p o ov lss ⟨dT p o g h a b,List.replicate lss.length [],List.replicate R []⟩ s/\s.l.length<=1000/\aq o ov s.v s.v.length=none/\Below w5.heap.size w5 wx)
          case first=>
           have HB0:Ic (Below w5.heap.size w5 w5.drew):=(Hf _ _).drew;go_region_held (λW=>Ic (Below w5.heap.size w5 W)/\W.cell? ⟨w.heap.size,0,none⟩=some (.int .i64 p)/\W.cell? ⟨w.heap.size,1,none⟩=some (.int .i64 N)/\W.cell? ⟨w.heap.size,2,none⟩=some (.int .i64 o)/\W.cell? ⟨w.heap.size,3,none⟩=some (.int .i64 ov)/\W.cell? ⟨b2,off2+i,none⟩=some (.slice va g.length vc)/\W.cell? ⟨b2,off2+k,none⟩=some (.slice ua h.length uc))
            (first|with_reducible exact KEEPC.o _ HB0.o|with_reducible exact KEEPC.o _ HBV.o|with_reducible exact KEEPC.o _ HBZ.o)
            (first|(go_at_call 29;refine(HBT.o _ HB0.o).mono ?_;rintro e9 wZ ⟨za,zc,rfl,hz,hbZ⟩;have HBZ:=aa (HB0.o.trans (hbZ.mono HB0.o.size));have HZZ:=aa hz;clear hz hbZ)|(go_at_call 28;refine(HDO.o wZ za zc HBZ.o HZZ.o).mono ?_;rintro e9 wV ⟨qa,qn,qc,xa,xc,s,rfl,hs1,hs2,hs3,hs4,hbV⟩;have HBV:=aa (HBZ.o.trans (hbV.mono HBZ.o.size));have HSS:=aa (Hg hs1 (Hg hs2 (Hg hs3 hs4)));clear hs1 hs2 hs3 hs4 hbV))
           all_goals
            go_wp2_with fail;go_meet;exact⟨xa,xc,s,rfl,HSS.o.1,HSS.o.2.1,HSS.o.2.2.1,HSS.o.2.2.2,HBV.o⟩
          case rest=>
           rename World=>w6;obtain⟨xa,xc,s,rfl,hs1,hs2,hs3,hs4,hb6⟩:=hcut;have HB6:Ic (Below w1.heap.size w1 w6):=HB5.o.trans (hb6.mono HB5.o.size);have HEM:=aa (zZ _ s.l w6 hs3 hs1);have HDVS:Ic (Dv p o ov lss (jK p o R lss i k a b) s):=by show Dv _ _ _ _ _ _;rw[HBW.o];exact hs2
           have HLS:=aa hs4;clear hs1 hs2 hs3 hs4 hb6;cases hem:s.l.all List.isEmpty with
           |true=>
            rw[hem] at HEM;have hall:∀m,s.l.getD m []=[]:=λm=>by
             by_cases hm:m<s.l.length
             ·have h9:=List.all_eq_true.1 hem _ (cG s.l m hm);simpa using h9
             ·rw[Hs,Hu (by omega)];rfl
            have HNX:=aa (HPV.o (HPI.o j a b rfl rfl s HDVS.o HLS.o hall));clear hall hem;go_wp2_with (go_at_call 30;refine HEM.o.mono ?_;rintro e9 w7 ⟨rfl,rfl⟩);go_roundw;case rel=>exact⟨k+1,by omega,by go_num,HNX.o,HB6.o⟩
            case measure=>simp[intOf];omega
           |false=>
            rw[hem] at HEM;have HNP:Ic (¬gm p o ov R lss):=λhP=>by rw[List.all_eq_false] at hem;obtain⟨f9,hf9,hne⟩:=hem;obtain⟨m,hm,rfl⟩:=List.getElem_of_mem hf9;have h9:=HPZ.o hP j a b rfl rfl s HDVS.o HLS.o m;rw[Hs,Ht hm] at h9;simp only[Option.getD_some] at h9;rw[h9] at hne;simp at hne
            clear hem;go_wp2_with (go_at_call 30;refine HEM.o.mono ?_;rintro e9 w7 ⟨rfl,rfl⟩);go_ret;exact⟨false,rfl,⟨λh=>by simp at h,λh=>absurd h HNP.o⟩,HB1.o.trans (HB6.o.mono HB1.o.size)⟩
         ·have hq:((j:Int) !=(j2:Int))=true:=by simp;omega
          have HNX:=aa (HPV.o (HPN.o (λj a b h1 h2=>by simp only[H6,Prod.mk.injEq] at h1 h2;exact hjj (h1.1.trans h2.1.symm))));go_wp2_with fail;go_roundw;case rel=>exact⟨k+1,by omega,by go_num,HNX.o,HB5.o⟩
          case measure=>simp[intOf];omega
    ·have e:k=i:=by omega
     subst e;have HN2:Ic (∀i2 k2,i2<k+1->k2<i2->jN p o ov R lss i2 k2):=λi2 k2 h1 h2=>by
      rcases Nat.lt_or_ge i2 k with h4|h4
      ·exact HNO.o i2 k2 h4 h2
      ·have:i2=k:=by omega
       rw[this] at h2⊢;exact HNK.o k2 h2
     go_wp2_with fail;go_roundw;case rel=>exact⟨k+1,by omega,by go_num,HN2.o,HB3.o⟩
     case measure=>simp[intOf];omega
  ·have e:i=lss.length:=by omega
   subst e;have HT:Ic (gm p o ov R lss):=λi k j a b f h1 h2 ha hb hd he=>HNO.o i k h2 h1 j a b f ha hb hd he;go_wp2;go_ret;exact⟨true,rfl,⟨λ_=>HT.o,λ_=>rfl⟩,HB1.o.trans (HBR.o.mono HB1.o.size)⟩
end Go.Proofs.YtglijodcbdcngaaGreat
