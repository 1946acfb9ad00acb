/- Differences and sums: the count of each degree is the sum of the numerator's numbers times how many are free. -/
import Derived.Test.YteimdcndjjclnaaGreatMY
set_option maxHeartbeats 4000000
set_option maxRecDepth 100000
namespace Go.Proofs.YteimdcndjjclnaaGreat
set_option linter.all false
open Go.Proofs.Tryz Go.RowKit
def cq(f:Nat->Int):Nat->Int
 |0=>0
 |n+1=>cq f n+f n
def ei(g:Nat->Nat->Int)(t:Nat):Int:=cq (λk=>g k (t-k)) (t+1)
theorem oG{f g:Nat->Int}:∀{n:Nat},(∀k,k<n->f k=g k)->cq f n=cq g n
 |0,_=>rfl
 |n+1,h=>by simp only[cq];rw[oG λk hk=>h k (by omega),h n (by omega)]
theorem tV(f g:Nat->Int):∀n,cq (λk=>f k-g k) n=cq f n-cq g n
 |0=>rfl
 |n+1=>by simp only[cq];rw[tV f g n];omega
theorem tW{f:Nat->Int}{n:Nat}(h:∀k,k<n->f k=0):cq f n=0:=by
 induction n with
 |zero=>rfl
 |succ n ih=>simp only[cq];rw[ih λk hk=>h k (by omega),h n (by omega)];rfl
theorem qE(f:Nat->Int):∀n,cq f (n+1)=f 0+cq (λk=>f (k+1)) n
 |0=>by simp[cq]
 |n+1=>by rw[cq,qE f n];simp only[cq];omega
theorem zr{f:Nat->Int}{m n:Nat}(h:∀k,m<=k->k<n->f k=0)(hm:m<=n):cq f n=cq f m:=by
 induction n with
 |zero=>rw[show m=0 by omega]
 |succ n ih=>
  by_cases e:m=n+1
  .rw[e]
  .simp only[cq];rw[ih (λk h1 h2=>h k h1 (by omega)) (by omega),h n (by omega) (by omega)];omega
theorem zt(g:Nat->Nat->Int):ck (ei g)=ei λk=>ck (g k):=by
 funext t;cases t with
 |zero=>simp[ck,ei,cq]
 |succ t=>
  unfold ck ei;rw[LI (by omega)];simp only[cq,Nat.add_sub_cancel,Nat.sub_self,Nat.lt_irrefl,if_false];have e:cq (λk=>if 0<t+1-k then g k (t+1-k)-g k (t+1-k-1) else g k (t+1-k)) t=cq (λk=>g k (t+1-k)) t-cq (λk=>g k (t-k)) t:=by rw[<-tV];exact oG λk hk=>by rw[LI (by omega),show t+1-k-1=t-k by omega]
  rw[e];simp only[show t+1-t=1 by omega,Nat.lt_add_one,if_true,show (1:Nat)-1=0 by rfl];omega
theorem tX(g:Nat->Nat->Int):ck (ei g)=ei λk s=>if 0<k then g k s-g (k-1) s else g k s:=by
 funext t;cases t with
 |zero=>simp[ck,ei,cq]
 |succ t=>unfold ck ei;rw[LI (by omega),qE,qE (λk=>if 0<k then _ else _)];simp only[Nat.add_sub_cancel,Nat.sub_zero,Nat.lt_irrefl,if_false,Nat.zero_lt_succ,if_true,Nat.add_sub_add_right];rw[tV];omega
theorem zu(g:Nat->Nat->Int):∀n,aR (ei g) n=ei λk=>aR (g k) n
 |0=>rfl
 |n+1=>by simp only[aR];rw[zu g n,zt]
theorem GL(a:Int)(f:Nat->Int):ck (λs=>a*f s)=λs=>a*ck f s:=by
 funext s;unfold ck;split
 .rw[Int.mul_sub]
 .rfl
theorem zv(h b:Nat->Int):(ei λk s=>ck h k*b s)=ei λk s=>h k*ck b s:=by
 have e1:=tX λk s=>h k*b s;have e2:=zt λk s=>h k*b s;rw[e2] at e1;have e3:(λk s=>if 0<k then h k*b s-h (k-1)*b s else h k*b s)=λk s=>ck h k*b s:=by
  funext k s;unfold ck;split
  .rw[Int.sub_mul]
  .rfl
 rw[e3] at e1;rw[<-e1];congr 1;funext k;exact GL _ _
def im(n t:Nat):Int:=((cK n t).length:Nat)
theorem tY(f:Nat->Nat):∀n,((((List.range n).map f).sum:Nat):Int)=cq (λk=>(f k:Int)) n
 |0=>rfl
 |n+1=>by rw[List.range_succ,LO,List.sum_append];simp only[cq,List.map_cons,List.map_nil,List.sum_cons,List.sum_nil];rw[<-tY f n];omega
theorem GM(n:Nat):im (n+2)=ei λ_ s=>im (n+1) s:=by funext t;unfold im ei;simp only[cK];rw[List.length_flatMap,tY];exact oG λk _=>by rw[LD]
theorem GN(n:Nat):ck (im (n+2))=im (n+1):=by rw[GM,tX];funext t;unfold ei;rw[qE,tW λk _=>by simp only;rw[LI (by omega)];omega];simp
theorem xu(F:Nat->Int):(ei λk s=>ck F k*im 1 s)=F:=by
 rw[zv];funext t;unfold ei;simp only[cq];rw[tW λk hk=>by
  rw[show ck (im 1) (t-k)=0 by unfold ck im;rw[LI (by omega)];simp[cK]];omega]
 simp[ck,im,cK]
theorem dy(F:Nat->Int):∀n,(ei λk s=>aR F (n+1) k*im (n+1) s)=F
 |0=>xu F
 |n+1=>by have e:aR F (n+2)=ck (aR F (n+1)):=rfl;rw[e,zv,GN];exact dy F n
def cT(c:Gb.Mo)(P:Gb.Mo->Bool):Prop:=∀e e':Gb.Mo,(e.1=e'.1\/c.1<=e.1/\c.1<=e'.1)->(e.2.1=e'.2.1\/c.2.1<=e.2.1/\c.2.1<=e'.2.1)->(e.2.2=e'.2.2\/c.2.2<=e.2.2/\c.2.2<=e'.2.2)->P e=P e'
def io(P:Gb.Mo->Bool)(n t:Nat):Int:=(((cK n t).filter P).length:Nat)
theorem GO(P:Gb.Mo->Bool)(n:Nat):io P (n+2)=ei λk s=>io (λe=>P (b9 (n+1) k e)) (n+1) s:=by funext t;unfold io ei;simp only[cK];rw[List.filter_flatMap,List.length_flatMap,tY];exact oG λk _=>by rw[List.filter_map,LD];rfl
theorem cT.set{c:Gb.Mo}{P:Gb.Mo->Bool}(h:cT c P)(n k:Nat):cT c λe=>P (b9 n k e):=λe e' h1 h2 h3=>by refine h _ _ ?_ ?_ ?_<;>unfold b9<;>split<;>simp[h1,h2,h3]
theorem zw{c:Gb.Mo}{P:Gb.Mo->Bool}(h:cT c P){t:Nat}(ht:c.1<t):aR (io P 1) 1 t=0:=by simp only[aR];unfold ck io;rw[LI (by omega)];simp only[cK];have e:P (t,0,0)=P (t-1,0,0):=h _ _ (L3 (by simp only;omega)) (L0 rfl) (L0 rfl);simp only[List.filter_cons,e,List.filter_nil];split<;>simp
theorem zx{c:Gb.Mo}{P:Gb.Mo->Bool}(h:cT c P)(n a b:Nat)(ih:∀k t,a<t->aR (io (λe=>P (b9 (n+1) k e)) (n+1)) (n+1) t=0)(hst:∀k,b<=k->∀e,P (b9 (n+1) k e)=P (b9 (n+1) b e)){t:Nat}(ht:a+b<t):aR (io P (n+2)) (n+2) t=0:=by
 have e:aR (io P (n+2)) (n+2)=ck (aR (io P (n+2)) (n+1)):=rfl;rw[e,GO,zu,tX];unfold ei;refine tW λk hk=>?_;simp only;by_cases h1:a<t-k
 .rw[ih k _ h1];split
  .rw[ih (k-1) _ h1];rfl
  .rfl
 .rw[LI (by omega)];have e1:(λe=>P (b9 (n+1) k e))=λe=>P (b9 (n+1) (k-1) e):=by funext e;rw[hst k (by omega),hst (k-1) (by omega)]
  rw[e1];omega
theorem GP{c:Gb.Mo}{P:Gb.Mo->Bool}(h:cT c P){N:Nat}(hN:N=1\/N=2\/N=3){t:Nat}(ht:fM c<t):aR (io P N) N t=0:=by
 unfold fM at ht;have two:∀{Q:Gb.Mo->Bool},cT c Q->∀t,c.1+c.2.1<t->aR (io Q 2) 2 t=0:=fun {Q} hQ t h2=>zx hQ 0 c.1 c.2.1 (λk t h3=>zw (hQ.set 1 k) h3) (λk hk e=>hQ _ _ (L0 (by simp[b9])) (L3 (by simp[b9,hk])) (L0 (by simp[b9]))) h2
 rcases hN with rfl|rfl|rfl
 .exact zw h (by omega)
 .exact two h t (by omega)
 .exact zx h 1 (c.1+c.2.1) c.2.2 (λk t h3=>two (h.set 2 k) t h3) (λk hk e=>h _ _ (L0 (by simp[b9])) (L0 (by simp[b9])) (L3 (by simp[b9,hk]))) (by omega)
theorem GQ:∀{es:List Gb.Mo}{l:Gb.Mo},l∈es->l.1<=(dS es).1/\l.2.1<=(dS es).2.1/\l.2.2<=(dS es).2.2:=by
 have key:∀(es:List Gb.Mo)(a:Gb.Mo),(a.1<=(es.foldl de a).1/\a.2.1<=(es.foldl de a).2.1/\a.2.2<=(es.foldl de a).2.2)/\∀l∈es,l.1<=(es.foldl de a).1/\l.2.1<=(es.foldl de a).2.1/\l.2.2<=(es.foldl de a).2.2:=by
  intro es;induction es with
  |nil=>intro a;simp
  |cons x es ih=>
   intro a;obtain⟨h1,h2⟩:=ih (de a x);simp only[List.foldl_cons];unfold de at h1;simp only at h1;refine⟨?_,λl hl=>?_⟩
   .unfold de;omega
   .rcases LL.1 hl with rfl|hl
    .unfold de;omega
    .exact h2 l hl
 exact fun {es l} hl=>(key es _).2 l hl
theorem GR(es:List Gb.Mo):cT (dS es) λe=>!es.any λl=>cd l e:=λe e' h1 h2 h3=>by
 have e:∀l∈es,cd l e=cd l e':=λl hl=>by have g:=GQ hl;unfold cd;have a1:decide (l.1<=e.1)=decide (l.1<=e'.1):=decide_eq_decide.2 (by omega);have a2:decide (l.2.1<=e.2.1)=decide (l.2.1<=e'.2.1):=decide_eq_decide.2 (by omega);have a3:decide (l.2.2<=e.2.2)=decide (l.2.2<=e'.2.2):=decide_eq_decide.2 (by omega);rw[a1,a2,a3]
 show (!es.any λl=>cd l _)=(!es.any λl=>cd l _);refine congrArg _ ?_;rw[Bool.eq_iff_iff,List.any_eq_true,List.any_eq_true];exact⟨fun⟨l,h,k⟩=>⟨l,h,by rw[<-e l h];exact k⟩,fun⟨l,h,k⟩=>⟨l,h,by rw[e l h];exact k⟩⟩
def kR(s:Nat)(f:Nat->Int):Nat->Int:=λj=>if j<s then 0 else f (j-s)
theorem GS(s:Nat)(f:Nat->Int):ck (kR s f)=kR s (ck f):=by
 funext j;unfold ck kR;by_cases h:j<s
 .simp only[h,if_true];rw[LI (show j-1<s by omega)];split<;>rfl
 .simp only[h,if_false];by_cases h2:0<j
  .rw[LI h2];by_cases h3:j=s
   .rw[LI (by omega),LH (by omega)];omega
   .rw[LH (by omega),LI (by omega),show j-1-s=j-s-1 by omega]
  .rw[LH h2,LH (by omega)]
theorem zy(s:Nat)(f:Nat->Int):∀n,aR (kR s f) n=kR s (aR f n)
 |0=>rfl
 |n+1=>by simp only[aR];rw[zy s f n,GS]
theorem GU(f g:Nat->Int):ck (λj=>f j+g j)=λj=>ck f j+ck g j:=by funext j;unfold ck;split<;>simp only<;>omega
theorem zA(f g:Nat->Int):∀n,aR (λj=>f j+g j) n=λj=>aR f n j+aR g n j
 |0=>rfl
 |n+1=>by simp only[aR];rw[zA f g n,GU]
theorem GV{N:Nat}{ds:List Int}(ess:Nat->List Gb.Mo){pl:Nat}(h0:0<=ds.getD pl 0):(λj:Nat=>(jf N ds ess j pl:Int))=kR (ds.getD pl 0).toNat (io (λe=>!(ess pl).any λl=>cd l e) N):=by
 funext j;unfold jf kR io bq;by_cases h:j<(ds.getD pl 0).toNat
 .rw[LI h,LI (by omega)];rfl
 .rw[LH h,LH (by omega),show ((j:Int)-ds.getD pl 0).toNat=j-(ds.getD pl 0).toNat by omega]
theorem zB{N:Nat}(hN:N=1\/N=2\/N=3){ds:List Int}(ess:Nat->List Gb.Mo)(h0:∀i,0<=ds.getD i 0):∀(R t:Nat),fd ds ess R<t->aR (λj:Nat=>(dT N ds ess j R:Int)) N t=0
 |0,t,_=>by
  have z:∀n t,aR (λ_=>(0:Int)) n t=0:=λn=>by
   induction n with
   |zero=>intro t;rfl
   |succ n ih=>intro t;simp only[aR];unfold ck;split<;>simp[ih]
  exact z N t
 |R+1,t,h=>by
  have e:(λj:Nat=>(dT N ds ess j (R+1):Int))=λj:Nat=>(dT N ds ess j R:Int)+(jf N ds ess j R:Int):=by funext j;simp only[dT];omega
  simp only[fd] at h;rw[e,zA];simp only;have g:=h0 R;rw[zB hN ess h0 R t (by omega),GV ess g,zy];unfold kR;rw[LH (by omega),GP (GR (ess R)) hN (by omega)];rfl
theorem GX{N:Nat}(hN:N=1\/N=2\/N=3){F:Nat->Int}{L m:Nat}(hv:∀t,L<t->aR F N t=0)(hz:∀j,m<=j->j<=L->aR F N j=0)(d:Nat):F d=cq (λk=>aR F N k*((bq N ((d:Int)-min (k:Int) (d+1))).length:Nat)) m:=by
 have e0:(ei λk s=>aR F N k*im N s)=F:=by
  rcases hN with rfl|rfl|rfl
  .exact dy F 0
  .exact dy F 1
  .exact dy F 2
 have e1:∀k,k<=d->aR F N k*im N (d-k)=aR F N k*((bq N ((d:Int)-min (k:Int) (d+1))).length:Nat):=λk hk=>by unfold im bq;rw[LH (by omega),show ((d:Int)-min (k:Int) (d+1)).toNat=d-k by omega]
 have e2:∀k,d<k->aR F N k*((bq N ((d:Int)-min (k:Int) (d+1))).length:Nat)=0:=λk hk=>by unfold bq;rw[LI (by omega)];simp
 have e3:∀k,m<=k->aR F N k=0:=λk hk=>by
  by_cases h:k<=L
  .exact hz k hk h
  .exact hv k (by omega)
 have e4:F d=cq (λk=>aR F N k*((bq N ((d:Int)-min (k:Int) (d+1))).length:Nat)) (d+1):=by rw[<-congrFun e0 d];exact oG λk hk=>e1 k (by omega)
 rw[e4];by_cases h:m<=d+1
 .exact zr (λk h1 _=>by rw[e3 k h1];omega) h
 .exact(zr (λk h1 _=>e2 k (by omega)) (by omega)).symm
theorem zC(N:Nat)(ds:List Int)(ess:Nat->List Gb.Mo)(d:Int):∀R,(dT N ds ess d R:Int)<=cq (λi=>((bq N (d-ds.getD i 0)).length:Nat)) R
 |0=>Int.le_refl _
 |R+1=>by have h1:=zC N ds ess d R;have h2:=LX (λe=>!(ess R).any λl=>cd l e) (bq N (d-ds.getD R 0));simp only[dT,cq];unfold jf;omega
theorem Mb{N:Nat}(hN:N=1\/N=2\/N=3){x:Int}(hx:x<=12):(bq N x).length<=91:=by
 have k:∀t,t<13->(cK 1 t).length<=91/\(cK 2 t).length<=91/\(cK 3 t).length<=91:=by decide
 unfold bq;split
 .simp
 .have h:=k x.toNat (by omega);rcases hN with rfl|rfl|rfl
  .exact h.1
  .exact h.2.1
  .exact h.2.2
theorem Mc{f:Nat->Int}{B:Int}{n:Nat}(h:∀k,k<n→-B<=f k/\f k<=B):-(n*B)<=cq f n/\cq f n<=n*B:=by
 induction n with
 |zero=>simp[cq]
 |succ n ih=>
  have h1:=ih λk hk=>h k (by omega);have h2:=h n (by omega);simp only[cq];have e:((n+1:Nat):Int)*B=n*B+B:=by rw[Int.natCast_succ,Int.add_mul];omega
  omega
theorem zE{p n o v:Int}{ds:List Int}{vss:List (List (List Tm))}{N L:Nat}(hC:jH p n o v ds vss N)(h:kS p N ds vss L):L<=2709:=by obtain⟨fls,vs,ms,E,T,_,_,q4,_,q6⟩:=h;have h1:=(zF hC.g0 (λpl=>zG (R:=ds.length) (λi=>(hC.g0 i).1) q4 pl) ds.length).2;omega
theorem zH{p n o v:Int}{ds:List Int}{vss:List (List (List Tm))}{N L m:Nat}(hC:jH p n o v ds vss N)(h:kS p N ds vss L)(hz:∀j,m<=j->j<=L->aR (λj:Nat=>cL p o N ds vss j) N j=0)(d:Nat):cL p o N ds vss d=cq (λk=>aR (λj:Nat=>cL p o N ds vss j) N k*((bq N ((d:Int)-min (k:Int) (d+1))).length:Nat)) m/\cL p o N ds vss d<=cq (λi=>((bq N ((d:Int)-ds.getD i 0)).length:Nat)) ds.length:=by
 obtain⟨fls,vs,ms,E,T,q2,q3,q4,q5,q6⟩:=h;have e:∀j:Nat,cL p o N ds vss j=(dT N ds (aX ((aQ ms ds.length).map Mm.L)) j ds.length:Int):=λj=>(oH hC.nn rfl hC.cx (λi=>(hC.g0 i).1) (d:=(j:Int)) (by omega) hC.len hC.right q2 q3 q4 q5).symm;refine⟨GX hC.nn (F:=λj:Nat=>cL p o N ds vss j) (λt ht=>?_) hz d,?_⟩
 .rw[funext e];exact zB hC.nn _ (λi=>(hC.g0 i).1) _ _ (by omega)
 .rw[e d];exact zC _ _ _ _ _
theorem GY{p n o v:Int}{ds:List Int}{vss:List (List (List Tm))}{N L:Nat}(hC:jH p n o v ds vss N)(h:kS p N ds vss L){k:Nat}(hk:k<=L):-6144768024<=aR (λj:Nat=>cL p o N ds vss j) N k/\aR (λj:Nat=>cL p o N ds vss j) N k<=6144768024:=by
 have hL:=zE hC h;have hF:∀j,-768096003<=ip L (λj:Nat=>cL p o N ds vss j) j/\ip L (λj:Nat=>cL p o N ds vss j) j<=768096003:=λj=>by
  unfold ip;by_cases e:j<=L
  .rw[LI e];have:=t7 hC h j (by omega);simp only;omega
  .rw[LH e];decide
 rw[<-zI L _ N k hk];have h1:=mV (B:=768096003) (by decide) hF;have h2:=mV (B:=2*768096003) (by decide) h1;have h3:=mV (B:=2*(2*768096003)) (by decide) h2;rcases hC.nn with rfl|rfl|rfl
 .have:=h1 k;simp only[aR];omega
 .have:=h2 k;simp only[aR];omega
 .have:=h3 k;simp only[aR];omega
structure zJ(N:Nat)(ds:List Int)(C f:Nat->Int)(m:Nat):Prop where
 hm:m<=2710
 nz:m=0\/f (m-1)≠0
 bd:∀k,k<m→-6144768024<=f k/\f k<=6144768024
 sum:∀d:Nat,C d=cq (λk=>f k*((bq N ((d:Int)-min (k:Int) (d+1))).length:Nat)) m
 all:∀d:Nat,C d<=cq (λi=>((bq N ((d:Int)-ds.getD i 0)).length:Nat)) ds.length
 pos:∀d:Nat,d<=12->0<=C d
theorem GZ(p n o v:Int)(dv lv:Value)(ds:List Int)(vss:List (List (List Tm)))(w:World)(hds:Sl w dv ds)(hs:Wl w lv vss)(hz:cM p n o v ds vss=0)(N:Nat)(hC:jH p n o v ds vss N):Calls prog 12 #[aT p n o v,dv,lv] w λe w'=>∃(sa:Option Addr)(sc m:Nat)(f:Nat->Int),e=.returned (.tuple #[.slice sa m sc,.int .i64 0])/\zJ N ds (λj=>cL p o N ds vss j) f m/\(0<m->∃b off,sa=some ⟨b,off,none⟩/\∀k,k<m->w'.cell? ⟨b,off+k,none⟩=some (.int .i64 (f k)))/\Below w.heap.size w w':=by refine(zK p n o v dv lv ds vss w hds hs hz N hC).mono ?_;rintro e w' ⟨s,L,m,rfl,q1,q2,q3,q4,⟨sa,sc,rfl,q5⟩,q6⟩;have hL:=zE hC q1;rw[LD,List.length_range] at q5⊢;refine⟨sa,sc,m,_,rfl,⟨by omega,q4,λk hk=>GY hC q1 (by omega),λd=>(zH hC q1 q3 d).1,λd=>(zH hC q1 q3 d).2,λd hd=>(t7 hC q1 d (by omega)).1⟩,λh=>?_,q6⟩;obtain⟨b,off,h1,_,h2⟩:=q5 h;refine⟨b,off,h1,λk hk=>?_⟩;rw[h2 k (by rw[LD,List.length_range];exact hk),Lr,List.getElem?_map,List.getElem?_range hk];rfl
theorem Me{a b A B:Int}(h1:-A<=a)(h2:a<=A)(h3:0<=b)(h4:b<=B)(hA:0<=A):-(A*B)<=a*b/\a*b<=A*B:=by have e1:=Int.mul_le_mul_of_nonneg_right h2 h3;have e2:=Int.mul_le_mul_of_nonneg_right h1 h3;have e3:=Int.mul_le_mul_of_nonneg_left h4 hA;rw[Int.neg_mul] at e2;omega
theorem G2(p n o v:Int)(dv lv:Value)(ds:List Int)(vss:List (List (List Tm)))(w:World)(hds:Sl w dv ds)(hs:Wl w lv vss)(hne:(cM p n o v ds vss !=0)=true):Calls prog 4 #[aT p n o v,dv,lv] w λe w'=>e=.returned (.bool true)/\Below w.heap.size w w':=by
 have HS:=ac hs;have HD:=ac hds;obtain⟨w1,hw1⟩:∃w1,w1=w.alloc (.cells #[.int .i64 p,.int .i64 n,.int .i64 o,.int .i64 v] 23):=⟨_,rfl⟩;have hbx:bE w1 w.heap.size p n o v:=by rw[hw1];exact bE.new w p n o v _
 have HBA:Ma (Below w.heap.size w w1):=by rw[hw1];exact bv
 have HNU:Ma (∀W,Below w.heap.size w W->Calls prog 12 #[aT p n o v,dv,lv] W λe w'=>e=.returned (.tuple #[.slice none 0 0,.int .i64 (cM p n o v ds vss)])/\Below W.heap.size W w'):=λW hW=>G3 p n o v dv lv ds vss W (HD.o.below hW) (HS.o.below hW) hne;have HRF:Ma (∀W,Below w.heap.size w W->Calls prog 7 #[aT p n o v,dv,lv] W λe w'=>e=.returned (.int .i64 (cM p n o v ds vss))/\Below W.heap.size W w'):=λW hW=>zL p n o v dv lv ds vss W (HD.o.below hW) (HS.o.below hW);obtain⟨la,lc,rfl,_⟩:=hs;obtain⟨da,dc,rfl,_⟩:=hds;have HRV:Ma (aT p n o v=.agg #[.int .i64 p,.int .i64 n,.int .i64 o,.int .i64 v]):=rfl;rw[HRV.o] at HNU HRF;rw[HRV.o];obtain⟨_,bx0,bx1,bx2,bx3⟩:=hbx;clear HRV;generalize cM p n o v ds vss=er at HRF HNU hne;go_enter func4,ntmps4;go_upto_region 1 with fail;rw[<-hw1];clear hw1;go_wp2_with (first|(go_at_call 11;refine(zM _).mono ?_;rintro e w8 ⟨rfl,q1⟩;have HBA:=ac (HBA.o.trans (q1.mono HBA.o.size));have bx0:=ae bx0 q1;have bx1:=ae bx1 q1;have bx2:=ae bx2 q1;have bx3:=ae bx3 q1;clear q1)|(go_at_call 12;refine(HNU.o _ HBA.o).mono ?_;rintro e w2 ⟨rfl,q1⟩;have HBA:=ac (HBA.o.trans (q1.mono HBA.o.size));have bx0:=ae bx0 q1;have bx1:=ae bx1 q1;have bx2:=ae bx2 q1;have bx3:=ae bx3 q1;clear q1)|(go_at_call 7;refine(HRF.o _ HBA.o).mono ?_;rintro e w4 ⟨rfl,q1⟩;have HBA:=ac (HBA.o.trans (q1.mono HBA.o.size));clear q1));go_ret;exact⟨rfl,HBA.o⟩
end Go.Proofs.YteimdcndjjclnaaGreat
