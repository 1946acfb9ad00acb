/- Flat vectors, sorted. -/
import Derived.Test.YteimdcndjjclnaaGreatZG
import Derived.Test.YteimdcndjjclnaaGreatShelf
import Derived.Test.YteimdcndjjclnaaGreatWB
set_option maxHeartbeats 2000000
set_option maxRecDepth 100000
namespace Go.Proofs.YteimdcndjjclnaaGreat
set_option linter.all false
open Go.Proofs.Tryz Go.RowKit Go.Sort
theorem zq(a b:Int)(w:World):Calls prog 145 #[.int .i64 a,.int .i64 b] w λe w'=>e=.returned (.int .i64 (aI a b))/\w'=w:=by
 unfold aI;by_cases h1:a<b
 .go_enter func145,ntmps145;go_wp2;go_ret;exact⟨by simp[h1],rfl⟩
 .by_cases h2:b<a
  .go_enter func145,ntmps145;go_wp2;go_ret;exact⟨by simp[h1,h2],rfl⟩
  .go_enter func145,ntmps145;go_wp2;go_ret;exact⟨by simp[h1,h2],rfl⟩
def jN(x y:Ft):Int:=aI y.k x.k
theorem KD(x y:Ft)(W:World):Calls prog 144 #[.agg (aw x).toArray,.agg (aw y).toArray] W λe w'=>e=.returned (.int .i64 (jN x y))/\∃q os',w'=grow (W.drewN q) os':=by have hcon:=λW'=>zq y.k x.k W';unfold jN;unfold aw;generalize aI y.k x.k=r at hcon⊢;go_enter func144,ntmps144;go_wp2_with (go_at_call 145;refine(hcon _).mono ?_;rintro e w' ⟨rfl,rfl⟩);go_ret;exact⟨rfl,0,_,by rw[alloc_eq_grow,alloc_eq_grow,grow_grow];rfl⟩
theorem rj(x y:Ft):ltOf jN x y=decide (y.k<x.k):=by
 unfold ltOf jN aI;by_cases h1:y.k<x.k
 .simp[h1]
 .by_cases h2:x.k<y.k<;>simp[h1,h2]
theorem BI:SWO (ltOf jN) where
 irrefl x:=by rw[rj];simp
 trans x y z h1 h2:=by rw[rj] at*;simp at*;omega
 ntrans x y z h1 h2:=by rw[rj] at*;simp at*;omega
theorem KE(w:World):(isAgg 95).run prog w=.ok true w:=by kernel_rfl
theorem KF(w:World):(Go.sizeOf 95).run prog w=.ok 7 w:=by kernel_rfl
theorem u7[Inhabited Ft]:∀(fs:List Ft)(j:Nat),j<fs.length*7->(aC fs)[j]?=some ((aw fs.toArray[j/7]!)[j%7]!)
 |[],j,h=>by simp at h
 |t::fs,j,h=>by
  rw[jC];by_cases hj:j<7
  .rw[LQ (by simpa [aw] using hj)];have e1:j/7=0:=by omega
   have e2:j%7=j:=by omega
   rw[e1,e2];have e3:(t::fs).toArray[0]! =t:=rfl;rw[e3,Ls (by simpa [aw] using hj),getElem!_pos _ j (by simpa [aw] using hj)]
  .rw[LW (by simp[aw];omega)];have ih:=u7 fs (j-7) (by simp at h;omega);have e0:(aw t).length=7:=rfl;rw[e0,ih];have e1:j/7=(j-7)/7+1:=by omega
   have e2:j%7=(j-7)%7:=by omega
   rw[e1,e2];have e3:(t::fs).toArray[(j-7)/7+1]! =fs.toArray[(j-7)/7]!:=by
    have hl:(j-7)/7<fs.length:=by simp at h;omega
    rw[getElem!_pos _ _ (by simpa using hl),getElem!_pos _ _ (by simpa using hl)];simp
   rw[e3]
theorem KG[Inhabited Ft]{w:World}{B g cap:Nat}{fs:List Ft}(h:w.ownsRow B 95 7 (.slice (some ⟨g,0,none⟩) fs.length cap) fs.length (aC fs)):HoldsK aw 7 w g 0 fs.toArray:=by
 intro j hj;rw[size_flatK] at hj;have hj2:j<fs.length*7:=by simpa using hj
 refine⟨?_,by rw[Ly];exact h.frozenAt j⟩;rw[Ly,h.cellAt j hj2,u7 fs j hj2,get_flatK _ _ _ _ hj];rfl
theorem KH[Inhabited Ft]{w:World}{g cap:Nat}{fs:List Ft}(h:HoldsK aw 7 w g 0 fs.toArray)(hlt:g<w.heap.size)(hc:fs.length<=cap):Fv w (.slice (some ⟨g,0,none⟩) fs.length cap) fs:=by
 refine⟨_,cap,rfl,hc,λhp=>⟨g,0,rfl,hlt,λj u hj=>?_⟩⟩;have hjl:j<fs.length*7:=by rw[<-il];apply LF;intro hle;rw[Lu hle] at hj;simp at hj
 have h1:=(h j (by rw[size_flatK];simpa using hjl)).1;rw[get_flatK _ _ _ _ (by simpa using hjl)] at h1;rw[u7 fs j hjl] at hj;rw[h1,<-hj];rfl
theorem BJ[Inhabited Ft]{w:World}{g n:Nat}{os:Array Obj}(d:Array Ft):w.grownBy (sortWorldK aw 7 w g 0 n d os) (some g):=by refine⟨rfl,rfl,rfl,by simp[sortWorldK,putRowK],λk hk hne=>?_⟩;unfold sortWorldK putRowK;rw[heap_grow_old _ _ (by simpa using hk)];have:g≠k:=λe=>hne (by rw[e]);simp[putRow,mapBlock,Sort.ahead,Array.getElem?_modify,this]
theorem KI[Inhabited Ft](g cap:Nat)(fs:List Ft)(w:World)(hH:HoldsK aw 7 w g 0 fs.toArray)(hblk:g<w.heap.size)(hsz:fs.length<4611686018427387904):Calls prog 143 #[.slice (some ⟨g,0,none⟩) fs.length cap,.func (.func 144) #[] #[]] w λe w'=>e=.returned (.tuple #[])/\∃d' n os,PermIn 0 fs.length fs.toArray d'/\SortedIn (ltOf jN) 0 fs.length d'/\w'=sortWorldK aw 7 w g 0 n d' os:=by
 have eg:∀args w,(callFunc 144 args).run prog w=.ok (.enter 144 args) w:=enters_of func144 (by kernel_rfl) rfl;have hcmp:CmpLays prog 144 #[] aw 7 jN g 0 fs.toArray.size w:=λ_ _ _ _ x y=>KD x y _;have hlim:Lib.bitLen fs.toArray.size<4611686018427387904:=L9 (Lib.bitLen_le fs.toArray.size 62 (by simp;try omega) (by omega)) (by omega);have hp:=AnyQ.pdqsortCmpFunc_all (P:=prog) Tryz.pdqFt 7 KE KF aw jN 144 #[] BI g 0 cap fs.toArray w eg hcmp ⟨λ_=>rfl,lQ,hH,hblk⟩ (fs.toArray.size+1) 0 fs.toArray.size (Lib.bitLen fs.toArray.size) fs.toArray w (by omega) rfl (SWK.start hH) (Ll _) (Lc _) (by simpa using hsz) hlim (L0 rfl);change Calls prog 161 _ _ _ at hp;have hl:=Tryz.bits_Len (fs.length:Int) w (by omega) (by omega);rw[Int.toNat_natCast] at hl;have wr:IntKind.u64.wrap (fs.length:Int)=fs.length:=by simp[IntKind.wrap,IntKind.bits,IntKind.signed];omega
 have hps:=pdq_sorts (ltOf jN) BI fs.toArray 0 fs.toArray.size (Lib.bitLen fs.toArray.size) true true (Ll _) (Lc _) (L0 rfl);simp only[List.size_toArray] at hp hps hlim;have HPS:=ac hps;have HP:=ac hp;have HL:=ac hl;clear hH hcmp hps hp hl eg;generalize pdq (ltOf jN) fs.toArray 0 fs.length (Lib.bitLen fs.length) true true=dd at HPS HP;generalize Lib.bitLen fs.length=bl at HP HL hlim;go_enter func143,ntmps143;go_wp2_with (first|(go_at_call 131;refine HL.o.mono ?_;rintro e w' ⟨rfl,rfl⟩)|(go_at_call 161;refine HP.o.mono ?_;rintro e w' ⟨rfl,n,os,rfl⟩));go_end0;exact⟨rfl,dd,n,os,HPS.o.1,HPS.o.2,rfl⟩
theorem KJ(w:World):Calls prog 115 #[.slice none 0 0] w λe w'=>e=.returned (.tuple #[])/\w'=w:=by
 have hp:=λW=>AnyF.pdqsortCmpFunc_none (P:=prog) Tryz.pdqFt none 0 0 (.func (.func 144) #[] #[]) W;change∀W,Calls prog 161 _ _ _ at hp;have HL:=ac (λW=>Tryz.bits_Len 0 W (by omega) (by omega));have HP:=ac hp;clear hp;have e0:Lib.bitLen (0:Int).toNat=0:=by decide
 rw[show (Lib.bitLen (0:Int).toNat:Nat)=0 from e0] at HL;have hs:∀W,Calls prog 143 #[.slice none 0 0,.func (.func 144) #[] #[]] W λe w'=>e=.returned (.tuple #[])/\w'=W:=λW=>by go_enter func143,ntmps143;go_wp2_with (first|(go_at_call 131;refine(HL.o _).mono ?_;rintro e w' ⟨rfl,rfl⟩)|(go_at_call 161;refine(HP.o _).mono ?_;rintro e w' ⟨rfl,rfl⟩));go_end0;exact⟨rfl,rfl⟩
 have HS:=ac hs;clear hs;go_enter func115,ntmps115;go_wp2_with (go_at_call 143;refine(HS.o _).mono ?_;rintro e w' ⟨rfl,rfl⟩);go_end0;exact⟨rfl,rfl⟩
def p8(fs:List Ft):Prop:=fs.Pairwise λa b=>b.k<=a.k
theorem KK[Inhabited Ft]{w:World}{g n:Nat}{os:Array Obj}(d:Array Ft){T:TypeId}{af:Array Value}(h:w.heap[g]?=some (.cells af T (0,0))):∃cur',(sortWorldK aw 7 w g 0 n d os).heap[g]?=some (.cells cur' T (0,0)):=by have hlt:g<w.heap.size:=(LS.1 h).1;unfold sortWorldK putRowK;rw[heap_grow_old _ _ (by simpa using hlt)];simp[putRow,mapBlock,Sort.ahead,Array.getElem?_modify,h];exact⟨_,rfl⟩
theorem KL(B g cap:Nat)(fs:List Ft)(w:World)(hown:w.ownsRow B 95 7 (.slice (some ⟨g,0,none⟩) fs.length cap) fs.length (aC fs))(hc:fs.length<=cap)(hsz:fs.length<4611686018427387904)(hB:B<=w.heap.size):Calls prog 115 #[.slice (some ⟨g,0,none⟩) fs.length cap] w λe w'=>e=.returned (.tuple #[])/\∃fs':List Ft,fs'.Perm fs/\p8 fs'/\Fv w' (.slice (some ⟨g,0,none⟩) fs.length cap) fs'/\Below B w w'/\∃af,w'.heap[g]?=some (.cells af 95 (0,0)):=by
 have inh:Inhabited Ft:=⟨⟨0,0,0,0,0,0,0⟩⟩;have hlt:=Lb hown g rfl;have hH:=KG hown;have HTY:Ma (∃af,w.heap[g]?=some (.cells af 95 (0,0))):=by
  rcases hown.2 with ⟨h1,_⟩|⟨g2,cap2,af,h1,_,hh,_⟩
  .simp at h1
  .simp only[LB,LA,Addr.mk.injEq] at h1;obtain⟨⟨e,_⟩,_⟩:=h1;rw[e];exact⟨af,hh⟩
 have HC:=ac (KI g cap fs w hH hlt.2 hsz);have HH:=ac hH;have HLT:=ac hlt;clear hH hown hlt;go_enter func115,ntmps115;go_wp2_with (go_at_call 143;refine HC.o.mono ?_;rintro e w' ⟨rfl,d',n,os,hp,hs,hw⟩;have HR:=ac (Lg hp (Lg hs hw));clear hp hs hw);go_end0;obtain⟨hp,hs,hw⟩:=HR.o;have hds:d'.size=fs.length:=by simpa using hp.1
 have e1:d'.toList.length=fs.length:=by simpa using hds
 refine⟨rfl,d'.toList,?_,?_,?_,?_,?_⟩
 .have h:=hp.2.2;rw[show fs.toArray.extract 0 fs.length=fs.toArray from by simp,show d'.extract 0 fs.length=d' from by rw[<-hds];simp] at h;simpa using h
 .unfold p8;rw[List.pairwise_iff_getElem];intro i j hi hj hij;have h:=hs i j (Ll _) hij (by omega);rw[rj,getElem!_pos _ j (by simpa using hj),getElem!_pos _ i (by simpa using hi)] at h;simp only[decide_eq_false_iff_not] at h;simp only[Array.getElem_toList];omega
 .have h:=holdsK_sortWorldK aw 7 w g 0 n fs.toArray d' os HLT.o.2 HH.o (by simpa using hds);rw[<-hw] at h;have hg:=BJ (w:=w) (g:=g) (n:=n) (os:=os) d';rw[<-hw] at hg;have k:=KH (cap:=cap) (fs:=d'.toList) (by simpa using h) (Lj HLT.o.2 hg.size) (by omega);rw[e1] at k;exact k
 .have hg:=BJ (w:=w) (g:=g) (n:=n) (os:=os) d';rw[<-hw] at hg;exact dE hg HLT.o.1 hB
 .obtain⟨af,hcur⟩:=HTY.o;obtain⟨cur',h'⟩:=KK (n:=n) (os:=os) d' hcur;rw[<-hw] at h';exact⟨cur',h'⟩
end Go.Proofs.YteimdcndjjclnaaGreat
namespace Go.Proofs.YteimdcndjjclnaaGreat
set_option linter.all false
open Go.Proofs.Tryz Go.RowKit
def gT(k0 k1 k2:Int)(ss:List Int)(fss:List (List Tm)):Nat->List Ft
 |0=>[]
 |i+1=>gT k0 k1 k2 ss fss i++(fss.getD i []).map (eE (ss.getD i 0) k0 k1 k2 i)
theorem yO{P:Program}(w:World)(base:Nat)(t ty e:TypeId)(i:TypeInfo)(z:Value)(ht:P.underlying t=some (.slice e))(hi:P.info? e=some i)(hz:i.zero=some z)(hsize:i.size=7)(hby:i.bytes=24)(hzs:z.cells.size=7)(v:Value)(fs:List Ft)(hown:w.ownsRow base e 7 v fs.length (aC fs))(u:Ft)(ad:Addr)(c:Nat)(hnew:∀j x,(aw u)[j]?=some x->w.cell? (ad.add j)=some x)(hb:fs.length<=1000000000000)(hbase:base<=w.heap.size):∃v' w',(Builtin.append_ #[t,t] ty #[v,.slice (some ad) 1 c]).run P w=.ok v' w'/\w'.ownsRow base e 7 v' (fs++[u]).length (aC (fs++[u]))/\w.grownBy w' v.ownBlock:=by obtain⟨v',w',hr,h2,h3,_⟩:=run_append_own (P:=P) w base t ty e i z 7 24 ht hi hz hsize hby hzs (by decide) v fs.length (aC fs) hown ad 1 c (aw u) rfl hnew (lQ u) (by unfold maxLen;omega) (by omega) hbase;exact⟨v',w',hr,by rw[oZ,Lx];exact h2,h3⟩
theorem yB{P:Program}{w:World}{ops:Array Oper}{rest:List Oper}{o:Oper}{a:Act}{Q:Exit->Act->World->Prop}(hgd:o.guard=none)(s x:Operand)(t:TypeId)(ho:o.op=.call {callee:=.builtin .append,args:=#[s,x],argTypes:=#[t,t]})(base:Nat)(e:TypeId)(i:TypeInfo)(z:Value)(ht:P.underlying t=some (.slice e))(hi:P.info? e=some i)(hz:i.zero=some z)(hsize:i.size=7)(hby:i.bytes=24)(hzs:z.cells.size=7)(v:Value)(fs:List Ft)(hs:a.eval s=v)(hown:w.ownsRow base e 7 v fs.length (aC fs))(u:Ft)(ad:Addr)(c:Nat)(hx:a.eval x=.slice (some ad) 1 c)(hnew:∀j x,(aw u)[j]?=some x->w.cell? (ad.add j)=some x)(hb:fs.length<=1000000000000)(hbase:base<=w.heap.size)(hK:∀v' w',w'.ownsRow base e 7 v' (fs++[u]).length (aC (fs++[u]))->w.grownBy w' v.ownBlock->wpList P ops Q rest (a.put o.dst v') w'):wpList P ops Q (o::rest) a w:=by refine wpList_plain hgd λK hK'=>?_;obtain⟨v',w',hr,h2,h3⟩:=yO (P:=P) w base t o.type e i z ht hi hz hsize hby hzs v fs hown u ad c hnew hb hbase;unfold Oper.wp execOp;simp only[ho,resolve,invoke,builtin,Sem.run_bind,Sem.run_pure,Result.andThen_ok,List.map_toArray,List.map_cons,List.map_nil,hs,hx,hr];exact hK' _ _ (hK v' w' h2 h3)
theorem Er(ob:Nat)(p k0 k1 k2:Int)(sv x:Value)(ss:List Int)(fss:List (List Tm))(N:Nat)(w:World)(hob:bk w ob p k0 k1 k2 sv)(hs:Sl w sv ss)(hl:fss.length<=ss.length)(hl2:fss.length<=255)(hss:∀s∈ss,-600000000000000000<=s/\s<=600000000000000000)(h0:0<=k0/\k0<=137438953472)(h1:0<=k1/\k1<=137438953472)(h2:0<=k2/\k2<=137438953472)(hN0:0<N)(hN3:N<=3)(hf:∀f∈fss,f.length<=2000/\∀t∈f,t.2.length=N/\(∀x∈t.2,0<=x/\x<=30000)/\0<=t.1/\t.1<=255)(pf:Vl w x fss):Calls prog 85 #[.pointer (some ⟨ob,0,none⟩),.int .i64 0,x] w λe w'=>∃u fs,e=.returned u/\Fv w' u fs/\fs.Perm (gT k0 k1 k2 ss fss fss.length)/\p8 fs/\Below w.heap.size w w'/\∀b,u.ownBlock=some b->w.heap.size<=b/\∃af,w'.heap[b]?=some (.cells af 95 (0,0)):=by
 have HX:=ac pf;have HF:=ac hf;have HOB:=ac hob;have HS:=ac hs;have HSS:=ac hss;have HK:=ac (Lg h0 (Lg h1 h2));obtain⟨ax,cx,rfl,_⟩:=pf;clear hf hob hs hss h0 h1 h2;obtain⟨i0,hi,hz0,hz1,hz2⟩:=info_parts Tryz.infoFt;have HI:=ac (Lg hi (Lg hz0 (Lg hz1 hz2)));clear hi hz0 hz1 hz2;have HLEN:Ma (∀i,i<=fss.length->(gT k0 k1 k2 ss fss i).length<=i*2000):=λi=>by
  induction i with
  |zero=>intro _;simp[gT]
  |succ i ih=>intro hi;have h1:=ih (by omega);have h2:=(HF.o _ (ik fss i (by omega))).1;simp only[gT,Lx,LD];omega
 go_enter func85,ntmps85;go_wp2_with fail;go_loopw [7,14] (λz i wr=>∃k:Nat,k<=fss.length/\i=.int .i64 k/\wr.ownsRow w.heap.size 95 7 z (gT k0 k1 k2 ss fss k).length (aC (gT k0 k1 k2 ss fss k))/\Below w.heap.size w wr) (λ_ i _=>fss.length-(intOf i).toNat);case atStart=>exact⟨0,Ll _,rfl,World.ownsRow_nil _ _ _ _,Lf _ _⟩
 case round=>
  obtain⟨k,hk,rfl,hown,hbr⟩:=hrel;have HO:=ac hown;have HB:=ac hbr;have HL:=ac (HLEN.o k hk);have HST:Ma (gT k0 k1 k2 ss fss (k+1)=gT k0 k1 k2 ss fss k++(fss.getD k []).map (eE (ss.getD k 0) k0 k1 k2 k)):=rfl;clear hown hbr;by_cases hk2:k<fss.length
  .generalize gT k0 k1 k2 ss fss k=done at HO HL HST;obtain⟨b,off,fa,fc,rfl,hlt,c0,hpf⟩:=nw HX.o k hk2;have HFK:=ac (HF.o _ (ik fss k hk2));generalize fss.getD k []=f at c0 hpf HFK HST;have HPF:=ac hpf;have d0:=ae c0 HB.o;have hfl:f.length<=2000:=HFK.o.1;obtain⟨za,zc,hz⟩:=fu HO.o;subst hz;clear c0 hpf;have hk3:k<ss.length:=by omega
   have hk4:k<=255:=by omega
   have hdl:done.length<=600000:=by have h5:=HL.o;omega
   go_wp2;clear d0;go_loopw [7,21] (λz i wm=>∃m:Nat,m<=f.length/\i=.int .i64 m/\wm.ownsRow w.heap.size 95 7 z (done++(f.take m).map (eE (ss.getD k 0) k0 k1 k2 k)).length (aC (done++(f.take m).map (eE (ss.getD k 0) k0 k1 k2 k)))/\Below w.heap.size w wm) (λ_ i _=>f.length-(intOf i).toNat);case atStart=>exact⟨0,Ll _,rfl,by simpa using HO.o,HB.o⟩
   case round=>
    clear HO HB;obtain⟨wo,hwo⟩:∃wo:World,wo=wr:=⟨_,rfl⟩;subst hwo;obtain⟨m,hm,rfl,hown,hbr⟩:=hrel;have HO:=ac hown;have HB:=ac hbr;clear hown hbr;by_cases hm2:m<f.length
    .obtain⟨fa2,fc2,hfv,_,hat0⟩:=HPF.o;obtain⟨b2,off2,hfa,hlt2,hat⟩:=hat0 (by omega);simp only[LB,true_and] at hfv;obtain⟨e1,e2⟩:=hfv;subst e1;subst e2;subst hfa;obtain⟨t0,ev,t1,hse⟩:=hat m hm2;have HTK:Ma (f.take (m+1)=f.take m++[f.getD m bT]):=by show _=_;rw[LK hm2];simp[Lr,hm2]
     have HTO:=ac (HFK.o.2 _ (mh f m hm2));generalize f.getD m bT=t at t0 hse HTK HTO;obtain⟨tc,te⟩:=t;have HSE:=ac hse;obtain⟨ea,ec,rfl,_⟩:=hse;simp only at t0 t1;have q0:=ae t0 HB.o;have q1:=ae t1 HB.o;have hdm:Ma ((done++(f.take m).map (eE (ss.getD k 0) k0 k1 k2 k)).length<=1000000000000):=by show _<=_;rw[Lx,LD,LU];omega
     have HTM:=ac (fun(W:World)(hb:Below w.heap.size w W)=>KB ob k p k0 k1 k2 sv (.slice ea te.length ec) ss te tc W (HOB.o.below hb) (HS.o.below hb) hk3 hk4 HSS.o HK.o.1 HK.o.2.1 HK.o.2.2 ⟨HTO.o.2.2.1,HTO.o.2.2.2⟩ (by have h5:=HTO.o.1;simp only at h5;omega) (by have h5:=HTO.o.1;simp only at h5;omega) HTO.o.2.1 (HSE.o.below hb));have HNX:Ma (done++(f.take (m+1)).map (eE (ss.getD k 0) k0 k1 k2 k)=done++(f.take m).map (eE (ss.getD k 0) k0 k1 k2 k)++[eE (ss.getD k 0) k0 k1 k2 k (tc,te)]):=by show _=_;rw[HTK.o,LO,List.append_assoc];rfl
     generalize eE (ss.getD k 0) k0 k1 k2 k (tc,te)=ft at HTM HNX;generalize done++(f.take m).map (eE (ss.getD k 0) k0 k1 k2 k)=dm at HO HNX hdm;unfold bX at HTM;obtain⟨ya,yc,hy⟩:=fu HO.o;subst hy;clear hat0 hat t0 t1;have HBA:Ma (Below w.heap.size w (wo.alloc (.cells #[.int .i64 tc,.slice ea te.length ec] 57))):=HB.o.alloc HB.o.size _;go_wp2_with (first|(go_at_call 114;refine(HTM.o _ HBA.o).mono ?_;rintro e w8 ⟨rfl,hb8⟩;have HB8:=ac (HBA.o.trans (hb8.mono HBA.o.size));have HO8:=ac (aK HO.o (aj.trans (hb8.mono (by simp))));have HO9:=ac (HO8.o.alloc (.cells #[.int .i64 ft.k,.int .u16 ft.a,.int .u16 ft.b,.int .u16 ft.d,.int .u16 ft.z,.int .u8 ft.pl,.int .u8 ft.c] 95));clear hb8)|(at_builtin;refine yB rfl (.tmp 25) (.tmp 32) 92 rfl w.heap.size 95 i0 _ underlying92 HI.o.1 HI.o.2.1 HI.o.2.2.1 HI.o.2.2.2 rfl (.slice ya dm.length yc) dm rfl HO9.o ft ⟨w8.heap.size,0,none⟩ 1 rfl (kM _ _ _) hdm.o (Lk HB8.o.size (by simp)) ?_;intro v9 w9 r1 r2;have R1:=ac r1;have R2:=ac (show Below w.heap.size w w9 from i8 HO9.o (HB8.o.alloc HB8.o.size _) r2 (Lc _));obtain⟨va9,vc9,hv9⟩:=fu r1;subst hv9;clear r1 r2));go_roundw;case rel=>exact⟨m+1,by omega,by go_num,by rw[HNX.o];have h:=R1.o;rwa [show (dm++[ft]).length=dm.length+1 from by simp] at h⊢,R2.o⟩
     case measure=>simp[intOf];omega
    .have e:m=f.length:=by omega
     subst e;have HO2:=ac HO.o;rw[Lz (Lc _),<-HST.o] at HO2;go_wp2;go_roundw;case rel=>exact⟨k+1,by omega,by go_num,HO2.o,HB.o⟩
     case measure=>simp[intOf];omega
  .have e:k=fss.length:=by omega
   subst e;have hdl:(gT k0 k1 k2 ss fss fss.length).length<4611686018427387904:=by have h5:=HL.o;omega
   have HOQ:=ac HO.o;have hc:=HO.o.2;generalize hAL:gT k0 k1 k2 ss fss fss.length=al at HO HOQ HL hdl hc;have HAL:=ac hAL;clear hAL;rcases hc with ⟨hz,hn⟩|⟨g,cap,af,hz,hg,hh,hn,hmx,hcs,ht⟩
   .subst hz;have hal:al=[]:=LV.1 hn;subst hal;have HSN:=ac (fun(W:World)=>KJ W);go_wp2_with (go_at_call 115;refine(HSN.o _).mono ?_;rintro e w8 ⟨rfl,rfl⟩);go_ret;exact⟨_,[],rfl,oo _ _,(by rw[HAL.o]),List.Pairwise.nil,HB.o,λb hb=>by simp[Value.ownBlock] at hb⟩
   .subst hz;have HGE:=ac hg;have HSO:=ac (KL w.heap.size g cap al wr HOQ.o hn hdl HB.o.size);clear hh hcs ht;go_wp2_with (go_at_call 115;refine HSO.o.mono ?_;rintro e w8 ⟨rfl,fs',h1,h2,h3,h4,h5⟩;have HR:=ac (Lg h1 (Lg h2 (Lg h3 (Lg h4 h5))));clear h1 h2 h3 h4 h5);go_ret;refine⟨.slice (some ⟨g,0,none⟩) al.length cap,fs',rfl,HR.o.2.2.1,(by rw[HAL.o];exact HR.o.1),HR.o.2.1,HB.o.trans HR.o.2.2.2.1,λb hb=>by
     have hge:w.heap.size<=g:=HGE.o;have hb2:g=b:=by simpa [Value.ownBlock] using hb
     rw[<-hb2];exact⟨hge,HR.o.2.2.2.2⟩⟩
def fL(wr:World)(g:Nat)(t:Ft):World:=((((((wr.setCell ⟨g,0,none⟩ (.int .i64 t.k)).setCell ⟨g,1,none⟩ (.int .u16 t.a)).setCell ⟨g,2,none⟩ (.int .u16 t.b)).setCell ⟨g,3,none⟩ (.int .u16 t.d)).setCell ⟨g,4,none⟩ (.int .u16 t.z)).setCell ⟨g,5,none⟩ (.int .u8 t.pl)).setCell ⟨g,6,none⟩ (.int .u8 t.c)
def Bx(B:Nat)(wr:World)(g:Nat)(t:Ft):Prop:=wr.ownsRow B 95 7 (.slice (some ⟨g,0,none⟩) 1 1) 1 (aw t)
theorem Bx.put{B:Nat}{wr:World}{g:Nat}{t0:Ft}(h:Bx B wr g t0)(t:Ft):Bx B (fL wr g t) g t/\wr.grownBy (fL wr g t) (some g):=by have s1:=Lp h 0 (.int .i64 t.k);have s2:=s1.1.stored 1 (.int .u16 t.a);have s3:=s2.1.stored 2 (.int .u16 t.b);have s4:=s3.1.stored 3 (.int .u16 t.d);have s5:=s4.1.stored 4 (.int .u16 t.z);have s6:=s5.1.stored 5 (.int .u8 t.pl);have s7:=s6.1.stored 6 (.int .u8 t.c);exact⟨s7.1,cE (cE (cE (cE (cE (cE s1.2 s2.2) s3.2) s4.2) s5.2) s6.2) s7.2⟩
theorem Bx.at{B:Nat}{wr:World}{g:Nat}{t:Ft}(h:Bx B wr g t):eU wr g 0 t:=mN λj u hj=>by
 have hl:j<7:=by have:=(List.getElem?_eq_some_iff.1 hj).1;simpa [aw] using this
 rw[Ly,La h j (by omega)];exact hj
theorem Bx.below{B:Nat}{wr w':World}{g:Nat}{t:Ft}(h:Bx B wr g t)(hb:Below wr.heap.size wr w'):Bx B w' g t:=aK h hb
theorem Bx.new(w:World)(B:Nat)(hB:B<=w.heap.size):Bx B (w.alloc (.cells #[.int .i64 0,.int .u16 0,.int .u16 0,.int .u16 0,.int .u16 0,.int .u8 0,.int .u8 0] 95)) w.heap.size ⟨0,0,0,0,0,0,0⟩:=
 ⟨by simp[aw],.inr ⟨w.heap.size,1,_,rfl,hB,heap_alloc_new w _,Lc _,by decide,by simp,by simp[aw]⟩⟩
def BK(w:World)(rv:Value)(rows:List (List Ft)):Prop:=∃ra rc,rv=.slice ra rows.length rc/\∀i,i<rows.length->∃b off u,ra=some ⟨b,off,none⟩/\b<w.heap.size/\w.cell? ⟨b,off+i,none⟩=some u/\Fv w u (rows.getD i [])
def gN(g:Option Ft):List Ft->Option Ft
 |[]=>g
 |t::_=>match g with
  |none=>some t
  |some g=>if g.k<t.k then some t else some g
def eu(rows:List (List Ft)):Option Ft:=rows.foldl gN none
def cA(g:Option Ft):Ft:=g.getD ⟨0,0,0,0,0,0,0⟩
structure GW(w wr:World)(g:Option Ft):Prop where
 below:Below w.heap.size w wr
 res:Bx w.heap.size wr w.heap.size ⟨0,0,0,0,0,0,0⟩
 box:Bx w.heap.size wr (w.heap.size+1) (cA g)
theorem GW.next{w wr w':World}{g:Option Ft}(h:GW w wr g)(hb:Below wr.heap.size wr w'):GW w w' g:=⟨h.below.trans (hb.mono h.below.size),h.res.below hb,h.box.below hb⟩
theorem GW.put{w wr:World}{g:Option Ft}(h:GW w wr g)(t:Ft):GW w (fL wr (w.heap.size+1) t) (some t):=by have s:=h.box.put t;exact⟨h.below.trans (dE s.2 (by omega) h.below.size),World.ownsRow.kept h.res s.2 (L3 (by simp[Value.ownBlock])),s.1⟩
theorem KM(sb:Nat)(rv:Value)(rows:List (List Ft))(w:World)(hsb:sb<w.heap.size)(h1:w.cell? ⟨sb,1,none⟩=some rv)(hr:BK w rv rows)(hn:rows.length<=1000):Calls prog 153 #[.pointer (some ⟨sb,0,none⟩)] w λe w'=>e=.returned (.tuple #[bX (cA (eu rows)),.bool (eu rows).isSome])/\Below w.heap.size w w':=by
 obtain⟨ra,rc,rfl,hat⟩:=hr;have HAT:=ac hat;clear hat;obtain⟨w1,hw1⟩:∃w1,w1=(w.alloc (.cells #[.int .i64 0,.int .u16 0,.int .u16 0,.int .u16 0,.int .u16 0,.int .u8 0,.int .u8 0] 95)).alloc (.cells #[.int .i64 0,.int .u16 0,.int .u16 0,.int .u16 0,.int .u16 0,.int .u8 0,.int .u8 0] 95):=⟨_,rfl⟩;have H0:Ma (GW w w1 none):=by show GW _ _ _;rw[hw1];refine⟨fS,(Bx.new w _ (Lc _)).below aj,?_⟩;have h:=Bx.new (w.alloc (.cells #[.int .i64 0,.int .u16 0,.int .u16 0,.int .u16 0,.int .u16 0,.int .u8 0,.int .u8 0] 95)) w.heap.size (by simp);simpa [cA] using h
 have q1:w1.cell? ⟨sb,1,none⟩=some (.slice ra rows.length rc):=ae h1 H0.o.below;go_enter func153,ntmps153;go_wp2_with fail;rw[<-hw1];clear hw1;go_wp2;clear q1;go_loopw [5,13] (λf i wr=>∃m:Nat,m<=rows.length/\i=.int .i64 m/\f=.bool (eu (rows.take m)).isSome/\GW w wr (eu (rows.take m))) (λ_ i _=>rows.length-(intOf i).toNat);case atStart=>exact⟨0,Ll _,rfl,rfl,H0.o⟩
 case round=>
  clear H0;obtain⟨m,hm,rfl,rfl,ht⟩:=hrel;have HT:=ac ht;clear ht;by_cases hm2:m<rows.length
  .obtain⟨rb,off,u,rfl,hlt,hc,hf⟩:=HAT.o m hm2;have HTK:Ma (eu (rows.take (m+1))=gN (eu (rows.take m)) (rows.getD m [])):=by show _=_;unfold eu;rw[LK hm2,List.foldl_append];simp[Lr,hm2]
   generalize eu (rows.take m)=g at HT HTK⊢;generalize rows.getD m []=row at hf HTK;have z1:=ae hc HT.o.below;cases row with
   |nil=>
    obtain⟨a,cap,rfl,_,_⟩:=hf;go_wp2;go_quiet (fail);have HBQ:=ac (below_drewN (Lf wr.heap.size wr) nq);generalize wr.drewN nq=wq at HBQ⊢;have HTQ:=ac (HT.o.next HBQ.o);go_wp2;go_roundw;case rel=>exact⟨m+1,by omega,by go_num,by rw[HTK.o];rfl,by rw[HTK.o];exact HTQ.o⟩
    case measure=>simp[intOf];omega
   |cons t ts=>
    obtain⟨b,of2,cap,rfl,hcap,hlt2,hft,_,_⟩:=hf.head;obtain⟨f0,f1,f2,f3,f4,f5,f6⟩:=hft.keep HT.o.below;cases g with
    |none=>
     simp only[Option.isSome_none];go_wp2;go_quiet (fail);have HBQ:=ac (below_drewN (Lf wr.heap.size wr) nq);generalize wr.drewN nq=wq at HBQ⊢;have HTQ:=ac (HT.o.next HBQ.o);obtain⟨f0,f1,f2,f3,f4,f5,f6⟩:=hft.keep HTQ.o.below;obtain⟨x0,x1,x2,x3,x4,x5,x6⟩:=HTQ.o.box.at;have y0:=K8 HTQ.o.box 0;have y1:=K8 HTQ.o.box 1;have y2:=K8 HTQ.o.box 2;have y3:=K8 HTQ.o.box 3;have y4:=K8 HTQ.o.box 4;have y5:=K8 HTQ.o.box 5;have y6:=K8 HTQ.o.box 6;simp only[Ly] at x0 x1 x2 x3 x4 x5 x6;have HP:=ac (HTQ.o.put t);unfold fL at HP;go_wp2;go_roundw;case rel=>exact⟨m+1,by omega,by go_num,by rw[HTK.o];rfl,by rw[HTK.o];exact HP.o⟩
     case measure=>simp[intOf];omega
    |some g=>
     simp only[Option.isSome_some];obtain⟨x0,x1,x2,x3,x4,x5,x6⟩:=HT.o.box.at;simp only[Ly,cA,Option.getD_some] at x0 x1 x2 x3 x4 x5 x6;by_cases hk:g.k<t.k
     .skip
      go_wp2;go_quiet (fail);have HBQ:=ac (below_drewN (Lf wr.heap.size wr) nq);generalize wr.drewN nq=wq at HBQ⊢;have HTQ:=ac (HT.o.next HBQ.o);obtain⟨f0,f1,f2,f3,f4,f5,f6⟩:=hft.keep HTQ.o.below;obtain⟨x0,x1,x2,x3,x4,x5,x6⟩:=HTQ.o.box.at;have y0:=K8 HTQ.o.box 0;have y1:=K8 HTQ.o.box 1;have y2:=K8 HTQ.o.box 2;have y3:=K8 HTQ.o.box 3;have y4:=K8 HTQ.o.box 4;have y5:=K8 HTQ.o.box 5;have y6:=K8 HTQ.o.box 6;simp only[Ly] at x0 x1 x2 x3 x4 x5 x6;have HP:=ac (HTQ.o.put t);unfold fL at HP;go_wp2;go_roundw;case rel=>exact⟨m+1,by omega,by go_num,by rw[HTK.o];simp[gN,hk],by rw[HTK.o];simp only[gN,hk,if_true];exact HP.o⟩
      case measure=>simp[intOf];omega
     .have HK:=ac hk;go_wp2;go_quiet (fail);have HBQ:=ac (below_drewN (Lf wr.heap.size wr) nq);generalize wr.drewN nq=wq at HBQ⊢;have HTQ:=ac (HT.o.next HBQ.o);go_wp2;go_roundw;case rel=>exact⟨m+1,by omega,by go_num,by rw[HTK.o];simp only[gN];rw[LH (show¬g.k<t.k from by have:=HK.o;omega)];rfl,by rw[HTK.o];simp only[gN];rw[LH (show¬g.k<t.k from by have:=HK.o;omega)];exact HTQ.o⟩
      case measure=>simp[intOf];omega
  .have e:m=rows.length:=by omega
   subst e;rw[Lz (Lc _)] at HT⊢;obtain⟨x0,x1,x2,x3,x4,x5,x6⟩:=HT.o.box.at;obtain⟨v0,v1,v2,v3,v4,v5,v6⟩:=HT.o.res.at;have y0:=K8 HT.o.res 0;have y1:=K8 HT.o.res 1;have y2:=K8 HT.o.res 2;have y3:=K8 HT.o.res 3;have y4:=K8 HT.o.res 4;have y5:=K8 HT.o.res 5;have y6:=K8 HT.o.res 6;simp only[Ly] at x0 x1 x2 x3 x4 x5 x6 v0 v1 v2 v3 v4 v5 v6;have HP:=ac (HT.o.res.put (cA (eu rows)));have HBP:=ac (HT.o.below.trans (dE HP.o.2 (Lc _) HT.o.below.size));have hpat:=HP.o.1.at;unfold fL at hpat;obtain⟨r0,r1,r2,r3,r4,r5,r6⟩:=hpat;simp only[Ly] at r0 r1 r2 r3 r4 r5 r6;go_wp2;refine Lm (v:=.tuple #[bX (cA (eu rows)),.bool (eu rows).isSome]) (by simp[results,Tryz.results153,go_sem,r0,r1,r2,r3,r4,r5,r6,bX]) rfl ⟨rfl,HBP.o⟩
end Go.Proofs.YteimdcndjjclnaaGreat
namespace Go.Proofs.YteimdcndjjclnaaGreat
open Go.Proofs.Tryz
set_option linter.all false
def ao(k:Int):List Ft->Int
 |[]=>0
 |t::ts=>(if t.k=k then t.c else 0)+ao k ts
theorem kg(k:Int):∀f g:List Ft,ao k (f++g)=ao k f+ao k g
 |[],g=>by simp[ao]
 |t::f,g=>by simp only[List.cons_append,ao,kg k f g];omega
theorem qh{k:Int}:∀{f:List Ft},(∀t∈f,t.k≠k)->ao k f=0
 |[],_=>rfl
 |t::f,h=>by simp only[ao,LH (h t (by simp)),qh (f:=f) λu hu=>h u (by simp[hu])];rfl
def Dn(fs:List Ft):Prop:=fs.Pairwise λa b=>b.k<a.k
theorem Dn.tail{t:Ft}{ts:List Ft}(h:Dn (t::ts)):Dn ts:=(List.pairwise_cons.1 h).2
theorem Dn.head{t:Ft}{ts:List Ft}(h:Dn (t::ts)):∀u∈ts,u.k<t.k:=(List.pairwise_cons.1 h).1
theorem Dn.le{t:Ft}{ts:List Ft}(h:Dn (t::ts)):∀u∈t::ts,u.k<=t.k:=λu hu=>by
 rcases LL.1 hu with rfl|hu
 .omega
 .have:=h.head u hu;omega
theorem mi(P:List Ft->List Ft->Prop)(hl:∀g,P [] g)(hr:∀f,P f [])(h1:∀t u f g,u.k<t.k->P f (u::g)->P (t::f) (u::g))(h2:∀t u f g,t.k<u.k->P (t::f) g->P (t::f) (u::g))(h3:∀t u f g,t.k=u.k->P f g->P (t::f) (u::g)):∀f g,P f g
 |[],g=>hl g
 |t::f,[]=>hr _
 |t::f,u::g=>by
  by_cases ha:u.k<t.k
  .exact h1 t u f g ha (mi P hl hr h1 h2 h3 f (u::g))
  .by_cases hb:t.k<u.k
   .exact h2 t u f g hb (mi P hl hr h1 h2 h3 (t::f) g)
   .exact h3 t u f g (by omega) (mi P hl hr h1 h2 h3 f g)
theorem KN(p k:Int):∀f g:List Ft,p∣ao k (cD p f g)-(ao k f+ao k g):=by
 refine mi _ (λg=>?_) (λf=>?_) (λt u f g h ih=>?_) (λt u f g h ih=>?_) (λt u f g h ih=>?_)
 .rw[o6];exact⟨0,by simp[ao]⟩
 .rw[o7];exact⟨0,by simp[ao]⟩
 .rw[o8 h];simp only[ao] at ih⊢;obtain⟨q,hq⟩:=ih;exact⟨q,by omega⟩
 .rw[o9 h];simp only[ao] at ih⊢;obtain⟨q,hq⟩:=ih;exact⟨q,by omega⟩
 .obtain⟨q,hq⟩:=ih;by_cases hc:(t.c+u.c)%p=0
  .rw[ph h hc];obtain⟨m,hm⟩:=Int.dvd_of_emod_eq_zero hc;simp only[ao,h];by_cases hk:u.k=k
   .rw[LI hk,LI hk];exact⟨q-m,by rw[Int.mul_sub];omega⟩
   .rw[LH hk,LH hk];exact⟨q,by omega⟩
  .rw[pd h hc];obtain⟨m,hm⟩:=jx p (t.c+u.c);simp only[ao,h];by_cases hk:u.k=k
   .rw[LI hk,LI hk,LI hk];exact⟨q+m,by rw[Int.mul_add];omega⟩
   .rw[LH hk,LH hk,LH hk];exact⟨q,by omega⟩
def f9(x t:Ft):Prop:=x.k=t.k/\x.a=t.a/\x.b=t.b/\x.d=t.d/\x.z=t.z/\x.pl=t.pl
theorem KO(p:Int)(hp:2<=p):∀f g:List Ft,(∀t∈f,0<t.c/\t.c<p)->(∀t∈g,0<t.c/\t.c<p)->∀x∈cD p f g,(∃t,(t∈f\/t∈g)/\f9 x t)/\0<x.c/\x.c<p:=by
 refine mi _ (λg=>?_) (λf=>?_) (λt u f g h ih=>?_) (λt u f g h ih=>?_) (λt u f g h ih=>?_)
 .rw[o6];exact λ_ hg x hx=>⟨⟨x,L3 hx,rfl,rfl,rfl,rfl,rfl,rfl⟩,hg x hx⟩
 .rw[o7];exact λhf _ x hx=>⟨⟨x,L0 hx,rfl,rfl,rfl,rfl,rfl,rfl⟩,hf x hx⟩
 .intro hf hg x hx;rw[o8 h] at hx;rcases LL.1 hx with rfl|hx
  .exact⟨⟨x,by simp,rfl,rfl,rfl,rfl,rfl,rfl⟩,hf x (by simp)⟩
  .obtain⟨⟨y,hy,ha⟩,hc⟩:=ih (λy hy=>hf y (by simp[hy])) hg x hx;exact⟨⟨y,by rcases hy with hy|hy<;>simp[hy],ha⟩,hc⟩
 .intro hf hg x hx;rw[o9 h] at hx;rcases LL.1 hx with rfl|hx
  .exact⟨⟨x,by simp,rfl,rfl,rfl,rfl,rfl,rfl⟩,hg x (by simp)⟩
  .obtain⟨⟨y,hy,ha⟩,hc⟩:=ih hf (λy hy=>hg y (by simp[hy])) x hx;exact⟨⟨y,by rcases hy with hy|hy<;>simp[hy],ha⟩,hc⟩
 .intro hf hg x hx;have ih':=ih (λy hy=>hf y (by simp[hy])) (λy hy=>hg y (by simp[hy]));by_cases hc:(t.c+u.c)%p=0
  .rw[ph h hc] at hx;obtain⟨⟨y,hy,ha⟩,hc⟩:=ih' x hx;exact⟨⟨y,by rcases hy with hy|hy<;>simp[hy],ha⟩,hc⟩
  .rw[pd h hc] at hx;rcases LL.1 hx with rfl|hx
   .have h1:=Int.emod_nonneg (t.c+u.c) (show p≠0 by omega);have h2:=Int.emod_lt_of_pos (t.c+u.c) (show 0<p by omega);exact⟨⟨t,by simp,rfl,rfl,rfl,rfl,rfl,rfl⟩,by simp only;omega,by simp only;omega⟩
   .obtain⟨⟨y,hy,ha⟩,hc⟩:=ih' x hx;exact⟨⟨y,by rcases hy with hy|hy<;>simp[hy],ha⟩,hc⟩
theorem vd(p:Int):∀(f g:List Ft),∀x∈cD p f g,∃t,(t∈f\/t∈g)/\x.k=t.k:=by
 refine mi _ (λg=>?_) (λf=>?_) (λt u f g h ih=>?_) (λt u f g h ih=>?_) (λt u f g h ih=>?_)
 .rw[o6];exact λx hx=>⟨x,L3 hx,rfl⟩
 .rw[o7];exact λx hx=>⟨x,L0 hx,rfl⟩
 .intro x hx;rw[o8 h] at hx;rcases LL.1 hx with rfl|hx
  .exact⟨x,by simp,rfl⟩
  .obtain⟨y,hy,ha⟩:=ih x hx;exact⟨y,by rcases hy with hy|hy<;>simp[hy],ha⟩
 .intro x hx;rw[o9 h] at hx;rcases LL.1 hx with rfl|hx
  .exact⟨x,by simp,rfl⟩
  .obtain⟨y,hy,ha⟩:=ih x hx;exact⟨y,by rcases hy with hy|hy<;>simp[hy],ha⟩
 .intro x hx;by_cases hc:(t.c+u.c)%p=0
  .rw[ph h hc] at hx;obtain⟨y,hy,ha⟩:=ih x hx;exact⟨y,by rcases hy with hy|hy<;>simp[hy],ha⟩
  .rw[pd h hc] at hx;rcases LL.1 hx with rfl|hx
   .exact⟨t,by simp,rfl⟩
   .obtain⟨y,hy,ha⟩:=ih x hx;exact⟨y,by rcases hy with hy|hy<;>simp[hy],ha⟩
theorem KP(p:Int):∀f g:List Ft,Dn f->Dn g->Dn (cD p f g):=by
 refine mi _ (λg=>?_) (λf=>?_) (λt u f g h ih=>?_) (λt u f g h ih=>?_) (λt u f g h ih=>?_)
 .rw[o6];exact λ_ hg=>hg
 .rw[o7];exact λhf _=>hf
 .intro hf hg;rw[o8 h];refine List.pairwise_cons.2 ⟨λx hx=>?_,ih hf.tail hg⟩;obtain⟨y,hy,e⟩:=vd p _ _ x hx;rcases hy with hy|hy
  .have:=hf.head y hy;omega
  .have:=hg.le y hy;omega
 .intro hf hg;rw[o9 h];refine List.pairwise_cons.2 ⟨λx hx=>?_,ih hf hg.tail⟩;obtain⟨y,hy,e⟩:=vd p _ _ x hx;rcases hy with hy|hy
  .have:=hf.le y hy;omega
  .have:=hg.head y hy;omega
 .intro hf hg;by_cases hc:(t.c+u.c)%p=0
  .rw[ph h hc];exact ih hf.tail hg.tail
  .rw[pd h hc];refine List.pairwise_cons.2 ⟨λx hx=>?_,ih hf.tail hg.tail⟩;obtain⟨y,hy,e⟩:=vd p _ _ x hx;simp only;rcases hy with hy|hy
   .have:=hf.head y hy;omega
   .have:=hg.head y hy;omega
theorem KQ{g:Option Ft}{row:List Ft}(hd:Dn row):(∀u,g=some u->∃t,gN g row=some t/\u.k<=t.k)/\(∀u∈row,∃t,gN g row=some t/\u.k<=t.k)/\(∀t,gN g row=some t->g=some t\/∃ts,row=t::ts):=by
 cases row with
 |nil=>exact⟨λu h=>⟨u,h,Int.le_refl _⟩,λu h=>by simp at h,λt h=>L0 h⟩
 |cons t ts=>
  cases g with
  |none=>exact⟨λu h=>by simp at h,λu h=>⟨t,rfl,hd.le u h⟩,λx h=>by simp only[gN,LA] at h;exact L3 ⟨ts,by rw[h]⟩⟩
  |some g=>
   simp only[gN];split
   .exact⟨λu h=>⟨t,rfl,by simp at h;subst h;omega⟩,λu h=>⟨t,rfl,hd.le u h⟩,λx h=>by simp only[LA] at h;exact L3 ⟨ts,by rw[h]⟩⟩
   .exact⟨λu h=>⟨g,rfl,by simp at h;subst h;omega⟩,λu h=>⟨g,rfl,by have:=hd.le u h;omega⟩,λx h=>L0 h⟩
theorem ve:∀(rows:List (List Ft)) (g:Option Ft),(∀r∈rows,Dn r)->(∀u,g=some u->∃t,rows.foldl gN g=some t/\u.k<=t.k)/\(∀r∈rows,∀u∈r,∃t,rows.foldl gN g=some t/\u.k<=t.k)/\(∀t,rows.foldl gN g=some t->g=some t\/∃ts,(t::ts)∈rows)
 |[],g,_=>⟨λu h=>⟨u,h,Int.le_refl _⟩,λr h=>by simp at h,λt h=>L0 h⟩
 |r::rows,g,hd=>by
  obtain⟨a1,a2,a3⟩:=KQ (g:=g) (hd r (by simp));obtain⟨b1,b2,b3⟩:=ve rows (gN g r) λr hr=>hd r (by simp[hr]);refine⟨λu h=>?_,λr' hr' u hu=>?_,λt h=>?_⟩
  .obtain⟨t,ht,hk⟩:=a1 u h;obtain⟨t2,ht2,hk2⟩:=b1 t ht;exact⟨t2,ht2,by omega⟩
  .rcases LL.1 hr' with rfl|hr'
   .obtain⟨t,ht,hk⟩:=a2 u hu;obtain⟨t2,ht2,hk2⟩:=b1 t ht;exact⟨t2,ht2,by omega⟩
   .exact b2 r' hr' u hu
  .rcases b3 t h with h|⟨ts,h⟩
   .rcases a3 t h with h|⟨ts,rfl⟩
    .exact L0 h
    .exact L3 ⟨ts,by simp⟩
   .exact L3 ⟨ts,by simp[h]⟩
theorem AR{rows:List (List Ft)}(hd:∀r∈rows,Dn r)(h:eu rows=none):∀r∈rows,r=[]:=by
 intro r hr;cases r with
 |nil=>rfl
 |cons t ts=>obtain⟨x,hx,_⟩:=(ve rows none hd).2.1 _ hr t (by simp);rw[eu] at h;rw[h] at hx;simp at hx
theorem BL{rows:List (List Ft)}(hd:∀r∈rows,Dn r){t:Ft}(h:eu rows=some t):(∃ts,(t::ts)∈rows)/\∀r∈rows,∀u∈r,u.k<=t.k:=by
 obtain⟨_,b2,b3⟩:=ve rows none hd;refine⟨?_,λr hr u hu=>?_⟩
 .rcases b3 t h with h|h
  .simp at h
  .exact h
 .obtain⟨x,hx,hk⟩:=b2 r hr u hu;rw[eu] at h;rw[h] at hx;simp at hx;subst hx;exact hk
def eA(key:Int):List Ft->List Ft
 |[]=>[]
 |t::ts=>if t.k=key then ts else t::ts
def iV(key:Int):List Ft->Int
 |[]=>0
 |t::_=>if t.k=key then t.c else 0
def tk(key:Int)(rows:List (List Ft)):List (List Ft):=rows.map (eA key)
def cY(key:Int)(rows:List (List Ft)):Int:=(rows.map (iV key)).sum
theorem vf(key:Int)(r:List Ft):∀u∈eA key r,u∈r:=by
 cases r with
 |nil=>exact λu h=>h
 |cons t ts=>
  simp only[eA];split
  .exact λu h=>by simp[h]
  .exact λu h=>h
theorem uG{key:Int}{r:List Ft}(h:Dn r):Dn (eA key r):=by
 cases r with
 |nil=>exact h
 |cons t ts=>
  simp only[eA];split
  .exact h.tail
  .exact h
theorem KR{key:Int}{r:List Ft}(h:Dn r)(hk:∀u∈r,u.k<=key):∀u∈eA key r,u.k<key:=by
 cases r with
 |nil=>exact λu h=>by simp[eA] at h
 |cons t ts=>
  simp only[eA];split
  .rename_i e;exact λu hu=>by have:=h.head u hu;omega
  .rename_i e;intro u hu;have h1:=hk t (by simp);have h2:=h.le u hu;omega
theorem KS(key k:Int){r:List Ft}:ao k r=ao k (eA key r)+if k=key then iV key r else 0:=by
 cases r with
 |nil=>simp[eA,iV,ao]
 |cons t ts=>
  simp only[eA,iV];by_cases h:t.k=key
  .rw[LI h,LI h];simp only[ao];by_cases hk:k=key
   .rw[LI (by omega),LI hk];omega
   .rw[LH (by omega),LH hk];omega
  .rw[LH h,LH h];simp
theorem vg(key k:Int):∀rows:List (List Ft),ao k rows.flatten=ao k (tk key rows).flatten+if k=key then cY key rows else 0
 |[]=>by simp[tk,cY,ao]
 |r::rows=>by
  have h1:=KS key k (r:=r);have h2:=vg key k rows;simp only[tk,cY,List.map_cons,List.flatten_cons,List.sum_cons,kg] at h2⊢;split at h1
  .rename_i e;simp only[LI e] at h2⊢;omega
  .rename_i e;simp only[LH e] at h2⊢;omega
def fQ(rows:List (List Ft)):Nat:=(rows.map List.length).sum
theorem BM(key:Int):∀rows:List (List Ft),fQ (tk key rows)<=fQ rows
 |[]=>by simp[tk,fQ]
 |r::rows=>by
  have h:=BM key rows;have h1:(eA key r).length<=r.length:=by
   cases r with
   |nil=>simp[eA]
   |cons t ts=>simp only[eA];split<;>simp
  simp only[tk,fQ,List.map_cons,List.sum_cons] at h⊢;omega
theorem BN{t:Ft}{ts:List Ft}:∀{rows:List (List Ft)},(t::ts)∈rows->fQ (tk t.k rows)<fQ rows
 |[],h=>by simp at h
 |r::rows,h=>by
  have h0:=BM t.k rows;have h1:(eA t.k r).length<=r.length:=by
   cases r with
   |nil=>simp[eA]
   |cons t ts=>simp only[eA];split<;>simp
  rcases LL.1 h with rfl|h
  .simp only[tk,fQ,List.map_cons,List.sum_cons,eA,LI] at h0⊢;simp only[LN];omega
  .have h2:=BN h;simp only[tk,fQ,List.map_cons,List.sum_cons] at h2⊢;omega
def Nx(p:Int)(rows:List (List Ft))(r:Option Ft)(rows2:List (List Ft)):Prop:=
 ∀P:List (List Ft)->Option Ft->List (List Ft)->Prop,(∀rows,eu rows=none->P rows none rows)->(∀rows (t:Ft),eu rows=some t->cY t.k rows%p≠0->P rows (some {t with c:=cY t.k rows%p}) (tk t.k rows))->
  (∀rows rows2 (t:Ft) r,eu rows=some t->cY t.k rows%p=0->P (tk t.k rows) r rows2->P rows r rows2)->P rows r rows2
theorem Nx.stop{p:Int}(rows:List (List Ft))(h:eu rows=none):Nx p rows none rows:=λ_ h1 _ _=>h1 rows h
theorem Nx.hit{p:Int}(rows:List (List Ft))(t:Ft)(h:eu rows=some t)(hz:cY t.k rows%p≠0):Nx p rows (some {t with c:=cY t.k rows%p}) (tk t.k rows):=λ_ _ h2 _=>h2 rows t h hz
theorem Nx.go{p:Int}(rows rows2:List (List Ft))(t:Ft)(r:Option Ft)(h:eu rows=some t)(hz:cY t.k rows%p=0)(hn:Nx p (tk t.k rows) r rows2):Nx p rows r rows2:=λP h1 h2 h3=>h3 rows rows2 t r h hz (hn P h1 h2 h3)
theorem Nx.ind{p:Int}{motive:∀rows r rows2,Nx p rows r rows2->Prop}(stop:∀rows h,motive rows none rows (Nx.stop rows h))(hit:∀rows t h hz,motive _ _ _ (Nx.hit rows t h hz))(go:∀rows rows2 t r h hz hn,motive _ _ _ hn->motive _ _ _ (Nx.go rows rows2 t r h hz hn)){rows:List (List Ft)}{r:Option Ft}{rows2:List (List Ft)}(h:Nx p rows r rows2):motive rows r rows2 h:=by have:=h (λa b c=>∃h,motive a b c h) (λa h1=>⟨_,stop a h1⟩) (λa t h1 h2=>⟨_,hit a t h1 h2⟩) (λa b t r h1 h2 ⟨h3,h4⟩=>⟨_,go a b t r h1 h2 h3 h4⟩);exact this.2
structure aO(p:Int)(G:Ft->Prop)(rows:List (List Ft)):Prop where
 dn:∀r∈rows,Dn r
 co:∀r∈rows,∀t∈r,0<t.c/\t.c<p
 gd:∀r∈rows,∀t∈r,G t
theorem aO.tk{p:Int}{G:Ft->Prop}{rows:List (List Ft)}(h:aO p G rows)(key:Int):aO p G (tk key rows):=by
 refine⟨λr hr=>?_,λr hr t ht=>?_,λr hr t ht=>?_⟩<;>(obtain⟨r0,h0,rfl⟩:=LC.1 hr)
 .exact uG (h.dn r0 h0)
 .exact h.co r0 h0 t (vf key r0 t ht)
 .exact h.gd r0 h0 t (vf key r0 t ht)
theorem Nx.spec{p:Int}(hp:2<=p){G:Ft->Prop}(hG:∀x t,f9 x t->G t->G x){rows rows2:List (List Ft)}{r:Option Ft}(h:Nx p rows r rows2):aO p G rows->aO p G rows2/\rows2.length=rows.length/\match r with
   |none=>∀k,p∣ao k rows.flatten
   |some t=>G t/\0<t.c/\t.c<p/\(∀r∈rows2,∀u∈r,u.k<t.k)/\∀k,p∣ao k rows.flatten-(ao k rows2.flatten+if k=t.k then t.c else 0):=by
 induction h using Nx.ind with
 |stop rows hg=>
  intro hr;refine⟨hr,rfl,λk=>?_⟩;have he:=AR hr.dn hg;rw[qh (λt ht=>by
   obtain⟨r,h1,h2⟩:=List.mem_flatten.1 ht;rw[he r h1] at h2;simp at h2)]
  exact⟨0,by omega⟩
 |hit rows t hg hne=>
  intro hr;obtain⟨⟨ts,hm⟩,hle⟩:=BL hr.dn hg;have h1:=Int.emod_nonneg (cY t.k rows) (show p≠0 by omega);have h2:=Int.emod_lt_of_pos (cY t.k rows) (show 0<p by omega);refine⟨hr.tk _,by simp[tk],hG _ t ⟨rfl,rfl,rfl,rfl,rfl,rfl⟩ (hr.gd _ hm t (by simp)),by simp only;omega,h2,λr hr2 u hu=>?_,λk=>?_⟩
  .obtain⟨r0,h0,rfl⟩:=LC.1 hr2;exact KR (hr.dn r0 h0) (hle r0 h0) u hu
  .rw[vg t.k k rows];by_cases hk:k=t.k
   .simp only[LI hk];obtain⟨m,hm⟩:=jx p (cY t.k rows);exact⟨-m,by rw[Int.mul_neg];omega⟩
   .simp only[LH hk];exact⟨0,by omega⟩
 |go rows rows2 t r hg hz hn ih=>
  intro hr;obtain⟨i1,i2,i3⟩:=ih (hr.tk _);refine⟨i1,by rw[i2];simp[tk],?_⟩;have hc:∀k,p∣ao k rows.flatten-ao k (tk t.k rows).flatten:=λk=>by
   rw[vg t.k k rows];obtain⟨m,hm⟩:=Int.dvd_of_emod_eq_zero hz;by_cases hk:k=t.k
   .rw[LI hk];exact⟨m,by omega⟩
   .rw[LH hk];exact⟨0,by omega⟩
  cases r with
  |none=>intro k;obtain⟨a,ha⟩:=hc k;obtain⟨b,hb⟩:=i3 k;exact⟨a+b,by rw[Int.mul_add];omega⟩
  |some x=>obtain⟨j1,j2,j3,j4,j5⟩:=i3;refine⟨j1,j2,j3,j4,λk=>?_⟩;obtain⟨a,ha⟩:=hc k;obtain⟨b,hb⟩:=j5 k;exact⟨a+b,by rw[Int.mul_add];omega⟩
end Go.Proofs.YteimdcndjjclnaaGreat
namespace Go.Proofs.YteimdcndjjclnaaGreat
set_option linter.all false
open Go.Proofs.Tryz Go.RowKit
def bU(Φ:Value->Prop)(w:World)(g:Nat):Prop:=∀j u,w.cell? ⟨g,j,none⟩=some u->Φ u
theorem bU.below{Φ:Value->Prop}{w w':World}{g:Nat}(h:bU Φ w g)(hb:w'.heap[g]?=w.heap[g]?):bU Φ w' g:=by intro j u hu;rw[World.cell?_of_block (a:=⟨g,j,none⟩) hb] at hu;exact h j u hu
theorem qT{Φ:Value->Prop}{w:World}{C:Array Value}{T:TypeId}(h:∀u∈C.toList,Φ u):bU Φ (w.alloc (.cells C T)) w.heap.size:=by
 intro j u hu;have e:(w.alloc (.cells C T)).cell? ⟨w.heap.size,j,none⟩=C[j]?:=by unfold World.cell?;rw[show (w.alloc (.cells C T)).heap[w.heap.size]?=some (.cells C T (0,0)) from heap_alloc_new w _];simp
 rw[e] at hu;exact h u (by rw[Array.mem_toList_iff];exact Array.mem_of_getElem? hu)
theorem mF{Φ:Value->Prop}{w:World}{g:Nat}{C:Array Value}{T:TypeId}(hg:w.heap[g]?=some (.cells C T (0,0)))(h:∀u∈C.toList,Φ u):bU Φ w g:=by
 intro j u hu;have e:w.cell? ⟨g,j,none⟩=C[j]?:=by unfold World.cell?;rw[hg];simp
 rw[e] at hu;exact h u (by rw[Array.mem_toList_iff];exact Array.mem_of_getElem? hu)
theorem sR{Φ:Value->Prop}{w:World}{g:Nat}{C:Array Value}{T:TypeId}(hg:w.heap[g]?=some (.cells C T (0,0)))(h:bU Φ w g):∀u∈C.toList,Φ u:=by intro u hu;obtain⟨j,hj,rfl⟩:=List.getElem_of_mem hu;refine h j _ ?_;unfold World.cell?;rw[hg];simp at hj⊢
theorem BO{Φ:Value->Prop}{w:World}{g j:Nat}{u y:Value}(h:bU Φ w g)(hu:Φ u)(hy:w.cell? ⟨g,j,none⟩=some y):bU Φ (w.setCell ⟨g,j,none⟩ u) g:=by
 intro i x hx;by_cases e:i=j
 .subst e;rw[World.cell?_setCell_same _ _ _ hy] at hx;simp only[LA] at hx;rw[<-hx];exact hu
 .rw[World.cell?_setCell_other] at hx
  .exact h i x hx
  .intro h2;apply e;simpa using h2.symm
theorem tQ{P:Program}(w:World)(Φ:Value->Prop)(base:Nat)(t ty e:TypeId)(i:TypeInfo)(z:Value)(size bytes:Nat)(ht:P.underlying t=some (.slice e))(hi:P.info? e=some i)(hz:i.zero=some z)(hsize:i.size=size)(hby:i.bytes=bytes)(hzs:z.cells.size=size)(hsz:0<size)(hΦz:∀u∈z.cells.toList,Φ u)(v:Value)(n:Nat)(xs:List Value)(hown:w.ownsRow base e size v n xs)(hk:∀g,v.ownBlock=some g->bU Φ w g)(a:Addr)(m c:Nat)(news:List Value)(hm:0<m)(hl:news.length=m*size)(hnews:∀j u,news[j]?=some u->w.cell? (a.add j)=some u)(h1:∀u∈news,u.oneCell'=true)(hΦn:∀u∈news,Φ u)(h63:n+m<=maxLen)(hbytes:(n+m)*bytes<=140737488355328)(hbase:base<=w.heap.size):∃v' w',(Builtin.append_ #[t,t] ty #[v,.slice (some a) m c]).run P w=.ok v' w'/\w'.ownsRow base e size v' (n+m) (xs++news)/\w.grownBy w' v.ownBlock/\(∀g,v'.ownBlock=some g->bU Φ w' g)/\(v'.ownBlock=v.ownBlock\/v'.ownBlock=some w.heap.size):=by
 obtain⟨v',w',hr,h2,h3,_⟩:=run_append_own (P:=P) w base t ty e i z size bytes ht hi hz hsize hby hzs hsz v n xs hown a m c news hl hnews h1 h63 hbytes hbase;refine⟨v',w',hr,h2,h3,?_⟩;have hsmall:n+m<=9223372036854775807:=by simp only[maxLen] at h63;omega
 have hzero:∀(q:Nat),∀x∈(Builtin.zeroCells z.cells q).toList,Φ x:=by intro q x hx;simp[Builtin.zeroCells] at hx;obtain⟨l,hl,hx⟩:=hx;have hlt:l%z.cells.size<z.cells.size:=Nat.mod_lt _ (by omega);rw[getElem!_pos z.cells _ hlt] at hx;rw[<-hx];exact hΦz _ (by simp)
 subst hsize;subst hby;rcases hown.2 with ⟨rfl,rfl⟩|⟨g,cap,af,rfl,hbg,hg,hnc,hcm,hcs,htake⟩
 .have hr2:=run_append_nil (P:=P) w t ty e i z ht hi hz a m c news hl hnews (by omega) (by omega) (by have hb:=hbytes;simp only[Ly] at hb;omega);rw[hr] at hr2;simp only[Result.ok.injEq] at hr2;obtain⟨rfl,rfl⟩:=hr2;refine⟨λg hg=>?_,L3 rfl⟩;simp only[Value.ownBlock,LA] at hg;subst hg;refine qT (w:=w.drew) (λx hx=>?_);rw[Array.toList_append,Lv] at hx;rcases hx with hx|hx
  .exact hΦn x (by simpa using hx)
  .exact hzero _ x hx
 .have hcur:=sR hg (hk g rfl);by_cases hroom:n+m<=cap
  .have hfit:n*i.size+news.length<=af.size:=by rw[hl,hcs,<-Nat.add_mul];exact L5 _ hroom
   have hr2:=run_append_room (P:=P) w t ty e i ht hi g n cap af hg a m c news hl hnews h1 hroom hfit;rw[hr] at hr2;simp only[Result.ok.injEq] at hr2;obtain⟨rfl,rfl⟩:=hr2;refine⟨λg2 hg2=>?_,L0 rfl⟩;simp only[Value.ownBlock,LA] at hg2;subst hg2;refine mF (setRow_heap w g af _ e _ hg) (λx hx=>?_);rw[List.toList_toArray,Lv,Lv] at hx;rcases hx with (hx|hx)|hx
   .exact hcur x (L6 hx)
   .exact hΦn x hx
   .exact hcur x (List.mem_of_mem_drop hx)
  .have holds:∀j x,xs[j]?=some x->w.cell? ((⟨g,0,none⟩:Addr).add j)=some x:=hown.cells (g:=g) rfl;have hr2:=run_append_grow (P:=P) w t ty e i z ht hi hz ⟨g,0,none⟩ n cap xs hown.1 holds a m c news hl hnews (by omega) (by omega) (growslice_fits (by omega) hbytes);rw[hr] at hr2;simp only[Result.ok.injEq] at hr2;obtain⟨rfl,rfl⟩:=hr2;refine⟨λg2 hg2=>?_,L3 rfl⟩;simp only[Value.ownBlock,LA] at hg2;subst hg2;refine qT (w:=w.drew) (λx hx=>?_);rw[Array.toList_append,Array.toList_append,Lv,Lv] at hx;rcases hx with (hx|hx)|hx
   .rw[List.toList_toArray,<-htake] at hx;exact hcur x (L6 hx)
   .exact hΦn x (by simpa using hx)
   .exact hzero _ x hx
structure ai(S:Nat->Prop)(w w':World):Prop where
 os:w'.os=w.os
 tape:w'.tape=w.tape
 output:w'.output=w.output
 size:w.heap.size<=w'.heap.size
 block:∀k,k<w.heap.size->¬S k->w'.heap[k]?=w.heap[k]?
theorem ai.refl(S:Nat->Prop)(w:World):ai S w w:=⟨rfl,rfl,rfl,Lc _,λ_ _ _=>rfl⟩
theorem ai.trans{S T:Nat->Prop}{a b c:World}(h:ai S a b)(k:ai T b c)(ht:∀x,x<a.heap.size->T x->S x):ai S a c:=
 ⟨k.os.trans h.os,k.tape.trans h.tape,k.output.trans h.output,Lk h.size k.size,λi hi hs=>(k.block i (Lj hi h.size) (λx=>hs (ht i hi x))).trans (h.block i hi hs)⟩
theorem ai.wide{S T:Nat->Prop}{a b:World}(h:ai S a b)(hs:∀x,x<a.heap.size->S x->T x):ai T a b:=⟨h.os,h.tape,h.output,h.size,λk hk hT=>h.block k hk λx=>hT (hs k hk x)⟩
theorem ai.of_below{S:Nat->Prop}{a b:World}(h:Below a.heap.size a b):ai S a b:=⟨h.os,h.tape,h.output,h.size,λk hk _=>h.block k hk⟩
theorem ai.of_grown{S:Nat->Prop}{a b:World}{r:Option Nat}(h:a.grownBy b r)(hs:∀g,r=some g->S g):ai S a b:=⟨h.os,h.tape,h.output,h.size,λk hk hS=>h.block k hk λe=>hS (hs k e.symm)⟩
theorem ai.to_below{S:Nat->Prop}{B:Nat}{a b:World}(h:ai S a b)(hB:B<=a.heap.size)(hs:∀x,S x->B<=x):Below B a b:=⟨h.os,h.tape,h.output,h.size,λk hk=>h.block k (by omega) λx=>by have:=hs k x;omega⟩
theorem ai.cell{S:Nat->Prop}{a b:World}(h:ai S a b){p:Addr}{u:Value}(hc:a.cell? p=some u)(hs:¬S p.block):b.cell? p=some u:=
 (World.cell?_of_block (h.block p.block (Lq a p hc) hs)).trans hc
theorem ai.own{S:Nat->Prop}{a b:World}(h:ai S a b){B:Nat}{T:TypeId}{s:Nat}{v:Value}{n:Nat}{xs:List Value}(ho:a.ownsRow B T s v n xs)(hs:∀g,v.ownBlock=some g->¬S g):b.ownsRow B T s v n xs:=by
 refine⟨ho.1,?_⟩;rcases ho.2 with hn|⟨g,cap,af,rfl,hb,hgg,rest⟩
 .exact .inl hn
 .refine .inr ⟨g,cap,af,rfl,hb,?_,rest⟩;rw[h.block g (LS.1 hgg).1 (hs g rfl)];exact hgg
theorem ai.kdb{S:Nat->Prop}{Φ:Value->Prop}{a b:World}(h:ai S a b){g:Nat}(hk:bU Φ a g)(hlt:g<a.heap.size)(hs:¬S g):bU Φ b g:=hk.below (h.block g hlt hs)
def jA(u:Value):Prop:=∀x,u≠.int .u16 x
theorem mJ{w:World}{g:Nat}(h:cz w g):bU jA w g:=λj u hu x e=>by obtain⟨_,_,_,h2⟩:=h j u hu;rw[h2] at e;cases e
theorem iI{S:Nat->Prop}{a b:World}(h:ai S a b)(hn:∀g,S g->bU jA a g){v:Value}{fs:List Ft}(hf:Fv a v fs):Fv b v fs:=by
 obtain⟨ad,cap,rfl,hc,h1⟩:=hf;refine⟨ad,cap,rfl,hc,λhp=>?_⟩;obtain⟨bl,off,rfl,hlt,hcs⟩:=h1 hp;have hne:¬S bl:=by
  intro hs;cases fs with
  |nil=>simp at hp
  |cons t ts=>exact hn bl hs _ _ (hcs 1 (.int .u16 t.a) rfl) t.a rfl
 exact⟨bl,off,rfl,Lj hlt h.size,λj u hj=>h.cell (hcs j u hj) hne⟩
structure cF(B:Nat)(w:World)(v:Value)(us:List Value)(rows:List (List Ft)):Prop where
 len:us.length=rows.length
 own:w.ownsRow B 92 1 v rows.length us
 kind:∀g,v.ownBlock=some g->cz w g
 fvs:∀i,i<rows.length->Fv w (us.getD i aB) (rows.getD i [])
theorem cF.frm{B:Nat}{S:Nat->Prop}{w w':World}{v:Value}{us:List Value}{rows:List (List Ft)}(h:cF B w v us rows)(hf:ai S w w')(hn:∀g,S g->bU jA w g)(hs:∀g,v.ownBlock=some g->¬S g):cF B w' v us rows:=
 ⟨h.len,hf.own h.own hs,λg hg=>hf.kdb (h.kind g hg) (Lb h.own g hg).2 (hs g hg),λi hi=>iI hf hn (h.fvs i hi)⟩
theorem cF.next{B:Nat}{w w':World}{v:Value}{us:List Value}{rows:List (List Ft)}(h:cF B w v us rows)(hb:Below w.heap.size w w'):cF B w' v us rows:=
 h.frm (S:=λ_=>False) (ai.of_below hb) (λg hg=>hg.elim) (λg _ hg=>hg)
theorem cF.nil(B:Nat)(w:World):cF B w (.slice none 0 0) [] []:=
 ⟨rfl,World.ownsRow_nil _ _ _ _,λg hg=>by simp[Value.ownBlock] at hg,λi hi=>by simp at hi⟩
theorem cF.at{B:Nat}{w:World}{v:Value}{us:List Value}{rows:List (List Ft)}(h:cF B w v us rows)(i:Nat)(hi:i<rows.length):∃g c,v=.slice (some ⟨g,0,none⟩) rows.length c/\B<=g/\g<w.heap.size/\w.cell? ⟨g,i,none⟩=some (us.getD i aB)/\w.frozen? ⟨g,i,none⟩=false:=by
 obtain⟨a,c,rfl⟩:=cw h.own;obtain⟨g,rfl,_,hlt,hc⟩:=sF h.own i hi;have hl:=Lb h.own g rfl;have:i<us.length:=by rw[h.len];exact hi
 exact⟨g,c,rfl,hl.1,hl.2,by rw[hc];simp[Lr,this],K8 h.own i⟩
theorem cF.rws{B:Nat}{w:World}{v:Value}{us:List Value}{rows:List (List Ft)}(h:cF B w v us rows):BK w v rows:=by obtain⟨a,c,rfl⟩:=cw h.own;refine⟨a,c,rfl,λi hi=>?_⟩;obtain⟨g,c2,e,_,hlt,hc,_⟩:=h.at i hi;simp only[LB] at e;exact⟨g,0,us.getD i aB,e.1,hlt,by rw[Ly];exact hc,h.fvs i hi⟩
theorem lK{α:Type}(l:List α)(i j:Nat)(x d:α):(l.set i x).getD j d=if i=j/\j<l.length then x else l.getD j d:=by
 by_cases h:i=j
 .subst h;by_cases h2:i<l.length
  .simp[Lr,h2]
  .simp[Lr,h2]
 .simp[Lr,List.getElem?_set_ne h,h]
theorem cF.put{B:Nat}{w:World}{g c:Nat}{n:Nat}{us:List Value}{rows:List (List Ft)}(h:cF B w (.slice (some ⟨g,0,none⟩) n c) us rows)(i:Nat)(hi:i<rows.length)(u:Value)(f:List Ft)(hu:Fv w u f):cF B (w.setCell ⟨g,i,none⟩ u) (.slice (some ⟨g,0,none⟩) n c) (us.set i u) (rows.set i f)/\w.grownBy (w.setCell ⟨g,i,none⟩ u) (some g):=by
 have hn:n=rows.length:=by obtain⟨a,c2,e⟩:=cw h.own;simp only[LB] at e;exact e.2.1
 subst hn;have s:=Lp h.own i u;have hk:=mJ (h.kind g rfl);have hf:ai (λk=>k=g) w (w.setCell ⟨g,i,none⟩ u):=ai.of_grown s.2 (λx e=>by simpa using e.symm);have hus:∃a n c,u=.slice a n c:=by obtain⟨a,c,e,_⟩:=hu;exact⟨a,_,c,e⟩
 obtain⟨g2,c2,e2,_,_,hc,_⟩:=h.at i hi;simp only[LB,LA,Addr.mk.injEq,true_and,and_true] at e2;obtain⟨rfl,_⟩:=e2;refine⟨⟨by simp[h.len],by rw[List.length_set];exact s.1,λg2 hg2=>?_,λj hj=>?_⟩,s.2⟩
 .simp only[Value.ownBlock,LA] at hg2;subst hg2;exact BO (h.kind g rfl) hus hc
 .rw[List.length_set] at hj;rw[lK,lK,h.len];by_cases e:i=j
  .rw[LI ⟨e,hj⟩,LI ⟨e,hj⟩];exact iI hf (λk e=>by subst e;exact hk) hu
  .rw[LH (λh=>e h.1),LH (λh=>e h.1)];exact iI hf (λk e=>by subst e;exact hk) (h.fvs j hj)
theorem cF.snoc{B:Nat}{w w2:World}{v v2:Value}{us:List Value}{rows:List (List Ft)}{u:Value}(h:cF B w v us rows)(hu:Fv w u [])(h2:w2.ownsRow B 92 1 v2 (rows.length+1) (us++[u]))(g2:w.grownBy w2 v.ownBlock)(k2:∀g,v2.ownBlock=some g->cz w2 g):cF B w2 v2 (us++[u]) (rows++[[]]):=by
 have hf:ai (λk=>v.ownBlock=some k) w w2:=ai.of_grown g2 (λx e=>e);have hn:∀g,v.ownBlock=some g->bU jA w g:=λg hg=>mJ (h.kind g hg);refine⟨by simp[h.len],by rw[Lx];exact h2,k2,λi hi=>?_⟩;rw[Lx] at hi;simp only[LN,List.length_nil] at hi;rcases Nat.lt_or_ge i rows.length with hl|hl
 .have e1:(us++[u]).getD i aB=us.getD i aB:=by simp[Lr,LQ (show i<us.length by rw[h.len];exact hl)]
  have e2:(rows++[[]]).getD i []=rows.getD i []:=by simp[Lr,LQ hl]
  rw[e1,e2];exact iI hf hn (h.fvs i hl)
 .have e:i=rows.length:=by omega
  subst e;have e1:(us++[u]).getD rows.length aB=u:=by rw[<-h.len];simp[Lr]
  have e2:(rows++[[]]).getD rows.length []=([]:List Ft):=by simp[Lr]
  rw[e1,e2];exact iI hf hn hu
structure bB(B:Nat)(w:World)(sb ob:Nat)(rv:Value)(us:List Value)(rows:List (List Ft)):Prop where
 box:w.ownsRow B 157 2 (.slice (some ⟨sb,0,none⟩) 1 1) 1 [.pointer (some ⟨ob,0,none⟩),rv]
 kind:bU jA w sb
 rws:cF B w rv us rows
theorem bB.next{B:Nat}{w w':World}{sb ob:Nat}{rv:Value}{us:List Value}{rows:List (List Ft)}(h:bB B w sb ob rv us rows)(hb:Below w.heap.size w w'):bB B w' sb ob rv us rows:=
 ⟨aK h.box hb,h.kind.below (hb.block sb (Lb h.box sb rfl).2),h.rws.next hb⟩
theorem bB.apart{B:Nat}{w:World}{sb ob:Nat}{rv:Value}{us:List Value}{rows:List (List Ft)}(h:bB B w sb ob rv us rows):rv.ownBlock≠some sb:=by
 intro e;rcases i6 (by decide) h.rws.own h.box with h1|h1
 .rw[h1] at e;cases e
 .exact h1 (by rw[e];rfl)
theorem bB.lt{B:Nat}{w:World}{sb ob:Nat}{rv:Value}{us:List Value}{rows:List (List Ft)}(h:bB B w sb ob rv us rows):B<=sb/\sb<w.heap.size:=Lb h.box sb rfl
theorem bB.cells{B:Nat}{w:World}{sb ob:Nat}{rv:Value}{us:List Value}{rows:List (List Ft)}(h:bB B w sb ob rv us rows):w.cell? ⟨sb,0,none⟩=some (.pointer (some ⟨ob,0,none⟩))/\w.cell? ⟨sb,1,none⟩=some rv/\w.frozen? ⟨sb,1,none⟩=false:=
 ⟨La h.box 0 (by omega),La h.box 1 (by omega),K8 h.box 1⟩
theorem bB.put{B:Nat}{w:World}{sb ob g c n:Nat}{us:List Value}{rows:List (List Ft)}(h:bB B w sb ob (.slice (some ⟨g,0,none⟩) n c) us rows)(i:Nat)(hi:i<rows.length)(u:Value)(f:List Ft)(hu:Fv w u f):bB B (w.setCell ⟨g,i,none⟩ u) sb ob (.slice (some ⟨g,0,none⟩) n c) (us.set i u) (rows.set i f)/\w.grownBy (w.setCell ⟨g,i,none⟩ u) (some g):=by have s:=h.rws.put i hi u f hu;have hne:sb≠g:=λe=>h.apart (by rw[e];rfl);exact⟨⟨World.ownsRow.kept h.box s.2 (L3 (by simpa [Value.ownBlock] using hne)),h.kind.below (s.2.block sb h.lt.2 (by simpa using hne)),s.1⟩,s.2⟩
theorem bB.grow{B:Nat}{w w2:World}{sb ob:Nat}{rv v2:Value}{us:List Value}{rows:List (List Ft)}{u:Value}(h:bB B w sb ob rv us rows)(hu:Fv w u [])(h2:w2.ownsRow B 92 1 v2 (rows.length+1) (us++[u]))(g2:w.grownBy w2 rv.ownBlock)(k2:∀g,v2.ownBlock=some g->cz w2 g):bB B (w2.setCell ⟨sb,1,none⟩ v2) sb ob v2 (us++[u]) (rows++[[]]):=by
 have hr:=h.rws.snoc hu h2 g2 k2;have hb2:=World.ownsRow.kept h.box g2 (L3 (by simpa [Value.ownBlock] using λe=>h.apart e.symm));have hk2:bU jA w2 sb:=h.kind.below (g2.block sb h.lt.2 (λe=>h.apart e.symm));have s:=Lp hb2 1 v2;have hav:∀x,v2≠.int .u16 x:=by obtain⟨a,c,e⟩:=cw hr.own;rw[e];exact λx h=>by cases h
 have hf:ai (λk=>k=sb) w2 (w2.setCell ⟨sb,1,none⟩ v2):=ai.of_grown s.2 (λx e=>by simpa using e.symm);refine⟨s.1,BO hk2 hav (La hb2 1 (by omega)),hr.frm hf (λg e=>by subst e;exact hk2) λg hg e=>?_⟩;subst e;rcases i6 (by decide) hr.own hb2 with h1|h1
 .rw[h1] at hg;cases hg
 .exact h1 (by rw[hg];rfl)
def fK(sb:Nat)(rv:Value)(k:Nat):Prop:=k=sb\/rv.ownBlock=some k
end Go.Proofs.YteimdcndjjclnaaGreat
