/- Flat vectors, sorted. -/
import Derived.Test.YtglijodcbdcngaaGreatRE
import Derived.Test.YtglijodcbdcngaaGreatShelf
import Derived.Test.YtglijodcbdcngaaGreatWB
set_option maxHeartbeats 2000000
set_option maxRecDepth 100000
namespace Go.Proofs.YtglijodcbdcngaaGreat
set_option linter.unusedSimpArgs false
set_option linter.unusedVariables false
open Go.Proofs.Tryz Go.RowKit Go.Sort
theorem vu(a b:Int)(w:World):Calls prog 110 #[.int .i64 a,.int .i64 b] w λe w'=>e=.returned (.int .i64 (aR a b))/\w'=w:=by
 unfold aR;by_cases h1:a<b
 ·go_enter func110,ntmps110;go_wp2;go_ret;exact⟨by simp[h1],rfl⟩
 ·by_cases h2:b<a
  ·go_enter func110,ntmps110;go_wp2;go_ret;exact⟨by simp[h1,h2],rfl⟩
  ·go_enter func110,ntmps110;go_wp2;go_ret;exact⟨by simp[h1,h2],rfl⟩
def iZ(x y:Ft):Int:=aR y.k x.k
theorem Gt(x y:Ft)(W:World):Calls prog 143 #[.agg (aA x).toArray,.agg (aA y).toArray] W λe w'=>e=.returned (.int .i64 (iZ x y))/\∃q os',w'=grow (W.drewN q) os':=by have hcon:=λW'=>vu y.k x.k W';unfold iZ;unfold aA;generalize aR y.k x.k=r at hcon⊢;go_enter func143,ntmps143;go_wp2_with (go_at_call 110;refine(hcon _).mono ?_;rintro e w' ⟨rfl,rfl⟩);go_ret;exact⟨rfl,0,_,by rw[alloc_eq_grow,alloc_eq_grow,grow_grow];rfl⟩
theorem mH(x y:Ft):ltOf iZ x y=decide (y.k<x.k):=by
 unfold ltOf iZ aR;by_cases h1:y.k<x.k
 ·simp[h1]
 ·by_cases h2:x.k<y.k<;>simp[h1,h2]
theorem yU:SWO (ltOf iZ) where
 irrefl x:=by rw[mH];simp
 trans x y z h1 h2:=by rw[mH] at*;simp at*;omega
 ntrans x y z h1 h2:=by rw[mH] at*;simp at*;omega
theorem Gu(w:World):(isAgg 144).run prog w=.ok true w:=by kernel_rfl
theorem Gv(w:World):(Go.sizeOf 144).run prog w=.ok 7 w:=by kernel_rfl
theorem nT[Inhabited Ft]:∀(fs:List Ft)(j:Nat),j<fs.length*7->(aD fs)[j]?=some ((aA fs.toArray[j/7]!)[j%7]!)
 |[],j,h=>by simp at h
 |t::fs,j,h=>by
  rw[j8];by_cases hj:j<7
  ·rw[List.getElem?_append_left (by simpa [aA] using hj)];have e1:j/7=0:=by omega
   have e2:j%7=j:=by omega
   rw[e1,e2];have e3:(t::fs).toArray[0]! =t:=rfl;rw[e3,Ht (by simpa [aA] using hj),getElem!_pos _ j (by simpa [aA] using hj)]
  ·rw[List.getElem?_append_right (by simp[aA];omega)];have ih:=nT fs (j-7) (by simp at h;omega);have e0:(aA t).length=7:=rfl;rw[e0,ih];have e1:j/7=(j-7)/7+1:=by omega
   have e2:j%7=(j-7)%7:=by omega
   rw[e1,e2];have e3:(t::fs).toArray[(j-7)/7+1]! =fs.toArray[(j-7)/7]!:=by
    have hl:(j-7)/7<fs.length:=by simp at h;omega
    rw[getElem!_pos _ _ (by simpa using hl),getElem!_pos _ _ (by simpa using hl)];simp
   rw[e3]
theorem tV[Inhabited Ft]{w:World}{B g cap:Nat}{fs:List Ft}(h:w.ownsRow B 144 7 (.slice (some ⟨g,0,none⟩) fs.length cap) fs.length (aD fs)):HoldsK aA 7 w g 0 fs.toArray:=by
 intro j hj;rw[size_flatK] at hj;have hj2:j<fs.length*7:=by simpa using hj
 refine⟨?_,by rw[Hy];exact h.frozenAt j⟩;rw[Hy,h.cellAt j hj2,nT fs j hj2,get_flatK _ _ _ _ hj];rfl
theorem tX[Inhabited Ft]{w:World}{g cap:Nat}{fs:List Ft}(h:HoldsK aA 7 w g 0 fs.toArray)(hlt:g<w.heap.size)(hc:fs.length<=cap):Fv w (.slice (some ⟨g,0,none⟩) fs.length cap) fs:=by
 refine⟨_,cap,rfl,hc,λhp=>⟨g,0,rfl,hlt,λj u hj=>?_⟩⟩;have hjl:j<fs.length*7:=by rw[<-eG];apply Ib;intro hle;rw[Hu hle] at hj;simp at hj
 have h1:=(h j (by rw[size_flatK];simpa using hjl)).1;rw[get_flatK _ _ _ _ (by simpa using hjl)] at h1;rw[nT fs j hjl] at hj;rw[h1,<-hj];rfl
theorem nU[Inhabited Ft]{w:World}{g n:Nat}{os:Array Obj}(d:Array Ft):w.grownBy (sortWorldK aA 7 w g 0 n d os) (some g):=by refine⟨rfl,rfl,rfl,by simp[sortWorldK,putRowK],λk hk hne=>?_⟩;unfold sortWorldK putRowK;rw[heap_grow_old _ _ (by simpa using hk)];have:g≠k:=λe=>hne (by rw[e]);simp[putRow,mapBlock,Sort.ahead,Array.getElem?_modify,this]
theorem tW[Inhabited Ft](g cap:Nat)(fs:List Ft)(w:World)(hH:HoldsK aA 7 w g 0 fs.toArray)(hblk:g<w.heap.size)(hsz:fs.length<4611686018427387904):Calls prog 142 #[.slice (some ⟨g,0,none⟩) fs.length cap,.func (.func 143) #[] #[]] w λe w'=>e=.returned (.tuple #[])/\∃d' n os,PermIn 0 fs.length fs.toArray d'/\SortedIn (ltOf iZ) 0 fs.length d'/\w'=sortWorldK aA 7 w g 0 n d' os:=by
 have eg:∀args w,(callFunc 143 args).run prog w=.ok (.enter 143 args) w:=enters_of func143 (by kernel_rfl) rfl;have hcmp:CmpLays prog 143 #[] aA 7 iZ g 0 fs.toArray.size w:=λ_ _ _ _ x y=>Gt x y _;have hlim:Lib.bitLen fs.toArray.size<4611686018427387904:=Nat.lt_of_le_of_lt (Lib.bitLen_le fs.toArray.size 62 (by simp;try omega) (by omega)) (by omega);have hp:=AnyQ.pdqsortCmpFunc_all (P:=prog) Tryz.pdqFt 7 Gu Gv aA iZ 143 #[] yU g 0 cap fs.toArray w eg hcmp ⟨λ_=>rfl,jU,hH,hblk⟩ (fs.toArray.size+1) 0 fs.toArray.size (Lib.bitLen fs.toArray.size) fs.toArray w (by omega) rfl (SWK.start hH) (Hl _) (He _) (by simpa using hsz) hlim (Or.inl rfl);change Calls prog 193 _ _ _ at hp;have hl:=Tryz.bits_Len (fs.length:Int) w (by omega) (by omega);rw[Int.toNat_natCast] at hl;have wr:IntKind.u64.wrap (fs.length:Int)=fs.length:=by simp[IntKind.wrap,IntKind.bits,IntKind.signed];omega
 have hps:=pdq_sorts (ltOf iZ) yU fs.toArray 0 fs.toArray.size (Lib.bitLen fs.toArray.size) true true (Hl _) (He _) (Or.inl rfl);simp only[List.size_toArray] at hp hps hlim;have HPS:=aa hps;have HP:=aa hp;have HL:=aa hl;clear hH hcmp hps hp hl eg;generalize pdq (ltOf iZ) fs.toArray 0 fs.length (Lib.bitLen fs.length) true true=dd at HPS HP;generalize Lib.bitLen fs.length=bl at HP HL hlim;go_enter func142,ntmps142;go_wp2_with (first|(go_at_call 107;refine HL.o.mono ?_;rintro e w' ⟨rfl,rfl⟩)|(go_at_call 193;refine HP.o.mono ?_;rintro e w' ⟨rfl,n,os,rfl⟩));go_end0;exact⟨rfl,dd,n,os,HPS.o.1,HPS.o.2,rfl⟩
theorem tZ(w:World):Calls prog 99 #[.slice none 0 0] w λe w'=>e=.returned (.tuple #[])/\w'=w:=by
 have hp:=λW=>AnyF.pdqsortCmpFunc_none (P:=prog) Tryz.pdqFt none 0 0 (.func (.func 143) #[] #[]) W;change∀W,Calls prog 193 _ _ _ at hp;have HL:=aa (λW=>Tryz.bits_Len 0 W (by omega) (by omega));have HP:=aa hp;clear hp;have e0:Lib.bitLen (0:Int).toNat=0:=by decide
 rw[show (Lib.bitLen (0:Int).toNat:Nat)=0 from e0] at HL;have hs:∀W,Calls prog 142 #[.slice none 0 0,.func (.func 143) #[] #[]] W λe w'=>e=.returned (.tuple #[])/\w'=W:=λW=>by go_enter func142,ntmps142;go_wp2_with (first|(go_at_call 107;refine(HL.o _).mono ?_;rintro e w' ⟨rfl,rfl⟩)|(go_at_call 193;refine(HP.o _).mono ?_;rintro e w' ⟨rfl,rfl⟩));go_end0;exact⟨rfl,rfl⟩
 have HS:=aa hs;clear hs;go_enter func99,ntmps99;go_wp2_with (go_at_call 142;refine(HS.o _).mono ?_;rintro e w' ⟨rfl,rfl⟩);go_end0;exact⟨rfl,rfl⟩
def kC(fs:List Ft):Prop:=fs.Pairwise λa b=>b.k<=a.k
theorem uK(B g cap:Nat)(fs:List Ft)(w:World)(hown:w.ownsRow B 144 7 (.slice (some ⟨g,0,none⟩) fs.length cap) fs.length (aD fs))(hc:fs.length<=cap)(hsz:fs.length<4611686018427387904)(hB:B<=w.heap.size):Calls prog 99 #[.slice (some ⟨g,0,none⟩) fs.length cap] w λe w'=>e=.returned (.tuple #[])/\∃fs':List Ft,fs'.Perm fs/\kC fs'/\Fv w' (.slice (some ⟨g,0,none⟩) fs.length cap) fs'/\Below B w w':=by
 have inh:Inhabited Ft:=⟨⟨0,0,0,0,0,0,0⟩⟩;have hlt:=Hd hown g rfl;have hH:=tV hown;have HC:=aa (tW g cap fs w hH hlt.2 hsz);have HH:=aa hH;have HLT:=aa hlt;clear hH hown hlt;go_enter func99,ntmps99;go_wp2_with (go_at_call 142;refine HC.o.mono ?_;rintro e w' ⟨rfl,d',n,os,hp,hs,hw⟩;have HR:=aa (Hg hp (Hg hs hw));clear hp hs hw);go_end0;obtain⟨hp,hs,hw⟩:=HR.o;have hds:d'.size=fs.length:=by simpa using hp.1
 have e1:d'.toList.length=fs.length:=by simpa using hds
 refine⟨rfl,d'.toList,?_,?_,?_,?_⟩
 ·have h:=hp.2.2;rw[show fs.toArray.extract 0 fs.length=fs.toArray from by simp,show d'.extract 0 fs.length=d' from by rw[<-hds];simp] at h;simpa using h
 ·unfold kC;rw[List.pairwise_iff_getElem];intro i j hi hj hij;have h:=hs i j (Hl _) hij (by omega);rw[mH,getElem!_pos _ j (by simpa using hj),getElem!_pos _ i (by simpa using hi)] at h;simp only[decide_eq_false_iff_not] at h;simp only[Array.getElem_toList];omega
 ·have h:=holdsK_sortWorldK aA 7 w g 0 n fs.toArray d' os HLT.o.2 HH.o (by simpa using hds);rw[<-hw] at h;have hg:=nU (w:=w) (g:=g) (n:=n) (os:=os) d';rw[<-hw] at hg;have k:=tX (cap:=cap) (fs:=d'.toList) (by simpa using h) (Hj HLT.o.2 hg.size) (by omega);rw[e1] at k;exact k
 ·have hg:=nU (w:=w) (g:=g) (n:=n) (os:=os) d';rw[<-hw] at hg;exact ck hg HLT.o.1 hB
end Go.Proofs.YtglijodcbdcngaaGreat
namespace Go.Proofs.YtglijodcbdcngaaGreat
set_option linter.unusedSimpArgs false
set_option linter.unusedVariables false
open Go.Proofs.Tryz Go.RowKit
def cR(k0 k1 k2:Int)(ss:List Int)(fss:List (List Tm)):Nat->List Ft
 |0=>[]
 |i+1=>cR k0 k1 k2 ss fss i++(fss.getD i []).map (cr (ss.getD i 0) k0 k1 k2 i)
theorem wL{P:Program}(w:World)(base:Nat)(t ty e:TypeId)(i:TypeInfo)(z:Value)(ht:P.underlying t=some (.slice e))(hi:P.info? e=some i)(hz:i.zero=some z)(hsize:i.size=7)(hby:i.bytes=24)(hzs:z.cells.size=7)(v:Value)(fs:List Ft)(hown:w.ownsRow base e 7 v fs.length (aD fs))(u:Ft)(ad:Addr)(c:Nat)(hnew:∀j x,(aA u)[j]?=some x->w.cell? (ad.add j)=some x)(hb:fs.length<=1000000000000)(hbase:base<=w.heap.size):∃v' w',(Builtin.append_ #[t,t] ty #[v,.slice (some ad) 1 c]).run P w=.ok v' w'/\w'.ownsRow base e 7 v' (fs++[u]).length (aD (fs++[u]))/\w.grownBy w' v.ownBlock:=by obtain⟨v',w',hr,h2,h3,_⟩:=run_append_own (P:=P) w base t ty e i z 7 24 ht hi hz hsize hby hzs (by decide) v fs.length (aD fs) hown ad 1 c (aA u) rfl hnew (jU u) (by unfold maxLen;omega) (by omega) hbase;exact⟨v',w',hr,by rw[nw,Hx];exact h2,h3⟩
theorem mI{P:Program}{w:World}{ops:Array Oper}{rest:List Oper}{o:Oper}{a:Act}{Q:Exit->Act->World->Prop}(hgd:o.guard=none)(s x:Operand)(t:TypeId)(ho:o.op=.call {callee:=.builtin .append,args:=#[s,x],argTypes:=#[t,t]})(base:Nat)(e:TypeId)(i:TypeInfo)(z:Value)(ht:P.underlying t=some (.slice e))(hi:P.info? e=some i)(hz:i.zero=some z)(hsize:i.size=7)(hby:i.bytes=24)(hzs:z.cells.size=7)(v:Value)(fs:List Ft)(hs:a.eval s=v)(hown:w.ownsRow base e 7 v fs.length (aD fs))(u:Ft)(ad:Addr)(c:Nat)(hx:a.eval x=.slice (some ad) 1 c)(hnew:∀j x,(aA u)[j]?=some x->w.cell? (ad.add j)=some x)(hb:fs.length<=1000000000000)(hbase:base<=w.heap.size)(hK:∀v' w',w'.ownsRow base e 7 v' (fs++[u]).length (aD (fs++[u]))->w.grownBy w' v.ownBlock->wpList P ops Q rest (a.put o.dst v') w'):wpList P ops Q (o::rest) a w:=by refine wpList_plain hgd λK hK'=>?_;obtain⟨v',w',hr,h2,h3⟩:=wL (P:=P) w base t o.type e i z ht hi hz hsize hby hzs v fs hown u ad c hnew hb hbase;unfold Oper.wp execOp;simp only[ho,resolve,invoke,builtin,Sem.run_bind,Sem.run_pure,Result.andThen_ok,List.map_toArray,List.map_cons,List.map_nil,hs,hx,hr];exact hK' _ _ (hK v' w' h2 h3)
theorem Gw(ob:Nat)(p k0 k1 k2:Int)(sv x:Value)(ss:List Int)(fss:List (List Tm))(N:Nat)(w:World)(hob:aQ w ob p k0 k1 k2 sv)(hs:Sl w sv ss)(hl:fss.length<=ss.length)(hl2:fss.length<=255)(hss:∀s∈ss,-600000000000000000<=s/\s<=600000000000000000)(h0:0<=k0/\k0<=137438953472)(h1:0<=k1/\k1<=137438953472)(h2:0<=k2/\k2<=137438953472)(hN0:0<N)(hN3:N<=3)(hf:∀f∈fss,f.length<=2000/\∀t∈f,t.2.length=N/\(∀x∈t.2,0<=x/\x<=30000)/\0<=t.1/\t.1<=255)(pf:Vl w x fss):Calls prog 59 #[.pointer (some ⟨ob,0,none⟩),.int .i64 0,x] w λe w'=>∃u fs,e=.returned u/\Fv w' u fs/\fs.Perm (cR k0 k1 k2 ss fss fss.length)/\kC fs/\Below w.heap.size w w'/\∀b,u.ownBlock=some b->w.heap.size<=b:=by
 have HX:=aa pf;have HF:=aa hf;have HOB:=aa hob;have HS:=aa hs;have HSS:=aa hss;have HK:=aa (Hg h0 (Hg h1 h2));obtain⟨ax,cx,rfl,_⟩:=pf;clear hf hob hs hss h0 h1 h2;obtain⟨i0,hi,hz0,hz1,hz2⟩:=info_parts Tryz.infoFt;have HI:=aa (Hg hi (Hg hz0 (Hg hz1 hz2)));clear hi hz0 hz1 hz2;have HLEN:Ic (∀i,i<=fss.length->(cR k0 k1 k2 ss fss i).length<=i*2000):=λi=>by
  induction i with
  |zero=>intro _;simp[cR]
  |succ i ih=>intro hi;have h1:=ih (by omega);have h2:=(HF.o _ (cG fss i (by omega))).1;simp only[cR,Hx,Ia];omega
 go_enter func59,ntmps59;go_wp2_with fail;go_loopw [7,14] (λz i wr=>∃k:Nat,k<=fss.length/\i=.int .i64 k/\wr.ownsRow w.heap.size 144 7 z (cR k0 k1 k2 ss fss k).length (aD (cR k0 k1 k2 ss fss k))/\Below w.heap.size w wr) (λ_ i _=>fss.length-(intOf i).toNat);case atStart=>exact⟨0,Hl _,rfl,World.ownsRow_nil _ _ _ _,Hf _ _⟩
 case round=>
  obtain⟨k,hk,rfl,hown,hbr⟩:=hrel;have HO:=aa hown;have HB:=aa hbr;have HL:=aa (HLEN.o k hk);have HST:Ic (cR k0 k1 k2 ss fss (k+1)=cR k0 k1 k2 ss fss k++(fss.getD k []).map (cr (ss.getD k 0) k0 k1 k2 k)):=rfl;clear hown hbr;by_cases hk2:k<fss.length
  ·generalize cR k0 k1 k2 ss fss k=done at HO HL HST;obtain⟨b,off,fa,fc,rfl,hlt,c0,hpf⟩:=ez HX.o k hk2;have HFK:=aa (HF.o _ (cG fss k hk2));generalize fss.getD k []=f at c0 hpf HFK HST;have HPF:=aa hpf;have d0:=ae c0 HB.o;have hfl:f.length<=2000:=HFK.o.1;obtain⟨za,zc,hz⟩:=a7 HO.o;subst hz;clear c0 hpf;have hk3:k<ss.length:=by omega
   have hk4:k<=255:=by omega
   have hdl:done.length<=600000:=by have h5:=HL.o;omega
   go_wp2;clear d0;go_loopw [7,21] (λz i wm=>∃m:Nat,m<=f.length/\i=.int .i64 m/\wm.ownsRow w.heap.size 144 7 z (done++(f.take m).map (cr (ss.getD k 0) k0 k1 k2 k)).length (aD (done++(f.take m).map (cr (ss.getD k 0) k0 k1 k2 k)))/\Below w.heap.size w wm) (λ_ i _=>f.length-(intOf i).toNat);case atStart=>exact⟨0,Hl _,rfl,by simpa using HO.o,HB.o⟩
   case round=>
    clear HO HB;obtain⟨wo,hwo⟩:∃wo:World,wo=wr:=⟨_,rfl⟩;subst hwo;obtain⟨m,hm,rfl,hown,hbr⟩:=hrel;have HO:=aa hown;have HB:=aa hbr;clear hown hbr;by_cases hm2:m<f.length
    ·obtain⟨fa2,fc2,hfv,_,hat0⟩:=HPF.o;obtain⟨b2,off2,hfa,hlt2,hat⟩:=hat0 (by omega);simp only[H7,true_and] at hfv;obtain⟨e1,e2⟩:=hfv;subst e1;subst e2;subst hfa;obtain⟨t0,ev,t1,hse⟩:=hat m hm2;have HTK:Ic (f.take (m+1)=f.take m++[f.getD m aM]):=by show _=_;rw[List.take_succ_eq_append_getElem hm2];simp[Hs,hm2]
     have HTO:=aa (HFK.o.2 _ (eA f m hm2));generalize f.getD m aM=t at t0 hse HTK HTO;obtain⟨tc,te⟩:=t;have HSE:=aa hse;obtain⟨ea,ec,rfl,_⟩:=hse;simp only at t0 t1;have q0:=ae t0 HB.o;have q1:=ae t1 HB.o;have hdm:Ic ((done++(f.take m).map (cr (ss.getD k 0) k0 k1 k2 k)).length<=1000000000000):=by show _<=_;rw[Hx,Ia,List.length_take];omega
     have HTM:=aa (fun(W:World)(hb:Below w.heap.size w W)=>tY ob k p k0 k1 k2 sv (.slice ea te.length ec) ss te tc W (HOB.o.below hb) (HS.o.below hb) hk3 hk4 HSS.o HK.o.1 HK.o.2.1 HK.o.2.2 ⟨HTO.o.2.2.1,HTO.o.2.2.2⟩ (by have h5:=HTO.o.1;simp only at h5;omega) (by have h5:=HTO.o.1;simp only at h5;omega) HTO.o.2.1 (HSE.o.below hb));have HNX:Ic (done++(f.take (m+1)).map (cr (ss.getD k 0) k0 k1 k2 k)=done++(f.take m).map (cr (ss.getD k 0) k0 k1 k2 k)++[cr (ss.getD k 0) k0 k1 k2 k (tc,te)]):=by show _=_;rw[HTK.o,List.map_append,List.append_assoc];rfl
     generalize cr (ss.getD k 0) k0 k1 k2 k (tc,te)=ft at HTM HNX;generalize done++(f.take m).map (cr (ss.getD k 0) k0 k1 k2 k)=dm at HO HNX hdm;unfold aY at HTM;obtain⟨ya,yc,hy⟩:=a7 HO.o;subst hy;clear hat0 hat t0 t1;have HBA:Ic (Below w.heap.size w (wo.alloc (.cells #[.int .i64 tc,.slice ea te.length ec] 54))):=HB.o.alloc HB.o.size _;go_wp2_with (first|(go_at_call 98;refine(HTM.o _ HBA.o).mono ?_;rintro e w8 ⟨rfl,hb8⟩;have HB8:=aa (HBA.o.trans (hb8.mono HBA.o.size));have HO8:=aa (aH HO.o (af.trans (hb8.mono (by simp))));have HO9:=aa (HO8.o.alloc (.cells #[.int .i64 ft.k,.int .u16 ft.a,.int .u16 ft.b,.int .u16 ft.d,.int .u16 ft.z,.int .u8 ft.pl,.int .u8 ft.c] 144));clear hb8)|(at_builtin;refine mI rfl (.tmp 25) (.tmp 32) 93 rfl w.heap.size 144 i0 _ underlying93 HI.o.1 HI.o.2.1 HI.o.2.2.1 HI.o.2.2.2 rfl (.slice ya dm.length yc) dm rfl HO9.o ft ⟨w8.heap.size,0,none⟩ 1 rfl (ik _ _ _) hdm.o (Hk HB8.o.size (by simp)) ?_;intro v9 w9 r1 r2;have R1:=aa r1;have R2:=aa (show Below w.heap.size w w9 from bU HO9.o (HB8.o.alloc HB8.o.size _) r2 (He _));obtain⟨va9,vc9,hv9⟩:=a7 r1;subst hv9;clear r1 r2));go_roundw;case rel=>exact⟨m+1,by omega,by go_num,by rw[HNX.o];have h:=R1.o;rwa [show (dm++[ft]).length=dm.length+1 from by simp] at h⊢,R2.o⟩
     case measure=>simp[intOf];omega
    ·have e:m=f.length:=by omega
     subst e;have HO2:=aa HO.o;rw[Hz (He _),<-HST.o] at HO2;go_wp2;go_roundw;case rel=>exact⟨k+1,by omega,by go_num,HO2.o,HB.o⟩
     case measure=>simp[intOf];omega
  ·have e:k=fss.length:=by omega
   subst e;have hdl:(cR k0 k1 k2 ss fss fss.length).length<4611686018427387904:=by have h5:=HL.o;omega
   have HOQ:=aa HO.o;have hc:=HO.o.2;generalize hAL:cR k0 k1 k2 ss fss fss.length=al at HO HOQ HL hdl hc;have HAL:=aa hAL;clear hAL;rcases hc with ⟨hz,hn⟩|⟨g,cap,ai,hz,hg,hh,hn,hmx,hcs,ht⟩
   ·subst hz;have hal:al=[]:=List.length_eq_zero_iff.1 hn;subst hal;have HSN:=aa (fun(W:World)=>tZ W);go_wp2_with (go_at_call 99;refine(HSN.o _).mono ?_;rintro e w8 ⟨rfl,rfl⟩);go_ret;exact⟨_,[],rfl,kD _ _,(by rw[HAL.o]),List.Pairwise.nil,HB.o,λb hb=>by simp[Value.ownBlock] at hb⟩
   ·subst hz;have HGE:=aa hg;have HSO:=aa (uK w.heap.size g cap al wr HOQ.o hn hdl HB.o.size);clear hh hcs ht;go_wp2_with (go_at_call 99;refine HSO.o.mono ?_;rintro e w8 ⟨rfl,fs',h1,h2,h3,h4⟩;have HR:=aa (Hg h1 (Hg h2 (Hg h3 h4)));clear h1 h2 h3 h4);go_ret;refine⟨.slice (some ⟨g,0,none⟩) al.length cap,fs',rfl,HR.o.2.2.1,(by rw[HAL.o];exact HR.o.1),HR.o.2.1,HB.o.trans HR.o.2.2.2,λb hb=>by
     have hge:w.heap.size<=g:=HGE.o;have hb2:g=b:=by simpa [Value.ownBlock] using hb
     rw[<-hb2];exact hge⟩
def mp(n:Int)(t:Ft):Ft:={t with pl:=t.pl-n}
def eS(n:Int)(fs:List Ft):List Ft:=(fs.filter λt=>decide (n<=t.pl)).map (mp n)
theorem yV(n:Int)(fs:List Ft)(t:Ft):eS n (fs++[t])=eS n fs++if n<=t.pl then [mp n t] else []:=by
 unfold eS;rw[List.filter_append,List.map_append];congr 1;by_cases h:n<=t.pl
 ·simp[h]
 ·simp[h]
theorem Gx(n:Int)(fs:List Ft):(eS n fs).length<=fs.length:=by unfold eS;rw[Ia];exact List.length_filter_le _ _
theorem uI(v:Value)(fs:List Ft)(n:Nat)(w:World)(hf:Fv w v fs)(hp:∀t∈fs,0<=t.pl/\t.pl<=255)(hn:n<=255)(hl:fs.length<=1000000):Calls prog 127 #[v,.int .i64 n] w λe w'=>∃u,e=.returned u/\w'.ownsRow w.heap.size 144 7 u (eS n fs).length (aD (eS n fs))/\Below w.heap.size w w':=by
 obtain⟨i0,hi,hz0,hz1,hz2⟩:=info_parts Tryz.infoFt;have HI:=aa (Hg hi (Hg hz0 (Hg hz1 hz2)));clear hi hz0 hz1 hz2;have HF:=aa hf;have HP:=aa hp;obtain⟨va,vc,rfl,_,_⟩:=hf;clear hp;go_enter func127,ntmps127;go_wp2_with fail;go_loopw [5,10] (λz i wr=>∃m:Nat,m<=fs.length/\i=.int .i64 m/\wr.ownsRow w.heap.size 144 7 z (eS n (fs.take m)).length (aD (eS n (fs.take m)))/\Below w.heap.size w wr) (λ_ i _=>fs.length-(intOf i).toNat);case atStart=>exact⟨0,Hl _,rfl,World.ownsRow_nil _ _ _ _,Hf _ _⟩
 case round=>
  obtain⟨m,hm,rfl,hown,hbr⟩:=hrel;have HO:=aa hown;have HB:=aa hbr;clear hown hbr;by_cases hm2:m<fs.length
  ·obtain⟨b,off,rfl,hlt,_,hft⟩:=(HF.o.below HB.o).at m hm2;have HTK:Ic (fs.take (m+1)=fs.take m++[fs.getD m dC]):=by show _=_;rw[List.take_succ_eq_append_getElem hm2];simp[Hs,hm2]
   have HTP:Ic (0<=(fs.getD m dC).pl/\(fs.getD m dC).pl<=255):=by
    have:fs.getD m dC∈fs:=by rw[Hs,Ht hm2];exact Hp hm2
    exact HP.o _ this
   have HLN:Ic ((eS n (fs.take m)).length<=1000000000000):=by have:=Gx n (fs.take m);rw[List.length_take] at this;show _<=_;omega
   generalize fs.getD m dC=t at hft HTK HTP;generalize hdn:eS n (fs.take m)=dn at HO HLN;have HDN:=aa hdn;clear hdn;obtain⟨f0,f1,f2,f3,f4,f5,f6⟩:=hft;obtain⟨ht0,ht1⟩:=HTP.o;obtain⟨ya,yc,hy⟩:=a7 HO.o;subst hy;have hmI:(m:Int)<(fs.length:Int):=by omega
   by_cases hpl:(n:Int)<=t.pl
   ·have HNX:Ic (eS n (fs.take (m+1))=dn++[mp n t]):=by show _=_;rw[HTK.o,yV,HDN.o,if_pos hpl]
    have hwn:IntKind.u8.wrap (n:Int)=n:=by rw[IntKind.wrap_u8];omega
    have hws:IntKind.u8.wrap (t.pl-n)=t.pl-n:=by rw[IntKind.wrap_u8];omega
    have HO1:=aa ((HO.o.alloc (.cells #[.int .i64 t.k,.int .u16 t.a,.int .u16 t.b,.int .u16 t.d,.int .u16 t.z,.int .u8 (t.pl-n),.int .u8 t.c] 144)).alloc (.cells #[.int .i64 t.k,.int .u16 t.a,.int .u16 t.b,.int .u16 t.d,.int .u16 t.z,.int .u8 (t.pl-n),.int .u8 t.c] 144));have HB1:Ic (Below w.heap.size w ((wr.alloc (.cells #[.int .i64 t.k,.int .u16 t.a,.int .u16 t.b,.int .u16 t.d,.int .u16 t.z,.int .u8 (t.pl-n),.int .u8 t.c] 144)).alloc (.cells #[.int .i64 t.k,.int .u16 t.a,.int .u16 t.b,.int .u16 t.d,.int .u16 t.z,.int .u8 (t.pl-n),.int .u8 t.c] 144))):=(HB.o.alloc HB.o.size _).alloc (by simp;have:=HB.o.size;omega) _;have HNW:=aa (ik (wr.alloc (.cells #[.int .i64 t.k,.int .u16 t.a,.int .u16 t.b,.int .u16 t.d,.int .u16 t.z,.int .u8 (t.pl-n),.int .u8 t.c] 144)) (mp n t) 144);have HSZ:Ic ((wr.alloc (.cells #[.int .i64 t.k,.int .u16 t.a,.int .u16 t.b,.int .u16 t.d,.int .u16 t.z,.int .u8 (t.pl-n),.int .u8 t.c] 144)).heap.size=wr.heap.size+1):=by show _=_;simp
    rw[HSZ.o] at HNW;go_wp2_with (at_builtin;refine mI rfl (.tmp 25) (.tmp 27) 93 rfl w.heap.size 144 i0 _ underlying93 HI.o.1 HI.o.2.1 HI.o.2.2.1 HI.o.2.2.2 rfl (.slice ya dn.length yc) dn rfl HO1.o (mp n t) ⟨wr.heap.size+1,0,none⟩ 1 rfl HNW.o HLN.o HB1.o.size ?_;intro v9 w9 r1 r2;have R1:=aa r1;have R2:=aa (show Below w.heap.size w w9 from bU HO1.o HB1.o r2 (He _));obtain⟨va9,vc9,hv9⟩:=a7 r1;subst hv9;clear r1 r2);go_roundw;case rel=>exact⟨m+1,by omega,by go_num,by rw[HNX.o];have h:=R1.o;rwa [show (dn++[mp n t]).length=dn.length+1 from by simp] at h⊢,R2.o⟩
    case measure=>simp[intOf];omega
   ·have HNX:Ic (eS n (fs.take (m+1))=dn):=by show _=_;rw[HTK.o,yV,HDN.o,if_neg hpl];simp
    have HO1:=aa (HO.o.alloc (.cells #[.int .i64 t.k,.int .u16 t.a,.int .u16 t.b,.int .u16 t.d,.int .u16 t.z,.int .u8 t.pl,.int .u8 t.c] 144));go_wp2;go_roundw;case rel=>exact⟨m+1,by omega,by go_num,by rw[HNX.o];exact HO1.o,HB.o.alloc HB.o.size _⟩
    case measure=>simp[intOf];omega
  ·have e:m=fs.length:=by omega
   subst e;have HO2:=aa HO.o;rw[Hz (He _)] at HO2;clear HO;generalize hg:eS n fs=g at HO2;have HG:=aa hg;clear hg;obtain⟨ga,gc,hz⟩:=a7 HO2.o;subst hz;go_wp2;go_ret;exact⟨_,rfl,by rw[HG.o];exact HO2.o,HB.o⟩
end Go.Proofs.YtglijodcbdcngaaGreat
