/- Flat vectors, sorted. -/
import Derived.Test.YtjkalahhpobefaaGreatZG
import Derived.Test.YtjkalahhpobefaaGreatShelf
import Derived.Test.YtjkalahhpobefaaGreatWB
set_option maxHeartbeats 2000000
set_option maxRecDepth 100000
namespace Go.Proofs.YtjkalahhpobefaaGreat
set_option linter.all false
open Go.Proofs.Tryz Go.RowKit Go.Sort
theorem vW(a b:Int)(w:PJ):Calls prog 155 #[PO a,PO b] w λe w'=>e=.returned (PO (bi a b))/\w'=w:=by
 unfold bi;by_cases h1:a<b
 .go_enter func155,ntmps155;go_wp2;go_ret;exact⟨by simp[h1],rfl⟩
 .by_cases h2:b<a
  .go_enter func155,ntmps155;go_wp2;go_ret;exact⟨by simp[h1,h2],rfl⟩
  .go_enter func155,ntmps155;go_wp2;go_ret;exact⟨by simp[h1,h2],rfl⟩
def kg(x y:Ft):Int:=bi y.k x.k
theorem NV(x y:Ft)(W:PJ):Calls prog 154 #[.agg (aB x).toArray,.agg (aB y).toArray] W λe w'=>e=.returned (PO (kg x y))/\∃q os',w'=grow (W.drewN q) os':=by have hcon:=λW'=>vW y.k x.k W';unfold kg;unfold aB;generalize bi y.k x.k=r at hcon⊢;go_enter func154,ntmps154;go_wp2_with (go_at_call 155;refine(hcon _).mono ?_;rintro e w' ⟨rfl,rfl⟩);go_ret;exact⟨rfl,0,_,by rw[alloc_eq_grow,alloc_eq_grow,grow_grow];rfl⟩
theorem p8(x y:Ft):ltOf kg x y=decide (y.k<x.k):=by
 unfold ltOf kg bi;by_cases h1:y.k<x.k
 .simp[h1]
 .by_cases h2:x.k<y.k<;>simp[h1,h2]
theorem D8:SWO (ltOf kg) where
 irrefl x:=by rw[p8];simp
 trans x y z h1 h2:=by rw[p8] at*;simp at*;omega
 ntrans x y z h1 h2:=by rw[p8] at*;simp at*;omega
theorem NW(w:PJ):(isAgg 88).run prog w=.ok true w:=by kernel_rfl
theorem NX(w:PJ):(Go.sizeOf 88).run prog w=.ok 7 w:=by kernel_rfl
theorem sU[Inhabited Ft]:∀(fs:PB)(j:Nat),j<fs.length*7->(aA fs)[j]?=some ((aB fs.toArray[j/7]!)[j%7]!)
 |[],j,h=>by simp at h
 |t::fs,j,h=>by
  rw[ja];by_cases hj:j<7
  .rw[O4 (by simpa [aB] using hj)];have e1:j/7=0:=by omega
   have e2:j%7=j:=by omega
   rw[e1,e2];have e3:(t::fs).toArray[0]! =t:=rfl;rw[e3,OI (by simpa [aB] using hj),getElem!_pos _ j (by simpa [aB] using hj)]
  .rw[O9 (by simp[aB];omega)];have ih:=sU fs (j-7) (by simp at h;omega);have e0:(aB t).length=7:=rfl;rw[e0,ih];have e1:j/7=(j-7)/7+1:=by omega
   have e2:j%7=(j-7)%7:=by omega
   rw[e1,e2];have e3:(t::fs).toArray[(j-7)/7+1]! =fs.toArray[(j-7)/7]!:=by
    have hl:(j-7)/7<fs.length:=by simp at h;omega
    rw[getElem!_pos _ _ (by simpa using hl),getElem!_pos _ _ (by simpa using hl)];simp
   rw[e3]
variable{fs:PB}{g cap:Nat}{w:PJ}
theorem CV[Inhabited Ft]{B:Nat}(h:w.ownsRow B 88 7 (PM g fs.length cap) fs.length (aA fs)):HoldsK aB 7 w g 0 fs.toArray:=by
 intro j hj;rw[size_flatK] at hj;have hj2:j<fs.length*7:=by simpa using hj
 refine⟨?_,by rw[ON];exact h.frozenAt j⟩;rw[ON,h.cellAt j hj2,sU fs j hj2,get_flatK _ _ _ _ hj];rfl
theorem CX[Inhabited Ft](h:HoldsK aB 7 w g 0 fs.toArray)(hlt:g<w.heap.size)(hc:fs.length<=cap):Fv w (PM g fs.length cap) fs:=by
 refine⟨_,cap,rfl,hc,λhp=>⟨g,0,rfl,hlt,λj u hj=>?_⟩⟩;have hjl:j<fs.length*7:=by rw[<-fw];apply OU;intro hle;rw[OJ hle] at hj;simp at hj
 have h1:=(h j (by rw[size_flatK];simpa using hjl)).1;rw[get_flatK _ _ _ _ (by simpa using hjl)] at h1;rw[sU fs j hjl] at hj;rw[h1,<-hj];rfl
variable{os:Array Obj}{n:Nat}
theorem sV[Inhabited Ft](d:Array Ft):w.grownBy (sortWorldK aB 7 w g 0 n d os) (some g):=by refine⟨rfl,rfl,rfl,by simp[sortWorldK,putRowK],λk hk hne=>?_⟩;unfold sortWorldK putRowK;rw[heap_grow_old _ _ (by simpa using hk)];have:g≠k:=λe=>hne (by rw[e]);simp[putRow,mapBlock,Sort.ahead,Array.getElem?_modify,this]
theorem CW[Inhabited Ft](g cap:Nat)(fs:PB)(w:PJ)(hH:HoldsK aB 7 w g 0 fs.toArray)(hblk:g<w.heap.size)(hsz:fs.length<4611686018427387904):Calls prog 153 #[PM g fs.length cap,.func (.func 154) #[] #[]] w λe w'=>e=.returned (.tuple #[])/\∃d' n os,PermIn 0 fs.length fs.toArray d'/\SortedIn (ltOf kg) 0 fs.length d'/\w'=sortWorldK aB 7 w g 0 n d' os:=by
 have eg:∀args w,(callFunc 154 args).run prog w=.ok (.enter 154 args) w:=enters_of func154 (by kernel_rfl) rfl;have hcmp:CmpLays prog 154 #[] aB 7 kg g 0 fs.toArray.size w:=λ_ _ _ _ x y=>NV x y _;have hlim:Lib.bitLen fs.toArray.size<4611686018427387904:=Pn (Lib.bitLen_le fs.toArray.size 62 (by simp;try omega) (by omega)) (by omega);have hp:=AnyQ.pdqsortCmpFunc_all (P:=prog) Tryz.pdqFt 7 NW NX aB kg 154 #[] D8 g 0 cap fs.toArray w eg hcmp ⟨λ_=>rfl,lr,hH,hblk⟩ (fs.toArray.size+1) 0 fs.toArray.size (Lib.bitLen fs.toArray.size) fs.toArray w (by omega) rfl (SWK.start hH) (OB _) (Ou _) (by simpa using hsz) hlim (Pf rfl);change Calls prog 192 _ _ _ at hp;have hl:=Tryz.bits_Len (fs.length:Int) w (by omega) (by omega);rw[Int.toNat_natCast] at hl;have wr:IntKind.u64.wrap (fs.length:Int)=fs.length:=by simp[IntKind.wrap,IntKind.bits,IntKind.signed];omega
 have hps:=pdq_sorts (ltOf kg) D8 fs.toArray 0 fs.toArray.size (Lib.bitLen fs.toArray.size) true true (OB _) (Ou _) (Pf rfl);simp only[List.size_toArray] at hp hps hlim;have HPS:=ae hps;have HP:=ae hp;have HL:=ae hl;clear hH hcmp hps hp hl eg;generalize pdq (ltOf kg) fs.toArray 0 fs.length (Lib.bitLen fs.length) true true=dd at HPS HP;generalize Lib.bitLen fs.length=bl at HP HL hlim;go_enter func153,ntmps153;go_wp2_with (first|(go_at_call 150;refine HL.o.mono ?_;rintro e w' ⟨rfl,rfl⟩)|(go_at_call 192;refine HP.o.mono ?_;rintro e w' ⟨rfl,n,os,rfl⟩));go_end0;exact⟨rfl,dd,n,os,HPS.o.1,HPS.o.2,rfl⟩
theorem LX(w:PJ):Calls prog 120 #[.slice none 0 0] w λe w'=>e=.returned (.tuple #[])/\w'=w:=by
 have hp:=λW=>AnyF.pdqsortCmpFunc_none (P:=prog) Tryz.pdqFt none 0 0 (.func (.func 154) #[] #[]) W;change∀W,Calls prog 192 _ _ _ at hp;have HL:=ae (λW=>Tryz.bits_Len 0 W (by omega) (by omega));have HP:=ae hp;clear hp;have e0:Lib.bitLen (0:Int).toNat=0:=by decide
 rw[show (Lib.bitLen (0:Int).toNat:Nat)=0 from e0] at HL;have hs:∀W,Calls prog 153 #[.slice none 0 0,.func (.func 154) #[] #[]] W λe w'=>e=.returned (.tuple #[])/\w'=W:=λW=>by go_enter func153,ntmps153;go_wp2_with (first|(go_at_call 150;refine(HL.o _).mono ?_;rintro e w' ⟨rfl,rfl⟩)|(go_at_call 192;refine(HP.o _).mono ?_;rintro e w' ⟨rfl,rfl⟩));go_end0;exact⟨rfl,rfl⟩
 have HS:=ae hs;clear hs;go_enter func120,ntmps120;go_wp2_with (go_at_call 153;refine(HS.o _).mono ?_;rintro e w' ⟨rfl,rfl⟩);go_end0;exact⟨rfl,rfl⟩
def iS(fs:PB):Prop:=fs.Pairwise λa b=>b.k<=a.k
theorem NY[Inhabited Ft](d:Array Ft){T:TypeId}{ag:Array PK}(h:w.heap[g]?=some (.cells ag T (0,0))):∃cur',(sortWorldK aB 7 w g 0 n d os).heap[g]?=some (.cells cur' T (0,0)):=by have hlt:g<w.heap.size:=(O6.1 h).1;unfold sortWorldK putRowK;rw[heap_grow_old _ _ (by simpa using hlt)];simp[putRow,mapBlock,Sort.ahead,Array.getElem?_modify,h];exact⟨_,rfl⟩
theorem NZ(B g cap:Nat)(fs:PB)(w:PJ)(hown:w.ownsRow B 88 7 (PM g fs.length cap) fs.length (aA fs))(hc:fs.length<=cap)(hsz:fs.length<4611686018427387904)(hB:B<=w.heap.size):Calls prog 120 #[PM g fs.length cap] w λe w'=>e=.returned (.tuple #[])/\∃fs':PB,fs'.Perm fs/\iS fs'/\Fv w' (PM g fs.length cap) fs'/\Below B w w'/\∃ag,w'.heap[g]?=some (.cells ag 88 (0,0)):=by
 have inh:Inhabited Ft:=⟨⟨0,0,0,0,0,0,0⟩⟩;have hlt:=Ot hown g rfl;have hH:=CV hown;have HTY:Po (∃ag,w.heap[g]?=some (.cells ag 88 (0,0))):=by
  rcases hown.2 with ⟨h1,_⟩|⟨g2,cap2,ag,h1,_,hh,_⟩
  .simp at h1
  .simp only[OQ,OP,Addr.mk.injEq] at h1;obtain⟨⟨e,_⟩,_⟩:=h1;rw[e];exact⟨ag,hh⟩
 have HC:=ae (CW g cap fs w hH hlt.2 hsz);have HH:=ae hH;have HLT:=ae hlt;clear hH hown hlt;go_enter func120,ntmps120;go_wp2_with (go_at_call 153;refine HC.o.mono ?_;rintro e w' ⟨rfl,d',n,os,hp,hs,hw⟩;have HR:=ae (Ow hp (Ow hs hw));clear hp hs hw);go_end0;obtain⟨hp,hs,hw⟩:=HR.o;have hds:d'.size=fs.length:=by simpa using hp.1
 have e1:d'.toList.length=fs.length:=by simpa using hds
 refine⟨rfl,d'.toList,?_,?_,?_,?_,?_⟩
 .have h:=hp.2.2;rw[show fs.toArray.extract 0 fs.length=fs.toArray from by simp,show d'.extract 0 fs.length=d' from by rw[<-hds];simp] at h;simpa using h
 .unfold iS;rw[List.pairwise_iff_getElem];intro i j hi hj hij;have h:=hs i j (OB _) hij (by omega);rw[p8,getElem!_pos _ j (by simpa using hj),getElem!_pos _ i (by simpa using hi)] at h;simp only[decide_eq_false_iff_not] at h;simp only[Array.getElem_toList];omega
 .have h:=holdsK_sortWorldK aB 7 w g 0 n fs.toArray d' os HLT.o.2 HH.o (by simpa using hds);rw[<-hw] at h;have hg:=sV (w:=w) (g:=g) (n:=n) (os:=os) d';rw[<-hw] at hg;have k:=CX (cap:=cap) (fs:=d'.toList) (by simpa using h) (Oz HLT.o.2 hg.size) (by omega);rw[e1] at k;exact k
 .have hg:=sV (w:=w) (g:=g) (n:=n) (os:=os) d';rw[<-hw] at hg;exact cQ hg HLT.o.1 hB
 .obtain⟨ag,hcur⟩:=HTY.o;obtain⟨cur',h'⟩:=NY (n:=n) (os:=os) d' hcur;rw[<-hw] at h';exact⟨cur',h'⟩
theorem Ha(B g cap:Nat)(fs:PB)(w:PJ)(hown:w.ownsRow B 88 7 (PM g fs.length cap) fs.length (aA fs))(hc:fs.length<=cap)(hsz:fs.length<4611686018427387904)(hB:B<=w.heap.size):Calls prog 120 #[PM g fs.length cap] w λe w'=>e=.returned (.tuple #[])/\∃fs':PB,fs'.Perm fs/\iS fs'/\Fv w' (PM g fs.length cap) fs'/\Below B w w':=
 (NZ B g cap fs w hown hc hsz hB).mono λe w' ⟨h1,fs',h2,h3,h4,h5,_⟩=>⟨h1,fs',h2,h3,h4,h5⟩
end Go.Proofs.YtjkalahhpobefaaGreat
namespace Go.Proofs.YtjkalahhpobefaaGreat
set_option linter.all false
open Go.Proofs.Tryz Go.RowKit
def eV(k0 k1 k2:Int)(ss:PI)(fss:Lt):Nat->PB
 |0=>[]
 |i+1=>eV k0 k1 k2 ss fss i++(fss.getD i []).map (fe (ss.getD i 0) k0 k1 k2 i)
variable{P:Program}
theorem Bt(w:PJ)(base:Nat)(t ty e:TypeId)(i:TypeInfo)(z:PK)(ht:P.underlying t=some (.slice e))(hi:P.info? e=some i)(hz:i.zero=some z)(hsize:i.size=7)(hby:i.bytes=24)(hzs:z.cells.size=7)(v:PK)(fs:PB)(hown:w.ownsRow base e 7 v fs.length (aA fs))(u:Ft)(ad:Addr)(c:Nat)(hnew:∀j x,(aB u)[j]?=some x->w.cell? (ad.add j)=some x)(hb:fs.length<=1200000000000)(hbase:base<=w.heap.size):∃v' w',(Builtin.append_ #[t,t] ty #[v,.slice (some ad) 1 c]).run P w=.ok v' w'/\w'.ownsRow base e 7 v' (fs++[u]).length (aA (fs++[u]))/\w.grownBy w' v.ownBlock:=by obtain⟨v',w',hr,h2,h3,_⟩:=run_append_own (P:=P) w base t ty e i z 7 24 ht hi hz hsize hby hzs (by decide) v fs.length (aA fs) hown ad 1 c (aB u) rfl hnew (lr u) (by unfold maxLen;omega) (by omega) hbase;exact⟨v',w',hr,by rw[qh,OM];exact h2,h3⟩
variable{w:PJ}
theorem rA{ops:Array Oper}{rest:List Oper}{o:Oper}{a:Act}{Q:Exit->Act->PJ->Prop}(hgd:o.guard=none)(s x:Operand)(t:TypeId)(ho:o.op=.call {callee:=.builtin .append,args:=#[s,x],argTypes:=#[t,t]})(base:Nat)(e:TypeId)(i:TypeInfo)(z:PK)(ht:P.underlying t=some (.slice e))(hi:P.info? e=some i)(hz:i.zero=some z)(hsize:i.size=7)(hby:i.bytes=24)(hzs:z.cells.size=7)(v:PK)(fs:PB)(hs:a.eval s=v)(hown:w.ownsRow base e 7 v fs.length (aA fs))(u:Ft)(ad:Addr)(c:Nat)(hx:a.eval x=.slice (some ad) 1 c)(hnew:∀j x,(aB u)[j]?=some x->w.cell? (ad.add j)=some x)(hb:fs.length<=1200000000000)(hbase:base<=w.heap.size)(hK:∀v' w',w'.ownsRow base e 7 v' (fs++[u]).length (aA (fs++[u]))->w.grownBy w' v.ownBlock->wpList P ops Q rest (a.put o.dst v') w'):wpList P ops Q (o::rest) a w:=by refine wpList_plain hgd λK hK'=>?_;obtain⟨v',w',hr,h2,h3⟩:=Bt (P:=P) w base t o.type e i z ht hi hz hsize hby hzs v fs hown u ad c hnew hb hbase;unfold Oper.wp execOp;simp only[ho,resolve,invoke,builtin,Sem.run_bind,Sem.run_pure,Result.andThen_ok,List.map_toArray,List.map_cons,List.map_nil,hs,hx,hr];exact hK' _ _ (hK v' w' h2 h3)
def eB(wr:PJ)(g:Nat)(t:Ft):PJ:=((((((wr.setCell (PN g 0) (PO t.k)).setCell (PN g 1) (PP t.a)).setCell (PN g 2) (PP t.b)).setCell (PN g 3) (PP t.d)).setCell (PN g 4) (PP t.z)).setCell (PN g 5) (PQ t.pl)).setCell (PN g 6) (PQ t.c)
def Bx(B:Nat)(wr:PJ)(g:Nat)(t:Ft):Prop:=wr.ownsRow B 88 7 (PM g 1 1) 1 (aB t)
variable{wr:PJ}{B:Nat}
theorem Bx.put{g:Nat}{t0:Ft}(h:Bx B wr g t0)(t:Ft):Bx B (eB wr g t) g t/\wr.grownBy (eB wr g t) (some g):=by have s1:=OF h 0 (PO t.k);have s2:=s1.1.stored 1 (PP t.a);have s3:=s2.1.stored 2 (PP t.b);have s4:=s3.1.stored 3 (PP t.d);have s5:=s4.1.stored 4 (PP t.z);have s6:=s5.1.stored 5 (PQ t.pl);have s7:=s6.1.stored 6 (PQ t.c);exact⟨s7.1,cW (cW (cW (cW (cW (cW s1.2 s2.2) s3.2) s4.2) s5.2) s6.2) s7.2⟩
variable{t:Ft}
theorem Bx.at{g:Nat}(h:Bx B wr g t):cu wr g 0 t:=og λj u hj=>by
 have hl:j<7:=by have:=(List.getElem?_eq_some_iff.1 hj).1;simpa [aB] using this
 rw[ON,Oq h j (by omega)];exact hj
variable{w':PJ}
theorem Bx.below{g:Nat}(h:Bx B wr g t)(hb:Io wr w'):Bx B w' g t:=aF h hb
theorem Bx.new(w:PJ)(B:Nat)(hB:B<=w.heap.size):Bx B (w.alloc (.cells #[PO 0,PP 0,PP 0,PP 0,PP 0,PQ 0,PQ 0] 88)) w.heap.size ⟨0,0,0,0,0,0,0⟩:=
 ⟨by simp[aB],.inr ⟨w.heap.size,1,_,rfl,hB,heap_alloc_new w _,Ou _,by decide,by simp,by simp[aB]⟩⟩
def nR(w:PJ)(rv:PK)(rows:PC):Prop:=∃ra rc,rv=.slice ra rows.length rc/\∀i,i<rows.length->∃b off u,ra=some (PN b off)/\b<w.heap.size/\w.cell? (PN b (off+i))=some u/\Fv w u (rows.getD i [])
def gZ(g:Option Ft):PB->Option Ft
 |[]=>g
 |t::_=>match g with
  |none=>some t
  |some g=>if g.k<t.k then some t else some g
def eL(rows:PC):Option Ft:=rows.foldl gZ none
def bQ(g:Option Ft):Ft:=g.getD ⟨0,0,0,0,0,0,0⟩
structure GW(w wr:PJ)(g:Option Ft):Prop where
 below:Io w wr
 res:Bx w.heap.size wr w.heap.size ⟨0,0,0,0,0,0,0⟩
 box:Bx w.heap.size wr (w.heap.size+1) (bQ g)
variable{g:Option Ft}
theorem GW.next(h:GW w wr g)(hb:Io wr w'):GW w w' g:=⟨In h.below hb,h.res.below hb,h.box.below hb⟩
theorem GW.put(h:GW w wr g)(t:Ft):GW w (eB wr (w.heap.size+1) t) (some t):=by have s:=h.box.put t;exact⟨h.below.trans (cQ s.2 (by omega) h.below.size),World.ownsRow.kept h.res s.2 (Pg (by simp[Value.ownBlock])),s.1⟩
theorem N0(sb:Nat)(rv:PK)(rows:PC)(w:PJ)(hsb:sb<w.heap.size)(h1:w.cell? (PN sb 1)=some rv)(hr:nR w rv rows)(hn:rows.length<=1000):Calls prog 156 #[PL sb] w λe w'=>e=.returned (.tuple #[aX (bQ (eL rows)),.bool (eL rows).isSome])/\Io w w':=by
 obtain⟨ra,rc,rfl,hat⟩:=hr;have HAT:=ae hat;clear hat;obtain⟨w1,hw1⟩:∃w1,w1=(w.alloc (.cells #[PO 0,PP 0,PP 0,PP 0,PP 0,PQ 0,PQ 0] 88)).alloc (.cells #[PO 0,PP 0,PP 0,PP 0,PP 0,PQ 0,PQ 0] 88):=⟨_,rfl⟩;have H0:Po (GW w w1 none):=by show GW _ _ _;rw[hw1];refine⟨cY,(Bx.new w _ (Ou _)).below ai,?_⟩;have h:=Bx.new (w.alloc (.cells #[PO 0,PP 0,PP 0,PP 0,PP 0,PQ 0,PQ 0] 88)) w.heap.size (by simp);simpa [bQ] using h
 have q1:w1.cell? (PN sb 1)=some (.slice ra rows.length rc):=af h1 H0.o.below;go_enter func156,ntmps156;go_wp2_with fail;rw[<-hw1];clear hw1;go_wp2;clear q1;go_loopw [5,13] (λf i wr=>∃m:Nat,m<=rows.length/\i=PO m/\f=.bool (eL (rows.take m)).isSome/\GW w wr (eL (rows.take m))) (λ_ i _=>rows.length-(intOf i).toNat);case atStart=>exact⟨0,OB _,rfl,rfl,H0.o⟩
 case round=>
  clear H0;obtain⟨m,hm,rfl,rfl,ht⟩:=hrel;have HT:=ae ht;clear ht;by_cases hm2:m<rows.length
  .obtain⟨rb,off,u,rfl,hlt,hc,hf⟩:=HAT.o m hm2;have HTK:Po (eL (rows.take (m+1))=gZ (eL (rows.take m)) (rows.getD m [])):=by show _=_;unfold eL;rw[OX hm2,List.foldl_append];simp[OH,hm2]
   generalize eL (rows.take m)=g at HT HTK⊢;generalize rows.getD m []=row at hf HTK;have z1:=af hc HT.o.below;cases row with
   |nil=>
    obtain⟨a,cap,rfl,_,_⟩:=hf;go_wp2;go_quiet (fail);have HBQ:=ae (below_drewN (Ov wr.heap.size wr) nq);generalize wr.drewN nq=wq at HBQ⊢;have HTQ:=ae (HT.o.next HBQ.o);go_wp2;go_roundw;case rel=>exact⟨m+1,by omega,by go_num,by rw[HTK.o];rfl,by rw[HTK.o];exact HTQ.o⟩
    case measure=>simp[intOf];omega
   |cons t ts=>
    obtain⟨b,of2,cap,rfl,hcap,hlt2,hft,_,_⟩:=hf.head;obtain⟨f0,f1,f2,f3,f4,f5,f6⟩:=hft.keep HT.o.below;cases g with
    |none=>
     simp only[Option.isSome_none];go_wp2;go_quiet (fail);have HBQ:=ae (below_drewN (Ov wr.heap.size wr) nq);generalize wr.drewN nq=wq at HBQ⊢;have HTQ:=ae (HT.o.next HBQ.o);obtain⟨f0,f1,f2,f3,f4,f5,f6⟩:=hft.keep HTQ.o.below;obtain⟨x0,x1,x2,x3,x4,x5,x6⟩:=HTQ.o.box.at;have y0:=Oo HTQ.o.box 0;have y1:=Oo HTQ.o.box 1;have y2:=Oo HTQ.o.box 2;have y3:=Oo HTQ.o.box 3;have y4:=Oo HTQ.o.box 4;have y5:=Oo HTQ.o.box 5;have y6:=Oo HTQ.o.box 6;simp only[ON] at x0 x1 x2 x3 x4 x5 x6;have HP:=ae (HTQ.o.put t);unfold eB at HP;go_wp2;go_roundw;case rel=>exact⟨m+1,by omega,by go_num,by rw[HTK.o];rfl,by rw[HTK.o];exact HP.o⟩
     case measure=>simp[intOf];omega
    |some g=>
     simp only[Option.isSome_some];obtain⟨x0,x1,x2,x3,x4,x5,x6⟩:=HT.o.box.at;simp only[ON,bQ,Option.getD_some] at x0 x1 x2 x3 x4 x5 x6;by_cases hk:g.k<t.k
     .skip
      go_wp2;go_quiet (fail);have HBQ:=ae (below_drewN (Ov wr.heap.size wr) nq);generalize wr.drewN nq=wq at HBQ⊢;have HTQ:=ae (HT.o.next HBQ.o);obtain⟨f0,f1,f2,f3,f4,f5,f6⟩:=hft.keep HTQ.o.below;obtain⟨x0,x1,x2,x3,x4,x5,x6⟩:=HTQ.o.box.at;have y0:=Oo HTQ.o.box 0;have y1:=Oo HTQ.o.box 1;have y2:=Oo HTQ.o.box 2;have y3:=Oo HTQ.o.box 3;have y4:=Oo HTQ.o.box 4;have y5:=Oo HTQ.o.box 5;have y6:=Oo HTQ.o.box 6;simp only[ON] at x0 x1 x2 x3 x4 x5 x6;have HP:=ae (HTQ.o.put t);unfold eB at HP;go_wp2;go_roundw;case rel=>exact⟨m+1,by omega,by go_num,by rw[HTK.o];simp[gZ,hk],by rw[HTK.o];simp only[gZ,hk,if_true];exact HP.o⟩
      case measure=>simp[intOf];omega
     .have HK:=ae hk;go_wp2;go_quiet (fail);have HBQ:=ae (below_drewN (Ov wr.heap.size wr) nq);generalize wr.drewN nq=wq at HBQ⊢;have HTQ:=ae (HT.o.next HBQ.o);go_wp2;go_roundw;case rel=>exact⟨m+1,by omega,by go_num,by rw[HTK.o];simp only[gZ];rw[OV (show¬g.k<t.k from by have:=HK.o;omega)];rfl,by rw[HTK.o];simp only[gZ];rw[OV (show¬g.k<t.k from by have:=HK.o;omega)];exact HTQ.o⟩
      case measure=>simp[intOf];omega
  .have e:m=rows.length:=by omega
   subst e;rw[OO (Ou _)] at HT⊢;obtain⟨x0,x1,x2,x3,x4,x5,x6⟩:=HT.o.box.at;obtain⟨v0,v1,v2,v3,v4,v5,v6⟩:=HT.o.res.at;have y0:=Oo HT.o.res 0;have y1:=Oo HT.o.res 1;have y2:=Oo HT.o.res 2;have y3:=Oo HT.o.res 3;have y4:=Oo HT.o.res 4;have y5:=Oo HT.o.res 5;have y6:=Oo HT.o.res 6;simp only[ON] at x0 x1 x2 x3 x4 x5 x6 v0 v1 v2 v3 v4 v5 v6;have HP:=ae (HT.o.res.put (bQ (eL rows)));have HBP:=ae (HT.o.below.trans (cQ HP.o.2 (Ou _) HT.o.below.size));have hpat:=HP.o.1.at;unfold eB at hpat;obtain⟨r0,r1,r2,r3,r4,r5,r6⟩:=hpat;simp only[ON] at r0 r1 r2 r3 r4 r5 r6;go_wp2;refine OC (v:=.tuple #[aX (bQ (eL rows)),.bool (eL rows).isSome]) (by simp[results,Tryz.results156,go_sem,r0,r1,r2,r3,r4,r5,r6,aX]) rfl ⟨rfl,HBP.o⟩
def oN(n:Int)(t:Ft):Ft:={t with pl:=t.pl-n}
def cZ(n:Int)(fs:PB):PB:=(fs.filter λt=>decide (n<=t.pl)).map (oN n)
theorem Ee(n:Int)(fs:PB)(t:Ft):cZ n (fs++[t])=cZ n fs++if n<=t.pl then [oN n t] else []:=by
 unfold cZ;rw[List.filter_append,O0];congr 1;by_cases h:n<=t.pl
 .simp[h]
 .simp[h]
theorem CU(n:Int)(fs:PB):(cZ n fs).length<=fs.length:=by unfold cZ;rw[OS];exact Pc _ _
theorem CQ(v:PK)(fs:PB)(n:Nat)(w:PJ)(hf:Fv w v fs)(hp:∀t∈fs,0<=t.pl/\t.pl<=255)(hn:n<=255)(hl:fs.length<=1150000000000):Calls prog 76 #[v,PO n] w λe w'=>∃u,e=.returned u/\w'.ownsRow w.heap.size 88 7 u (cZ n fs).length (aA (cZ n fs))/\Io w w':=by
 obtain⟨i0,hi,hz0,hz1,hz2⟩:=info_parts Tryz.infoFt;have HI:=ae (Ow hi (Ow hz0 (Ow hz1 hz2)));clear hi hz0 hz1 hz2;have HF:=ae hf;have HP:=ae hp;obtain⟨va,vc,rfl,_,_⟩:=hf;clear hp;go_enter func76,ntmps76;go_wp2_with fail;go_loopw [5,10] (λz i wr=>∃m:Nat,m<=fs.length/\i=PO m/\wr.ownsRow w.heap.size 88 7 z (cZ n (fs.take m)).length (aA (cZ n (fs.take m)))/\Io w wr) (λ_ i _=>fs.length-(intOf i).toNat);case atStart=>exact⟨0,OB _,rfl,World.ownsRow_nil _ _ _ _,Ov _ _⟩
 case round=>
  obtain⟨m,hm,rfl,hown,hbr⟩:=hrel;have HO:=ae hown;have HB:=ae hbr;clear hown hbr;by_cases hm2:m<fs.length
  .obtain⟨b,off,rfl,hlt,_,hft⟩:=(HF.o.below HB.o).at m hm2;have HTK:Po (fs.take (m+1)=fs.take m++[fs.getD m dT]):=by show _=_;rw[OX hm2];simp[OH,hm2]
   have HTP:Po (0<=(fs.getD m dT).pl/\(fs.getD m dT).pl<=255):=by
    have:fs.getD m dT∈fs:=by rw[OH,OI hm2];exact OE hm2
    exact HP.o _ this
   have HLN:Po ((cZ n (fs.take m)).length<=1200000000000):=by have:=CU n (fs.take m);rw[O7] at this;show _<=_;omega
   generalize fs.getD m dT=t at hft HTK HTP;generalize hdn:cZ n (fs.take m)=dn at HO HLN;have HDN:=ae hdn;clear hdn;obtain⟨f0,f1,f2,f3,f4,f5,f6⟩:=hft;obtain⟨ht0,ht1⟩:=HTP.o;obtain⟨ya,yc,hy⟩:=cE HO.o;subst hy;have hmI:(m:Int)<(fs.length:Int):=by omega
   by_cases hpl:(n:Int)<=t.pl
   .have HNX:Po (cZ n (fs.take (m+1))=dn++[oN n t]):=by show _=_;rw[HTK.o,Ee,HDN.o,OW hpl]
    have hwn:IntKind.u8.wrap (n:Int)=n:=by rw[IntKind.wrap_u8];omega
    have hws:IntKind.u8.wrap (t.pl-n)=t.pl-n:=by rw[IntKind.wrap_u8];omega
    have HO1:=ae ((HO.o.alloc (.cells #[PO t.k,PP t.a,PP t.b,PP t.d,PP t.z,PQ (t.pl-n),PQ t.c] 88)).alloc (.cells #[PO t.k,PP t.a,PP t.b,PP t.d,PP t.z,PQ (t.pl-n),PQ t.c] 88));have HB1:Po (Io w ((wr.alloc (.cells #[PO t.k,PP t.a,PP t.b,PP t.d,PP t.z,PQ (t.pl-n),PQ t.c] 88)).alloc (.cells #[PO t.k,PP t.a,PP t.b,PP t.d,PP t.z,PQ (t.pl-n),PQ t.c] 88))):=(HB.o.alloc HB.o.size _).alloc (by simp;have:=HB.o.size;omega) _;have HNW:=ae (jz (wr.alloc (.cells #[PO t.k,PP t.a,PP t.b,PP t.d,PP t.z,PQ (t.pl-n),PQ t.c] 88)) (oN n t) 88);have HSZ:Po ((wr.alloc (.cells #[PO t.k,PP t.a,PP t.b,PP t.d,PP t.z,PQ (t.pl-n),PQ t.c] 88)).heap.size=wr.heap.size+1):=by show _=_;simp
    rw[HSZ.o] at HNW;go_wp2_with (at_builtin;refine rA rfl (.tmp 25) (.tmp 27) 79 rfl w.heap.size 88 i0 _ underlying79 HI.o.1 HI.o.2.1 HI.o.2.2.1 HI.o.2.2.2 rfl (.slice ya dn.length yc) dn rfl HO1.o (oN n t) (PN (wr.heap.size+1) 0) 1 rfl HNW.o HLN.o HB1.o.size ?_;intro v9 w9 r1 r2;have R1:=ae r1;have R2:=ae (show Io w w9 from eS HO1.o HB1.o r2 (Ou _));obtain⟨va9,vc9,hv9⟩:=cE r1;subst hv9;clear r1 r2);go_roundw;case rel=>exact⟨m+1,by omega,by go_num,by rw[HNX.o];have h:=R1.o;rwa [show (dn++[oN n t]).length=dn.length+1 from by simp] at h⊢,R2.o⟩
    case measure=>simp[intOf];omega
   .have HNX:Po (cZ n (fs.take (m+1))=dn):=by show _=_;rw[HTK.o,Ee,HDN.o,OV hpl];simp
    have HO1:=ae (HO.o.alloc (.cells #[PO t.k,PP t.a,PP t.b,PP t.d,PP t.z,PQ t.pl,PQ t.c] 88));go_wp2;go_roundw;case rel=>exact⟨m+1,by omega,by go_num,by rw[HNX.o];exact HO1.o,HB.o.alloc HB.o.size _⟩
    case measure=>simp[intOf];omega
  .have e:m=fs.length:=by omega
   subst e;have HO2:=ae HO.o;rw[OO (Ou _)] at HO2;clear HO;generalize hg:cZ n fs=g at HO2;have HG:=ae hg;clear hg;obtain⟨ga,gc,hz⟩:=cE HO2.o;subst hz;go_wp2;go_ret;exact⟨_,rfl,by rw[HG.o];exact HO2.o,HB.o⟩
end Go.Proofs.YtjkalahhpobefaaGreat
