/- Flat vectors, sorted. -/
import Derived.Test.YtjkalahhpobefaaGreatZG
import Derived.Test.YtjkalahhpobefaaGreatShelf
import Derived.Test.YtjkalahhpobefaaGreatWB
set_option maxHeartbeats 2000000
set_option maxRecDepth 100000
namespace Go.Proofs.YtjkalahhpobefaaGreat
set_option linter.all false
open Go.Proofs.Tryz Go.RowKit Go.Sort
theorem vM(a b:Int)(w:OQ):Calls prog 155 #[OW a,OW b] w λe w'=>e=.returned (OW (aS a b))/\w'=w:=by
 unfold aS;by_cases h1:a<b
 .go_enter func155,ntmps155;go_wp2;go_ret;exact⟨by simp[h1],rfl⟩
 .by_cases h2:b<a
  .go_enter func155,ntmps155;go_wp2;go_ret;exact⟨by simp[h1,h2],rfl⟩
  .go_enter func155,ntmps155;go_wp2;go_ret;exact⟨by simp[h1,h2],rfl⟩
def j7(x y:Ft):Int:=aS y.k x.k
theorem M9(x y:Ft)(W:OQ):Calls prog 154 #[.agg (aB x).toArray,.agg (aB y).toArray] W λe w'=>e=.returned (OW (j7 x y))/\∃q os',w'=grow (W.drewN q) os':=by have hcon:=λW'=>vM y.k x.k W';unfold j7;unfold aB;generalize aS y.k x.k=r at hcon⊢;go_enter func154,ntmps154;go_wp2_with (go_at_call 155;refine(hcon _).mono ?_;rintro e w' ⟨rfl,rfl⟩);go_ret;exact⟨rfl,0,_,by rw[alloc_eq_grow,alloc_eq_grow,grow_grow];rfl⟩
theorem pS(x y:Ft):ltOf j7 x y=decide (y.k<x.k):=by
 unfold ltOf j7 aS;by_cases h1:y.k<x.k
 .simp[h1]
 .by_cases h2:x.k<y.k<;>simp[h1,h2]
theorem DR:SWO (ltOf j7) where
 irrefl x:=by rw[pS];simp
 trans x y z h1 h2:=by rw[pS] at*;simp at*;omega
 ntrans x y z h1 h2:=by rw[pS] at*;simp at*;omega
theorem Na(w:OQ):(isAgg 88).run prog w=.ok true w:=by kernel_rfl
theorem Nb(w:OQ):(Go.sizeOf 88).run prog w=.ok 7 w:=by kernel_rfl
theorem sJ[Inhabited Ft]:∀(fs:OI)(j:Nat),j<fs.length*7->(aA fs)[j]?=some ((aB fs.toArray[j/7]!)[j%7]!)
 |[],j,h=>by simp at h
 |t::fs,j,h=>by
  rw[i7];by_cases hj:j<7
  .rw[Ol (by simpa [aB] using hj)];have e1:j/7=0:=by omega
   have e2:j%7=j:=by omega
   rw[e1,e2];have e3:(t::fs).toArray[0]! =t:=rfl;rw[e3,NZ (by simpa [aB] using hj),getElem!_pos _ j (by simpa [aB] using hj)]
  .rw[Ot (by simp[aB];omega)];have ih:=sJ fs (j-7) (by simp at h;omega);have e0:(aB t).length=7:=rfl;rw[e0,ih];have e1:j/7=(j-7)/7+1:=by omega
   have e2:j%7=(j-7)%7:=by omega
   rw[e1,e2];have e3:(t::fs).toArray[(j-7)/7+1]! =fs.toArray[(j-7)/7]!:=by
    have hl:(j-7)/7<fs.length:=by simp at h;omega
    rw[getElem!_pos _ _ (by simpa using hl),getElem!_pos _ _ (by simpa using hl)];simp
   rw[e3]
variable{fs:OI}{g cap:Nat}{w:OQ}
theorem C9[Inhabited Ft]{B:Nat}(h:w.ownsRow B 88 7 (OU g fs.length cap) fs.length (aA fs)):HoldsK aB 7 w g 0 fs.toArray:=by
 intro j hj;rw[size_flatK] at hj;have hj2:j<fs.length*7:=by simpa using hj
 refine⟨?_,by rw[N4];exact h.frozenAt j⟩;rw[N4,h.cellAt j hj2,sJ fs j hj2,get_flatK _ _ _ _ hj];rfl
theorem Db[Inhabited Ft](h:HoldsK aB 7 w g 0 fs.toArray)(hlt:g<w.heap.size)(hc:fs.length<=cap):Fv w (OU g fs.length cap) fs:=by
 refine⟨_,cap,rfl,hc,λhp=>⟨g,0,rfl,hlt,λj u hj=>?_⟩⟩;have hjl:j<fs.length*7:=by rw[<-fz];apply Ob;intro hle;rw[N0 hle] at hj;simp at hj
 have h1:=(h j (by rw[size_flatK];simpa using hjl)).1;rw[get_flatK _ _ _ _ (by simpa using hjl)] at h1;rw[sJ fs j hjl] at hj;rw[h1,<-hj];rfl
variable{os:Array Obj}{n:Nat}
theorem sL[Inhabited Ft](d:Array Ft):w.grownBy (sortWorldK aB 7 w g 0 n d os) (some g):=by refine⟨rfl,rfl,rfl,by simp[sortWorldK,putRowK],λk hk hne=>?_⟩;unfold sortWorldK putRowK;rw[heap_grow_old _ _ (by simpa using hk)];have:g≠k:=λe=>hne (by rw[e]);simp[putRow,mapBlock,Sort.ahead,Array.getElem?_modify,this]
theorem Da[Inhabited Ft](g cap:Nat)(fs:OI)(w:OQ)(hH:HoldsK aB 7 w g 0 fs.toArray)(hblk:g<w.heap.size)(hsz:fs.length<4611686018427387904):Calls prog 153 #[OU g fs.length cap,.func (.func 154) #[] #[]] w λe w'=>e=.returned (.tuple #[])/\∃d' n os,PermIn 0 fs.length fs.toArray d'/\SortedIn (ltOf j7) 0 fs.length d'/\w'=sortWorldK aB 7 w g 0 n d' os:=by
 have eg:∀args w,(callFunc 154 args).run prog w=.ok (.enter 154 args) w:=enters_of func154 (by kernel_rfl) rfl;have hcmp:CmpLays prog 154 #[] aB 7 j7 g 0 fs.toArray.size w:=λ_ _ _ _ x y=>M9 x y _;have hlim:Lib.bitLen fs.toArray.size<4611686018427387904:=OD (Lib.bitLen_le fs.toArray.size 62 (by simp;try omega) (by omega)) (by omega);have hp:=AnyQ.pdqsortCmpFunc_all (P:=prog) Tryz.pdqFt 7 Na Nb aB j7 154 #[] DR g 0 cap fs.toArray w eg hcmp ⟨λ_=>rfl,ll,hH,hblk⟩ (fs.toArray.size+1) 0 fs.toArray.size (Lib.bitLen fs.toArray.size) fs.toArray w (by omega) rfl (SWK.start hH) (NS _) (NL _) (by simpa using hsz) hlim (Ox rfl);change Calls prog 192 _ _ _ at hp;have hl:=Tryz.bits_Len (fs.length:Int) w (by omega) (by omega);rw[Int.toNat_natCast] at hl;have wr:IntKind.u64.wrap (fs.length:Int)=fs.length:=by simp[IntKind.wrap,IntKind.bits,IntKind.signed];omega
 have hps:=pdq_sorts (ltOf j7) DR fs.toArray 0 fs.toArray.size (Lib.bitLen fs.toArray.size) true true (NS _) (NL _) (Ox rfl);simp only[List.size_toArray] at hp hps hlim;have HPS:=ae hps;have HP:=ae hp;have HL:=ae hl;clear hH hcmp hps hp hl eg;generalize pdq (ltOf j7) fs.toArray 0 fs.length (Lib.bitLen fs.length) true true=dd at HPS HP;generalize Lib.bitLen fs.length=bl at HP HL hlim;go_enter func153,ntmps153;go_wp2_with (first|(go_at_call 150;refine HL.o.mono ?_;rintro e w' ⟨rfl,rfl⟩)|(go_at_call 192;refine HP.o.mono ?_;rintro e w' ⟨rfl,n,os,rfl⟩));go_end0;exact⟨rfl,dd,n,os,HPS.o.1,HPS.o.2,rfl⟩
theorem LG(w:OQ):Calls prog 120 #[.slice none 0 0] w λe w'=>e=.returned (.tuple #[])/\w'=w:=by
 have hp:=λW=>AnyF.pdqsortCmpFunc_none (P:=prog) Tryz.pdqFt none 0 0 (.func (.func 154) #[] #[]) W;change∀W,Calls prog 192 _ _ _ at hp;have HL:=ae (λW=>Tryz.bits_Len 0 W (by omega) (by omega));have HP:=ae hp;clear hp;have e0:Lib.bitLen (0:Int).toNat=0:=by decide
 rw[show (Lib.bitLen (0:Int).toNat:Nat)=0 from e0] at HL;have hs:∀W,Calls prog 153 #[.slice none 0 0,.func (.func 154) #[] #[]] W λe w'=>e=.returned (.tuple #[])/\w'=W:=λW=>by go_enter func153,ntmps153;go_wp2_with (first|(go_at_call 150;refine(HL.o _).mono ?_;rintro e w' ⟨rfl,rfl⟩)|(go_at_call 192;refine(HP.o _).mono ?_;rintro e w' ⟨rfl,rfl⟩));go_end0;exact⟨rfl,rfl⟩
 have HS:=ae hs;clear hs;go_enter func120,ntmps120;go_wp2_with (go_at_call 153;refine(HS.o _).mono ?_;rintro e w' ⟨rfl,rfl⟩);go_end0;exact⟨rfl,rfl⟩
def iP(fs:OI):Prop:=fs.Pairwise λa b=>b.k<=a.k
theorem Nc[Inhabited Ft](d:Array Ft){T:TypeId}{ag:Array OR}(h:w.heap[g]?=some (.cells ag T (0,0))):∃cur',(sortWorldK aB 7 w g 0 n d os).heap[g]?=some (.cells cur' T (0,0)):=by have hlt:g<w.heap.size:=(On.1 h).1;unfold sortWorldK putRowK;rw[heap_grow_old _ _ (by simpa using hlt)];simp[putRow,mapBlock,Sort.ahead,Array.getElem?_modify,h];exact⟨_,rfl⟩
theorem Nd(B g cap:Nat)(fs:OI)(w:OQ)(hown:w.ownsRow B 88 7 (OU g fs.length cap) fs.length (aA fs))(hc:fs.length<=cap)(hsz:fs.length<4611686018427387904)(hB:B<=w.heap.size):Calls prog 120 #[OU g fs.length cap] w λe w'=>e=.returned (.tuple #[])/\∃fs':OI,fs'.Perm fs/\iP fs'/\Fv w' (OU g fs.length cap) fs'/\Below B w w'/\∃ag,w'.heap[g]?=some (.cells ag 88 (0,0)):=by
 have inh:Inhabited Ft:=⟨⟨0,0,0,0,0,0,0⟩⟩;have hlt:=NK hown g rfl;have hH:=C9 hown;have HTY:OE (∃ag,w.heap[g]?=some (.cells ag 88 (0,0))):=by
  rcases hown.2 with ⟨h1,_⟩|⟨g2,cap2,ag,h1,_,hh,_⟩
  .simp at h1
  .simp only[N8,N7,Addr.mk.injEq] at h1;obtain⟨⟨e,_⟩,_⟩:=h1;rw[e];exact⟨ag,hh⟩
 have HC:=ae (Da g cap fs w hH hlt.2 hsz);have HH:=ae hH;have HLT:=ae hlt;clear hH hown hlt;go_enter func120,ntmps120;go_wp2_with (go_at_call 153;refine HC.o.mono ?_;rintro e w' ⟨rfl,d',n,os,hp,hs,hw⟩;have HR:=ae (NN hp (NN hs hw));clear hp hs hw);go_end0;obtain⟨hp,hs,hw⟩:=HR.o;have hds:d'.size=fs.length:=by simpa using hp.1
 have e1:d'.toList.length=fs.length:=by simpa using hds
 refine⟨rfl,d'.toList,?_,?_,?_,?_,?_⟩
 .have h:=hp.2.2;rw[show fs.toArray.extract 0 fs.length=fs.toArray from by simp,show d'.extract 0 fs.length=d' from by rw[<-hds];simp] at h;simpa using h
 .unfold iP;rw[List.pairwise_iff_getElem];intro i j hi hj hij;have h:=hs i j (NS _) hij (by omega);rw[pS,getElem!_pos _ j (by simpa using hj),getElem!_pos _ i (by simpa using hi)] at h;simp only[decide_eq_false_iff_not] at h;simp only[Array.getElem_toList];omega
 .have h:=holdsK_sortWorldK aB 7 w g 0 n fs.toArray d' os HLT.o.2 HH.o (by simpa using hds);rw[<-hw] at h;have hg:=sL (w:=w) (g:=g) (n:=n) (os:=os) d';rw[<-hw] at hg;have k:=Db (cap:=cap) (fs:=d'.toList) (by simpa using h) (NQ HLT.o.2 hg.size) (by omega);rw[e1] at k;exact k
 .have hg:=sL (w:=w) (g:=g) (n:=n) (os:=os) d';rw[<-hw] at hg;exact cV hg HLT.o.1 hB
 .obtain⟨ag,hcur⟩:=HTY.o;obtain⟨cur',h'⟩:=Nc (n:=n) (os:=os) d' hcur;rw[<-hw] at h';exact⟨cur',h'⟩
theorem Gy(B g cap:Nat)(fs:OI)(w:OQ)(hown:w.ownsRow B 88 7 (OU g fs.length cap) fs.length (aA fs))(hc:fs.length<=cap)(hsz:fs.length<4611686018427387904)(hB:B<=w.heap.size):Calls prog 120 #[OU g fs.length cap] w λe w'=>e=.returned (.tuple #[])/\∃fs':OI,fs'.Perm fs/\iP fs'/\Fv w' (OU g fs.length cap) fs'/\Below B w w':=
 (Nd B g cap fs w hown hc hsz hB).mono λe w' ⟨h1,fs',h2,h3,h4,h5,_⟩=>⟨h1,fs',h2,h3,h4,h5⟩
end Go.Proofs.YtjkalahhpobefaaGreat
namespace Go.Proofs.YtjkalahhpobefaaGreat
set_option linter.all false
open Go.Proofs.Tryz Go.RowKit
def eV(k0 k1 k2:Int)(ss:OP)(fss:OG):Nat->OI
 |0=>[]
 |i+1=>eV k0 k1 k2 ss fss i++(fss.getD i []).map (fe (ss.getD i 0) k0 k1 k2 i)
variable{P:Program}
theorem Bf(w:OQ)(base:Nat)(t ty e:TypeId)(i:TypeInfo)(z:OR)(ht:P.underlying t=some (.slice e))(hi:P.info? e=some i)(hz:i.zero=some z)(hsize:i.size=7)(hby:i.bytes=24)(hzs:z.cells.size=7)(v:OR)(fs:OI)(hown:w.ownsRow base e 7 v fs.length (aA fs))(u:Ft)(ad:Addr)(c:Nat)(hnew:∀j x,(aB u)[j]?=some x->w.cell? (ad.add j)=some x)(hb:fs.length<=1200000000000)(hbase:base<=w.heap.size):∃v' w',(Builtin.append_ #[t,t] ty #[v,.slice (some ad) 1 c]).run P w=.ok v' w'/\w'.ownsRow base e 7 v' (fs++[u]).length (aA (fs++[u]))/\w.grownBy w' v.ownBlock:=by obtain⟨v',w',hr,h2,h3,_⟩:=run_append_own (P:=P) w base t ty e i z 7 24 ht hi hz hsize hby hzs (by decide) v fs.length (aA fs) hown ad 1 c (aB u) rfl hnew (ll u) (by unfold maxLen;omega) (by omega) hbase;exact⟨v',w',hr,by rw[pZ,N3];exact h2,h3⟩
variable{w:OQ}
theorem qZ{ops:Array Oper}{rest:List Oper}{o:Oper}{a:Act}{Q:Exit->Act->OQ->Prop}(hgd:o.guard=none)(s x:Operand)(t:TypeId)(ho:o.op=.call {callee:=.builtin .append,args:=#[s,x],argTypes:=#[t,t]})(base:Nat)(e:TypeId)(i:TypeInfo)(z:OR)(ht:P.underlying t=some (.slice e))(hi:P.info? e=some i)(hz:i.zero=some z)(hsize:i.size=7)(hby:i.bytes=24)(hzs:z.cells.size=7)(v:OR)(fs:OI)(hs:a.eval s=v)(hown:w.ownsRow base e 7 v fs.length (aA fs))(u:Ft)(ad:Addr)(c:Nat)(hx:a.eval x=.slice (some ad) 1 c)(hnew:∀j x,(aB u)[j]?=some x->w.cell? (ad.add j)=some x)(hb:fs.length<=1200000000000)(hbase:base<=w.heap.size)(hK:∀v' w',w'.ownsRow base e 7 v' (fs++[u]).length (aA (fs++[u]))->w.grownBy w' v.ownBlock->wpList P ops Q rest (a.put o.dst v') w'):wpList P ops Q (o::rest) a w:=by refine wpList_plain hgd λK hK'=>?_;obtain⟨v',w',hr,h2,h3⟩:=Bf (P:=P) w base t o.type e i z ht hi hz hsize hby hzs v fs hown u ad c hnew hb hbase;unfold Oper.wp execOp;simp only[ho,resolve,invoke,builtin,Sem.run_bind,Sem.run_pure,Result.andThen_ok,List.map_toArray,List.map_cons,List.map_nil,hs,hx,hr];exact hK' _ _ (hK v' w' h2 h3)
def et(wr:OQ)(g:Nat)(t:Ft):OQ:=((((((wr.setCell (OV g 0) (OW t.k)).setCell (OV g 1) (OX t.a)).setCell (OV g 2) (OX t.b)).setCell (OV g 3) (OX t.d)).setCell (OV g 4) (OX t.z)).setCell (OV g 5) (OY t.pl)).setCell (OV g 6) (OY t.c)
def Bx(B:Nat)(wr:OQ)(g:Nat)(t:Ft):Prop:=wr.ownsRow B 88 7 (OU g 1 1) 1 (aB t)
variable{wr:OQ}{B:Nat}
theorem Bx.put{g:Nat}{t0:Ft}(h:Bx B wr g t0)(t:Ft):Bx B (et wr g t) g t/\wr.grownBy (et wr g t) (some g):=by have s1:=NW h 0 (OW t.k);have s2:=s1.1.stored 1 (OX t.a);have s3:=s2.1.stored 2 (OX t.b);have s4:=s3.1.stored 3 (OX t.d);have s5:=s4.1.stored 4 (OX t.z);have s6:=s5.1.stored 5 (OY t.pl);have s7:=s6.1.stored 6 (OY t.c);exact⟨s7.1,cZ (cZ (cZ (cZ (cZ (cZ s1.2 s2.2) s3.2) s4.2) s5.2) s6.2) s7.2⟩
variable{t:Ft}
theorem Bx.at{g:Nat}(h:Bx B wr g t):cz wr g 0 t:=nY λj u hj=>by
 have hl:j<7:=by have:=(List.getElem?_eq_some_iff.1 hj).1;simpa [aB] using this
 rw[N4,NJ h j (by omega)];exact hj
variable{w':OQ}
theorem Bx.below{g:Nat}(h:Bx B wr g t)(hb:LT wr w'):Bx B w' g t:=aF h hb
theorem Bx.new(w:OQ)(B:Nat)(hB:B<=w.heap.size):Bx B (w.alloc (.cells #[OW 0,OX 0,OX 0,OX 0,OX 0,OY 0,OY 0] 88)) w.heap.size ⟨0,0,0,0,0,0,0⟩:=
 ⟨by simp[aB],.inr ⟨w.heap.size,1,_,rfl,hB,heap_alloc_new w _,NL _,by decide,by simp,by simp[aB]⟩⟩
def nL(w:OQ)(rv:OR)(rows:OJ):Prop:=∃ra rc,rv=.slice ra rows.length rc/\∀i,i<rows.length->∃b off u,ra=some (OV b off)/\b<w.heap.size/\w.cell? (OV b (off+i))=some u/\Fv w u (rows.getD i [])
def gZ(g:Option Ft):OI->Option Ft
 |[]=>g
 |t::_=>match g with
  |none=>some t
  |some g=>if g.k<t.k then some t else some g
def eK(rows:OJ):Option Ft:=rows.foldl gZ none
def bS(g:Option Ft):Ft:=g.getD ⟨0,0,0,0,0,0,0⟩
structure GW(w wr:OQ)(g:Option Ft):Prop where
 below:LT w wr
 res:Bx w.heap.size wr w.heap.size ⟨0,0,0,0,0,0,0⟩
 box:Bx w.heap.size wr (w.heap.size+1) (bS g)
variable{g:Option Ft}
theorem GW.next(h:GW w wr g)(hb:LT wr w'):GW w w' g:=⟨Io h.below hb,h.res.below hb,h.box.below hb⟩
theorem GW.put(h:GW w wr g)(t:Ft):GW w (et wr (w.heap.size+1) t) (some t):=by have s:=h.box.put t;exact⟨h.below.trans (cV s.2 (by omega) h.below.size),World.ownsRow.kept h.res s.2 (Oy (by simp[Value.ownBlock])),s.1⟩
theorem Nf(sb:Nat)(rv:OR)(rows:OJ)(w:OQ)(hsb:sb<w.heap.size)(h1:w.cell? (OV sb 1)=some rv)(hr:nL w rv rows)(hn:rows.length<=1000):Calls prog 156 #[OS sb] w λe w'=>e=.returned (.tuple #[aX (bS (eK rows)),.bool (eK rows).isSome])/\LT w w':=by
 obtain⟨ra,rc,rfl,hat⟩:=hr;have HAT:=ae hat;clear hat;obtain⟨w1,hw1⟩:∃w1,w1=(w.alloc (.cells #[OW 0,OX 0,OX 0,OX 0,OX 0,OY 0,OY 0] 88)).alloc (.cells #[OW 0,OX 0,OX 0,OX 0,OX 0,OY 0,OY 0] 88):=⟨_,rfl⟩;have H0:OE (GW w w1 none):=by show GW _ _ _;rw[hw1];refine⟨dR,(Bx.new w _ (NL _)).below ai,?_⟩;have h:=Bx.new (w.alloc (.cells #[OW 0,OX 0,OX 0,OX 0,OX 0,OY 0,OY 0] 88)) w.heap.size (by simp);simpa [bS] using h
 have q1:w1.cell? (OV sb 1)=some (.slice ra rows.length rc):=af h1 H0.o.below;go_enter func156,ntmps156;go_wp2_with fail;rw[<-hw1];clear hw1;go_wp2;clear q1;go_loopw [5,13] (λf i wr=>∃m:Nat,m<=rows.length/\i=OW m/\f=.bool (eK (rows.take m)).isSome/\GW w wr (eK (rows.take m))) (λ_ i _=>rows.length-(intOf i).toNat);case atStart=>exact⟨0,NS _,rfl,rfl,H0.o⟩
 case round=>
  clear H0;obtain⟨m,hm,rfl,rfl,ht⟩:=hrel;have HT:=ae ht;clear ht;by_cases hm2:m<rows.length
  .obtain⟨rb,off,u,rfl,hlt,hc,hf⟩:=HAT.o m hm2;have HTK:OE (eK (rows.take (m+1))=gZ (eK (rows.take m)) (rows.getD m [])):=by show _=_;unfold eK;rw[Of hm2,List.foldl_append];simp[NY,hm2]
   generalize eK (rows.take m)=g at HT HTK⊢;generalize rows.getD m []=row at hf HTK;have z1:=af hc HT.o.below;cases row with
   |nil=>
    obtain⟨a,cap,rfl,_,_⟩:=hf;go_wp2;go_quiet (fail);have HBQ:=ae (below_drewN (NM wr.heap.size wr) nq);generalize wr.drewN nq=wq at HBQ⊢;have HTQ:=ae (HT.o.next HBQ.o);go_wp2;go_roundw;case rel=>exact⟨m+1,by omega,by go_num,by rw[HTK.o];rfl,by rw[HTK.o];exact HTQ.o⟩
    case measure=>simp[intOf];omega
   |cons t ts=>
    obtain⟨b,of2,cap,rfl,hcap,hlt2,hft,_,_⟩:=hf.head;obtain⟨f0,f1,f2,f3,f4,f5,f6⟩:=hft.keep HT.o.below;cases g with
    |none=>
     simp only[Option.isSome_none];go_wp2;go_quiet (fail);have HBQ:=ae (below_drewN (NM wr.heap.size wr) nq);generalize wr.drewN nq=wq at HBQ⊢;have HTQ:=ae (HT.o.next HBQ.o);obtain⟨f0,f1,f2,f3,f4,f5,f6⟩:=hft.keep HTQ.o.below;obtain⟨x0,x1,x2,x3,x4,x5,x6⟩:=HTQ.o.box.at;have y0:=NI HTQ.o.box 0;have y1:=NI HTQ.o.box 1;have y2:=NI HTQ.o.box 2;have y3:=NI HTQ.o.box 3;have y4:=NI HTQ.o.box 4;have y5:=NI HTQ.o.box 5;have y6:=NI HTQ.o.box 6;simp only[N4] at x0 x1 x2 x3 x4 x5 x6;have HP:=ae (HTQ.o.put t);unfold et at HP;go_wp2;go_roundw;case rel=>exact⟨m+1,by omega,by go_num,by rw[HTK.o];rfl,by rw[HTK.o];exact HP.o⟩
     case measure=>simp[intOf];omega
    |some g=>
     simp only[Option.isSome_some];obtain⟨x0,x1,x2,x3,x4,x5,x6⟩:=HT.o.box.at;simp only[N4,bS,Option.getD_some] at x0 x1 x2 x3 x4 x5 x6;by_cases hk:g.k<t.k
     .skip
      go_wp2;go_quiet (fail);have HBQ:=ae (below_drewN (NM wr.heap.size wr) nq);generalize wr.drewN nq=wq at HBQ⊢;have HTQ:=ae (HT.o.next HBQ.o);obtain⟨f0,f1,f2,f3,f4,f5,f6⟩:=hft.keep HTQ.o.below;obtain⟨x0,x1,x2,x3,x4,x5,x6⟩:=HTQ.o.box.at;have y0:=NI HTQ.o.box 0;have y1:=NI HTQ.o.box 1;have y2:=NI HTQ.o.box 2;have y3:=NI HTQ.o.box 3;have y4:=NI HTQ.o.box 4;have y5:=NI HTQ.o.box 5;have y6:=NI HTQ.o.box 6;simp only[N4] at x0 x1 x2 x3 x4 x5 x6;have HP:=ae (HTQ.o.put t);unfold et at HP;go_wp2;go_roundw;case rel=>exact⟨m+1,by omega,by go_num,by rw[HTK.o];simp[gZ,hk],by rw[HTK.o];simp only[gZ,hk,if_true];exact HP.o⟩
      case measure=>simp[intOf];omega
     .have HK:=ae hk;go_wp2;go_quiet (fail);have HBQ:=ae (below_drewN (NM wr.heap.size wr) nq);generalize wr.drewN nq=wq at HBQ⊢;have HTQ:=ae (HT.o.next HBQ.o);go_wp2;go_roundw;case rel=>exact⟨m+1,by omega,by go_num,by rw[HTK.o];simp only[gZ];rw[Oc (show¬g.k<t.k from by have:=HK.o;omega)];rfl,by rw[HTK.o];simp only[gZ];rw[Oc (show¬g.k<t.k from by have:=HK.o;omega)];exact HTQ.o⟩
      case measure=>simp[intOf];omega
  .have e:m=rows.length:=by omega
   subst e;rw[N5 (NL _)] at HT⊢;obtain⟨x0,x1,x2,x3,x4,x5,x6⟩:=HT.o.box.at;obtain⟨v0,v1,v2,v3,v4,v5,v6⟩:=HT.o.res.at;have y0:=NI HT.o.res 0;have y1:=NI HT.o.res 1;have y2:=NI HT.o.res 2;have y3:=NI HT.o.res 3;have y4:=NI HT.o.res 4;have y5:=NI HT.o.res 5;have y6:=NI HT.o.res 6;simp only[N4] at x0 x1 x2 x3 x4 x5 x6 v0 v1 v2 v3 v4 v5 v6;have HP:=ae (HT.o.res.put (bS (eK rows)));have HBP:=ae (HT.o.below.trans (cV HP.o.2 (NL _) HT.o.below.size));have hpat:=HP.o.1.at;unfold et at hpat;obtain⟨r0,r1,r2,r3,r4,r5,r6⟩:=hpat;simp only[N4] at r0 r1 r2 r3 r4 r5 r6;go_wp2;refine NT (v:=.tuple #[aX (bS (eK rows)),.bool (eK rows).isSome]) (by simp[results,Tryz.results156,go_sem,r0,r1,r2,r3,r4,r5,r6,aX]) rfl ⟨rfl,HBP.o⟩
def oE(n:Int)(t:Ft):Ft:={t with pl:=t.pl-n}
def di(n:Int)(fs:OI):OI:=(fs.filter λt=>decide (n<=t.pl)).map (oE n)
theorem DT(n:Int)(fs:OI)(t:Ft):di n (fs++[t])=di n fs++if n<=t.pl then [oE n t] else []:=by
 unfold di;rw[List.filter_append,Oi];congr 1;by_cases h:n<=t.pl
 .simp[h]
 .simp[h]
theorem CU(n:Int)(fs:OI):(di n fs).length<=fs.length:=by unfold di;rw[Oa];exact Ou _ _
theorem CQ(v:OR)(fs:OI)(n:Nat)(w:OQ)(hf:Fv w v fs)(hp:∀t∈fs,0<=t.pl/\t.pl<=255)(hn:n<=255)(hl:fs.length<=1150000000000):Calls prog 76 #[v,OW n] w λe w'=>∃u,e=.returned u/\w'.ownsRow w.heap.size 88 7 u (di n fs).length (aA (di n fs))/\LT w w':=by
 obtain⟨i0,hi,hz0,hz1,hz2⟩:=info_parts Tryz.infoFt;have HI:=ae (NN hi (NN hz0 (NN hz1 hz2)));clear hi hz0 hz1 hz2;have HF:=ae hf;have HP:=ae hp;obtain⟨va,vc,rfl,_,_⟩:=hf;clear hp;go_enter func76,ntmps76;go_wp2_with fail;go_loopw [5,10] (λz i wr=>∃m:Nat,m<=fs.length/\i=OW m/\wr.ownsRow w.heap.size 88 7 z (di n (fs.take m)).length (aA (di n (fs.take m)))/\LT w wr) (λ_ i _=>fs.length-(intOf i).toNat);case atStart=>exact⟨0,NS _,rfl,World.ownsRow_nil _ _ _ _,NM _ _⟩
 case round=>
  obtain⟨m,hm,rfl,hown,hbr⟩:=hrel;have HO:=ae hown;have HB:=ae hbr;clear hown hbr;by_cases hm2:m<fs.length
  .obtain⟨b,off,rfl,hlt,_,hft⟩:=(HF.o.below HB.o).at m hm2;have HTK:OE (fs.take (m+1)=fs.take m++[fs.getD m dW]):=by show _=_;rw[Of hm2];simp[NY,hm2]
   have HTP:OE (0<=(fs.getD m dW).pl/\(fs.getD m dW).pl<=255):=by
    have:fs.getD m dW∈fs:=by rw[NY,NZ hm2];exact NV hm2
    exact HP.o _ this
   have HLN:OE ((di n (fs.take m)).length<=1200000000000):=by have:=CU n (fs.take m);rw[Oo] at this;show _<=_;omega
   generalize fs.getD m dW=t at hft HTK HTP;generalize hdn:di n (fs.take m)=dn at HO HLN;have HDN:=ae hdn;clear hdn;obtain⟨f0,f1,f2,f3,f4,f5,f6⟩:=hft;obtain⟨ht0,ht1⟩:=HTP.o;obtain⟨ya,yc,hy⟩:=cQ HO.o;subst hy;have hmI:(m:Int)<(fs.length:Int):=by omega
   by_cases hpl:(n:Int)<=t.pl
   .have HNX:OE (di n (fs.take (m+1))=dn++[oE n t]):=by show _=_;rw[HTK.o,DT,HDN.o,Oe hpl]
    have hwn:IntKind.u8.wrap (n:Int)=n:=by rw[IntKind.wrap_u8];omega
    have hws:IntKind.u8.wrap (t.pl-n)=t.pl-n:=by rw[IntKind.wrap_u8];omega
    have HO1:=ae ((HO.o.alloc (.cells #[OW t.k,OX t.a,OX t.b,OX t.d,OX t.z,OY (t.pl-n),OY t.c] 88)).alloc (.cells #[OW t.k,OX t.a,OX t.b,OX t.d,OX t.z,OY (t.pl-n),OY t.c] 88));have HB1:OE (LT w ((wr.alloc (.cells #[OW t.k,OX t.a,OX t.b,OX t.d,OX t.z,OY (t.pl-n),OY t.c] 88)).alloc (.cells #[OW t.k,OX t.a,OX t.b,OX t.d,OX t.z,OY (t.pl-n),OY t.c] 88))):=(HB.o.alloc HB.o.size _).alloc (by simp;have:=HB.o.size;omega) _;have HNW:=ae (ju (wr.alloc (.cells #[OW t.k,OX t.a,OX t.b,OX t.d,OX t.z,OY (t.pl-n),OY t.c] 88)) (oE n t) 88);have HSZ:OE ((wr.alloc (.cells #[OW t.k,OX t.a,OX t.b,OX t.d,OX t.z,OY (t.pl-n),OY t.c] 88)).heap.size=wr.heap.size+1):=by show _=_;simp
    rw[HSZ.o] at HNW;go_wp2_with (at_builtin;refine qZ rfl (.tmp 25) (.tmp 27) 79 rfl w.heap.size 88 i0 _ underlying79 HI.o.1 HI.o.2.1 HI.o.2.2.1 HI.o.2.2.2 rfl (.slice ya dn.length yc) dn rfl HO1.o (oE n t) (OV (wr.heap.size+1) 0) 1 rfl HNW.o HLN.o HB1.o.size ?_;intro v9 w9 r1 r2;have R1:=ae r1;have R2:=ae (show LT w w9 from eR HO1.o HB1.o r2 (NL _));obtain⟨va9,vc9,hv9⟩:=cQ r1;subst hv9;clear r1 r2);go_roundw;case rel=>exact⟨m+1,by omega,by go_num,by rw[HNX.o];have h:=R1.o;rwa [show (dn++[oE n t]).length=dn.length+1 from by simp] at h⊢,R2.o⟩
    case measure=>simp[intOf];omega
   .have HNX:OE (di n (fs.take (m+1))=dn):=by show _=_;rw[HTK.o,DT,HDN.o,Oc hpl];simp
    have HO1:=ae (HO.o.alloc (.cells #[OW t.k,OX t.a,OX t.b,OX t.d,OX t.z,OY t.pl,OY t.c] 88));go_wp2;go_roundw;case rel=>exact⟨m+1,by omega,by go_num,by rw[HNX.o];exact HO1.o,HB.o.alloc HB.o.size _⟩
    case measure=>simp[intOf];omega
  .have e:m=fs.length:=by omega
   subst e;have HO2:=ae HO.o;rw[N5 (NL _)] at HO2;clear HO;generalize hg:di n fs=g at HO2;have HG:=ae hg;clear hg;obtain⟨ga,gc,hz⟩:=cQ HO2.o;subst hz;go_wp2;go_ret;exact⟨_,rfl,by rw[HG.o];exact HO2.o,HB.o⟩
end Go.Proofs.YtjkalahhpobefaaGreat
