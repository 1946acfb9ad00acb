/- IsBasis, given what Is tells. -/
import Derived.Test.YtglijodcbdcngaaGreatWE
import Derived.Test.YtglijodcbdcngaaGreatPP
set_option maxHeartbeats 1000000
set_option maxRecDepth 100000
namespace Go.Proofs.YtglijodcbdcngaaGreat
set_option linter.unusedSimpArgs false
set_option linter.unusedVariables false
open Go.Proofs.Tryz Go.RowKit
theorem fL(w:World)(p n o v:Int)(T:TypeId):(w.alloc (.cells #[.int .i64 p,.int .i64 n,.int .i64 o,.int .i64 v] T)).cell? ⟨w.heap.size,0,none⟩=some (.int .i64 p)/\(w.alloc (.cells #[.int .i64 p,.int .i64 n,.int .i64 o,.int .i64 v] T)).cell? ⟨w.heap.size,1,none⟩=some (.int .i64 n)/\(w.alloc (.cells #[.int .i64 p,.int .i64 n,.int .i64 o,.int .i64 v] T)).cell? ⟨w.heap.size,2,none⟩=some (.int .i64 o)/\(w.alloc (.cells #[.int .i64 p,.int .i64 n,.int .i64 o,.int .i64 v] T)).cell? ⟨w.heap.size,3,none⟩=some (.int .i64 v):=by simp[go_sem]
theorem Ch(p n o v rank:Int)(lv:Value)(vss:List (List (List Tm)))(w:World)(hs:Wl w lv vss)(he:bQ p n o v rank vss≠0):Calls prog 6 #[az p n o v,.int .i64 rank,lv] w λe w'=>e=.returned (.tuple #[.bool false,.int .i64 (bQ p n o v rank vss)])/\Below w.heap.size w w':=by
 obtain⟨w1,hw1⟩:∃w1,w1=w.alloc (.cells #[.int .i64 p,.int .i64 n,.int .i64 o,.int .i64 v] 23):=⟨_,rfl⟩;have HB1:Ic (Below w.heap.size w w1):=by rw[hw1];exact af
 obtain⟨c0,c1,c2,c3⟩:w1.cell? ⟨w.heap.size,0,none⟩=some (.int .i64 p)/\w1.cell? ⟨w.heap.size,1,none⟩=some (.int .i64 n)/\w1.cell? ⟨w.heap.size,2,none⟩=some (.int .i64 o)/\w1.cell? ⟨w.heap.size,3,none⟩=some (.int .i64 v):=by rw[hw1];exact fL w p n o v _
 have HC:=aa (jh p n o v rank lv vss w1 (hs.below HB1.o));obtain⟨xa,xc,rfl,_⟩:=hs;have hn:(bQ p n o v rank vss==0)=false:=by simpa using he
 generalize bQ p n o v rank vss=er at HC he hn⊢;unfold az at HC;unfold az;go_enter func6,ntmps6;go_upto_region 1 with fail;rw[<-hw1];clear hw1;go_wp2_with (go_at_call 19;refine HC.o.mono ?_;rintro e w9 ⟨rfl,hb9⟩;have HB9:=aa hb9;clear hb9);go_ret2;exact⟨rfl,HB1.o.trans (HB9.o.mono HB1.o.size)⟩
theorem Ci(p n o v rank:Int)(lv:Value)(vss:List (List (List Tm)))(w:World)(hs:Wl w lv vss)(he:bQ p n o v rank vss=0)(hm:30<vss.length):Calls prog 6 #[az p n o v,.int .i64 rank,lv] w λe w'=>e=.returned (.tuple #[.bool false,.int .i64 2])/\Below w.heap.size w w':=by
 obtain⟨w1,hw1⟩:∃w1,w1=w.alloc (.cells #[.int .i64 p,.int .i64 n,.int .i64 o,.int .i64 v] 23):=⟨_,rfl⟩;have HB1:Ic (Below w.heap.size w w1):=by rw[hw1];exact af
 obtain⟨c0,c1,c2,c3⟩:w1.cell? ⟨w.heap.size,0,none⟩=some (.int .i64 p)/\w1.cell? ⟨w.heap.size,1,none⟩=some (.int .i64 n)/\w1.cell? ⟨w.heap.size,2,none⟩=some (.int .i64 o)/\w1.cell? ⟨w.heap.size,3,none⟩=some (.int .i64 v):=by rw[hw1];exact fL w p n o v _
 have HC:=aa (jh p n o v rank lv vss w1 (hs.below HB1.o));rw[he] at HC;have HS:=aa (hs.below HB1.o);obtain⟨xa,xc,rfl,_⟩:=hs;have hmI:(30:Int)<(vss.length:Int):=by omega
 clear HS he;unfold az at HC;unfold az;go_enter func6,ntmps6;go_upto_region 1 with fail;rw[<-hw1];clear hw1;go_wp2_with (go_at_call 19;refine HC.o.mono ?_;rintro e w9 ⟨rfl,hb9⟩;have HB9:=aa hb9;clear hb9);go_ret2;exact⟨rfl,HB1.o.trans (HB9.o.mono HB1.o.size)⟩
theorem Cj(p n o v rank:Int)(lv:Value)(vss:List (List (List Tm)))(w:World)(hs:Wl w lv vss)(he:bQ p n o v rank vss=0)(hm:vss.length<=30)(hok:∀f∈vss,f.length<=1000000/\∀g∈f,lA g)(hh:vss.any dX=true):Calls prog 6 #[az p n o v,.int .i64 rank,lv] w λe w'=>e=.returned (.tuple #[.bool false,.int .i64 2])/\Below w.heap.size w w':=by
 obtain⟨w1,hw1⟩:∃w1,w1=w.alloc (.cells #[.int .i64 p,.int .i64 n,.int .i64 o,.int .i64 v] 23):=⟨_,rfl⟩;have HB1:Ic (Below w.heap.size w w1):=by rw[hw1];exact af
 obtain⟨c0,c1,c2,c3⟩:w1.cell? ⟨w.heap.size,0,none⟩=some (.int .i64 p)/\w1.cell? ⟨w.heap.size,1,none⟩=some (.int .i64 n)/\w1.cell? ⟨w.heap.size,2,none⟩=some (.int .i64 o)/\w1.cell? ⟨w.heap.size,3,none⟩=some (.int .i64 v):=by rw[hw1];exact fL w p n o v _
 have HC:=aa (jh p n o v rank lv vss w1 (hs.below HB1.o));rw[he] at HC;have HS:=aa (hs.below HB1.o);have HA:Ic (∀W,Below w1.heap.size w1 W->Calls prog 20 #[lv,.func (.func 21) #[] #[]] W λe w'=>e=.returned (.bool true)/\Below W.heap.size W w'):=λW hb=>by have:=vD lv vss W (HS.o.below hb) (by omega) hok;rw[hh] at this;exact this
 obtain⟨xa,xc,rfl,_⟩:=hs;have hmI:¬(30:Int)<(vss.length:Int):=by omega
 have hmD:decide ((30:Int)<(vss.length:Int))=false:=Hh hmI;clear HS he hok hh;unfold az at HC;unfold az;go_enter func6,ntmps6;go_upto_region 1 with fail;rw[<-hw1];clear hw1;go_wp2_with (first|(go_at_call 19;refine HC.o.mono ?_;rintro e w9 ⟨rfl,hb9⟩;have HB9:=aa hb9;clear hb9)|(go_at_call 20;refine(HA.o _ HB9.o).mono ?_;rintro e w8 ⟨rfl,hb8⟩;have HB8:=aa (HB9.o.trans (hb8.mono HB9.o.size));clear hb8));go_ret2;exact⟨rfl,HB1.o.trans (HB8.o.mono HB1.o.size)⟩
theorem B9(p n o v rank:Int)(lv:Value)(vss:List (List (List Tm)))(w:World)(Q:Bool->Prop)(hs:Wl w lv vss)(he:bQ p n o v rank vss=0)(hm:vss.length<=30)(hok:∀f∈vss,f.length<=1000000/\∀g∈f,lA g)(hh:vss.any dX=false)(hI:∀W,Below w.heap.size w W->Calls prog 23 #[az p n o v,.int .i64 rank,lv] W λe w'=>∃b,e=.returned (.bool b)/\Q b/\Below W.heap.size W w'):Calls prog 6 #[az p n o v,.int .i64 rank,lv] w λe w'=>∃b,e=.returned (.tuple #[.bool b,.int .i64 0])/\Q b/\Below w.heap.size w w':=by
 obtain⟨w1,hw1⟩:∃w1,w1=w.alloc (.cells #[.int .i64 p,.int .i64 n,.int .i64 o,.int .i64 v] 23):=⟨_,rfl⟩;have HB1:Ic (Below w.heap.size w w1):=by rw[hw1];exact af
 obtain⟨c0,c1,c2,c3⟩:w1.cell? ⟨w.heap.size,0,none⟩=some (.int .i64 p)/\w1.cell? ⟨w.heap.size,1,none⟩=some (.int .i64 n)/\w1.cell? ⟨w.heap.size,2,none⟩=some (.int .i64 o)/\w1.cell? ⟨w.heap.size,3,none⟩=some (.int .i64 v):=by rw[hw1];exact fL w p n o v _
 have HC:=aa (jh p n o v rank lv vss w1 (hs.below HB1.o));rw[he] at HC;have HS:=aa (hs.below HB1.o);have HA:Ic (∀W,Below w1.heap.size w1 W->Calls prog 20 #[lv,.func (.func 21) #[] #[]] W λe w'=>e=.returned (.bool false)/\Below W.heap.size W w'):=λW hb=>by have:=vD lv vss W (HS.o.below hb) (by omega) hok;rw[hh] at this;exact this
 have HI:Ic (∀W,Below w1.heap.size w1 W->Calls prog 23 #[az p n o v,.int .i64 rank,lv] W λe w'=>∃b,e=.returned (.bool b)/\Q b/\Below W.heap.size W w'):=λW hb=>hI W (HB1.o.trans (hb.mono HB1.o.size));obtain⟨xa,xc,rfl,_⟩:=hs;have hmI:¬(30:Int)<(vss.length:Int):=by omega
 have hmD:decide ((30:Int)<(vss.length:Int))=false:=Hh hmI;unfold az at HI;clear HS he hok hh hI;unfold az at HC;unfold az;go_enter func6,ntmps6;go_upto_region 1 with fail;rw[<-hw1];clear hw1;go_upto_region 6 with (first|(go_at_call 19;refine HC.o.mono ?_;rintro e w9 ⟨rfl,hb9⟩;have HB9:=aa hb9;clear hb9)|(go_at_call 20;refine(HA.o _ HB9.o).mono ?_;rintro e w8 ⟨rfl,hb8⟩;have HB8:=aa (HB9.o.trans (hb8.mono HB9.o.size));have d0:=ae c0 HB8.o;have d1:=ae c1 HB8.o;have d2:=ae c2 HB8.o;have d3:=ae c3 HB8.o;clear hb8));go_wp2_with (go_at_call 23;refine(HI.o _ HB8.o).mono ?_;rintro e w7 ⟨b7,rfl,hq7,hb7⟩;have HB7:=aa (HB8.o.trans (hb7.mono HB8.o.size));have HQ7:=aa hq7;clear hb7 hq7);go_ret2;exact⟨b7,rfl,HQ7.o,HB1.o.trans (HB7.o.mono HB1.o.size)⟩
def vE(f:List Tm):Bool:=decide (3<jW f)
def uR(v:List (List Tm)):Bool:=v.any vE
def vF(f:List Tm):Prop:=lA f/\f.length<=6
theorem CC(v:Value)(f:List Tm)(w:World)(hv:Pl w v f)(hok:∀t∈f,0<t.2.length/\t.2.length<=3)(hb:∀t∈f,∀e∈t.2,0<=e/\e<=400)(hl:f.length<=6):Calls prog 76 #[v] w λe w'=>e=.returned (.bool (decide (3<jW f)))/\w'=w:=by
 have HD:=aa (vG v f w hv hok hb);have hl1:¬(6:Int)<(f.length:Int):=by omega
 have hl2:decide ((6:Int)<(f.length:Int))=false:=Hh hl1;obtain⟨xa,xc,rfl,_,_⟩:=hv;generalize jW f=d at HD⊢;clear hok hb;go_enter func76,ntmps76;go_wp2_with (go_at_call 22;refine HD.o.mono ?_;rintro e w9 ⟨rfl,rfl⟩);go_ret;exact⟨rfl,rfl⟩
theorem BL(v:Value)(vss:List (List (List Tm)))(w:World)(hv:Wl w v vss)(hn:vss.length<=1000000)(hok:∀f∈vss,f.length<=1000000/\∀g∈f,vF g):Calls prog 20 #[v,.func (.func 76) #[] #[]] w λe w'=>e=.returned (.bool (vss.any uR))/\Below w.heap.size w w':=
 vH _ (Or.inr rfl) vE vF (λu f W h1 h2=>CC u f W h1 h2.1.1 h2.1.2 h2.2) v vss w hv hn hok
end Go.Proofs.YtglijodcbdcngaaGreat
