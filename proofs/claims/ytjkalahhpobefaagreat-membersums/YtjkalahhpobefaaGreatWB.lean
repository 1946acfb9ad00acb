/- VSum, VTimes of the. -/
import Derived.Test.YtjkalahhpobefaaGreatPL
import Derived.Test.YtjkalahhpobefaaGreatP
set_option maxHeartbeats 1000000
set_option maxRecDepth 100000
namespace Go.Proofs.YtjkalahhpobefaaGreat
set_option linter.all false
open Go.Proofs.Tryz Go.RowKit
variable{fss:Lt}{c:Nat}{a:Option Addr}{w:PJ}
theorem jD(h:Vl w (.slice a fss.length c) fss)(k:Nat)(hk:k<fss.length):∃b off fa fc,a=some (PN b off)/\b<w.heap.size/\w.cell? (PN b (off+k))=some (.slice fa (fss.getD k []).length fc)/\Pl w (.slice fa (fss.getD k []).length fc) (fss.getD k []):=by obtain⟨a2,c2,e,h1⟩:=h;obtain⟨b,off,rfl,hlt,hat⟩:=h1 (by omega);simp only[OQ,true_and] at e;obtain⟨rfl,rfl⟩:=e;obtain⟨v,hc,hp⟩:=hat k hk;have hp2:=hp;obtain⟨fa,fc,rfl,_,_⟩:=hp;exact⟨b,off,fa,fc,rfl,hlt,hc,hp2⟩
theorem pB{α:Type}(l:List α)(x:α):(l++[x]).length=l.length+1:=by simp
theorem sI{α:Type}(l:List (List α))(k:Nat)(h:k<l.length):l.take (k+1)=l.take k++[l.getD k []]:=by rw[OX h];simp[OH,h]
theorem ww{α:Type}(F:List α->List α)(l:List (List α))(k:Nat)(h:k<l.length):(l.map F).getD k []=F (l.getD k []):=by simp[OH,h]
def eh(p o:Int)(fss gss:Lt):Lt:=List.zipWith (λf g=>aR p o (f++g)) fss gss
variable{gss:Lt}{p o:Int}
theorem wu(h:fss.length=gss.length):(eh p o fss gss).length=fss.length:=by unfold eh;rw[List.length_zipWith];omega
theorem wi{k:Nat}(h:fss.length=gss.length)(hk:k<fss.length):(eh p o fss gss).getD k []=aR p o (fss.getD k []++gss.getD k []):=by unfold eh;simp[OH,List.getElem?_zipWith,hk,show k<gss.length by omega]
def jB(p o:Int)(f:LT)(gss:Lt):Lt:=gss.map λg=>aR p o (aH p f g)
theorem Cr(w:PJ)(x:PK)(T:TypeId):∀j u,[x][j]?=some u->(w.alloc (.cells #[x] T)).cell? (((PN w.heap.size 0):Addr).add j)=some u:=by
 intro j u hj;rcases j with _|j
 .simp at hj;subst hj;simp[Addr.add,go_sem]
 .simp at hj
def tx(w:PJ)(b off:Nat)(vss:PA):Prop:=
 ∀i,i<vss.length->∃v,w.cell? (PN b (off+i))=some v/\Vl w v (vss.getD i [])
variable{vss:PA}{w':PJ}
theorem tx.below{b off:Nat}(h:tx w b off vss)(hlt:b<w.heap.size)(hb:Io w w'):tx w' b off vss:=by intro i hi;obtain⟨v,hc,hs⟩:=h i hi;exact⟨v,by rw[hb.cell (p:=(PN b (off+i))) hlt];exact hc,hs.below hb⟩
def Wl(w:PJ)(v:PK)(vss:PA):Prop:=
 ∃a cap,v=.slice a vss.length cap/\(0<vss.length->∃b off,a=some (PN b off)/\b<w.heap.size/\tx w b off vss)
theorem Wl.below{v:PK}(h:Wl w v vss)(hb:Io w w'):Wl w' v vss:=by obtain⟨a,cap,rfl,h⟩:=h;refine⟨a,cap,rfl,λhp=>?_⟩;obtain⟨b,off,rfl,hlt,hc⟩:=h hp;exact⟨b,off,rfl,Oz hlt hb.size,hc.below hlt hb⟩
theorem lH(h:Wl w (.slice a vss.length c) vss)(k:Nat)(hk:k<vss.length):∃b off va vc,a=some (PN b off)/\b<w.heap.size/\w.cell? (PN b (off+k))=some (.slice va (vss.getD k []).length vc)/\Vl w (.slice va (vss.getD k []).length vc) (vss.getD k []):=by obtain⟨a2,c2,e,h1⟩:=h;obtain⟨b,off,rfl,hlt,hat⟩:=h1 (by omega);simp only[OQ,true_and] at e;obtain⟨rfl,rfl⟩:=e;obtain⟨v,hc,hp⟩:=hat k hk;have hp2:=hp;obtain⟨fa,fc,rfl,_⟩:=hp;exact⟨b,off,fa,fc,rfl,hlt,hc,hp2⟩
def fX{α:Type}(F:List α->Int):List (List α)->Int
 |[]=>0
 |a::r=>if F a=0 then fX F r else F a
theorem Ch{α:Type}(F:List α->Int)(l:List (List α))(k:Nat)(h:k<l.length):fX F (l.drop k)=if F (l.getD k [])=0 then fX F (l.drop (k+1)) else F (l.getD k []):=by rw[Pd h];simp[fX,OH,h]
theorem sC{α:Type}{F:List α->Int}:∀{l:List (List α)},fX F l=0->∀a∈l,F a=0
 |[],_,a,ha=>by simp at ha
 |b::r,h,a,ha=>by
  unfold fX at h;by_cases hb:F b=0
  .rw[OW hb] at h;rcases OY.1 ha with rfl|ha
   .exact hb
   .exact sC h a ha
  .rw[OV hb] at h;exact absurd h hb
def j9(p n o rank:Int)(fss:Lt):Int:=if (fss.length:Int)≠rank then 1 else dC p n o fss
def mH(p n o rank:Int)(vss:PA):Int:=if eW rank 1 40=false then 3 else if 60<vss.length then 2 else fX (j9 p n o rank) vss
def cR(p n o v rank:Int)(vss:PA):Int:=if bE p n o v≠0 then bE p n o v else mH p n o rank vss
end Go.Proofs.YtjkalahhpobefaaGreat
namespace Go.Proofs.YtjkalahhpobefaaGreat
open Go.Proofs.Tryz
set_option linter.all false
open Go.ChangeShapes Go.WideShapes Go.ChangeAt Go.RowKit Go.Joins Go.Deep
theorem Tryz.cellsPolyX:prog.cellsOf 40=1:=by kernel_rfl
theorem Tryz.cellsVecX:prog.cellsOf 32=1:=by kernel_rfl
variable{W:PJ}
theorem CZ{H:Type}{enc:TypeId×PK->H}{fuel:Nat}{t:TypeId}{v:PK}{x:DataW H×List MemPlace}(ht:prog.underlying t=some (.slice 40))(h:DataW.trod enc prog W 0 (λ_=>true) true fuel t [v]=some x):∃fs:Lt,Vl W v fs:=by
 rcases open_slice1 ht Tryz.cellsPolyX h with ⟨hcs,_⟩|⟨a,len,cap,m,n,V,D,P,hcs,_,hl,hm,hmm,_,hx⟩
 .simp at hcs;subst hcs;exact⟨[],none,0,rfl,λh=>absurd h (by simp)⟩
 .simp at hcs;subst hcs;simp at hmm;subst hmm;obtain⟨T,hT⟩:=choose_lt (α:=LT) (n:=m) (p:=λi f=>Pl W (V i) f) (λi hi=>JN (hx i hi).2);refine⟨(List.range len).map T,some a,m,by simp,λhp=>?_⟩;simp at hp;obtain⟨b,off,rfl⟩:=re (by simpa using (hx 0 (by omega)).1);refine⟨b,off,rfl,nv (hx 0 (by omega)).1,λi hi=>?_⟩;simp at hi;have hg:((List.range len).map T).getD i []=T i:=by simp[OH,hi]
  rw[hg];exact⟨V i,nw (hx i (by omega)).1,hT i (by omega)⟩
theorem BN{H:Type}{enc:TypeId×PK->H}{t:TypeId}{a:Option Addr}{len cap:Nat}{d:DataW H}{p:List MemPlace}(ht:prog.underlying t=some (.slice 40))(h:DataW.Trod enc prog W 0 (λ_=>true) true t (.slice a len cap) d p):∃fs:Lt,Vl W (.slice a len cap) fs:=by obtain⟨fuel,hf⟩:=h;exact CZ ht (by simpa [Value.cells] using hf)
end Go.Proofs.YtjkalahhpobefaaGreat
namespace Go.Proofs.YtjkalahhpobefaaGreat
set_option linter.all false
open Go.Proofs.Tryz Go.RowKit
def ir(fss:Lt):Bool:=!eW (fss.length:Int) 1 40
def fP(m:Nat)(fss:Lt):Bool:=decide (fss.length≠m)
def er(p n o v:Int)(vss:PA):Int:=
 if bE p n o v≠0 then bE p n o v else if vss.any ir then 3 else if vss.any (fP (vss.getD 0 []).length) then 1 else fX (dC p n o) vss
variable{m:Nat}{fss:Lt}
theorem Kb(h:((fss.length:Int) !=(m:Int))=false):fP m fss=false:=by
 have h1:(fss.length:Int)=m:=by simpa using h
 unfold fP;exact Ox (by omega)
theorem Kc(h:((fss.length:Int) !=(m:Int))=true):fP m fss=true:=by
 have h1:¬(fss.length:Int)=m:=by simpa using h
 unfold fP;exact Oy (by omega)
theorem Nk{α:Type}(l:List (List α))(k:Nat)(h:k<l.length):l.take (k+1)=l.take k++[l.getD k []]:=by rw[OX h];simp[OH,h]
theorem Ce{α:Type}(f:List α->Bool)(l:List (List α))(k:Nat)(h:k<l.length)(h0:(l.take k).any f=false)(h1:f (l.getD k [])=false):(l.take (k+1)).any f=false:=by rw[Nk _ _ h,List.any_append,h0];simpa using h1
theorem mB{α:Type}(l:List (List α))(k:Nat)(h:k<l.length):l.getD k []∈l:=by rw[OH,OI h];simp
theorem Cf{α:Type}(f:List α->Bool)(l:List (List α))(k:Nat)(h:k<l.length)(h1:f (l.getD k [])=true):l.any f=true:=by rw[List.any_eq_true];exact⟨_,mB l k h,h1⟩
theorem Kg{vss:PA}(h:vss.any ir=false){f:Lt}(hf:f∈vss):f.length<=1200000000000:=by have h1:=List.any_eq_false.1 h f hf;simp[ir,eW] at h1;omega
def je(E:Int)(wss:Lt):Int:=if E≠0 then E else if wss.any bF then 2 else 0
def kH(E:Int)(wss:Lt):Lt:=if je E wss=0 then wss else []
theorem Vl.empty(w:PJ):Vl w (.slice none 0 0) []:=⟨none,0,rfl,λh=>absurd h (by simp)⟩
theorem KE(x y:PK)(xs:PI)(w:PJ)(hm:xs.length<=1000000)(hx:Sl w x xs)(hy:Sl w y xs):Calls prog 166 #[x,y] w λe w'=>e=.returned (.bool true)/\Io w w':=by
 obtain⟨xa,xc,rfl,hxc⟩:=hx;obtain⟨ya,yc,rfl,hyc⟩:=hy;have HX:=ae hxc;have HY:=ae hyc;clear hxc hyc;go_enter func166,ntmps166;go_wp2;go_loopw [13] (λi wr=>∃k:Nat,k<=xs.length/\i=PO k/\Io w wr) (λi _=>xs.length-(intOf i).toNat);case atStart=>exact⟨0,OB _,rfl,Ov _ _⟩
 case round=>
  obtain⟨k,hk,rfl,hbr⟩:=hrel;have HBR:=ae hbr;clear hbr;by_cases hk2:k<xs.length
  .obtain⟨b,off,rfl,hlt,hat⟩:=HX.o (by omega);obtain⟨b2,off2,rfl,hlt2,hat2⟩:=HY.o (by omega);have c0:=af (hat k hk2) HBR.o;have d0:=af (hat2 k hk2) HBR.o;generalize xs.getD k 0=z at c0 d0;have hkI:(k:Int)<(xs.length:Int):=by omega
   clear hat hat2;go_wp2;go_region;all_goals
    go_wp2;go_roundw;case rel=>exact⟨k+1,by omega,by go_num,by first|exact HBR.o.drew|exact HBR.o⟩
    case measure=>simp[intOf];omega
  .have e:k=xs.length:=by omega
   subst e;go_wp2;go_ret;exact⟨rfl,HBR.o⟩
theorem KF(c:Int)(x y:PK)(xs:PI)(w:PJ)(hm:xs.length<=1000000)(hx:Sl w x xs)(hy:Sl w y xs):Calls prog 165 #[.agg #[PO c,x],.agg #[PO c,y]] w λe w'=>e=.returned (.bool true)/\Io w w':=by have HE:Po (∀W,Io w W->Calls prog 166 #[x,y] W λe w'=>e=.returned (.bool true)/\Io W w'):=λW hb=>KE x y xs W hm (hx.below hb) (hy.below hb);obtain⟨xa,xc,rfl,_⟩:=hx;obtain⟨ya,yc,rfl,_⟩:=hy;have HB2:Po (Io w ((w.alloc (.cells #[PO c,.slice xa xs.length xc] 47)).alloc (.cells #[PO c,.slice ya xs.length yc] 47))):=cY;go_enter func165,ntmps165;go_wp2_with (go_at_call 166;refine(HE.o _ HB2.o).mono ?_;rintro e w9 ⟨rfl,hb9⟩;have HB9:=ae (In HB2.o hb9);clear hb9);go_ret;exact⟨rfl,HB9.o⟩
theorem KG(x y:PK)(fs:LT)(w:PJ)(hm:fs.length<=1000000)(hl:∀t∈fs,t.2.length<=3)(hx:Pl w x fs)(hy:Pl w y fs):Calls prog 164 #[x,y,.func (.func 165) #[] #[]] w λe w'=>e=.returned (.bool true)/\Io w w':=by
 obtain⟨xa,xc,rfl,_,hxc⟩:=hx;obtain⟨ya,yc,rfl,_,hyc⟩:=hy;have HX:=ae hxc;have HY:=ae hyc;have HL:=ae hl;clear hxc hyc hl;go_enter func164,ntmps164;go_wp2_with fail;go_loopw [17] (λi wr=>∃k:Nat,k<=fs.length/\i=PO k/\Io w wr) (λi _=>fs.length-(intOf i).toNat);case atStart=>exact⟨0,OB _,rfl,Ov _ _⟩
 case round=>
  obtain⟨k,hk,rfl,hbr⟩:=hrel;have HBR:=ae hbr;clear hbr;by_cases hk2:k<fs.length
  .obtain⟨b,off,rfl,hlt,hat⟩:=HX.o (by omega);obtain⟨b2,off2,rfl,hlt2,hat2⟩:=HY.o (by omega);obtain⟨c0,ev,c1,hse⟩:=hat k hk2;obtain⟨d0,ev2,d1,hse2⟩:=hat2 k hk2;have HL3:=ae (HL.o _ (ow fs k hk2));generalize fs.getD k bV=t at c0 hse d0 hse2 HL3;obtain⟨tc,te⟩:=t;simp only at c0 d0 hse hse2;have HT:Po (∀W,Io wr W->Calls prog 165 #[.agg #[PO tc,ev],.agg #[PO tc,ev2]] W λe w'=>e=.returned (.bool true)/\Io W w'):=λW hb=>KF tc ev ev2 te W (by have:=HL3.o;simp only at this;omega) (hse.below (In HBR.o hb)) (hse2.below (In HBR.o hb));obtain⟨ea,ec,rfl,_⟩:=hse;obtain⟨ea2,ec2,rfl,_⟩:=hse2;have e0:=af c0 HBR.o;have e1:=af c1 HBR.o;have f0:=af d0 HBR.o;have f1:=af d1 HBR.o;have HB2:Po (Io wr ((wr.alloc (.cells #[PO tc,.slice ea te.length ec] 47)).alloc (.cells #[PO tc,.slice ea2 te.length ec2] 47))):=cY;have g0:(wr.alloc (.cells #[PO tc,.slice ea te.length ec] 47)).cell? ⟨b2,off2+k*2,none⟩=some (PO tc):=af f0 ai;have g1:(wr.alloc (.cells #[PO tc,.slice ea te.length ec] 47)).cell? ⟨b2,off2+k*2+1,none⟩=some (.slice ea2 te.length ec2):=af f1 ai;have hkI:(k:Int)<(fs.length:Int):=by omega
   clear hat hat2 c0 c1 d0 d1 f0 f1;go_wp2_with (go_at_call 165;refine(HT.o _ HB2.o).mono ?_;rintro e w9 ⟨rfl,hb9⟩;have HB9:=ae (In HB2.o hb9);clear hb9);go_roundw;case rel=>exact⟨k+1,by omega,by go_num,In HBR.o HB9.o⟩
   case measure=>simp[intOf];omega
  .have e:k=fs.length:=by omega
   subst e;go_wp2;go_ret;exact⟨rfl,HBR.o⟩
theorem KH(x y:PK)(fs:LT)(w:PJ)(hm:fs.length<=1000000)(hl:∀t∈fs,t.2.length<=3)(hx:Pl w x fs)(hy:Pl w y fs):Calls prog 137 #[x,y] w λe w'=>e=.returned (.bool true)/\Io w w':=by have HE:=ae (KG x y fs w hm hl hx hy);obtain⟨xa,xc,rfl,_⟩:=hx;obtain⟨ya,yc,rfl,_⟩:=hy;go_enter func137,ntmps137;go_wp2_with (go_at_call 164;refine HE.o.mono ?_;rintro e w9 ⟨rfl,hb9⟩;have HB9:=ae hb9;clear hb9);go_ret;exact⟨rfl,HB9.o⟩
theorem Hl(x y:PK)(v:Lt)(w:PJ)(hm:v.length<=1000000)(hl:∀f∈v,f.length<=1000000/\∀t∈f,t.2.length<=3)(hx:Vl w x v)(hy:Vl w y v):Calls prog 136 #[x,y,.func (.func 137) #[] #[]] w λe w'=>e=.returned (.bool true)/\Io w w':=by
 have HX:=ae hx;have HY:=ae hy;have HL:=ae hl;obtain⟨xa,xc,rfl,_⟩:=hx;obtain⟨ya,yc,rfl,_⟩:=hy;clear hl;go_enter func136,ntmps136;go_wp2_with fail;go_loopw [17] (λi wr=>∃k:Nat,k<=v.length/\i=PO k/\Io w wr) (λi _=>v.length-(intOf i).toNat);case atStart=>exact⟨0,OB _,rfl,Ov _ _⟩
 case round=>
  obtain⟨k,hk,rfl,hbr⟩:=hrel;have HBR:=ae hbr;clear hbr;by_cases hk2:k<v.length
  .obtain⟨b,off,fa,fc,rfl,hlt,c0,hpf⟩:=jD (HX.o.below HBR.o) k hk2;obtain⟨b2,off2,ga,gc,rfl,hlt2,d0,hpg⟩:=jD (HY.o.below HBR.o) k hk2;have HL3:=ae (HL.o _ (iq v k hk2));generalize v.getD k []=f at c0 hpf d0 hpg HL3;have HE:=ae (KH _ _ f wr HL3.o.1 HL3.o.2 hpf hpg);have hkI:(k:Int)<(v.length:Int):=by omega
   clear hpf hpg;go_wp2_with (go_at_call 137;refine HE.o.mono ?_;rintro e w9 ⟨rfl,hb9⟩;have HB9:=ae hb9;clear hb9);go_roundw;case rel=>exact⟨k+1,by omega,by go_num,In HBR.o HB9.o⟩
   case measure=>simp[intOf];omega
  .have e:k=v.length:=by omega
   subst e;go_wp2;go_ret;exact⟨rfl,HBR.o⟩
end Go.Proofs.YtjkalahhpobefaaGreat
