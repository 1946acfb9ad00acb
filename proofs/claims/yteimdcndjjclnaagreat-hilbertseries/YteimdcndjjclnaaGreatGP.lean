/- A slice of vectors, through an iterator, into a slice of its own. -/
import Derived.Test.YteimdcndjjclnaaGreatGM
import Derived.RangeFuncNested
import Derived.RangeFuncBound
import Derived.Shelf.RegionOpen
import Derived.OwnWalkIn
import Derived.LoopNIn
import Derived.LoopIn
set_option maxHeartbeats 4000000
set_option maxRecDepth 100000
namespace Go.Proofs.YteimdcndjjclnaaGreat
set_option linter.all false
open Go.Proofs.Tryz Go.RowKit Go.Sort Go.Shelf
attribute [local go_sem] Oper.semAt_some
abbrev aU:Type:=Option Addr×Nat×Nat
def bW(x:aU):Value:=.slice x.1 x.2.1 x.2.2
def j9(n₀:Nat)(W:World)(sv:Value)(zs:List aU):Prop:=
 (sv=.slice none 0 0/\zs=[])\/∃b cap,sv=.slice (some ⟨b,0,none⟩) zs.length cap/\b<n₀/\∀j x,zs[j]?=some x->W.cell? ⟨b,j,none⟩=some (bW x)
theorem j9.below{n₀:Nat}{A B:World}(h:Below n₀ A B){sv:Value}{zs:List aU}:j9 n₀ A sv zs->j9 n₀ B sv zs
 | .inl e=>.inl e
 | .inr ⟨b,cap,e,hb,hc⟩=>.inr ⟨b,cap,e,hb,λj x hj=>(h.cell (p:=⟨b,j,none⟩) hb).trans (hc j x hj)⟩
theorem yC{zs:List aU}{k:Nat}(hk:k<zs.length):∃a n c,zs[k]?=some (a,n,c)/\zs.take (k+1)=zs.take k++[(a,n,c)]:=by obtain⟨x,hx⟩:∃x,zs[k]?=some x:=⟨_,Ls hk⟩;obtain⟨a,n,c⟩:=x;exact⟨a,n,c,hx,by rw[List.take_add_one,hx];rfl⟩
theorem EA(F:Fence)(n:Nat)(h7:F.fn 101)(hro:F.round=none)(hn:1<=n)(l Bs n₀ b cap:Nat)(zs:List aU)(hreach:zs.length<=1200000000000)(hb:b<n₀)(J Jx:List aU->World->Prop)(hY:∀pre x W,J pre W->pre.length<zs.length->YieldAt F (n-1) prog l #[bW x] W λe W'=>(e=.returned (.bool true)/\J (pre++[x]) W'/\Below n₀ W W')\/(e=.returned (.bool false)/\Jx (pre++[x]) W'))(W:World)(hBs:W.cell? ⟨Bs,0,none⟩=some (.slice (some ⟨b,0,none⟩) zs.length cap))(hc:∀j x,zs[j]?=some x->W.cell? ⟨b,j,none⟩=some (bW x))(h0:J [] W):CallsIn F n prog 101 #[.func (.yield l) #[] #[],.pointer (some ⟨Bs,0,none⟩)] W λe W'=>(∃v,e=.returned v)/\((∃ys,ys=zs/\J ys W')\/(∃pre,pre<+:zs/\Jx pre W')):=by
 refine callsIn_of_wp func101 rfl h7 ?_ hro;simp only[ntmps101,List.size_toArray,LN,List.length_nil,Nat.reduceAdd,Nat.reduceSub,Array.replicate_succ,Array.replicate_zero,List.push_toArray,List.append_toArray,List.nil_append,List.cons_append]
 gi_wp2
 gi_loopw [7] (λi wr=>∃k:Nat,k<=zs.length/\i=.int .i64 k/\J (zs.take k) wr/\Below n₀ W wr)
  (λi _=>zs.length-(intOf i).toNat)
 case atStart=>exact⟨0,Ll _,rfl,by simpa using h0,Lf _ _⟩
 case round=>
  obtain⟨k,hk,rfl,hJs,hnx⟩:=hrel;by_cases hlt:k<zs.length
  .obtain⟨ax,nx,cx,hz,htk⟩:=yC hlt;have hcx:wr.cell? ⟨b,k,none⟩=some (.slice ax nx cx):=(hnx.cell (p:=⟨b,k,none⟩) hb).trans (hc k _ hz);obtain⟨fn,tmps,assign,body,hy,hR⟩:=hY _ (ax,nx,cx) wr hJs (by rw[LU];omega);dsimp only[bW] at hy
   gi_wp2
   refine hR.mono ?_;rintro e W3 (⟨rfl,hJ3,hk3⟩|⟨rfl,hJx3⟩)
   .gi_wp2
    go_roundw;case rel=>exact⟨k+1,by omega,by simp,by rw[htk];exact hJ3,hnx.trans hk3⟩
    case measure=>simp[intOf];omega
   .gi_wp2
    refine Lm (Ln rfl _ _ _) rfl ?_;exact⟨⟨_,rfl⟩,.inr ⟨_,by rw[<-htk];exact List.take_prefix _ _,hJx3⟩⟩
  .obtain rfl:k=zs.length:=by omega
   gi_wp2
   go_end0;exact⟨⟨_,rfl⟩,.inl ⟨_,rfl,by rw[Lz (Lc _)] at hJs;exact hJs⟩⟩
theorem EB(F:Fence)(n:Nat)(h7:F.fn 101)(hro:F.round=none)(l Bs:Nat)(J:List aU->World->Prop)(W:World)(hBs:W.cell? ⟨Bs,0,none⟩=some (.slice none 0 0))(h0:J [] W):CallsIn F n prog 101 #[.func (.yield l) #[] #[],.pointer (some ⟨Bs,0,none⟩)] W λe W'=>(∃v,e=.returned v)/\J [] W':=by
 refine callsIn_of_wp func101 rfl h7 ?_ hro;simp only[ntmps101,List.size_toArray,LN,List.length_nil,Nat.reduceAdd,Nat.reduceSub,Array.replicate_succ,Array.replicate_zero,List.push_toArray,List.append_toArray,List.nil_append,List.cons_append]
 gi_wp2
 gi_loopw [7] (λi wr=>i=.int .i64 0/\J [] wr) (λ_ _=>0)
 case atStart=>exact⟨rfl,h0⟩
 case round=>
  obtain⟨rfl,hJs⟩:=hrel
  gi_wp2
  go_end0;exact⟨⟨_,rfl⟩,hJs⟩
theorem EC(F:Fence)(n:Nat)(h7:F.fn 101)(hro:F.round=none)(hn:1<=n)(Bs n₀:Nat)(sv:Value)(zs:List aU)(hreach:zs.length<=1200000000000)(w:World)(hBs:Bs<w.heap.size)(hn₀:n₀<=w.heap.size)(hc:w.cell? ⟨Bs,0,none⟩=some sv)(hI:j9 n₀ w sv zs):SeqStopsK F n prog 101 #[.pointer (some ⟨Bs,0,none⟩)] (λx:aU=>#[bW x]) (Below n₀) (λys=>ys=zs) (λpre=>pre<+:zs) zs.length w:=λl J Jx W hW _ _ hY h0=>by
 have hc':=(hW.cell (p:=⟨Bs,0,none⟩) hBs).trans hc;rcases hI.below (hW.mono hn₀) with ⟨rfl,rfl⟩|⟨b,cap,rfl,hb,hcs⟩
 .exact(EB F n h7 hro l Bs J W hc' h0).mono λe W' ⟨he,hj⟩=>⟨he,.inl ⟨_,rfl,hj⟩⟩
 .exact EA F n h7 hro hn l Bs n₀ b cap zs hreach hb J Jx hY W hc' hcs h0
theorem ED{F:Fence}{nF:Nat}{P:Program}{w:World}{ops:Array Oper}{rest:List Oper}{o:Oper}{a:Act}{Q:Exit->Act->World->Prop}(hgd:o.guard=none)(s x:Operand)(t:TypeId)(ho:o.op=.call {callee:=.builtin .append,args:=#[s,x],argTypes:=#[t,t]})(base:Nat)(e:TypeId)(i:TypeInfo)(ht:P.underlying t=some (.slice e))(hi:P.info? e=some i)(hz:i.zero=some (.slice none 0 0))(hsize:i.size=1)(hby:i.bytes=24)(v:Value)(n:Nat)(xs:List Value)(hs:a.eval s=v)(hown:w.ownsRow base e 1 v n xs)(hk:∀g,v.ownBlock=some g->cz w g)(ad:Addr)(c:Nat)(u:Value)(hu:∃a n c,u=.slice a n c)(hx:a.eval x=.slice (some ad) 1 c)(hnew:w.cell? ad=some u)(hn:n<=1200000000000)(hbase:base<=w.heap.size)(hK:∀v' w',w'.ownsRow base e 1 v' (n+1) (xs++[u])->w.grownBy w' v.ownBlock->(∀g,v'.ownBlock=some g->cz w' g)->wpListIn F nF P ops Q rest (a.put o.dst v') w'):wpListIn F nF P ops Q (o::rest) a w:=by
 refine wpListIn_plain hgd λK hK'=>?_;obtain⟨v',w',hr,h2,h3,h4⟩:=yr (P:=P) w base t o.type e i ht hi hz hsize hby v n xs hown hk ad c u hu (λj y hj=>by
  have hj0:j=0:=by apply Nat.eq_zero_of_not_pos;intro h;rw[Lu (by simp;omega)] at hj;simp at hj
  subst hj0;simp at hj;subst hj;exact hnew) hn hbase
 unfold Oper.wpIn;refine⟨by simp[Oper.about,ho,resolve,Target.leads,Sem.run_pure],?_⟩;rw[Oper.semAt_plain F _ _ (by rw[ho];intro c hc';cases hc')];simp[execOp,ho,resolve,invoke,builtin,hs,hx,hr,Result.andThen];exact hK' _ _ (hK v' w' h2 h3 h4)
theorem tp{A B:World}{g:Nat}(h:cz A g)(he:B.heap[g]?=A.heap[g]?):cz B g:=by intro j u hu;refine h j u ?_;rw[<-hu];simp only[World.cell?,he]
structure cG(B:Nat)(w:World)(v:Value)(zs:List aU):Prop where
 own:w.ownsRow B 92 1 v zs.length (zs.map bW)
 kind:∀g,v.ownBlock=some g->cz w g
theorem cG.same{B:Nat}{w w':World}{v:Value}{zs:List aU}{row:Option Nat}(h:cG B w v zs)(hg:w.grownBy w' row)(hn:v.ownBlock=none\/v.ownBlock≠row):cG B w' v zs:=by
 refine⟨h.own.kept hg hn,λg hb=>tp (h.kind g hb) (hg.block g (Lb h.own g hb).2 ?_)⟩;rcases hn with hn|hn
 .rw[hn] at hb;simp at hb
 .rw[<-hb];exact hn
theorem yD{W:World}{base:Nat}{e:TypeId}{size:Nat}{v:Value}{k:Nat}{xs:List Value}(h:W.ownsRow base e size v k xs){row:Option Nat}(hrow:∀r,row=some r->∃o:Obj,W.heap[r]?=some o/\o.isCells=false):v.ownBlock=none\/v.ownBlock≠row:=by
 rcases h.2 with ⟨rfl,_⟩|⟨g,cap,af,rfl,_,hgb,_⟩
 .exact .inl rfl
 .refine .inr λe'=>?_;obtain⟨o,ho,hw⟩:=hrow g (by simpa [Value.ownBlock] using e'.symm);rw[hgb] at ho;cases ho;cases hw
theorem EE(n₀ B:Nat)(t:TypeId):Go.Own (fun(s:List aU) W=>∃v,Boxed W B t v/\cG n₀ W v s):=by rintro s X Y row ⟨v,hv,hr⟩ hg hrow;refine⟨v,hv.kept hg (λe'=>?_),hr.same hg (yD hr.own hrow)⟩;obtain⟨o,ho,hc⟩:=hrow B e'.symm;rw[show X.heap[B]?=_ from hv] at ho;cases ho;cases hc
theorem EF(F:Fence)(n:Nat)(h11:F.fn 126)(h7:F.fn 101)(hro:F.round=none)(hn:3<=n)(Bs:Nat)(sv:Value)(zs:List aU)(hreach:zs.length<=1200000000000)(w:World)(hBs:Bs<w.heap.size)(hc:w.cell? ⟨Bs,0,none⟩=some sv)(hI:j9 w.heap.size w sv zs):CallsIn F n prog 126 #[.slice none 0 0,.func (.func 101) #[] #[.pointer (some ⟨Bs,0,none⟩)]] w λe w'=>∃v,e=.returned v/\cG w.heap.size w' v zs/\Below w.heap.size w w':=by
 obtain⟨i0,hi0,hz0,hz1,hz2⟩:=info_parts Tryz.infoFvL;have h1:1<=n:=by omega
 refine callsIn_of_wp_marks func126 rfl h11 ?_ hro;simp only[ntmps126,List.size_toArray,LN,List.length_nil,Nat.reduceAdd,Nat.reduceSub,Array.replicate_succ,Array.replicate_zero,List.push_toArray,List.append_toArray,List.nil_append,List.cons_append]
 gi_wp2
 have bS:=Boxed.new w 87 (.slice none 0 0);have hB0:Below w.heap.size w (w.alloc (.cells #[.slice none 0 0] 87)):=(Lf _ w).alloc (Lc _) _;refine wpIn_rangeFunc_ownG hro h1 (gf:=101) (lb:=#[.pointer (some ⟨Bs,0,none⟩)]) rfl h7 (enters_of func101 (by kernel_rfl) rfl)
  (EC F (n-1) h7 hro (by omega) Bs w.heap.size sv zs hreach _ (by simp;omega) (by simp) ((hB0.cell (p:=⟨Bs,0,none⟩) hBs).trans hc) (hI.below hB0)) belowK_t (belowK_b (by simp)) (Lf _ _) (λ_=>rfl)
  (λpre W=>(∃v,Boxed W w.heap.size 87 v/\cG w.heap.size W v pre)/\Below w.heap.size w W)
  (λ_ _ _=>False)
  (OwnFrom.and (Go.Own.from (EE _ _ _) _) (ownFrom_below (Lc _) (by simp)))
  (λ_ _ _ _ _ hs _ _=>hs)
  ⟨⟨_,bS,⟨World.ownsRow_nil _ _ _ _,λg hg=>by simp[Value.ownBlock] at hg⟩⟩,hB0⟩
  (λx=>{tmps:=#[.slice none 0 0,.func (.func 101) #[] #[.pointer (some ⟨Bs,0,none⟩)],.pointer (some ⟨w.heap.size,0,none⟩),undef,.slice none 0 0,bW x,.func (.func 101) #[] #[.pointer (some ⟨Bs,0,none⟩)],bW x,undef,undef,undef,undef,undef],defers:=[]}) ?assign ?body ?done ?stop
 case assign=>
  intro l x W K hK
  gi_wp2
  exact hK
 case body=>
  rintro l pre x W ⟨⟨v,hv,hrow⟩,hB⟩ hlt;have hvc:=hv.cell;have hle:w.heap.size<=w.heap.size:=Lc _;obtain⟨xa,xn,xc⟩:=x;dsimp only[bW];have hrow2:cG w.heap.size (W.alloc (.cells #[.slice xa xn xc] 92)) v pre:=hrow.same (World.grownBy_alloc W _ none) (by
   rcases hb:v.ownBlock with _|g
   .exact .inl rfl
   .exact .inr (by simp))
  gi_wp2_with (gi_at_builtin;refine ED rfl (.tmp 8) (.tmp 10) 87 rfl w.heap.size 92 i0 underlying87 hi0 hz0 hz1 hz2 v pre.length (pre.map bW) rfl hrow2.own hrow2.kind ⟨W.heap.size,0,none⟩ 1 (.slice xa xn xc) ⟨_,_,_,rfl⟩ rfl (by simp[go_sem]) (by omega) (by have:=hB.size;simp;omega) ?_;intro v' w1 hown' hgrow hk';obtain⟨g',cap',rfl⟩:=ownsRow_succ hown';obtain⟨hv1,hv2,hr2,hk2,hb2⟩:=hv.appended (by decide) hrow.own hB.size hle hown' hgrow;have hc1:=hv1.cell;have hf1:=hv1.frozen)
  have hne:=hv1.not_row (by decide) hown';refine⟨hk2.from _,hb2,⟨_,hv2,⟨by simpa [bW] using hr2,λg hg=>tp (hk' g hg) ((grownBy_setCell' _ _ _).block g (Lb hown' g hg).2 (by rw[<-hg];exact hne.symm))⟩⟩,hB.trans hb2⟩
 case done=>
  rintro D ys W hD rfl ⟨⟨v,hv,hrow⟩,hB⟩ hK;have hvc:=hv.cell
  gi_wp2
  refine⟨by simp,.inl ⟨_,_,rfl,run_takeDeferred hK,?_⟩⟩;exact⟨_,results_tmp rfl _ _ _,v,rfl,hrow.same (grownBy_putObj' _ _ _) (yD hrow.own λr e=>by cases e;exact⟨_,hK,rfl⟩),hB.trans (belowK_b (w:=w) (Lc _) W D _ _ (by simp at hD;omega) hK rfl rfl)⟩
 case stop=>rintro D c pre W _ _ h _;exact h.elim
theorem EG(F:Fence)(n:Nat)(h8:F.fn 99)(h11:F.fn 126)(h7:F.fn 101)(hro:F.round=none)(hn:4<=n)(Bs:Nat)(sv:Value)(zs:List aU)(hreach:zs.length<=1200000000000)(w:World)(hBs:Bs<w.heap.size)(hc:w.cell? ⟨Bs,0,none⟩=some sv)(hI:j9 w.heap.size w sv zs):CallsIn F n prog 99 #[.func (.func 101) #[] #[.pointer (some ⟨Bs,0,none⟩)]] w λe w'=>∃v,e=.returned v/\cG w.heap.size w' v zs/\Below w.heap.size w w':=by
 have h1:1<=n:=by omega
 refine callsIn_of_wp func99 rfl h8 ?_ hro;simp only[ntmps99,List.size_toArray,LN,List.length_nil,Nat.reduceAdd,Nat.reduceSub,Array.replicate_succ,Array.replicate_zero,List.push_toArray,List.append_toArray,List.nil_append,List.cons_append]
 gi_wp2_with (gi_at_call 126;refine(EF F (n-1) h11 h7 hro (by omega) Bs sv zs hreach w hBs hc hI).mono ?_;rintro e w' ⟨v,rfl,hrow,hb⟩)
 go_ret;exact⟨v,rfl,hrow,hb⟩
theorem EH(Bs:Nat)(sv:Value)(zs:List aU)(hreach:zs.length<=1200000000000)(w:World)(hBs:Bs<w.heap.size)(hc:w.cell? ⟨Bs,0,none⟩=some sv)(hI:j9 w.heap.size w sv zs):Calls prog 99 #[.func (.func 101) #[] #[.pointer (some ⟨Bs,0,none⟩)]] w λe w'=>∃v,e=.returned v/\cG w.heap.size w' v zs/\Below w.heap.size w w':=
 callsIn_wide.1 (EG Fence.wide 4 trivial trivial trivial rfl (Lc _) Bs sv zs hreach w hBs hc hI)
end Go.Proofs.YteimdcndjjclnaaGreat
namespace Go.Proofs.YteimdcndjjclnaaGreat
set_option linter.all false
open Go.Proofs.Tryz Go.RowKit Go.Sort
structure qf(R:Nat)(t:Ft):Prop where
 a:0<=t.a/\t.a<=30000
 b:0<=t.b/\t.b<=30000
 d:0<=t.d/\t.d<=30000
 z:0<=t.z/\t.z<=30000
 pl:0<=t.pl/\t.pl<R
def bK(dg:Nat->Int)(t:Ft):Int:=t.a+t.b+t.d+t.z+dg t.pl.toNat
theorem tt(mb R:Nat)(dv:Value)(dg:Nat->Int)(v:Value)(t:Ft)(ts:List Ft)(w:World)(h1:w.cell? ⟨mb,1,none⟩=some dv)(hdg:gR w dv R dg)(hv:Fv w v (t::ts))(hx:qf R t)(hR:R<=255)(hd:∀pl,pl<R->0<=dg pl/\dg pl<=100000):Calls prog 81 #[.pointer (some ⟨mb,0,none⟩),v] w λe w'=>e=.returned (.int .i64 (bK dg t))/\Below w.heap.size w w':=by
 obtain⟨b,off,cap,rfl,hcap,hblt,hft,_⟩:=hv.head;obtain⟨n,hn⟩:∃n:Nat,t.pl=n:=⟨t.pl.toNat,by have:=hx.pl;omega⟩;have hnR:n<R:=by have:=hx.pl;omega
 obtain⟨db,dof,dc,hdv,hdc⟩:=hdg;have hdn:=hdc n hnR;have hdb:=hd n hnR;subst hdv;have HQ:Ma (bK dg t=t.a+t.b+t.d+t.z+dg n):=by show _=_;unfold bK;rw[show t.pl.toNat=n by omega]
 have KC:Ma (∀P:cH w,P.w'.cell? ⟨b,off+1,none⟩=some (.int .u16 t.a)/\P.w'.cell? ⟨b,off+2,none⟩=some (.int .u16 t.b)/\P.w'.cell? ⟨b,off+3,none⟩=some (.int .u16 t.d)/\P.w'.cell? ⟨b,off+4,none⟩=some (.int .u16 t.z)/\P.w'.cell? ⟨b,off+5,none⟩=some (.int .u8 n)/\P.w'.cell? ⟨mb,1,none⟩=some (.slice (some ⟨db,dof,none⟩) R dc)/\P.w'.cell? ⟨db,dof+n,none⟩=some (.int .i64 (dg n))):=λP=>by obtain⟨c0,c1,c2,c3,c4,c5,c6⟩:=hft.keep P.h;rw[hn] at c5;exact⟨c1,c2,c3,c4,c5,ae h1 P.h,ae hdn P.h⟩
 have HDE:Ma (∀W,Calls prog 53 #[.agg #[.int .u16 t.a,.int .u16 t.b,.int .u16 t.d,.int .u16 t.z]] W λe w'=>e=.returned (.int .i64 (t.a+t.b+t.d+t.z))/\Below W.heap.size W w'):=λW=>by have:=hx.a;have:=hx.b;have:=hx.d;have:=hx.z;exact tu t.a t.b t.d t.z W ⟨by omega,by omega⟩ ⟨by omega,by omega⟩ ⟨by omega,by omega⟩ ⟨by omega,by omega⟩
 have hsb:0<=t.a+t.b+t.d+t.z/\t.a+t.b+t.d+t.z<=120000:=by have:=hx.a;have:=hx.b;have:=hx.d;have:=hx.z;omega
 rw[HQ.o];clear HQ hx hft hv h1 hdc hdn hd hn;generalize t.a+t.b+t.d+t.z=gs at HDE hsb;have hnI:(n:Int)<(R:Int):=by omega
 have hsw:IntKind.i64.wrap (gs+dg n)=gs+dg n:=by rw[IntKind.wrap_i64];omega
 have hne:Nonempty (cH w):=⟨⟨w,Lf _ _⟩⟩;have k1:=λP=>(KC.o P).1;have k2:=λP=>(KC.o P).2.1;have k3:=λP=>(KC.o P).2.2.1;have k4:=λP=>(KC.o P).2.2.2.1;have k5:=λP=>(KC.o P).2.2.2.2.1;have k6:=λP=>(KC.o P).2.2.2.2.2.1;have k7:=λP=>(KC.o P).2.2.2.2.2.2;go_enter func81,ntmps81;go_upto_region 1 with fail;refine fY (by kernel_rfl) (by kernel_rfl) ?_;repeat (go_big_quiet_step (first|(go_at_call 53;exact Calls.below_of (HDE.o _))))
 refine wpQuiet_nil ?_;intro w8 hw';obtain⟨⟨w9,hb9⟩,rfl⟩:=hw';have HB9:=ac hb9;clear hb9 hne k1 k2 k3 k4 k5 k6 k7;go_wp2;go_ret;exact⟨rfl,HB9.o⟩
theorem EI(cb mb R:Nat)(dv:Value)(dg:Nat->Int)(u v:Value)(s t:Ft)(ss ts:List Ft)(w:World)(h0:w.cell? ⟨cb,0,none⟩=some (.pointer (some ⟨mb,0,none⟩)))(h1:w.cell? ⟨mb,1,none⟩=some dv)(hdg:gR w dv R dg)(hu:Fv w u (s::ss))(hv:Fv w v (t::ts))(hy:qf R s)(hx:qf R t)(hR:R<=255)(hd:∀pl,pl<R->0<=dg pl/\dg pl<=100000):Calls prog 79 #[u,v,.pointer (some ⟨cb,0,none⟩)] w λe w'=>e=.returned (.int .i64 (aI (bK dg s) (bK dg t)))/\Below w.heap.size w w':=by
 have HU:Ma (∀P:cH w,Calls prog 81 #[.pointer (some ⟨mb,0,none⟩),u] P.w' λe w'=>e=.returned (.int .i64 (bK dg s))/\Below P.w'.heap.size P.w' w'):=λP=>tt mb R dv dg u s ss P.w' (ae h1 P.h) (hdg.below P.h) (hu.below P.h) hy hR hd;have HV:Ma (∀P:cH w,Calls prog 81 #[.pointer (some ⟨mb,0,none⟩),v] P.w' λe w'=>e=.returned (.int .i64 (bK dg t))/\Below P.w'.heap.size P.w' w'):=λP=>tt mb R dv dg v t ts P.w' (ae h1 P.h) (hdg.below P.h) (hv.below P.h) hx hR hd;have HC:Ma (∀W,Calls prog 80 #[.int .i64 (bK dg s),.int .i64 (bK dg t)] W λe w'=>e=.returned (.int .i64 (aI (bK dg s) (bK dg t)))/\Below W.heap.size W w'):=λW=>(jn _ _ W).mono λe w' ⟨h,h2⟩=>⟨h,by rw[h2];exact Lf _ _⟩;have k0:∀P:cH w,P.w'.cell? ⟨cb,0,none⟩=some (.pointer (some ⟨mb,0,none⟩)):=λP=>ae h0 P.h;obtain⟨ub,uo,uc,hu1,_⟩:=hu.head;obtain⟨vb,vo,vc,hv1,_⟩:=hv.head;subst hu1;subst hv1;clear hu hv h0 h1 hdg hx hy hd;generalize aI (bK dg s) (bK dg t)=r at HC⊢;generalize bK dg s=ds at HU HC;generalize bK dg t=dt at HV HC;have hne:Nonempty (cH w):=⟨⟨w,Lf _ _⟩⟩;go_enter func79,ntmps79;go_upto_region 1 with fail;refine fY (by kernel_rfl) (by kernel_rfl) ?_;repeat (go_big_quiet_step (first|(go_at_call 80;exact Calls.below_of (HC.o _))|(go_at_call_of 81 ub;exact Calls.below_of (HU.o _))|(go_at_call_of 81 vb;exact Calls.below_of (HV.o _))))
 refine wpQuiet_nil ?_;intro w8 hw';obtain⟨⟨w9,hb9⟩,rfl⟩:=hw';have HB9:=ac hb9;clear hb9 hne k0;go_wp2;go_ret;exact⟨rfl,HB9.o⟩
def cR(dg:aU->Int)(cs:List aU)(p:Nat):Int:=dg (cs.getD p (none,0,0))
structure iJ(dg:aU->Int)(cs:List aU)(i j:Nat):Prop where
 a:∀p q,p<q->q<=i->p≠j->q≠j->cR dg cs p<=cR dg cs q
 b:∀q,j<q->q<=i->cR dg cs j<=cR dg cs q
def kN(dg:aU->Int)(cs:List aU)(i:Nat):Prop:=∀p q,p<q->q<i->cR dg cs p<=cR dg cs q
theorem iJ.start{dg:aU->Int}{cs:List aU}{i:Nat}(h:kN dg cs i):iJ dg cs i i:=
 ⟨λp q hpq hq _ hn=>h p q hpq (by omega),λq h1 h2=>by omega⟩
theorem iJ.stop0{dg:aU->Int}{cs:List aU}{i:Nat}(h:iJ dg cs i 0):kN dg cs (i+1):=λp q hpq hq=>by
 by_cases hp:p=0
 .subst hp;exact h.b q hpq (by omega)
 .exact h.a p q hpq (by omega) hp (by omega)
theorem iJ.stop{dg:aU->Int}{cs:List aU}{i j:Nat}(h:iJ dg cs i (j+1))(hj:j+1<=i)(hle:cR dg cs j<=cR dg cs (j+1)):kN dg cs (i+1):=λp q hpq hq=>by
 by_cases hp:p=j+1
 .subst hp;exact h.b q hpq (by omega)
 .by_cases hq2:q=j+1
  .subst hq2;by_cases hpj:p=j
   .subst hpj;exact hle
   .exact Int.le_trans (h.a p j (by omega) (by omega) (by omega) (by omega)) hle
  .exact h.a p q hpq (by omega) hp hq2
theorem iJ.step{dg:aU->Int}{cs:List aU}{i j:Nat}(h:iJ dg cs i (j+1))(hj:j+1<=i)(hi:j+1<cs.length)(hle:cR dg cs (j+1)<=cR dg cs j):iJ dg ((cs.set (j+1) cs[j]).set j cs[j+1]) i j:=by
 have e1:cR dg ((cs.set (j+1) cs[j]).set j cs[j+1]) j=cR dg cs (j+1):=by unfold cR;rw[Lr,List.getElem?_set_self (by rw[List.length_set];omega),Lr,Ls hi]
 have e2:cR dg ((cs.set (j+1) cs[j]).set j cs[j+1]) (j+1)=cR dg cs j:=by unfold cR;rw[Lr,List.getElem?_set_ne (by omega),List.getElem?_set_self hi,Lr,Ls (by omega)]
 have e3:∀p,p≠j->p≠j+1->cR dg ((cs.set (j+1) cs[j]).set j cs[j+1]) p=cR dg cs p:=λp h1 h2=>by unfold cR;rw[Lr,List.getElem?_set_ne (by omega),List.getElem?_set_ne (by omega),Lr]
 refine⟨λp q hpq hq hp hqj=>?_,λq h1 h2=>?_⟩
 .by_cases hp2:p=j+1
  .subst hp2;rw[e2,e3 q (by omega) (by omega)];exact h.a j q (by omega) hq (by omega) (by omega)
  .by_cases hq2:q=j+1
   .subst hq2;rw[e2,e3 p hp hp2];exact h.a p j (by omega) (by omega) hp2 (by omega)
   .rw[e3 p hp hp2,e3 q hqj hq2];exact h.a p q hpq hq hp2 hq2
 .rw[e1];by_cases hq2:q=j+1
  .subst hq2;rw[e2];exact hle
  .rw[e3 q (by omega) hq2];exact h.b q (by omega) h2
structure iK(B:Nat)(w0 W:World)(g cap:Nat)(zs cs:List aU):Prop where
 row:cG B W (.slice (some ⟨g,0,none⟩) zs.length cap) cs
 perm:cs.Perm zs
 frm:ai (λk=>k=g) w0 W
theorem cG.next{B:Nat}{w w':World}{v:Value}{zs:List aU}(h:cG B w v zs)(hb:Below w.heap.size w w'):cG B w' v zs:=
 ⟨(ai.of_below (S:=λ_=>False) hb).own h.own λ_ _ hg=>hg,λg hg=>(h.kind g hg).below (Lb h.own g hg).2 hb⟩
theorem iK.next{B:Nat}{w0 W W':World}{g cap:Nat}{zs cs:List aU}(h:iK B w0 W g cap zs cs)(hb:Below W.heap.size W W'):iK B w0 W' g cap zs cs:=
 ⟨h.row.next hb,h.perm,h.frm.trans (ai.of_below (S:=λ_=>False) hb) λ_ _ h=>h.elim⟩
theorem iK.len{B:Nat}{w0 W:World}{g cap:Nat}{zs cs:List aU}(h:iK B w0 W g cap zs cs):cs.length=zs.length:=h.perm.length_eq
theorem cG.cell{B:Nat}{W:World}{g n cap:Nat}{cs:List aU}(h:cG B W (.slice (some ⟨g,0,none⟩) n cap) cs)(i:Nat)(hi:i<cs.length):W.cell? ⟨g,i,none⟩=some (bW cs[i])/\W.frozen? ⟨g,i,none⟩=false:=by obtain⟨a,c,e⟩:=cw h.own;simp only[LB] at e;obtain⟨_,rfl,_⟩:=e;have hc:=La h.own i (by omega);rw[List.getElem?_map,Ls hi] at hc;exact⟨hc,K8 h.own i⟩
theorem cG.put{B:Nat}{W:World}{g n cap:Nat}{cs:List aU}(h:cG B W (.slice (some ⟨g,0,none⟩) n cap) cs)(i:Nat)(hi:i<cs.length)(x:aU):cG B (W.setCell ⟨g,i,none⟩ (bW x)) (.slice (some ⟨g,0,none⟩) n cap) (cs.set i x)/\ai (λk=>k=g) W (W.setCell ⟨g,i,none⟩ (bW x)):=by
 have hc:=(h.cell i hi).1;obtain⟨a,c,e⟩:=cw h.own;simp only[LB] at e;obtain⟨_,rfl,_⟩:=e;have h0:=Lp h.own i (bW x);refine⟨⟨?_,λg' hg'=>?_⟩,ai.of_grown h0.2 λk e=>by simpa using e.symm⟩
 .have h1:=h0.1;rw[List.map_set,List.length_set];exact h1
 .have e:g'=g:=by simpa [Value.ownBlock] using hg'.symm
  subst e;intro j u hu;by_cases hj:j=i
  .subst hj;rw[World.cell?_setCell_same' _ _ _ (by rw[hc];rfl)] at hu;cases hu;exact⟨_,_,_,rfl⟩
  .rw[World.cell?_setCell_other] at hu
   .exact h.kind g' (by simp[Value.ownBlock]) j u hu
   .intro e;cases e;exact hj rfl
theorem iK.swap{B:Nat}{w0 W:World}{g cap:Nat}{zs cs:List aU}(h:iK B w0 W g cap zs cs)(i j:Nat)(hi:i<cs.length)(hj:j<cs.length):iK B w0 ((W.setCell ⟨g,i,none⟩ (bW cs[j])).setCell ⟨g,j,none⟩ (bW cs[i])) g cap zs ((cs.set i cs[j]).set j cs[i]):=by have h1:=h.row.put i hi cs[j];have h2:=h1.1.put j (by rw[List.length_set];exact hj) cs[i];exact⟨h2.1,(Go.Sort.perm_set_set cs i j hi hj).trans h.perm,(h.frm.trans h1.2 λ_ _ h=>h).trans h2.2 λ_ _ h=>h⟩
theorem EJ(a b:Int):aI a b<0↔a<b:=by
 unfold aI;split
 .constructor<;>intro<;>omega
 .split<;>constructor<;>intro<;>omega
def EK(w0:World)(g fn:Nat)(cv:Value)(zs:List aU)(dg:aU->Int):Prop:=
 ∀W,ai (λk=>k=g) w0 W->∀x∈zs,∀y∈zs,Calls prog fn #[bW x,bW y,cv] W λe w'=>e=.returned (.int .i64 (aI (dg x) (dg y)))/\Below W.heap.size W w'
theorem EL(B:Nat)(w0 W:World)(g cap cb:Nat)(zs cs:List aU)(dg:aU->Int)(h:iK B w0 W g cap zs cs)(hn:zs.length<=1200000000000)(hcm:EK w0 g 79 (.pointer (some ⟨cb,0,none⟩)) zs dg):Calls prog 151 #[.slice (some ⟨g,0,none⟩) zs.length cap,.int .i64 0,.int .i64 zs.length,.func (.func 79) #[] #[.pointer (some ⟨cb,0,none⟩)]] W λe w'=>e=.returned (.tuple #[])/\∃cs',iK B w0 w' g cap zs cs'/\kN dg cs' zs.length:=by
 have H0:=ac h;have HCD:=ac hcm;clear h hcm;go_enter func151,ntmps151;go_wp2_with fail;go_loopw [8] (λvi wr=>∃(i:Nat)(cs:List aU),0<i/\i<=zs.length+1/\vi=.int .i64 i/\iK B w0 wr g cap zs cs/\kN dg cs i) (λvi _=>zs.length+1-(intOf vi).toNat);case atStart=>exact⟨1,cs,by omega,by omega,by go_num,H0.o,λp q h1 h2=>by omega⟩
 case round=>
  clear H0;obtain⟨i,ds,hai,hib,rfl,hw,hs⟩:=hrel;have HW:=ac hw;have HS:=ac hs;clear hw hs;by_cases hlt:i<zs.length
  .go_wp2_with fail;go_loopw [9] (λvj wr2=>∃(j:Nat)(cs:List aU),j<=i/\vj=.int .i64 j/\iK B w0 wr2 g cap zs cs/\iJ dg cs i j) (λvj _=>(intOf vj).toNat);case atStart=>exact⟨i,ds,Lc _,rfl,HW.o,iJ.start HS.o⟩
   case round=>
    clear HW HS;rename World=>wr0;obtain⟨j,es,hji,rfl,hw,hs⟩:=hrel;have HW:=ac hw;have HS:=ac hs;clear hw hs;by_cases hja:0<j
    .obtain⟨jp,rfl⟩:∃jp,j=jp+1:=⟨j-1,by omega⟩;have hlen:=HW.o.len;have hx:jp+1<es.length:=by omega
     have hy:jp<es.length:=by omega
     have HPM:=HW.o.perm;have HCM:=ac (λW hb=>HCD.o W ((HW.o.next hb).frm) es[jp+1] (HPM.mem_iff.1 (Lo hx)) es[jp] (HPM.mem_iff.1 (Lo hy)));have lx:=λP:cH wr0=>((HW.o.next P.h).row.cell (jp+1) hx).1;have ly:=λP:cH wr0=>((HW.o.next P.h).row.cell jp hy).1;have HSW:Ma (∀W,Below wr0.heap.size wr0 W->_):=λW hb=>Lg ((HW.o.next hb).row.cell (jp+1) hx) (Lg ((HW.o.next hb).row.cell jp hy) ((HW.o.next hb).swap (jp+1) jp hx hy));have HIN:Ma (cR dg es (jp+1)<cR dg es jp->iJ dg ((es.set (jp+1) es[jp]).set jp es[jp+1]) i jp):=λh=>HS.o.step (by omega) hx (by omega);have HIX:Ma (¬cR dg es (jp+1)<cR dg es jp->kN dg es (i+1)):=λh=>HS.o.stop (by omega) (by omega);have HAX:Ma (cR dg es (jp+1)=dg es[jp+1]/\cR dg es jp=dg es[jp]):=by
      refine⟨?_,?_⟩<;>unfold cR
      .rw[Lr,Ls hx];rfl
      .rw[Lr,Ls hy];rfl
     rw[HAX.o.1,HAX.o.2] at HIN HIX;clear HAX HS HPM;generalize (es.set (jp+1) es[jp]).set jp es[jp+1]=es2 at HSW HIN;generalize es[jp+1]=xx at HCM HSW HIN HIX lx;generalize es[jp]=yy at HCM HSW HIN HIX ly;obtain⟨xa,xn,xc⟩:=xx;obtain⟨ya,yn,yc⟩:=yy;have HRR:=EJ (dg (xa,xn,xc)) (dg (ya,yn,yc));rw[<-HRR] at HIN HIX;clear HRR;generalize aI (dg (xa,xn,xc)) (dg (ya,yn,yc))=rr at HCM HIN HIX;dsimp only[bW] at HCM HSW lx ly;have hjI:(0:Int)<(jp:Int)+1:=by omega
     have j1:(jp:Int)+1<(zs.length:Int):=by omega
     have j0:(jp:Int)<(zs.length:Int):=by omega
     have jw:IntKind.i64.wrap ((jp:Int)+1-1)=(jp:Int):=by rw[IntKind.wrap_i64];omega
     clear hlen hx hy;have hne:Nonempty (cH wr0):=⟨⟨wr0,Lf _ _⟩⟩;by_cases hrr:rr<0
     .have hrd:decide (rr<0)=true:=Li hrr;go_upto_region 4 with fail;refine fY (by kernel_rfl) (by kernel_rfl) ?_;repeat (go_big_quiet_step (first|(go_at_call 79;exact Calls.below_of (HCM.o _ (cH.h _)))))
      refine wpQuiet_nil ?_;intro w8 hw';obtain⟨⟨w9,hb9⟩,rfl⟩:=hw';have HB9:=ac hb9;clear hb9 hne lx ly;obtain⟨⟨lx,fx⟩,⟨ly,fy⟩,hp2⟩:=HSW.o w8 HB9.o;have HP2:=ac hp2;clear hp2;have ly2:(w8.setCell ⟨g,jp+1,none⟩ (.slice ya yn yc)).cell? ⟨g,jp,none⟩=some (.slice ya yn yc):=by
       rw[World.cell?_setCell_other]
       .exact ly
       .intro e;simp at e
      have fy2:(w8.setCell ⟨g,jp+1,none⟩ (.slice ya yn yc)).frozen? ⟨g,jp,none⟩=false:=by rw[World.frozen?_setCell];exact fy
      go_upto_region 6 with fail;go_region;all_goals
       go_wp2;go_roundw;case rel=>exact⟨jp,_,by omega,by go_num,HP2.o.next (Lf _ _).drew,HIN.o hrr⟩
       case measure=>simp[intOf]
     .have hrd:decide (rr<0)=false:=Lh hrr;go_upto_region 4 with fail;refine fY (by kernel_rfl) (by kernel_rfl) ?_;repeat (go_big_quiet_step (first|(go_at_call 79;exact Calls.below_of (HCM.o _ (cH.h _)))))
      refine wpQuiet_nil ?_;intro w8 hw';obtain⟨⟨w9,hb9⟩,rfl⟩:=hw';have HB9:=ac hb9;clear hb9 hne lx ly;go_wp2;go_roundw;case rel=>exact⟨i+1,es,by omega,by omega,by go_num,HW.o.next HB9.o,HIX.o hrr⟩
      case measure=>simp[intOf];omega
    .have hj0:j=0:=by omega
     subst hj0;have HIX:=ac HS.o.stop0;have hne:Nonempty (cH wr0):=⟨⟨wr0,Lf _ _⟩⟩;go_upto_region 4 with fail;refine fY (by kernel_rfl) (by kernel_rfl) ?_;repeat (go_big_quiet_step (fail))
     refine wpQuiet_nil ?_;intro _ hw';obtain⟨⟨w9,hb9⟩,rfl⟩:=hw';have HB9:=ac hb9;clear hb9 hne;go_wp2;go_roundw;case rel=>exact⟨i+1,es,by omega,by omega,by go_num,HW.o.next HB9.o,HIX.o⟩
     case measure=>simp[intOf];omega
  .go_wp2;go_end0;exact⟨rfl,ds,HW.o,λp q h1 h2=>HS.o p q h1 (by omega)⟩
theorem EM(a:Option Addr)(n c fn:Nat)(cb:Array Value)(W:World)(hn:n<=19)(R:World->Prop)(h:Calls prog 151 #[.slice a n c,.int .i64 0,.int .i64 n,.func (.func fn) #[] cb] W λe w'=>e=.returned (.tuple #[])/\R w'):Calls prog 127 #[.slice a n c,.int .i64 n,.func (.func fn) #[] cb] W λe w'=>e=.returned (.tuple #[])/\R w':=by
 have H:=ac h;clear h;have n1:¬(20:Int)<=(n:Int):=by omega
 have n2:¬(20:Int)<(n:Int):=by omega
 go_enter func127,ntmps127;go_wp2_with fail;go_loopw [7,8] (λs7 s8 wr=>s7=.int .i64 0/\s8=.int .i64 20/\wr=W) (λ_ _ _=>0);case atStart=>exact⟨rfl,rfl,rfl⟩
 case round=>
  obtain⟨rfl,rfl,rfl⟩:=hrel;go_wp2_with (go_at_call 151;refine H.o.mono ?_;rintro e w9 ⟨rfl,h9⟩;have H9:=ac h9;clear h9);go_loopw [6] (λs6 wr=>s6=.int .i64 20/\wr=w9) (λ_ _=>0);case atStart=>exact⟨rfl,rfl⟩
  case round=>obtain⟨rfl,rfl⟩:=hrel;go_wp2;go_end0;exact⟨rfl,H9.o⟩
theorem yE(a:Option Addr)(n c fn:Nat)(cb:Array Value)(W:World)(hn:n<=19)(R:World->Prop)(h:Calls prog 151 #[.slice a n c,.int .i64 0,.int .i64 n,.func (.func fn) #[] cb] W λe w'=>e=.returned (.tuple #[])/\R w'):Calls prog 100 #[.slice a n c,.func (.func fn) #[] cb] W λe w'=>e=.returned (.tuple #[])/\R w':=by have H:=ac (EM a n c fn cb W hn R h);clear h;go_enter func100,ntmps100;go_wp2_with (go_at_call 127;refine H.o.mono ?_;rintro e w9 ⟨rfl,h9⟩;have H9:=ac h9;clear h9);go_end0;exact⟨rfl,H9.o⟩
theorem EN(a:Option Addr)(c fn:Nat)(cb:Array Value)(W:World):Calls prog 151 #[.slice a 0 c,.int .i64 0,.int .i64 (0:Nat),.func (.func fn) #[] cb] W λe w'=>e=.returned (.tuple #[])/\w'=W:=by
 go_enter func151,ntmps151;go_wp2_with fail;go_loopw [8] (λvi wr=>vi=.int .i64 1/\wr=W) (λ_ _=>0);case atStart=>exact⟨by go_num,rfl⟩
 case round=>obtain⟨rfl,rfl⟩:=hrel;go_wp2;go_end0;exact⟨rfl,rfl⟩
theorem EO(B:Nat)(w0 W:World)(v:Value)(zs:List aU)(dg:aU->Int)(cb:Nat)(h:cG B W v zs)(hB:Below w0.heap.size w0 W)(hBw:w0.heap.size<=B)(hn:zs.length<=19)(hcm:∀W',Below w0.heap.size w0 W'->∀x∈zs,∀y∈zs,Calls prog 79 #[bW x,bW y,.pointer (some ⟨cb,0,none⟩)] W' λe w'=>e=.returned (.int .i64 (aI (dg x) (dg y)))/\Below W'.heap.size W' w'):Calls prog 100 #[v,.func (.func 79) #[] #[.pointer (some ⟨cb,0,none⟩)]] W λe w'=>e=.returned (.tuple #[])/\∃cs,cG B w' v cs/\cs.Perm zs/\kN dg cs zs.length/\Below w0.heap.size w0 w':=by
 obtain⟨a,c,rfl⟩:=cw h.own;by_cases h0:zs.length=0
 .have e:=List.eq_nil_of_length_eq_zero h0;subst e;refine(yE a 0 c _ _ W (by omega) (λw'=>w'=W) (EN a c _ _ W)).mono ?_;rintro e w' ⟨rfl,rfl⟩;exact⟨rfl,[],h,List.Perm.refl _,λp q h1 h2=>by simp at h2,hB⟩
 .obtain⟨g,cap,he,hg⟩:∃g cap,(Value.slice a zs.length c)=.slice (some ⟨g,0,none⟩) zs.length cap/\B<=g:=by
   rcases h.own.2 with ⟨_,h2⟩|⟨g,cap,af,h1,h2,_⟩
   .exact absurd h2 h0
   .exact⟨g,cap,h1,h2⟩
  rw[he] at h⊢;have frb:∀W',ai (λk=>k=g) W W'->Below w0.heap.size w0 W':=λW' hf=>⟨hf.os.trans hB.os,hf.tape.trans hB.tape,hf.output.trans hB.output,Lk hB.size hf.size,λk hk=>(hf.block k (Lj hk hB.size) (by omega)).trans (hB.block k hk)⟩
  have HI:=EL B W W g cap cb zs zs dg ⟨h,List.Perm.refl _,ai.refl _ _⟩ (by omega) (λW' hf x hx y hy=>hcm W' (frb W' hf) x hx y hy);refine(yE (some ⟨g,0,none⟩) zs.length cap _ _ W hn _ HI).mono ?_;rintro e w' ⟨rfl,cs,hp,hs⟩;exact⟨rfl,cs,hp.row,hp.perm,hs,frb w' hp.frm⟩
theorem EP(a:Option Addr)(n c:Nat)(w:World):Calls prog 78 #[.slice a n c] w λe w'=>e=.returned (.func (.func 101) #[] #[.pointer (some ⟨w.heap.size,0,none⟩)])/\w'=w.alloc (.cells #[.slice a n c] 87):=by go_enter func78,ntmps78;go_wp2;go_ret;exact⟨rfl,rfl⟩
theorem EQ(w:World)(Bs cb:Nat)(sv:Value)(zs:List aU)(dg:aU->Int)(hn:zs.length<=19)(hBs:Bs<w.heap.size)(hc:w.cell? ⟨Bs,0,none⟩=some sv)(hI:j9 w.heap.size w sv zs)(hcm:∀W',Below w.heap.size w W'->∀x∈zs,∀y∈zs,Calls prog 79 #[bW x,bW y,.pointer (some ⟨cb,0,none⟩)] W' λe w'=>e=.returned (.int .i64 (aI (dg x) (dg y)))/\Below W'.heap.size W' w'):Calls prog 77 #[.func (.func 101) #[] #[.pointer (some ⟨Bs,0,none⟩)],.func (.func 79) #[] #[.pointer (some ⟨cb,0,none⟩)]] w λe w'=>∃v cs,e=.returned v/\cG w.heap.size w' v cs/\cs.Perm zs/\kN dg cs zs.length/\Below w.heap.size w w':=by have HC:=ac (EH Bs sv zs (by omega) w hBs hc hI);have HS:=ac (λW v (h:cG w.heap.size W v zs) hB=>EO w.heap.size w W v zs dg cb h hB (Lc _) hn hcm);clear hcm hI hc;go_enter func77,ntmps77;go_wp2_with (first|(go_at_call 99;refine HC.o.mono ?_;rintro e w1 ⟨v,rfl,hr,hb⟩;obtain⟨va,vc,hv⟩:=cw hr.own;subst hv;have HR:=ac hr;have HB:=ac hb;clear hr hb)|(go_at_call 100;refine(HS.o _ _ HR.o HB.o).mono ?_;rintro e w2 ⟨rfl,h2⟩;have H2:=ac h2;clear h2));go_ret;obtain⟨cs,h1,h2,h3,h4⟩:=H2.o;exact⟨_,cs,rfl,h1,h2,h3,h4⟩
theorem ER{s t:Ft}(h:aw s=aw t):s=t:=by cases s;cases t;simp only[aw,List.cons.injEq,Value.int.injEq,true_and,and_true] at h;obtain⟨h1,h2,h3,h4,h5,h6,h7⟩:=h;subst h1;subst h2;subst h3;subst h4;subst h5;subst h6;subst h7;rfl
theorem yF:∀{f g:List Ft},f.length=g.length->aC f=aC g->f=g
 |[],[],_,_=>rfl
 |[],_::_,h,_=>by simp at h
 |_::_,[],h,_=>by simp at h
 |s::f,t::g,h,e=>by rw[jC,jC] at e;obtain⟨e1,e2⟩:=List.append_inj e rfl;rw[ER e1,yF (by simpa using h) e2]
theorem ES{w:World}{v:Value}{f g:List Ft}(hf:Fv w v f)(hg:Fv w v g):f=g:=by
 obtain⟨a,c,rfl,_,h1⟩:=hf;obtain⟨a2,c2,e,_,h2⟩:=hg;simp only[LB] at e;obtain⟨ea,el,_⟩:=e;subst ea;refine yF el ?_;apply List.ext_getElem?;intro j;by_cases hj:j<f.length*7
 .have hp:0<f.length:=by omega
  obtain⟨b,off,e1,_,k1⟩:=h1 hp;obtain⟨b2,off2,e2,_,k2⟩:=h2 (by omega);rw[e1] at e2;simp only[LA,Addr.mk.injEq] at e2;obtain⟨rfl,rfl,_⟩:=e2;have l1:j<(aC f).length:=by rw[il];exact hj
  have l2:j<(aC g).length:=by rw[il];omega
  have x1:=k1 j _ (Ls l1);have x2:=k2 j _ (Ls l2);rw[x1] at x2;rw[Ls l1,Ls l2];exact x2
 .rw[Lu (by rw[il];omega),Lu (by rw[il];omega)]
theorem ET{w w':World}{B:Nat}{T:TypeId}{s:Nat}{v:Value}{n:Nat}{xs:List Value}(h:w.ownsRow B T s v n xs)(hs:∀g,v.ownBlock=some g->w'.heap[g]?=w.heap[g]?):w'.ownsRow B T s v n xs:=by
 refine⟨h.1,?_⟩;rcases h.2 with h2|⟨g,cap,af,rfl,hb,hh,r⟩
 .exact .inl h2
 .exact .inr ⟨g,cap,af,rfl,hb,(hs g rfl).trans hh,r⟩
theorem cG.kpm{B:Nat}{w w':World}{v:Value}{zs:List aU}(h:cG B w v zs)(k:ba w w'):cG B w' v zs:=by
 have hs:∀g,v.ownBlock=some g->w'.heap[g]?=w.heap[g]?:=λg hg=>by obtain⟨af,hc⟩:=dp h.own hg;exact k.2 g (LS.1 hc).1 λe=>e.2.2 af hc
 exact⟨ET h.own hs,λg hg=>tp (h.kind g hg) (hs g hg)⟩
theorem yG{w w':World}{v:Value}{fs:List Ft}(h:Fv w v fs)(ht:eP w v)(k:ba w w'):Fv w' v fs/\eP w' v:=by refine⟨?_,ht.same λb ⟨af,hc⟩=>k.2 b (LS.1 hc).1 λe=>e.2.1 af hc⟩;obtain⟨a,cap,rfl,hc,h1⟩:=h;refine⟨a,cap,rfl,hc,λhp=>?_⟩;obtain⟨b,off,rfl,hlt,hcs⟩:=h1 hp;obtain⟨af,hcu⟩:=ht b off _ _ rfl;exact⟨b,off,rfl,Lj hlt k.1,λj u hj=>(World.cell?_of_block (k.2 b hlt λe=>e.2.1 af hcu)).trans (hcs j u hj)⟩
def ow:Int:=1000000000000000000
theorem EU{p:Int}{dg:Nat->Int}{N R:Nat}(hx:aP p dg N R){D:Int}(hD:D<=9){fs:List Ft}(hv:cP p dg N R D fs)(w:World)(ob vb vc:Nat)(sv vv:Value)(hob:bk w ob p (az 1 N N 0) (az 1 N N 1) (az 1 N N 2) sv)(hc:w.cell? ⟨vb,0,none⟩=some vv)(hf:Fv w vv fs):Calls prog 83 #[.pointer (some ⟨ob,0,none⟩),.slice (some ⟨vb,0,none⟩) 1 vc] w λe w'=>e=.returned (.pointer (some ⟨w.heap.size,0,none⟩))/\∃rv us rows,fV p (λu=>aM dg N R D u/\u.k<ow) w.heap.size w' w.heap.size ob rv us rows (λk=>ao k fs)/\Below w.heap.size w w':=by
 have hp:=fq hx.pr;refine EV ob vb 0 vc p _ _ _ _ sv vv fs w hob (by omega) hc hf ⟨λr hr=>?_,λr hr=>?_,λr hr t ht=>?_⟩ (λx t ha hg=>⟨aM.alk x t ha hg.1,by rw[ha.1];exact hg.2⟩) (λr hd hg=>mG hx (by omega) r hd λt ht=>(hg t ht).1)
 .rw[Lw] at hr;subst hr;exact hv.dn
 .rw[Lw] at hr;subst hr;exact hv.co
 .rw[Lw] at hr;subst hr;have g:=hv.gd t ht;have:=(g.kb hx (by omega)).2;exact⟨g,by unfold ow;omega⟩
theorem EW{p:Int}{dg:Nat->Int}{N R:Nat}(hx:aP p dg N R){vs:List (List Ft)}{ms:List Mm}{qs qs2:List Pq}{E:Nat->Nat->Prop}{T:Int}(hcp:Cp p dg N R vs ms qs E T){D:Int}(hD:D<=9){fs:List Ft}(hv:cP p dg N R D fs)(B:Nat)(W wn w9:World)(mb ob g:Nat)(dv pv sv rv:Value)(us us9:List Value)(rows:List (List Ft))(hm:bj p B W mb ob R g dv pv us ms qs2)(hob:bk W ob p (az 1 N N 0) (az 1 N N 1) (az 1 N N 2) sv)(h1:Below W.heap.size W wn)(h2:Below wn.heap.size wn w9)(h3:fV p (λu=>aM dg N R D u/\u.k<ow) wn.heap.size w9 wn.heap.size ob rv us9 rows (λk=>ao k fs)):Calls prog 82 #[.pointer (some ⟨mb,0,none⟩),.pointer (some ⟨wn.heap.size,0,none⟩)] w9 λe w'=>Below W.heap.size W w'/\∃u acc,e=.returned u/\(∃a c,u=.slice a acc.length c)/\Fv w' u acc/\PL (au p dg R (fm ms)) N D (λ_=>True) (λφ=>aF R φ fs) ow ms acc:=by
 have hD2:D<=16000:=by omega
 have hdc:=sT hx (hcp.msk hx) (by have:=(hcp.len hx).2.1;omega) hD2;have hst:=EX hx (G:=au p dg R (fm ms)) hD2 hv h3.ok h3.cn;have hr:aO p (aM dg N R D) rows:=⟨h3.ok.dn,h3.ok.co,λr hr t ht=>(h3.ok.gd r hr t ht).1⟩;refine(xT p (az 1 N N 0) (az 1 N N 1) (az 1 N N 2) R (aM dg N R D) ms _ _ wn.heap.size wn ob mb wn.heap.size sv rv us9 rows w9 hdc (xU hx (hcp.msk hx) hD2 (λt gt hk=>trivial)) (λt rows acc h=>xW hx hD2 h.1) (hm.mrw.below h1) (hob.below h1) rfl h2 h2.size h3.sum hr h3.len ⟨hst,λt ht=>by simp at ht⟩ (λf hf u hu=>(h3.ok.gd f hf u hu).2) (.slice none 0 0) [] (oo none 0) (λs hs=>by simp at hs)).mono ?_;rintro e w' ⟨hb9,u,acc,rfl,ho,_,_,rows1,rows2,hJ,_,hn⟩;have hnx:=(sU hx hD2 hJ.1 hn).2 rfl;exact⟨h1.trans (hb9.mono h1.size),u,acc,rfl,cw ho,pY ho,⟨hJ.1.av,hJ.2,λt ht=>(hJ.1.ak t ht).2.2,hnx⟩⟩
structure gU(p:Int)(dg:Nat->Int)(N R:Nat)(w0 wr:World)(B3 mb ob g cb:Nat)(dv sv:Value)(cs:List aU)(F:aU->List Ft)(vs:List (List Ft))(ms:List Mm)(qs:List Pq)(E:Nat->Nat->Prop)(T:Int):Prop where
 cp:iG p dg N R w0 wr mb ob g dv vs ms qs E T
 row:cG w0.heap.size wr sv cs
 rlt:∀k,sv.ownBlock=some k->k<B3
 le3:w0.heap.size<=B3/\B3<=wr.heap.size
 fvs:∀x∈cs,Fv wr (bW x) (F x)/\eP wr (bW x)
 bx:wr.cell? ⟨cb,0,none⟩=some (.pointer (some ⟨mb,0,none⟩))
 bt:¬b8 wr 85 cb
section
variable {p:Int} {dg:Nat->Int} {N R:Nat} {w0 wr w':World} {B3 mb ob g cb:Nat} {dv sv:Value} {cs:List aU} {F:aU->List Ft} {vs vs2:List (List Ft)} {ms ms2:List Mm} {qs qs2:List Pq} {E E2:Nat->Nat->Prop} {T T2:Int}
theorem gU.kpm(h:gU p dg N R w0 wr B3 mb ob g cb dv sv cs F vs ms qs E T)(k:ba wr w')(hc:iG p dg N R w0 w' mb ob g dv vs2 ms2 qs2 E2 T2):gU p dg N R w0 w' B3 mb ob g cb dv sv cs F vs2 ms2 qs2 E2 T2:=by refine⟨hc,h.row.kpm k,h.rlt,⟨h.le3.1,Lk h.le3.2 k.1⟩,λx hx=>yG (h.fvs x hx).1 (h.fvs x hx).2 k,k.cell h.bt h.bx,λhn=>h.bt λaf e=>hn af ?_⟩;rw[k.2 cb (LS.1 e).1 λe2=>h.bt e2.1];exact e
theorem gU.next(h:gU p dg N R w0 wr B3 mb ob g cb dv sv cs F vs ms qs E T)(hb:Below wr.heap.size wr w'):gU p dg N R w0 w' B3 mb ob g cb dv sv cs F vs ms qs E T:=h.kpm (ba.of_below hb) (h.cp.next hb)
theorem EY{w:World}{k:Nat}(h:cz w k):bU dP w k:=λj u hu=>by obtain⟨a,n,c,e⟩:=h j u hu;intro x e2;rw[e] at e2;cases e2
theorem gU.app(h:gU p dg N R w0 wr B3 mb ob g cb dv sv cs F vs ms qs E T){v:Value}{nd:List aU}(hr:cG B3 wr v nd)(hg:wr.grownBy w' v.ownBlock):gU p dg N R w0 w' B3 mb ob g cb dv sv cs F vs ms qs E T:=by
 have hf:ai (λk=>v.ownBlock=some k) wr w':=ai.of_grown hg λg e=>e;have hT:∀{T:TypeId},92≠T->∀k,v.ownBlock=some k->b8 wr T k:=λhT k hk=>bp hr.own hk hT;have hne:sv.ownBlock=none\/sv.ownBlock≠v.ownBlock:=by
  rcases he:sv.ownBlock with _|k
  .exact .inl rfl
  .refine .inr λe=>?_;have h1:=h.rlt k he;have h2:=(Lb hr.own k e.symm).1;omega
 obtain⟨pv,us,hm⟩:=h.cp.mkw;have hbt:¬v.ownBlock=some cb:=λe=>h.bt (hT (by decide) cb e);refine⟨⟨⟨pv,us,hm.frmS hf (λk hk=>EY (hr.kind k hk)) (λk hk=>⟨hT (by decide) k hk,hT (by decide) k hk,hT (by decide) k hk⟩) λk hk e=>?_⟩,h.cp.cp,h.cp.good,?_⟩,h.row.same hg hne,h.rlt,⟨h.le3.1,Lk h.le3.2 hf.size⟩,λx hx=>⟨iI hf (λk hk=>mJ (hr.kind k hk)) (h.fvs x hx).1,(h.fvs x hx).2.same λb ⟨af,hc⟩=>hf.block b (LS.1 hc).1 λe=>hT (T:=95) (by decide) b e af hc⟩,?_,λhn=>h.bt λaf e=>hn af ?_⟩
 .obtain⟨af,hc⟩:=dp hm.prs.own hk;exact hT (T:=126) (by decide) k e af hc
 .refine h.cp.below.trans (hf.to_below h.cp.below.size λk hk=>?_);have h2:=(Lb hr.own k hk).1;have:=h.le3.1;omega
 .exact hf.cell h.bx hbt
 .rw[hf.block cb (LS.1 e).1 hbt];exact e
end
end Go.Proofs.YteimdcndjjclnaaGreat
