/- Sum of the reference. -/
import Derived.Test.YtglijodcbdcngaaGreatRA
import Derived.Deep.RegionHeldLaw
import Derived.Maps.AppendAt
set_option maxHeartbeats 2000000
set_option maxRecDepth 100000
namespace Go.Proofs.YtglijodcbdcngaaGreat
set_option linter.unusedSimpArgs false
set_option linter.unusedVariables false
open Go.Proofs.Tryz Go.RowKit
theorem Fm{P:Program}{w:World}{t u ty e:TypeId}{i:TypeInfo}{v x:Value}(ht:P.underlying t=some (.slice e))(hu:P.underlying u=some (.slice e))(hi:P.info? e=some i):(Builtin.append_ #[t,u] ty #[v,x]).run P w=(Builtin.append_ #[t,t] ty #[v,x]).run P w:=by cases v<;>simp[Builtin.append_,run_underlying ht,run_underlying hu,sizeOf,typeInfo,hi]
theorem Fo{P:Program}(w:World)(base:Nat)(t t2 ty e:TypeId)(i:TypeInfo)(z:Value)(ht:P.underlying t=some (.slice e))(ht2:P.underlying t2=some (.slice e))(hi:P.info? e=some i)(hz:i.zero=some z)(hsize:i.size=2)(hby:i.bytes=32)(hzs:z.cells.size=2)(v:Value)(n:Nat)(xs:List Value)(hown:w.ownsRow base e 2 v n xs)(us:List TV)(m:Nat)(hm:us.length=m)(ua:Option Addr)(uc:Nat)(hcs:0<m->∃b off,ua=some ⟨b,off,none⟩/\∀j u,(ak us)[j]?=some u->w.cell? ⟨b,off+j,none⟩=some u)(hone:∀u∈ak us,u.oneCell'=true)(hb:n+m<=2400000000000)(hbase:base<=w.heap.size):∃v' w',(Builtin.append_ #[t,t2] ty #[v,.slice ua m uc]).run P w=.ok v' w'/\w'.ownsRow base e 2 v' (n+m) (xs++ak us)/\w.grownBy w' v.ownBlock/\(v'.ownBlock=v.ownBlock\/v'.ownBlock=some w.heap.size):=by
 rw[Fm ht ht2 hi];subst hm;by_cases h0:0<us.length
 ·obtain⟨b,off,rfl,hc⟩:=hcs h0;obtain⟨v',w',hr,h2,h3,_,h5⟩:=run_append_own_at (P:=P) w base t ty e i z 2 32 ht hi hz hsize hby hzs (by decide) v n xs hown ⟨b,off,none⟩ us.length uc (ak us) (iW us) (λj u hj=>by
   have:=hc j u hj;by_cases hj0:j=0
   ·subst hj0;simpa [Addr.add] using this
   ·simpa [Addr.add,hj0] using this) hone (km hb).1 (km hb).2 hbase
  exact⟨v',w',hr,h2,h3,h5⟩
 ·have e0:us=[]:=List.length_eq_zero_iff.1 (by omega);subst e0;cases ua with
  |none=>exact⟨v,w,nQ w base t ty e i 2 ht hi v n uc xs hown,by simpa [ak] using hown,nP _ _,Or.inl rfl⟩
  |some ad=>obtain⟨v',w',hr,h2,h3,_,h5⟩:=run_append_own_at (P:=P) w base t ty e i z 2 32 ht hi hz hsize hby hzs (by decide) v n xs hown ad 0 uc [] (by simp) (λj u hj=>by simp at hj) (λu hu=>by simp at hu) (km hb).1 (km hb).2 hbase;exact⟨v',w',hr,h2,h3,h5⟩
theorem jv{P:Program}{ops:Array Oper}{o:Oper}{a:Act}{w:World}{K:Act->World->Prop}{Q:Exit->Act->World->Prop}{E:Prop}(hgd:o.guard=none)(s x:Operand)(t t2:TypeId)(ho:o.op=.call {callee:=.builtin .append,args:=#[s,x],argTypes:=#[t,t2]})(base:Nat)(e:TypeId)(i:TypeInfo)(z:Value)(ht:P.underlying t=some (.slice e))(ht2:P.underlying t2=some (.slice e))(hi:P.info? e=some i)(hz:i.zero=some z)(hsize:i.size=2)(hby:i.bytes=32)(hzs:z.cells.size=2)(v:Value)(n:Nat)(xs:List Value)(hs:a.eval s=v)(hown:w.ownsRow base e 2 v n xs)(us:List TV)(m:Nat)(hm:us.length=m)(ua:Option Addr)(uc:Nat)(hx:a.eval x=.slice ua m uc)(hcs:0<m->∃b off,ua=some ⟨b,off,none⟩/\∀j u,(ak us)[j]?=some u->w.cell? ⟨b,off+j,none⟩=some u)(hone:∀u∈ak us,u.oneCell'=true)(hb:n+m<=2400000000000)(hbase:base<=w.heap.size)(hK:∀v' w',w'.ownsRow base e 2 v' (n+m) (xs++ak us)->w.grownBy w' v.ownBlock->(v'.ownBlock=v.ownBlock\/v'.ownBlock=some w.heap.size)->K (a.put o.dst v') w'):if Region.wanted o (yielded ops a.tmps)=true then Oper.wp P o a w K Q else E:=by
 have hw:Region.wanted o (yielded ops a.tmps)=true:=by simp[Region.wanted,hgd]
 rw[if_pos hw];obtain⟨v',w',hr,h2,h3,h4⟩:=Fo (P:=P) w base t t2 o.type e i z ht ht2 hi hz hsize hby hzs v n xs hown us m hm ua uc hcs hone hb hbase;unfold Oper.wp execOp;simp only[ho,resolve,invoke,builtin,Sem.run_bind,Sem.run_pure,Result.andThen_ok,List.map_toArray,List.map_cons,List.map_nil,hs,hx,hr];exact hK v' w' h2 h3 h4
theorem rB(p n o v:Int)(N:Nat)(fv gv:Value)(fs gs:List Tm)(w:World)(hp:2<=p/\p<=101)(ho:o=1\/o=2)(hN0:0<N)(hN:N<=3)(tf:∀t∈fs,dP p N t)(tg:∀t∈gs,dP p N t)(hm:fs.length+gs.length<=1200000000000)(pf:Pl w fv fs)(pg:Pl w gv gs):Calls prog 73 #[az p n o v,fv,gv] w λe w'=>∃u,e=.returned u/\Pl w' u (aG p o (fs++gs))/\Below w.heap.size w w':=by
 obtain⟨fa,fc,us,rfl,_,hus,hue,hucs⟩:=pf.tvs;obtain⟨ga,gc,vs,rfl,_,hvs,hve,hvcs⟩:=pg.tvs;have hul:us.length=fs.length:=by rw[<-hus,Ia]
 have hvl:vs.length=gs.length:=by rw[<-hvs,Ia]
 have hm':us.length+vs.length<=1200000000000:=by omega
 have HT:Ic ((us++vs).map tm=fs++gs/\∀t∈fs++gs,dP p N t):=⟨by rw[List.map_append,hus,hvs],λt ht=>(Hv.1 ht).elim (tf t) (tg t)⟩;have HES:=aa (Hg hue hve);obtain⟨i0,hi,hz0,hz1,hz2⟩:=info_parts Tryz.infoTerm;have HI:=aa (Hg hi (Hg hz0 (Hg hz1 hz2)));obtain⟨w1,hw1⟩:∃w1,w1=w.alloc (.cells #[.int .i64 p,.int .i64 n,.int .i64 o,.int .i64 v] 23):=⟨_,rfl⟩;have hbx:aX w1 w.heap.size p n o v:=by rw[hw1];exact aX.new w p n o v _
 have hbw:Below w.heap.size w w1:=by rw[hw1];exact bp
 have HBW:=aa hbw;obtain⟨_,bx0,bx1,bx2,bx3⟩:=hbx;have CU:Ic (∀W,Below w1.heap.size w1 W->0<us.length->∃b off,fa=some ⟨b,off,none⟩/\∀i u,(ak us)[i]?=some u->W.cell? ⟨b,off+i,none⟩=some u):=λW hb h=>by obtain⟨b,off,e,hlt,hc⟩:=hucs h;exact⟨b,off,e,λi u hi=>ae (ae (hc i u hi) hbw) hb⟩
 have CV:Ic (∀W,Below w1.heap.size w1 W->0<vs.length->∃b off,ga=some ⟨b,off,none⟩/\∀i u,(ak vs)[i]?=some u->W.cell? ⟨b,off+i,none⟩=some u):=λW hb h=>by obtain⟨b,off,e,hlt,hc⟩:=hvcs h;exact⟨b,off,e,λi u hi=>ae (ae (hc i u hi) hbw) hb⟩
 have KEEP:Ic (∀W,Below w1.heap.size w1 W->(Ic (Below w1.heap.size w1 W)/\W.cell? ⟨w.heap.size,0,none⟩=some (.int .i64 p)/\W.cell? ⟨w.heap.size,1,none⟩=some (.int .i64 n)/\W.cell? ⟨w.heap.size,2,none⟩=some (.int .i64 o)/\W.cell? ⟨w.heap.size,3,none⟩=some (.int .i64 v))):=
  λW hb=>⟨hb,ae bx0 hb,ae bx1 hb,ae bx2 hb,ae bx3 hb⟩
 have BA:=aa (show Below w1.heap.size w1 (w1.drew.alloc (.cells #[] 54)) from (Hf w1.heap.size w1).drew.alloc (He _) _);have OA:Ic ((w1.drew.alloc (.cells #[] 54)).ownsRow w1.heap.size 54 2 (.slice (some ⟨w1.heap.size,0,none⟩) 0 0) 0 []):=World.ownsRow_made w1.drew #[] 0 (He _) (by decide) (by simp);have HP:=aa hp;have HO:=aa ho;clear pf pg hus hvs hue hve hucs hvcs tf tg hul hvl hi hz0 hz1 hz2 bx0 bx1 bx2 bx3 hbw hp ho hm;go_enter func73,ntmps73;go_wp2_with fail;rw[<-hw1];clear hw1;go_region_held_law (λW=>Ic (Below w1.heap.size w1 W)/\W.cell? ⟨w.heap.size,0,none⟩=some (.int .i64 p)/\W.cell? ⟨w.heap.size,1,none⟩=some (.int .i64 n)/\W.cell? ⟨w.heap.size,2,none⟩=some (.int .i64 o)/\W.cell? ⟨w.heap.size,3,none⟩=some (.int .i64 v))
  (first|exact KEEP.o _ (Hf _ _).drew|exact KEEP.o _ HB9.o|exact KEEP.o _ HB6.o|exact KEEP.o _ HB5.o|exact KEEP.o _ BA.o)
  (first|(refine jv rfl (.tmp 8) (.tmp 9) 30 31 rfl w1.heap.size 54 i0 _ underlying30 underlying31 HI.o.1 HI.o.2.1 HI.o.2.2.1 HI.o.2.2.2 rfl (.slice (some ⟨w1.heap.size,0,none⟩) 0 0) 0 [] (by simp[Act.eval,Act.put]) OA.o us us.length rfl fa fc (by simp[Act.eval,Act.put]) (CU.o _ BA.o) (eK HES.o.1) (by omega) BA.o.size ?_;intro v5 w5 r1 r2 _;rw[Hy,List.nil_append] at r1;have OWN5:=aa r1;have HB5:=aa (show Below w1.heap.size w1 w5 from bU OA.o BA.o r2 (He _));obtain⟨va5,vc5,hv5⟩:=a7 r1;subst hv5;clear r1 r2)|(refine jv rfl (.tmp 10) (.tmp 11) 30 31 rfl w1.heap.size 54 i0 _ underlying30 underlying31 HI.o.1 HI.o.2.1 HI.o.2.2.1 HI.o.2.2.2 rfl (.slice va5 us.length vc5) us.length (ak us) (by simp[Act.eval,Act.put]) OWN5.o vs vs.length rfl ga gc (by simp[Act.eval,Act.put]) (CV.o _ HB5.o) (eK HES.o.2) (by omega) HB5.o.size ?_;intro v6 w6 r1 r2 _;have HB6:=aa (show Below w1.heap.size w1 w6 from bU OWN5.o HB5.o r2 (He _));have PL6:Ic (Pl w6 v6 (fs++gs)):=(by rw[<-HT.o.1];exact kf (B:=w1.heap.size) (by rw[gV,Hx];exact r1) (λt ht=>((Hv.1 ht).elim (HES.o.1 t) (HES.o.2 t)).below (HBW.o.trans (HB6.o.mono HBW.o.size))));obtain⟨va6,vc6,hv6⟩:=a7 r1;subst hv6;clear r1 r2)|(go_at_call 123;refine(yt p n o v N _ (fs++gs) _ HP.o HO.o hN0 hN HT.o.2 ?_ PL6.o).mono ?_;(rw[<-HT.o.1,Ia,Hx];exact hm');rintro e w9 ⟨u9,rfl,hu9,hb9⟩;have HB9:=aa (show Below w1.heap.size w1 w9 from HB6.o.trans (hb9.mono HB6.o.size));have HU9:=aa hu9;obtain⟨ua9,uc9,rfl,_,_⟩:=hu9;clear hb9))
 go_wp2;go_ret;exact⟨_,rfl,HU9.o,HBW.o.trans (HB9.o.mono HBW.o.size)⟩
theorem Fp(xs ys:List Int)(b off cap b2 off2 cap2:Nat)(w:World)(hm:xs.length<=3)(hxy:xs.length=ys.length)(hbx:∀x∈xs,0<=x/\x<=20000)(hby:∀x∈ys,0<=x/\x<=20000)(hlt:b<w.heap.size)(hlt2:b2<w.heap.size)(hc:cM w b off xs)(hc2:cM w b2 off2 ys):Calls prog 72 #[.slice (some ⟨b,off,none⟩) xs.length cap,.slice (some ⟨b2,off2,none⟩) ys.length cap2,.int .i64 1] w λe w'=>∃u,e=.returned u/\w'.ownsRow w.heap.size 3 1 u (ah (·+·) xs ys).length ((ah (·+·) xs ys).map (Value.int .i64))/\Below w.heap.size w w':=by
 have HC:=aa hc;have HC2:=aa hc2;have HBX:=aa hbx;have HBY:=aa hby;have HLZ:=aa (eP (·+·) xs ys hxy)
 rw[<-hxy];have HXY:=aa hxy;clear hc hc2 hbx hby hxy;obtain⟨i0,hi,hz0,hz1,hz2⟩:=info_parts Tryz.info_int;go_enter func72,ntmps72;go_wp2;go_loopw [7,8] (λv i wr=>∃k:Nat,k<=xs.length/\i=.int .i64 k/\wr.ownsRow w.heap.size 3 1 v k (((ah (·+·) xs ys).take k).map (Value.int .i64))/\Below w.heap.size w wr) (λ_ i _=>xs.length-(intOf i).toNat)
 case atStart=>exact⟨0,Hl _,rfl,World.ownsRow_nil _ _ _ _,Hf _ _⟩
 case round=>
  obtain⟨k,hk,rfl,hown,hbr⟩:=hrel;have HOWN:=aa hown;have HBR:=aa hbr;by_cases hk2:k<xs.length
  ·have hcell:=HC.o k hk2;have hcell2:=HC2.o k (by rw[<-HXY.o];exact hk2);have HZ:=aa (ky (·+·) xs ys HXY.o k hk2)
   have hx:=HBX.o _ (gl xs k hk2);have hy:=HBY.o _ (gl ys k (by rw[<-HXY.o];exact hk2));generalize xs.getD k 0=x at hcell HZ hx;generalize ys.getD k 0=y at hcell2 HZ hy;rw[<-hbr.cell (p:=⟨b,off+k,none⟩) hlt] at hcell;rw[<-hbr.cell (p:=⟨b2,off2+k,none⟩) hlt2] at hcell2;have hsz:=hbr.size;obtain⟨hx1,hx2⟩:=hx;obtain⟨hy1,hy2⟩:=hy;clear hown hbr;go_wp2_with (at_builtin;refine wpList_append_own _ rfl _ _ 37 rfl w.heap.size 3 i0 (.int .i64 0) 1 8 underlying37 hi hz0 hz1 hz2 rfl (by decide) _ _ _ rfl (HOWN.o.alloc _) ⟨wr.heap.size,0,none⟩ 1 1 [.int .i64 (x+y)] rfl rfl (cell_one_new _ _ _) (iU _) (by unfold maxLen;omega) (by omega) (by simp;omega) ?_);intro v' w1 hown' hgrow _;rw[<-List.map_take] at hown';have R:=oK (zs:=ah (·+·) xs ys) (by rw[HLZ.o];exact hk2) (HZ.o.trans rfl) HBR.o HOWN.o hown' hgrow
   have R2:=aa R;clear hown' hgrow R;go_wp2;go_roundw;case rel=>exact⟨k+1,by omega,by go_num,R2.o.1,R2.o.2⟩
   case measure=>simp[intOf];omega
  ·go_wp2;go_ret;have e1:k=(ah (·+·) xs ys).length:=by rw[HLZ.o];omega
   subst e1;have h2:=HOWN.o;rw[Hz (He _)] at h2;exact⟨_,rfl,h2,HBR.o⟩
theorem Fq(x y:Value)(xs ys:List Int)(w:World)(h0:0<xs.length)(hm:xs.length<=3)(hxy:xs.length=ys.length)(hbx:∀x∈xs,0<=x/\x<=20000)(hby:∀x∈ys,0<=x/\x<=20000)(hs:Sl w x xs)(hs2:Sl w y ys):Calls prog 72 #[x,y,.int .i64 1] w λe w'=>∃u,e=.returned u/\w'.ownsRow w.heap.size 3 1 u (ah (·+·) xs ys).length ((ah (·+·) xs ys).map (Value.int .i64))/\Below w.heap.size w w':=by obtain⟨a,cap,rfl,h1⟩:=hs;obtain⟨a2,cap2,rfl,h2⟩:=hs2;obtain⟨b,off,rfl,hlt,hc⟩:=h1 h0;obtain⟨b2,off2,rfl,hlt2,hc2⟩:=h2 (by omega);exact Fp xs ys b off cap b2 off2 cap2 w hm hxy hbx hby hlt hlt2 hc hc2
def nt(r:Option Nat)(v:Value):Prop:=∀b off n c,v=.slice (some ⟨b,off,none⟩) n c->some b≠r
theorem Fr{w w':World}{r:Option Nat}{v:Value}{xs:List Int}(h:w.grownBy w' r)(hs:Sl w v xs)(hne:nt r v):Sl w' v xs:=by obtain⟨a,cap,rfl,h1⟩:=hs;refine⟨a,cap,rfl,λhp=>?_⟩;obtain⟨b,off,rfl,hlt,hc⟩:=h1 hp;exact⟨b,off,rfl,Hj hlt h.size,λi hi=>h.cell (hc i hi) (hne b off _ _ rfl)⟩
structure jB(N:Nat)(w1 wr:World)(v:Value)(ls:List TV):Prop where
 own:wr.ownsRow w1.heap.size 54 2 v ls.length (ak ls)
 es:Es wr ls
 ap:∀t∈ls,nt v.ownBlock t.2.1
 ln:∀t∈ls,t.2.2.length=N
 below:Below w1.heap.size w1 wr
theorem jB.next{N:Nat}{w1 wr w':World}{v:Value}{ls:List TV}(h:jB N w1 wr v ls)(hb:Below wr.heap.size wr w'):jB N w1 w' v ls:=
 ⟨aH h.own hb,h.es.below hb,h.ap,h.ln,h.below.trans (hb.mono h.below.size)⟩
theorem jB.add{N:Nat}{w1 wr w':World}{v v':Value}{ls:List TV}{t:TV}(hN:0<N)(h:jB N w1 wr v ls)(hs:Sl wr t.2.1 t.2.2)(hl:t.2.2.length=N)(ha:nt v.ownBlock t.2.1)(hown:w'.ownsRow w1.heap.size 54 2 v' (ls.length+1) (ak ls++ak [t]))(hg:wr.grownBy w' v.ownBlock)(hloc:v'.ownBlock=v.ownBlock\/v'.ownBlock=some wr.heap.size):jB N w1 w' v' (ls++[t]):=by
 have hall:∀u∈ls++[t],Sl wr u.2.1 u.2.2/\nt v.ownBlock u.2.1/\u.2.2.length=N:=by
  intro u hu;rcases Hv.1 hu with hu|hu
  ·exact⟨h.es u hu,h.ap u hu,h.ln u hu⟩
  ·rw[Hw] at hu;subst hu;exact⟨hs,ha,hl⟩
 refine⟨by rw[gV,Hx];exact hown,λu hu=>Fr hg (hall u hu).1 (hall u hu).2.1,λu hu=>?_,λu hu=>(hall u hu).2.2,bU h.own h.below hg (He _)⟩;rcases hloc with e|e
 ·rw[e];exact(hall u hu).2.1
 ·rw[e];intro b off n c hv hb;obtain⟨a,cap,hv2,h1⟩:=(hall u hu).1;obtain⟨b2,off2,hv3,hlt,_⟩:=h1 (by rw[(hall u hu).2.2];exact hN);rw[hv2,hv3] at hv;simp only[H7,H6,Addr.mk.injEq] at hv hb;omega
theorem Fs{w:World}{B:Nat}{T:TypeId}{s:Nat}{u v:Value}{n m:Nat}{xs ys:List Value}{W:World}{B2:Nat}{T2:TypeId}{s2:Nat}(h:w.ownsRow B T s u n xs)(k:W.ownsRow B2 T2 s2 v m ys)(hB:W.heap.size<=B):nt v.ownBlock u:=by
 intro b off n c e hb;have hu:u.ownBlock=some b:=by rw[e];rfl
 have h1:=(Hd h b hu).1;have h2:=(Hd k b hb.symm).2;omega
theorem Fu(p:Int)(fs gs:List Tm)(i:Nat)(h:i<fs.length):aB p (fs.take (i+1)) gs=aB p (fs.take i) gs++aT p (fs.getD i aM) gs:=by rw[List.take_succ_eq_append_getElem h,xG];congr 1;simp[Go.Proofs.YtglijodcbdcngaaGreat.aB,Hs,h]
theorem Fw(p:Int)(t:Tm)(gs:List Tm)(k:Nat)(h:k<gs.length):aT p t (gs.take (k+1))=aT p t (gs.take k)++[(t.1*(gs.getD k aM).1%p,ah (·+·) t.2 (gs.getD k aM).2)]:=by rw[List.take_succ_eq_append_getElem h];unfold aT;rw[List.map_append];congr 1;simp[Hs,h]
theorem yu(p:Int)(fs gs:List Tm):(aB p fs gs).length=fs.length*gs.length:=by
 induction fs with
 |nil=>simp[Go.Proofs.YtglijodcbdcngaaGreat.aB]
 |cons t fs ih=>have e:aB p (t::fs) gs=aT p t gs++aB p fs gs:=rfl;rw[e,Hx,ih];simp[aT,Nat.add_mul];omega
theorem rj{p:Int}{N:Nat}(hp:2<=p){fs gs:List Tm}(lf:cT N fs)(lg:cT N gs)(bf:fR fs)(bg:fR gs):∀t∈aB p fs gs,dP p N t:=by intro t ht;simp only[Go.Proofs.YtglijodcbdcngaaGreat.aB,aT,List.mem_flatMap,H8] at ht;obtain⟨a,ha,b,hb,rfl⟩:=ht;refine⟨by simp only;rw[eP _ _ _ (by rw[lf a ha,lg b hb])];exact lf a ha,rS _ _ (bf a ha) (bg b hb),Int.emod_nonneg _ (by omega),Int.emod_lt_of_pos _ (by omega)⟩
theorem Fx{i k a b:Nat}(hi:i<a)(hk:k<=b)(ha:a<=2000)(hb:b<=2000):i*b+k<=1200000000000:=by have h1:(i+1)*b<=2000*2000:=Nat.mul_le_mul (by omega) hb;rw[Nat.add_mul] at h1;omega
theorem Fy(p n o v:Int)(N:Nat)(fv gv:Value)(fs gs:List Tm)(w:World)(hp:2<=p/\p<=101)(ho:o=1\/o=2)(hN0:0<N)(hN:N<=3)(lf:cT N fs)(lg:cT N gs)(cf:∀t∈fs,0<=t.1/\t.1<p)(cg:∀t∈gs,0<=t.1/\t.1<p)(bf:fR fs)(bg:fR gs)(hlf:fs.length<=2000)(hlg:gs.length<=2000)(pf:Pl w fv fs)(pg:Pl w gv gs):Calls prog 89 #[az p n o v,fv,gv] w λe w'=>∃u,e=.returned u/\Pl w' u (aG p o (aB p fs gs))/\Below w.heap.size w w':=by
 have HF:=aa (Hg lf (Hg cf bf));have HG:=aa (Hg lg (Hg cg bg));have HO:=aa ho;obtain⟨hp1,hp2⟩:=hp;obtain⟨fa,fc,rfl,_,hfc⟩:=pf;obtain⟨ga,gc,rfl,_,hgc⟩:=pg;have HFC:=aa hfc;have HGC:=aa hgc;obtain⟨i0,hi,hz0,hz1,hz2⟩:=info_parts Tryz.infoTerm;have HI:=aa (Hg hi (Hg hz0 (Hg hz1 hz2)));obtain⟨w1,hw1⟩:∃w1,w1=w.alloc (.cells #[.int .i64 p,.int .i64 n,.int .i64 o,.int .i64 v] 23):=⟨_,rfl⟩;have hbx:aX w1 w.heap.size p n o v:=by rw[hw1];exact aX.new w p n o v _
 have hbw:Below w.heap.size w w1:=by rw[hw1];exact bp
 have HBX:=aa hbx;have HBW:=aa hbw;clear hfc hgc lf lg cf cg bf bg ho hi hz0 hz1 hz2 hbx hbw;go_enter func89,ntmps89;go_wp2_with fail;rw[<-hw1];clear hw1;go_loopw [7,8] (λz i wr=>∃(ii:Nat)(ls:List TV),ii<=fs.length/\i=.int .i64 ii/\ls.map tm=aB p (fs.take ii) gs/\jB N w1 wr z ls) (λ_ i _=>fs.length-(intOf i).toNat);case atStart=>exact⟨0,[],Hl _,rfl,rfl,World.ownsRow_nil _ _ _ _,λt ht=>by simp at ht,λt ht=>by simp at ht,λt ht=>by simp at ht,Hf _ _⟩
 case round=>
  obtain⟨wo,hwo⟩:∃wo:World,wo=wr:=⟨_,rfl⟩;subst hwo;obtain⟨ii,ls0,hi1,rfl,heq0,hprd0⟩:=hrel;have HE0:=aa heq0;have HP0:=aa hprd0;obtain⟨za0,zc0,hz0⟩:=a7 hprd0.own;subst hz0;clear heq0 hprd0;by_cases hi2:ii<fs.length
  ·go_wp2;go_loopw [7,9] (λz i wr=>∃(k:Nat)(ls:List TV),k<=gs.length/\i=.int .i64 k/\ls.map tm=aB p (fs.take ii) gs++aT p (fs.getD ii aM) (gs.take k)/\jB N w1 wr z ls) (λ_ i _=>gs.length-(intOf i).toNat);case atStart=>exact⟨0,ls0,Hl _,rfl,by rw[HE0.o];simp[aT],HP0.o⟩
   case round=>
    obtain⟨k,ls,hk1,rfl,heq,hprd⟩:=hrel;have HE:=aa heq;have HPR:=aa hprd;obtain⟨za,zc,hz⟩:=a7 hprd.own;subst hz;clear heq hprd;by_cases hk2:k<gs.length
    ·obtain⟨b,off,rfl,hlt,hat⟩:=HFC.o (by omega);obtain⟨b2,off2,rfl,hlt2,hat2⟩:=HGC.o (by omega);obtain⟨c0,ev,c1,hse⟩:=hat ii hi2;obtain⟨d0,ev2,d1,hse2⟩:=hat2 k hk2;have HLL:Ic (ls.length<=1200000000000):=by have h1:(ls.map tm).length=_:=congrArg List.length HE.o;rw[Ia,Hx,yu] at h1;simp only[aT,Ia,List.length_take] at h1;have h2:=Fx (i:=ii) (k:=k) (a:=fs.length) (b:=gs.length) hi2 hk1 hlf hlg;rw[Nat.min_eq_left hi1,Nat.min_eq_left hk1] at h1;show _<=_;omega
     have HTF:=aa (Hg (HF.o.1 _ (eA fs ii hi2)) (Hg (HF.o.2.1 _ (eA fs ii hi2)) (HF.o.2.2 _ (eA fs ii hi2))));have HTG:=aa (Hg (HG.o.1 _ (eA gs k hk2)) (Hg (HG.o.2.1 _ (eA gs k hk2)) (HG.o.2.2 _ (eA gs k hk2))));have HSN:=aa (Fw p (fs.getD ii aM) gs k hk2);generalize hft:fs.getD ii aM=t at c0 hse HTF HSN HE;have HFT:=aa hft;generalize gs.getD k aM=u at d0 hse2 HTG HSN;obtain⟨tc,te⟩:=t;obtain⟨uc,ue⟩:=u;have HDN:=aa (HBW.o.trans (HPR.o.below.mono HBW.o.size));have HSE:=aa (hse.below HDN.o);have HSE2:=aa (hse2.below HDN.o);obtain⟨ea,ec,rfl,_⟩:=hse;obtain⟨ea2,ec2,rfl,_⟩:=hse2;simp only at c0 c1 d0 d1;have hte0:0<te.length:=by have:=HTF.o.1;simp only at this;omega
     have hte3:te.length<=3:=by have:=HTF.o.1;simp only at this;omega
     have HLE:Ic (te.length=ue.length):=HTF.o.1.trans HTG.o.1.symm;have htc:0<=tc/\tc<p:=HTF.o.2.1;have huc:0<=uc/\uc<p:=HTG.o.2.1;obtain⟨hm1,hm2⟩:=xJ (a:=tc) (b:=uc) ⟨by omega,by omega,by omega,by omega⟩;have HPT:=aa (fun(W:World) (h1:Sl W (.slice ea te.length ec) te) (h2:Sl W (.slice ea2 ue.length ec2) ue)=>Fq _ _ te ue W hte0 hte3 HLE.o HTF.o.2.2 HTG.o.2.2 h1 h2);obtain⟨_,bx0,_,_,_⟩:=HBX.o;have KEEP:Ic (∀W,Below w1.heap.size w1 W->(Ic (Below w1.heap.size w1 W)/\W.cell? ⟨w.heap.size,0,none⟩=some (.int .i64 p)/\W.cell? ⟨b,off+ii*2,none⟩=some (.int .i64 tc)/\W.cell? ⟨b,off+ii*2+1,none⟩=some (.slice ea te.length ec)/\W.cell? ⟨b2,off2+k*2,none⟩=some (.int .i64 uc)/\W.cell? ⟨b2,off2+k*2+1,none⟩=some (.slice ea2 ue.length ec2))):=
      λW hb=>⟨hb,ae bx0 hb,ae (ae c0 HBW.o) hb,ae (ae c1 HBW.o) hb,ae (ae d0 HBW.o) hb,ae (ae d1 HBW.o) hb⟩
     clear hft hat hat2 c0 c1 d0 d1 bx0 htc huc;go_wp2;go_region_held_law (λW=>Ic (Below w1.heap.size w1 W)/\W.cell? ⟨w.heap.size,0,none⟩=some (.int .i64 p)/\W.cell? ⟨b,off+ii*2,none⟩=some (.int .i64 tc)/\W.cell? ⟨b,off+ii*2+1,none⟩=some (.slice ea te.length ec)/\W.cell? ⟨b2,off2+k*2,none⟩=some (.int .i64 uc)/\W.cell? ⟨b2,off2+k*2+1,none⟩=some (.slice ea2 ue.length ec2))
      (first|exact KEEP.o _ HPR.o.below.drew|exact KEEP.o _ PR7.o.below|exact KEEP.o _ (PR6.o.next af).below|exact KEEP.o _ PR6.o.below)
      (first|(refine jv rfl (.tmp 22) (.tmp 49) 30 30 rfl w1.heap.size 54 i0 _ underlying30 underlying30 HI.o.1 HI.o.2.1 HI.o.2.2.1 HI.o.2.2.2 rfl (.slice za ls.length zc) ls.length (ak ls) (by simp[Act.eval,Act.put]) (PR6.o.next af).own [(tc*uc%p,.slice ua6 (ah (·+·) te ue).length uc6,ah (·+·) te ue)] 1 rfl (some ⟨w6.heap.size,0,none⟩) 1 (by simp[Act.eval,Act.put]) (λ_=>⟨w6.heap.size,0,rfl,kn w6 (tc*uc%p) (.slice ua6 (ah (·+·) te ue).length uc6) (ah (·+·) te ue) 54⟩) ONE6.o (by have:=HLL.o;omega) (Hk PR6.o.below.size (by simp)) ?_;intro v7 w7 r1 r2 r3;have PR7:=aa (jB.add hN0 (PR6.o.next af) (SL6.o.below af) LN6.o AP6.o r1 r2 r3);obtain⟨va7,vc7,hv7⟩:=a7 r1;subst hv7;clear r1 r2 r3)|(go_at_call 72;refine(HPT.o _ ?_ ?_).mono ?_;exact HSE.o.below (Hf _ _).drew;exact HSE2.o.below (Hf _ _).drew;rintro e w6 ⟨u6,rfl,hu6,hb6⟩;have PR6:=aa (HPR.o.next (((Hf wr.heap.size wr).drew).trans hb6));have AP6:=aa (Fs hu6 HPR.o.own (He _));have SL6:=aa (jc hu6);have LN6:Ic ((ah (·+·) te ue).length=N):=((eP _ _ _ HLE.o).trans HTF.o.1);obtain⟨ua6,uc6,hv6⟩:=a7 hu6;subst hv6;have ONE6:=aa (eK (w:=w6) (ts:=[(tc*uc%p,.slice ua6 (ah (·+·) te ue).length uc6,ah (·+·) te ue)]) (λu hu=>(by rw[Hw] at hu;subst hu;exact SL6.o)));clear hu6 hb6))
     all_goals
      go_wp2;first
       |exact⟨⟨k+1,ls++[_],by omega,by go_num,by rw[List.map_append,HE.o,HSN.o];simp[tm],PR7.o⟩,by simp[intOf];omega⟩
       |(go_roundw;(case rel=>exact⟨k+1,ls++[_],by omega,by go_num,by rw[List.map_append,HE.o,HSN.o];simp[tm],PR7.o⟩);case measure=>simp[intOf];omega)
    ·have e:k=gs.length:=by omega
     subst e;go_wp2;go_roundw;case rel=>exact⟨ii+1,ls,by omega,by go_num,by rw[HE.o,Fu p fs gs ii hi2,Hz (He _)],HPR.o⟩
     case measure=>simp[intOf];omega
  ·have e:ii=fs.length:=by omega
   subst e;have HEF:Ic (ls0.map tm=aB p fs gs):=by show _=_;rw[HE0.o,Hz (He _)]
   have HPL:Ic (Pl wo (.slice za0 ls0.length zc0) (aB p fs gs)):=by rw[<-HEF.o];exact kf HP0.o.own HP0.o.es
   have HLL:Ic ((aB p fs gs).length<=1200000000000):=by show _<=_;rw[yu];exact Hk (Nat.mul_le_mul hlf hlg) (by decide)
   have HTK:=aa (rj (p:=p) (N:=N) hp1 HF.o.1 HG.o.1 HF.o.2.2 HG.o.2.2);obtain⟨_,bx0,bx1,bx2,bx3⟩:=HBX.o.below HP0.o.below;go_wp2_with fail;refine(yt p n o v N _ (aB p fs gs) _ ⟨hp1,hp2⟩ HO.o hN0 hN HTK.o HLL.o HPL.o).mono ?_;rintro e w9 ⟨u9,rfl,hu9,hb9⟩;have HU9:=aa hu9;have HB9:=aa ((HBW.o.trans (HP0.o.below.mono HBW.o.size)).trans (hb9.mono (HBW.o.trans (HP0.o.below.mono HBW.o.size)).size));obtain⟨ua9,uc9,rfl,_,_⟩:=hu9;clear hb9;go_wp2;go_ret;exact⟨_,rfl,HU9.o,HB9.o⟩
end Go.Proofs.YtglijodcbdcngaaGreat
