/- Sum of the reference. -/
import Derived.Test.YteimdcndjjclnaaGreatRB
import Derived.Deep.RegionHeldLaw
set_option maxHeartbeats 2000000
set_option maxRecDepth 100000
namespace Go.Proofs.YteimdcndjjclnaaGreat
set_option linter.all false
open Go.Proofs.Tryz Go.RowKit
theorem KY{P:Program}{w:World}{t u ty e:TypeId}{i:TypeInfo}{v x:Value}(ht:P.underlying t=some (.slice e))(hu:P.underlying u=some (.slice e))(hi:P.info? e=some i):(Builtin.append_ #[t,u] ty #[v,x]).run P w=(Builtin.append_ #[t,t] ty #[v,x]).run P w:=by cases v<;>simp[Builtin.append_,run_underlying ht,run_underlying hu,sizeOf,typeInfo,hi]
theorem KZ{P:Program}(w:World)(base:Nat)(t t2 ty e:TypeId)(i:TypeInfo)(z:Value)(ht:P.underlying t=some (.slice e))(ht2:P.underlying t2=some (.slice e))(hi:P.info? e=some i)(hz:i.zero=some z)(hsize:i.size=2)(hby:i.bytes=32)(hzs:z.cells.size=2)(v:Value)(n:Nat)(xs:List Value)(hown:w.ownsRow base e 2 v n xs)(us:List TV)(m:Nat)(hm:us.length=m)(ua:Option Addr)(uc:Nat)(hcs:0<m->∃b off,ua=some ⟨b,off,none⟩/\∀j u,(au us)[j]?=some u->w.cell? ⟨b,off+j,none⟩=some u)(hone:∀u∈au us,u.oneCell'=true)(hb:n+m<=2400000000000)(hbase:base<=w.heap.size):∃v' w',(Builtin.append_ #[t,t2] ty #[v,.slice ua m uc]).run P w=.ok v' w'/\w'.ownsRow base e 2 v' (n+m) (xs++au us)/\w.grownBy w' v.ownBlock/\(v'.ownBlock=v.ownBlock\/v'.ownBlock=some w.heap.size):=by
 rw[KY ht ht2 hi];subst hm;by_cases h0:0<us.length
 .obtain⟨b,off,rfl,hc⟩:=hcs h0;obtain⟨v',w',hr,h2,h3,_,h5⟩:=run_append_own_at (P:=P) w base t ty e i z 2 32 ht hi hz hsize hby hzs (by decide) v n xs hown ⟨b,off,none⟩ us.length uc (au us) (kU us) (λj u hj=>by
   have:=hc j u hj;by_cases hj0:j=0
   .subst hj0;simpa [Addr.add] using this
   .simpa [Addr.add,hj0] using this) hone (lR hb).1 (lR hb).2 hbase
  exact⟨v',w',hr,h2,h3,h5⟩
 .have e0:us=[]:=Nk.1 (by omega);subst e0;cases ua with
  |none=>exact⟨v,w,qJ w base t ty e i 2 ht hi v n uc xs hown,by simpa [au] using hown,qB _ _,Np rfl⟩
  |some ad=>obtain⟨v',w',hr,h2,h3,_,h5⟩:=run_append_own_at (P:=P) w base t ty e i z 2 32 ht hi hz hsize hby hzs (by decide) v n xs hown ad 0 uc [] (by simp) (λj u hj=>by simp at hj) (λu hu=>by simp at hu) (lR hb).1 (lR hb).2 hbase;exact⟨v',w',hr,h2,h3,h5⟩
theorem K1{P:Program}{ops:Array Oper}{o:Oper}{a:Act}{w:World}{K:Act->World->Prop}{Q:Exit->Act->World->Prop}{E:Prop}(hgd:o.guard=none)(s x:Operand)(t t2:TypeId)(ho:o.op=.call {callee:=.builtin .append,args:=#[s,x],argTypes:=#[t,t2]})(base:Nat)(e:TypeId)(i:TypeInfo)(z:Value)(ht:P.underlying t=some (.slice e))(ht2:P.underlying t2=some (.slice e))(hi:P.info? e=some i)(hz:i.zero=some z)(hsize:i.size=2)(hby:i.bytes=32)(hzs:z.cells.size=2)(v:Value)(n:Nat)(xs:List Value)(hs:a.eval s=v)(hown:w.ownsRow base e 2 v n xs)(us:List TV)(m:Nat)(hm:us.length=m)(ua:Option Addr)(uc:Nat)(hx:a.eval x=.slice ua m uc)(hcs:0<m->∃b off,ua=some ⟨b,off,none⟩/\∀j u,(au us)[j]?=some u->w.cell? ⟨b,off+j,none⟩=some u)(hone:∀u∈au us,u.oneCell'=true)(hb:n+m<=2400000000000)(hbase:base<=w.heap.size)(hK:∀v' w',w'.ownsRow base e 2 v' (n+m) (xs++au us)->w.grownBy w' v.ownBlock->(v'.ownBlock=v.ownBlock\/v'.ownBlock=some w.heap.size)->K (a.put o.dst v') w'):if Region.wanted o (yielded ops a.tmps)=true then Oper.wp P o a w K Q else E:=by
 have hw:Region.wanted o (yielded ops a.tmps)=true:=by simp[Region.wanted,hgd]
 rw[M9 hw];obtain⟨v',w',hr,h2,h3,h4⟩:=KZ (P:=P) w base t t2 o.type e i z ht ht2 hi hz hsize hby hzs v n xs hown us m hm ua uc hcs hone hb hbase;unfold Oper.wp execOp;simp only[ho,resolve,invoke,builtin,Sem.run_bind,Sem.run_pure,Result.andThen_ok,List.map_toArray,List.map_cons,List.map_nil,hs,hx,hr];exact hK v' w' h2 h3 h4
theorem K2(xs ys:List Int)(b off cap b2 off2 cap2:Nat)(w:World)(hm:xs.length<=3)(hxy:xs.length=ys.length)(hbx:∀x∈xs,0<=x/\x<=20000)(hby:∀x∈ys,0<=x/\x<=20000)(hlt:b<w.heap.size)(hlt2:b2<w.heap.size)(hc:ef w b off xs)(hc2:ef w b2 off2 ys):Calls prog 72 #[.slice (some ⟨b,off,none⟩) xs.length cap,.slice (some ⟨b2,off2,none⟩) ys.length cap2,.int .i64 1] w λe w'=>∃u,e=.returned u/\w'.ownsRow w.heap.size 3 1 u (aY (·+·) xs ys).length ((aY (·+·) xs ys).map (Value.int .i64))/\Below w.heap.size w w':=by
 have HC:=ae hc;have HC2:=ae hc2;have HBX:=ae hbx;have HBY:=ae hby;have HLZ:=ae (jz (·+·) xs ys hxy)
 rw[<-hxy];have HXY:=ae hxy;clear hc hc2 hbx hby hxy;obtain⟨i0,hi,hz0,hz1,hz2⟩:=info_parts Tryz.info_int;go_enter func72,ntmps72;go_wp2;go_loopw [7,8] (λv i wr=>∃k:Nat,k<=xs.length/\i=.int .i64 k/\wr.ownsRow w.heap.size 3 1 v k (((aY (·+·) xs ys).take k).map (Value.int .i64))/\Below w.heap.size w wr) (λ_ i _=>xs.length-(intOf i).toNat)
 case atStart=>exact⟨0,MP _,rfl,World.ownsRow_nil _ _ _ _,MJ _ _⟩
 case round=>
  obtain⟨k,hk,rfl,hown,hbr⟩:=hrel;have HOWN:=ae hown;have HBR:=ae hbr;by_cases hk2:k<xs.length
  .have hcell:=HC.o k hk2;have hcell2:=HC2.o k (by rw[<-HXY.o];exact hk2);have HZ:=ae (oW (·+·) xs ys HXY.o k hk2)
   have hx:=HBX.o _ (fh xs k hk2);have hy:=HBY.o _ (fh ys k (by rw[<-HXY.o];exact hk2));generalize xs.getD k 0=x at hcell HZ hx;generalize ys.getD k 0=y at hcell2 HZ hy;rw[<-hbr.cell (p:=⟨b,off+k,none⟩) hlt] at hcell;rw[<-hbr.cell (p:=⟨b2,off2+k,none⟩) hlt2] at hcell2;have hsz:=hbr.size;obtain⟨hx1,hx2⟩:=hx;obtain⟨hy1,hy2⟩:=hy;clear hown hbr;go_wp2_with (at_builtin;refine wpList_append_own _ rfl _ _ 24 rfl w.heap.size 3 i0 (.int .i64 0) 1 8 underlying24 hi hz0 hz1 hz2 rfl (by decide) _ _ _ rfl (HOWN.o.alloc _) ⟨wr.heap.size,0,none⟩ 1 1 [.int .i64 (x+y)] rfl rfl (cell_one_new _ _ _) (um _) (by unfold maxLen;omega) (by omega) (by simp;omega) ?_);intro v' w1 hown' hgrow _;rw[<-List.map_take] at hown';have R:=Iv (zs:=aY (·+·) xs ys) (by rw[HLZ.o];exact hk2) (HZ.o.trans rfl) HBR.o HOWN.o hown' hgrow
   have R2:=ae R;clear hown' hgrow R;go_wp2;go_roundw;case rel=>exact⟨k+1,by omega,by go_num,R2.o.1,R2.o.2⟩
   case measure=>simp[intOf];omega
  .go_wp2;go_ret;have e1:k=(aY (·+·) xs ys).length:=by rw[HLZ.o];omega
   subst e1;have h2:=HOWN.o;rw[M2 (MI _)] at h2;exact⟨_,rfl,h2,HBR.o⟩
theorem K3(x y:Value)(xs ys:List Int)(w:World)(h0:0<xs.length)(hm:xs.length<=3)(hxy:xs.length=ys.length)(hbx:∀x∈xs,0<=x/\x<=20000)(hby:∀x∈ys,0<=x/\x<=20000)(hs:Sl w x xs)(hs2:Sl w y ys):Calls prog 72 #[x,y,.int .i64 1] w λe w'=>∃u,e=.returned u/\w'.ownsRow w.heap.size 3 1 u (aY (·+·) xs ys).length ((aY (·+·) xs ys).map (Value.int .i64))/\Below w.heap.size w w':=by obtain⟨a,cap,rfl,h1⟩:=hs;obtain⟨a2,cap2,rfl,h2⟩:=hs2;obtain⟨b,off,rfl,hlt,hc⟩:=h1 h0;obtain⟨b2,off2,rfl,hlt2,hc2⟩:=h2 (by omega);exact K2 xs ys b off cap b2 off2 cap2 w hm hxy hbx hby hlt hlt2 hc hc2
def pV(r:Option Nat)(v:Value):Prop:=∀b off n c,v=.slice (some ⟨b,off,none⟩) n c->some b≠r
theorem K4{w w':World}{r:Option Nat}{v:Value}{xs:List Int}(h:w.grownBy w' r)(hs:Sl w v xs)(hne:pV r v):Sl w' v xs:=by obtain⟨a,cap,rfl,h1⟩:=hs;refine⟨a,cap,rfl,λhp=>?_⟩;obtain⟨b,off,rfl,hlt,hc⟩:=h1 hp;exact⟨b,off,rfl,MN hlt h.size,λi hi=>h.cell (hc i hi) (hne b off _ _ rfl)⟩
structure kY(N:Nat)(w1 wr:World)(v:Value)(ls:List TV):Prop where
 own:wr.ownsRow w1.heap.size 57 2 v ls.length (au ls)
 es:Es wr ls
 ap:∀t∈ls,pV v.ownBlock t.2.1
 ln:∀t∈ls,t.2.2.length=N
 below:Below w1.heap.size w1 wr
theorem kY.next{N:Nat}{w1 wr w':World}{v:Value}{ls:List TV}(h:kY N w1 wr v ls)(hb:Below wr.heap.size wr w'):kY N w1 w' v ls:=
 ⟨aI h.own hb,h.es.below hb,h.ap,h.ln,h.below.trans (hb.mono h.below.size)⟩
theorem kY.add{N:Nat}{w1 wr w':World}{v v':Value}{ls:List TV}{t:TV}(hN:0<N)(h:kY N w1 wr v ls)(hs:Sl wr t.2.1 t.2.2)(hl:t.2.2.length=N)(ha:pV v.ownBlock t.2.1)(hown:w'.ownsRow w1.heap.size 57 2 v' (ls.length+1) (au ls++au [t]))(hg:wr.grownBy w' v.ownBlock)(hloc:v'.ownBlock=v.ownBlock\/v'.ownBlock=some wr.heap.size):kY N w1 w' v' (ls++[t]):=by
 have hall:∀u∈ls++[t],Sl wr u.2.1 u.2.2/\pV v.ownBlock u.2.1/\u.2.2.length=N:=by
  intro u hu;rcases MY.1 hu with hu|hu
  .exact⟨h.es u hu,h.ap u hu,h.ln u hu⟩
  .rw[MZ] at hu;subst hu;exact⟨hs,ha,hl⟩
 refine⟨by rw[km,M0];exact hown,λu hu=>K4 hg (hall u hu).1 (hall u hu).2.1,λu hu=>?_,λu hu=>(hall u hu).2.2,dE h.own h.below hg (MI _)⟩;rcases hloc with e|e
 .rw[e];exact(hall u hu).2.1
 .rw[e];intro b off n c hv hb;obtain⟨a,cap,hv2,h1⟩:=(hall u hu).1;obtain⟨b2,off2,hv3,hlt,_⟩:=h1 (by rw[(hall u hu).2.2];exact hN);rw[hv2,hv3] at hv;simp only[M4,M3,Addr.mk.injEq] at hv hb;omega
theorem K5{w:World}{B:Nat}{T:TypeId}{s:Nat}{u v:Value}{n m:Nat}{xs ys:List Value}{W:World}{B2:Nat}{T2:TypeId}{s2:Nat}(h:w.ownsRow B T s u n xs)(k:W.ownsRow B2 T2 s2 v m ys)(hB:W.heap.size<=B):pV v.ownBlock u:=by
 intro b off n c e hb;have hu:u.ownBlock=some b:=by rw[e];rfl
 have h1:=(MH h b hu).1;have h2:=(MH k b hb.symm).2;omega
theorem K6(p:Int)(fs gs:List Tm)(i:Nat)(h:i<fs.length):bk p (fs.take (i+1)) gs=bk p (fs.take i) gs++eK p (fs.getD i bi) gs:=by rw[Na h,B4];congr 1;simp[Go.Proofs.YteimdcndjjclnaaGreat.bk,MV,h]
theorem K7(p:Int)(t:Tm)(gs:List Tm)(k:Nat)(h:k<gs.length):eK p t (gs.take (k+1))=eK p t (gs.take k)++[(t.1*(gs.getD k bi).1%p,aY (·+·) t.2 (gs.getD k bi).2)]:=by rw[Na h];unfold eK;rw[Nd];congr 1;simp[MV,h]
theorem Cy(p:Int)(fs gs:List Tm):(bk p fs gs).length=fs.length*gs.length:=by
 induction fs with
 |nil=>simp[Go.Proofs.YteimdcndjjclnaaGreat.bk]
 |cons t fs ih=>have e:bk p (t::fs) gs=eK p t gs++bk p fs gs:=rfl;rw[e,M0,ih];simp[eK,Nat.add_mul];omega
theorem Cz{p:Int}{N:Nat}(hp:2<=p){fs gs:List Tm}(lf:ep N fs)(lg:ep N gs)(bf:mW fs)(bg:mW gs):∀t∈bk p fs gs,iZ p N t:=by intro t ht;simp only[Go.Proofs.YteimdcndjjclnaaGreat.bk,eK,Nt,M5] at ht;obtain⟨a,ha,b,hb,rfl⟩:=ht;refine⟨by simp only;rw[jz _ _ _ (by rw[lf a ha,lg b hb])];exact lf a ha,B9 _ _ (bf a ha) (bg b hb),Int.emod_nonneg _ (by omega),Int.emod_lt_of_pos _ (by omega)⟩
theorem K8{i k a b:Nat}(hi:i<a)(hk:k<=b)(ha:a<=2000)(hb:b<=2000):i*b+k<=1200000000000:=by have h1:(i+1)*b<=2000*2000:=Nat.mul_le_mul (by omega) hb;rw[Nat.add_mul] at h1;omega
theorem La(p n o v:Int)(N:Nat)(fv gv:Value)(fs gs:List Tm)(w:World)(hp:2<=p/\p<=101)(ho:o=1\/o=2)(hN0:0<N)(hN:N<=3)(lf:ep N fs)(lg:ep N gs)(cf:∀t∈fs,0<=t.1/\t.1<p)(cg:∀t∈gs,0<=t.1/\t.1<p)(bf:mW fs)(bg:mW gs)(hlf:fs.length<=2000)(hlg:gs.length<=2000)(pf:Pl w fv fs)(pg:Pl w gv gs):Calls prog 49 #[aS p n o v,fv,gv] w λe w'=>∃u,e=.returned u/\Pl w' u (cM p o (bk p fs gs))/\Below w.heap.size w w':=by
 have HF:=ae (MK lf (MK cf bf));have HG:=ae (MK lg (MK cg bg));have HO:=ae ho;obtain⟨hp1,hp2⟩:=hp;obtain⟨fa,fc,rfl,_,hfc⟩:=pf;obtain⟨ga,gc,rfl,_,hgc⟩:=pg;have HFC:=ae hfc;have HGC:=ae hgc;obtain⟨i0,hi,hz0,hz1,hz2⟩:=info_parts Tryz.infoTerm;have HI:=ae (MK hi (MK hz0 (MK hz1 hz2)));obtain⟨w1,hw1⟩:∃w1,w1=w.alloc (.cells #[.int .i64 p,.int .i64 n,.int .i64 o,.int .i64 v] 23):=⟨_,rfl⟩;have hbx:bE w1 w.heap.size p n o v:=by rw[hw1];exact bE.new w p n o v _
 have hbw:Below w.heap.size w w1:=by rw[hw1];exact bA
 have HBX:=ae hbx;have HBW:=ae hbw;clear hfc hgc lf lg cf cg bf bg ho hi hz0 hz1 hz2 hbx hbw;go_enter func49,ntmps49;go_wp2_with fail;rw[<-hw1];clear hw1;go_loopw [7,8] (λz i wr=>∃(ii:Nat)(ls:List TV),ii<=fs.length/\i=.int .i64 ii/\ls.map tm=bk p (fs.take ii) gs/\kY N w1 wr z ls) (λ_ i _=>fs.length-(intOf i).toNat);case atStart=>exact⟨0,[],MP _,rfl,rfl,World.ownsRow_nil _ _ _ _,λt ht=>by simp at ht,λt ht=>by simp at ht,λt ht=>by simp at ht,MJ _ _⟩
 case round=>
  obtain⟨wo,hwo⟩:∃wo:World,wo=wr:=⟨_,rfl⟩;subst hwo;obtain⟨ii,ls0,hi1,rfl,heq0,hprd0⟩:=hrel;have HE0:=ae heq0;have HP0:=ae hprd0;obtain⟨za0,zc0,hz0⟩:=b8 hprd0.own;subst hz0;clear heq0 hprd0;by_cases hi2:ii<fs.length
  .go_wp2;go_loopw [7,9] (λz i wr=>∃(k:Nat)(ls:List TV),k<=gs.length/\i=.int .i64 k/\ls.map tm=bk p (fs.take ii) gs++eK p (fs.getD ii bi) (gs.take k)/\kY N w1 wr z ls) (λ_ i _=>gs.length-(intOf i).toNat);case atStart=>exact⟨0,ls0,MP _,rfl,by rw[HE0.o];simp[eK],HP0.o⟩
   case round=>
    obtain⟨k,ls,hk1,rfl,heq,hprd⟩:=hrel;have HE:=ae heq;have HPR:=ae hprd;obtain⟨za,zc,hz⟩:=b8 hprd.own;subst hz;clear heq hprd;by_cases hk2:k<gs.length
    .obtain⟨b,off,rfl,hlt,hat⟩:=HFC.o (by omega);obtain⟨b2,off2,rfl,hlt2,hat2⟩:=HGC.o (by omega);obtain⟨c0,ev,c1,hse⟩:=hat ii hi2;obtain⟨d0,ev2,d1,hse2⟩:=hat2 k hk2;have HLL:Nw (ls.length<=1200000000000):=by have h1:(ls.map tm).length=_:=congrArg List.length HE.o;rw[M6,M0,Cy] at h1;simp only[eK,M6,Nj] at h1;have h2:=K8 (i:=ii) (k:=k) (a:=fs.length) (b:=gs.length) hi2 hk1 hlf hlg;rw[Nat.min_eq_left hi1,Nat.min_eq_left hk1] at h1;show _<=_;omega
     have HTF:=ae (MK (HF.o.1 _ (iK fs ii hi2)) (MK (HF.o.2.1 _ (iK fs ii hi2)) (HF.o.2.2 _ (iK fs ii hi2))));have HTG:=ae (MK (HG.o.1 _ (iK gs k hk2)) (MK (HG.o.2.1 _ (iK gs k hk2)) (HG.o.2.2 _ (iK gs k hk2))));have HSN:=ae (K7 p (fs.getD ii bi) gs k hk2);generalize hft:fs.getD ii bi=t at c0 hse HTF HSN HE;have HFT:=ae hft;generalize gs.getD k bi=u at d0 hse2 HTG HSN;obtain⟨tc,te⟩:=t;obtain⟨uc,ue⟩:=u;have HDN:=ae (HBW.o.trans (HPR.o.below.mono HBW.o.size));have HSE:=ae (hse.below HDN.o);have HSE2:=ae (hse2.below HDN.o);obtain⟨ea,ec,rfl,_⟩:=hse;obtain⟨ea2,ec2,rfl,_⟩:=hse2;simp only at c0 c1 d0 d1;have hte0:0<te.length:=by have:=HTF.o.1;simp only at this;omega
     have hte3:te.length<=3:=by have:=HTF.o.1;simp only at this;omega
     have HLE:Nw (te.length=ue.length):=HTF.o.1.trans HTG.o.1.symm;have htc:0<=tc/\tc<p:=HTF.o.2.1;have huc:0<=uc/\uc<p:=HTG.o.2.1;obtain⟨hm1,hm2⟩:=Kn (a:=tc) (b:=uc) ⟨by omega,by omega,by omega,by omega⟩;have HPT:=ae (fun(W:World) (h1:Sl W (.slice ea te.length ec) te) (h2:Sl W (.slice ea2 ue.length ec2) ue)=>K3 _ _ te ue W hte0 hte3 HLE.o HTF.o.2.2 HTG.o.2.2 h1 h2);obtain⟨_,bx0,_,_,_⟩:=HBX.o;have KEEP:Nw (∀W,Below w1.heap.size w1 W->(Nw (Below w1.heap.size w1 W)/\W.cell? ⟨w.heap.size,0,none⟩=some (.int .i64 p)/\W.cell? ⟨b,off+ii*2,none⟩=some (.int .i64 tc)/\W.cell? ⟨b,off+ii*2+1,none⟩=some (.slice ea te.length ec)/\W.cell? ⟨b2,off2+k*2,none⟩=some (.int .i64 uc)/\W.cell? ⟨b2,off2+k*2+1,none⟩=some (.slice ea2 ue.length ec2))):=
      λW hb=>⟨hb,af bx0 hb,af (af c0 HBW.o) hb,af (af c1 HBW.o) hb,af (af d0 HBW.o) hb,af (af d1 HBW.o) hb⟩
     clear hft hat hat2 c0 c1 d0 d1 bx0 htc huc;go_wp2;go_region_held_law (λW=>Nw (Below w1.heap.size w1 W)/\W.cell? ⟨w.heap.size,0,none⟩=some (.int .i64 p)/\W.cell? ⟨b,off+ii*2,none⟩=some (.int .i64 tc)/\W.cell? ⟨b,off+ii*2+1,none⟩=some (.slice ea te.length ec)/\W.cell? ⟨b2,off2+k*2,none⟩=some (.int .i64 uc)/\W.cell? ⟨b2,off2+k*2+1,none⟩=some (.slice ea2 ue.length ec2))
      (first|exact KEEP.o _ HPR.o.below.drew|exact KEEP.o _ PR7.o.below|exact KEEP.o _ (PR6.o.next ai).below|exact KEEP.o _ PR6.o.below)
      (first|(refine K1 rfl (.tmp 22) (.tmp 49) 58 58 rfl w1.heap.size 57 i0 _ underlying58 underlying58 HI.o.1 HI.o.2.1 HI.o.2.2.1 HI.o.2.2.2 rfl (.slice za ls.length zc) ls.length (au ls) (by simp[Act.eval,Act.put]) (PR6.o.next ai).own [(tc*uc%p,.slice ua6 (aY (·+·) te ue).length uc6,aY (·+·) te ue)] 1 rfl (some ⟨w6.heap.size,0,none⟩) 1 (by simp[Act.eval,Act.put]) (λ_=>⟨w6.heap.size,0,rfl,lS w6 (tc*uc%p) (.slice ua6 (aY (·+·) te ue).length uc6) (aY (·+·) te ue) 57⟩) ONE6.o (by have:=HLL.o;omega) (MO PR6.o.below.size (by simp)) ?_;intro v7 w7 r1 r2 r3;have PR7:=ae (kY.add hN0 (PR6.o.next ai) (SL6.o.below ai) LN6.o AP6.o r1 r2 r3);obtain⟨va7,vc7,hv7⟩:=b8 r1;subst hv7;clear r1 r2 r3)|(go_at_call 72;refine(HPT.o _ ?_ ?_).mono ?_;exact HSE.o.below (MJ _ _).drew;exact HSE2.o.below (MJ _ _).drew;rintro e w6 ⟨u6,rfl,hu6,hb6⟩;have PR6:=ae (HPR.o.next (((MJ wr.heap.size wr).drew).trans hb6));have AP6:=ae (K5 hu6 HPR.o.own (MI _));have SL6:=ae (uq hu6);have LN6:Nw ((aY (·+·) te ue).length=N):=((jz _ _ _ HLE.o).trans HTF.o.1);obtain⟨ua6,uc6,hv6⟩:=b8 hu6;subst hv6;have ONE6:=ae (ou (w:=w6) (ts:=[(tc*uc%p,.slice ua6 (aY (·+·) te ue).length uc6,aY (·+·) te ue)]) (λu hu=>(by rw[MZ] at hu;subst hu;exact SL6.o)));clear hu6 hb6))
     all_goals
      go_wp2;first
       |exact⟨⟨k+1,ls++[_],by omega,by go_num,by rw[Nd,HE.o,HSN.o];simp[tm],PR7.o⟩,by simp[intOf];omega⟩
       |(go_roundw;(case rel=>exact⟨k+1,ls++[_],by omega,by go_num,by rw[Nd,HE.o,HSN.o];simp[tm],PR7.o⟩);case measure=>simp[intOf];omega)
    .have e:k=gs.length:=by omega
     subst e;go_wp2;go_roundw;case rel=>exact⟨ii+1,ls,by omega,by go_num,by rw[HE.o,K6 p fs gs ii hi2,M2 (MI _)],HPR.o⟩
     case measure=>simp[intOf];omega
  .have e:ii=fs.length:=by omega
   subst e;have HEF:Nw (ls0.map tm=bk p fs gs):=by show _=_;rw[HE0.o,M2 (MI _)]
   have HPL:Nw (Pl wo (.slice za0 ls0.length zc0) (bk p fs gs)):=by rw[<-HEF.o];exact ow HP0.o.own HP0.o.es
   have HLL:Nw ((bk p fs gs).length<=1200000000000):=by show _<=_;rw[Cy];exact MO (Nat.mul_le_mul hlf hlg) (by decide)
   have HTK:=ae (Cz (p:=p) (N:=N) hp1 HF.o.1 HG.o.1 HF.o.2.2 HG.o.2.2);obtain⟨_,bx0,bx1,bx2,bx3⟩:=HBX.o.below HP0.o.below;go_wp2_with fail;refine(KX p n o v N _ (bk p fs gs) _ ⟨hp1,hp2⟩ HO.o hN0 hN HTK.o HLL.o HPL.o).mono ?_;rintro e w9 ⟨u9,rfl,hu9,hb9⟩;have HU9:=ae hu9;have HB9:=ae ((HBW.o.trans (HP0.o.below.mono HBW.o.size)).trans (hb9.mono (HBW.o.trans (HP0.o.below.mono HBW.o.size)).size));obtain⟨ua9,uc9,rfl,_,_⟩:=hu9;clear hb9;go_wp2;go_ret;exact⟨_,rfl,HU9.o,HB9.o⟩
def jL(o:Int)(q:Option (List Int))(e:List Int):Bool:=
 match q with
 |some x=>eW o x e
 |none=>true
def jM(p n o:Int):Option (List Int)->List Tm->Int
 |_,[]=>0
 |q,t::ts=>if bO t.1 1 (p-1)=false then 3 else if bW n t.2≠0 then bW n t.2 else if jL o q t.2=false then 4 else jM p n o (some t.2) ts
def jn(ts:List Tm):Nat->Option (List Int)
 |0=>none
 |k+1=>some (ts.getD k bi).2
theorem Cl(p n o:Int)(ts:List Tm)(k:Nat)(h:k<ts.length)(q:Option (List Int)):jM p n o q (ts.drop k)=if bO (ts.getD k bi).1 1 (p-1)=false then 3 else if bW n (ts.getD k bi).2≠0 then bW n (ts.getD k bi).2 else if jL o q (ts.getD k bi).2=false then 4 else jM p n o (jn ts (k+1)) (ts.drop (k+1)):=by
 rw[Nn h];have e:ts.getD k bi=ts[k]:=by simp[MV,h]
 rw[jn,e];rfl
def cQ(p n o:Int)(ts:List Tm):Int:=if 2000<ts.length then 2 else jM p n o none ts
theorem CA{p o:Int}{N:Nat}:∀(ts:List Tm) (q:Option (List Int)),jM p N o q ts=0->(∀e,q=some e->e.length=N)->(∀t∈ts,(1<=t.1/\t.1<p)/\bW N t.2=0)/\iu o ts/\(∀e t ts',q=some e->ts=t::ts'->0<aX o e t.2)
 |[],q,_,_=>⟨λt ht=>by simp at ht,trivial,λe t ts' _ h=>by simp at h⟩
 |t::ts,q,h,hq=>by
  have hu:jM p N o q (t::ts)=if bO t.1 1 (p-1)=false then 3 else if bW N t.2≠0 then bW N t.2 else if jL o q t.2=false then 4 else jM p N o (some t.2) ts:=rfl
  rw[hu] at h;clear hu;by_cases h1:bO t.1 1 (p-1)=false
  .rw[M9 h1] at h;omega
  rw[M8 h1] at h;by_cases h2:bW N t.2≠0
  .rw[M9 h2] at h;exact absurd h h2
  rw[M8 h2] at h;by_cases h3:jL o q t.2=false
  .rw[M9 h3] at h;omega
  rw[M8 h3] at h;have h2':bW N t.2=0:=by omega
  have hl:t.2.length=N:=by have:=(jR h2').1;omega
  obtain⟨i1,i2,i3⟩:=CA ts (some t.2) h (λe he=>by simp at he;rw[<-he];exact hl);have hb:1<=t.1/\t.1<p:=by simp[bO] at h1;omega
  refine⟨λu hu=>?_,⟨λu hu=>?_,i2⟩,λe u ts' he hu=>?_⟩
  .rcases Nb.1 hu with rfl|hu
   .exact⟨hb,h2'⟩
   .exact i1 u hu
  .cases ts with
   |nil=>simp at hu
   |cons x xs=>
    have hx:=i3 t.2 x xs rfl rfl;rcases Nb.1 hu with rfl|hu
    .exact hx
    .have l1:x.2.length=N:=by have:=(jR (i1 x (by simp)).2).1;omega
     have l2:u.2.length=N:=by have:=(jR (i1 u (by simp[hu])).2).1;omega
     exact nN o t.2 x.2 u.2 (by omega) (by omega) hx (i2.1 u hu)
  .rw[he] at h3;simp only[List.cons.injEq] at hu;obtain⟨rfl,_⟩:=hu;simpa [jL,eW] using h3
structure cL(p o:Int)(N:Nat)(ts:List Tm):Prop where
 canon:eB p o N ts
 bd:mW ts
 len:ts.length<=2000
 deg:∀t∈ts,aj t.2<=200
theorem pJ{p o:Int}{N:Nat}{ts:List Tm}(h:cQ p N o ts=0):cL p o N ts:=by
 unfold cQ at h;split at h
 .omega
 rename_i hl;obtain⟨h1,h2,_⟩:=CA ts none h (λe he=>by simp at he);refine⟨⟨λt ht=>?_,h2,λt ht=>(h1 t ht).1⟩,λt ht x hx=>by have h9:=(jR (h1 t ht).2).2.1 x hx;omega,by omega,λt ht=>(jR (h1 t ht).2).2.2⟩;have:=(jR (h1 t ht).2).1;omega
theorem Lb(ts:List Tm)(k:Nat)(h:k<ts.length):ts.getD k bi∈ts.take (k+1):=by rw[Na h,MV,MW h,MY];right;simp
theorem Co{k:Nat}(h:0<k)(h2:k<=2000):IntKind.i64.wrap ((k:Int)-1)=(k:Int)-1:=by rw[IntKind.wrap_i64];omega
theorem Cm{k n:Nat}(h:0<k)(h2:k<n):(0:Int)<=(k:Int)-1/\(k:Int)-1<(n:Int)/\((k:Int)-1).toNat=k-1/\(1:Int)<=(k:Int)/\(k:Int)<=(n:Int)/\¬(k:Int)<1/\¬(n:Int)<=(k:Int)-1:=⟨by omega,by omega,by omega,by omega,by omega,by omega,by omega⟩
theorem Lc(p o:Int)(N:Nat):cL p o N []:=⟨⟨λt ht=>by simp at ht,trivial,λt ht=>by simp at ht⟩,λt ht=>by simp at ht,by simp,λt ht=>by simp at ht⟩
theorem Lf(p n o v:Int)(fv:Value)(ts:List Tm)(w:World)(hp:2<=p/\p<=101)(hn:1<=n/\n<=3)(ho:o=1\/o=2)(pf:Pl w fv ts):Calls prog 91 #[aS p n o v,fv] w λe w'=>e=.returned (.int .i64 (cQ p n o ts))/\Below w.heap.size w w':=by
 obtain⟨fa,fc,rfl,_,hfc⟩:=pf;have HFC:=ae hfc;have HN:=ae hn;have HO:=ae ho;obtain⟨hp1,hp2⟩:=hp;clear hfc hn ho;obtain⟨w1,hw1⟩:∃w1,w1=w.alloc (.cells #[.int .i64 p,.int .i64 n,.int .i64 o,.int .i64 v] 23):=⟨_,rfl⟩;have hbx:bE w1 w.heap.size p n o v:=by rw[hw1];exact bE.new w p n o v _
 have hbw:Below w.heap.size w w1:=by rw[hw1];exact bA
 have HBX:=ae hbx;have HBW:=ae hbw;clear hbx hbw;by_cases hlen:2000<ts.length
 .have he:cQ p n o ts=2:=by unfold cQ;rw[M9 hlen]
  rw[he];clear he;go_enter func91,ntmps91;go_wp2;go_ret;rw[<-hw1];exact⟨rfl,HBW.o⟩
 .have he:cQ p n o ts=jM p n o none ts:=by unfold cQ;rw[M8 hlen]
  rw[he];clear he;go_enter func91,ntmps91;go_wp2_with fail;rw[<-hw1];clear hw1;go_loopw [5] (λi wr=>∃k:Nat,k<=ts.length/\i=.int .i64 k/\jM p n o none ts=jM p n o (jn ts k) (ts.drop k)/\(∀t∈ts.take k,bW n t.2=0)/\Below w1.heap.size w1 wr) (λi _=>ts.length-(intOf i).toNat);case atStart=>exact⟨0,MP _,rfl,rfl,by simp,MJ _ _⟩
  case round=>
   obtain⟨k,hk,rfl,herr,hall,hbr⟩:=hrel;have HBR:=ae hbr;have HALL:=ae hall;clear hall hbr;by_cases hk2:k<ts.length
   .obtain⟨b,off,rfl,hlt,hat⟩:=HFC.o (by omega);obtain⟨c0,ev,c1,hse⟩:=hat k hk2;have HER:=ae (herr.trans (Cl p n o ts k hk2 (jn ts k)));have HTK:Nw (∀t∈ts.take (k+1),t∈ts.take k\/t=ts.getD k bi):=by
     intro u hu;rw[Na hk2,MY,MZ] at hu;rcases hu with hu|hu
     .exact Np hu
     .right;rw[hu];simp[MV,hk2]
    have HDN:=ae (HBW.o.trans (HBR.o.mono HBW.o.size));have HAT:=ae hat;clear herr hat;generalize ts.getD k bi=t at c0 hse HER HTK;obtain⟨tc,te⟩:=t;have HSE0:=ae hse;have HSE:=ae (hse.below HDN.o);obtain⟨ea,ec,rfl,_⟩:=hse;simp only at c0 c1;have bx:=HBX.o;obtain⟨_,bx0,bx1,bx2,bx3⟩:=bx;have KEEP:Nw (∀W,Below w1.heap.size w1 W->(Nw (Below w1.heap.size w1 W)/\W.cell? ⟨w.heap.size,0,none⟩=some (.int .i64 p)/\W.cell? ⟨w.heap.size,1,none⟩=some (.int .i64 n)/\W.cell? ⟨w.heap.size,2,none⟩=some (.int .i64 o)/\W.cell? ⟨w.heap.size,3,none⟩=some (.int .i64 v)/\W.cell? ⟨b,off+k*2,none⟩=some (.int .i64 tc)/\W.cell? ⟨b,off+k*2+1,none⟩=some (.slice ea te.length ec))):=
     λW hb=>⟨hb,af bx0 hb,af bx1 hb,af bx2 hb,af bx3 hb,af (af c0 HBW.o) hb,af (af c1 HBW.o) hb⟩
    have K0:=KEEP.o wr HBR.o;obtain⟨_,kp,_,_,_,kc0,kc1⟩:=K0;clear bx0 bx1 bx2 bx3;cases hb1:bO tc 1 (p-1)
    .go_wp2_with fail;go_quiet ((go_at_call 18;exact Calls.quiet_of_same (fN _ _ _ _)));have HQ1:=ae (below_drewN HBR.o nq);go_wp2;go_ret;exact⟨bL (by rw[HER.o,M9 hb1]),HBW.o.trans (HQ1.o.mono HBW.o.size)⟩
    .cases hb2:(bW n te !=0)
     .have hb20:bW n te=0:=by simpa using hb2
      have HB20:=ae hb20;rcases Nat.eq_zero_or_pos k with rfl|hpos
      .simp only[Nat.zero_mul,Nat.add_zero] at c0 c1 kc0 kc1 KEEP;go_wp2_with fail;go_quiet ((go_at_call 18;exact Calls.quiet_of_same (fN _ _ _ _)));have HQ1:=ae (below_drewN HBR.o nq);go_wp2_with fail;go_region_held (λW=>Nw (Below w1.heap.size w1 W)/\W.cell? ⟨w.heap.size,0,none⟩=some (.int .i64 p)/\W.cell? ⟨w.heap.size,1,none⟩=some (.int .i64 n)/\W.cell? ⟨w.heap.size,2,none⟩=some (.int .i64 o)/\W.cell? ⟨w.heap.size,3,none⟩=some (.int .i64 v)/\W.cell? ⟨b,off,none⟩=some (.int .i64 tc)/\W.cell? ⟨b,off+1,none⟩=some (.slice ea te.length ec))
        (first|exact KEEP.o _ HQ1.o.drew|exact KEEP.o _ (HQ1.o.drew.trans (hb9.mono HQ1.o.drew.size)))
        (first|(go_at_call 122;refine(rK p n o v _ te _ HN.o ?_).mono ?_;exact HSE.o.below (below_drewN (MJ _ _) _).drew;rintro e w9 ⟨rfl,hb9⟩))
       have HB9:=ae (show Below w1.heap.size w1 w9 from HQ1.o.drew.trans (hb9.mono HQ1.o.drew.size));clear hb9;try rw[HB20.o]
       go_wp2_with fail;go_quiet (fail);go_wp2;go_roundw;case rel=>exact⟨1,by omega,by go_num,by rw[HER.o,M8 (by rw[hb1];simp),M8 (by simpa using HB20.o)];simp[jn,jL],λt ht=>by
        rcases HTK.o t ht with h|h
        .simp at h
        .rw[h];exact HB20.o,below_drewN HB9.o _⟩
       case measure=>simp[intOf];omega
      .have hk3:k-1<ts.length:=by omega
       obtain⟨_,ev2,d1,hse2⟩:=HAT.o (k-1) hk3;have hse2':=hse2;have HPE:Nw (jn ts k=some (ts.getD (k-1) bi).2):=by obtain⟨m,rfl⟩:∃m,k=m+1:=⟨k-1,by omega⟩;rfl
       have HQE:=ae (HALL.o _ (by have h:=Lb ts (k-1) hk3;rwa [show k-1+1=k from Nat.sub_add_cancel hpos] at h));generalize ts.getD (k-1) bi=q at hse2 hse2' HPE HQE;obtain⟨qc,qe⟩:=q;have HSE2:=ae (hse2.below HDN.o);obtain⟨ea2,ec2,rfl,_⟩:=hse2;simp only at d1 HPE HQE;have hq:=jR HQE.o;have ht:=jR hb20;have HLL:Nw (qe.length=te.length):=by have h1:=hq.1;have h2:=ht.1;show _=_;omega
       have hq0:0<qe.length:=by have h1:=hq.1;have h2:=HN.o;omega
       have hq3:qe.length<=3:=by have h1:=hq.1;have h2:=HN.o;omega
       have HQB:=ae (MK (show∀x∈qe,0<=x/\x<=40000 from λx hx=>by have:=hq.2.1 x hx;omega) (show∀x∈te,0<=x/\x<=40000 from λx hx=>by have:=ht.2.1 x hx;omega));have HSQ:=ae (MK (hse2'.below HBW.o) (HSE0.o.below HBW.o));have KEEP2:Nw (∀W,Below w1.heap.size w1 W->(Nw (Below w1.heap.size w1 W)/\W.cell? ⟨w.heap.size,0,none⟩=some (.int .i64 p)/\W.cell? ⟨w.heap.size,1,none⟩=some (.int .i64 n)/\W.cell? ⟨w.heap.size,2,none⟩=some (.int .i64 o)/\W.cell? ⟨w.heap.size,3,none⟩=some (.int .i64 v)/\W.cell? ⟨b,off+k*2,none⟩=some (.int .i64 tc)/\W.cell? ⟨b,off+k*2+1,none⟩=some (.slice ea te.length ec)/\W.cell? ⟨b,off+(k-1)*2+1,none⟩=some (.slice ea2 qe.length ec2))):=λW hb=>by have h:=KEEP.o W hb;exact⟨h.1,h.2.1,h.2.2.1,h.2.2.2.1,h.2.2.2.2.1,h.2.2.2.2.2.1,h.2.2.2.2.2.2,af (af d1 HBW.o) hb⟩
       obtain⟨hq1,hq2,hq4,hq5,hq6,hq7,hq8⟩:=Cm hpos hk2;have hwr:=Co hpos (MO hk (Nat.not_lt.1 hlen));clear hq ht hb20;cases hb3:eW o qe te
       .go_wp2_with fail;go_quiet ((go_at_call 18;exact Calls.quiet_of_same (fN _ _ _ _)));have HQ1:=ae (below_drewN HBR.o nq);go_wp2_with fail;go_region_held (λW=>Nw (Below w1.heap.size w1 W)/\W.cell? ⟨w.heap.size,0,none⟩=some (.int .i64 p)/\W.cell? ⟨w.heap.size,1,none⟩=some (.int .i64 n)/\W.cell? ⟨w.heap.size,2,none⟩=some (.int .i64 o)/\W.cell? ⟨w.heap.size,3,none⟩=some (.int .i64 v)/\W.cell? ⟨b,off+k*2,none⟩=some (.int .i64 tc)/\W.cell? ⟨b,off+k*2+1,none⟩=some (.slice ea te.length ec))
         (first|exact KEEP.o _ HQ1.o.drew|exact KEEP.o _ (HQ1.o.drew.trans (hb9.mono HQ1.o.drew.size)))
         (first|(go_at_call 122;refine(rK p n o v _ te _ HN.o ?_).mono ?_;exact HSE.o.below (below_drewN (MJ _ _) _).drew;rintro e w9 ⟨rfl,hb9⟩))
        have HB9:=ae (show Below w1.heap.size w1 w9 from HQ1.o.drew.trans (hb9.mono HQ1.o.drew.size));clear hb9;rw[HB20.o];go_wp2_with fail;go_region_held (λW=>Nw (Below w1.heap.size w1 W)/\W.cell? ⟨w.heap.size,0,none⟩=some (.int .i64 p)/\W.cell? ⟨w.heap.size,1,none⟩=some (.int .i64 n)/\W.cell? ⟨w.heap.size,2,none⟩=some (.int .i64 o)/\W.cell? ⟨w.heap.size,3,none⟩=some (.int .i64 v)/\W.cell? ⟨b,off+k*2,none⟩=some (.int .i64 tc)/\W.cell? ⟨b,off+k*2+1,none⟩=some (.slice ea te.length ec)/\W.cell? ⟨b,off+(k-1)*2+1,none⟩=some (.slice ea2 qe.length ec2))
         (first|exact KEEP2.o _ HB9.o.drew|exact KEEP2.o _ (HB9.o.drew.trans (hb8.mono HB9.o.drew.size)))
         (first|(go_at_call 96;refine(vf p n o v _ _ qe te _ HO.o hq0 hq3 HLL.o HQB.o.1 HQB.o.2 ?_ ?_).mono ?_;exact HSQ.o.1.below HB9.o.drew;exact HSQ.o.2.below HB9.o.drew;rintro e w8 ⟨rfl,hb8⟩))
        have HB8:=ae (show Below w1.heap.size w1 w8 from HB9.o.drew.trans (hb8.mono HB9.o.drew.size));clear hb8;try rw[hb3]
        go_wp2_with fail;go_ret;exact⟨bL (by rw[HER.o,M8 (by rw[hb1];simp),M8 (by simpa using HB20.o),M9 (by rw[HPE.o];exact hb3)]),HBW.o.trans (HB8.o.mono HBW.o.size)⟩
       .go_wp2_with fail;go_quiet ((go_at_call 18;exact Calls.quiet_of_same (fN _ _ _ _)));have HQ1:=ae (below_drewN HBR.o nq);go_wp2_with fail;go_region_held (λW=>Nw (Below w1.heap.size w1 W)/\W.cell? ⟨w.heap.size,0,none⟩=some (.int .i64 p)/\W.cell? ⟨w.heap.size,1,none⟩=some (.int .i64 n)/\W.cell? ⟨w.heap.size,2,none⟩=some (.int .i64 o)/\W.cell? ⟨w.heap.size,3,none⟩=some (.int .i64 v)/\W.cell? ⟨b,off+k*2,none⟩=some (.int .i64 tc)/\W.cell? ⟨b,off+k*2+1,none⟩=some (.slice ea te.length ec))
         (first|exact KEEP.o _ HQ1.o.drew|exact KEEP.o _ (HQ1.o.drew.trans (hb9.mono HQ1.o.drew.size)))
         (first|(go_at_call 122;refine(rK p n o v _ te _ HN.o ?_).mono ?_;exact HSE.o.below (below_drewN (MJ _ _) _).drew;rintro e w9 ⟨rfl,hb9⟩))
        have HB9:=ae (show Below w1.heap.size w1 w9 from HQ1.o.drew.trans (hb9.mono HQ1.o.drew.size));clear hb9;rw[HB20.o];go_wp2_with fail;go_region_held (λW=>Nw (Below w1.heap.size w1 W)/\W.cell? ⟨w.heap.size,0,none⟩=some (.int .i64 p)/\W.cell? ⟨w.heap.size,1,none⟩=some (.int .i64 n)/\W.cell? ⟨w.heap.size,2,none⟩=some (.int .i64 o)/\W.cell? ⟨w.heap.size,3,none⟩=some (.int .i64 v)/\W.cell? ⟨b,off+k*2,none⟩=some (.int .i64 tc)/\W.cell? ⟨b,off+k*2+1,none⟩=some (.slice ea te.length ec)/\W.cell? ⟨b,off+(k-1)*2+1,none⟩=some (.slice ea2 qe.length ec2))
         (first|exact KEEP2.o _ HB9.o.drew|exact KEEP2.o _ (HB9.o.drew.trans (hb8.mono HB9.o.drew.size)))
         (first|(go_at_call 96;refine(vf p n o v _ _ qe te _ HO.o hq0 hq3 HLL.o HQB.o.1 HQB.o.2 ?_ ?_).mono ?_;exact HSQ.o.1.below HB9.o.drew;exact HSQ.o.2.below HB9.o.drew;rintro e w8 ⟨rfl,hb8⟩))
        have HB8:=ae (show Below w1.heap.size w1 w8 from HB9.o.drew.trans (hb8.mono HB9.o.drew.size));clear hb8;try rw[hb3]
        go_wp2_with fail;go_roundw;case rel=>exact⟨k+1,by omega,by go_num,by rw[HER.o,M8 (by rw[hb1];simp),M8 (by simpa using HB20.o),M8 (by rw[HPE.o];simp[jL,hb3])],λt ht=>by
         rcases HTK.o t ht with h|h
         .exact HALL.o t h
         .rw[h];exact HB20.o,HB8.o⟩
        case measure=>simp[intOf];omega
     .go_wp2_with fail;go_quiet ((go_at_call 18;exact Calls.quiet_of_same (fN _ _ _ _)));have HQ1:=ae (below_drewN HBR.o nq);go_wp2_with fail;go_region_held (λW=>Nw (Below w1.heap.size w1 W)/\W.cell? ⟨w.heap.size,0,none⟩=some (.int .i64 p)/\W.cell? ⟨w.heap.size,1,none⟩=some (.int .i64 n)/\W.cell? ⟨w.heap.size,2,none⟩=some (.int .i64 o)/\W.cell? ⟨w.heap.size,3,none⟩=some (.int .i64 v)/\W.cell? ⟨b,off+k*2,none⟩=some (.int .i64 tc)/\W.cell? ⟨b,off+k*2+1,none⟩=some (.slice ea te.length ec))
       (first|exact KEEP.o _ HQ1.o.drew|exact KEEP.o _ (HQ1.o.drew.trans (hb9.mono HQ1.o.drew.size)))
       (first|(go_at_call 122;refine(rK p n o v _ te _ HN.o ?_).mono ?_;exact HSE.o.below (below_drewN (MJ _ _) _).drew;rintro e w9 ⟨rfl,hb9⟩))
      have HB9:=ae (show Below w1.heap.size w1 w9 from HQ1.o.drew.trans (hb9.mono HQ1.o.drew.size));clear hb9;go_wp2;go_ret;exact⟨bL (by rw[HER.o,M8 (by rw[hb1];simp),M9 (by simpa using hb2)]),HBW.o.trans (HB9.o.mono HBW.o.size)⟩
   .go_wp2;go_ret;exact⟨bL (by rw[herr,No (by omega)];cases k<;>rfl),HBW.o.trans (HBR.o.mono HBW.o.size)⟩
def de(p n o:Int):List (List Tm)->Int
 |[]=>0
 |f::r=>if cQ p n o f=0 then de p n o r else cQ p n o f
theorem Ct(p n o:Int)(fss:List (List Tm))(k:Nat)(h:k<fss.length):de p n o (fss.drop k)=if cQ p n o (fss.getD k [])=0 then de p n o (fss.drop (k+1)) else cQ p n o (fss.getD k []):=by rw[Nn h];simp[de,MV,h]
theorem wu{p n o:Int}:∀{fss:List (List Tm)},de p n o fss=0->∀f∈fss,cQ p n o f=0
 |[],_,f,hf=>by simp at hf
 |g::r,h,f,hf=>by
  unfold de at h;by_cases hg:cQ p n o g=0
  .rw[M9 hg] at h;rcases Nb.1 hf with rfl|hf
   .exact hg
   .exact wu h f hf
  .rw[M8 hg] at h;exact absurd h hg
theorem Lg(x:Value)(xs:List Int)(w:World)(h0:0<xs.length)(hm:xs.length<=3)(hb:∀x∈xs,0<=x/\x<=40000)(hs:Sl w x xs):Calls prog 38 #[x] w λe w'=>e=.returned (.int .i64 (aj xs))/\w'=w:=by obtain⟨a,cap,rfl,h1⟩:=hs;obtain⟨b,off,rfl,hlt,hc⟩:=h1 h0;exact mC xs b off cap w hb hm hc
def eX(m:Int):List Tm->Int
 |[]=>m
 |t::ts=>eX (if m<aj t.2 then aj t.2 else m) ts
theorem Lh(ts:List Tm):∀(m:Int)(k:Nat),k<ts.length->eX m (ts.take (k+1))=if eX m (ts.take k)<aj (ts.getD k bi).2 then aj (ts.getD k bi).2 else eX m (ts.take k):=by
 induction ts with
 |nil=>intro m k h;simp at h
 |cons t ts ih=>
  intro m k h;cases k with
  |zero=>simp[eX]
  |succ k=>simp only[List.take_succ_cons,eX];rw[ih _ k (by simpa using h)];simp
theorem CB:∀(ts:List Tm)(m:Int),(∀t∈ts,aj t.2<=120000)->m<=120000->m<=eX m ts/\eX m ts<=120000
 |[],m,_,hm=>⟨Int.le_refl _,hm⟩
 |t::ts,m,h,hm=>by simp only[eX];have h1:=h t (by simp);have h2:=CB ts (if m<aj t.2 then aj t.2 else m) (λu hu=>h u (by simp[hu])) (by split<;>omega);refine⟨Int.le_trans ?_ h2.1,h2.2⟩;split<;>omega
theorem Li(x:Value)(fs:List Tm)(w:World)(hm:fs.length<=2400000000000)(hl:∀t∈fs,0<t.2.length/\t.2.length<=3/\∀x∈t.2,0<=x/\x<=40000)(pf:Pl w x fs):Calls prog 37 #[x] w λe w'=>e=.returned (.int .i64 (eX (-1) fs))/\w'=w:=by
 obtain⟨fa,fc,rfl,_,hfc⟩:=pf;have HFC:=ae hfc;have HL:=ae hl;have HS:Nw (∀t∈fs,0<=aj t.2/\aj t.2<=120000):=λt ht=>by have h1:=hl t ht;have h2:=mY t.2 h1.2.2;omega
 clear hfc hl;go_enter func37,ntmps37;go_wp2;go_loop [3,4] (λm i=>∃k:Nat,k<=fs.length/\i=.int .i64 k/\m=.int .i64 (eX (-1) (fs.take k))) (λ_ i=>fs.length-(intOf i).toNat);case atStart=>exact⟨0,MP _,rfl,rfl⟩
 case round=>
  obtain⟨k,hk,rfl,rfl⟩:=hrel;by_cases hk2:k<fs.length
  .obtain⟨b,off,rfl,hlt,hat⟩:=HFC.o (by omega);obtain⟨c0,ev,c1,hse⟩:=hat k hk2;have HT:=ae (Lh fs (-1) k hk2);have HLK:=ae (HL.o _ (iK fs k hk2));have htop:=CB (fs.take k) (-1) (λt ht=>(HS.o t (Ns ht)).2) (by omega);generalize eX (-1) (fs.take k)=m at HT htop;generalize fs.getD k bi=t at c0 hse HT HLK;obtain⟨tc,te⟩:=t;have HSE:=ae hse;obtain⟨ea,ec,rfl,_⟩:=hse;simp only at c1;have hsb:=mY te HLK.o.2.2;have hl3:te.length<=3:=HLK.o.2.1;have HDG:=ae (λW (h:Sl W (.slice ea te.length ec) te)=>Lg _ te W HLK.o.1 HLK.o.2.1 HLK.o.2.2 h);clear hat c0;by_cases hgt:m<aj te
   .go_wp2_with (go_at_call 38;refine(HDG.o _ HSE.o).mono ?_;rintro e w' ⟨rfl,rfl⟩);go_round;case rel=>exact⟨k+1,by omega,by go_num,by rw[HT.o,M9 hgt]⟩
    case measure=>simp[intOf];omega
   .go_wp2_with (go_at_call 38;refine(HDG.o _ HSE.o).mono ?_;rintro e w' ⟨rfl,rfl⟩);go_round;case rel=>exact⟨k+1,by omega,by go_num,by rw[HT.o,M8 (Int.not_lt.2 hgt)]⟩
    case measure=>simp[intOf];omega
  .go_wp2;go_ret;exact⟨bL (by rw[M2 (by omega)]),rfl⟩
def cO(w:World)(g:Nat):Prop:=∀j u,w.cell? ⟨g,j,none⟩=some u->∃a n c,u=.slice a n c
theorem cO.below{w w':World}{g:Nat}(h:cO w g)(hlt:g<w.heap.size)(hb:Below w.heap.size w w'):cO w' g:=by intro j u hu;rw[hb.cell (p:=⟨g,j,none⟩) hlt] at hu;exact h j u hu
theorem kl{w w':World}{g b o:Nat}(hg:w.grownBy w' (some g))(hlt:b<w.heap.size)(hne:b≠g):w'.cell? ⟨b,o,none⟩=w.cell? ⟨b,o,none⟩:=
 World.cell?_of_block (hg.block b hlt (by simpa using hne))
theorem Lj{w w':World}{g:Nat}(hk:cO w g)(hg:w.grownBy w' (some g)){v:Value}{xs:List Int}(h:Sl w v xs):Sl w' v xs:=by
 obtain⟨a,cap,rfl,h⟩:=h;refine⟨a,cap,rfl,λhp=>?_⟩;obtain⟨b,off,rfl,hlt,hc⟩:=h hp;have hne:b≠g:=by intro e;subst e;obtain⟨_,_,_,hx⟩:=hk _ _ (hc 0 hp);cases hx
 exact⟨b,off,rfl,MN hlt hg.size,λi hi=>by rw[kl hg hlt hne];exact hc i hi⟩
theorem mU{w w':World}{g:Nat}(hk:cO w g)(hg:w.grownBy w' (some g)){v:Value}{ts:List Tm}(h:Pl w v ts):Pl w' v ts:=by
 obtain⟨a,cap,rfl,hcap,h⟩:=h;refine⟨a,cap,rfl,hcap,λhp=>?_⟩;obtain⟨b,off,rfl,hlt,hc⟩:=h hp;have hne:b≠g:=by intro e;subst e;obtain⟨_,_,_,hx⟩:=hk _ _ (hc 0 hp).1;cases hx
 refine⟨b,off,rfl,MN hlt hg.size,λi hi=>?_⟩;obtain⟨h1,u,h2,h3⟩:=hc i hi;exact⟨by rw[kl hg hlt hne];exact h1,u,by rw[kl hg hlt hne];exact h2,Lj hk hg h3⟩
theorem CC{w:World}{C:Array Value}{T:TypeId}(h:∀u∈C.toList,∃a n c,u=.slice a n c):cO (w.alloc (.cells C T)) w.heap.size:=by
 intro j u hu;have e:(w.alloc (.cells C T)).cell? ⟨w.heap.size,j,none⟩=C[j]?:=by unfold World.cell?;rw[show (w.alloc (.cells C T)).heap[w.heap.size]?=some (.cells C T (0,0)) from heap_alloc_new w _];simp
 rw[e] at hu;exact h u (by rw[Array.mem_toList_iff];exact Array.mem_of_getElem? hu)
theorem vU{w:World}{g:Nat}{C:Array Value}{T:TypeId}(hg:w.heap[g]?=some (.cells C T (0,0)))(h:∀u∈C.toList,∃a n c,u=.slice a n c):cO w g:=by
 intro j u hu;have e:w.cell? ⟨g,j,none⟩=C[j]?:=by unfold World.cell?;rw[hg];simp
 rw[e] at hu;exact h u (by rw[Array.mem_toList_iff];exact Array.mem_of_getElem? hu)
theorem BN{w:World}{g:Nat}{C:Array Value}{T:TypeId}(hg:w.heap[g]?=some (.cells C T (0,0)))(h:cO w g):∀u∈C.toList,∃a n c,u=.slice a n c:=by intro u hu;obtain⟨j,hj,rfl⟩:=List.getElem_of_mem hu;refine h j _ ?_;unfold World.cell?;rw[hg];simp at hj⊢
theorem uu{P:Program}(w:World)(base:Nat)(t ty e:TypeId)(i:TypeInfo)(ht:P.underlying t=some (.slice e))(hi:P.info? e=some i)(hz:i.zero=some (.slice none 0 0))(hsize:i.size=1)(hby:i.bytes=24)(v:Value)(n:Nat)(xs:List Value)(hown:w.ownsRow base e 1 v n xs)(hk:∀g,v.ownBlock=some g->cO w g)(a:Addr)(c:Nat)(u:Value)(hu:∃a n c,u=.slice a n c)(hnew:∀j x,[u][j]?=some x->w.cell? (a.add j)=some x)(hn:n<=1200000000000)(hbase:base<=w.heap.size):∃v' w',(Builtin.append_ #[t,t] ty #[v,.slice (some a) 1 c]).run P w=.ok v' w'/\w'.ownsRow base e 1 v' (n+1) (xs++[u])/\w.grownBy w' v.ownBlock/\(∀g,v'.ownBlock=some g->cO w' g):=by
 have hone:∀x∈[u],x.oneCell'=true:=by intro x hx;rw[MZ] at hx;obtain⟨_,_,_,e⟩:=hu;rw[hx,e];rfl
 obtain⟨v',w',hr,h2,h3,_⟩:=run_append_own (P:=P) w base t ty e i (.slice none 0 0) 1 24 ht hi hz hsize hby rfl (by decide) v n xs hown a 1 c [u] (by simp) hnew hone (by unfold maxLen;omega) (by omega) hbase;refine⟨v',w',hr,h2,h3,?_⟩;have hzero:∀(m:Nat),∀x∈(Builtin.zeroCells (Value.cells (.slice none 0 0)) m).toList,∃a n c,x=.slice a n c:=by intro m x hx;simp[Builtin.zeroCells,Value.cells] at hx;obtain⟨l,_,hx⟩:=hx;rw[Nat.mod_one] at hx;exact⟨none,0,0,by rw[<-hx];rfl⟩
 rcases hown.2 with ⟨rfl,rfl⟩|⟨g,cap,ag,rfl,hbg,hg,hnc,hcm,hcs,htake⟩
 .have hr2:=run_append_nil (P:=P) w t ty e i (.slice none 0 0) ht hi hz a 1 c [u] (by rw[hsize];rfl) hnew (by omega) (by omega) (by rw[hby];omega);rw[hr] at hr2;simp only[Result.ok.injEq] at hr2;obtain⟨rfl,rfl⟩:=hr2;intro g hg;simp only[Value.ownBlock,M3] at hg;subst hg;refine CC (w:=w.drew) (λx hx=>?_);rw[Array.toList_append,MY] at hx;rcases hx with hx|hx
  .simp at hx;rw[hx];exact hu
  .exact hzero _ x hx
 .have hcur:=BN hg (hk g rfl);by_cases hroom:n+1<=cap
  .have hr2:=run_append_room (P:=P) w t ty e i ht hi g n cap ag hg a 1 c [u] (by rw[hsize];rfl) hnew hone hroom (by rw[hsize,hcs];simp;omega);rw[hr] at hr2;simp only[Result.ok.injEq] at hr2;obtain⟨rfl,rfl⟩:=hr2;intro g2 hg2;simp only[Value.ownBlock,M3] at hg2;subst hg2;refine vU (setRow_heap w g ag _ e _ hg) (λx hx=>?_);rw[List.toList_toArray,MY,MY] at hx;rcases hx with (hx|hx)|hx
   .exact hcur x (Ns hx)
   .rw[MZ] at hx;rw[hx];exact hu
   .exact hcur x (List.mem_of_mem_drop hx)
  .have holds:∀j x,xs[j]?=some x->w.cell? ((⟨g,0,none⟩:Addr).add j)=some x:=hown.cells (g:=g) rfl;have hr2:=run_append_grow (P:=P) w t ty e i (.slice none 0 0) ht hi hz ⟨g,0,none⟩ n cap xs (by rw[hsize];exact hown.1) holds a 1 c [u] (by rw[hsize];rfl) hnew (by omega) (by omega) (growslice_fits (by omega) (by rw[hby];omega));rw[hr] at hr2;simp only[Result.ok.injEq] at hr2;obtain⟨rfl,rfl⟩:=hr2;intro g2 hg2;simp only[Value.ownBlock,M3] at hg2;subst hg2;refine CC (w:=w.drew) (λx hx=>?_);rw[Array.toList_append,Array.toList_append,MY,MY] at hx;rcases hx with (hx|hx)|hx
   .rw[List.toList_toArray,<-htake] at hx;exact hcur x (Ns hx)
   .simp at hx;rw[hx];exact hu
   .exact hzero _ x hx
theorem Tryz.infoPolyW:(prog.info? 59).map (λi=>(i.zero,i.size,i.bytes))=some (some (.slice none 0 0),1,24):=by kernel_rfl
def aD:Value:=.slice none 0 0
structure dV(B:Nat)(w:World)(v:Value)(us:List Value)(fss:List (List Tm)):Prop where
 len:us.length=fss.length
 own:w.ownsRow B 59 1 v fss.length us
 kind:∀g,v.ownBlock=some g->cO w g
 pls:∀i,i<fss.length->Pl w (us.getD i aD) (fss.getD i [])
theorem dV.next{B:Nat}{w w':World}{v:Value}{us:List Value}{fss:List (List Tm)}(h:dV B w v us fss)(hb:Below w.heap.size w w'):dV B w' v us fss:=
 ⟨h.len,aI h.own hb,λg hg=>(h.kind g hg).below (MH h.own g hg).2 hb,λi hi=>(h.pls i hi).below hb⟩
theorem dV.nil(B:Nat)(w:World):dV B w (.slice none 0 0) [] []:=
 ⟨rfl,World.ownsRow_nil _ _ _ _,λg hg=>by simp[Value.ownBlock] at hg,λi hi=>by simp at hi⟩
theorem dV.vl{B:Nat}{w:World}{v:Value}{us:List Value}{fss:List (List Tm)}(h:dV B w v us fss):Vl w v fss:=by
 obtain⟨a,c,rfl⟩:=bY h.own;refine⟨a,c,rfl,λhp=>?_⟩;obtain⟨g,rfl,_,hlt,_⟩:=ik h.own 0 hp;refine⟨g,0,rfl,hlt,λi hi=>?_⟩;obtain⟨g2,hg2,_,_,hc⟩:=ik h.own i hi;simp only[M3,Addr.mk.injEq,and_true] at hg2;subst hg2;refine⟨us.getD i aD,?_,h.pls i hi⟩;rw[M1,hc];have:i<us.length:=by rw[h.len];exact hi
 simp[MV,this]
theorem dV.snoc{B:Nat}{W W2:World}{v v2:Value}{us:List Value}{fss:List (List Tm)}{u:Value}{f:List Tm}(h:dV B W v us fss)(hu:Pl W u f)(h2:W2.ownsRow B 59 1 v2 (fss.length+1) (us++[u]))(g2:W.grownBy W2 v.ownBlock)(k2:∀g,v2.ownBlock=some g->cO W2 g):dV B W2 v2 (us++[u]) (fss++[f]):=by
 have keep:∀{x:Value}{ts:List Tm},Pl W x ts->Pl W2 x ts:=by
  intro x ts hx;cases ho:v.ownBlock with
  |none=>rw[ho] at g2;exact hx.below ⟨g2.os,g2.tape,g2.output,g2.size,λk hk=>g2.block k hk (by simp)⟩
  |some g=>rw[ho] at g2;exact mU (h.kind g ho) g2 hx
 refine⟨by simp[h.len],by rw[M0];exact h2,k2,λi hi=>?_⟩;rw[M0] at hi;simp only[Nc,List.length_nil] at hi;rcases Nat.lt_or_ge i fss.length with hl|hl
 .have e1:(us++[u]).getD i aD=us.getD i aD:=by simp[MV,Ng (show i<us.length by rw[h.len];exact hl)]
  have e2:(fss++[f]).getD i []=fss.getD i []:=by simp[MV,Ng hl]
  rw[e1,e2];exact keep (h.pls i hl)
 .have e:i=fss.length:=by omega
  subst e;have e1:(us++[u]).getD fss.length aD=u:=by rw[<-h.len];simp[MV]
  have e2:(fss++[f]).getD fss.length []=f:=by simp[MV]
  rw[e1,e2];exact keep hu
theorem dV.grown{B:Nat}{w W w':World}{v:Value}{us:List Value}{fss:List (List Tm)}(h:dV B W v us fss)(hb:Below B w W)(hg:W.grownBy w' v.ownBlock)(hB:B<=w.heap.size):Below B w w':=dE h.own hb hg hB
theorem Lk{ops:Array Oper}{o:Oper}{a:Act}{w:World}{K:Act->World->Prop}{Q:Exit->Act->World->Prop}{E:Prop}(hgd:o.guard=none)(s x:Operand)(t:TypeId)(ho:o.op=.call {callee:=.builtin .append,args:=#[s,x],argTypes:=#[t,t]})(ht:prog.underlying t=some (.slice 59))(B:Nat)(v:Value)(us:List Value)(fss:List (List Tm))(hs:a.eval s=v)(h:dV B w v us fss)(ad:Addr)(c:Nat)(u:Value)(f:List Tm)(hu:Pl w u f)(hx:a.eval x=.slice (some ad) 1 c)(hnew:∀j y,[u][j]?=some y->w.cell? (ad.add j)=some y)(hn:fss.length<=1200000000000)(hB:B<=w.heap.size)(hK:∀v' w',dV B w' v' (us++[u]) (fss++[f])->w.grownBy w' v.ownBlock->K (a.put o.dst v') w'):if Region.wanted o (yielded ops a.tmps)=true then Oper.wp prog o a w K Q else E:=by
 have hw:Region.wanted o (yielded ops a.tmps)=true:=by simp[Region.wanted,hgd]
 rw[M9 hw];obtain⟨i0,hi,hz0,hz1,hz2⟩:=info_parts Tryz.infoPolyW;obtain⟨v',w',hr,h2,h3,h4⟩:=uu (P:=prog) w B t o.type 59 i0 ht hi hz0 hz1 hz2 v fss.length us h.own h.kind ad c u (by obtain⟨a,c,e,_⟩:=hu;exact⟨_,_,_,e⟩) hnew hn hB;unfold Oper.wp execOp;simp only[ho,resolve,invoke,builtin,Sem.run_bind,Sem.run_pure,Result.andThen_ok,List.map_toArray,List.map_cons,List.map_nil,hs,hx,hr];exact hK v' w' (h.snoc hu h2 h3 h4) h3
end Go.Proofs.YteimdcndjjclnaaGreat
namespace Go.Proofs.YteimdcndjjclnaaGreat
open Go.Proofs.Tryz
set_option linter.all false
theorem Ch{p o:Int}:∀(l out:List Tm)(x:Tm),x∈l.foldl (bK p o) out->(∃y∈l,x.2=y.2)\/∃u∈out,x.2=u.2
 |[],out,x,h=>Nq ⟨x,h,rfl⟩
 |t::l,out,x,h=>by
  rcases Ch l (bK p o out t) x h with ⟨y,hy,e⟩|⟨u,hu,e⟩
  .exact Np ⟨y,by simp[hy],e⟩
  .rcases pQ hu with e2|⟨y,hy,e2⟩
   .exact Np ⟨t,by simp,by rw[e,e2]⟩
   .exact Nq ⟨y,hy,by rw[e,e2]⟩
theorem Kr{p o:Int}{l:List Tm}{x:Tm}(h:x∈cM p o l):∃y∈l,x.2=y.2:=by
 rcases Ch l [] x (Nh.1 h).1 with h|⟨u,hu,_⟩
 .exact h
 .simp at hu
theorem Ks{o:Int}{xs ys:List Int}(h:0<aX o xs ys):aj ys<=aj xs:=by
 have h2:=fS (aj xs) (aj ys);unfold aX at h;by_cases hz:aQ (aj xs) (aj ys)=0
 .omega
 .rw[M8 hz] at h;omega
theorem A4{p o:Int}{N:Nat}{t:Tm}{ts:List Tm}(h:eB p o N (t::ts)):∀x∈t::ts,aj x.2<=aj t.2:=by
 intro x hx;rcases Nb.1 hx with rfl|hx
 .exact Int.le_refl _
 .exact Ks (h.falls.1 x hx)
end Go.Proofs.YteimdcndjjclnaaGreat
namespace Go.Proofs.YteimdcndjjclnaaGreat
set_option linter.all false
open Go.Proofs.Tryz Go.RowKit
def Ci(p n o v:Int)(chk:List (List Tm)->Int):Prop:=
 (∀(fss:List (List Tm)) (lv:Value) (w:World),fss.length<=1200000000000->Vl w lv fss->Calls prog 123 #[aS p n o v,lv] w λe w'=>e=.returned (.int .i64 (chk fss))/\Below w.heap.size w w')/\
 (∀fss,fss≠[]->chk fss=0->bm p n o v=0/\∀f∈fss,cQ p n o f=0)/\
 (bm p n o v=0->∀fss,(∀f∈fss,cQ p n o f=0)->chk fss=0)
theorem Kt{w:World}{x:Value}{fs:List Tm}{b c:Nat}(hf:Pl w x fs)(hlt:b<w.heap.size)(c0:w.cell? ⟨b,0,none⟩=some x):Vl w (.slice (some ⟨b,0,none⟩) 1 c) [fs]:=by
 refine⟨_,c,rfl,λ_=>⟨b,0,rfl,hlt,λi hi=>?_⟩⟩;simp only[Nc,List.length_nil] at hi;rcases i with _|i
 .exact⟨x,c0,hf⟩
 .omega
theorem Ku{p n o v:Int}{f:List Tm}(hr:bm p n o v=0)(h:cQ p n o f=0):cL p o n.toNat f/\0<n.toNat/\n.toNat<=3/\bq p=0/\(2<=p/\p<=101)/\(o=1\/o=2):=by
 obtain⟨h1,h2,h3,h4,_⟩:=jQ hr;have e:n=(n.toNat:Int):=by omega
 rw[e] at h;exact⟨pJ h,by omega,by omega,h1,eO h1,h4⟩
theorem Kv{p o:Int}(l:List Tm):(cM p o l).length<=l.length:=by have h1:=Nm (λt:Tm=>t.1%p !=0) (l.foldl (bK p o) []);have h2:=vZ (p:=p) (o:=o) l [];simp only[List.length_nil] at h2;unfold cM;omega
def fU(least p n:Int)(t:Tm):Int:=if t.1<least\/p<=t.1 then 3 else bW n t.2
def gE(p n o:Int)(ts:List Tm)(k:Nat):Int:=
 if fU 1 p n (ts.getD k bi)≠0 then fU 1 p n (ts.getD k bi) else if jL o (jn ts k) (ts.getD k bi).2=false then 4 else 0
def jo(E:Nat->Int):Nat->Nat->Int
 |0,_=>0
 |m+1,k=>if E k≠0 then E k else jo E m (k+1)
theorem Cj(E:Nat->Int){k m:Nat}(h:k<m):jo E (m-k) k=if E k≠0 then E k else jo E (m-(k+1)) (k+1):=by obtain⟨d,rfl⟩:∃d,m=k+1+d:=⟨m-(k+1),by omega⟩;rw[show k+1+d-k=d+1 by omega,show k+1+d-(k+1)=d by omega];rfl
theorem Ck{p n o:Int}(ts:List Tm):∀(m k:Nat),k+m=ts.length->jo (gE p n o ts) m k=jM p n o (jn ts k) (ts.drop k)
 |0,k,h=>by rw[No (by omega)];rfl
 |m+1,k,h=>by
  have hk:k<ts.length:=by omega
  rw[Cl p n o ts k hk];have ih:=Ck (p:=p) (n:=n) (o:=o) ts m (k+1) (by omega);have hu:jo (gE p n o ts) (m+1) k=if gE p n o ts k≠0 then gE p n o ts k else jo (gE p n o ts) m (k+1):=rfl
  rw[hu,ih];unfold gE fU;generalize ts.getD k bi=t;have hb:bO t.1 1 (p-1)=false↔(t.1<1\/p<=t.1):=by
   have e:bO t.1 1 (p-1)=decide (1<=t.1/\t.1<=p-1):=by simp[bO]
   rw[e,decide_eq_false_iff_not];omega
  by_cases h1:t.1<1\/p<=t.1
  .rw[M9 (hb.2 h1),M9 h1];simp
  .rw[M8 (λh=>h1 (hb.1 h)),M8 h1];by_cases h2:bW n t.2≠0
   .rw[M9 h2,M9 h2,M9 h2]
   .rw[M8 h2,M8 h2];cases h3:jL o (jn ts k) t.2<;>simp
theorem Kw{p n o:Int}{ts:List Tm}{k:Nat}(h:gE p n o ts k=0):bW n (ts.getD k bi).2=0:=by
 unfold gE at h;by_cases h1:fU 1 p n (ts.getD k bi)=0
 .unfold fU at h1;split at h1
  .omega
  .exact h1
 .rw[M9 h1] at h;exact absurd h h1
theorem Kx{p n o v:Int}{te:List Int}(hR:bm p n o v=0):lm p n o v [te]=bW n te:=by
 unfold lm;rw[M9 hR];simp only[kr];split
 .rename_i h;exact h.symm
 .rfl
theorem sn(p n o v least c:Int)(ev:Value)(te:List Int)(w:World)(hR:bm p n o v=0)(hs:Sl w ev te):Calls prog 163 #[aS p n o v,.int .i64 least,.agg #[.int .i64 c,ev]] w λe w'=>e=.returned (.int .i64 (fU least p n (c,te)))/\Below w.heap.size w w':=by
 have HS:=ae hs;have HALL:=ae (Kx (te:=te) hR);obtain⟨a,cap,rfl,_⟩:=hs;have HB2:Nw (∀A B,Below w.heap.size w ((w.alloc A).alloc B)):=λA B=>gH;clear hR;by_cases h1:c<least
 .have HE:Nw (fU least p n (c,te)=3):=by show _=_;unfold fU;rw[M9 (Np h1)]
  rw[HE.o];go_enter func163,ntmps163;go_wp2;go_ret;exact⟨rfl,HB2.o _ _⟩
 .by_cases h2:p<=c
  .have HE:Nw (fU least p n (c,te)=3):=by show _=_;unfold fU;rw[M9 (Nq h2)]
   rw[HE.o];go_enter func163,ntmps163;go_wp2;go_ret;exact⟨rfl,HB2.o _ _⟩
  .have HE:Nw (fU least p n (c,te)=bW n te):=by show _=_;unfold fU;rw[M8 (by simp only;omega)]
   rw[HE.o];go_enter func163,ntmps163;go_wp2_with (go_at_call 178;refine(Dc p n o v _ te _ (HS.o.below (HB2.o _ _))).mono ?_;rw[HALL.o];rintro e w2 ⟨rfl,hb2⟩;have HB9:=ae ((HB2.o _ _).trans (hb2.mono (HB2.o _ _).size));clear hb2);go_ret;exact⟨rfl,HB9.o⟩
theorem Ky(p n o v:Int)(fv:Value)(ts:List Tm)(k:Nat)(w:World)(hR:bm p n o v=0)(hk2:k<ts.length)(hlen:ts.length<=2000)(hq:∀j,j<k->bW n (ts.getD j bi).2=0)(pf:Pl w fv ts):Calls prog 150 #[aS p n o v,fv,.int .i64 k] w λe w'=>e=.returned (.int .i64 (gE p n o ts k))/\Below w.heap.size w w':=by
 obtain⟨fa,fc,rfl,_,hfc⟩:=pf;obtain⟨b,off,rfl,hlt,hat⟩:=hfc (by omega);obtain⟨_,hn1,hn2,ho,_⟩:=jQ hR;have HR:=ae hR;have HO:=ae ho;have HQ:=ae hq;obtain⟨w1,hw1⟩:∃w1,w1=w.alloc (.cells #[.int .i64 p,.int .i64 n,.int .i64 o,.int .i64 v] 23):=⟨_,rfl⟩;have hbx:bE w1 w.heap.size p n o v:=by rw[hw1];exact bE.new w p n o v _
 have hbw:Below w.heap.size w w1:=by rw[hw1];exact bA
 obtain⟨_,bx0,bx1,bx2,bx3⟩:=hbx;have HBW:=ae hbw;have HB0:Nw (Below w1.heap.size w1 w1.drew):=(MJ _ _).drew;obtain⟨c0,ev,c1,hse⟩:=hat k hk2;have HAT:=ae hat;have HER:Nw (gE p n o ts k=if fU 1 p n (ts.getD k bi)≠0 then fU 1 p n (ts.getD k bi) else if jL o (jn ts k) (ts.getD k bi).2=false then 4 else 0):=rfl;generalize ts.getD k bi=t at c0 hse HER;obtain⟨tc,te⟩:=t;have HSE:=ae (hse.below hbw);obtain⟨ea,ec,rfl,_⟩:=hse;simp only at c0 c1 HER;have KEEP:Nw (∀W,Below w1.heap.size w1 W->(Nw (Below w1.heap.size w1 W)/\W.cell? ⟨w.heap.size,0,none⟩=some (.int .i64 p)/\W.cell? ⟨w.heap.size,1,none⟩=some (.int .i64 n)/\W.cell? ⟨w.heap.size,2,none⟩=some (.int .i64 o)/\W.cell? ⟨w.heap.size,3,none⟩=some (.int .i64 v)/\W.cell? ⟨b,off+k*2,none⟩=some (.int .i64 tc)/\W.cell? ⟨b,off+k*2+1,none⟩=some (.slice ea te.length ec))):=
  λW hb=>⟨hb,af bx0 hb,af bx1 hb,af bx2 hb,af bx3 hb,af (af c0 hbw) hb,af (af c1 hbw) hb⟩
 have KEEPC:=ae (fun(W:World)(hb:Below w1.heap.size w1 W)(b2 o2:Nat)(u:Value)(hc:w.cell? ⟨b2,o2,none⟩=some u)=>af (af hc hbw) hb);clear hR ho hq hat c0 c1 bx0 bx1 bx2 bx3 hbw;cases hz:(fU 1 p n (tc,te) !=0)
 .have hz0:fU 1 p n (tc,te)=0:=by simpa using hz
  have HZ:=ae hz0;have hem:bW n te=0:=by
   unfold fU at hz0;split at hz0
   .omega
   .exact hz0
  have HEM:=ae hem;clear hz0 hem;rcases Nat.eq_zero_or_pos k with rfl|hpos
  .simp only[Nat.zero_mul,Nat.add_zero] at KEEP;have HEE:Nw (gE p n o ts 0=0):=by show _=_;rw[HER.o,M8 (by simpa using HZ.o),M8 (by simp[jn,jL])]
   rw[HEE.o];go_enter func150,ntmps150;go_wp2_with fail;rw[<-hw1];clear hw1;go_region_held (λW=>Nw (Below w1.heap.size w1 W)/\W.cell? ⟨w.heap.size,0,none⟩=some (.int .i64 p)/\W.cell? ⟨w.heap.size,1,none⟩=some (.int .i64 n)/\W.cell? ⟨w.heap.size,2,none⟩=some (.int .i64 o)/\W.cell? ⟨w.heap.size,3,none⟩=some (.int .i64 v)/\W.cell? ⟨b,off,none⟩=some (.int .i64 tc)/\W.cell? ⟨b,off+1,none⟩=some (.slice ea te.length ec))
    (first|exact KEEP.o _ HB0.o|exact KEEP.o _ (HB0.o.trans (hb9.mono HB0.o.size)))
    (first|(go_at_call 163;refine(sn p n o v 1 tc _ te _ HR.o ?_).mono ?_;exact HSE.o.below HB0.o;rintro e w9 ⟨rfl,hb9⟩))
   have HB9:=ae (show Below w1.heap.size w1 w9 from HB0.o.trans (hb9.mono HB0.o.size));clear hb9;rw[HZ.o];go_wp2_with fail;go_quiet (fail);have HQ1:=ae (below_drewN HB9.o nq);go_wp2;go_ret;exact⟨rfl,HBW.o.trans (HQ1.o.mono HBW.o.size)⟩
  .have hk3:k-1<ts.length:=by omega
   obtain⟨_,ev2,d1,hse2⟩:=HAT.o (k-1) hk3;have HPE:Nw (jn ts k=some (ts.getD (k-1) bi).2):=by obtain⟨m,rfl⟩:∃m,k=m+1:=⟨k-1,by omega⟩;rfl
   have HQE:=ae (HQ.o (k-1) (by omega));generalize ts.getD (k-1) bi=q at hse2 HPE HQE;obtain⟨qc,qe⟩:=q;have HSE2:=ae (hse2.below HBW.o);obtain⟨ea2,ec2,rfl,_⟩:=hse2;simp only at d1 HPE HQE;have hqo:=jR HQE.o;have hto:=jR HEM.o;have HLL:Nw (qe.length=te.length):=by have h1:=hqo.1;have h2:=hto.1;show _=_;omega
   have hq0:0<qe.length:=by have h1:=hqo.1;omega
   have hq3:qe.length<=3:=by have h1:=hqo.1;omega
   have HQB:=ae (MK (show∀x∈qe,0<=x/\x<=40000 from λx hx=>by have:=hqo.2.1 x hx;omega) (show∀x∈te,0<=x/\x<=40000 from λx hx=>by have:=hto.2.1 x hx;omega));have KEEP2:Nw (∀W,Below w1.heap.size w1 W->(Nw (Below w1.heap.size w1 W)/\W.cell? ⟨w.heap.size,0,none⟩=some (.int .i64 p)/\W.cell? ⟨w.heap.size,1,none⟩=some (.int .i64 n)/\W.cell? ⟨w.heap.size,2,none⟩=some (.int .i64 o)/\W.cell? ⟨w.heap.size,3,none⟩=some (.int .i64 v)/\W.cell? ⟨b,off+k*2,none⟩=some (.int .i64 tc)/\W.cell? ⟨b,off+k*2+1,none⟩=some (.slice ea te.length ec)/\W.cell? ⟨b,off+(k-1)*2+1,none⟩=some (.slice ea2 qe.length ec2))):=λW hb=>by have h:=KEEP.o W hb;exact⟨h.1,h.2.1,h.2.2.1,h.2.2.2.1,h.2.2.2.2.1,h.2.2.2.2.2.1,h.2.2.2.2.2.2,KEEPC.o W hb _ _ _ d1⟩
   obtain⟨hq1,hq2,hq4,hq5,hq6,hq7,hq8⟩:=Cm hpos hk2;have hwr:=Co hpos (MO (Nat.le_of_lt hk2) hlen);clear hqo hto d1;by_cases hgt:aX o qe te<=0
   .have HEE:Nw (gE p n o ts k=4):=by show _=_;rw[HER.o,M8 (by simpa using HZ.o),HPE.o,M9];show eW o qe te=false;unfold eW;exact ML (by omega)
    rw[HEE.o];go_enter func150,ntmps150;go_wp2_with fail;rw[<-hw1];clear hw1;go_region_held (λW=>Nw (Below w1.heap.size w1 W)/\W.cell? ⟨w.heap.size,0,none⟩=some (.int .i64 p)/\W.cell? ⟨w.heap.size,1,none⟩=some (.int .i64 n)/\W.cell? ⟨w.heap.size,2,none⟩=some (.int .i64 o)/\W.cell? ⟨w.heap.size,3,none⟩=some (.int .i64 v)/\W.cell? ⟨b,off+k*2,none⟩=some (.int .i64 tc)/\W.cell? ⟨b,off+k*2+1,none⟩=some (.slice ea te.length ec))
     (first|exact KEEP.o _ HB0.o|exact KEEP.o _ (HB0.o.trans (hb9.mono HB0.o.size)))
     (first|(go_at_call 163;refine(sn p n o v 1 tc _ te _ HR.o ?_).mono ?_;exact HSE.o.below HB0.o;rintro e w9 ⟨rfl,hb9⟩))
    have HB9:=ae (show Below w1.heap.size w1 w9 from HB0.o.trans (hb9.mono HB0.o.size));clear hb9;rw[HZ.o];go_wp2_with fail;go_region_held (λW=>Nw (Below w1.heap.size w1 W)/\W.cell? ⟨w.heap.size,0,none⟩=some (.int .i64 p)/\W.cell? ⟨w.heap.size,1,none⟩=some (.int .i64 n)/\W.cell? ⟨w.heap.size,2,none⟩=some (.int .i64 o)/\W.cell? ⟨w.heap.size,3,none⟩=some (.int .i64 v)/\W.cell? ⟨b,off+k*2,none⟩=some (.int .i64 tc)/\W.cell? ⟨b,off+k*2+1,none⟩=some (.slice ea te.length ec)/\W.cell? ⟨b,off+(k-1)*2+1,none⟩=some (.slice ea2 qe.length ec2))
     (first|exact KEEP2.o _ HB9.o.drew|exact KEEP2.o _ (HB9.o.drew.trans (hb8.mono HB9.o.drew.size)))
     (first|(go_at_call 164;refine(xk p n o v _ _ qe te _ HO.o hq0 hq3 HLL.o HQB.o.1 HQB.o.2 ?_ ?_).mono ?_;exact HSE2.o.below HB9.o.drew;exact HSE.o.below HB9.o.drew;rintro e w8 ⟨rfl,hb8⟩))
    have HB8:=ae (show Below w1.heap.size w1 w8 from HB9.o.drew.trans (hb8.mono HB9.o.drew.size));clear hb8;go_wp2_with fail;go_ret;exact⟨rfl,HBW.o.trans (HB8.o.mono HBW.o.size)⟩
   .have HEE:Nw (gE p n o ts k=0):=by show _=_;rw[HER.o,M8 (by simpa using HZ.o),HPE.o,M8];show¬eW o qe te=false;unfold eW;rw[MM (show 0<aX o qe te by omega)];simp
    rw[HEE.o];go_enter func150,ntmps150;go_wp2_with fail;rw[<-hw1];clear hw1;go_region_held (λW=>Nw (Below w1.heap.size w1 W)/\W.cell? ⟨w.heap.size,0,none⟩=some (.int .i64 p)/\W.cell? ⟨w.heap.size,1,none⟩=some (.int .i64 n)/\W.cell? ⟨w.heap.size,2,none⟩=some (.int .i64 o)/\W.cell? ⟨w.heap.size,3,none⟩=some (.int .i64 v)/\W.cell? ⟨b,off+k*2,none⟩=some (.int .i64 tc)/\W.cell? ⟨b,off+k*2+1,none⟩=some (.slice ea te.length ec))
     (first|exact KEEP.o _ HB0.o|exact KEEP.o _ (HB0.o.trans (hb9.mono HB0.o.size)))
     (first|(go_at_call 163;refine(sn p n o v 1 tc _ te _ HR.o ?_).mono ?_;exact HSE.o.below HB0.o;rintro e w9 ⟨rfl,hb9⟩))
    have HB9:=ae (show Below w1.heap.size w1 w9 from HB0.o.trans (hb9.mono HB0.o.size));clear hb9;rw[HZ.o];go_wp2_with fail;go_region_held (λW=>Nw (Below w1.heap.size w1 W)/\W.cell? ⟨w.heap.size,0,none⟩=some (.int .i64 p)/\W.cell? ⟨w.heap.size,1,none⟩=some (.int .i64 n)/\W.cell? ⟨w.heap.size,2,none⟩=some (.int .i64 o)/\W.cell? ⟨w.heap.size,3,none⟩=some (.int .i64 v)/\W.cell? ⟨b,off+k*2,none⟩=some (.int .i64 tc)/\W.cell? ⟨b,off+k*2+1,none⟩=some (.slice ea te.length ec)/\W.cell? ⟨b,off+(k-1)*2+1,none⟩=some (.slice ea2 qe.length ec2))
     (first|exact KEEP2.o _ HB9.o.drew|exact KEEP2.o _ (HB9.o.drew.trans (hb8.mono HB9.o.drew.size)))
     (first|(go_at_call 164;refine(xk p n o v _ _ qe te _ HO.o hq0 hq3 HLL.o HQB.o.1 HQB.o.2 ?_ ?_).mono ?_;exact HSE2.o.below HB9.o.drew;exact HSE.o.below HB9.o.drew;rintro e w8 ⟨rfl,hb8⟩))
    have HB8:=ae (show Below w1.heap.size w1 w8 from HB9.o.drew.trans (hb8.mono HB9.o.drew.size));clear hb8;go_wp2_with fail;go_ret;exact⟨rfl,HBW.o.trans (HB8.o.mono HBW.o.size)⟩
 .have HEE:Nw (gE p n o ts k=fU 1 p n (tc,te)):=by show _=_;rw[HER.o,M9 (by simpa using hz)]
  rw[HEE.o];go_enter func150,ntmps150;go_wp2_with fail;rw[<-hw1];clear hw1;go_region_held (λW=>Nw (Below w1.heap.size w1 W)/\W.cell? ⟨w.heap.size,0,none⟩=some (.int .i64 p)/\W.cell? ⟨w.heap.size,1,none⟩=some (.int .i64 n)/\W.cell? ⟨w.heap.size,2,none⟩=some (.int .i64 o)/\W.cell? ⟨w.heap.size,3,none⟩=some (.int .i64 v)/\W.cell? ⟨b,off+k*2,none⟩=some (.int .i64 tc)/\W.cell? ⟨b,off+k*2+1,none⟩=some (.slice ea te.length ec))
   (first|exact KEEP.o _ HB0.o|exact KEEP.o _ (HB0.o.trans (hb9.mono HB0.o.size)))
   (first|(go_at_call 163;refine(sn p n o v 1 tc _ te _ HR.o ?_).mono ?_;exact HSE.o.below HB0.o;rintro e w9 ⟨rfl,hb9⟩))
  have HB9:=ae (show Below w1.heap.size w1 w9 from HB0.o.trans (hb9.mono HB0.o.size));clear hb9;go_wp2;go_ret;exact⟨rfl,HBW.o.trans (HB9.o.mono HBW.o.size)⟩
def rO(f:List Tm):Int:=match f with|[]=>0|t::_=>aj t.2
theorem I2(x:Value)(f:List Tm)(w:World)(hf:Pl w x f)(hl:∀t∈f,0<t.2.length/\t.2.length<=3)(he:∀t∈f,∀e∈t.2,0<=e/\e<=400):Calls prog 42 #[x] w λe w'=>e=.returned (.int .i64 (rO f))/\w'=w:=by
 cases f with
 |nil=>obtain⟨a,cap,rfl,hcap,h⟩:=hf;go_enter func42,ntmps42;go_wp2;go_ret;exact⟨rfl,rfl⟩
 |cons t ts=>
  have h3:=(hl t (by simp)).2;have HB:Nw (∀x∈t.2,0<=x/\x<=40000):=λx hx=>by have:=he t (by simp) x hx;omega
  obtain⟨b,off,cap,ev,rfl,hcap,hlt,c0,c1,hse,_,_⟩:=hf.head;obtain⟨a,c,rfl,hs⟩:=hse;obtain⟨eb,eoff,rfl,helt,hei⟩:=hs (hl t (by simp)).1;have HEI:=ae hei;clear hei hs hf hl he;have hle:(0:Int)<(ts.length:Int)+1:=by omega
  have hne:((ts.length:Int)+1==0)=false:=by simp;omega
  have hn2:decide ((ts.length:Int)+1=0)=false:=by simp;omega
  have hn3:¬((ts.length:Int)+1=0):=by omega
  go_enter func42,ntmps42;go_wp2_with (go_at_call 69;refine(jP t.2 _ _ _ _ HB.o h3 HEI.o).mono ?_;rintro e w' ⟨rfl,rfl⟩);go_ret;exact⟨rfl,rfl⟩
end Go.Proofs.YteimdcndjjclnaaGreat
