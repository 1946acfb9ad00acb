/- Rows of flat vectors. -/
import Derived.Test.YtjkalahhpobefaaGreatKX
set_option maxHeartbeats 4000000
set_option maxRecDepth 100000
namespace Go.Proofs.YtjkalahhpobefaaGreat
set_option linter.all false
open Go.Proofs.Tryz Go.RowKit
def eU(w:PJ)(u:PK):Prop:=∀b off n c,u=.slice (some (PN b off)) n c->∃ag,w.heap[b]?=some (.cells ag 88 (0,0))
variable{u:PK}{w w':PJ}
theorem eU.same(h:eU w u)(hs:∀b:Nat,(∃ag,w.heap[b]?=some (.cells ag 88 (0,0)))->w'.heap[b]?=w.heap[b]?):eU w' u:=λb off n c e=>by obtain⟨ag,h1⟩:=h b off n c e;exact⟨ag,(hs b ⟨ag,h1⟩).trans h1⟩
theorem eU.below(h:eU w u)(hb:Io w w'):eU w' u:=h.same λb ⟨ag,h1⟩=>hb.block b (O6.1 h1).1
variable{us:PH}{v:PK}{w2:PJ}{B:Nat}
theorem aM.add{v2:PK}{rows:PC}{f:PB}(h:aM B w v us rows)(hu:Fv w u f)(ho:w2.ownsRow B 79 1 v2 (rows.length+1) (us++[u]))(hg:w.grownBy w2 v.ownBlock)(hk:∀g,v2.ownBlock=some g->cG w2 g):aM B w2 v2 (us++[u]) (rows++[f]):=by
 have hf:aj (λk=>v.ownBlock=some k) w w2:=aj.of_grown hg λg e=>e;have hn:∀g,v.ownBlock=some g->bU io w g:=λg hg=>kJ (h.kind g hg);refine⟨by simp[h.len],by simpa using ho,hk,λi hi=>?_⟩;by_cases hi2:i<rows.length
 .have e1:(us++[u]).getD i aL=us.getD i aL:=by rw[OH,OH,O4 (by rw[h.len];exact hi2)]
  have e2:(rows++[f]).getD i []=rows.getD i []:=by rw[OH,OH,O4 hi2]
  rw[e1,e2];exact fN hf hn (h.fvs i hi2)
 .have e:i=rows.length:=by simp at hi;omega
  subst e;have e1:(us++[u]).getD rows.length aL=u:=by rw[OH,O9 (by rw[h.len];exact Ou _),h.len];simp
  have e2:(rows++[f]).getD rows.length []=f:=by rw[OH,O9 (Ou _)];simp
  rw[e1,e2];exact fN hf hn hu
theorem pU{P:Program}{ops:Array Oper}{rest:List Oper}{o:Oper}{a:Act}{Q:Exit->Act->PJ->Prop}(hgd:o.guard=none)(s x:Operand)(t:TypeId)(ho:o.op=.call {callee:=.builtin .append,args:=#[s,x],argTypes:=#[t,t]})(base:Nat)(e:TypeId)(i:TypeInfo)(ht:P.underlying t=some (.slice e))(hi:P.info? e=some i)(hz:i.zero=some (.slice none 0 0))(hsize:i.size=1)(hby:i.bytes=24)(v:PK)(n:Nat)(xs:PH)(hs:a.eval s=v)(hown:w.ownsRow base e 1 v n xs)(hk:∀g,v.ownBlock=some g->cG w g)(ad:Addr)(c:Nat)(u:PK)(hu:∃a n c,u=.slice a n c)(hx:a.eval x=.slice (some ad) 1 c)(hnew:w.cell? ad=some u)(hn:n<=1200000000000)(hbase:base<=w.heap.size)(hK:∀v' w',w'.ownsRow base e 1 v' (n+1) (xs++[u])->w.grownBy w' v.ownBlock->(∀g,v'.ownBlock=some g->cG w' g)->wpList P ops Q rest (a.put o.dst v') w'):wpList P ops Q (o::rest) a w:=by
 refine wpList_plain hgd λK hK'=>?_;obtain⟨v',w',hr,h2,h3,h4⟩:=Cq (P:=P) w base t o.type e i ht hi hz hsize hby v n xs hown hk ad c u hu (λj y hj=>by
  have hj0:j=0:=by apply Nat.eq_zero_of_not_pos;intro h;rw[OJ (by simp;omega)] at hj;simp at hj
  subst hj0;simp at hj;subst hj;exact hnew) hn hbase
 unfold Oper.wp execOp;simp only[ho,resolve,invoke,builtin,Sem.run_bind,Sem.run_pure,Result.andThen_ok,List.map_toArray,List.map_cons,List.map_nil,hs,hx,hr];exact hK' _ _ (hK v' w' h2 h3 h4)
theorem wW{n:Nat}(ho:w.ownsRow B 79 1 v n us)(hg:w.grownBy w2 v.ownBlock)(h:∀x∈us,eU w x)(hu:eU w u):∀x∈us++[u],eU w2 x:=λx hx=>by
 have h1:eU w x:=by
  rcases OK.1 hx with h1|h1
  .exact h x h1
  .rw[OL] at h1;rw[h1];exact hu
 refine h1.same λb ⟨ag,hc⟩=>hg.block b (O6.1 hc).1 λe=>?_;exact bj (T':=88) ho e.symm (by decide) ag hc
end Go.Proofs.YtjkalahhpobefaaGreat
namespace Go.Proofs.YtjkalahhpobefaaGreat
set_option linter.all false
open Go.Proofs.Tryz Go.RowKit Go.Sort
variable{w:PJ}
theorem LR[Inhabited Ft]{B g cap n:Nat}{fs:PB}{d:Array Ft}{os:Array Obj}(h:w.ownsRow B 88 7 (PM g fs.length cap) fs.length (aA fs))(hd:d.size=fs.length):(sortWorldK aB 7 w g 0 n d os).ownsRow B 88 7 (PM g fs.length cap) fs.length (aA d.toList):=by
 have hl:(aA d.toList).length=fs.length*7:=by rw[fw];simp[hd]
 refine⟨hl,?_⟩;rcases h.2 with ⟨h1,_⟩|⟨g2,cap2,ag,h1,hb,hg,hnc,hmx,hcs,htake⟩
 .simp at h1
 .simp only[OQ,OP,Addr.mk.injEq,and_true,true_and] at h1;obtain⟨rfl,rfl⟩:=h1;have hlt:g<w.heap.size:=by apply OU;intro hle;rw[Array.getElem?_eq_none hle] at hg;simp at hg
  refine .inr ⟨g,cap,putCells id 0 (flatK aB 7 d) ag,rfl,hb,?_,hnc,hmx,by simp[putCells,hcs],?_⟩
  .unfold sortWorldK putRowK;rw[heap_grow_old _ _ (by simpa [putRow,mapBlock,Sort.ahead] using hlt)];simp[putRow,mapBlock,Sort.ahead,Array.getElem?_modify,hg,onCells]
  .apply List.ext_getElem?;intro j;by_cases hj:j<fs.length*7
   .rw[List.getElem?_take_of_lt hj,sU d.toList j (by simpa [hd] using hj)];have hjc:j<ag.size:=by rw[hcs];have:=Ph 7 hnc;omega
    simp[putCells,hjc,hd,hj];have h7:=get_flatK aB 7 d j (by rw[hd];exact hj);rw[getElem!_pos _ j (by simpa [hd] using hj)] at h7;rw[h7];simp
   .rw[OJ (by rw[O7];omega),OJ (by omega)]
theorem LU(B g cap:Nat)(fs:PB)(w:PJ)(hown:w.ownsRow B 88 7 (PM g fs.length cap) fs.length (aA fs))(hc:fs.length<=cap)(hsz:fs.length<4611686018427387904)(hB:B<=w.heap.size):Calls prog 120 #[PM g fs.length cap] w λe w'=>e=.returned (.tuple #[])/\∃fs':PB,fs'.Perm fs/\iS fs'/\Fv w' (PM g fs.length cap) fs'/\Below B w w'/\w'.ownsRow B 88 7 (PM g fs.length cap) fs.length (aA fs'):=by
 have inh:Inhabited Ft:=⟨⟨0,0,0,0,0,0,0⟩⟩;have hlt:=Ot hown g rfl;have hH:=CV hown;have HC:=ae (CW g cap fs w hH hlt.2 hsz);have HH:=ae hH;have HLT:=ae hlt;have HOWN:=ae hown;clear hH hown hlt;go_enter func120,ntmps120;go_wp2_with (go_at_call 153;refine HC.o.mono ?_;rintro e w' ⟨rfl,d',n,os,hp,hs,hw⟩;have HR:=ae (Ow hp (Ow hs hw));clear hp hs hw);go_end0;obtain⟨hp,hs,hw⟩:=HR.o;have hds:d'.size=fs.length:=by simpa using hp.1
 have e1:d'.toList.length=fs.length:=by simpa using hds
 refine⟨rfl,d'.toList,?_,?_,?_,?_,?_⟩
 .have h:=hp.2.2;rw[show fs.toArray.extract 0 fs.length=fs.toArray from by simp,show d'.extract 0 fs.length=d' from by rw[<-hds];simp] at h;simpa using h
 .unfold iS;rw[List.pairwise_iff_getElem];intro i j hi hj hij;have h:=hs i j (OB _) hij (by omega);rw[p8,getElem!_pos _ j (by simpa using hj),getElem!_pos _ i (by simpa using hi)] at h;simp only[decide_eq_false_iff_not] at h;simp only[Array.getElem_toList];omega
 .have h:=holdsK_sortWorldK aB 7 w g 0 n fs.toArray d' os HLT.o.2 HH.o (by simpa using hds);rw[<-hw] at h;have hg:=sV (w:=w) (g:=g) (n:=n) (os:=os) d';rw[<-hw] at hg;have k:=CX (cap:=cap) (fs:=d'.toList) (by simpa using h) (Oz HLT.o.2 hg.size) (by omega);rw[e1] at k;exact k
 .have hg:=sV (w:=w) (g:=g) (n:=n) (os:=os) d';rw[<-hw] at hg;exact cQ hg HLT.o.1 hB
 .rw[hw];exact LR HOWN.o hds
theorem CY(ob:Nat)(p k0 k1 k2:Int)(sv x:PK)(ss:PI)(fss:Lt)(N:Nat)(w:PJ)(hob:aQ w ob p k0 k1 k2 sv)(hs:Sl w sv ss)(hl:fss.length<=ss.length)(hl2:fss.length<=255)(hss:∀s∈ss,-600000000000000000<=s/\s<=600000000000000000)(h0:0<=k0/\k0<=137438953472)(h1:0<=k1/\k1<=137438953472)(h2:0<=k2/\k2<=137438953472)(hN0:0<N)(hN3:N<=3)(hf:∀f∈fss,f.length<=2000/\∀t∈f,t.2.length=N/\(∀x∈t.2,0<=x/\x<=30000)/\0<=t.1/\t.1<=255)(pf:Vl w x fss):Calls prog 86 #[PL ob,PO 0,x] w λe w'=>∃u fs,e=.returned u/\Fv w' u fs/\fs.Perm (eV k0 k1 k2 ss fss fss.length)/\iS fs/\Io w w'/\w'.ownsRow w.heap.size 88 7 u fs.length (aA fs):=by
 have HX:=ae pf;have HF:=ae hf;have HOB:=ae hob;have HS:=ae hs;have HSS:=ae hss;have HK:=ae (Ow h0 (Ow h1 h2));obtain⟨ax,cx,rfl,_⟩:=pf;clear hf hob hs hss h0 h1 h2;obtain⟨i0,hi,hz0,hz1,hz2⟩:=info_parts Tryz.infoFt;have HI:=ae (Ow hi (Ow hz0 (Ow hz1 hz2)));clear hi hz0 hz1 hz2;have HLEN:Po (∀i,i<=fss.length->(eV k0 k1 k2 ss fss i).length<=i*2000):=λi=>by
  induction i with
  |zero=>intro _;simp[eV]
  |succ i ih=>intro hi;have h1:=ih (by omega);have h2:=(HF.o _ (iq fss i (by omega))).1;simp only[eV,OM,OS];omega
 go_enter func86,ntmps86;go_wp2_with fail;go_loopw [7,14] (λz i wr=>∃k:Nat,k<=fss.length/\i=PO k/\wr.ownsRow w.heap.size 88 7 z (eV k0 k1 k2 ss fss k).length (aA (eV k0 k1 k2 ss fss k))/\Io w wr) (λ_ i _=>fss.length-(intOf i).toNat);case atStart=>exact⟨0,OB _,rfl,World.ownsRow_nil _ _ _ _,Ov _ _⟩
 case round=>
  obtain⟨k,hk,rfl,hown,hbr⟩:=hrel;have HO:=ae hown;have HB:=ae hbr;have HL:=ae (HLEN.o k hk);have HST:Po (eV k0 k1 k2 ss fss (k+1)=eV k0 k1 k2 ss fss k++(fss.getD k []).map (fe (ss.getD k 0) k0 k1 k2 k)):=rfl;clear hown hbr;by_cases hk2:k<fss.length
  .generalize eV k0 k1 k2 ss fss k=done at HO HL HST;obtain⟨b,off,fa,fc,rfl,hlt,c0,hpf⟩:=jD HX.o k hk2;have HFK:=ae (HF.o _ (iq fss k hk2));generalize fss.getD k []=f at c0 hpf HFK HST;have HPF:=ae hpf;have d0:=af c0 HB.o;have hfl:f.length<=2000:=HFK.o.1;obtain⟨za,zc,hz⟩:=cE HO.o;subst hz;clear c0 hpf;have hk3:k<ss.length:=by omega
   have hk4:k<=255:=by omega
   have hdl:done.length<=600000:=by have h5:=HL.o;omega
   go_wp2;clear d0;go_loopw [7,21] (λz i wm=>∃m:Nat,m<=f.length/\i=PO m/\wm.ownsRow w.heap.size 88 7 z (done++(f.take m).map (fe (ss.getD k 0) k0 k1 k2 k)).length (aA (done++(f.take m).map (fe (ss.getD k 0) k0 k1 k2 k)))/\Io w wm) (λ_ i _=>f.length-(intOf i).toNat);case atStart=>exact⟨0,OB _,rfl,by simpa using HO.o,HB.o⟩
   case round=>
    clear HO HB;obtain⟨wo,hwo⟩:∃wo:PJ,wo=wr:=⟨_,rfl⟩;subst hwo;obtain⟨m,hm,rfl,hown,hbr⟩:=hrel;have HO:=ae hown;have HB:=ae hbr;clear hown hbr;by_cases hm2:m<f.length
    .obtain⟨fa2,fc2,hfv,_,hat0⟩:=HPF.o;obtain⟨b2,off2,hfa,hlt2,hat⟩:=hat0 (by omega);simp only[OQ,true_and] at hfv;obtain⟨e1,e2⟩:=hfv;subst e1;subst e2;subst hfa;obtain⟨t0,ev,t1,hse⟩:=hat m hm2;have HTK:Po (f.take (m+1)=f.take m++[f.getD m bV]):=by show _=_;rw[OX hm2];simp[OH,hm2]
     have HTO:=ae (HFK.o.2 _ (ow f m hm2));generalize f.getD m bV=t at t0 hse HTK HTO;obtain⟨tc,te⟩:=t;have HSE:=ae hse;obtain⟨ea,ec,rfl,_⟩:=hse;simp only at t0 t1;have q0:=af t0 HB.o;have q1:=af t1 HB.o;have hdm:Po ((done++(f.take m).map (fe (ss.getD k 0) k0 k1 k2 k)).length<=1200000000000):=by show _<=_;rw[OM,OS,O7];omega
     have HTM:=ae (fun(W:PJ)(hb:Io w W)=>LW ob k p k0 k1 k2 sv (.slice ea te.length ec) ss te tc W (HOB.o.below hb) (HS.o.below hb) hk3 hk4 HSS.o HK.o.1 HK.o.2.1 HK.o.2.2 ⟨HTO.o.2.2.1,HTO.o.2.2.2⟩ (by have h5:=HTO.o.1;simp only at h5;omega) (by have h5:=HTO.o.1;simp only at h5;omega) HTO.o.2.1 (HSE.o.below hb));have HNX:Po (done++(f.take (m+1)).map (fe (ss.getD k 0) k0 k1 k2 k)=done++(f.take m).map (fe (ss.getD k 0) k0 k1 k2 k)++[fe (ss.getD k 0) k0 k1 k2 k (tc,te)]):=by show _=_;rw[HTK.o,O0,List.append_assoc];rfl
     generalize fe (ss.getD k 0) k0 k1 k2 k (tc,te)=ft at HTM HNX;generalize done++(f.take m).map (fe (ss.getD k 0) k0 k1 k2 k)=dm at HO HNX hdm;unfold aX at HTM;obtain⟨ya,yc,hy⟩:=cE HO.o;subst hy;clear hat0 hat t0 t1;have HBA:Po (Io w (wo.alloc (.cells #[PO tc,.slice ea te.length ec] 47))):=HB.o.alloc HB.o.size _;go_wp2_with (first|(go_at_call 119;refine(HTM.o _ HBA.o).mono ?_;rintro e w8 ⟨rfl,hb8⟩;have HB8:=ae (In HBA.o hb8);have HO8:=ae (aF HO.o (ai.trans (hb8.mono (by simp))));have HO9:=ae (HO8.o.alloc (.cells #[PO ft.k,PP ft.a,PP ft.b,PP ft.d,PP ft.z,PQ ft.pl,PQ ft.c] 88));clear hb8)|(at_builtin;refine rA rfl (.tmp 25) (.tmp 32) 79 rfl w.heap.size 88 i0 _ underlying79 HI.o.1 HI.o.2.1 HI.o.2.2.1 HI.o.2.2.2 rfl (.slice ya dm.length yc) dm rfl HO9.o ft (PN w8.heap.size 0) 1 rfl (jz _ _ _) hdm.o (OA HB8.o.size (by simp)) ?_;intro v9 w9 r1 r2;have R1:=ae r1;have R2:=ae (show Io w w9 from eS HO9.o (HB8.o.alloc HB8.o.size _) r2 (Ou _));obtain⟨va9,vc9,hv9⟩:=cE r1;subst hv9;clear r1 r2));go_roundw;case rel=>exact⟨m+1,by omega,by go_num,by rw[HNX.o];have h:=R1.o;rwa [show (dm++[ft]).length=dm.length+1 from by simp] at h⊢,R2.o⟩
     case measure=>simp[intOf];omega
    .have e:m=f.length:=by omega
     subst e;have HO2:=ae HO.o;rw[OO (Ou _),<-HST.o] at HO2;go_wp2;go_roundw;case rel=>exact⟨k+1,by omega,by go_num,HO2.o,HB.o⟩
     case measure=>simp[intOf];omega
  .have e:k=fss.length:=by omega
   subst e;have hdl:(eV k0 k1 k2 ss fss fss.length).length<4611686018427387904:=by have h5:=HL.o;omega
   have HOQ:=ae HO.o;have hc:=HO.o.2;generalize hAL:eV k0 k1 k2 ss fss fss.length=al at HO HOQ HL hdl hc;have HAL:=ae hAL;clear hAL;rcases hc with ⟨hz,hn⟩|⟨g,cap,ag,hz,hg,hh,hn,hmx,hcs,ht⟩
   .subst hz;have hal:al=[]:=O8.1 hn;subst hal;have HSN:=ae (fun(W:PJ)=>LX W);go_wp2_with (go_at_call 120;refine(HSN.o _).mono ?_;rintro e w8 ⟨rfl,rfl⟩);go_ret;exact⟨_,[],rfl,mo _ _,(by rw[HAL.o]),List.Pairwise.nil,HB.o,World.ownsRow_nil _ _ _ _⟩
   .subst hz;have HGE:=ae hg;have HSO:=ae (LU w.heap.size g cap al wr HOQ.o hn hdl HB.o.size);clear hh hcs ht;go_wp2_with (go_at_call 120;refine HSO.o.mono ?_;rintro e w8 ⟨rfl,fs',h1,h2,h3,h4,h5⟩;have HR:=ae (Ow h1 (Ow h2 (Ow h3 (Ow h4 h5))));clear h1 h2 h3 h4 h5);go_ret;refine⟨PM g al.length cap,fs',rfl,HR.o.2.2.1,(by rw[HAL.o];exact HR.o.1),HR.o.2.1,HB.o.trans HR.o.2.2.2.1,by rw[HR.o.1.length_eq];exact HR.o.2.2.2.2⟩
def LV(w:PJ)(lv:PK)(f:LT):Prop:=∃lb vb pv,lv=PM lb 1 1/\w.cell? (PN lb 0)=some (PM vb 1 1)/\w.cell? (PN vb 0)=some pv/\Pl w pv f
variable{f:LT}{lv:PK}
theorem LV.below{w':PJ}(h:LV w lv f)(hb:Io w w'):LV w' lv f:=by obtain⟨lb,vb,pv,h1,h2,h3,h4⟩:=h;exact⟨lb,vb,pv,h1,af h2 hb,af h3 hb,h4.below hb⟩
theorem xi{b off c:Nat}{pv:PK}(h:w.cell? (PN b off)=some pv)(hp:Pl w pv f):Vl w (.slice (some (PN b off)) 1 c) [f]:=by
 refine⟨_,c,rfl,λ_=>⟨b,off,rfl,OG w _ h,λi hi=>?_⟩⟩;have e0:i=0:=by simp at hi;omega
 subst e0;exact⟨pv,h,hp⟩
theorem LV.wl(h:LV w lv f):Wl w lv [[f]]:=by
 obtain⟨lb,vb,pv,rfl,h2,h3,h4⟩:=h;refine⟨_,1,rfl,λ_=>⟨lb,0,rfl,OG w _ h2,λi hi=>?_⟩⟩;have e0:i=0:=by simp at hi;omega
 subst e0;exact⟨_,h2,xi h3 h4⟩
end Go.Proofs.YtjkalahhpobefaaGreat
namespace Go.Proofs.YtjkalahhpobefaaGreat
set_option linter.all false
open Go.Proofs.Tryz Go.RowKit
structure fQ(w:PJ)(lv:PK)(lss:PA):Prop where
 wl:Wl w lv lss
 cap:∀b off n c i va vn vc,lv=.slice (some (PN b off)) n c->i<lss.length->w.cell? (PN b (off+i))=some (.slice va vn vc)->vn<=vc
variable{lss:PA}
theorem fQ.below{w w':PJ}{lv:PK}(h:fQ w lv lss)(hb:Io w w'):fQ w' lv lss:=by refine⟨h.wl.below hb,λb off n c i va vn vc e hi hc=>h.cap b off n c i va vn vc e hi ?_⟩;obtain⟨a,cap,e2,h2⟩:=h.wl;obtain⟨b2,off2,rfl,hlt,_⟩:=h2 (by omega);rw[e2] at e;simp only[OQ,OP,Addr.mk.injEq,and_true] at e;obtain⟨⟨rfl,rfl⟩,_,_⟩:=e;rw[<-hb.cell (p:=(PN b2 (off2+i))) hlt];exact hc
structure iQ(k0 k1 k2:Int)(ss:PI)(R:Nat)(lss:PA)(rows:PC):Prop where
 len:rows.length=lss.length
 at_:∀i,i<lss.length->∃fs,rows.getD i []=fs++[dI (ss.getD (R+i) 0) ((R+i:Nat):Int)]/\fs.Perm (eV k0 k1 k2 ss (lss.getD i []) R)/\iS fs
theorem iQ.snoc{k0 k1 k2:Int}{ss:PI}{R:Nat}{g:Lt}{rows:PC}{fs:PB}(h:iQ k0 k1 k2 ss R lss rows)(h1:fs.Perm (eV k0 k1 k2 ss g R))(h2:iS fs):iQ k0 k1 k2 ss R (lss++[g]) (rows++[fs++[dI (ss.getD (R+lss.length) 0) ((R+lss.length:Nat):Int)]]):=by
 refine⟨by simp[h.len],λi hi=>?_⟩;have hl:=h.len;by_cases hi2:i<lss.length
 .rw[OH,O4 (by omega),<-OH,OH (l:=lss++[g]),O4 hi2,<-OH];exact h.at_ i hi2
 .have e:i=lss.length:=by simp at hi;omega
  subst e;have e1:(rows++[fs++[dI (ss.getD (R+lss.length) 0) ((R+lss.length:Nat):Int)]]).getD lss.length []=fs++[dI (ss.getD (R+lss.length) 0) ((R+lss.length:Nat):Int)]:=by rw[OH,O9 (by omega),hl];simp
  have e2:(lss++[g]).getD lss.length []=g:=by rw[OH,O9 (by omega)];simp
  rw[e1,e2];exact⟨fs,rfl,h1,h2⟩
theorem CO(ob R N:Nat)(p k0 k1 k2:Int)(sv lv:PK)(ss:PI)(lss:PA)(w:PJ)(hob:aQ w ob p k0 k1 k2 sv)(hs:Sl w sv ss)(hss:∀s∈ss,-600000000000000000<=s/\s<=600000000000000000)(h0:0<=k0/\k0<=137438953472)(h1:0<=k1/\k1<=137438953472)(h2:0<=k2/\k2<=137438953472)(hN0:0<N)(hN3:N<=3)(hR0:0<R)(hR3:R<=3)(hll:lss.length<=4)(hsl:ss.length=R+lss.length)(hl:∀g∈lss,g.length=R)(hf:∀g∈lss,∀f∈g,f.length<=2000/\∀t∈f,t.2.length=N/\(∀x∈t.2,0<=x/\x<=30000)/\0<=t.1/\t.1<=255)(hw:fQ w lv lss):Calls prog 80 #[PL ob,lv,PO 0,PO R] w λe w'=>∃v us rows,e=.returned v/\(∃a c,v=.slice a lss.length c)/\aM w.heap.size w' v us rows/\iQ k0 k1 k2 ss R lss rows/\Io w w'/\∀u∈us,eU w' u:=by
 obtain⟨i0,hi,hz0,hz1,hz2⟩:=info_parts Tryz.infoFt;have HI:=ae (Ow hi (Ow hz0 (Ow hz1 hz2)));clear hi hz0 hz1 hz2;obtain⟨i1,hi,hz0,hz1,hz2⟩:=info_parts Tryz.infoFvL;have HIV:=ae (Ow hi (Ow hz0 (Ow hz1 hz2)));clear hi hz0 hz1 hz2;have HOB:=ae hob;have HS:=ae hs;have HSS:=ae hss;have HK:=ae (Ow h0 (Ow h1 (Ow h2 (Ow hN0 hN3))));have HL:=ae hl;have HF:=ae hf;have HW:=ae hw;have HSL:=ae hsl;obtain⟨la,lc,rfl,_⟩:=hw.wl;clear hob hs hss h0 h1 h2 hl hf hw hsl hN0 hN3;go_enter func80,ntmps80;go_wp2_with fail;go_loopw [9,14] (λs9 s14 wr=>∃(m:Nat)(us:PH) (rows:PC),m<=lss.length/\s14=PO m/\(∃a c,s9=.slice a m c)/\aM w.heap.size wr s9 us rows/\iQ k0 k1 k2 ss R (lss.take m) rows/\Io w wr/\∀u∈us,eU wr u) (λ_ s14 _=>lss.length-(intOf s14).toNat);case atStart=>exact⟨0,[],[],OB _,rfl,⟨none,0,rfl⟩,aM.nil _ _,⟨by simp,λi hi=>by simp at hi⟩,Ov _ _,λu hu=>by simp at hu⟩
 case round=>
  rename PJ=>wr;obtain⟨m,us,rows,hm,rfl,⟨va,vc,rfl⟩,hrw,htr,hbr,hty⟩:=hrel;have HTY:=ae hty;have HRW:=ae hrw;have HTR:=ae htr;have HBR:=ae hbr;clear hrw htr hbr hty;by_cases hm2:m<lss.length
  .have hmI:(m:Int)<(lss.length:Int):=by omega
   obtain⟨b,off,xa,xc,rfl,hlt,c0,hvl⟩:=lH HW.o.wl m hm2;have hcap:=HW.o.cap b off lss.length lc m xa _ xc rfl hm2 c0;have hmem:=iq lss m hm2;have HTK:Po (lss.take (m+1)=lss.take m++[lss.getD m []]):=by show _=_;rw[List.take_add_one,OH,OI hm2];rfl
   have hgl:=HL.o _ hmem;generalize lss.getD m []=gg at c0 hvl hmem HTK hcap hgl;subst hgl;obtain⟨xa',xc',e9,h9⟩:=hvl;simp only[OQ,true_and] at e9;obtain⟨rfl,rfl⟩:=e9;obtain⟨xb,xoff,rfl,hxlt,hxp⟩:=h9 hR0;have HVL:Po (Vl wr (.slice (some (PN xb xoff)) gg.length xc) gg):=Vl.below (w:=w) ⟨_,_,rfl,λ_=>⟨xb,xoff,rfl,hxlt,hxp⟩⟩ HBR.o;have d0:=af c0 HBR.o;have HRL:Po (rows.length=m):=by have h:=HTR.o.len;show _=_;rw[h,O7];omega
   have HLT:Po ((lss.take m).length=m):=by show _=_;rw[O7];omega
   have HOV:=ae (CY ob p k0 k1 k2 sv (.slice (some (PN xb xoff)) gg.length xc) ss gg N wr (HOB.o.below HBR.o) (HS.o.below HBR.o) (by have:=HSL.o;omega) (by omega) HSS.o HK.o.1 HK.o.2.1 HK.o.2.2.1 HK.o.2.2.2.1 HK.o.2.2.2.2 (HF.o gg hmem) HVL.o);have HUN:Po (∀W,Io wr W->Calls prog 114 #[PL ob,PO ((gg.length:Int)+(m:Int))] W λe w'=>e=.returned (aX (dI (ss.getD (gg.length+m) 0) ((gg.length+m:Nat):Int)))/\Io W w'):=λW hb=>by have h:=vt ob (gg.length+m) p k0 k1 k2 sv ss W ((HOB.o.below HBR.o).below hb) ((HS.o.below HBR.o).below hb) (by have:=HSL.o;omega) (by omega);rw[show ((gg.length:Int)+(m:Int))=((gg.length+m:Nat):Int) by omega];exact h
   have HLEN:Po (∀fs:PB,fs.Perm (eV k0 k1 k2 ss gg gg.length)->fs.length<=6000):=λfs h=>by
    rw[h.length_eq];have key:∀i,i<=gg.length->(eV k0 k1 k2 ss gg i).length<=i*2000:=λi=>by
     induction i with
     |zero=>intro _;simp[eV]
     |succ i ih=>intro hi;have h1:=ih (by omega);have h2:=(HF.o gg hmem _ (iq gg i (by omega))).1;simp only[eV,OM,OS];omega
    have:=key gg.length (Ou _);omega
   generalize hun:dI (ss.getD (gg.length+m) 0) ((gg.length+m:Nat):Int)=un at HUN;have HUE:=ae hun;unfold aX at HUN;have hcapI:(gg.length:Int)<=(xc:Int):=by omega
   have hadd:IntKind.i64.wrap ((gg.length:Int)+(m:Int))=(gg.length:Int)+(m:Int):=by rw[IntKind.wrap_i64];omega
   clear hmem hun c0 hxp hxlt;go_wp2_with (first|(go_at_call 86;refine HOV.o.mono ?_;rintro e w2 ⟨u2,fs2,rfl,q1,q2,q3,q4,q5⟩;have HPM:=ae q2;have HFA:=ae q3;have HB2:=ae q4;have HO2:=ae q5;obtain⟨ua,uc,hu2⟩:=cE q5;subst hu2;clear q1 q2 q3 q4 q5)|(go_at_call 114;refine(HUN.o _ HB2.o).mono ?_;rintro e w3 ⟨rfl,q1⟩;have HB3:=ae (In HB2.o q1);have HO3:=ae (aF HO2.o q1);have HO4:=ae (HO3.o.alloc (.cells #[PO un.k,PP un.a,PP un.b,PP un.d,PP un.z,PQ un.pl,PQ un.c] 88));have HB4:=ae (HB3.o.alloc HB3.o.size (.cells #[PO un.k,PP un.a,PP un.b,PP un.d,PP un.z,PQ un.pl,PQ un.c] 88));clear q1)|(at_builtin;refine rA rfl (.tmp 25) (.tmp 33) 79 rfl wr.heap.size 88 i0 _ underlying79 HI.o.1 HI.o.2.1 HI.o.2.2.1 HI.o.2.2.2 rfl _ fs2 rfl HO4.o un (PN w3.heap.size 0) 1 rfl (jz _ _ _) (by have:=HLEN.o fs2 HPM.o;omega) HB4.o.size ?_;intro v9 w9 r1 r2;have HB9:=ae (eS HO4.o HB4.o r2 (Ou _));have HF9:=ae (fU r1);have HT9:Po (eU w9 v9):=(λb off n c e=>by subst e;exact cF r1 rfl);rw[show (fs2++[un]).length=fs2.length+1 from by simp] at r1;obtain⟨va9,vc9,hv9⟩:=cE r1;subst hv9;have HRW9:=ae ((HRW.o.next HB9.o).next (ai (A:=.cells #[.slice va9 (fs2.length+1) vc9] 79)));have HB10:=ae (In HBR.o (In HB9.o (ai (A:=.cells #[.slice va9 (fs2.length+1) vc9] 79))));clear r1 r2)|(at_builtin;refine pU rfl (.tmp 19) (.tmp 35) 76 rfl w.heap.size 79 i1 underlying76 HIV.o.1 HIV.o.2.1 HIV.o.2.2.1 HIV.o.2.2.2 _ m us rfl (by have h:=HRW9.o.own;rw[HRL.o] at h;exact h) HRW9.o.kind (PN w9.heap.size 0) 1 (.slice va9 (fs2.length+1) vc9) ⟨_,_,_,rfl⟩ rfl (by simp[go_sem]) (by omega) HB10.o.size ?_;intro v4 w4 r1 r2 r3;obtain⟨va4,vc4,hv4⟩:=cE r1;have HR4:=ae (HRW9.o.add (HF9.o.below ai) (by rw[HRL.o];exact r1) r2 r3);have HT4:=ae (wW (by have h:=HRW9.o.own;rw[HRL.o] at h;exact h) r2 (λu hu=>((HTY.o u hu).below HB9.o).below ai) (HT9.o.below ai));have HB4:=ae (eS (by have h:=HRW9.o.own;rw[HRL.o] at h;exact h) HB10.o r2 (Ou _));subst hv4;clear r1 r2 r3));go_roundw;case rel=>refine⟨m+1,_,_,by omega,by go_num,⟨va4,vc4,rfl⟩,HR4.o,?_,HB4.o,HT4.o⟩;have h:=HTR.o.snoc HPM.o HFA.o;rw[HLT.o] at h;rw[HTK.o];rw[<-HUE.o];exact h
   case measure=>simp[intOf];omega
  .have e:m=lss.length:=by omega
   subst e;go_wp2;go_ret;have h:=HTR.o;rw[OO (Ou _)] at h;exact⟨_,us,rows,rfl,⟨_,_,rfl⟩,HRW.o,h,HBR.o,HTY.o⟩
end Go.Proofs.YtjkalahhpobefaaGreat
namespace Go.Proofs.YtjkalahhpobefaaGreat
open Go.Proofs.Tryz
set_option linter.all false
open Go.ChangeShapes Go.WideShapes Go.ChangeAt Go.RowKit Go.Joins Go.Deep
variable{v:PK}{fuel:Nat}{W:PJ}
theorem LY{H:Type}{enc:TypeId×PK->H}{t:TypeId}{x:DataW H×List MemPlace}(ht:prog.underlying t=some (.slice 40))(h:DataW.trod enc prog W 0 (λ_=>true) true fuel t [v]=some x):∀va vn vc,v=.slice va vn vc->vn<=vc:=by
 intro va vn vc e;subst e;rcases open_slice1 ht Tryz.cellsPolyX h with ⟨hcs,_⟩|⟨a,len,cap,m,n,V,D,P,hcs,_,hl,hm,hmm,_,hx⟩
 .simp at hcs;omega
 .simp at hcs;omega
theorem LZ{H:Type}{enc:TypeId×PK->H}{x:DataW H×List MemPlace}(h:DataW.trod enc prog W 0 (λ_=>true) true fuel 24 [v]=some x):∃vss:PA,fQ W v vss:=by
 rcases open_slice1 underlying24 Tryz.cellsVecX h with ⟨hcs,_⟩|⟨a,len,cap,m,n,V,D,P,hcs,_,hl,hm,hmm,_,hx⟩
 .simp at hcs;subst hcs;exact⟨[],⟨none,0,rfl,λh=>absurd h (by simp)⟩,λb off n c i va vn vc _ hi=>by simp at hi⟩
 .simp at hcs;subst hcs;simp at hmm;subst hmm;obtain⟨T,hT⟩:=choose_lt (α:=Lt) (n:=m) (p:=λi f=>Vl W (V i) f) (λi hi=>CZ underlying32 (hx i hi).2);refine⟨(List.range len).map T,⟨some a,m,by simp,λhp=>?_⟩,λb off n2 c i va vn vc e hi hc=>?_⟩
  .simp at hp;obtain⟨b,off,rfl⟩:=re (by simpa using (hx 0 (by omega)).1);refine⟨b,off,rfl,nv (hx 0 (by omega)).1,λi hi=>?_⟩;simp at hi;have hg:((List.range len).map T).getD i []=T i:=by simp[OH,hi]
   rw[hg];exact⟨V i,nw (hx i (by omega)).1,hT i (by omega)⟩
  .simp at hi;simp only[OQ,OP] at e;obtain⟨rfl,_,_⟩:=e;have h1:=nw (hx i (by omega)).1;rw[hc] at h1;exact LY underlying32 (hx i (by omega)).2 va vn vc (by simpa using h1.symm)
theorem Jp{H:Type}{enc:TypeId×PK->H}{a:Option Addr}{len cap:Nat}{d:DataW H}{p:List MemPlace}(h:DataW.Trod enc prog W 0 (λ_=>true) true 24 (.slice a len cap) d p):∃vss:PA,fQ W (.slice a len cap) vss:=by obtain⟨fuel,hf⟩:=h;exact LZ (by simpa [Value.cells] using hf)
end Go.Proofs.YtjkalahhpobefaaGreat
namespace Go.Proofs.YtjkalahhpobefaaGreat
set_option linter.all false
open Go.Proofs.Tryz Go.RowKit Go.Sort
def fh(d:Int)(f:LT):Int:=f.foldl (λd t=>max d (au t.2)) d
def gX(d:Int)(v:Lt):Int:=v.foldl fh d
def fF(v:Lt):Int:=gX 0 v
theorem L5(d:Int)(f:LT)(t:Tm):fh d (f++[t])=max (fh d f) (au t.2):=by simp[fh]
theorem L7(d:Int)(v:Lt)(f:LT):gX d (v++[f])=fh (gX d v) f:=by simp[gX]
def gY(lss:PA)(m:Nat)(d:Int):PI:=(lss.take m).map fF++d::List.replicate (lss.length-m-1) 0
variable{m:Nat}{lss:PA}
theorem L8(h:m<lss.length)(d:Int):(gY lss m d)[m]?=some d:=by
 unfold gY;rw[O9 (by simp;omega)];have e:m-((lss.take m).map fF).length=0:=by simp;omega
 rw[e];rfl
theorem L9(h:m<lss.length)(d d':Int):(gY lss m d).set m d'=gY lss m d':=by
 unfold gY;rw[List.set_append_right _ _ (by simp;omega)];have e:m-((lss.take m).map fF).length=0:=by simp;omega
 rw[e];rfl
def mL(lss:PA)(m:Nat):PI:=(lss.take m).map fF++List.replicate (lss.length-m) 0
theorem Ma(h:m<lss.length):mL lss m=gY lss m 0:=by
 unfold mL gY;congr 1;have e:lss.length-m=lss.length-m-1+1:=by omega
 rw[e];rfl
theorem Mb(h:m<lss.length):gY lss m (fF (lss.getD m []))=mL lss (m+1):=by
 unfold mL gY;rw[OX h,O0,List.append_assoc];congr 1;have e:lss.length-m-1=lss.length-(m+1):=by omega
 rw[e,OH,OI h];rfl
theorem C0(n:Nat):(madeCells #[PO 0] n).toList=(List.replicate n (0:Int)).map (Value.int .i64):=by
 apply List.ext_getElem
 .simp[size_madeCells]
 .intro i h1 h2;simp[madeCells,Nat.mod_one]
abbrev gV(w0 W:PJ)(n:Nat)(xs:PI):Prop:=W.ownsRow w0.heap.size 3 1 (PM w0.heap.size n n) n (xs.map (Value.int .i64))
theorem CJ(w:PJ)(n:Nat)(hn:n<=255):gV w (w.alloc (.cells (madeCells #[PO 0] n) 3)) n (List.replicate n 0):=by have h:=congrArg List.length (C0 n);simp at h;refine⟨by simp,.inr ⟨w.heap.size,n,_,rfl,Ou _,heap_alloc_new w _,Ou _,by unfold maxLen;omega,by simp[h],?_⟩⟩;rw[C0];rw[OO (by simp)]
theorem gV.cell{w0 W:PJ}{n:Nat}{xs:PI}(h:gV w0 W n xs){i:Nat}{d:Int}(hi:xs[i]?=some d):W.cell? (PN w0.heap.size i)=some (PO d):=by
 have hl:=h.1;simp at hl;have hlt:i<n:=by apply OU;intro hle;rw[OJ (by omega)] at hi;simp at hi
 have hc:=Oq h i (by omega);rw[List.getElem?_map,hi] at hc;exact hc
theorem LG(lv:PK)(lss:PA)(w:PJ)(hl:Wl w lv lss)(hn:lss.length<=255)(hk:∀v∈lss,v.length<=1000/\∀f∈v,f.length<=100000/\∀t∈f,0<t.2.length/\t.2.length<=3/\∀e∈t.2,0<=e/\e<=400):Calls prog 143 #[lv] w λe w'=>e=.returned (PM w.heap.size lss.length lss.length)/\gV w w' lss.length (lss.map fF)/\Io w w':=by
 have hmk:=fun(W:PJ)=>run_make_row' (P:=prog) 45 3 (PO 0) 8 underlying45 Tryz.infoIntB rfl .i64 .i64 lss.length (by omega) (by omega) W;have HL:=ae hl;have HK:=ae hk;obtain⟨la,lc,rfl,_⟩:=hl;have HN:=ae (CJ w lss.length hn);obtain⟨w1,hw1⟩:∃w1,w1=w.alloc (.cells (madeCells #[PO 0] lss.length) 3):=⟨_,rfl⟩;rw[<-hw1] at HN;have HB1:Po (Io w w1):=by rw[hw1];exact ai
 clear hk;go_enter func143,ntmps143;go_wp2_with fail;rw[<-hw1];clear hw1 hmk;go_loopw [15] (λs15 wr=>∃m:Nat,m<=lss.length/\s15=PO m/\gV w wr lss.length (mL lss m)/\Io w wr) (λs15 _=>lss.length-(intOf s15).toNat);case atStart=>exact⟨0,OB _,rfl,by simpa [mL] using HN.o,HB1.o⟩
 case round=>
  rename PJ=>wr;obtain⟨m,hm,rfl,hdr,hbr⟩:=hrel;have HDR:=ae hdr;have HBR:=ae hbr;clear hdr hbr;by_cases hm2:m<lss.length
  .have hmI:(m:Int)<(lss.length:Int):=by omega
   obtain⟨lb,loff,va,vc,rfl,hllt,hlc,hvl⟩:=lH HL.o m hm2;have hlc:=af hlc HBR.o;have HVL:=ae hvl;have HNX:=ae (Mb hm2);have HDR0:Po (gV w wr lss.length (gY lss m 0)):=by rw[<-Ma hm2];exact HDR.o
   have hvk:∀f∈lss.getD m [],f.length<=100000/\∀t∈f,0<t.2.length/\t.2.length<=3/\∀e∈t.2,0<=e/\e<=400:=(HK.o _ (by rw[OH,OI hm2];exact OE hm2)).2;have hvk1:(lss.getD m []).length<=1000:=(HK.o _ (by rw[OH,OI hm2];exact OE hm2)).1;have HVK:=ae hvk;clear hvl hvk HDR;generalize lss.getD m []=vs at hlc HVL HNX HVK hvk1;go_wp2_with fail;go_loopw [22] (λs22 wq=>∃k:Nat,k<=vs.length/\s22=PO k/\gV w wq lss.length (gY lss m (gX 0 (vs.take k)))/\Io w wq) (λs22 _=>vs.length-(intOf s22).toNat);case atStart=>exact⟨0,OB _,rfl,HDR0.o,HBR.o⟩
   case round=>
    rename PJ=>wq;obtain⟨k,hk,rfl,hdr,hbq⟩:=hrel;have HDQ:=ae hdr;have HBQ:=ae hbq;clear hdr hbq HDR0 HBR;by_cases hk2:k<vs.length
    .have hkI:(k:Int)<(vs.length:Int):=by omega
     obtain⟨vb,voff,fa,fc,rfl,hvlt,hvc,hpl⟩:=jD HVL.o k hk2;have hvc:=af hvc HBQ.o;have HPL:=ae hpl;have HVN:Po (gX 0 (vs.take (k+1))=fh (gX 0 (vs.take k)) (vs.getD k [])):=by show _=_;rw[sI vs k hk2,L7]
     have hfk:=HVK.o (vs.getD k []) (by rw[OH,OI hk2];exact OE hk2);have hf1:=hfk.1;have HFK:=ae hfk.2;clear hpl hfk;generalize vs.getD k []=f at hvc HPL HVN HFK hf1;generalize gX 0 (vs.take k)=d0 at HDQ HVN;go_wp2_with fail;go_loopw [28] (λs28 wz=>∃j:Nat,j<=f.length/\s28=PO j/\gV w wz lss.length (gY lss m (fh d0 (f.take j)))/\Io w wz) (λs28 _=>f.length-(intOf s28).toNat);case atStart=>exact⟨0,OB _,rfl,HDQ.o,HBQ.o⟩
     case round=>
      rename PJ=>wz;obtain⟨j,hj,rfl,hdr,hbz⟩:=hrel;have HDZ:=ae hdr;have HBZ:=ae hbz;clear hdr hbz HDQ HBQ;by_cases hj2:j<f.length
      .have hjI:(j:Int)<(f.length:Int):=by omega
       obtain⟨fa2,fc2,e,_,hp⟩:=HPL.o;obtain⟨pb,poff,rfl,hplt,hat⟩:=hp (by omega);simp only[OQ,true_and] at e;obtain⟨rfl,rfl⟩:=e;obtain⟨t0,ev,t1,hse⟩:=hat j hj2;have htk:f.take (j+1)=f.take j++[f.getD j bV]:=by rw[OX hj2];simp[OH,hj2]
       have hfj:=HFK.o (f.getD j bV) (by rw[OH,OI hj2];exact OE hj2);have HDN:Po (fh d0 (f.take (j+1))=max (fh d0 (f.take j)) (au (f.getD j bV).2)):=by show _=_;rw[htk,L5]
       generalize f.getD j bV=t at t0 hse hfj HDN;obtain⟨co,es⟩:=t;simp only at t0 hse hfj HDN;have t0:=af t0 HBZ.o;have t1:=af t1 HBZ.o;obtain⟨he0,he3,hee⟩:=hfj;obtain⟨ea,ec,rfl,hsi⟩:=hse;obtain⟨eb,eoff,rfl,helt,hei⟩:=hsi he0;have HD:Po (∀W,Io w W->Calls prog 92 #[.slice (some (PN eb eoff)) es.length ec] W λe w'=>e=.returned (PO (au es))/\w'=W):=λW hb=>iV es eb eoff ec W (λx hx=>by have:=hee x hx;omega) he3 λi hi=>(hb.cell (p:=(PN eb (eoff+i))) helt).trans (hei i hi);have HLD:Po (∀d,gV w wz lss.length (gY lss m d)->wz.cell? (PN w.heap.size m)=some (PO d)):=λd h=>gV.cell h (L8 hm2 d);have HSTF:Po (∀d d',∀W,gV w W lss.length (gY lss m d)->gV w (W.setCell (PN w.heap.size m) (PO d')) lss.length (gY lss m d')/\W.grownBy (W.setCell (PN w.heap.size m) (PO d')) (some w.heap.size)):=λd d' W h=>by have h1:=OF h m (PO d');refine⟨?_,h1.2⟩;have h2:=h1.1;rw[<-List.map_set,L9 hm2] at h2;exact h2
       generalize fh d0 (f.take j)=dd at HDZ HDN;have c9:=HLD.o dd HDZ.o;generalize au es=se at HD HDN;have HB2:Po (Io w (wz.alloc (.cells #[PO co,.slice (some (PN eb eoff)) es.length ec] 47))):=HBZ.o.alloc HBZ.o.size _;have HDZ2:=ae (World.ownsRow.alloc HDZ.o (.cells #[PO co,.slice (some (PN eb eoff)) es.length ec] 47));have c10:(wz.alloc (.cells #[PO co,.slice (some (PN eb eoff)) es.length ec] 47)).cell? (PN w.heap.size m)=some (PO dd):=af c9 ai;have c11:=Oo HDZ2.o m;have HST:=ae (HSTF.o dd (max dd se) _ HDZ2.o);clear HLD HSTF hei hsi hat hp hee htk;go_wp2_with fail;go_region_law (go_simp;refine(HD.o _ HB2.o.drew).mono ?_;rintro e w8 ⟨rfl,rfl⟩;dsimp only);all_goals
        go_wp2;go_roundw;case rel=>exact⟨j+1,by omega,by go_num,by rw[HDN.o];exact HST.o.1,(HB2.o.trans (cQ HST.o.2 (Ou _) HB2.o.size)).drew⟩
        case measure=>simp[intOf];omega
      .have e:j=f.length:=by omega
       subst e;have HD2:=ae HDZ.o;rw[OO (Ou _),<-HVN.o] at HD2;go_wp2;go_roundw;case rel=>exact⟨k+1,by omega,by go_num,HD2.o,HBZ.o⟩
       case measure=>simp[intOf];omega
    .have e:k=vs.length:=by omega
     subst e;have HD2:=ae HDQ.o;rw[OO (Ou _)] at HD2;go_wp2;go_roundw;case rel=>exact⟨m+1,by omega,by go_num,by rw[<-HNX.o];exact HD2.o,HBQ.o⟩
     case measure=>simp[intOf];omega
  .have e:m=lss.length:=by omega
   subst e;go_wp2;go_ret;exact⟨rfl,by have h:=HDR.o;simpa [mL] using h,HBR.o⟩
end Go.Proofs.YtjkalahhpobefaaGreat
