/- Collect of the reference. -/
import Derived.Test.YtglijodcbdcngaaGreatPI
import Derived.Test.YtglijodcbdcngaaGreatM
import Derived.Deep.CutBlock
import Derived.Deep.DeepCutAuto
set_option maxHeartbeats 2000000
set_option maxRecDepth 100000
namespace Go.Proofs.YtglijodcbdcngaaGreat
set_option linter.unusedSimpArgs false
set_option linter.unusedVariables false
open Go.Proofs.Tryz Go.RowKit
theorem r8(p o:Int)(t:Tm)(post:List Tm):∀pre:List Tm,(∀u∈pre,0<aF o u.2 t.2)->bA p o (pre++post) t=pre++bA p o post t
 |[],_=>rfl
 |u::pre,h=>by simp only[List.cons_append,bA];rw[if_pos (h u (by simp)),r8 p o t post pre (λx hx=>h x (by simp[hx]))]
theorem yj{p o:Int}{t:Tm}:∀out:List Tm,(bA p o out t).length<=out.length+1
 |[]=>by simp[bA]
 |u::out=>by
  simp only[bA];split
  ·have:=yj (p:=p) (o:=o) (t:=t) out;simp only[List.length_cons];omega
  ·split<;>simp only[List.length_cons]<;>omega
theorem rW{p o:Int}:∀(l out:List Tm),(l.foldl (bA p o) out).length<=out.length+l.length
 |[],out=>by simp
 |t::l,out=>by simp only[List.foldl_cons,List.length_cons];have h1:=rW (p:=p) (o:=o) l (bA p o out t);have h2:=yj (p:=p) (o:=o) (t:=t) out;omega
theorem Fi{p o:Int}{N:Nat}(hp:2<=p){t:Tm}(ht:dP p N t){out:List Tm}(h:∀u∈out,dP p N u):∀x∈bA p o out t,dP p N x:=by
 intro x hx;have hr:=rL (o:=o) hp (t:=t) ht.2.2 (out:=out) (λu hu=>(h u hu).2.2) x hx;rcases m8 hx with e|⟨u,hu,e⟩
 ·exact⟨by rw[e];exact ht.1,by rw[e];exact ht.2.1,hr⟩
 ·exact⟨by rw[e];exact(h u hu).1,by rw[e];exact(h u hu).2.1,hr⟩
theorem yk{p o:Int}{N:Nat}(hp:2<=p):∀(l out:List Tm),(∀u∈l,dP p N u)->(∀u∈out,dP p N u)->∀x∈l.foldl (bA p o) out,dP p N x
 |[],out,_,ho=>ho
 |t::l,out,hl,ho=>yk hp l (bA p o out t) (λx hx=>hl x (by simp[hx])) (Fi hp (hl t (by simp)) ho)
structure fC(Φ:Value->Prop)(p o:Int)(w1 wr:World)(ts:List Tm)(k:Nat)(v:Value)(outs:List TV):Prop where
 own:wr.ownsRow w1.heap.size 54 2 v outs.length (ak outs)
 es:Es w1 outs
 below:Below w1.heap.size w1 wr
 eq:outs.map tm=(ts.take k).foldl (bA p o) []
 nil:outs=[]->v=.slice none 0 0
 ap:∀t∈outs,Φ t.2.1
theorem fC.next{Φ:Value->Prop}{p o:Int}{w1 wr w':World}{ts:List Tm}{k:Nat}{v:Value}{outs:List TV}(h:fC Φ p o w1 wr ts k v outs)(hb:Below wr.heap.size wr w'):fC Φ p o w1 w' ts k v outs:=
 ⟨aH h.own hb,h.es,h.below.trans (hb.mono h.below.size),h.eq,h.nil,h.ap⟩
theorem fC.len{Φ:Value->Prop}{p o:Int}{w1 wr:World}{ts:List Tm}{k:Nat}{v:Value}{outs:List TV}(h:fC Φ p o w1 wr ts k v outs):outs.length<=k:=by have h1:=rW (p:=p) (o:=o) (ts.take k) [];rw[<-h.eq] at h1;rw[Ia] at h1;have h2:=List.length_take_le k ts;simp only[List.length_nil] at h1;omega
theorem fC.tok{Φ:Value->Prop}{p o:Int}{N:Nat}{w1 wr:World}{ts:List Tm}{k:Nat}{v:Value}{outs:List TV}(h:fC Φ p o w1 wr ts k v outs)(hp:2<=p)(ht:∀t∈ts,dP p N t):∀t∈outs,dP p N (tm t):=by intro t hm;have h1:tm t∈outs.map tm:=List.mem_map_of_mem hm;rw[h.eq] at h1;exact yk hp _ [] (λu hu=>ht u (List.mem_of_mem_take hu)) (λu hu=>by simp at hu) _ h1
theorem fC.at{Φ:Value->Prop}{p o:Int}{w1 wr:World}{ts:List Tm}{k:Nat}{v:Value}{outs:List TV}(h:fC Φ p o w1 wr ts k v outs)(h0:0<outs.length):∃g cap,v=.slice (some ⟨g,0,none⟩) outs.length cap/\outs.length<=cap/\w1.heap.size<=g/\g<wr.heap.size/\(∀j,wr.frozen? ⟨g,j,none⟩=false)/\∀j u,(ak outs)[j]?=some u->wr.cell? ⟨g,j,none⟩=some u:=by
 rcases h.own.2 with ⟨h1,h2⟩|⟨g,cap,ai,rfl,hg,hh,hn,hm,hcs,ht⟩
 ·omega
 ·have hlt:=Hd h.own g rfl;refine⟨g,cap,rfl,hn,hlt.1,hlt.2,λj=>h.own.frozenAt j,λj u hj=>?_⟩;have hjl:j<outs.length*2:=by rw[<-iW];apply Ib;intro hle;rw[Hu hle] at hj;simp at hj
  rw[h.own.cellAt j hjl];exact hj
theorem km{n m:Nat}(h:n+m<=2400000000000):n+m<=maxLen/\(n+m)*32<=140737488355328:=⟨by unfold maxLen;omega,by omega⟩
theorem ym{P:Program}(w:World)(base:Nat)(t ty e:TypeId)(i:TypeInfo)(z:Value)(ht:P.underlying t=some (.slice e))(hi:P.info? e=some i)(hz:i.zero=some z)(hsize:i.size=2)(hby:i.bytes=32)(hzs:z.cells.size=2)(v:Value)(n:Nat)(xs:List Value)(hown:w.ownsRow base e 2 v n xs)(us:List TV)(m:Nat)(hm:us.length=m)(ua:Option Addr)(uc:Nat)(hcs:0<m->∃b off,ua=some ⟨b,off,none⟩/\∀j u,(ak us)[j]?=some u->w.cell? ⟨b,off+j,none⟩=some u)(hone:∀u∈ak us,u.oneCell'=true)(hb:n+m<=2400000000000)(hbase:base<=w.heap.size):∃v' w',(Builtin.append_ #[t,t] ty #[v,.slice ua m uc]).run P w=.ok v' w'/\w'.ownsRow base e 2 v' (n+m) (xs++ak us)/\w.grownBy w' v.ownBlock:=by
 subst hm;by_cases h0:0<us.length
 ·obtain⟨b,off,rfl,hc⟩:=hcs h0;obtain⟨v',w',hr,h2,h3,_⟩:=run_append_own (P:=P) w base t ty e i z 2 32 ht hi hz hsize hby hzs (by decide) v n xs hown ⟨b,off,none⟩ us.length uc (ak us) (iW us) (λj u hj=>by
   have:=hc j u hj;by_cases hj0:j=0
   ·subst hj0;simpa [Addr.add] using this
   ·simpa [Addr.add,hj0] using this) hone (km hb).1 (km hb).2 hbase
  exact⟨v',w',hr,h2,h3⟩
 ·have e0:us=[]:=List.length_eq_zero_iff.1 (by omega);subst e0;cases ua with
  |none=>exact⟨v,w,nQ w base t ty e i 2 ht hi v n uc xs hown,by simpa [ak] using hown,nP _ _⟩
  |some ad=>obtain⟨v',w',hr,h2,h3,_⟩:=run_append_own (P:=P) w base t ty e i z 2 32 ht hi hz hsize hby hzs (by decide) v n xs hown ad 0 uc [] (by simp) (λj u hj=>by simp at hj) (λu hu=>by simp at hu) (km hb).1 (km hb).2 hbase;exact⟨v',w',hr,h2,h3⟩
theorem sd{P:Program}{w:World}{ops:Array Oper}{rest:List Oper}{o:Oper}{a:Act}{Q:Exit->Act->World->Prop}(hgd:o.guard=none)(s x:Operand)(t:TypeId)(ho:o.op=.call {callee:=.builtin .append,args:=#[s,x],argTypes:=#[t,t]})(base:Nat)(e:TypeId)(i:TypeInfo)(z:Value)(ht:P.underlying t=some (.slice e))(hi:P.info? e=some i)(hz:i.zero=some z)(hsize:i.size=2)(hby:i.bytes=32)(hzs:z.cells.size=2)(v:Value)(n:Nat)(xs:List Value)(hs:a.eval s=v)(hown:w.ownsRow base e 2 v n xs)(us:List TV)(m:Nat)(hm:us.length=m)(ua:Option Addr)(uc:Nat)(hx:a.eval x=.slice ua m uc)(hcs:0<m->∃b off,ua=some ⟨b,off,none⟩/\∀j u,(ak us)[j]?=some u->w.cell? ⟨b,off+j,none⟩=some u)(hone:∀u∈ak us,u.oneCell'=true)(hb:n+m<=2400000000000)(hbase:base<=w.heap.size)(hK:∀v' w',w'.ownsRow base e 2 v' (n+m) (xs++ak us)->w.grownBy w' v.ownBlock->wpList P ops Q rest (a.put o.dst v') w'):wpList P ops Q (o::rest) a w:=by refine wpList_plain hgd λK hK'=>?_;obtain⟨v',w',hr,h2,h3⟩:=ym (P:=P) w base t o.type e i z ht hi hz hsize hby hzs v n xs hown us m hm ua uc hcs hone hb hbase;unfold Oper.wp execOp;simp only[ho,resolve,invoke,builtin,Sem.run_bind,Sem.run_pure,Result.andThen_ok,List.map_toArray,List.map_cons,List.map_nil,hs,hx,hr];exact hK' _ _ (hK v' w' h2 h3)
theorem gh{P:Program}{ops:Array Oper}{o:Oper}{a:Act}{w:World}{K:Act->World->Prop}{Q:Exit->Act->World->Prop}{E:Prop}(hgd:o.guard=none)(s x:Operand)(t:TypeId)(ho:o.op=.call {callee:=.builtin .append,args:=#[s,x],argTypes:=#[t,t]})(base:Nat)(e:TypeId)(i:TypeInfo)(z:Value)(ht:P.underlying t=some (.slice e))(hi:P.info? e=some i)(hz:i.zero=some z)(hsize:i.size=2)(hby:i.bytes=32)(hzs:z.cells.size=2)(v:Value)(n:Nat)(xs:List Value)(hs:a.eval s=v)(hown:w.ownsRow base e 2 v n xs)(us:List TV)(m:Nat)(hm:us.length=m)(ua:Option Addr)(uc:Nat)(hx:a.eval x=.slice ua m uc)(hcs:0<m->∃b off,ua=some ⟨b,off,none⟩/\∀j u,(ak us)[j]?=some u->w.cell? ⟨b,off+j,none⟩=some u)(hone:∀u∈ak us,u.oneCell'=true)(hb:n+m<=2400000000000)(hbase:base<=w.heap.size)(hK:∀v' w',w'.ownsRow base e 2 v' (n+m) (xs++ak us)->w.grownBy w' v.ownBlock->K (a.put o.dst v') w'):if Region.wanted o (yielded ops a.tmps)=true then Oper.wp P o a w K Q else E:=by
 have hw:Region.wanted o (yielded ops a.tmps)=true:=by simp[Region.wanted,hgd]
 rw[if_pos hw];obtain⟨v',w',hr,h2,h3⟩:=ym (P:=P) w base t o.type e i z ht hi hz hsize hby hzs v n xs hown us m hm ua uc hcs hone hb hbase;unfold Oper.wp execOp;simp only[ho,resolve,invoke,builtin,Sem.run_bind,Sem.run_pure,Result.andThen_ok,List.map_toArray,List.map_cons,List.map_nil,hs,hx,hr];exact hK v' w' h2 h3
theorem yo:∀(j:Nat)(ts:List TV),ak (ts.drop j)=(ak ts).drop (j*2)
 |0,ts=>by simp
 |j+1,[]=>by simp[ak]
 |j+1,t::ts=>by rw[kl,show (j+1)*2=j*2+1+1 by omega];simp only[List.drop_succ_cons];exact yo j ts
theorem yp:∀(j:Nat)(ts:List TV),ak (ts.take j)=(ak ts).take (j*2)
 |0,ts=>by simp[ak]
 |j+1,[]=>by simp[ak]
 |j+1,t::ts=>by rw[kl,show (j+1)*2=j*2+1+1 by omega];simp only[List.take_succ_cons,kl];rw[yp j ts]
theorem yq:∀(j:Nat)(ts:List TV)(c:Int),j<ts.length->(ak ts).set (j*2) (.int .i64 c)=ak (ts.set j (c,(ts.getD j bK).2))
 |_,[],c,h=>by simp at h
 |0,t::ts,c,_=>by simp[kl]
 |j+1,t::ts,c,h=>by rw[kl,show (j+1)*2=j*2+1+1 by omega];simp only[List.set_cons_succ,kl];rw[yq j ts c (by simpa using h)];simp
theorem Fj{p o:Int}{outs:List TV}{j:Nat}{t:TV}(hm:∀u∈outs.take j,0<aF o u.2.2 t.2.2)(hn:j<outs.length->¬0<aF o (outs.getD j bK).2.2 t.2.2)(hs:¬(j<outs.length/\(outs.getD j bK).2.2=t.2.2)):bA p o (outs.map tm) (tm t)=(outs.take j++[t]++outs.drop j).map tm:=by
 have e:outs.map tm=(outs.take j).map tm++(outs.drop j).map tm:=by rw[<-List.map_append,List.take_append_drop]
 rw[e,r8 _ _ _ _ _ (λu hu=>by
  obtain⟨x,hx,rfl⟩:=H8.1 hu;exact hm x hx)]
 rw[List.append_assoc,List.map_append];congr 1;by_cases hj:j<outs.length
 ·have e2:outs.drop j=outs.getD j bK::outs.drop (j+1):=by rw[List.drop_eq_getElem_cons hj];simp[Hs,hj]
  rw[e2];simp only[List.map_cons,List.singleton_append,bA];rw[if_neg (by exact hn hj),if_neg (by exact λh=>hs ⟨hj,h⟩)]
 ·rw[List.drop_eq_nil_of_le (by omega)];rfl
theorem Fk{p o:Int}{outs:List TV}{j:Nat}{t:TV}(hm:∀u∈outs.take j,0<aF o u.2.2 t.2.2)(hj:j<outs.length)(hs:(outs.getD j bK).2.2=t.2.2)(hn:¬0<aF o (outs.getD j bK).2.2 t.2.2):bA p o (outs.map tm) (tm t)=(outs.set j (((outs.getD j bK).1+t.1)%p,(outs.getD j bK).2)).map tm:=by
 have e:outs.map tm=(outs.take j).map tm++(outs.drop j).map tm:=by rw[<-List.map_append,List.take_append_drop]
 have e3:outs.set j (((outs.getD j bK).1+t.1)%p,(outs.getD j bK).2)=outs.take j++(((outs.getD j bK).1+t.1)%p,(outs.getD j bK).2)::outs.drop (j+1):=by rw[List.set_eq_take_append_cons_drop,if_pos hj]
 rw[e,r8 _ _ _ _ _ (λu hu=>by
  obtain⟨x,hx,rfl⟩:=H8.1 hu;exact hm x hx),e3,List.map_append]
 congr 1;have e2:outs.drop j=outs.getD j bK::outs.drop (j+1):=by rw[List.drop_eq_getElem_cons hj];simp[Hs,hj]
 rw[e2];simp only[List.map_cons,bA];rw[if_neg (by exact hn),if_pos (by exact hs)];rfl
theorem fC.grow{Φ:Value->Prop}{p o:Int}{w1 wr w':World}{ts:List Tm}{k j:Nat}{v v':Value}{outs:List TV}{t:TV}(h:fC Φ p o w1 wr ts k v outs)(ht:ts.take (k+1)=ts.take k++[tm t])(hs:Sl w1 t.2.1 t.2.2)(hΦ:Φ t.2.1)(hj:j<=outs.length)(hm:∀u∈outs.take j,0<aF o u.2.2 t.2.2)(hn:j<outs.length->¬0<aF o (outs.getD j bK).2.2 t.2.2)(hsm:¬(j<outs.length/\(outs.getD j bK).2.2=t.2.2))(hb:Below wr.heap.size wr w')(hown:w'.ownsRow w1.heap.size 54 2 v' (j+1+(outs.length-j)) (ak (outs.take j)++ak [t]++ak (outs.drop j))):fC Φ p o w1 w' ts (k+1) v' (outs.take j++[t]++outs.drop j):=by
 have el:(outs.take j++[t]++outs.drop j).length=j+1+(outs.length-j):=by simp only[Hx,List.length_take,List.length_drop,List.length_cons,List.length_nil];omega
 refine⟨?_,?_,h.below.trans (hb.mono h.below.size),?_,λe=>?_,?_⟩
 ·rw[el,gV,gV];exact hown
 ·intro u hu;rcases Hv.1 hu with hu|hu
  ·rcases Hv.1 hu with hu|hu
   ·exact h.es u (List.mem_of_mem_take hu)
   ·rw[Hw] at hu;subst hu;exact hs
  ·exact h.es u (List.mem_of_mem_drop hu)
 ·rw[ht,List.foldl_append,<-h.eq];simp only[List.foldl_cons,List.foldl_nil];exact(Fj hm hn hsm).symm
 ·have:(outs.take j++[t]++outs.drop j).length=0:=by rw[e];rfl
  omega
 ·intro u hu;rcases Hv.1 hu with hu|hu
  ·rcases Hv.1 hu with hu|hu
   ·exact h.ap u (List.mem_of_mem_take hu)
   ·rw[Hw] at hu;subst hu;exact hΦ
  ·exact h.ap u (List.mem_of_mem_drop hu)
theorem fC.put{Φ:Value->Prop}{p o:Int}{w1 wr:World}{ts:List Tm}{k j g cap:Nat}{outs:List TV}{t:TV}{c:Int}(h:fC Φ p o w1 wr ts k (.slice (some ⟨g,0,none⟩) outs.length cap) outs)(ht:ts.take (k+1)=ts.take k++[tm t])(hj:j<outs.length)(hm:∀u∈outs.take j,0<aF o u.2.2 t.2.2)(hn:¬0<aF o (outs.getD j bK).2.2 t.2.2)(hs:(outs.getD j bK).2.2=t.2.2)(hc:c=((outs.getD j bK).1+t.1)%p)(hg:w1.heap.size<=g):fC Φ p o w1 (wr.setCell ⟨g,j*2,none⟩ (.int .i64 c)) ts (k+1) (.slice (some ⟨g,0,none⟩) outs.length cap) (outs.set j (c,(outs.getD j bK).2)):=by
 have s1:=h.own.stored (j*2) (.int .i64 c);rw[yq j outs c hj] at s1;refine⟨?_,?_,h.below.trans (ck s1.2 hg h.below.size),?_,λe=>?_,?_⟩
 ·rw[List.length_set];exact s1.1
 ·intro u hu;rcases List.mem_or_eq_of_mem_set hu with hu|hu
  ·exact h.es u hu
  ·subst hu;have h1:=h.es _ (eL outs j hj);exact h1
 ·rw[ht,List.foldl_append,<-h.eq];simp only[List.foldl_cons,List.foldl_nil];rw[hc];exact(Fk hm hj hs hn).symm
 ·have:(outs.set j (c,(outs.getD j bK).2)).length=0:=by rw[e];rfl
  rw[List.length_set] at this;omega
 ·intro u hu;rcases List.mem_or_eq_of_mem_set hu with hu|hu
  ·exact h.ap u hu
  ·subst hu;have h1:=h.ap _ (eL outs j hj);exact h1
theorem kS{w:World}{B B':Nat}{T:TypeId}{s:Nat}{v:Value}{n:Nat}{xs:List Value}(h:w.ownsRow B' T s v n xs)(hb:B<=B'):w.ownsRow B T s v n xs:=by
 obtain⟨h1,h2⟩:=h;refine⟨h1,?_⟩;rcases h2 with h2|⟨g,c,ai,e,hg,r⟩
 ·exact Or.inl h2
 ·exact Or.inr ⟨g,c,ai,e,Hk hb hg,r⟩
theorem bU{w W w':World}{B:Nat}{T:TypeId}{s:Nat}{v:Value}{n:Nat}{xs:List Value}(h:W.ownsRow B T s v n xs)(hb:Below B w W)(hg:W.grownBy w' v.ownBlock)(hB:B<=w.heap.size):Below B w w':=
 hb.grown hg (Hk hB hb.size) (λk hk=>(Hd h k hk).1)
theorem yr{w W:World}{B:Nat}{T:TypeId}{ra:Option Addr}{n rc:Nat}{us:List TV}(h:w.ownsRow B T 2 (.slice ra n rc) n (ak us))(hl:us.length=n)(hb:Below w.heap.size w W)(h0:0<n):∃b off,ra=some ⟨b,off,none⟩/\∀i u,(ak us)[i]?=some u->W.cell? ⟨b,off+i,none⟩=some u:=by
 rcases h.2 with ⟨h1,h2⟩|⟨g,cap,ai,hv,hg,hh,hn,hm,hcs,ht⟩
 ·omega
 ·simp only[H7] at hv;obtain⟨rfl,_,_⟩:=hv;refine⟨g,0,rfl,λi u hi=>?_⟩;have hjl:i<n*2:=by rw[<-hl,<-iW];apply Ib;intro hle;rw[Hu hle] at hi;simp at hi
  rw[Hy];exact ae (by rw[h.cellAt i hjl];exact hi) hb
theorem kn(w:World)(tc:Int)(ev:Value)(te:List Int)(T:TypeId):∀i u,(ak [(tc,ev,te)])[i]?=some u->(w.alloc (.cells #[.int .i64 tc,ev] T)).cell? ⟨w.heap.size,0+i,none⟩=some u:=by
 intro i u hi;rcases i with _|_|i
 ·simp[ak] at hi;subst hi;simp[go_sem]
 ·simp[ak] at hi;subst hi;simp[go_sem]
 ·simp[ak] at hi
theorem Fl(Φ:Value->Prop)(p n o v:Int)(N:Nat)(a:Option Addr)(lcap:Nat)(us:List TV)(ts:List Tm)(w:World)(hp:2<=p/\p<=101)(ho:o=1\/o=2)(hN0:0<N)(hN:N<=3)(hts:∀t∈ts,dP p N t)(hm:ts.length<=1200000000000)(hlc:us.length<=lcap)(hus:us.map tm=ts)(hes:Es w us)(hcs:0<us.length->∃b off,a=some ⟨b,off,none⟩/\b<w.heap.size/\∀j u,(ak us)[j]?=some u->w.cell? ⟨b,off+j,none⟩=some u)(hph:∀t∈us,Φ t.2.1):Calls prog 123 #[az p n o v,.slice a us.length lcap] w λe w'=>∃u ls,e=.returned u/\w'.ownsRow w.heap.size 54 2 u ls.length (ak ls)/\Es w' ls/\ls.map tm=aG p o ts/\(∀t∈ls,Φ t.2.1)/\Below w.heap.size w w':=by
 have hul:us.length=ts.length:=by rw[<-hus,Ia]
 have HPS:=aa hph;have HUS:=aa hus;have HES:=aa hes;have HCS:=aa hcs;have HTS:=aa hts;have HO:=aa ho;obtain⟨hp1,hp2⟩:=hp;have hm':us.length<=1200000000000:=by omega
 clear hus hes hcs hts hm hul ho hph;obtain⟨i0,hi,hz0,hz1,hz2⟩:=info_parts Tryz.infoTerm;have HI:=aa (Hg hi (Hg hz0 (Hg hz1 hz2)));clear hi hz0 hz1 hz2;obtain⟨w1,hw1⟩:∃w1,w1=w.alloc (.cells #[.int .i64 p,.int .i64 n,.int .i64 o,.int .i64 v] 23):=⟨_,rfl⟩;have hbx:aX w1 w.heap.size p n o v:=by rw[hw1];exact aX.new w p n o v _
 have hbw:Below w.heap.size w w1:=by rw[hw1];exact bp
 have HBX:=aa hbx;have HBW:=aa hbw;clear hbx hbw;go_enter func123,ntmps123;go_wp2_with fail;rw[<-hw1];clear hw1;go_loopw [5,6] (λz i wr=>∃(k:Nat)(outs:List TV),k<=us.length/\i=.int .i64 k/\fC Φ p o w1 wr ts k z outs) (λ_ i _=>us.length-(intOf i).toNat);case atStart=>exact⟨0,[],Hl _,rfl,World.ownsRow_nil _ _ _ _,λt ht=>by simp at ht,Hf _ _,by simp,λ_=>rfl,λt ht=>by simp at ht⟩
 case round=>
  obtain⟨wo,hwo⟩:∃wo:World,wo=wr:=⟨_,rfl⟩;subst hwo;obtain⟨k,outs,hk,rfl,hcol⟩:=hrel;have HC:=aa hcol;clear hcol;by_cases hk2:k<us.length
  ·obtain⟨b,off,rfl,hlt,hcell⟩:=HCS.o (by omega);have hlt1:b<w1.heap.size:=Hj hlt HBW.o.size;have hf:=iw us k hk2;have c0:=hcell _ _ hf.1;have c1:=hcell _ _ hf.2;have HDN:=aa (HBW.o.trans (HC.o.below.mono HBW.o.size));rw[<-HDN.o.cell (p:=⟨b,off+k*2,none⟩) hlt] at c0;rw[<-Nat.add_assoc,<-HDN.o.cell (p:=⟨b,off+k*2+1,none⟩) hlt] at c1;have HSL:=aa ((HES.o _ (eL us k hk2)).below HBW.o);have HPH:=aa (HPS.o _ (eL us k hk2));have HT:=aa (HTS.o (tm (us.getD k bK)) (by rw[<-HUS.o];exact List.mem_map_of_mem (eL us k hk2)));have HTK:Ic (ts.take (k+1)=ts.take k++[tm (us.getD k bK)]):=by show _=_;rw[<-HUS.o,<-List.map_take,oY us k hk2,List.map_take]
   generalize us.getD k bK=t at c0 c1 HSL HT HTK HPH;obtain⟨tc,tv,te⟩:=t;obtain⟨ea,ec,he,_⟩:=HSL.o;simp only at c0 c1 he;subst he;have hol:outs.length<=1200000000000:=by have:=HC.o.len;omega
   clear hf hcell;have HTOK:=aa (HC.o.tok hp1 HTS.o);obtain⟨va,vc,hvv⟩:=a7 HC.o.own;subst hvv;have hte0:0<te.length:=by have:=HT.o.1;simp only[tm] at this;omega
   have hte3:te.length<=3:=by have:=HT.o.1;simp only[tm] at this;omega
   go_upto_block 2 with fail;go_cut [7] (λs7 wx=>∃j:Nat,j<=outs.length/\s7=.int .i64 j/\(∀u∈outs.take j,0<aF o u.2.2 te)/\(j<outs.length->¬0<aF o (outs.getD j bK).2.2 te)/\Below wo.heap.size wo wx);case first=>
    go_wp2_with fail;go_loopw [7] (λs7 wx=>∃j:Nat,j<=outs.length/\s7=.int .i64 j/\(∀u∈outs.take j,0<aF o u.2.2 te)/\Below wo.heap.size wo wx) (λs7 _=>outs.length-(intOf s7).toNat);case atStart=>exact⟨0,Hl _,rfl,by simp,Hf _ _⟩
    case round=>
     obtain⟨j,hj,rfl,hmore,hbr⟩:=hrel;have HMO:=aa hmore;have HBR:=aa hbr;clear hmore hbr;by_cases hj2:j<outs.length
     ·obtain⟨g,cap,hv,hcap,hg1,hg2,hfr,hcl⟩:=HC.o.at (by omega);simp only[H7,true_and] at hv;obtain⟨rfl,rfl⟩:=hv;have d1:=hcl _ _ (iw outs j hj2).2;have HS2:=aa ((HC.o.es _ (eL outs j hj2)).below (HC.o.below.trans (HBR.o.mono HC.o.below.size)));have HO2:=aa (HTOK.o _ (eL outs j hj2));have HTK2:Ic (∀u∈outs.take (j+1),u∈outs.take j\/u=outs.getD j bK):=by
       intro u hu;rw[List.take_succ_eq_append_getElem hj2,Hv,Hw] at hu;rcases hu with hu|hu
       ·exact Or.inl hu
       ·right;rw[hu,Hs,Ht hj2];rfl
      generalize hgd:outs.getD j bK=ot at d1 HS2 HO2 HTK2;have HGD:=aa hgd;clear hgd;obtain⟨oc,ov,oe⟩:=ot;obtain⟨oa,oc2,hoe,_⟩:=HS2.o;simp only at d1 hoe;subst hoe;have HLL:Ic (oe.length=te.length):=HO2.o.1.trans HT.o.1.symm;have hoe0:0<oe.length:=by have:=HLL.o;omega
      have hoe3:oe.length<=3:=by have:=HLL.o;omega
      have bx:=(HBX.o.below HC.o.below).below HBR.o;obtain⟨_,bx0,bx1,bx2,bx3⟩:=bx;have d1':=ae d1 HBR.o;have c1':=ae c1 HBR.o;have HST:=aa (HSL.o.below (HC.o.below.trans (HBR.o.mono HC.o.below.size)));have KEEP:Ic (∀W,Below wr.heap.size wr W->(Ic (Below wr.heap.size wr W)/\W.cell? ⟨w.heap.size,0,none⟩=some (.int .i64 p)/\W.cell? ⟨w.heap.size,1,none⟩=some (.int .i64 n)/\W.cell? ⟨w.heap.size,2,none⟩=some (.int .i64 o)/\W.cell? ⟨w.heap.size,3,none⟩=some (.int .i64 v)/\W.cell? ⟨g,j*2+1,none⟩=some (.slice oa oe.length oc2)/\W.cell? ⟨b,off+k*2+1,none⟩=some (.slice ea te.length ec))):=
       λW hb=>⟨hb,ae bx0 hb,ae bx1 hb,ae bx2 hb,ae bx3 hb,ae d1' hb,ae c1' hb⟩
      clear bx0 bx1 bx2 bx3 d1 d1' c1' hcl;go_wp2_with fail;go_region_held (λW=>Ic (Below wr.heap.size wr W)/\W.cell? ⟨w.heap.size,0,none⟩=some (.int .i64 p)/\W.cell? ⟨w.heap.size,1,none⟩=some (.int .i64 n)/\W.cell? ⟨w.heap.size,2,none⟩=some (.int .i64 o)/\W.cell? ⟨w.heap.size,3,none⟩=some (.int .i64 v)/\W.cell? ⟨g,j*2+1,none⟩=some (.slice oa oe.length oc2)/\W.cell? ⟨b,off+k*2+1,none⟩=some (.slice ea te.length ec))
       (first|exact KEEP.o _ (Hf _ _).drew|exact KEEP.o _ (gZ (by assumption) hb9 (He _)))
       (first|(go_at_call 121;refine(mY p n o v _ _ oe te _ HO.o hoe0 hoe3 HLL.o HO2.o.2.1 HT.o.2.1 ?_ ?_).mono ?_;exact HS2.o.below (Hf _ _).drew;exact HST.o.below (Hf _ _).drew;rintro e w9 ⟨rfl,hb9⟩))
      have hb19:Below wr.heap.size wr w9:=Ic.o (And.left (by assumption));have HB9:=aa (HBR.o.trans (hb19.mono HBR.o.size));clear hb9 hb19 KEEP;cases hmb:cL o oe te
      ·go_wp2_with fail;go_meet;case rel=>exact⟨j,hj,rfl,HMO.o,λ_=>by rw[HGD.o];simpa [cL] using hmb,HB9.o⟩
      ·go_wp2_with fail;go_roundw;case rel=>exact⟨j+1,by omega,by go_num,λu hu=>by
        rcases HTK2.o u hu with h|h
        ·exact HMO.o u h
        ·rw[h];simpa [cL] using hmb,HB9.o⟩
       case measure=>simp[intOf];omega
     ·go_wp2_with fail;go_quiet (fail);go_wp2_with fail;go_meet;case rel=>exact⟨j,hj,rfl,HMO.o,λh=>absurd h hj2,below_drewN HBR.o _⟩
   case rest=>
   obtain⟨wk,hwk⟩:∃wk:World,wk=wc:=⟨_,rfl⟩;subst hwk;obtain⟨j,hj,rfl,hmore,hnm,hbc⟩:=hcut;have HMO:=aa hmore;have HNM:=aa hnm;have HCK:=aa (HC.o.next hbc);have k0:=ae c0 hbc;have k1:=ae c1 hbc;clear hmore hnm hbc c0 c1 HC;go_upto_region 8 with fail;go_cut [53] (λs53 wx=>s53=.bool (decide (j<outs.length/\(outs.getD j bK).2.2=te))/\Below wk.heap.size wk wx);case first=>
    by_cases hj2:j<outs.length
    ·obtain⟨g,cap,hv,hcap,hg1,hg2,hfr,hcl⟩:=HCK.o.at (by omega);simp only[H7,true_and] at hv;obtain⟨rfl,rfl⟩:=hv;have d1:=hcl _ _ (iw outs j hj2).2;have HS2:=aa ((HCK.o.es _ (eL outs j hj2)).below HCK.o.below);have HO2:=aa (HTOK.o _ (eL outs j hj2));generalize hgd:outs.getD j bK=ot at d1 HS2 HO2;have HGD:=aa hgd;clear hgd;obtain⟨oc,ov,oe⟩:=ot;obtain⟨oa,oc2,hoe,_⟩:=HS2.o;simp only at d1 hoe;subst hoe;have hoe3:oe.length<=3:=by have h1:=HO2.o.1;have h2:=HT.o.1;simp only[tm] at h1 h2;omega
     have HST:=aa (HSL.o.below HCK.o.below);have KEEP:Ic (∀W,Below wk.heap.size wk W->(Ic (Below wk.heap.size wk W)/\W.cell? ⟨g,j*2+1,none⟩=some (.slice oa oe.length oc2)/\W.cell? ⟨b,off+k*2+1,none⟩=some (.slice ea te.length ec))):=
      λW hb=>⟨hb,ae d1 hb,ae k1 hb⟩
     clear hcl;go_region_held (λW=>Ic (Below wk.heap.size wk W)/\W.cell? ⟨g,j*2+1,none⟩=some (.slice oa oe.length oc2)/\W.cell? ⟨b,off+k*2+1,none⟩=some (.slice ea te.length ec))
      (first|exact KEEP.o _ (Hf _ _).drew|exact KEEP.o _ (gZ (by assumption) hb9 (He _)))
      (first|(go_at_call 47;refine(mF _ _ oe te _ hoe3 ?_ ?_).mono ?_;exact HS2.o.below (Hf _ _).drew;exact HST.o.below (Hf _ _).drew;rintro e w9 ⟨rfl,hd9⟩;have hb9:=jJ (Hf wk.drew.heap.size wk.drew) hd9))
     have hb19:Below wk.heap.size wk w9:=Ic.o (And.left (by assumption));go_wp2_with fail;go_meet;case rel=>exact⟨by rw[HGD.o];simp[hj2,fi],hb19⟩
    ·go_quiet (fail);go_wp2_with fail;go_meet;case rel=>exact⟨by simp[hj2],below_drewN (Hf _ _) _⟩
   case rest=>
   obtain⟨hs53,hbc⟩:=hcut;have HC2:=aa (HCK.o.next hbc);have c0:=ae k0 hbc;have c1:=ae k1 hbc;clear k0 k1 hbc HCK;by_cases hsm:j<outs.length/\(outs.getD j bK).2.2=te
   ·have hdec:decide (j<outs.length/\(outs.getD j bK).2.2=te)=true:=by simpa using hsm
    rw[hdec] at hs53;subst hs53;obtain⟨hj2,hse⟩:=hsm;have HSE:=aa hse;obtain⟨g,cap,hv,hcap,hg1,hg2,hfr,hcl⟩:=HC2.o.at (by omega);simp only[H7,true_and] at hv;obtain⟨rfl,rfl⟩:=hv;have d0:=hcl _ _ (iw outs j hj2).1;have hfr0:=hfr (j*2);have HOC:=aa (HTOK.o _ (eL outs j hj2)).2.2;obtain⟨oc,hoc⟩:∃oc,(outs.getD j bK).1=oc:=⟨_,rfl⟩;rw[hoc] at d0;have HOCE:=aa hoc;have hoc1:0<=oc/\oc<p:=by have:=HOC.o;simp only[tm] at this;rw[hoc] at this;exact this
    have htc1:0<=tc/\tc<p:=HT.o.2.2;obtain⟨ho1,ho2⟩:=hoc1;obtain⟨ht1,ht2⟩:=htc1;obtain⟨_,bx0,_,_,_⟩:=HBX.o.below HC2.o.below;have HGG:=aa hg1;clear hse hdec hcl hfr hoc;go_wp2_with fail;go_region;all_goals
     go_wp2;go_roundw;case rel=>exact⟨k+1,_,by omega,by go_num,((HC2.o.next (Hf _ _).drew).put (t:=(tc,.slice ea te.length ec,te)) HTK.o hj2 HMO.o (Int.not_lt.2 (HNM.o hj2)) HSE.o (by rw[HOCE.o]) HGG.o)⟩
     case measure=>simp[intOf];omega
   ·have hdec:decide (j<outs.length/\(outs.getD j bK).2.2=te)=false:=by simpa using hsm
    rw[hdec] at hs53;subst hs53;have HSM:=aa hsm;clear hsm hdec;by_cases hnil:outs.length=0
    ·have hn0:outs=[]:=List.length_eq_zero_iff.1 hnil;have hv0:=HC2.o.nil hn0;simp only[H7] at hv0;obtain⟨rfl,_,rfl⟩:=hv0;subst hn0;have hj0:j=0:=by simpa using hj
     subst hj0;clear hnil;have HAC:Ic (∀W,Below wc.heap.size wc W->0<0->∃b off,(none:Option Addr)=some ⟨b,off,none⟩/\∀i u,(ak ([]:List TV))[i]?=some u->W.cell? ⟨b,off+i,none⟩=some u):=λW _ h=>absurd h (by omega);have HCT:=HAC;have HE0:Ic ((wc.alloc (.cells #[] 54)).ownsRow wc.heap.size 54 2 (.slice (some ⟨wc.heap.size,0,none⟩) 0 0) 0 []):=World.ownsRow_made wc #[] 0 (He _) (by decide) (by simp);have HEsD:Ic (∀u∈ak ([]:List TV),u.oneCell'=true):=(λu hu=>by simp[ak] at hu);have HEsT:Ic (∀u∈ak ([]:List TV),u.oneCell'=true):=(λu hu=>by simp[ak] at hu);have HLD:=aa (show ([]:List TV).length=0 from rfl);have HLT:=aa (show ([]:List TV).length=0 from rfl);go_upto_region 11 with (at_builtin;refine sd rfl (.tmp 72) (.tmp 75) 31 rfl wc.heap.size 54 i0 _ underlying31 HI.o.1 HI.o.2.1 HI.o.2.2.1 HI.o.2.2.2 rfl _ 0 [] rfl HE0.o ([]:List TV) (0) HLD.o (none) (0) rfl (HAC.o _ af) HEsD.o (by omega) (by simp) ?_;intro v2 w2 r1 r2;rw[Hy,List.nil_append] at r1;have RS:=aa r1;have HB2:=aa (show Below wc.heap.size wc w2 from bU HE0.o af r2 (He _));obtain⟨ra,rc,hrv⟩:=a7 r1;subst hrv;clear r1 r2);have HC3:=aa (HC2.o.next HB2.o);have e0:=ae c0 HB2.o;have e1:=ae c1 HB2.o;clear c0 c1;have HR:Ic (∀W,Below w2.heap.size w2 W->0<0->∃b off,ra=some ⟨b,off,none⟩/\∀i u,(ak ([]:List TV))[i]?=some u->W.cell? ⟨b,off+i,none⟩=some u):=λW hb h=>yr RS.o HLD.o hb h;have CT:Ic (∀W,Below w2.heap.size w2 W->0<0->∃b off,(none:Option Addr)=some ⟨b,off,none⟩/\∀i u,(ak ([]:List TV))[i]?=some u->W.cell? ⟨b,off+i,none⟩=some u):=λW hb=>HCT.o W (HB2.o.trans (hb.mono HB2.o.size));have HW2:=aa (show w1.heap.size<=w2.heap.size from HC3.o.below.size);have BA:=aa (show Below w2.heap.size w2 (w2.drew.alloc (.cells #[] 54)) from (Hf w2.heap.size w2).drew.alloc (He _) _);have BB:=aa (show Below w2.heap.size w2 ((w2.drew.alloc (.cells #[] 54)).alloc (.cells #[.int .i64 tc,.slice ea te.length ec] 54)) from BA.o.alloc (by simp) _);have BC:=aa (show Below w2.heap.size w2 ((w2.drew.alloc (.cells #[.int .i64 tc,.slice ea te.length ec] 54)).alloc (.cells #[] 54)) from ((Hf w2.heap.size w2).drew.alloc (He _) _).alloc (by simp) _);have OA:Ic ((w2.drew.alloc (.cells #[] 54)).ownsRow w2.heap.size 54 2 (.slice (some ⟨w2.heap.size,0,none⟩) 0 0) 0 []):=World.ownsRow_made w2.drew #[] 0 (He _) (by decide) (by simp);have OB:Ic (((w2.drew.alloc (.cells #[] 54)).alloc (.cells #[.int .i64 tc,.slice ea te.length ec] 54)).ownsRow w2.heap.size 54 2 (.slice (some ⟨w2.heap.size,0,none⟩) 0 0) 0 []):=OA.o.alloc _;have OC:Ic (((w2.drew.alloc (.cells #[.int .i64 tc,.slice ea te.length ec] 54)).alloc (.cells #[] 54)).ownsRow w2.heap.size 54 2 (.slice (some ⟨w2.heap.size+1,0,none⟩) 0 0) 0 []):=by have h:=World.ownsRow_made (w2.drew.alloc (.cells #[.int .i64 tc,.slice ea te.length ec] 54)) (base:=w2.heap.size) (e:=54) (size:=2) #[] 0 (by simp) (by decide) (by simp);exact aa (by simpa using h)
     have TB:Ic (∀i u,(ak [(tc,Value.slice ea te.length ec,te)])[i]?=some u->((w2.drew.alloc (.cells #[] 54)).alloc (.cells #[.int .i64 tc,.slice ea te.length ec] 54)).cell? ⟨w2.heap.size+1,0+i,none⟩=some u):=by intro i u hi;have h:=kn (w2.drew.alloc (.cells #[] 54)) tc (.slice ea te.length ec) te 54 i u hi;rw[show (w2.drew.alloc (.cells #[] 54)).heap.size=w2.heap.size+1 from by simp] at h;exact h
     have TC:Ic (∀i u,(ak [(tc,Value.slice ea te.length ec,te)])[i]?=some u->((w2.drew.alloc (.cells #[.int .i64 tc,.slice ea te.length ec] 54)).alloc (.cells #[] 54)).cell? ⟨w2.heap.size,0+i,none⟩=some u):=λi u hi=>ae (kn w2.drew tc (.slice ea te.length ec) te 54 i u hi) af;have e0a:=ae e0 (af (w:=w2) (A:=.cells #[] 54));have e1a:=ae e1 (af (w:=w2) (A:=.cells #[] 54));have ONE1:=aa (eK (w:=w1) (ts:=[(tc,.slice ea te.length ec,te)]) (λu hu=>by rw[Hw] at hu;subst hu;exact HSL.o));go_region_law (first|(refine gh rfl (.tmp 77) (.tmp 80) 31 rfl w2.heap.size 54 i0 _ underlying31 HI.o.1 HI.o.2.1 HI.o.2.2.1 HI.o.2.2.2 rfl (.slice (some ⟨w2.heap.size,0,none⟩) 0 0) 0 [] (by simp[Act.eval,Act.put]) OA.o ([]:List TV) 0 HLT.o (none) (0) (by simp[Act.eval,Act.put]) (CT.o _ BA.o) HEsT.o (by omega) BA.o.size ?_;intro v5 w5 r1 r2;rw[Hy,List.nil_append] at r1;have OWN5:=aa r1;have HB5:=aa (show Below w2.heap.size w2 w5 from bU OA.o BA.o r2 (He _));have f0:=ae e0 HB5.o;have f1:=ae e1 HB5.o;obtain⟨va5,vc5,hv5⟩:=a7 r1;subst hv5;clear r1 r2)|(refine gh rfl (.tmp 77) (.tmp 80) 31 rfl w2.heap.size 54 i0 _ underlying31 HI.o.1 HI.o.2.1 HI.o.2.2.1 HI.o.2.2.2 rfl (.slice (some ⟨w2.heap.size,0,none⟩) 0 0) 0 [] (by simp[Act.eval,Act.put]) OB.o ([]:List TV) 0 HLT.o (none) (0) (by simp[Act.eval,Act.put]) (CT.o _ BB.o) HEsT.o (by omega) BB.o.size ?_;intro v5 w5 r1 r2;rw[Hy,List.nil_append] at r1;have OWN5:=aa r1;have HB5:=aa (show Below w2.heap.size w2 w5 from bU OB.o BB.o r2 (He _));have T5:Ic (∀i u,(ak [(tc,Value.slice ea te.length ec,te)])[i]?=some u->w5.cell? ⟨w2.heap.size+1,0+i,none⟩=some u):=(λi u hi=>r2.cell (TB.o i u hi) (by simp[Value.ownBlock]));obtain⟨va5,vc5,hv5⟩:=a7 r1;subst hv5;clear r1 r2)|(refine gh rfl (.tmp 77) (.tmp 80) 31 rfl w2.heap.size 54 i0 _ underlying31 HI.o.1 HI.o.2.1 HI.o.2.2.1 HI.o.2.2.2 rfl (.slice (some ⟨w2.heap.size+1,0,none⟩) 0 0) 0 [] (by simp[Act.eval,Act.put]) OC.o ([]:List TV) 0 HLT.o (none) (0) (by simp[Act.eval,Act.put]) (CT.o _ BC.o) HEsT.o (by omega) BC.o.size ?_;intro v5 w5 r1 r2;rw[Hy,List.nil_append] at r1;have OWN5:=aa r1;have HB5:=aa (show Below w2.heap.size w2 w5 from bU OC.o BC.o r2 (He _));have T6:Ic (∀i u,(ak [(tc,Value.slice ea te.length ec,te)])[i]?=some u->w5.cell? ⟨w2.heap.size,0+i,none⟩=some u):=(λi u hi=>r2.cell (TC.o i u hi) (by simp[Value.ownBlock]));obtain⟨va5,vc5,hv5⟩:=a7 r1;subst hv5;clear r1 r2)|(refine gh rfl (.tmp 81) (.tmp 86) 31 rfl w2.heap.size 54 i0 _ underlying31 HI.o.1 HI.o.2.1 HI.o.2.2.1 HI.o.2.2.2 rfl (.slice va5 0 vc5) 0 (ak ([]:List TV)) (by simp[Act.eval,Act.put]) (OWN5.o.alloc _) [(tc,.slice ea te.length ec,te)] 1 rfl (some ⟨w5.heap.size,0,none⟩) 1 (by simp[Act.eval,Act.put]) (λ_=>⟨w5.heap.size,0,rfl,kn w5 tc (.slice ea te.length ec) te 54⟩) ONE1.o (by omega) (Hk HB5.o.size (by simp)) ?_;intro v6 w6 r1 r2;have OWN6:=aa r1;have HB6:=aa (show Below w2.heap.size w2 w6 from bU (OWN5.o.alloc _) (HB5.o.alloc HB5.o.size _) r2 (He _));obtain⟨va6,vc6,hv6⟩:=a7 r1;subst hv6;clear r1 r2)|(refine gh rfl (.tmp 81) (.tmp 86) 31 rfl w2.heap.size 54 i0 _ underlying31 HI.o.1 HI.o.2.1 HI.o.2.2.1 HI.o.2.2.2 rfl (.slice va5 0 vc5) 0 (ak ([]:List TV)) (by simp[Act.eval,Act.put]) OWN5.o [(tc,.slice ea te.length ec,te)] 1 rfl (some ⟨w2.heap.size+1,0,none⟩) 1 (by simp[Act.eval,Act.put]) (λ_=>⟨w2.heap.size+1,0,rfl,T5.o⟩) ONE1.o (by omega) HB5.o.size ?_;intro v6 w6 r1 r2;have OWN6:=aa r1;have HB6:=aa (show Below w2.heap.size w2 w6 from bU OWN5.o HB5.o r2 (He _));obtain⟨va6,vc6,hv6⟩:=a7 r1;subst hv6;clear r1 r2)|(refine gh rfl (.tmp 81) (.tmp 86) 31 rfl w2.heap.size 54 i0 _ underlying31 HI.o.1 HI.o.2.1 HI.o.2.2.1 HI.o.2.2.2 rfl (.slice va5 0 vc5) 0 (ak ([]:List TV)) (by simp[Act.eval,Act.put]) OWN5.o [(tc,.slice ea te.length ec,te)] 1 rfl (some ⟨w2.heap.size,0,none⟩) 1 (by simp[Act.eval,Act.put]) (λ_=>⟨w2.heap.size,0,rfl,T6.o⟩) ONE1.o (by omega) HB5.o.size ?_;intro v6 w6 r1 r2;have OWN6:=aa r1;have HB6:=aa (show Below w2.heap.size w2 w6 from bU OWN5.o HB5.o r2 (He _));obtain⟨va6,vc6,hv6⟩:=a7 r1;subst hv6;clear r1 r2)|(refine gh rfl (.tmp 87) (.tmp 88) 31 rfl w2.heap.size 54 i0 _ underlying31 HI.o.1 HI.o.2.1 HI.o.2.2.1 HI.o.2.2.2 rfl (.slice va6 (0+1) vc6) (0+1) (ak ([]:List TV)++ak [(tc,.slice ea te.length ec,te)]) (by simp[Act.eval,Act.put]) OWN6.o ([]:List TV) (0) HLD.o ra rc (by simp[Act.eval,Act.put]) (HR.o _ HB6.o) HEsD.o (by omega) HB6.o.size ?_;intro v7 w7 r1 r2;have OWN7:=aa r1;have HB7:=aa (show Below w2.heap.size w2 w7 from bU OWN6.o HB6.o r2 (He _));obtain⟨va7,vc7,hv7⟩:=a7 r1;subst hv7;clear r1 r2));all_goals
      simp only[List.getElem_toArray,List.getElem_cons_succ,List.getElem_cons_zero];simp only[Act.put,List.setIfInBounds_toArray,List.set_cons_zero,List.set_cons_succ];go_wp2;go_roundw;case rel=>exact⟨k+1,_,by omega,by go_num,HC3.o.grow (t:=(tc,.slice ea te.length ec,te)) (j:=0) HTK.o HSL.o HPH.o (He _) HMO.o HNM.o HSM.o HB7.o (kS OWN7.o HW2.o)⟩
      case measure=>simp[intOf];omega
    ·obtain⟨g,cap,hv,hcap,hg1,hg2,hfr,hcl⟩:=HC2.o.at (by omega);simp only[H7,true_and] at hv;obtain⟨rfl,hvc⟩:=hv;subst hvc;obtain⟨A,hA,hAc⟩:∃A,(if vc=j then (some ⟨g,0,none⟩:Option Addr) else some ⟨g,j*2,none⟩)=some A/\(∀W,Below wc.heap.size wc W->0<outs.length-j->∃b off,(some A:Option Addr)=some ⟨b,off,none⟩/\∀i u,(ak (outs.drop j))[i]?=some u->W.cell? ⟨b,off+i,none⟩=some u):=by
      by_cases hcj:vc=j
      ·exact⟨_,if_pos hcj,λW _ h=>absurd h (by omega)⟩
      ·exact⟨_,if_neg hcj,λW hb _=>⟨g,j*2,rfl,λi u hi=>by rw[yo,List.getElem?_drop] at hi;exact ae (hcl _ _ hi) hb⟩⟩
     have HAC:=aa hAc;have HCT:Ic (∀W,Below wc.heap.size wc W->0<j->∃b off,(some ⟨g,0,none⟩:Option Addr)=some ⟨b,off,none⟩/\∀i u,(ak (outs.take j))[i]?=some u->W.cell? ⟨b,off+i,none⟩=some u):=λW hb _=>⟨g,0,rfl,λi u hi=>by
      rw[yp] at hi;rw[List.getElem?_take] at hi;split at hi
      ·rw[Hy];exact ae (hcl _ _ hi) hb
      ·simp at hi⟩
     have hjc:(j:Int)<=(vc:Int):=by omega
     clear hAc hcl hfr;have HE0:Ic ((wc.alloc (.cells #[] 54)).ownsRow wc.heap.size 54 2 (.slice (some ⟨wc.heap.size,0,none⟩) 0 0) 0 []):=World.ownsRow_made wc #[] 0 (He _) (by decide) (by simp);have HEsD:Ic (∀u∈ak (outs.drop j),u.oneCell'=true):=eK (w:=w1) (λu hu=>HC2.o.es u (List.mem_of_mem_drop hu));have HEsT:Ic (∀u∈ak (outs.take j),u.oneCell'=true):=eK (w:=w1) (λu hu=>HC2.o.es u (List.mem_of_mem_take hu));have HLD:=aa (show (outs.drop j).length=outs.length-j by simp);have HLT:=aa (show (outs.take j).length=j by simp;omega);have hjI:(j:Int)<=(outs.length:Int):=by omega
     have hjN:(0:Int)<=(j:Int):=by omega
     go_upto_region 11 with (at_builtin;refine sd rfl (.tmp 72) (.tmp 75) 31 rfl wc.heap.size 54 i0 _ underlying31 HI.o.1 HI.o.2.1 HI.o.2.2.1 HI.o.2.2.2 rfl _ 0 [] rfl HE0.o (outs.drop j) (outs.length-j) HLD.o (some A) (vc-j) rfl (HAC.o _ af) HEsD.o (by omega) (by simp) ?_;intro v2 w2 r1 r2;rw[Hy,List.nil_append] at r1;have RS:=aa r1;have HB2:=aa (show Below wc.heap.size wc w2 from bU HE0.o af r2 (He _));obtain⟨ra,rc,hrv⟩:=a7 r1;subst hrv;clear r1 r2);have HC3:=aa (HC2.o.next HB2.o);have e0:=ae c0 HB2.o;have e1:=ae c1 HB2.o;clear c0 c1;have HR:Ic (∀W,Below w2.heap.size w2 W->0<outs.length-j->∃b off,ra=some ⟨b,off,none⟩/\∀i u,(ak (outs.drop j))[i]?=some u->W.cell? ⟨b,off+i,none⟩=some u):=λW hb h=>yr RS.o HLD.o hb h;have CT:Ic (∀W,Below w2.heap.size w2 W->0<j->∃b off,(some ⟨g,0,none⟩:Option Addr)=some ⟨b,off,none⟩/\∀i u,(ak (outs.take j))[i]?=some u->W.cell? ⟨b,off+i,none⟩=some u):=λW hb=>HCT.o W (HB2.o.trans (hb.mono HB2.o.size));have HW2:=aa (show w1.heap.size<=w2.heap.size from HC3.o.below.size);have BA:=aa (show Below w2.heap.size w2 (w2.drew.alloc (.cells #[] 54)) from (Hf w2.heap.size w2).drew.alloc (He _) _);have BB:=aa (show Below w2.heap.size w2 ((w2.drew.alloc (.cells #[] 54)).alloc (.cells #[.int .i64 tc,.slice ea te.length ec] 54)) from BA.o.alloc (by simp) _);have BC:=aa (show Below w2.heap.size w2 ((w2.drew.alloc (.cells #[.int .i64 tc,.slice ea te.length ec] 54)).alloc (.cells #[] 54)) from ((Hf w2.heap.size w2).drew.alloc (He _) _).alloc (by simp) _);have OA:Ic ((w2.drew.alloc (.cells #[] 54)).ownsRow w2.heap.size 54 2 (.slice (some ⟨w2.heap.size,0,none⟩) 0 0) 0 []):=World.ownsRow_made w2.drew #[] 0 (He _) (by decide) (by simp);have OB:Ic (((w2.drew.alloc (.cells #[] 54)).alloc (.cells #[.int .i64 tc,.slice ea te.length ec] 54)).ownsRow w2.heap.size 54 2 (.slice (some ⟨w2.heap.size,0,none⟩) 0 0) 0 []):=OA.o.alloc _;have OC:Ic (((w2.drew.alloc (.cells #[.int .i64 tc,.slice ea te.length ec] 54)).alloc (.cells #[] 54)).ownsRow w2.heap.size 54 2 (.slice (some ⟨w2.heap.size+1,0,none⟩) 0 0) 0 []):=by have h:=World.ownsRow_made (w2.drew.alloc (.cells #[.int .i64 tc,.slice ea te.length ec] 54)) (base:=w2.heap.size) (e:=54) (size:=2) #[] 0 (by simp) (by decide) (by simp);exact aa (by simpa using h)
     have TB:Ic (∀i u,(ak [(tc,Value.slice ea te.length ec,te)])[i]?=some u->((w2.drew.alloc (.cells #[] 54)).alloc (.cells #[.int .i64 tc,.slice ea te.length ec] 54)).cell? ⟨w2.heap.size+1,0+i,none⟩=some u):=by intro i u hi;have h:=kn (w2.drew.alloc (.cells #[] 54)) tc (.slice ea te.length ec) te 54 i u hi;rw[show (w2.drew.alloc (.cells #[] 54)).heap.size=w2.heap.size+1 from by simp] at h;exact h
     have TC:Ic (∀i u,(ak [(tc,Value.slice ea te.length ec,te)])[i]?=some u->((w2.drew.alloc (.cells #[.int .i64 tc,.slice ea te.length ec] 54)).alloc (.cells #[] 54)).cell? ⟨w2.heap.size,0+i,none⟩=some u):=λi u hi=>ae (kn w2.drew tc (.slice ea te.length ec) te 54 i u hi) af;have e0a:=ae e0 (af (w:=w2) (A:=.cells #[] 54));have e1a:=ae e1 (af (w:=w2) (A:=.cells #[] 54));have ONE1:=aa (eK (w:=w1) (ts:=[(tc,.slice ea te.length ec,te)]) (λu hu=>by rw[Hw] at hu;subst hu;exact HSL.o));go_region_law (first|(refine gh rfl (.tmp 77) (.tmp 80) 31 rfl w2.heap.size 54 i0 _ underlying31 HI.o.1 HI.o.2.1 HI.o.2.2.1 HI.o.2.2.2 rfl (.slice (some ⟨w2.heap.size,0,none⟩) 0 0) 0 [] (by simp[Act.eval,Act.put]) OA.o (outs.take j) j HLT.o (some ⟨g,0,none⟩) (vc) (by simp[Act.eval,Act.put]) (CT.o _ BA.o) HEsT.o (by omega) BA.o.size ?_;intro v5 w5 r1 r2;rw[Hy,List.nil_append] at r1;have OWN5:=aa r1;have HB5:=aa (show Below w2.heap.size w2 w5 from bU OA.o BA.o r2 (He _));have f0:=ae e0 HB5.o;have f1:=ae e1 HB5.o;obtain⟨va5,vc5,hv5⟩:=a7 r1;subst hv5;clear r1 r2)|(refine gh rfl (.tmp 77) (.tmp 80) 31 rfl w2.heap.size 54 i0 _ underlying31 HI.o.1 HI.o.2.1 HI.o.2.2.1 HI.o.2.2.2 rfl (.slice (some ⟨w2.heap.size,0,none⟩) 0 0) 0 [] (by simp[Act.eval,Act.put]) OB.o (outs.take j) j HLT.o (some ⟨g,0,none⟩) (vc) (by simp[Act.eval,Act.put]) (CT.o _ BB.o) HEsT.o (by omega) BB.o.size ?_;intro v5 w5 r1 r2;rw[Hy,List.nil_append] at r1;have OWN5:=aa r1;have HB5:=aa (show Below w2.heap.size w2 w5 from bU OB.o BB.o r2 (He _));have T5:Ic (∀i u,(ak [(tc,Value.slice ea te.length ec,te)])[i]?=some u->w5.cell? ⟨w2.heap.size+1,0+i,none⟩=some u):=(λi u hi=>r2.cell (TB.o i u hi) (by simp[Value.ownBlock]));obtain⟨va5,vc5,hv5⟩:=a7 r1;subst hv5;clear r1 r2)|(refine gh rfl (.tmp 77) (.tmp 80) 31 rfl w2.heap.size 54 i0 _ underlying31 HI.o.1 HI.o.2.1 HI.o.2.2.1 HI.o.2.2.2 rfl (.slice (some ⟨w2.heap.size+1,0,none⟩) 0 0) 0 [] (by simp[Act.eval,Act.put]) OC.o (outs.take j) j HLT.o (some ⟨g,0,none⟩) (vc) (by simp[Act.eval,Act.put]) (CT.o _ BC.o) HEsT.o (by omega) BC.o.size ?_;intro v5 w5 r1 r2;rw[Hy,List.nil_append] at r1;have OWN5:=aa r1;have HB5:=aa (show Below w2.heap.size w2 w5 from bU OC.o BC.o r2 (He _));have T6:Ic (∀i u,(ak [(tc,Value.slice ea te.length ec,te)])[i]?=some u->w5.cell? ⟨w2.heap.size,0+i,none⟩=some u):=(λi u hi=>r2.cell (TC.o i u hi) (by simp[Value.ownBlock]));obtain⟨va5,vc5,hv5⟩:=a7 r1;subst hv5;clear r1 r2)|(refine gh rfl (.tmp 81) (.tmp 86) 31 rfl w2.heap.size 54 i0 _ underlying31 HI.o.1 HI.o.2.1 HI.o.2.2.1 HI.o.2.2.2 rfl (.slice va5 j vc5) j (ak (outs.take j)) (by simp[Act.eval,Act.put]) (OWN5.o.alloc _) [(tc,.slice ea te.length ec,te)] 1 rfl (some ⟨w5.heap.size,0,none⟩) 1 (by simp[Act.eval,Act.put]) (λ_=>⟨w5.heap.size,0,rfl,kn w5 tc (.slice ea te.length ec) te 54⟩) ONE1.o (by omega) (Hk HB5.o.size (by simp)) ?_;intro v6 w6 r1 r2;have OWN6:=aa r1;have HB6:=aa (show Below w2.heap.size w2 w6 from bU (OWN5.o.alloc _) (HB5.o.alloc HB5.o.size _) r2 (He _));obtain⟨va6,vc6,hv6⟩:=a7 r1;subst hv6;clear r1 r2)|(refine gh rfl (.tmp 81) (.tmp 86) 31 rfl w2.heap.size 54 i0 _ underlying31 HI.o.1 HI.o.2.1 HI.o.2.2.1 HI.o.2.2.2 rfl (.slice va5 j vc5) j (ak (outs.take j)) (by simp[Act.eval,Act.put]) OWN5.o [(tc,.slice ea te.length ec,te)] 1 rfl (some ⟨w2.heap.size+1,0,none⟩) 1 (by simp[Act.eval,Act.put]) (λ_=>⟨w2.heap.size+1,0,rfl,T5.o⟩) ONE1.o (by omega) HB5.o.size ?_;intro v6 w6 r1 r2;have OWN6:=aa r1;have HB6:=aa (show Below w2.heap.size w2 w6 from bU OWN5.o HB5.o r2 (He _));obtain⟨va6,vc6,hv6⟩:=a7 r1;subst hv6;clear r1 r2)|(refine gh rfl (.tmp 81) (.tmp 86) 31 rfl w2.heap.size 54 i0 _ underlying31 HI.o.1 HI.o.2.1 HI.o.2.2.1 HI.o.2.2.2 rfl (.slice va5 j vc5) j (ak (outs.take j)) (by simp[Act.eval,Act.put]) OWN5.o [(tc,.slice ea te.length ec,te)] 1 rfl (some ⟨w2.heap.size,0,none⟩) 1 (by simp[Act.eval,Act.put]) (λ_=>⟨w2.heap.size,0,rfl,T6.o⟩) ONE1.o (by omega) HB5.o.size ?_;intro v6 w6 r1 r2;have OWN6:=aa r1;have HB6:=aa (show Below w2.heap.size w2 w6 from bU OWN5.o HB5.o r2 (He _));obtain⟨va6,vc6,hv6⟩:=a7 r1;subst hv6;clear r1 r2)|(refine gh rfl (.tmp 87) (.tmp 88) 31 rfl w2.heap.size 54 i0 _ underlying31 HI.o.1 HI.o.2.1 HI.o.2.2.1 HI.o.2.2.2 rfl (.slice va6 (j+1) vc6) (j+1) (ak (outs.take j)++ak [(tc,.slice ea te.length ec,te)]) (by simp[Act.eval,Act.put]) OWN6.o (outs.drop j) (outs.length-j) HLD.o ra rc (by simp[Act.eval,Act.put]) (HR.o _ HB6.o) HEsD.o (by omega) HB6.o.size ?_;intro v7 w7 r1 r2;have OWN7:=aa r1;have HB7:=aa (show Below w2.heap.size w2 w7 from bU OWN6.o HB6.o r2 (He _));obtain⟨va7,vc7,hv7⟩:=a7 r1;subst hv7;clear r1 r2));all_goals
      simp only[List.getElem_toArray,List.getElem_cons_succ,List.getElem_cons_zero];simp only[Act.put,List.setIfInBounds_toArray,List.set_cons_zero,List.set_cons_succ];go_wp2;go_roundw;case rel=>exact⟨k+1,_,by omega,by go_num,HC3.o.grow (t:=(tc,.slice ea te.length ec,te)) HTK.o HSL.o HPH.o hj HMO.o HNM.o HSM.o HB7.o (kS OWN7.o HW2.o)⟩
      case measure=>simp[intOf];omega
  ·have e:k=us.length:=by omega
   subst e;have HUL:Ic (us.length=ts.length):=by show _=_;rw[<-HUS.o,Ia]
   have HEQ:Ic (aG p o ts=(outs.map tm).filter λt=>t.1%p !=0):=by show _=_;rw[HC.o.eq,HUL.o,Hz (He _)];rfl
   obtain⟨va,vc,hvv⟩:=a7 HC.o.own;subst hvv;have hol:outs.length<=1200000000000:=by have:=HC.o.len;omega
   go_wp2;go_loopw [9,10] (λz i wr=>∃(m:Nat)(ls:List TV),m<=outs.length/\i=.int .i64 m/\wr.ownsRow wo.heap.size 54 2 z ls.length (ak ls)/\(Es w1 ls/\∀t∈ls,Φ t.2.1)/\ls.map tm=((outs.take m).map tm).filter (λt=>t.1%p !=0)/\ls.length<=m/\Below wo.heap.size wo wr) (λ_ i _=>outs.length-(intOf i).toNat);case atStart=>exact⟨0,[],Hl _,rfl,World.ownsRow_nil _ _ _ _,⟨λt ht=>by simp at ht,λt ht=>by simp at ht⟩,by simp,He _,Hf _ _⟩
   case round=>
    obtain⟨m,ls,hm1,rfl,hown,hes,heq,hll,hbr⟩:=hrel;have HOWN:=aa hown;have HL:=aa (Hg hes (Hg heq hll));have HBR:=aa hbr;obtain⟨la,lc2,hlv⟩:=a7 hown;subst hlv;clear hown hes heq hll hbr;by_cases hm2:m<outs.length
    ·obtain⟨g,cap,hv,hcap,hg1,hg2,hfr,hcl⟩:=HC.o.at (by omega);simp only[H7,true_and] at hv;obtain⟨rfl,hvc⟩:=hv;subst hvc;have d0:=ae (hcl _ _ (iw outs m hm2).1) HBR.o;have d1:=ae (hcl _ _ (iw outs m hm2).2) HBR.o;have HS2:=aa (HC.o.es _ (eL outs m hm2));have HP2:=aa (HC.o.ap _ (eL outs m hm2));have HTT:=aa (oY outs m hm2);have HCF:=aa ((HC.o.tok hp1 HTS.o _ (eL outs m hm2)).2.2);generalize outs.getD m bK=ot at d0 d1 HS2 HTT HCF HP2;obtain⟨oc,ov,oe⟩:=ot;obtain⟨oa,oc2,hoe,_⟩:=HS2.o;simp only at d0 d1 hoe;subst hoe;have hoc:0<=oc/\oc<p:=HCF.o;obtain⟨ho1,ho2⟩:=hoc;obtain⟨_,bx0,_,_,_⟩:=(HBX.o.below HC.o.below).below HBR.o;clear hcl hfr;by_cases hz:oc%p=0
     ·go_wp2;go_quiet (fail);go_wp2;go_roundw;case rel=>exact⟨m+1,ls,by omega,by go_num,aH HOWN.o (below_drewN (Hf _ _) _),HL.o.1,by rw[HTT.o,List.filter_append,HL.o.2.1];simp[tm,hz],by have:=HL.o.2.2;omega,below_drewN HBR.o _⟩
      case measure=>simp[intOf];omega
     ·go_wp2;go_quiet (fail);have HO2:=aa ((aH HOWN.o (below_drewN (Hf _ _) nq)).alloc (.cells #[.int .i64 oc,.slice oa oe.length oc2] 54));have d0q:=ae d0 (below_drewN (Hf wr.heap.size wr) nq);have d1q:=ae d1 (below_drewN (Hf wr.heap.size wr) nq);have ONE1:=aa (eK (w:=w1) (ts:=[(oc,.slice oa oe.length oc2,oe)]) (λu hu=>by rw[Hw] at hu;subst hu;exact HS2.o));have HBS:=aa (show wo.heap.size<=wr.heap.size from HBR.o.size);have hls:ls.length<=1200000000000:=by have:=HL.o.2.2;omega
      go_wp2_with (at_builtin;refine sd rfl (.tmp 105) (.tmp 110) 31 rfl wo.heap.size 54 i0 _ underlying31 HI.o.1 HI.o.2.1 HI.o.2.2.1 HI.o.2.2.2 rfl _ ls.length (ak ls) rfl HO2.o [(oc,.slice oa oe.length oc2,oe)] 1 rfl (some ⟨wr.heap.size,0,none⟩) 1 rfl (λ_=>⟨wr.heap.size,0,rfl,kn (wr.drewN nq) oc (.slice oa oe.length oc2) oe 54⟩) ONE1.o (by omega) (Hk HBS.o (by simp)) ?_;intro v2 w2 r1 r2;have R1:=aa r1;have HB2:=aa (show Below wo.heap.size wo w2 from bU HO2.o ((below_drewN HBR.o nq).alloc HBS.o _) r2 (He _));obtain⟨va2,vc2,hv2⟩:=a7 r1;subst hv2;clear r1 r2);go_roundw;case rel=>exact⟨m+1,ls++[(oc,.slice oa oe.length oc2,oe)],by omega,by go_num,by rw[gV,Hx];exact R1.o,⟨λu hu=>by
       rcases Hv.1 hu with hu|hu
       ·exact HL.o.1.1 u hu
       ·rw[Hw] at hu;subst hu;exact HS2.o,λu hu=>by
       rcases Hv.1 hu with hu|hu
       ·exact HL.o.1.2 u hu
       ·rw[Hw] at hu;subst hu;exact HP2.o⟩,by rw[HTT.o,List.filter_append,List.map_append,HL.o.2.1];simp[tm,hz],by have:=HL.o.2.2;simp;omega,HB2.o⟩
      case measure=>simp[intOf];omega
    ·go_wp2;go_ret;have e2:m=outs.length:=by omega
     subst e2;refine⟨_,ls,rfl,kS HOWN.o (Hk HBW.o.size HC.o.below.size),HL.o.1.1.below (HC.o.below.trans (HBR.o.mono HC.o.below.size)),?_,HL.o.1.2,(HBW.o.trans (HC.o.below.mono HBW.o.size)).trans (HBR.o.mono (HBW.o.trans (HC.o.below.mono HBW.o.size)).size)⟩;rw[HL.o.2.1,Hz (He _),<-HEQ.o]
theorem yt(p n o v:Int)(N:Nat)(lv:Value)(ts:List Tm)(w:World)(hp:2<=p/\p<=101)(ho:o=1\/o=2)(hN0:0<N)(hN:N<=3)(hts:∀t∈ts,dP p N t)(hm:ts.length<=1200000000000)(hl:Pl w lv ts):Calls prog 123 #[az p n o v,lv] w λe w'=>∃u,e=.returned u/\Pl w' u (aG p o ts)/\Below w.heap.size w w':=by obtain⟨a,lcap,us,rfl,hlc,hus,hes,hcs⟩:=hl.tvs;refine(Fl (λ_=>True) p n o v N a lcap us ts w hp ho hN0 hN hts hm hlc hus hes hcs (λ_ _=>trivial)).mono ?_;rintro e w' ⟨u,ls,rfl,h1,h2,h3,_,h4⟩;have h:=kf h1 h2;rw[h3] at h;exact⟨_,rfl,h,h4⟩
end Go.Proofs.YtglijodcbdcngaaGreat
