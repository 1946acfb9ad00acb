/- The sum's take. -/
import Derived.Test.YtglijodcbdcngaaGreatZN
import Derived.Test.YtglijodcbdcngaaGreatShelf
set_option maxHeartbeats 2000000
set_option maxRecDepth 100000
namespace Go.Proofs.YtglijodcbdcngaaGreat
set_option linter.unusedSimpArgs false
set_option linter.unusedVariables false
open Go.Proofs.Tryz Go.RowKit
theorem aQ.frm{S:Nat->Prop}{w w':World}{ob:Nat}{p k0 k1 k2:Int}{sv:Value}(h:aQ w ob p k0 k1 k2 sv)(hf:ao S w w')(hn:¬S ob):aQ w' ob p k0 k1 k2 sv:=
 ⟨Hj h.lt hf.size,hf.cell h.c0 hn,hf.cell h.c1 hn,hf.cell h.c2 hn,hf.cell h.c3 hn,hf.cell h.c4 hn⟩
theorem aW.ob_apart{B:Nat}{w:World}{sb ob:Nat}{rv:Value}{us:List Value}{rows:List (List Ft)}{p k0 k1 k2:Int}{sv:Value}(h:aW B w sb ob rv us rows)(ho:aQ w ob p k0 k1 k2 sv):rv.ownBlock≠some ob:=by intro e;obtain⟨_,_,_,h2⟩:=h.rws.kind ob e 0 _ ho.c0;cases h2
theorem sL(key:Int){p:Int}(hp:2<=p/\p<=101):∀(rows:List (List Ft)),(∀r∈rows,∀t∈r,0<=t.c/\t.c<p)->0<=cV key rows/\cV key rows<=101*rows.length
 |[],_=>by simp[cV]
 |r::rows,h=>by
  have ih:=sL key hp rows λr hr=>h r (by simp[hr]);have h1:0<=hU key r/\hU key r<=101:=by
   cases r with
   |nil=>simp[hU]
   |cons t ts=>have:=h (t::ts) (by simp) t (by simp);simp only[hU];split<;>omega
  simp only[cV,List.map_cons,List.sum_cons,List.length_cons] at ih⊢;omega
def eZ(key:Int)(rows:List (List Ft))(m:Nat):List (List Ft):=tk key (rows.take m)++rows.drop m
theorem sM(key:Int)(rows:List (List Ft))(m:Nat):(eZ key rows m).length=rows.length:=by simp[eZ,tk];omega
theorem sN(key:Int)(rows:List (List Ft))(m:Nat)(h:m<rows.length):(eZ key rows m).getD m []=rows.getD m []:=by
 have hl:(tk key (rows.take m)).length=m:=by simp[tk];omega
 unfold eZ;rw[Hs,List.getElem?_append_right (by omega),hl,Nat.sub_self,List.getElem?_drop,Nat.add_zero,Hs]
theorem zt(key:Int)(rows:List (List Ft))(m:Nat)(h:m<rows.length):(eZ key rows m).set m (dR key (rows.getD m []))=eZ key rows (m+1):=by
 have hl:(tk key (rows.take m)).length=m:=by simp[tk];omega
 have e:rows.getD m []=rows[m]:=by simp[Hs,h]
 unfold eZ;rw[List.set_append_right _ _ (by omega),hl,Nat.sub_self,List.drop_eq_getElem_cons h,List.set_cons_zero,List.take_succ_eq_append_getElem h,e];unfold tk;rw[List.map_append,List.append_assoc];rfl
theorem GY(key:Int)(rows:List (List Ft))(m:Nat)(h:m<rows.length):cV key (rows.take (m+1))=cV key (rows.take m)+hU key (rows.getD m []):=by
 have e:rows.getD m []=rows[m]:=by simp[Hs,h]
 rw[List.take_succ_eq_append_getElem h,e];unfold cV;rw[List.map_append,List.sum_append];simp only[List.map_cons,List.map_nil,List.sum_cons,List.sum_nil];omega
theorem GZ(key:Int)(rows:List (List Ft))(m:Nat)(h:m<rows.length)(he:dR key (rows.getD m [])=rows.getD m []):eZ key rows (m+1)=eZ key rows m:=by
 rw[<-zt key rows m h,he];have:=sN key rows m h;apply List.ext_getElem?;intro i;rw[List.getElem?_set];split
 ·rename_i e;subst e;rw[sM,if_pos h];have hl:m<(eZ key rows m).length:=by rw[sM];exact h
  rw[<-this,Hs,Ht hl];rfl
 ·rfl
def nG(L:Nat)(u:Value):Prop:=∀g,u.ownBlock=some g->g<L
def iP(L:Nat)(us:List Value)(rows:List (List Ft)):Prop:=∀i,i<rows.length->rows.getD i []≠[]->nG L (us.getD i aP)
theorem Fv.vlt{w:World}{v:Value}{fs:List Ft}(h:Fv w v fs)(hn:fs≠[]):nG w.heap.size v:=by obtain⟨a,cap,rfl,_,h1⟩:=h;obtain⟨b,off,rfl,hlt,_⟩:=h1 (List.length_pos_iff.2 hn);intro g hg;simp only[Value.ownBlock,H6] at hg;omega
theorem aW.loc{B:Nat}{w:World}{sb ob:Nat}{rv:Value}{us:List Value}{rows:List (List Ft)}(h:aW B w sb ob rv us rows):iP w.heap.size us rows:=λi hi hn=>(h.rws.fvs i hi).vlt hn
theorem G0{w w':World}{g L:Nat}{v:Value}{fs:List Ft}(h:Fv w v fs)(hg:w.grownBy w' (some g))(hv:fs≠[]->nG L v)(hL:L<=g):Fv w' v fs:=by obtain⟨a,cap,rfl,hc,h1⟩:=h;refine⟨a,cap,rfl,hc,λhp=>?_⟩;obtain⟨b,off,rfl,hlt,hcs⟩:=h1 hp;have hb:=hv (List.length_pos_iff.1 hp) b rfl;exact⟨b,off,rfl,Hj hlt hg.size,λj u hj=>by rw[iX hg hlt (by omega)];exact hcs j u hj⟩
theorem aW.far{B:Nat}{w w':World}{sb ob g L:Nat}{rv:Value}{us:List Value}{rows:List (List Ft)}(h:aW B w sb ob rv us rows)(hg:w.grownBy w' (some g))(hl:iP L us rows)(hL:L<=g)(hs:sb≠g)(hr:rv.ownBlock≠some g):aW B w' sb ob rv us rows:=
 ⟨World.ownsRow.kept h.box hg (Or.inr (by simpa [Value.ownBlock] using hs)),h.kind.below (hg.block sb h.lt.2 (by simpa using hs)),h.rws.len,World.ownsRow.kept h.rws.own hg (Or.inr hr),λk hk=>bO.below (h.rws.kind k hk) (hg.block k (Hd h.rws.own k hk).2 (λe=>hr (by rw[hk,e]))),λi hi=>G0 (h.rws.fvs i hi) hg (hl i hi) hL⟩
structure cK(B L:Nat)(w wr:World)(sb ob:Nat)(rv:Value)(rows:List (List Ft)):Prop where
 sum:∃us,aW B wr sb ob rv us rows/\iP L us rows
 frm:ao (λk=>rv.ownBlock=some k) w wr
theorem cK.next{B L:Nat}{w wr w':World}{sb ob:Nat}{rv:Value}{rows:List (List Ft)}(h:cK B L w wr sb ob rv rows)(hb:Below wr.heap.size wr w'):cK B L w w' sb ob rv rows:=by obtain⟨us,hs,hl⟩:=h.sum;exact⟨⟨us,hs.next hb,hl⟩,h.frm.trans (ao.of_below (S:=λ_=>False) hb) λ_ _ h=>h.elim⟩
theorem cK.put{B L:Nat}{w wr:World}{sb ob g n c:Nat}{rows:List (List Ft)}(h:cK B L w wr sb ob (.slice (some ⟨g,0,none⟩) n c) rows)(i:Nat)(hi:i<rows.length)(u:Value)(f:List Ft)(hu:Fv wr u f)(hv:nG L u):cK B L w (wr.setCell ⟨g,i,none⟩ u) sb ob (.slice (some ⟨g,0,none⟩) n c) (rows.set i f):=by
 obtain⟨us,hs,hl⟩:=h.sum;have s:=hs.put i hi u f hu;refine⟨⟨_,s.1,λj hj hne=>?_⟩,h.frm.trans (ao.of_grown (S:=λk=>k=g) s.2 λx e=>by simpa using e.symm) λx _ e=>by subst e;rfl⟩;rw[List.length_set] at hj;rw[gD] at hne⊢;rw[hs.rws.len];by_cases e:i=j/\j<rows.length
 ·rw[if_pos e];exact hv
 ·rw[if_neg e] at hne⊢;exact hl j hj hne
theorem cK.far{B L:Nat}{w wr w':World}{sb ob g:Nat}{rv:Value}{rows:List (List Ft)}(h:cK B L w wr sb ob rv rows)(hg:wr.grownBy w' (some g))(hL:L<=g)(hw:w.heap.size<=g)(hs:sb<w.heap.size)(hr:∀k,rv.ownBlock=some k->k<w.heap.size):cK B L w w' sb ob rv rows:=by obtain⟨us,hs1,hl⟩:=h.sum;exact⟨⟨us,hs1.far hg hl hL (by omega) (λe=>by have:=hr g e;omega),hl⟩,h.frm.trans (ao.of_grown (S:=λk=>k=g) hg λx e=>by simpa using e.symm) λx hx e=>by omega⟩
theorem G1(B L sb ob:Nat)(p k0 k1 k2 key:Int)(sv rv:Value)(us:List Value)(rows:List (List Ft))(w:World)(hs:aW B w sb ob rv us rows)(hL:iP L us rows)(hob:aQ w ob p k0 k1 k2 sv)(hp:2<=p/\p<=101)(hn:rows.length<=1000)(hc:∀r∈rows,∀t∈r,0<=t.c/\t.c<p):Calls prog 203 #[.pointer (some ⟨sb,0,none⟩),.int .i64 key] w λe w'=>e=.returned (.int .u8 (cV key rows%p))/\cK B L w w' sb ob rv (tk key rows):=by
 have HS:=aa hs;have HOB:=aa hob;have HC:=aa hc;have HAP:=aa (hs.ob_apart hob);have hq:=sL key hp rows hc;have HBD:=aa hq;obtain⟨hp0,hp1⟩:=hp;have H0:Ic (cK B L w w sb ob rv (eZ key rows 0)):=by
  show cK _ _ _ _ _ _ _ _;have e:eZ key rows 0=rows:=by simp[eZ,tk]
  rw[e];exact⟨⟨us,hs,hL⟩,ao.refl _ _⟩
 obtain⟨q0,q1,q2⟩:=hs.cells;obtain⟨ra,rc,rfl⟩:=cq hs.rws.own;clear hs hL hob hc hq;go_enter func203,ntmps203;go_wp2;clear q0 q1 q2;go_loopw [5,13] (λs i wr=>∃m:Nat,m<=rows.length/\i=.int .i64 m/\s=.int .u32 (cV key (rows.take m))/\cK B L w wr sb ob (.slice ra rows.length rc) (eZ key rows m)) (λ_ i _=>rows.length-(intOf i).toNat);case atStart=>exact⟨0,Hl _,rfl,by simp[cV],H0.o⟩
 case round=>
  clear H0;obtain⟨m,hm,rfl,rfl,ht⟩:=hrel;have HT:=aa ht;obtain⟨us1,hs1,hl1⟩:=ht.sum;have HL1:=aa hl1;have HS1:=aa hs1;obtain⟨x0,x1,x2⟩:=hs1.cells;clear ht hs1 hl1;by_cases hm2:m<rows.length
  ·have hml:m<(eZ key rows m).length:=by rw[sM];exact hm2
   obtain⟨g,c,e,_,hlt,z1,z2⟩:=HS1.o.rws.at m hml;simp only[H7] at e;obtain⟨rfl,_,rfl⟩:=e;have hfv:=HS1.o.rws.fvs m hml;rw[sN key rows m hm2] at hfv;have HSET:=aa (zt key rows m hm2);have HSAME:=aa (GZ key rows m hm2);have HSUC:=aa (GY key rows m hm2);have hb0:=sL key ⟨hp0,hp1⟩ (rows.take m) λr hr=>HC.o r (List.mem_of_mem_take hr);have hlm:((rows.take m).length:Int)<=1000:=by rw[List.length_take];omega
   have hrow:∀t∈rows.getD m [],0<=t.c/\t.c<p:=λt ht=>by
    rcases sI rows m with h|h
    ·rw[h] at ht;simp at ht
    ·exact HC.o _ h t ht
   have hvl:=HL1.o m hml;rw[sN key rows m hm2] at hvl;generalize us1.getD m aP=u at hfv z1 hvl;generalize rows.getD m []=row at hfv HSET HSAME HSUC hrow hvl;generalize cV key (rows.take m)=acc at HSUC hb0;cases row with
   |nil=>
    obtain⟨a,cap,rfl,_,_⟩:=hfv;go_wp2;go_roundw;case rel=>exact⟨m+1,by omega,by go_num,by rw[HSUC.o];simp[hU],by rw[HSAME.o rfl];exact HT.o⟩
    case measure=>simp[intOf];omega
   |cons t ts=>
    obtain⟨b,of2,cap,rfl,hcap,hlt2,hft,h1,h2⟩:=hfv.head;obtain⟨f0,f1,f2,f3,f4,f5,f6⟩:=hft;have htc:=hrow t (by simp);have hle:(1:Int)<=(ts.length:Int)+1:=by omega
    obtain⟨A,hA,hplA⟩:=Fv.tail ⟨h1,h2⟩;have HPA:=aa hplA;have HVA:Ic (nG L (.slice (some A) ts.length (cap-1))):=λg hg=>by
     have hb2:=hvl (by simp) b rfl;simp only[Value.ownBlock,H6] at hg;have:A.block=b:=by
      by_cases hc1:cap=1
      ·rw[if_pos hc1] at hA;simp only[H6] at hA;rw[<-hA]
      ·rw[if_neg hc1] at hA;simp only[H6] at hA;rw[<-hA]
     omega
    clear hfv hrow h1 h2 hplA hvl;by_cases hk:t.k=key
    ·have w32:IntKind.u32.wrap (acc+t.c)=acc+t.c:=by rw[IntKind.wrap_u32];omega
     have w32c:IntKind.u32.wrap t.c=t.c:=by rw[IntKind.wrap_u32];omega
     go_wp2;go_region;all_goals
      have HTD:=aa (HT.o.next (Hf wr.heap.size wr).drew);have HP:=aa (HTD.o.put m hml _ ts (HPA.o.below (Hf wr.heap.size wr).drew) HVA.o);go_wp2;go_roundw;case rel=>exact⟨m+1,by omega,by go_num,by rw[HSUC.o];simp[hU,hk],by rw[<-HSET.o];simp only[dR,if_pos hk];exact HP.o⟩
      case measure=>simp[intOf];omega
    ·have HK:=aa hk;go_wp2;go_roundw;case rel=>exact⟨m+1,by omega,by go_num,by rw[HSUC.o];simp[hU,HK.o],by rw[HSAME.o (by simp[dR,HK.o])];exact HT.o⟩
     case measure=>simp[intOf];omega
  ·have e:m=rows.length:=by omega
   subst e;have HO2:=aa (HOB.o.frm HT.o.frm HAP.o);have c0:=HO2.o.c0;rw[Hz (He _)];have HB2:=HBD.o;have hm0:=Int.emod_nonneg (cV key rows) (show p≠0 by omega);have hm1:=Int.emod_lt_of_pos (cV key rows) (show 0<p by omega);have w8:IntKind.u8.wrap (cV key rows%p)=cV key rows%p:=by rw[IntKind.wrap_u8];omega
   have hfin:eZ key rows rows.length=tk key rows:=by simp[eZ]
   rw[hfin] at HT;go_wp2;go_ret;exact⟨rfl,HT.o⟩
def pB:Option Value->Nat
 |some (.slice _ k _)=>k
 |_=>0
def mq(w:World):Value->Nat
 | .slice (some ⟨b,off,_⟩) n _=>((List.range n).map λi=>pB (w.cell? ⟨b,off+i,none⟩)).sum
 |_=>0
theorem G2(rows:List (List Ft)):((List.range rows.length).map λi=>(rows.getD i []).length).sum=eY rows:=by
 unfold eY;congr 1;apply List.ext_getElem
 ·simp
 ·intro i h1 h2;simp at h1;simp[Hs,h1]
theorem dI.total{B:Nat}{w:World}{v:Value}{us:List Value}{rows:List (List Ft)}(h:dI B w v us rows):mq w v=eY rows:=by
 rcases h.own.2 with ⟨rfl,h0⟩|⟨g,cap,ai,rfl,_⟩
 ·rw[List.length_eq_zero_iff] at h0;subst h0;rfl
 ·simp only[mq];rw[<-G2 rows];congr 1;refine List.map_congr_left λi hi=>?_;rw[List.mem_range] at hi;obtain⟨g2,c2,e,_,_,hc,_⟩:=h.at i hi;simp only[H7,H6,Addr.mk.injEq,true_and,and_true] at e;obtain⟨rfl,_⟩:=e;rw[Hy,hc];obtain⟨a,c,e2,_⟩:=h.fvs i hi;rw[e2];rfl
structure sO(p:Int)(B:Nat)(w wr:World)(sb ob:Nat)(rv:Value)(rows ai:List (List Ft)):Prop where
 tk:cK B w.heap.size w wr sb ob rv ai
 res:Bx w.heap.size wr w.heap.size ⟨0,0,0,0,0,0,0⟩
 go:∀r rows2,Nx p ai r rows2->Nx p rows r rows2
 co:∀r∈ai,∀t∈r,0<t.c/\t.c<p
 dn:∀r∈ai,Dn r
 len:ai.length=rows.length
theorem sO.next{p:Int}{B:Nat}{w wr w':World}{sb ob:Nat}{rv:Value}{rows ai:List (List Ft)}(h:sO p B w wr sb ob rv rows ai)(hb:Below wr.heap.size wr w'):sO p B w w' sb ob rv rows ai:=
 ⟨h.tk.next hb,h.res.below hb,h.go,h.co,h.dn,h.len⟩
theorem cK.trans{B L L2:Nat}{w w1 w2:World}{sb ob:Nat}{rv:Value}{rows rows2:List (List Ft)}(h:cK B L2 w w1 sb ob rv rows)(k:cK B L w1 w2 sb ob rv rows2):cK B L w w2 sb ob rv rows2:=⟨k.sum,h.frm.trans k.frm λ_ _ h=>h⟩
theorem oG{B:Nat}{S:Nat->Prop}{w w':World}{g:Nat}{t:Ft}(h:Bx B w g t)(hf:ao S w w')(hn:¬S g):Bx B w' g t:=hf.own h λk e=>by simp only[Value.ownBlock,H6] at e;subst e;exact hn
theorem cK.rv_lt{B L:Nat}{w wr:World}{sb ob:Nat}{rv:Value}{rows:List (List Ft)}(h:cK B L w wr sb ob rv rows):∀g,rv.ownBlock=some g->B<=g/\g<wr.heap.size:=by obtain⟨us,hs,_⟩:=h.sum;exact Hd hs.rws.own
theorem G3(f:Nat):∀x,Lib.bitLenAux f x<=f:=by
 induction f with
 |zero=>intro x;simp[Lib.bitLenAux]
 |succ f ih=>
  intro x;simp only[Lib.bitLenAux];split
  ·omega
  ·have:=ih (x/2);omega
theorem zu(x:Nat):Lib.bitLen x<=64:=G3 64 x
theorem pC(k:Int)(f:List Ft):∀(rows:List (List Ft)) (a:Nat),a<rows.length->aw k (rows.set a f).flatten=aw k rows.flatten-aw k (rows.getD a [])+aw k f
 |[],a,h=>by simp at h
 |r::rows,0,h=>by simp only[List.set_cons_zero,List.flatten_cons,iM,List.getD_cons_zero];omega
 |r::rows,a+1,h=>by have:=pC k f rows a (by simpa using h);simp only[List.set_cons_succ,List.flatten_cons,iM,List.getD_cons_succ];omega
theorem zv(f:List Ft):∀(rows:List (List Ft)) (a:Nat),a<rows.length->eY (rows.set a f)+(rows.getD a []).length=eY rows+f.length
 |[],a,h=>by simp at h
 |r::rows,0,h=>by simp only[eY,List.set_cons_zero,List.map_cons,List.sum_cons,List.getD_cons_zero];omega
 |r::rows,a+1,h=>by have:=zv f rows a (by simpa using h);simp only[eY,List.set_cons_succ,List.map_cons,List.sum_cons,List.getD_cons_succ] at this⊢;omega
theorem aO.set{p:Int}{G:Ft->Prop}{rows:List (List Ft)}{f:List Ft}(h:aO p G rows)(hf:aO p G [f])(a:Nat):aO p G (rows.set a f):=by
 refine⟨λr hr=>?_,λr hr=>?_,λr hr=>?_⟩<;>rcases List.mem_or_eq_of_mem_set hr with hr|rfl
 ·exact h.dn r hr
 ·exact hf.dn r (by simp)
 ·exact h.co r hr
 ·exact hf.co r (by simp)
 ·exact h.gd r hr
 ·exact hf.gd r (by simp)
theorem aO.nil(p:Int)(G:Ft->Prop):aO p G [[]]:=⟨λr hr=>by simp at hr;subst hr;exact List.Pairwise.nil,λr hr t ht=>by simp at hr;subst hr;simp at ht,λr hr t ht=>by simp at hr;subst hr;simp at ht⟩
theorem aO.append{p:Int}{G:Ft->Prop}{a b:List (List Ft)}(h:aO p G a)(k:aO p G b):aO p G (a++b):=by
 refine⟨λr hr=>?_,λr hr=>?_,λr hr=>?_⟩<;>rcases Hv.1 hr with hr|hr
 ·exact h.dn r hr
 ·exact k.dn r hr
 ·exact h.co r hr
 ·exact k.co r hr
 ·exact h.gd r hr
 ·exact k.gd r hr
theorem aO.getD{p:Int}{G:Ft->Prop}{rows:List (List Ft)}(h:aO p G rows)(a:Nat):aO p G [rows.getD a []]:=by
 rcases sI rows a with e|hm
 ·rw[e];exact aO.nil p G
 ·exact⟨λr hr=>by simp at hr;subst hr;exact h.dn _ (by simpa using hm),λr hr=>by simp at hr;subst hr;exact h.co _ (by simpa using hm),λr hr=>by simp at hr;subst hr;exact h.gd _ (by simpa using hm)⟩
theorem aO.merge{p:Int}{G:Ft->Prop}(hp:2<=p)(hG:∀x t,fN x t->G t->G x){f g:List Ft}(h:aO p G [f])(k:aO p G [g]):aO p G [cw p f g]:=by
 have hm:=GD p hp f g (h.co f (by simp)) (k.co g (by simp));refine⟨λr hr=>?_,λr hr t ht=>?_,λr hr t ht=>?_⟩<;>(rw[Hw] at hr;subst hr)
 ·exact GF p f g (h.dn f (by simp)) (k.dn g (by simp))
 ·exact(hm t ht).2
 ·obtain⟨⟨u,hu,ha⟩,_⟩:=hm t ht;rcases hu with hu|hu
  ·exact hG t u ha (h.gd f (by simp) u hu)
  ·exact hG t u ha (k.gd g (by simp) u hu)
theorem Tryz.infoFv:(prog.info? 93).map (λi=>(i.zero,i.size,i.bytes))=some (some (.slice none 0 0),1,24):=by kernel_rfl
structure fE(p:Int)(G:Ft->Prop)(B:Nat)(w wr:World)(sb ob:Nat)(rv0 rv:Value)(rows0:List (List Ft))(f0:List Ft)(rows:List (List Ft))(v:Value)(f:List Ft):Prop where
 sum:∃us,aW B wr sb ob rv us rows
 frm:ao (eV sb rv0) w wr
 loc:∀k,rv.ownBlock=some k->k<w.heap.size->rv0.ownBlock=some k
 fv:Fv wr v f
 ok:aO p G rows
 okf:aO p G [f]
 cn:∀k,p∣aw k rows.flatten+aw k f-(aw k rows0.flatten+aw k f0)
theorem fE.next{p:Int}{G:Ft->Prop}{B:Nat}{w wr w':World}{sb ob:Nat}{rv0 rv:Value}{rows0 rows:List (List Ft)}{f0 f:List Ft}{v:Value}(h:fE p G B w wr sb ob rv0 rv rows0 f0 rows v f)(hb:Below wr.heap.size wr w'):fE p G B w w' sb ob rv0 rv rows0 f0 rows v f:=by obtain⟨us,hs⟩:=h.sum;exact⟨⟨us,hs.next hb⟩,h.frm.trans (ao.of_below (S:=λ_=>False) hb) (λ_ _ h=>h.elim),h.loc,h.fv.below hb,h.ok,h.okf,h.cn⟩
theorem fE.merge{p:Int}{G:Ft->Prop}{B:Nat}{w wr:World}{sb ob g n c:Nat}{rv0:Value}{rows0 rows:List (List Ft)}{f0 f:List Ft}{v v2:Value}(hp:2<=p)(hG:∀x t,fN x t->G t->G x)(h:fE p G B w wr sb ob rv0 (.slice (some ⟨g,0,none⟩) n c) rows0 f0 rows v f)(a:Nat)(ha:a<rows.length)(hv:Fv wr v2 (cw p f (rows.getD a []))):fE p G B w (wr.setCell ⟨g,a,none⟩ (.slice none 0 0)) sb ob rv0 (.slice (some ⟨g,0,none⟩) n c) rows0 f0 (rows.set a []) v2 (cw p f (rows.getD a [])):=by
 obtain⟨us,hs⟩:=h.sum;have s:=hs.put a ha (.slice none 0 0) [] (kD none 0);have hf:ao (λk=>k=g) wr (wr.setCell ⟨g,a,none⟩ (.slice none 0 0)):=ao.of_grown s.2 λx e=>by simpa using e.symm
 refine⟨⟨_,s.1⟩,h.frm.trans hf λx hx e=>?_,h.loc,ju hf (λk e=>by subst e;exact pw (hs.rws.kind _ rfl)) hv,h.ok.set (aO.nil p G) a,h.okf.merge hp hG (h.ok.getD a),λk=>?_⟩
 ·subst e;exact Or.inr (h.loc _ rfl hx)
 ·rw[pC k [] rows a ha];obtain⟨m,hm⟩:=GC p k f (rows.getD a []);obtain⟨q,hq⟩:=h.cn k;exact⟨m+q,by simp only[aw];rw[Int.mul_add];omega⟩
theorem fE.grow{p:Int}{G:Ft->Prop}{B:Nat}{w wr w2:World}{sb ob:Nat}{rv0 rv v2:Value}{us:List Value}{rows0 rows:List (List Ft)}{f0 f:List Ft}{v:Value}(h:fE p G B w wr sb ob rv0 rv rows0 f0 rows v f)(hs:aW B wr sb ob rv us rows)(h2:w2.ownsRow B 93 1 v2 (rows.length+1) (us++[.slice none 0 0]))(g2:wr.grownBy w2 rv.ownBlock)(k2:∀g,v2.ownBlock=some g->di w2 g)(l2:v2.ownBlock=rv.ownBlock\/v2.ownBlock=some wr.heap.size):fE p G B w (w2.setCell ⟨sb,1,none⟩ v2) sb ob rv0 v2 rows0 f0 (rows++[[]]) v f:=by
 have hg:=hs.grow (kD none 0) h2 g2 k2;have hf:ao (eV sb rv) wr (w2.setCell ⟨sb,1,none⟩ v2):=by have hb2:=World.ownsRow.kept hs.box g2 (Or.inr (by simpa [Value.ownBlock] using λe=>hs.apart e.symm));have s:=Hq hb2 1 v2;exact(ao.of_grown (S:=eV sb rv) g2 λx e=>Or.inr e).trans (ao.of_grown (S:=λk=>k=sb) s.2 λx e=>by simpa using e.symm) λx _ e=>Or.inl e
 refine⟨⟨_,hg⟩,h.frm.trans hf λx hx e=>?_,λk hk hlt=>?_,ju hf (λk e=>?_) h.fv,h.ok.append (aO.nil p G),h.okf,λk=>?_⟩
 ·rcases e with e|e
  ·exact Or.inl e
  ·exact Or.inr (h.loc x e hx)
 ·rcases l2 with l2|l2
  ·exact h.loc k (by rw[<-l2];exact hk) hlt
  ·rw[l2] at hk;simp only[H6] at hk;have:=h.frm.size;omega
 ·rcases e with e|e
  ·subst e;exact hs.kind
  ·exact pw (hs.rws.kind k e)
 ·have:=h.cn k;rw[List.flatten_append,iM];simpa [aw] using this
theorem zw{ops:Array Oper}{rest:List Oper}{w:World}{o:Oper}{a:Act}{Q:Exit->Act->World->Prop}(hgd:o.guard=none)(s x:Operand)(t:TypeId)(ho:o.op=.call {callee:=.builtin .append,args:=#[s,x],argTypes:=#[t,t]})(ht:prog.underlying t=some (.slice 93))(B:Nat)(v:Value)(us:List Value)(rows:List (List Ft))(hs:a.eval s=v)(h:dI B w v us rows)(ad:Addr)(c:Nat)(hx:a.eval x=.slice (some ad) 1 c)(hnew:∀j y,[Value.slice none 0 0][j]?=some y->w.cell? (ad.add j)=some y)(hn:rows.length<=1000)(hB:B<=w.heap.size)(hK:∀v' w',w'.ownsRow B 93 1 v' (rows.length+1) (us++[.slice none 0 0])->w.grownBy w' v.ownBlock->(∀g,v'.ownBlock=some g->di w' g)->(v'.ownBlock=v.ownBlock\/v'.ownBlock=some w.heap.size)->wpList prog ops Q rest (a.put o.dst v') w'):wpList prog ops Q (o::rest) a w:=by refine wpList_plain hgd λK hK'=>?_;obtain⟨i0,hi,hz0,hz1,hz2⟩:=info_parts Tryz.infoFv;obtain⟨v',w',hr,h2,h3,h4,h5⟩:=qU (P:=prog) w (λu=>∃a n c,u=.slice a n c) B t o.type 93 i0 _ 1 24 ht hi hz0 hz1 hz2 rfl (by decide) (λu hu=>by simp[Value.cells] at hu;exact⟨_,_,_,hu⟩) v rows.length us h.own h.kind ad 1 c [.slice none 0 0] (by decide) rfl hnew (λu hu=>by rw[Hw] at hu;subst hu;rfl) (λu hu=>by rw[Hw] at hu;exact⟨_,_,_,hu⟩) (by unfold maxLen;omega) (by omega) hB;unfold Oper.wp execOp;simp only[ho,resolve,invoke,builtin,Sem.run_bind,Sem.run_pure,Result.andThen_ok,List.map_toArray,List.map_cons,List.map_nil,hs,hx,hr];exact hK' _ _ (hK v' w' h2 h3 h4 h5)
def hZ(w:World)(sb:Nat):Nat:=pB (w.cell? ⟨sb,1,none⟩)
theorem mV(B sb ob:Nat)(p k0 k1 k2:Int)(G:Ft->Prop)(sv rv vv:Value)(us:List Value)(rows:List (List Ft))(fs:List Ft)(w:World)(hs:aW B w sb ob rv us rows)(hB:B<=w.heap.size)(hob:aQ w ob p k0 k1 k2 sv)(hosb:ob≠sb)(hp:2<=p/\p<=101)(hn:rows.length<=65)(hf:Fv w vv fs)(hr:aO p G rows)(hrf:aO p G [fs])(hG:∀x t,fN x t->G t->G x)(hM:∀r,Dn r->(∀t∈r,G t)->r.length<=100000000000):Calls prog 166 #[.pointer (some ⟨sb,0,none⟩),vv] w λe w'=>e=.returned (.tuple #[])/\∃rv' us' rows',aW B w' sb ob rv' us' rows'/\aO p G rows'/\rows'.length<=65/\(∀k,p∣aw k rows'.flatten-(aw k rows.flatten+aw k fs))/\ao (eV sb rv) w w'/\(∀k,rv'.ownBlock=some k->k<w.heap.size->rv.ownBlock=some k):=by
 have HOB:=aa hob;have HG:=aa hG;have HM:=aa hM;have HSBL:=aa hs.lt;have HAO:=aa (hs.ob_apart hob);have H0:Ic (fE p G B w w sb ob rv rv rows fs rows vv fs):=⟨⟨us,hs⟩,ao.refl _ _,λ_ h _=>h,hf,hr,hrf,λk=>⟨0,by omega⟩⟩;obtain⟨va,vc,rfl,_,_⟩:=hf;have hfl:=HM.o fs (hrf.dn fs (by simp)) (hrf.gd fs (by simp));have w64:IntKind.u64.wrap (fs.length:Int)=fs.length:=by rw[IntKind.wrap_u64];omega
 have HBL:=aa (Tryz.bits_Len (fs.length:Int) w (by omega) (by omega));have hb64:=zu ((fs.length:Int)).toNat;obtain⟨a0,ha0⟩:∃a0,Lib.bitLen ((fs.length:Int)).toNat=a0:=⟨_,rfl⟩;rw[ha0] at HBL hb64;clear hs hob hG hM hr hrf ha0;go_enter func166,ntmps166;go_wp2_with (go_at_call 107;refine HBL.o.mono ?_;rintro e w9 ⟨rfl,h9⟩;have h9b:=h9.symm;clear h9;subst h9b);go_loopw [1,4] (λv i wr=>∃(v1:Value)(a:Nat) (rows1:List (List Ft)) (f1:List Ft),v1=v/\a<=64/\i=.int .i64 a/\rows1.length=rows.length/\fE p G B w wr sb ob rv rv rows fs rows1 v1 f1) (λ_ _ wr=>mq wr rv);case atStart=>exact⟨_,a0,rows,fs,rfl,hb64,rfl,rfl,H0.o⟩
 case round=>
  clear H0 HBL;obtain⟨v1,a,rows1,f1,hv1,ha,rfl,hl1,hw⟩:=hrel;subst hv1;obtain⟨fa1,fc1,hfv1,_,_⟩:=hw.fv;subst hfv1;have HW:=aa hw;obtain⟨us1,hs1⟩:=hw.sum;have HS1:=aa hs1;obtain⟨x0,x1,x2⟩:=hs1.cells;obtain⟨ra,rc,hrv⟩:=cq hs1.rws.own;subst hrv;have HTOT:=aa hs1.rws.total;clear hw hs1;by_cases hal:a<rows1.length
  ·obtain⟨g,c,e,_,hlt,z1,z2⟩:=HS1.o.rws.at a hal;simp only[H7] at e;obtain⟨rfl,_,rfl⟩:=e;have hfv:=HS1.o.rws.fvs a hal;generalize hu:us1.getD a aP=u at hfv z1;cases hrow:rows1.getD a [] with
   |nil=>
    rw[hrow] at hfv;obtain⟨ua,ucap,rfl,_,_⟩:=hfv;have HROW:=aa hrow;clear hrow hu;go_wp2_with fail;go_loopw [] (λwr2=>∃(rv2:Value) (rows2:List (List Ft)),rows2.length<=65/\(a<rows2.length->rows2.getD a []=[])/\fE p G B w wr2 sb ob (.slice (some ⟨g,0,none⟩) rows1.length rc) rv2 rows fs rows2 (.slice fa1 f1.length fc1) f1) (λwr2=>66-hZ wr2 sb);case atStart=>exact⟨_,rows1,by omega,λ_=>HROW.o,HW.o⟩
    case round=>
     clear HW HS1 HTOT;obtain⟨rv2,rows2,hl2,hem,hw2⟩:=hrel;have HW2:=aa hw2;obtain⟨us2,hs2⟩:=hw2.sum;have HS2:=aa hs2;obtain⟨y0,y1,y2⟩:=hs2.cells;obtain⟨ra2,rc2,hrv2⟩:=cq hs2.rws.own;subst hrv2;have hlen1:hZ wr sb=rows2.length:=by unfold hZ;rw[y1];rfl
     clear hw2 hs2;by_cases h2:rows2.length<=a
     ·have HWA:=aa (HW2.o.next (af (A:=.cells #[.slice none 0 0] 93)));have HSA:=aa (HS2.o.next (af (A:=.cells #[.slice none 0 0] 93)));have hBa:B<=(wr.alloc (.cells #[.slice none 0 0] 93)).heap.size:=by have:=HWA.o.frm.size;omega
      have STEP:Ic (∀v' w',w'.ownsRow B 93 1 v' (rows2.length+1) (us2++[.slice none 0 0])->(wr.alloc (.cells #[.slice none 0 0] 93)).grownBy w' (Value.slice ra2 rows2.length rc2).ownBlock->(∀g,v'.ownBlock=some g->di w' g)->(v'.ownBlock=(Value.slice ra2 rows2.length rc2).ownBlock\/v'.ownBlock=some (wr.alloc (.cells #[.slice none 0 0] 93)).heap.size)->(∃x,w'.cell? ⟨sb,1,none⟩=some x)/\w'.frozen? ⟨sb,1,none⟩=false/\fE p G B w (w'.setCell ⟨sb,1,none⟩ v') sb ob (.slice (some ⟨g,0,none⟩) rows1.length rc) v' rows fs (rows2++[[]]) (.slice fa1 f1.length fc1) f1/\(w'.setCell ⟨sb,1,none⟩ v').cell? ⟨sb,1,none⟩=some v'/\pB (some v')=rows2.length+1):=λv' w' q2 q3 q4 q5=>by have hb2:=World.ownsRow.kept HSA.o.box q3 (Or.inr (by simpa [Value.ownBlock] using λe=>HSA.o.apart e.symm));have hc2:=Hc hb2 1 (by omega);obtain⟨a3,c3,e3⟩:=cq q2;exact⟨⟨_,hc2⟩,Hb hb2 1,HWA.o.grow HSA.o q2 q3 q4 q5,World.cell?_setCell_same _ _ _ hc2,by rw[e3];rfl⟩
      go_wp2_with (at_builtin;refine zw rfl (.tmp 63) (.tmp 64) 171 rfl underlying171 B _ us2 rows2 rfl HSA.o.rws ⟨wr.heap.size,0,none⟩ 1 rfl (ns _ _ _) (by omega) hBa ?_;intro v' w' q2 q3 q4 q5;obtain⟨a3,c3,e3⟩:=cq q2;subst e3;have S5:=aa (STEP.o _ w' q2 q3 q4 q5);clear q2 q3 q4 q5;obtain⟨x5,d5⟩:=S5.o.1;have d6:=S5.o.2.1);go_roundw;case rel=>
       refine⟨_,rows2++[[]],by rw[Hx];simp;omega,λh=>?_,S5.o.2.2.1⟩;rw[Hx] at h;simp only[List.length_cons,List.length_nil] at h;have e:a=rows2.length:=by omega
       subst e;simp[Hs]
      case measure=>have h7:=S5.o.2.2.2;show 66-hZ _ sb<66-hZ wr sb;unfold hZ at hlen1⊢;rw[h7.1,h7.2,hlen1];omega
     ·have ha2:a<rows2.length:=by omega
      have HEM:=aa (hem ha2);obtain⟨g2,c2,e2,_,hlt2,m1,m2⟩:=HS2.o.rws.at a ha2;simp only[H7] at e2;obtain⟨rfl,_,rfl⟩:=e2;have HPUT:=aa (HS2.o.put a ha2 (.slice fa1 f1.length fc1) f1 HW2.o.fv);go_wp2;go_end0;refine⟨rfl,_,_,rows2.set a f1,HPUT.o.1,HW2.o.ok.set HW2.o.okf a,by rw[List.length_set];exact hl2,λk=>?_,HW2.o.frm.trans (ao.of_grown (S:=λk=>k=g2) HPUT.o.2 λx e=>by simpa using e.symm) λx hx e=>?_,HW2.o.loc⟩
      ·rw[pC k f1 rows2 a ha2,HEM.o];have:=HW2.o.cn k;simpa [aw] using this
      ·subst e;exact Or.inr (HW2.o.loc _ rfl hx)
   |cons t ts=>
    have HROW:=aa hrow;have HFU:=aa hfv;rw[hrow] at hfv;obtain⟨ub,uof,ucap,rfl,_⟩:=hfv.head;have HOW:=aa (HOB.o.frm HW.o.frm (λe=>by rcases e with e|e;exact hosb e;exact HAO.o e));have hf1l:=HM.o f1 (HW.o.okf.dn f1 (by simp)) (HW.o.okf.gd f1 (by simp));have HR2:=aa (HW.o.ok.getD a);have hr1l:=HM.o (rows1.getD a []) (HR2.o.dn _ (Hw.2 rfl)) (HR2.o.gd _ (Hw.2 rfl));have hmrl:=HM.o (cw p f1 (rows1.getD a [])) ((HW.o.okf.merge hp.1 HG.o HR2.o).dn _ (Hw.2 rfl)) ((HW.o.okf.merge hp.1 HG.o HR2.o).gd _ (Hw.2 rfl));clear hrow hu hfv;have HMG:Ic (∀W,Below wr.heap.size wr W->Calls prog 204 #[.pointer (some ⟨ob,0,none⟩),.slice fa1 f1.length fc1,.slice (some ⟨ub,uof,none⟩) (ts.length+1) ucap] W λe w'=>∃u,e=.returned u/\Fv w' u (cw p f1 (rows1.getD a []))/\Below W.heap.size W w'):=λW hb=>Gm ob p k0 k1 k2 sv _ _ f1 (rows1.getD a []) W (HOW.o.below hb) hp (λt ht=>by have:=HW.o.okf.co f1 (by simp) t ht;omega) (λt ht=>by have:=HR2.o.co _ (Hw.2 rfl) t ht;omega) (by omega) (HW.o.fv.below hb) (HFU.o.below hb)
    have KEEP:Ic (∀W,Below wr.heap.size wr W->(Ic (Below wr.heap.size wr W)/\W.cell? ⟨sb,0,none⟩=some (.pointer (some ⟨ob,0,none⟩))/\W.cell? ⟨sb,1,none⟩=some (.slice (some ⟨g,0,none⟩) rows1.length rc)/\W.cell? ⟨g,a,none⟩=some (.slice (some ⟨ub,uof,none⟩) (ts.length+1) ucap))):=λW hb=>⟨hb,ae x0 hb,ae x1 hb,ae z1 hb⟩;have HB0:Ic (Below wr.heap.size wr wr.drew):=(Hf _ _).drew;go_wp2_with fail;go_region_held (λW=>Ic (Below wr.heap.size wr W)/\W.cell? ⟨sb,0,none⟩=some (.pointer (some ⟨ob,0,none⟩))/\W.cell? ⟨sb,1,none⟩=some (.slice (some ⟨g,0,none⟩) rows1.length rc)/\W.cell? ⟨g,a,none⟩=some (.slice (some ⟨ub,uof,none⟩) (ts.length+1) ucap))
     (first|exact KEEP.o _ HB0.o|exact KEEP.o _ (HB0.o.trans (HB9.o.mono HB0.o.size)))
     (first|(go_at_call 204;refine(HMG.o _ HB0.o).mono ?_;rintro e w9 ⟨u9,rfl,hf9,hb9⟩;have HF9:=aa hf9;have HB9:=aa hb9;clear hf9 hb9))
    have HBT:=aa (HB0.o.trans (HB9.o.mono HB0.o.size));obtain⟨_,d0,d1,d2⟩:=KEEP.o _ HBT.o;have HS9:=aa (HS1.o.next HBT.o);have d3:w9.frozen? ⟨g,a,none⟩=false:=Hb HS9.o.rws.own a;obtain⟨ua9,uc9,hu9,_,_⟩:=HF9.o;subst hu9;have HAD:=aa (fE.merge hp.1 HG.o (HW.o.next HBT.o) a hal HF9.o);have htot:=zv [] rows1 a hal;rw[HROW.o] at htot;simp only[List.length_cons,List.length_nil] at htot;have HTT:=aa htot;clear htot;generalize cw p f1 (rows1.getD a [])=mg at HF9 HAD hmrl;have w64b:IntKind.u64.wrap (mg.length:Int)=mg.length:=by rw[IntKind.wrap_u64];omega
    have hb65:=zu ((mg.length:Int)).toNat;have HBL2:Ic (∀W,Calls prog 107 #[.int .u64 (mg.length:Int)] W λe w'=>e=.returned (.int .i64 (Lib.bitLen ((mg.length:Int)).toNat))/\w'=W):=λW=>Tryz.bits_Len (mg.length:Int) W (by omega) (by omega);obtain⟨a9,ha9⟩:∃a9,Lib.bitLen ((mg.length:Int)).toNat=a9:=⟨_,rfl⟩;rw[ha9] at HBL2 hb65;clear ha9;go_wp2_with (go_at_call 107;refine(HBL2.o _).mono ?_;rintro e w8 ⟨rfl,h8⟩;have h8b:=h8.symm;clear h8;subst h8b);go_roundw;case rel=>exact⟨_,max a a9,rows1.set a [],mg,rfl,by omega,by rw[show ((max a a9:Nat):Int)=max (a:Int) a9 by omega],by rw[List.length_set];exact hl1,HAD.o⟩
    case measure=>obtain⟨us7,hs7⟩:=HAD.o.sum;have h7:=hs7.rws.total;have h8:=HTOT.o;have h9:=HTT.o;omega
  ·go_wp2_with fail;go_loopw [] (λwr2=>∃(rv2:Value) (rows2:List (List Ft)),rows2.length<=65/\(a<rows2.length->rows2.getD a []=[])/\fE p G B w wr2 sb ob (.slice ra rows1.length rc) rv2 rows fs rows2 (.slice fa1 f1.length fc1) f1) (λwr2=>66-hZ wr2 sb);case atStart=>exact⟨_,rows1,by omega,λh=>absurd h hal,HW.o⟩
   case round=>
    clear HW HS1 HTOT;obtain⟨rv2,rows2,hl2,hem,hw2⟩:=hrel;have HW2:=aa hw2;obtain⟨us2,hs2⟩:=hw2.sum;have HS2:=aa hs2;obtain⟨y0,y1,y2⟩:=hs2.cells;obtain⟨ra2,rc2,hrv2⟩:=cq hs2.rws.own;subst hrv2;have hlen1:hZ wr sb=rows2.length:=by unfold hZ;rw[y1];rfl
    clear hw2 hs2;by_cases h2:rows2.length<=a
    ·have HWA:=aa (HW2.o.next (af (A:=.cells #[.slice none 0 0] 93)));have HSA:=aa (HS2.o.next (af (A:=.cells #[.slice none 0 0] 93)));have hBa:B<=(wr.alloc (.cells #[.slice none 0 0] 93)).heap.size:=by have:=HWA.o.frm.size;omega
     have STEP:Ic (∀v' w',w'.ownsRow B 93 1 v' (rows2.length+1) (us2++[.slice none 0 0])->(wr.alloc (.cells #[.slice none 0 0] 93)).grownBy w' (Value.slice ra2 rows2.length rc2).ownBlock->(∀g,v'.ownBlock=some g->di w' g)->(v'.ownBlock=(Value.slice ra2 rows2.length rc2).ownBlock\/v'.ownBlock=some (wr.alloc (.cells #[.slice none 0 0] 93)).heap.size)->(∃x,w'.cell? ⟨sb,1,none⟩=some x)/\w'.frozen? ⟨sb,1,none⟩=false/\fE p G B w (w'.setCell ⟨sb,1,none⟩ v') sb ob (.slice ra rows1.length rc) v' rows fs (rows2++[[]]) (.slice fa1 f1.length fc1) f1/\(w'.setCell ⟨sb,1,none⟩ v').cell? ⟨sb,1,none⟩=some v'/\pB (some v')=rows2.length+1):=λv' w' q2 q3 q4 q5=>by have hb2:=World.ownsRow.kept HSA.o.box q3 (Or.inr (by simpa [Value.ownBlock] using λe=>HSA.o.apart e.symm));have hc2:=Hc hb2 1 (by omega);obtain⟨a3,c3,e3⟩:=cq q2;exact⟨⟨_,hc2⟩,Hb hb2 1,HWA.o.grow HSA.o q2 q3 q4 q5,World.cell?_setCell_same _ _ _ hc2,by rw[e3];rfl⟩
     go_wp2_with (at_builtin;refine zw rfl (.tmp 63) (.tmp 64) 171 rfl underlying171 B _ us2 rows2 rfl HSA.o.rws ⟨wr.heap.size,0,none⟩ 1 rfl (ns _ _ _) (by omega) hBa ?_;intro v' w' q2 q3 q4 q5;obtain⟨a3,c3,e3⟩:=cq q2;subst e3;have S5:=aa (STEP.o _ w' q2 q3 q4 q5);clear q2 q3 q4 q5;obtain⟨x5,d5⟩:=S5.o.1;have d6:=S5.o.2.1);go_roundw;case rel=>
      refine⟨_,rows2++[[]],by rw[Hx];simp;omega,λh=>?_,S5.o.2.2.1⟩;rw[Hx] at h;simp only[List.length_cons,List.length_nil] at h;have e:a=rows2.length:=by omega
      subst e;simp[Hs]
     case measure=>have h7:=S5.o.2.2.2;show 66-hZ _ sb<66-hZ wr sb;unfold hZ at hlen1⊢;rw[h7.1,h7.2,hlen1];omega
    ·have ha2:a<rows2.length:=by omega
     have HEM:=aa (hem ha2);obtain⟨g2,c2,e2,_,hlt2,m1,m2⟩:=HS2.o.rws.at a ha2;simp only[H7] at e2;obtain⟨rfl,_,rfl⟩:=e2;have HPUT:=aa (HS2.o.put a ha2 (.slice fa1 f1.length fc1) f1 HW2.o.fv);go_wp2;go_end0;refine⟨rfl,_,_,rows2.set a f1,HPUT.o.1,HW2.o.ok.set HW2.o.okf a,by rw[List.length_set];exact hl2,λk=>?_,HW2.o.frm.trans (ao.of_grown (S:=λk=>k=g2) HPUT.o.2 λx e=>by simpa using e.symm) λx hx e=>?_,HW2.o.loc⟩
     ·rw[pC k f1 rows2 a ha2,HEM.o];have:=HW2.o.cn k;simpa [aw] using this
     ·subst e;exact Or.inr (HW2.o.loc _ rfl hx)
structure dp(p:Int)(G:Ft->Prop)(B:Nat)(w:World)(sb ob:Nat)(rv:Value)(us:List Value)(rows:List (List Ft))(C:Int->Int):Prop where
 sum:aW B w sb ob rv us rows
 ok:aO p G rows
 len:rows.length<=65
 cn:∀k,p∣aw k rows.flatten-C k
theorem qV(w:World)(ob:Nat)(B:Nat)(hB:B<=w.heap.size):aW B (w.alloc (.cells #[.pointer (some ⟨ob,0,none⟩),.slice none 0 0] 208)) w.heap.size ob (.slice none 0 0) [] []:=
 ⟨⟨by simp,.inr ⟨w.heap.size,1,_,rfl,hB,heap_alloc_new w _,He _,by decide,by simp,by simp⟩⟩,ox (λu hu x e=>by simp at hu;rcases hu with rfl|rfl<;>cases e),dI.nil _ _⟩
theorem ut(ob vb voff vc:Nat)(p k0 k1 k2:Int)(G:Ft->Prop)(sv vv:Value)(fs:List Ft)(w:World)(hob:aQ w ob p k0 k1 k2 sv)(hp:2<=p/\p<=101)(hv:w.cell? ⟨vb,voff,none⟩=some vv)(hf:Fv w vv fs)(hrf:aO p G [fs])(hG:∀x t,fN x t->G t->G x)(hM:∀r,Dn r->(∀t∈r,G t)->r.length<=100000000000):Calls prog 116 #[.pointer (some ⟨ob,0,none⟩),.slice (some ⟨vb,voff,none⟩) 1 vc] w λe w'=>e=.returned (.pointer (some ⟨w.heap.size,0,none⟩))/\∃rv us rows,dp p G w.heap.size w' w.heap.size ob rv us rows (λk=>aw k fs)/\Below w.heap.size w w':=by
 have HOB:=aa hob;have HF:=aa hf;have HV:=aa hv;have hobl:=hob.lt;obtain⟨va,vcc,rfl,_,_⟩:=hf;obtain⟨w1,hw1⟩:∃w1,w1=w.alloc (.cells #[.pointer (some ⟨ob,0,none⟩),.slice none 0 0] 208):=⟨_,rfl⟩;have HB1:Ic (Below w.heap.size w w1):=by rw[hw1];exact af
 have HS1:Ic (aW w.heap.size w1 w.heap.size ob (.slice none 0 0) [] []):=by rw[hw1];exact qV w ob _ (He _)
 have HAD:=aa (mV w.heap.size w.heap.size ob p k0 k1 k2 G sv (.slice none 0 0) _ [] [] fs w1 HS1.o (by have:=HB1.o.size;omega) (HOB.o.below HB1.o) (by omega) hp (by simp) (HF.o.below HB1.o) ⟨λr hr=>by simp at hr,λr hr=>by simp at hr,λr hr=>by simp at hr⟩ hrf hG hM);have c1:=ae HV.o HB1.o;clear hob hv hrf hG hM;go_enter func116,ntmps116;go_wp2_with fail;rw[<-hw1];clear hw1;go_loopw [13] (λi wr=>(i=.int .i64 0/\wr=w1)\/(i=.int .i64 1/\∃rv us rows,dp p G w.heap.size wr w.heap.size ob rv us rows (λk=>aw k fs)/\Below w.heap.size w wr)) (λi _=>1-(intOf i).toNat);case atStart=>exact Or.inl ⟨rfl,rfl⟩
 case round=>
  rcases hrel with ⟨rfl,rfl⟩|⟨rfl,rv,us,rows,hsm,hb⟩
  ·go_wp2_with (go_at_call 166;refine HAD.o.mono ?_;rintro e w9 ⟨rfl,rv9,us9,rows9,q1,q2,q3,q4,q5,q6⟩;have H9:Ic (dp p G w.heap.size w9 w.heap.size ob rv9 us9 rows9 (λk=>aw k fs)/\Below w.heap.size w w9):=⟨⟨q1,q2,q3,λk=>by have:=q4 k;simpa [aw] using this⟩,HB1.o.trans (q5.to_below HB1.o.size (λx hx=>by rcases hx with hx|hx;exact Nat.le_of_eq hx.symm;simp[Value.ownBlock] at hx))⟩;clear q1 q2 q3 q4 q5 q6);go_roundw;case rel=>exact Or.inr ⟨by go_num,rv9,us9,rows9,H9.o.1,H9.o.2⟩
   case measure=>simp[intOf]
  ·have HSM:=aa (Hg hsm hb);clear hsm hb;go_wp2;go_ret;exact⟨rfl,rv,us,rows,HSM.o.1,HSM.o.2⟩
end Go.Proofs.YtglijodcbdcngaaGreat
