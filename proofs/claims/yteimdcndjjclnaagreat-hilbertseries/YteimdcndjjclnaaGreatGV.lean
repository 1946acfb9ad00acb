/- Vectors are put into a making, from the least degree on. -/
import Derived.Test.YteimdcndjjclnaaGreatGP
import Derived.Test.YteimdcndjjclnaaGreatMH
set_option maxHeartbeats 4000000
set_option maxRecDepth 100000
namespace Go.Proofs.YteimdcndjjclnaaGreat
set_option linter.all false
open Go.Proofs.Tryz Go.RowKit Go.Sort
theorem EZ{B:Nat}{w:World}{v:Value}{us:List Value}{rows:List (List Ft)}(h:cF B w v us rows):∃zs:List aU,us=zs.map bW/\zs.length=rows.length:=by
 have:∀(us:List Value),(∀u∈us,∃x:aU,u=bW x)->∃zs:List aU,us=zs.map bW:=by
  intro us;induction us with
  |nil=>intro _;exact⟨[],rfl⟩
  |cons u us ih=>intro hu;obtain⟨x,hx⟩:=hu u (by simp);obtain⟨zs,hz⟩:=ih λy hy=>hu y (by simp[hy]);exact⟨x::zs,by rw[hx,hz];rfl⟩
 obtain⟨zs,hz⟩:=this us λu hu=>by obtain⟨i,hi,e⟩:=L8.1 hu;have hf:=h.fvs i (by rw[<-h.len];exact hi);rw[Lr,Ls hi] at hf;obtain⟨a,c,e2,_⟩:=hf;exact⟨(a,_,c),by rw[<-e];exact e2⟩
 exact⟨zs,hz,by rw[<-h.len,hz,LD]⟩
def dV(zs:List aU)(fls:List (List Ft))(x:aU):List Ft:=fls.getD (zs.idxOf x) []
theorem tv{B:Nat}{w:World}{v:Value}{zs:List aU}{fls:List (List Ft)}(h:cF B w v (zs.map bW) fls)(x:aU)(hx:x∈zs):Fv w (bW x) (dV zs fls x)/\dV zs fls x∈fls:=by
 have hi:zs.idxOf x<zs.length:=List.idxOf_lt_length_of_mem hx;have hl:zs.length=fls.length:=by rw[<-h.len,LD]
 have hf:=h.fvs (zs.idxOf x) (by omega);rw[Lr,List.getElem?_map,Ls hi,List.getElem_idxOf] at hf;refine⟨hf,?_⟩;unfold dV;exact ik fls _ (by omega)
theorem E0{B:Nat}{w:World}{v:Value}{zs:List aU}{fls:List (List Ft)}(h:cF B w v (zs.map bW) fls):zs.map (dV zs fls)=fls:=by
 have hl:zs.length=fls.length:=by rw[<-h.len,LD]
 apply List.ext_getElem
 .rw[LD];exact hl
 .intro i h1 h2;rw[List.getElem_map];have hi:i<zs.length:=by omega
  have f1:=(tv h zs[i] (Lo hi)).1;have f2:=h.fvs i h2;rw[Lr,List.getElem?_map,Ls hi,Lr,Ls h2] at f2;exact ES f1 f2
theorem cG.base{B B':Nat}{w:World}{v:Value}{zs:List aU}(h:cG B w v zs)(hb:B'<=B):cG B' w v zs:=by
 refine⟨⟨h.own.1,?_⟩,h.kind⟩;rcases h.own.2 with hn|⟨g,cap,af,hv,hbg,rest⟩
 .exact .inl hn
 .exact .inr ⟨g,cap,af,hv,Lk hb hbg,rest⟩
def i9(dg:Nat->Int)(zs:List aU)(fls:List (List Ft))(x:aU):Int:=bK dg ((dV zs fls x).headD ke)
theorem yH{p:Int}{dg:Nat->Int}{N R:Nat}{D:Int}{t:Ft}{ts:List Ft}(h:cP p dg N R D (t::ts)):bK dg t=D:=by have g:=h.gd t (by simp);have h1:=g.deg;have h2:=g.z;unfold bK;omega
theorem E3{p:Int}{dg:Nat->Int}{N R:Nat}(hx:aP p dg N R)(w0 w:World)(mb ob g B:Nat)(dv sv lv:Value)(us:List Value)(fls:List (List Ft))(h:iG p dg N R w0 w mb ob g dv [] [] [] (λ_ _=>False) 0)(hob:bk w0 ob p (az 1 N N 0) (az 1 N N 1) (az 1 N N 2) sv)(hdg:gR w0 dv R dg)(hl:cF B w lv us fls)(hty:∀u∈us,eP w u)(hne:∀f∈fls,f≠[])(hv:∀f∈fls,∃D,0<=D/\D<=9/\cP p dg N R D f)(hn:fls.length<=4):Calls prog 55 #[.pointer (some ⟨mb,0,none⟩),lv] w λe w'=>∃v vs ms qs E T,e=.returned v/\vs.Perm fls/\iG p dg N R w0 w' mb ob g dv vs ms qs E T:=by
 obtain⟨zs,rfl,hzl⟩:=EZ hl;obtain⟨la,lc,hlv⟩:=cw hl.own;subst hlv;obtain⟨i0,hi0,hz0,hz1,hz2⟩:=info_parts Tryz.infoFvL;have HI:=ac (Lg hi0 (Lg hz0 (Lg hz1 hz2)));clear hi0 hz0 hz1 hz2;obtain⟨w2,hw2⟩:∃w2,w2=(w.alloc (.cells #[.pointer (some ⟨mb,0,none⟩)] 85)).alloc (.cells #[.slice la fls.length lc] 87):=⟨_,rfl⟩;have hb2:Below w.heap.size w w2:=by rw[hw2];exact aj.trans (aj.mono (by simp))
 have hs2:w2.heap.size=w.heap.size+2:=by rw[hw2];simp
 have hF:∀x∈zs,(Fv w (bW x) (dV zs fls x)/\eP w (bW x))/\dV zs fls x∈fls:=λx hxz=>⟨⟨(tv hl x hxz).1,hty _ (List.mem_map_of_mem hxz)⟩,(tv hl x hxz).2⟩;have hD:∀x∈zs,∃t ts,dV zs fls x=t::ts/\i9 dg zs fls x=bK dg t/\cP p dg N R (i9 dg zs fls x) (t::ts)/\0<=i9 dg zs fls x/\i9 dg zs fls x<=9:=λx hxz=>by
  have hm:=(hF x hxz).2;obtain⟨D,d0,d9,hvc⟩:=hv _ hm;have hnn:=hne _ hm;cases hvx:dV zs fls x with
  |nil=>exact absurd hvx hnn
  |cons t ts=>
   rw[hvx] at hvc;have e1:=yH hvc;have e2:i9 dg zs fls x=bK dg t:=by unfold i9;rw[hvx];rfl
   exact⟨t,ts,rfl,e2,by rw[e2,e1];exact hvc,by omega,by omega⟩
 have cb0:w2.cell? ⟨w.heap.size,0,none⟩=some (.pointer (some ⟨mb,0,none⟩)):=by rw[hw2];simp[go_sem]
 have cbt:¬b8 w2 85 w.heap.size:=λhn=>hn _ (by rw[hw2];exact(Below.heap_alloc _ _ _ (by simp)).trans (heap_alloc_new w _));have cs0:w2.cell? ⟨w.heap.size+1,0,none⟩=some (.slice la fls.length lc):=by rw[hw2];simp[go_sem]
 have hSls:j9 w2.heap.size w2 (.slice la fls.length lc) zs:=by
  rcases hl.own.2 with ⟨h1,h2⟩|⟨gg,cap,af,h1,_,hh,_⟩
  .exact .inl ⟨h1,List.eq_nil_of_length_eq_zero (by omega)⟩
  .refine .inr ⟨gg,cap,by rw[hzl];exact h1,?_,λj x hj=>?_⟩
   .have:=(LS.1 hh).1;omega
   .have ho:=hl.own;rw[h1] at ho;have hjl:j<zs.length:=(List.getElem?_eq_some_iff.1 hj).1;have hc:=La ho j (by omega);rw[List.getElem?_map,hj] at hc;exact ae hc hb2
 obtain⟨dgz,hdgz⟩:∃dgz,dgz=i9 dg zs fls:=⟨_,rfl⟩;have mk1:w.cell? ⟨mb,1,none⟩=some dv:=by obtain⟨pv,us,hm⟩:=h.mkw;exact hm.cells.2.1
 have hdB:∀pl,pl<R->0<=dg pl/\dg pl<=100000:=λpl hpl=>by have:=hx.dg pl hpl;omega
 have dxb:∀{D:Int}{t:Ft}{ts:List Ft},D<=9->cP p dg N R D (t::ts)->qf R t:=fun {D t ts} hD hvc=>by have gt:=hvc.gd t (by simp);have ft:=gt.fok hx (by omega) (p:=p) (by have:=hvc.co t (by simp);omega);exact⟨ft.a,ft.b,ft.d,ft.z,⟨gt.pl0,gt.pl⟩⟩
 have hR:=hx.r;have HCM:Ma (∀W',Below w2.heap.size w2 W'->∀x∈zs,∀y∈zs,Calls prog 79 #[bW x,bW y,.pointer (some ⟨w.heap.size,0,none⟩)] W' λe w'=>e=.returned (.int .i64 (aI (dgz x) (dgz y)))/\Below W'.heap.size W' w'):=λW' hb x hxz y hyz=>by rw[hdgz];have hbw:Below w.heap.size w W':=hb2.trans (hb.mono hb2.size);obtain⟨s,ss,e1,e2,e3,e4,e5⟩:=hD x hxz;obtain⟨t,ts,f1,f2,f3,f4,f5⟩:=hD y hyz;have h1:=(hF x hxz).1.1;have h2:=(hF y hyz).1.1;rw[e1] at h1;rw[f1] at h2;rw[e2,f2];exact EI w.heap.size mb R dv dg (bW x) (bW y) s t ss ts W' (ae cb0 hb) (ae mk1 hbw) (hdg.below (h.below.trans (hbw.mono h.below.size))) (h1.below hbw) (h2.below hbw) (dxb e5 e3) (dxb f5 f3) (by omega) hdB
 have HST:=ac (EQ w2 (w.heap.size+1) w.heap.size _ zs dgz (by omega) (by omega) cs0 hSls HCM.o);have HVL:Ma (Calls prog 78 #[.slice la fls.length lc] (w.alloc (.cells #[.pointer (some ⟨mb,0,none⟩)] 85)) λe w'=>e=.returned (.func (.func 101) #[] #[.pointer (some ⟨w.heap.size+1,0,none⟩)])/\w'=w2):=(EP la fls.length lc _).mono λe w' ⟨h1,h2⟩=>⟨by rw[h1,World.size_alloc],by rw[h2,hw2]⟩;have HZF:=ac (Lg hF hD);have HX:=ac hx;have H0:=ac (h.next hb2);have HOB:=ac hob;have HDG:=ac hdg;have HRL:=ac hl;have HB2:=ac hb2;have HCB:=ac (Lg cb0 cbt);have HMK:=ac (Lg hdB @dxb);clear hF hD hx h hob hdg hl hb2 cb0 cbt cs0 hSls HCM hv hne hty hdB dxb mk1;have HW2:=ac hw2;have HS2:=ac hs2;clear hw2 hs2;go_enter func55,ntmps55;go_upto_region 2 with (first|(go_at_call 78;refine HVL.o.mono ?_;rintro e w9 ⟨rfl,h9⟩;have h9b:=h9.symm;clear h9;subst h9b)|(go_at_call 77;refine HST.o.mono ?_;rintro e w3 ⟨v3,cs,rfl,q1,q2,q3,q4⟩;obtain⟨va,vc,hv3⟩:=cw q1.own;subst hv3;have HS3:=ac (Lg q1 (Lg q2 (Lg q3 q4)));clear q1 q2 q3 q4));have HA0:Ma (gU p dg N R w0 w3 w3.heap.size mb ob g w.heap.size dv (.slice va cs.length vc) cs (dV zs fls) [] [] [] (λ_ _=>False) 0):=by
  obtain⟨q1,q2,q3,q4⟩:=HS3.o;have hb3:Below w.heap.size w w3:=HB2.o.trans (q4.mono HB2.o.size);have hs0:=H0.o.below.size;refine⟨H0.o.next q4,q1.base hs0,λk hk=>(Lb q1.own k hk).2,⟨Lk hs0 q4.size,Lc _⟩,λx hxc=>?_,ae HCB.o.1 q4,λhn=>HCB.o.2 λaf e=>hn af ?_⟩
  .have hf:=(HZF.o.1 x (q2.mem_iff.1 hxc)).1;exact⟨hf.1.below hb3,hf.2.below hb3⟩
  .rw[q4.block _ (LS.1 e).1];exact e
 have hcl:cs.length=zs.length:=HS3.o.2.1.length_eq;have HCL:=ac (Lg hcl hzl);clear hcl hzl;go_wp2_with fail;go_loopw [6,16] (λs6 s16 wr=>∃(m:Nat)(nd:List aU)(ms:List Mm)(qs:List Pq)(E:Nat->Nat->Prop)(T:Int),m<=cs.length/\s16=.int .i64 m/\(∃a c,s6=.slice a nd.length c)/\cG w3.heap.size wr s6 nd/\nd.length<=m/\gU p dg N R w0 wr w3.heap.size mb ob g w.heap.size dv (.slice va cs.length vc) cs (dV zs fls) ((cs.take m).map (dV zs fls)) ms qs E T/\(∀q,m<=q->q<cs.length->T<=cR dgz cs q)) (λ_ s16 _=>cs.length-(intOf s16).toNat);case atStart=>refine⟨0,[],[],[],_,0,Ll _,rfl,⟨none,0,rfl⟩,⟨World.ownsRow_nil _ _ _ _,λg hg=>by simp[Value.ownBlock] at hg⟩,Ll _,HA0.o,λq _ hq=>?_⟩;have hm:cs[q]∈zs:=HS3.o.2.1.mem_iff.1 (Lo hq);obtain⟨_,_,_,_,_,h4,_⟩:=HZF.o.2 _ hm;unfold cR;rw[Lr,Ls hq,hdgz];exact h4
 case round=>
  rename World=>wr;clear HA0;obtain⟨m,nd,ms,qs,E,T,hm,rfl,⟨na,nc,rfl⟩,hnd,hndl,hab,htm⟩:=hrel;have HND:=ac hnd;have HAB:=ac hab;have HTM:=ac htm;clear hnd hab htm;have hcs4:cs.length<=4:=by have:=HCL.o;omega
  by_cases hm2:m<cs.length
  .obtain⟨xa,xn,xc,hzx,htk⟩:=yC hm2;have hxc:(xa,xn,xc)∈cs:=List.mem_of_getElem? hzx;have hxz:=HS3.o.2.1.mem_iff.1 hxc;obtain⟨t,ts,e1,e2,e3,e4,e5⟩:=HZF.o.2 _ hxz;have hdm:cR dgz cs m=i9 dg zs fls (xa,xn,xc):=by unfold cR;rw[Lr,hzx,hdgz];rfl
   have hTD:T<=i9 dg zs fls (xa,xn,xc):=by rw[<-hdm];exact HTM.o m (Lc _) hm2
   have HNX:Ma (∀q,m+1<=q->q<cs.length->i9 dg zs fls (xa,xn,xc)<=cR dgz cs q):=λq h1 h2=>by rw[<-hdm];exact HS3.o.2.2.1 m q (by omega) (by have:=HCL.o.1;omega)
   have HTK:Ma ((cs.take (m+1)).map (dV zs fls)=(cs.take m).map (dV zs fls)++[t::ts]):=by show _=_;rw[htk,LO,<-e1];rfl
   have hfx:=(HAB.o.fvs _ hxc).1;rw[e1] at hfx;have HFX:=ac hfx;have HTX:=ac (HAB.o.fvs _ hxc).2;have hcell:∃gv,va=some ⟨gv,0,none⟩/\wr.cell? ⟨gv,m,none⟩=some (.slice xa xn xc):=by
    rcases HAB.o.row.own.2 with ⟨_,h2⟩|⟨gv,cap,af,h1,_⟩
    .omega
    .simp only[LB] at h1;obtain⟨h1,_,_⟩:=h1;have hr:=HAB.o.row;rw[h1] at hr;have hc:=(hr.cell m hm2).1;have hzx2:cs[m]=(xa,xn,xc):=by rw[Ls hm2] at hzx;exact Option.some.inj hzx
     rw[hzx2] at hc;exact⟨gv,h1,hc⟩
   obtain⟨gv,rfl,c0⟩:=hcell;have cbx:=HAB.o.bx;have HVC:=ac (Lg e3 (Lg e4 e5));generalize hDD:i9 dg zs fls (xa,xn,xc)=D at*;clear hDD e1 e2 e3 e4 e5 hdm hzx htk hfx hxc hxz;have HDE:Ma (∀W,Below wr.heap.size wr W->Calls prog 81 #[.pointer (some ⟨mb,0,none⟩),.slice xa xn xc] W λe w'=>e=.returned (.int .i64 D)/\Below W.heap.size W w'):=λW hb=>by obtain⟨pv,us,hmk⟩:=(HAB.o.next hb).cp.mkw;have hd:=yH HVC.o.1;have hr:=HX.o.r;have h:=tt mb R dv dg (.slice xa xn xc) t ts W hmk.cells.2.1 (HDG.o.below (HAB.o.next hb).cp.below) (HFX.o.below hb) (HMK.o.2 HVC.o.2.2 HVC.o.1) (by omega) HMK.o.1;rw[hd] at h;exact h
   have HFN:Ma (∀W,Below wr.heap.size wr W->Calls prog 57 #[.pointer (some ⟨mb,0,none⟩),.int .i64 D] W λe w'=>e=.returned (.tuple #[])/\(∃ms' qs' E',gU p dg N R w0 w' w3.heap.size mb ob g w.heap.size dv (.slice (some ⟨gv,0,none⟩) cs.length vc) cs (dV zs fls) ((cs.take m).map (dV zs fls)) ms' qs' E' D)/\Fv w' (.slice xa xn xc) (t::ts)/\eP w' (.slice xa xn xc)/\cG w3.heap.size w' (.slice na nd.length nc) nd):=λW hb=>by
    have hA:=HAB.o.next hb;refine(xY HX.o w0 W mb ob g dv sv _ ms qs E T D hA.cp HOB.o HDG.o).mono ?_;rintro e w' ⟨rfl,ms',qs',E',T',h1,h2,h3,h4,h5⟩;have hT':T'<=D:=by rcases h3 with h3|h3<;>omega
    have hc':iG p dg N R w0 w' mb ob g dv ((cs.take m).map (dV zs fls)) ms' qs' E' D:=⟨h1.mkw,h1.cp.raise hT' λq hq=>by have:=h4 q hq;omega,h1.good,h1.below⟩;have hA':=hA.kpm h5 hc';have hf:=yG (HFX.o.below hb) (HTX.o.below hb) h5;exact⟨rfl,⟨ms',qs',E',hA'⟩,hf.1,hf.2,(HND.o.next hb).kpm h5⟩
   go_upto_region 6 with fail;have HB0:Ma (Below wr.heap.size wr wr.drew):=(Lf _ _).drew;have c0d:=ae cbx HB0.o;go_region_held (λW=>W.cell? ⟨w.heap.size,0,none⟩=some (.pointer (some ⟨mb,0,none⟩)))
    (first|with_reducible exact c0d|with_reducible exact c8|with_reducible exact b4)
    (first|(go_at_call 81;refine(HDE.o _ HB0.o).mono ?_;rintro e w8 ⟨rfl,hb8⟩;have HB8:=ac (HB0.o.trans hb8);have c8:=ae cbx HB8.o;clear hb8)|(go_at_call 57;refine(HFN.o _ HB8.o).mono ?_;rintro e w4 ⟨rfl,⟨ms4,qs4,E4,hab4⟩,hf4,_,hn4⟩;have b4:=hab4.bx;have HAB4:=ac hab4;have HF4:=ac hf4;have HN4:=ac hn4;clear hab4 hf4 hn4))
   all_goals
    obtain⟨pv4,us4,hm4⟩:=HAB4.o.cp.mkw;have HM4:=ac hm4;have o4:=hm4.cells.1;clear hm4 HAB HND HFN HDE HFX HTX c0 cbx c8 c0d HB0 HB8;have HB0:Ma (Below w4.heap.size w4 w4.drew):=(Lf _ _).drew;have HBA:Ma (Below w4.heap.size w4 (w4.drew.alloc (.cells #[.slice xa xn xc] 92))):=(Lf _ _).drew.trans (aj (w:=w4.drew));have HBB:Ma (Below w4.heap.size w4 (w4.alloc (.cells #[.slice xa xn xc] 92)).drew):=aj.drew;have HCA:Ma ((w4.drew.alloc (.cells #[.slice xa xn xc] 92)).cell? ⟨w4.heap.size,0,none⟩=some (.slice xa xn xc)):=by show _=_;simp[go_sem]
    have HCC:Ma (((w4.alloc (.cells #[.slice xa xn xc] 92)).drew).cell? ⟨w4.heap.size,0,none⟩=some (.slice xa xn xc)):=by show _=_;simp[go_sem]
    have KEEP:Ma (∀W,Below w4.heap.size w4 W->(W.cell? ⟨w.heap.size,0,none⟩=some (.pointer (some ⟨mb,0,none⟩))/\W.cell? ⟨mb,0,none⟩=some (.pointer (some ⟨ob,0,none⟩)))):=λW hb=>⟨ae b4 hb,ae o4 hb⟩;have HNS:Ma (∀Wn,Below w4.heap.size w4 Wn->Wn.cell? ⟨w4.heap.size,0,none⟩=some (.slice xa xn xc)->Calls prog 83 #[.pointer (some ⟨ob,0,none⟩),.slice (some ⟨w4.heap.size,0,none⟩) 1 1] Wn λe w'=>∃wn rv us rows,e=.returned (.pointer (some ⟨wn.heap.size,0,none⟩))/\Below w4.heap.size w4 wn/\Below wn.heap.size wn w'/\fV p (λu=>aM dg N R D u/\u.k<ow) wn.heap.size w' wn.heap.size ob rv us rows (λk=>ao k (t::ts))):=λWn hb hc=>
     (EU HX.o HVC.o.2.2 HVC.o.1 Wn ob w4.heap.size 1 sv (.slice xa xn xc) (HOB.o.below (HAB4.o.next hb).cp.below) hc (HF4.o.below hb)).mono λe w' ⟨h1,rv,us,rows,h2,h3⟩=>⟨Wn,rv,us,rows,h1,hb,h3,h2⟩
    have HLV:=ac (λwn w9 rv us9 rows=>EW HX.o HAB4.o.cp.cp HVC.o.2.2 HVC.o.1 w0.heap.size w4 wn w9 mb ob g dv pv4 sv rv us4 us9 rows HM4.o (HOB.o.below HAB4.o.cp.below));go_upto_region 7 with fail;go_region_held (λW=>W.cell? ⟨w.heap.size,0,none⟩=some (.pointer (some ⟨mb,0,none⟩))/\W.cell? ⟨mb,0,none⟩=some (.pointer (some ⟨ob,0,none⟩)))
     (first|with_reducible exact KEEP.o _ HB0.o|with_reducible exact KEEP.o _ HBA.o|with_reducible exact KEEP.o _ HBB.o|with_reducible exact KEEP.o _ HB5.o|with_reducible exact KEEP.o _ HB6.o)
     (first|(go_at_call 83;with_reducible refine(HNS.o _ HBA.o HCA.o).mono ?_;rintro e w5 ⟨wn,rv5,us5,rows5,rfl,q1,q2,q3⟩;have HB5:=ac (q1.trans (q2.mono q1.size));have HL5:=ac (HLV.o wn w5 rv5 us5 rows5 q1 q2 q3);clear q1 q2 q3)|(go_at_call 83;with_reducible refine(HNS.o _ HBB.o HCC.o).mono ?_;rintro e w5 ⟨wn,rv5,us5,rows5,rfl,q1,q2,q3⟩;have HB5:=ac (q1.trans (q2.mono q1.size));have HL5:=ac (HLV.o wn w5 rv5 us5 rows5 q1 q2 q3);clear q1 q2 q3)|(go_at_call 82;refine HL5.o.mono ?_;rintro e w6 ⟨q1,u6,acc,rfl,⟨ua,uc,hu6⟩,q2,q3⟩;subst hu6;have HB6:=ac q1;have HF6:=ac q2;have HPL:=ac q3;clear q1 q2 q3))
    all_goals
     have HAB6:=ac (HAB4.o.next HB6.o);have HN6:=ac (HN4.o.next HB6.o);have b6:=HAB6.o.bx;cases acc with
     |nil=>
      have HABN:Ma (gU p dg N R w0 w6 w3.heap.size mb ob g w.heap.size dv (.slice (some ⟨gv,0,none⟩) cs.length vc) cs (dV zs fls) ((cs.take (m+1)).map (dV zs fls)) ms4 qs4 E4 D):=by refine HAB6.o.kpm (ba.refl _) ⟨HAB6.o.cp.mkw,?_,HAB6.o.cp.good,HAB6.o.cp.below⟩;rw[HTK.o];exact DI HAB4.o.cp.cp HVC.o.2.2 HVC.o.1 (by simp) HPL.o
      go_wp2;go_roundw;case rel=>exact⟨m+1,nd,ms4,qs4,E4,D,by omega,by go_num,⟨na,nc,rfl⟩,HN6.o,by omega,HABN.o,HNX.o⟩
      case measure=>simp[intOf];omega
     |cons t6 ts6=>
      have HM6:=ac (HM4.o.next HB6.o);have HAD:=ac (xS HX.o w0 w6 mb ob g dv pv4 sv (.slice ua (t6::ts6).length uc) us4 _ ms4 qs4 E4 D D t6 ts6 HM6.o HAB4.o.cp.cp HAB6.o.cp.below HOB.o HDG.o (by have:=HVC.o.2.2;omega) HPL.o.vc HF6.o);go_upto_region 10 with (go_at_call 84;refine HAD.o.mono ?_;rintro e w7 ⟨rfl,pv7,us7,f,srt,q1,q2,q3,q4,q5,q6,q7,q8⟩;have HM7:=ac q6;have HB7:=ac (HAB6.o.cp.below.trans q7);have HK7:=ac q8;have HFI:=ac (Lg q1 (Lg q2 (Lg q3 (Lg q4 q5))));clear q1 q2 q3 q4 q5 q6 q7 q8);have HV1:Ma (ms4.map (bo f.L)=ms4/\Cp p dg N R ((cs.take (m+1)).map (dV zs fls)) (ms4++[f]) (qs4.filter (λq=>!eC ms4 f.L q)++bh [] srt) E4 D/\dF p dg R (ms4++[f]) E4):=by obtain⟨q1,q2,q3,q4,q5⟩:=HFI.o;rw[HTK.o];exact DJ HX.o HAB4.o.cp.cp HAB4.o.cp.good HVC.o.2.2 HVC.o.1 (by simp) HPL.o q1 q2 q3 q4 q5
      have HAB7:Ma (gU p dg N R w0 w7 w3.heap.size mb ob g w.heap.size dv (.slice (some ⟨gv,0,none⟩) cs.length vc) cs (dV zs fls) ((cs.take (m+1)).map (dV zs fls)) (ms4++[f]) (qs4.filter (λq=>!eC ms4 f.L q)++bh [] srt) E4 D):=by have h:=HM7.o;rw[HV1.o.1] at h;exact HAB6.o.kpm HK7.o ⟨⟨pv7,us7,h⟩,HV1.o.2.1,HV1.o.2.2,HB7.o⟩
      have HB8:Ma (Below w7.heap.size w7 (w7.alloc (.cells #[.slice xa xn xc] 92))):=aj;have HN8:=ac ((HN6.o.kpm HK7.o).next HB8.o);have HAB8:=ac (HAB7.o.next HB8.o);have HLN:Ma (nd.length<=4):=by have h1:=HCL.o;have:fls.length<=4:=hn;show _<=_;omega
      go_wp2_with (at_builtin;refine yq rfl (.tmp 40) (.tmp 42) 87 rfl w3.heap.size 92 i0 underlying87 HI.o.1 HI.o.2.1 HI.o.2.2.1 HI.o.2.2.2 _ nd.length (nd.map bW) rfl HN8.o.own HN8.o.kind ⟨w7.heap.size,0,none⟩ 1 (.slice xa xn xc) ⟨_,_,_,rfl⟩ rfl (by simp[go_sem]) (by have:=HLN.o;omega) (by exact HAB8.o.le3.2) ?_;intro v9 w9 r1 r2 r3;obtain⟨va9,vc9,hv9⟩:=fu r1;have HAB9:=ac (HAB8.o.app HN8.o r2);have HN9:=ac (Lg r1 r3);subst hv9;clear r1 r2 r3);have HN10:Ma (cG w3.heap.size w9 (.slice va9 (nd.length+1) vc9) (nd++[(xa,xn,xc)])):=by refine⟨?_,HN9.o.2⟩;have h:=HN9.o.1;simpa [bW] using h
      go_roundw;case rel=>exact⟨m+1,nd++[(xa,xn,xc)],ms4++[f],_,E4,D,by omega,by go_num,⟨va9,vc9,by simp⟩,HN10.o,by simp;omega,HAB9.o,HNX.o⟩
      case measure=>simp[intOf];omega
  .have e:m=cs.length:=by omega
   subst e;go_wp2;go_ret;refine⟨_,_,ms,qs,E,T,rfl,?_,HAB.o.cp⟩;rw[Lz (Lc _)];have h1:=HS3.o.2.1.map (dV zs fls);rw[E0 HRL.o] at h1;exact h1
theorem E5{p:Int}{ds:List Int}{N R:Nat}(hx:aP p (λi=>ds.getD i 0) N R){lss:List (List (List Tm))}{fls:List (List Ft)}(h:j8 p ds N R lss fls):∀f∈bV fls,f≠[]/\∃D,0<=D/\D<=9/\cP p (λi=>ds.getD i 0) N R D f:=λf hf=>by
 unfold bV at hf;rw[LR] at hf;obtain⟨hm,hn⟩:=hf;have hne:f≠[]:=λe=>by rw[e] at hn;simp at hn
 refine⟨hne,?_⟩;obtain⟨i,hi,e⟩:=L8.1 hm;obtain⟨_,D,d9,hv,_⟩:=h.at_ i (by rw[<-h.len];exact hi);rw[Lr,Ls hi] at hv;simp only[Option.getD_some,e] at hv;cases f with
 |nil=>exact absurd rfl hne
 |cons t ts=>have g:=hv.gd t (by simp);have a1:=g.a;have a2:=g.b;have a3:=g.d;have a4:=g.deg;have a5:=g.pl0;have a6:=g.pl;have a7:=(hx.dg t.pl.toNat (by omega)).1;exact⟨D,by omega,d9,hv⟩
theorem Cp.none{p:Int}{dg:Nat->Int}{N R:Nat}(hx:aP p dg N R){vs:List (List Ft)}{ms:List Mm}{qs:List Pq}{E:Nat->Nat->Prop}{T:Int}(h:Cp p dg N R vs ms qs E T)(hq:∀q∈qs,9223372036854775807<q.dg):qs=[]:=by
 cases qs with
 |nil=>rfl
 |cons q qs=>exfalso;obtain⟨x,y,hxm,hym,_,_,hpg,ed,_⟩:=h.pr q (by simp);obtain⟨D1,_,d1,m1⟩:=h.mb x hxm;obtain⟨D2,_,d2,m2⟩:=h.mb y hym;have gx:=m1.gd x.L (by simp);have gy:=m2.gd y.L (by simp);obtain⟨_,_,bD⟩:=hpg.btbG hx gx gy d1 d2;have a5:=gx.pl0;have a6:=gx.pl;have a7:=(hx.dg x.L.pl.toNat (by omega)).2;have:=hq q (by simp);omega
end Go.Proofs.YteimdcndjjclnaaGreat
namespace Go.Proofs.YteimdcndjjclnaaGreat
set_option linter.all false
open Go.Proofs.Tryz Go.RowKit
theorem Tryz.infoEx:(prog.info? 45).map (λi=>(i.zero,i.size,i.bytes))=some (some (.agg #[.int .u16 0,.int .u16 0,.int .u16 0,.int .u16 0]),4,8):=by kernel_rfl
def eh(e:Gb.Mo):List Value:=[.int .u16 (e.1:Int),.int .u16 (e.2.1:Int),.int .u16 (e.2.2:Int),.int .u16 0]
def ja(es:List Gb.Mo):List Value:=es.flatMap eh
theorem E6(es:List Gb.Mo)(e:Gb.Mo):ja (es++[e])=ja es++eh e:=by unfold ja;rw[List.flatMap_append];simp
theorem yI:∀(es:List Gb.Mo)(q r:Nat)(h:q<es.length),r<4->(ja es)[q*4+r]?=(eh es[q])[r]?
 |[],q,r,h,_=>by simp at h
 |e::es,0,r,_,hr=>by show (eh e++ja es)[0*4+r]?=_;rw[LQ (by simp[eh];omega)];simp
 |e::es,q+1,r,h,hr=>by show (eh e++ja es)[(q+1)*4+r]?=_;rw[LW (by simp[eh];omega),show (q+1)*4+r-(eh e).length=q*4+r by simp[eh];omega,yI es q r (by simpa using h) hr];rfl
structure iL(B:Nat)(w:World)(R g:Nat)(us:List Value)(ess:Nat->List Gb.Mo):Prop where
 o:w.ownsRow B 69 1 (.slice (some ⟨g,0,none⟩) R R) R us
 row:∀pl,pl<R->w.ownsRow B 45 4 (us.getD pl aB) (ess pl).length (ja (ess pl))
 dis:∀i j,i<R->j<R->i≠j->∀k,(us.getD i aB).ownBlock=some k->¬(us.getD j aB).ownBlock=some k
theorem iL.below{B:Nat}{w w':World}{R g:Nat}{us:List Value}{ess:Nat->List Gb.Mo}(h:iL B w R g us ess)(hb:Below w.heap.size w w'):iL B w' R g us ess:=⟨aK h.o hb,λpl hp=>aK (h.row pl hp) hb,h.dis⟩
theorem iL.snoc{B:Nat}{w w5:World}{R g:Nat}{us:List Value}{ess:Nat->List Gb.Mo}{n:Nat}{e:Gb.Mo}{v5:Value}(h:iL B w R g us ess)(hn:n<R)(h5:w5.ownsRow B 45 4 v5 ((ess n).length+1) (ja (ess n)++eh e))(hg5:w.grownBy w5 (us.getD n aB).ownBlock)(hl5:(us.getD n aB).ownBlock=v5.ownBlock\/v5.ownBlock=some w.heap.size):iL B (w5.setCell ⟨g,n,none⟩ v5) R g (us.set n v5) (λj=>if j=n then ess n++[e] else ess j)/\ai (λk=>k=g\/(us.getD n aB).ownBlock=some k) w (w5.setCell ⟨g,n,none⟩ v5):=by
 have hul:us.length=R:=by have:=h.o.1;omega
 have hrow:=h.row n hn;have hf5:ai (λk=>(us.getD n aB).ownBlock=some k) w w5:=ai.of_grown hg5 λk e=>e;have hTr:∀{T:TypeId},45≠T->∀k,(us.getD n aB).ownBlock=some k->b8 w T k:=λhT k hk=>bp hrow hk hT;have hout5:=dN hf5 h.o (hTr (by decide));have hst:=Lp hout5 n v5;have hf6:ai (λk=>k=g) w5 (w5.setCell ⟨g,n,none⟩ v5):=ai.of_grown hst.2 λk e=>by simpa using e.symm
 have hTg:∀{T:TypeId},69≠T->∀k,k=g->b8 w5 T k:=λhT k e=>by subst e;exact bp hout5 rfl hT
 have hff:ai (λk=>k=g\/(us.getD n aB).ownBlock=some k) w (w5.setCell ⟨g,n,none⟩ v5):=(hf5.wide (T:=λk=>k=g\/(us.getD n aB).ownBlock=some k) λ_ _ h=>L3 h).trans hf6 λk _ e=>L0 e;have hgd:∀j,(us.set n v5).getD j aB=if j=n then v5 else us.getD j aB:=λj=>by
  rw[lK];by_cases e:n=j
  .subst e;rw[LI ⟨rfl,by omega⟩,LI rfl]
  .rw[LH (λh=>e h.1),LH (λh=>e h.symm)]
 refine⟨⟨hst.1,λj hj=>?_,λi j hi hj hne k hki hkj=>?_⟩,hff⟩
 .rw[hgd];by_cases e:j=n
  .subst e;rw[LI rfl,LI rfl,Lx,E6];exact dN hf6 h5 (hTg (by decide))
  .rw[LH e,LH e];refine dN hf6 (hf5.own (h.row j hj) λk hk=>?_) (hTg (by decide));exact h.dis j n hj hn e k hk
 .rw[hgd] at hki hkj;by_cases e1:i=n
  .have e2:j≠n:=by omega
   rw[LI e1] at hki;rw[LH e2] at hkj;rcases hl5 with e|e
   .rw[<-e] at hki;exact h.dis n j hn hj (by omega) k hki hkj
   .rw[e] at hki;simp only[LA] at hki;have:=(Lb (h.row j hj) k hkj).2;omega
  .rw[LH e1] at hki;by_cases e2:j=n
   .rw[LI e2] at hkj;rcases hl5 with e|e
    .rw[<-e] at hkj;exact h.dis i n hi hn e1 k hki hkj
    .rw[e] at hkj;simp only[LA] at hkj;have:=(Lb (h.row i hi) k hki).2;omega
   .rw[LH e2] at hkj;exact h.dis i j hi hj hne k hki hkj
def jb(w:World)(v:Value)(R:Nat)(ess:Nat->List Gb.Mo):Prop:=∃b cap,v=.slice (some ⟨b,0,none⟩) R cap/\b<w.heap.size/\∀pl,pl<R->∃u,w.cell? ⟨b,pl,none⟩=some u/\jD w u (ess pl)
theorem jb.below{w w':World}{v:Value}{R:Nat}{ess:Nat->List Gb.Mo}(h:jb w v R ess)(hb:Below w.heap.size w w'):jb w' v R ess:=by obtain⟨b,cap,rfl,hlt,h⟩:=h;refine⟨b,cap,rfl,Lj hlt hb.size,λpl hp=>?_⟩;obtain⟨u,h1,h2⟩:=h pl hp;exact⟨u,(hb.cell (p:=⟨b,pl,none⟩) hlt).trans h1,h2.below hb⟩
theorem E7{B:Nat}{w:World}{u:Value}{es:List Gb.Mo}(h:w.ownsRow B 45 4 u es.length (ja es)):jD w u es:=by
 obtain⟨a,c,rfl⟩:=cw h;refine⟨a,c,rfl,λk hk=>?_⟩;obtain⟨g,cap,e,_,hlt⟩:=h.form (by omega);simp only[LB] at e;obtain⟨rfl,_,rfl⟩:=e;have hc:∀r,r<4->w.cell? ⟨g,k*4+r,none⟩=(eh es[k])[r]?:=λr hr=>by rw[La h (k*4+r) (by omega),yI es k r hk hr]
 exact⟨g,rfl,hlt,hc 0 (by omega),hc 1 (by omega),hc 2 (by omega),hc 3 (by omega)⟩
theorem iL.lds{B:Nat}{w:World}{R g:Nat}{us:List Value}{ess:Nat->List Gb.Mo}(h:iL B w R g us ess):jb w (.slice (some ⟨g,0,none⟩) R R) R ess:=by
 refine⟨g,R,rfl,(Lb h.o g rfl).2,λpl hp=>⟨us.getD pl aB,?_,E7 (h.row pl hp)⟩⟩;rw[La h.o pl (by omega)];have hl:us.length=R:=by have:=h.o.1;omega
 rw[Lr,Ls (by omega)];rfl
end Go.Proofs.YteimdcndjjclnaaGreat
