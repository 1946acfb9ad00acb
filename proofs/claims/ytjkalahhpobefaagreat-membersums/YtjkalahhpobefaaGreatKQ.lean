/- Sorting pairs: stable. -/
import Derived.Test.YtjkalahhpobefaaGreatKN
import Derived.Test.YtjkalahhpobefaaGreatKF
set_option maxHeartbeats 4000000
set_option maxRecDepth 100000
namespace Go.Proofs.YtjkalahhpobefaaGreat
set_option linter.all false
open Go.Proofs.Tryz Go.RowKit
theorem Ip(B:Nat)(w0 W:PJ)(g cap:Nat)(qs cs:PF)(h:b8 B w0 W g cap qs cs)(hn:qs.length<=2100000000000):Calls prog 248 #[PM g qs.length cap,PO qs.length,.func (.func 217) #[] #[]] W λe w'=>e=.returned (.tuple #[])/\∃cs',b8 B w0 w' g cap qs cs':=by
 have H0:=ae h;clear h;have HIN:Po (∀W cs a b,b8 B w0 W g cap qs cs->a<=b->b<=qs.length->Calls prog 267 #[PM g qs.length cap,PO (a:Nat),PO (b:Nat),.func (.func 217) #[] #[]] W λe w'=>e=.returned (.tuple #[])/\∃cs',b8 B w0 w' g cap qs cs'):=λW cs a b h1 h2 h3=>Ii B w0 W g cap qs cs a b h1 h2 h3 hn;have HSY:Po (∀W cs a m b,b8 B w0 W g cap qs cs->a<m->m<b->b<=qs.length->Calls prog 268 #[PM g qs.length cap,PO (a:Nat),PO (m:Nat),PO (b:Nat),.func (.func 217) #[] #[]] W λe w'=>e=.returned (.tuple #[])/\∃cs',b8 B w0 w' g cap qs cs'):=λW cs a m b h1 h2 h3 h4=>Im B w0 g cap qs hn (b-a) W cs a m b (Ou _) h2 h3 h4 h1;obtain⟨n,hnn⟩:∃n,n=qs.length:=⟨_,rfl⟩;rw[<-hnn] at HIN HSY hn;rw[<-hnn];have HNN:=ae hnn;clear hnn;go_enter func248,ntmps248;go_wp2_with fail;go_loopw [7,8] (λva vb wr=>∃(a:Nat)(cs:PF),a<=n/\va=PO a/\vb=PO (a+20:Nat)/\b8 B w0 wr g cap qs cs) (λva vb _=>n+20-(intOf vb).toNat);case atStart=>exact⟨0,cs,OB _,rfl,by go_num,H0.o⟩
 case round=>
  clear H0;obtain⟨a,ds,han,rfl,rfl,hw⟩:=hrel;have HW:=ae hw;clear hw;by_cases hle:a+20<=n
  .have HC:=ae (HIN.o wr ds a (a+20) HW.o (by omega) hle);have hI:(a:Int)+20<=(n:Int):=by omega
   go_wp2_with (go_at_call 267;refine HC.o.mono ?_;rintro e w9 ⟨rfl,es,hw9⟩;have HW9:=ae hw9;clear hw9);go_roundw;case rel=>exact⟨a+20,es,hle,by go_num,by go_num,HW9.o⟩
   case measure=>simp[intOf];omega
  .have HC:=ae (HIN.o wr ds a n HW.o han (Ou _));have hI:¬(a:Int)+20<=(n:Int):=by omega
   go_wp2_with (go_at_call 267;refine HC.o.mono ?_;rintro e w9 ⟨rfl,es,hw9⟩;have HW9:=ae hw9;clear hw9);go_loopw [6] (λvs wr2=>∃(bs:Nat)(cs:PF),20<=bs/\bs<=4200000000000/\vs=PO bs/\b8 B w0 wr2 g cap qs cs) (λvs _=>n-(intOf vs).toNat);case atStart=>exact⟨20,es,Ou _,by omega,rfl,HW9.o⟩
   case round=>
    clear HW9 HC HW;rename PJ=>wr1;obtain⟨bs,fs,hbs,hbs2,rfl,hw⟩:=hrel;have HW1:=ae hw;clear hw;by_cases hlt:bs<n
    .have hw2:IntKind.i64.wrap (2*(bs:Int))=2*(bs:Int):=by rw[IntKind.wrap_i64];omega
     go_wp2_with fail;go_loopw [7,8] (λva vb wr3=>∃(a2:Nat)(cs:PF),a2<=n/\va=PO a2/\vb=PO (a2+2*bs:Nat)/\b8 B w0 wr3 g cap qs cs) (λva vb _=>n+2*bs-(intOf vb).toNat);case atStart=>exact⟨0,fs,OB _,rfl,by go_num,HW1.o⟩
     case round=>
      clear HW1;rename PJ=>wr2;obtain⟨a2,gs,ha2,rfl,rfl,hw⟩:=hrel;have HW2:=ae hw;clear hw;by_cases hle2:a2+2*bs<=n
      .have HC:=ae (HSY.o wr2 gs a2 (a2+bs) (a2+2*bs) HW2.o (by omega) (by omega) hle2);have hI2:(a2:Int)+2*(bs:Int)<=(n:Int):=by omega
       go_wp2_with (go_at_call 268;refine HC.o.mono ?_;rintro e w9 ⟨rfl,es2,hw9⟩;have HW9:=ae hw9;clear hw9);go_roundw;case rel=>exact⟨a2+2*bs,es2,hle2,by go_num,by go_num,HW9.o⟩
       case measure=>simp[intOf];omega
      .have hI2:¬(a2:Int)+2*(bs:Int)<=(n:Int):=by omega
       by_cases hm:a2+bs<n
       .have HC:=ae (HSY.o wr2 gs a2 (a2+bs) n HW2.o (by omega) hm (Ou _));have hI3:(a2:Int)+(bs:Int)<(n:Int):=by omega
        go_wp2_with (go_at_call 268;refine HC.o.mono ?_;rintro e w9 ⟨rfl,es2,hw9⟩;have HW9:=ae hw9;clear hw9);go_roundw;case rel=>exact⟨bs*2,es2,by omega,by omega,by go_num,HW9.o⟩
        case measure=>simp[intOf];omega
       .have hI3:¬(a2:Int)+(bs:Int)<(n:Int):=by omega
        go_wp2_with fail;go_roundw;case rel=>exact⟨bs*2,gs,by omega,by omega,by go_num,HW2.o⟩
        case measure=>simp[intOf];omega
    .go_wp2;go_end0;exact⟨rfl,fs,HW1.o⟩
theorem Iq(W:PJ)(cv:PK):Calls prog 267 #[.slice none 0 0,PO 0,PO 0,cv] W λe w'=>e=.returned (.tuple #[])/\w'=W:=by
 go_enter func267,ntmps267;go_wp2_with fail;go_loopw [8] (λvi wr=>vi=PO 1/\wr=W) (λ_ _=>0);case atStart=>exact⟨rfl,rfl⟩
 case round=>obtain⟨rfl,rfl⟩:=hrel;go_wp2;go_end0;exact⟨rfl,rfl⟩
theorem Ir(W:PJ)(cv:PK):Calls prog 248 #[.slice none 0 0,PO 0,cv] W λe w'=>e=.returned (.tuple #[])/\w'=W:=by
 have HI:=ae (Iq W cv);go_enter func248,ntmps248;go_wp2_with fail;go_loopw [7,8] (λva vb wr=>va=PO 0/\vb=PO 20/\wr=W) (λ_ _ _=>0);case atStart=>exact⟨rfl,rfl,rfl⟩
 case round=>
  obtain⟨rfl,rfl,rfl⟩:=hrel;go_wp2_with (go_at_call 267;refine HI.o.mono ?_;rintro e w9 ⟨rfl,h9⟩;have h9b:=h9.symm;clear h9;subst h9b);go_loopw [6] (λvs wr2=>vs=PO 20/\wr2=wr) (λ_ _=>0);case atStart=>exact⟨rfl,rfl⟩
  case round=>obtain⟨rfl,rfl⟩:=hrel;go_wp2;go_end0;exact⟨rfl,rfl⟩
theorem Is(B:Nat)(v:PK)(qs:PF)(w:PJ)(hp:bK B w v qs)(hn:qs.length<=2100000000000):Calls prog 216 #[v,.func (.func 217) #[] #[]] w λe w'=>e=.returned (.tuple #[])/\∃qs',qs'.Perm qs/\bK B w' v qs'/\aj (λk=>v.ownBlock=some k) w w':=by
 rcases hp.own.2 with ⟨h1,h2⟩|⟨g,cap,ag,h1,_⟩
 .have e:qs=[]:=O8.1 h2;subst h1;subst e;have HP:=ae hp;clear hp h2;have HS:=ae (Ir w (.func (.func 217) #[] #[]));go_enter func216,ntmps216;go_wp2_with (go_at_call 248;refine HS.o.mono ?_;rintro e w9 ⟨rfl,h9⟩;have h9b:=h9.symm;clear h9;subst h9b);go_end0;exact⟨rfl,[],List.Perm.refl _,HP.o,aj.refl _ _⟩
 .subst h1;have HS:=ae (Ip B w w g cap qs qs ⟨hp,List.Perm.refl _,aj.refl _ _⟩ hn);clear hp;go_enter func216,ntmps216;go_wp2_with (go_at_call 248;refine HS.o.mono ?_;rintro e w9 ⟨rfl,cs,hw9⟩;have HW9:=ae hw9;clear hw9);go_end0;exact⟨rfl,cs,HW9.o.perm,HW9.o.row,HW9.o.frm.wide λk _ e=>by rw[e];rfl⟩
theorem Bi(w:PJ)(q:Pq)(T:TypeId):∀j u,(aO q)[j]?=some u->(w.alloc (.cells #[PL q.b1,PL q.b2,PP q.a,PP q.b,PP q.d,PP q.z,PO q.dg,PO q.k] T)).cell? (((PN w.heap.size 0):Addr).add j)=some u:=by
 intro j u hj;rw[Addr.add_lit,ON]
 match j,hj with
 |0,hj=>rw[<-hj];simp[go_sem,aO]
 |1,hj=>rw[<-hj];simp[go_sem,aO]
 |2,hj=>rw[<-hj];simp[go_sem,aO]
 |3,hj=>rw[<-hj];simp[go_sem,aO]
 |4,hj=>rw[<-hj];simp[go_sem,aO]
 |5,hj=>rw[<-hj];simp[go_sem,aO]
 |6,hj=>rw[<-hj];simp[go_sem,aO]
 |7,hj=>rw[<-hj];simp[go_sem,aO]
 |j+8,hj=>simp[aO] at hj
variable{w:PJ}
theorem Bj(ty:TypeId)(B:Nat)(v:PK)(qs:PF)(h:bK B w v qs)(ad:Addr)(rs:PF)(c:Nat)(hr:0<rs.length)(hnew:∀j y,(bP rs)[j]?=some y->w.cell? (ad.add j)=some y)(hn:qs.length+rs.length<=2300000000000)(hB:B<=w.heap.size):∃v' w',(Builtin.append_ #[104,104] ty #[v,.slice (some ad) rs.length c]).run prog w=.ok v' w'/\bK B w' v' (qs++rs)/\w.grownBy w' v.ownBlock/\(v'.ownBlock=v.ownBlock\/v'.ownBlock=some w.heap.size):=by obtain⟨i0,hi,hz0,hz1,hz2⟩:=info_parts Tryz.infoPr;obtain⟨v',w',hr2,h2,h3,h4,h5⟩:=vL (P:=prog) w d8 B 104 ty 238 i0 _ 8 40 underlying104 hi hz0 hz1 hz2 rfl (by decide) (λu hu x e=>by subst e;simp[Value.cells] at hu) v qs.length (bP qs) h.own h.kd ad rs.length c (bP rs) hr (i6 rs) hnew (Ac rs) (Ae rs) (by unfold maxLen;omega) (by omega) hB;refine⟨v',w',hr2,⟨?_,h4⟩,h3,h5⟩;rw[OM,nz];exact h2
variable{Q:Exit->Act->PJ->Prop}{a:Act}{o:Oper}{ops:Array Oper}
theorem Bk{rest:List Oper}(hgd:o.guard=none)(s x:Operand)(ho:o.op=.call {callee:=.builtin .append,args:=#[s,x],argTypes:=#[104,104]})(B:Nat)(v:PK)(qs:PF)(hs:a.eval s=v)(h:bK B w v qs)(ad:Addr)(rs:PF)(c:Nat)(hx:a.eval x=.slice (some ad) rs.length c)(hr:0<rs.length)(hnew:∀j y,(bP rs)[j]?=some y->w.cell? (ad.add j)=some y)(hn:qs.length+rs.length<=2300000000000)(hB:B<=w.heap.size)(hK:∀v' w',bK B w' v' (qs++rs)->w.grownBy w' v.ownBlock->(v'.ownBlock=v.ownBlock\/v'.ownBlock=some w.heap.size)->wpList prog ops Q rest (a.put o.dst v') w'):wpList prog ops Q (o::rest) a w:=by refine wpList_plain hgd λK hK'=>?_;obtain⟨v',w',hrun,h2,h3,h4⟩:=Bj o.type B v qs h ad rs c hr hnew hn hB;unfold Oper.wp execOp;simp only[ho,resolve,invoke,builtin,Sem.run_bind,Sem.run_pure,Result.andThen_ok,List.map_toArray,List.map_cons,List.map_nil,hs,hx,hrun];exact hK' _ _ (hK v' w' h2 h3 h4)
def jO(q r:Pq):Bool:=eN q.a q.b q.d q.z r.a r.b r.d r.z
theorem It(cb:Nat)(q r:Pq)(w:PJ)(hc:iG w cb 0 r):Calls prog 219 #[eI q,PL cb] w λe w'=>e=.returned (.bool (jO q r))/\Io w w':=by
 obtain⟨w1,hw1⟩:∃w1,w1=w.alloc (.cells #[PL q.b1,PL q.b2,PP q.a,PP q.b,PP q.d,PP q.z,PO q.dg,PO q.k] 238):=⟨_,rfl⟩;have HB1:Po (Io w w1):=by rw[hw1];exact ai
 have HX1:Po (iG w1 w.heap.size 0 q):=by rw[hw1];exact(lh (Ou _) q).at
 have HC1:=ae (hc.keep HB1.o);obtain⟨c0,c1,c2,c3,c4,c5,c6,c7⟩:=HX1.o;obtain⟨d0,d1,d2,d3,d4,d5,d6,d7⟩:=HC1.o;simp only[ON] at c0 c1 c2 c3 c4 c5 c6 c7 d0 d1 d2 d3 d4 d5 d6 d7;have HI:Po (Calls prog 158 #[.agg #[PP q.a,PP q.b,PP q.d,PP q.z],.agg #[PP r.a,PP r.b,PP r.d,PP r.z]] w1 λe w'=>e=.returned (.bool (jO q r))/\Io w1 w'):=vI _ _ _ _ _ _ _ _ w1;unfold eI;clear hc;go_enter func219,ntmps219;go_upto_region 1 with fail;rw[<-hw1];clear hw1;go_wp2_with (go_at_call 158;refine HI.o.mono ?_;rintro e w9 ⟨rfl,hb9⟩;have HB9:=ae hb9;clear hb9);go_ret;exact⟨rfl,In HB1.o HB9.o⟩
def bN:PF->PF->PF
 |kept,[]=>kept
 |kept,x::xs=>if kept.any (λq=>jO q x) then bN kept xs else bN (kept++[x]) xs
theorem Iu(kept:PF)(xs:PF)(k:Nat)(h:k<xs.length):bN kept (xs.drop k)=if kept.any (λq=>jO q xs[k]) then bN kept (xs.drop (k+1)) else bN (kept++[xs[k]]) (xs.drop (k+1)):=by rw[Pd h];rfl
def ig(ms:PD)(pl:Nat):PD:=(a8 ms pl).filter λx=>!x.gone
theorem vM:∀(xs kept:PF),(bN kept xs).length<=kept.length+xs.length
 |[],kept=>by simp[bN]
 |x::xs,kept=>by
  unfold bN;split
  .have:=vM xs kept;simp;omega
  .have:=vM xs (kept++[x]);simp at this⊢;omega
theorem Iv(p:Int)(B:Nat)(w:PJ)(mb ob R g:Nat)(dv pv sv:PK)(us:PH)(ms:PD)(qs:PF)(f:Mm)(k0 k1 k2:Int)(dg:Nat->Int)(hm:bh p B w mb ob R g dv pv us ms qs)(hf:b9 p B w f)(hob:aQ w ob p k0 k1 k2 sv)(hdg:iI w dv R dg)(hd:∀pl,pl<R->0<=dg pl/\dg pl<=100000)(hR:R<=255)(k0b:0<=k0/\k0<=137438953472)(k1b:0<=k1/\k1<=137438953472)(k2b:0<=k2/\k2<=137438953472)(bx:∀x∈ms,mv x.L)(bf:mv f.L)(hpl:0<=f.L.pl/\f.L.pl<R)(hml:ms.length<=2100000):Calls prog 182 #[PL mb,PL f.blk] w λe w'=>∃v,e=.returned v/\∃srt,srt.Perm ((ig ms f.L.pl.toNat).map λx=>di k0 k1 k2 dg x f)/\bK w.heap.size w' v (bN [] srt)/\Io w w':=by
 obtain⟨n,hnpl⟩:∃n:Nat,f.L.pl=n:=⟨f.L.pl.toNat,by omega⟩;have htn:f.L.pl.toNat=n:=by omega
 have hnR:n<R:=by omega
 rw[htn];have HM:=ae hm;have HF:=ae hf;have HOB:=ae hob;have HDG:=ae hdg;obtain⟨m0,m1,m2,m3,m4⟩:=hm.cells;obtain⟨r0,r1⟩:=hm.mks.at n hnR;have hpt:=hm.mks.pts n hnR;have HSUB:Po (∀x∈a8 ms n,x∈ms):=λx hx=>(O5.1 hx).1;have HPL:Po (∀x∈a8 ms n,x.L.pl=n):=λx hx=>by have:=(O5.1 hx).2;simpa using this
 have hln:(a8 ms n).length<=2100000:=OA (Pc _ _) hml;obtain⟨ra,rc,hrow,hpts⟩:=hpt;rw[hrow] at r0;have HPTS:=ae hpts;have c5:=hf.mbr.div.cells.2.2.2.2.2.1;simp only[ON] at c5;rw[hnpl] at c5;have hnI:(n:Int)<(R:Int):=by omega
 unfold ig;have HL:Po (∀x∈a8 ms n,b9 p B w x/\mv x.L/\x.L.pl=n):=λx hx=>⟨hm.mks.mem x (HSUB.o x hx),bx x (HSUB.o x hx),HPL.o x hx⟩;clear hm hf hob hdg hpts hrow m0 m1 m3 m4 r1 htn hpl bx hml;generalize a8 ms n=l at*;go_enter func182,ntmps182;go_upto_region 2 with fail;go_quiet (fail);clear m2 r0 c5;have HBQ:Po (Io w (w.drewN nq)):=below_drewN (Ov _ _) _;go_wp2_with fail;go_loopw [5,24] (λva vi wr=>∃m:Nat,m<=l.length/\vi=PO m/\bK w.heap.size wr va (((l.take m).filter λx=>!x.gone).map λx=>di k0 k1 k2 dg x f)/\Io w wr) (λ_ vi _=>l.length-(intOf vi).toNat);case atStart=>exact⟨0,OB _,rfl,by simpa using bK.nil _ _,HBQ.o⟩
 case round=>
  clear HBQ;obtain⟨m,hml2,rfl,hpw,hbr⟩:=hrel;have HPW:=ae hpw;have HBR:=ae hbr;obtain⟨pa,pc,hpv⟩:=hpw.sl;rw[hpv];rw[hpv] at HPW;clear hpw hbr hpv;by_cases hm2:m<l.length
  .obtain⟨b,off,rfl,hcell⟩:=HPTS.o m hm2;have c1:=af hcell HBR.o;obtain⟨hmw,hex,hxpl⟩:=HL.o l[m] (OE hm2);have HMX:=ae (hmw.next HBR.o).mbr;have HNP:=ae (H8 mb ob R p k0 k1 k2 sv dv dg l[m] f wr (af HM.o.cells.1 HBR.o) (af HM.o.cells.2.1 HBR.o) (HDG.o.below HBR.o) (HOB.o.below HBR.o) HMX.o (HF.o.next HBR.o).mbr hex bf ⟨by rw[hxpl];omega,by rw[hxpl];omega⟩ hR hd k0b k1b k2b);have HTS:Po (l[m].gone=false->(((l.take (m+1)).filter λx=>!x.gone).map λx=>di k0 k1 k2 dg x f)=(((l.take m).filter λx=>!x.gone).map λx=>di k0 k1 k2 dg x f)++[di k0 k1 k2 dg l[m] f]):=λh=>by rw[List.take_add_one,OI hm2,List.filter_append,O0];simp[h]
   have HTG:Po (l[m].gone=true->(((l.take (m+1)).filter λx=>!x.gone).map λx=>di k0 k1 k2 dg x f)=(((l.take m).filter λx=>!x.gone).map λx=>di k0 k1 k2 dg x f)):=λh=>by rw[List.take_add_one,OI hm2,List.filter_append,O0];simp[h]
   have hlen1:(((l.take m).filter λx=>!x.gone).map λx=>di k0 k1 k2 dg x f).length<=2100000:=by rw[OS];have:=Pc (λx:Mm=>!x.gone) (l.take m);rw[O7] at this;omega
   have hgc:=HMX.o.gone;have hmI:(m:Int)<(l.length:Int):=by omega
   generalize (((l.take m).filter λx=>!x.gone).map λx=>di k0 k1 k2 dg x f)=al at HPW HTS HTG hlen1;generalize hx:l[m]=x at*;clear hcell hmw hex hxpl hx;cases hgo:x.gone with
   |true=>
    rw[hgo] at hgc;have HT2:=ae (HTG.o hgo);clear hgo HTS HTG;go_wp2_with fail;go_roundw;case rel=>exact⟨m+1,by omega,by go_num,by rw[HT2.o];exact HPW.o,HBR.o⟩
    case measure=>simp[intOf];omega
   |false=>
    rw[hgo] at hgc;have HT2:=ae (HTS.o hgo);clear hgo HTS HTG;generalize di k0 k1 k2 dg x f=q at HNP HT2;unfold eI at HNP;go_wp2_with (first|(go_at_call 215;refine HNP.o.mono ?_;rintro e w9 ⟨rfl,hb9⟩;have HB9:=ae hb9;have HPA:=ae ((HPW.o.next hb9).next (ai (A:=.cells #[PL q.b1,PL q.b2,PP q.a,PP q.b,PP q.d,PP q.z,PO q.dg,PO q.k] 238)));have HBA:Po (Io wr (w9.alloc (.cells #[PL q.b1,PL q.b2,PP q.a,PP q.b,PP q.d,PP q.z,PO q.dg,PO q.k] 238))/\w.heap.size<=(w9.alloc (.cells #[PL q.b1,PL q.b2,PP q.a,PP q.b,PP q.d,PP q.z,PO q.dg,PO q.k] 238)).heap.size):=⟨In hb9 ai,by have:=HBR.o.size;have:=hb9.size;simp;omega⟩;have HE8:=ae (Bi w9 q 238);clear hb9)|(at_builtin;refine Bk rfl (.tmp 33) (.tmp 38) rfl w.heap.size _ al rfl HPA.o (PN w9.heap.size 0) [q] 1 rfl (by simp) (by simpa [bP] using HE8.o) (by simp;omega) HBA.o.2 ?_;intro v5 w5 q1 q2 q3;obtain⟨va5,vc5,hv5⟩:=q1.sl;subst hv5;have HP5:=ae q1;have HG5:=ae q2;clear q1 q2 q3));go_roundw;case rel=>refine⟨m+1,by omega,by go_num,by rw[HT2.o];have h9:=HP5.o;rw[OM] at h9;exact h9,?_⟩;have hbw:Io w (w9.alloc (.cells #[PL q.b1,PL q.b2,PP q.a,PP q.b,PP q.d,PP q.z,PO q.dg,PO q.k] 238)):=In HBR.o HBA.o.1;exact hbw.grown HG5.o HBA.o.2 λk hk=>(Ot HPA.o.own k hk).1
    case measure=>simp[intOf];omega
  .have e:m=l.length:=by omega
   subst e;rw[OO (Ou _)] at HPW⊢;have hlen1:(((l.filter λx=>!x.gone).map λx=>di k0 k1 k2 dg x f)).length<=2100000:=by rw[OS];have:=Pc (λx:Mm=>!x.gone) l;omega
   generalize hal:((l.filter λx=>!x.gone).map λx=>di k0 k1 k2 dg x f)=al at HPW hlen1⊢;have HAL:=ae hal;clear hal;have HST:=ae (Is w.heap.size _ al wr HPW.o (by omega));go_wp2_with (go_at_call 216;refine HST.o.mono ?_;rintro e w3 ⟨rfl,srt,q1,q2,q3⟩;have HPM:=ae q1;have HP3:=ae q2;have HB3:Po (Io w w3):=HBR.o.trans (q3.to_below HBR.o.size λk hk=>(Ot HPW.o.own k hk).1);clear q1 q2 q3);have hsl:srt.length=al.length:=HPM.o.length_eq;have HSL:=ae hsl;clear hsl HST HPW;go_loopw [8,45] (λvk vi wr2=>∃(m:Nat)(kept:PF),m<=srt.length/\vi=PO m/\kept.length<=m/\bN kept (srt.drop m)=bN [] srt/\bK w.heap.size wr2 vk kept/\(∀k,vk.ownBlock=some k->(Value.slice pa al.length pc).ownBlock≠some k)/\bK w.heap.size wr2 (.slice pa al.length pc) srt/\Io w wr2) (λ_ vi _=>srt.length-(intOf vi).toNat);case atStart=>exact⟨0,[],OB _,rfl,Ou _,rfl,bK.nil _ _,λk hk=>by simp[Value.ownBlock] at hk,HP3.o,HB3.o⟩
   case round=>
    clear HP3 HB3 HBR;rename PJ=>wr1;obtain⟨m,kept,hms,rfl,hkm,hgr,hkw,hkd,hall,hb1⟩:=hrel;have HKW:=ae hkw;have HKD:=ae hkd;have HALL:=ae hall;have HB1:=ae hb1;have HGR:=ae hgr;obtain⟨ka,kc,hkv⟩:=hkw.sl;subst hkv;clear hkw hkd hall hb1 hgr;by_cases hm2:m<srt.length
    .have hma:m<al.length:=by have:=HSL.o;omega
     obtain⟨a2,c2,e2,h2⟩:=HALL.o.rq;simp only[OQ] at e2;obtain⟨rfl,hlq,rfl⟩:=e2;clear hlq;obtain⟨b,off,rfl,hpq⟩:=h2 m hm2;obtain⟨f0,f1,f2,f3,f4,f5,f6,f7⟩:=hpq;have HST:=ae (Iu kept srt m hm2);have hmI:(m:Int)<(al.length:Int):=by omega
     obtain⟨w2,hw2⟩:∃w2,w2=wr1.alloc (.cells #[PL (srt[m].b1),PL (srt[m].b2),PP srt[m].a,PP srt[m].b,PP srt[m].d,PP srt[m].z,PO srt[m].dg,PO srt[m].k] 238):=⟨_,rfl⟩;have HB2:Po (Io wr1 w2):=by rw[hw2];exact ai
     have HX2:Po (iG w2 wr1.heap.size 0 srt[m]):=by rw[hw2];exact(lh (Ou _) _).at
     have HCT:=ae (Ie wr1.heap.size (λq r=>r=jO q srt[m]) (.slice ka kept.length kc) kept w2 (HKW.o.next HB2.o).rq (by omega) λW q hb hq=>(It wr1.heap.size q srt[m] W (HX2.o.keep hb)).mono λe w' h=>⟨_,h.1,rfl,h.2⟩);generalize srt[m]=x at*;clear h2;go_upto_region 13 with fail;rw[<-hw2];clear hw2 f0 f1 f2 f3 f4 f5 f6 f7;go_upto_region 14 with (go_at_call 218;refine HCT.o.mono ?_;rintro e w9 ⟨r9,rfl,q1,q2,q3⟩;have HR9:=ae (Ow q1 q2);have HB9:=ae (In HB2.o q3);have HX9:=ae (HX2.o.keep q3);clear q1 q2 q3;cases r9)
     .have hany:kept.any (λq=>jO q x)=false:=by rw[List.any_eq_false];intro q hq;have:=HR9.o.1 (by trivial) q hq;simp[<-this]
      rw[hany] at HST;have HG2:Po (bN (kept++[x]) (srt.drop (m+1))=bN [] srt):=by show _=_;rw[<-HGR.o,HST.o];simp
      clear hany HST;obtain⟨y0,y1,y2,y3,y4,y5,y6,y7⟩:=HX9.o;simp only[ON] at y0 y1 y2 y3 y4 y5 y6 y7;have HPA:=ae ((HKW.o.next HB9.o).next (ai (A:=.cells #[PL x.b1,PL x.b2,PP x.a,PP x.b,PP x.d,PP x.z,PO x.dg,PO x.k] 238)));have HBA:Po (Io wr1 (w9.alloc (.cells #[PL x.b1,PL x.b2,PP x.a,PP x.b,PP x.d,PP x.z,PO x.dg,PO x.k] 238))/\w.heap.size<=(w9.alloc (.cells #[PL x.b1,PL x.b2,PP x.a,PP x.b,PP x.d,PP x.z,PO x.dg,PO x.k] 238)).heap.size):=⟨In HB9.o ai,by have:=HB1.o.size;have:=HB9.o.size;simp;omega⟩;have HE8:=ae (Bi w9 x 238);have HAL9:=ae (HALL.o.next HBA.o.1);have HBW:=ae (In HB1.o HBA.o.1);go_wp2_with (at_builtin;refine Bk rfl (.tmp 53) (.tmp 55) rfl w.heap.size _ kept rfl HPA.o (PN w9.heap.size 0) [x] 1 rfl (by simp) (by simpa [bP] using HE8.o) (by simp;omega) HBA.o.2 ?_;intro v5 w5 q1 q2 q3;obtain⟨va5,vc5,hv5⟩:=q1.sl;subst hv5;have HP5:=ae q1;have HG5:=ae q2;have HL5:=ae q3;clear q1 q2 q3);go_roundw;case rel=>
       refine⟨m+1,kept++[x],by omega,by go_num,by simp;omega,HG2.o,by have h9:=HP5.o;rw[OM] at h9;exact h9,λk hk=>?_,?_,HBW.o.grown HG5.o HBA.o.2 λk hk=>(Ot HPA.o.own k hk).1⟩
       .have hL:=HL5.o;have hk2:(Value.slice va5 (kept++[x]).length vc5).ownBlock=some k:=by rw[<-hk];cases va5<;>rfl
        rcases hL with e|e
        .rw[e] at hk2;exact HKD.o k hk2
        .rw[e] at hk2;intro e2;exact Nat.ne_of_gt (Ot HAL9.o.own k e2).2 (Option.some.inj hk2)
       .exact HAL9.o.frm (aj.of_grown (S:=λk=>(Value.slice ka kept.length kc).ownBlock=some k) HG5.o λk e=>e) λk hk e=>HKD.o k e hk
      case measure=>simp[intOf];omega
     .have hany:kept.any (λq=>jO q x)=true:=by obtain⟨q,hq,e⟩:=HR9.o.2 (by trivial);exact List.any_eq_true.2 ⟨q,hq,e.symm⟩
      rw[hany] at HST;have HG2:Po (bN kept (srt.drop (m+1))=bN [] srt):=by show _=_;rw[<-HGR.o,HST.o];simp
      clear hany HST;go_wp2_with fail;go_roundw;case rel=>exact⟨m+1,kept,by omega,by go_num,by omega,HG2.o,HKW.o.next HB9.o,HKD.o,HALL.o.next HB9.o,In HB1.o HB9.o⟩
      case measure=>simp[intOf];omega
    .have e:m=srt.length:=by omega
     subst e;have HE:=HGR.o;rw[List.drop_of_length_le (Ou _)] at HE;have HEE:=ae HE;clear HE;have hsI:¬(srt.length:Int)<(al.length:Int):=by have:=HSL.o;omega
     go_wp2;go_ret;refine⟨_,rfl,srt,by rw[HAL.o];exact HPM.o,?_,HB1.o⟩;rw[<-HEE.o];exact HKW.o
theorem Tryz.infoPm:(prog.info? 81).map (λi=>(i.zero,i.size,i.bytes))=some (some (.pointer none),1,8):=by kernel_rfl
theorem Iw(ms:PD)(f:Mm)(pl:Nat):a8 (ms++[f]) pl=if f.L.pl=pl then a8 ms pl++[f] else a8 ms pl:=by
 unfold a8;rw[List.filter_append];by_cases h:f.L.pl=pl
 .rw[OW h];simp[h]
 .rw[OV h];simp[h]
theorem AN(ty:TypeId)(B:Nat)(v:PK)(l:PD)(f:Mm)(h:w.ownsRow B 81 1 v l.length (l.map ee))(hk:∀g,v.ownBlock=some g->bU d8 w g)(ad:Addr)(c:Nat)(hnew:w.cell? ad=some (ee f))(hn:l.length<=600000000000)(hB:B<=w.heap.size):∃v' w',(Builtin.append_ #[128,128] ty #[v,.slice (some ad) 1 c]).run prog w=.ok v' w'/\w'.ownsRow B 81 1 v' (l++[f]).length ((l++[f]).map ee)/\w.grownBy w' v.ownBlock/\(∀g,v'.ownBlock=some g->bU d8 w' g)/\(v'.ownBlock=v.ownBlock\/v'.ownBlock=some w.heap.size):=by
 obtain⟨i0,hi,hz0,hz1,hz2⟩:=info_parts Tryz.infoPm;obtain⟨v',w',hr2,h2,h3,h4,h5⟩:=vL (P:=prog) w d8 B 128 ty 81 i0 _ 1 8 underlying128 hi hz0 hz1 hz2 rfl (by decide) (λu hu x e=>by subst e;simp[Value.cells] at hu) v l.length (l.map ee) h hk ad 1 c [ee f] (by decide) rfl (λj u hj=>by
  match j,hj with
  |0,hj=>
   have e:ad.add 0=ad:=by cases ad;unfold Addr.add;split<;>simp_all
   rw[e,hnew];exact hj) (λu hu=>by rw[OL] at hu;subst hu;rfl) (λu hu x e=>by rw[OL] at hu;subst hu;simp[ee] at e) (by unfold maxLen;omega) (by omega) hB
 refine⟨v',w',hr2,?_,h3,h4,h5⟩;rw[OM,O0];exact h2
variable{n R g B:Nat}{f:Mm}{ms:PD}{us:PH}{p:Int}
theorem eZ.snoc{w5:PJ}{v5:PK}(h:eZ p B w R g us ms)(hf:b9 p B w f)(hfd:∀x∈ms,x.blk≠f.blk)(hB:B<=w.heap.size)(hn:n<R)(hpl:f.L.pl=n)(h5:w5.ownsRow B 81 1 v5 (a8 ms n++[f]).length ((a8 ms n++[f]).map ee))(hg5:w.grownBy w5 (us.getD n aL).ownBlock)(hk5:∀k,v5.ownBlock=some k->bU d8 w5 k)(hl5:v5.ownBlock=(us.getD n aL).ownBlock\/v5.ownBlock=some w.heap.size):eZ p B (w5.setCell (PN g n) v5) R g (us.set n v5) (ms++[f])/\aj (λk=>k=g\/(us.getD n aL).ownBlock=some k) w (w5.setCell (PN g n) v5):=by
 have hul:us.length=R:=by have:=h.o.1;omega
 have hrow:=h.row n hn;have hf5:aj (λk=>(us.getD n aL).ownBlock=some k) w w5:=aj.of_grown hg5 λk e=>e;have hTr:∀{T:TypeId},81≠T->∀k,(us.getD n aL).ownBlock=some k->cq w T k:=λhT k hk=>bj hrow hk hT;have hout5:=dB hf5 h.o (hTr (by decide));have hst:=OF hout5 n v5;have hf6:aj (λk=>k=g) w5 (w5.setCell (PN g n) v5):=aj.of_grown hst.2 λk e=>by simpa using e.symm
 have hTg:∀{T:TypeId},128≠T->∀k,k=g->cq w5 T k:=λhT k e=>by subst e;exact bj hout5 rfl hT
 have hff:aj (λk=>k=g\/(us.getD n aL).ownBlock=some k) w (w5.setCell (PN g n) v5):=(hf5.wide (T:=λk=>k=g\/(us.getD n aL).ownBlock=some k) λ_ _ h=>Pg h).trans hf6 λk _ e=>Pf e;have hkg5:bU d8 w5 g:=by refine hf5.kdb h.okd (Ot h.o g rfl).2 λe=>?_;obtain⟨ag,e2⟩:=cF h.o (g:=g) rfl;exact hTr (T:=128) (by decide) g e ag e2
 have hnb:d8 v5:=by obtain⟨a,c,e⟩:=cl h5;intro x ex;rw[e] at ex;simp at ex
 have h8:dy w (w5.setCell (PN g n) v5):=(dy.of_frm hf5 λk hk=>h.rkd n hn k hk).trans (dy.of_frm hf6 λk hk=>by rw[hk];exact hkg5);have hgd:∀j,(us.set n v5).getD j aL=if j=n then v5 else us.getD j aL:=λj=>by
  rw[oc];by_cases e:n=j
  .subst e;rw[OW ⟨rfl,by omega⟩,OW rfl]
  .rw[OV (λh=>e h.1),OV (λh=>e h.symm)]
 have hmw:∀y,b9 p B w y->b9 p B (w5.setCell (PN g n) v5) y:=λy hy=>hy.frm hff h8 λhs=>by
  rcases hs with e|e
  .exact hy.nob h.okd e
  .exact hy.nob (h.rkd n hn _ e) rfl
 refine⟨⟨hst.1,kD hkg5 hnb,λj hj=>?_,λj hj k hk=>?_,λi j hi hj hne k hki hkj=>?_,λx hx=>?_,?_⟩,hff⟩
 .rw[hgd,Iw];by_cases e:j=n
  .subst e;rw[OW rfl,OW hpl];exact dB hf6 h5 (hTg (by decide))
  .rw[OV e,OV (by omega)];refine dB hf6 (hf5.own (h.row j hj) λk hk=>?_) (hTg (by decide));exact h.dis j n hj hn e k hk
 .rw[hgd] at hk;by_cases e:j=n
  .rw[OW e] at hk;refine hf6.kdb (hk5 k hk) (Ot h5 k hk).2 λe2=>?_;obtain⟨ag,e3⟩:=cF h5 hk;exact hTg (T:=81) (by decide) k e2 ag e3
  .rw[OV e] at hk;have h1:bU d8 w5 k:=hf5.kdb (h.rkd j hj k hk) (Ot (h.row j hj) k hk).2 (h.dis j n hj hn e k hk);have ho5:w5.ownsRow B 81 1 (us.getD j aL) _ _:=hf5.own (h.row j hj) λk hk=>h.dis j n hj hn e k hk;refine hf6.kdb h1 (Ot ho5 k hk).2 λe2=>?_;obtain⟨ag,e3⟩:=cF ho5 hk;exact hTg (T:=81) (by decide) k e2 ag e3
 .rw[hgd] at hki hkj;by_cases e1:i=n
  .have e2:j≠n:=by omega
   rw[OW e1] at hki;rw[OV e2] at hkj;rcases hl5 with e|e
   .rw[e] at hki;exact h.dis n j hn hj (by omega) k hki hkj
   .rw[e] at hki;simp only[OP] at hki;have:=(Ot (h.row j hj) k hkj).2;omega
  .rw[OV e1] at hki;by_cases e2:j=n
   .rw[OW e2] at hkj;rcases hl5 with e|e
    .rw[e] at hkj;exact h.dis i n hi hn e1 k hki hkj
    .rw[e] at hkj;simp only[OP] at hkj;have:=(Ot (h.row i hi) k hki).2;omega
   .rw[OV e2] at hkj;exact h.dis i j hi hj hne k hki hkj
 .rcases OK.1 hx with hx|hx
  .exact hmw x (h.mem x hx)
  .rw[OL] at hx;subst hx;exact hmw _ hf
 .rw[O0];refine List.nodup_append.2 ⟨h.nd,by simp,λa ha b hb=>?_⟩;simp at hb;obtain⟨x,hx,rfl⟩:=OR.1 ha;rw[hb];exact hfd x hx
theorem AM(w:PJ)(b:Nat)(T:TypeId):(w.alloc (.cells #[PL b] T)).cell? (PN w.heap.size 0)=some (PL b):=by simp[go_sem]
theorem Ix(p:Int)(B:Nat)(w:PJ)(mb ob R g:Nat)(dv pv:PK)(us:PH)(ms:PD)(qs:PF)(f:Mm)(hm:bh p B w mb ob R g dv pv us ms qs)(hf:b9 p B w f)(hfd:∀x∈ms,x.blk≠f.blk)(hB:B<=w.heap.size)(hpl:0<=f.L.pl/\f.L.pl<R)(hml:ms.length<=2100000)(hR:R<=255):Calls prog 43 #[PL mb,PL f.blk] w λe w'=>e=.returned (.tuple #[])/\∃us',bh p B w' mb ob R g dv pv us' (ms++[f]) qs/\Below B w w'/\bq w w':=by
 obtain⟨n,hnpl⟩:∃n:Nat,f.L.pl=n:=⟨f.L.pl.toNat,by omega⟩;have hnR:n<R:=by omega
 obtain⟨w1,hw1⟩:∃w1,w1=(w.alloc (.cells #[PL f.blk] 81)).drew:=⟨_,rfl⟩;have HB1:Po (Io w w1):=by rw[hw1];exact(ai (w:=w)).drew
 have HM1:=ae (hm.next HB1.o);have HF1:=ae (hf.next HB1.o);have hB1:B<=w1.heap.size:=OA hB HB1.o.size;have hc1:w1.cell? (PN w.heap.size 0)=some (ee f):=by rw[hw1];exact AM w _ _
 obtain⟨v5,w5,hap,h5,hg5,hk5,hl5⟩:=AN 128 B (us.getD n aL) (a8 ms n) f (HM1.o.mks.row n hnR) (HM1.o.mks.rkd n hnR) (PN w.heap.size 0) 1 hc1 (by have:=Pc (λx:Mm=>decide (x.L.pl=n)) ms;unfold a8;omega) hB1;have hsn:=HM1.o.mks.snoc HF1.o hfd hB1 hnR hnpl h5 hg5 hk5 hl5;have hS:∀{T:TypeId},128≠T->81≠T->∀k,(k=g\/(us.getD n aL).ownBlock=some k)->cq w1 T k:=fun {T} t1 t2 k hk=>by
  rcases hk with e|e
  .subst e;exact bj HM1.o.mks.o rfl t1
  .exact bj (HM1.o.mks.row n hnR) e t2
 have HFIN:Po (bh p B (w5.setCell (PN g n) v5) mb ob R g dv pv (us.set n v5) (ms++[f]) qs/\Below B w (w5.setCell (PN g n) v5)/\bq w (w5.setCell (PN g n) v5)):=by
  refine⟨⟨dB hsn.2 HM1.o.box (hS (by decide) (by decide)),HM1.o.dvs,hsn.1,HM1.o.prs.frm hsn.2 λk hk hs=>?_⟩,(HB1.o.mono hB).trans (hsn.2.to_below hB1 λk hk=>?_),(bq.of_below HB1.o).trans (bq.of_frm hsn.2 (hS (by decide) (by decide)) (hS (by decide) (by decide)) (hS (by decide) (by decide)))⟩
  .obtain⟨ag,e2⟩:=cF HM1.o.prs.own hk;exact hS (T:=238) (by decide) (by decide) k hs ag e2
  .rcases hk with rfl|hk
   .exact(Ot HM1.o.mks.o k rfl).1
   .exact(Ot (HM1.o.mks.row n hnR) k hk).1
 have hf5:aj (λk=>(us.getD n aL).ownBlock=some k) w1 w5:=aj.of_grown hg5 λk e=>e;have hfar:∀{T:TypeId}{bb:PK}{kk ss nn:Nat}{xs:PH},81≠T->w1.ownsRow B T ss (PM kk nn nn) nn xs->¬(us.getD n aL).ownBlock=some kk:=fun {T bb kk ss nn xs} t1 ho e=>by obtain⟨ag,e2⟩:=cF ho (g:=kk) rfl;exact bj (HM1.o.mks.row n hnR) e t1 ag e2
 obtain⟨_,_,m2,_,_⟩:=hm.cells;obtain⟨r0,r1⟩:=hm.mks.at n hnR;have c5:=hf.mbr.div.cells.2.2.2.2.2.1;simp only[ON] at c5;rw[hnpl] at c5;have a2:=af m2 HB1.o;have a0:=af r0 HB1.o;have a5:=af c5 HB1.o;have b2:=hf5.cell a2 (hfar (bb:=aL) (by decide) HM1.o.box);have b0:=hf5.cell a0 (hfar (bb:=aL) (by decide) HM1.o.mks.o);have b5:=hf5.cell a5 (hfar (bb:=aL) (by decide) HF1.o.own);have bz:w5.frozen? (PN g n)=false:=by have ho:=dB hf5 HM1.o.mks.o λk hk=>bj (HM1.o.mks.row n hnR) hk (by decide);exact Oo ho n
 have hnI:(n:Int)<(R:Int):=by omega
 obtain⟨ra,rc,hrow⟩:=cl (HM1.o.mks.row n hnR);obtain⟨va,vc,hv5⟩:=cl h5;rw[pB] at hv5;subst hv5;rw[hrow] at hap r0 a0 b0;unfold ee at hc1;clear hm hf hfd HM1 HF1 hsn hS hf5 hfar h5 hg5 hk5 hl5 hpl hml r1;subst hw1;have d2:(w.alloc (.cells #[PL f.blk] 81)).cell? _=some _:=a2;have d0:(w.alloc (.cells #[PL f.blk] 81)).cell? _=some _:=a0;have d5:(w.alloc (.cells #[PL f.blk] 81)).cell? _=some _:=a5;simp[go_sem] at hap;go_enter func43,ntmps43;go_region;clear hap;go_end0;exact⟨rfl,_,HFIN.o⟩
variable{P:Program}
theorem rL(w:PJ)(base:Nat)(t ty e:TypeId)(i:TypeInfo)(size:Nat)(ht:P.underlying t=some (.slice e))(hi:P.info? e=some i)(v:PK)(n c:Nat)(a:Option Addr)(xs:PH)(hown:w.ownsRow base e size v n xs):(Builtin.append_ #[t,t] ty #[v,.slice a 0 c]).run P w=.ok v w:=by
 cases a with
 |none=>exact Aa w base t ty e i size ht hi v n c xs hown
 |some ad=>
  rcases hown.2 with ⟨rfl,rfl⟩|⟨g,cap,ag,rfl,_,_,hnc,_⟩
  .simp[Builtin.append_,run_underlying ht,sizeOf,typeInfo,hi,Builtin.lenOf,Builtin.firstCells,loadCells,loadCellsFrom]
  .simp[Builtin.append_,run_underlying ht,sizeOf,typeInfo,hi,Builtin.lenOf,Builtin.firstCells,hnc,storeCells,loadCells,loadCellsFrom]
variable{qs:PF}{dv pv:PK}{mb ob:Nat}
theorem bh.app{w3:PJ}{v3:PK}{rs:PF}(hm:bh p B w mb ob R g dv pv us ms qs)(hf:b9 p B w f)(hB:B<=w.heap.size)(hp:bK w.heap.size w3 v3 rs)(hb:Io w w3)(hn:qs.length+rs.length<=2300000000000):∃v4 w4,(Builtin.append_ #[104,104] 104 #[pv,v3]).run prog w3=.ok v4 w4/\w3.cell? (PN mb 3)=some pv/\w4.cell? (PN mb 3)=some pv/\w4.frozen? (PN mb 3)=false/\(∃a c,v4=.slice a (qs++rs).length c)/\bh p B (w4.setCell (PN mb 3) v4) mb ob R g dv v4 us ms (qs++rs)/\b9 p B (w4.setCell (PN mb 3) v4) f/\Below B w (w4.setCell (PN mb 3) v4)/\bq w (w4.setCell (PN mb 3) v4):=by
 have hm3:=hm.next hb;have hf3:=hf.next hb;have hB3:B<=w3.heap.size:=OA hB hb.size;have FIN:∀v4 w4,bK B w4 v4 (qs++rs)->aj (λk=>pv.ownBlock=some k) w3 w4->w3.cell? (PN mb 3)=some pv/\w4.cell? (PN mb 3)=some pv/\w4.frozen? (PN mb 3)=false/\(∃a c,v4=.slice a (qs++rs).length c)/\
   bh p B (w4.setCell (PN mb 3) v4) mb ob R g dv v4 us ms (qs++rs)/\b9 p B (w4.setCell (PN mb 3) v4) f/\Below B w (w4.setCell (PN mb 3) v4)/\bq w (w4.setCell (PN mb 3) v4):=λv4 w4 h1 h2=>by
  have hbx:w4.ownsRow B 107 5 (jT mb) 1 (iH ob g R dv pv):=dB h2 hm3.box λk hk=>bj hm3.prs.own hk (by decide);obtain⟨r1,r2,r3⟩:=hm3.repair hB3 h2 h1;have hS9:∀{T:TypeId},107≠T->238≠T->∀k,(k=mb\/pv.ownBlock=some k)->cq w3 T k:=λt1 t2 k hk=>by
   rcases hk with rfl|hk
   .exact bj hm3.box rfl t1
   .exact bj hm3.prs.own hk t2
  refine⟨hm3.cells.2.2.2.1,?_,Oo hbx 3,h1.sl,r1,?_,(hb.mono hB).trans r3,(bq.of_below hb).trans (bq.of_frm r2 (hS9 (by decide) (by decide)) (hS9 (by decide) (by decide)) (hS9 (by decide) (by decide)))⟩
  .have:=Oq hbx 3 (by omega);rw[this];rfl
  .refine hf3.frm r2 (dy.of_frm r2 λk hk=>?_) λhs=>?_
   .rcases hk with rfl|hk
    .exact hm3.kd
    .exact hm3.prs.kd k hk
   .rcases hs with e|e
    .exact hf3.nob hm3.kd e
    .exact hf3.nob (hm3.prs.kd _ e) rfl
 by_cases h0:rs.length=0
 .have e:rs=[]:=List.eq_nil_of_length_eq_zero h0;subst e;obtain⟨a,c,rfl⟩:=hp.sl;obtain⟨i0,hi,_,_,_⟩:=info_parts Tryz.infoPr;refine⟨pv,w3,rL w3 B _ _ _ i0 8 underlying104 hi pv qs.length c a (bP qs) hm3.prs.own,FIN pv w3 (by rw[List.append_nil];exact hm3.prs) (aj.refl _ _)⟩
 .rcases hp.own.2 with ⟨h1,h2⟩|⟨g2,cap,ag,rfl,_⟩
  .exfalso;exact h0 (by simpa [i6] using h2)
  .obtain⟨v4,w4,hr,h1,h2,_⟩:=Bj 104 B pv qs hm3.prs (PN g2 0) rs cap (by omega) (λj y hj=>by
    have hlen:(bP rs).length=rs.length*8:=i6 rs;have hj8:j<rs.length*8:=by rw[<-hlen];exact(List.getElem?_eq_some_iff.1 hj).1
    have:=Oq hp.own j (by omega);rw[hj] at this;by_cases ej:j=0
    .subst ej;simpa [Addr.add] using this
    .simpa [Addr.add,ej] using this) hn hB3
   exact⟨v4,w4,hr,FIN v4 w4 h1 (aj.of_grown h2 λk e=>e)⟩
variable{x:Mm}
theorem bh.put(hm:bh p B w mb ob R g dv pv us ms qs)(hf:b9 p B w f)(hB:B<=w.heap.size)(hx:x∈ms)(hfx:f.blk≠x.blk)(c:Bool):bh p B (w.setCell (PN x.blk 10) (.bool c)) mb ob R g dv pv us (ms.map (gz x.blk c)) qs/\b9 p B (w.setCell (PN x.blk 10) (.bool c)) f/\Below B w (w.setCell (PN x.blk 10) (.bool c))/\bq w (w.setCell (PN x.blk 10) (.bool c)):=by
 obtain⟨h1,h2,h8⟩:=(hm.mks.mem x hx).put c;have hfr:aj (λk=>k=x.blk) w (w.setCell (PN x.blk 10) (.bool c)):=aj.of_grown h2 λk e=>by simpa using e.symm
 have hT:∀{T:TypeId},132≠T->∀k,k=x.blk->cq w T k:=λhT k e=>by subst e;exact bj (hm.mks.mem x hx).own rfl hT
 refine⟨⟨dB hfr hm.box (hT (by decide)),hm.dvs,hm.mks.put hx c,hm.prs.frm hfr λk hk e=>?_⟩,hf.frm hfr h8 hfx,hfr.to_below hB λk hk=>?_,bq.of_frm hfr (hT (by decide)) (hT (by decide)) (hT (by decide))⟩
 .obtain⟨ag,e2⟩:=cF hm.prs.own hk;exact hT (T:=238) (by decide) k e ag e2
 .subst hk;exact(hm.mks.mem x hx).lt.1
theorem kr{y:Mm}(hnd:(ms.map Mm.blk).Nodup)(hx:x∈ms)(hy:y∈ms)(e:x.blk=y.blk):x=y:=by
 induction ms with
 |nil=>simp at hx
 |cons z zs ih=>
  rw[List.map_cons,List.nodup_cons] at hnd;rcases OY.1 hx with rfl|hx2
  .rcases OY.1 hy with rfl|hy2
   .rfl
   .exact absurd (OR.2 ⟨y,hy2,e.symm⟩) hnd.1
  .rcases OY.1 hy with rfl|hy2
   .exact absurd (OR.2 ⟨x,hx2,e⟩) hnd.1
   .exact ih hnd.2 hx2 hy2
def lE(L:Ft)(x:Mm):Mm:={x with gone:=x.gone||cA L x.L}
def fd(L:Ft)(bs:List Nat)(x:Mm):Mm:=if x.blk∈bs then lE L x else x
theorem Bl(L:Ft)(bs:List Nat)(x:Mm):(fd L bs x).L=x.L/\(fd L bs x).blk=x.blk:=by unfold fd lE;split<;>simp
variable{L:Ft}
theorem Iy{bs:List Nat}(hnd:(ms.map Mm.blk).Nodup)(hx:x∈ms)(hb:x.blk∉bs):(ms.map (fd L bs)).map (gz x.blk (x.gone||cA L x.L))=ms.map (fd L (bs++[x.blk])):=by
 rw[List.map_map];refine List.map_congr_left λy hy=>?_;by_cases e:y.blk=x.blk
 .have exy:y=x:=kr hnd hy hx e;subst exy;simp[fd,lE,gz,hb]
 .have e2:y.blk≠x.blk:=e;by_cases h:y.blk∈bs
  .simp[fd,lE,gz,h,e2]
  .simp[fd,gz,h,e2]
def aU(L:Ft)(x:Mm):Mm:=if x.L.pl=L.pl then lE L x else x
theorem Iz(hL:L.pl=n)(hnd:(ms.map Mm.blk).Nodup):ms.map (fd L ((a8 ms n).map Mm.blk))=ms.map (aU L):=by
 refine List.map_congr_left λy hy=>?_;unfold fd aU;have:y.blk∈(a8 ms n).map Mm.blk↔y.L.pl=L.pl:=by
  rw[hL];constructor
  .intro h;obtain⟨x,hx,e⟩:=OR.1 h;have:=kr hnd (O5.1 hx).1 hy e;subst this;simpa using (O5.1 hx).2
  .intro h;exact OR.2 ⟨y,O5.2 ⟨hy,by simpa using h⟩,rfl⟩
 simp[this]
def lk(ms:PD)(b:Nat):Ft:=((ms.find? λx=>x.blk==b).map Mm.L).getD ⟨0,0,0,0,0,0,0⟩
theorem nc(hnd:(ms.map Mm.blk).Nodup)(hx:x∈ms):lk ms x.blk=x.L:=by
 unfold lk;cases h:ms.find? λy=>y.blk==x.blk with
 |none=>have:=List.find?_eq_none.1 h x hx;simp at this
 |some y=>have h1:=List.mem_of_find?_eq_some h;have h2:=List.find?_some h;have:=kr hnd h1 hx (by simpa using h2);subst this;rfl
def fL(ms:PD)(L:Ft)(q:Pq):Bool:=lB (lk ms q.b1) (lk ms q.b2) L q
theorem rM{w':PJ}{K:Act->PJ->Prop}{E:Prop}(hgd:o.guard=none)(s x:Operand)(t ty:TypeId)(ho:o.op=.call {callee:=.builtin .append,args:=#[s,x],argTypes:=#[t,t]})(hty:o.type=ty)(v u v':PK)(hs:a.eval s=v)(hx:a.eval x=u)(hrun:(Builtin.append_ #[t,t] ty #[v,u]).run P w=.ok v' w')(hK:K (a.put o.dst v') w'):if Region.wanted o (yielded ops a.tmps)=true then Oper.wp P o a w K Q else E:=by
 have hw:Region.wanted o (yielded ops a.tmps)=true:=by simp[Region.wanted,hgd]
 rw[OW hw];subst hty;unfold Oper.wp execOp;simp only[ho,resolve,invoke,builtin,Sem.run_bind,Sem.run_pure,Result.andThen_ok,List.map_toArray,List.map_cons,List.map_nil,hs,hx,hrun];exact hK
variable{listed:Array Bool}{fuel:Nat}{v:PK}{oi:Oper}{S:PJ->Prop}{md:Region.Mode}
theorem gA{i:Nat}{d:Option Tmp}(hi:ops[i]?=some oi)(hd:oi.dst=d)(hs:Region.noSelect ops=true)(hf:Region.free md ops listed i=true)(hr:(Region.ready md ops listed).contains i=true)(hQ:∀c a w,Q (.panic c) (a.put d v) w->Q (.panic c) a w)(hy:YieldsIf P ops S oi v a)(hS:S w)(h:wpAnyH P md ops Q S fuel (listed.setIfInBounds i true) (a.put d v) w):wpAnyH P md ops Q S (fuel+1) listed a w:=by subst hd;exact wpAnyH_take hi hs hf hr hQ hy hS h
theorem IA(L:Ft)(ms:PD):ms.map (fd L [])=ms:=by
 have:fd L []=id:=by funext x;simp[fd]
 rw[this,List.map_id]
theorem cJ(L:Ft)(x:Mm):(aU L x).L=x.L/\(aU L x).blk=x.blk/\(aU L x).r=x.r:=by unfold aU lE;split<;>simp
theorem IB{l:PD}{m:Nat}(hnd:(l.map Mm.blk).Nodup)(hm:m<l.length):l[m].blk∉(l.take m).map Mm.blk:=by
 intro h;obtain⟨y,hy,e⟩:=OR.1 h;obtain⟨j,hj,e2⟩:=Pm.1 hy;rw[O7] at hj;rw[List.getElem_take] at e2;have h1:(l.map Mm.blk)[j]'(by simp;omega)=(l.map Mm.blk)[m]'(by simp;omega):=by simp[e2,e]
 have:=(List.getElem_inj hnd).1 h1;omega
theorem Gl(p k0 k1 k2:Int)(w0 w:PJ)(mb ob R g:Nat)(dv pv sv vv:PK)(us:PH)(ms:PD)(qs:PF)(t:Ft)(ts:PB)(dg:Nat->Int)(hb0:Io w0 w)(hm:bh p w0.heap.size w mb ob R g dv pv us ms qs)(hob:aQ w0 ob p k0 k1 k2 sv)(hdg:iI w0 dv R dg)(hpr:bA p=0)(hd:∀pl,pl<R->0<=dg pl/\dg pl<=100000)(hR:R<=255)(k0b:0<=k0/\k0<=137438953472)(k1b:0<=k1/\k1<=137438953472)(k2b:0<=k2/\k2<=137438953472)(bx:∀x∈ms,mv x.L)(hc:0<t.c/\t.c<p)(hfs:∀u∈t::ts,im p u)(hlen:(t::ts).length<=1100000000000)(hfv:Fv w vv (t::ts))(hpl:0<=t.pl/\t.pl<R)(hml:ms.length<=2100000)(hql:qs.length<=2100000000000)(hq:∀q∈qs,∃x y,x∈ms/\y∈ms/\q.b1=x.blk/\q.b2=y.blk):Calls prog 146 #[PL mb,vv] w λe w'=>e=.returned (.tuple #[])/\∃pv' us' f srt,f.L=dM p (aV p t.c) t/\f.r=ts.map (dM p (aV p t.c))/\f.gone=false/\(∀x∈ms,x.blk≠f.blk)/\srt.Perm ((ig ms t.pl.toNat).map λx=>di k0 k1 k2 dg x f)/\bh p w0.heap.size w' mb ob R g dv pv' us' (ms.map (aU f.L)++[f]) (qs.filter (λq=>!fL ms f.L q)++bN [] srt)/\Below w0.heap.size w w'/\bq w w':=by
 obtain⟨n,hnpl⟩:∃n:Nat,t.pl=n:=⟨t.pl.toNat,by omega⟩;have hnR:n<R:=by omega
 have hnI:(n:Int)<(R:Int):=by omega
 have HOB:Po (∀W,Io w0 W->aQ W ob p k0 k1 k2 sv):=λW h=>hob.below h;have HDG:Po (∀W,Io w0 W->iI W dv R dg):=λW h=>hdg.below h;have hi:=nY hpr hc;have HMO:=ae (HJ ob p k0 k1 k2 sv vv t ts w (HOB.o w hb0) hpr k0b k1b k2b hc hfs hlen hfv);obtain⟨L,hL⟩:∃L,L=dM p (aV p t.c) t:=⟨_,rfl⟩;obtain⟨r,hr⟩:∃r,r=ts.map (dM p (aV p t.c)):=⟨_,rfl⟩;have hLc:0<L.c/\L.c<p:=by rw[hL];have:=dY hpr;simp only[dM];rw[hi.2.2];omega
 have hLp:L.pl=n:=by rw[hL];exact hnpl
 have bf:mv L:=by have:=hfs t (by simp);rw[hL];exact⟨this.k,this.a,this.b,this.d,this.z⟩
 have htn:t.pl.toNat=n:=by omega
 have htl:L.pl.toNat=n:=by omega
 rw[htn];rw[List.map_cons,<-hL,<-hr] at HMO;rw[<-hL,<-hr];have HM:=ae hm;have HB0:=ae hb0;have HQ:=ae hq;have HHD:=ae hd;have HBX:=ae bx;have HBF:=ae bf;obtain⟨va,vc,hvv,_,_⟩:=hfv;subst hvv;have m0:=hm.cells.1;clear hm hb0 hq hd bx bf hob hdg hi hfs hc hL hr htn;clear hpl hnpl;go_enter func146,ntmps146;go_upto_region 1 with (first|(go_at_call 180;refine HMO.o.mono ?_;rintro e w2 ⟨u2,rfl,q1,q2⟩;have HB2:=ae q2;have HB02:=ae (In HB0.o q2);have HNM:=ae (rG w0.heap.size mb ob p k0 k1 k2 sv u2 L r w2 HB02.o.size (af m0 q2) (HOB.o w2 HB02.o) hpr hLc q1);obtain⟨ua2,uc2,hu2,_,_⟩:=q1;subst hu2;clear q2)|(go_at_call 44;refine HNM.o.mono ?_;rintro e w3 ⟨blk,rv,rfl,q1,q2,q3⟩;have HF3:=ae q1;have HB3:=ae (In HB2.o q3);have HBK:Po (w.heap.size<=blk):=OA HB2.o.size q2;clear q1 q2 q3));obtain⟨f,hf⟩:∃f:Mm,f=⟨blk,L,rv,r,false⟩:=⟨_,rfl⟩;rw[<-hf] at HF3;have hfb:blk=f.blk:=by rw[hf]
 have hfL:L=f.L:=by rw[hf]
 have HFR:Po (f.r=r/\f.gone=false):=by rw[hf];exact⟨rfl,rfl⟩
 have HM3:=ae (HM.o.next HB3.o);have HB03:=ae (In HB0.o HB3.o);have HNE:Po (∀x∈ms,x.blk≠f.blk):=λx hx e=>by have h1:=(HM.o.mks.mem x hx).lt.2;have h2:=HBK.o;rw[hfb] at h2;omega
 have hnd:=HM.o.mks.nd;have HND:=ae hnd;have HDP:=ae (Ih p w0.heap.size w3 mb ob R g dv pv us ms qs f (fL ms L) HM3.o HB03.o.size HF3.o hql λq hq=>by
  obtain⟨x,y,hx,hy,e1,e2⟩:=HQ.o q hq;exact⟨x,y,hx,hy,e1,e2,by unfold fL;rw[e1,e2,nc hnd hx,nc hnd hy,hfL]⟩)
 have HFL:Po (f.L=L):=hfL.symm;rw[hfL] at HDP HBF hLp htl;have hLP:Po (f.L.pl=n):=hLp;rw[hfb];clear hf hfb hfL hnd HMO HNM HB2 HB02 m0 HQ hLc;go_upto_region 2 with (go_at_call 181;refine HDP.o.mono ?_;rintro e w4 ⟨rfl,pv4,q1,q2,q3,q9⟩;have HK4:=ae ((bq.of_below HB3.o).trans q9);have HM4:=ae q1;have HF4:=ae q2;have HB4:=ae ((HB3.o.mono HB0.o.size).trans q3);have HB04:=ae (HB03.o.trans q3);clear q1 q2 q3 q9);have hlq:(qs.filter λq=>!fL ms f.L q).length<=2100000000000:=OA (Pc _ _) hql;generalize hq4:(qs.filter λq=>!fL ms f.L q)=q4 at HM4 hlq;have HQ4:=ae hq4;clear hq4;clear HDP HM3 HF3 HB3 HB03 HB0;have hB4:w0.heap.size<=w4.heap.size:=HB04.o.size;have HNP:=ae (Iv p w0.heap.size w4.drew mb ob R g dv pv4 sv us ms q4 f k0 k1 k2 dg (HM4.o.next (Ov _ _).drew) (HF4.o.next (Ov _ _).drew) (HOB.o _ HB04.o.drew) (HDG.o _ HB04.o.drew) HHD.o hR k0b k1b k2b HBX.o HBF.o ⟨by omega,by omega⟩ hml);rw[htl] at HNP;have HALN:Po ((ig ms n).length<=2100000):=by refine OA (Pc _ _) (OA (Pc _ _) hml)
 have HAPP:Po (∀w5 v5 srt,srt.Perm ((ig ms n).map λx=>di k0 k1 k2 dg x f)->bK w4.drew.heap.size w5 v5 (bN [] srt)->Below w4.drew.heap.size w4.drew w5->∃v6 w6,(Builtin.append_ #[104,104] 104 #[pv4,v5]).run prog w5=.ok v6 w6/\w5.cell? (PN mb 3)=some pv4/\w6.cell? (PN mb 3)=some pv4/\w6.frozen? (PN mb 3)=false/\(∃a c,v6=.slice a (q4++bN [] srt).length c)/\bh p w0.heap.size (w6.setCell (PN mb 3) v6) mb ob R g dv v6 us ms (q4++bN [] srt)/\b9 p w0.heap.size (w6.setCell (PN mb 3) v6) f/\Below w0.heap.size w4.drew (w6.setCell (PN mb 3) v6)/\bq w4.drew (w6.setCell (PN mb 3) v6)):=λw5 v5 srt h1 h2 h3=>by refine bh.app (HM4.o.next (Ov _ _).drew) (HF4.o.next (Ov _ _).drew) hB4 h2 h3 ?_;have e1:=vM srt [];have e2:=h1.length_eq;rw[OS] at e2;have:=HALN.o;simp only[List.length_nil] at e1;omega
 obtain⟨pa4,pc4,hpv4⟩:=HM4.o.prs.sl;have c34:=HM4.o.cells.2.2.2.1;rw[hpv4] at c34 HAPP;clear hpv4;go_region_law (first|(refine rM rfl (.tmp 22) (.tmp 25) 104 104 rfl rfl _ _ _ (by simp[Act.eval,Act.put]) (by simp[Act.eval,Act.put]) HAP.o ?_)|(go_simp;refine HNP.o.mono ?_;rintro e w5 ⟨v5,rfl,srt,q1,q2,q3⟩;obtain⟨v6,w6,h1,h2,h3,h4,⟨va6,vc6,h5⟩,h6,h7,h8,h10⟩:=HAPP.o w5 v5 srt q1 q2 q3;rw[OM] at h5;subst h5;obtain⟨va5,vc5,h9⟩:=q2.sl;subst h9;have HAP:=ae h1;have HPM:=ae q1;have HM6:=ae h6;have HF6:=ae h7;have HB6:=ae (HB4.o.drew.trans h8);have HK6:=ae ((HK4.o.trans (bq.of_below (Ov _ _).drew)).trans h10);clear h1 q1 q2 q3 h6 h7 h8 h10;dsimp only));all_goals
  clear HNP HAPP HAP HALN;generalize w6.setCell (PN mb 3) _=w7 at HM6 HF6 HB6 HK6⊢;have HPT:=ae (HM6.o.mks.pts n hnR);obtain⟨ra,rc,hrow,_⟩:=HPT.o;have HROW:=ae hrow;have a2:=HM6.o.cells.2.2.1;have a0:=(HM6.o.mks.at n hnR).1;rw[hrow] at a0;have a5:=HF6.o.mbr.div.cells.2.2.2.2.2.1;simp only[ON] at a5;rw[hLP.o] at a5;clear hrow HPT;go_wp2_with fail;go_quiet (fail);have HB7:=ae (below_drewN HB6.o nq);have HK7:=ae (HK6.o.trans (bq.of_below (below_drewN (Ov _ _) nq)));have HM7:=ae (HM6.o.next (below_drewN (Ov _ _) nq));have HF7:=ae (HF6.o.next (below_drewN (Ov _ _) nq));clear a2 a0 a5 HM6 HF6 HB6 HK6;generalize w7.drewN nq=w8 at*;clear h2 h3 h4 c34 HM4 HF4 HOB HDG HHD HBX;have HLN:Po ((a8 ms n).length<=2100000):=OA (Pc _ _) hml;have HSUB:Po (∀x∈a8 ms n,x∈ms):=λx hx=>(O5.1 hx).1;have HLND:Po (((a8 ms n).map Mm.blk).Nodup):=List.Nodup.sublist (List.Sublist.map _ List.filter_sublist) HND.o;have HALL:=ae (Iz (L:=f.L) (ms:=ms) (n:=n) hLP.o HND.o);have HATP:Po (∀bs,a8 (ms.map (fd f.L bs)) n=(a8 ms n).map (fd f.L bs)):=λbs=>Bm _ (λx=>(Bl f.L bs x).1) ms n;have hln:=HLN.o;generalize hl:a8 ms n=l at*;clear hl;go_wp2_with fail;go_loopw [42] (λvi wr=>∃m:Nat,m<=l.length/\vi=PO m/\bh p w0.heap.size wr mb ob R g dv (.slice va6 (q4.length+(bN [] srt).length) vc6) us (ms.map (fd f.L ((l.take m).map Mm.blk))) (q4++bN [] srt)/\b9 p w0.heap.size wr f/\Below w0.heap.size w wr/\bq w wr) (λvi _=>l.length-(intOf vi).toNat);case atStart=>exact⟨0,OB _,rfl,by rw[List.take_zero,List.map_nil,IA];exact HM7.o,HF7.o,HB7.o,HK7.o⟩
  case round=>
   clear HB7 HM7 HF7 HK7;rename PJ=>wr;obtain⟨m,hml2,rfl,hmw,hfw,hbr,hkr⟩:=hrel;have HKR:=ae hkr;have HMR:=ae hmw;have HFW:=ae hfw;have HBR:=ae hbr;clear hmw hfw hbr hkr;have hBr:w0.heap.size<=wr.heap.size:=HMR.o.box|>λh=>by have:=(Ot h mb rfl);omega
   by_cases hm2:m<l.length
   .have hnot:=IB HLND.o hm2;have hgo:fd f.L ((l.take m).map Mm.blk) l[m]=l[m]:=by unfold fd;rw[OV hnot]
    have hxm:=HSUB.o l[m] (OE hm2);have hxi:l[m]∈ms.map (fd f.L ((l.take m).map Mm.blk)):=OR.2 ⟨_,hxm,hgo⟩;have HMX:=ae (HMR.o.mks.mem _ hxi);have HCE:Po (∃b off,ra=some (PN b off)/\wr.cell? (PN b (off+m))=some (PL (l[m].blk))):=by obtain⟨a,c,e,h⟩:=HMR.o.mks.pts n hnR;rw[HROW.o] at e;simp only[OQ] at e;obtain⟨rfl,_,_⟩:=e;obtain⟨b,off,e2,e3⟩:=h m (by rw[HATP.o,OS];exact hm2);refine⟨b,off,e2,?_⟩;rw[e3];simp only[HATP.o,List.getElem_map,(Bl f.L _ _).2]
    have HPUT:Po (∀W c,Io wr W->c=(l[m].gone||cA f.L l[m].L)->bh p w0.heap.size (W.setCell (PN (l[m].blk) 10) (.bool c)) mb ob R g dv (.slice va6 (q4.length+(bN [] srt).length) vc6) us (ms.map (fd f.L ((l.take (m+1)).map Mm.blk))) (q4++bN [] srt)/\b9 p w0.heap.size (W.setCell (PN (l[m].blk) 10) (.bool c)) f/\Below w0.heap.size w (W.setCell (PN (l[m].blk) 10) (.bool c))/\W.cell? (PN (l[m].blk) 10)=some (.bool l[m].gone)/\W.frozen? (PN (l[m].blk) 10)=false/\bq w (W.setCell (PN (l[m].blk) 10) (.bool c))):=λW c hb hc=>by have hmW:=HMR.o.next hb;have hxW:=HMX.o.next hb;obtain⟨h1,h2,h3,h4⟩:=hmW.put (HFW.o.next hb) (OA hBr hb.size) hxi (λe=>HNE.o _ hxm e.symm) c;refine⟨?_,h2,HBR.o.trans ((hb.mono hBr).trans h3),hxW.mbr.gone,Oo hxW.own 10,(HKR.o.trans (bq.of_below hb)).trans h4⟩;have e:=Iy (L:=f.L) HND.o hxm hnot;rw[<-hc] at e;rw[e] at h1;rw[List.take_add_one,OI hm2,O0];exact h1
    have HIN:Po (∀W,Io wr W->Calls prog 123 #[PL f.blk,aX l[m].L] W λe w'=>e=.returned (.bool (cA f.L l[m].L))/\Io W w'):=λW hb=>Bn f.blk 0 f.L l[m].L f.rv 0 _ W (HFW.o.next hb).mbr.div;unfold aX at HIN;obtain⟨b,off,hra,c1⟩:=HCE.o;subst hra;have hmI:(m:Int)<(l.length:Int):=by omega
    have hxg:=HMX.o.mbr.gone;obtain⟨d0,d1,d2,d3,d4,d5,d6⟩:=HMX.o.mbr.div.cells;simp only[ON] at d0 d1 d2 d3 d4 d5 d6;clear hxi hgo hnot HCE hxm;generalize l[m]=x at*;have HLN2:=HLN;clear HROW;cases hgo:x.gone with
    |true=>
     rw[hgo] at hxg HPUT;have HP:=ae (HPUT.o wr.drew true (Ov _ _).drew (by simp));have z0:wr.frozen? (PN x.blk 10)=false:=HP.o.2.2.2.2.1;clear hgo HPUT HIN;go_upto_region 6 with fail;go_region;all_goals
      go_wp2_with fail;go_roundw;case rel=>exact⟨m+1,by omega,by go_num,HP.o.1,HP.o.2.1,HP.o.2.2.1,HP.o.2.2.2.2.2⟩
      case measure=>simp[intOf];omega
    |false=>
     rw[hgo] at hxg HPUT;have HP2:Po (∀W,Below wr.drew.heap.size wr.drew W->_):=λW hb=>HPUT.o W (cA f.L x.L) ((Ov _ _).drew.trans hb) (by simp);have HIN2:=ae (HIN.o wr.drew (Ov _ _).drew);clear hgo HPUT HIN;go_upto_region 6 with fail;refine wp_region_held_drew (S:=λ_=>True) (by kernel_rfl) trivial (λhHeld=>?_);refine gA (i:=0) (d:=some 46) (v:=?_) rfl rfl (by kernel_rfl) (by kernel_rfl) (by kernel_rfl) (λ_ _ _ h=>h) (Pf ⟨by rfl,?_⟩) trivial ?_
     rotate_left
     ·(intro w hSw;go_simp<;>with_reducible rfl)
     simp only[Act.put,List.setIfInBounds_toArray,List.set_cons_zero,List.set_cons_succ];refine gA (i:=1) (d:=some 47) (v:=?_) rfl rfl (by kernel_rfl) (by kernel_rfl) (by kernel_rfl) (λ_ _ _ h=>h) (Pf ⟨by rfl,?_⟩) trivial ?_
     rotate_left
     ·(intro w hSw;go_simp<;>with_reducible rfl)
     simp only[Act.put,List.setIfInBounds_toArray,List.set_cons_zero,List.set_cons_succ];refine gA (i:=2) (d:=some 48) (v:=?_) rfl rfl (by kernel_rfl) (by kernel_rfl) (by kernel_rfl) (λ_ _ _ h=>h) (Pf ⟨by rfl,?_⟩) trivial ?_
     rotate_left
     ·(intro w hSw;go_simp<;>with_reducible rfl)
     simp only[Act.put,List.setIfInBounds_toArray,List.set_cons_zero,List.set_cons_succ];refine gA (i:=3) (d:=some 49) (v:=?_) rfl rfl (by kernel_rfl) (by kernel_rfl) (by kernel_rfl) (λ_ _ _ h=>h) (Pf ⟨by rfl,?_⟩) trivial ?_
     rotate_left
     ·(intro w hSw;go_simp<;>with_reducible rfl)
     simp only[Act.put,List.setIfInBounds_toArray,List.set_cons_zero,List.set_cons_succ];refine wpAnyH_ready (rs:=[4]) (by kernel_rfl) (by simp) ?_;refine AllReadyH.cons rfl (λK hK=>?_) AllReadyH.nil;go_simp;refine hK.out _ _ trivial (λhHeld=>?_);clear hK K;try simp only[Act.put,List.setIfInBounds_toArray,List.set_cons_zero,List.set_cons_succ]
     refine gA (i:=5) (d:=some 51) (v:=?_) rfl rfl (by kernel_rfl) (by kernel_rfl) (by kernel_rfl) (λ_ _ _ h=>h) (Pf ⟨by rfl,?_⟩) trivial ?_
     rotate_left
     ·(intro w hSw;go_simp<;>with_reducible rfl)
     simp only[Act.put,List.setIfInBounds_toArray,List.set_cons_zero,List.set_cons_succ];refine gA (i:=6) (d:=some 52) (v:=?_) rfl rfl (by kernel_rfl) (by kernel_rfl) (by kernel_rfl) (λ_ _ _ h=>h) (Pf ⟨by rfl,?_⟩) trivial ?_
     rotate_left
     ·(intro w hSw;go_simp<;>with_reducible rfl)
     simp only[Act.put,List.setIfInBounds_toArray,List.set_cons_zero,List.set_cons_succ];refine gA (i:=7) (d:=some 53) (v:=?_) rfl rfl (by kernel_rfl) (by kernel_rfl) (by kernel_rfl) (λ_ _ _ h=>h) (Pf ⟨by rfl,?_⟩) trivial ?_
     rotate_left
     ·(intro w hSw;go_simp<;>with_reducible rfl)
     simp only[Act.put,List.setIfInBounds_toArray,List.set_cons_zero,List.set_cons_succ];refine gA (i:=8) (d:=some 54) (v:=?_) rfl rfl (by kernel_rfl) (by kernel_rfl) (by kernel_rfl) (λ_ _ _ h=>h) (Pf ⟨by rfl,?_⟩) trivial ?_
     rotate_left
     ·(intro w hSw;go_simp<;>with_reducible rfl)
     simp only[Act.put,List.setIfInBounds_toArray,List.set_cons_zero,List.set_cons_succ];refine gA (i:=9) (d:=some 55) (v:=?_) rfl rfl (by kernel_rfl) (by kernel_rfl) (by kernel_rfl) (λ_ _ _ h=>h) (Pf ⟨by rfl,?_⟩) trivial ?_
     rotate_left
     ·(intro w hSw;go_simp<;>with_reducible rfl)
     simp only[Act.put,List.setIfInBounds_toArray,List.set_cons_zero,List.set_cons_succ];refine gA (i:=10) (d:=some 56) (v:=?_) rfl rfl (by kernel_rfl) (by kernel_rfl) (by kernel_rfl) (λ_ _ _ h=>h) (Pf ⟨by rfl,?_⟩) trivial ?_
     rotate_left
     ·(intro w hSw;go_simp<;>with_reducible rfl)
     simp only[Act.put,List.setIfInBounds_toArray,List.set_cons_zero,List.set_cons_succ];refine gA (i:=11) (d:=some 57) (v:=?_) rfl rfl (by kernel_rfl) (by kernel_rfl) (by kernel_rfl) (λ_ _ _ h=>h) (Pf ⟨by rfl,?_⟩) trivial ?_
     rotate_left
     ·(intro w hSw;go_simp<;>with_reducible rfl)
     simp only[Act.put,List.setIfInBounds_toArray,List.set_cons_zero,List.set_cons_succ];refine gA (i:=12) (d:=some 58) (v:=?_) rfl rfl (by kernel_rfl) (by kernel_rfl) (by kernel_rfl) (λ_ _ _ h=>h) (Pf ⟨by rfl,?_⟩) trivial ?_
     rotate_left
     ·(intro w hSw;go_simp<;>with_reducible rfl)
     simp only[Act.put,List.setIfInBounds_toArray,List.set_cons_zero,List.set_cons_succ];refine wpAnyH_ready (rs:=[13]) (by kernel_rfl) (by simp) ?_;refine AllReadyH.cons rfl (λK hK=>?_) AllReadyH.nil;go_simp;refine hK.out _ _ trivial (λhHeld=>?_);clear hK K;try simp only[Act.put,List.setIfInBounds_toArray,List.set_cons_zero,List.set_cons_succ]
     refine wpAnyH_ready (rs:=[14]) (by kernel_rfl) (by simp) ?_;refine AllReadyH.cons rfl (λK hK=>?_) AllReadyH.nil;go_simp;refine HIN2.o.mono ?_;rintro e w9 ⟨rfl,hb9⟩;have HP:=ae (HP2.o w9 hb9);have y1:=HP.o.2.2.2.1;have y2:=HP.o.2.2.2.2.1;clear hb9;dsimp only;refine hK.out _ _ trivial (λhHeld=>?_);clear hK K;try simp only[Act.put,List.setIfInBounds_toArray,List.set_cons_zero,List.set_cons_succ]
     refine gA (i:=15) (d:=some 61) (v:=?_) rfl rfl (by kernel_rfl) (by kernel_rfl) (by kernel_rfl) (λ_ _ _ h=>h) (Pf ⟨by rfl,?_⟩) trivial ?_
     rotate_left
     ·(intro w hSw;go_simp<;>with_reducible rfl)
     simp only[Act.put,List.setIfInBounds_toArray,List.set_cons_zero,List.set_cons_succ];refine gA (i:=16) (d:=some 62) (v:=?_) rfl rfl (by kernel_rfl) (by kernel_rfl) (by kernel_rfl) (λ_ _ _ h=>h) (Pf ⟨by rfl,?_⟩) trivial ?_
     rotate_left
     ·(intro w hSw;go_simp<;>with_reducible rfl)
     simp only[Act.put,List.setIfInBounds_toArray,List.set_cons_zero,List.set_cons_succ];refine gA (i:=17) (d:=some 63) (v:=?_) rfl rfl (by kernel_rfl) (by kernel_rfl) (by kernel_rfl) (λ_ _ _ h=>h) (Pf ⟨by rfl,?_⟩) trivial ?_
     rotate_left
     ·(intro w hSw;go_simp<;>with_reducible rfl)
     simp only[Act.put,List.setIfInBounds_toArray,List.set_cons_zero,List.set_cons_succ];refine wpAnyH_ready (rs:=[18]) (by kernel_rfl) (by simp) ?_;refine AllReadyH.cons rfl (λK hK=>?_) AllReadyH.nil;go_simp;refine hK.out _ _ trivial (λhHeld=>?_);clear hK K;try simp only[Act.put,List.setIfInBounds_toArray,List.set_cons_zero,List.set_cons_succ]
     refine wpAnyH_done (by kernel_rfl) ?_ _;all_goals
      go_wp2_with fail;go_roundw;case rel=>exact⟨m+1,by omega,by go_num,HP.o.1,HP.o.2.1,HP.o.2.2.1,HP.o.2.2.2.2.2⟩
      case measure=>simp[intOf];omega
   .have e:m=l.length:=by omega
    subst e;rw[OO (Ou _),HALL.o] at HMR;have HPU:=ae (Ix p w0.heap.size wr mb ob R g dv _ us (ms.map (aU f.L)) _ f HMR.o HFW.o (λx hx=>by obtain⟨y,hy,rfl⟩:=OR.1 hx;rw[(cJ f.L y).2.1];exact HNE.o y hy) hBr ⟨by rw[hLP.o];omega,by rw[hLP.o];omega⟩ (by simpa using hml) hR);go_wp2_with (go_at_call 43;refine HPU.o.mono ?_;rintro e w9 ⟨rfl,us9,q1,q2,q3⟩;have HM9:=ae q1;have HB9:=ae (HBR.o.trans q2);have HK9:=ae (HKR.o.trans q3);clear q1 q2 q3);go_end0;exact⟨rfl,_,us9,f,srt,HFL.o,HFR.o.1,HFR.o.2,HNE.o,HPM.o,by rw[HQ4.o];exact HM9.o,HB9.o,HK9.o⟩
theorem IC(ob vb voff vc:Nat)(p k0 k1 k2:Int)(G:Ft->Prop)(sv v1 v2:PK)(f1 f2:PB)(w:PJ)(hob:aQ w ob p k0 k1 k2 sv)(hp:2<=p/\p<=101)(hv1:w.cell? (PN vb voff)=some v1)(hv2:w.cell? (PN vb (voff+1))=some v2)(hf1:Fv w v1 f1)(hf2:Fv w v2 f2)(hr1:aG p G [f1])(hr2:aG p G [f2])(hG:∀x t,eC x t->G t->G x)(hM:∀r,Dn r->(∀t∈r,G t)->r.length<=1100000000000):Calls prog 85 #[PL ob,.slice (some (PN vb voff)) 2 vc] w λe w'=>e=.returned (PL w.heap.size)/\∃rv us rows,cN p G w.heap.size w' w.heap.size ob rv us rows (λk=>ao k f1+ao k f2)/\Io w w':=by
 have HOB:=ae hob;have HF1:=ae hf1;have HF2:=ae hf2;have HV1:=ae hv1;have HV2:=ae hv2;have hobl:=hob.lt;obtain⟨va,vcc,rfl,_,_⟩:=hf1;obtain⟨va2,vcc2,rfl,_,_⟩:=hf2;obtain⟨w1,hw1⟩:∃w1,w1=w.alloc (.cells #[PL ob,.slice none 0 0] 176):=⟨_,rfl⟩;have HB1:Po (Io w w1):=by rw[hw1];exact ai
 have HS1:Po (aT w.heap.size w1 w.heap.size ob (.slice none 0 0) [] []):=by rw[hw1];exact vp w ob _ (Ou _)
 have HAD:=ae (pA w.heap.size w.heap.size ob p k0 k1 k2 G sv (.slice none 0 0) _ [] [] f1 w1 HS1.o (by have:=HB1.o.size;omega) (HOB.o.below HB1.o) (by omega) hp (by simp) (HF1.o.below HB1.o) ⟨λr hr=>by simp at hr,λr hr=>by simp at hr,λr hr=>by simp at hr⟩ hr1 hG hM);have HAD2:Po (∀rv us rows W,cN p G w.heap.size W w.heap.size ob rv us rows (λk=>ao k f1)->Io w W->Calls prog 116 #[PL w.heap.size,.slice va2 f2.length vcc2] W λe w'=>e=.returned (.tuple #[])/\∃rv' us' rows',cN p G w.heap.size w' w.heap.size ob rv' us' rows' (λk=>ao k f1+ao k f2)/\Io w w'):=λrv us rows W h hb=>by refine(pA w.heap.size w.heap.size ob p k0 k1 k2 G sv rv _ us rows f2 W h.sum hb.size (HOB.o.below hb) (by omega) hp h.len (HF2.o.below hb) h.ok hr2 hG hM).mono ?_;rintro e w' ⟨rfl,rv',us',rows',q1,q2,q3,q4,q5,q6⟩;refine⟨rfl,rv',us',rows',⟨q1,q2,q3,λk=>?_⟩,hb.trans (h.sum.frm_below q5 hb.size)⟩;obtain⟨x,hx⟩:=q4 k;obtain⟨y,hy⟩:=h.cn k;exact⟨x+y,by rw[Int.mul_add];omega⟩
 have c1:=af HV1.o HB1.o;clear hob hv1 hv2 hr1 hr2 hG hM;go_enter func85,ntmps85;go_wp2_with fail;rw[<-hw1];clear hw1;go_loopw [13] (λi wr=>(i=PO 0/\wr=w1)\/(i=PO 1/\∃rv us rows,cN p G w.heap.size wr w.heap.size ob rv us rows (λk=>ao k f1)/\Io w wr)\/(i=PO 2/\∃rv us rows,cN p G w.heap.size wr w.heap.size ob rv us rows (λk=>ao k f1+ao k f2)/\Io w wr)) (λi _=>2-(intOf i).toNat);case atStart=>exact Pf ⟨rfl,rfl⟩
 case round=>
  rcases hrel with ⟨rfl,rfl⟩|⟨rfl,rv,us,rows,hsm,hb⟩|⟨rfl,rv,us,rows,hsm,hb⟩
  .go_wp2_with (go_at_call 116;refine HAD.o.mono ?_;rintro e w9 ⟨rfl,rv9,us9,rows9,q1,q2,q3,q4,q5,q6⟩;have H9:Po (cN p G w.heap.size w9 w.heap.size ob rv9 us9 rows9 (λk=>ao k f1)/\Io w w9):=⟨⟨q1,q2,q3,λk=>by have:=q4 k;simpa [ao] using this⟩,HB1.o.trans (q5.to_below HB1.o.size (λx hx=>by rcases hx with hx|hx;exact Nat.le_of_eq hx.symm;simp[Value.ownBlock] at hx))⟩;clear q1 q2 q3 q4 q5 q6);go_roundw;case rel=>exact Pg (Pf ⟨by go_num,rv9,us9,rows9,H9.o.1,H9.o.2⟩)
   case measure=>simp[intOf]
  .have c2:=af HV2.o hb;have HA:=ae (HAD2.o rv us rows _ hsm hb);clear hsm hb;go_wp2_with (go_at_call 116;refine HA.o.mono ?_;rintro e w9 ⟨rfl,rv9,us9,rows9,q1,q2⟩;have H9:=ae (Ow q1 q2);clear q1 q2);go_roundw;case rel=>exact Pg (Pg ⟨by go_num,rv9,us9,rows9,H9.o.1,H9.o.2⟩)
   case measure=>simp[intOf]
  .have HSM:=ae (Ow hsm hb);clear hsm hb;go_wp2;go_ret;exact⟨rfl,rv,us,rows,HSM.o.1,HSM.o.2⟩
theorem bL(i:Nat)(d:Tmp)(hi:ops[i]?=some oi)(hd:oi.dst=some d)(hS:S w)(hy:YieldsIf P ops S oi v a)(h:wpAnyH P md ops Q S fuel (listed.setIfInBounds i true) (a.put (some d) v) w)(hQ:∀c a w,Q (.panic c) (a.put (some d) v) w->Q (.panic c) a w:=by exact λ_ _ _ h=>h)(hs:Region.noSelect ops=true:=by kernel_rfl)(hf:Region.free md ops listed i=true:=by kernel_rfl)(hr:(Region.ready md ops listed).contains i=true:=by kernel_rfl):wpAnyH P md ops Q S (fuel+1) listed a w:=
 gA hi hd hs hf hr hQ hy hS h
end Go.Proofs.YtjkalahhpobefaaGreat
