/- Sorting pairs: stable. -/
import Derived.Test.YteimdcndjjclnaaGreatKN
set_option maxHeartbeats 4000000
set_option maxRecDepth 100000
namespace Go.Proofs.YteimdcndjjclnaaGreat
set_option linter.all false
open Go.Proofs.Tryz Go.RowKit
theorem Gi(B:Nat)(w0 W:World)(g cap:Nat)(qs cs:List Pq)(h:bM B w0 W g cap qs cs)(hn:qs.length<=500000000000):Calls prog 160 #[.slice (some ⟨g,0,none⟩) qs.length cap,.int .i64 qs.length,.func (.func 139) #[] #[]] W λe w'=>e=.returned (.tuple #[])/\∃cs',bM B w0 w' g cap qs cs':=by
 have H0:=ac h;clear h;have HIN:Ma (∀W cs a b,bM B w0 W g cap qs cs->a<=b->b<=qs.length->Calls prog 168 #[.slice (some ⟨g,0,none⟩) qs.length cap,.int .i64 (a:Nat),.int .i64 (b:Nat),.func (.func 139) #[] #[]] W λe w'=>e=.returned (.tuple #[])/\∃cs',bM B w0 w' g cap qs cs'):=λW cs a b h1 h2 h3=>Gc B w0 W g cap qs cs a b h1 h2 h3 hn;have HSY:Ma (∀W cs a m b,bM B w0 W g cap qs cs->a<m->m<b->b<=qs.length->Calls prog 169 #[.slice (some ⟨g,0,none⟩) qs.length cap,.int .i64 (a:Nat),.int .i64 (m:Nat),.int .i64 (b:Nat),.func (.func 139) #[] #[]] W λe w'=>e=.returned (.tuple #[])/\∃cs',bM B w0 w' g cap qs cs'):=λW cs a m b h1 h2 h3 h4=>Gh B w0 g cap qs hn (b-a) W cs a m b (Lc _) h2 h3 h4 h1;obtain⟨n,hnn⟩:∃n,n=qs.length:=⟨_,rfl⟩;rw[<-hnn] at HIN HSY hn;rw[<-hnn];have HNN:=ac hnn;clear hnn;go_enter func160,ntmps160;go_wp2_with fail;go_loopw [7,8] (λva vb wr=>∃(a:Nat)(cs:List Pq),a<=n/\va=.int .i64 a/\vb=.int .i64 (a+20:Nat)/\bM B w0 wr g cap qs cs) (λva vb _=>n+20-(intOf vb).toNat);case atStart=>exact⟨0,cs,Ll _,rfl,by go_num,H0.o⟩
 case round=>
  clear H0;obtain⟨a,ds,han,rfl,rfl,hw⟩:=hrel;have HW:=ac hw;clear hw;by_cases hle:a+20<=n
  .have HC:=ac (HIN.o wr ds a (a+20) HW.o (by omega) hle);have hI:(a:Int)+20<=(n:Int):=by omega
   go_wp2_with (go_at_call 168;refine HC.o.mono ?_;rintro e w9 ⟨rfl,es,hw9⟩;have HW9:=ac hw9;clear hw9);go_roundw;case rel=>exact⟨a+20,es,hle,by go_num,by go_num,HW9.o⟩
   case measure=>simp[intOf];omega
  .have HC:=ac (HIN.o wr ds a n HW.o han (Lc _));have hI:¬(a:Int)+20<=(n:Int):=by omega
   go_wp2_with (go_at_call 168;refine HC.o.mono ?_;rintro e w9 ⟨rfl,es,hw9⟩;have HW9:=ac hw9;clear hw9);go_loopw [6] (λvs wr2=>∃(bs:Nat)(cs:List Pq),20<=bs/\bs<=1200000000000/\vs=.int .i64 bs/\bM B w0 wr2 g cap qs cs) (λvs _=>n-(intOf vs).toNat);case atStart=>exact⟨20,es,Lc _,by omega,rfl,HW9.o⟩
   case round=>
    clear HW9 HC HW;rename World=>wr1;obtain⟨bs,fs,hbs,hbs2,rfl,hw⟩:=hrel;have HW1:=ac hw;clear hw;by_cases hlt:bs<n
    .have hw2:IntKind.i64.wrap (2*(bs:Int))=2*(bs:Int):=by rw[IntKind.wrap_i64];omega
     go_wp2_with fail;go_loopw [7,8] (λva vb wr3=>∃(a2:Nat)(cs:List Pq),a2<=n/\va=.int .i64 a2/\vb=.int .i64 (a2+2*bs:Nat)/\bM B w0 wr3 g cap qs cs) (λva vb _=>n+2*bs-(intOf vb).toNat);case atStart=>exact⟨0,fs,Ll _,rfl,by go_num,HW1.o⟩
     case round=>
      clear HW1;rename World=>wr2;obtain⟨a2,gs,ha2,rfl,rfl,hw⟩:=hrel;have HW2:=ac hw;clear hw;by_cases hle2:a2+2*bs<=n
      .have HC:=ac (HSY.o wr2 gs a2 (a2+bs) (a2+2*bs) HW2.o (by omega) (by omega) hle2);have hI2:(a2:Int)+2*(bs:Int)<=(n:Int):=by omega
       go_wp2_with (go_at_call 169;refine HC.o.mono ?_;rintro e w9 ⟨rfl,es2,hw9⟩;have HW9:=ac hw9;clear hw9);go_roundw;case rel=>exact⟨a2+2*bs,es2,hle2,by go_num,by go_num,HW9.o⟩
       case measure=>simp[intOf];omega
      .have hI2:¬(a2:Int)+2*(bs:Int)<=(n:Int):=by omega
       by_cases hm:a2+bs<n
       .have HC:=ac (HSY.o wr2 gs a2 (a2+bs) n HW2.o (by omega) hm (Lc _));have hI3:(a2:Int)+(bs:Int)<(n:Int):=by omega
        go_wp2_with (go_at_call 169;refine HC.o.mono ?_;rintro e w9 ⟨rfl,es2,hw9⟩;have HW9:=ac hw9;clear hw9);go_roundw;case rel=>exact⟨bs*2,es2,by omega,by omega,by go_num,HW9.o⟩
        case measure=>simp[intOf];omega
       .have hI3:¬(a2:Int)+(bs:Int)<(n:Int):=by omega
        go_wp2_with fail;go_roundw;case rel=>exact⟨bs*2,gs,by omega,by omega,by go_num,HW2.o⟩
        case measure=>simp[intOf];omega
    .go_wp2;go_end0;exact⟨rfl,fs,HW1.o⟩
theorem Gj(W:World)(cv:Value):Calls prog 168 #[.slice none 0 0,.int .i64 0,.int .i64 0,cv] W λe w'=>e=.returned (.tuple #[])/\w'=W:=by
 go_enter func168,ntmps168;go_wp2_with fail;go_loopw [8] (λvi wr=>vi=.int .i64 1/\wr=W) (λ_ _=>0);case atStart=>exact⟨rfl,rfl⟩
 case round=>obtain⟨rfl,rfl⟩:=hrel;go_wp2;go_end0;exact⟨rfl,rfl⟩
theorem Gk(W:World)(cv:Value):Calls prog 160 #[.slice none 0 0,.int .i64 0,cv] W λe w'=>e=.returned (.tuple #[])/\w'=W:=by
 have HI:=ac (Gj W cv);go_enter func160,ntmps160;go_wp2_with fail;go_loopw [7,8] (λva vb wr=>va=.int .i64 0/\vb=.int .i64 20/\wr=W) (λ_ _ _=>0);case atStart=>exact⟨rfl,rfl,rfl⟩
 case round=>
  obtain⟨rfl,rfl,rfl⟩:=hrel;go_wp2_with (go_at_call 168;refine HI.o.mono ?_;rintro e w9 ⟨rfl,h9⟩;have h9b:=h9.symm;clear h9;subst h9b);go_loopw [6] (λvs wr2=>vs=.int .i64 20/\wr2=wr) (λ_ _=>0);case atStart=>exact⟨rfl,rfl⟩
  case round=>obtain⟨rfl,rfl⟩:=hrel;go_wp2;go_end0;exact⟨rfl,rfl⟩
theorem Gl(B:Nat)(v:Value)(qs:List Pq)(w:World)(hp:aZ B w v qs)(hn:qs.length<=500000000000):Calls prog 138 #[v,.func (.func 139) #[] #[]] w λe w'=>e=.returned (.tuple #[])/\∃qs',qs'.Perm qs/\aZ B w' v qs'/\ai (λk=>v.ownBlock=some k) w w':=by
 rcases hp.own.2 with ⟨h1,h2⟩|⟨g,cap,af,h1,_⟩
 .have e:qs=[]:=LV.1 h2;subst h1;subst e;have HP:=ac hp;clear hp h2;have HS:=ac (Gk w (.func (.func 139) #[] #[]));go_enter func138,ntmps138;go_wp2_with (go_at_call 160;refine HS.o.mono ?_;rintro e w9 ⟨rfl,h9⟩;have h9b:=h9.symm;clear h9;subst h9b);go_end0;exact⟨rfl,[],List.Perm.refl _,HP.o,ai.refl _ _⟩
 .subst h1;have HS:=ac (Gi B w w g cap qs qs ⟨hp,List.Perm.refl _,ai.refl _ _⟩ hn);clear hp;go_enter func138,ntmps138;go_wp2_with (go_at_call 160;refine HS.o.mono ?_;rintro e w9 ⟨rfl,cs,hw9⟩;have HW9:=ac hw9;clear hw9);go_end0;exact⟨rfl,cs,HW9.o.perm,HW9.o.row,HW9.o.frm.wide λk _ e=>by rw[e];rfl⟩
theorem Gm{w:World}{B B':Nat}{T:TypeId}{s:Nat}{v:Value}{n:Nat}{xs:List Value}(h:w.ownsRow B T s v n xs)(hb:B'<=B):w.ownsRow B' T s v n xs:=by
 refine⟨h.1,?_⟩;rcases h.2 with hn|⟨g,cap,af,h1,h2,h3⟩
 .exact .inl hn
 .exact .inr ⟨g,cap,af,h1,Lk hb h2,h3⟩
theorem aZ.base{B B':Nat}{w:World}{v:Value}{qs:List Pq}(h:aZ B w v qs)(hb:B'<=B):aZ B' w v qs:=⟨Gm h.own hb,h.kd⟩
theorem ze(w:World)(q:Pq)(T:TypeId):∀j u,(aH q)[j]?=some u->(w.alloc (.cells #[.pointer (some ⟨q.b1,0,none⟩),.pointer (some ⟨q.b2,0,none⟩),.int .u16 q.a,.int .u16 q.b,.int .u16 q.d,.int .u16 q.z,.int .i64 q.dg,.int .i64 q.k] T)).cell? ((⟨w.heap.size,0,none⟩:Addr).add j)=some u:=by
 intro j u hj;rw[Addr.add_lit,Ly]
 match j,hj with
 |0,hj=>rw[<-hj];simp[go_sem,aH]
 |1,hj=>rw[<-hj];simp[go_sem,aH]
 |2,hj=>rw[<-hj];simp[go_sem,aH]
 |3,hj=>rw[<-hj];simp[go_sem,aH]
 |4,hj=>rw[<-hj];simp[go_sem,aH]
 |5,hj=>rw[<-hj];simp[go_sem,aH]
 |6,hj=>rw[<-hj];simp[go_sem,aH]
 |7,hj=>rw[<-hj];simp[go_sem,aH]
 |j+8,hj=>simp[aH] at hj
theorem zf{w:World}(ty:TypeId)(B:Nat)(v:Value)(qs:List Pq)(h:aZ B w v qs)(ad:Addr)(rs:List Pq)(c:Nat)(hr:0<rs.length)(hnew:∀j y,(bw rs)[j]?=some y->w.cell? (ad.add j)=some y)(hn:qs.length+rs.length<=600000000000)(hB:B<=w.heap.size):∃v' w',(Builtin.append_ #[118,118] ty #[v,.slice (some ad) rs.length c]).run prog w=.ok v' w'/\aZ B w' v' (qs++rs)/\w.grownBy w' v.ownBlock/\(v'.ownBlock=v.ownBlock\/v'.ownBlock=some w.heap.size):=by obtain⟨i0,hi,hz0,hz1,hz2⟩:=info_parts Tryz.infoPr;obtain⟨v',w',hr2,h2,h3,h4,h5⟩:=tQ (P:=prog) w dP B 118 ty 126 i0 _ 8 40 underlying118 hi hz0 hz1 hz2 rfl (by decide) (λu hu x e=>by subst e;simp[Value.cells] at hu) v qs.length (bw qs) h.own h.kd ad rs.length c (bw rs) hr (iF rs) hnew (xM rs) (xO rs) (by unfold maxLen;omega) (by omega) hB;refine⟨v',w',hr2,⟨?_,h4⟩,h3,h5⟩;rw[Lx,mE];exact h2
theorem zg{ops:Array Oper}{rest:List Oper}{w:World}{o:Oper}{a:Act}{Q:Exit->Act->World->Prop}(hgd:o.guard=none)(s x:Operand)(ho:o.op=.call {callee:=.builtin .append,args:=#[s,x],argTypes:=#[118,118]})(B:Nat)(v:Value)(qs:List Pq)(hs:a.eval s=v)(h:aZ B w v qs)(ad:Addr)(rs:List Pq)(c:Nat)(hx:a.eval x=.slice (some ad) rs.length c)(hr:0<rs.length)(hnew:∀j y,(bw rs)[j]?=some y->w.cell? (ad.add j)=some y)(hn:qs.length+rs.length<=600000000000)(hB:B<=w.heap.size)(hK:∀v' w',aZ B w' v' (qs++rs)->w.grownBy w' v.ownBlock->(v'.ownBlock=v.ownBlock\/v'.ownBlock=some w.heap.size)->wpList prog ops Q rest (a.put o.dst v') w'):wpList prog ops Q (o::rest) a w:=by refine wpList_plain hgd λK hK'=>?_;obtain⟨v',w',hrun,h2,h3,h4⟩:=zf o.type B v qs h ad rs c hr hnew hn hB;unfold Oper.wp execOp;simp only[ho,resolve,invoke,builtin,Sem.run_bind,Sem.run_pure,Result.andThen_ok,List.map_toArray,List.map_cons,List.map_nil,hs,hx,hrun];exact hK' _ _ (hK v' w' h2 h3 h4)
def jy(q r:Pq):Bool:=fI q.a q.b q.d q.z r.a r.b r.d r.z
theorem Gn(cb:Nat)(q r:Pq)(w:World)(hc:ig w cb 0 r):Calls prog 141 #[d8 q,.pointer (some ⟨cb,0,none⟩)] w λe w'=>e=.returned (.bool (jy q r))/\Below w.heap.size w w':=by
 obtain⟨w1,hw1⟩:∃w1,w1=w.alloc (.cells #[.pointer (some ⟨q.b1,0,none⟩),.pointer (some ⟨q.b2,0,none⟩),.int .u16 q.a,.int .u16 q.b,.int .u16 q.d,.int .u16 q.z,.int .i64 q.dg,.int .i64 q.k] 126):=⟨_,rfl⟩;have HB1:Ma (Below w.heap.size w w1):=by rw[hw1];exact aj
 have HX1:Ma (ig w1 w.heap.size 0 q):=by rw[hw1];exact(kL (Lc _) q).at
 have HC1:=ac (hc.keep HB1.o);obtain⟨c0,c1,c2,c3,c4,c5,c6,c7⟩:=HX1.o;obtain⟨d0,d1,d2,d3,d4,d5,d6,d7⟩:=HC1.o;simp only[Ly] at c0 c1 c2 c3 c4 c5 c6 c7 d0 d1 d2 d3 d4 d5 d6 d7;have HI:Ma (Calls prog 34 #[.agg #[.int .u16 q.a,.int .u16 q.b,.int .u16 q.d,.int .u16 q.z],.agg #[.int .u16 r.a,.int .u16 r.b,.int .u16 r.d,.int .u16 r.z]] w1 λe w'=>e=.returned (.bool (jy q r))/\Below w1.heap.size w1 w'):=qw _ _ _ _ _ _ _ _ w1;unfold d8;clear hc;go_enter func141,ntmps141;go_upto_region 1 with fail;rw[<-hw1];clear hw1;go_wp2_with (go_at_call 34;refine HI.o.mono ?_;rintro e w9 ⟨rfl,hb9⟩;have HB9:=ac hb9;clear hb9);go_ret;exact⟨rfl,HB1.o.trans (HB9.o.mono HB1.o.size)⟩
def bh:List Pq->List Pq->List Pq
 |kept,[]=>kept
 |kept,x::xs=>if kept.any (λq=>jy q x) then bh kept xs else bh (kept++[x]) xs
theorem Gq(kept:List Pq)(xs:List Pq)(k:Nat)(h:k<xs.length):bh kept (xs.drop k)=if kept.any (λq=>jy q xs[k]) then bh kept (xs.drop (k+1)) else bh (kept++[xs[k]]) (xs.drop (k+1)):=by rw[LY h];rfl
def gQ(ms:List Mm)(pl:Nat):List Mm:=(aS ms pl).filter λx=>!x.gone
theorem tR:∀(xs kept:List Pq),(bh kept xs).length<=kept.length+xs.length
 |[],kept=>by simp[bh]
 |x::xs,kept=>by
  unfold bh;split
  .have:=tR xs kept;simp;omega
  .have:=tR xs (kept++[x]);simp at this⊢;omega
theorem Gr(p:Int)(B:Nat)(w:World)(mb ob R g:Nat)(dv pv sv:Value)(us:List Value)(ms:List Mm)(qs:List Pq)(f:Mm)(k0 k1 k2:Int)(dg:Nat->Int)(hm:bj p B w mb ob R g dv pv us ms qs)(hf:cj p B w f)(hob:bk w ob p k0 k1 k2 sv)(hdg:gR w dv R dg)(hd:∀pl,pl<R->0<=dg pl/\dg pl<=100000)(hR:R<=255)(k0b:0<=k0/\k0<=137438953472)(k1b:0<=k1/\k1<=137438953472)(k2b:0<=k2/\k2<=137438953472)(bx:∀x∈ms,lR x.L)(bf:lR f.L)(hpl:0<=f.L.pl/\f.L.pl<R)(hml:ms.length<=1300000):Calls prog 111 #[.pointer (some ⟨mb,0,none⟩),.pointer (some ⟨f.blk,0,none⟩)] w λe w'=>∃v,e=.returned v/\∃srt,srt.Perm ((gQ ms f.L.pl.toNat).map λx=>cW k0 k1 k2 dg x f)/\aZ w.heap.size w' v (bh [] srt)/\Below w.heap.size w w':=by
 obtain⟨n,hnpl⟩:∃n:Nat,f.L.pl=n:=⟨f.L.pl.toNat,by omega⟩;have htn:f.L.pl.toNat=n:=by omega
 have hnR:n<R:=by omega
 rw[htn];have HM:=ac hm;have HF:=ac hf;have HOB:=ac hob;have HDG:=ac hdg;obtain⟨m0,m1,m2,m3,m4⟩:=hm.cells;obtain⟨r0,r1⟩:=hm.mks.at n hnR;have hpt:=hm.mks.pts n hnR;have HSUB:Ma (∀x∈aS ms n,x∈ms):=λx hx=>(LR.1 hx).1;have HPL:Ma (∀x∈aS ms n,x.L.pl=n):=λx hx=>by have:=(LR.1 hx).2;simpa using this
 have hln:(aS ms n).length<=1300000:=Lk (LX _ _) hml;obtain⟨ra,rc,hrow,hpts⟩:=hpt;rw[hrow] at r0;have HPTS:=ac hpts;have c5:=hf.mbr.div.cells.2.2.2.2.2.1;simp only[Ly] at c5;rw[hnpl] at c5;have hnI:(n:Int)<(R:Int):=by omega
 unfold gQ;have HL:Ma (∀x∈aS ms n,cj p B w x/\lR x.L/\x.L.pl=n):=λx hx=>⟨hm.mks.mem x (HSUB.o x hx),bx x (HSUB.o x hx),HPL.o x hx⟩;clear hm hf hob hdg hpts hrow m0 m1 m3 m4 r1 htn hpl bx hml;generalize aS ms n=l at*;go_enter func111,ntmps111;go_upto_region 2 with fail;go_quiet (fail);clear m2 r0 c5;have HBQ:Ma (Below w.heap.size w (w.drewN nq)):=below_drewN (Lf _ _) _;go_wp2_with fail;go_loopw [5,24] (λva vi wr=>∃m:Nat,m<=l.length/\vi=.int .i64 m/\aZ w.heap.size wr va (((l.take m).filter λx=>!x.gone).map λx=>cW k0 k1 k2 dg x f)/\Below w.heap.size w wr) (λ_ vi _=>l.length-(intOf vi).toNat);case atStart=>exact⟨0,Ll _,rfl,by simpa using aZ.nil _ _,HBQ.o⟩
 case round=>
  clear HBQ;obtain⟨m,hml2,rfl,hpw,hbr⟩:=hrel;have HPW:=ac hpw;have HBR:=ac hbr;obtain⟨pa,pc,hpv⟩:=hpw.sl;rw[hpv];rw[hpv] at HPW;clear hpw hbr hpv;by_cases hm2:m<l.length
  .obtain⟨b,off,rfl,hcell⟩:=HPTS.o m hm2;have c1:=ae hcell HBR.o;obtain⟨hmw,hex,hxpl⟩:=HL.o l[m] (Lo hm2);have HMX:=ac (hmw.next HBR.o).mbr;have HNP:=ac (F3 mb ob R p k0 k1 k2 sv dv dg l[m] f wr (ae HM.o.cells.1 HBR.o) (ae HM.o.cells.2.1 HBR.o) (HDG.o.below HBR.o) (HOB.o.below HBR.o) HMX.o (HF.o.next HBR.o).mbr hex bf ⟨by rw[hxpl];omega,by rw[hxpl];omega⟩ hR hd k0b k1b k2b);have HTS:Ma (l[m].gone=false->(((l.take (m+1)).filter λx=>!x.gone).map λx=>cW k0 k1 k2 dg x f)=(((l.take m).filter λx=>!x.gone).map λx=>cW k0 k1 k2 dg x f)++[cW k0 k1 k2 dg l[m] f]):=λh=>by rw[List.take_add_one,Ls hm2,List.filter_append,LO];simp[h]
   have HTG:Ma (l[m].gone=true->(((l.take (m+1)).filter λx=>!x.gone).map λx=>cW k0 k1 k2 dg x f)=(((l.take m).filter λx=>!x.gone).map λx=>cW k0 k1 k2 dg x f)):=λh=>by rw[List.take_add_one,Ls hm2,List.filter_append,LO];simp[h]
   have hlen1:(((l.take m).filter λx=>!x.gone).map λx=>cW k0 k1 k2 dg x f).length<=1300000:=by rw[LD];have:=LX (λx:Mm=>!x.gone) (l.take m);rw[LU] at this;omega
   have hgc:=HMX.o.gone;have hmI:(m:Int)<(l.length:Int):=by omega
   generalize (((l.take m).filter λx=>!x.gone).map λx=>cW k0 k1 k2 dg x f)=al at HPW HTS HTG hlen1;generalize hx:l[m]=x at*;clear hcell hmw hex hxpl hx;cases hgo:x.gone with
   |true=>
    rw[hgo] at hgc;have HT2:=ac (HTG.o hgo);clear hgo HTS HTG;go_wp2_with fail;go_roundw;case rel=>exact⟨m+1,by omega,by go_num,by rw[HT2.o];exact HPW.o,HBR.o⟩
    case measure=>simp[intOf];omega
   |false=>
    rw[hgo] at hgc;have HT2:=ac (HTS.o hgo);clear hgo HTS HTG;generalize cW k0 k1 k2 dg x f=q at HNP HT2;unfold d8 at HNP;go_wp2_with (first|(go_at_call 137;refine HNP.o.mono ?_;rintro e w9 ⟨rfl,hb9⟩;have HB9:=ac hb9;have HPA:=ac ((HPW.o.next hb9).next (aj (A:=.cells #[.pointer (some ⟨q.b1,0,none⟩),.pointer (some ⟨q.b2,0,none⟩),.int .u16 q.a,.int .u16 q.b,.int .u16 q.d,.int .u16 q.z,.int .i64 q.dg,.int .i64 q.k] 126)));have HBA:Ma (Below wr.heap.size wr (w9.alloc (.cells #[.pointer (some ⟨q.b1,0,none⟩),.pointer (some ⟨q.b2,0,none⟩),.int .u16 q.a,.int .u16 q.b,.int .u16 q.d,.int .u16 q.z,.int .i64 q.dg,.int .i64 q.k] 126))/\w.heap.size<=(w9.alloc (.cells #[.pointer (some ⟨q.b1,0,none⟩),.pointer (some ⟨q.b2,0,none⟩),.int .u16 q.a,.int .u16 q.b,.int .u16 q.d,.int .u16 q.z,.int .i64 q.dg,.int .i64 q.k] 126)).heap.size):=⟨hb9.trans (aj.mono hb9.size),by have:=HBR.o.size;have:=hb9.size;simp;omega⟩;have HE8:=ac (ze w9 q 126);clear hb9)|(at_builtin;refine zg rfl (.tmp 33) (.tmp 38) rfl w.heap.size _ al rfl HPA.o ⟨w9.heap.size,0,none⟩ [q] 1 rfl (by simp) (by simpa [bw] using HE8.o) (by simp;omega) HBA.o.2 ?_;intro v5 w5 q1 q2 q3;obtain⟨va5,vc5,hv5⟩:=q1.sl;subst hv5;have HP5:=ac q1;have HG5:=ac q2;clear q1 q2 q3));go_roundw;case rel=>refine⟨m+1,by omega,by go_num,by rw[HT2.o];have h9:=HP5.o;rw[Lx] at h9;exact h9,?_⟩;have hbw:Below w.heap.size w (w9.alloc (.cells #[.pointer (some ⟨q.b1,0,none⟩),.pointer (some ⟨q.b2,0,none⟩),.int .u16 q.a,.int .u16 q.b,.int .u16 q.d,.int .u16 q.z,.int .i64 q.dg,.int .i64 q.k] 126)):=HBR.o.trans (HBA.o.1.mono HBR.o.size);exact hbw.grown HG5.o HBA.o.2 λk hk=>(Lb HPA.o.own k hk).1
    case measure=>simp[intOf];omega
  .have e:m=l.length:=by omega
   subst e;rw[Lz (Lc _)] at HPW⊢;have hlen1:(((l.filter λx=>!x.gone).map λx=>cW k0 k1 k2 dg x f)).length<=1300000:=by rw[LD];have:=LX (λx:Mm=>!x.gone) l;omega
   generalize hal:((l.filter λx=>!x.gone).map λx=>cW k0 k1 k2 dg x f)=al at HPW hlen1⊢;have HAL:=ac hal;clear hal;have HST:=ac (Gl w.heap.size _ al wr HPW.o (by omega));go_wp2_with (go_at_call 138;refine HST.o.mono ?_;rintro e w3 ⟨rfl,srt,q1,q2,q3⟩;have HPM:=ac q1;have HP3:=ac q2;have HB3:Ma (Below w.heap.size w w3):=HBR.o.trans (q3.to_below HBR.o.size λk hk=>(Lb HPW.o.own k hk).1);clear q1 q2 q3);have hsl:srt.length=al.length:=HPM.o.length_eq;have HSL:=ac hsl;clear hsl HST HPW;go_loopw [8,45] (λvk vi wr2=>∃(m:Nat)(kept:List Pq),m<=srt.length/\vi=.int .i64 m/\kept.length<=m/\bh kept (srt.drop m)=bh [] srt/\aZ w.heap.size wr2 vk kept/\(∀k,vk.ownBlock=some k->(Value.slice pa al.length pc).ownBlock≠some k)/\aZ w.heap.size wr2 (.slice pa al.length pc) srt/\Below w.heap.size w wr2) (λ_ vi _=>srt.length-(intOf vi).toNat);case atStart=>exact⟨0,[],Ll _,rfl,Lc _,rfl,aZ.nil _ _,λk hk=>by simp[Value.ownBlock] at hk,HP3.o,HB3.o⟩
   case round=>
    clear HP3 HB3 HBR;rename World=>wr1;obtain⟨m,kept,hms,rfl,hkm,hgr,hkw,hkd,hall,hb1⟩:=hrel;have HKW:=ac hkw;have HKD:=ac hkd;have HALL:=ac hall;have HB1:=ac hb1;have HGR:=ac hgr;obtain⟨ka,kc,hkv⟩:=hkw.sl;subst hkv;clear hkw hkd hall hb1 hgr;by_cases hm2:m<srt.length
    .have hma:m<al.length:=by have:=HSL.o;omega
     obtain⟨a2,c2,e2,h2⟩:=HALL.o.rq;simp only[LB] at e2;obtain⟨rfl,hlq,rfl⟩:=e2;clear hlq;obtain⟨b,off,rfl,hpq⟩:=h2 m hm2;obtain⟨f0,f1,f2,f3,f4,f5,f6,f7⟩:=hpq;have HST:=ac (Gq kept srt m hm2);have hmI:(m:Int)<(al.length:Int):=by omega
     obtain⟨w2,hw2⟩:∃w2,w2=wr1.alloc (.cells #[.pointer (some ⟨srt[m].b1,0,none⟩),.pointer (some ⟨srt[m].b2,0,none⟩),.int .u16 srt[m].a,.int .u16 srt[m].b,.int .u16 srt[m].d,.int .u16 srt[m].z,.int .i64 srt[m].dg,.int .i64 srt[m].k] 126):=⟨_,rfl⟩;have HB2:Ma (Below wr1.heap.size wr1 w2):=by rw[hw2];exact aj
     have HX2:Ma (ig w2 wr1.heap.size 0 srt[m]):=by rw[hw2];exact(kL (Lc _) _).at
     have HCT:=ac (F7 wr1.heap.size (λq r=>r=jy q srt[m]) (.slice ka kept.length kc) kept w2 (HKW.o.next HB2.o).rq (by omega) λW q hb hq=>(Gn wr1.heap.size q srt[m] W (HX2.o.keep hb)).mono λe w' h=>⟨_,h.1,rfl,h.2⟩);generalize srt[m]=x at*;clear h2;go_upto_region 13 with fail;rw[<-hw2];clear hw2 f0 f1 f2 f3 f4 f5 f6 f7;go_upto_region 14 with (go_at_call 140;refine HCT.o.mono ?_;rintro e w9 ⟨r9,rfl,q1,q2,q3⟩;have HR9:=ac (Lg q1 q2);have HB9:=ac (HB2.o.trans (q3.mono HB2.o.size));have HX9:=ac (HX2.o.keep q3);clear q1 q2 q3;cases r9)
     .have hany:kept.any (λq=>jy q x)=false:=by rw[List.any_eq_false];intro q hq;have:=HR9.o.1 (by trivial) q hq;simp[<-this]
      rw[hany] at HST;have HG2:Ma (bh (kept++[x]) (srt.drop (m+1))=bh [] srt):=by show _=_;rw[<-HGR.o,HST.o];simp
      clear hany HST;obtain⟨y0,y1,y2,y3,y4,y5,y6,y7⟩:=HX9.o;simp only[Ly] at y0 y1 y2 y3 y4 y5 y6 y7;have HPA:=ac ((HKW.o.next HB9.o).next (aj (A:=.cells #[.pointer (some ⟨x.b1,0,none⟩),.pointer (some ⟨x.b2,0,none⟩),.int .u16 x.a,.int .u16 x.b,.int .u16 x.d,.int .u16 x.z,.int .i64 x.dg,.int .i64 x.k] 126)));have HBA:Ma (Below wr1.heap.size wr1 (w9.alloc (.cells #[.pointer (some ⟨x.b1,0,none⟩),.pointer (some ⟨x.b2,0,none⟩),.int .u16 x.a,.int .u16 x.b,.int .u16 x.d,.int .u16 x.z,.int .i64 x.dg,.int .i64 x.k] 126))/\w.heap.size<=(w9.alloc (.cells #[.pointer (some ⟨x.b1,0,none⟩),.pointer (some ⟨x.b2,0,none⟩),.int .u16 x.a,.int .u16 x.b,.int .u16 x.d,.int .u16 x.z,.int .i64 x.dg,.int .i64 x.k] 126)).heap.size):=⟨HB9.o.trans (aj.mono HB9.o.size),by have:=HB1.o.size;have:=HB9.o.size;simp;omega⟩;have HE8:=ac (ze w9 x 126);have HAL9:=ac (HALL.o.next HBA.o.1);have HBW:=ac (HB1.o.trans (HBA.o.1.mono HB1.o.size));go_wp2_with (at_builtin;refine zg rfl (.tmp 53) (.tmp 55) rfl w.heap.size _ kept rfl HPA.o ⟨w9.heap.size,0,none⟩ [x] 1 rfl (by simp) (by simpa [bw] using HE8.o) (by simp;omega) HBA.o.2 ?_;intro v5 w5 q1 q2 q3;obtain⟨va5,vc5,hv5⟩:=q1.sl;subst hv5;have HP5:=ac q1;have HG5:=ac q2;have HL5:=ac q3;clear q1 q2 q3);go_roundw;case rel=>
       refine⟨m+1,kept++[x],by omega,by go_num,by simp;omega,HG2.o,by have h9:=HP5.o;rw[Lx] at h9;exact h9,λk hk=>?_,?_,HBW.o.grown HG5.o HBA.o.2 λk hk=>(Lb HPA.o.own k hk).1⟩
       .have hL:=HL5.o;have hk2:(Value.slice va5 (kept++[x]).length vc5).ownBlock=some k:=by rw[<-hk];cases va5<;>rfl
        rcases hL with e|e
        .rw[e] at hk2;exact HKD.o k hk2
        .rw[e] at hk2;simp only[LA] at hk2;intro e2;have:=(Lb HAL9.o.own k e2).2;omega
       .exact HAL9.o.frm (ai.of_grown (S:=λk=>(Value.slice ka kept.length kc).ownBlock=some k) HG5.o λk e=>e) λk hk e=>HKD.o k e hk
      case measure=>simp[intOf];omega
     .have hany:kept.any (λq=>jy q x)=true:=by obtain⟨q,hq,e⟩:=HR9.o.2 (by trivial);exact List.any_eq_true.2 ⟨q,hq,e.symm⟩
      rw[hany] at HST;have HG2:Ma (bh kept (srt.drop (m+1))=bh [] srt):=by show _=_;rw[<-HGR.o,HST.o];simp
      clear hany HST;go_wp2_with fail;go_roundw;case rel=>exact⟨m+1,kept,by omega,by go_num,by omega,HG2.o,HKW.o.next HB9.o,HKD.o,HALL.o.next HB9.o,HB1.o.trans (HB9.o.mono HB1.o.size)⟩
      case measure=>simp[intOf];omega
    .have e:m=srt.length:=by omega
     subst e;have HE:=HGR.o;rw[List.drop_of_length_le (Lc _)] at HE;have HEE:=ac HE;clear HE;have hsI:¬(srt.length:Int)<(al.length:Int):=by have:=HSL.o;omega
     go_wp2;go_ret;refine⟨_,rfl,srt,by rw[HAL.o];exact HPM.o,?_,HB1.o⟩;rw[<-HEE.o];exact HKW.o
theorem Tryz.infoPm:(prog.info? 124).map (λi=>(i.zero,i.size,i.bytes))=some (some (.pointer none),1,8):=by kernel_rfl
theorem Gs(ms:List Mm)(f:Mm)(pl:Nat):aS (ms++[f]) pl=if f.L.pl=pl then aS ms pl++[f] else aS ms pl:=by
 unfold aS;rw[List.filter_append];by_cases h:f.L.pl=pl
 .rw[LI h];simp[h]
 .rw[LH h];simp[h]
theorem Gt{w:World}(ty:TypeId)(B:Nat)(v:Value)(l:List Mm)(f:Mm)(h:w.ownsRow B 124 1 v l.length (l.map eH))(hk:∀g,v.ownBlock=some g->bU dP w g)(ad:Addr)(c:Nat)(hnew:w.cell? ad=some (eH f))(hn:l.length<=600000000000)(hB:B<=w.heap.size):∃v' w',(Builtin.append_ #[130,130] ty #[v,.slice (some ad) 1 c]).run prog w=.ok v' w'/\w'.ownsRow B 124 1 v' (l++[f]).length ((l++[f]).map eH)/\w.grownBy w' v.ownBlock/\(∀g,v'.ownBlock=some g->bU dP w' g)/\(v'.ownBlock=v.ownBlock\/v'.ownBlock=some w.heap.size):=by
 obtain⟨i0,hi,hz0,hz1,hz2⟩:=info_parts Tryz.infoPm;obtain⟨v',w',hr2,h2,h3,h4,h5⟩:=tQ (P:=prog) w dP B 130 ty 124 i0 _ 1 8 underlying130 hi hz0 hz1 hz2 rfl (by decide) (λu hu x e=>by subst e;simp[Value.cells] at hu) v l.length (l.map eH) h hk ad 1 c [eH f] (by decide) rfl (λj u hj=>by
  match j,hj with
  |0,hj=>
   have e:ad.add 0=ad:=by cases ad;unfold Addr.add;split<;>simp_all
   rw[e,hnew];exact hj) (λu hu=>by rw[Lw] at hu;subst hu;rfl) (λu hu x e=>by rw[Lw] at hu;subst hu;simp[eH] at e) (by unfold maxLen;omega) (by omega) hB
 refine⟨v',w',hr2,?_,h3,h4,h5⟩;rw[Lx,LO];exact h2
theorem eS.snoc{p:Int}{B:Nat}{w w5:World}{R g:Nat}{us:List Value}{ms:List Mm}{f:Mm}{n:Nat}{v5:Value}(h:eS p B w R g us ms)(hf:cj p B w f)(hfd:∀x∈ms,x.blk≠f.blk)(hB:B<=w.heap.size)(hn:n<R)(hpl:f.L.pl=n)(h5:w5.ownsRow B 124 1 v5 (aS ms n++[f]).length ((aS ms n++[f]).map eH))(hg5:w.grownBy w5 (us.getD n aB).ownBlock)(hk5:∀k,v5.ownBlock=some k->bU dP w5 k)(hl5:v5.ownBlock=(us.getD n aB).ownBlock\/v5.ownBlock=some w.heap.size):eS p B (w5.setCell ⟨g,n,none⟩ v5) R g (us.set n v5) (ms++[f])/\ai (λk=>k=g\/(us.getD n aB).ownBlock=some k) w (w5.setCell ⟨g,n,none⟩ v5):=by
 have hul:us.length=R:=by have:=h.o.1;omega
 have hrow:=h.row n hn;have hf5:ai (λk=>(us.getD n aB).ownBlock=some k) w w5:=ai.of_grown hg5 λk e=>e;have hTr:∀{T:TypeId},124≠T->∀k,(us.getD n aB).ownBlock=some k->b8 w T k:=λhT k hk=>bp hrow hk hT;have hout5:=dN hf5 h.o (hTr (by decide));have hst:=Lp hout5 n v5;have hf6:ai (λk=>k=g) w5 (w5.setCell ⟨g,n,none⟩ v5):=ai.of_grown hst.2 λk e=>by simpa using e.symm
 have hTg:∀{T:TypeId},130≠T->∀k,k=g->b8 w5 T k:=λhT k e=>by subst e;exact bp hout5 rfl hT
 have hff:ai (λk=>k=g\/(us.getD n aB).ownBlock=some k) w (w5.setCell ⟨g,n,none⟩ v5):=(hf5.wide (T:=λk=>k=g\/(us.getD n aB).ownBlock=some k) λ_ _ h=>L3 h).trans hf6 λk _ e=>L0 e;have hkg5:bU dP w5 g:=by refine hf5.kdb h.okd (Lb h.o g rfl).2 λe=>?_;obtain⟨af,e2⟩:=dp h.o (g:=g) rfl;exact hTr (T:=130) (by decide) g e af e2
 have hnb:dP v5:=by obtain⟨a,c,e⟩:=cw h5;intro x ex;rw[e] at ex;simp at ex
 have h8:dW w (w5.setCell ⟨g,n,none⟩ v5):=(dW.of_frm hf5 λk hk=>h.rkd n hn k hk).trans (dW.of_frm hf6 λk hk=>by rw[hk];exact hkg5);have hgd:∀j,(us.set n v5).getD j aB=if j=n then v5 else us.getD j aB:=λj=>by
  rw[lK];by_cases e:n=j
  .subst e;rw[LI ⟨rfl,by omega⟩,LI rfl]
  .rw[LH (λh=>e h.1),LH (λh=>e h.symm)]
 have hmw:∀y,cj p B w y->cj p B (w5.setCell ⟨g,n,none⟩ v5) y:=λy hy=>hy.frm hff h8 λhs=>by
  rcases hs with e|e
  .exact hy.nob h.okd e
  .exact hy.nob (h.rkd n hn _ e) rfl
 refine⟨⟨hst.1,ki hkg5 hnb,λj hj=>?_,λj hj k hk=>?_,λi j hi hj hne k hki hkj=>?_,λx hx=>?_,?_⟩,hff⟩
 .rw[hgd,Gs];by_cases e:j=n
  .subst e;rw[LI rfl,LI hpl];exact dN hf6 h5 (hTg (by decide))
  .rw[LH e,LH (by omega)];refine dN hf6 (hf5.own (h.row j hj) λk hk=>?_) (hTg (by decide));exact h.dis j n hj hn e k hk
 .rw[hgd] at hk;by_cases e:j=n
  .rw[LI e] at hk;refine hf6.kdb (hk5 k hk) (Lb h5 k hk).2 λe2=>?_;obtain⟨af,e3⟩:=dp h5 hk;exact hTg (T:=124) (by decide) k e2 af e3
  .rw[LH e] at hk;have h1:bU dP w5 k:=hf5.kdb (h.rkd j hj k hk) (Lb (h.row j hj) k hk).2 (h.dis j n hj hn e k hk);have ho5:w5.ownsRow B 124 1 (us.getD j aB) _ _:=hf5.own (h.row j hj) λk hk=>h.dis j n hj hn e k hk;refine hf6.kdb h1 (Lb ho5 k hk).2 λe2=>?_;obtain⟨af,e3⟩:=dp ho5 hk;exact hTg (T:=124) (by decide) k e2 af e3
 .rw[hgd] at hki hkj;by_cases e1:i=n
  .have e2:j≠n:=by omega
   rw[LI e1] at hki;rw[LH e2] at hkj;rcases hl5 with e|e
   .rw[e] at hki;exact h.dis n j hn hj (by omega) k hki hkj
   .rw[e] at hki;simp only[LA] at hki;have:=(Lb (h.row j hj) k hkj).2;omega
  .rw[LH e1] at hki;by_cases e2:j=n
   .rw[LI e2] at hkj;rcases hl5 with e|e
    .rw[e] at hkj;exact h.dis i n hi hn e1 k hki hkj
    .rw[e] at hkj;simp only[LA] at hkj;have:=(Lb (h.row i hi) k hki).2;omega
   .rw[LH e2] at hkj;exact h.dis i j hi hj hne k hki hkj
 .rcases Lv.1 hx with hx|hx
  .exact hmw x (h.mem x hx)
  .rw[Lw] at hx;subst hx;exact hmw _ hf
 .rw[LO];refine List.nodup_append.2 ⟨h.nd,by simp,λa ha b hb=>?_⟩;simp at hb;obtain⟨x,hx,rfl⟩:=LC.1 ha;rw[hb];exact hfd x hx
theorem Gu(w:World)(b:Nat)(T:TypeId):(w.alloc (.cells #[.pointer (some ⟨b,0,none⟩)] T)).cell? ⟨w.heap.size,0,none⟩=some (.pointer (some ⟨b,0,none⟩)):=by simp[go_sem]
theorem Gv(p:Int)(B:Nat)(w:World)(mb ob R g:Nat)(dv pv:Value)(us:List Value)(ms:List Mm)(qs:List Pq)(f:Mm)(hm:bj p B w mb ob R g dv pv us ms qs)(hf:cj p B w f)(hfd:∀x∈ms,x.blk≠f.blk)(hB:B<=w.heap.size)(hpl:0<=f.L.pl/\f.L.pl<R)(hml:ms.length<=1300000)(hR:R<=255):Calls prog 113 #[.pointer (some ⟨mb,0,none⟩),.pointer (some ⟨f.blk,0,none⟩)] w λe w'=>e=.returned (.tuple #[])/\∃us',bj p B w' mb ob R g dv pv us' (ms++[f]) qs/\Below B w w'/\ba w w':=by
 obtain⟨n,hnpl⟩:∃n:Nat,f.L.pl=n:=⟨f.L.pl.toNat,by omega⟩;have hnR:n<R:=by omega
 obtain⟨w1,hw1⟩:∃w1,w1=(w.alloc (.cells #[.pointer (some ⟨f.blk,0,none⟩)] 124)).drew:=⟨_,rfl⟩;have HB1:Ma (Below w.heap.size w w1):=by rw[hw1];exact(aj (w:=w)).drew
 have HM1:=ac (hm.next HB1.o);have HF1:=ac (hf.next HB1.o);have hB1:B<=w1.heap.size:=Lk hB HB1.o.size;have hc1:w1.cell? ⟨w.heap.size,0,none⟩=some (eH f):=by rw[hw1];exact Gu w _ _
 obtain⟨v5,w5,hap,h5,hg5,hk5,hl5⟩:=Gt 130 B (us.getD n aB) (aS ms n) f (HM1.o.mks.row n hnR) (HM1.o.mks.rkd n hnR) ⟨w.heap.size,0,none⟩ 1 hc1 (by have:=LX (λx:Mm=>decide (x.L.pl=n)) ms;unfold aS;omega) hB1;have hsn:=HM1.o.mks.snoc HF1.o hfd hB1 hnR hnpl h5 hg5 hk5 hl5;have hS:∀{T:TypeId},130≠T->124≠T->∀k,(k=g\/(us.getD n aB).ownBlock=some k)->b8 w1 T k:=fun {T} t1 t2 k hk=>by
  rcases hk with e|e
  .subst e;exact bp HM1.o.mks.o rfl t1
  .exact bp (HM1.o.mks.row n hnR) e t2
 have HFIN:Ma (bj p B (w5.setCell ⟨g,n,none⟩ v5) mb ob R g dv pv (us.set n v5) (ms++[f]) qs/\Below B w (w5.setCell ⟨g,n,none⟩ v5)/\ba w (w5.setCell ⟨g,n,none⟩ v5)):=by
  refine⟨⟨dN hsn.2 HM1.o.box (hS (by decide) (by decide)),HM1.o.dvs,hsn.1,HM1.o.prs.frm hsn.2 λk hk hs=>?_⟩,(HB1.o.mono hB).trans (hsn.2.to_below hB1 λk hk=>?_),(ba.of_below HB1.o).trans (ba.of_frm hsn.2 (hS (by decide) (by decide)) (hS (by decide) (by decide)) (hS (by decide) (by decide)))⟩
  .obtain⟨af,e2⟩:=dp HM1.o.prs.own hk;exact hS (T:=126) (by decide) (by decide) k hs af e2
  .rcases hk with rfl|hk
   .exact(Lb HM1.o.mks.o k rfl).1
   .exact(Lb (HM1.o.mks.row n hnR) k hk).1
 have hf5:ai (λk=>(us.getD n aB).ownBlock=some k) w1 w5:=ai.of_grown hg5 λk e=>e;have hfar:∀{T:TypeId}{bb:Value}{kk ss nn:Nat}{xs:List Value},124≠T->w1.ownsRow B T ss (.slice (some ⟨kk,0,none⟩) nn nn) nn xs->¬(us.getD n aB).ownBlock=some kk:=fun {T bb kk ss nn xs} t1 ho e=>by obtain⟨af,e2⟩:=dp ho (g:=kk) rfl;exact bp (HM1.o.mks.row n hnR) e t1 af e2
 obtain⟨_,_,m2,_,_⟩:=hm.cells;obtain⟨r0,r1⟩:=hm.mks.at n hnR;have c5:=hf.mbr.div.cells.2.2.2.2.2.1;simp only[Ly] at c5;rw[hnpl] at c5;have a2:=ae m2 HB1.o;have a0:=ae r0 HB1.o;have a5:=ae c5 HB1.o;have b2:=hf5.cell a2 (hfar (bb:=aB) (by decide) HM1.o.box);have b0:=hf5.cell a0 (hfar (bb:=aB) (by decide) HM1.o.mks.o);have b5:=hf5.cell a5 (hfar (bb:=aB) (by decide) HF1.o.own);have bz:w5.frozen? ⟨g,n,none⟩=false:=by have ho:=dN hf5 HM1.o.mks.o λk hk=>bp (HM1.o.mks.row n hnR) hk (by decide);exact K8 ho n
 have hnI:(n:Int)<(R:Int):=by omega
 obtain⟨ra,rc,hrow⟩:=cw (HM1.o.mks.row n hnR);obtain⟨va,vc,hv5⟩:=cw h5;rw[oC] at hv5;subst hv5;rw[hrow] at hap r0 a0 b0;unfold eH at hc1;clear hm hf hfd HM1 HF1 hsn hS hf5 hfar h5 hg5 hk5 hl5 hpl hml r1;subst hw1;have d2:(w.alloc (.cells #[.pointer (some ⟨f.blk,0,none⟩)] 124)).cell? _=some _:=a2;have d0:(w.alloc (.cells #[.pointer (some ⟨f.blk,0,none⟩)] 124)).cell? _=some _:=a0;have d5:(w.alloc (.cells #[.pointer (some ⟨f.blk,0,none⟩)] 124)).cell? _=some _:=a5;simp[go_sem] at hap;go_enter func113,ntmps113;go_region;clear hap;go_end0;exact⟨rfl,_,HFIN.o⟩
theorem xZ{P:Program}(w:World)(base:Nat)(t ty e:TypeId)(i:TypeInfo)(size:Nat)(ht:P.underlying t=some (.slice e))(hi:P.info? e=some i)(v:Value)(n c:Nat)(a:Option Addr)(xs:List Value)(hown:w.ownsRow base e size v n xs):(Builtin.append_ #[t,t] ty #[v,.slice a 0 c]).run P w=.ok v w:=by
 cases a with
 |none=>exact xo w base t ty e i size ht hi v n c xs hown
 |some ad=>
  rcases hown.2 with ⟨rfl,rfl⟩|⟨g,cap,af,rfl,_,_,hnc,_⟩
  .simp[Builtin.append_,run_underlying ht,sizeOf,typeInfo,hi,Builtin.lenOf,Builtin.firstCells,loadCells,loadCellsFrom]
  .simp[Builtin.append_,run_underlying ht,sizeOf,typeInfo,hi,Builtin.lenOf,Builtin.firstCells,hnc,storeCells,loadCells,loadCellsFrom]
theorem bj.app{p:Int}{B:Nat}{w w3:World}{mb ob R g:Nat}{dv pv v3:Value}{us:List Value}{ms:List Mm}{qs rs:List Pq}{f:Mm}(hm:bj p B w mb ob R g dv pv us ms qs)(hf:cj p B w f)(hB:B<=w.heap.size)(hp:aZ w.heap.size w3 v3 rs)(hb:Below w.heap.size w w3)(hn:qs.length+rs.length<=600000000000):∃v4 w4,(Builtin.append_ #[118,118] 118 #[pv,v3]).run prog w3=.ok v4 w4/\w3.cell? ⟨mb,3,none⟩=some pv/\w4.cell? ⟨mb,3,none⟩=some pv/\w4.frozen? ⟨mb,3,none⟩=false/\(∃a c,v4=.slice a (qs++rs).length c)/\bj p B (w4.setCell ⟨mb,3,none⟩ v4) mb ob R g dv v4 us ms (qs++rs)/\cj p B (w4.setCell ⟨mb,3,none⟩ v4) f/\Below B w (w4.setCell ⟨mb,3,none⟩ v4)/\ba w (w4.setCell ⟨mb,3,none⟩ v4):=by
 have hm3:=hm.next hb;have hf3:=hf.next hb;have hB3:B<=w3.heap.size:=Lk hB hb.size;have FIN:∀v4 w4,aZ B w4 v4 (qs++rs)->ai (λk=>pv.ownBlock=some k) w3 w4->w3.cell? ⟨mb,3,none⟩=some pv/\w4.cell? ⟨mb,3,none⟩=some pv/\w4.frozen? ⟨mb,3,none⟩=false/\(∃a c,v4=.slice a (qs++rs).length c)/\
   bj p B (w4.setCell ⟨mb,3,none⟩ v4) mb ob R g dv v4 us ms (qs++rs)/\cj p B (w4.setCell ⟨mb,3,none⟩ v4) f/\Below B w (w4.setCell ⟨mb,3,none⟩ v4)/\ba w (w4.setCell ⟨mb,3,none⟩ v4):=λv4 w4 h1 h2=>by
  have hbx:w4.ownsRow B 121 5 (jz mb) 1 (ii ob g R dv pv):=dN h2 hm3.box λk hk=>bp hm3.prs.own hk (by decide);obtain⟨r1,r2,r3⟩:=hm3.repair hB3 h2 h1;have hS9:∀{T:TypeId},121≠T->126≠T->∀k,(k=mb\/pv.ownBlock=some k)->b8 w3 T k:=λt1 t2 k hk=>by
   rcases hk with rfl|hk
   .exact bp hm3.box rfl t1
   .exact bp hm3.prs.own hk t2
  refine⟨hm3.cells.2.2.2.1,?_,K8 hbx 3,h1.sl,r1,?_,(hb.mono hB).trans r3,(ba.of_below hb).trans (ba.of_frm r2 (hS9 (by decide) (by decide)) (hS9 (by decide) (by decide)) (hS9 (by decide) (by decide)))⟩
  .have:=La hbx 3 (by omega);rw[this];rfl
  .refine hf3.frm r2 (dW.of_frm r2 λk hk=>?_) λhs=>?_
   .rcases hk with rfl|hk
    .exact hm3.kd
    .exact hm3.prs.kd k hk
   .rcases hs with e|e
    .exact hf3.nob hm3.kd e
    .exact hf3.nob (hm3.prs.kd _ e) rfl
 by_cases h0:rs.length=0
 .have e:rs=[]:=List.eq_nil_of_length_eq_zero h0;subst e;obtain⟨a,c,rfl⟩:=hp.sl;obtain⟨i0,hi,_,_,_⟩:=info_parts Tryz.infoPr;refine⟨pv,w3,xZ w3 B _ _ _ i0 8 underlying118 hi pv qs.length c a (bw qs) hm3.prs.own,FIN pv w3 (by rw[List.append_nil];exact hm3.prs) (ai.refl _ _)⟩
 .rcases hp.own.2 with ⟨h1,h2⟩|⟨g2,cap,af,rfl,_⟩
  .exfalso;exact h0 (by simpa [iF] using h2)
  .obtain⟨v4,w4,hr,h1,h2,_⟩:=zf 118 B pv qs hm3.prs ⟨g2,0,none⟩ rs cap (by omega) (λj y hj=>by
    have hlen:(bw rs).length=rs.length*8:=iF rs;have hj8:j<rs.length*8:=by rw[<-hlen];exact(List.getElem?_eq_some_iff.1 hj).1
    have:=La hp.own j (by omega);rw[hj] at this;by_cases ej:j=0
    .subst ej;simpa [Addr.add] using this
    .simpa [Addr.add,ej] using this) hn hB3
   exact⟨v4,w4,hr,FIN v4 w4 h1 (ai.of_grown h2 λk e=>e)⟩
theorem bj.put{p:Int}{B:Nat}{w:World}{mb ob R g:Nat}{dv pv:Value}{us:List Value}{ms:List Mm}{qs:List Pq}{f x:Mm}(hm:bj p B w mb ob R g dv pv us ms qs)(hf:cj p B w f)(hB:B<=w.heap.size)(hx:x∈ms)(hfx:f.blk≠x.blk)(c:Bool):bj p B (w.setCell ⟨x.blk,10,none⟩ (.bool c)) mb ob R g dv pv us (ms.map (gh x.blk c)) qs/\cj p B (w.setCell ⟨x.blk,10,none⟩ (.bool c)) f/\Below B w (w.setCell ⟨x.blk,10,none⟩ (.bool c))/\ba w (w.setCell ⟨x.blk,10,none⟩ (.bool c)):=by
 obtain⟨h1,h2,h8⟩:=(hm.mks.mem x hx).put c;have hfr:ai (λk=>k=x.blk) w (w.setCell ⟨x.blk,10,none⟩ (.bool c)):=ai.of_grown h2 λk e=>by simpa using e.symm
 have hT:∀{T:TypeId},135≠T->∀k,k=x.blk->b8 w T k:=λhT k e=>by subst e;exact bp (hm.mks.mem x hx).own rfl hT
 refine⟨⟨dN hfr hm.box (hT (by decide)),hm.dvs,hm.mks.put hx c,hm.prs.frm hfr λk hk e=>?_⟩,hf.frm hfr h8 hfx,hfr.to_below hB λk hk=>?_,ba.of_frm hfr (hT (by decide)) (hT (by decide)) (hT (by decide))⟩
 .obtain⟨af,e2⟩:=dp hm.prs.own hk;exact hT (T:=126) (by decide) k e af e2
 .subst hk;exact(hm.mks.mem x hx).lt.1
theorem jX{ms:List Mm}{x y:Mm}(hnd:(ms.map Mm.blk).Nodup)(hx:x∈ms)(hy:y∈ms)(e:x.blk=y.blk):x=y:=by
 induction ms with
 |nil=>simp at hx
 |cons z zs ih=>
  rw[List.map_cons,List.nodup_cons] at hnd;rcases LL.1 hx with rfl|hx2
  .rcases LL.1 hy with rfl|hy2
   .rfl
   .exact absurd (LC.2 ⟨y,hy2,e.symm⟩) hnd.1
  .rcases LL.1 hy with rfl|hy2
   .exact absurd (LC.2 ⟨x,hx2,e⟩) hnd.1
   .exact ih hnd.2 hx2 hy2
def kJ(L:Ft)(x:Mm):Mm:={x with gone:=x.gone||dZ L x.L}
def eV(L:Ft)(bs:List Nat)(x:Mm):Mm:=if x.blk∈bs then kJ L x else x
theorem zh(L:Ft)(bs:List Nat)(x:Mm):(eV L bs x).L=x.L/\(eV L bs x).blk=x.blk:=by unfold eV kJ;split<;>simp
theorem Gw{L:Ft}{ms:List Mm}{bs:List Nat}{x:Mm}(hnd:(ms.map Mm.blk).Nodup)(hx:x∈ms)(hb:x.blk∉bs):(ms.map (eV L bs)).map (gh x.blk (x.gone||dZ L x.L))=ms.map (eV L (bs++[x.blk])):=by
 rw[List.map_map];refine List.map_congr_left λy hy=>?_;by_cases e:y.blk=x.blk
 .have exy:y=x:=jX hnd hy hx e;subst exy;simp[eV,kJ,gh,hb]
 .have e2:y.blk≠x.blk:=e;by_cases h:y.blk∈bs
  .simp[eV,kJ,gh,h,e2]
  .simp[eV,gh,h,e2]
def bo(L:Ft)(x:Mm):Mm:=if x.L.pl=L.pl then kJ L x else x
theorem Gx{L:Ft}{ms:List Mm}{n:Nat}(hL:L.pl=n)(hnd:(ms.map Mm.blk).Nodup):ms.map (eV L ((aS ms n).map Mm.blk))=ms.map (bo L):=by
 refine List.map_congr_left λy hy=>?_;unfold eV bo;have:y.blk∈(aS ms n).map Mm.blk↔y.L.pl=L.pl:=by
  rw[hL];constructor
  .intro h;obtain⟨x,hx,e⟩:=LC.1 h;have:=jX hnd (LR.1 hx).1 hy e;subst this;simpa using (LR.1 hx).2
  .intro h;exact LC.2 ⟨y,LR.2 ⟨hy,by simpa using h⟩,rfl⟩
 simp[this]
def lk(ms:List Mm)(b:Nat):Ft:=((ms.find? λx=>x.blk==b).map Mm.L).getD ⟨0,0,0,0,0,0,0⟩
theorem mB{ms:List Mm}{x:Mm}(hnd:(ms.map Mm.blk).Nodup)(hx:x∈ms):lk ms x.blk=x.L:=by
 unfold lk;cases h:ms.find? λy=>y.blk==x.blk with
 |none=>have:=List.find?_eq_none.1 h x hx;simp at this
 |some y=>have h1:=List.mem_of_find?_eq_some h;have h2:=List.find?_some h;have:=jX hnd h1 hx (by simpa using h2);subst this;rfl
def eC(ms:List Mm)(L:Ft)(q:Pq):Bool:=mP (lk ms q.b1) (lk ms q.b2) L q
end Go.Proofs.YteimdcndjjclnaaGreat
