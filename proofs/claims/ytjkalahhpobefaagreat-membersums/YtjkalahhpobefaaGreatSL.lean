/- A vector is filled up. -/
import Derived.Test.YtjkalahhpobefaaGreatTB
set_option maxHeartbeats 4000000
set_option maxRecDepth 100000
namespace Go.Proofs.YtjkalahhpobefaaGreat
set_option linter.all false
open Go.Proofs.Tryz Go.RowKit Go.Sort
def fG(dg:Nat->Int)(t:Ft):Int:=t.a+t.b+t.d+dg t.pl.toNat
def iw(dg:Nat->Int)(fs:PB):Int:=fs.foldl (λd t=>max d (fG dg t)) 0
theorem Mh(dg:Nat->Int)(fs:PB)(t:Ft):iw dg (fs++[t])=max (iw dg fs) (fG dg t):=by simp[iw]
theorem xj(dg:Nat->Int):∀(fs:PB)(d:Int),d<=fs.foldl (λd t=>max d (fG dg t)) d/\∀t∈fs,fG dg t<=fs.foldl (λd t=>max d (fG dg t)) d
 |[],d=>⟨Int.le_refl _,λt ht=>by simp at ht⟩
 |u::fs,d=>by
  have h:=xj dg fs (max d (fG dg u));simp only[List.foldl_cons];refine⟨by have:=h.1;omega,λt ht=>?_⟩;rcases OY.1 ht with rfl|ht
  .have:=h.1;omega
  .exact h.2 t ht
variable{fs:PB}{dg:Nat->Int}
theorem C9{t:Ft}(h:t∈fs):fG dg t<=iw dg fs:=(xj dg fs 0).2 t h
theorem Mi(dg:Nat->Int)(fs:PB):0<=iw dg fs:=(xj dg fs 0).1
theorem Da(dg:Nat->Int)(D:Int):∀(fs:PB)(d:Int),d<=D->(∀t∈fs,fG dg t<=D)->fs.foldl (λd t=>max d (fG dg t)) d<=D
 |[],d,h,_=>h
 |u::fs,d,h,hf=>by simp only[List.foldl_cons];have:=hf u (by simp);exact Da dg D fs _ (by omega) λt ht=>hf t (by simp[ht])
theorem Db{D:Int}(h0:0<=D)(h:∀t∈fs,fG dg t<=D):iw dg fs<=D:=Da dg D fs 0 h0 h
structure sR(R:Nat)(dg:Nat->Int)(x:Ft):Prop where
 a:0<=x.a/\x.a<=30000
 b:0<=x.b/\x.b<=30000
 d:0<=x.d/\x.d<=30000
 z:x.z=0
 pl:0<=x.pl/\x.pl<R
 dg:fG dg x<=30000
def fD(dg:Nat->Int)(D:Int)(t:Ft):Int:=D-(t.a+t.b+t.d)-dg t.pl.toNat
theorem LI(mb R g cap B:Nat)(dv:PK)(dg:Nat->Int)(fs:PB)(w:PJ)(hm:w.cell? (PN mb 1)=some dv)(hmB:mb<B)(hdg:iI w dv R dg)(hdB:∀b off n c,dv=.slice (some (PN b off)) n c->b<B)(hR:R<=255)(hd:∀pl,pl<R->0<=dg pl/\dg pl<=30000)(hf:∀x∈fs,sR R dg x)(hl:fs.length<=1100000000001)(hB:B<=w.heap.size)(hv:w.ownsRow B 88 7 (PM g fs.length cap) fs.length (aA fs)):Calls prog 144 #[PL mb,PM g fs.length cap] w λe w'=>e=.returned (.tuple #[])/\w'.ownsRow B 88 7 (PM g fs.length cap) fs.length (aA (fs.map λt=>{t with z:=fD dg (iw dg fs) t}))/\Below B w w':=by
 have HM:=ae hm;have HDG:=ae hdg;have HDB:=ae hd;have HF:=ae hf;have HV:=ae hv;have HFV:=ae (fU hv);obtain⟨db,doff,dc,rfl,_⟩:=hdg;have hdb:=hdB db doff _ _ rfl;have hgB:B<=g:=(Ot hv g rfl).1;have HEX:=ae (fun(W:PJ)(x:Ft)(h:sR R dg x)=>A7 x.a x.b x.d x.z W (by have:=h.a;omega) (by have:=h.b;omega) (by have:=h.d;omega) (by have:=h.z;omega));have STEP:Po (∀(W:PJ)(m:Nat),Io w W->m<fs.length->∃x:Ft,sR R dg x/\fs.take (m+1)=fs.take m++[x]/\cu W g (0+m*7) x/\∃n:Nat,x.pl=n/\n<R/\W.cell? (PN db (doff+n))=some (PO (dg n))/\0<=dg n/\dg n<=30000):=λW m hb hm=>by
  obtain⟨b,off,e,_,_,hft⟩:=(HFV.o.below hb).at m hm;simp only[OP,Addr.mk.injEq,and_true] at e;obtain⟨rfl,rfl⟩:=e;have hmem:fs.getD m dT∈fs:=by rw[OH,OI hm];exact OE hm
  have hx:=HF.o _ hmem;refine⟨_,hx,by rw[OX hm];simp[OH,hm],hft,(fs.getD m dT).pl.toNat,by have:=hx.pl;omega,by have:=hx.pl;omega,?_,?_,?_⟩
  .obtain⟨b2,off2,c2,e2,h2⟩:=HDG.o.below hb;simp only[OQ,OP,Addr.mk.injEq,and_true,true_and] at e2;obtain⟨⟨rfl,rfl⟩,_⟩:=e2;exact h2 _ (by have:=hx.pl;omega)
  .exact(HDB.o _ (by have:=hx.pl;omega)).1
  .exact(HDB.o _ (by have:=hx.pl;omega)).2
 unfold cw at HEX;clear hm hd hf hv hdB;go_enter func144,ntmps144;go_wp2_with fail;go_loopw [4,11] (λd i wr=>∃m:Nat,m<=fs.length/\i=PO m/\d=PO (iw dg (fs.take m))/\Io w wr) (λ_ i _=>fs.length-(intOf i).toNat);case atStart=>exact⟨0,OB _,rfl,rfl,Ov _ _⟩
 case round=>
  obtain⟨m,hm,rfl,rfl,hbr⟩:=hrel;have HBR:=ae hbr;clear hbr;by_cases hm2:m<fs.length
  .obtain⟨x,hx,htk,hft,n,hpl,hnR,hcd,hg0,hg1⟩:=STEP.o wr m HBR.o hm2;have HX:=ae hx;obtain⟨f0,f1,f2,f3,f4,f5,f6⟩:=hft;simp only[ON] at f0 f1 f2 f3 f4 f5 f6;rw[hx.z] at f4;rw[hpl] at f5;have HMX:Po (max (iw dg (fs.take m)) (x.a+x.b+x.d+dg n)=iw dg (fs.take (m+1))):=by show _=_;rw[htk,Mh];unfold fG;rw[hpl];rfl
   generalize iw dg (fs.take m)=df at HMX⊢;have HEX2:=ae (λW=>HEX.o W x HX.o);rw[hx.z,Int.add_zero] at HEX2;have z1:=af HM.o HBR.o;have hxa:=hx.a;have hxb:=hx.b;have hxd:=hx.d;have hmI:(m:Int)<(fs.length:Int):=by omega
   have hnI:(n:Int)<(R:Int):=by omega
   have hwr:IntKind.i64.wrap (x.a+x.b+x.d+dg n)=x.a+x.b+x.d+dg n:=by rw[IntKind.wrap_i64];omega
   clear hx htk;go_upto_region 4 with fail;obtain⟨w2,hw2⟩:∃w2,w2=wr.alloc (.cells #[PO x.k,PP x.a,PP x.b,PP x.d,PP 0,PQ n,PQ x.c] 88):=⟨_,rfl⟩;have HB2:Po (Io wr w2):=by rw[hw2];exact ai
   have FX:Po (cu w2 wr.heap.size 0 {x with z:=0,pl:=n}):=by rw[hw2];exact(show Bx wr.heap.size _ wr.heap.size {x with z:=0,pl:=(n:Int)} from dr (Ou _) _).at
   obtain⟨x0,x1,x2,x3,x4,x5,x6⟩:=FX.o;simp only[ON] at x0 x1 x2 x3 x4 x5 x6;have y0:=af hcd HB2.o;have y1:=af z1 HB2.o;rw[<-hw2];clear hw2 f0 f1 f2 f3 f4 f5 f6 z1 hcd;have KEEP:Po (∀W,Io w2 W->(W.cell? (PN wr.heap.size 1)=some (PP x.a)/\W.cell? (PN wr.heap.size 2)=some (PP x.b)/\W.cell? (PN wr.heap.size 3)=some (PP x.d)/\W.cell? (PN wr.heap.size 4)=some (PP 0)/\W.cell? (PN wr.heap.size 5)=some (PQ n)/\W.cell? (PN db (doff+n))=some (PO (dg n))/\W.cell? (PN mb 1)=some (.slice (some (PN db doff)) R dc))):=λW hb=>⟨af x1 hb,af x2 hb,af x3 hb,af x4 hb,af x5 hb,af y0 hb,af y1 hb⟩;go_region_held (λW=>W.cell? (PN wr.heap.size 1)=some (PP x.a)/\W.cell? (PN wr.heap.size 2)=some (PP x.b)/\W.cell? (PN wr.heap.size 3)=some (PP x.d)/\W.cell? (PN wr.heap.size 4)=some (PP 0)/\W.cell? (PN wr.heap.size 5)=some (PQ n)/\W.cell? (PN db (doff+n))=some (PO (dg n))/\W.cell? (PN mb 1)=some (.slice (some (PN db doff)) R dc))
    (first|with_reducible exact KEEP.o _ HB8.o|with_reducible exact KEEP.o _ (Ov _ _).drew)
    (first|(go_at_call 178;refine(HEX2.o _).mono ?_;rintro e w8 ⟨rfl,q1⟩;have HB8:=ae ((Ov w2.heap.size w2).drew.trans q1);clear q1))
   all_goals
    go_wp2;go_roundw;case rel=>exact⟨m+1,by omega,by go_num,by rw[<-HMX.o],In HBR.o (In HB2.o HB8.o)⟩
    case measure=>simp[intOf];omega
  .have e:m=fs.length:=by omega
   subst e;rename PJ=>wf;rw[OO (Ou _)];obtain⟨D,hD⟩:∃D,D=iw dg fs:=⟨_,rfl⟩;have HDD:=ae hD;have HDX:Po (0<=D/\D<=30000/\∀x∈fs,fG dg x<=D):=⟨by rw[hD];exact Mi _ _,by rw[hD];exact Db (by omega) λt ht=>(HF.o t ht).dg,λx hx=>by rw[hD];exact C9 hx⟩;rw[<-hD];clear hD;go_wp2_with fail;go_loopw [32] (λi wq=>∃m:Nat,m<=fs.length/\i=PO m/\wq.ownsRow B 88 7 (PM g fs.length cap) fs.length (aA (zF (fD dg D) m fs))/\Below B w wq) (λi _=>fs.length-(intOf i).toNat);case atStart=>exact⟨0,OB _,rfl,by rw[C3];exact aF HV.o HBR.o,HBR.o.mono hB⟩
   case round=>
    clear HBR;obtain⟨m,hm,rfl,ho,hbr⟩:=hrel;rename PJ=>wq;have HO:=ae ho;have HBR:=ae hbr;clear ho hbr;by_cases hm2:m<fs.length
    .have HO':Po (wq.ownsRow B 88 7 (PM g (zF (fD dg D) m fs).length cap) (zF (fD dg D) m fs).length (aA (zF (fD dg D) m fs))):=by show World.ownsRow _ _ _ _ _ _ _;rw[mM];exact HO.o
     obtain⟨b,off,e,_,_,hft⟩:=(fU HO'.o).at m (by rw[mM];exact hm2);simp only[OP,Addr.mk.injEq,and_true] at e;obtain⟨rfl,rfl⟩:=e;have hge:(zF (fD dg D) m fs).getD m dT=fs[m]:=by rw[OH,OI (by rw[mM];exact hm2),C6 hm2];rfl
     rw[hge] at hft;have hx:=HF.o fs[m] (OE hm2);have hxD:=HDX.o.2.2 _ (OE hm2);have hD2:=HDX.o.2.1;have HZS:=ae (C7 (f:=fD dg D) hm2);generalize fs[m]=x at hft hx hxD HZS;clear hge HO';obtain⟨n,hpl⟩:∃n:Nat,x.pl=n:=⟨x.pl.toNat,by have:=hx.pl;omega⟩;have hnR:n<R:=by have:=hx.pl;omega
     have hcd:wq.cell? (PN db (doff+n))=some (PO (dg n)):=by refine(HBR.o.cell (p:=(PN db (doff+n))) hdb).trans ?_;obtain⟨b2,off2,c2,e2,h2⟩:=HDG.o;simp only[OQ,OP,Addr.mk.injEq,and_true,true_and] at e2;obtain⟨⟨rfl,rfl⟩,_⟩:=e2;exact h2 n hnR
     obtain⟨hg0,hg1⟩:=HDB.o n hnR;have HX:=ae hx;obtain⟨f0,f1,f2,f3,f4,f5,f6⟩:=hft;simp only[ON] at f0 f1 f2 f3 f4 f5 f6;rw[hx.z] at f4;rw[hpl] at f5;have HEX2:=ae (λW=>HEX.o W x HX.o);rw[hx.z,Int.add_zero] at HEX2;have z1:wq.cell? (PN mb 1)=some (.slice (some (PN db doff)) R dc):=(HBR.o.cell (p:=(PN mb 1)) hmB).trans HM.o;have hxa:=hx.a;have hxb:=hx.b;have hxd:=hx.d;have hmI:(m:Int)<(fs.length:Int):=by omega
     have hnI:(n:Int)<(R:Int):=by omega
     unfold fG at hxD;rw[hpl] at hxD;simp only[Int.toNat_natCast] at hxD;obtain⟨zz,hzz⟩:∃zz,zz=D-(x.a+x.b+x.d)-dg n:=⟨_,rfl⟩;have hw1:IntKind.i64.wrap (D-(x.a+x.b+x.d))=D-(x.a+x.b+x.d):=by rw[IntKind.wrap_i64];omega
     have hw2:IntKind.i64.wrap (D-(x.a+x.b+x.d)-dg n)=zz:=by rw[IntKind.wrap_i64];omega
     have hw3:IntKind.u16.wrap zz=zz:=by rw[IntKind.wrap_u16];omega
     have HZZ:Po (fD dg D x=zz):=by show _=_;unfold fD;rw[hpl,hzz];rfl
     clear hx hzz;go_upto_region 9 with fail;obtain⟨w2,hw2'⟩:∃w2,w2=wq.alloc (.cells #[PO x.k,PP x.a,PP x.b,PP x.d,PP 0,PQ n,PQ x.c] 88):=⟨_,rfl⟩;have HB2:Po (Io wq w2):=by rw[hw2'];exact ai
     have FX:Po (cu w2 wq.heap.size 0 {x with z:=0,pl:=n}):=by rw[hw2'];exact(show Bx wq.heap.size _ wq.heap.size {x with z:=0,pl:=(n:Int)} from dr (Ou _) _).at
     obtain⟨x0,x1,x2,x3,x4,x5,x6⟩:=FX.o;simp only[ON] at x0 x1 x2 x3 x4 x5 x6;have y0:=af hcd HB2.o;have y1:=af z1 HB2.o;have y2:=af f4 HB2.o;have HO2:=ae (aF HO.o HB2.o);have y3:w2.frozen? ⟨g,m*7+4,none⟩=false:=Oo HO2.o (m*7+4);rw[<-hw2'];clear hw2' f0 f1 f2 f3 f4 f5 f6 z1 hcd;have KEEP:Po (∀W,Io w2 W->(W.cell? (PN wq.heap.size 1)=some (PP x.a)/\W.cell? (PN wq.heap.size 2)=some (PP x.b)/\W.cell? (PN wq.heap.size 3)=some (PP x.d)/\W.cell? (PN wq.heap.size 4)=some (PP 0)/\W.cell? (PN wq.heap.size 5)=some (PQ n)/\W.cell? (PN db (doff+n))=some (PO (dg n))/\W.cell? (PN mb 1)=some (.slice (some (PN db doff)) R dc)/\W.cell? ⟨g,m*7+4,none⟩=some (PP 0)/\W.frozen? ⟨g,m*7+4,none⟩=false)):=λW hb=>⟨af x1 hb,af x2 hb,af x3 hb,af x4 hb,af x5 hb,af y0 hb,af y1 hb,af y2 hb,Oo (aF HO2.o hb) (m*7+4)⟩;go_region_law (go_simp;refine(HEX2.o _).mono ?_;rintro e w8 ⟨rfl,q1⟩;have HB8:=ae ((Ov w2.heap.size w2).drew.trans q1);clear q1;obtain⟨k1,k2,k3,k4,k5,k6,k7,k8,k9⟩:=KEEP.o w8 HB8.o;dsimp only);all_goals
      have HST:=ae (OF (aF HO2.o HB8.o) (m*7+4) (PP zz));go_wp2;go_roundw;case rel=>
       refine⟨m+1,by omega,by go_num,?_,?_⟩
       .rw[<-HZS.o,HZZ.o];exact HST.o.1
       .have hb:=HBR.o.trans ((In HB2.o HB8.o).mono (OA hB HBR.o.size));exact hb.trans (cQ HST.o.2 hgB (OA hB hb.size))
      case measure=>simp[intOf];omega
    .have e:m=fs.length:=by omega
     subst e;go_wp2;go_end0;refine⟨rfl,?_,HBR.o⟩;have h:=HO.o;rw[C5] at h;rw[<-HDD.o];exact h
end Go.Proofs.YtjkalahhpobefaaGreat
namespace Go.Proofs.YtjkalahhpobefaaGreat
set_option linter.all false
open Go.Proofs.Tryz Go.RowKit
theorem xk{k:Int}:∀{f:PB},(∀x∈f,x.k≠k)->ao k f=0
 |[],_=>rfl
 |t::f,h=>by simp only[ao];rw[OV (h t (by simp)),xk λx hx=>h x (by simp[hx])];rfl
variable{E F p:Int}{N w n:Nat}
theorem Dc(hx:ch p N w n)(hE:E<=9700)(hF:F<=9700){u v:Ft}(gu:bk N w n E F u)(gv:bk N w n E F v)(h:u.k=v.k):eC u v:=by have e:=zM hx hE hF hE hF gu gv h;unfold ah at e;simp only[Prod.mk.injEq] at e;have:=gu.a;have:=gu.b;have:=gu.d;have:=gu.z;have:=gu.pl0;have:=gv.a;have:=gv.b;have:=gv.d;have:=gv.z;have:=gv.pl0;exact⟨h,by omega,by omega,by omega,by omega,by omega⟩
variable{fs:PB}
theorem wV(hx:ch p N w n)(hE:E<=9700)(hF:F<=9700){acc:PB}(h1:cM p N w n E F fs)(h2:cM p N w n E F acc)(h:∀k,p∣ao k acc-ao k fs):acc=fs:=by
 refine vO h1.dn h1.co h2.dn h2.co (λu hu=>?_) h;have hc:¬p∣ao u.k acc:=λhd=>by
  have e:ao u.k acc=u.c:=by obtain⟨a,b,rfl⟩:=List.append_of_mem hu;have hd:=h2.dn;unfold Dn at hd;rw[List.pairwise_append] at hd;obtain⟨_,hd2,hd3⟩:=hd;rw[iY,xk λx hx e=>by have:=hd3 x hx u (by simp);omega];have:=rN (t:=u) (ts:=b) hd2;omega
  rw[e] at hd;have c:=h2.co u hu;have:=Int.le_of_dvd c.1 hd;omega
 apply O3;intro hne;apply hc;have h0:ao u.k fs=0:=xk λx hxm e=>hne ⟨x,hxm,Dc hx hE hF (h2.gd u hu) (h1.gd x hxm) e.symm⟩;have:=h u.k;rw[h0] at this;simpa using this
variable{t:Tm}{i:Nat}
theorem xl(hx:ch p N w n)(hl:t.2.length=N)(hn:∀x∈t.2,0<=x)(hd:au t.2<=E)(hi:i<w):bk N w n E F (dW 1 1 N i t)/\aD N (dW 1 1 N i t)=t.2:=by obtain⟨g,e1,_,e3,e4⟩:=Mj (o:=1) (ov:=1) (R:=w) (Q:=au t.2) hx.n0 hx.n3 hl hn (Int.le_refl _) hi;have gp:=g.pl;refine⟨⟨?_,g.a,g.b,g.d,g.z,g.pl0,by omega,g.n1,g.n2,λ_=>by have:=g.deg;omega,λh=>by omega⟩,e1⟩;rw[g.k];unfold jv gq iM bS;rw[OV (by decide),OW (by omega)]
theorem Df{j:Nat}{u:Tm}(hE:E<=9700)(hx:ch p N w n)(hi:i<w)(hj:j<w)(ht:t.2.length=N)(hu:u.2.length=N)(nt:∀x∈t.2,0<=x)(nu:∀x∈u.2,0<=x)(dt:au t.2<=E)(du:au u.2<=E)(e:(dW 1 1 N i t).k=(dW 1 1 N j u).k):i=j/\t.2=u.2:=by obtain⟨g1,a1⟩:=xl (n:=n) (F:=E) hx ht nt dt hi;obtain⟨g2,b1⟩:=xl (n:=n) (F:=E) hx hu nu du hj;obtain⟨_,ha,hb,hd,_,hp⟩:=Dc hx hE hE g1 g2 e;have hij:(i:Int)=j:=hp;refine⟨by omega,?_⟩;rw[<-a1,<-b1];unfold aD;rw[ha,hb,hd]
theorem Dg{p o:Int}{N w n:Nat}{E:Int}(hE:E<=9700)(hx:ch p N w n){v:Lt}(hv:kf p o N (λ_=>E) v):∀m,m<=w->(dG 1 1 N v m).Pairwise λa b=>a.k≠b.k
 |0,_=>List.Pairwise.nil
 |m+1,hm=>by
  simp only[dG];refine List.pairwise_append.2 ⟨Dg hE hx hv m (by omega),?_,λa ha b hb=>?_⟩
  .rw[List.pairwise_map];have key:∀ts:LT,(∀t∈ts,t∈v.getD m [])->ck p o N ts->ts.Pairwise λa b=>(dW 1 1 N m a).k≠(dW 1 1 N m b).k:=by
    intro ts;induction ts with
    |nil=>intro _ _;exact List.Pairwise.nil
    |cons t ts ih=>intro h hc;refine List.pairwise_cons.2 ⟨λu hu e=>?_,ih (λu hu=>h u (by simp[hu])) ⟨λx hx=>hc.len x (by simp[hx]),hc.falls.2,λx hx=>hc.coef x (by simp[hx])⟩⟩;have m1:=h t (by simp);have m2:=h u (by simp[hu]);have:=(Df hE hx (show m<w by omega) (show m<w by omega) ((hv.canon m).len t m1) ((hv.canon m).len u m2) (hv.nn m t m1) (hv.nn m u m2) (hv.deg m t m1) (hv.deg m u m2) e).2;exact Ay hc.len hc.falls u hu this.symm
   exact key _ (λt ht=>ht) (hv.canon m)
  .obtain⟨i,t,hi,ht,rfl⟩:=xp ha;obtain⟨u,hu,rfl⟩:=OR.1 hb;intro e;have:=(Df hE hx (show i<w by omega) (show m<w by omega) ((hv.canon i).len t ht) ((hv.canon m).len u hu) (hv.nn i t ht) (hv.nn m u hu) (hv.deg i t ht) (hv.deg m u hu) e).1;omega
variable{v:Lt}{o:Int}
theorem pY(hE:E<=9700)(hx:ch p N w n)(hv:kf p o N (λ_=>E) v)(hp:fs.Perm (dG 1 1 N v w))(hf:iS fs):cM p N w n E F fs/\∀t∈fs,t.pl<w:=by
 have hne:fs.Pairwise λa b=>a.k≠b.k:=(hp.symm.pairwise_iff (fun {a b} h=>h.symm)).1 (Dg hE hx hv w (Ou _));have hmem:∀t∈fs,∃i u,i<w/\u∈v.getD i []/\t=dW 1 1 N i u:=λt ht=>xp (hp.mem_iff.1 ht);refine⟨⟨?_,λt ht=>?_,λt ht=>?_⟩,λt ht=>?_⟩
 .have:=List.Pairwise.and hf hne;exact this.imp fun {a b} h=>by omega
 .obtain⟨i,u,hi,hm,rfl⟩:=hmem t ht;have:=(hv.canon i).coef u hm;show 0<u.1/\u.1<p;omega
 .obtain⟨i,u,hi,hm,rfl⟩:=hmem t ht;exact(xl hx ((hv.canon i).len u hm) (hv.nn i u hm) (hv.deg i u hm) hi).1
 .obtain⟨i,u,hi,hm,rfl⟩:=hmem t ht;show (i:Int)<w;omega
def dO(w i:Nat):Ft:=dI (fE+bS 1 (i:Int)) ((w+i:Nat):Int)
theorem Mk(hx:ch p N w n)(hi:i<n)(hF:0<=F):bk N w n E F (dO w i):=by
 have e:aD N (dO w i)=aD N (dI 0 0):=rfl;have hz:bC 1 (aD N (dI 0 0))=0:=by have:=vz (N:=N) (t:=dI 0 0) hx.n0 hx.n3 (λ_=>rfl) (λ_=>rfl);rw[this];rfl
 refine⟨?_,(show (0:Int)<=0 by omega),(show (0:Int)<=0 by omega),(show (0:Int)<=0 by omega),rfl,?_,?_,λ_=>rfl,λ_=>rfl,λh=>?_,λ_=>?_⟩
 .rw[e];unfold gq;rw[hz];show fE+bS 1 (i:Int)=iM w ((w+i:Nat):Int)+0;unfold iM bS fE;rw[OV (show¬((1:Int)=2) by decide),OV (show¬(((w+i:Nat):Int)<w) by omega)];omega
 .show (0:Int)<=((w+i:Nat):Int);omega
 .show ((w+i:Nat):Int)<(w:Int)+n;omega
 .have h':((w+i:Nat):Int)<w:=h;omega
 .show (0:Int)+0+0<=F;omega
theorem Lo(hE:E<=9700)(hx:ch p N w n)(hi:i<n)(hv:kf p o N (λ_=>E) v)(hp:fs.Perm (dG 1 1 N v w))(hf:iS fs):cM p N w n E 0 (fs++[dO w i]):=by
 obtain⟨h1,h2⟩:=pY (F:=0) hE hx hv hp hf;have gu:=Mk (p:=p) (N:=N) (E:=E) (F:=0) hx hi (Int.le_refl _);refine⟨?_,λt ht=>?_,λt ht=>?_⟩
 .unfold Dn;rw[List.pairwise_append];refine⟨h1.dn,by simp,λa ha b hb=>?_⟩;rw[OL] at hb;subst hb;have ga:=h1.gd a ha;have l1:=ga.lin hx.n0 hx.n3;have hw:=h2 a ha;unfold iM at l1;rw[OW hw] at l1;have:=ga.a;have:=ga.b;have:=ga.d;have:=ga.pl0;have:=hx.hw;have:=hx.hn;show fE+bS 1 (i:Int)<a.k;unfold fE bS;rw[OV (by decide)];omega
 .rcases OK.1 ht with ht|ht
  .exact h1.co t ht
  .rw[OL] at ht;subst ht;have:=dY hx.pr;show 0<(1:Int)/\(1:Int)<p;omega
 .rcases OK.1 ht with ht|ht
  .exact h1.gd t ht
  .rw[OL] at ht;subst ht;exact gu
def eE(dg:Nat->Int)(D:Int)(fs:PB):PB:=fs.map λt=>{t with z:=fD dg D t}
variable{D:Int}{dg:Nat->Int}
theorem K3(h:cM p N w n E F fs)(hD:∀t∈fs,fG dg t<=D):dR p dg N w n D (eE dg D fs):=by
 refine⟨?_,λt ht=>?_,λt ht=>?_⟩
 .unfold Dn eE;rw[List.pairwise_map];exact h.dn
 .obtain⟨u,hu,rfl⟩:=OR.1 ht;exact h.co u hu
 .obtain⟨u,hu,rfl⟩:=OR.1 ht;have g:=h.gd u hu;have:=hD u hu;unfold fG at this;refine⟨g.k,g.a,g.b,g.d,?_,?_,g.pl0,g.pl,g.n1,g.n2⟩
  .show 0<=fD dg D u;unfold fD;omega
  .show u.a+u.b+u.d+fD dg D u+dg u.pl.toNat=D;unfold fD;omega
theorem LH(h:cM p N w n E F fs):(eE dg D fs).map bJ=fs:=by
 unfold eE;rw[List.map_map];have:∀t∈fs,(bJ∘λt=>({t with z:=fD dg D t}:Ft)) t=t:=λt ht=>by have:=(h.gd t ht).z;show ({t with z:=0}:Ft)=t;rw[<-this]
 rw[List.map_congr_left this];simp
theorem Dh:∀(f:LT)(d:Int),d<=fh d f/\∀t∈f,au t.2<=fh d f
 |[],d=>⟨Int.le_refl _,λt ht=>by simp at ht⟩
 |u::f,d=>by
  have h:=Dh f (max d (au u.2));have e:fh d (u::f)=fh (max d (au u.2)) f:=rfl;rw[e];refine⟨by have:=h.1;omega,λt ht=>?_⟩;rcases OY.1 ht with rfl|ht
  .have:=h.1;omega
  .exact h.2 t ht
theorem sQ:∀(v:Lt) (d:Int),d<=gX d v/\∀f∈v,∀t∈f,au t.2<=gX d v
 |[],d=>⟨Int.le_refl _,λf hf=>by simp at hf⟩
 |g::v,d=>by
  have h:=sQ v (fh d g);have h1:=Dh g d;have e:gX d (g::v)=gX (fh d g) v:=rfl;rw[e];refine⟨by have:=h.1;omega,λf hf t ht=>?_⟩;rcases OY.1 hf with rfl|hf
  .have:=h1.2 t ht;have:=h.1;omega
  .exact h.2 f hf t ht
theorem Di{D:Int}:∀(f:LT)(d:Int),d<=D->(∀t∈f,au t.2<=D)->fh d f<=D
 |[],d,h,_=>h
 |u::f,d,h,hf=>by have e:fh d (u::f)=fh (max d (au u.2)) f:=rfl;rw[e];have:=hf u (by simp);exact Di f _ (by omega) λt ht=>hf t (by simp[ht])
theorem xe{D:Int}:∀(v:Lt) (d:Int),d<=D->(∀f∈v,∀t∈f,au t.2<=D)->gX d v<=D
 |[],d,h,_=>h
 |g::v,d,h,hf=>by have e:gX d (g::v)=gX (fh d g) v:=rfl;rw[e];exact xe v _ (Di g d h λt ht=>hf g (by simp) t ht) λf hf2=>hf f (by simp[hf2])
def bn(w:Nat)(ds:PI)(i:Nat):Int:=if i<w then 0 else ds.getD (i-w) 0
variable{ds:PI}
theorem wQ(h:cM p N w n E 0 fs)(hw:∀t∈fs,t.pl<w)(hE:E<=ds.getD i 0):∀t∈fs++[dO w i],fG (bn w ds) t<=ds.getD i 0:=λt ht=>by
 rcases OK.1 ht with ht|ht
 .have g:=h.gd t ht;have h1:=hw t ht;have h2:=g.own h1;have h3:=g.pl0;unfold fG bn;rw[OW (by omega)];omega
 .rw[OL] at ht;subst ht;show (0:Int)+0+0+bn w ds (((w+i:Nat):Int).toNat)<=_;rw[Int.toNat_natCast];unfold bn;rw[OV (by omega),Nat.add_sub_cancel_left];omega
theorem Lr(h:cM p N w n E 0 fs)(hw:∀t∈fs,t.pl<w)(hE:E<=ds.getD i 0)(h0:0<=ds.getD i 0):iw (bn w ds) (fs++[dO w i])=ds.getD i 0:=by
 have h1:=Db h0 (wQ h hw hE);have h2:=C9 (dg:=bn w ds) (show dO w i∈fs++[dO w i] by simp);have e:fG (bn w ds) (dO w i)=ds.getD i 0:=by show (0:Int)+0+0+bn w ds (((w+i:Nat):Int).toNat)=_;rw[Int.toNat_natCast];unfold bn;rw[OV (by omega),Nat.add_sub_cancel_left];omega
 omega
end Go.Proofs.YtjkalahhpobefaaGreat
