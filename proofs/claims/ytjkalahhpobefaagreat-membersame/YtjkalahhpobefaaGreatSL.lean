/- A vector is filled up. -/
import Derived.Test.YtjkalahhpobefaaGreatTB
set_option maxHeartbeats 4000000
set_option maxRecDepth 100000
namespace Go.Proofs.YtjkalahhpobefaaGreat
set_option linter.all false
open Go.Proofs.Tryz Go.RowKit Go.Sort
def fE(dg:Nat->Int)(t:Ft):Int:=t.a+t.b+t.d+dg t.pl.toNat
def ix(dg:Nat->Int)(fs:OI):Int:=fs.foldl (λd t=>max d (fE dg t)) 0
theorem Kp(dg:Nat->Int)(fs:OI)(t:Ft):ix dg (fs++[t])=max (ix dg fs) (fE dg t):=by simp[ix]
theorem wD(dg:Nat->Int):∀(fs:OI)(d:Int),d<=fs.foldl (λd t=>max d (fE dg t)) d/\∀t∈fs,fE dg t<=fs.foldl (λd t=>max d (fE dg t)) d
 |[],d=>⟨Int.le_refl _,λt ht=>by simp at ht⟩
 |u::fs,d=>by
  have h:=wD dg fs (max d (fE dg u));simp only[List.foldl_cons];refine⟨by have:=h.1;omega,λt ht=>?_⟩;rcases Og.1 ht with rfl|ht
  .have:=h.1;omega
  .exact h.2 t ht
variable{fs:OI}{dg:Nat->Int}
theorem Cl{t:Ft}(h:t∈fs):fE dg t<=ix dg fs:=(wD dg fs 0).2 t h
theorem Kq(dg:Nat->Int)(fs:OI):0<=ix dg fs:=(wD dg fs 0).1
theorem Cm(dg:Nat->Int)(D:Int):∀(fs:OI)(d:Int),d<=D->(∀t∈fs,fE dg t<=D)->fs.foldl (λd t=>max d (fE dg t)) d<=D
 |[],d,h,_=>h
 |u::fs,d,h,hf=>by simp only[List.foldl_cons];have:=hf u (by simp);exact Cm dg D fs _ (by omega) λt ht=>hf t (by simp[ht])
theorem Co{D:Int}(h0:0<=D)(h:∀t∈fs,fE dg t<=D):ix dg fs<=D:=Cm dg D fs 0 h0 h
structure sw(R:Nat)(dg:Nat->Int)(x:Ft):Prop where
 a:0<=x.a/\x.a<=30000
 b:0<=x.b/\x.b<=30000
 d:0<=x.d/\x.d<=30000
 z:x.z=0
 pl:0<=x.pl/\x.pl<R
 dg:fE dg x<=30000
def fF(dg:Nat->Int)(D:Int)(t:Ft):Int:=D-(t.a+t.b+t.d)-dg t.pl.toNat
theorem Kr(mb R g cap B:Nat)(dv:OR)(dg:Nat->Int)(fs:OI)(w:OQ)(hm:w.cell? (OV mb 1)=some dv)(hmB:mb<B)(hdg:iJ w dv R dg)(hdB:∀b off n c,dv=.slice (some (OV b off)) n c->b<B)(hR:R<=255)(hd:∀pl,pl<R->0<=dg pl/\dg pl<=30000)(hf:∀x∈fs,sw R dg x)(hl:fs.length<=1100000000001)(hB:B<=w.heap.size)(hv:w.ownsRow B 88 7 (OU g fs.length cap) fs.length (aA fs)):Calls prog 144 #[OS mb,OU g fs.length cap] w λe w'=>e=.returned (.tuple #[])/\w'.ownsRow B 88 7 (OU g fs.length cap) fs.length (aA (fs.map λt=>{t with z:=fF dg (ix dg fs) t}))/\Below B w w':=by
 have HM:=ae hm;have HDG:=ae hdg;have HDB:=ae hd;have HF:=ae hf;have HV:=ae hv;have HFV:=ae (fT hv);obtain⟨db,doff,dc,rfl,_⟩:=hdg;have hdb:=hdB db doff _ _ rfl;have hgB:B<=g:=(NK hv g rfl).1;have HEX:=ae (fun(W:OQ)(x:Ft)(h:sw R dg x)=>AS x.a x.b x.d x.z W (by have:=h.a;omega) (by have:=h.b;omega) (by have:=h.d;omega) (by have:=h.z;omega));have STEP:OE (∀(W:OQ)(m:Nat),LT w W->m<fs.length->∃x:Ft,sw R dg x/\fs.take (m+1)=fs.take m++[x]/\cz W g (0+m*7) x/\∃n:Nat,x.pl=n/\n<R/\W.cell? (OV db (doff+n))=some (OW (dg n))/\0<=dg n/\dg n<=30000):=λW m hb hm=>by
  obtain⟨b,off,e,_,_,hft⟩:=(HFV.o.below hb).at m hm;simp only[N7,Addr.mk.injEq,and_true] at e;obtain⟨rfl,rfl⟩:=e;have hmem:fs.getD m dW∈fs:=by rw[NY,NZ hm];exact NV hm
  have hx:=HF.o _ hmem;refine⟨_,hx,by rw[Of hm];simp[NY,hm],hft,(fs.getD m dW).pl.toNat,by have:=hx.pl;omega,by have:=hx.pl;omega,?_,?_,?_⟩
  .obtain⟨b2,off2,c2,e2,h2⟩:=HDG.o.below hb;simp only[N8,N7,Addr.mk.injEq,and_true,true_and] at e2;obtain⟨⟨rfl,rfl⟩,_⟩:=e2;exact h2 _ (by have:=hx.pl;omega)
  .exact(HDB.o _ (by have:=hx.pl;omega)).1
  .exact(HDB.o _ (by have:=hx.pl;omega)).2
 unfold cA at HEX;clear hm hd hf hv hdB;go_enter func144,ntmps144;go_wp2_with fail;go_loopw [4,11] (λd i wr=>∃m:Nat,m<=fs.length/\i=OW m/\d=OW (ix dg (fs.take m))/\LT w wr) (λ_ i _=>fs.length-(intOf i).toNat);case atStart=>exact⟨0,NS _,rfl,rfl,NM _ _⟩
 case round=>
  obtain⟨m,hm,rfl,rfl,hbr⟩:=hrel;have HBR:=ae hbr;clear hbr;by_cases hm2:m<fs.length
  .obtain⟨x,hx,htk,hft,n,hpl,hnR,hcd,hg0,hg1⟩:=STEP.o wr m HBR.o hm2;have HX:=ae hx;obtain⟨f0,f1,f2,f3,f4,f5,f6⟩:=hft;simp only[N4] at f0 f1 f2 f3 f4 f5 f6;rw[hx.z] at f4;rw[hpl] at f5;have HMX:OE (max (ix dg (fs.take m)) (x.a+x.b+x.d+dg n)=ix dg (fs.take (m+1))):=by show _=_;rw[htk,Kp];unfold fE;rw[hpl];rfl
   generalize ix dg (fs.take m)=df at HMX⊢;have HEX2:=ae (λW=>HEX.o W x HX.o);rw[hx.z,Int.add_zero] at HEX2;have z1:=af HM.o HBR.o;have hxa:=hx.a;have hxb:=hx.b;have hxd:=hx.d;have hmI:(m:Int)<(fs.length:Int):=by omega
   have hnI:(n:Int)<(R:Int):=by omega
   have hwr:IntKind.i64.wrap (x.a+x.b+x.d+dg n)=x.a+x.b+x.d+dg n:=by rw[IntKind.wrap_i64];omega
   clear hx htk;go_upto_region 4 with fail;obtain⟨w2,hw2⟩:∃w2,w2=wr.alloc (.cells #[OW x.k,OX x.a,OX x.b,OX x.d,OX 0,OY n,OY x.c] 88):=⟨_,rfl⟩;have HB2:OE (LT wr w2):=by rw[hw2];exact ai
   have FX:OE (cz w2 wr.heap.size 0 {x with z:=0,pl:=n}):=by rw[hw2];exact(show Bx wr.heap.size _ wr.heap.size {x with z:=0,pl:=(n:Int)} from dB (NL _) _).at
   obtain⟨x0,x1,x2,x3,x4,x5,x6⟩:=FX.o;simp only[N4] at x0 x1 x2 x3 x4 x5 x6;have y0:=af hcd HB2.o;have y1:=af z1 HB2.o;rw[<-hw2];clear hw2 f0 f1 f2 f3 f4 f5 f6 z1 hcd;have KEEP:OE (∀W,LT w2 W->(W.cell? (OV wr.heap.size 1)=some (OX x.a)/\W.cell? (OV wr.heap.size 2)=some (OX x.b)/\W.cell? (OV wr.heap.size 3)=some (OX x.d)/\W.cell? (OV wr.heap.size 4)=some (OX 0)/\W.cell? (OV wr.heap.size 5)=some (OY n)/\W.cell? (OV db (doff+n))=some (OW (dg n))/\W.cell? (OV mb 1)=some (.slice (some (OV db doff)) R dc))):=λW hb=>⟨af x1 hb,af x2 hb,af x3 hb,af x4 hb,af x5 hb,af y0 hb,af y1 hb⟩;go_region_held (λW=>W.cell? (OV wr.heap.size 1)=some (OX x.a)/\W.cell? (OV wr.heap.size 2)=some (OX x.b)/\W.cell? (OV wr.heap.size 3)=some (OX x.d)/\W.cell? (OV wr.heap.size 4)=some (OX 0)/\W.cell? (OV wr.heap.size 5)=some (OY n)/\W.cell? (OV db (doff+n))=some (OW (dg n))/\W.cell? (OV mb 1)=some (.slice (some (OV db doff)) R dc))
    (first|with_reducible exact KEEP.o _ HB8.o|with_reducible exact KEEP.o _ (NM _ _).drew)
    (first|(go_at_call 178;refine(HEX2.o _).mono ?_;rintro e w8 ⟨rfl,q1⟩;have HB8:=ae ((NM w2.heap.size w2).drew.trans q1);clear q1))
   all_goals
    go_wp2;go_roundw;case rel=>exact⟨m+1,by omega,by go_num,by rw[<-HMX.o],Io HBR.o (Io HB2.o HB8.o)⟩
    case measure=>simp[intOf];omega
  .have e:m=fs.length:=by omega
   subst e;rename OQ=>wf;rw[N5 (NL _)];obtain⟨D,hD⟩:∃D,D=ix dg fs:=⟨_,rfl⟩;have HDD:=ae hD;have HDX:OE (0<=D/\D<=30000/\∀x∈fs,fE dg x<=D):=⟨by rw[hD];exact Kq _ _,by rw[hD];exact Co (by omega) λt ht=>(HF.o t ht).dg,λx hx=>by rw[hD];exact Cl hx⟩;rw[<-hD];clear hD;go_wp2_with fail;go_loopw [32] (λi wq=>∃m:Nat,m<=fs.length/\i=OW m/\wq.ownsRow B 88 7 (OU g fs.length cap) fs.length (aA (zF (fF dg D) m fs))/\Below B w wq) (λi _=>fs.length-(intOf i).toNat);case atStart=>exact⟨0,NS _,rfl,by rw[Cp];exact aF HV.o HBR.o,HBR.o.mono hB⟩
   case round=>
    clear HBR;obtain⟨m,hm,rfl,ho,hbr⟩:=hrel;rename OQ=>wq;have HO:=ae ho;have HBR:=ae hbr;clear ho hbr;by_cases hm2:m<fs.length
    .have HO':OE (wq.ownsRow B 88 7 (OU g (zF (fF dg D) m fs).length cap) (zF (fF dg D) m fs).length (aA (zF (fF dg D) m fs))):=by show World.ownsRow _ _ _ _ _ _ _;rw[mC];exact HO.o
     obtain⟨b,off,e,_,_,hft⟩:=(fT HO'.o).at m (by rw[mC];exact hm2);simp only[N7,Addr.mk.injEq,and_true] at e;obtain⟨rfl,rfl⟩:=e;have hge:(zF (fF dg D) m fs).getD m dW=fs[m]:=by rw[NY,NZ (by rw[mC];exact hm2),Cq hm2];rfl
     rw[hge] at hft;have hx:=HF.o fs[m] (NV hm2);have hxD:=HDX.o.2.2 _ (NV hm2);have hD2:=HDX.o.2.1;have HZS:=ae (Cr (f:=fF dg D) hm2);generalize fs[m]=x at hft hx hxD HZS;clear hge HO';obtain⟨n,hpl⟩:∃n:Nat,x.pl=n:=⟨x.pl.toNat,by have:=hx.pl;omega⟩;have hnR:n<R:=by have:=hx.pl;omega
     have hcd:wq.cell? (OV db (doff+n))=some (OW (dg n)):=by refine(HBR.o.cell (p:=(OV db (doff+n))) hdb).trans ?_;obtain⟨b2,off2,c2,e2,h2⟩:=HDG.o;simp only[N8,N7,Addr.mk.injEq,and_true,true_and] at e2;obtain⟨⟨rfl,rfl⟩,_⟩:=e2;exact h2 n hnR
     obtain⟨hg0,hg1⟩:=HDB.o n hnR;have HX:=ae hx;obtain⟨f0,f1,f2,f3,f4,f5,f6⟩:=hft;simp only[N4] at f0 f1 f2 f3 f4 f5 f6;rw[hx.z] at f4;rw[hpl] at f5;have HEX2:=ae (λW=>HEX.o W x HX.o);rw[hx.z,Int.add_zero] at HEX2;have z1:wq.cell? (OV mb 1)=some (.slice (some (OV db doff)) R dc):=(HBR.o.cell (p:=(OV mb 1)) hmB).trans HM.o;have hxa:=hx.a;have hxb:=hx.b;have hxd:=hx.d;have hmI:(m:Int)<(fs.length:Int):=by omega
     have hnI:(n:Int)<(R:Int):=by omega
     unfold fE at hxD;rw[hpl] at hxD;simp only[Int.toNat_natCast] at hxD;obtain⟨zz,hzz⟩:∃zz,zz=D-(x.a+x.b+x.d)-dg n:=⟨_,rfl⟩;have hw1:IntKind.i64.wrap (D-(x.a+x.b+x.d))=D-(x.a+x.b+x.d):=by rw[IntKind.wrap_i64];omega
     have hw2:IntKind.i64.wrap (D-(x.a+x.b+x.d)-dg n)=zz:=by rw[IntKind.wrap_i64];omega
     have hw3:IntKind.u16.wrap zz=zz:=by rw[IntKind.wrap_u16];omega
     have HZZ:OE (fF dg D x=zz):=by show _=_;unfold fF;rw[hpl,hzz];rfl
     clear hx hzz;go_upto_region 9 with fail;obtain⟨w2,hw2'⟩:∃w2,w2=wq.alloc (.cells #[OW x.k,OX x.a,OX x.b,OX x.d,OX 0,OY n,OY x.c] 88):=⟨_,rfl⟩;have HB2:OE (LT wq w2):=by rw[hw2'];exact ai
     have FX:OE (cz w2 wq.heap.size 0 {x with z:=0,pl:=n}):=by rw[hw2'];exact(show Bx wq.heap.size _ wq.heap.size {x with z:=0,pl:=(n:Int)} from dB (NL _) _).at
     obtain⟨x0,x1,x2,x3,x4,x5,x6⟩:=FX.o;simp only[N4] at x0 x1 x2 x3 x4 x5 x6;have y0:=af hcd HB2.o;have y1:=af z1 HB2.o;have y2:=af f4 HB2.o;have HO2:=ae (aF HO.o HB2.o);have y3:w2.frozen? ⟨g,m*7+4,none⟩=false:=NI HO2.o (m*7+4);rw[<-hw2'];clear hw2' f0 f1 f2 f3 f4 f5 f6 z1 hcd;have KEEP:OE (∀W,LT w2 W->(W.cell? (OV wq.heap.size 1)=some (OX x.a)/\W.cell? (OV wq.heap.size 2)=some (OX x.b)/\W.cell? (OV wq.heap.size 3)=some (OX x.d)/\W.cell? (OV wq.heap.size 4)=some (OX 0)/\W.cell? (OV wq.heap.size 5)=some (OY n)/\W.cell? (OV db (doff+n))=some (OW (dg n))/\W.cell? (OV mb 1)=some (.slice (some (OV db doff)) R dc)/\W.cell? ⟨g,m*7+4,none⟩=some (OX 0)/\W.frozen? ⟨g,m*7+4,none⟩=false)):=λW hb=>⟨af x1 hb,af x2 hb,af x3 hb,af x4 hb,af x5 hb,af y0 hb,af y1 hb,af y2 hb,NI (aF HO2.o hb) (m*7+4)⟩;go_region_law (go_simp;refine(HEX2.o _).mono ?_;rintro e w8 ⟨rfl,q1⟩;have HB8:=ae ((NM w2.heap.size w2).drew.trans q1);clear q1;obtain⟨k1,k2,k3,k4,k5,k6,k7,k8,k9⟩:=KEEP.o w8 HB8.o;dsimp only);all_goals
      have HST:=ae (NW (aF HO2.o HB8.o) (m*7+4) (OX zz));go_wp2;go_roundw;case rel=>
       refine⟨m+1,by omega,by go_num,?_,?_⟩
       .rw[<-HZS.o,HZZ.o];exact HST.o.1
       .have hb:=HBR.o.trans ((Io HB2.o HB8.o).mono (NR hB HBR.o.size));exact hb.trans (cV HST.o.2 hgB (NR hB hb.size))
      case measure=>simp[intOf];omega
    .have e:m=fs.length:=by omega
     subst e;go_wp2;go_end0;refine⟨rfl,?_,HBR.o⟩;have h:=HO.o;rw[Ct] at h;rw[<-HDD.o];exact h
end Go.Proofs.YtjkalahhpobefaaGreat
namespace Go.Proofs.YtjkalahhpobefaaGreat
set_option linter.all false
open Go.Proofs.Tryz Go.RowKit
theorem wE{k:Int}:∀{f:OI},(∀x∈f,x.k≠k)->aq k f=0
 |[],_=>rfl
 |t::f,h=>by simp only[aq];rw[Oc (h t (by simp)),wE λx hx=>h x (by simp[hx])];rfl
variable{E F p:Int}{N w n:Nat}
theorem Cw(hx:ci p N w n)(hE:E<=9700)(hF:F<=9700){u v:Ft}(gu:bi N w n E F u)(gv:bi N w n E F v)(h:u.k=v.k):eu u v:=by have e:=zy hx hE hF hE hF gu gv h;unfold ah at e;simp only[Prod.mk.injEq] at e;have:=gu.a;have:=gu.b;have:=gu.d;have:=gu.z;have:=gu.pl0;have:=gv.a;have:=gv.b;have:=gv.d;have:=gv.z;have:=gv.pl0;exact⟨h,by omega,by omega,by omega,by omega,by omega⟩
variable{fs:OI}
theorem wF(hx:ci p N w n)(hE:E<=9700)(hF:F<=9700){acc:OI}(h1:cR p N w n E F fs)(h2:cR p N w n E F acc)(h:∀k,p∣aq k acc-aq k fs):acc=fs:=by
 refine vE h1.dn h1.co h2.dn h2.co (λu hu=>?_) h;have hc:¬p∣aq u.k acc:=λhd=>by
  have e:aq u.k acc=u.c:=by obtain⟨a,b,rfl⟩:=List.append_of_mem hu;have hd:=h2.dn;unfold Dn at hd;rw[List.pairwise_append] at hd;obtain⟨_,hd2,hd3⟩:=hd;rw[iX,wE λx hx e=>by have:=hd3 x hx u (by simp);omega];have:=rE (t:=u) (ts:=b) hd2;omega
  rw[e] at hd;have c:=h2.co u hu;have:=Int.le_of_dvd c.1 hd;omega
 apply Oj;intro hne;apply hc;have h0:aq u.k fs=0:=wE λx hxm e=>hne ⟨x,hxm,Cw hx hE hF (h2.gd u hu) (h1.gd x hxm) e.symm⟩;have:=h u.k;rw[h0] at this;simpa using this
variable{t:Tm}{i:Nat}
theorem wG(hx:ci p N w n)(hl:t.2.length=N)(hn:∀x∈t.2,0<=x)(hd:aj t.2<=E)(hi:i<w):bi N w n E F (dY 1 1 N i t)/\aD N (dY 1 1 N i t)=t.2:=by obtain⟨g,e1,_,e3,e4⟩:=Kz (o:=1) (ov:=1) (R:=w) (Q:=aj t.2) hx.n0 hx.n3 hl hn (Int.le_refl _) hi;have gp:=g.pl;refine⟨⟨?_,g.a,g.b,g.d,g.z,g.pl0,by omega,g.n1,g.n2,λ_=>by have:=g.deg;omega,λh=>by omega⟩,e1⟩;rw[g.k];unfold jr gm iM bU;rw[Oc (by decide),Oe (by omega)]
theorem Cx{j:Nat}{u:Tm}(hE:E<=9700)(hx:ci p N w n)(hi:i<w)(hj:j<w)(ht:t.2.length=N)(hu:u.2.length=N)(nt:∀x∈t.2,0<=x)(nu:∀x∈u.2,0<=x)(dt:aj t.2<=E)(du:aj u.2<=E)(e:(dY 1 1 N i t).k=(dY 1 1 N j u).k):i=j/\t.2=u.2:=by obtain⟨g1,a1⟩:=wG (n:=n) (F:=E) hx ht nt dt hi;obtain⟨g2,b1⟩:=wG (n:=n) (F:=E) hx hu nu du hj;obtain⟨_,ha,hb,hd,_,hp⟩:=Cw hx hE hE g1 g2 e;have hij:(i:Int)=j:=hp;refine⟨by omega,?_⟩;rw[<-a1,<-b1];unfold aD;rw[ha,hb,hd]
theorem Cy{p o:Int}{N w n:Nat}{E:Int}(hE:E<=9700)(hx:ci p N w n){v:OG}(hv:j6 p o N (λ_=>E) v):∀m,m<=w->(dH 1 1 N v m).Pairwise λa b=>a.k≠b.k
 |0,_=>List.Pairwise.nil
 |m+1,hm=>by
  simp only[dH];refine List.pairwise_append.2 ⟨Cy hE hx hv m (by omega),?_,λa ha b hb=>?_⟩
  .rw[List.pairwise_map];have key:∀ts:Lt,(∀t∈ts,t∈v.getD m [])->cq p o N ts->ts.Pairwise λa b=>(dY 1 1 N m a).k≠(dY 1 1 N m b).k:=by
    intro ts;induction ts with
    |nil=>intro _ _;exact List.Pairwise.nil
    |cons t ts ih=>intro h hc;refine List.pairwise_cons.2 ⟨λu hu e=>?_,ih (λu hu=>h u (by simp[hu])) ⟨λx hx=>hc.len x (by simp[hx]),hc.falls.2,λx hx=>hc.coef x (by simp[hx])⟩⟩;have m1:=h t (by simp);have m2:=h u (by simp[hu]);have:=(Cx hE hx (show m<w by omega) (show m<w by omega) ((hv.canon m).len t m1) ((hv.canon m).len u m2) (hv.nn m t m1) (hv.nn m u m2) (hv.deg m t m1) (hv.deg m u m2) e).2;exact Ao hc.len hc.falls u hu this.symm
   exact key _ (λt ht=>ht) (hv.canon m)
  .obtain⟨i,t,hi,ht,rfl⟩:=wH ha;obtain⟨u,hu,rfl⟩:=N9.1 hb;intro e;have:=(Cx hE hx (show i<w by omega) (show m<w by omega) ((hv.canon i).len t ht) ((hv.canon m).len u hu) (hv.nn i t ht) (hv.nn m u hu) (hv.deg i t ht) (hv.deg m u hu) e).1;omega
variable{v:OG}{o:Int}
theorem pK(hE:E<=9700)(hx:ci p N w n)(hv:j6 p o N (λ_=>E) v)(hp:fs.Perm (dH 1 1 N v w))(hf:iP fs):cR p N w n E F fs/\∀t∈fs,t.pl<w:=by
 have hne:fs.Pairwise λa b=>a.k≠b.k:=(hp.symm.pairwise_iff (fun {a b} h=>h.symm)).1 (Cy hE hx hv w (NL _));have hmem:∀t∈fs,∃i u,i<w/\u∈v.getD i []/\t=dY 1 1 N i u:=λt ht=>wH (hp.mem_iff.1 ht);refine⟨⟨?_,λt ht=>?_,λt ht=>?_⟩,λt ht=>?_⟩
 .have:=List.Pairwise.and hf hne;exact this.imp fun {a b} h=>by omega
 .obtain⟨i,u,hi,hm,rfl⟩:=hmem t ht;have:=(hv.canon i).coef u hm;show 0<u.1/\u.1<p;omega
 .obtain⟨i,u,hi,hm,rfl⟩:=hmem t ht;exact(wG hx ((hv.canon i).len u hm) (hv.nn i u hm) (hv.deg i u hm) hi).1
 .obtain⟨i,u,hi,hm,rfl⟩:=hmem t ht;show (i:Int)<w;omega
def dP(w i:Nat):Ft:=dK (fD+bU 1 (i:Int)) ((w+i:Nat):Int)
theorem KC(hx:ci p N w n)(hi:i<n)(hF:0<=F):bi N w n E F (dP w i):=by
 have e:aD N (dP w i)=aD N (dK 0 0):=rfl;have hz:bG 1 (aD N (dK 0 0))=0:=by have:=vl (N:=N) (t:=dK 0 0) hx.n0 hx.n3 (λ_=>rfl) (λ_=>rfl);rw[this];rfl
 refine⟨?_,(show (0:Int)<=0 by omega),(show (0:Int)<=0 by omega),(show (0:Int)<=0 by omega),rfl,?_,?_,λ_=>rfl,λ_=>rfl,λh=>?_,λ_=>?_⟩
 .rw[e];unfold gm;rw[hz];show fD+bU 1 (i:Int)=iM w ((w+i:Nat):Int)+0;unfold iM bU fD;rw[Oc (show¬((1:Int)=2) by decide),Oc (show¬(((w+i:Nat):Int)<w) by omega)];omega
 .show (0:Int)<=((w+i:Nat):Int);omega
 .show ((w+i:Nat):Int)<(w:Int)+n;omega
 .have h':((w+i:Nat):Int)<w:=h;omega
 .show (0:Int)+0+0<=F;omega
theorem KD(hE:E<=9700)(hx:ci p N w n)(hi:i<n)(hv:j6 p o N (λ_=>E) v)(hp:fs.Perm (dH 1 1 N v w))(hf:iP fs):cR p N w n E 0 (fs++[dP w i]):=by
 obtain⟨h1,h2⟩:=pK (F:=0) hE hx hv hp hf;have gu:=KC (p:=p) (N:=N) (E:=E) (F:=0) hx hi (Int.le_refl _);refine⟨?_,λt ht=>?_,λt ht=>?_⟩
 .unfold Dn;rw[List.pairwise_append];refine⟨h1.dn,by simp,λa ha b hb=>?_⟩;rw[N2] at hb;subst hb;have ga:=h1.gd a ha;have l1:=ga.lin hx.n0 hx.n3;have hw:=h2 a ha;unfold iM at l1;rw[Oe hw] at l1;have:=ga.a;have:=ga.b;have:=ga.d;have:=ga.pl0;have:=hx.hw;have:=hx.hn;show fD+bU 1 (i:Int)<a.k;unfold fD bU;rw[Oc (by decide)];omega
 .rcases N1.1 ht with ht|ht
  .exact h1.co t ht
  .rw[N2] at ht;subst ht;have:=dS hx.pr;show 0<(1:Int)/\(1:Int)<p;omega
 .rcases N1.1 ht with ht|ht
  .exact h1.gd t ht
  .rw[N2] at ht;subst ht;exact gu
def eC(dg:Nat->Int)(D:Int)(fs:OI):OI:=fs.map λt=>{t with z:=fF dg D t}
variable{D:Int}{dg:Nat->Int}
theorem KE(h:cR p N w n E F fs)(hD:∀t∈fs,fE dg t<=D):dU p dg N w n D (eC dg D fs):=by
 refine⟨?_,λt ht=>?_,λt ht=>?_⟩
 .unfold Dn eC;rw[List.pairwise_map];exact h.dn
 .obtain⟨u,hu,rfl⟩:=N9.1 ht;exact h.co u hu
 .obtain⟨u,hu,rfl⟩:=N9.1 ht;have g:=h.gd u hu;have:=hD u hu;unfold fE at this;refine⟨g.k,g.a,g.b,g.d,?_,?_,g.pl0,g.pl,g.n1,g.n2⟩
  .show 0<=fF dg D u;unfold fF;omega
  .show u.a+u.b+u.d+fF dg D u+dg u.pl.toNat=D;unfold fF;omega
theorem KF(h:cR p N w n E F fs):(eC dg D fs).map bM=fs:=by
 unfold eC;rw[List.map_map];have:∀t∈fs,(bM∘λt=>({t with z:=fF dg D t}:Ft)) t=t:=λt ht=>by have:=(h.gd t ht).z;show ({t with z:=0}:Ft)=t;rw[<-this]
 rw[List.map_congr_left this];simp
theorem Cz:∀(f:Lt)(d:Int),d<=fi d f/\∀t∈f,aj t.2<=fi d f
 |[],d=>⟨Int.le_refl _,λt ht=>by simp at ht⟩
 |u::f,d=>by
  have h:=Cz f (max d (aj u.2));have e:fi d (u::f)=fi (max d (aj u.2)) f:=rfl;rw[e];refine⟨by have:=h.1;omega,λt ht=>?_⟩;rcases Og.1 ht with rfl|ht
  .have:=h.1;omega
  .exact h.2 t ht
theorem sA:∀(v:OG) (d:Int),d<=gV d v/\∀f∈v,∀t∈f,aj t.2<=gV d v
 |[],d=>⟨Int.le_refl _,λf hf=>by simp at hf⟩
 |g::v,d=>by
  have h:=sA v (fi d g);have h1:=Cz g d;have e:gV d (g::v)=gV (fi d g) v:=rfl;rw[e];refine⟨by have:=h.1;omega,λf hf t ht=>?_⟩;rcases Og.1 hf with rfl|hf
  .have:=h1.2 t ht;have:=h.1;omega
  .exact h.2 f hf t ht
theorem CA{D:Int}:∀(f:Lt)(d:Int),d<=D->(∀t∈f,aj t.2<=D)->fi d f<=D
 |[],d,h,_=>h
 |u::f,d,h,hf=>by have e:fi d (u::f)=fi (max d (aj u.2)) f:=rfl;rw[e];have:=hf u (by simp);exact CA f _ (by omega) λt ht=>hf t (by simp[ht])
theorem wI{D:Int}:∀(v:OG) (d:Int),d<=D->(∀f∈v,∀t∈f,aj t.2<=D)->gV d v<=D
 |[],d,h,_=>h
 |g::v,d,h,hf=>by have e:gV d (g::v)=gV (fi d g) v:=rfl;rw[e];exact wI v _ (CA g d h λt ht=>hf g (by simp) t ht) λf hf2=>hf f (by simp[hf2])
def bk(w:Nat)(ds:OP)(i:Nat):Int:=if i<w then 0 else ds.getD (i-w) 0
variable{ds:OP}
theorem wJ(h:cR p N w n E 0 fs)(hw:∀t∈fs,t.pl<w)(hE:E<=ds.getD i 0):∀t∈fs++[dP w i],fE (bk w ds) t<=ds.getD i 0:=λt ht=>by
 rcases N1.1 ht with ht|ht
 .have g:=h.gd t ht;have h1:=hw t ht;have h2:=g.own h1;have h3:=g.pl0;unfold fE bk;rw[Oe (by omega)];omega
 .rw[N2] at ht;subst ht;show (0:Int)+0+0+bk w ds (((w+i:Nat):Int).toNat)<=_;rw[Int.toNat_natCast];unfold bk;rw[Oc (by omega),Nat.add_sub_cancel_left];omega
theorem KG(h:cR p N w n E 0 fs)(hw:∀t∈fs,t.pl<w)(hE:E<=ds.getD i 0)(h0:0<=ds.getD i 0):ix (bk w ds) (fs++[dP w i])=ds.getD i 0:=by
 have h1:=Co h0 (wJ h hw hE);have h2:=Cl (dg:=bk w ds) (show dP w i∈fs++[dP w i] by simp);have e:fE (bk w ds) (dP w i)=ds.getD i 0:=by show (0:Int)+0+0+bk w ds (((w+i:Nat):Int).toNat)=_;rw[Int.toNat_natCast];unfold bk;rw[Oc (by omega),Nat.add_sub_cancel_left];omega
 omega
end Go.Proofs.YtjkalahhpobefaaGreat
