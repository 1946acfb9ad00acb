/- MonoOrders, walked. -/
import Derived.Test.YtjkalahhpobefaaGreatH
import Derived.Deep.RegionHeld
namespace Go.Proofs.YtjkalahhpobefaaGreat
set_option linter.all false
open Go.Proofs.Tryz Go.RowKit
def bO(w:PJ)(b:Nat)(p n o v:Int):Prop:=
 b<w.heap.size/\w.cell? (PN b 0)=some (PO p)/\w.cell? (PN b 1)=some (PO n)/\w.cell? (PN b 2)=some (PO o)/\w.cell? (PN b 3)=some (PO v)
variable{p n o v:Int}{w w':PJ}
theorem bO.below{b:Nat}(h:bO w b p n o v)(hb:Io w w'):bO w' b p n o v:=by obtain⟨h0,h1,h2,h3,h4⟩:=h;exact⟨Oz h0 hb.size,by rw[hb.cell (p:=(PN b 0)) h0];exact h1,by rw[hb.cell (p:=(PN b 1)) h0];exact h2,by rw[hb.cell (p:=(PN b 2)) h0];exact h3,by rw[hb.cell (p:=(PN b 3)) h0];exact h4⟩
theorem bO.new(w:PJ)(p n o v:Int)(T:TypeId):bO (w.alloc (.cells #[PO p,PO n,PO o,PO v] T)) w.heap.size p n o v:=
 ⟨by simp,by simp,by simp,by simp,by simp⟩
structure vX(w w':PJ)(x y z:PK)(xs ys zs:PI)(p n o v:Int):Prop where
 below:Io w w'
 box:bO w' w.heap.size p n o v
 sx:Sl w' x xs
 sy:Sl w' y ys
 sz:Sl w' z zs
variable{zs:PI}
theorem vX.next{w2:PJ}{x y z:PK}{xs ys:PI}(h:vX w w' x y z xs ys zs p n o v)(hb:Io w' w2):vX w w2 x y z xs ys zs p n o v:=
 ⟨In h.below hb,h.box.below hb,h.sx.below hb,h.sy.below hb,h.sz.below hb⟩
theorem Sl.made(w:PJ)(n:Nat)(T:TypeId):Sl (w.alloc (.cells (madeCells #[PO 0] n) T)) (PM w.heap.size n n) (List.replicate n 0):=by refine⟨some (PN w.heap.size 0),n,by simp,λ_=>⟨_,_,rfl,by simp,λi hi=>?_⟩⟩;simp at hi;simp[madeCells,hi,Nat.mod_one]
theorem BG{B:Nat}{v:PK}{T:TypeId}(h:w.ownsRow B T 1 v zs.length (zs.map (Value.int .i64))):Sl w v zs:=by
 obtain⟨_,h|⟨g,cap,ag,rfl,hg,hh,hn,hm,hcs,ht⟩⟩:=h
 .obtain⟨rfl,h0⟩:=h;refine⟨none,0,by rw[h0],λhp=>absurd hp (by omega)⟩
 .refine⟨_,cap,rfl,λ_=>⟨g,0,rfl,?_,λi hi=>?_⟩⟩
  .apply OU;intro hle;rw[Array.getElem?_eq_none hle] at hh;simp at hh
  .have e:ag.toList[i]?=some (PO (zs.getD i 0)):=by
    have h1:(ag.toList.take (zs.length*1))[i]?=(zs.map (Value.int .i64))[i]?:=by rw[ht]
    rw[List.getElem?_take,OW (by omega),List.getElem?_map] at h1;rw[h1,OH,OI hi];rfl
   unfold World.cell?;simp only[hh,ON];simpa using e
theorem rR(z:Int):∀u∈[Value.int .i64 z],u.oneCell'=true:=by intro u hu;simp at hu;subst hu;rfl
def ol(o:Int)(xs ys:PI):Bool:=decide (0<aW o xs ys)
theorem rS{a b:Bool}(h:a=b):Ending.returned (.bool a)=.returned (.bool b):=by rw[h]
end Go.Proofs.YtjkalahhpobefaaGreat
