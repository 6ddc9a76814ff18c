import Derived.Test.YthpndgcaoeokeaaGreatDoorCo17
set_option maxRecDepth 100000
set_option maxHeartbeats 8000000
open Go.Value renaming pointer→δ,string→ε,bool→ο
open Go.Obj renaming cells→ζ
open Array renaming getElem?_setIfInBounds→η,getD_eq_getD_getElem?→ν,getElem?_eq_getElem→ω,getElem?_toList→Α
open List renaming size_toArray→θ,getElem?_eq_getElem→ι,getD_eq_getElem?_getD→ψ
open Nat renaming le_refl→κ,zero_le→Ε
open Go renaming World→μ,TypeId→υ,Operand→φ,Oper→Γ,Act→Δ
open Ne renaming symm→ξ
open Go.Instr renaming loadAt→π,indexAt→τ
open Go.RowKit renaming Hid→ρ
open Go.World renaming cell?_setCell_other→χ,size_alloc→Β
namespace Go.Proofs.YthpndgcaoeokeaaGreatDoor
open Tryz
open Go.RowKit
structure R4 (ops:Array Γ)(x y:Nat)(b:Bool)(T1 T2:υ):Prop where
 size:ops.size=5
 o0:∃o,ops[0]?=some o∧o.op= .load T1 (.tmp 5)∧o.dst=some x∧o.guard=none
 o1:∃o,ops[1]?=some o∧o.op= .load T2 (.tmp 6)∧o.dst=some y∧o.guard=none
 o2:∃o,ops[2]?=some o∧o.op= .store T1 (.tmp 2) (.tmp x)∧o.dst=none∧o.guard=none∧∃e∈o.after,Region.binds .any e=true∧e.on=0
 o3:∃o,ops[3]?=some o∧o.op= .store T2 (.tmp 3) (.tmp y)∧o.dst=none∧o.guard=none∧∃e∈o.after,Region.binds .any e=true∧e.on=1
 o4:∃o,ops[4]?=some o∧o.op= .assign (.const (.bool b))∧o.dst=some 4∧o.guard=none
structure JC (a0:Δ)(w0:μ)(R1 R2 b5 b6 x y:Nat)(T1 T2:υ)(vs hs:List Value)(a:Δ)(w:μ):Prop where
 size:a.tmps.size=a0.tmps.size
 defers:a.defers=a0.defers
 same:∀k,k≠x→k≠y→k≠4→a.tmps[k]?=a0.tmps[k]?
 v:af w b5 vs T1
 h:af w b6 hs T2
 r1:∃c:List Value,c.length=vs.length∧af w R1 c T1
 r2:∃c:List Value,c.length=hs.length∧af w R2 c T2
 aQ:aK (fun k=>k=R1∨k=R2) w0 w
def GC (R1 R2 x y:Nat)(b:Bool)(T1 T2:υ)(vs hs:List Value)(i:Nat)(a:Δ)(w:μ):Prop:=match i with
 |0=>a.eval (.tmp x)= .agg vs.toArray
 |1=>a.eval (.tmp y)= .agg hs.toArray
 |2=>af w R1 vs T1
 |3=>af w R2 hs T2
 |4=>a.eval (.tmp 4)= .bool b
 |_=>True
theorem Vv {a:Δ}{d k:Nat}{v:Value}(h:k≠d):(a.put (some d) v).tmps[k]?=a.tmps[k]?:=by
 show(a.tmps.setIfInBounds d v)[k]?=_;rw[η];simp[ξ h]
theorem BK {a a0:Δ}{k:Nat}(h:a.tmps[k]?=a0.tmps[k]?):a.eval (.tmp k)=a0.eval (.tmp k):=by
 show a.tmps.getD k undef=a0.tmps.getD k undef;rw[ν,ν,h]
theorem R5 {a0 a:Δ}{x y:Nat}{b:Bool}{vs hs:List Value}(Im:a.tmps.size=a0.tmps.size)(hd:a.defers=a0.defers)(same:∀k,k≠x→k≠y→k≠4→a.tmps[k]?=a0.tmps[k]?)
 (hx:a.eval (.tmp x)= .agg vs.toArray)(hy:a.eval (.tmp y)= .agg hs.toArray)(h4:a.eval (.tmp 4)= .bool b)(KW:x<a0.tmps.size)(oK:y<a0.tmps.size)(R6:4<a0.tmps.size)(hxy:x≠y)(sQ:x≠4)(hy4:y≠4):
 a=((a0.put (some x) (.agg vs.toArray)).put (some y) (.agg hs.toArray)).put (some 4) (.bool b):=by
 have get:∀{k:Nat} {v:Value},k<a.tmps.size→a.eval (.tmp k)=v→a.tmps[k]?=some v:=fun{k v} hk h=>by
  have:a.tmps.getD k undef=v:=h;rw[ω hk];rw[ν,ω hk]at this;simpa using this
 obtain⟨tm,df⟩:=a;obtain⟨tm0,df0⟩:=a0;simp only[]at hd Im KW oK R6;subst hd;show(⟨tm,df⟩:Δ)=⟨((tm0.setIfInBounds x _).setIfInBounds y _).setIfInBounds 4 _,df⟩;congr 1;apply Array.ext';apply List.ext_getElem?;intro k;rw[Α,Α];by_cases e4:k=4
 ·subst e4;rw[get (by show 4<tm.size;omega) h4,η];simp[R6]
 ·rw[η,if_neg (ξ e4)];by_cases ey:k=y
  ·subst ey;rw[get (by show k<tm.size;omega) hy,η];simp[oK]
  ·rw[η,if_neg (ξ ey)];by_cases ex:k=x
   ·subst ex;rw[get (by show k<tm.size;omega) hx,η];simp[KW]
   ·rw[η,if_neg (ξ ex)];exact same k ex ey e4
theorem JC.put {a0 a:Δ}{w0 w:μ}{R1 R2 b5 b6 x y:Nat}{T1 T2:υ}{vs hs:List Value}{d:Nat}{v:Value}(h:JC a0 w0 R1 R2 b5 b6 x y T1 T2 vs hs a w)(hd:d=x∨d=y∨d=4):JC a0 w0 R1 R2 b5 b6 x y T1 T2 vs hs (a.put (some d) v) w:=
 ⟨by rw[eB];exact h.size,by rw[put_defers];exact h.defers,fun k h1 h2 h3=>(Vv (by rcases hd with rfl|rfl|rfl<;>assumption)).trans (h.same k h1 h2 h3),h.v,h.h,h.r1,h.r2,h.aQ⟩
theorem R7 {P:Program}{ops:Array Γ}{Q:Exit→Δ→μ→Prop}{id:Nat}{a:Δ}{w:μ}{R1 R2 b5 b6 x y:Nat}{b:Bool}{T1 T2:υ}{d1 d2:TypeDesc}{vs hs:List Value}(hm:P.follows .mixedOrders=true)(hf:forward .any ops=true)(hC:R4 ops x y b T1 T2)
 (h2:a.eval (.tmp 2)= δ (some ⟨R1,0,none⟩))(h3:a.eval (.tmp 3)= δ (some ⟨R2,0,none⟩))(h5:a.eval (.tmp 5)= δ (some ⟨b5,0,none⟩))(h6:a.eval (.tmp 6)= δ (some ⟨b6,0,none⟩))
 (hx:x<a.tmps.size)(hy:y<a.tmps.size)(R6:4<a.tmps.size)(hx6:6<x)(hxy:x<y)(ne:R1≠R2∧R1≠b5∧R1≠b6∧R2≠b5∧R2≠b6)
 (hv:af w b5 vs T1)(hh:af w b6 hs T2)(r1:∃c:List Value,c.length=vs.length∧af w R1 c T1)(r2:∃c:List Value,c.length=hs.length∧af w R2 c T2)
 (Io:P.underlying T1=some d1)(er:d1.isRow=true)(EU:(P.info? T1).map (·.size)=some vs.length)(ho1:∀v∈vs,v.oneCell'=true)
 (hu2:P.underlying T2=some d2)(Kj:d2.isRow=true)(KX:(P.info? T2).map (·.size)=some hs.length)(ho2:∀v∈hs,v.oneCell'=true)
 (D:∀w',af w' R1 vs T1→af w' R2 hs T2→aK (fun k=>k=R1∨k=R2) w w'→Q .normal (((a.put (some x) (.agg vs.toArray)).put (some y) (.agg hs.toArray)).put (some 4) (.bool b)) w'):
 (Code.region id ops true).wp P Q a w:=by
 have aeN:∀{a':Δ} {w':μ},JC a w R1 R2 b5 b6 x y T1 T2 vs hs a' w'→a'.eval (.tmp 2)= δ (some ⟨R1,0,none⟩)∧a'.eval (.tmp 3)= δ (some ⟨R2,0,none⟩)∧a'.eval (.tmp 5)= δ (some ⟨b5,0,none⟩)∧a'.eval (.tmp 6)= δ (some ⟨b6,0,none⟩):=fun{a' w'} h=>
  ⟨(BK (h.same 2 (by omega) (by omega) (by omega))).trans h2,(BK (h.same 3 (by omega) (by omega) (by omega))).trans h3,(BK (h.same 5 (by omega) (by omega) (by omega))).trans h5,(BK (h.same 6 (by omega) (by omega) (by omega))).trans h6⟩
 refine Ab (GC R1 R2 x y b T1 T2 vs hs) (JC a w R1 R2 b5 b6 x y T1 T2 vs hs) hm hf ?_ ?_ ⟨rfl,rfl,fun _ _ _ _=>rfl,hv,hh,r1,r2,(aK.refl _ _).drew⟩
 ·intro i o ho a' w' hI hG;have hi:i<5:=by rw[←hC.size];exact(Array.getElem?_eq_some_iff.1 ho).1
  obtain⟨s2,s3,s5,s6⟩:=aeN hI;have KW:x<a'.tmps.size:=by rw[hI.size];exact hx
  have oK:y<a'.tmps.size:=by rw[hI.size];exact hy
  have ahG:4<a'.tmps.size:=by rw[hI.size];exact R6
  have gA:i=0∨i=1∨i=2∨i=3∨i=4:=by omega
  rcases gA with rfl|rfl|rfl|rfl|rfl
  ·obtain⟨o',uM,EW,yw,ix⟩:=hC.o0;rw[ho]at uM;cases uM;rw[if_pos (cb ix)];refine aj (w':=w') (v:= .agg vs.toArray) ?_ ?_
   ·unfold execOp;simp only[EW];exact aL (by rw[s5];exact run_loadAt_mid w' b5 0 T1 vs _ (dc hI.v) Io er EU)
   ·rw[yw];refine⟨hI.put (.inl rfl),?_,fun j oj gy hj _ hg=>?_⟩
    ·exact fh KW
    ·have Yf:j<5:=by rw[←hC.size];exact(Array.getElem?_eq_some_iff.1 gy).1
     have:j=1∨j=2∨j=3∨j=4:=by omega
     rcases this with rfl|rfl|rfl|rfl
     ·exact(bL (by omega)).trans hg
     ·exact hg
     ·exact hg
     ·exact(bL (by omega)).trans hg
  ·obtain⟨o',uM,EW,yw,ix⟩:=hC.o1;rw[ho]at uM;cases uM;rw[if_pos (cb ix)];refine aj (w':=w') (v:= .agg hs.toArray) ?_ ?_
   ·unfold execOp;simp only[EW];exact aL (by rw[s6];exact run_loadAt_mid w' b6 0 T2 hs _ (dc hI.h) hu2 Kj KX)
   ·rw[yw];refine⟨hI.put (.inr (.inl rfl)),?_,fun j oj gy hj _ hg=>?_⟩
    ·exact fh oK
    ·have Yf:j<5:=by rw[←hC.size];exact(Array.getElem?_eq_some_iff.1 gy).1
     have:j=0∨j=2∨j=3∨j=4:=by omega
     rcases this with rfl|rfl|rfl|rfl
     ·exact(bL (by omega)).trans hg
     ·exact hg
     ·exact hg
     ·exact(bL (by omega)).trans hg
  ·obtain⟨o',uM,EW,yw,ix,e,he,jg,bq⟩:=hC.o2;rw[ho]at uM;cases uM;have g0:=hG e he jg;rw[bq]at g0;obtain⟨c,dP,ax⟩:=hI.r1;have iV:=si (vs:=vs) (o:=0) ax;rw[kK vs c dP]at iV;obtain⟨y1,y2,y3⟩:=xg R1 vs 0 w';rw[if_pos (cb ix)];refine rT (w':=w'.setCells R1 0 vs) ?_ ?_
   ·unfold execOp;simp only[EW];exact py (by rw[s2,show a'.eval (.tmp x)=_ from g0];exact run_storeAt_mid w' R1 0 T1 vs.toArray (nJ ax (by rw[θ];exact dP.symm)) (by rw[θ];exact EU) (all_oneCell_toArray ho1))
   ·rw[yw];refine⟨⟨hI.size,hI.defers,hI.same,hI.v.iG (ξ ne.2.1),hI.h.iG (ξ ne.2.2.1),⟨vs,rfl,iV⟩,?_,?_⟩,iV,fun j oj gy hj _ hg=>?_⟩
    ·obtain⟨c2,mS,xh⟩:=hI.r2;exact⟨c2,mS,xh.iG (ξ ne.1)⟩
    ·exact hI.aQ.fY ⟨y1,y2,y3,by rw[js];exact κ _,fun k _ hk=>kg R1 vs 0 w' k (fun e=>hk (.inl e))⟩
    ·have Yf:j<5:=by rw[←hC.size];exact(Array.getElem?_eq_some_iff.1 gy).1
     have:j=0∨j=1∨j=3∨j=4:=by omega
     rcases this with rfl|rfl|rfl|rfl
     ·exact hg
     ·exact hg
     ·exact af.iG hg (ξ ne.1)
     ·exact hg
  ·obtain⟨o',uM,EW,yw,ix,e,he,jg,bq⟩:=hC.o3;rw[ho]at uM;cases uM;have g0:=hG e he jg;rw[bq]at g0;obtain⟨c,dP,ax⟩:=hI.r2;have iV:=si (vs:=hs) (o:=0) ax;rw[kK hs c dP]at iV;obtain⟨y1,y2,y3⟩:=xg R2 hs 0 w';rw[if_pos (cb ix)];refine rT (w':=w'.setCells R2 0 hs) ?_ ?_
   ·unfold execOp;simp only[EW];exact py (by rw[s3,show a'.eval (.tmp y)=_ from g0];exact run_storeAt_mid w' R2 0 T2 hs.toArray (nJ ax (by rw[θ];exact dP.symm)) (by rw[θ];exact KX) (all_oneCell_toArray ho2))
   ·rw[yw];refine⟨⟨hI.size,hI.defers,hI.same,hI.v.iG (ξ ne.2.2.2.1),hI.h.iG (ξ ne.2.2.2.2),?_,⟨hs,rfl,iV⟩,?_⟩,iV,fun j oj gy hj _ hg=>?_⟩
    ·obtain⟨c2,mS,xh⟩:=hI.r1;exact⟨c2,mS,xh.iG ne.1⟩
    ·exact hI.aQ.fY ⟨y1,y2,y3,by rw[js];exact κ _,fun k _ hk=>kg R2 hs 0 w' k (fun e=>hk (.inr e))⟩
    ·have Yf:j<5:=by rw[←hC.size];exact(Array.getElem?_eq_some_iff.1 gy).1
     have:j=0∨j=1∨j=2∨j=4:=by omega
     rcases this with rfl|rfl|rfl|rfl
     ·exact hg
     ·exact hg
     ·exact af.iG hg ne.1
     ·exact hg
  ·obtain⟨o',uM,EW,yw,ix⟩:=hC.o4;rw[ho]at uM;cases uM;rw[if_pos (cb ix)];refine aj (w':=w') (v:= .bool b) ?_ ?_
   ·unfold execOp;simp only[EW];rfl
   ·rw[yw];refine⟨hI.put (.inr (.inr rfl)),?_,fun j oj gy hj _ hg=>?_⟩
    ·exact fh ahG
    ·have Yf:j<5:=by rw[←hC.size];exact(Array.getElem?_eq_some_iff.1 gy).1
     have:j=0∨j=1∨j=2∨j=3:=by omega
     rcases this with rfl|rfl|rfl|rfl
     ·exact(bL (by omega)).trans hg
     ·exact(bL (by omega)).trans hg
     ·exact hg
     ·exact hg
 ·intro a' w' hI hG;have e:=R5 hI.size hI.defers hI.same (hG 0 (by rw[hC.size];decide)) (hG 1 (by rw[hC.size];decide)) (hG 4 (by rw[hC.size];decide)) hx hy R6 (by omega) (by omega) (by omega);rw[e];exact D w' (hG 2 (by rw[hC.size];decide)) (hG 3 (by rw[hC.size];decide)) hI.aQ
section
variable {P:Program} {ops:Array Γ} {Q:Exit→Δ→μ→Prop} {o:Γ} {rest:List Γ} {a:Δ} {w:μ}
theorem aW {zs:List Value}{T:υ}(ix:o.guard=none)(hr:(execOp a.eval o).run P w= .ok (.value (δ (some ⟨w.heap.size,0,none⟩))) (w.alloc (ζ zs.toArray T)))
 (hK:∀w',af w' w.heap.size zs T→w'.heap.size=w.heap.size+1→Below w.heap.size w w'→wpList P ops Q rest (a.put o.dst (δ (some ⟨w.heap.size,0,none⟩))) w'):wpList P ops Q (o::rest) a w:=
 eC ix hr (hK _ (af.new w zs T) (by simp) ((Below.refl _ _).alloc (κ _) _))
theorem KY (b o:Nat)(vs:List Value)(w:μ):aK (fun k=>k=b) w (w.setCells b o vs):=by
 obtain⟨y1,y2,y3⟩:=xg b vs o w;exact⟨y1,y2,y3,by rw[js];exact κ _,fun k _ hk=>kg b vs o w k hk⟩
theorem aN {T:υ}{x y:φ}{b:Nat}{vs cs:List Value}(ix:o.guard=none)(ho:o.op= .store T x y)(hx:a.eval x= δ (some ⟨b,0,none⟩))(hy:a.eval y= .agg vs.toArray)(ax:af w b cs T)(hl:cs.length=vs.length)
 (hi:(P.info? T).map (·.size)=some vs.length)(h1:∀v∈vs,v.oneCell'=true)(hK:∀w',af w' b vs T→aK (fun k=>k=b) w w'→wpList P ops Q rest (a.put o.dst undef) w'):wpList P ops Q (o::rest) a w:=by
 have iV:=si (vs:=vs) (o:=0) ax;rw[kK vs cs hl]at iV;refine wpList_store_mid ix T x y ho b 0 vs.toArray hx hy (nJ ax (by rw[θ];exact hl.symm)) (by rw[θ];exact hi) (all_oneCell_toArray h1) ?_;exact hK _ iV (KY b 0 vs w)
theorem xi {T S:υ}{x y:φ}{b k:Nat}{vs cs:List Value}(ix:o.guard=none)(ho:o.op= .store T x y)(hx:a.eval x= δ (some ⟨b,k,none⟩))(hy:a.eval y= .agg vs.toArray)(ax:af w b cs S)(hl:k+vs.length≤cs.length)
 (hi:(P.info? T).map (·.size)=some vs.length)(h1:∀v∈vs,v.oneCell'=true)(hK:∀w',af w' b (oD k vs cs) S→aK (fun k=>k=b) w w'→wpList P ops Q rest (a.put o.dst undef) w'):wpList P ops Q (o::rest) a w:=by
 have iV:=si (vs:=vs) (o:=k) ax;refine wpList_store_mid ix T x y ho b k vs.toArray hx hy (fun j hj=>?_) (by rw[θ];exact hi) (all_oneCell_toArray h1) ?_
 ·rw[θ]at hj;exact⟨by rw[ax.cell (ι (show k+j<cs.length by omega))];rfl,ax.free⟩
 ·exact hK _ iV (KY b k vs w)
theorem aR {T:υ}{x:φ}{b:Nat}{cs:List Value}{d:TypeDesc}(ix:o.guard=none)(ho:o.op= .load T x)(hx:a.eval x= δ (some ⟨b,0,none⟩))(ax:af w b cs T)
 (hu:P.underlying T=some d)(hd:d.isRow=true)(hi:(P.info? T).map (·.size)=some cs.length)(hK:wpList P ops Q rest (a.put o.dst (.agg cs.toArray)) w):wpList P ops Q (o::rest) a w:=
 wpList_load_mid ix T x ho b 0 hx cs d (dc ax) hu hd hi hK
end
theorem KZ:∀(vs cs:List Value) (k:Nat),(oD k vs cs).length=cs.length
 |[],_,_=>rfl
 |v::r,cs,k=>by rw[oD,KZ r,List.length_set]
theorem Vw (xs ys zs vs:List Value)(k:Nat)(hk:xs.length=k)(hl:ys.length=vs.length):oD k vs (xs++ys++zs)=xs++vs++zs:=by
 induction vs generalizing xs ys k with
 |nil=>
  have:ys=[]:=List.eq_nil_of_length_eq_zero hl;subst this;rfl
 |cons v r ih=>
  cases ys with
  |nil=>simp at hl
  |cons y t=>
   rw[oD];have e:(xs++y::t++zs).set k v=(xs++[v])++t++zs:=by
    rw[List.append_assoc,List.set_append_right _ _ (by omega),hk,Nat.sub_self];simp
   rw[e,ih (xs++[v]) t (k+1) (by simp[hk]) (by simpa using hl)];simp
theorem af.aQ {w w':μ}{O:Nat→Prop}{b:Nat}{cs:List Value}{T:υ}(h:af w b cs T)(hx:aK O w w')(hb:¬O b):af w' b cs T:=by
 unfold af at h⊢;rw[hx.block b (Array.getElem?_eq_some_iff.1 h).1 hb];exact h
end Go.Proofs.YthpndgcaoeokeaaGreatDoor
namespace Go.Proofs.YthpndgcaoeokeaaGreatDoor
open Tryz
open Go.RowKit
theorem dA {w:μ}{v:Value}{zs:List Int}(h:cF w v zs):∃a c,v= .slice a zs.length c∧∀j,j<zs.length→∃g off,a=some ⟨g,off,none⟩∧w.cell? ⟨g,off+j,none⟩=some (.int .i64 (zs.getD j 0)):=by
 rcases h.2 with⟨rfl,rfl⟩|⟨g,off,cap,rfl,_,hc⟩
 ·exact⟨none,0,rfl,fun j hj=>by simp at hj⟩
 ·exact⟨some ⟨g,off,none⟩,cap,rfl,fun j hj=>⟨g,off,rfl,hc j hj⟩⟩
theorem Gp {o:Γ}{a:Δ}{w:μ}{x:φ}{b:Bool}(ho:o.op= .unOp .not 4 x)(h:a.eval x= .bool b):(execOp a.eval o).run prog w= .ok (.value (.bool (!b))) w:=by
 obtain⟨_,_,_,_,_,_⟩:=o;simp only[]at ho;subst ho;unfold execOp;simp only[h];cases b<;>kernel_rfl
theorem DC {o:Γ}{a:Δ}{w:μ}{x:φ}{v:Value}(ho:o.op= .move x)(h:a.eval x=v):(execOp a.eval o).run prog w= .ok (.value v) w:=by
 obtain⟨_,_,_,_,_,_⟩:=o;simp only[]at ho;subst ho;unfold execOp;simp only[h];rfl
theorem Qe {b:Bool}(h:(b==false)=true):b=false:=by cases b<;>simp_all
theorem Yg {b:Bool}(h:(!b)=false):b=true:=by cases b<;>simp_all
theorem Qf {o:Γ}{a:Δ}{w:μ}{x:φ}{v:Value}(ho:o.op= .assign x)(h:a.eval x=v):(execOp a.eval o).run prog w= .ok (.value v) w:=by
 obtain⟨_,_,_,_,_,_⟩:=o;simp only[]at ho;subst ho;unfold execOp;simp only[h];rfl
theorem DE {o:Γ}{a:Δ}{w:μ}{x y:φ}(ho:o.op= .pick x (.const (.bool true)) y)(h:a.eval x= .bool true):(execOp a.eval o).run prog w= .ok (.value (.bool true)) w:=by
 obtain⟨_,_,_,_,_,_⟩:=o;simp only[]at ho;subst ho;unfold execOp;simp only[h];kernel_rfl
theorem Gq {o:Γ}{a:Δ}{w:μ}{x y:φ}{b:Bool}(ho:o.op= .pick x (.const (.bool true)) y)(h:a.eval x= .bool false)(hy:a.eval y= .bool b):(execOp a.eval o).run prog w= .ok (.value (.bool b)) w:=by
 obtain⟨_,_,_,_,_,_⟩:=o;simp only[]at ho;subst ho;unfold execOp;simp only[h,hy];kernel_rfl
theorem R8 {f:Nat→Option (List UInt8)}{os:List Int}{x2 x3 x4 x5 x6 x7:Bool}{q:Int}(h0:has f 0=true)(h2:has f 2=x2)(h3:has f 3=x3)(h4:has f 4=x4)(h5:has f 5=x5)(h6:has f 6=x6)(h7:has f 7=x7)(hq:q=kb f)(ho:ik f=os.any fun o=>decide (o≠0))
 (Et:(x2&&x3)=false)(Yh:(x5&&decide (q=2))=false)(hA:∀m,m<os.length→os.getD m 0=0∨(decide (q<3)||x5)=false):agree f=(!x7||x4||x5||x6):=by
 have hb:(ik f&&(decide (q<3)||x5))=false:=by
  cases hc:(decide (q<3)||x5)with
  |false=>rw[Bool.and_false]
  |true=>
   rw[Bool.and_true,ho,List.any_eq_false];intro z hz;obtain⟨m,hm,rfl⟩:=List.getElem_of_mem hz;have:=(hA m hm).resolve_right (by rw[hc];simp);rw[ψ,ι hm]at this;simpa using this
 unfold agree;rw[h0,h2,h3,h4,h5,h6,h7,←hq,Et,Yh,hb];rfl
theorem Vx {wr w':μ}{p B N:Nat}{cs:List Value}{f:Nat→Option (List UInt8)}(hN:N≤B)(h:ee B wr p f f)(cl:cs.length=19)(co:∀x∈cs,x.oneCell'=true)(cr:wr.rangeAt p 0 cs)(hk:∀g,g<wr.heap.size→B≤g→w'.heap[g]?=wr.heap[g]?):fJ N w' (.agg cs.toArray) f:=by
 have get:∀j,j<19→∃x,cs[j]?=some x∧wr.cell? ⟨p,j,none⟩=some x:=fun j hj=>by
  have:=cr j cs[j] (ι (by omega));rw[Nat.zero_add]at this;exact⟨_,ι (by omega),this⟩
 refine⟨cs,rfl,cl,co,fun j hj=>?_,fun k h9=>?_⟩
 ·obtain⟨x,h1,h2⟩:=get j (by omega);obtain⟨v,h3,h4⟩:=h.cell j hj;rw[h2]at h3;cases h3;exact⟨x,B,hN,h1,h4.on hk⟩
 ·obtain⟨x,h1,h2⟩:=get (10+k) (by omega);have h3:=h.text k h9;rw[h2]at h3;cases h3;exact h1
theorem Vy {f:Nat→Option (List UInt8)}{os:List Int}{x5:Bool}{q z:Int}{n:Nat}(ho:ik f=os.any fun o=>decide (o≠0))(h5:has f 5=x5)(hq:q=kb f)(hn:n<os.length)(hz:z=os.getD n 0)(z0:¬z=0)(hb:(decide (q<3)||x5)=true):agree f=false:=by
 have:ik f=true:=by
  rw[ho,List.any_eq_true];exact⟨z,by rw[hz,ψ,ι hn];exact List.getElem_mem hn,by simpa using z0⟩
 unfold agree;rw[this,h5,←hq,hb];simp
theorem J8 {w W:μ}{R p:Nat}(hc:kf W p)(hr:af W R bD 243)(hb:Below R w W):∃cs:List Value,ρ (W.rangeAt p 0 cs)∧ρ (cs.length=19)∧ρ (cs.toArray.all (·.oneCell')=true)∧ρ ((prog.info? 243).map (·.size)=some cs.length)∧ρ (af W R bD 243)∧ρ (Below R w W)∧ρ (W.there R 0 cs.toArray.size)∧ρ ((prog.info? 243).map (·.size)=some cs.toArray.size):=by
 obtain⟨cs,cl,co,cr⟩:=hc;have hi:(prog.info? 243).map (·.size)=some cs.length:=by rw[cl];exact fk
 exact⟨cs,ad cr,ad cl,ad (all_oneCell_toArray co),ad hi,ad hr,ad hb,ad (Ch hr (by simpa using cl)),ad (by rw[θ];exact hi)⟩
theorem eX.fin {w wr:μ}{B R p hv g:Nat}{P:List ByteArray}{f:Nat→Option (List UInt8)}(h:eX w B R p hv g P f wr)(n:Nat):∃cs:List Value,ρ ((wr.drewN n).rangeAt p 0 cs)∧ρ (cs.length=19)∧ρ (cs.toArray.all (·.oneCell')=true)∧ρ ((prog.info? 243).map (·.size)=some cs.length)∧ρ (af (wr.drewN n) R bD 243)∧ρ (Below R w (wr.drewN n))∧ρ ((wr.drewN n).there R 0 cs.toArray.size)∧ρ ((prog.info? 243).map (·.size)=some cs.toArray.size):=
 J8 h.fO.cells h.res (below_drewN h.below n)
theorem Vz (s:List UInt8)(w:μ)(hs:s.length≤1048575)(hn:cE w 2 0 aC)(hg:2<w.heap.size):
 Calls prog 237 #[ε (ba s)] w (Gj s w):=by
 have bu:(ba s).size=s.length:=by unfold ba;simp[ByteArray.size]
 have q1:=af.new w bD 243;have qb1:Below w.heap.size w (w.alloc (ζ bD.toArray 243)):=(Below.refl _ _).alloc (κ _) _;have q2:=af.new (w.alloc (ζ bD.toArray 243)) bD 243;rw[Β]at q2;have K4:=q1.on ((Below.refl _ _).alloc (κ _) (ζ bD.toArray 243));have qb2:Below w.heap.size w ((w.alloc (ζ bD.toArray 243)).alloc (ζ bD.toArray 243)):=qb1.alloc (by simp) _;have HT:=ad (Ch (n:=mZ.toArray.size) q2 rfl);obtain⟨_,qb3,q3⟩:=BA (vs:=mZ) (o:=0) q2 qb2 (by omega);rw[kK mZ bD rfl]at q3;obtain⟨w3,K6⟩:∃w3,w3=((w.alloc (ζ bD.toArray 243)).alloc (ζ bD.toArray 243)).setCells (w.heap.size+1) 0 mZ:=⟨_,rfl⟩;have q4:af w3 w.heap.size bD 243:=by rw[K6];exact K4.iG (by omega)
 have z3:w3.heap.size=w.heap.size+2:=by rw[K6,js];simp
 rw[←K6]at qb3 q3;have HW3:=ad K6;clear K6 q1 K4 q2 qb1 qb2;obtain⟨w1,zt⟩:∃w1,w1=w3.alloc (ζ Ah.toArray 286):=⟨_,rfl⟩;have b1:Below w.heap.size w w1:=by rw[zt];exact qb3.alloc (by omega) _
 have z1:w1.heap.size=w.heap.size+3:=by rw[zt];simp[z3]
 have r1:af w1 w.heap.size bD 243:=by rw[zt];exact q4.on ((Below.refl _ _).alloc (κ _) _)
 have r2:af w1 (w.heap.size+1) mZ 243:=by rw[zt];exact q3.on ((Below.refl _ _).alloc (κ _) _)
 have r3:af w1 (w.heap.size+2) Ah 286:=by
  rw[zt];have:=af.new w3 Ah 286;rw[z3]at this;exact this
 have HZ3:=ad z3;clear q3 q4 qb3 z3;have CS:=uN (ba s) 59 w1 (by omega);have HP:=ad (rn (ba s) 59);have HL:=ad (uO (ba s) 59);have HM:=ad (oL (ba s) 59);have HQ:ρ (lv 59 s=(cI (ba s) 59).map (·.data.toList)):=ad rfl;obtain⟨P,hP⟩:∃P,P=cI (ba s) 59:=⟨_,rfl⟩;rw[←hP]at CS HP HL HM HQ;have CS:=ad CS;have R9:=ad zt;clear hP zt;go_enter func237,ntmps237;go_wp2_with (first
  |(refine eC rfl (Gl rfl _ _) ?_;try simp only[Β])
  |(refine eC rfl (Gn rfl _ _) ?_)
  |(refine wpList_store_mid rfl 243 (.tmp 4) (.tmp 13) rfl (w.heap.size+1) 0 mZ.toArray rfl rfl ?hT ?hI ?hO ?hW;(case hT=>exact HT.out);(case hI=>exact fk);(case hO=>exact RZ);rw[show mZ.toArray.toList=mZ from rfl,←HW3.out])
  |(refine eC rfl (Gm rfl _ _) ?_;rw[HZ3.out,←R9.out])
  |(go_at_call 292;refine(CS.out).mono ?_;rintro e w2 ⟨v,rfl,aw,az⟩;obtain⟨g,cap,rfl,hgB,gE⟩:=yy aw HP.out;clear aw))
 have z2:=az.size;have hPl:P.length≤1048576:=by have:=HL.out;omega
 have L0:eX w w2.heap.size w.heap.size (w.heap.size+1) (w.heap.size+2) g P eF w2:=
  ⟨Qc (r2.on az),Qd (r3.on az),r1.on az,gE,b1.trans (az.mono (by omega)),κ _,fun j v h=>by cases h⟩
 have Hj:=ad L0;have OH:g<w2.heap.size:=gE.1;have hN2:ρ (cE w2 2 0 aC):=ad fun j hj=>by rw[(b1.trans (az.mono (by omega))).cell (p:=⟨2,0+j,none⟩) hg];exact hn j hj
 have HNM:=ad hn;clear L0 r1 r2 r3 CS gE R9 az hn hN2;go_loopw [7] (fun i wr=>∃(k:Nat) (f:Nat→Option (List UInt8)),k≤P.length∧i= .int .i64 k∧ρ (eX w w2.heap.size w.heap.size (w.heap.size+1) (w.heap.size+2) g P f wr)∧ρ (bZ aC 61 (lv 59 s) (fun _=>none)=bZ aC 61 ((P.map (·.data.toList)).drop k) f)) (fun i _=>P.length - (intOf i).toNat)
 case atStart=>exact⟨0,eF,Ε _,rfl,Hj,ad (by rw[HQ.out];rfl)⟩
 case round=>
  obtain⟨k,f,hk,rfl,HR,HT⟩:=hrel;by_cases ay:k<P.length
  case neg=>
   have Ip:ρ (bZ aC 61 (lv 59 s) (fun _=>none)=some f):=ad (by rw[HT.out,List.drop_of_length_le (by rw[List.length_map];omega)];rfl);clear HT;have fB:k=P.length:=by omega
   subst fB;clear ay hk;have c0:=HR.out.mB.cell 0 (by decide);have c2:=HR.out.mB.cell 2 (by decide);have c3:=HR.out.mB.cell 3 (by decide);have c5:=HR.out.mB.cell 5 (by decide);obtain⟨vq,cq,hq⟩:=HR.out.fO.cell 0 (by decide);obtain⟨v8,c8,h8,_⟩:=HR.out.fO.cell 8 (by decide);obtain rfl:vq= .int .i64 (kb f):=hq;have HO:ρ (cF wr v8 (sM (f 6)).2):=ad (kP h8.1 h8.2);have Yi:ρ (ik f=(sM (f 6)).2.any fun o=>decide (o≠0)):=ad (abQ f);obtain⟨os,Sa⟩:∃os,os=(sM (f 6)).2:=⟨_,rfl⟩;rw[←Sa]at HO Yi;obtain⟨q,xj⟩:∃q,q=kb f:=⟨_,rfl⟩;rw[←xj]at cq;have HQE:=ad xj;obtain⟨x0,gn⟩:∃x,x=(f 0).isSome:=⟨_,rfl⟩;obtain⟨x2,fZ⟩:∃x,x=(f 2).isSome:=⟨_,rfl⟩;obtain⟨x3,iW⟩:∃x,x=(f 3).isSome:=⟨_,rfl⟩;obtain⟨x5,qn⟩:∃x,x=(f 5).isSome:=⟨_,rfl⟩;rw[←gn]at c0;rw[←fZ]at c2;rw[←iW]at c3;rw[←qn]at c5;have H0:ρ (has f 0=x0):=ad gn.symm;have H2:ρ (has f 2=x2):=ad fZ.symm;have H3:ρ (has f 3=x3):=ad iW.symm;have H5:ρ (has f 5=x5):=ad qn.symm;clear Sa xj gn fZ iW qn h8;by_cases K7:x0=false∨(x2=true∧x3=true)∨(x5=true∧q=2)
   case pos=>
    have HX:ρ (cV s=none):=ad (Gk Ip.out (by
     unfold agree;rw[H0.out,H2.out,H3.out,H5.out,←HQE.out];rcases K7 with rfl|⟨rfl,rfl⟩|⟨rfl,rfl⟩<;>simp))
    clear HO Yi c8;rcases(show x0=false∨(x0=true∧x2=true∧x3=true)∨(x0=true∧x2=false∧x5=true∧q=2)∨(x0=true∧x2=true∧x3=false∧x5=true∧q=2) by cases x0<;>cases x2<;>cases x3<;>simp_all)with rfl|⟨rfl,rfl,rfl⟩|⟨rfl,rfl,rfl,rfl⟩|⟨rfl,rfl,rfl,rfl,rfl⟩
    all_goals
     obtain⟨cs,sS,zu,uP,EX,EY,EZ,E0,E3⟩:=J8 HR.out.fO.cells HR.out.res HR.out.below;go_upto_region 16 with fail;go_wp2_with (first
      |(refine wpList_load_mid rfl 243 (.tmp 4) rfl (w.heap.size+1) 0 rfl cs _ sS.out underlying243 rfl EX.out ?_)
      |(refine wpList_store_mid rfl 243 (.tmp 2) (.tmp 75) rfl w.heap.size 0 cs.toArray rfl rfl E0.out E3.out uP.out ?_))
     exact sP (b:=false) EY.out EZ.out zu.out uP.out (by rfl) (by rfl) (fun _=>HX.out) (fun h=>by cases h)
   case neg=>
    obtain⟨a8,e8,rfl,abW⟩:=dA HO.out;have HC8:=ad abW;have hol:os.length≤1048576:=HO.out.1;clear HO abW;obtain⟨b5,bk⟩:∃b,b=x5:=⟨_,rfl⟩;have Ai:=ad bk;clear bk;have Et:¬(x2=true∧x3=true):=fun h=>K7 (.inr (.inl h));have Yh:x5=true→(q==2)=false:=fun h=>by simp;exact fun e=>K7 (.inr (.inr ⟨h,e⟩))
    obtain rfl:x0=true:=by cases x0;exact absurd (.inl rfl) K7;rfl
    clear K7;rcases(show x2=false∨(x2=true∧x3=false) by cases x2<;>cases x3<;>simp_all)with rfl|⟨rfl,rfl⟩<;>cases x5
    all_goals
     try have hq2:=Yh rfl
     have H5b:ρ (has f 5=b5):=ad (by rw[Ai.out];exact H5.out);clear Et Yh;go_wp2;go_loop [12] (fun i=>∃n:Nat,n≤os.length∧i= .int .i64 n∧ρ (∀m,m<n→os.getD m 0=0∨(decide (q<3)||b5)=false)) (fun i=>os.length - (intOf i).toNat)
     case atStart=>exact⟨0,Ε _,rfl,ad (fun m hm=>absurd hm (by omega))⟩
     case round=>
      obtain⟨n,hn,rfl,HA⟩:=hrel;by_cases ay:n<os.length
      case pos=>
       obtain⟨g8,o8,rfl,hz⟩:=HC8.out n ay;obtain⟨z,zv⟩:∃z,z=os.getD n 0:=⟨_,rfl⟩;rw[←zv]at hz;have HZ:=ad zv;clear zv;by_cases z0:z=0
       case pos=>
        subst z0;go_wp2;go_round
        case rel=>exact⟨n+1,by omega,by go_num,ad (fun m hm=>by
         by_cases e:m=n
         ·subst e;exact .inl HZ.out.symm
         ·exact HA.out m (by omega))⟩
        case measure=>simp[intOf];omega
       case neg=>
        have g0:(z !=0)=true:=by simpa using z0
        have HX:ρ ((decide (q<3)||b5)=true→cV s=none):=ad (fun hb=>Gk Ip.out (Vy Yi.out H5b.out HQE.out ay HZ.out z0 hb));clear z0;rcases(show q<3∨(¬q<3∧b5=true)∨(¬q<3∧b5=false) by cases b5<;>simp<;>omega)with q3|⟨q3,hb⟩|⟨q3,hb⟩
        case inr.inr=>
         clear HX
         first
          |(exact absurd (Ai.out.symm.trans hb) (by decide))
          |go_wp2
           go_round
           case rel=>exact⟨n+1,by omega,by go_num,ad (fun m hm=>by
            by_cases e:m=n
            ·subst e;exact .inr (by simp[q3,hb])
            ·exact HA.out m (by omega))⟩
           case measure=>simp[intOf];omega
        all_goals
         try(exact absurd (Ai.out.symm.trans hb) (by decide))
        all_goals
         have Sb:ρ (cV s=none):=ad (HX.out (by simp[*]));clear HX;obtain⟨cs,sS,zu,uP,EX,EY,EZ,E0,E3⟩:=J8 HR.out.fO.cells HR.out.res HR.out.below;go_upto_region 21 with fail;go_wp2_with (first
          |(refine wpList_load_mid rfl 243 (.tmp 4) rfl (w.heap.size+1) 0 rfl cs _ sS.out underlying243 rfl EX.out ?_)
          |(refine wpList_store_mid rfl 243 (.tmp 2) (.tmp 98) rfl w.heap.size 0 cs.toArray rfl rfl E0.out E3.out uP.out ?_))
         exact sP (b:=false) EY.out EZ.out zu.out uP.out (by rfl) (by rfl) (fun _=>Sb.out) (fun h=>by cases h)
      case neg=>
       have hnl:n=os.length:=by omega
       subst hnl;clear hn ay;go_upto_region 22 with fail;rename_i K0 hK0;obtain⟨cs,cl,co,cr⟩:kf wr (w.heap.size+1):=HR.out.fO.cells;have uE:(prog.info? 243).map (·.size)=some cs.length:=by rw[cl];exact fk
       obtain⟨x4,sQ⟩:∃x,x=(f 4).isSome:=⟨_,rfl⟩;obtain⟨x6,hx6⟩:∃x,x=(f 6).isSome:=⟨_,rfl⟩;obtain⟨x7,uQ⟩:∃x,x=(f 7).isSome:=⟨_,rfl⟩;have d4:=HR.out.mB.cell 4 (by decide);have d6:=HR.out.mB.cell 6 (by decide);have d7:=HR.out.mB.cell 7 (by decide);rw[←sQ]at d4;rw[←hx6]at d6;rw[←uQ]at d7;refine Ab (xf w.heap.size (w.heap.size+2) cs x4 b5 x6 x7) (KT wr w.heap.size (w.heap.size+1) (w.heap.size+2) cs x4 b5 x6 x7) (by kernel_rfl) (by kernel_rfl) ?_ ?_ ?_;rotate_left 2
       ·exact⟨rfl,rfl,rfl,rfl,rfl,d4,(by rw[Ai.out];exact c5),d6,d7,cr,⟨bD,rfl,HR.out.res⟩,(aK.refl _ _).drew⟩
       ·intro i o ho a w' hI hG;have hi:i<18:=(Array.getElem?_eq_some_iff.1 ho).1;have gA:i=0∨i=1∨i=2∨i=3∨i=4∨i=5∨i=6∨i=7∨i=8∨i=9∨i=10∨i=11∨i=12∨i=13∨i=14∨i=15∨i=16∨i=17:=by omega
        rcases gA with rfl|rfl|rfl|rfl|rfl|rfl|rfl|rfl|rfl|rfl|rfl|rfl|rfl|rfl|rfl|rfl|rfl|rfl<;>obtain rfl:=Option.some.inj ho
        ·
         rw[if_pos (cb rfl)];exact aj (v:= .agg cs.toArray) (aL (by show(π 243 (a.eval (.tmp 4))).run _ _=_;rw[hI.s4];exact run_loadAt_mid w' (w.heap.size+1) 0 243 cs _ hI.fO underlying243 rfl uE)) (dT rfl (by decide) hI (show jS _ cs x4 b5 x6 x7 0 _ from rfl) rfl)
        ·
         rw[if_pos (cb rfl)];exact aj (v:= δ (some ⟨w.heap.size+2,7,none⟩)) (aL (by show(τ 286 (a.eval (.tmp 5)) (.int .i64 7)).run _ _=_;rw[hI.s5];exact rm _ 7 (by decide) w')) (dT rfl (by decide) hI (show jS _ cs x4 b5 x6 x7 1 _ from rfl) rfl)
        ·
         rw[if_pos (cb rfl)];have e:a.eval (.tmp 100)= δ (some ⟨w.heap.size+2,7,none⟩):=dL (hG ⟨1, .data⟩ (by simp) rfl) (by decide);exact aj (v:= .bool x7) (aL (by show(π 4 (a.eval (.tmp 100))).run _ _=_;rw[e];exact oJ hI.c7)) (dT rfl (by decide) hI (show jS _ cs x4 b5 x6 x7 2 _ from rfl) rfl)
        ·
         rw[if_pos (cb rfl)];have e:a.eval (.tmp 101)= .bool x7:=dL (hG ⟨2, .data⟩ (by simp) rfl) (by decide);exact aj (v:= .bool (!x7)) (Gp rfl e) (dT rfl (by decide) hI (show jS _ cs x4 b5 x6 x7 3 _ from rfl) rfl)
        ·
         rw[if_pos (cb rfl)];have e:a.eval (.tmp 102)= .bool (!x7):=dL (hG ⟨3, .data⟩ (by simp) rfl) (by decide);exact aj (v:= .bool (!x7)) (DC rfl e) (dT rfl (by decide) hI (show jS _ cs x4 b5 x6 x7 4 _ from rfl) rfl)
        ·
         have e:a.eval (.tmp 103)= .bool (!x7):=dL (hG ⟨4, .guard⟩ (by simp) rfl) (by decide);rw[lx (j:=4) (d:=103) (want:=false) rfl rfl rfl (by rw[hI.size];decide) e];split
         ·exact aj (v:= δ (some ⟨w.heap.size+2,4,none⟩)) (aL (by show(τ 286 (a.eval (.tmp 5)) (.int .i64 4)).run _ _=_;rw[hI.s5];exact rm _ 4 (by decide) w')) (dT rfl (by decide) hI (show jS _ cs x4 b5 x6 x7 5 _ from fun _=>rfl) rfl)
         ·rename_i qp;exact dT rfl (by decide) hI (show jS _ cs x4 b5 x6 x7 5 _ from fun h=>by rw[h]at qp;exact absurd rfl qp) rfl
        ·
         have e:a.eval (.tmp 103)= .bool (!x7):=dL (hG ⟨4, .guard⟩ (by simp) rfl) (by decide);have e5:x7=true→a.eval (.tmp 104)= δ (some ⟨w.heap.size+2,4,none⟩):=dL (hG ⟨5, .data⟩ (by simp) rfl) (by decide);rw[lx (j:=4) (d:=103) (want:=false) rfl rfl rfl (by rw[hI.size];decide) e];split
         ·rename_i hw;exact aj (v:= .bool x4) (aL (by show(π 4 (a.eval (.tmp 104))).run _ _=_;rw[e5 (Yg (Qe hw))];exact oJ hI.c4)) (dT rfl (by decide) hI (show jS _ cs x4 b5 x6 x7 6 _ from fun _=>rfl) rfl)
         ·rename_i qp;exact dT rfl (by decide) hI (show jS _ cs x4 b5 x6 x7 6 _ from fun h=>by rw[h]at qp;exact absurd rfl qp) rfl
        ·
         rw[if_pos (cb rfl)];have e:a.eval (.tmp 103)= .bool (!x7):=dL (hG ⟨4, .data⟩ (by simp) rfl) (by decide);have e2:x7=true→a.eval (.tmp 105)= .bool x4:=dL (hG ⟨6, .data⟩ (by simp) rfl) (by decide);cases hb:(!x7)with
         |true=>exact aj (v:= .bool true) (DE rfl (e.trans (by rw[hb]))) (dT rfl (by decide) hI (show jS _ cs x4 b5 x6 x7 7 _ from by show ο true= .bool ((!x7)||x4);rw[hb];rfl) rfl)
         |false=>exact aj (v:= .bool x4) (Gq rfl (e.trans (by rw[hb])) (e2 (Yg hb))) (dT rfl (by decide) hI (show jS _ cs x4 b5 x6 x7 7 _ from by show ο x4= .bool ((!x7)||x4);rw[hb];rfl) rfl)
        ·
         rw[if_pos (cb rfl)];have e:a.eval (.tmp 106)= .bool (!x7||x4):=dL (hG ⟨7, .data⟩ (by simp) rfl) (by decide);exact aj (v:= .bool (!x7||x4)) (DC rfl e) (dT rfl (by decide) hI (show jS _ cs x4 b5 x6 x7 8 _ from rfl) rfl)
        ·
         have e:a.eval (.tmp 107)= .bool (!x7||x4):=dL (hG ⟨8, .guard⟩ (by simp) rfl) (by decide);rw[lx (j:=8) (d:=107) (want:=false) rfl rfl rfl (by rw[hI.size];decide) e];split
         ·exact aj (v:= δ (some ⟨w.heap.size+2,5,none⟩)) (aL (by show(τ 286 (a.eval (.tmp 5)) (.int .i64 5)).run _ _=_;rw[hI.s5];exact rm _ 5 (by decide) w')) (dT rfl (by decide) hI (show jS _ cs x4 b5 x6 x7 9 _ from fun _=>rfl) rfl)
         ·rename_i qp;exact dT rfl (by decide) hI (show jS _ cs x4 b5 x6 x7 9 _ from fun h=>by rw[h]at qp;exact absurd rfl qp) rfl
        ·
         have e:a.eval (.tmp 107)= .bool (!x7||x4):=dL (hG ⟨8, .guard⟩ (by simp) rfl) (by decide);have e5:(!x7||x4)=false→a.eval (.tmp 108)= δ (some ⟨w.heap.size+2,5,none⟩):=dL (hG ⟨9, .data⟩ (by simp) rfl) (by decide);rw[lx (j:=8) (d:=107) (want:=false) rfl rfl rfl (by rw[hI.size];decide) e];split
         ·rename_i hw;exact aj (v:= .bool b5) (aL (by show(π 4 (a.eval (.tmp 108))).run _ _=_;rw[e5 (Qe hw)];exact oJ hI.c5)) (dT rfl (by decide) hI (show jS _ cs x4 b5 x6 x7 10 _ from fun _=>rfl) rfl)
         ·rename_i qp;exact dT rfl (by decide) hI (show jS _ cs x4 b5 x6 x7 10 _ from fun h=>by rw[h]at qp;exact absurd rfl qp) rfl
        ·
         rw[if_pos (cb rfl)];have e:a.eval (.tmp 107)= .bool (!x7||x4):=dL (hG ⟨8, .data⟩ (by simp) rfl) (by decide);have e2:(!x7||x4)=false→a.eval (.tmp 109)= .bool b5:=dL (hG ⟨10, .data⟩ (by simp) rfl) (by decide);cases hb:(!x7||x4)with
         |true=>exact aj (v:= .bool true) (DE rfl (e.trans (by rw[hb]))) (dT rfl (by decide) hI (show jS _ cs x4 b5 x6 x7 11 _ from by show ο true= .bool ((!x7||x4)||b5);rw[hb];rfl) rfl)
         |false=>exact aj (v:= .bool b5) (Gq rfl (e.trans (by rw[hb])) (e2 hb)) (dT rfl (by decide) hI (show jS _ cs x4 b5 x6 x7 11 _ from by show ο b5= .bool ((!x7||x4)||b5);rw[hb];rfl) rfl)
        ·
         rw[if_pos (cb rfl)];have e:a.eval (.tmp 110)= .bool (!x7||x4||b5):=dL (hG ⟨11, .data⟩ (by simp) rfl) (by decide);exact aj (v:= .bool (!x7||x4||b5)) (DC rfl e) (dT rfl (by decide) hI (show jS _ cs x4 b5 x6 x7 12 _ from rfl) rfl)
        ·
         have e:a.eval (.tmp 111)= .bool (!x7||x4||b5):=dL (hG ⟨12, .guard⟩ (by simp) rfl) (by decide);rw[lx (j:=12) (d:=111) (want:=false) rfl rfl rfl (by rw[hI.size];decide) e];split
         ·exact aj (v:= δ (some ⟨w.heap.size+2,6,none⟩)) (aL (by show(τ 286 (a.eval (.tmp 5)) (.int .i64 6)).run _ _=_;rw[hI.s5];exact rm _ 6 (by decide) w')) (dT rfl (by decide) hI (show jS _ cs x4 b5 x6 x7 13 _ from fun _=>rfl) rfl)
         ·rename_i qp;exact dT rfl (by decide) hI (show jS _ cs x4 b5 x6 x7 13 _ from fun h=>by rw[h]at qp;exact absurd rfl qp) rfl
        ·
         have e:a.eval (.tmp 111)= .bool (!x7||x4||b5):=dL (hG ⟨12, .guard⟩ (by simp) rfl) (by decide);have e5:(!x7||x4||b5)=false→a.eval (.tmp 112)= δ (some ⟨w.heap.size+2,6,none⟩):=dL (hG ⟨13, .data⟩ (by simp) rfl) (by decide);rw[lx (j:=12) (d:=111) (want:=false) rfl rfl rfl (by rw[hI.size];decide) e];split
         ·rename_i hw;exact aj (v:= .bool x6) (aL (by show(π 4 (a.eval (.tmp 112))).run _ _=_;rw[e5 (Qe hw)];exact oJ hI.c6)) (dT rfl (by decide) hI (show jS _ cs x4 b5 x6 x7 14 _ from fun _=>rfl) rfl)
         ·rename_i qp;exact dT rfl (by decide) hI (show jS _ cs x4 b5 x6 x7 14 _ from fun h=>by rw[h]at qp;exact absurd rfl qp) rfl
        ·
         rw[if_pos (cb rfl)];have e:a.eval (.tmp 111)= .bool (!x7||x4||b5):=dL (hG ⟨12, .data⟩ (by simp) rfl) (by decide);have e2:(!x7||x4||b5)=false→a.eval (.tmp 113)= .bool x6:=dL (hG ⟨14, .data⟩ (by simp) rfl) (by decide);cases hb:(!x7||x4||b5)with
         |true=>exact aj (v:= .bool true) (DE rfl (e.trans (by rw[hb]))) (dT rfl (by decide) hI (show jS _ cs x4 b5 x6 x7 15 _ from by show ο true= .bool ((!x7||x4||b5)||x6);rw[hb];rfl) rfl)
         |false=>exact aj (v:= .bool x6) (Gq rfl (e.trans (by rw[hb])) (e2 hb)) (dT rfl (by decide) hI (show jS _ cs x4 b5 x6 x7 15 _ from by show ο x6= .bool ((!x7||x4||b5)||x6);rw[hb];rfl) rfl)
        ·
         rw[if_pos (cb rfl)];have e:a.eval (.tmp 99)= .agg cs.toArray:=dL (hG ⟨0, .data⟩ (by simp) rfl) (by decide);obtain⟨ht,kh⟩:=ZX (ops:=_) hI cl (by omega) (by omega);exact rT (py (by show(Instr.storeAt 243 (a.eval (.tmp 2)) (a.eval (.tmp 99))).run _ _=_;rw[hI.s2,e];exact run_storeAt_mid w' w.heap.size 0 243 cs.toArray ht (by rw[θ];exact uE) (all_oneCell_toArray co))) kh
        ·
         rw[if_pos (cb rfl)];have e:a.eval (.tmp 114)= .bool (!x7||x4||b5||x6):=dL (hG ⟨15, .data⟩ (by simp) rfl) (by decide);exact aj (v:= .bool (!x7||x4||b5||x6)) (Qf rfl e) (Vu hI rfl rfl)
       ·intro a w' hI hG;refine hK0 _ _ ?_;have g16:=hG 16 (by decide);have g17:=hG 17 (by decide);unfold xf at g16 g17;rw[if_pos rfl]at g16;rw[if_neg (by decide),if_pos rfl]at g17;have Ev:agree f=(!x7||x4||b5||x6):=R8 H0.out H2.out H3.out sQ.symm H5b.out hx6.symm uQ.symm HQE.out Yi.out (by simp) (by rw[Ai.out];first|(simp;done)|simp_all) HA.out;have mO:=hI.s2;have nM:=hI.defers;have fA:Below w.heap.size w w':=HR.out.below.trans (hI.aQ.below HR.out.below.size (fun k hk=>by omega));have hrr:fJ w.heap.size w' (.agg cs.toArray) f:=Vx (N:=w.heap.size) (by omega) HR.out.fO cl co cr (fun g _ hg=>hI.aQ.block g (by omega) (by omega));obtain⟨tm,df⟩:=a;simp only[]at nM;subst nM;refine wp_ret ?_;exact R3 (b:=(!x7||x4||b5||x6)) g16 fA cl (all_oneCell_toArray co) mO g17 (fun hb=>Gk Ip.out (Ev.trans hb)) (fun hb=>⟨f,Vt Ip.out HR.out.ok (Ev.trans hb),hrr⟩)
  case pos=>
   obtain⟨l,hl⟩:∃l,P[k]?=some l:=⟨_,ι ay⟩;have cR:=HR.out.strs.2 k l hl;have nT:l.size≤1048575:=by have:=HM.out l (List.mem_of_getElem? hl);omega
   have zY:(P.map (·.data.toList))[k]?=some l.data.toList:=by rw[List.getElem?_map,hl];rfl
   have CQ:ρ (∀n,Calls prog 291 #[.slice (some ⟨2,0,none⟩) 9 9, ε l, .int .u8 61] (wr.drewN n) fun e w'=>e= .returned (Qg (jR aC 61 l.data.toList))∧∃q,w'=(wr.drewN n).drewN q):=ad fun n=>Iq 2 0 9 aC l 61 (wr.drewN n) (by omega) (by decide) (HR.out.names HNM.out hg);have E4:=ad zY;clear zY hl;cases kQ:jR aC 61 l.data.toList with
   |none=>
    have xk:ρ (∀n,Calls prog 291 #[.slice (some ⟨2,0,none⟩) 9 9, ε l, .int .u8 61] (wr.drewN n) fun e w'=>e= .returned (.tuple #[.int .i64 0, ε ⟨#[]⟩, .bool false])∧∃q,w'=(wr.drewN n).drewN q):=ad fun n=>by have:=CQ.out n;rw[kQ]at this;exact this
    have HX:ρ (cV s=none):=ad (Il (by rw[HT.out,Ik E4.out kQ]));clear kQ HT CQ;go_wp2;go_quiet ((go_at_call 291;exact Calls.quiet_of (xk.out _)));obtain⟨cs,sS,zu,uP,EX,EY,EZ,E0,E3⟩:=HR.out.fin nq;go_wp2_with (first
     |(refine wpList_load_mid rfl 243 (.tmp 4) rfl (w.heap.size+1) 0 rfl cs _ sS.out underlying243 rfl EX.out ?_)
     |(refine wpList_store_mid rfl 243 (.tmp 2) (.tmp 39) rfl w.heap.size 0 cs.toArray rfl rfl E0.out E3.out uP.out ?_))
    exact sP (b:=false) EY.out EZ.out zu.out uP.out (by rfl) (by rfl) (fun _=>HX.out) (fun h=>by cases h)
   |some q=>
    obtain⟨j,v⟩:=q;obtain⟨hj,OI⟩:=KR kQ;have sV:j<9:=hj;have xk:ρ (∀n,Calls prog 291 #[.slice (some ⟨2,0,none⟩) 9 9, ε l, .int .u8 61] (wr.drewN n) fun e w'=>e= .returned (.tuple #[.int .i64 j, ε ⟨v.toArray⟩, .bool true])∧∃q,w'=(wr.drewN n).drewN q):=ad fun n=>by have:=CQ.out n;rw[kQ]at this;exact this
    have OC:v.length≤1048575:=by
     have h1:l.data.toList.length=l.size:=by rw[Array.length_toList];rfl
     rw[OI,List.length_append,List.length_cons]at h1;omega
    have hjz:(j:Int)<9:=by omega
    clear CQ hj;cases hd:(f j).isSome with
    |true=>
     have HX:ρ (cV s=none):=ad (Il (by rw[HT.out,ER E4.out kQ hd]));have hh:wr.cell? ⟨w.heap.size+2,j,none⟩=some (.bool true):=by rw[←hd];exact HR.out.mB.cell j sV
     clear kQ HT hd OI;go_wp2;go_quiet ((go_at_call 291;exact Calls.quiet_of (xk.out _)));obtain⟨cs,sS,zu,uP,EX,EY,EZ,E0,E3⟩:=HR.out.fin nq;go_wp2_with (first
      |(refine wpList_load_mid rfl 243 (.tmp 4) rfl (w.heap.size+1) 0 rfl cs _ sS.out underlying243 rfl EX.out ?_)
      |(refine wpList_store_mid rfl 243 (.tmp 2) (.tmp 39) rfl w.heap.size 0 cs.toArray rfl rfl E0.out E3.out uP.out ?_))
     exact sP (b:=false) EY.out EZ.out zu.out uP.out (by rfl) (by rfl) (fun _=>HX.out) (fun h=>by cases h)
    |false=>
     have zw:f j=none:=by cases hq:f j<;>simp_all
     have xl:ρ (bZ aC 61 (lv 59 s) (fun _=>none)=bZ aC 61 ((P.map (·.data.toList)).drop (k+1)) (ji f j v)):=ad (by rw[HT.out,KQ E4.out kQ zw]);have Sc:ρ (l=⟨(aC.getD j []++61::v).toArray⟩):=ad (by rw[←OI,OJ]);clear kQ HT hd E4 OI;have HFJ:=ad zw;clear zw;have hh:wr.cell? ⟨w.heap.size+2,j,none⟩=some (.bool false):=by have:=HR.out.mB.cell j sV;rw[HFJ.out]at this;exact this
     have Sd:wr.frozen? ⟨w.heap.size+2,j,none⟩=false:=HR.out.mB.free j sV;go_wp2;go_quiet ((go_at_call 291;exact Calls.quiet_of (xk.out _)));have Aj:ρ (eX w w2.heap.size w.heap.size (w.heap.size+1) (w.heap.size+2) g P f (wr.drewN nq)):=ad (HR.out.drewN nq);have hh2:(wr.drewN nq).cell? ⟨w.heap.size+2,j,none⟩=some (.bool false):=hh;have ab0:(wr.drewN nq).frozen? ⟨w.heap.size+2,j,none⟩=false:=Sd;have sW:(wr.drewN nq).cell? ⟨g,k,none⟩=some (ε l):=cR;clear cR hh Sd HR xk;generalize wr.drewN nq=W at *
     clear wr;obtain⟨m1,m2,m3,m4,m5,m6⟩:=Aj.out.marked (v:=v) (κ _) (by omega) (by omega) (by omega) OH (by omega) sV;have c1:(W.setCell ⟨w.heap.size+2,j,none⟩ (.bool true)).cell? ⟨g,k,none⟩=some (ε l):=(χ _ _ _ _ (fun e=>by have:=congrArg Addr.block e;simp at this;omega)).trans sW;have c2:(W.setCell ⟨w.heap.size+2,j,none⟩ (.bool true)).cell? ⟨w.heap.size+1,10+j,none⟩=some (ε ⟨(nR j (f j)).toArray⟩):=(χ _ _ _ _ (fun e=>by have:=congrArg Addr.block e;simp at this)).trans (Aj.out.fO.text j sV);have c3:(W.setCell ⟨w.heap.size+2,j,none⟩ (.bool true)).frozen? ⟨w.heap.size+1,10+j,none⟩=false:=by rw[World.frozen?_setCell];exact Aj.out.fO.free (10+j) (by omega)
     go_wp2_with fail;rw[←Sc.out]at m1 m2 m3 m4 m5 m6;clear c1 c2 c3 hh2 ab0 sW;have ab1:=Aj.out.ok;clear Aj;generalize(W.setCell ⟨w.heap.size+2,j,none⟩ (.bool true)).setCell ⟨w.heap.size+1,10+j,none⟩ (ε l)=W2 at *
     have CP:=Vr w2.heap.size (w.heap.size+1) j f (ji f j v) v W2 OC m6 (by omega) sV HFJ.out m1;unfold KP at CP;have HOK:=ad ab1;have zg:=ad m2;have HM3:=ad m3;have HM4:=ad m4;have HM5:=ad m5;clear ab1 m1 m2 m3 m4 m5 Sc HFJ;cases hp:iw j v with
     |false=>
      rw[hp]at CP;have HX:ρ (cV s=none):=ad (Vs xl.out sV hp);have CP:=ad CP;clear hp xl;refine(CP.out).mono ?_;rintro e w5 ⟨rfl,qn,hc5,_⟩;have E5:=qn.size;have bk:Below w.heap.size w w5:=HM5.out.trans (qn.below (by omega) (fun k hk=>by omega));have zm:af w5 w.heap.size bD 243:=(qn.block w.heap.size (by omega) (by omega)).trans HM3.out;clear qn CP;obtain⟨cs,sS,zu,uP,EX,EY,EZ,E0,E3⟩:=J8 hc5 zm bk;go_wp2_with (first
       |(refine wpList_load_mid rfl 243 (.tmp 4) rfl (w.heap.size+1) 0 rfl cs _ sS.out underlying243 rfl EX.out ?_)
       |(refine wpList_store_mid rfl 243 (.tmp 2) (.tmp 54) rfl w.heap.size 0 cs.toArray rfl rfl E0.out E3.out uP.out ?_))
      exact sP (b:=false) EY.out EZ.out zu.out uP.out (by rfl) (by rfl) (fun _=>HX.out) (fun h=>by cases h)
     |true=>
      rw[hp]at CP;have CP:=ad CP;have HPO:=ad hp;clear hp;refine(CP.out).mono ?_;rintro e w5 ⟨rfl,qn,_,zm⟩;have HNX:ρ (eX w w2.heap.size w.heap.size (w.heap.size+1) (w.heap.size+2) g P (ji f j v) w5):=ad (eX.next (wr:=w) (κ _) (by omega) (by omega) (by omega) OH (by omega) zg.out HM3.out HM4.out HM5.out m6 qn (zm rfl) HOK.out sV HPO.out rfl);clear qn zm CP;go_wp2;go_roundw
      case rel=>exact⟨k+1,ji f j v,by omega,by go_num,HNX,xl⟩
      case measure=>simp[intOf];omega
end Go.Proofs.YthpndgcaoeokeaaGreatDoor
