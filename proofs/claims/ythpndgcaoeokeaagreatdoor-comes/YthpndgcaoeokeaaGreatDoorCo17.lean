import Derived.Test.YthpndgcaoeokeaaGreatDoorCo16
set_option maxRecDepth 100000
set_option maxHeartbeats 8000000
open Go.IntKind renaming i64→Z
open Go.Value renaming int→V,pointer→δ,slice→ε,string→ζ
open Go renaming World→η
open Go.World renaming cell?_of_block→θ,frozen?_of_block→κ,cell?_setCell_other→ν,setCell→π,cell?_setCell_same→ρ,frozen?_setCell→υ
open Go.Ending renaming returned→ι
open Go.RowKit.Below renaming heap_setCell→μ
open List renaming drop_eq_getElem_cons→ξ,getElem?_eq_getElem→τ,all_eq_true→φ
open Option renaming getD_some→ο
namespace Go.Proofs.YthpndgcaoeokeaaGreatDoor
open Tryz
open Go.RowKit
def X7 (o:Option (List UInt8)):Int:=match o with|none=>0|some v=>B9 v
def X8 (o:Option (List UInt8)):Int:=match o with|none=>1|some v=>cT v 100
def Yc (o:Option (List UInt8)):Int:=match o with|none=>0|some v=>cT v 1000
def Cg (o:Option (List UInt8)):Int:=match o with|none=> -1|some v=>if fs (ba v)=true then eI (ba v)else 0
def Ij (m:Int)(sg:Bool)(o:Option (List UInt8)):List Int:=match o with|none=>[]|some v=>(dX (ba v) m sg).getD []
def sM (o:Option (List UInt8)):List Int×List Int:=match o with|none=>([],[])|some v=>(jc (ba v)).getD ([],[])
def Yd (o:Option (List UInt8)):Int:=match o with|none=>0|some v=>gB v
def nR (k:Nat)(o:Option (List UInt8)):List UInt8:=match o with|none=>[]|some v=>aC.getD k []++61::v
def lC (B:Nat)(w:η)(v:Value)(zs:List Int):Prop:=w.ownsRow B 3 1 v zs.length (zs.map (Value.int Z))∧zs.length≤1048576
def RC (B:Nat)(w:η)(o:Option (List UInt8))(j:Nat)(v:Value):Prop:=match j with
 |0=>v= V Z (X7 o)
 |1=>v= V Z (X8 o)
 |2=>v= V Z (Yc o)
 |3=>v= V Z (Cg o)
 |4=>lC B w v (Ij 12 false o)
 |5=>lC B w v (Ij 31 true o)
 |6=>lC B w v (Ij 366 true o)
 |7=>lC B w v (sM o).1∧(o=none→v= ε none 0 0)
 |8=>lC B w v (sM o).2∧(o=none→v= ε none 0 0)
 |9=>v= V Z (Yd o)
 |_=>False
def pi (j:Nat):Nat:=match j with|6=>7|7=>6|8=>6|9=>8|j=>j
structure ee (B:Nat)(w:η)(p:Nat)(f t:Nat→Option (List UInt8)):Prop where
 cell:∀j,j<10→∃v,w.cell? ⟨p,j,none⟩=some v∧RC B w (f (pi j)) j v
 text:∀k,k<9→w.cell? ⟨p,10+k,none⟩=some (ζ ⟨(nR k (t k)).toArray⟩)
 free:∀j,j<19→w.frozen? ⟨p,j,none⟩=false
def ji (f:Nat→Option (List UInt8))(k:Nat)(v:List UInt8):Nat→Option (List UInt8):=fun j=>if j=k then some v else f j
def kf (w:η)(p:Nat):Prop:=∃cs:List Value,cs.length=19∧(∀x∈cs,x.oneCell'=true)∧w.rangeAt p 0 cs
theorem lC.on {B:Nat}{w w':η}{v:Value}{zs:List Int}(h:lC B w v zs)(hk:∀g,g<w.heap.size→B≤g→w'.heap[g]?=w.heap[g]?):lC B w' v zs:=⟨dY h.1 hk,h.2⟩
theorem lC.form {B:Nat}{w:η}{v:Value}{zs:List Int}(h:lC B w v zs):v.oneCell'=true:=by
 obtain⟨a,n,c,rfl⟩:=dF h.1;rfl
theorem RC.on {B:Nat}{w w':η}{o:Option (List UInt8)}{j:Nat}{v:Value}(h:RC B w o j v)(hk:∀g,g<w.heap.size→B≤g→w'.heap[g]?=w.heap[g]?):RC B w' o j v:=by
 unfold RC at h⊢;split at h
 ·exact h
 ·exact h
 ·exact h
 ·exact h
 ·exact h.on hk
 ·exact h.on hk
 ·exact h.on hk
 ·exact⟨h.1.on hk,h.2⟩
 ·exact⟨h.1.on hk,h.2⟩
 ·exact h
 ·exact h
theorem RC.one {B:Nat}{w:η}{o:Option (List UInt8)}{j:Nat}{v:Value}(h:RC B w o j v):v.oneCell'=true:=by
 unfold RC at h;split at h
 ·rw[h];rfl
 ·rw[h];rfl
 ·rw[h];rfl
 ·rw[h];rfl
 ·exact h.form
 ·exact h.form
 ·exact h.form
 ·exact h.1.form
 ·exact h.1.form
 ·rw[h];rfl
 ·exact h.elim
theorem yv {w:η}{p:Nat}(h:∀j,j<19→∃v,w.cell? ⟨p,j,none⟩=some v∧v.oneCell'=true):kf w p:=by
 have hc:∃c:Nat→Value,∀j,j<19→w.cell? ⟨p,j,none⟩=some (c j)∧(c j).oneCell'=true:=by
  refine⟨fun j=>(w.cell? ⟨p,j,none⟩).getD undef,fun j hj=>?_⟩;obtain⟨v,h1,h2⟩:=h j hj;simp only[h1,ο];exact⟨trivial,h2⟩
 obtain⟨c,hc⟩:=hc;refine⟨(List.range 19).map c,by simp,fun x hx=>?_,fun j v hv=>?_⟩
 ·obtain⟨j,hj,rfl⟩:=List.mem_map.1 hx;exact(hc j (List.mem_range.1 hj)).2
 ·rw[List.getElem?_map]at hv;obtain⟨i,hi,rfl⟩:=Option.map_eq_some_iff.1 hv;obtain⟨ay,he⟩:=List.getElem?_eq_some_iff.1 hi;rw[List.length_range]at ay;rw[List.getElem_range]at he;subst he;rw[Nat.zero_add];exact(hc _ ay).1
theorem kf.at{w:η}{p:Nat}(h:kf w p):∀j,j<19→∃v,w.cell? ⟨p,j,none⟩=some v∧v.oneCell'=true:=fun j hj=>by
 obtain⟨cs,h1,h2,h3⟩:=h;have:=h3 j cs[j] (τ (by omega));rw[Nat.zero_add]at this;exact⟨_,this,h2 _ (List.getElem_mem _)⟩
theorem ee.cells {B:Nat}{w:η}{p:Nat}{f t:Nat→Option (List UInt8)}(h:ee B w p f t):kf w p:=yv fun j hj=>by
 by_cases h10:j<10
 ·obtain⟨v,h1,h2⟩:=h.cell j h10;exact⟨v,h1,h2.one⟩
 ·have:=h.text (j - 10) (by omega);rw[show 10+(j - 10)=j from by omega]at this;exact⟨_,this,rfl⟩
theorem ee.on {B:Nat}{w w':η}{p:Nat}{f t:Nat→Option (List UInt8)}(h:ee B w p f t)(hk:∀g,g<w.heap.size→(B≤g∨g=p)→w'.heap[g]?=w.heap[g]?)(hp:p<w.heap.size):ee B w' p f t:=by
 have KO:=hk p hp (.inr rfl);refine⟨fun j hj=>?_,fun k h9=>?_,fun j hj=>?_⟩
 ·obtain⟨v,h1,h2⟩:=h.cell j hj;exact⟨v,(θ (a:=⟨p,j,none⟩) KO).trans h1,h2.on fun g hg hB=>hk g hg (.inl hB)⟩
 ·exact(θ (a:=⟨p,10+k,none⟩) KO).trans (h.text k h9)
 ·exact(κ (a:=⟨p,j,none⟩) KO).trans (h.free j hj)
theorem ee.other {B:Nat}{w:η}{p q k:Nat}{f t:Nat→Option (List UInt8)}{y:Value}(h:ee B w p f t)(hp:p<w.heap.size)(hq:q<B)(di:p≠q):ee B (w.setCell ⟨q,k,none⟩ y) p f t:=
 h.on (fun g _ ho=>μ _ _ _ _ (show g≠q by rcases ho with ho|rfl<;>omega)) hp
theorem ee.ZW {B:Nat}{w:η}{p k:Nat}{f t:Nat→Option (List UInt8)}{v:List UInt8}(h:ee B w p f t)(hp:p<B)(h9:k<9):
 ee B (w.setCell ⟨p,10+k,none⟩ (ζ ⟨(aC.getD k []++61::v).toArray⟩)) p f (ji t k v):=by
 refine⟨fun j hj=>?_,fun i hi=>?_,fun j hj=>by rw[υ];exact h.free j hj⟩
 ·obtain⟨x,h1,h2⟩:=h.cell j hj;refine⟨x,?_,h2.on fun g _ hB=>μ _ _ _ _ (show g≠p by omega)⟩;rw[ν _ _ _ _ (fun e=>by cases e;omega)];exact h1
 ·by_cases e:i=k
  ·subst e;rw[ρ _ _ _ (h.text i hi)];simp[ji,nR]
  ·rw[ν _ _ _ _ (fun e'=>e (by have:=congrArg Addr.off e';simp at this;omega)),h.text i hi];simp[ji,e]
theorem PS.aQ {p j:Nat}{y:Value}{w w':η}(h:PS p j y w w'):aK (fun k=>k=p) w w':=⟨h.sys.1,h.sys.2.1,h.sys.2.2,h.size,fun k hk hn=>h.keep k hk hn⟩
theorem DS.aQ {p:Nat}{w w':η}{v7 v8:Value}{ws os:List Int}(h:DS p w w' v7 v8 ws os):aK (fun k=>k=p) w w':=⟨h.sys.1,h.sys.2.1,h.sys.2.2,h.size,fun k hk hn=>h.keep k hk hn⟩
theorem mc (f:Nat→Option (List UInt8))(k:Nat)(v:List UInt8):ji f k v k=some v:=by simp[ji]
theorem xe {f:Nat→Option (List UInt8)}{k j:Nat}{v:List UInt8}(h:j≠k):ji f k v j=f j:=by simp[ji,h]
theorem ee.ps {B:Nat}{w w':η}{p j k:Nat}{y:Value}{f t:Nat→Option (List UInt8)}{v:List UInt8}(h:ee B w p f t)(hp:p<B)(nS:PS p j y w w')(hj:j<10)(hk:pi j=k)(di:∀i,i<10→i≠j→pi i≠k)
 (hy:RC B w' (some v) j y):ee B w' p (ji f k v) t:=by
 refine⟨fun i hi=>?_,fun i hi=>?_,fun i hi=>?_⟩
 ·by_cases e:i=j
  ·subst e;exact⟨y,nS.c,by rw[hk,mc];exact hy⟩
  ·obtain⟨x,h1,h2⟩:=h.cell i hi;exact⟨x,(nS.rest i e).1.trans h1,by rw[xe (di i hi e)];exact h2.on fun g hg hB=>nS.keep g hg (by omega)⟩
 ·exact(nS.rest _ (by omega)).1.trans (h.text i hi)
 ·by_cases e:i=j
  ·subst e;exact nS.fz.trans (h.free i hi)
  ·exact(nS.rest i e).2.trans (h.free i hi)
theorem PS.cells {p j:Nat}{y:Value}{w w':η}(h:PS p j y w w')(hc:kf w p)(hy:y.oneCell'=true):kf w' p:=yv fun i hi=>by
 by_cases e:i=j
 ·subst e;exact⟨y,h.c,hy⟩
 ·obtain⟨v,h1,h2⟩:=hc.at i hi;exact⟨v,(h.rest i e).1.trans h1,h2⟩
theorem DS.cells {p:Nat}{w w':η}{v7 v8:Value}{ws os:List Int}(h:DS p w w' v7 v8 ws os)(hc:kf w p):kf w' p:=yv fun i hi=>by
 by_cases e7:i=7
 ·subst e7;obtain⟨a,n,c,rfl⟩:=dF h.r7;exact⟨_,h.c7,rfl⟩
 by_cases e8:i=8
 ·subst e8;obtain⟨a,n,c,rfl⟩:=dF h.r8;exact⟨_,h.c8,rfl⟩
 ·obtain⟨v,h1,h2⟩:=hc.at i hi;exact⟨v,(h.rest i e7 e8).1.trans h1,h2⟩
theorem ee.ds {B:Nat}{w w':η}{p:Nat}{v7 v8:Value}{ws os:List Int}{f t:Nat→Option (List UInt8)}{v:List UInt8}(h:ee B w p f t)(hp:p<B)(hB:B≤w.heap.size)(hd:DS p w w' v7 v8 ws os)
 (hv:jc (ba v)=some (ws,os))(hl:ws.length≤1048576)(oB:os.length≤1048576):ee B w' p (ji f 6 v) t:=by
 refine⟨fun i hi=>?_,fun i hi=>?_,fun i hi=>?_⟩
 ·by_cases e7:i=7
  ·subst e7;refine⟨v7,hd.c7,?_⟩;rw[show pi 7=6 from rfl,mc];have e:sM (some v)=(ws,os):=by simp only[sM,hv,ο]
   exact⟨by rw[e];exact⟨eV hd.r7 hB,hl⟩,fun h=>by cases h⟩
  by_cases e8:i=8
  ·subst e8;refine⟨v8,hd.c8,?_⟩;rw[show pi 8=6 from rfl,mc];have e:sM (some v)=(ws,os):=by simp only[sM,hv,ο]
   exact⟨by rw[e];exact⟨eV hd.r8 hB,oB⟩,fun h=>by cases h⟩
  obtain⟨x,h1,h2⟩:=h.cell i hi;have di:pi i≠6:=by
   have:i=0∨i=1∨i=2∨i=3∨i=4∨i=5∨i=6∨i=9:=by omega
   rcases this with rfl|rfl|rfl|rfl|rfl|rfl|rfl|rfl<;>decide
  exact⟨x,(hd.rest i e7 e8).1.trans h1,by rw[xe di];exact h2.on fun g hg hB=>hd.keep g hg (by omega)⟩
 ·exact(hd.rest _ (by omega) (by omega)).1.trans (h.text i hi)
 ·by_cases e7:i=7
  ·subst e7;exact hd.f7
  by_cases e8:i=8
  ·subst e8;exact hd.f8
  exact(hd.rest i e7 e8).2.trans (h.free i hi)
theorem uL {j:Nat}(hj:j<10)(h7:j≠7)(h8:j≠8):∀i,i<10→i≠j→pi i≠pi j:=by
 intro i hi Xz;have h1:i=0∨i=1∨i=2∨i=3∨i=4∨i=5∨i=6∨i=7∨i=8∨i=9:=by omega
 have h2:j=0∨j=1∨j=2∨j=3∨j=4∨j=5∨j=6∨j=9:=by omega
 rcases h1 with rfl|rfl|rfl|rfl|rfl|rfl|rfl|rfl|rfl|rfl<;>rcases h2 with rfl|rfl|rfl|rfl|rfl|rfl|rfl|rfl<;>first|exact absurd rfl Xz|decide
theorem OD:∀{P:List ByteArray} {acc q:List Int×List Int},nO P acc=some q→q.1.length=acc.1.length+P.length∧q.2.length=acc.2.length+P.length
 |[],acc,q,h=>by cases h;simp
 |l::r,acc,q,h=>by
  rw[nO]at h;cases hd:qI l with
  |none=>rw[hd]at h;cases h
  |some z=>
   rw[hd]at h;have:=OD (P:=r) h;simp at this⊢;omega
theorem RY {s:ByteArray}{q:List Int×List Int}(h:jc s=some q):q.1.length≤20∧q.2.length≤20:=by
 unfold jc at h;split at h
 ·have:=OD h;simp at this;omega
 ·cases h
theorem abM (p:Nat)(s:ByteArray)(u:Value)(w:η)(hs:s.size≤1048575)(hp:p<w.heap.size)(hc:w.cell? ⟨p,4,none⟩=some u)(hf:w.frozen? ⟨p,4,none⟩=false):
 Calls prog 293 #[δ (some ⟨p,0,none⟩), V Z 4, ζ s] w fun e w'=>∃v b,e= .returned (.bool b)∧PS p 4 v w w'∧v.oneCell'=true∧(b=false→dX s 12 false=none)∧(b=true→∃zs,dX s 12 false=some zs∧w'.ownsRow w.heap.size 3 1 v zs.length (zs.map (Value.int Z))∧zs.length≤20):=by
 have CQ:=ad (DA s 12 false w hs);go_enter func293,ntmps293;go_wp2_with (go_at_call 332;refine(CQ.out).mono ?_;rintro e w2 ⟨va,vn,vc,b,rfl,az,fG,jm⟩;have mS:=(az.cell (p:=⟨p,4,none⟩) hp).trans hc;have hf2:=(κ (a:=⟨p,4,none⟩) (az.block p hp)).trans hf;have xa:=ad fG;have DB:=ad jm;clear fG jm);go_ret;exact⟨_,b,rfl,PS.of hp az hc,rfl,xa.out,fun h=>by obtain⟨zs,h1,h2,h3⟩:=DB.out h;exact⟨zs,h1,Gi h2 hp,h3⟩⟩
theorem abO (p:Nat)(s:ByteArray)(u:Value)(w:η)(hs:s.size≤1048575)(hp:p<w.heap.size)(hc:w.cell? ⟨p,5,none⟩=some u)(hf:w.frozen? ⟨p,5,none⟩=false):
 Calls prog 293 #[δ (some ⟨p,0,none⟩), V Z 5, ζ s] w fun e w'=>∃v b,e= .returned (.bool b)∧PS p 5 v w w'∧v.oneCell'=true∧(b=false→dX s 31 true=none)∧(b=true→∃zs,dX s 31 true=some zs∧w'.ownsRow w.heap.size 3 1 v zs.length (zs.map (Value.int Z))∧zs.length≤20):=by
 have CQ:=ad (DA s 31 true w hs);go_enter func293,ntmps293;go_wp2_with (go_at_call 332;refine(CQ.out).mono ?_;rintro e w2 ⟨va,vn,vc,b,rfl,az,fG,jm⟩;have mS:=(az.cell (p:=⟨p,5,none⟩) hp).trans hc;have hf2:=(κ (a:=⟨p,5,none⟩) (az.block p hp)).trans hf;have xa:=ad fG;have DB:=ad jm;clear fG jm);go_ret;exact⟨_,b,rfl,PS.of hp az hc,rfl,xa.out,fun h=>by obtain⟨zs,h1,h2,h3⟩:=DB.out h;exact⟨zs,h1,Gi h2 hp,h3⟩⟩
theorem abP (p:Nat)(s:ByteArray)(u:Value)(w:η)(hs:s.size≤1048575)(hp:p<w.heap.size)(hc:w.cell? ⟨p,6,none⟩=some u)(hf:w.frozen? ⟨p,6,none⟩=false):
 Calls prog 293 #[δ (some ⟨p,0,none⟩), V Z 7, ζ s] w fun e w'=>∃v b,e= .returned (.bool b)∧PS p 6 v w w'∧v.oneCell'=true∧(b=false→dX s 366 true=none)∧(b=true→∃zs,dX s 366 true=some zs∧w'.ownsRow w.heap.size 3 1 v zs.length (zs.map (Value.int Z))∧zs.length≤20):=by
 have CQ:=ad (DA s 366 true w hs);go_enter func293,ntmps293;go_wp2_with (go_at_call 332;refine(CQ.out).mono ?_;rintro e w2 ⟨va,vn,vc,b,rfl,az,fG,jm⟩;have mS:=(az.cell (p:=⟨p,6,none⟩) hp).trans hc;have hf2:=(κ (a:=⟨p,6,none⟩) (az.block p hp)).trans hf;have xa:=ad fG;have DB:=ad jm;clear fG jm);go_ret;exact⟨_,b,rfl,PS.of hp az hc,rfl,xa.out,fun h=>by obtain⟨zs,h1,h2,h3⟩:=DB.out h;exact⟨zs,h1,Gi h2 hp,h3⟩⟩
def KP (B:Nat)(w:η)(p k:Nat)(f t:Nat→Option (List UInt8))(v:List UInt8)(e:Ending)(w':η):Prop:=
 e= .returned (.bool (iw k v))∧aK (fun j=>j=p) w w'∧kf w' p∧(iw k v=true→ee B w' p (ji f k v) t)
theorem Vr (B p k:Nat)(f t:Nat→Option (List UInt8))(v:List UInt8)(w:η)(hv:v.length≤1048575)(hB:B≤w.heap.size)(hp:p<B)(hk:k<9)(OE:f k=none)(h:ee B w p f t):
 Calls prog 293 #[δ (some ⟨p,0,none⟩), V Z k, ζ (ba v)] w (KP B w p k f t v):=by
 have hs:(ba v).size=v.length:=by unfold ba;simp[ByteArray.size]
 have qX:(ba v).size≤maxLen:=by rw[hs];unfold maxLen;omega
 have mO:(ba v).size≤1048575:=by omega
 have EP:p<w.heap.size:=by omega
 have hc:=h.cells;have cell:∀j,j<10→∃u,w.cell? ⟨p,j,none⟩=some u:=fun j hj=>by obtain⟨u,h1,_⟩:=h.cell j hj;exact⟨u,h1⟩
 have aeG:k=0∨k=1∨k=2∨k=3∨k=4∨k=5∨k=6∨k=7∨k=8:=by omega
 rcases aeG with rfl|rfl|rfl|rfl|rfl|rfl|rfl|rfl|rfl
 ·obtain⟨u,hu⟩:=cell 0 (by decide);refine(aeH p (ba v) u w EP hu (h.free 0 (by decide))).mono fun e w' ⟨h1,h2⟩=>⟨h1,h2.aQ,h2.cells hc rfl,fun _=>h.ps hp h2 (by decide) rfl (uL (j:=0) (by decide) (by decide) (by decide)) rfl⟩
 ·obtain⟨u,hu⟩:=cell 1 (by decide);refine(aeI p (ba v) u w qX EP hu (h.free 1 (by decide))).mono fun e w' ⟨h1,h2⟩=>⟨h1,h2.aQ,h2.cells hc rfl,fun _=>h.ps hp h2 (by decide) rfl (uL (j:=1) (by decide) (by decide) (by decide)) rfl⟩
 ·obtain⟨u,hu⟩:=cell 2 (by decide);refine(aeJ p (ba v) u w qX EP hu (h.free 2 (by decide))).mono fun e w' ⟨h1,h2⟩=>⟨h1,h2.aQ,h2.cells hc rfl,fun _=>h.ps hp h2 (by decide) rfl (uL (j:=2) (by decide) (by decide) (by decide)) rfl⟩
 ·obtain⟨u,hu⟩:=cell 3 (by decide);refine(aeK p (ba v) u w qX EP hu (h.free 3 (by decide))).mono fun e w' ⟨h1,h2⟩=>⟨h1,h2.aQ,h2.cells hc rfl,fun _=>h.ps hp h2 (by decide) rfl (uL (j:=3) (by decide) (by decide) (by decide)) rfl⟩
 ·obtain⟨u,hu⟩:=cell 4 (by decide);refine(abM p (ba v) u w mO EP hu (h.free 4 (by decide))).mono ?_;rintro e w' ⟨y,b,rfl,h2,hy,fG,jm⟩;cases b with
  |false=>exact⟨by show _=ι (.bool (dX (ba v) 12 false).isSome);rw[fG rfl];rfl,h2.aQ,h2.cells hc hy,fun ho=>by change (dX (ba v) 12 false).isSome=true at ho;rw[fG rfl]at ho;cases ho⟩
  |true=>
   obtain⟨zs,z1,z2,z3⟩:=jm rfl;have ho:lC B w' y zs:=⟨eV z2 hB,by omega⟩;exact⟨by show _=ι (.bool (dX (ba v) 12 false).isSome);rw[z1];rfl,h2.aQ,h2.cells hc hy,fun _=>h.ps hp h2 (by decide) rfl (uL (j:=4) (by decide) (by decide) (by decide)) (by show lC B w' y ((dX (ba v) 12 false).getD []);rw[z1];exact ho)⟩
 ·obtain⟨u,hu⟩:=cell 5 (by decide);refine(abO p (ba v) u w mO EP hu (h.free 5 (by decide))).mono ?_;rintro e w' ⟨y,b,rfl,h2,hy,fG,jm⟩;cases b with
  |false=>exact⟨by show _=ι (.bool (dX (ba v) 31 true).isSome);rw[fG rfl];rfl,h2.aQ,h2.cells hc hy,fun ho=>by change (dX (ba v) 31 true).isSome=true at ho;rw[fG rfl]at ho;cases ho⟩
  |true=>
   obtain⟨zs,z1,z2,z3⟩:=jm rfl;have ho:lC B w' y zs:=⟨eV z2 hB,by omega⟩;exact⟨by show _=ι (.bool (dX (ba v) 31 true).isSome);rw[z1];rfl,h2.aQ,h2.cells hc hy,fun _=>h.ps hp h2 (by decide) rfl (uL (j:=5) (by decide) (by decide) (by decide)) (by show lC B w' y ((dX (ba v) 31 true).getD []);rw[z1];exact ho)⟩
 ·obtain⟨u7,hu7,hr7⟩:=h.cell 7 (by decide);obtain⟨u8,hu8,KB⟩:=h.cell 8 (by decide);obtain rfl:=hr7.2 OE;obtain rfl:=KB.2 OE;refine(aeL p (ba v) w mO EP hu7 hu8 (h.free 7 (by decide)) (h.free 8 (by decide))).mono ?_;rintro e w' ⟨b,v7,v8,ws,os,rfl,hd,fG,jm⟩;cases b with
  |false=>exact⟨by show _=ι (.bool (jc (ba v)).isSome);rw[fG rfl];rfl,hd.aQ,hd.cells hc,fun ho=>by change (jc (ba v)).isSome=true at ho;rw[fG rfl]at ho;cases ho⟩
  |true=>
   have z1:=jm rfl;have z2:=RY z1;exact⟨by show _=ι (.bool (jc (ba v)).isSome);rw[z1];rfl,hd.aQ,hd.cells hc,fun _=>h.ds hp hB hd z1 (by simp at z2;omega) (by simp at z2;omega)⟩
 ·obtain⟨u,hu⟩:=cell 6 (by decide);refine(abP p (ba v) u w mO EP hu (h.free 6 (by decide))).mono ?_;rintro e w' ⟨y,b,rfl,h2,hy,fG,jm⟩;cases b with
  |false=>exact⟨by show _=ι (.bool (dX (ba v) 366 true).isSome);rw[fG rfl];rfl,h2.aQ,h2.cells hc hy,fun ho=>by change (dX (ba v) 366 true).isSome=true at ho;rw[fG rfl]at ho;cases ho⟩
  |true=>
   obtain⟨zs,z1,z2,z3⟩:=jm rfl;have ho:lC B w' y zs:=⟨eV z2 hB,by omega⟩;exact⟨by show _=ι (.bool (dX (ba v) 366 true).isSome);rw[z1];rfl,h2.aQ,h2.cells hc hy,fun _=>h.ps hp h2 (by decide) rfl (uL (j:=6) (by decide) (by decide) (by decide)) (by show lC B w' y ((dX (ba v) 366 true).getD []);rw[z1];exact ho)⟩
 ·obtain⟨u,hu⟩:=cell 9 (by decide);refine(aeM p (ba v) u w EP hu (h.free 9 (by decide))).mono fun e w' ⟨h1,h2⟩=>⟨h1,h2.aQ,h2.cells hc rfl,fun _=>h.ps hp h2 (by decide) rfl (uL (j:=9) (by decide) (by decide) (by decide)) rfl⟩
theorem KQ {ns P:List (List UInt8)}{c:UInt8}{k j:Nat}{l v:List UInt8}{f:Nat→Option (List UInt8)}(h:P[k]?=some l)(hp:jR ns c l=some (j,v))(hf:f j=none):bZ ns c (P.drop k) f=bZ ns c (P.drop (k+1)) (ji f j v):=by
 obtain⟨hk,he⟩:=List.getElem?_eq_some_iff.1 h;rw[ξ hk,he,bZ,hp];simp only[hf];rfl
theorem Ik {ns P:List (List UInt8)}{c:UInt8}{k:Nat}{l:List UInt8}{f:Nat→Option (List UInt8)}(h:P[k]?=some l)(hp:jR ns c l=none):bZ ns c (P.drop k) f=none:=by
 obtain⟨hk,he⟩:=List.getElem?_eq_some_iff.1 h;rw[ξ hk,he,bZ,hp]
theorem ER {ns P:List (List UInt8)}{c:UInt8}{k j:Nat}{l v:List UInt8}{f:Nat→Option (List UInt8)}(h:P[k]?=some l)(hp:jR ns c l=some (j,v))(hf:(f j).isSome=true):bZ ns c (P.drop k) f=none:=by
 obtain⟨hk,he⟩:=List.getElem?_eq_some_iff.1 h;rw[ξ hk,he,bZ,hp];simp only[hf,if_true]
theorem ES {ns:List (List UInt8)}{c:UInt8}:∀{P:List (List UInt8)} {f F:Nat→Option (List UInt8)} {j:Nat} {v:List UInt8},bZ ns c P f=some F→f j=some v→F j=some v
 |[],f,F,j,v,h,hf=>by rw[bZ]at h;cases h;exact hf
 |l::r,f,F,j,v,h,hf=>by
  rw[bZ]at h;cases hp:jR ns c l with
  |none=>rw[hp]at h;cases h
  |some q=>
   obtain⟨k,x⟩:=q;rw[hp]at h;simp only[]at h;split at h
   ·cases h
   ·rename_i hn;refine ES h ?_;by_cases e:j=k
    ·subst e;rw[hf]at hn;simp at hn
    ·simp[e,hf]
theorem OF {n:List UInt8}:∀{ns:List (List UInt8)} {k:Nat},idx ns n=some k→k<ns.length∧ns.getD k []=n
 |[],k,h=>by cases h
 |a::r,k,h=>by
  rw[idx]at h;split at h
  ·rename_i e;cases h;exact⟨by simp,by simpa using e⟩
  ·obtain⟨i,hi,rfl⟩:=Option.map_eq_some_iff.1 h;have:=OF hi;exact⟨by simp;exact this.1,by simpa using this.2⟩
theorem KR {ns:List (List UInt8)}{c:UInt8}{l v:List UInt8}{j:Nat}(h:jR ns c l=some (j,v)):j<ns.length∧l=ns.getD j []++c::v:=by
 unfold jR at h;cases hs:sp c l with
 |none=>rw[hs]at h;cases h
 |some q=>
  obtain⟨n,x⟩:=q;rw[hs]at h;simp only[]at h;obtain⟨k,hk,he⟩:=Option.map_eq_some_iff.1 h;cases he;have h1:=OF hk;exact⟨h1.1,by rw[h1.2];exact(jq hs).1⟩
structure mT (w:η)(g:Nat)(f:Nat→Option (List UInt8)):Prop where
 cell:∀k,k<9→w.cell? ⟨g,k,none⟩=some (.bool (f k).isSome)
 free:∀k,k<9→w.frozen? ⟨g,k,none⟩=false
theorem mT.on {w w':η}{g:Nat}{f:Nat→Option (List UInt8)}(h:mT w g f)(hk:w'.heap[g]?=w.heap[g]?):mT w' g f:=
 ⟨fun k h9=>(θ (a:=⟨g,k,none⟩) hk).trans (h.cell k h9),fun k h9=>(κ (a:=⟨g,k,none⟩) hk).trans (h.free k h9)⟩
theorem mT.put {w:η}{g j:Nat}{f:Nat→Option (List UInt8)}{v:List UInt8}(h:mT w g f)(hj:j<9):mT (w.setCell ⟨g,j,none⟩ (.bool true)) g (ji f j v):=by
 refine⟨fun k h9=>?_,fun k h9=>by rw[υ];exact h.free k h9⟩;by_cases e:k=j
 ·subst e;rw[ρ _ _ _ (h.cell k h9),mc];rfl
 ·rw[ν _ _ _ _ (fun e'=>e (congrArg Addr.off e').symm),xe e];exact h.cell k h9
def bD:List Value:=[V Z 0, V Z 0, V Z 0, V Z 0, ε none 0 0, ε none 0 0, ε none 0 0, ε none 0 0, ε none 0 0, V Z 0, ζ ⟨#[]⟩, ζ ⟨#[]⟩, ζ ⟨#[]⟩, ζ ⟨#[]⟩, ζ ⟨#[]⟩, ζ ⟨#[]⟩, ζ ⟨#[]⟩, ζ ⟨#[]⟩, ζ ⟨#[]⟩]
def mZ:List Value:=[V Z 0, V Z 1, V Z 0, V Z (-1), ε none 0 0, ε none 0 0, ε none 0 0, ε none 0 0, ε none 0 0, V Z 0, ζ ⟨#[]⟩, ζ ⟨#[]⟩, ζ ⟨#[]⟩, ζ ⟨#[]⟩, ζ ⟨#[]⟩, ζ ⟨#[]⟩, ζ ⟨#[]⟩, ζ ⟨#[]⟩, ζ ⟨#[]⟩]
def Ah:List Value:=[.bool false, .bool false, .bool false, .bool false, .bool false, .bool false, .bool false, .bool false, .bool false]
def eF:Nat→Option (List UInt8):=fun _=>none
theorem sN (B:Nat)(w:η):lC B w (ε none 0 0) []:=⟨World.ownsRow_nil _ _ _ _,by simp⟩
theorem Qc {w:η}{p B:Nat}(h:af w p mZ 243):ee B w p eF eF:=by
 refine⟨fun j hj=>?_,fun k hk=>?_,fun j _=>h.free⟩
 ·have:j=0∨j=1∨j=2∨j=3∨j=4∨j=5∨j=6∨j=7∨j=8∨j=9:=by omega
  rcases this with rfl|rfl|rfl|rfl|rfl|rfl|rfl|rfl|rfl|rfl
  ·exact⟨_,h.cell (k:=0) rfl,rfl⟩
  ·exact⟨_,h.cell (k:=1) rfl,rfl⟩
  ·exact⟨_,h.cell (k:=2) rfl,rfl⟩
  ·exact⟨_,h.cell (k:=3) rfl,rfl⟩
  ·exact⟨_,h.cell (k:=4) rfl,sN _ _⟩
  ·exact⟨_,h.cell (k:=5) rfl,sN _ _⟩
  ·exact⟨_,h.cell (k:=6) rfl,sN _ _⟩
  ·exact⟨_,h.cell (k:=7) rfl,sN _ _,fun _=>rfl⟩
  ·exact⟨_,h.cell (k:=8) rfl,sN _ _,fun _=>rfl⟩
  ·exact⟨_,h.cell (k:=9) rfl,rfl⟩
 ·have:k=0∨k=1∨k=2∨k=3∨k=4∨k=5∨k=6∨k=7∨k=8:=by omega
  rcases this with rfl|rfl|rfl|rfl|rfl|rfl|rfl|rfl|rfl
  ·exact h.cell (k:=10) rfl
  ·exact h.cell (k:=11) rfl
  ·exact h.cell (k:=12) rfl
  ·exact h.cell (k:=13) rfl
  ·exact h.cell (k:=14) rfl
  ·exact h.cell (k:=15) rfl
  ·exact h.cell (k:=16) rfl
  ·exact h.cell (k:=17) rfl
  ·exact h.cell (k:=18) rfl
theorem Qd {w:η}{g:Nat}{t:TypeId}(h:af w g Ah t):mT w g eF:=by
 refine⟨fun k hk=>?_,fun k _=>h.free⟩;have:k=0∨k=1∨k=2∨k=3∨k=4∨k=5∨k=6∨k=7∨k=8:=by omega
 rcases this with rfl|rfl|rfl|rfl|rfl|rfl|rfl|rfl|rfl
 ·exact h.cell (k:=0) rfl
 ·exact h.cell (k:=1) rfl
 ·exact h.cell (k:=2) rfl
 ·exact h.cell (k:=3) rfl
 ·exact h.cell (k:=4) rfl
 ·exact h.cell (k:=5) rfl
 ·exact h.cell (k:=6) rfl
 ·exact h.cell (k:=7) rfl
 ·exact h.cell (k:=8) rfl
structure eX (w1:η)(B R p hv g:Nat)(P:List ByteArray)(f:Nat→Option (List UInt8))(wr:η):Prop where
 fO:ee B wr p f f
 mB:mT wr hv f
 res:af wr R bD 243
 strs:sO wr g P
 below:Below R w1 wr
 size:B≤wr.heap.size
 ok:∀j v,f j=some v→j<9∧iw j v=true
def fJ (N:Nat)(w:η)(v:Value)(F:Nat→Option (List UInt8)):Prop:=
 ∃cs:List Value,v= .agg cs.toArray∧cs.length=19∧(∀x∈cs,x.oneCell'=true)∧(∀j,j<10→∃x B,N≤B∧cs[j]?=some x∧RC B w (F (pi j)) j x)∧∀k,k<9→cs[10+k]?=some (ζ ⟨(nR k (F k)).toArray⟩)
def Gj (s:List UInt8)(w:η)(e:Ending)(w':η):Prop:=
 Below w.heap.size w w'∧∃(cs:List Value) (b:Bool),e= .returned (.tuple #[.agg cs.toArray, .bool b])∧cs.length=19∧(∀x∈cs,x.oneCell'=true)∧(b=false→cV s=none)∧(b=true→∃F,cV s=some F∧fJ w.heap.size w' (.agg cs.toArray) F)
theorem Vs {s:List UInt8}{P:List (List UInt8)}{f:Nat→Option (List UInt8)}{j:Nat}{v:List UInt8}(h:bZ aC 61 (lv 59 s) (fun _=>none)=bZ aC 61 P (ji f j v))(hj:j<9)(hb:iw j v=false):cV s=none:=by
 unfold cV;rw[h];cases hF:bZ aC 61 P (ji f j v)with
 |none=>rfl
 |some F=>
  have hk:=ES hF (mc f j v);simp only[];rw[if_neg];intro hc;rw[Bool.and_eq_true]at hc;have:=hc.1;unfold sI at this;rw[φ]at this;have:=this j (List.mem_range.2 hj);rw[hk]at this;simp only[]at this;rw[hb]at this;cases this
theorem Il {s:List UInt8}(h:bZ aC 61 (lv 59 s) (fun _=>none)=none):cV s=none:=by
 unfold cV;rw[h]
theorem Gk {s:List UInt8}{f:Nat→Option (List UInt8)}(h:bZ aC 61 (lv 59 s) (fun _=>none)=some f)(ha:agree f=false):cV s=none:=by
 unfold cV;rw[h];simp only[];rw[ha,Bool.and_false];rfl
theorem Vt {s:List UInt8}{f:Nat→Option (List UInt8)}(h:bZ aC 61 (lv 59 s) (fun _=>none)=some f)(qU:∀j v,f j=some v→j<9∧iw j v=true)(ha:agree f=true):cV s=some f:=by
 unfold cV;rw[h];simp only[];have:sI f=true:=by
  unfold sI;rw[φ];intro k _;cases hf:f k with
  |none=>rfl
  |some v=>exact(qU k v hf).2
 rw[ha,this];rfl
theorem eX.drewN {w1 wr:η}{B R p hv g:Nat}{P:List ByteArray}{f:Nat→Option (List UInt8)}(h:eX w1 B R p hv g P f wr)(n:Nat):eX w1 B R p hv g P f (wr.drewN n):=
 ⟨⟨h.fO.cell,h.fO.text,h.fO.free⟩,⟨h.mB.cell,h.mB.free⟩,h.res,h.strs,below_drewN h.below n,h.size,h.ok⟩
theorem fk:(prog.info? 243).map (·.size)=some 19:=by kernel_rfl
theorem Ch {w:η}{R:Nat}{t:TypeId}{n:Nat}(h:af w R bD t)(hn:n=19):w.there R 0 n:=fun j hj=>by
 have hl:bD.length=19:=rfl;rw[Nat.zero_add];exact⟨by rw[h.cell (τ (show j<bD.length by omega))];rfl,h.free⟩
theorem js (b:Nat):∀(vs:List Value) (o:Nat) (w:η),(w.setCells b o vs).heap.size=w.heap.size
 |[],_,_=>rfl
 |v::r,o,w=>by rw[World.setCells,js b r];exact cW _ _ _
theorem Gl {o:Oper}(ho:o.op= .alloc 243)(a:Act)(w:η):(execOp a.eval o).run prog w= .ok (.value (δ (some ⟨w.heap.size,0,none⟩))) (w.alloc (.cells bD.toArray 243)):=by
 obtain⟨_,_,_,_,_,_⟩:=o;simp only[]at ho;subst ho;kernel_rfl
theorem Gm {o:Oper}(ho:o.op= .alloc 286)(a:Act)(w:η):(execOp a.eval o).run prog w= .ok (.value (δ (some ⟨w.heap.size,0,none⟩))) (w.alloc (.cells Ah.toArray 286)):=by
 obtain⟨_,_,_,_,_,_⟩:=o;simp only[]at ho;subst ho;kernel_rfl
theorem Gn {o:Oper}(ho:o.op= .build 243 #[(1, .const (V Z 1)),(3, .const (V Z (-1)))])(a:Act)(w:η):(execOp a.eval o).run prog w= .ok (.value (.agg mZ.toArray)) w:=by
 obtain⟨_,_,_,_,_,_⟩:=o;simp only[]at ho;subst ho;kernel_rfl
theorem RZ:mZ.toArray.all (·.oneCell')=true:=all_oneCell_toArray (by
 intro v hv;unfold mZ at hv;simp only[List.mem_cons,List.not_mem_nil,or_false]at hv;rcases hv with rfl|rfl|rfl|rfl|rfl|rfl|rfl|rfl|rfl|rfl|rfl|rfl|rfl|rfl|rfl|rfl|rfl|rfl|rfl<;>rfl)
theorem ET {cs:List Value}(h:cs.toArray.all (·.oneCell')=true):∀x∈cs,x.oneCell'=true:=by
 rw[Array.all_eq_true']at h;exact fun x hx=>h x (by simpa using hx)
theorem sP {s:List UInt8}{w W:η}{cs:List Value}{tmps:Array Value}{b:Bool}(ax:af W w.heap.size bD 243)(hb:Below w.heap.size w W)(hl:cs.length=19)(ho:cs.toArray.all (·.oneCell')=true)
 (h2:tmps.getD 2 undef= δ (some ⟨w.heap.size,0,none⟩))(h3:tmps.getD 3 undef= .bool b)(h0:b=false→cV s=none)(h1:b=true→∃F,cV s=some F∧fJ w.heap.size (W.setCells w.heap.size 0 cs) (.agg cs.toArray) F):
 bodyPost prog Tryz.f237 (Gj s w) .ret ⟨tmps,[]⟩ (W.setCells w.heap.size 0 cs):=by
 obtain⟨_,fA,iV⟩:=BA (vs:=cs) (o:=0) ax hb (Nat.le_refl _);rw[kK cs bD (by rw[hl];rfl)]at iV;refine bodyPost_ret (v:= .tuple #[.agg cs.toArray, .bool b]) ?_ rfl ⟨fA,cs,b,rfl,hl,ET ho,h0,h1⟩;rw[results_cell_tmp results237 h2 (run_loadVar_mid _ w.heap.size 0 243 cs _ (dc iV) underlying243 rfl (by rw[hl];exact fk)),h3]
theorem R3 {s:List UInt8}{w W:η}{cs:List Value}{tmps:Array Value}{b:Bool}(iV:af W w.heap.size cs 243)(fA:Below w.heap.size w W)(hl:cs.length=19)(ho:cs.toArray.all (·.oneCell')=true)
 (h2:tmps.getD 2 undef= δ (some ⟨w.heap.size,0,none⟩))(h3:tmps.getD 3 undef= .bool b)(h0:b=false→cV s=none)(h1:b=true→∃F,cV s=some F∧fJ w.heap.size W (.agg cs.toArray) F):
 bodyPost prog Tryz.f237 (Gj s w) .ret ⟨tmps,[]⟩ W:=by
 refine bodyPost_ret (v:= .tuple #[.agg cs.toArray, .bool b]) ?_ rfl ⟨fA,cs,b,rfl,hl,ET ho,h0,h1⟩;rw[results_cell_tmp results237 h2 (run_loadVar_mid _ w.heap.size 0 243 cs _ (dc iV) underlying243 rfl (by rw[hl];exact fk)),h3]
theorem eX.names {w wr:η}{B p hv g c:Nat}{P:List ByteArray}{f:Nat→Option (List UInt8)}{ns:List (List UInt8)}(h:eX w B w.heap.size p hv g P f wr)(hn:cE w c 0 ns)(hc:c<w.heap.size):cE wr c 0 ns:=jK hn hc h.below
theorem abQ (f:Nat→Option (List UInt8)):ik f=(sM (f 6)).2.any fun o=>decide (o≠0):=by
 unfold ik sM;cases f 6 with
 |none=>rfl
 |some v=>
  simp only[];cases jc (ba v)<;>rfl
theorem eX.marked {w wr:η}{B R p hv g:Nat}{P:List ByteArray}{f:Nat→Option (List UInt8)}{j:Nat}{v:List UInt8}(h:eX w B R p hv g P f wr)(_hR:R≤w.heap.size)(hRp:R<p)(hph:p<hv)(hhB:hv<B)(_ahF:g<B)(hgh:hv<g)(hj:j<9):
 ee B ((wr.setCell ⟨hv,j,none⟩ (.bool true)).setCell ⟨p,10+j,none⟩ (ζ ⟨(aC.getD j []++61::v).toArray⟩)) p f (ji f j v)∧
 mT ((wr.setCell ⟨hv,j,none⟩ (.bool true)).setCell ⟨p,10+j,none⟩ (ζ ⟨(aC.getD j []++61::v).toArray⟩)) hv (ji f j v)∧
 af ((wr.setCell ⟨hv,j,none⟩ (.bool true)).setCell ⟨p,10+j,none⟩ (ζ ⟨(aC.getD j []++61::v).toArray⟩)) R bD 243∧
 sO ((wr.setCell ⟨hv,j,none⟩ (.bool true)).setCell ⟨p,10+j,none⟩ (ζ ⟨(aC.getD j []++61::v).toArray⟩)) g P∧
 Below R w ((wr.setCell ⟨hv,j,none⟩ (.bool true)).setCell ⟨p,10+j,none⟩ (ζ ⟨(aC.getD j []++61::v).toArray⟩))∧
 B≤((wr.setCell ⟨hv,j,none⟩ (.bool true)).setCell ⟨p,10+j,none⟩ (ζ ⟨(aC.getD j []++61::v).toArray⟩)).heap.size:=by
 have hz:=h.size;have e1:∀k,k≠hv→k≠p→((wr.setCell ⟨hv,j,none⟩ (.bool true)).setCell ⟨p,10+j,none⟩ (ζ ⟨(aC.getD j []++61::v).toArray⟩)).heap[k]?=wr.heap[k]?:=fun k h1 h2=>(μ _ _ _ _ (by exact h2)).trans (μ _ _ _ _ (by exact h1));refine⟨?_,?_,?_,?_,?_,?_⟩
 ·exact(h.fO.other (by omega) hhB (by omega)).ZW (by omega) hj
 ·exact(h.mB.put hj).on (μ _ _ _ _ (show hv≠p by omega))
 ·exact(h.res.other (by omega) _).other (by omega) _
 ·obtain⟨s1,s2⟩:=h.strs;refine⟨by rw[cW,cW];exact s1,fun i l hl=>?_⟩;rw[θ (a:=⟨g,i,none⟩) (e1 g (by omega) (by omega))];exact s2 i l hl
 ·exact(h.below.setCell (p:=⟨hv,j,none⟩) (by show R≤hv;omega) _).setCell (p:=⟨p,10+j,none⟩) (by show R≤p;omega) _
 ·rw[cW,cW];exact hz
theorem eX.next {w wr:η}{W W':η}{B R p hv g:Nat}{P:List ByteArray}{f:Nat→Option (List UInt8)}{j:Nat}{v:List UInt8}(hR:R≤w.heap.size)(hRp:R<p)(hph:p<hv)(hhB:hv<B)(_ahF:g<B)(KS:p<g)
 (h2:mT W hv (ji f j v))(h3:af W R bD 243)(h4:sO W g P)(h5:Below R w W)(h6:B≤W.heap.size)(hx:aK (fun k=>k=p) W W')(hr:ee B W' p (ji f j v) (ji f j v))(qU:∀j v,f j=some v→j<9∧iw j v=true)(hj:j<9)(hp:iw j v=true)(_h:wr=wr):
 eX w B R p hv g P (ji f j v) W':=by
 refine⟨hr,h2.on (hx.block hv (by omega) (by omega)),?_,?_,?_,Nat.le_trans h6 hx.size,fun i x hi=>?_⟩
 ·unfold af at h3⊢;rw[hx.block R (by omega) (by omega)];exact h3
 ·obtain⟨s1,s2⟩:=h4;refine⟨Nat.lt_of_lt_of_le s1 hx.size,fun i l hl=>?_⟩;rw[θ (a:=⟨g,i,none⟩) (hx.block g s1 (by omega))];exact s2 i l hl
 ·exact h5.trans (hx.below (by have:=h5.size;omega) (fun k hk=>by omega))
 ·by_cases e:i=j
  ·subst e;rw[mc]at hi;cases hi;exact⟨hj,hp⟩
  ·rw[xe e]at hi;exact qU i x hi
structure KT (w0:η)(r p hv:Nat)(cs:List Value)(x4 x5 x6 x7:Bool)(a:Act)(w:η):Prop where
 size:a.tmps.size=115
 defers:a.defers=[]
 s2:a.eval (.tmp 2)= δ (some ⟨r,0,none⟩)
 s4:a.eval (.tmp 4)= δ (some ⟨p,0,none⟩)
 s5:a.eval (.tmp 5)= δ (some ⟨hv,0,none⟩)
 c4:w.cell? ⟨hv,4,none⟩=some (.bool x4)
 c5:w.cell? ⟨hv,5,none⟩=some (.bool x5)
 c6:w.cell? ⟨hv,6,none⟩=some (.bool x6)
 c7:w.cell? ⟨hv,7,none⟩=some (.bool x7)
 fO:w.rangeAt p 0 cs
 res:∃lS:List Value,lS.length=19∧af w r lS 243
 aQ:aK (fun k=>k=r) w0 w
def me (i:Nat):Nat:=99+i
def jS (hv:Nat)(cs:List Value)(x4 x5 x6 x7:Bool)(i:Nat)(v:Value):Prop:=match i with
 |0=>v= .agg cs.toArray
 |1=>v= δ (some ⟨hv,7,none⟩)
 |2=>v= .bool x7
 |3|4=>v= .bool (!x7)
 |5=>x7=true→v= δ (some ⟨hv,4,none⟩)
 |6=>x7=true→v= .bool x4
 |7|8=>v= .bool (!x7||x4)
 |9=>(!x7||x4)=false→v= δ (some ⟨hv,5,none⟩)
 |10=>(!x7||x4)=false→v= .bool x5
 |11|12=>v= .bool (!x7||x4||x5)
 |13=>(!x7||x4||x5)=false→v= δ (some ⟨hv,6,none⟩)
 |14=>(!x7||x4||x5)=false→v= .bool x6
 |15=>v= .bool (!x7||x4||x5||x6)
 |_=>True
def xf (r hv:Nat)(cs:List Value)(x4 x5 x6 x7:Bool)(i:Nat)(a:Act)(w:η):Prop:=
 if i=16 then af w r cs 243
 else if i=17 then a.eval (.tmp 3)= .bool (!x7||x4||x5||x6)
 else jS hv cs x4 x5 x6 x7 i (a.eval (.tmp (me i)))
theorem dL {r hv:Nat}{cs:List Value}{x4 x5 x6 x7:Bool}{i:Nat}{a:Act}{w:η}(h:xf r hv cs x4 x5 x6 x7 i a w)(hi:i<16):jS hv cs x4 x5 x6 x7 i (a.eval (.tmp (me i))):=by
 unfold xf at h;rw[if_neg (by omega),if_neg (by omega)]at h;exact h
theorem dT {w0:η}{r p hv:Nat}{cs:List Value}{x4 x5 x6 x7:Bool}{a:Act}{w:η}{ops:Array Oper}{i:Nat}{v:Value}{dst:Option Nat}(hd:dst=some (me i))(hi:i<16)(h:KT w0 r p hv cs x4 x5 x6 x7 a w)(hn:jS hv cs x4 x5 x6 x7 i v)(bu:ops.size=18):
 EE ops (xf r hv cs x4 x5 x6 x7) (KT w0 r p hv cs x4 x5 x6 x7) i a w (a.put dst v) w:=by
 subst hd;have hs:me i<a.tmps.size:=by rw[h.size];unfold me;omega
 refine⟨⟨by rw[eB];exact h.size,by rw[put_defers];exact h.defers,by rw[bL (by unfold me;omega)];exact h.s2,by rw[bL (by unfold me;omega)];exact h.s4,by rw[bL (by unfold me;omega)];exact h.s5,h.c4,h.c5,h.c6,h.c7,h.fO,h.res,h.aQ⟩,?_,fun j oj gy lE _ hg=>?_⟩
 ·unfold xf;rw[if_neg (by omega),if_neg (by omega),fh hs];exact hn
 ·have Er:j<18:=by rw[←bu];exact(Array.getElem?_eq_some_iff.1 gy).1
  unfold xf at hg⊢;by_cases KU:j=16
  ·rw[if_pos KU]at hg⊢;exact hg
  ·rw[if_neg KU]at hg⊢;by_cases KV:j=17
   ·rw[if_pos KV]at hg⊢;rw[bL (by unfold me;omega)];exact hg
   ·rw[if_neg KV]at hg⊢;rw[bL (by unfold me;omega)];exact hg
theorem kg (b:Nat):∀(vs:List Value) (o:Nat) (w:η) (k:Nat),k≠b→(w.setCells b o vs).heap[k]?=w.heap[k]?
 |[],_,_,_,_=>rfl
 |v::r,o,w,k,h=>by rw[World.setCells,kg b r (o+1) _ k h];exact μ _ _ _ _ h
theorem si {T:TypeId}{b:Nat}:∀{vs:List Value} {o:Nat} {w:η} {cs:List Value},af w b cs T→af (w.setCells b o vs) b (oD o vs cs) T
 |[],_,_,_,h=>h
 |v::_,o,_,_,h=>si (o:=o+1) (h.set (k:=o) v)
theorem xg (b:Nat):∀(vs:List Value) (o:Nat) (w:η),(w.setCells b o vs).os=w.os∧(w.setCells b o vs).tape=w.tape∧(w.setCells b o vs).output=w.output
 |[],_,_=>⟨rfl,rfl,rfl⟩
 |v::r,o,w=>by
  obtain⟨h1,h2,h3⟩:=xg b r (o+1) (w.setCell ⟨b,o,none⟩ v);rw[World.setCells];exact⟨h1.trans (by simp[π]),h2.trans (by simp[π]),h3.trans (by simp[π])⟩
theorem ZX {w0:η}{r p hv:Nat}{cs:List Value}{x4 x5 x6 x7:Bool}{a:Act}{w:η}{ops:Array Oper}(h:KT w0 r p hv cs x4 x5 x6 x7 a w)(hl:cs.length=19)(hrp:p≠r)(Ye:hv≠r):
 w.there r 0 cs.toArray.size∧EE ops (xf r hv cs x4 x5 x6 x7) (KT w0 r p hv cs x4 x5 x6 x7) 16 a w (a.put none undef) (w.setCells r 0 cs):=by
 obtain⟨lS,Hv,ax⟩:=h.res;have e:=fun k hk=>kg r cs 0 w k hk;have iV:=si (vs:=cs) (o:=0) ax;obtain⟨y1,y2,y3⟩:=xg r cs 0 w;refine⟨nJ ax (by rw[List.size_toArray];omega),⟨h.size,h.defers,h.s2,h.s4,h.s5,?_,?_,?_,?_,?_,⟨cs,hl,?_⟩,?_⟩,?_,fun j oj gy lE _ hg=>?_⟩
 ·exact(θ (a:=⟨hv,4,none⟩) (e hv Ye)).trans h.c4
 ·exact(θ (a:=⟨hv,5,none⟩) (e hv Ye)).trans h.c5
 ·exact(θ (a:=⟨hv,6,none⟩) (e hv Ye)).trans h.c6
 ·exact(θ (a:=⟨hv,7,none⟩) (e hv Ye)).trans h.c7
 ·exact fun j v hv=>(θ (a:=⟨p,0+j,none⟩) (e p hrp)).trans (h.fO j v hv)
 ·rw[kK cs lS (by omega)]at iV;exact iV
 ·exact h.aQ.fY ⟨y1,y2,y3,by rw[js];exact Nat.le_refl _,fun k _ hk=>e k hk⟩
 ·unfold xf;rw[if_pos rfl];rw[kK cs lS (by omega)]at iV;exact iV
 ·unfold xf at hg⊢;rw[if_neg lE]at hg⊢;exact hg
theorem Vu {w0:η}{r p hv:Nat}{cs:List Value}{x4 x5 x6 x7:Bool}{a:Act}{w:η}{ops:Array Oper}{v:Value}(h:KT w0 r p hv cs x4 x5 x6 x7 a w)(OG:v= .bool (!x7||x4||x5||x6))(bu:ops.size=18):
 EE ops (xf r hv cs x4 x5 x6 x7) (KT w0 r p hv cs x4 x5 x6 x7) 17 a w (a.put (some 3) v) w:=by
 subst OG;refine⟨⟨by rw[eB];exact h.size,by rw[put_defers];exact h.defers,by rw[bL (by omega)];exact h.s2,by rw[bL (by omega)];exact h.s4,by rw[bL (by omega)];exact h.s5,h.c4,h.c5,h.c6,h.c7,h.fO,h.res,h.aQ⟩,?_,fun j oj gy lE _ hg=>?_⟩
 ·unfold xf;rw[if_neg (by omega),if_pos rfl,fh (by rw[h.size];omega)]
 ·have Er:j<18:=by rw[←bu];exact(Array.getElem?_eq_some_iff.1 gy).1
  unfold xf at hg⊢;by_cases KU:j=16
  ·rw[if_pos KU]at hg⊢;exact hg
  ·rw[if_neg KU,if_neg lE]at hg⊢;rw[bL (by unfold me;omega)];exact hg
theorem rm (hv k:Nat)(hk:k<9)(w:η):(Instr.indexAt 286 (δ (some ⟨hv,0,none⟩)) (V Z (k:Int))).run prog w= .ok (δ (some ⟨hv,k,none⟩)) w:=by
 have lR:(k:Int)<9:=by omega
 go_simp
theorem oJ {b k:Nat}{z:Bool}{w:η}(h:w.cell? ⟨b,k,none⟩=some (.bool z)):(Instr.loadAt 4 (δ (some ⟨b,k,none⟩))).run prog w= .ok (.bool z) w:=by
 go_simp
end Go.Proofs.YthpndgcaoeokeaaGreatDoor
