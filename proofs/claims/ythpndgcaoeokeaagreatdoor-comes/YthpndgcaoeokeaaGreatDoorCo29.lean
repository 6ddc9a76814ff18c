import Derived.Test.YthpndgcaoeokeaaGreatDoorCo28
set_option maxRecDepth 100000
set_option maxHeartbeats 8000000
open Go.IntKind renaming i64→Z
open Go.Value renaming int→V,pointer→δ,slice→ε
open Go.Obj renaming cells→ζ
open Nat renaming lt_of_lt_of_le→η,le_refl→ν,reduceAdd→π
open Go renaming World→θ
open Go.RowKit.Below renaming refl→ι
open Go.Instr renaming loadAt→κ
open List renaming getElem?_eq_getElem→μ,getElem?_map→ξ,length_cons→ο
namespace Go.Proofs.YthpndgcaoeokeaaGreatDoor
open Tryz
open Go.RowKit Go.Sort
def ja (t:Int):List Int→List Int
 |[]=>[]
 |x::r=>if x=t then r else x::r
def jO:List Int→List Int→List Int
 |[],ls=>ls
 |t::ts,ls=>ls.takeWhile (fun x=>decide (x<t))++t::jO ts (ja t (ls.dropWhile fun x=>decide (x<t)))
def tn (t:Int)(ts ls:List Int):List Int:=ls.takeWhile (fun x=>decide (x<t))++t::jO ts (ja t (ls.dropWhile fun x=>decide (x<t)))
theorem aak {t z:Int}{ts r:List Int}(h:z<t):tn t ts (z::r)=z::tn t ts r:=by
 unfold tn;simp[h]
theorem aal {t:Int}{ts r:List Int}:tn t ts (t::r)=t::jO ts r:=by
 unfold tn;simp[ja]
theorem aam {t z:Int}{ts r:List Int}(h:t<z):tn t ts (z::r)=t::jO ts (z::r):=by
 have h1:¬z<t:=by omega
 have h2:¬z=t:=by omega
 unfold tn;simp[h1,ja,h2]
theorem V5 {t:Int}{ts:List Int}:tn t ts []=t::jO ts []:=by
 unfold tn;simp[ja]
def LS (w:θ)(v:Value)(ls:List Int):Prop:=∃a c,v= ε a ls.length c∧ls.length≤c∧c≤9223372036854775807∧∀i z,ls[i]?=some z→∃g j,a=some ⟨g,j,none⟩∧w.cell? ⟨g,j+i,none⟩=some (V Z z)
theorem LS.keep {w w':θ}{v:Value}{ls:List Int}(h:LS w v ls)(hk:∀k,v.ownBlock=some k→w'.heap[k]?=w.heap[k]?):LS w' v ls:=by
 obtain⟨a,c,rfl,hc,hm,hz⟩:=h;refine⟨a,c,rfl,hc,hm,fun i z hi=>?_⟩;obtain⟨g,j,rfl,cR⟩:=hz i z hi;refine⟨g,j,rfl,?_⟩;rw[World.cell?_of_block (w:=w) (w':=w') (a:=⟨g,j+i,none⟩) (hk g rfl)];exact cR
theorem LS.adt {w:θ}{B:Nat}{v:Value}{ls:List Int}(h:w.ownsRow B 3 1 v ls.length (ints ls)):LS w v ls:=by
 rcases h.2 with⟨rfl,h0⟩|⟨g,cap,cur,rfl,_,_,LJ,I8,_,_⟩
 ·have:ls=[]:=List.eq_nil_of_length_eq_zero h0;subst this;exact⟨_,_,rfl,ν _,by omega,fun i z hi=>by simp at hi⟩
 ·refine⟨_,_,rfl,LJ,by unfold maxLen at I8;omega,fun i z hi=>⟨g,0,rfl,?_⟩⟩;have lF:=(List.getElem?_eq_some_iff.1 hi).1;rw[Nat.zero_add,h.cellAt i (by omega)];unfold ints;rw[ξ,hi];rfl
theorem LS.tail {w:θ}{v:Value}{z:Int}{ls:List Int}(h:LS w v (z::ls)):∃v',(∀w',(Instr.slice 54 v (some (V Z 1)) none none).run prog w'= .ok v' w')∧LS w v' ls∧∀k,v'.ownBlock=some k→v.ownBlock=some k:=by
 obtain⟨a,c,rfl,hc,hm,hz⟩:=h;obtain⟨g,j,rfl,_⟩:=hz 0 z rfl;simp only[ο]at hc;have Dr:∀w',(Instr.slice 54 (ε (some ⟨g,j,none⟩) (ls.length+1) c) (some (V Z 1)) none none).run prog w'= .ok (.slice (if c=1 then some ⟨g,j,none⟩else some ⟨g,j+1,none⟩) ls.length (c - 1)) w':=fun w'=>by
  have h1:(1:Int)≤(ls.length:Int)+1:=by omega
  simp[Instr.slice,Instr.sliceBounds,Instr.sliceBound,go_sem,asIntOf,h1,Addr.add]
 refine⟨_,Dr,⟨_,_,rfl,by omega,by omega,fun i x hi=>?_⟩,fun k hk=>?_⟩
 ·have lF:=(List.getElem?_eq_some_iff.1 hi).1;obtain⟨g',j',e,cR⟩:=hz (i+1) x (by simpa using hi);cases e;rw[if_neg (by omega)];exact⟨g,j+1,rfl,by rw[Nat.add_assoc,Nat.add_comm 1 i];exact cR⟩
 ·split at hk<;>exact hk
def MJ (O:aB)(W0:θ)(b4 n4:Nat)(ov:Value)(J:Nat→bI)(E:Nat→Nat→List Int→Prop)(i:Nat):bI:=fun D W=>
 (D b4∧∀k,D k→(O k∨k=b4)∨n4≤k)∧∃(q:Nat) (D0:aB) (ls:List Int) (v:Value),¬D0 b4∧lk O W0 (J q) D0 D W∧af W b4 [v] 54∧LS W0 v ls∧(∀k,v.ownBlock=some k→ov.ownBlock=some k)∧E q i ls
theorem MJ.ic {O:aB}{W0:θ}{b4 n4:Nat}{ov:Value}{J:Nat→bI}{E:Nat→Nat→List Int→Prop}{i:Nat}{D:aB}{W:θ}(hD:∀k,D k→k<W.heap.size)(h:MJ O W0 b4 n4 ov J E i D W):On D (MJ O W0 b4 n4 ov J E i) W:=by
 obtain⟨h1,q,D0,ls,v,h2,h3,h4,h5⟩:=h;exact⟨hD,fun W2 hk=>⟨h1,q,D0,ls,v,h2,h3.keep hk,h4.keep (hk _ h1.1),h5⟩⟩
structure MS (O:aB)(W0:θ)(l b3 b4:Nat)(ov:Value)(X:bI)(D:aB)(W5:θ)(D0:aB)(ls:List Int)(v:Value)(w:θ):Prop where
 bE:lk O W0 X D0 (fun k=>D k∨D0 k) w
 YM:¬D0 b3
 nb:¬D0 b4
 y:af w b3 [.func (.yield l) #[] #[]] 58
 row:af w b4 [v] 54
 ls:LS W0 v ls
 jG:∀k,v.ownBlock=some k→ov.ownBlock=some k
 aQ:aK D W5 w
 d0:∀k,D0 k→D k∨W5.heap.size≤k
 yN:aK O W0 w
section
variable {O:aB} {W0:θ} {l b3 b4 n4:Nat} {ov:Value} {X X':bI} {D:aB} {W5:θ} {D0:aB} {ls mM:List Int} {v v':Value} {w w':θ}
theorem MS.below (h:MS O W0 l b3 b4 ov X D W5 D0 ls v w)(hb:Below w.heap.size w w'):MS O W0 l b3 b4 ov X D W5 D0 ls v w':=
 ⟨h.bE.below hb,h.YM,h.nb,h.y.on hb,h.row.on hb,h.ls,h.jG,h.aQ.fY (aK.bG hb),h.d0,h.yN.fY (aK.bG hb)⟩
theorem MS.yield (h:MS O W0 l b3 b4 ov X D W5 D0 ls v w)(h05:W0.heap.size≤W5.heap.size)(hp:bR D0 w.heap.size X' w w'):∃mF,MS O W0 l b3 b4 ov X' D W5 mF ls v w':=by
 have hs:=h.aQ.size;obtain⟨mF,LZ,d1,hx⟩:=h.bE.post (by omega) hp;refine⟨mF,⟨⟨fun k hk=> .inr hk,LZ.dO,LZ.Od,LZ.on⟩,fun hk=>(d1 _ hk).elim h.YM (by have:=h.y.lt;omega),fun hk=>(d1 _ hk).elim h.nb (by have:=h.row.lt;omega),h.y.aQ hx h.YM,h.row.aQ hx h.nb,h.ls,h.jG,h.aQ.trans hx (fun k hk=>h.d0 k hk),fun k hk=>(d1 k hk).elim (h.d0 k) (fun h'=> .inr (by omega)),h.yN.trans hx (fun k hk=>h.bE.dO k hk)⟩⟩
theorem MS.set (h:MS O W0 l b3 b4 ov X D W5 D0 ls v w)(hb:D b4)(bz:W0.heap.size≤b4)(di:b3≠b4)(hl:LS W0 v' mM)(hk:∀k,v'.ownBlock=some k→v.ownBlock=some k):MS O W0 l b3 b4 ov X D W5 D0 mM v' (w.setCell ⟨b4,0,none⟩ v'):=
 ⟨h.bE.set h.nb _,h.YM,h.nb,h.y.other di _,h.row.set (k:=0) v',hl,fun k e=>h.jG k (hk k e),h.aQ.setCell (.inl hb) _,h.d0,h.yN.setCell (.inr bz) _⟩
theorem MS.head {z:Int}(h:MS O W0 l b3 b4 ov X D W5 D0 (z::ls) v w)(TA:∀k,ov.ownBlock=some k→k<W0.heap.size∧¬O k):∃g j c,v= ε (some ⟨g,j,none⟩) (ls.length+1) c∧ls.length+1≤c∧g<W0.heap.size∧¬O g∧w.cell? ⟨g,j,none⟩=some (V Z z):=by
 have hl:=h.ls.keep (w':=w) fun k hk=>by
  obtain⟨h1,h2⟩:=TA k (h.jG k hk);exact h.yN.block k h1 h2
 have AN:=h.jG;obtain⟨a,c,rfl,hc,_,hz⟩:=hl;obtain⟨g,j,rfl,cR⟩:=hz 0 z rfl;obtain⟨h1,h2⟩:=TA g (AN g rfl);exact⟨g,j,c,rfl,by simpa using hc,h1,h2,by simpa using cR⟩
theorem MS.nil (h:MS O W0 l b3 b4 ov X D W5 D0 [] v w):∃a c,v= ε a 0 c:=by
 obtain⟨a,c,e,_⟩:=h.ls;exact⟨a,c,e⟩
theorem MS.lt (h:MS O W0 l b3 b4 ov X D W5 D0 ls v w)(hD:∀k,D k→k<W5.heap.size):∀k,D k∨D0 k→k<w.heap.size:=fun k hk=>hk.elim (fun hd=>η (hD k hd) h.aQ.size) (fun hd=>h.bE.on.1 k hd)
theorem MS.fin {J:Nat→bI}{E:Nat→Nat→List Int→Prop}{i q:Nat}(h:MS O W0 l b3 b4 ov (J q) D W5 D0 ls v w)(hD:∀k,D k→k<W5.heap.size)(hb:D b4)(hn:∀k,D k→(O k∨k=b4)∨n4≤k)(h5:n4≤W5.heap.size)(hE:E q i ls):bR D W5.heap.size (MJ O W0 b4 n4 ov J E i) W5 w:=
 ⟨h.aQ,fun k=>D k∨D0 k,fun k hk=>hk.elim .inl (h.d0 k),fun _ hk=> .inl hk,MJ.ic (h.lt hD) ⟨⟨.inl hb,fun k hk=>hk.elim (hn k) (fun hd=>(h.d0 k hd).elim (hn k) (fun h'=> .inr (by omega)))⟩,q,D0,ls,v,h.nb,h.bE,h.row,h.ls,h.jG,hE⟩⟩
theorem MS.QM {Y:bI}(h:MS O W0 l b3 b4 ov X D W5 D0 ls v w)(hD:∀k,D k→k<W5.heap.size):bR D W5.heap.size (rb O W0 Y X .ret) W5 w:=
 ⟨h.aQ,fun k=>D k∨D0 k,fun k hk=>hk.elim .inl (h.d0 k),fun _ hk=> .inl hk,rb.YG (DX.ic (h.lt hD) ⟨D0,h.bE⟩)⟩
theorem MS.QN (h:MS O W0 l b3 b4 ov X D W5 D0 ls v w)(hD:∀k,D k→k<W5.heap.size):bR D W5.heap.size (DX O W0 X) W5 w:=
 ⟨h.aQ,fun k=>D k∨D0 k,fun k hk=>hk.elim .inl (h.d0 k),fun _ hk=> .inl hk,DX.ic (h.lt hD) ⟨D0,h.bE⟩⟩
end
end Go.Proofs.YthpndgcaoeokeaaGreatDoor
namespace Go.Proofs.YthpndgcaoeokeaaGreatDoor
open Tryz
open Go.RowKit Go.Sort
attribute [local go_sem] Oper.semAt_some
attribute [local go_sem] jt fy
attribute [local simp] jt fy
theorem adu {F:Fence}{nF:Nat}{ops:Array Oper}{rest:List Oper}{o:Oper}{a:Act}{w:θ}{Q:Exit→Act→θ→Prop}{x:Operand}{v v':Value}(hg:o.guard=none)(ho:o.op= .slice 54 x (some (.const (V Z 1))) none none)(hx:a.eval x=v)
 (hr:∀w',(Instr.slice 54 v (some (V Z 1)) none none).run prog w'= .ok v' w')(hF:∀f,F.fn f)(hK:wpListIn F nF prog ops Q rest (a.put o.dst v') w):wpListIn F nF prog ops Q (o::rest) a w:=
 wpListIn_plain hg fun K Hb=>bK hF (by rw[ho];intro c hc;cases hc) (by
  obtain⟨_,_,_,_,_,_⟩:=o;simp only[]at ho;subst ho;unfold execOp;have h0:a.eval (.const (V Z 1))= V Z 1:=rfl;simp only[hx,h0,Option.map_some,Option.map_none];exact aL (hr w)) (Hb _ _ hK)
theorem St.put {O:aB}{W:θ}{J:bI}{D:aB}{wr:θ}(h:St O W J D wr){b:Nat}(hb:¬D b)(hW:W.heap.size≤b)(o:Obj):St O W J D (wr.putObj b o):=⟨h.aQ.put (.inr hW) _,h.dO,h.Od,h.on.put hb _⟩
def NM (l gz jz:Nat)(v:Value)(z:Int)(j:Nat)(x:Value):Prop:=match j with
 |0=>x= .func (.yield l) #[] #[]
 |1=>x=v
 |2=>x= δ (some ⟨gz,jz,none⟩)
 |_=>x= V Z z
theorem V6 {p:Addr}{a:Option Addr}{n c:Nat}{w:θ}(h:w.cell? p=some (ε a n c)):(κ 54 (δ (some p))).run prog w= .ok (ε a n c) w:=by
 go_simp
theorem aan {o:Oper}{a:Act}{w:θ}{x:Operand}{g j n c:Nat}(ho:o.op= .indexAddr 54 x (.const (V Z 0)))(hx:a.eval x= ε (some ⟨g,j,none⟩) n c)(hn:0<n):(execOp a.eval o).run prog w= .ok (.value (δ (some ⟨g,j,none⟩))) w:=by
 obtain⟨_,_,_,_,_,_⟩:=o;simp only[]at ho;subst ho;unfold execOp;have h0:a.eval (.const (V Z 0))= V Z 0:=rfl;simp only[hx,h0];go_simp
theorem TB (XS OS:List Int)(g:Nat)(lb:Array Value)(R0:aB)(bo bt:Nat)(ov:Value)(w:θ)(hit:oP prog g lb (pM XS) R0 w)(eg:∀args w,(callFunc g args).run prog w= .ok (.enter g args) w)(hR0:∀k,R0 k→k<w.heap.size)
 (q1:af w bo [ov] 54)(q2:af w bt [.func (.func g) #[] lb] 196)(TA:LS w ov OS)(ahY:∀k,ov.ownBlock=some k→k<w.heap.size):
 oP prog 214 #[δ (some ⟨bo,0,none⟩), δ (some ⟨bt,0,none⟩)] (pM (jO XS OS)) (fun k=>k=bo∨k=bt∨R0 k∨ov.ownBlock=some k) w:=by
 intro l W O J Js Jp bu hR hO eQ hY;have adv:=TA.keep fun k hk=>hR k (.inr (.inr (.inr hk)));have ahZ:∀k,R0 k→W.heap[k]?=w.heap[k]?:=fun k hk=>hR k (.inr (.inr (.inl hk)));replace q1:=q1.keep (hR bo (.inl rfl));replace q2:=q2.keep (hR bt (.inr (.inl rfl)));have nOR:∀k,O k→¬R0 k:=fun k h h'=>hO k h (.inr (.inr (.inl h')));have nOv:∀k,O k→¬ov.ownBlock=some k:=fun k h h'=>hO k h (.inr (.inr (.inr h')));have Fi:prog.follows .mixedOrders=true:=by kernel_rfl
 have QO:∀k,R0 k→k<W.heap.size:=fun k hk=>η (hR0 k hk) bu;have YN:∀k,ov.ownBlock=some k→k<W.heap.size:=fun k hk=>η (ahY k hk) bu;clear hR hO TA;have Pc:Hid (jO XS OS=jO (XS.drop 0) OS):=ad rfl;have xE:=ad (fun(i:Nat) (t:Int) (h:(jO XS OS)[i]?=some t)=>hY i _ (yM h));clear hY;rw[pN];generalize jO XS OS=YS at *
 have ah0:=adv;obtain⟨ao,co,hoe,_⟩:=ah0;refine iM func214 rfl ?_;simp only[ntmps214,List.size_toArray,ο,List.length_nil,π,Nat.reduceSub,Array.replicate_succ,Array.replicate_zero,List.push_toArray,List.append_toArray,List.nil_append,List.cons_append];refine dy fun K hK=>ei ?_;gi_wp2_with fail;have r3:af (W.alloc (ζ #[.func (.yield l) #[] #[]] 58)) W.heap.size [.func (.yield l) #[] #[]] 58:=af.new W [.func (.yield l) #[] #[]] 58;have ah:Below W.heap.size W (W.alloc (ζ #[.func (.yield l) #[] #[]] 58)):=(ι _ _).alloc (ν _) _;have Kv:W.heap.size<(W.alloc (ζ #[.func (.yield l) #[] #[]] 58)).heap.size:=by simp
 generalize W.alloc (ζ #[.func (.yield l) #[] #[]] 58)=W1 at *
 refine dy fun K hK=>ei ?_;rw[hoe]at q1;have c1:=(q1.on ah).cell (k:=0) rfl;gi_wp2_with fail;rw[←hoe]at q1⊢;have r4:af (W1.alloc (ζ #[ov] 54)) W1.heap.size [ov] 54:=af.new W1 [ov] 54;have cj:Below W1.heap.size W1 (W1.alloc (ζ #[ov] 54)):=(ι _ _).alloc (ν _) _;replace r3:=r3.on cj;replace ah:=ah.trans (cj.mono ah.size);have mO:W1.heap.size<(W1.alloc (ζ #[ov] 54)).heap.size:=by simp
 generalize W1.alloc (ζ #[ov] 54)=W2 at *
 generalize W1.heap.size=b4 at *
 clear c1 cj;refine dy fun K1 aP=>?_;refine dy fun K hK=>ei ?_;have c2:=(q2.on ah).cell (k:=0) rfl;gi_wp2_with fail;clear c2;refine nW ?_;refine pL (gf:=g) (lb:=lb) func214 ?g eg hit (by omega) (fun k hk=>(ah.block k (QO k hk)).trans (ahZ k hk)) (fun k hk=>by have:=QO k hk;omega)
  (fun k=>O k∨k=b4) (fun k hk lR=>hk.elim (fun h=>nOR k h lR) (fun h=>by have:=QO k lR;omega)) (MJ O W b4 W2.heap.size ov J fun q i ls=>q≤YS.length∧YS.drop q=jO (XS.drop i) ls) (rb O W (J YS.length) Js) (fun c=>DX O W (Jp c)) ?ps ?start ?round ?done ?stop ?pan
 case g=>rfl
 case ps=>intro x hx;obtain⟨d,_,rfl⟩:=List.mem_map.1 hx;rfl
 case start=>exact MJ.ic (fun k hk=>hk.elim (fun h=>by have:=eQ.1 k h;omega) (fun h=>by omega)) ⟨⟨.inr rfl,fun k hk=> .inl hk⟩,0,O,OS,ov,fun h=>by have:=eQ.1 _ h;omega,⟨fun k hk=> .inl hk,fun k hk=> .inl hk,fun k hk=>hk,eQ.below ah⟩,r4,adv,fun k hk=>hk,Nat.zero_le _,by simpa using Pc.out⟩
 case stop=>
  rintro c W4 ⟨hx,D,er,_,bq⟩ hs du;have iA:aK O W (W4.putObj W2.heap.size (.deferred none)):=((aK.bG ah).trans hx (fun k hk=>hk.imp id fun h=>by omega)).put (.inr (by omega)) _;have gi:¬D W2.heap.size:=fun h=>(er _ h).elim (fun h=>h.elim (fun h=>by have:=eQ.1 _ h;omega) (by omega)) (by omega);obtain⟨rfl,h⟩:=bq.out;have ti:=ad (show bR O W.heap.size (J YS.length) W (W4.putObj W2.heap.size (.deferred none))∨bR O W.heap.size Js W (W4.putObj W2.heap.size (.deferred none))from by
   rcases h with⟨D0,h⟩|⟨D0,h⟩
   ·exact .inl ((h.put gi _).fin iA)
   ·exact .inr ((h.put gi _).fin iA))
  clear h bq er;gi_wp2_with fail;refine⟨by simp, .inl ⟨_,_,rfl,run_takeDeferred du,?_⟩⟩;exact⟨_,results_none rfl _ _ _, .inl ⟨⟨_,rfl⟩,ti.out⟩⟩
 case pan=>
  rintro c W4 ⟨hx,D,er,_,bq⟩ hs du;have iA:aK O W (W4.putObj W2.heap.size (.deferred none)):=((aK.bG ah).trans hx (fun k hk=>hk.imp id fun h=>by omega)).put (.inr (by omega)) _;have gi:¬D W2.heap.size:=fun h=>(er _ h).elim (fun h=>h.elim (fun h=>by have:=eQ.1 _ h;omega) (by omega)) (by omega);obtain⟨D0,h⟩:=bq.out;refine⟨by simp, .inl ⟨_,_,rfl,run_takeDeferred du,?_⟩⟩;exact .inr ⟨c,rfl,(h.put gi _).fin iA⟩
 case done=>
  rw[pN];rintro W4 ⟨hx,D,er,_,bq⟩ hs du;have iA:aK O W W4:=(aK.bG ah).trans hx (fun k hk=>hk.imp id fun h=>by omega);have gi:¬D W2.heap.size:=fun h=>(er _ h).elim (fun h=>h.elim (fun h=>by have:=eQ.1 _ h;omega) (by omega)) (by omega);have TC:¬D W.heap.size:=fun h=>(er _ h).elim (fun h=>h.elim (fun h=>by have:=eQ.1 _ h;omega) (by omega)) (by omega);have y3:=r3.aQ hx (show¬(O W.heap.size∨W.heap.size=b4)from fun h=>h.elim (fun h=>by have:=eQ.1 _ h;omega) (by omega));obtain⟨_,q,D0,ls,v,nb,bE,row,nT,mH,hq,kD⟩:=bq.out;have Mc:=ad (show YS.drop q=ls from by rw[kD,List.drop_length];rfl);have st:St O W (J q) D0 W4:=⟨iA,bE.dO,bE.Od,bE.on⟩;have adw:¬D0 W.heap.size:=fun h=>TC (bE.sub _ h);have adx:¬D0 W2.heap.size:=fun h=>gi (bE.sub _ h);have ah1:=ad (fun wr (jT:aK O W wr)=>nT.keep (w':=wr) fun k hk=>jT.block k (YN k (mH k hk)) (fun h=>nOv k h (mH k hk)));clear bq kD bE nb hit r3 r4 mH hx er gi TC Pc;obtain⟨av,cv,rfl,_⟩:=nT;have c4:=row.cell (k:=0) rfl;simp only[Exit.inBlock,Exit.then];refine aP _ _ (ei ?_);clear aP;have ow:Hid (q+ls.length=YS.length):=ad (by have:=congrArg List.length Mc.out;simp at this;omega);have mO:W.heap.size≤W2.heap.size:=by omega
  generalize W2.heap.size=nd at *
  gi_wp2_with fail;clear c4 row;gi_loopg [47] ls.length (fun n c wr=>∃(i:Nat) (D0:aB),i+n=ls.length∧c= V Z i∧St O W (J (q+i)) D0 wr∧¬D0 W.heap.size∧af wr W.heap.size [.func (.yield l) #[] #[]] 58∧¬D0 nd∧wr.heap[nd]?=some (.deferred (some [])))
  case atStart=>exact⟨0,D0,by omega,rfl,st,adw,y3,adx,du⟩
  case round=>
   clear st adw y3 adx du iA;obtain⟨i,D0,uE,rfl,st,TC,y3,gi,du⟩:=hrel;have hsw:=st.aQ.size;by_cases hi:i=ls.length
   case pos=>
    subst hi;gi_wp2_with fail;refine⟨by simp, .inl ⟨_,_,rfl,run_takeDeferred du,?_⟩⟩;refine⟨_,results_none rfl _ _ _, .inl ⟨⟨_,rfl⟩, .inl ?_⟩⟩;rw[←ow.out];exact(st.put gi mO _).fin
   case neg=>
    have wK:i<ls.length:=by omega
    obtain⟨z,hz⟩:∃z,ls[i]?=some z:=⟨_,μ wK⟩;have oR:YS[q+i]?=some z:=by
     have h1:(YS.drop q)[i]?=some z:=by rw[Mc.out];exact hz
     rwa [List.getElem?_drop]at h1
    obtain⟨a',c',e',_,_,Ln⟩:=ah1.out wr st.aQ;obtain⟨gz,jz,e2,cR⟩:=Ln i z hz;cases e';subst e2;obtain⟨LP,tj,E6,Iv,mj,jj⟩:=xE.out (q+i) z oR wr D0 st.aQ st.dO st.Od st.on;have c3:=y3.cell (k:=0) rfl;clear oR hz Ln;gi_wp2_with fail;refine jj.mono ?_;clear mj jj c3 cR;rintro e WX (⟨rfl,hp⟩|⟨rfl,hp⟩|⟨ch,rfl,hp⟩)
    case inl=>
     obtain⟨D1,jH,d1,fR⟩:=st.post hp;have y3':=y3.aQ fR TC;have yJ:=(fR.block nd (Array.getElem?_eq_some_iff.1 du).1 gi).trans du;have hnl:=y3.lt;have ady:=(Array.getElem?_eq_some_iff.1 du).1;clear hp fR;gi_wp2_with fail;gi_roundg (gk - 1)
     case measure=>omega
     case rel=>exact⟨i+1,D1,by omega,by go_num,jH,fun h=>(d1 _ h).elim TC (by omega),y3',fun h=>(d1 _ h).elim gi (by omega),yJ⟩
    case inr.inl=>
     obtain⟨D1,jH,d1,fR⟩:=st.post hp;have yJ:=(fR.block nd (Array.getElem?_eq_some_iff.1 du).1 gi).trans du;have ady:=(Array.getElem?_eq_some_iff.1 du).1;clear hp fR;gi_wp2_with fail;refine⟨by simp, .inl ⟨_,_,rfl,run_takeDeferred yJ,?_⟩⟩;exact⟨_,results_none rfl _ _ _, .inl ⟨⟨_,rfl⟩, .inr (jH.put (fun h=>(d1 _ h).elim gi (by omega)) mO _).fin⟩⟩
    case inr.inr=>
     obtain⟨D1,jH,d1,fR⟩:=st.post hp;have yJ:=(fR.block nd (Array.getElem?_eq_some_iff.1 du).1 gi).trans du;have ady:=(Array.getElem?_eq_some_iff.1 du).1;clear hp fR;gi_wp2_with fail;refine⟨by simp, .inl ⟨_,_,rfl,run_takeDeferred yJ,?_⟩⟩;exact .inr ⟨ch,rfl,(jH.put (fun h=>(d1 _ h).elim gi (by omega)) mO _).fin⟩
 case round=>
  intro YH i x hx W4 D SW hs qZ bq K hK;obtain⟨t,hd⟩:∃t,XS[i]?=some t:=⟨_,μ (by have:=(List.getElem?_eq_some_iff.1 hx).1;rwa [pN]at this)⟩;rw[yM hd]at hx;cases hx;have uX:=ad (drop_one hd);clear hd;gi_wp2_with fail;refine hK _ _ D (ι _ _) (fun k hk=> .inl hk) (fun k hk=>hk) (fun k hk=>bq.1 k hk) ?_;intro l' W5 gm fZ SX;have iX:=bq.on (W':=W5) gm;have Cy:aK O W W5:=(aK.bG ah).trans fZ (fun k hk=>hk.imp id fun h=>by omega);have y3:=r3.aQ fZ (show¬(O W.heap.size∨W.heap.size=b4)from fun h=>h.elim (fun h=>by have:=eQ.1 _ h;omega) (by omega));have gG:∀k,D k→k<W5.heap.size:=iX.1;have qA:W.heap.size≤W5.heap.size:=by omega
  clear hK gm hit bq r3 r4;obtain⟨⟨IW,YO⟩,q,D0,ls,v,nb,bE,row,nT,mH,hq,kD⟩:=iX.out;have tp:¬D W.heap.size:=fun h=>(YO _ h).elim (fun h=>h.elim (fun h=>by have:=eQ.1 _ h;omega) (by omega)) (by omega);have ms:MS O W l W.heap.size b4 ov (J q) D W5 D0 ls v W5:=⟨⟨fun k hk=> .inr hk,bE.dO,bE.Od,bE.on⟩,fun h=>tp (bE.sub _ h),nb,y3,row,nT,mH,aK.refl _ _,fun k hk=> .inl (bE.sub k hk),Cy⟩;have Mc:=ad (show YS.drop q=tn t (XS.drop (i+1)) ls from by rw[kD,uX.out];rfl);clear iX bE row kD uX nb nT mH;have ah2:∀k,ov.ownBlock=some k→k<W.heap.size∧¬O k:=fun k hk=>⟨YN k hk,fun h=>nOv k h hk⟩;have adz:W.heap.size≤b4:=by omega
  gi_wp2_with fail;gi_loopg [] ls.length (fun n wr=>∃(q:Nat) (D0:aB) (ls:List Int) (v:Value),ls.length=n∧q≤YS.length∧Hid (YS.drop q=tn t (XS.drop (i+1)) ls)∧MS O W l W.heap.size b4 ov (J q) D W5 D0 ls v wr)
  case atStart=>exact⟨q,D0,ls,v,rfl,hq,Mc,ms⟩
  case round=>
   clear ms Mc hq;obtain⟨q,D0,ls,v,ow,hq,kD,ms⟩:=hrel;have hn5:W2.heap.size≤W5.heap.size:=by omega
   have c3:=ms.y.cell (k:=0) rfl;rcases ls with _|⟨z,r⟩
   case nil=>
    obtain⟨a0,c0,rfl⟩:=ms.nil;have c4:=ms.row.cell (k:=0) rfl;obtain⟨oR,kt,oK⟩:=nX (kD.out.trans V5);replace kt:=ad kt;obtain⟨LP,tj,E6,Iv,mj,jj⟩:=xE.out q t oR wr D0 ms.yN ms.bE.dO ms.bE.Od ms.bE.on;clear oR kD;gi_wp2_with fail;clear c3 c4;refine(RoundIn.inRound l' jj).mono ?_;clear mj jj;rintro e WX (⟨rfl,hp⟩|⟨rfl,hp⟩|⟨ch,rfl,hp⟩)
    case inl=>
     obtain⟨mF,lq⟩:=ms.yield qA hp;clear hp;gi_wp2_with fail;exact lq.fin gG IW YO hn5 ⟨oK,kt.out⟩
    case inr.inl=>
     obtain⟨mF,lq⟩:=ms.yield qA hp;clear hp;gi_wp2_with fail;exact lq.QM gG
    case inr.inr=>
     obtain⟨mF,lq⟩:=ms.yield qA hp;clear hp;gi_wp2_with fail;exact⟨rfl,lq.QN gG⟩
   case cons=>
    obtain⟨gz,jz,cz,rfl,hcz,hgz,hgO,cR⟩:=ms.head ah2;have c4:=ms.row.cell (k:=0) rfl;have f4:=ms.row.free (k:=0);have kA:((r.length:Int)+1:Int)>0:=by omega
    by_cases I9:z<t
    case pos=>
     obtain⟨oR,kt,oK⟩:=nX (kD.out.trans (aak I9));replace kt:=ad kt;obtain⟨v',CK,Md,hvk⟩:=ms.ls.tail;have hY':=ad (fun w' (hb:Below wr.heap.size wr w')=>xE.out q z oR w' D0 (ms.below hb).yN ms.bE.dO ms.bE.Od (ms.below hb).bE.on);clear oR kD;gi_upto_region 5 with fail;rename_i K5 hK5;have g3:∀w',Below wr.heap.size wr w'→(κ 58 (δ (some ⟨W.heap.size,0,none⟩))).run prog w'= .ok (.func (.yield l) #[] #[]) w':=fun w' hb=>LY ((ms.y.on hb).cell (k:=0) rfl);have g4:∀w',Below wr.heap.size wr w'→(κ 54 (δ (some ⟨b4,0,none⟩))).run prog w'= .ok (ε (some ⟨gz,jz,none⟩) (r.length+1) cz) w':=fun w' hb=>V6 ((ms.row.on hb).cell (k:=0) rfl);have g5:∀w',Below wr.heap.size wr w'→(κ 3 (δ (some ⟨gz,jz,none⟩))).run prog w'= .ok (V Z z) w':=fun w' hb=>iH ((hb.cell (p:=⟨gz,jz,none⟩) (η hgz ms.yN.size)).trans cR);refine mn (YJ 21 4 6 _ wr (NM l gz jz (ε (some ⟨gz,jz,none⟩) (r.length+1) cz) z) (fun W'=>∃w',Below wr.heap.size wr w'∧bR D0 w'.heap.size (J (q+1)) w' W') (fun W'=>∃w',Below wr.heap.size wr w'∧bR D0 w'.heap.size Js w' W') BB) Fi (by kernel_rfl) ?rops ?rdone (YJ.start (ι _ _).drew)
     case rdone=>
      intro L a WX bT hI;obtain⟨_,b,Fs,hT,hF,hB⟩:=hI.post (bT 4 (by decide));have L7:a.eval (.tmp 26)= .bool (!b):=hB 5 (by decide) (bT 5 (by decide));have Ph:a.eval (.tmp 21)= .func (.yield l) #[] #[]:=hI.bC 0 (by decide) (bT 0 (by decide));have Fq:a.eval (.tmp 22)= ε (some ⟨gz,jz,none⟩) (r.length+1) cz:=hI.bC 1 (by decide) (bT 1 (by decide));have Cz:a.eval (.tmp 23)= δ (some ⟨gz,jz,none⟩):=hI.bC 2 (by decide) (bT 2 (by decide));have Pj:a.eval (.tmp 24)= V Z z:=hI.bC 3 (by decide) (bT 3 (by decide));have ha:=V4 21 6 a _ hI.size hI.defers (show 27≤56 by decide) hI.fixed;rw[show List.range 6=[0,1,2,3,4,5]from rfl]at ha;simp only[List.foldl_cons,List.foldl_nil,π,Ph,Fq,Cz,Pj,L7]at ha;replace Fs:a.eval (.tmp 25)= .bool b:=Fs;rw[Fs]at ha;clear hI hB Ph Fq Cz Pj Fs L7;rw[ha];clear ha;simp only[Act.put,List.setIfInBounds_toArray,List.set_cons_zero,List.set_cons_succ];refine hK5 _ _ ?_;clear hK5 g3 g4 g5;cases b
      case true=>
       obtain⟨w',iZ,hp⟩:=hT rfl;obtain⟨mF,lq⟩:=(ms.below iZ).yield qA hp;clear hT hF hp;have CV:=lq.set IW adz (by omega) Md hvk;have d4:=lq.row.cell (k:=0) rfl;have e4:=lq.row.free (k:=0);have zV:=Md;obtain⟨av,cv,rfl,_⟩:=zV;gi_wp2_with (refine adu rfl rfl rfl CK (fun _=>trivial) ?_);gi_roundg r.length
       case measure=>simp at ow;omega
       case rel=>exact⟨q+1,mF,r,_,rfl,oK,kt,CV⟩
      case false=>
       obtain⟨w',iZ,hp⟩:=hF rfl;obtain⟨mF,lq⟩:=(ms.below iZ).yield qA hp;clear hT hF hp;gi_wp2_with fail;exact lq.QM gG
     case rops=>
      intro L j o a w' ho fV cC hC hI;have hj:j<6:=(Array.getElem?_eq_some_iff.1 ho).1;have s3:a.eval (.tmp 3)= δ (some ⟨W.heap.size,0,none⟩):=hI.fixed 3 (by omega);have s4:a.eval (.tmp 4)= δ (some ⟨b4,0,none⟩):=hI.fixed 4 (by omega);have gA:j=0∨j=1∨j=2∨j=3∨j=4∨j=5:=by omega
      rcases gA with rfl|rfl|rfl|rfl|rfl|rfl<;>obtain rfl:=Option.some.inj ho
      ·exact cZ rfl rfl (bK (fun _=>trivial) (fun _ h=>by cases h) (dp rfl s3 (g3 _ (hI.below (by decide) fV))) (hI.fM (by decide) fV (by decide) (show 27≤56 by decide) rfl (ι _ _) rfl))
      ·exact cZ rfl rfl (bK (fun _=>trivial) (fun _ h=>by cases h) (dp rfl s4 (g4 _ (hI.below (by decide) fV))) (hI.fM (by decide) fV (by decide) (show 27≤56 by decide) rfl (ι _ _) rfl))
      ·have Fq:a.eval (.tmp 22)= ε (some ⟨gz,jz,none⟩) (r.length+1) cz:=hI.bC 1 (by decide) (cC ⟨1, .data⟩ (by simp) rfl);exact cZ rfl rfl (bK (fun _=>trivial) (fun _ h=>by cases h) (aan rfl Fq (by omega)) (hI.fM (by decide) fV (by decide) (show 27≤56 by decide) rfl (ι _ _) rfl))
      ·have Cz:a.eval (.tmp 23)= δ (some ⟨gz,jz,none⟩):=hI.bC 2 (by decide) (cC ⟨2, .data⟩ (by simp) rfl);exact cZ rfl rfl (bK (fun _=>trivial) (fun _ h=>by cases h) (dp rfl Cz (g5 _ (hI.below (by decide) fV))) (hI.fM (by decide) fV (by decide) (show 27≤56 by decide) rfl (ι _ _) rfl))
      ·have bT:∀j,j<4→L j=true:=by
        have l0:=cC ⟨0, .data⟩ (by simp) rfl;have l3:=cC ⟨3, .data⟩ (by simp) rfl;have l2:=hC 3 _ rfl l3 ⟨2, .data⟩ (by simp) rfl;have l1:=hC 2 _ rfl l2 ⟨1, .data⟩ (by simp) rfl;intro j hj;have gA:j=0∨j=1∨j=2∨j=3:=by omega
        rcases gA with rfl|rfl|rfl|rfl<;>assumption
       have Ph:a.eval (.tmp 21)= .func (.yield l) #[] #[]:=hI.bC 0 (by decide) (bT 0 (by decide));have Pj:a.eval (.tmp 24)= V Z z:=hI.bC 3 (by decide) (bT 3 (by decide));have fA:=(hI.pre fV).1;obtain⟨LP,tj,E6,Iv,mj,jj⟩:=hY'.out w' fA;refine cZ rfl rfl (Fo (fun _ h=>by cases h) (Tv rfl Ph Pj mj) jj ?_ ?_ ?_)
       ·rintro v W' (⟨he,hp⟩|⟨he,hp⟩|⟨c,he,_⟩)
        ·cases he;exact hI.Fp bT fV (by decide) (show 27≤56 by decide) (fun _=>⟨w',fA,hp⟩) (fun h=>by cases h) rfl
        ·cases he;exact hI.Fp bT fV (by decide) (show 27≤56 by decide) (fun h=>by cases h) (fun _=>⟨w',fA,hp⟩) rfl
        ·cases he
       ·rintro c W' (⟨he,_⟩|⟨he,_⟩|⟨c',he,hp⟩)
        ·cases he
        ·cases he
        ·cases he;obtain⟨mF,lq⟩:=(ms.below fA).yield qA hp;exact⟨hI.defers,lq.QN gG⟩
       ·rintro W' (⟨he,_⟩|⟨he,_⟩|⟨c',he,_⟩)<;>cases he
      ·have l4:=cC ⟨4, .data⟩ (by simp) rfl;obtain⟨_,b,Fs,_,_,_⟩:=hI.post l4;exact cZ rfl rfl (bK (fun _=>trivial) (fun _ h=>by cases h) (Gp rfl Fs) (hI.yL (by decide) fV l4 (by decide) (show 27≤56 by decide) (fun b' iZ=>by
        have adC:a.eval (.tmp 25)= .bool b':=iZ;have ae1:a.eval (.tmp 25)= .bool b:=Fs;rw[ae1]at adC;cases adC;rfl) rfl))
    case neg=>
     by_cases zv:z=t
     case pos=>
      subst zv;obtain⟨oR,kt,oK⟩:=nX (kD.out.trans aal);replace kt:=ad kt;obtain⟨v',CK,Md,hvk⟩:=ms.ls.tail;have CV:=ms.set IW adz (by omega) Md hvk;obtain⟨av,cv,rfl,_⟩:=Md;obtain⟨LP,tj,E6,Iv,mj,jj⟩:=xE.out q z oR _ D0 CV.yN CV.bE.dO CV.bE.Od CV.bE.on;have c3':=CV.y.cell (k:=0) rfl;clear oR kD;gi_wp2_with (refine adu rfl rfl rfl CK (fun _=>trivial) ?_);clear c3 c4 c3' f4 cR CK;refine(RoundIn.inRound l' jj).mono ?_;clear mj jj;rintro e WX (⟨rfl,hp⟩|⟨rfl,hp⟩|⟨ch,rfl,hp⟩)
      case inl=>
       obtain⟨mF,lq⟩:=CV.yield qA hp;clear hp;gi_wp2_with fail;exact lq.fin gG IW YO hn5 ⟨oK,kt.out⟩
      case inr.inl=>
       obtain⟨mF,lq⟩:=CV.yield qA hp;clear hp;gi_wp2_with fail;exact lq.QM gG
      case inr.inr=>
       obtain⟨mF,lq⟩:=CV.yield qA hp;clear hp;gi_wp2_with fail;exact⟨rfl,lq.QN gG⟩
     case neg=>
      obtain⟨oR,kt,oK⟩:=nX (kD.out.trans (aam (by omega)));replace kt:=ad kt;obtain⟨LP,tj,E6,Iv,mj,jj⟩:=xE.out q t oR wr D0 ms.yN ms.bE.dO ms.bE.Od ms.bE.on;have alF:(z==t)=false:=by simpa using zv
      clear oR kD;gi_wp2_with fail;clear c3 c4 f4 cR;refine(RoundIn.inRound l' jj).mono ?_;clear mj jj;rintro e WX (⟨rfl,hp⟩|⟨rfl,hp⟩|⟨ch,rfl,hp⟩)
      case inl=>
       obtain⟨mF,lq⟩:=ms.yield qA hp;clear hp;gi_wp2_with fail;exact lq.fin gG IW YO hn5 ⟨oK,kt.out⟩
      case inr.inl=>
       obtain⟨mF,lq⟩:=ms.yield qA hp;clear hp;gi_wp2_with fail;exact lq.QM gG
      case inr.inr=>
       obtain⟨mF,lq⟩:=ms.yield qA hp;clear hp;gi_wp2_with fail;exact⟨rfl,lq.QN gG⟩
end Go.Proofs.YthpndgcaoeokeaaGreatDoor
namespace Go.Proofs.YthpndgcaoeokeaaGreatDoor
open Tryz
open Go.RowKit Go.Sort
attribute [local go_sem] Oper.semAt_some
attribute [local go_sem] jt fy
attribute [local simp] jt fy
theorem TD (a:Act)(h:a.tmps.size=25)(hd:a.defers=[]):∃f:Nat→Value,a=⟨List.toArray (f 0::f 1::f 2::f 3::f 4::f 5::f 6::f 7::f 8::f 9::f 10::f 11::f 12::f 13::f 14::f 15::f 16::f 17::f 18::f 19::f 20::f 21::f 22::f 23::f 24::[]),[]⟩∧∀k,a.eval (.tmp k)=f k:=jo 25 a h hd
theorem oP.later {P:Program}{g:Nat}{lb:Array Value}{xs:List (Array Value)}{R:aB}{w w':θ}(h:oP P g lb xs R w)(hR:∀k,R k→k<w.heap.size)(hb:Below w.heap.size w w'):oP P g lb xs R w':=
 fun l W O J Js Jp hs hk=>h l W O J Js Jp (Nat.le_trans hb.size hs) fun k hr=>(hk k hr).trans (hb.block k (hR k hr))
def pP (hr:Bool)(r:au)(st f to:Int)(ex xt:List Int):List Int:=jO (zC hr r st f to ex) (jk st f to ex xt)
def BQ (ln:Int)(l:List Int):List (Array Value):=l.map fun b=>#[.agg #[V Z b, V Z (b+ln)]]
theorem AO (ln:Int)(l:List Int):(BQ ln l).length=l.length:=by unfold BQ;simp
theorem Ja {ln:Int}{l:List Int}{i:Nat}{b:Int}(h:l[i]?=some b):(BQ ln l)[i]?=some #[.agg #[V Z b, V Z (b+ln)]]:=by unfold BQ;rw[ξ,h];rfl
theorem V7 (g:Nat)(lb:Array Value)(a:Option Addr)(n c:Nat)(w:θ):
 Calls prog 158 #[.func (.func g) #[] lb, ε a n c] w fun e w'=>e= .returned (.func (.func 214) #[] #[δ (some ⟨w.heap.size+1,0,none⟩), δ (some ⟨w.heap.size,0,none⟩)])∧w'=(w.alloc (ζ #[.func (.func g) #[] lb] 196)).alloc (ζ #[ε a n c] 54):=by
 go_enter func158,ntmps158;go_wp2_with fail;go_ret;exact⟨rfl,rfl⟩
def NI (W:θ)(u:ByteArray)(st ln:Int)(hr:Bool)(r:au)(m md wk pl:Value)(tx:ByteArray)(aG aI:Value)(ex xt:List Int)(tr:Bool)(k:Int)(f to:Int)(i:Nat)(v:Value)(w:θ):Prop:=match i with
 |0=>v= .agg (dQ u st ln hr r m md wk pl tx aG aI tr k).toArray
 |1=>v= V Z f
 |2=>v= V Z to
 |3=>∃g lb R,v= .func (.func g) #[] lb∧oP prog g lb (pM (zC hr r st f to ex)) R w∧(∀k,R k→k<w.heap.size∧(qz m md wk pl aG aI k∨W.heap.size≤k))∧(∀args w,(callFunc g args).run prog w= .ok (.enter g args) w)
 |4=>v= .agg (dQ u st ln hr r m md wk pl tx aG aI tr k).toArray
 |5=>v= V Z f
 |6=>v= V Z to
 |7=>w.ownsRow W.heap.size 3 1 v (jk st f to ex xt).length (ints (jk st f to ex xt))
 |_=>∃g lb R,v= .func (.func g) #[] lb∧oP prog g lb (pM (pP hr r st f to ex xt)) R w∧(∀k,R k→k<w.heap.size∧(qz m md wk pl aG aI k∨W.heap.size≤k))∧(∀args w,(callFunc g args).run prog w= .ok (.enter g args) w)
theorem NI.grow {W:θ}{u:ByteArray}{st ln:Int}{hr:Bool}{r:au}{m md wk pl:Value}{tx:ByteArray}{aG aI:Value}{ex xt:List Int}{tr:Bool}{k f to:Int}(i:Nat)(v:Value)(w w':θ)(h:NI W u st ln hr r m md wk pl tx aG aI ex xt tr k f to i v w)(hb:Below w.heap.size w w'):NI W u st ln hr r m md wk pl tx aG aI ex xt tr k f to i v w':=by
 match i,h with
 |0,h|1,h|2,h|4,h|5,h|6,h=>exact h
 |3,h=>
  obtain⟨g,lb,R,h1,h2,h3,h4⟩:=h;exact⟨g,lb,R,h1,h2.later (fun k hk=>(h3 k hk).1) hb,fun k hk=>⟨η (h3 k hk).1 hb.size,(h3 k hk).2⟩,h4⟩
 |7,h=>exact fa h fun g hg=>hb.block g (World.ownsRow.lt h g hg).2
 |n+8,h=>
  obtain⟨g,lb,R,h1,h2,h3,h4⟩:=h;exact⟨g,lb,R,h1,h2.later (fun k hk=>(h3 k hk).1) hb,fun k hk=>⟨η (h3 k hk).1 hb.size,(h3 k hk).2⟩,h4⟩
def wL (l be bf bt b4:Nat):List (Nat×Value):=[(0, .func (.yield l) #[] #[]),(1, δ (some ⟨be,0,none⟩)),(2, δ (some ⟨bf,0,none⟩)),(3, δ (some ⟨bt,0,none⟩)),(4, δ (some ⟨b4,0,none⟩))]
theorem V8 {b:Nat}{w:θ}{u:ByteArray}{st ln:Int}{hr:Bool}{r:au}{m md wk pl:Value}{tx:ByteArray}{aG aI:Value}{tr:Bool}{k:Int}(h:af w b (dQ u st ln hr r m md wk pl tx aG aI tr k) 79):(κ 79 (δ (some ⟨b,0,none⟩))).run prog w= .ok (.agg (dQ u st ln hr r m md wk pl tx aG aI tr k).toArray) w:=
 run_loadAt_mid w b 0 79 _ _ (dc h) underlying79 rfl LX
end Go.Proofs.YthpndgcaoeokeaaGreatDoor
