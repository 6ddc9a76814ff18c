import Derived.Test.YthpndgcaoeokeaaGreatDoorCo29
set_option maxRecDepth 100000
set_option maxHeartbeats 8000000
open Go.IntKind renaming i64→Z
open Go.Value renaming int→V,pointer→ζ,slice→η
open Go.Ending renaming returned→δ,panicked→ε
open Go.Obj renaming cells→θ
open Go.RowKit.Below renaming refl→ι,heap_setCell→Δ
open Nat renaming lt_of_lt_of_le→κ,le_refl→μ,le_trans→φ,reduceSub→Ν,reduceAdd→Ξ
open Go.World renaming putObj_heap_other→ν
open Bool renaming and_eq_true→ξ,false_eq_true→π,false_and→Λ,true_and→Μ
open Go renaming World→ο,Calls→χ,Ending→Ο
open List renaming not_mem_nil→ρ,mem_cons→τ,getElem?_eq_getElem→υ,mem_of_getElem?→Α,mem_cons_of_mem→Β,append_toArray→Γ,size_toArray→Ε,push_toArray→Ζ,length_cons→Η,cons_append→Θ,nil_append→Ι,length_nil→Κ
open Array renaming replicate_zero→ψ,replicate_succ→ω
namespace Go.Proofs.YthpndgcaoeokeaaGreatDoor
open Tryz
open Go.RowKit Go.Sort
attribute [local go_sem] Oper.semAt_some
attribute [local go_sem] jt fy
attribute [local simp] jt fy
theorem adD (l be bf bt b4:Nat)(W:ο)(u:ByteArray)(st ln:Int)(hr:Bool)(r:au)(m md wk pl:Value)(tx:ByteArray)(aG aI:Value)(ex xt:List Int)(tr:Bool)(k:Int)(f to:Int):EF (fun i=>6+i) (wL l be bf bt b4) 25 9 (NI W u st ln hr r m md wk pl tx aG aI ex xt tr k f to):=
 ⟨fun i hi=>by show 6+i<25;omega,fun i j hi hj h=>by have h':6+i=6+j:=h;omega,fun p hp i hi=>by
  simp only[wL,τ,ρ,or_false]at hp;show p.1≠6+i;rcases hp with rfl|rfl|rfl|rfl|rfl<;>simp<;>omega,NI.grow⟩
theorem aap (u:ByteArray)(st ln:Int)(hr:Bool)(r:au)(m md wk pl:Value)(tx:ByteArray)(aG aI:Value)(ex xt:List Int)(tr:Bool)(k:Int)(f to:Int)(be bf bt:Nat)(w:ο)(hl:ny w hr r m md wk pl aG aI ex xt)
 (s0:0≤st)(s1:st≤7258118400)(l0:0≤ln)(l1:ln≤10000000)(f0:-1000000000000≤f)(f1:f≤7258118400)(t0:0≤to)(t1:to≤7258118400)(AS:∀t∈pP hr r st f to ex xt,-100000000000≤t∧t≤100000000000)
 (q1:af w be (dQ u st ln hr r m md wk pl tx aG aI tr k) 79)(q2:af w bf [V Z f] 3)(q3:af w bt [V Z to] 3):
 oP prog 157 #[ζ (some ⟨be,0,none⟩), ζ (some ⟨bf,0,none⟩), ζ (some ⟨bt,0,none⟩)] (BQ ln (pP hr r st f to ex xt)) (fun k=>k=be∨k=bf∨k=bt∨qz m md wk pl aG aI k) w:=by
 intro l W O J Js Jp bu hR hO eQ hY;have ie:=hl.keep fun k hk=>hR k (.inr (.inr (.inr hk)));replace q1:=q1.keep (hR be (.inl rfl));replace q2:=q2.keep (hR bf (.inr (.inl rfl)));replace q3:=q3.keep (hR bt (.inr (.inr (.inl rfl))));have I4:¬O be:=fun h=>hO be h (.inl rfl);have Tw:∀k,O k→¬qz m md wk pl aG aI k:=fun k h h'=>hO k h (.inr (.inr (.inr h')));have ahV:=q1.lt;have hRB:Hid (∀wr,Below W.heap.size W wr→χ prog 159 #[.agg (dQ u st ln hr r m md wk pl tx aG aI tr k).toArray, V Z f, V Z to] wr (xG (pM (zC hr r st f to ex)) (qz m md wk pl aG aI) wr)):=
  ad fun wr hb=>L9 u st ln hr r m md wk pl tx aG aI ex xt tr k f to wr (ie.on hb) s0 s1 f0 f1 t0 t1
 have hXB:Hid (∀wr,Below W.heap.size W wr→χ prog 160 #[.agg (dQ u st ln hr r m md wk pl tx aG aI tr k).toArray, V Z f, V Z to] wr fun e w'=>∃v,e= δ v∧w'.ownsRow wr.heap.size 3 1 v (jk st f to ex xt).length (ints (jk st f to ex xt))∧Below wr.heap.size wr w'):=
  ad fun wr hb=>JQ u st ln hr r m md wk pl tx aG aI ex xt tr k f to wr (ie.on hb)
 have ae2:∀k,qz m md wk pl aG aI k→k<W.heap.size∧¬O k:=fun k h=>⟨ie.jG h,fun h'=>Tw k h' h⟩;clear hR hO hl bu ie Tw;have xE:=ad (fun(i:Nat) (t:Int) (h:(pP hr r st f to ex xt)[i]?=some t)=>hY i _ (Ja h));clear hY;rw[AO];have egM:∀args w,(callFunc 214 args).run prog w= .ok (.enter 214 args) w:=enters_of func214 (by kernel_rfl) rfl;refine iM func157 rfl ?_;simp only[ntmps157,Ε,Η,Κ,Ξ,Ν,ω,ψ,Ζ,Γ,Ι,Θ];refine dy fun K hK=>ei ?_;gi_wp2_with fail;have r4:af (W.alloc (θ #[.func (.yield l) #[] #[]] 194)) W.heap.size [.func (.yield l) #[] #[]] 194:=af.new W [.func (.yield l) #[] #[]] 194;have ah:Below W.heap.size W (W.alloc (θ #[.func (.yield l) #[] #[]] 194)):=(ι _ _).alloc (μ _) _;have Kv:W.heap.size<(W.alloc (θ #[.func (.yield l) #[] #[]] 194)).heap.size:=by simp
 generalize W.alloc (θ #[.func (.yield l) #[] #[]] 194)=W2 at *
 refine dy fun K1 aP=>ei (wpIn_wide.2 ?_);have S:=adD l be bf bt W.heap.size W2 u st ln hr r m md wk pl tx aG aI ex xt tr k f to;have p1:=ad fun w' (h:Below W2.heap.size W2 w')=>V8 ((q1.on ah).on h);have p2:=ad fun w' (h:Below W2.heap.size W2 w')=>iH (((q2.on ah).on h).cell (k:=0) rfl);have p3:=ad fun w' (h:Below W2.heap.size W2 w')=>iH (((q3.on ah).on h).cell (k:=0) rfl);refine fT (GV (fun i=>6+i) (NI W2 u st ln hr r m md wk pl tx aG aI ex xt tr k f to)) (JV 25 (wL l be bf bt W.heap.size) W2) (by kernel_rfl) (by kernel_rfl) (by kernel_rfl) ?rops ?rdone ⟨rfl,rfl,fun p hp=>by
  simp only[wL,τ,ρ,or_false]at hp;rcases hp with rfl|rfl|rfl|rfl|rfl<;>rfl,(ι _ _).drew⟩
 case rops=>
  intro i o ho a w' hI hG;have hi:i<9:=(Array.getElem?_eq_some_iff.1 ho).1;have tj:a.eval (.tmp 1)= ζ (some ⟨be,0,none⟩):=hI.fixed (1,_) (by simp[wL]);have t2':a.eval (.tmp 2)= ζ (some ⟨bf,0,none⟩):=hI.fixed (2,_) (by simp[wL]);have YU:a.eval (.tmp 3)= ζ (some ⟨bt,0,none⟩):=hI.fixed (3,_) (by simp[wL]);have pj:=ah.trans (hI.below.mono ah.size);have gA:i=0∨i=1∨i=2∨i=3∨i=4∨i=5∨i=6∨i=7∨i=8:=by omega
  rcases gA with rfl|rfl|rfl|rfl|rfl|rfl|rfl|rfl|rfl<;>obtain rfl:=Option.some.inj ho
  ·exact aj (dp rfl tj (p1.out _ hI.below)) (cg S rfl (by decide) hI (ι _ _) rfl)
  ·exact aj (dp rfl t2' (p2.out _ hI.below)) (cg S rfl (by decide) hI (ι _ _) rfl)
  ·exact aj (dp rfl YU (p3.out _ hI.below)) (cg S rfl (by decide) hI (ι _ _) rfl)
  ·have e1:a.eval (.tmp 6)= .agg (dQ u st ln hr r m md wk pl tx aG aI tr k).toArray:=hG ⟨0, .data⟩ (by simp) rfl;have e2:a.eval (.tmp 7)= V Z f:=hG ⟨1, .data⟩ (by simp) rfl;have e3:a.eval (.tmp 8)= V Z to:=hG ⟨2, .data⟩ (by simp) rfl;refine dK (f:=159) (args:=#[a.eval (.tmp 6),a.eval (.tmp 7),a.eval (.tmp 8)]) (by kernel_rfl) (by rw[e1,e2,e3];exact hRB.out w' pj) ?_ (by rintro c aA ⟨_,_,_,e,_⟩;cases e) (by rintro aA ⟨_,_,_,e,_⟩;cases e);rintro v aA ⟨g,lb,R,e,h2,h3,h4,h5⟩;cases e;exact cg S rfl (by decide) hI h5 ⟨g,lb,R,rfl,h2,fun k hk=>⟨(h3 k hk).1,(h3 k hk).2.imp id fun h=>φ hI.below.size h⟩,h4⟩
  ·exact aj (dp rfl tj (p1.out _ hI.below)) (cg S rfl (by decide) hI (ι _ _) rfl)
  ·exact aj (dp rfl t2' (p2.out _ hI.below)) (cg S rfl (by decide) hI (ι _ _) rfl)
  ·exact aj (dp rfl YU (p3.out _ hI.below)) (cg S rfl (by decide) hI (ι _ _) rfl)
  ·have e1:a.eval (.tmp 10)= .agg (dQ u st ln hr r m md wk pl tx aG aI tr k).toArray:=hG ⟨4, .data⟩ (by simp) rfl;have e2:a.eval (.tmp 11)= V Z f:=hG ⟨5, .data⟩ (by simp) rfl;have e3:a.eval (.tmp 12)= V Z to:=hG ⟨6, .data⟩ (by simp) rfl;refine dK (f:=160) (args:=#[a.eval (.tmp 10),a.eval (.tmp 11),a.eval (.tmp 12)]) (by kernel_rfl) (by rw[e1,e2,e3];exact hXB.out w' pj) ?_ (by rintro c aA ⟨_,e,_⟩;cases e) (by rintro aA ⟨_,e,_⟩;cases e);rintro v aA ⟨v',e,h2,h3⟩;cases e;exact cg S rfl (by decide) hI h3 (sr h2 hI.below.size)
  ·obtain⟨g,lb,R,e1,hit,hR,eg⟩:∃g lb R,a.eval (.tmp 9)= .func (.func g) #[] lb∧oP prog g lb (pM (zC hr r st f to ex)) R w'∧(∀k,R k→k<w'.heap.size∧(qz m md wk pl aG aI k∨W2.heap.size≤k))∧(∀args w,(callFunc g args).run prog w= .ok (.enter g args) w):=hG ⟨3, .data⟩ (by simp) rfl;have e2:w'.ownsRow W2.heap.size 3 1 (a.eval (.tmp 13)) (jk st f to ex xt).length (ints (jk st f to ex xt)):=hG ⟨7, .data⟩ (by simp) rfl;obtain⟨av,cv,e3⟩:=th e2;refine dK (f:=158) (args:=#[a.eval (.tmp 9),a.eval (.tmp 13)]) (by kernel_rfl) (by rw[e1,e3];exact V7 g lb av _ cv w') ?_ (by rintro c aA ⟨e,_⟩;cases e) (by rintro aA ⟨e,_⟩;cases e);rintro v aA ⟨e,rfl⟩;cases e;have x0:=pH w' [.func (.func g) #[] lb] 196 (θ #[η av (jk st f to ex xt).length cv] 54);have x1:=pI w' [η av (jk st f to ex xt).length cv] 54 (θ #[.func (.func g) #[] lb] 196);have xb:=mh w' (θ #[.func (.func g) #[] lb] 196) (θ #[η av (jk st f to ex xt).length cv] 54);rw[e3]at e2;have nT:=LS.adt (fa e2 (w':=(w'.alloc (θ #[.func (.func g) #[] lb] 196)).alloc (θ #[η av (jk st f to ex xt).length cv] 54)) fun g hg=>xb.block g (World.ownsRow.lt e2 g hg).2);have alG:((w'.alloc (θ #[.func (.func g) #[] lb] 196)).alloc (θ #[η av (jk st f to ex xt).length cv] 54)).heap.size=w'.heap.size+2:=by simp
   have hmi:=TB (zC hr r st f to ex) (jk st f to ex xt) g lb R (w'.heap.size+1) w'.heap.size _ _ (hit.later (fun k hk=>(hR k hk).1) xb) eg (fun k hk=>κ (hR k hk).1 xb.size) x1 x0 nT (fun k hk=>by have:=(World.ownsRow.lt e2 k hk).2;omega);have hsI:=hI.below.size;refine cg S rfl (by decide) hI xb ⟨_,_,_,rfl,hmi,fun k hk=>?_,egM⟩;rcases hk with rfl|rfl|h|h
   ·exact⟨by omega, .inr (by omega)⟩
   ·exact⟨by omega, .inr (by omega)⟩
   ·exact⟨by have:=(hR k h).1;omega,(hR k h).2⟩
   ·have:=World.ownsRow.lt e2 k h;exact⟨by omega, .inr this.1⟩
 case rdone=>
  intro a w3 hI hG;obtain⟨g,lb,R,OW,hit,xv,eg⟩:∃g lb R,a.eval (.tmp 14)= .func (.func g) #[] lb∧oP prog g lb (pM (pP hr r st f to ex xt)) R w3∧(∀k,R k→k<w3.heap.size∧(qz m md wk pl aG aI k∨W2.heap.size≤k))∧(∀args w,(callFunc g args).run prog w= .ok (.enter g args) w):=hG 8 (by decide);have t0':a.eval (.tmp 0)= .func (.yield l) #[] #[]:=hI.fixed (0,_) (by simp[wL]);have tj:a.eval (.tmp 1)= ζ (some ⟨be,0,none⟩):=hI.fixed (1,_) (by simp[wL]);have t4':a.eval (.tmp 4)= ζ (some ⟨W.heap.size,0,none⟩):=hI.fixed (4,_) (by simp[wL]);have bw:=hI.below;have LN:=hI.size;have nM:=hI.defers;clear hI hG S p1 p2 p3 hRB hXB egM;refine aP a w3 ?_;clear aP;obtain⟨fr,rfl,hf⟩:=TD a LN nM;have g0:=(hf 0).symm.trans t0';have g1:=(hf 1).symm.trans tj;have g4:=(hf 4).symm.trans t4';have g14:=(hf 14).symm.trans OW;rw[g0,g1,g4,g14];clear hf LN nM t0' tj t4' OW g0 g1 g4 g14;generalize pP hr r st f to ex xt=XS at *
  replace r4:=r4.on bw;replace ah:=ah.trans (bw.mono ah.size);have Yx:=bw.size;refine nW ?_;refine pL (gf:=g) (lb:=lb) func157 ?g eg hit (μ _) (fun _ _=>rfl) (fun k hk=>(xv k hk).1)
   O (fun k hk lR=>by
    rcases(xv k lR).2 with h|h
    ·exact(ae2 k h).2 hk
    ·have:=eQ.1 k hk;omega) (DK O W J fun q i=>q=i) (rb O W (J XS.length) Js) (fun c=>DX O W (Jp c)) ?ps ?start ?round ?done ?stop ?pan
  case g=>rfl
  case ps=>intro x hx;obtain⟨d,_,rfl⟩:=List.mem_map.1 hx;rfl
  case start=>exact DK.ic (fun k hk=>by have:=eQ.1 k hk;omega) ⟨0,O,⟨fun k hk=>hk,fun k hk=> .inl hk,fun k hk=>hk,eQ.below ah⟩,rfl⟩
  case stop=>
   rintro c W4 ⟨hx,D,er,_,bq⟩ hs du;have iA:aK O W (W4.putObj w3.heap.size (.deferred none)):=((aK.bG ah).fY hx).put (.inr (by omega)) _;have gi:¬D w3.heap.size:=fun h=>(er _ h).elim (fun h=>by have:=eQ.1 _ h;omega) (by omega);obtain⟨rfl,h⟩:=bq.out;have ti:=ad (show bR O W.heap.size (J XS.length) W (W4.putObj w3.heap.size (.deferred none))∨bR O W.heap.size Js W (W4.putObj w3.heap.size (.deferred none))from by
    rcases h with⟨D0,h⟩|⟨D0,h⟩
    ·exact .inl ((h.put gi _).fin iA)
    ·exact .inr ((h.put gi _).fin iA))
   clear h bq er;gi_wp2_with fail;refine⟨by simp, .inl ⟨_,_,rfl,run_takeDeferred du,?_⟩⟩;exact⟨_,results_none rfl _ _ _, .inl ⟨⟨_,rfl⟩,ti.out⟩⟩
  case pan=>
   rintro c W4 ⟨hx,D,er,_,bq⟩ hs du;have iA:aK O W (W4.putObj w3.heap.size (.deferred none)):=((aK.bG ah).fY hx).put (.inr (by omega)) _;have gi:¬D w3.heap.size:=fun h=>(er _ h).elim (fun h=>by have:=eQ.1 _ h;omega) (by omega);obtain⟨D0,h⟩:=bq.out;refine⟨by simp, .inl ⟨_,_,rfl,run_takeDeferred du,?_⟩⟩;exact .inr ⟨c,rfl,(h.put gi _).fin iA⟩
  case done=>
   rw[pN];rintro W4 ⟨hx,D,er,_,bq⟩ hs du;have iA:aK O W (W4.putObj w3.heap.size (.deferred none)):=((aK.bG ah).fY hx).put (.inr (by omega)) _;have gi:¬D w3.heap.size:=fun h=>(er _ h).elim (fun h=>by have:=eQ.1 _ h;omega) (by omega);obtain⟨q,D0,bE,hq⟩:=bq.out;refine⟨by simp, .inl ⟨_,_,rfl,run_takeDeferred du,?_⟩⟩;exact⟨_,results_none rfl _ _ _, .inl ⟨⟨_,rfl⟩, .inl (by rw[←hq];exact(bE.put gi _).fin iA)⟩⟩
  case round=>
   intro YH i x hx W4 D SW hs qZ bq K hK;obtain⟨t,hd⟩:∃t,XS[i]?=some t:=⟨_,υ (by have:=(List.getElem?_eq_some_iff.1 hx).1;rwa [pN]at this)⟩;rw[yM hd]at hx;cases hx;have htb:=AS t (Α hd);gi_wp2_with fail;refine hK _ _ D (ι _ _) (fun k hk=> .inl hk) (fun k hk=>hk) (fun k hk=>bq.1 k hk) ?_;intro l' W5 gm fZ SX;have iX:=bq.on (W':=W5) gm;have Cy:aK O W W5:=(aK.bG ah).fY fZ;have y1:=(q1.aQ Cy I4).cell (k:=2) rfl;have y4:=(r4.aQ fZ (fun h=>by have:=eQ.1 _ h;omega)).cell (k:=0) rfl;have gG:∀k,D k→k<W5.heap.size:=iX.1;have qA:W.heap.size≤W5.heap.size:=by omega
   clear hK gm hit bq xv AS;obtain⟨q,D0,bE,rfl⟩:=iX.out;clear iX;obtain⟨LP,tj,E6,Iv,mj,jj⟩:=xE.out q t hd W5 D0 Cy bE.dO bE.Od bE.on;clear hd;gi_wp2_with fail;refine(RoundIn.inRound l' jj).mono ?_;clear mj jj y1 y4;rintro e WX (⟨rfl,hp⟩|⟨rfl,hp⟩|⟨ch,rfl,hp⟩)
   case inl=>
    obtain⟨ig,gu,oS,jT⟩:=bE.post qA hp;have iq:aK D W5 WX:=jT.mono (fun k hk=> .inl (bE.sub k hk));clear hp;gi_wp2_with fail;exact⟨iq,fun k=>D k∨ig k,fun k hk=>hk.elim .inl fun h=>(oS k h).elim (fun h=> .inl (bE.sub k h)) .inr,fun _ hk=> .inl hk,DK.ic (fun k hk=>hk.elim (fun h=>κ (gG k h) iq.size) (fun h=>gu.on.1 k h)) ⟨q+1,ig,gu,rfl⟩⟩
   case inr.inl=>
    obtain⟨ig,gu,oS,jT⟩:=bE.post qA hp;have iq:aK D W5 WX:=jT.mono (fun k hk=> .inl (bE.sub k hk));clear hp;gi_wp2_with fail;exact⟨iq,fun k=>D k∨ig k,fun k hk=>hk.elim .inl fun h=>(oS k h).elim (fun h=> .inl (bE.sub k h)) .inr,fun _ hk=> .inl hk,rb.YG (DX.ic (fun k hk=>hk.elim (fun h=>κ (gG k h) iq.size) (fun h=>gu.on.1 k h)) ⟨ig,gu⟩)⟩
   case inr.inr=>
    obtain⟨ig,gu,oS,jT⟩:=bE.post qA hp;have iq:aK D W5 WX:=jT.mono (fun k hk=> .inl (bE.sub k hk));clear hp;gi_wp2_with fail;exact⟨rfl,iq,fun k=>D k∨ig k,fun k hk=>hk.elim .inl fun h=>(oS k h).elim (fun h=> .inl (bE.sub k h)) .inr,fun _ hk=> .inl hk,DX.ic (fun k hk=>hk.elim (fun h=>κ (gG k h) iq.size) (fun h=>gu.on.1 k h)) ⟨ig,gu⟩⟩
theorem JY (u:ByteArray)(st ln:Int)(hr:Bool)(r:au)(m md wk pl:Value)(tx:ByteArray)(aG aI:Value)(ex xt:List Int)(tr:Bool)(k:Int)(f to:Int)(w:ο)(hl:ny w hr r m md wk pl aG aI ex xt)
 (s0:0≤st)(s1:st≤7258118400)(l0:0≤ln)(l1:ln≤10000000)(f0:-1000000000000≤f)(f1:f≤7258118400)(t0:0≤to)(t1:to≤7258118400)(AS:∀t∈pP hr r st f to ex xt,-100000000000≤t∧t≤100000000000):
 χ prog 90 #[.agg (dQ u st ln hr r m md wk pl tx aG aI tr k).toArray, V Z f, V Z to] w (xG (BQ ln (pP hr r st f to ex xt)) (qz m md wk pl aG aI) w):=by
 have AM:∀args w,(callFunc 157 args).run prog w= .ok (.enter 157 args) w:=enters_of func157 (by kernel_rfl) rfl;replace AM:=ad AM;have q0:=qs w (dQ u st ln hr r m md wk pl tx aG aI tr k) 79 (θ #[V Z f] 3) (θ #[V Z to] 3);have q1:=qt w (θ (dQ u st ln hr r m md wk pl tx aG aI tr k).toArray 79) [V Z f] 3 (θ #[V Z to] 3);have q2:=qu w (θ (dQ u st ln hr r m md wk pl tx aG aI tr k).toArray 79) (θ #[V Z f] 3) [V Z to] 3;have ah:=mi w (θ (dQ u st ln hr r m md wk pl tx aG aI tr k).toArray 79) (θ #[V Z f] 3) (θ #[V Z to] 3);have hit:=ad (aap u st ln hr r m md wk pl tx aG aI ex xt tr k f to w.heap.size (w.heap.size+1) (w.heap.size+1+1) _ (hl.on ah) s0 s1 l0 l1 f0 f1 t0 t1 AS q0 q1 q2);have mH:=ad (fun k (h:qz m md wk pl aG aI k)=>hl.jG h);clear hl q0 q1 q2 AS;generalize dQ u st ln hr r m md wk pl tx aG aI tr k=E at *
 go_enter func90,ntmps90;go_wp2_with fail;go_ret;refine⟨_,_,_,rfl,hit.out,fun k hk=>?_,AM.out,ah⟩;rcases hk with rfl|rfl|rfl|h
 ·exact⟨by simp;omega, .inr (μ _)⟩
 ·exact⟨by simp, .inr (by omega)⟩
 ·exact⟨by simp, .inr (by omega)⟩
 ·exact⟨by have:=mH.out k h;simp;omega, .inl h⟩
end Go.Proofs.YthpndgcaoeokeaaGreatDoor
namespace Go.Proofs.YthpndgcaoeokeaaGreatDoor
open Tryz
open Go.RowKit
def xJ (F:Nat→Option (List UInt8)):au:=
 ⟨(oh (F 0)).getD 0,(mK 1 100 ((F 1).getD [49])).getD 0,(wF (F 2)).getD 0,(wG (F 3)).getD 0,(dJ (mK 1 12) (F 4)).getD [],(dJ (qQ 31) (F 5)).getD [],(dJ lg (F 6)).getD [],(dJ (qQ 366) (F 7)).getD [],(wE ((F 8).getD [77,79])).getD 0⟩
def TF:au:=⟨0,0,0,0,[],[],[],[],0⟩
theorem Jd {F:Nat→Option (List UInt8)}{r:au}(h:kH F r):xJ F=r:=by
 unfold xJ;rw[h.fq,h.iv,h.ct,h.un,h.ms,h.mds,h.wks,h.pls,h.ws];rfl
theorem TG {lo hi z:Int}{v:List UInt8}(h:mK lo hi v=some z):lo≤z∧z≤hi:=by
 unfold mK at h;split at h
 ·rename_i hw;cases h;unfold lP at hw;simp only[ξ,decide_eq_true_eq]at hw;exact⟨hw.1.2,hw.2⟩
 ·cases h
theorem xK {z:Int}{v:List UInt8}(h:ea v=some z):0≤z∧z≤7258118399:=by
 unfold ea at h;split at h
 ·cases h;exact Dt (by assumption)
 ·cases h
theorem Pk {α:Type}{rd:List UInt8→Option α}{p:α→Prop}(hp:∀v z,rd v=some z→p z):∀{ps:List (List UInt8)} {zs:List α},fc rd ps=some zs→∀z∈zs,p z
 |[],zs,h,z,hz=>by cases h;simp at hz
 |l::r,zs,h,z,hz=>by
  rw[fc]at h;cases h1:rd l with
  |none=>rw[h1]at h;cases h
  |some a=>
   rw[h1]at h;cases h2:fc rd r with
   |none=>simp only[h2]at h;cases h
   |some b=>
    simp only[h2,Option.map_some,Option.some.injEq]at h;subst h;rcases List.mem_cons.1 hz with rfl|hz
    ·exact hp l z h1
    ·exact Pk hp h2 z hz
theorem GJ {α:Type}{rd:List UInt8→Option α}{p:α→Prop}(hp:∀v z,rd v=some z→p z){f:Option (List UInt8)}{zs:List α}(h:dJ rd f=some zs):∀z∈zs,p z:=by
 unfold dJ at h;split at h
 ·cases h;intro z hz;simp at hz
 ·split at h
  ·exact Pk hp h
  ·cases h
theorem aaq (v:List UInt8)(m:Int)(hm:0≤m):-m≤cT v m∧cT v m≤m:=by
 unfold cT within;split
 ·split
  ·rename_i h1 h2;simp only[ξ,decide_eq_true_eq]at h2;omega
  ·omega
 ·split
  ·rename_i h1 h2;simp only[ξ,decide_eq_true_eq]at h2;omega
  ·omega
theorem adE {v:List UInt8}{p:Int×Int}(h:lg v=some p):-53≤p.1∧p.1≤53:=by
 unfold lg at h;split at h
 ·cases h
 ·split at h
  ·cases h;simp
  ·split at h
   ·cases h
   ·cases h;exact aaq _ 53 (by decide)
theorem yP {F:Nat→Option (List UInt8)}{r:au}(h:kH F r):cX r:=by
 have h1:=h.fq;have h2:=TG h.iv;have h3:=h.ct;have h4:=h.un;have h9:=h.ws;unfold oh at h1;unfold wE at h9;obtain⟨k,hk,e1⟩:=Option.map_eq_some_iff.1 h1;obtain⟨k9,IN,e9⟩:=Option.map_eq_some_iff.1 h9;have l1:=zP hk;have l9:=zP IN;have n1:iD.length=4:=rfl;have n9:dE.length=7:=rfl;have c3:0≤r.ct∧r.ct≤1000:=by
  unfold wF at h3;split at h3
  ·injection h3 with h3;omega
  ·have:=TG h3;omega
 have c4:0≤r.un∧r.un≤9223372036854775807:=by
  unfold wG at h4;split at h4
  ·injection h4 with h4;omega
  ·have:=xK h4;omega
 exact⟨by omega,by omega,h2.1,h2.2,c3.1,c3.2,c4.1,c4.2,by have:=rV h.ms;omega,by have:=rV h.mds;omega,by have:=rV h.wks;omega,by have:=rV h.pls;omega,GJ (fun v z hz=>adE hz) h.wks,by omega,by omega⟩
theorem Pm {f:Option (List UInt8)}{zs:List Int}(h:qR f=some zs):∀z∈zs,0≤z∧z≤7258118400:=by
 unfold qR at h;obtain⟨ys,hy,rfl⟩:=Option.map_eq_some_iff.1 h;intro z hz;have h1:=GJ (p:=fun z=>0≤z∧z≤7258118399) (fun v z hz=>xK hz) hy;have h2:z∈ys:=((J7 ys).2 z).1 hz;have:=h1 z h2;omega
def YV (d:iT)(E:Ο)(w':ο):Prop:=
 ((0≤d.st∧d.st≤7258118399)∧(1≤d.ln∧d.ln≤2678400)∧(∀t∈d.ex,0≤t∧t≤7258118400)∧(∀t∈d.xt,0≤t∧t≤7258118400)∧d.ex.length≤20∧d.xt.length≤20)∧∃aG aI,dn w' aG d.ex∧dn w' aI d.xt∧((d.rl=none∧E= δ (zh (bH (val d.f 0)) d.st d.ln false aU aG aI (eO d.f) (kindOf d.f - 1)))∨
  ∃(F:Nat→Option (List UInt8)) (r:au) (m md wk pl:Value),d.rl=some F∧kH F r∧cN w' m r.ms∧cN w' md r.mds∧iB w' wk r.wks∧cN w' pl r.pls∧E= δ (zh (bH (val d.f 0)) d.st d.ln true (bW r.fq r.iv r.ct r.un m md wk pl r.ws (gw F)) aG aI (eO d.f) (kindOf d.f - 1)))
theorem QP {s:List UInt8}{w w':ο}{E:Ο}(h:Kx s w E w'):((∃x,cG s= .error x∧E= ε (bN x))∨∃d,cG s= .ok d∧YV d E w')∧Below w.heap.size w w':=by
 have h':=uK h;refine⟨?_,h'.2⟩;rcases h'.1 with hx|⟨d,hd,_⟩
 ·exact .inl hx
 obtain⟨h,hb⟩:=h;rcases h with⟨F,tr,k,st,ln,ex,xt,hH,hT,hE⟩|⟨hn,rfl⟩|⟨⟨F,tr,k,hH,hn⟩,rfl⟩|⟨⟨F,tr,k,st,ln,ex,xt,v,hH,hT,hv,hn⟩,rfl⟩
 ·obtain⟨f,hf,rfl,rfl,rfl⟩:=(nu s F tr k).1 hH;obtain⟨h1,h2,h3,h4⟩:=uJ.1 hT;have hr:=xc hf h1 h2 h3 h4;have jg:(0≤st∧st≤7258118399)∧(1≤ln∧ln≤2678400)∧(∀t∈ex,0≤t∧t≤7258118400)∧(∀t∈xt,0≤t∧t≤7258118400)∧ex.length≤20∧xt.length≤20:=⟨xK h1,EM h2,Pm hT.hex,Pm hT.lG,sh h3,sh h4⟩;obtain⟨aG,aI,i1,i2,hE⟩:=hE;right;rcases hE with⟨h0,rfl⟩|⟨v,F',r,m,md,wk,pl,hv,hR,q1,q2,q3,q4,rfl⟩
  ·have e4:f 4=none:=h0;rw[e4]at hr;exact⟨⟨f,st,ln,ex,xt,none⟩,hr,jg,aG,aI,i1,i2, .inl ⟨rfl,rfl⟩⟩
  ·have e4:f 4=some v:=hv;have e5:Ca (f 4)=some (some F'):=by rw[e4];show(cV v).map some=_;rw[(pD v F').2 ⟨r,hR⟩];rfl
   rw[e5]at hr;exact⟨⟨f,st,ln,ex,xt,some F'⟩,hr,jg,aG,aI,i1,i2, .inr ⟨F',r,m,md,wk,pl,rfl,hR.2.2.1,q1,q2,q3,q4,rfl⟩⟩
 ·left;obtain⟨x,fR,fZ⟩|⟨d',h1,aG,aI,_,_,h2⟩:=h'.1
  ·exact⟨x,fR,fZ⟩
  ·rcases h2 with⟨_,e⟩|⟨_,_,_,_,_,_,_,_,_,_,_,e⟩<;>cases e
 ·left;obtain⟨x,fR,fZ⟩|⟨d',h1,aG,aI,_,_,h2⟩:=h'.1
  ·exact⟨x,fR,fZ⟩
  ·rcases h2 with⟨_,e⟩|⟨_,_,_,_,_,_,_,_,_,_,_,e⟩<;>cases e
 ·left;obtain⟨x,fR,fZ⟩|⟨d',h1,aG,aI,_,_,h2⟩:=h'.1
  ·exact⟨x,fR,fZ⟩
  ·rcases h2 with⟨_,e⟩|⟨_,_,_,_,_,_,_,_,_,_,_,e⟩<;>cases e
def eH (d:iT):Bool:=d.rl.isSome
def fE (d:iT):au:=match d.rl with|none=>TF|some F=>xJ F
open Go.RowKit Go.Sort
attribute [local go_sem] Oper.semAt_some
attribute [local go_sem] jt fy
attribute [local simp] jt fy
theorem Je (n:Int)(w:ο)(ht:iU w):
 χ prog 97 #[V Z n] w fun e w'=>e= δ (.bool (cD n))∧Below w.heap.size w w':=by
 have hP:=ad (vg n w ht);unfold gQ at hP;clear ht;cases hB:cD n
 ·rw[hB]at hP;simp only[π,if_false]at hP;go_enter func97,ntmps97;go_wp2_with (go_at_call 18;refine(hP.out).mono ?_;rintro e w1 ⟨rfl,hb⟩);go_ret;exact⟨rfl,hb⟩
 ·rw[hB]at hP;simp only[if_true]at hP;go_enter func97,ntmps97;go_wp2_with (go_at_call 18;refine(hP.out).mono ?_;rintro e w1 ⟨rfl,hb⟩);go_ret;exact⟨rfl,hb⟩
def nz (f t:Int):Bool:=cD f&&cD t&&decide (f<t)
theorem Mh (f t:Int)(w:ο)(ht:iU w):
 χ prog 89 #[V Z f, V Z t] w fun e w'=>e=(if nz f t then δ (.tuple #[])else ε (bN 7))∧Below w.heap.size w w':=by
 have h1:=ad (Je f w ht);have h2:Hid (∀W,Below w.heap.size w W→χ prog 97 #[V Z t] W fun e w'=>e= δ (.bool (cD t))∧Below W.heap.size W w'):=ad fun W hb=>Je t W (ht.on hb);have Io:=ad (aF 7);have TH:=ad (aM 7);have hW:nz f t=(cD f&&cD t&&decide (f<t)):=rfl;generalize nz f t=B at *
 generalize cD f=B1 at *
 generalize cD t=B2 at *
 clear ht;cases B1
 ·simp only[Λ]at hW;subst hW;go_enter func89,ntmps89;go_wp2_with fail;refine(h1.out).mono ?_;rintro e w1 ⟨rfl,ai⟩;go_wp2_with fail;refine(TH.out _).mono ?_;rintro e w2 ⟨rfl,rfl⟩;exact⟨rfl,rfl,ai⟩
 ·cases B2
  ·simp only[Bool.and_false,Λ]at hW;subst hW;go_enter func89,ntmps89;go_wp2_with fail;refine(h1.out).mono ?_;rintro e w1 ⟨rfl,ai⟩;go_wp2_with fail;refine(h2.out _ ai).mono ?_;rintro e w2 ⟨rfl,az⟩;go_wp2_with fail;refine(TH.out _).mono ?_;rintro e w3 ⟨rfl,rfl⟩;exact⟨rfl,rfl,ai.trans (az.mono ai.size)⟩
  ·by_cases TJ:f<t
   ·simp only[Μ,TJ,decide_true]at hW;subst hW;go_enter func89,ntmps89;go_wp2_with fail;refine(h1.out).mono ?_;rintro e w1 ⟨rfl,ai⟩;go_wp2_with fail;refine(h2.out _ ai).mono ?_;rintro e w2 ⟨rfl,az⟩;go_wp2_with fail;refine(Io.out _).mono ?_;rintro e w3 ⟨rfl,rfl⟩;go_wp2_with fail;go_end0;exact⟨rfl,ai.trans (az.mono ai.size)⟩
   ·simp only[Μ,TJ,decide_false]at hW;subst hW;have adF:t≤f:=by omega
    go_enter func89,ntmps89;go_wp2_with fail;refine(h1.out).mono ?_;rintro e w1 ⟨rfl,ai⟩;go_wp2_with fail;refine(h2.out _ ai).mono ?_;rintro e w2 ⟨rfl,az⟩;go_wp2_with fail;rw[decide_eq_false (show¬f<t by omega)];refine(TH.out _).mono ?_;rintro e w3 ⟨rfl,rfl⟩;exact⟨rfl,rfl,ai.trans (az.mono ai.size)⟩
def cL (d:iT)(to:Int):List Int:=pP (eH d) (fE d) d.st 0 to d.ex d.xt
def ir (d:iT)(from_:Int)(l:List Int):List (Int×Int):=(l.map fun b=>(b,b+d.ln)).filter fun p=>decide (from_<p.2)
def kY (s:List UInt8)(from_ to:Int):Except Int (List (Int×Int)):=match cG s with
 | .error x=> .error x
 | .ok d=>if nz from_ to then(if(cL d to).length≤3000 then .ok (ir d from_ (cL d to))else .error 5)else .error 7
def eo (l:List (Int×Int)):List Value:=(l.map fun p=>[Value.int Z p.1, V Z p.2]).flatten
theorem Mi:∀(ts ls:List Int) (x:Int),x∈jO ts ls→x∈ts∨x∈ls
 |[],ls,x,h=> .inr (by rw[jO]at h;exact h)
 |t::ts,ls,x,h=>by
  rw[jO]at h;rcases List.mem_append.1 h with h|h
  ·exact .inr ((List.takeWhile_sublist _).subset h)
  ·rcases List.mem_cons.1 h with rfl|h
   ·exact .inl (by simp)
   ·rcases Mi ts _ x h with h|h
    ·exact .inl (Β _ h)
    ·right;have hd:∀l:List Int,∀y∈ja t l,y∈l:=fun l y hy=>by
      cases l with
      |nil=>simp[ja]at hy
      |cons a r=>
       rw[ja]at hy;split at hy
       ·exact Β _ hy
       ·exact hy
     exact(List.dropWhile_sublist _).subset (hd _ _ h)
theorem TK (hr:Bool)(r:au)(ho:hr=true→cX r)(st f to:Int)(ex xt:List Int)(s0:0≤st)(s1:st≤7258118400)(f1:f≤7258118400)(t1:to≤7258118400)(hx:∀t∈xt,0≤t∧t≤7258118400):∀t∈pP hr r st f to ex xt,-100000000000≤t∧t≤100000000000:=by
 intro t ht;unfold pP at ht;rcases Mi _ _ _ ht with h|h
 ·unfold zC qy at h;obtain⟨h,_⟩:=List.mem_filter.1 h;obtain⟨d,hd,rfl⟩:=List.mem_map.1 h;have:=Tr hr r ho st f to s0 s1 f1 t1 d hd;omega
 ·unfold jk at h;obtain⟨h,_⟩:=List.mem_filter.1 h;have:=hx t h;omega
theorem aar {d:iT}{E:Ο}{w:ο}(h:YV d E w):∃(u:ByteArray) (m md wk pl:Value) (tx:ByteArray) (aG aI:Value),E= δ (.agg (dQ u d.st d.ln (eH d) (fE d) m md wk pl tx aG aI (eO d.f) (kindOf d.f - 1)).toArray)∧ny w (eH d) (fE d) m md wk pl aG aI d.ex d.xt∧0≤d.st∧d.st≤7258118400∧0≤d.ln∧d.ln≤10000000:=by
 obtain⟨⟨hs,hl,hex,lG,l1,l2⟩,aG,aI,i1,i2,h⟩:=h;rcases h with⟨kA,rfl⟩|⟨F,r,m,md,wk,pl,kA,hP,j1,j2,j3,j4,rfl⟩
 ·have e1:eH d=false:=by unfold eH;rw[kA];rfl
  have e2:fE d=TF:=by unfold fE;rw[kA]
  rw[e1,e2];refine⟨_, η none 0 0, η none 0 0, η none 0 0, η none 0 0,⟨#[]⟩,aG,aI,rfl,⟨⟨.inl ⟨rfl,rfl⟩, .inl ⟨rfl,rfl⟩, .inl ⟨rfl,rfl⟩, .inl ⟨rfl,rfl⟩⟩,fun h=>(by cases h),i1,i2,by omega,by omega,hex,lG⟩,by omega,by omega,by omega,by omega⟩
 ·have e1:eH d=true:=by unfold eH;rw[kA];rfl
  have e2:fE d=r:=by unfold fE;rw[kA];exact Jd hP
  rw[e1,e2];exact⟨_,m,md,wk,pl,gw F,aG,aI,rfl,⟨⟨j1,j2,j3,j4⟩,fun _=>yP hP,i1,i2,by omega,by omega,hex,lG⟩,by omega,by omega,by omega,by omega⟩
end Go.Proofs.YthpndgcaoeokeaaGreatDoor
namespace Go.Proofs.YthpndgcaoeokeaaGreatDoor
open Tryz
open Go.RowKit Go.Sort
attribute [local go_sem] Oper.semAt_some
attribute [local go_sem] jt fy
attribute [local simp] jt fy
theorem NJ {o:Oper}(ho:o.op= .alloc 79)(a:Act)(w:ο):(execOp a.eval o).run prog w= .ok (.value (ζ (some ⟨w.heap.size,0,none⟩))) (w.alloc (θ iR.toArray 79)):=by
 obtain⟨_,_,_,_,_,_⟩:=o;simp only[]at ho;subst ho;kernel_rfl
theorem aas (u:ByteArray)(st ln:Int)(hr:Bool)(r:au)(m md wk pl:Value)(tx:ByteArray)(aG aI:Value)(tr:Bool)(k:Int)(h1:m.oneCell'=true)(h2:md.oneCell'=true)(h3:wk.oneCell'=true)(h4:pl.oneCell'=true)(h5:aG.oneCell'=true)(h6:aI.oneCell'=true):
 ∀v∈dQ u st ln hr r m md wk pl tx aG aI tr k,v.oneCell'=true:=by
 intro v hv;unfold dQ at hv;simp only[τ,ρ,or_false]at hv;rcases hv with rfl|rfl|rfl|rfl|rfl|rfl|rfl|rfl|rfl|rfl|rfl|rfl|rfl|rfl|rfl|rfl|rfl|rfl<;>first|rfl|assumption
theorem yQ:(prog.info? 39).map (fun i=>(i.zero,i.size,i.bytes))=some (some (.agg #[V Z 0, V Z 0]),2,16):=by kernel_rfl
theorem Jf (d:iT)(from_:Int)(l:List Int)(b:Int):ir d from_ (l++[b])=ir d from_ l++if from_<b+d.ln then[(b,b+d.ln)]else[]:=by
 unfold ir;rw[List.map_append,List.filter_append];by_cases h:from_<b+d.ln<;>simp[h]
theorem Ft (l:List (Int×Int))(p:Int×Int):eo (l++[p])=eo l++[V Z p.1, V Z p.2]:=by unfold eo;simp
theorem DV (d:iT)(from_:Int)(l:List Int):(ir d from_ l).length≤l.length:=by
 unfold ir;exact φ (List.length_filter_le _ _) (by simp)
def IJ (b8 b9 N:Nat)(d:iT)(from_:Int)(T:List Int)(i:Nat):bI:=fun D W=>
 xD b8 35 39 2 N (ir d from_ (T.take i)).length (eo (ir d from_ (T.take i))) D W∧D b9∧af W b9 [V Z i] 3∧i≤3000
theorem IJ.ic {b8 b9 N:Nat}{d:iT}{from_:Int}{T:List Int}{i:Nat}{D:aB}{W:ο}(h1:On D (xD b8 35 39 2 N (ir d from_ (T.take i)).length (eo (ir d from_ (T.take i)))) W)(h2:D b9)(h3:af W b9 [V Z i] 3)(h4:i≤3000):On D (IJ b8 b9 N d from_ T i) W:=
 ⟨h1.1,fun W2 hk=>⟨h1.2 W2 hk,h2,h3.keep (hk _ h2),h4⟩⟩
theorem IJ.post {b8 b9 N M:Nat}{d:iT}{from_:Int}{T:List Int}{i:Nat}{D:aB}{W W':ο}(h1:bR D M (xD b8 35 39 2 N (ir d from_ (T.take i)).length (eo (ir d from_ (T.take i)))) W W')(h2:D b9)(h3:af W' b9 [V Z i] 3)(h4:i≤3000):bR D M (IJ b8 b9 N d from_ T i) W W':=by
 obtain⟨x,D',d1,d2,d3⟩:=h1;exact⟨x,D',d1,d2,IJ.ic d3 (d2 _ h2) h3 h4⟩
def tq (s:List UInt8)(from_ to:Int)(w:ο):Ο→ο→Prop:=fun e w'=>
 (match kY s from_ to with
  | .error x=>e= ε (bN x)
  | .ok l=>∃v,e= δ v∧w'.ownsRow w.heap.size 39 2 v l.length (eo l))∧Below w.heap.size w w'
theorem C6 (s:List UInt8)(from_ to:Int)(w:ο)(hm:ML w)(ht:iU w)(hs:s.length≤1048576):
 χ prog 47 #[.string ⟨s.toArray⟩, V Z from_, V Z to] w (tq s from_ to w):=by
 have r4:=af.new w [V Z from_] 3;have bz:Below w.heap.size w (w.alloc (θ #[V Z from_] 3)):=(ι _ _).alloc (μ _) _;have fH:(w.alloc (θ #[V Z from_] 3)).heap.size=w.heap.size+1:=by simp
 refine(callsIn_wide (n:=0)).1 ?_;refine iM func47 rfl ?_;simp only[ntmps47,Ε,Η,Κ,Ξ,Ν,ω,ψ,Ζ,Γ,Ι,Θ];refine dy fun K hK=>ei ?_;gi_wp2_with fail;have eW:w.alloc (.cells [V Z from_].toArray 3)=w.alloc (θ #[V Z from_] 3):=rfl;rw[eW]at r4;clear eW;replace fH:=ad fH;generalize w.alloc (θ #[V Z from_] 3)=W0 at *
 cases hr:cG s with
 |error x=>
  have hI:tq s from_ to w=fun e w'=>e= ε (bN x)∧Below w.heap.size w w':=by
   unfold tq kY;rw[hr]
  rw[hI];have C:Hid (χ prog 43 #[.string ⟨s.toArray⟩] W0 fun E w'=>E= ε (bN x)∧Below W0.heap.size W0 w'):=ad ((mz s W0 (hm.on bz) hs).mono fun E w' h=>by
   obtain⟨h1,h2⟩:=uK h;refine⟨?_,h2⟩;rcases h1 with⟨y,h3,h4⟩|⟨d,h3,_⟩
   ·rw[hr]at h3;cases h3;exact h4
   ·rw[hr]at h3;cases h3)
  clear hr hI hm ht;refine dy fun K hK=>ei ?_;gi_wp2_with fail;refine(callsIn_wide.2 C.out).mono ?_;rintro e w1 ⟨rfl,ai⟩;exact⟨rfl,bz.trans (ai.mono bz.size)⟩
 |ok d=>
  have C:Hid (χ prog 43 #[.string ⟨s.toArray⟩] W0 fun E w'=>(∃(u:ByteArray) (m md wk pl:Value) (tx:ByteArray) (aG aI:Value),E= δ (.agg (dQ u d.st d.ln (eH d) (fE d) m md wk pl tx aG aI (eO d.f) (kindOf d.f - 1)).toArray)∧ny w' (eH d) (fE d) m md wk pl aG aI d.ex d.xt∧0≤d.st∧d.st≤7258118400∧0≤d.ln∧d.ln≤10000000)∧Below W0.heap.size W0 w'):=ad ((mz s W0 (hm.on bz) hs).mono fun E w' h=>by
   obtain⟨h1,h2⟩:=QP h;refine⟨?_,h2⟩;rcases h1 with⟨y,h3,h4⟩|⟨d',h3,h4⟩
   ·rw[hr]at h3;cases h3
   ·rw[hr]at h3;cases h3;exact aar h4)
  have HT:=ad ht;clear hm ht;refine dy fun K hK=>ei (wpIn_wide.2 ?_);go_wp2_with fail;refine(C.out).mono ?_;rintro e w1 ⟨⟨u,m,md,wk,pl,tx,aG,aI,rfl,hl,s0,s1,l0,l1⟩,ai⟩;have QQ:∀v∈dQ u d.st d.ln (eH d) (fE d) m md wk pl tx aG aI (eO d.f) (kindOf d.f - 1),v.oneCell'=true:=by
   obtain⟨a1,e1⟩:=hl.fO.ms.form;obtain⟨a2,e2⟩:=hl.fO.mds.form;obtain⟨a3,e3⟩:=hl.fO.wks.form;obtain⟨a4,e4⟩:=hl.fO.pls.form;obtain⟨a5,c5,e5⟩:=hl.hex.sl;obtain⟨a6,c6,e6⟩:=hl.lG.sl;exact aas _ _ _ _ _ _ _ _ _ _ _ _ _ _ (by rw[e1];rfl) (by rw[e2];rfl) (by rw[e3];rfl) (by rw[e4];rfl) (by rw[e5];rfl) (by rw[e6];rfl)
  have hlen:(dQ u d.st d.ln (eH d) (fE d) m md wk pl tx aG aI (eO d.f) (kindOf d.f - 1)).length=18:=rfl;replace hl:=ad hl;replace r4:=r4.on ai;replace bz:=bz.trans (ai.mono bz.size);have eP:=ai.size;clear C ai;go_wp2_with (first
   |(refine aW rfl (NJ rfl _ _) ?_;intro w2 Cp fb az)
   |(refine aN rfl rfl rfl rfl Cp rfl LX QQ ?_;intro w3 uT iW;have bw:=az.trans (iW.below (by omega) (fun k hk=>by omega));have Iu:=iW.size))
  replace r4:=r4.on bw;replace hl:=ad (hl.out.on bw);have hEb:∀k,qz m md wk pl aG aI k→k<w3.heap.size:=fun k hk=>hl.out.jG hk;have ah:=bz.trans (bw.mono bz.size);have K6:w.heap.size+2≤w3.heap.size:=by have:=fH.out;omega
  have hbe:w1.heap.size<w3.heap.size:=by omega
  have zt:w.heap.size<w1.heap.size:=by have:=fH.out;omega
  generalize hE:dQ u d.st d.ln (eH d) (fE d) m md wk pl tx aG aI (eO d.f) (kindOf d.f - 1)=EV at *
  clear Cp fb az iW Iu bw QQ bz eP;generalize w1.heap.size=be at *
  have hNW:=ad (Mh from_ to w3 (HT.out.on ah));refine dy fun K hK=>ei ?_;have c4:=r4.cell (k:=0) rfl;gi_wp2_with fail;refine(callsIn_wide.2 hNW.out).mono ?_;rintro e w5 ⟨he,bk⟩;clear c4 hNW HT;cases mI:nz from_ to
  case false=>
   rw[mI]at he;simp only[π,if_false]at he;subst he;have hI:tq s from_ to w=fun e w'=>e= ε (bN 7)∧Below w.heap.size w w':=by
    unfold tq kY;rw[hr];simp only[mI,π,if_false]
   rw[hI];exact⟨rfl,ah.trans (bk.mono ah.size)⟩
  case true=>
   rw[mI]at he;simp only[if_true]at he;subst he;have hto:0≤to∧to<7258118400:=by
    unfold nz cD at mI;simp only[ξ,decide_eq_true_eq]at mI;omega
   have hG1:Hid ((cL d to).length≤3000→∀v w',w'.ownsRow w.heap.size 39 2 v (ir d from_ (cL d to)).length (eo (ir d from_ (cL d to)))→Below w.heap.size w w'→tq s from_ to w (δ v) w'):=ad (by
    intro h3 v w' h4 h5;unfold tq kY;rw[hr];simp only[mI,if_true,h3];exact⟨⟨v,rfl,h4⟩,h5⟩)
   have hG2:Hid (¬(cL d to).length≤3000→∀w',Below w.heap.size w w'→tq s from_ to w (ε (bN 5)) w'):=ad (by
    intro h3 w' h5;unfold tq kY;rw[hr];simp only[mI,if_true,h3,if_false];exact⟨trivial,h5⟩)
   replace r4:=r4.on bk;replace uT:=uT.on bk;replace hl:=ad (hl.out.on bk);replace ah:=ah.trans (bk.mono ah.size);have E5:=bk.size;clear bk;have AS:=ad (TK (eH d) (fE d) hl.out.ok d.st 0 to d.ex d.xt s0 s1 (by omega) (by omega) hl.out.xtb);gi_wp2_with fail;refine dy fun K hK=>ei ?_;gi_wp2_with fail;refine dy fun K hK=>ei ?_;gi_wp2_with fail;have r8:=pH w5 [η none 0 0] 35 (θ #[V Z 0] 3);have r9:=pI w5 [V Z 0] 3 (θ #[η none 0 0] 35);have pj:=mh w5 (θ #[η none 0 0] 35) (θ #[V Z 0] 3);have Ll:((w5.alloc (θ #[η none 0 0] 35)).alloc (θ #[V Z 0] 3)).heap.size=w5.heap.size+2:=by simp
   replace Ll:=ad Ll;generalize(w5.alloc (θ #[η none 0 0] 35)).alloc (θ #[V Z 0] 3)=w6 at *
   replace r4:=r4.on pj;replace uT:=uT.on pj;have hl6:=hl.out.on pj;replace ah:=ah.trans (pj.mono ah.size);rw[←hE]at uT;have hIN:=ad (JY u d.st d.ln (eH d) (fE d) m md wk pl tx aG aI d.ex d.xt (eO d.f) (kindOf d.f - 1) 0 to w6 hl6 s0 s1 l0 l1 (by omega) (by omega) (by omega) (by omega) AS.out);rw[hE]at hIN;clear hl hl6 pj;refine dy fun K1 aP=>?_;refine dy fun K hK=>ei ?_;gi_wp2_with (refine V3 rfl rfl rfl uT (fun _=>trivial) ?_);refine(callsIn_wide.2 hIN.out).mono ?_;rintro e w7 ⟨g,lb,R,rfl,hit,xv,eg,nN⟩;replace r4:=r4.on nN;replace r8:=r8.on nN;replace r9:=r9.on nN;replace ah:=ah.trans (nN.mono ah.size);have hz7:=nN.size;clear nN hIN uT hE;have TL:Hid (cL d to=pP (eH d) (fE d) d.st 0 to d.ex d.xt):=ad rfl;rw[←TL.out]at hit AS;clear TL;generalize cL d to=T at *
   have hw6:=Ll.out;gi_wp2_with fail;refine nW ?_;generalize iy:w5.heap.size=b8 at *
   refine pL (gf:=g) (lb:=lb) func47 ?g eg hit (μ _) (fun _ _=>rfl) (fun k hk=>(xv k hk).1)
    (fun k=>k=b8∨k=b8+1) (fun k hk lR=>by
     rcases(xv k lR).2 with h|h
     ·have:=hEb k h;omega
     ·omega) (IJ b8 (b8+1) w7.heap.size d from_ T) (fun _ _ _=>False) (fun c D W=>c=bN 5∧3000<T.length) ?ps ?start ?round ?done ?stop ?pan
   case g=>rfl
   case ps=>intro x hx;obtain⟨b,_,rfl⟩:=List.mem_map.1 hx;rfl
   case start=>exact IJ.ic (xD.ic (fun k hk=>by omega) ⟨.inl rfl, η none 0 0,r8,fun k hk=>by simp[Value.ownBlock]at hk,World.ownsRow_nil _ _ _ _⟩) (.inr rfl) r9 (by omega)
   case stop=>
    rintro c W ⟨_,D,_,_,bq⟩;exact bq.out.elim
   case pan=>
    rintro c W4 ⟨hx,D,er,_,bq⟩ hs du;obtain⟨rfl,h3⟩:=bq.out;have C9:=ah.trans (hx.below (B:=w.heap.size) (by omega) (fun k hk=>by omega));refine⟨by simp, .inl ⟨_,_,rfl,run_takeDeferred du,?_⟩⟩;refine hG2.out (by omega) _ ⟨C9.os,C9.tape,C9.output,by simp;omega,fun k hk=>(ν (by omega)).trans (C9.block k hk)⟩
   case done=>
    rw[AO];rintro W4 ⟨hx,D,er,_,bq⟩ hs du;obtain⟨⟨hD8,v,ah3,mV,aw⟩,_,_,h3⟩:=bq.out;rw[List.take_length]at aw;have C9:=ah.trans (hx.below (B:=w.heap.size) (by omega) (fun k hk=>by omega));have c8:=ah3.cell (k:=0) rfl;have hvb:=fun k hk=>(aw.lt k hk).1;simp only[Exit.inBlock,Exit.then];refine aP _ _ (ei ?_);clear aP bq hit;gi_wp2_with fail;have gi:∀k,v.ownBlock=some k→k≠w7.heap.size:=fun k hk e=>by
     rcases er k (mV k hk).1 with h|h<;>omega
    refine⟨by simp, .inl ⟨_,_,rfl,run_takeDeferred du,?_⟩⟩;refine⟨_,results_tmp rfl _ _ _,hG1.out h3 _ _ ?_ ?_⟩
    ·exact sr (fa aw fun g hg=>ν (gi g hg)) (by omega)
    ·exact⟨C9.os,C9.tape,C9.output,by simp;omega,fun k hk=>(ν (by omega)).trans (C9.block k hk)⟩
   case round=>
    intro YH i x hx W4 D SW hs qZ bq K hK;obtain⟨b,hd⟩:∃b,T[i]?=some b:=⟨_,υ (by have:=(List.getElem?_eq_some_iff.1 hx).1;rwa [AO]at this)⟩;rw[Ja hd]at hx;cases hx;have htb:=AS.out b (Α hd);have hiT:=(List.getElem?_eq_some_iff.1 hd).1;have xF:=ad (show T.take (i+1)=T.take i++[b]from by rw[List.take_add_one,hd];rfl);clear hd AS;gi_wp2_with fail;have hbA:Below W4.heap.size W4 (W4.alloc (θ #[V Z b, V Z (b+d.ln)] 39)):=(ι _ _).alloc (μ _) _;refine hK _ _ (fun k=>D k∨k=W4.heap.size) hbA (fun k hk=>hk.imp id fun h=>by omega) (fun k hk=> .inl hk) (fun k hk=>hk.elim (fun h=>by have:=bq.1 k h;simp;omega) (fun h=>by simp;omega)) ?_;intro l' W2 gm fZ mO;have q4:=r4.aQ fZ (show¬(w.heap.size=b8∨w.heap.size=b8+1) by omega);have OQ:=(af.new W4 [V Z b, V Z (b+d.ln)] 39).keep (gm _ (.inr rfl));have iX:=bq.on (W':=W2) fun k hk=>(gm k (.inl hk)).trans (hbA.block k (bq.1 k hk));have di:¬D W4.heap.size:=fun h=>by have:=bq.1 _ h;omega
    clear hK gm hit aP hbA;obtain⟨⟨hD8,v,q8,mV,aw⟩,hD9,q9,h3⟩:=iX.out;have gG:∀k,D k∨k=W4.heap.size→k<W2.heap.size:=fun k hk=>hk.elim (iX.1 k) (fun h=>by have:=OQ.lt;omega);have hvb:∀k,v.ownBlock=some k→k≠b8+1:=fun k hk=>by have:=(aw.lt k hk).1;omega
    have c9:=q9.cell (k:=0) rfl;have f9:=q9.free (k:=0);gi_wp2_with fail;have e9:(Value.int Z ((i:Int)+1))= V Z ((i+1:Nat):Int):=by simp
    have iW:aK (fun k=>D k∨k=W4.heap.size) W2 (W2.setCell ⟨b8+1,0,none⟩ (V Z ((i:Int)+1))):=(aK.refl _ _).setCell (.inl (.inl hD9)) _;have y9:=q9.set (k:=0) (V Z ((i:Int)+1));have TM:∀k,k≠b8+1→(W2.setCell ⟨b8+1,0,none⟩ (V Z ((i:Int)+1))).heap[k]?=W2.heap[k]?:=fun k hk=>Δ _ _ _ _ hk;have y4:af (W2.setCell ⟨b8+1,0,none⟩ (V Z ((i:Int)+1))) _ _ _:=(TM _ (by omega)).trans q4;have y8:af (W2.setCell ⟨b8+1,0,none⟩ (V Z ((i:Int)+1))) _ _ _:=(TM _ (by omega)).trans q8;have y10:af (W2.setCell ⟨b8+1,0,none⟩ (V Z ((i:Int)+1))) _ _ _:=(TM _ (by omega)).trans OQ;have ry:=fa aw (w':=W2.setCell ⟨b8+1,0,none⟩ (V Z ((i:Int)+1))) fun g hg=>TM g (hvb g hg);clear c9 f9 q4 q8 q9 OQ TM aw;generalize W2.setCell ⟨b8+1,0,none⟩ (V Z ((i:Int)+1))=W3 at *
    have y9':af W3 (b8+1) [V Z ((i+1:Nat):Int)] 3:=by rw[←e9];exact y9
    clear y9 e9;by_cases hle:i+1≤3000
    case neg=>
     rw[decide_eq_false (by omega)];refine(CallsIn.inRound l' (callsIn_wide.2 (aM 5 _))).mono ?_;rintro e W5 ⟨rfl,rfl⟩;exact⟨rfl,iW,_,fun k hk=> .inl hk,fun k hk=>hk,⟨fun k hk=>κ (gG k hk) iW.size,fun W5 _=>⟨rfl,(by omega)⟩⟩⟩
    rw[decide_eq_true (by omega)];refine(CallsIn.inRound l' (callsIn_wide.2 (aF 5 _))).mono ?_;rintro e W5 ⟨rfl,rfl⟩;have gb:=ad (Jf d from_ (T.take i) b);rw[←xF.out]at gb;have x0:=y10.cell (k:=0) rfl;have x1:=y10.cell (k:=1) rfl;have c4:=y4.cell (k:=0) rfl;have c8:=y8.cell (k:=0) rfl;have f8:=y8.free (k:=0);by_cases zr:from_<b+d.ln
    case neg=>
     rw[if_neg zr,List.append_nil]at gb;gi_wp2_with fail;show bR _ _ _ _ _;refine IJ.post ⟨iW,fun k=>D k∨k=W4.heap.size,fun k hk=> .inl hk,fun k hk=>hk,?_⟩ (.inl hD9) y9' hle;rw[gb.out];exact xD.ic (fun k hk=>κ (gG k hk) iW.size) ⟨.inl hD8,v,y8,fun k hk=>⟨.inl (mV k hk).1,(mV k hk).2⟩,ry⟩
    rw[if_pos zr]at gb;gi_wp2_with (gi_at_builtin;refine Hid.out ?_);refine ad ?_;have lF:(ir d from_ (T.take i)).length≤i:=φ (DV _ _ _) (by simp;omega);have hzA:w7.heap.size≤W3.heap.size:=by have:=iW.size;omega
    refine AF rfl (.tmp 29) (.tmp 31) 35 39 _ 2 16 rfl underlying35 yQ rfl (by decide) w7.heap.size _ _ _ rfl (ry.alloc _) (by simp;omega) W3.heap.size [V Z b, V Z (b+d.ln)] rfl rfl (fun j u hj=>(af.new W3 [V Z b, V Z (b+d.ln)] 39).cell hj) (by simp[Value.oneCell']) (by omega) (by decide) ?_;intro v' W6 dx AH yK;obtain⟨g6,abE,rfl⟩:=th dx;replace yK:=ad yK;have cj:=(ι W3.heap.size W3).alloc (μ _) (.cells [V Z b, V Z (b+d.ln)].toArray 39);have z8:=y8.on cj;have z9:=y9'.on cj;have z8':af W6 b8 [v] 35:=(AH.block _ z8.lt (fun e=>(mV _ e.symm).2 rfl)).trans z8;have z9':af W6 (b8+1) [V Z ((i+1:Nat):Int)] 3:=(AH.block _ z9.lt (fun e=>hvb _ e.symm rfl)).trans z9;clear c8 f8 x0 x1 c4;have c8:=z8'.cell (k:=0) rfl;have f8:=z8'.free (k:=0);gi_wp2_with fail;have ti:=LG (D1:=fun k=>D k∨k=W4.heap.size) (W2:=W2) (p:=b8) (T:=35) gG (.inl hD8) (iW.alloc _) z8 (fun k hk=>⟨.inl (mV k hk).1,(mV k hk).2⟩) AH yK.out dx;show bR _ _ _ _ _;refine IJ.post ?_ (.inl hD9) ((Δ _ _ _ _ (show b8+1≠b8 by omega)).trans z9') hle;rw[gb.out,Ft,List.length_append];exact ti
end Go.Proofs.YthpndgcaoeokeaaGreatDoor
