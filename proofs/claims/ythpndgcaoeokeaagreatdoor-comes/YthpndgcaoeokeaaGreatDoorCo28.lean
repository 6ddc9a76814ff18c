import Derived.Test.YthpndgcaoeokeaaGreatDoorCo27
set_option maxRecDepth 100000
set_option maxHeartbeats 8000000
open Go.IntKind renaming i64→Z
open Go.Value renaming int→V,pointer→δ
open Go.Obj renaming cells→ε
open Go.RowKit.Below renaming refl→ζ
open Nat renaming le_refl→η,lt_of_lt_of_le→μ,reduceSub→Ε,reduceAdd→Ζ
open Go renaming World→θ,Operand→ξ,Oper→ρ,Calls→Η,Act→Θ
open List renaming getElem?_eq_getElem→ι,range→ν,not_mem_nil→ο,mem_cons→π,append_toArray→φ,size_toArray→χ,push_toArray→ψ,length_cons→ω,drop_length→Α,cons_append→Β,nil_append→Γ,length_nil→Δ
open Go.Instr renaming loadAt→κ
open Array renaming replicate_zero→τ,replicate_succ→υ
namespace Go.Proofs.YthpndgcaoeokeaaGreatDoor
open Tryz
open Go.RowKit Go.Sort
attribute [local go_sem] Oper.semAt_some
attribute [local go_sem] jt fy
attribute [local simp] jt fy
theorem LX:(prog.info? 79).map (·.size)=some 18:=by kernel_rfl
theorem V3 {F:Fence}{nF:Nat}{ops:Array ρ}{rest:List ρ}{o:ρ}{a:Θ}{w:θ}{Q:Exit→Θ→θ→Prop}{x:ξ}{b:Nat}{u:ByteArray}{st ln:Int}{hr:Bool}{r:au}{m md wk pl:Value}{tx:ByteArray}{aG aI:Value}{tr:Bool}{k:Int}(hg:o.guard=none)(ho:o.op= .load 79 x)(hx:a.eval x= δ (some ⟨b,0,none⟩))
 (ax:af w b (dQ u st ln hr r m md wk pl tx aG aI tr k) 79)(hF:∀f,F.fn f)(hK:wpListIn F nF prog ops Q rest (a.put o.dst (.agg (dQ u st ln hr r m md wk pl tx aG aI tr k).toArray)) w):wpListIn F nF prog ops Q (o::rest) a w:=
 wpListIn_plain hg fun K Hb=>bK hF (by rw[ho];intro c hc;cases hc) (dp ho hx (run_loadAt_mid w b 0 79 _ _ (dc ax) underlying79 rfl LX)) (Hb _ _ hK)
def NC (bm:Nat)(d:Int)(c:Nat)(j:Nat)(v:Value):Prop:=match j with
 |0=>v= .map (some bm)
 |1=>v=aO d
 |2=>v= V Z c
 |3=>v= .bool false
 |4=>v= .bool false
 |14=>v= .bool false
 |_=>v=undef
theorem LY {p:Addr}{l:Nat}{w:θ}(h:w.cell? p=some (.func (.yield l) #[] #[])):(κ 58 (δ (some p))).run prog w= .ok (.func (.yield l) #[] #[]) w:=by
 go_simp
theorem Ts {p:Addr}{b:Nat}{w:θ}(h:w.cell? p=some (.map (some b))):(κ 264 (δ (some p))).run prog w= .ok (.map (some b)) w:=by
 go_simp
theorem Tt {b:Nat}{d:Int}{w:θ}(h:af w b (nU d) 106):(κ 106 (δ (some ⟨b,0,none⟩))).run prog w= .ok (aO d) w:=by
 unfold nU at h;unfold aO cS;obtain⟨c0,c1,c2,_,_,_⟩:=bV h;go_simp
theorem Tu {o:ρ}{a:Θ}{w:θ}{x y:ξ}{T:TypeId}{m k v:Value}(ho:o.op= .lookup T x y false)(hx:a.eval x=m)(hy:a.eval y=k)(hr:(Instr.lookup T m k false).run prog w= .ok v w):(execOp a.eval o).run prog w= .ok (.value v) w:=by
 obtain⟨_,_,_,_,_,_⟩:=o;simp only[]at ho;subst ho;unfold execOp;simp only[hx,hy];exact aL hr
theorem Pg {o:ρ}{a:Θ}{w:θ}{x:ξ}{z:Int}(ho:o.op= .binOp .eql 3 x (.const (V Z 0)) 3)(hx:a.eval x= V Z z):(execOp a.eval o).run prog w= .ok (.value (.bool (z==0))) w:=by
 obtain⟨_,_,_,_,_,_⟩:=o;simp only[]at ho;subst ho;unfold execOp;have h0:a.eval (.const (V Z 0))= V Z 0:=rfl;simp only[hx,h0];go_simp
theorem aag {o:ρ}{a:Θ}{w:θ}{x y:ξ}(ho:o.op= .pick x y (.const (.bool false)))(hx:a.eval x= .bool false):(execOp a.eval o).run prog w= .ok (.value (.bool false)) w:=by
 obtain⟨_,_,_,_,_,_⟩:=o;simp only[]at ho;subst ho;unfold execOp;simp only[hx];rfl
theorem aah {o:ρ}{a:Θ}{w:θ}{x y:ξ}{v:Value}(ho:o.op= .pick x y (.const (.bool false)))(hx:a.eval x= .bool true)(hy:a.eval y=v):(execOp a.eval o).run prog w= .ok (.value v) w:=by
 obtain⟨_,_,_,_,_,_⟩:=o;simp only[]at ho;subst ho;unfold execOp;simp only[hx,hy];rfl
theorem Tv {o:ρ}{a:Θ}{w:θ}{x y:ξ}{T:TypeId}{l:Nat}{v:Value}{r:Next}(ho:o.op= .call {callee:= .value x,args:=#[y],argTypes:=#[T]})(hx:a.eval x= .func (.yield l) #[] #[])(hy:a.eval y=v)(hr:(Instr.yield l #[v]).run prog w= .ok r w):(execOp a.eval o).run prog w= .ok r w:=by
 obtain⟨_,_,_,_,_,_⟩:=o;simp only[]at ho;subst ho;unfold execOp;simp only[resolve,List.map_toArray,List.map_cons,List.map_nil,hx,hy];simp[go_sem,invoke,hr]
theorem aai {o:ρ}{a:Θ}{w:θ}{x:ξ}{z:Int}(ho:o.op= .binOp .rem 3 x (.const (V Z 86400)) 3)(hx:a.eval x= V Z z)(h0:0≤z):(execOp a.eval o).run prog w= .ok (.value (V Z (z%86400))) w:=by
 obtain⟨_,_,_,_,_,_⟩:=o;simp only[]at ho;subst ho;unfold execOp;have hc:a.eval (.const (V Z 86400))= V Z 86400:=rfl;have hm:z.tmod 86400=z%86400:=Int.tmod_eq_emod_of_nonneg h0;simp only[hx,hc];go_simp
theorem aaj {o:ρ}{a:Θ}{w:θ}{x y:ξ}{z t:Int}(ho:o.op= .binOp .add 3 x y 3)(hx:a.eval x= V Z z)(hy:a.eval y= V Z t)(h0:-9223372036854775808≤z+t)(h1:z+t≤9223372036854775807):(execOp a.eval o).run prog w= .ok (.value (V Z (z+t))) w:=by
 obtain⟨_,_,_,_,_,_⟩:=o;simp only[]at ho;subst ho;unfold execOp;have hw:=ia h0 h1;simp only[hx,hy];go_simp
structure ny (w:θ)(hr:Bool)(r:au)(m md wk pl aG aI:Value)(ex xt:List Int):Prop where
 fO:eh w r m md wk pl
 ok:hr=true→cX r
 hex:dn w aG ex
 lG:dn w aI xt
 exl:ex.length≤1000
 xtl:xt.length≤1000
 exb:∀t∈ex,0≤t∧t≤7258118400
 xtb:∀t∈xt,0≤t∧t≤7258118400
def qz (m md wk pl aG aI:Value):aB:=fun k=>LB m md wk pl k∨aG.ownBlock=some k∨aI.ownBlock=some k
theorem ny.keep {w w':θ}{hr:Bool}{r:au}{m md wk pl aG aI:Value}{ex xt:List Int}(h:ny w hr r m md wk pl aG aI ex xt)(hk:∀k,qz m md wk pl aG aI k→w'.heap[k]?=w.heap[k]?):ny w' hr r m md wk pl aG aI ex xt:=
 ⟨h.fO.keep fun k e=>hk k (.inl e),h.ok,h.hex.keep fun k e=>hk k (.inr (.inl e)),h.lG.keep fun k e=>hk k (.inr (.inr e)),h.exl,h.xtl,h.exb,h.xtb⟩
theorem ny.jG {w:θ}{hr:Bool}{r:au}{m md wk pl aG aI:Value}{ex xt:List Int}(h:ny w hr r m md wk pl aG aI ex xt){k:Nat}(e:qz m md wk pl aG aI k):k<w.heap.size:=by
 rcases e with e|e|e
 ·exact h.fO.jG e
 ·exact h.hex.jG e
 ·exact h.lG.jG e
theorem ny.on {w w':θ}{hr:Bool}{r:au}{m md wk pl aG aI:Value}{ex xt:List Int}(h:ny w hr r m md wk pl aG aI ex xt)(hb:Below w.heap.size w w'):ny w' hr r m md wk pl aG aI ex xt:=h.keep fun k e=>hb.block k (h.jG e)
theorem aeZ (u:ByteArray)(st ln:Int)(hr:Bool)(r:au)(m md wk pl:Value)(tx:ByteArray)(aG aI:Value)(ex xt:List Int)(tr:Bool)(k:Int)(f to:Int)(be bf bt:Nat)(w:θ)(hl:ny w hr r m md wk pl aG aI ex xt)
 (s0:0≤st)(s1:st≤7258118400)(f0:-1000000000000≤f)(f1:f≤7258118400)(t0:0≤to)(t1:to≤7258118400)
 (q1:af w be (dQ u st ln hr r m md wk pl tx aG aI tr k) 79)(q2:af w bf [V Z f] 3)(q3:af w bt [V Z to] 3):
 oP prog 215 #[δ (some ⟨be,0,none⟩), δ (some ⟨bf,0,none⟩), δ (some ⟨bt,0,none⟩)] (pM (zC hr r st f to ex)) (fun k=>k=be∨k=bf∨k=bt∨qz m md wk pl aG aI k) w:=by
 intro l W O J Js Jp bu hR hO eQ hY;have ie:=hl.keep fun k hk=>hR k (.inr (.inr (.inr hk)));replace q1:=q1.keep (hR be (.inl rfl));replace q2:=q2.keep (hR bf (.inr (.inl rfl)));replace q3:=q3.keep (hR bt (.inr (.inr (.inl rfl))));have I4:¬O be:=fun h=>hO be h (.inl rfl);have Tw:∀k,O k→¬qz m md wk pl aG aI k:=fun k h h'=>hO k h (.inr (.inr (.inr h')));have ahV:=q1.lt;obtain⟨a1,e1⟩:=ie.fO.ms.form;obtain⟨a2,e2⟩:=ie.fO.mds.form;obtain⟨a3,e3⟩:=ie.fO.wks.form;obtain⟨a4,e4⟩:=ie.fO.pls.form;obtain⟨a5,c5,e5⟩:=ie.hex.sl;obtain⟨a6,c6,e6⟩:=ie.lG.sl;have Fi:prog.follows .mixedOrders=true:=by kernel_rfl
 have uU:Hid (∀wr,Below W.heap.size W wr→Η prog 216 #[.agg (dQ u st ln hr r m md wk pl tx aG aI tr k).toArray] wr fun e w'=>∃b n ds,e= .returned (.map (some b))∧wr.heap.size≤b∧lD w' b n ds∧(∀d,d∈ds↔∃t∈ex,t%86400=st%86400∧t/86400=d)∧Below wr.heap.size wr w'):=
  ad fun wr hb=>Tk u st ln hr r m md wk pl tx aG aI ex tr k wr ⟨_,_,_,e1⟩ ⟨_,_,_,e2⟩ ⟨_,_,_,e3⟩ ⟨_,_,_,e4⟩ ⟨_,_,_,e6⟩ (ie.on hb).hex ie.exl ie.exb s0
 have hRD:Hid (∀wr,Below W.heap.size W wr→Η prog 217 #[.agg (dQ u st ln hr r m md wk pl tx aG aI tr k).toArray, V Z f, V Z to] wr (xG (tg (lL hr r st f to)) (LB m md wk pl) wr)):=
  ad fun wr hb=>QJ u st ln hr r m md wk pl tx aG aI tr k f to wr (ie.on hb).fO ie.ok ⟨_,_,_,e5⟩ ⟨_,_,_,e6⟩ s0 s1 f0 f1 t0 t1
 have jg:=ad (Tr hr r ie.ok st f to s0 s1 f1 t1);have ae0:∀k,LB m md wk pl k→k<W.heap.size∧¬O k:=fun k h=>⟨ie.jG (.inl h),fun h'=>Tw k h' (.inl h)⟩;have Pc:Hid (zC hr r st f to ex=qy st ex (lL hr r st f to)):=ad rfl;clear hR hO hl bu ie Tw;clear e1 e2 e3 e4 e5 e6;have xE:=ad (fun(i:Nat) (t:Int) (h:(zC hr r st f to ex)[i]?=some t)=>hY i _ (yM h));clear hY;rw[pN];generalize zC hr r st f to ex=YS at *
 generalize lL hr r st f to=XS at *
 refine iM func215 rfl ?_;simp only[ntmps215,χ,ω,Δ,Ζ,Ε,υ,τ,ψ,φ,Γ,Β];refine dy fun K hK=>ei ?_;gi_wp2_with fail;have r4:af (W.alloc (ε #[.func (.yield l) #[] #[]] 58)) W.heap.size [.func (.yield l) #[] #[]] 58:=af.new W [.func (.yield l) #[] #[]] 58;have ah:Below W.heap.size W (W.alloc (ε #[.func (.yield l) #[] #[]] 58)):=(ζ _ _).alloc (η _) _;have Kv:W.heap.size<(W.alloc (ε #[.func (.yield l) #[] #[]] 58)).heap.size:=by simp
 generalize W.alloc (ε #[.func (.yield l) #[] #[]] 58)=W1 at *
 refine dy fun K hK=>ei ?_;have qe:=q1.on ah;gi_wp2_with (refine V3 rfl rfl rfl qe (fun _=>trivial) ?_);refine((callsIn_wide.2 (uU.out _ ah)).mono ?_);rintro e w2 ⟨bm,nm,ds,rfl,hbm,om,uZ,az⟩;clear uU qe;replace uZ:=ad uZ;replace r4:=r4.on az;replace ah:=ah.trans (az.mono ah.size);have mO:=az.size;have r5:af (w2.alloc (ε #[.map (some bm)] 264)) w2.heap.size [.map (some bm)] 264:=af.new w2 [.map (some bm)] 264;have cj:Below w2.heap.size w2 (w2.alloc (ε #[.map (some bm)] 264)):=(ζ _ _).alloc (η _) _;replace r4:=r4.on cj;have alE:=om.lt;replace om:=om.keep (cj.block bm om.lt);replace ah:=ah.trans (cj.mono ah.size);have Yx:w2.heap.size<(w2.alloc (ε #[.map (some bm)] 264)).heap.size:=by simp
 gi_wp2_with fail;generalize w2.alloc (ε #[.map (some bm)] 264)=W3 at *
 generalize bk:w2.heap.size=b5 at *
 refine dy fun K hK=>ei ?_;have qe:=q1.on ah;have p2:=(q2.on ah).cell (k:=0) rfl;have p3:=(q3.on ah).cell (k:=0) rfl;gi_wp2_with (refine V3 rfl rfl rfl qe (fun _=>trivial) ?_);refine((callsIn_wide.2 (hRD.out _ ah)).mono ?_);rintro e w4 ⟨g,lb,R,rfl,hit,xv,eg,dN⟩;clear qe p2 p3 hRD cj az;replace r4:=r4.on dN;replace r5:=r5.on dN;replace om:=om.keep (dN.block bm om.lt);replace ah:=ah.trans (dN.mono ah.size);have hs4:=dN.size;clear dN;gi_wp2_with fail;refine nW ?_;refine pL (gf:=g) (lb:=lb) func215 ?g eg hit (η _) (fun _ _=>rfl) (fun k hk=>(xv k hk).1)
  O (fun k hk lR=>by
   rcases(xv k lR).2 with h|h
   ·exact(ae0 k h).2 hk
   ·have:=eQ.1 k hk;omega) (DK O W J fun q i=>q≤YS.length∧YS.drop q=qy st ex (XS.drop i)) (rb O W (J YS.length) Js) (fun c=>DX O W (Jp c)) ?ps ?start ?round ?done ?stop ?pan
 case g=>rfl
 case ps=>intro x hx;obtain⟨d,_,rfl⟩:=List.mem_map.1 hx;rfl
 case start=>exact DK.ic (fun k hk=>by have:=eQ.1 k hk;omega) ⟨0,O,⟨fun k hk=>hk,fun k hk=> .inl hk,fun k hk=>hk,eQ.below ah⟩,Nat.zero_le _,by simpa using Pc.out⟩
 case stop=>
  rintro c W4 ⟨hx,D,er,_,bq⟩ hs du;have iA:aK O W (W4.putObj w4.heap.size (.deferred none)):=((aK.bG ah).fY hx).put (.inr (by omega)) _;have gi:¬D w4.heap.size:=fun h=>(er _ h).elim (fun h=>by have:=eQ.1 _ h;omega) (by omega);obtain⟨rfl,h⟩:=bq.out;have ti:=ad (show bR O W.heap.size (J YS.length) W (W4.putObj w4.heap.size (.deferred none))∨bR O W.heap.size Js W (W4.putObj w4.heap.size (.deferred none))from by
   rcases h with⟨D0,h⟩|⟨D0,h⟩
   ·exact .inl ((h.put gi _).fin iA)
   ·exact .inr ((h.put gi _).fin iA))
  clear h bq er;gi_wp2_with fail;refine⟨by simp, .inl ⟨_,_,rfl,run_takeDeferred du,?_⟩⟩;exact⟨_,results_none rfl _ _ _, .inl ⟨⟨_,rfl⟩,ti.out⟩⟩
 case pan=>
  rintro c W4 ⟨hx,D,er,_,bq⟩ hs du;have iA:aK O W (W4.putObj w4.heap.size (.deferred none)):=((aK.bG ah).fY hx).put (.inr (by omega)) _;have gi:¬D w4.heap.size:=fun h=>(er _ h).elim (fun h=>by have:=eQ.1 _ h;omega) (by omega);obtain⟨D0,h⟩:=bq.out;refine⟨by simp, .inl ⟨_,_,rfl,run_takeDeferred du,?_⟩⟩;exact .inr ⟨c,rfl,(h.put gi _).fin iA⟩
 case done=>
  rw[kV];rintro W4 ⟨hx,D,er,_,bq⟩ hs du;have iA:aK O W (W4.putObj w4.heap.size (.deferred none)):=((aK.bG ah).fY hx).put (.inr (by omega)) _;have gi:¬D w4.heap.size:=fun h=>(er _ h).elim (fun h=>by have:=eQ.1 _ h;omega) (by omega);obtain⟨q,D0,bE,hq,kD⟩:=bq.out;have xj:q=YS.length:=mm (by rw[kD,Α];rfl) hq;refine⟨by simp, .inl ⟨_,_,rfl,run_takeDeferred du,?_⟩⟩;exact⟨_,results_none rfl _ _ _, .inl ⟨⟨_,rfl⟩, .inl (by rw[←xj];exact(bE.put gi _).fin iA)⟩⟩
 case round=>
  intro YH i x hx W4 D SW hs qZ bq K hK;obtain⟨d,hd⟩:∃d,XS[i]?=some d:=⟨_,ι (by have:=(List.getElem?_eq_some_iff.1 hx).1;rwa [kV]at this)⟩;rw[pK hd]at hx;cases hx;have zB:=jg.out d (List.mem_of_getElem? hd);have uX:=ad (drop_one hd);clear hd jg;unfold aO cS;gi_wp2_with fail;have iy:Below W4.heap.size W4 (W4.alloc (ε #[V Z (ae.ag d), V Z (ae.ofM d), V Z (ae.ar d)] 106)):=(ζ _ _).alloc (η _) _;refine hK _ _ (fun k=>D k∨k=W4.heap.size) iy (fun k hk=>hk.imp id fun h=>by omega) (fun k hk=> .inl hk) (fun k hk=>hk.elim (fun h=>by have:=bq.1 k h;simp;omega) (fun h=>by simp;omega)) ?_;intro l' W5 gm fZ SX;have q6:=(af.new W4 (nU d) 106).keep (gm _ (.inr rfl));have iX:=bq.on (W':=W5) fun k hk=>(gm k (.inl hk)).trans (iy.block k (bq.1 k hk));have Cy:aK O W W5:=(aK.bG ah).fY fZ;have y1:=q1.aQ Cy I4;have y4:=r4.aQ fZ (fun h=>by have:=eQ.1 _ h;omega);have y5:=r5.aQ fZ (fun h=>by have:=eQ.1 _ h;omega);have oy:=om.keep (fZ.block bm om.lt (fun h=>by have:=eQ.1 _ h;omega));have gG:∀k,D k∨k=W4.heap.size→k<W5.heap.size:=fun k hk=>hk.elim (iX.1 k) (fun h=>by have:=q6.lt;omega);have qA:W.heap.size≤W5.heap.size:=by omega
  clear hK iy gm hit bq r4 r5 om xv;obtain⟨q,D0,bE,hq,kD⟩:=iX.out;clear iX;replace bE:=bE.wide (D':=fun k=>D k∨k=W4.heap.size) fun k hk=> .inl hk;have gb:=ad (show YS.drop q=(if ex.contains (d * 86400+st%86400)then[]else[d * 86400+st%86400])++qy st ex (XS.drop (i+1))from by rw[kD,uX.out,V2]);clear kD uX;have V1:=aaf (d:=d) uZ.out;have ahN:0≤st%86400∧st%86400<86400:=by omega
  gi_upto_region 4 with fail;have fx:∀p∈pO be W.heap.size b5 W4.heap.size,p.1<14:=fun p hp=>by
   simp only[pO,π,ο,or_false]at hp;rcases hp with rfl|rfl|rfl|rfl<;>simp
  have g1:∀w',Below W5.heap.size W5 w'→(κ 3 (δ (some ⟨be,1,none⟩))).run prog w'= .ok (V Z st) w':=fun w' hb=>iH ((y1.on hb).cell (k:=1) rfl);have g4:∀w',Below W5.heap.size W5 w'→(κ 58 (δ (some ⟨W.heap.size,0,none⟩))).run prog w'= .ok (.func (.yield l) #[] #[]) w':=fun w' hb=>LY ((y4.on hb).cell (k:=0) rfl);have g5:∀w',Below W5.heap.size W5 w'→(κ 264 (δ (some ⟨b5,0,none⟩))).run prog w'= .ok (.map (some bm)) w':=fun w' hb=>Ts ((y5.on hb).cell (k:=0) rfl);have g6:∀w',Below W5.heap.size W5 w'→(κ 106 (δ (some ⟨W4.heap.size,0,none⟩))).run prog w'= .ok (aO d) w':=fun w' hb=>Tt (q6.on hb);have gl:∀w',Below W5.heap.size W5 w'→(Instr.lookup 264 (.map (some bm)) (aO d) false).run prog w'= .ok (V Z (ds.count d)) w':=fun w' hb=>(oy.keep (hb.block bm oy.lt)).look d (by omega) (by omega);rename_i K1 aP;by_cases hc:ex.contains (d * 86400+st%86400)
  case pos=>
   have di:ds.count d≠0:=fun h=>by rw[V1.1 h]at hc;cases hc
   have kD:=ad (show YS.drop q=qy st ex (XS.drop (i+1))from by rw[gb.out,if_pos hc];rfl);clear gb;refine mn (YP 14 15 29 (pO be W.heap.size b5 W4.heap.size) W5 (NC bm d (ds.count d))) Fi (by kernel_rfl) ?rops ?rdone ⟨rfl,rfl,fun p hp=>by
    simp only[pO,π,ο,or_false]at hp;rcases hp with rfl|rfl|rfl|rfl<;>rfl,(ζ _ _).drew,fun _ _ h=>by cases h⟩
   case rdone=>
    intro L a w' bT hI;have Tx:a.eval (.tmp 28)= .bool false:=hI.bC 14 (by decide) (bT 14 (by decide));have iZ:=hI.below;obtain⟨fr,rfl,hf⟩:=I7 a hI.size hI.defers;have f28:=(hf 28).symm.trans Tx;rw[f28];clear hf Tx f28 hI;refine aP _ _ ?_;clear aP;gi_wp2_with fail;have LZ:=bE.below iZ;exact⟨aK.bG iZ,fun k=>D k∨k=W4.heap.size,fun k hk=> .inl hk,fun k hk=>hk,DK.ic (fun k hk=>μ (gG k hk) iZ.size) ⟨q,D0,LZ,hq,kD.out⟩⟩
   case rops=>
    intro L j o a w' ho fV cC hC hI;have hj:j<15:=(Array.getElem?_eq_some_iff.1 ho).1;have s1:a.eval (.tmp 1)= δ (some ⟨be,0,none⟩):=hI.fixed (1,_) (by simp[pO]);have s5:a.eval (.tmp 5)= δ (some ⟨b5,0,none⟩):=hI.fixed (5,_) (by simp[pO]);have s6:a.eval (.tmp 6)= δ (some ⟨W4.heap.size,0,none⟩):=hI.fixed (6,_) (by simp[pO]);have w4:L 4=true→∀{ops:Array ρ} {o':ρ},((ops[4]?).bind (·.dst))=some 18→o'.guard=some (4,true)→Region.wanted o' (yielded ops a.tmps)=false:=fun hl ops o' hd hg=>by
     rw[I6 hg hd (d:=18) (by rw[hI.size];decide) (c:=false) (hI.bC 4 (by decide) hl)];rfl
    have gA:j=0∨j=1∨j=2∨j=3∨j=4∨j=5∨j=6∨j=7∨j=8∨j=9∨j=10∨j=11∨j=12∨j=13∨j=14:=by omega
    rcases gA with rfl|rfl|rfl|rfl|rfl|rfl|rfl|rfl|rfl|rfl|rfl|rfl|rfl|rfl|rfl<;>obtain rfl:=Option.some.inj ho
    ·exact cZ rfl rfl (bK (fun _=>trivial) (fun _ h=>by cases h) (dp rfl s5 (g5 _ hI.below)) (hI.step (j:=0) (by decide) (by decide) fx rfl (ζ _ _) rfl))
    ·exact cZ rfl rfl (bK (fun _=>trivial) (fun _ h=>by cases h) (dp rfl s6 (g6 _ hI.below)) (hI.step (j:=1) (by decide) (by decide) fx rfl (ζ _ _) rfl))
    ·have e1:a.eval (.tmp 14)= .map (some bm):=hI.bC 0 (by decide) (cC ⟨0, .data⟩ (by simp) rfl);have e2:a.eval (.tmp 15)=aO d:=hI.bC 1 (by decide) (cC ⟨1, .data⟩ (by simp) rfl);exact cZ rfl rfl (bK (fun _=>trivial) (fun _ h=>by cases h) (Tu rfl e1 e2 (gl _ hI.below)) (hI.step (j:=2) (by decide) (by decide) fx rfl (ζ _ _) rfl))
    ·have e:a.eval (.tmp 16)= V Z (ds.count d):=hI.bC 2 (by decide) (cC ⟨2, .data⟩ (by simp) rfl);exact cZ rfl rfl (bK (fun _=>trivial) (fun _ h=>by cases h) (Pg rfl e) (hI.step (j:=3) (by decide) (by decide) fx (show Value.bool (((ds.count d:Nat):Int)==0)= .bool false by congr 1;simpa using di) (ζ _ _) rfl))
    ·have e:a.eval (.tmp 17)= .bool false:=hI.bC 3 (by decide) (cC ⟨3, .data⟩ (by simp) rfl);exact cZ rfl rfl (bK (fun _=>trivial) (fun _ h=>by cases h) (Lo rfl e) (hI.step (j:=4) (by decide) (by decide) fx rfl (ζ _ _) rfl))
    ·exact jI rfl (w4 (cC ⟨4, .guard⟩ (by simp) rfl) rfl rfl) (fun _=>trivial) (hI.step (j:=5) (by decide) (by decide) fx (show NC bm d (ds.count d) 5 undef from rfl) (ζ _ _) rfl)
    ·exact jI rfl (w4 (cC ⟨4, .guard⟩ (by simp) rfl) rfl rfl) (fun _=>trivial) (hI.step (j:=6) (by decide) (by decide) fx (show NC bm d (ds.count d) 6 undef from rfl) (ζ _ _) rfl)
    ·exact jI rfl (w4 (cC ⟨4, .guard⟩ (by simp) rfl) rfl rfl) (fun _=>trivial) (hI.step (j:=7) (by decide) (by decide) fx (show NC bm d (ds.count d) 7 undef from rfl) (ζ _ _) rfl)
    ·exact jI rfl (w4 (cC ⟨4, .guard⟩ (by simp) rfl) rfl rfl) (fun _=>trivial) (hI.step (j:=8) (by decide) (by decide) fx (show NC bm d (ds.count d) 8 undef from rfl) (ζ _ _) rfl)
    ·exact jI rfl (w4 (cC ⟨4, .guard⟩ (by simp) rfl) rfl rfl) (fun _=>trivial) (hI.step (j:=9) (by decide) (by decide) fx (show NC bm d (ds.count d) 9 undef from rfl) (ζ _ _) rfl)
    ·exact jI rfl (w4 (cC ⟨4, .guard⟩ (by simp) rfl) rfl rfl) (fun _=>trivial) (hI.step (j:=10) (by decide) (by decide) fx (show NC bm d (ds.count d) 10 undef from rfl) (ζ _ _) rfl)
    ·exact jI rfl (w4 (cC ⟨4, .guard⟩ (by simp) rfl) rfl rfl) (fun _=>trivial) (hI.step (j:=11) (by decide) (by decide) fx (show NC bm d (ds.count d) 11 undef from rfl) (ζ _ _) rfl)
    ·exact jI rfl (w4 (cC ⟨4, .guard⟩ (by simp) rfl) rfl rfl) (fun _=>trivial) (hI.step (j:=12) (by decide) (by decide) fx (show NC bm d (ds.count d) 12 undef from rfl) (ζ _ _) rfl)
    ·exact jI rfl (w4 (cC ⟨4, .guard⟩ (by simp) rfl) rfl rfl) (fun _=>trivial) (hI.step (j:=13) (by decide) (by decide) fx (show NC bm d (ds.count d) 13 undef from rfl) (ζ _ _) rfl)
    ·have e1:a.eval (.tmp 18)= .bool false:=hI.bC 4 (by decide) (cC ⟨4, .data⟩ (by simp) rfl);exact cZ rfl rfl (bK (fun _=>trivial) (fun _ h=>by cases h) (aag rfl e1) (hI.step (j:=14) (by decide) (by decide) fx rfl (ζ _ _) rfl))
  case neg=>
   have hcz:ds.count d=0:=V1.2 (by simpa using hc);have cM:=ad (show YS.drop q=(d * 86400+st%86400)::qy st ex (XS.drop (i+1))from by rw[gb.out,if_neg hc];rfl);clear gb;obtain⟨oR,kt,oK⟩:=nX cM.out;replace kt:=ad kt;clear cM;rw[hcz]at gl;have hY':=ad (fun w' (hb:Below W5.heap.size W5 w')=>xE.out q _ oR w' D0 (Cy.fY (aK.bG hb)) bE.dO bE.Od (bE.below hb).on);have hBG:=ad (fun w'=>Gv d w' (by omega) (by omega));refine mn (YI 14 12 29 (pO be W.heap.size b5 W4.heap.size) W5 (NB l be bm d st) (fun W'=>∃w',Below W5.heap.size W5 w'∧bR D0 w'.heap.size (J (q+1)) w' W') (fun W'=>∃w',Below W5.heap.size W5 w'∧bR D0 w'.heap.size Js w' W') BB) Fi (by kernel_rfl) ?rops ?rdone (YI.start rfl rfl (fun p hp=>by
    simp only[pO,π,ο,or_false]at hp;rcases hp with rfl|rfl|rfl|rfl<;>rfl) (ζ _ _).drew)
   case rdone=>
    intro L a WX bT hI;obtain⟨_,b,_,hT,hF,hB⟩:=hI.post (bT 12 (by decide));have Tx:a.eval (.tmp 28)= .bool (!b):=hB 14 (by decide) (bT 14 (by decide));obtain⟨fr,rfl,hf⟩:=I7 a hI.size hI.defers;have f28:=(hf 28).symm.trans Tx;rw[f28];clear hf Tx f28 hI hB;refine aP _ _ ?_;clear aP;cases b
    case true=>
     obtain⟨w',iZ,hp⟩:=hT rfl;obtain⟨ig,gu,oS,jT⟩:=(bE.below iZ).post (by have:=iZ.size;omega) hp;have iq:aK (fun k=>D k∨k=W4.heap.size) W5 WX:=(aK.bG iZ).trans jT (fun k hk=> .inl (bE.sub k hk));have qX:=iZ.size;clear hT hF;gi_wp2_with fail;exact⟨iq,fun k=>(D k∨k=W4.heap.size)∨ig k,fun k hk=>hk.elim .inl fun h=>(oS k h).elim (fun h=> .inl (bE.sub k h)) (fun h=> .inr (by omega)),fun k hk=> .inl hk,DK.ic (fun k hk=>hk.elim (fun h=>μ (gG k h) iq.size) (fun h=>gu.on.1 k h)) ⟨q+1,ig,gu,oK,kt.out⟩⟩
    case false=>
     obtain⟨w',iZ,hp⟩:=hF rfl;obtain⟨ig,gu,oS,jT⟩:=(bE.below iZ).post (by have:=iZ.size;omega) hp;have iq:aK (fun k=>D k∨k=W4.heap.size) W5 WX:=(aK.bG iZ).trans jT (fun k hk=> .inl (bE.sub k hk));have qX:=iZ.size;clear hT hF;gi_wp2_with fail;exact⟨iq,fun k=>(D k∨k=W4.heap.size)∨ig k,fun k hk=>hk.elim .inl fun h=>(oS k h).elim (fun h=> .inl (bE.sub k h)) (fun h=> .inr (by omega)),fun k hk=> .inl hk,rb.YG (DX.ic (fun k hk=>hk.elim (fun h=>μ (gG k h) iq.size) (fun h=>gu.on.1 k h)) ⟨ig,gu⟩)⟩
   case rops=>
    intro L j o a w' ho fV cC hC hI;have hj:j<15:=(Array.getElem?_eq_some_iff.1 ho).1;have s1:a.eval (.tmp 1)= δ (some ⟨be,0,none⟩):=hI.fixed (1,_) (by simp[pO]);have s4:a.eval (.tmp 4)= δ (some ⟨W.heap.size,0,none⟩):=hI.fixed (4,_) (by simp[pO]);have s5:a.eval (.tmp 5)= δ (some ⟨b5,0,none⟩):=hI.fixed (5,_) (by simp[pO]);have s6:a.eval (.tmp 6)= δ (some ⟨W4.heap.size,0,none⟩):=hI.fixed (6,_) (by simp[pO]);have w4:L 4=true→∀{ops:Array ρ} {o':ρ},((ops[4]?).bind (·.dst))=some 18→o'.guard=some (4,true)→Region.wanted o' (yielded ops a.tmps)=true:=fun hl ops o' hd hg=>by
     rw[I6 hg hd (d:=18) (by rw[hI.size];decide) (c:=true) (hI.bC 4 (by decide) hl)];rfl
    have gA:j=0∨j=1∨j=2∨j=3∨j=4∨j=5∨j=6∨j=7∨j=8∨j=9∨j=10∨j=11∨j=12∨j=13∨j=14:=by omega
    rcases gA with rfl|rfl|rfl|rfl|rfl|rfl|rfl|rfl|rfl|rfl|rfl|rfl|rfl|rfl|rfl<;>obtain rfl:=Option.some.inj ho
    ·exact cZ rfl rfl (bK (fun _=>trivial) (fun _ h=>by cases h) (dp rfl s5 (g5 _ (hI.below (by decide) fV))) (hI.fM (by decide) fV (by decide) fx rfl (ζ _ _) rfl))
    ·exact cZ rfl rfl (bK (fun _=>trivial) (fun _ h=>by cases h) (dp rfl s6 (g6 _ (hI.below (by decide) fV))) (hI.fM (by decide) fV (by decide) fx rfl (ζ _ _) rfl))
    ·have OW:a.eval (.tmp 14)= .map (some bm):=hI.bC 0 (by decide) (cC ⟨0, .data⟩ (by simp) rfl);have zd:a.eval (.tmp 15)=aO d:=hI.bC 1 (by decide) (cC ⟨1, .data⟩ (by simp) rfl);exact cZ rfl rfl (bK (fun _=>trivial) (fun _ h=>by cases h) (Tu rfl OW zd (gl _ (hI.below (by decide) fV))) (hI.fM (by decide) fV (by decide) fx rfl (ζ _ _) rfl))
    ·have KU:a.eval (.tmp 16)= V Z 0:=hI.bC 2 (by decide) (cC ⟨2, .data⟩ (by simp) rfl);exact cZ rfl rfl (bK (fun _=>trivial) (fun _ h=>by cases h) (Pg rfl KU) (hI.fM (by decide) fV (by decide) fx rfl (ζ _ _) rfl))
    ·have KV:a.eval (.tmp 17)= .bool true:=hI.bC 3 (by decide) (cC ⟨3, .data⟩ (by simp) rfl);exact cZ rfl rfl (bK (fun _=>trivial) (fun _ h=>by cases h) (Lo rfl KV) (hI.fM (by decide) fV (by decide) fx rfl (ζ _ _) rfl))
    ·exact iK rfl (w4 (cC ⟨4, .guard⟩ (by simp) rfl) rfl rfl) (bK (fun _=>trivial) (fun _ h=>by cases h) (dp rfl s4 (g4 _ (hI.below (by decide) fV))) (hI.fM (by decide) fV (by decide) fx rfl (ζ _ _) rfl))
    ·exact iK rfl (w4 (cC ⟨4, .guard⟩ (by simp) rfl) rfl rfl) (bK (fun _=>trivial) (fun _ h=>by cases h) (dp rfl s6 (g6 _ (hI.below (by decide) fV))) (hI.fM (by decide) fV (by decide) fx rfl (ζ _ _) rfl))
    ·have e20:a.eval (.tmp 20)=aO d:=hI.bC 6 (by decide) (cC ⟨6, .data⟩ (by simp) rfl);exact iK rfl (w4 (cC ⟨4, .guard⟩ (by simp) rfl) rfl rfl) (Tp (f:=64) (args:=#[a.eval (.tmp 20)]) (fun _ h=>by cases h) (by kernel_rfl) (by rw[e20];exact hBG.out w') (fun aA hb=>hI.fM (by decide) fV (by decide) fx rfl hb rfl))
    ·exact iK rfl (w4 (cC ⟨4, .guard⟩ (by simp) rfl) rfl rfl) (bK (fun _=>trivial) (fun _ h=>by cases h) (rZ rfl s1 (uG be 1 1 (.inr (.inl rfl)) _)) (hI.fM (by decide) fV (by decide) fx rfl (ζ _ _) rfl))
    ·have Fq:a.eval (.tmp 22)= δ (some ⟨be,1,none⟩):=hI.bC 8 (by decide) (cC ⟨8, .data⟩ (by simp) rfl);exact iK rfl (w4 (cC ⟨4, .guard⟩ (by simp) rfl) rfl rfl) (bK (fun _=>trivial) (fun _ h=>by cases h) (dp rfl Fq (g1 _ (hI.below (by decide) fV))) (hI.fM (by decide) fV (by decide) fx rfl (ζ _ _) rfl))
    ·have Cz:a.eval (.tmp 23)= V Z st:=hI.bC 9 (by decide) (cC ⟨9, .data⟩ (by simp) rfl);exact iK rfl (w4 (cC ⟨4, .guard⟩ (by simp) rfl) rfl rfl) (bK (fun _=>trivial) (fun _ h=>by cases h) (aai rfl Cz s0) (hI.fM (by decide) fV (by decide) fx rfl (ζ _ _) rfl))
    ·have Ph:a.eval (.tmp 21)= V Z (d * 86400):=hI.bC 7 (by decide) (cC ⟨7, .data⟩ (by simp) rfl);have Pj:a.eval (.tmp 24)= V Z (st%86400):=hI.bC 10 (by decide) (cC ⟨10, .data⟩ (by simp) rfl);exact iK rfl (w4 (cC ⟨4, .guard⟩ (by simp) rfl) rfl rfl) (bK (fun _=>trivial) (fun _ h=>by cases h) (aaj rfl Ph Pj (by omega) (by omega)) (hI.fM (by decide) fV (by decide) fx rfl (ζ _ _) rfl))
    ·
     have bT:∀j,j<12→L j=true:=by
      have l5:=cC ⟨5, .data⟩ (by simp) rfl;have l11:=cC ⟨11, .data⟩ (by simp) rfl;have l4:=cC ⟨4, .guard⟩ (by simp) rfl;have l7:=hC 11 _ rfl l11 ⟨7, .data⟩ (by simp) rfl;have l10:=hC 11 _ rfl l11 ⟨10, .data⟩ (by simp) rfl;have l9:=hC 10 _ rfl l10 ⟨9, .data⟩ (by simp) rfl;have l8:=hC 9 _ rfl l9 ⟨8, .data⟩ (by simp) rfl;have l6:=hC 7 _ rfl l7 ⟨6, .data⟩ (by simp) rfl;have l3:=hC 4 _ rfl l4 ⟨3, .data⟩ (by simp) rfl;have l2:=hC 3 _ rfl l3 ⟨2, .data⟩ (by simp) rfl;have l0:=hC 2 _ rfl l2 ⟨0, .data⟩ (by simp) rfl;have l1:=hC 2 _ rfl l2 ⟨1, .data⟩ (by simp) rfl;intro j hj;have gA:j=0∨j=1∨j=2∨j=3∨j=4∨j=5∨j=6∨j=7∨j=8∨j=9∨j=10∨j=11:=by omega
      rcases gA with rfl|rfl|rfl|rfl|rfl|rfl|rfl|rfl|rfl|rfl|rfl|rfl<;>assumption
     have e19:a.eval (.tmp 19)= .func (.yield l) #[] #[]:=hI.bC 5 (by decide) (bT 5 (by decide));have Fs:a.eval (.tmp 25)= V Z (d * 86400+st%86400):=hI.bC 11 (by decide) (bT 11 (by decide));have fA:=(hI.pre fV).1;obtain⟨LP,tj,E6,Iv,mj,jj⟩:=hY'.out w' fA;refine iK rfl (w4 (bT 4 (by decide)) rfl rfl) (Fo (fun _ h=>by cases h) (Tv rfl e19 Fs mj) jj ?_ ?_ ?_)
     ·rintro v W' (⟨he,hp⟩|⟨he,hp⟩|⟨c,he,_⟩)
      ·cases he;exact hI.Fp bT fV (by decide) fx (fun _=>⟨w',fA,hp⟩) (fun h=>by cases h) rfl
      ·cases he;exact hI.Fp bT fV (by decide) fx (fun h=>by cases h) (fun _=>⟨w',fA,hp⟩) rfl
      ·cases he
     ·rintro c W' (⟨he,_⟩|⟨he,_⟩|⟨c',he,hp⟩)
      ·cases he
      ·cases he
      ·cases he;obtain⟨ig,gu,oS,jT⟩:=(bE.below fA).post (by have:=fA.size;omega) hp;have iq:aK (fun k=>D k∨k=W4.heap.size) W5 W':=(aK.bG fA).trans jT (fun k hk=> .inl (bE.sub k hk));have qX:=fA.size;exact⟨hI.defers,iq,fun k=>(D k∨k=W4.heap.size)∨ig k,fun k hk=>hk.elim .inl fun h=>(oS k h).elim (fun h=> .inl (bE.sub k h)) (fun h=> .inr (by omega)),fun k hk=> .inl hk,DX.ic (fun k hk=>hk.elim (fun h=>μ (gG k h) iq.size) (fun h=>gu.on.1 k h)) ⟨ig,gu⟩⟩
     ·rintro W' (⟨he,_⟩|⟨he,_⟩|⟨c',he,_⟩)<;>cases he
    ·have Ty:=cC ⟨12, .data⟩ (by simp) rfl;have l4:=cC ⟨4, .guard⟩ (by simp) rfl;obtain⟨_,b,L7,_,_,_⟩:=hI.post Ty;exact iK rfl (w4 l4 rfl rfl) (bK (fun _=>trivial) (fun _ h=>by cases h) (Gp rfl L7) (hI.yL (by decide) fV Ty (by decide) fx (fun b' iZ=>by
      have L8:a.eval (.tmp 26)= .bool b':=iZ;rw[L7]at L8;cases L8;rfl) rfl))
    ·have l13:=cC ⟨13, .data⟩ (by simp) rfl;have Ty:=hC 13 _ rfl l13 ⟨12, .data⟩ (by simp) rfl;have e18:a.eval (.tmp 18)= .bool true:=hI.bC 4 (by decide) (cC ⟨4, .data⟩ (by simp) rfl);obtain⟨_,b,L7,_,_,hB⟩:=hI.post Ty;have e27:a.eval (.tmp 27)= .bool (!b):=hB 13 (by decide) l13;exact cZ rfl rfl (bK (fun _=>trivial) (fun _ h=>by cases h) (aah rfl e18 e27) (hI.yL (by decide) fV Ty (by decide) fx (fun b' iZ=>by
      have L8:a.eval (.tmp 26)= .bool b':=iZ;rw[L7]at L8;cases L8;rfl) rfl))
end Go.Proofs.YthpndgcaoeokeaaGreatDoor
namespace Go.Proofs.YthpndgcaoeokeaaGreatDoor
open Tryz
open Go.RowKit Go.Sort
attribute [local go_sem] Oper.semAt_some
attribute [local go_sem] jt fy
attribute [local simp] jt fy
theorem L9 (u:ByteArray)(st ln:Int)(hr:Bool)(r:au)(m md wk pl:Value)(tx:ByteArray)(aG aI:Value)(ex xt:List Int)(tr:Bool)(k:Int)(f to:Int)(w:θ)(hl:ny w hr r m md wk pl aG aI ex xt)
 (s0:0≤st)(s1:st≤7258118400)(f0:-1000000000000≤f)(f1:f≤7258118400)(t0:0≤to)(t1:to≤7258118400):
 Η prog 159 #[.agg (dQ u st ln hr r m md wk pl tx aG aI tr k).toArray, V Z f, V Z to] w (xG (pM (zC hr r st f to ex)) (qz m md wk pl aG aI) w):=by
 have AM:∀args w,(callFunc 215 args).run prog w= .ok (.enter 215 args) w:=enters_of func215 (by kernel_rfl) rfl;replace AM:=ad AM;have q0:=qs w (dQ u st ln hr r m md wk pl tx aG aI tr k) 79 (ε #[V Z f] 3) (ε #[V Z to] 3);have q1:=qt w (ε (dQ u st ln hr r m md wk pl tx aG aI tr k).toArray 79) [V Z f] 3 (ε #[V Z to] 3);have q2:=qu w (ε (dQ u st ln hr r m md wk pl tx aG aI tr k).toArray 79) (ε #[V Z f] 3) [V Z to] 3;have ah:=mi w (ε (dQ u st ln hr r m md wk pl tx aG aI tr k).toArray 79) (ε #[V Z f] 3) (ε #[V Z to] 3);have hit:=ad (aeZ u st ln hr r m md wk pl tx aG aI ex xt tr k f to w.heap.size (w.heap.size+1) (w.heap.size+1+1) _ (hl.on ah) s0 s1 f0 f1 t0 t1 q0 q1 q2);have mH:=ad (fun k (h:qz m md wk pl aG aI k)=>hl.jG h);clear hl q0 q1 q2;generalize dQ u st ln hr r m md wk pl tx aG aI tr k=E at *
 go_enter func159,ntmps159;go_wp2_with fail;go_ret;refine⟨_,_,_,rfl,hit.out,fun k hk=>?_,AM.out,ah⟩;rcases hk with rfl|rfl|rfl|h
 ·exact⟨by simp;omega, .inr (η _)⟩
 ·exact⟨by simp, .inr (by omega)⟩
 ·exact⟨by simp, .inr (by omega)⟩
 ·exact⟨by have:=mH.out k h;simp;omega, .inl h⟩
theorem QK {w:θ}{v:Value}{zs:List Int}(x:Int)(h:dn w v zs)(hb:zs.length≤1000):
 Η prog 218 #[v, V Z x] w fun e w'=>e= .returned (.bool (zs.contains x))∧Below w.heap.size w w':=by
 rcases h with⟨rfl,rfl⟩|⟨g,cap,rest,rfl,hr⟩
 ·refine(Tryz.slices_Contains_int_empty none 0 x w).mono ?_;rintro e w' ⟨rfl,rfl⟩;exact⟨rfl,ζ _ _⟩
 ·refine(Tryz.slices_Contains_int g 0 zs.length cap zs x w (η _) (by omega) (fun j hj=>?_)).mono ?_
  ·rw[Nat.zero_add];exact hr.cell (by rw[List.getElem?_map,List.getElem?_append_left hj,ι hj,List.getD_eq_getElem?_getD,ι hj];rfl)
  ·rintro e w' ⟨rfl,rfl⟩;exact⟨by rw[List.take_length],ζ _ _⟩
def jk (st f to:Int)(ex:List Int)(l:List Int):List Int:=l.filter fun t=>decide (max st f≤t)&&decide (t<to)&&!ex.contains t
def ints (l:List Int):List Value:=l.map (Value.int Z)
theorem Tz (l:List Int)(x:Int):ints (l++[x])=ints l++[V Z x]:=by unfold ints;simp
theorem JQ (u:ByteArray)(st ln:Int)(hr:Bool)(r:au)(m md wk pl:Value)(tx:ByteArray)(aG aI:Value)(ex xt:List Int)(tr:Bool)(k:Int)(f to:Int)(w:θ)(hl:ny w hr r m md wk pl aG aI ex xt):
 Η prog 160 #[.agg (dQ u st ln hr r m md wk pl tx aG aI tr k).toArray, V Z f, V Z to] w fun e w'=>∃v,e= .returned v∧w'.ownsRow w.heap.size 3 1 v (jk st f to ex xt).length (ints (jk st f to ex xt))∧Below w.heap.size w w':=by
 obtain⟨a5,c5,e5⟩:=hl.hex.sl;obtain⟨a6,c6,e6⟩:=hl.lG.sl;have hC:Hid (∀W' x,Below w.heap.size w W'→Η prog 218 #[aG, V Z x] W' fun e w'=>e= .returned (.bool (ex.contains x))∧Below W'.heap.size W' w'):=ad fun W' x hb=>QK x (hl.on hb).hex hl.exl;have hX:Hid (∀W',Below w.heap.size w W'→dn W' aI xt):=ad fun W' hb=>(hl.on hb).lG;have KW:=hl.xtl;clear hl;have r1:=af.new w (dQ u st ln hr r m md wk pl tx aG aI tr k) 79;have ah:=(ζ w.heap.size w).alloc (η _) (ε (dQ u st ln hr r m md wk pl tx aG aI tr k).toArray 79);have hE1:(dQ u st ln hr r m md wk pl tx aG aI tr k)[1]?=some (V Z st):=rfl;have ahW:(dQ u st ln hr r m md wk pl tx aG aI tr k)[14]?=some aG:=rfl;have ahX:(dQ u st ln hr r m md wk pl tx aG aI tr k)[15]?=some aI:=rfl;generalize dQ u st ln hr r m md wk pl tx aG aI tr k=E at *
 subst e5 e6;have hL:Hid (jk st f to ex xt=jk st f to ex (xt.take 0)++jk st f to ex (xt.drop 0)):=ad rfl;refine(callsIn_wide (n:=0)).1 ?_;refine callsIn_of_wp func160 rfl trivial ?_ rfl;simp only[ntmps160,χ,ω,Δ,Ζ,Ε,υ,τ,ψ,φ,Γ,Β];gi_upto_region 1 with fail;have bu:w.heap.size<(w.alloc (ε E.toArray 79)).heap.size:=by simp
 generalize w.alloc (ε E.toArray 79)=W at *
 have g15:=r1.cell ahX;gi_wp2_with fail;clear g15;gi_loopg [7,13] xt.length (fun q pv cv wr=>∃(i:Nat) (pre:List Int),i+q=xt.length∧cv= V Z i∧Below w.heap.size w wr∧af wr w.heap.size E 79∧wr.ownsRow W.heap.size 3 1 pv pre.length (ints pre)∧pre.length≤i∧W.heap.size≤wr.heap.size∧Hid (jk st f to ex xt=pre++jk st f to ex (xt.drop i)))
 case atStart=>exact⟨0,[],by omega,rfl,ah,r1,World.ownsRow_nil _ _ _ _,η _,η _,ad (by simp)⟩
 case round=>
  clear ah r1 hL;obtain⟨i,pre,hiq,rfl,ah,r1,aw,Cq,hsW,HL⟩:=hrel;have YB:=ah.size;by_cases hi:i=xt.length
  case pos=>
   have HL':Hid (jk st f to ex xt=pre):=ad (by rw[HL.out,hi,Α];simp[jk]);clear HL;subst hi;gi_wp2_with fail;go_ret;exact⟨u7,rfl,by rw[HL'.out];exact sr aw (by omega),ah⟩
  case neg=>
   have wK:i<xt.length:=by omega
   obtain⟨t,ht⟩:∃t,xt[i]?=some t:=⟨_,ι wK⟩;obtain⟨gx,KI,hcx⟩:=(hX.out wr ah).cell ht;have cM:=ad (show jk st f to ex (xt.drop i)=(if max st f≤t∧t<to∧ex.contains t=false then[t]else[])++jk st f to ex (xt.drop (i+1))from by
    rw[drop_one ht];unfold jk;rw[List.filter_cons];by_cases h1:max st f≤t<;>by_cases h2:t<to<;>cases h3:ex.contains t<;>simp[h1,h2])
   subst KI;have g1:=r1.cell hE1;have g14:=r1.cell ahW;clear ht;by_cases h1:max st f≤t
   case neg=>
    have HN:¬(max st f≤t∧t<to∧ex.contains t=false):=fun h=>h1 h.1;have zc:t<max st f:=by omega
    gi_wp2_with fail;gi_roundg (gk - 1)
    case measure=>omega
    case rel=>exact⟨i+1,pre,by omega,by go_num,ah,r1,aw,by omega,hsW,ad (by rw[HL.out,cM.out,if_neg HN];rfl)⟩
   case pos=>
    by_cases h2:t<to
    case neg=>
     have HN:¬(max st f≤t∧t<to∧ex.contains t=false):=fun h=>h2 h.2.1;have B4:to≤t:=by omega
     gi_wp2_with fail;gi_roundg (gk - 1)
     case measure=>omega
     case rel=>exact⟨i+1,pre,by omega,by go_num,ah,r1,aw,by omega,hsW,ad (by rw[HL.out,cM.out,if_neg HN];rfl)⟩
    case pos=>
     gi_wp2_with fail;refine((callsIn_wide.2 (hC.out _ t ah)).mono ?_);rintro e W5 ⟨rfl,bk⟩;have QL:=ad (show ∀b,ex.contains t=b→jk st f to ex xt=(pre++(if b then[]else[t]))++jk st f to ex (xt.drop (i+1))from fun b hb=>by
      rw[HL.out,cM.out,List.append_assoc];cases b
      ·rw[if_pos ⟨h1,h2,hb⟩];rfl
      ·rw[if_neg (fun h=>by rw[h.2.2]at hb;cases hb)];rfl)
     have lK:=fa aw (w':=W5) fun g hg=>bk.block g (aw.lt g hg).2;have r5:=r1.on bk;have DP:=ad (ah.trans (bk.mono YB));have SX:=bk.size;clear g1 g14 hcx HL cM aw r1 bk;generalize hB:ex.contains t=B at *
     replace QL:=ad (QL.out B rfl);clear hB;cases B
     case true=>
      gi_wp2_with fail;gi_roundg (gk - 1)
      case measure=>omega
      case rel=>exact⟨i+1,pre,by omega,by go_num,DP.out,r5,lK,by omega,by omega,ad (by simpa using QL.out)⟩
     case false=>
      gi_wp2_with (gi_at_builtin;refine Hid.out ?_);refine ad ?_;refine AF rfl (.tmp 35) (.tmp 37) 54 3 _ 1 8 rfl underlying54 eu rfl (by decide) W.heap.size u7 pre.length (ints pre) rfl (lK.alloc _) (by simp;omega) W5.heap.size [V Z t] rfl rfl (fun j u hj=>(af.new W5 [V Z t] 3).cell hj) (by simp[Value.oneCell']) (by omega) (by decide) ?_;intro v' W6 dx AH yK;clear yK;have dr:=ad (((DP.out.alloc (by omega) _).grown AH (by simp;omega) (fun k hk=>by have:=(lK.lt k hk).1;omega)));have r6:af W6 w.heap.size E 79:=(AH.block _ (by have:=r5.lt;simp;omega) (fun e=>by have:=(lK.lt _ e.symm).1;omega)).trans (r5.on ((ζ _ _).alloc (η _) _));have YA:=AH.size;gi_wp2_with fail;gi_roundg (gk - 1)
      case measure=>omega
      case rel=>exact⟨i+1,pre++[t],by omega,by go_num,dr.out,r6,by rw[Tz,List.length_append];exact dx,by simp;omega,by simp at YA;omega,ad (by simpa using QL.out)⟩
end Go.Proofs.YthpndgcaoeokeaaGreatDoor
namespace Go.Proofs.YthpndgcaoeokeaaGreatDoor
open Tryz
open Go.RowKit
structure YJ (s0 y n0:Nat)(a0:Θ)(W:θ)(N:Nat→Value→Prop)(T Fa:θ→Prop)(Bz:Bool→Nat→Value→Prop)(L:Nat→Bool)(a:Θ)(w:θ):Prop where
 size:a.tmps.size=a0.tmps.size
 defers:a.defers=a0.defers
 fixed:∀k:Nat,k<s0∨s0+n0≤k→a.eval (.tmp k)=a0.eval (.tmp k)
 pre:L y=false→Below W.heap.size W w∧∀j,y<j→L j=false
 bC:∀j,j<y→L j=true→N j (a.eval (.tmp (s0+j)))
 post:L y=true→(∀j,j<y→L j=true)∧∃b:Bool,a.eval (.tmp (s0+y))= .bool b∧(b=true→T w)∧(b=false→Fa w)∧∀j,y<j→L j=true→Bz b j (a.eval (.tmp (s0+j)))
section
variable {s0 y n0:Nat} {a0:Θ} {W:θ} {N:Nat→Value→Prop} {T Fa:θ→Prop} {Bz:Bool→Nat→Value→Prop} {L:Nat→Bool} {a:Θ} {w:θ}
theorem YJ.start (h4:Below W.heap.size W w):YJ s0 y n0 a0 W N T Fa Bz (fun _=>false) a0 w:=
 ⟨rfl,rfl,fun _ _=>rfl,fun _=>⟨h4,fun _ _=>rfl⟩,fun _ _ h=>(by cases h),fun h=>(by cases h)⟩
theorem YJ.below (h:YJ s0 y n0 a0 W N T Fa Bz L a w){j:Nat}(hj:j<y)(hL:L j=false):Below W.heap.size W w:=by
 cases hy:L y
 ·exact(h.pre hy).1
 ·have:=(h.post hy).1 j hj;rw[hL]at this;cases this
theorem YJ.fM (h:YJ s0 y n0 a0 W N T Fa Bz L a w){j:Nat}(hj:j<y)(hL:L j=false)(hn:y<n0)(bu:s0+n0≤a0.tmps.size){v:Value}{w':θ}(hv:N j v)(hb:Below w.heap.size w w'){dst:Option Nat}(hd:dst=some (s0+j)):
 YJ s0 y n0 a0 W N T Fa Bz (fun k=>decide (k=j)||L k) (a.put dst v) w':=by
 subst hd;have hy:L y=false:=by
  cases hy:L y
  ·rfl
  ·have:=(h.post hy).1 j hj;rw[hL]at this;cases this
 have hs:s0+j<a.tmps.size:=by rw[h.size];omega
 refine⟨by rw[eB];exact h.size,by rw[put_defers];exact h.defers,fun p hp=>by rw[bL (by omega)];exact h.fixed p hp,fun _=>⟨(h.pre hy).1.trans (hb.mono (h.pre hy).1.size),fun k hk=>?_⟩,fun k hk hl=>?_,fun hl=>?_⟩
 ·simp only[Bool.or_eq_false_iff,decide_eq_false_iff_not];exact⟨by omega,(h.pre hy).2 k hk⟩
 ·by_cases uY:k=j
  ·subst uY;rw[fh hs];exact hv
  ·rw[bL (by omega)];exact h.bC k hk (by simpa[uY]using hl)
 ·have di:¬y=j:=by omega
  simp only[di,decide_false,Bool.false_or]at hl;rw[hy]at hl;cases hl
theorem YJ.Fp (h:YJ s0 y n0 a0 W N T Fa Bz L a w)(bT:∀j,j<y→L j=true)(hL:L y=false)(hn:y<n0)(bu:s0+n0≤a0.tmps.size){b:Bool}{w':θ}(hT:b=true→T w')(hF:b=false→Fa w'){dst:Option Nat}(hd:dst=some (s0+y)):
 YJ s0 y n0 a0 W N T Fa Bz (fun k=>decide (k=y)||L k) (a.put dst (.bool b)) w':=by
 subst hd;have hs:s0+y<a.tmps.size:=by rw[h.size];omega
 refine⟨by rw[eB];exact h.size,by rw[put_defers];exact h.defers,fun p hp=>by rw[bL (by omega)];exact h.fixed p hp,fun hl=>by simp at hl,fun k hk hl=>?_,fun _=>⟨fun k hk=>by simp[bT k hk],b,fh hs,hT,hF,fun k hk hl=>?_⟩⟩
 ·rw[bL (by omega)];exact h.bC k hk (bT k hk)
 ·have di:¬k=y:=by omega
  simp only[di,decide_false,Bool.false_or]at hl;rw[(h.pre hL).2 k hk]at hl;cases hl
theorem YJ.yL (h:YJ s0 y n0 a0 W N T Fa Bz L a w){j:Nat}(hj:y<j)(hL:L j=false)(Tq:L y=true)(hn:j<n0)(bu:s0+n0≤a0.tmps.size){v:Value}(hv:∀b,a.eval (.tmp (s0+y))= .bool b→Bz b j v){dst:Option Nat}(hd:dst=some (s0+j)):
 YJ s0 y n0 a0 W N T Fa Bz (fun k=>decide (k=j)||L k) (a.put dst v) w:=by
 subst hd;have hs:s0+j<a.tmps.size:=by rw[h.size];omega
 obtain⟨p1,b,p2,p3,p4,p5⟩:=h.post Tq;refine⟨by rw[eB];exact h.size,by rw[put_defers];exact h.defers,fun p hp=>by rw[bL (by omega)];exact h.fixed p hp,fun hl=>?_,fun k hk hl=>?_,fun _=>⟨fun k hk=>by simp[p1 k hk],b,by rw[bL (by omega)];exact p2,p3,p4,fun k hk hl=>?_⟩⟩
 ·simp[Tq]at hl
 ·rw[bL (by omega)];exact h.bC k hk (p1 k hk)
 ·by_cases uY:k=j
  ·subst uY;rw[fh hs];exact hv b p2
  ·rw[bL (by omega)];exact p5 k hk (by simpa[uY]using hl)
end
theorem V4 (s0:Nat):∀(m:Nat) (a a0:Θ),a.tmps.size=a0.tmps.size→a.defers=a0.defers→s0+m≤a0.tmps.size→(∀k:Nat,k<s0∨s0+m≤k→a.eval (.tmp k)=a0.eval (.tmp k))→
 a=(ν m).foldl (fun x j=>x.put (some (s0+j)) (a.eval (.tmp (s0+j)))) a0:=by
 intro m a a0 hs hd hm hr;have key:∀(m':Nat),m'≤m→((ν m').foldl (fun x j=>x.put (some (s0+j)) (a.eval (.tmp (s0+j)))) a0).tmps.size=a0.tmps.size∧((ν m').foldl (fun x j=>x.put (some (s0+j)) (a.eval (.tmp (s0+j)))) a0).defers=a0.defers∧
  ∀k:Nat,((ν m').foldl (fun x j=>x.put (some (s0+j)) (a.eval (.tmp (s0+j)))) a0).eval (.tmp k)=if s0≤k∧k<s0+m' then a.eval (.tmp k)else a0.eval (.tmp k):=by
  intro m'
  induction m' with
  |zero=>intro _;exact⟨rfl,rfl,fun k=>by rw[if_neg (show¬(s0≤k∧k<s0+0) by omega)];rfl⟩
  |succ m' ih=>
   intro qS;obtain⟨h1,h2,h3⟩:=ih (by omega);rw[List.range_succ,List.foldl_append];simp only[List.foldl_cons,List.foldl_nil];refine⟨by rw[eB];exact h1,by rw[put_defers];exact h2,fun k=>?_⟩;by_cases hk:k=s0+m'
   ·subst hk;rw[fh (by rw[h1];omega),if_pos (show s0≤s0+m'∧s0+m'<s0+(m'+1) by omega)]
   ·rw[bL hk,h3 k];by_cases hc:s0≤k∧k<s0+m'
    ·rw[if_pos hc,if_pos (show s0≤k∧k<s0+(m'+1) by omega)]
    ·rw[if_neg hc,if_neg (show¬(s0≤k∧k<s0+(m'+1)) by omega)]
 obtain⟨h1,h2,h3⟩:=key m (η _);have hev:∀k:Nat,a.eval (.tmp k)=((ν m).foldl (fun x j=>x.put (some (s0+j)) (a.eval (.tmp (s0+j)))) a0).eval (.tmp k):=fun k=>by
  rw[h3 k];by_cases hc:s0≤k∧k<s0+m
  ·rw[if_pos hc]
  ·rw[if_neg hc];exact hr k (by omega)
 generalize(ν m).foldl (fun x j=>x.put (some (s0+j)) (a.eval (.tmp (s0+j)))) a0=b at *
 obtain⟨ta,da⟩:=a;obtain⟨tb,db⟩:=b;simp only[]at hs hd h1 h2;have e1:ta=tb:=by
  apply Array.ext
  ·omega
  ·intro i hi Hh;have:=hev i;have e:ta.getD i undef=tb.getD i undef:=this;simpa[Array.getD,hi,Hh]using e
 rw[e1,hd,←h2]
end Go.Proofs.YthpndgcaoeokeaaGreatDoor
