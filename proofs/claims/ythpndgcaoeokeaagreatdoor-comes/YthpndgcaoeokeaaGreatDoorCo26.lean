import Derived.Test.YthpndgcaoeokeaaGreatDoorCo25
import Derived.WideKeyEntry
import Derived.DeepKeys4
import Derived.Maps.Views
set_option maxRecDepth 100000
set_option maxHeartbeats 8000000
open Go.IntKind renaming i64→Z
open Go.Value renaming pointer→δ
open Go renaming World→ε,TypeId→μ
open Go.RowKit.Below renaming refl→ζ
open Go.MapKept renaming run_getObj_map→η
open Nat renaming lt_of_lt_of_le→θ,le_refl→ι,le_trans→ν
open Go.Result renaming andThen→κ
namespace Go.Proofs.YthpndgcaoeokeaaGreatDoor
open Tryz
open Go.RowKit Go.Sort
theorem S7 (a:Act)(h:a.tmps.size=46)(hd:a.defers=[]):∃f:Nat→Value,a=⟨List.toArray (f 0::f 1::f 2::f 3::f 4::f 5::f 6::f 7::f 8::f 9::f 10::f 11::f 12::f 13::f 14::f 15::f 16::f 17::f 18::f 19::f 20::f 21::f 22::f 23::f 24::f 25::f 26::f 27::f 28::f 29::f 30::f 31::f 32::f 33::f 34::f 35::f 36::f 37::f 38::f 39::f 40::f 41::f 42::f 43::f 44::f 45::[]),[]⟩∧∀k,a.eval (.tmp k)=f k:=jo 46 a h hd
def kX (s f last ct:Int):Int→List Int→List Int
 |_,[]=>[]
 |c,d::l=>if d * 86400<s - s%86400 then kX s f last ct c l else if last<d * 86400 then[]else(if f - s%86400≤d * 86400 then[d]else[])++(if c+1=ct then[]else kX s f last ct (c+1) l)
def oQ (r:au)(s f last:Int):List Int:=kX s f last r.ct 0 (kq (aJ r (s/86400)) s f last)
theorem DR (pls:List Int)(len:Int):∀(i:Int) (l:List Int) (d:Int),d∈ko pls len i l→d∈l
 |_,[],d,h=>by simp[ko]at h
 |i,x::l,d,h=>by
  rw[ko,List.mem_append]at h;rcases h with h|h
  ·split at h
   ·simp at h;subst h;simp
   ·simp at h
  ·exact List.mem_cons_of_mem _ (DR pls len (i+1) l d h)
theorem LL {r:au}{a:Int}{n:Nat}{d:Int}(h:d∈im r a n):a≤d∧d<a+n:=by
 unfold im aV at h;obtain⟨h,_⟩:=List.mem_filter.1 h;obtain⟨i,hi,rfl⟩:=List.mem_map.1 h;have:=List.mem_range.1 hi;omega
theorem NF {r:au}{a:Int}{n:Nat}{d:Int}(h:d∈dh r a n):a≤d∧d<a+n:=by
 unfold dh at h;split at h
 ·exact LL h
 ·exact LL (DR _ _ _ _ _ h)
theorem S8 (r:au)(ho:cX r)(s last:Int)(s0:0≤s)(s1:s≤84010)(l1:last≤7258118400):∀(g:Nat) (k:Int),0≤k→k≤dW r→(qw r s last g k).length≤g * 400∧∀d∈qw r s last g k,-400≤d∧d≤300000
 |0,k,_,_=>⟨by simp[qw],fun d h=>by simp[qw]at h⟩
 |g+1,k,k0,k1=>by
  have hb:=SY r s k s0 s1 k0 k1;have EU:=ho.Cs;have Om:=ho.Yp;rw[qw];split
  ·exact⟨by simp,fun d h=>by simp at h⟩
  ·have hk:=hb.2.2.2.2 (by omega);have ih:=S8 r ho s last s0 s1 l1 g (k+r.iv) (by omega) (by omega);have hl:=Cx r (aE r s k) (ed r s k);have hn:ed r s k≤400:=by unfold ed;omega
   have e:aE r s k+(ed r s k:Nat)=gq r s k:=by unfold ed;omega
   refine⟨by rw[List.length_append];omega,fun d hd=>?_⟩;rcases List.mem_append.1 hd with h|h
   ·have:=NF h;omega
   ·exact ih.2 d h
theorem Fj (r:au)(ho:cX r)(s f last:Int)(s0:0≤s)(s1:s≤7258118400)(f1:f≤7258118400)(l1:last≤7258118400):(kq r s f last).length≤80000000∧∀d∈kq r s f last,-400≤d∧d≤300000:=by
 have hf:=IY r ho s f s0 s1 f1;have:=S8 r ho (s/86400) last (by omega) (by omega) l1 (dW r).toNat (iz r s f) hf.1 (by omega);have hk:dW r≤200000:=by unfold dW;split<;>(try split)<;>(try split)<;>omega
 unfold kq;exact⟨by omega,this.2⟩
def Pb (W:ε)(r:au)(m md wk pl:Value)(tx:ByteArray)(s f last:Int)(i:Nat)(v:Value)(w:ε):Prop:=match i with
 |0=>v=aY r.fq r.iv r.ct r.un m md wk pl r.ws tx
 |1=>v= .int Z s
 |2=>v=aO (s/86400)
 |3=>∃m' gd gh,v=aY (aJ r (s/86400)).fq (aJ r (s/86400)).iv (aJ r (s/86400)).ct (aJ r (s/86400)).un m' gd gh pl (aJ r (s/86400)).ws tx∧eh w (aJ r (s/86400)) m' gd gh pl∧∀k,LB m' gd gh pl k→LB m md wk pl k∨W.heap.size≤k
 |4=>v= .int Z s
 |5=>v= .int Z f
 |6=>v= .int Z last
 |_=>∃m' gd gh b,v= .func (.func 340) #[] #[δ (some ⟨b+1,0,none⟩), δ (some ⟨b,0,none⟩), δ (some ⟨b+2,0,none⟩), δ (some ⟨b+3,0,none⟩)]∧W.heap.size≤b∧
  af w b (bW (aJ r (s/86400)).fq (aJ r (s/86400)).iv (aJ r (s/86400)).ct (aJ r (s/86400)).un m' gd gh pl (aJ r (s/86400)).ws tx) 76∧af w (b+1) [.int Z s] 3∧af w (b+2) [.int Z f] 3∧af w (b+3) [.int Z last] 3∧
  eh w (aJ r (s/86400)) m' gd gh pl∧∀k,LB m' gd gh pl k→LB m md wk pl k∨W.heap.size≤k
theorem Pb.grow {W:ε}{r:au}{m md wk pl:Value}{tx:ByteArray}{s f last:Int}(i:Nat)(v:Value)(w w':ε)(h:Pb W r m md wk pl tx s f last i v w)(hb:Below w.heap.size w w'):Pb W r m md wk pl tx s f last i v w':=by
 match i,h with
 |0,h|1,h|2,h|4,h|5,h|6,h=>exact h
 |3,h=>
  obtain⟨m',gd,gh,h1,h2,h3⟩:=h;exact⟨m',gd,gh,h1,h2.on hb,h3⟩
 |n+7,h=>
  obtain⟨m',gd,gh,b,h1,h2,h3,h4,h5,h6,h7,h8⟩:=h;exact⟨m',gd,gh,b,h1,h2,h3.on hb,h4.on hb,h5.on hb,h6.on hb,h7.on hb,h8⟩
theorem QH {b:Nat}{fq iv ct un ws:Int}{m md wk pl:Value}{tx:ByteArray}{w:ε}(h:af w b (bW fq iv ct un m md wk pl ws tx) 76):(Instr.loadAt 76 (δ (some ⟨b,0,none⟩))).run prog w= .ok (aY fq iv ct un m md wk pl ws tx) w:=by
 unfold bW at h;unfold aY;obtain⟨z0,z1,z2,z3,z4,z5,z6,z7,z8,z9⟩:=ca h;go_simp
theorem ac9 (w:ε)(cs:List Value)(t:μ)(x y z:Value)(t1 t2 t3:μ):
 let w':=(((w.alloc (.cells cs.toArray t)).alloc (.cells #[x] t1)).alloc (.cells #[y] t2)).alloc (.cells #[z] t3)
 af w' w.heap.size cs t∧af w' (w.heap.size+1) [x] t1∧af w' (w.heap.size+2) [y] t2∧af w' (w.heap.size+3) [z] t3∧Below w.heap.size w w':=by
 intro w';have b1:=(ζ w.heap.size w).alloc (ι _) (.cells cs.toArray t);have q0:=af.new w cs t;have q1:=af.new (w.alloc (.cells cs.toArray t)) [x] t1;have q2:=af.new ((w.alloc (.cells cs.toArray t)).alloc (.cells #[x] t1)) [y] t2;have q3:=af.new (((w.alloc (.cells cs.toArray t)).alloc (.cells #[x] t1)).alloc (.cells #[y] t2)) [z] t3;have c1:=(ζ _ (w.alloc (.cells cs.toArray t))).alloc (ι _) (.cells #[x] t1);have c2:=(ζ _ ((w.alloc (.cells cs.toArray t)).alloc (.cells #[x] t1))).alloc (ι _) (.cells #[y] t2);have c3:=(ζ _ (((w.alloc (.cells cs.toArray t)).alloc (.cells #[x] t1)).alloc (.cells #[y] t2))).alloc (ι _) (.cells #[z] t3);simp only[World.size_alloc]at q1 q2 q3;refine⟨((q0.on c1).on c2).on c3,(q1.on c2).on c3,q2.on c3,q3,?_⟩;exact((b1.alloc (by simp) _).alloc (by simp;omega) _).alloc (by simp;omega) _
attribute [local go_sem] Oper.semAt_some
attribute [local go_sem] jt fy
attribute [local simp] jt fy
theorem RoundIn.inRound {F:Fence}{n:Nat}{P:Program}{l:Nat}{f:FuncId}{tmps:Array Value}{assign body:Code}{w:ε}{R:Ending→ε→Prop}(l':Nat)(h:RoundIn F n P l f tmps assign body w R):RoundIn (F.inRound l') n P l f tmps assign body w R:=h
structure lk (O:aB)(W0:ε)(X:bI)(D0 D:aB)(W:ε):Prop where
 sub:∀k,D0 k→D k
 dO:∀k,D0 k→O k∨W0.heap.size≤k
 Od:∀k,O k→D0 k
 on:On D0 X W
theorem lk.keep {O:aB}{W0:ε}{X:bI}{D0 D:aB}{W W':ε}(h:lk O W0 X D0 D W)(hk:∀k,D k→W'.heap[k]?=W.heap[k]?):lk O W0 X D0 D W':=⟨h.sub,h.dO,h.Od,h.on.on fun k hd=>hk k (h.sub k hd)⟩
theorem lk.wide {O:aB}{W0:ε}{X:bI}{D0 D D':aB}{W:ε}(h:lk O W0 X D0 D W)(hd:∀k,D k→D' k):lk O W0 X D0 D' W:=⟨fun k hk=>hd k (h.sub k hk),h.dO,h.Od,h.on⟩
theorem lk.below {O:aB}{W0:ε}{X:bI}{D0 D:aB}{W W':ε}(h:lk O W0 X D0 D W)(hb:Below W.heap.size W W'):lk O W0 X D0 D W':=⟨h.sub,h.dO,h.Od,h.on.below hb⟩
theorem lk.set {O:aB}{W0:ε}{X:bI}{D0 D:aB}{W:ε}(h:lk O W0 X D0 D W){b o:Nat}(hb:¬D0 b)(v:Value):lk O W0 X D0 D (W.setCell ⟨b,o,none⟩ v):=⟨h.sub,h.dO,h.Od,h.on.set hb v⟩
theorem lk.post {O:aB}{W0:ε}{X X':bI}{D0 D:aB}{W W':ε}(h:lk O W0 X D0 D W)(hs:W0.heap.size≤W.heap.size)(hp:bR D0 W.heap.size X' W W'):
 ∃mF,lk O W0 X' mF (fun k=>D k∨mF k) W'∧(∀k,mF k→D0 k∨W.heap.size≤k)∧aK D0 W W':=by
 obtain⟨hx,mF,d1,d2,d3⟩:=hp;exact⟨mF,⟨fun k hk=> .inr hk,fun k hk=>(d1 k hk).elim (h.dO k) (fun hh=> .inr (ν hs hh)),fun k hk=>d2 k (h.Od k hk),d3⟩,d1,hx⟩
theorem lk.put {O:aB}{W0:ε}{X:bI}{D0 D:aB}{W:ε}(h:lk O W0 X D0 D W){b:Nat}(hb:¬D b)(o:Obj):lk O W0 X D0 D (W.putObj b o):=⟨h.sub,h.dO,h.Od,h.on.put (fun hd=>hb (h.sub _ hd)) o⟩
theorem lk.fin {O:aB}{W0:ε}{X:bI}{D0 D:aB}{W:ε}(h:lk O W0 X D0 D W)(hx:aK O W0 W):bR O W0.heap.size X W0 W:=⟨hx,D0,h.dO,h.Od,h.on⟩
def DJ (O:aB)(W0:ε)(b7:Nat)(J:Nat→bI)(E:Nat→Nat→Int→Prop)(i:Nat):bI:=fun D W=>
 D b7∧∃(c:Int) (q:Nat) (D0:aB),0≤c∧c≤i∧¬D0 b7∧lk O W0 (J q) D0 D W∧af W b7 [.int Z c] 3∧E q i c
def DX (O:aB)(W0:ε)(X:bI):bI:=fun D W=>∃D0:aB,lk O W0 X D0 D W
theorem DJ.ic {O:aB}{W0:ε}{b7:Nat}{J:Nat→bI}{E:Nat→Nat→Int→Prop}{i:Nat}{D:aB}{W:ε}(hD:∀k,D k→k<W.heap.size)(h:DJ O W0 b7 J E i D W):On D (DJ O W0 b7 J E i) W:=by
 obtain⟨h1,c,q,D0,h2,h3,h4,h5,h6,h7⟩:=h;exact⟨hD,fun W2 hk=>⟨h1,c,q,D0,h2,h3,h4,h5.keep hk,h6.keep (hk _ h1),h7⟩⟩
theorem DX.ic {O:aB}{W0:ε}{X:bI}{D:aB}{W:ε}(hD:∀k,D k→k<W.heap.size)(h:DX O W0 X D W):On D (DX O W0 X) W:=by
 obtain⟨D0,h3⟩:=h;exact⟨hD,fun W2 hk=>⟨D0,h3.keep hk⟩⟩
def rb (O:aB)(W0:ε)(X Y:bI)(c:Code):bI:=fun D W=>c= .ret∧(DX O W0 X D W∨DX O W0 Y D W)
theorem rb.onX {O:aB}{W0:ε}{X Y:bI}{D:aB}{W:ε}(h:On D (DX O W0 X) W):On D (rb O W0 X Y .ret) W:=⟨h.1,fun W2 hk=>⟨rfl, .inl (h.2 W2 hk)⟩⟩
theorem rb.YG {O:aB}{W0:ε}{X Y:bI}{D:aB}{W:ε}(h:On D (DX O W0 Y) W):On D (rb O W0 X Y .ret) W:=⟨h.1,fun W2 hk=>⟨rfl, .inr (h.2 W2 hk)⟩⟩
theorem drop_one {l:List Int}{i:Nat}{d:Int}(h:l[i]?=some d):l.drop i=d::l.drop (i+1):=by
 obtain⟨hk,he⟩:=List.getElem?_eq_some_iff.1 h;rw[List.drop_eq_getElem_cons hk,he]
theorem mm {l:List Int}{q:Nat}(h:l.drop q=[])(hq:q≤l.length):q=l.length:=by
 have:=congrArg List.length h;simp at this;omega
theorem nX {l r:List Int}{q:Nat}{d:Int}(h:l.drop q=d::r):l[q]?=some d∧l.drop (q+1)=r∧q+1≤l.length:=by
 have h1:(l.drop q)[0]?=some d:=by rw[h];rfl
 rw[List.getElem?_drop]at h1;have h2:=(List.getElem?_eq_some_iff.1 h1).1;refine⟨h1,?_,by omega⟩;have:=drop_one h1;simp only[Nat.add_zero]at this;rw[h]at this;injection this with _ h3
 exact h3.symm
def mG (l br bs bf bl bc b6 b7:Nat):List (Nat×Value):=[(0, .func (.yield l) #[] #[]),(1, δ (some ⟨br,0,none⟩)),(2, δ (some ⟨bs,0,none⟩)),(3, δ (some ⟨bf,0,none⟩)),(4, δ (some ⟨bl,0,none⟩)),(5, δ (some ⟨bc,0,none⟩)),(6, δ (some ⟨b6,0,none⟩)),(7, δ (some ⟨b7,0,none⟩))]
theorem adb (l br bs bf bl bc b6 b7:Nat)(W:ε)(r:au)(m md wk pl:Value)(tx:ByteArray)(s f last:Int):EF (fun i=>10+i) (mG l br bs bf bl bc b6 b7) 46 8 (Pb W r m md wk pl tx s f last):=
 ⟨fun i hi=>by show 10+i<46;omega,fun i j hi hj h=>by have h':10+i=10+j:=h;omega,fun p hp i hi=>by
  simp only[mG,List.mem_cons,List.not_mem_nil,or_false]at hp;show p.1≠10+i;rcases hp with rfl|rfl|rfl|rfl|rfl|rfl|rfl|rfl<;>simp<;>omega,Pb.grow⟩
theorem Z9 (r:au)(m md wk pl:Value)(tx:ByteArray)(s f last:Int)(br bs bf bl bc:Nat)(w:ε)(hl:eh w r m md wk pl)(ho:cX r)(s0:0≤s)(s1:s≤7258118400)(f0:-1000000000000≤f)(f1:f≤7258118400)
 (l0:-1000000000000≤last)(l1:last≤7258118400)(q1:af w br (bW r.fq r.iv r.ct r.un m md wk pl r.ws tx) 76)(q2:af w bs [.int Z s] 3)(q3:af w bf [.int Z f] 3)(q4:af w bl [.int Z last] 3)(q5:af w bc [.int Z (s%86400)] 3):
 oP prog 313 #[δ (some ⟨br,0,none⟩), δ (some ⟨bs,0,none⟩), δ (some ⟨bf,0,none⟩), δ (some ⟨bl,0,none⟩), δ (some ⟨bc,0,none⟩)] (tg (oQ r s f last)) (fun k=>k=br∨k=bs∨k=bf∨k=bl∨k=bc∨LB m md wk pl k) w:=by
 intro l W O J Js Jp bu hR hO eQ hY;have ie:=hl.keep fun k hk=>hR k (.inr (.inr (.inr (.inr (.inr hk)))));replace q1:=q1.keep (hR br (.inl rfl));replace q2:=q2.keep (hR bs (.inr (.inl rfl)));replace q3:=q3.keep (hR bf (.inr (.inr (.inl rfl))));replace q4:=q4.keep (hR bl (.inr (.inr (.inr (.inl rfl)))));replace q5:=q5.keep (hR bc (.inr (.inr (.inr (.inr (.inl rfl))))));have I4:¬O br:=fun h=>hO br h (.inl rfl);have O9:¬O bs:=fun h=>hO bs h (.inr (.inl rfl));have nO3:¬O bf:=fun h=>hO bf h (.inr (.inr (.inl rfl)));have nO4:¬O bl:=fun h=>hO bl h (.inr (.inr (.inr (.inl rfl))));have nO5:¬O bc:=fun h=>hO bc h (.inr (.inr (.inr (.inr (.inl rfl)))));have nOL:∀k,O k→¬LB m md wk pl k:=fun k h h'=>hO k h (.inr (.inr (.inr (.inr (.inr h')))));have VX:=IZ ho (s/86400);have S5:Hid (∀wr,Calls prog 66 #[.int Z s] wr fun e w'=>e= .returned (aO (s/86400))∧Below wr.heap.size wr w'):=ad fun wr=>pF s wr s0 s1;have hSW:Hid (∀wr,Below W.heap.size W wr→Calls prog 314 #[aY r.fq r.iv r.ct r.un m md wk pl r.ws tx,aO (s/86400)] wr (I0 wr r (s/86400) tx m md wk pl)):=
  ad fun wr hb=>GB r m md wk pl tx (s/86400) wr (ie.on hb) ho (by omega) (by omega)
 have hdb:=ad (Fj (aJ r (s/86400)) VX s f last s0 s1 f1 l1);have Ly:(aJ r (s/86400)).ct=r.ct:=by unfold aJ;split;rfl;split;rfl;split;rfl;split;split<;>rfl;rfl
 have ade:=ho.IG;have alB:=ho.ct9;have Pc:Hid (oQ r s f last=kX s f last r.ct 0 (kq (aJ r (s/86400)) s f last)):=ad rfl;have hlf:∀k,LB m md wk pl k→k<W.heap.size:=fun k hk=>ie.jG hk;obtain⟨a1,e1⟩:=ie.ms.form;obtain⟨a2,e2⟩:=ie.mds.form;obtain⟨a3,e3⟩:=ie.wks.form;obtain⟨a4,e4⟩:=ie.pls.form;clear hR hO hl ho bu;have xE:=ad (fun(i:Nat) (d:Int) (h:(oQ r s f last)[i]?=some d)=>hY i _ (pK h));clear hY;rw[kV];generalize oQ r s f last=YS at *
 refine iM func313 rfl ?_;simp only[ntmps313,List.size_toArray,List.length_cons,List.length_nil,Nat.reduceAdd,Nat.reduceSub,Array.replicate_succ,Array.replicate_zero,List.push_toArray,List.append_toArray,List.nil_append,List.cons_append];refine dy fun K hK=>ei ?_;gi_wp2_with fail;refine dy fun K hK=>ei ?_;gi_wp2_with fail;have r6:=pH W [.func (.yield l) #[] #[]] 331 (.cells #[.int Z 0] 3);have r7:=pI W [.int Z 0] 3 (.cells #[.func (.yield l) #[] #[]] 331);have ah:=mh W (.cells #[.func (.yield l) #[] #[]] 331) (.cells #[.int Z 0] 3);have bu:((W.alloc (.cells #[.func (.yield l) #[] #[]] 331)).alloc (.cells #[.int Z 0] 3)).heap.size=W.heap.size+2:=by simp
 refine dy fun K1 aP=>ei (wpIn_wide.2 ?_);generalize(W.alloc (.cells #[.func (.yield l) #[] #[]] 331)).alloc (.cells #[.int Z 0] 3)=W2 at *
 have S:=adb l br bs bf bl bc W.heap.size (W.heap.size+1) W2 r m md wk pl tx s f last;have K4:=ad fun w' (h:Below W2.heap.size W2 w')=>QH ((q1.on ah).on h);have S9:=ad fun w' (h:Below W2.heap.size W2 w')=>iH (((q2.on ah).on h).cell (k:=0) rfl);have q3':=ad fun w' (h:Below W2.heap.size W2 w')=>iH (((q3.on ah).on h).cell (k:=0) rfl);have q4':=ad fun w' (h:Below W2.heap.size W2 w')=>iH (((q4.on ah).on h).cell (k:=0) rfl);refine fT (GV (fun i=>10+i) (Pb W2 r m md wk pl tx s f last)) (JV 46 (mG l br bs bf bl bc W.heap.size (W.heap.size+1)) W2) (by kernel_rfl) (by kernel_rfl) (by kernel_rfl) ?rops ?rdone ⟨rfl,rfl,fun p hp=>by
  simp only[mG,List.mem_cons,List.not_mem_nil,or_false]at hp;rcases hp with rfl|rfl|rfl|rfl|rfl|rfl|rfl|rfl<;>rfl,(ζ _ _).drew⟩
 case rops=>
  intro i o ho a w' hI hG;have hi:i<8:=(Array.getElem?_eq_some_iff.1 ho).1;have s1:a.eval (.tmp 1)= δ (some ⟨br,0,none⟩):=hI.fixed (1,_) (by simp[mG]);have s2:a.eval (.tmp 2)= δ (some ⟨bs,0,none⟩):=hI.fixed (2,_) (by simp[mG]);have s3:a.eval (.tmp 3)= δ (some ⟨bf,0,none⟩):=hI.fixed (3,_) (by simp[mG]);have s4:a.eval (.tmp 4)= δ (some ⟨bl,0,none⟩):=hI.fixed (4,_) (by simp[mG]);have gA:i=0∨i=1∨i=2∨i=3∨i=4∨i=5∨i=6∨i=7:=by omega
  rcases gA with rfl|rfl|rfl|rfl|rfl|rfl|rfl|rfl<;>obtain rfl:=Option.some.inj ho
  ·exact aj (v:=aY r.fq r.iv r.ct r.un m md wk pl r.ws tx) (dp rfl s1 (K4.out _ hI.below)) (cg S rfl (by decide) hI (ζ _ _) rfl)
  ·exact aj (v:= .int Z s) (dp rfl s2 (S9.out _ hI.below)) (cg S rfl (by decide) hI (ζ _ _) rfl)
  ·have e:a.eval (.tmp 11)= .int Z s:=hG ⟨1, .data⟩ (by simp) rfl;exact yo (f:=66) (args:=#[a.eval (.tmp 11)]) (by kernel_rfl) (by rw[e];exact S5.out w') (fun aA hb=>cg S rfl (by decide) hI hb rfl)
  ·have e1:a.eval (.tmp 10)=aY r.fq r.iv r.ct r.un m md wk pl r.ws tx:=hG ⟨0, .data⟩ (by simp) rfl;have e2:a.eval (.tmp 12)=aO (s/86400):=hG ⟨2, .data⟩ (by simp) rfl;refine dK (f:=314) (args:=#[a.eval (.tmp 10),a.eval (.tmp 12)]) (by kernel_rfl) (by rw[e1,e2];exact hSW.out w' (ah.trans (hI.below.mono ah.size))) ?_ (by rintro c aA ⟨_,_,_,e,_⟩;cases e) (by rintro aA ⟨_,_,_,e,_⟩;cases e);rintro v aA ⟨m',gd,gh,e,h2,h3,h4⟩;cases e;exact cg S rfl (by decide) hI h3 ⟨m',gd,gh,rfl,h2,fun k hk=>(h4 k hk).imp id fun h=>ν hI.below.size h⟩
  ·exact aj (v:= .int Z s) (dp rfl s2 (S9.out _ hI.below)) (cg S rfl (by decide) hI (ζ _ _) rfl)
  ·exact aj (v:= .int Z f) (dp rfl s3 (q3'.out _ hI.below)) (cg S rfl (by decide) hI (ζ _ _) rfl)
  ·exact aj (v:= .int Z last) (dp rfl s4 (q4'.out _ hI.below)) (cg S rfl (by decide) hI (ζ _ _) rfl)
  ·obtain⟨m',gd,gh,e3,h2,h4⟩:∃m' gd gh,a.eval (.tmp 13)=aY (aJ r (s/86400)).fq (aJ r (s/86400)).iv (aJ r (s/86400)).ct (aJ r (s/86400)).un m' gd gh pl (aJ r (s/86400)).ws tx∧eh w' (aJ r (s/86400)) m' gd gh pl∧∀k,LB m' gd gh pl k→LB m md wk pl k∨W2.heap.size≤k:=hG ⟨3, .data⟩ (by simp) rfl;have e4:a.eval (.tmp 14)= .int Z s:=hG ⟨4, .data⟩ (by simp) rfl;have e5:a.eval (.tmp 15)= .int Z f:=hG ⟨5, .data⟩ (by simp) rfl;have e6:a.eval (.tmp 16)= .int Z last:=hG ⟨6, .data⟩ (by simp) rfl;refine dK (f:=315) (args:=#[a.eval (.tmp 13),a.eval (.tmp 14),a.eval (.tmp 15),a.eval (.tmp 16)]) (by kernel_rfl) (by
    rw[e3,e4,e5,e6];exact VW _ _ _ _ _ m' gd gh pl tx s f last w' (by obtain⟨x,e⟩:=h2.ms.form;exact⟨_,_,_,e⟩) (by obtain⟨x,e⟩:=h2.mds.form;exact⟨_,_,_,e⟩) (by obtain⟨x,e⟩:=h2.wks.form;exact⟨_,_,_,e⟩) (by obtain⟨x,e⟩:=h2.pls.form;exact⟨_,_,_,e⟩)) ?_ (by rintro c aA ⟨e,_⟩;cases e) (by rintro aA ⟨e,_⟩;cases e)
   rintro v aA ⟨e,rfl⟩;cases e;obtain⟨x0,x1,x2,x3,xb⟩:=ac9 w' (bW (aJ r (s/86400)).fq (aJ r (s/86400)).iv (aJ r (s/86400)).ct (aJ r (s/86400)).un m' gd gh pl (aJ r (s/86400)).ws tx) 76 (.int Z s) (.int Z f) (.int Z last) 3 3 3;exact cg S rfl (by decide) hI xb ⟨m',gd,gh,w'.heap.size,rfl,hI.below.size,x0,x1,x2,x3,h2.on xb,h4⟩
 case rdone=>
  intro a w3 hI hG;obtain⟨m',gd,gh,b,KV,hb,x0,x1,x2,x3,Hv,hLB⟩:∃m' gd gh b,a.eval (.tmp 17)= .func (.func 340) #[] #[δ (some ⟨b+1,0,none⟩), δ (some ⟨b,0,none⟩), δ (some ⟨b+2,0,none⟩), δ (some ⟨b+3,0,none⟩)]∧W2.heap.size≤b∧
   af w3 b (bW (aJ r (s/86400)).fq (aJ r (s/86400)).iv (aJ r (s/86400)).ct (aJ r (s/86400)).un m' gd gh pl (aJ r (s/86400)).ws tx) 76∧af w3 (b+1) [.int Z s] 3∧af w3 (b+2) [.int Z f] 3∧af w3 (b+3) [.int Z last] 3∧
   eh w3 (aJ r (s/86400)) m' gd gh pl∧∀k,LB m' gd gh pl k→LB m md wk pl k∨W2.heap.size≤k:=hG 7 (by decide)
  have s0':a.eval (.tmp 0)= .func (.yield l) #[] #[]:=hI.fixed (0,_) (by simp[mG]);have s1':a.eval (.tmp 1)= δ (some ⟨br,0,none⟩):=hI.fixed (1,_) (by simp[mG]);have s2':a.eval (.tmp 2)= δ (some ⟨bs,0,none⟩):=hI.fixed (2,_) (by simp[mG]);have s3':a.eval (.tmp 3)= δ (some ⟨bf,0,none⟩):=hI.fixed (3,_) (by simp[mG]);have s4':a.eval (.tmp 4)= δ (some ⟨bl,0,none⟩):=hI.fixed (4,_) (by simp[mG]);have s5':a.eval (.tmp 5)= δ (some ⟨bc,0,none⟩):=hI.fixed (5,_) (by simp[mG]);have s6':a.eval (.tmp 6)= δ (some ⟨W.heap.size,0,none⟩):=hI.fixed (6,_) (by simp[mG]);have s7':a.eval (.tmp 7)= δ (some ⟨W.heap.size+1,0,none⟩):=hI.fixed (7,_) (by simp[mG]);have bw:=hI.below;have LN:=hI.size;have nM:=hI.defers;clear hI hG S K4 S9 q3' q4' hSW S5;refine aP a w3 ?_;clear aP;obtain⟨fr,rfl,hf⟩:=S7 a LN nM;have g0:=(hf 0).symm.trans s0';have g1:=(hf 1).symm.trans s1';have g2:=(hf 2).symm.trans s2';have g3:=(hf 3).symm.trans s3';have g4:=(hf 4).symm.trans s4';have g5:=(hf 5).symm.trans s5';have g6:=(hf 6).symm.trans s6';have g7:=(hf 7).symm.trans s7';have g17:=(hf 17).symm.trans KV;rw[g0,g1,g2,g3,g4,g5,g6,g7,g17];clear hf LN nM s0' s1' s2' s3' s4' s5' s6' s7' KV g0 g1 g2 g3 g4 g5 g6 g7 g17;have hit:=S4 (aJ r (s/86400)) m' gd gh pl tx s f last (b+1) b (b+2) (b+3) w3 Hv VX s0 s1 f0 f1 l0 l1 x1 x0 x2 x3;have LO:=ah.trans (bw.mono ah.size);have Yx:W.heap.size+2≤w3.heap.size:=by have:=bw.size;omega
  replace r6:=r6.on bw;replace r7:=r7.on bw;have ahM:∀k,(k=b+1∨k=b∨k=b+2∨k=b+3∨LB m' gd gh pl k)→k<w3.heap.size:=fun k hk=>by
   rcases hk with rfl|rfl|rfl|rfl|h
   ·exact x1.lt
   ·exact x0.lt
   ·exact x2.lt
   ·exact x3.lt
   ·exact Hv.jG h
  have hOR:∀k,(O k∨k=W.heap.size+1)→¬(k=b+1∨k=b∨k=b+2∨k=b+3∨LB m' gd gh pl k):=fun k hk lR=>by
   have gm:k<W2.heap.size:=hk.elim (fun h=>by have:=eQ.1 k h;omega) (fun h=>by omega);rcases lR with h|h|h|h|h
   ·omega
   ·omega
   ·omega
   ·omega
   ·rcases hLB k h with h'|h'
    ·rcases hk with hk|hk
     ·exact nOL k hk h'
     ·have:=hlf k h';omega
    ·omega
  clear x0 x1 x2 x3 Hv hLB hb e1 e2 e3 e4 VX;obtain⟨hdl,hdm⟩:=hdb.out;generalize kq (aJ r (s/86400)) s f last=XS at *
  clear Ly hdb;generalize r.ct=ct at *
  refine nW ?_;have eg:∀args w,(callFunc 340 args).run prog w= .ok (.enter 340 args) w:=enters_of func340 (by kernel_rfl) rfl;refine pL (gf:=340) (lb:=#[δ (some ⟨b+1,0,none⟩), δ (some ⟨b,0,none⟩), δ (some ⟨b+2,0,none⟩), δ (some ⟨b+3,0,none⟩)]) func313 ?g eg hit (ι _) (fun _ _=>rfl) ahM
   (fun k=>O k∨k=W.heap.size+1) hOR (DJ O W (W.heap.size+1) J fun q i c=>q≤YS.length∧YS.drop q=kX s f last ct c (XS.drop i)) (rb O W (J YS.length) Js) (fun c=>DX O W (Jp c)) ?ps ?start ?round ?done ?stop ?pan
  case g=>rfl
  case ps=>intro x hx;obtain⟨d,_,rfl⟩:=List.mem_map.1 hx;rfl
  case start=>exact DJ.ic (fun k hk=>hk.elim (fun h=>by have:=eQ.1 k h;omega) (fun h=>by omega)) ⟨.inr rfl,0,0,O,Int.le_refl _,by simp,fun h=>by have:=eQ.1 _ h;omega,⟨fun k hk=> .inl hk,fun k hk=> .inl hk,fun k hk=>hk,eQ.below LO⟩,r7,Nat.zero_le _,by simpa using Pc.out⟩
  case stop=>
   rintro c W4 ⟨hx,D,er,_,bq⟩ hs du;have iA:aK O W (W4.putObj w3.heap.size (.deferred none)):=((aK.bG LO).trans hx (fun k hk=>hk.imp id fun h=>by omega)).put (.inr (by omega)) _;have gi:¬D w3.heap.size:=fun h=>(er _ h).elim (fun h=>h.elim (fun h=>by have:=eQ.1 _ h;omega) (by omega)) (by omega);obtain⟨rfl,h⟩:=bq.out;have ti:=ad (show bR O W.heap.size (J YS.length) W (W4.putObj w3.heap.size (.deferred none))∨bR O W.heap.size Js W (W4.putObj w3.heap.size (.deferred none))from by
    rcases h with⟨D0,h⟩|⟨D0,h⟩
    ·exact .inl ((h.put gi _).fin iA)
    ·exact .inr ((h.put gi _).fin iA))
   clear h bq er;gi_wp2_with fail;refine⟨by simp, .inl ⟨_,_,rfl,run_takeDeferred du,?_⟩⟩;exact⟨_,results_none rfl _ _ _, .inl ⟨⟨_,rfl⟩,ti.out⟩⟩
  case pan=>
   rintro c W4 ⟨hx,D,er,_,bq⟩ hs du;have iA:aK O W (W4.putObj w3.heap.size (.deferred none)):=((aK.bG LO).trans hx (fun k hk=>hk.imp id fun h=>by omega)).put (.inr (by omega)) _;have gi:¬D w3.heap.size:=fun h=>(er _ h).elim (fun h=>h.elim (fun h=>by have:=eQ.1 _ h;omega) (by omega)) (by omega);obtain⟨D0,h⟩:=bq.out;refine⟨by simp, .inl ⟨_,_,rfl,run_takeDeferred du,?_⟩⟩;exact .inr ⟨c,rfl,(h.put gi _).fin iA⟩
  case done=>
   rw[kV];rintro W4 ⟨hx,D,er,_,bq⟩ hs du;have iA:aK O W (W4.putObj w3.heap.size (.deferred none)):=((aK.bG LO).trans hx (fun k hk=>hk.imp id fun h=>by omega)).put (.inr (by omega)) _;have gi:¬D w3.heap.size:=fun h=>(er _ h).elim (fun h=>h.elim (fun h=>by have:=eQ.1 _ h;omega) (by omega)) (by omega);obtain⟨_,c,q,D0,_,_,_,bE,_,hq,kD⟩:=bq.out;have xj:q=YS.length:=mm (by rw[kD,List.drop_length];rfl) hq;refine⟨by simp, .inl ⟨_,_,rfl,run_takeDeferred du,?_⟩⟩;exact⟨_,results_none rfl _ _ _, .inl ⟨⟨_,rfl⟩, .inl (by rw[←xj];exact(bE.put gi _).fin iA)⟩⟩
  case round=>
   intro YH i x hx W4 D SW hs qZ bq K hK;obtain⟨d,hd⟩:∃d,XS[i]?=some d:=⟨_,List.getElem?_eq_getElem (by have:=(List.getElem?_eq_some_iff.1 hx).1;rwa [kV]at this)⟩;rw[pK hd]at hx;cases hx;have zB:=hdm d (List.mem_of_getElem? hd);have lF:=(List.getElem?_eq_some_iff.1 hd).1;have uX:=ad (drop_one hd);clear hd hdm;unfold aO cS;gi_wp2_with fail;have iy:Below W4.heap.size W4 (W4.alloc (.cells #[.int Z (ae.ag d), .int Z (ae.ofM d), .int Z (ae.ar d)] 106)):=(ζ _ _).alloc (ι _) _;refine hK _ _ (fun k=>D k∨k=W4.heap.size) iy (fun k hk=>hk.imp id fun h=>by omega) (fun k hk=> .inl hk) (fun k hk=>hk.elim (fun h=>by have:=bq.1 k h;simp;omega) (fun h=>by simp;omega)) ?_;intro l' W5 gm fZ mO;have q8:=(af.new W4 [.int Z (ae.ag d), .int Z (ae.ofM d), .int Z (ae.ar d)] 106).keep (gm _ (.inr rfl));have iX:=bq.on (W':=W5) fun k hk=>(gm k (.inl hk)).trans (iy.block k (bq.1 k hk));have Cy:aK O W W5:=(aK.bG LO).trans fZ (fun k hk=>hk.imp id fun h=>by omega);have q6:=r6.aQ fZ (show¬(O W.heap.size∨W.heap.size=W.heap.size+1)from fun h=>h.elim (fun h=>by have:=eQ.1 _ h;omega) (by omega));have gG:∀k,D k∨k=W4.heap.size→k<W5.heap.size:=fun k hk=>hk.elim (iX.1 k) (fun h=>by have:=q8.lt;omega);have hW4:¬D W4.heap.size:=fun h=>by have:=bq.1 _ h;omega
   have SX:W.heap.size≤W5.heap.size:=by omega
   clear hK iy gm hit bq ah bw r7;obtain⟨nN,c,q,D0,YK,hci,h7,bE,q7,hq,kD⟩:=iX.out;clear iX;have h8:¬D0 W4.heap.size:=fun h=>hW4 (bE.sub _ h);replace bE:=bE.wide (D':=fun k=>D k∨k=W4.heap.size) fun k hk=> .inl hk;obtain⟨c0,c1,c2,_,_,_⟩:=bV q8;gi_wp2_with fail;refine(CallsIn.inRound l' (callsIn_wide.2 (Gv d W5 (by omega) (by omega)))).mono ?_;rintro e W6 ⟨rfl,dr⟩;clear c0 c1 c2;have GD:aK O W W6:=Cy.fY (aK.bG dr);have y1:=q1.aQ GD I4;have y2:=q2.aQ GD O9;have y3:=q3.aQ GD nO3;have y4:=q4.aQ GD nO4;have y5:=q5.aQ GD nO5;have y6:=q6.on dr;have y7:=q7.on dr;have y8:=q8.on dr;replace bE:=bE.below dr;have YA:=dr.size;have Pd:∀k,D k∨k=W4.heap.size→k<W6.heap.size:=fun k hk=>θ (gG k hk) YA;have GF:aK (fun k=>D k∨k=W4.heap.size) W5 W6:=aK.bG dr;have n17:br≠W.heap.size+1:=fun e=>by have:=q1.lt;omega
   unfold bW at y1;have g2:=y2.cell (k:=0) rfl;have g3:=y3.cell (k:=0) rfl;have g4:=y4.cell (k:=0) rfl;have g5:=y5.cell (k:=0) rfl;have g6:=y6.cell (k:=0) rfl;obtain⟨c0,c1,c2,_,_,_⟩:=bV y8;have gb:Hid (YS.drop q=if d * 86400<s - s%86400 then kX s f last ct c (XS.drop (i+1))else if last<d * 86400 then[]else(if f - s%86400≤d * 86400 then[d]else[])++(if c+1=ct then[]else kX s f last ct (c+1) (XS.drop (i+1)))):=ad (by rw[kD,uX.out,kX]);clear kD uX dr q6 q7 q8 y2 y3 y4 y5 y6 y8 Cy gG;have ahN:0≤s%86400∧s%86400<86400:=by omega
   generalize hM:s%86400=M at *
   clear hM;have hB:-40000000≤d * 86400∧d * 86400≤30000000000:=by omega
   by_cases hA:d * 86400<s - M
   case pos=>
    have Ta:=ad (show YS.drop q=kX s f last ct c (XS.drop (i+1))from by rw[gb.out,if_pos hA]);clear gb;gi_wp2_with fail;exact⟨GF,fun k=>D k∨k=W4.heap.size,fun k hk=> .inl hk,fun k hk=>hk,DJ.ic Pd ⟨.inl nN,c,q,D0,YK,by omega,h7,bE,y7,hq,Ta.out⟩⟩
   case neg=>
    by_cases hLa:last<d * 86400
    case pos=>
     have xj:Hid (q=YS.length):=ad (mm (by rw[gb.out,if_neg hA,if_pos hLa]) hq);clear gb;gi_wp2_with fail;refine⟨GF,fun k=>D k∨k=W4.heap.size,fun k hk=> .inl hk,fun k hk=>hk,rb.onX (DX.ic Pd ⟨D0,?_⟩)⟩;rw[←xj.out];exact bE
    case neg=>
     by_cases hF:f - M≤d * 86400
     case pos=>
      have cM:=ad (show YS.drop q=d::(if c+1=ct then[]else kX s f last ct (c+1) (XS.drop (i+1)))from by rw[gb.out,if_neg hA,if_neg hLa,if_pos hF];rfl);clear gb;obtain⟨oR,kt,oK⟩:=nX cM.out;replace kt:=ad kt;obtain⟨LP,tj,E6,Iv,mj,jj⟩:=xE.out q d oR W6 D0 GD bE.dO bE.Od bE.on;unfold aO cS at mj;clear oR cM;gi_wp2_with fail;refine(RoundIn.inRound l' jj).mono ?_;clear mj jj g2 g3 g4 g5 g6 c0 c1 c2;rintro e WX (⟨rfl,hp⟩|⟨rfl,hp⟩|⟨ch,rfl,hp⟩)
      case inl=>
       obtain⟨ig,gu,oS,jT⟩:=bE.post (by omega) hp;have iq:aK (fun k=>D k∨k=W4.heap.size) W5 WX:=GF.trans jT (fun k hk=> .inl (bE.sub k hk));have z7:=y7.aQ jT h7;have z1:=y1.aQ jT (fun h=>(bE.dO _ h).elim I4 (by have:=q1.lt;omega));have Tb:¬ig (W.heap.size+1):=fun h=>(oS _ h).elim h7 (by omega);have Fk:∀k,(D k∨k=W4.heap.size)∨ig k→(D k∨k=W4.heap.size)∨W5.heap.size≤k:=fun k hk=>hk.elim .inl fun h=>(oS k h).elim (fun h=> .inl (bE.sub k h)) (fun h=> .inr (by omega));have Tc:∀k,D k∨k=W4.heap.size→(D k∨k=W4.heap.size)∨ig k:=fun k hk=> .inl hk;have Fl:∀k,(D k∨k=W4.heap.size)∨ig k→k<WX.heap.size:=fun k hk=>hk.elim (fun h=>θ (Pd k h) jT.size) (fun h=>gu.on.1 k h);have hbX:(D (W.heap.size+1)∨W.heap.size+1=W4.heap.size)∨ig (W.heap.size+1):= .inl (.inl nN);have Fm:=kt;have Td:=oK;clear hp jT oS kt oK bE y7 y1;have g7:=z7.cell (k:=0) rfl;have f7:=z7.free (k:=0);have Te:af (WX.setCell ⟨W.heap.size+1,0,none⟩ (.int Z (c+1))) (W.heap.size+1) [.int Z (c+1)] 3:=z7.set (k:=0) (.int Z (c+1));have z1n:=z1.other (b:=W.heap.size+1) (k:=0) n17 (.int Z (c+1));have g7n:=Te.cell (k:=0) rfl;have g1n:=z1n.cell (k:=2) rfl;have LQ:=gu.set (o:=0) Tb (.int Z (c+1));have LR:=ad (iq.setCell (p:=⟨W.heap.size+1,0,none⟩) (.inl (.inl nN)) (.int Z (c+1)));have LU:(WX.setCell ⟨W.heap.size+1,0,none⟩ (.int Z (c+1))).heap.size=WX.heap.size:=World.size_setCell _ _ _;by_cases AJ:c+1=ct
       case pos=>
        have xj:Hid ((q+1)=YS.length):=ad (mm (by rw[Fm.out,if_pos AJ]) Td);clear Fm;subst AJ;gi_wp2_with fail;refine⟨LR.out,(fun k=>(D k∨k=W4.heap.size)∨ig k),Fk,Tc,rb.onX (DX.ic (fun k hk=>by rw[LU];exact Fl k hk) ⟨ig,by rw[←xj.out];exact LQ⟩)⟩
       case neg=>
        have Ta:=ad (show YS.drop (q+1)=kX s f last ct (c+1) (XS.drop (i+1))from by rw[Fm.out,if_neg AJ]);have ahO:(c+1==ct)=false:=by simpa using AJ
        clear Fm;gi_wp2_with fail;exact⟨LR.out,(fun k=>(D k∨k=W4.heap.size)∨ig k),Fk,Tc,DJ.ic (fun k hk=>by rw[LU];exact Fl k hk) ⟨hbX,c+1,(q+1),_,by omega,by omega,Tb,LQ,Te,Td,Ta.out⟩⟩
      case inr.inl=>
       obtain⟨ig,gu,oS,jT⟩:=bE.post (by omega) hp;have iq:=ad (GF.trans jT (fun k hk=> .inl (bE.sub k hk)):aK (fun k=>D k∨k=W4.heap.size) W5 WX);have Fk:∀k,(D k∨k=W4.heap.size)∨ig k→(D k∨k=W4.heap.size)∨W5.heap.size≤k:=fun k hk=>hk.elim .inl fun h=>(oS k h).elim (fun h=> .inl (bE.sub k h)) (fun h=> .inr (by omega));have Fl:∀k,(D k∨k=W4.heap.size)∨ig k→k<WX.heap.size:=fun k hk=>hk.elim (fun h=>θ (Pd k h) jT.size) (fun h=>gu.on.1 k h);clear hp jT;gi_wp2_with fail;exact⟨iq.out,fun k=>(D k∨k=W4.heap.size)∨ig k,Fk,fun k hk=> .inl hk,rb.YG (DX.ic Fl ⟨_,gu⟩)⟩
      case inr.inr=>
       obtain⟨ig,gu,oS,jT⟩:=bE.post (by omega) hp;have iq:=ad (GF.trans jT (fun k hk=> .inl (bE.sub k hk)):aK (fun k=>D k∨k=W4.heap.size) W5 WX);have Fk:∀k,(D k∨k=W4.heap.size)∨ig k→(D k∨k=W4.heap.size)∨W5.heap.size≤k:=fun k hk=>hk.elim .inl fun h=>(oS k h).elim (fun h=> .inl (bE.sub k h)) (fun h=> .inr (by omega));have Fl:∀k,(D k∨k=W4.heap.size)∨ig k→k<WX.heap.size:=fun k hk=>hk.elim (fun h=>θ (Pd k h) jT.size) (fun h=>gu.on.1 k h);clear hp jT;gi_wp2_with fail;exact⟨rfl,iq.out,fun k=>(D k∨k=W4.heap.size)∨ig k,Fk,fun k hk=> .inl hk,DX.ic Fl ⟨_,gu⟩⟩
     case neg=>
      have Fm:=ad (show YS.drop q=(if c+1=ct then[]else kX s f last ct (c+1) (XS.drop (i+1)))from by rw[gb.out,if_neg hA,if_neg hLa,if_neg hF];rfl);clear gb;have z7:=y7;have z1:=y1;have gu:=bE;have Tb:=h7;have iq:=GF;have Fk:∀k,D k∨k=W4.heap.size→(D k∨k=W4.heap.size)∨W5.heap.size≤k:=fun k hk=> .inl hk;have Tc:∀k,D k∨k=W4.heap.size→D k∨k=W4.heap.size:=fun k hk=>hk;have Fl:=Pd;have hbX:D (W.heap.size+1)∨W.heap.size+1=W4.heap.size:= .inl nN;have Td:=hq;clear bE y7 y1;have g7:=z7.cell (k:=0) rfl;have f7:=z7.free (k:=0);have Te:af (W6.setCell ⟨W.heap.size+1,0,none⟩ (.int Z (c+1))) (W.heap.size+1) [.int Z (c+1)] 3:=z7.set (k:=0) (.int Z (c+1));have z1n:=z1.other (b:=W.heap.size+1) (k:=0) n17 (.int Z (c+1));have g7n:=Te.cell (k:=0) rfl;have g1n:=z1n.cell (k:=2) rfl;have LQ:=gu.set (o:=0) Tb (.int Z (c+1));have LR:=ad (iq.setCell (p:=⟨W.heap.size+1,0,none⟩) (.inl (.inl nN)) (.int Z (c+1)));have LU:(W6.setCell ⟨W.heap.size+1,0,none⟩ (.int Z (c+1))).heap.size=W6.heap.size:=World.size_setCell _ _ _;by_cases AJ:c+1=ct
      case pos=>
       have xj:Hid (q=YS.length):=ad (mm (by rw[Fm.out,if_pos AJ]) Td);clear Fm;subst AJ;gi_wp2_with fail;refine⟨LR.out,(fun k=>D k∨k=W4.heap.size),Fk,Tc,rb.onX (DX.ic (fun k hk=>by rw[LU];exact Fl k hk) ⟨D0,by rw[←xj.out];exact LQ⟩)⟩
      case neg=>
       have Ta:=ad (show YS.drop q=kX s f last ct (c+1) (XS.drop (i+1))from by rw[Fm.out,if_neg AJ]);have ahO:(c+1==ct)=false:=by simpa using AJ
       clear Fm;gi_wp2_with fail;exact⟨LR.out,(fun k=>D k∨k=W4.heap.size),Fk,Tc,DJ.ic (fun k hk=>by rw[LU];exact Fl k hk) ⟨hbX,c+1,q,_,by omega,by omega,Tb,LQ,Te,Td,Ta.out⟩⟩
end Go.Proofs.YthpndgcaoeokeaaGreatDoor
namespace Go.Proofs.YthpndgcaoeokeaaGreatDoor
open Tryz
open Go.RowKit Go.Maps Go.ChangeMaps Go.WideElems Go.MapKept
theorem Tf:prog.cellsOf 3=1:=by kernel_rfl
theorem VY:laidOutB prog=true:=by kernel_rfl
theorem Tg:(106:μ)<prog.types.size:=of_decide_eq_true (by kernel_rfl)
theorem aab:(match prog.underlying 106 with|some (.array _ _)|some (.struct _)=>true|_=>false)=true:=by rw[underlying106]
theorem Th:WideMaps.KeyLaw prog 106:=deep_law_laid VY (m:=2) (by omega) Tg (by kernel_rfl) aab
theorem iY:Keyed prog 106:=Keyed.of_law Th
theorem Pe (w:ε):(zeroValue 3).run prog w= .ok (.int Z 0) w:=by kernel_rfl
theorem aac:prog.keyType 106=true:=by kernel_rfl
theorem VZ:prog.cellsOf 106=3:=by kernel_rfl
theorem V0 {n k:Nat}(h:k<n):∃j,n=j+1:=⟨n - 1,by omega⟩
def kL (n:Int):Lit:= .string (keyBytes [.int Z (ae.ag n),.int Z (ae.ofM n),.int Z (ae.ar n)])
theorem Kb (n:Int)(h0:-700000≤n)(h1:n≤900000):keyOf prog 106 (aO n)=some (kL n):=by
 have hr:=gL n h0 h1;have w1:(Lit.int Z (ae.ag n)).wf=true:=WalkArith.wf_i64 (by omega);have w2:(Lit.int Z (ae.ofM n)).wf=true:=WalkArith.wf_i64 (by omega);have w3:(Lit.int Z (ae.ar n)).wf=true:=WalkArith.wf_i64 (by omega);unfold keyOf aO cS kL;obtain⟨k,hk⟩:=V0 Tg;rw[underlying106,aac,hk];simp[Value.formed,underlying106,VZ,Value.cells,Program.keyLits,Tf,underlying3,w1,w2,w3,List.range_succ]
theorem Ti {a b:Int}(h0:-700000≤a)(h1:a≤900000)(k0:-700000≤b)(k1:b≤900000)(h:kL a=kL b):a=b:=
 SA h0 k0 (iY.inj (Kb a h0 h1) (by rw[h];exact Kb b k0 k1))
theorem AK {α:Type}{a b:α}{w w':ε}(h:(Result.ok a w:Result α)= .ok b w'):a=b∧w=w':=by cases h;exact⟨rfl,rfl⟩
theorem aae {a b:Int}(h:(DataW.lit (.int Z a):DataW Unit)= .lit (.int Z b)):a=b:=by cases h;rfl
theorem int_inj {a b:Int}(h:(Value.int Z a)= .int Z b):a=b:=by cases h;rfl
def lD (w:ε)(b n:Nat)(ds:List Int):Prop:=
 ∃D:DataW Unit,w.ownsMap prog 106 (plainElem prog 3) b n D∧∀d,-700000≤d→d≤900000→D.atKey (kL d) (.lit (.int Z 0))= .lit (.int Z (ds.count d))
theorem lD.lt {w:ε}{b n:Nat}{ds:List Int}(h:lD w b n ds):b<w.heap.size:=by obtain⟨D,h,_⟩:=h;exact h.lt
theorem lD.keep {w w':ε}{b n:Nat}{ds:List Int}(h:lD w b n ds)(e:w'.heap[b]?=w.heap[b]?):lD w' b n ds:=by
 obtain⟨D,⟨es,clock,hb,F,hs,hD⟩,h2⟩:=h;exact⟨D,⟨es,clock,e.trans hb,F,hs,hD⟩,h2⟩
theorem lD.made (w:ε):lD (w.alloc (.map #[] 0)) w.heap.size 0 []:=
 ⟨.map [],World.ownsMap_made w _ _ _,fun d _ _=>by simp[DataW.atKey]⟩
theorem lD.look {w:ε}{b n:Nat}{ds:List Int}(h:lD w b n ds)(d:Int)(h0:-700000≤d)(h1:d≤900000):
 (Instr.lookup 264 (.map (some b)) (aO d) false).run prog w= .ok (.int Z (ds.count d)) w:=by
 obtain⟨D,aw,hD⟩:=h;obtain⟨c,Dr,gE,_⟩:=aw.lookup_int iY underlying264 underlying3 (Pe w) (Kb d h0 h1);rw[hD d h0 h1]at gE;rw[Dr,aae gE]
theorem AL {w w':ε}{k:μ}{R:Value→Option (DataW Unit×List MemPlace)}{b n:Nat}{D:DataW Unit}(h:w.ownsMap prog k R b n D)(e:w'.heap[b]?=w.heap[b]?):w'.ownsMap prog k R b n D:=by
 obtain⟨es,clock,hb,F,hs,hD⟩:=h;exact⟨es,clock,e.trans hb,F,hs,hD⟩
theorem I5 {w:ε}{k:μ}{R:Value→Option (DataW Unit×List MemPlace)}{b n:Nat}{D:DataW Unit}(h:w.ownsMap prog k R b n D):IsMap D:=h.isMap
theorem lD.entry {w:ε}{b n:Nat}{ds:List Int}(h:lD w b n ds)(hn:n<1000000)(d:Int)(h0:-700000≤d)(h1:d≤900000):
 ∃(v0:Value) (st:Int) (W1:ε),(Instr.mapEntry 264 (.map (some b)) (aO d)).run prog w= .ok (.tuple #[v0, .int Z st]) W1∧lD W1 b (n+1) ds∧aK (fun k=>k=b) w W1∧
  ∀c:Int,0≤c→c≤1000000→c=ds.count d+1→∃W2,(Instr.entryStore 264 (.map (some b)) (.int Z st) (.int Z c)).run prog W1= .ok () W2∧lD W2 b (n+1) (d::ds)∧aK (fun k=>k=b) w W2:=by
 have aeY:=h.look d h0 h1;obtain⟨D,aw,hD⟩:=h;have tk:=Kb d h0 h1;obtain⟨kl,Tj⟩:∃kl,kL d=kl:=⟨_,rfl⟩;rw[Tj]at tk;have fB:=iY.key tk;have hm:n<maxLen:=by unfold maxLen;omega
 obtain⟨es,clock,hb,F,hs,pk⟩:=aw;have aw:w.ownsMap prog 106 (plainElem prog 3) b n D:=⟨es,clock,hb,F,hs,pk⟩;obtain⟨v0,st,es1,LV,QI,alC,cM⟩:=entry_then_store Th underlying264 Pe hb F tk;have mH:(setBlock w b (.map es1 LV)).heap[b]?=some (.map es1 LV):=heap_setBlock_same hb _;have hex:∀o,aK (fun k=>k=b) w (setBlock w b o):=fun o=>⟨rfl,rfl,rfl,by simp[setBlock],fun k _ hk=>heap_setBlock_other hb _ hk⟩;have LC:lD (setBlock w b (.map es1 LV)) b (n+1) ds:=by
  rcases iY.find w tk es.toList F.keys with⟨f1,f2⟩|⟨j,e0,f1,f2,f3⟩
  ·have lU:(Instr.mapEntry 264 (.map (some b)) (aO d)).run prog w= .ok (.tuple #[.int Z 0,goInt clock]) (setBlock w b (.map (es.push ⟨aO d, .int Z 0,clock⟩) (clock+1))):=by
    simp[Instr.mapEntry,run_underlying underlying264,η hb,iY.check w false tk,f1,MapKept.run_setObj_map _ hb,κ,setBlock]
   have Io:(Instr.mapUpdate 264 (.map (some b)) (aO d) (.int Z 0)).run prog w= .ok () (setBlock w b (.map (es.push ⟨aO d, .int Z 0,clock⟩) (clock+1))):=by
    simp[Instr.mapUpdate,run_underlying underlying264,η hb,iY.check w false tk,f1,MapKept.run_setObj_map _ hb,κ,setBlock]
   have mN:(Instr.lookup 264 (.map (some b)) (aO d) false).run prog w= .ok (.int Z 0) w:=by
    simp[Instr.lookup,run_underlying underlying264,η hb,iY.check w _ tk,f1,κ]
   rw[aeY]at mN;have hz:((ds.count d:Nat):Int)=0:=int_inj (AK mN).1;obtain⟨w',rB,dj,_⟩:=aw.update iY underlying264 hm tk (plainElem_int underlying3 (show(Lit.int Z 0).wf=true by decide));rw[Io]at rB;replace rB:=(AK rB).2;rw[QI]at lU;replace lU:=(AK lU).2;rw[lU,rB];refine⟨_,dj,fun d' k0 k1=>?_⟩;by_cases zB:d'=d
   ·subst zB;rw[Tj,atKey_put_same (I5 aw) fB,hz]
   ·rw[atKey_put_other (fun e=>zB (Ti k0 k1 h0 h1 (e.trans Tj.symm)))];exact hD d' k0 k1
  ·have hj:es[j]?=some e0:=by simpa using f2
   have Kc:es.modify j (fun e=>{e with key:=aO d})=es:=by
    apply Array.ext';rw[Array.toList_modify,modify_eq_set _ _ _ _ f2];have:({e0 with key:=aO d}:MapEntry)=e0:=by rw[←f3]
    rw[this];exact set_self _ _ _ f2
   have lU:(Instr.mapEntry 264 (.map (some b)) (aO d)).run prog w= .ok (.tuple #[e0.val,goInt e0.born]) (setBlock w b (.map es clock)):=by
    simp[Instr.mapEntry,run_underlying underlying264,η hb,iY.check w false tk,f1,hj,f3,iY.stays w tk,Kc,MapKept.run_setObj_map _ hb,κ,setBlock]
   rw[QI]at lU;replace lU:=(AK lU).2;rw[lU];exact⟨D,(AL aw (by rw[heap_setBlock_same hb,hb])).mono (by omega),hD⟩
 refine⟨v0,st,_,QI,LC,hex _,fun c YK IF hc=>?_⟩;obtain⟨es',aj5,ahP,ahQ⟩:=cM _ (.int Z c) mH;obtain⟨w',rB,dj,_⟩:=aw.update iY underlying264 hm tk (plainElem_int underlying3 (show(Lit.int Z c).wf=true from WalkArith.wf_i64 (by omega)));rw[ahQ]at rB;replace rB:=(AK rB).2;refine⟨_,ahP,⟨_,AL dj ?_,fun d' k0 k1=>?_⟩,?_⟩
 ·rw[←rB,heap_setBlock_same hb,heap_setBlock_same mH]
 ·by_cases zB:d'=d
  ·subst zB;rw[Tj,atKey_put_same (I5 aw) fB,List.count_cons_self,hc];simp
  ·rw[atKey_put_other (fun e=>zB (Ti k0 k1 h0 h1 (e.trans Tj.symm))),List.count_cons_of_ne (fun e=>zB e.symm)];exact hD d' k0 k1
 ·exact(hex _).fY ⟨rfl,rfl,rfl,by simp[setBlock],fun k _ hk=>heap_setBlock_other mH _ hk⟩
end Go.Proofs.YthpndgcaoeokeaaGreatDoor
