import Derived.Test.YthpndgcaoeokeaaGreatDoorCo26
import Derived.Shelf.RegionOpen
import Derived.OrdersIn
import Derived.RangeFuncCalls
set_option maxRecDepth 100000
set_option maxHeartbeats 8000000
open Go.IntKind renaming i64→Z
open Go.Value renaming int→V,pointer→δ,slice→ε,string→ζ
open Go.Obj renaming cells→η
open Go renaming World→θ,Act→φ,Oper→Ζ
open Int renaming tmod_eq_emod_of_nonneg→ι
open Go.Region renaming wanted→κ,binds→μ
open Nat renaming le_refl→ν,reduceSub→Η,reduceAdd→Θ
open Array renaming getElem?_eq_getElem→ξ,replicate_zero→ο,replicate_succ→π,length_toList→τ,replicate→Γ,getD→Ι
open List renaming mem_cons_of_mem→ρ,append_toArray→υ,size_toArray→χ,push_toArray→ψ,getElem?_map→ω,length_cons→Α,cons_append→Β,nil_append→Δ,length_nil→Ε
namespace Go.Proofs.YthpndgcaoeokeaaGreatDoor
open Tryz
open Go.RowKit Go.Sort
attribute [local go_sem] Oper.semAt_some
attribute [local go_sem] jt fy
attribute [local simp] jt fy
def dQ (u:ByteArray)(st ln:Int)(hr:Bool)(r:au)(m md wk pl:Value)(tx:ByteArray)(aG aI:Value)(tr:Bool)(k:Int):List Value:=
 [ζ u, V Z st, V Z ln, .bool hr, V Z r.fq, V Z r.iv, V Z r.ct, V Z r.un,m,md,wk,pl, V Z r.ws, ζ tx,aG,aI, .bool tr, V Z k]
theorem dn.keep {w w':θ}{v:Value}{zs:List Int}(h:dn w v zs)(hk:∀k,v.ownBlock=some k→w'.heap[k]?=w.heap[k]?):dn w' v zs:=
 h.imp id fun⟨g,cap,rest,h1,h2⟩=>⟨g,cap,rest,h1,(hk g (by rw[h1];rfl)).trans h2⟩
theorem dn.jG {w:θ}{v:Value}{zs:List Int}(h:dn w v zs){k:Nat}(e:v.ownBlock=some k):k<w.heap.size:=by
 rcases h with⟨rfl,_⟩|⟨g,cap,rest,rfl,h2⟩
 ·cases e
 ·cases e;exact h2.lt
theorem dn.sl {w:θ}{v:Value}{zs:List Int}(h:dn w v zs):∃a c,v= ε a zs.length c:=by
 rcases h with⟨rfl,rfl⟩|⟨g,cap,rest,rfl,_⟩<;>exact⟨_,_,rfl⟩
theorem dn.cell {w:θ}{a:Option Addr}{n c i:Nat}{zs:List Int}{z:Int}(h:dn w (ε a n c) zs)(hz:zs[i]?=some z):∃g,a=some ⟨g,0,none⟩∧w.cell? ⟨g,i,none⟩=some (V Z z):=by
 rcases h with⟨_,rfl⟩|⟨g,cap,rest,e,hr⟩
 ·simp at hz
 ·cases e;refine⟨g,rfl,hr.cell ?_⟩;have hi:=(List.getElem?_eq_some_iff.1 hz).1;rw[ω,List.getElem?_append_left hi,hz];rfl
theorem Tk (u:ByteArray)(st ln:Int)(hr:Bool)(r:au)(m md wk pl:Value)(tx:ByteArray)(aG aI:Value)(ex:List Int)(tr:Bool)(k:Int)(w:θ)(hm:∃a n c,m= ε a n c)(N6:∃a n c,md= ε a n c)(Lw:∃a n c,wk= ε a n c)(Cq:∃a n c,pl= ε a n c)(lG:∃a n c,aI= ε a n c)
 (hex:dn w aG ex)(hle:ex.length≤1000)(hb:∀t∈ex,0≤t∧t≤7258118400)(s0:0≤st):
 Calls prog 216 #[.agg (dQ u st ln hr r m md wk pl tx aG aI tr k).toArray] w fun e w'=>∃b n ds,e= .returned (.map (some b))∧w.heap.size≤b∧lD w' b n ds∧(∀d,d∈ds↔∃t∈ex,t%86400=st%86400∧t/86400=d)∧Below w.heap.size w w':=by
 obtain⟨a1,n1,c1,rfl⟩:=hm;obtain⟨a2,n2,c2,rfl⟩:=N6;obtain⟨a3,n3,c3,rfl⟩:=Lw;obtain⟨a4,n4,c4,rfl⟩:=Cq;obtain⟨a6,n6,c6,rfl⟩:=lG;obtain⟨a5,c5,rfl⟩:=hex.sl;have Fi:prog.follows .mixedOrders=true:=by kernel_rfl
 have ahR:Hid (∀wr,Below w.heap.size w wr→dn wr (ε a5 ex.length c5) ex):=ad fun wr I3=>hex.keep fun k e=>I3.block k (hex.jG e);have pj:=ad hb;clear hex hb;unfold dQ;generalize r.fq=fq;generalize r.iv=iv;generalize r.ct=ct;generalize r.un=un;generalize r.ws=ws;have r1:=af.new w [ζ u, V Z st, V Z ln, .bool hr, V Z fq, V Z iv, V Z ct, V Z un, ε a1 n1 c1, ε a2 n2 c2, ε a3 n3 c3, ε a4 n4 c4, V Z ws, ζ tx, ε a5 ex.length c5, ε a6 n6 c6, .bool tr, V Z k] 79;have ah:Below w.heap.size w (w.alloc (η #[ζ u, V Z st, V Z ln, .bool hr, V Z fq, V Z iv, V Z ct, V Z un, ε a1 n1 c1, ε a2 n2 c2, ε a3 n3 c3, ε a4 n4 c4, V Z ws, ζ tx, ε a5 ex.length c5, ε a6 n6 c6, .bool tr, V Z k] 79)):=(Below.refl _ _).alloc (ν _) _;refine(callsIn_wide (n:=0)).1 ?_;refine callsIn_of_wp func216 rfl trivial ?_ rfl;simp only[ntmps216,χ,Α,Ε,Θ,Η,π,ο,ψ,υ,Δ,Β];have adk:w.heap.size<(w.alloc (η #[ζ u, V Z st, V Z ln, .bool hr, V Z fq, V Z iv, V Z ct, V Z un, ε a1 n1 c1, ε a2 n2 c2, ε a3 n3 c3, ε a4 n4 c4, V Z ws, ζ tx, ε a5 ex.length c5, ε a6 n6 c6, .bool tr, V Z k] 79)).heap.size:=by simp
 gi_upto_region 1 with fail;have eW:w.alloc (.cells [ζ u, V Z st, V Z ln, .bool hr, V Z fq, V Z iv, V Z ct, V Z un, ε a1 n1 c1, ε a2 n2 c2, ε a3 n3 c3, ε a4 n4 c4, V Z ws, ζ tx, ε a5 ex.length c5, ε a6 n6 c6, .bool tr, V Z k].toArray 79)=w.alloc (η #[ζ u, V Z st, V Z ln, .bool hr, V Z fq, V Z iv, V Z ct, V Z un, ε a1 n1 c1, ε a2 n2 c2, ε a3 n3 c3, ε a4 n4 c4, V Z ws, ζ tx, ε a5 ex.length c5, ε a6 n6 c6, .bool tr, V Z k] 79):=rfl;rw[eW]at r1;clear eW;generalize w.alloc (η #[ζ u, V Z st, V Z ln, .bool hr, V Z fq, V Z iv, V Z ct, V Z un, ε a1 n1 c1, ε a2 n2 c2, ε a3 n3 c3, ε a4 n4 c4, V Z ws, ζ tx, ε a5 ex.length c5, ε a6 n6 c6, .bool tr, V Z k] 79)=W at *
 have om:=lD.made W;have hbm:Below W.heap.size W (W.alloc (.map #[] 0)):=(Below.refl _ _).alloc (ν _) _;have hmk:=run_makeMap (P:=prog) 264 W;gi_upto_region 2 with fail;replace r1:=r1.on hbm;replace ah:=ah.trans (hbm.mono ah.size);have jD:w.heap.size<W.heap.size:=adk;generalize W.alloc (.map #[] 0)=W1 at *
 generalize W.heap.size=b at *
 have g14:=r1.cell (k:=14) rfl;gi_wp2_with fail;clear g14 adk hmk;gi_loopg [10] ex.length (fun q cv wr=>∃(i n:Nat) (ds:List Int),i+q=ex.length∧cv= V Z i∧n≤2 * i∧ds.length≤i∧lD wr b n ds∧Below w.heap.size w wr∧af wr w.heap.size [ζ u, V Z st, V Z ln, .bool hr, V Z fq, V Z iv, V Z ct, V Z un, ε a1 n1 c1, ε a2 n2 c2, ε a3 n3 c3, ε a4 n4 c4, V Z ws, ζ tx, ε a5 ex.length c5, ε a6 n6 c6, .bool tr, V Z k] 79∧Hid (∀d,d∈ds↔∃t∈ex.take i,t%86400=st%86400∧t/86400=d))
 case atStart=>exact⟨0,0,[],by omega,rfl,by omega,ν _,om,ah,r1,ad (by simp)⟩
 case round=>
  clear om ah r1;obtain⟨i,n,ds,hiq,rfl,hn,hdl,om,ah,r1,HD⟩:=hrel;have YB:=ah.size;by_cases hi:i=ex.length
  case pos=>
   have HE:=ad (show ∀d,d∈ds↔∃t∈ex,t%86400=st%86400∧t/86400=d from fun d=>by rw[HD.out d,hi,List.take_length]);clear HD;subst hi;gi_wp2_with fail;go_ret;exact⟨b,n,ds,rfl,by omega,om,HE.out,ah⟩
  case neg=>
   have wK:i<ex.length:=by omega
   obtain⟨t,ht⟩:∃t,ex[i]?=some t:=⟨_,List.getElem?_eq_getElem wK⟩;obtain⟨ht0,ht1⟩:=pj.out t (List.mem_of_getElem? ht);obtain⟨gx,KI,hcx⟩:=(ahR.out wr ah).cell ht;have xF:=ad (show ∀t',t'∈ex.take (i+1)↔t'∈ex.take i∨t'=t from fun t'=>by
    rw[List.take_add_one,ht];simp)
   subst KI;have g1:=r1.cell (k:=1) rfl;have hmt:t.tmod 86400=t%86400:=ι ht0;have Tl:st.tmod 86400=st%86400:=ι s0;clear ht;by_cases heq:t%86400=st%86400
   case neg=>
    have ahS:(t%86400==st%86400)=false:=by simpa using heq
    have HE:=ad (show ∀d,d∈ds↔∃t∈ex.take (i+1),t%86400=st%86400∧t/86400=d from fun d=>by
     rw[HD.out d];constructor
     ·rintro⟨t',h1,h2⟩;exact⟨t',(xF.out t').2 (.inl h1),h2⟩
     ·rintro⟨t',h1,h2,h3⟩;rcases(xF.out t').1 h1 with h|rfl
      ·exact⟨t',h,h2,h3⟩
      ·exact absurd h2 heq)
    clear HD xF;gi_wp2_with fail;gi_roundg (gk - 1)
    case measure=>omega
    case rel=>exact⟨i+1,n,ds,by omega,by go_num,by omega,by omega,om,ah,r1,HE⟩
   case pos=>
    have HE:=ad (show ∀d,d∈t/86400::ds↔∃t∈ex.take (i+1),t%86400=st%86400∧t/86400=d from fun d=>by
     rw[List.mem_cons,HD.out d];constructor
     ·rintro(rfl|⟨t',h1,h2⟩)
      ·exact⟨t,(xF.out t).2 (.inr rfl),heq,rfl⟩
      ·exact⟨t',(xF.out t').2 (.inl h1),h2⟩
     ·rintro⟨t',h1,h2,h3⟩;rcases(xF.out t').1 h1 with h|rfl
      ·exact .inr ⟨t',h,h2,h3⟩
      ·exact .inl h3.symm)
    have ahS:(t%86400==st%86400)=true:=by simpa using heq
    clear HD xF;have V1:ds.count (t/86400)≤1000:=Nat.le_trans List.count_le_length (by omega);gi_upto_region 6 with fail;gi_region_with_o (gi_at_call 66;refine(callsIn_wide.2 (pF t _ ht0 ht1)).mono ?_;rintro e w2 ⟨rfl,az⟩;have qM:Below wr.heap.size wr w2:=⟨az.os,az.tape,az.output,az.size,az.block⟩;have om2:=om.keep (qM.block b om.lt);have tl:=om2.look (t/86400) (by omega) (by omega);obtain⟨v0,sp,W3,hme,om3,iW,Tm⟩:=om2.entry (by omega) (t/86400) (by omega) (by omega);have ahT:=om3.look (t/86400) (by omega) (by omega);obtain⟨W4,ahU,om4,sQ⟩:=Tm ((ds.count (t/86400):Int)+1) (by omega) (by omega) rfl;have Hi:IntKind.i64.wrap ((ds.count (t/86400):Int)+1)=(ds.count (t/86400):Int)+1:=ia (by omega) (by omega))
    all_goals
     clear tl hme ahT ahU Hi Tm;have mO:=qM.size;have dN:=ah.trans ((qM.mono YB).trans (sQ.below (B:=w.heap.size) (by omega) (fun k hk=>by omega)));have r4:=(r1.on qM).aQ sQ (show¬(w.heap.size=b) by omega);gi_wp2_with fail;gi_roundg (gk - 1)
     case measure=>omega
     case rel=>exact⟨i+1,n+1,t/86400::ds,by omega,by go_num,by omega,by simp;omega,om4,dN,r4,HE⟩
end Go.Proofs.YthpndgcaoeokeaaGreatDoor
namespace Go.Proofs.YthpndgcaoeokeaaGreatDoor
open Tryz
open Go.RowKit Go.Sort
attribute [local go_sem] Oper.semAt_some
attribute [local go_sem] jt fy
attribute [local simp] jt fy
def eR (un s to:Int):Int:=min (to - 1) un - s%86400
theorem adm (fq iv ct un ws:Int)(m md wk pl:Value)(tx:ByteArray)(s f to:Int)(w:θ)(h1:∃a n c,m= ε a n c)(h2:∃a n c,md= ε a n c)(h3:∃a n c,wk= ε a n c)(h4:∃a n c,pl= ε a n c)
 (s0:0≤s)(t0:0≤to)(t1:to≤7258118400)(u0:0≤un)(u1:un≤9223372036854775807):
 Calls prog 280 #[aY fq iv ct un m md wk pl ws tx, V Z s, V Z f, V Z to] w fun e w'=>
  e= .returned (.func (.func 313) #[] #[δ (some ⟨w.heap.size,0,none⟩), δ (some ⟨w.heap.size+1,0,none⟩), δ (some ⟨w.heap.size+2,0,none⟩), δ (some ⟨w.heap.size+4,0,none⟩), δ (some ⟨w.heap.size+3,0,none⟩)])∧
  w'=((((w.alloc (η (bW fq iv ct un m md wk pl ws tx).toArray 76)).alloc (η #[V Z s] 3)).alloc (η #[V Z f] 3)).alloc (η #[V Z (s%86400)] 3)).alloc (η #[V Z (eR un s to)] 3):=by
 obtain⟨a1,n1,c1,rfl⟩:=h1;obtain⟨a2,n2,c2,rfl⟩:=h2;obtain⟨a3,n3,c3,rfl⟩:=h3;obtain⟨a4,n4,c4,rfl⟩:=h4;have hm:0≤s%86400∧s%86400<86400:=by omega
 have Tl:s.tmod 86400=s%86400:=ι s0;unfold aY bW eR;go_enter func280,ntmps280;go_wp2_with fail;go_ret;exact⟨rfl,rfl⟩
theorem Tn (u:ByteArray)(st ln:Int)(hr:Bool)(r:au)(m md wk pl:Value)(tx:ByteArray)(aG aI:Value)(tr:Bool)(k:Int)(f to:Int)(bf be bt:Nat)(w:θ)(s0:0≤st)(s1:st≤7258118400)
 (q1:af w bf [V Z f] 3)(q2:af w be (dQ u st ln hr r m md wk pl tx aG aI tr k) 79)(q3:af w bt [V Z to] 3):
 oP prog 281 #[δ (some ⟨bf,0,none⟩), δ (some ⟨be,0,none⟩), δ (some ⟨bt,0,none⟩)] (tg (if f≤st∧st<to then[st/86400]else[])) (fun k=>k=bf∨k=be∨k=bt) w:=by
 intro l W O J Js Jp bu hR hO eQ hY;replace q1:=q1.keep (hR bf (.inl rfl));replace q2:=q2.keep (hR be (.inr (.inl rfl)));replace q3:=q3.keep (hR bt (.inr (.inr rfl)));have g1:=q1.cell (k:=0) rfl;have g2:W.cell? ⟨be,1,none⟩=some (V Z st):=q2.cell (k:=1) rfl;have g3:=q3.cell (k:=0) rfl;have AI:St O W (J 0) O W:=⟨aK.refl _ _,fun _ h=> .inl h,fun _ h=>h,eQ⟩;clear hR hO q1 q2 q3;refine callsIn_of_wp func281 rfl trivial ?_ rfl;simp only[ntmps281,χ,Α,Ε,Θ,Η,π,ο,ψ,υ,Δ,Β];by_cases h1:f≤st
 case neg=>
  rw[if_neg (fun h=>h1 h.1)]at hY⊢;have zc:st<f:=by omega
  clear hY;gi_wp2_with fail;go_end0;exact .inl ⟨⟨_,rfl⟩, .inl AI.fin⟩
 case pos=>
  by_cases h2:st<to
  case neg=>
   rw[if_neg (fun h=>h2 h.2)]at hY⊢;have B4:to≤st:=by omega
   clear hY;gi_wp2_with fail;go_end0;exact .inl ⟨⟨_,rfl⟩, .inl AI.fin⟩
  case pos=>
   rw[if_pos ⟨h1,h2⟩]at hY⊢;gi_wp2_with fail;refine((callsIn_wide.2 (pF st _ s0 s1)).mono ?_);rintro e W1 ⟨rfl,ai⟩;have jH:=AI.below ai;obtain⟨f1,t1,a1,b1,mj,jj⟩:=hY 0 #[aO (st/86400)] rfl W1 O jH.aQ jH.dO jH.Od jH.on;clear g1 g2 g3 hY;gi_wp2_with fail;refine jj.mono ?_;clear mj jj;rintro e W2 (⟨rfl,hp⟩|⟨rfl,hp⟩|⟨c,rfl,hp⟩)
   case inl=>
    obtain⟨D1,To,_,_⟩:=jH.post hp;gi_wp2_with fail;go_end0;exact .inl ⟨⟨_,rfl⟩, .inl To.fin⟩
   case inr.inl=>
    obtain⟨D1,To,_,_⟩:=jH.post hp;gi_wp2_with fail;go_end0;exact .inl ⟨⟨_,rfl⟩, .inr To.fin⟩
   case inr.inr=>
    obtain⟨D1,To,_,_⟩:=jH.post hp;gi_wp2_with fail;exact⟨rfl, .inr ⟨c,rfl,To.fin⟩⟩
def lL (hr:Bool)(r:au)(st f to:Int):List Int:=if hr then oQ r st f (eR r.un st to)else if f≤st∧st<to then[st/86400]else[]
def xG (xs:List (Array Value))(E:aB)(w:θ):Ending→θ→Prop:=fun e w'=>
 ∃g lb R,e= .returned (.func (.func g) #[] lb)∧oP prog g lb xs R w'∧(∀k,R k→k<w'.heap.size∧(E k∨w.heap.size≤k))∧(∀args w,(callFunc g args).run prog w= .ok (.enter g args) w)∧Below w.heap.size w w'
theorem QJ (u:ByteArray)(st ln:Int)(hr:Bool)(r:au)(m md wk pl:Value)(tx:ByteArray)(aG aI:Value)(tr:Bool)(k:Int)(f to:Int)(w:θ)(hl:eh w r m md wk pl)(ho:hr=true→cX r)(fR:∃a n c,aG= ε a n c)(fZ:∃a n c,aI= ε a n c)
 (s0:0≤st)(s1:st≤7258118400)(f0:-1000000000000≤f)(f1:f≤7258118400)(t0:0≤to)(t1:to≤7258118400):
 Calls prog 217 #[.agg (dQ u st ln hr r m md wk pl tx aG aI tr k).toArray, V Z f, V Z to] w (xG (tg (lL hr r st f to)) (LB m md wk pl) w):=by
 have AM:∀args w,(callFunc 281 args).run prog w= .ok (.enter 281 args) w:=enters_of func281 (by kernel_rfl) rfl;have eg2:∀args w,(callFunc 313 args).run prog w= .ok (.enter 313 args) w:=enters_of func313 (by kernel_rfl) rfl;replace AM:=ad AM;replace eg2:=ad eg2;have q0:=qs w (dQ u st ln hr r m md wk pl tx aG aI tr k) 79 (η #[V Z f] 3) (η #[V Z to] 3);have q1:=qt w (η (dQ u st ln hr r m md wk pl tx aG aI tr k).toArray 79) [V Z f] 3 (η #[V Z to] 3);have q2:=qu w (η (dQ u st ln hr r m md wk pl tx aG aI tr k).toArray 79) (η #[V Z f] 3) [V Z to] 3;have ah:=mi w (η (dQ u st ln hr r m md wk pl tx aG aI tr k).toArray 79) (η #[V Z f] 3) (η #[V Z to] 3);have bu:(((w.alloc (η (dQ u st ln hr r m md wk pl tx aG aI tr k).toArray 79)).alloc (η #[V Z f] 3)).alloc (η #[V Z to] 3)).heap.size=w.heap.size+3:=by simp
 obtain⟨a1,e1⟩:=hl.ms.form;obtain⟨a2,e2⟩:=hl.mds.form;obtain⟨a3,e3⟩:=hl.wks.form;obtain⟨a4,e4⟩:=hl.pls.form;obtain⟨a5,n5,c5,rfl⟩:=fR;obtain⟨a6,n6,c6,rfl⟩:=fZ;have fm:∃a n c,m= ε a n c:=⟨_,_,_,e1⟩;have fmd:∃a n c,md= ε a n c:=⟨_,_,_,e2⟩;have fwk:∃a n c,wk= ε a n c:=⟨_,_,_,e3⟩;have fpl:∃a n c,pl= ε a n c:=⟨_,_,_,e4⟩;clear e1 e2 e3 e4;cases hr
 case false=>
  have hit:=ad (fun(W:θ) (p0:af W w.heap.size (dQ u st ln false r m md wk pl tx (ε a5 n5 c5) (ε a6 n6 c6) tr k) 79) (p1:af W (w.heap.size+1) [V Z f] 3) (p2:af W (w.heap.size+1+1) [V Z to] 3)=>Tn u st ln false r m md wk pl tx (ε a5 n5 c5) (ε a6 n6 c6) tr k f to (w.heap.size+1) w.heap.size (w.heap.size+1+1) W s0 s1 p1 p0 p2);clear hl ho;obtain⟨a1,n1,c1,rfl⟩:=fm;obtain⟨a2,n2,c2,rfl⟩:=fmd;obtain⟨a3,n3,c3,rfl⟩:=fwk;obtain⟨a4,n4,c4,rfl⟩:=fpl;unfold dQ at *
  go_enter func217,ntmps217;go_wp2_with fail;go_ret;exact⟨_,_,_,rfl,hit.out _ q0 q1 q2,fun k hk=>by
   refine⟨?_, .inr ?_⟩
   ·have:=bu;rcases hk with rfl|rfl|rfl<;>omega
   ·rcases hk with rfl|rfl|rfl<;>omega,AM.out,ah⟩
 case true=>
  replace ho:=ho rfl;have hD:=ad (fun W=>adm r.fq r.iv r.ct r.un r.ws m md wk pl tx st f to W fm fmd fwk fpl s0 t0 t1 ho.SF ho.un9);have alD:=ho.SF;have hit:=ad (fun(W W':θ) (hb:Below w.heap.size w W) (hW:W'=((((W.alloc (η (bW r.fq r.iv r.ct r.un m md wk pl r.ws tx).toArray 76)).alloc (η #[V Z st] 3)).alloc (η #[V Z f] 3)).alloc (η #[V Z (st%86400)] 3)).alloc (η #[V Z (eR r.un st to)] 3))=>show oP prog 313 #[δ (some ⟨W.heap.size,0,none⟩), δ (some ⟨W.heap.size+1,0,none⟩), δ (some ⟨W.heap.size+2,0,none⟩), δ (some ⟨W.heap.size+4,0,none⟩), δ (some ⟨W.heap.size+3,0,none⟩)] (tg (lL true r st f to)) (fun k=>k=W.heap.size∨k=W.heap.size+1∨k=W.heap.size+2∨k=W.heap.size+4∨k=W.heap.size+3∨LB m md wk pl k) W'∧Below W.heap.size W W'∧W'.heap.size=W.heap.size+5 from by
   subst hW;obtain⟨x0,x1,x2,x3,xb⟩:=ac9 W (bW r.fq r.iv r.ct r.un m md wk pl r.ws tx) 76 (V Z st) (V Z f) (V Z (st%86400)) 3 3 3;have x4:=af.new ((((W.alloc (η (bW r.fq r.iv r.ct r.un m md wk pl r.ws tx).toArray 76)).alloc (η #[V Z st] 3)).alloc (η #[V Z f] 3)).alloc (η #[V Z (st%86400)] 3)) [V Z (eR r.un st to)] 3;have b5:=(Below.refl _ ((((W.alloc (η (bW r.fq r.iv r.ct r.un m md wk pl r.ws tx).toArray 76)).alloc (η #[V Z st] 3)).alloc (η #[V Z f] 3)).alloc (η #[V Z (st%86400)] 3))).alloc (ν _) (η #[V Z (eR r.un st to)] 3);simp only[World.size_alloc]at x4;have iZ:=xb.trans (b5.mono xb.size);refine⟨?_,iZ,by simp⟩;unfold lL;rw[if_pos rfl];exact Z9 r m md wk pl tx st f (eR r.un st to) W.heap.size (W.heap.size+1) (W.heap.size+2) (W.heap.size+4) (W.heap.size+3) _ ((hl.on hb).on iZ) ho s0 s1 f0 f1 (by unfold eR;omega) (by unfold eR;omega) (x0.on b5) (x1.on b5) (x2.on b5) x4 (x3.on b5))
  have mH:=ad (fun(k:Nat) (h:LB m md wk pl k)=>hl.jG h);clear hl ho;obtain⟨a1,n1,c1,rfl⟩:=fm;obtain⟨a2,n2,c2,rfl⟩:=fmd;obtain⟨a3,n3,c3,rfl⟩:=fwk;obtain⟨a4,n4,c4,rfl⟩:=fpl;unfold dQ at *
  unfold aY at hD;replace bu:=ad bu;go_enter func217,ntmps217;go_upto_region 1 with fail;have eW:((w.alloc (.cells [ζ u, V Z st, V Z ln, .bool true, V Z r.fq, V Z r.iv, V Z r.ct, V Z r.un, ε a1 n1 c1, ε a2 n2 c2, ε a3 n3 c3, ε a4 n4 c4, V Z r.ws, ζ tx, ε a5 n5 c5, ε a6 n6 c6, .bool tr, V Z k].toArray 79)).alloc (η #[V Z f] 3)).alloc (η #[V Z to] 3)=((w.alloc (η #[ζ u, V Z st, V Z ln, .bool true, V Z r.fq, V Z r.iv, V Z r.ct, V Z r.un, ε a1 n1 c1, ε a2 n2 c2, ε a3 n3 c3, ε a4 n4 c4, V Z r.ws, ζ tx, ε a5 n5 c5, ε a6 n6 c6, .bool tr, V Z k] 79)).alloc (η #[V Z f] 3)).alloc (η #[V Z to] 3):=rfl
  try rw[eW]at q0 q1 q2 ah bu
  clear eW;generalize((w.alloc (η #[ζ u, V Z st, V Z ln, .bool true, V Z r.fq, V Z r.iv, V Z r.ct, V Z r.un, ε a1 n1 c1, ε a2 n2 c2, ε a3 n3 c3, ε a4 n4 c4, V Z r.ws, ζ tx, ε a5 n5 c5, ε a6 n6 c6, .bool tr, V Z k] 79)).alloc (η #[V Z f] 3)).alloc (η #[V Z to] 3)=W at *
  have g1:=q0.cell (k:=1) rfl;have g3:=q0.cell (k:=3) rfl;have g4:=q0.cell (k:=4) rfl;have g5:=q0.cell (k:=5) rfl;have g6:=q0.cell (k:=6) rfl;have g7:=q0.cell (k:=7) rfl;have g8:=q0.cell (k:=8) rfl;have g9:=q0.cell (k:=9) rfl;have g10:=q0.cell (k:=10) rfl;have g11:=q0.cell (k:=11) rfl;have g12:=q0.cell (k:=12) rfl;have g13:=q0.cell (k:=13) rfl;have p1:=q1.cell (k:=0) rfl;have p2:=q2.cell (k:=0) rfl;go_wp2_with fail;refine(hD.out _).mono ?_;rintro e W' ⟨rfl,Pf⟩;obtain⟨EU,KX,YL⟩:=hit.out _ _ ah Pf;clear Pf hit g1 g3 g4 g5 g6 g7 g8 g9 g10 g11 g12 g13 p1 p2;go_wp2_with fail;go_ret;replace bu:=bu.out;refine⟨_,_,_,rfl,EU,fun k hk=>?_,eg2.out,ah.trans (KX.mono ah.size)⟩;rcases hk with h|h|h|h|h|h
  ·exact⟨by omega, .inr (by omega)⟩
  ·exact⟨by omega, .inr (by omega)⟩
  ·exact⟨by omega, .inr (by omega)⟩
  ·exact⟨by omega, .inr (by omega)⟩
  ·exact⟨by omega, .inr (by omega)⟩
  ·exact⟨by have:=mH.out k h;omega, .inl h⟩
end Go.Proofs.YthpndgcaoeokeaaGreatDoor
namespace Go.Proofs.YthpndgcaoeokeaaGreatDoor
open Tryz
open Go.RowKit
section
variable {F:Fence} {nF:Nat} {P:Program} {ops:Array Ζ} {Q:Exit→φ→θ→Prop} {md:Region.Mode}
theorem GH (I:(Nat→Bool)→φ→θ→Prop)(hf:forward md ops=true)
 (H:∀(L:Nat→Bool) i o a w,ops[i]?=some o→L i=false→(∀e∈o.after,μ md e=true→L e.on=true)→(∀j oj,ops[j]?=some oj→L j=true→∀e∈oj.after,μ md e=true→L e.on=true)→
  I L a w→wpOpIn F nF P ops Q i (fun a' w'=>I (fun k=>decide (k=i)||L k) a' w') a w)
 (D:∀(L:Nat→Bool) a w,(∀i,i<ops.size→L i=true)→I L a w→Q .normal a w):
 ∀(fuel:Nat) (listed:Array Bool) (a:φ) (w:θ),listed.size=ops.size→listed.toList.count false≤fuel→I (fun k=>listed.getD k false) a w→(∀i o,ops[i]?=some o→listed.getD i false=true→∀e∈o.after,μ md e=true→listed.getD e.on false=true)→wpAnyIn F nF P md ops Q fuel listed a w:=by
 intro fuel
 induction fuel with
 |zero=>
  intro listed a w hs hc hI hC;have bT:∀i,i<ops.size→listed.getD i false=true:=fun i hi=>by
   rw[cP _ (by omega)];cases hb:listed[i]'(by omega)
   ·exfalso;have:false∈listed.toList:=by rw[←hb];exact Array.mem_def.1 (Array.getElem_mem _)
    have:=List.count_pos_iff.2 this;omega
   ·rfl
  have hr:Region.ready md ops listed=[]:=by
   rw[List.eq_nil_iff_forall_not_mem];intro i hi;obtain⟨h1,h2,_⟩:=gI hi;have:=bT i h1;rw[cP _ (by omega)]at this h2;rw[this]at h2;cases h2
  exact⟨hr,D _ a w bT hI⟩
 |succ fuel ih=>
  intro listed a w hs hc hI hC;refine⟨fun hr=>D _ a w (yi hf hs hr) hI,fun i hi=>?_⟩;obtain⟨h1,h2,o,ho,h3⟩:=gI hi;have B4:listed.getD i false=false:=by rw[cP _ (by omega)]at h2⊢;exact h2
  refine wpOpIn_mono (fun a' w' q=>?_) (H (fun k=>listed.getD k false) i o a w ho B4 h3 hC hI);have hL:(fun k=>(listed.setIfInBounds i true).getD k false)=fun k=>decide (k=i)||listed.getD k false:=by
   funext k;by_cases qV:k=i
   ·subst qV;rw[cP _ (by simp;omega)];simp
   ·by_cases qT:k<listed.size
    ·rw[cP _ (by simpa using qT),Array.getElem_setIfInBounds_ne (by simpa using qT) (fun e=>qV e.symm),cP _ qT];simp[qV]
    ·simp[Ι,qT,qV]
  refine ih (listed.setIfInBounds i true) a' w' (by simp[hs]) ?_ (by rw[hL];exact q) (fun j oj gy hl e he hb=>?_)
  ·rw[Array.toList_setIfInBounds,List.count_set (by rw[τ];omega)];have:listed.toList[i]'(by rw[τ];omega)=false:=by
    rw[cP _ (by omega)]at h2;simpa using h2
   rw[this];have hp:0<listed.toList.count false:=List.count_pos_iff.2 (by rw[←this];exact List.getElem_mem _);show listed.toList.count false - 1+0≤fuel;omega
  ·have hLk:∀k,(listed.setIfInBounds i true).getD k false=(decide (k=i)||listed.getD k false):=fun k=>congrFun hL k;rw[hLk]at hl⊢;by_cases lE:j=i
   ·subst lE;rw[ho]at gy;cases gy;rw[h3 e he hb];simp
   ·simp only[lE,decide_false,Bool.false_or]at hl;rw[hC j oj gy hl e he hb];simp
theorem mn {id:Nat}{a:φ}{w:θ}(I:(Nat→Bool)→φ→θ→Prop)(hm:P.follows .mixedOrders=true)(hf:forward .any ops=true)
 (H:∀(L:Nat→Bool) i o a w,ops[i]?=some o→L i=false→(∀e∈o.after,μ .any e=true→L e.on=true)→(∀j oj,ops[j]?=some oj→L j=true→∀e∈oj.after,μ .any e=true→L e.on=true)→
  I L a w→wpOpIn F nF P ops Q i (fun a' w'=>I (fun k=>decide (k=i)||L k) a' w') a w)
 (D:∀(L:Nat→Bool) a w,(∀i,i<ops.size→L i=true)→I L a w→Q .normal a w)(hI:I (fun _=>false) a {w with drawn:=w.drawn+1}):(Code.region id ops true).wpIn F nF P Q a w:=
 wpIn_region_any hm (GH I hf H D ops.size (Γ ops.size false) a _ (by simp) (by rw[Array.toList_replicate,List.count_replicate];simp) (by
  have e:(fun k=>(Γ ops.size false).getD k false)=fun _=>false:=by
   funext k;by_cases hk:k<ops.size
   ·rw[cP _ (by simpa using hk)];simp
   ·simp[Ι,hk]
  rw[e];exact hI) (fun i o ho h=>by
  rw[cP _ (by simpa using(Array.getElem?_eq_some_iff.1 ho).1)]at h;simp at h))
theorem iK {i:Nat}{o:Ζ}{a:φ}{w:θ}{K:φ→θ→Prop}(ho:ops[i]?=some o)(hw:κ o (yielded ops a.tmps)=true)(h:o.wpIn F nF P a w K Q):wpOpIn F nF P ops Q i K a w:=by
 unfold wpOpIn;rw[ho];simp only[hw,if_true];exact h
theorem cZ {i:Nat}{o:Ζ}{a:φ}{w:θ}{K:φ→θ→Prop}(ho:ops[i]?=some o)(hg:o.guard=none)(h:o.wpIn F nF P a w K Q):wpOpIn F nF P ops Q i K a w:=
 iK ho (by unfold κ;rw[hg]) h
theorem jI {i:Nat}{o:Ζ}{a:φ}{w:θ}{K:φ→θ→Prop}(ho:ops[i]?=some o)(hw:κ o (yielded ops a.tmps)=false)(hF:∀f,F.fn f)(h:K (a.put o.dst undef) w):wpOpIn F nF P ops Q i K a w:=by
 unfold wpOpIn;rw[ho];simp only[hw];exact⟨fun f _=>hF f,h⟩
theorem bK {o:Ζ}{a:φ}{w w':θ}{K:φ→θ→Prop}{v:Value}(hF:∀f,F.fn f)(hd:∀c,o.op≠ .defer c)(h:(execOp a.eval o).run P w= .ok (.value v) w')(hK:K (a.put o.dst v) w'):o.wpIn F nF P a w K Q:=by
 unfold Oper.wpIn;refine⟨fun f _=>hF f,?_⟩;rw[Oper.semAt_plain F _ _ hd,h];exact hK
theorem Tp {l':Nat}{o:Ζ}{a:φ}{w w':θ}{K:φ→θ→Prop}{f:FuncId}{args:Array Value}{v:Value}(hd:∀c,o.op≠ .defer c)(h:(execOp a.eval o).run P w= .ok (.enter f args) w')(hc:Calls P f args w' fun e aA=>e= .returned v∧Below w'.heap.size w' aA)
 (h1:∀aA,Below w'.heap.size w' aA→K (a.put o.dst v) aA):o.wpIn (Fence.wide.inRound l') 0 P a w K Q:=by
 unfold Oper.wpIn;refine⟨fun f _=>trivial,?_⟩;rw[Oper.semAt_plain _ _ _ hd,h];refine⟨fun h=>(by simp[Fence.wide]at h),(CallsIn.inRound l' (callsIn_wide.2 hc)).mono ?_⟩;rintro e aA ⟨rfl,hb⟩;exact h1 aA hb
theorem Fo {l' l:Nat}{o:Ζ}{a:φ}{w w':θ}{K:φ→θ→Prop}{f:FuncId}{t:Array Value}{cA cB:Code}{R:Ending→θ→Prop}(hd:∀c,o.op≠ .defer c)(h:(execOp a.eval o).run P w= .ok (.round l f t cA cB) w')(hR:RoundIn Fence.wide 0 P l f t cA cB w' R)
 (h1:∀v aA,R (.returned v) aA→K (a.put o.dst v) aA)(h2:∀c aA,R (.panicked c) aA→Q (.panic c) a aA)(h3:∀aA,¬R .outgrown aA):o.wpIn (Fence.wide.inRound l') 0 P a w K Q:=by
 unfold Oper.wpIn;refine⟨fun f _=>trivial,?_⟩;rw[Oper.semAt_plain _ _ _ hd,h];have hR':RoundIn (Fence.wide.inRound l') 0 P l f t cA cB w' R:=hR;refine⟨fun h=>(by simp[Fence.wide]at h),hR'.mono ?_⟩;intro e aA he;cases e with
 |returned v=>exact h1 v aA he
 |panicked c=>exact h2 c aA he
 |outgrown=>exact absurd he (h3 aA)
end
structure YI (s0 y n0:Nat)(fix:List (Nat×Value))(W:θ)(N:Nat→Value→Prop)(T Fa:θ→Prop)(Bz:Bool→Nat→Value→Prop)(L:Nat→Bool)(a:φ)(w:θ):Prop where
 size:a.tmps.size=n0
 defers:a.defers=[]
 fixed:∀p∈fix,a.eval (.tmp p.1)=p.2
 pre:L y=false→Below W.heap.size W w∧∀j,y<j→L j=false
 bC:∀j,j<y→L j=true→N j (a.eval (.tmp (s0+j)))
 post:L y=true→(∀j,j<y→L j=true)∧∃b:Bool,a.eval (.tmp (s0+y))= .bool b∧(b=true→T w)∧(b=false→Fa w)∧∀j,y<j→L j=true→Bz b j (a.eval (.tmp (s0+j)))
section
variable {s0 y n0:Nat} {fix:List (Nat×Value)} {W:θ} {N:Nat→Value→Prop} {T Fa:θ→Prop} {Bz:Bool→Nat→Value→Prop} {L:Nat→Bool} {a:φ} {w:θ}
theorem YI.start (h1:a.tmps.size=n0)(h2:a.defers=[])(h3:∀p∈fix,a.eval (.tmp p.1)=p.2)(h4:Below W.heap.size W w):YI s0 y n0 fix W N T Fa Bz (fun _=>false) a w:=
 ⟨h1,h2,h3,fun _=>⟨h4,fun _ _=>rfl⟩,fun _ _ h=>(by cases h),fun h=>(by cases h)⟩
theorem YI.below (h:YI s0 y n0 fix W N T Fa Bz L a w){j:Nat}(hj:j<y)(hL:L j=false):Below W.heap.size W w:=by
 cases hy:L y
 ·exact(h.pre hy).1
 ·have:=(h.post hy).1 j hj;rw[hL]at this;cases this
theorem YI.fM (h:YI s0 y n0 fix W N T Fa Bz L a w){j:Nat}(hj:j<y)(hL:L j=false)(hn:s0+y<n0)(LW:∀p∈fix,p.1<s0){v:Value}{w':θ}(hv:N j v)(hb:Below w.heap.size w w'){dst:Option Nat}(hd:dst=some (s0+j)):
 YI s0 y n0 fix W N T Fa Bz (fun k=>decide (k=j)||L k) (a.put dst v) w':=by
 subst hd;have hy:L y=false:=by
  cases hy:L y
  ·rfl
  ·have:=(h.post hy).1 j hj;rw[hL]at this;cases this
 have hs:s0+j<a.tmps.size:=by rw[h.size];omega
 refine⟨by rw[eB];exact h.size,by rw[put_defers];exact h.defers,fun p hp=>by rw[bL (by have:=LW p hp;omega)];exact h.fixed p hp,fun _=>⟨(h.pre hy).1.trans (hb.mono (h.pre hy).1.size),fun k hk=>?_⟩,fun k hk hl=>?_,fun hl=>?_⟩
 ·simp only[Bool.or_eq_false_iff,decide_eq_false_iff_not];exact⟨by omega,(h.pre hy).2 k hk⟩
 ·by_cases uY:k=j
  ·subst uY;rw[fh hs];exact hv
  ·rw[bL (by omega)];exact h.bC k hk (by simpa[uY]using hl)
 ·have di:¬y=j:=by omega
  simp only[di,decide_false,Bool.false_or]at hl;rw[hy]at hl;cases hl
theorem YI.Fp (h:YI s0 y n0 fix W N T Fa Bz L a w)(bT:∀j,j<y→L j=true)(hL:L y=false)(hn:s0+y<n0)(LW:∀p∈fix,p.1<s0){b:Bool}{w':θ}(hT:b=true→T w')(hF:b=false→Fa w'){dst:Option Nat}(hd:dst=some (s0+y)):
 YI s0 y n0 fix W N T Fa Bz (fun k=>decide (k=y)||L k) (a.put dst (.bool b)) w':=by
 subst hd;have hs:s0+y<a.tmps.size:=by rw[h.size];omega
 refine⟨by rw[eB];exact h.size,by rw[put_defers];exact h.defers,fun p hp=>by rw[bL (by have:=LW p hp;omega)];exact h.fixed p hp,fun hl=>by simp at hl,fun k hk hl=>?_,fun _=>⟨fun k hk=>by simp[bT k hk],b,fh hs,hT,hF,fun k hk hl=>?_⟩⟩
 ·rw[bL (by omega)];exact h.bC k hk (bT k hk)
 ·have di:¬k=y:=by omega
  simp only[di,decide_false,Bool.false_or]at hl;rw[(h.pre hL).2 k hk]at hl;cases hl
theorem YI.yL (h:YI s0 y n0 fix W N T Fa Bz L a w){j:Nat}(hj:y<j)(hL:L j=false)(Tq:L y=true)(hn:s0+j<n0)(LW:∀p∈fix,p.1<s0){v:Value}(hv:∀b,a.eval (.tmp (s0+y))= .bool b→Bz b j v){dst:Option Nat}(hd:dst=some (s0+j)):
 YI s0 y n0 fix W N T Fa Bz (fun k=>decide (k=j)||L k) (a.put dst v) w:=by
 subst hd;have hs:s0+j<a.tmps.size:=by rw[h.size];omega
 obtain⟨p1,b,p2,p3,p4,p5⟩:=h.post Tq;refine⟨by rw[eB];exact h.size,by rw[put_defers];exact h.defers,fun p hp=>by rw[bL (by have:=LW p hp;omega)];exact h.fixed p hp,fun hl=>?_,fun k hk hl=>?_,fun _=>⟨fun k hk=>by simp[p1 k hk],b,by rw[bL (by omega)];exact p2,p3,p4,fun k hk hl=>?_⟩⟩
 ·simp[Tq]at hl
 ·rw[bL (by omega)];exact h.bC k hk (p1 k hk)
 ·by_cases uY:k=j
  ·subst uY;rw[fh hs];exact hv b p2
  ·rw[bL (by omega)];exact p5 k hk (by simpa[uY]using hl)
end
structure YP (s0 m n0:Nat)(fix:List (Nat×Value))(W:θ)(N:Nat→Value→Prop)(L:Nat→Bool)(a:φ)(w:θ):Prop where
 size:a.tmps.size=n0
 defers:a.defers=[]
 fixed:∀p∈fix,a.eval (.tmp p.1)=p.2
 below:Below W.heap.size W w
 bC:∀j,j<m→L j=true→N j (a.eval (.tmp (s0+j)))
theorem YP.step {s0 m n0:Nat}{fix:List (Nat×Value)}{W:θ}{N:Nat→Value→Prop}{L:Nat→Bool}{a:φ}{w:θ}(h:YP s0 m n0 fix W N L a w){j:Nat}(hj:j<m)(hn:s0+m≤n0)(LW:∀p∈fix,p.1<s0){v:Value}{w':θ}(hv:N j v)(hb:Below w.heap.size w w'){dst:Option Nat}(hd:dst=some (s0+j)):
 YP s0 m n0 fix W N (fun k=>decide (k=j)||L k) (a.put dst v) w':=by
 subst hd;have hs:s0+j<a.tmps.size:=by rw[h.size];omega
 refine⟨by rw[eB];exact h.size,by rw[put_defers];exact h.defers,fun p hp=>by rw[bL (by have:=LW p hp;omega)];exact h.fixed p hp,h.below.trans (hb.mono h.below.size),fun k hk hl=>?_⟩;by_cases uY:k=j
 ·subst uY;rw[fh hs];exact hv
 ·rw[bL (by omega)];exact h.bC k hk (by simpa[uY]using hl)
theorem I6 {ops:Array Ζ}{o:Ζ}{a:φ}{j d:Nat}{b c:Bool}(hg:o.guard=some (j,b))(hj:((ops[j]?).bind (·.dst))=some d)(hd:d<a.tmps.size)(h:a.eval (.tmp d)= .bool c):κ o (yielded ops a.tmps)=(c==b):=by
 unfold κ;rw[hg];show(yielded ops a.tmps j==some b)=(c==b);unfold yielded;rw[hj];have e:a.tmps[d]?=some (.bool c):=by
  have h':a.tmps.getD d undef= .bool c:=h;rw[Array.getD_eq_getD_getElem?,ξ hd]at h';rw[ξ hd];exact congrArg some h'
 simp only[Option.bind_some,e];cases b<;>cases c<;>rfl
end Go.Proofs.YthpndgcaoeokeaaGreatDoor
namespace Go.Proofs.YthpndgcaoeokeaaGreatDoor
open Tryz
open Go.RowKit Go.Sort
attribute [local go_sem] Oper.semAt_some
attribute [local go_sem] jt fy
attribute [local simp] jt fy
theorem I7 (a:φ)(h:a.tmps.size=29)(hd:a.defers=[]):∃f:Nat→Value,a=⟨List.toArray (f 0::f 1::f 2::f 3::f 4::f 5::f 6::f 7::f 8::f 9::f 10::f 11::f 12::f 13::f 14::f 15::f 16::f 17::f 18::f 19::f 20::f 21::f 22::f 23::f 24::f 25::f 26::f 27::f 28::[]),[]⟩∧∀k,a.eval (.tmp k)=f k:=jo 29 a h hd
def pM (l:List Int):List (Array Value):=l.map fun n=>#[V Z n]
theorem pN (l:List Int):(pM l).length=l.length:=by unfold pM;simp
theorem yM {l:List Int}{i:Nat}{n:Int}(h:l[i]?=some n):(pM l)[i]?=some #[V Z n]:=by unfold pM;rw[ω,h];rfl
def qy (st:Int)(ex:List Int)(l:List Int):List Int:=(l.map fun d=>d * 86400+st%86400).filter fun t=>!ex.contains t
def zC (hr:Bool)(r:au)(st f to:Int)(ex:List Int):List Int:=qy st ex (lL hr r st f to)
theorem V2 (st:Int)(ex:List Int)(d:Int)(l:List Int):qy st ex (d::l)=(if ex.contains (d * 86400+st%86400)then[]else[d * 86400+st%86400])++qy st ex l:=by
 unfold qy;rw[List.map_cons,List.filter_cons];cases h:ex.contains (d * 86400+st%86400)<;>simp
theorem DT (s f last ct:Int):∀(c:Int) (l:List Int) (d:Int),d∈kX s f last ct c l→d∈l
 |_,[],d,h=>by simp[kX]at h
 |c,x::l,d,h=>by
  rw[kX]at h;split at h
  ·exact ρ _ (DT s f last ct c l d h)
  ·split at h
   ·simp at h
   ·rcases List.mem_append.1 h with h|h
    ·split at h
     ·simp at h;subst h;simp
     ·simp at h
    ·split at h
     ·simp at h
     ·exact ρ _ (DT s f last ct (c+1) l d h)
theorem Tr (hr:Bool)(r:au)(ho:hr=true→cX r)(st f to:Int)(s0:0≤st)(s1:st≤7258118400)(f1:f≤7258118400)(t1:to≤7258118400):∀d∈lL hr r st f to,-400≤d∧d≤300000:=by
 intro d hd;unfold lL at hd;split at hd
 ·rename_i pc;exact(Fj _ (IZ (ho pc) _) st f _ s0 s1 f1 (by unfold eR;omega)).2 d (DT _ _ _ _ _ _ _ hd)
 ·split at hd
  ·simp at hd;omega
  ·simp at hd
theorem aaf {st d:Int}{ex ds:List Int}(h:∀d,d∈ds↔∃t∈ex,t%86400=st%86400∧t/86400=d):(ds.count d=0↔ex.contains (d * 86400+st%86400)=false):=by
 rw[List.count_eq_zero,h d];rw[←Bool.not_eq_true,List.contains_iff_mem];constructor
 ·intro hn hm;exact hn ⟨_,hm,by omega,by omega⟩
 ·rintro hn ⟨t,ht,h1,h2⟩;exact hn (by rw[show d * 86400+st%86400=t from by omega];exact ht)
def DK (O:aB)(W0:θ)(J:Nat→bI)(E:Nat→Nat→Prop)(i:Nat):bI:=fun D W=>∃(q:Nat) (D0:aB),lk O W0 (J q) D0 D W∧E q i
theorem DK.ic {O:aB}{W0:θ}{J:Nat→bI}{E:Nat→Nat→Prop}{i:Nat}{D:aB}{W:θ}(hD:∀k,D k→k<W.heap.size)(h:DK O W0 J E i D W):On D (DK O W0 J E i) W:=by
 obtain⟨q,D0,h1,h2⟩:=h;exact⟨hD,fun W2 hk=>⟨q,D0,h1.keep hk,h2⟩⟩
def pO (be b4 b5 b6:Nat):List (Nat×Value):=[(1, δ (some ⟨be,0,none⟩)),(4, δ (some ⟨b4,0,none⟩)),(5, δ (some ⟨b5,0,none⟩)),(6, δ (some ⟨b6,0,none⟩))]
def NB (l be bm:Nat)(d st:Int)(j:Nat)(v:Value):Prop:=match j with
 |0=>v= .map (some bm)
 |1=>v=aO d
 |2=>v= V Z 0
 |3=>v= .bool true
 |4=>v= .bool true
 |5=>v= .func (.yield l) #[] #[]
 |6=>v=aO d
 |7=>v= V Z (d * 86400)
 |8=>v= δ (some ⟨be,1,none⟩)
 |9=>v= V Z st
 |10=>v= V Z (st%86400)
 |_=>v= V Z (d * 86400+st%86400)
def BB (b:Bool)(_:Nat)(v:Value):Prop:=v= .bool (!b)
end Go.Proofs.YthpndgcaoeokeaaGreatDoor
