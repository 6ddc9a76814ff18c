import Derived.Test.YthpndgcaoeokeaaGreatDoorCo23
import Derived.Sort.LoopGhostIn
import Derived.TacticsIn
import Derived.RegionIn
import Derived.Maps.OwnIn
import Derived.OwnWalkIn
set_option maxRecDepth 100000
set_option maxHeartbeats 8000000
open Go.IntKind renaming i64→Z
open Go.Value renaming int→V,slice→δ
open Go.Obj renaming cells→ε
open Nat renaming le_refl→ζ,add_sub_cancel_left→μ,le_trans→ο,reduceSub→Ζ,reduceAdd→Η
open Go renaming World→η,TypeId→ξ,PanicEntry→Ε,Calls→Θ
open Go.RowKit.Below renaming refl→θ,heap_setCell→υ
open Go.World renaming putObj_heap_other→ι,ownsRow_nil→φ
open List renaming getElem?_append_right→κ,length_append→ν,append_toArray→τ,size_toArray→χ,push_toArray→ψ,getElem?_map→ω,length_cons→Α,cons_append→Β,nil_append→Γ,length_nil→Δ
open Array renaming replicate_zero→π,replicate_succ→ρ
namespace Go.Proofs.YthpndgcaoeokeaaGreatDoor
open Tryz
open Go.RowKit Go.Sort
attribute [local go_sem] Oper.semAt_some
def aV (a:Int)(n:Nat):List Int:=(List.range n).map fun(i:Nat)=>a+i
theorem LF (a:Int)(n i:Nat)(h:i<n):(aV a n)[i]?=some (a+i):=by
 unfold aV;rw[ω,List.getElem?_range h];rfl
theorem yH (a:Int)(n:Nat):(aV a n).length=n:=by unfold aV;simp
theorem af.keep {w w':η}{g:Nat}{cs:List Value}{t:ξ}(h:af w g cs t)(e:w'.heap[g]?=w.heap[g]?):af w' g cs t:=e.trans h
theorem On.set {D:aB}{J:bI}{W:η}(h:On D J W){b o:Nat}(hb:¬D b)(v:Value):On D J (W.setCell ⟨b,o,none⟩ v):=
 h.on fun k hk=>υ _ _ _ _ (fun(e:k=b)=>hb (e▸hk))
theorem aeU (a b:Int)(w:η)(ha:-700000≤a)(hb:-700000≤b):
 (Op.equalIn 10000 106 (.agg #[V Z (ae.ag a), V Z (ae.ofM a), V Z (ae.ar a)]) (.agg #[V Z (ae.ag b), V Z (ae.ofM b), V Z (ae.ar b)])).run prog w= .ok (decide (a=b)) w:=by
 rw[ON];congr 1;rw[Bool.eq_iff_iff];simp only[Bool.and_eq_true,beq_iff_eq,decide_eq_true_eq];constructor
 ·rintro⟨⟨h1,h2⟩,h3⟩;exact SA ha hb (by unfold aO cS;rw[h1,h2,h3])
 ·rintro rfl;exact⟨⟨rfl,rfl⟩,rfl⟩
def tg (l:List Int):List (Array Value):=l.map fun n=>#[aO n]
theorem kV (l:List Int):(tg l).length=l.length:=by unfold tg;simp
theorem pK {l:List Int}{i:Nat}{n:Int}(h:l[i]?=some n):(tg l)[i]?=some #[aO n]:=by unfold tg;rw[ω,h];rfl
theorem acT (a:Int)(n:Nat)(g:Nat)(w:η)(h0:-600000≤a)(h1:a+n≤800000)(hr:af w g (pY a (a+n)) 370):
 oP prog 361 #[.pointer (some ⟨g,0,none⟩)] (tg (aV a n)) (fun k=>k=g) w:=by
 intro l W O J Js Jp bu hR hO eQ hY;have Yy:af W g (pY a (a+n)) 370:=hr.keep (hR g rfl);have ay:=Yy.lt;have hnO:¬O g:=fun h=>hO g h rfl;rw[kV,yH];refine callsIn_of_wp func361 rfl trivial ?_ rfl;simp only[ntmps361,χ,Α,Δ,Η,Ζ,ρ,π,ψ,τ,Γ,Β];unfold pY at Yy;obtain⟨⟨z0,z1,z2,z3,z4,z5⟩,y0,y1,y2,y3,y4,y5⟩:=jF Yy;gi_wp2_with fail;have rp:=af.new W [V Z (ae.ag a), V Z (ae.ofM a), V Z (ae.ar a)] 106;have SQ:Below W.heap.size W (W.alloc (ε #[V Z (ae.ag a), V Z (ae.ofM a), V Z (ae.ar a)] 106)):=(θ _ _).alloc (ζ _) _;generalize(W.alloc (ε #[V Z (ae.ag a), V Z (ae.ofM a), V Z (ae.ar a)] 106))=W0 at *
 clear z0 z1 z2 z3 z4 z5 y0 y1 y2 y3 y4 y5;gi_loopg [3] n (fun k p wr=>∃(i b:Nat) (D:aB),i+k=n∧p= .pointer (some ⟨b,0,none⟩)∧W.heap.size≤b∧aK O W wr∧af wr b [V Z (ae.ag (a+i)), V Z (ae.ofM (a+i)), V Z (ae.ar (a+i))] 106∧¬D b∧(∀k,D k→O k∨W.heap.size≤k)∧(∀k,O k→D k)∧On D (J i) wr)
 case atStart=>
  exact⟨0,W.heap.size,O,by omega,rfl,ζ _,aK.bG SQ,by simpa using rp,fun h=>by have:=eQ.1 _ h;omega,fun _ h=> .inl h,fun _ h=>h,eQ.below SQ⟩
 case round=>
  obtain⟨i,b,D,XF,rfl,hWb,hx,hb,IW,uU,qZ,bq⟩:=hrel;have hg:=Yy.aQ hx hnO;obtain⟨⟨z0,z1,z2,z3,z4,z5⟩,y0,y1,y2,y3,y4,y5⟩:=jF hg;obtain⟨c0,c1,c2,_,_,_⟩:=bV hb;have heq:=aeU (a+i) (a+n) wr (by omega) (by omega);by_cases uE:i=n
  case pos=>
   subst uE;simp only[decide_true]at heq;gi_wp2_with fail;go_end0;exact .inl ⟨⟨_,rfl⟩, .inl ⟨hx,D,uU,qZ,bq⟩⟩
  case neg=>
   rw[decide_eq_false (by omega)]at heq;obtain⟨f1,t1,a1,b1,mj,jj⟩:=hY i _ (pK (LF a n i (by omega))) wr D hx uU qZ bq;unfold aO cS at mj;gi_wp2_with fail;refine⟨rfl,jj.mono ?_⟩;clear mj jj heq z0 z1 z2 z3 z4 z5 y0 y1 y2 y3 y4 y5 c0 c1 c2;rintro e W1 (⟨rfl,fR,D1,d1,d2,AE⟩|⟨rfl,fR,D1,d1,d2,AE⟩|⟨c,rfl,fR,D1,d1,d2,AE⟩)
   case inl=>
    have ai:=hb.aQ fR IW;have alr:¬D1 b:=fun h=>(d1 _ h).elim IW (by have:=hb.lt;omega);have acU:aK O W W1:=hx.trans fR (fun j hj=>uU j hj);obtain⟨c0,c1,c2,_,_,_⟩:=bV ai;gi_wp2_with fail;refine⟨trivial,rfl,?_⟩;have aX:=SB (a+i) (W1.alloc (ε #[V Z (ae.ag (a+i)), V Z (ae.ofM (a+i)), V Z (ae.ar (a+i))] 106)) (by omega) (by omega);unfold aO cS at aX;refine(callsIn_wide.2 aX).mono ?_;rintro e W2 ⟨rfl,az⟩;clear c0 c1 c2;have r2:=(af.new W1 [V Z (ae.ag (a+i)), V Z (ae.ofM (a+i)), V Z (ae.ar (a+i))] 106).on az;have fZ:aK O W W2:=(acU.alloc _).fY (aK.bG az);have iX:=(AE.alloc (ε #[V Z (ae.ag (a+i)), V Z (ae.ofM (a+i)), V Z (ae.ar (a+i))] 106)).below az;have Kv:=acU.size;have ib:¬D1 W1.heap.size:=fun h=>by have:=AE.1 _ h;omega
    obtain⟨c0,c1,c2,v0,v1,v2⟩:=bV r2;gi_wp2_with fail;gi_roundg (gk - 1)
    case measure=>omega
    case rel=>
     refine⟨i+1,W1.heap.size,D1,by omega,rfl,by omega,?_,?_,ib,?_,fun k hk=>d2 k (qZ k hk),?_⟩
     ·exact((fZ.setCell (.inr (by simpa using Kv)) _).setCell (.inr (by simpa using Kv)) _).setCell (.inr (by simpa using Kv)) _
     ·have:=((r2.set (k:=0) (V Z (ae.ag (a+i+1)))).set (k:=1) (V Z (ae.ofM (a+i+1)))).set (k:=2) (V Z (ae.ar (a+i+1)));simpa[Int.add_assoc]using this
     ·intro k hk;rcases d1 k hk with h|h
      ·exact uU k h
      ·exact .inr (by have:=hx.size;omega)
     ·exact((iX.set ib _).set ib _).set ib _
   case inr.inl=>
    gi_wp2_with fail;refine bodyPost_ret (results_none rfl _ _ _) rfl ?_;exact .inl ⟨⟨_,rfl⟩, .inr ⟨hx.trans fR (fun j hj=>uU j hj),D1,fun k hk=>(d1 k hk).elim (uU k) (fun h=> .inr (by have:=hx.size;omega)),fun k hk=>d2 k (qZ k hk),AE⟩⟩
   case inr.inr=>
    gi_wp2_with fail;exact⟨rfl, .inr ⟨c,rfl,hx.trans fR (fun j hj=>uU j hj),D1,fun k hk=>(d1 k hk).elim (uU k) (fun h=> .inr (by have:=hx.size;omega)),fun k hk=>d2 k (qZ k hk),AE⟩⟩
theorem aeV (a b:Int)(w:η):
 Θ prog 355 #[dt a b] w fun e w'=>e= .returned (.func (.func 361) #[] #[.pointer (some ⟨w.heap.size,0,none⟩)])∧w'=w.alloc (ε (pY a b).toArray 370):=by
 unfold dt pY;go_enter func355,ntmps355;go_wp2_with fail;go_ret;exact⟨rfl,rfl⟩
end Go.Proofs.YthpndgcaoeokeaaGreatDoor
namespace Go.Proofs.YthpndgcaoeokeaaGreatDoor
open Tryz
open Go.RowKit
def SR (P:Program)(O:aB)(w:η)(body:Code)(J:bI)(Jx:Code→bI)(Jp:List Ε→bI)(a1:Act)(D1:aB)(W1:η):Prop:=
 ∀(l:Nat) (W2:η),(∀k,D1 k→W2.heap[k]?=W1.heap[k]?)→aK O w W2→w.heap.size+2≤W2.heap.size→body.wpIn (Fence.wide.inRound l) 0 P (Yt D1 J Jx Jp W2) a1 W2
theorem pL {f:FuncId}{fnc:Func}{P:Program}(VS:P.funcs[f]?=some fnc){g:Operand}{ps:Array Tmp}{assign body:Code}{Q:Exit→Act→η→Prop}{a:Act}{w:η}
 {gf:Nat}{lb:Array Value}{xs:List (Array Value)}(hg:a.eval g= .func (.func gf) #[] lb)(eg:∀args w,(callFunc gf args).run P w= .ok (.enter gf args) w)
 {R:aB}{w0:η}(hit:oP P gf lb xs R w0)(O4:w0.heap.size≤w.heap.size)(hwR:∀k,R k→w.heap[k]?=w0.heap[k]?)(Yv:∀k,R k→k<w.heap.size)
 (O:aB)(hO:∀k,O k→¬R k)(J:Nat→bI)(Jx:Code→bI)(Jp:List Ε→bI)(nS:∀x∈xs,x.size=ps.size)(h0:On O (J 0) w)
 (acV:∀(l:Nat) (i:Nat) (x:Array Value),xs[i]?=some x→∀(W:η) (D:aB),aK O w W→w.heap.size+2≤W.heap.size→(∀k,O k→D k)→On D (J i) W→
  ∀K:Act→η→Prop,(∀a1 W1 D1,Below W.heap.size W W1→(∀k,D1 k→D k∨W.heap.size≤k)→(∀k,D k→D1 k)→(∀k,D1 k→k<W1.heap.size)→
   SR P O w body (J (i+1)) Jx Jp a1 D1 W1→K a1 W1)→
  assign.wpIn (Fence.wide.inRound l) 0 P (Exit.then K (fun _ _ _=>False)) {tmps:=(ps.zip x).foldl (fun t (p,v)=>t.setIfInBounds p v) a.tmps,defers:=[]} W)
 (QE:∀(W:η),bR O (w.heap.size+2) (J xs.length) w W→w.heap.size+2≤W.heap.size→W.heap[w.heap.size]?=some (.deferred (some []))→Q .normal {a with defers:={target:= .collected w.heap.size,args:=#[]}::a.defers} W)
 (QF:∀(c:Code) (W:η),bR O (w.heap.size+2) (Jx c) w W→w.heap.size+2≤W.heap.size→W.heap[w.heap.size]?=some (.deferred (some []))→c.wpIn Fence.wide 0 P Q {a with defers:={target:= .collected w.heap.size,args:=#[]}::a.defers} W)
 (VT:∀(c:List Ε) (W:η),bR O (w.heap.size+2) (Jp c) w W→w.heap.size+2≤W.heap.size→W.heap[w.heap.size]?=some (.deferred (some []))→Q (.panic c) {a with defers:={target:= .collected w.heap.size,args:=#[]}::a.defers} W):
 xB f P (Code.rangeFunc g ps assign body) Q a w:=by
 refine QD VS hg eg hit O4 hwR Yv O hO J Jx Jp (fun i a1 D W=>SR P O w body (J (i+1)) Jx Jp a1 D W) nS h0 ?_ ?_ QE QF VT
 ·intro l i x hx W D he hs qZ bq K hK;refine acV l i x hx W D he hs qZ bq K fun a1 W1 D1 hb h1 h2 h3 Kl=>hK a1 W1 D1 hb h1 h2 ⟨h3,fun W2 hk l' W3 lR=>Kl l' W3 fun k hd=>(lR k hd).trans (hk k hd)⟩
 ·intro l i x hx a1 W D he hs qZ bq;exact bq.out l W (fun _ _=>rfl) he hs
theorem fa {w w':η}{B s:Nat}{e:ξ}{v:Value}{n:Nat}{xs:List Value}(h:w.ownsRow B e s v n xs)(hk:∀g,v.ownBlock=some g→w'.heap[g]?=w.heap[g]?):w'.ownsRow B e s v n xs:=
 ⟨h.1,h.2.elim .inl fun⟨g,cap,cur,h1,h2,h3,h4⟩=> .inr ⟨g,cap,cur,h1,h2,(hk g (by rw[h1];rfl)).trans h3,h4⟩⟩
def xD (p:Nat)(T e:ξ)(sz B n:Nat)(xs:List Value):bI:=fun D W=>
 D p∧∃v,af W p [v] T∧(∀k,v.ownBlock=some k→D k∧k≠p)∧W.ownsRow B e sz v n xs
theorem xD.ic {p:Nat}{T e:ξ}{sz B n:Nat}{xs:List Value}{D:aB}{W:η}(hD:∀k,D k→k<W.heap.size)(h:xD p T e sz B n xs D W):On D (xD p T e sz B n xs) W:=by
 obtain⟨h1,v,h2,h3,h4⟩:=h;exact⟨hD,fun W2 hk=>⟨h1,v,(hk p h1).trans h2,h3,fa h4 fun g hg=>hk g (h3 g hg).1⟩⟩
theorem AF {F:Fence}{nF:Nat}{P:Program}{ops:Array Oper}{rest:List Oper}{o:Oper}{a:Act}{Q:Exit→Act→η→Prop}{W:η}(ix:o.guard=none)(s x:Operand)(t e:ξ)(z:Value)(size bytes:Nat)
 (ho:o.op= .call {callee:= .builtin .append,args:=#[s,x],argTypes:=#[t,t]})(hu:P.underlying t=some (.slice e))
 (kN:(P.info? e).map (fun i=>(i.zero,i.size,i.bytes))=some (some z,size,bytes))(hz:z.cells.size=size)(bu:0<size)(B:Nat)(v:Value)(n:Nat)(xs:List Value)(hs:a.eval s=v)
 (aw:W.ownsRow B e size v n xs)(hB:B≤W.heap.size)(p:Nat)(news:List Value)(hx:a.eval x= δ (some ⟨p,0,none⟩) 1 1)(hl:news.length=size)
 (hc:∀j u,news[j]?=some u→W.cell? ⟨p,j,none⟩=some u)(h1:∀u∈news,u.oneCell'=true)(hn:n≤4194304)(gC:bytes≤64)
 (h:∀v' W',W'.ownsRow B e size v' (n+1) (xs++news)→W.grownBy W' v.ownBlock→(v'.ownBlock=v.ownBlock∨v'.ownBlock=some W.heap.size)→wpListIn F nF P ops Q rest (a.put o.dst v') W'):
 wpListIn F nF P ops Q (o::rest) a W:=by
 obtain⟨i0,hi,fH,eP,fb⟩:=info_parts kN;refine Go.wpListIn_append_own_at W ix s x t ho B e i0 z size bytes hu hi fH eP fb hz bu v n xs hs aw ⟨p,0,none⟩ 1 1 news hx (by omega) ?_ h1 ?_ ?_ hB ?_
 ·intro j u hj;have:=hc j u hj;have e:((⟨p,0,none⟩:Addr).add j)=⟨p,j,none⟩:=by
   unfold Addr.add;split
   ·rename_i hj0;subst hj0;rfl
   ·simp
  rw[e];exact this
 ·unfold maxLen;omega
 ·have:(n+1) * bytes≤4194305 * 64:=Nat.mul_le_mul (by omega) gC;omega
 ·intro v' W' dj eJ _ gE;exact h v' W' dj eJ gE
theorem aK.grown {O:aB}{A W W':η}{row:Option Nat}(h:aK O A W)(hg:W.grownBy W' row)(hr:∀k,row=some k→O k∨A.heap.size≤k):aK O A W':=
 ⟨hg.os.trans h.os,hg.tape.trans h.tape,hg.output.trans h.output,ο h.size hg.size,fun k hk ho=>by
  have di:some k≠row:=fun e=>(hr k e.symm).elim ho (by omega);exact(hg.block k (Nat.lt_of_lt_of_le hk h.size) di).trans (h.block k hk ho)⟩
theorem th {w:η}{B s n:Nat}{e:ξ}{v:Value}{xs:List Value}(h:w.ownsRow B e s v n xs):∃a c,v= δ a n c:=by
 rcases h.2 with⟨rfl,rfl⟩|⟨g,cap,cur,rfl,_⟩
 ·exact⟨_,_,rfl⟩
 ·exact⟨_,_,rfl⟩
theorem LG {D1:aB}{W2 W3 W4:η}{p B sz n':Nat}{T e:ξ}{v v':Value}{Yz:List Value}(gG:∀k,D1 k→k<W2.heap.size)(hp:D1 p)(hx:aK D1 W2 W3)(q:af W3 p [v] T)
 (hv:∀k,v.ownBlock=some k→D1 k∧k≠p)(hg:W3.grownBy W4 v.ownBlock)(gE:v'.ownBlock=v.ownBlock∨v'.ownBlock=some W3.heap.size)(ho:W4.ownsRow B e sz v' n' Yz):
 bR D1 W2.heap.size (xD p T e sz B n' Yz) W2 (W4.setCell ⟨p,0,none⟩ v'):=by
 have Ym:=q.lt;have q4:af W4 p [v] T:=(hg.block p Ym (fun e=>(hv p e.symm).2 rfl)).trans q;have mO:=hx.size;have Yx:=hg.size;have OG:∀k,v'.ownBlock=some k→(D1 k∨W2.heap.size≤k)∧k≠p∧k<W4.heap.size:=fun k hk=>by
  have ay:=(ho.lt k hk).2;rcases gE with h|h
  ·have:=hv k (h▸hk);exact⟨.inl this.1,this.2,ay⟩
  ·rw[h]at hk;injection hk with hk
   exact⟨.inr (by omega),by omega,ay⟩
 refine⟨(hx.grown hg fun k hk=> .inl (hv k hk).1).setCell (.inl hp) _,fun k=>D1 k∨v'.ownBlock=some k,fun k hk=>hk.elim .inl fun h=>(OG k h).1,fun k hk=> .inl hk,?_⟩;refine xD.ic (fun k hk=>?_) ⟨.inl hp,v',q4.set (k:=0) v',fun k hk=>⟨.inr hk,(OG k hk).2.1⟩,fa ho fun g Hw=>υ _ _ _ _ (fun(e:g=p)=>(OG g Hw).2.1 e)⟩
 ·rw[World.size_setCell];rcases hk with hk|hk
  ·have:=gG k hk;omega
  ·exact(OG k hk).2.2
open Go.RowKit Go.Sort
attribute [local go_sem] Oper.semAt_some
def jd (l:List Int):List Value:=(l.map nU).flatten
def im (r:au)(a:Int)(n:Nat):List Int:=(aV a n).filter (kU r)
def ko (pls:List Int)(len:Int):Int→List Int→List Int
 |_,[]=>[]
 |i,d::l=>(if pls.contains (i+1)||pls.contains (i - len)then[d]else[])++ko pls len (i+1) l
def dh (r:au)(a:Int)(n:Nat):List Int:=if r.pls.length=0 then im r a n else ko r.pls (im r a n).length 0 (im r a n)
theorem AG {l:List Int}{i:Nat}{d:Int}(h:l[i]?=some d):
 (jd l)[i * 3]?=some (V Z (ae.ag d))∧(jd l)[i * 3+1]?=some (V Z (ae.ofM d))∧(jd l)[i * 3+2]?=some (V Z (ae.ar d)):=by
 induction l generalizing i with
 |nil=>simp at h
 |cons x r ih=>
  cases i with
  |zero=>simp at h;subst h;unfold jd nU;simp
  |succ i=>
   have:=ih (i:=i) (by simpa using h);have e:jd (x::r)=nU x++jd r:=by unfold jd;simp
   rw[e];have hl:(nU x).length=3:=rfl;refine⟨?_,?_,?_⟩
   ·rw[show(i+1) * 3=3+i * 3 from by omega,κ (by omega),hl,μ];exact this.1
   ·rw[show(i+1) * 3+1=3+(i * 3+1)from by omega,κ (by omega),hl,μ];exact this.2.1
   ·rw[show(i+1) * 3+2=3+(i * 3+2)from by omega,κ (by omega),hl,μ];exact this.2.2
theorem SU {pls:List Int}{len:Int}{F:List Int}{i:Nat}{d:Int}(h:F[i]?=some d):
 ko pls len i (F.drop i)=(if pls.contains (i+1)||pls.contains (i - len)then[d]else[])++ko pls len ((i+1:Nat):Int) (F.drop (i+1)):=by
 obtain⟨hi,he⟩:=List.getElem?_eq_some_iff.1 h;rw[List.drop_eq_getElem_cons hi,he,ko];rfl
theorem O7 {w:η}{B:Nat}{v:Value}{l:List Int}{i:Nat}{d:Int}(h:w.ownsRow B 106 3 v l.length (jd l))(hd:l[i]?=some d):
 ∃g cap,v= δ (some ⟨g,0,none⟩) l.length cap∧B≤g∧l.length≤cap∧w.cell? ⟨g,i * 3,none⟩=some (V Z (ae.ag d))∧w.cell? ⟨g,i * 3+1,none⟩=some (V Z (ae.ofM d))∧w.cell? ⟨g,i * 3+2,none⟩=some (V Z (ae.ar d)):=by
 have hi:=(List.getElem?_eq_some_iff.1 hd).1;rcases h.2 with⟨_,h0⟩|⟨g,cap,cur,rfl,hB,hg,hc,_⟩
 ·omega
 ·refine⟨g,cap,rfl,hB,hc,?_,?_,?_⟩
  ·rw[h.cellAt _ (by omega)];exact(AG hd).1
  ·rw[h.cellAt _ (by omega)];exact(AG hd).2.1
  ·rw[h.cellAt _ (by omega)];exact(AG hd).2.2
theorem sr {w:η}{B B' s n:Nat}{e:ξ}{v:Value}{xs:List Value}(h:w.ownsRow B e s v n xs)(hb:B'≤B):w.ownsRow B' e s v n xs:=
 ⟨h.1,h.2.imp id fun⟨g,cap,cur,h1,h2,h3⟩=>⟨g,cap,cur,h1,ο hb h2,h3⟩⟩
theorem Gz:(prog.info? 106).map (fun i=>(i.zero,i.size,i.bytes))=some (some (.agg #[V Z 0, V Z 0, V Z 0]),3,24):=by kernel_rfl
theorem SV (r:au)(a:Int)(i:Nat):im r a (i+1)=im r a i++if kU r (a+i)then[a+i]else[]:=by
 unfold im aV;rw[List.range_succ,List.map_append,List.filter_append];simp[List.filter_cons]
theorem yI (l:List Int)(x:Int):jd (l++[x])=jd l++nU x:=by unfold jd;simp
theorem DN (r:au)(a:Int)(n:Nat):(im r a n).length≤n:=by
 unfold im;exact ο (List.length_filter_le _ _) (by rw[yH];exact ζ _)
theorem VV (r:au)(m md wk pl:Value)(tx:ByteArray)(a:Int)(n:Nat)(w:η)(hl:eh w r m md wk pl)(ho:cX r)(h0:-10000≤a)(h1:a+n≤300000)(hn:n≤400):
 Θ prog 343 #[aY r.fq r.iv r.ct r.un m md wk pl r.ws tx,dt a (a+n)] w fun e w'=>∃v,e= .returned v∧w'.ownsRow w.heap.size 106 3 v (dh r a n).length (jd (dh r a n))∧Below w.heap.size w w':=by
 have hF:Hid (∀W k,Below w.heap.size w W→k<n→Θ prog 356 #[aY r.fq r.iv r.ct r.un m md wk pl r.ws tx,aO (a+(k:Nat))] W fun e w'=>e= .returned (.bool (kU r (a+(k:Nat))))∧Below W.heap.size W w'):=
  ad fun W k hb hk=>acM r m md wk pl tx (a+(k:Nat)) W (hl.on hb) ho (by omega) (by omega)
 have hA:Hid (∀W,Θ prog 355 #[dt a (a+n)] W fun e w'=>e= .returned (.func (.func 361) #[] #[.pointer (some ⟨W.heap.size,0,none⟩)])∧w'=W.alloc (ε (pY a (a+n)).toArray 370)):=ad fun W=>aeV a (a+n) W;obtain⟨a1,e1⟩:=hl.ms.form;obtain⟨a2,e2⟩:=hl.mds.form;obtain⟨a3,e3⟩:=hl.wks.form;obtain⟨a4,e4⟩:=hl.pls.form;have Cq:=ad hl.pls;have als:=ho.pls;clear hl ho;generalize r.ms.length=n1 at *
 generalize r.mds.length=n2 at *
 generalize r.wks.length=n3 at *
 subst e1 e2 e3 e4;unfold aY at *
 unfold dt aO cS at *
 refine(callsIn_wide (n:=0)).1 ?_;refine iM func343 rfl ?_;simp only[ntmps343,χ,Α,Δ,Η,Ζ,ρ,π,ψ,τ,Γ,Β];refine dy fun K hK=>ei ?_;gi_wp2_with fail;refine dy fun K hK=>ei ?_;gi_wp2_with fail;refine dy fun K1 aP=>?_;refine dy fun K hK=>ei ?_;gi_wp2_with fail;refine⟨trivial,rfl,(callsIn_wide.2 (hA.out _)).mono ?_⟩;rintro e w1 ⟨rfl,rfl⟩;have r0:=((af.new w [V Z r.fq, V Z r.iv, V Z r.ct, V Z r.un, δ a1 n1 n1, δ a2 n2 n2, δ a3 n3 n3, δ a4 r.pls.length r.pls.length, V Z r.ws, .string tx] 76).on ((θ _ _).alloc (ζ _) (ε #[V Z (ae.ag a), V Z (ae.ofM a), V Z (ae.ar a), V Z (ae.ag (a+n)), V Z (ae.ofM (a+n)), V Z (ae.ar (a+n))] 370))).on ((θ _ _).alloc (ζ _) (ε #[δ none 0 0] 372));have r5:=af.new ((w.alloc (ε #[V Z r.fq, V Z r.iv, V Z r.ct, V Z r.un, δ a1 n1 n1, δ a2 n2 n2, δ a3 n3 n3, δ a4 r.pls.length r.pls.length, V Z r.ws, .string tx] 76)).alloc (ε #[V Z (ae.ag a), V Z (ae.ofM a), V Z (ae.ar a), V Z (ae.ag (a+n)), V Z (ae.ofM (a+n)), V Z (ae.ar (a+n))] 370)) [δ none 0 0] 372;simp only[World.size_alloc]at r5;have ah:Below w.heap.size w (((w.alloc (ε #[V Z r.fq, V Z r.iv, V Z r.ct, V Z r.un, δ a1 n1 n1, δ a2 n2 n2, δ a3 n3 n3, δ a4 r.pls.length r.pls.length, V Z r.ws, .string tx] 76)).alloc (ε #[V Z (ae.ag a), V Z (ae.ofM a), V Z (ae.ar a), V Z (ae.ag (a+n)), V Z (ae.ofM (a+n)), V Z (ae.ar (a+n))] 370)).alloc (ε #[δ none 0 0] 372)):=(((θ _ _).alloc (ζ _) _).alloc (by simp) _).alloc (by simp;omega) _;have bu:(((w.alloc (ε #[V Z r.fq, V Z r.iv, V Z r.ct, V Z r.un, δ a1 n1 n1, δ a2 n2 n2, δ a3 n3 n3, δ a4 r.pls.length r.pls.length, V Z r.ws, .string tx] 76)).alloc (ε #[V Z (ae.ag a), V Z (ae.ofM a), V Z (ae.ar a), V Z (ae.ag (a+n)), V Z (ae.ofM (a+n)), V Z (ae.ar (a+n))] 370)).alloc (ε #[δ none 0 0] 372)).heap.size=w.heap.size+3:=by simp
 generalize(((w.alloc (ε #[V Z r.fq, V Z r.iv, V Z r.ct, V Z r.un, δ a1 n1 n1, δ a2 n2 n2, δ a3 n3 n3, δ a4 r.pls.length r.pls.length, V Z r.ws, .string tx] 76)).alloc (ε #[V Z (ae.ag a), V Z (ae.ofM a), V Z (ae.ar a), V Z (ae.ag (a+n)), V Z (ae.ofM (a+n)), V Z (ae.ar (a+n))] 370)).alloc (ε #[δ none 0 0] 372))=W0 at *
 have bz:Below W0.heap.size W0 (W0.alloc (ε (pY a (a+n)).toArray 370)):=(θ _ _).alloc (ζ _) _;have hit:=acT a n W0.heap.size (W0.alloc (ε (pY a (a+n)).toArray 370)) (by omega) (by omega) (af.new _ _ _);have acW:(W0.alloc (ε (pY a (a+n)).toArray 370)).heap.size=w.heap.size+4:=by simp;omega
 replace ah:=ah.trans (bz.mono ah.size);replace r0:=r0.on bz;replace r5:=r5.on bz;rw[bu]at hit;generalize W0.alloc (ε (pY a (a+n)).toArray 370)=W1 at *
 clear bz hA;gi_wp2_with fail;refine nW ?_;have eg:∀args w,(callFunc 361 args).run prog w= .ok (.enter 361 args) w:=enters_of func361 (by kernel_rfl) rfl;refine pL (gf:=361) (lb:=#[.pointer (some ⟨w.heap.size+3,0,none⟩)]) func343 ?g eg hit (ζ _) (fun _ _=>rfl) (fun k hk=>by omega)
  (fun k=>k=w.heap.size+1+1) (fun k hk=>by omega) (fun i=>xD (w.heap.size+1+1) 372 106 3 w.heap.size ((im r a i).length) (jd (im r a i))) (fun _ _ _=>False) (fun _ _ _=>False) ?ps ?start ?round ?done ?stop ?pan
 case g=>rfl
 case ps=>intro x hx;obtain⟨d,_,rfl⟩:=List.mem_map.1 hx;rfl
 case start=>exact xD.ic (fun k hk=>by omega) ⟨rfl, δ none 0 0,r5,fun k hk=>by simp[Value.ownBlock]at hk,φ _ _ _ _⟩
 case stop=>
  rintro c W ⟨_,D,_,_,bq⟩;exact bq.out.elim
 case pan=>
  rintro c W ⟨_,D,_,_,bq⟩;exact bq.out.elim
 case round=>
  intro l i x hx W D SW hs qZ bq K hK;have uE:i<n:=by
   have:=(List.getElem?_eq_some_iff.1 hx).1;rwa [kV,yH]at this
  rw[pK (LF a n i uE)]at hx;cases hx;unfold aO cS;gi_wp2_with fail;have dr:Below W.heap.size W (W.alloc (ε #[V Z (ae.ag (a+i)), V Z (ae.ofM (a+i)), V Z (ae.ar (a+i))] 106)):=(θ _ _).alloc (ζ _) _;refine hK _ _ (fun k=>D k∨k=W.heap.size) dr (fun k hk=>hk.imp id fun h=>by omega) (fun k hk=> .inl hk) (fun k hk=>hk.elim (fun h=>by have:=bq.1 k h;simp;omega) (fun h=>by simp;omega)) ?_;intro l' W2 gm fZ mO;have q0:=r0.aQ fZ (show¬(w.heap.size=w.heap.size+1+1) by omega);have q6:=(af.new W [V Z (ae.ag (a+i)), V Z (ae.ofM (a+i)), V Z (ae.ar (a+i))] 106).keep (gm _ (.inr rfl));have iX:=bq.on (W':=W2) fun k hk=>(gm k (.inl hk)).trans (dr.block k (bq.1 k hk));have jD:=ah.trans (fZ.below (B:=w.heap.size) (by omega) (fun k hk=>by omega));have di:¬D W.heap.size:=fun h=>by have:=bq.1 _ h;omega
  have YA:=q6.lt;clear hK dr gm r0 r5 hit aP;obtain⟨ib,v,q5,mV,aw⟩:=iX.out;obtain⟨g0,g1,g2,g3,g4,g5,g6,g7,g8,g9⟩:=ca q0;obtain⟨c0,c1,c2,_,_,_⟩:=bV q6;gi_wp2_with fail;refine⟨trivial,rfl,(CallsIn.inRound l' (callsIn_wide.2 (hF.out _ i jD uE))).mono ?_⟩;rintro e W3 ⟨rfl,bw⟩;clear g0 g1 g2 g3 g4 g5 g6 g7 g8 g9 c0 c1 c2;have gG:∀k,D k∨k=W.heap.size→k<W2.heap.size:=fun k hk=>hk.elim (iX.1 k) (fun h=>by omega);have gb:=SV r a i;have zV:=DN r a i;have z5:=q5.on bw;have z6:=q6.on bw;have ry:=fa aw (w':=W3) fun g hg=>bw.block g (aw.lt g hg).2;have Fg:Hid (kU r (a+i)=false→im r a (i+1)=im r a i):=ad fun h=>by rw[gb,h];simp
  have Fh:Hid (kU r (a+i)=true→im r a (i+1)=im r a i++[a+i]):=ad fun h=>by rw[gb,h];simp
  clear gb;generalize hf:kU r (a+i)=B at *
  cases B
  ·replace Fg:=ad (Fg.out rfl);clear Fh;gi_wp2_with fail;refine⟨aK.bG bw,fun k=>D k∨k=W.heap.size,fun k hk=> .inl hk,fun k hk=>hk,?_⟩;rw[Fg.out];exact xD.ic (fun k hk=>by have:=gG k hk;have:=bw.size;omega) ⟨.inl ib,v,z5,fun k hk=>⟨.inl (mV k hk).1,(mV k hk).2⟩,ry⟩
  ·replace Fh:=ad (Fh.out rfl);clear Fg;have c5:=z5.cell (k:=0) rfl;have f5:=z5.free (k:=0);obtain⟨c0,c1,c2,_,_,_⟩:=bV z6;have K6:w.heap.size≤W3.heap.size:=by have:=bw.size;omega
   gi_wp2_with (gi_at_builtin;refine Hid.out ?_);refine ad ?_;refine AF rfl (.tmp 16) (.tmp 18) 372 106 _ 3 24 rfl underlying372 Gz rfl (by decide) w.heap.size _ _ _ rfl (ry.alloc _) (by simp;omega) W3.heap.size (nU (a+i)) rfl rfl (fun j u hj=>(af.new W3 (nU (a+i)) 106).cell hj) (by unfold nU;simp[Value.oneCell']) (by omega) (by decide) ?_;intro v' W4 BP IX DO;obtain⟨g4,alu,rfl⟩:=th BP;replace DO:=ad DO;have cj:=(θ W3.heap.size W3).alloc (ζ _) (ε (nU (a+i)).toArray 106);have y5:=z5.on cj;have y5':af W4 (w.heap.size+1+1) [v] 372:=(IX.block _ y5.lt (fun e=>(mV _ e.symm).2 rfl)).trans y5;clear c5 f5 c0 c1 c2;have c5:=y5'.cell (k:=0) rfl;have f5:=y5'.free (k:=0);gi_wp2_with fail;have ti:=LG (D1:=fun k=>D k∨k=W.heap.size) (W2:=W2) (p:=w.heap.size+1+1) (T:=372) gG (.inl ib) ((aK.bG bw).alloc _) y5 (fun k hk=>⟨.inl (mV k hk).1,(mV k hk).2⟩) IX DO.out BP;show bR _ _ _ _ _;rw[Fh.out,yI,ν];exact ti
 case done=>
  rw[kV,yH];rintro W ⟨hx,D,uU,qZ,bq⟩ hs du;have q0:=r0.aQ hx (show¬(w.heap.size=w.heap.size+1+1) by omega);obtain⟨ib,v,q5,mV,aw⟩:=bq.out;have jD:=ah.trans (hx.below (B:=w.heap.size) (by omega) (fun k hk=>by omega));clear r0 r5 hit hF;obtain⟨g0,g1,g2,g3,g4,g5,g6,g7,g8,g9⟩:=ca q0;have c5:=q5.cell (k:=0) rfl;simp only[Exit.inBlock,Exit.then];refine aP _ _ (ei ?_);clear aP;by_cases hp:r.pls.length=0
  case pos=>
   have hL:Hid (dh r a n=im r a n):=ad (by unfold dh;rw[if_pos hp]);generalize dh r a n=L at *
   generalize r.pls.length=np at *
   subst hp;gi_wp2_with fail;rw[acW]at du;refine⟨by simp, .inl ⟨_,_,rfl,run_takeDeferred du,?_⟩⟩;refine⟨_,results_tmp rfl _ _ _,v,rfl,?_,?_⟩
   ·rw[hL.out];exact fa aw fun g hg=>ι (by
     rcases uU g (mV g hg).1 with h|h<;>omega)
   ·exact⟨jD.os,jD.tape,jD.output,by simp;omega,fun k hk=>(ι (by omega)).trans (jD.block k hk)⟩
  case neg=>
   have zO:((r.pls.length:Int)==0)=false:=by simpa using hp
   have hL:Hid (dh r a n=ko r.pls (im r a n).length 0 (im r a n)):=ad (by unfold dh;rw[if_neg hp]);have zV:=DN r a n;have hC:Hid (∀W' x,Below w.heap.size w W'→Θ prog 218 #[δ a4 r.pls.length r.pls.length, V Z x] W' fun e w'=>e= .returned (.bool (r.pls.contains x))∧Below W'.heap.size W' w'):=ad fun W' x hb=>yE x (Cq.out.on hb) (by omega);clear Cq;rw[acW]at du;obtain⟨av,cv,rfl⟩:=th aw;generalize hFF:im r a n=F at *
   generalize dh r a n=L at *
   gi_wp2_with fail;clear g0 g1 g2 g3 g4 g5 g6 g7 g8 g9 c5 hFF;gi_loopg [7,27] F.length (fun k pv cv wr=>∃(i:Nat) (pre:List Int),i+k=F.length∧cv= V Z i∧Below W.heap.size W wr∧wr.ownsRow W.heap.size 106 3 pv pre.length (jd pre)∧pre.length≤i∧Hid (L=pre++ko r.pls F.length i (F.drop i)))
   case atStart=>exact⟨0,[],by omega,rfl,θ _ _,φ _ _ _ _,ζ _,ad (by rw[hL.out];rfl)⟩
   case round=>
    clear hL;obtain⟨i,pre,XF,rfl,dG,LH,alv,HL⟩:=hrel;have yJ:=(dG.block _ (by omega:w.heap.size+4<W.heap.size)).trans du;have YB:=dG.size;have GA:=jD.trans (dG.mono jD.size);by_cases hi:i=F.length
    case pos=>
     have HL':Hid (L=pre):=ad (by rw[HL.out,hi,List.drop_length,ko];simp);clear HL;subst hi;gi_wp2_with fail;refine⟨by simp, .inl ⟨_,_,rfl,run_takeDeferred yJ,?_⟩⟩;refine⟨_,results_tmp rfl _ _ _,u7,rfl,?_,?_⟩
     ·rw[HL'.out];refine sr (fa LH fun g hg=>ι ?_) (by omega);have:=(LH.lt g hg).1;omega
     ·exact⟨GA.os,GA.tape,GA.output,by simp;omega,fun k hk=>(ι (by omega)).trans (GA.block k hk)⟩
    case neg=>
     have wK:i<F.length:=by omega
     obtain⟨d,hd⟩:∃d,F[i]?=some d:=⟨_,List.getElem?_eq_getElem wK⟩;have aeW:=fa aw (w':=wr) fun g hg=>dG.block g (aw.lt g hg).2;obtain⟨gv,cap,LI,hgB,LJ,d0,d1,d2⟩:=O7 aeW hd;simp only[Value.slice.injEq]at LI;obtain⟨rfl,_,rfl⟩:=LI;have q0':=q0.on dG;have q5':=q5.on dG;have cj:Below wr.heap.size wr (wr.alloc (ε #[V Z (ae.ag d), V Z (ae.ofM d), V Z (ae.ar d)] 106)):=(θ wr.heap.size wr).alloc (ζ _) _;have hg7:=(q0'.on cj).cell (k:=7) rfl;have hg5:=(q5'.on cj).cell (k:=0) rfl;have cM:Hid _:=ad (SU (pls:=r.pls) (len:=F.length) hd);have r9:af (wr.alloc (ε #[V Z (ae.ag d), V Z (ae.ofM d), V Z (ae.ar d)] 106)) wr.heap.size (nU d) 106:=af.new wr (nU d) 106;have ha9:=ad (GA.trans (cj.mono GA.size));clear hd;gi_wp2_with fail;refine⟨trivial,rfl,(callsIn_wide.2 (hC.out _ _ ha9.out)).mono ?_⟩;rintro e W5 ⟨rfl,bk⟩;replace r9:=r9.on bk;have q07:=((q0'.on cj).on bk).cell (k:=7) rfl;have q05:=((q5'.on cj).on bk).cell (k:=0) rfl;have DP:=ad (dG.trans ((cj.trans (bk.mono (by simp))).mono (by omega)));have lK:=fa LH (w':=W5) fun g hg=>(bk.block g (by have:=(LH.lt g hg).2;simp;omega)).trans (cj.block g (LH.lt g hg).2);have SX:wr.heap.size<W5.heap.size:=r9.lt;clear hg7 hg5 d0 d1 d2 bk cj;generalize Cv:r.pls.contains ((i:Int)+1)=B1 at *
     clear Cv;cases B1
     case true=>
      obtain⟨c0,c1,c2,_,_,_⟩:=bV r9;gi_wp2_with fail;refine⟨trivial,?_⟩;gi_wp2_with (gi_at_builtin;refine Hid.out ?_);refine ad ?_;refine AF rfl (.tmp 46) (.tmp 48) 372 106 _ 3 24 rfl underlying372 Gz rfl (by decide) W.heap.size u7 pre.length (jd pre) rfl (lK.alloc _) (by simp;omega) W5.heap.size (nU d) rfl rfl (fun j u hj=>(af.new W5 (nU d) 106).cell hj) (by unfold nU;simp[Value.oneCell']) (by omega) (by decide) ?_;intro v' W6 dx AH yK;clear yK;have dr:=ad ((DP.out.alloc (by omega) _).grown AH (by simp;omega) (fun k hk=>(lK.lt k hk).1));gi_wp2_with fail;gi_roundg (gk - 1)
      case measure=>omega
      case rel=>exact⟨i+1,pre++[d],by omega,by go_num,dr.out,by rw[yI,ν];exact dx,by simp;omega,ad (by rw[HL.out,cM.out];simp)⟩
     case false=>
      have ahL:=ad (jD.trans (DP.out.mono jD.size));gi_wp2_with fail;refine⟨trivial,rfl,(callsIn_wide.2 (hC.out _ _ ahL.out)).mono ?_⟩;rintro e W7 ⟨rfl,nN⟩;replace r9:=r9.on nN;have acZ:=ad (DP.out.trans (nN.mono (by omega)));have QG:=fa lK (w':=W7) fun g hg=>nN.block g (lK.lt g hg).2;have hs7:=nN.size;clear q07 q05 nN DP;generalize SG:r.pls.contains ((i:Int) - F.length)=B2 at *
      clear SG;cases B2
      case true=>
       obtain⟨c0,c1,c2,_,_,_⟩:=bV r9;gi_wp2_with (gi_at_builtin;refine Hid.out ?_);refine ad ?_;refine AF rfl (.tmp 46) (.tmp 48) 372 106 _ 3 24 rfl underlying372 Gz rfl (by decide) W.heap.size u7 pre.length (jd pre) rfl (QG.alloc _) (by simp;omega) W7.heap.size (nU d) rfl rfl (fun j u hj=>(af.new W7 (nU d) 106).cell hj) (by unfold nU;simp[Value.oneCell']) (by omega) (by decide) ?_;intro v' W6 dx AH yK;clear yK;have dr:=ad ((acZ.out.alloc (by omega) _).grown AH (by simp;omega) (fun k hk=>(QG.lt k hk).1));gi_wp2_with fail;gi_roundg (gk - 1)
       case measure=>omega
       case rel=>exact⟨i+1,pre++[d],by omega,by go_num,dr.out,by rw[yI,ν];exact dx,by simp;omega,ad (by rw[HL.out,cM.out];simp)⟩
      case false=>
       gi_wp2_with fail;gi_roundg (gk - 1)
       case measure=>omega
       case rel=>exact⟨i+1,pre,by omega,by go_num,acZ.out,QG,by omega,ad (by rw[HL.out,cM.out];simp)⟩
end Go.Proofs.YthpndgcaoeokeaaGreatDoor
namespace Go.Proofs.YthpndgcaoeokeaaGreatDoor
open Tryz
theorem DQ (y:Int):ae.num y 1 1=cx y 1:=by unfold cx;simp
theorem SY (r:au)(s k:Int)(s0:0≤s)(s1:s≤84010)(k0:0≤k)(k1:k≤dW r):
 -400≤aE r s k∧aE r s k≤gq r s k∧gq r s k≤aE r s k+400∧gq r s k≤300000∧(aE r s k≤84010→k+100≤dW r):=by
 have hw:=pG (s+k * 7) r.ws;have hm:=gU s (by omega);have hy:=iJ s (by omega);obtain⟨n,rfl⟩:∃n:Nat,k=n:=⟨k.toNat,by omega⟩;have h1:=BO (ae.ag s) (ae.ofM s) n;have h2:=qv (ae.ag s) (ae.ofM s+n);have h3:=BO (ae.ag s) 1 (12 * n);have h4:=BO (ae.ag s) (1+(12 * n:Nat)) 12;have e0:=DQ (ae.ag s);have e1:ae.num (ae.ag s+n) 1 1=cx (ae.ag s) (1+(12 * n:Nat)):=by rw[DQ];exact nV (by omega)
 have e2:ae.num (ae.ag s+n+1) 1 1=cx (ae.ag s) (1+(12 * n:Nat)+(12:Nat)):=by rw[DQ];exact nV (by omega)
 unfold dW at *
 unfold aE gq;split
 ·rw[if_pos (by assumption)]at k1;omega
 ·rw[if_neg (by assumption)]at k1;split
  ·rw[if_pos (by assumption)]at k1;omega
  ·rw[if_neg (by assumption)]at k1;split
   ·rw[if_pos (by assumption)]at k1;omega
   ·rw[if_neg (by assumption)]at k1;rw[e1,e2];omega
theorem SZ (r:au)(s d:Int)(s0:0≤s)(s1:s≤d)(d1:d≤84010):0≤aH r s d∧aH r s d+100≤dW r:=by
 have hr:=gL s (by omega) (by omega);have hrd:=gL d (by omega) (by omega);have hwi:=pG s r.ws;have hle:ae.ag s≤ae.ag d:=yF (by omega) s1;have hlm:=Az (by omega) s1;have hs:1970≤ae.ag s:=by have:=yF (a:=0) (b:=s) (by omega) s0;have e:ae.ag 0=1970:=(by decide);omega
 have hd:ae.ag d≤2200:=by have:=yF (a:=d) (b:=84010) (by omega) d1;have e:ae.ag 84010=2200:=(by decide);omega
 unfold aH dW;split
 ·omega
 ·split
  ·omega
  ·split<;>omega
theorem IY (r:au)(ho:cX r)(s f:Int)(s0:0≤s)(s1:s≤7258118400)(f1:f≤7258118400):0≤iz r s f∧iz r s f+100≤dW r:=by
 have EU:=ho.Cs;unfold iz;split
 ·unfold dW;split<;>(try split)<;>(try split)<;>omega
 ·have h:=SZ r (s/86400) (f/86400) (by omega) (by omega) (by omega);have h1:=Int.emod_nonneg (aH r (s/86400) (f/86400)) (b:=r.iv) (by omega);have h2:=Int.mul_ediv_add_emod (aH r (s/86400) (f/86400)) r.iv;have h3:0≤aH r (s/86400) (f/86400)/r.iv:=Int.ediv_nonneg h.1 (by omega);have h4:0≤r.iv * (aH r (s/86400) (f/86400)/r.iv):=Int.mul_nonneg (by omega) h3;omega
def ed (r:au)(s k:Int):Nat:=(gq r s k - aE r s k).toNat
def qw (r:au)(s last:Int):Nat→Int→List Int
 |0,_=>[]
 |g+1,k=>if last<aE r s k * 86400 then[]else dh r (aE r s k) (ed r s k)++qw r s last g (k+r.iv)
def kq (r:au)(start from_ last:Int):List Int:=qw r (start/86400) last (dW r).toNat (iz r start from_)
theorem O8 (r:au)(s last:Int)(g:Nat)(k:Int)(h:last<aE r s k * 86400):qw r s last g k=[]:=by
 cases g with
 |zero=>rfl
 |succ g=>rw[qw,if_pos h]
theorem S1 (r:au)(s last:Int)(g:Nat)(k:Int)(h:¬last<aE r s k * 86400):qw r s last (g+1) k=dh r (aE r s k) (ed r s k)++qw r s last g (k+r.iv):=by
 rw[qw,if_neg h]
end Go.Proofs.YthpndgcaoeokeaaGreatDoor
