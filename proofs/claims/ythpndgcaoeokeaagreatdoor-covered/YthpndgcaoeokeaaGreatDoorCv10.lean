import Derived.Test.YthpndgcaoeokeaaGreatDoorCv9
import Derived.Test.YthpndgcaoeokeaaGreatDoorShelfC
set_option maxRecDepth 100000
set_option maxHeartbeats 16000000
open Go.IntKind renaming i64->Z
open Go.Value renaming int->V,pointer->ε,slice->ζ,string->η,oneCell'->ϋ,int->ϛ,ownBlock->Ϡ
open Go.Ending renaming returned->δ
open Go.Obj renaming cells->θ
open Go renaming World->ι,Calls->Β,Operand->ό,TypeId->ϙ,Act->Ϣ,Ending->ϣ,Oper->Ϥ
open Nat renaming le_refl->κ,lt_of_lt_of_le->ψ,reduceSub->ϗ,reduceAdd->Ϙ,zero_add->Ϛ,le_trans->ϥ,zero_le->Ϧ
open Go.RowKit.Below renaming refl->μ,heap_alloc->Α,heap_setCell->Γ
open List renaming getElem?_eq_getElem->ν,length_append->ξ,not_mem_nil->π,mem_cons->ρ,nodup_cons->υ,getElem?_append_right->φ,map_toArray->Δ,length_cons->Ε,nil_append->Ζ,pairwise_append->Ι,mem_of_getElem?->Κ,take_succ_cons->Λ,drop_succ_cons->Μ,append_toArray->Ν,map_cons->Ξ,filter_append->Ο,size_toArray->Υ,push_toArray->Φ,map_nil->Χ,length_take->Ψ,cons_append->Ω,length_nil->ϊ,take_zero->ύ,drop_zero->ώ,drop_eq_getElem_cons->Ϗ,take_add_one->Ϝ,getElem_take->ϝ,append_assoc->Ϟ,take_length->ϟ,append_nil->ϡ
open Option.some renaming inj->ο
open Go.World renaming putObj_heap_other->τ,ownsRow_nil->Ρ
open Go.Instr renaming fieldAt->χ,loadAt->Τ
open ByteArray renaming size_append->ω
open Array renaming replicate_zero->Η,replicate_succ->Θ
namespace Go.Proofs.YthpndgcaoeokeaaGreatDoor
open Tryz
open Go.RowKit
section
open Go.Sort
attribute [local go_sem] Oper.semAt_some
theorem Cn (p:Nat)(T:LT)(c h:Int)(x:aJ)(w:ι)(S:cU w p T c h)(hs:LT.eU T.aw)(sz:T.size<=400000)(hy:∃y∈T.aw,bM x y=0)(c0:-1000000<=c)(c1:c<=1000000):
 Β prog 220 #[ε (some ⟨p,0,none⟩),di x] w λE Y=>E=δ (.tuple #[])/\cU Y p (T.drop x) (c-1) h/\ak (λk=>k∈p::T.ax) w Y:=by
 have rx:=M.new w (bA x) 223;have al:Below w.heap.size w (w.alloc (θ (bA x).toArray 223)):=(μ _ _).alloc (κ _) _;have hI:cU (w.alloc (θ (bA x).toArray 223)) p T c h:=S.aL (O:=λ_=>False) (ak.ar al) (λ_ _ h=>h);have hn:=S.nd;rw[υ]at hn;unfold di at *
 unfold bA at *
 go_enter func220,ntmps220;go_upto_region 1 with fail;generalize(w.alloc (.cells [ϛ Z x.b,V Z x.e,η x.c,η x.u,V Z x.k].toArray 223))=W at *
 obtain⟨x0,x1,x2,x3,x4⟩:=mv (e:=x) rx;have k0:=hI.row.cell (k:=0) rfl;have HI:=H hI;have HB:=H al;have HC:=H (Ds x T W.drew (hI.tree.keep λ_ _=>rfl) hn.2 sz hs hy);unfold di bA at HC;clear hI al rx S;go_region_with (go_at_call 284;refine(HC.out).mono ?_;rintro E W4 ⟨hE,gd,bO⟩;obtain⟨px,gZ⟩:=(T.drop x).kI;rw[gZ]at hE;subst hE;have r4:=M.ex (show M W.drew p _ _ from HI.out.row) bO hn.1;have f4:=r4.free (k:=0);have c4:=r4.cell (k:=0) rfl)
 all_goals
  have xh:ak (λk=>k=p) W4 (W4.setCell ⟨p,0,none⟩ (.pointer px)):=(ak.refl (λk=>k=p) W4).st rfl _;have r5:=r4.set (k:=0) (.pointer px);have t5:=gd.aL xh (λk I e=>hn.1 (mJ x T p (e▸I)));have x5:ak (λk=>k∈p::T.ax) w (W4.setCell ⟨p,0,none⟩ (.pointer px)):=(((ak.ar HB.out).aM (ak.refl _ W).drew).trans bO λk I=>.inl (by simp[I])).st (by simp) _;generalize(W4.setCell ⟨p,0,none⟩ (.pointer px))=W5 at *
  have k1:=r5.cell (k:=1) rfl;have f1:=r5.free (k:=1);have R5:=H r5;have T5:=H t5;have X5:=H x5;clear r5 t5 x5 xh r4 f4 c4 gd bO HC x0 x1 x2 x3 x4 k0 HI HB;go_wp2_with fail;go_end0;have uq:ak (λk=>k=p) W5 (W5.setCell ⟨p,1,none⟩ (V Z (c-1))):=(ak.refl (λk=>k=p) W5).st rfl _;refine⟨rfl,⟨?_,T5.out.aL uq (λk I e=>hn.1 (mJ x T p (e▸I))),?_⟩,X5.out.trans uq λk I=>.inl (by simp[I])⟩
  ·have:=R5.out.set (k:=1) (V Z (c-1));unfold X0;rw[gZ];exact this
  rw[υ];exact⟨λI=>hn.1 (mJ x T p I),GO x T hn.2⟩
end
section
open Go.Sort
attribute [local go_sem] Oper.semAt_some
theorem TM {l:List aJ}{e:aJ}(h:LT.eU (l++[e])):LT.kr e (l++[e])=l:=by
 unfold LT.kr;rw[Ο];have G:l.filter (λy=>decide (bM e y≠0))=l:=List.filter_eq_self.2 λy hy=>by
  unfold LT.eU at h;rw[Ι]at h;exact decide_eq_true (LT.ne_of_gt (h.2.2 y hy e (by simp)))
 have A:[e].filter (λy=>decide (bM e y≠0))=[]:=by
  have:bM e e=0:=il.2 ⟨rfl,rfl,rfl⟩;simp[this]
 rw[G,A,ϡ]
def qK (t:Int)(es:List aJ):List aJ:=es.filter λe=>decide (e.b<t)
theorem aez {l r:List aJ}{e:aJ}(h:LT.eU (l++e::r)):∀x∈l,x.b<=e.b:=λx X=>by
 unfold LT.eU at h;rw[Ι]at h;exact(h.2.2 x X e (by simp)).b
theorem TN {t:Int}{atI R atB:List aJ}(h:atB=atI++R)(hS:∀x∈atI,x.b<t)(hR:∀x∈R,t<=x.b):atI=qK t atB:=by
 unfold qK;rw[h,Ο,List.filter_eq_self.2 (λx X=>decide_eq_true (hS x X)),List.filter_eq_nil_iff.2 (λx X=>by have:=hR x X;simp;omega),ϡ]
theorem Co {p:Nat}{T atI:LT}{R:List aJ}{c h t:Int}{w W:ι}(hI:cU W p atI c h)(hT:T.aw=atI.aw++R)(hS:∀x∈atI.aw,x.b<t)(hR:∀x∈R,t<=x.b)(hB:∀k∈atI.ax,k∈T.ax)(X:ak (λk=>k∈p::T.ax) w W):
 cU (W.setCell ⟨p,2,none⟩ (V Z t)) p atI c t/\atI.aw=qK t T.aw/\(∀k∈atI.ax,k∈T.ax)/\ak (λk=>k∈p::T.ax) w (W.setCell ⟨p,2,none⟩ (V Z t)):=by
 have hn:=hI.nd;rw[υ]at hn;have hs:ak (λk=>k=p) W (W.setCell ⟨p,2,none⟩ (V Z t)):=(ak.refl (λk=>k=p) W).st rfl _;exact⟨⟨hI.row.set (k:=2) _,hI.tree.aL hs (λk I e=>hn.1 (e▸I)),hI.nd⟩,TN hT hS hR,hB,X.trans hs λk I=>.inl (by simp[I])⟩
theorem Cp (p:Nat)(T:LT)(h t:Int)(w:ι)(S:cU w p T T.size h)(hs:LT.eU T.aw)(sz:T.size<=400000):
 Β prog 165 #[ε (some ⟨p,0,none⟩),V Z t] w λE Y=>E=δ (.tuple #[])/\∃T':LT,cU Y p T' T'.size t/\T'.aw=qK t T.aw/\(∀k∈T'.ax,k∈T.ax)/\ak (λk=>k∈p::T.ax) w Y:=by
 have HI:=H S;have HS:=H hs;clear S hs;go_enter func165,ntmps165;go_wp2_with fail;go_loopg [4] T.size (λk _ wr=>∃(atI:LT) (R:List aJ),atI.size<=k/\cU wr p atI atI.size h/\T.aw=atI.aw++R/\(∀x∈R,t<=x.b)/\(∀k∈atI.ax,k∈T.ax)/\ak (λk=>k∈p::T.ax) w wr)
 case atStart=>exact⟨T,[],κ _,HI.out,by simp,λ_ h=>(by cases h),λ_ h=>h,ak.refl _ _⟩
 case round=>
  obtain⟨atI,R,bp,hI,hT,hR,hS,X⟩:=hrel;have k0:=hI.row.cell (k:=0) rfl;have HI2:=H hI;cases N:atI.pH with
  |none=>
   have hn:=LT.Ab N;subst hn;have f2:=hI.row.free (k:=2);have k2:=hI.row.cell (k:=2) rfl;clear hI;simp only[oX]at k0;go_wp2_with fail;go_end0;exact⟨rfl,.nil,Co HI2.out hT (λ_ h=>by cases h) hR hS X⟩
  |some q=>
   obtain⟨b,e⟩:=q;have hn:∃pb,atI.ptr=ε (some pb):=by
    cases atI using LT.Ac with
    |nil=>cases N
    |node bs _ _ _=>exact⟨_,rfl⟩
   obtain⟨pb,Lm⟩:=hn;obtain⟨l,hle⟩:=LT.EN N;have HL:=H (X2 atI b e wr hI.tree N);rw[Lm]at k0 HL;have HT:=H hT;have HX:=H X;have HSB:=H hS;have HR:=H hR;have IK:LT.eU atI.aw:=by
    have:=HS.out;rw[hT]at this;unfold LT.eU at *
    exact(List.pairwise_append.1 this).1
   clear hI hT X hS hR;go_upto_region 2 with(go_at_call 221;refine(HL.out).mono ?_;rintro E W1 ⟨rfl,rfl,lv,rv,x,y,aB⟩;obtain⟨e0,e1,e2,e3,e4⟩:=EO aB;clear aB);have au:Below wr.heap.size wr (wr.alloc (θ (bA e).toArray 223)):=(μ _ _).alloc (κ _) _;have rx:=M.new wr (bA e) 223;have Pf:cU (wr.alloc (θ (bA e).toArray 223)) p atI atI.size h:=HI2.out.aL (O:=λ_=>False) (ak.ar au) (λ_ _ h=>h);have bz:ak (λk=>k∈p::T.ax) w (wr.alloc (θ (bA e).toArray 223)):=HX.out.alloc _;clear e0 e1 e2 e3 e4 HL au k0;unfold bA at *
   generalize(wr.alloc (.cells [ϛ Z e.b,V Z e.e,η e.c,η e.u,V Z e.k].toArray 223))=W1 at *
   obtain⟨e0,e1,e2,e3,e4⟩:=mv (e:=e) rx;have f2:=Pf.row.free (k:=2);have k2:=Pf.row.cell (k:=2) rfl;have HI1:=H Pf;have HX1:=H bz;by_cases aQ:e.b<t
   case pos=>
    clear Pf bz rx;go_wp2_with fail;go_end0;refine⟨rfl,atI,Co HI1.out HT.out (λx X=>?_) HR.out HSB.out HX1.out⟩;rw[hle]at X;rcases List.mem_append.1 X with h|h
    ·rw[hle]at IK;have:=aez IK x h;omega
    rw[List.mem_singleton.1 h];exact aQ
   case neg=>
    have amA:atI.size<=T.size:=by
     have:=congrArg List.length HT.out;rw[ξ,LT.cO,LT.cO]at this;omega
    have HD:=H (Cn p atI atI.size h e W1 Pf IK (by omega) ⟨e,by rw[hle];simp,il.2 ⟨rfl,rfl,rfl⟩⟩ (by omega) (by omega));unfold di bA at HD;clear Pf bz rx;go_wp2_with (go_at_call 220;refine(HD.out).mono ?_;rintro E W2 ⟨rfl,sj,dZ⟩);have hde:(atI.drop e).aw=l:=by rw[LT.sq e IK,hle];exact TM (hle▸IK)
    have hz:(atI.drop e).size+1=atI.size:=by rw[<-LT.cO,<-LT.cO,hde,hle];simp
    go_roundg (atI.drop e).size
    case measure=>omega
    case rel=>
     refine⟨atI.drop e,e::R,κ _,?_,?_,?_,λk I=>HSB.out k (mJ e atI k I),HX1.out.trans dZ λk I=>.inl ?_⟩
     ·rw[show((atI.drop e).size:Int)=atI.size-1 by omega];exact sj
     ·rw[hde,HT.out,hle];simp
     ·intro x X;rcases List.mem_cons.1 X with h|h
      ·rw[h];omega
      exact HR.out x h
     rcases List.mem_cons.1 I with h|h
     ·simp[h]
     simp[HSB.out k h]
end
section
theorem TO {f:FuncId}{ur:Func}{P:Program}(oE:P.funcs[f]?=some ur){g:ό}{ps:Array Tmp}{assign body:Code}{Q:Exit->Ϣ->ι->Prop}{a:Ϣ}{w:ι}
 {gf:Nat}{lb:Array Value}{Ok:List (Array Value)->Prop}(hg:a.eval g=.func (.func gf) #[] lb)(eg:∀args w,(callFunc gf args).run P w=.ok (.enter gf args) w)
 {R:aj}{w0:ι}(hit:qw P gf lb Ok R w0)(uu:w0.heap.size<=w.heap.size)(uv:∀k,R k->w.heap[k]?=w0.heap[k]?)(mK:∀k,R k->k<w.heap.size)
 (O:aj)(hO:∀k,O k->¬R k)(atF:List (Array Value)->aP)(Jx:Code->aP)(Jp:List PanicEntry->aP)(lJ:∀xs,Ok xs->∀x∈xs,x.size=ps.size)(h0:On O (atF []) w)
 (pI:∀(l:Nat) (i:List (Array Value)) (x:Array Value),(∃gA,Ok (i++x::gA))->∀(W:ι) (D:aj),ak O w W->w.heap.size+2<=W.heap.size->(∀k,O k->D k)->On D (atF i) W->
  ∀atH:Ϣ->ι->Prop,(∀a1 W1 D1,Below W.heap.size W W1->(∀k,D1 k->D k\/W.heap.size<=k)->(∀k,D k->D1 k)->(∀k,D1 k->k<W1.heap.size)->
   EP P O w body (atF (i++[x])) Jx Jp a1 D1 W1->atH a1 W1)->
  assign.wpIn (Fence.wide.inRound l) 0 P (Exit.then atH (λ_ _ _=>False)) {tmps:=(ps.zip x).foldl (λt (p,v)=>t.setIfInBounds p v) a.tmps,defers:=[]} W)
 (jS:∀(xs:List (Array Value)),Ok xs->∀(W:ι),aN O (w.heap.size+2) (atF xs) w W->w.heap.size+2<=W.heap.size->W.heap[w.heap.size]?=some (.deferred (some []))->Q .normal {a with defers:={target:=.collected w.heap.size,args:=#[]}::a.defers} W)
 (lx:∀(c:Code) (W:ι),aN O (w.heap.size+2) (Jx c) w W->w.heap.size+2<=W.heap.size->W.heap[w.heap.size]?=some (.deferred (some []))->c.wpIn Fence.wide 0 P Q {a with defers:={target:=.collected w.heap.size,args:=#[]}::a.defers} W)
 (oF:∀(c:List PanicEntry) (W:ι),aN O (w.heap.size+2) (Jp c) w W->w.heap.size+2<=W.heap.size->W.heap[w.heap.size]?=some (.deferred (some []))->Q (.panic c) {a with defers:={target:=.collected w.heap.size,args:=#[]}::a.defers} W):
 vD f P (Code.rangeFunc g ps assign body) Q a w:=by
 refine Pg oE hg eg hit uu uv mK O hO atF Jx Jp (λi x a1 D W=>EP P O w body (atF (i++[x])) Jx Jp a1 D W) lJ h0 ?_ ?_ jS lx oF
 ·intro l i x X W D he hs dV aG atH hK;refine pI l i x X W D he hs dV aG atH λa1 W1 D1 U G A K Ad=>hK a1 W1 D1 U G A ⟨K,λW2 I l' W3 cj=>Ad l' W3 λk hd=>(cj k hd).trans (I k hd)⟩
 intro l i x X a1 W D he hs dV aG;exact aG.out l W (λ_ _=>rfl) he hs
end
section
open Go.Sort
attribute [local go_sem] Oper.semAt_some
attribute [local go_sem] bG aV
attribute [local simp] bG aV
theorem X6:(prog.info? 223).map (λi=>(i.zero,i.size,i.bytes))=some (some (.agg #[V Z 0,V Z 0,η ⟨#[]⟩,η ⟨#[]⟩,V Z 0]),5,56):=by kernel_rfl
def vE (es:List aJ):List Value:=es.flatMap bA
theorem RD (es:List aJ)(e:aJ):vE (es++[e])=vE es++bA e:=by unfold vE;simp
theorem ym {w:ι}{B s:Nat}{e:ϙ}{v:Value}{n:Nat}{xs:List Value}(h:w.ownsRow B e s v n xs):
 (v=ζ none 0 0/\n=0)\/∃g cap,v=ζ (some ⟨g,0,none⟩) n cap/\B<=g/\g<w.heap.size/\∀j y,xs[j]?=some y->w.cell? ⟨g,j,none⟩=some y:=by
 obtain⟨N,h|⟨g,cap,cur,hv,U,hh,ID,Cl,bp,ht⟩⟩:=h
 ·exact .inl h
 refine .inr ⟨g,cap,hv,U,?_,λj y hj=>?_⟩
 ·exact(Array.getElem?_eq_some_iff.1 hh).1
 rw[<-ht]at hj;have A:=List.getElem?_eq_some_iff.1 hj;obtain⟨aQ,he⟩:=A;rw[Ψ]at aQ;rw[ϝ]at he;unfold World.cell?;rw[hh];simp only[Option.isSome_none,Bool.false_eq_true,if_false];rw[Array.getElem?_eq_getElem (by have:=ψ aQ (Nat.min_le_right _ _);rw[Array.length_toList]at this;simpa using this)];rw[<-he];rfl
theorem oY:∀(L:List aJ) (k i:Nat) (h:k<L.length),i<5->(vE L)[k*5+i]?=(bA L[k])[i]?
 |e::r,0,i,_,S=>by
  show(bA e++vE r)[0*5+i]?=_;rw[List.getElem?_append_left (by simpa[bA]using S)];simp
 |e::r,k+1,i,h,S=>by
  show(bA e++vE r)[(k+1)*5+i]?=_;rw[φ (by simp[bA];omega),show(k+1)*5+i-(bA e).length=k*5+i by simp[bA];omega,oY r k i (by simpa using h) S];rfl
theorem X7 {w:ι}{B:Nat}{v:Value}{L:List aJ}(h:w.ownsRow B 223 5 v L.length (vE L)){k:Nat}{e:aJ}(I:L[k]?=some e):
 ∃g cap,v=ζ (some ⟨g,0,none⟩) L.length cap/\w.cell? ⟨g,k*5,none⟩=some (V Z e.b)/\w.cell? ⟨g,k*5+1,none⟩=some (V Z e.e)/\w.cell? ⟨g,k*5+2,none⟩=some (η e.c)/\w.cell? ⟨g,k*5+3,none⟩=some (η e.u)/\w.cell? ⟨g,k*5+4,none⟩=some (V Z e.k):=by
 obtain⟨N,rfl⟩:=List.getElem?_eq_some_iff.1 I;rcases ym h with⟨rfl,h0⟩|⟨g,cap,rfl,_,hg,hc⟩
 ·omega
 exact⟨g,cap,rfl,hc _ _ (oY L k 0 N (by decide)),hc _ _ (oY L k 1 N (by decide)),hc _ _ (oY L k 2 N (by decide)),hc _ _ (oY L k 3 N (by decide)),hc _ _ (oY L k 4 N (by decide))⟩
def AJ (b4 b6 atE:Nat)(room:Nat)(xs:List (Array Value)):aP:=λD W=>
 ∃es:List aJ,xs=dF es/\tg b6 275 223 5 atE es.length (vE es) D W/\D b4/\M W b4 [.bool false] 4/\es.length<=room
theorem yn (a b:List aJ):dF (a++b)=dF a++dF b:=by unfold dF;simp
theorem Ln {x y:aJ}(h:(#[di x]:Array Value)=#[di y]):x=y:=by
 obtain⟨x1,x2,x3,x4,x5⟩:=x;obtain⟨y1,y2,y3,y4,y5⟩:=y;unfold di bA at h;simp at h;obtain⟨G,A,K,h4,h5⟩:=h;subst G A K h4 h5;rfl
theorem uw:∀{a b:List aJ},dF a=dF b->a=b
 |[],[],_=>rfl
 |[],_::_,h=>by cases h
 |_::_,[],h=>by cases h
 |x::a,y::b,h=>by
  have h':#[di x]::dF a=#[di y]::dF b:=h;injection h' with G A
  rw[Ln G,uw A]
theorem yo:∀{es fs:List aJ} {x:Array Value} {gA:List (Array Value)},dF es++x::gA=dF fs->∃e r,fs=es++e::r/\x=#[di e]
 |[],[],_,_,h=>by cases h
 |[],e::r,_,_,h=>by
  have h':=List.cons.inj (show _::_=#[di e]::dF r from h);exact⟨e,r,rfl,h'.1⟩
 |_::_,[],_,_,h=>by cases h
 |a::es,b::fs,x,gA,h=>by
  have h':#[di a]::(dF es++x::gA)=#[di b]::dF fs:=h;injection h' with G A
  obtain⟨e,r,rfl,X⟩:=yo A;exact⟨e,r,by rw[Ln G];rfl,X⟩
theorem Cq {b:Nat}{x:Bool}{w:ι}(h:w.cell? ⟨b,0,none⟩=some (.bool x)):(loadVar 4 ⟨b,0,none⟩).run prog w=.ok (.bool x) w:=by
 simp[loadVar,go_sem,h]
theorem Dt {x y:aJ}(h:bM x y≠0):bM y x≠0:=λe=>h (by
 obtain⟨a,b,c⟩:=il.1 e;exact il.2 ⟨a.symm,b.symm,c.symm⟩)
theorem aaF {es:List aJ}(J:es.Pairwise λx y=>bM x y≠0){j:Nat}{e:aJ}(he:es[j]?=some e):∀y∈es.take j,bM e y≠0:=λy hy=>by
 obtain⟨i,S,rfl⟩:=List.getElem_of_mem hy;rw[Ψ]at S;obtain⟨N,rfl⟩:=List.getElem?_eq_some_iff.1 he;rw[ϝ];exact Dt (List.pairwise_iff_getElem.1 J i j (by omega) N (by omega))
theorem X8 {es:List aJ}{T atI:LT}{j:Nat}{e:aJ}{nb:Nat}(he:es[j]?=some e)(J:es.Pairwise λx y=>bM x y≠0)(hT:∀x∈es,∀y∈T.aw,bM x y≠0)(hS:LT.eU atI.aw)(hP:atI.aw.Perm (es.take j++T.aw)):
 LT.eU (atI.put nb e).aw/\(atI.put nb e).aw.Perm (es.take (j+1)++T.aw):=by
 rw[LT.Du nb e hS];refine⟨LT.Lo hS λy hy=>?_,?_⟩
 ·rcases List.mem_append.1 (hP.mem_iff.1 hy)with h|h
  ·exact aaF J he y h
  exact hT e (Κ he) y h
 rw[Ϝ,he];refine(LT.Ae e atI.aw).trans ((hP.cons e).trans ?_);show(e::(es.take j++T.aw)).Perm ((es.take j++[e])++T.aw);rw[Ϟ];exact List.perm_middle.symm
def ER (Q:Exit->Ϣ->ι->Prop):Exit->Ϣ->ι->Prop
 | .normal,a,w=>Q .normal a w
 |_,_,_=>False
theorem Lp (Q:Exit->Ϣ->ι->Prop):∀e a w,ER Q e a w->Q e a w:=λe a w h=>by
 cases e<;>first|exact h|exact h.elim
def amB (p:Nat)(T:LT)(h:Int)(lK:List aJ->Prop)(w:ι):ϣ->ι->Prop:=λE Y=>
 (∃es T',lK es/\es.length+T.size<=500/\E=δ (.bool true)/\cU Y p T' T'.size h/\LT.eU T'.aw/\T'.aw.Perm (es++T.aw)/\(∀k∈T'.ax,k∈T.ax\/w.heap.size<=k)/\ak (λk=>k∈p::T.ax) w Y)\/
 ((∃es,lK es/\500<es.length+T.size)/\E=δ (.bool false)/\Below w.heap.size w Y)
theorem Ph (p:Nat)(T:LT)(h:Int)(g:Nat)(lb:Array Value)(lK:List aJ->Prop)(R:aj)(w:ι)(S:cU w p T T.size h)(hs:LT.eU T.aw)(hc:T.size<=500)
 (hit:qw prog g lb (λxs=>∃es,lK es/\xs=dF es) R w)(hR:∀k,R k->k<w.heap.size)(eg:∀args w,(callFunc g args).run prog w=.ok (.enter g args) w)
 (hd:∀es,lK es->es.Pairwise (λx y=>bM x y≠0)/\∀x∈es,∀y∈T.aw,bM x y≠0):
 Β prog 166 #[ε (some ⟨p,0,none⟩),.func (.func g) #[] lb] w (amB p T h lK w):=by
 have k1:=S.row.cell (k:=1) rfl;have aqW:=S.row.lt;have RE:=S.tree.lt;have HI:=H S;clear S;refine(callsIn_wide (n:=0)).1 ?_;refine dr func166 rfl ?_;simp only[ntmps166,Υ,Ε,ϊ,Ϙ,ϗ,Θ,Η,Φ,Ν,Ζ,Ω];refine bK λatH hK=>bQ ?_;gi_wp2_with fail;refine bK λatH hK=>bQ ?_;gi_wp2_with fail;refine bK λatH hK=>bQ ?_;gi_wp2_with fail;have r4:=lL w [.bool false] 4 (θ #[V Z (500-(T.size:Int))] 3) (θ #[ζ none 0 0] 275);have r5:=lM w (θ #[.bool false] 4) [V Z (500-(T.size:Int))] 3 (θ #[ζ none 0 0] 275);have r6:=lN w (θ #[.bool false] 4) (θ #[V Z (500-(T.size:Int))] 3) [ζ none 0 0] 275;have bh:=iD w (θ #[.bool false] 4) (θ #[V Z (500-(T.size:Int))] 3) (θ #[ζ none 0 0] 275);have hz:(((w.alloc (θ #[.bool false] 4)).alloc (θ #[V Z (500-(T.size:Int))] 3)).alloc (θ #[ζ none 0 0] 275)).heap.size=w.heap.size+3:=by simp
 replace hz:=H hz;generalize(((w.alloc (θ #[.bool false] 4)).alloc (θ #[V Z (500-(T.size:Int))] 3)).alloc (θ #[ζ none 0 0] 275))=W0 at *
 have hI0:Hid (cU W0 p T T.size h):=H (HI.out.aL (O:=λ_=>False) (ak.ar bh) (λ_ _ h=>h));clear k1 HI;refine bK λK1 eM=>?_;refine bK λatH hK=>bQ ?_;gi_wp2_with fail;refine gB ?_;have oV:w.heap.size+3<=W0.heap.size:=by have:=hz.out;omega
 generalize cu:w.heap.size=b4 at *
 refine TO (gf:=g) (lb:=lb) func166 ?g eg hit (by omega) (λk I=>bh.block k (hR k I)) (λk I=>by have:=hR k I;omega)
  (λk=>k=b4\/k=b4+1+1) (λk I cj=>by have:=hR k cj;omega) (AJ b4 (b4+1+1) W0.heap.size (500-T.size)) (λc D W=>c=.ret/\D b4/\M W b4 [.bool false] 4/\∃es,lK es/\500<es.length+T.size) (λ_ _ _=>False) ?ps ?start ?round ?done ?stop ?pan
 case g=>rfl
 case ps=>rintro xs ⟨es,_,rfl⟩ x X;obtain⟨b,_,rfl⟩:=List.mem_map.1 X;rfl
 case start=>
  have G:On (λk=>k=b4\/k=b4+1+1) (tg (b4+1+1) 275 223 5 W0.heap.size 0 []) W0:=tg.cL (λk I=>by omega) ⟨.inr rfl,ζ none 0 0,r6,λk I=>by simp[Ϡ]at I,Ρ _ _ _ _⟩;exact⟨G.1,λW2 I=>⟨[],rfl,G.2 W2 I,.inl rfl,r4.keep (I _ (.inl rfl)),by simp⟩⟩
 case pan=>
  rintro c W4 ⟨X,D,cD,_,aG⟩ hs bI;exact aG.out.elim
 case stop=>
  rintro c W4 ⟨X,D,cD,_,aG⟩ hs bI;obtain⟨rfl,Lq,q4,aeB⟩:=aG.out;have th:=bh.trans (X.below (B:=b4) (by omega) (λk I=>by omega));gi_wp2_with fail;refine⟨by simp,.inl ⟨_,_,rfl,run_takeDeferred bI,?_⟩⟩;have zo:M (W4.putObj W0.heap.size (.deferred none)) b4 [.bool false] 4:=(τ (by omega)).trans q4;refine⟨_,pJ results166 rfl (Cq (zo.cell (k:=0) rfl)),.inr ⟨aeB,rfl,?_⟩⟩;rw[cu];exact⟨th.os,th.tape,th.output,by simp;omega,λk I=>(τ (by omega)).trans (th.block k I)⟩
 case done=>
  rintro xs ⟨es,cI,rfl⟩ W4 ⟨X,D,cD,_,aG⟩ ES bI;obtain⟨es',IL,⟨ET,v,q6,gg,aU⟩,Lq,q4,hle⟩:=aG.out;have pK:=uw IL;subst pK;obtain⟨hdp,hdT⟩:=hd es cI;have th:=bh.trans (X.below (B:=b4) (by omega) (λk I=>by omega));simp only[Exit.inBlock,Exit.then];refine eM _ _ (bQ (wpIn_wide.2 ?_));obtain⟨va,vc,hv⟩:=nZ aU;subst hv;have c6:=q6.cell (k:=0) rfl;have hI4:cU W4 p T T.size h:=hI0.out.aL X (λk I h=>by
   rcases List.mem_cons.1 I with rfl|I
   ·omega
   have:=RE k I;omega)
  clear eM aG hit;go_wp2_with fail;have HV:=H gg;have HO:=H aU;have HI4:=H hI4;have HS:=H hs;have HDP:=H hdp;have HDT:=H hdT;clear gg aU hI4 c6 hs hdp hdT hd;go_loopg [27,9] es.length (λk v27 _ wr=>∃(j:Nat) (atI:LT),j+k=es.length/\v27=V Z j/\cU wr p atI T.size h/\LT.eU atI.aw/\atI.aw.Perm (es.take j++T.aw)/\(∀k∈atI.ax,k∈T.ax\/W4.heap.size<=k)/\ak (λk=>k∈p::T.ax) W4 wr)
  case atStart=>exact⟨0,T,by omega,rfl,HI4.out,HS.out,by simp,λ_ h=>.inl h,ak.refl _ _⟩
  case round=>
   obtain⟨j,atI,hjk,rfl,Cr,Lr,hSP,EU,Ls⟩:=hrel;have bp:atI.size=min j es.length+T.size:=by
    have:=hSP.length_eq;rw[ξ,Ψ,LT.cO,LT.cO]at this;omega
   have Af:∀k,W0.heap.size<=k\/k=b4\/k=b4+1+1->¬k∈p::T.ax:=λk I h=>by
    rcases List.mem_cons.1 h with rfl|h
    ·omega
    have:=RE k h;omega
   have ly:=eO HO.out (Y:=wr) λg hg=>Ls.block g (HO.out.lt g hg).2 (Af g (.inl (HO.out.lt g hg).1));by_cases hj:j<es.length
   case pos=>
    have he:=ν hj;generalize es[j]=e at he;obtain⟨gb,cap,amC,x0,x1,x2,x3,x4⟩:=X7 ly he;injection amC with hv1 hv2 Lt
    subst hv1 Lt;have hj':(j:Int)<es.length:=by omega
    clear ly;go_upto_region 11 with fail;have bJ:Below wr.heap.size wr (wr.alloc (θ (bA e).toArray 223)):=(μ _ _).alloc (κ _) _;have rx:=M.new wr (bA e) 223;have Lu:cU (wr.alloc (θ (bA e).toArray 223)) p atI T.size h:=Cr.aL (O:=λ_=>False) (ak.ar bJ) (λ_ _ h=>h);have fV:ak (λk=>k∈p::T.ax) W4 (wr.alloc (θ (bA e).toArray 223)):=Ls.alloc _;have RF:W4.heap.size<=(wr.alloc (θ (bA e).toArray 223)).heap.size:=fV.size;clear x0 x1 x2 x3 x4 bJ Cr Ls;unfold bA at rx Lu fV RF;generalize(wr.alloc (.cells [ϛ Z e.b,V Z e.e,η e.c,η e.u,V Z e.k].toArray 223))=W5 at *
    obtain⟨x0,x1,x2,x3,x4⟩:=mv (e:=e) rx;have k0:=Lu.row.cell (k:=0) rfl;have hn:=Lu.nd;rw[υ]at hn;have HI5:=H Lu;have HX5:=H fV;have HC:=H (GQ e atI W5.drew (Lu.tree.keep λ_ _=>rfl) hn.2 (by omega));have aqT:p<W5.heap.size:=Lu.row.lt;unfold di bA at HC;clear Lu fV rx;refine wp_mono (Q:=ER _) ?_ (Lp _);go_region_with (go_at_call 222;refine(HC.out).mono ?_;rintro E W6 ⟨nb,hE,zp,ji,jT⟩;obtain⟨px,gZ⟩:=(atI.put nb e).kI;rw[gZ]at hE;subst hE;have r7:=M.ex (show M W5.drew p _ _ from HI5.out.row) jT hn.1;have f7:=r7.free (k:=0);have c7:=r7.cell (k:=0) rfl)
    all_goals
     have RG:W5.heap.size<=nb:=ji;have Pj:ak (λk=>k=p) W6 (W6.setCell ⟨p,0,none⟩ (.pointer px)):=(ak.refl (λk=>k=p) W6).st rfl _;have mem:∀k,k∈(atI.put nb e).ax↔k=nb\/k∈atI.ax:=λk=>by rw[(LT.ny nb e atI).mem_iff,ρ]
     have hpn:¬p∈(atI.put nb e).ax:=λh=>by
      rcases(mem p).1 h with h|h
      ·omega
      exact hn.1 h
     have TP:cU (W6.setCell ⟨p,0,none⟩ (.pointer px)) p (atI.put nb e) T.size h:=⟨by unfold X0;rw[gZ];exact r7.set (k:=0) _,zp.aL Pj (λk I e=>hpn (e▸I)),by
      rw[υ];refine⟨hpn,?_⟩;rw[(LT.ny nb e atI).nodup_iff,υ];exact⟨λh=>by have:=HI5.out.tree.lt nb h;omega,hn.2⟩⟩
     have iJ:ak (λk=>k∈p::T.ax) W4 (W6.setCell ⟨p,0,none⟩ (.pointer px)):=((HX5.out.aM (ak.refl _ W5).drew).trans jT λk I=>by
      rcases EU k I with h|h
      ·exact .inl (by simp[h])
      exact .inr h).st (by simp) _
     clear r7 f7 c7 jT zp HC x0 x1 x2 x3 x4 k0 Pj;generalize(W6.setCell ⟨p,0,none⟩ (.pointer px))=W7 at *
     obtain⟨m1,m2⟩:=X8 (nb:=nb) he HDP.out HDT.out Lr hSP;have HI7:=H TP;have Cs:=H iJ;clear TP iJ;simp only[ER];go_wp2_with fail;go_roundg (gk-1)
     case measure=>omega
     case rel=>
      refine⟨j+1,atI.put nb e,by omega,by simp,HI7.out,m1,m2,λk I=>?_,Cs.out⟩;rcases(mem k).1 I with h|h
      ·exact .inr (by omega)
      exact EU k h
   case neg=>
    have hj':¬(j:Int)<es.length:=by omega
    have hje:j=es.length:=by omega
    have q6':=q6.ex Ls (Af _ (.inr (.inr rfl)));have zo:=q4.ex Ls (Af _ (.inr (.inl rfl)));have pL:wr.heap[W0.heap.size]?=some (.deferred (some [])):=(Ls.block _ (by omega) (Af _ (.inl (κ _)))).trans bI;have c6:=q6'.cell (k:=0) rfl;have c4:=zo.cell (k:=0) rfl;have f4:=zo.free (k:=0);have k1:=Cr.row.cell (k:=1) rfl;have f1:=Cr.row.free (k:=1);have HIS:=H Cr;clear ly Cr;go_upto_region 13 with fail;refine wp_mono (Q:=ER _) ?_ (Lp _);go_region_with fail
    all_goals
     rw[show IntKind.i64.wrap ((T.size:Int)+es.length)=(T.size:Int)+es.length from gN (by omega) (by omega)];simp only[ER];have IK:(atI.size:Int)=T.size+es.length:=by omega
     have Pj:ak (λk=>k=p) wr (wr.setCell ⟨p,1,none⟩ (V Z ((T.size:Int)+es.length))):=(ak.refl (λk=>k=p) wr).st rfl _;have r7:=HIS.out.row.set (k:=1) (V Z ((T.size:Int)+es.length));have hn:=HIS.out.nd;rw[υ]at hn;have TP:cU (wr.setCell ⟨p,1,none⟩ (V Z ((T.size:Int)+es.length))).drew p atI atI.size h:=⟨by rw[IK];exact r7,(HIS.out.tree.aL Pj (λk I e=>hn.1 (e▸I))).keep λ_ _=>rfl,HIS.out.nd⟩;have iJ:ak (λk=>k∈p::T.ax) W4 (wr.setCell ⟨p,1,none⟩ (V Z ((T.size:Int)+es.length))).drew:=(Ls.st (by simp) _).drew;clear c6 c4 f4 k1 f1 zo q6' pL r7 Pj;generalize(wr.setCell ⟨p,1,none⟩ (V Z ((T.size:Int)+es.length))).drew=W7 at *
     have zo:=q4.ex iJ (Af _ (.inr (.inl rfl)));have pL:W7.heap[W0.heap.size]?=some (.deferred (some [])):=(iJ.block _ (by omega) (Af _ (.inl (κ _)))).trans bI;have c4:=zo.cell (k:=0) rfl;have f4:=zo.free (k:=0);have HI7:=H TP;have Cs:=H iJ;clear TP iJ;go_wp2_with fail;have hz7:=Cs.out.size;have aiD:∀k,k≠b4->k≠W0.heap.size->((W7.setCell ⟨b4,0,none⟩ (.bool true)).putObj W0.heap.size (.deferred none)).heap[k]?=W7.heap[k]?:=λk G A=>(τ A).trans (Γ _ _ _ _ G);have q9:M ((W7.setCell ⟨b4,0,none⟩ (.bool true)).putObj W0.heap.size (.deferred none)) b4 [.bool true] 4:=(τ (by omega)).trans (zo.set (k:=0) (.bool true));refine⟨by simp,.inl ⟨_,_,rfl,run_takeDeferred ((Γ _ _ _ _ (show W0.heap.size≠b4 by omega)).trans pL),?_⟩⟩;refine⟨_,pJ results166 rfl (Cq (q9.cell (k:=0) rfl)),.inl ⟨es,atI,cI,by omega,rfl,HI7.out.keep (λk I=>aiD k ?_ ?_),Lr,?_,λk I=>?_,?_⟩⟩
     ·rcases List.mem_cons.1 I with rfl|I
      ·omega
      rcases EU k I with h|h
      ·have:=RE k h;omega
      omega
     ·rcases List.mem_cons.1 I with rfl|I
      ·omega
      rcases EU k I with h|h
      ·have:=RE k h;omega
      omega
     ·rw[hje,ϟ]at hSP;exact hSP
     ·rcases EU k I with h|h
      ·exact .inl h
      exact .inr (by omega)
     have e1:ak (λk=>k∈p::T.ax) w W4:=ak.ar (cu.symm▸th);exact((e1.aM Cs.out).setCell (.inr (by show w.heap.size<=b4;omega)) _).put (.inr (by omega)) _
 case round=>
  intro Ct pre x X W4 D zq ES dV aG atH hK;obtain⟨es,rfl,⟨_,_⟩⟩:=aG.out;obtain⟨gA,fs,cI,hfs⟩:=X;obtain⟨e,r,rfl,rfl⟩:=yo hfs;clear hfs;unfold di bA;gi_wp2_with fail;have fO:Below W4.heap.size W4 (W4.alloc (θ (bA e).toArray 223)):=(μ _ _).alloc (κ _) _;refine hK _ _ (λk=>D k\/k=W4.heap.size) fO (λk I=>I.imp id λh=>by omega) (λk I=>.inl I) (λk I=>I.elim (λh=>by have:=aG.1 k h;simp;omega) (λh=>by simp;omega)) ?_;intro l' W2 fG bL oZ;have q7:=(M.new W4 (bA e) 223).keep (fG _ (.inr rfl));have ea:=aG.on (W':=W2) λk I=>(fG k (.inl I)).trans (fO.block k (aG.1 k I));have df:¬D W4.heap.size:=λh=>by have:=aG.1 _ h;omega
  clear hK fG hit eM fO aG;obtain⟨es',IL,⟨ET,v,q6,gg,aU⟩,Lq,q4,hle⟩:=ea.out;have pK:=uw IL;subst pK;have dN:∀k,D k\/k=W4.heap.size->k<W2.heap.size:=λk I=>I.elim (ea.1 k) (λh=>by have:=q7.lt;omega);have q5:=r5.aL bL (show¬(b4+1=b4\/b4+1=b4+1+1) by omega);have zr:∀k,v.ownBlock=some k->k≠b4:=λk I=>by have:=(aU.lt k I).1;omega
  obtain⟨va,vc,rfl⟩:=nZ aU;have c5:=q5.cell (k:=0) rfl;have c6:=q6.cell (k:=0) rfl;have f6:=q6.free (k:=0);have c4:=q4.cell (k:=0) rfl;have f4:=q4.free (k:=0);obtain⟨x0,x1,x2,x3,x4⟩:=mv (e:=e) q7;by_cases RH:es.length=500-T.size
  case pos=>
   have kJ:(es.length:Int)=500-(T.size:Int):=by omega
   gi_wp2_with fail;show aN _ _ _ _ _;refine⟨(ak.refl _ _).setCell (.inl (.inl Lq)) _,λk=>D k\/k=W4.heap.size,λk I=>.inl I,λk I=>I,λk I=>by rw[World.size_setCell];exact dN k I,λW5 I=>⟨rfl,.inl Lq,((q4.set (k:=0) (.bool false)).keep (I b4 (.inl Lq))),_,cI,?_⟩⟩;rw[ξ,Ε];omega
  case neg=>
   have kJ:¬(es.length:Int)=500-(T.size:Int):=by omega
   gi_wp2_with (gi_at_builtin;refine Hid.out ?_);refine H ?_;have hzA:W0.heap.size<=W2.heap.size:=by omega
   refine xi rfl (.tmp 21) (.tmp 23) 275 223 _ 5 56 rfl underlying275 X6 rfl (by decide) W0.heap.size _ _ _ rfl (aU.alloc _) (by simp;omega) W2.heap.size (bA e) rfl rfl (λj u hj=>(M.new W2 (bA e) 223).cell hj) (by simp[bA,ϋ]) (by omega) (by decide) ?_;intro v' W6 nA ux qL;obtain⟨g6,amD,rfl⟩:=nZ nA;replace qL:=H qL;have cE:=(μ W2.heap.size W2).alloc (κ _) (θ (bA e).toArray 223);have z6:=q6.on cE;have z4:=q4.on cE;have z6':M W6 (b4+1+1) _ 275:=(ux.block _ z6.lt (λe=>(gg _ e.symm).2 rfl)).trans z6;have z4':M W6 b4 _ 4:=(ux.block _ z4.lt (λe=>zr _ e.symm rfl)).trans z4;clear c4 c5 c6 f4 f6 x0 x1 x2 x3 x4;have c6:=z6'.cell (k:=0) rfl;have f6:=z6'.free (k:=0);gi_wp2_with fail;have eY:=Dv (D1:=λk=>D k\/k=W4.heap.size) (W2:=W2) (p:=b4+1+1) (T:=275) dN (.inl ET) ((ak.refl _ _).alloc _) z6 (λk I=>⟨.inl (gg k I).1,(gg k I).2⟩) ux qL.out nA;show aN _ _ _ _ _;obtain⟨px,D',p1,p2,p3⟩:=eY;have amE:∀u,M (W6.setCell ⟨b4+1+1,0,none⟩ u) b4 _ 4:=λu=>(Γ _ _ _ _ (show b4≠b4+1+1 by omega)).trans z4';refine⟨px,D',p1,p2,p3.1,λW7 I=>⟨es++[e],by rw[yn];rfl,?_,p2 _ (.inl Lq),(amE _).keep (I _ (p2 _ (.inl Lq))),?_⟩⟩
   ·rw[RD,ξ];exact p3.2 W7 I
   rw[ξ,List.length_singleton];omega
end
section
open Go.Sort
attribute [local go_sem] Oper.semAt_some
attribute [local go_sem] bG aV
attribute [local simp] bG aV
def eD (tr:Bool)(k:Int):Int:=if tr=true\/k=2 then 0 else if k=1 then 1 else 2
theorem Lv (u:ByteArray)(st ln:Int)(hr:Bool)(r:aC)(m md wk pl:Value)(tx:ByteArray)(aI aH:Value)(tr:Bool)(k:Int)(w:ι)(G:∃a n c,m=ζ a n c)(A:∃a n c,md=ζ a n c)(K:∃a n c,wk=ζ a n c)(h4:∃a n c,pl=ζ a n c)(h5:∃a n c,aI=ζ a n c)(h6:∃a n c,aH=ζ a n c):
 Β prog 174 #[.agg (cF u st ln hr r m md wk pl tx aI aH tr k).toArray] w λe Y=>e=δ (V Z (eD tr k))/\Below w.heap.size w Y:=by
 obtain⟨a1,n1,c1,rfl⟩:=G;obtain⟨a2,n2,c2,rfl⟩:=A;obtain⟨a3,n3,c3,rfl⟩:=K;obtain⟨a4,n4,c4,rfl⟩:=h4;obtain⟨a5,n5,c5,rfl⟩:=h5;obtain⟨a6,n6,c6,rfl⟩:=h6;have U:Below w.heap.size w (w.alloc (θ (cF u st ln hr r (ζ a1 n1 c1) (ζ a2 n2 c2) (ζ a3 n3 c3) (ζ a4 n4 c4) tx (ζ a5 n5 c5) (ζ a6 n6 c6) tr k).toArray 79)):=(μ _ _).alloc (κ _) _;unfold cF at *
 cases tr
 case true=>
  rw[show eD true k=0 from if_pos (.inl rfl)];go_enter func174,ntmps174;go_wp2_with fail;go_ret;exact⟨rfl,U⟩
 case false=>
  by_cases k2:k=2
  ·subst k2;rw[show eD false 2=0 from rfl];go_enter func174,ntmps174;go_wp2_with fail;go_ret;exact⟨rfl,U⟩
  by_cases k1:k=1
  ·subst k1;rw[show eD false 1=1 from rfl];go_enter func174,ntmps174;go_wp2_with fail;go_ret;exact⟨rfl,U⟩
  have e2:(k==2)=false:=by simp[k2]
  have e1:(k==1)=false:=by simp[k1]
  rw[show eD false k=2 by unfold eD;rw[if_neg (by simp[k2]),if_neg k1]];clear k1 k2;go_enter func174,ntmps174;go_wp2_with fail;go_ret;exact⟨rfl,U⟩
def mL (c u:ByteArray)(ln kd:Int)(bs:List Int):List aJ:=bs.map λb=>⟨b,b+ln,c,u,kd⟩
theorem RI {c u:ByteArray}{ln kd:Int}{bs:List Int}{i:Nat}{b:Int}(h:bs[i]?=some b):(mL c u ln kd bs)[i]?=some ⟨b,b+ln,c,u,kd⟩:=by unfold mL;rw[List.getElem?_map,h];rfl
theorem yp (c u:ByteArray)(ln kd:Int)(bs:List Int):(mL c u ln kd bs).length=bs.length:=by unfold mL;simp
end
section
open Go.Sort
attribute [local go_sem] Oper.semAt_some
attribute [local go_sem] bG aV
attribute [local simp] bG aV
def qM (kc ku:ByteArray)(ln:Int)(tr:Bool)(k:Int)(bs:List Int):List aJ:=if eD tr k=0 then[]else mL kc ku ln (eD tr k) bs
theorem RJ (kc ku:ByteArray)(u:ByteArray)(st ln:Int)(hr:Bool)(r:aC)(m md wk pl:Value)(tx:ByteArray)(aI aH:Value)(ex xt:List Int)(tr:Bool)(k:Int)(f to:Int)(be bf bt bk:Nat)(w:ι)(N:kt w hr r m md wk pl aI aH ex xt)
 (s0:0<=st)(s1:st<=7258118400)(l0:0<=ln)(l1:ln<=10000000)(f0:-1000000000000<=f)(f1:f<=7258118400)(t0:0<=to)(t1:to<=7258118400)(o4:∀t∈ff hr r st f to ex xt,-100000000000<=t/\t<=100000000000)
 (q1:M w be (cF u st ln hr r m md wk pl tx aI aH tr k) 79)(q2:M w bf [V Z f] 3)(q3:M w bt [V Z to] 3)(q4:M w bk [η kc,η ku] 207):
 kX prog 283 #[ε (some ⟨be,0,none⟩),ε (some ⟨bf,0,none⟩),ε (some ⟨bt,0,none⟩),ε (some ⟨bk,0,none⟩)] (dF (qM kc ku ln tr k (ff hr r st f to ex xt))) (λk=>k=be\/k=bf\/k=bt\/k=bk\/kY m md wk pl aI aH k) w:=by
 intro l W O atF Js Jp bp hR hO cJ hY;have eI:=N.keep λk I=>hR k (.inr (.inr (.inr (.inr I))));replace q1:=q1.keep (hR be (.inl rfl));replace q2:=q2.keep (hR bf (.inr (.inl rfl)));replace q3:=q3.keep (hR bt (.inr (.inr (.inl rfl))));replace q4:=q4.keep (hR bk (.inr (.inr (.inr (.inl rfl)))));have Pk:¬O bk:=λh=>hO bk h (.inr (.inr (.inr (.inl rfl))));have KO:∀k,kY m md wk pl aI aH k->k<W.heap.size/\¬O k:=λk h=>⟨eI.fW h,λh'=>hO k h' (.inr (.inr (.inr (.inr h))))⟩;have X9:=q4.lt;have hKO:Hid (∀wr,Β prog 174 #[.agg (cF u st ln hr r m md wk pl tx aI aH tr k).toArray] wr λe Y=>e=δ (V Z (eD tr k))/\Below wr.heap.size wr Y):=by
  obtain⟨a1,e1⟩:=eI.cb.ms.form;obtain⟨a2,e2⟩:=eI.cb.mds.form;obtain⟨a3,e3⟩:=eI.cb.wks.form;obtain⟨a4,e4⟩:=eI.cb.pls.form;obtain⟨a5,c5,e5⟩:=eI.hex.sl;obtain⟨a6,c6,e6⟩:=eI.mw.sl;exact H λwr=>Lv u st ln hr r m md wk pl tx aI aH tr k wr ⟨_,_,_,e1⟩ ⟨_,_,_,e2⟩ ⟨_,_,_,e3⟩ ⟨_,_,_,e4⟩ ⟨_,_,_,e5⟩ ⟨_,_,_,e6⟩
 have Lw:Hid (∀wr,Below W.heap.size W wr->Β prog 90 #[.agg (cF u st ln hr r m md wk pl tx aI aH tr k).toArray,V Z f,V Z to] wr (dR (pM ln (ff hr r st f to ex xt)) (kY m md wk pl aI aH) wr)):=
  H λwr U=>sX u st ln hr r m md wk pl tx aI aH ex xt tr k f to wr (eI.on U) s0 s1 l0 l1 f0 f1 t0 t1 o4
 clear hR hO N bp eI;rw[qN];refine dr func283 rfl ?_;simp only[ntmps283,Υ,Ε,ϊ,Ϙ,ϗ,Θ,Η,Φ,Ν,Ζ,Ω];refine bK λatH hK=>bQ ?_;gi_wp2_with fail;have r5:M (W.alloc (θ #[.func (.yield l) #[] #[]] 277)) W.heap.size [.func (.yield l) #[] #[]] 277:=M.new W [.func (.yield l) #[] #[]] 277;have al:Below W.heap.size W (W.alloc (θ #[.func (.yield l) #[] #[]] 277)):=(μ _ _).alloc (κ _) _;have Ag:W.heap.size<(W.alloc (θ #[.func (.yield l) #[] #[]] 277)).heap.size:=by simp
 generalize W.alloc (θ #[.func (.yield l) #[] #[]] 277)=W2 at *
 refine bK λatH hK=>bQ ?_;gi_wp2_with (refine Lx rfl rfl rfl (q1.on al) (λ_=>trivial) ?_);refine(callsIn_wide.2 (hKO.out _)).mono ?_;rintro e w3 ⟨rfl,aR⟩;replace r5:=r5.on aR;replace al:=al.trans (aR.mono al.size);have su:=aR.size;clear aR hKO;gi_wp2_with fail;have r6:M (w3.alloc (θ #[V Z (eD tr k)] 221)) w3.heap.size [V Z (eD tr k)] 221:=M.new w3 [V Z (eD tr k)] 221;have cu:Below w3.heap.size w3 (w3.alloc (θ #[V Z (eD tr k)] 221)):=(μ _ _).alloc (κ _) _;have ES:w3.heap.size<(w3.alloc (θ #[V Z (eD tr k)] 221)).heap.size:=by simp
 replace r5:=r5.on cu;replace al:=al.trans (cu.mono al.size);generalize w3.alloc (θ #[V Z (eD tr k)] 221)=w4 at *
 have c6:=r6.cell (k:=0) rfl;refine bK λK1 eM=>bQ ?_;by_cases oa:eD tr k=0
 case pos=>
  have e0:qM kc ku ln tr k (ff hr r st f to ex xt)=[]:=if_pos oa;rw[e0];rw[oa]at c6;have eY:=H (show aN O W.heap.size (atF 0) W w4 from⟨ak.ar al,O,λ_ h=>.inl h,λ_ h=>h,cJ.below al⟩);clear hY Lw o4 KO q1 q2 q3 q4 r5 r6 cu e0;gi_wp2_with fail;exact⟨_,results_none rfl _ _ _,.inl ⟨⟨_,rfl⟩,.inl eY.out⟩⟩
 case neg=>
  have e0:qM kc ku ln tr k (ff hr r st f to ex xt)=mL kc ku ln (eD tr k) (ff hr r st f to ex xt):=if_neg oa;rw[e0]at hY⊢;have uy:=H (λ(i:Nat) (t:Int) (h:(ff hr r st f to ex xt)[i]?=some t)=>hY i _ (yq (RI h)));rw[yp];have eN:=H (show(qM kc ku ln tr k (ff hr r st f to ex xt)).length=(ff hr r st f to ex xt).length by rw[e0,yp]);clear hY e0;have Cu:(eD tr k==0)=false:=by simp[oa]
  gi_wp2_with fail;refine bK λatH hK=>bQ ?_;have c2:=(q2.on al).cell (k:=0) rfl;have c3:=(q3.on al).cell (k:=0) rfl;gi_wp2_with (refine Lx rfl rfl rfl (q1.on al) (λ_=>trivial) ?_);refine(callsIn_wide.2 (Lw.out _ al)).mono ?_;rintro e w5 ⟨g,lb,R,rfl,hit,mM,eg,bJ⟩;replace r5:=r5.on bJ;replace r6:=r6.on bJ;replace al:=al.trans (bJ.mono al.size);have xh:=bJ.size;clear bJ Lw c2 c3 c6 cu q1 q2 q3;generalize ff hr r st f to ex xt=XS at *
  generalize eD tr k=kd at *
  gi_wp2_with fail;refine gB ?_;refine lz (gf:=g) (lb:=lb) func283 ?g eg hit (κ _) (λ_ _=>rfl) (λk I=>(mM k I).1)
   O (λk I cj=>by
    rcases(mM k cj).2 with h|h
    ·exact(KO k h).2 I
    have:=cJ.1 k I;omega) (DK O W atF λq i=>q=i) (qx O W (atF XS.length) Js) (λc=>DX O W (Jp c)) ?ps ?start ?round ?done ?stop ?pan
  case g=>rfl
  case ps=>intro x X;obtain⟨d,_,rfl⟩:=List.mem_map.1 X;rfl
  case start=>exact DK.cL (λk I=>by have:=cJ.1 k I;omega) ⟨0,O,⟨λk I=>I,λk I=>.inl I,λk I=>I,cJ.below al⟩,rfl⟩
  case stop=>
   rintro c W4 ⟨X,D,cD,_,aG⟩ hs bI;have ef:ak O W (W4.putObj w5.heap.size (.deferred none)):=((ak.ar al).aM X).put (.inr (by omega)) _;have cK:¬D w5.heap.size:=λh=>(cD _ h).elim (λh=>by have:=cJ.1 _ h;omega) (by omega);obtain⟨rfl,h⟩:=aG.out;have eY:=H (show aN O W.heap.size (atF XS.length) W (W4.putObj w5.heap.size (.deferred none))\/aN O W.heap.size Js W (W4.putObj w5.heap.size (.deferred none))from by
    rcases h with⟨D0,h⟩|⟨D0,h⟩
    ·exact .inl ((h.put cK _).fin ef)
    exact .inr ((h.put cK _).fin ef))
   clear h aG cD;gi_wp2_with fail;refine⟨by simp,.inl ⟨_,_,rfl,run_takeDeferred bI,?_⟩⟩;exact⟨_,results_none rfl _ _ _,.inl ⟨⟨_,rfl⟩,by rw[eN.out];exact eY.out⟩⟩
  case pan=>
   rintro c W4 ⟨X,D,cD,_,aG⟩ hs bI;have ef:ak O W (W4.putObj w5.heap.size (.deferred none)):=((ak.ar al).aM X).put (.inr (by omega)) _;have cK:¬D w5.heap.size:=λh=>(cD _ h).elim (λh=>by have:=cJ.1 _ h;omega) (by omega);obtain⟨D0,h⟩:=aG.out;refine⟨by simp,.inl ⟨_,_,rfl,run_takeDeferred bI,?_⟩⟩;exact .inr ⟨c,rfl,(h.put cK _).fin ef⟩
  case done=>
   rw[sx];rintro W4 ⟨X,D,cD,_,aG⟩ hs bI;have ef:ak O W (W4.putObj w5.heap.size (.deferred none)):=((ak.ar al).aM X).put (.inr (by omega)) _;have cK:¬D w5.heap.size:=λh=>(cD _ h).elim (λh=>by have:=cJ.1 _ h;omega) (by omega);obtain⟨q,D0,bq,hq⟩:=aG.out;refine⟨by simp,.inl ⟨_,_,rfl,run_takeDeferred bI,?_⟩⟩;exact⟨_,results_none rfl _ _ _,.inl ⟨⟨_,rfl⟩,.inl (by rw[eN.out,<-hq];exact(bq.put cK _).fin ef)⟩⟩
  case round=>
   intro Ct i x X W4 D zq hs dV aG atH hK;obtain⟨t,hd⟩:∃t,XS[i]?=some t:=⟨_,ν (by have:=(List.getElem?_eq_some_iff.1 X).1;rwa [sx]at this)⟩;rw[Ah hd]at X;cases X;gi_wp2_with fail;have fO:Below W4.heap.size W4 (W4.alloc (θ #[V Z t,V Z (t+ln)] 39)):=(μ _ _).alloc (κ _) _;refine hK _ _ (λk=>D k\/k=W4.heap.size) fO (λk I=>I.imp id λh=>by omega) (λk I=>.inl I) (λk I=>I.elim (λh=>by have:=aG.1 k h;simp;omega) (λh=>by simp;omega)) ?_;intro l' W5 fG bL uq;have q7:=(M.new W4 [V Z t,V Z (t+ln)] 39).keep (fG _ (.inr rfl));have ea:=aG.on (W':=W5) λk I=>(fG k (.inl I)).trans (fO.block k (aG.1 k I));have mN:ak O W W5:=(ak.ar al).aM bL;have y0:=(q4.aL mN Pk).cell (k:=0) rfl;have y1:=(q4.aL mN Pk).cell (k:=1) rfl;have y5:=(r5.aL bL (λh=>by have:=cJ.1 _ h;omega)).cell (k:=0) rfl;have y6:=(r6.aL bL (λh=>by have:=cJ.1 _ h;omega)).cell (k:=0) rfl;have z0:=q7.cell (k:=0) rfl;have z1:=q7.cell (k:=1) rfl;have dN:∀k,D k\/k=W4.heap.size->k<W5.heap.size:=λk I=>I.elim (ea.1 k) (λh=>by have:=q7.lt;omega);have pN:W.heap.size<=W5.heap.size:=by omega
   clear hK fG hit aG mM o4 fO q7;obtain⟨q,D0,bq,rfl⟩:=ea.out;clear ea;replace bq:=bq.wide (D':=λk=>D k\/k=W4.heap.size) λk I=>.inl I;obtain⟨EW,uz,EX,EY,gI,eE⟩:=uy.out q t hd W5 D0 mN bq.dO bq.Od bq.on;unfold di bA at gI;clear hd;gi_wp2_with fail;refine(RoundIn.inRound l' eE).mono ?_;clear gI eE y1 y5 y6 y0 z0 z1;rintro e WX (⟨rfl,J⟩|⟨rfl,J⟩|⟨ch,rfl,J⟩)
   all_goals
    obtain⟨eV,eh,mO,jj⟩:=bq.post pN J;have eP:ak (λk=>D k\/k=W4.heap.size) W5 WX:=jj.mono (λk I=>.inl (bq.sub k I));have sy:∀k,(D k\/k=W4.heap.size)\/eV k->k<WX.heap.size:=λk I=>I.elim (λh=>ψ (dN k h) eP.size) (λh=>eh.on.1 k h);have Ly:∀k,(D k\/k=W4.heap.size)\/eV k->(D k\/k=W4.heap.size)\/W5.heap.size<=k:=λk I=>I.elim .inl λh=>(mO k h).elim (λh=>.inl (bq.sub k h)) .inr;clear J;gi_wp2_with fail
   ·exact⟨eP,_,Ly,λ_ I=>.inl I,DK.cL sy ⟨q+1,eV,eh,rfl⟩⟩
   ·exact⟨eP,_,Ly,λ_ I=>.inl I,qx.TQ (DX.cL sy ⟨eV,eh⟩)⟩
   exact⟨rfl,eP,_,Ly,λ_ I=>.inl I,DX.cL sy ⟨eV,eh⟩⟩
end
section
open Go.Sort
attribute [local go_sem] Oper.semAt_some
attribute [local go_sem] bG aV
attribute [local simp] bG aV
theorem aiE (w:ι)(a b c d:Obj):((((w.alloc a).alloc b).alloc c).alloc d).heap.size=w.heap.size+4:=by simp
theorem Pm (w:ι)(a b c d:Obj):Below w.heap.size w ((((w.alloc a).alloc b).alloc c).alloc d):=(iD w a b c).alloc (by simp;omega) _
theorem TR (w:ι)(cs:List Value)(t:ϙ)(b c d:Obj):M ((((w.alloc (θ cs.toArray t)).alloc b).alloc c).alloc d) w.heap.size cs t:=(lL w cs t b c).on ((μ _ _).alloc (κ _) _)
theorem TS (w:ι)(a:Obj)(cs:List Value)(t:ϙ)(c d:Obj):M ((((w.alloc a).alloc (θ cs.toArray t)).alloc c).alloc d) (w.heap.size+1) cs t:=(lM w a cs t c).on ((μ _ _).alloc (κ _) _)
theorem TT (w:ι)(a b:Obj)(cs:List Value)(t:ϙ)(d:Obj):M ((((w.alloc a).alloc b).alloc (θ cs.toArray t)).alloc d) (w.heap.size+1+1) cs t:=(lN w a b cs t).on ((μ _ _).alloc (κ _) _)
theorem TU (w:ι)(a b c:Obj)(cs:List Value)(t:ϙ):M ((((w.alloc a).alloc b).alloc c).alloc (θ cs.toArray t)) (w.heap.size+1+1+1) cs t:=by
 have:=M.new (((w.alloc a).alloc b).alloc c) cs t;rw[show(((w.alloc a).alloc b).alloc c).heap.size=w.heap.size+1+1+1 by simp]at this;exact this
theorem TV (kc ku:ByteArray)(u:ByteArray)(st ln:Int)(hr:Bool)(r:aC)(m md wk pl:Value)(tx:ByteArray)(aI aH:Value)(ex xt:List Int)(tr:Bool)(k:Int)(f to:Int)(w:ι)(N:kt w hr r m md wk pl aI aH ex xt)
 (s0:0<=st)(s1:st<=7258118400)(l0:0<=ln)(l1:ln<=10000000)(f0:-1000000000000<=f)(f1:f<=7258118400)(t0:0<=to)(t1:to<=7258118400)(o4:∀t∈ff hr r st f to ex xt,-100000000000<=t/\t<=100000000000):
 Β prog 219 #[.agg #[η kc,η ku],.agg (cF u st ln hr r m md wk pl tx aI aH tr k).toArray,V Z f,V Z to] w (dR (dF (qM kc ku ln tr k (ff hr r st f to ex xt))) (kY m md wk pl aI aH) w):=by
 have my:∀args w,(callFunc 283 args).run prog w=.ok (.enter 283 args) w:=enters_of func283 (by kernel_rfl) rfl;replace my:=H my;have q0:=TR w [η kc,η ku] 207 (θ (cF u st ln hr r m md wk pl tx aI aH tr k).toArray 79) (θ #[V Z f] 3) (θ #[V Z to] 3);have q1:=TS w (θ #[η kc,η ku] 207) (cF u st ln hr r m md wk pl tx aI aH tr k) 79 (θ #[V Z f] 3) (θ #[V Z to] 3);have q2:=TT w (θ #[η kc,η ku] 207) (θ (cF u st ln hr r m md wk pl tx aI aH tr k).toArray 79) [V Z f] 3 (θ #[V Z to] 3);have q3:=TU w (θ #[η kc,η ku] 207) (θ (cF u st ln hr r m md wk pl tx aI aH tr k).toArray 79) (θ #[V Z f] 3) [V Z to] 3;have al:=Pm w (θ #[η kc,η ku] 207) (θ (cF u st ln hr r m md wk pl tx aI aH tr k).toArray 79) (θ #[V Z f] 3) (θ #[V Z to] 3);have hz:=H (aiE w (θ #[η kc,η ku] 207) (θ (cF u st ln hr r m md wk pl tx aI aH tr k).toArray 79) (θ #[V Z f] 3) (θ #[V Z to] 3));have hit:=H (RJ kc ku u st ln hr r m md wk pl tx aI aH ex xt tr k f to (w.heap.size+1) (w.heap.size+1+1) (w.heap.size+1+1+1) w.heap.size _ (N.on al) s0 s1 l0 l1 f0 f1 t0 t1 o4 q1 q2 q3 q0);have hblk:=H (λk (h:kY m md wk pl aI aH k)=>N.fW h);clear N q0 q1 q2 q3 o4;generalize qM kc ku ln tr k (ff hr r st f to ex xt)=XS at *
 generalize cF u st ln hr r m md wk pl tx aI aH tr k=E at *
 go_enter func219,ntmps219;go_wp2_with fail;go_ret;refine⟨_,_,_,rfl,hit.out,λk I=>?_,my.out,al⟩;have:=hz.out;rcases I with rfl|rfl|rfl|rfl|h
 ·exact⟨by omega,.inr (by omega)⟩
 ·exact⟨by omega,.inr (by omega)⟩
 ·exact⟨by omega,.inr (by omega)⟩
 ·exact⟨by omega,.inr (by omega)⟩
 exact⟨by have:=hblk.out k h;omega,.inl h⟩
end
section
open Go.Sort
theorem eJ {o:Ϥ}{a:Ϣ}{w:ι}{x:ό}{p:Addr}(ho:o.op=.nilCheck x)(X:a.eval x=ε (some p)):(execOp a.eval o).run prog w=.ok (.value (ε (some p))) w:=by
 obtain⟨_,_,_,_,_,_⟩:=o;simp only[]at ho;subst ho;unfold execOp;simp only[X];go_simp
theorem kZ {b:Nat}{kc ku:ByteArray}{w:ι}(h:M w b [η kc,η ku] 207):(Τ 207 (ε (some ⟨b,0,none⟩))).run prog w=.ok (.agg #[η kc,η ku]) w:=by
 have h0:=h.cell (k:=0) rfl;have G:=h.cell (k:=1) rfl;go_simp
theorem jU {b:Nat}{EV:List Value}{w:ι}(h:M w b EV 79)(N:EV.length=18):(Τ 79 (ε (some ⟨b,0,none⟩))).run prog w=.ok (.agg EV.toArray) w:=
 run_loadAt_mid w b 0 79 _ _ (ia h) underlying79 rfl (by rw[N];exact jk)
theorem IM {p:Nat}{w:ι}:(χ 205 (ε (some ⟨p,0,none⟩)) 2).run prog w=.ok (ε (some ⟨p,2,none⟩)) w:=by
 go_simp
def yt (W:ι)(p:Nat)(kc ku:ByteArray)(EV:List Value)(h:Int)(XS:List aJ)(Eb:aj)(i:Nat)(v:Value)(w:ι):Prop:=match i with
 |0=>v=ε (some ⟨p,0,none⟩)
 |1=>v=.agg #[η kc,η ku]
 |2=>v=.agg EV.toArray
 |3=>v=ε (some ⟨p,0,none⟩)
 |4=>v=ε (some ⟨p,0,none⟩)
 |5=>v=ε (some ⟨p,2,none⟩)
 |6=>v=V Z h
 |_=>∃g lb R,v=.func (.func g) #[] lb/\kX prog g lb (dF XS) R w/\(∀k,R k->k<w.heap.size/\(Eb k\/W.heap.size<=k))/\(∀args w,(callFunc g args).run prog w=.ok (.enter g args) w)
theorem yt.grow {W:ι}{p:Nat}{kc ku:ByteArray}{EV:List Value}{h:Int}{XS:List aJ}{Eb:aj}(i:Nat)(v:Value)(w Y:ι)(hn:yt W p kc ku EV h XS Eb i v w)(U:Below w.heap.size w Y):yt W p kc ku EV h XS Eb i v Y:=by
 match i,hn with
 |0,h|1,h|2,h|3,h|4,h|5,h|6,h=>exact h
 |n+7,h=>
  obtain⟨g,lb,R,G,A,K,h4⟩:=h;exact⟨g,lb,R,G,A.later (λk I=>(K k I).1) U,λk I=>⟨ψ (K k I).1 U.size,(K k I).2⟩,h4⟩
def sA (p bk be:Nat):List (Nat×Value):=[(0,ε (some ⟨p,0,none⟩)),(4,ε (some ⟨bk,0,none⟩)),(5,ε (some ⟨be,0,none⟩))]
theorem Ya (W:ι)(p bk be:Nat)(kc ku:ByteArray)(EV:List Value)(h:Int)(XS:List aJ)(Eb:aj):rO (λi=>6+i) (sA p bk be) 18 8 (yt W p kc ku EV h XS Eb):=
 ⟨λi S=>by show 6+i<18;omega,λi j S hj h=>by have h':6+i=6+j:=h;omega,λq J i S=>by
  simp only[sA,ρ,π,or_false]at J;show q.1≠6+i;rcases J with rfl|rfl|rfl<;>simp<;>omega,yt.grow⟩
theorem IN (a:Ϣ)(h:a.tmps.size=18)(hd:a.defers=[]):∃f:Nat->Value,a=⟨[f 0,f 1,f 2,f 3,f 4,f 5,f 6,f 7,f 8,f 9,f 10,f 11,f 12,f 13,f 14,f 15,f 16,f 17].toArray,[]⟩/\∀k,a.eval (.tmp k)=f k:=gO 18 a h hd
def aaO (p:Nat)(T:LT)(h:Int)(XS:List aJ)(w:ι):ϣ->ι->Prop:=λE Y=>E=δ (.tuple #[])/\∃(T':LT) (h':Int),cU Y p T' T'.size h'/\LT.eU T'.aw/\(XS.length+T.size<=500->h'=h/\T'.aw.Perm (XS++T.aw))/\(500<XS.length+T.size->h'=0/\T'.aw=qK 0 T.aw)/\(∀k∈T'.ax,k∈T.ax\/w.heap.size<=k)/\ak (λk=>k∈p::T.ax) w Y
theorem EZ (p:Nat)(T:LT)(h:Int)(kc ku:ByteArray)(EV:List Value)(XS:List aJ)(Eb:aj)(w:ι)(S:cU w p T T.size h)(hs:LT.eU T.aw)(hc:T.size<=500)(hEV:EV.length=18)
 (hC:∀wr,Below w.heap.size w wr->Β prog 219 #[.agg #[η kc,η ku],.agg EV.toArray,V Z 0,V Z h] wr (dR (dF XS) Eb wr))
 (hXp:XS.Pairwise λx y=>bM x y≠0)(hXT:∀x∈XS,∀y∈T.aw,bM x y≠0):
 Β prog 163 #[ε (some ⟨p,0,none⟩),.agg #[η kc,η ku],.agg EV.toArray] w (aaO p T h XS w):=by
 have rk:=kK w [η kc,η ku] 207 (θ EV.toArray 79);have re:=kM w EV 79 (θ #[η kc,η ku] 207);have al:=mP w (θ #[η kc,η ku] 207) (θ EV.toArray 79);have hI:=H (S.aL (O:=λ_=>False) (ak.ar al) (λ_ _ h=>h));have HC:=H hC;clear hC S;go_enter func163,ntmps163;go_upto_region 1 with fail;have hz:w.heap.size<=((w.alloc (θ #[η kc,η ku] 207)).alloc (θ EV.toArray 79)).heap.size:=al.size;generalize(w.alloc (θ #[η kc,η ku] 207)).alloc (θ EV.toArray 79)=W2 at *
 have atI:=Ya W2 p w.heap.size (w.heap.size+1) kc ku EV h XS Eb;have p1:=H λY (U:Below W2.heap.size W2 Y)=>kZ (rk.on U);have p2:=H λY (U:Below W2.heap.size W2 Y)=>jU (re.on U) hEV;have p6:=H λY (U:Below W2.heap.size W2 Y)=>dP ((hI.out.row.on U).cell (k:=2) rfl);refine ei 8 (by simp only[Λ,ύ];rfl) (by simp only[Μ,ώ];rfl) (GV (λi=>6+i) (yt W2 p kc ku EV h XS Eb)) (JV 18 (sA p w.heap.size (w.heap.size+1)) W2) (by kernel_rfl) (by kernel_rfl) (by kernel_rfl) (by kernel_rfl) (by kernel_rfl) (by kernel_rfl) rfl ?rops ?rdone ⟨rfl,rfl,λq J=>by
  simp only[sA,ρ,π,or_false]at J;rcases J with rfl|rfl|rfl<;>rfl,(μ _ _).drew⟩
 case rops=>
  intro i o ho a Y ay hG Q';have S:i<8:=(Array.getElem?_eq_some_iff.1 ho).1;have t0:a.eval (.tmp 0)=ε (some ⟨p,0,none⟩):=ay.fixed (0,_) (by simp[sA]);have t4:a.eval (.tmp 4)=ε (some ⟨w.heap.size,0,none⟩):=ay.fixed (4,_) (by simp[sA]);have t5:a.eval (.tmp 5)=ε (some ⟨w.heap.size+1,0,none⟩):=ay.fixed (5,_) (by simp[sA]);have eQ:i=0\/i=1\/i=2\/i=3\/i=4\/i=5\/i=6\/i=7:=by omega
  rcases eQ with rfl|rfl|rfl|rfl|rfl|rfl|rfl|rfl<;>obtain rfl:=ο ho
  ·exact ai (cW rfl t0) (aZ atI ay)
  ·exact ai (aY rfl t4 (p1.out _ ay.below)) (aZ atI ay)
  ·exact ai (aY rfl t5 (p2.out _ ay.below)) (aZ atI ay)
  ·exact ai (cW rfl t0) (aZ atI ay)
  ·have e1:a.eval (.tmp 9)=ε (some ⟨p,0,none⟩):=aF hG 3;exact ai (eJ rfl e1) (aZ atI ay)
  ·have e1:a.eval (.tmp 10)=ε (some ⟨p,0,none⟩):=aF hG 4;exact ai (cR rfl e1 IM) (aZ atI ay)
  ·have e1:a.eval (.tmp 11)=ε (some ⟨p,2,none⟩):=aF hG 5;exact ai (aY rfl e1 (p6.out _ ay.below)) (aZ atI ay)
  have e1:a.eval (.tmp 7)=.agg #[η kc,η ku]:=aF hG 1;have e2:a.eval (.tmp 8)=.agg EV.toArray:=aF hG 2;have e3:a.eval (.tmp 12)=V Z h:=aF hG 6;refine cM (f:=219) (args:=#[a.eval (.tmp 7),a.eval (.tmp 8),V Z 0,a.eval (.tmp 12)]) (by kernel_rfl) (by rw[e1,e2,e3];exact HC.out Y (al.trans (ay.below.mono al.size))) ?_ (by rintro c az ⟨_,_,_,e,_⟩;cases e) (by rintro az ⟨_,_,_,e,_⟩;cases e);rintro v az ⟨g,lb,R,e,A,K,h4,h5⟩;cases e;exact mz atI rfl (by decide) ay h5 ⟨g,lb,R,rfl,A,λk I=>⟨(K k I).1,(K k I).2.imp id λh=>ϥ ay.below.size h⟩,h4⟩
 case rdone=>
  intro a w3 ay hG;obtain⟨g,lb,R,Pn,hit,mM,eg⟩:∃g lb R,a.eval (.tmp 13)=.func (.func g) #[] lb/\kX prog g lb (dF XS) R w3/\(∀k,R k->k<w3.heap.size/\(Eb k\/W2.heap.size<=k))/\(∀args w,(callFunc g args).run prog w=.ok (.enter g args) w):=hG 7 (by decide);have e6:a.eval (.tmp 6)=ε (some ⟨p,0,none⟩):=hG 0 (by decide);have TW:a.eval (.tmp 0)=ε (some ⟨p,0,none⟩):=ay.fixed (0,_) (by simp[sA]);have aR:=ay.below;have gh:=ay.size;have gC:=ay.defers;clear ay hG atI p1 p2 p6 HC;obtain⟨fr,rfl,hf⟩:=IN a gh gC;have g0:=(hf 0).symm.trans TW;have g6:=(hf 6).symm.trans e6;have g13:=(hf 13).symm.trans Pn;rw[g0,g6,g13];clear hf gh gC TW e6 Pn g0 g6 g13;have U:=al.trans (aR.mono al.size);have sj:=hI.out.aL (O:=λ_=>False) (ak.ar aR) (λ_ _ h=>h);have HA:=H (Ph p T h g lb (λes=>es=XS) R w3 sj hs hc (by
   have:=hit.n;exact(show qw prog g lb (λxs=>∃es,es=XS/\xs=dF es) R w3 from by
    have e:(λxs:List (Array Value)=>∃es,es=XS/\xs=dF es)=λxs=>xs=dF XS:=by funext xs;simp
    rw[e];exact this)) (λk I=>(mM k I).1) eg (λes he=>by subst he;exact⟨hXp,hXT⟩))
  have IP:=U.size;clear hit mM eg sj rk re;by_cases Dw:XS.length+T.size<=500
  case pos=>
   go_wp2_with (go_at_call 166;refine(HA.out).mono ?_;rintro E w4 hX;obtain⟨T',hE,hA⟩:∃T':LT,E=δ (.bool true)/\cU w4 p T' T'.size h/\LT.eU T'.aw/\T'.aw.Perm (XS++T.aw)/\(∀k∈T'.ax,k∈T.ax\/w3.heap.size<=k)/\ak (λk=>k∈p::T.ax) w3 w4:=(hX.elim (λ⟨es,T',he,_,G,A⟩=>by subst he;exact⟨T',G,A⟩) (λ⟨⟨es,he,G⟩,_⟩=>by subst he;omega));clear hX;subst hE;replace hA:=H hA;clear HA);go_end0;obtain⟨a1,a2,a3,a4,a5⟩:=hA.out;exact⟨rfl,T',h,a1,a2,λ_=>⟨rfl,a3⟩,λh=>by omega,λk I=>(a4 k I).imp id λh=>by omega,(ak.ar U).aM a5⟩
  case neg=>
   go_wp2_with (first
    |(go_at_call 166;refine(HA.out).mono ?_;rintro E w4 hX;obtain⟨hE,hA⟩:E=δ (.bool false)/\Below w3.heap.size w3 w4:=(hX.elim (λ⟨es,T',he,h0,_⟩=>by subst he;omega) (λ⟨_,h⟩=>h));clear hX;subst hE;have EU:=H (Cp p T h 0 w4 (hI.out.aL (O:=λ_=>False) ((ak.ar aR).aM (ak.ar hA)) (λ_ _ h=>h)) hs (by omega));replace hA:=H hA;clear HA)
    |(go_at_call 165;refine(EU.out).mono ?_;rintro E w5 ⟨rfl,T',h5⟩;replace h5:=H h5))
   go_end0;obtain⟨a1,a2,a3,a4⟩:=h5.out;have cu:=U.trans (hA.out.mono IP);refine⟨rfl,T',0,a1,?_,λh=>absurd h Dw,λ_=>⟨rfl,a2⟩,λk I=>.inl (a3 k I),(ak.ar cu).aM a4⟩;rw[a2];unfold qK LT.eU at *
   exact hs.filter _
def pO (x:eF):List Value:=[V Z x.t,V Z x.k,V Z x.m]
def im (L:List eF):List Value:=L.flatMap pO
theorem TX (x y:List eF):im (x++y)=im x++im y:=by unfold im;rw[List.flatMap_append]
theorem acJ:(prog.info? 281).map (λi=>(i.zero,i.size,i.bytes))=some (some (.agg #[V Z 0,V Z 0,V Z 0]),3,24):=by kernel_rfl
structure gP (w:ι)(p:Nat)(f t:Int)(v:Value)(L:List eF):Prop where
 row:M w p [V Z f,V Z t,v] 219
 own:w.ownsRow 0 281 3 v L.length (im L)
 ne:v.ownBlock≠some p
theorem Lz (f t:Int)(w:ι):
 Β prog 101 #[V Z f,V Z t] w λE Y=>E=δ (ε (some ⟨w.heap.size,0,none⟩))/\gP Y w.heap.size f t (ζ none 0 0) []/\Below w.heap.size w Y:=by
 go_enter func101,ntmps101;go_wp2_with fail;go_ret;exact⟨rfl,⟨M.new w _ _,Ρ _ _ _ _,by simp[Ϡ]⟩,(μ _ _).alloc (κ _) _⟩
def amF (p:Nat)(f t:Int)(v:Value)(L:List eF)(k b e:Int)(w:ι):ϣ->ι->Prop:=λE Y=>
 E=δ (.tuple #[])/\∃v',gP Y p f t v' (L++[⟨max b f,k,1⟩,⟨min e t,k,-1⟩])/\ak (λj=>j=p\/v.ownBlock=some j) w Y/\∀j,v'.ownBlock=some j->v.ownBlock=some j\/w.heap.size<=j
theorem acK {o:Ϥ}{a:Ϣ}{w:ι}{x y:ό}{m n:Int}(ho:o.op=.call {callee:=.builtin .max,args:=#[x,y],argTypes:=#[3,3]})(X:a.eval x=V Z m)(hy:a.eval y=V Z n):(execOp a.eval o).run prog w=.ok (.value (V Z (max m n))) w:=by
 obtain⟨_,_,_,_,_,_⟩:=o;simp only[]at ho;subst ho;unfold execOp;simp only[X,hy,resolve,invoke,builtin,Δ,Ξ,Χ];go_simp
theorem acL {o:Ϥ}{a:Ϣ}{w:ι}{x y:ό}{m n:Int}(ho:o.op=.call {callee:=.builtin .min,args:=#[x,y],argTypes:=#[3,3]})(X:a.eval x=V Z m)(hy:a.eval y=V Z n):(execOp a.eval o).run prog w=.ok (.value (V Z (min m n))) w:=by
 obtain⟨_,_,_,_,_,_⟩:=o;simp only[]at ho;subst ho;unfold execOp;simp only[X,hy,resolve,invoke,builtin,Δ,Ξ,Χ];go_simp
theorem Po {o:Ϥ}{a:Ϣ}{w:ι}{x y z:ό}{l m n:Int}(ho:o.op=.build 281 #[(0,x),(1,y),(2,z)])(X:a.eval x=V Z l)(hy:a.eval y=V Z m)(hz:a.eval z=V Z n):(execOp a.eval o).run prog w=.ok (.value (.agg #[V Z l,V Z m,V Z n])) w:=by
 obtain⟨_,_,_,_,_,_⟩:=o;simp only[]at ho;subst ho;unfold execOp;simp only[Δ,Ξ,Χ,X,hy,hz];go_simp
theorem acM {o:Ϥ}{a:Ϣ}{w:ι}{x y:ό}{l m n l' m' n':Int}(ho:o.op=.buildSlice 217 2 #[(0,x),(1,y)])(X:a.eval x=.agg #[V Z l,V Z m,V Z n])(hy:a.eval y=.agg #[V Z l',V Z m',V Z n']):
 (execOp a.eval o).run prog w=.ok (.value (ζ (some ⟨w.heap.size,0,none⟩) 2 2)) (w.alloc (θ #[V Z l,V Z m,V Z n,V Z l',V Z m',V Z n'] 281)):=by
 obtain⟨_,_,_,_,_,_⟩:=o;simp only[]at ho;subst ho;unfold execOp;simp only[Δ,Ξ,Χ,X,hy];go_simp
theorem Yb {p:Addr}{v:Value}{w:ι}(h:w.cell? p=some v):(Τ 217 (ε (some p))).run prog w=.ok v w:=by
 go_simp
theorem TY {p:Nat}{w:ι}:(χ 219 (ε (some ⟨p,0,none⟩)) 0).run prog w=.ok (ε (some ⟨p,0,none⟩)) w:=by go_simp
theorem TZ {p:Nat}{w:ι}:(χ 219 (ε (some ⟨p,0,none⟩)) 1).run prog w=.ok (ε (some ⟨p,1,none⟩)) w:=by go_simp
theorem T0 {p:Nat}{w:ι}:(χ 219 (ε (some ⟨p,0,none⟩)) 2).run prog w=.ok (ε (some ⟨p,2,none⟩)) w:=by go_simp
theorem T3 {p:Nat}{w:ι}:(χ 39 (ε (some ⟨p,0,none⟩)) 0).run prog w=.ok (ε (some ⟨p,0,none⟩)) w:=by go_simp
theorem T4 {p:Nat}{w:ι}:(χ 39 (ε (some ⟨p,0,none⟩)) 1).run prog w=.ok (ε (some ⟨p,1,none⟩)) w:=by go_simp
def Pp (p B:Nat)(v:Value)(b e f t k:Int):List Value:=[ε (some ⟨p,0,none⟩),ε (some ⟨p,0,none⟩),ε (some ⟨p,0,none⟩),ε (some ⟨p,2,none⟩),v,ε (some ⟨B,0,none⟩),V Z b,ε (some ⟨p,0,none⟩),ε (some ⟨p,0,none⟩),ε (some ⟨p,0,none⟩),V Z f,V Z (max b f),V Z k,.agg #[V Z (max b f),V Z k,V Z 1],ε (some ⟨B,1,none⟩),V Z e,ε (some ⟨p,0,none⟩),ε (some ⟨p,0,none⟩),ε (some ⟨p,1,none⟩),V Z t,V Z (min e t),V Z k,.agg #[V Z (min e t),V Z k,V Z (-1)],undef,undef,ε (some ⟨p,0,none⟩),ε (some ⟨p,2,none⟩)]
def GR (b e f t k:Int):List eF:=[⟨max b f,k,1⟩,⟨min e t,k,-1⟩]
def wF (W:ι)(p B:Nat)(v0:Value)(L:List eF)(b e f t k:Int)(i:Nat)(v:Value)(w:ι):Prop:=match i with
 |23=>∃g,v=ζ (some ⟨g,0,none⟩) 2 2/\M w g (im (GR b e f t k)) 281/\W.heap.size<=g
 |24=>∃g cap,v=ζ (some ⟨g,0,none⟩) (L.length+2) cap/\w.ownsRow 0 281 3 v (L.length+2) (im L++im (GR b e f t k))/\(v0.ownBlock=some g\/W.heap.size<=g)
 |n=>v=(Pp p B v0 b e f t k).getD n undef
def uA (p B:Nat)(k:Int):List (Nat×Value):=[(0,ε (some ⟨p,0,none⟩)),(1,V Z k),(5,ε (some ⟨B,0,none⟩))]
theorem Yc (p B:Nat)(k:Int):LA (λi=>6+i) (uA p B k) 33 27:=
 ⟨λi S=>by show 6+i<33;omega,λi j S hj h=>by have h':6+i=6+j:=h;omega,λq J i S=>by
  simp only[uA,ρ,π,or_false]at J;show q.1≠6+i;rcases J with rfl|rfl|rfl<;>simp<;>omega⟩
structure Dx (W:ι)(v0:Value)(L:List eF)(w:ι):Prop where
 ex:ak (λj=>v0.ownBlock=some j) W w
 own:w.ownsRow 0 281 3 v0 L.length (im L)
theorem dQ {w Y:ι}{B:Nat}{e:ϙ}{s:Nat}{v:Value}{n:Nat}{xs:List Value}(h:w.ownsRow B e s v n xs)(I:∀g,v.ownBlock=some g->g<w.heap.size->Y.heap[g]?=w.heap[g]?):Y.ownsRow B e s v n xs:=by
 refine⟨h.1,h.2.elim .inl ?_⟩;rintro⟨g,cap,cur,rfl,A,K,h4⟩;exact .inr ⟨g,cap,cur,rfl,A,(I g rfl (Array.getElem?_eq_some_iff.1 K).1).trans K,h4⟩
theorem wF.keep {W:ι}{p B:Nat}{v0:Value}{L:List eF}{b e f t k:Int}{w Y:ι}(I:∀g,W.heap.size<=g->g<w.heap.size->Y.heap[g]?=w.heap[g]?)(i:Nat)(v:Value)(S:i≠24)(h:wF W p B v0 L b e f t k i v w):wF W p B v0 L b e f t k i v Y:=by
 by_cases IQ:i=23
 ·subst IQ;obtain⟨g,G,A,K⟩:=h;exact⟨g,G,A.keep (I g K A.lt),K⟩
 have e1:∀w,wF W p B v0 L b e f t k i v w=(v=(Pp p B v0 b e f t k).getD i undef):=by
  intro w;unfold wF;split
  ·exact absurd rfl IQ
  ·exact absurd rfl S
  rfl
 rw[e1]at h⊢;exact h
theorem T6 (a:Ϣ)(h:a.tmps.size=33)(hd:a.defers=[]):∃f:Nat->Value,a=⟨[f 0,f 1,f 2,f 3,f 4,f 5,f 6,f 7,f 8,f 9,f 10,f 11,f 12,f 13,f 14,f 15,f 16,f 17,f 18,f 19,f 20,f 21,f 22,f 23,f 24,f 25,f 26,f 27,f 28,f 29,f 30,f 31,f 32].toArray,[]⟩/\∀k,a.eval (.tmp k)=f k:=gO 33 a h hd
theorem Dx.alloc {W:ι}{v0:Value}{L:List eF}{w:ι}(h:Dx W v0 L w)(o:Obj):Dx W v0 L (w.alloc o):=⟨h.ex.alloc o,h.own.alloc o⟩
theorem Ai {w Y:ι}{row:Option Nat}(h:w.grownBy Y row):ak (λj=>row=some j) w Y:=⟨h.os,h.tape,h.output,h.size,λk I hn=>h.block k I (λe=>hn e.symm)⟩
theorem IS (p:Nat)(f t:Int)(v:Value)(L:List eF)(k b e:Int)(w:ι)(h:gP w p f t v L)(hL:L.length+2<=16777216):
 Β prog 172 #[ε (some ⟨p,0,none⟩),V Z k,.agg #[V Z b,V Z e]] w (amF p f t v L k b e w):=by
 have aQ:=h.row.lt;have al:Below w.heap.size w (w.alloc (θ #[V Z b,V Z e] 39)):=(μ _ _).alloc (κ _) _;have rb0:=M.new w [V Z b,V Z e] 39;have Pq:∀j,v.ownBlock=some j->j<w.heap.size:=λj hj=>(h.own.lt j hj).2;have HS:=H h;clear h;go_enter func172,ntmps172;go_upto_region 1 with fail;have fN:(w.alloc (θ #[V Z b,V Z e] 39)).heap.size=w.heap.size+1:=by simp
 have hW:(w.alloc (.cells [V Z b,V Z e].toArray 39))=w.alloc (θ #[V Z b,V Z e] 39):=rfl;rw[hW]at rb0;clear hW;generalize(w.alloc (θ #[V Z b,V Z e] 39))=W2 at *
 have Pr:Dx W2 v L W2:=⟨ak.refl _ _,dQ HS.out.own λg _ hg=>al.block g hg⟩;have atI:=Yc p w.heap.size k;have rp:Hid (∀Y,Dx W2 v L Y->M Y p [V Z f,V Z t,v] 219):=H λY hc=>(hc.ex.block p (by omega) HS.out.ne).trans ((al.block p aQ).trans HS.out.row);have rb:Hid (∀Y,Dx W2 v L Y->M Y w.heap.size [V Z b,V Z e] 39):=H λY hc=>(hc.ex.block _ (by omega) (λe=>by have:=Pq _ e;omega)).trans rb0;refine ei 27 (by simp only[Λ,ύ];rfl) (by simp only[Μ,ώ];rfl) (GV (λi=>6+i) (wF W2 p w.heap.size v L b e f t k)) (JX 33 (uA p w.heap.size k) (Dx W2 v L)) (by kernel_rfl) (by kernel_rfl) (by kernel_rfl) (by kernel_rfl) (by kernel_rfl) (by kernel_rfl) rfl ?rops ?rdone ⟨rfl,rfl,λq J=>by
  simp only[uA,ρ,π,or_false]at J;rcases J with rfl|rfl|rfl<;>rfl,⟨Pr.ex.drew,Pr.own⟩⟩
 case rops=>
  intro i o ho a Y ay hG Q';have S:i<27:=(Array.getElem?_eq_some_iff.1 ho).1;have t0:a.eval (.tmp 0)=ε (some ⟨p,0,none⟩):=ay.fixed (0,_) (by simp[uA]);have t1:a.eval (.tmp 1)=V Z k:=ay.fixed (1,_) (by simp[uA]);have t5:a.eval (.tmp 5)=ε (some ⟨w.heap.size,0,none⟩):=ay.fixed (5,_) (by simp[uA]);have eQ:i=0\/i=1\/i=2\/i=3\/i=4\/i=5\/i=6\/i=7\/i=8\/i=9\/i=10\/i=11\/i=12\/i=13\/i=14\/i=15\/i=16\/i=17\/i=18\/i=19\/i=20\/i=21\/i=22\/i=23\/i=24\/i=25\/i=26:=by omega
  rcases eQ with rfl|rfl|rfl|rfl|rfl|rfl|rfl|rfl|rfl|rfl|rfl|rfl|rfl|rfl|rfl|rfl|rfl|rfl|rfl|rfl|rfl|rfl|rfl|rfl|rfl|rfl|rfl<;>obtain rfl:=ο ho
  ·exact ai (cW rfl t0) (eo atI rfl (by decide) ay rfl)
  ·exact ai (cW rfl t0) (eo atI rfl (by decide) ay rfl)
  ·have e1:a.eval (.tmp 7)=ε (some ⟨p,0,none⟩):=aF hG 1;exact ai (eJ rfl e1) (eo atI rfl (by decide) ay rfl)
  ·have e1:a.eval (.tmp 8)=ε (some ⟨p,0,none⟩):=aF hG 2;exact ai (cR rfl e1 T0) (eo atI rfl (by decide) ay rfl)
  ·have e1:a.eval (.tmp 9)=ε (some ⟨p,2,none⟩):=aF hG 3;exact ai (aY rfl e1 (Yb ((rp.out _ ay.world).cell (k:=2) rfl))) (eo atI rfl (by decide) ay rfl)
  ·exact ai (cR rfl t5 T3) (eo atI rfl (by decide) ay rfl)
  ·have e1:a.eval (.tmp 11)=ε (some ⟨w.heap.size,0,none⟩):=aF hG 5;exact ai (aY rfl e1 (dP ((rb.out _ ay.world).cell (k:=0) rfl))) (eo atI rfl (by decide) ay rfl)
  ·exact ai (cW rfl t0) (eo atI rfl (by decide) ay rfl)
  ·have e1:a.eval (.tmp 13)=ε (some ⟨p,0,none⟩):=aF hG 7;exact ai (eJ rfl e1) (eo atI rfl (by decide) ay rfl)
  ·have e1:a.eval (.tmp 14)=ε (some ⟨p,0,none⟩):=aF hG 8;exact ai (cR rfl e1 TY) (eo atI rfl (by decide) ay rfl)
  ·have e1:a.eval (.tmp 15)=ε (some ⟨p,0,none⟩):=aF hG 9;exact ai (aY rfl e1 (dP ((rp.out _ ay.world).cell (k:=0) rfl))) (eo atI rfl (by decide) ay rfl)
  ·have e1:a.eval (.tmp 12)=V Z b:=aF hG 6;have e2:a.eval (.tmp 16)=V Z f:=aF hG 10;exact ai (acK rfl e1 e2) (eo atI rfl (by decide) ay rfl)
  ·exact ai (cW rfl t1) (eo atI rfl (by decide) ay rfl)
  ·have e1:a.eval (.tmp 17)=V Z (max b f):=aF hG 11;have e2:a.eval (.tmp 18)=V Z k:=aF hG 12;exact ai (Po rfl e1 e2 rfl) (eo atI rfl (by decide) ay rfl)
  ·exact ai (cR rfl t5 T4) (eo atI rfl (by decide) ay rfl)
  ·have e1:a.eval (.tmp 20)=ε (some ⟨w.heap.size,1,none⟩):=aF hG 14;exact ai (aY rfl e1 (dP ((rb.out _ ay.world).cell (k:=1) rfl))) (eo atI rfl (by decide) ay rfl)
  ·exact ai (cW rfl t0) (eo atI rfl (by decide) ay rfl)
  ·have e1:a.eval (.tmp 22)=ε (some ⟨p,0,none⟩):=aF hG 16;exact ai (eJ rfl e1) (eo atI rfl (by decide) ay rfl)
  ·have e1:a.eval (.tmp 23)=ε (some ⟨p,0,none⟩):=aF hG 17;exact ai (cR rfl e1 TZ) (eo atI rfl (by decide) ay rfl)
  ·have e1:a.eval (.tmp 24)=ε (some ⟨p,1,none⟩):=aF hG 18;exact ai (aY rfl e1 (dP ((rp.out _ ay.world).cell (k:=1) rfl))) (eo atI rfl (by decide) ay rfl)
  ·have e1:a.eval (.tmp 21)=V Z e:=aF hG 15;have e2:a.eval (.tmp 25)=V Z t:=aF hG 19;exact ai (acL rfl e1 e2) (eo atI rfl (by decide) ay rfl)
  ·exact ai (cW rfl t1) (eo atI rfl (by decide) ay rfl)
  ·have e1:a.eval (.tmp 26)=V Z (min e t):=aF hG 20;have e2:a.eval (.tmp 27)=V Z k:=aF hG 21;exact ai (Po rfl e1 e2 rfl) (eo atI rfl (by decide) ay rfl)
  ·have e1:a.eval (.tmp 19)=.agg #[V Z (max b f),V Z k,V Z 1]:=aF hG 13;have e2:a.eval (.tmp 28)=.agg #[V Z (min e t),V Z k,V Z (-1)]:=aF hG 22;have hex:=ay.world.ex.size;refine ai (acM rfl e1 e2) ?_;refine RL atI rfl (by decide) ay (ay.world.alloc _) (λj u hj hn=>?_) ⟨Y.heap.size,rfl,M.new Y (im (GR b e f t k)) 281,hex⟩;by_cases h24:j=24
   ·subst h24;obtain⟨g,cap,a1,a2,a3⟩:=hn;exact⟨g,cap,a1,dQ a2 λg' _ hg=>Α _ _ _ hg,a3⟩
   exact wF.keep (λg _ hg=>Α _ _ _ hg) j u h24 hn
  ·have e1:a.eval (.tmp 10)=v:=aF hG 4;obtain⟨gn,e2,qy,hgn⟩:wF W2 p w.heap.size v L b e f t k 23 (a.eval (.tmp 29)) Y:=aF hG 23;obtain⟨g,cap,w9,la,xj,xk,IT,Aj⟩:=pP (P:=prog) Y 0 217 217 281 _ 3 24 underlying217 acJ rfl (by decide) v L.length (im L) ay.world.own ⟨gn,0,none⟩ 2 2 (by decide) (im (GR b e f t k)) rfl (World.news_of_block qy) (by simp[im,GR,pO,ϋ]) hL (by decide) (Ϧ _);refine ai (GU rfl e1 e2 la) ?_;refine RL atI rfl (by decide) ay ⟨ay.world.ex.trans (Ai IT) (λj hj=>.inl hj),xk⟩ (λj u hj hn=>?_) ⟨g,cap,rfl,xj,Aj.imp id (λh=>by have:=ay.world.ex.size;omega)⟩;exact wF.keep (λg' hg1 LC=>IT.block g' LC (λe=>by have:=Pq g' e.symm;omega)) j u hj hn
  ·have e1:a.eval (.tmp 6)=ε (some ⟨p,0,none⟩):=aF hG 0;exact ai (eJ rfl e1) (eo atI rfl (by decide) ay rfl)
  have e1:a.eval (.tmp 31)=ε (some ⟨p,0,none⟩):=aF hG 25;exact ai (cR rfl e1 T0) (eo atI rfl (by decide) ay rfl)
 case rdone=>
  intro a w3 ay hG;have e32:a.eval (.tmp 32)=ε (some ⟨p,2,none⟩):=hG 26 (by decide);obtain⟨g,cap,e30,xj,Aj⟩:wF W2 p w.heap.size v L b e f t k 24 (a.eval (.tmp 30)) w3:=hG 24 (by decide);have r3:=rp.out w3 ay.world;have x3:=ay.world.ex;have gh:=ay.size;have gC:=ay.defers;rw[e30]at xj;have z3:=r3.cell (k:=2) rfl;have f3:=r3.free (k:=2);have R3:=H r3;have O9:=H xj;have X3:=H x3;have Q9:=H Aj;have HV:=H Pq;clear ay hG atI rp rb Pr r3 xj x3 Aj rb0 Pq;obtain⟨fr,rfl,hf⟩:=T6 a gh gC;have g32:=(hf 32).symm.trans e32;have g30:=(hf 30).symm.trans e30;clear hf gh gC e32 e30;rw[g32,g30];clear g32 g30;go_wp2_with fail;go_end0;have hgp:g≠p:=λe=>by
   rcases Q9.out with h|h
   ·exact HS.out.ne (by rw[h,e])
   omega
  refine⟨rfl,_,⟨R3.out.set (k:=2) _,?_,λe=>hgp (ο e)⟩,?_,?_⟩
  ·have e1:L++[⟨max b f,k,1⟩,⟨min e t,k,-1⟩]=L++GR b e f t k:=rfl;rw[e1,TX,ξ];exact dQ O9.out λg' LD _=>Γ _ _ _ _ (λ(e:g'=p)=>hgp ((ο LD).trans e))
  ·exact(((ak.ar al).trans X3.out λj hj=>.inl (.inr hj)).st (.inl rfl) _)
  intro j hj;have e9:g=j:=ο hj;rw[<-e9];exact Q9.out.imp id λh=>by omega
open Go.Sort Go.Shelf Go.Lib
theorem RM (x y:eF)(W:ι):Β prog 229 #[.agg (pO x).toArray,.agg (pO y).toArray] W λe Y=>e=δ (V Z (iE x.t y.t))/\∃q os',Y=grow (W.drewN q) os':=by
 have C:Hid (∀W',Β prog 230 #[V Z x.t,V Z y.t] W' λe Y=>e=δ (V Z (iE x.t y.t))/\W'=Y):=H λW'=>E0 x.t y.t W';unfold pO;generalize iE x.t y.t=r at *
 go_enter func229,ntmps229;go_wp2_with (go_at_call 230;refine(C.out _).mono ?_;rintro e Y ⟨rfl,rfl⟩);go_ret;exact⟨rfl,0,_,by rw[alloc_eq_grow,alloc_eq_grow,grow_grow];rfl⟩
theorem E4 (x y:eF): @Go.Proofs.ltOf eF (λx y=>iE x.t y.t) x y=decide (x.t<y.t):=by
 unfold Go.Proofs.ltOf iE;by_cases G:x.t<y.t
 ·simp[G]
 by_cases A:y.t<x.t<;>simp[G,A]<;>omega
theorem acN:SWO (Go.Proofs.ltOf λx y:eF=>iE x.t y.t)where
 irrefl x:=by rw[E4];simp
 trans x y z G A:=by rw[E4]at *;simp at *;omega
 ntrans x y z G A:=by rw[E4]at *;simp at *;omega
structure amG (w:ι)(v:Value)(L:List eF):Prop where
 is:(∃a c,v=ζ a 0 c/\L=[])\/∃b c,v=ζ (some ⟨b,0,none⟩) L.length c/\∀i x,L[i]?=some x->w.cell? ⟨b,i*3,none⟩=some (V Z x.t)/\w.cell? ⟨b,i*3+1,none⟩=some (V Z x.k)/\w.cell? ⟨b,i*3+2,none⟩=some (V Z x.m)
 fW:∀b,v.ownBlock=some b->b<w.heap.size
theorem T7 {α:Type}[Inhabited α](enc:α->List Value)(k:Nat)(w:ι)(fW off m:Nat)(dk:Array α)(os:Array Obj):ak (λj=>j=fW) w (sortWorldK enc k w fW off m dk os):=by
 refine⟨rfl,rfl,rfl,size_sortWorldK_c enc k w fW off m dk os,λj hj df=>?_⟩;show((w.heap.modify fW _)++os)[j]?=_;rw[Array.getElem?_append_left (by simpa using hj),Array.getElem?_modify,if_neg (λe=>df e.symm)]
theorem T8 {L:List eF}:∀{i:Nat} {x:eF},L[i]?=some x->(im L)[i*3]?=some (V Z x.t)/\(im L)[i*3+1]?=some (V Z x.k)/\(im L)[i*3+2]?=some (V Z x.m):=by
 induction L with
 |nil=>intro i x h;cases h
 |cons y L ih=>
  intro i x h;have e:im (y::L)=pO y++im L:=rfl;cases i with
  |zero=>
   rw[List.getElem?_cons_zero]at h;cases h;rw[e];exact⟨rfl,rfl,rfl⟩
  |succ i=>
   rw[List.getElem?_cons_succ]at h;obtain⟨a,b,c⟩:=ih h;have N:(pO y).length=3:=rfl;rw[e];refine⟨?_,?_,?_⟩
   ·rw[φ (by rw[N];omega),N,show(i+1)*3-3=i*3 by omega];exact a
   ·rw[φ (by rw[N];omega),N,show(i+1)*3+1-3=i*3+1 by omega];exact b
   rw[φ (by rw[N];omega),N,show(i+1)*3+2-3=i*3+2 by omega];exact c
theorem Oy (v:Value)(L:List eF)(w:ι)(h:w.ownsRow 0 281 3 v L.length (im L))(hL:L.length<=16777216):
 Β prog 228 #[v,.func (.func 229) #[] #[]] w λe Y=>e=δ (.tuple #[])/\∃L',L'.Perm L/\L'.Pairwise (λx y=>x.t<=y.t)/\amG Y v L'/\ak (λj=>v.ownBlock=some j) w Y:=by
 have eg:∀args w,(callFunc 229 args).run prog w=.ok (.enter 229 args) w:=enters_of func229 (by kernel_rfl) rfl;have hblk:∀b,v.ownBlock=some b->b<w.heap.size:=λb U=>(h.lt b U).2;rcases h.2 with⟨rfl,h0⟩|⟨g,cap,cur,rfl,_,hg,Ps,zR,Ak,RN⟩
 ·have N:L=[]:=List.length_eq_zero_iff.1 h0;subst N;refine(AnyF.slices_SortFunc_none Tryz.laysEdg none 0 _ w).mono ?_;rintro e Y ⟨rfl,rfl⟩;exact⟨rfl,[],List.Perm.refl _,List.Pairwise.nil,⟨.inl ⟨_,_,rfl,rfl⟩,hblk⟩,ak.refl _ _⟩
 haveI:Inhabited eF:=⟨⟨0,0,0⟩⟩
 have hlen:L.toArray.size=L.length:=by simp
 have aB:∀i x,L[i]?=some x->∀k,k<3->w.cell? ⟨g,i*3+k,none⟩=some ((pO x)[k]!)/\w.frozen? ⟨g,i*3+k,none⟩=false:=by
  intro i x S k I;obtain⟨a1,a2,a3⟩:=T8 S;have jl:=(List.getElem?_eq_some_iff.1 S).1;have hc:∀m u,(im L)[m]?=some u->w.cell? ⟨g,m,none⟩=some u:=λm u hm=>by
   have:=h.cells (g:=g) rfl m u hm;rwa [Addr.add_lit,Ϛ]at this
  have hf:∀m,w.frozen? ⟨g,m,none⟩=false:=λm=>by
   simp[World.frozen?,hg]
  match k,I with
  |0,_=>exact⟨hc _ _ a1,hf _⟩
  |1,_=>exact⟨hc _ _ a2,hf _⟩
  |2,_=>exact⟨hc _ _ a3,hf _⟩
 have hH:HoldsK pO 3 w g 0 L.toArray:=by
  intro t ht;rw[size_flatK]at ht;rw[get_flatK _ _ _ _ ht];have aQ:t/3<L.length:=by simp at ht;omega
  have e1:L.toArray[t/3]! =L[t/3]:=by
   rw[getElem!_pos L.toArray (t/3) (by simpa using aQ)];simp
  rw[e1,Ϛ,id];have:=aB (t/3) L[t/3] (ν aQ) (t%3) (Nat.mod_lt _ (by decide));rwa [show t/3*3+t%3=t by omega]at this
 have aeJ:=hblk g rfl;have aeK:=AnyQ.slices_SortFunc Tryz.laysEdg 3 Tryz.isAgg281 Tryz.sizeOf281 pO (λ_=>rfl) (λx v hv=>by
  simp[pO]at hv;rcases hv with rfl|rfl|rfl<;>rfl) (λx y:eF=>iE x.t y.t) acN 229 #[] g 0 cap L.toArray w eg (λm os dk _ x y=>RM x y _) hH aeJ (by simp;omega)
 rw[hlen]at aeK;refine aeK.mono ?_;rintro e Y ⟨rfl,d',n,os,J,hs,rfl⟩;obtain⟨lO,E5,hp3⟩:=J;rw[hlen]at lO;have e1:d'.extract 0 L.length=d':=by rw[<-lO];simp
 have e2:L.toArray.extract 0 L.length=L.toArray:=by simp
 rw[e1,e2]at hp3;have aeL:d'.toList.length=L.length:=by simpa using lO
 have hH':=holdsK_sortWorldK_c pO 3 w g 0 L.toArray d' n os hH aeJ (by rw[lO,hlen]);refine⟨rfl,d'.toList,by simpa using hp3,?_,⟨.inr ⟨g,cap,by rw[aeL],λi x S=>?_⟩,λb U=>?_⟩,?_⟩
 ·rw[List.pairwise_iff_getElem];intro i j S hj hij;have:=hs i j (Ϧ _) hij (by rw[<-aeL];exact hj);rw[E4]at this;have f1:d'[i]! =d'.toList[i]:=by rw[getElem!_pos d' i (by simpa using S)];simp
  have f2:d'[j]! =d'.toList[j]:=by rw[getElem!_pos d' j (by simpa using hj)];simp
  rw[f1,f2]at this;simp at this;simpa using this
 ·obtain⟨jl,X⟩:=List.getElem?_eq_some_iff.1 S;have hid:i<d'.size:=by simpa using jl
  have f1:d'[i]! =x:=by rw[getElem!_pos d' i hid,<-X];simp
  have g0:=(hH'.cell hid (c:=0) (by decide)).1;have g1:=(hH'.cell hid (c:=1) (by decide)).1;have g2:=(hH'.cell hid (c:=2) (by decide)).1;rw[f1]at g0 g1 g2;rw[Ϛ]at g0 g1 g2;exact⟨g0,g1,g2⟩
 ·exact ψ (hblk b U) (size_sortWorldK_c pO 3 w g 0 n d' os)
 refine(T7 pO 3 w g 0 n d' os).mono λj hj=>.inl ?_;rw[hj];rfl
def RO (x:Int×Int×Int):List Value:=[V Z x.1,V Z x.2.1,V Z x.2.2]
def jB (R:List (Int×Int×Int)):List Value:=R.flatMap RO
theorem RP (R:List (Int×Int×Int))(x:Int×Int×Int):jB (R++[x])=jB R++RO x:=by unfold jB;simp
theorem acO:(prog.info? 232).map (λi=>(i.zero,i.size,i.bytes))=some (some (.agg #[V Z 0,V Z 0,V Z 0]),3,24):=by kernel_rfl
theorem Kn (c0 c1 c2:Int)(w:ι):
 Β prog 231 #[.agg #[V Z c0,V Z c1,V Z c2]] w λe Y=>e=δ (V Z (gQ c1 c2))/\Below w.heap.size w Y:=by
 have U:Below w.heap.size w (w.alloc (θ #[V Z c0,V Z c1,V Z c2] 105)):=(μ _ _).alloc (κ _) _;unfold gQ;by_cases A:0<c2
 ·rw[if_pos A];have uB:c2>0:=A;go_enter func231,ntmps231;go_wp2_with fail;go_ret;exact⟨rfl,U⟩
 rw[if_neg A];have uB:¬c2>0:=A;by_cases G:0<c1
 ·rw[if_pos G];have tf:c1>0:=G;go_enter func231,ntmps231;go_wp2_with fail;go_ret;exact⟨rfl,U⟩
 rw[if_neg G];have tf:¬c1>0:=G;go_enter func231,ntmps231;go_wp2_with fail;go_ret;exact⟨rfl,U⟩
theorem IU (a:Ϣ)(h:a.tmps.size=81)(hd:a.defers=[]):∃f:Nat->Value,a=⟨List.toArray (f 0::f 1::f 2::f 3::f 4::f 5::f 6::f 7::f 8::f 9::f 10::f 11::f 12::f 13::f 14::f 15::f 16::f 17::f 18::f 19::f 20::f 21::f 22::f 23::f 24::f 25::f 26::f 27::f 28::f 29::f 30::f 31::f 32::f 33::f 34::f 35::f 36::f 37::f 38::f 39::f 40::f 41::f 42::f 43::f 44::f 45::f 46::f 47::f 48::f 49::f 50::f 51::f 52::f 53::f 54::f 55::f 56::f 57::f 58::f 59::f 60::f 61::f 62::f 63::f 64::f 65::f 66::f 67::f 68::f 69::f 70::f 71::f 72::f 73::f 74::f 75::f 76::f 77::f 78::f 79::f 80::[]),[]⟩/\∀k,a.eval (.tmp k)=f k:=gO 81 a h hd
theorem GX {P:Program}{ops:Array Ϥ}{Q:Exit->Ϣ->ι->Prop}{rest:List Ϥ}{o:Ϥ}{a:Ϣ}{w:ι}(pD:o.guard=none)(s x:ό)(t e:ϙ)(z:Value)(sz bytes:Nat)
 (ho:o.op=.call {callee:=.builtin .append,args:=#[s,x],argTypes:=#[t,t]})(hu:P.underlying t=some (.slice e))(yh:(P.info? e).map (λi=>(i.zero,i.size,i.bytes))=some (some z,sz,bytes))(hz:z.cells.size=sz)(h0:0<sz)(B:Nat)(v:Value)(n:Nat)(xs:List Value)(hs:a.eval s=v)
 (aU:w.ownsRow B e sz v n xs)(p m:Nat)(hm:0<m)(news:List Value)(N:news.length=m*sz)(X:a.eval x=ζ (some ⟨p,0,none⟩) m m)(hc:M w p news e)(G:∀u∈news,u.oneCell'=true)(hn:n+m<=16777216)(uf:bytes<=64)(hB:B<=w.heap.size)
 (hK:∀g cap Y,Y.ownsRow B e sz (ζ (some ⟨g,0,none⟩) (n+m) cap) (n+m) (xs++news)->w.grownBy Y v.ownBlock->(v.ownBlock=some g\/g=w.heap.size)->wpList P ops Q rest (a.put o.dst (ζ (some ⟨g,0,none⟩) (n+m) cap)) Y):wpList P ops Q (o::rest) a w:=by
 obtain⟨g,cap,w9,la,xj,_,IT,Aj⟩:=pP (P:=P) w B t o.type e z sz bytes hu yh hz h0 v n xs aU ⟨p,0,none⟩ m m hm news N (World.news_of_block hc) G hn uf hB;exact wpList_plain pD λatH oc=>ai (GU ho hs X la) (oc _ _ (hK g cap w9 xj IT Aj))
structure aeN (p C Eb:Nat)(f:Int)(a5:Option Addr)(n c5:Nat)(s3:Value)(bg kd:Int)(i:Nat)(a:Ϣ):Prop where
 size:a.tmps.size=81
 defers:a.defers=[]
 s0:a.eval (.tmp 0)=ε (some ⟨p,0,none⟩)
 s3:a.eval (.tmp 3)=s3
 s4:a.eval (.tmp 4)=ε (some ⟨C,0,none⟩)
 s5:a.eval (.tmp 5)=V Z bg
 s6:a.eval (.tmp 6)=V Z kd
 s7:a.eval (.tmp 7)=V Z i
 s8:a.eval (.tmp 8)=ε (some ⟨Eb,0,none⟩)
 s23:a.eval (.tmp 23)=ζ a5 n c5
 s24:a.eval (.tmp 24)=V Z n
 s25:a.eval (.tmp 25)=V Z i
 s1:a.eval (.tmp 1)=undef
 s2:a.eval (.tmp 2)=ζ none 0 0
 s11:a.eval (.tmp 11)=ε (some ⟨p,0,none⟩)
 s12:a.eval (.tmp 12)=ε (some ⟨p,0,none⟩)
 s13:a.eval (.tmp 13)=ε (some ⟨p,2,none⟩)
 LF:a.eval (.tmp 14)=ζ a5 n c5
 Pt:a.eval (.tmp 15)=.tuple #[]
 Pu:a.eval (.tmp 16)=ε (some ⟨p,0,none⟩)
 Pv:a.eval (.tmp 17)=ε (some ⟨p,0,none⟩)
 s18:a.eval (.tmp 18)=ε (some ⟨p,0,none⟩)
 T9:a.eval (.tmp 19)=V Z f
 Ua:a.eval (.tmp 20)=ε (some ⟨p,0,none⟩)
 s21:a.eval (.tmp 21)=ε (some ⟨p,0,none⟩)
 s22:a.eval (.tmp 22)=ε (some ⟨p,2,none⟩)
 s80:a.eval (.tmp 80)=undef
def aeO (v:Value)(f:Int)(L:List eF)(w:ι):ϣ->ι->Prop:=λE Y=>
 ∃vs L',L'.Perm L/\L'.Pairwise (λx y:eF=>x.t<=y.t)/\E=δ vs/\Y.ownsRow w.heap.size 232 3 vs (gi 0 0 f 0 L').length (jB (gi 0 0 f 0 L'))/\ak (λj=>v.ownBlock=some j) w Y
theorem Ko (p:Nat)(f t:Int)(v:Value)(L:List eF)(w:ι)(h:gP w p f t v L)(hL:L.length<=16777216)(I:∀e∈L,(e.k=0\/e.k=1\/e.k=2)/\(e.m=1\/e.m=-1)):
 Β prog 177 #[ε (some ⟨p,0,none⟩)] w (aeO v f L w):=by
 have aiF:∃a5 c5,v=ζ a5 L.length c5:=by
  rcases h.own.2 with⟨e,h0⟩|⟨g,cap,cur,e,_⟩
  ·exact⟨none,0,by rw[e,h0]⟩
  exact⟨_,_,e⟩
 have k2:=h.row.cell (k:=2) rfl;have HS:=H (Oy v L w h.own hL);have HW:=H h;obtain⟨a5,c5,Pw⟩:=aiF;rw[Pw]at HS k2;clear h;go_enter func177,ntmps177;go_upto_region 2 with(go_at_call 228;refine(HS.out).mono ?_;rintro E W1 ⟨rfl,L',uC,Px,ib,bz⟩);clear HS k2;have r1:M W1 p [V Z f,V Z t,ζ a5 L.length c5] 219:=by
  rw[<-Pw];exact HW.out.row.ex bz (λe=>HW.out.ne (by rw[Pw];exact e))
 have qz:p<W1.heap.size:=r1.lt;have k0:=r1.cell (k:=0) rfl;have k2:=r1.cell (k:=2) rfl;have hlen:L'.length=L.length:=uC.length_eq;rw[<-hlen]at k2 ib r1⊢;replace I:Hid (∀e∈L',(e.k=0\/e.k=1\/e.k=2)/\(e.m=1\/e.m=-1)):=H λe he=>I e (uC.mem_iff.1 he);replace hL:L'.length<=16777216:=by omega
 have HF:Hid (∀E Y,(∃vs,E=δ vs/\Y.ownsRow w.heap.size 232 3 vs (gi 0 0 f 0 L').length (jB (gi 0 0 f 0 L'))/\Below W1.heap.size W1 Y)->aeO v f L w E Y):=H λE Y ⟨vs,G,A,K⟩=>⟨vs,L',uC,Px,G,A,by rw[Pw];exact bz.aM (ak.ar K)⟩;have Ag:=bz.size;replace bz:=H bz;replace hlen:=H hlen;replace ib:=H ib;replace uC:=H uC;replace Px:=H Px;have aO:Below W1.heap.size W1 (W1.alloc (θ #[V Z 0,V Z 0,V Z 0] 105)):=(μ _ _).alloc (κ _) _;have Pr:=M.new W1 [V Z 0,V Z 0,V Z 0] 105;go_wp2_with fail;clear k0 k2;have eW:(W1.alloc (.cells [V Z 0,V Z 0,V Z 0].toArray 105))=W1.alloc (θ #[V Z 0,V Z 0,V Z 0] 105):=rfl;rw[eW]at Pr;clear eW;have fN:=H (show(W1.alloc (θ #[V Z 0,V Z 0,V Z 0] 105)).heap.size=W1.heap.size+1 by simp);generalize(W1.alloc (θ #[V Z 0,V Z 0,V Z 0] 105))=W2 at *
 go_loopg [3,5,6,25] L'.length (λq s3 s5 s6 s25 wr=>∃(i:Nat) (c0 c1 c2 bg kd:Int) (R:List (Int×Int×Int)),i+q=L'.length/\s25=V Z i/\s5=V Z bg/\s6=V Z kd/\(-i<=c0/\c0<=i∧-i<=c1/\c1<=i∧-i<=c2/\c2<=i)/\wr.ownsRow (W1.heap.size+1) 232 3 s3 R.length (jB R)/\M wr W1.heap.size [V Z c0,V Z c1,V Z c2] 105/\Below W1.heap.size W1 wr/\Hid (R++gi c1 c2 bg kd (L'.drop i)=gi 0 0 f 0 L')/\R.length<=i)
 case atStart=>
  exact⟨0,0,0,0,f,0,[],by omega,rfl,rfl,rfl,by omega,Ρ _ _ _ _,Pr,aO,H (by simp),κ _⟩
 case round=>
  obtain⟨i,c0,c1,c2,bg,kd,R,hiq,rfl,rfl,rfl,hcb,aU,hC,al,hR,hRl⟩:=hrel;by_cases lP:i=L'.length
  case pos=>
   subst lP;have e1:R=gi 0 0 f 0 L':=by have:=hR.out;rw[List.drop_length]at this;simpa[gi]using this
   have eY:∃a6 n6 c6,u3=ζ a6 n6 c6:=by
    rcases aU.2 with⟨e,_⟩|⟨g,cap,cur,e,_⟩
    ·exact⟨_,_,_,e⟩
    exact⟨_,_,_,e⟩
   obtain⟨a6,n6,c6,rfl⟩:=eY;have aiG:=H (show wr.ownsRow w.heap.size 232 3 (ζ a6 n6 c6) R.length (jB R)from⟨aU.1,aU.2.elim .inl λ⟨g,cap,cur,G,A,K⟩=>.inr ⟨g,cap,cur,G,by omega,K⟩⟩);clear hR hC aU hcb;go_wp2_with fail;go_ret;exact HF.out _ _ ⟨_,rfl,by rw[<-e1];exact aiG.out,al⟩
  case neg=>
   have aQ:i<L'.length:=by omega
   have Al:(i:Int)<(L'.length:Int):=by omega
   obtain⟨e,he⟩:∃e,L'[i]?=some e:=⟨_,ν aQ⟩;obtain⟨pQ,hme⟩:=I.out e (Κ he);have hdr:L'.drop i=e::L'.drop (i+1):=by rw[Ϗ aQ];congr 1;exact ο ((ν aQ).symm.trans he)
   obtain⟨b5,ha5,amH,dY⟩:∃b5,a5=some ⟨b5,0,none⟩/\b5<W1.heap.size/\Hid (∀j x,L'[j]?=some x->W1.cell? ⟨b5,j*3,none⟩=some (V Z x.t)/\W1.cell? ⟨b5,j*3+1,none⟩=some (V Z x.k)/\W1.cell? ⟨b5,j*3+2,none⟩=some (V Z x.m)):=by
    have Am:=ib.out.fW;rcases ib.out.is with⟨_,_,_,h'⟩|⟨b5,c,hv,dY⟩
    ·rw[h']at aQ;simp at aQ
    injection hv with G A K
    subst G;exact⟨b5,rfl,Am b5 rfl,H dY⟩
   subst ha5;have IV:Hid (∀W',Below W1.heap.size W1 W'->∀j x,L'[j]?=some x->W'.cell? ⟨b5,j*3,none⟩=some (V Z x.t)/\W'.cell? ⟨b5,j*3+1,none⟩=some (V Z x.k)/\W'.cell? ⟨b5,j*3+2,none⟩=some (V Z x.m)):=H λW' U j x hj=>by
    have e0:∀o,W'.cell? ⟨b5,o,none⟩=W1.cell? ⟨b5,o,none⟩:=λo=>World.cell?_of_block (U.block b5 amH);rw[e0,e0,e0];exact dY.out j x hj
   obtain⟨q0,q1,q2⟩:=IV.out wr al i e he;have amI:=hC.lt;go_upto_region 8 with fail;rename_i K9 Ub;obtain⟨d1,cD⟩:∃d1,d1=c1+if e.k=1 then e.m else 0:=⟨_,rfl⟩;obtain⟨d2,uj⟩:∃d2,d2=c2+if e.k=2 then e.m else 0:=⟨_,rfl⟩;replace cD:=H cD;replace uj:=H uj;have hrE:=M.new wr [V Z e.t,V Z e.k,V Z e.m] 281;have r9:∀a w8 d0,aeN p W1.heap.size wr.heap.size f (some ⟨b5,0,none⟩) L'.length c5 u3 bg kd i a->(-((i:Int)+1)<=d0/\d0<=(i:Int)+1)->M w8 W1.heap.size [V Z d0,V Z d1,V Z d2] 105->M w8 wr.heap.size [V Z e.t,V Z e.k,V Z e.m] 281->w8.ownsRow (W1.heap.size+1) 232 3 u3 R.length (jB R)->Below W1.heap.size W1 w8->(∀j,u3.ownBlock=some j->j<wr.heap.size)->K9 a w8:=by
    intro a w8 d0 hF LG hC8 An hO8 Py hu8;refine Ub a w8 ?_;clear Ub K9;obtain⟨fr,rfl,hf⟩:=IU a hF.size hF.defers;have g0:=(hf 0).symm.trans hF.s0;have g3:=(hf 3).symm.trans hF.s3;have g4:=(hf 4).symm.trans hF.s4;have g5:=(hf 5).symm.trans hF.s5;have g6:=(hf 6).symm.trans hF.s6;have g7:=(hf 7).symm.trans hF.s7;have g8:=(hf 8).symm.trans hF.s8;have g23:=(hf 23).symm.trans hF.s23;have g24:=(hf 24).symm.trans hF.s24;have Uc:=(hf 25).symm.trans hF.s25;have g1:=(hf 1).symm.trans hF.s1;have g2:=(hf 2).symm.trans hF.s2;have g11:=(hf 11).symm.trans hF.s11;have g12:=(hf 12).symm.trans hF.s12;have g13:=(hf 13).symm.trans hF.s13;have g14:=(hf 14).symm.trans hF.LF;have g15:=(hf 15).symm.trans hF.Pt;have g16:=(hf 16).symm.trans hF.Pu;have g17:=(hf 17).symm.trans hF.Pv;have g18:=(hf 18).symm.trans hF.s18;have g19:=(hf 19).symm.trans hF.T9;have g20:=(hf 20).symm.trans hF.Ua;have g21:=(hf 21).symm.trans hF.s21;have g22:=(hf 22).symm.trans hF.s22;have Ud:=(hf 80).symm.trans hF.s80;clear hf hF;rw[g0,g3,g4,g5,g6,g7,g8,g23,g24,Uc,g1,g2,g11,g12,g13,g14,g15,g16,g17,g18,g19,g20,g21,g22,Ud];clear g0 g3 g4 g5 g6 g7 g8 g23 g24 Uc g1 g2 g11 g12 g13 g14 g15 g16 g17 g18 g19 g20 g21 g22 Ud;have hwi:IntKind.i64.wrap ((i:Int)+1)=(i:Int)+1:=gN (by omega) (by omega);go_upto_region 10 with fail;have z0:=An.cell (k:=0) rfl;have k2:=(r1.on Py).cell (k:=2) rfl;rename_i K11 Yd K10 amJ;have iK:Hid (gi c1 c2 bg kd (L'.drop i)=if yu e.t (L'.drop (i+1))=true\/gQ d1 d2=kd then gi d1 d2 bg kd (L'.drop (i+1))else(if kd=0 then[]else[(bg,e.t,kd)])++gi d1 d2 e.t (gQ d1 d2) (L'.drop (i+1))):=H (by rw[hdr,gi,<-cD.out,<-uj.out]);have aqX:-((i:Int)+1)<=d1/\d1<=(i:Int)+1∧-((i:Int)+1)<=d2/\d2<=(i:Int)+1:=by
     rw[cD.out,uj.out];refine⟨?_,?_,?_,?_⟩<;>split<;>omega
    have E6:yu e.t (L'.drop (i+1))=false->∀a nq,aeN p W1.heap.size wr.heap.size f (some ⟨b5,0,none⟩) L'.length c5 u3 bg kd i a->K11 a (w8.drewN nq):=by
     intro mQ a nq hF;refine Yd a _ ?_;clear Yd K11 amJ K10 z0 k2;have IW:(w8.drewN nq).ownsRow (W1.heap.size+1) 232 3 u3 R.length (jB R):=hO8;have vF:M (w8.drewN nq) W1.heap.size [V Z d0,V Z d1,V Z d2] 105:=hC8;have Ue:M (w8.drewN nq) wr.heap.size [V Z e.t,V Z e.k,V Z e.m] 281:=An;have E7:=below_drewN Py nq;clear hO8 hC8 An Py;generalize w8.drewN nq=atD at *
     obtain⟨fr2,rfl,hf⟩:=IU a hF.size hF.defers;have g0:=(hf 0).symm.trans hF.s0;have g3:=(hf 3).symm.trans hF.s3;have g4:=(hf 4).symm.trans hF.s4;have g5:=(hf 5).symm.trans hF.s5;have g6:=(hf 6).symm.trans hF.s6;have g7:=(hf 7).symm.trans hF.s7;have g8:=(hf 8).symm.trans hF.s8;have g23:=(hf 23).symm.trans hF.s23;have g24:=(hf 24).symm.trans hF.s24;have Uc:=(hf 25).symm.trans hF.s25;have g1:=(hf 1).symm.trans hF.s1;have g2:=(hf 2).symm.trans hF.s2;have g11:=(hf 11).symm.trans hF.s11;have g12:=(hf 12).symm.trans hF.s12;have g13:=(hf 13).symm.trans hF.s13;have g14:=(hf 14).symm.trans hF.LF;have g15:=(hf 15).symm.trans hF.Pt;have g16:=(hf 16).symm.trans hF.Pu;have g17:=(hf 17).symm.trans hF.Pv;have g18:=(hf 18).symm.trans hF.s18;have g19:=(hf 19).symm.trans hF.T9;have g20:=(hf 20).symm.trans hF.Ua;have g21:=(hf 21).symm.trans hF.s21;have g22:=(hf 22).symm.trans hF.s22;have Ud:=(hf 80).symm.trans hF.s80;clear hf hF;rw[g0,g3,g4,g5,g6,g7,g8,g23,g24,Uc,g1,g2,g11,g12,g13,g14,g15,g16,g17,g18,g19,g20,g21,g22,Ud];clear g0 g3 g4 g5 g6 g7 g8 g23 g24 Uc g1 g2 g11 g12 g13 g14 g15 g16 g17 g18 g19 g20 g21 g22 Ud;have y0:=vF.cell (k:=0) rfl;have y1:=vF.cell (k:=1) rfl;have y2:=vF.cell (k:=2) rfl;have CS:=H (Kn d0 d1 d2 atD);go_upto_region 12 with(go_at_call 231;refine(CS.out).mono ?_;rintro E atx ⟨rfl,uD⟩);replace IW:=dQ IW (Y:=atx) λg _ N=>uD.block g N;replace vF:=vF.on uD;replace Ue:=Ue.on uD;replace E7:=E7.trans (uD.mono E7.size);clear y0 y1 y2 CS;have hlY:=Ue.lt;by_cases Pz:gQ d1 d2=kd
     case pos=>
      have Ao:(gQ d1 d2==kd)=true:=by simp[Pz]
      generalize hsg:gQ d1 d2=sg at *
      go_wp2_with fail;go_roundg (gk-1)
      case measure=>omega
      case rel=>exact⟨i+1,d0,d1,d2,bg,kd,R,by omega,by go_num,rfl,rfl,by omega,IW,vF,E7,H (by rw[<-hR.out,iK.out,if_pos (.inr Pz)]),by omega⟩
     case neg=>
      have Ao:(gQ d1 d2==kd)=false:=by simp[Pz]
      have GY:=H (iK.out.trans (if_neg (λh=>h.elim (λh=>by rw[mQ]at h;cases h) Pz)));generalize hsg:gQ d1 d2=sg at *
      have z0:=Ue.cell (k:=0) rfl;by_cases oa:kd=0
      case pos=>
       have Ye:=H (GY.out.trans (by rw[if_pos oa,Ζ]));subst oa;clear GY;go_wp2_with fail;go_roundg (gk-1)
       case measure=>omega
       case rel=>exact⟨i+1,d0,d1,d2,e.t,sg,R,by omega,by go_num,rfl,rfl,by omega,IW,vF,E7,H (by rw[<-hR.out,Ye.out]),by omega⟩
      case neg=>
       have aqY:(kd==0)=false:=by simp[oa]
       have Ye:=H (GY.out.trans (by rw[if_neg oa]));clear GY;have qy:=M.new atx [V Z bg,V Z e.t,V Z kd] 232;have hYs:=H E7.size;have aeP:∀j,u3.ownBlock=some j->W1.heap.size+1<=j/\j<atx.heap.size:=λj hj=>IW.lt j hj;go_wp2_with (refine GX rfl (.tmp 67) (.tmp 74) 229 232 _ 3 24 rfl underlying229 acO rfl (by decide) (W1.heap.size+1) _ R.length (jB R) rfl (IW.alloc _) atx.heap.size 1 (by decide) [V Z bg,V Z e.t,V Z kd] rfl rfl qy (by simp[ϋ]) (by omega) (by decide) (by have:=vF.lt;have:=hYs.out;simp;omega) ?_;intro g9 Yf ad Uf hgZ _;have hEZ:=(show M ad wr.heap.size _ _ from(hgZ.block _ (by simp;omega) (λe=>by have:=hu8 _ e.symm;omega)).trans ((Α _ _ _ hlY).trans Ue));have zZ:=hEZ.cell (k:=0) rfl);have hsY:=hYs.out;have hlC:=vF.lt;have hCZ:M ad W1.heap.size [V Z d0,V Z d1,V Z d2] 105:=(hgZ.block _ (by simp;omega) (λe=>by have:=(aeP _ e.symm).1;omega)).trans ((Α _ _ _ hlC).trans vF);have hBZ:Below W1.heap.size W1 ad:=(E7.alloc hsY _).grown hgZ (by simp;omega) (λk I=>by have:=(aeP k I).1;omega);go_roundg (gk-1)
       case measure=>omega
       case rel=>exact⟨i+1,d0,d1,d2,e.t,sg,R++[(bg,e.t,kd)],by omega,by go_num,rfl,rfl,by omega,by rw[RP,ξ];exact Uf,hCZ,hBZ,H (by rw[<-hR.out,Ye.out,Ϟ]),by rw[ξ];simp;omega⟩
    clear Yd;replace E6:=H E6;by_cases zt:i+1<L'.length
    case pos=>
     have aeR:(i:Int)+1<(L'.length:Int):=by omega
     obtain⟨e2,E8⟩:∃e2,L'[i+1]?=some e2:=⟨_,ν zt⟩;have hsT:yu e.t (L'.drop (i+1))=decide (e2.t=e.t):=by
      rw[Ϗ zt];have:L'[i+1]=e2:=ο ((ν zt).symm.trans E8);rw[this];rfl
     obtain⟨p0,_,_⟩:=IV.out w8 Py (i+1) e2 E8;by_cases hte:e2.t=e.t
     case pos=>
      go_big_quiet (fail);have IW:(w8.drewN nq).ownsRow (W1.heap.size+1) 232 3 u3 R.length (jB R):=hO8;have vF:M (w8.drewN nq) W1.heap.size [V Z d0,V Z d1,V Z d2] 105:=hC8;have E7:=below_drewN Py nq;clear E6 hO8 hC8 An Py z0 k2 p0;go_wp2_with fail;go_roundg (gk-1)
      case measure=>omega
      case rel=>exact⟨i+1,d0,d1,d2,bg,kd,R,by omega,by go_num,rfl,rfl,by omega,IW,vF,E7,H (by rw[<-hR.out,iK.out,if_pos (.inl (by rw[hsT];simpa using hte))]),by omega⟩
     case neg=>
      go_big_quiet (fail);go_wp2_with fail;exact E6.out (by rw[hsT];simpa using hte) _ nq ⟨rfl,rfl,rfl,rfl,rfl,rfl,rfl,rfl,rfl,rfl,rfl,rfl,rfl,rfl,rfl,rfl,rfl,rfl,rfl,rfl,rfl,rfl,rfl,rfl,rfl,rfl,rfl⟩
    case neg=>
     have aeR:¬(i:Int)+1<(L'.length:Int):=by omega
     go_big_quiet (fail);go_wp2_with fail;exact E6.out (by rw[List.drop_eq_nil_of_le (by omega)];rfl) _ nq ⟨rfl,rfl,rfl,rfl,rfl,rfl,rfl,rfl,rfl,rfl,rfl,rfl,rfl,rfl,rfl,rfl,rfl,rfl,rfl,rfl,rfl,rfl,rfl,rfl,rfl,rfl,rfl⟩
   clear Ub;replace r9:=H r9;have E9:∀j,u3.ownBlock=some j->W1.heap.size+1<=j/\j<wr.heap.size:=λj hj=>aU.lt j hj;have IX:M (wr.alloc (θ #[V Z e.t,V Z e.k,V Z e.m] 281)) W1.heap.size [V Z c0,V Z c1,V Z c2] 105:=hC.keep (Α _ _ _ amI);have lQ:M (wr.alloc (θ #[V Z e.t,V Z e.k,V Z e.m] 281)) wr.heap.size [V Z e.t,V Z e.k,V Z e.m] 281:=hrE;have hOb:=aU.alloc (θ #[V Z e.t,V Z e.k,V Z e.m] 281);have zu:=al.alloc al.size (θ #[V Z e.t,V Z e.k,V Z e.m] 281);have hnE:wr.heap.size≠W1.heap.size:=by omega
   clear hrE hC aU al q0 q1 q2;generalize(wr.alloc (θ #[V Z e.t,V Z e.k,V Z e.m] 281))=W8 at *
   have z0:=lQ.cell (k:=0) rfl;have z1:=lQ.cell (k:=1) rfl;have z2:=lQ.cell (k:=2) rfl;have y0:=IX.cell (k:=0) rfl;have y1:=IX.cell (k:=1) rfl;have y2:=IX.cell (k:=2) rfl;have x0:=IX.free (k:=0);have x1:=IX.free (k:=1);have x2:=IX.free (k:=2);have eY:Hid (∀(nq j:Nat) (u:Value),ak (λk=>k=W1.heap.size) W8 ((W8.drewN nq).setCell ⟨W1.heap.size,j,none⟩ u)):=H λnq j u=>(fP (λk=>k=W1.heap.size) W8 nq).st rfl u;have RQ:Hid (∀W9,ak (λk=>k=W1.heap.size) W8 W9->M W9 wr.heap.size [V Z e.t,V Z e.k,V Z e.m] 281/\W9.ownsRow (W1.heap.size+1) 232 3 u3 R.length (jB R)/\Below W1.heap.size W1 W9):=H λW9 X=>⟨lQ.ex X hnE,dQ hOb λg hg N=>X.block g N (λe=>by have:=(E9 g hg).1;omega),zu.trans (X.below zu.size (λj hj=>by omega))⟩;have HCb:=H IX;clear lQ hOb zu IX;rcases pQ with pQ|pQ|pQ
   case inl=>
    rw[pQ]at z1;have hw:IntKind.i64.wrap (c0+e.m)=c0+e.m:=gN (by omega) (by omega);have g1:d1=c1:=by rw[cD.out,pQ];simp
    have g2:d2=c2:=by rw[uj.out,pQ];simp
    refine iZ 6 ?_
    iterate 6 (go_big_quiet_step (fail))
    refine wpQuiet_nil ?_;rintro _ ⟨nq,rfl⟩;go_wp2_with fail;have i7:=eY.out nq 0 (V Z (c0+e.m));obtain⟨m1,m2,m3⟩:=RQ.out _ i7;refine r9.out _ _ (c0+e.m) ⟨rfl,rfl,rfl,rfl,rfl,rfl,rfl,rfl,rfl,rfl,rfl,rfl,rfl,rfl,rfl,rfl,rfl,rfl,rfl,rfl,rfl,rfl,rfl,rfl,rfl,rfl,rfl⟩ (by omega) ?_ m1 m2 m3 (λj hj=>(E9 j hj).2);rw[g1,g2];exact M.set (k:=0) (show M (W8.drewN nq) _ _ _ from HCb.out) _
   case inr.inl=>
    rw[pQ]at z1;have hw:IntKind.i64.wrap (c1+e.m)=c1+e.m:=gN (by omega) (by omega);have g1:d1=c1+e.m:=by rw[cD.out,pQ];simp
    have g2:d2=c2:=by rw[uj.out,pQ];simp
    refine iZ 6 ?_
    iterate 6 (go_big_quiet_step (fail))
    refine wpQuiet_nil ?_;rintro _ ⟨nq,rfl⟩;go_wp2_with fail;have i7:=eY.out nq 1 (V Z (c1+e.m));obtain⟨m1,m2,m3⟩:=RQ.out _ i7;refine r9.out _ _ c0 ⟨rfl,rfl,rfl,rfl,rfl,rfl,rfl,rfl,rfl,rfl,rfl,rfl,rfl,rfl,rfl,rfl,rfl,rfl,rfl,rfl,rfl,rfl,rfl,rfl,rfl,rfl,rfl⟩ (by omega) ?_ m1 m2 m3 (λj hj=>(E9 j hj).2);rw[g1,g2];exact M.set (k:=1) (show M (W8.drewN nq) _ _ _ from HCb.out) _
   case inr.inr=>
    rw[pQ]at z1;have hw:IntKind.i64.wrap (c2+e.m)=c2+e.m:=gN (by omega) (by omega);have g1:d1=c1:=by rw[cD.out,pQ];simp
    have g2:d2=c2+e.m:=by rw[uj.out,pQ];simp
    refine iZ 6 ?_
    iterate 6 (go_big_quiet_step (fail))
    refine wpQuiet_nil ?_;rintro _ ⟨nq,rfl⟩;go_wp2_with fail;have i7:=eY.out nq 2 (V Z (c2+e.m));obtain⟨m1,m2,m3⟩:=RQ.out _ i7;refine r9.out _ _ c0 ⟨rfl,rfl,rfl,rfl,rfl,rfl,rfl,rfl,rfl,rfl,rfl,rfl,rfl,rfl,rfl,rfl,rfl,rfl,rfl,rfl,rfl,rfl,rfl,rfl,rfl,rfl,rfl⟩ (by omega) ?_ m1 m2 m3 (λj hj=>(E9 j hj).2);rw[g1,g2];exact M.set (k:=2) (show M (W8.drewN nq) _ _ _ from HCb.out) _
def dE (n:Int):ByteArray:=⟨(vz n).toArray⟩
theorem iq (n:Int):(dE n).size<=16:=by have:=acG n;show(vz n).toArray.size<=16;simpa using this
def sB:ByteArray:=⟨#[70,82,69,69,66,85,83,89,59,70,66,84,89,80,69,61]⟩
def LH (k:Int):ByteArray:=if k=1 then⟨#[66,85,83,89,45,84,69,78,84,65,84,73,86,69]⟩else⟨#[66,85,83,89]⟩
def kF (x:Int×Int×Int):ByteArray:=sB++LH x.2.2++⟨#[58]⟩++dE x.1++⟨#[47]⟩++dE x.2.1
theorem Fb (n:Int)(w:ι)(ht:jg w):
 Β prog 176 #[V Z n] w λE Y=>E=δ (η (dE n))/\Below w.heap.size w Y:=by
 have C:=jQ n w ht;obtain⟨x,e1⟩:=pE n;rw[e1]at C;replace C:=H C;unfold dE;clear e1;generalize(⟨(vz n).toArray⟩:ByteArray)=T at *
 go_enter func176,ntmps176;go_wp2_with (go_at_call 18;refine(C.out).mono ?_;rintro E w4 ⟨rfl,U⟩);go_ret;exact⟨rfl,U⟩
theorem Ug {p:Nat}{w:ι}:(χ 232 (ε (some ⟨p,0,none⟩)) 0).run prog w=.ok (ε (some ⟨p,0,none⟩)) w:=by go_simp
def NLn (B:Nat)(NM:ByteArray)(b e:Int)(i:Nat)(v:Value)(_:ι):Prop:=v=[η NM,η (sB++NM),η (sB++NM++⟨#[58]⟩),ε (some ⟨B,0,none⟩),ε (some ⟨B,0,none⟩),V Z b,η (dE b),η (sB++NM++⟨#[58]⟩++dE b),η (sB++NM++⟨#[58]⟩++dE b++⟨#[47]⟩),ε (some ⟨B,0,none⟩),ε (some ⟨B,1,none⟩),V Z e,η (dE e),η (sB++NM++⟨#[58]⟩++dE b++⟨#[47]⟩++dE e)].getD i undef
def BL (B:Nat)(NM:ByteArray):List (Nat×Value):=[(1,ε (some ⟨B,0,none⟩)),(3,η NM)]
theorem acP (B:Nat)(NM:ByteArray)(b e:Int):rO (λi=>7+i) (BL B NM) 21 14 (NLn B NM b e):=
 ⟨λi S=>by show 7+i<21;omega,λi j S hj h=>by have h':7+i=7+j:=h;omega,λq J i S=>by
  simp only[BL,ρ,π,or_false]at J;show q.1≠7+i;rcases J with rfl|rfl<;>simp<;>omega,λ_ _ _ _ h _=>h⟩
theorem IY (a:Ϣ)(h:a.tmps.size=21)(hd:a.defers=[]):∃f:Nat->Value,a=⟨[f 0,f 1,f 2,f 3,f 4,f 5,f 6,f 7,f 8,f 9,f 10,f 11,f 12,f 13,f 14,f 15,f 16,f 17,f 18,f 19,f 20].toArray,[]⟩/\∀k,a.eval (.tmp k)=f k:=gO 21 a h hd
theorem Yg (b e k:Int)(w:ι)(ht:jg w)(I:k=1\/k=2):
 Β prog 178 #[.agg #[V Z b,V Z e,V Z k]] w λE Y=>E=δ (η (kF (b,e,k)))/\Below w.heap.size w Y:=by
 have al:Below w.heap.size w (w.alloc (θ #[V Z b,V Z e,V Z k] 232)):=(μ _ _).alloc (κ _) _;have xl:M (w.alloc (θ #[V Z b,V Z e,V Z k] 232)) w.heap.size [V Z b,V Z e,V Z k] 232:=M.new w _ _;have k2:=xl.cell (k:=2) rfl;obtain⟨NM,PA⟩:∃NM,NM=LH k:=⟨_,rfl⟩;have hNs:NM.size<=14:=by
  rw[PA];unfold LH;split<;>decide
 have HT:Hid (∀n Y,Below (w.alloc (θ #[V Z b,V Z e,V Z k] 232)).heap.size (w.alloc (θ #[V Z b,V Z e,V Z k] 232)) Y->Β prog 176 #[V Z n] Y λE az=>E=δ (η (dE n))/\Below Y.heap.size Y az):=H λn Y U=>Fb n Y (ht.on (al.trans (U.mono al.size)));have vG:=iq b;have sC:=iq e;have aQ:kF (b,e,k)=sB++NM++⟨#[58]⟩++dE b++⟨#[47]⟩++dE e:=by rw[PA];rfl
 rw[aQ];replace PA:=H PA;have hrB:=H xl;clear xl ht aQ;go_enter func178,ntmps178;go_upto_region 2 with fail;have Uh:w.heap.size<(w.alloc (θ #[V Z b,V Z e,V Z k] 232)).heap.size:=by simp
 generalize w.alloc (θ #[V Z b,V Z e,V Z k] 232)=W at *
 rename_i K4 hK4 K2 IZ;have r4:∀a:Ϣ,a.tmps.size=21->a.defers=[]->a.eval (.tmp 1)=ε (some ⟨w.heap.size,0,none⟩)->a.eval (.tmp 3)=η NM->K4 a W:=by
  intro a hs hd s1 s3;refine hK4 a W ?_;clear hK4 K4 IZ K2 k2;obtain⟨fr,rfl,hf⟩:=IY a hs hd;have g1:=(hf 1).symm.trans s1;have g3:=(hf 3).symm.trans s3;clear hf hs hd s1 s3;rw[g1,g3];clear g1 g3;go_upto_region 4 with fail;have atI:=acP w.heap.size NM b e;obtain⟨B,hB⟩:∃B,B=w.heap.size:=⟨_,rfl⟩;rw[<-hB]at atI hrB Uh al⊢;refine ei 14 (by simp only[Λ,ύ];rfl) (by simp only[Μ,ώ];rfl) (GV (λi=>7+i) (NLn B NM b e)) (JV 21 (BL B NM) W) (by kernel_rfl) (by kernel_rfl) (by kernel_rfl) (by kernel_rfl) (by kernel_rfl) (by kernel_rfl) rfl ?rops ?rdone ⟨rfl,rfl,λq J=>by
   simp only[BL,ρ,π,or_false]at J;rcases J with rfl|rfl<;>rfl,(μ _ _).drew⟩
  case rops=>
   intro i o ho a Y ay hG Q';have S:i<14:=(Array.getElem?_eq_some_iff.1 ho).1;have t1:a.eval (.tmp 1)=ε (some ⟨B,0,none⟩):=ay.fixed (1,_) (by simp[BL]);have t3:a.eval (.tmp 3)=η NM:=ay.fixed (3,_) (by simp[BL]);have hf8:sB.size=16:=rfl;have hf9:(⟨#[70,82,69,69,66,85,83,89,59,70,66,84,89,80,69,61]⟩:ByteArray).size=16:=rfl;have hfa:(⟨#[58]⟩:ByteArray).size=1:=rfl;have uE:(⟨#[47]⟩:ByteArray).size=1:=rfl;have eQ:i=0\/i=1\/i=2\/i=3\/i=4\/i=5\/i=6\/i=7\/i=8\/i=9\/i=10\/i=11\/i=12\/i=13:=by omega
   rcases eQ with rfl|rfl|rfl|rfl|rfl|rfl|rfl|rfl|rfl|rfl|rfl|rfl|rfl|rfl<;>obtain rfl:=ο ho
   ·exact ai (cW rfl t3) (aZ atI ay)
   ·have e1:a.eval (.tmp 7)=η NM:=aF hG 0;exact ai (qO rfl rfl e1 (by omega)) (aZ atI ay)
   ·have e1:a.eval (.tmp 8)=η (sB++NM):=aF hG 1;exact ai (qO rfl e1 rfl (by simp[ω];omega)) (aZ atI ay)
   ·exact ai (cR rfl t1 Ug) (aZ atI ay)
   ·have e1:a.eval (.tmp 10)=ε (some ⟨B,0,none⟩):=aF hG 3;exact ai (cR rfl e1 T3) (aZ atI ay)
   ·have e1:a.eval (.tmp 11)=ε (some ⟨B,0,none⟩):=aF hG 4;exact ai (aY rfl e1 (dP ((hrB.out.on ay.below).cell (k:=0) rfl))) (aZ atI ay)
   ·have e1:a.eval (.tmp 12)=V Z b:=aF hG 5;exact uF (f:=176) (args:=#[a.eval (.tmp 12)]) (by kernel_rfl) (by rw[e1];exact HT.out b Y ay.below) (λaz U=>mz atI rfl (by decide) ay U rfl)
   ·have e1:a.eval (.tmp 9)=η (sB++NM++⟨#[58]⟩):=aF hG 2;have e2:a.eval (.tmp 13)=η (dE b):=aF hG 6;exact ai (qO rfl e1 e2 (by simp[ω];omega)) (aZ atI ay)
   ·have e1:a.eval (.tmp 14)=η (sB++NM++⟨#[58]⟩++dE b):=aF hG 7;exact ai (qO rfl e1 rfl (by simp[ω];omega)) (aZ atI ay)
   ·exact ai (cR rfl t1 Ug) (aZ atI ay)
   ·have e1:a.eval (.tmp 16)=ε (some ⟨B,0,none⟩):=aF hG 9;exact ai (cR rfl e1 T4) (aZ atI ay)
   ·have e1:a.eval (.tmp 17)=ε (some ⟨B,1,none⟩):=aF hG 10;exact ai (aY rfl e1 (dP ((hrB.out.on ay.below).cell (k:=1) rfl))) (aZ atI ay)
   ·have e1:a.eval (.tmp 18)=V Z e:=aF hG 11;exact uF (f:=176) (args:=#[a.eval (.tmp 18)]) (by kernel_rfl) (by rw[e1];exact HT.out e Y ay.below) (λaz U=>mz atI rfl (by decide) ay U rfl)
   have e1:a.eval (.tmp 15)=η (sB++NM++⟨#[58]⟩++dE b++⟨#[47]⟩):=aF hG 8;have e2:a.eval (.tmp 19)=η (dE e):=aF hG 12;exact ai (qO rfl e1 e2 (by simp[ω];omega)) (aZ atI ay)
  case rdone=>
   intro a w3 ay hG;have Cv:a.eval (.tmp 20)=η (sB++NM++⟨#[58]⟩++dE b++⟨#[47]⟩++dE e):=hG 13 (by decide);have aR:=ay.below;have gh:=ay.size;have gC:=ay.defers;clear ay hG atI;obtain⟨fr,rfl,hf⟩:=IY a gh gC;have g20:=(hf 20).symm.trans Cv;clear hf gh gC Cv;rw[g20];clear g20;obtain⟨T,hT⟩:∃T,T=sB++NM++⟨#[58]⟩++dE b++⟨#[47]⟩++dE e:=⟨_,rfl⟩;rw[<-hT];replace hT:=H hT;go_wp2_with fail;go_ret;exact⟨by rw[<-hT.out];rfl,by rw[hB]at al;exact al.trans (aR.mono al.size)⟩
 clear hK4;replace r4:=H r4;rcases I with rfl|rfl
 ·go_wp2_with fail;exact r4.out _ rfl rfl rfl (by rw[PA.out];rfl)
 go_wp2_with fail;exact r4.out _ rfl rfl rfl (by rw[PA.out];rfl)
end
open Go.Sort
attribute [local go_sem] Oper.semAt_some
attribute [local go_sem] bG aV
attribute [local simp] bG aV
theorem Yh {l:List aJ}{x:aJ}(hs:LT.eU l)(hy:∃y∈l,bM x y=0):(LT.kr x l).length+1=l.length:=by
 obtain⟨y,hy,h0⟩:=hy;obtain⟨a,b,rfl⟩:=List.append_of_mem hy;unfold LT.eU at hs;rw[Ι,List.pairwise_cons]at hs;unfold LT.kr;have e1:a.filter (λy=>decide (bM x y≠0))=a:=List.filter_eq_self.2 λz hz=>decide_eq_true (LT.ne_of_gt (LT.I0 h0 (hs.2.2 z hz y (by simp))));have e2:b.filter (λy=>decide (bM x y≠0))=b:=List.filter_eq_self.2 λz hz=>decide_eq_true (LT.ne_of_lt (LT.I1 h0 (hs.2.1.1 z hz)));rw[Ο,List.filter_cons_of_neg (by simp[h0]),e1,e2];simp;omega
def fy (xs:List aJ)(l:List aJ):List aJ:=l.filter λy=>xs.all λx=>decide (bM x y≠0)
theorem RR (l:List aJ):fy [] l=l:=by unfold fy;simp
theorem Oz (xs:List aJ)(x:aJ)(l:List aJ):fy (xs++[x]) l=LT.kr x (fy xs l):=by
 unfold fy LT.kr;rw[List.filter_filter];congr 1;funext y;simp only[List.all_append,List.all_cons,List.all_nil,Bool.and_true];rw[Bool.and_comm]
theorem Fc {xs l:List aJ}(h:LT.eU l):LT.eU (fy xs l):=by unfold fy LT.eU at *;exact h.filter _
theorem Kp {x y z:aJ}(h:bM x y≠0)(k:bM y z=0):bM x z≠0:=λe=>h (by
 obtain⟨a,b,c⟩:=il.1 k;obtain⟨a',b',c'⟩:=il.1 e;exact il.2 ⟨a'.trans a.symm,b'.trans b.symm,c'.trans c.symm⟩)
theorem RS {XS l:List aJ}{i:Nat}{e:aJ}(J:XS.Pairwise λx y=>bM x y≠0)(he:XS[i]?=some e)(lP:∀x∈XS,∃y∈l,bM x y=0):∃y∈fy (XS.take i) l,bM e y=0:=by
 obtain⟨y,hy,h0⟩:=lP e (Κ he);refine⟨y,?_,h0⟩;unfold fy;rw[List.mem_filter];refine⟨hy,?_⟩;rw[List.all_eq_true];intro x X;exact decide_eq_true (Kp (Dt (aaF J he x X)) h0)
def PC (p:Nat)(T:LT)(h:Int)(XS:List aJ)(i:Nat):aP:=λD W=>D p/\∃atI:LT,(∀k∈atI.ax,D k)/\(∀k∈atI.ax,k∈T.ax)/\cU W p atI atI.size h/\atI.aw=fy (XS.take i) T.aw
theorem PC.cL {p:Nat}{T:LT}{h:Int}{XS:List aJ}{i:Nat}{D:aj}{W:ι}(hD:∀k,D k->k<W.heap.size)(hj:PC p T h XS i D W):On D (PC p T h XS i) W:=by
 obtain⟨G,atI,A,K,h4,h5⟩:=hj;exact⟨hD,λW2 I=>⟨G,atI,A,K,h4.keep λk cj=>I k ((List.mem_cons.1 cj).elim (λe=>e▸G) (A k)),h5⟩⟩
def vH (b3 b4 b5:Nat):List (Nat×Value):=[(3,ε (some ⟨b3,0,none⟩)),(4,ε (some ⟨b4,0,none⟩)),(5,ε (some ⟨b5,0,none⟩))]
theorem acQ (W:ι)(p b3 b4 b5:Nat)(kc ku:ByteArray)(EV:List Value)(h:Int)(XS:List aJ)(Eb:aj):rO (λi=>7+i) (vH b3 b4 b5) 18 7 (λi=>yt W p kc ku EV h XS Eb (i+1)):=
 ⟨λi S=>by show 7+i<18;omega,λi j S hj h=>by have h':7+i=7+j:=h;omega,λq J i S=>by
  simp only[vH,ρ,π,or_false]at J;show q.1≠7+i;rcases J with rfl|rfl|rfl<;>simp<;>omega,λi=>yt.grow (i+1)⟩
theorem Ui {b p:Nat}{w:ι}(h:w.cell? ⟨b,0,none⟩=some (ε (some ⟨p,0,none⟩))):(Τ 137 (ε (some ⟨b,0,none⟩))).run prog w=.ok (ε (some ⟨p,0,none⟩)) w:=by
 go_simp
def aeV (p:Nat)(T:LT)(h:Int)(XS:List aJ)(w:ι):ϣ->ι->Prop:=λE Y=>(∃v,E=δ v)/\∃atI:LT,cU Y p atI atI.size h/\atI.aw=fy XS T.aw/\(∀k∈atI.ax,k∈T.ax)/\ak (λk=>k∈p::T.ax) w Y
theorem GZ (p:Nat)(T:LT)(h:Int)(kc ku:ByteArray)(EV:List Value)(XS:List aJ)(Eb:aj)(w:ι)(S:cU w p T T.size h)(hs:LT.eU T.aw)(hc:T.size<=500)(hEV:EV.length=18)
 (hC:∀wr,Below w.heap.size w wr->Β prog 219 #[.agg #[η kc,η ku],.agg EV.toArray,V Z 0,V Z h] wr (dR (dF XS) Eb wr))(lQ:∀k,Eb k->¬k∈p::T.ax)
 (hXp:XS.Pairwise λx y=>bM x y≠0)(hXT:∀x∈XS,∃y∈T.aw,bM x y=0):
 Β prog 162 #[ε (some ⟨p,0,none⟩),.agg #[η kc,η ku],.agg EV.toArray] w (aeV p T h XS w):=by
 have r3:=lL w [ε (some ⟨p,0,none⟩)] 137 (θ #[η kc,η ku] 207) (θ EV.toArray 79);have rk:=lM w (θ #[ε (some ⟨p,0,none⟩)] 137) [η kc,η ku] 207 (θ EV.toArray 79);have re:=lN w (θ #[ε (some ⟨p,0,none⟩)] 137) (θ #[η kc,η ku] 207) EV 79;have al:=iD w (θ #[ε (some ⟨p,0,none⟩)] 137) (θ #[η kc,η ku] 207) (θ EV.toArray 79);have aQ:∀k∈p::T.ax,k<w.heap.size:=λk I=>(List.mem_cons.1 I).elim (λe=>e▸S.row.lt) (S.tree.lt k);have hI:=H (S.aL (O:=λ_=>False) (ak.ar al) (λ_ _ h=>h));have HC:=H hC;clear hC S;refine(callsIn_wide (n:=0)).1 ?_;refine dr func162 rfl ?_;simp only[ntmps162,Υ,Ε,ϊ,Ϙ,ϗ,Θ,Η,Φ,Ν,Ζ,Ω];refine bK λatH hK=>bQ ?_;gi_wp2_with fail;have hz:w.heap.size+3<=(((w.alloc (θ #[ε (some ⟨p,0,none⟩)] 137)).alloc (θ #[η kc,η ku] 207)).alloc (θ EV.toArray 79)).heap.size:=by simp
 generalize(((w.alloc (θ #[ε (some ⟨p,0,none⟩)] 137)).alloc (θ #[η kc,η ku] 207)).alloc (θ EV.toArray 79))=W2 at *
 refine bK λK1 eM=>bQ (wpIn_wide.2 ?_);have atI:=acQ W2 p w.heap.size (w.heap.size+1) (w.heap.size+1+1) kc ku EV h XS Eb;have p1:=H λY (U:Below W2.heap.size W2 Y)=>kZ (rk.on U);have p2:=H λY (U:Below W2.heap.size W2 Y)=>jU (re.on U) hEV;have p3:=H λY (U:Below W2.heap.size W2 Y)=>Ui ((r3.on U).cell (k:=0) rfl);have p6:=H λY (U:Below W2.heap.size W2 Y)=>dP ((hI.out.row.on U).cell (k:=2) rfl);refine ir (GV (λi=>7+i) (λi=>yt W2 p kc ku EV h XS Eb (i+1))) (JV 18 (vH w.heap.size (w.heap.size+1) (w.heap.size+1+1)) W2) (by kernel_rfl) (by kernel_rfl) (by kernel_rfl) ?rops ?rdone ⟨rfl,rfl,λq J=>by
  simp only[vH,ρ,π,or_false]at J;rcases J with rfl|rfl|rfl<;>rfl,(μ _ _).drew⟩
 case rops=>
  intro i o ho a Y ay hG;have S:i<7:=(Array.getElem?_eq_some_iff.1 ho).1;have t3:a.eval (.tmp 3)=ε (some ⟨w.heap.size,0,none⟩):=ay.fixed (3,_) (by simp[vH]);have t4:a.eval (.tmp 4)=ε (some ⟨w.heap.size+1,0,none⟩):=ay.fixed (4,_) (by simp[vH]);have t5:a.eval (.tmp 5)=ε (some ⟨w.heap.size+1+1,0,none⟩):=ay.fixed (5,_) (by simp[vH]);have eQ:i=0\/i=1\/i=2\/i=3\/i=4\/i=5\/i=6:=by omega
  rcases eQ with rfl|rfl|rfl|rfl|rfl|rfl|rfl<;>obtain rfl:=ο ho
  ·exact ai (aY rfl t4 (p1.out _ ay.below)) (aZ atI ay)
  ·exact ai (aY rfl t5 (p2.out _ ay.below)) (aZ atI ay)
  ·exact ai (aY rfl t3 (p3.out _ ay.below)) (aZ atI ay)
  ·have e1:a.eval (.tmp 9)=ε (some ⟨p,0,none⟩):=aF hG 2;exact ai (eJ rfl e1) (aZ atI ay)
  ·have e1:a.eval (.tmp 10)=ε (some ⟨p,0,none⟩):=aF hG 3;exact ai (cR rfl e1 IM) (aZ atI ay)
  ·have e1:a.eval (.tmp 11)=ε (some ⟨p,2,none⟩):=aF hG 4;exact ai (aY rfl e1 (p6.out _ ay.below)) (aZ atI ay)
  have e1:a.eval (.tmp 7)=.agg #[η kc,η ku]:=aF hG 0;have e2:a.eval (.tmp 8)=.agg EV.toArray:=aF hG 1;have e3:a.eval (.tmp 12)=V Z h:=aF hG 5;refine cM (f:=219) (args:=#[a.eval (.tmp 7),a.eval (.tmp 8),V Z 0,a.eval (.tmp 12)]) (by kernel_rfl) (by rw[e1,e2,e3];exact HC.out Y (al.trans (ay.below.mono al.size))) ?_ (by rintro c az ⟨_,_,_,e,_⟩;cases e) (by rintro az ⟨_,_,_,e,_⟩;cases e);rintro v az ⟨g,lb,R,e,A,K,h4,h5⟩;cases e;exact mz atI rfl (by decide) ay h5 ⟨g,lb,R,rfl,A,λk I=>⟨(K k I).1,(K k I).2.imp id λh=>ϥ ay.below.size h⟩,h4⟩
 case rdone=>
  intro a w3 ay hG;obtain⟨g,lb,R,Pn,hit,mM,eg⟩:∃g lb R,a.eval (.tmp 13)=.func (.func g) #[] lb/\kX prog g lb (dF XS) R w3/\(∀k,R k->k<w3.heap.size/\(Eb k\/W2.heap.size<=k))/\(∀args w,(callFunc g args).run prog w=.ok (.enter g args) w):=hG 6 (by decide);have Uj:a.eval (.tmp 3)=ε (some ⟨w.heap.size,0,none⟩):=ay.fixed (3,_) (by simp[vH]);have aR:=ay.below;have gh:=ay.size;have gC:=ay.defers;clear ay hG atI p1 p2 p3 p6 HC;refine eM a w3 ?_;clear eM;obtain⟨fr,rfl,hf⟩:=IN a gh gC;have g3:=(hf 3).symm.trans Uj;have g13:=(hf 13).symm.trans Pn;rw[g3,g13];clear hf gh gC Uj Pn g3 g13;have U:=al.trans (aR.mono al.size);have sj:=hI.out.aL (O:=λ_=>False) (ak.ar aR) (λ_ _ h=>h);replace r3:=r3.on aR;have su:=aR.size;refine gB ?_;refine lz (gf:=g) (lb:=lb) func162 ?g eg hit (κ _) (λ_ _=>rfl) (λk I=>(mM k I).1)
   (λk=>k∈p::T.ax) (λk I cj=>by
    rcases(mM k cj).2 with h|h
    ·exact lQ k h I
    have:=aQ k I;omega) (PC p T h XS) (λ_ _ _=>False) (λ_ _ _=>False) ?ps ?start ?round ?done ?stop ?pan
  case g=>rfl
  case ps=>intro x X;obtain⟨d,_,rfl⟩:=List.mem_map.1 X;rfl
  case start=>exact PC.cL (λk I=>by have:=aQ k I;omega) ⟨by simp,T,λk I=>by simp[I],λk I=>I,sj,by simp[RR]⟩
  case stop=>
   rintro c W4 ⟨X,D,cD,_,aG⟩ hs bI;exact aG.out.elim
  case pan=>
   rintro c W4 ⟨X,D,cD,_,aG⟩ hs bI;exact aG.out.elim
  case done=>
   rw[qN];rintro W4 ⟨X,D,cD,_,aG⟩ ES bI;obtain⟨_,atI,hSD,Ap,Cr,LI⟩:=aG.out;rw[ϟ]at LI;refine⟨by simp,.inl ⟨_,_,rfl,run_takeDeferred bI,?_⟩⟩;refine⟨_,results_none rfl _ _ _,⟨_,rfl⟩,atI,Cr.keep (λk I=>τ ?_),LI,Ap,((ak.ar U).aM X).put (.inr (by omega)) _⟩;have:k<w.heap.size:=aQ k ((List.mem_cons.1 I).elim (λe=>by simp[e]) λh=>by simp[Ap k h]);omega
  case round=>
   intro Ct i x X W4 D zq ES dV aG atH hK;obtain⟨e,hd⟩:∃e,XS[i]?=some e:=⟨_,ν (by have:=(List.getElem?_eq_some_iff.1 X).1;rwa [qN]at this)⟩;rw[yq hd]at X;cases X;unfold di bA;gi_wp2_with fail;have fO:Below W4.heap.size W4 (W4.alloc (θ (bA e).toArray 223)):=(μ _ _).alloc (κ _) _;refine hK _ _ (λk=>D k\/k=W4.heap.size) fO (λk I=>I.imp id λh=>by omega) (λk I=>.inl I) (λk I=>I.elim (λh=>by have:=aG.1 k h;simp;omega) (λh=>by simp;omega)) ?_;intro l' W5 fG bL uq;have q6:=(M.new W4 (bA e) 223).keep (fG _ (.inr rfl));have ea:=aG.on (W':=W5) λk I=>(fG k (.inl I)).trans (fO.block k (aG.1 k I));have y3:=(r3.aL bL (λh=>by have:=aQ _ h;omega)).cell (k:=0) rfl;have dN:∀k,D k\/k=W4.heap.size->k<W5.heap.size:=λk I=>I.elim (ea.1 k) (λh=>by have:=q6.lt;omega);obtain⟨Fe,atI,hSD,Ap,Cr,LI⟩:=ea.out;obtain⟨x0,x1,x2,x3,x4⟩:=mv (e:=e) q6;have Lr:LT.eU atI.aw:=by rw[LI];exact Fc hs
   have Yi:=RS hXp hd hXT;rw[<-LI]at Yi;have hSz:atI.size<=T.size:=by
    rw[<-LT.cO,<-LT.cO,LI];exact List.length_filter_le _ _
   have oG:=Yh Lr Yi;rw[<-LT.sq e Lr,LT.cO,LT.cO]at oG;have HD:=H (Cn p atI atI.size h e W5 Cr Lr (by omega) Yi (by omega) (by omega));unfold di bA at HD;clear hK fG hit aG mM fO ea;gi_wp2_with fail;refine(CallsIn.inRound l' (callsIn_wide.2 HD.out)).mono ?_;rintro E W6 ⟨rfl,hI6,jT⟩;have HI6:=H hI6;have HX6:=H jT;clear hI6 jT HD x0 x1 x2 x3 x4 y3;gi_wp2_with fail;show aN _ _ _ _ _;have I2:ak (λk=>D k\/k=W4.heap.size) W5 W6:=HX6.out.mono λk I=>.inl (.inl ((List.mem_cons.1 I).elim (λe=>e▸Fe) (hSD k)));refine⟨I2,λk=>D k\/k=W4.heap.size,λk I=>.inl I,λk I=>I,PC.cL (λk I=>ψ (dN k I) I2.size) ⟨.inl Fe,atI.drop e,λk I=>.inl (hSD k (mJ e atI k I)),λk I=>Ap k (mJ e atI k I),?_,?_⟩⟩
   ·rw[show((atI.drop e).size:Int)=atI.size-1 by omega];exact HI6.out
   rw[LT.sq e Lr,LI,Ϝ,hd];exact(Oz _ _ _).symm
end Go.Proofs.YthpndgcaoeokeaaGreatDoor
