import Derived.Test.YthpndgcaoeokeaaGreatDoorCv10
import Derived.Maps.RangeRun
set_option maxRecDepth 100000
set_option maxHeartbeats 16000000
open Go.IntKind renaming i64->Z
open Go.Value renaming int->V,pointer->ε,slice->ζ,string->η,oneCell'->Δ,ownBlock->Ϻ
open Go.Ending renaming returned->δ
open Go.Obj renaming cells->θ
open Go renaming World->ι,Oper->Ε,Operand->Θ,MapEntry->Ι,PanicEntry->Υ,Calls->ϝ,Act->Ϡ,TypeId->ϣ,Program->Ϩ,Code->Ϯ,Exit->Â,FuncId->Æ
open Go.Lib renaming containsS->κ
open Nat renaming le_refl->μ,le_trans->Β,reduceSub->Ϧ,reduceAdd->ϧ
open Option.some renaming inj->ν
open Go.Result renaming andThen->ξ
open List renaming getElem?_eq_getElem->ο,size_toArray->ρ,getElem?_map->τ,map_cons->υ,not_mem_nil->ω,length_cons->Α,map_append->Γ,range->Η,mem_cons->Κ,take_succ_cons->Ν,drop_succ_cons->Ξ,setIfInBounds_toArray->Ο,getElem?_append_right->Ρ,filter_append->Τ,cons_append->Χ,nil_append->Ψ,length_nil->Ω,length_map->ϊ,take_zero->ύ,mem_of_getElem?->ώ,drop_zero->Ϗ,mem_map_of_mem->ϗ,append_toArray->Ϙ,set_cons_zero->ϙ,set_cons_succ->Ϛ,length_append->ϛ,push_toArray->Ϟ,append_assoc->ϟ,all_eq_true->ϡ,getD_eq_getElem?_getD->Ϣ,length->Ϫ,getElem?_of_mem->ϫ,flatMap_append->ϭ,mem_singleton->ϯ,nodup_append->ϳ,take_length->Ϸ,mem_append->À,append_nil->Á,map_nil->Å
open Go.RowKit.Below renaming refl->π,heap_alloc->Ζ
open Go.MapKept renaming run_getObj_map->φ,run_setObj_map->Ϥ
open ByteArray renaming empty->χ,size_append->Φ
open Go.World renaming alloc_heap_new->ψ,cell?_of_block->ϩ
open Go.Instr renaming mapUpdate->Λ,lookup->Ϝ,fieldAt->ϥ,enterLoop->ϸ,storeAt->Ã,loadAt->Ä
open Go.Region renaming binds->Μ
open Array renaming replicate_zero->ϋ,replicate_succ->ό,length_toList->Ϭ
namespace Go.Proofs.YthpndgcaoeokeaaGreatDoor
open Tryz
open Go.RowKit
section
def KP (f:Æ)(P:Ϩ)(O:aj)(w:ι)(lr:Nat)(body:Ϯ)(atF:aP)(Jx:Ϯ->aP)(Jp:List Υ->aP)(a1:Ϡ)(D1:aj)(W1:ι):Prop:=
 ∀W2:ι,(∀k,D1 k->W2.heap[k]?=W1.heap[k]?)->ak O w W2->lr+1<=W2.heap.size->(∃r,W2.heap[lr]?=some (.loop r))->¬D1 lr->od f (some lr) P body (Ff D1 atF Jx Jp W2) a1 W2
theorem I3 {f:Æ}{ur:Func}{P:Ϩ}(oE:P.funcs[f]?=some ur){g:Θ}{ps:Array Tmp}{assign body:Ϯ}{Q:Â->Ϡ->ι->Prop}{a:Ϡ}{w:ι}
 {gf:Nat}{lb:Array Value}{Ok:List (Array Value)->Prop}(hg:a.eval g=.func (.func gf) #[] lb)(eg:∀args w,(callFunc gf args).run P w=.ok (.enter gf args) w)
 {R:aj}{w0:ι}(hit:qw P gf lb Ok R w0)(uu:w0.heap.size<=w.heap.size)(uv:∀k,R k->w.heap[k]?=w0.heap[k]?)(mK:∀k,R k->k<w.heap.size)
 {ro:Option Nat}{lr:Nat}{mark:List Deferred}{W1:ι}{dfr:Nat}(sD:(ϸ f a.tmps ps assign body ro).run P w=.ok (lr,mark) W1)(hlr:w.heap.size<=lr)(Aq:W1.heap[lr]?=some (.loop {state:=.ready,pending:=none,fn:=f,tmps:=a.tmps,params:=ps,assign,body,defers:=dfr}))(PD:W1.heap.size=lr+1)(xm:Below w.heap.size w W1)
 (O:aj)(hO:∀k,O k->¬R k)(atF:List (Array Value)->aP)(Jx:Ϯ->aP)(Jp:List Υ->aP)(lJ:∀xs,Ok xs->∀x∈xs,x.size=ps.size)(h0:On O (atF []) w)
 (pI:∀(l:Nat) (i:List (Array Value)) (x:Array Value),(∃gA,Ok (i++x::gA))->∀(W:ι) (D:aj),ak O w W->lr+1<=W.heap.size->(∀k,O k->D k)->(∀k,D k->O k\/lr+1<=k)->On D (atF i) W->
  ∀atH:Ϡ->ι->Prop,(∀a1 W1 D1,Below W.heap.size W W1->(∀k,D1 k->D k\/W.heap.size<=k)->(∀k,D k->D1 k)->(∀k,D1 k->k<W1.heap.size)->KP f P O w lr body (atF (i++[x])) Jx Jp a1 D1 W1->atH a1 W1)->
  assign.wpIn (Fence.wide.inRound l) 0 P (Exit.then atH (λ_ _ _=>False)) {tmps:=(ps.zip x).foldl (λt (p,v)=>t.setIfInBounds p v) a.tmps,defers:=[]} W)
 (jS:∀(xs:List (Array Value)),Ok xs->∀(W:ι),aN O (lr+1) (atF xs) w W->lr+1<=W.heap.size->(∀k,w.heap.size<=k->k<lr->W.heap[k]?=W1.heap[k]?)->Q .normal {a with defers:=mark++a.defers} W)
 (lx:∀(c:Ϯ) (W:ι),aN O (lr+1) (Jx c) w W->lr+1<=W.heap.size->(∀k,w.heap.size<=k->k<lr->W.heap[k]?=W1.heap[k]?)->od f ro P c Q {a with defers:=mark++a.defers} W)
 (oF:∀(c:List Υ) (W:ι),aN O (lr+1) (Jp c) w W->lr+1<=W.heap.size->(∀k,w.heap.size<=k->k<lr->W.heap[k]?=W1.heap[k]?)->Q (.panic c) {a with defers:=mark++a.defers} W):
 od f ro P (Code.rangeFunc g ps assign body) Q a w:=by
 refine Fg oE hg eg hit uu uv mK sD hlr Aq PD xm O hO atF Jx Jp (λi x a1 D W=>KP f P O w lr body (atF (i++[x])) Jx Jp a1 D W) lJ h0 ?_ ?_ jS lx oF
 ·intro l i x X W D he hs dV ep aG atH hK;refine pI l i x X W D he hs dV ep aG atH λa1 W1 D1 U G A K Ad=>hK a1 W1 D1 U G A ⟨K,λW2 I W3 cj=>Ad W3 λk hd=>(cj k hd).trans (I k hd)⟩
 intro i x X a1 W D he hs dV _ aG hr hn;exact aG.out W (λ_ _=>rfl) he hs hr hn
theorem I4 {f:Æ}{ur:Func}{P:Ϩ}(oE:P.funcs[f]?=some ur){g:Θ}{ps:Array Tmp}{assign body:Ϯ}{Q:Â->Ϡ->ι->Prop}{a:Ϡ}{w:ι}
 {gf:Nat}{lb:Array Value}{Ok:List (Array Value)->Prop}(hg:a.eval g=.func (.func gf) #[] lb)(eg:∀args w,(callFunc gf args).run P w=.ok (.enter gf args) w)
 {R:aj}{w0:ι}(hit:qw P gf lb Ok R w0)(uu:w0.heap.size<=w.heap.size)(uv:∀k,R k->w.heap[k]?=w0.heap[k]?)(mK:∀k,R k->k<w.heap.size)
 {l0:Nat}{r0:Loop}(Uk:w.heap[l0]?=some (.loop r0))
 (O:aj)(hO:∀k,O k->¬R k)(atF:List (Array Value)->aP)(Jx:Ϯ->aP)(Jp:List Υ->aP)(lJ:∀xs,Ok xs->∀x∈xs,x.size=ps.size)(h0:On O (atF []) w)
 (pI:∀(l:Nat) (i:List (Array Value)) (x:Array Value),(∃gA,Ok (i++x::gA))->∀(W:ι) (D:aj),ak O w W->w.heap.size+1<=W.heap.size->(∀k,O k->D k)->(∀k,D k->O k\/w.heap.size+1<=k)->On D (atF i) W->
  ∀atH:Ϡ->ι->Prop,(∀a1 W1 D1,Below W.heap.size W W1->(∀k,D1 k->D k\/W.heap.size<=k)->(∀k,D k->D1 k)->(∀k,D1 k->k<W1.heap.size)->KP f P O w w.heap.size body (atF (i++[x])) Jx Jp a1 D1 W1->atH a1 W1)->
  assign.wpIn (Fence.wide.inRound l) 0 P (Exit.then atH (λ_ _ _=>False)) {tmps:=(ps.zip x).foldl (λt (p,v)=>t.setIfInBounds p v) a.tmps,defers:=[]} W)
 (jS:∀(xs:List (Array Value)),Ok xs->∀(W:ι),aN O (w.heap.size+1) (atF xs) w W->w.heap.size+1<=W.heap.size->Q .normal a W)
 (lx:∀(c:Ϯ) (W:ι),aN O (w.heap.size+1) (Jx c) w W->w.heap.size+1<=W.heap.size->od f (some l0) P c Q a W)
 (oF:∀(c:List Υ) (W:ι),aN O (w.heap.size+1) (Jp c) w W->w.heap.size+1<=W.heap.size->Q (.panic c) a W):
 od f (some l0) P (Code.rangeFunc g ps assign body) Q a w:=
 I3 oE hg eg hit uu uv mK (run_enterLoop_inner Uk f a.tmps ps assign body) (μ _) (ψ w _) (by simp) ((π _ _).alloc (μ _) _) O hO atF Jx Jp lJ h0 pI (λxs cI W G A _=>jS xs cI W G A) (λc W G A _=>lx c W G A) (λc W G A _=>oF c W G A)
theorem I5 {f:Æ}{ur:Func}{P:Ϩ}(oE:P.funcs[f]?=some ur){g:Θ}{ps:Array Tmp}{assign body:Ϯ}{Q:Â->Ϡ->ι->Prop}{a:Ϡ}{w:ι}
 {gf:Nat}{lb:Array Value}{Ok:List (Array Value)->Prop}(hg:a.eval g=.func (.func gf) #[] lb)(eg:∀args w,(callFunc gf args).run P w=.ok (.enter gf args) w)
 {R:aj}{w0:ι}(hit:qw P gf lb Ok R w0)(uu:w0.heap.size<=w.heap.size)(uv:∀k,R k->w.heap[k]?=w0.heap[k]?)(mK:∀k,R k->k<w.heap.size)
 (O:aj)(hO:∀k,O k->¬R k)(atF:List (Array Value)->aP)(Jx:Ϯ->aP)(Jp:List Υ->aP)(lJ:∀xs,Ok xs->∀x∈xs,x.size=ps.size)(h0:On O (atF []) w)
 (pI:∀(l:Nat) (i:List (Array Value)) (x:Array Value),(∃gA,Ok (i++x::gA))->∀(W:ι) (D:aj),ak O w W->(w.heap.size+1)+1<=W.heap.size->(∀k,O k->D k)->(∀k,D k->O k\/(w.heap.size+1)+1<=k)->On D (atF i) W->
  ∀atH:Ϡ->ι->Prop,(∀a1 W1 D1,Below W.heap.size W W1->(∀k,D1 k->D k\/W.heap.size<=k)->(∀k,D k->D1 k)->(∀k,D1 k->k<W1.heap.size)->KP f P O w (w.heap.size+1) body (atF (i++[x])) Jx Jp a1 D1 W1->atH a1 W1)->
  assign.wpIn (Fence.wide.inRound l) 0 P (Exit.then atH (λ_ _ _=>False)) {tmps:=(ps.zip x).foldl (λt (p,v)=>t.setIfInBounds p v) a.tmps,defers:=[]} W)
 (jS:∀(xs:List (Array Value)),Ok xs->∀(W:ι),aN O (w.heap.size+2) (atF xs) w W->w.heap.size+2<=W.heap.size->W.heap[w.heap.size]?=some (.deferred (some []))->Q .normal {a with defers:={target:=.collected w.heap.size,args:=#[]}::a.defers} W)
 (lx:∀(c:Ϯ) (W:ι),aN O (w.heap.size+2) (Jx c) w W->w.heap.size+2<=W.heap.size->W.heap[w.heap.size]?=some (.deferred (some []))->c.wpIn Fence.wide 0 P Q {a with defers:={target:=.collected w.heap.size,args:=#[]}::a.defers} W)
 (oF:∀(c:List Υ) (W:ι),aN O (w.heap.size+2) (Jp c) w W->w.heap.size+2<=W.heap.size->W.heap[w.heap.size]?=some (.deferred (some []))->Q (.panic c) {a with defers:={target:=.collected w.heap.size,args:=#[]}::a.defers} W):
 vD f P (Code.rangeFunc g ps assign body) Q a w:=by
 obtain⟨rec,gj⟩:∃rec:Loop,rec={state:=.ready,pending:=none,fn:=f,tmps:=a.tmps,params:=ps,assign,body,defers:=w.heap.size}:=⟨_,rfl⟩;obtain⟨W1,xn⟩:∃W1,(w.alloc (.deferred (some []))).alloc (.loop rec)=W1:=⟨_,rfl⟩;have Aq:W1.heap[w.heap.size+1]?=some (.loop rec):=by
  rw[<-xn];have:=ψ (w.alloc (.deferred (some []))) (.loop rec);rwa [World.size_alloc]at this
 have eM:W1.heap[w.heap.size]?=some (.deferred (some [])):=by
  rw[<-xn];exact(Ζ _ _ _ (by simp)).trans (ψ w _)
 have PD:W1.heap.size=w.heap.size+1+1:=by rw[<-xn];simp
 have xm:Below w.heap.size w W1:=by
  rw[<-xn];exact((π _ w).alloc (μ _) _).alloc (by simp) _
 have sD:(ϸ f a.tmps ps assign body none).run P w=.ok (w.heap.size+1,[{target:=.collected w.heap.size,args:=#[]}]) W1:=by rw[<-xn,gj];exact run_enterLoop_outer _ _ _ _ _
 rw[gj]at Aq;exact I3 oE hg eg hit uu uv mK sD (by omega) Aq PD xm O hO atF Jx Jp lJ h0 pI (λxs cI W G A K=>jS xs cI W G A ((K w.heap.size (μ _) (by omega)).trans eM)) (λc W G A K=>bQ (lx c W G A ((K w.heap.size (μ _) (by omega)).trans eM))) (λc W G A K=>oF c W G A ((K w.heap.size (μ _) (by omega)).trans eM))
end
section
section
variable {F:Fence} {nF:Nat} {P:Ϩ} {ops:Array Ε} {Q:Â->Ϡ->ι->Prop} {o:Ε} {rest:List Ε} {a:Ϡ} {w:ι}
theorem iu {zs:List Value}{T:ϣ}(hF:∀f,F.fn f)(hd:∀c,o.op≠ .defer c)(pD:o.guard=none)(hr:(execOp a.eval o).run P w=.ok (.value (ε (some ⟨w.heap.size,0,none⟩))) (w.alloc (θ zs.toArray T)))
 (hK:∀Y,M Y w.heap.size zs T->Y.heap.size=w.heap.size+1->Below w.heap.size w Y->wpListIn F nF P ops Q rest (a.put o.dst (ε (some ⟨w.heap.size,0,none⟩))) Y):wpListIn F nF P ops Q (o::rest) a w:=
 wpListIn_plain pD λ_ I=>bw hF hd hr (I _ _ (hK _ (M.new w zs T) (by simp) ((π _ _).alloc (μ _) _)))
theorem iw {T:ϣ}{x y:Θ}{b:Nat}{vs cs:List Value}(hF:∀f,F.fn f)(pD:o.guard=none)(ho:o.op=.store T x y)(X:a.eval x=ε (some ⟨b,0,none⟩))(hy:a.eval y=.agg vs.toArray)(aB:M w b cs T)(N:cs.length=vs.length)
 (S:(P.info? T).map (·.size)=some vs.length)(G:∀v∈vs,v.oneCell'=true)(hK:∀Y,M Y b vs T->ak (λk=>k=b) w Y->wpListIn F nF P ops Q rest (a.put o.dst undef) Y):wpListIn F nF P ops Q (o::rest) a w:=by
 have vI:=BM (vs:=vs) (o:=0) aB;rw[uG vs cs N]at vI;refine wpListIn_plain pD λatH I=>?_;unfold Oper.wpIn;refine⟨λf _=>hF f,?_⟩;rw[Oper.semAt_plain F _ _ (λc e=>by rw[ho]at e;cases e)];unfold execOp;simp only[ho,X,hy,Ã,Instr.sureAddr,Sem.run_bind,Sem.run_pure,Result.andThen_ok,run_storeVar_mid w b 0 T vs.toArray (sF aB (by rw[ρ];exact N.symm)) (by rw[ρ];exact S) (all_oneCell_toArray G)];exact I _ _ (hK _ vI (Dy b 0 vs w))
end
end
section
open Go.Sort
attribute [local go_sem] Oper.semAt_some
attribute [local go_sem] bG aV
attribute [local simp] bG aV
structure KE where
 kc:ByteArray
 ku:ByteArray
 ev:List Value
def fi (k:KE):Array Value:=#[.agg #[η k.kc,η k.ku],.agg k.ev.toArray]
theorem PE {x y:KE}(h:fi x=fi y):x=y:=by
 obtain⟨a,b,c⟩:=x;obtain⟨a',b',c'⟩:=y;unfold fi at h;simp at h;obtain⟨⟨G,A⟩,K⟩:=h;subst G A K;rfl
theorem G0:∀{a b:List KE},a.map fi=b.map fi->a=b
 |[],[],_=>rfl
 |[],_::_,h=>by cases h
 |_::_,[],h=>by cases h
 |x::a,y::b,h=>by
  rw[υ,υ]at h;injection h with G A
  rw[PE G,G0 A]
theorem I6:∀{es fs:List KE} {x:Array Value} {gA:List (Array Value)},es.map fi++x::gA=fs.map fi->∃e r,fs=es++e::r/\x=fi e
 |[],[],_,_,h=>by cases h
 |[],e::r,_,_,h=>by
  have h':=List.cons.inj (show _::_=fi e::r.map fi from h);exact⟨e,r,rfl,h'.1⟩
 |_::_,[],_,_,h=>by cases h
 |a::es,b::fs,x,gA,h=>by
  have h':fi a::(es.map fi++x::gA)=fi b::fs.map fi:=h;injection h' with G A
  obtain⟨e,r,rfl,X⟩:=I6 A;exact⟨e,r,by rw[PE G];rfl,X⟩
theorem KQ {F:Fence}{nF:Nat}{ops:Array Ε}{rest:List Ε}{o:Ε}{a:Ϡ}{w:ι}{Q:Â->Ϡ->ι->Prop}{x:Θ}{b:Nat}{EV:List Value}(hg:o.guard=none)(ho:o.op=.load 79 x)(X:a.eval x=ε (some ⟨b,0,none⟩))
 (aB:M w b EV 79)(N:EV.length=18)(hF:∀f,F.fn f)(hK:wpListIn F nF prog ops Q rest (a.put o.dst (.agg EV.toArray)) w):wpListIn F nF prog ops Q (o::rest) a w:=
 wpListIn_plain hg λatH oc=>bw hF (by rw[ho];intro c hc;cases hc) (aY ho X (jU aB N)) (oc _ _ hK)
def OJ (O:aj)(W0:ι)(atF:List (Array Value)->aP)(atD:KE->List aJ)(pre:List (Array Value)):aP:=λD W=>∃ks:List KE,pre=ks.map fi/\DX O W0 (atF (dF (ks.flatMap atD))) D W
theorem OJ.cL {O:aj}{W0:ι}{atF:List (Array Value)->aP}{atD:KE->List aJ}{pre:List (Array Value)}{D:aj}{W:ι}(hD:∀k,D k->k<W.heap.size)(h:OJ O W0 atF atD pre D W):On D (OJ O W0 atF atD pre) W:=by
 obtain⟨ks,G,A⟩:=h;exact⟨hD,λW2 I=>⟨ks,G,(DX.cL hD A).2 W2 I⟩⟩
def PF (O:aj)(W0:ι)(atF:List (Array Value)->aP)(atx:List aJ)(pre:List (Array Value)):aP:=λD W=>∃es:List aJ,pre=dF es/\DX O W0 (atF (dF (atx++es))) D W
theorem PF.cL {O:aj}{W0:ι}{atF:List (Array Value)->aP}{atx:List aJ}{pre:List (Array Value)}{D:aj}{W:ι}(hD:∀k,D k->k<W.heap.size)(h:PF O W0 atF atx pre D W):On D (PF O W0 atF atx pre) W:=by
 obtain⟨es,G,A⟩:=h;exact⟨hD,λW2 I=>⟨es,G,(DX.cL hD A).2 W2 I⟩⟩
def Dz (O:aj)(W0:ι)(Js:aP)(c:Ϯ):aP:=λD W=>c=.ret/\DX O W0 Js D W
theorem Dz.cL {O:aj}{W0:ι}{Js:aP}{D:aj}{W:ι}(hD:∀k,D k->k<W.heap.size)(h:DX O W0 Js D W):On D (Dz O W0 Js .ret) W:=⟨hD,λW2 I=>⟨rfl,(DX.cL hD h).2 W2 I⟩⟩
end
section
open Go.Maps Go.ChangeMaps Go.WideElems Go.MapKept
theorem Ul:(207:ϣ)<prog.types.size:=of_decide_eq_true (by kernel_rfl)
theorem acR:(match prog.underlying 207 with|some (.array _ _)|some (.struct _)=>true|_=>false)=true:=by rw[underlying207]
theorem acS:WideMaps.KeyLaw prog 207:=deep_law_laid LJ (m:=2) (by omega) Ul (by kernel_rfl) acR
theorem qP:Keyed prog 207:=Keyed.of_law acS
theorem acT:prog.keyType 207=true:=by kernel_rfl
theorem Yj:prog.cellsOf 207=2:=by kernel_rfl
theorem Um:prog.cellsOf 9=1:=by kernel_rfl
def iL (c u:ByteArray):Value:=.agg #[η c,η u]
theorem acU {c u c' u':ByteArray}(h:iL c u=iL c' u'):c=c'/\u=u':=by unfold iL at h;simpa using h
theorem BN (c u:ByteArray)(hc:c.size<=maxLen)(hu:u.size<=maxLen):∃kl,keyOf prog 207 (iL c u)=some kl:=by
 unfold keyOf iL;obtain⟨k,I⟩:=LK Ul;rw[underlying207,acT,I];simp[Value.formed,underlying207,Yj,Value.cells,Program.keyLits,Um,underlying9,hc,hu]
def dj (c u:ByteArray)(k:KE):Bool:=decide (k.kc=c)&&decide (k.ku=u)
theorem fj {c u:ByteArray}{k:KE}:dj c u k=true↔k.kc=c/\k.ku=u:=by unfold dj;simp
def Ar (k:KE):Prop:=k.kc.size<=maxLen/\k.ku.size<=maxLen
def lf (w:ι)(b:Nat)(ks:List KE):Prop:=
 ∃(es:Array Ι) (clock:Nat),w.heap[b]?=some (.map es clock)/\es.toList.map (λe=>#[e.key,e.val])=ks.map fi/\(∀x∈es.toList,x.born<clock)/\(es.toList.map (·.born)).Nodup/\ks.Pairwise (λx y=>dj x.kc x.ku y=false)/\∀k∈ks,Ar k
theorem lf.lt {w:ι}{b:Nat}{ks:List KE}(h:lf w b ks):b<w.heap.size:=by obtain⟨es,cl,h,_⟩:=h;exact(Array.getElem?_eq_some_iff.1 h).1
theorem lf.keep {w Y:ι}{b:Nat}{ks:List KE}(h:lf w b ks)(e:Y.heap[b]?=w.heap[b]?):lf Y b ks:=by
 obtain⟨es,cl,h,r⟩:=h;exact⟨es,cl,e.trans h,r⟩
theorem lf.made (w:ι):lf (w.alloc (.map #[] 0)) w.heap.size []:=⟨#[],0,ψ w _,rfl,by simp,by simp,List.Pairwise.nil,by simp⟩
theorem LL {es:List Ι}{ks:List KE}(h:es.map (λe=>#[e.key,e.val])=ks.map fi){i:Nat}{e:Ι}(he:es[i]?=some e):∃k,ks[i]?=some k/\e.key=iL k.kc k.ku/\e.val=.agg k.ev.toArray:=by
 have G:(es.map (λe=>#[e.key,e.val]))[i]?=some #[e.key,e.val]:=by rw[τ,he];rfl
 rw[h,τ]at G;cases I:ks[i]?with
 |none=>rw[I]at G;cases G
 |some k=>
  rw[I]at G;have A:fi k=#[e.key,e.val]:=ν G;unfold fi at A;simp at A;exact⟨k,rfl,A.1.symm,A.2.symm⟩
theorem aeX {es:List Ι}{ks:List KE}(h:es.map (λe=>#[e.key,e.val])=ks.map fi){e:Ι}(he:e∈es):∃k∈ks,e.key=iL k.kc k.ku/\e.val=.agg k.ev.toArray:=by
 obtain⟨i,S⟩:=ϫ he;obtain⟨k,I,r⟩:=LL h S;exact⟨k,ώ I,r⟩
theorem Yk {es:List Ι}{ks:List KE}(h:es.map (λe=>#[e.key,e.val])=ks.map fi)(hs:∀k∈ks,Ar k):∀e∈es,∃l,keyOf prog 207 e.key=some l:=by
 intro e he;obtain⟨k,I,G,_⟩:=aeX h he;rw[G];exact BN _ _ (hs k I).1 (hs k I).2
def dm (c u:ByteArray)(ks:List KE):Option KE:=ks.find? (dj c u)
theorem Yl {ks:List KE}(hd:ks.Pairwise (λx y=>dj x.kc x.ku y=false)){i:Nat}{k:KE}(S:ks[i]?=some k):dm k.kc k.ku ks=some k:=by
 unfold dm;rw[List.find?_eq_some_iff_getElem];obtain⟨N,I⟩:=List.getElem?_eq_some_iff.1 S;refine⟨fj.2 ⟨rfl,rfl⟩,i,N,I,λj hj=>?_⟩;have:=List.pairwise_iff_getElem.1 hd j i (by omega) N hj;rw[I]at this;cases hs:dj k.kc k.ku ks[j]
 ·rfl
 obtain⟨e1,e2⟩:=fj.1 hs;rw[fj.2 ⟨e1.symm,e2.symm⟩]at this;cases this
theorem Fh {c u:ByteArray}{ks:List KE}:dm c u ks=none↔∀k∈ks,dj c u k=false:=by
 unfold dm;rw[List.find?_eq_none];simp
theorem lf.find {w:ι}{b:Nat}{ks:List KE}(h:lf w b ks)(c u:ByteArray)(hc:c.size<=maxLen)(hu:u.size<=maxLen):
 ∃es clock,w.heap[b]?=some (.map es clock)/\es.toList.map (λe=>#[e.key,e.val])=ks.map fi/\(∀x∈es.toList,x.born<clock)/\(es.toList.map (·.born)).Nodup/\
 (((Instr.findKey 207 (iL c u) es.toList).run prog w=.ok none w/\dm c u ks=none)\/
  ∃j k e,(Instr.findKey 207 (iL c u) es.toList).run prog w=.ok (some (j,.agg k.ev.toArray)) w/\dm c u ks=some k/\ks[j]?=some k/\es.toList[j]?=some e/\e.key=iL c u/\k.kc=c/\k.ku=u):=by
 obtain⟨es,cl,U,he,G,A,K,h4⟩:=h;obtain⟨kl,ja⟩:=BN c u hc hu;refine⟨es,cl,U,he,G,A,?_⟩;rcases qP.find w ja es.toList (Yk he h4)with⟨f1,f2⟩|⟨j,e,f1,f2,f3⟩
 ·refine .inl ⟨f1,Fh.2 λk I=>?_⟩;cases hs:dj c u k
  ·rfl
  obtain⟨e1,e2⟩:=fj.1 hs;obtain⟨i,S⟩:=ϫ I;have N:i<es.toList.length:=by
   have:=congrArg Ϫ he;simp only[ϊ]at this;rw[this];exact(List.getElem?_eq_some_iff.1 S).1
  obtain⟨k',cj,e3,_⟩:=LL he (ο N);rw[S]at cj;cases cj;exact absurd (e3.trans (by rw[e1,e2])) (f2 _ (List.getElem_mem N))
 obtain⟨k,I,e1,e2⟩:=LL he f2;obtain⟨g1,g2⟩:=acU (e1.symm.trans f3);subst g1 g2;rw[e2]at f1;exact .inr ⟨j,k,e,f1,Yl K I,I,f2,f3,rfl,rfl⟩
theorem tR:prog.underlying 200=some (.map 207 79):=underlying200
def ev0:List Value:=[η χ,V Z 0,V Z 0,.bool false,V Z 0,V Z 0,V Z 0,V Z 0,ζ none 0 0,ζ none 0 0,ζ none 0 0,ζ none 0 0,V Z 0,η χ,ζ none 0 0,ζ none 0 0,.bool false,V Z 0]
theorem lf.look {w:ι}{b:Nat}{ks:List KE}(h:lf w b ks)(c u:ByteArray)(hc:c.size<=maxLen)(hu:u.size<=maxLen):
 (Ϝ 200 (.map (some b)) (iL c u) true).run prog w=.ok (.tuple #[.agg (((dm c u ks).map KE.ev).getD ev0).toArray,.bool (dm c u ks).isSome]) w:=by
 obtain⟨kl,ja⟩:=BN c u hc hu;obtain⟨es,cl,U,he,G,A,⟨f1,f2⟩|⟨j,k,e,f1,f2,f3,f4,f5,f6⟩⟩:=h.find c u hc hu
 ·rw[f2];simp[Ϝ,run_underlying tR,φ U,qP.check w _ ja,f1,ξ];rfl
 rw[f2];simp[Ϝ,run_underlying tR,φ U,qP.check w _ ja,f1,ξ]
theorem lf.len {w:ι}{b:Nat}{ks:List KE}(h:lf w b ks)(ty:ϣ):(Builtin.len_ #[200] ty #[.map (some b)]).run prog w=.ok (V Z ks.length) w:=by
 obtain⟨es,cl,U,he,_⟩:=h;have:=congrArg Ϫ he;simp only[ϊ]at this;rw[<-this];simp[Builtin.len_,run_underlying tR,φ U,goInt,ξ]
def oH (k:KE)(ks:List KE):List KE:=if(dm k.kc k.ku ks).isSome then ks.map λx=>if dj k.kc k.ku x then k else x else ks++[k]
theorem yv (x y:KE):dj x.kc x.ku y=dj y.kc y.ku x:=by
 cases h:dj x.kc x.ku y
 ·cases h':dj y.kc y.ku x
  ·rfl
  obtain⟨a,b⟩:=fj.1 h';rw[fj.2 ⟨a.symm,b.symm⟩]at h;cases h
 obtain⟨a,b⟩:=fj.1 h;exact(fj.2 ⟨a.symm,b.symm⟩).symm
theorem aiH {ks:List KE}(hd:ks.Pairwise (λx y=>dj x.kc x.ku y=false)){j:Nat}{k:KE}(hj:ks[j]?=some k){i:Nat}{x:KE}(S:ks[i]?=some x):dj k.kc k.ku x=decide (i=j):=by
 obtain⟨G,A⟩:=List.getElem?_eq_some_iff.1 hj;obtain⟨K,h4⟩:=List.getElem?_eq_some_iff.1 S;rcases Nat.lt_trichotomy i j with h|h|h
 ·have:=List.pairwise_iff_getElem.1 hd i j K G h;rw[A,h4,yv]at this;rw[this];simp;omega
 ·subst h;rw[S]at hj;cases hj;rw[fj.2 ⟨rfl,rfl⟩];simp
 have:=List.pairwise_iff_getElem.1 hd j i G K h;rw[A,h4]at this;rw[this];simp;omega
theorem LN {ks:List KE}(hd:ks.Pairwise (λx y=>dj x.kc x.ku y=false)){j:Nat}{k k':KE}(hj:ks[j]?=some k)(e1:k'.kc=k.kc)(e2:k'.ku=k.ku):(ks.map λx=>if dj k'.kc k'.ku x then k' else x)=ks.set j k':=by
 apply List.ext_getElem?;intro i;rw[τ,List.getElem?_set];cases S:ks[i]?with
 |none=>
  have:ks.length<=i:=List.getElem?_eq_none_iff.1 S;have N:=(List.getElem?_eq_some_iff.1 hj).1;rw[if_neg (by omega)];rfl
 |some x=>
  have N:=(List.getElem?_eq_some_iff.1 hj).1;rw[Option.map_some,e1,e2,aiH hd hj S];by_cases h:i=j
  ·subst h;simp[N]
  rw[if_neg (c:=j=i) (λe=>h e.symm),decide_eq_false h];simp
theorem aeZ {ks:List KE}(hd:ks.Pairwise (λx y=>dj x.kc x.ku y=false)){j:Nat}{k k':KE}(hj:ks[j]?=some k)(e1:k'.kc=k.kc)(e2:k'.ku=k.ku):(ks.set j k').Pairwise (λx y=>dj x.kc x.ku y=false):=by
 rw[<-LN hd hj e1 e2];rw[List.pairwise_map];refine hd.imp λ{x y} h=>?_;have f:∀z:KE,(if dj k'.kc k'.ku z then k' else z).kc=z.kc/\(if dj k'.kc k'.ku z then k' else z).ku=z.ku:=by
  intro z;by_cases hz:dj k'.kc k'.ku z=true
  ·rw[if_pos hz];exact⟨(fj.1 hz).1.symm,(fj.1 hz).2.symm⟩
  rw[if_neg hz];exact⟨rfl,rfl⟩
 rw[(f x).1,(f x).2];have f2:∀(c u:ByteArray) (z:KE),dj c u (if dj k'.kc k'.ku z then k' else z)=dj c u z:=by
  intro c u z;show(decide (_=c)&&decide (_=u))=(decide (_=c)&&decide (_=u));rw[(f z).1,(f z).2]
 rw[f2];exact h
theorem acV {ks:List KE}(hd:ks.Pairwise (λx y=>dj x.kc x.ku y=false)){k:KE}(hf:dm k.kc k.ku ks=none):(ks++[k]).Pairwise (λx y=>dj x.kc x.ku y=false):=
 List.pairwise_append.2 ⟨hd,List.pairwise_singleton _ _,λx X y hy=>by rw[List.mem_singleton.1 hy,yv];exact Fh.1 hf x X⟩
theorem uH (w:ι)(b:Nat)(o:Obj):ak (λk=>k=b) w (setBlock w b o):=⟨rfl,rfl,rfl,by simp[setBlock],λk _ I=>by
 show(w.heap.setIfInBounds b o)[k]?=_;rw[Array.getElem?_setIfInBounds_ne (λe=>I e.symm)]⟩
theorem lf.put {w:ι}{b:Nat}{ks:List KE}(h:lf w b ks)(k:KE)(I:Ar k):
 ∃Y,(Λ 200 (.map (some b)) (iL k.kc k.ku) (.agg k.ev.toArray)).run prog w=.ok () Y/\lf Y b (oH k ks)/\ak (λx=>x=b) w Y:=by
 obtain⟨kl,ja⟩:=BN k.kc k.ku I.1 I.2;have hd:ks.Pairwise (λx y=>dj x.kc x.ku y=false)/\∀k∈ks,Ar k:=by obtain⟨_,_,_,_,_,_,a,b⟩:=h;exact⟨a,b⟩
 obtain⟨es,cl,U,he,G,A,⟨f1,f2⟩|⟨j,k0,e,f1,f2,f3,f4,f5,f6,f7⟩⟩:=h.find k.kc k.ku I.1 I.2
 ·have iF:(Λ 200 (.map (some b)) (iL k.kc k.ku) (.agg k.ev.toArray)).run prog w=.ok () (setBlock w b (.map (es.push ⟨iL k.kc k.ku,.agg k.ev.toArray,cl⟩) (cl+1))):=by
   simp[Λ,run_underlying tR,φ U,qP.check w false ja,f1,Ϥ _ U,ξ,setBlock]
  refine⟨_,iF,⟨_,_,heap_setBlock_same U _,?_,?_,?_,?_,?_⟩,uH _ _ _⟩
  ·unfold oH;rw[f2];simp[he,fi,iL]
  ·intro x X;simp only[Array.toList_push,À,ϯ]at X;rcases X with X|rfl
   ·have:=G x X;omega
   simp
  ·simp only[Array.toList_push,Γ,υ,Å];rw[ϳ];refine⟨A,by simp,λx X y hy=>?_⟩;obtain⟨z,hz,rfl⟩:=List.mem_map.1 X;have:=G z hz;rw[List.mem_singleton.1 hy];omega
  ·unfold oH;rw[f2];exact acV hd.1 f2
  unfold oH;rw[f2];intro x X;rcases List.mem_append.1 X with X|X
  ·exact hd.2 x X
  rw[List.mem_singleton.1 X];exact I
 have hj:es[j]?=some e:=by simpa using f4
 have qQ:(es.modify j λe=>{e with key:=iL k.kc k.ku,val:=.agg k.ev.toArray}).toList=es.toList.set j ⟨iL k.kc k.ku,.agg k.ev.toArray,e.born⟩:=by
  rw[Array.toList_modify,modify_eq_set _ _ _ _ f4]
 have iF:(Λ 200 (.map (some b)) (iL k.kc k.ku) (.agg k.ev.toArray)).run prog w=.ok () (setBlock w b (.map (es.modify j λe=>{e with key:=iL k.kc k.ku,val:=.agg k.ev.toArray}) cl)):=by
  simp[Λ,run_underlying tR,φ U,qP.check w false ja,f1,hj,f5,qP.stays w ja,Ϥ _ U,ξ,setBlock]
 have J:oH k ks=ks.set j k:=by
  unfold oH;rw[f2];exact LN hd.1 f3 f6.symm f7.symm
 refine⟨_,iF,⟨_,_,heap_setBlock_same U _,?_,?_,?_,?_,?_⟩,uH _ _ _⟩
 ·rw[qQ,J,List.map_set,he,List.map_set];rfl
 ·intro x X;rw[qQ]at X;rcases List.mem_or_eq_of_mem_set X with X|rfl
  ·exact G x X
  exact G e (ώ f4)
 ·have:((es.toList.set j ⟨iL k.kc k.ku,.agg k.ev.toArray,e.born⟩).map (·.born))=es.toList.map (·.born):=by
   rw[List.map_set];exact set_self _ _ _ (by rw[τ,f4];rfl)
  rw[qQ,this];exact A
 ·rw[J];exact aeZ hd.1 f3 f6.symm f7.symm
 rw[J];intro x X;rcases List.mem_or_eq_of_mem_set X with X|rfl
 ·exact hd.2 x X
 exact I
def nM (w:ι)(b r:Nat)(ks done left:List KE):Prop:=
 ∃(es:Array Ι) (clock:Nat) (seen:Array Nat),w.heap[b]?=some (.map es clock)/\w.heap[r]?=some (.mapIter (some b) clock seen clock)/\es.toList.map (λe=>#[e.key,e.val])=ks.map fi/\(∀x∈es.toList,x.born<clock)/\(es.toList.map (·.born)).Nodup/\
  (leftOf es seen).toList.map (λe=>#[e.key,e.val])=left.map fi/\(done++left).Perm ks
theorem nM.keep {w Y:ι}{b r:Nat}{ks done left:List KE}(h:nM w b r ks done left)(e1:Y.heap[b]?=w.heap[b]?)(e2:Y.heap[r]?=w.heap[r]?):nM Y b r ks done left:=by
 obtain⟨es,cl,seen,G,A,K⟩:=h;exact⟨es,cl,seen,e1.trans G,e2.trans A,K⟩
theorem nM.lt {w:ι}{b r:Nat}{ks done left:List KE}(h:nM w b r ks done left):b<w.heap.size/\r<w.heap.size/\b≠r:=by
 obtain⟨es,cl,seen,G,A,K⟩:=h;refine⟨(Array.getElem?_eq_some_iff.1 G).1,(Array.getElem?_eq_some_iff.1 A).1,?_⟩;rintro rfl;rw[G]at A;cases A
theorem nM.perm {w:ι}{b r:Nat}{ks done left:List KE}(h:nM w b r ks done left):(done++left).Perm ks:=by obtain⟨_,_,_,_,_,_,_,_,_,h⟩:=h;exact h
theorem lf.range {w:ι}{b:Nat}{ks:List KE}(h:lf w b ks):
 ∃o,(Instr.range 200 (.map (some b))).run prog w=.ok (ε (some ⟨w.heap.size,0,none⟩)) (w.alloc o)/\nM (w.alloc o) b w.heap.size ks [] ks:=by
 have aQ:=h.lt;obtain⟨es,cl,U,he,G,A,K,h4⟩:=h;refine⟨.mapIter (some b) cl #[] cl,run_range_map w _ _ _ b es cl tR U,es,cl,#[],(Ζ _ _ _ aQ).trans U,ψ w _,he,G,A,?_,by simp⟩;have:leftOf es #[]=es:=by simp[leftOf]
 rw[this];exact he
theorem OA {es:Array Ι}{seen:Array Nat}{e:Ι}(hn:(es.toList.map (·.born)).Nodup)(he:e∈(leftOf es seen).toList):
 ∃l1 l2,(leftOf es seen).toList=l1++e::l2/\(leftOf es (seen.push e.born)).toList=l1++l2:=by
 have e1:(leftOf es (seen.push e.born)).toList=(leftOf es seen).toList.filter (λx=>x.born !=e.born):=by
  unfold leftOf;rw[Array.toList_filter,Array.toList_filter,List.filter_filter];apply List.filter_congr;intro x _;rw[Array.contains_push];cases seen.contains x.born<;>cases U:(x.born==e.born)<;>simp_all
 have e2:((leftOf es seen).toList.map (·.born)).Nodup:=by
  unfold leftOf;rw[Array.toList_filter];exact hn.sublist (List.filter_sublist.map _)
 obtain⟨l1,l2,N⟩:=List.append_of_mem he;refine⟨l1,l2,N,?_⟩;rw[e1,N];rw[N,Γ,υ,ϳ,List.nodup_cons]at e2;rw[Τ,List.filter_cons_of_neg (by simp)];congr 1
 ·refine List.filter_eq_self.2 λx X=>?_;have:=e2.2.2 x.born (ϗ X) e.born (by simp);simpa using this
 refine List.filter_eq_self.2 λx X=>?_;have:e.born≠x.born:=λh=>e2.2.1.1 (h▸ϗ X);simpa using λh=>this h.symm
theorem Un {l1 l2:List Ι}{e:Ι}{ks:List KE}(h:(l1++e::l2).map (λe=>#[e.key,e.val])=ks.map fi):
 ∃k k1 k2,ks=k1++k::k2/\e.key=iL k.kc k.ku/\e.val=.agg k.ev.toArray/\l1.map (λe=>#[e.key,e.val])=k1.map fi/\l2.map (λe=>#[e.key,e.val])=k2.map fi:=by
 induction l1 generalizing ks with
 |nil=>
  cases ks with
  |nil=>cases h
  |cons k k2=>
   simp only[Ψ,υ,List.cons.injEq]at h;obtain⟨G,A⟩:=h;unfold fi at G;simp at G;exact⟨k,[],k2,rfl,G.1,G.2,rfl,A⟩
 |cons y l1 ih=>
  cases ks with
  |nil=>cases h
  |cons k0 ks=>
   simp only[Χ,υ,List.cons.injEq]at h;obtain⟨G,A⟩:=h;obtain⟨k,k1,k2,rfl,a,b,c,d⟩:=ih A;exact⟨k,k0::k1,k2,rfl,a,b,by rw[υ,υ,G,c],d⟩
theorem nM.next {w:ι}{b r:Nat}{ks done left:List KE}(h:nM w b r ks done left)(ty:ϣ):
 (left=[]/\(Instr.next (ε (some ⟨r,0,none⟩)) false ty).run prog w=.ok (.tuple #[.bool false]) w)\/
 ∃k k1 k2 Y,left=k1++k::k2/\(Instr.next (ε (some ⟨r,0,none⟩)) false ty).run prog w=.ok (.tuple #[.bool true,iL k.kc k.ku,.agg k.ev.toArray]) Y/\nM Y b r ks (done++[k]) (k1++k2)/\
  (Instr.entry (ε (some ⟨r,0,none⟩))).run prog Y=.ok (.tuple #[iL k.kc k.ku,.agg k.ev.toArray]) Y/\ak (λx=>x=r) w Y/\Y.heap.size=w.heap.size:=by
 have df:=h.lt.2.2;obtain⟨es,cl,seen,U,hr,he,G,A,K,h4⟩:=h;rcases run_next_at (P:=prog) w ty r b cl cl seen es cl hr U G (μ _)with⟨h0,iF⟩|⟨e,hem,w1,hal,iF⟩
 ·left;have:left.length=0:=by
   have:=congrArg Ϫ K;simp only[ϊ,Ϭ]at this;omega
  exact⟨List.length_eq_zero_iff.1 this,iF⟩
 right;obtain⟨l1,l2,N,vJ⟩:=OA A hem;rw[N]at K;obtain⟨k,k1,k2,rfl,e1,e2,e3,e4⟩:=Un K;have dH:w1.heap[r]?=some (.mapIter (some b) cl seen cl):=by rcases hal with rfl|rfl<;>exact hr
 have au:w1.heap[b]?=some (.map es cl):=by rcases hal with rfl|rfl<;>exact U
 have qQ:=heap_set (o':=.mapIter (some b) cl (seen.push e.born) cl) dH;have fk:(setBlock w1 r (.mapIter (some b) cl (seen.push e.born) cl)).heap[b]?=some (.map es cl):=(qQ.2 b df).trans au;have X:ak (λx=>x=r) w w1:=by
  rcases hal with rfl|rfl
  ·exact ak.refl _ _
  exact⟨rfl,rfl,rfl,μ _,λ_ _ _=>rfl⟩
 refine⟨k,k1,k2,_,rfl,by rw[iF,e1,e2],⟨es,cl,seen.push e.born,fk,qQ.1,he,G,A,?_,?_⟩,?_,?_,?_⟩
 ·rw[vJ,Γ,e3,e4,Γ]
 ·refine List.Perm.trans ?_ h4;rw[ϟ];exact List.Perm.append_left _ (List.perm_middle (a:=k) (l₁:=k1) (l₂:=k2)).symm
 ·rw[run_entry_at _ r b cl seen es cl e qQ.1 fk (mem_left hem).1 A,e1,e2]
 ·exact X.aM (uH _ _ _)
 rcases hal with rfl|rfl<;>simp[setBlock]
end
section
open Go.Sort
attribute [local go_sem] Oper.semAt_some
theorem aa4 {F:Fence}{nF:Nat}{ops:Array Ε}{rest:List Ε}{o:Ε}{a:Ϡ}{w:ι}{Q:Â->Ϡ->ι->Prop}{x:Θ}{b:Nat}{ks:List KE}(hg:o.guard=none)(ho:o.op=.range 200 x)(X:a.eval x=.map (some b))
 (h:lf w b ks)(hF:∀f,F.fn f)(hK:∀Y,nM Y b w.heap.size ks [] ks->Below w.heap.size w Y->Y.heap.size=w.heap.size+1->wpListIn F nF prog ops Q rest (a.put o.dst (ε (some ⟨w.heap.size,0,none⟩))) Y):wpListIn F nF prog ops Q (o::rest) a w:=by
 obtain⟨ob,hr,hm⟩:=h.range;refine wpListIn_plain hg λatH oc=>bw hF (by rw[ho];intro c hc;cases hc) (v:=ε (some ⟨w.heap.size,0,none⟩)) (Y:=w.alloc ob) ?_ (oc _ _ (hK _ hm ((π _ _).alloc (μ _) _) (by simp)));simp[execOp,ho,X,hr,ξ]
theorem aa5 {F:Fence}{nF:Nat}{ops:Array Ε}{rest:List Ε}{o:Ε}{a:Ϡ}{w:ι}{Q:Â->Ϡ->ι->Prop}{x:Θ}{b r:Nat}{ks done left:List KE}(hg:o.guard=none)(ho:o.op=.next x false)(X:a.eval x=ε (some ⟨r,0,none⟩))
 (h:nM w b r ks done left)(hF:∀f,F.fn f)(hK0:left=[]->wpListIn F nF prog ops Q rest (a.put o.dst (.tuple #[.bool false])) w)
 (hK:∀k k1 k2 Y,left=k1++k::k2->nM Y b r ks (done++[k]) (k1++k2)->(Instr.entry (ε (some ⟨r,0,none⟩))).run prog Y=.ok (.tuple #[iL k.kc k.ku,.agg k.ev.toArray]) Y->ak (λx=>x=r) w Y->Hid (Y.heap.size=w.heap.size)->
  wpListIn F nF prog ops Q rest (a.put o.dst (.tuple #[.bool true,iL k.kc k.ku,.agg k.ev.toArray])) Y):wpListIn F nF prog ops Q (o::rest) a w:=by
 rcases h.next o.type with⟨h0,hr⟩|⟨k,k1,k2,Y,G,hr,A,K,h4,h5⟩
 ·refine wpListIn_plain hg λatH oc=>bw hF (by rw[ho];intro c hc;cases hc) (v:=.tuple #[.bool false]) (Y:=w) ?_ (oc _ _ (hK0 h0));simp[execOp,ho,X,hr,ξ]
 refine wpListIn_plain hg λatH oc=>bw hF (by rw[ho];intro c hc;cases hc) (v:=.tuple #[.bool true,iL k.kc k.ku,.agg k.ev.toArray]) (Y:=Y) ?_ (oc _ _ (hK k k1 k2 Y G A K h4 (H h5)));simp[execOp,ho,X,hr,ξ]
def amK:List Value:=[η χ,η χ]
theorem wG {o:Ε}(ho:o.op=.alloc 207)(a:Ϡ)(w:ι):(execOp a.eval o).run prog w=.ok (.value (ε (some ⟨w.heap.size,0,none⟩))) (w.alloc (θ amK.toArray 207)):=by
 obtain⟨_,_,_,_,_,_⟩:=o;simp only[]at ho;subst ho;kernel_rfl
theorem G1:(prog.info? 207).map (·.size)=some 2:=by kernel_rfl
def ae0 (ks:List KE)(xs:List (Array Value)):Prop:=∃dK:List KE,dK.Perm ks/\xs=dK.map fi
theorem RT (ks:List KE)(b bm:Nat)(w:ι)(hm:lf w b ks)(hq:M w bm [.map (some b)] 200)(ib:∀k∈ks,k.ev.length=18/\∀v∈k.ev,v.oneCell'=true):
 qw prog 224 #[ε (some ⟨bm,0,none⟩)] (ae0 ks) (λk=>k=bm\/k=b) w:=by
 intro l W O atF Js Jp bp hR hO cJ hY;replace hm:=hm.keep (hR b (.inr rfl));replace hq:=hq.keep (hR bm (.inl rfl));have nOb:¬O b:=λh=>hO b h (.inr rfl);have hlb:=hm.lt;have HV:=H ib;clear hR hO ib;refine callsIn_of_wp func224 rfl trivial ?_ rfl;simp only[ntmps224,ρ,Α,Ω,ϧ,Ϧ,ό,ϋ,Ϟ,Ϙ,Ψ,Χ];have c0:=hq.cell (k:=0) rfl;gi_wp2_with (refine aa4 rfl rfl rfl hm (λ_=>trivial) ?_;intro W0 hrg bh Uo);simp only[Act.put,Ο,Ϛ,ϙ];clear c0 hq hm;have amL:=H Uo;clear Uo;gi_loopg [] ks.length (λn wr=>∃(done left:List KE) (D:aj),left.length=n/\nM wr b W.heap.size ks done left/\ak O W wr/\¬D W.heap.size/\¬D b/\(∀k,D k->O k\/W.heap.size<=k)/\(∀k,O k->D k)/\On D (atF (done.map fi)) wr)
 case atStart=>
  exact⟨[],ks,O,rfl,hrg,ak.ar bh,λh=>by have:=cJ.1 _ h;omega,nOb,λ_ h=>.inl h,λ_ h=>h,cJ.below bh⟩
 case round=>
  obtain⟨done,left,D,hlen,hr,X,As,uI,ep,dV,aG⟩:=hrel;have zv:=X.size;gi_wp2_with (refine aa5 rfl rfl rfl hr (λ_=>trivial) ?_ ?_)
  ·intro h0;subst h0;have J:=hr.perm;rw[Á]at J;gi_wp2_with fail;go_end0;exact .inl ⟨⟨_,rfl⟩,.inl ⟨_,⟨done,J,rfl⟩,X,D,ep,dV,aG⟩⟩
  intro k k1 k2 w1 N dH sD bz oV;have J:=dH.perm;have I7:k∈ks:=J.mem_iff.1 (by simp);obtain⟨iG,oG⟩:=HV.out k I7;have DB:=dH.lt;have sY:ak O W w1:=X.trans bz (λj hj=>.inr (by omega));have pR:On D (atF (done.map fi)) w1:=aG.on λj hj=>bz.block j (aG.1 j hj) (λe=>As (e▸hj));have HYk:Hid (∀w8:ι,ak O W w8->On D (atF (done.map fi)) w8->YieldAt Fence.wide 0 prog l (fi k) w8 (Cw D (atF ((done++[k]).map fi)) Js Jp w8)):=H λw8 a1 a2=>by
   have:=hY (done.map fi) (fi k) ⟨(k1++k2).map fi,(done++[k])++(k1++k2),J,by simp⟩ w8 D a1 ep dV a2;rw[Γ];exact this
  have dN:∀j,D j->j<w1.heap.size:=λj hj=>pR.1 j hj;clear hr aG X J hY;unfold iL at sD;unfold iL;gi_wp2_with (first
   |(refine iu (λ_=>trivial) (λ_ h=>by cases h) rfl (wG rfl _ _) ?_;intro w5 Fi ti bJ;replace ti:=H ti)
   |(refine iu (λ_=>trivial) (λ_ h=>by cases h) rfl (jb rfl _ _) ?_;intro w6 zw tj cG;replace tj:=H tj;have Up:=Fi.on cG)
   |(refine iw (vs:=[η k.kc,η k.ku]) (λ_=>trivial) rfl rfl rfl rfl Up rfl G1 (by simp[Δ]) ?_;intro w7 PG iJ;have zx:=zw.ex iJ (λe=>by have:=Fi.lt;omega))
   |(refine iw (λ_=>trivial) rfl rfl rfl rfl zx (by rw[iG];rfl) (by rw[iG];exact jk) oG ?_;intro w8 he8 oe;have uJ:=PG.ex oe (λe=>by have:=Fi.lt;omega);have q0:=uJ.cell (k:=0) rfl;have q1:=uJ.cell (k:=1) rfl;have pS:Below w1.heap.size w1 w8:=((bJ.trans (cG.mono bJ.size)).trans (iJ.below (Β bJ.size cG.size) (λj hj=>by omega))).trans (oe.below (Β (Β bJ.size cG.size) iJ.size) (λj hj=>by have:=bJ.size;omega));obtain⟨f1,t1,a1,b1,gI,eE⟩:=HYk.out w8 (sY.aM (ak.ar pS)) (pR.below pS);unfold fi at gI;replace eE:=H eE)
   |(refine KQ rfl rfl rfl he8 iG (λ_=>trivial) ?_))
  refine⟨rfl,eE.out.mono ?_⟩;have xo:=dH.keep (pS.block b DB.1) (pS.block W.heap.size DB.2.1);have yw:ak O W w8:=sY.aM (ak.ar pS);have hz8:=pS.size;clear gI eE q0 q1 sD Fi zw zx he8 Up PG uJ bJ cG iJ oe HYk ti tj;rintro e W1 (⟨rfl,lO⟩|⟨rfl,lO⟩|⟨c,rfl,lO⟩)
  ·obtain⟨i7,D1,d1,d2,zy⟩:=lO;have ji:¬D1 b:=λh=>(d1 b h).elim uI (λh=>by omega);have Fj:¬D1 W.heap.size:=λh=>(d1 _ h).elim As (λh=>by omega);have la:=xo.keep (i7.block b (by omega) uI) (i7.block _ (by omega) As);have Ym:=yw.trans i7 ep;have hd9:∀j,D1 j->O j\/W.heap.size<=j:=λj hj=>(d1 j hj).elim (ep j) (λh=>.inr (by omega));gi_wp2_with fail;gi_roundg (gk-1)
   case measure=>rw[<-hlen,N];simp
   case rel=>exact⟨done++[k],k1++k2,D1,by rw[<-hlen,N];simp,la,Ym,Fj,ji,hd9,λj hj=>d2 j (dV j hj),zy⟩
  ·have HP:=H (lO.after yw ep dV);gi_wp2_with fail;refine bodyPost_ret (results_none rfl _ _ _) rfl ?_;exact .inl ⟨⟨_,rfl⟩,.inr HP.out⟩
  have HP:=H (lO.after yw ep dV);gi_wp2_with fail;exact⟨rfl,.inr ⟨c,rfl,HP.out⟩⟩
end
section
open Go.Sort
attribute [local go_sem] Oper.semAt_some
structure fQ (w:ι)(v:Value)(ns:List ByteArray):Prop where
 is:(∃a c,v=ζ a 0 c/\ns=[])\/∃b off c,v=ζ (some ⟨b,off,none⟩) ns.length c/\ns.length<=c/\∀j,j<ns.length->w.cell? ⟨b,off+j,none⟩=some (η (ns.getD j χ))
 fW:∀b,v.ownBlock=some b->b<w.heap.size
theorem fQ.keep {w Y:ι}{v:Value}{ns:List ByteArray}(h:fQ w v ns)(I:∀b,v.ownBlock=some b->Y.heap[b]?=w.heap[b]?):fQ Y v ns:=by
 obtain⟨h,A⟩:=h;refine⟨?_,λb U=>ED (A b U) (I b U)⟩;rcases h with h|⟨b,off,c,rfl,hcp,h⟩
 ·exact .inl h
 refine .inr ⟨b,off,c,rfl,hcp,λj hj=>?_⟩;rw[ϩ (I b rfl)];exact h j hj
theorem fQ.lt {w:ι}{v:Value}{ns:List ByteArray}(h:fQ w v ns){b:Nat}(U:v.ownBlock=some b):b<w.heap.size:=h.fW b U
theorem fQ.sl {w:ι}{v:Value}{ns:List ByteArray}(h:fQ w v ns):∃a c,v=ζ a ns.length c:=by
 rcases h.is with⟨a,c,rfl,rfl⟩|⟨b,off,c,rfl,_⟩
 ·exact⟨a,c,rfl⟩
 exact⟨_,c,rfl⟩
theorem yx {w:ι}{v:Value}{ns:List ByteArray}(h:fQ w v ns)(x:ByteArray)(hn:ns.length<=9223372036854775807):
 ϝ prog 169 #[v,η x] w λe Y=>e=δ (.bool (κ ns x))/\w=Y:=by
 rcases h.is with⟨a,c,rfl,rfl⟩|⟨b,off,c,rfl,_,dY⟩
 ·refine(Tryz.slices_Contains_string_empty a c x w).mono ?_;rintro e Y ⟨rfl,rfl⟩;exact⟨rfl,rfl⟩
 refine(Tryz.slices_Contains_string b off ns.length c ns x w (μ _) hn dY).mono ?_;rintro e Y ⟨rfl,rfl⟩;rw[Ϸ];exact⟨rfl,rfl⟩
theorem aiI {F:Fence}{nF:Nat}{ops:Array Ε}{rest:List Ε}{o:Ε}{a:Ϡ}{w:ι}{Q:Â->Ϡ->ι->Prop}{x:Θ}{b:Nat}{EV:List Value}(hg:Region.wanted o (yielded ops a.tmps)=true)(ho:o.op=.load 79 x)(X:a.eval x=ε (some ⟨b,0,none⟩))
 (aB:M w b EV 79)(N:EV.length=18)(hF:∀f,F.fn f)(hK:wpListIn F nF prog ops Q rest (a.put o.dst (.agg EV.toArray)) w):wpListIn F nF prog ops Q (o::rest) a w:=by
 simp only[wpListIn,hg,if_true];exact bw hF (by rw[ho];intro c hc;cases hc) (aY ho X (jU aB N)) hK
def acW (ns:List ByteArray)(ks:List KE)(xs:List (Array Value)):Prop:=∃dK:List KE,dK.Perm (ks.filter λk=>κ ns k.kc)/\xs=dK.map λk=>#[.agg k.ev.toArray]
theorem LO (ks:List KE)(ns:List ByteArray)(nv:Value)(p b bc bn:Nat)(v0:Value)(w:ι)(hm:lf w b ks)(hc:M w p [v0,.map (some b)] 202)(q1:M w bc [ε (some ⟨p,0,none⟩)] 135)(q2:M w bn [nv] 52)(hn:fQ w nv ns)(Uq:ns.length<=9223372036854775807)
 (ib:∀k∈ks,k.ev.length=18/\∀v∈k.ev,v.oneCell'=true):
 qw prog 227 #[ε (some ⟨bc,0,none⟩),ε (some ⟨bn,0,none⟩)] (acW ns ks) (λk=>k=p\/k=b\/k=bc\/k=bn\/nv.ownBlock=some k) w:=by
 intro l W O atF Js Jp bp hR hO cJ hY;replace hm:=hm.keep (hR b (.inr (.inl rfl)));replace hc:=hc.keep (hR p (.inl rfl));replace q1:=q1.keep (hR bc (.inr (.inr (.inl rfl))));replace q2:=q2.keep (hR bn (.inr (.inr (.inr (.inl rfl)))));replace hn:=hn.keep λj hj=>hR j (.inr (.inr (.inr (.inr hj))));have nOb:¬O b:=λh=>hO b h (.inr (.inl rfl));have nOn:¬O bn:=λh=>hO bn h (.inr (.inr (.inr (.inl rfl))));have nOv:∀j,nv.ownBlock=some j->¬O j:=λj hj h=>hO j h (.inr (.inr (.inr (.inr hj))));have hlb:=hm.lt;have lR:=q2.lt;have HV:=H ib;have HN:=H hn;clear hR hO ib hn;refine callsIn_of_wp func227 rfl trivial ?_ rfl;simp only[ntmps227,ρ,Α,Ω,ϧ,Ϧ,ό,ϋ,Ϟ,Ϙ,Ψ,Χ];have c0:=q1.cell (k:=0) rfl;have c1:=hc.cell (k:=1) rfl;gi_wp2_with (refine aa4 rfl rfl rfl hm (λ_=>trivial) ?_;intro W0 hrg bh Uo);simp only[Act.put,Ο,Ϛ,ϙ];clear c0 c1 q1 hc hm;have amL:=H Uo;clear Uo;gi_loopg [] ks.length (λn wr=>∃(done left:List KE) (D:aj),left.length=n/\nM wr b W.heap.size ks done left/\ak O W wr/\¬D W.heap.size/\¬D b/\(∀k,D k->O k\/W.heap.size<=k)/\(∀k,O k->D k)/\On D (atF ((done.filter λk=>κ ns k.kc).map λk=>#[.agg k.ev.toArray])) wr)
 case atStart=>
  exact⟨[],ks,O,rfl,hrg,ak.ar bh,λh=>by have:=cJ.1 _ h;omega,nOb,λ_ h=>.inl h,λ_ h=>h,cJ.below bh⟩
 case round=>
  obtain⟨done,left,D,hlen,hr,X,As,uI,ep,dV,aG⟩:=hrel;have zv:=X.size;gi_wp2_with (refine aa5 rfl rfl rfl hr (λ_=>trivial) ?_ ?_)
  ·intro h0;subst h0;have J:=hr.perm;rw[Á]at J;gi_wp2_with fail;go_end0;exact .inl ⟨⟨_,rfl⟩,.inl ⟨_,⟨_,J.filter _,rfl⟩,X,D,ep,dV,aG⟩⟩
  intro k k1 k2 w1 N dH sD bz oV;have J:=dH.perm;have I7:k∈ks:=J.mem_iff.1 (by simp);obtain⟨iG,oG⟩:=HV.out k I7;have DB:=dH.lt;have sY:ak O W w1:=X.trans bz (λj hj=>.inr (by omega));have pR:On D (atF ((done.filter λk=>κ ns k.kc).map λk=>#[.agg k.ev.toArray])) w1:=aG.on λj hj=>bz.block j (aG.1 j hj) (λe=>As (e▸hj));have Au:=q2.aL sY nOn;have zt:=HN.out.keep (Y:=w1) λj hj=>sY.block j (HN.out.lt hj) (nOv j hj);clear hr aG X;unfold iL at sD;unfold iL;gi_wp2_with (first
   |(refine iu (λ_=>trivial) (λ_ h=>by cases h) rfl (wG rfl _ _) ?_;intro w5 Fi ti bJ;replace ti:=H ti)
   |(refine iu (λ_=>trivial) (λ_ h=>by cases h) rfl (jb rfl _ _) ?_;intro w6 zw tj cG;replace tj:=H tj;have Up:=Fi.on cG)
   |(refine iw (vs:=[η k.kc,η k.ku]) (λ_=>trivial) rfl rfl rfl rfl Up rfl G1 (by simp[Δ]) ?_;intro w7 PG iJ;have zx:=zw.ex iJ (λe=>by have:=Fi.lt;omega))
   |(refine iw (λ_=>trivial) rfl rfl rfl rfl zx (by rw[iG];rfl) (by rw[iG];exact jk) oG ?_;intro w8 he8 oe;have uJ:=PG.ex oe (λe=>by have:=Fi.lt;omega);have q0:=uJ.cell (k:=0) rfl;have pS:Below w1.heap.size w1 w8:=((bJ.trans (cG.mono bJ.size)).trans (iJ.below (Β bJ.size cG.size) (λj hj=>by omega))).trans (oe.below (Β (Β bJ.size cG.size) iJ.size) (λj hj=>by have:=bJ.size;omega));have q3:=(Au.on pS).cell (k:=0) rfl))
  have PH:=zt.keep (Y:=w8) λj hj=>pS.block j (zt.lt hj);refine⟨trivial,rfl,(callsIn_wide.2 (yx PH k.kc Uq)).mono ?_⟩;rintro e w9 ⟨rfl,rfl⟩;have xo:=dH.keep (pS.block b DB.1) (pS.block W.heap.size DB.2.1);have yw:ak O W w8:=sY.aM (ak.ar pS);have hz8:=pS.size;have uK:=pR.below pS;clear q0 q3 sD Fi zw zx Up PG uJ bJ cG iJ oe ti tj PH zt Au pR;cases o5:κ ns k.kc
  case false=>
   have hfd:(done++[k]).filter (λk=>κ ns k.kc)=done.filter λk=>κ ns k.kc:=by simp[Τ,o5]
   gi_wp2_with fail;refine⟨λ_ h=>(by cases h),?_⟩;gi_wp2_with fail;gi_roundg (gk-1)
   case measure=>rw[<-hlen,N];simp
   case rel=>exact⟨done++[k],k1++k2,D,by rw[<-hlen,N];simp,xo,yw,As,uI,ep,dV,by rw[hfd];exact uK⟩
  case true=>
   have hfd:(done++[k]).filter (λk=>κ ns k.kc)=(done.filter λk=>κ ns k.kc)++[k]:=by simp[Τ,o5]
   obtain⟨f1,t1,a1,b1,gI,eE⟩:=hY _ #[.agg k.ev.toArray] ⟨((k1++k2).filter λk=>κ ns k.kc).map λk=>#[.agg k.ev.toArray],(done++[k]++(k1++k2)).filter λk=>κ ns k.kc,J.filter _,by simp[Τ,o5]⟩ w8 D yw ep dV uK;replace eE:=H eE;gi_wp2_with (refine aiI rfl rfl rfl he8 iG (λ_=>trivial) ?_);refine⟨rfl,eE.out.mono ?_⟩;clear gI eE J uK;rintro e W1 (⟨rfl,lO⟩|⟨rfl,lO⟩|⟨c,rfl,lO⟩)
   ·obtain⟨i7,D1,d1,d2,zy⟩:=lO;have ji:¬D1 b:=λh=>(d1 b h).elim uI (λh=>by omega);have Fj:¬D1 W.heap.size:=λh=>(d1 _ h).elim As (λh=>by omega);have la:=xo.keep (i7.block b (by omega) uI) (i7.block _ (by omega) As);have Ym:=yw.trans i7 ep;have hd9:∀j,D1 j->O j\/W.heap.size<=j:=λj hj=>(d1 j hj).elim (ep j) (λh=>.inr (by omega));gi_wp2_with fail;gi_roundg (gk-1)
    case measure=>rw[<-hlen,N];simp
    case rel=>exact⟨done++[k],k1++k2,D1,by rw[<-hlen,N];simp,la,Ym,Fj,ji,hd9,λj hj=>d2 j (dV j hj),by rw[hfd,Γ];exact zy⟩
   ·have HP:=H (aN.after lO yw ep dV);gi_wp2_with fail;refine bodyPost_ret (results_none rfl _ _ _) rfl ?_;exact .inl ⟨⟨_,rfl⟩,.inr HP.out⟩
   have HP:=H (aN.after lO yw ep dV);gi_wp2_with fail;exact⟨rfl,.inr ⟨c,rfl,HP.out⟩⟩
end
section
def Av (σ:Nat->Nat)(fix:List Nat)(n0:Nat)(ops:Array Ε):Bool:=
 (Η ops.size).all λi=>match ops[i]?with
  |none=>true
  |some o=>o.dst.isNone||(decide (o.dst=some (σ i))&&decide (σ i<n0)&&fix.all (λp=>decide (p≠σ i))&&(Η ops.size).all λj=>decide (j=i)||decide (σ j≠σ i)||match ops[j]?with
   |none=>true
   |some oj=>oj.after.any λe=>Μ .any e&&decide (e.on=i))
theorem OB {σ:Nat->Nat}{fix:List Nat}{n0:Nat}{ops:Array Ε}(h:Av σ fix n0 ops=true){i:Nat}{o:Ε}(ho:ops[i]?=some o)(hd:o.dst≠none):
 o.dst=some (σ i)/\σ i<n0/\(∀p∈fix,p≠σ i)/\∀j oj,ops[j]?=some oj->j≠i->(∀e∈oj.after,Μ .any e=true->e.on≠i)->σ j≠σ i:=by
 have S:=(Array.getElem?_eq_some_iff.1 ho).1;unfold Av at h;rw[ϡ]at h;have G:=h i (List.mem_range.2 S);rw[ho]at G;simp only[Bool.or_eq_true,Bool.and_eq_true,decide_eq_true_eq,Option.isNone_iff_eq_none]at G;rcases G with G|⟨⟨⟨a1,a2⟩,a3⟩,a4⟩
 ·exact absurd G hd
 refine⟨a1,a2,λp J=>?_,λj oj hj fA iH e=>?_⟩
 ·rw[ϡ]at a3;exact of_decide_eq_true (a3 p J)
 rw[ϡ]at a4;have A:=a4 j (List.mem_range.2 (Array.getElem?_eq_some_iff.1 hj).1);rw[hj]at A;simp only[Bool.or_eq_true,decide_eq_true_eq]at A;rcases A with(A|A)|A
 ·exact fA A
 ·exact A e
 rw[Array.any_eq_true']at A;obtain⟨x,X,bL⟩:=A;rw[Bool.and_eq_true,decide_eq_true_eq]at bL;exact iH x X bL.1 bL.2
theorem uL {σ:Nat->Nat}{fix:List (Nat×Value)}{n0:Nat}{atE:Nat->Value->ι->Prop}{C:ι->Prop}{a:Ϡ}{w Y:ι}{ops:Array Ε}{i:Nat}{o:Ε}{v:Value}(atI:Av σ (fix.map (·.1)) n0 ops=true)(ho:ops[i]?=some o)(hd:o.dst≠none)
 (h:JX n0 fix C a w)(hC:C Y)(I:∀j v,j≠i->atE j v w->atE j v Y)(hn:atE i v Y):
 JX n0 fix C (a.put o.dst v) Y/\GV σ atE i (a.put o.dst v) Y/\∀j oj,ops[j]?=some oj->j≠i->(∀e∈oj.after,Μ .any e=true->e.on≠i)->GV σ atE j a w->GV σ atE j (a.put o.dst v) Y:=by
 obtain⟨e1,e2,e3,e4⟩:=OB atI ho hd;rw[e1];have hs:σ i<a.tmps.size:=by rw[h.size];exact e2
 refine⟨⟨by rw[gm];exact h.size,by rw[put_defers];exact h.defers,λp J=>by rw[cZ (e3 p.1 (ϗ J))];exact h.fixed p J,hC⟩,?_,λj oj jm fA iH hg=>?_⟩
 ·unfold GV;rw[gR hs];exact hn
 unfold GV at hg⊢;rw[cZ (e4 j oj jm fA iH)];exact I j _ fA hg
theorem ae5 {σ:Nat->Nat}{fix:List (Nat×Value)}{n0:Nat}{atE:Nat->Value->ι->Prop}{C:ι->Prop}{a:Ϡ}{w:ι}{ops:Array Ε}{i:Nat}{o:Ε}{v:Value}(atI:Av σ (fix.map (·.1)) n0 ops=true)(ho:ops[i]?=some o)(hd:o.dst≠none)
 (h:JX n0 fix C a w)(hn:atE i v w):
 JX n0 fix C (a.put o.dst v) w/\GV σ atE i (a.put o.dst v) w/\∀j oj,ops[j]?=some oj->j≠i->(∀e∈oj.after,Μ .any e=true->e.on≠i)->GV σ atE j a w->GV σ atE j (a.put o.dst v) w:=
 uL atI ho hd h h.world (λ_ _ _ h=>h) hn
theorem bD {σ:Nat->Nat}{fix:List (Nat×Value)}{n0:Nat}{atE:Nat->Value->ι->Prop}{C:ι->Prop}{a:Ϡ}{w:ι}{ops:Array Ε}{i:Nat}{o:Ε}{v:Value}(h:JX n0 fix C a w)(hn:atE i v w)
 (atI:Av σ (fix.map (·.1)) n0 ops=true:=by kernel_rfl)(ho:ops[i]?=some o:=by exact rfl)(hd:o.dst≠none:=by decide):
 JX n0 fix C (a.put o.dst v) w/\GV σ atE i (a.put o.dst v) w/\∀j oj,ops[j]?=some oj->j≠i->(∀e∈oj.after,Μ .any e=true->e.on≠i)->GV σ atE j a w->GV σ atE j (a.put o.dst v) w:=ae5 atI ho hd h hn
theorem abd {σ:Nat->Nat}{fix:List (Nat×Value)}{n0:Nat}{atE:Nat->Value->ι->Prop}{C:ι->Prop}{a:Ϡ}{w Y:ι}{ops:Array Ε}{i:Nat}{o:Ε}{u:Value}(hd:o.dst=none)
 (h:JX n0 fix C a w)(hC:C Y)(I:∀j v,j≠i->atE j v w->atE j v Y)(hn:atE i (a.eval (.tmp (σ i))) Y):
 JX n0 fix C (a.put o.dst u) Y/\GV σ atE i (a.put o.dst u) Y/\∀j oj,ops[j]?=some oj->j≠i->(∀e∈oj.after,Μ .any e=true->e.on≠i)->GV σ atE j a w->GV σ atE j (a.put o.dst u) Y:=by
 rw[hd];exact⟨⟨h.size,h.defers,h.fixed,hC⟩,hn,λj oj jm fA _ hg=>I j _ fA hg⟩
open Go.Sort
def dS (ns:List ByteArray):List Value:=ns.map Value.string
structure fl (w:ι)(p b:Nat)(nv:Value)(ns:List ByteArray)(ks:List KE):Prop where
 row:M w p [nv,.map (some b)] 202
 own:w.ownsRow 0 9 1 nv ns.length (dS ns)
 map:lf w b ks
 Ur:b≠p
 ne2:nv.ownBlock≠some p
 Us:nv.ownBlock≠some b
def mm (p b:Nat)(nv:Value):aj:=λk=>k=p\/k=b\/nv.ownBlock=some k
theorem fl.keep {w Y:ι}{p b:Nat}{nv:Value}{ns:List ByteArray}{ks:List KE}(h:fl w p b nv ns ks)(I:∀k,mm p b nv k->Y.heap[k]?=w.heap[k]?):fl Y p b nv ns ks:=
 ⟨h.row.keep (I p (.inl rfl)),⟨h.own.1,h.own.2.elim .inl λ⟨g,cap,cur,e1,e2,e3,e4⟩=>.inr ⟨g,cap,cur,e1,e2,(I g (.inr (.inr (by rw[e1];rfl)))).trans e3,e4⟩⟩,h.map.keep (I b (.inr (.inl rfl))),h.Ur,h.ne2,h.Us⟩
theorem fl.lt {w:ι}{p b:Nat}{nv:Value}{ns:List ByteArray}{ks:List KE}(h:fl w p b nv ns ks){k:Nat}(I:mm p b nv k):k<w.heap.size:=by
 rcases I with rfl|rfl|I
 ·exact h.row.lt
 ·exact h.map.lt
 exact(h.own.lt k I).2
theorem fl.aL {w Y:ι}{O:aj}{p b:Nat}{nv:Value}{ns:List ByteArray}{ks:List KE}(h:fl w p b nv ns ks)(X:ak O w Y)(hn:∀k,mm p b nv k->¬O k):fl Y p b nv ns ks:=
 h.keep λk I=>X.block k (h.lt I) (hn k I)
theorem fl.on {w Y:ι}{p b:Nat}{nv:Value}{ns:List ByteArray}{ks:List KE}(h:fl w p b nv ns ks)(U:Below w.heap.size w Y):fl Y p b nv ns ks:=h.keep λk I=>U.block k (h.lt I)
theorem PI {w:ι}{B s:Nat}{e:ϣ}{n:Nat}{xs:List Value}{v:Value}{a:Addr}{m c:Nat}(h:w.ownsRow B e s v n xs)(hv:v=ζ (some a) m c):n<=c:=by
 subst hv;rcases h.2 with⟨h,_⟩|⟨g,cap,cur,h,_,_,h4,_⟩
 ·cases h
 cases h;exact h4
theorem fl.names {w:ι}{p b:Nat}{nv:Value}{ns:List ByteArray}{ks:List KE}(h:fl w p b nv ns ks):fQ w nv ns:=by
 refine⟨?_,λk I=>(h.own.lt k I).2⟩;rcases ym h.own with⟨e,h0⟩|⟨g,cap,e,_,_,hc⟩
 ·exact .inl ⟨_,_,e,List.length_eq_zero_iff.1 h0⟩
 refine .inr ⟨g,0,cap,e,PI h.own e,λj hj=>?_⟩;have e1:(dS ns)[j]?=some (η (ns.getD j χ)):=by
  unfold dS;rw[τ,ο hj,Ϣ,ο hj];rfl
 have:=hc j _ e1;simpa using this
theorem RU (w:ι):
 ϝ prog 91 #[] w λE Y=>E=δ (ε (some ⟨w.heap.size+1,0,none⟩))/\fl Y (w.heap.size+1) w.heap.size (ζ none 0 0) [] []/\Below w.heap.size w Y:=by
 have hm:=lf.made w;have U:Below w.heap.size w (w.alloc (.map #[] 0)):=(π _ _).alloc (μ _) _;have hz:(w.alloc (.map #[] 0)).heap.size=w.heap.size+1:=by simp
 have hmk:=run_makeMap (P:=prog) 200 w;go_enter func91,ntmps91;go_wp2_with fail;go_ret;have hr:=M.new (w.alloc (.map #[] 0)) [ζ none 0 0,.map (some w.heap.size)] 202;rw[hz]at hr;exact⟨rfl,⟨hr,World.ownsRow_nil _ _ _ _,hm.keep (Ζ _ _ _ (by simp)),by omega,by simp[Ϻ],by simp[Ϻ]⟩,U.alloc U.size _⟩
theorem Fk (p b:Nat)(v:Value)(w:ι)(h:M w p [v,.map (some b)] 202):
 ϝ prog 99 #[ε (some ⟨p,0,none⟩)] w λE Y=>E=δ (.func (.func 224) #[] #[ε (some ⟨w.heap.size,0,none⟩)])/\Y=w.alloc (θ #[.map (some b)] 200):=by
 have k1:=h.cell (k:=1) rfl;have C:Hid (ϝ prog 168 #[.map (some b)] w λE Y=>E=δ (.func (.func 224) #[] #[ε (some ⟨w.heap.size,0,none⟩)])/\Y=w.alloc (θ #[.map (some b)] 200)):=H (by
  go_enter func168,ntmps168;go_wp2_with fail;go_ret;exact⟨rfl,rfl⟩)
 clear h;go_enter func99,ntmps99;go_wp2_with (go_at_call 168;refine(C.out).mono ?_;rintro E w1 ⟨rfl,rfl⟩);go_ret;exact⟨rfl,rfl⟩
theorem Kq (p:Nat)(a:Option Addr)(n c:Nat)(w:ι):
 ϝ prog 173 #[ε (some ⟨p,0,none⟩),ζ a n c] w λE Y=>E=δ (.func (.func 227) #[] #[ε (some ⟨w.heap.size,0,none⟩),ε (some ⟨w.heap.size+1,0,none⟩)])/\Y=(w.alloc (θ #[ε (some ⟨p,0,none⟩)] 135)).alloc (θ #[ζ a n c] 52):=by
 go_enter func173,ntmps173;go_wp2_with fail;go_ret;exact⟨rfl,rfl⟩
theorem LP {q:Addr}{b:Nat}{w:ι}(h:w.cell? q=some (.map (some b))):(Ä 200 (ε (some q))).run prog w=.ok (.map (some b)) w:=by
 go_simp
theorem PJ {p:Nat}{w:ι}:(ϥ 202 (ε (some ⟨p,0,none⟩)) 1).run prog w=.ok (ε (some ⟨p,1,none⟩)) w:=by go_simp
theorem acX {p:Nat}{w:ι}:(ϥ 202 (ε (some ⟨p,0,none⟩)) 0).run prog w=.ok (ε (some ⟨p,0,none⟩)) w:=by go_simp
theorem Yn {o:Ε}{a:Ϡ}{w:ι}{x y:Θ}{b:Nat}{c u:ByteArray}{r:Value}(ho:o.op=.lookup 200 x y true)(X:a.eval x=.map (some b))(hy:a.eval y=.agg #[η c,η u])(hr:(Ϝ 200 (.map (some b)) (iL c u) true).run prog w=.ok r w):(execOp a.eval o).run prog w=.ok (.value r) w:=by
 unfold iL at hr;simp[execOp,ho,X,hy,hr,ξ]
theorem BO {o:Ε}{a:Ϡ}{w:ι}{x:Θ}{u v:Value}{i:Nat}(ho:o.op=.extract x i)(X:a.eval x=.tuple #[u,v])(S:i<2):(execOp a.eval o).run prog w=.ok (.value (#[u,v].getD i undef)) w:=by
 obtain⟨_,_,_,_,_,_⟩:=o;simp only[]at ho;subst ho;unfold execOp;simp only[X]
 match i,S with
 |0,_=>go_simp
 |1,_=>go_simp
theorem Aw {P:Ϩ}{Q:Â->Ϡ->ι->Prop}{o:Ε}{a:Ϡ}{w:ι}{atH:Ϡ->ι->Prop}{T:ϣ}{x y:Θ}{b:Nat}{vs cs:List Value}(ho:o.op=.store T x y)(X:a.eval x=ε (some ⟨b,0,none⟩))(hy:a.eval y=.agg vs.toArray)(aB:M w b cs T)(N:cs.length=vs.length)
 (S:(P.info? T).map (·.size)=some vs.length)(G:∀v∈vs,v.oneCell'=true)(hK:∀Y,M Y b vs T->ak (λk=>k=b) w Y->atH (a.put o.dst undef) Y):Oper.wp P o a w atH Q:=by
 have vI:=BM (vs:=vs) (o:=0) aB;rw[uG vs cs N]at vI;unfold Oper.wp execOp;simp only[ho,X,hy,Ã,Instr.sureAddr,Sem.run_bind,Sem.run_pure,Result.andThen_ok,run_storeVar_mid w b 0 T vs.toArray (sF aB (by rw[ρ];exact N.symm)) (by rw[ρ];exact S) (all_oneCell_toArray G)];exact hK _ vI (Dy b 0 vs w)
theorem Yo {ops:Array Ε}{Q:Â->Ϡ->ι->Prop}{rest:List Ε}{o:Ε}{a:Ϡ}{w:ι}{x y z:Θ}{b:Nat}{ks:List KE}{k:KE}(hg:o.guard=none)(ho:o.op=.mapUpdate 200 x y z)(X:a.eval x=.map (some b))(hy:a.eval y=.agg #[η k.kc,η k.ku])(hz:a.eval z=.agg k.ev.toArray)
 (h:lf w b ks)(I:Ar k)(hK:∀Y,lf Y b (oH k ks)->ak (λk=>k=b) w Y->wpList prog ops Q rest (a.put o.dst undef) Y):wpList prog ops Q (o::rest) a w:=by
 obtain⟨Y,hr,G,A⟩:=h.put k I;unfold iL at hr;refine wpList_plain hg λatH oc=>BP ?_ (oc _ _ (hK Y G A));simp[execOp,ho,X,hy,hz,hr,ξ]
def iQ (c u:ByteArray)(ks:List KE):List Value:=((dm c u ks).map KE.ev).getD ev0
theorem LQ {c u:ByteArray}{ks:List KE}(ib:∀k∈ks,k.ev.length=18/\∀v∈k.ev,v.oneCell'=true):(iQ c u ks).length=18/\∀v∈iQ c u ks,v.oneCell'=true:=by
 unfold iQ;cases h:dm c u ks with
 |none=>exact⟨rfl,by simp[ev0,Δ]⟩
 |some k=>exact ib k (List.mem_of_find?_eq_some h)
theorem o6 (a:Ϡ)(h:a.tmps.size=66)(hd:a.defers=[]):∃f:Nat->Value,a=⟨List.toArray (f 0::f 1::f 2::f 3::f 4::f 5::f 6::f 7::f 8::f 9::f 10::f 11::f 12::f 13::f 14::f 15::f 16::f 17::f 18::f 19::f 20::f 21::f 22::f 23::f 24::f 25::f 26::f 27::f 28::f 29::f 30::f 31::f 32::f 33::f 34::f 35::f 36::f 37::f 38::f 39::f 40::f 41::f 42::f 43::f 44::f 45::f 46::f 47::f 48::f 49::f 50::f 51::f 52::f 53::f 54::f 55::f 56::f 57::f 58::f 59::f 60::f 61::f 62::f 63::f 64::f 65::[]),[]⟩/\∀k,a.eval (.tmp k)=f k:=gO 66 a h hd
def yy (p b:Nat)(nv:Value)(ns:List ByteArray)(ks:List KE)(c u:ByteArray)(EV:List Value)(w:ι):Ending->ι->Prop:=λE Y=>
 if κ ns c=false/\8<=ns.length\/(dm c u ks).isSome=false/\30<=ks.length then E=.panicked (bF 5)/\Below w.heap.size w Y
 else E=δ (.tuple #[.agg (iQ c u ks).toArray,.bool (dm c u ks).isSome])/\∃jH,fl Y p b jH (if κ ns c then ns else ns++[c]) (oH ⟨c,u,EV⟩ ks)/\ak (mm p b nv) w Y/\∀j,jH.ownBlock=some j->nv.ownBlock=some j\/w.heap.size<=j
structure Yp (p B:Nat)(rep kn:Bool)(a:Ϡ):Prop where
 size:a.tmps.size=66
 defers:a.defers=[]
 s0:a.eval (.tmp 0)=ε (some ⟨p,0,none⟩)
 s4:a.eval (.tmp 4)=ε (some ⟨B,0,none⟩)
 s5:a.eval (.tmp 5)=ε (some ⟨B+1,0,none⟩)
 s6:a.eval (.tmp 6)=ε (some ⟨B+1+1,0,none⟩)
 s7:a.eval (.tmp 7)=.bool rep
 s8:a.eval (.tmp 8)=.bool kn
structure DE (w0:ι)(p b:Nat)(nv:Value)(ns:List ByteArray)(ks:List KE)(c u:ByteArray)(EV RV:List Value)(O:aj)(w:ι):Prop where
 dh:fl w p b nv ns ks
 key:M w w0.heap.size [η c,η u] 207
 ev:M w (w0.heap.size+1) EV 79
 res:M w (w0.heap.size+1+1) RV 79
 ex:ak O w0 w
theorem DE.keep {w0:ι}{p b:Nat}{nv:Value}{ns:List ByteArray}{ks:List KE}{c u:ByteArray}{EV RV:List Value}{O:aj}{w Y:ι}(h:DE w0 p b nv ns ks c u EV RV O w)(U:Below w.heap.size w Y):DE w0 p b nv ns ks c u EV RV O Y:=
 ⟨h.dh.on U,h.key.on U,h.ev.on U,h.res.on U,h.ex.aM (ak.ar U)⟩
def NPt (p b B:Nat)(c u:ByteArray)(ks:List KE)(i:Nat)(v:Value)(w:ι):Prop:=match i with
 |9=>M w (B+1+1) (iQ c u ks) 79
 |n=>v=[ε (some ⟨p,0,none⟩),ε (some ⟨p,0,none⟩),ε (some ⟨p,1,none⟩),.map (some b),.agg #[η c,η u],.tuple #[.agg (iQ c u ks).toArray,.bool (dm c u ks).isSome],.tuple #[.agg (iQ c u ks).toArray,.bool (dm c u ks).isSome],.agg (iQ c u ks).toArray,.bool (dm c u ks).isSome].getD n undef
structure CPt (atD:ι)(B:Nat)(w:ι):Prop where
 ex:ak (λj=>j=B+1+1) atD w
 row:∃cs,M w (B+1+1) cs 79/\cs.length=18
def sPt (i:Nat):Nat:=[27,28,29,30,31,32,26,33,34,6].getD i 0
def rP (p B:Nat)(kn:Bool):List (Nat×Value):=[(0,ε (some ⟨p,0,none⟩)),(4,ε (some ⟨B,0,none⟩)),(5,ε (some ⟨B+1,0,none⟩)),(6,ε (some ⟨B+1+1,0,none⟩)),(8,.bool kn)]
def Fl (W:ι)(p B:Nat)(nv:Value)(ns:List ByteArray)(c:ByteArray)(i:Nat)(v:Value)(w:ι):Prop:=match i with
 |7=>∃g,v=ζ (some ⟨g,0,none⟩) 1 1/\M w g [η c] 9/\W.heap.size<=g
 |8=>∃g cap,v=ζ (some ⟨g,0,none⟩) (ns.length+1) cap/\w.ownsRow 0 9 1 v (ns.length+1) (dS ns++[η c])/\(nv.ownBlock=some g\/W.heap.size<=g)
 |n=>v=[ε (some ⟨p,0,none⟩),ε (some ⟨p,0,none⟩),ε (some ⟨p,0,none⟩),ε (some ⟨p,0,none⟩),nv,ε (some ⟨B,0,none⟩),η c].getD n undef
theorem Fl.keep {W:ι}{p B:Nat}{nv:Value}{ns:List ByteArray}{c:ByteArray}{w Y:ι}(I:∀g,W.heap.size<=g->g<w.heap.size->Y.heap[g]?=w.heap[g]?)(i:Nat)(v:Value)(S:i≠8)(h:Fl W p B nv ns c i v w):Fl W p B nv ns c i v Y:=by
 by_cases h7:i=7
 ·subst h7;obtain⟨g,G,A,K⟩:=h;exact⟨g,G,A.keep (I g K A.lt),K⟩
 unfold Fl at h⊢;split at h
 ·exact absurd rfl h7
 ·exact absurd rfl S
 exact h
structure CNm (W:ι)(nv:Value)(ns:List ByteArray)(w:ι):Prop where
 ex:ak (λj=>nv.ownBlock=some j) W w
 own:w.ownsRow 0 9 1 nv ns.length (dS ns)
theorem Yq {q:Addr}{a:Option Addr}{n k:Nat}{w:ι}(h:w.cell? q=some (ζ a n k)):(Ä 52 (ε (some q))).run prog w=.ok (ζ a n k) w:=by
 go_simp
theorem acY {q:Nat}{w:ι}:(ϥ 207 (ε (some ⟨q,0,none⟩)) 0).run prog w=.ok (ε (some ⟨q,0,none⟩)) w:=by go_simp
theorem Yr {o:Ε}{a:Ϡ}{w:ι}{x:Θ}{atD:ByteArray}(ho:o.op=.buildSlice 52 1 #[(0,x)])(G:a.eval x=η atD):
 (execOp a.eval o).run prog w=.ok (.value (ζ (some ⟨w.heap.size,0,none⟩) 1 1)) (w.alloc (θ #[η atD] 9)):=by
 obtain⟨_,_,_,_,_,_⟩:=o;simp only[]at ho;subst ho;unfold execOp;simp only[List.map_toArray,υ,Å,G];go_simp
def NMp (p b:Nat)(c u:ByteArray)(EV:List Value)(i:Nat)(v:Value)(_:ι):Prop:=v=[ε (some ⟨p,0,none⟩),ε (some ⟨p,0,none⟩),ε (some ⟨p,1,none⟩),.map (some b),.agg #[η c,η u],.agg EV.toArray].getD i undef
def jV (p B:Nat)(rep kn:Bool):List (Nat×Value):=[(0,ε (some ⟨p,0,none⟩)),(4,ε (some ⟨B,0,none⟩)),(5,ε (some ⟨B+1,0,none⟩)),(6,ε (some ⟨B+1+1,0,none⟩)),(7,.bool rep),(8,.bool kn)]
theorem RW (p b:Nat)(nv:Value)(ns:List ByteArray)(ks:List KE)(c u:ByteArray)(EV:List Value)(w:ι)(h:fl w p b nv ns ks)(hc:c.size<=maxLen)(hu:u.size<=maxLen)(hE:EV.length=18)(ib:∀k∈ks,k.ev.length=18/\∀v∈k.ev,v.oneCell'=true)(PH:ns.length<=8)(aqZ:ks.length<=30):
 ϝ prog 161 #[ε (some ⟨p,0,none⟩),.agg #[η c,η u],.agg EV.toArray] w (yy p b nv ns ks c u EV w):=by
 obtain⟨iG,oG⟩:=LQ (c:=c) (u:=u) ib;have rk0:=kK w [η c,η u] 207 (θ EV.toArray 79);have re0:=kM w EV 79 (θ #[η c,η u] 207);have bh:=mP w (θ #[η c,η u] 207) (θ EV.toArray 79);have gH:((w.alloc (θ #[η c,η u] 207)).alloc (θ EV.toArray 79)).heap.size=w.heap.size+1+1:=by simp
 have HL:Hid (∀j,mm p b nv j->j<w.heap.size):=H λj hj=>h.lt hj;have HC:=H h;clear h ib;go_enter func161,ntmps161;go_upto_region 1 with(refine ow rfl (jb rfl _ _) ?_;intro W2 rr2 fN aO);have hP:Hid (DE w p b nv ns ks c u EV fB (λ_=>False) W2):=H (by
  rw[gH]at rr2;exact⟨(HC.out.on bh).on aO,M.on rk0 aO,M.on re0 aO,rr2,ak.ar (bh.trans (aO.mono bh.size))⟩)
 clear rk0 re0 bh gH rr2 fN aO HC;have k0:=hP.out.dh.row.cell (k:=0) rfl;have q0:=hP.out.key.cell (k:=0) rfl;obtain⟨av,cv,mA⟩:=hP.out.dh.names.sl;rw[mA]at k0;refine iZ 6 ?_
 iterate 6 (go_big_quiet_step (fail))
 refine wpQuiet_nil ?_;rintro _ ⟨nq,rfl⟩;have pT:Hid (DE w p b nv ns ks c u EV fB (λ_=>False) (W2.drewN nq)):=H (hP.out.keep (below_drewN (π _ _) nq));clear k0 q0 hP;generalize W2.drewN nq=atD at *
 have CN:=yx pT.out.dh.names c (by omega);rw[mA]at CN;replace CN:=H CN;go_upto_region 2 with(go_at_call 169;refine(CN.out).mono ?_;rintro E w4 ⟨rfl,rfl⟩);clear CN;rename_i K1 eM;have r3:¬(κ ns c=false/\8<=ns.length)->∀a,Yp p w.heap.size false (κ ns c) a->K1 a atD:=by
  intro amM a hF;refine eM a atD ?_;clear eM K1;obtain⟨fr,rfl,hf⟩:=o6 a hF.size hF.defers;have g0:=(hf 0).symm.trans hF.s0;have g4:=(hf 4).symm.trans hF.s4;have g5:=(hf 5).symm.trans hF.s5;have g6:=(hf 6).symm.trans hF.s6;have g7:=(hf 7).symm.trans hF.s7;have g8:=(hf 8).symm.trans hF.s8;clear hf hF;rw[g0,g4,g5,g6,g7,g8];clear g0 g4 g5 g6 g7 g8;go_upto_region 3 with fail;have HK:Hid (∀Y,CPt atD w.heap.size Y->fl Y p b nv ns ks/\M Y w.heap.size [η c,η u] 207):=H λY uM=>
   ⟨pT.out.dh.aL uM.ex (λj hj e=>by have:=HL.out j hj;omega),pT.out.key.ex uM.ex (by omega)⟩
  refine ei 10 (by simp only[Ν,ύ];rfl) (by simp only[Ξ,Ϗ];rfl) (GV sPt (NPt p b w.heap.size c u ks)) (JX 66 (rP p w.heap.size (κ ns c)) (CPt atD w.heap.size)) (by kernel_rfl) (by kernel_rfl) (by kernel_rfl) (by kernel_rfl) (by kernel_rfl) (by kernel_rfl) rfl ?rops ?rdone ⟨rfl,rfl,λq J=>by
   simp only[rP,Κ,ω,or_false]at J;rcases J with rfl|rfl|rfl|rfl|rfl<;>rfl,(ak.refl _ _).drew,fB,pT.out.res,rfl⟩
  case rops=>
   intro i o ho a Y ay hG Q';have S:i<10:=(Array.getElem?_eq_some_iff.1 ho).1;have t0:a.eval (.tmp 0)=ε (some ⟨p,0,none⟩):=ay.fixed (0,_) (by simp[rP]);have t4:a.eval (.tmp 4)=ε (some ⟨w.heap.size,0,none⟩):=ay.fixed (4,_) (by simp[rP]);have t6:a.eval (.tmp 6)=ε (some ⟨w.heap.size+1+1,0,none⟩):=ay.fixed (6,_) (by simp[rP]);have eQ:i=0\/i=1\/i=2\/i=3\/i=4\/i=5\/i=6\/i=7\/i=8\/i=9:=by omega
   rcases eQ with rfl|rfl|rfl|rfl|rfl|rfl|rfl|rfl|rfl|rfl<;>obtain rfl:=ν ho
   ·exact ai (cW rfl t0) (bD ay rfl)
   ·have e1:a.eval (.tmp 27)=ε (some ⟨p,0,none⟩):=aF hG 0;exact ai (eJ rfl e1) (bD ay rfl)
   ·have e1:a.eval (.tmp 28)=ε (some ⟨p,0,none⟩):=aF hG 1;exact ai (cR rfl e1 PJ) (bD ay rfl)
   ·have e1:a.eval (.tmp 29)=ε (some ⟨p,1,none⟩):=aF hG 2;exact ai (aY rfl e1 (LP ((HK.out _ ay.world).1.row.cell (k:=1) rfl))) (bD ay rfl)
   ·exact ai (aY rfl t4 (kZ (HK.out _ ay.world).2)) (bD ay rfl)
   ·have e1:a.eval (.tmp 30)=.map (some b):=aF hG 3;have e2:a.eval (.tmp 31)=.agg #[η c,η u]:=aF hG 4;exact ai (Yn rfl e1 e2 ((HK.out _ ay.world).1.map.look c u hc hu)) (bD ay rfl)
   ·have e1:a.eval (.tmp 32)=.tuple #[.agg (iQ c u ks).toArray,.bool (dm c u ks).isSome]:=aF hG 5;exact ai (cW rfl e1) (bD ay rfl)
   ·have e1:a.eval (.tmp 26)=.tuple #[.agg (iQ c u ks).toArray,.bool (dm c u ks).isSome]:=aF hG 6;exact ai (BO rfl e1 (by decide)) (bD ay rfl)
   ·have e1:a.eval (.tmp 26)=.tuple #[.agg (iQ c u ks).toArray,.bool (dm c u ks).isSome]:=aF hG 6;exact ai (BO rfl e1 (by decide)) (bD ay rfl)
   have e2:a.eval (.tmp 33)=.agg (iQ c u ks).toArray:=aF hG 7;obtain⟨cs,hr,dY⟩:=ay.world.row;refine Aw rfl t6 e2 hr (by rw[dY,iG]) (by rw[iG];exact jk) oG λw9 la i7=>?_;refine abd rfl ay ⟨ay.world.ex.aM i7,_,la,iG⟩ (λj v hj hn=>?_) la;unfold NPt at hn⊢;split at hn
   ·exact absurd rfl hj
   exact hn
  case rdone=>
   intro a w3 ay hG;have Ut:a.eval (.tmp 34)=.bool (dm c u ks).isSome:=hG 8 (by decide);have la:M w3 (w.heap.size+1+1) (iQ c u ks) 79:=hG 9 (by decide);have t0:a.eval (.tmp 0)=ε (some ⟨p,0,none⟩):=ay.fixed (0,_) (by simp[rP]);have t4:a.eval (.tmp 4)=ε (some ⟨w.heap.size,0,none⟩):=ay.fixed (4,_) (by simp[rP]);have t5:a.eval (.tmp 5)=ε (some ⟨w.heap.size+1,0,none⟩):=ay.fixed (5,_) (by simp[rP]);have t6:a.eval (.tmp 6)=ε (some ⟨w.heap.size+1+1,0,none⟩):=ay.fixed (6,_) (by simp[rP]);have t8:a.eval (.tmp 8)=.bool (κ ns c):=ay.fixed (8,_) (by simp[rP]);have lS:Hid (DE w p b nv ns ks c u EV (iQ c u ks) (λ_=>False) w3):=H ⟨(HK.out _ ay.world).1,(HK.out _ ay.world).2,pT.out.ev.ex ay.world.ex (by omega),la,pT.out.ex.trans ay.world.ex (λj hj=>.inr (by omega))⟩;have bp:=ay.size;have gC:=ay.defers;clear ay hG HK la pT;obtain⟨fr,rfl,hf⟩:=o6 a bp gC;have g0:=(hf 0).symm.trans t0;have g4:=(hf 4).symm.trans t4;have g5:=(hf 5).symm.trans t5;have g6:=(hf 6).symm.trans t6;have g8:=(hf 8).symm.trans t8;have Uu:=(hf 34).symm.trans Ut;clear hf bp gC t0 t4 t5 t6 t8 Ut;rw[g0,g4,g5,g6,g8,Uu];clear g0 g4 g5 g6 g8 Uu;go_upto_region 4 with fail;rename_i K2 IZ;have r5:¬((dm c u ks).isSome=false/\30<=ks.length)->∀a,Yp p w.heap.size (dm c u ks).isSome (κ ns c) a->K2 a w3:=by
    intro amN a hF;refine IZ a w3 ?_;clear IZ K2;obtain⟨fr,rfl,hf⟩:=o6 a hF.size hF.defers;have g0:=(hf 0).symm.trans hF.s0;have g4:=(hf 4).symm.trans hF.s4;have g5:=(hf 5).symm.trans hF.s5;have g6:=(hf 6).symm.trans hF.s6;have g7:=(hf 7).symm.trans hF.s7;have g8:=(hf 8).symm.trans hF.s8;clear hf hF;rw[g0,g4,g5,g6,g7,g8];clear g0 g4 g5 g6 g7 g8;go_upto_region 5 with fail;rename_i K7 hK7 K5 hK5;have r7:∀a w6 jH,Yp p w.heap.size (dm c u ks).isSome (κ ns c) a->DE w p b jH (if κ ns c then ns else ns++[c]) ks c u EV (iQ c u ks) (mm p b nv) w6->(∀j,jH.ownBlock=some j->nv.ownBlock=some j\/w.heap.size<=j)->(∀j,jH.ownBlock=some j->j≠w.heap.size/\j≠w.heap.size+1/\j≠w.heap.size+1+1)->K7 a w6:=by
     intro a w6 jH hF LR LU hv2;refine hK7 a w6 ?_;clear hK7 hK5 K5 K7;replace LR:=H LR;obtain⟨fr,rfl,hf⟩:=o6 a hF.size hF.defers;have g0:=(hf 0).symm.trans hF.s0;have g4:=(hf 4).symm.trans hF.s4;have g5:=(hf 5).symm.trans hF.s5;have g6:=(hf 6).symm.trans hF.s6;have g7:=(hf 7).symm.trans hF.s7;have g8:=(hf 8).symm.trans hF.s8;clear hf hF;rw[g0,g4,g5,g6,g7,g8];clear g0 g4 g5 g6 g7 g8;go_upto_region 7 with fail;refine ei 6 (by simp only[Ν,ύ];rfl) (by simp only[Ξ,Ϗ];rfl) (GV (λi=>58+i) (NMp p b c u EV)) (JX 66 (jV p w.heap.size (dm c u ks).isSome (κ ns c)) (Below w6.heap.size w6)) (by kernel_rfl) (by kernel_rfl) (by kernel_rfl) (by kernel_rfl) (by kernel_rfl) (by kernel_rfl) rfl ?mops ?mdone ⟨rfl,rfl,λq J=>by
      simp only[jV,Κ,ω,or_false]at J;rcases J with rfl|rfl|rfl|rfl|rfl|rfl<;>rfl,(π _ _).drew⟩
     case mops=>
      intro i o ho a Y ay hG Q';have S:i<6:=(Array.getElem?_eq_some_iff.1 ho).1;have t0:a.eval (.tmp 0)=ε (some ⟨p,0,none⟩):=ay.fixed (0,_) (by simp[jV]);have t4:a.eval (.tmp 4)=ε (some ⟨w.heap.size,0,none⟩):=ay.fixed (4,_) (by simp[jV]);have t5:a.eval (.tmp 5)=ε (some ⟨w.heap.size+1,0,none⟩):=ay.fixed (5,_) (by simp[jV]);have eQ:i=0\/i=1\/i=2\/i=3\/i=4\/i=5:=by omega
      rcases eQ with rfl|rfl|rfl|rfl|rfl|rfl<;>obtain rfl:=ν ho
      ·exact ai (cW rfl t0) (bD ay rfl)
      ·have e1:a.eval (.tmp 58)=ε (some ⟨p,0,none⟩):=aF hG 0;exact ai (eJ rfl e1) (bD ay rfl)
      ·have e1:a.eval (.tmp 59)=ε (some ⟨p,0,none⟩):=aF hG 1;exact ai (cR rfl e1 PJ) (bD ay rfl)
      ·have e1:a.eval (.tmp 60)=ε (some ⟨p,1,none⟩):=aF hG 2;exact ai (aY rfl e1 (LP ((LR.out.dh.on ay.world).row.cell (k:=1) rfl))) (bD ay rfl)
      ·exact ai (aY rfl t4 (kZ (LR.out.key.on ay.world))) (bD ay rfl)
      exact ai (aY rfl t5 (jU (LR.out.ev.on ay.world) hE)) (bD ay rfl)
     case mdone=>
      intro a w7 ay hG;have e61:a.eval (.tmp 61)=.map (some b):=hG 3 (by decide);have e62:a.eval (.tmp 62)=.agg #[η c,η u]:=hG 4 (by decide);have e63:a.eval (.tmp 63)=.agg EV.toArray:=hG 5 (by decide);have t6:a.eval (.tmp 6)=ε (some ⟨w.heap.size+1+1,0,none⟩):=ay.fixed (6,_) (by simp[jV]);have t7:a.eval (.tmp 7)=.bool (dm c u ks).isSome:=ay.fixed (7,_) (by simp[jV]);have Ax:=H (LR.out.keep ay.world);have bp:=ay.size;have gC:=ay.defers;clear ay hG LR;obtain⟨fr,rfl,hf⟩:=o6 a bp gC;have g6:=(hf 6).symm.trans t6;have g7:=(hf 7).symm.trans t7;have g61:=(hf 61).symm.trans e61;have g62:=(hf 62).symm.trans e62;have g63:=(hf 63).symm.trans e63;clear hf bp gC t6 t7 e61 e62 e63;rw[g6,g7,g61,g62,g63];clear g6 g7 g61 g62 g63;go_wp2_with (first
       |(refine Yo (k:=⟨c,u,EV⟩) rfl rfl rfl rfl rfl Ax.out.dh.map ⟨hc,hu⟩ ?_;intro w8 hm8 oe;have rr8:=Ax.out.res.ex oe (λe=>by have:=HL.out b (.inr (.inl rfl));omega))
       |(refine Ay rfl rfl rfl rr8 underlying79 rfl (by rw[iG];exact jk) ?_)
       |(refine ox rfl rfl rfl rfl rr8 rfl (by rw[iG];exact jk) oG ?_;intro w9 la i7))
      have eY:fl w9 p b jH (if κ ns c then ns else ns++[c]) (oH ⟨c,u,EV⟩ ks):=by
       have fH:=HL.out b (.inr (.inl rfl));have qz:=HL.out p (.inl rfl);refine⟨(Ax.out.dh.row.ex oe Ax.out.dh.Ur.symm).ex i7 (by omega),?_,hm8.keep (i7.block b (by have:=oe.size;have:=Ax.out.dh.map.lt;omega) (by omega)),Ax.out.dh.Ur,Ax.out.dh.ne2,Ax.out.dh.Us⟩;exact dQ (dQ Ax.out.dh.own λj hj N=>oe.block j N (λe=>Ax.out.dh.Us (e▸hj))) λj hj N=>i7.block j N (hv2 j hj).2.2
      have hxf:ak (mm p b nv) w w9:=(Ax.out.ex.trans oe λj hj=>.inl (.inr (.inl hj))).trans i7 λj hj=>.inr (by omega);refine bodyPost_ret (v:=.tuple #[.agg (iQ c u ks).toArray,.bool (dm c u ks).isSome]) (results_cell_tmp results161 rfl (run_loadVar_mid _ (w.heap.size+1+1) 0 79 (iQ c u ks) _ (ia la) underlying79 rfl (by rw[iG];exact jk))) rfl ?_;unfold yy;rw[if_neg (λh=>h.elim amM amN)];exact⟨rfl,jH,eY,hxf,LU⟩
    clear hK7;replace r7:=H r7;cases PK:κ ns c
    case true=>
     rw[PK]at r7;go_wp2_with fail;exact r7.out _ _ nv ⟨rfl,rfl,rfl,rfl,rfl,rfl,rfl,rfl⟩ (by rw[if_pos trivial];exact⟨lS.out.dh,lS.out.key,lS.out.ev,lS.out.res,lS.out.ex.mono λ_ h=>h.elim⟩) (λj hj=>.inl hj) (λj hj=>by have:=HL.out j (.inr (.inr hj));omega)
    case false=>
     rw[PK]at r7;go_upto_region 6 with fail;have HA:Hid (∀Y,CNm w3 nv ns Y->M Y p [nv,.map (some b)] 202/\M Y w.heap.size [η c,η u] 207):=H λY uM=>
      ⟨lS.out.dh.row.ex uM.ex lS.out.dh.ne2,lS.out.key.ex uM.ex (λe=>by have:=HL.out _ (.inr (.inr e));omega)⟩
     have IP:Hid (w.heap.size<=w3.heap.size):=H lS.out.ex.size;refine ei 9 (by simp only[Ν,ύ];rfl) (by simp only[Ξ,Ϗ];rfl) (GV (λi=>47+i) (Fl w3 p w.heap.size nv ns c)) (JX 66 (jV p w.heap.size (dm c u ks).isSome false) (CNm w3 nv ns)) (by kernel_rfl) (by kernel_rfl) (by kernel_rfl) (by kernel_rfl) (by kernel_rfl) (by kernel_rfl) rfl ?nops ?ndone ⟨rfl,rfl,λq J=>by
      simp only[jV,Κ,ω,or_false]at J;rcases J with rfl|rfl|rfl|rfl|rfl|rfl<;>rfl,(ak.refl _ _).drew,lS.out.dh.own⟩
     case nops=>
      intro i o ho a Y ay hG Q';have S:i<9:=(Array.getElem?_eq_some_iff.1 ho).1;have t0:a.eval (.tmp 0)=ε (some ⟨p,0,none⟩):=ay.fixed (0,_) (by simp[jV]);have t4:a.eval (.tmp 4)=ε (some ⟨w.heap.size,0,none⟩):=ay.fixed (4,_) (by simp[jV]);have eQ:i=0\/i=1\/i=2\/i=3\/i=4\/i=5\/i=6\/i=7\/i=8:=by omega
      rcases eQ with rfl|rfl|rfl|rfl|rfl|rfl|rfl|rfl|rfl<;>obtain rfl:=ν ho
      ·exact ai (cW rfl t0) (bD ay rfl)
      ·exact ai (cW rfl t0) (bD ay rfl)
      ·have e1:a.eval (.tmp 48)=ε (some ⟨p,0,none⟩):=aF hG 1;exact ai (eJ rfl e1) (bD ay rfl)
      ·have e1:a.eval (.tmp 49)=ε (some ⟨p,0,none⟩):=aF hG 2;exact ai (cR rfl e1 acX) (bD ay rfl)
      ·have e1:a.eval (.tmp 50)=ε (some ⟨p,0,none⟩):=aF hG 3;exact ai (aY rfl e1 (by rw[mA];exact Yq (by rw[<-mA];exact(HA.out _ ay.world).1.cell (k:=0) rfl))) (bD ay rfl)
      ·exact ai (cR rfl t4 acY) (bD ay rfl)
      ·have e1:a.eval (.tmp 52)=ε (some ⟨w.heap.size,0,none⟩):=aF hG 5;exact ai (aY rfl e1 (Uv ((HA.out _ ay.world).2.cell (k:=0) rfl))) (bD ay rfl)
      ·have e1:a.eval (.tmp 53)=η c:=aF hG 6;refine ai (Yr rfl e1) ?_;refine uL (by kernel_rfl) rfl (by decide) ay ⟨ay.world.ex.alloc _,ay.world.own.alloc _⟩ (λj u' hj hn=>?_) ⟨Y.heap.size,rfl,M.new Y [η c] 9,ay.world.ex.size⟩;by_cases h8:j=8
       ·subst h8;obtain⟨g,cap,a1,a2,a3⟩:=hn;exact⟨g,cap,a1,dQ a2 λg' _ hg=>Ζ _ _ _ hg,a3⟩
       exact Fl.keep (λg _ hg=>Ζ _ _ _ hg) j u' h8 hn
      have e1:a.eval (.tmp 51)=nv:=aF hG 4;obtain⟨gn,e2,qy,hgn⟩:Fl w3 p w.heap.size nv ns c 7 (a.eval (.tmp 54)) Y:=aF hG 7;obtain⟨g,cap,w9,la,xj,xk,IT,Aj⟩:=pP (P:=prog) Y 0 52 52 9 _ 1 16 underlying52 pB rfl (by decide) nv ns.length (dS ns) ay.world.own ⟨gn,0,none⟩ 1 1 (by decide) [η c] rfl (World.news_of_block qy) (by simp[Δ]) (by omega) (by decide) (Nat.zero_le _);refine ai (GU rfl e1 e2 la) ?_;refine uL (by kernel_rfl) rfl (by decide) ay ⟨ay.world.ex.trans (Ai IT) (λj hj=>.inl hj),xk⟩ (λj u' hj hn=>?_) ⟨g,cap,rfl,xj,Aj.imp id (λh=>by have:=ay.world.ex.size;omega)⟩;exact Fl.keep (λg' hg1 LC=>IT.block g' LC (λe=>by have:=HL.out g' (.inr (.inr e.symm));have:=IP.out;omega)) j u' hj hn
     case ndone=>
      intro a w7 ay hG;have e47:a.eval (.tmp 47)=ε (some ⟨p,0,none⟩):=hG 0 (by decide);obtain⟨g,cap,e55,xj,Aj⟩:Fl w3 p w.heap.size nv ns c 8 (a.eval (.tmp 55)) w7:=hG 8 (by decide);have t0:a.eval (.tmp 0)=ε (some ⟨p,0,none⟩):=ay.fixed (0,_) (by simp[jV]);have t4:a.eval (.tmp 4)=ε (some ⟨w.heap.size,0,none⟩):=ay.fixed (4,_) (by simp[jV]);have t5:a.eval (.tmp 5)=ε (some ⟨w.heap.size+1,0,none⟩):=ay.fixed (5,_) (by simp[jV]);have t6:a.eval (.tmp 6)=ε (some ⟨w.heap.size+1+1,0,none⟩):=ay.fixed (6,_) (by simp[jV]);have t7:a.eval (.tmp 7)=.bool (dm c u ks).isSome:=ay.fixed (7,_) (by simp[jV]);have t8:a.eval (.tmp 8)=.bool false:=ay.fixed (8,_) (by simp[jV]);rw[e55]at xj;have r7p:=(HA.out _ ay.world).1;have HO9:=H xj;have HQ9:=H Aj;have Cs:=H ay.world.ex;have R7p:=H r7p;have z7:=r7p.cell (k:=0) rfl;have f7:=r7p.free (k:=0);have bp:=ay.size;have gC:=ay.defers;clear ay hG HA xj Aj r7p;obtain⟨fr,rfl,hf⟩:=o6 a bp gC;have g0:=(hf 0).symm.trans t0;have g4:=(hf 4).symm.trans t4;have g5:=(hf 5).symm.trans t5;have g6:=(hf 6).symm.trans t6;have g7:=(hf 7).symm.trans t7;have g8:=(hf 8).symm.trans t8;have g47:=(hf 47).symm.trans e47;have g55:=(hf 55).symm.trans e55;clear hf bp gC t0 t4 t5 t6 t7 t8 e47 e55;rw[g0,g4,g5,g6,g7,g8,g47,g55];clear g0 g4 g5 g6 g7 g8 g47 g55;go_wp2_with fail;have fH:=HL.out b (.inr (.inl rfl));have qz:=HL.out p (.inl rfl);have xp:=lS.out.res.lt;have hgc:g≠p/\g≠b/\g≠w.heap.size/\g≠w.heap.size+1/\g≠w.heap.size+1+1:=by
       rcases HQ9.out with h|h
       ·have:=HL.out g (.inr (.inr h));exact⟨λe=>lS.out.dh.ne2 (by rw[h,e]),λe=>lS.out.dh.Us (by rw[h,e]),by omega,by omega,by omega⟩
       exact⟨by omega,by omega,by omega,by omega,by omega⟩
      have o7:∀j,w.heap.size<=j->¬nv.ownBlock=some j:=λj hj e=>by have:=HL.out j (.inr (.inr e));omega
      have qQ:∀j,j≠p->(w7.setCell ⟨p,0,none⟩ (ζ (some ⟨g,0,none⟩) (ns.length+1) cap)).heap[j]?=w7.heap[j]?:=λj hj=>Below.heap_setCell _ _ _ _ (λ(e:j=p)=>hj e);refine r7.out _ _ (ζ (some ⟨g,0,none⟩) (ns.length+1) cap) ⟨rfl,rfl,rfl,rfl,rfl,rfl,rfl,rfl⟩ ?_ (λj hj=>?_) (λj hj=>?_)
      ·rw[if_neg (by simp)];refine⟨⟨R7p.out.set (k:=0) _,?_,(lS.out.dh.map.keep (Cs.out.block b lS.out.dh.map.lt lS.out.dh.Us)).keep (qQ b lS.out.dh.Ur),lS.out.dh.Ur,λe=>hgc.1 (ν e),λe=>hgc.2.1 (ν e)⟩,((lS.out.key.ex Cs.out (o7 _ (μ _))).keep (qQ _ (by omega))),((lS.out.ev.ex Cs.out (o7 _ (by omega))).keep (qQ _ (by omega))),((lS.out.res.ex Cs.out (o7 _ (by omega))).keep (qQ _ (by omega))),?_⟩
       ·have e1:dS (ns++[c])=dS ns++[η c]:=by unfold dS;simp
        rw[e1,ϛ];refine dQ HO9.out λj hj _=>qQ j (λe=>hgc.1 ?_);exact(show g=j from ν hj).trans e
       exact(((lS.out.ex.mono (O':=mm p b nv) λ_ h=>h.elim).trans Cs.out λj hj=>.inl (.inr (.inr hj))).st (.inl rfl) _)
      ·have e9:g=j:=ν hj;rw[<-e9];exact HQ9.out.imp id λh=>by omega
      have e9:g=j:=ν hj;rw[<-e9];exact hgc.2.2
   clear IZ;replace r5:=H r5;have k1:=lS.out.dh.row.cell (k:=1) rfl;have lR:=lS.out.dh.map.len 3;cases LV:(dm c u ks).isSome
   case true=>
    rw[LV]at r5;go_wp2_with (go_at_call 65;refine(fD 5 _).mono ?_;rintro E w4 ⟨rfl,rfl⟩);exact r5.out (by simp) _ ⟨rfl,rfl,rfl,rfl,rfl,rfl,rfl,rfl⟩
   case false=>
    rw[LV]at r5;by_cases h8:ks.length<30
    case pos=>
     have Pc:((ks.length:Nat):Int)<30:=by omega
     go_wp2_with (go_at_call 65;refine(fD 5 _).mono ?_;rintro E w4 ⟨rfl,rfl⟩);exact r5.out (λh=>by omega) _ ⟨rfl,rfl,rfl,rfl,rfl,rfl,rfl,rfl⟩
    case neg=>
     have Pc:¬((ks.length:Nat):Int)<30:=by omega
     go_wp2_with (go_at_call 65;refine(gY 5 _).mono ?_;rintro E w4 ⟨rfl,rfl⟩);exact⟨rfl,by unfold yy;rw[if_pos (.inr ⟨LV,by omega⟩)];exact⟨rfl,lS.out.ex.below (μ _) (λ_ h=>h.elim)⟩⟩
 clear eM;replace r3:=H r3;have k0:=pT.out.dh.row.cell (k:=0) rfl;rw[mA]at k0;cases PK:κ ns c
 case true=>
  rw[PK]at r3;go_wp2_with (go_at_call 65;refine(fD 5 _).mono ?_;rintro E w4 ⟨rfl,rfl⟩);exact r3.out (by simp) _ ⟨rfl,rfl,rfl,rfl,rfl,rfl,rfl,rfl⟩
 case false=>
  rw[PK]at r3;by_cases h8:ns.length<8
  case pos=>
   have Pc:((ns.length:Nat):Int)<8:=by omega
   go_wp2_with (go_at_call 65;refine(fD 5 _).mono ?_;rintro E w4 ⟨rfl,rfl⟩);exact r3.out (λh=>by omega) _ ⟨rfl,rfl,rfl,rfl,rfl,rfl,rfl,rfl⟩
  case neg=>
   have Pc:¬((ns.length:Nat):Int)<8:=by omega
   go_wp2_with (go_at_call 65;refine(gY 5 _).mono ?_;rintro E w4 ⟨rfl,rfl⟩);exact⟨rfl,by unfold yy;rw[if_pos (.inl ⟨PK,by omega⟩)];exact⟨rfl,pT.out.ex.below (μ _) (λ_ h=>h.elim)⟩⟩
theorem acZ (a b:Int):gQ a b=0\/gQ a b=1\/gQ a b=2:=by
 unfold gQ;split
 ·exact .inr (.inr rfl)
 split
 ·exact .inr (.inl rfl)
 exact .inl rfl
theorem Az:∀(es:List eF) (c1 c2 bg kd:Int),(kd=0\/kd=1\/kd=2)->∀x∈gi c1 c2 bg kd es,x.2.2=1\/x.2.2=2
 |[],_,_,_,_,_,x,X=>by cases X
 |e::r,c1,c2,bg,kd,I,x,X=>by
  rw[gi]at X;generalize(c1+if e.k=1 then e.m else 0)=d1 at X;generalize(c2+if e.k=2 then e.m else 0)=d2 at X;split at X
  ·exact Az r _ _ _ _ I x X
  rcases List.mem_append.1 X with X|X
  ·split at X
   ·cases X
   rw[ϯ]at X;subst X;rcases I with h|h|h
   ·contradiction
   ·exact .inl h
   exact .inr h
  exact Az r _ _ _ _ (acZ _ _) x X
theorem DG:∀(es:List eF) (c1 c2 bg kd:Int),(gi c1 c2 bg kd es).length<=es.length
 |[],_,_,_,_=>μ _
 |e::r,c1,c2,bg,kd=>by
  rw[gi];generalize(c1+if e.k=1 then e.m else 0)=d1;generalize(c2+if e.k=2 then e.m else 0)=d2;split
  ·have:=DG r d1 d2 bg kd;simp only[Α];omega
  have:=DG r d1 d2 e.t (gQ d1 d2);rw[ϛ,Α];split<;>simp<;>omega
def I8:ByteArray:=⟨#[66,69,71,73,78,58,86,70,82,69,69,66,85,83,89]⟩
def AA:ByteArray:=⟨#[68,84,83,84,65,82,84,58]⟩
def AB:ByteArray:=⟨#[68,84,69,78,68,58]⟩
def zz:ByteArray:=⟨#[69,78,68,58,86,70,82,69,69,66,85,83,89]⟩
def sG (f t:Int)(R:List (Int×Int×Int)):List ByteArray:=[I8,AA++dE f,AB++dE t]++R.map kF
def pU (f t:Int)(R:List (Int×Int×Int)):ByteArray:=⟨(dL ((sG f t R++[zz]).map ByteArray.toList)).toArray⟩
theorem Uw (x:Int×Int×Int):(kF x).size<=70:=by
 have G:=iq x.1;have A:=iq x.2.1;have K:(LH x.2.2).size<=14:=by unfold LH;split<;>decide
 have h4:sB.size=16:=rfl;have h5:(⟨#[58]⟩:ByteArray).size=1:=rfl;have h6:(⟨#[47]⟩:ByteArray).size=1:=rfl;unfold kF;simp only[Φ];omega
theorem gP.on {w Y:ι}{p:Nat}{f t:Int}{v:Value}{L:List eF}(h:gP w p f t v L)(U:Below w.heap.size w Y):gP Y p f t v L:=⟨h.row.on U,dQ h.own λg _ N=>U.block g N,h.ne⟩
theorem G2 {w:ι}{B s:Nat}{e:ϣ}{v:Value}{n:Nat}{xs:List Value}(h:w.ownsRow B e s v n xs):∃a c,v=ζ a n c:=by
 rcases h.2 with⟨e,h0⟩|⟨g,cap,cur,e,_⟩
 ·exact⟨none,0,by rw[e,h0]⟩
 exact⟨_,_,e⟩
theorem LW (f t:Int)(R:List (Int×Int×Int))(x:Int×Int×Int):sG f t (R++[x])=sG f t R++[kF x]:=by unfold sG;simp
theorem Ux {L:List (Int×Int×Int)}:∀{i:Nat} {x:Int×Int×Int},L[i]?=some x->(jB L)[i*3]?=some (V Z x.1)/\(jB L)[i*3+1]?=some (V Z x.2.1)/\(jB L)[i*3+2]?=some (V Z x.2.2):=by
 induction L with
 |nil=>intro i x h;cases h
 |cons y L ih=>
  intro i x h;have e:jB (y::L)=RO y++jB L:=rfl;cases i with
  |zero=>
   rw[List.getElem?_cons_zero]at h;cases h;rw[e];exact⟨rfl,rfl,rfl⟩
  |succ i=>
   rw[List.getElem?_cons_succ]at h;obtain⟨a,b,c⟩:=ih h;have N:(RO y).length=3:=rfl;rw[e];refine⟨?_,?_,?_⟩
   ·rw[Ρ (by rw[N];omega),N,show(i+1)*3-3=i*3 by omega];exact a
   ·rw[Ρ (by rw[N];omega),N,show(i+1)*3+1-3=i*3+1 by omega];exact b
   rw[Ρ (by rw[N];omega),N,show(i+1)*3+2-3=i*3+2 by omega];exact c
theorem I9:∀ls:List (List UInt8),(∀l∈ls,l.length<=100)->(dL ls).length<=102*ls.length
 |[],_=>by simp[dL]
 |l::ls,h=>by
  have G:=h l (by simp);have A:=I9 ls (λx X=>h x (List.mem_cons_of_mem _ X));have e:dL (l::ls)=(l++[13,10])++dL ls:=rfl;rw[e];simp only[ϛ,Α,Ω];omega
theorem Uy (f t:Int)(R:List (Int×Int×Int))(atD:ByteArray)(h:atD∈sG f t R++[zz]):atD.size<=100:=by
 have G:=iq f;have A:=iq t;have h4:AA.size=8:=rfl;have h5:AB.size=6:=rfl;unfold sG at h;simp only[À,Κ,ω,or_false,List.mem_map]at h;rcases h with((rfl|rfl|rfl)|⟨x,_,rfl⟩)|rfl
 ·decide
 ·rw[Φ];omega
 ·rw[Φ];omega
 ·have:=Uw x;omega
 decide
theorem Uz {w:ι}{B g cap n:Nat}{xs:List ByteArray}{ls:List (List UInt8)}(h:w.ownsRow B 9 1 (ζ (some ⟨g,0,none⟩) n cap) n (dS xs++[η zz]))(N:ls=(xs++[zz]).map ByteArray.toList):jL w g 0 ls:=by
 intro j hj;subst N;have e1:dS xs++[η zz]=dS (xs++[zz]):=by unfold dS;simp
 rw[e1]at h;rw[ϊ]at hj;have e2:(dS (xs++[zz]))[j]?=some (η (xs++[zz])[j]):=by unfold dS;rw[τ,ο hj];rfl
 have:=h.cells (g:=g) rfl j _ e2;rw[Addr.add_lit]at this;rw[this];congr 2;rw[Ϣ,τ,ο hj];show(xs++[zz])[j]=⟨((xs++[zz])[j].toList).toArray⟩;rw[ByteArray.toList_eq]
def NTx (p:Nat)(f t:Int)(i:Nat)(v:Value)(_:ι):Prop:=v=[ε (some ⟨p,0,none⟩),ε (some ⟨p,0,none⟩),ε (some ⟨p,0,none⟩),V Z f,η (dE f),η (AA++dE f),ε (some ⟨p,0,none⟩),ε (some ⟨p,0,none⟩),ε (some ⟨p,1,none⟩),V Z t,η (dE t),η (AB++dE t)].getD i undef
def BQ (p:Nat):List (Nat×Value):=[(0,ε (some ⟨p,0,none⟩))]
theorem ac0 (p:Nat)(f t:Int):rO (λi=>6+i) (BQ p) 36 12 (NTx p f t):=
 ⟨λi S=>by show 6+i<36;omega,λi j S hj h=>by have h':6+i=6+j:=h;omega,λq J i S=>by
  simp only[BQ,Κ,ω,or_false]at J;show q.1≠6+i;rcases J with rfl;simp;omega,λ_ _ _ _ h _=>h⟩
theorem UA (a:Ϡ)(h:a.tmps.size=36)(hd:a.defers=[]):∃f:Nat->Value,a=⟨[f 0,f 1,f 2,f 3,f 4,f 5,f 6,f 7,f 8,f 9,f 10,f 11,f 12,f 13,f 14,f 15,f 16,f 17,f 18,f 19,f 20,f 21,f 22,f 23,f 24,f 25,f 26,f 27,f 28,f 29,f 30,f 31,f 32,f 33,f 34,f 35].toArray,[]⟩/\∀k,a.eval (.tmp k)=f k:=gO 36 a h hd
theorem Kr (w0:ι)(p:Nat)(f t:Int)(v:Value)(L:List eF)(w:ι)(ht:jg w0)(U:Below w0.heap.size w0 w)(h:gP w p f t v L)(hv:∀j,v.ownBlock=some j->w0.heap.size<=j)(hL:L.length+4<=16777216)(I:∀e∈L,(e.k=0\/e.k=1\/e.k=2)/\(e.m=1\/e.m=-1)):
 ϝ prog 105 #[ε (some ⟨p,0,none⟩)] w λE Y=>∃L',L'.Perm L/\L'.Pairwise (λx y:eF=>x.t<=y.t)/\E=δ (η (pU f t (gi 0 0 f 0 L')))/\Below w0.heap.size w0 Y:=by
 have HT:Hid (∀n Y,Below w0.heap.size w0 Y->ϝ prog 176 #[V Z n] Y λE az=>E=δ (η (dE n))/\Below Y.heap.size Y az):=H λn Y U=>Fb n Y (ht.on U);have HLn:Hid (∀x:Int×Int×Int,(x.2.2=1\/x.2.2=2)->∀Y,Below w0.heap.size w0 Y->ϝ prog 178 #[.agg #[V Z x.1,V Z x.2.1,V Z x.2.2]] Y λE az=>E=δ (η (kF x))/\Below Y.heap.size Y az):=H λx X Y U=>Yg x.1 x.2.1 x.2.2 Y (ht.on U) X;have HW:=H h;replace U:=H U;have vG:=iq f;have sC:=iq t;have qz:=h.row.lt;clear h ht;go_enter func105,ntmps105;go_upto_region 1 with fail;have atI:=ac0 p f t;refine ei 12 (by simp only[Ν,ύ];rfl) (by simp only[Ξ,Ϗ];rfl) (GV (λi=>6+i) (NTx p f t)) (JV 36 (BQ p) w) (by kernel_rfl) (by kernel_rfl) (by kernel_rfl) (by kernel_rfl) (by kernel_rfl) (by kernel_rfl) rfl ?rops ?rdone ⟨rfl,rfl,λq J=>by
  simp only[BQ,Κ,ω,or_false]at J;rcases J with rfl;rfl,(π _ _).drew⟩
 case rops=>
  intro i o ho a Y ay hG Q';have S:i<12:=(Array.getElem?_eq_some_iff.1 ho).1;have t0:a.eval (.tmp 0)=ε (some ⟨p,0,none⟩):=ay.fixed (0,_) (by simp[BQ]);have hf8:(⟨#[68,84,83,84,65,82,84,58]⟩:ByteArray).size=8:=rfl;have hf9:(⟨#[68,84,69,78,68,58]⟩:ByteArray).size=6:=rfl;have eQ:i=0\/i=1\/i=2\/i=3\/i=4\/i=5\/i=6\/i=7\/i=8\/i=9\/i=10\/i=11:=by omega
  rcases eQ with rfl|rfl|rfl|rfl|rfl|rfl|rfl|rfl|rfl|rfl|rfl|rfl<;>obtain rfl:=ν ho
  ·exact ai (cW rfl t0) (aZ atI ay)
  ·have e1:a.eval (.tmp 6)=ε (some ⟨p,0,none⟩):=aF hG 0;exact ai (eJ rfl e1) (aZ atI ay)
  ·have e1:a.eval (.tmp 7)=ε (some ⟨p,0,none⟩):=aF hG 1;exact ai (cR rfl e1 TY) (aZ atI ay)
  ·have e1:a.eval (.tmp 8)=ε (some ⟨p,0,none⟩):=aF hG 2;exact ai (aY rfl e1 (dP ((HW.out.row.on ay.below).cell (k:=0) rfl))) (aZ atI ay)
  ·have e1:a.eval (.tmp 9)=V Z f:=aF hG 3;exact uF (f:=176) (args:=#[a.eval (.tmp 9)]) (by kernel_rfl) (by rw[e1];exact HT.out f Y (U.out.trans (ay.below.mono U.out.size))) (λaz U=>mz atI rfl (by decide) ay U rfl)
  ·have e1:a.eval (.tmp 10)=η (dE f):=aF hG 4;exact ai (qO rfl rfl e1 (by omega)) (aZ atI ay)
  ·exact ai (cW rfl t0) (aZ atI ay)
  ·have e1:a.eval (.tmp 12)=ε (some ⟨p,0,none⟩):=aF hG 6;exact ai (eJ rfl e1) (aZ atI ay)
  ·have e1:a.eval (.tmp 13)=ε (some ⟨p,0,none⟩):=aF hG 7;exact ai (cR rfl e1 TZ) (aZ atI ay)
  ·have e1:a.eval (.tmp 14)=ε (some ⟨p,1,none⟩):=aF hG 8;exact ai (aY rfl e1 (dP ((HW.out.row.on ay.below).cell (k:=1) rfl))) (aZ atI ay)
  ·have e1:a.eval (.tmp 15)=V Z t:=aF hG 9;exact uF (f:=176) (args:=#[a.eval (.tmp 15)]) (by kernel_rfl) (by rw[e1];exact HT.out t Y (U.out.trans (ay.below.mono U.out.size))) (λaz U=>mz atI rfl (by decide) ay U rfl)
  have e1:a.eval (.tmp 16)=η (dE t):=aF hG 10;exact ai (qO rfl rfl e1 (by omega)) (aZ atI ay)
 case rdone=>
  intro a w3 ay hG;have UB:a.eval (.tmp 11)=η (AA++dE f):=hG 5 (by decide);have qA:a.eval (.tmp 17)=η (AB++dE t):=hG 11 (by decide);have t0:a.eval (.tmp 0)=ε (some ⟨p,0,none⟩):=ay.fixed (0,_) (by simp[BQ]);have aR:=ay.below;have gh:=ay.size;have gC:=ay.defers;clear ay hG atI;obtain⟨fr,rfl,hf⟩:=UA a gh gC;have g0:=(hf 0).symm.trans t0;have g11:=(hf 11).symm.trans UB;have g17:=(hf 17).symm.trans qA;clear hf gh gC t0 UB qA;rw[g0,g11,g17];clear g0 g11 g17;have qy:M (w3.alloc (θ #[η I8,η (AA++dE f),η (AB++dE t)] 9)) w3.heap.size [η I8,η (AA++dE f),η (AB++dE t)] 9:=M.new w3 _ _;have cu:Below w3.heap.size w3 (w3.alloc (θ #[η I8,η (AA++dE f),η (AB++dE t)] 9)):=(π _ _).alloc (μ _) _;have Ja:=H (show(w3.alloc (θ #[η I8,η (AA++dE f),η (AB++dE t)] 9)).heap.size=w3.heap.size+1 by simp);have HS4:=H ((HW.out.on aR).on cu);have RX:=H ((U.out.trans (aR.mono U.out.size)).trans (cu.mono (Β U.out.size aR.size)));unfold I8 at qy HS4 RX Ja cu;go_upto_region 2 with fail;have su:=aR.size;have aiJ:∀j,v.ownBlock=some j->j<w.heap.size:=λj hj=>(HW.out.own.lt j hj).2;clear aR cu HW HT;generalize(w3.alloc (θ #[η ⟨#[66,69,71,73,78,58,86,70,82,69,69,66,85,83,89]⟩,η (AA++dE f),η (AB++dE t)] 9))=atD at *
  have HST:=H (Ko p f t v L atD HS4.out (by omega) I);go_upto_region 3 with(go_at_call 177;refine(HST.out).mono ?_;rintro E atx ⟨vs,L',uC,Px,rfl,hoR,hxR⟩;obtain⟨av,cv,hvs⟩:=G2 hoR;subst hvs);clear HST;have hXs:atD.heap.size<=atx.heap.size:=hxR.size;have hrY:M atx w3.heap.size [η I8,η (AA++dE f),η (AB++dE t)] 9:=qy.ex hxR (λe=>by have:=aiJ _ e;omega);have uD:=H (show Below w0.heap.size w0 atx from RX.out.trans (hxR.below RX.out.size hv));have hRk:Hid (∀x∈gi 0 0 f 0 L',x.2.2=1\/x.2.2=2):=H (Az L' 0 0 f 0 (.inl rfl));have hRl:(gi 0 0 f 0 L').length+4<=16777216:=by have:=DG L' 0 0 f 0;have:=uC.length_eq;omega
  have HF:Hid (∀(E:Ending) (Y:ι),E=δ (η (pU f t (gi 0 0 f 0 L')))/\Below w0.heap.size w0 Y->∃L':List eF,L'.Perm L/\L'.Pairwise (λx y:eF=>x.t<=y.t)/\E=δ (η (pU f t (gi 0 0 f 0 L')))/\Below w0.heap.size w0 Y):=H λE Y ⟨G,A⟩=>⟨L',uC,Px,G,A⟩;have amO:∀j,av.map (·.block)=some j->w3.heap.size+1<=j/\j<atx.heap.size:=λj hj=>by
   have:=hoR.lt j (by cases av with|none=>cases hj|some q=>exact hj);have:=Ja.out;omega
  generalize gi 0 0 f 0 L'=R at *
  clear hxR HS4 RX qy uC Px I hL;have afa:=H hoR;clear hoR;go_wp2_with fail;go_loopg [3,22] R.length (λq s3 s22 wr=>∃i:Nat,i+q=R.length/\s22=V Z i/\wr.ownsRow w3.heap.size 9 1 s3 (3+i) (dS (sG f t (R.take i)))/\(∀j,s3.ownBlock=some j->j=w3.heap.size\/atx.heap.size<=j)/\ak (λj=>j=w3.heap.size) atx wr/\Hid (Below w0.heap.size w0 wr))
  case atStart=>
   refine⟨0,by omega,rfl,?_,λj hj=>.inl (ν hj).symm,ak.refl _ _,uD⟩;have:=RY (B:=w3.heap.size) hrY (μ _) (by simp);simpa[sG,dS]using this
  case round=>
   obtain⟨i,hiq,rfl,ho,hob,qB,bh⟩:=hrel;have hsw:=qB.size;by_cases lP:i=R.length
   case pos=>
    subst lP;rw[Ϸ]at ho;obtain⟨ls,tk⟩:∃ls,ls=(sG f t R++[zz]).map ByteArray.toList:=⟨_,rfl⟩;have Jb:ls.length=3+R.length+1:=by rw[tk];unfold sG;simp;omega
    have hlb:(dL ls).length<=102*ls.length:=I9 ls (λl N=>by
     rw[tk]at N;obtain⟨atD,hX,rfl⟩:=List.mem_map.1 N;rw[ByteArray.toList_eq,Ϭ];show atD.size<=100;exact Uy f t R atD hX)
    have E9:∀j,u3.ownBlock=some j->w0.heap.size<=j:=λj hj=>by
     have:=(ho.lt j hj).1;have:=U.out.size;omega
    have HFT:=H (HF.out);have h3Y:w3.heap.size<=wr.heap.size:=by have:=Ja.out;omega
    have htx:Hid ((⟨(dL ls).toArray⟩:ByteArray)=pU f t R):=H (by rw[tk];rfl);have hoW:=ho.alloc (θ #[η ⟨#[69,78,68,58,86,70,82,69,69,66,85,83,89]⟩] 9);have mB:M (wr.alloc (θ #[η ⟨#[69,78,68,58,86,70,82,69,69,66,85,83,89]⟩] 9)) wr.heap.size [η ⟨#[69,78,68,58,86,70,82,69,69,66,85,83,89]⟩] 9:=M.new wr _ _;obtain⟨a3,c3,G3⟩:=G2 ho;rw[G3]at hoW E9;rw[G3];replace tk:=H tk;clear ho HF G3;go_wp2_with (first
     |(refine GX rfl (.tmp 32) (.tmp 33) 52 9 _ 1 16 rfl underlying52 pB rfl (by decide) w3.heap.size _ (3+R.length) (dS (sG f t R)) rfl hoW wr.heap.size 1 (by decide) [η ⟨#[69,78,68,58,86,70,82,69,69,66,85,83,89]⟩] rfl rfl mB (by simp[Δ]) (by omega) (by decide) (by simp;omega) ?_;intro g9 Yf ae hoV hgV hqV;have RZ:=H (show Below w0.heap.size w0 ae from(bh.out.alloc bh.out.size _).grown hgV (by simp;have:=bh.out.size;omega) E9);have hnV:=Uz hoV tk.out;have Fm:=(hoV.lt g9 rfl).2;have CW:=H (Ks g9 Yf ls ae Fm hnV (by omega) (by omega));rw[Jb,htx.out]at CW)
     |(go_at_call 87;refine(CW.out).mono ?_;rintro E atC ⟨rfl,hbU⟩))
    go_ret;exact HFT.out _ _ ⟨rfl,RZ.out.trans (hbU.mono RZ.out.size)⟩
   case neg=>
    have aQ:i<R.length:=by omega
    have Al:(i:Int)<(R.length:Int):=by omega
    obtain⟨x,X⟩:∃x,R[i]?=some x:=⟨_,ο aQ⟩;obtain⟨g1,g2,g3⟩:=Ux X;rcases afa.out.2 with⟨_,h0⟩|⟨gv,cap,cur,LX,_⟩
    ·omega
    injection LX with amP amQ amR
    subst amP amR;clear amQ;have hgv:=amO gv rfl;have AD:∀m u,(jB R)[m]?=some u->wr.cell? ⟨gv,m,none⟩=some u:=λm u hm=>by
     have e1:=afa.out.cells (g:=gv) rfl m u hm;rw[Addr.add_lit,Nat.zero_add]at e1;rw[ϩ (qB.block gv hgv.2 (by omega))];exact e1
    have q0:=AD _ _ g1;have q1:=AD _ _ g2;have q2:=AD _ _ g3;have CL:=H (HLn.out x (hRk.out x (ώ X)));clear AD g1 g2 g3;obtain⟨a3,c3,G3⟩:=G2 ho;have xo:Hid (∀ad,Below wr.heap.size wr ad->M (ad.alloc (θ #[η (kF x)] 9)) ad.heap.size [η (kF x)] 9):=H λad _=>M.new ad _ _;have Uf:Hid (∀ad,Below wr.heap.size wr ad->(ad.alloc (θ #[η (kF x)] 9)).ownsRow w3.heap.size 9 1 u3 (3+i) (dS (sG f t (R.take i)))):=H λad hZ=>(dQ ho λg _ N=>hZ.block g N).alloc _;have E9:∀j,u3.ownBlock=some j->j<wr.heap.size:=λj hj=>(ho.lt j hj).2;have afd:∀j,u3.ownBlock=some j->w0.heap.size<=j:=λj hj=>by
     have:=(ho.lt j hj).1;have:=U.out.size;omega
    have Jc:Below wr.heap.size wr (wr.alloc (θ #[V Z x.1,V Z x.2.1,V Z x.2.2] 232)):=(π _ _).alloc (μ _) _;have CLe:=H (CL.out _ (bh.out.trans (Jc.mono bh.out.size)));have afe:=H Jc;have hxe:=H (show M (wr.alloc (θ #[V Z x.1,V Z x.2.1,V Z x.2.2] 232)) wr.heap.size [V Z x.1,V Z x.2.1,V Z x.2.2] 232 from M.new wr _ _);clear ho CL Jc;rw[G3]at Uf E9 afd hob;rw[G3];obtain⟨LT,hLT⟩:∃LT,LT=kF x:=⟨_,rfl⟩;rw[<-hLT]at xo Uf CLe;replace hLT:=H hLT;go_wp2_with (first
     |(go_at_call 178;refine(CLe.out).mono ?_;rintro E ad ⟨rfl,o8⟩;have PL:=afe.out.trans (o8.mono afe.out.size))
     |(refine GX rfl (.tmp 26) (.tmp 29) 52 9 _ 1 16 rfl underlying52 pB rfl (by decide) w3.heap.size _ (3+i) (dS (sG f t (R.take i))) rfl (Uf.out ad PL) ad.heap.size 1 (by decide) [η LT] rfl rfl (xo.out ad PL) (by simp[Δ]) (by omega) (by decide) (by have:=PL.size;simp;omega) ?_;intro g9 Yf ae hoV hgV hqV))
    have hsZ:=PL.size;have RZ:Below w0.heap.size w0 ae:=((bh.out.trans (PL.mono bh.out.size)).alloc (Β bh.out.size hsZ) _).grown hgV (by simp;have:=bh.out.size;omega) afd;have hxV:ak (λj=>j=w3.heap.size) atx ae:=(((qB.aM (ak.ar PL)).alloc _).trans (Ai hgV) λj hj=>(hob j hj).imp id id);have uN:R.take (i+1)=R.take i++[x]:=by rw[List.take_add_one,X];rfl
    go_roundg (gk-1)
    case measure=>omega
    case rel=>
     refine⟨i+1,by omega,by go_num,?_,λj hj=>?_,hxV,H RZ⟩
     ·rw[uN,LW,<-hLT.out,show dS (sG f t (R.take i)++[LT])=dS (sG f t (R.take i))++[η LT] by unfold dS;simp];exact hoV
     have e9:g9=j:=ν hj;rw[<-e9];rcases hqV with h|h
     ·exact hob g9 h
     right;rw[h];simp;omega
def nN (xs:List ByteArray)(i:Nat):ByteArray:=xs.getD i χ
def jC (xs ns:List ByteArray):Option Int:=
 if xs.length<1\/8<xs.length then some 4 else if(Η xs.length).any (λi=>κ (xs.take i) (nN xs i))then some 4 else if(Η xs.length).any (λi=>!Lib.containsS ns (nN xs i))then some 6 else none
def G4 (e:Option Int):Ending:=match e with|none=> δ (.tuple #[])|some e=>.panicked (bF e)
theorem Jd {f:Nat->Bool}{n i:Nat}(S:i<n)(h:f i=true):(Η n).any f=true:=List.any_eq_true.2 ⟨i,List.mem_range.2 S,h⟩
theorem pV {f:Nat->Bool}{n:Nat}(h:∀i,i<n->f i=false):(Η n).any f=false:=by
 rw[List.any_eq_false];intro i S;rw[h i (List.mem_range.1 S)];simp
theorem Cx (p b:Nat)(nv v:Value)(ns xs:List ByteArray)(ks:List KE)(w:ι)(h:fl w p b nv ns ks)(X:fQ w v xs)(PH:ns.length<=8)(i7:xs.length<=9223372036854775807):
 ϝ prog 100 #[ε (some ⟨p,0,none⟩),v] w λE Y=>E=G4 (jC xs ns)/\w=Y:=by
 by_cases h0:xs.length<1\/8<xs.length
 case pos=>
  have hE:jC xs ns=some 4:=if_pos h0;rw[hE];obtain⟨a,c,rfl⟩:=X.sl;clear hE X h;generalize xs.length=n at *
  go_enter func100,ntmps100;rcases h0 with h0|h0
  ·have G:¬(1:Int)<=(n:Int):=by omega
   go_wp2_with (go_at_call 65;refine(gY 4 _).mono ?_;rintro E w4 ⟨rfl,rfl⟩);exact⟨rfl,rfl,rfl⟩
  have G:(1:Int)<=(n:Int):=by omega
  have A:¬(n:Int)<=8:=by omega
  go_wp2_with (go_at_call 65;refine(gY 4 _).mono ?_;rintro E w4 ⟨rfl,rfl⟩);exact⟨rfl,rfl,rfl⟩
 case neg=>
  rcases X.is with⟨_,_,_,e0⟩|⟨bb,off,c,rfl,hcp,dY⟩
  ·rw[e0]at h0;simp at h0
  have CP:Hid (∀i,i<=xs.length->∀x,ϝ prog 169 #[ζ (some ⟨bb,off,none⟩) i c,η x] w λe Y=>e=δ (.bool (κ (xs.take i) x))/\w=Y):=H λi S x=>
   (Tryz.slices_Contains_string bb off i c xs x w S (by omega) dY).mono λe Y ⟨q1,q2⟩=>⟨q1,q2.symm⟩
  have CQ:Hid (∀x,ϝ prog 169 #[nv,η x] w λe Y=>e=δ (.bool (κ ns x))/\w=Y):=H λx=>yx h.names x (by omega);obtain⟨av,cv,mA⟩:=h.names.sl;have k0:=h.row.cell (k:=0) rfl;rw[mA]at k0 CQ;have HE:=H (show jC xs ns=if(Η xs.length).any (λi=>κ (xs.take i) (nN xs i))then some 4 else if(Η xs.length).any (λi=>!Lib.containsS ns (nN xs i))then some 6 else none from if_neg h0);have HCL:Hid (∀j,j<xs.length->w.cell? ⟨bb,off+j,none⟩=some (η (nN xs j))):=H dY;have G:(1:Int)<=(xs.length:Int):=by omega
  have A:(xs.length:Int)<=8:=by omega
  have K:xs.length<=8:=by omega
  generalize jC xs ns=NE at *
  clear dY X h h0;go_enter func100,ntmps100;go_wp2_with (go_at_call 65;refine(fD 4 _).mono ?_;rintro E w4 ⟨rfl,rfl⟩);go_loopg [19] xs.length (λk q wr=>∃i:Nat,i+k=xs.length/\q=V Z i/\w=wr/\Hid (∀j,j<i->κ (xs.take j) (nN xs j)=false))
  case atStart=>exact⟨0,by omega,rfl,rfl,H λj hj=>by omega⟩
  case round=>
   obtain⟨i,PM,rfl,rfl,cK⟩:=hrel;by_cases lP:i=xs.length
   case pos=>
    subst lP;have e1:=pV cK.out;replace HE:=H (HE.out.trans (if_neg (by rw[e1];simp)));clear cK e1;go_wp2_with fail;go_loopg [34] xs.length (λk q wr=>∃i:Nat,i+k=xs.length/\q=V Z i/\w=wr/\Hid (∀j,j<i->(!Lib.containsS ns (nN xs j))=false))
    case atStart=>exact⟨0,by omega,rfl,rfl,H λj hj=>by omega⟩
    case round=>
     obtain⟨i,aq0,rfl,rfl,cK⟩:=hrel;by_cases lP:i=xs.length
     case pos=>
      subst lP;have e1:=pV cK.out;have e2:NE=none:=HE.out.trans (if_neg (by rw[e1];simp));go_wp2_with fail;go_end0;exact⟨by rw[e2];rfl,rfl⟩
     case neg=>
      have aQ:i<xs.length:=by omega
      have Al:(i:Int)<(xs.length:Int):=by omega
      have c0:=HCL.out i aQ;have CQi:=H (CQ.out (nN xs i));cases o5:κ ns (nN xs i)
      case true=>
       rw[o5]at CQi;go_wp2_with (first
        |(go_at_call 169;refine(CQi.out).mono ?_;rintro E w4 ⟨rfl,rfl⟩)
        |(go_at_call 65;refine(fD 6 _).mono ?_;rintro E w4 ⟨rfl,rfl⟩))
       go_roundg (gk-1)
       case measure=>omega
       case rel=>exact⟨i+1,by omega,by go_num,rfl,H λj hj=>by
        by_cases fA:j=i
        ·subst fA;rw[o5];rfl
        exact cK.out j (by omega)⟩
      case false=>
       have e2:NE=some 6:=HE.out.trans (if_pos (Jd aQ (by rw[o5];rfl)));rw[o5]at CQi;go_wp2_with (first
        |(go_at_call 169;refine(CQi.out).mono ?_;rintro E w4 ⟨rfl,rfl⟩)
        |(go_at_call 65;refine(gY 6 _).mono ?_;rintro E w4 ⟨rfl,rfl⟩))
       exact⟨rfl,by rw[e2];exact⟨rfl,rfl⟩⟩
   case neg=>
    have aQ:i<xs.length:=by omega
    have Al:(i:Int)<(xs.length:Int):=by omega
    have c0:=HCL.out i aQ;have hic:i<=c:=by omega
    have CPi:=H (CP.out i (by omega) (nN xs i));cases o5:κ (xs.take i) (nN xs i)
    case false=>
     rw[o5]at CPi;go_wp2_with (first
      |(go_at_call 169;refine(CPi.out).mono ?_;rintro E w4 ⟨rfl,rfl⟩)
      |(go_at_call 65;refine(fD 4 _).mono ?_;rintro E w4 ⟨rfl,rfl⟩))
     go_roundg (gk-1)
     case measure=>omega
     case rel=>exact⟨i+1,by omega,by go_num,rfl,H λj hj=>by
      by_cases fA:j=i
      ·subst fA;exact o5
      exact cK.out j (by omega)⟩
    case true=>
     have e2:NE=some 4:=HE.out.trans (if_pos (Jd aQ o5));rw[o5]at CPi;go_wp2_with (first
      |(go_at_call 169;refine(CPi.out).mono ?_;rintro E w4 ⟨rfl,rfl⟩)
      |(go_at_call 65;refine(gY 4 _).mono ?_;rintro E w4 ⟨rfl,rfl⟩))
     exact⟨rfl,by rw[e2];exact⟨rfl,rfl⟩⟩
end
open Go.Sort
attribute [local go_sem] Oper.semAt_some
attribute [local go_sem] bG aV
attribute [local simp] bG aV
theorem aff (g:Nat)(lb:Array Value)(R:aj)(lK:List KE->Prop)(atD:KE->List aJ)(Eb:aj)(f to:Int)(ba bf bt:Nat)(w:ι)
 (hit:qw prog g lb (λxs=>∃ks,lK ks/\xs=ks.map fi) R w)(mK:∀k,R k->k<w.heap.size)(eg:∀args w,(callFunc g args).run prog w=.ok (.enter g args) w)
 (ib:∀ks,lK ks->∀k∈ks,k.ev.length=18/\∀v∈k.ev,v.oneCell'=true)
 (hC:∀ks,lK ks->∀k∈ks,∀wr:ι,w.heap.size<=wr.heap.size->(∀b,Eb b->wr.heap[b]?=w.heap[b]?)->ϝ prog 219 #[.agg #[η k.kc,η k.ku],.agg k.ev.toArray,V Z f,V Z to] wr (dR (dF (atD k)) Eb wr))
 (lQ:∀b,Eb b->b<w.heap.size)
 (q1:M w ba [.func (.func g) #[] lb] 148)(q2:M w bf [V Z f] 3)(q3:M w bt [V Z to] 3):
 qw prog 223 #[ε (some ⟨ba,0,none⟩),ε (some ⟨bf,0,none⟩),ε (some ⟨bt,0,none⟩)] (λxs=>∃ks,lK ks/\xs=dF (ks.flatMap atD)) (λk=>k=ba\/k=bf\/k=bt\/R k\/Eb k) w:=by
 intro l W O atF Js Jp bp PN hO cJ hY;replace q1:=q1.keep (PN ba (.inl rfl));replace q2:=q2.keep (PN bf (.inr (.inl rfl)));replace q3:=q3.keep (PN bt (.inr (.inr (.inl rfl))));have Je:¬O bf:=λh=>hO bf h (.inr (.inl rfl));have UC:¬O bt:=λh=>hO bt h (.inr (.inr (.inl rfl)));have nOR:∀k,O k->¬R k:=λk h h'=>hO k h (.inr (.inr (.inr (.inl h'))));have Jf:∀k,O k->¬Eb k:=λk h h'=>hO k h (.inr (.inr (.inr (.inr h'))));have mM:∀k,R k->W.heap[k]?=w.heap[k]?:=λk h=>PN k (.inr (.inr (.inr (.inl h))));have hEE:∀k,Eb k->W.heap[k]?=w.heap[k]?:=λk h=>PN k (.inr (.inr (.inr (.inr h))));have HY:=H hY;have HC:=H hC;have HV:=H ib;clear hO PN hY hC ib;refine dr func223 rfl ?_;simp only[ntmps223,ρ,Α,Ω,ϧ,Ϧ,ό,ϋ,Ϟ,Ϙ,Ψ,Χ];refine bK λatH hK=>bQ ?_;gi_wp2_with fail;have r4:M (W.alloc (θ #[.func (.yield l) #[] #[]] 277)) W.heap.size [.func (.yield l) #[] #[]] 277:=M.new W [.func (.yield l) #[] #[]] 277;have al:Below W.heap.size W (W.alloc (θ #[.func (.yield l) #[] #[]] 277)):=(π _ _).alloc (μ _) _;have Ag:W.heap.size<(W.alloc (θ #[.func (.yield l) #[] #[]] 277)).heap.size:=by simp
 generalize W.alloc (θ #[.func (.yield l) #[] #[]] 277)=W2 at *
 have c1:=(q1.on al).cell (k:=0) rfl;refine bK λatH hK=>bQ ?_;gi_wp2_with fail;clear c1 q1;refine gB ?_;refine I5 (gf:=g) (lb:=lb) func223 ?g eg hit (by omega) (λk I=>(al.block k (by have:=mK k I;omega)).trans (mM k I)) (λk I=>by have:=mK k I;omega)
  O nOR (OJ O W atF atD) (Dz O W Js) (λc=>DX O W (Jp c)) ?ps ?start ?round ?done ?stop ?pan
 case g=>rfl
 case ps=>rintro xs ⟨ks,_,rfl⟩ x X;obtain⟨b,_,rfl⟩:=List.mem_map.1 X;rfl
 case start=>exact OJ.cL (λk I=>by have:=cJ.1 k I;omega) ⟨[],rfl,O,λk I=>I,λk I=>.inl I,λk I=>I,cJ.below al⟩
 case stop=>
  rintro c W4 ⟨X,D,cD,_,aG⟩ hs bI;have ef:ak O W (W4.putObj W2.heap.size (.deferred none)):=((ak.ar al).aM X).put (.inr (by omega)) _;have cK:¬D W2.heap.size:=λh=>(cD _ h).elim (λh=>by have:=cJ.1 _ h;omega) (by omega);obtain⟨rfl,D0,h⟩:=aG.out;have eY:=H ((h.put cK (.deferred none)).fin ef);clear h aG cD;gi_wp2_with fail;refine⟨by simp,.inl ⟨_,_,rfl,run_takeDeferred bI,?_⟩⟩;exact⟨_,results_none rfl _ _ _,.inl ⟨⟨_,rfl⟩,.inr eY.out⟩⟩
 case pan=>
  rintro c W4 ⟨X,D,cD,_,aG⟩ hs bI;have ef:ak O W (W4.putObj W2.heap.size (.deferred none)):=((ak.ar al).aM X).put (.inr (by omega)) _;have cK:¬D W2.heap.size:=λh=>(cD _ h).elim (λh=>by have:=cJ.1 _ h;omega) (by omega);obtain⟨D0,h⟩:=aG.out;refine⟨by simp,.inl ⟨_,_,rfl,run_takeDeferred bI,?_⟩⟩;exact .inr ⟨c,rfl,(h.put cK _).fin ef⟩
 case done=>
  rintro xs ⟨ks,cI,rfl⟩ W4 ⟨X,D,cD,_,aG⟩ hs bI;have ef:ak O W (W4.putObj W2.heap.size (.deferred none)):=((ak.ar al).aM X).put (.inr (by omega)) _;have cK:¬D W2.heap.size:=λh=>(cD _ h).elim (λh=>by have:=cJ.1 _ h;omega) (by omega);obtain⟨dK,he,D0,bq⟩:=aG.out;have pK:=G0 he;subst pK;refine⟨by simp,.inl ⟨_,_,rfl,run_takeDeferred bI,?_⟩⟩;exact⟨_,results_none rfl _ _ _,.inl ⟨⟨_,rfl⟩,.inl ⟨_,⟨ks,cI,rfl⟩,(bq.put cK _).fin ef⟩⟩⟩
 case round=>
  intro Ct i x X W4 D zq hs dV ep aG atH hK;obtain⟨dK,S,_⟩:=aG.out;subst S;obtain⟨gA,ks,cI,kC⟩:=X;obtain⟨k,ks2,rfl,rfl⟩:=I6 kC;obtain⟨iG,oG⟩:=HV.out _ cI k (by simp);have HCk:=H (HC.out _ cI k (by simp));clear kC HC HV;unfold fi;gi_wp2_with (first
   |(refine iu (λ_=>trivial) (λ_ h=>by cases h) rfl (jb rfl _ _) ?_;intro w6 zw tj cG)
   |(refine iw (λ_=>trivial) rfl rfl rfl rfl zw (by rw[iG];rfl) (by rw[iG];exact jk) oG ?_;intro w7 zx iJ))
  simp only[Act.put,Ο,Ϛ,ϙ];have rk:=M.new W4 [η k.kc,η k.ku] 207;have Am:Below W4.heap.size W4 (W4.alloc (θ #[η k.kc,η k.ku] 207)):=(π _ _).alloc (μ _) _;have hzk:(W4.alloc (θ #[η k.kc,η k.ku] 207)).heap.size=W4.heap.size+1:=by simp
  have eW:W4.alloc (.cells [η k.kc,η k.ku].toArray 207)=W4.alloc (θ #[η k.kc,η k.ku] 207):=rfl;rw[eW]at rk;clear eW;generalize W4.alloc (θ #[η k.kc,η k.ku] 207)=W5 at *
  rw[hzk]at zw tj cG zx iJ⊢;have LY:Below W4.heap.size W4 w7:=(Am.trans (cG.mono (by omega))).trans (iJ.below (by omega) (λk I=>by omega));have rk7:=(rk.on (cG.mono (by omega))).ex iJ (by omega);have hz7:=iJ.size;clear zw cG iJ rk Am;refine hK _ _ (λb=>D b\/b=W4.heap.size\/b=W4.heap.size+1) LY (λb U=>U.imp id λh=>by omega) (λb U=>.inl U) (λb U=>U.elim (λh=>by have:=aG.1 b h;omega) (λh=>by omega)) ?_;intro W8 uJ oe hs8 gj PH;obtain⟨r8,gj⟩:=gj;have q5:=rk7.keep (uJ _ (.inr (.inl rfl)));have q6:=zx.keep (uJ _ (.inr (.inr rfl)));have uK:=aG.on (W':=W8) λb U=>(uJ b (.inl U)).trans (LY.block b (aG.1 b U));have AE:∀b,D b\/b=W4.heap.size\/b=W4.heap.size+1->b<W8.heap.size:=λb U=>by
   rcases U with h|h|h
   ·exact uK.1 b h
   ·have:=q5.lt;omega
   have:=q6.lt;omega
  have mN:ak O W W8:=(ak.ar al).aM oe;obtain⟨aq1,S,D0,bq⟩:=uK.out;have pK:=G0 S;subst pK;replace bq:=bq.wide (D':=λb=>D b\/b=W4.heap.size\/b=W4.heap.size+1) λk I=>.inl I;clear hK uJ hit aG uK zx rk7 S;have y2:=(q2.aL mN Je).cell (k:=0) rfl;have y3:=(q3.aL mN UC).cell (k:=0) rfl;have z0:=q5.cell (k:=0) rfl;have z1:=q5.cell (k:=1) rfl;refine o9 ?_;refine xq λatH hK=>sH ?_;gi_wp2_with (refine KQ rfl rfl rfl q6 iG (λ_=>trivial) ?_);have An:∀b,Eb b->W8.heap[b]?=w.heap[b]?:=λb U=>(mN.block b (by have:=lQ b U;omega) (λh=>Jf b h U)).trans (hEE b U);refine(CallsIn.inRound _ (callsIn_wide.2 (HCk.out W8 (by omega) An))).mono ?_;rintro e W9 ⟨g2,lb2,R2,rfl,LZ,Fo,L0,sI⟩;have hz9:=sI.size;have aiK:W9.heap[W2.heap.size+1]?=some (.loop r8):=(sI.block _ (by omega)).trans gj;replace bq:=bq.below sI;replace mN:ak O W W9:=mN.aM (ak.ar sI);have r49:=(r4.aL (oe.aM (ak.ar sI)) (λh=>by have:=cJ.1 _ h;omega));clear y2 y3 z0 z1 HCk gj q5 q6 An;gi_wp2_with fail;refine o9 ?_;refine I4 (gf:=g2) (lb:=lb2) func223 ?ig L0 LZ.n (μ _) (λ_ _=>rfl) (λk I=>(Fo k I).1) aiK
   (λb=>D b\/b=W4.heap.size\/b=W4.heap.size+1) (λb U fk=>by
    rcases(Fo b fk).2 with h|h
    ·rcases U with U|U
     ·rcases ep b U with h'|h'
      ·exact Jf b h' h
      have:=lQ b h;omega
     have:=lQ b h;omega
    have:=AE b U;omega) (PF O W atF (dK.flatMap atD)) (Dz O W Js) (λc=>DX O W (Jp c)) ?ips ?istart ?iround ?idone ?istop ?ipan
  case ig=>rfl
  case ips=>rintro xs rfl x X;obtain⟨d,_,rfl⟩:=List.mem_map.1 X;rfl
  case istart=>exact PF.cL (λb U=>by have:=AE b U;omega) ⟨[],rfl,D0,by simpa using bq⟩
  case idone=>
   rintro xs rfl WA ⟨L3,DA,PO,PQ,oI⟩ hsA;obtain⟨es,he,UD,G5⟩:=oI.out;have pK:=uw he;subst pK;refine(show aN (λb=>D b\/b=W4.heap.size\/b=W4.heap.size+1) W8.heap.size (OJ O W atF atD (dK.map fi++[fi k])) W8 WA from ?_);refine⟨(ak.ar sI).aM L3,DA,λb U=>(PO b U).imp id λh=>by omega,PQ,OJ.cL oI.1 ⟨dK++[k],by simp,UD,?_⟩⟩;rw[ϭ,List.flatMap_singleton];exact G5
  case istop=>
   rintro c WA ⟨L3,DA,PO,PQ,oI⟩ hsA;obtain⟨rfl,UD,G5⟩:=oI.out;have eY:=H (show aN (λb=>D b\/b=W4.heap.size\/b=W4.heap.size+1) W8.heap.size (Dz O W Js .ret) W8 WA from⟨(ak.ar sI).aM L3,DA,λb U=>(PO b U).imp id λh=>by omega,PQ,Dz.cL oI.1 ⟨UD,G5⟩⟩);clear L3 PO PQ oI G5;refine sH ?_;gi_wp2_with fail;exact eY.out
  case ipan=>
   rintro c WA ⟨L3,DA,PO,PQ,oI⟩ hsA;obtain⟨UD,G5⟩:=oI.out;exact⟨rfl,(ak.ar sI).aM L3,DA,λb U=>(PO b U).imp id λh=>by omega,PQ,DX.cL oI.1 ⟨UD,G5⟩⟩
  case iround=>
   intro l2' pre x X WA DA L3 hsA aq2 aq3 oI atH hK;obtain⟨gA,Ys⟩:=X;obtain⟨es,nP,_⟩:=oI.out;subst nP;obtain⟨e,r,hXk,rfl⟩:=yo Ys;unfold di bA;gi_wp2_with fail;have fO:Below WA.heap.size WA (WA.alloc (θ (bA e).toArray 223)):=(π _ _).alloc (μ _) _;refine hK _ _ (λb=>DA b\/b=WA.heap.size) fO (λb U=>U.imp id λh=>by omega) (λb U=>.inl U) (λb U=>U.elim (λh=>by have:=oI.1 b h;simp;omega) (λh=>by simp;omega)) ?_;intro WB hkB hxB hsB hrB hnB;have q7:=(M.new WA (bA e) 223).keep (hkB _ (.inr rfl));have Yt:=oI.on (W':=WB) λb U=>(hkB b (.inl U)).trans (fO.block b (oI.1 b U));have hDB:∀b,DA b\/b=WA.heap.size->b<WB.heap.size:=λb U=>U.elim (Yt.1 b) (λh=>by have:=q7.lt;omega);have y4:=(r49.aL hxB (λh=>by
    rcases h with h|h
    ·rcases ep _ h with h'|h'
     ·have:=cJ.1 _ h';omega
     omega
    omega)).cell (k:=0) rfl
   obtain⟨x0,x1,x2,x3,x4⟩:=mv (e:=e) q7;obtain⟨es',nP,D0B,AF⟩:=Yt.out;have pK:=uw nP;subst pK;replace AF:=AF.wide (D':=λb=>DA b\/b=WA.heap.size) λk I=>.inl I;have afl:ak O W WB:=mN.trans hxB (λb U=>by
    rcases U with U|U
    ·rcases ep b U with h|h
     ·exact .inl h
     exact .inr (by omega)
    exact .inr (by omega))
   have hWB:W.heap.size<=WB.heap.size:=afl.size;obtain⟨EW,uz,EX,EY,gI,eE⟩:=HY.out (dF (dK.flatMap atD++es)) #[di e] ⟨dF (r++ks2.flatMap atD),_,cI,by
    rw[ϭ,List.flatMap_cons,hXk];simp only[yn,ϟ];rfl⟩ WB D0B afl AF.dO AF.Od AF.on
   unfold di bA at gI;clear hK hkB oI Yt LZ Fo;refine sH ?_;gi_wp2_with fail;refine(RoundIn.inRound _ eE).mono ?_;clear gI eE y4 x0 x1 x2 x3 x4;rintro e' WX (⟨rfl,J⟩|⟨rfl,J⟩|⟨ch,rfl,J⟩)
   all_goals
    obtain⟨eV,eh,mO,jj⟩:=AF.post hWB J;have eP:ak (λb=>DA b\/b=WA.heap.size) WB WX:=jj.mono (λb U=>.inl (AF.sub b U));have sy:∀b,(DA b\/b=WA.heap.size)\/eV b->b<WX.heap.size:=λb U=>U.elim (λh=>Nat.lt_of_lt_of_le (hDB b h) eP.size) (λh=>eh.on.1 b h);have Ly:∀b,(DA b\/b=WA.heap.size)\/eV b->(DA b\/b=WA.heap.size)\/WB.heap.size<=b:=λb U=>U.elim .inl λh=>(mO b h).elim (λh=>.inl (AF.sub b h)) .inr;clear J;gi_wp2_with fail
   ·exact⟨eP,_,Ly,λ_ I=>.inl I,PF.cL sy ⟨es++[e],by rw[yn];rfl,eV,by
     rw[<-ϟ,yn];exact eh⟩⟩
   ·exact⟨eP,_,Ly,λ_ I=>.inl I,Dz.cL sy ⟨eV,eh⟩⟩
   exact⟨rfl,eP,_,Ly,λ_ I=>.inl I,DX.cL sy ⟨eV,eh⟩⟩
end Go.Proofs.YthpndgcaoeokeaaGreatDoor
