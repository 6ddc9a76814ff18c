import Derived.Test.YtchdfdmjihnhkaaGreatDoorUq10
import Derived.Maps.RangeRun
set_option maxRecDepth 100000
set_option maxHeartbeats 16000000
open Go.IntKind renaming i64->Z
open Go.Value renaming int->V,pointer->ε,slice->ζ,string->η,oneCell'->Ε,ownBlock->ϭ
open Go.Ending renaming returned->δ
open Go.Obj renaming cells->θ
open Go.Lib renaming containsS->ι
open Go renaming World->κ,Oper->Ζ,MapEntry->Κ,Operand->Χ,Calls->ό,Act->ϝ,TypeId->Ϡ,Exit->À,Ending->Á
open Option.some renaming inj->μ
open Go.Result renaming andThen->ν
open Go.MapKept renaming run_getObj_map->ξ,run_setObj_map->Δ
open List renaming getElem?_eq_getElem->ο,getElem?_map->ρ,map_cons->τ,not_mem_nil->υ,take_succ_cons->ψ,drop_succ_cons->ω,mem_cons->Α,map_append->Β,range->Θ,length_cons->Ι,mem_of_getElem?->Λ,take_zero->Ξ,getElem?_append_right->Ο,filter_append->Ρ,drop_zero->Τ,size_toArray->Υ,length_map->Ψ,mem_map_of_mem->Ω,length_append->ϊ,cons_append->ύ,all_eq_true->ώ,nil_append->Ϗ,length_nil->ϗ,setIfInBounds_toArray->Ϙ,getD_eq_getElem?_getD->ϙ,getElem?_cons_succ->ϛ,filter_cons_of_neg->Ϝ,length->ϣ,getElem?_of_mem->Ϥ,append_toArray->Ϧ,set_cons_zero->ϧ,set_cons_succ->Ϩ,mem_singleton->ϩ,push_toArray->Ϫ,nodup_append->ϫ,take_length->Ϭ,mem_append->Ϯ,append_nil->ϯ,map_nil->Ϻ
open Nat renaming le_refl->π,le_trans->χ,reduceSub->Ϸ,reduceAdd->ϸ
open ByteArray renaming empty->φ,size_append->Φ
open Go.RowKit.Below renaming refl->Γ,heap_alloc->Η
open Go.Instr renaming mapUpdate->Μ,lookup->ϋ,fieldAt->Ϛ,loadAt->ϳ
open Go.Region renaming binds->Ν
open Go.World renaming cell?_of_block->Ϟ,alloc_heap_new->ϟ
open Array renaming replicate_zero->ϡ,replicate_succ->Ϣ,length_toList->ϥ
namespace Go.Proofs.YtchdfdmjihnhkaaGreatDoor
open Tryz
open Go.RowKit
section
open Go.Sort
attribute [local go_sem] Oper.semAt_some
attribute [local go_sem] bK aU
attribute [local simp] bK aU
structure KE where
 kc:ByteArray
 ku:ByteArray
 ev:List Value
def fj (k:KE):Array Value:=#[.agg #[η k.kc,η k.ku],.agg k.ev.toArray]
theorem Oz {x y:KE}(h:fj x=fj y):x=y:=by
 obtain⟨a,b,c⟩:=x;obtain⟨a',b',c'⟩:=y;unfold fj at h;simp at h;obtain⟨⟨G,A⟩,M⟩:=h;subst G A M;rfl
theorem Ga:∀{a b:List KE},a.map fj=b.map fj->a=b
 |[],[],_=>rfl
 |[],_::_,h=>by cases h
 |_::_,[],h=>by cases h
 |x::a,y::b,h=>by
  rw[τ,τ]at h;injection h with G A
  rw[Oz G,Ga A]
theorem Ih:∀{es fs:List KE} {x:Array Value} {gi:List (Array Value)},es.map fj++x::gi=fs.map fj->∃e r,fs=es++e::r/\x=fj e
 |[],[],_,_,h=>by cases h
 |[],e::r,_,_,h=>by
  have h':=List.cons.inj (show _::_=fj e::r.map fj from h);exact⟨e,r,rfl,h'.1⟩
 |_::_,[],_,_,h=>by cases h
 |a::es,b::fs,x,gi,h=>by
  have h':fj a::(es.map fj++x::gi)=fj b::fs.map fj:=h;injection h' with G A
  obtain⟨e,r,rfl,N⟩:=Ih A;exact⟨e,r,by rw[Oz G];rfl,N⟩
theorem J3 {F:Fence}{nF:Nat}{ops:Array Ζ}{rest:List Ζ}{o:Ζ}{a:ϝ}{w:κ}{Q:À->ϝ->κ->Prop}{x:Χ}{b:Nat}{EV:List Value}(hg:o.guard=none)(ho:o.op=.load 99 x)(N:a.eval x=ε (some ⟨b,0,none⟩))
 (aC:X w b EV 99)(K:EV.length=18)(hF:∀f,F.fn f)(hK:wpListIn F nF prog ops Q rest (a.put o.dst (.agg EV.toArray)) w):wpListIn F nF prog ops Q (o::rest) a w:=
 wpListIn_plain hg λaqy mv=>bz hF (by rw[ho];intro c hc;cases hc) (aV ho N (jL aC K)) (mv _ _ hK)
def OJ (O:ak)(W0:κ)(aqx:List (Array Value)->aQ)(aqw:KE->List aJ)(pre:List (Array Value)):aQ:=λD W=>∃ks:List KE,pre=ks.map fj/\DX O W0 (aqx (dz (ks.flatMap aqw))) D W
theorem OJ.cQ {O:ak}{W0:κ}{aqx:List (Array Value)->aQ}{aqw:KE->List aJ}{pre:List (Array Value)}{D:ak}{W:κ}(hD:∀k,D k->k<W.heap.size)(h:OJ O W0 aqx aqw pre D W):On D (OJ O W0 aqx aqw pre) W:=by
 obtain⟨ks,G,A⟩:=h;exact⟨hD,λW2 Y=>⟨ks,G,(DX.cQ hD A).2 W2 Y⟩⟩
def OA (O:ak)(W0:κ)(aqx:List (Array Value)->aQ)(aqp:List aJ)(pre:List (Array Value)):aQ:=λD W=>∃es:List aJ,pre=dz es/\DX O W0 (aqx (dz (aqp++es))) D W
theorem OA.cQ {O:ak}{W0:κ}{aqx:List (Array Value)->aQ}{aqp:List aJ}{pre:List (Array Value)}{D:ak}{W:κ}(hD:∀k,D k->k<W.heap.size)(h:OA O W0 aqx aqp pre D W):On D (OA O W0 aqx aqp pre) W:=by
 obtain⟨es,G,A⟩:=h;exact⟨hD,λW2 Y=>⟨es,G,(DX.cQ hD A).2 W2 Y⟩⟩
def Cr (O:ak)(W0:κ)(Js:aQ)(c:Code):aQ:=λD W=>c=.ret/\DX O W0 Js D W
theorem Cr.cQ {O:ak}{W0:κ}{Js:aQ}{D:ak}{W:κ}(hD:∀k,D k->k<W.heap.size)(h:DX O W0 Js D W):On D (Cr O W0 Js .ret) W:=⟨hD,λW2 Y=>⟨rfl,(DX.cQ hD h).2 W2 Y⟩⟩
end
section
open Go.Maps Go.ChangeMaps Go.WideElems Go.MapKept
theorem S1:(107:Ϡ)<prog.types.size:=of_decide_eq_true (by kernel_rfl)
theorem aa6:(match prog.underlying 107 with|some (.array _ _)|some (.struct _)=>true|_=>false)=true:=by rw[underlying107]
theorem aa7:WideMaps.KeyLaw prog 107:=deep_law_laid KS (m:=2) (by omega) S1 (by kernel_rfl) aa6
theorem mB:Keyed prog 107:=Keyed.of_law aa7
theorem aa8:prog.keyType 107=true:=by kernel_rfl
theorem Ww:prog.cellsOf 107=2:=by kernel_rfl
theorem S2:prog.cellsOf 9=1:=by kernel_rfl
def ic (c u:ByteArray):Value:=.agg #[η c,η u]
theorem aa9 {c u c' u':ByteArray}(h:ic c u=ic c' u'):c=c'/\u=u':=by unfold ic at h;simpa using h
theorem wL (c u:ByteArray)(hc:c.size<=maxLen)(hu:u.size<=maxLen):∃kl,keyOf prog 107 (ic c u)=some kl:=by
 unfold keyOf ic;obtain⟨k,Y⟩:=KT S1;rw[underlying107,aa8,Y];simp[Value.formed,underlying107,Ww,Value.cells,Program.keyLits,S2,underlying9,hc,hu]
def cS (c u:ByteArray)(k:KE):Bool:=decide (k.kc=c)&&decide (k.ku=u)
theorem eA {c u:ByteArray}{k:KE}:cS c u k=true↔k.kc=c/\k.ku=u:=by unfold cS;simp
def wM (k:KE):Prop:=k.kc.size<=maxLen/\k.ku.size<=maxLen
def jf (w:κ)(b:Nat)(ks:List KE):Prop:=
 ∃(es:Array Κ) (clock:Nat),w.heap[b]?=some (.map es clock)/\es.toList.map (λe=>#[e.key,e.val])=ks.map fj/\(∀x∈es.toList,x.born<clock)/\(es.toList.map (·.born)).Nodup/\ks.Pairwise (λx y=>cS x.kc x.ku y=false)/\∀k∈ks,wM k
theorem jf.lt {w:κ}{b:Nat}{ks:List KE}(h:jf w b ks):b<w.heap.size:=by obtain⟨es,cl,h,_⟩:=h;exact(Array.getElem?_eq_some_iff.1 h).1
theorem jf.keep {w I:κ}{b:Nat}{ks:List KE}(h:jf w b ks)(e:I.heap[b]?=w.heap[b]?):jf I b ks:=by
 obtain⟨es,cl,h,r⟩:=h;exact⟨es,cl,e.trans h,r⟩
theorem jf.made (w:κ):jf (w.alloc (.map #[] 0)) w.heap.size []:=⟨#[],0,ϟ w _,rfl,by simp,by simp,List.Pairwise.nil,by simp⟩
theorem KU {es:List Κ}{ks:List KE}(h:es.map (λe=>#[e.key,e.val])=ks.map fj){i:Nat}{e:Κ}(he:es[i]?=some e):∃k,ks[i]?=some k/\e.key=ic k.kc k.ku/\e.val=.agg k.ev.toArray:=by
 have G:(es.map (λe=>#[e.key,e.val]))[i]?=some #[e.key,e.val]:=by rw[ρ,he];rfl
 rw[h,ρ]at G;cases Y:ks[i]?with
 |none=>rw[Y]at G;cases G
 |some k=>
  rw[Y]at G;have A:fj k=#[e.key,e.val]:=μ G;unfold fj at A;simp at A;exact⟨k,rfl,A.1.symm,A.2.symm⟩
theorem ac0 {es:List Κ}{ks:List KE}(h:es.map (λe=>#[e.key,e.val])=ks.map fj){e:Κ}(he:e∈es):∃k∈ks,e.key=ic k.kc k.ku/\e.val=.agg k.ev.toArray:=by
 obtain⟨i,hi⟩:=Ϥ he;obtain⟨k,Y,r⟩:=KU h hi;exact⟨k,Λ Y,r⟩
theorem Wx {es:List Κ}{ks:List KE}(h:es.map (λe=>#[e.key,e.val])=ks.map fj)(hs:∀k∈ks,wM k):∀e∈es,∃l,keyOf prog 107 e.key=some l:=by
 intro e he;obtain⟨k,Y,G,_⟩:=ac0 h he;rw[G];exact wL _ _ (hs k Y).1 (hs k Y).2
def bZ (c u:ByteArray)(ks:List KE):Option KE:=ks.find? (cS c u)
theorem Wy {ks:List KE}(hd:ks.Pairwise (λx y=>cS x.kc x.ku y=false)){i:Nat}{k:KE}(hi:ks[i]?=some k):bZ k.kc k.ku ks=some k:=by
 unfold bZ;rw[List.find?_eq_some_iff_getElem];obtain⟨K,Y⟩:=List.getElem?_eq_some_iff.1 hi;refine⟨eA.2 ⟨rfl,rfl⟩,i,K,Y,λj hj=>?_⟩;have:=List.pairwise_iff_getElem.1 hd j i (by omega) K hj;rw[Y]at this;cases hs:cS k.kc k.ku ks[j]
 ·rfl
 obtain⟨S,e2⟩:=eA.1 hs;rw[eA.2 ⟨S.symm,e2.symm⟩]at this;cases this
theorem xL {c u:ByteArray}{ks:List KE}:bZ c u ks=none↔∀k∈ks,cS c u k=false:=by
 unfold bZ;rw[List.find?_eq_none];simp
theorem jf.find {w:κ}{b:Nat}{ks:List KE}(h:jf w b ks)(c u:ByteArray)(hc:c.size<=maxLen)(hu:u.size<=maxLen):
 ∃es clock,w.heap[b]?=some (.map es clock)/\es.toList.map (λe=>#[e.key,e.val])=ks.map fj/\(∀x∈es.toList,x.born<clock)/\(es.toList.map (·.born)).Nodup/\
 (((Instr.findKey 107 (ic c u) es.toList).run prog w=.ok none w/\bZ c u ks=none)\/
  ∃j k e,(Instr.findKey 107 (ic c u) es.toList).run prog w=.ok (some (j,.agg k.ev.toArray)) w/\bZ c u ks=some k/\ks[j]?=some k/\es.toList[j]?=some e/\e.key=ic c u/\k.kc=c/\k.ku=u):=by
 obtain⟨es,cl,U,he,G,A,M,h4⟩:=h;obtain⟨kl,ie⟩:=wL c u hc hu;refine⟨es,cl,U,he,G,A,?_⟩;rcases mB.find w ie es.toList (Wx he h4)with⟨f1,f2⟩|⟨j,e,f1,f2,f3⟩
 ·refine .inl ⟨f1,xL.2 λk Y=>?_⟩;cases hs:cS c u k
  ·rfl
  obtain⟨S,e2⟩:=eA.1 hs;obtain⟨i,hi⟩:=Ϥ Y;have K:i<es.toList.length:=by
   have:=congrArg ϣ he;simp only[Ψ]at this;rw[this];exact(List.getElem?_eq_some_iff.1 hi).1
  obtain⟨k',bV,e3,_⟩:=KU he (ο K);rw[hi]at bV;cases bV;exact absurd (e3.trans (by rw[S,e2])) (f2 _ (List.getElem_mem K))
 obtain⟨k,Y,S,e2⟩:=KU he f2;obtain⟨g1,g2⟩:=aa9 (S.symm.trans f3);subst g1 g2;rw[e2]at f1;exact .inr ⟨j,k,e,f1,Wy M Y,Y,f2,f3,rfl,rfl⟩
theorem oA:prog.underlying 65=some (.map 107 99):=underlying65
def ev0:List Value:=[η φ,V Z 0,V Z 0,.bool false,V Z 0,V Z 0,V Z 0,V Z 0,ζ none 0 0,ζ none 0 0,ζ none 0 0,ζ none 0 0,V Z 0,η φ,ζ none 0 0,ζ none 0 0,.bool false,V Z 0]
theorem jf.look {w:κ}{b:Nat}{ks:List KE}(h:jf w b ks)(c u:ByteArray)(hc:c.size<=maxLen)(hu:u.size<=maxLen):
 (ϋ 65 (.map (some b)) (ic c u) true).run prog w=.ok (.tuple #[.agg (((bZ c u ks).map KE.ev).getD ev0).toArray,.bool (bZ c u ks).isSome]) w:=by
 obtain⟨kl,ie⟩:=wL c u hc hu;obtain⟨es,cl,U,he,G,A,⟨f1,f2⟩|⟨j,k,e,f1,f2,f3,f4,f5,f6⟩⟩:=h.find c u hc hu
 ·rw[f2];simp[ϋ,run_underlying oA,ξ U,mB.check w _ ie,f1,ν];rfl
 rw[f2];simp[ϋ,run_underlying oA,ξ U,mB.check w _ ie,f1,ν]
theorem jf.len {w:κ}{b:Nat}{ks:List KE}(h:jf w b ks)(ty:Ϡ):(Builtin.len_ #[65] ty #[.map (some b)]).run prog w=.ok (V Z ks.length) w:=by
 obtain⟨es,cl,U,he,_⟩:=h;have:=congrArg ϣ he;simp only[Ψ]at this;rw[<-this];simp[Builtin.len_,run_underlying oA,ξ U,goInt,ν]
def nX (k:KE)(ks:List KE):List KE:=if(bZ k.kc k.ku ks).isSome then ks.map λx=>if cS k.kc k.ku x then k else x else ks++[k]
def ug (c u:ByteArray)(ks:List KE):List KE:=ks.filter λx=>!cS c u x
theorem tc (x y:KE):cS x.kc x.ku y=cS y.kc y.ku x:=by
 cases h:cS x.kc x.ku y
 ·cases h':cS y.kc y.ku x
  ·rfl
  obtain⟨a,b⟩:=eA.1 h';rw[eA.2 ⟨a.symm,b.symm⟩]at h;cases h
 obtain⟨a,b⟩:=eA.1 h;exact(eA.2 ⟨a.symm,b.symm⟩).symm
theorem ago {ks:List KE}(hd:ks.Pairwise (λx y=>cS x.kc x.ku y=false)){j:Nat}{k:KE}(hj:ks[j]?=some k){i:Nat}{x:KE}(hi:ks[i]?=some x):cS k.kc k.ku x=decide (i=j):=by
 obtain⟨G,A⟩:=List.getElem?_eq_some_iff.1 hj;obtain⟨M,h4⟩:=List.getElem?_eq_some_iff.1 hi;rcases Nat.lt_trichotomy i j with h|h|h
 ·have:=List.pairwise_iff_getElem.1 hd i j M G h;rw[A,h4,tc]at this;rw[this];simp;omega
 ·subst h;rw[hi]at hj;cases hj;rw[eA.2 ⟨rfl,rfl⟩];simp
 have:=List.pairwise_iff_getElem.1 hd j i G M h;rw[A,h4]at this;rw[this];simp;omega
theorem KV {ks:List KE}(hd:ks.Pairwise (λx y=>cS x.kc x.ku y=false)){j:Nat}{k k':KE}(hj:ks[j]?=some k)(S:k'.kc=k.kc)(e2:k'.ku=k.ku):(ks.map λx=>if cS k'.kc k'.ku x then k' else x)=ks.set j k':=by
 apply List.ext_getElem?;intro i;rw[ρ,List.getElem?_set];cases hi:ks[i]?with
 |none=>
  have:ks.length<=i:=List.getElem?_eq_none_iff.1 hi;have K:=(List.getElem?_eq_some_iff.1 hj).1;rw[if_neg (by omega)];rfl
 |some x=>
  have K:=(List.getElem?_eq_some_iff.1 hj).1;rw[Option.map_some,S,e2,ago hd hj hi];by_cases h:i=j
  ·subst h;simp[K]
  rw[if_neg (c:=j=i) (λe=>h e.symm),decide_eq_false h];simp
theorem QL {ks:List KE}(hd:ks.Pairwise (λx y=>cS x.kc x.ku y=false)){j:Nat}{k:KE}(hj:ks[j]?=some k):ug k.kc k.ku ks=ks.eraseIdx j:=by
 unfold ug
 induction ks generalizing j with
 |nil=>cases hj
 |cons y ks ih=>
  obtain⟨G,A⟩:=List.pairwise_cons.1 hd;cases j with
  |zero=>
   rw[List.getElem?_cons_zero]at hj;cases hj;rw[Ϝ (by simp[eA.2]),List.eraseIdx_cons_zero];exact List.filter_eq_self.2 λx N=>by rw[G x N];rfl
  |succ j=>
   rw[ϛ]at hj;have:=G k (Λ hj);rw[tc]at this;rw[List.filter_cons_of_pos (by rw[this];rfl),List.eraseIdx_cons_succ,ih A hj]
theorem ac2 {ks:List KE}(hd:ks.Pairwise (λx y=>cS x.kc x.ku y=false)){j:Nat}{k k':KE}(hj:ks[j]?=some k)(S:k'.kc=k.kc)(e2:k'.ku=k.ku):(ks.set j k').Pairwise (λx y=>cS x.kc x.ku y=false):=by
 rw[<-KV hd hj S e2];rw[List.pairwise_map];refine hd.imp λ{x y} h=>?_;have f:∀z:KE,(if cS k'.kc k'.ku z then k' else z).kc=z.kc/\(if cS k'.kc k'.ku z then k' else z).ku=z.ku:=by
  intro z;by_cases hz:cS k'.kc k'.ku z=true
  ·rw[if_pos hz];exact⟨(eA.1 hz).1.symm,(eA.1 hz).2.symm⟩
  rw[if_neg hz];exact⟨rfl,rfl⟩
 rw[(f x).1,(f x).2];have f2:∀(c u:ByteArray) (z:KE),cS c u (if cS k'.kc k'.ku z then k' else z)=cS c u z:=by
  intro c u z;show(decide (_=c)&&decide (_=u))=(decide (_=c)&&decide (_=u));rw[(f z).1,(f z).2]
 rw[f2];exact h
theorem abb {ks:List KE}(hd:ks.Pairwise (λx y=>cS x.kc x.ku y=false)){k:KE}(hf:bZ k.kc k.ku ks=none):(ks++[k]).Pairwise (λx y=>cS x.kc x.ku y=false):=
 List.pairwise_append.2 ⟨hd,List.pairwise_singleton _ _,λx N y hy=>by rw[List.mem_singleton.1 hy,tc];exact xL.1 hf x N⟩
theorem mC (w:κ)(b:Nat)(o:Obj):aj (λk=>k=b) w (setBlock w b o):=⟨rfl,rfl,rfl,by simp[setBlock],λk _ Y=>by
 show(w.heap.setIfInBounds b o)[k]?=_;rw[Array.getElem?_setIfInBounds_ne (λe=>Y e.symm)]⟩
theorem jf.put {w:κ}{b:Nat}{ks:List KE}(h:jf w b ks)(k:KE)(Y:wM k):
 ∃I,(Μ 65 (.map (some b)) (ic k.kc k.ku) (.agg k.ev.toArray)).run prog w=.ok () I/\jf I b (nX k ks)/\aj (λx=>x=b) w I:=by
 obtain⟨kl,ie⟩:=wL k.kc k.ku Y.1 Y.2;have hd:ks.Pairwise (λx y=>cS x.kc x.ku y=false)/\∀k∈ks,wM k:=by obtain⟨_,_,_,_,_,_,a,b⟩:=h;exact⟨a,b⟩
 obtain⟨es,cl,U,he,G,A,⟨f1,f2⟩|⟨j,k0,e,f1,f2,f3,f4,f5,f6,f7⟩⟩:=h.find k.kc k.ku Y.1 Y.2
 ·have jy:(Μ 65 (.map (some b)) (ic k.kc k.ku) (.agg k.ev.toArray)).run prog w=.ok () (setBlock w b (.map (es.push ⟨ic k.kc k.ku,.agg k.ev.toArray,cl⟩) (cl+1))):=by
   simp[Μ,run_underlying oA,ξ U,mB.check w false ie,f1,Δ _ U,ν,setBlock]
  refine⟨_,jy,⟨_,_,heap_setBlock_same U _,?_,?_,?_,?_,?_⟩,mC _ _ _⟩
  ·unfold nX;rw[f2];simp[he,fj,ic]
  ·intro x N;simp only[Array.toList_push,Ϯ,ϩ]at N;rcases N with N|rfl
   ·have:=G x N;omega
   simp
  ·simp only[Array.toList_push,Β,τ,Ϻ];rw[ϫ];refine⟨A,by simp,λx N y hy=>?_⟩;obtain⟨z,hz,rfl⟩:=List.mem_map.1 N;have:=G z hz;rw[List.mem_singleton.1 hy];omega
  ·unfold nX;rw[f2];exact abb hd.1 f2
  unfold nX;rw[f2];intro x N;rcases List.mem_append.1 N with N|N
  ·exact hd.2 x N
  rw[List.mem_singleton.1 N];exact Y
 have hj:es[j]?=some e:=by simpa using f4
 have ql:(es.modify j λe=>{e with key:=ic k.kc k.ku,val:=.agg k.ev.toArray}).toList=es.toList.set j ⟨ic k.kc k.ku,.agg k.ev.toArray,e.born⟩:=by
  rw[Array.toList_modify,modify_eq_set _ _ _ _ f4]
 have jy:(Μ 65 (.map (some b)) (ic k.kc k.ku) (.agg k.ev.toArray)).run prog w=.ok () (setBlock w b (.map (es.modify j λe=>{e with key:=ic k.kc k.ku,val:=.agg k.ev.toArray}) cl)):=by
  simp[Μ,run_underlying oA,ξ U,mB.check w false ie,f1,hj,f5,mB.stays w ie,Δ _ U,ν,setBlock]
 have J:nX k ks=ks.set j k:=by
  unfold nX;rw[f2];exact KV hd.1 f3 f6.symm f7.symm
 refine⟨_,jy,⟨_,_,heap_setBlock_same U _,?_,?_,?_,?_,?_⟩,mC _ _ _⟩
 ·rw[ql,J,List.map_set,he,List.map_set];rfl
 ·intro x N;rw[ql]at N;rcases List.mem_or_eq_of_mem_set N with N|rfl
  ·exact G x N
  exact G e (Λ f4)
 ·have:((es.toList.set j ⟨ic k.kc k.ku,.agg k.ev.toArray,e.born⟩).map (·.born))=es.toList.map (·.born):=by
   rw[List.map_set];exact set_self _ _ _ (by rw[ρ,f4];rfl)
  rw[ql,this];exact A
 ·rw[J];exact ac2 hd.1 f3 f6.symm f7.symm
 rw[J];intro x N;rcases List.mem_or_eq_of_mem_set N with N|rfl
 ·exact hd.2 x N
 exact Y
theorem jf.del {w:κ}{b:Nat}{ks:List KE}(h:jf w b ks)(c u:ByteArray)(hc:c.size<=maxLen)(hu:u.size<=maxLen)(ty:Ϡ):
 ∃I,(Builtin.delete_ #[65,107] ty #[.map (some b),ic c u]).run prog w=.ok (.tuple #[]) I/\jf I b (ug c u ks)/\aj (λx=>x=b) w I:=by
 obtain⟨kl,ie⟩:=wL c u hc hu;have hd:ks.Pairwise (λx y=>cS x.kc x.ku y=false)/\∀k∈ks,wM k:=by obtain⟨_,_,_,_,_,_,a,b⟩:=h;exact⟨a,b⟩
 obtain⟨es,cl,U,he,G,A,⟨f1,f2⟩|⟨j,k0,e,f1,f2,f3,f4,f5,f6,f7⟩⟩:=h.find c u hc hu
 ·refine⟨setBlock w b (.map es cl),?_,⟨es,cl,heap_setBlock_same U _,?_,G,A,?_,?_⟩,mC _ _ _⟩
  ·simp[Builtin.delete_,run_underlying oA,ξ U,mB.check w _ ie,f1,Δ _ U,ν,setBlock]
  all_goals
   have:ug c u ks=ks:=List.filter_eq_self.2 λx N=>by rw[xL.1 f2 x N];rfl
   rw[this]
  ·exact he
  ·exact hd.1
  exact hd.2
 subst f6 f7;have hj:j<es.size:=by simpa using(List.getElem?_eq_some_iff.1 f4).1
 have K:(es.eraseIdxIfInBounds j).toList=es.toList.eraseIdx j:=by simp
 refine⟨setBlock w b (.map (es.eraseIdxIfInBounds j) cl),?_,⟨es.eraseIdxIfInBounds j,cl,heap_setBlock_same U _,?_,?_,?_,?_,?_⟩,mC _ _ _⟩
 ·simp[Builtin.delete_,run_underlying oA,ξ U,mB.check w _ ie,f1,Δ _ U,ν,setBlock]
 ·rw[K,QL hd.1 f3,map_eraseIdx,he,map_eraseIdx]
 ·rw[K];intro x N;exact G x (List.mem_of_mem_eraseIdx N)
 ·rw[K,map_eraseIdx];exact A.sublist (List.eraseIdx_sublist _ _)
 ·exact hd.1.filter _
 intro x N;exact hd.2 x (List.mem_filter.1 N).1
def nk (w:κ)(b r:Nat)(ks done left:List KE):Prop:=
 ∃(es:Array Κ) (clock:Nat) (seen:Array Nat),w.heap[b]?=some (.map es clock)/\w.heap[r]?=some (.mapIter (some b) clock seen clock)/\es.toList.map (λe=>#[e.key,e.val])=ks.map fj/\(∀x∈es.toList,x.born<clock)/\(es.toList.map (·.born)).Nodup/\
  (leftOf es seen).toList.map (λe=>#[e.key,e.val])=left.map fj/\(done++left).Perm ks
theorem nk.keep {w I:κ}{b r:Nat}{ks done left:List KE}(h:nk w b r ks done left)(S:I.heap[b]?=w.heap[b]?)(e2:I.heap[r]?=w.heap[r]?):nk I b r ks done left:=by
 obtain⟨es,cl,seen,G,A,M⟩:=h;exact⟨es,cl,seen,S.trans G,e2.trans A,M⟩
theorem nk.lt {w:κ}{b r:Nat}{ks done left:List KE}(h:nk w b r ks done left):b<w.heap.size/\r<w.heap.size/\b≠r:=by
 obtain⟨es,cl,seen,G,A,M⟩:=h;refine⟨(Array.getElem?_eq_some_iff.1 G).1,(Array.getElem?_eq_some_iff.1 A).1,?_⟩;rintro rfl;rw[G]at A;cases A
theorem nk.perm {w:κ}{b r:Nat}{ks done left:List KE}(h:nk w b r ks done left):(done++left).Perm ks:=by obtain⟨_,_,_,_,_,_,_,_,_,h⟩:=h;exact h
theorem jf.range {w:κ}{b:Nat}{ks:List KE}(h:jf w b ks):
 ∃o,(Instr.range 65 (.map (some b))).run prog w=.ok (ε (some ⟨w.heap.size,0,none⟩)) (w.alloc o)/\nk (w.alloc o) b w.heap.size ks [] ks:=by
 have aR:=h.lt;obtain⟨es,cl,U,he,G,A,M,h4⟩:=h;refine⟨.mapIter (some b) cl #[] cl,run_range_map w _ _ _ b es cl oA U,es,cl,#[],(Η _ _ _ aR).trans U,ϟ w _,he,G,A,?_,by simp⟩;have:leftOf es #[]=es:=by simp[leftOf]
 rw[this];exact he
theorem Nw {es:Array Κ}{seen:Array Nat}{e:Κ}(hn:(es.toList.map (·.born)).Nodup)(he:e∈(leftOf es seen).toList):
 ∃l1 l2,(leftOf es seen).toList=l1++e::l2/\(leftOf es (seen.push e.born)).toList=l1++l2:=by
 have S:(leftOf es (seen.push e.born)).toList=(leftOf es seen).toList.filter (λx=>x.born !=e.born):=by
  unfold leftOf;rw[Array.toList_filter,Array.toList_filter,List.filter_filter];apply List.filter_congr;intro x _;rw[Array.contains_push];cases seen.contains x.born<;>cases U:(x.born==e.born)<;>simp_all
 have e2:((leftOf es seen).toList.map (·.born)).Nodup:=by
  unfold leftOf;rw[Array.toList_filter];exact hn.sublist (List.filter_sublist.map _)
 obtain⟨l1,l2,K⟩:=List.append_of_mem he;refine⟨l1,l2,K,?_⟩;rw[S,K];rw[K,Β,τ,ϫ,List.nodup_cons]at e2;rw[Ρ,Ϝ (by simp)];congr 1
 ·refine List.filter_eq_self.2 λx N=>?_;have:=e2.2.2 x.born (Ω N) e.born (by simp);simpa using this
 refine List.filter_eq_self.2 λx N=>?_;have:e.born≠x.born:=λh=>e2.2.1.1 (h▸Ω N);simpa using λh=>this h.symm
theorem S3 {l1 l2:List Κ}{e:Κ}{ks:List KE}(h:(l1++e::l2).map (λe=>#[e.key,e.val])=ks.map fj):
 ∃k k1 k2,ks=k1++k::k2/\e.key=ic k.kc k.ku/\e.val=.agg k.ev.toArray/\l1.map (λe=>#[e.key,e.val])=k1.map fj/\l2.map (λe=>#[e.key,e.val])=k2.map fj:=by
 induction l1 generalizing ks with
 |nil=>
  cases ks with
  |nil=>cases h
  |cons k k2=>
   simp only[Ϗ,τ,List.cons.injEq]at h;obtain⟨G,A⟩:=h;unfold fj at G;simp at G;exact⟨k,[],k2,rfl,G.1,G.2,rfl,A⟩
 |cons y l1 ih=>
  cases ks with
  |nil=>cases h
  |cons k0 ks=>
   simp only[ύ,τ,List.cons.injEq]at h;obtain⟨G,A⟩:=h;obtain⟨k,k1,k2,rfl,a,b,c,d⟩:=ih A;exact⟨k,k0::k1,k2,rfl,a,b,by rw[τ,τ,G,c],d⟩
theorem nk.next {w:κ}{b r:Nat}{ks done left:List KE}(h:nk w b r ks done left)(ty:Ϡ):
 (left=[]/\(Instr.next (ε (some ⟨r,0,none⟩)) false ty).run prog w=.ok (.tuple #[.bool false]) w)\/
 ∃k k1 k2 I,left=k1++k::k2/\(Instr.next (ε (some ⟨r,0,none⟩)) false ty).run prog w=.ok (.tuple #[.bool true,ic k.kc k.ku,.agg k.ev.toArray]) I/\nk I b r ks (done++[k]) (k1++k2)/\
  (Instr.entry (ε (some ⟨r,0,none⟩))).run prog I=.ok (.tuple #[ic k.kc k.ku,.agg k.ev.toArray]) I/\aj (λx=>x=r) w I/\I.heap.size=w.heap.size:=by
 have dp:=h.lt.2.2;obtain⟨es,cl,seen,U,hr,he,G,A,M,h4⟩:=h;rcases run_next_at (P:=prog) w ty r b cl cl seen es cl hr U G (π _)with⟨h0,jy⟩|⟨e,hem,w1,Zs,jy⟩
 ·left;have:left.length=0:=by
   have:=congrArg ϣ M;simp only[Ψ,ϥ]at this;omega
  exact⟨List.length_eq_zero_iff.1 this,jy⟩
 right;obtain⟨l1,l2,K,vk⟩:=Nw A hem;rw[K]at M;obtain⟨k,k1,k2,rfl,S,e2,e3,e4⟩:=S3 M;have ez:w1.heap[r]?=some (.mapIter (some b) cl seen cl):=by rcases Zs with rfl|rfl<;>exact hr
 have ay:w1.heap[b]?=some (.map es cl):=by rcases Zs with rfl|rfl<;>exact U
 have ql:=heap_set (o':=.mapIter (some b) cl (seen.push e.born) cl) ez;have fA:(setBlock w1 r (.mapIter (some b) cl (seen.push e.born) cl)).heap[b]?=some (.map es cl):=(ql.2 b dp).trans ay;have N:aj (λx=>x=r) w w1:=by
  rcases Zs with rfl|rfl
  ·exact aj.refl _ _
  exact⟨rfl,rfl,rfl,π _,λ_ _ _=>rfl⟩
 refine⟨k,k1,k2,_,rfl,by rw[jy,S,e2],⟨es,cl,seen.push e.born,fA,ql.1,he,G,A,?_,?_⟩,?_,?_,?_⟩
 ·rw[vk,Β,e3,e4,Β]
 ·refine List.Perm.trans ?_ h4;rw[List.append_assoc];exact List.Perm.append_left _ (List.perm_middle (a:=k) (l₁:=k1) (l₂:=k2)).symm
 ·rw[run_entry_at _ r b cl seen es cl e ql.1 fA (mem_left hem).1 A,S,e2]
 ·exact N.aK (mC _ _ _)
 rcases Zs with rfl|rfl<;>simp[setBlock]
end
section
open Go.Sort
attribute [local go_sem] Oper.semAt_some
theorem Zt {F:Fence}{nF:Nat}{ops:Array Ζ}{rest:List Ζ}{o:Ζ}{a:ϝ}{w:κ}{Q:À->ϝ->κ->Prop}{x:Χ}{b:Nat}{ks:List KE}(hg:o.guard=none)(ho:o.op=.range 65 x)(N:a.eval x=.map (some b))
 (h:jf w b ks)(hF:∀f,F.fn f)(hK:∀I,nk I b w.heap.size ks [] ks->Below w.heap.size w I->I.heap.size=w.heap.size+1->wpListIn F nF prog ops Q rest (a.put o.dst (ε (some ⟨w.heap.size,0,none⟩))) I):wpListIn F nF prog ops Q (o::rest) a w:=by
 obtain⟨ob,hr,hm⟩:=h.range;refine wpListIn_plain hg λaqy mv=>bz hF (by rw[ho];intro c hc;cases hc) (v:=ε (some ⟨w.heap.size,0,none⟩)) (I:=w.alloc ob) ?_ (mv _ _ (hK _ hm ((Γ _ _).alloc (π _) _) (by simp)));simp[execOp,ho,N,hr,ν]
theorem Zu {F:Fence}{nF:Nat}{ops:Array Ζ}{rest:List Ζ}{o:Ζ}{a:ϝ}{w:κ}{Q:À->ϝ->κ->Prop}{x:Χ}{b r:Nat}{ks done left:List KE}(hg:o.guard=none)(ho:o.op=.next x false)(N:a.eval x=ε (some ⟨r,0,none⟩))
 (h:nk w b r ks done left)(hF:∀f,F.fn f)(hK0:left=[]->wpListIn F nF prog ops Q rest (a.put o.dst (.tuple #[.bool false])) w)
 (hK:∀k k1 k2 I,left=k1++k::k2->nk I b r ks (done++[k]) (k1++k2)->(Instr.entry (ε (some ⟨r,0,none⟩))).run prog I=.ok (.tuple #[ic k.kc k.ku,.agg k.ev.toArray]) I->aj (λx=>x=r) w I->Hid (I.heap.size=w.heap.size)->
  wpListIn F nF prog ops Q rest (a.put o.dst (.tuple #[.bool true,ic k.kc k.ku,.agg k.ev.toArray])) I):wpListIn F nF prog ops Q (o::rest) a w:=by
 rcases h.next o.type with⟨h0,hr⟩|⟨k,k1,k2,I,G,hr,A,M,h4,h5⟩
 ·refine wpListIn_plain hg λaqy mv=>bz hF (by rw[ho];intro c hc;cases hc) (v:=.tuple #[.bool false]) (I:=w) ?_ (mv _ _ (hK0 h0));simp[execOp,ho,N,hr,ν]
 refine wpListIn_plain hg λaqy mv=>bz hF (by rw[ho];intro c hc;cases hc) (v:=.tuple #[.bool true,ic k.kc k.ku,.agg k.ev.toArray]) (I:=I) ?_ (mv _ _ (hK k k1 k2 I G A M h4 (H h5)));simp[execOp,ho,N,hr,ν]
def aka:List Value:=[η φ,η φ]
theorem qR {o:Ζ}(ho:o.op=.alloc 107)(a:ϝ)(w:κ):(execOp a.eval o).run prog w=.ok (.value (ε (some ⟨w.heap.size,0,none⟩))) (w.alloc (θ aka.toArray 107)):=by
 obtain⟨_,_,_,_,_,_⟩:=o;simp only[]at ho;subst ho;kernel_rfl
theorem A3:(prog.info? 107).map (·.size)=some 2:=by kernel_rfl
def ac3 (ks:List KE)(xs:List (Array Value)):Prop:=∃dI:List KE,dI.Perm ks/\xs=dI.map fj
theorem QM (ks:List KE)(b bm:Nat)(w:κ)(hm:jf w b ks)(hq:X w bm [.map (some b)] 65)(gu:∀k∈ks,k.ev.length=18/\∀v∈k.ev,v.oneCell'=true):
 pQ prog 108 #[ε (some ⟨bm,0,none⟩)] (ac3 ks) (λk=>k=bm\/k=b) w:=by
 intro l W O aqx Js Jp bA hR hO cM hY;replace hm:=hm.keep (hR b (.inr rfl));replace hq:=hq.keep (hR bm (.inl rfl));have nOb:¬O b:=λh=>hO b h (.inr rfl);have hlb:=hm.lt;have HV:=H gu;clear hR hO gu;refine callsIn_of_wp func108 rfl trivial ?_ rfl;simp only[ntmps108,Υ,Ι,ϗ,ϸ,Ϸ,Ϣ,ϡ,Ϫ,Ϧ,Ϗ,ύ];have c0:=hq.cell (k:=0) rfl;gi_wp2_with (refine Zt rfl rfl rfl hm (λ_=>trivial) ?_;intro W0 hrg bj S4);simp only[Act.put,Ϙ,Ϩ,ϧ];clear c0 hq hm;have akb:=H S4;clear S4;gi_loopg [] ks.length (λn wr=>∃(done left:List KE) (D:ak),left.length=n/\nk wr b W.heap.size ks done left/\aj O W wr/\¬D W.heap.size/\¬D b/\(∀k,D k->O k\/W.heap.size<=k)/\(∀k,O k->D k)/\On D (aqx (done.map fj)) wr)
 case atStart=>
  exact⟨[],ks,O,rfl,hrg,aj.aq bj,λh=>by have:=cM.1 _ h;omega,nOb,λ_ h=>.inl h,λ_ h=>h,cM.below bj⟩
 case round=>
  obtain⟨done,left,D,hlen,hr,N,Ii,uh,eh,dT,aG⟩:=hrel;have yQ:=N.size;gi_wp2_with (refine Zu rfl rfl rfl hr (λ_=>trivial) ?_ ?_)
  ·intro h0;subst h0;have J:=hr.perm;rw[ϯ]at J;gi_wp2_with fail;go_end0;exact .inl ⟨⟨_,rfl⟩,.inl ⟨_,⟨done,J,rfl⟩,N,D,eh,dT,aG⟩⟩
  intro k k1 k2 w1 K ez rK bC wD;have J:=ez.perm;have Ij:k∈ks:=J.mem_iff.1 (by simp);obtain⟨fe,lM⟩:=HV.out k Ij;have Cs:=ez.lt;have sB:aj O W w1:=N.trans bC (λj hj=>.inr (by omega));have pj:On D (aqx (done.map fj)) w1:=aG.on λj hj=>bC.block j (aG.1 j hj) (λe=>Ii (e▸hj));have HYk:Hid (∀w8:κ,aj O W w8->On D (aqx (done.map fj)) w8->YieldAt Fence.wide 0 prog l (fj k) w8 (BF D (aqx ((done++[k]).map fj)) Js Jp w8)):=H λw8 a1 a2=>by
   have:=hY (done.map fj) (fj k) ⟨(k1++k2).map fj,(done++[k])++(k1++k2),J,by simp⟩ w8 D a1 eh dT a2;rw[Β];exact this
  have dP:∀j,D j->j<w1.heap.size:=λj hj=>pj.1 j hj;clear hr aG N J hY;unfold ic at rK;unfold ic;gi_wp2_with (first
   |(refine ix (λ_=>trivial) (λ_ h=>by cases h) rfl (qR rfl _ _) ?_;intro w5 Em sL bB;replace sL:=H sL)
   |(refine ix (λ_=>trivial) (λ_ h=>by cases h) rfl (fR rfl _ _) ?_;intro w6 yR pU cL;replace pU:=H pU;have KW:=Em.on cL)
   |(refine iy (vs:=[η k.kc,η k.ku]) (λ_=>trivial) rfl rfl rfl rfl KW rfl A3 (by simp[Ε]) ?_;intro w7 OB iH;have yS:=yR.ex iH (λe=>by have:=Em.lt;omega))
   |(refine iy (λ_=>trivial) rfl rfl rfl rfl yS (by rw[fe];rfl) (by rw[fe];exact fT) lM ?_;intro w8 Zv nH;have ui:=OB.ex nH (λe=>by have:=Em.lt;omega);have q0:=ui.cell (k:=0) rfl;have q1:=ui.cell (k:=1) rfl;have pk:Below w1.heap.size w1 w8:=((bB.trans (cL.mono bB.size)).trans (iH.below (χ bB.size cL.size) (λj hj=>by omega))).trans (nH.below (χ (χ bB.size cL.size) iH.size) (λj hj=>by have:=bB.size;omega));obtain⟨f1,t1,a1,b1,gC,eB⟩:=HYk.out w8 (sB.aK (aj.aq pk)) (pj.below pk);unfold fj at gC;replace eB:=H eB)
   |(refine J3 rfl rfl rfl Zv fe (λ_=>trivial) ?_))
  refine⟨rfl,eB.out.mono ?_⟩;have wN:=ez.keep (pk.block b Cs.1) (pk.block W.heap.size Cs.2.1);have xM:aj O W w8:=sB.aK (aj.aq pk);have Zw:=pk.size;clear gC eB q0 q1 rK Em yR yS Zv KW OB ui bB cL iH nH HYk sL pU;rintro e W1 (⟨rfl,lx⟩|⟨rfl,lx⟩|⟨c,rfl,lx⟩)
  ·obtain⟨ib,D1,d1,d2,yT⟩:=lx;have kA:¬D1 b:=λh=>(d1 b h).elim uh (λh=>by omega);have hns:¬D1 W.heap.size:=λh=>(d1 _ h).elim Ii (λh=>by omega);have jM:=wN.keep (ib.block b (by omega) uh) (ib.block _ (by omega) Ii);have Wz:=xM.trans ib eh;have hd9:∀j,D1 j->O j\/W.heap.size<=j:=λj hj=>(d1 j hj).elim (eh j) (λh=>.inr (by omega));gi_wp2_with fail;gi_roundg (gk-1)
   case measure=>rw[<-hlen,K];simp
   case rel=>exact⟨done++[k],k1++k2,D1,by rw[<-hlen,K];simp,jM,Wz,hns,kA,hd9,λj hj=>d2 j (dT j hj),yT⟩
  ·have HP:=H (lx.after xM eh dT);gi_wp2_with fail;refine bodyPost_ret (results_none rfl _ _ _) rfl ?_;exact .inl ⟨⟨_,rfl⟩,.inr HP.out⟩
  have HP:=H (lx.after xM eh dT);gi_wp2_with fail;exact⟨rfl,.inr ⟨c,rfl,HP.out⟩⟩
end
section
open Go.Sort
attribute [local go_sem] Oper.semAt_some
structure iJ (w:κ)(v:Value)(ns:List ByteArray):Prop where
 is:(∃a c,v=ζ a 0 c/\ns=[])\/∃b off c,v=ζ (some ⟨b,off,none⟩) ns.length c/\ns.length<=c/\∀j,j<ns.length->w.cell? ⟨b,off+j,none⟩=some (η (ns.getD j φ))
 fO:∀b,v.ownBlock=some b->b<w.heap.size
theorem iJ.keep {w I:κ}{v:Value}{ns:List ByteArray}(h:iJ w v ns)(Y:∀b,v.ownBlock=some b->I.heap[b]?=w.heap[b]?):iJ I v ns:=by
 obtain⟨h,A⟩:=h;refine⟨?_,λb U=>En (A b U) (Y b U)⟩;rcases h with h|⟨b,off,c,rfl,Zx,h⟩
 ·exact .inl h
 refine .inr ⟨b,off,c,rfl,Zx,λj hj=>?_⟩;rw[Ϟ (Y b rfl)];exact h j hj
theorem iJ.lt {w:κ}{v:Value}{ns:List ByteArray}(h:iJ w v ns){b:Nat}(U:v.ownBlock=some b):b<w.heap.size:=h.fO b U
theorem iJ.sl {w:κ}{v:Value}{ns:List ByteArray}(h:iJ w v ns):∃a c,v=ζ a ns.length c:=by
 rcases h.is with⟨a,c,rfl,rfl⟩|⟨b,off,c,rfl,_⟩
 ·exact⟨a,c,rfl⟩
 exact⟨_,c,rfl⟩
theorem xN {w:κ}{v:Value}{ns:List ByteArray}(h:iJ w v ns)(x:ByteArray)(hn:ns.length<=9223372036854775807):
 ό prog 92 #[v,η x] w λe I=>e=δ (.bool (ι ns x))/\w=I:=by
 rcases h.is with⟨a,c,rfl,rfl⟩|⟨b,off,c,rfl,_,dE⟩
 ·refine(Tryz.slices_Contains_string_empty a c x w).mono ?_;rintro e I ⟨rfl,rfl⟩;exact⟨rfl,rfl⟩
 refine(Tryz.slices_Contains_string b off ns.length c ns x w (π _) hn dE).mono ?_;rintro e I ⟨rfl,rfl⟩;rw[Ϭ];exact⟨rfl,rfl⟩
theorem agp {F:Fence}{nF:Nat}{ops:Array Ζ}{rest:List Ζ}{o:Ζ}{a:ϝ}{w:κ}{Q:À->ϝ->κ->Prop}{x:Χ}{b:Nat}{EV:List Value}(hg:Region.wanted o (yielded ops a.tmps)=true)(ho:o.op=.load 99 x)(N:a.eval x=ε (some ⟨b,0,none⟩))
 (aC:X w b EV 99)(K:EV.length=18)(hF:∀f,F.fn f)(hK:wpListIn F nF prog ops Q rest (a.put o.dst (.agg EV.toArray)) w):wpListIn F nF prog ops Q (o::rest) a w:=by
 simp only[wpListIn,hg,if_true];exact bz hF (by rw[ho];intro c hc;cases hc) (aV ho N (jL aC K)) hK
def abd (ns:List ByteArray)(ks:List KE)(xs:List (Array Value)):Prop:=∃dI:List KE,dI.Perm (ks.filter λk=>ι ns k.kc)/\xs=dI.map λk=>#[.agg k.ev.toArray]
theorem KX (ks:List KE)(ns:List ByteArray)(nv:Value)(p b bc bn:Nat)(v0:Value)(w:κ)(hm:jf w b ks)(hc:X w p [v0,.map (some b)] 67)(q1:X w bc [ε (some ⟨p,0,none⟩)] 44)(q2:X w bn [nv] 55)(hn:iJ w nv ns)(S5:ns.length<=9223372036854775807)
 (gu:∀k∈ks,k.ev.length=18/\∀v∈k.ev,v.oneCell'=true):
 pQ prog 153 #[ε (some ⟨bc,0,none⟩),ε (some ⟨bn,0,none⟩)] (abd ns ks) (λk=>k=p\/k=b\/k=bc\/k=bn\/nv.ownBlock=some k) w:=by
 intro l W O aqx Js Jp bA hR hO cM hY;replace hm:=hm.keep (hR b (.inr (.inl rfl)));replace hc:=hc.keep (hR p (.inl rfl));replace q1:=q1.keep (hR bc (.inr (.inr (.inl rfl))));replace q2:=q2.keep (hR bn (.inr (.inr (.inr (.inl rfl)))));replace hn:=hn.keep λj hj=>hR j (.inr (.inr (.inr (.inr hj))));have nOb:¬O b:=λh=>hO b h (.inr (.inl rfl));have nOn:¬O bn:=λh=>hO bn h (.inr (.inr (.inr (.inl rfl))));have Zy:∀j,nv.ownBlock=some j->¬O j:=λj hj h=>hO j h (.inr (.inr (.inr (.inr hj))));have hlb:=hm.lt;have lA:=q2.lt;have HV:=H gu;have HN:=H hn;clear hR hO gu hn;refine callsIn_of_wp func153 rfl trivial ?_ rfl;simp only[ntmps153,Υ,Ι,ϗ,ϸ,Ϸ,Ϣ,ϡ,Ϫ,Ϧ,Ϗ,ύ];have c0:=q1.cell (k:=0) rfl;have c1:=hc.cell (k:=1) rfl;gi_wp2_with (refine Zt rfl rfl rfl hm (λ_=>trivial) ?_;intro W0 hrg bj S4);simp only[Act.put,Ϙ,Ϩ,ϧ];clear c0 c1 q1 hc hm;have akb:=H S4;clear S4;gi_loopg [] ks.length (λn wr=>∃(done left:List KE) (D:ak),left.length=n/\nk wr b W.heap.size ks done left/\aj O W wr/\¬D W.heap.size/\¬D b/\(∀k,D k->O k\/W.heap.size<=k)/\(∀k,O k->D k)/\On D (aqx ((done.filter λk=>ι ns k.kc).map λk=>#[.agg k.ev.toArray])) wr)
 case atStart=>
  exact⟨[],ks,O,rfl,hrg,aj.aq bj,λh=>by have:=cM.1 _ h;omega,nOb,λ_ h=>.inl h,λ_ h=>h,cM.below bj⟩
 case round=>
  obtain⟨done,left,D,hlen,hr,N,Ii,uh,eh,dT,aG⟩:=hrel;have yQ:=N.size;gi_wp2_with (refine Zu rfl rfl rfl hr (λ_=>trivial) ?_ ?_)
  ·intro h0;subst h0;have J:=hr.perm;rw[ϯ]at J;gi_wp2_with fail;go_end0;exact .inl ⟨⟨_,rfl⟩,.inl ⟨_,⟨_,J.filter _,rfl⟩,N,D,eh,dT,aG⟩⟩
  intro k k1 k2 w1 K ez rK bC wD;have J:=ez.perm;have Ij:k∈ks:=J.mem_iff.1 (by simp);obtain⟨fe,lM⟩:=HV.out k Ij;have Cs:=ez.lt;have sB:aj O W w1:=N.trans bC (λj hj=>.inr (by omega));have pj:On D (aqx ((done.filter λk=>ι ns k.kc).map λk=>#[.agg k.ev.toArray])) w1:=aG.on λj hj=>bC.block j (aG.1 j hj) (λe=>Ii (e▸hj));have BG:=q2.aM sB nOn;have yN:=HN.out.keep (I:=w1) λj hj=>sB.block j (HN.out.lt hj) (Zy j hj);clear hr aG N;unfold ic at rK;unfold ic;gi_wp2_with (first
   |(refine ix (λ_=>trivial) (λ_ h=>by cases h) rfl (qR rfl _ _) ?_;intro w5 Em sL bB;replace sL:=H sL)
   |(refine ix (λ_=>trivial) (λ_ h=>by cases h) rfl (fR rfl _ _) ?_;intro w6 yR pU cL;replace pU:=H pU;have KW:=Em.on cL)
   |(refine iy (vs:=[η k.kc,η k.ku]) (λ_=>trivial) rfl rfl rfl rfl KW rfl A3 (by simp[Ε]) ?_;intro w7 OB iH;have yS:=yR.ex iH (λe=>by have:=Em.lt;omega))
   |(refine iy (λ_=>trivial) rfl rfl rfl rfl yS (by rw[fe];rfl) (by rw[fe];exact fT) lM ?_;intro w8 Zv nH;have ui:=OB.ex nH (λe=>by have:=Em.lt;omega);have q0:=ui.cell (k:=0) rfl;have pk:Below w1.heap.size w1 w8:=((bB.trans (cL.mono bB.size)).trans (iH.below (χ bB.size cL.size) (λj hj=>by omega))).trans (nH.below (χ (χ bB.size cL.size) iH.size) (λj hj=>by have:=bB.size;omega));have q3:=(BG.on pk).cell (k:=0) rfl))
  have OC:=yN.keep (I:=w8) λj hj=>pk.block j (yN.lt hj);refine⟨trivial,rfl,(callsIn_wide.2 (xN OC k.kc S5)).mono ?_⟩;rintro e w9 ⟨rfl,rfl⟩;have wN:=ez.keep (pk.block b Cs.1) (pk.block W.heap.size Cs.2.1);have xM:aj O W w8:=sB.aK (aj.aq pk);have Zw:=pk.size;have uj:=pj.below pk;clear q0 q3 rK Em yR yS KW OB ui bB cL iH nH sL pU OC yN BG pj;cases oB:ι ns k.kc
  case false=>
   have vl:(done++[k]).filter (λk=>ι ns k.kc)=done.filter λk=>ι ns k.kc:=by simp[Ρ,oB]
   gi_wp2_with fail;refine⟨λ_ h=>(by cases h),?_⟩;gi_wp2_with fail;gi_roundg (gk-1)
   case measure=>rw[<-hlen,K];simp
   case rel=>exact⟨done++[k],k1++k2,D,by rw[<-hlen,K];simp,wN,xM,Ii,uh,eh,dT,by rw[vl];exact uj⟩
  case true=>
   have vl:(done++[k]).filter (λk=>ι ns k.kc)=(done.filter λk=>ι ns k.kc)++[k]:=by simp[Ρ,oB]
   obtain⟨f1,t1,a1,b1,gC,eB⟩:=hY _ #[.agg k.ev.toArray] ⟨((k1++k2).filter λk=>ι ns k.kc).map λk=>#[.agg k.ev.toArray],(done++[k]++(k1++k2)).filter λk=>ι ns k.kc,J.filter _,by simp[Ρ,oB]⟩ w8 D xM eh dT uj;replace eB:=H eB;gi_wp2_with (refine agp rfl rfl rfl Zv fe (λ_=>trivial) ?_);refine⟨rfl,eB.out.mono ?_⟩;clear gC eB J uj;rintro e W1 (⟨rfl,lx⟩|⟨rfl,lx⟩|⟨c,rfl,lx⟩)
   ·obtain⟨ib,D1,d1,d2,yT⟩:=lx;have kA:¬D1 b:=λh=>(d1 b h).elim uh (λh=>by omega);have hns:¬D1 W.heap.size:=λh=>(d1 _ h).elim Ii (λh=>by omega);have jM:=wN.keep (ib.block b (by omega) uh) (ib.block _ (by omega) Ii);have Wz:=xM.trans ib eh;have hd9:∀j,D1 j->O j\/W.heap.size<=j:=λj hj=>(d1 j hj).elim (eh j) (λh=>.inr (by omega));gi_wp2_with fail;gi_roundg (gk-1)
    case measure=>rw[<-hlen,K];simp
    case rel=>exact⟨done++[k],k1++k2,D1,by rw[<-hlen,K];simp,jM,Wz,hns,kA,hd9,λj hj=>d2 j (dT j hj),by rw[vl,Β];exact yT⟩
   ·have HP:=H (aO.after lx xM eh dT);gi_wp2_with fail;refine bodyPost_ret (results_none rfl _ _ _) rfl ?_;exact .inl ⟨⟨_,rfl⟩,.inr HP.out⟩
   have HP:=H (aO.after lx xM eh dT);gi_wp2_with fail;exact⟨rfl,.inr ⟨c,rfl,HP.out⟩⟩
end
def zK (σ:Nat->Nat)(fix:List Nat)(n0:Nat)(ops:Array Ζ):Bool:=
 (Θ ops.size).all λi=>match ops[i]?with
  |none=>true
  |some o=>o.dst.isNone||(decide (o.dst=some (σ i))&&decide (σ i<n0)&&fix.all (λp=>decide (p≠σ i))&&(Θ ops.size).all λj=>decide (j=i)||decide (σ j≠σ i)||match ops[j]?with
   |none=>true
   |some oj=>oj.after.any λe=>Ν .any e&&decide (e.on=i))
theorem Nx {σ:Nat->Nat}{fix:List Nat}{n0:Nat}{ops:Array Ζ}(h:zK σ fix n0 ops=true){i:Nat}{o:Ζ}(ho:ops[i]?=some o)(hd:o.dst≠none):
 o.dst=some (σ i)/\σ i<n0/\(∀p∈fix,p≠σ i)/\∀j oj,ops[j]?=some oj->j≠i->(∀e∈oj.after,Ν .any e=true->e.on≠i)->σ j≠σ i:=by
 have hi:=(Array.getElem?_eq_some_iff.1 ho).1;unfold zK at h;rw[ώ]at h;have G:=h i (List.mem_range.2 hi);rw[ho]at G;simp only[Bool.or_eq_true,Bool.and_eq_true,decide_eq_true_eq,Option.isNone_iff_eq_none]at G;rcases G with G|⟨⟨⟨a1,a2⟩,a3⟩,a4⟩
 ·exact absurd G hd
 refine⟨a1,a2,λp J=>?_,λj oj hj fB gN e=>?_⟩
 ·rw[ώ]at a3;exact of_decide_eq_true (a3 p J)
 rw[ώ]at a4;have A:=a4 j (List.mem_range.2 (Array.getElem?_eq_some_iff.1 hj).1);rw[hj]at A;simp only[Bool.or_eq_true,decide_eq_true_eq]at A;rcases A with(A|A)|A
 ·exact fB A
 ·exact A e
 rw[Array.any_eq_true']at A;obtain⟨x,N,bN⟩:=A;rw[Bool.and_eq_true,decide_eq_true_eq]at bN;exact gN x N bN.1 bN.2
theorem nI {σ:Nat->Nat}{fix:List (Nat×Value)}{n0:Nat}{aqv:Nat->Value->κ->Prop}{C:κ->Prop}{a:ϝ}{w I:κ}{ops:Array Ζ}{i:Nat}{o:Ζ}{v:Value}(aqA:zK σ (fix.map (·.1)) n0 ops=true)(ho:ops[i]?=some o)(hd:o.dst≠none)
 (h:JX n0 fix C a w)(hC:C I)(Y:∀j v,j≠i->aqv j v w->aqv j v I)(hn:aqv i v I):
 JX n0 fix C (a.put o.dst v) I/\GV σ aqv i (a.put o.dst v) I/\∀j oj,ops[j]?=some oj->j≠i->(∀e∈oj.after,Ν .any e=true->e.on≠i)->GV σ aqv j a w->GV σ aqv j (a.put o.dst v) I:=by
 obtain⟨S,e2,e3,e4⟩:=Nx aqA ho hd;rw[S];have hs:σ i<a.tmps.size:=by rw[h.size];exact e2
 refine⟨⟨by rw[fW];exact h.size,by rw[put_defers];exact h.defers,λp J=>by rw[cY (e3 p.1 (Ω J))];exact h.fixed p J,hC⟩,?_,λj oj jg fB gN hg=>?_⟩
 ·unfold GV;rw[gO hs];exact hn
 unfold GV at hg⊢;rw[cY (e4 j oj jg fB gN)];exact Y j _ fB hg
theorem ac8 {σ:Nat->Nat}{fix:List (Nat×Value)}{n0:Nat}{aqv:Nat->Value->κ->Prop}{C:κ->Prop}{a:ϝ}{w:κ}{ops:Array Ζ}{i:Nat}{o:Ζ}{v:Value}(aqA:zK σ (fix.map (·.1)) n0 ops=true)(ho:ops[i]?=some o)(hd:o.dst≠none)
 (h:JX n0 fix C a w)(hn:aqv i v w):
 JX n0 fix C (a.put o.dst v) w/\GV σ aqv i (a.put o.dst v) w/\∀j oj,ops[j]?=some oj->j≠i->(∀e∈oj.after,Ν .any e=true->e.on≠i)->GV σ aqv j a w->GV σ aqv j (a.put o.dst v) w:=
 nI aqA ho hd h h.world (λ_ _ _ h=>h) hn
theorem aW {σ:Nat->Nat}{fix:List (Nat×Value)}{n0:Nat}{aqv:Nat->Value->κ->Prop}{C:κ->Prop}{a:ϝ}{w:κ}{ops:Array Ζ}{i:Nat}{o:Ζ}{v:Value}(h:JX n0 fix C a w)(hn:aqv i v w)
 (aqA:zK σ (fix.map (·.1)) n0 ops=true:=by kernel_rfl)(ho:ops[i]?=some o:=by exact rfl)(hd:o.dst≠none:=by decide):
 JX n0 fix C (a.put o.dst v) w/\GV σ aqv i (a.put o.dst v) w/\∀j oj,ops[j]?=some oj->j≠i->(∀e∈oj.after,Ν .any e=true->e.on≠i)->GV σ aqv j a w->GV σ aqv j (a.put o.dst v) w:=ac8 aqA ho hd h hn
theorem QN {σ:Nat->Nat}{fix:List (Nat×Value)}{n0:Nat}{aqv:Nat->Value->κ->Prop}{C:κ->Prop}{a:ϝ}{w I:κ}{ops:Array Ζ}{i:Nat}{o:Ζ}{u:Value}(hd:o.dst=none)
 (h:JX n0 fix C a w)(hC:C I)(Y:∀j v,j≠i->aqv j v w->aqv j v I)(hn:aqv i (a.eval (.tmp (σ i))) I):
 JX n0 fix C (a.put o.dst u) I/\GV σ aqv i (a.put o.dst u) I/\∀j oj,ops[j]?=some oj->j≠i->(∀e∈oj.after,Ν .any e=true->e.on≠i)->GV σ aqv j a w->GV σ aqv j (a.put o.dst u) I:=by
 rw[hd];exact⟨⟨h.size,h.defers,h.fixed,hC⟩,hn,λj oj jg fB _ hg=>Y j _ fB hg⟩
open Go.Sort
def fk (ns:List ByteArray):List Value:=ns.map Value.string
structure dJ (w:κ)(p b:Nat)(nv:Value)(ns:List ByteArray)(ks:List KE):Prop where
 row:X w p [nv,.map (some b)] 67
 own:w.ownsRow 0 9 1 nv ns.length (fk ns)
 map:jf w b ks
 Ik:b≠p
 S6:nv.ownBlock≠some p
 KY:nv.ownBlock≠some b
def jZ (p b:Nat)(nv:Value):ak:=λk=>k=p\/k=b\/nv.ownBlock=some k
theorem dJ.keep {w I:κ}{p b:Nat}{nv:Value}{ns:List ByteArray}{ks:List KE}(h:dJ w p b nv ns ks)(Y:∀k,jZ p b nv k->I.heap[k]?=w.heap[k]?):dJ I p b nv ns ks:=
 ⟨h.row.keep (Y p (.inl rfl)),⟨h.own.1,h.own.2.elim .inl λ⟨g,cap,cur,S,e2,e3,e4⟩=>.inr ⟨g,cap,cur,S,e2,(Y g (.inr (.inr (by rw[S];rfl)))).trans e3,e4⟩⟩,h.map.keep (Y b (.inr (.inl rfl))),h.Ik,h.S6,h.KY⟩
theorem dJ.lt {w:κ}{p b:Nat}{nv:Value}{ns:List ByteArray}{ks:List KE}(h:dJ w p b nv ns ks){k:Nat}(Y:jZ p b nv k):k<w.heap.size:=by
 rcases Y with rfl|rfl|Y
 ·exact h.row.lt
 ·exact h.map.lt
 exact(h.own.lt k Y).2
theorem dJ.aM {w I:κ}{O:ak}{p b:Nat}{nv:Value}{ns:List ByteArray}{ks:List KE}(h:dJ w p b nv ns ks)(N:aj O w I)(hn:∀k,jZ p b nv k->¬O k):dJ I p b nv ns ks:=
 h.keep λk Y=>N.block k (h.lt Y) (hn k Y)
theorem dJ.on {w I:κ}{p b:Nat}{nv:Value}{ns:List ByteArray}{ks:List KE}(h:dJ w p b nv ns ks)(U:Below w.heap.size w I):dJ I p b nv ns ks:=h.keep λk Y=>U.block k (h.lt Y)
theorem OD {w:κ}{B s:Nat}{e:Ϡ}{n:Nat}{xs:List Value}{v:Value}{a:Addr}{m c:Nat}(h:w.ownsRow B e s v n xs)(hv:v=ζ (some a) m c):n<=c:=by
 subst hv;rcases h.2 with⟨h,_⟩|⟨g,cap,cur,h,_,_,h4,_⟩
 ·cases h
 cases h;exact h4
theorem dJ.names {w:κ}{p b:Nat}{nv:Value}{ns:List ByteArray}{ks:List KE}(h:dJ w p b nv ns ks):iJ w nv ns:=by
 refine⟨?_,λk Y=>(h.own.lt k Y).2⟩;rcases xD h.own with⟨e,h0⟩|⟨g,cap,e,_,_,hc⟩
 ·exact .inl ⟨_,_,e,List.length_eq_zero_iff.1 h0⟩
 refine .inr ⟨g,0,cap,e,OD h.own e,λj hj=>?_⟩;have S:(fk ns)[j]?=some (η (ns.getD j φ)):=by
  unfold fk;rw[ρ,ο hj,ϙ,ο hj];rfl
 have:=hc j _ S;simpa using this
theorem QO (w:κ):
 ό prog 13 #[] w λE I=>E=δ (ε (some ⟨w.heap.size+1,0,none⟩))/\dJ I (w.heap.size+1) w.heap.size (ζ none 0 0) [] []/\Below w.heap.size w I:=by
 have hm:=jf.made w;have U:Below w.heap.size w (w.alloc (.map #[] 0)):=(Γ _ _).alloc (π _) _;have hz:(w.alloc (.map #[] 0)).heap.size=w.heap.size+1:=by simp
 have hmk:=run_makeMap (P:=prog) 65 w;go_enter func13,ntmps13;go_wp2_with fail;go_ret;have hr:=X.new (w.alloc (.map #[] 0)) [ζ none 0 0,.map (some w.heap.size)] 67;rw[hz]at hr;exact⟨rfl,⟨hr,World.ownsRow_nil _ _ _ _,hm.keep (Η _ _ _ (by simp)),by omega,by simp[ϭ],by simp[ϭ]⟩,U.alloc U.size _⟩
theorem Eo (p b:Nat)(v:Value)(w:κ)(h:X w p [v,.map (some b)] 67):
 ό prog 45 #[ε (some ⟨p,0,none⟩)] w λE I=>E=δ (.func (.func 108) #[] #[ε (some ⟨w.heap.size,0,none⟩)])/\I=w.alloc (θ #[.map (some b)] 65):=by
 have k1:=h.cell (k:=1) rfl;have C:Hid (ό prog 72 #[.map (some b)] w λE I=>E=δ (.func (.func 108) #[] #[ε (some ⟨w.heap.size,0,none⟩)])/\I=w.alloc (θ #[.map (some b)] 65)):=H (by
  go_enter func72,ntmps72;go_wp2_with fail;go_ret;exact⟨rfl,rfl⟩)
 clear h;go_enter func45,ntmps45;go_wp2_with (go_at_call 72;refine(C.out).mono ?_;rintro E w1 ⟨rfl,rfl⟩);go_ret;exact⟨rfl,rfl⟩
theorem JB (p:Nat)(a:Option Addr)(n c:Nat)(w:κ):
 ό prog 98 #[ε (some ⟨p,0,none⟩),ζ a n c] w λE I=>E=δ (.func (.func 153) #[] #[ε (some ⟨w.heap.size,0,none⟩),ε (some ⟨w.heap.size+1,0,none⟩)])/\I=(w.alloc (θ #[ε (some ⟨p,0,none⟩)] 44)).alloc (θ #[ζ a n c] 55):=by
 go_enter func98,ntmps98;go_wp2_with fail;go_ret;exact⟨rfl,rfl⟩
theorem Ct {q:Addr}{b:Nat}{w:κ}(h:w.cell? q=some (.map (some b))):(ϳ 65 (ε (some q))).run prog w=.ok (.map (some b)) w:=by
 go_simp
theorem Gb {p:Nat}{w:κ}:(Ϛ 67 (ε (some ⟨p,0,none⟩)) 1).run prog w=.ok (ε (some ⟨p,1,none⟩)) w:=by go_simp
theorem abe {p:Nat}{w:κ}:(Ϛ 67 (ε (some ⟨p,0,none⟩)) 0).run prog w=.ok (ε (some ⟨p,0,none⟩)) w:=by go_simp
theorem KZ {o:Ζ}{a:ϝ}{w:κ}{x y:Χ}{b:Nat}{c u:ByteArray}{r:Value}(ho:o.op=.lookup 65 x y true)(N:a.eval x=.map (some b))(hy:a.eval y=.agg #[η c,η u])(hr:(ϋ 65 (.map (some b)) (ic c u) true).run prog w=.ok r w):(execOp a.eval o).run prog w=.ok (.value r) w:=by
 unfold ic at hr;simp[execOp,ho,N,hy,hr,ν]
theorem tz {o:Ζ}{a:ϝ}{w:κ}{x:Χ}{u v:Value}{i:Nat}(ho:o.op=.extract x i)(N:a.eval x=.tuple #[u,v])(hi:i<2):(execOp a.eval o).run prog w=.ok (.value (#[u,v].getD i undef)) w:=by
 obtain⟨_,_,_,_,_,_⟩:=o;simp only[]at ho;subst ho;unfold execOp;simp only[N]
 match i,hi with
 |0,_=>go_simp
 |1,_=>go_simp
theorem uk {P:Program}{Q:À->ϝ->κ->Prop}{o:Ζ}{a:ϝ}{w:κ}{aqy:ϝ->κ->Prop}{T:Ϡ}{x y:Χ}{b:Nat}{vs cs:List Value}(ho:o.op=.store T x y)(N:a.eval x=ε (some ⟨b,0,none⟩))(hy:a.eval y=.agg vs.toArray)(aC:X w b cs T)(K:cs.length=vs.length)
 (hi:(P.info? T).map (·.size)=some vs.length)(G:∀v∈vs,v.oneCell'=true)(hK:∀I,X I b vs T->aj (λk=>k=b) w I->aqy (a.put o.dst undef) I):Oper.wp P o a w aqy Q:=by
 have vj:=A2 (vs:=vs) (o:=0) aC;rw[uf vs cs K]at vj;unfold Oper.wp execOp;simp only[ho,N,hy,Instr.storeAt,Instr.sureAddr,Sem.run_bind,Sem.run_pure,Result.andThen_ok,run_storeVar_mid w b 0 T vs.toArray (rL aC (by rw[Υ];exact K.symm)) (by rw[Υ];exact hi) (all_oneCell_toArray G)];exact hK _ vj (Cq b 0 vs w)
theorem abf {ops:Array Ζ}{Q:À->ϝ->κ->Prop}{rest:List Ζ}{o:Ζ}{a:ϝ}{w:κ}{x y:Χ}{b:Nat}{ks:List KE}{c u:ByteArray}(hg:o.guard=none)(ho:o.op=.call {callee:=.builtin .delete,args:=#[x,y],argTypes:=#[65,107]})(N:a.eval x=.map (some b))(hy:a.eval y=.agg #[η c,η u])
 (h:jf w b ks)(hc:c.size<=maxLen)(hu:u.size<=maxLen)(hK:∀I,jf I b (ug c u ks)->aj (λk=>k=b) w I->wpList prog ops Q rest (a.put o.dst (.tuple #[])) I):wpList prog ops Q (o::rest) a w:=by
 obtain⟨I,hr,G,A⟩:=h.del c u hc hu o.type;unfold ic at hr;refine wpList_plain hg λaqy mv=>ai ?_ (mv _ _ (hK I G A));simp[execOp,ho,resolve,invoke,builtin,N,hy,hr,ν]
theorem WG {ops:Array Ζ}{Q:À->ϝ->κ->Prop}{rest:List Ζ}{o:Ζ}{a:ϝ}{w:κ}{x y z:Χ}{b:Nat}{ks:List KE}{k:KE}(hg:o.guard=none)(ho:o.op=.mapUpdate 65 x y z)(N:a.eval x=.map (some b))(hy:a.eval y=.agg #[η k.kc,η k.ku])(hz:a.eval z=.agg k.ev.toArray)
 (h:jf w b ks)(Y:wM k)(hK:∀I,jf I b (nX k ks)->aj (λk=>k=b) w I->wpList prog ops Q rest (a.put o.dst undef) I):wpList prog ops Q (o::rest) a w:=by
 obtain⟨I,hr,G,A⟩:=h.put k Y;unfold ic at hr;refine wpList_plain hg λaqy mv=>A4 ?_ (mv _ _ (hK I G A));simp[execOp,ho,N,hy,hz,hr,ν]
def dr (c u:ByteArray)(ks:List KE):List Value:=((bZ c u ks).map KE.ev).getD ev0
theorem xO {c u:ByteArray}{ks:List KE}(gu:∀k∈ks,k.ev.length=18/\∀v∈k.ev,v.oneCell'=true):(dr c u ks).length=18/\∀v∈dr c u ks,v.oneCell'=true:=by
 unfold dr;cases h:bZ c u ks with
 |none=>exact⟨rfl,by simp[ev0,Ε]⟩
 |some k=>exact gu k (List.mem_of_find?_eq_some h)
def xP (W:κ)(p b:Nat)(c u:ByteArray)(ks:List KE)(i:Nat)(v:Value)(w:κ):Prop:=match i with
 |9=>∃g cs,v=ε (some ⟨g,0,none⟩)/\X w g cs 99/\cs.length=18/\W.heap.size<=g
 |10=>∃g,v=ε (some ⟨g,0,none⟩)/\X w g (dr c u ks) 99/\W.heap.size<=g
 |n=>v=[ε (some ⟨p,0,none⟩),ε (some ⟨p,0,none⟩),ε (some ⟨p,1,none⟩),.map (some b),.agg #[η c,η u],.tuple #[.agg (dr c u ks).toArray,.bool (bZ c u ks).isSome],.tuple #[.agg (dr c u ks).toArray,.bool (bZ c u ks).isSome],.agg (dr c u ks).toArray,.bool (bZ c u ks).isSome].getD n undef
theorem xP.keep {W:κ}{p b:Nat}{c u:ByteArray}{ks:List KE}{w I:κ}(Y:∀g,W.heap.size<=g->g<w.heap.size->I.heap[g]?=w.heap[g]?)(i:Nat)(v:Value)(h:xP W p b c u ks i v w):xP W p b c u ks i v I:=by
 by_cases h9:i=9
 ·subst h9;obtain⟨g,cs,G,A,M,h4⟩:=h;exact⟨g,cs,G,A.keep (Y g h4 A.lt),M,h4⟩
 by_cases Ep:i=10
 ·subst Ep;obtain⟨g,G,A,M⟩:=h;exact⟨g,G,A.keep (Y g M A.lt),M⟩
 unfold xP at h⊢;split at h
 ·exact absurd rfl h9
 ·exact absurd rfl Ep
 exact h
def akc (i:Nat):Nat:=[8,9,10,11,12,13,7,14,15,5,5].getD i 0
def um (p B:Nat):List (Nat×Value):=[(0,ε (some ⟨p,0,none⟩)),(3,ε (some ⟨B,0,none⟩)),(4,ε (some ⟨B+1,0,none⟩))]
theorem S7 (a:ϝ)(h:a.tmps.size=24)(hd:a.defers=[]):∃f:Nat->Value,a=⟨[f 0,f 1,f 2,f 3,f 4,f 5,f 6,f 7,f 8,f 9,f 10,f 11,f 12,f 13,f 14,f 15,f 16,f 17,f 18,f 19,f 20,f 21,f 22,f 23].toArray,[]⟩/\∀k,a.eval (.tmp k)=f k:=gK 24 a h hd
def A6 (p b:Nat)(nv:Value)(ns:List ByteArray)(ks:List KE)(c u:ByteArray)(w:κ):Á->κ->Prop:=λE I=>
 match bZ c u ks with
 |none=>E=.panicked (bx 6)/\Below w.heap.size w I
 |some k=>E=δ (.agg k.ev.toArray)/\dJ I p b nv ns (ug c u ks)/\aj (λj=>j=b) w I
theorem Ny (p b:Nat)(nv:Value)(ns:List ByteArray)(ks:List KE)(c u:ByteArray)(w:κ)(h:dJ w p b nv ns ks)(hc:c.size<=maxLen)(hu:u.size<=maxLen)(gu:∀k∈ks,k.ev.length=18/\∀v∈k.ev,v.oneCell'=true):
 ό prog 61 #[ε (some ⟨p,0,none⟩),.agg #[η c,η u]] w (A6 p b nv ns ks c u w):=by
 have tV:Below w.heap.size w (w.alloc (θ #[η c,η u] 107)):=(Γ _ _).alloc (π _) _;have S8:=X.new w [η c,η u] 107;have S9:(w.alloc (θ #[η c,η u] 107)).heap.size=w.heap.size+1:=by simp
 obtain⟨fe,lM⟩:=xO (c:=c) (u:=u) gu;have HC:=H h;have SS:b<w.heap.size:=h.map.lt;have HCl:∀j,jZ p b nv j->j<w.heap.size:=λj hj=>h.lt hj;clear h gu;go_enter func61,ntmps61;go_upto_region 1 with(refine jE rfl (fR rfl _ _) ?_;intro W2 re gX aN);have al:Below w.heap.size w W2:=tV.trans (aN.mono tV.size);have Zz:=H (HC.out.on al);have rk2:=H (show X W2 w.heap.size [η c,η u] 107 from X.on (show X (w.alloc (θ #[η c,η u] 107)) w.heap.size [η c,η u] 107 from S8) aN);rw[S9]at re gX;replace re:=H re;replace gX:=H gX;replace al:=H al;clear tV S8 aN;simp only[S9];clear S9;refine dC 11 (by simp only[ψ,Ξ];rfl) (by simp only[ω,Τ];rfl) (GV akc (xP W2 p b c u ks)) (JX 24 (um p w.heap.size) (Below W2.heap.size W2)) (by kernel_rfl) (by kernel_rfl) (by kernel_rfl) (by kernel_rfl) (by kernel_rfl) (by kernel_rfl) rfl ?rops ?rdone ⟨rfl,rfl,λq J=>by
  simp only[um,Α,υ,or_false]at J;rcases J with rfl|rfl|rfl<;>rfl,(Γ _ _).drew⟩
 case rops=>
  intro i o ho a I ar hG Q';have hi:i<11:=(Array.getElem?_eq_some_iff.1 ho).1;have t0:a.eval (.tmp 0)=ε (some ⟨p,0,none⟩):=ar.fixed (0,_) (by simp[um]);have t3:a.eval (.tmp 3)=ε (some ⟨w.heap.size,0,none⟩):=ar.fixed (3,_) (by simp[um]);have ea:i=0\/i=1\/i=2\/i=3\/i=4\/i=5\/i=6\/i=7\/i=8\/i=9\/i=10:=by omega
  rcases ea with rfl|rfl|rfl|rfl|rfl|rfl|rfl|rfl|rfl|rfl|rfl<;>obtain rfl:=μ ho
  ·exact ai (cJ rfl t0) (aW ar rfl)
  ·have S:a.eval (.tmp 8)=ε (some ⟨p,0,none⟩):=aB hG 0;exact ai (dF rfl S) (aW ar rfl)
  ·have S:a.eval (.tmp 9)=ε (some ⟨p,0,none⟩):=aB hG 1;exact ai (cH rfl S Gb) (aW ar rfl)
  ·have S:a.eval (.tmp 10)=ε (some ⟨p,1,none⟩):=aB hG 2;exact ai (aV rfl S (Ct ((Zz.out.on ar.world).row.cell (k:=1) rfl))) (aW ar rfl)
  ·exact ai (aV rfl t3 (gZ (rk2.out.on ar.world))) (aW ar rfl)
  ·have S:a.eval (.tmp 11)=.map (some b):=aB hG 3;have e2:a.eval (.tmp 12)=.agg #[η c,η u]:=aB hG 4;exact ai (KZ rfl S e2 ((Zz.out.on ar.world).map.look c u hc hu)) (aW ar rfl)
  ·have S:a.eval (.tmp 13)=.tuple #[.agg (dr c u ks).toArray,.bool (bZ c u ks).isSome]:=aB hG 5;exact ai (cJ rfl S) (aW ar rfl)
  ·have S:a.eval (.tmp 7)=.tuple #[.agg (dr c u ks).toArray,.bool (bZ c u ks).isSome]:=aB hG 6;exact ai (tz rfl S (by decide)) (aW ar rfl)
  ·have S:a.eval (.tmp 7)=.tuple #[.agg (dr c u ks).toArray,.bool (bZ c u ks).isSome]:=aB hG 6;exact ai (tz rfl S (by decide)) (aW ar rfl)
  ·refine ai (fR rfl _ _) ?_;exact nI (by kernel_rfl) rfl (by decide) ar (ar.world.alloc ar.world.size _) (λj v _ hn=>xP.keep (λg _ hg=>Η _ _ _ hg) j v hn) ⟨I.heap.size,eD,rfl,X.new I eD _,rfl,ar.world.size⟩
  obtain⟨g,cs,S,hr,dE,hg⟩:xP W2 p b c u ks 9 (a.eval (.tmp 5)) I:=aB hG 9;have e2:a.eval (.tmp 14)=.agg (dr c u ks).toArray:=aB hG 7;refine uk rfl S e2 hr (by rw[dE,fe]) (by rw[fe];exact fT) lM λw9 jM ib=>?_;refine QN rfl ar (ar.world.trans (ib.below ar.world.size (λj hj=>by omega))) (λj v hj hn=>?_) ⟨g,S,jM,hg⟩;by_cases h9:j=9
  ·subst h9;obtain⟨g',lB,q1,q2,q3,q4⟩:=hn;by_cases Ta:g'=g
   ·subst Ta;exact⟨g',_,q1,jM,fe,q4⟩
   exact⟨g',lB,q1,q2.ex ib Ta,q3,q4⟩
  unfold xP at hn⊢;split at hn
  ·exact absurd rfl h9
  ·exact absurd rfl hj
  exact hn
 case rdone=>
  intro a w3 ar hG;obtain⟨g,e5,Er,hg5⟩:xP W2 p b c u ks 10 (a.eval (.tmp 5)) w3:=hG 10 (by decide);have DO:a.eval (.tmp 15)=.bool (bZ c u ks).isSome:=hG 8 (by decide);have t0:a.eval (.tmp 0)=ε (some ⟨p,0,none⟩):=ar.fixed (0,_) (by simp[um]);have t3:a.eval (.tmp 3)=ε (some ⟨w.heap.size,0,none⟩):=ar.fixed (3,_) (by simp[um]);have t4:a.eval (.tmp 4)=ε (some ⟨w.heap.size+1,0,none⟩):=ar.fixed (4,_) (by simp[um]);have aP:=ar.world;have fc:=ar.size;have fi:=ar.defers;clear ar hG;obtain⟨fr,rfl,hf⟩:=S7 a fc fi;have g0:=(hf 0).symm.trans t0;have g3:=(hf 3).symm.trans t3;have g4:=(hf 4).symm.trans t4;have g5:=(hf 5).symm.trans e5;have g15:=(hf 15).symm.trans DO;clear hf fc fi t0 t3 t4 e5 DO;rw[g0,g3,g4,g5,g15];clear g0 g3 g4 g5 g15;have hC3:=H (Zz.out.on aP);have Es:=H (rk2.out.on aP);have K0:=H (re.out.on aP);have eM:=H (al.out.trans (aP.mono al.out.size));have aod:w.heap.size+2<=g:=by have:=gX.out;omega
  replace Er:=H Er;clear HC Zz rk2 re al gX aP hg5;cases vl:bZ c u ks with
  |none=>
   simp only[Option.isSome];go_wp2_with (go_at_call 42;refine(gg 6 _).mono ?_;rintro E w4 ⟨rfl,rfl⟩);exact⟨rfl,by unfold A6;rw[vl];exact⟨rfl,eM.out⟩⟩
  |some k=>
   simp only[Option.isSome];go_upto_region 3 with(go_at_call 42;refine(eS 6 _).mono ?_;rintro E w4 ⟨rfl,rfl⟩);have k1:=hC3.out.row.cell (k:=1) rfl;have q0:=Es.out.cell (k:=0) rfl;have q1:=Es.out.cell (k:=1) rfl;refine ia 5 ?_
   iterate 5 (go_big_quiet_step (fail))
   refine wpQuiet_nil ?_;rintro _ ⟨nq,rfl⟩;have zL:dJ (w3.drewN nq) p b nv ns ks:=hC3.out.keep λ_ _=>rfl;have rg4:X (w3.drewN nq) g (dr c u ks) 99:=Er.out;have ZA:X (w3.drewN nq) (w.heap.size+1) eD 99:=K0.out;have cq:Below w.heap.size w (w3.drewN nq):=below_drewN eM.out nq;have QC:=zL.lt (k:=b) (.inr (.inl rfl));have gQ:b<w.heap.size:=SS;clear hC3 Er K0 eM k1 q0 q1 Es;generalize w3.drewN nq=aqw at *
   go_wp2_with (first
    |(refine abf rfl rfl rfl rfl zL.map hc hu ?_;intro w5 hm5 dH;have rg5:=rg4.ex dH (by omega);have K3:=ZA.ex dH (by omega))
    |(refine uo rfl rfl rfl rg5 underlying99 rfl (by rw[fe];exact fT) ?_)
    |(refine jF rfl rfl rfl rfl K3 (by rw[fe];rfl) (by rw[fe];exact fT) lM ?_;intro w6 hr6 gm))
   have akd:aj (λj=>j=b) w w6:=((aj.aq cq).aK dH).trans gm λj hj=>.inr (by omega);have rO:dr c u ks=k.ev:=by unfold dr;rw[vl];rfl
   have hnp:∀j,jZ p b nv j->j≠b->¬j=w.heap.size+1:=λj hj _=>by have:=HCl j hj;omega
   refine bodyPost_ret (v:=.agg (dr c u ks).toArray) (mj results61 rfl (run_loadVar_mid _ (w.heap.size+1) 0 99 (dr c u ks) _ (gq hr6) underlying99 rfl (by rw[fe];exact fT))) rfl ?_;unfold A6;rw[vl];refine⟨by rw[rO],⟨?_,?_,hm5.keep (gm.block b (by have:=dH.size;omega) (by omega)),zL.Ik,zL.S6,zL.KY⟩,akd⟩
   ·exact(zL.row.ex dH zL.Ik.symm).ex gm (hnp p (.inl rfl) zL.Ik.symm)
   refine dB (dB zL.own λj hj K=>dH.block j K (λe=>zL.KY (e▸hj))) λj hj K=>gm.block j K ?_;have:=HCl j (.inr (.inr hj));omega
theorem oC (a:ϝ)(h:a.tmps.size=66)(hd:a.defers=[]):∃f:Nat->Value,a=⟨List.toArray (f 0::f 1::f 2::f 3::f 4::f 5::f 6::f 7::f 8::f 9::f 10::f 11::f 12::f 13::f 14::f 15::f 16::f 17::f 18::f 19::f 20::f 21::f 22::f 23::f 24::f 25::f 26::f 27::f 28::f 29::f 30::f 31::f 32::f 33::f 34::f 35::f 36::f 37::f 38::f 39::f 40::f 41::f 42::f 43::f 44::f 45::f 46::f 47::f 48::f 49::f 50::f 51::f 52::f 53::f 54::f 55::f 56::f 57::f 58::f 59::f 60::f 61::f 62::f 63::f 64::f 65::[]),[]⟩/\∀k,a.eval (.tmp k)=f k:=gK 66 a h hd
def xQ (p b:Nat)(nv:Value)(ns:List ByteArray)(ks:List KE)(c u:ByteArray)(EV:List Value)(w:κ):Á->κ->Prop:=λE I=>
 if ι ns c=false/\8<=ns.length\/(bZ c u ks).isSome=false/\30<=ks.length then E=.panicked (bx 5)/\Below w.heap.size w I
 else E=δ (.tuple #[.agg (dr c u ks).toArray,.bool (bZ c u ks).isSome])/\∃jh,dJ I p b jh (if ι ns c then ns else ns++[c]) (nX ⟨c,u,EV⟩ ks)/\aj (jZ p b nv) w I/\∀j,jh.ownBlock=some j->nv.ownBlock=some j\/w.heap.size<=j
structure WH (p B:Nat)(rep kn:Bool)(a:ϝ):Prop where
 size:a.tmps.size=66
 defers:a.defers=[]
 s0:a.eval (.tmp 0)=ε (some ⟨p,0,none⟩)
 s4:a.eval (.tmp 4)=ε (some ⟨B,0,none⟩)
 s5:a.eval (.tmp 5)=ε (some ⟨B+1,0,none⟩)
 s6:a.eval (.tmp 6)=ε (some ⟨B+1+1,0,none⟩)
 s7:a.eval (.tmp 7)=.bool rep
 s8:a.eval (.tmp 8)=.bool kn
structure Cu (w0:κ)(p b:Nat)(nv:Value)(ns:List ByteArray)(ks:List KE)(c u:ByteArray)(EV RV:List Value)(O:ak)(w:κ):Prop where
 dK:dJ w p b nv ns ks
 key:X w w0.heap.size [η c,η u] 107
 ev:X w (w0.heap.size+1) EV 99
 res:X w (w0.heap.size+1+1) RV 99
 ex:aj O w0 w
theorem Cu.keep {w0:κ}{p b:Nat}{nv:Value}{ns:List ByteArray}{ks:List KE}{c u:ByteArray}{EV RV:List Value}{O:ak}{w I:κ}(h:Cu w0 p b nv ns ks c u EV RV O w)(U:Below w.heap.size w I):Cu w0 p b nv ns ks c u EV RV O I:=
 ⟨h.dK.on U,h.key.on U,h.ev.on U,h.res.on U,h.ex.aK (aj.aq U)⟩
def NPt (p b B:Nat)(c u:ByteArray)(ks:List KE)(i:Nat)(v:Value)(w:κ):Prop:=match i with
 |9=>X w (B+1+1) (dr c u ks) 99
 |n=>v=[ε (some ⟨p,0,none⟩),ε (some ⟨p,0,none⟩),ε (some ⟨p,1,none⟩),.map (some b),.agg #[η c,η u],.tuple #[.agg (dr c u ks).toArray,.bool (bZ c u ks).isSome],.tuple #[.agg (dr c u ks).toArray,.bool (bZ c u ks).isSome],.agg (dr c u ks).toArray,.bool (bZ c u ks).isSome].getD n undef
structure CPt (aqw:κ)(B:Nat)(w:κ):Prop where
 ex:aj (λj=>j=B+1+1) aqw w
 row:∃cs,X w (B+1+1) cs 99/\cs.length=18
def sPt (i:Nat):Nat:=[27,28,29,30,31,32,26,33,34,6].getD i 0
def qS (p B:Nat)(kn:Bool):List (Nat×Value):=[(0,ε (some ⟨p,0,none⟩)),(4,ε (some ⟨B,0,none⟩)),(5,ε (some ⟨B+1,0,none⟩)),(6,ε (some ⟨B+1+1,0,none⟩)),(8,.bool kn)]
def Et (W:κ)(p B:Nat)(nv:Value)(ns:List ByteArray)(c:ByteArray)(i:Nat)(v:Value)(w:κ):Prop:=match i with
 |7=>∃g,v=ζ (some ⟨g,0,none⟩) 1 1/\X w g [η c] 9/\W.heap.size<=g
 |8=>∃g cap,v=ζ (some ⟨g,0,none⟩) (ns.length+1) cap/\w.ownsRow 0 9 1 v (ns.length+1) (fk ns++[η c])/\(nv.ownBlock=some g\/W.heap.size<=g)
 |n=>v=[ε (some ⟨p,0,none⟩),ε (some ⟨p,0,none⟩),ε (some ⟨p,0,none⟩),ε (some ⟨p,0,none⟩),nv,ε (some ⟨B,0,none⟩),η c].getD n undef
theorem Et.keep {W:κ}{p B:Nat}{nv:Value}{ns:List ByteArray}{c:ByteArray}{w I:κ}(Y:∀g,W.heap.size<=g->g<w.heap.size->I.heap[g]?=w.heap[g]?)(i:Nat)(v:Value)(hi:i≠8)(h:Et W p B nv ns c i v w):Et W p B nv ns c i v I:=by
 by_cases h7:i=7
 ·subst h7;obtain⟨g,G,A,M⟩:=h;exact⟨g,G,A.keep (Y g M A.lt),M⟩
 unfold Et at h⊢;split at h
 ·exact absurd rfl h7
 ·exact absurd rfl hi
 exact h
structure CNm (W:κ)(nv:Value)(ns:List ByteArray)(w:κ):Prop where
 ex:aj (λj=>nv.ownBlock=some j) W w
 own:w.ownsRow 0 9 1 nv ns.length (fk ns)
theorem WI {q:Addr}{a:Option Addr}{n k:Nat}{w:κ}(h:w.cell? q=some (ζ a n k)):(ϳ 55 (ε (some q))).run prog w=.ok (ζ a n k) w:=by
 go_simp
theorem abg {q:Nat}{w:κ}:(Ϛ 107 (ε (some ⟨q,0,none⟩)) 0).run prog w=.ok (ε (some ⟨q,0,none⟩)) w:=by go_simp
theorem WJ {o:Ζ}{a:ϝ}{w:κ}{x:Χ}{aqw:ByteArray}(ho:o.op=.buildSlice 55 1 #[(0,x)])(G:a.eval x=η aqw):
 (execOp a.eval o).run prog w=.ok (.value (ζ (some ⟨w.heap.size,0,none⟩) 1 1)) (w.alloc (θ #[η aqw] 9)):=by
 obtain⟨_,_,_,_,_,_⟩:=o;simp only[]at ho;subst ho;unfold execOp;simp only[List.map_toArray,τ,Ϻ,G];go_simp
def NMp (p b:Nat)(c u:ByteArray)(EV:List Value)(i:Nat)(v:Value)(_:κ):Prop:=v=[ε (some ⟨p,0,none⟩),ε (some ⟨p,0,none⟩),ε (some ⟨p,1,none⟩),.map (some b),.agg #[η c,η u],.agg EV.toArray].getD i undef
def jN (p B:Nat)(rep kn:Bool):List (Nat×Value):=[(0,ε (some ⟨p,0,none⟩)),(4,ε (some ⟨B,0,none⟩)),(5,ε (some ⟨B+1,0,none⟩)),(6,ε (some ⟨B+1+1,0,none⟩)),(7,.bool rep),(8,.bool kn)]
theorem QP (p b:Nat)(nv:Value)(ns:List ByteArray)(ks:List KE)(c u:ByteArray)(EV:List Value)(w:κ)(h:dJ w p b nv ns ks)(hc:c.size<=maxLen)(hu:u.size<=maxLen)(hE:EV.length=18)(gu:∀k∈ks,k.ev.length=18/\∀v∈k.ev,v.oneCell'=true)(OC:ns.length<=8)(aoe:ks.length<=30):
 ό prog 58 #[ε (some ⟨p,0,none⟩),.agg #[η c,η u],.agg EV.toArray] w (xQ p b nv ns ks c u EV w):=by
 obtain⟨fe,lM⟩:=xO (c:=c) (u:=u) gu;have S8:=kC w [η c,η u] 107 (θ EV.toArray 99);have re0:=kD w EV 99 (θ #[η c,η u] 107);have bj:=mu w (θ #[η c,η u] 107) (θ EV.toArray 99);have iY:((w.alloc (θ #[η c,η u] 107)).alloc (θ EV.toArray 99)).heap.size=w.heap.size+1+1:=by simp
 have HL:Hid (∀j,jZ p b nv j->j<w.heap.size):=H λj hj=>h.lt hj;have HC:=H h;clear h gu;go_enter func58,ntmps58;go_upto_region 1 with(refine jE rfl (fR rfl _ _) ?_;intro W2 rr2 gX aN);have hP:Hid (Cu w p b nv ns ks c u EV eD (λ_=>False) W2):=H (by
  rw[iY]at rr2;exact⟨(HC.out.on bj).on aN,X.on S8 aN,X.on re0 aN,rr2,aj.aq (bj.trans (aN.mono bj.size))⟩)
 clear S8 re0 bj iY rr2 gX aN HC;have k0:=hP.out.dK.row.cell (k:=0) rfl;have q0:=hP.out.key.cell (k:=0) rfl;obtain⟨av,cv,lW⟩:=hP.out.dK.names.sl;rw[lW]at k0;refine ia 6 ?_
 iterate 6 (go_big_quiet_step (fail))
 refine wpQuiet_nil ?_;rintro _ ⟨nq,rfl⟩;have sM:Hid (Cu w p b nv ns ks c u EV eD (λ_=>False) (W2.drewN nq)):=H (hP.out.keep (below_drewN (Γ _ _) nq));clear k0 q0 hP;generalize W2.drewN nq=aqw at *
 have CN:=xN sM.out.dK.names c (by omega);rw[lW]at CN;replace CN:=H CN;go_upto_region 2 with(go_at_call 92;refine(CN.out).mono ?_;rintro E w4 ⟨rfl,rfl⟩);clear CN;rename_i K1 fh;have r3:¬(ι ns c=false/\8<=ns.length)->∀a,WH p w.heap.size false (ι ns c) a->K1 a aqw:=by
  intro ake a hF;refine fh a aqw ?_;clear fh K1;obtain⟨fr,rfl,hf⟩:=oC a hF.size hF.defers;have g0:=(hf 0).symm.trans hF.s0;have g4:=(hf 4).symm.trans hF.s4;have g5:=(hf 5).symm.trans hF.s5;have g6:=(hf 6).symm.trans hF.s6;have g7:=(hf 7).symm.trans hF.s7;have g8:=(hf 8).symm.trans hF.s8;clear hf hF;rw[g0,g4,g5,g6,g7,g8];clear g0 g4 g5 g6 g7 g8;go_upto_region 3 with fail;have HK:Hid (∀I,CPt aqw w.heap.size I->dJ I p b nv ns ks/\X I w.heap.size [η c,η u] 107):=H λI rP=>
   ⟨sM.out.dK.aM rP.ex (λj hj e=>by have:=HL.out j hj;omega),sM.out.key.ex rP.ex (by omega)⟩
  refine dC 10 (by simp only[ψ,Ξ];rfl) (by simp only[ω,Τ];rfl) (GV sPt (NPt p b w.heap.size c u ks)) (JX 66 (qS p w.heap.size (ι ns c)) (CPt aqw w.heap.size)) (by kernel_rfl) (by kernel_rfl) (by kernel_rfl) (by kernel_rfl) (by kernel_rfl) (by kernel_rfl) rfl ?rops ?rdone ⟨rfl,rfl,λq J=>by
   simp only[qS,Α,υ,or_false]at J;rcases J with rfl|rfl|rfl|rfl|rfl<;>rfl,(aj.refl _ _).drew,eD,sM.out.res,rfl⟩
  case rops=>
   intro i o ho a I ar hG Q';have hi:i<10:=(Array.getElem?_eq_some_iff.1 ho).1;have t0:a.eval (.tmp 0)=ε (some ⟨p,0,none⟩):=ar.fixed (0,_) (by simp[qS]);have t4:a.eval (.tmp 4)=ε (some ⟨w.heap.size,0,none⟩):=ar.fixed (4,_) (by simp[qS]);have t6:a.eval (.tmp 6)=ε (some ⟨w.heap.size+1+1,0,none⟩):=ar.fixed (6,_) (by simp[qS]);have ea:i=0\/i=1\/i=2\/i=3\/i=4\/i=5\/i=6\/i=7\/i=8\/i=9:=by omega
   rcases ea with rfl|rfl|rfl|rfl|rfl|rfl|rfl|rfl|rfl|rfl<;>obtain rfl:=μ ho
   ·exact ai (cJ rfl t0) (aW ar rfl)
   ·have S:a.eval (.tmp 27)=ε (some ⟨p,0,none⟩):=aB hG 0;exact ai (dF rfl S) (aW ar rfl)
   ·have S:a.eval (.tmp 28)=ε (some ⟨p,0,none⟩):=aB hG 1;exact ai (cH rfl S Gb) (aW ar rfl)
   ·have S:a.eval (.tmp 29)=ε (some ⟨p,1,none⟩):=aB hG 2;exact ai (aV rfl S (Ct ((HK.out _ ar.world).1.row.cell (k:=1) rfl))) (aW ar rfl)
   ·exact ai (aV rfl t4 (gZ (HK.out _ ar.world).2)) (aW ar rfl)
   ·have S:a.eval (.tmp 30)=.map (some b):=aB hG 3;have e2:a.eval (.tmp 31)=.agg #[η c,η u]:=aB hG 4;exact ai (KZ rfl S e2 ((HK.out _ ar.world).1.map.look c u hc hu)) (aW ar rfl)
   ·have S:a.eval (.tmp 32)=.tuple #[.agg (dr c u ks).toArray,.bool (bZ c u ks).isSome]:=aB hG 5;exact ai (cJ rfl S) (aW ar rfl)
   ·have S:a.eval (.tmp 26)=.tuple #[.agg (dr c u ks).toArray,.bool (bZ c u ks).isSome]:=aB hG 6;exact ai (tz rfl S (by decide)) (aW ar rfl)
   ·have S:a.eval (.tmp 26)=.tuple #[.agg (dr c u ks).toArray,.bool (bZ c u ks).isSome]:=aB hG 6;exact ai (tz rfl S (by decide)) (aW ar rfl)
   have e2:a.eval (.tmp 33)=.agg (dr c u ks).toArray:=aB hG 7;obtain⟨cs,hr,dE⟩:=ar.world.row;refine uk rfl t6 e2 hr (by rw[dE,fe]) (by rw[fe];exact fT) lM λw9 jM ib=>?_;refine QN rfl ar ⟨ar.world.ex.aK ib,_,jM,fe⟩ (λj v hj hn=>?_) jM;unfold NPt at hn⊢;split at hn
   ·exact absurd rfl hj
   exact hn
  case rdone=>
   intro a w3 ar hG;have Tb:a.eval (.tmp 34)=.bool (bZ c u ks).isSome:=hG 8 (by decide);have jM:X w3 (w.heap.size+1+1) (dr c u ks) 99:=hG 9 (by decide);have t0:a.eval (.tmp 0)=ε (some ⟨p,0,none⟩):=ar.fixed (0,_) (by simp[qS]);have t4:a.eval (.tmp 4)=ε (some ⟨w.heap.size,0,none⟩):=ar.fixed (4,_) (by simp[qS]);have t5:a.eval (.tmp 5)=ε (some ⟨w.heap.size+1,0,none⟩):=ar.fixed (5,_) (by simp[qS]);have t6:a.eval (.tmp 6)=ε (some ⟨w.heap.size+1+1,0,none⟩):=ar.fixed (6,_) (by simp[qS]);have t8:a.eval (.tmp 8)=.bool (ι ns c):=ar.fixed (8,_) (by simp[qS]);have lC:Hid (Cu w p b nv ns ks c u EV (dr c u ks) (λ_=>False) w3):=H ⟨(HK.out _ ar.world).1,(HK.out _ ar.world).2,sM.out.ev.ex ar.world.ex (by omega),jM,sM.out.ex.trans ar.world.ex (λj hj=>.inr (by omega))⟩;have bA:=ar.size;have fi:=ar.defers;clear ar hG HK jM sM;obtain⟨fr,rfl,hf⟩:=oC a bA fi;have g0:=(hf 0).symm.trans t0;have g4:=(hf 4).symm.trans t4;have g5:=(hf 5).symm.trans t5;have g6:=(hf 6).symm.trans t6;have g8:=(hf 8).symm.trans t8;have Tc:=(hf 34).symm.trans Tb;clear hf bA fi t0 t4 t5 t6 t8 Tb;rw[g0,g4,g5,g6,g8,Tc];clear g0 g4 g5 g6 g8 Tc;go_upto_region 4 with fail;rename_i K2 H7;have r5:¬((bZ c u ks).isSome=false/\30<=ks.length)->∀a,WH p w.heap.size (bZ c u ks).isSome (ι ns c) a->K2 a w3:=by
    intro akf a hF;refine H7 a w3 ?_;clear H7 K2;obtain⟨fr,rfl,hf⟩:=oC a hF.size hF.defers;have g0:=(hf 0).symm.trans hF.s0;have g4:=(hf 4).symm.trans hF.s4;have g5:=(hf 5).symm.trans hF.s5;have g6:=(hf 6).symm.trans hF.s6;have g7:=(hf 7).symm.trans hF.s7;have g8:=(hf 8).symm.trans hF.s8;clear hf hF;rw[g0,g4,g5,g6,g7,g8];clear g0 g4 g5 g6 g7 g8;go_upto_region 5 with fail;rename_i K7 hK7 K5 ZB;have r7:∀a w6 jh,WH p w.heap.size (bZ c u ks).isSome (ι ns c) a->Cu w p b jh (if ι ns c then ns else ns++[c]) ks c u EV (dr c u ks) (jZ p b nv) w6->(∀j,jh.ownBlock=some j->nv.ownBlock=some j\/w.heap.size<=j)->(∀j,jh.ownBlock=some j->j≠w.heap.size/\j≠w.heap.size+1/\j≠w.heap.size+1+1)->K7 a w6:=by
     intro a w6 jh hF K6 OE hv2;refine hK7 a w6 ?_;clear hK7 ZB K5 K7;replace K6:=H K6;obtain⟨fr,rfl,hf⟩:=oC a hF.size hF.defers;have g0:=(hf 0).symm.trans hF.s0;have g4:=(hf 4).symm.trans hF.s4;have g5:=(hf 5).symm.trans hF.s5;have g6:=(hf 6).symm.trans hF.s6;have g7:=(hf 7).symm.trans hF.s7;have g8:=(hf 8).symm.trans hF.s8;clear hf hF;rw[g0,g4,g5,g6,g7,g8];clear g0 g4 g5 g6 g7 g8;go_upto_region 7 with fail;refine dC 6 (by simp only[ψ,Ξ];rfl) (by simp only[ω,Τ];rfl) (GV (λi=>58+i) (NMp p b c u EV)) (JX 66 (jN p w.heap.size (bZ c u ks).isSome (ι ns c)) (Below w6.heap.size w6)) (by kernel_rfl) (by kernel_rfl) (by kernel_rfl) (by kernel_rfl) (by kernel_rfl) (by kernel_rfl) rfl ?mops ?mdone ⟨rfl,rfl,λq J=>by
      simp only[jN,Α,υ,or_false]at J;rcases J with rfl|rfl|rfl|rfl|rfl|rfl<;>rfl,(Γ _ _).drew⟩
     case mops=>
      intro i o ho a I ar hG Q';have hi:i<6:=(Array.getElem?_eq_some_iff.1 ho).1;have t0:a.eval (.tmp 0)=ε (some ⟨p,0,none⟩):=ar.fixed (0,_) (by simp[jN]);have t4:a.eval (.tmp 4)=ε (some ⟨w.heap.size,0,none⟩):=ar.fixed (4,_) (by simp[jN]);have t5:a.eval (.tmp 5)=ε (some ⟨w.heap.size+1,0,none⟩):=ar.fixed (5,_) (by simp[jN]);have ea:i=0\/i=1\/i=2\/i=3\/i=4\/i=5:=by omega
      rcases ea with rfl|rfl|rfl|rfl|rfl|rfl<;>obtain rfl:=μ ho
      ·exact ai (cJ rfl t0) (aW ar rfl)
      ·have S:a.eval (.tmp 58)=ε (some ⟨p,0,none⟩):=aB hG 0;exact ai (dF rfl S) (aW ar rfl)
      ·have S:a.eval (.tmp 59)=ε (some ⟨p,0,none⟩):=aB hG 1;exact ai (cH rfl S Gb) (aW ar rfl)
      ·have S:a.eval (.tmp 60)=ε (some ⟨p,1,none⟩):=aB hG 2;exact ai (aV rfl S (Ct ((K6.out.dK.on ar.world).row.cell (k:=1) rfl))) (aW ar rfl)
      ·exact ai (aV rfl t4 (gZ (K6.out.key.on ar.world))) (aW ar rfl)
      exact ai (aV rfl t5 (jL (K6.out.ev.on ar.world) hE)) (aW ar rfl)
     case mdone=>
      intro a w7 ar hG;have e61:a.eval (.tmp 61)=.map (some b):=hG 3 (by decide);have e62:a.eval (.tmp 62)=.agg #[η c,η u]:=hG 4 (by decide);have e63:a.eval (.tmp 63)=.agg EV.toArray:=hG 5 (by decide);have t6:a.eval (.tmp 6)=ε (some ⟨w.heap.size+1+1,0,none⟩):=ar.fixed (6,_) (by simp[jN]);have t7:a.eval (.tmp 7)=.bool (bZ c u ks).isSome:=ar.fixed (7,_) (by simp[jN]);have zM:=H (K6.out.keep ar.world);have bA:=ar.size;have fi:=ar.defers;clear ar hG K6;obtain⟨fr,rfl,hf⟩:=oC a bA fi;have g6:=(hf 6).symm.trans t6;have g7:=(hf 7).symm.trans t7;have g61:=(hf 61).symm.trans e61;have g62:=(hf 62).symm.trans e62;have g63:=(hf 63).symm.trans e63;clear hf bA fi t6 t7 e61 e62 e63;rw[g6,g7,g61,g62,g63];clear g6 g7 g61 g62 g63;go_wp2_with (first
       |(refine WG (k:=⟨c,u,EV⟩) rfl rfl rfl rfl rfl zM.out.dK.map ⟨hc,hu⟩ ?_;intro w8 hm8 nH;have rr8:=zM.out.res.ex nH (λe=>by have:=HL.out b (.inr (.inl rfl));omega))
       |(refine uo rfl rfl rfl rr8 underlying99 rfl (by rw[fe];exact fT) ?_)
       |(refine jF rfl rfl rfl rfl rr8 rfl (by rw[fe];exact fT) lM ?_;intro w9 jM ib))
      have fG:dJ w9 p b jh (if ι ns c then ns else ns++[c]) (nX ⟨c,u,EV⟩ ks):=by
       have gQ:=HL.out b (.inr (.inl rfl));have pT:=HL.out p (.inl rfl);refine⟨(zM.out.dK.row.ex nH zM.out.dK.Ik.symm).ex ib (by omega),?_,hm8.keep (ib.block b (by have:=nH.size;have:=zM.out.dK.map.lt;omega) (by omega)),zM.out.dK.Ik,zM.out.dK.S6,zM.out.dK.KY⟩;exact dB (dB zM.out.dK.own λj hj K=>nH.block j K (λe=>zM.out.dK.KY (e▸hj))) λj hj K=>ib.block j K (hv2 j hj).2.2
      have hxf:aj (jZ p b nv) w w9:=(zM.out.ex.trans nH λj hj=>.inl (.inr (.inl hj))).trans ib λj hj=>.inr (by omega);refine bodyPost_ret (v:=.tuple #[.agg (dr c u ks).toArray,.bool (bZ c u ks).isSome]) (results_cell_tmp results58 rfl (run_loadVar_mid _ (w.heap.size+1+1) 0 99 (dr c u ks) _ (gq jM) underlying99 rfl (by rw[fe];exact fT))) rfl ?_;unfold xQ;rw[if_neg (λh=>h.elim ake akf)];exact⟨rfl,jh,fG,hxf,OE⟩
    clear hK7;replace r7:=H r7;cases OF:ι ns c
    case true=>
     rw[OF]at r7;go_wp2_with fail;exact r7.out _ _ nv ⟨rfl,rfl,rfl,rfl,rfl,rfl,rfl,rfl⟩ (by rw[if_pos trivial];exact⟨lC.out.dK,lC.out.key,lC.out.ev,lC.out.res,lC.out.ex.mono λ_ h=>h.elim⟩) (λj hj=>.inl hj) (λj hj=>by have:=HL.out j (.inr (.inr hj));omega)
    case false=>
     rw[OF]at r7;go_upto_region 6 with fail;have HA:Hid (∀I,CNm w3 nv ns I->X I p [nv,.map (some b)] 67/\X I w.heap.size [η c,η u] 107):=H λI rP=>
      ⟨lC.out.dK.row.ex rP.ex lC.out.dK.S6,lC.out.key.ex rP.ex (λe=>by have:=HL.out _ (.inr (.inr e));omega)⟩
     have Hv:Hid (w.heap.size<=w3.heap.size):=H lC.out.ex.size;refine dC 9 (by simp only[ψ,Ξ];rfl) (by simp only[ω,Τ];rfl) (GV (λi=>47+i) (Et w3 p w.heap.size nv ns c)) (JX 66 (jN p w.heap.size (bZ c u ks).isSome false) (CNm w3 nv ns)) (by kernel_rfl) (by kernel_rfl) (by kernel_rfl) (by kernel_rfl) (by kernel_rfl) (by kernel_rfl) rfl ?nops ?ndone ⟨rfl,rfl,λq J=>by
      simp only[jN,Α,υ,or_false]at J;rcases J with rfl|rfl|rfl|rfl|rfl|rfl<;>rfl,(aj.refl _ _).drew,lC.out.dK.own⟩
     case nops=>
      intro i o ho a I ar hG Q';have hi:i<9:=(Array.getElem?_eq_some_iff.1 ho).1;have t0:a.eval (.tmp 0)=ε (some ⟨p,0,none⟩):=ar.fixed (0,_) (by simp[jN]);have t4:a.eval (.tmp 4)=ε (some ⟨w.heap.size,0,none⟩):=ar.fixed (4,_) (by simp[jN]);have ea:i=0\/i=1\/i=2\/i=3\/i=4\/i=5\/i=6\/i=7\/i=8:=by omega
      rcases ea with rfl|rfl|rfl|rfl|rfl|rfl|rfl|rfl|rfl<;>obtain rfl:=μ ho
      ·exact ai (cJ rfl t0) (aW ar rfl)
      ·exact ai (cJ rfl t0) (aW ar rfl)
      ·have S:a.eval (.tmp 48)=ε (some ⟨p,0,none⟩):=aB hG 1;exact ai (dF rfl S) (aW ar rfl)
      ·have S:a.eval (.tmp 49)=ε (some ⟨p,0,none⟩):=aB hG 2;exact ai (cH rfl S abe) (aW ar rfl)
      ·have S:a.eval (.tmp 50)=ε (some ⟨p,0,none⟩):=aB hG 3;exact ai (aV rfl S (by rw[lW];exact WI (by rw[<-lW];exact(HA.out _ ar.world).1.cell (k:=0) rfl))) (aW ar rfl)
      ·exact ai (cH rfl t4 abg) (aW ar rfl)
      ·have S:a.eval (.tmp 52)=ε (some ⟨w.heap.size,0,none⟩):=aB hG 5;exact ai (aV rfl S (Td ((HA.out _ ar.world).2.cell (k:=0) rfl))) (aW ar rfl)
      ·have S:a.eval (.tmp 53)=η c:=aB hG 6;refine ai (WJ rfl S) ?_;refine nI (by kernel_rfl) rfl (by decide) ar ⟨ar.world.ex.alloc _,ar.world.own.alloc _⟩ (λj u' hj hn=>?_) ⟨I.heap.size,rfl,X.new I [η c] 9,ar.world.ex.size⟩;by_cases h8:j=8
       ·subst h8;obtain⟨g,cap,a1,a2,a3⟩:=hn;exact⟨g,cap,a1,dB a2 λg' _ hg=>Η _ _ _ hg,a3⟩
       exact Et.keep (λg _ hg=>Η _ _ _ hg) j u' h8 hn
      have S:a.eval (.tmp 51)=nv:=aB hG 4;obtain⟨gn,e2,pS,hgn⟩:Et w3 p w.heap.size nv ns c 7 (a.eval (.tmp 54)) I:=aB hG 7;obtain⟨g,cap,w9,jM,wG,wH,Hy,zD⟩:=pd (P:=prog) I 0 55 55 9 _ 1 16 underlying55 td rfl (by decide) nv ns.length (fk ns) ar.world.own ⟨gn,0,none⟩ 1 1 (by decide) [η c] rfl (World.news_of_block pS) (by simp[Ε]) (by omega) (by decide) (Nat.zero_le _);refine ai (F6 rfl S e2 jM) ?_;refine nI (by kernel_rfl) rfl (by decide) ar ⟨ar.world.ex.trans (zC Hy) (λj hj=>.inl hj),wH⟩ (λj u' hj hn=>?_) ⟨g,cap,rfl,wG,zD.imp id (λh=>by have:=ar.world.ex.size;omega)⟩;exact Et.keep (λg' hg1 KN=>Hy.block g' KN (λe=>by have:=HL.out g' (.inr (.inr e.symm));have:=Hv.out;omega)) j u' hj hn
     case ndone=>
      intro a w7 ar hG;have e47:a.eval (.tmp 47)=ε (some ⟨p,0,none⟩):=hG 0 (by decide);obtain⟨g,cap,e55,wG,zD⟩:Et w3 p w.heap.size nv ns c 8 (a.eval (.tmp 55)) w7:=hG 8 (by decide);have t0:a.eval (.tmp 0)=ε (some ⟨p,0,none⟩):=ar.fixed (0,_) (by simp[jN]);have t4:a.eval (.tmp 4)=ε (some ⟨w.heap.size,0,none⟩):=ar.fixed (4,_) (by simp[jN]);have t5:a.eval (.tmp 5)=ε (some ⟨w.heap.size+1,0,none⟩):=ar.fixed (5,_) (by simp[jN]);have t6:a.eval (.tmp 6)=ε (some ⟨w.heap.size+1+1,0,none⟩):=ar.fixed (6,_) (by simp[jN]);have t7:a.eval (.tmp 7)=.bool (bZ c u ks).isSome:=ar.fixed (7,_) (by simp[jN]);have t8:a.eval (.tmp 8)=.bool false:=ar.fixed (8,_) (by simp[jN]);rw[e55]at wG;have ZC:=(HA.out _ ar.world).1;have HO9:=H wG;have HQ9:=H zD;have By:=H ar.world.ex;have R7p:=H ZC;have z7:=ZC.cell (k:=0) rfl;have f7:=ZC.free (k:=0);have bA:=ar.size;have fi:=ar.defers;clear ar hG HA wG zD ZC;obtain⟨fr,rfl,hf⟩:=oC a bA fi;have g0:=(hf 0).symm.trans t0;have g4:=(hf 4).symm.trans t4;have g5:=(hf 5).symm.trans t5;have g6:=(hf 6).symm.trans t6;have g7:=(hf 7).symm.trans t7;have g8:=(hf 8).symm.trans t8;have g47:=(hf 47).symm.trans e47;have g55:=(hf 55).symm.trans e55;clear hf bA fi t0 t4 t5 t6 t7 t8 e47 e55;rw[g0,g4,g5,g6,g7,g8,g47,g55];clear g0 g4 g5 g6 g7 g8 g47 g55;go_wp2_with fail;have gQ:=HL.out b (.inr (.inl rfl));have pT:=HL.out p (.inl rfl);have wO:=lC.out.res.lt;have ZD:g≠p/\g≠b/\g≠w.heap.size/\g≠w.heap.size+1/\g≠w.heap.size+1+1:=by
       rcases HQ9.out with h|h
       ·have:=HL.out g (.inr (.inr h));exact⟨λe=>lC.out.dK.S6 (by rw[h,e]),λe=>lC.out.dK.KY (by rw[h,e]),by omega,by omega,by omega⟩
       exact⟨by omega,by omega,by omega,by omega,by omega⟩
      have oD:∀j,w.heap.size<=j->¬nv.ownBlock=some j:=λj hj e=>by have:=HL.out j (.inr (.inr e));omega
      have ql:∀j,j≠p->(w7.setCell ⟨p,0,none⟩ (ζ (some ⟨g,0,none⟩) (ns.length+1) cap)).heap[j]?=w7.heap[j]?:=λj hj=>Below.heap_setCell _ _ _ _ (λ(e:j=p)=>hj e);refine r7.out _ _ (ζ (some ⟨g,0,none⟩) (ns.length+1) cap) ⟨rfl,rfl,rfl,rfl,rfl,rfl,rfl,rfl⟩ ?_ (λj hj=>?_) (λj hj=>?_)
      ·rw[if_neg (by simp)];refine⟨⟨R7p.out.set (k:=0) _,?_,(lC.out.dK.map.keep (By.out.block b lC.out.dK.map.lt lC.out.dK.KY)).keep (ql b lC.out.dK.Ik),lC.out.dK.Ik,λe=>ZD.1 (μ e),λe=>ZD.2.1 (μ e)⟩,((lC.out.key.ex By.out (oD _ (π _))).keep (ql _ (by omega))),((lC.out.ev.ex By.out (oD _ (by omega))).keep (ql _ (by omega))),((lC.out.res.ex By.out (oD _ (by omega))).keep (ql _ (by omega))),?_⟩
       ·have S:fk (ns++[c])=fk ns++[η c]:=by unfold fk;simp
        rw[S,ϊ];refine dB HO9.out λj hj _=>ql j (λe=>ZD.1 ?_);exact(show g=j from μ hj).trans e
       exact(((lC.out.ex.mono (O':=jZ p b nv) λ_ h=>h.elim).trans By.out λj hj=>.inl (.inr (.inr hj))).st (.inl rfl) _)
      ·have e9:g=j:=μ hj;rw[<-e9];exact HQ9.out.imp id λh=>by omega
      have e9:g=j:=μ hj;rw[<-e9];exact ZD.2.2
   clear H7;replace r5:=H r5;have k1:=lC.out.dK.row.cell (k:=1) rfl;have lA:=lC.out.dK.map.len 3;cases K8:(bZ c u ks).isSome
   case true=>
    rw[K8]at r5;go_wp2_with (go_at_call 42;refine(eS 5 _).mono ?_;rintro E w4 ⟨rfl,rfl⟩);exact r5.out (by simp) _ ⟨rfl,rfl,rfl,rfl,rfl,rfl,rfl,rfl⟩
   case false=>
    rw[K8]at r5;by_cases h8:ks.length<30
    case pos=>
     have N7:((ks.length:Nat):Int)<30:=by omega
     go_wp2_with (go_at_call 42;refine(eS 5 _).mono ?_;rintro E w4 ⟨rfl,rfl⟩);exact r5.out (λh=>by omega) _ ⟨rfl,rfl,rfl,rfl,rfl,rfl,rfl,rfl⟩
    case neg=>
     have N7:¬((ks.length:Nat):Int)<30:=by omega
     go_wp2_with (go_at_call 42;refine(gg 5 _).mono ?_;rintro E w4 ⟨rfl,rfl⟩);exact⟨rfl,by unfold xQ;rw[if_pos (.inr ⟨K8,by omega⟩)];exact⟨rfl,lC.out.ex.below (π _) (λ_ h=>h.elim)⟩⟩
 clear fh;replace r3:=H r3;have k0:=sM.out.dK.row.cell (k:=0) rfl;rw[lW]at k0;cases OF:ι ns c
 case true=>
  rw[OF]at r3;go_wp2_with (go_at_call 42;refine(eS 5 _).mono ?_;rintro E w4 ⟨rfl,rfl⟩);exact r3.out (by simp) _ ⟨rfl,rfl,rfl,rfl,rfl,rfl,rfl,rfl⟩
 case false=>
  rw[OF]at r3;by_cases h8:ns.length<8
  case pos=>
   have N7:((ns.length:Nat):Int)<8:=by omega
   go_wp2_with (go_at_call 42;refine(eS 5 _).mono ?_;rintro E w4 ⟨rfl,rfl⟩);exact r3.out (λh=>by omega) _ ⟨rfl,rfl,rfl,rfl,rfl,rfl,rfl,rfl⟩
  case neg=>
   have N7:¬((ns.length:Nat):Int)<8:=by omega
   go_wp2_with (go_at_call 42;refine(gg 5 _).mono ?_;rintro E w4 ⟨rfl,rfl⟩);exact⟨rfl,by unfold xQ;rw[if_pos (.inl ⟨OF,by omega⟩)];exact⟨rfl,sM.out.ex.below (π _) (λ_ h=>h.elim)⟩⟩
theorem abh (a b:Int):gM a b=0\/gM a b=1\/gM a b=2:=by
 unfold gM;split
 ·exact .inr (.inr rfl)
 split
 ·exact .inr (.inl rfl)
 exact .inl rfl
theorem zN:∀(es:List eC) (c1 c2 bg kd:Int),(kd=0\/kd=1\/kd=2)->∀x∈fU c1 c2 bg kd es,x.2.2=1\/x.2.2=2
 |[],_,_,_,_,_,x,N=>by cases N
 |e::r,c1,c2,bg,kd,Y,x,N=>by
  rw[fU]at N;generalize(c1+if e.k=1 then e.m else 0)=d1 at N;generalize(c2+if e.k=2 then e.m else 0)=d2 at N;split at N
  ·exact zN r _ _ _ _ Y x N
  rcases List.mem_append.1 N with N|N
  ·split at N
   ·cases N
   rw[ϩ]at N;subst N;rcases Y with h|h|h
   ·contradiction
   ·exact .inl h
   exact .inr h
  exact zN r _ _ _ _ (abh _ _) x N
theorem Cv:∀(es:List eC) (c1 c2 bg kd:Int),(fU c1 c2 bg kd es).length<=es.length
 |[],_,_,_,_=>π _
 |e::r,c1,c2,bg,kd=>by
  rw[fU];generalize(c1+if e.k=1 then e.m else 0)=d1;generalize(c2+if e.k=2 then e.m else 0)=d2;split
  ·have:=Cv r d1 d2 bg kd;simp only[Ι];omega
  have:=Cv r d1 d2 e.t (gM d1 d2);rw[ϊ,Ι];split<;>simp<;>omega
def La:ByteArray:=⟨#[66,69,71,73,78,58,86,70,82,69,69,66,85,83,89]⟩
def BH:ByteArray:=⟨#[68,84,83,84,65,82,84,58]⟩
def BI:ByteArray:=⟨#[68,84,69,78,68,58]⟩
def uq:ByteArray:=⟨#[69,78,68,58,86,70,82,69,69,66,85,83,89]⟩
def oE (f t:Int)(R:List (Int×Int×Int)):List ByteArray:=[La,BH++eY f,BI++eY t]++R.map pg
def rQ (f t:Int)(R:List (Int×Int×Int)):ByteArray:=⟨(kE ((oE f t R++[uq]).map ByteArray.toList)).toArray⟩
theorem Te (x:Int×Int×Int):(pg x).size<=70:=by
 have G:=oz x.1;have A:=oz x.2.1;have M:(SU x.2.2).size<=14:=by unfold SU;split<;>decide
 have h4:tX.size=16:=rfl;have h5:(⟨#[58]⟩:ByteArray).size=1:=rfl;have h6:(⟨#[47]⟩:ByteArray).size=1:=rfl;unfold pg;simp only[Φ];omega
theorem gL.on {w I:κ}{p:Nat}{f t:Int}{v:Value}{L:List eC}(h:gL w p f t v L)(U:Below w.heap.size w I):gL I p f t v L:=⟨h.row.on U,dB h.own λg _ K=>U.block g K,h.ne⟩
theorem Gc {w:κ}{B s:Nat}{e:Ϡ}{v:Value}{n:Nat}{xs:List Value}(h:w.ownsRow B e s v n xs):∃a c,v=ζ a n c:=by
 rcases h.2 with⟨e,h0⟩|⟨g,cap,cur,e,_⟩
 ·exact⟨none,0,by rw[e,h0]⟩
 exact⟨_,_,e⟩
theorem WK (f t:Int)(R:List (Int×Int×Int))(x:Int×Int×Int):oE f t (R++[x])=oE f t R++[pg x]:=by unfold oE;simp
theorem Tf {L:List (Int×Int×Int)}:∀{i:Nat} {x:Int×Int×Int},L[i]?=some x->(js L)[i*3]?=some (V Z x.1)/\(js L)[i*3+1]?=some (V Z x.2.1)/\(js L)[i*3+2]?=some (V Z x.2.2):=by
 induction L with
 |nil=>intro i x h;cases h
 |cons y L ih=>
  intro i x h;have e:js (y::L)=QG y++js L:=rfl;cases i with
  |zero=>
   rw[List.getElem?_cons_zero]at h;cases h;rw[e];exact⟨rfl,rfl,rfl⟩
  |succ i=>
   rw[ϛ]at h;obtain⟨a,b,c⟩:=ih h;have K:(QG y).length=3:=rfl;rw[e];refine⟨?_,?_,?_⟩
   ·rw[Ο (by rw[K];omega),K,show(i+1)*3-3=i*3 by omega];exact a
   ·rw[Ο (by rw[K];omega),K,show(i+1)*3+1-3=i*3+1 by omega];exact b
   rw[Ο (by rw[K];omega),K,show(i+1)*3+2-3=i*3+2 by omega];exact c
theorem zO:∀ls:List (List UInt8),(∀l∈ls,l.length<=100)->(kE ls).length<=102*ls.length
 |[],_=>by simp[kE]
 |l::ls,h=>by
  have G:=h l (by simp);have A:=zO ls (λx N=>h x (List.mem_cons_of_mem _ N));have e:kE (l::ls)=(l++[13,10])++kE ls:=rfl;rw[e];simp only[ϊ,Ι,ϗ];omega
theorem Il (f t:Int)(R:List (Int×Int×Int))(aqw:ByteArray)(h:aqw∈oE f t R++[uq]):aqw.size<=100:=by
 have G:=oz f;have A:=oz t;have h4:BH.size=8:=rfl;have h5:BI.size=6:=rfl;unfold oE at h;simp only[Ϯ,Α,υ,or_false,List.mem_map]at h;rcases h with((rfl|rfl|rfl)|⟨x,_,rfl⟩)|rfl
 ·decide
 ·rw[Φ];omega
 ·rw[Φ];omega
 ·have:=Te x;omega
 decide
theorem Tg {w:κ}{B g cap n:Nat}{xs:List ByteArray}{ls:List (List UInt8)}(h:w.ownsRow B 9 1 (ζ (some ⟨g,0,none⟩) n cap) n (fk xs++[η uq]))(K:ls=(xs++[uq]).map ByteArray.toList):jG w g 0 ls:=by
 intro j hj;subst K;have S:fk xs++[η uq]=fk (xs++[uq]):=by unfold fk;simp
 rw[S]at h;rw[Ψ]at hj;have e2:(fk (xs++[uq]))[j]?=some (η (xs++[uq])[j]):=by unfold fk;rw[ρ,ο hj];rfl
 have:=h.cells (g:=g) rfl j _ e2;rw[Addr.add_lit]at this;rw[this];congr 2;rw[ϙ,ρ,ο hj];show(xs++[uq])[j]=⟨((xs++[uq])[j].toList).toArray⟩;rw[ByteArray.toList_eq]
def NTx (p:Nat)(f t:Int)(i:Nat)(v:Value)(_:κ):Prop:=v=[ε (some ⟨p,0,none⟩),ε (some ⟨p,0,none⟩),ε (some ⟨p,0,none⟩),V Z f,η (eY f),η (BH++eY f),ε (some ⟨p,0,none⟩),ε (some ⟨p,0,none⟩),ε (some ⟨p,1,none⟩),V Z t,η (eY t),η (BI++eY t)].getD i undef
def A7 (p:Nat):List (Nat×Value):=[(0,ε (some ⟨p,0,none⟩))]
theorem abi (p:Nat)(f t:Int):qQ (λi=>6+i) (A7 p) 36 12 (NTx p f t):=
 ⟨λi hi=>by show 6+i<36;omega,λi j hi hj h=>by have h':6+i=6+j:=h;omega,λq J i hi=>by
  simp only[A7,Α,υ,or_false]at J;show q.1≠6+i;rcases J with rfl;simp;omega,λ_ _ _ _ h _=>h⟩
theorem Th (a:ϝ)(h:a.tmps.size=36)(hd:a.defers=[]):∃f:Nat->Value,a=⟨[f 0,f 1,f 2,f 3,f 4,f 5,f 6,f 7,f 8,f 9,f 10,f 11,f 12,f 13,f 14,f 15,f 16,f 17,f 18,f 19,f 20,f 21,f 22,f 23,f 24,f 25,f 26,f 27,f 28,f 29,f 30,f 31,f 32,f 33,f 34,f 35].toArray,[]⟩/\∀k,a.eval (.tmp k)=f k:=gK 36 a h hd
theorem JC (w0:κ)(p:Nat)(f t:Int)(v:Value)(L:List eC)(w:κ)(ht:iX w0)(U:Below w0.heap.size w0 w)(h:gL w p f t v L)(hv:∀j,v.ownBlock=some j->w0.heap.size<=j)(hL:L.length+4<=16777216)(Y:∀e∈L,(e.k=0\/e.k=1\/e.k=2)/\(e.m=1\/e.m=-1)):
 ό prog 67 #[ε (some ⟨p,0,none⟩)] w λE I=>∃L',L'.Perm L/\L'.Pairwise (λx y:eC=>x.t<=y.t)/\E=δ (η (rQ f t (fU 0 0 f 0 L')))/\Below w0.heap.size w0 I:=by
 have HT:Hid (∀n I,Below w0.heap.size w0 I->ό prog 101 #[V Z n] I λE az=>E=δ (η (eY n))/\Below I.heap.size I az):=H λn I U=>Ei n I (ht.on U);have HLn:Hid (∀x:Int×Int×Int,(x.2.2=1\/x.2.2=2)->∀I,Below w0.heap.size w0 I->ό prog 103 #[.agg #[V Z x.1,V Z x.2.1,V Z x.2.2]] I λE az=>E=δ (η (pg x))/\Below I.heap.size I az):=H λx N I U=>Wt x.1 x.2.1 x.2.2 I (ht.on U) N;have HW:=H h;replace U:=H U;have yP:=oz f;have rI:=oz t;have pT:=h.row.lt;clear h ht;go_enter func67,ntmps67;go_upto_region 1 with fail;have aqA:=abi p f t;refine dC 12 (by simp only[ψ,Ξ];rfl) (by simp only[ω,Τ];rfl) (GV (λi=>6+i) (NTx p f t)) (JV 36 (A7 p) w) (by kernel_rfl) (by kernel_rfl) (by kernel_rfl) (by kernel_rfl) (by kernel_rfl) (by kernel_rfl) rfl ?rops ?rdone ⟨rfl,rfl,λq J=>by
  simp only[A7,Α,υ,or_false]at J;rcases J with rfl;rfl,(Γ _ _).drew⟩
 case rops=>
  intro i o ho a I ar hG Q';have hi:i<12:=(Array.getElem?_eq_some_iff.1 ho).1;have t0:a.eval (.tmp 0)=ε (some ⟨p,0,none⟩):=ar.fixed (0,_) (by simp[A7]);have hf8:(⟨#[68,84,83,84,65,82,84,58]⟩:ByteArray).size=8:=rfl;have hf9:(⟨#[68,84,69,78,68,58]⟩:ByteArray).size=6:=rfl;have ea:i=0\/i=1\/i=2\/i=3\/i=4\/i=5\/i=6\/i=7\/i=8\/i=9\/i=10\/i=11:=by omega
  rcases ea with rfl|rfl|rfl|rfl|rfl|rfl|rfl|rfl|rfl|rfl|rfl|rfl<;>obtain rfl:=μ ho
  ·exact ai (cJ rfl t0) (bp aqA ar)
  ·have S:a.eval (.tmp 6)=ε (some ⟨p,0,none⟩):=aB hG 0;exact ai (dF rfl S) (bp aqA ar)
  ·have S:a.eval (.tmp 7)=ε (some ⟨p,0,none⟩):=aB hG 1;exact ai (cH rfl S SD) (bp aqA ar)
  ·have S:a.eval (.tmp 8)=ε (some ⟨p,0,none⟩):=aB hG 2;exact ai (aV rfl S (dQ ((HW.out.row.on ar.below).cell (k:=0) rfl))) (bp aqA ar)
  ·have S:a.eval (.tmp 9)=V Z f:=aB hG 3;exact tZ (f:=101) (args:=#[a.eval (.tmp 9)]) (by kernel_rfl) (by rw[S];exact HT.out f I (U.out.trans (ar.below.mono U.out.size))) (λaz U=>lV aqA rfl (by decide) ar U rfl)
  ·have S:a.eval (.tmp 10)=η (eY f):=aB hG 4;exact ai (qk rfl rfl S (by omega)) (bp aqA ar)
  ·exact ai (cJ rfl t0) (bp aqA ar)
  ·have S:a.eval (.tmp 12)=ε (some ⟨p,0,none⟩):=aB hG 6;exact ai (dF rfl S) (bp aqA ar)
  ·have S:a.eval (.tmp 13)=ε (some ⟨p,0,none⟩):=aB hG 7;exact ai (cH rfl S SE) (bp aqA ar)
  ·have S:a.eval (.tmp 14)=ε (some ⟨p,1,none⟩):=aB hG 8;exact ai (aV rfl S (dQ ((HW.out.row.on ar.below).cell (k:=1) rfl))) (bp aqA ar)
  ·have S:a.eval (.tmp 15)=V Z t:=aB hG 9;exact tZ (f:=101) (args:=#[a.eval (.tmp 15)]) (by kernel_rfl) (by rw[S];exact HT.out t I (U.out.trans (ar.below.mono U.out.size))) (λaz U=>lV aqA rfl (by decide) ar U rfl)
  have S:a.eval (.tmp 16)=η (eY t):=aB hG 10;exact ai (qk rfl rfl S (by omega)) (bp aqA ar)
 case rdone=>
  intro a w3 ar hG;have Ti:a.eval (.tmp 11)=η (BH++eY f):=hG 5 (by decide);have Eu:a.eval (.tmp 17)=η (BI++eY t):=hG 11 (by decide);have t0:a.eval (.tmp 0)=ε (some ⟨p,0,none⟩):=ar.fixed (0,_) (by simp[A7]);have aP:=ar.below;have fc:=ar.size;have fi:=ar.defers;clear ar hG aqA;obtain⟨fr,rfl,hf⟩:=Th a fc fi;have g0:=(hf 0).symm.trans t0;have g11:=(hf 11).symm.trans Ti;have g17:=(hf 17).symm.trans Eu;clear hf fc fi t0 Ti Eu;rw[g0,g11,g17];clear g0 g11 g17;have pS:X (w3.alloc (θ #[η La,η (BH++eY f),η (BI++eY t)] 9)) w3.heap.size [η La,η (BH++eY f),η (BI++eY t)] 9:=X.new w3 _ _;have cq:Below w3.heap.size w3 (w3.alloc (θ #[η La,η (BH++eY f),η (BI++eY t)] 9)):=(Γ _ _).alloc (π _) _;have Im:=H (show(w3.alloc (θ #[η La,η (BH++eY f),η (BI++eY t)] 9)).heap.size=w3.heap.size+1 by simp);have HS4:=H ((HW.out.on aP).on cq);have QQ:=H ((U.out.trans (aP.mono U.out.size)).trans (cq.mono (χ U.out.size aP.size)));unfold La at pS HS4 QQ Im cq;go_upto_region 2 with fail;have tO:=aP.size;have agq:∀j,v.ownBlock=some j->j<w.heap.size:=λj hj=>(HW.out.own.lt j hj).2;clear aP cq HW HT;generalize(w3.alloc (θ #[η ⟨#[66,69,71,73,78,58,86,70,82,69,69,66,85,83,89]⟩,η (BH++eY f),η (BI++eY t)] 9))=aqw at *
  have HST:=H (Jz p f t v L aqw HS4.out (by omega) Y);go_upto_region 3 with(go_at_call 102;refine(HST.out).mono ?_;rintro E aqp ⟨vs,L',tU,Ot,rfl,ZE,ZF⟩;obtain⟨av,cv,hvs⟩:=Gc ZE;subst hvs);clear HST;have hXs:aqw.heap.size<=aqp.heap.size:=ZF.size;have hrY:X aqp w3.heap.size [η La,η (BH++eY f),η (BI++eY t)] 9:=pS.ex ZF (λe=>by have:=agq _ e;omega);have tW:=H (show Below w0.heap.size w0 aqp from QQ.out.trans (ZF.below QQ.out.size hv));have hRk:Hid (∀x∈fU 0 0 f 0 L',x.2.2=1\/x.2.2=2):=H (zN L' 0 0 f 0 (.inl rfl));have hRl:(fU 0 0 f 0 L').length+4<=16777216:=by have:=Cv L' 0 0 f 0;have:=tU.length_eq;omega
  have HF:Hid (∀(E:Á) (I:κ),E=δ (η (rQ f t (fU 0 0 f 0 L')))/\Below w0.heap.size w0 I->∃L':List eC,L'.Perm L/\L'.Pairwise (λx y:eC=>x.t<=y.t)/\E=δ (η (rQ f t (fU 0 0 f 0 L')))/\Below w0.heap.size w0 I):=H λE I ⟨G,A⟩=>⟨L',tU,Ot,G,A⟩;have akg:∀j,av.map (·.block)=some j->w3.heap.size+1<=j/\j<aqp.heap.size:=λj hj=>by
   have:=ZE.lt j (by cases av with|none=>cases hj|some q=>exact hj);have:=Im.out;omega
  generalize fU 0 0 f 0 L'=R at *
  clear ZF HS4 QQ pS tU Ot Y hL;have adi:=H ZE;clear ZE;go_wp2_with fail;go_loopg [3,22] R.length (λq s3 Zj wr=>∃i:Nat,i+q=R.length/\Zj=V Z i/\wr.ownsRow w3.heap.size 9 1 s3 (3+i) (fk (oE f t (R.take i)))/\(∀j,s3.ownBlock=some j->j=w3.heap.size\/aqp.heap.size<=j)/\aj (λj=>j=w3.heap.size) aqp wr/\Hid (Below w0.heap.size w0 wr))
  case atStart=>
   refine⟨0,by omega,rfl,?_,λj hj=>.inl (μ hj).symm,aj.refl _ _,tW⟩;have:=QR (B:=w3.heap.size) hrY (π _) (by simp);simpa[oE,fk]using this
  case round=>
   obtain⟨i,Zk,rfl,ho,hob,pV,bj⟩:=hrel;have hsw:=pV.size;by_cases mw:i=R.length
   case pos=>
    subst mw;rw[Ϭ]at ho;obtain⟨ls,vm⟩:∃ls,ls=(oE f t R++[uq]).map ByteArray.toList:=⟨_,rfl⟩;have OG:ls.length=3+R.length+1:=by rw[vm];unfold oE;simp;omega
    have hlb:(kE ls).length<=102*ls.length:=zO ls (λl K=>by
     rw[vm]at K;obtain⟨aqw,hX,rfl⟩:=List.mem_map.1 K;rw[ByteArray.toList_eq,ϥ];show aqw.size<=100;exact Il f t R aqw hX)
    have Eh:∀j,u3.ownBlock=some j->w0.heap.size<=j:=λj hj=>by
     have:=(ho.lt j hj).1;have:=U.out.size;omega
    have HFT:=H (HF.out);have h3Y:w3.heap.size<=wr.heap.size:=by have:=Im.out;omega
    have htx:Hid ((⟨(kE ls).toArray⟩:ByteArray)=rQ f t R):=H (by rw[vm];rfl);have hoW:=ho.alloc (θ #[η ⟨#[69,78,68,58,86,70,82,69,69,66,85,83,89]⟩] 9);have lX:X (wr.alloc (θ #[η ⟨#[69,78,68,58,86,70,82,69,69,66,85,83,89]⟩] 9)) wr.heap.size [η ⟨#[69,78,68,58,86,70,82,69,69,66,85,83,89]⟩] 9:=X.new wr _ _;obtain⟨a3,c3,Gd⟩:=Gc ho;rw[Gd]at hoW Eh;rw[Gd];replace vm:=H vm;clear ho HF Gd;go_wp2_with (first
     |(refine F7 rfl (.tmp 32) (.tmp 33) 55 9 _ 1 16 rfl underlying55 td rfl (by decide) w3.heap.size _ (3+R.length) (fk (oE f t R)) rfl hoW wr.heap.size 1 (by decide) [η ⟨#[69,78,68,58,86,70,82,69,69,66,85,83,89]⟩] rfl rfl lX (by simp[Ε]) (by omega) (by decide) (by simp;omega) ?_;intro g9 Ws ae ZG ZH hqV;have QS:=H (show Below w0.heap.size w0 ae from(bj.out.alloc bj.out.size _).grown ZH (by simp;have:=bj.out.size;omega) Eh);have hnV:=Tg ZG vm.out;have Io:=(ZG.lt g9 rfl).2;have CW:=H (JD g9 Ws ls ae Io hnV (by omega) (by omega));rw[OG,htx.out]at CW)
     |(go_at_call 104;refine(CW.out).mono ?_;rintro E aqu ⟨rfl,hbU⟩))
    go_ret;exact HFT.out _ _ ⟨rfl,QS.out.trans (hbU.mono QS.out.size)⟩
   case neg=>
    have aR:i<R.length:=by omega
    have zF:(i:Int)<(R.length:Int):=by omega
    obtain⟨x,N⟩:∃x,R[i]?=some x:=⟨_,ο aR⟩;obtain⟨g1,g2,g3⟩:=Tf N;rcases adi.out.2 with⟨_,h0⟩|⟨gv,cap,cur,Lb,_⟩
    ·omega
    injection Lb with akh aki akj
    subst akh akj;clear aki;have hgv:=akg gv rfl;have Tj:∀m u,(js R)[m]?=some u->wr.cell? ⟨gv,m,none⟩=some u:=λm u hm=>by
     have S:=adi.out.cells (g:=gv) rfl m u hm;rw[Addr.add_lit,Nat.zero_add]at S;rw[Ϟ (pV.block gv hgv.2 (by omega))];exact S
    have q0:=Tj _ _ g1;have q1:=Tj _ _ g2;have q2:=Tj _ _ g3;have CL:=H (HLn.out x (hRk.out x (Λ N)));clear Tj g1 g2 g3;obtain⟨a3,c3,Gd⟩:=Gc ho;have wN:Hid (∀ad,Below wr.heap.size wr ad->X (ad.alloc (θ #[η (pg x)] 9)) ad.heap.size [η (pg x)] 9):=H λad _=>X.new ad _ _;have SR:Hid (∀ad,Below wr.heap.size wr ad->(ad.alloc (θ #[η (pg x)] 9)).ownsRow w3.heap.size 9 1 u3 (3+i) (fk (oE f t (R.take i)))):=H λad hZ=>(dB ho λg _ K=>hZ.block g K).alloc _;have Eh:∀j,u3.ownBlock=some j->j<wr.heap.size:=λj hj=>(ho.lt j hj).2;have adl:∀j,u3.ownBlock=some j->w0.heap.size<=j:=λj hj=>by
     have:=(ho.lt j hj).1;have:=U.out.size;omega
    have Ip:Below wr.heap.size wr (wr.alloc (θ #[V Z x.1,V Z x.2.1,V Z x.2.2] 158)):=(Γ _ _).alloc (π _) _;have CLe:=H (CL.out _ (bj.out.trans (Ip.mono bj.out.size)));have adm:=H Ip;have hxe:=H (show X (wr.alloc (θ #[V Z x.1,V Z x.2.1,V Z x.2.2] 158)) wr.heap.size [V Z x.1,V Z x.2.1,V Z x.2.2] 158 from X.new wr _ _);clear ho CL Ip;rw[Gd]at SR Eh adl hob;rw[Gd];obtain⟨LT,ZI⟩:∃LT,LT=pg x:=⟨_,rfl⟩;rw[<-ZI]at wN SR CLe;replace ZI:=H ZI;go_wp2_with (first
     |(go_at_call 103;refine(CLe.out).mono ?_;rintro E ad ⟨rfl,oF⟩;have OH:=adm.out.trans (oF.mono adm.out.size))
     |(refine F7 rfl (.tmp 26) (.tmp 29) 55 9 _ 1 16 rfl underlying55 td rfl (by decide) w3.heap.size _ (3+i) (fk (oE f t (R.take i))) rfl (SR.out ad OH) ad.heap.size 1 (by decide) [η LT] rfl rfl (wN.out ad OH) (by simp[Ε]) (by omega) (by decide) (by have:=OH.size;simp;omega) ?_;intro g9 Ws ae ZG ZH hqV))
    have hsZ:=OH.size;have QS:Below w0.heap.size w0 ae:=((bj.out.trans (OH.mono bj.out.size)).alloc (χ bj.out.size hsZ) _).grown ZH (by simp;have:=bj.out.size;omega) adl;have hxV:aj (λj=>j=w3.heap.size) aqp ae:=(((pV.aK (aj.aq OH)).alloc _).trans (zC ZH) λj hj=>(hob j hj).imp id id);have ur:R.take (i+1)=R.take i++[x]:=by rw[List.take_add_one,N];rfl
    go_roundg (gk-1)
    case measure=>omega
    case rel=>
     refine⟨i+1,by omega,by go_num,?_,λj hj=>?_,hxV,H QS⟩
     ·rw[ur,WK,<-ZI.out,show fk (oE f t (R.take i)++[LT])=fk (oE f t (R.take i))++[η LT] by unfold fk;simp];exact ZG
     have e9:g9=j:=μ hj;rw[<-e9];rcases hqV with h|h
     ·exact hob g9 h
     right;rw[h];simp;omega
def uu (xs:List ByteArray)(i:Nat):ByteArray:=xs.getD i φ
def pn (xs ns:List ByteArray):Option Int:=
 if xs.length<1\/8<xs.length then some 4 else if(Θ xs.length).any (λi=>ι (xs.take i) (uu xs i))then some 4 else if(Θ xs.length).any (λi=>!Lib.containsS ns (uu xs i))then some 6 else none
def Ge (e:Option Int):Á:=match e with|none=> δ (.tuple #[])|some e=>.panicked (bx e)
theorem Iq {f:Nat->Bool}{n i:Nat}(hi:i<n)(h:f i=true):(Θ n).any f=true:=List.any_eq_true.2 ⟨i,List.mem_range.2 hi,h⟩
theorem Ev {f:Nat->Bool}{n:Nat}(h:∀i,i<n->f i=false):(Θ n).any f=false:=by
 rw[List.any_eq_false];intro i hi;rw[h i (List.mem_range.1 hi)];simp
theorem BJ (p b:Nat)(nv v:Value)(ns xs:List ByteArray)(ks:List KE)(w:κ)(h:dJ w p b nv ns ks)(N:iJ w v xs)(OC:ns.length<=8)(ib:xs.length<=9223372036854775807):
 ό prog 62 #[ε (some ⟨p,0,none⟩),v] w λE I=>E=Ge (pn xs ns)/\w=I:=by
 by_cases h0:xs.length<1\/8<xs.length
 case pos=>
  have hE:pn xs ns=some 4:=if_pos h0;rw[hE];obtain⟨a,c,rfl⟩:=N.sl;clear hE N h;generalize xs.length=n at *
  go_enter func62,ntmps62;rcases h0 with h0|h0
  ·have G:¬(1:Int)<=(n:Int):=by omega
   go_wp2_with (go_at_call 42;refine(gg 4 _).mono ?_;rintro E w4 ⟨rfl,rfl⟩);exact⟨rfl,rfl,rfl⟩
  have G:(1:Int)<=(n:Int):=by omega
  have A:¬(n:Int)<=8:=by omega
  go_wp2_with (go_at_call 42;refine(gg 4 _).mono ?_;rintro E w4 ⟨rfl,rfl⟩);exact⟨rfl,rfl,rfl⟩
 case neg=>
  rcases N.is with⟨_,_,_,e0⟩|⟨bb,off,c,rfl,Zx,dE⟩
  ·rw[e0]at h0;simp at h0
  have CP:Hid (∀i,i<=xs.length->∀x,ό prog 92 #[ζ (some ⟨bb,off,none⟩) i c,η x] w λe I=>e=δ (.bool (ι (xs.take i) x))/\w=I):=H λi hi x=>
   (Tryz.slices_Contains_string bb off i c xs x w hi (by omega) dE).mono λe I ⟨q1,q2⟩=>⟨q1,q2.symm⟩
  have CQ:Hid (∀x,ό prog 92 #[nv,η x] w λe I=>e=δ (.bool (ι ns x))/\w=I):=H λx=>xN h.names x (by omega);obtain⟨av,cv,lW⟩:=h.names.sl;have k0:=h.row.cell (k:=0) rfl;rw[lW]at k0 CQ;have HE:=H (show pn xs ns=if(Θ xs.length).any (λi=>ι (xs.take i) (uu xs i))then some 4 else if(Θ xs.length).any (λi=>!Lib.containsS ns (uu xs i))then some 6 else none from if_neg h0);have HCL:Hid (∀j,j<xs.length->w.cell? ⟨bb,off+j,none⟩=some (η (uu xs j))):=H dE;have G:(1:Int)<=(xs.length:Int):=by omega
  have A:(xs.length:Int)<=8:=by omega
  have M:xs.length<=8:=by omega
  generalize pn xs ns=NE at *
  clear dE N h h0;go_enter func62,ntmps62;go_wp2_with (go_at_call 42;refine(eS 4 _).mono ?_;rintro E w4 ⟨rfl,rfl⟩);go_loopg [19] xs.length (λk q wr=>∃i:Nat,i+k=xs.length/\q=V Z i/\w=wr/\Hid (∀j,j<i->ι (xs.take j) (uu xs j)=false))
  case atStart=>exact⟨0,by omega,rfl,rfl,H λj hj=>by omega⟩
  case round=>
   obtain⟨i,OI,rfl,rfl,cO⟩:=hrel;by_cases mw:i=xs.length
   case pos=>
    subst mw;have S:=Ev cO.out;replace HE:=H (HE.out.trans (if_neg (by rw[S];simp)));clear cO S;go_wp2_with fail;go_loopg [34] xs.length (λk q wr=>∃i:Nat,i+k=xs.length/\q=V Z i/\w=wr/\Hid (∀j,j<i->(!Lib.containsS ns (uu xs j))=false))
    case atStart=>exact⟨0,by omega,rfl,rfl,H λj hj=>by omega⟩
    case round=>
     obtain⟨i,aof,rfl,rfl,cO⟩:=hrel;by_cases mw:i=xs.length
     case pos=>
      subst mw;have S:=Ev cO.out;have e2:NE=none:=HE.out.trans (if_neg (by rw[S];simp));go_wp2_with fail;go_end0;exact⟨by rw[e2];rfl,rfl⟩
     case neg=>
      have aR:i<xs.length:=by omega
      have zF:(i:Int)<(xs.length:Int):=by omega
      have c0:=HCL.out i aR;have ZJ:=H (CQ.out (uu xs i));cases oB:ι ns (uu xs i)
      case true=>
       rw[oB]at ZJ;go_wp2_with (first
        |(go_at_call 92;refine(ZJ.out).mono ?_;rintro E w4 ⟨rfl,rfl⟩)
        |(go_at_call 42;refine(eS 6 _).mono ?_;rintro E w4 ⟨rfl,rfl⟩))
       go_roundg (gk-1)
       case measure=>omega
       case rel=>exact⟨i+1,by omega,by go_num,rfl,H λj hj=>by
        by_cases fB:j=i
        ·subst fB;rw[oB];rfl
        exact cO.out j (by omega)⟩
      case false=>
       have e2:NE=some 6:=HE.out.trans (if_pos (Iq aR (by rw[oB];rfl)));rw[oB]at ZJ;go_wp2_with (first
        |(go_at_call 92;refine(ZJ.out).mono ?_;rintro E w4 ⟨rfl,rfl⟩)
        |(go_at_call 42;refine(gg 6 _).mono ?_;rintro E w4 ⟨rfl,rfl⟩))
       exact⟨rfl,by rw[e2];exact⟨rfl,rfl⟩⟩
   case neg=>
    have aR:i<xs.length:=by omega
    have zF:(i:Int)<(xs.length:Int):=by omega
    have c0:=HCL.out i aR;have hic:i<=c:=by omega
    have ZK:=H (CP.out i (by omega) (uu xs i));cases oB:ι (xs.take i) (uu xs i)
    case false=>
     rw[oB]at ZK;go_wp2_with (first
      |(go_at_call 92;refine(ZK.out).mono ?_;rintro E w4 ⟨rfl,rfl⟩)
      |(go_at_call 42;refine(eS 4 _).mono ?_;rintro E w4 ⟨rfl,rfl⟩))
     go_roundg (gk-1)
     case measure=>omega
     case rel=>exact⟨i+1,by omega,by go_num,rfl,H λj hj=>by
      by_cases fB:j=i
      ·subst fB;exact oB
      exact cO.out j (by omega)⟩
    case true=>
     have e2:NE=some 4:=HE.out.trans (if_pos (Iq aR oB));rw[oB]at ZK;go_wp2_with (first
      |(go_at_call 92;refine(ZK.out).mono ?_;rintro E w4 ⟨rfl,rfl⟩)
      |(go_at_call 42;refine(gg 4 _).mono ?_;rintro E w4 ⟨rfl,rfl⟩))
     exact⟨rfl,by rw[e2];exact⟨rfl,rfl⟩⟩
end Go.Proofs.YtchdfdmjihnhkaaGreatDoor
