import Derived.Test.YthpndgcaoeokeaaGreatDoorCv2
import Derived.Shelf.Abstract
import Derived.Lib.Replace
set_option maxRecDepth 100000
set_option maxHeartbeats 16000000
open Go.IntKind renaming i64->Z
open Go.Value renaming int->V,pointer->ζ,slice->η,string->θ,bool->ξ,int->Α
open Go.Ending renaming returned->δ,panicked->ε
open Go.Obj renaming cells->ι
open Go.RowKit.Below renaming refl->κ
open Go renaming World->μ,Calls->φ,Oper->Ζ,TypeId->Η,Ending->Ω,Act->ό,Program->ύ
open Nat renaming le_refl->ν,eq_or_lt_of_le->ώ,zero_add->ϛ
open Go.Ending.returned renaming inj->ο
open Go.Lib renaming trimSuffix->π,compact->Δ,countB->Χ,hasSuffix->Ϛ
open Go.Instr renaming loadAt->ρ,indexAt->τ,storeAt->Ψ
open Go.Region renaming binds->υ,ready->Γ,wanted->Φ
open List renaming all_eq_true->χ,isPrefixOf->Β,getElem?_eq_getElem->Κ,getLast?_cons_cons->Λ,range->Ν,getElem?_map->Ο,length_drop->Ρ,length_take->Ϗ,length_map->Ϙ,mem_cons->ϙ,length->Ϝ
open Bool renaming and_eq_true->ψ,false_ne_true->Ξ,and_eq_false_iff->ϋ
open Go.Ending.panicked renaming inj->ω
open Option renaming map_some->Ε,getD_some->Ι
open Option.some renaming inj->Θ,injEq->ϝ
open Array renaming any_eq_true'->Μ,getD_eq_getD_getElem?->Τ,getElem?_append_left->Υ,getElem?_modify->ϊ,replicate->ϗ
namespace Go.Proofs.YthpndgcaoeokeaaGreatDoor
open Tryz
open Go.RowKit
section
open Go.Sort
def ew (x:Int)(o:Option Int):Ω:=match o with|none=> ε (bF x)|some z=> δ (V Z z)
def qj (f:Option (List UInt8)):Option Int:=(idx jd (f.getD [])).map λk:Nat=>(k:Int)
def Bk (v:List UInt8):Option Int:=(idx jO v).map λk:Nat=>(k:Int)
def qk (lo S:Int)(v:List UInt8):Option Int:=if mX v lo S=true then some (dw v)else none
def tv (most:Int)(v:List UInt8):Option Int:=if fF v most=0 then none else some (fF v most)
def wO (f:Option (List UInt8)):Option Int:=match f with|none=>some 0|some v=>qk 1 1000 v
def wP (f:Option (List UInt8)):Option Int:=match f with|none=>some 9223372036854775807|some v=>if lq (bU v)=true then some (jA (bU v))else none
def fU (v:List UInt8):Option Int:=if lq (bU v)=true then some (jA (bU v))else none
theorem Qy (ns:List (List UInt8))(v:List UInt8)(x:Int):C9 ns v x=ew x ((idx ns v).map λk:Nat=>(k:Int)):=by
 unfold C9 ew;cases idx ns v<;>rfl
theorem Hr (v:List UInt8)(lo S x:Int):FM v lo S x=ew x (qk lo S v):=by
 unfold FM ew qk;cases mX v lo S<;>rfl
theorem Qz (v:List UInt8)(most x:Int):FN v most x=ew x (tv most v):=by
 unfold FN ew tv;by_cases h:fF v most=0
 ·rw[if_pos h,if_pos h]
 rw[if_neg h,if_neg h]
theorem Zs (f:Option (List UInt8)):MV f=ew 3 (wO f):=by
 unfold MV wO;cases f with
 |none=>rfl
 |some v=>exact Hr v 1 1000 3
theorem Zt (f:Option (List UInt8)):MW f=ew 3 (wP f):=by
 unfold MW wP ew;cases f with
 |none=>rfl
 |some v=>simp only[];split<;>rfl
theorem vW (v:List UInt8):tF (bU v)=ew 1 (fU v):=by
 unfold tF fU ew;split<;>rfl
def sL (rd:List UInt8->Option Int)(f:Option (List UInt8))(x:Int)(w:μ)(E:Ω)(Y:μ):Prop:=
 ((∃zs v,dW rd f=some zs/\E=δ v/\cr Y v zs)\/(dW rd f=none/\E=ε (bF x)))/\Below w.heap.size w Y
def VO (f:Option (List UInt8))(w:μ)(E:Ω)(Y:μ):Prop:=
 ((∃zs v,dW lV f=some zs/\E=δ v/\gE Y v zs)\/(dW lV f=none/\E=ε (bF 3)))/\Below w.heap.size w Y
theorem Bl (fn:FuncId)(x:Int)(w:μ):
 φ prog 136 #[bE none,V Z x,.func (.func fn) #[] #[]] w λE Y=>E=δ (η none 0 0)/\Below w.heap.size w Y:=by
 unfold bE;go_enter func136,ntmps136;go_wp2;go_ret;exact⟨rfl,(κ _ _).alloc (ν _) _⟩
theorem OQ (fn:FuncId)(x:Int)(w:μ):
 φ prog 147 #[bE none,V Z x,.func (.func fn) #[] #[]] w λE Y=>E=δ (η none 0 0)/\Below w.heap.size w Y:=by
 unfold bE;go_enter func147,ntmps147;go_wp2;go_ret;exact⟨rfl,(κ _ _).alloc (ν _) _⟩
theorem rV (rd:List UInt8->Option Int)(fn:FuncId)(f:Option (List UInt8))(x:Int)(w:μ)(hm:ML w)(N:(f.getD []).length<=1048576)(sD:Enters prog fn)
 (hr:∀(t:List UInt8) (W:μ),t.length<=1048576->φ prog fn #[θ ⟨t.toArray⟩] W λE Y=>E=ew x (rd t)/\Below W.heap.size W Y):
 φ prog 136 #[bE f,V Z x,.func (.func fn) #[] #[]] w (sL rd f x w):=by
 cases f with
 |none=>exact(Bl fn x w).mono λE Y ⟨G,A⟩=>⟨.inl ⟨[],_,rfl,G,.inl ⟨rfl,rfl⟩⟩,A⟩
 |some v=>
  refine(Bg rd fn v x w hm N sD (λt W ht=>(hr t W ht).mono λE Y ⟨G,A⟩=>⟨by rw[G];unfold ew;cases rd t<;>rfl,A⟩)).mono λE Y ⟨G,A⟩=>⟨?_,A⟩;unfold xI at G;cases hq:dW rd (some v)with
  |none=>rw[hq]at G;exact .inr ⟨rfl,G⟩
  |some zs=>
   rw[hq]at G;obtain⟨g,e,_,aB⟩:=G;exact .inl ⟨zs,_,rfl,e,.inr ⟨g,rfl,aB⟩⟩
theorem SD (f:Option (List UInt8))(w:μ)(hm:ML w)(N:(f.getD []).length<=1048576):
 φ prog 147 #[bE f,V Z 3,.func (.func 148) #[] #[]] w (VO f w):=by
 cases f with
 |none=>exact(OQ _ 3 w).mono λE Y ⟨G,A⟩=>⟨.inl ⟨[],_,rfl,G,.inl ⟨rfl,rfl⟩⟩,A⟩
 |some v=>
  refine(OP lV 148 v 3 w hm N (enters_of func148 (by kernel_rfl) rfl) (λt W ht=>(FT t W ht).mono λE Y ⟨G,A⟩=>⟨by rw[G];unfold zG;cases lV t<;>rfl,A⟩)).mono λE Y ⟨G,A⟩=>⟨?_,A⟩;unfold Bh at G;cases hq:dW lV (some v)with
  |none=>rw[hq]at G;exact .inr ⟨rfl,G⟩
  |some zs=>
   rw[hq]at G;obtain⟨g,e,_,aB⟩:=G;exact .inl ⟨zs,_,rfl,e,.inr ⟨g,rfl,aB⟩⟩
theorem mZ {n:Nat}(h:n<=1048576):n<=maxLen:=by unfold maxLen;omega
theorem SE (f:Option (List UInt8))(w:μ)(hm:ML w)(N:(f.getD []).length<=1048576):
 φ prog 136 #[bE f,V Z 3,.func (.func 145) #[] #[]] w (sL (qk 1 12) f 3 w):=
 rV _ _ f 3 w hm N (enters_of func145 (by kernel_rfl) rfl) (λt W ht=>(Kw t W (mZ ht)).mono λE Y ⟨G,A⟩=>⟨by rw[G,Hr],A⟩)
theorem Cg (f:Option (List UInt8))(w:μ)(hm:ML w)(N:(f.getD []).length<=1048576):
 φ prog 136 #[bE f,V Z 3,.func (.func 146) #[] #[]] w (sL (tv 31) f 3 w):=
 rV _ _ f 3 w hm N (enters_of func146 (by kernel_rfl) rfl) (λt W ht=>(D3 t W (mZ ht)).mono λE Y ⟨G,A⟩=>⟨by rw[G,Qz],A⟩)
theorem SF (f:Option (List UInt8))(w:μ)(hm:ML w)(N:(f.getD []).length<=1048576):
 φ prog 136 #[bE f,V Z 3,.func (.func 149) #[] #[]] w (sL (tv 366) f 3 w):=
 rV _ _ f 3 w hm N (enters_of func149 (by kernel_rfl) rfl) (λt W ht=>(Kx t W (mZ ht)).mono λE Y ⟨G,A⟩=>⟨by rw[G,Qz],A⟩)
theorem Hs (f:Option (List UInt8))(w:μ)(hm:ML w)(N:(f.getD []).length<=1048576):
 φ prog 136 #[bE f,V Z 1,.func (.func 78) #[] #[]] w (sL fU f 1 w):=
 rV _ _ f 1 w hm N (enters_of func78 (by kernel_rfl) rfl) (λt W _=>(nE (bU t) W).mono λE Y ⟨G,A⟩=>⟨by rw[G,vW],A⟩)
theorem F0 (f:Option (List UInt8))(o:List UInt8)(w:μ):φ prog 134 #[bE f,θ ⟨o.toArray⟩] w λE Y=>E=δ (θ ⟨(f.getD o).toArray⟩)/\Below w.heap.size w Y:=by
 cases f with
 |none=>exact aiU _ _ w
 |some v=>exact agz _ _ w
structure aC where
 fq:Int
 iv:Int
 ct:Int
 un:Int
 ms:List Int
 mds:List Int
 wks:List (Int×Int)
 pls:List Int
 ws:Int
structure oB (F:Nat->Option (List UInt8))(r:aC):Prop where
 fq:qj (F 0)=some r.fq
 iv:qk 1 100 ((F 1).getD [49])=some r.iv
 ct:wO (F 2)=some r.ct
 un:wP (F 3)=some r.un
 ms:dW (qk 1 12) (F 4)=some r.ms
 mds:dW (tv 31) (F 5)=some r.mds
 wks:dW lV (F 6)=some r.wks
 pls:dW (tv 366) (F 7)=some r.pls
 ws:Bk ((F 8).getD [77,79])=some r.ws
theorem bj {P:ύ}{w Y:μ}{v:Value}{s:Sem Value}(h:s.run P w=.ok v Y):(do pure (Next.value (←s)):Sem Next).run P w=.ok (.value v) Y:=by
 simp[h]
theorem D8 {P:ύ}{w Y:μ}{s:Sem Unit}(h:s.run P w=.ok () Y):(do s;pure Next.skip:Sem Next).run P w=.ok .skip Y:=by
 simp[h]
theorem dM (g:Nat)(k:Nat)(I:k<9)(w:μ):(τ 118 (η (some ⟨g,0,none⟩) 9 9) (V Z (k:Int))).run prog w=.ok (ζ (some ⟨g,k*2,none⟩)) w:=by
 have cj:(k:Int)<9:=by omega
 go_simp
theorem dt {g k:Nat}{F:Nat->Option (List UInt8)}{w:μ}(hF:cV w g F)(I:k<9):(ρ 122 (ζ (some ⟨g,k*2,none⟩))).run prog w=.ok (bE (F k)) w:=by
 have c0:=hF.val k I;have c1:=hF.there k I;unfold bE;go_simp
def bX (fq iv ct un:Int)(m md wk pl:Value)(ws:Int)(tx:ByteArray):List Value:=[V Z fq,V Z iv,V Z ct,V Z un,m,md,wk,pl,V Z ws,θ tx]
def gD (F:Nat->Option (List UInt8)):ByteArray:=⟨(Lib.join (gG F 9) [59]).toArray⟩
def RV (F:Nat->Option (List UInt8))(w:μ)(v:Value):Prop:=
 ∃(r:aC) (m md wk pl:Value),oB F r/\v=bC r.fq r.iv r.ct r.un m md wk pl r.ws (gD F)/\cr w m r.ms/\cr w md r.mds/\gE w wk r.wks/\cr w pl r.pls
def RB (F:Nat->Option (List UInt8))(w:μ)(b:Nat):Prop:=
 ∃(r:aC) (m md wk pl:Value),oB F r/\M w b (bX r.fq r.iv r.ct r.un m md wk pl r.ws (gD F)) 76/\cr w m r.ms/\cr w md r.mds/\gE w wk r.wks/\cr w pl r.pls
def Gr (T:Η)(w Y:μ):Prop:=(∀k cs t,t≠T->M w k cs t->M Y k cs t)/\∀k cs,M w k cs T->∃mR,mR.length=cs.length/\M Y k mR T
theorem Gr.of {T:Η}{w Y:μ}(U:Below w.heap.size w Y):Gr T w Y:=⟨λ_ _ _ _ h=>h.on U,λ_ cs h=>⟨cs,rfl,h.on U⟩⟩
theorem Gr.refl (T:Η)(w:μ):Gr T w w:=⟨λ_ _ _ _ h=>h,λ_ cs h=>⟨cs,rfl,h⟩⟩
theorem Gr.trans {T:Η}{w Y az:μ}(h:Gr T w Y)(h':Gr T Y az):Gr T w az:=⟨λk cs t ht hr=>h'.1 k cs t ht (h.1 k cs t ht hr),λk cs hr=>by
 obtain⟨c1,e1,r1⟩:=h.2 k cs hr;obtain⟨c2,e2,r2⟩:=h'.2 k c1 r1;exact⟨c2,e2.trans e1,r2⟩⟩
theorem M.ne {w:μ}{b k:Nat}{cs mR:List Value}{t t':Η}(h:M w b cs t)(h':M w k mR t')(ht:t≠t'):k≠b:=λe=>by
 subst e;unfold M at h h';rw[h]at h';cases h';exact ht rfl
theorem Gr.set {T:Η}{w:μ}{b i:Nat}{cs:List Value}(h:M w b cs T)(v:Value):Gr T w (w.setCell ⟨b,i,none⟩ v):=by
 refine⟨λk c t ht hr=>hr.other (h.ne hr (Ne.symm ht)) v,λk c hr=>?_⟩;by_cases e:k=b
 ·subst e;exact⟨c.set i v,by simp,hr.set v⟩
 exact⟨c,rfl,hr.other e v⟩
theorem cr.gr {T:Η}{w Y:μ}{v:Value}{zs:List Int}(hT:3≠T)(h:cr w v zs)(g:Gr T w Y):cr Y v zs:=h.imp id λ⟨k,G,A⟩=>⟨k,G,g.1 _ _ _ hT A⟩
theorem gE.gr {T:Η}{w Y:μ}{v:Value}{zs:List (Int×Int)}(hT:183≠T)(h:gE w v zs)(g:Gr T w Y):gE Y v zs:=h.imp id λ⟨k,G,A⟩=>⟨k,G,g.1 _ _ _ hT A⟩
def ql (i:Nat):Nat:=if i=41 then 4 else 21+i
def NN (g:Nat)(F:Nat->Option (List UInt8))(B:Nat)(i:Nat)(v:Value)(w:μ):Prop:=match i with
 |0|4|9|13|17|21|25|29|33|38=>v=η (some ⟨g,0,none⟩) 9 9
 |1=>v=ζ (some ⟨g,0*2,none⟩)
 |5=>v=ζ (some ⟨g,1*2,none⟩)
 |10=>v=ζ (some ⟨g,2*2,none⟩)
 |14=>v=ζ (some ⟨g,3*2,none⟩)
 |18=>v=ζ (some ⟨g,4*2,none⟩)
 |22=>v=ζ (some ⟨g,5*2,none⟩)
 |26=>v=ζ (some ⟨g,6*2,none⟩)
 |30=>v=ζ (some ⟨g,7*2,none⟩)
 |34=>v=ζ (some ⟨g,8*2,none⟩)
 |2=>v=bE (F 0)
 |6=>v=bE (F 1)
 |11=>v=bE (F 2)
 |15=>v=bE (F 3)
 |19=>v=bE (F 4)
 |23=>v=bE (F 5)
 |27=>v=bE (F 6)
 |31=>v=bE (F 7)
 |35=>v=bE (F 8)
 |3=>∃z,qj (F 0)=some z/\v=V Z z
 |7=>v=θ ⟨((F 1).getD [49]).toArray⟩
 |8=>∃z,qk 1 100 ((F 1).getD [49])=some z/\v=V Z z
 |12=>∃z,wO (F 2)=some z/\v=V Z z
 |16=>∃z,wP (F 3)=some z/\v=V Z z
 |20=>∃zs,dW (qk 1 12) (F 4)=some zs/\cr w v zs
 |24=>∃zs,dW (tv 31) (F 5)=some zs/\cr w v zs
 |28=>∃zs,dW lV (F 6)=some zs/\gE w v zs
 |32=>∃zs,dW (tv 366) (F 7)=some zs/\cr w v zs
 |36=>v=θ ⟨((F 8).getD [77,79]).toArray⟩
 |37=>∃z,Bk ((F 8).getD [77,79])=some z/\v=V Z z
 |39=>v=θ (gD F)
 |40=>RV F w v
 |41=>∃b,v=ζ (some ⟨b,0,none⟩)/\B<=b/\∃cs,cs.length=10/\M w b cs 76
 |_=>True
def GG (g:Nat)(F:Nat->Option (List UInt8))(B:Nat)(i:Nat)(a:ό)(w:μ):Prop:=
 if i=42 then ∃b,a.eval (.tmp 4)=ζ (some ⟨b,0,none⟩)/\B<=b/\RB F w b else NN g F B i (a.eval (.tmp (ql i))) w
theorem rW:(3:Η)≠76:=by decide
theorem SG:(183:Η)≠76:=by decide
theorem RV.gr {F:Nat->Option (List UInt8)}{w Y:μ}{v:Value}(h:RV F w v)(g:Gr 76 w Y):RV F Y v:=by
 obtain⟨r,m,md,wk,pl,G,A,K,h4,h5,h6⟩:=h;exact⟨r,m,md,wk,pl,G,A,K.gr rW g,h4.gr rW g,h5.gr SG g,h6.gr rW g⟩
theorem NN.gr {g:Nat}{F:Nat->Option (List UInt8)}{B i:Nat}{v:Value}{w Y:μ}(h:NN g F B i v w)(gr:Gr 76 w Y):NN g F B i v Y:=by
 unfold NN at h⊢;split<;>first
  |exact h
  |exact trivial
  |(obtain⟨zs,G,A⟩:=h;exact⟨zs,G,A.gr rW gr⟩)
  |(obtain⟨zs,G,A⟩:=h;exact⟨zs,G,A.gr SG gr⟩)
  |exact RV.gr h gr
  |(obtain⟨b,G,A,cs,K,h4⟩:=h;obtain⟨mR,h5,h6⟩:=gr.2 b cs h4;exact⟨b,G,A,mR,h5.trans K,h6⟩)
theorem Zu {i j:Nat}(S:i<42)(hj:j<42)(h:j≠i):ql j≠ql i:=by
 unfold ql;split<;>split<;>omega
structure II (W:μ)(r g:Nat)(a:ό)(w:μ):Prop where
 size:a.tmps.size=66
 defers:a.defers=[]
 s2:a.eval (.tmp 2)=ζ (some ⟨r,0,none⟩)
 s3:a.eval (.tmp 3)=η (some ⟨g,0,none⟩) 9 9
 below:Below W.heap.size W w
theorem II.put {W:μ}{r g:Nat}{a:ό}{w Y:μ}{i:Nat}{v:Value}(h:II W r g a w)(U:Below W.heap.size W Y):II W r g (a.put (some (ql i)) v) Y:=
 ⟨by rw[gm];exact h.size,by rw[put_defers];exact h.defers,by rw[cZ (by unfold ql;split<;>omega)];exact h.s2,by rw[cZ (by unfold ql;split<;>omega)];exact h.s3,U⟩
def yM (ops:Array Ζ):Bool:=((ops[42]?).map λo=>(Ν 42).all λi=>o.after.any λe=>υ .any e&&e.on==i).getD true
theorem F1 {ops:Array Ζ}{o:Ζ}{i:Nat}(h:yM ops=true)(ho:ops[42]?=some o)(S:i<42):∃e∈o.after,υ .any e=true/\e.on=i:=by
 unfold yM at h;rw[ho,Ε,Ι,χ]at h;have:=h i (List.mem_range.2 S);rw[Μ]at this;obtain⟨e,he,U⟩:=this;simp only[ψ,beq_iff_eq]at U;exact⟨e,he,U.1,U.2⟩
theorem bH {W:μ}{r g:Nat}{F:Nat->Option (List UInt8)}{a:ό}{w Y:μ}{i n:Nat}{v:Value}{dst:Option Nat}{ops:Array Ζ}(hd:dst=some (ql i))(S:i<42)(h:II W r g a w)(U:Below w.heap.size w Y)(hn:NN g F n i v Y)
 (M5:yM ops=true)(bp:ops.size=43):
 II W r g (a.put dst v) Y/\GG g F n i (a.put dst v) Y/\∀j oj,ops[j]?=some oj->j≠i->(∀e∈oj.after,υ .any e=true->e.on≠i)->GG g F n j a w->GG g F n j (a.put dst v) Y:=by
 subst hd;have hs:ql i<a.tmps.size:=by rw[h.size];unfold ql;split<;>omega
 refine⟨h.put (h.below.trans (U.mono h.below.size)),?_,λj oj jm fA iH hg=>?_⟩
 ·unfold GG;rw[if_neg (by omega),gR hs];exact hn
 by_cases hj:j=42
 ·subst hj;obtain⟨e,he,mW,heq⟩:=F1 M5 jm S;exact absurd heq (iH e he mW)
 have M6:j<43:=by rw[<-bp];exact(Array.getElem?_eq_some_iff.1 jm).1
 unfold GG at hg⊢;rw[if_neg hj]at hg⊢;rw[cZ (Zu S (by omega) fA)];exact hg.gr (Gr.of U)
def bu:List Value:=bX 0 0 0 0 (η none 0 0) (η none 0 0) (η none 0 0) (η none 0 0) 0 ⟨#[]⟩
def partsOf (s:List UInt8):Option (Nat->Option (List UInt8)):=eH cC 61 (bY 59 s) (λ_=>none)
def F2 (r:aC):Bool:=xL r.fq r.ms.length r.mds.length r.wks.length r.pls.length (ie r.wks)
def na (s:List UInt8)(F:Nat->Option (List UInt8))(r:aC):Prop:=partsOf s=some F/\¬((F 2).isSome=true/\(F 3).isSome=true)/\oB F r/\F2 r=true
def Zv (s:List UInt8)(w:μ)(E:Ω)(Y:μ):Prop:=
 ((∃F r m md wk pl,na s F r/\E=δ (bC r.fq r.iv r.ct r.un m md wk pl r.ws (gD F))/\cr Y m r.ms/\cr Y md r.mds/\gE Y wk r.wks/\cr Y pl r.pls)\/((¬∃F r,na s F r)/\E=ε (bF 3)))/\Below w.heap.size w Y
theorem oP {x:Int}{o:Option Int}{v:Value}(h:Ending.returned v=ew x o):∃z,o=some z/\v=V Z z:=by
 unfold ew at h;cases o with
 |none=>cases h
 |some z=>exact⟨z,rfl,ο h⟩
theorem oQ {x:Int}{o:Option Int}{c:List PanicEntry}(h:Ending.panicked c=ew x o):o=none/\c=bF x:=by
 unfold ew at h;cases o with
 |none=>exact⟨rfl,ω h⟩
 |some z=>cases h
theorem oR {x:Int}{o:Option Int}(h:Ending.outgrown=ew x o):False:=by
 unfold ew at h;cases o<;>cases h
theorem bT {g:Nat}{F:Nat->Option (List UInt8)}{B i:Nat}{a:ό}{w:μ}(h:GG g F B i a w)(S:i≠42):NN g F B i (a.eval (.tmp (ql i))) w:=by
 unfold GG at h;rw[if_neg S]at h;exact h
theorem Zw {c:UInt8}{l a b:List UInt8}(h:sp c l=some (a,b)):b.length<=l.length:=by
 have e:=(kH h).1;rw[e];simp;omega
theorem tK {ns:List (List UInt8)}{c:UInt8}{B:Nat}:∀{ps:List (List UInt8)} {f F:Nat->Option (List UInt8)},(∀p∈ps,p.length<=B)->(∀k,((f k).getD []).length<=B)->eH ns c ps f=some F->∀k,((F k).getD []).length<=B
 |[],f,F,_,hf,h,k=>by rw[eH]at h;cases h;exact hf k
 |l::r,f,F,J,hf,h,k=>by
  rw[eH]at h;cases hq:vx ns c l with
  |none=>rw[hq]at h;cases h
  |some q=>
   obtain⟨j,v⟩:=q;rw[hq]at h;simp only[]at h;cases hj:(f j).isSome
   ·rw[hj,if_neg Ξ]at h;refine tK (λp Aa=>J p (List.mem_cons_of_mem _ Aa)) (λi=>?_) h k;by_cases hij:i=j
    ·rw[if_pos hij];unfold vx at hq;cases pc:sp c l with
     |none=>rw[pc]at hq;cases hq
     |some y=>
      obtain⟨a,b⟩:=y;rw[pc]at hq;obtain⟨k',cj,e⟩:=Option.map_eq_some_iff.1 hq;have:b=v:=congrArg Prod.snd e;subst this;have G:=Zw pc;have A:=J l (by simp);simp only[Ι];omega
    rw[if_neg hij];exact hf i
   rw[hj,if_pos rfl]at h;cases h
theorem VP (z0 z1 z2 z3 z8:Int)(a4 a5 a6 a7:Option Addr)(n4 n5 n6 n7 c4 c5 c6 c7:Nat)(t:ByteArray)(w:μ):
 (Instr.build 76 #[(0,V Z z0),(1,V Z z1),(2,V Z z2),(3,V Z z3),(4,η a4 n4 c4),(5,η a5 n5 c5),(6,η a6 n6 c6),(7,η a7 n7 c7),(8,V Z z8),(9,θ t)]).run prog w=.ok (bC z0 z1 z2 z3 (η a4 n4 c4) (η a5 n5 c5) (η a6 n6 c6) (η a7 n7 c7) z8 t) w:=by
 kernel_rfl
theorem Zx {W w:μ}{b:Nat}{cs:List Value}{F:Nat->Option (List UInt8)}{v:Value}(aB:M w b cs 76)(Ak:cs.length=10)(hB:W.heap.size<=b)(fH:Below W.heap.size W w)(hv:RV F w v):
 ∃Y,(Ψ 76 (ζ (some ⟨b,0,none⟩)) v).run prog w=.ok () Y/\Below W.heap.size W Y/\Gr 76 w Y/\RB F Y b:=by
 obtain⟨r,m,md,wk,pl,hP,rfl,i1,i2,i3,i4⟩:=hv;obtain⟨a1,e1⟩:=i1.form;obtain⟨a2,e2⟩:=i2.form;obtain⟨a3,e3⟩:=i3.form;obtain⟨a4,e4⟩:=i4.form
 match cs,Ak with
 |[x0,x1,x2,x3,x4,x5,x6,x7,x8,x9],_=>
  have c0:=aB.cell (k:=0) rfl;have c1:=aB.cell (k:=1) rfl;have c2:=aB.cell (k:=2) rfl;have c3:=aB.cell (k:=3) rfl;have c4:=aB.cell (k:=4) rfl;have c5:=aB.cell (k:=5) rfl;have c6:=aB.cell (k:=6) rfl;have c7:=aB.cell (k:=7) rfl;have c8:=aB.cell (k:=8) rfl;have c9:=aB.cell (k:=9) rfl;have f0:=aB.free (k:=0);have f1:=aB.free (k:=1);have f2:=aB.free (k:=2);have f3:=aB.free (k:=3);have f4:=aB.free (k:=4);have f5:=aB.free (k:=5);have f6:=aB.free (k:=6);have f7:=aB.free (k:=7);have f8:=aB.free (k:=8);have f9:=aB.free (k:=9);have r0:=aB.set (k:=0) (V Z r.fq);have r1:=r0.set (k:=1) (V Z r.iv);have r2:=r1.set (k:=2) (V Z r.ct);have r3:=r2.set (k:=3) (V Z r.un);have r4:=r3.set (k:=4) m;have r5:=r4.set (k:=5) md;have r6:=r5.set (k:=6) wk;have r7:=r6.set (k:=7) pl;have r8:=r7.set (k:=8) (V Z r.ws);have r9:=r8.set (k:=9) (θ (gD F));have g:Gr 76 w _:=(((((((((Gr.set (i:=0) aB (V Z r.fq)).trans (Gr.set (i:=1) r0 (V Z r.iv))).trans (Gr.set (i:=2) r1 (V Z r.ct))).trans (Gr.set (i:=3) r2 (V Z r.un))).trans (Gr.set (i:=4) r3 m)).trans (Gr.set (i:=5) r4 md)).trans (Gr.set (i:=6) r5 wk)).trans (Gr.set (i:=7) r6 pl)).trans (Gr.set (i:=8) r7 (V Z r.ws))).trans (Gr.set (i:=9) r8 (θ (gD F)));refine⟨_,?_,(((((((((fH.setCell (p:=⟨b,0,none⟩) hB (V Z r.fq)).setCell (p:=⟨b,1,none⟩) hB (V Z r.iv)).setCell (p:=⟨b,2,none⟩) hB (V Z r.ct)).setCell (p:=⟨b,3,none⟩) hB (V Z r.un)).setCell (p:=⟨b,4,none⟩) hB m).setCell (p:=⟨b,5,none⟩) hB md).setCell (p:=⟨b,6,none⟩) hB wk).setCell (p:=⟨b,7,none⟩) hB pl).setCell (p:=⟨b,8,none⟩) hB (V Z r.ws)).setCell (p:=⟨b,9,none⟩) hB (θ (gD F)),g,r,m,md,wk,pl,hP,r9,i1.gr rW g,i2.gr rW g,i3.gr SG g,i4.gr rW g⟩;clear r0 r1 r2 r3 r4 r5 r6 r7 r8 r9 g fH i1 i2 i3 i4 hP aB;subst e1 e2 e3 e4;unfold bC;go_simp
theorem QA {f:Option (List UInt8)}{z:Int}(h:qj f=some z):0<=z/\z<=3:=by
 unfold qj at h;obtain⟨k,I,rfl⟩:=Option.map_eq_some_iff.1 h;have:=Bc I;rw[show jd.length=4 from rfl]at this;omega
theorem tV {α:Type}{rd:List UInt8->Option α}{f:Option (List UInt8)}{zs:List α}(h:dW rd f=some zs):zs.length<=20:=by
 unfold dW at h;cases f with
 |none=>simp only[ϝ]at h;subst h;simp
 |some v=>
  simp only[]at h;split at h
  ·rename_i xJ;rw[BY h];exact xJ
  cases h
theorem oB.uniq {F:Nat->Option (List UInt8)}{r r':aC}(h:oB F r)(h':oB F r'):r=r':=by
 obtain⟨a1,a2,a3,a4,a5,a6,a7,a8,a9⟩:=h;obtain⟨b1,b2,b3,b4,b5,b6,b7,b8,b9⟩:=h';cases r;cases r';simp only[]at *
 rw[a1]at b1;rw[a2]at b2;rw[a3]at b3;rw[a4]at b4;rw[a5]at b5;rw[a6]at b6;rw[a7]at b7;rw[a8]at b8;rw[a9]at b9;cases b1;cases b2;cases b3;cases b4;cases b5;cases b6;cases b7;cases b8;cases b9;rfl
theorem adD (a:ό)(h:a.tmps.size=66)(hd:a.defers=[]):∃f:Nat->Value,a=⟨#[f 0,f 1,f 2,f 3,f 4,f 5,f 6,f 7,f 8,f 9,f 10,f 11,f 12,f 13,f 14,f 15,f 16,f 17,f 18,f 19,f 20,f 21,f 22,f 23,f 24,f 25,f 26,f 27,f 28,f 29,f 30,f 31,f 32,f 33,f 34,f 35,f 36,f 37,f 38,f 39,f 40,f 41,f 42,f 43,f 44,f 45,f 46,f 47,f 48,f 49,f 50,f 51,f 52,f 53,f 54,f 55,f 56,f 57,f 58,f 59,f 60,f 61,f 62,f 63,f 64,f 65],[]⟩/\∀k,a.eval (.tmp k)=f k:=gO 66 a h hd
theorem agC {W w:μ}{b:Nat}{cs:List Value}(aB:M w b cs 76)(_arh:cs.length=10)(hB:W.heap.size<=b)(fH:Below W.heap.size W w)(v0 v1 v2 v3 v4 v5 v6 v7 v8 v9:Value):
 Gr 76 w ((((((((((w.setCell ⟨b,0,none⟩ v0).setCell ⟨b,1,none⟩ v1).setCell ⟨b,2,none⟩ v2).setCell ⟨b,3,none⟩ v3).setCell ⟨b,4,none⟩ v4).setCell ⟨b,5,none⟩ v5).setCell ⟨b,6,none⟩ v6).setCell ⟨b,7,none⟩ v7).setCell ⟨b,8,none⟩ v8).setCell ⟨b,9,none⟩ v9)/\
 Below W.heap.size W ((((((((((w.setCell ⟨b,0,none⟩ v0).setCell ⟨b,1,none⟩ v1).setCell ⟨b,2,none⟩ v2).setCell ⟨b,3,none⟩ v3).setCell ⟨b,4,none⟩ v4).setCell ⟨b,5,none⟩ v5).setCell ⟨b,6,none⟩ v6).setCell ⟨b,7,none⟩ v7).setCell ⟨b,8,none⟩ v8).setCell ⟨b,9,none⟩ v9):=by
 have r0:=aB.set (k:=0) v0;have r1:=r0.set (k:=1) v1;have r2:=r1.set (k:=2) v2;have r3:=r2.set (k:=3) v3;have r4:=r3.set (k:=4) v4;have r5:=r4.set (k:=5) v5;have r6:=r5.set (k:=6) v6;have r7:=r6.set (k:=7) v7;have r8:=r7.set (k:=8) v8;exact⟨(((((((((Gr.set (i:=0) aB v0).trans (Gr.set (i:=1) r0 v1)).trans (Gr.set (i:=2) r1 v2)).trans (Gr.set (i:=3) r2 v3)).trans (Gr.set (i:=4) r3 v4)).trans (Gr.set (i:=5) r4 v5)).trans (Gr.set (i:=6) r5 v6)).trans (Gr.set (i:=7) r6 v7)).trans (Gr.set (i:=8) r7 v8)).trans (Gr.set (i:=9) r8 v9),
  (((((((((fH.setCell (p:=⟨b,0,none⟩) hB v0).setCell (p:=⟨b,1,none⟩) hB v1).setCell (p:=⟨b,2,none⟩) hB v2).setCell (p:=⟨b,3,none⟩) hB v3).setCell (p:=⟨b,4,none⟩) hB v4).setCell (p:=⟨b,5,none⟩) hB v5).setCell (p:=⟨b,6,none⟩) hB v6).setCell (p:=⟨b,7,none⟩) hB v7).setCell (p:=⟨b,8,none⟩) hB v8).setCell (p:=⟨b,9,none⟩) hB v9⟩
theorem Ky (s:List UInt8)(w:μ)(hm:ML w)(hs:s.length<=1048000):
 φ prog 81 #[θ ⟨s.toArray⟩] w (Zv s w):=by
 have au:Below w.heap.size w (w.alloc (ι bu.toArray 76)):=(κ _ _).alloc (ν _) _;have z1:(w.alloc (ι bu.toArray 76)).heap.size=w.heap.size+1:=by simp
 have dH:=M.new w bu 76;have mu:ML (w.alloc (ι bu.toArray 76)):=hm.on au;have CS:=H (ve s 59 (w.alloc (ι bu.toArray 76)) mu (by omega));have n1:=jc (w.alloc (ι bu.toArray 76)) (bY 59 s) 9;have aO:=au.alloc (by omega) (ι (strs (bY 59 s)).toArray 9);have Zy:Below (w.alloc (ι bu.toArray 76)).heap.size (w.alloc (ι bu.toArray 76)) _:=(κ _ _).alloc (ν _) (ι (strs (bY 59 s)).toArray 9);have z2:((w.alloc (ι bu.toArray 76)).alloc (ι (strs (bY 59 s)).toArray 9)).heap.size=w.heap.size+1+1:=by simp
 have n2:=jc ((w.alloc (ι bu.toArray 76)).alloc (ι (strs (bY 59 s)).toArray 9)) cC 9;have aR:=aO.alloc (by omega) (ι (strs cC).toArray 9);have SH:Below ((w.alloc (ι bu.toArray 76)).alloc (ι (strs (bY 59 s)).toArray 9)).heap.size ((w.alloc (ι bu.toArray 76)).alloc (ι (strs (bY 59 s)).toArray 9)) _:=(κ _ _).alloc (ν _) (ι (strs cC).toArray 9);have z3:(((w.alloc (ι bu.toArray 76)).alloc (ι (strs (bY 59 s)).toArray 9)).alloc (ι (strs cC).toArray 9)).heap.size=w.heap.size+1+1+1:=by simp
 have n3:=yL n1 (by omega) SH;rw[z1]at n3;rw[z2]at n2;have JH:=(dH.on Zy).on SH;have Zz:=(mu.on Zy).on SH;have CF:=H (FO (w.heap.size+1) 0 (bY 59 s).length (w.heap.size+1+1) 0 9 cC (bY 59 s) 61 3 (((w.alloc (ι bu.toArray 76)).alloc (ι (strs (bY 59 s)).toArray 9)).alloc (ι (strs cC).toArray 9)) rfl
  (by have:=VE s 59;omega) (λl N=>by have:=mY 59 s l N;omega) (by omega) (by omega) n3 n2)
 clear n1 n2 n3 Zy SH mu dH z1 z2 au aO;cases J:partsOf s with
 |none=>
  have Af:¬∃F r,na s F r:=λ⟨F,r,h,_⟩=>by rw[J]at h;cases h
  have HN:=H Af;have CG:Hid (φ prog 129 #[η (some ⟨w.heap.size+1,0,none⟩) (bY 59 s).length (bY 59 s).length,θ ⟨#[61]⟩,η (some ⟨w.heap.size+1+1,0,none⟩) 9 9,V Z 3] (((w.alloc (ι bu.toArray 76)).alloc (ι (strs (bY 59 s)).toArray 9)).alloc (ι (strs cC).toArray 9)) λE Y=>E=ε (bF 3)/\Below w.heap.size w Y):=
   H (CF.out.mono λE Y h=>by
    unfold oh at h;rw[show eH cC 61 (bY 59 s) (λ_=>none)=none from J]at h;exact⟨h.1,aR.trans (h.2.mono (by omega))⟩)
  clear CF Af J JH Zz hm aR z3;go_enter func81,ntmps81;go_wp2_with (first
   |(go_at_call 139;refine(CS.out).mono ?_;rintro e w1 ⟨rfl,rfl⟩)
   |(go_at_call 140;refine(oA _).mono ?_;rintro e w1 ⟨rfl,rfl⟩)
   |(go_at_call 129;refine(CG.out).mono ?_;rintro e w3 ⟨rfl,al⟩))
  exact⟨rfl,.inr ⟨HN.out,rfl⟩,al⟩
 |some F=>
  have mQ:∀k,((F k).getD []).length<=1048576:=tK (λp Aa=>by have:=mY 59 s p Aa;omega) (λk=>by simp) J;have Ht:∀k (d:List UInt8),d.length<=1048576->((F k).getD d).length<=1048576:=λk d hd=>by
   have:=mQ k;cases I:F k with
   |none=>simpa[I]using hd
   |some v=>rw[I]at this;simpa using this
  have uniq:∀F',partsOf s=some F'->F'=F:=λF' h=>by rw[J]at h;exact(Θ h).symm
  have no:(¬∃r,oB F r)->¬∃F r,na s F r:=λh ⟨F',r,G,_,K,_⟩=>by rw[uniq F' G]at K;exact h ⟨r,K⟩
  have CG:Hid (φ prog 129 #[η (some ⟨w.heap.size+1,0,none⟩) (bY 59 s).length (bY 59 s).length,θ ⟨#[61]⟩,η (some ⟨w.heap.size+1+1,0,none⟩) 9 9,V Z 3] (((w.alloc (ι bu.toArray 76)).alloc (ι (strs (bY 59 s)).toArray 9)).alloc (ι (strs cC).toArray 9)) λE Y=>∃g,E=δ (η (some ⟨g,0,none⟩) 9 9)/\cV Y g F/\Below w.heap.size w Y/\M Y w.heap.size bu 76/\ML Y/\w.heap.size<=Y.heap.size):=
   H (CF.out.mono λE Y h=>by
    unfold oh at h;rw[show eH cC 61 (bY 59 s) (λ_=>none)=some F from J]at h;obtain⟨⟨g,G,A,K⟩,h4⟩:=h;have:=h4.size;exact⟨g,G,K,aR.trans (h4.mono (by omega)),JH.on h4,Zz.on h4,by omega⟩)
  clear CF JH Zz aR z3 hm;by_cases IQ:(F 2).isSome=true/\(F 3).isSome=true
  case pos=>
   have HN:Hid (¬∃F r,na s F r):=H (λ⟨F',r,G,A,_⟩=>by rw[uniq F' G]at A;exact A IQ);obtain⟨b2,b3⟩:=IQ;clear no uniq mQ Ht J;go_enter func81,ntmps81;go_wp2_with (first
    |(go_at_call 139;refine(CS.out).mono ?_;rintro e w1 ⟨rfl,rfl⟩)
    |(go_at_call 140;refine(oA _).mono ?_;rintro e w1 ⟨rfl,rfl⟩)
    |(go_at_call 129;refine(CG.out).mono ?_;rintro e w3 ⟨g,rfl,hF,al,aB,AU,qD⟩;have c2:=hF.there 2 (by decide);have c3:=hF.there 3 (by decide);rw[b2]at c2;rw[b3]at c3)
    |(go_at_call_of 65 (ξ false);refine eT ?_))
   exact⟨rfl,.inr ⟨HN.out,rfl⟩,al⟩
  case neg=>
   have H23:=H IQ;have b23:((F 2).isSome=false)\/((F 2).isSome=true/\(F 3).isSome=false):=by
    cases A:(F 2).isSome
    ·exact .inl rfl
    refine .inr ⟨rfl,?_⟩;cases K:(F 3).isSome
    ·rfl
    exact absurd ⟨A,K⟩ IQ
   have HU:=H uniq;have Da:=H no;have HP:=H J;have HS:=H mQ;have HS1:=H Ht;clear no uniq mQ Ht J IQ;rcases b23 with b2|⟨b2,b3⟩
   all_goals
    go_enter func81,ntmps81;go_wp2_with (first
     |(go_at_call 139;refine(CS.out).mono ?_;rintro e w1 ⟨rfl,rfl⟩)
     |(go_at_call 140;refine(oA _).mono ?_;rintro e w1 ⟨rfl,rfl⟩)
     |(go_at_call 129;refine(CG.out).mono ?_;rintro e w3 ⟨g,rfl,hF,al,aB,AU,qD⟩;have c2:=hF.there 2 (by decide);have c3:=hF.there 3 (by decide);rw[b2]at c2;(try rw[b3]at c3))
     |(go_at_call_of 65 (ξ true);refine dp ?_))
    have no:=Da.out;have mQ:=HS.out;have Ht:=HS1.out;refine ir (GG g F w3.heap.size) (II w3 w.heap.size g) (by kernel_rfl) (by kernel_rfl) (by kernel_rfl) ?_ ?_ ?_;rotate_left 2
    ·exact⟨rfl,rfl,rfl,rfl,(κ _ _).drew⟩
    ·intro i o ho a Y hI hG;have S:i<43:=(Array.getElem?_eq_some_iff.1 ho).1;have eQ:i=0\/i=1\/i=2\/i=3\/i=4\/i=5\/i=6\/i=7\/i=8\/i=9\/i=10\/i=11\/i=12\/i=13\/i=14\/i=15\/i=16\/i=17\/i=18\/i=19\/i=20\/i=21\/i=22\/i=23\/i=24\/i=25\/i=26\/i=27\/i=28\/i=29\/i=30\/i=31\/i=32\/i=33\/i=34\/i=35\/i=36\/i=37\/i=38\/i=39\/i=40\/i=41\/i=42:=by omega
     rcases eQ with rfl|rfl|rfl|rfl|rfl|rfl|rfl|rfl|rfl|rfl|rfl|rfl|rfl|rfl|rfl|rfl|rfl|rfl|rfl|rfl|rfl|rfl|rfl|rfl|rfl|rfl|rfl|rfl|rfl|rfl|rfl|rfl|rfl|rfl|rfl|rfl|rfl|rfl|rfl|rfl|rfl|rfl|rfl<;>obtain rfl:=Θ ho
     ·
      exact ai (v:=a.eval (.tmp 3)) (by kernel_rfl) (bH rfl (by decide) hI (κ _ _) (show NN g F w3.heap.size 0 _ _ from hI.s3) (by kernel_rfl) rfl)
     ·
      have e:a.eval (.tmp 21)=η (some ⟨g,0,none⟩) 9 9:=bT (aF hG 0) (by decide);exact ai (v:=ζ (some ⟨g,0*2,none⟩)) (bj (by show(τ 118 (a.eval (.tmp 21)) (V Z 0)).run _ _=_;rw[e];exact dM g 0 (by decide) Y)) (bH rfl (by decide) hI (κ _ _) (show NN g F w3.heap.size 1 _ _ from rfl) (by kernel_rfl) rfl)
     ·
      have e:a.eval (.tmp 22)=ζ (some ⟨g,0*2,none⟩):=bT (aF hG 1) (by decide);exact ai (v:=bE (F 0)) (bj (by show(ρ 122 (a.eval (.tmp 22))).run _ _=_;rw[e];exact dt (hF.on hI.below) (by decide))) (bH rfl (by decide) hI (κ _ _) (show NN g F w3.heap.size 2 _ _ from rfl) (by kernel_rfl) rfl)
     ·
      have e:a.eval (.tmp 23)=bE (F 0):=bT (aF hG 2) (by decide);refine cM (R:=λE az=>E=ew 3 (qj (F 0))/\Below Y.heap.size Y az) (f:=141) (args:=#[a.eval (.tmp 23)]) (by kernel_rfl) (by rw[e];exact(Cf _ _ Y).mono λE az ⟨G,A⟩=>⟨by rw[G,Qy];rfl,A⟩) ?_ ?_ ?_
      ·rintro v az ⟨he,U⟩;obtain⟨z,hz,rfl⟩:=oP he;exact(bH rfl (by decide) hI U (show NN g F w3.heap.size 3 _ _ from⟨z,hz,rfl⟩) (by kernel_rfl) rfl)
      ·rintro c az ⟨he,U⟩;obtain⟨hz,rfl⟩:=oQ he;exact⟨hI.defers,.inr ⟨no λ⟨r,hr⟩=>(by have:=hr.fq;rw[hz]at this;cases this),rfl⟩,al.trans ((hI.below.trans (U.mono hI.below.size)).mono qD)⟩
      rintro az ⟨he,_⟩;exact oR he
     ·
      exact ai (v:=a.eval (.tmp 3)) (by kernel_rfl) (bH rfl (by decide) hI (κ _ _) (show NN g F w3.heap.size 4 _ _ from hI.s3) (by kernel_rfl) rfl)
     ·
      have e:a.eval (.tmp 25)=η (some ⟨g,0,none⟩) 9 9:=bT (aF hG 4) (by decide);exact ai (v:=ζ (some ⟨g,1*2,none⟩)) (bj (by show(τ 118 (a.eval (.tmp 25)) (V Z 1)).run _ _=_;rw[e];exact dM g 1 (by decide) Y)) (bH rfl (by decide) hI (κ _ _) (show NN g F w3.heap.size 5 _ _ from rfl) (by kernel_rfl) rfl)
     ·
      have e:a.eval (.tmp 26)=ζ (some ⟨g,1*2,none⟩):=bT (aF hG 5) (by decide);exact ai (v:=bE (F 1)) (bj (by show(ρ 122 (a.eval (.tmp 26))).run _ _=_;rw[e];exact dt (hF.on hI.below) (by decide))) (bH rfl (by decide) hI (κ _ _) (show NN g F w3.heap.size 6 _ _ from rfl) (by kernel_rfl) rfl)
     ·
      have e:a.eval (.tmp 27)=bE (F 1):=bT (aF hG 6) (by decide);refine cM (R:=λE az=>E=δ (θ ⟨((F 1).getD [49]).toArray⟩)/\Below Y.heap.size Y az) (f:=134) (args:=#[a.eval (.tmp 27),θ ⟨#[49]⟩]) (by kernel_rfl) (by rw[e];exact F0 (F 1) [49] Y) ?_ ?_ ?_
      ·rintro v az ⟨he,U⟩;obtain rfl:v=_:=ο he;exact(bH rfl (by decide) hI U (show NN g F w3.heap.size 7 _ _ from rfl) (by kernel_rfl) rfl)
      ·rintro c az ⟨he,U⟩;cases he
      rintro az ⟨he,_⟩;cases he
     ·
      have e:a.eval (.tmp 28)=θ ⟨((F 1).getD [49]).toArray⟩:=bT (aF hG 7) (by decide);refine cM (R:=λE az=>E=ew 3 (qk 1 100 ((F 1).getD [49]))/\Below Y.heap.size Y az) (f:=142) (args:=#[a.eval (.tmp 28),V Z 1,V Z 100,V Z 3]) (by kernel_rfl) (by rw[e];exact(js _ 1 100 3 Y (mZ (Ht 1 _ (by decide)))).mono λE az ⟨G,A⟩=>⟨by rw[G,Hr],by rw[<-A];exact κ _ _⟩) ?_ ?_ ?_
      ·rintro v az ⟨he,U⟩;obtain⟨z,hz,rfl⟩:=oP he;exact(bH rfl (by decide) hI U (show NN g F w3.heap.size 8 _ _ from⟨z,hz,rfl⟩) (by kernel_rfl) rfl)
      ·rintro c az ⟨he,U⟩;obtain⟨hz,rfl⟩:=oQ he;exact⟨hI.defers,.inr ⟨no λ⟨r,hr⟩=>(by have:=hr.iv;rw[hz]at this;cases this),rfl⟩,al.trans ((hI.below.trans (U.mono hI.below.size)).mono qD)⟩
      rintro az ⟨he,_⟩;exact oR he
     ·
      exact ai (v:=a.eval (.tmp 3)) (by kernel_rfl) (bH rfl (by decide) hI (κ _ _) (show NN g F w3.heap.size 9 _ _ from hI.s3) (by kernel_rfl) rfl)
     ·
      have e:a.eval (.tmp 30)=η (some ⟨g,0,none⟩) 9 9:=bT (aF hG 9) (by decide);exact ai (v:=ζ (some ⟨g,2*2,none⟩)) (bj (by show(τ 118 (a.eval (.tmp 30)) (V Z 2)).run _ _=_;rw[e];exact dM g 2 (by decide) Y)) (bH rfl (by decide) hI (κ _ _) (show NN g F w3.heap.size 10 _ _ from rfl) (by kernel_rfl) rfl)
     ·
      have e:a.eval (.tmp 31)=ζ (some ⟨g,2*2,none⟩):=bT (aF hG 10) (by decide);exact ai (v:=bE (F 2)) (bj (by show(ρ 122 (a.eval (.tmp 31))).run _ _=_;rw[e];exact dt (hF.on hI.below) (by decide))) (bH rfl (by decide) hI (κ _ _) (show NN g F w3.heap.size 11 _ _ from rfl) (by kernel_rfl) rfl)
     ·
      have e:a.eval (.tmp 32)=bE (F 2):=bT (aF hG 11) (by decide);refine cM (R:=λE az=>E=ew 3 (wO (F 2))/\Below Y.heap.size Y az) (f:=143) (args:=#[a.eval (.tmp 32)]) (by kernel_rfl) (by rw[e];exact(Ku (F 2) Y (mZ (mQ 2))).mono λE az ⟨G,A⟩=>⟨by rw[G,Zs],A⟩) ?_ ?_ ?_
      ·rintro v az ⟨he,U⟩;obtain⟨z,hz,rfl⟩:=oP he;exact(bH rfl (by decide) hI U (show NN g F w3.heap.size 12 _ _ from⟨z,hz,rfl⟩) (by kernel_rfl) rfl)
      ·rintro c az ⟨he,U⟩;obtain⟨hz,rfl⟩:=oQ he;exact⟨hI.defers,.inr ⟨no λ⟨r,hr⟩=>(by have:=hr.ct;rw[hz]at this;cases this),rfl⟩,al.trans ((hI.below.trans (U.mono hI.below.size)).mono qD)⟩
      rintro az ⟨he,_⟩;exact oR he
     ·
      exact ai (v:=a.eval (.tmp 3)) (by kernel_rfl) (bH rfl (by decide) hI (κ _ _) (show NN g F w3.heap.size 13 _ _ from hI.s3) (by kernel_rfl) rfl)
     ·
      have e:a.eval (.tmp 34)=η (some ⟨g,0,none⟩) 9 9:=bT (aF hG 13) (by decide);exact ai (v:=ζ (some ⟨g,3*2,none⟩)) (bj (by show(τ 118 (a.eval (.tmp 34)) (V Z 3)).run _ _=_;rw[e];exact dM g 3 (by decide) Y)) (bH rfl (by decide) hI (κ _ _) (show NN g F w3.heap.size 14 _ _ from rfl) (by kernel_rfl) rfl)
     ·
      have e:a.eval (.tmp 35)=ζ (some ⟨g,3*2,none⟩):=bT (aF hG 14) (by decide);exact ai (v:=bE (F 3)) (bj (by show(ρ 122 (a.eval (.tmp 35))).run _ _=_;rw[e];exact dt (hF.on hI.below) (by decide))) (bH rfl (by decide) hI (κ _ _) (show NN g F w3.heap.size 15 _ _ from rfl) (by kernel_rfl) rfl)
     ·
      have e:a.eval (.tmp 36)=bE (F 3):=bT (aF hG 15) (by decide);refine cM (R:=λE az=>E=ew 3 (wP (F 3))/\Below Y.heap.size Y az) (f:=144) (args:=#[a.eval (.tmp 36)]) (by kernel_rfl) (by rw[e];exact(Kv (F 3) Y).mono λE az ⟨G,A⟩=>⟨by rw[G,Zt],A⟩) ?_ ?_ ?_
      ·rintro v az ⟨he,U⟩;obtain⟨z,hz,rfl⟩:=oP he;exact(bH rfl (by decide) hI U (show NN g F w3.heap.size 16 _ _ from⟨z,hz,rfl⟩) (by kernel_rfl) rfl)
      ·rintro c az ⟨he,U⟩;obtain⟨hz,rfl⟩:=oQ he;exact⟨hI.defers,.inr ⟨no λ⟨r,hr⟩=>(by have:=hr.un;rw[hz]at this;cases this),rfl⟩,al.trans ((hI.below.trans (U.mono hI.below.size)).mono qD)⟩
      rintro az ⟨he,_⟩;exact oR he
     ·
      exact ai (v:=a.eval (.tmp 3)) (by kernel_rfl) (bH rfl (by decide) hI (κ _ _) (show NN g F w3.heap.size 17 _ _ from hI.s3) (by kernel_rfl) rfl)
     ·
      have e:a.eval (.tmp 38)=η (some ⟨g,0,none⟩) 9 9:=bT (aF hG 17) (by decide);exact ai (v:=ζ (some ⟨g,4*2,none⟩)) (bj (by show(τ 118 (a.eval (.tmp 38)) (V Z 4)).run _ _=_;rw[e];exact dM g 4 (by decide) Y)) (bH rfl (by decide) hI (κ _ _) (show NN g F w3.heap.size 18 _ _ from rfl) (by kernel_rfl) rfl)
     ·
      have e:a.eval (.tmp 39)=ζ (some ⟨g,4*2,none⟩):=bT (aF hG 18) (by decide);exact ai (v:=bE (F 4)) (bj (by show(ρ 122 (a.eval (.tmp 39))).run _ _=_;rw[e];exact dt (hF.on hI.below) (by decide))) (bH rfl (by decide) hI (κ _ _) (show NN g F w3.heap.size 19 _ _ from rfl) (by kernel_rfl) rfl)
     ·
      have e:a.eval (.tmp 40)=bE (F 4):=bT (aF hG 19) (by decide);refine cM (R:=sL (qk 1 12) (F 4) 3 Y) (f:=136) (args:=#[a.eval (.tmp 40),V Z 3,.func (.func 145) #[] #[]]) (by kernel_rfl) (by rw[e];exact SE (F 4) Y (AU.on hI.below) (mQ 4)) ?_ ?_ ?_
      ·rintro v az ⟨⟨zs,v',hz,he,hv⟩|⟨_,he⟩,U⟩
       ·obtain rfl:v=v':=ο he;exact(bH rfl (by decide) hI U (show NN g F w3.heap.size 20 _ _ from⟨zs,hz,hv⟩) (by kernel_rfl) rfl)
       cases he
      ·rintro c az ⟨⟨zs,v',hz,he,hv⟩|⟨hz,he⟩,U⟩
       ·cases he
       obtain rfl:c=_:=ω he;exact⟨hI.defers,.inr ⟨no λ⟨r,hr⟩=>(by have:=hr.ms;rw[hz]at this;cases this),rfl⟩,al.trans ((hI.below.trans (U.mono hI.below.size)).mono qD)⟩
      rintro az ⟨⟨zs,v',hz,he,hv⟩|⟨hz,he⟩,_⟩<;>cases he
     ·
      exact ai (v:=a.eval (.tmp 3)) (by kernel_rfl) (bH rfl (by decide) hI (κ _ _) (show NN g F w3.heap.size 21 _ _ from hI.s3) (by kernel_rfl) rfl)
     ·
      have e:a.eval (.tmp 42)=η (some ⟨g,0,none⟩) 9 9:=bT (aF hG 21) (by decide);exact ai (v:=ζ (some ⟨g,5*2,none⟩)) (bj (by show(τ 118 (a.eval (.tmp 42)) (V Z 5)).run _ _=_;rw[e];exact dM g 5 (by decide) Y)) (bH rfl (by decide) hI (κ _ _) (show NN g F w3.heap.size 22 _ _ from rfl) (by kernel_rfl) rfl)
     ·
      have e:a.eval (.tmp 43)=ζ (some ⟨g,5*2,none⟩):=bT (aF hG 22) (by decide);exact ai (v:=bE (F 5)) (bj (by show(ρ 122 (a.eval (.tmp 43))).run _ _=_;rw[e];exact dt (hF.on hI.below) (by decide))) (bH rfl (by decide) hI (κ _ _) (show NN g F w3.heap.size 23 _ _ from rfl) (by kernel_rfl) rfl)
     ·
      have e:a.eval (.tmp 44)=bE (F 5):=bT (aF hG 23) (by decide);refine cM (R:=sL (tv 31) (F 5) 3 Y) (f:=136) (args:=#[a.eval (.tmp 44),V Z 3,.func (.func 146) #[] #[]]) (by kernel_rfl) (by rw[e];exact Cg (F 5) Y (AU.on hI.below) (mQ 5)) ?_ ?_ ?_
      ·rintro v az ⟨⟨zs,v',hz,he,hv⟩|⟨_,he⟩,U⟩
       ·obtain rfl:v=v':=ο he;exact(bH rfl (by decide) hI U (show NN g F w3.heap.size 24 _ _ from⟨zs,hz,hv⟩) (by kernel_rfl) rfl)
       cases he
      ·rintro c az ⟨⟨zs,v',hz,he,hv⟩|⟨hz,he⟩,U⟩
       ·cases he
       obtain rfl:c=_:=ω he;exact⟨hI.defers,.inr ⟨no λ⟨r,hr⟩=>(by have:=hr.mds;rw[hz]at this;cases this),rfl⟩,al.trans ((hI.below.trans (U.mono hI.below.size)).mono qD)⟩
      rintro az ⟨⟨zs,v',hz,he,hv⟩|⟨hz,he⟩,_⟩<;>cases he
     ·
      exact ai (v:=a.eval (.tmp 3)) (by kernel_rfl) (bH rfl (by decide) hI (κ _ _) (show NN g F w3.heap.size 25 _ _ from hI.s3) (by kernel_rfl) rfl)
     ·
      have e:a.eval (.tmp 46)=η (some ⟨g,0,none⟩) 9 9:=bT (aF hG 25) (by decide);exact ai (v:=ζ (some ⟨g,6*2,none⟩)) (bj (by show(τ 118 (a.eval (.tmp 46)) (V Z 6)).run _ _=_;rw[e];exact dM g 6 (by decide) Y)) (bH rfl (by decide) hI (κ _ _) (show NN g F w3.heap.size 26 _ _ from rfl) (by kernel_rfl) rfl)
     ·
      have e:a.eval (.tmp 47)=ζ (some ⟨g,6*2,none⟩):=bT (aF hG 26) (by decide);exact ai (v:=bE (F 6)) (bj (by show(ρ 122 (a.eval (.tmp 47))).run _ _=_;rw[e];exact dt (hF.on hI.below) (by decide))) (bH rfl (by decide) hI (κ _ _) (show NN g F w3.heap.size 27 _ _ from rfl) (by kernel_rfl) rfl)
     ·
      have e:a.eval (.tmp 48)=bE (F 6):=bT (aF hG 27) (by decide);refine cM (R:=VO (F 6) Y) (f:=147) (args:=#[a.eval (.tmp 48),V Z 3,.func (.func 148) #[] #[]]) (by kernel_rfl) (by rw[e];exact SD (F 6) Y (AU.on hI.below) (mQ 6)) ?_ ?_ ?_
      ·rintro v az ⟨⟨zs,v',hz,he,hv⟩|⟨_,he⟩,U⟩
       ·obtain rfl:v=v':=ο he;exact(bH rfl (by decide) hI U (show NN g F w3.heap.size 28 _ _ from⟨zs,hz,hv⟩) (by kernel_rfl) rfl)
       cases he
      ·rintro c az ⟨⟨zs,v',hz,he,hv⟩|⟨hz,he⟩,U⟩
       ·cases he
       obtain rfl:c=_:=ω he;exact⟨hI.defers,.inr ⟨no λ⟨r,hr⟩=>(by have:=hr.wks;rw[hz]at this;cases this),rfl⟩,al.trans ((hI.below.trans (U.mono hI.below.size)).mono qD)⟩
      rintro az ⟨⟨zs,v',hz,he,hv⟩|⟨hz,he⟩,_⟩<;>cases he
     ·
      exact ai (v:=a.eval (.tmp 3)) (by kernel_rfl) (bH rfl (by decide) hI (κ _ _) (show NN g F w3.heap.size 29 _ _ from hI.s3) (by kernel_rfl) rfl)
     ·
      have e:a.eval (.tmp 50)=η (some ⟨g,0,none⟩) 9 9:=bT (aF hG 29) (by decide);exact ai (v:=ζ (some ⟨g,7*2,none⟩)) (bj (by show(τ 118 (a.eval (.tmp 50)) (V Z 7)).run _ _=_;rw[e];exact dM g 7 (by decide) Y)) (bH rfl (by decide) hI (κ _ _) (show NN g F w3.heap.size 30 _ _ from rfl) (by kernel_rfl) rfl)
     ·
      have e:a.eval (.tmp 51)=ζ (some ⟨g,7*2,none⟩):=bT (aF hG 30) (by decide);exact ai (v:=bE (F 7)) (bj (by show(ρ 122 (a.eval (.tmp 51))).run _ _=_;rw[e];exact dt (hF.on hI.below) (by decide))) (bH rfl (by decide) hI (κ _ _) (show NN g F w3.heap.size 31 _ _ from rfl) (by kernel_rfl) rfl)
     ·
      have e:a.eval (.tmp 52)=bE (F 7):=bT (aF hG 31) (by decide);refine cM (R:=sL (tv 366) (F 7) 3 Y) (f:=136) (args:=#[a.eval (.tmp 52),V Z 3,.func (.func 149) #[] #[]]) (by kernel_rfl) (by rw[e];exact SF (F 7) Y (AU.on hI.below) (mQ 7)) ?_ ?_ ?_
      ·rintro v az ⟨⟨zs,v',hz,he,hv⟩|⟨_,he⟩,U⟩
       ·obtain rfl:v=v':=ο he;exact(bH rfl (by decide) hI U (show NN g F w3.heap.size 32 _ _ from⟨zs,hz,hv⟩) (by kernel_rfl) rfl)
       cases he
      ·rintro c az ⟨⟨zs,v',hz,he,hv⟩|⟨hz,he⟩,U⟩
       ·cases he
       obtain rfl:c=_:=ω he;exact⟨hI.defers,.inr ⟨no λ⟨r,hr⟩=>(by have:=hr.pls;rw[hz]at this;cases this),rfl⟩,al.trans ((hI.below.trans (U.mono hI.below.size)).mono qD)⟩
      rintro az ⟨⟨zs,v',hz,he,hv⟩|⟨hz,he⟩,_⟩<;>cases he
     ·
      exact ai (v:=a.eval (.tmp 3)) (by kernel_rfl) (bH rfl (by decide) hI (κ _ _) (show NN g F w3.heap.size 33 _ _ from hI.s3) (by kernel_rfl) rfl)
     ·
      have e:a.eval (.tmp 54)=η (some ⟨g,0,none⟩) 9 9:=bT (aF hG 33) (by decide);exact ai (v:=ζ (some ⟨g,8*2,none⟩)) (bj (by show(τ 118 (a.eval (.tmp 54)) (V Z 8)).run _ _=_;rw[e];exact dM g 8 (by decide) Y)) (bH rfl (by decide) hI (κ _ _) (show NN g F w3.heap.size 34 _ _ from rfl) (by kernel_rfl) rfl)
     ·
      have e:a.eval (.tmp 55)=ζ (some ⟨g,8*2,none⟩):=bT (aF hG 34) (by decide);exact ai (v:=bE (F 8)) (bj (by show(ρ 122 (a.eval (.tmp 55))).run _ _=_;rw[e];exact dt (hF.on hI.below) (by decide))) (bH rfl (by decide) hI (κ _ _) (show NN g F w3.heap.size 35 _ _ from rfl) (by kernel_rfl) rfl)
     ·
      have e:a.eval (.tmp 56)=bE (F 8):=bT (aF hG 35) (by decide);refine cM (R:=λE az=>E=δ (θ ⟨((F 8).getD [77,79]).toArray⟩)/\Below Y.heap.size Y az) (f:=134) (args:=#[a.eval (.tmp 56),θ ⟨#[77,79]⟩]) (by kernel_rfl) (by rw[e];exact F0 (F 8) [77,79] Y) ?_ ?_ ?_
      ·rintro v az ⟨he,U⟩;obtain rfl:v=_:=ο he;exact(bH rfl (by decide) hI U (show NN g F w3.heap.size 36 _ _ from rfl) (by kernel_rfl) rfl)
      ·rintro c az ⟨he,U⟩;cases he
      rintro az ⟨he,_⟩;cases he
     ·
      have e:a.eval (.tmp 57)=θ ⟨((F 8).getD [77,79]).toArray⟩:=bT (aF hG 36) (by decide);refine cM (R:=λE az=>E=ew 3 (Bk ((F 8).getD [77,79]))/\Below Y.heap.size Y az) (f:=150) (args:=#[a.eval (.tmp 57)]) (by kernel_rfl) (by rw[e];exact(qh _ Y).mono λE az ⟨G,A⟩=>⟨by rw[G,Qy];rfl,A⟩) ?_ ?_ ?_
      ·rintro v az ⟨he,U⟩;obtain⟨z,hz,rfl⟩:=oP he;exact(bH rfl (by decide) hI U (show NN g F w3.heap.size 37 _ _ from⟨z,hz,rfl⟩) (by kernel_rfl) rfl)
      ·rintro c az ⟨he,U⟩;obtain⟨hz,rfl⟩:=oQ he;exact⟨hI.defers,.inr ⟨no λ⟨r,hr⟩=>(by have:=hr.ws;rw[hz]at this;cases this),rfl⟩,al.trans ((hI.below.trans (U.mono hI.below.size)).mono qD)⟩
      rintro az ⟨he,_⟩;exact oR he
     ·
      exact ai (v:=a.eval (.tmp 3)) (by kernel_rfl) (bH rfl (by decide) hI (κ _ _) (show NN g F w3.heap.size 38 _ _ from hI.s3) (by kernel_rfl) rfl)
     ·
      have e:a.eval (.tmp 59)=η (some ⟨g,0,none⟩) 9 9:=bT (aF hG 38) (by decide);refine cM (R:=λE az=>E=δ (θ (gD F))/\Below Y.heap.size Y az) (f:=151) (args:=#[a.eval (.tmp 59)]) (by kernel_rfl) (by rw[e];exact D6 g F Y (hF.on hI.below) mQ) ?_ ?_ ?_
      ·rintro v az ⟨he,U⟩;obtain rfl:v=_:=ο he;exact(bH rfl (by decide) hI U (show NN g F w3.heap.size 39 _ _ from rfl) (by kernel_rfl) rfl)
      ·rintro c az ⟨he,U⟩;cases he
      rintro az ⟨he,_⟩;cases he
     ·
      obtain⟨z0,q0,t0⟩:=bT (aF hG 3) (by decide);obtain⟨z1,q1,t1⟩:=bT (aF hG 8) (by decide);obtain⟨z2,q2,t2⟩:=bT (aF hG 12) (by decide);obtain⟨z3,q3,t3⟩:=bT (aF hG 16) (by decide);obtain⟨l4,q4,t4⟩:=bT (aF hG 20) (by decide);obtain⟨l5,q5,t5⟩:=bT (aF hG 24) (by decide);obtain⟨l6,q6,t6⟩:=bT (aF hG 28) (by decide);obtain⟨l7,q7,t7⟩:=bT (aF hG 32) (by decide);obtain⟨z8,q8,t8⟩:=bT (aF hG 37) (by decide);have t9:=bT (aF hG 39) (by decide);obtain⟨a4,e4⟩:=t4.form;obtain⟨a5,e5⟩:=t5.form;obtain⟨a6,e6⟩:=t6.form;obtain⟨a7,e7⟩:=t7.form;exact ai (v:=bC z0 z1 z2 z3 (a.eval (.tmp 41)) (a.eval (.tmp 45)) (a.eval (.tmp 49)) (a.eval (.tmp 53)) z8 (gD F)) (bj (by simp only[List.map_toArray,List.map_cons,List.map_nil];rw[show a.eval (.tmp 24)=_ from t0,show a.eval (.tmp 29)=_ from t1,show a.eval (.tmp 33)=_ from t2,show a.eval (.tmp 37)=_ from t3,show a.eval (.tmp 58)=_ from t8,show a.eval (.tmp 60)=_ from t9,show a.eval (.tmp 41)=_ from e4,show a.eval (.tmp 45)=_ from e5,show a.eval (.tmp 49)=_ from e6,show a.eval (.tmp 53)=_ from e7];exact VP ..)) (bH rfl (by decide) hI (κ _ _) (show NN g F w3.heap.size 40 _ _ from⟨⟨z0,z1,z2,z3,l4,l5,l6,l7,z8⟩,_,_,_,_,⟨q0,q1,q2,q3,q4,q5,q6,q7,q8⟩,rfl,t4,t5,t6,t7⟩) (by kernel_rfl) rfl)
     ·
      exact ai (v:=ζ (some ⟨Y.heap.size,0,none⟩)) (Y:=Y.alloc (ι bu.toArray 76)) (by kernel_rfl) (bH rfl (by decide) hI ((κ _ _).alloc (ν _) _) (show NN g F w3.heap.size 41 _ _ from⟨_,rfl,hI.below.size,bu,rfl,M.new _ _ _⟩) (by kernel_rfl) rfl)
     obtain⟨b,eb,zu,cs,Ak,aB⟩:=bT (aF hG 41) (by decide);have hv:RV F Y (a.eval (.tmp 61)):=bT (aF hG 40) (by decide);obtain⟨az,iF,fH,lW,lX⟩:=Zx aB Ak zu hI.below hv;refine BP (Y:=az) (D8 (by show(Ψ 76 (a.eval (.tmp 4)) (a.eval (.tmp 61))).run _ _=_;rw[show a.eval (.tmp 4)=_ from eb];exact iF)) ⟨⟨hI.size,hI.defers,hI.s2,hI.s3,fH⟩,?_,λj oj jm hj _ hg=>?_⟩
     ·unfold GG;rw[if_pos rfl];exact⟨b,eb,zu,lX⟩
     have M6:j<43:=(Array.getElem?_eq_some_iff.1 jm).1;unfold GG at hg⊢;rw[if_neg hj]at hg⊢;exact NN.gr hg lW
    intro a w4 hI hG;have FC:=hG 42 (by decide);unfold GG at FC;rw[if_pos rfl]at FC;obtain⟨b,eb,zu,r,m,md,wk,pl,hP,lX,i1,i2,i3,i4⟩:=FC;obtain⟨f,rfl,vg⟩:=adD a hI.size hI.defers;have e2:=(vg 2).symm.trans hI.s2;have e4:=(vg 4).symm.trans eb;have cu:=hI.below;have hrz:=aB.on cu;have hB4:=cu.size;have hP':=hP;obtain⟨q0,q1,q2,q3,q4,q5,q6,q7,q8⟩:=hP';have uE:=QA q0;obtain⟨a1,s1⟩:=i1.form;obtain⟨a2,s2⟩:=i2.form;obtain⟨a3,s3⟩:=i3.form;obtain⟨a4,s4⟩:=i4.form;subst s1 s2 s3 s4;have CA:=Hq r.fq r.iv r.ct r.un r.ws a1 a2 a4 r.ms.length r.mds.length r.pls.length r.ms.length r.mds.length r.pls.length (η a3 r.wks.length r.wks.length) (gD F) r.wks w4 uE.1 uE.2 (tV q6) i3;unfold bX at lX;have d0:=lX.cell (k:=0) rfl;have d1:=lX.cell (k:=1) rfl;have d2:=lX.cell (k:=2) rfl;have d3:=lX.cell (k:=3) rfl;have d4:=lX.cell (k:=4) rfl;have d5:=lX.cell (k:=5) rfl;have d6:=lX.cell (k:=6) rfl;have d7:=lX.cell (k:=7) rfl;have d8:=lX.cell (k:=8) rfl;have d9:=lX.cell (k:=9) rfl;clear hI hG vg q0 q1 q2 q3 q4 q5 q6 q7 q8 uE c2 c3 CG CS HS HS1 AU hF mQ Ht no Da;rw[e2,e4];cases QB:F2 r with
    |false=>
     rw[show xL r.fq r.ms.length r.mds.length r.wks.length r.pls.length (ie r.wks)=false from QB]at CA;have HN:Hid (¬∃F r,na s F r):=H (λ⟨F',r',G,_,K,h4⟩=>by rw[HU.out F' G]at K;rw[<-hP.uniq K,QB]at h4;cases h4);unfold bC at CA;have C:=H CA;clear CA QB hP;go_wp2_with (first
      |(go_at_call 152;refine(C.out).mono ?_;rintro e w5 ⟨rfl,bJ⟩)
      |(go_at_call_of 65 (ξ false);refine eT ?_))
     exact⟨rfl,.inr ⟨HN.out,rfl⟩,al.trans ((cu.trans (bJ.mono hB4)).mono qD)⟩
    |true=>
     rw[show xL r.fq r.ms.length r.mds.length r.wks.length r.pls.length (ie r.wks)=true from QB]at CA;have HR:Hid (na s F r):=H ⟨HP.out,H23.out,hP,QB⟩;unfold bC at CA;unfold bu bX at hrz;have C:=H CA;clear CA QB hP;go_wp2_with (first
      |(go_at_call 152;refine(C.out).mono ?_;rintro e w5 ⟨rfl,bJ⟩;have wQ:=lX.on bJ;have ky:=hrz.on bJ;have x0:=wQ.cell (k:=0) rfl;have x1:=wQ.cell (k:=1) rfl;have x2:=wQ.cell (k:=2) rfl;have x3:=wQ.cell (k:=3) rfl;have x4:=wQ.cell (k:=4) rfl;have x5:=wQ.cell (k:=5) rfl;have x6:=wQ.cell (k:=6) rfl;have x7:=wQ.cell (k:=7) rfl;have x8:=wQ.cell (k:=8) rfl;have x9:=wQ.cell (k:=9) rfl;have y0:=ky.cell (k:=0) rfl;have f0:=ky.free (k:=0);have y1:=ky.cell (k:=1) rfl;have f1:=ky.free (k:=1);have y2:=ky.cell (k:=2) rfl;have f2:=ky.free (k:=2);have y3:=ky.cell (k:=3) rfl;have f3:=ky.free (k:=3);have y4:=ky.cell (k:=4) rfl;have f4:=ky.free (k:=4);have y5:=ky.cell (k:=5) rfl;have f5:=ky.free (k:=5);have y6:=ky.cell (k:=6) rfl;have f6:=ky.free (k:=6);have y7:=ky.cell (k:=7) rfl;have f7:=ky.free (k:=7);have y8:=ky.cell (k:=8) rfl;have f8:=ky.free (k:=8);have y9:=ky.cell (k:=9) rfl;have f9:=ky.free (k:=9))
      |(go_at_call_of 65 (ξ true);refine dp ?_))
     have hbf:Below w.heap.size w w5:=al.trans ((cu.trans (bJ.mono hB4)).mono qD);obtain⟨hg,fH⟩:=agC ky rfl (ν _) hbf (V Z r.fq) (V Z r.iv) (V Z r.ct) (V Z r.un) (η a1 r.ms.length r.ms.length) (η a2 r.mds.length r.mds.length) (η a3 r.wks.length r.wks.length) (η a4 r.pls.length r.pls.length) (V Z r.ws) (θ (gD F));exact bodyPost_ret (v:=bC r.fq r.iv r.ct r.un (η a1 r.ms.length r.ms.length) (η a2 r.mds.length r.mds.length) (η a3 r.wks.length r.wks.length) (η a4 r.pls.length r.pls.length) r.ws (gD F)) (by simp[results,results81,go_sem,bC,y0,y1,y2,y3,y4,y5,y6,y7,y8,y9]) rfl
      ⟨.inl ⟨F,r,_,_,_,_,HR.out,rfl,(i1.on bJ).gr rW hg,(i2.on bJ).gr rW hg,(i3.on bJ).gr SG hg,(i4.on bJ).gr rW hg⟩,fH⟩
def mj:List (List UInt8):=[[79,80,65,81,85,69],[84,82,65,78,83,80,65,82,69,78,84]]
def nf:List (List UInt8):=[[67,79,78,70,73,82,77,69,68],[84,69,78,84,65,84,73,86,69],[67,65,78,67,69,76,76,69,68]]
def Bm (f:Option (List UInt8)):Option Bool:=(idx mj (f.getD [79,80,65,81,85,69])).map λk:Nat=>(k:Int)==1
def Bn (f:Option (List UInt8)):Option Int:=(idx nf (f.getD [67,79,78,70,73,82,77,69,68])).map λk:Nat=>(k:Int)
def vX (x:Int)(o:Option Bool):Ω:=match o with|none=> ε (bF x)|some z=> δ (.bool z)
theorem zN (f:Option (List UInt8))(w:μ):
 φ prog 76 #[bE f] w λE Y=>E=vX 2 (Bm f)/\Below w.heap.size w Y:=by
 have CO:=H λW=>F0 f [79,80,65,81,85,69] W;have CC:=H λW=>qg W.heap.size 0 2 mj (f.getD [79,80,65,81,85,69]) 2 (W.alloc (ι (strs mj).toArray 9)) (by decide) (jc W mj 9);unfold bE at CO⊢;cases S:idx mj (f.getD [79,80,65,81,85,69])with
 |none=>
  rw[show Bm f=none from by unfold Bm;rw[S];rfl];have HX:=H (sK (x:=2) S);clear S;go_enter func76,ntmps76;go_wp2_with (first
   |(go_at_call 134;refine(CO.out _).mono ?_;rintro e w1 ⟨rfl,au⟩)
   |(go_at_call 133;refine(CC.out _).mono ?_;rw[HX.out];rintro e Y ⟨rfl,rfl⟩))
  exact⟨rfl,rfl,(((κ _ _).alloc (ν _) _).trans (au.mono (by simp))).alloc (by have:=au.size;simp at this;omega) _⟩
 |some k=>
  rw[show Bm f=some ((k:Int)==1)from by unfold Bm;rw[S];rfl];have HX:=H (pk (x:=2) S);clear S;go_enter func76,ntmps76;go_wp2_with (first
   |(go_at_call 134;refine(CO.out _).mono ?_;rintro e w1 ⟨rfl,au⟩)
   |(go_at_call 133;refine(CC.out _).mono ?_;rw[HX.out];rintro e Y ⟨rfl,rfl⟩))
  go_ret;exact⟨rfl,(((κ _ _).alloc (ν _) _).trans (au.mono (by simp))).alloc (by have:=au.size;simp at this;omega) _⟩
theorem vY (w:μ):φ prog 86 #[] w λE Y=>E=δ (η (some ⟨w.heap.size,0,none⟩) 3 3)/\Y=w.alloc (ι (strs nf).toArray 9):=by
 go_enter func86,ntmps86;go_wp2;go_ret;exact⟨rfl,rfl⟩
theorem Hu (f:Option (List UInt8))(w:μ):
 φ prog 77 #[bE f] w λE Y=>E=ew 2 (Bn f)/\Below w.heap.size w Y:=by
 have CO:=H λW=>F0 f [67,79,78,70,73,82,77,69,68] W;have CC:=H λW=>qg W.heap.size 0 3 nf (f.getD [67,79,78,70,73,82,77,69,68]) 2 (W.alloc (ι (strs nf).toArray 9)) (by decide) (jc W nf 9);unfold bE at CO⊢;cases S:idx nf (f.getD [67,79,78,70,73,82,77,69,68])with
 |none=>
  rw[show Bn f=none from by unfold Bn;rw[S];rfl];have HX:=H (sK (x:=2) S);clear S;go_enter func77,ntmps77;go_wp2_with (first
   |(go_at_call 134;refine(CO.out _).mono ?_;rintro e w1 ⟨rfl,au⟩)
   |(go_at_call 86;refine(vY _).mono ?_;rintro e w2 ⟨rfl,rfl⟩)
   |(go_at_call 133;refine(CC.out _).mono ?_;rw[HX.out];rintro e Y ⟨rfl,rfl⟩))
  exact⟨rfl,rfl,(((κ _ _).alloc (ν _) _).trans (au.mono (by simp))).alloc (by have:=au.size;simp at this;omega) _⟩
 |some k=>
  rw[show Bn f=some (k:Int)from by unfold Bn;rw[S];rfl];have HX:=H (pk (x:=2) S);clear S;go_enter func77,ntmps77;go_wp2_with (first
   |(go_at_call 134;refine(CO.out _).mono ?_;rintro e w1 ⟨rfl,au⟩)
   |(go_at_call 86;refine(vY _).mono ?_;rintro e w2 ⟨rfl,rfl⟩)
   |(go_at_call 133;refine(CC.out _).mono ?_;rw[HX.out];rintro e Y ⟨rfl,rfl⟩))
  go_ret;exact⟨rfl,(((κ _ _).alloc (ν _) _).trans (au.mono (by simp))).alloc (by have:=au.size;simp at this;omega) _⟩
theorem D9 (v:List UInt8)(w:μ)(N:v.length<=maxLen):
 φ prog 135 #[θ ⟨v.toArray⟩] w λE Y=>E=ew 1 (oC v)/\Below w.heap.size w Y:=by
 have k:=λW=>SA ⟨v.toArray⟩ W N;rw[show(⟨v.toArray⟩:ByteArray).data.toList=v from rfl]at k;cases hv:oC v with
 |none=>
  rw[hv]at k;unfold XR at k;have C:=H k;clear k hv N;go_enter func135,ntmps135;go_wp2_with (first
   |(go_at_call 20;refine(C.out _).mono ?_;rintro e w1 ⟨rfl,au⟩)
   |(go_at_call_of 65 (ξ false);refine eT ?_))
  exact⟨rfl,rfl,au⟩
 |some n=>
  rw[hv]at k;unfold XR at k;have C:=H k;clear k hv N;go_enter func135,ntmps135;go_wp2_with (first
   |(go_at_call 20;refine(C.out _).mono ?_;rintro e w1 ⟨rfl,au⟩)
   |(go_at_call_of 65 (ξ true);refine dp ?_))
  go_ret;exact⟨rfl,au⟩
def lY (start:Int)(e l:Option (List UInt8)):Option Int:=
 match(match e with|some v=>(fU v).map λz=>z-start|none=>oC (l.getD []))with
 |none=>none
 |some z=>if 1<=z/\z<=2678400 then some z else none
theorem M7 {s:ByteArray}(h:lq s=true):0<=jA s/\jA s<=7258118399:=by
 obtain⟨_,_,_,y0,y1,vd,G,A,m1,m2,s1,s2⟩:=gw.1 h;have nb:=Tx y0 y1 vd;unfold jA;omega
theorem QC {v:List UInt8}{z:Int}(h:fU v=some z):0<=z/\z<=7258118399:=by
 unfold fU at h;split at h
 ·rename_i ht;cases h;exact M7 ht
 cases h
theorem Hv (start:Int)(v:List UInt8)(l:Option (List UInt8))(w:μ)(h0:0<=start)(G:start<=7258118399):
 φ prog 79 #[V Z start,bE (some v),bE l] w λE Y=>E=ew 1 (lY start (some v) l)/\Below w.heap.size w Y:=by
 have k:=λW=>nE (bU v) W;rw[vW]at k;unfold bE;cases ht:fU v with
 |none=>
  rw[ht]at k;rw[show lY start (some v) l=none from by unfold lY;simp only[];rw[ht];rfl];unfold ew at k;have C:=H k;clear k ht;go_enter func79,ntmps79;go_wp2_with (go_at_call 78;refine(C.out _).mono ?_;rintro e w1 ⟨rfl,au⟩);exact⟨rfl,rfl,(((κ _ _).alloc (ν _) _).alloc (by simp) _).trans (au.mono (by simp;omega))⟩
 |some z=>
  rw[ht]at k;have hz:=QC ht;have lR:lY start (some v) l=if 1<=z-start/\z-start<=2678400 then some (z-start)else none:=by unfold lY;simp only[];rw[ht];rfl
  rw[lR];unfold ew at k;have C:=H k;clear k ht lR;by_cases g1:1<=z-start
  ·by_cases g2:z-start<=2678400
   ·rw[if_pos ⟨g1,g2⟩];go_enter func79,ntmps79;go_wp2_with (first
     |(go_at_call 78;refine(C.out _).mono ?_;rintro e w1 ⟨rfl,au⟩)
     |(go_at_call_of 65 (ξ true);refine dp ?_))
    go_ret;exact⟨rfl,(((κ _ _).alloc (ν _) _).alloc (by simp) _).trans (au.mono (by simp;omega))⟩
   rw[if_neg (λh=>g2 h.2)];have g2':decide (z-start<=2678400)=false:=by simpa using g2
   go_enter func79,ntmps79;go_wp2_with (first
    |(go_at_call 78;refine(C.out _).mono ?_;rintro e w1 ⟨rfl,au⟩)
    |(go_at_call_of 65 (ξ false);refine eT ?_))
   exact⟨rfl,rfl,(((κ _ _).alloc (ν _) _).alloc (by simp) _).trans (au.mono (by simp;omega))⟩
  rw[if_neg (λh=>g1 h.1)];have g1':decide (1<=z-start)=false:=by simpa using g1
  go_enter func79,ntmps79;go_wp2_with (first
   |(go_at_call 78;refine(C.out _).mono ?_;rintro e w1 ⟨rfl,au⟩)
   |(go_at_call_of 65 (ξ false);refine eT ?_))
  exact⟨rfl,rfl,(((κ _ _).alloc (ν _) _).alloc (by simp) _).trans (au.mono (by simp;omega))⟩
theorem Hw (start:Int)(l:Option (List UInt8))(w:μ)(N:(l.getD []).length<=maxLen):
 φ prog 79 #[V Z start,bE none,bE l] w λE Y=>E=ew 1 (lY start none l)/\Below w.heap.size w Y:=by
 have k:=λW=>D9 (l.getD []) W N;unfold bE;cases ht:oC (l.getD [])with
 |none=>
  rw[ht]at k;rw[show lY start none l=none from by unfold lY;simp only[];rw[ht]];unfold ew at k;have C:=H k;clear k ht;go_enter func79,ntmps79;go_wp2_with (go_at_call 135;refine(C.out _).mono ?_;rintro e w1 ⟨rfl,au⟩);exact⟨rfl,rfl,(((κ _ _).alloc (ν _) _).alloc (by simp) _).trans (au.mono (by simp;omega))⟩
 |some z=>
  rw[ht]at k;have lR:lY start none l=if 1<=z/\z<=2678400 then some z else none:=by unfold lY;simp only[];rw[ht]
  rw[lR];unfold ew at k;have C:=H k;clear k ht lR;by_cases g1:1<=z
  ·by_cases g2:z<=2678400
   ·rw[if_pos ⟨g1,g2⟩];go_enter func79,ntmps79;go_wp2_with (first
     |(go_at_call 135;refine(C.out _).mono ?_;rintro e w1 ⟨rfl,au⟩)
     |(go_at_call_of 65 (ξ true);refine dp ?_))
    go_ret;exact⟨rfl,(((κ _ _).alloc (ν _) _).alloc (by simp) _).trans (au.mono (by simp;omega))⟩
   rw[if_neg (λh=>g2 h.2)];have g2':decide (z<=2678400)=false:=by simpa using g2
   go_enter func79,ntmps79;go_wp2_with (first
    |(go_at_call 135;refine(C.out _).mono ?_;rintro e w1 ⟨rfl,au⟩)
    |(go_at_call_of 65 (ξ false);refine eT ?_))
   exact⟨rfl,rfl,(((κ _ _).alloc (ν _) _).alloc (by simp) _).trans (au.mono (by simp;omega))⟩
  rw[if_neg (λh=>g1 h.1)];have g1':decide (1<=z)=false:=by simpa using g1
  go_enter func79,ntmps79;go_wp2_with (first
   |(go_at_call 135;refine(C.out _).mono ?_;rintro e w1 ⟨rfl,au⟩)
   |(go_at_call_of 65 (ξ false);refine eT ?_))
  exact⟨rfl,rfl,(((κ _ _).alloc (ν _) _).alloc (by simp) _).trans (au.mono (by simp;omega))⟩
theorem F3 (start:Int)(e l:Option (List UInt8))(w:μ)(h0:0<=start)(G:start<=7258118399)(N:(l.getD []).length<=maxLen):
 φ prog 79 #[V Z start,bE e,bE l] w λE Y=>E=ew 1 (lY start e l)/\Below w.heap.size w Y:=by
 cases e with
 |none=>exact Hw start l w N
 |some v=>exact Hv start v l w h0 G
def dd (w:μ)(v:Value)(zs:List Int):Prop:=(v=η none 0 0/\zs=[])\/∃g cap rest,v=η (some ⟨g,0,none⟩) zs.length cap/\M w g ((zs++rest).map (Α Z)) 3
def tw (f:Option (List UInt8)):Option (List Int):=(dW fU f).map λzs=>Δ (zs.mergeSort λx y=>decide (x<=y))
theorem JI {w:μ}{g:Nat}{zs:List Int}{t:Η}(h:M w g (zs.map (Α Z)) t):Holds (Α Z) w g 0 zs.toArray:=λj hj=>by
 have hj':j<zs.length:=by simpa using hj
 rw[ϛ];refine⟨h.cell ?_,h.free⟩;rw[Ο,Κ hj'];simp[hj']
theorem QD {w:μ}{g:Nat}{zs ds:List Int}{t:Η}(h:M w g (zs.map (Α Z)) t)(hd:ds.length=zs.length)(n:Nat):M (putRow (Α Z) (Sort.ahead w n) g 0 ds.toArray) g (ds.map (Α Z)) t:=by
 unfold M at h⊢;unfold putRow mapBlock;have h':(Sort.ahead w n).heap[g]?=some (ι (zs.map (Α Z)).toArray t):=h;simp only[ϊ,if_true,h',Ε,onCells];congr 2;unfold putCells;apply Array.ext
 ·simp[hd]
 intro i G A;have S:i<ds.length:=by simpa using A
 simp[S]
theorem ZA {w:μ}{g:Nat}{cs:List Value}{t:Η}(h:M w g cs t)(os:Array Obj):M (grow w os) g cs t:=by
 have N:=h.lt;unfold M at h⊢;show(w.heap++os)[g]?=_;rw[Υ N];exact h
theorem JJ {B:Nat}{w:μ}{g n:Nat}{d:Array Int}(hg:B<=g):Below B w (putRow (Α Z) (Sort.ahead w n) g 0 d):=by
 refine⟨rfl,rfl,rfl,by rw[size_putRow];exact ν _,λk I=>?_⟩;unfold putRow mapBlock;show((Sort.ahead w n).heap.modify g _)[k]?=w.heap[k]?;rw[ϊ,if_neg (by omega)];rfl
theorem below_grow {B:Nat}{a w:μ}(h:Below B a w)(os:Array Obj)(hB:B<=w.heap.size):Below B a (grow w os):=
 ⟨h.os,h.tape,h.output,by show _<=(w.heap++os).size;rw[Array.size_append];have:=h.size;omega,λk I=>by
  show(w.heap++os)[k]?=_;rw[Υ (by omega)];exact h.block k I⟩
def agE (f:Option (List UInt8))(w:μ)(E:Ω)(Y:μ):Prop:=
 ((∃zs v,tw f=some zs/\E=δ v/\dd Y v zs)\/(tw f=none/\E=ε (bF 1)))/\Below w.heap.size w Y
theorem yN (zs:List Int):(Δ zs).length<=zs.length:=by
 unfold Δ Lib.compactUpTo;rw[Ϙ];exact Nat.le_trans (List.length_filter_le _ _) (by simp)
theorem OR {g n:Nat}{atI:List Int}{w:μ}(hn:atI.length=n)(U:n<=20)(aB:M w g (atI.map (Α Z)) 3):
 φ prog 138 #[η (some ⟨g,0,none⟩) n n] w λe Y=>e=δ (η (some ⟨g,0,none⟩) (Δ atI).length n)/\M Y g ((Δ atI++List.replicate (atI.length-(Δ atI).length) 0).map (Α Z)) 3/\∀B,B<=g->Below B w Y:=by
 subst hn;have dY:=yN atI;refine(Tryz.slices_Compact_int g 0 atI.length atI w (JI aB) (by omega) (ν _)).mono λe Y ⟨G,q,A⟩=>⟨G,?_,λB hB=>?_⟩
 ·rw[A];exact QD aB (by simp;omega) q
 rw[A];exact JJ hB
theorem ZB:([]:List Int).mergeSort (λx y=>decide (x<=y))=[]:=by simp
theorem zH (f:Option (List UInt8))(w:μ)(hm:ML w)(N:(f.getD []).length<=1048576):
 φ prog 80 #[bE f] w (agE f w):=by
 have bh:Below w.heap.size w (w.alloc (ι #[θ ⟨(f.getD []).toArray⟩,.bool f.isSome] 122)):=(κ _ _).alloc (ν _) _;have gH:(w.alloc (ι #[θ ⟨(f.getD []).toArray⟩,.bool f.isSome] 122)).heap.size=w.heap.size+1:=by simp
 have CL:=Hs f (w.alloc (ι #[θ ⟨(f.getD []).toArray⟩,.bool f.isSome] 122)) (hm.on bh) N;cases hq:dW fU f with
 |none=>
  have ht:tw f=none:=by unfold tw;rw[hq];rfl
  have C:Hid (φ prog 136 #[bE f,V Z 1,.func (.func 78) #[] #[]] (w.alloc (ι #[θ ⟨(f.getD []).toArray⟩,.bool f.isSome] 122)) λE Y=>E=ε (bF 1)/\Below w.heap.size w Y):=
   H (CL.mono λE Y ⟨G,A⟩=>by
    refine⟨?_,bh.trans (A.mono (by omega))⟩;rcases G with⟨zs,v,h,_⟩|⟨_,h⟩
    ·rw[hq]at h;cases h
    exact h)
  have HT:=H ht;unfold bE at C⊢;clear CL hq ht bh gH hm N;go_enter func80,ntmps80;go_wp2_with (go_at_call 136;refine(C.out).mono ?_;rintro e w1 ⟨rfl,au⟩);exact⟨rfl,.inr ⟨HT.out,rfl⟩,au⟩
 |some zs=>
  have ht:tw f=some (Δ (zs.mergeSort λx y=>decide (x<=y))):=by unfold tw;rw[hq];rfl
  have hlen:=tV hq;cases f with
  |none=>
   have hz:zs=[]:=by unfold dW at hq;simp only[]at hq;cases hq;rfl
   subst hz;have C:Hid (φ prog 136 #[bE none,V Z 1,.func (.func 78) #[] #[]] (w.alloc (ι #[θ ⟨((none:Option (List UInt8)).getD []).toArray⟩,.bool (none:Option (List UInt8)).isSome] 122)) λE Y=>E=δ (η none 0 0)/\Below w.heap.size w Y):=
    H ((Bl 78 1 _).mono λE Y ⟨G,A⟩=>⟨G,bh.trans (A.mono (by omega))⟩)
   rw[ZB]at ht;have HT:=H ht;unfold bE at C⊢;clear CL hq ht bh gH hm N hlen;go_enter func80,ntmps80;go_wp2_with (first
    |(go_at_call 136;refine(C.out).mono ?_;rintro e w1 ⟨rfl,au⟩)
    |(go_at_call 137;refine(Tryz.slices_Sort_int_none _ _ _).mono ?_;rintro e Y ⟨rfl,rfl⟩)
    |(go_at_call 138;refine(Tryz.slices_Compact_int_empty _ _ _).mono ?_;rintro e Y ⟨rfl,rfl⟩))
   go_ret;exact⟨.inl ⟨[],_,HT.out,rfl,.inl ⟨rfl,rfl⟩⟩,au⟩
  |some v=>
   have C:Hid (φ prog 136 #[bE (some v),V Z 1,.func (.func 78) #[] #[]] (w.alloc (ι #[θ ⟨((some v).getD []).toArray⟩,.bool (some v).isSome] 122)) λE Y=>∃g,E=δ (η (some ⟨g,0,none⟩) zs.length zs.length)/\w.heap.size<=g/\M Y g (zs.map (Α Z)) 3/\Below w.heap.size w Y):=
    H ((Bg fU 78 v 1 _ (hm.on bh) N (enters_of func78 (by kernel_rfl) rfl) (λt W _=>(nE (bU t) W).mono λE Y ⟨G,A⟩=>⟨by rw[G,vW];unfold ew;cases fU t<;>rfl,A⟩)).mono λE Y ⟨G,A⟩=>by
     unfold xI at G;rw[hq]at G;obtain⟨g,e,hg,aB⟩:=G;exact⟨g,e,by omega,aB,bh.trans (A.mono (by omega))⟩)
   obtain⟨atI,hS⟩:∃atI,atI=zs.mergeSort λx y=>decide (x<=y):=⟨_,rfl⟩;have hSl:atI.length=zs.length:=by rw[hS,List.length_mergeSort]
   rw[<-hS]at ht;have dY:=yN atI;have HT:=H ht;have HS:=H hS;unfold bE at C⊢;clear CL hq ht bh gH hm N hS;go_enter func80,ntmps80;go_wp2_with (first
    |(go_at_call 136;refine(C.out).mono ?_;rintro e w1 ⟨g,rfl,hg,aB,au⟩)
    |(go_at_call 137;refine(Tryz.slices_Sort_int g 0 zs.length zs w1 (JI aB) aB.lt (by omega)).mono ?_;rintro e w2 ⟨rfl,n,os,EM⟩;rw[<-HS.out]at EM;have F4:=ZA (QD aB hSl n) os;have aO:Below w.heap.size w w2:=(by rw[EM];exact below_grow (au.trans (JJ hg)) os (by rw[size_putRow];exact au.size));rw[<-EM]at F4;clear EM)
    |(go_at_call 138;refine(OR hSl (by omega) F4).mono ?_;rintro e w3 ⟨rfl,aiW,aR⟩))
   go_ret;exact⟨.inl ⟨Δ atI,_,HT.out,rfl,.inr ⟨g,zs.length,_,rfl,aiW⟩⟩,aO.trans (aR _ hg)⟩
open Go.Lib
def gX:List UInt8:=[13,10,32]
def rep (s:List UInt8):List UInt8:=replaceK gX [] (count s gX) s
theorem agF (s:List UInt8):replaceAll s gX []=rep s:=by
 unfold replaceAll replace rep;rw[if_neg (by decide)];unfold replaceNum;rw[if_pos (.inl (by decide))]
theorem vh {s:List UInt8}(h:index s gX=-1):rep s=s:=by
 unfold rep;rw[count_miss h];rfl
theorem Ea {s:List UInt8}{i:Nat}(h:index s gX=i):rep s=s.take i++rep (s.drop (i+3)):=by
 unfold rep;rw[count_hit (by decide) h,Nat.add_comm,replaceK_hit _ _ _ _ i h];simp[gX]
theorem VQ (r:List UInt8):index (13::10::32::r) gX=0:=by
 unfold index;rw[if_pos (by simp[gX])]
theorem adE (r:List UInt8):rep (13::10::32::r)=rep r:=by
 rw[Ea (i:=0) (VQ r)];simp
theorem yO {a:UInt8}{r:List UInt8}(h:gX.isPrefixOf (a::r)=false):rep (a::r)=a::rep r:=by
 have e:index (a::r) gX=if index r gX==-1 then -1 else index r gX+1:=by
  rw[index,if_neg (by rw[h];exact Ξ)]
 have MN:=index_ge r gX;by_cases hm:index r gX=-1
 ·rw[vh hm,vh (by rw[e,hm];rfl)]
 obtain⟨i,S⟩:∃i:Nat,index r gX=i:=⟨(index r gX).toNat,by omega⟩;rw[Ea S,Ea (s:=a::r) (i:=i+1) (by rw[e,S,if_neg (by simp)];rfl)];simp
theorem Hx:∀s:List UInt8,fM s=rep s
 |[]=>(vh rfl).symm
 |[a]=>by
  rw[yO (by simp[gX,Β]),vh rfl];rfl
 |[a,b]=>by
  rw[yO (by simp[gX,Β]),yO (by simp[gX,Β]),vh rfl];rfl
 |a::b::c::r=>by
  rw[fM];split
  ·rename_i h;obtain⟨rfl,rfl,rfl⟩:=h;rw[adE,Hx r]
  rename_i h;rw[yO,Hx (b::c::r)];simp only[gX,Β,ϋ,beq_eq_false_iff_ne,Bool.and_true];by_cases G:a=13
  ·by_cases A:b=10
   ·have K:c≠32:=λK=>h ⟨G,A,K⟩;exact .inr (.inr (Ne.symm K))
   exact .inr (.inl (Ne.symm A))
  exact .inl (Ne.symm G)
def crlf:List UInt8:=[13,10]
def dU:List UInt8->List (List UInt8)
 |[]=>[[]]
 |[a]=>[[a]]
 |a::b::r=>if a=13/\b=10 then[]::dU r else glue [a] (dU (b::r))
theorem adF (acc:List UInt8)(l:List (List UInt8)):glue acc l≠[]:=by cases l<;>simp[glue]
theorem VR (a b:List UInt8)(l:List (List UInt8))(h:l≠[]):glue a (glue b l)=glue (a++b) l:=by
 cases l with
 |nil=>exact absurd rfl h
 |cons x t=>simp[glue]
theorem kQ:∀l:List UInt8,dU l≠[]
 |[]=>by simp[dU]
 |[a]=>by simp[dU]
 |a::b::r=>by
  rw[dU];split
  ·simp
  exact adF _ _
theorem M8 (acc:List UInt8){l:List (List UInt8)}(h:l≠[]):(acc::l).dropLast=acc::l.dropLast:=by
 cases l with
 |nil=>exact absurd rfl h
 |cons x t=>rfl
theorem yP:∀(u acc:List UInt8),nX u acc=((glue acc (dU u)).dropLast,((glue acc (dU u)).getLast?.getD []).isEmpty)
 |[],acc=>by simp[nX,dU,glue]
 |[a],acc=>by simp[nX,dU,glue]
 |a::b::r,acc=>by
  rw[nX,dU];split
  ·have ih:=yP r [];rw[vb (kQ r)]at ih;rw[ih];simp only[glue,List.append_nil];rw[M8 acc (kQ r)];cases hs:dU r with
   |nil=>exact absurd hs (kQ r)
   |cons x t=>simp[Λ]
  rw[yP (b::r) (acc++[a]),VR _ _ _ (kQ _)]
def qm (s:List UInt8):List (List UInt8):=splitK crlf 0 (count s crlf) s
theorem yQ {s:List UInt8}(h:index s crlf=-1):qm s=[s]:=by
 unfold qm;rw[count_miss h];rfl
theorem Ec {s:List UInt8}{i:Nat}(h:index s crlf=i):qm s=s.take i::qm (s.drop (i+2)):=by
 have MY:¬(index s crlf==-1)=true:=λe=>by have:=beq_iff_eq.1 e;omega
 have et:(index s crlf).toNat=i:=by omega
 unfold qm;rw[count_hit (by decide) h,Nat.add_comm,splitK,if_neg MY,et];simp[crlf]
theorem adG (r:List UInt8):qm (13::10::r)=[]::qm r:=by
 have:index (13::10::r) crlf=(0:Nat):=by unfold index;rw[if_pos (by simp[crlf])];rfl
 rw[Ec this];simp
theorem M9 {a:UInt8}{r:List UInt8}(h:crlf.isPrefixOf (a::r)=false):qm (a::r)=glue [a] (qm r):=by
 have e:index (a::r) crlf=if index r crlf==-1 then -1 else index r crlf+1:=by
  rw[index,if_neg (by rw[h];exact Ξ)]
 have MN:=index_ge r crlf;by_cases hm:index r crlf=-1
 ·rw[yQ hm,yQ (by rw[e,hm];rfl)];rfl
 obtain⟨i,S⟩:∃i:Nat,index r crlf=i:=⟨(index r crlf).toNat,by omega⟩;rw[Ec S,Ec (s:=a::r) (i:=i+1) (by rw[e,S,if_neg (by simp)];rfl)];simp[glue]
theorem vi:∀s:List UInt8,dU s=qm s
 |[]=>(yQ rfl).symm
 |[a]=>by
  rw[M9 (by simp[crlf,Β]),yQ rfl];rfl
 |a::b::r=>by
  rw[dU];split
  ·rename_i h;obtain⟨rfl,rfl⟩:=h;rw[adG,vi r]
  rename_i h;rw[M9,vi (b::r)];simp only[crlf,Β,ϋ,beq_eq_false_iff_ne,Bool.and_true];by_cases G:a=13
  ·exact .inr (Ne.symm (λA=>h ⟨G,A⟩))
  exact .inl (Ne.symm G)
theorem VS (acc:List UInt8){l:List (List UInt8)}(x:List UInt8)(h:l≠[]):glue acc (l++[x])=glue acc l++[x]:=by
 cases l with
 |nil=>exact absurd rfl h
 |cons y t=>simp[glue]
theorem Ed:∀l:List UInt8,dU (l++[13,10])=dU l++[[]]
 |[]=>by simp[dU]
 |[a]=>by
  show dU (a::13::[10])=_;simp[dU,glue]
 |a::b::r=>by
  show dU (a::b::(r++[13,10]))=_;rw[dU,dU];split
  ·rw[Ed r];rfl
  rw[show b::(r++[13,10])=(b::r)++[13,10]from rfl,Ed (b::r),VS _ _ (kQ _)]
theorem Bo:∀u:List UInt8,(dU u).getLast?.getD []=[]->u=[]\/∃i,u=i++[13,10]
 |[],_=>.inl rfl
 |[a],h=>by simp[dU]at h
 |a::b::r,h=>by
  rw[dU]at h;split at h
  ·rename_i TI;obtain⟨rfl,rfl⟩:=TI;have hr:(dU r).getLast?.getD []=[]:=by
    cases hs:dU r with
    |nil=>exact absurd hs (kQ r)
    |cons x t=>rw[hs,Λ]at h;exact h
   rcases Bo r hr with rfl|⟨i,rfl⟩
   ·exact .inr ⟨[],rfl⟩
   exact .inr ⟨13::10::i,rfl⟩
  have hr:(dU (b::r)).getLast?.getD []=[]:=by
   cases hs:dU (b::r)with
   |nil=>exact absurd hs (kQ _)
   |cons x t=>
    rw[hs]at h;cases t with
    |nil=>simp[glue]at h
    |cons y t=>simp only[glue]at h;rw[Λ]at h⊢;exact h
  rcases Bo (b::r) hr with h0|⟨i,S⟩
  ·cases h0
  exact .inr ⟨a::i,by rw[S];rfl⟩
theorem adH (i:List UInt8):nX (i++[13,10]) []=(qm i,true):=by
 rw[yP,vb (kQ _),Ed,<-vi];simp
theorem agG {u:List UInt8}(h0:u≠[])(h:∀i,u≠i++[13,10]):(nX u []).2=false:=by
 rw[yP,vb (kQ _)];cases hs:(dU u).getLast?.getD []with
 |nil=>
  rcases Bo u hs with G|⟨i,G⟩
  ·exact absurd G h0
  exact absurd G (h i)
 |cons x t=>rfl
def kb (s:List UInt8):Option (List (List UInt8)):=if Ϛ (fM s) crlf=true then some (qm (π (fM s) crlf))else none
def VT (s:List UInt8)(x:Int)(w:μ)(E:Ω)(Y:μ):Prop:=
 (match kb s with
 |none=>E=ε (bF x)
 |some ls=>∃g,E=δ (η (some ⟨g,0,none⟩) ls.length ls.length)/\w.heap.size<=g/\M Y g (strs ls) 9)/\Below w.heap.size w Y
theorem Db (l:List UInt8):(Lib.splitB ⟨#[13,10]⟩ 0 (Χ ⟨l.toArray⟩ ⟨#[13,10]⟩) ⟨l.toArray⟩).map Value.string=strs (qm l):=by
 have G:=Lib.splitB_data ⟨#[13,10]⟩ 0 (Χ ⟨l.toArray⟩ ⟨#[13,10]⟩) ⟨l.toArray⟩;have K:(Lib.splitB ⟨#[13,10]⟩ 0 (Χ ⟨l.toArray⟩ ⟨#[13,10]⟩) ⟨l.toArray⟩).map (·.data.toList)=qm l:=G;rw[<-K];unfold strs;rw[List.map_map];apply List.map_congr_left;intro a _;simp
theorem Na (l:List UInt8):Χ ⟨l.toArray⟩ ⟨#[13,10]⟩+1=(qm l).length:=by
 have G:=Lib.splitB_all ⟨#[13,10]⟩ (by decide) 0 _ ⟨l.toArray⟩ rfl;have A:=congrArg Ϝ (Db l);rw[Ϙ,Ci]at A;omega
theorem Kz (l:List UInt8)(w:μ)(hm:ML w)(N:l.length<=1048576):
 φ prog 139 #[θ ⟨l.toArray⟩,θ ⟨#[13,10]⟩] w λe Y=>e=δ (η (some ⟨w.heap.size,0,none⟩) (qm l).length (qm l).length)/\Y=w.alloc (ι (strs (qm l)).toArray 9):=by
 obtain⟨_,m,hm⟩:=hm;have k:=Tryz.strings_Split ⟨l.toArray⟩ ⟨#[13,10]⟩ m w (by show l.length<4294967281;omega) hm (by decide);rw[Db,Na]at k;exact k
theorem Hy (s:List UInt8)(w:μ)(hm:ML w)(N:s.length<=1048576):
 φ prog 203 #[θ ⟨s.toArray⟩,θ ⟨#[13,10,32]⟩,θ ⟨#[]⟩] w λe Y=>e=δ (θ ⟨(fM s).toArray⟩)/\Below w.heap.size w Y:=by
 obtain⟨_,m,hm⟩:=hm;have k:=Tryz.strings_ReplaceAll ⟨s.toArray⟩ ⟨#[13,10,32]⟩ ⟨#[]⟩ m w (by show s.length<4294967281;omega) hm (by decide) (by show s.length+_*0<=140737488355328;omega);rw[show(⟨s.toArray⟩:ByteArray).data.toList=s from rfl,show(⟨#[13,10,32]⟩:ByteArray).data.toList=gX from rfl,show(⟨#[]⟩:ByteArray).data.toList=[]from rfl,agF,<-Hx]at k;exact k
theorem xM:∀(n:Nat) (s:List UInt8),s.length<=n->(fM s).length<=s.length
 |n,[],_=>by simp[fM]
 |n,[a],_=>by simp[fM]
 |n,[a,b],_=>by simp[fM]
 |0,a::b::c::r,h=>by simp at h
 |n+1,a::b::c::r,h=>by
  rw[fM];split
  ·have:=xM n r (by simp at h;omega);simp;omega
  have:=xM n (b::c::r) (by simp at h⊢;omega);simp at this⊢;omega
theorem SI (s:List UInt8)(x:Int)(w:μ)(hm:ML w)(N:s.length<=1048576):
 φ prog 128 #[θ ⟨s.toArray⟩,V Z x] w (VT s x w):=by
 have CR:=H (Hy s w hm N);have hul:=xM s.length s (ν _);have cs:=λW=>Tryz.strings_CutSuffix ⟨(fM s).toArray⟩ ⟨#[13,10]⟩ W (by show(fM s).length<=9223372036854775807;omega);rw[show(⟨(fM s).toArray⟩:ByteArray).data.toList=fM s from rfl,show(⟨#[13,10]⟩:ByteArray).data.toList=crlf from rfl]at cs;cases hq:Ϛ (fM s) crlf with
 |false=>
  have HE:Hid (kb s=none):=H (by unfold kb;rw[hq];rfl);rw[hq]at cs;have C:=H cs;clear cs hq;go_enter func128,ntmps128;go_wp2_with (first
   |(go_at_call 203;refine(CR.out).mono ?_;rintro e w1 ⟨rfl,au⟩)
   |(go_at_call 204;refine(C.out _).mono ?_;rintro e Y ⟨rfl,rfl⟩)
   |(go_at_call_of 65 (ξ false);refine eT ?_))
  refine⟨rfl,?_,au⟩;rw[HE.out]
 |true=>
  have HE:Hid (kb s=some (qm (π (fM s) crlf))):=H (by unfold kb;rw[hq];rfl);rw[hq]at cs;have htl:(π (fM s) crlf).length<=1048576:=by
   unfold π;split<;>simp<;>omega
  obtain⟨t,ht⟩:∃t,t=π (fM s) crlf:=⟨_,rfl⟩;rw[<-ht]at cs HE htl;have C:=H cs;have HM:=H hm;clear cs hq ht hm;go_enter func128,ntmps128;go_wp2_with (first
   |(go_at_call 203;refine(CR.out).mono ?_;rintro e w1 ⟨rfl,au⟩)
   |(go_at_call 204;refine(C.out _).mono ?_;rintro e Y ⟨rfl,rfl⟩)
   |(go_at_call_of 65 (ξ true);refine dp ?_)
   |(go_at_call 139;refine(Kz t _ (HM.out.on au) htl).mono ?_;rintro e Y ⟨rfl,rfl⟩))
  go_ret;refine⟨?_,au.alloc au.size _⟩;rw[HE.out];exact⟨_,rfl,au.size,M.new _ _ _⟩
end
section
section
variable {P:ύ} {Q:Exit->ό->μ->Prop}
def waits (ops:Array Ζ)(j i:Nat):Bool:=((ops[j]?).map λo=>o.after.any λe=>υ .any e&&e.on==i).getD false
theorem qp {ops:Array Ζ}{i j:Nat}{o:Ζ}(ho:ops[j]?=some o)(h:waits ops j i=true):∃e∈o.after,υ .any e=true/\e.on=i:=by
 unfold waits at h;rw[ho,Ε,Ι,Μ]at h;obtain⟨e,he,K⟩:=h;rw[ψ,beq_iff_eq]at K;exact⟨e,he,K.1,K.2⟩
def iO (n:Nat)(ops:Array Ζ):Bool:=((Ν n).all λi=>(Ν (n+1)).any λk=>decide (i<k)&&waits ops k i)&&(Ν ops.size).all λj=>decide (j<=n)||waits ops j (j-1)
theorem Dc {n:Nat}{ops:Array Ζ}(h:iO n ops=true){i:Nat}(S:i<n):∃k,i<k/\k<=n/\waits ops k i=true:=by
 unfold iO at h;rw[ψ,χ]at h;have G:=h.1 i (List.mem_range.2 S);rw[List.any_eq_true]at G;obtain⟨k,I,A⟩:=G;rw[ψ]at A;exact⟨k,of_decide_eq_true A.1,by have:=List.mem_range.1 I;omega,A.2⟩
theorem tL {n:Nat}{ops:Array Ζ}(h:iO n ops=true){j:Nat}{o:Ζ}(ho:ops[j]?=some o)(hn:n<j):∃e∈o.after,υ .any e=true/\e.on=j-1:=by
 unfold iO at h;rw[ψ,χ,χ]at h;have G:=h.2 j (List.mem_range.2 (Array.getElem?_eq_some_iff.1 ho).1);rw[Bool.or_eq_true]at G;rcases G with G|G
 ·have:=of_decide_eq_true G;omega
 exact qp ho G
theorem eS {l:Array Bool}{i:Nat}(d:Bool)(h:i<l.size):(l.setIfInBounds i true).getD i d=true:=by simp[Array.getD,h]
theorem ca {l:Array Bool}{i k:Nat}(d:Bool)(h:k≠i):(l.setIfInBounds i true).getD k d=l.getD k d:=by
 simp only[Τ,Array.getElem?_setIfInBounds];rw[if_neg (λe=>h e.symm)]
theorem jM {l:Array Bool}{i:Nat}(h:l.getD i false=true):l.getD i true=true:=by
 simp only[Τ]at *
 cases X:l[i]?with
 |none=>rw[X]at h;cases h
 |some b=>rw[X]at h;exact h
theorem JK {ops:Array Ζ}{n:Nat}(hf:forward .any ops=true)(hc:iO n ops=true):
 ∀(t:List Ζ) (k fuel:Nat) (listed:Array Bool) (a:ό) (w:μ),ops.toList.drop k=t->n<=k->k<=ops.size->listed.size=ops.size->(∀i,i<k->listed.getD i false=true)->(∀i,k<=i->i<ops.size->listed.getD i true=false)->
  t.length<=fuel->wpList P ops Q t a w->wpAny P .any ops Q fuel listed a w
 |[],k,fuel,listed,a,w,hd,hn,I,hs,G,A,N,h=>by
  have kC:k=ops.size:=by
   have:=congrArg Ϝ hd;simp only[Ρ,List.length_nil,Array.length_toList]at this;omega
  have hr:Γ .any ops listed=[]:=by
   rw[List.eq_nil_iff_forall_not_mem];intro i S;obtain⟨q1,q2,_⟩:=dc S;have:=jM (G i (by omega));rw[q2]at this;cases this
  cases fuel with
  |zero=>exact⟨hr,h⟩
  |succ f=>exact⟨λ_=>h,λi S=>by rw[hr]at S;cases S⟩
 |o::t,k,fuel,listed,a,w,hd,hn,I,hs,G,A,N,h=>by
  have cI:ops[k]?=some o:=by
   have:=congrArg (λl:List Ζ=>l[0]?) hd;simpa[List.getElem?_drop]using this
  have aQ:=(Array.getElem?_eq_some_iff.1 cI).1;cases fuel with
  |zero=>simp at N
  |succ f=>
   have lP:k∈Γ .any ops listed:=oO cI (A k (ν _) aQ) (λe he U=>G _ (fC hf cI e he U));refine⟨λhr=>(by rw[hr]at lP;cases lP),λi S=>?_⟩;obtain⟨q1,q2,oi,q3,q4⟩:=dc S;have PM:i=k:=by
    rcases Nat.lt_trichotomy i k with Al|heq|Jg
    ·have:=jM (G i Al);rw[q2]at this;cases this
    ·exact heq
    obtain⟨e,he,U,aG⟩:=tL hc q3 (by omega);have K:=q4 e he U;rw[aG]at K;have:=jM K;rw[A (i-1) (by omega) (by omega)]at this;cases this
   subst PM;have h0:wpOp P ops Q i (wpList P ops Q t) a w:=by
    unfold wpOp;rw[cI];exact h
   refine wpOp_mono (λa' Y dD=>JK hf hc t (i+1) f _ a' Y ?_ (by omega) (by omega) (by simp[hs]) ?_ ?_ (by simpa using N) dD) h0
   ·rw[<-List.drop_drop,hd];rfl
   ·intro j hj;by_cases fA:j=i
    ·subst fA;exact eS _ (by omega)
    rw[ca _ fA];exact G j (by omega)
   intro j hj VU;rw[ca _ (by omega)];exact A j (by omega) VU
def KU (P:ύ)(ops:Array Ζ)(Q:Exit->ό->μ->Prop)(t:List Ζ):Exit->ό->μ->Prop
 | .normal,a,w=>wpList P ops Q t a w
 |e,a,w=>Q e a w
theorem VV {ops:Array Ζ}{t:List Ζ}{o:Ζ}{a:ό}{w:μ}{atH K':ό->μ->Prop}(h:∀a w,atH a w->K' a w)(hh:o.wp P a w atH (KU P ops Q t)):o.wp P a w K' Q:=by
 unfold Oper.wp at *
 generalize(execOp a.eval o).run P w=r at *
 cases r with
 |ok n Y=>
  cases n<;>simp only[Oper.upon]at hh⊢<;>
   first
    |exact h _ _ hh
    |exact Calls.mono hh (λe az he=>by cases e<;>first|exact h _ _ he|exact he)
    |exact Rows.mono hh (λ_ _ he=>h _ _ he)
 |halt x Y=>cases x<;>simp only[Oper.upon]at hh⊢<;>exact hh
theorem wR {ops:Array Ζ}(hg:fK ops=true){i:Nat}{o:Ζ}(ho:ops[i]?=some o)(y:Nat->Option Bool):Φ o y=true:=by
 unfold fK at hg;rw[Array.all_eq_true']at hg;have:=hg o (Array.mem_of_getElem? ho);have h:o.guard=none:=by simpa using this
 unfold Φ;rw[h]
theorem ZC {l t:List Ζ}(hf:forward .any (l++t).toArray=true)(hg:fK (l++t).toArray=true)(hc:iO l.length (l++t).toArray=true):
 ∀(fuel:Nat) (listed L:Array Bool) (a:ό) (w:μ),(∀i o,l.toArray[i]?=some o->listed.getD i false=true->∀e∈o.after,υ .any e=true->listed.getD e.on false=true)->listed.size=l.length->L.size=l.length+t.length->(∀i,i<l.length->L.getD i true=listed.getD i true)->(∀i,l.length<=i->i<l.length+t.length->L.getD i true=false)->
  wpAny P .any l.toArray (KU P (l++t).toArray Q t) fuel listed a w->wpAny P .any (l++t).toArray Q (fuel+t.length) L a w:=by
 have bp:(l++t).toArray.size=l.length+t.length:=by simp
 have qV:∀i,i<l.length->(l++t).toArray[i]?=l.toArray[i]?:=λi S=>by simp[List.getElem?_append_left S]
 have jZ:forward .any l.toArray=true:=by
  unfold forward;rw[χ];intro i S;have Qg:i<l.length:=by simpa using List.mem_range.1 S
  unfold forward at hf;rw[χ]at hf;have:=hf i (List.mem_range.2 (by rw[bp];omega));rw[qV i Qg]at this;exact this
 have iV:∀(x:Array Bool) (i:Nat),i<x.size->x.getD i true=x.getD i false:=λx i S=>by rw[bB _ S,bB _ S]
 have done:∀(fuel:Nat) (listed L:Array Bool) (a:ό) (w:μ),t.length<=fuel->listed.size=l.length->L.size=l.length+t.length->(∀i,i<l.length->L.getD i true=listed.getD i true)->(∀i,l.length<=i->i<l.length+t.length->L.getD i true=false)->
  Γ .any l.toArray listed=[]->wpList P (l++t).toArray Q t a w->wpAny P .any (l++t).toArray Q fuel L a w:=by
  intro fuel listed L a w hfu hs hL G A hr h;have bx:=nB jZ (by simpa using hs) hr;refine JK hf hc t l.length fuel L a w (by simp) (ν _) (by rw[bp];omega) (by rw[hL,bp]) (λi S=>?_) (λi S Nb=>A i S (by rw[bp]at Nb;exact Nb)) hfu h;rw[<-iV L i (by omega),G i S,iV listed i (by omega)];exact bx i (by simpa using S)
 intro fuel
 induction fuel with
 |zero=>
  intro listed L a w _ hs hL G A h;rw[ϛ];exact done _ listed L a w (ν _) hs hL G A h.1 h.2
 |succ f ih=>
  intro listed L a w hC hs hL G A h;by_cases hr:Γ .any l.toArray listed=[]
  ·exact done _ listed L a w (by omega) hs hL G A hr (h.1 hr)
  obtain⟨j,hj⟩:=List.exists_mem_of_ne_nil _ hr;obtain⟨j1,j2,_⟩:=dc hj;have VW:j<l.length:=by simpa using j1
  have fI:L.getD j true=false:=by rw[G j VW];exact j2
  have e:f+1+t.length=(f+t.length)+1:=by omega
  rw[e];have key:∀i,i∈Γ .any (l++t).toArray L->i∈Γ .any l.toArray listed/\i<l.length:=by
   intro i S;obtain⟨q1,q2,o,q3,q4⟩:=dc S;have jl:i<l.length:=by
    rcases Nat.lt_or_ge i l.length with h'|h'
    ·exact h'
    rcases ώ h' with h5|h5
    ·rw[<-h5]at q3;have bx:∀d x,x+d=l.length->0<d->L.getD x false=true:=by
      intro d
      induction d using Nat.strongRecOn with
      |ind d ih=>
       intro x X hd;obtain⟨k,Cu,fG,Nc⟩:=Dc hc (by omega:x<l.length);rcases ώ fG with F5|F5
       ·rw[F5]at Nc;obtain⟨e,he,U,aG⟩:=qp q3 Nc;have K:=q4 e he U;rw[aG]at K;exact K
       have Qa:=ih (l.length-k) (by omega) k (by omega) (by omega);have cI:(l++t).toArray[k]?=some l[k]:=by rw[qV k F5];simp
       obtain⟨e,he,U,aG⟩:=qp cI Nc;have h6:=hC k l[k] (by simp) (by rw[<-iV listed k (by omega),<-G k F5,iV L k (by omega)];exact Qa) e he U;rw[aG,<-iV listed x (by omega),<-G x (by omega),iV L x (by omega)]at h6;exact h6
     have:=jM (bx (l.length-j) j (by omega) (by omega));rw[fI]at this;cases this
    obtain⟨e,he,U,aG⟩:=tL hc q3 h5;have K:=q4 e he U;rw[aG]at K;have:=jM K;rw[A (i-1) (by omega) (by rw[bp]at q1;omega)]at this;cases this
   rw[qV i jl]at q3;refine⟨oO q3 (by rw[<-G i jl];exact q2) (λe he U=>?_),jl⟩;have aQ:e.on<i:=fC jZ q3 e he U;have K:=q4 e he U;have:=jM K;rw[G e.on (by omega),iV listed _ (by omega)]at this;exact this
  refine⟨λkJ=>?_,λi S=>?_⟩
  ·exfalso;obtain⟨q1,q2,o,q3,q4⟩:=dc hj;have Qn:j∈Γ .any (l++t).toArray L:=by
    refine oO (by rw[qV j VW];exact q3) fI (λe he U=>?_);have aQ:e.on<j:=fC jZ q3 e he U;have K:=q4 e he U;rw[<-iV L _ (by omega),G _ (by omega),iV listed _ (by omega)];exact K
   rw[kJ]at Qn;cases Qn
  obtain⟨ki,jl⟩:=key i S;have h4:=h.2 i ki;have ho:l.toArray[i]?=some l[i]:=by simp
  unfold wpOp at h4⊢;rw[qV i jl];rw[ho]at h4⊢;simp only[]at h4⊢;have hw:∀y,Φ l[i] y=true:=wR hg (by rw[qV i jl];exact ho);rw[if_pos (hw _)]at h4⊢;refine h4.imp (VV λa' Y dD=>ih _ _ a' Y (λk ok cI ja e he U=>?_) (by simpa using hs) (by simpa using hL) (λk I=>?_) (λk I kC=>?_) dD) (λ⟨x,y⟩=>⟨x,y⟩)
  ·obtain⟨_,_,oi,qo,qa⟩:=dc ki;by_cases kN:k=i
   ·subst kN;rw[qo]at cI;cases cI;by_cases uS:e.on=k
    ·rw[uS];exact eS _ (by omega)
    rw[ca _ uS];exact qa e he U
   rw[ca _ kN]at ja;by_cases uS:e.on=i
   ·rw[uS];exact eS _ (by omega)
   rw[ca _ uS];exact hC k ok cI ja e he U
  ·by_cases kN:k=i
   ·subst kN;rw[eS _ (by omega),eS _ (by omega)]
   rw[ca _ kN,ca _ kN];exact G k I
  rw[ca _ (by omega)];exact A k I kC
theorem xN {id:Nat}{a:ό}{w:μ}(l t:List Ζ)(hm:P.follows .mixedOrders=true)(hf:forward .any (l++t).toArray=true)(hg:fK (l++t).toArray=true)(hc:iO l.length (l++t).toArray=true)
 (h:wpAny P .any l.toArray (KU P (l++t).toArray Q t) l.length (ϗ l.length false) a {w with drawn:=w.drawn+1}):(Code.region id (l++t).toArray true).wp P Q a w:=by
 refine wp_region_any hm ?_;have bp:(l++t).toArray.size=l.length+t.length:=by simp
 rw[bp];refine ZC hf hg hc _ _ _ _ _ (λi o ho N=>?_) (by simp) (by simp) (λi S=>?_) (λi S Nb=>?_) h
 ·rw[bB _ (by simpa using(Array.getElem?_eq_some_iff.1 ho).1)]at N;simp at N
 ·rw[bB _ (by simp;omega),bB _ (by simpa using S)];simp
 rw[bB _ (by simp;omega)];simp
theorem KB {id:Nat}{a:ό}{w:μ}(l t:List Ζ)(hm:P.follows .mixedOrders=true)(hf:forward .any (l++t).toArray=true)(hg:fK (l++t).toArray=true)(hc:iO l.length (l++t).toArray=true)(hB:Region.lexB .any l.toArray=true)
 (h:wpQuiet P l.toArray (λY=>∃n,Y=w.drewN n) (λa'=>∀Y,(∃n,Y=w.drewN n)->wpList P (l++t).toArray Q t a' Y) l a):(Code.region id (l++t).toArray true).wp P Q a w:=by
 refine xN l t hm hf hg hc ?_;simp only[Region.lexB,ψ]at hB;refine wpAny_of_quiet (Q:=λa'=>∀Y,(∃n,Y=w.drewN n)->KU P (l++t).toArray Q t .normal a' Y) (C:=λY=>∃n,Y=w.drewN n) (λ_ Y dD h=>h Y dD) _ _ _ _ ⟨1,rfl⟩ ?_;exact wpAnyQ_lex (C:=λY=>∃n,Y=w.drewN n) (md:=.any) hB.1 l 0 (ϗ l.length false) a (by simp) (by simpa using hB.2) h
theorem SK {id:Nat}{a:ό}{w:μ}{L l t:List Ζ}(n:Nat)(N:L.take n=l)(ht:L.drop n=t)(hm:P.follows .mixedOrders=true)(hf:forward .any L.toArray=true)(hg:fK L.toArray=true)(hc:iO n L.toArray=true)(hn:l.length=n)(hB:Region.lexB .any l.toArray=true)
 (h:wpQuiet P l.toArray (λY=>∃n,Y=w.drewN n) (λa'=>∀Y,(∃n,Y=w.drewN n)->wpList P L.toArray Q t a' Y) l a):(Code.region id L.toArray true).wp P Q a w:=by
 subst N ht;have e:L.take n++L.drop n=L:=List.take_append_drop n L;have:=KB (P:=P) (Q:=Q) (id:=id) (a:=a) (w:=w) (L.take n) (L.drop n) hm (by rw[e];exact hf) (by rw[e];exact hg) (by rw[e,hn];exact hc) hB (by rw[e];exact h);rw[e]at this;exact this
end
theorem iZ {P:ύ}{Q:Exit->ό->μ->Prop}{id:Nat}{a:ό}{w:μ}{L l t:List Ζ}(n:Nat)
 (h:wpQuiet P l.toArray (λY=>∃n,Y=w.drewN n) (λa'=>∀Y,(∃n,Y=w.drewN n)->wpList P L.toArray Q t a' Y) l a)
 (N:L.take n=l:=by simp only[List.take_succ_cons,List.take_zero];rfl)(ht:L.drop n=t:=by simp only[List.drop_succ_cons,List.drop_zero];rfl)
 (hm:P.follows .mixedOrders=true:=by kernel_rfl)(hf:forward .any L.toArray=true:=by kernel_rfl)(hg:fK L.toArray=true:=by kernel_rfl)(hc:iO n L.toArray=true:=by kernel_rfl)
 (hn:l.length=n:=by rfl)(hB:Region.lexB .any l.toArray=true:=by kernel_rfl):(Code.region id L.toArray true).wp P Q a w:=SK n N ht hm hf hg hc hn hB h
end
open Go.Sort
def fp:List (List UInt8):=[[85,73,68],[68,84,83,84,65,82,84],[68,84,69,78,68],[68,85,82,65,84,73,79,78],[82,82,85,76,69],[69,88,68,65,84,69],[82,68,65,84,69],[84,82,65,78,83,80],[83,84,65,84,85,83]]
def gq:List UInt8:=[66,69,71,73,78,58,86,69,86,69,78,84]
def lB:List UInt8:=[69,78,68,58,86,69,86,69,78,84]
theorem tz (w:μ):φ prog 130 #[] w λE Y=>E=δ (η (some ⟨w.heap.size,0,none⟩) 9 9)/\Y=w.alloc (ι (strs fp).toArray 9):=by
 go_enter func130,ntmps130;go_wp2;go_ret;exact⟨rfl,rfl⟩
def gu (ls:List (List UInt8)):List (List UInt8):=(ls.drop 1).take (ls.length-2)
structure dI (s:List UInt8)(F:Nat->Option (List UInt8)):Prop where
 len:s.length<=2000
 lines:∃ls,kb s=some ls/\2<=ls.length/\ls.getD 0 []=gq/\ls.getD (ls.length-1) []=lB/\eH fp 58 (gu ls) (λ_=>none)=some F
 uid:(F 0).isSome=true
 start:(F 1).isSome=true
 one:((F 2).isSome !=(F 3).isSome)=true
def agI (s:List UInt8)(w:μ)(E:Ω)(Y:μ):Prop:=
 ((∃F g,dI s F/\E=δ (η (some ⟨g,0,none⟩) 9 9)/\w.heap.size<=g/\cV Y g F)\/((¬∃F,dI s F)/\E=ε (bF 2)))/\Below w.heap.size w Y
theorem VX {w:μ}{g:Nat}{ls:List (List UInt8)}{t:Η}(h:M w g (strs ls) t):jL w g 1 (gu ls):=λj hj=>by
 have M6:j<ls.length-2/\j+1<ls.length:=by unfold gu at hj;rw[Ϗ,Ρ]at hj;omega
 refine h.cell ?_;unfold strs gu;rw[Ο,Nat.add_comm 1 j,Κ M6.2];simp only[Ε];congr 3;simp[List.getD,M6.1,M6.2]
theorem VY (ls:List (List UInt8)):(gu ls).length=ls.length-2:=by
 unfold gu;rw[Ϗ,Ρ];omega
theorem qW {w:μ}{g k:Nat}{ls:List (List UInt8)}{t:Η}(h:M w g (strs ls) t)(I:k<ls.length):w.cell? ⟨g,k,none⟩=some (θ ⟨(ls.getD k []).toArray⟩):=by
 refine h.cell ?_;unfold strs;rw[Ο,Κ I];simp[List.getD,I]
theorem ZD (a:List UInt8){l:List (List UInt8)}(h:l≠[]):(glue a l).length=l.length:=by
 cases l with
 |nil=>exact absurd rfl h
 |cons x t=>rfl
theorem Ee:∀l:List UInt8,(dU l).length<=l.length+1
 |[]=>by simp[dU]
 |[a]=>by simp[dU]
 |a::b::r=>by
  rw[dU];split
  ·have:=Ee r;simp;omega
  rw[ZD _ (kQ _)];have:=Ee (b::r);simp at this⊢;omega
theorem SM {s:List UInt8}{ls:List (List UInt8)}(h:kb s=some ls):ls.length<=s.length+1:=by
 unfold kb at h;split at h
 ·cases h;rw[<-vi];have G:=Ee (π (fM s) crlf);have A:=xM s.length s (ν _);have K:(π (fM s) crlf).length<=(fM s).length:=by
   unfold π;split<;>simp
  omega
 cases h
theorem yR:∀(l:List UInt8),∀p∈dU l,p.length<=l.length
 |[],p,h=>by simp[dU]at h;subst h;simp
 |[a],p,h=>by simp[dU]at h;subst h;simp
 |a::b::r,p,h=>by
  rw[dU]at h;split at h
  ·rw[ϙ]at h;rcases h with rfl|h
   ·simp
   have:=yR r p h;simp;omega
  cases hs:dU (b::r)with
  |nil=>exact absurd hs (kQ _)
  |cons x t=>
   have ih:=yR (b::r);rw[hs]at h ih;simp only[glue,ϙ]at h;rcases h with rfl|h
   ·have:=ih x (by simp);simp at this⊢;omega
   have:=ih p (by simp[h]);simp at this⊢;omega
theorem Bp {s:List UInt8}{ls:List (List UInt8)}(h:kb s=some ls):∀l∈ls,l.length<=s.length:=by
 unfold kb at h;split at h
 ·cases h;intro l N;rw[<-vi]at N;have G:=yR _ l N;have A:=xM s.length s (ν _);have K:(π (fM s) crlf).length<=(fM s).length:=by
   unfold π;split<;>simp
  omega
 cases h
theorem cV.aiX {w:μ}{g:Nat}{f:Nat->Option (List UInt8)}(h:cV w g f):cV w.drew g f:=⟨h.lt,h.val,h.there,h.fv,h.ft⟩
theorem Bq (s:List UInt8)(w:μ)(hm:ML w)(hs:s.length<=1048576):
 φ prog 74 #[θ ⟨s.toArray⟩] w (agI s w):=by
 by_cases h2k:s.length<=2000
 case neg=>
  have HN:Hid (¬∃F,dI s F):=H (λ⟨F,h⟩=>h2k h.len);have h':decide ((s.length:Int)<=2000)=false:=by simp;omega
  clear hm;go_enter func74,ntmps74;go_wp2_with (go_at_call_of 65 (ξ false);refine eT ?_);exact⟨rfl,.inr ⟨HN.out,rfl⟩,κ _ _⟩
 have ari:(s.length:Int)<=2000:=by omega
 have CL:=SI s 2 w hm hs;unfold VT at CL;cases hq:kb s with
 |none=>
  rw[hq]at CL;have HN:Hid (¬∃F,dI s F):=H (λ⟨F,h⟩=>by obtain⟨ls,G,_⟩:=h.lines;rw[hq]at G;cases G);have C:=H CL;clear CL hq hm;go_enter func74,ntmps74;go_wp2_with (first
   |(go_at_call_of 65 (ξ true);refine dp ?_)
   |(go_at_call 128;refine(C.out).mono ?_;rintro e w1 ⟨rfl,au⟩))
  exact⟨rfl,.inr ⟨HN.out,rfl⟩,au⟩
 |some ls=>
  rw[hq]at CL;simp only[]at CL;have C:=H CL;have rX:∀sM,kb s=some sM->sM=ls:=λsM h=>by rw[hq]at h;exact(Θ h).symm
  have HM:=H hm;clear CL hm;by_cases sC:2<=ls.length
  case neg=>
   have HN:Hid (¬∃F,dI s F):=H (λ⟨F,h⟩=>by obtain⟨sM,G,A,_⟩:=h.lines;rw[rX sM G]at A;exact sC A);have g0:decide ((0:Int)<(ls.length:Int)-1)=false:=by simp;omega
   clear hq rX;go_enter func74,ntmps74;go_wp2_with (first
    |(go_at_call_of 65 (ξ true);refine dp ?_)
    |(go_at_call_of 65 (ξ false);refine eT ?_)
    |(go_at_call 128;refine(C.out).mono ?_;rintro e w1 ⟨⟨g,rfl,hg,aB⟩,au⟩))
   exact⟨rfl,.inr ⟨HN.out,rfl⟩,au⟩
  obtain⟨m,nJ⟩:∃m,ls.length=m+2:=⟨ls.length-2,by omega⟩;rw[nJ]at C;have Jb:=SM hq;have Mf:wrap64 ((m:Int)+2-1)=(m:Int)+1:=by unfold wrap64;omega
  have htn:((m:Int)+1).toNat=m+1:=by omega
  have arj:(0:Int)<(m:Int)+1:=by omega
  have Nd:=H nJ;clear sC;by_cases U:ls.getD 0 []=gq
  case neg=>
   have HN:Hid (¬∃F,dI s F):=H (λ⟨F,h⟩=>by obtain⟨sM,G,A,K,_⟩:=h.lines;rw[rX sM G]at K;exact U K);obtain⟨l0,Uk⟩:∃l0,l0=ls.getD 0 []:=⟨_,rfl⟩;have q0:(l0==[66,69,71,73,78,58,86,69,86,69,78,84])=false:=by rw[beq_eq_false_iff_ne,Uk];exact U
   have QE:=H Uk;clear hq rX U Uk nJ;go_enter func74,ntmps74;go_wp2_with (first
    |(go_at_call_of 65 (ξ true);refine dp ?_)
    |(go_at_call_of 65 (ξ false);refine eT ?_)
    |(go_at_call 128;refine(C.out).mono ?_;rintro e w1 ⟨⟨g,rfl,hg,aB⟩,au⟩;have d0:=qW aB (k:=0) (by rw[Nd.out];omega);rw[<-QE.out]at d0))
   exact⟨rfl,.inr ⟨HN.out,rfl⟩,au⟩
  by_cases he:ls.getD (ls.length-1) []=lB
  case neg=>
   have HN:Hid (¬∃F,dI s F):=H (λ⟨F,h⟩=>by obtain⟨sM,G,A,K,h4,_⟩:=h.lines;rw[rX sM G]at h4;exact he h4);rw[show ls.length-1=m+1 from by omega]at he;obtain⟨l1,vG⟩:∃l1,l1=ls.getD (m+1) []:=⟨_,rfl⟩;have q0:(l1==[69,78,68,58,86,69,86,69,78,84])=false:=by rw[beq_eq_false_iff_ne,vG];exact he
   have HL1:=H vG;have QE:Hid (ls.getD 0 []=[66,69,71,73,78,58,86,69,86,69,78,84]):=H U;clear hq rX U vG nJ he;go_enter func74,ntmps74;go_wp2_with (first
    |(go_at_call_of 65 (ξ true);refine dp ?_)
    |(go_at_call_of 65 (ξ false);refine eT ?_)
    |(go_at_call 128;refine(C.out).mono ?_;rintro e w1 ⟨⟨g,rfl,hg,aB⟩,au⟩;have d0:=qW aB (k:=0) (by rw[Nd.out];omega);rw[QE.out]at d0;have d1:=qW aB (k:=m+1) (by rw[Nd.out];omega);rw[<-HL1.out]at d1))
   exact⟨rfl,.inr ⟨HN.out,rfl⟩,au⟩
  have QE:Hid (ls.getD 0 []=[66,69,71,73,78,58,86,69,86,69,78,84]):=H U;have HL1:Hid (ls.getD (m+1) []=[69,78,68,58,86,69,86,69,78,84]):=H (by rw[show ls.length-1=m+1 from by omega]at he;exact he);have jl:(gu ls).length=m:=by rw[VY,nJ];omega
  have HIL:=H jl;have QF:Hid (∀l∈gu ls,l.length<=1048576):=H (λl N=>by
   have:l∈ls:=List.mem_of_mem_drop (List.mem_of_mem_take N);have:=Bp hq l this;omega)
  have CF0:∀(w1:μ) (g:Nat),Below w.heap.size w w1->M w1 g (strs ls) 9->ML w->φ prog 129 #[η (some ⟨g,1,none⟩) m (m+1),θ ⟨#[58]⟩,η (some ⟨w1.heap.size,0,none⟩) 9 9,V Z 2] (w1.drew.alloc (ι (strs fp).toArray 9)) (oh fp 58 (gu ls) 2 (w1.drew.alloc (ι (strs fp).toArray 9))):=λw1 g au aB hmw=>by
   have aO:Below w1.heap.size w1 (w1.drew.alloc (ι (strs fp).toArray 9)):=(κ _ _).drew.alloc (ν _) _;have:=FO g 1 (m+1) w1.heap.size 0 9 fp (gu ls) 58 2 (w1.drew.alloc (ι (strs fp).toArray 9)) rfl (by rw[jl];omega) QF.out (by have:=aB.lt;have:=aO.size;omega) (by show w1.drew.heap.size<_;simp) (VX (aB.on aO)) (jc w1.drew fp 9);rw[jl]at this;exact this
  cases J:eH fp 58 (gu ls) (λ_=>none)with
  |none=>
   have CF:Hid (∀(w1:μ) (g:Nat),Below w.heap.size w w1->M w1 g (strs ls) 9->ML w->φ prog 129 #[η (some ⟨g,1,none⟩) m (m+1),θ ⟨#[58]⟩,η (some ⟨w1.heap.size,0,none⟩) 9 9,V Z 2] (w1.drew.alloc (ι (strs fp).toArray 9)) λE Y=>E=ε (bF 2)/\Below w.heap.size w Y):=
    H (λw1 g au aB hmw=>(CF0 w1 g au aB hmw).mono λE Y h=>by
     unfold oh at h;rw[J]at h;have aO:Below w1.heap.size w1 (w1.drew.alloc (ι (strs fp).toArray 9)):=(κ _ _).drew.alloc (ν _) _;exact⟨h.1,au.trans ((aO.trans (h.2.mono aO.size)).mono au.size)⟩)
   clear CF0;have HN:Hid (¬∃F,dI s F):=H (λ⟨F,h⟩=>by obtain⟨sM,G,A,K,h4,h5⟩:=h.lines;rw[rX sM G,J]at h5;cases h5);have HP:=H J;clear hq rX U he nJ jl J;go_enter func74,ntmps74;go_wp2_with (first
    |(go_at_call_of 65 (ξ true);refine dp ?_)
    |(go_at_call 128;refine(C.out).mono ?_;rintro e w1 ⟨⟨g,rfl,hg,aB⟩,au⟩;have d0:=qW aB (k:=0) (by rw[Nd.out];omega);rw[QE.out]at d0;have d1:=qW aB (k:=m+1) (by rw[Nd.out];omega);rw[HL1.out]at d1))
   refine wp_region_any (by kernel_rfl) ?_;change wpAny _ _ _ _ _ _ _ (World.drew _);refine cT 0 ?_;refine cT 1 ?_;have s1:(1:Int)<=(m:Int)+1:=by omega
   have s2:(m:Int)+1<=(m:Int)+2:=by omega
   have s3:((m:Int)+1-1).toNat=m:=by omega
   refine cT 2 ?_;refine lu 3 λatH hK=>?_;go_simp;go_wp2_with (go_at_call 130;refine(tz _).mono ?_;rintro e Y ⟨rfl,rfl⟩)
   try(refine hK _ _ ?_;clear hK atH)
   refine lu 4 λatH hK=>?_;go_simp;go_wp2_with (go_at_call 129;refine(CF.out w1 g au aB HM.out).mono ?_;rintro e w3 ⟨rfl,al⟩);exact⟨rfl,.inr ⟨HN.out,rfl⟩,al⟩
  |some F=>
   have HP:=H J;have CF:Hid (∀(w1:μ) (g:Nat),Below w.heap.size w w1->M w1 g (strs ls) 9->ML w->φ prog 129 #[η (some ⟨g,1,none⟩) m (m+1),θ ⟨#[58]⟩,η (some ⟨w1.heap.size,0,none⟩) 9 9,V Z 2] (w1.drew.alloc (ι (strs fp).toArray 9)) λE Y=>∃g2,E=δ (η (some ⟨g2,0,none⟩) 9 9)/\w.heap.size<=g2/\cV Y g2 F/\Below w.heap.size w Y):=
    H (λw1 g au aB hmw=>(CF0 w1 g au aB hmw).mono λE Y h=>by
     unfold oh at h;rw[J]at h;have aO:Below w1.heap.size w1 (w1.drew.alloc (ι (strs fp).toArray 9)):=(κ _ _).drew.alloc (ν _) _;obtain⟨⟨g2,G,A,K⟩,h4⟩:=h;have Ag:=au.size;have oZ:=aO.size;exact⟨g2,G,by omega,K,au.trans ((aO.trans (h4.mono aO.size)).mono au.size)⟩)
   have huF:∀F',dI s F'->F'=F:=λF' h=>by obtain⟨sM,G,A,K,h4,h5⟩:=h.lines;rw[rX sM G,J]at h5;exact(Θ h5).symm
   have bx:dI s F↔((F 0).isSome=true/\(F 1).isSome=true/\((F 2).isSome !=(F 3).isSome)=true):=
    ⟨λh=>⟨h.uid,h.start,h.one⟩,λ⟨G,A,K⟩=>⟨h2k,⟨ls,hq,by omega,U,he,J⟩,G,A,K⟩⟩
   have Da:Hid (¬((F 0).isSome=true/\(F 1).isSome=true/\((F 2).isSome !=(F 3).isSome)=true)->¬∃F,dI s F):=H (λhn ⟨F',h⟩=>by rw[huF F' h]at h;exact hn (bx.1 h));have HA:=H bx.2;clear CF0 hq rX U he nJ jl J huF bx;go_enter func74,ntmps74;go_wp2_with (first
    |(go_at_call_of 65 (ξ true);refine dp ?_)
    |(go_at_call 128;refine(C.out).mono ?_;rintro e w1 ⟨⟨g,rfl,hg,aB⟩,au⟩;have d0:=qW aB (k:=0) (by rw[Nd.out];omega);rw[QE.out]at d0;have d1:=qW aB (k:=m+1) (by rw[Nd.out];omega);rw[HL1.out]at d1))
   refine wp_region_any (by kernel_rfl) ?_;change wpAny _ _ _ _ _ _ _ (World.drew _);refine cT 0 ?_;refine cT 1 ?_;have s1:(1:Int)<=(m:Int)+1:=by omega
   have s2:(m:Int)+1<=(m:Int)+2:=by omega
   have s3:((m:Int)+1-1).toNat=m:=by omega
   refine cT 2 ?_;refine lu 3 λatH hK=>?_;go_simp;go_wp2_with (go_at_call 130;refine(tz _).mono ?_;rintro e Y ⟨rfl,rfl⟩)
   try(refine hK _ _ ?_;clear hK atH)
   refine lu 4 λatH hK=>?_;go_simp;go_wp2_with (go_at_call 129;refine(CF.out w1 g au aB HM.out).mono ?_;rintro e w3 ⟨g2,rfl,LC,hF,al⟩)
   try(refine hK _ _ ?_;clear hK atH)
   refine cT 5 ?_;refine wpAny_done (by kernel_rfl) ?_ _;have x0:=hF.there 0 (by decide);have x1:=hF.there 1 (by decide);have x2:=hF.there 2 (by decide);have x3:=hF.there 3 (by decide);generalize(F 0).isSome=b0 at *
   generalize(F 1).isSome=b1 at *
   generalize(F 2).isSome=b2 at *
   generalize(F 3).isSome=b3 at *
   have HF:=H hF;clear hF d0 d1 aB C CF;cases b0 with
   |false=>
    have HN:Hid (¬∃F,dI s F):=H (Da.out (λh=>by cases h.1));clear Da HA;go_wp2_with (go_at_call_of 65 (ξ false);refine eT ?_);exact⟨rfl,.inr ⟨HN.out,rfl⟩,al⟩
   |true=>
    cases b1 with
    |false=>
     have HN:Hid (¬∃F,dI s F):=H (Da.out (λh=>by cases h.2.1));clear Da HA;go_wp2_with (first
      |(go_at_call_of 65 (ξ true);refine dp ?_)
      |(go_at_call_of 65 (ξ false);refine eT ?_))
     exact⟨rfl,.inr ⟨HN.out,rfl⟩,al⟩
    |true=>
     go_wp2_with (go_at_call_of 65 (ξ true);refine dp ?_);refine iZ 9 ?_
     iterate 9 (go_big_quiet_step (fail))
     refine wpQuiet_nil ?_;intro _ dD;obtain⟨nq,rfl⟩:=dD;have Ao:=below_drewN al nq;cases b2<;>cases b3
     case true.true|false.false=>
      have HN:Hid (¬∃F,dI s F):=H (Da.out (λh=>by cases h.2.2));clear Da HA;go_wp2_with (go_at_call_of 65 (ξ false);refine eT ?_);exact⟨rfl,.inr ⟨HN.out,rfl⟩,Ao⟩
     all_goals
      have HI:Hid (dI s F):=H (HA.out (by simp));clear Da HA;go_wp2_with (go_at_call_of 65 (ξ true);refine dp ?_);go_ret;exact⟨.inl ⟨F,g2,HI.out,rfl,LC,⟨HF.out.lt,HF.out.val,HF.out.there,HF.out.fv,HF.out.ft⟩⟩,Ao⟩
def ke (u:ByteArray)(st ln:Int)(hr:Bool)(rc:List Value)(ex xt:Value)(tr:Bool)(k:Int):List Value:=[θ u,V Z st,V Z ln,.bool hr]++rc++[ex,xt,.bool tr,V Z k]
def zI (u:ByteArray)(st ln:Int)(hr:Bool)(rc:List Value)(ex xt:Value)(tr:Bool)(k:Int):Value:=.agg (ke u st ln hr rc ex xt tr k).toArray
def fB:List Value:=ke ⟨#[]⟩ 0 0 false bu (η none 0 0) (η none 0 0) false 0
structure F6 (F:Nat->Option (List UInt8))(tr:Bool)(k:Int):Prop where
 uid:fT (bU ((F 0).getD []))=true
 tr:Bm (F 7)=some tr
 st:Bn (F 8)=some k
def EV (F:Nat->Option (List UInt8))(v:Value):Prop:=∃tr k,F6 F tr k/\v=zI (bU ((F 0).getD [])) 0 0 false bu (η none 0 0) (η none 0 0) tr k
def EB (F:Nat->Option (List UInt8))(w:μ)(b:Nat):Prop:=∃tr k,F6 F tr k/\M w b (ke (bU ((F 0).getD [])) 0 0 false bu (η none 0 0) (η none 0 0) tr k) 79
def qq (i:Nat):Nat:=if i=14 then 4 else 7+i
def NE (g:Nat)(F:Nat->Option (List UInt8))(B:Nat)(i:Nat)(v:Value)(w:μ):Prop:=match i with
 |0|5|9=>v=η (some ⟨g,0,none⟩) 9 9
 |1|2=>v=ζ (some ⟨g,0*2,none⟩)
 |3=>v=θ (bU ((F 0).getD []))
 |4=>fT (bU ((F 0).getD []))=true/\v=θ (bU ((F 0).getD []))
 |6=>v=ζ (some ⟨g,7*2,none⟩)
 |7=>v=bE (F 7)
 |8=>∃z,Bm (F 7)=some z/\v=.bool z
 |10=>v=ζ (some ⟨g,8*2,none⟩)
 |11=>v=bE (F 8)
 |12=>∃z,Bn (F 8)=some z/\v=V Z z
 |13=>EV F v
 |14=>∃b,v=ζ (some ⟨b,0,none⟩)/\B<=b/\∃cs,cs.length=18/\M w b cs 79
 |_=>True
def GE (g:Nat)(F:Nat->Option (List UInt8))(B:Nat)(i:Nat)(a:ό)(w:μ):Prop:=
 if i=15 then ∃b,a.eval (.tmp 4)=ζ (some ⟨b,0,none⟩)/\B<=b/\EB F w b else NE g F B i (a.eval (.tmp (qq i))) w
theorem NE.gr {g:Nat}{F:Nat->Option (List UInt8)}{B i:Nat}{v:Value}{w Y:μ}(h:NE g F B i v w)(gr:Gr 79 w Y):NE g F B i v Y:=by
 unfold NE at h⊢;split<;>first
  |exact h
  |exact trivial
  |(obtain⟨b,G,A,cs,K,h4⟩:=h;obtain⟨mR,h5,h6⟩:=gr.2 b cs h4;exact⟨b,G,A,mR,h5.trans K,h6⟩)
theorem ZE {i j:Nat}(S:i<15)(hj:j<15)(h:j≠i):qq j≠qq i:=by
 unfold qq;split<;>split<;>omega
structure JE (W:μ)(r g:Nat)(a:ό)(w:μ):Prop where
 size:a.tmps.size=61
 defers:a.defers=[]
 s2:a.eval (.tmp 2)=ζ (some ⟨r,0,none⟩)
 s3:a.eval (.tmp 3)=η (some ⟨g,0,none⟩) 9 9
 below:Below W.heap.size W w
theorem JE.put {W:μ}{r g:Nat}{a:ό}{w Y:μ}{i:Nat}{v:Value}(h:JE W r g a w)(U:Below W.heap.size W Y):JE W r g (a.put (some (qq i)) v) Y:=
 ⟨by rw[gm];exact h.size,by rw[put_defers];exact h.defers,by rw[cZ (by unfold qq;split<;>omega)];exact h.s2,by rw[cZ (by unfold qq;split<;>omega)];exact h.s3,U⟩
def wS (ops:Array Ζ):Bool:=((ops[15]?).map λo=>(Ν 15).all λi=>o.after.any λe=>υ .any e&&e.on==i).getD true
theorem Ef {ops:Array Ζ}{o:Ζ}{i:Nat}(h:wS ops=true)(ho:ops[15]?=some o)(S:i<15):∃e∈o.after,υ .any e=true/\e.on=i:=by
 unfold wS at h;rw[ho,Ε,Ι,χ]at h;have:=h i (List.mem_range.2 S);rw[Μ]at this;obtain⟨e,he,U⟩:=this;simp only[ψ,beq_iff_eq]at U;exact⟨e,he,U.1,U.2⟩
theorem lC {W:μ}{r g:Nat}{F:Nat->Option (List UInt8)}{a:ό}{w Y:μ}{i n:Nat}{v:Value}{dst:Option Nat}{ops:Array Ζ}(hd:dst=some (qq i))(S:i<15)(h:JE W r g a w)(U:Below w.heap.size w Y)(hn:NE g F n i v Y)
 (M5:wS ops=true)(bp:ops.size=16):
 JE W r g (a.put dst v) Y/\GE g F n i (a.put dst v) Y/\∀j oj,ops[j]?=some oj->j≠i->(∀e∈oj.after,υ .any e=true->e.on≠i)->GE g F n j a w->GE g F n j (a.put dst v) Y:=by
 subst hd;have hs:qq i<a.tmps.size:=by rw[h.size];unfold qq;split<;>omega
 refine⟨h.put (h.below.trans (U.mono h.below.size)),?_,λj oj jm fA iH hg=>?_⟩
 ·unfold GE;rw[if_neg (by omega),gR hs];exact hn
 by_cases hj:j=15
 ·subst hj;obtain⟨e,he,mW,heq⟩:=Ef M5 jm S;exact absurd heq (iH e he mW)
 have M6:j<16:=by rw[<-bp];exact(Array.getElem?_eq_some_iff.1 jm).1
 unfold GE at hg⊢;rw[if_neg hj]at hg⊢;rw[cZ (ZE S (by omega) fA)];exact hg.gr (Gr.of U)
theorem jt {g:Nat}{F:Nat->Option (List UInt8)}{B i:Nat}{a:ό}{w:μ}(h:GE g F B i a w)(S:i≠15):NE g F B i (a.eval (.tmp (qq i))) w:=by
 unfold GE at h;rw[if_neg S]at h;exact h
theorem OT (u:ByteArray)(tr:Bool)(k:Int)(w:μ):(Instr.build 79 #[(0,θ u),(7,.bool tr),(8,V Z k)]).run prog w=.ok (zI u 0 0 false bu (η none 0 0) (η none 0 0) tr k) w:=by
 kernel_rfl
theorem OU {g k:Nat}{F:Nat->Option (List UInt8)}{w:μ}(hF:cV w g F)(I:k<9):(ρ 9 (ζ (some ⟨g,k*2,none⟩))).run prog w=.ok (θ ⟨((F k).getD []).toArray⟩) w:=by
 have c0:=hF.val k I;go_simp
theorem KC (p:Addr)(w:μ)(J:p.spot=none):(Instr.fieldAt 122 (ζ (some p)) 0).run prog w=.ok (ζ (some p)) w:=by
 obtain⟨b,o,sp⟩:=p;simp only[]at J;subst J;go_simp
theorem VZ {W w:μ}{b:Nat}{cs:List Value}{F:Nat->Option (List UInt8)}{v:Value}(aB:M w b cs 79)(Ak:cs.length=18)(hB:W.heap.size<=b)(fH:Below W.heap.size W w)(hv:EV F v):
 ∃Y,(Ψ 79 (ζ (some ⟨b,0,none⟩)) v).run prog w=.ok () Y/\Below W.heap.size W Y/\Gr 79 w Y/\EB F Y b:=by
 obtain⟨tr,k,hP,rfl⟩:=hv
 match cs,Ak with
 |[x0,x1,x2,x3,x4,x5,x6,x7,x8,x9,x10,x11,x12,x13,x14,x15,x16,x17],_=>
  have c0:=aB.cell (k:=0) rfl;have c1:=aB.cell (k:=1) rfl;have c2:=aB.cell (k:=2) rfl;have c3:=aB.cell (k:=3) rfl;have c4:=aB.cell (k:=4) rfl;have c5:=aB.cell (k:=5) rfl;have c6:=aB.cell (k:=6) rfl;have c7:=aB.cell (k:=7) rfl;have c8:=aB.cell (k:=8) rfl;have c9:=aB.cell (k:=9) rfl;have c10:=aB.cell (k:=10) rfl;have c11:=aB.cell (k:=11) rfl;have c12:=aB.cell (k:=12) rfl;have c13:=aB.cell (k:=13) rfl;have c14:=aB.cell (k:=14) rfl;have c15:=aB.cell (k:=15) rfl;have c16:=aB.cell (k:=16) rfl;have c17:=aB.cell (k:=17) rfl;have f0:=aB.free (k:=0);have f1:=aB.free (k:=1);have f2:=aB.free (k:=2);have f3:=aB.free (k:=3);have f4:=aB.free (k:=4);have f5:=aB.free (k:=5);have f6:=aB.free (k:=6);have f7:=aB.free (k:=7);have f8:=aB.free (k:=8);have f9:=aB.free (k:=9);have f10:=aB.free (k:=10);have f11:=aB.free (k:=11);have f12:=aB.free (k:=12);have f13:=aB.free (k:=13);have f14:=aB.free (k:=14);have f15:=aB.free (k:=15);have f16:=aB.free (k:=16);have f17:=aB.free (k:=17);have r0:=aB.set (k:=0) (θ (bU ((F 0).getD [])));have r1:=r0.set (k:=1) (V Z 0);have r2:=r1.set (k:=2) (V Z 0);have r3:=r2.set (k:=3) (.bool false);have r4:=r3.set (k:=4) (V Z 0);have r5:=r4.set (k:=5) (V Z 0);have r6:=r5.set (k:=6) (V Z 0);have r7:=r6.set (k:=7) (V Z 0);have r8:=r7.set (k:=8) (η none 0 0);have r9:=r8.set (k:=9) (η none 0 0);have r10:=r9.set (k:=10) (η none 0 0);have E6:=r10.set (k:=11) (η none 0 0);have JA:=E6.set (k:=12) (V Z 0);have r13:=JA.set (k:=13) (θ ⟨#[]⟩);have r14:=r13.set (k:=14) (η none 0 0);have r15:=r14.set (k:=15) (η none 0 0);have r16:=r15.set (k:=16) (.bool tr);have r17:=r16.set (k:=17) (V Z k);have g:Gr 79 w _:=((((((((((((((((((Gr.set (i:=0) aB (θ (bU ((F 0).getD [])))).trans (Gr.set (i:=1) r0 (V Z 0))).trans (Gr.set (i:=2) r1 (V Z 0))).trans (Gr.set (i:=3) r2 (.bool false))).trans (Gr.set (i:=4) r3 (V Z 0))).trans (Gr.set (i:=5) r4 (V Z 0))).trans (Gr.set (i:=6) r5 (V Z 0))).trans (Gr.set (i:=7) r6 (V Z 0))).trans (Gr.set (i:=8) r7 (η none 0 0))).trans (Gr.set (i:=9) r8 (η none 0 0))).trans (Gr.set (i:=10) r9 (η none 0 0))).trans (Gr.set (i:=11) r10 (η none 0 0))).trans (Gr.set (i:=12) E6 (V Z 0))).trans (Gr.set (i:=13) JA (θ ⟨#[]⟩))).trans (Gr.set (i:=14) r13 (η none 0 0))).trans (Gr.set (i:=15) r14 (η none 0 0))).trans (Gr.set (i:=16) r15 (.bool tr))).trans (Gr.set (i:=17) r16 (V Z k)));refine⟨_,?_,((((((((((((((((((fH.setCell (p:=⟨b,0,none⟩) hB (θ (bU ((F 0).getD [])))).setCell (p:=⟨b,1,none⟩) hB (V Z 0)).setCell (p:=⟨b,2,none⟩) hB (V Z 0)).setCell (p:=⟨b,3,none⟩) hB (.bool false)).setCell (p:=⟨b,4,none⟩) hB (V Z 0)).setCell (p:=⟨b,5,none⟩) hB (V Z 0)).setCell (p:=⟨b,6,none⟩) hB (V Z 0)).setCell (p:=⟨b,7,none⟩) hB (V Z 0)).setCell (p:=⟨b,8,none⟩) hB (η none 0 0)).setCell (p:=⟨b,9,none⟩) hB (η none 0 0)).setCell (p:=⟨b,10,none⟩) hB (η none 0 0)).setCell (p:=⟨b,11,none⟩) hB (η none 0 0)).setCell (p:=⟨b,12,none⟩) hB (V Z 0)).setCell (p:=⟨b,13,none⟩) hB (θ ⟨#[]⟩)).setCell (p:=⟨b,14,none⟩) hB (η none 0 0)).setCell (p:=⟨b,15,none⟩) hB (η none 0 0)).setCell (p:=⟨b,16,none⟩) hB (.bool tr)).setCell (p:=⟨b,17,none⟩) hB (V Z k)),g,tr,k,hP,r17⟩;clear r0 r1 r2 r3 r4 r5 r6 r7 r8 r9 r10 E6 JA r13 r14 r15 r16 r17 g fH hP aB;unfold zI ke bu bX;go_simp
end Go.Proofs.YthpndgcaoeokeaaGreatDoor
