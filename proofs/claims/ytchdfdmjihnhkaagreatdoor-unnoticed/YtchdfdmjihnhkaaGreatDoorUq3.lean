import Derived.Test.YtchdfdmjihnhkaaGreatDoorUq2
import Derived.Lib.Replace
set_option maxRecDepth 100000
set_option maxHeartbeats 16000000
open Go.IntKind renaming i64->Z
open Go.Value renaming int->V,pointer->ζ,slice->η,string->θ,bool->ξ,int->ω
open Go.Ending renaming returned->δ,panicked->ε
open Go.Obj renaming cells->ι
open Go.RowKit.Below renaming refl->κ,heap_setCell->ώ
open Go renaming World->μ,Oper->Ε,Calls->Ζ,TypeId->Θ,Act->ϋ,Ending->ϛ
open Nat renaming le_refl->ν,eq_or_lt_of_le->Ϗ,zero_add->Ϟ
open Go.Ending.returned renaming inj->ο
open Go.Region renaming binds->π,ready->Γ,wanted->Ψ
open Go.Lib renaming trimSuffix->ρ,compact->Δ,countB->Ω,hasSuffix->Ϝ
open Go.Instr renaming loadAt->τ,indexAt->χ,storeAt->Ο,fieldAt->ϊ
open List renaming all_eq_true->υ,isPrefixOf->Β,getElem?_eq_getElem->Λ,getLast?_cons_cons->Μ,range->Ν,getElem?_map->Τ,length_drop->Υ,length_take->ϗ,length_map->ϙ,mem_cons->Ϛ,length->ϟ
open Bool renaming and_eq_true->φ,false_ne_true->Ρ,and_eq_false_iff->ύ
open Go.Ending.panicked renaming inj->ψ
open Option renaming map_some->Α,getD_some->Η
open Array renaming any_eq_true'->Ι,getD_eq_getD_getElem?->Φ,getElem?_append_left->Χ,getElem?_modify->ό,replicate->Ϙ
open Option.some renaming inj->Κ,injEq->Ϡ
open Go.World renaming cell?_of_block->Ξ,drew->ϝ
namespace Go.Proofs.YtchdfdmjihnhkaaGreatDoor
open Tryz
open Go.RowKit
section
open Go.Sort
def bX (fq iv ct un:Int)(m md wk pl:Value)(ws:Int)(tx:ByteArray):List Value:=[V Z fq,V Z iv,V Z ct,V Z un,m,md,wk,pl,V Z ws,θ tx]
def gw (F:Nat->Option (List UInt8)):ByteArray:=⟨(Lib.join (gA F 9) [59]).toArray⟩
def RV (F:Nat->Option (List UInt8))(w:μ)(v:Value):Prop:=
 ∃(r:aE) (m md wk pl:Value),nT F r/\v=bG r.fq r.iv r.ct r.un m md wk pl r.ws (gw F)/\cr w m r.ms/\cr w md r.mds/\gy w wk r.wks/\cr w pl r.pls
def RB (F:Nat->Option (List UInt8))(w:μ)(b:Nat):Prop:=
 ∃(r:aE) (m md wk pl:Value),nT F r/\X w b (bX r.fq r.iv r.ct r.un m md wk pl r.ws (gw F)) 96/\cr w m r.ms/\cr w md r.mds/\gy w wk r.wks/\cr w pl r.pls
def Gr (T:Θ)(w I:μ):Prop:=(∀k cs t,t≠T->X w k cs t->X I k cs t)/\∀k cs,X w k cs T->∃lB,lB.length=cs.length/\X I k lB T
theorem Gr.of {T:Θ}{w I:μ}(U:Below w.heap.size w I):Gr T w I:=⟨λ_ _ _ _ h=>h.on U,λ_ cs h=>⟨cs,rfl,h.on U⟩⟩
theorem Gr.refl (T:Θ)(w:μ):Gr T w w:=⟨λ_ _ _ _ h=>h,λ_ cs h=>⟨cs,rfl,h⟩⟩
theorem Gr.trans {T:Θ}{w I az:μ}(h:Gr T w I)(h':Gr T I az):Gr T w az:=⟨λk cs t ht hr=>h'.1 k cs t ht (h.1 k cs t ht hr),λk cs hr=>by
 obtain⟨c1,S,r1⟩:=h.2 k cs hr;obtain⟨c2,e2,r2⟩:=h'.2 k c1 r1;exact⟨c2,e2.trans S,r2⟩⟩
theorem X.ne {w:μ}{b k:Nat}{cs lB:List Value}{t t':Θ}(h:X w b cs t)(h':X w k lB t')(ht:t≠t'):k≠b:=λe=>by
 subst e;unfold X at h h';rw[h]at h';cases h';exact ht rfl
theorem Gr.set {T:Θ}{w:μ}{b i:Nat}{cs:List Value}(h:X w b cs T)(v:Value):Gr T w (w.setCell ⟨b,i,none⟩ v):=by
 refine⟨λk c t ht hr=>hr.other (h.ne hr (Ne.symm ht)) v,λk c hr=>?_⟩;by_cases e:k=b
 ·subst e;exact⟨c.set i v,by simp,hr.set v⟩
 exact⟨c,rfl,hr.other e v⟩
theorem cr.gr {T:Θ}{w I:μ}{v:Value}{zs:List Int}(hT:3≠T)(h:cr w v zs)(g:Gr T w I):cr I v zs:=h.imp id λ⟨k,G,A⟩=>⟨k,G,g.1 _ _ _ hT A⟩
theorem gy.gr {T:Θ}{w I:μ}{v:Value}{zs:List (Int×Int)}(hT:191≠T)(h:gy w v zs)(g:Gr T w I):gy I v zs:=h.imp id λ⟨k,G,A⟩=>⟨k,G,g.1 _ _ _ hT A⟩
def pE (i:Nat):Nat:=if i=41 then 4 else 21+i
def NN (g:Nat)(F:Nat->Option (List UInt8))(B:Nat)(i:Nat)(v:Value)(w:μ):Prop:=match i with
 |0|4|9|13|17|21|25|29|33|38=>v=η (some ⟨g,0,none⟩) 9 9
 |1=>v=ζ (some ⟨g,0*2,none⟩)
 |5=>v=ζ (some ⟨g,1*2,none⟩)
 |10=>v=ζ (some ⟨g,2*2,none⟩)
 |14=>v=ζ (some ⟨g,3*2,none⟩)
 |18=>v=ζ (some ⟨g,4*2,none⟩)
 |22=>v=ζ (some ⟨g,5*2,none⟩)
 |26=>v=ζ (some ⟨g,6*2,none⟩)
 |30=>v=ζ (some ⟨g,7*2,none⟩)
 |34=>v=ζ (some ⟨g,8*2,none⟩)
 |2=>v=bI (F 0)
 |6=>v=bI (F 1)
 |11=>v=bI (F 2)
 |15=>v=bI (F 3)
 |19=>v=bI (F 4)
 |23=>v=bI (F 5)
 |27=>v=bI (F 6)
 |31=>v=bI (F 7)
 |35=>v=bI (F 8)
 |3=>∃z,pC (F 0)=some z/\v=V Z z
 |7=>v=θ ⟨((F 1).getD [49]).toArray⟩
 |8=>∃z,pD 1 100 ((F 1).getD [49])=some z/\v=V Z z
 |12=>∃z,vZ (F 2)=some z/\v=V Z z
 |16=>∃z,wb (F 3)=some z/\v=V Z z
 |20=>∃zs,dV (pD 1 12) (F 4)=some zs/\cr w v zs
 |24=>∃zs,dV (sR 31) (F 5)=some zs/\cr w v zs
 |28=>∃zs,dV lD (F 6)=some zs/\gy w v zs
 |32=>∃zs,dV (sR 366) (F 7)=some zs/\cr w v zs
 |36=>v=θ ⟨((F 8).getD [77,79]).toArray⟩
 |37=>∃z,Ax ((F 8).getD [77,79])=some z/\v=V Z z
 |39=>v=θ (gw F)
 |40=>RV F w v
 |41=>∃b,v=ζ (some ⟨b,0,none⟩)/\B<=b/\∃cs,cs.length=10/\X w b cs 96
 |_=>True
def GG (g:Nat)(F:Nat->Option (List UInt8))(B:Nat)(i:Nat)(a:ϋ)(w:μ):Prop:=
 if i=42 then ∃b,a.eval (.tmp 4)=ζ (some ⟨b,0,none⟩)/\B<=b/\RB F w b else NN g F B i (a.eval (.tmp (pE i))) w
theorem qW:(3:Θ)≠96:=by decide
theorem Rr:(191:Θ)≠96:=by decide
theorem RV.gr {F:Nat->Option (List UInt8)}{w I:μ}{v:Value}(h:RV F w v)(g:Gr 96 w I):RV F I v:=by
 obtain⟨r,m,md,wk,pl,G,A,M,h4,h5,h6⟩:=h;exact⟨r,m,md,wk,pl,G,A,M.gr qW g,h4.gr qW g,h5.gr Rr g,h6.gr qW g⟩
theorem NN.gr {g:Nat}{F:Nat->Option (List UInt8)}{B i:Nat}{v:Value}{w I:μ}(h:NN g F B i v w)(gr:Gr 96 w I):NN g F B i v I:=by
 unfold NN at h⊢;split<;>first
  |exact h
  |exact trivial
  |(obtain⟨zs,G,A⟩:=h;exact⟨zs,G,A.gr qW gr⟩)
  |(obtain⟨zs,G,A⟩:=h;exact⟨zs,G,A.gr Rr gr⟩)
  |exact RV.gr h gr
  |(obtain⟨b,G,A,cs,M,h4⟩:=h;obtain⟨lB,h5,h6⟩:=gr.2 b cs h4;exact⟨b,G,A,lB,h5.trans M,h6⟩)
theorem XO {i j:Nat}(hi:i<42)(hj:j<42)(h:j≠i):pE j≠pE i:=by
 unfold pE;split<;>split<;>omega
structure II (W:μ)(r g:Nat)(a:ϋ)(w:μ):Prop where
 size:a.tmps.size=66
 defers:a.defers=[]
 s2:a.eval (.tmp 2)=ζ (some ⟨r,0,none⟩)
 s3:a.eval (.tmp 3)=η (some ⟨g,0,none⟩) 9 9
 below:Below W.heap.size W w
theorem II.put {W:μ}{r g:Nat}{a:ϋ}{w I:μ}{i:Nat}{v:Value}(h:II W r g a w)(U:Below W.heap.size W I):II W r g (a.put (some (pE i)) v) I:=
 ⟨by rw[fW];exact h.size,by rw[put_defers];exact h.defers,by rw[cY (by unfold pE;split<;>omega)];exact h.s2,by rw[cY (by unfold pE;split<;>omega)];exact h.s3,U⟩
def ye (ops:Array Ε):Bool:=((ops[42]?).map λo=>(Ν 42).all λi=>o.after.any λe=>π .any e&&e.on==i).getD true
theorem E8 {ops:Array Ε}{o:Ε}{i:Nat}(h:ye ops=true)(ho:ops[42]?=some o)(hi:i<42):∃e∈o.after,π .any e=true/\e.on=i:=by
 unfold ye at h;rw[ho,Α,Η,υ]at h;have:=h i (List.mem_range.2 hi);rw[Ι]at this;obtain⟨e,he,U⟩:=this;simp only[φ,beq_iff_eq]at U;exact⟨e,he,U.1,U.2⟩
theorem bL {W:μ}{r g:Nat}{F:Nat->Option (List UInt8)}{a:ϋ}{w I:μ}{i n:Nat}{v:Value}{dst:Option Nat}{ops:Array Ε}(hd:dst=some (pE i))(hi:i<42)(h:II W r g a w)(U:Below w.heap.size w I)(hn:NN g F n i v I)
 (Ma:ye ops=true)(bA:ops.size=43):
 II W r g (a.put dst v) I/\GG g F n i (a.put dst v) I/\∀j oj,ops[j]?=some oj->j≠i->(∀e∈oj.after,π .any e=true->e.on≠i)->GG g F n j a w->GG g F n j (a.put dst v) I:=by
 subst hd;have hs:pE i<a.tmps.size:=by rw[h.size];unfold pE;split<;>omega
 refine⟨h.put (h.below.trans (U.mono h.below.size)),?_,λj oj jg fB gN hg=>?_⟩
 ·unfold GG;rw[if_neg (by omega),gO hs];exact hn
 by_cases hj:j=42
 ·subst hj;obtain⟨e,he,nM,heq⟩:=E8 Ma jg hi;exact absurd heq (gN e he nM)
 have Mb:j<43:=by rw[<-bA];exact(Array.getElem?_eq_some_iff.1 jg).1
 unfold GG at hg⊢;rw[if_neg hj]at hg⊢;rw[cY (XO hi (by omega) fB)];exact hg.gr (Gr.of U)
def bw:List Value:=bX 0 0 0 0 (η none 0 0) (η none 0 0) (η none 0 0) (η none 0 0) 0 ⟨#[]⟩
def partsOf (s:List UInt8):Option (Nat->Option (List UInt8)):=ff cF 61 (bY 59 s) (λ_=>none)
def E9 (r:aE):Bool:=xe r.fq r.ms.length r.mds.length r.wks.length r.pls.length (ik r.wks)
def mM (s:List UInt8)(F:Nat->Option (List UInt8))(r:aE):Prop:=partsOf s=some F/\¬((F 2).isSome=true/\(F 3).isSome=true)/\nT F r/\E9 r=true
def XP (s:List UInt8)(w:μ)(E:ϛ)(I:μ):Prop:=
 ((∃F r m md wk pl,mM s F r/\E=δ (bG r.fq r.iv r.ct r.un m md wk pl r.ws (gw F))/\cr I m r.ms/\cr I md r.mds/\gy I wk r.wks/\cr I pl r.pls)\/((¬∃F r,mM s F r)/\E=ε (bx 3)))/\Below w.heap.size w I
theorem od {x:Int}{o:Option Int}{v:Value}(h:Ending.returned v=ep x o):∃z,o=some z/\v=V Z z:=by
 unfold ep at h;cases o with
 |none=>cases h
 |some z=>exact⟨z,rfl,ο h⟩
theorem oe {x:Int}{o:Option Int}{c:List PanicEntry}(h:Ending.panicked c=ep x o):o=none/\c=bx x:=by
 unfold ep at h;cases o with
 |none=>exact⟨rfl,ψ h⟩
 |some z=>cases h
theorem og {x:Int}{o:Option Int}(h:Ending.outgrown=ep x o):False:=by
 unfold ep at h;cases o<;>cases h
theorem bT {g:Nat}{F:Nat->Option (List UInt8)}{B i:Nat}{a:ϋ}{w:μ}(h:GG g F B i a w)(hi:i≠42):NN g F B i (a.eval (.tmp (pE i))) w:=by
 unfold GG at h;rw[if_neg hi]at h;exact h
theorem XQ {c:UInt8}{l a b:List UInt8}(h:sp c l=some (a,b)):b.length<=l.length:=by
 have e:=(kt h).1;rw[e];simp;omega
theorem ti {ns:List (List UInt8)}{c:UInt8}{B:Nat}:∀{ps:List (List UInt8)} {f F:Nat->Option (List UInt8)},(∀p∈ps,p.length<=B)->(∀k,((f k).getD []).length<=B)->ff ns c ps f=some F->∀k,((F k).getD []).length<=B
 |[],f,F,_,hf,h,k=>by rw[ff]at h;cases h;exact hf k
 |l::r,f,F,J,hf,h,k=>by
  rw[ff]at h;cases hq:Al ns c l with
  |none=>rw[hq]at h;cases h
  |some q=>
   obtain⟨j,v⟩:=q;rw[hq]at h;simp only[]at h;cases hj:(f j).isSome
   ·rw[hj,if_neg Ρ]at h;refine ti (λp uZ=>J p (List.mem_cons_of_mem _ uZ)) (λi=>?_) h k;by_cases Zf:i=j
    ·rw[if_pos Zf];unfold Al at hq;cases oH:sp c l with
     |none=>rw[oH]at hq;cases hq
     |some y=>
      obtain⟨a,b⟩:=y;rw[oH]at hq;obtain⟨k',bV,e⟩:=Option.map_eq_some_iff.1 hq;have:b=v:=congrArg Prod.snd e;subst this;have G:=XQ oH;have A:=J l (by simp);simp only[Η];omega
    rw[if_neg Zf];exact hf i
   rw[hj,if_pos rfl]at h;cases h
theorem Us (z0 z1 z2 z3 z8:Int)(a4 a5 a6 a7:Option Addr)(n4 n5 n6 n7 c4 c5 c6 c7:Nat)(t:ByteArray)(w:μ):
 (Instr.build 96 #[(0,V Z z0),(1,V Z z1),(2,V Z z2),(3,V Z z3),(4,η a4 n4 c4),(5,η a5 n5 c5),(6,η a6 n6 c6),(7,η a7 n7 c7),(8,V Z z8),(9,θ t)]).run prog w=.ok (bG z0 z1 z2 z3 (η a4 n4 c4) (η a5 n5 c5) (η a6 n6 c6) (η a7 n7 c7) z8 t) w:=by
 kernel_rfl
theorem XR {W w:μ}{b:Nat}{cs:List Value}{F:Nat->Option (List UInt8)}{v:Value}(aC:X w b cs 96)(zE:cs.length=10)(hB:W.heap.size<=b)(gQ:Below W.heap.size W w)(hv:RV F w v):
 ∃I,(Ο 96 (ζ (some ⟨b,0,none⟩)) v).run prog w=.ok () I/\Below W.heap.size W I/\Gr 96 w I/\RB F I b:=by
 obtain⟨r,m,md,wk,pl,hP,rfl,i1,i2,i3,i4⟩:=hv;obtain⟨a1,S⟩:=i1.form;obtain⟨a2,e2⟩:=i2.form;obtain⟨a3,e3⟩:=i3.form;obtain⟨a4,e4⟩:=i4.form
 match cs,zE with
 |[x0,x1,x2,x3,x4,x5,x6,x7,x8,x9],_=>
  have c0:=aC.cell (k:=0) rfl;have c1:=aC.cell (k:=1) rfl;have c2:=aC.cell (k:=2) rfl;have c3:=aC.cell (k:=3) rfl;have c4:=aC.cell (k:=4) rfl;have c5:=aC.cell (k:=5) rfl;have c6:=aC.cell (k:=6) rfl;have c7:=aC.cell (k:=7) rfl;have c8:=aC.cell (k:=8) rfl;have c9:=aC.cell (k:=9) rfl;have f0:=aC.free (k:=0);have f1:=aC.free (k:=1);have f2:=aC.free (k:=2);have f3:=aC.free (k:=3);have f4:=aC.free (k:=4);have f5:=aC.free (k:=5);have f6:=aC.free (k:=6);have f7:=aC.free (k:=7);have f8:=aC.free (k:=8);have f9:=aC.free (k:=9);have r0:=aC.set (k:=0) (V Z r.fq);have r1:=r0.set (k:=1) (V Z r.iv);have r2:=r1.set (k:=2) (V Z r.ct);have r3:=r2.set (k:=3) (V Z r.un);have r4:=r3.set (k:=4) m;have r5:=r4.set (k:=5) md;have r6:=r5.set (k:=6) wk;have r7:=r6.set (k:=7) pl;have r8:=r7.set (k:=8) (V Z r.ws);have r9:=r8.set (k:=9) (θ (gw F));have g:Gr 96 w _:=(((((((((Gr.set (i:=0) aC (V Z r.fq)).trans (Gr.set (i:=1) r0 (V Z r.iv))).trans (Gr.set (i:=2) r1 (V Z r.ct))).trans (Gr.set (i:=3) r2 (V Z r.un))).trans (Gr.set (i:=4) r3 m)).trans (Gr.set (i:=5) r4 md)).trans (Gr.set (i:=6) r5 wk)).trans (Gr.set (i:=7) r6 pl)).trans (Gr.set (i:=8) r7 (V Z r.ws))).trans (Gr.set (i:=9) r8 (θ (gw F)));refine⟨_,?_,(((((((((gQ.setCell (p:=⟨b,0,none⟩) hB (V Z r.fq)).setCell (p:=⟨b,1,none⟩) hB (V Z r.iv)).setCell (p:=⟨b,2,none⟩) hB (V Z r.ct)).setCell (p:=⟨b,3,none⟩) hB (V Z r.un)).setCell (p:=⟨b,4,none⟩) hB m).setCell (p:=⟨b,5,none⟩) hB md).setCell (p:=⟨b,6,none⟩) hB wk).setCell (p:=⟨b,7,none⟩) hB pl).setCell (p:=⟨b,8,none⟩) hB (V Z r.ws)).setCell (p:=⟨b,9,none⟩) hB (θ (gw F)),g,r,m,md,wk,pl,hP,r9,i1.gr qW g,i2.gr qW g,i3.gr Rr g,i4.gr qW g⟩;clear r0 r1 r2 r3 r4 r5 r6 r7 r8 r9 g gQ i1 i2 i3 i4 hP aC;subst S e2 e3 e4;unfold bG;go_simp
theorem Pm {f:Option (List UInt8)}{z:Int}(h:pC f=some z):0<=z/\z<=3:=by
 unfold pC at h;obtain⟨k,Y,rfl⟩:=Option.map_eq_some_iff.1 h;have:=Ao Y;rw[show ja.length=4 from rfl]at this;omega
theorem tB {α:Type}{rd:List UInt8->Option α}{f:Option (List UInt8)}{zs:List α}(h:dV rd f=some zs):zs.length<=20:=by
 unfold dV at h;cases f with
 |none=>simp only[Ϡ]at h;subst h;simp
 |some v=>
  simp only[]at h;split at h
  ·rename_i xd;rw[Bd h];exact xd
  cases h
theorem nT.uniq {F:Nat->Option (List UInt8)}{r r':aE}(h:nT F r)(h':nT F r'):r=r':=by
 obtain⟨a1,a2,a3,a4,a5,a6,a7,a8,a9⟩:=h;obtain⟨b1,b2,b3,b4,b5,b6,b7,b8,b9⟩:=h';cases r;cases r';simp only[]at *
 rw[a1]at b1;rw[a2]at b2;rw[a3]at b3;rw[a4]at b4;rw[a5]at b5;rw[a6]at b6;rw[a7]at b7;rw[a8]at b8;rw[a9]at b9;cases b1;cases b2;cases b3;cases b4;cases b5;cases b6;cases b7;cases b8;cases b9;rfl
theorem abK (a:ϋ)(h:a.tmps.size=66)(hd:a.defers=[]):∃f:Nat->Value,a=⟨#[f 0,f 1,f 2,f 3,f 4,f 5,f 6,f 7,f 8,f 9,f 10,f 11,f 12,f 13,f 14,f 15,f 16,f 17,f 18,f 19,f 20,f 21,f 22,f 23,f 24,f 25,f 26,f 27,f 28,f 29,f 30,f 31,f 32,f 33,f 34,f 35,f 36,f 37,f 38,f 39,f 40,f 41,f 42,f 43,f 44,f 45,f 46,f 47,f 48,f 49,f 50,f 51,f 52,f 53,f 54,f 55,f 56,f 57,f 58,f 59,f 60,f 61,f 62,f 63,f 64,f 65],[]⟩/\∀k,a.eval (.tmp k)=f k:=gK 66 a h hd
theorem aek {W w:μ}{b:Nat}{cs:List Value}(aC:X w b cs 96)(_aov:cs.length=10)(hB:W.heap.size<=b)(gQ:Below W.heap.size W w)(v0 v1 v2 v3 v4 v5 v6 v7 v8 v9:Value):
 Gr 96 w ((((((((((w.setCell ⟨b,0,none⟩ v0).setCell ⟨b,1,none⟩ v1).setCell ⟨b,2,none⟩ v2).setCell ⟨b,3,none⟩ v3).setCell ⟨b,4,none⟩ v4).setCell ⟨b,5,none⟩ v5).setCell ⟨b,6,none⟩ v6).setCell ⟨b,7,none⟩ v7).setCell ⟨b,8,none⟩ v8).setCell ⟨b,9,none⟩ v9)/\
 Below W.heap.size W ((((((((((w.setCell ⟨b,0,none⟩ v0).setCell ⟨b,1,none⟩ v1).setCell ⟨b,2,none⟩ v2).setCell ⟨b,3,none⟩ v3).setCell ⟨b,4,none⟩ v4).setCell ⟨b,5,none⟩ v5).setCell ⟨b,6,none⟩ v6).setCell ⟨b,7,none⟩ v7).setCell ⟨b,8,none⟩ v8).setCell ⟨b,9,none⟩ v9):=by
 have r0:=aC.set (k:=0) v0;have r1:=r0.set (k:=1) v1;have r2:=r1.set (k:=2) v2;have r3:=r2.set (k:=3) v3;have r4:=r3.set (k:=4) v4;have r5:=r4.set (k:=5) v5;have r6:=r5.set (k:=6) v6;have r7:=r6.set (k:=7) v7;have r8:=r7.set (k:=8) v8;exact⟨(((((((((Gr.set (i:=0) aC v0).trans (Gr.set (i:=1) r0 v1)).trans (Gr.set (i:=2) r1 v2)).trans (Gr.set (i:=3) r2 v3)).trans (Gr.set (i:=4) r3 v4)).trans (Gr.set (i:=5) r4 v5)).trans (Gr.set (i:=6) r5 v6)).trans (Gr.set (i:=7) r6 v7)).trans (Gr.set (i:=8) r7 v8)).trans (Gr.set (i:=9) r8 v9),
  (((((((((gQ.setCell (p:=⟨b,0,none⟩) hB v0).setCell (p:=⟨b,1,none⟩) hB v1).setCell (p:=⟨b,2,none⟩) hB v2).setCell (p:=⟨b,3,none⟩) hB v3).setCell (p:=⟨b,4,none⟩) hB v4).setCell (p:=⟨b,5,none⟩) hB v5).setCell (p:=⟨b,6,none⟩) hB v6).setCell (p:=⟨b,7,none⟩) hB v7).setCell (p:=⟨b,8,none⟩) hB v8).setCell (p:=⟨b,9,none⟩) hB v9⟩
theorem JM (s:List UInt8)(w:μ)(hm:ML w)(hs:s.length<=1048000):
 Ζ prog 85 #[θ ⟨s.toArray⟩] w (XP s w):=by
 have ay:Below w.heap.size w (w.alloc (ι bw.toArray 96)):=(κ _ _).alloc (ν _) _;have z1:(w.alloc (ι bw.toArray 96)).heap.size=w.heap.size+1:=by simp
 have ez:=X.new w bw 96;have kM:ML (w.alloc (ι bw.toArray 96)):=hm.on ay;have CS:=H (uG s 59 (w.alloc (ι bw.toArray 96)) kM (by omega));have n1:=i7 (w.alloc (ι bw.toArray 96)) (bY 59 s) 9;have aN:=ay.alloc (by omega) (ι (strs (bY 59 s)).toArray 9);have XT:Below (w.alloc (ι bw.toArray 96)).heap.size (w.alloc (ι bw.toArray 96)) _:=(κ _ _).alloc (ν _) (ι (strs (bY 59 s)).toArray 9);have z2:((w.alloc (ι bw.toArray 96)).alloc (ι (strs (bY 59 s)).toArray 9)).heap.size=w.heap.size+1+1:=by simp
 have n2:=i7 ((w.alloc (ι bw.toArray 96)).alloc (ι (strs (bY 59 s)).toArray 9)) cF 9;have aP:=aN.alloc (by omega) (ι (strs cF).toArray 9);have Rs:Below ((w.alloc (ι bw.toArray 96)).alloc (ι (strs (bY 59 s)).toArray 9)).heap.size ((w.alloc (ι bw.toArray 96)).alloc (ι (strs (bY 59 s)).toArray 9)) _:=(κ _ _).alloc (ν _) (ι (strs cF).toArray 9);have z3:(((w.alloc (ι bw.toArray 96)).alloc (ι (strs (bY 59 s)).toArray 9)).alloc (ι (strs cF).toArray 9)).heap.size=w.heap.size+1+1+1:=by simp
 have n3:=yc n1 (by omega) Rs;rw[z1]at n3;rw[z2]at n2;have Ak:=(ez.on XT).on Rs;have XU:=(kM.on XT).on Rs;have CF:=H (EW (w.heap.size+1) 0 (bY 59 s).length (w.heap.size+1+1) 0 9 cF (bY 59 s) 61 3 (((w.alloc (ι bw.toArray 96)).alloc (ι (strs (bY 59 s)).toArray 9)).alloc (ι (strs cF).toArray 9)) rfl
  (by have:=Uh s 59;omega) (λl K=>by have:=mK 59 s l K;omega) (by omega) (by omega) n3 n2)
 clear n1 n2 n3 XT Rs kM ez z1 z2 ay aN;cases J:partsOf s with
 |none=>
  have zy:¬∃F r,mM s F r:=λ⟨F,r,h,_⟩=>by rw[J]at h;cases h
  have HN:=H zy;have CG:Hid (Ζ prog 119 #[η (some ⟨w.heap.size+1,0,none⟩) (bY 59 s).length (bY 59 s).length,θ ⟨#[61]⟩,η (some ⟨w.heap.size+1+1,0,none⟩) 9 9,V Z 3] (((w.alloc (ι bw.toArray 96)).alloc (ι (strs (bY 59 s)).toArray 9)).alloc (ι (strs cF).toArray 9)) λE I=>E=ε (bx 3)/\Below w.heap.size w I):=
   H (CF.out.mono λE I h=>by
    unfold nL at h;rw[show ff cF 61 (bY 59 s) (λ_=>none)=none from J]at h;exact⟨h.1,aP.trans (h.2.mono (by omega))⟩)
  clear CF zy J Ak XU hm aP z3;go_enter func85,ntmps85;go_wp2_with (first
   |(go_at_call 128;refine(CS.out).mono ?_;rintro e w1 ⟨rfl,rfl⟩)
   |(go_at_call 129;refine(nS _).mono ?_;rintro e w1 ⟨rfl,rfl⟩)
   |(go_at_call 119;refine(CG.out).mono ?_;rintro e w3 ⟨rfl,al⟩))
  exact⟨rfl,.inr ⟨HN.out,rfl⟩,al⟩
 |some F=>
  have my:∀k,((F k).getD []).length<=1048576:=ti (λp uZ=>by have:=mK 59 s p uZ;omega) (λk=>by simp) J;have Gz:∀k (d:List UInt8),d.length<=1048576->((F k).getD d).length<=1048576:=λk d hd=>by
   have:=my k;cases Y:F k with
   |none=>simpa[Y]using hd
   |some v=>rw[Y]at this;simpa using this
  have uniq:∀F',partsOf s=some F'->F'=F:=λF' h=>by rw[J]at h;exact(Κ h).symm
  have no:(¬∃r,nT F r)->¬∃F r,mM s F r:=λh ⟨F',r,G,_,M,_⟩=>by rw[uniq F' G]at M;exact h ⟨r,M⟩
  have CG:Hid (Ζ prog 119 #[η (some ⟨w.heap.size+1,0,none⟩) (bY 59 s).length (bY 59 s).length,θ ⟨#[61]⟩,η (some ⟨w.heap.size+1+1,0,none⟩) 9 9,V Z 3] (((w.alloc (ι bw.toArray 96)).alloc (ι (strs (bY 59 s)).toArray 9)).alloc (ι (strs cF).toArray 9)) λE I=>∃g,E=δ (η (some ⟨g,0,none⟩) 9 9)/\cX I g F/\Below w.heap.size w I/\X I w.heap.size bw 96/\ML I/\w.heap.size<=I.heap.size):=
   H (CF.out.mono λE I h=>by
    unfold nL at h;rw[show ff cF 61 (bY 59 s) (λ_=>none)=some F from J]at h;obtain⟨⟨g,G,A,M⟩,h4⟩:=h;have:=h4.size;exact⟨g,G,M,aP.trans (h4.mono (by omega)),Ak.on h4,XU.on h4,by omega⟩)
  clear CF Ak XU aP z3 hm;by_cases Hw:(F 2).isSome=true/\(F 3).isSome=true
  case pos=>
   have HN:Hid (¬∃F r,mM s F r):=H (λ⟨F',r,G,A,_⟩=>by rw[uniq F' G]at A;exact A Hw);obtain⟨b2,b3⟩:=Hw;clear no uniq my Gz J;go_enter func85,ntmps85;go_wp2_with (first
    |(go_at_call 128;refine(CS.out).mono ?_;rintro e w1 ⟨rfl,rfl⟩)
    |(go_at_call 129;refine(nS _).mono ?_;rintro e w1 ⟨rfl,rfl⟩)
    |(go_at_call 119;refine(CG.out).mono ?_;rintro e w3 ⟨g,rfl,hF,al,aC,Ag,pY⟩;have c2:=hF.there 2 (by decide);have c3:=hF.there 3 (by decide);rw[b2]at c2;rw[b3]at c3)
    |(go_at_call_of 42 (ξ false);refine eI ?_))
   exact⟨rfl,.inr ⟨HN.out,rfl⟩,al⟩
  case neg=>
   have H23:=H Hw;have b23:((F 2).isSome=false)\/((F 2).isSome=true/\(F 3).isSome=false):=by
    cases A:(F 2).isSome
    ·exact .inl rfl
    refine .inr ⟨rfl,?_⟩;cases M:(F 3).isSome
    ·rfl
    exact absurd ⟨A,M⟩ Hw
   have HU:=H uniq;have B3:=H no;have HP:=H J;have HS:=H my;have HS1:=H Gz;clear no uniq my Gz J Hw;rcases b23 with b2|⟨b2,b3⟩
   all_goals
    go_enter func85,ntmps85;go_wp2_with (first
     |(go_at_call 128;refine(CS.out).mono ?_;rintro e w1 ⟨rfl,rfl⟩)
     |(go_at_call 129;refine(nS _).mono ?_;rintro e w1 ⟨rfl,rfl⟩)
     |(go_at_call 119;refine(CG.out).mono ?_;rintro e w3 ⟨g,rfl,hF,al,aC,Ag,pY⟩;have c2:=hF.there 2 (by decide);have c3:=hF.there 3 (by decide);rw[b2]at c2;(try rw[b3]at c3))
     |(go_at_call_of 42 (ξ true);refine dh ?_))
    have no:=B3.out;have my:=HS.out;have Gz:=HS1.out;refine iw (GG g F w3.heap.size) (II w3 w.heap.size g) (by kernel_rfl) (by kernel_rfl) (by kernel_rfl) ?_ ?_ ?_;rotate_left 2
    ·exact⟨rfl,rfl,rfl,rfl,(κ _ _).drew⟩
    ·intro i o ho a I hI hG;have hi:i<43:=(Array.getElem?_eq_some_iff.1 ho).1;have ea:i=0\/i=1\/i=2\/i=3\/i=4\/i=5\/i=6\/i=7\/i=8\/i=9\/i=10\/i=11\/i=12\/i=13\/i=14\/i=15\/i=16\/i=17\/i=18\/i=19\/i=20\/i=21\/i=22\/i=23\/i=24\/i=25\/i=26\/i=27\/i=28\/i=29\/i=30\/i=31\/i=32\/i=33\/i=34\/i=35\/i=36\/i=37\/i=38\/i=39\/i=40\/i=41\/i=42:=by omega
     rcases ea with rfl|rfl|rfl|rfl|rfl|rfl|rfl|rfl|rfl|rfl|rfl|rfl|rfl|rfl|rfl|rfl|rfl|rfl|rfl|rfl|rfl|rfl|rfl|rfl|rfl|rfl|rfl|rfl|rfl|rfl|rfl|rfl|rfl|rfl|rfl|rfl|rfl|rfl|rfl|rfl|rfl|rfl|rfl<;>obtain rfl:=Κ ho
     ·
      exact ai (v:=a.eval (.tmp 3)) (by kernel_rfl) (bL rfl (by decide) hI (κ _ _) (show NN g F w3.heap.size 0 _ _ from hI.s3) (by kernel_rfl) rfl)
     ·
      have e:a.eval (.tmp 21)=η (some ⟨g,0,none⟩) 9 9:=bT (aB hG 0) (by decide);exact ai (v:=ζ (some ⟨g,0*2,none⟩)) (bq (by show(χ 123 (a.eval (.tmp 21)) (V Z 0)).run _ _=_;rw[e];exact dM g 0 (by decide) I)) (bL rfl (by decide) hI (κ _ _) (show NN g F w3.heap.size 1 _ _ from rfl) (by kernel_rfl) rfl)
     ·
      have e:a.eval (.tmp 22)=ζ (some ⟨g,0*2,none⟩):=bT (aB hG 1) (by decide);exact ai (v:=bI (F 0)) (bq (by show(τ 126 (a.eval (.tmp 22))).run _ _=_;rw[e];exact dj (hF.on hI.below) (by decide))) (bL rfl (by decide) hI (κ _ _) (show NN g F w3.heap.size 2 _ _ from rfl) (by kernel_rfl) rfl)
     ·
      have e:a.eval (.tmp 23)=bI (F 0):=bT (aB hG 2) (by decide);refine cI (R:=λE az=>E=ep 3 (pC (F 0))/\Below I.heap.size I az) (f:=130) (args:=#[a.eval (.tmp 23)]) (by kernel_rfl) (by rw[e];exact(Bq _ _ I).mono λE az ⟨G,A⟩=>⟨by rw[G,Pj];rfl,A⟩) ?_ ?_ ?_
      ·rintro v az ⟨he,U⟩;obtain⟨z,hz,rfl⟩:=od he;exact(bL rfl (by decide) hI U (show NN g F w3.heap.size 3 _ _ from⟨z,hz,rfl⟩) (by kernel_rfl) rfl)
      ·rintro c az ⟨he,U⟩;obtain⟨hz,rfl⟩:=oe he;exact⟨hI.defers,.inr ⟨no λ⟨r,hr⟩=>(by have:=hr.fq;rw[hz]at this;cases this),rfl⟩,al.trans ((hI.below.trans (U.mono hI.below.size)).mono pY)⟩
      rintro az ⟨he,_⟩;exact og he
     ·
      exact ai (v:=a.eval (.tmp 3)) (by kernel_rfl) (bL rfl (by decide) hI (κ _ _) (show NN g F w3.heap.size 4 _ _ from hI.s3) (by kernel_rfl) rfl)
     ·
      have e:a.eval (.tmp 25)=η (some ⟨g,0,none⟩) 9 9:=bT (aB hG 4) (by decide);exact ai (v:=ζ (some ⟨g,1*2,none⟩)) (bq (by show(χ 123 (a.eval (.tmp 25)) (V Z 1)).run _ _=_;rw[e];exact dM g 1 (by decide) I)) (bL rfl (by decide) hI (κ _ _) (show NN g F w3.heap.size 5 _ _ from rfl) (by kernel_rfl) rfl)
     ·
      have e:a.eval (.tmp 26)=ζ (some ⟨g,1*2,none⟩):=bT (aB hG 5) (by decide);exact ai (v:=bI (F 1)) (bq (by show(τ 126 (a.eval (.tmp 26))).run _ _=_;rw[e];exact dj (hF.on hI.below) (by decide))) (bL rfl (by decide) hI (κ _ _) (show NN g F w3.heap.size 6 _ _ from rfl) (by kernel_rfl) rfl)
     ·
      have e:a.eval (.tmp 27)=bI (F 1):=bT (aB hG 6) (by decide);refine cI (R:=λE az=>E=δ (θ ⟨((F 1).getD [49]).toArray⟩)/\Below I.heap.size I az) (f:=122) (args:=#[a.eval (.tmp 27),θ ⟨#[49]⟩]) (by kernel_rfl) (by rw[e];exact E7 (F 1) [49] I) ?_ ?_ ?_
      ·rintro v az ⟨he,U⟩;obtain rfl:v=_:=ο he;exact(bL rfl (by decide) hI U (show NN g F w3.heap.size 7 _ _ from rfl) (by kernel_rfl) rfl)
      ·rintro c az ⟨he,U⟩;cases he
      rintro az ⟨he,_⟩;cases he
     ·
      have e:a.eval (.tmp 28)=θ ⟨((F 1).getD [49]).toArray⟩:=bT (aB hG 7) (by decide);refine cI (R:=λE az=>E=ep 3 (pD 1 100 ((F 1).getD [49]))/\Below I.heap.size I az) (f:=131) (args:=#[a.eval (.tmp 28),V Z 1,V Z 100,V Z 3]) (by kernel_rfl) (by rw[e];exact(jk _ 1 100 3 I (mL (Gz 1 _ (by decide)))).mono λE az ⟨G,A⟩=>⟨by rw[G,Gx],by rw[<-A];exact κ _ _⟩) ?_ ?_ ?_
      ·rintro v az ⟨he,U⟩;obtain⟨z,hz,rfl⟩:=od he;exact(bL rfl (by decide) hI U (show NN g F w3.heap.size 8 _ _ from⟨z,hz,rfl⟩) (by kernel_rfl) rfl)
      ·rintro c az ⟨he,U⟩;obtain⟨hz,rfl⟩:=oe he;exact⟨hI.defers,.inr ⟨no λ⟨r,hr⟩=>(by have:=hr.iv;rw[hz]at this;cases this),rfl⟩,al.trans ((hI.below.trans (U.mono hI.below.size)).mono pY)⟩
      rintro az ⟨he,_⟩;exact og he
     ·
      exact ai (v:=a.eval (.tmp 3)) (by kernel_rfl) (bL rfl (by decide) hI (κ _ _) (show NN g F w3.heap.size 9 _ _ from hI.s3) (by kernel_rfl) rfl)
     ·
      have e:a.eval (.tmp 30)=η (some ⟨g,0,none⟩) 9 9:=bT (aB hG 9) (by decide);exact ai (v:=ζ (some ⟨g,2*2,none⟩)) (bq (by show(χ 123 (a.eval (.tmp 30)) (V Z 2)).run _ _=_;rw[e];exact dM g 2 (by decide) I)) (bL rfl (by decide) hI (κ _ _) (show NN g F w3.heap.size 10 _ _ from rfl) (by kernel_rfl) rfl)
     ·
      have e:a.eval (.tmp 31)=ζ (some ⟨g,2*2,none⟩):=bT (aB hG 10) (by decide);exact ai (v:=bI (F 2)) (bq (by show(τ 126 (a.eval (.tmp 31))).run _ _=_;rw[e];exact dj (hF.on hI.below) (by decide))) (bL rfl (by decide) hI (κ _ _) (show NN g F w3.heap.size 11 _ _ from rfl) (by kernel_rfl) rfl)
     ·
      have e:a.eval (.tmp 32)=bI (F 2):=bT (aB hG 11) (by decide);refine cI (R:=λE az=>E=ep 3 (vZ (F 2))/\Below I.heap.size I az) (f:=132) (args:=#[a.eval (.tmp 32)]) (by kernel_rfl) (by rw[e];exact(JH (F 2) I (mL (my 2))).mono λE az ⟨G,A⟩=>⟨by rw[G,XL],A⟩) ?_ ?_ ?_
      ·rintro v az ⟨he,U⟩;obtain⟨z,hz,rfl⟩:=od he;exact(bL rfl (by decide) hI U (show NN g F w3.heap.size 12 _ _ from⟨z,hz,rfl⟩) (by kernel_rfl) rfl)
      ·rintro c az ⟨he,U⟩;obtain⟨hz,rfl⟩:=oe he;exact⟨hI.defers,.inr ⟨no λ⟨r,hr⟩=>(by have:=hr.ct;rw[hz]at this;cases this),rfl⟩,al.trans ((hI.below.trans (U.mono hI.below.size)).mono pY)⟩
      rintro az ⟨he,_⟩;exact og he
     ·
      exact ai (v:=a.eval (.tmp 3)) (by kernel_rfl) (bL rfl (by decide) hI (κ _ _) (show NN g F w3.heap.size 13 _ _ from hI.s3) (by kernel_rfl) rfl)
     ·
      have e:a.eval (.tmp 34)=η (some ⟨g,0,none⟩) 9 9:=bT (aB hG 13) (by decide);exact ai (v:=ζ (some ⟨g,3*2,none⟩)) (bq (by show(χ 123 (a.eval (.tmp 34)) (V Z 3)).run _ _=_;rw[e];exact dM g 3 (by decide) I)) (bL rfl (by decide) hI (κ _ _) (show NN g F w3.heap.size 14 _ _ from rfl) (by kernel_rfl) rfl)
     ·
      have e:a.eval (.tmp 35)=ζ (some ⟨g,3*2,none⟩):=bT (aB hG 14) (by decide);exact ai (v:=bI (F 3)) (bq (by show(τ 126 (a.eval (.tmp 35))).run _ _=_;rw[e];exact dj (hF.on hI.below) (by decide))) (bL rfl (by decide) hI (κ _ _) (show NN g F w3.heap.size 15 _ _ from rfl) (by kernel_rfl) rfl)
     ·
      have e:a.eval (.tmp 36)=bI (F 3):=bT (aB hG 15) (by decide);refine cI (R:=λE az=>E=ep 3 (wb (F 3))/\Below I.heap.size I az) (f:=133) (args:=#[a.eval (.tmp 36)]) (by kernel_rfl) (by rw[e];exact(JI (F 3) I).mono λE az ⟨G,A⟩=>⟨by rw[G,XM],A⟩) ?_ ?_ ?_
      ·rintro v az ⟨he,U⟩;obtain⟨z,hz,rfl⟩:=od he;exact(bL rfl (by decide) hI U (show NN g F w3.heap.size 16 _ _ from⟨z,hz,rfl⟩) (by kernel_rfl) rfl)
      ·rintro c az ⟨he,U⟩;obtain⟨hz,rfl⟩:=oe he;exact⟨hI.defers,.inr ⟨no λ⟨r,hr⟩=>(by have:=hr.un;rw[hz]at this;cases this),rfl⟩,al.trans ((hI.below.trans (U.mono hI.below.size)).mono pY)⟩
      rintro az ⟨he,_⟩;exact og he
     ·
      exact ai (v:=a.eval (.tmp 3)) (by kernel_rfl) (bL rfl (by decide) hI (κ _ _) (show NN g F w3.heap.size 17 _ _ from hI.s3) (by kernel_rfl) rfl)
     ·
      have e:a.eval (.tmp 38)=η (some ⟨g,0,none⟩) 9 9:=bT (aB hG 17) (by decide);exact ai (v:=ζ (some ⟨g,4*2,none⟩)) (bq (by show(χ 123 (a.eval (.tmp 38)) (V Z 4)).run _ _=_;rw[e];exact dM g 4 (by decide) I)) (bL rfl (by decide) hI (κ _ _) (show NN g F w3.heap.size 18 _ _ from rfl) (by kernel_rfl) rfl)
     ·
      have e:a.eval (.tmp 39)=ζ (some ⟨g,4*2,none⟩):=bT (aB hG 18) (by decide);exact ai (v:=bI (F 4)) (bq (by show(τ 126 (a.eval (.tmp 39))).run _ _=_;rw[e];exact dj (hF.on hI.below) (by decide))) (bL rfl (by decide) hI (κ _ _) (show NN g F w3.heap.size 19 _ _ from rfl) (by kernel_rfl) rfl)
     ·
      have e:a.eval (.tmp 40)=bI (F 4):=bT (aB hG 19) (by decide);refine cI (R:=rX (pD 1 12) (F 4) 3 I) (f:=125) (args:=#[a.eval (.tmp 40),V Z 3,.func (.func 134) #[] #[]]) (by kernel_rfl) (by rw[e];exact Rp (F 4) I (Ag.on hI.below) (my 4)) ?_ ?_ ?_
      ·rintro v az ⟨⟨zs,v',hz,he,hv⟩|⟨_,he⟩,U⟩
       ·obtain rfl:v=v':=ο he;exact(bL rfl (by decide) hI U (show NN g F w3.heap.size 20 _ _ from⟨zs,hz,hv⟩) (by kernel_rfl) rfl)
       cases he
      ·rintro c az ⟨⟨zs,v',hz,he,hv⟩|⟨hz,he⟩,U⟩
       ·cases he
       obtain rfl:c=_:=ψ he;exact⟨hI.defers,.inr ⟨no λ⟨r,hr⟩=>(by have:=hr.ms;rw[hz]at this;cases this),rfl⟩,al.trans ((hI.below.trans (U.mono hI.below.size)).mono pY)⟩
      rintro az ⟨⟨zs,v',hz,he,hv⟩|⟨hz,he⟩,_⟩<;>cases he
     ·
      exact ai (v:=a.eval (.tmp 3)) (by kernel_rfl) (bL rfl (by decide) hI (κ _ _) (show NN g F w3.heap.size 21 _ _ from hI.s3) (by kernel_rfl) rfl)
     ·
      have e:a.eval (.tmp 42)=η (some ⟨g,0,none⟩) 9 9:=bT (aB hG 21) (by decide);exact ai (v:=ζ (some ⟨g,5*2,none⟩)) (bq (by show(χ 123 (a.eval (.tmp 42)) (V Z 5)).run _ _=_;rw[e];exact dM g 5 (by decide) I)) (bL rfl (by decide) hI (κ _ _) (show NN g F w3.heap.size 22 _ _ from rfl) (by kernel_rfl) rfl)
     ·
      have e:a.eval (.tmp 43)=ζ (some ⟨g,5*2,none⟩):=bT (aB hG 22) (by decide);exact ai (v:=bI (F 5)) (bq (by show(τ 126 (a.eval (.tmp 43))).run _ _=_;rw[e];exact dj (hF.on hI.below) (by decide))) (bL rfl (by decide) hI (κ _ _) (show NN g F w3.heap.size 23 _ _ from rfl) (by kernel_rfl) rfl)
     ·
      have e:a.eval (.tmp 44)=bI (F 5):=bT (aB hG 23) (by decide);refine cI (R:=rX (sR 31) (F 5) 3 I) (f:=125) (args:=#[a.eval (.tmp 44),V Z 3,.func (.func 135) #[] #[]]) (by kernel_rfl) (by rw[e];exact Br (F 5) I (Ag.on hI.below) (my 5)) ?_ ?_ ?_
      ·rintro v az ⟨⟨zs,v',hz,he,hv⟩|⟨_,he⟩,U⟩
       ·obtain rfl:v=v':=ο he;exact(bL rfl (by decide) hI U (show NN g F w3.heap.size 24 _ _ from⟨zs,hz,hv⟩) (by kernel_rfl) rfl)
       cases he
      ·rintro c az ⟨⟨zs,v',hz,he,hv⟩|⟨hz,he⟩,U⟩
       ·cases he
       obtain rfl:c=_:=ψ he;exact⟨hI.defers,.inr ⟨no λ⟨r,hr⟩=>(by have:=hr.mds;rw[hz]at this;cases this),rfl⟩,al.trans ((hI.below.trans (U.mono hI.below.size)).mono pY)⟩
      rintro az ⟨⟨zs,v',hz,he,hv⟩|⟨hz,he⟩,_⟩<;>cases he
     ·
      exact ai (v:=a.eval (.tmp 3)) (by kernel_rfl) (bL rfl (by decide) hI (κ _ _) (show NN g F w3.heap.size 25 _ _ from hI.s3) (by kernel_rfl) rfl)
     ·
      have e:a.eval (.tmp 46)=η (some ⟨g,0,none⟩) 9 9:=bT (aB hG 25) (by decide);exact ai (v:=ζ (some ⟨g,6*2,none⟩)) (bq (by show(χ 123 (a.eval (.tmp 46)) (V Z 6)).run _ _=_;rw[e];exact dM g 6 (by decide) I)) (bL rfl (by decide) hI (κ _ _) (show NN g F w3.heap.size 26 _ _ from rfl) (by kernel_rfl) rfl)
     ·
      have e:a.eval (.tmp 47)=ζ (some ⟨g,6*2,none⟩):=bT (aB hG 26) (by decide);exact ai (v:=bI (F 6)) (bq (by show(τ 126 (a.eval (.tmp 47))).run _ _=_;rw[e];exact dj (hF.on hI.below) (by decide))) (bL rfl (by decide) hI (κ _ _) (show NN g F w3.heap.size 27 _ _ from rfl) (by kernel_rfl) rfl)
     ·
      have e:a.eval (.tmp 48)=bI (F 6):=bT (aB hG 27) (by decide);refine cI (R:=Ur (F 6) I) (f:=136) (args:=#[a.eval (.tmp 48),V Z 3,.func (.func 137) #[] #[]]) (by kernel_rfl) (by rw[e];exact Ro (F 6) I (Ag.on hI.below) (my 6)) ?_ ?_ ?_
      ·rintro v az ⟨⟨zs,v',hz,he,hv⟩|⟨_,he⟩,U⟩
       ·obtain rfl:v=v':=ο he;exact(bL rfl (by decide) hI U (show NN g F w3.heap.size 28 _ _ from⟨zs,hz,hv⟩) (by kernel_rfl) rfl)
       cases he
      ·rintro c az ⟨⟨zs,v',hz,he,hv⟩|⟨hz,he⟩,U⟩
       ·cases he
       obtain rfl:c=_:=ψ he;exact⟨hI.defers,.inr ⟨no λ⟨r,hr⟩=>(by have:=hr.wks;rw[hz]at this;cases this),rfl⟩,al.trans ((hI.below.trans (U.mono hI.below.size)).mono pY)⟩
      rintro az ⟨⟨zs,v',hz,he,hv⟩|⟨hz,he⟩,_⟩<;>cases he
     ·
      exact ai (v:=a.eval (.tmp 3)) (by kernel_rfl) (bL rfl (by decide) hI (κ _ _) (show NN g F w3.heap.size 29 _ _ from hI.s3) (by kernel_rfl) rfl)
     ·
      have e:a.eval (.tmp 50)=η (some ⟨g,0,none⟩) 9 9:=bT (aB hG 29) (by decide);exact ai (v:=ζ (some ⟨g,7*2,none⟩)) (bq (by show(χ 123 (a.eval (.tmp 50)) (V Z 7)).run _ _=_;rw[e];exact dM g 7 (by decide) I)) (bL rfl (by decide) hI (κ _ _) (show NN g F w3.heap.size 30 _ _ from rfl) (by kernel_rfl) rfl)
     ·
      have e:a.eval (.tmp 51)=ζ (some ⟨g,7*2,none⟩):=bT (aB hG 30) (by decide);exact ai (v:=bI (F 7)) (bq (by show(τ 126 (a.eval (.tmp 51))).run _ _=_;rw[e];exact dj (hF.on hI.below) (by decide))) (bL rfl (by decide) hI (κ _ _) (show NN g F w3.heap.size 31 _ _ from rfl) (by kernel_rfl) rfl)
     ·
      have e:a.eval (.tmp 52)=bI (F 7):=bT (aB hG 31) (by decide);refine cI (R:=rX (sR 366) (F 7) 3 I) (f:=125) (args:=#[a.eval (.tmp 52),V Z 3,.func (.func 138) #[] #[]]) (by kernel_rfl) (by rw[e];exact Rq (F 7) I (Ag.on hI.below) (my 7)) ?_ ?_ ?_
      ·rintro v az ⟨⟨zs,v',hz,he,hv⟩|⟨_,he⟩,U⟩
       ·obtain rfl:v=v':=ο he;exact(bL rfl (by decide) hI U (show NN g F w3.heap.size 32 _ _ from⟨zs,hz,hv⟩) (by kernel_rfl) rfl)
       cases he
      ·rintro c az ⟨⟨zs,v',hz,he,hv⟩|⟨hz,he⟩,U⟩
       ·cases he
       obtain rfl:c=_:=ψ he;exact⟨hI.defers,.inr ⟨no λ⟨r,hr⟩=>(by have:=hr.pls;rw[hz]at this;cases this),rfl⟩,al.trans ((hI.below.trans (U.mono hI.below.size)).mono pY)⟩
      rintro az ⟨⟨zs,v',hz,he,hv⟩|⟨hz,he⟩,_⟩<;>cases he
     ·
      exact ai (v:=a.eval (.tmp 3)) (by kernel_rfl) (bL rfl (by decide) hI (κ _ _) (show NN g F w3.heap.size 33 _ _ from hI.s3) (by kernel_rfl) rfl)
     ·
      have e:a.eval (.tmp 54)=η (some ⟨g,0,none⟩) 9 9:=bT (aB hG 33) (by decide);exact ai (v:=ζ (some ⟨g,8*2,none⟩)) (bq (by show(χ 123 (a.eval (.tmp 54)) (V Z 8)).run _ _=_;rw[e];exact dM g 8 (by decide) I)) (bL rfl (by decide) hI (κ _ _) (show NN g F w3.heap.size 34 _ _ from rfl) (by kernel_rfl) rfl)
     ·
      have e:a.eval (.tmp 55)=ζ (some ⟨g,8*2,none⟩):=bT (aB hG 34) (by decide);exact ai (v:=bI (F 8)) (bq (by show(τ 126 (a.eval (.tmp 55))).run _ _=_;rw[e];exact dj (hF.on hI.below) (by decide))) (bL rfl (by decide) hI (κ _ _) (show NN g F w3.heap.size 35 _ _ from rfl) (by kernel_rfl) rfl)
     ·
      have e:a.eval (.tmp 56)=bI (F 8):=bT (aB hG 35) (by decide);refine cI (R:=λE az=>E=δ (θ ⟨((F 8).getD [77,79]).toArray⟩)/\Below I.heap.size I az) (f:=122) (args:=#[a.eval (.tmp 56),θ ⟨#[77,79]⟩]) (by kernel_rfl) (by rw[e];exact E7 (F 8) [77,79] I) ?_ ?_ ?_
      ·rintro v az ⟨he,U⟩;obtain rfl:v=_:=ο he;exact(bL rfl (by decide) hI U (show NN g F w3.heap.size 36 _ _ from rfl) (by kernel_rfl) rfl)
      ·rintro c az ⟨he,U⟩;cases he
      rintro az ⟨he,_⟩;cases he
     ·
      have e:a.eval (.tmp 57)=θ ⟨((F 8).getD [77,79]).toArray⟩:=bT (aB hG 36) (by decide);refine cI (R:=λE az=>E=ep 3 (Ax ((F 8).getD [77,79]))/\Below I.heap.size I az) (f:=139) (args:=#[a.eval (.tmp 57)]) (by kernel_rfl) (by rw[e];exact(pA _ I).mono λE az ⟨G,A⟩=>⟨by rw[G,Pj];rfl,A⟩) ?_ ?_ ?_
      ·rintro v az ⟨he,U⟩;obtain⟨z,hz,rfl⟩:=od he;exact(bL rfl (by decide) hI U (show NN g F w3.heap.size 37 _ _ from⟨z,hz,rfl⟩) (by kernel_rfl) rfl)
      ·rintro c az ⟨he,U⟩;obtain⟨hz,rfl⟩:=oe he;exact⟨hI.defers,.inr ⟨no λ⟨r,hr⟩=>(by have:=hr.ws;rw[hz]at this;cases this),rfl⟩,al.trans ((hI.below.trans (U.mono hI.below.size)).mono pY)⟩
      rintro az ⟨he,_⟩;exact og he
     ·
      exact ai (v:=a.eval (.tmp 3)) (by kernel_rfl) (bL rfl (by decide) hI (κ _ _) (show NN g F w3.heap.size 38 _ _ from hI.s3) (by kernel_rfl) rfl)
     ·
      have e:a.eval (.tmp 59)=η (some ⟨g,0,none⟩) 9 9:=bT (aB hG 38) (by decide);refine cI (R:=λE az=>E=δ (θ (gw F))/\Below I.heap.size I az) (f:=140) (args:=#[a.eval (.tmp 59)]) (by kernel_rfl) (by rw[e];exact Dc g F I (hF.on hI.below) my) ?_ ?_ ?_
      ·rintro v az ⟨he,U⟩;obtain rfl:v=_:=ο he;exact(bL rfl (by decide) hI U (show NN g F w3.heap.size 39 _ _ from rfl) (by kernel_rfl) rfl)
      ·rintro c az ⟨he,U⟩;cases he
      rintro az ⟨he,_⟩;cases he
     ·
      obtain⟨z0,q0,t0⟩:=bT (aB hG 3) (by decide);obtain⟨z1,q1,t1⟩:=bT (aB hG 8) (by decide);obtain⟨z2,q2,t2⟩:=bT (aB hG 12) (by decide);obtain⟨z3,q3,t3⟩:=bT (aB hG 16) (by decide);obtain⟨l4,q4,t4⟩:=bT (aB hG 20) (by decide);obtain⟨l5,q5,t5⟩:=bT (aB hG 24) (by decide);obtain⟨l6,q6,t6⟩:=bT (aB hG 28) (by decide);obtain⟨l7,q7,t7⟩:=bT (aB hG 32) (by decide);obtain⟨z8,q8,t8⟩:=bT (aB hG 37) (by decide);have t9:=bT (aB hG 39) (by decide);obtain⟨a4,e4⟩:=t4.form;obtain⟨a5,e5⟩:=t5.form;obtain⟨a6,e6⟩:=t6.form;obtain⟨a7,e7⟩:=t7.form;exact ai (v:=bG z0 z1 z2 z3 (a.eval (.tmp 41)) (a.eval (.tmp 45)) (a.eval (.tmp 49)) (a.eval (.tmp 53)) z8 (gw F)) (bq (by simp only[List.map_toArray,List.map_cons,List.map_nil];rw[show a.eval (.tmp 24)=_ from t0,show a.eval (.tmp 29)=_ from t1,show a.eval (.tmp 33)=_ from t2,show a.eval (.tmp 37)=_ from t3,show a.eval (.tmp 58)=_ from t8,show a.eval (.tmp 60)=_ from t9,show a.eval (.tmp 41)=_ from e4,show a.eval (.tmp 45)=_ from e5,show a.eval (.tmp 49)=_ from e6,show a.eval (.tmp 53)=_ from e7];exact Us ..)) (bL rfl (by decide) hI (κ _ _) (show NN g F w3.heap.size 40 _ _ from⟨⟨z0,z1,z2,z3,l4,l5,l6,l7,z8⟩,_,_,_,_,⟨q0,q1,q2,q3,q4,q5,q6,q7,q8⟩,rfl,t4,t5,t6,t7⟩) (by kernel_rfl) rfl)
     ·
      exact ai (v:=ζ (some ⟨I.heap.size,0,none⟩)) (I:=I.alloc (ι bw.toArray 96)) (by kernel_rfl) (bL rfl (by decide) hI ((κ _ _).alloc (ν _) _) (show NN g F w3.heap.size 41 _ _ from⟨_,rfl,hI.below.size,bw,rfl,X.new _ _ _⟩) (by kernel_rfl) rfl)
     obtain⟨b,eb,yO,cs,zE,aC⟩:=bT (aB hG 41) (by decide);have hv:RV F I (a.eval (.tmp 61)):=bT (aB hG 40) (by decide);obtain⟨az,jy,gQ,lE,lF⟩:=XR aC zE yO hI.below hv;refine A4 (I:=az) (De (by show(Ο 96 (a.eval (.tmp 4)) (a.eval (.tmp 61))).run _ _=_;rw[show a.eval (.tmp 4)=_ from eb];exact jy)) ⟨⟨hI.size,hI.defers,hI.s2,hI.s3,gQ⟩,?_,λj oj jg hj _ hg=>?_⟩
     ·unfold GG;rw[if_pos rfl];exact⟨b,eb,yO,lF⟩
     have Mb:j<43:=(Array.getElem?_eq_some_iff.1 jg).1;unfold GG at hg⊢;rw[if_neg hj]at hg⊢;exact NN.gr hg lE
    intro a w4 hI hG;have EL:=hG 42 (by decide);unfold GG at EL;rw[if_pos rfl]at EL;obtain⟨b,eb,yO,r,m,md,wk,pl,hP,lF,i1,i2,i3,i4⟩:=EL;obtain⟨f,rfl,rO⟩:=abK a hI.size hI.defers;have e2:=(rO 2).symm.trans hI.s2;have e4:=(rO 4).symm.trans eb;have cq:=hI.below;have hrz:=aC.on cq;have EO:=cq.size;have hP':=hP;obtain⟨q0,q1,q2,q3,q4,q5,q6,q7,q8⟩:=hP';have tY:=Pm q0;obtain⟨a1,s1⟩:=i1.form;obtain⟨a2,s2⟩:=i2.form;obtain⟨a3,s3⟩:=i3.form;obtain⟨a4,s4⟩:=i4.form;subst s1 s2 s3 s4;have CA:=Gv r.fq r.iv r.ct r.un r.ws a1 a2 a4 r.ms.length r.mds.length r.pls.length r.ms.length r.mds.length r.pls.length (η a3 r.wks.length r.wks.length) (gw F) r.wks w4 tY.1 tY.2 (tB q6) i3;unfold bX at lF;have d0:=lF.cell (k:=0) rfl;have d1:=lF.cell (k:=1) rfl;have d2:=lF.cell (k:=2) rfl;have d3:=lF.cell (k:=3) rfl;have d4:=lF.cell (k:=4) rfl;have d5:=lF.cell (k:=5) rfl;have d6:=lF.cell (k:=6) rfl;have d7:=lF.cell (k:=7) rfl;have d8:=lF.cell (k:=8) rfl;have d9:=lF.cell (k:=9) rfl;clear hI hG rO q0 q1 q2 q3 q4 q5 q6 q7 q8 tY c2 c3 CG CS HS HS1 Ag hF my Gz no B3;rw[e2,e4];cases Pn:E9 r with
    |false=>
     rw[show xe r.fq r.ms.length r.mds.length r.wks.length r.pls.length (ik r.wks)=false from Pn]at CA;have HN:Hid (¬∃F r,mM s F r):=H (λ⟨F',r',G,_,M,h4⟩=>by rw[HU.out F' G]at M;rw[<-hP.uniq M,Pn]at h4;cases h4);unfold bG at CA;have C:=H CA;clear CA Pn hP;go_wp2_with (first
      |(go_at_call 141;refine(C.out).mono ?_;rintro e w5 ⟨rfl,bB⟩)
      |(go_at_call_of 42 (ξ false);refine eI ?_))
     exact⟨rfl,.inr ⟨HN.out,rfl⟩,al.trans ((cq.trans (bB.mono EO)).mono pY)⟩
    |true=>
     rw[show xe r.fq r.ms.length r.mds.length r.wks.length r.pls.length (ik r.wks)=true from Pn]at CA;have HR:Hid (mM s F r):=H ⟨HP.out,H23.out,hP,Pn⟩;unfold bG at CA;unfold bw bX at hrz;have C:=H CA;clear CA Pn hP;go_wp2_with (first
      |(go_at_call 141;refine(C.out).mono ?_;rintro e w5 ⟨rfl,bB⟩;have wc:=lF.on bB;have kb:=hrz.on bB;have x0:=wc.cell (k:=0) rfl;have x1:=wc.cell (k:=1) rfl;have x2:=wc.cell (k:=2) rfl;have x3:=wc.cell (k:=3) rfl;have x4:=wc.cell (k:=4) rfl;have x5:=wc.cell (k:=5) rfl;have x6:=wc.cell (k:=6) rfl;have x7:=wc.cell (k:=7) rfl;have x8:=wc.cell (k:=8) rfl;have x9:=wc.cell (k:=9) rfl;have y0:=kb.cell (k:=0) rfl;have f0:=kb.free (k:=0);have y1:=kb.cell (k:=1) rfl;have f1:=kb.free (k:=1);have y2:=kb.cell (k:=2) rfl;have f2:=kb.free (k:=2);have y3:=kb.cell (k:=3) rfl;have f3:=kb.free (k:=3);have y4:=kb.cell (k:=4) rfl;have f4:=kb.free (k:=4);have y5:=kb.cell (k:=5) rfl;have f5:=kb.free (k:=5);have y6:=kb.cell (k:=6) rfl;have f6:=kb.free (k:=6);have y7:=kb.cell (k:=7) rfl;have f7:=kb.free (k:=7);have y8:=kb.cell (k:=8) rfl;have f8:=kb.free (k:=8);have y9:=kb.cell (k:=9) rfl;have f9:=kb.free (k:=9))
      |(go_at_call_of 42 (ξ true);refine dh ?_))
     have hbf:Below w.heap.size w w5:=al.trans ((cq.trans (bB.mono EO)).mono pY);obtain⟨hg,gQ⟩:=aek kb rfl (ν _) hbf (V Z r.fq) (V Z r.iv) (V Z r.ct) (V Z r.un) (η a1 r.ms.length r.ms.length) (η a2 r.mds.length r.mds.length) (η a3 r.wks.length r.wks.length) (η a4 r.pls.length r.pls.length) (V Z r.ws) (θ (gw F));exact bodyPost_ret (v:=bG r.fq r.iv r.ct r.un (η a1 r.ms.length r.ms.length) (η a2 r.mds.length r.mds.length) (η a3 r.wks.length r.wks.length) (η a4 r.pls.length r.pls.length) r.ws (gw F)) (by simp[results,results85,go_sem,bG,y0,y1,y2,y3,y4,y5,y6,y7,y8,y9]) rfl
      ⟨.inl ⟨F,r,_,_,_,_,HR.out,rfl,(i1.on bB).gr qW hg,(i2.on bB).gr qW hg,(i3.on bB).gr Rr hg,(i4.on bB).gr qW hg⟩,gQ⟩
def lL:List (List UInt8):=[[79,80,65,81,85,69],[84,82,65,78,83,80,65,82,69,78,84]]
def mN:List (List UInt8):=[[67,79,78,70,73,82,77,69,68],[84,69,78,84,65,84,73,86,69],[67,65,78,67,69,76,76,69,68]]
def Az (f:Option (List UInt8)):Option Bool:=(idx lL (f.getD [79,80,65,81,85,69])).map λk:Nat=>(k:Int)==1
def AA (f:Option (List UInt8)):Option Int:=(idx mN (f.getD [67,79,78,70,73,82,77,69,68])).map λk:Nat=>(k:Int)
def vy (x:Int)(o:Option Bool):ϛ:=match o with|none=> ε (bx x)|some z=> δ (.bool z)
theorem zi (f:Option (List UInt8))(w:μ):
 Ζ prog 80 #[bI f] w λE I=>E=vy 2 (Az f)/\Below w.heap.size w I:=by
 have CO:=H λW=>E7 f [79,80,65,81,85,69] W;have CC:=H λW=>pz W.heap.size 0 2 lL (f.getD [79,80,65,81,85,69]) 2 (W.alloc (ι (strs lL).toArray 9)) (by decide) (i7 W lL 9);unfold bI at CO⊢;cases hi:idx lL (f.getD [79,80,65,81,85,69])with
 |none=>
  rw[show Az f=none from by unfold Az;rw[hi];rfl];have HX:=H (rW (x:=2) hi);clear hi;go_enter func80,ntmps80;go_wp2_with (first
   |(go_at_call 122;refine(CO.out _).mono ?_;rintro e w1 ⟨rfl,ay⟩)
   |(go_at_call 121;refine(CC.out _).mono ?_;rw[HX.out];rintro e I ⟨rfl,rfl⟩))
  exact⟨rfl,rfl,(((κ _ _).alloc (ν _) _).trans (ay.mono (by simp))).alloc (by have:=ay.size;simp at this;omega) _⟩
 |some k=>
  rw[show Az f=some ((k:Int)==1)from by unfold Az;rw[hi];rfl];have HX:=H (oM (x:=2) hi);clear hi;go_enter func80,ntmps80;go_wp2_with (first
   |(go_at_call 122;refine(CO.out _).mono ?_;rintro e w1 ⟨rfl,ay⟩)
   |(go_at_call 121;refine(CC.out _).mono ?_;rw[HX.out];rintro e I ⟨rfl,rfl⟩))
  go_ret;exact⟨rfl,(((κ _ _).alloc (ν _) _).trans (ay.mono (by simp))).alloc (by have:=ay.size;simp at this;omega) _⟩
theorem vz (w:μ):Ζ prog 123 #[] w λE I=>E=δ (η (some ⟨w.heap.size,0,none⟩) 3 3)/\I=w.alloc (ι (strs mN).toArray 9):=by
 go_enter func123,ntmps123;go_wp2;go_ret;exact⟨rfl,rfl⟩
theorem GC (f:Option (List UInt8))(w:μ):
 Ζ prog 81 #[bI f] w λE I=>E=ep 2 (AA f)/\Below w.heap.size w I:=by
 have CO:=H λW=>E7 f [67,79,78,70,73,82,77,69,68] W;have CC:=H λW=>pz W.heap.size 0 3 mN (f.getD [67,79,78,70,73,82,77,69,68]) 2 (W.alloc (ι (strs mN).toArray 9)) (by decide) (i7 W mN 9);unfold bI at CO⊢;cases hi:idx mN (f.getD [67,79,78,70,73,82,77,69,68])with
 |none=>
  rw[show AA f=none from by unfold AA;rw[hi];rfl];have HX:=H (rW (x:=2) hi);clear hi;go_enter func81,ntmps81;go_wp2_with (first
   |(go_at_call 122;refine(CO.out _).mono ?_;rintro e w1 ⟨rfl,ay⟩)
   |(go_at_call 123;refine(vz _).mono ?_;rintro e w2 ⟨rfl,rfl⟩)
   |(go_at_call 121;refine(CC.out _).mono ?_;rw[HX.out];rintro e I ⟨rfl,rfl⟩))
  exact⟨rfl,rfl,(((κ _ _).alloc (ν _) _).trans (ay.mono (by simp))).alloc (by have:=ay.size;simp at this;omega) _⟩
 |some k=>
  rw[show AA f=some (k:Int)from by unfold AA;rw[hi];rfl];have HX:=H (oM (x:=2) hi);clear hi;go_enter func81,ntmps81;go_wp2_with (first
   |(go_at_call 122;refine(CO.out _).mono ?_;rintro e w1 ⟨rfl,ay⟩)
   |(go_at_call 123;refine(vz _).mono ?_;rintro e w2 ⟨rfl,rfl⟩)
   |(go_at_call 121;refine(CC.out _).mono ?_;rw[HX.out];rintro e I ⟨rfl,rfl⟩))
  go_ret;exact⟨rfl,(((κ _ _).alloc (ν _) _).trans (ay.mono (by simp))).alloc (by have:=ay.size;simp at this;omega) _⟩
theorem Dg (v:List UInt8)(w:μ)(K:v.length<=maxLen):
 Ζ prog 124 #[θ ⟨v.toArray⟩] w λE I=>E=ep 1 (qf v)/\Below w.heap.size w I:=by
 have k:=λW=>Rk ⟨v.toArray⟩ W K;rw[show(⟨v.toArray⟩:ByteArray).data.toList=v from rfl]at k;cases hv:qf v with
 |none=>
  rw[hv]at k;unfold Wc at k;have C:=H k;clear k hv K;go_enter func124,ntmps124;go_wp2_with (first
   |(go_at_call 169;refine(C.out _).mono ?_;rintro e w1 ⟨rfl,ay⟩)
   |(go_at_call_of 42 (ξ false);refine eI ?_))
  exact⟨rfl,rfl,ay⟩
 |some n=>
  rw[hv]at k;unfold Wc at k;have C:=H k;clear k hv K;go_enter func124,ntmps124;go_wp2_with (first
   |(go_at_call 169;refine(C.out _).mono ?_;rintro e w1 ⟨rfl,ay⟩)
   |(go_at_call_of 42 (ξ true);refine dh ?_))
  go_ret;exact⟨rfl,ay⟩
def mO (start:Int)(e l:Option (List UInt8)):Option Int:=
 match(match e with|some v=>(il v).map λz=>z-start|none=>qf (l.getD []))with
 |none=>none
 |some z=>if 1<=z/\z<=2678400 then some z else none
theorem Mc {s:ByteArray}(h:kV s=true):0<=kj s/\kj s<=7258118399:=by
 obtain⟨_,_,_,y0,y1,vd,G,A,m1,m2,s1,s2⟩:=gW.1 h;have nb:=Sj y0 y1 vd;unfold kj;omega
theorem Po {v:List UInt8}{z:Int}(h:il v=some z):0<=z/\z<=7258118399:=by
 unfold il at h;split at h
 ·rename_i ht;cases h;exact Mc ht
 cases h
theorem GD (start:Int)(v:List UInt8)(l:Option (List UInt8))(w:μ)(h0:0<=start)(G:start<=7258118399):
 Ζ prog 83 #[V Z start,bI (some v),bI l] w λE I=>E=ep 1 (mO start (some v) l)/\Below w.heap.size w I:=by
 have k:=λW=>nf (bJ v) W;rw[vx]at k;unfold bI;cases ht:il v with
 |none=>
  rw[ht]at k;rw[show mO start (some v) l=none from by unfold mO;simp only[];rw[ht];rfl];unfold ep at k;have C:=H k;clear k ht;go_enter func83,ntmps83;go_wp2_with (go_at_call 82;refine(C.out _).mono ?_;rintro e w1 ⟨rfl,ay⟩);exact⟨rfl,rfl,(((κ _ _).alloc (ν _) _).alloc (by simp) _).trans (ay.mono (by simp;omega))⟩
 |some z=>
  rw[ht]at k;have hz:=Po ht;have lA:mO start (some v) l=if 1<=z-start/\z-start<=2678400 then some (z-start)else none:=by unfold mO;simp only[];rw[ht];rfl
  rw[lA];unfold ep at k;have C:=H k;clear k ht lA;by_cases g1:1<=z-start
  ·by_cases g2:z-start<=2678400
   ·rw[if_pos ⟨g1,g2⟩];go_enter func83,ntmps83;go_wp2_with (first
     |(go_at_call 82;refine(C.out _).mono ?_;rintro e w1 ⟨rfl,ay⟩)
     |(go_at_call_of 42 (ξ true);refine dh ?_))
    go_ret;exact⟨rfl,(((κ _ _).alloc (ν _) _).alloc (by simp) _).trans (ay.mono (by simp;omega))⟩
   rw[if_neg (λh=>g2 h.2)];have g2':decide (z-start<=2678400)=false:=by simpa using g2
   go_enter func83,ntmps83;go_wp2_with (first
    |(go_at_call 82;refine(C.out _).mono ?_;rintro e w1 ⟨rfl,ay⟩)
    |(go_at_call_of 42 (ξ false);refine eI ?_))
   exact⟨rfl,rfl,(((κ _ _).alloc (ν _) _).alloc (by simp) _).trans (ay.mono (by simp;omega))⟩
  rw[if_neg (λh=>g1 h.1)];have g1':decide (1<=z-start)=false:=by simpa using g1
  go_enter func83,ntmps83;go_wp2_with (first
   |(go_at_call 82;refine(C.out _).mono ?_;rintro e w1 ⟨rfl,ay⟩)
   |(go_at_call_of 42 (ξ false);refine eI ?_))
  exact⟨rfl,rfl,(((κ _ _).alloc (ν _) _).alloc (by simp) _).trans (ay.mono (by simp;omega))⟩
theorem GF (start:Int)(l:Option (List UInt8))(w:μ)(K:(l.getD []).length<=maxLen):
 Ζ prog 83 #[V Z start,bI none,bI l] w λE I=>E=ep 1 (mO start none l)/\Below w.heap.size w I:=by
 have k:=λW=>Dg (l.getD []) W K;unfold bI;cases ht:qf (l.getD [])with
 |none=>
  rw[ht]at k;rw[show mO start none l=none from by unfold mO;simp only[];rw[ht]];unfold ep at k;have C:=H k;clear k ht;go_enter func83,ntmps83;go_wp2_with (go_at_call 124;refine(C.out _).mono ?_;rintro e w1 ⟨rfl,ay⟩);exact⟨rfl,rfl,(((κ _ _).alloc (ν _) _).alloc (by simp) _).trans (ay.mono (by simp;omega))⟩
 |some z=>
  rw[ht]at k;have lA:mO start none l=if 1<=z/\z<=2678400 then some z else none:=by unfold mO;simp only[];rw[ht]
  rw[lA];unfold ep at k;have C:=H k;clear k ht lA;by_cases g1:1<=z
  ·by_cases g2:z<=2678400
   ·rw[if_pos ⟨g1,g2⟩];go_enter func83,ntmps83;go_wp2_with (first
     |(go_at_call 124;refine(C.out _).mono ?_;rintro e w1 ⟨rfl,ay⟩)
     |(go_at_call_of 42 (ξ true);refine dh ?_))
    go_ret;exact⟨rfl,(((κ _ _).alloc (ν _) _).alloc (by simp) _).trans (ay.mono (by simp;omega))⟩
   rw[if_neg (λh=>g2 h.2)];have g2':decide (z<=2678400)=false:=by simpa using g2
   go_enter func83,ntmps83;go_wp2_with (first
    |(go_at_call 124;refine(C.out _).mono ?_;rintro e w1 ⟨rfl,ay⟩)
    |(go_at_call_of 42 (ξ false);refine eI ?_))
   exact⟨rfl,rfl,(((κ _ _).alloc (ν _) _).alloc (by simp) _).trans (ay.mono (by simp;omega))⟩
  rw[if_neg (λh=>g1 h.1)];have g1':decide (1<=z)=false:=by simpa using g1
  go_enter func83,ntmps83;go_wp2_with (first
   |(go_at_call 124;refine(C.out _).mono ?_;rintro e w1 ⟨rfl,ay⟩)
   |(go_at_call_of 42 (ξ false);refine eI ?_))
  exact⟨rfl,rfl,(((κ _ _).alloc (ν _) _).alloc (by simp) _).trans (ay.mono (by simp;omega))⟩
theorem Fb (start:Int)(e l:Option (List UInt8))(w:μ)(h0:0<=start)(G:start<=7258118399)(K:(l.getD []).length<=maxLen):
 Ζ prog 83 #[V Z start,bI e,bI l] w λE I=>E=ep 1 (mO start e l)/\Below w.heap.size w I:=by
 cases e with
 |none=>exact GF start l w K
 |some v=>exact GD start v l w h0 G
def dc (w:μ)(v:Value)(zs:List Int):Prop:=(v=η none 0 0/\zs=[])\/∃g cap rest,v=η (some ⟨g,0,none⟩) zs.length cap/\X w g ((zs++rest).map (ω Z)) 3
def sS (f:Option (List UInt8)):Option (List Int):=(dV il f).map λzs=>Δ (zs.mergeSort λx y=>decide (x<=y))
theorem IX {w:μ}{g:Nat}{zs:List Int}{t:Θ}(h:X w g (zs.map (ω Z)) t):Holds (ω Z) w g 0 zs.toArray:=λj hj=>by
 have Y8:j<zs.length:=by simpa using hj
 rw[Ϟ];refine⟨h.cell ?_,h.free⟩;rw[Τ,Λ Y8];simp[Y8]
theorem Pp {w:μ}{g:Nat}{zs ds:List Int}{t:Θ}(h:X w g (zs.map (ω Z)) t)(hd:ds.length=zs.length)(n:Nat):X (putRow (ω Z) (Sort.ahead w n) g 0 ds.toArray) g (ds.map (ω Z)) t:=by
 unfold X at h⊢;unfold putRow mapBlock;have h':(Sort.ahead w n).heap[g]?=some (ι (zs.map (ω Z)).toArray t):=h;simp only[ό,if_true,h',Α,onCells];congr 2;unfold putCells;apply Array.ext
 ·simp[hd]
 intro i G A;have hi:i<ds.length:=by simpa using A
 simp[hi]
theorem XV {w:μ}{g:Nat}{cs:List Value}{t:Θ}(h:X w g cs t)(os:Array Obj):X (grow w os) g cs t:=by
 have K:=h.lt;unfold X at h⊢;show(w.heap++os)[g]?=_;rw[Χ K];exact h
theorem IY {B:Nat}{w:μ}{g n:Nat}{d:Array Int}(hg:B<=g):Below B w (putRow (ω Z) (Sort.ahead w n) g 0 d):=by
 refine⟨rfl,rfl,rfl,by rw[size_putRow];exact ν _,λk Y=>?_⟩;unfold putRow mapBlock;show((Sort.ahead w n).heap.modify g _)[k]?=w.heap[k]?;rw[ό,if_neg (by omega)];rfl
theorem below_grow {B:Nat}{a w:μ}(h:Below B a w)(os:Array Obj)(hB:B<=w.heap.size):Below B a (grow w os):=
 ⟨h.os,h.tape,h.output,by show _<=(w.heap++os).size;rw[Array.size_append];have:=h.size;omega,λk Y=>by
  show(w.heap++os)[k]?=_;rw[Χ (by omega)];exact h.block k Y⟩
def aem (f:Option (List UInt8))(w:μ)(E:ϛ)(I:μ):Prop:=
 ((∃zs v,sS f=some zs/\E=δ v/\dc I v zs)\/(sS f=none/\E=ε (bx 1)))/\Below w.heap.size w I
theorem yf (zs:List Int):(Δ zs).length<=zs.length:=by
 unfold Δ Lib.compactUpTo;rw[ϙ];exact Nat.le_trans (List.length_filter_le _ _) (by simp)
theorem NS {g n:Nat}{aqA:List Int}{w:μ}(hn:aqA.length=n)(U:n<=20)(aC:X w g (aqA.map (ω Z)) 3):
 Ζ prog 127 #[η (some ⟨g,0,none⟩) n n] w λe I=>e=δ (η (some ⟨g,0,none⟩) (Δ aqA).length n)/\X I g ((Δ aqA++List.replicate (aqA.length-(Δ aqA).length) 0).map (ω Z)) 3/\∀B,B<=g->Below B w I:=by
 subst hn;have dE:=yf aqA;refine(Tryz.slices_Compact_int g 0 aqA.length aqA w (IX aC) (by omega) (ν _)).mono λe I ⟨G,q,A⟩=>⟨G,?_,λB hB=>?_⟩
 ·rw[A];exact Pp aC (by simp;omega) q
 rw[A];exact IY hB
theorem XX:([]:List Int).mergeSort (λx y=>decide (x<=y))=[]:=by simp
theorem za (f:Option (List UInt8))(w:μ)(hm:ML w)(K:(f.getD []).length<=1048576):
 Ζ prog 84 #[bI f] w (aem f w):=by
 have bj:Below w.heap.size w (w.alloc (ι #[θ ⟨(f.getD []).toArray⟩,.bool f.isSome] 126)):=(κ _ _).alloc (ν _) _;have iY:(w.alloc (ι #[θ ⟨(f.getD []).toArray⟩,.bool f.isSome] 126)).heap.size=w.heap.size+1:=by simp
 have CL:=Gy f (w.alloc (ι #[θ ⟨(f.getD []).toArray⟩,.bool f.isSome] 126)) (hm.on bj) K;cases hq:dV il f with
 |none=>
  have ht:sS f=none:=by unfold sS;rw[hq];rfl
  have C:Hid (Ζ prog 125 #[bI f,V Z 1,.func (.func 82) #[] #[]] (w.alloc (ι #[θ ⟨(f.getD []).toArray⟩,.bool f.isSome] 126)) λE I=>E=ε (bx 1)/\Below w.heap.size w I):=
   H (CL.mono λE I ⟨G,A⟩=>by
    refine⟨?_,bj.trans (A.mono (by omega))⟩;rcases G with⟨zs,v,h,_⟩|⟨_,h⟩
    ·rw[hq]at h;cases h
    exact h)
  have HT:=H ht;unfold bI at C⊢;clear CL hq ht bj iY hm K;go_enter func84,ntmps84;go_wp2_with (go_at_call 125;refine(C.out).mono ?_;rintro e w1 ⟨rfl,ay⟩);exact⟨rfl,.inr ⟨HT.out,rfl⟩,ay⟩
 |some zs=>
  have ht:sS f=some (Δ (zs.mergeSort λx y=>decide (x<=y))):=by unfold sS;rw[hq];rfl
  have hlen:=tB hq;cases f with
  |none=>
   have hz:zs=[]:=by unfold dV at hq;simp only[]at hq;cases hq;rfl
   subst hz;have C:Hid (Ζ prog 125 #[bI none,V Z 1,.func (.func 82) #[] #[]] (w.alloc (ι #[θ ⟨((none:Option (List UInt8)).getD []).toArray⟩,.bool (none:Option (List UInt8)).isSome] 126)) λE I=>E=δ (η none 0 0)/\Below w.heap.size w I):=
    H ((Ay 82 1 _).mono λE I ⟨G,A⟩=>⟨G,bj.trans (A.mono (by omega))⟩)
   rw[XX]at ht;have HT:=H ht;unfold bI at C⊢;clear CL hq ht bj iY hm K hlen;go_enter func84,ntmps84;go_wp2_with (first
    |(go_at_call 125;refine(C.out).mono ?_;rintro e w1 ⟨rfl,ay⟩)
    |(go_at_call 126;refine(Tryz.slices_Sort_int_none _ _ _).mono ?_;rintro e I ⟨rfl,rfl⟩)
    |(go_at_call 127;refine(Tryz.slices_Compact_int_empty _ _ _).mono ?_;rintro e I ⟨rfl,rfl⟩))
   go_ret;exact⟨.inl ⟨[],_,HT.out,rfl,.inl ⟨rfl,rfl⟩⟩,ay⟩
  |some v=>
   have C:Hid (Ζ prog 125 #[bI (some v),V Z 1,.func (.func 82) #[] #[]] (w.alloc (ι #[θ ⟨((some v).getD []).toArray⟩,.bool (some v).isSome] 126)) λE I=>∃g,E=δ (η (some ⟨g,0,none⟩) zs.length zs.length)/\w.heap.size<=g/\X I g (zs.map (ω Z)) 3/\Below w.heap.size w I):=
    H ((As il 82 v 1 _ (hm.on bj) K (enters_of func82 (by kernel_rfl) rfl) (λt W _=>(nf (bJ t) W).mono λE I ⟨G,A⟩=>⟨by rw[G,vx];unfold ep;cases il t<;>rfl,A⟩)).mono λE I ⟨G,A⟩=>by
     unfold xc at G;rw[hq]at G;obtain⟨g,e,hg,aC⟩:=G;exact⟨g,e,by omega,aC,bj.trans (A.mono (by omega))⟩)
   obtain⟨aqA,hS⟩:∃aqA,aqA=zs.mergeSort λx y=>decide (x<=y):=⟨_,rfl⟩;have hSl:aqA.length=zs.length:=by rw[hS,List.length_mergeSort]
   rw[<-hS]at ht;have dE:=yf aqA;have HT:=H ht;have HS:=H hS;unfold bI at C⊢;clear CL hq ht bj iY hm K hS;go_enter func84,ntmps84;go_wp2_with (first
    |(go_at_call 125;refine(C.out).mono ?_;rintro e w1 ⟨g,rfl,hg,aC,ay⟩)
    |(go_at_call 126;refine(Tryz.slices_Sort_int g 0 zs.length zs w1 (IX aC) aC.lt (by omega)).mono ?_;rintro e w2 ⟨rfl,n,os,DV⟩;rw[<-HS.out]at DV;have Fc:=XV (Pp aC hSl n) os;have aN:Below w.heap.size w w2:=(by rw[DV];exact below_grow (ay.trans (IY hg)) os (by rw[size_putRow];exact ay.size));rw[<-DV]at Fc;clear DV)
    |(go_at_call 127;refine(NS hSl (by omega) Fc).mono ?_;rintro e w3 ⟨rfl,agA,aP⟩))
   go_ret;exact⟨.inl ⟨Δ aqA,_,HT.out,rfl,.inr ⟨g,zs.length,_,rfl,agA⟩⟩,aN.trans (aP _ hg)⟩
open Go.Lib
def gV:List UInt8:=[13,10,32]
def rep (s:List UInt8):List UInt8:=replaceK gV [] (count s gV) s
theorem aen (s:List UInt8):replaceAll s gV []=rep s:=by
 unfold replaceAll replace rep;rw[if_neg (by decide)];unfold replaceNum;rw[if_pos (.inl (by decide))]
theorem uI {s:List UInt8}(h:index s gV=-1):rep s=s:=by
 unfold rep;rw[count_miss h];rfl
theorem Dh {s:List UInt8}{i:Nat}(h:index s gV=i):rep s=s.take i++rep (s.drop (i+3)):=by
 unfold rep;rw[count_hit (by decide) h,Nat.add_comm,replaceK_hit _ _ _ _ i h];simp[gV]
theorem Ut (r:List UInt8):index (13::10::32::r) gV=0:=by
 unfold index;rw[if_pos (by simp[gV])]
theorem abL (r:List UInt8):rep (13::10::32::r)=rep r:=by
 rw[Dh (i:=0) (Ut r)];simp
theorem yg {a:UInt8}{r:List UInt8}(h:gV.isPrefixOf (a::r)=false):rep (a::r)=a::rep r:=by
 have e:index (a::r) gV=if index r gV==-1 then -1 else index r gV+1:=by
  rw[index,if_neg (by rw[h];exact Ρ)]
 have Ku:=index_ge r gV;by_cases hm:index r gV=-1
 ·rw[uI hm,uI (by rw[e,hm];rfl)]
 obtain⟨i,hi⟩:∃i:Nat,index r gV=i:=⟨(index r gV).toNat,by omega⟩;rw[Dh hi,Dh (s:=a::r) (i:=i+1) (by rw[e,hi,if_neg (by simp)];rfl)];simp
theorem GH:∀s:List UInt8,iC s=rep s
 |[]=>(uI rfl).symm
 |[a]=>by
  rw[yg (by simp[gV,Β]),uI rfl];rfl
 |[a,b]=>by
  rw[yg (by simp[gV,Β]),yg (by simp[gV,Β]),uI rfl];rfl
 |a::b::c::r=>by
  rw[iC];split
  ·rename_i h;obtain⟨rfl,rfl,rfl⟩:=h;rw[abL,GH r]
  rename_i h;rw[yg,GH (b::c::r)];simp only[gV,Β,ύ,beq_eq_false_iff_ne,Bool.and_true];by_cases G:a=13
  ·by_cases A:b=10
   ·have M:c≠32:=λM=>h ⟨G,A,M⟩;exact .inr (.inr (Ne.symm M))
   exact .inr (.inl (Ne.symm A))
  exact .inl (Ne.symm G)
def crlf:List UInt8:=[13,10]
def dS:List UInt8->List (List UInt8)
 |[]=>[[]]
 |[a]=>[[a]]
 |a::b::r=>if a=13/\b=10 then[]::dS r else glue [a] (dS (b::r))
theorem abM (acc:List UInt8)(l:List (List UInt8)):glue acc l≠[]:=by cases l<;>simp[glue]
theorem Uu (a b:List UInt8)(l:List (List UInt8))(h:l≠[]):glue a (glue b l)=glue (a++b) l:=by
 cases l with
 |nil=>exact absurd rfl h
 |cons x t=>simp[glue]
theorem kH:∀l:List UInt8,dS l≠[]
 |[]=>by simp[dS]
 |[a]=>by simp[dS]
 |a::b::r=>by
  rw[dS];split
  ·simp
  exact abM _ _
theorem Md (acc:List UInt8){l:List (List UInt8)}(h:l≠[]):(acc::l).dropLast=acc::l.dropLast:=by
 cases l with
 |nil=>exact absurd rfl h
 |cons x t=>rfl
theorem yh:∀(u acc:List UInt8),vv u acc=((glue acc (dS u)).dropLast,((glue acc (dS u)).getLast?.getD []).isEmpty)
 |[],acc=>by simp[vv,dS,glue]
 |[a],acc=>by simp[vv,dS,glue]
 |a::b::r,acc=>by
  rw[vv,dS];split
  ·have ih:=yh r [];rw[uF (kH r)]at ih;rw[ih];simp only[glue,List.append_nil];rw[Md acc (kH r)];cases hs:dS r with
   |nil=>exact absurd hs (kH r)
   |cons x t=>simp[Μ]
  rw[yh (b::r) (acc++[a]),Uu _ _ _ (kH _)]
def pF (s:List UInt8):List (List UInt8):=splitK crlf 0 (count s crlf) s
theorem yi {s:List UInt8}(h:index s crlf=-1):pF s=[s]:=by
 unfold pF;rw[count_miss h];rfl
theorem Di {s:List UInt8}{i:Nat}(h:index s crlf=i):pF s=s.take i::pF (s.drop (i+2)):=by
 have L7:¬(index s crlf==-1)=true:=λe=>by have:=beq_iff_eq.1 e;omega
 have et:(index s crlf).toNat=i:=by omega
 unfold pF;rw[count_hit (by decide) h,Nat.add_comm,splitK,if_neg L7,et];simp[crlf]
theorem abN (r:List UInt8):pF (13::10::r)=[]::pF r:=by
 have:index (13::10::r) crlf=(0:Nat):=by unfold index;rw[if_pos (by simp[crlf])];rfl
 rw[Di this];simp
theorem Me {a:UInt8}{r:List UInt8}(h:crlf.isPrefixOf (a::r)=false):pF (a::r)=glue [a] (pF r):=by
 have e:index (a::r) crlf=if index r crlf==-1 then -1 else index r crlf+1:=by
  rw[index,if_neg (by rw[h];exact Ρ)]
 have Ku:=index_ge r crlf;by_cases hm:index r crlf=-1
 ·rw[yi hm,yi (by rw[e,hm];rfl)];rfl
 obtain⟨i,hi⟩:∃i:Nat,index r crlf=i:=⟨(index r crlf).toNat,by omega⟩;rw[Di hi,Di (s:=a::r) (i:=i+1) (by rw[e,hi,if_neg (by simp)];rfl)];simp[glue]
theorem uJ:∀s:List UInt8,dS s=pF s
 |[]=>(yi rfl).symm
 |[a]=>by
  rw[Me (by simp[crlf,Β]),yi rfl];rfl
 |a::b::r=>by
  rw[dS];split
  ·rename_i h;obtain⟨rfl,rfl⟩:=h;rw[abN,uJ r]
  rename_i h;rw[Me,uJ (b::r)];simp only[crlf,Β,ύ,beq_eq_false_iff_ne,Bool.and_true];by_cases G:a=13
  ·exact .inr (Ne.symm (λA=>h ⟨G,A⟩))
  exact .inl (Ne.symm G)
theorem Uv (acc:List UInt8){l:List (List UInt8)}(x:List UInt8)(h:l≠[]):glue acc (l++[x])=glue acc l++[x]:=by
 cases l with
 |nil=>exact absurd rfl h
 |cons y t=>simp[glue]
theorem Dj:∀l:List UInt8,dS (l++[13,10])=dS l++[[]]
 |[]=>by simp[dS]
 |[a]=>by
  show dS (a::13::[10])=_;simp[dS,glue]
 |a::b::r=>by
  show dS (a::b::(r++[13,10]))=_;rw[dS,dS];split
  ·rw[Dj r];rfl
  rw[show b::(r++[13,10])=(b::r)++[13,10]from rfl,Dj (b::r),Uv _ _ (kH _)]
theorem AB:∀u:List UInt8,(dS u).getLast?.getD []=[]->u=[]\/∃i,u=i++[13,10]
 |[],_=>.inl rfl
 |[a],h=>by simp[dS]at h
 |a::b::r,h=>by
  rw[dS]at h;split at h
  ·rename_i Y3;obtain⟨rfl,rfl⟩:=Y3;have hr:(dS r).getLast?.getD []=[]:=by
    cases hs:dS r with
    |nil=>exact absurd hs (kH r)
    |cons x t=>rw[hs,Μ]at h;exact h
   rcases AB r hr with rfl|⟨i,rfl⟩
   ·exact .inr ⟨[],rfl⟩
   exact .inr ⟨13::10::i,rfl⟩
  have hr:(dS (b::r)).getLast?.getD []=[]:=by
   cases hs:dS (b::r)with
   |nil=>exact absurd hs (kH _)
   |cons x t=>
    rw[hs]at h;cases t with
    |nil=>simp[glue]at h
    |cons y t=>simp only[glue]at h;rw[Μ]at h⊢;exact h
  rcases AB (b::r) hr with h0|⟨i,hi⟩
  ·cases h0
  exact .inr ⟨a::i,by rw[hi];rfl⟩
theorem abO (i:List UInt8):vv (i++[13,10]) []=(pF i,true):=by
 rw[yh,uF (kH _),Dj,<-uJ];simp
theorem aeo {u:List UInt8}(h0:u≠[])(h:∀i,u≠i++[13,10]):(vv u []).2=false:=by
 rw[yh,uF (kH _)];cases hs:(dS u).getLast?.getD []with
 |nil=>
  rcases AB u hs with G|⟨i,G⟩
  ·exact absurd G h0
  exact absurd G (h i)
 |cons x t=>rfl
def jQ (s:List UInt8):Option (List (List UInt8)):=if Ϝ (iC s) crlf=true then some (pF (ρ (iC s) crlf))else none
def Uw (s:List UInt8)(x:Int)(w:μ)(E:ϛ)(I:μ):Prop:=
 (match jQ s with
 |none=>E=ε (bx x)
 |some ls=>∃g,E=δ (η (some ⟨g,0,none⟩) ls.length ls.length)/\w.heap.size<=g/\X I g (strs ls) 9)/\Below w.heap.size w I
theorem B4 (l:List UInt8):(Lib.splitB ⟨#[13,10]⟩ 0 (Ω ⟨l.toArray⟩ ⟨#[13,10]⟩) ⟨l.toArray⟩).map Value.string=strs (pF l):=by
 have G:=Lib.splitB_data ⟨#[13,10]⟩ 0 (Ω ⟨l.toArray⟩ ⟨#[13,10]⟩) ⟨l.toArray⟩;have M:(Lib.splitB ⟨#[13,10]⟩ 0 (Ω ⟨l.toArray⟩ ⟨#[13,10]⟩) ⟨l.toArray⟩).map (·.data.toList)=pF l:=G;rw[<-M];unfold strs;rw[List.map_map];apply List.map_congr_left;intro a _;simp
theorem Mf (l:List UInt8):Ω ⟨l.toArray⟩ ⟨#[13,10]⟩+1=(pF l).length:=by
 have G:=Lib.splitB_all ⟨#[13,10]⟩ (by decide) 0 _ ⟨l.toArray⟩ rfl;have A:=congrArg ϟ (B4 l);rw[ϙ,BY]at A;omega
theorem JN (l:List UInt8)(w:μ)(hm:ML w)(K:l.length<=1048576):
 Ζ prog 128 #[θ ⟨l.toArray⟩,θ ⟨#[13,10]⟩] w λe I=>e=δ (η (some ⟨w.heap.size,0,none⟩) (pF l).length (pF l).length)/\I=w.alloc (ι (strs (pF l)).toArray 9):=by
 obtain⟨_,m,hm⟩:=hm;have k:=Tryz.strings_Split ⟨l.toArray⟩ ⟨#[13,10]⟩ m w (by show l.length<4294967281;omega) hm (by decide);rw[B4,Mf]at k;exact k
theorem GI (s:List UInt8)(w:μ)(hm:ML w)(K:s.length<=1048576):
 Ζ prog 166 #[θ ⟨s.toArray⟩,θ ⟨#[13,10,32]⟩,θ ⟨#[]⟩] w λe I=>e=δ (θ ⟨(iC s).toArray⟩)/\Below w.heap.size w I:=by
 obtain⟨_,m,hm⟩:=hm;have k:=Tryz.strings_ReplaceAll ⟨s.toArray⟩ ⟨#[13,10,32]⟩ ⟨#[]⟩ m w (by show s.length<4294967281;omega) hm (by decide) (by show s.length+_*0<=140737488355328;omega);rw[show(⟨s.toArray⟩:ByteArray).data.toList=s from rfl,show(⟨#[13,10,32]⟩:ByteArray).data.toList=gV from rfl,show(⟨#[]⟩:ByteArray).data.toList=[]from rfl,aen,<-GH]at k;exact k
theorem xg:∀(n:Nat) (s:List UInt8),s.length<=n->(iC s).length<=s.length
 |n,[],_=>by simp[iC]
 |n,[a],_=>by simp[iC]
 |n,[a,b],_=>by simp[iC]
 |0,a::b::c::r,h=>by simp at h
 |n+1,a::b::c::r,h=>by
  rw[iC];split
  ·have:=xg n r (by simp at h;omega);simp;omega
  have:=xg n (b::c::r) (by simp at h⊢;omega);simp at this⊢;omega
theorem Rt (s:List UInt8)(x:Int)(w:μ)(hm:ML w)(K:s.length<=1048576):
 Ζ prog 118 #[θ ⟨s.toArray⟩,V Z x] w (Uw s x w):=by
 have CR:=H (GI s w hm K);have hul:=xg s.length s (ν _);have cs:=λW=>Tryz.strings_CutSuffix ⟨(iC s).toArray⟩ ⟨#[13,10]⟩ W (by show(iC s).length<=9223372036854775807;omega);rw[show(⟨(iC s).toArray⟩:ByteArray).data.toList=iC s from rfl,show(⟨#[13,10]⟩:ByteArray).data.toList=crlf from rfl]at cs;cases hq:Ϝ (iC s) crlf with
 |false=>
  have HE:Hid (jQ s=none):=H (by unfold jQ;rw[hq];rfl);rw[hq]at cs;have C:=H cs;clear cs hq;go_enter func118,ntmps118;go_wp2_with (first
   |(go_at_call 166;refine(CR.out).mono ?_;rintro e w1 ⟨rfl,ay⟩)
   |(go_at_call 167;refine(C.out _).mono ?_;rintro e I ⟨rfl,rfl⟩)
   |(go_at_call_of 42 (ξ false);refine eI ?_))
  refine⟨rfl,?_,ay⟩;rw[HE.out]
 |true=>
  have HE:Hid (jQ s=some (pF (ρ (iC s) crlf))):=H (by unfold jQ;rw[hq];rfl);rw[hq]at cs;have htl:(ρ (iC s) crlf).length<=1048576:=by
   unfold ρ;split<;>simp<;>omega
  obtain⟨t,ht⟩:∃t,t=ρ (iC s) crlf:=⟨_,rfl⟩;rw[<-ht]at cs HE htl;have C:=H cs;have HM:=H hm;clear cs hq ht hm;go_enter func118,ntmps118;go_wp2_with (first
   |(go_at_call 166;refine(CR.out).mono ?_;rintro e w1 ⟨rfl,ay⟩)
   |(go_at_call 167;refine(C.out _).mono ?_;rintro e I ⟨rfl,rfl⟩)
   |(go_at_call_of 42 (ξ true);refine dh ?_)
   |(go_at_call 128;refine(JN t _ (HM.out.on ay) htl).mono ?_;rintro e I ⟨rfl,rfl⟩))
  go_ret;refine⟨?_,ay.alloc ay.size _⟩;rw[HE.out];exact⟨_,rfl,ay.size,X.new _ _ _⟩
end
section
section
variable {P:Program} {Q:Exit->ϋ->μ->Prop}
def waits (ops:Array Ε)(j i:Nat):Bool:=((ops[j]?).map λo=>o.after.any λe=>π .any e&&e.on==i).getD false
theorem pG {ops:Array Ε}{i j:Nat}{o:Ε}(ho:ops[j]?=some o)(h:waits ops j i=true):∃e∈o.after,π .any e=true/\e.on=i:=by
 unfold waits at h;rw[ho,Α,Η,Ι]at h;obtain⟨e,he,M⟩:=h;rw[φ,beq_iff_eq]at M;exact⟨e,he,M.1,M.2⟩
def iM (n:Nat)(ops:Array Ε):Bool:=((Ν n).all λi=>(Ν (n+1)).any λk=>decide (i<k)&&waits ops k i)&&(Ν ops.size).all λj=>decide (j<=n)||waits ops j (j-1)
theorem B5 {n:Nat}{ops:Array Ε}(h:iM n ops=true){i:Nat}(hi:i<n):∃k,i<k/\k<=n/\waits ops k i=true:=by
 unfold iM at h;rw[φ,υ]at h;have G:=h.1 i (List.mem_range.2 hi);rw[List.any_eq_true]at G;obtain⟨k,Y,A⟩:=G;rw[φ]at A;exact⟨k,of_decide_eq_true A.1,by have:=List.mem_range.1 Y;omega,A.2⟩
theorem tj {n:Nat}{ops:Array Ε}(h:iM n ops=true){j:Nat}{o:Ε}(ho:ops[j]?=some o)(hn:n<j):∃e∈o.after,π .any e=true/\e.on=j-1:=by
 unfold iM at h;rw[φ,υ,υ]at h;have G:=h.2 j (List.mem_range.2 (Array.getElem?_eq_some_iff.1 ho).1);rw[Bool.or_eq_true]at G;rcases G with G|G
 ·have:=of_decide_eq_true G;omega
 exact pG ho G
theorem eP {l:Array Bool}{i:Nat}(d:Bool)(h:i<l.size):(l.setIfInBounds i true).getD i d=true:=by simp[Array.getD,h]
theorem cb {l:Array Bool}{i k:Nat}(d:Bool)(h:k≠i):(l.setIfInBounds i true).getD k d=l.getD k d:=by
 simp only[Φ,Array.getElem?_setIfInBounds];rw[if_neg (λe=>h e.symm)]
theorem jH {l:Array Bool}{i:Nat}(h:l.getD i false=true):l.getD i true=true:=by
 simp only[Φ]at *
 cases N:l[i]?with
 |none=>rw[N]at h;cases h
 |some b=>rw[N]at h;exact h
theorem IZ {ops:Array Ε}{n:Nat}(hf:forward .any ops=true)(hc:iM n ops=true):
 ∀(t:List Ε) (k fuel:Nat) (listed:Array Bool) (a:ϋ) (w:μ),ops.toList.drop k=t->n<=k->k<=ops.size->listed.size=ops.size->(∀i,i<k->listed.getD i false=true)->(∀i,k<=i->i<ops.size->listed.getD i true=false)->
  t.length<=fuel->wpList P ops Q t a w->wpAny P .any ops Q fuel listed a w
 |[],k,fuel,listed,a,w,hd,hn,Y,hs,G,A,K,h=>by
  have kg:k=ops.size:=by
   have:=congrArg ϟ hd;simp only[Υ,List.length_nil,Array.length_toList]at this;omega
  have hr:Γ .any ops listed=[]:=by
   rw[List.eq_nil_iff_forall_not_mem];intro i hi;obtain⟨q1,q2,_⟩:=cZ hi;have:=jH (G i (by omega));rw[q2]at this;cases this
  cases fuel with
  |zero=>exact⟨hr,h⟩
  |succ f=>exact⟨λ_=>h,λi hi=>by rw[hr]at hi;cases hi⟩
 |o::t,k,fuel,listed,a,w,hd,hn,Y,hs,G,A,K,h=>by
  have cR:ops[k]?=some o:=by
   have:=congrArg (λl:List Ε=>l[0]?) hd;simpa[List.getElem?_drop]using this
  have aR:=(Array.getElem?_eq_some_iff.1 cR).1;cases fuel with
  |zero=>simp at K
  |succ f=>
   have mw:k∈Γ .any ops listed:=oc cR (A k (ν _) aR) (λe he U=>G _ (fC hf cR e he U));refine⟨λhr=>(by rw[hr]at mw;cases mw),λi hi=>?_⟩;obtain⟨q1,q2,oi,q3,q4⟩:=cZ hi;have OI:i=k:=by
    rcases Nat.lt_trichotomy i k with zF|heq|Iu
    ·have:=jH (G i zF);rw[q2]at this;cases this
    ·exact heq
    obtain⟨e,he,U,aG⟩:=tj hc q3 (by omega);have M:=q4 e he U;rw[aG]at M;have:=jH M;rw[A (i-1) (by omega) (by omega)]at this;cases this
   subst OI;have h0:wpOp P ops Q i (wpList P ops Q t) a w:=by
    unfold wpOp;rw[cR];exact h
   refine wpOp_mono (λa' I dN=>IZ hf hc t (i+1) f _ a' I ?_ (by omega) (by omega) (by simp[hs]) ?_ ?_ (by simpa using K) dN) h0
   ·rw[<-List.drop_drop,hd];rfl
   ·intro j hj;by_cases fB:j=i
    ·subst fB;exact eP _ (by omega)
    rw[cb _ fB];exact G j (by omega)
   intro j hj Ux;rw[cb _ (by omega)];exact A j (by omega) Ux
def J9 (P:Program)(ops:Array Ε)(Q:Exit->ϋ->μ->Prop)(t:List Ε):Exit->ϋ->μ->Prop
 | .normal,a,w=>wpList P ops Q t a w
 |e,a,w=>Q e a w
theorem Uy {ops:Array Ε}{t:List Ε}{o:Ε}{a:ϋ}{w:μ}{aqy K':ϋ->μ->Prop}(h:∀a w,aqy a w->K' a w)(hh:o.wp P a w aqy (J9 P ops Q t)):o.wp P a w K' Q:=by
 unfold Oper.wp at *
 generalize(execOp a.eval o).run P w=r at *
 cases r with
 |ok n I=>
  cases n<;>simp only[Oper.upon]at hh⊢<;>
   first
    |exact h _ _ hh
    |exact Calls.mono hh (λe az he=>by cases e<;>first|exact h _ _ he|exact he)
    |exact Rows.mono hh (λ_ _ he=>h _ _ he)
 |halt x I=>cases x<;>simp only[Oper.upon]at hh⊢<;>exact hh
theorem we {ops:Array Ε}(hg:fI ops=true){i:Nat}{o:Ε}(ho:ops[i]?=some o)(y:Nat->Option Bool):Ψ o y=true:=by
 unfold fI at hg;rw[Array.all_eq_true']at hg;have:=hg o (Array.mem_of_getElem? ho);have h:o.guard=none:=by simpa using this
 unfold Ψ;rw[h]
theorem XY {l t:List Ε}(hf:forward .any (l++t).toArray=true)(hg:fI (l++t).toArray=true)(hc:iM l.length (l++t).toArray=true):
 ∀(fuel:Nat) (listed L:Array Bool) (a:ϋ) (w:μ),(∀i o,l.toArray[i]?=some o->listed.getD i false=true->∀e∈o.after,π .any e=true->listed.getD e.on false=true)->listed.size=l.length->L.size=l.length+t.length->(∀i,i<l.length->L.getD i true=listed.getD i true)->(∀i,l.length<=i->i<l.length+t.length->L.getD i true=false)->
  wpAny P .any l.toArray (J9 P (l++t).toArray Q t) fuel listed a w->wpAny P .any (l++t).toArray Q (fuel+t.length) L a w:=by
 have bA:(l++t).toArray.size=l.length+t.length:=by simp
 have qv:∀i,i<l.length->(l++t).toArray[i]?=l.toArray[i]?:=λi hi=>by simp[List.getElem?_append_left hi]
 have mG:forward .any l.toArray=true:=by
  unfold forward;rw[υ];intro i hi;have O6:i<l.length:=by simpa using List.mem_range.1 hi
  unfold forward at hf;rw[υ]at hf;have:=hf i (List.mem_range.2 (by rw[bA];omega));rw[qv i O6]at this;exact this
 have iT:∀(x:Array Bool) (i:Nat),i<x.size->x.getD i true=x.getD i false:=λx i hi=>by rw[bF _ hi,bF _ hi]
 have done:∀(fuel:Nat) (listed L:Array Bool) (a:ϋ) (w:μ),t.length<=fuel->listed.size=l.length->L.size=l.length+t.length->(∀i,i<l.length->L.getD i true=listed.getD i true)->(∀i,l.length<=i->i<l.length+t.length->L.getD i true=false)->
  Γ .any l.toArray listed=[]->wpList P (l++t).toArray Q t a w->wpAny P .any (l++t).toArray Q fuel L a w:=by
  intro fuel listed L a w hfu hs hL G A hr h;have bD:=mZ mG (by simpa using hs) hr;refine IZ hf hc t l.length fuel L a w (by simp) (ν _) (by rw[bA];omega) (by rw[hL,bA]) (λi hi=>?_) (λi hi Mg=>A i hi (by rw[bA]at Mg;exact Mg)) hfu h;rw[<-iT L i (by omega),G i hi,iT listed i (by omega)];exact bD i (by simpa using hi)
 intro fuel
 induction fuel with
 |zero=>
  intro listed L a w _ hs hL G A h;rw[Ϟ];exact done _ listed L a w (ν _) hs hL G A h.1 h.2
 |succ f ih=>
  intro listed L a w hC hs hL G A h;by_cases hr:Γ .any l.toArray listed=[]
  ·exact done _ listed L a w (by omega) hs hL G A hr (h.1 hr)
  obtain⟨j,hj⟩:=List.exists_mem_of_ne_nil _ hr;obtain⟨j1,j2,_⟩:=cZ hj;have Uz:j<l.length:=by simpa using j1
  have fF:L.getD j true=false:=by rw[G j Uz];exact j2
  have e:f+1+t.length=(f+t.length)+1:=by omega
  rw[e];have key:∀i,i∈Γ .any (l++t).toArray L->i∈Γ .any l.toArray listed/\i<l.length:=by
   intro i hi;obtain⟨q1,q2,o,q3,q4⟩:=cZ hi;have jw:i<l.length:=by
    rcases Nat.lt_or_ge i l.length with h'|h'
    ·exact h'
    rcases Ϗ h' with h5|h5
    ·rw[<-h5]at q3;have bD:∀d x,x+d=l.length->0<d->L.getD x false=true:=by
      intro d
      induction d using Nat.strongRecOn with
      |ind d ih=>
       intro x N hd;obtain⟨k,Hs,fD,Mh⟩:=B5 hc (by omega:x<l.length);rcases Ϗ fD with Fe|Fe
       ·rw[Fe]at Mh;obtain⟨e,he,U,aG⟩:=pG q3 Mh;have M:=q4 e he U;rw[aG]at M;exact M
       have EH:=ih (l.length-k) (by omega) k (by omega) (by omega);have cR:(l++t).toArray[k]?=some l[k]:=by rw[qv k Fe];simp
       obtain⟨e,he,U,aG⟩:=pG cR Mh;have h6:=hC k l[k] (by simp) (by rw[<-iT listed k (by omega),<-G k Fe,iT L k (by omega)];exact EH) e he U;rw[aG,<-iT listed x (by omega),<-G x (by omega),iT L x (by omega)]at h6;exact h6
     have:=jH (bD (l.length-j) j (by omega) (by omega));rw[fF]at this;cases this
    obtain⟨e,he,U,aG⟩:=tj hc q3 h5;have M:=q4 e he U;rw[aG]at M;have:=jH M;rw[A (i-1) (by omega) (by rw[bA]at q1;omega)]at this;cases this
   rw[qv i jw]at q3;refine⟨oc q3 (by rw[<-G i jw];exact q2) (λe he U=>?_),jw⟩;have aR:e.on<i:=fC mG q3 e he U;have M:=q4 e he U;have:=jH M;rw[G e.on (by omega),iT listed _ (by omega)]at this;exact this
  refine⟨λjv=>?_,λi hi=>?_⟩
  ·exfalso;obtain⟨q1,q2,o,q3,q4⟩:=cZ hj;have UA:j∈Γ .any (l++t).toArray L:=by
    refine oc (by rw[qv j Uz];exact q3) fF (λe he U=>?_);have aR:e.on<j:=fC mG q3 e he U;have M:=q4 e he U;rw[<-iT L _ (by omega),G _ (by omega),iT listed _ (by omega)];exact M
   rw[jv]at UA;cases UA
  obtain⟨ki,jw⟩:=key i hi;have h4:=h.2 i ki;have ho:l.toArray[i]?=some l[i]:=by simp
  unfold wpOp at h4⊢;rw[qv i jw];rw[ho]at h4⊢;simp only[]at h4⊢;have hw:∀y,Ψ l[i] y=true:=we hg (by rw[qv i jw];exact ho);rw[if_pos (hw _)]at h4⊢;refine h4.imp (Uy λa' I dN=>ih _ _ a' I (λk ok cR ie e he U=>?_) (by simpa using hs) (by simpa using hL) (λk Y=>?_) (λk Y kg=>?_) dN) (λ⟨x,y⟩=>⟨x,y⟩)
  ·obtain⟨_,_,oi,qo,qa⟩:=cZ ki;by_cases kF:k=i
   ·subst kF;rw[qo]at cR;cases cR;by_cases uz:e.on=k
    ·rw[uz];exact eP _ (by omega)
    rw[cb _ uz];exact qa e he U
   rw[cb _ kF]at ie;by_cases uz:e.on=i
   ·rw[uz];exact eP _ (by omega)
   rw[cb _ uz];exact hC k ok cR ie e he U
  ·by_cases kF:k=i
   ·subst kF;rw[eP _ (by omega),eP _ (by omega)]
   rw[cb _ kF,cb _ kF];exact G k Y
  rw[cb _ (by omega)];exact A k Y kg
theorem xh {id:Nat}{a:ϋ}{w:μ}(l t:List Ε)(hm:P.follows .mixedOrders=true)(hf:forward .any (l++t).toArray=true)(hg:fI (l++t).toArray=true)(hc:iM l.length (l++t).toArray=true)
 (h:wpAny P .any l.toArray (J9 P (l++t).toArray Q t) l.length (Ϙ l.length false) a {w with drawn:=w.drawn+1}):(Code.region id (l++t).toArray true).wp P Q a w:=by
 refine wp_region_any hm ?_;have bA:(l++t).toArray.size=l.length+t.length:=by simp
 rw[bA];refine XY hf hg hc _ _ _ _ _ (λi o ho K=>?_) (by simp) (by simp) (λi hi=>?_) (λi hi Mg=>?_) h
 ·rw[bF _ (by simpa using(Array.getElem?_eq_some_iff.1 ho).1)]at K;simp at K
 ·rw[bF _ (by simp;omega),bF _ (by simpa using hi)];simp
 rw[bF _ (by simp;omega)];simp
theorem JO {id:Nat}{a:ϋ}{w:μ}(l t:List Ε)(hm:P.follows .mixedOrders=true)(hf:forward .any (l++t).toArray=true)(hg:fI (l++t).toArray=true)(hc:iM l.length (l++t).toArray=true)(hB:Region.lexB .any l.toArray=true)
 (h:wpQuiet P l.toArray (λI=>∃n,I=w.drewN n) (λa'=>∀I,(∃n,I=w.drewN n)->wpList P (l++t).toArray Q t a' I) l a):(Code.region id (l++t).toArray true).wp P Q a w:=by
 refine xh l t hm hf hg hc ?_;simp only[Region.lexB,φ]at hB;refine wpAny_of_quiet (Q:=λa'=>∀I,(∃n,I=w.drewN n)->J9 P (l++t).toArray Q t .normal a' I) (C:=λI=>∃n,I=w.drewN n) (λ_ I dN h=>h I dN) _ _ _ _ ⟨1,rfl⟩ ?_;exact wpAnyQ_lex (C:=λI=>∃n,I=w.drewN n) (md:=.any) hB.1 l 0 (Ϙ l.length false) a (by simp) (by simpa using hB.2) h
theorem Ru {id:Nat}{a:ϋ}{w:μ}{L l t:List Ε}(n:Nat)(K:L.take n=l)(ht:L.drop n=t)(hm:P.follows .mixedOrders=true)(hf:forward .any L.toArray=true)(hg:fI L.toArray=true)(hc:iM n L.toArray=true)(hn:l.length=n)(hB:Region.lexB .any l.toArray=true)
 (h:wpQuiet P l.toArray (λI=>∃n,I=w.drewN n) (λa'=>∀I,(∃n,I=w.drewN n)->wpList P L.toArray Q t a' I) l a):(Code.region id L.toArray true).wp P Q a w:=by
 subst K ht;have e:L.take n++L.drop n=L:=List.take_append_drop n L;have:=JO (P:=P) (Q:=Q) (id:=id) (a:=a) (w:=w) (L.take n) (L.drop n) hm (by rw[e];exact hf) (by rw[e];exact hg) (by rw[e,hn];exact hc) hB (by rw[e];exact h);rw[e]at this;exact this
end
theorem ia {P:Program}{Q:Exit->ϋ->μ->Prop}{id:Nat}{a:ϋ}{w:μ}{L l t:List Ε}(n:Nat)
 (h:wpQuiet P l.toArray (λI=>∃n,I=w.drewN n) (λa'=>∀I,(∃n,I=w.drewN n)->wpList P L.toArray Q t a' I) l a)
 (K:L.take n=l:=by simp only[List.take_succ_cons,List.take_zero];rfl)(ht:L.drop n=t:=by simp only[List.drop_succ_cons,List.drop_zero];rfl)
 (hm:P.follows .mixedOrders=true:=by kernel_rfl)(hf:forward .any L.toArray=true:=by kernel_rfl)(hg:fI L.toArray=true:=by kernel_rfl)(hc:iM n L.toArray=true:=by kernel_rfl)
 (hn:l.length=n:=by rfl)(hB:Region.lexB .any l.toArray=true:=by kernel_rfl):(Code.region id L.toArray true).wp P Q a w:=Ru n K ht hm hf hg hc hn hB h
end
open Go.Sort
def fp:List (List UInt8):=[[85,73,68],[68,84,83,84,65,82,84],[68,84,69,78,68],[68,85,82,65,84,73,79,78],[82,82,85,76,69],[69,88,68,65,84,69],[82,68,65,84,69],[84,82,65,78,83,80],[83,84,65,84,85,83]]
def Ff:List UInt8:=[66,69,71,73,78,58,86,69,86,69,78,84]
def Rv:List UInt8:=[69,78,68,58,86,69,86,69,78,84]
theorem sT (w:μ):Ζ prog 120 #[] w λE I=>E=δ (η (some ⟨w.heap.size,0,none⟩) 9 9)/\I=w.alloc (ι (strs fp).toArray 9):=by
 go_enter func120,ntmps120;go_wp2;go_ret;exact⟨rfl,rfl⟩
def im (ls:List (List UInt8)):List (List UInt8):=(ls.drop 1).take (ls.length-2)
structure dG (s:List UInt8)(F:Nat->Option (List UInt8)):Prop where
 len:s.length<=2000
 lines:∃ls,jQ s=some ls/\2<=ls.length/\ls.getD 0 []=Ff/\ls.getD (ls.length-1) []=Rv/\ff fp 58 (im ls) (λ_=>none)=some F
 uid:(F 0).isSome=true
 start:(F 1).isSome=true
 one:((F 2).isSome !=(F 3).isSome)=true
def aeq (s:List UInt8)(w:μ)(E:ϛ)(I:μ):Prop:=
 ((∃F g,dG s F/\E=δ (η (some ⟨g,0,none⟩) 9 9)/\w.heap.size<=g/\cX I g F)\/((¬∃F,dG s F)/\E=ε (bx 2)))/\Below w.heap.size w I
theorem UB {w:μ}{g:Nat}{ls:List (List UInt8)}{t:Θ}(h:X w g (strs ls) t):jG w g 1 (im ls):=λj hj=>by
 have Mb:j<ls.length-2/\j+1<ls.length:=by unfold im at hj;rw[ϗ,Υ]at hj;omega
 refine h.cell ?_;unfold strs im;rw[Τ,Nat.add_comm 1 j,Λ Mb.2];simp only[Α];congr 3;simp[List.getD,Mb.1,Mb.2]
theorem UC (ls:List (List UInt8)):(im ls).length=ls.length-2:=by
 unfold im;rw[ϗ,Υ];omega
theorem qw {w:μ}{g k:Nat}{ls:List (List UInt8)}{t:Θ}(h:X w g (strs ls) t)(Y:k<ls.length):w.cell? ⟨g,k,none⟩=some (θ ⟨(ls.getD k []).toArray⟩):=by
 refine h.cell ?_;unfold strs;rw[Τ,Λ Y];simp[List.getD,Y]
theorem XZ (a:List UInt8){l:List (List UInt8)}(h:l≠[]):(glue a l).length=l.length:=by
 cases l with
 |nil=>exact absurd rfl h
 |cons x t=>rfl
theorem Dk:∀l:List UInt8,(dS l).length<=l.length+1
 |[]=>by simp[dS]
 |[a]=>by simp[dS]
 |a::b::r=>by
  rw[dS];split
  ·have:=Dk r;simp;omega
  rw[XZ _ (kH _)];have:=Dk (b::r);simp at this⊢;omega
theorem Rw {s:List UInt8}{ls:List (List UInt8)}(h:jQ s=some ls):ls.length<=s.length+1:=by
 unfold jQ at h;split at h
 ·cases h;rw[<-uJ];have G:=Dk (ρ (iC s) crlf);have A:=xg s.length s (ν _);have M:(ρ (iC s) crlf).length<=(iC s).length:=by
   unfold ρ;split<;>simp
  omega
 cases h
theorem yj:∀(l:List UInt8),∀p∈dS l,p.length<=l.length
 |[],p,h=>by simp[dS]at h;subst h;simp
 |[a],p,h=>by simp[dS]at h;subst h;simp
 |a::b::r,p,h=>by
  rw[dS]at h;split at h
  ·rw[Ϛ]at h;rcases h with rfl|h
   ·simp
   have:=yj r p h;simp;omega
  cases hs:dS (b::r)with
  |nil=>exact absurd hs (kH _)
  |cons x t=>
   have ih:=yj (b::r);rw[hs]at h ih;simp only[glue,Ϛ]at h;rcases h with rfl|h
   ·have:=ih x (by simp);simp at this⊢;omega
   have:=ih p (by simp[h]);simp at this⊢;omega
theorem AD {s:List UInt8}{ls:List (List UInt8)}(h:jQ s=some ls):∀l∈ls,l.length<=s.length:=by
 unfold jQ at h;split at h
 ·cases h;intro l K;rw[<-uJ]at K;have G:=yj _ l K;have A:=xg s.length s (ν _);have M:(ρ (iC s) crlf).length<=(iC s).length:=by
   unfold ρ;split<;>simp
  omega
 cases h
theorem cX.agB {w:μ}{g:Nat}{f:Nat->Option (List UInt8)}(h:cX w g f):cX w.drew g f:=⟨h.lt,h.val,h.there,h.fv,h.ft⟩
theorem AE (s:List UInt8)(w:μ)(hm:ML w)(hs:s.length<=1048576):
 Ζ prog 79 #[θ ⟨s.toArray⟩] w (aeq s w):=by
 by_cases Pq:s.length<=2000
 case neg=>
  have HN:Hid (¬∃F,dG s F):=H (λ⟨F,h⟩=>Pq h.len);have h':decide ((s.length:Int)<=2000)=false:=by simp;omega
  clear hm;go_enter func79,ntmps79;go_wp2_with (go_at_call_of 42 (ξ false);refine eI ?_);exact⟨rfl,.inr ⟨HN.out,rfl⟩,κ _ _⟩
 have aow:(s.length:Int)<=2000:=by omega
 have CL:=Rt s 2 w hm hs;unfold Uw at CL;cases hq:jQ s with
 |none=>
  rw[hq]at CL;have HN:Hid (¬∃F,dG s F):=H (λ⟨F,h⟩=>by obtain⟨ls,G,_⟩:=h.lines;rw[hq]at G;cases G);have C:=H CL;clear CL hq hm;go_enter func79,ntmps79;go_wp2_with (first
   |(go_at_call_of 42 (ξ true);refine dh ?_)
   |(go_at_call 118;refine(C.out).mono ?_;rintro e w1 ⟨rfl,ay⟩))
  exact⟨rfl,.inr ⟨HN.out,rfl⟩,ay⟩
 |some ls=>
  rw[hq]at CL;simp only[]at CL;have C:=H CL;have qX:∀rZ,jQ s=some rZ->rZ=ls:=λrZ h=>by rw[hq]at h;exact(Κ h).symm
  have HM:=H hm;clear CL hm;by_cases rI:2<=ls.length
  case neg=>
   have HN:Hid (¬∃F,dG s F):=H (λ⟨F,h⟩=>by obtain⟨rZ,G,A,_⟩:=h.lines;rw[qX rZ G]at A;exact rI A);have g0:decide ((0:Int)<(ls.length:Int)-1)=false:=by simp;omega
   clear hq qX;go_enter func79,ntmps79;go_wp2_with (first
    |(go_at_call_of 42 (ξ true);refine dh ?_)
    |(go_at_call_of 42 (ξ false);refine eI ?_)
    |(go_at_call 118;refine(C.out).mono ?_;rintro e w1 ⟨⟨g,rfl,hg,aC⟩,ay⟩))
   exact⟨rfl,.inr ⟨HN.out,rfl⟩,ay⟩
  obtain⟨m,lR⟩:∃m,ls.length=m+2:=⟨ls.length-2,by omega⟩;rw[lR]at C;have OG:=Rw hq;have Tz:wrap64 ((m:Int)+2-1)=(m:Int)+1:=by unfold wrap64;omega
  have htn:((m:Int)+1).toNat=m+1:=by omega
  have aox:(0:Int)<(m:Int)+1:=by omega
  have Mi:=H lR;clear rI;by_cases U:ls.getD 0 []=Ff
  case neg=>
   have HN:Hid (¬∃F,dG s F):=H (λ⟨F,h⟩=>by obtain⟨rZ,G,A,M,_⟩:=h.lines;rw[qX rZ G]at M;exact U M);obtain⟨l0,S0⟩:∃l0,l0=ls.getD 0 []:=⟨_,rfl⟩;have q0:(l0==[66,69,71,73,78,58,86,69,86,69,78,84])=false:=by rw[beq_eq_false_iff_ne,S0];exact U
   have Pr:=H S0;clear hq qX U S0 lR;go_enter func79,ntmps79;go_wp2_with (first
    |(go_at_call_of 42 (ξ true);refine dh ?_)
    |(go_at_call_of 42 (ξ false);refine eI ?_)
    |(go_at_call 118;refine(C.out).mono ?_;rintro e w1 ⟨⟨g,rfl,hg,aC⟩,ay⟩;have d0:=qw aC (k:=0) (by rw[Mi.out];omega);rw[<-Pr.out]at d0))
   exact⟨rfl,.inr ⟨HN.out,rfl⟩,ay⟩
  by_cases he:ls.getD (ls.length-1) []=Rv
  case neg=>
   have HN:Hid (¬∃F,dG s F):=H (λ⟨F,h⟩=>by obtain⟨rZ,G,A,M,h4,_⟩:=h.lines;rw[qX rZ G]at h4;exact he h4);rw[show ls.length-1=m+1 from by omega]at he;obtain⟨l1,yP⟩:∃l1,l1=ls.getD (m+1) []:=⟨_,rfl⟩;have q0:(l1==[69,78,68,58,86,69,86,69,78,84])=false:=by rw[beq_eq_false_iff_ne,yP];exact he
   have Z8:=H yP;have Pr:Hid (ls.getD 0 []=[66,69,71,73,78,58,86,69,86,69,78,84]):=H U;clear hq qX U yP lR he;go_enter func79,ntmps79;go_wp2_with (first
    |(go_at_call_of 42 (ξ true);refine dh ?_)
    |(go_at_call_of 42 (ξ false);refine eI ?_)
    |(go_at_call 118;refine(C.out).mono ?_;rintro e w1 ⟨⟨g,rfl,hg,aC⟩,ay⟩;have d0:=qw aC (k:=0) (by rw[Mi.out];omega);rw[Pr.out]at d0;have d1:=qw aC (k:=m+1) (by rw[Mi.out];omega);rw[<-Z8.out]at d1))
   exact⟨rfl,.inr ⟨HN.out,rfl⟩,ay⟩
  have Pr:Hid (ls.getD 0 []=[66,69,71,73,78,58,86,69,86,69,78,84]):=H U;have Z8:Hid (ls.getD (m+1) []=[69,78,68,58,86,69,86,69,78,84]):=H (by rw[show ls.length-1=m+1 from by omega]at he;exact he);have jw:(im ls).length=m:=by rw[UC,lR];omega
  have HIL:=H jw;have Ps:Hid (∀l∈im ls,l.length<=1048576):=H (λl K=>by
   have:l∈ls:=List.mem_of_mem_drop (List.mem_of_mem_take K);have:=AD hq l this;omega)
  have Z9:∀(w1:μ) (g:Nat),Below w.heap.size w w1->X w1 g (strs ls) 9->ML w->Ζ prog 119 #[η (some ⟨g,1,none⟩) m (m+1),θ ⟨#[58]⟩,η (some ⟨w1.heap.size,0,none⟩) 9 9,V Z 2] (w1.drew.alloc (ι (strs fp).toArray 9)) (nL fp 58 (im ls) 2 (w1.drew.alloc (ι (strs fp).toArray 9))):=λw1 g ay aC hmw=>by
   have aN:Below w1.heap.size w1 (w1.drew.alloc (ι (strs fp).toArray 9)):=(κ _ _).drew.alloc (ν _) _;have:=EW g 1 (m+1) w1.heap.size 0 9 fp (im ls) 58 2 (w1.drew.alloc (ι (strs fp).toArray 9)) rfl (by rw[jw];omega) Ps.out (by have:=aC.lt;have:=aN.size;omega) (by show w1.drew.heap.size<_;simp) (UB (aC.on aN)) (i7 w1.drew fp 9);rw[jw]at this;exact this
  cases J:ff fp 58 (im ls) (λ_=>none)with
  |none=>
   have CF:Hid (∀(w1:μ) (g:Nat),Below w.heap.size w w1->X w1 g (strs ls) 9->ML w->Ζ prog 119 #[η (some ⟨g,1,none⟩) m (m+1),θ ⟨#[58]⟩,η (some ⟨w1.heap.size,0,none⟩) 9 9,V Z 2] (w1.drew.alloc (ι (strs fp).toArray 9)) λE I=>E=ε (bx 2)/\Below w.heap.size w I):=
    H (λw1 g ay aC hmw=>(Z9 w1 g ay aC hmw).mono λE I h=>by
     unfold nL at h;rw[J]at h;have aN:Below w1.heap.size w1 (w1.drew.alloc (ι (strs fp).toArray 9)):=(κ _ _).drew.alloc (ν _) _;exact⟨h.1,ay.trans ((aN.trans (h.2.mono aN.size)).mono ay.size)⟩)
   clear Z9;have HN:Hid (¬∃F,dG s F):=H (λ⟨F,h⟩=>by obtain⟨rZ,G,A,M,h4,h5⟩:=h.lines;rw[qX rZ G,J]at h5;cases h5);have HP:=H J;clear hq qX U he lR jw J;go_enter func79,ntmps79;go_wp2_with (first
    |(go_at_call_of 42 (ξ true);refine dh ?_)
    |(go_at_call 118;refine(C.out).mono ?_;rintro e w1 ⟨⟨g,rfl,hg,aC⟩,ay⟩;have d0:=qw aC (k:=0) (by rw[Mi.out];omega);rw[Pr.out]at d0;have d1:=qw aC (k:=m+1) (by rw[Mi.out];omega);rw[Z8.out]at d1))
   refine wp_region_any (by kernel_rfl) ?_;change wpAny _ _ _ _ _ _ _ (ϝ _);refine cW 0 ?_;refine cW 1 ?_;have s1:(1:Int)<=(m:Int)+1:=by omega
   have s2:(m:Int)+1<=(m:Int)+2:=by omega
   have s3:((m:Int)+1-1).toNat=m:=by omega
   refine cW 2 ?_;refine kX 3 λaqy hK=>?_;go_simp;go_wp2_with (go_at_call 120;refine(sT _).mono ?_;rintro e I ⟨rfl,rfl⟩)
   try(refine hK _ _ ?_;clear hK aqy)
   refine kX 4 λaqy hK=>?_;go_simp;go_wp2_with (go_at_call 119;refine(CF.out w1 g ay aC HM.out).mono ?_;rintro e w3 ⟨rfl,al⟩);exact⟨rfl,.inr ⟨HN.out,rfl⟩,al⟩
  |some F=>
   have HP:=H J;have CF:Hid (∀(w1:μ) (g:Nat),Below w.heap.size w w1->X w1 g (strs ls) 9->ML w->Ζ prog 119 #[η (some ⟨g,1,none⟩) m (m+1),θ ⟨#[58]⟩,η (some ⟨w1.heap.size,0,none⟩) 9 9,V Z 2] (w1.drew.alloc (ι (strs fp).toArray 9)) λE I=>∃g2,E=δ (η (some ⟨g2,0,none⟩) 9 9)/\w.heap.size<=g2/\cX I g2 F/\Below w.heap.size w I):=
    H (λw1 g ay aC hmw=>(Z9 w1 g ay aC hmw).mono λE I h=>by
     unfold nL at h;rw[J]at h;have aN:Below w1.heap.size w1 (w1.drew.alloc (ι (strs fp).toArray 9)):=(κ _ _).drew.alloc (ν _) _;obtain⟨⟨g2,G,A,M⟩,h4⟩:=h;have zA:=ay.size;have rB:=aN.size;exact⟨g2,G,by omega,M,ay.trans ((aN.trans (h4.mono aN.size)).mono ay.size)⟩)
   have huF:∀F',dG s F'->F'=F:=λF' h=>by obtain⟨rZ,G,A,M,h4,h5⟩:=h.lines;rw[qX rZ G,J]at h5;exact(Κ h5).symm
   have bD:dG s F↔((F 0).isSome=true/\(F 1).isSome=true/\((F 2).isSome !=(F 3).isSome)=true):=
    ⟨λh=>⟨h.uid,h.start,h.one⟩,λ⟨G,A,M⟩=>⟨Pq,⟨ls,hq,by omega,U,he,J⟩,G,A,M⟩⟩
   have B3:Hid (¬((F 0).isSome=true/\(F 1).isSome=true/\((F 2).isSome !=(F 3).isSome)=true)->¬∃F,dG s F):=H (λhn ⟨F',h⟩=>by rw[huF F' h]at h;exact hn (bD.1 h));have HA:=H bD.2;clear Z9 hq qX U he lR jw J huF bD;go_enter func79,ntmps79;go_wp2_with (first
    |(go_at_call_of 42 (ξ true);refine dh ?_)
    |(go_at_call 118;refine(C.out).mono ?_;rintro e w1 ⟨⟨g,rfl,hg,aC⟩,ay⟩;have d0:=qw aC (k:=0) (by rw[Mi.out];omega);rw[Pr.out]at d0;have d1:=qw aC (k:=m+1) (by rw[Mi.out];omega);rw[Z8.out]at d1))
   refine wp_region_any (by kernel_rfl) ?_;change wpAny _ _ _ _ _ _ _ (ϝ _);refine cW 0 ?_;refine cW 1 ?_;have s1:(1:Int)<=(m:Int)+1:=by omega
   have s2:(m:Int)+1<=(m:Int)+2:=by omega
   have s3:((m:Int)+1-1).toNat=m:=by omega
   refine cW 2 ?_;refine kX 3 λaqy hK=>?_;go_simp;go_wp2_with (go_at_call 120;refine(sT _).mono ?_;rintro e I ⟨rfl,rfl⟩)
   try(refine hK _ _ ?_;clear hK aqy)
   refine kX 4 λaqy hK=>?_;go_simp;go_wp2_with (go_at_call 119;refine(CF.out w1 g ay aC HM.out).mono ?_;rintro e w3 ⟨g2,rfl,KN,hF,al⟩)
   try(refine hK _ _ ?_;clear hK aqy)
   refine cW 5 ?_;refine wpAny_done (by kernel_rfl) ?_ _;have x0:=hF.there 0 (by decide);have x1:=hF.there 1 (by decide);have x2:=hF.there 2 (by decide);have x3:=hF.there 3 (by decide);generalize(F 0).isSome=b0 at *
   generalize(F 1).isSome=b1 at *
   generalize(F 2).isSome=b2 at *
   generalize(F 3).isSome=b3 at *
   have HF:=H hF;clear hF d0 d1 aC C CF;cases b0 with
   |false=>
    have HN:Hid (¬∃F,dG s F):=H (B3.out (λh=>by cases h.1));clear B3 HA;go_wp2_with (go_at_call_of 42 (ξ false);refine eI ?_);exact⟨rfl,.inr ⟨HN.out,rfl⟩,al⟩
   |true=>
    cases b1 with
    |false=>
     have HN:Hid (¬∃F,dG s F):=H (B3.out (λh=>by cases h.2.1));clear B3 HA;go_wp2_with (first
      |(go_at_call_of 42 (ξ true);refine dh ?_)
      |(go_at_call_of 42 (ξ false);refine eI ?_))
     exact⟨rfl,.inr ⟨HN.out,rfl⟩,al⟩
    |true=>
     go_wp2_with (go_at_call_of 42 (ξ true);refine dh ?_);refine ia 9 ?_
     iterate 9 (go_big_quiet_step (fail))
     refine wpQuiet_nil ?_;intro _ dN;obtain⟨nq,rfl⟩:=dN;have Zo:=below_drewN al nq;cases b2<;>cases b3
     case true.true|false.false=>
      have HN:Hid (¬∃F,dG s F):=H (B3.out (λh=>by cases h.2.2));clear B3 HA;go_wp2_with (go_at_call_of 42 (ξ false);refine eI ?_);exact⟨rfl,.inr ⟨HN.out,rfl⟩,Zo⟩
     all_goals
      have HI:Hid (dG s F):=H (HA.out (by simp));clear B3 HA;go_wp2_with (go_at_call_of 42 (ξ true);refine dh ?_);go_ret;exact⟨.inl ⟨F,g2,HI.out,rfl,KN,⟨HF.out.lt,HF.out.val,HF.out.there,HF.out.fv,HF.out.ft⟩⟩,Zo⟩
def jR (u:ByteArray)(st ln:Int)(hr:Bool)(rc:List Value)(ex xt:Value)(tr:Bool)(k:Int):List Value:=[θ u,V Z st,V Z ln,.bool hr]++rc++[ex,xt,.bool tr,V Z k]
def zb (u:ByteArray)(st ln:Int)(hr:Bool)(rc:List Value)(ex xt:Value)(tr:Bool)(k:Int):Value:=.agg (jR u st ln hr rc ex xt tr k).toArray
def eD:List Value:=jR ⟨#[]⟩ 0 0 false bw (η none 0 0) (η none 0 0) false 0
structure Fg (F:Nat->Option (List UInt8))(tr:Bool)(k:Int):Prop where
 uid:kk (bJ ((F 0).getD []))=true
 tr:Az (F 7)=some tr
 st:AA (F 8)=some k
def EV (F:Nat->Option (List UInt8))(v:Value):Prop:=∃tr k,Fg F tr k/\v=zb (bJ ((F 0).getD [])) 0 0 false bw (η none 0 0) (η none 0 0) tr k
def EB (F:Nat->Option (List UInt8))(w:μ)(b:Nat):Prop:=∃tr k,Fg F tr k/\X w b (jR (bJ ((F 0).getD [])) 0 0 false bw (η none 0 0) (η none 0 0) tr k) 99
def pH (i:Nat):Nat:=if i=14 then 4 else 7+i
def NE (g:Nat)(F:Nat->Option (List UInt8))(B:Nat)(i:Nat)(v:Value)(w:μ):Prop:=match i with
 |0|5|9=>v=η (some ⟨g,0,none⟩) 9 9
 |1|2=>v=ζ (some ⟨g,0*2,none⟩)
 |3=>v=θ (bJ ((F 0).getD []))
 |4=>kk (bJ ((F 0).getD []))=true/\v=θ (bJ ((F 0).getD []))
 |6=>v=ζ (some ⟨g,7*2,none⟩)
 |7=>v=bI (F 7)
 |8=>∃z,Az (F 7)=some z/\v=.bool z
 |10=>v=ζ (some ⟨g,8*2,none⟩)
 |11=>v=bI (F 8)
 |12=>∃z,AA (F 8)=some z/\v=V Z z
 |13=>EV F v
 |14=>∃b,v=ζ (some ⟨b,0,none⟩)/\B<=b/\∃cs,cs.length=18/\X w b cs 99
 |_=>True
def GE (g:Nat)(F:Nat->Option (List UInt8))(B:Nat)(i:Nat)(a:ϋ)(w:μ):Prop:=
 if i=15 then ∃b,a.eval (.tmp 4)=ζ (some ⟨b,0,none⟩)/\B<=b/\EB F w b else NE g F B i (a.eval (.tmp (pH i))) w
theorem NE.gr {g:Nat}{F:Nat->Option (List UInt8)}{B i:Nat}{v:Value}{w I:μ}(h:NE g F B i v w)(gr:Gr 99 w I):NE g F B i v I:=by
 unfold NE at h⊢;split<;>first
  |exact h
  |exact trivial
  |(obtain⟨b,G,A,cs,M,h4⟩:=h;obtain⟨lB,h5,h6⟩:=gr.2 b cs h4;exact⟨b,G,A,lB,h5.trans M,h6⟩)
theorem X0 {i j:Nat}(hi:i<15)(hj:j<15)(h:j≠i):pH j≠pH i:=by
 unfold pH;split<;>split<;>omega
structure JE (W:μ)(r g:Nat)(a:ϋ)(w:μ):Prop where
 size:a.tmps.size=61
 defers:a.defers=[]
 s2:a.eval (.tmp 2)=ζ (some ⟨r,0,none⟩)
 s3:a.eval (.tmp 3)=η (some ⟨g,0,none⟩) 9 9
 below:Below W.heap.size W w
theorem JE.put {W:μ}{r g:Nat}{a:ϋ}{w I:μ}{i:Nat}{v:Value}(h:JE W r g a w)(U:Below W.heap.size W I):JE W r g (a.put (some (pH i)) v) I:=
 ⟨by rw[fW];exact h.size,by rw[put_defers];exact h.defers,by rw[cY (by unfold pH;split<;>omega)];exact h.s2,by rw[cY (by unfold pH;split<;>omega)];exact h.s3,U⟩
def wg (ops:Array Ε):Bool:=((ops[15]?).map λo=>(Ν 15).all λi=>o.after.any λe=>π .any e&&e.on==i).getD true
theorem Dl {ops:Array Ε}{o:Ε}{i:Nat}(h:wg ops=true)(ho:ops[15]?=some o)(hi:i<15):∃e∈o.after,π .any e=true/\e.on=i:=by
 unfold wg at h;rw[ho,Α,Η,υ]at h;have:=h i (List.mem_range.2 hi);rw[Ι]at this;obtain⟨e,he,U⟩:=this;simp only[φ,beq_iff_eq]at U;exact⟨e,he,U.1,U.2⟩
theorem lf {W:μ}{r g:Nat}{F:Nat->Option (List UInt8)}{a:ϋ}{w I:μ}{i n:Nat}{v:Value}{dst:Option Nat}{ops:Array Ε}(hd:dst=some (pH i))(hi:i<15)(h:JE W r g a w)(U:Below w.heap.size w I)(hn:NE g F n i v I)
 (Ma:wg ops=true)(bA:ops.size=16):
 JE W r g (a.put dst v) I/\GE g F n i (a.put dst v) I/\∀j oj,ops[j]?=some oj->j≠i->(∀e∈oj.after,π .any e=true->e.on≠i)->GE g F n j a w->GE g F n j (a.put dst v) I:=by
 subst hd;have hs:pH i<a.tmps.size:=by rw[h.size];unfold pH;split<;>omega
 refine⟨h.put (h.below.trans (U.mono h.below.size)),?_,λj oj jg fB gN hg=>?_⟩
 ·unfold GE;rw[if_neg (by omega),gO hs];exact hn
 by_cases hj:j=15
 ·subst hj;obtain⟨e,he,nM,heq⟩:=Dl Ma jg hi;exact absurd heq (gN e he nM)
 have Mb:j<16:=by rw[<-bA];exact(Array.getElem?_eq_some_iff.1 jg).1
 unfold GE at hg⊢;rw[if_neg hj]at hg⊢;rw[cY (X0 hi (by omega) fB)];exact hg.gr (Gr.of U)
theorem jl {g:Nat}{F:Nat->Option (List UInt8)}{B i:Nat}{a:ϋ}{w:μ}(h:GE g F B i a w)(hi:i≠15):NE g F B i (a.eval (.tmp (pH i))) w:=by
 unfold GE at h;rw[if_neg hi]at h;exact h
theorem NT (u:ByteArray)(tr:Bool)(k:Int)(w:μ):(Instr.build 99 #[(0,θ u),(7,.bool tr),(8,V Z k)]).run prog w=.ok (zb u 0 0 false bw (η none 0 0) (η none 0 0) tr k) w:=by
 kernel_rfl
theorem NU {g k:Nat}{F:Nat->Option (List UInt8)}{w:μ}(hF:cX w g F)(Y:k<9):(τ 9 (ζ (some ⟨g,k*2,none⟩))).run prog w=.ok (θ ⟨((F k).getD []).toArray⟩) w:=by
 have c0:=hF.val k Y;go_simp
theorem JP (p:Addr)(w:μ)(J:p.spot=none):(ϊ 126 (ζ (some p)) 0).run prog w=.ok (ζ (some p)) w:=by
 obtain⟨b,o,sp⟩:=p;simp only[]at J;subst J;go_simp
theorem UD {W w:μ}{b:Nat}{cs:List Value}{F:Nat->Option (List UInt8)}{v:Value}(aC:X w b cs 99)(zE:cs.length=18)(hB:W.heap.size<=b)(gQ:Below W.heap.size W w)(hv:EV F v):
 ∃I,(Ο 99 (ζ (some ⟨b,0,none⟩)) v).run prog w=.ok () I/\Below W.heap.size W I/\Gr 99 w I/\EB F I b:=by
 obtain⟨tr,k,hP,rfl⟩:=hv
 match cs,zE with
 |[x0,x1,x2,x3,x4,x5,x6,x7,x8,x9,x10,x11,x12,x13,x14,x15,x16,x17],_=>
  have c0:=aC.cell (k:=0) rfl;have c1:=aC.cell (k:=1) rfl;have c2:=aC.cell (k:=2) rfl;have c3:=aC.cell (k:=3) rfl;have c4:=aC.cell (k:=4) rfl;have c5:=aC.cell (k:=5) rfl;have c6:=aC.cell (k:=6) rfl;have c7:=aC.cell (k:=7) rfl;have c8:=aC.cell (k:=8) rfl;have c9:=aC.cell (k:=9) rfl;have c10:=aC.cell (k:=10) rfl;have c11:=aC.cell (k:=11) rfl;have c12:=aC.cell (k:=12) rfl;have c13:=aC.cell (k:=13) rfl;have c14:=aC.cell (k:=14) rfl;have c15:=aC.cell (k:=15) rfl;have c16:=aC.cell (k:=16) rfl;have c17:=aC.cell (k:=17) rfl;have f0:=aC.free (k:=0);have f1:=aC.free (k:=1);have f2:=aC.free (k:=2);have f3:=aC.free (k:=3);have f4:=aC.free (k:=4);have f5:=aC.free (k:=5);have f6:=aC.free (k:=6);have f7:=aC.free (k:=7);have f8:=aC.free (k:=8);have f9:=aC.free (k:=9);have f10:=aC.free (k:=10);have f11:=aC.free (k:=11);have f12:=aC.free (k:=12);have f13:=aC.free (k:=13);have f14:=aC.free (k:=14);have f15:=aC.free (k:=15);have f16:=aC.free (k:=16);have f17:=aC.free (k:=17);have r0:=aC.set (k:=0) (θ (bJ ((F 0).getD [])));have r1:=r0.set (k:=1) (V Z 0);have r2:=r1.set (k:=2) (V Z 0);have r3:=r2.set (k:=3) (.bool false);have r4:=r3.set (k:=4) (V Z 0);have r5:=r4.set (k:=5) (V Z 0);have r6:=r5.set (k:=6) (V Z 0);have r7:=r6.set (k:=7) (V Z 0);have r8:=r7.set (k:=8) (η none 0 0);have r9:=r8.set (k:=9) (η none 0 0);have r10:=r9.set (k:=10) (η none 0 0);have Ee:=r10.set (k:=11) (η none 0 0);have r12:=Ee.set (k:=12) (V Z 0);have r13:=r12.set (k:=13) (θ ⟨#[]⟩);have r14:=r13.set (k:=14) (η none 0 0);have r15:=r14.set (k:=15) (η none 0 0);have r16:=r15.set (k:=16) (.bool tr);have r17:=r16.set (k:=17) (V Z k);have g:Gr 99 w _:=((((((((((((((((((Gr.set (i:=0) aC (θ (bJ ((F 0).getD [])))).trans (Gr.set (i:=1) r0 (V Z 0))).trans (Gr.set (i:=2) r1 (V Z 0))).trans (Gr.set (i:=3) r2 (.bool false))).trans (Gr.set (i:=4) r3 (V Z 0))).trans (Gr.set (i:=5) r4 (V Z 0))).trans (Gr.set (i:=6) r5 (V Z 0))).trans (Gr.set (i:=7) r6 (V Z 0))).trans (Gr.set (i:=8) r7 (η none 0 0))).trans (Gr.set (i:=9) r8 (η none 0 0))).trans (Gr.set (i:=10) r9 (η none 0 0))).trans (Gr.set (i:=11) r10 (η none 0 0))).trans (Gr.set (i:=12) Ee (V Z 0))).trans (Gr.set (i:=13) r12 (θ ⟨#[]⟩))).trans (Gr.set (i:=14) r13 (η none 0 0))).trans (Gr.set (i:=15) r14 (η none 0 0))).trans (Gr.set (i:=16) r15 (.bool tr))).trans (Gr.set (i:=17) r16 (V Z k)));refine⟨_,?_,((((((((((((((((((gQ.setCell (p:=⟨b,0,none⟩) hB (θ (bJ ((F 0).getD [])))).setCell (p:=⟨b,1,none⟩) hB (V Z 0)).setCell (p:=⟨b,2,none⟩) hB (V Z 0)).setCell (p:=⟨b,3,none⟩) hB (.bool false)).setCell (p:=⟨b,4,none⟩) hB (V Z 0)).setCell (p:=⟨b,5,none⟩) hB (V Z 0)).setCell (p:=⟨b,6,none⟩) hB (V Z 0)).setCell (p:=⟨b,7,none⟩) hB (V Z 0)).setCell (p:=⟨b,8,none⟩) hB (η none 0 0)).setCell (p:=⟨b,9,none⟩) hB (η none 0 0)).setCell (p:=⟨b,10,none⟩) hB (η none 0 0)).setCell (p:=⟨b,11,none⟩) hB (η none 0 0)).setCell (p:=⟨b,12,none⟩) hB (V Z 0)).setCell (p:=⟨b,13,none⟩) hB (θ ⟨#[]⟩)).setCell (p:=⟨b,14,none⟩) hB (η none 0 0)).setCell (p:=⟨b,15,none⟩) hB (η none 0 0)).setCell (p:=⟨b,16,none⟩) hB (.bool tr)).setCell (p:=⟨b,17,none⟩) hB (V Z k)),g,tr,k,hP,r17⟩;clear r0 r1 r2 r3 r4 r5 r6 r7 r8 r9 r10 Ee r12 r13 r14 r15 r16 r17 g gQ hP aC;unfold zb jR bw bX;go_simp
structure JL (w0:μ)(r g b:Nat)(F:Nat->Option (List UInt8))(st:Int)(tr:Bool)(k:Int)(a:ϋ)(w:μ):Prop where
 size:a.tmps.size=61
 defers:a.defers=[]
 s2:a.eval (.tmp 2)=ζ (some ⟨r,0,none⟩)
 s3:a.eval (.tmp 3)=η (some ⟨g,0,none⟩) 9 9
 s4:a.eval (.tmp 4)=ζ (some ⟨b,0,none⟩)
 fields:cX w g F
 ml:ML w
 row:∃z,X w b (jR (bJ ((F 0).getD [])) st z false bw (η none 0 0) (η none 0 0) tr k) 99
 res:X w r eD 99
 below:Below w0.heap.size w0 w
def qY (i:Nat):Nat:=27+i
def NL (g b:Nat)(F:Nat->Option (List UInt8))(st:Int)(i:Nat)(v:Value):Prop:=match i with
 |0=>v=ζ (some ⟨b,1,none⟩)
 |1=>v=V Z st
 |2|5=>v=η (some ⟨g,0,none⟩) 9 9
 |3=>v=ζ (some ⟨g,2*2,none⟩)
 |4=>v=bI (F 2)
 |6=>v=ζ (some ⟨g,3*2,none⟩)
 |7=>v=bI (F 3)
 |8=>∃z,mO st (F 2) (F 3)=some z/\v=V Z z
 |9=>v=ζ (some ⟨b,2,none⟩)
 |_=>True
def GL (g b:Nat)(F:Nat->Option (List UInt8))(st:Int)(tr:Bool)(k:Int)(i:Nat)(a:ϋ)(w:μ):Prop:=
 if i=10 then ∃z,mO st (F 2) (F 3)=some z/\X w b (jR (bJ ((F 0).getD [])) st z false bw (η none 0 0) (η none 0 0) tr k) 99 else NL g b F st i (a.eval (.tmp (qY i)))
theorem JL.put {w0:μ}{r g b:Nat}{F:Nat->Option (List UInt8)}{st:Int}{tr:Bool}{k:Int}{a:ϋ}{w I:μ}{i:Nat}{v:Value}(h:JL w0 r g b F st tr k a w)(U:Below w.heap.size w I):JL w0 r g b F st tr k (a.put (some (qY i)) v) I:=by
 obtain⟨z,hz⟩:=h.row;exact⟨by rw[fW];exact h.size,by rw[put_defers];exact h.defers,by rw[cY (by unfold qY;omega)];exact h.s2,by rw[cY (by unfold qY;omega)];exact h.s3,by rw[cY (by unfold qY;omega)];exact h.s4,
  h.fields.on U,h.ml.on U,⟨z,hz.on U⟩,h.res.on U,h.below.trans (U.mono h.below.size)⟩
def wh (ops:Array Ε):Bool:=((ops[10]?).map λo=>(Ν 10).all λi=>o.after.any λe=>π .any e&&e.on==i).getD true
theorem Dm {ops:Array Ε}{o:Ε}{i:Nat}(h:wh ops=true)(ho:ops[10]?=some o)(hi:i<10):∃e∈o.after,π .any e=true/\e.on=i:=by
 unfold wh at h;rw[ho,Α,Η,υ]at h;have:=h i (List.mem_range.2 hi);rw[Ι]at this;obtain⟨e,he,U⟩:=this;simp only[φ,beq_iff_eq]at U;exact⟨e,he,U.1,U.2⟩
theorem qZ {w0:μ}{r g b:Nat}{F:Nat->Option (List UInt8)}{st:Int}{tr:Bool}{k:Int}{a:ϋ}{w I:μ}{i:Nat}{v:Value}{dst:Option Nat}{ops:Array Ε}(hd:dst=some (qY i))(hi:i<10)(h:JL w0 r g b F st tr k a w)(U:Below w.heap.size w I)(hn:NL g b F st i v)
 (Ma:wh ops=true)(bA:ops.size=11):
 JL w0 r g b F st tr k (a.put dst v) I/\GL g b F st tr k i (a.put dst v) I/\∀j oj,ops[j]?=some oj->j≠i->(∀e∈oj.after,π .any e=true->e.on≠i)->GL g b F st tr k j a w->GL g b F st tr k j (a.put dst v) I:=by
 subst hd;have hs:qY i<a.tmps.size:=by rw[h.size];unfold qY;omega
 refine⟨h.put U,?_,λj oj jg fB gN hg=>?_⟩
 ·unfold GL;rw[if_neg (by omega),gO hs];exact hn
 by_cases hj:j=10
 ·subst hj;obtain⟨e,he,nM,heq⟩:=Dm Ma jg hi;exact absurd heq (gN e he nM)
 have Mb:j<11:=by rw[<-bA];exact(Array.getElem?_eq_some_iff.1 jg).1
 unfold GL at hg⊢;rw[if_neg hj]at hg⊢;rw[cY (by unfold qY;omega)];exact hg
theorem nN {g b:Nat}{F:Nat->Option (List UInt8)}{st:Int}{tr:Bool}{k:Int}{i:Nat}{a:ϋ}{w:μ}(h:GL g b F st tr k i a w)(hi:i≠10):NL g b F st i (a.eval (.tmp (qY i))):=by
 unfold GL at h;rw[if_neg hi]at h;exact h
theorem NV (b:Nat)(w:μ):(ϊ 99 (ζ (some ⟨b,0,none⟩)) 1).run prog w=.ok (ζ (some ⟨b,1,none⟩)) w:=by
 go_simp
theorem NW (b:Nat)(w:μ):(ϊ 99 (ζ (some ⟨b,0,none⟩)) 2).run prog w=.ok (ζ (some ⟨b,2,none⟩)) w:=by
 go_simp
theorem NY {b k:Nat}{z:Int}{w:μ}(h:w.cell? ⟨b,k,none⟩=some (V Z z)):(τ 3 (ζ (some ⟨b,k,none⟩))).run prog w=.ok (V Z z) w:=by
 go_simp
theorem Mj {b k:Nat}{y:Value}{z:Int}{w:μ}(h:w.cell? ⟨b,k,none⟩=some y)(hf:w.frozen? ⟨b,k,none⟩=false):(Ο 3 (ζ (some ⟨b,k,none⟩)) (V Z z)).run prog w=.ok () (w.setCell ⟨b,k,none⟩ (V Z z)):=by
 go_simp
theorem cX.other {w:μ}{g b i:Nat}{f:Nat->Option (List UInt8)}(h:cX w g f)(dp:g≠b)(v:Value):cX (w.setCell ⟨b,i,none⟩ v) g f:=by
 have e:(w.setCell ⟨b,i,none⟩ v).heap[g]?=w.heap[g]?:=ώ _ _ _ _ dp;exact⟨by rw[fZ];exact h.lt,λk Y=>by rw[Ξ (a:=⟨g,k*2,none⟩) e];exact h.val k Y,λk Y=>by rw[Ξ (a:=⟨g,k*2+1,none⟩) e];exact h.there k Y,
  λk Y=>by rw[World.frozen?_of_block (a:=⟨g,k*2,none⟩) e];exact h.fv k Y,λk Y=>by rw[World.frozen?_of_block (a:=⟨g,k*2+1,none⟩) e];exact h.ft k Y⟩
theorem ML.other {w:μ}{b i:Nat}(h:ML w)(dp:1≠b)(v:Value):ML (w.setCell ⟨b,i,none⟩ v):=by
 obtain⟨G,m,A⟩:=h;exact⟨by rw[fZ];exact G,m,by rw[Ξ (a:=⟨1,0,none⟩) (ώ _ _ _ _ dp)];exact A⟩
end Go.Proofs.YtchdfdmjihnhkaaGreatDoor
