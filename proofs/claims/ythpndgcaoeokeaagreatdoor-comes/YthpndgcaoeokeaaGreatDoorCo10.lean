import Derived.Test.YthpndgcaoeokeaaGreatDoorCo9
import Derived.Shelf.Abstract
set_option maxRecDepth 100000
set_option maxHeartbeats 8000000
open Go.IntKind renaming i64→Z
open Go.Value renaming int→V,pointer→ε
open Go.Ending renaming returned→δ
open Go renaming World→ζ,TypeId→θ,Calls→ι,Act→μ,Oper→ν,FuncId→ξ,Ending→ο
open Go.Region renaming binds→η,wanted→κ
namespace Go.Proofs.YthpndgcaoeokeaaGreatDoor
open Tryz
open Go.RowKit
section
variable {P:Program} {ops:Array ν} {Q:Exit→μ→ζ→Prop}
theorem aj {o:ν}{a:μ}{w w':ζ}{K:μ→ζ→Prop}{v:Value}(h:(execOp a.eval o).run P w= .ok (.value v) w')(hK:K (a.put o.dst v) w'):Oper.wp P o a w K Q:=by
 unfold Oper.wp;rw[h];exact hK
theorem rT {o:ν}{a:μ}{w w':ζ}{K:μ→ζ→Prop}(h:(execOp a.eval o).run P w= .ok .skip w')(hK:K (a.put o.dst undef) w'):Oper.wp P o a w K Q:=by
 unfold Oper.wp;rw[h];exact hK
theorem dK {o:ν}{a:μ}{w w':ζ}{K:μ→ζ→Prop}{f:ξ}{args:Array Value}{R:ο→ζ→Prop}(h:(execOp a.eval o).run P w= .ok (.enter f args) w')(hc:ι P f args w' R)
 (h1:∀v aA,R (δ v) aA→K (a.put o.dst v) aA)(h2:∀c aA,R (.panicked c) aA→Q (.panic c) a aA)(h3:∀aA,¬R .outgrown aA):Oper.wp P o a w K Q:=by
 unfold Oper.wp;rw[h];refine Calls.mono hc fun e aA he=>?_;cases e with
 |returned v=>exact h1 v aA he
 |panicked c=>exact h2 c aA he
 |outgrown=>exact absurd he (h3 aA)
def lO (ops:Array ν):Bool:=ops.all fun o=>o.guard.isNone
theorem fT {id:Nat}{a:μ}{w:ζ}(G:Nat→μ→ζ→Prop)(I:μ→ζ→Prop)(hm:P.follows .mixedOrders=true)(hf:forward .any ops=true)(hg:lO ops=true)
 (H:∀i o,ops[i]?=some o→∀a w,I a w→(∀e∈o.after,η .any e=true→G e.on a w)→Oper.wp P o a w (fun a' w'=>I a' w'∧G i a' w'∧∀j oj,ops[j]?=some oj→j≠i→(∀e∈oj.after,η .any e=true→e.on≠i)→G j a w→G j a' w') Q)
 (D:∀a w,I a w→(∀i,i<ops.size→G i a w)→Q .normal a w)(hI:I a {w with drawn:=w.drawn+1}):(Code.region id ops true).wp P Q a w:=by
 refine wP G I hm hf (fun i o a w ho hI hG=>?_) D hI;refine wpOp_step ho fun K' Hb=>?_;have Kl:o.guard=none:=by
  unfold lO at hg;rw[Array.all_eq_true']at hg;have:=hg o (Array.mem_of_getElem? ho);simpa using this
 have hw:κ o (yielded ops a.tmps)=true:=by unfold κ;rw[Kl]
 rw[if_pos hw];exact Oper.wp_mono Hb (H i o ho a w hI hG)
end
theorem bL {a:μ}{d k:Nat}{v:Value}(h:k≠d):(a.put (some d) v).eval (.tmp k)=a.eval (.tmp k):=by
 show(a.tmps.setIfInBounds d v).getD k undef=a.tmps.getD k undef;simp[Array.getD_eq_getD_getElem?,Ne.symm h]
theorem fh {a:μ}{d:Nat}{v:Value}(h:d<a.tmps.size):(a.put (some d) v).eval (.tmp d)=v:=by
 show(a.tmps.setIfInBounds d v).getD d undef=v;simp[Array.getD_eq_getD_getElem?,h]
theorem eB {a:μ}{d:Option Nat}{v:Value}:(a.put d v).tmps.size=a.tmps.size:=by
 cases d with
 |none=>rfl
 |some d=>show(a.tmps.setIfInBounds d v).size=_;simp
theorem put_defers {a:μ}{d:Option Nat}{v:Value}:(a.put d v).defers=a.defers:=by
 cases d<;>rfl
def wQ (f:Nat→Value):Nat→Nat→List Value
 |0,_=>[]
 |n+1,k=>f k::wQ f n (k+1)
theorem Ej (f:Nat→Value):∀(n k i:Nat),i<n→(wQ f n k)[i]?=some (f (k+i))
 |0,_,_,h=>by omega
 |n+1,k,0,_=>rfl
 |n+1,k,i+1,h=>by
  rw[wQ,List.getElem?_cons_succ,Ej f n (k+1) i (by omega)];congr 2;omega
theorem Ek (f:Nat→Value):∀n k:Nat,(wQ f n k).length=n
 |0,_=>rfl
 |n+1,k=>by rw[wQ,List.length_cons,Ek f n]
theorem jo (n:Nat)(a:μ)(h:a.tmps.size=n)(hd:a.defers=[]):∃f:Nat→Value,a=⟨(wQ f n 0).toArray,[]⟩∧∀k,a.eval (.tmp k)=f k:=by
 obtain⟨t,d⟩:=a;simp only[]at h hd;subst hd;refine⟨fun k=>t.getD k undef,?_,fun k=>rfl⟩;congr 1;apply Array.ext';apply List.ext_getElem?;intro i;by_cases hi:i<n
 ·rw[Ej _ n 0 i hi,Nat.zero_add];simp[Array.getD,h,hi]
 ·rw[List.getElem?_eq_none (by rw[Array.length_toList];omega),List.getElem?_eq_none (by rw[Ek];omega)]
end Go.Proofs.YthpndgcaoeokeaaGreatDoor
namespace Go.Proofs.YthpndgcaoeokeaaGreatDoor
open Tryz
open Go.RowKit Go.Sort
def dR (x:Int)(o:Option Int):ο:=match o with|none=> .panicked (bN x)|some z=> δ (V Z z)
def oh (f:Option (List UInt8)):Option Int:=(idx iD (f.getD [])).map fun k:Nat=>(k:Int)
def wE (v:List UInt8):Option Int:=(idx dE v).map fun k:Nat=>(k:Int)
def mK (lo hi:Int)(v:List UInt8):Option Int:=if lP v lo hi=true then some (bU v)else none
def qQ (most:Int)(v:List UInt8):Option Int:=if cT v most=0 then none else some (cT v most)
def wF (f:Option (List UInt8)):Option Int:=match f with|none=>some 0|some v=>mK 1 1000 v
def wG (f:Option (List UInt8)):Option Int:=match f with|none=>some 9223372036854775807|some v=>if fs (bH v)=true then some (eI (bH v))else none
def ea (v:List UInt8):Option Int:=if fs (bH v)=true then some (eI (bH v))else none
theorem Ob (ns:List (List UInt8))(v:List UInt8)(x:Int):B5 ns v x=dR x ((idx ns v).map fun k:Nat=>(k:Int)):=by
 unfold B5 dR;cases idx ns v<;>rfl
theorem FT (v:List UInt8)(lo hi x:Int):El v lo hi x=dR x (mK lo hi v):=by
 unfold El dR mK;cases lP v lo hi<;>rfl
theorem Oc (v:List UInt8)(most x:Int):Em v most x=dR x (qQ most v):=by
 unfold Em dR qQ;by_cases h:cT v most=0
 ·rw[if_pos h,if_pos h]
 ·rw[if_neg h,if_neg h]
theorem U6 (f:Option (List UInt8)):Km f=dR 3 (wF f):=by
 unfold Km wF;cases f with
 |none=>rfl
 |some v=>exact FT v 1 1000 3
theorem U7 (f:Option (List UInt8)):Kn f=dR 3 (wG f):=by
 unfold Kn wG dR;cases f with
 |none=>rfl
 |some v=>simp only[];split<;>rfl
theorem uC (v:List UInt8):rj (bH v)=dR 1 (ea v):=by
 unfold rj ea dR;split<;>rfl
def qg (rd:List UInt8→Option Int)(f:Option (List UInt8))(x:Int)(w:ζ)(E:ο)(w':ζ):Prop:=
 ((∃zs v,dJ rd f=some zs∧E= δ v∧cN w' v zs)∨(dJ rd f=none∧E= .panicked (bN x)))∧Below w.heap.size w w'
def Rm (f:Option (List UInt8))(w:ζ)(E:ο)(w':ζ):Prop:=
 ((∃zs v,dJ lg f=some zs∧E= δ v∧iB w' v zs)∨(dJ lg f=none∧E= .panicked (bN 3)))∧Below w.heap.size w w'
theorem zL (fn:ξ)(x:Int)(w:ζ):
 ι prog 136 #[aZ none, V Z x, .func (.func fn) #[] #[]] w fun E w'=>E= δ (.slice none 0 0)∧Below w.heap.size w w':=by
 unfold aZ;go_enter func136,ntmps136;go_wp2;go_ret;exact⟨rfl,(Below.refl _ _).alloc (Nat.le_refl _) _⟩
theorem Nq (fn:ξ)(x:Int)(w:ζ):
 ι prog 147 #[aZ none, V Z x, .func (.func fn) #[] #[]] w fun E w'=>E= δ (.slice none 0 0)∧Below w.heap.size w w':=by
 unfold aZ;go_enter func147,ntmps147;go_wp2;go_ret;exact⟨rfl,(Below.refl _ _).alloc (Nat.le_refl _) _⟩
theorem pS (rd:List UInt8→Option Int)(fn:ξ)(f:Option (List UInt8))(x:Int)(w:ζ)(hm:ML w)(hl:(f.getD []).length≤1048576)(hen:Enters prog fn)
 (hr:∀(t:List UInt8) (W:ζ),t.length≤1048576→ι prog fn #[.string ⟨t.toArray⟩] W fun E w'=>E=dR x (rd t)∧Below W.heap.size W w'):
 ι prog 136 #[aZ f, V Z x, .func (.func fn) #[] #[]] w (qg rd f x w):=by
 cases f with
 |none=>exact(zL fn x w).mono fun E w' ⟨h1,h2⟩=>⟨.inl ⟨[],_,rfl,h1, .inl ⟨rfl,rfl⟩⟩,h2⟩
 |some v=>
  refine(zM rd fn v x w hm hl hen (fun t W ht=>(hr t W ht).mono fun E w' ⟨h1,h2⟩=>⟨by rw[h1];unfold dR;cases rd t<;>rfl,h2⟩)).mono fun E w' ⟨h1,h2⟩=>⟨?_,h2⟩;unfold wR at h1;cases hq:dJ rd (some v)with
  |none=>rw[hq]at h1;exact .inr ⟨rfl,h1⟩
  |some zs=>
   rw[hq]at h1;obtain⟨g,e,_,ax⟩:=h1;exact .inl ⟨zs,_,rfl,e, .inr ⟨g,rfl,ax⟩⟩
theorem PN (f:Option (List UInt8))(w:ζ)(hm:ML w)(hl:(f.getD []).length≤1048576):
 ι prog 147 #[aZ f, V Z 3, .func (.func 148) #[] #[]] w (Rm f w):=by
 cases f with
 |none=>exact(Nq _ 3 w).mono fun E w' ⟨h1,h2⟩=>⟨.inl ⟨[],_,rfl,h1, .inl ⟨rfl,rfl⟩⟩,h2⟩
 |some v=>
  refine(Nr lg 148 v 3 w hm hl (enters_of func148 (by kernel_rfl) rfl) (fun t W ht=>(En t W ht).mono fun E w' ⟨h1,h2⟩=>⟨by rw[h1];unfold ze;cases lg t<;>rfl,h2⟩)).mono fun E w' ⟨h1,h2⟩=>⟨?_,h2⟩;unfold zN at h1;cases hq:dJ lg (some v)with
  |none=>rw[hq]at h1;exact .inr ⟨rfl,h1⟩
  |some zs=>
   rw[hq]at h1;obtain⟨g,e,_,ax⟩:=h1;exact .inl ⟨zs,_,rfl,e, .inr ⟨g,rfl,ax⟩⟩
theorem lQ {n:Nat}(h:n≤1048576):n≤maxLen:=by unfold maxLen;omega
theorem PQ (f:Option (List UInt8))(w:ζ)(hm:ML w)(hl:(f.getD []).length≤1048576):
 ι prog 136 #[aZ f, V Z 3, .func (.func 145) #[] #[]] w (qg (mK 1 12) f 3 w):=
 pS _ _ f 3 w hm hl (enters_of func145 (by kernel_rfl) rfl) (fun t W ht=>(JB t W (lQ ht)).mono fun E w' ⟨h1,h2⟩=>⟨by rw[h1,FT],h2⟩)
theorem BY (f:Option (List UInt8))(w:ζ)(hm:ML w)(hl:(f.getD []).length≤1048576):
 ι prog 136 #[aZ f, V Z 3, .func (.func 146) #[] #[]] w (qg (qQ 31) f 3 w):=
 pS _ _ f 3 w hm hl (enters_of func146 (by kernel_rfl) rfl) (fun t W ht=>(Dn t W (lQ ht)).mono fun E w' ⟨h1,h2⟩=>⟨by rw[h1,Oc],h2⟩)
theorem PR (f:Option (List UInt8))(w:ζ)(hm:ML w)(hl:(f.getD []).length≤1048576):
 ι prog 136 #[aZ f, V Z 3, .func (.func 149) #[] #[]] w (qg (qQ 366) f 3 w):=
 pS _ _ f 3 w hm hl (enters_of func149 (by kernel_rfl) rfl) (fun t W ht=>(JD t W (lQ ht)).mono fun E w' ⟨h1,h2⟩=>⟨by rw[h1,Oc],h2⟩)
theorem FU (f:Option (List UInt8))(w:ζ)(hm:ML w)(hl:(f.getD []).length≤1048576):
 ι prog 136 #[aZ f, V Z 1, .func (.func 78) #[] #[]] w (qg ea f 1 w):=
 pS _ _ f 1 w hm hl (enters_of func78 (by kernel_rfl) rfl) (fun t W _=>(mx (bH t) W).mono fun E w' ⟨h1,h2⟩=>⟨by rw[h1,uC],h2⟩)
theorem Eo (f:Option (List UInt8))(o:List UInt8)(w:ζ):ι prog 134 #[aZ f, .string ⟨o.toArray⟩] w fun E w'=>E= δ (.string ⟨(f.getD o).toArray⟩)∧Below w.heap.size w w':=by
 cases f with
 |none=>exact aeC _ _ w
 |some v=>exact aa2 _ _ w
structure au where
 fq:Int
 iv:Int
 ct:Int
 un:Int
 ms:List Int
 mds:List Int
 wks:List (Int×Int)
 pls:List Int
 ws:Int
structure kH (F:Nat→Option (List UInt8))(r:au):Prop where
 fq:oh (F 0)=some r.fq
 iv:mK 1 100 ((F 1).getD [49])=some r.iv
 ct:wF (F 2)=some r.ct
 un:wG (F 3)=some r.un
 ms:dJ (mK 1 12) (F 4)=some r.ms
 mds:dJ (qQ 31) (F 5)=some r.mds
 wks:dJ lg (F 6)=some r.wks
 pls:dJ (qQ 366) (F 7)=some r.pls
 ws:wE ((F 8).getD [77,79])=some r.ws
theorem aL {P:Program}{w w':ζ}{v:Value}{s:Sem Value}(h:s.run P w= .ok v w'):(do pure (Next.value (←s)):Sem Next).run P w= .ok (.value v) w':=by
 simp[h]
theorem py {P:Program}{w w':ζ}{s:Sem Unit}(h:s.run P w= .ok () w'):(do s;pure Next.skip:Sem Next).run P w= .ok .skip w':=by
 simp[h]
theorem dH (g:Nat)(k:Nat)(hk:k<9)(w:ζ):(Instr.indexAt 118 (.slice (some ⟨g,0,none⟩) 9 9) (V Z (k:Int))).run prog w= .ok (ε (some ⟨g,k * 2,none⟩)) w:=by
 have lR:(k:Int)<9:=by omega
 go_simp
theorem dk {g k:Nat}{F:Nat→Option (List UInt8)}{w:ζ}(hF:cQ w g F)(hk:k<9):(Instr.loadAt 122 (ε (some ⟨g,k * 2,none⟩))).run prog w= .ok (aZ (F k)) w:=by
 have c0:=hF.val k hk;have c1:=hF.there k hk;unfold aZ;go_simp
def bW (fq iv ct un:Int)(m md wk pl:Value)(ws:Int)(tx:ByteArray):List Value:=[V Z fq, V Z iv, V Z ct, V Z un,m,md,wk,pl, V Z ws, .string tx]
def gw (F:Nat→Option (List UInt8)):ByteArray:=⟨(Lib.join (bO F 9) [59]).toArray⟩
def RV (F:Nat→Option (List UInt8))(w:ζ)(v:Value):Prop:=
 ∃(r:au) (m md wk pl:Value),kH F r∧v=aY r.fq r.iv r.ct r.un m md wk pl r.ws (gw F)∧cN w m r.ms∧cN w md r.mds∧iB w wk r.wks∧cN w pl r.pls
def RB (F:Nat→Option (List UInt8))(w:ζ)(b:Nat):Prop:=
 ∃(r:au) (m md wk pl:Value),kH F r∧af w b (bW r.fq r.iv r.ct r.un m md wk pl r.ws (gw F)) 76∧cN w m r.ms∧cN w md r.mds∧iB w wk r.wks∧cN w pl r.pls
def Gr (T:θ)(w w':ζ):Prop:=(∀k cs t,t≠T→af w k cs t→af w' k cs t)∧∀k cs,af w k cs T→∃lS,lS.length=cs.length∧af w' k lS T
theorem Gr.of {T:θ}{w w':ζ}(hb:Below w.heap.size w w'):Gr T w w':=⟨fun _ _ _ _ h=>h.on hb,fun _ cs h=>⟨cs,rfl,h.on hb⟩⟩
theorem Gr.refl (T:θ)(w:ζ):Gr T w w:=⟨fun _ _ _ _ h=>h,fun _ cs h=>⟨cs,rfl,h⟩⟩
theorem Gr.trans {T:θ}{w w' aA:ζ}(h:Gr T w w')(h':Gr T w' aA):Gr T w aA:=⟨fun k cs t ht hr=>h'.1 k cs t ht (h.1 k cs t ht hr),fun k cs hr=>by
 obtain⟨c1,e1,r1⟩:=h.2 k cs hr;obtain⟨c2,e2,r2⟩:=h'.2 k c1 r1;exact⟨c2,e2.trans e1,r2⟩⟩
theorem af.ne {w:ζ}{b k:Nat}{cs lS:List Value}{t t':θ}(h:af w b cs t)(h':af w k lS t')(ht:t≠t'):k≠b:=fun e=>by
 subst e;unfold af at h h';rw[h]at h';cases h';exact ht rfl
theorem Gr.set {T:θ}{w:ζ}{b i:Nat}{cs:List Value}(h:af w b cs T)(v:Value):Gr T w (w.setCell ⟨b,i,none⟩ v):=by
 refine⟨fun k c t ht hr=>hr.other (h.ne hr (Ne.symm ht)) v,fun k c hr=>?_⟩;by_cases e:k=b
 ·subst e;exact⟨c.set i v,by simp,hr.set v⟩
 ·exact⟨c,rfl,hr.other e v⟩
theorem cN.gr {T:θ}{w w':ζ}{v:Value}{zs:List Int}(hT:3≠T)(h:cN w v zs)(g:Gr T w w'):cN w' v zs:=h.imp id fun⟨k,h1,h2⟩=>⟨k,h1,g.1 _ _ _ hT h2⟩
theorem iB.gr {T:θ}{w w':ζ}{v:Value}{zs:List (Int×Int)}(hT:183≠T)(h:iB w v zs)(g:Gr T w w'):iB w' v zs:=h.imp id fun⟨k,h1,h2⟩=>⟨k,h1,g.1 _ _ _ hT h2⟩
def oq (i:Nat):Nat:=if i=41 then 4 else 21+i
def NN (g:Nat)(F:Nat→Option (List UInt8))(B:Nat)(i:Nat)(v:Value)(w:ζ):Prop:=match i with
 |0|4|9|13|17|21|25|29|33|38=>v= .slice (some ⟨g,0,none⟩) 9 9
 |1=>v= ε (some ⟨g,0 * 2,none⟩)
 |5=>v= ε (some ⟨g,1 * 2,none⟩)
 |10=>v= ε (some ⟨g,2 * 2,none⟩)
 |14=>v= ε (some ⟨g,3 * 2,none⟩)
 |18=>v= ε (some ⟨g,4 * 2,none⟩)
 |22=>v= ε (some ⟨g,5 * 2,none⟩)
 |26=>v= ε (some ⟨g,6 * 2,none⟩)
 |30=>v= ε (some ⟨g,7 * 2,none⟩)
 |34=>v= ε (some ⟨g,8 * 2,none⟩)
 |2=>v=aZ (F 0)
 |6=>v=aZ (F 1)
 |11=>v=aZ (F 2)
 |15=>v=aZ (F 3)
 |19=>v=aZ (F 4)
 |23=>v=aZ (F 5)
 |27=>v=aZ (F 6)
 |31=>v=aZ (F 7)
 |35=>v=aZ (F 8)
 |3=>∃z,oh (F 0)=some z∧v= V Z z
 |7=>v= .string ⟨((F 1).getD [49]).toArray⟩
 |8=>∃z,mK 1 100 ((F 1).getD [49])=some z∧v= V Z z
 |12=>∃z,wF (F 2)=some z∧v= V Z z
 |16=>∃z,wG (F 3)=some z∧v= V Z z
 |20=>∃zs,dJ (mK 1 12) (F 4)=some zs∧cN w v zs
 |24=>∃zs,dJ (qQ 31) (F 5)=some zs∧cN w v zs
 |28=>∃zs,dJ lg (F 6)=some zs∧iB w v zs
 |32=>∃zs,dJ (qQ 366) (F 7)=some zs∧cN w v zs
 |36=>v= .string ⟨((F 8).getD [77,79]).toArray⟩
 |37=>∃z,wE ((F 8).getD [77,79])=some z∧v= V Z z
 |39=>v= .string (gw F)
 |40=>RV F w v
 |41=>∃b,v= ε (some ⟨b,0,none⟩)∧B≤b∧∃cs,cs.length=10∧af w b cs 76
 |_=>True
def GG (g:Nat)(F:Nat→Option (List UInt8))(B:Nat)(i:Nat)(a:μ)(w:ζ):Prop:=
 if i=42 then ∃b,a.eval (.tmp 4)= ε (some ⟨b,0,none⟩)∧B≤b∧RB F w b else NN g F B i (a.eval (.tmp (oq i))) w
theorem pT:(3:θ)≠76:=by decide
theorem PT:(183:θ)≠76:=by decide
theorem RV.gr {F:Nat→Option (List UInt8)}{w w':ζ}{v:Value}(h:RV F w v)(g:Gr 76 w w'):RV F w' v:=by
 obtain⟨r,m,md,wk,pl,h1,h2,h3,h4,h5,h6⟩:=h;exact⟨r,m,md,wk,pl,h1,h2,h3.gr pT g,h4.gr pT g,h5.gr PT g,h6.gr pT g⟩
theorem NN.gr {g:Nat}{F:Nat→Option (List UInt8)}{B i:Nat}{v:Value}{w w':ζ}(h:NN g F B i v w)(gr:Gr 76 w w'):NN g F B i v w':=by
 unfold NN at h⊢;split<;>first
  |exact h
  |exact trivial
  |(obtain⟨zs,h1,h2⟩:=h;exact⟨zs,h1,h2.gr pT gr⟩)
  |(obtain⟨zs,h1,h2⟩:=h;exact⟨zs,h1,h2.gr PT gr⟩)
  |exact RV.gr h gr
  |(obtain⟨b,h1,h2,cs,h3,h4⟩:=h;obtain⟨lS,h5,h6⟩:=gr.2 b cs h4;exact⟨b,h1,h2,lS,h5.trans h3,h6⟩)
theorem U8 {i j:Nat}(hi:i<42)(hj:j<42)(h:j≠i):oq j≠oq i:=by
 unfold oq;split<;>split<;>omega
structure II (W:ζ)(r g:Nat)(a:μ)(w:ζ):Prop where
 size:a.tmps.size=66
 defers:a.defers=[]
 s2:a.eval (.tmp 2)= ε (some ⟨r,0,none⟩)
 s3:a.eval (.tmp 3)= .slice (some ⟨g,0,none⟩) 9 9
 below:Below W.heap.size W w
theorem II.put {W:ζ}{r g:Nat}{a:μ}{w w':ζ}{i:Nat}{v:Value}(h:II W r g a w)(hb:Below W.heap.size W w'):II W r g (a.put (some (oq i)) v) w':=
 ⟨by rw[eB];exact h.size,by rw[put_defers];exact h.defers,by rw[bL (by unfold oq;split<;>omega)];exact h.s2,by rw[bL (by unfold oq;split<;>omega)];exact h.s3,hb⟩
def xX (ops:Array ν):Bool:=((ops[42]?).map fun o=>(List.range 42).all fun i=>o.after.any fun e=>η .any e&&e.on==i).getD true
theorem Ep {ops:Array ν}{o:ν}{i:Nat}(h:xX ops=true)(ho:ops[42]?=some o)(hi:i<42):∃e∈o.after,η .any e=true∧e.on=i:=by
 unfold xX at h;rw[ho,Option.map_some,Option.getD_some,List.all_eq_true]at h;have:=h i (List.mem_range.2 hi);rw[Array.any_eq_true']at this;obtain⟨e,he,hb⟩:=this;simp only[Bool.and_eq_true,beq_iff_eq]at hb;exact⟨e,he,hb.1,hb.2⟩
theorem bp {W:ζ}{r g:Nat}{F:Nat→Option (List UInt8)}{a:μ}{w w':ζ}{i n:Nat}{v:Value}{dst:Option Nat}{ops:Array ν}(hd:dst=some (oq i))(hi:i<42)(h:II W r g a w)(hb:Below w.heap.size w w')(hn:NN g F n i v w')
 (Ko:xX ops=true)(bu:ops.size=43):
 II W r g (a.put dst v) w'∧GG g F n i (a.put dst v) w'∧∀j oj,ops[j]?=some oj→j≠i→(∀e∈oj.after,η .any e=true→e.on≠i)→GG g F n j a w→GG g F n j (a.put dst v) w':=by
 subst hd;have hs:oq i<a.tmps.size:=by rw[h.size];unfold oq;split<;>omega
 refine⟨h.put (h.below.trans (hb.mono h.below.size)),?_,fun j oj gy lE Kp hg=>?_⟩
 ·unfold GG;rw[if_neg (by omega),fh hs];exact hn
 ·by_cases hj:j=42
  ·subst hj;obtain⟨e,he,jg,heq⟩:=Ep Ko gy hi;exact absurd heq (Kp e he jg)
  ·have Er:j<43:=by rw[←bu];exact(Array.getElem?_eq_some_iff.1 gy).1
   unfold GG at hg⊢;rw[if_neg hj]at hg⊢;rw[bL (U8 hi (by omega) lE)];exact hg.gr (Gr.of hb)
end Go.Proofs.YthpndgcaoeokeaaGreatDoor
