import Derived.Test.YthpndgcaoeokeaaGreatDoorCv3
import Derived.Sort.WalkA6
set_option maxRecDepth 100000
set_option maxHeartbeats 16000000
open Go.IntKind renaming i64->Z
open Go.Value renaming int->V,pointer->ζ,slice->η,string->θ
open Go.Ending renaming returned->δ,panicked->ε
open Go.Obj renaming cells->ι
open Go.RowKit.Below renaming refl->κ,heap_setCell->Γ
open Nat renaming le_refl->μ,zero_add->Ζ
open Go renaming World->ν,Calls->ξ,TypeId->π,Regrown->τ,Oper->Κ
open Go.Calls renaming regrown_of->ο
open List renaming getElem?_eq_getElem->ρ,size_toArray->Η,not_mem_nil->Θ,mem_cons->Ι
open Go.Instr renaming loadAt->υ,indexAt->χ,fieldAt->ψ,storeAt->Ε
open Go.World renaming size_alloc->φ,cell?_of_block->ω,setCell->Δ
open Go.RowKit renaming Hid->Α
open Option.some renaming inj->Β
namespace Go.Proofs.YthpndgcaoeokeaaGreatDoor
open Tryz
open Go.RowKit
section
open Go.Sort
structure JL (w0:ν)(r g b:Nat)(F:Nat->Option (List UInt8))(st:Int)(tr:Bool)(k:Int)(a:Act)(w:ν):Prop where
 size:a.tmps.size=61
 defers:a.defers=[]
 s2:a.eval (.tmp 2)=ζ (some ⟨r,0,none⟩)
 s3:a.eval (.tmp 3)=η (some ⟨g,0,none⟩) 9 9
 s4:a.eval (.tmp 4)=ζ (some ⟨b,0,none⟩)
 fields:cV w g F
 ml:ML w
 row:∃z,M w b (ke (bU ((F 0).getD [])) st z false bu (η none 0 0) (η none 0 0) tr k) 79
 res:M w r fB 79
 below:Below w0.heap.size w0 w
def rZ (i:Nat):Nat:=27+i
def NL (g b:Nat)(F:Nat->Option (List UInt8))(st:Int)(i:Nat)(v:Value):Prop:=match i with
 |0=>v=ζ (some ⟨b,1,none⟩)
 |1=>v=V Z st
 |2|5=>v=η (some ⟨g,0,none⟩) 9 9
 |3=>v=ζ (some ⟨g,2*2,none⟩)
 |4=>v=bE (F 2)
 |6=>v=ζ (some ⟨g,3*2,none⟩)
 |7=>v=bE (F 3)
 |8=>∃z,lY st (F 2) (F 3)=some z/\v=V Z z
 |9=>v=ζ (some ⟨b,2,none⟩)
 |_=>True
def GL (g b:Nat)(F:Nat->Option (List UInt8))(st:Int)(tr:Bool)(k:Int)(i:Nat)(a:Act)(w:ν):Prop:=
 if i=10 then ∃z,lY st (F 2) (F 3)=some z/\M w b (ke (bU ((F 0).getD [])) st z false bu (η none 0 0) (η none 0 0) tr k) 79 else NL g b F st i (a.eval (.tmp (rZ i)))
theorem JL.put {w0:ν}{r g b:Nat}{F:Nat->Option (List UInt8)}{st:Int}{tr:Bool}{k:Int}{a:Act}{w Y:ν}{i:Nat}{v:Value}(h:JL w0 r g b F st tr k a w)(U:Below w.heap.size w Y):JL w0 r g b F st tr k (a.put (some (rZ i)) v) Y:=by
 obtain⟨z,hz⟩:=h.row;exact⟨by rw[gm];exact h.size,by rw[put_defers];exact h.defers,by rw[cZ (by unfold rZ;omega)];exact h.s2,by rw[cZ (by unfold rZ;omega)];exact h.s3,by rw[cZ (by unfold rZ;omega)];exact h.s4,
  h.fields.on U,h.ml.on U,⟨z,hz.on U⟩,h.res.on U,h.below.trans (U.mono h.below.size)⟩
def wT (ops:Array Κ):Bool:=((ops[10]?).map λo=>(List.range 10).all λi=>o.after.any λe=>Region.binds .any e&&e.on==i).getD true
theorem Eg {ops:Array Κ}{o:Κ}{i:Nat}(h:wT ops=true)(ho:ops[10]?=some o)(S:i<10):∃e∈o.after,Region.binds .any e=true/\e.on=i:=by
 unfold wT at h;rw[ho,Option.map_some,Option.getD_some,List.all_eq_true]at h;have:=h i (List.mem_range.2 S);rw[Array.any_eq_true']at this;obtain⟨e,he,U⟩:=this;simp only[Bool.and_eq_true,beq_iff_eq]at U;exact⟨e,he,U.1,U.2⟩
theorem sb {w0:ν}{r g b:Nat}{F:Nat->Option (List UInt8)}{st:Int}{tr:Bool}{k:Int}{a:Act}{w Y:ν}{i:Nat}{v:Value}{dst:Option Nat}{ops:Array Κ}(hd:dst=some (rZ i))(S:i<10)(h:JL w0 r g b F st tr k a w)(U:Below w.heap.size w Y)(hn:NL g b F st i v)
 (M5:wT ops=true)(bp:ops.size=11):
 JL w0 r g b F st tr k (a.put dst v) Y/\GL g b F st tr k i (a.put dst v) Y/\∀j oj,ops[j]?=some oj->j≠i->(∀e∈oj.after,Region.binds .any e=true->e.on≠i)->GL g b F st tr k j a w->GL g b F st tr k j (a.put dst v) Y:=by
 subst hd;have hs:rZ i<a.tmps.size:=by rw[h.size];unfold rZ;omega
 refine⟨h.put U,?_,λj oj jm fA iH hg=>?_⟩
 ·unfold GL;rw[if_neg (by omega),gR hs];exact hn
 by_cases hj:j=10
 ·subst hj;obtain⟨e,he,mW,heq⟩:=Eg M5 jm S;exact absurd heq (iH e he mW)
 have M6:j<11:=by rw[<-bp];exact(Array.getElem?_eq_some_iff.1 jm).1
 unfold GL at hg⊢;rw[if_neg hj]at hg⊢;rw[cZ (by unfold rZ;omega)];exact hg
theorem oo {g b:Nat}{F:Nat->Option (List UInt8)}{st:Int}{tr:Bool}{k:Int}{i:Nat}{a:Act}{w:ν}(h:GL g b F st tr k i a w)(S:i≠10):NL g b F st i (a.eval (.tmp (rZ i))):=by
 unfold GL at h;rw[if_neg S]at h;exact h
theorem OV (b:Nat)(w:ν):(ψ 79 (ζ (some ⟨b,0,none⟩)) 1).run prog w=.ok (ζ (some ⟨b,1,none⟩)) w:=by
 go_simp
theorem OW (b:Nat)(w:ν):(ψ 79 (ζ (some ⟨b,0,none⟩)) 2).run prog w=.ok (ζ (some ⟨b,2,none⟩)) w:=by
 go_simp
theorem OX {b k:Nat}{z:Int}{w:ν}(h:w.cell? ⟨b,k,none⟩=some (V Z z)):(υ 3 (ζ (some ⟨b,k,none⟩))).run prog w=.ok (V Z z) w:=by
 go_simp
theorem Nf {b k:Nat}{y:Value}{z:Int}{w:ν}(h:w.cell? ⟨b,k,none⟩=some y)(hf:w.frozen? ⟨b,k,none⟩=false):(Ε 3 (ζ (some ⟨b,k,none⟩)) (V Z z)).run prog w=.ok () (w.setCell ⟨b,k,none⟩ (V Z z)):=by
 go_simp
theorem cV.other {w:ν}{g b i:Nat}{f:Nat->Option (List UInt8)}(h:cV w g f)(df:g≠b)(v:Value):cV (w.setCell ⟨b,i,none⟩ v) g f:=by
 have e:(w.setCell ⟨b,i,none⟩ v).heap[g]?=w.heap[g]?:=Γ _ _ _ _ df;exact⟨by rw[fZ];exact h.lt,λk I=>by rw[ω (a:=⟨g,k*2,none⟩) e];exact h.val k I,λk I=>by rw[ω (a:=⟨g,k*2+1,none⟩) e];exact h.there k I,
  λk I=>by rw[World.frozen?_of_block (a:=⟨g,k*2,none⟩) e];exact h.fv k I,λk I=>by rw[World.frozen?_of_block (a:=⟨g,k*2+1,none⟩) e];exact h.ft k I⟩
theorem ML.other {w:ν}{b i:Nat}(h:ML w)(df:0≠b)(v:Value):ML (w.setCell ⟨b,i,none⟩ v):=by
 obtain⟨G,m,A⟩:=h;exact⟨by rw[fZ];exact G,m,by rw[ω (a:=⟨0,0,none⟩) (Γ _ _ _ _ df)];exact A⟩
structure lD (F:Nat->Option (List UInt8))(st ln:Int)(ex xt:List Int):Prop where
 iK:fU ((F 1).getD [])=some st
 lR:lY st (F 2) (F 3)=some ln
 hex:tw (F 5)=some ex
 mw:tw (F 6)=some xt
def ng (s:List UInt8)(F:Nat->Option (List UInt8))(tr:Bool)(k:Int):Prop:=dI s F/\F6 F tr k
def am8 (F:Nat->Option (List UInt8))(tr:Bool)(k st ln:Int)(ex xt:List Int)(E:Ending)(Y:ν):Prop:=
 ∃aI aH,dd Y aI ex/\dd Y aH xt/\((F 4=none/\E=δ (zI (bU ((F 0).getD [])) st ln false bu aI aH tr k))\/
  ∃v F' r m md wk pl,F 4=some v/\na v F' r/\cr Y m r.ms/\cr Y md r.mds/\gE Y wk r.wks/\cr Y pl r.pls/\E=δ (zI (bU ((F 0).getD [])) st ln true (bX r.fq r.iv r.ct r.un m md wk pl r.ws (gD F')) aI aH tr k))
def Ng (s:List UInt8)(w:ν)(E:Ending)(Y:ν):Prop:=
 ((∃F tr k st ln ex xt,ng s F tr k/\lD F st ln ex xt/\am8 F tr k st ln ex xt E Y)\/
  ((¬∃F tr k,ng s F tr k)/\E=ε (bF 2))\/
  ((∃F tr k,ng s F tr k/\¬∃st ln ex xt,lD F st ln ex xt)/\E=ε (bF 1))\/
  ((∃F tr k st ln ex xt v,ng s F tr k/\lD F st ln ex xt/\F 4=some v/\¬∃F' r,na v F' r)/\E=ε (bF 3)))/\Below w.heap.size w Y
theorem adI {s:ByteArray}{x:Int}{v:Value}(h:Ending.returned v=zF s x):fT s=true/\v=θ s:=by
 unfold zF at h;split at h
 ·rename_i hn;exact⟨hn,Ending.returned.inj h⟩
 cases h
theorem adJ {s:ByteArray}{x:Int}{c:List PanicEntry}(h:Ending.panicked c=zF s x):fT s=false/\c=bF x:=by
 unfold zF at h;split at h
 ·cases h
 rename_i hn;exact⟨by simpa using hn,Ending.panicked.inj h⟩
theorem adK {s:ByteArray}{x:Int}(h:Ending.outgrown=zF s x):False:=by
 unfold zF at h;split at h<;>cases h
theorem V0 {x:Int}{o:Option Bool}{v:Value}(h:Ending.returned v=vX x o):∃z,o=some z/\v=.bool z:=by
 unfold vX at h;cases o with
 |none=>cases h
 |some z=>exact⟨z,rfl,Ending.returned.inj h⟩
theorem V2 {x:Int}{o:Option Bool}{c:List PanicEntry}(h:Ending.panicked c=vX x o):o=none/\c=bF x:=by
 unfold vX at h;cases o with
 |none=>exact⟨rfl,Ending.panicked.inj h⟩
 |some z=>cases h
theorem V3 {x:Int}{o:Option Bool}(h:Ending.outgrown=vX x o):False:=by
 unfold vX at h;cases o<;>cases h
theorem dI.uniq {s:List UInt8}{F F':Nat->Option (List UInt8)}(h:dI s F)(h':dI s F'):F'=F:=by
 obtain⟨ls,G,_,_,_,h5⟩:=h.lines;obtain⟨sM,tf,_,_,_,h5'⟩:=h'.lines;rw[G]at tf;cases tf;rw[h5]at h5';exact(Β h5').symm
theorem dI.small {s:List UInt8}{F:Nat->Option (List UInt8)}(h:dI s F):∀k,((F k).getD []).length<=2000:=by
 obtain⟨ls,G,_,_,_,h5⟩:=h.lines;refine tK (λp J=>?_) (λk=>by simp) h5;have:p∈ls:=List.mem_of_mem_drop (List.mem_of_mem_take J);have:=Bp G p this;have:=h.len;omega
theorem ij:(3:π)≠79:=by decide
theorem ab2:(183:π)≠79:=by decide
theorem dd.form {w:ν}{v:Value}{zs:List Int}(h:dd w v zs):∃a c,v=η a zs.length c:=by
 rcases h with⟨rfl,rfl⟩|⟨g,cap,rest,rfl,_⟩<;>exact⟨_,_,rfl⟩
theorem dd.on {w Y:ν}{v:Value}{zs:List Int}(h:dd w v zs)(U:Below w.heap.size w Y):dd Y v zs:=
 h.imp id λ⟨g,cap,rest,G,A⟩=>⟨g,cap,rest,G,A.on U⟩
theorem dd.gr {T:π}{w Y:ν}{v:Value}{zs:List Int}(hT:3≠T)(h:dd w v zs)(g:Gr T w Y):dd Y v zs:=
 h.imp id λ⟨k,cap,rest,G,A⟩=>⟨k,cap,rest,G,g.1 _ _ _ hT A⟩
theorem ia {w:ν}{b:Nat}{cs:List Value}{t:π}(h:M w b cs t):w.rangeAt b 0 cs:=λj v hv=>by rw[Ζ];exact h.cell hv
theorem sF {w:ν}{b:Nat}{cs:List Value}{t:π}{n:Nat}(h:M w b cs t)(hn:n=cs.length):w.there b 0 n:=λj hj=>by
 subst hn;rw[Ζ];exact⟨by rw[h.cell (ρ hj)];rfl,h.free⟩
def Eh:Nat->List Value->List Value->List Value
 |_,[],cs=>cs
 |o,v::r,cs=>Eh (o+1) r (cs.set o v)
theorem KV {T:π}{W:ν}{b:Nat}:∀{vs:List Value} {o:Nat} {w:ν} {cs:List Value},M w b cs T->Below W.heap.size W w->W.heap.size<=b->
 Gr T w (w.setCells b o vs)/\Below W.heap.size W (w.setCells b o vs)/\M (w.setCells b o vs) b (Eh o vs cs) T
 |[],o,w,cs,h,U,_=>⟨Gr.refl _ _,U,h⟩
 |v::l,o,w,cs,h,U,hB=>by
  obtain⟨G,A,K⟩:=KV (vs:=l) (o:=o+1) (h.set (k:=o) v) (U.setCell (p:=⟨b,o,none⟩) hB v) hB;exact⟨(Gr.set (i:=o) h v).trans G,A,K⟩
theorem JM (a:Act)(h:a.tmps.size=61)(hd:a.defers=[]):∃f:Nat->Value,a=⟨#[f 0,f 1,f 2,f 3,f 4,f 5,f 6,f 7,f 8,f 9,f 10,f 11,f 12,f 13,f 14,f 15,f 16,f 17,f 18,f 19,f 20,f 21,f 22,f 23,f 24,f 25,f 26,f 27,f 28,f 29,f 30,f 31,f 32,f 33,f 34,f 35,f 36,f 37,f 38,f 39,f 40,f 41,f 42,f 43,f 44,f 45,f 46,f 47,f 48,f 49,f 50,f 51,f 52,f 53,f 54,f 55,f 56,f 57,f 58,f 59,f 60],[]⟩/\∀k,a.eval (.tmp k)=f k:=gO 61 a h hd
theorem Br (fq iv ct un ws:Int)(a1 a2 a3 a4:Option Addr)(n1 n2 n3 n4 c1 c2 c3 c4:Nat)(tx:ByteArray):∀v∈bX fq iv ct un (η a1 n1 c1) (η a2 n2 c2) (η a3 n3 c3) (η a4 n4 c4) ws tx,v.oneCell'=true:=by
 intro v hv;unfold bX at hv;simp only[Ι,Θ,or_false]at hv;rcases hv with rfl|rfl|rfl|rfl|rfl|rfl|rfl|rfl|rfl|rfl<;>rfl
theorem QG (u:ByteArray)(st ln:Int)(hr:Bool)(rc:List Value)(a1 a2:Option Addr)(n1 n2 c1 c2:Nat)(tr:Bool)(k:Int)(hrc:∀v∈rc,v.oneCell'=true):∀v∈ke u st ln hr rc (η a1 n1 c1) (η a2 n2 c2) tr k,v.oneCell'=true:=by
 intro v hv;unfold ke at hv;simp only[List.mem_append,Ι,Θ,or_false]at hv;rcases hv with((rfl|rfl|rfl|rfl)|h)|(rfl|rfl|rfl|rfl)
 ·rfl
 ·rfl
 ·rfl
 ·rfl
 ·exact hrc v h
 ·rfl
 ·rfl
 ·rfl
 rfl
theorem V4 (fq iv ct un ws:Int)(m md wk pl:Value)(tx:ByteArray):(bX fq iv ct un m md wk pl ws tx).length=10:=rfl
theorem xO (u:ByteArray)(st ln:Int)(hr:Bool)(rc:List Value)(ex xt:Value)(tr:Bool)(k:Int)(h:rc.length=10):(ke u st ln hr rc ex xt tr k).length=18:=by
 unfold ke;simp[h]
theorem yS:fB.length=18:=rfl
theorem yT:∀(vs:List Value) (o:Nat) (pre mid post:List Value),pre.length=o->mid.length=vs.length->Eh o vs (pre++mid++post)=pre++vs++post
 |[],o,pre,mid,post,_,hm=>by
  have:mid=[]:=List.eq_nil_of_length_eq_zero hm;subst this;rfl
 |v::r,o,pre,mid,post,J,hm=>by
  cases mid with
  |nil=>simp at hm
  |cons x m=>
   have e:(pre++x::m++post).set o v=(pre++[v])++m++post:=by
    subst J;simp
   rw[Eh,e,yT r (o+1) (pre++[v]) m post (by simp[J]) (by simpa using hm)];simp
theorem uG (vs cs:List Value)(h:cs.length=vs.length):Eh 0 vs cs=vs:=by
 have:=yT vs 0 [] cs [] rfl h;simpa using this
theorem V5 (u:ByteArray)(st ln:Int)(hr:Bool)(rc rc':List Value)(ex xt:Value)(tr:Bool)(k:Int)(h:rc'.length=rc.length):Eh 4 rc' (ke u st ln hr rc ex xt tr k)=ke u st ln hr rc' ex xt tr k:=by
 unfold ke;exact yT rc' 4 _ rc _ rfl h.symm
theorem M.V6 {w:ν}{g b:Nat}{cs:List Value}{t:π}(h:M w g cs t)(df:g≠b):∀{vs:List Value} {o:Nat},M (w.setCells b o vs) g cs t:=by
 intro vs
 induction vs generalizing w with
 |nil=>intro o;exact h
 |cons v l ih=>intro o;exact ih (h.other df v)
theorem adL {w:ν}{b o:Nat}{cs:List Value}{t:π}{n:Nat}(h:M w b cs t)(hn:o+n<=cs.length):w.there b o n:=λj hj=>by
 exact⟨by rw[h.cell (ρ (show o+j<cs.length by omega))];rfl,h.free⟩
theorem ZF:(prog.info? 76).map (·.size)=some 10:=by kernel_rfl
theorem V7:(prog.info? 79).map (·.size)=some 18:=by kernel_rfl
theorem qU (s:List UInt8)(w:ν)(hm:ML w)(hs:s.length<=1048576):
 ξ prog 43 #[θ ⟨s.toArray⟩] w (Ng s w):=by
 have au:Below w.heap.size w (w.alloc (ι fB.toArray 79)):=(κ _ _).alloc (μ _) _;have z1:(w.alloc (ι fB.toArray 79)).heap.size=w.heap.size+1:=by simp
 have dH:=M.new w fB 79;have CP:=Bq s (w.alloc (ι fB.toArray 79)) (hm.on au) hs;have hmz:0<w.heap.size:=hm.1;by_cases hE:∃F,dI s F
 case neg=>
  have HN:Α (¬∃F tr k,ng s F tr k):=H (λ⟨F,_,_,h⟩=>hE ⟨F,h.1⟩);have C:Α (ξ prog 74 #[θ ⟨s.toArray⟩] (w.alloc (ι fB.toArray 79)) λE Y=>E=ε (bF 2)/\Below w.heap.size w Y):=H (CP.mono λE Y ⟨G,A⟩=>by
   rcases G with⟨F,g,h,_⟩|⟨_,h⟩
   ·exact absurd ⟨F,h⟩ hE
   exact⟨h,au.trans (A.mono (by omega))⟩)
  clear CP hE dH z1 au hm hs;go_enter func43,ntmps43;go_wp2_with (go_at_call 74;refine(C.out).mono ?_;rintro e w3 ⟨rfl,al⟩);exact⟨rfl,.inr (.inl ⟨HN.out,rfl⟩),al⟩
 case pos=>
  obtain⟨F,QH⟩:=hE;have C:Α (ξ prog 74 #[θ ⟨s.toArray⟩] (w.alloc (ι fB.toArray 79)) λE Y=>∃g,E=δ (η (some ⟨g,0,none⟩) 9 9)/\w.heap.size+1<=g/\cV Y g F/\Below w.heap.size w Y/\M Y w.heap.size fB 79/\ML Y/\w.heap.size<=Y.heap.size):=H (CP.mono λE Y ⟨G,A⟩=>by
   rcases G with⟨F',g,h,K,h4,h5⟩|⟨h,_⟩
   ·rw[QH.uniq h]at h5;have:=A.size;exact⟨g,K,by omega,h5,au.trans (A.mono (by omega)),dH.on A,(hm.on au).on A,by omega⟩
   exact absurd ⟨F,QH⟩ h)
  have ZG:=QH.small;have agP:=H ZG;have mQ:∀k,((F k).getD []).length<=1048576:=λk=>Nat.le_trans (ZG k) (by decide);have no:(∀tr k,F6 F tr k->False)->¬∃F tr k,ng s F tr k:=λh ⟨F',tr,k,G,A⟩=>by rw[QH.uniq G]at A;exact h tr k A
  have HU:=H QH;clear CP dH z1 au hm hs ZG QH;have QF:=H mQ;have HNO:=H no;clear mQ no;go_enter func43,ntmps43;go_wp2_with (go_at_call 74;refine(C.out).mono ?_;rintro e w3 ⟨g,rfl,hg,hF,al,SN,AU,qD⟩);have no:=HNO.out;have mQ:=QF.out;refine ir (GE g F w3.heap.size) (JE w3 w.heap.size g) (by kernel_rfl) (by kernel_rfl) (by kernel_rfl) ?_ ?_ ?_;rotate_left 2
  ·exact⟨rfl,rfl,rfl,rfl,(κ _ _).drew⟩
  ·intro i o ho a Y hI hG;have S:i<16:=(Array.getElem?_eq_some_iff.1 ho).1;have eQ:i=0\/i=1\/i=2\/i=3\/i=4\/i=5\/i=6\/i=7\/i=8\/i=9\/i=10\/i=11\/i=12\/i=13\/i=14\/i=15:=by omega
   rcases eQ with rfl|rfl|rfl|rfl|rfl|rfl|rfl|rfl|rfl|rfl|rfl|rfl|rfl|rfl|rfl|rfl<;>obtain rfl:=Β ho
   ·
    exact ai (v:=a.eval (.tmp 3)) (by kernel_rfl) (lC rfl (by decide) hI (κ _ _) (show NE g F w3.heap.size 0 _ _ from hI.s3) (by kernel_rfl) rfl)
   ·
    have e:a.eval (.tmp 7)=η (some ⟨g,0,none⟩) 9 9:=jt (aF hG 0) (by decide);exact ai (v:=ζ (some ⟨g,0*2,none⟩)) (bj (by show(χ 118 (a.eval (.tmp 7)) (V Z 0)).run _ _=_;rw[e];exact dM g 0 (by decide) Y)) (lC rfl (by decide) hI (κ _ _) (show NE g F w3.heap.size 1 _ _ from rfl) (by kernel_rfl) rfl)
   ·
    have e:a.eval (.tmp 8)=ζ (some ⟨g,0*2,none⟩):=jt (aF hG 1) (by decide);exact ai (v:=ζ (some ⟨g,0*2,none⟩)) (bj (by show(ψ 122 (a.eval (.tmp 8)) 0).run _ _=_;rw[e];exact KC _ Y rfl)) (lC rfl (by decide) hI (κ _ _) (show NE g F w3.heap.size 2 _ _ from rfl) (by kernel_rfl) rfl)
   ·
    have e:a.eval (.tmp 9)=ζ (some ⟨g,0*2,none⟩):=jt (aF hG 2) (by decide);exact ai (v:=θ (bU ((F 0).getD []))) (bj (by show(υ 9 (a.eval (.tmp 9))).run _ _=_;rw[e];exact OU (hF.on hI.below) (by decide))) (lC rfl (by decide) hI (κ _ _) (show NE g F w3.heap.size 3 _ _ from rfl) (by kernel_rfl) rfl)
   ·
    have e:a.eval (.tmp 10)=θ (bU ((F 0).getD [])):=jt (aF hG 3) (by decide);refine cM (R:=λE az=>E=zF (bU ((F 0).getD [])) 2/\Below Y.heap.size Y az) (f:=75) (args:=#[a.eval (.tmp 10),V Z 2]) (by kernel_rfl) (by rw[e];exact zA (bU ((F 0).getD [])) 2 Y (show(bU ((F 0).getD [])).size<=maxLen from mZ (mQ 0))) ?_ ?_ ?_
    ·rintro v az ⟨he,U⟩;obtain⟨hn,rfl⟩:=adI he;exact(lC rfl (by decide) hI U (show NE g F w3.heap.size 4 _ _ from⟨hn,rfl⟩) (by kernel_rfl) rfl)
    ·rintro c az ⟨he,U⟩;obtain⟨hn,rfl⟩:=adJ he;exact⟨hI.defers,.inr (.inl ⟨no λtr k hB=>(by have:=hB.uid;rw[hn]at this;cases this),rfl⟩),al.trans ((hI.below.trans (U.mono hI.below.size)).mono qD)⟩
    rintro az ⟨he,_⟩;exact adK he
   ·
    exact ai (v:=a.eval (.tmp 3)) (by kernel_rfl) (lC rfl (by decide) hI (κ _ _) (show NE g F w3.heap.size 5 _ _ from hI.s3) (by kernel_rfl) rfl)
   ·
    have e:a.eval (.tmp 12)=η (some ⟨g,0,none⟩) 9 9:=jt (aF hG 5) (by decide);exact ai (v:=ζ (some ⟨g,7*2,none⟩)) (bj (by show(χ 118 (a.eval (.tmp 12)) (V Z 7)).run _ _=_;rw[e];exact dM g 7 (by decide) Y)) (lC rfl (by decide) hI (κ _ _) (show NE g F w3.heap.size 6 _ _ from rfl) (by kernel_rfl) rfl)
   ·
    have e:a.eval (.tmp 13)=ζ (some ⟨g,7*2,none⟩):=jt (aF hG 6) (by decide);exact ai (v:=bE (F 7)) (bj (by show(υ 122 (a.eval (.tmp 13))).run _ _=_;rw[e];exact dt (hF.on hI.below) (by decide))) (lC rfl (by decide) hI (κ _ _) (show NE g F w3.heap.size 7 _ _ from rfl) (by kernel_rfl) rfl)
   ·
    have e:a.eval (.tmp 14)=bE (F 7):=jt (aF hG 7) (by decide);refine cM (R:=λE az=>E=vX 2 (Bm (F 7))/\Below Y.heap.size Y az) (f:=76) (args:=#[a.eval (.tmp 14)]) (by kernel_rfl) (by rw[e];exact zN (F 7) Y) ?_ ?_ ?_
    ·rintro v az ⟨he,U⟩;obtain⟨z,hz,rfl⟩:=V0 he;exact(lC rfl (by decide) hI U (show NE g F w3.heap.size 8 _ _ from⟨z,hz,rfl⟩) (by kernel_rfl) rfl)
    ·rintro c az ⟨he,U⟩;obtain⟨hz,rfl⟩:=V2 he;exact⟨hI.defers,.inr (.inl ⟨no λtr k hB=>(by have:=hB.tr;rw[hz]at this;cases this),rfl⟩),al.trans ((hI.below.trans (U.mono hI.below.size)).mono qD)⟩
    rintro az ⟨he,_⟩;exact V3 he
   ·
    exact ai (v:=a.eval (.tmp 3)) (by kernel_rfl) (lC rfl (by decide) hI (κ _ _) (show NE g F w3.heap.size 9 _ _ from hI.s3) (by kernel_rfl) rfl)
   ·
    have e:a.eval (.tmp 16)=η (some ⟨g,0,none⟩) 9 9:=jt (aF hG 9) (by decide);exact ai (v:=ζ (some ⟨g,8*2,none⟩)) (bj (by show(χ 118 (a.eval (.tmp 16)) (V Z 8)).run _ _=_;rw[e];exact dM g 8 (by decide) Y)) (lC rfl (by decide) hI (κ _ _) (show NE g F w3.heap.size 10 _ _ from rfl) (by kernel_rfl) rfl)
   ·
    have e:a.eval (.tmp 17)=ζ (some ⟨g,8*2,none⟩):=jt (aF hG 10) (by decide);exact ai (v:=bE (F 8)) (bj (by show(υ 122 (a.eval (.tmp 17))).run _ _=_;rw[e];exact dt (hF.on hI.below) (by decide))) (lC rfl (by decide) hI (κ _ _) (show NE g F w3.heap.size 11 _ _ from rfl) (by kernel_rfl) rfl)
   ·
    have e:a.eval (.tmp 18)=bE (F 8):=jt (aF hG 11) (by decide);refine cM (R:=λE az=>E=ew 2 (Bn (F 8))/\Below Y.heap.size Y az) (f:=77) (args:=#[a.eval (.tmp 18)]) (by kernel_rfl) (by rw[e];exact Hu (F 8) Y) ?_ ?_ ?_
    ·rintro v az ⟨he,U⟩;obtain⟨z,hz,rfl⟩:=oP he;exact(lC rfl (by decide) hI U (show NE g F w3.heap.size 12 _ _ from⟨z,hz,rfl⟩) (by kernel_rfl) rfl)
    ·rintro c az ⟨he,U⟩;obtain⟨hz,rfl⟩:=oQ he;exact⟨hI.defers,.inr (.inl ⟨no λtr k hB=>(by have:=hB.st;rw[hz]at this;cases this),rfl⟩),al.trans ((hI.below.trans (U.mono hI.below.size)).mono qD)⟩
    rintro az ⟨he,_⟩;exact oR he
   ·
    obtain⟨hu,t0⟩:=jt (aF hG 4) (by decide);obtain⟨tr,q1,t1⟩:=jt (aF hG 8) (by decide);obtain⟨k,q2,t2⟩:=jt (aF hG 12) (by decide);exact ai (v:=zI (bU ((F 0).getD [])) 0 0 false bu (η none 0 0) (η none 0 0) tr k) (bj (by simp only[List.map_toArray,List.map_cons,List.map_nil];rw[show a.eval (.tmp 11)=_ from t0,show a.eval (.tmp 15)=_ from t1,show a.eval (.tmp 19)=_ from t2];exact OT ..)) (lC rfl (by decide) hI (κ _ _) (show NE g F w3.heap.size 13 _ _ from⟨tr,k,⟨hu,q1,q2⟩,rfl⟩) (by kernel_rfl) rfl)
   ·
    exact ai (v:=ζ (some ⟨Y.heap.size,0,none⟩)) (Y:=Y.alloc (ι fB.toArray 79)) (by kernel_rfl) (lC rfl (by decide) hI ((κ _ _).alloc (μ _) _) (show NE g F w3.heap.size 14 _ _ from⟨_,rfl,hI.below.size,fB,rfl,M.new _ _ _⟩) (by kernel_rfl) rfl)
   obtain⟨b,eb,zu,cs,Ak,tM⟩:=jt (aF hG 14) (by decide);have hv:EV F (a.eval (.tmp 20)):=jt (aF hG 13) (by decide);obtain⟨az,iF,fH,lW,lX⟩:=VZ tM Ak zu hI.below hv;refine BP (Y:=az) (D8 (by show(Ε 79 (a.eval (.tmp 4)) (a.eval (.tmp 20))).run _ _=_;rw[show a.eval (.tmp 4)=_ from eb];exact iF)) ⟨⟨hI.size,hI.defers,hI.s2,hI.s3,fH⟩,?_,λj oj jm hj _ hg=>?_⟩
   ·unfold GE;rw[if_pos rfl];exact⟨b,eb,zu,lX⟩
   unfold GE at hg⊢;rw[if_neg hj]at hg⊢;exact NE.gr hg lW
  intro a w4 hI hG;have g15:=hG 15 (by decide);unfold GE at g15;rw[if_pos rfl]at g15;obtain⟨b,eb,zu,tr,k,hB,ab4⟩:=g15;obtain⟨f,rfl,vg⟩:=JM a hI.size hI.defers;have e2:=(vg 2).symm.trans hI.s2;have e3:=(vg 3).symm.trans hI.s3;have e4:=(vg 4).symm.trans eb;have cu:=hI.below;have hF4:=hF.on cu;have Cz:=AU.on cu;have ab5:=SN.on cu;have wL:Below w.heap.size w w4:=al.trans (cu.mono qD);have aQ:=hF.lt;have JN:g≠b:=by omega
  have lX:w.heap.size≠b:=by omega
  have pX:w.heap.size<=b:=by omega
  have vL:0≠b:=by omega
  have HD:Α (ng s F tr k):=H ⟨HU.out,hB⟩;clear hI hG vg hF AU SN cu al HNO no HU aQ hg zu qD mQ hB C;rw[e2,e3,e4];have v1:w4.cell? ⟨g,2,none⟩=some (θ ⟨((F 1).getD []).toArray⟩):=hF4.val 1 (by decide);have CT:=λW=>nE (bU ((F 1).getD [])) W;rw[vW]at CT;cases ht:fU ((F 1).getD [])with
  |none=>
   rw[ht]at CT;unfold ew at CT;have HX:Α (∃F tr k,ng s F tr k/\¬∃st ln ex xt,lD F st ln ex xt):=H ⟨F,tr,k,HD.out,λ⟨_,_,_,_,h⟩=>by have:=h.iK;rw[ht]at this;cases this⟩;have C1:=H CT;clear CT ht;go_wp2_with (go_at_call 78;refine(C1.out _).mono ?_;rintro e w5 ⟨rfl,bJ⟩);exact⟨rfl,.inr (.inr (.inl ⟨HX.out,rfl⟩)),wL.trans (bJ.mono wL.size)⟩
  |some st=>
   rw[ht]at CT;unfold ew at CT;have ZH:=QC ht;have HT:=H ht;have C1:=H CT;clear CT ht;go_wp2_with (go_at_call 78;refine(C1.out _).mono ?_;rintro e w5 ⟨rfl,bJ⟩;have MG:=ab4.on bJ;have y1:=MG.cell (k:=1) rfl;have z1:=MG.free (k:=1));have KW:M (w5.setCell ⟨b,1,none⟩ (V Z st)) b (ke (bU ((F 0).getD [])) st 0 false bu (η none 0 0) (η none 0 0) tr k) 79:=MG.set _;have hF6:=(hF4.on bJ).other JN (i:=1) (V Z st);have hm6:=(Cz.on bJ).other vL (i:=1) (V Z st);have ab6:=(ab5.on bJ).other lX (k:=1) (V Z st);have oN:Below w.heap.size w (w5.setCell ⟨b,1,none⟩ (V Z st)):=(wL.trans (bJ.mono wL.size)).setCell pX _;clear MG y1 z1 bJ hF4 Cz ab5 wL ab4 v1;generalize w5.setCell ⟨b,1,none⟩ (V Z st)=w6 at *
   have mQ:=QF.out;refine ir (GL g b F st tr k) (JL w w.heap.size g b F st tr k) (by kernel_rfl) (by kernel_rfl) (by kernel_rfl) ?_ ?_ ?_;rotate_left 2
   ·exact⟨rfl,rfl,rfl,rfl,rfl,hF6.aiX,hm6,⟨0,KW⟩,ab6,oN.drew⟩
   ·intro i o ho a Y hI hG;have S:i<11:=(Array.getElem?_eq_some_iff.1 ho).1;have eQ:i=0\/i=1\/i=2\/i=3\/i=4\/i=5\/i=6\/i=7\/i=8\/i=9\/i=10:=by omega
    rcases eQ with rfl|rfl|rfl|rfl|rfl|rfl|rfl|rfl|rfl|rfl|rfl<;>obtain rfl:=Β ho
    ·
     exact ai (v:=ζ (some ⟨b,1,none⟩)) (bj (by show(ψ 79 (a.eval (.tmp 4)) 1).run _ _=_;rw[hI.s4];exact OV b Y)) (sb rfl (by decide) hI (κ _ _) (show NL g b F st 0 _ from rfl) (by kernel_rfl) rfl)
    ·
     have e:a.eval (.tmp 27)=ζ (some ⟨b,1,none⟩):=oo (aF hG 0) (by decide);obtain⟨z,hz⟩:=hI.row;exact ai (v:=V Z st) (bj (by show(υ 3 (a.eval (.tmp 27))).run _ _=_;rw[e];exact OX (hz.cell (k:=1) rfl))) (sb rfl (by decide) hI (κ _ _) (show NL g b F st 1 _ from rfl) (by kernel_rfl) rfl)
    ·
     exact ai (v:=a.eval (.tmp 3)) (by kernel_rfl) (sb rfl (by decide) hI (κ _ _) (show NL g b F st 2 _ from hI.s3) (by kernel_rfl) rfl)
    ·
     have e:a.eval (.tmp 29)=η (some ⟨g,0,none⟩) 9 9:=oo (aF hG 2) (by decide);exact ai (v:=ζ (some ⟨g,2*2,none⟩)) (bj (by show(χ 118 (a.eval (.tmp 29)) (V Z 2)).run _ _=_;rw[e];exact dM g 2 (by decide) Y)) (sb rfl (by decide) hI (κ _ _) (show NL g b F st 3 _ from rfl) (by kernel_rfl) rfl)
    ·
     have e:a.eval (.tmp 30)=ζ (some ⟨g,2*2,none⟩):=oo (aF hG 3) (by decide);exact ai (v:=bE (F 2)) (bj (by show(υ 122 (a.eval (.tmp 30))).run _ _=_;rw[e];exact dt hI.fields (by decide))) (sb rfl (by decide) hI (κ _ _) (show NL g b F st 4 _ from rfl) (by kernel_rfl) rfl)
    ·
     exact ai (v:=a.eval (.tmp 3)) (by kernel_rfl) (sb rfl (by decide) hI (κ _ _) (show NL g b F st 5 _ from hI.s3) (by kernel_rfl) rfl)
    ·
     have e:a.eval (.tmp 32)=η (some ⟨g,0,none⟩) 9 9:=oo (aF hG 5) (by decide);exact ai (v:=ζ (some ⟨g,3*2,none⟩)) (bj (by show(χ 118 (a.eval (.tmp 32)) (V Z 3)).run _ _=_;rw[e];exact dM g 3 (by decide) Y)) (sb rfl (by decide) hI (κ _ _) (show NL g b F st 6 _ from rfl) (by kernel_rfl) rfl)
    ·
     have e:a.eval (.tmp 33)=ζ (some ⟨g,3*2,none⟩):=oo (aF hG 6) (by decide);exact ai (v:=bE (F 3)) (bj (by show(υ 122 (a.eval (.tmp 33))).run _ _=_;rw[e];exact dt hI.fields (by decide))) (sb rfl (by decide) hI (κ _ _) (show NL g b F st 7 _ from rfl) (by kernel_rfl) rfl)
    ·
     have e1:a.eval (.tmp 28)=V Z st:=oo (aF hG 1) (by decide);have e4:a.eval (.tmp 31)=bE (F 2):=oo (aF hG 4) (by decide);have e7:a.eval (.tmp 34)=bE (F 3):=oo (aF hG 7) (by decide);refine cM (R:=λE az=>E=ew 1 (lY st (F 2) (F 3))/\Below Y.heap.size Y az) (f:=79) (args:=#[a.eval (.tmp 28),a.eval (.tmp 31),a.eval (.tmp 34)]) (by kernel_rfl) (by rw[e1,e4,e7];exact F3 st (F 2) (F 3) Y ZH.1 ZH.2 (mZ (mQ 3))) ?_ ?_ ?_
     ·rintro v az ⟨he,U⟩;obtain⟨z,hz,rfl⟩:=oP he;exact(sb rfl (by decide) hI U (show NL g b F st 8 _ from⟨z,hz,rfl⟩) (by kernel_rfl) rfl)
     ·rintro c az ⟨he,U⟩;obtain⟨hz,rfl⟩:=oQ he;exact⟨hI.defers,.inr (.inr (.inl ⟨⟨F,tr,k,HD.out,λ⟨Cy,_,_,_,h⟩=>by have G:=h.iK;rw[HT.out]at G;cases G;have:=h.lR;rw[hz]at this;cases this⟩,rfl⟩)),hI.below.trans (U.mono hI.below.size)⟩
     rintro az ⟨he,_⟩;exact oR he
    ·
     exact ai (v:=ζ (some ⟨b,2,none⟩)) (bj (by show(ψ 79 (a.eval (.tmp 4)) 2).run _ _=_;rw[hI.s4];exact OW b Y)) (sb rfl (by decide) hI (κ _ _) (show NL g b F st 9 _ from rfl) (by kernel_rfl) rfl)
    obtain⟨z,hz,t8⟩:=oo (aF hG 8) (by decide);have t9:a.eval (.tmp 36)=ζ (some ⟨b,2,none⟩):=oo (aF hG 9) (by decide);obtain⟨y,hy⟩:=hI.row;refine BP (Y:=Y.setCell ⟨b,2,none⟩ (V Z z)) (D8 (by show(Ε 3 (a.eval (.tmp 36)) (a.eval (.tmp 35))).run _ _=_;rw[t9,show a.eval (.tmp 35)=_ from t8];exact Nf (hy.cell (k:=2) rfl) hy.free)) ⟨⟨hI.size,hI.defers,hI.s2,hI.s3,hI.s4,hI.fields.other JN _,hI.ml.other vL _,⟨z,hy.set _⟩,hI.res.other lX _,hI.below.setCell pX _⟩,?_,λj oj jm hj _ hg=>?_⟩
    ·unfold GL;rw[if_pos rfl];exact⟨z,hz,hy.set _⟩
    unfold GL at hg⊢;rw[if_neg hj]at hg⊢;exact hg
   intro a w7 hI hG;have g10:=hG 10 (by decide);unfold GL at g10;rw[if_pos rfl]at g10;obtain⟨ln,lR,ab7⟩:=g10;obtain⟨f',rfl,vg⟩:=JM a hI.size hI.defers;have q2:=(vg 2).symm.trans hI.s2;have q3:=(vg 3).symm.trans hI.s3;have q4:=(vg 4).symm.trans hI.s4;have hF7:=hI.fields;have hm7:=hI.ml;have ab9:=hI.res;have AZ:=hI.below;clear hI hG vg hF6 hm6 KW ab6 oN e2 e3 e4 mQ ZH C1;rw[q2,q3,q4];have v5:w7.cell? ⟨g,10,none⟩=some (θ ⟨((F 5).getD []).toArray⟩):=hF7.val 5 (by decide);have t5:w7.cell? ⟨g,11,none⟩=some (.bool (F 5).isSome):=hF7.there 5 (by decide);have CX:=zH (F 5) w7 hm7 (QF.out 5);have HLN:=H lR;clear lR;cases X:tw (F 5)with
   |none=>
    have C2:Α (ξ prog 80 #[.agg #[θ ⟨((F 5).getD []).toArray⟩,.bool (F 5).isSome]] w7 λE Y=>E=ε (bF 1)/\Below w7.heap.size w7 Y):=H (CX.mono λE Y ⟨G,A⟩=>by
     rcases G with⟨zs,v,h,_⟩|⟨_,h⟩
     ·rw[X]at h;cases h
     exact⟨h,A⟩)
    have HX:Α (∃F tr k,ng s F tr k/\¬∃st ln ex xt,lD F st ln ex xt):=H ⟨F,tr,k,HD.out,λ⟨_,_,_,_,h⟩=>by have:=h.hex;rw[X]at this;cases this⟩;clear CX X;go_wp2_with (go_at_call 80;refine(C2.out).mono ?_;rintro e w8 ⟨rfl,ph⟩);exact⟨rfl,.inr (.inr (.inl ⟨HX.out,rfl⟩)),AZ.trans (ph.mono AZ.size)⟩
   |some ex=>
    have C2:Α (ξ prog 80 #[.agg #[θ ⟨((F 5).getD []).toArray⟩,.bool (F 5).isSome]] w7 λE Y=>∃v,E=δ v/\dd Y v ex/\Below w7.heap.size w7 Y):=H (CX.mono λE Y ⟨G,A⟩=>by
     rcases G with⟨zs,v,h,he,S⟩|⟨h,_⟩
     ·rw[X]at h;cases h;exact⟨v,he,S,A⟩
     rw[X]at h;cases h)
    have HEX:=H X;clear CX X;go_wp2_with (go_at_call_of 80 (Value.agg #[Value.string ⟨((F 5).getD []).toArray⟩,Value.bool (F 5).isSome]);refine(C2.out).mono ?_;rintro e w8 ⟨aI,rfl,hi8,ph⟩;obtain⟨a8,c8,rfl⟩:=hi8.form;have xo:=ab7.on ph;have y14:=xo.cell (k:=14) rfl;have z14:=xo.free (k:=14);have F8:=(hF7.on ph).other JN (i:=14) (η a8 ex.length c8);have v6:(w8.setCell ⟨b,14,none⟩ (η a8 ex.length c8)).cell? ⟨g,12,none⟩=some (θ ⟨((F 6).getD []).toArray⟩):=F8.val 6 (by decide);have t6:(w8.setCell ⟨b,14,none⟩ (η a8 ex.length c8)).cell? ⟨g,13,none⟩=some (.bool (F 6).isSome):=F8.there 6 (by decide));have SO:M (w8.setCell ⟨b,14,none⟩ (η a8 ex.length c8)) b (ke (bU ((F 0).getD [])) st ln false bu (η a8 ex.length c8) (η none 0 0) tr k) 79:=xo.set _;have hm9:=(hm7.on ph).other vL (i:=14) (η a8 ex.length c8);have SQ:=(ab9.on ph).other lX (k:=14) (η a8 ex.length c8);have Ei:Below w.heap.size w (w8.setCell ⟨b,14,none⟩ (η a8 ex.length c8)):=(AZ.trans (ph.mono AZ.size)).setCell pX _;have QI:=hi8.gr ij (Gr.set (i:=14) xo (η a8 ex.length c8));clear xo y14 z14 ph hF7 hm7 ab9 AZ ab7 v5 t5 hi8 C2;generalize w8.setCell ⟨b,14,none⟩ (η a8 ex.length c8)=w9 at *
    have CY:=zH (F 6) w9 hm9 (QF.out 6);cases hy:tw (F 6)with
    |none=>
     have C3:Α (ξ prog 80 #[.agg #[θ ⟨((F 6).getD []).toArray⟩,.bool (F 6).isSome]] w9 λE Y=>E=ε (bF 1)/\Below w9.heap.size w9 Y):=H (CY.mono λE Y ⟨G,A⟩=>by
      rcases G with⟨zs,v,h,_⟩|⟨_,h⟩
      ·rw[hy]at h;cases h
      exact⟨h,A⟩)
     have HX:Α (∃F tr k,ng s F tr k/\¬∃st ln ex xt,lD F st ln ex xt):=H ⟨F,tr,k,HD.out,λ⟨_,_,_,_,h⟩=>by have:=h.mw;rw[hy]at this;cases this⟩;clear CY hy;go_wp2_with (go_at_call 80;refine(C3.out).mono ?_;rintro e vZ ⟨rfl,mq⟩);exact⟨rfl,.inr (.inr (.inl ⟨HX.out,rfl⟩)),Ei.trans (mq.mono Ei.size)⟩
    |some xt=>
     have C3:Α (ξ prog 80 #[.agg #[θ ⟨((F 6).getD []).toArray⟩,.bool (F 6).isSome]] w9 λE Y=>∃v,E=δ v/\dd Y v xt/\Below w9.heap.size w9 Y):=H (CY.mono λE Y ⟨G,A⟩=>by
      rcases G with⟨zs,v,h,he,S⟩|⟨h,_⟩
      ·rw[hy]at h;cases h;exact⟨v,he,S,A⟩
      rw[hy]at h;cases h)
     have HTA:Α (lD F st ln ex xt):=H ⟨HT.out,HLN.out,HEX.out,hy⟩;clear CY hy;cases h4:F 4 with
     |none=>
      have H4:=H h4;clear h4;go_wp2_with (first
       |(go_at_call 80;refine(C3.out).mono ?_;rintro e vZ ⟨aH,rfl,Hz,mq⟩;obtain⟨a9,c9,rfl⟩:=Hz.form;have wU:=SO.on mq;have y15:=wU.cell (k:=15) rfl;have z15:=wU.free (k:=15);have V8:=(F8.on mq).other JN (i:=15) (η a9 xt.length c9);have t4:(vZ.setCell ⟨b,15,none⟩ (η a9 xt.length c9)).cell? ⟨g,9,none⟩=some (.bool false):=(by have:=V8.there 4 (by decide);rw[H4.out]at this;exact this);have sc:=wU.set (k:=15) (η a9 xt.length c9);have y3:=sc.cell (k:=3) rfl;have z3:=sc.free (k:=3);have agV:M ((vZ.setCell ⟨b,15,none⟩ (η a9 xt.length c9)).setCell ⟨b,3,none⟩ (.bool false)) b (ke (bU ((F 0).getD [])) st ln false bu (η a8 ex.length c8) (η a9 xt.length c9) tr k) 79:=sc.set (k:=3) (.bool false);have x3:=agV.cell (k:=3) rfl;have Nh:=((SQ.on mq).other lX (k:=15) (η a9 xt.length c9)).other lX (k:=3) (.bool false))
       |(refine wpList_load_mid rfl 79 (.tmp 4) rfl b 0 rfl (ke (bU ((F 0).getD [])) st ln false bu (η a8 ex.length c8) (η a9 xt.length c9) tr k) _ (ia agV) underlying79 rfl (by kernel_rfl) ?_)
       |(refine wpList_store_mid rfl 79 (.tmp 2) (.tmp 60) rfl w.heap.size 0 (ke (bU ((F 0).getD [])) st ln false bu (η a8 ex.length c8) (η a9 xt.length c9) tr k).toArray rfl rfl (sF Nh rfl) (by kernel_rfl) (all_oneCell_toArray (QG _ _ _ _ _ _ _ _ _ _ _ _ _ (Br _ _ _ _ _ _ _ _ _ _ _ _ _ _ _ _ _ _))) ?_))
      have Ni:Below w.heap.size w ((vZ.setCell ⟨b,15,none⟩ (η a9 xt.length c9)).setCell ⟨b,3,none⟩ (.bool false)):=((Ei.trans (mq.mono Ei.size)).setCell pX _).setCell pX _;have gF:Gr 79 vZ ((vZ.setCell ⟨b,15,none⟩ (η a9 xt.length c9)).setCell ⟨b,3,none⟩ (.bool false)):=(Gr.set (i:=15) wU (η a9 xt.length c9)).trans (Gr.set (i:=3) sc (.bool false));obtain⟨lW,ZI,HJ⟩:=KV (vs:=(ke (bU ((F 0).getD [])) st ln false bu (η a8 ex.length c8) (η a9 xt.length c9) tr k)) (o:=0) Nh Ni (μ _);rw[uG _ fB (by rw[yS,xO _ _ _ _ _ _ _ _ _ rfl])]at HJ;exact bodyPost_ret (v:=zI (bU ((F 0).getD [])) st ln false bu (η a8 ex.length c8) (η a9 xt.length c9) tr k) (pJ results43 rfl (run_loadVar_mid _ w.heap.size 0 79 (ke (bU ((F 0).getD [])) st ln false bu (η a8 ex.length c8) (η a9 xt.length c9) tr k) _ (ia HJ) underlying79 rfl (by kernel_rfl))) rfl
       ⟨.inl ⟨F,tr,k,st,ln,ex,xt,HD.out,HTA.out,_,_,((QI.on mq).gr ij gF).gr ij lW,(Hz.gr ij gF).gr ij lW,.inl ⟨H4.out,rfl⟩⟩,ZI⟩
     |some v=>
      have H4:=H h4;have HV:v.length<=2000:=(by have:=agP.out 4;rw[h4]at this;exact this);clear h4;go_wp2_with (go_at_call 80;refine(C3.out).mono ?_;rintro e vZ ⟨aH,rfl,Hz,mq⟩;obtain⟨a9,c9,rfl⟩:=Hz.form;have wU:=SO.on mq;have y15:=wU.cell (k:=15) rfl;have z15:=wU.free (k:=15);have V8:=(F8.on mq).other JN (i:=15) (η a9 xt.length c9);have t4:(vZ.setCell ⟨b,15,none⟩ (η a9 xt.length c9)).cell? ⟨g,9,none⟩=some (.bool true):=(by have:=V8.there 4 (by decide);rw[H4.out]at this;exact this);have sc:=wU.set (k:=15) (η a9 xt.length c9);have y3:=sc.cell (k:=3) rfl;have z3:=sc.free (k:=3);have SR:=sc.set (k:=3) (.bool true);have x3:=SR.cell (k:=3) rfl;have F12:=V8.other JN (i:=3) (.bool true);have v4:((vZ.setCell ⟨b,15,none⟩ (η a9 xt.length c9)).setCell ⟨b,3,none⟩ (.bool true)).cell? ⟨g,8,none⟩=some (θ ⟨v.toArray⟩):=(by have:=F12.val 4 (by decide);rw[H4.out]at this;exact this));rename_i K1 eM K2 IZ;have agW:=((hm9.on mq).other vL (i:=15) (η a9 xt.length c9)).other vL (i:=3) (.bool true);have Ni:Below w.heap.size w ((vZ.setCell ⟨b,15,none⟩ (η a9 xt.length c9)).setCell ⟨b,3,none⟩ (.bool true)):=((Ei.trans (mq.mono Ei.size)).setCell pX _).setCell pX _;have gF:Gr 79 vZ ((vZ.setCell ⟨b,15,none⟩ (η a9 xt.length c9)).setCell ⟨b,3,none⟩ (.bool true)):=(Gr.set (i:=15) wU (η a9 xt.length c9)).trans (Gr.set (i:=3) sc (.bool true));have Nh:=((SQ.on mq).other lX (k:=15) (η a9 xt.length c9)).other lX (k:=3) (.bool true);have V9:M ((vZ.setCell ⟨b,15,none⟩ (η a9 xt.length c9)).setCell ⟨b,3,none⟩ (.bool true)) b (ke (bU ((F 0).getD [])) st ln true bu (η a8 ex.length c8) (η a9 xt.length c9) tr k) 79:=SR;have i1:=(QI.on mq).gr ij gF;have i2:=Hz.gr ij gF;clear SR x3 F12 v4 sc y3 z3 t4 V8 y15 z15 wU Hz mq gF QI SO SQ Ei F8 C3 v6 t6;generalize((vZ.setCell ⟨b,15,none⟩ (η a9 xt.length c9)).setCell ⟨b,3,none⟩ (.bool true))=w12 at *
      refine(Ky v w12 agW (by omega)).mono ?_;rintro e w13 ⟨hR,yU⟩;rcases hR with⟨F',r,m,md,wk,pl,hIR,hE,j1,j2,j3,j4⟩|⟨Af,rfl⟩
      case inr=>
       go_wp2;exact⟨rfl,.inr (.inr (.inr ⟨⟨F,tr,k,st,ln,ex,xt,v,HD.out,HTA.out,H4.out,Af⟩,rfl⟩)),Ni.trans (yU.mono Ni.size)⟩
      case inl=>
       obtain⟨p1,rfl⟩:=j1.form;obtain⟨p2,rfl⟩:=j2.form;obtain⟨p3,rfl⟩:=j3.form;obtain⟨p4,rfl⟩:=j4.form;have PZ:e=δ (.agg (bX r.fq r.iv r.ct r.un (η p1 r.ms.length r.ms.length) (η p2 r.mds.length r.mds.length) (η p3 r.wks.length r.wks.length) (η p4 r.pls.length r.pls.length) r.ws (gD F')).toArray):=hE;subst PZ;clear hE;have SS:=V9.on yU;have acb:=Nh.on yU;obtain⟨g14,Wa,KX⟩:=KV (vs:=(bX r.fq r.iv r.ct r.un (η p1 r.ms.length r.ms.length) (η p2 r.mds.length r.mds.length) (η p3 r.wks.length r.wks.length) (η p4 r.pls.length r.pls.length) r.ws (gD F'))) (o:=4) SS (Ni.trans (yU.mono Ni.size)) pX;rw[V5 _ _ _ _ bu (bX r.fq r.iv r.ct r.un (η p1 r.ms.length r.ms.length) (η p2 r.mds.length r.mds.length) (η p3 r.wks.length r.wks.length) (η p4 r.pls.length r.pls.length) r.ws (gD F')) _ _ _ _ rfl]at KX;have BZ:M (w13.setCells b 4 (bX r.fq r.iv r.ct r.un (η p1 r.ms.length r.ms.length) (η p2 r.mds.length r.mds.length) (η p3 r.wks.length r.wks.length) (η p4 r.pls.length r.pls.length) r.ws (gD F'))) w.heap.size fB 79:=acb.V6 lX;obtain⟨w14,ZJ⟩:∃w14,w14=w13.setCells b 4 (bX r.fq r.iv r.ct r.un (η p1 r.ms.length r.ms.length) (η p2 r.mds.length r.mds.length) (η p3 r.wks.length r.wks.length) (η p4 r.pls.length r.pls.length) r.ws (gD F')):=⟨_,rfl⟩;rw[<-ZJ]at g14 Wa KX BZ;have am9:=H ZJ;clear ZJ;have agZ:w13.there b 4 (bX r.fq r.iv r.ct r.un (η p1 r.ms.length r.ms.length) (η p2 r.mds.length r.mds.length) (η p3 r.wks.length r.wks.length) (η p4 r.pls.length r.pls.length) r.ws (gD F')).toArray.size:=adL SS (by rw[xO _ _ _ _ _ _ _ _ _ rfl];show 4+(bX r.fq r.iv r.ct r.un (η p1 r.ms.length r.ms.length) (η p2 r.mds.length r.mds.length) (η p3 r.wks.length r.wks.length) (η p4 r.pls.length r.pls.length) r.ws (gD F')).length<=18;rw[V4];decide);have ag0:=ia KX;have ag1:w14.there w.heap.size 0 (ke (bU ((F 0).getD [])) st ln true (bX r.fq r.iv r.ct r.un (η p1 r.ms.length r.ms.length) (η p2 r.mds.length r.mds.length) (η p3 r.wks.length r.wks.length) (η p4 r.pls.length r.pls.length) r.ws (gD F')) (η a8 ex.length c8) (η a9 xt.length c9) tr k).toArray.size:=sF BZ (by show(ke (bU ((F 0).getD [])) st ln true (bX r.fq r.iv r.ct r.un (η p1 r.ms.length r.ms.length) (η p2 r.mds.length r.mds.length) (η p3 r.wks.length r.wks.length) (η p4 r.pls.length r.pls.length) r.ws (gD F')) (η a8 ex.length c8) (η a9 xt.length c9) tr k).length=_;rw[yS,xO _ _ _ _ _ _ _ _ _ rfl]);have o13:(bX r.fq r.iv r.ct r.un (η p1 r.ms.length r.ms.length) (η p2 r.mds.length r.mds.length) (η p3 r.wks.length r.wks.length) (η p4 r.pls.length r.pls.length) r.ws (gD F')).toArray.all (·.oneCell')=true:=all_oneCell_toArray (Br _ _ _ _ _ _ _ _ _ _ _ _ _ _ _ _ _ _);have o14:(ke (bU ((F 0).getD [])) st ln true (bX r.fq r.iv r.ct r.un (η p1 r.ms.length r.ms.length) (η p2 r.mds.length r.mds.length) (η p3 r.wks.length r.wks.length) (η p4 r.pls.length r.pls.length) r.ws (gD F')) (η a8 ex.length c8) (η a9 xt.length c9) tr k).toArray.all (·.oneCell')=true:=all_oneCell_toArray (QG _ _ _ _ _ _ _ _ _ _ _ _ _ (Br _ _ _ _ _ _ _ _ _ _ _ _ _ _ _ _ _ _));have i13:(prog.info? 76).map (·.size)=some (bX r.fq r.iv r.ct r.un (η p1 r.ms.length r.ms.length) (η p2 r.mds.length r.mds.length) (η p3 r.wks.length r.wks.length) (η p4 r.pls.length r.pls.length) r.ws (gD F')).toArray.size:=ZF;have i14:(prog.info? 79).map (·.size)=some (ke (bU ((F 0).getD [])) st ln true (bX r.fq r.iv r.ct r.un (η p1 r.ms.length r.ms.length) (η p2 r.mds.length r.mds.length) (η p3 r.wks.length r.wks.length) (η p4 r.pls.length r.pls.length) r.ws (gD F')) (η a8 ex.length c8) (η a9 xt.length c9) tr k).length:=by rw[xO _ _ _ _ _ _ _ _ _ rfl];exact V7
       have H13:=H agZ;have H14:=H ag1;have HR:=H ag0;have ana:=H o13;have anb:=H o14;have anc:=H i13;have ag2:=H i14;clear agZ ag1 ag0 o13 o14 i13 i14;refine IZ _ _ ?_;clear IZ K2;have ane:=H (And.intro g14 (And.intro Wa (And.intro BZ (And.intro i1 (And.intro i2 (And.intro yU (And.intro j1 (And.intro j2 (And.intro j3 (And.intro j4 hIR))))))))));clear hIR j1 j2 j3 j4 SS acb g14 Wa KX BZ i1 i2 V9 Nh Ni agW yU eb q2 q3 q4 hm9;go_wp2_with (first
        |(refine wpList_store_mid rfl 76 (.tmp 59) (.tmp 58) rfl b 4 (bX r.fq r.iv r.ct r.un (η p1 r.ms.length r.ms.length) (η p2 r.mds.length r.mds.length) (η p3 r.wks.length r.wks.length) (η p4 r.pls.length r.pls.length) r.ws (gD F')).toArray rfl rfl H13.out anc.out ana.out ?_;rw[show(bX r.fq r.iv r.ct r.un (η p1 r.ms.length r.ms.length) (η p2 r.mds.length r.mds.length) (η p3 r.wks.length r.wks.length) (η p4 r.pls.length r.pls.length) r.ws (gD F')).toArray.toList=(bX r.fq r.iv r.ct r.un (η p1 r.ms.length r.ms.length) (η p2 r.mds.length r.mds.length) (η p3 r.wks.length r.wks.length) (η p4 r.pls.length r.pls.length) r.ws (gD F'))from rfl,<-am9.out])
        |(refine wpList_load_mid rfl 79 (.tmp 4) rfl b 0 rfl (ke (bU ((F 0).getD [])) st ln true (bX r.fq r.iv r.ct r.un (η p1 r.ms.length r.ms.length) (η p2 r.mds.length r.mds.length) (η p3 r.wks.length r.wks.length) (η p4 r.pls.length r.pls.length) r.ws (gD F')) (η a8 ex.length c8) (η a9 xt.length c9) tr k) _ HR.out underlying79 rfl ag2.out ?_)
        |(refine wpList_store_mid rfl 79 (.tmp 2) (.tmp 60) rfl w.heap.size 0 (ke (bU ((F 0).getD [])) st ln true (bX r.fq r.iv r.ct r.un (η p1 r.ms.length r.ms.length) (η p2 r.mds.length r.mds.length) (η p3 r.wks.length r.wks.length) (η p4 r.pls.length r.pls.length) r.ws (gD F')) (η a8 ex.length c8) (η a9 xt.length c9) tr k).toArray rfl rfl H14.out ag2.out anb.out ?_))
       obtain⟨g14,Wa,BZ,i1,i2,yU,j1,j2,j3,j4,hIR⟩:=ane.out;obtain⟨lW,ZI,HJ⟩:=KV (vs:=(ke (bU ((F 0).getD [])) st ln true (bX r.fq r.iv r.ct r.un (η p1 r.ms.length r.ms.length) (η p2 r.mds.length r.mds.length) (η p3 r.wks.length r.wks.length) (η p4 r.pls.length r.pls.length) r.ws (gD F')) (η a8 ex.length c8) (η a9 xt.length c9) tr k)) (o:=0) BZ Wa (μ _);rw[uG _ fB (by rw[yS,xO _ _ _ _ _ _ _ _ _ rfl])]at HJ;exact bodyPost_ret (v:=zI (bU ((F 0).getD [])) st ln true (bX r.fq r.iv r.ct r.un (η p1 r.ms.length r.ms.length) (η p2 r.mds.length r.mds.length) (η p3 r.wks.length r.wks.length) (η p4 r.pls.length r.pls.length) r.ws (gD F')) (η a8 ex.length c8) (η a9 xt.length c9) tr k) (pJ results43 rfl (run_loadVar_mid _ w.heap.size 0 79 (ke (bU ((F 0).getD [])) st ln true (bX r.fq r.iv r.ct r.un (η p1 r.ms.length r.ms.length) (η p2 r.mds.length r.mds.length) (η p3 r.wks.length r.wks.length) (η p4 r.pls.length r.pls.length) r.ws (gD F')) (η a8 ex.length c8) (η a9 xt.length c9) tr k) _ (ia HJ) underlying79 rfl (by kernel_rfl))) rfl
        ⟨.inl ⟨F,tr,k,st,ln,ex,xt,HD.out,HTA.out,_,_,((i1.on yU).gr ij g14).gr ij lW,((i2.on yU).gr ij g14).gr ij lW,.inr ⟨v,F',r,_,_,_,_,H4.out,hIR,(j1.gr ij g14).gr ij lW,(j2.gr ij g14).gr ij lW,(j3.gr ab2 g14).gr ab2 lW,(j4.gr ij g14).gr ij lW,rfl⟩⟩,ZI⟩
theorem zJ (b:Nat):∀(vs:List Value) (o:Nat) (w:ν),(w.setCells b o vs).heap.size=w.heap.size
 |[],_,_=>rfl
 |v::r,o,w=>by rw[World.setCells,zJ b r];exact fZ _ _ _
theorem xP (b:Nat):∀(vs:List Value) (o:Nat) (w:ν) (k:Nat),k≠b->(w.setCells b o vs).heap[k]?=w.heap[k]?
 |[],_,_,_,_=>rfl
 |v::r,o,w,k,h=>by rw[World.setCells,xP b r (o+1) _ k h];exact Γ _ _ _ _ h
theorem BM {T:π}{b:Nat}:∀{vs:List Value} {o:Nat} {w:ν} {cs:List Value},M w b cs T->M (w.setCells b o vs) b (Eh o vs cs) T
 |[],_,_,_,h=>h
 |v::_,o,_,_,h=>BM (o:=o+1) (h.set (k:=o) v)
theorem QJ (b:Nat):∀(vs:List Value) (o:Nat) (w:ν),(w.setCells b o vs).os=w.os/\(w.setCells b o vs).tape=w.tape/\(w.setCells b o vs).output=w.output
 |[],_,_=>⟨rfl,rfl,rfl⟩
 |v::r,o,w=>by
  obtain⟨G,A,K⟩:=QJ b r (o+1) (w.setCell ⟨b,o,none⟩ v);rw[World.setCells];exact⟨G.trans (by simp[Δ]),A.trans (by simp[Δ]),K.trans (by simp[Δ])⟩
end
section
section
variable {P:Program} {ops:Array Κ} {Q:Exit->Act->ν->Prop} {o:Κ} {rest:List Κ} {a:Act} {w:ν}
theorem ow {zs:List Value}{T:π}(pD:o.guard=none)(hr:(execOp a.eval o).run P w=.ok (.value (ζ (some ⟨w.heap.size,0,none⟩))) (w.alloc (ι zs.toArray T)))
 (hK:∀Y,M Y w.heap.size zs T->Y.heap.size=w.heap.size+1->Below w.heap.size w Y->wpList P ops Q rest (a.put o.dst (ζ (some ⟨w.heap.size,0,none⟩))) Y):wpList P ops Q (o::rest) a w:=
 Ju pD hr (hK _ (M.new w zs T) (by simp) ((κ _ _).alloc (μ _) _))
theorem Dy (b o:Nat)(vs:List Value)(w:ν):ak (λk=>k=b) w (w.setCells b o vs):=by
 obtain⟨y1,y2,y3⟩:=QJ b vs o w;exact⟨y1,y2,y3,by rw[zJ];exact μ _,λk _ I=>xP b vs o w k I⟩
theorem ox {T:π}{x y:Operand}{b:Nat}{vs cs:List Value}(pD:o.guard=none)(ho:o.op=.store T x y)(X:a.eval x=ζ (some ⟨b,0,none⟩))(hy:a.eval y=.agg vs.toArray)(aB:M w b cs T)(N:cs.length=vs.length)
 (S:(P.info? T).map (·.size)=some vs.length)(G:∀v∈vs,v.oneCell'=true)(hK:∀Y,M Y b vs T->ak (λk=>k=b) w Y->wpList P ops Q rest (a.put o.dst undef) Y):wpList P ops Q (o::rest) a w:=by
 have vI:=BM (vs:=vs) (o:=0) aB;rw[uG vs cs N]at vI;refine wpList_store_mid pD T x y ho b 0 vs.toArray X hy (sF aB (by rw[Η];exact N.symm)) (by rw[Η];exact S) (all_oneCell_toArray G) ?_;exact hK _ vI (Dy b 0 vs w)
theorem Ay {T:π}{x:Operand}{b:Nat}{cs:List Value}{d:TypeDesc}(pD:o.guard=none)(ho:o.op=.load T x)(X:a.eval x=ζ (some ⟨b,0,none⟩))(aB:M w b cs T)
 (hu:P.underlying T=some d)(hd:d.isRow=true)(S:(P.info? T).map (·.size)=some cs.length)(hK:wpList P ops Q rest (a.put o.dst (.agg cs.toArray)) w):wpList P ops Q (o::rest) a w:=
 wpList_load_mid pD T x ho b 0 X cs d (ia aB) hu hd S hK
end
theorem M.aL {w Y:ν}{O:Nat->Prop}{b:Nat}{cs:List Value}{T:π}(h:M w b cs T)(X:ak O w Y)(U:¬O b):M Y b cs T:=by
 unfold M at h⊢;rw[X.block b (Array.getElem?_eq_some_iff.1 h).1 U];exact h
end
open Go.Sort
def aW (n:Int):Value:=cS (ag.aq n) (ag.ofM n) (ag.aA n)
theorem QK (l:Int):ag.yr l=l*400/146097+1\/ag.yr l=l*400/146097:=by
 unfold ag.yr;split
 ·exact .inl rfl
 exact .inr rfl
theorem lE (n:Int)(h0:-700000<=n)(G:n<=900000):1<=ag.aq n/\ag.aq n<=9000/\1<=ag.ofM n/\ag.ofM n<=12/\1<=ag.aA n/\ag.aA n<=31:=by
 obtain⟨a,b,c,d⟩:=ag.lj n (by omega);have hm:=ag.rJ (ag.aq n) (ag.ofM n);have hy:1<=ag.aq n/\ag.aq n<=9000:=by
  unfold ag.aq;have:=QK (n+719468);split<;>omega
 exact⟨hy.1,hy.2,a,b,c,by omega⟩
theorem Nj {y m d:Int}(hy:1<=y)(h:ag.Valid y m d):aW (ag.num y m d)=cS y m d:=by
 have:=(ag.IA hy (by have:=h.1;omega) (by have:=h.2.2.1;omega)).2 h;unfold aW;rw[this.1,this.2.1,this.2.2]
theorem adM (n:Int)(h0:-700000<=n)(G:n<=900000)(h:ag.aA n<28):cS (ag.aq n) (ag.ofM n) (ag.aA n+1)=aW (n+1):=by
 have hr:=lE n h0 G;have hm:=ag.rJ (ag.aq n) (ag.ofM n);have hv:ag.Valid (ag.aq n) (ag.ofM n) (ag.aA n+1):=⟨by omega,by omega,by omega,by omega⟩;rw[<-Nj (by omega) hv];have e1:=ag.oU (ag.aq n) (ag.ofM n) (ag.aA n+1);have e2:=ag.oU (ag.aq n) (ag.ofM n) (ag.aA n);have e3:=ag.nV n (by omega);rw[show ag.num (ag.aq n) (ag.ofM n) (ag.aA n+1)=n+1 from by omega]
theorem Wb {a b:Int}(ha:-700000<=a)(U:-700000<=b)(h:aW a=aW b):a=b:=by
 have e1:=ag.nV a (by omega);have e2:=ag.nV b (by omega);unfold aW cS at h;simp only[Value.agg.injEq,Array.mk.injEq,List.cons.injEq,Value.int.injEq,and_true,true_and]at h;rw[<-e1,<-e2,h.1,h.2.1,h.2.2]
theorem bW {w:ν}{g:Nat}{a b c:Value}{t:π}(h:M w g [a,b,c] t):
 w.cell? ⟨g,0,none⟩=some a/\w.cell? ⟨g,1,none⟩=some b/\w.cell? ⟨g,2,none⟩=some c/\w.frozen? ⟨g,0,none⟩=false/\w.frozen? ⟨g,1,none⟩=false/\w.frozen? ⟨g,2,none⟩=false:=
 ⟨h.cell rfl,h.cell rfl,h.cell rfl,h.free,h.free,h.free⟩
theorem Ej (n:Int)(w:ν)(h0:-700000<=n)(G:n<=900000):
 ξ prog 120 #[aW n] w λe Y=>e=δ (V Z n)/\Below w.heap.size w Y:=by
 have hr:=lE n h0 G;have e3:=ag.nV n (by omega);have:=sV (ag.aq n) (ag.ofM n) (ag.aA n) w (by omega) (by omega) (by omega) (by omega) (by omega) (by omega);rw[e3]at this;exact this
theorem H0 (n:Int)(w:ν)(h0:-700000<=n)(G:n<=900000):
 ξ prog 64 #[aW n] w λe Y=>e=δ (V Z (n*86400))/\Below w.heap.size w Y:=by
 have hr:=lE n h0 G;have e3:=ag.nV n (by omega);have:=mH (ag.aq n) (ag.ofM n) (ag.aA n) w (by omega) (by omega) (by omega) (by omega) (by omega) (by omega);rw[e3]at this;exact this
theorem anf (n:Int)(w:ν)(h0:-700000<=n)(G:n<=900000):
 ξ prog 121 #[V Z n] w λe Y=>e=δ (aW n)/\Below w.heap.size w Y:=yi n w (by omega) (by omega)
theorem qX (n:Int)(w:ν)(h0:0<=n)(G:n<=7258118400):
 ξ prog 66 #[V Z n] w λe Y=>e=δ (aW (n/86400))/\Below w.heap.size w Y:=EF n w h0 G
theorem Bs (n:Int)(w:ν)(h0:-700000<=n)(G:n<=900000):
 ξ prog 339 #[aW n] w λe Y=>e=δ (V Z ((n+719470)%7))/\Below w.heap.size w Y:=by
 have Nk:=Ej n;unfold aW cS at Nk⊢;go_enter func339,ntmps339;go_wp2_with (go_at_call 120;refine(Nk _ h0 G).mono ?_;rintro e w1 ⟨rfl,U⟩);go_ret;have e:n+719468+2=n+719470:=by omega
 rw[e];exact⟨rfl,((κ _ _).alloc (μ _) _).trans (U.mono (by simp))⟩
theorem xQ (n c:Int)(w:ν)(h0:-700000<=n)(G:n<=900000)(k0:-700000<=n+c)(k1:n+c<=900000):
 ξ prog 351 #[aW n,V Z c] w λe Y=>e=δ (aW (n+c))/\Below w.heap.size w Y:=by
 have Nk:=Ej n;have hof:=anf (n+c);unfold aW cS at Nk hof⊢;go_enter func351,ntmps351;go_wp2_with fail;refine(Nk _ h0 G).mono ?_;rintro e w1 ⟨rfl,U⟩;have r1:=(M.new (w.alloc (ι #[V Z (ag.aq n),V Z (ag.ofM n),V Z (ag.aA n)] 106)) [V Z 0,V Z 0,V Z 0] 106).on U;have al:Below w.heap.size w w1:=(((κ _ _).alloc (μ _) _).alloc (by simp) _).trans (U.mono (by simp;omega));have hz:w.heap.size+2<=w1.heap.size:=by have:=U.size;simpa using this
 clear U;simp only[φ]at r1;go_wp2_with fail;refine(hof _ k0 k1).mono ?_;rintro e w2 ⟨rfl,aO⟩;have r2:=r1.on aO;obtain⟨c0,c1,c2,f0,f1,f2⟩:=bW r2;go_wp2_with fail;exact bodyPost_ret (v:=.agg #[V Z (ag.aq (n+c)),V Z (ag.ofM (n+c)),V Z (ag.aA (n+c))]) (by simp[results,results351,go_sem,c0,c1,c2]) rfl ⟨rfl,(((al.trans (aO.mono al.size)).setCell (by simp) _).setCell (by simp) _).setCell (by simp) _⟩
theorem Wc (n:Int)(w:ν)(h0:-700000<=n)(G:n<=899999):
 ξ prog 359 #[aW n] w λe Y=>e=δ (aW (n+1))/\Below w.heap.size w Y:=by
 have hr:=lE n h0 (by omega);by_cases hd:ag.aA n<28
 case pos=>
  rw[<-adM n h0 (by omega) hd];unfold aW cS;go_enter func359,ntmps359;go_wp2_with fail;exact bodyPost_ret (v:=.agg #[V Z (ag.aq n),V Z (ag.ofM n),V Z (ag.aA n+1)]) (by simp[results,results359,go_sem]) rfl ⟨rfl,((κ _ _).alloc (μ _) _).alloc (by simp) _⟩
 case neg=>
  have qz:=xQ n 1;unfold aW cS at qz⊢;go_enter func359,ntmps359;go_wp2_with fail;refine(qz _ h0 (by omega) (by omega) (by omega)).mono ?_;rintro e w1 ⟨rfl,U⟩;have r1:=(M.new (w.alloc (ι #[V Z (ag.aq n),V Z (ag.ofM n),V Z (ag.aA n)] 106)) [V Z 0,V Z 0,V Z 0] 106).on U;have al:Below w.heap.size w w1:=(((κ _ _).alloc (μ _) _).alloc (by simp) _).trans (U.mono (by simp;omega));clear U;simp only[φ]at r1;obtain⟨c0,c1,c2,f0,f1,f2⟩:=bW r1;go_wp2_with fail;exact bodyPost_ret (v:=.agg #[V Z (ag.aq (n+1)),V Z (ag.ofM (n+1)),V Z (ag.aA (n+1))]) (by simp[results,results359,go_sem,c0,c1,c2]) rfl ⟨rfl,((al.setCell (by simp) _).setCell (by simp) _).setCell (by simp) _⟩
theorem Wd (W:ν)(n:Int)(D:Nat)(os:Array Obj)(h0:-700000<=n)(G:n<=900000):
 ξ prog 120 #[.agg #[V Z (ag.aq n),V Z (ag.ofM n),V Z (ag.aA n)]] (grow (redrawn W D) os) λe az=>e=δ (V Z n)/\∃p:τ,az=grow (redrawn W p.d) p.os:=
 ο (Ej n _ h0 G)
theorem SU (a b:Int)(w:ν)(h0:-700000<=a)(G:a<=900000)(k0:-700000<=b)(k1:b<=900000):
 ξ prog 358 #[aW a,aW b] w λe Y=>e=δ (V Z (b-a))/\Below w.heap.size w Y:=by
 unfold aW cS;go_enter func358,ntmps358;go_wp2_with fail;have al:Below w.heap.size w ((w.alloc (ι #[V Z (ag.aq a),V Z (ag.ofM a),V Z (ag.aA a)] 106)).alloc (ι #[V Z (ag.aq b),V Z (ag.ofM b),V Z (ag.aA b)] 106)):=((κ _ _).alloc (μ _) _).alloc (by simp) _;have r0:M ((w.alloc (ι #[V Z (ag.aq a),V Z (ag.ofM a),V Z (ag.aA a)] 106)).alloc (ι #[V Z (ag.aq b),V Z (ag.ofM b),V Z (ag.aA b)] 106)) w.heap.size [V Z (ag.aq a),V Z (ag.ofM a),V Z (ag.aA a)] 106:=(M.new w [V Z (ag.aq a),V Z (ag.ofM a),V Z (ag.aA a)] 106).on ((κ _ _).alloc (μ _) _);have r1:M ((w.alloc (ι #[V Z (ag.aq a),V Z (ag.ofM a),V Z (ag.aA a)] 106)).alloc (ι #[V Z (ag.aq b),V Z (ag.ofM b),V Z (ag.aA b)] 106)) (w.heap.size+1) [V Z (ag.aq b),V Z (ag.ofM b),V Z (ag.aA b)] 106:=by
  have:=M.new (w.alloc (ι #[V Z (ag.aq a),V Z (ag.ofM a),V Z (ag.aA a)] 106)) [V Z (ag.aq b),V Z (ag.ofM b),V Z (ag.aA b)] 106;simpa using this
 generalize(w.alloc (ι #[V Z (ag.aq a),V Z (ag.ofM a),V Z (ag.aA a)] 106)).alloc (ι #[V Z (ag.aq b),V Z (ag.ofM b),V Z (ag.aA b)] 106)=W at *
 obtain⟨c0,c1,c2,_,_,_⟩:=bW r0;obtain⟨d0,d1,d2,_,_,_⟩:=bW r1;have k0:=cell_regrown c0;have k1:=cell_regrown c1;have k2:=cell_regrown c2;have l0:=cell_regrown d0;have l1:=cell_regrown d1;have l2:=cell_regrown d2;clear c0 c1 c2 d0 d1 d2 r0 r1;refine wp_region_quiet_below (by kernel_rfl) (by kernel_rfl) ?_
 repeat(go_big_quiet_step (exact Wd W _ _ _ (by assumption) (by assumption)))
 refine wpQuiet_nil ?_;intro _ dD;obtain⟨⟨dq,gT⟩,ga⟩:=dD;subst ga;go_wp2_with fail;go_ret;exact⟨rfl,al.trans ((below_regrown W dq gT).mono al.size)⟩
def dy (a b:Int):Value:=.agg #[V Z (ag.aq a),V Z (ag.ofM a),V Z (ag.aA a),V Z (ag.aq b),V Z (ag.ofM b),V Z (ag.aA b)]
def se (a b:Int):List Value:=[V Z (ag.aq a),V Z (ag.ofM a),V Z (ag.aA a),V Z (ag.aq b),V Z (ag.ofM b),V Z (ag.aA b)]
def pn (a:Int):List Value:=[V Z (ag.aq a),V Z (ag.ofM a),V Z (ag.aA a)]
theorem kg {w:ν}{g:Nat}{a b c d e f:Value}{t:π}(h:M w g [a,b,c,d,e,f] t):
 (w.cell? ⟨g,0,none⟩=some a/\w.cell? ⟨g,1,none⟩=some b/\w.cell? ⟨g,2,none⟩=some c/\w.cell? ⟨g,3,none⟩=some d/\w.cell? ⟨g,4,none⟩=some e/\w.cell? ⟨g,5,none⟩=some f)/\
 (w.frozen? ⟨g,0,none⟩=false/\w.frozen? ⟨g,1,none⟩=false/\w.frozen? ⟨g,2,none⟩=false/\w.frozen? ⟨g,3,none⟩=false/\w.frozen? ⟨g,4,none⟩=false/\w.frozen? ⟨g,5,none⟩=false):=
 ⟨⟨h.cell rfl,h.cell rfl,h.cell rfl,h.cell rfl,h.cell rfl,h.cell rfl⟩,h.free,h.free,h.free,h.free,h.free,h.free⟩
theorem aiY (x:ν):Below x.heap.size x (x.alloc (ι #[V Z 0,V Z 0,V Z 0,V Z 0,V Z 0,V Z 0] 370)):=(κ _ _).alloc (μ _) _
theorem adN (n:Int)(w:ν)(h0:-700000<=n)(G:n<=899999):
 ξ prog 350 #[aW n] w λe Y=>e=δ (dy n (n+1))/\Below w.heap.size w Y:=by
 have dJ:=Wc n;unfold aW cS at dJ⊢;unfold dy;go_enter func350,ntmps350;go_wp2_with fail;have r0:=(M.new w [V Z (ag.aq n),V Z (ag.ofM n),V Z (ag.aA n)] 106);have r1:=(M.new (w.alloc (ι #[V Z (ag.aq n),V Z (ag.ofM n),V Z (ag.aA n)] 106)) [V Z 0,V Z 0,V Z 0,V Z 0,V Z 0,V Z 0] 370);have r0':=r0.on ((κ _ _).alloc (μ _) (ι #[V Z 0,V Z 0,V Z 0,V Z 0,V Z 0,V Z 0] 370));have al:Below w.heap.size w ((w.alloc (ι #[V Z (ag.aq n),V Z (ag.ofM n),V Z (ag.aA n)] 106)).alloc (ι #[V Z 0,V Z 0,V Z 0,V Z 0,V Z 0,V Z 0] 370)):=((κ _ _).alloc (μ _) _).alloc (by simp) _;clear r0;simp only[φ]at r1;generalize(w.alloc (ι #[V Z (ag.aq n),V Z (ag.ofM n),V Z (ag.aA n)] 106)).alloc (ι #[V Z 0,V Z 0,V Z 0,V Z 0,V Z 0,V Z 0] 370)=W at *
 obtain⟨c0,c1,c2,_,_,_⟩:=bW r0';go_region_with (go_at_call 359;refine(dJ _ h0 G).mono ?_;rintro e w2 ⟨rfl,aO⟩;have te:Below W.heap.size W w2:=⟨aO.os,aO.tape,aO.output,aO.size,aO.block⟩;obtain⟨q0,q1,q2,_,_,_⟩:=bW (r0'.on te);obtain⟨⟨z0,z1,z2,z3,z4,z5⟩,y0,y1,y2,y3,y4,y5⟩:=kg (r1.on te))
 all_goals go_wp2_with fail
 all_goals
  have qE:=al.trans (te.mono al.size);exact bodyPost_ret (v:=.agg #[V Z (ag.aq n),V Z (ag.ofM n),V Z (ag.aA n),V Z (ag.aq (n+1)),V Z (ag.ofM (n+1)),V Z (ag.aA (n+1))]) (by simp[results,results350,go_sem,z0,z1,z2,z3,z4,z5]) rfl ⟨rfl,((((((qE.setCell (by simp) _).setCell (by simp) _).setCell (by simp) _).setCell (by simp) _).setCell (by simp) _).setCell (by simp) _)⟩
def ez (n s:Int):Int:=((n+719470)%7-s+7)%7
theorem qY (n s:Int):0<=ez n s/\ez n s<=6:=by unfold ez;omega
theorem We (n s:Int)(w:ν)(h0:-699990<=n)(G:n<=899990)(s0:0<=s)(s1:s<=6):
 ξ prog 352 #[aW n,V Z s] w λe Y=>e=δ (dy (n-ez n s) (n-ez n s+7))/\Below w.heap.size w Y:=by
 have Nl:=Bs n;have lO:=xQ n (-(((n+719470)%7-s)%7));have E5:=xQ (n-ez n s) 7;have S:=qY n s;rw[show n+-(((n+719470)%7-s)%7)=n-ez n s from by unfold ez;omega]at lO;generalize hf:n-ez n s=f at *
 have kD:-700000<=f:=by omega
 have JB:f+7<=900000:=by omega
 have hw7:0<=(n+719470)%7/\(n+719470)%7<=6:=by omega
 have hi7:0<=((n+719470)%7-s+7)%7/\((n+719470)%7-s+7)%7<=6:=by omega
 generalize I:(n+719470)%7=k at *
 unfold aW cS at Nl lO E5⊢;unfold dy;go_enter func352,ntmps352;go_wp2_with fail;have rz:M ((w.alloc (ι #[V Z (ag.aq n),V Z (ag.ofM n),V Z (ag.aA n)] 106)).alloc (ι #[V Z 0,V Z 0,V Z 0,V Z 0,V Z 0,V Z 0] 370)) w.heap.size [V Z (ag.aq n),V Z (ag.ofM n),V Z (ag.aA n)] 106:=(M.new w [V Z (ag.aq n),V Z (ag.ofM n),V Z (ag.aA n)] 106).on ((κ _ _).alloc (μ _) _);have r1:=(M.new (w.alloc (ι #[V Z (ag.aq n),V Z (ag.ofM n),V Z (ag.aA n)] 106)) [V Z 0,V Z 0,V Z 0,V Z 0,V Z 0,V Z 0] 370);have al:Below w.heap.size w ((w.alloc (ι #[V Z (ag.aq n),V Z (ag.ofM n),V Z (ag.aA n)] 106)).alloc (ι #[V Z 0,V Z 0,V Z 0,V Z 0,V Z 0,V Z 0] 370)):=((κ _ _).alloc (μ _) _).alloc (by simp) _;simp only[φ]at r1;refine(Nl _ (by omega) (by omega)).mono ?_;rintro e w1 ⟨rfl,au⟩;replace rz:=rz.on au;replace r1:=r1.on au;replace al:=al.trans (au.mono al.size);have hz:w.heap.size+2<=w1.heap.size:=by have:=au.size;simpa using this
 clear au;obtain⟨c0,c1,c2,_,_,_⟩:=bW rz;go_wp2_with fail;refine(lO _ (by omega) (by omega) (by omega) (by omega)).mono ?_;rintro e w2 ⟨rfl,aO⟩;replace r1:=r1.on aO;replace al:=al.trans (aO.mono al.size);replace hz:w.heap.size+2<=w2.heap.size:=by have:=aO.size;omega
 clear aO c0 c1 c2 rz;go_wp2_with fail;have r2:=M.new w2 [V Z (ag.aq f),V Z (ag.ofM f),V Z (ag.aA f)] 106;replace r1:=r1.on ((κ _ _).alloc (μ _) (ι #[V Z (ag.aq f),V Z (ag.ofM f),V Z (ag.aA f)] 106));replace al:=al.alloc al.size (ι #[V Z (ag.aq f),V Z (ag.ofM f),V Z (ag.aA f)] 106);generalize(w2.alloc (ι #[V Z (ag.aq f),V Z (ag.ofM f),V Z (ag.aA f)] 106))=W at *
 obtain⟨c0,c1,c2,_,_,_⟩:=bW r2;go_region_with (go_at_call 351;refine(E5 _ (by omega) (by omega) (by omega) (by omega)).mono ?_;rintro e w3 ⟨rfl,aR⟩;have te:Below W.heap.size W w3:=⟨aR.os,aR.tape,aR.output,aR.size,aR.block⟩;obtain⟨q0,q1,q2,_,_,_⟩:=bW (r2.on te);obtain⟨⟨z0,z1,z2,z3,z4,z5⟩,y0,y1,y2,y3,y4,y5⟩:=kg (r1.on te))
 all_goals go_wp2_with fail
 all_goals
  have qE:=al.trans (te.mono al.size);exact bodyPost_ret (v:=.agg #[V Z (ag.aq f),V Z (ag.ofM f),V Z (ag.aA f),V Z (ag.aq (f+7)),V Z (ag.ofM (f+7)),V Z (ag.aA (f+7))]) (by simp[results,results352,go_sem,z0,z1,z2,z3,z4,z5]) rfl ⟨rfl,((((((qE.setCell (by simp) _).setCell (by simp) _).setCell (by simp) _).setCell (by simp) _).setCell (by simp) _).setCell (by simp) _)⟩
def cx (y m:Int):Int:=ag.num (y+(m-1)/12) ((m-1)%12+1) 1
theorem ZK (y m:Int)(hy:1<=y)(hm:1<=m):aW (cx y m)=cS (y+(m-1)/12) ((m-1)%12+1) 1:=by
 have hd:=ag.rJ (y+(m-1)/12) ((m-1)%12+1);exact Nj (by omega) ⟨by omega,by omega,by omega,by omega⟩
theorem Nn (y:Int)(hy:1<=y):aW (ag.num y 1 1)=cS y 1 1:=by
 have hd:=ag.rJ y 1;exact Nj (by omega) ⟨by omega,by omega,by omega,by omega⟩
theorem Bt (y m:Int)(w:ν)(y0:1<=y)(y1:y<=5000)(m0:1<=m)(m1:m<=100000):
 ξ prog 360 #[V Z y,V Z m] w λe Y=>e=δ (aW (cx y m))/\Below w.heap.size w Y:=by
 rw[ZK y m y0 m0];unfold cS;go_enter func360,ntmps360;go_wp2_with fail;exact bodyPost_ret (v:=.agg #[V Z (y+(m-1)/12),V Z ((m-1)%12+1),V Z 1]) (by simp[results,results360,go_sem]) rfl ⟨rfl,(κ _ _).alloc (μ _) _⟩
theorem H5 (y m:Int)(w:ν)(y0:1<=y)(y1:y<=5000)(m0:1<=m)(m1:m<=90000):
 ξ prog 353 #[V Z y,V Z m] w λe Y=>e=δ (dy (cx y m) (cx y (m+1)))/\Below w.heap.size w Y:=by
 have au:=λw=>Bt y m w y0 y1 m0 (by omega);have aO:=λw=>Bt y (m+1) w y0 y1 (by omega) (by omega);unfold aW cS at au aO;unfold dy;generalize cx y m=a at *
 generalize cx y (m+1)=b at *
 go_enter func353,ntmps353;go_wp2_with fail;have r1:=M.new w [V Z 0,V Z 0,V Z 0,V Z 0,V Z 0,V Z 0] 370;have al:=aiY w;refine(au _).mono ?_;rintro e w1 ⟨rfl,ID⟩;replace r1:=r1.on ID;replace al:=al.trans (ID.mono al.size);clear ID;go_wp2_with fail;refine(aO _).mono ?_;rintro e w2 ⟨rfl,Cl⟩;replace r1:=r1.on Cl;replace al:=al.trans (Cl.mono al.size);clear Cl;obtain⟨⟨z0,z1,z2,z3,z4,z5⟩,y0,y1,y2,y3,y4,y5⟩:=kg r1;go_wp2_with fail;exact bodyPost_ret (v:=.agg #[V Z (ag.aq a),V Z (ag.ofM a),V Z (ag.aA a),V Z (ag.aq b),V Z (ag.ofM b),V Z (ag.aA b)]) (by simp[results,results353,go_sem,z0,z1,z2,z3,z4,z5]) rfl ⟨rfl,((((((al.setCell (by simp) _).setCell (by simp) _).setCell (by simp) _).setCell (by simp) _).setCell (by simp) _).setCell (by simp) _)⟩
theorem Wf (y:Int)(w:ν)(y0:1<=y)(y1:y<=5000):
 ξ prog 354 #[V Z y] w λe Y=>e=δ (dy (ag.num y 1 1) (ag.num (y+1) 1 1))/\Below w.heap.size w Y:=by
 have e1:=Nn y y0;have e2:=Nn (y+1) (by omega);unfold aW cS at e1 e2;simp only[Value.agg.injEq,Array.mk.injEq,List.cons.injEq,Value.int.injEq,and_true,true_and]at e1 e2;unfold dy;rw[e1.1,e1.2.1,e1.2.2,e2.1,e2.2.1,e2.2.2];clear e1 e2;go_enter func354,ntmps354;go_wp2_with fail;exact bodyPost_ret (v:=.agg #[V Z y,V Z 1,V Z 1,V Z (y+1),V Z 1,V Z 1]) (by simp[results,results354,go_sem]) rfl ⟨rfl,(κ _ _).alloc (μ _) _⟩
theorem yV {w:ν}{v:Value}{zs:List Int}(x:Int)(h:cr w v zs)(U:zs.length<=1000):
 ξ prog 218 #[v,V Z x] w λe Y=>e=δ (.bool (zs.contains x))/\Below w.heap.size w Y:=by
 rcases h with⟨rfl,rfl⟩|⟨g,rfl,hr⟩
 ·refine(Tryz.slices_Contains_int_empty none 0 x w).mono ?_;rintro e Y ⟨rfl,rfl⟩;exact⟨rfl,κ _ _⟩
 refine(Tryz.slices_Contains_int g 0 zs.length zs.length zs x w (μ _) (by omega) (λj hj=>?_)).mono ?_
 ·rw[Ζ];exact hr.cell (by rw[List.getElem?_map,ρ hj,List.getD_eq_getElem?_getD,ρ hj];rfl)
 rintro e Y ⟨rfl,rfl⟩;exact⟨by rw[List.take_length],κ _ _⟩
structure eG (w:ν)(r:aC)(m md wk pl:Value):Prop where
 ms:cr w m r.ms
 mds:cr w md r.mds
 wks:gE w wk r.wks
 pls:cr w pl r.pls
theorem eG.on {w Y:ν}{r:aC}{m md wk pl:Value}(h:eG w r m md wk pl)(U:Below w.heap.size w Y):eG Y r m md wk pl:=⟨h.ms.on U,h.mds.on U,h.wks.on U,h.pls.on U⟩
structure eu (r:aC):Prop where
 Wg:0<=r.fq
 Wh:r.fq<=3
 F7:1<=r.iv
 iv9:r.iv<=100
 QL:0<=r.ct
 ct9:r.ct<=1000
 un0:0<=r.un
 un9:r.un<=9223372036854775807
 ms:r.ms.length<=100
 mds:r.mds.length<=100
 wks:r.wks.length<=100
 pls:r.pls.length<=100
 ord:∀p∈r.wks,-53<=p.1/\p.1<=53
 ws0:0<=r.ws
 ws6:r.ws<=6
def H6 (r:aC)(n:Int):Bool:=decide (r.ms.length=0)||r.ms.contains (ag.ofM n)
def sf (n:Int):Int:=cx (ag.aq n) (ag.ofM n+1)-n
def H7 (r:aC)(n:Int):Bool:=decide (r.mds.length=0)||r.mds.contains (ag.aA n)||r.mds.contains (-(sf n))
theorem OY (r:aC)(m md wk pl:Value)(tx:ByteArray)(n:Int)(w:ν)(N:eG w r m md wk pl)(ho:eu r):
 ξ prog 362 #[bC r.fq r.iv r.ct r.un m md wk pl r.ws tx,aW n] w λe Y=>e=δ (.bool (H6 r n))/\Below w.heap.size w Y:=by
 have hI:=N.ms;have G:=ho.ms;clear N ho;unfold bC aW cS H6;have hC:Α (∀W,Below w.heap.size w W->ξ prog 218 #[m,V Z (ag.ofM n)] W λe Y=>e=δ (.bool (r.ms.contains (ag.ofM n)))/\Below W.heap.size W Y):=H λW hW=>yV _ (hI.on hW) (by omega);obtain⟨am,rfl⟩:=hI.form;clear hI;generalize r.ms.contains (ag.ofM n)=B at *
 generalize hL:r.ms.length=L at *
 clear hL;by_cases hz:L=0
 case pos=>
  subst hz;go_enter func362,ntmps362;go_wp2_with fail;go_ret;exact⟨rfl,((κ _ _).alloc (μ _) _).alloc (by simp) _⟩
 case neg=>
  have IG:¬((L:Int)=0):=by omega
  go_enter func362,ntmps362;go_wp2_with fail;refine(hC.out _ (((κ _ _).alloc (μ _) _).alloc (by simp) _)).mono ?_;rintro e w1 ⟨rfl,U⟩;go_wp2_with fail;go_ret;exact⟨by simp[hz],(((κ _ _).alloc (μ _) _).alloc (by simp) _).trans (U.mono (by simp;omega))⟩
theorem QM (y m:Int)(y0:1800<=y)(y1:y<=3000)(m0:1<=m)(m1:m<=1300):-70000<=cx y m/\cx y m<=899000:=by
 have G:1800<=y+(m-1)/12/\y+(m-1)/12<=3110:=by omega
 have A:1<=(m-1)%12+1/\(m-1)%12+1<=12:=by omega
 unfold cx;generalize y+(m-1)/12=a at *
 generalize(m-1)%12+1=b at *
 unfold ag.num ag.ty ag.tm;split<;>omega
theorem ZL (a b:Int)(w:ν):(Instr.field 370 (dy a b) 1).run prog w=.ok (aW b) w:=by
 unfold dy aW cS Instr.field;simp[part,asAgg,go_sem]
theorem ZM (W:ν)(y m:Int)(D:Nat)(os:Array Obj)(y0:1<=y)(y1:y<=5000)(m0:1<=m)(m1:m<=90000):
 ξ prog 353 #[V Z y,V Z m] (grow (redrawn W D) os) λe az=>e=δ (dy (cx y m) (cx y (m+1)))/\∃p:τ,az=grow (redrawn W p.d) p.os:=
 ο (H5 y m _ y0 y1 m0 m1)
theorem acd (W:ν)(a b:Int)(D:Nat)(os:Array Obj)(h0:-700000<=a)(G:a<=900000)(k0:-700000<=b)(k1:b<=900000):
 ξ prog 358 #[.agg #[V Z (ag.aq a),V Z (ag.ofM a),V Z (ag.aA a)],.agg #[V Z (ag.aq b),V Z (ag.ofM b),V Z (ag.aA b)]] (grow (redrawn W D) os) λe az=>e=δ (V Z (b-a))/\∃p:τ,az=grow (redrawn W p.d) p.os:=
 ο (SU a b _ h0 G k0 k1)
theorem tW (n:Int)(h0:-10000<=n)(G:n<=300000):1900<=ag.aq n/\ag.aq n<=2900:=by
 unfold ag.aq;have:=QK (n+719468);split<;>omega
theorem KD (n:Int)(w:ν)(h0:-10000<=n)(G:n<=300000):
 ξ prog 365 #[aW n] w λe Y=>e=δ (V Z (sf n))/\Below w.heap.size w Y:=by
 have hr:=lE n (by omega) (by omega);have hy:=tW n h0 G;have U:=QM (ag.aq n) (ag.ofM n+1) (by omega) (by omega) (by omega) (by omega);unfold sf;have hM:Α (∀W D os,ξ prog 353 #[V Z (ag.aq n),V Z (ag.ofM n)] (grow (redrawn W D) os) λe az=>e=δ (dy (cx (ag.aq n) (ag.ofM n)) (cx (ag.aq n) (ag.ofM n+1)))/\∃p:τ,az=grow (redrawn W p.d) p.os):=
  H λW D os=>ZM W _ _ D os (by omega) (by omega) (by omega) (by omega)
 have hT:Α (∀W D os,ξ prog 358 #[.agg #[V Z (ag.aq n),V Z (ag.ofM n),V Z (ag.aA n)],aW (cx (ag.aq n) (ag.ofM n+1))] (grow (redrawn W D) os) λe az=>e=δ (V Z (cx (ag.aq n) (ag.ofM n+1)-n))/\∃p:τ,az=grow (redrawn W p.d) p.os):=
  H λW D os=>acd W _ _ D os (by omega) (by omega) (by omega) (by omega)
 generalize cx (ag.aq n) (ag.ofM n)=a at *
 generalize cx (ag.aq n) (ag.ofM n+1)=b at *
 have hs:=ZL a b;generalize dy a b=atI at *
 generalize aW b=T at *
 unfold aW cS;go_enter func365,ntmps365;go_wp2_with fail;have r0:=(M.new w [V Z (ag.aq n),V Z (ag.ofM n),V Z (ag.aA n)] 106);have al:Below w.heap.size w (w.alloc (ι #[V Z (ag.aq n),V Z (ag.ofM n),V Z (ag.aA n)] 106)):=(κ _ _).alloc (μ _) _;generalize(w.alloc (ι #[V Z (ag.aq n),V Z (ag.ofM n),V Z (ag.aA n)] 106))=W at *
 obtain⟨c0,c1,c2,_,_,_⟩:=bW r0;have k0:=cell_regrown c0;have k1:=cell_regrown c1;have k2:=cell_regrown c2;clear c0 c1 c2 r0;refine wp_region_quiet_below (by kernel_rfl) (by kernel_rfl) ?_
 repeat(go_big_quiet_step (first|exact hM.out W _ _|exact hT.out W _ _))
 refine wpQuiet_nil ?_;intro _ dD;obtain⟨⟨dq,gT⟩,ga⟩:=dD;subst ga;go_wp2_with fail;go_ret;exact⟨rfl,al.trans ((below_regrown W dq gT).mono al.size)⟩
theorem Dd {w:ν}{v:Value}{zs:List Int}(x:Int)(h:cr w v zs)(U:zs.length<=1000)(D:Nat)(os:Array Obj):
 ξ prog 218 #[v,V Z x] (grow (redrawn w D) os) λe az=>e=δ (.bool (zs.contains x))/\∃p:τ,az=grow (redrawn w p.d) p.os:=
 ο (yV x (h.on (below_regrown w D os)) U)
theorem H9 (r:aC)(m md wk pl:Value)(tx:ByteArray)(n:Int)(w:ν)(N:eG w r m md wk pl)(ho:eu r)(h0:-10000<=n)(G:n<=300000):
 ξ prog 363 #[bC r.fq r.iv r.ct r.un m md wk pl r.ws tx,aW n] w λe Y=>e=δ (.bool (H7 r n))/\Below w.heap.size w Y:=by
 have hI:=N.mds;have hq:=ho.mds;have hL0:-100000000<=sf n/\sf n<=100000000:=by
  have hr:=lE n (by omega) (by omega);have hy:=tW n h0 G;have U:=QM (ag.aq n) (ag.ofM n+1) (by omega) (by omega) (by omega) (by omega);unfold sf;omega
 clear N ho;have hC1:Α (∀W,Below w.heap.size w W->∀D os,ξ prog 218 #[md,V Z (ag.aA n)] (grow (redrawn W D) os) λe az=>e=δ (.bool (r.mds.contains (ag.aA n)))/\∃p:τ,az=grow (redrawn W p.d) p.os):=H λW hW D os=>Dd _ (hI.on hW) (by omega) D os;have hC2:Α (∀W,Below w.heap.size w W->∀D os,ξ prog 218 #[md,V Z (-(sf n))] (grow (redrawn W D) os) λe az=>e=δ (.bool (r.mds.contains (-(sf n))))/\∃p:τ,az=grow (redrawn W p.d) p.os):=H λW hW D os=>Dd _ (hI.on hW) (by omega) D os;have hF:Α (∀W D os,ξ prog 365 #[aW n] (grow (redrawn W D) os) λe az=>e=δ (V Z (sf n))/\∃p:τ,az=grow (redrawn W p.d) p.os):=H λW D os=>ο (KD n _ h0 G);obtain⟨am,rfl⟩:=hI.form;clear hI;unfold H7;unfold aW cS at hF;unfold bC aW cS;generalize sf n=LM at *
 generalize hB:r.mds.contains (ag.aA n)=B at *
 generalize Wi:r.mds.contains (-LM)=B2 at *
 generalize hL:r.mds.length=L at *
 clear hL hB Wi;go_enter func363,ntmps363;go_wp2_with fail;have r0:M ((w.alloc (ι #[V Z r.fq,V Z r.iv,V Z r.ct,V Z r.un,m,η am L L,wk,pl,V Z r.ws,θ tx] 76)).alloc (ι #[V Z (ag.aq n),V Z (ag.ofM n),V Z (ag.aA n)] 106)) w.heap.size [V Z r.fq,V Z r.iv,V Z r.ct,V Z r.un,m,η am L L,wk,pl,V Z r.ws,θ tx] 76:=(M.new w [V Z r.fq,V Z r.iv,V Z r.ct,V Z r.un,m,η am L L,wk,pl,V Z r.ws,θ tx] 76).on ((κ _ _).alloc (μ _) _);have r1:=M.new (w.alloc (ι #[V Z r.fq,V Z r.iv,V Z r.ct,V Z r.un,m,η am L L,wk,pl,V Z r.ws,θ tx] 76)) [V Z (ag.aq n),V Z (ag.ofM n),V Z (ag.aA n)] 106;simp only[φ]at r1;have al:Below w.heap.size w ((w.alloc (ι #[V Z r.fq,V Z r.iv,V Z r.ct,V Z r.un,m,η am L L,wk,pl,V Z r.ws,θ tx] 76)).alloc (ι #[V Z (ag.aq n),V Z (ag.ofM n),V Z (ag.aA n)] 106)):=((κ _ _).alloc (μ _) _).alloc (by simp) _;generalize((w.alloc (ι #[V Z r.fq,V Z r.iv,V Z r.ct,V Z r.un,m,η am L L,wk,pl,V Z r.ws,θ tx] 76)).alloc (ι #[V Z (ag.aq n),V Z (ag.ofM n),V Z (ag.aA n)] 106))=W at *
 have cm:W.cell? ⟨w.heap.size,5,none⟩=some (η am L L):=r0.cell rfl;obtain⟨c0,c1,c2,_,_,_⟩:=bW r1;have km:=cell_regrown cm;have k0:=cell_regrown c0;have k1:=cell_regrown c1;have k2:=cell_regrown c2;clear c0 c1 c2 r0 r1 cm;by_cases hz:L=0
 case pos=>
  subst hz;refine wp_region_quiet_below (by kernel_rfl) (by kernel_rfl) ?_
  repeat(go_big_quiet_step (fail))
  refine wpQuiet_nil ?_;intro _ dD;obtain⟨⟨dq,gT⟩,ga⟩:=dD;subst ga;go_wp2_with fail;go_ret;exact⟨by simp,al.trans ((below_regrown W dq gT).mono al.size)⟩
 case neg=>
  have IG:¬((L:Int)=0):=by omega
  have fN:((L:Int)==0)=false:=by simpa using hz
  cases B
  case true=>
   refine wp_region_quiet_below (by kernel_rfl) (by kernel_rfl) ?_
   repeat(go_big_quiet_step (first|exact hC1.out W al _ _))
   refine wpQuiet_nil ?_;intro _ dD;obtain⟨⟨dq,gT⟩,ga⟩:=dD;subst ga;go_wp2_with fail;go_ret;exact⟨by simp,al.trans ((below_regrown W dq gT).mono al.size)⟩
  case false=>
   refine wp_region_quiet_below (by kernel_rfl) (by kernel_rfl) ?_
   repeat(go_big_quiet_step (first|exact hC1.out W al _ _|exact hF.out W _ _|exact hC2.out W al _ _))
   refine wpQuiet_nil ?_;intro _ dD;obtain⟨⟨dq,gT⟩,ga⟩:=dD;subst ga;go_wp2_with fail;go_ret;exact⟨by simp[hz],al.trans ((below_regrown W dq gT).mono al.size)⟩
theorem ZN (n:Int)(h0:-10000<=n):cx (ag.aq n) (ag.ofM n)=ag.num (ag.aq n) (ag.ofM n) 1:=by
 obtain⟨a,b,c,d⟩:=ag.lj n (by omega);unfold cx;rw[show(ag.ofM n-1)/12=0 from by omega,show(ag.ofM n-1)%12+1=ag.ofM n from by omega,Int.add_zero]
theorem Wj (n:Int)(h0:-10000<=n):cx (ag.aq n) (ag.ofM n+1)=ag.num (ag.aq n) (ag.ofM n) 1+ag.md (ag.aq n) (ag.ofM n):=by
 obtain⟨a,b,c,d⟩:=ag.lj n (by omega);unfold cx;by_cases h:ag.ofM n=12
 ·rw[h,show(12+1-1:Int)/12=1 from rfl,show(12+1-1:Int)%12+1=1 from rfl,ag.aep];exact ag.BI _
 rw[show(ag.ofM n+1-1)/12=0 from by omega,show(ag.ofM n+1-1)%12+1=ag.ofM n+1 from by omega,Int.add_zero];exact ag.sh _ _ a (by omega)
theorem ju (n:Int)(h0:-10000<=n):cx (ag.aq n) (ag.ofM n)<=n/\n<cx (ag.aq n) (ag.ofM n+1)/\cx (ag.aq n) (ag.ofM n+1)<=n+400/\n-400<=cx (ag.aq n) (ag.ofM n):=by
 obtain⟨a,b,c,d⟩:=ag.lj n (by omega);have e:=ag.nV n (by omega);have e1:=ag.oU (ag.aq n) (ag.ofM n) (ag.aA n);have e2:=ag.rJ (ag.aq n) (ag.ofM n);rw[ZN n h0,Wj n h0];omega
theorem oq (n:Int)(h0:-10000<=n):ag.num (ag.aq n) 1 1<=n/\n<ag.num (ag.aq n+1) 1 1/\ag.num (ag.aq n+1) 1 1<=n+400/\n-400<=ag.num (ag.aq n) 1 1:=by
 have h:=ag.wZ (ag.lj n (by omega));rw[ag.nV n (by omega)]at h;have A:=ag.ua (ag.aq n);have K:ag.yd (ag.aq n)<=366:=by unfold ag.yd;split<;>omega
 omega
def Np (r:aC)(n:Int):Int:=if r.fq=3/\r.ms.length=0 then ag.num (ag.aq n) 1 1 else cx (ag.aq n) (ag.ofM n)
def Nq (r:aC)(n:Int):Int:=if r.fq=3/\r.ms.length=0 then ag.num (ag.aq n+1) 1 1 else cx (ag.aq n) (ag.ofM n+1)
def gM (r:aC)(n o:Int):Bool:=if 0<o then(n-Np r n)/7==o-1 else(Nq r n-1-n)/7==-o-1
theorem apK (r:aC)(n:Int)(h0:-10000<=n):Np r n<=n/\n<Nq r n/\Nq r n<=n+400/\n-400<=Np r n:=by
 unfold Np Nq;split
 ·exact oq n h0
 exact ju n h0
theorem bZ {w:ν}{g:Nat}{a b c d m md wk pl s t:Value}{T:π}(h:M w g [a,b,c,d,m,md,wk,pl,s,t] T):
 w.cell? ⟨g,0,none⟩=some a/\w.cell? ⟨g,1,none⟩=some b/\w.cell? ⟨g,2,none⟩=some c/\w.cell? ⟨g,3,none⟩=some d/\w.cell? ⟨g,4,none⟩=some m/\w.cell? ⟨g,5,none⟩=some md/\w.cell? ⟨g,6,none⟩=some wk/\w.cell? ⟨g,7,none⟩=some pl/\w.cell? ⟨g,8,none⟩=some s/\w.cell? ⟨g,9,none⟩=some t:=
 ⟨h.cell rfl,h.cell rfl,h.cell rfl,h.cell rfl,h.cell rfl,h.cell rfl,h.cell rfl,h.cell rfl,h.cell rfl,h.cell rfl⟩
theorem mP (w:ν)(a b:Obj):Below w.heap.size w ((w.alloc a).alloc b):=((κ _ _).alloc (μ _) _).alloc (by simp) _
theorem kK (w:ν)(cs:List Value)(t:π)(o:Obj):M ((w.alloc (ι cs.toArray t)).alloc o) w.heap.size cs t:=(M.new w cs t).on ((κ _ _).alloc (μ _) _)
theorem kM (w:ν)(cs:List Value)(t:π)(o:Obj):M ((w.alloc o).alloc (ι cs.toArray t)) (w.heap.size+1) cs t:=by
 have:=M.new (w.alloc o) cs t;simpa using this
theorem SV (r:aC)(m md wk pl:Value)(tx:ByteArray)(n o:Int)(w:ν)(N:eG w r m md wk pl)(ho:eu r)(h0:-10000<=n)(G:n<=300000)(o0:-53<=o)(o1:o<=53):
 ξ prog 366 #[bC r.fq r.iv r.ct r.un m md wk pl r.ws tx,aW n,V Z o] w λe Y=>e=δ (.bool (gM r n o))/\Below w.heap.size w Y:=by
 obtain⟨am,em⟩:=N.ms.form;have hq:=ho.ms;have kD:=ho.Wg;have VN:=ho.Wh;clear N ho;have hr:=lE n (by omega) (by omega);have hy:=tW n h0 G;have hma:=ju n h0;have hya:=oq n h0;have hM:Α (∀W,ξ prog 353 #[V Z (ag.aq n),V Z (ag.ofM n)] W λe Y=>e=δ (dy (cx (ag.aq n) (ag.ofM n)) (cx (ag.aq n) (ag.ofM n+1)))/\Below W.heap.size W Y):=H λW=>H5 _ _ W (by omega) (by omega) (by omega) (by omega);have hY:Α (∀W,ξ prog 354 #[V Z (ag.aq n)] W λe Y=>e=δ (dy (ag.num (ag.aq n) 1 1) (ag.num (ag.aq n+1) 1 1))/\Below W.heap.size W Y):=H λW=>Wf _ W (by omega) (by omega);have vj:Α (∀a W,n-400<=a->a<=n->ξ prog 358 #[aW a,aW n] W λe Y=>e=δ (V Z (n-a))/\Below W.heap.size W Y):=H λa W a0 a1=>SU a n W (by omega) (by omega) (by omega) (by omega);have hT2:Α (∀b W,b<=n+400->n<b->ξ prog 358 #[aW n,aW (b-1)] W λe Y=>e=δ (V Z (b-1-n))/\Below W.heap.size W Y):=H λb W a0 a1=>SU n (b-1) W (by omega) (by omega) (by omega) (by omega);have hP:Α (∀b W,b<=n+400->n<b->ξ prog 351 #[aW b,V Z (-1)] W λe Y=>e=δ (aW (b-1))/\Below W.heap.size W Y):=H λb W a0 a1=>by
  have:=xQ b (-1) W (by omega) (by omega) (by omega) (by omega);rwa [show b+-1=b-1 from by omega]at this
 unfold aW cS dy at *
 have p1:r.fq≠3->0<o->gM r n o=((n-cx (ag.aq n) (ag.ofM n))/7==o-1):=λa b=>by
  unfold gM Np;rw[if_pos b,if_neg (λh=>a h.1)]
 have p2:r.fq≠3->¬0<o->gM r n o=((cx (ag.aq n) (ag.ofM n+1)-1-n)/7==-o-1):=λa b=>by
  unfold gM Nq;rw[if_neg b,if_neg (λh=>a h.1)]
 have p3:r.ms.length≠0->0<o->gM r n o=((n-cx (ag.aq n) (ag.ofM n))/7==o-1):=λa b=>by
  unfold gM Np;rw[if_pos b,if_neg (λh=>a h.2)]
 have p4:r.ms.length≠0->¬0<o->gM r n o=((cx (ag.aq n) (ag.ofM n+1)-1-n)/7==-o-1):=λa b=>by
  unfold gM Nq;rw[if_neg b,if_neg (λh=>a h.2)]
 have p5:r.fq=3->r.ms.length=0->0<o->gM r n o=((n-ag.num (ag.aq n) 1 1)/7==o-1):=λa c b=>by
  unfold gM Np;rw[if_pos b,if_pos ⟨a,c⟩]
 have p6:r.fq=3->r.ms.length=0->¬0<o->gM r n o=((ag.num (ag.aq n+1) 1 1-1-n)/7==-o-1):=λa c b=>by
  unfold gM Nq;rw[if_neg b,if_pos ⟨a,c⟩]
 generalize gM r n o=PB at *
 replace p1:=H p1;replace p2:=H p2;replace p3:=H p3;replace p4:=H p4;replace p5:=H p5;replace p6:=H p6;unfold bC;subst em;generalize ag.num (ag.aq n) 1 1=ya at *
 generalize ag.num (ag.aq n+1) 1 1=yb at *
 generalize cx (ag.aq n) (ag.ofM n)=ma at *
 generalize cx (ag.aq n) (ag.ofM n+1)=mb at *
 generalize hL:r.ms.length=L at *
 clear hL;go_enter func366,ntmps366;go_wp2_with fail;have r0:=kK w [V Z r.fq,V Z r.iv,V Z r.ct,V Z r.un,η am L L,md,wk,pl,V Z r.ws,θ tx] 76 (ι #[V Z (ag.aq n),V Z (ag.ofM n),V Z (ag.aA n)] 106);have r1:=kM w [V Z (ag.aq n),V Z (ag.ofM n),V Z (ag.aA n)] 106 (ι #[V Z r.fq,V Z r.iv,V Z r.ct,V Z r.un,η am L L,md,wk,pl,V Z r.ws,θ tx] 76);have al:=mP w (ι #[V Z r.fq,V Z r.iv,V Z r.ct,V Z r.un,η am L L,md,wk,pl,V Z r.ws,θ tx] 76) (ι #[V Z (ag.aq n),V Z (ag.ofM n),V Z (ag.aA n)] 106);refine(hM.out _).mono ?_;rintro e w1 ⟨rfl,au⟩;replace r0:=r0.on au;replace r1:=r1.on au;replace al:=al.trans (au.mono al.size);have hz:w.heap.size+2<=w1.heap.size:=by have:=au.size;simpa using this
 clear au;have ra:=M.new w1 [V Z (ag.aq ma),V Z (ag.ofM ma),V Z (ag.aA ma),V Z (ag.aq mb),V Z (ag.ofM mb),V Z (ag.aA mb)] 370;have ba:Below w1.heap.size w1 (w1.alloc (ι #[V Z (ag.aq ma),V Z (ag.ofM ma),V Z (ag.aA ma),V Z (ag.aq mb),V Z (ag.ofM mb),V Z (ag.aA mb)] 370)):=(κ _ _).alloc (μ _) _;replace r0:=r0.on ba;replace r1:=r1.on ba;replace al:=al.trans (ba.mono al.size);have UE:w1.heap.size<(w1.alloc (ι #[V Z (ag.aq ma),V Z (ag.ofM ma),V Z (ag.aA ma),V Z (ag.aq mb),V Z (ag.ofM mb),V Z (ag.aA mb)] 370)).heap.size:=by simp
 clear ba;have eW:w1.alloc (.cells [V Z (ag.aq ma),V Z (ag.ofM ma),V Z (ag.aA ma),V Z (ag.aq mb),V Z (ag.ofM mb),V Z (ag.aA mb)].toArray 370)=w1.alloc (ι #[V Z (ag.aq ma),V Z (ag.ofM ma),V Z (ag.aA ma),V Z (ag.aq mb),V Z (ag.ofM mb),V Z (ag.aA mb)] 370):=rfl;rw[eW]at ra;clear eW;obtain⟨q0,q1,q2,q3,q4,_,_,_,_,_⟩:=bZ r0;obtain⟨c0,c1,c2,_,_,_⟩:=bW r1;obtain⟨⟨z0,z1,z2,z3,z4,z5⟩,y0,y1,y2,y3,y4,y5⟩:=kg ra;by_cases hf:r.fq=3
 case neg=>
  have Nr:(r.fq==3)=false:=by simpa using hf
  by_cases J:0<o
  case pos=>
   go_wp2_with fail;refine(vj.out ma _ (by omega) (by omega)).mono ?_;rintro e w5 ⟨rfl,bJ⟩;go_wp2_with fail;go_ret;exact⟨by rw[p1.out hf J];rfl,al.trans (bJ.mono al.size)⟩
  case neg=>
   have Aa:o<=0:=by omega
   go_wp2_with fail;refine(hP.out mb _ (by omega) (by omega)).mono ?_;rintro e w5 ⟨rfl,bJ⟩;have r5:=r1.on bJ;replace al:=al.trans (bJ.mono al.size);clear c0 c1 c2 z0 z1 z2 z3 z4 z5 y0 y1 y2 y3 y4 y5;have ti:w.heap.size+2<=w5.heap.size:=by have:=bJ.size;have:=r1.lt;omega
   have r6:=r5.on ((κ _ _).alloc (μ _) (ι #[V Z (ag.aq (mb-1)),V Z (ag.ofM (mb-1)),V Z (ag.aA (mb-1))] 106));obtain⟨c0,c1,c2,_,_,_⟩:=bW r5;obtain⟨d0,d1,d2,_,_,_⟩:=bW r6;go_wp2_with fail;refine(hT2.out mb _ (by omega) (by omega)).mono ?_;rintro e w6 ⟨rfl,cG⟩;go_wp2_with fail;go_ret;exact⟨by rw[p2.out hf J];rfl,(al.alloc al.size _).trans (cG.mono (by have:=al.size;simp;omega))⟩
 case pos=>
  by_cases hc:L=0
  case neg=>
   have uM:((L:Int)==0)=false:=by simpa using hc
   have Nr:(r.fq==3)=true:=by simpa using hf
   by_cases J:0<o
   case pos=>
    go_wp2_with fail;refine(vj.out ma _ (by omega) (by omega)).mono ?_;rintro e w5 ⟨rfl,bJ⟩;go_wp2_with fail;go_ret;exact⟨by rw[p3.out hc J];rfl,al.trans (bJ.mono al.size)⟩
   case neg=>
    have Aa:o<=0:=by omega
    go_wp2_with fail;refine(hP.out mb _ (by omega) (by omega)).mono ?_;rintro e w5 ⟨rfl,bJ⟩;have r5:=r1.on bJ;replace al:=al.trans (bJ.mono al.size);clear c0 c1 c2 z0 z1 z2 z3 z4 z5 y0 y1 y2 y3 y4 y5;have ti:w.heap.size+2<=w5.heap.size:=by have:=bJ.size;have:=r1.lt;omega
    have r6:=r5.on ((κ _ _).alloc (μ _) (ι #[V Z (ag.aq (mb-1)),V Z (ag.ofM (mb-1)),V Z (ag.aA (mb-1))] 106));obtain⟨c0,c1,c2,_,_,_⟩:=bW r5;obtain⟨d0,d1,d2,_,_,_⟩:=bW r6;go_wp2_with fail;refine(hT2.out mb _ (by omega) (by omega)).mono ?_;rintro e w6 ⟨rfl,cG⟩;go_wp2_with fail;go_ret;exact⟨by rw[p4.out hc J];rfl,(al.alloc al.size _).trans (cG.mono (by have:=al.size;simp;omega))⟩
  case pos=>
   subst hc;have Nr:(r.fq==3)=true:=by simpa using hf
   go_wp2_with fail;refine(hY.out _).mono ?_;rintro e w2 ⟨rfl,aO⟩;replace r1:=r1.on aO;replace ra:=ra.on aO;replace al:=al.trans (aO.mono al.size);have fN:w1.heap.size+1<=w2.heap.size:=by have:=aO.size;simpa using this
   clear aO q0 q1 q2 q3 q4 c0 c1 c2 z0 z1 z2 z3 z4 z5 y0 y1 y2 y3 y4 y5;obtain⟨⟨z0,z1,z2,z3,z4,z5⟩,y0,y1,y2,y3,y4,y5⟩:=kg ra;have df:w.heap.size+1≠w1.heap.size:=by omega
   have rY:M ((((((w2.setCell ⟨w1.heap.size,0,none⟩ (V Z (ag.aq ya))).setCell ⟨w1.heap.size,1,none⟩ (V Z (ag.ofM ya))).setCell ⟨w1.heap.size,2,none⟩ (V Z (ag.aA ya))).setCell ⟨w1.heap.size,3,none⟩ (V Z (ag.aq yb))).setCell ⟨w1.heap.size,4,none⟩ (V Z (ag.ofM yb))).setCell ⟨w1.heap.size,5,none⟩ (V Z (ag.aA yb))) w1.heap.size [V Z (ag.aq ya),V Z (ag.ofM ya),V Z (ag.aA ya),V Z (ag.aq yb),V Z (ag.ofM yb),V Z (ag.aA yb)] 370:=((((((ra.set (k:=0) _).set (k:=1) _).set (k:=2) _).set (k:=3) _).set (k:=4) _).set (k:=5) _);have r1Y:M ((((((w2.setCell ⟨w1.heap.size,0,none⟩ (V Z (ag.aq ya))).setCell ⟨w1.heap.size,1,none⟩ (V Z (ag.ofM ya))).setCell ⟨w1.heap.size,2,none⟩ (V Z (ag.aA ya))).setCell ⟨w1.heap.size,3,none⟩ (V Z (ag.aq yb))).setCell ⟨w1.heap.size,4,none⟩ (V Z (ag.ofM yb))).setCell ⟨w1.heap.size,5,none⟩ (V Z (ag.aA yb))) (w.heap.size+1) [V Z (ag.aq n),V Z (ag.ofM n),V Z (ag.aA n)] 106:=((((((r1.other df _).other df _).other df _).other df _).other df _).other df _);have uD:Below w.heap.size w ((((((w2.setCell ⟨w1.heap.size,0,none⟩ (V Z (ag.aq ya))).setCell ⟨w1.heap.size,1,none⟩ (V Z (ag.ofM ya))).setCell ⟨w1.heap.size,2,none⟩ (V Z (ag.aA ya))).setCell ⟨w1.heap.size,3,none⟩ (V Z (ag.aq yb))).setCell ⟨w1.heap.size,4,none⟩ (V Z (ag.ofM yb))).setCell ⟨w1.heap.size,5,none⟩ (V Z (ag.aA yb))):=((((((al.setCell (by show _<=w1.heap.size;omega) _).setCell (by show _<=w1.heap.size;omega) _).setCell (by show _<=w1.heap.size;omega) _).setCell (by show _<=w1.heap.size;omega) _).setCell (by show _<=w1.heap.size;omega) _).setCell (by show _<=w1.heap.size;omega) _);go_upto_region 4 with fail;clear z0 z1 z2 z3 z4 z5 y0 y1 y2 y3 y4 y5;generalize((((((w2.setCell ⟨w1.heap.size,0,none⟩ (V Z (ag.aq ya))).setCell ⟨w1.heap.size,1,none⟩ (V Z (ag.ofM ya))).setCell ⟨w1.heap.size,2,none⟩ (V Z (ag.aA ya))).setCell ⟨w1.heap.size,3,none⟩ (V Z (ag.aq yb))).setCell ⟨w1.heap.size,4,none⟩ (V Z (ag.ofM yb))).setCell ⟨w1.heap.size,5,none⟩ (V Z (ag.aA yb)))=W at *
   obtain⟨c0,c1,c2,_,_,_⟩:=bW r1Y;obtain⟨⟨z0,z1,z2,z3,z4,z5⟩,y0,y1,y2,y3,y4,y5⟩:=kg rY;by_cases J:0<o
   case pos=>
    go_wp2_with fail;refine(vj.out ya _ (by omega) (by omega)).mono ?_;rintro e w5 ⟨rfl,bJ⟩;go_wp2_with fail;go_ret;exact⟨by rw[p5.out hf (by simp) J];rfl,uD.trans (bJ.mono uD.size)⟩
   case neg=>
    have Aa:o<=0:=by omega
    go_wp2_with fail;refine(hP.out yb _ (by omega) (by omega)).mono ?_;rintro e w5 ⟨rfl,bJ⟩;have r5:=r1Y.on bJ;replace uD:=uD.trans (bJ.mono uD.size);clear c0 c1 c2 z0 z1 z2 z3 z4 z5 y0 y1 y2 y3 y4 y5;have ti:w.heap.size+2<=w5.heap.size:=by have:=bJ.size;have:=r1Y.lt;omega
    have r6:=r5.on ((κ _ _).alloc (μ _) (ι #[V Z (ag.aq (yb-1)),V Z (ag.ofM (yb-1)),V Z (ag.aA (yb-1))] 106));obtain⟨c0,c1,c2,_,_,_⟩:=bW r5;obtain⟨d0,d1,d2,_,_,_⟩:=bW r6;go_wp2_with fail;refine(hT2.out yb _ (by omega) (by omega)).mono ?_;rintro e w6 ⟨rfl,cG⟩;go_wp2_with fail;go_ret;exact⟨by rw[p6.out hf (by simp) J];rfl,(uD.alloc uD.size _).trans (cG.mono (by have:=uD.size;simp;omega))⟩
def aX (r:aC)(s k:Int):Int:=
 if r.fq=0 then s+k else if r.fq=1 then s+k*7-ez (s+k*7) r.ws else if r.fq=2 then cx (ag.aq s) (ag.ofM s+k)else ag.num (ag.aq s+k) 1 1
def iW (r:aC)(s k:Int):Int:=
 if r.fq=0 then s+k+1 else if r.fq=1 then s+k*7-ez (s+k*7) r.ws+7 else if r.fq=2 then cx (ag.aq s) (ag.ofM s+k+1)else ag.num (ag.aq s+k+1) 1 1
def dG (r:aC):Int:=if r.fq=0 then 200000 else if r.fq=1 then 25000 else if r.fq=2 then 6000 else 500
theorem iD (w:ν)(a b c:Obj):Below w.heap.size w (((w.alloc a).alloc b).alloc c):=(((κ _ _).alloc (μ _) _).alloc (by simp) _).alloc (by simp;omega) _
theorem lL (w:ν)(cs:List Value)(t:π)(b c:Obj):M (((w.alloc (ι cs.toArray t)).alloc b).alloc c) w.heap.size cs t:=((M.new w cs t).on ((κ _ _).alloc (μ _) _)).on ((κ _ _).alloc (μ _) _)
theorem lM (w:ν)(a:Obj)(cs:List Value)(t:π)(c:Obj):M (((w.alloc a).alloc (ι cs.toArray t)).alloc c) (w.heap.size+1) cs t:=by
 have:=(M.new (w.alloc a) cs t).on ((κ _ _).alloc (μ _) c);simpa using this
theorem lN (w:ν)(a b:Obj)(cs:List Value)(t:π):M (((w.alloc a).alloc b).alloc (ι cs.toArray t)) (w.heap.size+1+1) cs t:=by
 have:=M.new ((w.alloc a).alloc b) cs t;simpa using this
theorem ZO (r:aC)(m md wk pl:Value)(tx:ByteArray)(s k:Int)(w:ν)(N:eG w r m md wk pl)(ho:eu r)(s0:0<=s)(s1:s<=84010)(k0:0<=k)(k1:k<=dG r):
 ξ prog 342 #[bC r.fq r.iv r.ct r.un m md wk pl r.ws tx,aW s,V Z k] w λe Y=>e=δ (dy (aX r s k) (iW r s k))/\Below w.heap.size w Y:=by
 have kD:=ho.Wg;have VN:=ho.Wh;have hw0:=ho.ws0;have hw6:=ho.ws6;have hr:=lE s (by omega) (by omega);have hy:=tW s (by omega) (by omega);obtain⟨a1,e1⟩:=N.ms.form;obtain⟨a2,e2⟩:=N.mds.form;obtain⟨a3,e3⟩:=N.wks.form;obtain⟨a4,e4⟩:=N.pls.form;have hwi:=qY (s+k*7) r.ws;have FJ:Α (r.fq=0->∀W,ξ prog 351 #[aW s,V Z k] W λe Y=>e=δ (aW (s+k))/\Below W.heap.size W Y):=H λh W=>by
  unfold dG at k1;rw[if_pos h]at k1;exact xQ s k W (by omega) (by omega) (by omega) (by omega)
 have xR:Α (r.fq=0->∀W,ξ prog 350 #[aW (s+k)] W λe Y=>e=δ (dy (aX r s k) (iW r s k))/\Below W.heap.size W Y):=H λh W=>by
  unfold dG at k1;rw[if_pos h]at k1;unfold aX iW;rw[if_pos h,if_pos h];exact adN (s+k) W (by omega) (by omega)
 have pT:Α (r.fq=1->∀W,ξ prog 351 #[aW s,V Z (k*7)] W λe Y=>e=δ (aW (s+k*7))/\Below W.heap.size W Y):=H λh W=>by
  unfold dG at k1;rw[if_neg (by omega),if_pos h]at k1;exact xQ s (k*7) W (by omega) (by omega) (by omega) (by omega)
 have F9:Α (r.fq=1->∀W,ξ prog 352 #[aW (s+k*7),V Z r.ws] W λe Y=>e=δ (dy (aX r s k) (iW r s k))/\Below W.heap.size W Y):=H λh W=>by
  unfold dG at k1;rw[if_neg (by omega),if_pos h]at k1;unfold aX iW;rw[if_neg (by omega),if_pos h,if_neg (by omega),if_pos h];exact We (s+k*7) r.ws W (by omega) (by omega) (by omega) (by omega)
 have JO:Α (r.fq=2->∀W,ξ prog 353 #[V Z (ag.aq s),V Z (ag.ofM s+k)] W λe Y=>e=δ (dy (aX r s k) (iW r s k))/\Below W.heap.size W Y):=H λh W=>by
  unfold dG at k1;rw[if_neg (by omega),if_neg (by omega),if_pos h]at k1;unfold aX iW;rw[if_neg (by omega),if_neg (by omega),if_pos h,if_neg (by omega),if_neg (by omega),if_pos h];exact H5 (ag.aq s) (ag.ofM s+k) W (by omega) (by omega) (by omega) (by omega)
 have JP:Α (r.fq=3->∀W,ξ prog 354 #[V Z (ag.aq s+k)] W λe Y=>e=δ (dy (aX r s k) (iW r s k))/\Below W.heap.size W Y):=H λh W=>by
  unfold dG at k1;rw[if_neg (by omega),if_neg (by omega),if_neg (by omega)]at k1;unfold aX iW;rw[if_neg (by omega),if_neg (by omega),if_neg (by omega),if_neg (by omega),if_neg (by omega),if_neg (by omega)];exact Wf (ag.aq s+k) W (by omega) (by omega)
 have xk:k<=200000:=by
  unfold dG at k1;split at k1<;>(try split at k1)<;>(try split at k1)<;>omega
 clear k1 N ho;generalize aX r s k=atB at *
 generalize iW r s k=B at *
 generalize r.ms.length=n1 at *
 generalize r.mds.length=n2 at *
 generalize r.wks.length=n3 at *
 generalize r.pls.length=n4 at *
 generalize r.fq=fq at *
 generalize r.iv=iv at *
 generalize r.ct=ct at *
 generalize r.un=un at *
 generalize r.ws=ws at *
 subst e1 e2 e3 e4;unfold aW cS bC dy at *
 have r0:=lL w [V Z fq,V Z iv,V Z ct,V Z un,η a1 n1 n1,η a2 n2 n2,η a3 n3 n3,η a4 n4 n4,V Z ws,θ tx] 76 (ι #[V Z (ag.aq s),V Z (ag.ofM s),V Z (ag.aA s)] 106) (ι #[V Z 0,V Z 0,V Z 0,V Z 0,V Z 0,V Z 0] 370);have r1:=lM w (ι #[V Z fq,V Z iv,V Z ct,V Z un,η a1 n1 n1,η a2 n2 n2,η a3 n3 n3,η a4 n4 n4,V Z ws,θ tx] 76) [V Z (ag.aq s),V Z (ag.ofM s),V Z (ag.aA s)] 106 (ι #[V Z 0,V Z 0,V Z 0,V Z 0,V Z 0,V Z 0] 370);have r2:=lN w (ι #[V Z fq,V Z iv,V Z ct,V Z un,η a1 n1 n1,η a2 n2 n2,η a3 n3 n3,η a4 n4 n4,V Z ws,θ tx] 76) (ι #[V Z (ag.aq s),V Z (ag.ofM s),V Z (ag.aA s)] 106) [V Z 0,V Z 0,V Z 0,V Z 0,V Z 0,V Z 0] 370;have al:=iD w (ι #[V Z fq,V Z iv,V Z ct,V Z un,η a1 n1 n1,η a2 n2 n2,η a3 n3 n3,η a4 n4 n4,V Z ws,θ tx] 76) (ι #[V Z (ag.aq s),V Z (ag.ofM s),V Z (ag.aA s)] 106) (ι #[V Z 0,V Z 0,V Z 0,V Z 0,V Z 0,V Z 0] 370);go_enter func342,ntmps342;go_upto_region 1 with fail;generalize((w.alloc (ι #[V Z fq,V Z iv,V Z ct,V Z un,η a1 n1 n1,η a2 n2 n2,η a3 n3 n3,η a4 n4 n4,V Z ws,θ tx] 76)).alloc (ι #[V Z (ag.aq s),V Z (ag.ofM s),V Z (ag.aA s)] 106)).alloc (ι #[V Z 0,V Z 0,V Z 0,V Z 0,V Z 0,V Z 0] 370)=W at *
 obtain⟨g0,g1,g2,g3,g4,g5,g6,g7,g8,g9⟩:=bZ r0;obtain⟨c0,c1,c2,_,_,_⟩:=bW r1;rcases(by omega:fq=0\/fq=1\/fq=2\/fq=3)with rfl|rfl|rfl|rfl
 ·replace FJ:=H (FJ.out rfl);replace xR:=H (xR.out rfl);clear pT F9 JO JP;go_wp2_with fail;refine(FJ.out _).mono ?_;rintro e w3 ⟨rfl,aR⟩;go_wp2_with fail;refine(xR.out _).mono ?_;rintro e w4 ⟨rfl,cu⟩;replace al:=al.trans ((aR.trans (cu.mono aR.size)).mono al.size);obtain⟨⟨z0,z1,z2,z3,z4,z5⟩,y0,y1,y2,y3,y4,y5⟩:=kg ((r2.on aR).on cu);go_wp2_with fail;exact bodyPost_ret (v:=.agg #[V Z (ag.aq atB),V Z (ag.ofM atB),V Z (ag.aA atB),V Z (ag.aq B),V Z (ag.ofM B),V Z (ag.aA B)]) (by simp[results,results342,go_sem,z0,z1,z2,z3,z4,z5]) rfl ⟨rfl,((((((al.setCell (by simp;omega) _).setCell (by simp;omega) _).setCell (by simp;omega) _).setCell (by simp;omega) _).setCell (by simp;omega) _).setCell (by simp;omega) _)⟩
 ·replace pT:=H (pT.out rfl);replace F9:=H (F9.out rfl);clear FJ xR JO JP;have Mf:IntKind.i64.wrap (k*7)=k*7:=gN (by omega) (by omega);go_upto_region 6 with fail;go_region_with (first
   |(go_at_call 351;refine(pT.out _).mono ?_;rintro e w3 ⟨rfl,aR⟩;have SX:Below W.heap.size W w3:=⟨aR.os,aR.tape,aR.output,aR.size,aR.block⟩;have k8:=(r0.on SX).cell (k:=8) rfl)
   |(go_at_call 352;refine(F9.out _).mono ?_;rintro e w4 ⟨rfl,cu⟩;have Mq:Below w3.heap.size w3 w4:=⟨cu.os,cu.tape,cu.output,cu.size,cu.block⟩;obtain⟨⟨z0,z1,z2,z3,z4,z5⟩,y0,y1,y2,y3,y4,y5⟩:=kg ((r2.on SX).on Mq)))
  all_goals go_wp2_with fail
  all_goals
   have qE:=al.trans ((SX.trans (Mq.mono SX.size)).mono al.size);exact bodyPost_ret (v:=.agg #[V Z (ag.aq atB),V Z (ag.ofM atB),V Z (ag.aA atB),V Z (ag.aq B),V Z (ag.ofM B),V Z (ag.aA B)]) (by simp[results,results342,go_sem,z0,z1,z2,z3,z4,z5]) rfl ⟨rfl,((((((qE.setCell (by simp;omega) _).setCell (by simp;omega) _).setCell (by simp;omega) _).setCell (by simp;omega) _).setCell (by simp;omega) _).setCell (by simp;omega) _)⟩
 ·replace JO:=H (JO.out rfl);clear FJ xR pT F9 JP;go_wp2_with fail;refine(JO.out _).mono ?_;rintro e w4 ⟨rfl,cu⟩;replace al:=al.trans (cu.mono al.size);obtain⟨⟨z0,z1,z2,z3,z4,z5⟩,y0,y1,y2,y3,y4,y5⟩:=kg (r2.on cu);go_wp2_with fail;exact bodyPost_ret (v:=.agg #[V Z (ag.aq atB),V Z (ag.ofM atB),V Z (ag.aA atB),V Z (ag.aq B),V Z (ag.ofM B),V Z (ag.aA B)]) (by simp[results,results342,go_sem,z0,z1,z2,z3,z4,z5]) rfl ⟨rfl,((((((al.setCell (by simp;omega) _).setCell (by simp;omega) _).setCell (by simp;omega) _).setCell (by simp;omega) _).setCell (by simp;omega) _).setCell (by simp;omega) _)⟩
 replace JP:=H (JP.out rfl);clear FJ xR pT F9 JO;go_wp2_with fail;refine(JP.out _).mono ?_;rintro e w4 ⟨rfl,cu⟩;replace al:=al.trans (cu.mono al.size);obtain⟨⟨z0,z1,z2,z3,z4,z5⟩,y0,y1,y2,y3,y4,y5⟩:=kg (r2.on cu);go_wp2_with fail;exact bodyPost_ret (v:=.agg #[V Z (ag.aq atB),V Z (ag.ofM atB),V Z (ag.aA atB),V Z (ag.aq B),V Z (ag.ofM B),V Z (ag.aA B)]) (by simp[results,results342,go_sem,z0,z1,z2,z3,z4,z5]) rfl ⟨rfl,((((((al.setCell (by simp;omega) _).setCell (by simp;omega) _).setCell (by simp;omega) _).setCell (by simp;omega) _).setCell (by simp;omega) _).setCell (by simp;omega) _)⟩
theorem wb (y m:Int):cx y m+28<=cx y (m+1)/\cx y (m+1)<=cx y m+31:=by
 unfold cx;by_cases h:(m-1)%12=11
 ·rw[show y+(m+1-1)/12=y+(m-1)/12+1 from by omega,show(m+1-1)%12+1=1 from by omega,h,ag.BI,show(11+1:Int)=12 from rfl];omega
 rw[show y+(m+1-1)/12=y+(m-1)/12 from by omega,show(m+1-1)%12+1=(m-1)%12+1+1 from by omega];have e:=ag.sh (y+(m-1)/12) ((m-1)%12+1) (by omega) (by omega);have:=ag.rJ (y+(m-1)/12) ((m-1)%12+1);omega
theorem B0 (y m:Int)(k:Nat):cx y m+28*k<=cx y (m+k)/\cx y (m+k)<=cx y m+31*k:=by
 induction k with
 |zero=>simp
 |succ k ih=>
  have:=wb y (m+k);rw[show m+((k+1:Nat):Int)=m+k+1 from by omega];omega
theorem sN {y m y' m':Int}(h:12*y+m=12*y'+m'):cx y m=cx y' m':=by
 unfold cx;rw[show y+(m-1)/12=y'+(m'-1)/12 from by omega,show(m-1)%12=(m'-1)%12 from by omega]
theorem Ia {y m y' m':Int}(h:12*y+m<=12*y'+m'):cx y m<=cx y' m':=by
 obtain⟨k,I⟩:∃k:Nat,12*y'+m'=12*y+(m+k):=⟨(12*y'+m'-12*y-m).toNat,by omega⟩;rw[sN I];have:=(B0 y m k).1;omega
theorem Bu {a b:Int}(h0:-10000<=a)(h:a<=b):12*ag.aq a+ag.ofM a<=12*ag.aq b+ag.ofM b:=by
 have ha:=ju a h0;have U:=ju b (by omega);rcases Int.lt_or_le (12*ag.aq b+ag.ofM b) (12*ag.aq a+ag.ofM a)with aQ|MN
 ·have:=Ia (y:=ag.aq b) (m:=ag.ofM b+1) (y':=ag.aq a) (m':=ag.ofM a) (by omega);omega
 exact MN
theorem yW {a b:Int}(h0:-10000<=a)(h:a<=b):ag.aq a<=ag.aq b:=by
 have ha:=ag.lj a (by omega);have U:=ag.lj b (by omega);have:=Bu h0 h;obtain⟨a1,a2,_⟩:=ha;obtain⟨b1,b2,_⟩:=U;omega
def cf (r:aC)(s d:Int):Int:=
 if r.fq=0 then d-s else if r.fq=1 then(d-(s-ez s r.ws))/7 else if r.fq=2 then(ag.aq d-ag.aq s)*12+ag.ofM d-ag.ofM s else ag.aq d-ag.aq s
def fc (r:aC)(start from_:Int):Int:=
 if 0<r.ct\/from_<=start then 0 else cf r (start/86400) (from_/86400)-cf r (start/86400) (from_/86400)%r.iv
theorem ZP (a b:Int)(w:ν):(Instr.field 370 (dy a b) 0).run prog w=.ok (aW a) w:=by
 unfold dy aW cS Instr.field;simp[part,asAgg,go_sem]
theorem adO (W:ν)(n s:Int)(D:Nat)(os:Array Obj)(h0:-699990<=n)(G:n<=899990)(s0:0<=s)(s1:s<=6):
 ξ prog 352 #[aW n,V Z s] (grow (redrawn W D) os) λe az=>e=δ (dy (n-ez n s) (n-ez n s+7))/\∃p:τ,az=grow (redrawn W p.d) p.os:=
 ο (We n s _ h0 G s0 s1)
theorem SY (r:aC)(m md wk pl:Value)(tx:ByteArray)(s d:Int)(w:ν)(N:eG w r m md wk pl)(ho:eu r)(s0:0<=s)(s1:s<=d)(d1:d<=84010):
 ξ prog 349 #[bC r.fq r.iv r.ct r.un m md wk pl r.ws tx,aW s,aW d] w λe Y=>e=δ (V Z (cf r s d))/\Below w.heap.size w Y:=by
 have kD:=ho.Wg;have VN:=ho.Wh;have hw0:=ho.ws0;have hw6:=ho.ws6;have hr:=lE s (by omega) (by omega);have hrd:=lE d (by omega) (by omega);have hwi:=qY s r.ws;obtain⟨a1,e1⟩:=N.ms.form;obtain⟨a2,e2⟩:=N.mds.form;obtain⟨a3,e3⟩:=N.wks.form;obtain⟨a4,e4⟩:=N.pls.form;have h0:Α (r.fq=0->cf r s d=d-s):=H λh=>by unfold cf;rw[if_pos h]
 have G:Α (r.fq=1->cf r s d=(d-(s-ez s r.ws))/7):=H λh=>by unfold cf;rw[if_neg (by omega),if_pos h]
 have A:Α (r.fq=2->cf r s d=(ag.aq d-ag.aq s)*12+ag.ofM d-ag.ofM s):=H λh=>by unfold cf;rw[if_neg (by omega),if_neg (by omega),if_pos h]
 have K:Α (r.fq=3->cf r s d=ag.aq d-ag.aq s):=H λh=>by unfold cf;rw[if_neg (by omega),if_neg (by omega),if_neg (by omega)]
 have hT:Α (∀W,ξ prog 358 #[aW s,aW d] W λe Y=>e=δ (V Z (d-s))/\Below W.heap.size W Y):=H λW=>SU s d W (by omega) (by omega) (by omega) (by omega);have hW:Α (∀W D os,ξ prog 352 #[aW s,V Z r.ws] (grow (redrawn W D) os) λe az=>e=δ (dy (s-ez s r.ws) (s-ez s r.ws+7))/\∃p:τ,az=grow (redrawn W p.d) p.os):=H λW D os=>adO W s r.ws D os (by omega) (by omega) hw0 hw6;have vj:Α (∀W D os,ξ prog 358 #[aW (s-ez s r.ws),aW d] (grow (redrawn W D) os) λe az=>e=δ (V Z (d-(s-ez s r.ws)))/\∃p:τ,az=grow (redrawn W p.d) p.os):=H λW D os=>acd W (s-ez s r.ws) d D os (by omega) (by omega) (by omega) (by omega);clear N ho;have uu:-10<=s-ez s r.ws/\s-ez s r.ws<=d:=by omega
 have Wk:=ZP (s-ez s r.ws) (s-ez s r.ws+7);generalize dy (s-ez s r.ws) (s-ez s r.ws+7)=SP at *
 generalize hfw:s-ez s r.ws=fw at *
 clear hfw;generalize hDF:aW fw=DF at *
 clear hDF;generalize cf r s d=DD at *
 generalize r.ms.length=n1 at *
 generalize r.mds.length=n2 at *
 generalize r.wks.length=n3 at *
 generalize r.pls.length=n4 at *
 generalize r.fq=fq at *
 generalize r.iv=iv at *
 generalize r.ct=ct at *
 generalize r.un=un at *
 generalize r.ws=ws at *
 subst e1 e2 e3 e4;unfold aW cS bC at *
 have r0:=lL w [V Z fq,V Z iv,V Z ct,V Z un,η a1 n1 n1,η a2 n2 n2,η a3 n3 n3,η a4 n4 n4,V Z ws,θ tx] 76 (ι #[V Z (ag.aq s),V Z (ag.ofM s),V Z (ag.aA s)] 106) (ι #[V Z (ag.aq d),V Z (ag.ofM d),V Z (ag.aA d)] 106);have r1:=lM w (ι #[V Z fq,V Z iv,V Z ct,V Z un,η a1 n1 n1,η a2 n2 n2,η a3 n3 n3,η a4 n4 n4,V Z ws,θ tx] 76) [V Z (ag.aq s),V Z (ag.ofM s),V Z (ag.aA s)] 106 (ι #[V Z (ag.aq d),V Z (ag.ofM d),V Z (ag.aA d)] 106);have r2:=lN w (ι #[V Z fq,V Z iv,V Z ct,V Z un,η a1 n1 n1,η a2 n2 n2,η a3 n3 n3,η a4 n4 n4,V Z ws,θ tx] 76) (ι #[V Z (ag.aq s),V Z (ag.ofM s),V Z (ag.aA s)] 106) [V Z (ag.aq d),V Z (ag.ofM d),V Z (ag.aA d)] 106;have al:=iD w (ι #[V Z fq,V Z iv,V Z ct,V Z un,η a1 n1 n1,η a2 n2 n2,η a3 n3 n3,η a4 n4 n4,V Z ws,θ tx] 76) (ι #[V Z (ag.aq s),V Z (ag.ofM s),V Z (ag.aA s)] 106) (ι #[V Z (ag.aq d),V Z (ag.ofM d),V Z (ag.aA d)] 106);go_enter func349,ntmps349;go_upto_region 1 with fail;generalize((w.alloc (ι #[V Z fq,V Z iv,V Z ct,V Z un,η a1 n1 n1,η a2 n2 n2,η a3 n3 n3,η a4 n4 n4,V Z ws,θ tx] 76)).alloc (ι #[V Z (ag.aq s),V Z (ag.ofM s),V Z (ag.aA s)] 106)).alloc (ι #[V Z (ag.aq d),V Z (ag.ofM d),V Z (ag.aA d)] 106)=W at *
 obtain⟨g0,g1,g2,g3,g4,g5,g6,g7,g8,g9⟩:=bZ r0;obtain⟨c0,c1,c2,_,_,_⟩:=bW r1;obtain⟨d0,d1,d2,_,_,_⟩:=bW r2;rcases(by omega:fq=0\/fq=1\/fq=2\/fq=3)with rfl|rfl|rfl|rfl
 ·replace h0:=H (h0.out rfl);clear G A K;go_wp2_with fail;refine(hT.out _).mono ?_;rintro e w3 ⟨rfl,aR⟩;go_wp2_with fail;go_ret;exact⟨by rw[h0.out];rfl,al.trans (aR.mono al.size)⟩
 ·replace G:=H (G.out rfl);clear h0 A K;go_upto_region 6 with fail;have j8:=cell_regrown g8;have j0:=cell_regrown c0;have j1:=cell_regrown c1;have j2:=cell_regrown c2;have i0:=cell_regrown d0;have i1:=cell_regrown d1;have i2:=cell_regrown d2;clear g0 g1 g2 g3 g4 g5 g6 g7 g8 g9 c0 c1 c2 d0 d1 d2;refine wp_region_quiet_below (by kernel_rfl) (by kernel_rfl) ?_
  repeat(go_big_quiet_step (first|exact hW.out W _ _|exact vj.out W _ _))
  refine wpQuiet_nil ?_;intro _ dD;obtain⟨⟨dq,gT⟩,ga⟩:=dD;subst ga;go_wp2_with fail;go_ret;exact⟨by rw[G.out];rfl,al.trans ((below_regrown W dq gT).mono al.size)⟩
 ·replace A:=H (A.out rfl);clear h0 G K;go_wp2_with fail;go_ret;exact⟨by rw[A.out];rfl,al⟩
 replace K:=H (K.out rfl);clear h0 G A;go_wp2_with fail;go_ret;exact⟨by rw[K.out];rfl,al⟩
theorem ZQ (r:aC)(s d:Int)(s0:0<=s)(s1:s<=d)(d1:d<=84010):0<=cf r s d/\cf r s d<=200000:=by
 have hr:=lE s (by omega) (by omega);have hrd:=lE d (by omega) (by omega);have hys:=tW s (by omega) (by omega);have lZ:=tW d (by omega) (by omega);have hwi:=qY s r.ws;have hle:ag.aq s<=ag.aq d:=yW (by omega) s1;have hlm:=Bu (by omega) s1;unfold cf;split
 ·omega
 split
 ·omega
 split<;>omega
theorem Ga (r:aC)(m md wk pl:Value)(tx:ByteArray)(s f:Int)(w:ν)(N:eG w r m md wk pl)(ho:eu r)(s0:0<=s)(s1:s<=7258118400)(f0:-1000000000000<=f)(f1:f<=7258118400):
 ξ prog 341 #[bC r.fq r.iv r.ct r.un m md wk pl r.ws tx,V Z s,V Z f] w λe Y=>e=δ (V Z (fc r s f))/\Below w.heap.size w Y:=by
 have Wl:=ho.F7;have QI:=ho.iv9;have hct:=ho.QL;have hD:Α (s<f->∀W,Below w.heap.size w W->∀D os,ξ prog 349 #[bC r.fq r.iv r.ct r.un m md wk pl r.ws tx,aW (s/86400),aW (f/86400)] (grow (redrawn W D) os) λe az=>e=δ (V Z (cf r (s/86400) (f/86400)))/\∃p:τ,az=grow (redrawn W p.d) p.os):=
  H λh W U D os=>ο (SY r m md wk pl tx (s/86400) (f/86400) _ ((N.on U).on (below_regrown W D os)) ho (by omega) (by omega) (by omega))
 have Qc:Α (∀W D os,ξ prog 66 #[V Z s] (grow (redrawn W D) os) λe az=>e=δ (aW (s/86400))/\∃p:τ,az=grow (redrawn W p.d) p.os):=H λW D os=>ο (qX s _ s0 s1);have Wm:Α (s<f->∀W D os,ξ prog 66 #[V Z f] (grow (redrawn W D) os) λe az=>e=δ (aW (f/86400))/\∃p:τ,az=grow (redrawn W p.d) p.os):=H λh W D os=>ο (qX f _ (by omega) f1);have mW:Α (s<f->0<=cf r (s/86400) (f/86400)/\cf r (s/86400) (f/86400)<=200000):=H λh=>ZQ r _ _ (by omega) (by omega) (by omega);have Ns:Α (0<r.ct\/f<=s->fc r s f=0):=H λh=>by unfold fc;rw[if_pos h]
 have JC:Α (r.ct=0->s<f->fc r s f=cf r (s/86400) (f/86400)-cf r (s/86400) (f/86400)%r.iv):=H λh h'=>by unfold fc;rw[if_neg (by omega)]
 obtain⟨a1,e1⟩:=N.ms.form;obtain⟨a2,e2⟩:=N.mds.form;obtain⟨a3,e3⟩:=N.wks.form;obtain⟨a4,e4⟩:=N.pls.form;clear N ho;generalize fc r s f=FD at *
 generalize cf r (s/86400) (f/86400)=DD at *
 generalize r.ms.length=n1 at *
 generalize r.mds.length=n2 at *
 generalize r.wks.length=n3 at *
 generalize r.pls.length=n4 at *
 generalize r.fq=fq at *
 generalize r.iv=iv at *
 generalize r.ct=ct at *
 generalize r.un=un at *
 generalize r.ws=ws at *
 subst e1 e2 e3 e4;unfold aW cS bC at *
 have r0:=M.new w [V Z fq,V Z iv,V Z ct,V Z un,η a1 n1 n1,η a2 n2 n2,η a3 n3 n3,η a4 n4 n4,V Z ws,θ tx] 76;have al:Below w.heap.size w (w.alloc (ι #[V Z fq,V Z iv,V Z ct,V Z un,η a1 n1 n1,η a2 n2 n2,η a3 n3 n3,η a4 n4 n4,V Z ws,θ tx] 76)):=(κ _ _).alloc (μ _) _;go_enter func341,ntmps341;go_upto_region 1 with fail;have eW:w.alloc (.cells [V Z fq,V Z iv,V Z ct,V Z un,η a1 n1 n1,η a2 n2 n2,η a3 n3 n3,η a4 n4 n4,V Z ws,θ tx].toArray 76)=w.alloc (ι #[V Z fq,V Z iv,V Z ct,V Z un,η a1 n1 n1,η a2 n2 n2,η a3 n3 n3,η a4 n4 n4,V Z ws,θ tx] 76):=rfl;rw[eW]at r0;clear eW;generalize w.alloc (ι #[V Z fq,V Z iv,V Z ct,V Z un,η a1 n1 n1,η a2 n2 n2,η a3 n3 n3,η a4 n4 n4,V Z ws,θ tx] 76)=W at *
 obtain⟨g0,g1,g2,g3,g4,g5,g6,g7,g8,g9⟩:=bZ r0;by_cases hc:0<ct
 ·replace Ns:=H (Ns.out (.inl hc));clear JC hD Qc Wm mW;go_wp2_with fail;go_ret;exact⟨by rw[Ns.out];rfl,al⟩
 obtain rfl:ct=0:=by omega
 clear hc;by_cases hfs:f<=s
 ·replace Ns:=H (Ns.out (.inr hfs));clear JC hD Qc Wm mW;go_wp2_with fail;go_ret;exact⟨by rw[Ns.out];rfl,al⟩
 have Wk:s<f:=by omega
 replace JC:=H (JC.out rfl Wk);replace hD:=H (hD.out Wk);replace Wm:=H (Wm.out Wk);obtain⟨b0,b1⟩:=mW.out Wk;clear Ns mW;go_upto_region 3 with fail;have j0:=cell_regrown g0;have j1:=cell_regrown g1;have j2:=cell_regrown g2;have j3:=cell_regrown g3;have j4:=cell_regrown g4;have j5:=cell_regrown g5;have j6:=cell_regrown g6;have j7:=cell_regrown g7;have j8:=cell_regrown g8;have j9:=cell_regrown g9;clear g0 g1 g2 g3 g4 g5 g6 g7 g8 g9;refine wp_region_quiet_below (by kernel_rfl) (by kernel_rfl) ?_
 repeat(go_big_quiet_step (first|exact Qc.out W _ _|exact Wm.out W _ _|exact hD.out W al _ _))
 refine wpQuiet_nil ?_;intro _ dD;obtain⟨⟨dq,gT⟩,ga⟩:=dD;subst ga;have qE:=al.trans ((below_regrown W dq gT).mono al.size);have hiz:iv≠0:=by omega
 have ark:(iv==0)=false:=by simpa using hiz
 have hm0:0<=DD%iv:=Int.emod_nonneg _ hiz;have mu:DD%iv<iv:=Int.emod_lt_of_pos _ (by omega);have htm:DD.tmod iv=DD%iv:=Int.tmod_eq_emod_of_nonneg b0;have Mf:wrap64 (DD-DD%iv)=DD-DD%iv:=by unfold wrap64;omega
 go_wp2_with fail;go_ret;exact⟨by rw[JC.out];rfl,qE⟩
end Go.Proofs.YthpndgcaoeokeaaGreatDoor
