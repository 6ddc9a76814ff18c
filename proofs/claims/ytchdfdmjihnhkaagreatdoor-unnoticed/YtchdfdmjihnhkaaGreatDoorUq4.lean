import Derived.Test.YtchdfdmjihnhkaaGreatDoorUq3
import Derived.Deep.MidRow
import Derived.Sort.WalkA6
import Derived.RangeFuncNested
import Derived.RangeFuncBound
set_option maxRecDepth 100000
set_option maxHeartbeats 16000000
open Go.IntKind renaming i64->Z
open Go.Value renaming int->V,pointer->ζ,slice->η,string->θ
open Go.Ending renaming returned->δ,panicked->ε
open Go.Obj renaming cells->ι
open Go.RowKit.Below renaming refl->κ,heap_setCell->Ψ
open Nat renaming le_refl->μ,zero_add->Φ,le_trans->ϙ
open Go renaming World->ν,Calls->π,TypeId->ψ,Regrown->Θ,Program->Υ,Oper->ϗ
open Option.some renaming inj->ξ,injEq->Ϛ
open Bool renaming and_eq_true->ο
open Option renaming getD_some->ρ,map_some->Ζ
open List renaming getElem?_eq_getElem->τ,mem_append->υ,singleton_append->Η,map_cons->Λ,nil_append->Ν,length_map->Ξ,mem_cons->Τ,mem_cons_of_mem->Χ,mem_singleton->Ω,size_toArray->ϊ,take_length->ϋ,not_mem_nil->ό,append_nil->ύ,drop_zero->ώ
open Go.Lib renaming compactUpTo->φ,hasSuffix->Μ,compact->Ο,trimSuffix->Ϙ
open Ne renaming symm->χ
open Go.World renaming size_alloc->ω,setCell->Κ
open Go.Calls renaming regrown_of->Α
open Go.Instr renaming loadAt->Β,indexAt->Ε,fieldAt->Ρ,storeAt->Ϗ
open Array renaming getD_eq_getD_getElem?->Γ,getElem?_eq_getElem->Δ
open Go.Region renaming wanted->Ι
namespace Go.Proofs.YtchdfdmjihnhkaaGreatDoor
open Tryz
open Go.RowKit
section
open Go.Sort
structure lg (F:Nat->Option (List UInt8))(st ln:Int)(ex xt:List Int):Prop where
 iI:il ((F 1).getD [])=some st
 lA:mO st (F 2) (F 3)=some ln
 hex:sS (F 5)=some ex
 lT:sS (F 6)=some xt
def mP (s:List UInt8)(F:Nat->Option (List UInt8))(tr:Bool)(k:Int):Prop:=dG s F/\Fg F tr k
def akx (F:Nat->Option (List UInt8))(tr:Bool)(k st ln:Int)(ex xt:List Int)(E:Ending)(I:ν):Prop:=
 ∃aI aH,dc I aI ex/\dc I aH xt/\((F 4=none/\E=δ (zb (bJ ((F 0).getD [])) st ln false bw aI aH tr k))\/
  ∃v F' r m md wk pl,F 4=some v/\mM v F' r/\cr I m r.ms/\cr I md r.mds/\gy I wk r.wks/\cr I pl r.pls/\E=δ (zb (bJ ((F 0).getD [])) st ln true (bX r.fq r.iv r.ct r.un m md wk pl r.ws (gw F')) aI aH tr k))
def Fh (s:List UInt8)(w:ν)(E:Ending)(I:ν):Prop:=
 ((∃F tr k st ln ex xt,mP s F tr k/\lg F st ln ex xt/\akx F tr k st ln ex xt E I)\/
  ((¬∃F tr k,mP s F tr k)/\E=ε (bx 2))\/
  ((∃F tr k,mP s F tr k/\¬∃st ln ex xt,lg F st ln ex xt)/\E=ε (bx 1))\/
  ((∃F tr k st ln ex xt v,mP s F tr k/\lg F st ln ex xt/\F 4=some v/\¬∃F' r,mM v F' r)/\E=ε (bx 3)))/\Below w.heap.size w I
theorem abP {s:ByteArray}{x:Int}{v:Value}(h:Ending.returned v=yY s x):kk s=true/\v=θ s:=by
 unfold yY at h;split at h
 ·rename_i hn;exact⟨hn,Ending.returned.inj h⟩
 cases h
theorem abQ {s:ByteArray}{x:Int}{c:List PanicEntry}(h:Ending.panicked c=yY s x):kk s=false/\c=bx x:=by
 unfold yY at h;split at h
 ·cases h
 rename_i hn;exact⟨by simpa using hn,Ending.panicked.inj h⟩
theorem abR {s:ByteArray}{x:Int}(h:Ending.outgrown=yY s x):False:=by
 unfold yY at h;split at h<;>cases h
theorem UE {x:Int}{o:Option Bool}{v:Value}(h:Ending.returned v=vy x o):∃z,o=some z/\v=.bool z:=by
 unfold vy at h;cases o with
 |none=>cases h
 |some z=>exact⟨z,rfl,Ending.returned.inj h⟩
theorem UF {x:Int}{o:Option Bool}{c:List PanicEntry}(h:Ending.panicked c=vy x o):o=none/\c=bx x:=by
 unfold vy at h;cases o with
 |none=>exact⟨rfl,Ending.panicked.inj h⟩
 |some z=>cases h
theorem UG {x:Int}{o:Option Bool}(h:Ending.outgrown=vy x o):False:=by
 unfold vy at h;cases o<;>cases h
theorem dG.uniq {s:List UInt8}{F F':Nat->Option (List UInt8)}(h:dG s F)(h':dG s F'):F'=F:=by
 obtain⟨ls,G,_,_,_,h5⟩:=h.lines;obtain⟨rZ,wx,_,_,_,h5'⟩:=h'.lines;rw[G]at wx;cases wx;rw[h5]at h5';exact(ξ h5').symm
theorem dG.small {s:List UInt8}{F:Nat->Option (List UInt8)}(h:dG s F):∀k,((F k).getD []).length<=2000:=by
 obtain⟨ls,G,_,_,_,h5⟩:=h.lines;refine ti (λp J=>?_) (λk=>by simp) h5;have:p∈ls:=List.mem_of_mem_drop (List.mem_of_mem_take J);have:=AD G p this;have:=h.len;omega
theorem iq:(3:ψ)≠99:=by decide
theorem aaf:(191:ψ)≠99:=by decide
theorem dc.form {w:ν}{v:Value}{zs:List Int}(h:dc w v zs):∃a c,v=η a zs.length c:=by
 rcases h with⟨rfl,rfl⟩|⟨g,cap,rest,rfl,_⟩<;>exact⟨_,_,rfl⟩
theorem dc.on {w I:ν}{v:Value}{zs:List Int}(h:dc w v zs)(U:Below w.heap.size w I):dc I v zs:=
 h.imp id λ⟨g,cap,rest,G,A⟩=>⟨g,cap,rest,G,A.on U⟩
theorem dc.gr {T:ψ}{w I:ν}{v:Value}{zs:List Int}(hT:3≠T)(h:dc w v zs)(g:Gr T w I):dc I v zs:=
 h.imp id λ⟨k,cap,rest,G,A⟩=>⟨k,cap,rest,G,g.1 _ _ _ hT A⟩
theorem gq {w:ν}{b:Nat}{cs:List Value}{t:ψ}(h:X w b cs t):w.rangeAt b 0 cs:=λj v hv=>by rw[Φ];exact h.cell hv
theorem rL {w:ν}{b:Nat}{cs:List Value}{t:ψ}{n:Nat}(h:X w b cs t)(hn:n=cs.length):w.there b 0 n:=λj hj=>by
 subst hn;rw[Φ];exact⟨by rw[h.cell (τ hj)];rfl,h.free⟩
def Dn:Nat->List Value->List Value->List Value
 |_,[],cs=>cs
 |o,v::r,cs=>Dn (o+1) r (cs.set o v)
theorem Ka {T:ψ}{W:ν}{b:Nat}:∀{vs:List Value} {o:Nat} {w:ν} {cs:List Value},X w b cs T->Below W.heap.size W w->W.heap.size<=b->
 Gr T w (w.setCells b o vs)/\Below W.heap.size W (w.setCells b o vs)/\X (w.setCells b o vs) b (Dn o vs cs) T
 |[],o,w,cs,h,U,_=>⟨Gr.refl _ _,U,h⟩
 |v::l,o,w,cs,h,U,hB=>by
  obtain⟨G,A,M⟩:=Ka (vs:=l) (o:=o+1) (h.set (k:=o) v) (U.setCell (p:=⟨b,o,none⟩) hB v) hB;exact⟨(Gr.set (i:=o) h v).trans G,A,M⟩
theorem I0 (a:Act)(h:a.tmps.size=61)(hd:a.defers=[]):∃f:Nat->Value,a=⟨#[f 0,f 1,f 2,f 3,f 4,f 5,f 6,f 7,f 8,f 9,f 10,f 11,f 12,f 13,f 14,f 15,f 16,f 17,f 18,f 19,f 20,f 21,f 22,f 23,f 24,f 25,f 26,f 27,f 28,f 29,f 30,f 31,f 32,f 33,f 34,f 35,f 36,f 37,f 38,f 39,f 40,f 41,f 42,f 43,f 44,f 45,f 46,f 47,f 48,f 49,f 50,f 51,f 52,f 53,f 54,f 55,f 56,f 57,f 58,f 59,f 60],[]⟩/\∀k,a.eval (.tmp k)=f k:=gK 61 a h hd
theorem Fi {P:Υ}{a:Addr}{w:ν}:(asAddr (ζ (some a))).run P w=.ok a w:=by simp[asAddr]
theorem mj {P:Υ}{fn:Func}{tmps:Array Value}{w:ν}{t:Nat}{ty:ψ}{b o:Nat}{v:Value}(hf:fn.results=#[.cell t ty])(ht:tmps.getD t undef=ζ (some ⟨b,o,none⟩))
 (K:(loadVar ty ⟨b,o,none⟩).run P w=.ok v w):(results fn tmps).run P w=.ok v w:=by
 unfold results;rw[Γ]at ht;rw[hf];simp[ht,Fi,K]
theorem results_cell_tmp {P:Υ}{fn:Func}{tmps:Array Value}{w:ν}{t s:Nat}{ty:ψ}{b o:Nat}{v:Value}(hf:fn.results=#[.cell t ty,.tmp s])(ht:tmps.getD t undef=ζ (some ⟨b,o,none⟩))
 (K:(loadVar ty ⟨b,o,none⟩).run P w=.ok v w):(results fn tmps).run P w=.ok (.tuple #[v,tmps.getD s undef]) w:=by
 unfold results;rw[Γ]at ht;rw[hf];simp[ht,Fi,K]
theorem UH {P:Υ}{ops:Array ϗ}{Q:Exit->Act->ν->Prop}{o:ϗ}{rest:List ϗ}{a:Act}{w I:ν}{v:Value}(rH:o.guard=none)(h:(execOp a.eval o).run P w=.ok (.value v) I)(hK:wpList P ops Q rest (a.put o.dst v) I):wpList P ops Q (o::rest) a w:=
 wpList_plain rH λ_ Y=>ai h (Y _ _ hK)
theorem AF (fq iv ct un ws:Int)(a1 a2 a3 a4:Option Addr)(n1 n2 n3 n4 c1 c2 c3 c4:Nat)(tx:ByteArray):∀v∈bX fq iv ct un (η a1 n1 c1) (η a2 n2 c2) (η a3 n3 c3) (η a4 n4 c4) ws tx,v.oneCell'=true:=by
 intro v hv;unfold bX at hv;simp only[Τ,ό,or_false]at hv;rcases hv with rfl|rfl|rfl|rfl|rfl|rfl|rfl|rfl|rfl|rfl<;>rfl
theorem Pt (u:ByteArray)(st ln:Int)(hr:Bool)(rc:List Value)(a1 a2:Option Addr)(n1 n2 c1 c2:Nat)(tr:Bool)(k:Int)(hrc:∀v∈rc,v.oneCell'=true):∀v∈jR u st ln hr rc (η a1 n1 c1) (η a2 n2 c2) tr k,v.oneCell'=true:=by
 intro v hv;unfold jR at hv;simp only[υ,Τ,ό,or_false]at hv;rcases hv with((rfl|rfl|rfl|rfl)|h)|(rfl|rfl|rfl|rfl)
 ·rfl
 ·rfl
 ·rfl
 ·rfl
 ·exact hrc v h
 ·rfl
 ·rfl
 ·rfl
 rfl
theorem UI (fq iv ct un ws:Int)(m md wk pl:Value)(tx:ByteArray):(bX fq iv ct un m md wk pl ws tx).length=10:=rfl
theorem xi (u:ByteArray)(st ln:Int)(hr:Bool)(rc:List Value)(ex xt:Value)(tr:Bool)(k:Int)(h:rc.length=10):(jR u st ln hr rc ex xt tr k).length=18:=by
 unfold jR;simp[h]
theorem yl:eD.length=18:=rfl
theorem ym:∀(vs:List Value) (o:Nat) (pre mid post:List Value),pre.length=o->mid.length=vs.length->Dn o vs (pre++mid++post)=pre++vs++post
 |[],o,pre,mid,post,_,hm=>by
  have:mid=[]:=List.eq_nil_of_length_eq_zero hm;subst this;rfl
 |v::r,o,pre,mid,post,J,hm=>by
  cases mid with
  |nil=>simp at hm
  |cons x m=>
   have e:(pre++x::m++post).set o v=(pre++[v])++m++post:=by
    subst J;simp
   rw[Dn,e,ym r (o+1) (pre++[v]) m post (by simp[J]) (by simpa using hm)];simp
theorem uf (vs cs:List Value)(h:cs.length=vs.length):Dn 0 vs cs=vs:=by
 have:=ym vs 0 [] cs [] rfl h;simpa using this
theorem UJ (u:ByteArray)(st ln:Int)(hr:Bool)(rc rc':List Value)(ex xt:Value)(tr:Bool)(k:Int)(h:rc'.length=rc.length):Dn 4 rc' (jR u st ln hr rc ex xt tr k)=jR u st ln hr rc' ex xt tr k:=by
 unfold jR;exact ym rc' 4 _ rc _ rfl h.symm
theorem X.UK {w:ν}{g b:Nat}{cs:List Value}{t:ψ}(h:X w g cs t)(dp:g≠b):∀{vs:List Value} {o:Nat},X (w.setCells b o vs) g cs t:=by
 intro vs
 induction vs generalizing w with
 |nil=>intro o;exact h
 |cons v l ih=>intro o;exact ih (h.other dp v)
theorem abS {w:ν}{b o:Nat}{cs:List Value}{t:ψ}{n:Nat}(h:X w b cs t)(hn:o+n<=cs.length):w.there b o n:=λj hj=>by
 exact⟨by rw[h.cell (τ (show o+j<cs.length by omega))];rfl,h.free⟩
theorem X2:(prog.info? 96).map (·.size)=some 10:=by kernel_rfl
theorem UL:(prog.info? 99).map (·.size)=some 18:=by kernel_rfl
theorem qx (s:List UInt8)(w:ν)(hm:ML w)(hs:s.length<=1048576):
 π prog 54 #[θ ⟨s.toArray⟩] w (Fh s w):=by
 have ay:Below w.heap.size w (w.alloc (ι eD.toArray 99)):=(κ _ _).alloc (μ _) _;have z1:(w.alloc (ι eD.toArray 99)).heap.size=w.heap.size+1:=by simp
 have ez:=X.new w eD 99;have CP:=AE s (w.alloc (ι eD.toArray 99)) (hm.on ay) hs;have hmz:1<w.heap.size:=hm.1;by_cases hE:∃F,dG s F
 case neg=>
  have HN:Hid (¬∃F tr k,mP s F tr k):=H (λ⟨F,_,_,h⟩=>hE ⟨F,h.1⟩);have C:Hid (π prog 79 #[θ ⟨s.toArray⟩] (w.alloc (ι eD.toArray 99)) λE I=>E=ε (bx 2)/\Below w.heap.size w I):=H (CP.mono λE I ⟨G,A⟩=>by
   rcases G with⟨F,g,h,_⟩|⟨_,h⟩
   ·exact absurd ⟨F,h⟩ hE
   exact⟨h,ay.trans (A.mono (by omega))⟩)
  clear CP hE ez z1 ay hm hs;go_enter func54,ntmps54;go_wp2_with (go_at_call 79;refine(C.out).mono ?_;rintro e w3 ⟨rfl,al⟩);exact⟨rfl,.inr (.inl ⟨HN.out,rfl⟩),al⟩
 case pos=>
  obtain⟨F,Pu⟩:=hE;have C:Hid (π prog 79 #[θ ⟨s.toArray⟩] (w.alloc (ι eD.toArray 99)) λE I=>∃g,E=δ (η (some ⟨g,0,none⟩) 9 9)/\w.heap.size+1<=g/\cX I g F/\Below w.heap.size w I/\X I w.heap.size eD 99/\ML I/\w.heap.size<=I.heap.size):=H (CP.mono λE I ⟨G,A⟩=>by
   rcases G with⟨F',g,h,M,h4,h5⟩|⟨h,_⟩
   ·rw[Pu.uniq h]at h5;have:=A.size;exact⟨g,M,by omega,h5,ay.trans (A.mono (by omega)),ez.on A,(hm.on ay).on A,by omega⟩
   exact absurd ⟨F,Pu⟩ h)
  have X6:=Pu.small;have aez:=H X6;have my:∀k,((F k).getD []).length<=1048576:=λk=>ϙ (X6 k) (by decide);have no:(∀tr k,Fg F tr k->False)->¬∃F tr k,mP s F tr k:=λh ⟨F',tr,k,G,A⟩=>by rw[Pu.uniq G]at A;exact h tr k A
  have HU:=H Pu;clear CP ez z1 ay hm hs X6 Pu;have Ps:=H my;have HNO:=H no;clear my no;go_enter func54,ntmps54;go_wp2_with (go_at_call 79;refine(C.out).mono ?_;rintro e w3 ⟨g,rfl,hg,hF,al,Rx,Ag,pY⟩);have no:=HNO.out;have my:=Ps.out;refine iw (GE g F w3.heap.size) (JE w3 w.heap.size g) (by kernel_rfl) (by kernel_rfl) (by kernel_rfl) ?_ ?_ ?_;rotate_left 2
  ·exact⟨rfl,rfl,rfl,rfl,(κ _ _).drew⟩
  ·intro i o ho a I hI hG;have hi:i<16:=(Array.getElem?_eq_some_iff.1 ho).1;have ea:i=0\/i=1\/i=2\/i=3\/i=4\/i=5\/i=6\/i=7\/i=8\/i=9\/i=10\/i=11\/i=12\/i=13\/i=14\/i=15:=by omega
   rcases ea with rfl|rfl|rfl|rfl|rfl|rfl|rfl|rfl|rfl|rfl|rfl|rfl|rfl|rfl|rfl|rfl<;>obtain rfl:=ξ ho
   ·
    exact ai (v:=a.eval (.tmp 3)) (by kernel_rfl) (lf rfl (by decide) hI (κ _ _) (show NE g F w3.heap.size 0 _ _ from hI.s3) (by kernel_rfl) rfl)
   ·
    have e:a.eval (.tmp 7)=η (some ⟨g,0,none⟩) 9 9:=jl (aB hG 0) (by decide);exact ai (v:=ζ (some ⟨g,0*2,none⟩)) (bq (by show(Ε 123 (a.eval (.tmp 7)) (V Z 0)).run _ _=_;rw[e];exact dM g 0 (by decide) I)) (lf rfl (by decide) hI (κ _ _) (show NE g F w3.heap.size 1 _ _ from rfl) (by kernel_rfl) rfl)
   ·
    have e:a.eval (.tmp 8)=ζ (some ⟨g,0*2,none⟩):=jl (aB hG 1) (by decide);exact ai (v:=ζ (some ⟨g,0*2,none⟩)) (bq (by show(Ρ 126 (a.eval (.tmp 8)) 0).run _ _=_;rw[e];exact JP _ I rfl)) (lf rfl (by decide) hI (κ _ _) (show NE g F w3.heap.size 2 _ _ from rfl) (by kernel_rfl) rfl)
   ·
    have e:a.eval (.tmp 9)=ζ (some ⟨g,0*2,none⟩):=jl (aB hG 2) (by decide);exact ai (v:=θ (bJ ((F 0).getD []))) (bq (by show(Β 9 (a.eval (.tmp 9))).run _ _=_;rw[e];exact NU (hF.on hI.below) (by decide))) (lf rfl (by decide) hI (κ _ _) (show NE g F w3.heap.size 3 _ _ from rfl) (by kernel_rfl) rfl)
   ·
    have e:a.eval (.tmp 10)=θ (bJ ((F 0).getD [])):=jl (aB hG 3) (by decide);refine cI (R:=λE az=>E=yY (bJ ((F 0).getD [])) 2/\Below I.heap.size I az) (f:=57) (args:=#[a.eval (.tmp 10),V Z 2]) (by kernel_rfl) (by rw[e];exact yV (bJ ((F 0).getD [])) 2 I (show(bJ ((F 0).getD [])).size<=maxLen from mL (my 0))) ?_ ?_ ?_
    ·rintro v az ⟨he,U⟩;obtain⟨hn,rfl⟩:=abP he;exact(lf rfl (by decide) hI U (show NE g F w3.heap.size 4 _ _ from⟨hn,rfl⟩) (by kernel_rfl) rfl)
    ·rintro c az ⟨he,U⟩;obtain⟨hn,rfl⟩:=abQ he;exact⟨hI.defers,.inr (.inl ⟨no λtr k hB=>(by have:=hB.uid;rw[hn]at this;cases this),rfl⟩),al.trans ((hI.below.trans (U.mono hI.below.size)).mono pY)⟩
    rintro az ⟨he,_⟩;exact abR he
   ·
    exact ai (v:=a.eval (.tmp 3)) (by kernel_rfl) (lf rfl (by decide) hI (κ _ _) (show NE g F w3.heap.size 5 _ _ from hI.s3) (by kernel_rfl) rfl)
   ·
    have e:a.eval (.tmp 12)=η (some ⟨g,0,none⟩) 9 9:=jl (aB hG 5) (by decide);exact ai (v:=ζ (some ⟨g,7*2,none⟩)) (bq (by show(Ε 123 (a.eval (.tmp 12)) (V Z 7)).run _ _=_;rw[e];exact dM g 7 (by decide) I)) (lf rfl (by decide) hI (κ _ _) (show NE g F w3.heap.size 6 _ _ from rfl) (by kernel_rfl) rfl)
   ·
    have e:a.eval (.tmp 13)=ζ (some ⟨g,7*2,none⟩):=jl (aB hG 6) (by decide);exact ai (v:=bI (F 7)) (bq (by show(Β 126 (a.eval (.tmp 13))).run _ _=_;rw[e];exact dj (hF.on hI.below) (by decide))) (lf rfl (by decide) hI (κ _ _) (show NE g F w3.heap.size 7 _ _ from rfl) (by kernel_rfl) rfl)
   ·
    have e:a.eval (.tmp 14)=bI (F 7):=jl (aB hG 7) (by decide);refine cI (R:=λE az=>E=vy 2 (Az (F 7))/\Below I.heap.size I az) (f:=80) (args:=#[a.eval (.tmp 14)]) (by kernel_rfl) (by rw[e];exact zi (F 7) I) ?_ ?_ ?_
    ·rintro v az ⟨he,U⟩;obtain⟨z,hz,rfl⟩:=UE he;exact(lf rfl (by decide) hI U (show NE g F w3.heap.size 8 _ _ from⟨z,hz,rfl⟩) (by kernel_rfl) rfl)
    ·rintro c az ⟨he,U⟩;obtain⟨hz,rfl⟩:=UF he;exact⟨hI.defers,.inr (.inl ⟨no λtr k hB=>(by have:=hB.tr;rw[hz]at this;cases this),rfl⟩),al.trans ((hI.below.trans (U.mono hI.below.size)).mono pY)⟩
    rintro az ⟨he,_⟩;exact UG he
   ·
    exact ai (v:=a.eval (.tmp 3)) (by kernel_rfl) (lf rfl (by decide) hI (κ _ _) (show NE g F w3.heap.size 9 _ _ from hI.s3) (by kernel_rfl) rfl)
   ·
    have e:a.eval (.tmp 16)=η (some ⟨g,0,none⟩) 9 9:=jl (aB hG 9) (by decide);exact ai (v:=ζ (some ⟨g,8*2,none⟩)) (bq (by show(Ε 123 (a.eval (.tmp 16)) (V Z 8)).run _ _=_;rw[e];exact dM g 8 (by decide) I)) (lf rfl (by decide) hI (κ _ _) (show NE g F w3.heap.size 10 _ _ from rfl) (by kernel_rfl) rfl)
   ·
    have e:a.eval (.tmp 17)=ζ (some ⟨g,8*2,none⟩):=jl (aB hG 10) (by decide);exact ai (v:=bI (F 8)) (bq (by show(Β 126 (a.eval (.tmp 17))).run _ _=_;rw[e];exact dj (hF.on hI.below) (by decide))) (lf rfl (by decide) hI (κ _ _) (show NE g F w3.heap.size 11 _ _ from rfl) (by kernel_rfl) rfl)
   ·
    have e:a.eval (.tmp 18)=bI (F 8):=jl (aB hG 11) (by decide);refine cI (R:=λE az=>E=ep 2 (AA (F 8))/\Below I.heap.size I az) (f:=81) (args:=#[a.eval (.tmp 18)]) (by kernel_rfl) (by rw[e];exact GC (F 8) I) ?_ ?_ ?_
    ·rintro v az ⟨he,U⟩;obtain⟨z,hz,rfl⟩:=od he;exact(lf rfl (by decide) hI U (show NE g F w3.heap.size 12 _ _ from⟨z,hz,rfl⟩) (by kernel_rfl) rfl)
    ·rintro c az ⟨he,U⟩;obtain⟨hz,rfl⟩:=oe he;exact⟨hI.defers,.inr (.inl ⟨no λtr k hB=>(by have:=hB.st;rw[hz]at this;cases this),rfl⟩),al.trans ((hI.below.trans (U.mono hI.below.size)).mono pY)⟩
    rintro az ⟨he,_⟩;exact og he
   ·
    obtain⟨hu,t0⟩:=jl (aB hG 4) (by decide);obtain⟨tr,q1,t1⟩:=jl (aB hG 8) (by decide);obtain⟨k,q2,t2⟩:=jl (aB hG 12) (by decide);exact ai (v:=zb (bJ ((F 0).getD [])) 0 0 false bw (η none 0 0) (η none 0 0) tr k) (bq (by simp only[List.map_toArray,Λ,List.map_nil];rw[show a.eval (.tmp 11)=_ from t0,show a.eval (.tmp 15)=_ from t1,show a.eval (.tmp 19)=_ from t2];exact NT ..)) (lf rfl (by decide) hI (κ _ _) (show NE g F w3.heap.size 13 _ _ from⟨tr,k,⟨hu,q1,q2⟩,rfl⟩) (by kernel_rfl) rfl)
   ·
    exact ai (v:=ζ (some ⟨I.heap.size,0,none⟩)) (I:=I.alloc (ι eD.toArray 99)) (by kernel_rfl) (lf rfl (by decide) hI ((κ _ _).alloc (μ _) _) (show NE g F w3.heap.size 14 _ _ from⟨_,rfl,hI.below.size,eD,rfl,X.new _ _ _⟩) (by kernel_rfl) rfl)
   obtain⟨b,eb,yO,cs,zE,tp⟩:=jl (aB hG 14) (by decide);have hv:EV F (a.eval (.tmp 20)):=jl (aB hG 13) (by decide);obtain⟨az,jy,gQ,lE,lF⟩:=UD tp zE yO hI.below hv;refine A4 (I:=az) (De (by show(Ϗ 99 (a.eval (.tmp 4)) (a.eval (.tmp 20))).run _ _=_;rw[show a.eval (.tmp 4)=_ from eb];exact jy)) ⟨⟨hI.size,hI.defers,hI.s2,hI.s3,gQ⟩,?_,λj oj jg hj _ hg=>?_⟩
   ·unfold GE;rw[if_pos rfl];exact⟨b,eb,yO,lF⟩
   unfold GE at hg⊢;rw[if_neg hj]at hg⊢;exact NE.gr hg lE
  intro a w4 hI hG;have g15:=hG 15 (by decide);unfold GE at g15;rw[if_pos rfl]at g15;obtain⟨b,eb,yO,tr,k,hB,aah⟩:=g15;obtain⟨f,rfl,rO⟩:=I0 a hI.size hI.defers;have e2:=(rO 2).symm.trans hI.s2;have e3:=(rO 3).symm.trans hI.s3;have e4:=(rO 4).symm.trans eb;have cq:=hI.below;have hF4:=hF.on cq;have BO:=Ag.on cq;have aai:=Rx.on cq;have Mk:Below w.heap.size w w4:=al.trans (cq.mono pY);have aR:=hF.lt;have I1:g≠b:=by omega
  have lF:w.heap.size≠b:=by omega
  have ux:w.heap.size<=b:=by omega
  have vp:1≠b:=by omega
  have HD:Hid (mP s F tr k):=H ⟨HU.out,hB⟩;clear hI hG rO hF Ag Rx cq al HNO no HU aR hg yO pY my hB C;rw[e2,e3,e4];have v1:w4.cell? ⟨g,2,none⟩=some (θ ⟨((F 1).getD []).toArray⟩):=hF4.val 1 (by decide);have CT:=λW=>nf (bJ ((F 1).getD [])) W;rw[vx]at CT;cases ht:il ((F 1).getD [])with
  |none=>
   rw[ht]at CT;unfold ep at CT;have HX:Hid (∃F tr k,mP s F tr k/\¬∃st ln ex xt,lg F st ln ex xt):=H ⟨F,tr,k,HD.out,λ⟨_,_,_,_,h⟩=>by have:=h.iI;rw[ht]at this;cases this⟩;have C1:=H CT;clear CT ht;go_wp2_with (go_at_call 82;refine(C1.out _).mono ?_;rintro e w5 ⟨rfl,bB⟩);exact⟨rfl,.inr (.inr (.inl ⟨HX.out,rfl⟩)),Mk.trans (bB.mono Mk.size)⟩
  |some st=>
   rw[ht]at CT;unfold ep at CT;have X7:=Po ht;have HT:=H ht;have C1:=H CT;clear CT ht;go_wp2_with (go_at_call 82;refine(C1.out _).mono ?_;rintro e w5 ⟨rfl,bB⟩;have Er:=aah.on bB;have y1:=Er.cell (k:=1) rfl;have z1:=Er.free (k:=1));have Kb:X (w5.setCell ⟨b,1,none⟩ (V Z st)) b (jR (bJ ((F 0).getD [])) st 0 false bw (η none 0 0) (η none 0 0) tr k) 99:=Er.set _;have hF6:=(hF4.on bB).other I1 (i:=1) (V Z st);have hm6:=(BO.on bB).other vp (i:=1) (V Z st);have aaj:=(aai.on bB).other lF (k:=1) (V Z st);have aeB:Below w.heap.size w (w5.setCell ⟨b,1,none⟩ (V Z st)):=(Mk.trans (bB.mono Mk.size)).setCell ux _;clear Er y1 z1 bB hF4 BO aai Mk aah v1;generalize w5.setCell ⟨b,1,none⟩ (V Z st)=w6 at *
   have my:=Ps.out;refine iw (GL g b F st tr k) (JL w w.heap.size g b F st tr k) (by kernel_rfl) (by kernel_rfl) (by kernel_rfl) ?_ ?_ ?_;rotate_left 2
   ·exact⟨rfl,rfl,rfl,rfl,rfl,hF6.agB,hm6,⟨0,Kb⟩,aaj,aeB.drew⟩
   ·intro i o ho a I hI hG;have hi:i<11:=(Array.getElem?_eq_some_iff.1 ho).1;have ea:i=0\/i=1\/i=2\/i=3\/i=4\/i=5\/i=6\/i=7\/i=8\/i=9\/i=10:=by omega
    rcases ea with rfl|rfl|rfl|rfl|rfl|rfl|rfl|rfl|rfl|rfl|rfl<;>obtain rfl:=ξ ho
    ·
     exact ai (v:=ζ (some ⟨b,1,none⟩)) (bq (by show(Ρ 99 (a.eval (.tmp 4)) 1).run _ _=_;rw[hI.s4];exact NV b I)) (qZ rfl (by decide) hI (κ _ _) (show NL g b F st 0 _ from rfl) (by kernel_rfl) rfl)
    ·
     have e:a.eval (.tmp 27)=ζ (some ⟨b,1,none⟩):=nN (aB hG 0) (by decide);obtain⟨z,hz⟩:=hI.row;exact ai (v:=V Z st) (bq (by show(Β 3 (a.eval (.tmp 27))).run _ _=_;rw[e];exact NY (hz.cell (k:=1) rfl))) (qZ rfl (by decide) hI (κ _ _) (show NL g b F st 1 _ from rfl) (by kernel_rfl) rfl)
    ·
     exact ai (v:=a.eval (.tmp 3)) (by kernel_rfl) (qZ rfl (by decide) hI (κ _ _) (show NL g b F st 2 _ from hI.s3) (by kernel_rfl) rfl)
    ·
     have e:a.eval (.tmp 29)=η (some ⟨g,0,none⟩) 9 9:=nN (aB hG 2) (by decide);exact ai (v:=ζ (some ⟨g,2*2,none⟩)) (bq (by show(Ε 123 (a.eval (.tmp 29)) (V Z 2)).run _ _=_;rw[e];exact dM g 2 (by decide) I)) (qZ rfl (by decide) hI (κ _ _) (show NL g b F st 3 _ from rfl) (by kernel_rfl) rfl)
    ·
     have e:a.eval (.tmp 30)=ζ (some ⟨g,2*2,none⟩):=nN (aB hG 3) (by decide);exact ai (v:=bI (F 2)) (bq (by show(Β 126 (a.eval (.tmp 30))).run _ _=_;rw[e];exact dj hI.fields (by decide))) (qZ rfl (by decide) hI (κ _ _) (show NL g b F st 4 _ from rfl) (by kernel_rfl) rfl)
    ·
     exact ai (v:=a.eval (.tmp 3)) (by kernel_rfl) (qZ rfl (by decide) hI (κ _ _) (show NL g b F st 5 _ from hI.s3) (by kernel_rfl) rfl)
    ·
     have e:a.eval (.tmp 32)=η (some ⟨g,0,none⟩) 9 9:=nN (aB hG 5) (by decide);exact ai (v:=ζ (some ⟨g,3*2,none⟩)) (bq (by show(Ε 123 (a.eval (.tmp 32)) (V Z 3)).run _ _=_;rw[e];exact dM g 3 (by decide) I)) (qZ rfl (by decide) hI (κ _ _) (show NL g b F st 6 _ from rfl) (by kernel_rfl) rfl)
    ·
     have e:a.eval (.tmp 33)=ζ (some ⟨g,3*2,none⟩):=nN (aB hG 6) (by decide);exact ai (v:=bI (F 3)) (bq (by show(Β 126 (a.eval (.tmp 33))).run _ _=_;rw[e];exact dj hI.fields (by decide))) (qZ rfl (by decide) hI (κ _ _) (show NL g b F st 7 _ from rfl) (by kernel_rfl) rfl)
    ·
     have S:a.eval (.tmp 28)=V Z st:=nN (aB hG 1) (by decide);have e4:a.eval (.tmp 31)=bI (F 2):=nN (aB hG 4) (by decide);have e7:a.eval (.tmp 34)=bI (F 3):=nN (aB hG 7) (by decide);refine cI (R:=λE az=>E=ep 1 (mO st (F 2) (F 3))/\Below I.heap.size I az) (f:=83) (args:=#[a.eval (.tmp 28),a.eval (.tmp 31),a.eval (.tmp 34)]) (by kernel_rfl) (by rw[S,e4,e7];exact Fb st (F 2) (F 3) I X7.1 X7.2 (mL (my 3))) ?_ ?_ ?_
     ·rintro v az ⟨he,U⟩;obtain⟨z,hz,rfl⟩:=od he;exact(qZ rfl (by decide) hI U (show NL g b F st 8 _ from⟨z,hz,rfl⟩) (by kernel_rfl) rfl)
     ·rintro c az ⟨he,U⟩;obtain⟨hz,rfl⟩:=oe he;exact⟨hI.defers,.inr (.inr (.inl ⟨⟨F,tr,k,HD.out,λ⟨BM,_,_,_,h⟩=>by have G:=h.iI;rw[HT.out]at G;cases G;have:=h.lA;rw[hz]at this;cases this⟩,rfl⟩)),hI.below.trans (U.mono hI.below.size)⟩
     rintro az ⟨he,_⟩;exact og he
    ·
     exact ai (v:=ζ (some ⟨b,2,none⟩)) (bq (by show(Ρ 99 (a.eval (.tmp 4)) 2).run _ _=_;rw[hI.s4];exact NW b I)) (qZ rfl (by decide) hI (κ _ _) (show NL g b F st 9 _ from rfl) (by kernel_rfl) rfl)
    obtain⟨z,hz,t8⟩:=nN (aB hG 8) (by decide);have t9:a.eval (.tmp 36)=ζ (some ⟨b,2,none⟩):=nN (aB hG 9) (by decide);obtain⟨y,hy⟩:=hI.row;refine A4 (I:=I.setCell ⟨b,2,none⟩ (V Z z)) (De (by show(Ϗ 3 (a.eval (.tmp 36)) (a.eval (.tmp 35))).run _ _=_;rw[t9,show a.eval (.tmp 35)=_ from t8];exact Mj (hy.cell (k:=2) rfl) hy.free)) ⟨⟨hI.size,hI.defers,hI.s2,hI.s3,hI.s4,hI.fields.other I1 _,hI.ml.other vp _,⟨z,hy.set _⟩,hI.res.other lF _,hI.below.setCell ux _⟩,?_,λj oj jg hj _ hg=>?_⟩
    ·unfold GL;rw[if_pos rfl];exact⟨z,hz,hy.set _⟩
    unfold GL at hg⊢;rw[if_neg hj]at hg⊢;exact hg
   intro a w7 hI hG;have g10:=hG 10 (by decide);unfold GL at g10;rw[if_pos rfl]at g10;obtain⟨ln,lA,aak⟩:=g10;obtain⟨f',rfl,rO⟩:=I0 a hI.size hI.defers;have q2:=(rO 2).symm.trans hI.s2;have q3:=(rO 3).symm.trans hI.s3;have q4:=(rO 4).symm.trans hI.s4;have hF7:=hI.fields;have hm7:=hI.ml;have aam:=hI.res;have Ml:=hI.below;clear hI hG rO hF6 hm6 Kb aaj aeB e2 e3 e4 my X7 C1;rw[q2,q3,q4];have v5:w7.cell? ⟨g,10,none⟩=some (θ ⟨((F 5).getD []).toArray⟩):=hF7.val 5 (by decide);have t5:w7.cell? ⟨g,11,none⟩=some (.bool (F 5).isSome):=hF7.there 5 (by decide);have CX:=za (F 5) w7 hm7 (Ps.out 5);have HLN:=H lA;clear lA;cases N:sS (F 5)with
   |none=>
    have C2:Hid (π prog 84 #[.agg #[θ ⟨((F 5).getD []).toArray⟩,.bool (F 5).isSome]] w7 λE I=>E=ε (bx 1)/\Below w7.heap.size w7 I):=H (CX.mono λE I ⟨G,A⟩=>by
     rcases G with⟨zs,v,h,_⟩|⟨_,h⟩
     ·rw[N]at h;cases h
     exact⟨h,A⟩)
    have HX:Hid (∃F tr k,mP s F tr k/\¬∃st ln ex xt,lg F st ln ex xt):=H ⟨F,tr,k,HD.out,λ⟨_,_,_,_,h⟩=>by have:=h.hex;rw[N]at this;cases this⟩;clear CX N;go_wp2_with (go_at_call 84;refine(C2.out).mono ?_;rintro e w8 ⟨rfl,sb⟩);exact⟨rfl,.inr (.inr (.inl ⟨HX.out,rfl⟩)),Ml.trans (sb.mono Ml.size)⟩
   |some ex=>
    have C2:Hid (π prog 84 #[.agg #[θ ⟨((F 5).getD []).toArray⟩,.bool (F 5).isSome]] w7 λE I=>∃v,E=δ v/\dc I v ex/\Below w7.heap.size w7 I):=H (CX.mono λE I ⟨G,A⟩=>by
     rcases G with⟨zs,v,h,he,hi⟩|⟨h,_⟩
     ·rw[N]at h;cases h;exact⟨v,he,hi,A⟩
     rw[N]at h;cases h)
    have HEX:=H N;clear CX N;go_wp2_with (go_at_call_of 84 (Value.agg #[Value.string ⟨((F 5).getD []).toArray⟩,Value.bool (F 5).isSome]);refine(C2.out).mono ?_;rintro e w8 ⟨aI,rfl,hi8,sb⟩;obtain⟨a8,c8,rfl⟩:=hi8.form;have wN:=aak.on sb;have y14:=wN.cell (k:=14) rfl;have z14:=wN.free (k:=14);have F8:=(hF7.on sb).other I1 (i:=14) (η a8 ex.length c8);have v6:(w8.setCell ⟨b,14,none⟩ (η a8 ex.length c8)).cell? ⟨g,12,none⟩=some (θ ⟨((F 6).getD []).toArray⟩):=F8.val 6 (by decide);have t6:(w8.setCell ⟨b,14,none⟩ (η a8 ex.length c8)).cell? ⟨g,13,none⟩=some (.bool (F 6).isSome):=F8.there 6 (by decide));have Ry:X (w8.setCell ⟨b,14,none⟩ (η a8 ex.length c8)) b (jR (bJ ((F 0).getD [])) st ln false bw (η a8 ex.length c8) (η none 0 0) tr k) 99:=wN.set _;have hm9:=(hm7.on sb).other vp (i:=14) (η a8 ex.length c8);have Rz:=(aam.on sb).other lF (k:=14) (η a8 ex.length c8);have Dp:Below w.heap.size w (w8.setCell ⟨b,14,none⟩ (η a8 ex.length c8)):=(Ml.trans (sb.mono Ml.size)).setCell ux _;have Pv:=hi8.gr iq (Gr.set (i:=14) wN (η a8 ex.length c8));clear wN y14 z14 sb hF7 hm7 aam Ml aak v5 t5 hi8 C2;generalize w8.setCell ⟨b,14,none⟩ (η a8 ex.length c8)=w9 at *
    have CY:=za (F 6) w9 hm9 (Ps.out 6);cases hy:sS (F 6)with
    |none=>
     have C3:Hid (π prog 84 #[.agg #[θ ⟨((F 6).getD []).toArray⟩,.bool (F 6).isSome]] w9 λE I=>E=ε (bx 1)/\Below w9.heap.size w9 I):=H (CY.mono λE I ⟨G,A⟩=>by
      rcases G with⟨zs,v,h,_⟩|⟨_,h⟩
      ·rw[hy]at h;cases h
      exact⟨h,A⟩)
     have HX:Hid (∃F tr k,mP s F tr k/\¬∃st ln ex xt,lg F st ln ex xt):=H ⟨F,tr,k,HD.out,λ⟨_,_,_,_,h⟩=>by have:=h.lT;rw[hy]at this;cases this⟩;clear CY hy;go_wp2_with (go_at_call 84;refine(C3.out).mono ?_;rintro e vA ⟨rfl,lN⟩);exact⟨rfl,.inr (.inr (.inl ⟨HX.out,rfl⟩)),Dp.trans (lN.mono Dp.size)⟩
    |some xt=>
     have C3:Hid (π prog 84 #[.agg #[θ ⟨((F 6).getD []).toArray⟩,.bool (F 6).isSome]] w9 λE I=>∃v,E=δ v/\dc I v xt/\Below w9.heap.size w9 I):=H (CY.mono λE I ⟨G,A⟩=>by
      rcases G with⟨zs,v,h,he,hi⟩|⟨h,_⟩
      ·rw[hy]at h;cases h;exact⟨v,he,hi,A⟩
      rw[hy]at h;cases h)
     have HTA:Hid (lg F st ln ex xt):=H ⟨HT.out,HLN.out,HEX.out,hy⟩;clear CY hy;cases h4:F 4 with
     |none=>
      have H4:=H h4;clear h4;go_wp2_with (first
       |(go_at_call 84;refine(C3.out).mono ?_;rintro e vA ⟨aH,rfl,GJ,lN⟩;obtain⟨a9,c9,rfl⟩:=GJ.form;have wi:=Ry.on lN;have y15:=wi.cell (k:=15) rfl;have Y2:=wi.free (k:=15);have UM:=(F8.on lN).other I1 (i:=15) (η a9 xt.length c9);have t4:(vA.setCell ⟨b,15,none⟩ (η a9 xt.length c9)).cell? ⟨g,9,none⟩=some (.bool false):=(by have:=UM.there 4 (by decide);rw[H4.out]at this;exact this);have rh:=wi.set (k:=15) (η a9 xt.length c9);have y3:=rh.cell (k:=3) rfl;have z3:=rh.free (k:=3);have aeG:X ((vA.setCell ⟨b,15,none⟩ (η a9 xt.length c9)).setCell ⟨b,3,none⟩ (.bool false)) b (jR (bJ ((F 0).getD [])) st ln false bw (η a8 ex.length c8) (η a9 xt.length c9) tr k) 99:=rh.set (k:=3) (.bool false);have x3:=aeG.cell (k:=3) rfl;have Mm:=((Rz.on lN).other lF (k:=15) (η a9 xt.length c9)).other lF (k:=3) (.bool false))
       |(refine wpList_load_mid rfl 99 (.tmp 4) rfl b 0 rfl (jR (bJ ((F 0).getD [])) st ln false bw (η a8 ex.length c8) (η a9 xt.length c9) tr k) _ (gq aeG) underlying99 rfl (by kernel_rfl) ?_)
       |(refine wpList_store_mid rfl 99 (.tmp 2) (.tmp 60) rfl w.heap.size 0 (jR (bJ ((F 0).getD [])) st ln false bw (η a8 ex.length c8) (η a9 xt.length c9) tr k).toArray rfl rfl (rL Mm rfl) (by kernel_rfl) (all_oneCell_toArray (Pt _ _ _ _ _ _ _ _ _ _ _ _ _ (AF _ _ _ _ _ _ _ _ _ _ _ _ _ _ _ _ _ _))) ?_))
      have Mn:Below w.heap.size w ((vA.setCell ⟨b,15,none⟩ (η a9 xt.length c9)).setCell ⟨b,3,none⟩ (.bool false)):=((Dp.trans (lN.mono Dp.size)).setCell ux _).setCell ux _;have gF:Gr 99 vA ((vA.setCell ⟨b,15,none⟩ (η a9 xt.length c9)).setCell ⟨b,3,none⟩ (.bool false)):=(Gr.set (i:=15) wi (η a9 xt.length c9)).trans (Gr.set (i:=3) rh (.bool false));obtain⟨lE,X8,GK⟩:=Ka (vs:=(jR (bJ ((F 0).getD [])) st ln false bw (η a8 ex.length c8) (η a9 xt.length c9) tr k)) (o:=0) Mm Mn (μ _);rw[uf _ eD (by rw[yl,xi _ _ _ _ _ _ _ _ _ rfl])]at GK;exact bodyPost_ret (v:=zb (bJ ((F 0).getD [])) st ln false bw (η a8 ex.length c8) (η a9 xt.length c9) tr k) (mj results54 rfl (run_loadVar_mid _ w.heap.size 0 99 (jR (bJ ((F 0).getD [])) st ln false bw (η a8 ex.length c8) (η a9 xt.length c9) tr k) _ (gq GK) underlying99 rfl (by kernel_rfl))) rfl
       ⟨.inl ⟨F,tr,k,st,ln,ex,xt,HD.out,HTA.out,_,_,((Pv.on lN).gr iq gF).gr iq lE,(GJ.gr iq gF).gr iq lE,.inl ⟨H4.out,rfl⟩⟩,X8⟩
     |some v=>
      have H4:=H h4;have HV:v.length<=2000:=(by have:=aez.out 4;rw[h4]at this;exact this);clear h4;go_wp2_with (go_at_call 84;refine(C3.out).mono ?_;rintro e vA ⟨aH,rfl,GJ,lN⟩;obtain⟨a9,c9,rfl⟩:=GJ.form;have wi:=Ry.on lN;have y15:=wi.cell (k:=15) rfl;have Y2:=wi.free (k:=15);have UM:=(F8.on lN).other I1 (i:=15) (η a9 xt.length c9);have t4:(vA.setCell ⟨b,15,none⟩ (η a9 xt.length c9)).cell? ⟨g,9,none⟩=some (.bool true):=(by have:=UM.there 4 (by decide);rw[H4.out]at this;exact this);have rh:=wi.set (k:=15) (η a9 xt.length c9);have y3:=rh.cell (k:=3) rfl;have z3:=rh.free (k:=3);have RA:=rh.set (k:=3) (.bool true);have x3:=RA.cell (k:=3) rfl;have F12:=UM.other I1 (i:=3) (.bool true);have v4:((vA.setCell ⟨b,15,none⟩ (η a9 xt.length c9)).setCell ⟨b,3,none⟩ (.bool true)).cell? ⟨g,8,none⟩=some (θ ⟨v.toArray⟩):=(by have:=F12.val 4 (by decide);rw[H4.out]at this;exact this));rename_i K1 fh K2 H7;have aeH:=((hm9.on lN).other vp (i:=15) (η a9 xt.length c9)).other vp (i:=3) (.bool true);have Mn:Below w.heap.size w ((vA.setCell ⟨b,15,none⟩ (η a9 xt.length c9)).setCell ⟨b,3,none⟩ (.bool true)):=((Dp.trans (lN.mono Dp.size)).setCell ux _).setCell ux _;have gF:Gr 99 vA ((vA.setCell ⟨b,15,none⟩ (η a9 xt.length c9)).setCell ⟨b,3,none⟩ (.bool true)):=(Gr.set (i:=15) wi (η a9 xt.length c9)).trans (Gr.set (i:=3) rh (.bool true));have Mm:=((Rz.on lN).other lF (k:=15) (η a9 xt.length c9)).other lF (k:=3) (.bool true);have UN:X ((vA.setCell ⟨b,15,none⟩ (η a9 xt.length c9)).setCell ⟨b,3,none⟩ (.bool true)) b (jR (bJ ((F 0).getD [])) st ln true bw (η a8 ex.length c8) (η a9 xt.length c9) tr k) 99:=RA;have i1:=(Pv.on lN).gr iq gF;have i2:=GJ.gr iq gF;clear RA x3 F12 v4 rh y3 z3 t4 UM y15 Y2 wi GJ lN gF Pv Ry Rz Dp F8 C3 v6 t6;generalize((vA.setCell ⟨b,15,none⟩ (η a9 xt.length c9)).setCell ⟨b,3,none⟩ (.bool true))=w12 at *
      refine(JM v w12 aeH (by omega)).mono ?_;rintro e w13 ⟨hR,yn⟩;rcases hR with⟨F',r,m,md,wk,pl,hIR,hE,j1,j2,j3,j4⟩|⟨zy,rfl⟩
      case inr=>
       go_wp2;exact⟨rfl,.inr (.inr (.inr ⟨⟨F,tr,k,st,ln,ex,xt,v,HD.out,HTA.out,H4.out,zy⟩,rfl⟩)),Mn.trans (yn.mono Mn.size)⟩
      case inl=>
       obtain⟨p1,rfl⟩:=j1.form;obtain⟨p2,rfl⟩:=j2.form;obtain⟨p3,rfl⟩:=j3.form;obtain⟨p4,rfl⟩:=j4.form;have OZ:e=δ (.agg (bX r.fq r.iv r.ct r.un (η p1 r.ms.length r.ms.length) (η p2 r.mds.length r.mds.length) (η p3 r.wks.length r.wks.length) (η p4 r.pls.length r.pls.length) r.ws (gw F')).toArray):=hE;subst OZ;clear hE;have RC:=UN.on yn;have aao:=Mm.on yn;obtain⟨g14,UO,Kc⟩:=Ka (vs:=(bX r.fq r.iv r.ct r.un (η p1 r.ms.length r.ms.length) (η p2 r.mds.length r.mds.length) (η p3 r.wks.length r.wks.length) (η p4 r.pls.length r.pls.length) r.ws (gw F'))) (o:=4) RC (Mn.trans (yn.mono Mn.size)) ux;rw[UJ _ _ _ _ bw (bX r.fq r.iv r.ct r.un (η p1 r.ms.length r.ms.length) (η p2 r.mds.length r.mds.length) (η p3 r.wks.length r.wks.length) (η p4 r.pls.length r.pls.length) r.ws (gw F')) _ _ _ _ rfl]at Kc;have Be:X (w13.setCells b 4 (bX r.fq r.iv r.ct r.un (η p1 r.ms.length r.ms.length) (η p2 r.mds.length r.mds.length) (η p3 r.wks.length r.wks.length) (η p4 r.pls.length r.pls.length) r.ws (gw F'))) w.heap.size eD 99:=aao.UK lF;obtain⟨w14,X9⟩:∃w14,w14=w13.setCells b 4 (bX r.fq r.iv r.ct r.un (η p1 r.ms.length r.ms.length) (η p2 r.mds.length r.mds.length) (η p3 r.wks.length r.wks.length) (η p4 r.pls.length r.pls.length) r.ws (gw F')):=⟨_,rfl⟩;rw[<-X9]at g14 UO Kc Be;have aky:=H X9;clear X9;have aeK:w13.there b 4 (bX r.fq r.iv r.ct r.un (η p1 r.ms.length r.ms.length) (η p2 r.mds.length r.mds.length) (η p3 r.wks.length r.wks.length) (η p4 r.pls.length r.pls.length) r.ws (gw F')).toArray.size:=abS RC (by rw[xi _ _ _ _ _ _ _ _ _ rfl];show 4+(bX r.fq r.iv r.ct r.un (η p1 r.ms.length r.ms.length) (η p2 r.mds.length r.mds.length) (η p3 r.wks.length r.wks.length) (η p4 r.pls.length r.pls.length) r.ws (gw F')).length<=18;rw[UI];decide);have aeL:=gq Kc;have aeM:w14.there w.heap.size 0 (jR (bJ ((F 0).getD [])) st ln true (bX r.fq r.iv r.ct r.un (η p1 r.ms.length r.ms.length) (η p2 r.mds.length r.mds.length) (η p3 r.wks.length r.wks.length) (η p4 r.pls.length r.pls.length) r.ws (gw F')) (η a8 ex.length c8) (η a9 xt.length c9) tr k).toArray.size:=rL Be (by show(jR (bJ ((F 0).getD [])) st ln true (bX r.fq r.iv r.ct r.un (η p1 r.ms.length r.ms.length) (η p2 r.mds.length r.mds.length) (η p3 r.wks.length r.wks.length) (η p4 r.pls.length r.pls.length) r.ws (gw F')) (η a8 ex.length c8) (η a9 xt.length c9) tr k).length=_;rw[yl,xi _ _ _ _ _ _ _ _ _ rfl]);have o13:(bX r.fq r.iv r.ct r.un (η p1 r.ms.length r.ms.length) (η p2 r.mds.length r.mds.length) (η p3 r.wks.length r.wks.length) (η p4 r.pls.length r.pls.length) r.ws (gw F')).toArray.all (·.oneCell')=true:=all_oneCell_toArray (AF _ _ _ _ _ _ _ _ _ _ _ _ _ _ _ _ _ _);have o14:(jR (bJ ((F 0).getD [])) st ln true (bX r.fq r.iv r.ct r.un (η p1 r.ms.length r.ms.length) (η p2 r.mds.length r.mds.length) (η p3 r.wks.length r.wks.length) (η p4 r.pls.length r.pls.length) r.ws (gw F')) (η a8 ex.length c8) (η a9 xt.length c9) tr k).toArray.all (·.oneCell')=true:=all_oneCell_toArray (Pt _ _ _ _ _ _ _ _ _ _ _ _ _ (AF _ _ _ _ _ _ _ _ _ _ _ _ _ _ _ _ _ _));have i13:(prog.info? 96).map (·.size)=some (bX r.fq r.iv r.ct r.un (η p1 r.ms.length r.ms.length) (η p2 r.mds.length r.mds.length) (η p3 r.wks.length r.wks.length) (η p4 r.pls.length r.pls.length) r.ws (gw F')).toArray.size:=X2;have i14:(prog.info? 99).map (·.size)=some (jR (bJ ((F 0).getD [])) st ln true (bX r.fq r.iv r.ct r.un (η p1 r.ms.length r.ms.length) (η p2 r.mds.length r.mds.length) (η p3 r.wks.length r.wks.length) (η p4 r.pls.length r.pls.length) r.ws (gw F')) (η a8 ex.length c8) (η a9 xt.length c9) tr k).length:=by rw[xi _ _ _ _ _ _ _ _ _ rfl];exact UL
       have H13:=H aeK;have H14:=H aeM;have HR:=H aeL;have akz:=H o13;have akA:=H o14;have akB:=H i13;have aeN:=H i14;clear aeK aeM aeL o13 o14 i13 i14;refine H7 _ _ ?_;clear H7 K2;have akC:=H (And.intro g14 (And.intro UO (And.intro Be (And.intro i1 (And.intro i2 (And.intro yn (And.intro j1 (And.intro j2 (And.intro j3 (And.intro j4 hIR))))))))));clear hIR j1 j2 j3 j4 RC aao g14 UO Kc Be i1 i2 UN Mm Mn aeH yn eb q2 q3 q4 hm9;go_wp2_with (first
        |(refine wpList_store_mid rfl 96 (.tmp 59) (.tmp 58) rfl b 4 (bX r.fq r.iv r.ct r.un (η p1 r.ms.length r.ms.length) (η p2 r.mds.length r.mds.length) (η p3 r.wks.length r.wks.length) (η p4 r.pls.length r.pls.length) r.ws (gw F')).toArray rfl rfl H13.out akB.out akz.out ?_;rw[show(bX r.fq r.iv r.ct r.un (η p1 r.ms.length r.ms.length) (η p2 r.mds.length r.mds.length) (η p3 r.wks.length r.wks.length) (η p4 r.pls.length r.pls.length) r.ws (gw F')).toArray.toList=(bX r.fq r.iv r.ct r.un (η p1 r.ms.length r.ms.length) (η p2 r.mds.length r.mds.length) (η p3 r.wks.length r.wks.length) (η p4 r.pls.length r.pls.length) r.ws (gw F'))from rfl,<-aky.out])
        |(refine wpList_load_mid rfl 99 (.tmp 4) rfl b 0 rfl (jR (bJ ((F 0).getD [])) st ln true (bX r.fq r.iv r.ct r.un (η p1 r.ms.length r.ms.length) (η p2 r.mds.length r.mds.length) (η p3 r.wks.length r.wks.length) (η p4 r.pls.length r.pls.length) r.ws (gw F')) (η a8 ex.length c8) (η a9 xt.length c9) tr k) _ HR.out underlying99 rfl aeN.out ?_)
        |(refine wpList_store_mid rfl 99 (.tmp 2) (.tmp 60) rfl w.heap.size 0 (jR (bJ ((F 0).getD [])) st ln true (bX r.fq r.iv r.ct r.un (η p1 r.ms.length r.ms.length) (η p2 r.mds.length r.mds.length) (η p3 r.wks.length r.wks.length) (η p4 r.pls.length r.pls.length) r.ws (gw F')) (η a8 ex.length c8) (η a9 xt.length c9) tr k).toArray rfl rfl H14.out aeN.out akA.out ?_))
       obtain⟨g14,UO,Be,i1,i2,yn,j1,j2,j3,j4,hIR⟩:=akC.out;obtain⟨lE,X8,GK⟩:=Ka (vs:=(jR (bJ ((F 0).getD [])) st ln true (bX r.fq r.iv r.ct r.un (η p1 r.ms.length r.ms.length) (η p2 r.mds.length r.mds.length) (η p3 r.wks.length r.wks.length) (η p4 r.pls.length r.pls.length) r.ws (gw F')) (η a8 ex.length c8) (η a9 xt.length c9) tr k)) (o:=0) Be UO (μ _);rw[uf _ eD (by rw[yl,xi _ _ _ _ _ _ _ _ _ rfl])]at GK;exact bodyPost_ret (v:=zb (bJ ((F 0).getD [])) st ln true (bX r.fq r.iv r.ct r.un (η p1 r.ms.length r.ms.length) (η p2 r.mds.length r.mds.length) (η p3 r.wks.length r.wks.length) (η p4 r.pls.length r.pls.length) r.ws (gw F')) (η a8 ex.length c8) (η a9 xt.length c9) tr k) (mj results54 rfl (run_loadVar_mid _ w.heap.size 0 99 (jR (bJ ((F 0).getD [])) st ln true (bX r.fq r.iv r.ct r.un (η p1 r.ms.length r.ms.length) (η p2 r.mds.length r.mds.length) (η p3 r.wks.length r.wks.length) (η p4 r.pls.length r.pls.length) r.ws (gw F')) (η a8 ex.length c8) (η a9 xt.length c9) tr k) _ (gq GK) underlying99 rfl (by kernel_rfl))) rfl
        ⟨.inl ⟨F,tr,k,st,ln,ex,xt,HD.out,HTA.out,_,_,((i1.on yn).gr iq g14).gr iq lE,((i2.on yn).gr iq g14).gr iq lE,.inr ⟨v,F',r,_,_,_,_,H4.out,hIR,(j1.gr iq g14).gr iq lE,(j2.gr iq g14).gr iq lE,(j3.gr aaf g14).gr aaf lE,(j4.gr iq g14).gr iq lE,rfl⟩⟩,X8⟩
def ba (l:List UInt8):ByteArray:=⟨l.toArray⟩
def uK (k:Nat)(v:List UInt8):Bool:=match k with
 |0=>decide (0<Pd v)
 |1=>decide (0<fE v 100)
 |2=>decide (0<fE v 1000)
 |3=>kV (ba v)
 |4=>(vw (ba v) 12 false).isSome
 |5=>(vw (ba v) 31 true).isSome
 |6=>(EU (ba v)).isSome
 |7=>(vw (ba v) 366 true).isSome
 |8=>decide (0<=BZ v)
 |_=>false
def has (f:Nat->Option (List UInt8))(k:Nat):Bool:=(f k).isSome
def uH (f:Nat->Option (List UInt8)):Bool:=match f 6 with
 |none=>false
 |some v=>match EU (ba v)with
  |none=>false
  |some q=>q.2.any λo=>decide (o≠0)
def Fj (f:Nat->Option (List UInt8)):Int:=match f 0 with|none=>0|some v=>Pd v
def agree (f:Nat->Option (List UInt8)):Bool:=
 has f 0&&!(has f 2&&has f 3)&&!(has f 5&&decide (Fj f=2))&&!(uH f&&(decide (Fj f<3)||has f 5))&&(!has f 7||has f 4||has f 5||has f 6)
def Fk (f:Nat->Option (List UInt8)):Bool:=(List.range 9).all λk=>match f k with|none=>true|some v=>uK k v
def Pw (c:UInt8)(s:List UInt8):List (List UInt8):=(jO (ba s) c.toNat).map (·.data.toList)
def ri (s:List UInt8):Option (Nat->Option (List UInt8)):=match ff cF 61 (Pw 59 s) (λ_=>none)with
 |none=>none
 |some f=>if Fk f&&agree f then some f else none
theorem Px (l:ByteArray):ba l.data.toList=l:=by unfold ba;simp
theorem Bf (l:List UInt8):(ba l).data.toList=l:=rfl
theorem vB (v:List UInt8):(jO (ba v) 44).map (·.data.toList)=bY 44 v:=EX (ba v) 44
theorem RD (s:List UInt8):Pw 59 s=bY 59 s:=EX (ba s) 59
theorem UP {l:List UInt8}(h:dD l=true):¬l.head?=some 45:=λe=>by
 cases l with
 |nil=>cases e
 |cons a r=>
  simp only[List.head?_cons,Ϛ]at e;have:=xA h a (by simp);rw[e]at this;exact absurd this (by decide)
theorem abT {v:List UInt8}{m:Int}(h:mJ v 1 m=true):fE v m=dv v/\0<fE v m:=by
 have A:=h;unfold mJ at A;simp only[ο,decide_eq_true_eq]at A;have e:fE v m=dv v:=by
  unfold fE;rw[if_neg (UP A.1.1),na,if_pos h]
 rw[e];exact⟨rfl,by omega⟩
theorem aeO {v:List UInt8}{m:Int}(h:mJ v 1 m=false):fE v m<=0:=by
 unfold fE;split
 ·split
  ·rename_i A;unfold within at A;simp only[ο,decide_eq_true_eq]at A;omega
  omega
 rw[na,h];simp
theorem xj (v:List UInt8)(m:Int):pD 1 m v=if 0<fE v m then some (fE v m)else none:=by
 unfold pD;cases h:mJ v 1 m
 ·rw[if_neg (by simp),if_neg (by have:=aeO h;omega)]
 have:=abT h;rw[if_pos rfl,if_pos this.2,this.1]
theorem Py (most:Int)(kp:Bool):∀(P:List ByteArray) (acc:List Int),Ud most kp P acc=(fo (λl=>vX most kp (ba l)) (P.map (·.data.toList))).map (acc++·)
 |[],acc=>by simp[Ud,fo]
 |l::r,acc=>by
  simp only[Ud,Λ,fo,Px];cases h:vX most kp l with
  |none=>rfl
  |some z=>
   simp only[];rw[Py most kp r (acc++[z])];cases fo (λl=>vX most kp (ba l)) (r.map (·.data.toList))<;>simp
theorem oN (v:List UInt8)(most:Int)(kp:Bool):vw (ba v) most kp=dV (λl=>vX most kp (ba l)) (some v):=by
 have e:=vB v;have K:(jO (ba v) 44).length=(bY 44 v).length:=by rw[<-e,Ξ]
 unfold vw dV;simp only[];rw[K,Py,e];split
 ·cases fo (λl=>vX most kp (ba l)) (bY 44 v)<;>simp
 rfl
theorem Pz (m:Int):(λl=>vX m false (ba l))=pD 1 m:=by
 funext l;rw[xj];unfold vX;rw[Bf];by_cases h:0<fE l m
 ·rw[if_neg (by omega),if_neg (by omega),if_pos h]
 rw[if_neg h];by_cases h0:fE l m=0
 ·rw[if_pos h0]
 rw[if_neg h0,if_pos ⟨by omega,rfl⟩]
theorem Bg (m:Int):(λl=>vX m true (ba l))=sR m:=by
 funext l;unfold vX sR;rw[Bf];by_cases h0:fE l m=0
 ·rw[if_pos h0,if_pos h0]
 rw[if_neg h0,if_neg h0,if_neg (by simp)]
theorem Ya {v:List UInt8}(h:v.length≠2):idx jP v=none:=by
 refine C8 λj hj e=>h ?_;rw[<-e];have:j=0\/j=1\/j=2\/j=3\/j=4\/j=5\/j=6:=by have:jP.length=7:=rfl;omega
 rcases this with rfl|rfl|rfl|rfl|rfl|rfl|rfl<;>rfl
theorem Mo {v:List UInt8}{k:Nat}(h:idx jP v=some k):BZ v=k:=by unfold BZ;rw[h]
theorem Mp {v:List UInt8}(h:idx jP v=none):BZ v=-1:=by unfold BZ;rw[h]
theorem abU (l:List UInt8):XC (ba l)=(lD l).map λq=>(q.2,q.1):=by
 have hs:(ba l).size=l.length:=by unfold ba;simp[ByteArray.size]
 unfold XC lD;rw[hs];by_cases A:l.length<2
 ·rw[if_pos A,show l.length-2=0 from by omega,ώ,Ya (by omega)];rfl
 have c1:cut (ba l) (l.length-2) 2=l.drop (l.length-2):=by
  unfold cut;rw[Bf];exact List.take_of_length_le (by rw[List.length_drop];omega)
 have c2:cut (ba l) 0 (l.length-2)=l.take (l.length-2):=by
  unfold cut;rw[Bf,ώ]
 rw[if_neg A,c1,c2];cases hi:idx jP (l.drop (l.length-2))with
 |none=>rw[Mp hi,if_pos (by omega)];rfl
 |some k=>
  rw[Mo hi,if_neg (by omega)];simp only[];by_cases e2:l.length=2
  ·rw[if_pos e2,if_pos (by omega)];rfl
  rw[if_neg e2,if_neg (show¬l.length<=2 by omega)];split<;>rfl
theorem PA:∀(P:List ByteArray) (acc:List Int×List Int),Ue P acc=(fo lD (P.map (·.data.toList))).map λzs=>(acc.1++zs.map (·.2),acc.2++zs.map (·.1))
 |[],acc=>by simp[Ue,fo]
 |l::r,acc=>by
  have e:=abU l.data.toList;rw[Px]at e;simp only[Ue,Λ,fo,e];cases h:lD l.data.toList with
  |none=>rfl
  |some z=>
   simp only[Ζ];rw[PA r];cases fo lD (r.map (·.data.toList))<;>simp
theorem AG (v:List UInt8):EU (ba v)=(dV lD (some v)).map λzs=>(zs.map (·.2),zs.map (·.1)):=by
 have e:=vB v;have K:(jO (ba v) 44).length=(bY 44 v).length:=by rw[<-e,Ξ]
 unfold EU dV;simp only[];rw[K,PA,e];split
 ·cases fo lD (bY 44 v)<;>simp
 rfl
theorem AH (v:List UInt8):pC (some v)=if 0<Pd v then some (Pd v-1)else none:=by
 unfold pC;rw[ρ];by_cases G:v=[68,65,73,76,89]
 ·subst G;decide
 by_cases A:v=[87,69,69,75,76,89]
 ·subst A;decide
 by_cases M:v=[77,79,78,84,72,76,89]
 ·subst M;decide
 by_cases h4:v=[89,69,65,82,76,89]
 ·subst h4;decide
 have e:idx ja v=none:=C8 λj hj e=>by
  have:j=0\/j=1\/j=2\/j=3:=by have:ja.length=4:=rfl;omega
  rcases this with rfl|rfl|rfl|rfl
  ·exact G e.symm
  ·exact A e.symm
  ·exact M e.symm
  exact h4 e.symm
 rw[e];unfold Pd nK;rw[if_neg h4,if_neg G,if_neg A,if_neg M];rfl
theorem Fl:pC none=none:=by decide
theorem PC (v:List UInt8):Ax v=if 0<=BZ v then some (BZ v)else none:=by
 unfold Ax;cases h:idx jP v with
 |none=>rw[Mp h];rfl
 |some k=>rw[Mo h,if_pos (by omega)];rfl
theorem RE (F:Nat->Option (List UInt8)):Fk F=true↔∀k,k<9->∀v,F k=some v->uK k v=true:=by
 unfold Fk;rw[List.all_eq_true];constructor
 ·intro h k Y v hv;have:=h k (List.mem_range.2 Y);rw[hv]at this;exact this
 intro h k Y;cases hv:F k with
 |none=>rfl
 |some v=>exact h k (List.mem_range.1 Y) v hv
theorem sc {α:Type}{o:Option α}(h:o.isSome=true):∃z,o=some z:=Option.isSome_iff_exists.1 h
theorem I2 (F:Nat->Option (List UInt8)):(∃r,nT F r)↔has F 0=true/\Fk F=true:=by
 rw[RE];constructor
 ·rintro⟨r,h⟩;refine⟨?_,λk Y v hv=>?_⟩
  ·unfold has;cases h0:F 0 with
   |none=>have:=h.fq;rw[h0,Fl]at this;cases this
   |some v=>rfl
  have:k=0\/k=1\/k=2\/k=3\/k=4\/k=5\/k=6\/k=7\/k=8:=by omega
  rcases this with rfl|rfl|rfl|rfl|rfl|rfl|rfl|rfl|rfl<;>unfold uK<;>simp only[]
  ·have:=h.fq;rw[hv,AH]at this;split at this
   ·simpa using ‹_›
   cases this
  ·have:=h.iv;rw[hv,ρ,xj]at this;split at this
   ·simpa using ‹_›
   cases this
  ·have:=h.ct;rw[hv]at this;unfold vZ at this;simp only[]at this;rw[xj]at this;split at this
   ·simpa using ‹_›
   cases this
  ·have:=h.un;rw[hv]at this;unfold wb at this;simp only[]at this;split at this
   ·rename_i ht;exact ht
   cases this
  ·rw[oN,Pz,<-hv,h.ms];rfl
  ·rw[oN,Bg,<-hv,h.mds];rfl
  ·rw[AG,<-hv,h.wks];rfl
  ·rw[oN,Bg,<-hv,h.pls];rfl
  have:=h.ws;rw[hv,ρ,PC]at this;split at this
  ·simpa using ‹_›
  cases this
 rintro⟨h0,h⟩;obtain⟨v0,hv0⟩:=sc h0;have p0:=h 0 (by decide) v0 hv0;have q1:∃z,pD 1 100 ((F 1).getD [49])=some z:=by
  cases hv:F 1 with
  |none=>exact⟨1,by rw[Option.getD_none];decide⟩
  |some v=>
   have p:=h 1 (by decide) v hv;unfold uK at p;simp only[decide_eq_true_eq]at p;exact⟨_,by rw[ρ,xj,if_pos p]⟩
 have q2:∃z,vZ (F 2)=some z:=by
  cases hv:F 2 with
  |none=>exact⟨0,rfl⟩
  |some v=>
   have p:=h 2 (by decide) v hv;unfold uK at p;simp only[decide_eq_true_eq]at p;exact⟨_,by unfold vZ;simp only[];rw[xj,if_pos p]⟩
 have q3:∃z,wb (F 3)=some z:=by
  cases hv:F 3 with
  |none=>exact⟨9223372036854775807,rfl⟩
  |some v=>
   have p:kV (bJ v)=true:=h 3 (by decide) v hv;exact⟨_,by unfold wb;simp only[];rw[if_pos p]⟩
 have q4:∃z,dV (pD 1 12) (F 4)=some z:=by
  cases hv:F 4 with
  |none=>exact⟨[],rfl⟩
  |some v=>
   have p:(vw (ba v) 12 false).isSome=true:=h 4 (by decide) v hv;rw[oN,Pz]at p;exact sc p
 have q5:∃z,dV (sR 31) (F 5)=some z:=by
  cases hv:F 5 with
  |none=>exact⟨[],rfl⟩
  |some v=>
   have p:(vw (ba v) 31 true).isSome=true:=h 5 (by decide) v hv;rw[oN,Bg]at p;exact sc p
 have q6:∃z,dV lD (F 6)=some z:=by
  cases hv:F 6 with
  |none=>exact⟨[],rfl⟩
  |some v=>
   have p:(EU (ba v)).isSome=true:=h 6 (by decide) v hv;rw[AG,Option.isSome_map]at p;exact sc p
 have q7:∃z,dV (sR 366) (F 7)=some z:=by
  cases hv:F 7 with
  |none=>exact⟨[],rfl⟩
  |some v=>
   have p:(vw (ba v) 366 true).isSome=true:=h 7 (by decide) v hv;rw[oN,Bg]at p;exact sc p
 have q8:∃z,Ax ((F 8).getD [77,79])=some z:=by
  cases hv:F 8 with
  |none=>exact⟨0,by rw[Option.getD_none];decide⟩
  |some v=>
   have p:=h 8 (by decide) v hv;unfold uK at p;simp only[decide_eq_true_eq]at p;exact⟨_,by rw[ρ,PC,if_pos p]⟩
 unfold uK at p0;simp only[decide_eq_true_eq]at p0;obtain⟨z1,q1⟩:=q1;obtain⟨z2,q2⟩:=q2;obtain⟨z3,q3⟩:=q3;obtain⟨z4,q4⟩:=q4;obtain⟨z5,q5⟩:=q5;obtain⟨z6,q6⟩:=q6;obtain⟨z7,q7⟩:=q7;obtain⟨z8,q8⟩:=q8;exact⟨⟨Pd v0-1,z1,z2,z3,z4,z5,z6,z7,z8⟩,by rw[hv0,AH,if_pos p0],q1,q2,q3,q4,q5,q6,q7,q8⟩
theorem abV {α:Type}{rd:List UInt8->Option α}{v:List UInt8}{zs:List α}(h:dV rd (some v)=some zs):0<zs.length:=by
 unfold dV at h;simp only[]at h;split at h
 ·rw[Bd h];have:=Ap 44 v;cases hs:bY 44 v with
  |nil=>exact absurd hs this
  |cons a r=>simp
 cases h
theorem Bh {α:Type}{rd:List UInt8->Option α}{f:Option (List UInt8)}{zs:List α}(h:dV rd f=some zs):f.isSome=decide (0<zs.length):=by
 cases f with
 |none=>
  have:zs=[]:=(ξ h).symm;subst this;rfl
 |some v=>have:=abV h;simp[this]
theorem aeP {F:Nat->Option (List UInt8)}{zs:List (Int×Int)}(h:dV lD (F 6)=some zs):uH F=ik zs:=by
 unfold uH;cases hv:F 6 with
 |none=>
  rw[hv]at h;have:zs=[]:=(ξ h).symm;subst this;rfl
 |some v=>
  rw[hv]at h;simp only[];rw[AG,h];simp only[Ζ];unfold ik;rw[List.any_map];rfl
theorem abW {F:Nat->Option (List UInt8)}{z:Int}(h:pC (F 0)=some z):Fj F=z+1/\has F 0=true:=by
 unfold Fj has;cases hv:F 0 with
 |none=>rw[hv,Fl]at h;cases h
 |some v=>
  rw[hv,AH]at h;split at h
  ·have:=ξ h;exact⟨by simp only[];omega,rfl⟩
  cases h
theorem I3 {F:Nat->Option (List UInt8)}{r:aE}(h:nT F r):agree F=true↔¬((F 2).isSome=true/\(F 3).isSome=true)/\E9 r=true:=by
 obtain⟨hf,h0⟩:=abW h.fq;have ho:=aeP h.wks;have b5:has F 5=decide (0<r.mds.length):=Bh h.mds;have b4:has F 4=decide (0<r.ms.length):=Bh h.ms;have b6:has F 6=decide (0<r.wks.length):=Bh h.wks;have b7:has F 7=decide (0<r.pls.length):=Bh h.pls;have tY:=Pm h.fq;unfold agree E9 xe;rw[h0,hf,ho,b4,b5,b6,b7];unfold has;generalize(F 2).isSome=x2;generalize(F 3).isSome=x3;generalize ik r.wks=o;generalize r.mds.length=nd at *
 generalize r.ms.length=nm at *
 generalize r.wks.length=nw at *
 generalize r.pls.length=np at *
 have hq:r.fq=0\/r.fq=1\/r.fq=2\/r.fq=3:=by omega
 rcases hq with e|e|e|e<;>rw[e]<;>cases x2<;>cases x3<;>cases o<;>by_cases c1:0<nd<;>by_cases c2:0<nm<;>by_cases c3:0<nw<;>by_cases c4:0<np<;>simp[c1,c2,c3,c4]<;>omega
theorem yo (s:List UInt8)(F:Nat->Option (List UInt8)):ri s=some F↔∃r,mM s F r:=by
 unfold ri mM partsOf;rw[RD];cases hf:ff cF 61 (bY 59 s) (λ_=>none)with
 |none=>simp
 |some f=>
  simp only[];constructor
  ·intro h;split at h
   ·rename_i hc;have e:=ξ h;subst e;rw[ο]at hc;have h0:has f 0=true:=by
     have:=hc.2;unfold agree at this;simp only[ο]at this;exact this.1.1.1.1
    obtain⟨r,hr⟩:=(I2 f).2 ⟨h0,hc.1⟩;obtain⟨a1,a2⟩:=(I3 hr).1 hc.2;exact⟨r,rfl,a1,hr,a2⟩
   cases h
  rintro⟨r,G,A,M,h4⟩;have e:=ξ G;subst e;have a:=(I3 M).2 ⟨A,h4⟩;have b:=((I2 f).1 ⟨r,M⟩).2;rw[if_pos (by rw[a,b];rfl)]
def val (f:Nat->Option (List UInt8))(k:Nat):List UInt8:=(f k).getD []
def mQ (s:List UInt8):List (List UInt8):=(vv (iC s) []).1
def uL (s:List UInt8):Bool:=(vv (iC s) []).2&&decide (s.length<=2000)&&decide (2<=(mQ s).length)&&decide ((mQ s).getD 0 []=Ff)&&decide ((mQ s).getD ((mQ s).length-1) []=Rv)
def tq:List UInt8:=[79,80,65,81,85,69]
def ng:List UInt8:=[84,82,65,78,83,80,65,82,69,78,84]
def pI:List UInt8:=[67,79,78,70,73,82,77,69,68]
def pJ:List UInt8:=[84,69,78,84,65,84,73,86,69]
def pK:List UInt8:=[67,65,78,67,69,76,76,69,68]
def must (f:Nat->Option (List UInt8)):Bool:=has f 0&&has f 1&&(has f 2 !=has f 3)&&kk (ba (val f 0))
def pL (f:Nat->Option (List UInt8)):Bool:=!(has f 7&&(decide (nK (val f 7) tq ng []=0)||decide (val f 7=[])))&&!(has f 8&&decide (nK (val f 8) pI pJ pK=0))
def jI (s:List UInt8):Option (Nat->Option (List UInt8)):=
 if uL s then match ff iZ 58 (im (mQ s)) (λ_=>none)with
  |none=>none
  |some f=>if must f&&pL f then some f else none
 else none
def pZ (o:Option (List UInt8)):Option (List Int):=match o with|none=>some []|some v=>LY (ba v)
def I4 (o:Option (List UInt8)):Option (Option (Nat->Option (List UInt8))):=match o with|none=>some none|some v=>(ri v).map some
def kindOf (f:Nat->Option (List UInt8)):Int:=if has f 8 then nK (val f 8) pI pJ pK else 1
def iL (f:Nat->Option (List UInt8)):Bool:=decide (val f 7=ng)
structure oJ where
 f:Nat->Option (List UInt8)
 st:Int
 ln:Int
 ex:List Int
 xt:List Int
 rl:Option (Nat->Option (List UInt8))
def iA (s:List UInt8):Except Int oJ:=match jI s with
 |none=>.error 2
 |some f=>match il (val f 1)with
  |none=>.error 1
  |some st=>match mO st (f 3) (f 2)with
   |none=>.error 1
   |some ln=>match pZ (f 5)with
    |none=>.error 1
    |some ex=>match pZ (f 6)with
     |none=>.error 1
     |some xt=>match I4 (f 4)with
      |none=>.error 3
      |some rl=>.ok ⟨f,st,ln,ex,xt,rl⟩
def fL (l:List Int):Prop:=l.Pairwise (·<·)
theorem qy (n:Int):∀(zs:List Int) (d:Bool) (x:Int),x∈uE n d zs↔(x=n/\d=false)\/(x∈zs/\x≠n)
 |[],d,x=>by cases d<;>simp[uE]
 |a::r,d,x=>by
  rw[uE,υ,υ,qy n r];cases d
  ·by_cases G:n<=a
   ·by_cases A:a=n
    ·subst A;simp;constructor
     ·rintro(h|⟨h,h'⟩)
      ·exact .inl h
      exact .inr ⟨.inr h,h'⟩
     rintro(h|⟨h|h,h'⟩)
     ·exact .inl h
     ·exact absurd h h'
     exact .inr ⟨h,h'⟩
    simp[G,A];constructor
    ·rintro((h|h)|⟨h,h'⟩)
     ·exact .inl h
     ·exact .inr ⟨.inl h,by rw[h];exact A⟩
     exact .inr ⟨.inr h,h'⟩
    rintro(h|⟨h|h,h'⟩)
    ·exact .inl (.inl h)
    ·exact .inl (.inr h)
    exact .inr ⟨h,h'⟩
   have A:¬a=n:=by omega
   simp[G,A];constructor
   ·rintro(h|h|⟨h,h'⟩)
    ·exact .inr ⟨.inl h,by rw[h];exact A⟩
    ·exact .inl h
    exact .inr ⟨.inr h,h'⟩
   rintro(h|⟨h|h,h'⟩)
   ·exact .inr (.inl h)
   ·exact .inl h
   exact .inr (.inr ⟨h,h'⟩)
  by_cases A:a=n
  ·subst A;simp;exact λh h'=>absurd h' h
  simp[A];constructor
  ·rintro(h|⟨h,h'⟩)
   ·exact⟨.inl h,by rw[h];exact A⟩
   exact⟨.inr h,h'⟩
  rintro⟨h|h,h'⟩
  ·exact .inl h
  exact .inr ⟨h,h'⟩
theorem GM (n:Int):∀(zs:List Int) (d:Bool),fL zs->fL (uE n d zs)
 |[],d,_=>by cases d<;>simp[uE,fL]
 |a::r,d,h=>by
  obtain⟨ha,hr⟩:=List.pairwise_cons.1 h;have ihT:=GM n r true hr;have ihF:=GM n r false hr;rw[uE];cases d
  ·by_cases G:n<=a
   ·by_cases A:a=n
    ·simp only[A,Int.le_refl,and_self,if_true,ύ,Η,decide_true,Bool.or_true];refine List.pairwise_cons.2 ⟨λx N=>?_,ihT⟩;rcases(qy n r true x).1 N with⟨_,h⟩|⟨N,_⟩
     ·cases h
     have:=ha x N;omega
    simp only[G,A,and_self,if_true,if_false,List.cons_append,Ν,decide_true,Bool.or_true];refine List.pairwise_cons.2 ⟨λx N=>?_,List.pairwise_cons.2 ⟨λx N=>?_,ihT⟩⟩
    ·rcases List.mem_cons.1 N with rfl|N
     ·omega
     rcases(qy n r true x).1 N with⟨_,h⟩|⟨N,_⟩
     ·cases h
     have:=ha x N;omega
    rcases(qy n r true x).1 N with⟨_,h⟩|⟨N,_⟩
    ·cases h
    exact ha x N
   have A:¬a=n:=by omega
   have M:¬(false=false/\n<=a):=λh=>G h.2;rw[if_neg M,if_neg A,show(false||decide (n<=a))=false from by simp[G]];simp only[Ν,Η];refine List.pairwise_cons.2 ⟨λx N=>?_,ihF⟩;rcases(qy n r false x).1 N with⟨h,_⟩|⟨N,_⟩
   ·omega
   exact ha x N
  by_cases A:a=n
  ·rw[if_neg (λh=>by cases h.1),if_pos A];exact ihT
  rw[if_neg (λh=>by cases h.1),if_neg A];simp only[Ν,Η,Bool.true_or];refine List.pairwise_cons.2 ⟨λx N=>?_,ihT⟩;rcases(qy n r true x).1 N with⟨_,h⟩|⟨N,_⟩
  ·cases h
  exact ha x N
theorem zR:∀{l m:List Int},fL l->fL m->(∀x,x∈l↔x∈m)->l=m
 |[],[],_,_,_=>rfl
 |[],b::m,_,_,h=>absurd ((h b).2 (by simp)) (by simp)
 |a::l,[],_,_,h=>absurd ((h a).1 (by simp)) (by simp)
 |a::l,b::m,K,hm,h=>by
  obtain⟨ha,vk⟩:=List.pairwise_cons.1 K;obtain⟨U,L7⟩:=List.pairwise_cons.1 hm;have e:a=b:=by
   have G:=(h a).1 (by simp);have A:=(h b).2 (by simp);rcases List.mem_cons.1 G with G|G
   ·exact G
   rcases List.mem_cons.1 A with A|A
   ·exact A.symm
   have:=ha b A;have:=U a G;omega
  subst e;rw[zR vk L7 λx=>?_];constructor
  ·intro N;rcases List.mem_cons.1 ((h x).1 (Χ _ N))with e|h'
   ·have:=ha x N;omega
   exact h'
  intro N;rcases List.mem_cons.1 ((h x).2 (Χ _ N))with e|h'
  ·have:=U x N;omega
  exact h'
theorem Mq (zs:List Int)(hs:zs.Pairwise (·<=·)):∀m,m<=zs.length->fL (φ zs.toArray m)/\∀x,x∈φ zs.toArray m↔x∈zs.take m
 |0,_=>by
  have:φ zs.toArray 0=[]:=by simp[φ]
  rw[this];exact⟨List.Pairwise.nil,by simp⟩
 |m+1,h=>by
  obtain⟨G,A⟩:=Mq zs hs m (by omega);have hm:m<zs.length:=by omega
  have hg:zs.toArray[m]! =zs[m]:=by simp[hm]
  rw[Lib.compactUpTo_succ,hg,List.take_succ_eq_append_getElem hm];by_cases Y:Lib.keeps zs.toArray m=true
  ·rw[if_pos Y];refine⟨?_,λx=>by rw[υ,υ,A]⟩;refine List.pairwise_append.2 ⟨G,List.pairwise_singleton _ _,λx N y hy=>?_⟩;rw[Ω]at hy;subst hy;obtain⟨j,hj,rfl⟩:=List.getElem_of_mem ((A x).1 N);rw[List.length_take]at hj;rw[List.getElem_take];have M:zs[m-1]<zs[m]:=by
    have dp:zs[m]≠zs[m-1]:=by
     unfold Lib.keeps at Y;have kM:m-1<zs.length:=by omega
     simp only[hg]at Y;intro e;have h0:m≠0:=by omega
     simp[h0,kM,e]at Y
    have:=List.pairwise_iff_getElem.1 hs (m-1) m (by omega) hm (by omega);omega
   rcases Nat.lt_or_ge j (m-1)with h4|h4
   ·have:=List.pairwise_iff_getElem.1 hs j (m-1) (by omega) (by omega) h4;omega
   have:j=m-1:=by omega
   subst this;exact M
  rw[if_neg Y,ύ];refine⟨G,λx=>?_⟩;rw[A,υ,Ω];constructor
  ·exact .inl
  rintro(h|h)
  ·exact h
  subst h;have h0:m≠0:=λe=>Y (by subst e;exact Lib.keeps_lt_one _ 0 (by omega));have kM:m-1<zs.length:=by omega
  have e:zs[m]=zs[m-1]:=by
   unfold Lib.keeps at Y;simp only[hg]at Y;by_cases e:zs[m]=zs[m-1]
   ·exact e
   exfalso;apply Y;simp[h0,kM,e]
  rw[e];exact List.mem_take_iff_getElem.2 ⟨m-1,by omega,rfl⟩
theorem Kd (zs:List Int):fL (Ο (zs.mergeSort λx y=>decide (x<=y)))/\∀x,x∈Ο (zs.mergeSort λx y=>decide (x<=y))↔x∈zs:=by
 have hs:(zs.mergeSort λx y=>decide (x<=y)).Pairwise (·<=·):=by
  have:=List.pairwise_mergeSort (le:=λx y:Int=>decide (x<=y)) (by simp;omega) (by simp;omega) zs;exact this.imp (by simp)
 obtain⟨G,A⟩:=Mq _ hs _ (μ _);refine⟨G,λx=>?_⟩;rw[show Ο (zs.mergeSort λx y=>decide (x<=y))=φ (zs.mergeSort λx y=>decide (x<=y)).toArray (zs.mergeSort λx y=>decide (x<=y)).length from rfl,A,ϋ];exact List.mem_mergeSort
theorem PD:∀(P:List ByteArray) (acc:List Int),fL acc->(match fo il (P.map (·.data.toList))with
 |none=>IQ P acc=none
 |some zs=>∃out,IQ P acc=some out/\fL out/\∀x,x∈out↔x∈zs\/x∈acc)
 |[],acc,h=>⟨acc,rfl,h,λx=>by simp⟩
 |l::r,acc,h=>by
  rw[Λ,fo,IQ];have e:il l.data.toList=if kV l=true then some (kj l)else none:=by
   unfold il bJ;simp
  rw[e];by_cases ht:kV l=true
  ·rw[if_pos ht,if_pos ht];have ih:=PD r (uE (kj l) false acc) (GM _ _ _ h);cases hz:fo il (r.map (·.data.toList))with
   |none=>rw[hz]at ih;exact ih
   |some zs=>
    rw[hz]at ih;obtain⟨out,G,A,M⟩:=ih;refine⟨out,G,A,λx=>?_⟩;rw[M,qy,Τ];simp only[and_true];by_cases N:x=kj l<;>simp[N]
  rw[if_neg ht,if_neg ht]
def swp (k:Nat):Nat:=if k=2 then 3 else if k=3 then 2 else k
def sw (f:Nat->Option (List UInt8)):Nat->Option (List UInt8):=λk=>f (swp k)
theorem GN (k:Nat):swp (swp k)=k:=by
 unfold swp;by_cases A:k=2
 ·subst A;rfl
 by_cases M:k=3
 ·subst M;rfl
 simp[A,M]
theorem aeQ (f:Nat->Option (List UInt8))(j:Nat)(v:List UInt8):sw (λi=>if i=j then some v else f i)=λi=>if i=swp j then some v else sw f i:=by
 funext k;unfold sw;by_cases h:k=swp j
 ·subst h;rw[GN];simp
 have:¬swp k=j:=λe=>h (by rw[<-e,GN]);simp[h,this]
theorem aeR (n:List UInt8):idx fp n=(idx iZ n).map swp:=by
 by_cases h0:n=[85,73,68]
 ·subst h0;decide
 by_cases G:n=[68,84,83,84,65,82,84]
 ·subst G;decide
 by_cases A:n=[68,84,69,78,68]
 ·subst A;decide
 by_cases M:n=[68,85,82,65,84,73,79,78]
 ·subst M;decide
 by_cases h4:n=[82,82,85,76,69]
 ·subst h4;decide
 by_cases h5:n=[69,88,68,65,84,69]
 ·subst h5;decide
 by_cases h6:n=[82,68,65,84,69]
 ·subst h6;decide
 by_cases h7:n=[84,82,65,78,83,80]
 ·subst h7;decide
 by_cases h8:n=[83,84,65,84,85,83]
 ·subst h8;decide
 unfold fp iZ;simp only[idx,if_neg (χ h0),if_neg (χ G),if_neg (χ A),if_neg (χ M),if_neg (χ h4),if_neg (χ h5),if_neg (χ h6),if_neg (χ h7),if_neg (χ h8)];rfl
theorem aeS (l:List UInt8):Al fp 58 l=(Al iZ 58 l).map λq=>(swp q.1,q.2):=by
 unfold Al;cases sp 58 l with
 |none=>rfl
 |some q=>
  obtain⟨n,v⟩:=q;simp only[];rw[aeR];cases idx iZ n<;>rfl
theorem GO:∀(P:List (List UInt8)) (f:Nat->Option (List UInt8)),ff fp 58 P (sw f)=(ff iZ 58 P f).map sw
 |[],f=>rfl
 |l::r,f=>by
  rw[ff,ff,aeS];cases Al iZ 58 l with
  |none=>rfl
  |some q=>
   obtain⟨k,v⟩:=q;simp only[Ζ];have e:sw f (swp k)=f k:=by unfold sw;rw[GN]
   rw[e];cases U:(f k).isSome with
   |true=>rfl
   |false=>
    simp only[Bool.false_eq_true,if_false];rw[<-aeQ];exact GO r _
theorem UQ (o:Option (List UInt8)):AA o=match o with|none=>some 0|some v=>if nK v pI pJ pK=0 then none else some (nK v pI pJ pK-1):=by
 cases o with
 |none=>decide
 |some v=>
  unfold AA;simp only[ρ];by_cases h0:v=pI
  ·subst h0;decide
  by_cases G:v=pJ
  ·subst G;decide
  by_cases A:v=pK
  ·subst A;decide
  have hw:nK v pI pJ pK=0:=by unfold nK;simp[h0,G,A]
  rw[if_pos hw];unfold mN;simp only[idx];unfold pI at h0;unfold pJ at G;unfold pK at A;simp only[if_neg (χ h0),if_neg (χ G),if_neg (χ A)];rfl
theorem UR (o:Option (List UInt8)):Az o=match o with|none=>some false|some v=>if nK v tq ng []=0\/v=[]then none else some (decide (v=ng)):=by
 cases o with
 |none=>decide
 |some v=>
  unfold Az;simp only[ρ];by_cases h0:v=tq
  ·subst h0;decide
  by_cases G:v=ng
  ·subst G;decide
  have hw:nK v tq ng []=0\/v=[]:=by
   by_cases A:v=[]
   ·exact .inr A
   exact .inl (by unfold nK;simp[h0,G,A])
  rw[if_pos hw];unfold lL;simp only[idx];unfold tq at h0;unfold ng at G;simp only[if_neg (χ h0),if_neg (χ G)];rfl
theorem I5 {s:List UInt8}{ls:List (List UInt8)}(A:2<=ls.length):jQ s=some ls↔(vv (iC s) []).2=true/\mQ s=ls:=by
 unfold jQ mQ;by_cases N:∃i,iC s=i++[13,10]
 ·obtain⟨i,hi⟩:=N;have G:Μ (iC s) crlf=true:=by rw[hi];unfold Μ;exact List.isSuffixOf_iff_suffix.2 ⟨i,rfl⟩
  have M:Ϙ (iC s) crlf=i:=by unfold Ϙ;rw[if_pos G,hi];simp[crlf]
  rw[if_pos G,M,hi,abO];simp
 have G:¬Μ (iC s) crlf=true:=λe=>by
  unfold Μ at e;obtain⟨t,ht⟩:=List.isSuffixOf_iff_suffix.1 e;exact N ⟨t,ht.symm⟩
 rw[if_neg G];constructor
 ·intro h;cases h
 rintro⟨M,h4⟩;by_cases h0:iC s=[]
 ·rw[h0]at h4;simp[vv]at h4;subst h4;simp at A
 rw[aeo h0 (λi e=>N ⟨i,e⟩)]at M;cases M
theorem Mr (f:Nat->Option (List UInt8)):must f=true↔(sw f 0).isSome=true/\(sw f 1).isSome=true/\((sw f 2).isSome !=(sw f 3).isSome)=true/\kk (bJ ((sw f 0).getD []))=true:=by
 have e0:sw f 0=f 0:=rfl;have S:sw f 1=f 1:=rfl;have e2:sw f 2=f 3:=rfl;have e3:sw f 3=f 2:=rfl;rw[e0,S,e2,e3];unfold must has val;rw[ο,ο,ο];have:((f 2).isSome !=(f 3).isSome)=((f 3).isSome !=(f 2).isSome):=by cases(f 2).isSome<;>cases(f 3).isSome<;>rfl
 rw[this];exact⟨λ⟨⟨⟨a,b⟩,c⟩,d⟩=>⟨a,b,c,d⟩,λ⟨a,b,c,d⟩=>⟨⟨⟨a,b⟩,c⟩,d⟩⟩
theorem I6 (f:Nat->Option (List UInt8)):pL f=true↔Az (sw f 7)=some (iL f)/\AA (sw f 8)=some (kindOf f-1):=by
 have e7:sw f 7=f 7:=rfl;have e8:sw f 8=f 8:=rfl;rw[e7,e8,UR,UQ];unfold pL iL kindOf has val;cases f 7 with
 |none=>
  cases f 8 with
  |none=>simp[ng]
  |some v=>by_cases h:nK v pI pJ pK=0<;>simp[h,ng]
 |some u=>
  cases f 8 with
  |none=>by_cases h:nK u tq ng []=0<;>by_cases h':u=[]<;>simp[h,h']
  |some v=>by_cases h:nK u tq ng []=0<;>by_cases h':u=[]<;>by_cases A:nK v pI pJ pK=0<;>simp[h,h',A]
theorem RF {f:Nat->Option (List UInt8)}{tr:Bool}{k:Int}(h:Fg (sw f) tr k):pL f=true/\tr=iL f/\k=kindOf f-1:=by
 have G:=h.tr;have A:=h.st;have e7:sw f 7=f 7:=rfl;have e8:sw f 8=f 8:=rfl;have hw:pL f=true:=by
  rw[e7,UR]at G;rw[e8,UQ]at A;unfold pL has val;cases h7:f 7 with
  |none=>
   cases h8:f 8 with
   |none=>rfl
   |some v=>rw[h8]at A;by_cases h:nK v pI pJ pK=0<;>simp[h]at A⊢
  |some u=>
   rw[h7]at G;cases h8:f 8 with
   |none=>by_cases h:nK u tq ng []=0<;>by_cases h':u=[]<;>simp[h,h']at G⊢
   |some v=>rw[h8]at A;by_cases h:nK u tq ng []=0<;>by_cases h':u=[]<;>by_cases M:nK v pI pJ pK=0<;>simp[h,h',M]at G A⊢
 obtain⟨a,b⟩:=(I6 f).1 hw;rw[G]at a;rw[A]at b;exact⟨hw,ξ a,ξ b⟩
theorem Fm (s:List UInt8):uL s=true↔s.length<=2000/\(vv (iC s) []).2=true/\2<=(mQ s).length/\(mQ s).getD 0 []=Ff/\(mQ s).getD ((mQ s).length-1) []=Rv:=by
 unfold uL;simp only[ο,decide_eq_true_eq];exact⟨λ⟨⟨⟨⟨a,b⟩,c⟩,d⟩,e⟩=>⟨b,a,c,d,e⟩,λ⟨b,a,c,d,e⟩=>⟨⟨⟨⟨a,b⟩,c⟩,d⟩,e⟩⟩
theorem oh (s:List UInt8)(F:Nat->Option (List UInt8))(tr:Bool)(k:Int):mP s F tr k↔∃f,jI s=some f/\F=sw f/\tr=iL f/\k=kindOf f-1:=by
 have e0:sw (λ_=>none)=λ_=>none:=rfl;constructor
 ·rintro⟨J,U⟩;obtain⟨ls,G,A,M,h4,h5⟩:=J.lines;obtain⟨K,rfl⟩:=(I5 A).1 G;have hf:uL s=true:=(Fm s).2 ⟨J.len,K,A,M,h4⟩;have h6:=GO (im (mQ s)) (λ_=>none);rw[e0,h5]at h6;obtain⟨f,IS,rfl⟩:=Option.map_eq_some_iff.1 h6.symm;obtain⟨hw,htr,Y⟩:=RF U;have hm:must f=true:=(Mr f).2 ⟨J.uid,J.start,J.one,U.uid⟩;refine⟨f,?_,rfl,htr,Y⟩;unfold jI;rw[if_pos hf,IS];simp only[];rw[hm,hw];rfl
 rintro⟨f,hf,rfl,rfl,rfl⟩;unfold jI at hf;by_cases PE:uL s=true
 ·rw[if_pos PE]at hf;obtain⟨G,A,M,h4,h5⟩:=(Fm s).1 PE;cases h6:ff iZ 58 (im (mQ s)) (λ_=>none)with
  |none=>rw[h6]at hf;cases hf
  |some f'=>
   rw[h6]at hf;simp only[]at hf;split at hf
   ·rename_i hc;cases hf;rw[ο]at hc;obtain⟨m1,m2,m3,m4⟩:=(Mr f).1 hc.1;obtain⟨w1,w2⟩:=(I6 f).1 hc.2;have h7:=GO (im (mQ s)) (λ_=>none);rw[e0,h6]at h7;exact⟨⟨G,⟨mQ s,(I5 M).2 ⟨A,rfl⟩,M,h4,h5,h7⟩,m1,m2,m3⟩,⟨m4,w1,w2⟩⟩
   cases hf
 rw[if_neg PE]at hf;cases hf
theorem AI (o:Option (List UInt8)):pZ o=sS o:=by
 cases o with
 |none=>unfold pZ sS dV;simp[Ο,φ]
 |some v=>
  unfold pZ sS LY dV;simp only[];have K:(jO (ba v) 44).length=(bY 44 v).length:=by rw[<-vB,Ξ]
  rw[K];by_cases xd:(bY 44 v).length<=20
  ·rw[if_pos xd,if_pos xd];have h:=PD (jO (ba v) 44) [] List.Pairwise.nil;rw[vB]at h;cases hz:fo il (bY 44 v)with
   |none=>rw[hz]at h;rw[h];rfl
   |some zs=>
    rw[hz]at h;obtain⟨out,G,A,M⟩:=h;rw[G];obtain⟨s1,s2⟩:=Kd zs;simp only[Ζ];congr 1;exact zR A s1 λx=>by rw[M,s2];simp
  rw[if_neg xd,if_neg xd];rfl
theorem vC {f:Nat->Option (List UInt8)}{st ln:Int}{ex xt:List Int}:lg (sw f) st ln ex xt↔il (val f 1)=some st/\mO st (f 3) (f 2)=some ln/\pZ (f 5)=some ex/\pZ (f 6)=some xt:=by
 rw[AI,AI];exact⟨λh=>⟨h.iI,h.lA,h.hex,h.lT⟩,λ⟨a,b,c,d⟩=>⟨a,b,c,d⟩⟩
theorem JQ (s:List UInt8)(w:ν)(Pq:¬s.length<=2000):
 π prog 79 #[θ ⟨s.toArray⟩] w λe I=>e=ε (bx 2)/\w=I:=by
 have h':decide ((s.length:Int)<=2000)=false:=by simp;omega
 go_enter func79,ntmps79;go_wp2_with (go_at_call_of 42 (Value.bool false);refine eI ?_);exact⟨rfl,rfl,rfl⟩
theorem GQ (s:List UInt8)(w:ν)(Pq:¬s.length<=2000):
 π prog 54 #[θ ⟨s.toArray⟩] w λe I=>e=ε (bx 2)/\Below w.heap.size w I:=by
 have C:=H λW=>JQ s W Pq;clear Pq;go_enter func54,ntmps54;go_wp2_with (go_at_call 79;refine(C.out _).mono ?_;rintro e w3 ⟨rfl,rfl⟩);exact⟨rfl,rfl,(κ _ _).alloc (μ _) _⟩
theorem Gn (s:List UInt8)(w:ν)(hm:ML w):π prog 54 #[θ ⟨s.toArray⟩] w (Fh s w):=by
 by_cases h:s.length<=2000
 ·exact qx s w hm (by omega)
 exact(GQ s w h).mono λE I ⟨G,A⟩=>⟨.inr (.inl ⟨λ⟨F,tr,k,M⟩=>by
  obtain⟨f,h4,_⟩:=(oh s F tr k).1 M;unfold jI uL at h4;simp[h]at h4,G⟩),A⟩
structure aj (O:Nat->Prop)(W W':ν):Prop where
 os:W'.os=W.os
 tape:W'.tape=W.tape
 output:W'.output=W.output
 size:W.heap.size<=W'.heap.size
 block:∀k,k<W.heap.size->¬O k->W'.heap[k]?=W.heap[k]?
theorem aj.refl (O:Nat->Prop)(W:ν):aj O W W:=⟨rfl,rfl,rfl,μ _,λ_ _ _=>rfl⟩
theorem aj.trans {O O':Nat->Prop}{aqt B C:ν}(h:aj O aqt B)(k:aj O' B C)(hO:∀i,O' i->O i\/aqt.heap.size<=i):aj O aqt C:=
 ⟨k.os.trans h.os,k.tape.trans h.tape,k.output.trans h.output,ϙ h.size k.size,λi hi hn=>(k.block i (Nat.lt_of_lt_of_le hi h.size) (λho=>(hO i ho).elim hn (by omega))).trans (h.block i hi hn)⟩
theorem aj.aK {O:Nat->Prop}{aqt B C:ν}(h:aj O aqt B)(k:aj O B C):aj O aqt C:=h.trans k (λ_ h=>.inl h)
theorem aj.aq {O:Nat->Prop}{W W':ν}(h:Below W.heap.size W W'):aj O W W':=⟨h.os,h.tape,h.output,h.size,λk Y _=>h.block k Y⟩
theorem aj.below {O:Nat->Prop}{W W':ν}{B:Nat}(h:aj O W W')(hB:B<=W.heap.size)(hO:∀k,O k->B<=k):Below B W W':=
 ⟨h.os,h.tape,h.output,h.size,λk Y=>h.block k (by omega) (λho=>by have:=hO k ho;omega)⟩
theorem aj.mono {O O':Nat->Prop}{W W':ν}(h:aj O W W')(hO:∀k,O k->O' k\/W.heap.size<=k):aj O' W W':=
 ⟨h.os,h.tape,h.output,h.size,λk Y hn=>h.block k Y (λho=>(hO k ho).elim hn (by omega))⟩
theorem aj.setCell {O:Nat->Prop}{W W':ν}(h:aj O W W'){p:Addr}(J:O p.block\/W.heap.size<=p.block)(v:Value):aj O W (W'.setCell p v):=
 ⟨h.os,h.tape,h.output,by simpa[Κ]using h.size,λk Y hn=>(Ψ _ _ _ _ (λe=>by subst e;exact J.elim hn (by omega))).trans (h.block k Y hn)⟩
theorem aj.alloc {O:Nat->Prop}{W W':ν}(h:aj O W W')(o:Obj):aj O W (W'.alloc o):=
 ⟨h.os,h.tape,h.output,by have:=h.size;simp;omega,λk Y hn=>(Below.heap_alloc _ _ _ (by have:=h.size;omega)).trans (h.block k Y hn)⟩
theorem aj.drew {O:Nat->Prop}{W W':ν}(h:aj O W W'):aj O W W'.drew:=⟨h.os,h.tape,h.output,h.size,h.block⟩
theorem aj.put {O:Nat->Prop}{W W':ν}(h:aj O W W'){r:Nat}(hr:O r\/W.heap.size<=r)(o:Obj):aj O W (W'.putObj r o):=
 ⟨h.os,h.tape,h.output,by simpa using h.size,λk Y hn=>(World.putObj_heap_other (λe=>by subst e;exact hr.elim hn (by omega))).trans (h.block k Y hn)⟩
def xk (D:Nat->Prop)(aqx:ν->Prop)(W:ν):Prop:=∀W2:ν,(∀k,D k->W2.heap[k]?=W.heap[k]?)->aqx W2
theorem xk.out {D:Nat->Prop}{aqx:ν->Prop}{W:ν}(h:xk D aqx W):aqx W:=h W (λ_ _=>rfl)
theorem xk.on {D:Nat->Prop}{aqx:ν->Prop}{W W':ν}(h:xk D aqx W)(Y:∀k,D k->W'.heap[k]?=W.heap[k]?):xk D aqx W':=
 λW2 A=>h W2 (λk hd=>(A k hd).trans (Y k hd))
theorem En {W W':ν}{k:Nat}(Y:k<W.heap.size)(e:W'.heap[k]?=W.heap[k]?):k<W'.heap.size:=by
 rw[Δ Y]at e;exact(Array.getElem?_eq_some_iff.1 e).1
end
section
section
variable {P:Υ} {ops:Array ϗ} {Q:Exit->Act->ν->Prop}
theorem aY {o:ϗ}{y:Nat->Option Bool}(h:o.guard=none):Ι o y=true:=by unfold Ι;rw[h]
theorem NA {o oj:ϗ}{a:Act}{j d:Nat}{want b:Bool}(h:o.guard=some (j,want))(hj:ops[j]?=some oj)(hd:oj.dst=some d)(hs:d<a.tmps.size)(hv:a.eval (.tmp d)=.bool b):Ι o (yielded ops a.tmps)=(b==want):=by
 have e:a.tmps[d]?=some (.bool b):=by
  have:a.tmps.getD d undef=.bool b:=hv;rw[Δ hs];rw[Γ,Δ hs]at this;simpa using this
 unfold Ι yielded;rw[h];simp only[hj,Option.bind_some,hd,e];cases b<;>cases want<;>rfl
end
end
section
theorem zd (b:Nat):∀(vs:List Value) (o:Nat) (w:ν),(w.setCells b o vs).heap.size=w.heap.size
 |[],_,_=>rfl
 |v::r,o,w=>by rw[World.setCells,zd b r];exact fZ _ _ _
theorem xl (b:Nat):∀(vs:List Value) (o:Nat) (w:ν) (k:Nat),k≠b->(w.setCells b o vs).heap[k]?=w.heap[k]?
 |[],_,_,_,_=>rfl
 |v::r,o,w,k,h=>by rw[World.setCells,xl b r (o+1) _ k h];exact Ψ _ _ _ _ h
theorem A2 {T:ψ}{b:Nat}:∀{vs:List Value} {o:Nat} {w:ν} {cs:List Value},X w b cs T->X (w.setCells b o vs) b (Dn o vs cs) T
 |[],_,_,_,h=>h
 |v::_,o,_,_,h=>A2 (o:=o+1) (h.set (k:=o) v)
theorem PF (b:Nat):∀(vs:List Value) (o:Nat) (w:ν),(w.setCells b o vs).os=w.os/\(w.setCells b o vs).tape=w.tape/\(w.setCells b o vs).output=w.output
 |[],_,_=>⟨rfl,rfl,rfl⟩
 |v::r,o,w=>by
  obtain⟨G,A,M⟩:=PF b r (o+1) (w.setCell ⟨b,o,none⟩ v);rw[World.setCells];exact⟨G.trans (by simp[Κ]),A.trans (by simp[Κ]),M.trans (by simp[Κ])⟩
end
section
section
variable {P:Υ} {ops:Array ϗ} {Q:Exit->Act->ν->Prop} {o:ϗ} {rest:List ϗ} {a:Act} {w:ν}
theorem jE {zs:List Value}{T:ψ}(rH:o.guard=none)(hr:(execOp a.eval o).run P w=.ok (.value (ζ (some ⟨w.heap.size,0,none⟩))) (w.alloc (ι zs.toArray T)))
 (hK:∀I,X I w.heap.size zs T->I.heap.size=w.heap.size+1->Below w.heap.size w I->wpList P ops Q rest (a.put o.dst (ζ (some ⟨w.heap.size,0,none⟩))) I):wpList P ops Q (o::rest) a w:=
 UH rH hr (hK _ (X.new w zs T) (by simp) ((κ _ _).alloc (μ _) _))
theorem Cq (b o:Nat)(vs:List Value)(w:ν):aj (λk=>k=b) w (w.setCells b o vs):=by
 obtain⟨y1,y2,y3⟩:=PF b vs o w;exact⟨y1,y2,y3,by rw[zd];exact μ _,λk _ Y=>xl b vs o w k Y⟩
theorem jF {T:ψ}{x y:Operand}{b:Nat}{vs cs:List Value}(rH:o.guard=none)(ho:o.op=.store T x y)(N:a.eval x=ζ (some ⟨b,0,none⟩))(hy:a.eval y=.agg vs.toArray)(aC:X w b cs T)(K:cs.length=vs.length)
 (hi:(P.info? T).map (·.size)=some vs.length)(G:∀v∈vs,v.oneCell'=true)(hK:∀I,X I b vs T->aj (λk=>k=b) w I->wpList P ops Q rest (a.put o.dst undef) I):wpList P ops Q (o::rest) a w:=by
 have vj:=A2 (vs:=vs) (o:=0) aC;rw[uf vs cs K]at vj;refine wpList_store_mid rH T x y ho b 0 vs.toArray N hy (rL aC (by rw[ϊ];exact K.symm)) (by rw[ϊ];exact hi) (all_oneCell_toArray G) ?_;exact hK _ vj (Cq b 0 vs w)
theorem uo {T:ψ}{x:Operand}{b:Nat}{cs:List Value}{d:TypeDesc}(rH:o.guard=none)(ho:o.op=.load T x)(N:a.eval x=ζ (some ⟨b,0,none⟩))(aC:X w b cs T)
 (hu:P.underlying T=some d)(hd:d.isRow=true)(hi:(P.info? T).map (·.size)=some cs.length)(hK:wpList P ops Q rest (a.put o.dst (.agg cs.toArray)) w):wpList P ops Q (o::rest) a w:=
 wpList_load_mid rH T x ho b 0 N cs d (gq aC) hu hd hi hK
end
theorem X.aM {w I:ν}{O:Nat->Prop}{b:Nat}{cs:List Value}{T:ψ}(h:X w b cs T)(N:aj O w I)(U:¬O b):X I b cs T:=by
 unfold X at h⊢;rw[N.block b (Array.getElem?_eq_some_iff.1 h).1 U];exact h
end
open Go.Sort
def aZ (n:Int):Value:=cV (ag.au n) (ag.ofM n) (ag.aA n)
theorem PG (l:Int):ag.yr l=l*400/146097+1\/ag.yr l=l*400/146097:=by
 unfold ag.yr;split
 ·exact .inl rfl
 exact .inr rfl
theorem lh (n:Int)(h0:-700000<=n)(G:n<=900000):1<=ag.au n/\ag.au n<=9000/\1<=ag.ofM n/\ag.ofM n<=12/\1<=ag.aA n/\ag.aA n<=31:=by
 obtain⟨a,b,c,d⟩:=ag.kU n (by omega);have hm:=ag.sU (ag.au n) (ag.ofM n);have hy:1<=ag.au n/\ag.au n<=9000:=by
  unfold ag.au;have:=PG (n+719468);split<;>omega
 exact⟨hy.1,hy.2,a,b,c,by omega⟩
theorem Ms {y m d:Int}(hy:1<=y)(h:ag.Valid y m d):aZ (ag.num y m d)=cV y m d:=by
 have:=(ag.Hk hy (by have:=h.1;omega) (by have:=h.2.2.1;omega)).2 h;unfold aZ;rw[this.1,this.2.1,this.2.2]
theorem abX (n:Int)(h0:-700000<=n)(G:n<=900000)(h:ag.aA n<28):cV (ag.au n) (ag.ofM n) (ag.aA n+1)=aZ (n+1):=by
 have hr:=lh n h0 G;have hm:=ag.sU (ag.au n) (ag.ofM n);have hv:ag.Valid (ag.au n) (ag.ofM n) (ag.aA n+1):=⟨by omega,by omega,by omega,by omega⟩;rw[<-Ms (by omega) hv];have S:=ag.ot (ag.au n) (ag.ofM n) (ag.aA n+1);have e2:=ag.ot (ag.au n) (ag.ofM n) (ag.aA n);have e3:=ag.oU n (by omega);rw[show ag.num (ag.au n) (ag.ofM n) (ag.aA n+1)=n+1 from by omega]
theorem US {a b:Int}(ha:-700000<=a)(U:-700000<=b)(h:aZ a=aZ b):a=b:=by
 have S:=ag.oU a (by omega);have e2:=ag.oU b (by omega);unfold aZ cV at h;simp only[Value.agg.injEq,Array.mk.injEq,List.cons.injEq,Value.int.injEq,and_true,true_and]at h;rw[<-S,<-e2,h.1,h.2.1,h.2.2]
theorem bW {w:ν}{g:Nat}{a b c:Value}{t:ψ}(h:X w g [a,b,c] t):
 w.cell? ⟨g,0,none⟩=some a/\w.cell? ⟨g,1,none⟩=some b/\w.cell? ⟨g,2,none⟩=some c/\w.frozen? ⟨g,0,none⟩=false/\w.frozen? ⟨g,1,none⟩=false/\w.frozen? ⟨g,2,none⟩=false:=
 ⟨h.cell rfl,h.cell rfl,h.cell rfl,h.free,h.free,h.free⟩
theorem Dq (n:Int)(w:ν)(h0:-700000<=n)(G:n<=900000):
 π prog 75 #[aZ n] w λe I=>e=δ (V Z n)/\Below w.heap.size w I:=by
 have hr:=lh n h0 G;have e3:=ag.oU n (by omega);have:=sq (ag.au n) (ag.ofM n) (ag.aA n) w (by omega) (by omega) (by omega) (by omega) (by omega) (by omega);rw[e3]at this;exact this
theorem GR (n:Int)(w:ν)(h0:-700000<=n)(G:n<=900000):
 π prog 48 #[aZ n] w λe I=>e=δ (V Z (n*86400))/\Below w.heap.size w I:=by
 have hr:=lh n h0 G;have e3:=ag.oU n (by omega);have:=mg (ag.au n) (ag.ofM n) (ag.aA n) w (by omega) (by omega) (by omega) (by omega) (by omega) (by omega);rw[e3]at this;exact this
theorem akD (n:Int)(w:ν)(h0:-700000<=n)(G:n<=900000):
 π prog 76 #[V Z n] w λe I=>e=δ (aZ n)/\Below w.heap.size w I:=xw n w (by omega) (by omega)
theorem qz (n:Int)(w:ν)(h0:0<=n)(G:n<=7258118400):
 π prog 51 #[V Z n] w λe I=>e=δ (aZ (n/86400))/\Below w.heap.size w I:=DN n w h0 G
theorem AK (n:Int)(w:ν)(h0:-700000<=n)(G:n<=900000):
 π prog 244 #[aZ n] w λe I=>e=δ (V Z ((n+719470)%7))/\Below w.heap.size w I:=by
 have Mt:=Dq n;unfold aZ cV at Mt⊢;go_enter func244,ntmps244;go_wp2_with (go_at_call 75;refine(Mt _ h0 G).mono ?_;rintro e w1 ⟨rfl,U⟩);go_ret;have e:n+719468+2=n+719470:=by omega
 rw[e];exact⟨rfl,((κ _ _).alloc (μ _) _).trans (U.mono (by simp))⟩
theorem xm (n c:Int)(w:ν)(h0:-700000<=n)(G:n<=900000)(k0:-700000<=n+c)(k1:n+c<=900000):
 π prog 262 #[aZ n,V Z c] w λe I=>e=δ (aZ (n+c))/\Below w.heap.size w I:=by
 have Mt:=Dq n;have hof:=akD (n+c);unfold aZ cV at Mt hof⊢;go_enter func262,ntmps262;go_wp2_with fail;refine(Mt _ h0 G).mono ?_;rintro e w1 ⟨rfl,U⟩;have r1:=(X.new (w.alloc (ι #[V Z (ag.au n),V Z (ag.ofM n),V Z (ag.aA n)] 88)) [V Z 0,V Z 0,V Z 0] 88).on U;have al:Below w.heap.size w w1:=(((κ _ _).alloc (μ _) _).alloc (by simp) _).trans (U.mono (by simp;omega));have hz:w.heap.size+2<=w1.heap.size:=by have:=U.size;simpa using this
 clear U;simp only[ω]at r1;go_wp2_with fail;refine(hof _ k0 k1).mono ?_;rintro e w2 ⟨rfl,aN⟩;have r2:=r1.on aN;obtain⟨c0,c1,c2,f0,f1,f2⟩:=bW r2;go_wp2_with fail;exact bodyPost_ret (v:=.agg #[V Z (ag.au (n+c)),V Z (ag.ofM (n+c)),V Z (ag.aA (n+c))]) (by simp[results,results262,go_sem,c0,c1,c2]) rfl ⟨rfl,(((al.trans (aN.mono al.size)).setCell (by simp) _).setCell (by simp) _).setCell (by simp) _⟩
theorem UT (n:Int)(w:ν)(h0:-700000<=n)(G:n<=899999):
 π prog 272 #[aZ n] w λe I=>e=δ (aZ (n+1))/\Below w.heap.size w I:=by
 have hr:=lh n h0 (by omega);by_cases hd:ag.aA n<28
 case pos=>
  rw[<-abX n h0 (by omega) hd];unfold aZ cV;go_enter func272,ntmps272;go_wp2_with fail;exact bodyPost_ret (v:=.agg #[V Z (ag.au n),V Z (ag.ofM n),V Z (ag.aA n+1)]) (by simp[results,results272,go_sem]) rfl ⟨rfl,((κ _ _).alloc (μ _) _).alloc (by simp) _⟩
 case neg=>
  have pT:=xm n 1;unfold aZ cV at pT⊢;go_enter func272,ntmps272;go_wp2_with fail;refine(pT _ h0 (by omega) (by omega) (by omega)).mono ?_;rintro e w1 ⟨rfl,U⟩;have r1:=(X.new (w.alloc (ι #[V Z (ag.au n),V Z (ag.ofM n),V Z (ag.aA n)] 88)) [V Z 0,V Z 0,V Z 0] 88).on U;have al:Below w.heap.size w w1:=(((κ _ _).alloc (μ _) _).alloc (by simp) _).trans (U.mono (by simp;omega));clear U;simp only[ω]at r1;obtain⟨c0,c1,c2,f0,f1,f2⟩:=bW r1;go_wp2_with fail;exact bodyPost_ret (v:=.agg #[V Z (ag.au (n+1)),V Z (ag.ofM (n+1)),V Z (ag.aA (n+1))]) (by simp[results,results272,go_sem,c0,c1,c2]) rfl ⟨rfl,((al.setCell (by simp) _).setCell (by simp) _).setCell (by simp) _⟩
theorem UU (W:ν)(n:Int)(D:Nat)(os:Array Obj)(h0:-700000<=n)(G:n<=900000):
 π prog 75 #[.agg #[V Z (ag.au n),V Z (ag.ofM n),V Z (ag.aA n)]] (grow (redrawn W D) os) λe az=>e=δ (V Z n)/\∃p:Θ,az=grow (redrawn W p.d) p.os:=
 Α (Dq n _ h0 G)
theorem RG (a b:Int)(w:ν)(h0:-700000<=a)(G:a<=900000)(k0:-700000<=b)(k1:b<=900000):
 π prog 271 #[aZ a,aZ b] w λe I=>e=δ (V Z (b-a))/\Below w.heap.size w I:=by
 unfold aZ cV;go_enter func271,ntmps271;go_wp2_with fail;have al:Below w.heap.size w ((w.alloc (ι #[V Z (ag.au a),V Z (ag.ofM a),V Z (ag.aA a)] 88)).alloc (ι #[V Z (ag.au b),V Z (ag.ofM b),V Z (ag.aA b)] 88)):=((κ _ _).alloc (μ _) _).alloc (by simp) _;have r0:X ((w.alloc (ι #[V Z (ag.au a),V Z (ag.ofM a),V Z (ag.aA a)] 88)).alloc (ι #[V Z (ag.au b),V Z (ag.ofM b),V Z (ag.aA b)] 88)) w.heap.size [V Z (ag.au a),V Z (ag.ofM a),V Z (ag.aA a)] 88:=(X.new w [V Z (ag.au a),V Z (ag.ofM a),V Z (ag.aA a)] 88).on ((κ _ _).alloc (μ _) _);have r1:X ((w.alloc (ι #[V Z (ag.au a),V Z (ag.ofM a),V Z (ag.aA a)] 88)).alloc (ι #[V Z (ag.au b),V Z (ag.ofM b),V Z (ag.aA b)] 88)) (w.heap.size+1) [V Z (ag.au b),V Z (ag.ofM b),V Z (ag.aA b)] 88:=by
  have:=X.new (w.alloc (ι #[V Z (ag.au a),V Z (ag.ofM a),V Z (ag.aA a)] 88)) [V Z (ag.au b),V Z (ag.ofM b),V Z (ag.aA b)] 88;simpa using this
 generalize(w.alloc (ι #[V Z (ag.au a),V Z (ag.ofM a),V Z (ag.aA a)] 88)).alloc (ι #[V Z (ag.au b),V Z (ag.ofM b),V Z (ag.aA b)] 88)=W at *
 obtain⟨c0,c1,c2,_,_,_⟩:=bW r0;obtain⟨d0,d1,d2,_,_,_⟩:=bW r1;have k0:=cell_regrown c0;have k1:=cell_regrown c1;have k2:=cell_regrown c2;have l0:=cell_regrown d0;have l1:=cell_regrown d1;have l2:=cell_regrown d2;clear c0 c1 c2 d0 d1 d2 r0 r1;refine wp_region_quiet_below (by kernel_rfl) (by kernel_rfl) ?_
 repeat(go_big_quiet_step (exact UU W _ _ _ (by assumption) (by assumption)))
 refine wpQuiet_nil ?_;intro _ dN;obtain⟨⟨dq,ju⟩,iE⟩:=dN;subst iE;go_wp2_with fail;go_ret;exact⟨rfl,al.trans ((below_regrown W dq ju).mono al.size)⟩
def dt (a b:Int):Value:=.agg #[V Z (ag.au a),V Z (ag.ofM a),V Z (ag.aA a),V Z (ag.au b),V Z (ag.ofM b),V Z (ag.aA b)]
def rj (a b:Int):List Value:=[V Z (ag.au a),V Z (ag.ofM a),V Z (ag.aA a),V Z (ag.au b),V Z (ag.ofM b),V Z (ag.aA b)]
def oO (a:Int):List Value:=[V Z (ag.au a),V Z (ag.ofM a),V Z (ag.aA a)]
theorem jS {w:ν}{g:Nat}{a b c d e f:Value}{t:ψ}(h:X w g [a,b,c,d,e,f] t):
 (w.cell? ⟨g,0,none⟩=some a/\w.cell? ⟨g,1,none⟩=some b/\w.cell? ⟨g,2,none⟩=some c/\w.cell? ⟨g,3,none⟩=some d/\w.cell? ⟨g,4,none⟩=some e/\w.cell? ⟨g,5,none⟩=some f)/\
 (w.frozen? ⟨g,0,none⟩=false/\w.frozen? ⟨g,1,none⟩=false/\w.frozen? ⟨g,2,none⟩=false/\w.frozen? ⟨g,3,none⟩=false/\w.frozen? ⟨g,4,none⟩=false/\w.frozen? ⟨g,5,none⟩=false):=
 ⟨⟨h.cell rfl,h.cell rfl,h.cell rfl,h.cell rfl,h.cell rfl,h.cell rfl⟩,h.free,h.free,h.free,h.free,h.free,h.free⟩
theorem agC (x:ν):Below x.heap.size x (x.alloc (ι #[V Z 0,V Z 0,V Z 0,V Z 0,V Z 0,V Z 0] 277)):=(κ _ _).alloc (μ _) _
theorem abY (n:Int)(w:ν)(h0:-700000<=n)(G:n<=899999):
 π prog 261 #[aZ n] w λe I=>e=δ (dt n (n+1))/\Below w.heap.size w I:=by
 have dL:=UT n;unfold aZ cV at dL⊢;unfold dt;go_enter func261,ntmps261;go_wp2_with fail;have r0:=(X.new w [V Z (ag.au n),V Z (ag.ofM n),V Z (ag.aA n)] 88);have r1:=(X.new (w.alloc (ι #[V Z (ag.au n),V Z (ag.ofM n),V Z (ag.aA n)] 88)) [V Z 0,V Z 0,V Z 0,V Z 0,V Z 0,V Z 0] 277);have r0':=r0.on ((κ _ _).alloc (μ _) (ι #[V Z 0,V Z 0,V Z 0,V Z 0,V Z 0,V Z 0] 277));have al:Below w.heap.size w ((w.alloc (ι #[V Z (ag.au n),V Z (ag.ofM n),V Z (ag.aA n)] 88)).alloc (ι #[V Z 0,V Z 0,V Z 0,V Z 0,V Z 0,V Z 0] 277)):=((κ _ _).alloc (μ _) _).alloc (by simp) _;clear r0;simp only[ω]at r1;generalize(w.alloc (ι #[V Z (ag.au n),V Z (ag.ofM n),V Z (ag.aA n)] 88)).alloc (ι #[V Z 0,V Z 0,V Z 0,V Z 0,V Z 0,V Z 0] 277)=W at *
 obtain⟨c0,c1,c2,_,_,_⟩:=bW r0';go_region_with (go_at_call 272;refine(dL _ h0 G).mono ?_;rintro e w2 ⟨rfl,aN⟩;have sG:Below W.heap.size W w2:=⟨aN.os,aN.tape,aN.output,aN.size,aN.block⟩;obtain⟨q0,q1,q2,_,_,_⟩:=bW (r0'.on sG);obtain⟨⟨z0,z1,z2,z3,z4,z5⟩,y0,y1,y2,y3,y4,y5⟩:=jS (r1.on sG))
 all_goals go_wp2_with fail
 all_goals
  have p7:=al.trans (sG.mono al.size);exact bodyPost_ret (v:=.agg #[V Z (ag.au n),V Z (ag.ofM n),V Z (ag.aA n),V Z (ag.au (n+1)),V Z (ag.ofM (n+1)),V Z (ag.aA (n+1))]) (by simp[results,results261,go_sem,z0,z1,z2,z3,z4,z5]) rfl ⟨rfl,((((((p7.setCell (by simp) _).setCell (by simp) _).setCell (by simp) _).setCell (by simp) _).setCell (by simp) _).setCell (by simp) _)⟩
def eu (n s:Int):Int:=((n+719470)%7-s+7)%7
theorem qA (n s:Int):0<=eu n s/\eu n s<=6:=by unfold eu;omega
theorem UW (n s:Int)(w:ν)(h0:-699990<=n)(G:n<=899990)(s0:0<=s)(s1:s<=6):
 π prog 263 #[aZ n,V Z s] w λe I=>e=δ (dt (n-eu n s) (n-eu n s+7))/\Below w.heap.size w I:=by
 have Mu:=AK n;have lx:=xm n (-(((n+719470)%7-s)%7));have Ed:=xm (n-eu n s) 7;have hi:=qA n s;rw[show n+-(((n+719470)%7-s)%7)=n-eu n s from by unfold eu;omega]at lx;generalize hf:n-eu n s=f at *
 have kh:-700000<=f:=by omega
 have IS:f+7<=900000:=by omega
 have hw7:0<=(n+719470)%7/\(n+719470)%7<=6:=by omega
 have hi7:0<=((n+719470)%7-s+7)%7/\((n+719470)%7-s+7)%7<=6:=by omega
 generalize Y:(n+719470)%7=k at *
 unfold aZ cV at Mu lx Ed⊢;unfold dt;go_enter func263,ntmps263;go_wp2_with fail;have rz:X ((w.alloc (ι #[V Z (ag.au n),V Z (ag.ofM n),V Z (ag.aA n)] 88)).alloc (ι #[V Z 0,V Z 0,V Z 0,V Z 0,V Z 0,V Z 0] 277)) w.heap.size [V Z (ag.au n),V Z (ag.ofM n),V Z (ag.aA n)] 88:=(X.new w [V Z (ag.au n),V Z (ag.ofM n),V Z (ag.aA n)] 88).on ((κ _ _).alloc (μ _) _);have r1:=(X.new (w.alloc (ι #[V Z (ag.au n),V Z (ag.ofM n),V Z (ag.aA n)] 88)) [V Z 0,V Z 0,V Z 0,V Z 0,V Z 0,V Z 0] 277);have al:Below w.heap.size w ((w.alloc (ι #[V Z (ag.au n),V Z (ag.ofM n),V Z (ag.aA n)] 88)).alloc (ι #[V Z 0,V Z 0,V Z 0,V Z 0,V Z 0,V Z 0] 277)):=((κ _ _).alloc (μ _) _).alloc (by simp) _;simp only[ω]at r1;refine(Mu _ (by omega) (by omega)).mono ?_;rintro e w1 ⟨rfl,ay⟩;replace rz:=rz.on ay;replace r1:=r1.on ay;replace al:=al.trans (ay.mono al.size);have hz:w.heap.size+2<=w1.heap.size:=by have:=ay.size;simpa using this
 clear ay;obtain⟨c0,c1,c2,_,_,_⟩:=bW rz;go_wp2_with fail;refine(lx _ (by omega) (by omega) (by omega) (by omega)).mono ?_;rintro e w2 ⟨rfl,aN⟩;replace r1:=r1.on aN;replace al:=al.trans (aN.mono al.size);replace hz:w.heap.size+2<=w2.heap.size:=by have:=aN.size;omega
 clear aN c0 c1 c2 rz;go_wp2_with fail;have r2:=X.new w2 [V Z (ag.au f),V Z (ag.ofM f),V Z (ag.aA f)] 88;replace r1:=r1.on ((κ _ _).alloc (μ _) (ι #[V Z (ag.au f),V Z (ag.ofM f),V Z (ag.aA f)] 88));replace al:=al.alloc al.size (ι #[V Z (ag.au f),V Z (ag.ofM f),V Z (ag.aA f)] 88);generalize(w2.alloc (ι #[V Z (ag.au f),V Z (ag.ofM f),V Z (ag.aA f)] 88))=W at *
 obtain⟨c0,c1,c2,_,_,_⟩:=bW r2;go_region_with (go_at_call 262;refine(Ed _ (by omega) (by omega) (by omega) (by omega)).mono ?_;rintro e w3 ⟨rfl,aP⟩;have sG:Below W.heap.size W w3:=⟨aP.os,aP.tape,aP.output,aP.size,aP.block⟩;obtain⟨q0,q1,q2,_,_,_⟩:=bW (r2.on sG);obtain⟨⟨z0,z1,z2,z3,z4,z5⟩,y0,y1,y2,y3,y4,y5⟩:=jS (r1.on sG))
 all_goals go_wp2_with fail
 all_goals
  have p7:=al.trans (sG.mono al.size);exact bodyPost_ret (v:=.agg #[V Z (ag.au f),V Z (ag.ofM f),V Z (ag.aA f),V Z (ag.au (f+7)),V Z (ag.ofM (f+7)),V Z (ag.aA (f+7))]) (by simp[results,results263,go_sem,z0,z1,z2,z3,z4,z5]) rfl ⟨rfl,((((((p7.setCell (by simp) _).setCell (by simp) _).setCell (by simp) _).setCell (by simp) _).setCell (by simp) _).setCell (by simp) _)⟩
def cu (y m:Int):Int:=ag.num (y+(m-1)/12) ((m-1)%12+1) 1
theorem Yb (y m:Int)(hy:1<=y)(hm:1<=m):aZ (cu y m)=cV (y+(m-1)/12) ((m-1)%12+1) 1:=by
 have hd:=ag.sU (y+(m-1)/12) ((m-1)%12+1);exact Ms (by omega) ⟨by omega,by omega,by omega,by omega⟩
theorem Mv (y:Int)(hy:1<=y):aZ (ag.num y 1 1)=cV y 1 1:=by
 have hd:=ag.sU y 1;exact Ms (by omega) ⟨by omega,by omega,by omega,by omega⟩
theorem AL (y m:Int)(w:ν)(y0:1<=y)(y1:y<=5000)(m0:1<=m)(m1:m<=100000):
 π prog 273 #[V Z y,V Z m] w λe I=>e=δ (aZ (cu y m))/\Below w.heap.size w I:=by
 rw[Yb y m y0 m0];unfold cV;go_enter func273,ntmps273;go_wp2_with fail;exact bodyPost_ret (v:=.agg #[V Z (y+(m-1)/12),V Z ((m-1)%12+1),V Z 1]) (by simp[results,results273,go_sem]) rfl ⟨rfl,(κ _ _).alloc (μ _) _⟩
theorem GU (y m:Int)(w:ν)(y0:1<=y)(y1:y<=5000)(m0:1<=m)(m1:m<=90000):
 π prog 264 #[V Z y,V Z m] w λe I=>e=δ (dt (cu y m) (cu y (m+1)))/\Below w.heap.size w I:=by
 have ay:=λw=>AL y m w y0 y1 m0 (by omega);have aN:=λw=>AL y (m+1) w y0 y1 (by omega) (by omega);unfold aZ cV at ay aN;unfold dt;generalize cu y m=a at *
 generalize cu y (m+1)=b at *
 go_enter func264,ntmps264;go_wp2_with fail;have r1:=X.new w [V Z 0,V Z 0,V Z 0,V Z 0,V Z 0,V Z 0] 277;have al:=agC w;refine(ay _).mono ?_;rintro e w1 ⟨rfl,Hq⟩;replace r1:=r1.on Hq;replace al:=al.trans (Hq.mono al.size);clear Hq;go_wp2_with fail;refine(aN _).mono ?_;rintro e w2 ⟨rfl,Bv⟩;replace r1:=r1.on Bv;replace al:=al.trans (Bv.mono al.size);clear Bv;obtain⟨⟨z0,z1,z2,z3,z4,z5⟩,y0,y1,y2,y3,y4,y5⟩:=jS r1;go_wp2_with fail;exact bodyPost_ret (v:=.agg #[V Z (ag.au a),V Z (ag.ofM a),V Z (ag.aA a),V Z (ag.au b),V Z (ag.ofM b),V Z (ag.aA b)]) (by simp[results,results264,go_sem,z0,z1,z2,z3,z4,z5]) rfl ⟨rfl,((((((al.setCell (by simp) _).setCell (by simp) _).setCell (by simp) _).setCell (by simp) _).setCell (by simp) _).setCell (by simp) _)⟩
theorem UX (y:Int)(w:ν)(y0:1<=y)(y1:y<=5000):
 π prog 265 #[V Z y] w λe I=>e=δ (dt (ag.num y 1 1) (ag.num (y+1) 1 1))/\Below w.heap.size w I:=by
 have S:=Mv y y0;have e2:=Mv (y+1) (by omega);unfold aZ cV at S e2;simp only[Value.agg.injEq,Array.mk.injEq,List.cons.injEq,Value.int.injEq,and_true,true_and]at S e2;unfold dt;rw[S.1,S.2.1,S.2.2,e2.1,e2.2.1,e2.2.2];clear S e2;go_enter func265,ntmps265;go_wp2_with fail;exact bodyPost_ret (v:=.agg #[V Z y,V Z 1,V Z 1,V Z (y+1),V Z 1,V Z 1]) (by simp[results,results265,go_sem]) rfl ⟨rfl,(κ _ _).alloc (μ _) _⟩
theorem yp {w:ν}{v:Value}{zs:List Int}(x:Int)(h:cr w v zs)(U:zs.length<=1000):
 π prog 146 #[v,V Z x] w λe I=>e=δ (.bool (zs.contains x))/\Below w.heap.size w I:=by
 rcases h with⟨rfl,rfl⟩|⟨g,rfl,hr⟩
 ·refine(Tryz.slices_Contains_int_empty none 0 x w).mono ?_;rintro e I ⟨rfl,rfl⟩;exact⟨rfl,κ _ _⟩
 refine(Tryz.slices_Contains_int g 0 zs.length zs.length zs x w (μ _) (by omega) (λj hj=>?_)).mono ?_
 ·rw[Φ];exact hr.cell (by rw[List.getElem?_map,τ hj,List.getD_eq_getElem?_getD,τ hj];rfl)
 rintro e I ⟨rfl,rfl⟩;exact⟨by rw[ϋ],κ _ _⟩
structure eE (w:ν)(r:aE)(m md wk pl:Value):Prop where
 ms:cr w m r.ms
 mds:cr w md r.mds
 wks:gy w wk r.wks
 pls:cr w pl r.pls
theorem eE.on {w I:ν}{r:aE}{m md wk pl:Value}(h:eE w r m md wk pl)(U:Below w.heap.size w I):eE I r m md wk pl:=⟨h.ms.on U,h.mds.on U,h.wks.on U,h.pls.on U⟩
structure ei (r:aE):Prop where
 UY:0<=r.fq
 UZ:r.fq<=3
 Fo:1<=r.iv
 iv9:r.iv<=100
 PH:0<=r.ct
 ct9:r.ct<=1000
 un0:0<=r.un
 un9:r.un<=9223372036854775807
 ms:r.ms.length<=100
 mds:r.mds.length<=100
 wks:r.wks.length<=100
 pls:r.pls.length<=100
 ord:∀p∈r.wks,-53<=p.1/\p.1<=53
 ws0:0<=r.ws
 ws6:r.ws<=6
def GX (r:aE)(n:Int):Bool:=decide (r.ms.length=0)||r.ms.contains (ag.ofM n)
def rm (n:Int):Int:=cu (ag.au n) (ag.ofM n+1)-n
def GY (r:aE)(n:Int):Bool:=decide (r.mds.length=0)||r.mds.contains (ag.aA n)||r.mds.contains (-(rm n))
theorem N0 (r:aE)(m md wk pl:Value)(tx:ByteArray)(n:Int)(w:ν)(K:eE w r m md wk pl)(ho:ei r):
 π prog 275 #[bG r.fq r.iv r.ct r.un m md wk pl r.ws tx,aZ n] w λe I=>e=δ (.bool (GX r n))/\Below w.heap.size w I:=by
 have hI:=K.ms;have G:=ho.ms;clear K ho;unfold bG aZ cV GX;have hC:Hid (∀W,Below w.heap.size w W->π prog 146 #[m,V Z (ag.ofM n)] W λe I=>e=δ (.bool (r.ms.contains (ag.ofM n)))/\Below W.heap.size W I):=H λW hW=>yp _ (hI.on hW) (by omega);obtain⟨am,rfl⟩:=hI.form;clear hI;generalize r.ms.contains (ag.ofM n)=B at *
 generalize hL:r.ms.length=L at *
 clear hL;by_cases hz:L=0
 case pos=>
  subst hz;go_enter func275,ntmps275;go_wp2_with fail;go_ret;exact⟨rfl,((κ _ _).alloc (μ _) _).alloc (by simp) _⟩
 case neg=>
  have Ho:¬((L:Int)=0):=by omega
  go_enter func275,ntmps275;go_wp2_with fail;refine(hC.out _ (((κ _ _).alloc (μ _) _).alloc (by simp) _)).mono ?_;rintro e w1 ⟨rfl,U⟩;go_wp2_with fail;go_ret;exact⟨by simp[hz],(((κ _ _).alloc (μ _) _).alloc (by simp) _).trans (U.mono (by simp;omega))⟩
theorem PI (y m:Int)(y0:1800<=y)(y1:y<=3000)(m0:1<=m)(m1:m<=1300):-70000<=cu y m/\cu y m<=899000:=by
 have G:1800<=y+(m-1)/12/\y+(m-1)/12<=3110:=by omega
 have A:1<=(m-1)%12+1/\(m-1)%12+1<=12:=by omega
 unfold cu;generalize y+(m-1)/12=a at *
 generalize(m-1)%12+1=b at *
 unfold ag.num ag.ty ag.tm;split<;>omega
theorem Yc (a b:Int)(w:ν):(Instr.field 277 (dt a b) 1).run prog w=.ok (aZ b) w:=by
 unfold dt aZ cV Instr.field;simp[part,asAgg,go_sem]
theorem Yd (W:ν)(y m:Int)(D:Nat)(os:Array Obj)(y0:1<=y)(y1:y<=5000)(m0:1<=m)(m1:m<=90000):
 π prog 264 #[V Z y,V Z m] (grow (redrawn W D) os) λe az=>e=δ (dt (cu y m) (cu y (m+1)))/\∃p:Θ,az=grow (redrawn W p.d) p.os:=
 Α (GU y m _ y0 y1 m0 m1)
theorem aaq (W:ν)(a b:Int)(D:Nat)(os:Array Obj)(h0:-700000<=a)(G:a<=900000)(k0:-700000<=b)(k1:b<=900000):
 π prog 271 #[.agg #[V Z (ag.au a),V Z (ag.ofM a),V Z (ag.aA a)],.agg #[V Z (ag.au b),V Z (ag.ofM b),V Z (ag.aA b)]] (grow (redrawn W D) os) λe az=>e=δ (V Z (b-a))/\∃p:Θ,az=grow (redrawn W p.d) p.os:=
 Α (RG a b _ h0 G k0 k1)
theorem tC (n:Int)(h0:-10000<=n)(G:n<=300000):1900<=ag.au n/\ag.au n<=2900:=by
 unfold ag.au;have:=PG (n+719468);split<;>omega
theorem JR (n:Int)(w:ν)(h0:-10000<=n)(G:n<=300000):
 π prog 278 #[aZ n] w λe I=>e=δ (V Z (rm n))/\Below w.heap.size w I:=by
 have hr:=lh n (by omega) (by omega);have hy:=tC n h0 G;have U:=PI (ag.au n) (ag.ofM n+1) (by omega) (by omega) (by omega) (by omega);unfold rm;have hM:Hid (∀W D os,π prog 264 #[V Z (ag.au n),V Z (ag.ofM n)] (grow (redrawn W D) os) λe az=>e=δ (dt (cu (ag.au n) (ag.ofM n)) (cu (ag.au n) (ag.ofM n+1)))/\∃p:Θ,az=grow (redrawn W p.d) p.os):=
  H λW D os=>Yd W _ _ D os (by omega) (by omega) (by omega) (by omega)
 have hT:Hid (∀W D os,π prog 271 #[.agg #[V Z (ag.au n),V Z (ag.ofM n),V Z (ag.aA n)],aZ (cu (ag.au n) (ag.ofM n+1))] (grow (redrawn W D) os) λe az=>e=δ (V Z (cu (ag.au n) (ag.ofM n+1)-n))/\∃p:Θ,az=grow (redrawn W p.d) p.os):=
  H λW D os=>aaq W _ _ D os (by omega) (by omega) (by omega) (by omega)
 generalize cu (ag.au n) (ag.ofM n)=a at *
 generalize cu (ag.au n) (ag.ofM n+1)=b at *
 have hs:=Yc a b;generalize dt a b=aqA at *
 generalize aZ b=T at *
 unfold aZ cV;go_enter func278,ntmps278;go_wp2_with fail;have r0:=(X.new w [V Z (ag.au n),V Z (ag.ofM n),V Z (ag.aA n)] 88);have al:Below w.heap.size w (w.alloc (ι #[V Z (ag.au n),V Z (ag.ofM n),V Z (ag.aA n)] 88)):=(κ _ _).alloc (μ _) _;generalize(w.alloc (ι #[V Z (ag.au n),V Z (ag.ofM n),V Z (ag.aA n)] 88))=W at *
 obtain⟨c0,c1,c2,_,_,_⟩:=bW r0;have k0:=cell_regrown c0;have k1:=cell_regrown c1;have k2:=cell_regrown c2;clear c0 c1 c2 r0;refine wp_region_quiet_below (by kernel_rfl) (by kernel_rfl) ?_
 repeat(go_big_quiet_step (first|exact hM.out W _ _|exact hT.out W _ _))
 refine wpQuiet_nil ?_;intro _ dN;obtain⟨⟨dq,ju⟩,iE⟩:=dN;subst iE;go_wp2_with fail;go_ret;exact⟨rfl,al.trans ((below_regrown W dq ju).mono al.size)⟩
theorem B6 {w:ν}{v:Value}{zs:List Int}(x:Int)(h:cr w v zs)(U:zs.length<=1000)(D:Nat)(os:Array Obj):
 π prog 146 #[v,V Z x] (grow (redrawn w D) os) λe az=>e=δ (.bool (zs.contains x))/\∃p:Θ,az=grow (redrawn w p.d) p.os:=
 Α (yp x (h.on (below_regrown w D os)) U)
theorem GZ (r:aE)(m md wk pl:Value)(tx:ByteArray)(n:Int)(w:ν)(K:eE w r m md wk pl)(ho:ei r)(h0:-10000<=n)(G:n<=300000):
 π prog 276 #[bG r.fq r.iv r.ct r.un m md wk pl r.ws tx,aZ n] w λe I=>e=δ (.bool (GY r n))/\Below w.heap.size w I:=by
 have hI:=K.mds;have hq:=ho.mds;have hL0:-100000000<=rm n/\rm n<=100000000:=by
  have hr:=lh n (by omega) (by omega);have hy:=tC n h0 G;have U:=PI (ag.au n) (ag.ofM n+1) (by omega) (by omega) (by omega) (by omega);unfold rm;omega
 clear K ho;have hC1:Hid (∀W,Below w.heap.size w W->∀D os,π prog 146 #[md,V Z (ag.aA n)] (grow (redrawn W D) os) λe az=>e=δ (.bool (r.mds.contains (ag.aA n)))/\∃p:Θ,az=grow (redrawn W p.d) p.os):=H λW hW D os=>B6 _ (hI.on hW) (by omega) D os;have hC2:Hid (∀W,Below w.heap.size w W->∀D os,π prog 146 #[md,V Z (-(rm n))] (grow (redrawn W D) os) λe az=>e=δ (.bool (r.mds.contains (-(rm n))))/\∃p:Θ,az=grow (redrawn W p.d) p.os):=H λW hW D os=>B6 _ (hI.on hW) (by omega) D os;have hF:Hid (∀W D os,π prog 278 #[aZ n] (grow (redrawn W D) os) λe az=>e=δ (V Z (rm n))/\∃p:Θ,az=grow (redrawn W p.d) p.os):=H λW D os=>Α (JR n _ h0 G);obtain⟨am,rfl⟩:=hI.form;clear hI;unfold GY;unfold aZ cV at hF;unfold bG aZ cV;generalize rm n=LM at *
 generalize hB:r.mds.contains (ag.aA n)=B at *
 generalize U0:r.mds.contains (-LM)=B2 at *
 generalize hL:r.mds.length=L at *
 clear hL hB U0;go_enter func276,ntmps276;go_wp2_with fail;have r0:X ((w.alloc (ι #[V Z r.fq,V Z r.iv,V Z r.ct,V Z r.un,m,η am L L,wk,pl,V Z r.ws,θ tx] 96)).alloc (ι #[V Z (ag.au n),V Z (ag.ofM n),V Z (ag.aA n)] 88)) w.heap.size [V Z r.fq,V Z r.iv,V Z r.ct,V Z r.un,m,η am L L,wk,pl,V Z r.ws,θ tx] 96:=(X.new w [V Z r.fq,V Z r.iv,V Z r.ct,V Z r.un,m,η am L L,wk,pl,V Z r.ws,θ tx] 96).on ((κ _ _).alloc (μ _) _);have r1:=X.new (w.alloc (ι #[V Z r.fq,V Z r.iv,V Z r.ct,V Z r.un,m,η am L L,wk,pl,V Z r.ws,θ tx] 96)) [V Z (ag.au n),V Z (ag.ofM n),V Z (ag.aA n)] 88;simp only[ω]at r1;have al:Below w.heap.size w ((w.alloc (ι #[V Z r.fq,V Z r.iv,V Z r.ct,V Z r.un,m,η am L L,wk,pl,V Z r.ws,θ tx] 96)).alloc (ι #[V Z (ag.au n),V Z (ag.ofM n),V Z (ag.aA n)] 88)):=((κ _ _).alloc (μ _) _).alloc (by simp) _;generalize((w.alloc (ι #[V Z r.fq,V Z r.iv,V Z r.ct,V Z r.un,m,η am L L,wk,pl,V Z r.ws,θ tx] 96)).alloc (ι #[V Z (ag.au n),V Z (ag.ofM n),V Z (ag.aA n)] 88))=W at *
 have cm:W.cell? ⟨w.heap.size,5,none⟩=some (η am L L):=r0.cell rfl;obtain⟨c0,c1,c2,_,_,_⟩:=bW r1;have km:=cell_regrown cm;have k0:=cell_regrown c0;have k1:=cell_regrown c1;have k2:=cell_regrown c2;clear c0 c1 c2 r0 r1 cm;by_cases hz:L=0
 case pos=>
  subst hz;refine wp_region_quiet_below (by kernel_rfl) (by kernel_rfl) ?_
  repeat(go_big_quiet_step (fail))
  refine wpQuiet_nil ?_;intro _ dN;obtain⟨⟨dq,ju⟩,iE⟩:=dN;subst iE;go_wp2_with fail;go_ret;exact⟨by simp,al.trans ((below_regrown W dq ju).mono al.size)⟩
 case neg=>
  have Ho:¬((L:Int)=0):=by omega
  have gX:((L:Int)==0)=false:=by simpa using hz
  cases B
  case true=>
   refine wp_region_quiet_below (by kernel_rfl) (by kernel_rfl) ?_
   repeat(go_big_quiet_step (first|exact hC1.out W al _ _))
   refine wpQuiet_nil ?_;intro _ dN;obtain⟨⟨dq,ju⟩,iE⟩:=dN;subst iE;go_wp2_with fail;go_ret;exact⟨by simp,al.trans ((below_regrown W dq ju).mono al.size)⟩
  case false=>
   refine wp_region_quiet_below (by kernel_rfl) (by kernel_rfl) ?_
   repeat(go_big_quiet_step (first|exact hC1.out W al _ _|exact hF.out W _ _|exact hC2.out W al _ _))
   refine wpQuiet_nil ?_;intro _ dN;obtain⟨⟨dq,ju⟩,iE⟩:=dN;subst iE;go_wp2_with fail;go_ret;exact⟨by simp[hz],al.trans ((below_regrown W dq ju).mono al.size)⟩
end Go.Proofs.YtchdfdmjihnhkaaGreatDoor
