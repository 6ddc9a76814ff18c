import Derived.Test.YthpndgcaoeokeaaGreatDoorCo6
import Derived.Deep.AppendLies
set_option maxRecDepth 100000
set_option maxHeartbeats 8000000
open Go.IntKind renaming i64→Z
open Go.Value renaming int→V,pointer→ε,slice→ζ,string→η,int→φ,ownBlock→Ε
open Go.Ending renaming returned→δ
open Go.World renaming frozen?_of_block→θ,cell?_of_block→ι,frozen?_setCell→κ,cell?_setCell_other→μ,setCell→ν,cell?_setCell_same→τ,ownsRow_nil→ψ
open List renaming drop_eq_getElem_cons→ξ,getElem?_eq_getElem→ω,mem_of_getElem?→Β,drop_length→Γ,mem_singleton→Η,mem_append→Θ
open Go renaming World→ο,Calls→Α,TypeId→Ι
open ByteArray renaming size_extract→π
open Nat renaming lt_of_lt_of_le→ρ,zero_le→Δ,le_trans→Ζ
open Go.RowKit.Below renaming refl→υ,heap_setCell→χ
namespace Go.Proofs.YthpndgcaoeokeaaGreatDoor
open Tryz
open Go.RowKit
def nQ:List ByteArray→List Int→Option (List Int)
 |[],acc=>some acc
 |l::r,acc=>if fs l=true then nQ r (eE (eI l) false acc)else none
def wW (s:ByteArray):Option (List Int):=if(cI s 44).length≤20 then nQ (cI s 44) []else none
theorem aaT {P:List ByteArray}{k:Nat}{l:ByteArray}{acc:List Int}(h:P[k]?=some l)(ht:fs l=true):nQ (P.drop k) acc=nQ (P.drop (k+1)) (eE (eI l) false acc):=by
 obtain⟨hk,he⟩:=List.getElem?_eq_some_iff.1 h;rw[ξ hk,he,nQ,if_pos ht]
theorem Xc {P:List ByteArray}{k:Nat}{l:ByteArray}{acc:List Int}(h:P[k]?=some l)(ht:¬fs l=true):nQ (P.drop k) acc=none:=by
 obtain⟨hk,he⟩:=List.getElem?_eq_some_iff.1 h;rw[ξ hk,he,nQ,if_neg ht]
theorem rn (s:ByteArray)(c:Int):0<(cI s c).length:=by unfold cI;simp
theorem uO (s:ByteArray)(c:Int):(cI s c).length≤s.size+1:=by unfold cI;have:=MZ s c s.size;simp;omega
theorem UH (s:ByteArray)(c:Int)(k:Nat):∀l∈(jl s c k).2,l.size≤s.size:=by
 induction k with
 |zero=>simp[jl]
 |succ k ih=>
  by_cases h:fQ s k=c
  ·rw[xR h];intro l hl;rw[Θ,Η]at hl;rcases hl with hl|rfl
   ·exact ih l hl
   ·rw[π];omega
  ·rw[uy h];exact ih
theorem oL (s:ByteArray)(c:Int):∀l∈cI s c,l.size≤s.size:=by
 intro l hl;unfold cI at hl;rw[Θ,Η]at hl;rcases hl with hl|rfl
 ·exact UH s c _ l hl
 ·rw[π];omega
def sO (w:ο)(g:Nat)(ls:List ByteArray):Prop:=g<w.heap.size∧∀j l,ls[j]?=some l→w.cell? ⟨g,j,none⟩=some (η l)
theorem sO.on {w w':ο}{g:Nat}{ls:List ByteArray}(h:sO w g ls)(hb:Below w.heap.size w w'):sO w' g ls:=
 ⟨ρ h.1 hb.size,fun j l hj=>by rw[hb.cell (p:=⟨g,j,none⟩) h.1];exact h.2 j l hj⟩
theorem yy {w:ο}{B:Nat}{v:Value}{ls:List ByteArray}{e:Ι}(h:w.ownsRow B e 1 v ls.length (ls.map Value.string))(hp:0<ls.length):∃g cap,v= ζ (some ⟨g,0,none⟩) ls.length cap∧B≤g∧sO w g ls:=by
 rcases ky h with⟨_,hn⟩|⟨g,cap,hv,hb,hg,hc⟩
 ·have:=congrArg List.length hn;rw[List.length_map,List.length_nil]at this;omega
 ·exact⟨g,cap,hv,hb,hg,fun j l hj=>hc j _ (by rw[List.getElem?_map,hj];rfl)⟩
theorem dF {w:ο}{B:Nat}{e:Ι}{v:Value}{n:Nat}{xs:List Value}(h:w.ownsRow B e 1 v n xs):∃a n c,v= ζ a n c:=by
 rcases ky h with⟨h,_⟩|⟨g,cap,h,_⟩
 ·exact⟨_,_,_,h⟩
 ·exact⟨_,_,_,h⟩
theorem Iz (s:ByteArray)(w:ο)(hs:s.size≤1048575):
 Α prog 236 #[η s] w fun e w'=>∃a n c b,e= δ (.tuple #[ζ a n c, .bool b])∧Below w.heap.size w w'∧(b=false→wW s=none)∧(b=true→∃zs,wW s=some zs∧w'.ownsRow w.heap.size 3 1 (ζ a n c) zs.length (zs.map (φ Z))∧zs.length≤20):=by
 have CS:=ad (uN s 44 w (by omega));have HP:=ad (rn s 44);have HL:=ad (uO s 44);have HM:=ad (oL s 44);have HF:Hid (wW s=if(cI s 44).length≤20 then nQ (cI s 44) []else none):=ad rfl;obtain⟨P,hP⟩:∃P,P=cI s 44:=⟨_,rfl⟩;rw[←hP]at CS HP HL HM HF;clear hP;go_enter func236,ntmps236;go_wp2_with (go_at_call 292;refine(CS.out).mono ?_;rintro e w1 ⟨v,rfl,aw,ai⟩;obtain⟨g,cap,rfl,_,gE⟩:=yy aw HP.out;clear aw);have eP:=ai.size;have hPl:P.length≤1048576:=by have:=HL.out;omega
 have HA:=ad gE;clear gE;go_loopw [5,6] (fun v i wr=>∃(k:Nat) (zs:List Int),k≤P.length∧i= V Z k∧zs.length≤k∧wr.ownsRow w1.heap.size 3 1 v zs.length (zs.map (φ Z))∧Below w1.heap.size w1 wr∧Hid (nQ P []=nQ (P.drop k) zs)) (fun _ i _=>P.length - (intOf i).toNat)
 case atStart=>exact⟨0,[],Δ _,rfl,by simp,ψ _ _ _ _,υ _ _,ad (by simp)⟩
 case round=>
  obtain⟨k,zs,hk,rfl,hzl,hint,aX,HT⟩:=hrel;have hB:=aX.size;by_cases ay:k<P.length
  case neg=>
   have fB:k=P.length:=by omega
   subst fB;have HE:Hid (nQ P []=some zs):=ad (by rw[HT.out,Γ];rfl);clear HT;obtain⟨a5,n5,c5,rfl⟩:=dF hint;go_wp2;go_ret2;refine⟨a5,n5,c5,decide ((P.length:Int)≤20),rfl,ai.trans (aX.mono eP),fun h=>?_,fun h=>?_⟩
   ·rw[HF.out,if_neg (by simp at h;omega)]
   ·exact⟨zs,by rw[HF.out,if_pos (by simp at h;omega),HE.out],eV hint eP,by simp at h;omega⟩
  case pos=>
   obtain⟨l,hl⟩:∃l,P[k]?=some l:=⟨_,ω ay⟩;have cR:=(HA.out.on aX).2 k l hl;have nT:l.size≤maxLen:=by have:=HM.out l (Β hl);unfold maxLen;omega
   have CP:=ad (lN l wr nT);by_cases ht:fs l=true
   case pos=>
    have HN:Hid (nQ P []=nQ (P.drop (k+1)) (eE (eI l) false zs)):=ad (by rw[HT.out,aaT hl ht]);have CQ:Hid (Α prog 107 #[η l] wr fun e w'=>e= δ (.tuple #[V Z (eI l), V Z 0])∧wr=w'):=by
     have:=CP.out;rw[ju (eA.1 ht)]at this;exact this
    clear HT CP ht hl;have Ov:=Po (eI l) zs false;simp only[Bool.false_eq_true,if_false,Nat.add_zero]at Ov;go_wp2_with (first
     |(go_at_call 107;refine(CQ.out).mono ?_;rintro e w' ⟨rfl,rfl⟩)
     |(go_at_call 248;refine(MA _ zs (eI l) wr (kP hint (by omega))).mono ?_;rintro e w2 ⟨v2,rfl,zb,az⟩))
    go_roundw
    case rel=>exact⟨k+1,eE (eI l) false zs,by omega,by go_num,by omega,eV zb hB,aX.trans (az.mono hB),HN⟩
    case measure=>simp[intOf];omega
   case neg=>
    have HN:Hid (nQ P []=none):=ad (by rw[HT.out,Xc hl ht]);have CQ:Hid (Α prog 107 #[η l] wr fun e w'=>e= δ (.tuple #[V Z 0, V Z 1])∧wr=w'):=by
     have:=CP.out;rw[iC (fun h=>ht (eA.2 h))]at this;exact this
    clear HT CP ht hl;go_wp2_with (first
     |(go_at_call 107;refine(CQ.out).mono ?_;rintro e w' ⟨rfl,rfl⟩))
    go_ret2;exact⟨none,0,0,false,rfl,ai.trans (aX.mono eP),fun _=>by rw[HF.out,HN.out];simp,fun h=>(by cases h)⟩
def nt (most:Int)(cJ:Bool)(l:ByteArray):Option Int:=
 if cT l.data.toList most=0 then none else if cT l.data.toList most<0∧cJ=false then none else some (cT l.data.toList most)
def ph (most:Int)(cJ:Bool):List ByteArray→List Int→Option (List Int)
 |[],acc=>some acc
 |l::r,acc=>match nt most cJ l with|none=>none|some z=>ph most cJ r (acc++[z])
def dX (s:ByteArray)(most:Int)(cJ:Bool):Option (List Int):=if(cI s 44).length≤20 then ph most cJ (cI s 44) []else none
theorem aaU {most:Int}{cJ:Bool}{P:List ByteArray}{k:Nat}{l:ByteArray}{acc:List Int}{z:Int}(h:P[k]?=some l)(ht:nt most cJ l=some z):ph most cJ (P.drop k) acc=ph most cJ (P.drop (k+1)) (acc++[z]):=by
 obtain⟨hk,he⟩:=List.getElem?_eq_some_iff.1 h;rw[ξ hk,he,ph,ht]
theorem M8 {most:Int}{cJ:Bool}{P:List ByteArray}{k:Nat}{l:ByteArray}{acc:List Int}(h:P[k]?=some l)(ht:nt most cJ l=none):ph most cJ (P.drop k) acc=none:=by
 obtain⟨hk,he⟩:=List.getElem?_eq_some_iff.1 h;rw[ξ hk,he,ph,ht]
theorem DA (s:ByteArray)(most:Int)(cJ:Bool)(w:ο)(hs:s.size≤1048575):
 Α prog 332 #[η s, V Z most, .bool cJ] w fun e w'=>∃a n c b,e= δ (.tuple #[ζ a n c, .bool b])∧Below w.heap.size w w'∧(b=false→dX s most cJ=none)∧(b=true→∃zs,dX s most cJ=some zs∧w'.ownsRow w.heap.size 3 1 (ζ a n c) zs.length (zs.map (φ Z))∧zs.length≤20):=by
 have CS:=ad (uN s 44 w (by omega));have HP:=ad (rn s 44);have HL:=ad (uO s 44);have HM:=ad (oL s 44);have HF:Hid (dX s most cJ=if(cI s 44).length≤20 then ph most cJ (cI s 44) []else none):=ad rfl;obtain⟨P,hP⟩:∃P,P=cI s 44:=⟨_,rfl⟩;rw[←hP]at CS HP HL HM HF;clear hP;go_enter func332,ntmps332;go_wp2_with (go_at_call 292;refine(CS.out).mono ?_;rintro e w1 ⟨v,rfl,aw,ai⟩;obtain⟨g,cap,rfl,_,gE⟩:=yy aw HP.out;clear aw);have eP:=ai.size;have hPl:P.length≤1048576:=by have:=HL.out;omega
 have HA:=ad gE;clear gE;go_loopw [9,10] (fun v i wr=>∃(k:Nat) (zs:List Int),k≤P.length∧i= V Z k∧zs.length≤k∧wr.ownsRow w1.heap.size 3 1 v zs.length (zs.map (φ Z))∧Below w1.heap.size w1 wr∧Hid (ph most cJ P []=ph most cJ (P.drop k) zs)) (fun _ i _=>P.length - (intOf i).toNat)
 case atStart=>exact⟨0,[],Δ _,rfl,by simp,ψ _ _ _ _,υ _ _,ad (by simp)⟩
 case round=>
  obtain⟨k,zs,hk,rfl,hzl,aw,aX,HT⟩:=hrel;have hB:=aX.size;by_cases ay:k<P.length
  case neg=>
   have fB:k=P.length:=by omega
   subst fB;have HE:Hid (ph most cJ P []=some zs):=ad (by rw[HT.out,Γ];rfl);clear HT;obtain⟨a9,n9,c9,rfl⟩:=dF aw;go_wp2;go_ret2;refine⟨a9,n9,c9,decide ((P.length:Int)≤20),rfl,ai.trans (aX.mono eP),fun h=>?_,fun h=>?_⟩
   ·rw[HF.out,if_neg (by simp at h;omega)]
   ·exact⟨zs,by rw[HF.out,if_pos (by simp at h;omega),HE.out],eV aw eP,by simp at h;omega⟩
  case pos=>
   obtain⟨l,hl⟩:∃l,P[k]?=some l:=⟨_,ω ay⟩;have cR:=(HA.out.on aX).2 k l hl;have nT:l.size≤maxLen:=by have:=HM.out l (Β hl);unfold maxLen;omega
   have CQ:=rO l most wr nT;obtain⟨z,hz⟩:∃z,z=cT l.data.toList most:=⟨_,rfl⟩;have h1:nt most cJ l=if z=0 then none else if z<0∧cJ=false then none else some z:=by unfold nt;rw[←hz]
   rw[←hz]at CQ;have CQ:=ad CQ;clear hz;by_cases z0:z=0
   case pos=>
    have HN:Hid (ph most cJ P []=none):=ad (by rw[HT.out,M8 hl (by rw[h1,if_pos z0])]);clear HT hl h1;subst z0;go_wp2_with (go_at_call 331;refine(CQ.out).mono ?_;rintro e w' ⟨rfl,rfl⟩);go_ret2;exact⟨none,0,0,false,rfl,ai.trans (aX.mono eP),fun _=>by rw[HF.out,HN.out];simp,fun h=>(by cases h)⟩
   case neg=>
   by_cases z1:z<0∧cJ=false
   case pos=>
    have HN:Hid (ph most cJ P []=none):=ad (by rw[HT.out,M8 hl (by rw[h1,if_neg z0,if_pos z1])]);clear HT hl h1;obtain⟨z1,rfl⟩:=z1;have g0:(z==0)=false:=by simpa using z0
    clear z0;go_wp2_with (go_at_call 331;refine(CQ.out).mono ?_;rintro e w' ⟨rfl,rfl⟩);go_ret2;exact⟨none,0,0,false,rfl,ai.trans (aX.mono eP),fun _=>by rw[HF.out,HN.out];simp,fun h=>(by cases h)⟩
   case neg=>
    have HN:Hid (ph most cJ P []=ph most cJ (P.drop (k+1)) (zs++[z])):=ad (by rw[HT.out,aaU hl (by rw[h1,if_neg z0,if_neg z1])]);clear HT hl h1;have g0:(z==0)=false:=by simpa using z0
    have z2:0≤z∨cJ=true:=by
     by_cases h:z<0
     ·right;cases hsg:cJ
      ·exact absurd ⟨h,hsg⟩ z1
      ·rfl
     ·left;omega
    clear z0 z1;rcases z2 with z2|rfl
    ·go_wp2_with (first
      |(go_at_call 331;refine(CQ.out).mono ?_;rintro e w' ⟨rfl,rfl⟩)
      |(at_builtin;refine fj rfl (.tmp 36) (.tmp 38) 54 3 _ 8 rfl underlying54 eu rfl w1.heap.size _ _ _ rfl aw aX hB (V Z z) rfl rfl (by simp) (by omega) (by decide) ?_;intro v' w2 kW nC _))
     go_roundw
     case rel=>exact⟨k+1,zs++[z],by omega,by go_num,by simp;omega,by simpa using kW,nC,HN⟩
     case measure=>simp[intOf];omega
    ·by_cases z3:z<0
     all_goals
      go_wp2_with (first
       |(go_at_call 331;refine(CQ.out).mono ?_;rintro e w' ⟨rfl,rfl⟩)
       |(at_builtin;refine fj rfl (.tmp 36) (.tmp 38) 54 3 _ 8 rfl underlying54 eu rfl w1.heap.size _ _ _ rfl aw aX hB (V Z z) rfl rfl (by simp) (by omega) (by decide) ?_;intro v' w2 kW nC _))
      go_roundw
      case rel=>exact⟨k+1,zs++[z],by omega,by go_num,by simp;omega,by simpa using kW,nC,HN⟩
      case measure=>simp[intOf];omega
def qq (n:Int):Nat:=if n<10 then 1 else if n<100 then 2 else if n<1000 then 3 else if n<10000 then 4 else if n<100000 then 5 else if n<1000000 then 6 else 7
theorem Lp (q:Int)(h:10≤q)(h1:q<10000000):qq q=qq (q/10)+1:=by
 unfold qq
 repeat' split
 all_goals omega
theorem UI (n:Int):1≤qq n∧qq n≤7:=by
 unfold qq
 repeat' split
 all_goals omega
theorem OT (n:Int)(h:n<10):qq n=1:=by unfold qq;rw[if_pos h]
theorem Sw (n:Int)(w:ο)(h0:0≤n)(h1:n<10000000):
 Α prog 239 #[V Z n] w fun e w'=>e= δ (η ⟨(pad (qq n) n).toArray⟩)∧Below w.heap.size w w':=by
 have hle:=UI n;go_enter func239,ntmps239;go_wp2;go_loop [3,4] (fun t m=>∃(k:Nat) (q:Int),0≤q∧q<10000000∧t= V Z k∧m= V Z q∧k≤7∧Hid (qq n+1=k+qq q)) (fun _ m=>(intOf m).toNat)
 case atStart=>exact⟨1,n,h0,h1,rfl,rfl,by omega,ad (by omega)⟩
 case round=>
  obtain⟨k,q,q0,q1,rfl,rfl,hk,HD⟩:=hrel;by_cases hq:10≤q
  case pos=>
   have hs:=Lp q hq q1;have HN:Hid (qq n+1=(k+1)+qq (q/10)):=ad (by rw[HD.out,hs];omega);have hk7:k+1≤7:=by have:=HD.out;have:=UI (q/10);omega
   clear HD hs;go_wp2;exact⟨⟨k+1,q/10,by omega,by omega,by go_num,rfl,hk7,HN⟩,by simp[intOf];omega⟩
  case neg=>
   have hs:=OT q (by omega);have HN:Hid (k=qq n):=ad (by have:=HD.out;omega);clear HD hs;go_wp2_with (go_at_call 184;refine(Ei n k _ h0 (by omega) (by omega)).mono ?_;rintro e w' ⟨rfl,hb⟩);go_ret;exact⟨nG (by rw[HN.out]),hb⟩
def fC (z:Int):List UInt8:=if cD z=true then lf z else[]
theorem sb (z:Int):(fC z).length≤16:=by
 unfold fC;split
 ·unfold lf;simp[oe]
 ·simp
theorem yD (z:Int):∃x,gQ z= .tuple #[η ⟨(fC z).toArray⟩, V Z x]:=by
 unfold gQ fC;cases cD z
 ·exact⟨1,rfl⟩
 ·exact⟨0,rfl⟩
def zz (zs:List Int):Nat→List UInt8
 |0=>[]
 |k+1=>zz zs k++(if k=0 then[]else[44])++fC (zs.getD k 0)
theorem M9 (g off cap:Nat)(zs:List Int)(w:ο)(hz:zs.length≤1048576)(hg:g<w.heap.size)(hc:∀j,j<zs.length→w.cell? ⟨g,off+j,none⟩=some (V Z (zs.getD j 0))):
 Α prog 240 #[ζ (some ⟨g,off,none⟩) zs.length cap] w fun e w'=>e= δ (η ⟨(zz zs zs.length).toArray⟩)∧Below w.heap.size w w':=by
 have HC:=ad hc;clear hc;go_enter func240,ntmps240;go_wp2;go_loopw [3,4] (fun o i wr=>∃(k:Nat) (l:List UInt8),k≤zs.length∧i= V Z k∧o= η ⟨l.toArray⟩∧l.length≤17 * k∧Below w.heap.size w wr∧Hid (l=zz zs k)) (fun _ i _=>zs.length - (intOf i).toNat)
 case atStart=>exact⟨0,[],Δ _,rfl,rfl,by simp,υ _ _,ad rfl⟩
 case round=>
  obtain⟨k,l,hk,rfl,rfl,zY,aX,HP⟩:=hrel;by_cases ay:k<zs.length
  case neg=>
   have fB:k=zs.length:=by omega
   subst fB;go_wp2;go_ret;exact⟨nG (by rw[HP.out]),aX⟩
  case pos=>
   have cR:wr.cell? ⟨g,off+k,none⟩=some (V Z (zs.getD k 0)):=by rw[aX.cell (p:=⟨g,off+k,none⟩) hg];exact HC.out k ay
   obtain⟨z,zv⟩:∃z,z=zs.getD k 0:=⟨_,rfl⟩;have cM:zz zs (k+1)=zz zs k++(if k=0 then[]else[44])++fC (zs.getD k 0):=rfl;rw[←zv]at cR cM;clear zv;obtain⟨x,hx⟩:=yD z;have CP:=sx z wr;rw[hx]at CP;have CP:=ad CP;have Cq:=sb z;obtain⟨T,hT⟩:∃T,T=fC z:=⟨_,rfl⟩;rw[←hT]at CP cM Cq;clear hT hx;by_cases IP:k=0
   case pos=>
    subst IP;have cR:wr.cell? ⟨g,off,none⟩=some (V Z z):=cR;have HN:Hid (l++T=zz zs (0+1)):=ad (by rw[cM,HP.out];simp);clear HP cM;go_wp2_with (go_at_call 109;refine(CP.out).mono ?_;rintro e w2 ⟨rfl,az⟩);go_roundw
    case rel=>exact⟨1,l++T,by omega,rfl,qf (og l T),by simp;omega,aX.trans (az.mono aX.size),HN⟩
    case measure=>simp[intOf];omega
   case neg=>
    have HN:Hid ((l++[44])++T=zz zs (k+1)):=ad (by rw[cM,HP.out,if_neg IP]);clear HP cM;go_wp2_with (go_at_call 109;refine(CP.out).mono ?_;rintro e w2 ⟨rfl,az⟩);go_roundw
    case rel=>exact⟨k+1,(l++[44])++T,by omega,by go_num,qf (by rw[show(⟨#[44]⟩:ByteArray)=⟨[44].toArray⟩from rfl,og,og]),by simp;omega,aX.trans (az.mono aX.size),HN⟩
    case measure=>simp[intOf];omega
theorem Xd {P:Program}{ops:Array Oper}{rest:List Oper}{o:Oper}{a:Act}{Q:Exit→Act→ο→Prop}{wr:ο}{obj:Obj}(ix:o.guard=none)(s x:Operand)(t e:Ι)(z:Value)(bytes:Nat)
 (ho:o.op= .call {callee:= .builtin .append,args:=#[s,x],argTypes:=#[t,t]})(hu:P.underlying t=some (.slice e))
 (kN:(P.info? e).map (fun i=>(i.zero,i.size,i.bytes))=some (some z,1,bytes))(hz:z.cells.size=1)(B:Nat)(v:Value)(n:Nat)(xs:List Value)(hs:a.eval s=v)
 (aw:wr.ownsRow B e 1 v n xs)(hB:B≤wr.heap.size)(y:Value)(hy:y.oneCell'=true)(hx:a.eval x= ζ (some ⟨wr.heap.size,0,none⟩) 1 1)
 (hc:(wr.alloc obj).cell? ⟨wr.heap.size,0,none⟩=some y)(hn:n≤4194304)(gC:bytes≤64)
 (h:∀g cap w1,w1.ownsRow B e 1 (ζ (some ⟨g,0,none⟩) (n+1) cap) (n+1) (xs++[y])→(wr.alloc obj).grownBy w1 v.ownBlock→(v.ownBlock=some g∨wr.heap.size<g)→wpList P ops Q rest (a.put o.dst (ζ (some ⟨g,0,none⟩) (n+1) cap)) w1):wpList P ops Q (o::rest) a (wr.alloc obj):=by
 obtain⟨i0,hi,fH,eP,fb⟩:=info_parts kN;refine wpList_append_lies _ ix s x t ho B e i0 z 1 bytes hu hi fH eP fb hz (by decide) v n xs hs (aw.alloc _) ⟨wr.heap.size,0,none⟩ 1 1 [y] hx rfl ?_ ?_ (by decide) ?_ ?_ ?_ (wr.heap.size+1) (by simp) ?_
 ·intro j u hj
  match j,hj with
  |0,hj=>simp at hj;subst hj;exact hc
 ·intro u hu;simp at hu;subst hu;exact hy
 ·unfold maxLen;omega
 ·have:(n+1) * bytes≤4194305 * 64:=Nat.mul_le_mul (by omega) gC;omega
 ·simp;omega
 ·intro g cap w1 dj eJ gE _;exact h g cap w1 dj eJ (gE.elim .inl (fun e=> .inr (by omega)))
structure DS (p:Nat)(w1 wr:ο)(v7 v8:Value)(ws os:List Int):Prop where
 c7:wr.cell? ⟨p,7,none⟩=some v7
 c8:wr.cell? ⟨p,8,none⟩=some v8
 f7:wr.frozen? ⟨p,7,none⟩=false
 f8:wr.frozen? ⟨p,8,none⟩=false
 r7:wr.ownsRow w1.heap.size 3 1 v7 ws.length (ws.map (φ Z))
 r8:wr.ownsRow w1.heap.size 3 1 v8 os.length (os.map (φ Z))
 ap:∀g,v7.ownBlock=some g→v8.ownBlock≠some g
 size:w1.heap.size≤wr.heap.size
 sys:wr.os=w1.os∧wr.tape=w1.tape∧wr.output=w1.output
 keep:∀k,k<w1.heap.size→k≠p→wr.heap[k]?=w1.heap[k]?
 rest:∀j,j≠7→j≠8→wr.cell? ⟨p,j,none⟩=w1.cell? ⟨p,j,none⟩∧wr.frozen? ⟨p,j,none⟩=w1.frozen? ⟨p,j,none⟩
theorem DS.below {p:Nat}{w1 wr w2:ο}{v7 v8:Value}{ws os:List Int}(h:DS p w1 wr v7 v8 ws os)(hp:p<w1.heap.size)(hb:Below wr.heap.size wr w2):DS p w1 w2 v7 v8 ws os:=by
 have ay:p<wr.heap.size:=ρ hp h.size;have hk:=hb.block p ay;have hg:wr.grownBy w2 none:=⟨hb.os,hb.tape,hb.output,hb.size,fun k hk _=>hb.block k hk⟩;have hn:∀v:Value,v.ownBlock=none∨v.ownBlock≠none:=fun v=>by cases v.ownBlock<;>simp
 exact⟨(ι (a:=⟨p,7,none⟩) hk).trans h.c7,(ι (a:=⟨p,8,none⟩) hk).trans h.c8,(θ (a:=⟨p,7,none⟩) hk).trans h.f7,(θ (a:=⟨p,8,none⟩) hk).trans h.f8,
  h.r7.kept hg (hn v7),h.r8.kept hg (hn v8),h.ap,Ζ h.size hb.size,⟨hb.os.trans h.sys.1,hb.tape.trans h.sys.2.1,hb.output.trans h.sys.2.2⟩,
  fun k jx gm=>(hb.block k (ρ jx h.size)).trans (h.keep k jx gm),
  fun j h1 h2=>⟨(ι (a:=⟨p,j,none⟩) hk).trans (h.rest j h1 h2).1,(θ (a:=⟨p,j,none⟩) hk).trans (h.rest j h1 h2).2⟩⟩
section
variable {p:Nat} {w1 wr w3:ο} {v7 v8 v':Value} {ws os:List Int} {obj:Obj} {x:Int} {g cap:Nat}
theorem DS.same (h:DS p w1 wr v7 v8 ws os){v:Value}{n:Nat}{xs:List Value}(hv:wr.ownsRow w1.heap.size 3 1 v n xs)(hg:(wr.alloc obj).grownBy w3 v.ownBlock):
 (∀k,k<w1.heap.size→w3.heap[k]?=wr.heap[k]?)∧wr.heap.size<w3.heap.size:=by
 have hs:=hg.size;simp at hs;refine⟨fun k hk=>?_,by omega⟩;have lR:k<wr.heap.size:=ρ hk h.size;rw[hg.block k (by simp;omega) (fun e=>by have:=(hv.lt k e.symm).1;omega)];exact heap_alloc_old wr obj lR
theorem DS.Xe (h:DS p w1 wr v7 v8 ws os)(hp:p<w1.heap.size)(hg:(wr.alloc obj).grownBy w3 v7.ownBlock):w3.cell? ⟨p,7,none⟩=some v7∧w3.frozen? ⟨p,7,none⟩=false:=by
 have hk:=(h.same h.r7 hg).1 p hp;exact⟨(ι (a:=⟨p,7,none⟩) hk).trans h.c7,(θ (a:=⟨p,7,none⟩) hk).trans h.f7⟩
theorem DS.Xf (h:DS p w1 wr v7 v8 ws os)(hp:p<w1.heap.size)(hg:(wr.alloc obj).grownBy w3 v8.ownBlock):w3.cell? ⟨p,8,none⟩=some v8∧w3.frozen? ⟨p,8,none⟩=false:=by
 have hk:=(h.same h.r8 hg).1 p hp;exact⟨(ι (a:=⟨p,8,none⟩) hk).trans h.c8,(θ (a:=⟨p,8,none⟩) hk).trans h.f8⟩
theorem DS.Zy (h:DS p w1 wr v7 v8 ws os)(hp:p<w1.heap.size)(hv:v'= ζ (some ⟨g,0,none⟩) (ws.length+1) cap)
 (aw:w3.ownsRow w1.heap.size 3 1 v' (ws.length+1) (ws.map (φ Z)++[V Z x]))(hg:(wr.alloc obj).grownBy w3 v7.ownBlock)(gE:v7.ownBlock=some g∨wr.heap.size<g):
 DS p w1 (w3.setCell ⟨p,7,none⟩ v') v' v8 (ws++[x]) os:=by
 obtain⟨jY,bu⟩:=h.same h.r7 hg;have hk:=jY p hp;have hm:=h.Xe hp hg;have c8:=(ι (a:=⟨p,8,none⟩) hk).trans h.c8;have f8:=(θ (a:=⟨p,8,none⟩) hk).trans h.f8;have r8:w3.ownsRow w1.heap.size 3 1 v8 os.length (os.map (φ Z)):=(h.r8.alloc obj).kept hg (by
  cases h8:v8.ownBlock with
  |none=>exact .inl rfl
  |some g8=>exact .inr (fun e=>h.ap g8 e.symm h8))
 refine⟨τ _ _ _ hm.1,(μ _ _ _ _ (by simp)).trans c8,(κ _ _ _ _).trans hm.2,(κ _ _ _ _).trans f8,?_,ownsRow_setCell_below r8 (by exact hp) _,?_,?_,?_,?_,?_⟩
 ·have:=ownsRow_setCell_below aw (a:=⟨p,7,none⟩) (by exact hp) v';simpa using this
 ·intro g' uV h8;rw[hv]at uV;obtain rfl:g=g':=by simpa[Ε]using uV
  rcases gE with gE|gE
  ·exact h.ap g gE h8
  ·have:=(h.r8.lt g h8).2;omega
 ·have:=h.size;rw[show(w3.setCell ⟨p,7,none⟩ v').heap.size=w3.heap.size from by simp[ν]];omega
 ·have e1:=hg.os;have e2:=hg.tape;have e3:=hg.output;exact⟨(show(w3.setCell ⟨p,7,none⟩ v').os=w3.os from by simp[ν]).trans (e1.trans h.sys.1),(show(w3.setCell ⟨p,7,none⟩ v').tape=w3.tape from by simp[ν]).trans (e2.trans h.sys.2.1),(show(w3.setCell ⟨p,7,none⟩ v').output=w3.output from by simp[ν]).trans (e3.trans h.sys.2.2)⟩
 ·intro k jx gm;rw[χ _ _ _ _ (by exact gm),jY k jx];exact h.keep k jx gm
 ·intro j h1 h2;rw[μ _ _ _ _ (fun e=>by cases e;omega),κ,ι (a:=⟨p,j,none⟩) hk,θ (a:=⟨p,j,none⟩) hk];exact h.rest j h1 h2
theorem DS.Zz (h:DS p w1 wr v7 v8 ws os)(hp:p<w1.heap.size)(hv:v'= ζ (some ⟨g,0,none⟩) (os.length+1) cap)
 (aw:w3.ownsRow w1.heap.size 3 1 v' (os.length+1) (os.map (φ Z)++[V Z x]))(hg:(wr.alloc obj).grownBy w3 v8.ownBlock)(gE:v8.ownBlock=some g∨wr.heap.size<g):
 DS p w1 (w3.setCell ⟨p,8,none⟩ v') v7 v' ws (os++[x]):=by
 obtain⟨jY,bu⟩:=h.same h.r8 hg;have hk:=jY p hp;have hm:=h.Xf hp hg;have c7:=(ι (a:=⟨p,7,none⟩) hk).trans h.c7;have f7:=(θ (a:=⟨p,7,none⟩) hk).trans h.f7;have r7:w3.ownsRow w1.heap.size 3 1 v7 ws.length (ws.map (φ Z)):=(h.r7.alloc obj).kept hg (by
  cases h7:v7.ownBlock with
  |none=>exact .inl rfl
  |some g7=>exact .inr (fun e=>h.ap g7 h7 e.symm))
 refine⟨(μ _ _ _ _ (by simp)).trans c7,τ _ _ _ hm.1,(κ _ _ _ _).trans f7,(κ _ _ _ _).trans hm.2,ownsRow_setCell_below r7 (by exact hp) _,?_,?_,?_,?_,?_,?_⟩
 ·have:=ownsRow_setCell_below aw (a:=⟨p,8,none⟩) (by exact hp) v';simpa using this
 ·intro g' uV h8;rw[hv]at h8;obtain rfl:g=g':=by simpa[Ε]using h8
  rcases gE with gE|gE
  ·exact h.ap g uV gE
  ·have:=(h.r7.lt g uV).2;omega
 ·have:=h.size;rw[show(w3.setCell ⟨p,8,none⟩ v').heap.size=w3.heap.size from by simp[ν]];omega
 ·have e1:=hg.os;have e2:=hg.tape;have e3:=hg.output;exact⟨(show(w3.setCell ⟨p,8,none⟩ v').os=w3.os from by simp[ν]).trans (e1.trans h.sys.1),(show(w3.setCell ⟨p,8,none⟩ v').tape=w3.tape from by simp[ν]).trans (e2.trans h.sys.2.1),(show(w3.setCell ⟨p,8,none⟩ v').output=w3.output from by simp[ν]).trans (e3.trans h.sys.2.2)⟩
 ·intro k jx gm;rw[χ _ _ _ _ (by exact gm),jY k jx];exact h.keep k jx gm
 ·intro j h1 h2;rw[μ _ _ _ _ (fun e=>by cases e;omega),κ,ι (a:=⟨p,j,none⟩) hk,θ (a:=⟨p,j,none⟩) hk];exact h.rest j h1 h2
end
end Go.Proofs.YthpndgcaoeokeaaGreatDoor
namespace Go.Proofs.YthpndgcaoeokeaaGreatDoor
open Tryz
open Go.RowKit
def qI (l:ByteArray):Option (Int×Int):=
 if l.size<2 then none
 else if gB (cut l (l.size - 2) 2)<0 then none
 else if l.size=2 then some (gB (cut l (l.size - 2) 2),0)
 else if cT (cut l 0 (l.size - 2)) 53=0 then none
 else some (gB (cut l (l.size - 2) 2),cT (cut l 0 (l.size - 2)) 53)
def nO:List ByteArray→List Int×List Int→Option (List Int×List Int)
 |[],acc=>some acc
 |l::r,acc=>match qI l with|none=>none|some q=>nO r (acc.1++[q.1],acc.2++[q.2])
def jc (s:ByteArray):Option (List Int×List Int):=if(cI s 44).length≤20 then nO (cI s 44) ([],[])else none
theorem aaV {P:List ByteArray}{k:Nat}{l:ByteArray}{acc:List Int×List Int}{q:Int×Int}(h:P[k]?=some l)(ht:qI l=some q):nO (P.drop k) acc=nO (P.drop (k+1)) (acc.1++[q.1],acc.2++[q.2]):=by
 obtain⟨hk,he⟩:=List.getElem?_eq_some_iff.1 h;rw[ξ hk,he,nO,ht]
theorem Na {P:List ByteArray}{k:Nat}{l:ByteArray}{acc:List Int×List Int}(h:P[k]?=some l)(ht:qI l=none):nO (P.drop k) acc=none:=by
 obtain⟨hk,he⟩:=List.getElem?_eq_some_iff.1 h;rw[ξ hk,he,nO,ht]
theorem Nb (w:ο)(y:Value)(e:Ι):(w.alloc (.cells #[y] e)).cell? ⟨w.heap.size,0,none⟩=some y:=by simp
theorem wC {P:Program}{ops:Array Oper}{rest:List Oper}{o:Oper}{a:Act}{Q:Exit→Act→ο→Prop}{wr:ο}{obj:Obj}(ix:o.guard=none)(s x:Operand)(t e:Ι)(z:Value)(bytes:Nat)
 (ho:o.op= .call {callee:= .builtin .append,args:=#[s,x],argTypes:=#[t,t]})(hu:P.underlying t=some (.slice e))
 (kN:(P.info? e).map (fun i=>(i.zero,i.size,i.bytes))=some (some z,1,bytes))(hz:z.cells.size=1)(B:Nat)(v:Value)(n:Nat)(xs:List Value)(hs:a.eval s=v)
 (aw:wr.ownsRow B e 1 v n xs)(hB:B≤wr.heap.size)(y:Value)(hy:y.oneCell'=true)(N:Nat)(hN:wr.heap.size=N)(hx:a.eval x= ζ (some ⟨N,0,none⟩) 1 1)
 (hc:(wr.alloc obj).cell? ⟨wr.heap.size,0,none⟩=some y)(hn:n≤4194304)(gC:bytes≤64)
 (h:∀g cap w1,w1.ownsRow B e 1 (ζ (some ⟨g,0,none⟩) (n+1) cap) (n+1) (xs++[y])→(wr.alloc obj).grownBy w1 v.ownBlock→(v.ownBlock=some g∨wr.heap.size<g)→wpList P ops Q rest (a.put o.dst (ζ (some ⟨g,0,none⟩) (n+1) cap)) w1):wpList P ops Q (o::rest) a (wr.alloc obj):=by
 subst hN;exact Xd ix s x t e z bytes ho hu kN hz B v n xs hs aw hB y hy hx hc hn gC h
theorem DS.lift {p:Nat}{w w1 wr:ο}{v7 v8:Value}{ws os:List Int}(h:DS p w1 wr v7 v8 ws os)(hp:p<w.heap.size)(hb:Below w.heap.size w w1):DS p w wr v7 v8 ws os:=by
 have hk:=hb.block p hp;have mono:∀{v:Value} {n:Nat} {xs:List Value},wr.ownsRow w1.heap.size 3 1 v n xs→wr.ownsRow w.heap.size 3 1 v n xs:=fun h=>⟨h.1,h.2.elim .inl fun⟨g,cap,cur,h1,h2,h3⟩=> .inr ⟨g,cap,cur,h1,Ζ hb.size h2,h3⟩⟩;exact⟨h.c7,h.c8,h.f7,h.f8,mono h.r7,mono h.r8,h.ap,Ζ hb.size h.size,⟨h.sys.1.trans hb.os,h.sys.2.1.trans hb.tape,h.sys.2.2.trans hb.output⟩,
  fun k h1 h2=>(h.keep k (ρ h1 hb.size) h2).trans (hb.block k h1),
  fun j h1 h2=>⟨(h.rest j h1 h2).1.trans (ι (a:=⟨p,j,none⟩) hk),(h.rest j h1 h2).2.trans (θ (a:=⟨p,j,none⟩) hk)⟩⟩
theorem DS.cell {p g k:Nat}{w1 wr:ο}{v7 v8:Value}{ws os:List Int}{y:Value}(h:DS p w1 wr v7 v8 ws os)(hg:g<w1.heap.size)(di:g≠p)(hc:w1.cell? ⟨g,k,none⟩=some y):wr.cell? ⟨g,k,none⟩=some y:=
 (ι (a:=⟨g,k,none⟩) (h.keep g hg di)).trans hc
theorem Xg (p:Nat)(s:ByteArray)(w:ο)(hs:s.size≤1048575)(hp:p<w.heap.size)(h7:w.cell? ⟨p,7,none⟩=some (ζ none 0 0))(h8:w.cell? ⟨p,8,none⟩=some (ζ none 0 0))(Nc:w.frozen? ⟨p,7,none⟩=false)(Nd:w.frozen? ⟨p,8,none⟩=false):
 Α prog 333 #[ε (some ⟨p,0,none⟩), η s] w fun e w'=>∃b v7 v8 ws os,e= δ (.bool b)∧DS p w w' v7 v8 ws os∧(b=false→jc s=none)∧(b=true→jc s=some (ws,os)):=by
 have CS:=ad (uN s 44 w (by omega));have HP:=ad (rn s 44);have HL:=ad (uO s 44);have HM:=ad (oL s 44);have HF:Hid (jc s=if(cI s 44).length≤20 then nO (cI s 44) ([],[])else none):=ad rfl;obtain⟨P,hP⟩:∃P,P=cI s 44:=⟨_,rfl⟩;rw[←hP]at CS HP HL HM HF;clear hP;go_enter func333,ntmps333;go_wp2_with (go_at_call 292;refine(CS.out).mono ?_;rintro e w1 ⟨v,rfl,aw,ai⟩;obtain⟨g,cap,rfl,hgB,gE⟩:=yy aw HP.out;clear aw);have eP:=ai.size;have hPl:P.length≤1048576:=by have:=HL.out;omega
 have HA:=ad gE;have mf:p<w1.heap.size:=ρ hp eP;have PF:g<w1.heap.size:=gE.1;have KS:g≠p:=by omega
 have jx:=ai.block p hp;have H1:DS p w1 w1 (ζ none 0 0) (ζ none 0 0) [] []:=
  ⟨(ι (a:=⟨p,7,none⟩) jx).trans h7,(ι (a:=⟨p,8,none⟩) jx).trans h8,(θ (a:=⟨p,7,none⟩) jx).trans Nc,(θ (a:=⟨p,8,none⟩) jx).trans Nd,
   ψ _ _ _ _,ψ _ _ _ _,fun g hg=>by simp[Ε]at hg,Nat.le_refl _,⟨rfl,rfl,rfl⟩,fun _ _ _=>rfl,fun _ _ _=>⟨rfl,rfl⟩⟩
 clear gE jx h7 h8 Nc Nd;go_loopw [6] (fun i wr=>∃(k:Nat) (v7 v8:Value) (ws os:List Int),k≤P.length∧i= V Z k∧ws.length=k∧os.length=k∧DS p w1 wr v7 v8 ws os∧Hid (nO P ([],[])=nO (P.drop k) (ws,os))) (fun i _=>P.length - (intOf i).toNat)
 case atStart=>exact⟨0,_,_,[],[],Δ _,rfl,rfl,rfl,H1,ad (by simp)⟩
 case round=>
  obtain⟨k,v7,v8,ws,os,hk,rfl,O4,Sa,hD,HT⟩:=hrel;clear H1;have ZA:=ad O4;have ZB:=ad Sa;clear O4 Sa;by_cases ay:k<P.length
  case neg=>
   have fB:k=P.length:=by omega
   have HE:Hid (nO P ([],[])=some (ws,os)):=ad (by rw[HT.out,fB,Γ];rfl);clear HT;go_wp2;go_ret;refine⟨decide ((P.length:Int)≤20),v7,v8,ws,os,rfl,hD.lift hp ai,fun h=>?_,fun h=>?_⟩
   ·rw[HF.out,if_neg (by simp at h;omega)]
   ·rw[HF.out,if_pos (by simp at h;omega),HE.out]
  case pos=>
   obtain⟨l,hl⟩:∃l,P[k]?=some l:=⟨_,ω ay⟩;have oY:=HA.out.2 k l hl;have cR:=hD.cell PF KS oY;have nT:l.size≤1048576:=by have:=HM.out l (Β hl);omega
   by_cases h2:l.size<2
   case pos=>
    have HN:Hid (nO P ([],[])=none):=ad (by rw[HT.out,Na hl (by unfold qI;rw[if_pos h2])]);clear HT hl oY;go_wp2;go_ret;exact⟨false,v7,v8,ws,os,rfl,hD.lift hp ai,fun _=>by rw[HF.out,HN.out];simp,fun h=>(by cases h)⟩
   case neg=>
    obtain⟨m,hm⟩:∃m,l.size=m+2:=⟨l.size - 2,by omega⟩;have er:qI l=if gB (cut l m 2)<0 then none else if m=0 then some (gB (cut l m 2),0)else if cT (cut l 0 m) 53=0 then none else some (gB (cut l m 2),cT (cut l 0 m) 53):=by
     unfold qI;rw[if_neg h2,hm,show m+2 - 2=m from by omega];simp
    have CW:∀(x:ByteArray) (w':ο),x.data.toList=cut l m 2→Α prog 334 #[η x] w' fun e w2=>e= δ (V Z (gB (cut l m 2)))∧Below w'.heap.size w' w2:=fun x w' hx=>by
     have:=Dl x w';rw[hx]at this;exact this
    have CG:∀(x:ByteArray) (w':ο),x.size≤maxLen→x.data.toList=cut l 0 m→Α prog 331 #[η x, V Z 53] w' fun e w2=>e= δ (V Z (cT (cut l 0 m) 53))∧w'=w2:=fun x w' h1 hx=>by
     have:=rO x 53 w' h1;rw[hx]at this;exact this
    obtain⟨W,hW⟩:∃W,W=gB (cut l m 2):=⟨_,rfl⟩;obtain⟨O,hO⟩:∃O,O=cT (cut l 0 m) 53:=⟨_,rfl⟩;rw[←hW]at CW;rw[←hO]at CG;rw[←hW,←hO]at er;have CW:=ad CW;have CG:=ad CG;clear hW hO h2;have bad:qI l=none→Hid (nO P ([],[])=none):=fun h=>ad (by rw[HT.out,Na hl h]);have Ed:∀q,qI l=some q→Hid (nO P ([],[])=nO (P.drop (k+1)) (ws++[q.1],os++[q.2])):=fun q h=>ad (by rw[HT.out,aaV hl h]);clear HT hl;rcases Nat.eq_zero_or_pos m with Lz|Lz
    case inl=>
     have er:qI l=if W<0 then none else some (W,0):=by rw[er,if_pos Lz]
     have hmi:(m:Int)≤0:=by omega
     clear Lz;by_cases hW:W<0
     case pos=>
      have HN:=bad (by rw[er,if_pos hW]);clear bad Ed er;go_wp2_with (go_at_call 334;refine(CW.out _ _ (by rw[bP];first|rfl|(congr 1;omega))).mono ?_;rintro e w2 ⟨rfl,az⟩;have ib:=hD.below mf az;have sW:=ib.cell PF KS oY;have Rf:=ib.c7);go_ret;exact⟨false,v7,v8,ws,os,rfl,ib.lift hp ai,fun _=>by rw[HF.out,HN.out];simp,fun h=>(by cases h)⟩
     case neg=>
      have HN:=Ed (W,0) (by rw[er,if_neg hW]);clear bad Ed er;go_wp2_with (first
       |(go_at_call 334;refine(CW.out _ _ (by rw[bP];first|rfl|(congr 1;omega))).mono ?_;rintro e w2 ⟨rfl,az⟩;have ib:=hD.below mf az;have sW:=ib.cell PF KS oY;have Rf:=ib.c7)
       |(at_builtin;refine wC rfl (.tmp 56) (.tmp 58) 54 3 _ 8 rfl underlying54 eu rfl w1.heap.size _ _ _ rfl ib.r7 ib.size (V Z W) rfl _ rfl rfl (by simp) (by have:=ZA.out;omega) (by decide) ?_;intro g7 QY w3 ry UJ Xh;obtain⟨Mz,Nc⟩:=ib.Xe mf UJ;have tp:=ib.Zy mf rfl ry UJ Xh;have Pr:w3.cell? ⟨p,8,none⟩=some v8:=(μ _ _ _ _ (by simp)).symm.trans tp.c8;have Nd:w3.frozen? ⟨p,8,none⟩=false:=(κ _ _ _ _).symm.trans tp.f8)
       |(at_builtin;refine wC rfl (.tmp 66) (.tmp 68) 54 3 _ 8 rfl underlying54 eu rfl w1.heap.size _ _ _ rfl tp.r8 tp.size (V Z 0) rfl _ (by simp) rfl (Nb _ _ _) (by have:=ZB.out;omega) (by decide) ?_;intro g8 aij w4 BP IX DO;obtain⟨aik,ail⟩:=tp.Xf mf IX;have hD4:=tp.Zz mf rfl BP IX DO))
      go_roundw
      case rel=>exact⟨k+1,_,_,ws++[W],os++[0],by omega,by go_num,by have:=ZA.out;simp;omega,by have:=ZB.out;simp;omega,hD4,HN⟩
      case measure=>simp[intOf];omega
    case inr=>
     by_cases hW:W<0
     case pos=>
      have HN:=bad (by rw[er,if_pos hW]);clear bad Ed er;go_wp2_with (first
       |(go_at_call 334;refine(CW.out _ _ (by rw[bP];first|rfl|(congr 1;omega))).mono ?_;rintro e w2 ⟨rfl,az⟩;have ib:=hD.below mf az;have sW:=ib.cell PF KS oY;have Rf:=ib.c7)
       |(go_at_call 331;refine(CG.out _ _ (by rw[π];unfold maxLen;omega) (by rw[bP];first|rfl|(congr 1;omega))).mono ?_;rintro e w' ⟨rfl,rfl⟩))
      go_ret;exact⟨false,v7,v8,ws,os,rfl,ib.lift hp ai,fun _=>by rw[HF.out,HN.out];simp,fun h=>(by cases h)⟩
     case neg=>
     by_cases hO:O=0
     case pos=>
      have HN:=bad (by rw[er,if_neg hW,if_neg (by omega),if_pos hO]);clear bad Ed er;subst hO;go_wp2_with (first
       |(go_at_call 334;refine(CW.out _ _ (by rw[bP];first|rfl|(congr 1;omega))).mono ?_;rintro e w2 ⟨rfl,az⟩;have ib:=hD.below mf az;have sW:=ib.cell PF KS oY;have Rf:=ib.c7)
       |(go_at_call 331;refine(CG.out _ _ (by rw[π];unfold maxLen;omega) (by rw[bP];first|rfl|(congr 1;omega))).mono ?_;rintro e w' ⟨rfl,rfl⟩))
      go_ret;exact⟨false,v7,v8,ws,os,rfl,ib.lift hp ai,fun _=>by rw[HF.out,HN.out];simp,fun h=>(by cases h)⟩
     case neg=>
      have HN:=Ed (W,O) (by rw[er,if_neg hW,if_neg (by omega),if_neg hO]);have gO:(O==0)=false:=by simpa using hO
      clear bad Ed er hO;go_wp2_with (first
       |(go_at_call 334;refine(CW.out _ _ (by rw[bP];first|rfl|(congr 1;omega))).mono ?_;rintro e w2 ⟨rfl,az⟩;have ib:=hD.below mf az;have sW:=ib.cell PF KS oY;have Rf:=ib.c7)
       |(go_at_call 331;refine(CG.out _ _ (by rw[π];unfold maxLen;omega) (by rw[bP];first|rfl|(congr 1;omega))).mono ?_;rintro e w' ⟨rfl,rfl⟩)
       |(at_builtin;refine wC rfl (.tmp 56) (.tmp 58) 54 3 _ 8 rfl underlying54 eu rfl w1.heap.size _ _ _ rfl ib.r7 ib.size (V Z W) rfl _ rfl rfl (by simp) (by have:=ZA.out;omega) (by decide) ?_;intro g7 QY w3 ry UJ Xh;obtain⟨Mz,Nc⟩:=ib.Xe mf UJ;have tp:=ib.Zy mf rfl ry UJ Xh;have Pr:w3.cell? ⟨p,8,none⟩=some v8:=(μ _ _ _ _ (by simp)).symm.trans tp.c8;have Nd:w3.frozen? ⟨p,8,none⟩=false:=(κ _ _ _ _).symm.trans tp.f8)
       |(at_builtin;refine wC rfl (.tmp 66) (.tmp 68) 54 3 _ 8 rfl underlying54 eu rfl w1.heap.size _ _ _ rfl tp.r8 tp.size (V Z O) rfl _ (by simp) rfl (Nb _ _ _) (by have:=ZB.out;omega) (by decide) ?_;intro g8 aij w4 BP IX DO;obtain⟨aik,ail⟩:=tp.Xf mf IX;have hD4:=tp.Zz mf rfl BP IX DO))
      go_roundw
      case rel=>exact⟨k+1,_,_,ws++[W],os++[O],by omega,by go_num,by have:=ZA.out;simp;omega,by have:=ZB.out;simp;omega,hD4,HN⟩
      case measure=>simp[intOf];omega
structure PS (p j:Nat)(y:Value)(w w':ο):Prop where
 c:w'.cell? ⟨p,j,none⟩=some y
 fz:w'.frozen? ⟨p,j,none⟩=w.frozen? ⟨p,j,none⟩
 size:w.heap.size≤w'.heap.size
 sys:w'.os=w.os∧w'.tape=w.tape∧w'.output=w.output
 keep:∀k,k<w.heap.size→k≠p→w'.heap[k]?=w.heap[k]?
 rest:∀i,i≠j→w'.cell? ⟨p,i,none⟩=w.cell? ⟨p,i,none⟩∧w'.frozen? ⟨p,i,none⟩=w.frozen? ⟨p,i,none⟩
theorem cW (w:ο)(a:Addr)(v:Value):(w.setCell a v).heap.size=w.heap.size:=by simp[ν]
theorem PS.of {p j:Nat}{y u:Value}{w w2:ο}(hp:p<w.heap.size)(hb:Below w.heap.size w w2)(hc:w.cell? ⟨p,j,none⟩=some u):PS p j y w (w2.setCell ⟨p,j,none⟩ y):=by
 have hk:=hb.block p hp;refine⟨τ _ _ _ ((ι (a:=⟨p,j,none⟩) hk).trans hc),(κ _ _ _ _).trans (θ (a:=⟨p,j,none⟩) hk),by rw[cW];exact hb.size,?_,?_,?_⟩
 ·exact⟨(show(w2.setCell ⟨p,j,none⟩ y).os=w2.os from by simp[ν]).trans hb.os,(show(w2.setCell ⟨p,j,none⟩ y).tape=w2.tape from by simp[ν]).trans hb.tape,(show(w2.setCell ⟨p,j,none⟩ y).output=w2.output from by simp[ν]).trans hb.output⟩
 ·intro k h1 h2;rw[χ _ _ _ _ (by exact h2)];exact hb.block k h1
 ·intro i hi;rw[μ _ _ _ _ (fun e=>by cases e;omega),κ];exact⟨ι (a:=⟨p,i,none⟩) hk,θ (a:=⟨p,i,none⟩) hk⟩
theorem PS.again {p j:Nat}{y y':Value}{w w2:ο}(h:PS p j y w w2):PS p j y' w (w2.setCell ⟨p,j,none⟩ y'):=by
 refine⟨τ _ _ _ h.c,(κ _ _ _ _).trans h.fz,by rw[cW];exact h.size,?_,?_,?_⟩
 ·exact⟨(show(w2.setCell ⟨p,j,none⟩ y').os=w2.os from by simp[ν]).trans h.sys.1,(show(w2.setCell ⟨p,j,none⟩ y').tape=w2.tape from by simp[ν]).trans h.sys.2.1,(show(w2.setCell ⟨p,j,none⟩ y').output=w2.output from by simp[ν]).trans h.sys.2.2⟩
 ·intro k h1 h2;rw[χ _ _ _ _ (by exact h2)];exact h.keep k h1 h2
 ·intro i hi;rw[μ _ _ _ _ (fun e=>by cases e;omega),κ];exact h.rest i hi
theorem aeI (p:Nat)(s:ByteArray)(u:Value)(w:ο)(hs:s.size≤maxLen)(hp:p<w.heap.size)(hc:w.cell? ⟨p,1,none⟩=some u)(hf:w.frozen? ⟨p,1,none⟩=false):
 Α prog 293 #[ε (some ⟨p,0,none⟩), V Z 1, η s] w fun e w'=>e= δ (.bool (decide (0<cT s.data.toList 100)))∧PS p 1 (V Z (cT s.data.toList 100)) w w':=by
 have CQ:=rO s 100 w hs;obtain⟨z,hz⟩:∃z,z=cT s.data.toList 100:=⟨_,rfl⟩;rw[←hz]at CQ⊢;have CQ:=ad CQ;clear hz;go_enter func293,ntmps293;go_wp2_with (go_at_call 331;refine(CQ.out).mono ?_;rintro e w' ⟨rfl,rfl⟩);go_ret;exact⟨rfl,PS.of hp (υ _ _) hc⟩
theorem aeJ (p:Nat)(s:ByteArray)(u:Value)(w:ο)(hs:s.size≤maxLen)(hp:p<w.heap.size)(hc:w.cell? ⟨p,2,none⟩=some u)(hf:w.frozen? ⟨p,2,none⟩=false):
 Α prog 293 #[ε (some ⟨p,0,none⟩), V Z 2, η s] w fun e w'=>e= δ (.bool (decide (0<cT s.data.toList 1000)))∧PS p 2 (V Z (cT s.data.toList 1000)) w w':=by
 have CQ:=rO s 1000 w hs;obtain⟨z,hz⟩:∃z,z=cT s.data.toList 1000:=⟨_,rfl⟩;rw[←hz]at CQ⊢;have CQ:=ad CQ;clear hz;go_enter func293,ntmps293;go_wp2_with (go_at_call 331;refine(CQ.out).mono ?_;rintro e w' ⟨rfl,rfl⟩);go_ret;exact⟨rfl,PS.of hp (υ _ _) hc⟩
theorem aeM (p:Nat)(s:ByteArray)(u:Value)(w:ο)(hp:p<w.heap.size)(hc:w.cell? ⟨p,9,none⟩=some u)(hf:w.frozen? ⟨p,9,none⟩=false):
 Α prog 293 #[ε (some ⟨p,0,none⟩), V Z 8, η s] w fun e w'=>e= δ (.bool (decide (0≤gB s.data.toList)))∧PS p 9 (V Z (gB s.data.toList)) w w':=by
 have CQ:=Dl s w;obtain⟨z,hz⟩:∃z,z=gB s.data.toList:=⟨_,rfl⟩;rw[←hz]at CQ⊢;have CQ:=ad CQ;clear hz;go_enter func293,ntmps293;go_wp2_with (go_at_call 334;refine(CQ.out).mono ?_;rintro e w2 ⟨rfl,az⟩;have mS:=(az.cell (p:=⟨p,9,none⟩) hp).trans hc;have hf2:=(θ (a:=⟨p,9,none⟩) (az.block p hp)).trans hf);go_ret;exact⟨rfl,PS.of hp az hc⟩
theorem aeK (p:Nat)(s:ByteArray)(u:Value)(w:ο)(hs:s.size≤maxLen)(hp:p<w.heap.size)(hc:w.cell? ⟨p,3,none⟩=some u)(hf:w.frozen? ⟨p,3,none⟩=false):
 Α prog 293 #[ε (some ⟨p,0,none⟩), V Z 3, η s] w fun e w'=>e= δ (.bool (fs s))∧PS p 3 (V Z (if fs s=true then eI s else 0)) w w':=by
 have CQ:=lN s w hs;cases ht:fs s
 case true=>
  rw[ju (eA.1 ht)]at CQ;have CQ:=ad CQ;clear ht;go_enter func293,ntmps293;go_wp2_with (go_at_call 107;refine(CQ.out).mono ?_;rintro e w' ⟨rfl,rfl⟩);go_ret;exact⟨rfl,PS.of hp (υ _ _) hc⟩
 case false=>
  rw[iC (fun h=>by rw[eA.2 h]at ht;cases ht)]at CQ;have CQ:=ad CQ;clear ht;go_enter func293,ntmps293;go_wp2_with (go_at_call 107;refine(CQ.out).mono ?_;rintro e w' ⟨rfl,rfl⟩);go_ret;exact⟨rfl,PS.of hp (υ _ _) hc⟩
def B9 (l:List UInt8):Int:=if l=[89,69,65,82,76,89]then 4 else jh l [68,65,73,76,89] [87,69,69,75,76,89] [77,79,78,84,72,76,89]
theorem aeH (p:Nat)(s:ByteArray)(u:Value)(w:ο)(hp:p<w.heap.size)(hc:w.cell? ⟨p,0,none⟩=some u)(hf:w.frozen? ⟨p,0,none⟩=false):
 Α prog 293 #[ε (some ⟨p,0,none⟩), V Z 0, η s] w fun e w'=>e= δ (.bool (decide (0<B9 s.data.toList)))∧PS p 0 (V Z (B9 s.data.toList)) w w':=by
 have CQ:Α prog 238 #[η s, η ⟨#[68,65,73,76,89]⟩, η ⟨#[87,69,69,75,76,89]⟩, η ⟨#[77,79,78,84,72,76,89]⟩] w fun e w'=>e= δ (V Z (jh s.data.toList [68,65,73,76,89] [87,69,69,75,76,89] [77,79,78,84,72,76,89]))∧w=w':=
  yz s.data.toList [68,65,73,76,89] [87,69,69,75,76,89] [77,79,78,84,72,76,89] w
 have zr:B9 s.data.toList=if s.data.toList=[89,69,65,82,76,89]then 4 else jh s.data.toList [68,65,73,76,89] [87,69,69,75,76,89] [77,79,78,84,72,76,89]:=rfl;obtain⟨z,hz⟩:∃z,z=jh s.data.toList [68,65,73,76,89] [87,69,69,75,76,89] [77,79,78,84,72,76,89]:=⟨_,rfl⟩;rw[←hz]at CQ zr;have CQ:=ad CQ;clear hz;by_cases hy:s.data.toList=[89,69,65,82,76,89]
 case pos=>
  have g:(s.toList==[89,69,65,82,76,89])=true:=by rw[ByteArray.toList_eq,beq_iff_eq];exact hy
  rw[zr,if_pos hy];clear hy zr;go_enter func293,ntmps293;go_wp2_with (go_at_call 238;refine(CQ.out).mono ?_;rintro e w' ⟨rfl,rfl⟩);go_ret;exact⟨rfl,(PS.of hp (υ _ _) hc).again⟩
 case neg=>
  have g:(s.toList==[89,69,65,82,76,89])=false:=by rw[ByteArray.toList_eq,beq_eq_false_iff_ne];exact hy
  rw[zr,if_neg hy];clear hy zr;go_enter func293,ntmps293;go_wp2_with (go_at_call 238;refine(CQ.out).mono ?_;rintro e w' ⟨rfl,rfl⟩);go_ret;exact⟨rfl,PS.of hp (υ _ _) hc⟩
theorem aeL (p:Nat)(s:ByteArray)(w:ο)(hs:s.size≤1048575)(hp:p<w.heap.size)(h7:w.cell? ⟨p,7,none⟩=some (ζ none 0 0))(h8:w.cell? ⟨p,8,none⟩=some (ζ none 0 0))(Nc:w.frozen? ⟨p,7,none⟩=false)(Nd:w.frozen? ⟨p,8,none⟩=false):
 Α prog 293 #[ε (some ⟨p,0,none⟩), V Z 6, η s] w fun e w'=>∃b v7 v8 ws os,e= δ (.bool b)∧DS p w w' v7 v8 ws os∧(b=false→jc s=none)∧(b=true→jc s=some (ws,os)):=by
 have CQ:=ad (Xg p s w hs hp h7 h8 Nc Nd);clear h7 h8 Nc Nd;go_enter func293,ntmps293;go_wp2_with (go_at_call 333;refine(CQ.out).mono ?_;rintro e w2 ⟨b,v7,v8,ws,os,rfl,hD,fG,jm⟩;have xa:=ad fG;have DB:=ad jm;clear fG jm);go_ret;exact⟨b,v7,v8,ws,os,rfl,hD,xa.out,DB.out⟩
end Go.Proofs.YthpndgcaoeokeaaGreatDoor
