import Derived.Test.YthpndgcaoeokeaaGreatDoorCo5
import Derived.Test.YthpndgcaoeokeaaGreatDoorShelfB
import Derived.Lib.SlicesS
set_option maxRecDepth 100000
set_option maxHeartbeats 8000000
open Go.IntKind renaming i64→Z
open Go.Value renaming int→V,slice→ζ,string→η,bool→μ,int→Β
open Go.Ending renaming returned→δ,panicked→ε
open Go.ByteArray renaming toList_eq→θ
open Go.RowKit.Below renaming refl→ι
open Nat renaming le_refl→κ,zero_le→Α
open Go renaming World→ν,Calls→υ,TypeId→Δ
open Bool renaming false_ne_true→ξ,and_eq_true→τ,and_eq_false_iff→φ
open Go.Lib renaming bytes_beq_false_iff→ο,bytes_beq_iff→ρ,trimPrefix→χ,hasPrefix→Γ
open Array renaming length_toList→π
open Go.RowKit renaming Hid→ψ
open List renaming eq_nil_of_length_eq_zero→ω,drop_length→Ε,getD→Ζ
namespace Go.Proofs.YthpndgcaoeokeaaGreatDoor
open Tryz
open Go.RowKit
def idx:List (List UInt8)→List UInt8→Option Nat
 |[],_=>none
 |a::r,n=>if a=n then some 0 else(idx r n).map (·+1)
theorem sL {n:List UInt8}:∀{ns:List (List UInt8)},(∀j,j<ns.length→ns.getD j []≠n)→idx ns n=none
 |[],_=>rfl
 |a::r,h=>by
  have h0:a≠n:=h 0 (by simp);have hr:idx r n=none:=sL fun j hj=>h (j+1) (by simpa using hj);rw[idx,if_neg h0,hr];rfl
theorem kZ {n:List UInt8}:∀{ns:List (List UInt8)} {k:Nat},k<ns.length→(∀j,j<k→ns.getD j []≠n)→ns.getD k []=n→idx ns n=some k
 |[],k,hk,_,_=>by simp at hk
 |a::r,0,_,_,h=>by rw[idx,if_pos (by simpa using h)]
 |a::r,k+1,hk,hj,h=>by
  have h0:a≠n:=hj 0 (by omega);have hr:idx r n=some k:=kZ (by simpa using hk) (fun j ay=>hj (j+1) (by omega)) (by simpa using h);rw[idx,if_neg h0,hr];rfl
def jR (ns:List (List UInt8))(c:UInt8)(l:List UInt8):Option (Nat×List UInt8):=
 match sp c l with
 |none=>none
 |some (n,v)=>(idx ns n).map fun k=>(k,v)
def Qg:Option (Nat×List UInt8)→Value
 |none=> .tuple #[V Z 0, η ⟨#[]⟩, .bool false]
 |some (k,v)=> .tuple #[V Z k, η ⟨v.toArray⟩, .bool true]
theorem aaQ {s:ByteArray}{c:UInt8}{k:Nat}(hk:k<s.size)(hn:c∉s.data.toList.take k)(h:s[k]=c):sp c s.data.toList=some (s.data.toList.take k,s.data.toList.drop (k+1)):=by
 have e:s.data.toList=s.data.toList.take k++c::s.data.toList.drop (k+1):=by
  rw[←h,←drop_cons s k hk,List.take_append_drop]
 have:=oU (b:=s.data.toList.drop (k+1)) hn;rw[←e]at this;exact this
theorem M3 (s:ByteArray)(k:Nat):cut s 0 k=s.data.toList.take k:=by simp[cut]
theorem M4 (s:ByteArray)(k:Nat):cut s k (s.size - k)=s.data.toList.drop k:=by
 unfold cut;apply List.take_of_length_le;rw[List.length_drop,π];exact κ _
theorem UD (l:List UInt8)(s:ByteArray)(k:Nat):(⟨l.toArray⟩:ByteArray)=s.extract 0 k↔l=s.data.toList.take k:=by
 constructor
 ·intro h;have:=congrArg (fun x=>x.data.toList) h;rw[bP,Nat.sub_zero,M3]at this;simpa using this
 ·intro h;apply ByteArray.ext;apply Array.toList_inj.1;rw[bP,Nat.sub_zero,M3,h]
theorem aaR {j:Nat}{v:Value}{l l':List UInt8}(h:v= η ⟨l.toArray⟩)(hl:l=l'):Ending.returned (.tuple #[V Z j,v, .bool true])= δ (Qg (some (j,l'))):=by rw[h,hl];rfl
theorem Iq (b off cap:Nat)(ns:List (List UInt8))(s:ByteArray)(c:UInt8)(w:ν)(hs:s.size≤1048576)(hns:ns.length≤100)(hc:∀j,j<ns.length→w.cell? ⟨b,off+j,none⟩=some (η ⟨(ns.getD j []).toArray⟩)):
 υ prog 291 #[ζ (some ⟨b,off,none⟩) ns.length cap, η s, .int .u8 c.toNat] w fun e w'=>e= δ (Qg (jR ns c s.data.toList))∧∃q,w'=w.drewN q:=by
 have HC:=ad hc;clear hc;go_enter func291,ntmps291;go_wp2;go_loop [9] (fun i=>∃k:Nat,k≤s.size∧i= V Z k∧ψ (c∉s.data.toList.take k)) (fun i=>s.size - (intOf i).toNat)
 case atStart=>exact⟨0,Α _,rfl,ad (by simp)⟩
 case round=>
  obtain⟨k,hk,rfl,HN⟩:=hrel;by_cases ay:k<s.size
  case neg=>
   have fB:k=s.size:=by omega
   subst fB;have HE:ψ (jR ns c s.data.toList=none):=ad (by have:=HN.out;rw[Ec]at this;unfold jR;rw[lA this]);clear HN;go_wp2;go_ret3;exact⟨by rw[HE.out];rfl,0,(World.drewN_zero w).symm⟩
  case pos=>
   by_cases he:s[k]=c
   case neg=>
    have g:(((s[k]'ay).toNat:Int)==c.toNat)=false:=by
     rw[beq_eq_false_iff_ne];intro h;exact he (UInt8.toNat_inj.1 (by omega))
    have HM:ψ (c∉s.data.toList.take (k+1)):=ad (by rw[Bq s k ay,List.mem_append,List.mem_singleton];intro h;rcases h with h|h;(exact HN.out h);(exact he h.symm));clear HN he;go_wp2;exact⟨⟨k+1,by omega,by go_num,HM⟩,by simp[intOf];omega⟩
   case pos=>
    have g:(((s[k]'ay).toNat:Int)==c.toNat)=true:=by rw[he];simp
    have HS:ψ (sp c s.data.toList=some (s.data.toList.take k,s.data.toList.drop (k+1))):=ad (aaQ ay HN.out he);clear HN he;go_wp2;go_loopw [10] (fun t wr=>∃j q:Nat,j≤ns.length∧t= V Z j∧wr=w.drewN q∧ψ (∀j',j'<j→ns.getD j' []≠s.data.toList.take k)) (fun t _=>ns.length - (intOf t).toNat)
    case atStart=>exact⟨0,0,Α _,rfl,(World.drewN_zero w).symm,ad (fun j' h=>by omega)⟩
    case round=>
     obtain⟨j,q,hj,rfl,rfl,HJ⟩:=hrel;by_cases hjl:j<ns.length
     case neg=>
      have XI:j=ns.length:=by omega
      subst XI;have HE:ψ (jR ns c s.data.toList=none):=ad (by unfold jR;rw[HS.out];show(idx ns _).map _=_;rw[sL HJ.out];rfl);clear HS HJ;go_wp2;go_ret3;exact⟨by rw[HE.out];rfl,q,rfl⟩
     case pos=>
      obtain⟨N,hN⟩:∃N:ByteArray,N=⟨(ns.getD j []).toArray⟩:=⟨_,rfl⟩;have cR:w.cell? ⟨b,off+j,none⟩=some (η N):=by rw[hN];exact HC.out j hjl
      by_cases heq:ns.getD j []=s.data.toList.take k
      case pos=>
       have g2:(N.toList==(s.extract 0 k).toList)=true:=by rw[ρ,hN,(UD _ s k).2 heq]
       have HE:ψ (jR ns c s.data.toList=some (j,s.data.toList.drop (k+1))):=ad (by unfold jR;rw[HS.out];show(idx ns _).map _=_;rw[kZ hjl HJ.out heq];rfl);clear HS HJ heq hN;go_wp2;go_quiet (fail);go_wp2;go_quiet (fail);go_wp2;go_ret3;exact⟨by rw[HE.out];exact aaR (PE s (k+1) s.size) (M4 s (k+1)),_,by rw[World.drewN_drewN,World.drewN_drewN]⟩
      case neg=>
       have g2:(N.toList==(s.extract 0 k).toList)=false:=by rw[ο,hN];intro h;exact heq ((UD _ s k).1 h)
       have HM:ψ (∀j',j'<j+1→ns.getD j' []≠s.data.toList.take k):=ad (fun j' h=>by
        by_cases e:j'=j
        ·subst e;exact heq
        ·exact HJ.out j' (by omega))
       clear HJ heq hN;go_wp2;go_quiet (fail);go_wp2;exact⟨⟨j+1,q+nq,by omega,by go_num,rfl,HM⟩,by simp[intOf];omega⟩
def jh (s a b c:List UInt8):Int:=if s=a then 1 else if s=b then 2 else if s=c then 3 else 0
theorem aeu (s a b c:ByteArray)(w:ν):
 υ prog 238 #[η s, η a, η b, η c] w fun e w'=>e= δ (V Z (if s=a then 1 else if s=b then 2 else if s=c then 3 else 0))∧w=w':=by
 by_cases h1:s=a
 ·have g1:=(ρ s a).2 h1;rw[if_pos h1];clear h1;go_enter func238,ntmps238;go_wp2;go_ret;exact⟨rfl,rfl⟩
 ·have g1:=(ο s a).2 h1;rw[if_neg h1];clear h1;by_cases h2:s=b
  ·have g2:=(ρ s b).2 h2;rw[if_pos h2];clear h2;go_enter func238,ntmps238;go_wp2;go_ret;exact⟨rfl,rfl⟩
  ·have g2:=(ο s b).2 h2;rw[if_neg h2];clear h2;by_cases h3:s=c
   ·have g3:=(ρ s c).2 h3;rw[if_pos h3];clear h3;go_enter func238,ntmps238;go_wp2;go_ret;exact⟨rfl,rfl⟩
   ·have g3:=(ο s c).2 h3;rw[if_neg h3];clear h3;go_enter func238,ntmps238;go_wp2;go_ret;exact⟨rfl,rfl⟩
theorem mU (a b:List UInt8):(⟨a.toArray⟩:ByteArray)=⟨b.toArray⟩↔a=b:=
 ⟨fun h=>by have:=congrArg (fun x=>x.data.toList) h;simpa using this,fun h=>by rw[h]⟩
theorem yz (s a b c:List UInt8)(w:ν):
 υ prog 238 #[η ⟨s.toArray⟩, η ⟨a.toArray⟩, η ⟨b.toArray⟩, η ⟨c.toArray⟩] w fun e w'=>e= δ (V Z (jh s a b c))∧w=w':=by
 have:=aeu ⟨s.toArray⟩ ⟨a.toArray⟩ ⟨b.toArray⟩ ⟨c.toArray⟩ w;simp only[mU]at this;exact this
def dE:List (List UInt8):=[[77,79],[84,85],[87,69],[84,72],[70,82],[83,65],[83,85]]
def gB (l:List UInt8):Int:=match idx dE l with|some k=>k|none=> -1
theorem mw {n:List UInt8}{ns:List (List UInt8)}{k:Nat}(h:∀j,j<k→ns.getD j []≠n)(he:¬ns.getD k []=n):∀j,j<k+1→ns.getD j []≠n:=fun j hj=>by
 by_cases e:j=k
 ·subst e;exact he
 ·exact h j (by omega)
theorem Dl (s:ByteArray)(w:ν):
 υ prog 334 #[η s] w fun e w'=>e= δ (V Z (gB s.data.toList))∧Below w.heap.size w w':=by
 go_enter func334,ntmps334;go_wp2;go_loop [4] (fun i=>∃k:Nat,k≤7∧i= V Z k∧ψ (∀j,j<k→dE.getD j []≠s.data.toList)) (fun i=>7 - (intOf i).toNat)
 case atStart=>exact⟨0,Α _,rfl,ad (fun j h=>by omega)⟩
 case round=>
  obtain⟨k,hk,rfl,HN⟩:=hrel;have hk8:k=0∨k=1∨k=2∨k=3∨k=4∨k=5∨k=6∨k=7:=by omega
  rcases hk8 with rfl|rfl|rfl|rfl|rfl|rfl|rfl|rfl
  ·by_cases he:dE.getD 0 []=s.data.toList
   ·have g:([77,79]==s.toList)=true:=by rw[θ,beq_iff_eq];exact he
    have HE:ψ (gB s.data.toList=0):=ad (by unfold gB;rw[kZ (k:=0) (by decide) HN.out he];rfl);clear HN he;go_wp2;go_ret;exact⟨by rw[HE.out];rfl,(ι _ _).alloc (κ _) _⟩
   ·have g:([77,79]==s.toList)=false:=by rw[θ,beq_eq_false_iff_ne];exact he
    have HM:ψ (∀j,j<0+1→dE.getD j []≠s.data.toList):=ad (mw HN.out he);clear HN he;go_wp2;exact⟨⟨1,by omega,rfl,HM⟩,by simp[intOf]⟩
  ·by_cases he:dE.getD 1 []=s.data.toList
   ·have g:([84,85]==s.toList)=true:=by rw[θ,beq_iff_eq];exact he
    have HE:ψ (gB s.data.toList=1):=ad (by unfold gB;rw[kZ (k:=1) (by decide) HN.out he];rfl);clear HN he;go_wp2;go_ret;exact⟨by rw[HE.out];rfl,(ι _ _).alloc (κ _) _⟩
   ·have g:([84,85]==s.toList)=false:=by rw[θ,beq_eq_false_iff_ne];exact he
    have HM:ψ (∀j,j<1+1→dE.getD j []≠s.data.toList):=ad (mw HN.out he);clear HN he;go_wp2;exact⟨⟨2,by omega,rfl,HM⟩,by simp[intOf]⟩
  ·by_cases he:dE.getD 2 []=s.data.toList
   ·have g:([87,69]==s.toList)=true:=by rw[θ,beq_iff_eq];exact he
    have HE:ψ (gB s.data.toList=2):=ad (by unfold gB;rw[kZ (k:=2) (by decide) HN.out he];rfl);clear HN he;go_wp2;go_ret;exact⟨by rw[HE.out];rfl,(ι _ _).alloc (κ _) _⟩
   ·have g:([87,69]==s.toList)=false:=by rw[θ,beq_eq_false_iff_ne];exact he
    have HM:ψ (∀j,j<2+1→dE.getD j []≠s.data.toList):=ad (mw HN.out he);clear HN he;go_wp2;exact⟨⟨3,by omega,rfl,HM⟩,by simp[intOf]⟩
  ·by_cases he:dE.getD 3 []=s.data.toList
   ·have g:([84,72]==s.toList)=true:=by rw[θ,beq_iff_eq];exact he
    have HE:ψ (gB s.data.toList=3):=ad (by unfold gB;rw[kZ (k:=3) (by decide) HN.out he];rfl);clear HN he;go_wp2;go_ret;exact⟨by rw[HE.out];rfl,(ι _ _).alloc (κ _) _⟩
   ·have g:([84,72]==s.toList)=false:=by rw[θ,beq_eq_false_iff_ne];exact he
    have HM:ψ (∀j,j<3+1→dE.getD j []≠s.data.toList):=ad (mw HN.out he);clear HN he;go_wp2;exact⟨⟨4,by omega,rfl,HM⟩,by simp[intOf]⟩
  ·by_cases he:dE.getD 4 []=s.data.toList
   ·have g:([70,82]==s.toList)=true:=by rw[θ,beq_iff_eq];exact he
    have HE:ψ (gB s.data.toList=4):=ad (by unfold gB;rw[kZ (k:=4) (by decide) HN.out he];rfl);clear HN he;go_wp2;go_ret;exact⟨by rw[HE.out];rfl,(ι _ _).alloc (κ _) _⟩
   ·have g:([70,82]==s.toList)=false:=by rw[θ,beq_eq_false_iff_ne];exact he
    have HM:ψ (∀j,j<4+1→dE.getD j []≠s.data.toList):=ad (mw HN.out he);clear HN he;go_wp2;exact⟨⟨5,by omega,rfl,HM⟩,by simp[intOf]⟩
  ·by_cases he:dE.getD 5 []=s.data.toList
   ·have g:([83,65]==s.toList)=true:=by rw[θ,beq_iff_eq];exact he
    have HE:ψ (gB s.data.toList=5):=ad (by unfold gB;rw[kZ (k:=5) (by decide) HN.out he];rfl);clear HN he;go_wp2;go_ret;exact⟨by rw[HE.out];rfl,(ι _ _).alloc (κ _) _⟩
   ·have g:([83,65]==s.toList)=false:=by rw[θ,beq_eq_false_iff_ne];exact he
    have HM:ψ (∀j,j<5+1→dE.getD j []≠s.data.toList):=ad (mw HN.out he);clear HN he;go_wp2;exact⟨⟨6,by omega,rfl,HM⟩,by simp[intOf]⟩
  ·by_cases he:dE.getD 6 []=s.data.toList
   ·have g:([83,85]==s.toList)=true:=by rw[θ,beq_iff_eq];exact he
    have HE:ψ (gB s.data.toList=6):=ad (by unfold gB;rw[kZ (k:=6) (by decide) HN.out he];rfl);clear HN he;go_wp2;go_ret;exact⟨by rw[HE.out];rfl,(ι _ _).alloc (κ _) _⟩
   ·have g:([83,85]==s.toList)=false:=by rw[θ,beq_eq_false_iff_ne];exact he
    have HM:ψ (∀j,j<6+1→dE.getD j []≠s.data.toList):=ad (mw HN.out he);clear HN he;go_wp2;exact⟨⟨7,by omega,rfl,HM⟩,by simp[intOf]⟩
  ·have HE:ψ (gB s.data.toList=-1):=ad (by unfold gB;rw[sL (ns:=dE) HN.out]);clear HN;go_wp2;go_ret;exact⟨by rw[HE.out];rfl,(ι _ _).alloc (κ _) _⟩
def within (l:List UInt8)(most:Int):Bool:=cO l&&decide (1≤bU l)&&decide (bU l≤most)
def cT (l:List UInt8)(most:Int):Int:=if l.head?=some 45 then(if within l.tail most then -(bU l.tail)else 0)else(if within l most then bU l else 0)
theorem M5 (l:List UInt8):-1≤bU l∧bU l≤9999999:=by
 unfold bU;split
 ·rename_i h;have hl:l.length≤7:=by
   unfold kG at h;simp only[τ,decide_eq_true_eq]at h;exact h.1.2
  have:=N9 l 7 hl;omega
 ·omega
theorem WV (s:ByteArray):(s.extract 1 s.size).data.toList=s.data.toList.tail:=by
 rw[bP,M4 s 1,List.drop_one]
theorem JA (s:ByteArray)(h:0<s.size):s.data.toList.head?=some (s[0]'h):=by
 have:=drop_cons s 0 h;rw[List.drop_zero]at this;rw[this];rfl
theorem rO (s:ByteArray)(most:Int)(w:ν)(hs:s.size≤maxLen):
 υ prog 331 #[η s, V Z most] w fun e w'=>e= δ (V Z (cT s.data.toList most))∧w=w':=by
 have fin:∀(l:List UInt8),within l most=true∨cO l=false∨(cO l=true∧bU l<1)∨(cO l=true∧1≤bU l∧most<bU l):=fun l=>by
  cases hb:cO l
  ·exact .inr (.inl rfl)
  ·by_cases h1:1≤bU l
   ·by_cases h2:bU l≤most
    ·exact .inl (by unfold within;rw[hb];simp[h1,h2])
    ·exact .inr (.inr (.inr ⟨rfl,h1,by omega⟩))
   ·exact .inr (.inr (.inl ⟨rfl,by omega⟩))
 have no:∀(l:List UInt8),cO l=false∨(cO l=true∧bU l<1)∨(cO l=true∧1≤bU l∧most<bU l)→within l most=false:=fun l h=>by
  unfold within;rcases h with h|⟨h,h1⟩|⟨h,h1,h2⟩
  ·rw[h];rfl
  ·have:decide (1≤bU l)=false:=by simp;omega
   rw[this];simp
  ·have:decide (bU l≤most)=false:=by simp;omega
   rw[this];simp
 by_cases hd:0<s.size∧fQ s 0=45
 case pos=>
  obtain⟨h0,h1⟩:=hd;have hh:s.data.toList.head?=some 45:=by
   rw[JA s h0];rw[←bb s 0 h0]at h1;rw[(kr (n:=45) (by decide)).1 h1];rfl
  have g1:(((s[0]'h0).toNat:Int)==45)=true:=by rw[bb s 0 h0,h1];rfl
  obtain⟨T,hT⟩:∃T,T=s.data.toList.tail:=⟨_,rfl⟩;have CN:=qG (s.extract 1 s.size);rw[WV s,←hT]at CN;have Tm:(s.extract 1 s.size).size≤maxLen:=by
   have:=ByteArray.size_extract (a:=s) (b:=1) (e:=s.size);omega
  have HC:=ad CN;have hS:cT s.data.toList most=if within T most then -(bU T)else 0:=by unfold cT;rw[if_pos hh,hT]
  have HS:=ad hS;have hl:=M5 T;have hF:=fin T;have pa:=ad (no T);clear CN hS hh hT h1 fin no;rcases hF with hF|hF
  case inl=>
   have HR:ψ (cT s.data.toList most=-(bU T)):=ad (by rw[HS.out,if_pos hF]);unfold within at hF;simp only[τ,decide_eq_true_eq]at hF;obtain⟨⟨f1,f2⟩,f3⟩:=hF;clear HS pa;go_enter func331,ntmps331;go_wp2_with (go_at_call 185;refine(HC.out _ Tm).mono ?_;rintro e w' ⟨rfl,rfl⟩);go_ret;exact⟨by rw[HR.out];exact nE (by omega),rfl⟩
  case inr=>
   have HR:ψ (cT s.data.toList most=0):=ad (by rw[HS.out,if_neg (by rw[pa.out hF];exact ξ)]);clear HS pa;rcases hF with f1|⟨f1,f2⟩|⟨f1,f2,f3⟩
   all_goals
    go_enter func331,ntmps331;go_wp2_with (go_at_call 185;refine(HC.out _ Tm).mono ?_;rintro e w' ⟨rfl,rfl⟩);go_ret;exact⟨by rw[HR.out];rfl,rfl⟩
 case neg=>
  have hh:¬s.data.toList.head?=some 45:=fun hh=>by
   by_cases h0:0<s.size
   ·rw[JA s h0]at hh;refine hd ⟨h0,?_⟩;rw[←bb s 0 h0];rw[Option.some.inj hh];rfl
   ·have:s.data.toList=[]:=ω (by rw[π];show s.size=0;omega);rw[this]at hh;cases hh
  obtain⟨T,hT⟩:∃T,T=s.data.toList:=⟨_,rfl⟩;have CN:=qG s w hs;rw[←hT]at CN;have HC:=ad CN;have hS:cT s.data.toList most=if within T most then bU T else 0:=by unfold cT;rw[if_neg hh,hT]
  have HS:=ad hS;have hl:=M5 T;have hF:=fin T;have pa:=ad (no T);clear CN hS hh hT fin no;have hq:(s.size=0)∨(0<s.size∧¬fQ s 0=45):=by
   by_cases h0:0<s.size
   ·exact .inr ⟨h0,fun h=>hd ⟨h0,h⟩⟩
   ·exact .inl (by omega)
  clear hd;rcases hF with hF|hF
  case inl=>
   have HR:ψ (cT s.data.toList most=bU T):=ad (by rw[HS.out,if_pos hF]);unfold within at hF;simp only[τ,decide_eq_true_eq]at hF;obtain⟨⟨f1,f2⟩,f3⟩:=hF;clear HS pa;rcases hq with h0|⟨h0,h1⟩
   case inl=>
    go_enter func331,ntmps331;go_wp2_with (go_at_call 185;refine(HC.out).mono ?_;rintro e w' ⟨rfl,rfl⟩);go_ret;exact⟨by rw[HR.out];exact nE (by omega),rfl⟩
   case inr=>
    have g1:(((s[0]'h0).toNat:Int)==45)=false:=by rw[bb s 0 h0];simpa using h1
    clear h1;go_enter func331,ntmps331;go_wp2_with (go_at_call 185;refine(HC.out).mono ?_;rintro e w' ⟨rfl,rfl⟩);go_ret;exact⟨by rw[HR.out];exact nE (by omega),rfl⟩
  case inr=>
   have HR:ψ (cT s.data.toList most=0):=ad (by rw[HS.out,if_neg (by rw[pa.out hF];exact ξ)]);clear HS pa;rcases hq with h0|⟨h0,h1⟩
   case inl=>
    rcases hF with f1|⟨f1,f2⟩|⟨f1,f2,f3⟩
    all_goals
     go_enter func331,ntmps331;go_wp2_with (go_at_call 185;refine(HC.out).mono ?_;rintro e w' ⟨rfl,rfl⟩);go_ret;exact⟨by rw[HR.out];rfl,rfl⟩
   case inr=>
    have g1:(((s[0]'h0).toNat:Int)==45)=false:=by rw[bb s 0 h0];simpa using h1
    clear h1;rcases hF with f1|⟨f1,f2⟩|⟨f1,f2,f3⟩
    all_goals
     go_enter func331,ntmps331;go_wp2_with (go_at_call 185;refine(HC.out).mono ?_;rintro e w' ⟨rfl,rfl⟩);go_ret;exact⟨by rw[HR.out];rfl,rfl⟩
open Go.RowKit Go.Sort
def lP (l:List UInt8)(lo hi:Int):Bool:=cO l&&decide (lo≤bU l)&&decide (bU l≤hi)
def El (l:List UInt8)(lo hi x:Int):Ending:=if lP l lo hi=true then δ (V Z (bU l))else ε (bN x)
theorem xS {l:List UInt8}{lo hi x:Int}(h:lP l lo hi=true):El l lo hi x= δ (V Z (bU l)):=by unfold El;rw[if_pos h]
theorem uz {l:List UInt8}{lo hi x:Int}(h:lP l lo hi=false):El l lo hi x= ε (bN x):=by unfold El;rw[if_neg (by rw[h];exact ξ)]
theorem iQ (l:List UInt8)(lo hi x:Int)(w:ν)(hl:l.length≤maxLen):
 υ prog 142 #[η ⟨l.toArray⟩, V Z lo, V Z hi, V Z x] w fun E w'=>E=El l lo hi x∧w=w':=by
 have kn:=fun W=>wB l x W hl;cases hn:cO l
 ·rw[su hn]at kn;rw[uz (by unfold lP;rw[hn];rfl)];have D:=ad kn;clear kn hn hl;go_enter func142,ntmps142;go_wp2_with (go_at_call 127;refine(D.out _).mono ?_;rintro e w' ⟨rfl,rfl⟩);exact⟨rfl,rfl,rfl⟩
 ·rw[Ea hn]at kn;have D:=ad kn;clear kn;by_cases h0:lo≤bU l
  ·by_cases h1:bU l≤hi
   ·rw[xS (by unfold lP;rw[hn];simp[h0,h1])];clear hn hl;go_enter func142,ntmps142;go_wp2_with (first
     |(go_at_call 127;refine(D.out _).mono ?_;rintro e w' ⟨rfl,rfl⟩)
     |(go_at_call_of 65 (μ true);refine(aF _ _).mono ?_;rintro e w' ⟨rfl,rfl⟩))
    go_ret;exact⟨rfl,rfl⟩
   ·rw[uz (by unfold lP;rw[hn];simp[h0,h1])];have zc:decide (bU l≤hi)=false:=by simpa using h1
    clear hn hl;go_enter func142,ntmps142;go_wp2_with (first
     |(go_at_call 127;refine(D.out _).mono ?_;rintro e w' ⟨rfl,rfl⟩)
     |(go_at_call_of 65 (μ false);refine(aM _ _).mono ?_;rintro e w' ⟨rfl,rfl⟩))
    exact⟨rfl,rfl,rfl⟩
  ·rw[uz (by unfold lP;rw[hn];simp[h0])];have Xy:decide (lo≤bU l)=false:=by simpa using h0
   clear hn hl;go_enter func142,ntmps142;go_wp2_with (first
    |(go_at_call 127;refine(D.out _).mono ?_;rintro e w' ⟨rfl,rfl⟩)
    |(go_at_call_of 65 (μ false);refine(aM _ _).mono ?_;rintro e w' ⟨rfl,rfl⟩))
   exact⟨rfl,rfl,rfl⟩
theorem mA (l:List UInt8)(most:Int):within l most=lP l 1 most:=rfl
def Em (l:List UInt8)(most x:Int):Ending:=if cT l most=0 then ε (bN x)else δ (V Z (cT l most))
theorem Br {l:List UInt8}{most x:Int}(h:cT l most=0):Em l most x= ε (bN x):=by unfold Em;rw[if_pos h]
theorem xT {l:List UInt8}{most x:Int}(h:¬cT l most=0):Em l most x= δ (V Z (cT l most)):=by unfold Em;rw[if_neg h]
theorem UE (r:List UInt8)(W:ν):
 υ prog 71 #[η ⟨((45:UInt8)::r).toArray⟩, η ⟨#[45]⟩] W fun E w'=>E= δ (.tuple #[η ⟨r.toArray⟩, .bool true])∧w'=W:=by
 have:=Tryz.strings_CutPrefix ⟨((45:UInt8)::r).toArray⟩ ⟨#[45]⟩ W;have h1:Γ ((45:UInt8)::r) [45]=true:=by simp[Γ]
 have h2:χ ((45:UInt8)::r) [45]=r:=by unfold χ;rw[h1];rfl
 rw[show(⟨((45:UInt8)::r).toArray⟩:ByteArray).data.toList=45::r from rfl,show(⟨#[45]⟩:ByteArray).data.toList=[45]from rfl,h1,h2]at this;exact this
theorem WW (l:List UInt8)(W:ν)(h:¬l.head?=some 45):
 υ prog 71 #[η ⟨l.toArray⟩, η ⟨#[45]⟩] W fun E w'=>E= δ (.tuple #[η ⟨l.toArray⟩, .bool false])∧w'=W:=by
 have:=Tryz.strings_CutPrefix ⟨l.toArray⟩ ⟨#[45]⟩ W;have h1:Γ l [45]=false:=by
  cases l with
  |nil=>rfl
  |cons a r=>
   have:¬a=45:=fun e=>h (by simp[e]);show((45:UInt8)==a&&([]:List UInt8).isPrefixOf r)=false;rw[φ];left;rw[beq_eq_false_iff_ne];exact fun e=>this (Eq.symm e)
 have h2:χ l [45]=l:=by unfold χ;rw[h1];rfl
 rw[show(⟨l.toArray⟩:ByteArray).data.toList=l from rfl,show(⟨#[45]⟩:ByteArray).data.toList=[45]from rfl,h1,h2]at this;exact this
theorem NY (l:List UInt8)(h:cO l=true):0≤bU l∧bU l≤9999999:=BM l h
theorem oX (l:List UInt8)(most x:Int)(w:ν)(hl:l.length≤maxLen):
 υ prog 210 #[η ⟨l.toArray⟩, V Z most, V Z x] w fun E w'=>E=Em l most x∧w=w':=by
 by_cases hh:l.head?=some 45
 ·obtain⟨r,rfl⟩:∃r,l=45::r:=by
   cases l with
   |nil=>simp at hh
   |cons a r=>exact⟨r,by simp at hh;rw[hh]⟩
  have cp:=fun W=>UE r W;have kn:=fun W=>iQ r 1 most x W (by simp at hl;omega);have hs:cT (45::r) most=if within r most then -(bU r)else 0:=by unfold cT;rw[if_pos (by rfl)];rfl
  cases hw:lP r 1 most
  ·rw[uz hw]at kn;rw[Br (by rw[hs,mA,hw];rfl)];have D:=ad kn;have CP:=ad cp;clear kn hw hs hh hl cp;go_enter func210,ntmps210;go_wp2_with (first
    |(go_at_call 71;refine(CP.out _).mono ?_;rintro e u ⟨rfl,rfl⟩)
    |(go_at_call 142;refine(D.out _).mono ?_;rintro e w' ⟨rfl,rfl⟩))
   exact⟨rfl,rfl,rfl⟩
  ·rw[xS hw]at kn;have hb:cO r=true:=by unfold lP at hw;simp at hw;exact hw.1.1
   have h1:1≤bU r:=by unfold lP at hw;simp at hw;exact hw.1.2
   have h2:=NY r hb;have qX:cT (45::r) most=-(bU r):=by rw[hs,mA,hw];rfl
   rw[xT (by rw[qX];omega),qX];have D:=ad kn;have CP:=ad cp;clear kn hw hs hh hl cp hb qX;go_enter func210,ntmps210;go_wp2_with (first
    |(go_at_call 71;refine(CP.out _).mono ?_;rintro e u ⟨rfl,rfl⟩)
    |(go_at_call 142;refine(D.out _).mono ?_;rintro e w' ⟨rfl,rfl⟩))
   go_ret;exact⟨rfl,rfl⟩
 ·have cp:=fun W=>WW l W hh;have kn:=fun W=>iQ l 1 most x W hl;have hs:cT l most=if within l most then bU l else 0:=by unfold cT;rw[if_neg hh]
  cases hw:lP l 1 most
  ·rw[uz hw]at kn;rw[Br (by rw[hs,mA,hw];rfl)];have D:=ad kn;have CP:=ad cp;clear kn hw hs hh hl cp;go_enter func210,ntmps210;go_wp2_with (first
    |(go_at_call 71;refine(CP.out _).mono ?_;rintro e u ⟨rfl,rfl⟩)
    |(go_at_call 142;refine(D.out _).mono ?_;rintro e w' ⟨rfl,rfl⟩))
   exact⟨rfl,rfl,rfl⟩
  ·rw[xS hw]at kn;have hb:cO l=true:=by unfold lP at hw;simp at hw;exact hw.1.1
   have h1:1≤bU l:=by unfold lP at hw;simp at hw;exact hw.1.2
   have qX:cT l most=bU l:=by rw[hs,mA,hw];rfl
   rw[xT (by rw[qX];omega),qX];have D:=ad kn;have CP:=ad cp;clear kn hw hs hh hl cp hb qX h1;go_enter func210,ntmps210;go_wp2_with (first
    |(go_at_call 71;refine(CP.out _).mono ?_;rintro e u ⟨rfl,rfl⟩)
    |(go_at_call 142;refine(D.out _).mono ?_;rintro e w' ⟨rfl,rfl⟩))
   go_ret;exact⟨rfl,rfl⟩
def zi (s:ByteArray)(x:Int):Ending:=if gJ s=true then δ (η s)else ε (bN x)
theorem aaS {s:ByteArray}{x:Int}(h:gJ s=true):zi s x= δ (η s):=by unfold zi;rw[if_pos h]
theorem M6 {s:ByteArray}{x:Int}(h:gJ s=false):zi s x= ε (bN x):=by unfold zi;rw[if_neg (by rw[h];exact ξ)]
theorem UF (s:ByteArray)(w:ν)(hs:s.size≤281474976710656):
 υ prog 132 #[η s] w fun E w'=>E= δ (η s)∧Below w.heap.size w w':=by
 have C:=Tryz.stringslite_Clone s w hs;go_enter func132,ntmps132;go_wp2_with (go_at_call 205;refine C.mono ?_;rintro e w' ⟨rfl,hb⟩);go_ret;exact⟨rfl,hb⟩
theorem JM (s:ByteArray)(x:Int)(w:ν)(hs:s.size≤maxLen):
 υ prog 75 #[η s, V Z x] w fun E w'=>E=zi s x∧Below w.heap.size w w':=by
 unfold maxLen at hs;by_cases h1:1≤s.size
 case neg=>
  have h0:s.size=0:=by omega
  obtain rfl:s=⟨#[]⟩:=by
   apply ByteArray.ext;exact Array.eq_empty_of_size_eq_zero h0
  rw[M6 (by rfl)];clear h0 h1 hs;go_enter func75,ntmps75;go_wp2_with (go_at_call_of 65 (μ false);refine(aM _ _).mono ?_;rintro e w' ⟨rfl,rfl⟩);exact⟨rfl,rfl,ι _ _⟩
 have di:(s.toList==[])=false:=by
  rw[θ,beq_eq_false_iff_ne];intro e;have h3:s.data.toList.length=0:=by rw[e];rfl
  rw[π]at h3;have h2:s.data.size=s.size:=rfl;omega
 by_cases tc:s.size≤12
 case neg=>
  rw[M6 (by unfold gJ;simp;intros;omega)];have aii:¬(s.size:Int)≤12:=by omega
  go_enter func75,ntmps75;go_wp2_with (go_at_call_of 65 (μ false);refine(aM _ _).mono ?_;rintro e w' ⟨rfl,rfl⟩);exact⟨rfl,rfl,ι _ _⟩
 have aii:(s.size:Int)≤12:=by omega
 go_enter func75,ntmps75;go_wp2_with (go_at_call_of 65 (μ true);refine(aF _ _).mono ?_;rintro e w' ⟨rfl,rfl⟩);go_loop [17] (fun i=>∃k:Nat,k≤s.size∧i= V Z (k:Int)∧ψ ((s.data.toList.take k).all oW=true)) (fun i=>s.size - (intOf i).toNat)
 case atStart=>exact⟨0,by omega,rfl,ad (by simp)⟩
 case round=>
  obtain⟨k,hk,rfl,bT⟩:=hrel;by_cases ay:k<s.size
  case neg=>
   have fB:k=s.size:=by omega
   subst fB;have h2:=bT.out;rw[Ec]at h2;have E:=ad (aaS (x:=x) (show gJ s=true by unfold gJ;rw[h2];simp[h1,tc]));clear h2 bT;have C:=ad (UF s w (by omega));go_wp2_with (go_at_call 132;refine(C.out).mono ?_;rintro e w2 ⟨rfl,hb⟩);go_ret;exact⟨by rw[E.out];rfl,hb⟩
  case pos=>
   cases hn:oW s[k]
   case false=>
    have e:gJ s=false:=by
     unfold gJ;rw[φ];left;rw[φ];left;rw[List.all_eq_false];exact⟨s[k],Jz s k ay,by rw[hn];exact ξ⟩
    have E:=ad (M6 (x:=x) e);clear bT e;unfold oW at hn;rw[Bool.or_eq_false_iff]at hn;obtain⟨n1,n2⟩:=hn;by_cases a:97≤(s[k].toNat:Int)
    ·have b:decide ((s[k].toNat:Int)≤122)=false:=by rw[decide_eq_true a,Bool.true_and]at n1;exact n1
     clear n1;go_wp2_with (first
      |(go_at_call 131;refine(ly _ _).mono ?_;rintro e w' ⟨rfl,rfl⟩;rw[n2])
      |(go_at_call_of 65 (μ false);refine(aM _ _).mono ?_;rintro e w' ⟨rfl,rfl⟩))
     exact⟨rfl,by rw[E.out],ι _ _⟩
    ·have a':decide (97≤(s[k].toNat:Int))=false:=by simpa using a
     clear n1;go_wp2_with (first
      |(go_at_call 131;refine(ly _ _).mono ?_;rintro e w' ⟨rfl,rfl⟩;rw[n2])
      |(go_at_call_of 65 (μ false);refine(aM _ _).mono ?_;rintro e w' ⟨rfl,rfl⟩))
     exact⟨rfl,by rw[E.out],ι _ _⟩
   case true=>
    have Zx:ψ ((s.data.toList.take (k+1)).all oW=true):=ad (by rw[Bq s k ay];simp[bT.out,hn]);clear bT;unfold oW at hn;cases n2:(decide (48≤(s[k].toNat:Int))&&decide ((s[k].toNat:Int)≤57))
    ·rw[n2,Bool.or_false,τ,decide_eq_true_eq,decide_eq_true_eq]at hn;obtain⟨a,b⟩:=hn;go_wp2_with (first
      |(go_at_call 131;refine(ly _ _).mono ?_;rintro e w' ⟨rfl,rfl⟩;rw[n2])
      |(go_at_call_of 65 (μ true);refine(aF _ _).mono ?_;rintro e w' ⟨rfl,rfl⟩))
     exact⟨⟨k+1,by omega,by go_num,Zx⟩,by simp[intOf];omega⟩
    ·clear hn;go_wp2_with (first
      |(go_at_call 131;refine(ly _ _).mono ?_;rintro e w' ⟨rfl,rfl⟩;rw[n2])
      |(go_at_call_of 65 (μ true);refine(aF _ _).mono ?_;rintro e w' ⟨rfl,rfl⟩))
     exact⟨⟨k+1,by omega,by go_num,Zx⟩,by simp[intOf];omega⟩
theorem aa2 (v o:ByteArray)(w:ν):υ prog 134 #[.agg #[η v, .bool true], η o] w fun E w'=>E= δ (η v)∧Below w.heap.size w w':=by
 go_enter func134,ntmps134;go_wp2;go_ret;exact⟨rfl,(ι _ _).alloc (κ _) _⟩
theorem aeC (v o:ByteArray)(w:ν):υ prog 134 #[.agg #[η v, .bool false], η o] w fun E w'=>E= δ (η o)∧Below w.heap.size w w':=by
 go_enter func134,ntmps134;go_wp2;go_ret;exact⟨rfl,(ι _ _).alloc (κ _) _⟩
theorem fj {P:Program}{ops:Array Oper}{rest:List Oper}{o:Oper}{a:Act}{Q:Exit→Act→ν→Prop}{w wr:ν}{obj:Obj}(ix:o.guard=none)(s x:Operand)(t e:Δ)(z:Value)(bytes:Nat)
 (ho:o.op= .call {callee:= .builtin .append,args:=#[s,x],argTypes:=#[t,t]})(hu:P.underlying t=some (.slice e))
 (kN:(P.info? e).map (fun i=>(i.zero,i.size,i.bytes))=some (some z,1,bytes))(hz:z.cells.size=1)(B:Nat)(v:Value)(n:Nat)(xs:List Value)(hs:a.eval s=v)
 (aw:wr.ownsRow B e 1 v n xs)(aX:Below B w wr)(hB:B≤wr.heap.size)(y:Value)(hy:y.oneCell'=true)(hx:a.eval x= ζ (some ⟨wr.heap.size,0,none⟩) 1 1)
 (hc:(wr.alloc obj).cell? ⟨wr.heap.size,0,none⟩=some y)(hn:n≤4194304)(gC:bytes≤64)
 (h:∀v' w1,w1.ownsRow B e 1 v' (n+1) (xs++[y])→Below B w w1→B≤w1.heap.size→wpList P ops Q rest (a.put o.dst v') w1):wpList P ops Q (o::rest) a (wr.alloc obj):=by
 obtain⟨i0,hi,fH,eP,fb⟩:=info_parts kN;refine wpList_append_own _ ix s x t ho B e i0 z 1 bytes hu hi fH eP fb hz (by decide) v n xs hs (aw.alloc _) ⟨wr.heap.size,0,none⟩ 1 1 [y] hx rfl ?_ ?_ ?_ ?_ ?_ ?_
 ·intro j u hj
  match j,hj with
  |0,hj=>simp at hj;subst hj;exact hc
 ·intro u hu;simp at hu;subst hu;exact hy
 ·unfold maxLen;omega
 ·have:(n+1) * bytes≤4194305 * 64:=Nat.mul_le_mul (by omega) gC;omega
 ·simp;omega
 ·intro v' w1 dj eJ _;have R:=oT hB aw aX dj eJ;exact h v' w1 R.1 R.2 (by have:=eJ.size;simp at this;omega)
def eE (n:Int):Bool→List Int→List Int
 |d,[]=>if d=true then[]else[n]
 |d,a::r=>(if d=false∧n≤a then[n]else[])++(if a=n then[]else[a])++eE n (d||decide (n≤a)) r
def cF (w:ν)(v:Value)(zs:List Int):Prop:=
 zs.length≤1048576∧((v= ζ none 0 0∧zs=[])∨∃g off cap,v= ζ (some ⟨g,off,none⟩) zs.length cap∧g<w.heap.size∧∀j,j<zs.length→w.cell? ⟨g,off+j,none⟩=some (V Z (zs.getD j 0)))
theorem Xa (n:Int)(d:Bool)(zs:List Int)(k:Nat)(h:k<zs.length):
 eE n d (zs.drop k)=(if d=false∧n≤zs.getD k 0 then[n]else[])++(if zs.getD k 0=n then[]else[zs.getD k 0])++eE n (d||decide (n≤zs.getD k 0)) (zs.drop (k+1)):=by
 rw[List.drop_eq_getElem_cons h,eE];simp[Ζ,h]
theorem UG (g off cap:Nat)(zs:List Int)(n:Int)(w:ν)(hz:zs.length≤1048576)(hg:g<w.heap.size)(hc:∀j,j<zs.length→w.cell? ⟨g,off+j,none⟩=some (V Z (zs.getD j 0))):
 υ prog 248 #[ζ (some ⟨g,off,none⟩) zs.length cap, V Z n] w fun e w'=>∃v,e= δ v∧w'.ownsRow w.heap.size 3 1 v (eE n false zs).length ((eE n false zs).map (Β Z))∧Below w.heap.size w w':=by
 have HC:=ad hc;clear hc;go_enter func248,ntmps248;go_wp2;go_loopw [5,6,7] (fun v d i wr=>∃(k:Nat) (b:Bool) (ys:List Int),k≤zs.length∧i= V Z k∧d= .bool b∧ys.length≤2 * k∧wr.ownsRow w.heap.size 3 1 v ys.length (ys.map (Β Z))∧Below w.heap.size w wr∧ψ (eE n false zs=ys++eE n b (zs.drop k)))
  (fun _ _ i _=>zs.length - (intOf i).toNat)
 case atStart=>exact⟨0,false,[],Α _,rfl,rfl,by simp,World.ownsRow_nil _ _ _ _,ι _ _,ad (by simp)⟩
 case round=>
  obtain⟨k,b,ys,hk,rfl,rfl,oK,aw,aX,HP⟩:=hrel;have hB:=aX.size;by_cases ay:k<zs.length
  case neg=>
   have fB:k=zs.length:=by omega
   subst fB;cases b
   case true=>
    have HE:ψ (eE n false zs=ys):=ad (by have:=HP.out;rw[Ε]at this;simpa[eE]using this);clear HP;go_wp2;go_ret;exact⟨_,rfl,by rw[HE.out];exact aw,aX⟩
   case false=>
    have HE:ψ (eE n false zs=ys++[n]):=ad (by have:=HP.out;rw[Ε]at this;simpa[eE]using this);clear HP;go_wp2_with (at_builtin;refine fj rfl (.tmp 43) (.tmp 45) 54 3 _ 8 rfl underlying54 eu rfl w.heap.size _ _ _ rfl aw aX hB (V Z n) rfl rfl (by simp) (by omega) (by decide) ?_;intro v' w1 kW nC _);go_ret;exact⟨_,rfl,by rw[HE.out];simpa using kW,nC⟩
  case pos=>
   have cR:wr.cell? ⟨g,off+k,none⟩=some (V Z (zs.getD k 0)):=by rw[aX.cell (p:=⟨g,off+k,none⟩) hg];exact HC.out k ay
   obtain⟨z,zv⟩:∃z,z=zs.getD k 0:=⟨_,rfl⟩;have cM:=Xa n b zs k ay;rw[←zv]at cR cM;clear zv;by_cases mW:b=false∧n≤z
   case pos=>
    obtain⟨rfl,hn⟩:=mW;by_cases he:z=n
    case pos=>
     have HN:ψ (eE n false zs=(ys++[n])++eE n true (zs.drop (k+1))):=ad (by rw[HP.out,cM,if_pos ⟨rfl,hn⟩,if_pos he];simp[hn]);have g1:(z !=n)=false:=by simp[he]
     clear HP cM he;go_wp2_with (at_builtin;refine fj rfl (.tmp 24) (.tmp 26) 54 3 _ 8 rfl underlying54 eu rfl w.heap.size _ _ _ rfl aw aX hB (V Z n) rfl rfl (by simp) (by omega) (by decide) ?_;intro v' w1 kW nC Cv;have oY:w1.cell? ⟨g,off+k,none⟩=some (V Z z):=(nC.cell (p:=⟨g,off+k,none⟩) hg).trans ((aX.cell (p:=⟨g,off+k,none⟩) hg).symm.trans cR));go_roundw
     case rel=>exact⟨k+1,true,ys++[n],by omega,by go_num,rfl,by simp;omega,by simpa using kW,nC,HN⟩
     case measure=>simp[intOf];omega
    case neg=>
     have HN:ψ (eE n false zs=((ys++[n])++[z])++eE n true (zs.drop (k+1))):=ad (by rw[HP.out,cM,if_pos ⟨rfl,hn⟩,if_neg he];simp[hn]);have g1:(z !=n)=true:=by simpa using he
     clear HP cM he;go_wp2_with (first
      |(at_builtin;refine fj rfl (.tmp 24) (.tmp 26) 54 3 _ 8 rfl underlying54 eu rfl w.heap.size _ _ _ rfl aw aX hB (V Z n) rfl rfl (by simp) (by omega) (by decide) ?_;intro v' w1 kW nC Cv;have oY:w1.cell? ⟨g,off+k,none⟩=some (V Z z):=(nC.cell (p:=⟨g,off+k,none⟩) hg).trans ((aX.cell (p:=⟨g,off+k,none⟩) hg).symm.trans cR))
      |(at_builtin;refine fj rfl (.tmp 34) (.tmp 39) 54 3 _ 8 rfl underlying54 eu rfl w.heap.size _ _ _ rfl kW nC Cv (V Z z) rfl rfl (by simp) (by omega) (by decide) ?_;intro v2 w2 zb M7 _))
     go_roundw
     case rel=>exact⟨k+1,true,(ys++[n])++[z],by omega,by go_num,rfl,by simp;omega,by simpa using zb,M7,HN⟩
     case measure=>simp[intOf];omega
   case neg=>
    have iZ:(b||decide (n≤z))=b:=by
     cases b
     ·have:¬n≤z:=fun h=>mW ⟨rfl,h⟩;simp[this]
     ·rfl
    by_cases he:z=n
    case pos=>
     have HN:ψ (eE n false zs=ys++eE n b (zs.drop (k+1))):=ad (by rw[HP.out,cM,if_neg mW,if_pos he,iZ];simp);have g1:(z !=n)=false:=by simp[he]
     clear HP cM iZ;cases b
     ·exact absurd ⟨rfl,by omega⟩ mW
     ·clear mW he;go_wp2;go_roundw
      case rel=>exact⟨k+1,true,ys,by omega,by go_num,rfl,by omega,aw,aX,HN⟩
      case measure=>simp[intOf];omega
    case neg=>
     have HN:ψ (eE n false zs=(ys++[z])++eE n b (zs.drop (k+1))):=ad (by rw[HP.out,cM,if_neg mW,if_neg he,iZ];simp);have g1:(z !=n)=true:=by simpa using he
     clear HP cM iZ;cases b
     ·have hn:z<n:=by have:¬n≤z:=fun h=>mW ⟨rfl,h⟩;omega
      clear mW he;go_wp2_with (at_builtin;refine fj rfl (.tmp 34) (.tmp 39) 54 3 _ 8 rfl underlying54 eu rfl w.heap.size _ _ _ rfl aw aX hB (V Z z) rfl rfl (by simp) (by omega) (by decide) ?_;intro v2 w2 zb M7 _);go_roundw
      case rel=>exact⟨k+1,false,ys++[z],by omega,by go_num,rfl,by simp;omega,by simpa using zb,M7,HN⟩
      case measure=>simp[intOf];omega
     ·clear mW he;go_wp2_with (at_builtin;refine fj rfl (.tmp 34) (.tmp 39) 54 3 _ 8 rfl underlying54 eu rfl w.heap.size _ _ _ rfl aw aX hB (V Z z) rfl rfl (by simp) (by omega) (by decide) ?_;intro v2 w2 zb M7 _);go_roundw
      case rel=>exact⟨k+1,true,ys++[z],by omega,by go_num,rfl,by simp;omega,by simpa using zb,M7,HN⟩
      case measure=>simp[intOf];omega
theorem Po (n:Int)(zs:List Int):∀d:Bool,(eE n d zs).length+(if d=true then 1 else 0)≤zs.length+1:=by
 induction zs with
 |nil=>intro d;cases d<;>simp[eE]
 |cons a r ih=>
  intro d;rw[eE];have h1:=ih true;have h2:=ih false;cases d
  ·by_cases hn:n≤a
   ·by_cases he:a=n<;>simp[hn,he]at * <;>omega
   ·by_cases he:a=n<;>simp[hn,he]at * <;>omega
  ·by_cases he:a=n<;>simp[he]at * <;>omega
theorem eV {w:ν}{B B':Nat}{e:Δ}{v:Value}{n:Nat}{xs:List Value}(h:w.ownsRow B e 1 v n xs)(hB:B'≤B):w.ownsRow B' e 1 v n xs:=
 ⟨h.1,h.2.elim .inl fun⟨g,cap,cur,h1,h2,h3⟩=> .inr ⟨g,cap,cur,h1,Nat.le_trans hB h2,h3⟩⟩
theorem dY {w w':ν}{B:Nat}{e:Δ}{v:Value}{n:Nat}{xs:List Value}(h:w.ownsRow B e 1 v n xs)(hk:∀g,g<w.heap.size→B≤g→w'.heap[g]?=w.heap[g]?):w'.ownsRow B e 1 v n xs:=
 ⟨h.1,h.2.elim .inl fun⟨g,cap,cur,h1,h2,h3,h4⟩=> .inr ⟨g,cap,cur,h1,h2,(hk g (Array.getElem?_eq_some_iff.1 h3).1 h2).trans h3,h4⟩⟩
theorem Gi {w:ν}{B p k:Nat}{e:Δ}{v y:Value}{n:Nat}{xs:List Value}(h:w.ownsRow B e 1 v n xs)(hp:p<B):(w.setCell ⟨p,k,none⟩ y).ownsRow B e 1 v n xs:=
 dY h fun g _ hg=>Below.heap_setCell _ _ _ _ (show g≠p by omega)
theorem ky {w:ν}{B:Nat}{e:Δ}{v:Value}{n:Nat}{xs:List Value}(h:w.ownsRow B e 1 v n xs):
 (v= ζ none 0 0∧xs=[])∨∃g cap,v= ζ (some ⟨g,0,none⟩) n cap∧B≤g∧g<w.heap.size∧∀j y,xs[j]?=some y→w.cell? ⟨g,j,none⟩=some y:=by
 obtain⟨hl,h|⟨g,cap,cur,hv,hb,hh,IF,mS,bu,ht⟩⟩:=h
 ·exact .inl ⟨h.1,ω (by rw[hl,h.2])⟩
 ·refine .inr ⟨g,cap,hv,hb,?_,fun j y hj=>?_⟩
  ·exact(Array.getElem?_eq_some_iff.1 hh).1
  ·rw[←ht]at hj;have h2:=List.getElem?_eq_some_iff.1 hj;obtain⟨ay,he⟩:=h2;rw[List.length_take]at ay;rw[List.getElem_take]at he;unfold World.cell?;rw[hh];simp only[Option.isSome_none,Bool.false_eq_true,if_false];rw[Array.getElem?_eq_getElem (by have:=Nat.min_le_right (n * 1) cur.toList.length;rw[π]at this;omega)];rw[←he];rfl
theorem kP {w:ν}{B:Nat}{v:Value}{zs:List Int}{e:Δ}(h:w.ownsRow B e 1 v zs.length (zs.map (Β Z)))(hz:zs.length≤1048576):cF w v zs:=by
 refine⟨hz,?_⟩;rcases ky h with⟨hv,hn⟩|⟨g,cap,hv,_,hg,hc⟩
 ·exact .inl ⟨hv,by simpa using hn⟩
 ·refine .inr ⟨g,0,cap,hv,hg,fun j hj=>?_⟩;rw[Nat.zero_add];refine hc j _ ?_;rw[List.getElem?_map,List.getElem?_eq_getElem hj];simp[Ζ,hj]
theorem cF.on {w w':ν}{v:Value}{zs:List Int}(h:cF w v zs)(hb:Below w.heap.size w w'):cF w' v zs:=by
 refine⟨h.1,?_⟩;rcases h.2 with h|⟨g,off,cap,hv,hg,hc⟩
 ·exact .inl h
 ·exact .inr ⟨g,off,cap,hv,Nat.lt_of_lt_of_le hg hb.size,fun j hj=>by rw[hb.cell (p:=⟨g,off+j,none⟩) hg];exact hc j hj⟩
theorem Xb (n:Int)(w:ν):
 υ prog 248 #[ζ none 0 0, V Z n] w fun e w'=>∃v,e= δ v∧w'.ownsRow w.heap.size 3 1 v 1 [V Z n]∧Below w.heap.size w w':=by
 go_enter func248,ntmps248;go_wp2;go_loopw [5,6,7] (fun v d i wr=>v= ζ none 0 0∧d= .bool false∧i= V Z 0∧wr=w) (fun _ _ _ _=>0)
 case atStart=>exact⟨rfl,rfl,rfl,rfl⟩
 case round=>
  obtain⟨rfl,rfl,rfl,rfl⟩:=hrel;have aw:=World.ownsRow_nil wr wr.heap.size 3 1;have aX:=ι wr.heap.size wr;go_wp2_with (at_builtin;refine fj rfl (.tmp 43) (.tmp 45) 54 3 _ 8 rfl underlying54 eu rfl wr.heap.size _ _ _ rfl aw aX (κ _) (V Z n) rfl rfl (by simp) (by omega) (by decide) ?_;intro v' w1 kW nC _);go_ret;exact⟨_,rfl,kW,nC⟩
theorem MA (v:Value)(zs:List Int)(n:Int)(w:ν)(h:cF w v zs):
 υ prog 248 #[v, V Z n] w fun e w'=>∃v',e= δ v'∧w'.ownsRow w.heap.size 3 1 v' (eE n false zs).length ((eE n false zs).map (Β Z))∧Below w.heap.size w w':=by
 obtain⟨hz,⟨rfl,rfl⟩|⟨g,off,cap,rfl,hg,hc⟩⟩:=h
 ·exact Xb n w
 ·exact UG g off cap zs n w hz hg hc
end Go.Proofs.YthpndgcaoeokeaaGreatDoor
