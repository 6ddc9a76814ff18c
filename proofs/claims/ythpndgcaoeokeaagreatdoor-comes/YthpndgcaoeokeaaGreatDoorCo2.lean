import Derived.Test.YthpndgcaoeokeaaGreatDoorCo1
import Derived.Laws.Panics
import Derived.ChangeKeysEq
import Derived.Deep.RegionHeld3
import Derived.Deep.DrawnRows
set_option maxRecDepth 100000
set_option maxHeartbeats 8000000
open Go.IntKind renaming i64→Z
open Go.Value renaming int→V
open Go.Ending renaming returned→δ
open Go.Obj renaming cells→ε
open Nat renaming le_refl→ζ,zero_add→π
open Go.RowKit.Below renaming refl→η
open ByteArray renaming size_extract→θ
open Go renaming World→ι,Calls→μ
open Bool renaming false_ne_true→κ,and_eq_true→ο
open Array renaming length_toList→ν
open List renaming eq_nil_of_length_eq_zero→ξ
namespace Go.Proofs.YthpndgcaoeokeaaGreatDoor
open Tryz
open Go.RowKit
def oN (u:Nat):Int:=match u with|0=>86400|1=>3600|2=>60|_=>1
def cu (u:Nat)(c:UInt8):Nat:=
 if u≤0∧c.toNat=68 then 0 else if u≤1∧c.toNat=72 then 1 else if u≤2∧c.toNat=77 then 2 else if u≤3∧c.toNat=83 then 3 else 4
def cK:List UInt8→List UInt8→Nat→Bool→Int→Nat→Option Int
 |[],cur,_,_,sum,parts=>if parts=0∨cur≠[]then none else some sum
 |c::rest,cur,u,times,sum,parts=>
  if ez c=true then cK rest (cur++[c]) u times sum parts
  else if c.toNat=84 then(if times=true∨cur≠[]∨rest=[]then none else cK rest [] 1 true sum parts)
  else if cO cur=false∨cu u c=4∨decide (0<cu u c)≠times then none
  else cK rest [] (cu u c+1) times (sum+bU cur * oN (cu u c)) (parts+1)
def fN:List UInt8→Option Int
 |c::rest=>if c.toNat=80 then cK rest [] 0 false 0 0 else none
 |[]=>none
def zT (o:Option Int):Value:=match o with|some n=> .tuple #[V Z n, V Z 0]|none=> .tuple #[V Z 0, V Z 1]
theorem BM (l:List UInt8)(h:cO l=true):0≤bU l∧bU l≤9999999:=by
 simp only[cO,ο,decide_eq_true_eq]at h;have hs:=h.1;unfold bU;rw[if_pos hs];simp only[kG,ο,decide_eq_true_eq]at hs;have:=N9 l 7 hs.1.2;exact⟨h.2,by omega⟩
theorem bP (s:ByteArray)(a b:Nat):(s.extract a b).data.toList=cut s a (b - a):=by
 unfold cut;simp[ByteArray.data_extract]
theorem drop_cons (s:ByteArray)(i:Nat)(h:i<s.size):s.data.toList.drop i=(s[i]'h)::s.data.toList.drop (i+1):=by
 have e:s.data.size=s.size:=rfl;rw[List.drop_eq_getElem_cons (by rw[ν];omega)];rfl
theorem Lf (u:Nat)(c:UInt8)(h:u≤4):u≤cu u c∧cu u c≤4:=by
 unfold cu;repeat' split
 all_goals omega
def na (u:Nat):Int:=match u with|0=>68|1=>72|2=>77|_=>83
theorem rr (u:Nat)(c:UInt8)(h:u<4)(hc:¬(na u=(c.toNat:Int))):cu (u+1) c=cu u c:=by
 have:u=0∨u=1∨u=2∨u=3:=by omega
 rcases this with r|r|r|r<;>subst r<;>simp[na]at hc<;>unfold cu<;>(repeat' split)<;>omega
theorem ru (u:Nat)(c:UInt8)(h:u<4)(hc:na u=(c.toNat:Int)):cu u c=u:=by
 have:u=0∨u=1∨u=2∨u=3:=by omega
 rcases this with r|r|r|r<;>subst r<;>simp[na]at hc<;>unfold cu<;>(repeat' split)<;>omega
theorem Qm (c:UInt8):cu 4 c=4:=by simp[cu]
theorem Ci (s:ByteArray)(f i:Nat)(h1:f≤i)(h2:i≤s.size):(cut s f (i - f)=[])↔f=i:=by
 have:=kF s f (i - f) (by omega);constructor
 ·intro q;rw[q]at this;simp at this;omega
 ·intro q;apply ξ;omega
theorem An (s:ByteArray)(i:Nat):(s.data.toList.drop i=[])↔s.size≤i:=by
 rw[List.drop_eq_nil_iff,ν];exact Iff.rfl
theorem ZY (s:ByteArray)(f i u parts:Nat)(times:Bool)(sum:Int)(h1:f≤i)(h2:i=s.size):
 cK (s.data.toList.drop i) (cut s f (i - f)) u times sum parts=if parts=0∨f≠i then none else some sum:=by
 rw[(An s i).2 (by omega)];unfold cK;simp only[ne_eq,Ci s f i h1 (by omega)]
theorem ZZ (s:ByteArray)(f i u parts:Nat)(times:Bool)(sum:Int)(h1:f≤i)(h2:i<s.size)(h:ez s[i]=true):
 cK (s.data.toList.drop i) (cut s f (i - f)) u times sum parts=cK (s.data.toList.drop (i+1)) (cut s f (i+1 - f)) u times sum parts:=by
 rw[drop_cons s i h2];have e:=px s f (i - f) (by omega);have e2:f+(i - f)=i:=by omega
 rw[show i+1 - f=i - f+1 from by omega,e];simp only[e2]
 conv=>lhs;unfold cK
 rw[if_pos h]
theorem aeP (s:ByteArray)(f i u parts:Nat)(times:Bool)(sum:Int)(h1:f≤i)(h2:i<s.size)(h:ez s[i]=false)(hT:s[i].toNat=84):
 cK (s.data.toList.drop i) (cut s f (i - f)) u times sum parts=if times=true∨f≠i∨i+1=s.size then none else cK (s.data.toList.drop (i+1)) [] 1 true sum parts:=by
 rw[drop_cons s i h2]
 conv=>lhs;unfold cK
 rw[if_neg (by rw[h];exact κ),if_pos hT];have e:(s.data.toList.drop (i+1)=[])↔i+1=s.size:=by rw[An];omega
 simp only[ne_eq,Ci s f i h1 (by omega),e]
theorem aeQ (s:ByteArray)(f i u parts:Nat)(times:Bool)(sum:Int)(h2:i<s.size)(h:ez s[i]=false)(hT:¬s[i].toNat=84):
 cK (s.data.toList.drop i) (cut s f (i - f)) u times sum parts=if cO (cut s f (i - f))=false∨cu u s[i]=4∨decide (0<cu u s[i])≠times then none
  else cK (s.data.toList.drop (i+1)) [] (cu u s[i]+1) times (sum+bU (cut s f (i - f)) * oN (cu u s[i])) (parts+1):=by
 rw[drop_cons s i h2]
 conv=>lhs;unfold cK
 rw[if_neg (by rw[h];exact κ),if_neg hT]
theorem cU (w:ι)(o:Obj)(q:Nat):Below w.heap.size w ((w.alloc o).drewN q):=by
 have h:=(η w.heap.size w).alloc (ζ _) o;exact⟨h.os,h.tape,h.output,h.size,h.block⟩
theorem sZ (s:ByteArray)(a:Nat):cut s a (a - a)=[]:=by simp[cut]
theorem zx (s:ByteArray)(w:ι)(hs:s.size≤maxLen):
 μ prog 110 #[.string s] w fun e w'=>e= δ (zT (fN s.data.toList))∧Below w.heap.size w w':=by
 have qX:=hs;unfold maxLen at hs;have e:s.data.size=s.size:=rfl;by_cases hz:s.size=0
 ·have hv:fN s.data.toList=none:=by
   have:s.data.toList=[]:=by apply ξ;rw[ν];omega
   rw[this];rfl
  rw[hv];have Kk:((s.size:Int)==0)=true:=by simp[hz]
  clear hz hv e;go_enter func110,ntmps110;go_wp2;go_ret2;exact⟨rfl,η _ _⟩
 have Kk:((s.size:Int)==0)=false:=by simp[hz]
 have z0:0<s.size:=by omega
 have hd:=drop_cons s 0 z0;rw[List.drop_zero]at hd;clear hz e;by_cases hp:((s[0]'z0).toNat:Int)=80
 case neg=>
  have hv:fN s.data.toList=none:=by rw[hd];show(if _ then _ else _)=_;rw[if_neg (by omega)]
  rw[hv];have zO:(((s[0]'z0).toNat:Int)!=80)=true:=by rw[bne_iff_ne];exact hp
  clear hp hv hd;go_enter func110,ntmps110;go_wp2;go_ret2;exact⟨rfl,η _ _⟩
 case pos=>
  have hv:fN s.data.toList=cK (s.data.toList.drop 1) [] 0 false 0 0:=by rw[hd];show(if _ then _ else _)=_;rw[if_pos (by omega)];simp
  rw[hv];have zO:(((s[0]'z0).toNat:Int)!=80)=false:=by simp[hp]
  clear hp hv hd;generalize hG:cK (s.data.toList.drop 1) [] 0 false 0 0=G;have HG:=ad hG;clear hG;go_enter func110,ntmps110;go_wp2;go_loopw [6,7,8,9,10,11] (fun t6 t7 t8 t9 t10 t11 wr=>∃(i f u parts:Nat) (times:Bool) (sum:Int) (q:Nat),1≤f∧f≤i∧i≤s.size∧u≤4∧parts≤u∧Hid (times=false→u≤1)∧0≤sum∧sum≤parts * 864000000000∧
   t6= V Z sum∧t7= V Z parts∧t8= V Z u∧t9= .bool times∧t10= V Z f∧t11= V Z i∧Hid (cK (s.data.toList.drop i) (cut s f (i - f)) u times sum parts=G)∧
   wr=(w.alloc (ε #[V Z 86400, V Z 3600, V Z 60, V Z 1] 238)).drewN q) (fun _ _ _ _ _ t11 _=>s.size - (intOf t11).toNat)
  case atStart=>exact⟨1,1,0,0,false,0,0,by omega,by omega,by omega,by omega,by omega,(fun _=>by omega),by omega,by omega,rfl,rfl,rfl,rfl,rfl,rfl,HG.out,rfl⟩
  case round=>
   obtain⟨i,f,u,parts,times,sum,q,f0,f1,i0,u0,p0,HT,s0,s1,rfl,rfl,rfl,rfl,rfl,rfl,HL,rfl⟩:=hrel;by_cases ay:i<s.size
   case neg=>
    have hi:i=s.size:=by omega
    have hE:=ZY s f i u parts times sum f1 hi;rw[HL.out]at hE;by_cases OL:parts=0
    ·have hG:Hid (G=none):=by rw[if_pos (.inl OL)]at hE;exact hE
     have mf:((parts:Int)==0)=true:=by simp[OL]
     clear hE HL HG OL HT hi;go_wp2;go_ret2;exact⟨by rw[hG.out];rfl,cU w _ q⟩
    ·have mf:((parts:Int)==0)=false:=by simp[OL]
     by_cases hf:f=i
     ·have hG:Hid (G=some sum):=by rw[if_neg (by omega)]at hE;exact hE
      have zq:((f:Int)!=(s.size:Int))=false:=by simp;omega
      clear hE HL HG OL HT hi hf;go_wp2;go_ret2;exact⟨by rw[hG.out];rfl,cU w _ q⟩
     ·have hG:Hid (G=none):=by rw[if_pos (.inr hf)]at hE;exact hE
      have zq:((f:Int)!=(s.size:Int))=true:=by rw[bne_iff_ne];omega
      clear hE HL HG OL HT hi hf;go_wp2;go_ret2;exact⟨by rw[hG.out];rfl,cU w _ q⟩
   case pos=>
    by_cases hd:ez s[i]=true
    case pos=>
     have Kj:=(pw _).1 hd;have hE:=ZZ s f i u parts times sum f1 ay hd;rw[HL.out]at hE;have HE:=ad hE.symm;clear hE HL HG hd;go_wp2;exact⟨⟨i+1,f,u,parts,times,sum,q,f0,by omega,by omega,u0,p0,HT,s0,s1,rfl,rfl,rfl,rfl,rfl,by go_num,HE,rfl⟩,by simp[intOf];omega⟩
    case neg=>
     have zK:ez s[i]=false:=by simpa using hd
     have hc:(s[i].toNat:Int)<48∨57<(s[i].toNat:Int):=by
      have:=mt (pw s[i]).2 hd;omega
     by_cases hT:s[i].toNat=84
     case pos=>
      have hE:=aeP s f i u parts times sum f1 ay zK hT;rw[HL.out]at hE;have c1:(48:Int)≤s[i].toNat:=by omega
      have c2:¬(s[i].toNat:Int)≤57:=by omega
      have c3:((s[i].toNat:Int)==84)=true:=by rw[hT];rfl
      clear hc hd zK hT HL HG;cases times
      case true=>
       have hG:Hid (G=none):=by rw[if_pos (.inl rfl)]at hE;exact hE
       clear hE HT;go_wp2;go_ret2;exact⟨by rw[hG.out];rfl,cU w _ q⟩
      case false=>
       by_cases hf:f=i
       case neg=>
        have hG:Hid (G=none):=by rw[if_pos (.inr (.inl hf))]at hE;exact hE
        have zq:((f:Int)!=(i:Int))=true:=by rw[bne_iff_ne];omega
        clear hE HT hf;go_wp2;go_ret2;exact⟨by rw[hG.out];rfl,cU w _ q⟩
       case pos=>
        have zq:((f:Int)!=(i:Int))=false:=by simp[hf]
        by_cases hl:i+1=s.size
        case pos=>
         have hG:Hid (G=none):=by rw[if_pos (.inr (.inr hl))]at hE;exact hE
         have mN:((i:Int)==(s.size:Int) - 1)=true:=by rw[beq_iff_eq];omega
         clear hE HT hf hl;go_wp2;go_ret2;exact⟨by rw[hG.out];rfl,cU w _ q⟩
        case neg=>
         have HE:Hid (cK (s.data.toList.drop (i+1)) (cut s (i+1) (i+1 - (i+1))) 1 true sum parts=G):=by
          rw[if_neg (by rintro(q|q|q)<;>simp_all)]at hE;rw[sZ];exact hE.symm
         have mN:((i:Int)==(s.size:Int) - 1)=false:=by rw[beq_eq_false_iff_ne];omega
         have hu:=HT.out rfl;clear hE HT hf hl;go_wp2;exact⟨⟨i+1,i+1,1,parts,true,sum,q,by omega,by omega,by omega,by omega,by omega,(fun h=>by cases h),s0,s1,rfl,rfl,rfl,rfl,by go_num,by go_num,HE,rfl⟩,by simp[intOf];omega⟩
     case neg=>
      have hE:=aeQ s f i u parts times sum ay zK hT;rw[HL.out]at hE;have c3:((s[i].toNat:Int)==84)=false:=by rw[beq_eq_false_iff_ne];omega
      have OM:=BM (cut s f (i - f));have hx:=bP s f i;have Yk:(s.extract f i).size≤maxLen:=by
       have:(s.extract f i).size≤s.size:=by simp[θ];omega
       omega
      clear hd zK hT HL HG;generalize hN:bU (cut s f (i - f))=nn at *
      generalize hB:cO (cut s f (i - f))=b at *
      have HX:=ad hx;have HN:=ad hN;have HB:=ad hB;have HE:=ad hE;have HM:=ad OM;clear hx hE OM hN hB;rcases hc with hc|hc
      all_goals
       go_wp2_with (go_at_call 185;refine(qG _ _ Yk).mono ?_;rintro e w' ⟨rfl,rfl⟩;rw[HX.out,HN.out,HB.out]);go_loopw [8] (fun t wr=>∃(k q':Nat),u≤k∧k≤4∧t= V Z k∧Hid (cu k s[i]=cu u s[i])∧wr=(w.alloc (ε #[V Z 86400, V Z 3600, V Z 60, V Z 1] 238)).drewN q') (fun t _=>4 - (intOf t).toNat)
       case atStart=>exact⟨u,q,by omega,u0,rfl,rfl,rfl⟩
       case round=>
        obtain⟨k,q',k0,k1,rfl,HK,rfl⟩:=hrel;have hk:k=4∨k=0∨k=1∨k=2∨k=3:=by omega
        rcases hk with rfl|rfl|rfl|rfl|rfl
        ·have hG:Hid (G=none):=by
          have hn:cu u s[i]=4:=by rw[←HK.out];exact Qm _
          have hE:=HE.out;rw[if_pos (.inr (.inl hn))]at hE;exact hE
         clear HK HE HM HT;cases b
         all_goals
          go_wp2;go_quiet (fail);go_wp2;go_ret2;exact⟨by rw[hG.out];rfl,cU w _ _⟩
        ·by_cases hm:((s[i].toNat:Int))=68
         case neg=>
          have qS:((((⟨#[68,72,77,83]⟩:ByteArray)[0]'(by decide)).toNat:Int)!=(s[i].toNat:Int))=true:=by show((68:Int)!=(s[i].toNat:Int))=true;rw[bne_iff_ne];omega
          have Cj:Hid (cu 1 s[i]=cu u s[i]):=(rr 0 s[i] (by omega) (by simp only[na];omega)).trans HK.out;clear HK hm;go_wp2;go_quiet (fail);go_wp2;exact⟨⟨1,q'+nq,by omega,by omega,rfl,Cj,rfl⟩,by simp[intOf]⟩
         case pos=>
          by_cases Ck:57<(s[i].toNat:Int)
          case neg=>exfalso;omega
          case pos=>
           have qS:((((⟨#[68,72,77,83]⟩:ByteArray)[0]'(by decide)).toNat:Int)!=(s[i].toNat:Int))=false:=by rw[hm];rfl
           have hn:cu u s[i]=0:=by rw[←HK.out];exact ru 0 s[i] (by omega) (by simp only[na];omega)
           have hE:=HE.out;rw[hn]at hE;clear hn HK hm HE;cases b
           case false=>
            have hG:Hid (G=none):=by rw[if_pos (.inl rfl)]at hE;exact hE
            clear hE HT HM;go_wp2;go_quiet (fail);go_wp2;go_ret2;exact⟨by rw[hG.out];rfl,cU w _ _⟩
           case true=>
            have Sm:=HM.out rfl;cases times
            case true=>
             have hG:Hid (G=none):=by rw[if_pos (.inr (.inr (by decide)))]at hE;exact hE
             clear hE HT HM;go_wp2;go_quiet (fail);go_wp2;go_ret2;exact⟨by rw[hG.out];rfl,cU w _ _⟩
            case false=>
             have Lg:Hid (cK (s.data.toList.drop (i+1)) (cut s (i+1) (i+1 - (i+1))) 1 false (sum+nn * 86400) (parts+1)=G):=by
              rw[if_neg (by decide)]at hE;rw[sZ];exact hE.symm
             clear hE HT HM;go_wp2;go_quiet (fail);go_wp2;exact⟨⟨i+1,i+1,1,parts+1,false,sum+nn * 86400,q'+nq,by omega,by omega,by omega,by omega,by omega,(fun _=>by omega),by omega,by omega,rfl,by go_num,rfl,rfl,by go_num,by go_num,Lg,rfl⟩,by simp[intOf];omega⟩
        ·by_cases hm:((s[i].toNat:Int))=72
         case neg=>
          have qS:((((⟨#[68,72,77,83]⟩:ByteArray)[1]'(by decide)).toNat:Int)!=(s[i].toNat:Int))=true:=by show((72:Int)!=(s[i].toNat:Int))=true;rw[bne_iff_ne];omega
          have Cj:Hid (cu 2 s[i]=cu u s[i]):=(rr 1 s[i] (by omega) (by simp only[na];omega)).trans HK.out;clear HK hm;go_wp2;go_quiet (fail);go_wp2;exact⟨⟨2,q'+nq,by omega,by omega,rfl,Cj,rfl⟩,by simp[intOf]⟩
         case pos=>
          by_cases Ck:57<(s[i].toNat:Int)
          case neg=>exfalso;omega
          case pos=>
           have qS:((((⟨#[68,72,77,83]⟩:ByteArray)[1]'(by decide)).toNat:Int)!=(s[i].toNat:Int))=false:=by rw[hm];rfl
           have hn:cu u s[i]=1:=by rw[←HK.out];exact ru 1 s[i] (by omega) (by simp only[na];omega)
           have hE:=HE.out;rw[hn]at hE;clear hn HK hm HE;cases b
           case false=>
            have hG:Hid (G=none):=by rw[if_pos (.inl rfl)]at hE;exact hE
            clear hE HT HM;go_wp2;go_quiet (fail);go_wp2;go_ret2;exact⟨by rw[hG.out];rfl,cU w _ _⟩
           case true=>
            have Sm:=HM.out rfl;cases times
            case false=>
             have hG:Hid (G=none):=by rw[if_pos (.inr (.inr (by decide)))]at hE;exact hE
             clear hE HT HM;go_wp2;go_quiet (fail);go_wp2;go_ret2;exact⟨by rw[hG.out];rfl,cU w _ _⟩
            case true=>
             have Lg:Hid (cK (s.data.toList.drop (i+1)) (cut s (i+1) (i+1 - (i+1))) 2 true (sum+nn * 3600) (parts+1)=G):=by
              rw[if_neg (by decide)]at hE;rw[sZ];exact hE.symm
             clear hE HT HM;go_wp2;go_quiet (fail);go_wp2;exact⟨⟨i+1,i+1,2,parts+1,true,sum+nn * 3600,q'+nq,by omega,by omega,by omega,by omega,by omega,(fun h=>by cases h),by omega,by omega,rfl,by go_num,rfl,rfl,by go_num,by go_num,Lg,rfl⟩,by simp[intOf];omega⟩
        ·by_cases hm:((s[i].toNat:Int))=77
         case neg=>
          have qS:((((⟨#[68,72,77,83]⟩:ByteArray)[2]'(by decide)).toNat:Int)!=(s[i].toNat:Int))=true:=by show((77:Int)!=(s[i].toNat:Int))=true;rw[bne_iff_ne];omega
          have Cj:Hid (cu 3 s[i]=cu u s[i]):=(rr 2 s[i] (by omega) (by simp only[na];omega)).trans HK.out;clear HK hm;go_wp2;go_quiet (fail);go_wp2;exact⟨⟨3,q'+nq,by omega,by omega,rfl,Cj,rfl⟩,by simp[intOf]⟩
         case pos=>
          by_cases Ck:57<(s[i].toNat:Int)
          case neg=>exfalso;omega
          case pos=>
           have qS:((((⟨#[68,72,77,83]⟩:ByteArray)[2]'(by decide)).toNat:Int)!=(s[i].toNat:Int))=false:=by rw[hm];rfl
           have hn:cu u s[i]=2:=by rw[←HK.out];exact ru 2 s[i] (by omega) (by simp only[na];omega)
           have hE:=HE.out;rw[hn]at hE;clear hn HK hm HE;cases b
           case false=>
            have hG:Hid (G=none):=by rw[if_pos (.inl rfl)]at hE;exact hE
            clear hE HT HM;go_wp2;go_quiet (fail);go_wp2;go_ret2;exact⟨by rw[hG.out];rfl,cU w _ _⟩
           case true=>
            have Sm:=HM.out rfl;cases times
            case false=>
             have hG:Hid (G=none):=by rw[if_pos (.inr (.inr (by decide)))]at hE;exact hE
             clear hE HT HM;go_wp2;go_quiet (fail);go_wp2;go_ret2;exact⟨by rw[hG.out];rfl,cU w _ _⟩
            case true=>
             have Lg:Hid (cK (s.data.toList.drop (i+1)) (cut s (i+1) (i+1 - (i+1))) 3 true (sum+nn * 60) (parts+1)=G):=by
              rw[if_neg (by decide)]at hE;rw[sZ];exact hE.symm
             clear hE HT HM;go_wp2;go_quiet (fail);go_wp2;exact⟨⟨i+1,i+1,3,parts+1,true,sum+nn * 60,q'+nq,by omega,by omega,by omega,by omega,by omega,(fun h=>by cases h),by omega,by omega,rfl,by go_num,rfl,rfl,by go_num,by go_num,Lg,rfl⟩,by simp[intOf];omega⟩
        ·by_cases hm:((s[i].toNat:Int))=83
         case neg=>
          have qS:((((⟨#[68,72,77,83]⟩:ByteArray)[3]'(by decide)).toNat:Int)!=(s[i].toNat:Int))=true:=by show((83:Int)!=(s[i].toNat:Int))=true;rw[bne_iff_ne];omega
          have Cj:Hid (cu 4 s[i]=cu u s[i]):=(rr 3 s[i] (by omega) (by simp only[na];omega)).trans HK.out;clear HK hm;go_wp2;go_quiet (fail);go_wp2;exact⟨⟨4,q'+nq,by omega,by omega,rfl,Cj,rfl⟩,by simp[intOf]⟩
         case pos=>
          by_cases Ck:57<(s[i].toNat:Int)
          case neg=>exfalso;omega
          case pos=>
           have qS:((((⟨#[68,72,77,83]⟩:ByteArray)[3]'(by decide)).toNat:Int)!=(s[i].toNat:Int))=false:=by rw[hm];rfl
           have hn:cu u s[i]=3:=by rw[←HK.out];exact ru 3 s[i] (by omega) (by simp only[na];omega)
           have hE:=HE.out;rw[hn]at hE;clear hn HK hm HE;cases b
           case false=>
            have hG:Hid (G=none):=by rw[if_pos (.inl rfl)]at hE;exact hE
            clear hE HT HM;go_wp2;go_quiet (fail);go_wp2;go_ret2;exact⟨by rw[hG.out];rfl,cU w _ _⟩
           case true=>
            have Sm:=HM.out rfl;cases times
            case false=>
             have hG:Hid (G=none):=by rw[if_pos (.inr (.inr (by decide)))]at hE;exact hE
             clear hE HT HM;go_wp2;go_quiet (fail);go_wp2;go_ret2;exact⟨by rw[hG.out];rfl,cU w _ _⟩
            case true=>
             have Lg:Hid (cK (s.data.toList.drop (i+1)) (cut s (i+1) (i+1 - (i+1))) 4 true (sum+nn * 1) (parts+1)=G):=by
              rw[if_neg (by decide)]at hE;rw[sZ];exact hE.symm
             clear hE HT HM;go_wp2;go_quiet (fail);go_wp2;exact⟨⟨i+1,i+1,4,parts+1,true,sum+nn * 1,q'+nq,by omega,by omega,by omega,by omega,by omega,(fun h=>by cases h),by omega,by omega,by rw[Int.mul_one],by go_num,rfl,rfl,by go_num,by go_num,Lg,rfl⟩,by simp[intOf];omega⟩
def bN (e:Int):List PanicEntry:=[{v:= .iface 103 (.agg #[V Z e]),recovered:=false}]
theorem aF (e:Int)(w:ι):μ prog 65 #[.bool true, V Z e] w fun E w'=>E= δ (.tuple #[])∧w=w':=by
 go_enter func65,ntmps65;go_wp2;go_end0;exact⟨rfl,rfl⟩
theorem aM (e:Int)(w:ι):μ prog 65 #[.bool false, V Z e] w fun E w'=>E= .panicked (bN e)∧w=w':=by
 go_enter func65,ntmps65;go_wp2;exact⟨rfl,rfl,rfl⟩
theorem ly (c:Int)(w:ι):μ prog 131 #[.int .u8 c] w fun E w'=>E= δ (.bool (decide (48≤c)&&decide (c≤57)))∧w=w':=by
 by_cases h:48≤c
 ·go_enter func131,ntmps131;go_wp2;go_ret;exact⟨by simp[h],rfl⟩
 ·have h':decide (48≤c)=false:=by simpa using h
  rw[h'];go_enter func131,ntmps131;go_wp2;go_ret;exact⟨rfl,rfl⟩
def dU (s:ByteArray):Bool:=s.data.toList.all ez
theorem Ao (s:ByteArray)(e:Int)(w:ι)(h7:s.size≤7):
 μ prog 123 #[.string s, V Z e] w fun E w'=>((dU s=true∧E= δ (V Z (iO s.data.toList)))∨(dU s=false∧E= .panicked (bN e)))∧w=w':=by
 go_enter func123,ntmps123;go_wp2;go_loop [5,9] (fun v i=>∃k:Nat,k≤s.size∧i= V Z (k:Int)∧v= V Z (iO (cut s 0 k))∧Hid ((cut s 0 k).all ez=true)) (fun _ i=>s.size - (intOf i).toNat)
 case atStart=>exact⟨0,by omega,rfl,rfl,rfl⟩
 case round=>
  obtain⟨k,k0,rfl,rfl,HD⟩:=hrel;have hb:=nH (cut s 0 k) 7 (by rw[kF s 0 k (by omega)];omega) HD.out;by_cases ay:k<s.size
  ·have B3:=px s 0 k (by omega);simp only[π]at B3;by_cases hd:ez s[k]=true
   ·have Kj:=(pw _).1 hd;have HD2:Hid ((cut s 0 (k+1)).all ez=true):=by
     rw[B3];simp[HD.out,hd,Hid]
    have HV:Hid (iO (cut s 0 (k+1))=10 * iO (cut s 0 k)+((s[k].toNat:Int) - 48)):=by
     rw[B3];exact G8 _ _
    have hu:(decide (48≤(s[k].toNat:Int))&&decide ((s[k].toNat:Int)≤57))=true:=hd;clear hd B3;go_wp2_with (first
     |(go_at_call 131;refine(ly _ _).mono ?_;rintro e w' ⟨rfl,rfl⟩)
     |(go_at_call 65;refine(aF _ _).mono ?_;rintro e w' ⟨rfl,rfl⟩))
    exact⟨⟨k+1,by omega,by go_num,by rw[HV.out,Int.mul_comm],HD2⟩,by simp[intOf];omega⟩
   ·have zK:ez s[k]=false:=by simpa using hd
    have bT:dU s=false:=by
     show s.data.toList.all ez=false;have hm:s[k]∈s.data.toList:=by
      have:=N7 s 0 s.size k ay (by omega);rw[FR]at this;simp only[π]at this;exact List.mem_of_getElem? this
     rw[List.all_eq_false];exact⟨_,hm,by rw[zK];exact κ⟩
    have HA:=ad bT;have hu:(decide (48≤(s[k].toNat:Int))&&decide ((s[k].toNat:Int)≤57))=false:=zK;clear zK B3 HD hd bT;go_wp2_with (first
     |(go_at_call 131;refine(ly _ _).mono ?_;rintro e w' ⟨rfl,rfl⟩)
     |(go_at_call 65;refine(aM _ _).mono ?_;rintro e w' ⟨rfl,rfl⟩))
    exact⟨rfl, .inr ⟨HA.out,rfl⟩,rfl⟩
  ·have hk:k=s.size:=by omega
   subst hk;have ha:=HD.out;rw[FR]at ha⊢;have HA:Hid (dU s=true):=ha;clear ha;go_wp2;go_ret;exact⟨.inl ⟨HA.out,rfl⟩,rfl⟩
theorem eG (s:ByteArray)(e:Int)(w:ι)(h7:s.size≤7)(h:dU s=true):
 μ prog 123 #[.string s, V Z e] w fun E w'=>E= δ (V Z (iO s.data.toList))∧w=w':=
 (Ao s e w h7).mono fun E w' ⟨h1,h2⟩=>⟨h1.elim (fun q=>q.2) (fun q=>by rw[h]at q;exact absurd q.1 (by decide)),h2⟩
theorem jE (s:ByteArray)(e:Int)(w:ι)(h7:s.size≤7)(h:dU s=false):
 μ prog 123 #[.string s, V Z e] w fun E w'=>E= .panicked (bN e)∧w=w':=
 (Ao s e w h7).mono fun E w' ⟨h1,h2⟩=>⟨h1.elim (fun q=>by rw[h]at q;exact absurd q.1 (by decide)) (fun q=>q.2),h2⟩
theorem mC (y:Int)(w:ι)(h0:0≤y)(h1:y≤100000):
 μ prog 195 #[V Z y] w fun e w'=>e= δ (V Z (ae.ty y))∧w=w':=by
 go_enter func195,ntmps195;go_wp2;go_ret;exact⟨rfl,rfl⟩
theorem lz (m:Int)(w:ι)(h0:0≤m)(h1:m≤1000):
 μ prog 196 #[V Z m] w fun e w'=>e= δ (V Z (ae.tm m))∧w=w':=by
 go_enter func196,ntmps196;go_wp2;go_ret;exact⟨rfl,rfl⟩
theorem fK {P:Program}{f:FuncId}{args:Array Value}{w:ι}{n:Nat}{v:Value}
 (h:μ P f args (w.drewN n) fun e w'=>e= δ v∧w.drewN n=w'):μ P f args (w.drewN n) fun e aA=>e= δ v∧∃m,aA=w.drewN m:=
 h.mono fun _ _ ⟨he,hm⟩=>⟨he,n,hm.symm⟩
theorem below_drewN {B:Nat}{a w:ι}(h:Below B a w)(n:Nat):Below B a (w.drewN n):=⟨h.os,h.tape,h.output,h.size,h.block⟩
theorem Ka (y:Int)(h0:0≤y)(h1:y≤100000):0≤ae.ty y∧ae.ty y≤40000000:=by unfold ae.ty;omega
theorem E9 (m:Int)(h0:0≤m)(h1:m≤1000):0≤ae.tm m∧ae.tm m≤40000:=by unfold ae.tm;omega
theorem qL (y m d:Int)(w:ι)(h0:1≤y)(h1:y≤10000)(h2:0≤m)(h3:m≤100)(h4:0≤d)(h5:d≤100):
 μ prog 120 #[.agg #[V Z y, V Z m, V Z d]] w fun e w'=>e= δ (V Z (ae.num y m d))∧Below w.heap.size w w':=by
 unfold ae.num;by_cases hm:m - 3<0
 case pos=>
  have t1:=Ka (y - 1) (by omega) (by omega);have t2:=E9 (m - 3+12) (by omega) (by omega);rw[if_pos hm];go_enter func120,ntmps120;go_wp2;go_quiet (fail);go_wp2;have ah:=cU w (ε #[V Z y, V Z m, V Z d] 106) nq;have c2:((w.alloc (ε #[V Z y, V Z m, V Z d] 106)).drewN nq).cell? ⟨w.heap.size,2,none⟩=some (V Z d):=by simp[go_sem]
  generalize(w.alloc (ε #[V Z y, V Z m, V Z d] 106)).drewN nq=W at *
  go_quiet (first
   |(go_at_call 195;exact fK (mC _ _ (by omega) (by omega)))
   |(go_at_call 196;exact fK (lz _ _ (by omega) (by omega))))
  go_wp2;go_ret;exact⟨rfl,below_drewN ah _⟩
 case neg=>
  have t1:=Ka y (by omega) (by omega);have t2:=E9 (m - 3) (by omega) (by omega);rw[if_neg hm];go_enter func120,ntmps120;go_wp2;go_quiet (fail);go_wp2;have ah:=cU w (ε #[V Z y, V Z m, V Z d] 106) nq;have c2:((w.alloc (ε #[V Z y, V Z m, V Z d] 106)).drewN nq).cell? ⟨w.heap.size,2,none⟩=some (V Z d):=by simp[go_sem]
  generalize(w.alloc (ε #[V Z y, V Z m, V Z d] 106)).drewN nq=W at *
  go_quiet (first
   |(go_at_call 195;exact fK (mC _ _ (by omega) (by omega)))
   |(go_at_call 196;exact fK (lz _ _ (by omega) (by omega))))
  go_wp2;go_ret;exact⟨rfl,below_drewN ah _⟩
def cS (y m d:Int):Value:= .agg #[V Z y, V Z m, V Z d]
theorem yB (n:Int)(w:ι)(h0:-719468≤n)(h1:n≤1000000):
 μ prog 121 #[V Z n] w fun e w'=>e= δ (cS (ae.ag n) (ae.ofM n) (ae.ar n))∧Below w.heap.size w w':=by
 have hy:=ae.aeB (n+719468) (by omega) (by omega);have hr:=ae.Kf (n+719468) (by omega);have hm:=ae.PM _ hr.1 hr.2.1;have jX:=hr.1;have xh:=hr.2.1;have lU:=hm.1;have sH:=hm.2.1;have t:=E9 _ hm.1 (by omega);clear hr hm;unfold cS ae.ag ae.ofM ae.ar;by_cases hc:ae.ty ((n+719468) * 400/146097+1)≤n+719468
 case pos=>
  have ey:ae.yr (n+719468)=(n+719468) * 400/146097+1:=by unfold ae.yr;rw[if_pos hc]
  rw[ey]at hy jX xh lU sH t⊢;unfold ae.mo at lU sH t⊢;clear ey;by_cases tc:((n+719468 - ae.ty ((n+719468) * 400/146097+1)) * 5+2)/153+3>12
  case pos=>
   rw[if_pos tc,if_pos tc];go_enter func121,ntmps121;go_wp2_with (first
    |(go_at_call 195;refine(mC _ _ (by omega) (by omega)).mono ?_;rintro e w' ⟨rfl,rfl⟩)
    |(go_at_call 196;refine(lz _ _ (by omega) (by omega)).mono ?_;rintro e w' ⟨rfl,rfl⟩))
   exact bodyPost_ret (v:= .agg #[V Z ((n+719468) * 400/146097+1+1), V Z (((n+719468 - ae.ty ((n+719468) * 400/146097+1)) * 5+2)/153+3 - 12), V Z (n+719468 - ae.ty ((n+719468) * 400/146097+1) - ae.tm (((n+719468 - ae.ty ((n+719468) * 400/146097+1)) * 5+2)/153)+1)]) (by simp[results,results121,go_sem]) rfl ⟨rfl,(η _ _).alloc (ζ _) _⟩
  case neg=>
   rw[if_neg tc,if_neg tc];go_enter func121,ntmps121;go_wp2_with (first
    |(go_at_call 195;refine(mC _ _ (by omega) (by omega)).mono ?_;rintro e w' ⟨rfl,rfl⟩)
    |(go_at_call 196;refine(lz _ _ (by omega) (by omega)).mono ?_;rintro e w' ⟨rfl,rfl⟩))
   exact bodyPost_ret (v:= .agg #[V Z ((n+719468) * 400/146097+1), V Z (((n+719468 - ae.ty ((n+719468) * 400/146097+1)) * 5+2)/153+3), V Z (n+719468 - ae.ty ((n+719468) * 400/146097+1) - ae.tm (((n+719468 - ae.ty ((n+719468) * 400/146097+1)) * 5+2)/153)+1)]) (by simp[results,results121,go_sem]) rfl ⟨rfl,(η _ _).alloc (ζ _) _⟩
 case neg=>
  have ey:ae.yr (n+719468)=(n+719468) * 400/146097:=by unfold ae.yr;rw[if_neg hc]
  rw[ey]at hy jX xh lU sH t⊢;unfold ae.mo at lU sH t⊢;clear ey;by_cases tc:((n+719468 - ae.ty ((n+719468) * 400/146097)) * 5+2)/153+3>12
  case pos=>
   rw[if_pos tc,if_pos tc];go_enter func121,ntmps121;go_wp2_with (first
    |(go_at_call 195;refine(mC _ _ (by omega) (by omega)).mono ?_;rintro e w' ⟨rfl,rfl⟩)
    |(go_at_call 196;refine(lz _ _ (by omega) (by omega)).mono ?_;rintro e w' ⟨rfl,rfl⟩))
   exact bodyPost_ret (v:= .agg #[V Z ((n+719468) * 400/146097+1), V Z (((n+719468 - ae.ty ((n+719468) * 400/146097)) * 5+2)/153+3 - 12), V Z (n+719468 - ae.ty ((n+719468) * 400/146097) - ae.tm (((n+719468 - ae.ty ((n+719468) * 400/146097)) * 5+2)/153)+1)]) (by simp[results,results121,go_sem]) rfl ⟨rfl,(η _ _).alloc (ζ _) _⟩
  case neg=>
   rw[if_neg tc,if_neg tc];go_enter func121,ntmps121;go_wp2_with (first
    |(go_at_call 195;refine(mC _ _ (by omega) (by omega)).mono ?_;rintro e w' ⟨rfl,rfl⟩)
    |(go_at_call 196;refine(lz _ _ (by omega) (by omega)).mono ?_;rintro e w' ⟨rfl,rfl⟩))
   exact bodyPost_ret (v:= .agg #[V Z ((n+719468) * 400/146097), V Z (((n+719468 - ae.ty ((n+719468) * 400/146097)) * 5+2)/153+3), V Z (n+719468 - ae.ty ((n+719468) * 400/146097) - ae.tm (((n+719468 - ae.ty ((n+719468) * 400/146097)) * 5+2)/153)+1)]) (by simp[results,results121,go_sem]) rfl ⟨rfl,(η _ _).alloc (ζ _) _⟩
open Go.RowKit Go.Sort
def oO (y m d:Int):Bool:=decide (1≤m)&&decide (m≤12)&&decide (1≤d)&&decide (d≤ae.md y m)
theorem rv (y m d:Int):oO y m d=true↔ae.Valid y m d:=by
 simp[oO,ae.Valid,and_assoc]
theorem ON (a b c x y z:Int)(w:ι):
 (Op.equalIn 10000 106 (.agg #[V Z a, V Z b, V Z c]) (.agg #[V Z x, V Z y, V Z z])).run prog w= .ok ((a==x)&&(b==y)&&(c==z)) w:=by
 have hs:(prog.info? 3).isSome=true:=by kernel_rfl
 obtain⟨i,hi⟩:=Option.isSome_iff_exists.1 hs;have hc:prog.cellsOf 3=1:=by kernel_rfl
 rw[run_equalIn_array w 9999 _ _ underlying106 hi,hc];rw[show List.range 3=[0,1,2]from rfl];by_cases h1:a=x<;>by_cases h2:b=y<;>by_cases h3:c=z<;>simp[Op.eqItems,part,go_sem,h1,h2,h3]
theorem acb {y m d:Int}(hy:1≤y)(hm:0≤m)(hd:0≤d):
 (ae.ag (ae.num y m d)==y&&ae.ofM (ae.num y m d)==m&&ae.ar (ae.num y m d)==d)=oO y m d:=by
 rw[Bool.eq_iff_iff,rv,←ae.G6 hy hm hd];simp[and_assoc]
theorem Lh (W:ι)(y m d:Int)(D:Nat)(os:Array Obj)(h0:1≤y)(h1:y≤10000)(h2:0≤m)(h3:m≤100)(h4:0≤d)(h5:d≤100):
 μ prog 120 #[.agg #[V Z y, V Z m, V Z d]] (grow (redrawn W D) os) fun e aA=>e= δ (V Z (ae.num y m d))∧∃p:Regrown,aA=grow (redrawn W p.d) p.os:=
 Calls.regrown_of (qL y m d _ h0 h1 h2 h3 h4 h5)
theorem Sn (W:ι)(n:Int)(D:Nat)(os:Array Obj)(h0:-719468≤n)(h1:n≤1000000):
 μ prog 121 #[V Z n] (grow (redrawn W D) os) fun e aA=>e= δ (.agg #[V Z (ae.ag n), V Z (ae.ofM n), V Z (ae.ar n)])∧∃p:Regrown,aA=grow (redrawn W p.d) p.os:=
 Calls.regrown_of (yB n _ h0 h1)
theorem Is (y m d:Int)(w:ι)(h0:1≤y)(h1:y≤2199)(h2:0≤m)(h3:m≤99)(h4:0≤d)(h5:d≤99):
 μ prog 124 #[.agg #[V Z y, V Z m, V Z d]] w fun e w'=>e= δ (.bool (oO y m d))∧Below w.heap.size w w':=by
 have hn:-719468≤ae.num y m d∧ae.num y m d≤1000000:=by
  unfold ae.num ae.ty ae.tm;split<;>omega
 go_enter func124,ntmps124;go_wp2;have ah:Below w.heap.size w (w.alloc (ε #[V Z y, V Z m, V Z d] 106)):=(η _ _).alloc (ζ _) _;have c0:(w.alloc (ε #[V Z y, V Z m, V Z d] 106)).cell? ⟨w.heap.size,0,none⟩=some (V Z y):=by simp[go_sem]
 have c1:(w.alloc (ε #[V Z y, V Z m, V Z d] 106)).cell? ⟨w.heap.size,1,none⟩=some (V Z m):=by simp[go_sem]
 have c2:(w.alloc (ε #[V Z y, V Z m, V Z d] 106)).cell? ⟨w.heap.size,2,none⟩=some (V Z d):=by simp[go_sem]
 generalize(w.alloc (ε #[V Z y, V Z m, V Z d] 106))=W at *
 have heq:=ON;have k0:=cell_regrown c0;have k1:=cell_regrown c1;have k2:=cell_regrown c2;clear c0 c1 c2;refine wp_region_quiet_below (by kernel_rfl) (by kernel_rfl) ?_
 repeat(go_big_quiet_step (first|exact Lh W _ _ _ _ _ (by omega) (by omega) (by omega) (by omega) (by omega) (by omega)|exact Sn W _ _ _ (by omega) (by omega)))
 refine wpQuiet_nil ?_;intro _ fF;obtain⟨⟨dq,gj⟩,eU⟩:=fF;subst eU;go_wp2;go_ret;exact⟨congrArg (fun b=>Ending.returned (.bool b)) (acb h0 h2 h4),ah.trans ((below_regrown W dq gj).mono ah.size)⟩
theorem lI {W w1:ι}(hb:Below W.heap.size W w1):(∀b o,b<W.heap.size→w1.cell? ⟨b,o,none⟩=W.cell? ⟨b,o,none⟩)∧(∀b o,b<W.heap.size→w1.frozen? ⟨b,o,none⟩=W.frozen? ⟨b,o,none⟩):=
 ⟨fun b o h=>hb.cell (p:=⟨b,o,none⟩) h,fun b o h=>hb.frozen (p:=⟨b,o,none⟩) h⟩
theorem yC (t:ByteArray)(a b:Nat):dU (t.extract a b)=(cut t a (b - a)).all ez:=by
 unfold dU;rw[bP]
theorem pE {l:List UInt8}(h:l.all ez=true):bF l=iO l:=by unfold bF;rw[if_pos h]
theorem xr {l:List UInt8}(h:l.all ez=false):bF l=-1:=by unfold bF;rw[if_neg (by rw[h];exact κ)]
def Ap (y m d:Int):Ending:=if 1970≤y∧y≤2199∧oO y m d=true then δ (cS y m d)else .panicked (bN 1)
theorem Li {y m d:Int}(h:1970≤y∧y≤2199∧oO y m d=true):Ap y m d= δ (cS y m d):=by unfold Ap;rw[if_pos h]
theorem xu {y m d:Int}(h:¬(1970≤y∧y≤2199∧oO y m d=true)):Ap y m d= .panicked (bN 1):=by unfold Ap;rw[if_neg h]
attribute [local go_sem] Go.wp_at_zero Go.wp_at_succ
theorem Gu (t:ByteArray)(w:ι)(y m d:Int)(h8:t.size=8)(d1:dU (t.extract 0 4)=true)(d2:dU (t.extract 4 6)=true)(d3:dU (t.extract 6 t.size)=true)
 (e1:iO (t.extract 0 4).data.toList=y)(e2:iO (t.extract 4 6).data.toList=m)(e3:iO (t.extract 6 t.size).data.toList=d)
 (y0:0≤y)(y1:y≤9999)(m0:0≤m)(m1:m≤99)(d0:0≤d)(d9:d≤99):
 μ prog 69 #[.string t] w fun E w'=>E=Ap y m d∧Below w.heap.size w w':=by
 have z1:(4:Int)≤t.size:=by omega
 have z2:(6:Int)≤t.size:=by omega
 have z3:(8:Int)≤t.size:=by omega
 have z4:(t.size:Int)≤8:=by omega
 have s1:(t.extract 0 4).size≤7:=by simp[θ];omega
 have s2:(t.extract 4 6).size≤7:=by simp[θ];omega
 have s3:(t.extract 6 t.size).size≤7:=by simp[θ];omega
 have H8:=ad h8;have c1:=fun W=>eG (t.extract 0 4) 1 W s1 d1;have c2:=fun W=>eG (t.extract 4 6) 1 W s2 d2;have c3:=fun W=>eG (t.extract 6 t.size) 1 W s3 d3;rw[e1]at c1;rw[e2]at c2;rw[e3]at c3;have C1:=ad c1;have C2:=ad c2;have C3:=ad c3;clear h8 c1 c2 c3 e1 e2 e3 d1 d2 d3 s1 s2 s3;go_enter func69,ntmps69;go_wp2;go_region_held3 (fun w'=>True) (trivial)
  (first
   |(go_at_call_of 123 (Value.string (t.extract 0 4));refine(C1.out _).mono ?_;rintro e w' ⟨rfl,rfl⟩)
   |(go_at_call_of 123 (Value.string (t.extract 4 6));refine(C2.out _).mono ?_;rintro e w' ⟨rfl,rfl⟩)
   |(go_at_call_of 123 (Value.string (t.extract 6 t.size));refine(C3.out _).mono ?_;rintro e w' ⟨rfl,rfl⟩))
 all_goals
  by_cases ya:1970≤y
  case neg=>
   have ya':decide (1970≤y)=false:=by simpa using ya
   go_wp2_with (go_at_call 65;refine(aM _ _).mono ?_;rintro e w' ⟨rfl,rfl⟩);exact⟨rfl,by rw[xu (by omega)],(((η _ _).alloc (ζ _) _).alloc (by simp) _).drew⟩
  case pos=>
   by_cases yb:y≤2199
   case neg=>
    have yb':decide (y≤2199)=false:=by simpa using yb
    go_wp2_with (go_at_call 65;refine(aM _ _).mono ?_;rintro e w' ⟨rfl,rfl⟩);exact⟨rfl,by rw[xu (by omega)],(((η _ _).alloc (ζ _) _).alloc (by simp) _).drew⟩
   case pos=>
    have ah:Below w.heap.size w (((w.alloc (ε #[V Z 0, V Z 0, V Z 0] 106)).alloc (ε #[V Z y, V Z m, V Z d] 106)).drew):=(((η _ _).alloc (ζ _) _).alloc (by simp) _).drew;cases hv:oO y m d
    case false=>
     go_wp2_with (first
      |(go_at_call_of 65 (Value.bool true);refine(aF _ _).mono ?_;rintro e w' ⟨rfl,rfl⟩)
      |(go_at_call_of 65 (Value.bool false);refine(aM _ _).mono ?_;rintro e w' ⟨rfl,rfl⟩)
      |(go_at_call 124;refine(Is _ _ _ _ (by omega) (by omega) (by omega) (by omega) (by omega) (by omega)).mono ?_;rintro e w1 ⟨rfl,ai⟩;rw[hv]))
     exact⟨rfl,by rw[xu (by simp[hv])],ah.trans (ai.mono ah.size)⟩
    case true=>
     go_wp2_with (first
      |(go_at_call 65;refine(aF _ _).mono ?_;rintro e w' ⟨rfl,rfl⟩)
      |(go_at_call 124;refine(Is _ _ _ _ (by omega) (by omega) (by omega) (by omega) (by omega) (by omega)).mono ?_;rintro e w1 ⟨rfl,ai⟩;rw[hv];obtain⟨hc,hf⟩:=lI ai;have hz:=ai.size))
     have i0:(w1.cell? ⟨w.heap.size,0,none⟩).isSome=true:=by rw[hc _ _ (by simp;omega)];simp[go_sem]
     have i1:(w1.cell? ⟨w.heap.size,1,none⟩).isSome=true:=by rw[hc _ _ (by simp;omega)];simp[go_sem]
     have i2:(w1.cell? ⟨w.heap.size,2,none⟩).isSome=true:=by rw[hc _ _ (by simp;omega)];simp[go_sem]
     exact bodyPost_ret (v:= .agg #[V Z y, V Z m, V Z d]) (by simp[results,results69,go_sem,i0,i1,i2]) rfl
      ⟨by rw[Li ⟨ya,yb,hv⟩];rfl,(((ah.trans (ai.mono ah.size)).setCell (ζ _) _).setCell (ζ _) _).setCell (ζ _) _⟩
end Go.Proofs.YthpndgcaoeokeaaGreatDoor
