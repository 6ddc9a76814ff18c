import Derived.Test.YtchdfdmjihnhkaaGreatDoorUq1
import Derived.Test.YtchdfdmjihnhkaaGreatDoorShelfB
import Derived.Lib.SlicesS
import Derived.Deep.AppendLies
import Derived.Lib.Split
import Derived.Shelf.Abstract
set_option maxRecDepth 100000
set_option maxHeartbeats 8000000
open Go.IntKind renaming i64->Z
open Go.Value renaming int->V,slice->ζ,string->η,bool->ν,int->Ϗ,string->ϗ
open Go.Ending renaming returned->δ,panicked->ε
open Go.Obj renaming cells->θ
open Nat renaming le_refl->ι,zero_add->Θ,zero_le->ϋ,lt_of_lt_of_le->Ϟ,le_trans->ϩ
open Go.RowKit.Below renaming refl->κ
open Go renaming World->μ,Calls->ο,TypeId->Ζ,Ending->Η,Act->Ϛ,Oper->ϛ,Program->ϝ,FuncId->Ϡ
open Array renaming getElem?_eq_getElem->ξ,length_toList->φ,all_eq_true'->Ι,getElem_setIfInBounds_ne->Ω,getD_eq_getD_getElem?->ό,getD->ύ
open Go.Region renaming binds->π,ready->ω,wanted->Ϣ
open Go.World renaming cell?_setCell_other->ρ,frozen?_setCell->Β,setCell->Ϥ
open List renaming drop_eq_getElem_cons->τ,getElem?_eq_getElem->υ,length_map->χ,length_append->ψ,length_cons->Γ,replicate->Κ,getElem?_append_right->Λ,getElem?_replicate->Ξ,drop_length->Ο,getElem?_eq_none->Ρ,mem_of_getElem?->Υ,mem_cons->Χ,take_of_length_le->Ϙ,getElem?_of_mem->ϙ,map_congr_left->Ϝ,getElem?_map->ϟ,length_take->ϡ,mem_filter->ϣ,mem_range->ϥ,map_cons->Ϧ,any_cons->ϧ,map_map->Ϩ
open Go.Lib renaming trimPrefix->Α,hasPrefix->Ε,countB->ώ
open Option renaming map_some->Δ,getD_some->Ν
open Bool renaming false_ne_true->Μ,and_eq_false_iff->Τ,and_eq_true->ϊ
open Go.RowKit renaming Hid->Φ
open Go.Oper renaming wp->Ψ
namespace Go.Proofs.YtchdfdmjihnhkaaGreatDoor
open Tryz
open Go.RowKit
section
open Go.Sort
theorem xZ {mark:UInt8}{nj v:Int}{l r:List UInt8}(h0:0<=nj)(G:nj<=86400)(h:fg mark nj l=some (v,r)):0<=v/\v<=863999913600/\r.length<=l.length:=by
 unfold fg at h;cases q:sp mark l with
 |none=>rw[q]at h;cases h;exact⟨by omega,by omega,ι _⟩
 |some y=>
  obtain⟨a,b⟩:=y;rw[q]at h;simp only at h;by_cases hn:dD a=true
  ·rw[if_pos hn]at h;cases h;have U:=FY a hn;have hm:dv a*nj<=9999999*86400:=Int.mul_le_mul U.2 G h0 (by omega);have hm0:0<=dv a*nj:=Int.mul_nonneg U.1 h0;have e:=(kt q).1;refine⟨hm0,by omega,?_⟩;rw[e];simp;omega
  rw[if_neg hn]at h;cases h
def Gq (o:Option Int):Η:=match o with
 |some n=> δ (V Z n)
 |none=> ε (bx 1)
def wX (dl cl:List UInt8):Option Int:=match fg 68 86400 dl,chain (aqu 1) cl with
 |some (v,[]),some n=>some (v+n)
 |_,_=>none
theorem C7 (z:UInt8)(body dl cl:List UInt8)(div:Bool)(w:μ)(O1:dl.length<=maxLen)(dE:cl.length<=maxLen)(hdc:(div=false/\cl=[])\/(div=true/\cl≠[]))
 (cp:∀W,ο prog 214 #[η ⟨((80:UInt8)::z::body).toArray⟩,η ⟨#[80]⟩] W λE I=>E=δ (.tuple #[η ⟨(z::body).toArray⟩,.bool true])/\I=W)
 (cc:∀W,ο prog 168 #[η ⟨(z::body).toArray⟩,η ⟨#[84]⟩] W λE I=>E=δ (.tuple #[η ⟨dl.toArray⟩,η ⟨cl.toArray⟩,.bool div])/\Below W.heap.size W I):
 ο prog 199 #[η ⟨((80:UInt8)::z::body).toArray⟩] w λE I=>E=Gq (wX dl cl)/\Below w.heap.size w I:=by
 have CP:=H cp;have CC:=H cc;have C0:=H λW=>qP dl 68 86400 W O1 (by omega) (by omega);have C1:=H λW=>qP cl 72 3600 W dE (by omega) (by omega);have HL:Φ (wX dl cl=match fg 68 86400 dl,chain [(72,3600),(77,60),(83,1)] cl with
  |some (v,[]),some n=>some (v+n)
  |_,_=>none):=H rfl
 unfold DW at C0 C1;clear cp cc;rcases hdc with⟨rfl,rfl⟩|⟨rfl,hc⟩
 case' inr=>
  obtain⟨x1,x2,rfl⟩:=List.exists_cons_of_ne_nil hc;clear hc
 all_goals
  go_enter func199,ntmps199;go_wp2_with (first
   |(go_at_call 214;refine(CP.out _).mono ?_;rintro e u ⟨rfl,rfl⟩)
   |(go_at_call 168;refine(CC.out _).mono ?_;rintro e uc ⟨rfl,T7⟩)
   |(go_at_call_of 42 (ν true);refine dh ?_))
  refine(C0.out _).mono ?_;rintro e u0 ⟨rfl,bj⟩;have h0:=T7.trans (bj.mono T7.size);cases q0:fg 68 86400 dl with
  |none=>exact⟨rfl,by rw[HL.out,q0];rfl,h0⟩
  |some y0=>
   obtain⟨v0,d1⟩:=y0;have b0:=xZ (by omega) (by omega) q0;clear CP CC C0 T7 bj;go_wp2_with fail;refine(C1.out _).mono ?_;rintro e u1 ⟨rfl,ay⟩;have G:=h0.trans (ay.mono h0.size);cases q1:fg 72 3600 _ with
   |none=>exact⟨rfl,by rw[HL.out,q0,chain,q1];cases d1<;>rfl,G⟩
   |some y1=>
    obtain⟨v1,k1⟩:=y1;have b1:=xZ (by omega) (by omega) q1;have C2:=H λW=>qP k1 77 60 W (by omega) (by omega) (by omega);unfold DW at C2;clear C1 h0 ay;go_wp2_with fail;refine(C2.out _).mono ?_;rintro e u2 ⟨rfl,aN⟩;have A:=G.trans (aN.mono G.size);cases q2:fg 77 60 k1 with
    |none=>exact⟨rfl,by rw[HL.out,q0,chain,q1];simp only[chain,q2];cases d1<;>rfl,A⟩
    |some y2=>
     obtain⟨v2,k2⟩:=y2;have b2:=xZ (by omega) (by omega) q2;have C3:=H λW=>qP k2 83 1 W (by omega) (by omega) (by omega);unfold DW at C3;clear C2 G aN;go_wp2_with fail;refine(C3.out _).mono ?_;rintro e u3 ⟨rfl,aP⟩;have M:=A.trans (aP.mono A.size);cases q3:fg 83 1 k2 with
     |none=>exact⟨rfl,by rw[HL.out,q0,chain,q1];simp only[chain,q2,q3];cases d1<;>rfl,M⟩
     |some y3=>
      obtain⟨v3,k3⟩:=y3;have b3:=xZ (by omega) (by omega) q3;clear C3 A aP;cases d1 with
      |cons a b=>
       have HQ:Φ (wX dl _=none):=H (by rw[HL.out,q0]);clear HL q0 q1 q2 q3;go_wp2_with (go_at_call_of 42 (ν false);refine eI ?_);exact⟨rfl,by rw[HQ.out];rfl,M⟩
      |nil=>
       cases k3 with
       |cons a b=>
        have HQ:Φ (wX dl _=none):=H (by rw[HL.out,q0,chain,q1];simp only[chain,q2,q3];rfl);clear HL q0 q1 q2 q3;go_wp2_with (go_at_call_of 42 (ν false);refine eI ?_);exact⟨rfl,by rw[HQ.out];rfl,M⟩
       |nil=>
        have HQ:Φ (wX dl _=some (v0+v1+v2+v3)):=H (by rw[HL.out,q0,chain,q1];simp only[chain,q2,q3];exact congrArg some (show v0+(v1+(v2+(v3+0)))=_ by omega));clear HL q0 q1 q2 q3;go_wp2_with (go_at_call_of 42 (ν true);refine dh ?_);go_ret;exact⟨by rw[HQ.out];rfl,M⟩
theorem Xy (z:UInt8)(body:List UInt8):qf (80::z::body)=match sp 84 (z::body)with
 |some (_,[])=>none
 |_=>s9 (z::body):=by
 show(if(80:UInt8).toNat=80 then gB (z::body) [] 0 false 0 0 else none)=_;rw[if_pos (show(80:UInt8).toNat=80 from rfl)];exact aaW (z::body) (by simp)
theorem Ri (z:UInt8)(body:List UInt8)(W:μ):
 ο prog 214 #[η ⟨((80:UInt8)::z::body).toArray⟩,η ⟨#[80]⟩] W λE I=>E=δ (.tuple #[η ⟨(z::body).toArray⟩,.bool true])/\I=W:=by
 have:=Tryz.strings_CutPrefix ⟨((80:UInt8)::z::body).toArray⟩ ⟨#[80]⟩ W;have G:Ε ((80:UInt8)::z::body) [80]=true:=by simp[Ε]
 have A:Α ((80:UInt8)::z::body) [80]=z::body:=by unfold Α;rw[G];rfl
 rw[show(⟨((80:UInt8)::z::body).toArray⟩:ByteArray).data.toList=80::z::body from rfl,show(⟨#[80]⟩:ByteArray).data.toList=[80]from rfl,G,A]at this;exact this
theorem LW (z:UInt8)(body dl:List UInt8)(w:μ)
 (cp:∀W,ο prog 214 #[η ⟨((80:UInt8)::z::body).toArray⟩,η ⟨#[80]⟩] W λE I=>E=δ (.tuple #[η ⟨(z::body).toArray⟩,.bool true])/\I=W)
 (cc:∀W,ο prog 168 #[η ⟨(z::body).toArray⟩,η ⟨#[84]⟩] W λE I=>E=δ (.tuple #[η ⟨dl.toArray⟩,η ⟨([]:List UInt8).toArray⟩,.bool true])/\Below W.heap.size W I):
 ο prog 199 #[η ⟨((80:UInt8)::z::body).toArray⟩] w λE I=>E=ε (bx 1)/\Below w.heap.size w I:=by
 have CP:=H cp;have CC:=H cc;clear cp cc;go_enter func199,ntmps199;go_wp2_with (first
  |(go_at_call 214;refine(CP.out _).mono ?_;rintro e u ⟨rfl,rfl⟩)
  |(go_at_call 168;refine(CC.out _).mono ?_;rintro e uc ⟨rfl,T7⟩)
  |(go_at_call_of 42 (ν true);refine dh ?_)
  |(go_at_call_of 42 (ν false);refine eI ?_))
 exact⟨rfl,rfl,T7⟩
theorem pw (l:List UInt8)(b:List UInt8)(f:Bool)(w:μ)(h:f=false\/b=[])
 (cp:∀W,ο prog 214 #[η ⟨l.toArray⟩,η ⟨#[80]⟩] W λE I=>E=δ (.tuple #[η ⟨b.toArray⟩,.bool f])/\I=W):
 ο prog 199 #[η ⟨l.toArray⟩] w λE I=>E=ε (bx 1)/\Below w.heap.size w I:=by
 have CP:=H cp;clear cp;cases f
 ·clear h;go_enter func199,ntmps199;go_wp2_with (first
   |(go_at_call 214;refine(CP.out _).mono ?_;rintro e u ⟨rfl,rfl⟩)
   |(go_at_call_of 42 (ν false);refine eI ?_))
  exact⟨rfl,rfl,κ _ _⟩
 obtain rfl:b=[]:=by rcases h with h|h;cases h;exact h
 go_enter func199,ntmps199;go_wp2_with (first
  |(go_at_call 214;refine(CP.out _).mono ?_;rintro e u ⟨rfl,rfl⟩)
  |(go_at_call_of 42 (ν false);refine eI ?_))
 exact⟨rfl,rfl,κ _ _⟩
theorem ER (z:UInt8)(body:List UInt8)(w:μ)(K:(80::z::body).length<=maxLen):
 ο prog 199 #[η ⟨((80:UInt8)::z::body).toArray⟩] w λE I=>E=Gq (qf (80::z::body))/\Below w.heap.size w I:=by
 have yP:(z::body).length<=maxLen:=by simp at K⊢;omega
 have cp:=Ri z body;have cc:=λW=>xC (z::body) 84 W yP;rw[Xy];have Rj:=λdl cl div G A M=>C7 z body dl cl div w G A M cp;unfold wX at Rj;cases q:sp 84 (z::body)with
 |none=>
  unfold s9;rw[q];unfold sx at cc;rw[q]at cc;exact Rj (z::body) [] false yP (by simp) (.inl ⟨rfl,rfl⟩) cc
 |some y=>
  obtain⟨a,b⟩:=y;have e:=(kt q).1;have G:a.length<=maxLen:=by
   have:a.length<=(z::body).length:=by rw[e];simp
   omega
  have A:b.length<=maxLen:=by
   have:b.length<=(z::body).length:=by rw[e];simp;omega
   omega
  unfold sx at cc;rw[q]at cc;cases b with
  |nil=>exact LW z body a w cp cc
  |cons x b=>
   unfold s9;rw[q];exact Rj a (x::b) true G A (.inr ⟨rfl,by simp⟩) cc
theorem Gs (l:List UInt8)(w:μ)(K:l.length<=maxLen):
 ο prog 199 #[η ⟨l.toArray⟩] w λE I=>E=Gq (qf l)/\Below w.heap.size w I:=by
 have cp:=λW=>Tryz.strings_CutPrefix ⟨l.toArray⟩ ⟨#[80]⟩ W;cases l with
 |nil=>exact pw [] _ _ w (.inl (by rfl)) cp
 |cons c r=>
  by_cases hc:c=80
  ·subst hc;cases r with
   |nil=>
    have e:qf [80]=none:=by decide
    rw[e];exact pw [80] _ _ w (.inr (by rfl)) cp
   |cons z body=>exact ER z body w K
  have e:qf (c::r)=none:=by
   show(if c.toNat=80 then _ else none)=none;rw[if_neg (λq=>hc (u8 q))]
  rw[e];refine pw (c::r) _ _ w (.inl ?_) cp;show Ε (c::r) [80]=false;show(((80:UInt8)==c)&&[].isPrefixOf r)=false;rw[beq_eq_false_iff_ne.2 (Ne.symm hc)];rfl
theorem BX (l:List UInt8)(p:Addr)(W:μ)(K:l.length<=maxLen)(hc:W.cell? p=some (η ⟨l.toArray⟩)):
 ο prog 198 #[.pointer (some p)] W λE I=>E=Gq (qf l)/\Below W.heap.size W I:=by
 have k:=Gs l W K;cases q:qf l with
 |none=>
  rw[q]at k;simp only[Gq]at k⊢;have C:=H k;clear k q K;go_enter func198,ntmps198;go_wp2_with (go_at_call 199;refine(C.out).mono ?_;rintro e w1 ⟨rfl,U⟩);exact⟨rfl,rfl,U⟩
 |some n=>
  rw[q]at k;simp only[Gq]at k⊢;have C:=H k;clear k q K;go_enter func198,ntmps198;go_wp2_with (go_at_call 199;refine(C.out).mono ?_;rintro e w1 ⟨rfl,U⟩);go_ret;exact⟨rfl,U⟩
theorem Rk (s:ByteArray)(w:μ)(hs:s.size<=maxLen):
 ο prog 169 #[η s] w λE I=>E=δ (Wc (qf s.data.toList))/\Below w.heap.size w I:=by
 have sI:∀(fn:Fn) (first cap:Array Value) (w:μ),(Instr.makeFunc fn first cap).run prog w=.ok (.func fn first cap) w:=λ_ _ _ _=>rfl;have dE:∀W,Below (w.alloc (θ #[η s] 9)).heap.size (w.alloc (θ #[η s] 9)) W->W.cell? ⟨w.heap.size,0,none⟩=some (η ⟨s.data.toList.toArray⟩):=λW U=>by
  rw[U.cell (p:=⟨w.heap.size,0,none⟩) (by simp)];simp[go_sem]
 have K:s.data.toList.length<=maxLen:=by rw[φ];exact hs
 cases q:qf s.data.toList with
 |none=>
  have C:=H (DR ⟨w.heap.size,0,none⟩ 1 (w.alloc (θ #[η s] 9)) (λW U=>by
   have:=BX s.data.toList ⟨w.heap.size,0,none⟩ W K (dE W U);rw[q]at this;exact this))
  clear dE K q hs;go_enter func169,ntmps169;go_wp2_with (go_at_call 25;refine(C.out).mono ?_;rintro e w1 ⟨rfl,U⟩);go_ret2;exact⟨rfl,((κ _ _).alloc (ι _) _).trans (U.mono (by simp))⟩
 |some n=>
  have C:=H (Cj ⟨w.heap.size,0,none⟩ n (w.alloc (θ #[η s] 9)) (λW U=>by
   have:=BX s.data.toList ⟨w.heap.size,0,none⟩ W K (dE W U);rw[q]at this;exact this))
  clear dE K q hs;go_enter func169,ntmps169;go_wp2_with (go_at_call 25;refine(C.out).mono ?_;rintro e w1 ⟨rfl,U⟩);go_ret2;exact⟨rfl,((κ _ _).alloc (ι _) _).trans (U.mono (by simp))⟩
theorem td:(prog.info? 9).map (λi=>(i.zero,i.size,i.bytes))=some (some (η ⟨#[]⟩),1,16):=by kernel_rfl
theorem Pb:(prog.info? 3).map (λi=>(i.zero,i.size,i.bytes))=some (some (V Z 0),1,8):=by kernel_rfl
def mI (s:ByteArray)(c:Int):Nat->Nat×List ByteArray
 |0=>(0,[])
 |k+1=>if sH s k=c then(k+1,(mI s c k).2++[s.extract (mI s c k).1 k])else mI s c k
def jO (s:ByteArray)(c:Int):List ByteArray:=(mI s c s.size).2++[s.extract (mI s c s.size).1 s.size]
theorem Pc {s:ByteArray}{c:Int}{k:Nat}(h:sH s k=c):mI s c (k+1)=(k+1,(mI s c k).2++[s.extract (mI s c k).1 k]):=by rw[mI,if_pos h]
theorem LX {s:ByteArray}{c:Int}{k:Nat}(h:¬sH s k=c):mI s c (k+1)=mI s c k:=by rw[mI,if_neg h]
theorem aed (s:ByteArray)(c:Int)(k:Nat):(mI s c k).1<=k/\(mI s c k).2.length<=k:=by
 induction k with
 |zero=>simp[mI]
 |succ k ih=>
  by_cases h:sH s k=c
  ·rw[Pc h];simp;omega
  rw[LX h];omega
theorem Rl {B:Nat}{e:Ζ}{w wr w1:μ}{v v':Value}{n:Nat}{xs:List Value}{x:Value}{o:Obj}(hB:B<=wr.heap.size)
 (aX:wr.ownsRow B e 1 v n xs)(U:Below B w wr)(gU:w1.ownsRow B e 1 v' (n+1) (xs++[x]))(th:(wr.alloc o).grownBy w1 v.ownBlock):
 w1.ownsRow B e 1 v' (n+1) (xs++[x])/\Below B w w1:=
 ⟨gU,(U.alloc hB o).grown th (by simp;omega) (λj hj=>(aX.lt j hj).1)⟩
def Bc (c:UInt8):Bool:=(decide (97<=(c.toNat:Int))&&decide ((c.toNat:Int)<=122))||(decide (48<=(c.toNat:Int))&&decide ((c.toNat:Int)<=57))
def kk (s:ByteArray):Bool:=s.data.toList.all Bc&&decide (1<=s.size)&&decide (s.size<=12)
theorem T8 (s:ByteArray)(k:Nat)(h:k<s.size):s.data.toList.take (k+1)=s.data.toList.take k++[s[k]]:=by
 rw[List.take_succ_eq_append_getElem (by simpa using h)];rfl
theorem Xz (s:ByteArray):s.data.toList.take s.size=s.data.toList:=Ϙ (Nat.le_of_eq (show s.data.toList.length=s.size by simp))
theorem T9 (s:ByteArray)(k:Nat)(h:k<s.size):s[k]∈s.data.toList:=by
 have:s[k]=s.data[k]:=rfl;rw[this];exact Array.mem_def.1 (Array.getElem_mem _)
def iC:List UInt8->List UInt8
 |[]=>[]
 |[a]=>[a]
 |[a,b]=>[a,b]
 |a::b::c::r=>if a=13/\b=10/\c=32 then iC r else a::iC (b::c::r)
theorem agx (s:ByteArray):s.data.toList.drop s.size=[]:=List.drop_of_length_le (Nat.le_of_eq (show s.data.toList.length=s.size by simp))
def strs (ls:List (List UInt8)):List Value:=ls.map λl=>ϗ ⟨l.toArray⟩
theorem BY (ls:List (List UInt8)):(strs ls).length=ls.length:=χ _
theorem Ua (ls:List (List UInt8))(l:List UInt8):strs (ls++[l])=strs ls++[ϗ ⟨l.toArray⟩]:=by simp[strs]
def vv:List UInt8->List UInt8->List (List UInt8)×Bool
 |[],acc=>([],acc.isEmpty)
 |[_],_=>([],false)
 |a::b::r,acc=>if a=13/\b=10 then(acc::(vv r []).1,(vv r []).2)else vv (b::r) (acc++[a])
def idx:List (List UInt8)->List UInt8->Option Nat
 |[],_=>none
 |a::r,n=>if a=n then some 0 else(idx r n).map (·+1)
theorem C8 {n:List UInt8}:∀{ns:List (List UInt8)},(∀j,j<ns.length->ns.getD j []≠n)->idx ns n=none
 |[],_=>rfl
 |a::r,h=>by
  have h0:a≠n:=h 0 (by simp);have hr:idx r n=none:=C8 λj hj=>h (j+1) (by simpa using hj);rw[idx,if_neg h0,hr];rfl
def Al (ns:List (List UInt8))(c:UInt8)(l:List UInt8):Option (Nat×List UInt8):=
 match sp c l with
 |none=>none
 |some (n,v)=>(idx ns n).map λk=>(k,v)
def nK (s a b c:List UInt8):Int:=if s=a then 1 else if s=b then 2 else if s=c then 3 else 0
theorem aee (a b:List UInt8):((⟨a.toArray⟩:ByteArray).toList==(⟨b.toArray⟩:ByteArray).toList)=true↔a=b:=by
 rw[Lib.bytes_beq_iff];exact⟨λh=>by have:=congrArg (λx=>x.data.toList) h;simpa using this,λh=>by rw[h]⟩
theorem aef (a b:List UInt8):(⟨a.toArray⟩:ByteArray)=⟨b.toArray⟩↔a=b:=
 ⟨λh=>by have:=congrArg (λx=>x.data.toList) h;simpa using this,λh=>by rw[h]⟩
def jP:List (List UInt8):=[[77,79],[84,85],[87,69],[84,72],[70,82],[83,65],[83,85]]
def BZ (l:List UInt8):Int:=match idx jP l with|some k=>k|none=> -1
def within (l:List UInt8)(most:Int):Bool:=dD l&&decide (1<=dv l)&&decide (dv l<=most)
def fE (l:List UInt8)(most:Int):Int:=if l.head?=some 45 then(if within l.tail most then -(dv l.tail)else 0)else(if within l most then dv l else 0)
def mJ (l:List UInt8)(lo hi:Int):Bool:=dD l&&decide (lo<=dv l)&&decide (dv l<=hi)
def ES (l:List UInt8)(lo hi x:Int):Η:=if mJ l lo hi=true then δ (V Z (dv l))else ε (bx x)
theorem wY {l:List UInt8}{lo hi x:Int}(h:mJ l lo hi=true):ES l lo hi x=δ (V Z (dv l)):=by unfold ES;rw[if_pos h]
theorem uD {l:List UInt8}{lo hi x:Int}(h:mJ l lo hi=false):ES l lo hi x=ε (bx x):=by unfold ES;rw[if_neg (by rw[h];exact Μ)]
theorem jk (l:List UInt8)(lo hi x:Int)(w:μ)(K:l.length<=maxLen):
 ο prog 131 #[η ⟨l.toArray⟩,V Z lo,V Z hi,V Z x] w λE I=>E=ES l lo hi x/\w=I:=by
 have kn:=λW=>vb l x W K;cases hn:dD l
 ·rw[tw hn]at kn;rw[uD (by unfold mJ;rw[hn];rfl)];have D:=H kn;clear kn hn K;go_enter func131,ntmps131;go_wp2_with (go_at_call 173;refine(D.out _).mono ?_;rintro e I ⟨rfl,rfl⟩);exact⟨rfl,rfl,rfl⟩
 rw[Ck hn]at kn;have D:=H kn;clear kn;by_cases h0:lo<=dv l
 ·by_cases G:dv l<=hi
  ·rw[wY (by unfold mJ;rw[hn];simp[h0,G])];clear hn K;go_enter func131,ntmps131;go_wp2_with (first
    |(go_at_call 173;refine(D.out _).mono ?_;rintro e I ⟨rfl,rfl⟩)
    |(go_at_call_of 42 (ν true);refine dh ?_))
   go_ret;exact⟨rfl,rfl⟩
  rw[uD (by unfold mJ;rw[hn];simp[h0,G])];have wx:decide (dv l<=hi)=false:=by simpa using G
  clear hn K;go_enter func131,ntmps131;go_wp2_with (first
   |(go_at_call 173;refine(D.out _).mono ?_;rintro e I ⟨rfl,rfl⟩)
   |(go_at_call_of 42 (ν false);refine eI ?_))
  exact⟨rfl,rfl,rfl⟩
 rw[uD (by unfold mJ;rw[hn];simp[h0])];have h0':decide (lo<=dv l)=false:=by simpa using h0
 clear hn K;go_enter func131,ntmps131;go_wp2_with (first
  |(go_at_call 173;refine(D.out _).mono ?_;rintro e I ⟨rfl,rfl⟩)
  |(go_at_call_of 42 (ν false);refine eI ?_))
 exact⟨rfl,rfl,rfl⟩
theorem na (l:List UInt8)(most:Int):within l most=mJ l 1 most:=rfl
def ET (l:List UInt8)(most x:Int):Η:=if fE l most=0 then ε (bx x)else δ (V Z (fE l most))
theorem Am {l:List UInt8}{most x:Int}(h:fE l most=0):ET l most x=ε (bx x):=by unfold ET;rw[if_pos h]
theorem wZ {l:List UInt8}{most x:Int}(h:¬fE l most=0):ET l most x=δ (V Z (fE l most)):=by unfold ET;rw[if_neg h]
theorem Ub (r:List UInt8)(W:μ):
 ο prog 214 #[η ⟨((45:UInt8)::r).toArray⟩,η ⟨#[45]⟩] W λE I=>E=δ (.tuple #[η ⟨r.toArray⟩,.bool true])/\I=W:=by
 have:=Tryz.strings_CutPrefix ⟨((45:UInt8)::r).toArray⟩ ⟨#[45]⟩ W;have G:Ε ((45:UInt8)::r) [45]=true:=by simp[Ε]
 have A:Α ((45:UInt8)::r) [45]=r:=by unfold Α;rw[G];rfl
 rw[show(⟨((45:UInt8)::r).toArray⟩:ByteArray).data.toList=45::r from rfl,show(⟨#[45]⟩:ByteArray).data.toList=[45]from rfl,G,A]at this;exact this
theorem XA (l:List UInt8)(W:μ)(h:¬l.head?=some 45):
 ο prog 214 #[η ⟨l.toArray⟩,η ⟨#[45]⟩] W λE I=>E=δ (.tuple #[η ⟨l.toArray⟩,.bool false])/\I=W:=by
 have:=Tryz.strings_CutPrefix ⟨l.toArray⟩ ⟨#[45]⟩ W;have G:Ε l [45]=false:=by
  cases l with
  |nil=>rfl
  |cons a r=>
   have:¬a=45:=λe=>h (by simp[e]);show((45:UInt8)==a&&([]:List UInt8).isPrefixOf r)=false;rw[Τ];left;rw[beq_eq_false_iff_ne];exact λe=>this (Eq.symm e)
 have A:Α l [45]=l:=by unfold Α;rw[G];rfl
 rw[show(⟨l.toArray⟩:ByteArray).data.toList=l from rfl,show(⟨#[45]⟩:ByteArray).data.toList=[45]from rfl,G,A]at this;exact this
theorem NK (l:List UInt8)(h:dD l=true):0<=dv l/\dv l<=9999999:=FY l h
theorem py (l:List UInt8)(most x:Int)(w:μ)(K:l.length<=maxLen):
 ο prog 174 #[η ⟨l.toArray⟩,V Z most,V Z x] w λE I=>E=ET l most x/\w=I:=by
 by_cases hh:l.head?=some 45
 ·obtain⟨r,rfl⟩:∃r,l=45::r:=by
   cases l with
   |nil=>simp at hh
   |cons a r=>exact⟨r,by simp at hh;rw[hh]⟩
  have cp:=λW=>Ub r W;have kn:=λW=>jk r 1 most x W (by simp at K;omega);have hs:fE (45::r) most=if within r most then -(dv r)else 0:=by unfold fE;rw[if_pos (by rfl)];rfl
  cases hw:mJ r 1 most
  ·rw[uD hw]at kn;rw[Am (by rw[hs,na,hw];rfl)];have D:=H kn;have CP:=H cp;clear kn hw hs hh K cp;go_enter func174,ntmps174;go_wp2_with (first
    |(go_at_call 214;refine(CP.out _).mono ?_;rintro e u ⟨rfl,rfl⟩)
    |(go_at_call 131;refine(D.out _).mono ?_;rintro e I ⟨rfl,rfl⟩))
   exact⟨rfl,rfl,rfl⟩
  rw[wY hw]at kn;have U:dD r=true:=by unfold mJ at hw;simp at hw;exact hw.1.1
  have G:1<=dv r:=by unfold mJ at hw;simp at hw;exact hw.1.2
  have A:=NK r U;have An:fE (45::r) most=-(dv r):=by rw[hs,na,hw];rfl
  rw[wZ (by rw[An];omega),An];have D:=H kn;have CP:=H cp;clear kn hw hs hh K cp U An;go_enter func174,ntmps174;go_wp2_with (first
   |(go_at_call 214;refine(CP.out _).mono ?_;rintro e u ⟨rfl,rfl⟩)
   |(go_at_call 131;refine(D.out _).mono ?_;rintro e I ⟨rfl,rfl⟩))
  go_ret;exact⟨rfl,rfl⟩
 have cp:=λW=>XA l W hh;have kn:=λW=>jk l 1 most x W K;have hs:fE l most=if within l most then dv l else 0:=by unfold fE;rw[if_neg hh]
 cases hw:mJ l 1 most
 ·rw[uD hw]at kn;rw[Am (by rw[hs,na,hw];rfl)];have D:=H kn;have CP:=H cp;clear kn hw hs hh K cp;go_enter func174,ntmps174;go_wp2_with (first
   |(go_at_call 214;refine(CP.out _).mono ?_;rintro e u ⟨rfl,rfl⟩)
   |(go_at_call 131;refine(D.out _).mono ?_;rintro e I ⟨rfl,rfl⟩))
  exact⟨rfl,rfl,rfl⟩
 rw[wY hw]at kn;have U:dD l=true:=by unfold mJ at hw;simp at hw;exact hw.1.1
 have G:1<=dv l:=by unfold mJ at hw;simp at hw;exact hw.1.2
 have An:fE l most=dv l:=by rw[hs,na,hw];rfl
 rw[wZ (by rw[An];omega),An];have D:=H kn;have CP:=H cp;clear kn hw hs hh K cp U An G;go_enter func174,ntmps174;go_wp2_with (first
  |(go_at_call 214;refine(CP.out _).mono ?_;rintro e u ⟨rfl,rfl⟩)
  |(go_at_call 131;refine(D.out _).mono ?_;rintro e I ⟨rfl,rfl⟩))
 go_ret;exact⟨rfl,rfl⟩
def yY (s:ByteArray)(x:Int):Η:=if kk s=true then δ (η s)else ε (bx x)
theorem O3 {s:ByteArray}{x:Int}(h:kk s=true):yY s x=δ (η s):=by unfold yY;rw[if_pos h]
theorem EG {s:ByteArray}{x:Int}(h:kk s=false):yY s x=ε (bx x):=by unfold yY;rw[if_neg (by rw[h];exact Μ)]
theorem Uc (s:ByteArray)(w:μ)(hs:s.size<=281474976710656):
 ο prog 91 #[η s] w λE I=>E=δ (η s)/\Below w.heap.size w I:=by
 have C:=Tryz.stringslite_Clone s w hs;go_enter func91,ntmps91;go_wp2_with (go_at_call 147;refine C.mono ?_;rintro e I ⟨rfl,U⟩);go_ret;exact⟨rfl,U⟩
theorem yV (s:ByteArray)(x:Int)(w:μ)(hs:s.size<=maxLen):
 ο prog 57 #[η s,V Z x] w λE I=>E=yY s x/\Below w.heap.size w I:=by
 unfold maxLen at hs;by_cases G:1<=s.size
 case neg=>
  have h0:s.size=0:=by omega
  obtain rfl:s=⟨#[]⟩:=by
   apply ByteArray.ext;exact Array.eq_empty_of_size_eq_zero h0
  rw[EG (by rfl)];clear h0 G hs;go_enter func57,ntmps57;go_wp2_with (go_at_call_of 42 (ν false);refine eI ?_);exact⟨rfl,rfl,κ _ _⟩
 have dp:(s.toList==[])=false:=by
  rw[ByteArray.toList_eq,beq_eq_false_iff_ne];intro e;have M:s.data.toList.length=0:=by rw[e];rfl
  rw[φ]at M;have A:s.data.size=s.size:=rfl;omega
 by_cases zm:s.size<=12
 case neg=>
  rw[EG (by unfold kk;simp;intros;omega)];have aea:¬(s.size:Int)<=12:=by omega
  go_enter func57,ntmps57;go_wp2_with (go_at_call_of 42 (ν false);refine eI ?_);exact⟨rfl,rfl,κ _ _⟩
 have aea:(s.size:Int)<=12:=by omega
 go_enter func57,ntmps57;go_wp2_with (go_at_call_of 42 (ν true);refine dh ?_);go_loop [17] (λi=>∃k:Nat,k<=s.size/\i=V Z (k:Int)/\Φ ((s.data.toList.take k).all Bc=true)) (λi=>s.size-(intOf i).toNat)
 case atStart=>exact⟨0,by omega,rfl,H (by simp)⟩
 case round=>
  obtain⟨k,Y,rfl,bD⟩:=hrel;by_cases aR:k<s.size
  case neg=>
   have ie:k=s.size:=by omega
   subst ie;have A:=bD.out;rw[Xz]at A;have E:=H (O3 (x:=x) (show kk s=true by unfold kk;rw[A];simp[G,zm]));clear A bD;have C:=H (Uc s w (by omega));go_wp2_with (go_at_call 91;refine(C.out).mono ?_;rintro e w2 ⟨rfl,U⟩);go_ret;exact⟨by rw[E.out];rfl,U⟩
  case pos=>
   cases hn:Bc s[k]
   case false=>
    have e:kk s=false:=by
     unfold kk;rw[Τ];left;rw[Τ];left;rw[List.all_eq_false];exact⟨s[k],T9 s k aR,by rw[hn];exact Μ⟩
    have E:=H (EG (x:=x) e);clear bD e;unfold Bc at hn;rw[Bool.or_eq_false_iff]at hn;obtain⟨n1,n2⟩:=hn;by_cases a:97<=(s[k].toNat:Int)
    ·have b:decide ((s[k].toNat:Int)<=122)=false:=by rw[decide_eq_true a,Bool.true_and]at n1;exact n1
     clear n1;go_wp2_with (first
      |(go_at_call 90;refine(lJ _ _).mono ?_;rintro e I ⟨rfl,rfl⟩;rw[n2])
      |(go_at_call_of 42 (ν false);refine eI ?_))
     exact⟨rfl,by rw[E.out],κ _ _⟩
    have a':decide (97<=(s[k].toNat:Int))=false:=by simpa using a
    clear n1;go_wp2_with (first
     |(go_at_call 90;refine(lJ _ _).mono ?_;rintro e I ⟨rfl,rfl⟩;rw[n2])
     |(go_at_call_of 42 (ν false);refine eI ?_))
    exact⟨rfl,by rw[E.out],κ _ _⟩
   case true=>
    have Z3:Φ ((s.data.toList.take (k+1)).all Bc=true):=H (by rw[T8 s k aR];simp[bD.out,hn]);clear bD;unfold Bc at hn;cases n2:(decide (48<=(s[k].toNat:Int))&&decide ((s[k].toNat:Int)<=57))
    ·rw[n2,Bool.or_false,ϊ,decide_eq_true_eq,decide_eq_true_eq]at hn;obtain⟨a,b⟩:=hn;go_wp2_with (first
      |(go_at_call 90;refine(lJ _ _).mono ?_;rintro e I ⟨rfl,rfl⟩;rw[n2])
      |(go_at_call_of 42 (ν true);refine dh ?_))
     exact⟨⟨k+1,by omega,by go_num,Z3⟩,by simp[intOf];omega⟩
    clear hn;go_wp2_with (first
     |(go_at_call 90;refine(lJ _ _).mono ?_;rintro e I ⟨rfl,rfl⟩;rw[n2])
     |(go_at_call_of 42 (ν true);refine dh ?_))
    exact⟨⟨k+1,by omega,by go_num,Z3⟩,by simp[intOf];omega⟩
theorem aeg (v o:ByteArray)(w:μ):ο prog 122 #[.agg #[η v,.bool true],η o] w λE I=>E=δ (η v)/\Below w.heap.size w I:=by
 go_enter func122,ntmps122;go_wp2;go_ret;exact⟨rfl,(κ _ _).alloc (ι _) _⟩
theorem agy (v o:ByteArray)(w:μ):ο prog 122 #[.agg #[η v,.bool false],η o] w λE I=>E=δ (η o)/\Below w.heap.size w I:=by
 go_enter func122,ntmps122;go_wp2;go_ret;exact⟨rfl,(κ _ _).alloc (ι _) _⟩
theorem abG {P:ϝ}{ops:Array ϛ}{rest:List ϛ}{o:ϛ}{a:Ϛ}{Q:Exit->Ϛ->μ->Prop}{w wr:μ}{obj:Obj}(rH:o.guard=none)(s x:Operand)(t e:Ζ)(z:Value)(bytes:Nat)
 (ho:o.op=.call {callee:=.builtin .append,args:=#[s,x],argTypes:=#[t,t]})(hu:P.underlying t=some (.slice e))
 (xI:(P.info? e).map (λi=>(i.zero,i.size,i.bytes))=some (some z,1,bytes))(hz:z.cells.size=1)(B:Nat)(v:Value)(n:Nat)(xs:List Value)(hs:a.eval s=v)
 (aX:wr.ownsRow B e 1 v n xs)(dL:Below B w wr)(hB:B<=wr.heap.size)(y:Value)(hy:y.oneCell'=true)(N:a.eval x=ζ (some ⟨wr.heap.size,0,none⟩) 1 1)
 (hc:(wr.alloc obj).cell? ⟨wr.heap.size,0,none⟩=some y)(hn:n<=4194304)(tT:bytes<=64)
 (h:∀v' w1,w1.ownsRow B e 1 v' (n+1) (xs++[y])->Below B w w1->B<=w1.heap.size->wpList P ops Q rest (a.put o.dst v') w1):wpList P ops Q (o::rest) a (wr.alloc obj):=by
 obtain⟨i0,hi,iY,wD,gX⟩:=info_parts xI;refine wpList_append_own _ rH s x t ho B e i0 z 1 bytes hu hi iY wD gX hz (by decide) v n xs hs (aX.alloc _) ⟨wr.heap.size,0,none⟩ 1 1 [y] N rfl ?_ ?_ ?_ ?_ ?_ ?_
 ·intro j u hj
  match j,hj with
  |0,hj=>simp at hj;subst hj;exact hc
 ·intro u hu;simp at hu;subst hu;exact hy
 ·unfold maxLen;omega
 ·have:(n+1)*bytes<=4194305*64:=Nat.mul_le_mul (by omega) tT;omega
 ·simp;omega
 intro v' w1 gU th _;have R:=Rl hB aX dL gU th;exact h v' w1 R.1 R.2 (by have:=th.size;simp at this;omega)
def uE (n:Int):Bool->List Int->List Int
 |d,[]=>if d=true then[]else[n]
 |d,a::r=>(if d=false/\n<=a then[n]else[])++(if a=n then[]else[a])++uE n (d||decide (n<=a)) r
theorem IP {w:μ}{B:Nat}{e:Ζ}{v:Value}{n:Nat}{xs:List Value}(h:w.ownsRow B e 1 v n xs):
 (v=ζ none 0 0/\xs=[])\/∃g cap,v=ζ (some ⟨g,0,none⟩) n cap/\B<=g/\g<w.heap.size/\∀j y,xs[j]?=some y->w.cell? ⟨g,j,none⟩=some y:=by
 obtain⟨K,h|⟨g,cap,cur,hv,U,hh,Hq,Bv,bA,ht⟩⟩:=h
 ·exact .inl ⟨h.1,List.eq_nil_of_length_eq_zero (by rw[K,h.2])⟩
 refine .inr ⟨g,cap,hv,U,?_,λj y hj=>?_⟩
 ·exact(Array.getElem?_eq_some_iff.1 hh).1
 rw[<-ht]at hj;have A:=List.getElem?_eq_some_iff.1 hj;obtain⟨aR,he⟩:=A;rw[ϡ]at aR;rw[List.getElem_take]at he;unfold World.cell?;rw[hh];simp only[Option.isSome_none,Bool.false_eq_true,if_false];rw[ξ (by have:=Nat.min_le_right (n*1) cur.toList.length;rw[φ]at this;omega)];rw[<-he];rfl
def IQ:List ByteArray->List Int->Option (List Int)
 |[],acc=>some acc
 |l::r,acc=>if kV l=true then IQ r (uE (kj l) false acc)else none
def LY (s:ByteArray):Option (List Int):=if(jO s 44).length<=20 then IQ (jO s 44) []else none
theorem XB {w:μ}{B:Nat}{e:Ζ}{v:Value}{n:Nat}{xs:List Value}(h:w.ownsRow B e 1 v n xs):∃a n c,v=ζ a n c:=by
 rcases IP h with⟨h,_⟩|⟨g,cap,h,_⟩
 ·exact⟨_,_,_,h⟩
 exact⟨_,_,_,h⟩
def vX (most:Int)(kp:Bool)(l:ByteArray):Option Int:=
 if fE l.data.toList most=0 then none else if fE l.data.toList most<0/\kp=false then none else some (fE l.data.toList most)
def Ud (most:Int)(kp:Bool):List ByteArray->List Int->Option (List Int)
 |[],acc=>some acc
 |l::r,acc=>match vX most kp l with|none=>none|some z=>Ud most kp r (acc++[z])
def vw (s:ByteArray)(most:Int)(kp:Bool):Option (List Int):=if(jO s 44).length<=20 then Ud most kp (jO s 44) []else none
def KQ (z:Int):List UInt8:=if cU z=true then kq z else[]
theorem aa3 (z:Int):(KQ z).length<=16:=by
 unfold KQ;split
 ·unfold kq;simp[oV]
 simp
theorem QI (z:Int):∃x,kr z=.tuple #[η ⟨(KQ z).toArray⟩,V Z x]:=by
 unfold kr KQ;cases cU z
 ·exact⟨1,rfl⟩
 exact⟨0,rfl⟩
def XC (l:ByteArray):Option (Int×Int):=
 if l.size<2 then none
 else if BZ (cut l (l.size-2) 2)<0 then none
 else if l.size=2 then some (BZ (cut l (l.size-2) 2),0)
 else if fE (cut l 0 (l.size-2)) 53=0 then none
 else some (BZ (cut l (l.size-2) 2),fE (cut l 0 (l.size-2)) 53)
def Ue:List ByteArray->List Int×List Int->Option (List Int×List Int)
 |[],acc=>some acc
 |l::r,acc=>match XC l with|none=>none|some q=>Ue r (acc.1++[q.1],acc.2++[q.2])
def EU (s:ByteArray):Option (List Int×List Int):=if(jO s 44).length<=20 then Ue (jO s 44) ([],[])else none
theorem fZ (w:μ)(a:Addr)(v:Value):(w.setCell a v).heap.size=w.heap.size:=by simp[Ϥ]
def Pd (l:List UInt8):Int:=if l=[89,69,65,82,76,89]then 4 else nK l [68,65,73,76,89] [87,69,69,75,76,89] [77,79,78,84,72,76,89]
def iZ:List (List UInt8):=[[85,73,68],[68,84,83,84,65,82,84],[68,85,82,65,84,73,79,78],[68,84,69,78,68],[82,82,85,76,69],[69,88,68,65,84,69],[82,68,65,84,69],[84,82,65,78,83,80],[83,84,65,84,85,83]]
def cF:List (List UInt8):=[[70,82,69,81],[73,78,84,69,82,86,65,76],[67,79,85,78,84],[85,78,84,73,76],[66,89,77,79,78,84,72],[66,89,77,79,78,84,72,68,65,89],[66,89,68,65,89],[66,89,83,69,84,80,79,83],[87,75,83,84]]
def ff (ns:List (List UInt8))(c:UInt8):List (List UInt8)->(Nat->Option (List UInt8))->Option (Nat->Option (List UInt8))
 |[],f=>some f
 |l::r,f=>match Al ns c l with
  |none=>none
  |some (k,v)=>if(f k).isSome then none else ff ns c r (λj=>if j=k then some v else f j)
def jG (w:μ)(b off:Nat)(ns:List (List UInt8)):Prop:=∀j,j<ns.length->w.cell? ⟨b,off+j,none⟩=some (η ⟨(ns.getD j []).toArray⟩)
def bJ (l:List UInt8):ByteArray:=⟨l.toArray⟩
theorem Pe {a b:List UInt8}:bJ a=bJ b↔a=b:=aef a b
theorem LZ (l:List UInt8):∀(ns:List (List UInt8)) (i:Nat),Lib.idxFromS (ns.map bJ) (bJ l) i=match idx ns l with|none=> -1|some k=>((i+k:Nat):Int)
 |[],i=>rfl
 |a::r,i=>by
  rw[Ϧ,Lib.idxFromS,idx];by_cases h:a=l
  ·rw[if_pos h,if_pos (Pe.2 h)];rfl
  rw[if_neg h,if_neg (λe=>h (Pe.1 e)),LZ l r (i+1)];cases idx r l with
  |none=>rfl
  |some k=>show((i+1+k:Nat):Int)=((i+(k+1):Nat):Int);congr 1;omega
theorem abH (ns:List (List UInt8))(l:List UInt8):Lib.idxOfS (ns.map bJ) (bJ l)=match idx ns l with|none=> -1|some k=>(k:Int):=by
 unfold Lib.idxOfS;rw[LZ];cases idx ns l with
 |none=>rfl
 |some k=>simp
theorem XD (ns:List (List UInt8))(j:Nat)(h:j<ns.length):(ns.map bJ).getD j ByteArray.empty=⟨(ns.getD j []).toArray⟩:=by
 simp[List.getD,h,bJ]
def B0 (ns:List (List UInt8))(l:List UInt8)(x:Int):Η:=match idx ns l with|none=> ε (bx x)|some k=> δ (V Z k)
theorem rW {ns:List (List UInt8)}{l:List UInt8}{x:Int}(h:idx ns l=none):B0 ns l x=ε (bx x):=by unfold B0;rw[h]
theorem oM {ns:List (List UInt8)}{l:List UInt8}{x:Int}{k:Nat}(h:idx ns l=some k):B0 ns l x=δ (V Z k):=by unfold B0;rw[h]
theorem pz (b off cap:Nat)(ns:List (List UInt8))(l:List UInt8)(x:Int)(w:μ)(hn:ns.length<=100)(hc:jG w b off ns):
 ο prog 121 #[η ⟨l.toArray⟩,ζ (some ⟨b,off,none⟩) ns.length cap,V Z x] w λE I=>E=B0 ns l x/\w=I:=by
 have k:=Tryz.slices_Index_string b off ns.length cap (ns.map bJ) (bJ l) w (by simp) (by omega) (λj hj=>by rw[χ]at hj;rw[XD ns j hj];exact hc j hj);rw[Ϙ (by simp),abH]at k;cases hi:idx ns l with
 |none=>
  rw[rW hi];rw[hi]at k;have aqy:=H k;clear k hi hc hn;go_enter func121,ntmps121;go_wp2_with (first
   |(go_at_call 148;refine(aqy.out).mono ?_;rintro e I ⟨rfl,rfl⟩)
   |(go_at_call_of 42 (ν false);refine eI ?_))
  exact⟨rfl,rfl,rfl⟩
 |some i=>
  rw[oM hi];rw[hi]at k;have aqy:=H k;clear k hi hc hn;go_enter func121,ntmps121;go_wp2_with (first
   |(go_at_call 148;refine(aqy.out).mono ?_;rintro e I ⟨rfl,rfl⟩)
   |(go_at_call_of 42 (ν true);refine dh ?_))
  go_ret;exact⟨rfl,rfl⟩
structure cX (w:μ)(g:Nat)(f:Nat->Option (List UInt8)):Prop where
 lt:g<w.heap.size
 val:∀k,k<9->w.cell? ⟨g,k*2,none⟩=some (η ⟨((f k).getD []).toArray⟩)
 there:∀k,k<9->w.cell? ⟨g,k*2+1,none⟩=some (.bool (f k).isSome)
 fv:∀k,k<9->w.frozen? ⟨g,k*2,none⟩=false
 ft:∀k,k<9->w.frozen? ⟨g,k*2+1,none⟩=false
def nL (ns:List (List UInt8))(c:UInt8)(ps:List (List UInt8))(x:Int)(w:μ)(E:Η)(I:μ):Prop:=
 (match ff ns c ps (λ_=>none)with
 |none=>E=ε (bx x)
 |some F=>∃g,E=δ (ζ (some ⟨g,0,none⟩) 9 9)/\w.heap.size<=g/\cX I g F)/\Below w.heap.size w I
def L0:Array Value:=#[η ⟨#[]⟩,.bool false,η ⟨#[]⟩,.bool false,η ⟨#[]⟩,.bool false,η ⟨#[]⟩,.bool false,η ⟨#[]⟩,.bool false,η ⟨#[]⟩,.bool false,η ⟨#[]⟩,.bool false,η ⟨#[]⟩,.bool false,η ⟨#[]⟩,.bool false]
theorem agz (w:μ):(Instr.makeSlice 123 (V Z 9) (V Z 9)).run prog w=.ok (ζ (some ⟨w.heap.size,0,none⟩) 9 9) (w.alloc (θ L0 126)):=by
 kernel_rfl
theorem abI (w:μ):cX (w.alloc (θ L0 126)) w.heap.size (λ_=>none):=by
 refine⟨by simp,λk Y=>?_,λk Y=>?_,λk Y=>by simp[go_sem],λk Y=>by simp[go_sem]⟩
 ·have:k=0\/k=1\/k=2\/k=3\/k=4\/k=5\/k=6\/k=7\/k=8:=by omega
  rcases this with rfl|rfl|rfl|rfl|rfl|rfl|rfl|rfl|rfl<;>simp[go_sem,L0]
 have:k=0\/k=1\/k=2\/k=3\/k=4\/k=5\/k=6\/k=7\/k=8:=by omega
 rcases this with rfl|rfl|rfl|rfl|rfl|rfl|rfl|rfl|rfl<;>simp[go_sem,L0]
theorem yc {w I:μ}{b off:Nat}{ns:List (List UInt8)}(h:jG w b off ns)(U:b<w.heap.size)(N:Below w.heap.size w I):jG I b off ns:=λj hj=>by
 rw[N.cell (p:=⟨b,off+j,none⟩) U];exact h j hj
theorem Ao:∀{ns:List (List UInt8)} {n:List UInt8} {k:Nat},idx ns n=some k->k<ns.length
 |[],n,k,h=>by simp[idx]at h
 |a::r,n,k,h=>by
  rw[idx]at h;by_cases e:a=n
  ·rw[if_pos e]at h;cases h;simp
  rw[if_neg e]at h;obtain⟨j,hj,rfl⟩:=Option.map_eq_some_iff.1 h;have:=Ao hj;simp;omega
theorem Gt (b off cap:Nat)(ns:List (List UInt8))(l:List UInt8)(x:Int)(w:μ)(hn:ns.length=9)(hc:jG w b off ns):
 ο prog 121 #[η ⟨l.toArray⟩,ζ (some ⟨b,off,none⟩) 9 cap,V Z x] w λE I=>E=B0 ns l x/\w=I:=by
 have:=pz b off cap ns l x w (by omega) hc;rw[hn]at this;exact this
theorem cX.on {w I:μ}{g:Nat}{f:Nat->Option (List UInt8)}(h:cX w g f)(U:Below w.heap.size w I):cX I g f:=
 ⟨Ϟ h.lt U.size,λk Y=>by rw[U.cell (p:=⟨g,k*2,none⟩) h.lt];exact h.val k Y,λk Y=>by rw[U.cell (p:=⟨g,k*2+1,none⟩) h.lt];exact h.there k Y,
  λk Y=>by rw[U.frozen (p:=⟨g,k*2,none⟩) h.lt];exact h.fv k Y,λk Y=>by rw[U.frozen (p:=⟨g,k*2+1,none⟩) h.lt];exact h.ft k Y⟩
theorem xa {g i k:Nat}(h:i≠k):(⟨g,i,none⟩:Addr)≠⟨g,k,none⟩:=λe=>h (congrArg Addr.off e)
theorem cX.put {w:μ}{g j:Nat}{f:Nat->Option (List UInt8)}(h:cX w g f)(hj:j<9)(v:List UInt8):
 cX ((w.setCell ⟨g,j*2,none⟩ (η ⟨v.toArray⟩)).setCell ⟨g,j*2+1,none⟩ (.bool true)) g (λi=>if i=j then some v else f i):=by
 refine⟨by rw[fZ,fZ];exact h.lt,λk Y=>?_,λk Y=>?_,λk Y=>by rw[Β,Β];exact h.fv k Y,λk Y=>by rw[Β,Β];exact h.ft k Y⟩
 ·rw[ρ _ _ _ _ (xa (by omega))];by_cases e:k=j
  ·subst e;rw[World.cell?_setCell_same _ _ _ (h.val k Y),if_pos rfl];rfl
  rw[ρ _ _ _ _ (xa (by omega)),if_neg e];exact h.val k Y
 by_cases e:k=j
 ·subst e;rw[World.cell?_setCell_same _ _ _ ((ρ _ _ _ _ (xa (by omega))).trans (h.there k Y)),if_pos rfl];rfl
 rw[ρ _ _ _ _ (xa (by omega)),ρ _ _ _ _ (xa (by omega)),if_neg e];exact h.there k Y
theorem EW (b off cap nb L3 Rm:Nat)(ns ps:List (List UInt8))(c:UInt8)(x:Int)(w:μ)(hn:ns.length=9)(J:ps.length<=1048576)(hs:∀l∈ps,l.length<=1048576)
 (U:b<w.heap.size)(kA:nb<w.heap.size)(hc:jG w b off ps)(Oo:jG w nb L3 ns):
 ο prog 119 #[ζ (some ⟨b,off,none⟩) ps.length cap,η ⟨#[c]⟩,ζ (some ⟨nb,L3,none⟩) 9 Rm,V Z x] w (nL ns c ps x w):=by
 have HC:=H hc;have HN:=H Oo;have HS:=H hs;have HL:=H hn;clear hc Oo hs hn;have mk:=agz;go_enter func119,ntmps119;go_wp2;have kh:cX (w.alloc (θ L0 126)) w.heap.size (λ_=>none):=abI w;go_loopw [21] (λi wr=>∃(k:Nat) (f:Nat->Option (List UInt8)),k<=ps.length/\i=V Z k/\cX wr w.heap.size f/\Below w.heap.size w wr/\Φ (ff ns c ps (λ_=>none)=ff ns c (ps.drop k) f)) (λi _=>ps.length-(intOf i).toNat)
 case atStart=>exact⟨0,_,ϋ _,rfl,kh,(κ _ _).alloc (ι _) _,H (by simp)⟩
 case round=>
  obtain⟨k,f,Y,rfl,hf,dL,HT⟩:=hrel;have hB:=dL.size;clear kh mk;by_cases aR:k<ps.length
  case neg=>
   have ie:k=ps.length:=by omega
   subst ie;have HE:Φ (ff ns c ps (λ_=>none)=some f):=H (by rw[HT.out,Ο];rfl);clear HT;go_wp2;go_ret;unfold nL;rw[HE.out];exact⟨⟨_,rfl,ι _,hf⟩,dL⟩
  case pos=>
   obtain⟨l,K⟩:∃l,ps[k]?=some l:=⟨_,υ aR⟩;have iS:wr.cell? ⟨b,off+k,none⟩=some (η ⟨l.toArray⟩):=by
    rw[dL.cell (p:=⟨b,off+k,none⟩) U,HC.out k aR];simp[List.getD,K]
   have OG:l.length<=maxLen:=by have:=HS.out l (Υ K);unfold maxLen;omega
   have hd:ps.drop k=l::ps.drop (k+1):=by
    obtain⟨bV,he⟩:=List.getElem?_eq_some_iff.1 K;rw[τ bV,he]
   have CC:=xC l c wr OG;unfold sx at CC;cases oH:sp c l with
   |none=>
    have HE:Φ (ff ns c ps (λ_=>none)=none):=H (by rw[HT.out,hd,ff];unfold Al;rw[oH]);rw[oH]at CC;have C:=H CC;clear HT CC oH hd K;go_wp2_with (first
     |(go_at_call 168;refine(C.out).mono ?_;rintro e w1 ⟨rfl,ay⟩)
     |(go_at_call_of 42 (ν false);refine eI ?_))
    refine⟨rfl,?_⟩;unfold nL;rw[HE.out];exact⟨rfl,dL.trans (ay.mono hB)⟩
   |some q=>
    obtain⟨n,v⟩:=q;rw[oH]at CC;have C:=H CC;cases hi:idx ns n with
    |none=>
     have HE:Φ (ff ns c ps (λ_=>none)=none):=H (by rw[HT.out,hd,ff];unfold Al;rw[oH];simp only[];rw[hi];rfl);have HX:=H (rW (x:=x) hi);clear HT CC oH hd K hi;go_wp2_with (first
      |(go_at_call 168;refine(C.out).mono ?_;rintro e w1 ⟨rfl,ay⟩)
      |(go_at_call_of 42 (ν true);refine dh ?_)
      |(go_at_call 121;refine(Gt nb L3 Rm ns n x _ HL.out (yc HN.out kA (dL.trans (ay.mono hB)))).mono ?_;rw[HX.out];rintro e I ⟨rfl,rfl⟩))
     refine⟨rfl,?_⟩;unfold nL;rw[HE.out];exact⟨rfl,dL.trans (ay.mono hB)⟩
    |some j=>
     have hj:j<9:=by have:=Ao hi;rw[HL.out]at this;exact this
     have HX:=H (oM (x:=x) hi);cases Z5:(f j).isSome
     case true=>
      have HE:Φ (ff ns c ps (λ_=>none)=none):=H (by rw[HT.out,hd,ff];unfold Al;rw[oH];simp only[];rw[hi];simp only[Δ];rw[if_pos Z5]);clear HT CC oH hd K hi;go_wp2_with (first
       |(go_at_call 168;refine(C.out).mono ?_;rintro e w1 ⟨rfl,ay⟩;have ct:=(hf.on ay).there j hj;rw[Z5]at ct)
       |(go_at_call_of 42 (ν true);refine dh ?_)
       |(go_at_call_of 42 (ν false);refine eI ?_)
       |(go_at_call 121;refine(Gt nb L3 Rm ns n x _ HL.out (yc HN.out kA (dL.trans (ay.mono hB)))).mono ?_;rw[HX.out];rintro e I ⟨rfl,rfl⟩))
      refine⟨rfl,?_⟩;unfold nL;rw[HE.out];exact⟨rfl,dL.trans (ay.mono hB)⟩
     case false=>
      have HE:Φ (ff ns c ps (λ_=>none)=ff ns c (ps.drop (k+1)) (λi=>if i=j then some v else f i)):=H (by rw[HT.out,hd,ff];unfold Al;rw[oH];simp only[];rw[hi];simp only[Δ];rw[if_neg (by rw[Z5];exact Μ)]);clear HT CC oH hd K hi;go_wp2_with (first
       |(go_at_call 168;refine(C.out).mono ?_;rintro e w1 ⟨rfl,ay⟩;have IS:=hf.on ay;have ct:=IS.there j hj;rw[Z5]at ct;have cv:=IS.val j hj;have fv:=IS.fv j hj;have ft:=IS.ft j hj)
       |(go_at_call_of 42 (ν true);refine dh ?_)
       |(go_at_call 121;refine(Gt nb L3 Rm ns n x _ HL.out (yc HN.out kA (dL.trans (ay.mono hB)))).mono ?_;rw[HX.out];rintro e I ⟨rfl,rfl⟩))
      go_roundw
      case rel=>exact⟨k+1,_,by omega,by go_num,IS.put hj v,((dL.trans (ay.mono hB)).setCell (ι _) _).setCell (ι _) _,HE⟩
      case measure=>simp[intOf];omega
def bI (f:Option (List UInt8)):Value:=.agg #[η ⟨(f.getD []).toArray⟩,.bool f.isSome]
theorem i7 (w:μ)(ns:List (List UInt8))(t:Ζ):jG (w.alloc (θ (strs ns).toArray t)) w.heap.size 0 ns:=λj hj=>by
 rw[Θ];simp[go_sem,strs,List.getD,hj]
def ja:List (List UInt8):=[[68,65,73,76,89],[87,69,69,75,76,89],[77,79,78,84,72,76,89],[89,69,65,82,76,89]]
theorem Bq (v:List UInt8)(b:Bool)(w:μ):
 ο prog 130 #[.agg #[η ⟨v.toArray⟩,.bool b]] w λE I=>E=B0 ja v 3/\Below w.heap.size w I:=by
 have bA:(w.alloc (θ #[η ⟨v.toArray⟩,.bool b] 126)).heap.size=w.heap.size+1:=by simp
 have C:=H (pz (w.heap.size+1) 0 4 ja v 3 ((w.alloc (θ #[η ⟨v.toArray⟩,.bool b] 126)).alloc (θ (strs ja).toArray 9)) (by decide)
  (by have:=i7 (w.alloc (θ #[η ⟨v.toArray⟩,.bool b] 126)) ja 9;rw[bA]at this;exact this))
 clear bA;cases hi:idx ja v with
 |none=>
  have HX:=H (rW (x:=3) hi);rw[HX.out];clear hi;go_enter func130,ntmps130;go_wp2_with (go_at_call 121;refine(C.out).mono ?_;rw[HX.out];rintro e I ⟨rfl,rfl⟩);exact⟨rfl,rfl,((κ _ _).alloc (ι _) _).alloc (by simp) _⟩
 |some k=>
  have HX:=H (oM (x:=3) hi);rw[HX.out];clear hi;go_enter func130,ntmps130;go_wp2_with (go_at_call 121;refine(C.out).mono ?_;rw[HX.out];rintro e I ⟨rfl,rfl⟩);go_ret;exact⟨rfl,((κ _ _).alloc (ι _) _).alloc (by simp) _⟩
theorem pA (v:List UInt8)(w:μ):
 ο prog 139 #[η ⟨v.toArray⟩] w λE I=>E=B0 jP v 3/\Below w.heap.size w I:=by
 have C:=H λW=>pz W.heap.size 0 7 jP v 3 (W.alloc (θ (strs jP).toArray 9)) (by decide) (i7 W jP 9);cases hi:idx jP v with
 |none=>
  have HX:=H (rW (x:=3) hi);rw[HX.out];clear hi;go_enter func139,ntmps139;go_wp2_with (go_at_call 121;refine(C.out _).mono ?_;rw[HX.out];rintro e I ⟨rfl,rfl⟩);exact⟨rfl,rfl,(κ _ _).alloc (ι _) _⟩
 |some k=>
  have HX:=H (oM (x:=3) hi);rw[HX.out];clear hi;go_enter func139,ntmps139;go_wp2_with (go_at_call 121;refine(C.out _).mono ?_;rw[HX.out];rintro e I ⟨rfl,rfl⟩);go_ret;exact⟨rfl,(κ _ _).alloc (ι _) _⟩
def L4 (f:Option (List UInt8)):Η:=match f with|none=> δ (V Z 0)|some v=>ES v 1 1000 3
theorem JH (f:Option (List UInt8))(w:μ)(hf:(f.getD []).length<=maxLen):
 ο prog 132 #[bI f] w λE I=>E=L4 f/\Below w.heap.size w I:=by
 cases f with
 |none=>
  unfold bI L4;go_enter func132,ntmps132;go_wp2;go_ret;exact⟨rfl,(κ _ _).alloc (ι _) _⟩
 |some v=>
  have k:=λW=>jk v 1 1000 3 W hf;unfold bI L4;cases hw:mJ v 1 1000
  ·have HX:=H (uD (x:=3) hw);simp only[];rw[HX.out];rw[HX.out]at k;have C:=H k;clear k hw hf HX;go_enter func132,ntmps132;go_wp2_with (go_at_call 131;refine(C.out _).mono ?_;rintro e I ⟨rfl,rfl⟩);exact⟨rfl,rfl,(κ _ _).alloc (ι _) _⟩
  have HX:=H (wY (x:=3) hw);simp only[];rw[HX.out];rw[HX.out]at k;have C:=H k;clear k hw hf HX;go_enter func132,ntmps132;go_wp2_with (go_at_call 131;refine(C.out _).mono ?_;rintro e I ⟨rfl,rfl⟩);go_ret;exact⟨rfl,(κ _ _).alloc (ι _) _⟩
def L5 (f:Option (List UInt8)):Η:=match f with
 |none=> δ (V Z 9223372036854775807)
 |some v=>if kV (bJ v)=true then δ (V Z (kj (bJ v)))else ε (bx 3)
theorem JI (f:Option (List UInt8))(w:μ):
 ο prog 133 #[bI f] w λE I=>E=L5 f/\Below w.heap.size w I:=by
 cases f with
 |none=>
  unfold bI L5;go_enter func133,ntmps133;go_wp2;go_ret;exact⟨rfl,(κ _ _).alloc (ι _) _⟩
 |some v=>
  have k:=λW=>zt (bJ v) W;unfold bI L5;simp only[];by_cases ht:kV (bJ v)=true
  ·rw[xv (gW.1 ht)]at k;rw[if_pos ht];have C:=H k;clear k ht;go_enter func133,ntmps133;go_wp2_with (first
    |(go_at_call 9;refine(C.out _).mono ?_;rintro e w1 ⟨rfl,ay⟩)
    |(go_at_call_of 42 (ν true);refine dh ?_))
   go_ret;exact⟨rfl,((κ _ _).alloc (ι _) _).trans (ay.mono (by simp))⟩
  rw[zk (λh=>ht (gW.2 h))]at k;rw[if_neg ht];have C:=H k;clear k ht;go_enter func133,ntmps133;go_wp2_with (first
   |(go_at_call 9;refine(C.out _).mono ?_;rintro e w1 ⟨rfl,ay⟩)
   |(go_at_call_of 42 (ν false);refine eI ?_))
  exact⟨rfl,rfl,((κ _ _).alloc (ι _) _).trans (ay.mono (by simp))⟩
theorem JJ (v:List UInt8)(w:μ)(K:v.length<=maxLen):
 ο prog 134 #[η ⟨v.toArray⟩] w λE I=>E=ES v 1 12 3/\Below w.heap.size w I:=by
 have k:=λW=>jk v 1 12 3 W K;cases hw:mJ v 1 12
 ·rw[uD hw]at k⊢;have C:=H k;clear k hw K;go_enter func134,ntmps134;go_wp2_with (go_at_call 131;refine(C.out _).mono ?_;rintro e I ⟨rfl,rfl⟩);exact⟨rfl,rfl,κ _ _⟩
 rw[wY hw]at k⊢;have C:=H k;clear k hw K;go_enter func134,ntmps134;go_wp2_with (go_at_call 131;refine(C.out _).mono ?_;rintro e I ⟨rfl,rfl⟩);go_ret;exact⟨rfl,κ _ _⟩
theorem C9 (v:List UInt8)(w:μ)(K:v.length<=maxLen):
 ο prog 135 #[η ⟨v.toArray⟩] w λE I=>E=ET v 31 3/\Below w.heap.size w I:=by
 have k:=λW=>py v 31 3 W K;by_cases hw:fE v 31=0
 ·rw[Am hw]at k⊢;have C:=H k;clear k hw K;go_enter func135,ntmps135;go_wp2_with (go_at_call 174;refine(C.out _).mono ?_;rintro e I ⟨rfl,rfl⟩);exact⟨rfl,rfl,κ _ _⟩
 rw[wZ hw]at k⊢;have C:=H k;clear k hw K;go_enter func135,ntmps135;go_wp2_with (go_at_call 174;refine(C.out _).mono ?_;rintro e I ⟨rfl,rfl⟩);go_ret;exact⟨rfl,κ _ _⟩
theorem JK (v:List UInt8)(w:μ)(K:v.length<=maxLen):
 ο prog 138 #[η ⟨v.toArray⟩] w λE I=>E=ET v 366 3/\Below w.heap.size w I:=by
 have k:=λW=>py v 366 3 W K;by_cases hw:fE v 366=0
 ·rw[Am hw]at k⊢;have C:=H k;clear k hw K;go_enter func138,ntmps138;go_wp2_with (go_at_call 174;refine(C.out _).mono ?_;rintro e I ⟨rfl,rfl⟩);exact⟨rfl,rfl,κ _ _⟩
 rw[wZ hw]at k⊢;have C:=H k;clear k hw K;go_enter func138,ntmps138;go_wp2_with (go_at_call 174;refine(C.out _).mono ?_;rintro e I ⟨rfl,rfl⟩);go_ret;exact⟨rfl,κ _ _⟩
theorem nf (s:ByteArray)(w:μ):
 ο prog 82 #[η s] w λE I=>E=sY s/\Below w.heap.size w I:=by
 have k:=λW=>zt s W;by_cases ht:kV s=true
 ·rw[xv (gW.1 ht)]at k;rw[uW (gW.1 ht)];have C:=H k;clear k ht;go_enter func82,ntmps82;go_wp2_with (first
   |(go_at_call 9;refine(C.out _).mono ?_;rintro e w1 ⟨rfl,ay⟩)
   |(go_at_call_of 42 (ν true);refine dh ?_))
  go_ret;exact⟨rfl,ay⟩
 rw[zk (λh=>ht (gW.2 h))]at k;rw[jV (λh=>ht (gW.2 h))];have C:=H k;clear k ht;go_enter func82,ntmps82;go_wp2_with (first
  |(go_at_call 9;refine(C.out _).mono ?_;rintro e w1 ⟨rfl,ay⟩)
  |(go_at_call_of 42 (ν false);refine eI ?_))
 exact⟨rfl,rfl,ay⟩
open Go.Lib
def bY (c:UInt8):List UInt8->List (List UInt8)
 |[]=>[[]]
 |a::r=>if a=c then[]::bY c r else match bY c r with|[]=>[[a]]|h::t=>(a::h)::t
theorem Ap (c:UInt8)(l:List UInt8):bY c l≠[]:=by
 cases l with
 |nil=>simp[bY]
 |cons a r=>
  rw[bY];split
  ·simp
  split<;>simp
def glue (acc:List UInt8):List (List UInt8)->List (List UInt8)
 |[]=>[acc]
 |h::t=>(acc++h)::t
theorem uF {l:List (List UInt8)}(h:l≠[]):glue [] l=l:=by
 cases l with
 |nil=>exact absurd rfl h
 |cons a t=>rfl
theorem XE {c a:UInt8}{acc r:List UInt8}(h:a=c):glue acc (bY c (a::r))=acc::bY c r:=by
 rw[bY,if_pos h];simp[glue]
theorem Uf {c a:UInt8}{acc r:List UInt8}(h:¬a=c):glue acc (bY c (a::r))=glue (acc++[a]) (bY c r):=by
 rw[bY,if_neg h];cases hs:bY c r with
 |nil=>exact absurd hs (Ap c r)
 |cons x t=>simp[glue]
theorem Pf (s:ByteArray)(c:UInt8):∀k,k<=s.size->(mI s c.toNat k).2.map (·.data.toList)++glue (cut s (mI s c.toNat k).1 (k-(mI s c.toNat k).1)) (bY c (s.data.toList.drop k))=bY c s.data.toList
 |0,_=>by simp[mI,cut,uF (Ap c _)]
 |k+1,Y=>by
  have ih:=Pf s c k (by omega);have hf:=(aed s c.toNat k).1;rw[drop_cons s k (by omega)]at ih;by_cases h:s[k]'(by omega)=c
  ·have h':sH s k=(c.toNat:Int):=by rw[<-tu s k (by omega),h]
   rw[XE h]at ih;rw[Pc h',<-ih];simp only[Nat.sub_self,List.map_append,Ϧ,List.map_nil,gR,List.append_assoc,List.singleton_append];rw[show cut s (k+1) 0=[]from by simp[cut],uF (Ap c _)]
  have h':¬sH s k=(c.toNat:Int):=λe=>by
   rw[<-tu s k (by omega)]at e;exact h (UInt8.toNat_inj.1 (by omega))
  rw[Uf h]at ih;rw[LX h',<-ih,show k+1-(mI s c.toNat k).1=(k-(mI s c.toNat k).1)+1 from by omega,Ki s _ _ (by omega)];have:s[(mI s c.toNat k).1+(k-(mI s c.toNat k).1)]'(by omega)=s[k]'(by omega):=by congr 1;omega
  rw[this]
theorem EX (s:ByteArray)(c:UInt8):(jO s c.toNat).map (·.data.toList)=bY c s.data.toList:=by
 have h:=Pf s c s.size (ι _);rw[agx]at h;rw[<-h];unfold jO;simp[bY,glue,cut]
theorem L6 {c:UInt8}:∀{l:List UInt8},c∉l->bY c l=[l]
 |[],_=>rfl
 |a::r,h=>by
  rw[Χ]at h;rw[bY,if_neg (λe=>h (.inl e.symm)),L6 (λm=>h (.inr m))]
theorem Ug {c:UInt8}:∀{x y:List UInt8},c∉x->bY c (x++c::y)=x::bY c y
 |[],y,_=>by rw[List.nil_append,bY,if_pos rfl]
 |a::r,y,h=>by
  rw[Χ]at h;rw[List.cons_append,bY,if_neg (λe=>h (.inl e.symm)),Ug (λm=>h (.inr m))]
theorem EY (c:UInt8):∀(n:Nat) (l:List UInt8),l.length<=n->splitK [c] 0 (count l [c]) l=bY c l
 |n,l,hn=>by
  have Ku:=indexByte_ge l c;by_cases hm:indexByte l c=-1
  ·have G:index l [c]=-1:=(index_one l c).trans hm;rw[count_miss G,L6]
   ·rfl
   intro m;obtain⟨k,Y⟩:=ϙ m;exact indexByte_none hm k Y
  obtain⟨o,ho⟩:∃o:Nat,indexByte l c=o:=⟨(indexByte l c).toNat,by omega⟩;have G:index l [c]=o:=(index_one l c).trans ho;obtain⟨g1,g2⟩:=indexByte_some ho;have aR:o<l.length:=(List.getElem?_eq_some_iff.1 g1).1;have e:l=l.take o++c::l.drop (o+1):=by
   conv=>lhs;rw[<-List.take_append_drop o l]
   rw[τ aR];rw[υ aR]at g1;rw[Option.some.inj g1]
  have hnm:c∉l.take o:=by
   intro m;obtain⟨k,Y⟩:=ϙ m;rw[List.getElem?_take]at Y;by_cases q:k<o
   ·rw[if_pos q]at Y;exact g2 k q Y
   rw[if_neg q]at Y;cases Y
  have L7:¬(index l [c]==-1)=true:=λe=>by have:=beq_iff_eq.1 e;omega
  have et:(index l [c]).toNat=o:=by omega
  have hr:bY c l=l.take o::bY c (l.drop (o+1)):=by
   conv=>lhs;rw[e]
   exact Ug hnm
  rw[count_hit (by simp) G,Nat.add_comm,splitK,if_neg L7,et,hr];cases n with
  |zero=>omega
  |succ n=>
   have:=EY c n (l.drop (o+1)) (by rw[List.length_drop];omega);simpa using this
def ML (w:μ):Prop:=1<w.heap.size/\∃m:Int,w.cell? ⟨1,0,none⟩=some (V Z m)
theorem ML.on {w I:μ}(h:ML w)(U:Below w.heap.size w I):ML I:=by
 obtain⟨G,m,A⟩:=h;exact⟨Ϟ G U.size,m,by rw[U.cell (p:=⟨1,0,none⟩) G];exact A⟩
theorem EZ (l:List UInt8)(c:UInt8):(Lib.splitB ⟨#[c]⟩ 0 (ώ ⟨l.toArray⟩ ⟨#[c]⟩) ⟨l.toArray⟩).map ϗ=strs (bY c l):=by
 have G:=Lib.splitB_data ⟨#[c]⟩ 0 (ώ ⟨l.toArray⟩ ⟨#[c]⟩) ⟨l.toArray⟩;have A:Lib.splitK [c] 0 (Lib.count l [c]) l=bY c l:=EY c l.length l (ι _);have M:(Lib.splitB ⟨#[c]⟩ 0 (ώ ⟨l.toArray⟩ ⟨#[c]⟩) ⟨l.toArray⟩).map (·.data.toList)=bY c l:=G.trans A;rw[<-M];unfold strs;rw[Ϩ];apply Ϝ;intro a _;simp
theorem NO (l:List UInt8)(c:UInt8):ώ ⟨l.toArray⟩ ⟨#[c]⟩+1=(bY c l).length:=by
 have G:=Lib.splitB_all ⟨#[c]⟩ (ι 1) 0 _ ⟨l.toArray⟩ rfl;have A:=congrArg List.length (EZ l c);rw[χ,BY]at A;omega
theorem uG (l:List UInt8)(c:UInt8)(w:μ)(hm:ML w)(K:l.length<=1048576):
 ο prog 128 #[η ⟨l.toArray⟩,η ⟨#[c]⟩] w λe I=>e=δ (ζ (some ⟨w.heap.size,0,none⟩) (bY c l).length (bY c l).length)/\I=w.alloc (θ (strs (bY c l)).toArray 9):=by
 obtain⟨_,m,hm⟩:=hm;have k:=Tryz.strings_Split ⟨l.toArray⟩ ⟨#[c]⟩ m w (by show l.length<4294967281;omega) hm (ι 1);rw[EZ,NO]at k;exact k
theorem Uh (l:List UInt8)(c:UInt8):(bY c l).length<=l.length+1:=by
 induction l with
 |nil=>simp[bY]
 |cons a r ih=>
  rw[bY];split
  ·simp;omega
  cases hs:bY c r with
  |nil=>simp
  |cons x t=>rw[hs]at ih;simp at ih⊢;omega
def lD (v:List UInt8):Option (Int×Int):=match idx jP (v.drop (v.length-2))with
 |none=>none
 |some k=>if v.length<=2 then some (0,k)else if fE (v.take (v.length-2)) 53=0 then none else some (fE (v.take (v.length-2)) 53,k)
def yZ (v:List UInt8):Η:=match lD v with
 |none=> ε (bx 3)
 |some q=> δ (.agg #[V Z q.1,V Z q.2])
theorem Aq {w w1:μ}{x y:Value}{t:Ζ}(U:Below (w.alloc (θ #[x,y] t)).heap.size (w.alloc (θ #[x,y] t)) w1):
 w1.cell? ⟨w.heap.size,0,none⟩=some x/\w1.cell? ⟨w.heap.size,1,none⟩=some y/\w1.frozen? ⟨w.heap.size,0,none⟩=false/\w1.frozen? ⟨w.heap.size,1,none⟩=false/\w.heap.size<w1.heap.size:=by
 have hs:=U.size;simp at hs;exact⟨by rw[U.cell (p:=⟨w.heap.size,0,none⟩) (by simp)];simp[go_sem],by rw[U.cell (p:=⟨w.heap.size,1,none⟩) (by simp)];simp[go_sem],
  by rw[U.frozen (p:=⟨w.heap.size,0,none⟩) (by simp)];simp[go_sem],by rw[U.frozen (p:=⟨w.heap.size,1,none⟩) (by simp)];simp[go_sem],by omega⟩
theorem E0 (v:List UInt8)(w:μ)(K:v.length<=1048576):
 ο prog 137 #[η ⟨v.toArray⟩] w λE I=>E=yZ v/\Below w.heap.size w I:=by
 by_cases A:v.length<=2
 ·have hd:v.drop (v.length-2)=v:=by rw[Nat.sub_eq_zero_of_le A];rfl
  have k:=λW=>pA v W;have N:(⟨v.toArray⟩:ByteArray).extract 0 v.length=⟨v.toArray⟩:=by have:=tL v 0;simpa using this
  have E3:max ((v.length:Int)-2) 0=0:=by omega
  cases hi:idx jP v with
  |none=>
   rw[show yZ v=ε (bx 3)from by unfold yZ lD;rw[hd,hi]];rw[rW hi]at k;have C:=H k;clear k hi hd A;go_enter func137,ntmps137;go_wp2_with (go_at_call 139;refine(C.out _).mono ?_;rintro e w1 ⟨rfl,ay⟩);exact⟨rfl,rfl,((κ _ _).alloc (ι _) _).trans (ay.mono (by simp))⟩
  |some j=>
   rw[show yZ v=δ (.agg #[V Z 0,V Z j])from by unfold yZ lD;rw[hd,hi];simp only[];rw[if_pos A]];rw[oM hi]at k;have C:=H k;clear k hi hd A;go_enter func137,ntmps137;go_wp2_with (go_at_call 139;refine(C.out _).mono ?_;rintro e w1 ⟨rfl,ay⟩;obtain⟨c0,c1,f0,f1,bA⟩:=Aq ay);have al:Below w.heap.size w w1:=((κ _ _).alloc (ι _) _).trans (ay.mono (by simp));exact bodyPost_ret (v:=.agg #[V Z 0,V Z j]) (by simp[results,results137,go_sem,c0,c1,bA]) rfl ⟨rfl,((al.setCell (ι _) _).setCell (ι _) _).alloc (by rw[fZ,fZ];omega) _⟩
 obtain⟨n,hn⟩:∃n,n=v.length-2:=⟨_,rfl⟩;have E3:max ((v.length:Int)-2) 0=(n:Int):=by omega
 have N:(⟨v.toArray⟩:ByteArray).extract n v.length=⟨(v.drop n).toArray⟩:=tL v n;have bN:(⟨v.toArray⟩:ByteArray).extract 0 n=⟨(v.take n).toArray⟩:=zw v n;have k:=λW=>pA (v.drop n) W;have q:=λW=>py (v.take n) 53 3 W (by rw[ϡ];unfold maxLen;omega);have oD:(n:Int)<=v.length:=by omega
 have aou:(0:Int)<n:=by omega
 cases hi:idx jP (v.drop n)with
 |none=>
  rw[show yZ v=ε (bx 3)from by unfold yZ lD;rw[<-hn,hi]];rw[rW hi]at k;have C:=H k;clear k hi q A hn;go_enter func137,ntmps137;go_wp2_with (go_at_call 139;refine(C.out _).mono ?_;rintro e w1 ⟨rfl,ay⟩);exact⟨rfl,rfl,((κ _ _).alloc (ι _) _).trans (ay.mono (by simp))⟩
 |some j=>
  rw[oM hi]at k;have C:=H k;by_cases hz:fE (v.take n) 53=0
  ·rw[show yZ v=ε (bx 3)from by unfold yZ lD;rw[<-hn,hi];simp only[];rw[if_neg A,if_pos hz]];rw[Am hz]at q;have D:=H q;clear k hi q A hn hz;go_enter func137,ntmps137;go_wp2_with (first
    |(go_at_call 139;refine(C.out _).mono ?_;rintro e w1 ⟨rfl,ay⟩;obtain⟨c0,c1,f0,f1,bA⟩:=Aq ay)
    |(go_at_call 174;refine(D.out _).mono ?_;rintro e I ⟨rfl,rfl⟩))
   have al:Below w.heap.size w w1:=((κ _ _).alloc (ι _) _).trans (ay.mono (by simp));exact⟨rfl,rfl,al.alloc (by omega) _⟩
  rw[show yZ v=δ (.agg #[V Z (fE (v.take n) 53),V Z j])from by unfold yZ lD;rw[<-hn,hi];simp only[];rw[if_neg A,if_neg hz]];rw[wZ hz]at q;have D:=H q;clear k hi q A hn hz;go_enter func137,ntmps137;go_wp2_with (first
   |(go_at_call 139;refine(C.out _).mono ?_;rintro e w1 ⟨rfl,ay⟩;obtain⟨c0,c1,f0,f1,bA⟩:=Aq ay)
   |(go_at_call 174;refine(D.out _).mono ?_;rintro e I ⟨rfl,rfl⟩))
  have al:Below w.heap.size w w1:=((κ _ _).alloc (ι _) _).trans (ay.mono (by simp));exact bodyPost_ret (v:=.agg #[V Z (fE (v.take n) 53),V Z j]) (by simp[results,results137,go_sem,c0,c1,bA]) rfl ⟨rfl,((al.setCell (ι _) _).setCell (ι _) _).alloc (by rw[fZ,fZ];omega) _⟩
def fo {α:Type}(rd:List UInt8->Option α):List (List UInt8)->Option (List α)
 |[]=>some []
 |l::r=>match rd l with|none=>none|some z=>(fo rd r).map (z::·)
def dV {α:Type}(rd:List UInt8->Option α)(f:Option (List UInt8)):Option (List α):=match f with
 |none=>some []
 |some v=>if(bY 44 v).length<=20 then fo rd (bY 44 v)else none
def X (w:μ)(g:Nat)(cs:List Value)(t:Ζ):Prop:=w.heap[g]?=some (θ cs.toArray t)
theorem Bd {α:Type}{rd:List UInt8->Option α}:∀{ps:List (List UInt8)} {zs:List α},fo rd ps=some zs->zs.length=ps.length
 |[],zs,h=>by cases h;rfl
 |l::r,zs,h=>by
  rw[fo]at h;cases K:rd l with
  |none=>rw[K]at h;cases h
  |some z=>
   rw[K]at h;obtain⟨y,hy,rfl⟩:=Option.map_eq_some_iff.1 h;rw[Γ,Γ,Bd hy]
theorem X.cell {w:μ}{g k:Nat}{cs:List Value}{t:Ζ}{y:Value}(h:X w g cs t)(Y:cs[k]?=some y):w.cell? ⟨g,k,none⟩=some y:=by
 unfold X at h;simp[World.cell?,h,Y]
theorem X.free {w:μ}{g k:Nat}{cs:List Value}{t:Ζ}(h:X w g cs t):w.frozen? ⟨g,k,none⟩=false:=by
 unfold X at h;simp[World.frozen?,h]
theorem X.lt {w:μ}{g:Nat}{cs:List Value}{t:Ζ}(h:X w g cs t):g<w.heap.size:=(Array.getElem?_eq_some_iff.1 h).1
theorem X.on {w I:μ}{g:Nat}{cs:List Value}{t:Ζ}(h:X w g cs t)(U:Below w.heap.size w I):X I g cs t:=by
 have K:=h.lt;unfold X at *
 rw[U.block g K];exact h
theorem X.set {w:μ}{g k:Nat}{cs:List Value}{t:Ζ}(h:X w g cs t)(v:Value):X (w.setCell ⟨g,k,none⟩ v) g (cs.set k v) t:=by
 unfold X at *
 simp[Ϥ,Array.getElem?_modify,h]
theorem X.other {w:μ}{g b k:Nat}{cs:List Value}{t:Ζ}(h:X w g cs t)(dp:g≠b)(v:Value):X (w.setCell ⟨b,k,none⟩ v) g cs t:=by
 unfold X at *
 rw[Below.heap_setCell _ _ _ _ dp];exact h
theorem X.new (w:μ)(cs:List Value)(t:Ζ):X (w.alloc (θ cs.toArray t)) w.heap.size cs t:=by
 show(w.heap.push (Obj.cells cs.toArray t))[w.heap.size]?=some _;exact Array.getElem?_push_size
theorem abJ (z:Value)(n:Nat):madeCells #[z] n=(Κ n z).toArray:=by
 unfold madeCells;apply Array.ext
 ·simp
 intro i G A;simp[Nat.mod_one]
def xc (rd:List UInt8->Option Int)(v:List UInt8)(x:Int)(w:μ)(E:Η)(I:μ):Prop:=
 match dV rd (some v)with
 |none=>E=ε (bx x)
 |some zs=>∃g,E=δ (ζ (some ⟨g,0,none⟩) zs.length zs.length)/\w.heap.size<=g/\X I g (zs.map (Ϗ Z)) 3
def Ar (zs:List Int)(n:Nat):List Value:=zs.map (Ϗ Z)++Κ (n-zs.length) (V Z 0)
theorem XF {zs:List Int}{n k:Nat}(hz:zs.length=k)(Y:k<n):(Ar zs n)[k]?=some (V Z 0):=by
 unfold Ar;rw[Λ (by simp;omega)];simp[hz,Ξ];omega
theorem XG {zs:List Int}{n k:Nat}(hz:zs.length=k)(Y:k<n)(z:Int):(Ar zs n).set k (V Z z)=Ar (zs++[z]) n:=by
 unfold Ar;rw[List.set_append_right _ _ (by simp;omega)];have:n-zs.length=(n-(zs++[z]).length)+1:=by simp;omega
 rw[this,List.replicate_succ];simp[hz]
theorem Ui {zs:List Int}{n:Nat}(hz:zs.length=n):Ar zs n=zs.map (Ϗ Z):=by
 unfold Ar;rw[hz];simp
theorem Pg {α:Type}{rd:List UInt8->Option α}{ps:List (List UInt8)}{l:List UInt8}{k:Nat}{z:α}{zs:List α}(K:ps[k]?=some l)(hz:rd l=some z)(h:fo rd ps=(fo rd (ps.drop k)).map (zs++·)):
 fo rd ps=(fo rd (ps.drop (k+1))).map ((zs++[z])++·):=by
 obtain⟨Y,he⟩:=List.getElem?_eq_some_iff.1 K;rw[h,τ Y,he,fo,hz,Option.map_map];congr 1;funext y;simp
theorem L8 {α:Type}{rd:List UInt8->Option α}{ps:List (List UInt8)}{l:List UInt8}{k:Nat}{zs:List α}(K:ps[k]?=some l)(hz:rd l=none)(h:fo rd ps=(fo rd (ps.drop k)).map (zs++·)):
 fo rd ps=none:=by
 obtain⟨Y,he⟩:=List.getElem?_eq_some_iff.1 K;rw[h,τ Y,he,fo,hz];rfl
theorem mK (c:UInt8):∀(l:List UInt8),∀p∈bY c l,p.length<=l.length
 |[],p,J=>by simp[bY]at J;subst J;simp
 |a::r,p,J=>by
  rw[bY]at J;by_cases h:a=c
  ·rw[if_pos h,Χ]at J;rcases J with rfl|J
   ·simp
   have:=mK c r p J;simp;omega
  rw[if_neg h]at J;cases hs:bY c r with
  |nil=>exact absurd hs (Ap c r)
  |cons x t=>
   rw[hs]at J;rw[Χ]at J;have N:=mK c r;rw[hs]at N;rcases J with rfl|J
   ·have:=N x (by simp);simp;omega
   have:=N p (by simp[J]);simp;omega
theorem As (rd:List UInt8->Option Int)(fn:Ϡ)(v:List UInt8)(x:Int)(w:μ)(hm:ML w)(K:v.length<=1048576)
 (rK:∀args w,(callFunc fn args).run prog w=.ok (.enter fn args) w)
 (hr:∀(t:List UInt8) (W:μ),t.length<=1048576->ο prog fn #[η ⟨t.toArray⟩] W λE I=>E=(match rd t with|none=>Ending.panicked (bx x)|some z=> δ (V Z z))/\Below W.heap.size W I):
 ο prog 125 #[.agg #[η ⟨v.toArray⟩,.bool true],V Z x,.func (.func fn) #[] #[]] w λE I=>
  xc rd v x w E I/\Below w.heap.size w I:=by
 have CS:=H λW (h:ML W)=>uG v 44 W h K;have HM:Φ (ML (w.alloc (θ #[η ⟨v.toArray⟩,.bool true] 126))):=H (hm.on ((κ _ _).alloc (ι _) _));have HR:=H hr;have HS:Φ (∀p∈bY 44 v,p.length<=1048576):=H (λp J=>ϩ (mK 44 v p J) K);have HF:Φ (dV rd (some v)=if(bY 44 v).length<=20 then fo rd (bY 44 v)else none):=H rfl;clear hr hm;obtain⟨ps,lz⟩:∃ps,ps=bY 44 v:=⟨_,rfl⟩;rw[<-lz]at CS HS HF;clear lz;by_cases xd:ps.length<=20
 case neg=>
  have HE:Φ (dV rd (some v)=none):=H (by rw[HF.out,if_neg xd]);have XH:decide ((ps.length:Int)<=20)=false:=by simp;omega
  go_enter func125,ntmps125;go_wp2_with (first
   |(go_at_call 128;refine(CS.out _ HM.out).mono ?_;rintro e w1 ⟨rfl,rfl⟩)
   |(go_at_call_of 42 (ν false);refine eI ?_))
  exact⟨rfl,by unfold xc;rw[HE.out],((κ _ _).alloc (ι _) _).alloc (by simp) _⟩
 case pos=>
  have XH:(ps.length:Int)<=20:=by omega
  have HE:Φ (dV rd (some v)=fo rd ps):=H (by rw[HF.out,if_pos xd]);have mk:=run_make_row' (P:=prog) 23 3 (V Z 0) 8 underlying23 Pb rfl Z Z ps.length (by omega) (by omega);rw[abJ]at mk;have lz:jG ((w.alloc (θ #[η ⟨v.toArray⟩,.bool true] 126)).alloc (θ (strs ps).toArray 9)) (w.heap.size+1) 0 ps:=by
   have:=i7 (w.alloc (θ #[η ⟨v.toArray⟩,.bool true] 126)) ps 9;rw[show(w.alloc (θ #[η ⟨v.toArray⟩,.bool true] 126)).heap.size=w.heap.size+1 from by simp]at this;exact this
  have bA:((w.alloc (θ #[η ⟨v.toArray⟩,.bool true] 126)).alloc (θ (strs ps).toArray 9)).heap.size=w.heap.size+1+1:=by simp
  have aC:=X.new ((w.alloc (θ #[η ⟨v.toArray⟩,.bool true] 126)).alloc (θ (strs ps).toArray 9)) (Κ ps.length (V Z 0)) 3;rw[bA]at aC;have aN:Below w.heap.size w ((w.alloc (θ #[η ⟨v.toArray⟩,.bool true] 126)).alloc (θ (strs ps).toArray 9)):=((κ _ _).alloc (ι _) _).alloc (by simp) _;go_enter func125,ntmps125;go_wp2_with (first
   |(go_at_call 128;refine(CS.out _ HM.out).mono ?_;rintro e w1 ⟨rfl,rfl⟩)
   |(go_at_call_of 42 (ν true);refine dh ?_))
  generalize(w.alloc (θ #[η ⟨v.toArray⟩,.bool true] 126)).alloc (θ (strs ps).toArray 9)=W at *
  clear mk HM CS HF;go_loopw [27] (λi wr=>∃(k:Nat) (zs:List Int),k<=ps.length/\i=V Z k/\zs.length=k/\X wr (w.heap.size+1+1) (Ar zs ps.length) 3/\Below W.heap.size W wr/\Φ (fo rd ps=(fo rd (ps.drop k)).map (zs++·))) (λi _=>ps.length-(intOf i).toNat)
  case atStart=>exact⟨0,[],ϋ _,rfl,rfl,aC,(κ _ _).alloc (ι _) _,H (by simp)⟩
  case round=>
   obtain⟨k,zs,Y,rfl,hz,vj,dL,HT⟩:=hrel;have hB:=dL.size;by_cases aR:k<ps.length
   case neg=>
    have ie:k=ps.length:=by omega
    subst ie;have HG:Φ (dV rd (some v)=some zs):=H (by rw[HE.out,HT.out,Ο];simp[fo]);have HZ:=H hz;clear HT HE hz;go_wp2;go_ret;refine⟨?_,aN.trans (dL.mono (by omega))⟩;unfold xc;rw[HG.out];refine⟨w.heap.size+1+1,by rw[HZ.out];rfl,by omega,?_⟩;rw[<-Ui HZ.out];exact vj
   case pos=>
    obtain⟨l,me⟩:∃l,ps[k]?=some l:=⟨_,υ aR⟩;have iS:wr.cell? ⟨w.heap.size+1,k,none⟩=some (η ⟨l.toArray⟩):=by
     rw[dL.cell (p:=⟨w.heap.size+1,k,none⟩) (by show w.heap.size+1<W.heap.size;omega)];have:=lz k aR;rw[Θ]at this;rw[this];simp[List.getD,me]
    have CR:=HR.out l wr (HS.out l (Υ me));cases hq:rd l with
    |none=>
     have HG:Φ (dV rd (some v)=none):=H (by rw[HE.out,L8 me hq HT.out]);rw[hq]at CR;have C:=H CR;clear HT HE CR hq me;go_wp2_with (refine(C.out).mono ?_;rintro e w1 ⟨rfl,ay⟩);refine⟨rfl,?_,aN.trans ((dL.trans (ay.mono hB)).mono (by omega))⟩;unfold xc;rw[HG.out]
    |some z=>
     have HG:Φ (fo rd ps=(fo rd (ps.drop (k+1))).map ((zs++[z])++·)):=H (Pg me hq HT.out);rw[hq]at CR;have C:=H CR;clear HT CR hq me;go_wp2_with (refine(C.out).mono ?_;rintro e w1 ⟨rfl,ay⟩;have ez:=vj.on ay;have c1:=ez.cell (XF hz aR);have f1:=ez.free (k:=k));go_roundw
     case rel=>exact⟨k+1,zs++[z],by omega,by go_num,by simp[hz],by rw[<-XG hz aR z];exact ez.set _,(dL.trans (ay.mono hB)).setCell (by show W.heap.size<=w.heap.size+1+1;omega) _,HG⟩
     case measure=>simp[intOf];omega
def flat (zs:List (Int×Int)):List Value:=zs.flatMap λq=>[V Z q.1,V Z q.2]
theorem Da (zs:List (Int×Int)):(flat zs).length=zs.length*2:=by
 induction zs with
 |nil=>rfl
 |cons a r ih=>simp[flat]at ih⊢;omega
theorem Uj (zs:List (Int×Int))(z:Int×Int):flat (zs++[z])=flat zs++[V Z z.1,V Z z.2]:=by simp[flat]
def Au (rd:List UInt8->Option (Int×Int))(v:List UInt8)(x:Int)(w:μ)(E:Η)(I:μ):Prop:=
 match dV rd (some v)with
 |none=>E=ε (bx x)
 |some zs=>∃g,E=δ (ζ (some ⟨g,0,none⟩) zs.length zs.length)/\w.heap.size<=g/\X I g (flat zs) 191
def sD (zs:List (Int×Int))(n:Nat):List Value:=flat zs++Κ ((n-zs.length)*2) (V Z 0)
theorem Uk {zs:List (Int×Int)}{n k:Nat}(hz:zs.length=k)(Y:k<n):(sD zs n)[k*2]?=some (V Z 0):=by
 unfold sD;have hf:=Da zs;rw[Λ (by omega)];rw[Ξ,if_pos (by omega)]
theorem Ul {zs:List (Int×Int)}{n k:Nat}(hz:zs.length=k)(Y:k<n):(sD zs n)[k*2+1]?=some (V Z 0):=by
 unfold sD;have hf:=Da zs;rw[Λ (by omega)];rw[Ξ,if_pos (by omega)]
theorem XI {zs:List (Int×Int)}{n k:Nat}(hz:zs.length=k)(Y:k<n)(z:Int×Int):((sD zs n).set (k*2) (V Z z.1)).set (k*2+1) (V Z z.2)=sD (zs++[z]) n:=by
 unfold sD;have hf:=Da zs;rw[List.set_append_right _ _ (by omega),List.set_append_right _ _ (by omega)];have:(n-zs.length)*2=(n-(zs++[z]).length)*2+1+1:=by simp;omega
 rw[this,List.replicate_succ,List.replicate_succ,Uj];rw[show k*2-(flat zs).length=0 from by omega,show k*2+1-(flat zs).length=1 from by omega];simp
theorem Um {zs:List (Int×Int)}{n:Nat}(hz:zs.length=n):sD zs n=flat zs:=by
 unfold sD;rw[hz];simp
theorem XJ (z:Value)(m:Nat):madeCells #[z,z] m=(Κ m z).toArray:=by
 unfold madeCells;apply Array.ext
 ·simp
 intro i G A;have:i%2=0\/i%2=1:=by omega
 rcases this with h|h<;>simp[h]
theorem aei:(prog.info? 191).map (λi=>(i.zero,i.size,i.bytes))=some (some (.agg #[V Z 0,V Z 0]),2,16):=by kernel_rfl
theorem aej (w:μ)(n:Nat)(hn:n<=20):(Instr.makeSlice 94 (V Z (n:Int)) (V Z (n:Int))).run prog w=.ok (ζ (some ⟨w.heap.size,0,none⟩) n n) (w.alloc (θ (sD [] n).toArray 191)):=by
 obtain⟨i0,hi,iY,wD,gX⟩:=info_parts aei;have k:=run_make (P:=prog) w 94 191 i0 _ underlying94 hi iY Z Z (n:Int) (n:Int) (by omega) (Int.le_refl _) (by rw[gX];omega) (by omega);rw[wD,show(Value.agg #[V Z 0,V Z 0]).cells=#[V Z 0,V Z 0]from rfl,XJ]at k;simp only[Int.toNat_natCast]at k;exact k
theorem NP (rd:List UInt8->Option (Int×Int))(fn:Ϡ)(v:List UInt8)(x:Int)(w:μ)(hm:ML w)(K:v.length<=1048576)
 (rK:∀args w,(callFunc fn args).run prog w=.ok (.enter fn args) w)
 (hr:∀(t:List UInt8) (W:μ),t.length<=1048576->ο prog fn #[η ⟨t.toArray⟩] W λE I=>E=(match rd t with|none=>Ending.panicked (bx x)|some z=> δ (.agg #[V Z z.1,V Z z.2]))/\Below W.heap.size W I):
 ο prog 136 #[.agg #[η ⟨v.toArray⟩,.bool true],V Z x,.func (.func fn) #[] #[]] w λE I=>
  Au rd v x w E I/\Below w.heap.size w I:=by
 have CS:=H λW (h:ML W)=>uG v 44 W h K;have HM:Φ (ML (w.alloc (θ #[η ⟨v.toArray⟩,.bool true] 126))):=H (hm.on ((κ _ _).alloc (ι _) _));have HR:=H hr;have HS:Φ (∀p∈bY 44 v,p.length<=1048576):=H (λp J=>ϩ (mK 44 v p J) K);have HF:Φ (dV rd (some v)=if(bY 44 v).length<=20 then fo rd (bY 44 v)else none):=H rfl;clear hr hm;obtain⟨ps,lz⟩:∃ps,ps=bY 44 v:=⟨_,rfl⟩;rw[<-lz]at CS HS HF;clear lz;by_cases xd:ps.length<=20
 case neg=>
  have HE:Φ (dV rd (some v)=none):=H (by rw[HF.out,if_neg xd]);have XH:decide ((ps.length:Int)<=20)=false:=by simp;omega
  go_enter func136,ntmps136;go_wp2_with (first
   |(go_at_call 128;refine(CS.out _ HM.out).mono ?_;rintro e w1 ⟨rfl,rfl⟩)
   |(go_at_call_of 42 (ν false);refine eI ?_))
  exact⟨rfl,by unfold Au;rw[HE.out],((κ _ _).alloc (ι _) _).alloc (by simp) _⟩
 case pos=>
  have XH:(ps.length:Int)<=20:=by omega
  have HE:Φ (dV rd (some v)=fo rd ps):=H (by rw[HF.out,if_pos xd]);have mk:=λW=>aej W ps.length xd;have lz:jG ((w.alloc (θ #[η ⟨v.toArray⟩,.bool true] 126)).alloc (θ (strs ps).toArray 9)) (w.heap.size+1) 0 ps:=by
   have:=i7 (w.alloc (θ #[η ⟨v.toArray⟩,.bool true] 126)) ps 9;rw[show(w.alloc (θ #[η ⟨v.toArray⟩,.bool true] 126)).heap.size=w.heap.size+1 from by simp]at this;exact this
  have bA:((w.alloc (θ #[η ⟨v.toArray⟩,.bool true] 126)).alloc (θ (strs ps).toArray 9)).heap.size=w.heap.size+1+1:=by simp
  have aC:=X.new ((w.alloc (θ #[η ⟨v.toArray⟩,.bool true] 126)).alloc (θ (strs ps).toArray 9)) (sD [] ps.length) 191;rw[bA]at aC;have aN:Below w.heap.size w ((w.alloc (θ #[η ⟨v.toArray⟩,.bool true] 126)).alloc (θ (strs ps).toArray 9)):=((κ _ _).alloc (ι _) _).alloc (by simp) _;go_enter func136,ntmps136;go_wp2_with (first
   |(go_at_call 128;refine(CS.out _ HM.out).mono ?_;rintro e w1 ⟨rfl,rfl⟩)
   |(go_at_call_of 42 (ν true);refine dh ?_))
  generalize(w.alloc (θ #[η ⟨v.toArray⟩,.bool true] 126)).alloc (θ (strs ps).toArray 9)=W at *
  clear mk HM CS HF;go_loopw [27] (λi wr=>∃(k:Nat) (zs:List (Int×Int)),k<=ps.length/\i=V Z k/\zs.length=k/\X wr (w.heap.size+1+1) (sD zs ps.length) 191/\Below W.heap.size W wr/\Φ (fo rd ps=(fo rd (ps.drop k)).map (zs++·))) (λi _=>ps.length-(intOf i).toNat)
  case atStart=>exact⟨0,[],ϋ _,rfl,rfl,aC,(κ _ _).alloc (ι _) _,H (by simp)⟩
  case round=>
   obtain⟨k,zs,Y,rfl,hz,vj,dL,HT⟩:=hrel;have hB:=dL.size;by_cases aR:k<ps.length
   case neg=>
    have ie:k=ps.length:=by omega
    subst ie;have HG:Φ (dV rd (some v)=some zs):=H (by rw[HE.out,HT.out,Ο];simp[fo]);have HZ:=H hz;clear HT HE hz;go_wp2;go_ret;refine⟨?_,aN.trans (dL.mono (by omega))⟩;unfold Au;rw[HG.out];refine⟨w.heap.size+1+1,by rw[HZ.out];rfl,by omega,?_⟩;rw[<-Um HZ.out];exact vj
   case pos=>
    obtain⟨l,me⟩:∃l,ps[k]?=some l:=⟨_,υ aR⟩;have iS:wr.cell? ⟨w.heap.size+1,k,none⟩=some (η ⟨l.toArray⟩):=by
     rw[dL.cell (p:=⟨w.heap.size+1,k,none⟩) (by show w.heap.size+1<W.heap.size;omega)];have:=lz k aR;rw[Θ]at this;rw[this];simp[List.getD,me]
    have CR:=HR.out l wr (HS.out l (Υ me));cases hq:rd l with
    |none=>
     have HG:Φ (dV rd (some v)=none):=H (by rw[HE.out,L8 me hq HT.out]);rw[hq]at CR;have C:=H CR;clear HT HE CR hq me;go_wp2_with (refine(C.out).mono ?_;rintro e w1 ⟨rfl,ay⟩);refine⟨rfl,?_,aN.trans ((dL.trans (ay.mono hB)).mono (by omega))⟩;unfold Au;rw[HG.out]
    |some z=>
     have HG:Φ (fo rd ps=(fo rd (ps.drop (k+1))).map ((zs++[z])++·)):=H (Pg me hq HT.out);rw[hq]at CR;have C:=H CR;clear HT CR hq me;go_wp2_with (refine(C.out).mono ?_;rintro e w1 ⟨rfl,ay⟩;have ez:=vj.on ay;have c1:=ez.cell (Uk hz aR);have c2:=ez.cell (Ul hz aR);have f1:=ez.free (k:=k*2);have f2:=ez.free (k:=k*2+1));go_roundw
     case rel=>exact⟨k+1,zs++[z],by omega,by go_num,by simp[hz],by rw[<-XI hz aR z];exact(ez.set _).set _,((dL.trans (ay.mono hB)).setCell (by show W.heap.size<=w.heap.size+1+1;omega) _).setCell (by show W.heap.size<=w.heap.size+1+1;omega) _,HG⟩
     case measure=>simp[intOf];omega
theorem nS (w:μ):ο prog 129 #[] w λE I=>E=δ (ζ (some ⟨w.heap.size,0,none⟩) 9 9)/\I=w.alloc (θ (strs cF).toArray 9):=by
 go_enter func129,ntmps129;go_wp2;go_ret;exact⟨rfl,rfl⟩
def shown (t:List UInt8):Bool:=decide (t≠[73,78,84,69,82,86,65,76,61,49])&&decide (t≠[87,75,83,84,61,77,79])
def Av (F:Nat->Option (List UInt8))(k:Nat):List (List UInt8):=match F k with
 |none=>[]
 |some v=>if shown (cF.getD k []++61::v)then[cF.getD k []++61::v]else[]
def gA (F:Nat->Option (List UInt8)):Nat->List (List UInt8)
 |0=>[]
 |k+1=>gA F k++Av F k
theorem Db (F:Nat->Option (List UInt8)):∀k,(gA F k).length<=k
 |0=>by simp[gA]
 |k+1=>by
  have:=Db F k;rw[gA,ψ];unfold Av;cases F k with
  |none=>simp;omega
  |some v=>simp only[];split<;>simp<;>omega
theorem akv (a b:List UInt8):(⟨a.toArray⟩:ByteArray)++⟨#[61]⟩++⟨b.toArray⟩=⟨(a++61::b).toArray⟩:=by
 apply ByteArray.ext;simp
theorem vY (k:Nat):(cF.getD k []).length<=20:=by
 by_cases h:k<9
 ·have:k=0\/k=1\/k=2\/k=3\/k=4\/k=5\/k=6\/k=7\/k=8:=by omega
  rcases this with rfl|rfl|rfl|rfl|rfl|rfl|rfl|rfl|rfl<;>decide
 rw[List.getD_eq_getElem?_getD,Ρ (by rw[show cF.length=9 from rfl];omega)];simp
theorem Un {t:List UInt8}(h:(t==[73,78,84,69,82,86,65,76,61,49])=true):shown t=false:=by
 rw[beq_iff_eq]at h;unfold shown;rw[h];rfl
theorem Uo {t:List UInt8}(h:(t==[87,75,83,84,61,77,79])=true):shown t=false:=by
 rw[beq_iff_eq]at h;unfold shown;rw[h];rfl
theorem Up {t:List UInt8}(h:(t==[73,78,84,69,82,86,65,76,61,49])=false)(A:(t==[87,75,83,84,61,77,79])=false):shown t=true:=by
 rw[beq_eq_false_iff_ne]at h A;unfold shown;simp[h,A]
theorem Ph (F:Nat->Option (List UInt8))(hs:∀k,((F k).getD []).length<=1048576):∀k,∀t∈gA F k,t.length<=1048600
 |0,t,h=>by simp[gA]at h
 |k+1,t,h=>by
  rw[gA,List.mem_append]at h;rcases h with h|h
  ·exact Ph F hs k t h
  unfold Av at h;have G:=hs k;have A:=vY k;cases hf:F k with
  |none=>rw[hf]at h;simp at h
  |some v=>
   rw[hf]at h G;simp only[]at h;split at h
   ·rw[List.mem_singleton]at h;subst h;simp only[Ν]at G;rw[ψ,Γ];omega
   simp at h
theorem pB (sep:List UInt8)(B:Nat):∀(xs:List (List UInt8)),(∀x∈xs,x.length<=B)->(Lib.join xs sep).length<=xs.length*(B+sep.length)
 |[],_=>by simp[Lib.join_nil]
 |[x],h=>by rw[Lib.join_one];have:=h x (by simp);simp;omega
 |x::y::r,h=>by
  have ih:=pB sep B (y::r) (λz hz=>h z (by simp at hz⊢;exact .inr hz));have N:=h x (by simp);have e:Lib.join (x::y::r) sep=x++sep++Lib.join (y::r) sep:=by simp[Lib.join,List.intercalate,List.intersperse]
  rw[e,ψ,ψ];have:(x::y::r).length*(B+sep.length)=(y::r).length*(B+sep.length)+(B+sep.length):=by
   rw[Γ (a:=x),Nat.succ_mul]
  omega
theorem XK (ls:List (List UInt8))(B:Nat)(v:Value)(w:μ)(aX:w.ownsRow B 9 1 v ls.length (strs ls))(U:∀t∈ls,t.length<=1048600)(hn:ls.length<=100):
 ο prog 175 #[v,η ⟨#[59]⟩] w λE I=>E=δ (η ⟨(Lib.join ls [59]).toArray⟩)/\Below w.heap.size w I:=by
 rcases IP aX with⟨rfl,hz⟩|⟨g,cap,rfl,_,hg,hc⟩
 ·obtain rfl:ls=[]:=by unfold strs at hz;simpa using hz
  exact(Tryz.strings_Join_none none 0 ⟨#[59]⟩ w).mono λE I ⟨G,A⟩=>⟨G,by rw[A];exact κ _ _⟩
 have L9:ls.length<=cap:=by
  obtain⟨_,h|⟨g',akn,cur,hv,_,hh,Hq,Bv,bA,ht⟩⟩:=aX
  ·cases h.1
  cases hv;omega
 have S:(ls.map bJ).map (·.data.toList)=ls:=by
  rw[Ϩ];conv=>rhs;rw[<-List.map_id ls]
  apply Ϝ;intro a _;rfl
 have k:=Tryz.strings_Join g 0 cap (ls.map bJ) ⟨#[59]⟩ w (λj x N=>by
  rw[Θ];refine hc j (η x) ?_;rw[ϟ]at N;obtain⟨a,ha,rfl⟩:=Option.map_eq_some_iff.1 N;unfold strs;rw[ϟ,ha];rfl) hg (by rw[χ];omega) (by rw[χ];exact L9) (by
   rw[S];have:=pB [59] 1048600 ls U;rw[show(⟨#[59]⟩:ByteArray).data.toList=[59]from rfl];have A:ls.length*(1048600+[(59:UInt8)].length)<=100*1048601:=Nat.mul_le_mul hn (by simp);omega)
 rw[S,χ]at k;exact k
theorem Dc (g:Nat)(F:Nat->Option (List UInt8))(w:μ)(hF:cX w g F)(hs:∀k,((F k).getD []).length<=1048576):
 ο prog 140 #[ζ (some ⟨g,0,none⟩) 9 9] w λE I=>E=δ (η ⟨(Lib.join (gA F 9) [59]).toArray⟩)/\Below w.heap.size w I:=by
 have bj:Below w.heap.size w (w.alloc (θ (strs cF).toArray 9)):=(κ _ _).alloc (ι _) _;have hnm:=i7 w cF 9;have hg:=hF.lt;have bA:(w.alloc (θ (strs cF).toArray 9)).heap.size=w.heap.size+1:=by simp
 go_enter func140,ntmps140;go_wp2_with (go_at_call 129;refine(nS _).mono ?_;rintro e w1 ⟨rfl,rfl⟩);have IT:=hF.on bj;generalize w.alloc (θ (strs cF).toArray 9)=W at *
 go_loopw [3,9] (λv i wr=>∃k:Nat,k<=9/\i=V Z k/\wr.ownsRow W.heap.size 9 1 v (gA F k).length (strs (gA F k))/\Below W.heap.size W wr) (λ_ i _=>9-(intOf i).toNat)
 case atStart=>exact⟨0,by omega,rfl,World.ownsRow_nil _ _ _ _,κ _ _⟩
 case round=>
  obtain⟨k,Y,rfl,aX,dL⟩:=hrel;have hB:=dL.size;have HT:=H (Db F k);by_cases aR:k<9
  case neg=>
   have wH:k=9:=by omega
   subst wH;have CJ:=H (XK (gA F 9) W.heap.size u3 wr aX (Ph F hs 9) (by have:=HT.out;omega));clear IT hF hs;obtain⟨a3,n3,c3,rfl⟩:=XB aX;go_wp2_with (go_at_call 175;refine(CJ.out).mono ?_;rintro e w2 ⟨rfl,aN⟩);go_ret;exact⟨rfl,bj.trans ((dL.trans (aN.mono hB)).mono (by omega))⟩
  case pos=>
   have IU:=IT.on dL;obtain⟨nm,Dd⟩:∃nm,nm=cF.getD k []:=⟨_,rfl⟩;have cn:wr.cell? ⟨w.heap.size,k,none⟩=some (η ⟨nm.toArray⟩):=by
    rw[dL.cell (p:=⟨w.heap.size,k,none⟩) (by show w.heap.size<W.heap.size;omega)];have:=hnm k aR;rw[Θ,<-Dd]at this;exact this
   have cv:=IU.val k aR;have ct:=IU.there k aR;have zF:(k:Int)<9:=by omega
   have yP:nm.length<=20:=by rw[Dd];exact vY k
   have rI:=hs k;obtain⟨val,sF⟩:∃val,val=(F k).getD []:=⟨_,rfl⟩;rw[<-sF]at cv rI;have O0:=akv nm val;have o1:¬9223372036854775807<nm.length+1:=by omega
   have o2:¬9223372036854775807<nm.length+1+val.length:=by omega
   obtain⟨t,ht⟩:∃t,t=nm++61::val:=⟨_,rfl⟩;rw[<-ht]at O0;have H1:Φ (gA F (k+1)=gA F k++Av F k):=H rfl;cases hf:(F k).isSome with
   |false=>
    rw[hf]at ct;have HN:Φ (gA F (k+1)=gA F k):=H (by rw[H1.out];unfold Av;rw[Option.isSome_eq_false_iff.1 hf|>Option.isNone_iff_eq_none.1];simp);clear hf IU ht sF Dd H1;cases q1:(t==[73,78,84,69,82,86,65,76,61,49])<;>
     (go_wp2
      go_roundw
      case rel=>exact⟨k+1,by omega,by go_num,by rw[HN.out];exact aX,dL⟩
      case measure=>simp[intOf];omega)
   |true=>
    rw[hf]at ct;have Z6:F k=some val:=by
     obtain⟨y,hy⟩:=Option.isSome_iff_exists.1 hf;rw[hy]at sF;rw[hy,sF];rfl
    have HX:Φ (Av F k=if shown t then[t]else[]):=H (by unfold Av;rw[Z6];simp only[];rw[<-Dd,<-ht]);cases q1:(t==[73,78,84,69,82,86,65,76,61,49])with
    |true=>
     have HN:Φ (gA F (k+1)=gA F k):=H (by rw[H1.out,HX.out,Un q1];simp);clear hf IU ht sF Dd H1 Z6 HX;go_wp2;go_roundw
     case rel=>exact⟨k+1,by omega,by go_num,by rw[HN.out];exact aX,dL⟩
     case measure=>simp[intOf];omega
    |false=>
     cases q2:(t==[87,75,83,84,61,77,79])with
     |true=>
      have HN:Φ (gA F (k+1)=gA F k):=H (by rw[H1.out,HX.out,Uo q2];simp);clear hf IU ht sF Dd H1 Z6 HX;go_wp2;go_roundw
      case rel=>exact⟨k+1,by omega,by go_num,by rw[HN.out];exact aX,dL⟩
      case measure=>simp[intOf];omega
     |false=>
      have HN:Φ (gA F (k+1)=gA F k++[t]):=H (by rw[H1.out,HX.out,Up q1 q2];simp);clear hf IU ht sF Dd H1 Z6 HX;go_wp2_with (at_builtin;refine abG rfl (.tmp 35) (.tmp 37) 55 9 _ 16 rfl underlying55 td rfl W.heap.size _ _ _ rfl aX dL hB (η ⟨t.toArray⟩) rfl rfl (by simp) (by have:=HT.out;omega) (by decide) ?_;intro v' w1 Rn akw wJ);go_roundw
      case rel=>exact⟨k+1,by omega,by go_num,by rw[HN.out,Ua,ψ];exact Rn,akw⟩
      case measure=>simp[intOf];omega
def cr (w:μ)(v:Value)(zs:List Int):Prop:=(v=ζ none 0 0/\zs=[])\/∃g,v=ζ (some ⟨g,0,none⟩) zs.length zs.length/\X w g (zs.map (Ϗ Z)) 3
def gy (w:μ)(v:Value)(zs:List (Int×Int)):Prop:=(v=ζ none 0 0/\zs=[])\/∃g,v=ζ (some ⟨g,0,none⟩) zs.length zs.length/\X w g (flat zs) 191
theorem cr.form {w:μ}{v:Value}{zs:List Int}(h:cr w v zs):∃a,v=ζ a zs.length zs.length:=by
 rcases h with⟨rfl,rfl⟩|⟨g,rfl,_⟩<;>exact⟨_,rfl⟩
theorem gy.form {w:μ}{v:Value}{zs:List (Int×Int)}(h:gy w v zs):∃a,v=ζ a zs.length zs.length:=by
 rcases h with⟨rfl,rfl⟩|⟨g,rfl,_⟩<;>exact⟨_,rfl⟩
theorem cr.on {w I:μ}{v:Value}{zs:List Int}(h:cr w v zs)(U:Below w.heap.size w I):cr I v zs:=
 h.imp id λ⟨g,G,A⟩=>⟨g,G,A.on U⟩
theorem gy.on {w I:μ}{v:Value}{zs:List (Int×Int)}(h:gy w v zs)(U:Below w.heap.size w I):gy I v zs:=
 h.imp id λ⟨g,G,A⟩=>⟨g,G,A.on U⟩
theorem IV (zs:List (Int×Int))(k:Nat)(q:Int×Int)(h:zs[k]?=some q):(flat zs)[k*2]?=some (V Z q.1):=by
 induction zs generalizing k with
 |nil=>simp at h
 |cons a r ih=>
  cases k with
  |zero=>simp at h;subst h;simp[flat]
  |succ k=>
   have:=ih k (by simpa using h);rw[show(k+1)*2=k*2+2 from by omega];simpa[flat]using this
theorem IW (zs:List (Int×Int))(k:Nat)(q:Int×Int)(h:zs[k]?=some q):(flat zs)[k*2+1]?=some (V Z q.2):=by
 induction zs generalizing k with
 |nil=>simp at h
 |cons a r ih=>
  cases k with
  |zero=>simp at h;subst h;simp[flat]
  |succ k=>
   have:=ih k (by simpa using h);rw[show(k+1)*2+1=k*2+1+2 from by omega];simpa[flat]using this
def ik (zs:List (Int×Int)):Bool:=zs.any λq=>decide (q.1≠0)
def bG (fq iv ct un:Int)(m md wk pl:Value)(ws:Int)(tx:ByteArray):Value:=.agg #[V Z fq,V Z iv,V Z ct,V Z un,m,md,wk,pl,V Z ws,η tx]
theorem Gu (fq iv ct un ws:Int)(m md wk pl:Value)(tx:ByteArray)(zs:List (Int×Int))(w:μ)(hz:zs.length<=20)(h:gy w wk zs)(G:∃a n c,m=ζ a n c)(A:∃a n c,md=ζ a n c)(M:∃a n c,pl=ζ a n c):
 ο prog 176 #[bG fq iv ct un m md wk pl ws tx] w λE I=>E=δ (.bool (ik zs))/\Below w.heap.size w I:=by
 unfold bG;obtain⟨a1,n1,c1,rfl⟩:=G;obtain⟨a2,n2,c2,rfl⟩:=A;obtain⟨a3,n3,c3,rfl⟩:=M;rcases h with⟨rfl,rfl⟩|⟨g,rfl,aC⟩
 ·go_enter func176,ntmps176;go_wp2;go_loop [8] (λi=>i=V Z 0) (λ_=>0)
  case atStart=>rfl
  case round=>
   subst hrel;go_wp2;go_ret;exact⟨rfl,(κ _ _).alloc (ι _) _⟩
 have K:=aC.lt;go_enter func176,ntmps176;go_wp2;have bj:Below w.heap.size w (w.alloc (θ #[V Z fq,V Z iv,V Z ct,V Z un,ζ a1 n1 c1,ζ a2 n2 c2,ζ (some ⟨g,0,none⟩) zs.length zs.length,ζ a3 n3 c3,V Z ws,η tx] 96)):=(κ _ _).alloc (ι _) _;generalize w.alloc (θ #[V Z fq,V Z iv,V Z ct,V Z un,ζ a1 n1 c1,ζ a2 n2 c2,ζ (some ⟨g,0,none⟩) zs.length zs.length,ζ a3 n3 c3,V Z ws,η tx] 96)=W at *
 go_loopw [8] (λi wr=>∃k:Nat,k<=zs.length/\i=V Z k/\Below w.heap.size w wr/\Φ (ik zs=ik (zs.drop k))) (λi _=>zs.length-(intOf i).toNat)
 case atStart=>exact⟨0,ϋ _,rfl,bj,H (by simp)⟩
 case round=>
  obtain⟨k,Y,rfl,dL,HT⟩:=hrel;by_cases aR:k<zs.length
  case neg=>
   have ie:k=zs.length:=by omega
   subst ie;have HE:Φ (ik zs=false):=H (by rw[HT.out,Ο];rfl);clear HT;go_wp2;go_ret;exact⟨by rw[HE.out];rfl,dL⟩
  case pos=>
   obtain⟨q,hq⟩:∃q,zs[k]?=some q:=⟨_,υ aR⟩;have hr:=aC.on dL;have d0:=hr.cell (IV zs k q hq);have d1:=hr.cell (IW zs k q hq);have hd:zs.drop k=q::zs.drop (k+1):=by
    obtain⟨bV,he⟩:=List.getElem?_eq_some_iff.1 hq;rw[τ bV,he]
   have hB:=dL.size;by_cases iY:q.1=0
   ·have HE:Φ (ik zs=ik (zs.drop (k+1))):=H (by rw[HT.out,hd];unfold ik;rw[ϧ];simp[iY]);have g1:(q.1 !=0)=false:=by simp[iY]
    clear HT hd iY hq;go_wp2;go_roundw
    case rel=>exact⟨k+1,by omega,by go_num,dL.alloc hB _,HE⟩
    case measure=>simp[intOf];omega
   have HE:Φ (ik zs=true):=H (by rw[HT.out,hd];unfold ik;rw[ϧ];simp[iY]);have g1:(q.1 !=0)=true:=by simpa using iY
   clear HT hd iY hq;go_wp2;go_ret;exact⟨by rw[HE.out];rfl,dL.alloc hB _⟩
def xe (fq:Int)(nm nd nw np:Nat)(ord:Bool):Bool:=
 let uH:=(decide (fq=2)||decide (fq=3))&&decide (nd=0)
 if !uH&&ord then false else if decide (fq=1)&&decide (0<nd)then false else decide (0<nm)||decide (0<nd)||decide (0<nw)||decide (np=0)
theorem Aw {w w1:μ}{cs:Array Value}{t:Ζ}(U:Below (w.alloc (θ cs t)).heap.size (w.alloc (θ cs t)) w1)(i:Nat)(v:Value)(h:cs[i]?=some v):w1.cell? ⟨w.heap.size,i,none⟩=some v:=by
 rw[U.cell (p:=⟨w.heap.size,i,none⟩) (by simp)];simp[h]
theorem Gv (fq iv ct un ws:Int)(m md pl:Option Addr)(nm nd np cm cd cp:Nat)(wk:Value)(tx:ByteArray)(zs:List (Int×Int))(w:μ)(kh:0<=fq)(Uq:fq<=3)(hz:zs.length<=20)(h:gy w wk zs):
 ο prog 141 #[bG fq iv ct un (ζ m nm cm) (ζ md nd cd) wk (ζ pl np cp) ws tx] w λE I=>E=δ (.bool (xe fq nm nd zs.length np (ik zs)))/\Below w.heap.size w I:=by
 obtain⟨wa,hwa⟩:=h.form;have co:=λW (U:Below w.heap.size w W)=>Gu fq iv ct un ws (ζ m nm cm) (ζ md nd cd) wk (ζ pl np cp) tx zs W hz (h.on U) ⟨_,_,_,rfl⟩ ⟨_,_,_,rfl⟩ ⟨_,_,_,rfl⟩;rw[hwa]at co⊢;clear h hwa;unfold bG at co⊢;generalize ik zs=ord at co⊢;generalize zs.length=nw at co⊢;obtain⟨cw,BD⟩:∃c,c=nw:=⟨_,rfl⟩;rw[show Value.slice wa nw nw=ζ wa nw cw by rw[BD]]at co⊢;clear BD;have bj:Below w.heap.size w (w.alloc (θ #[V Z fq,V Z iv,V Z ct,V Z un,ζ m nm cm,ζ md nd cd,ζ wa nw cw,ζ pl np cp,V Z ws,η tx] 96)):=(κ _ _).alloc (ι _) _;have CO:=H co;clear co;have hfq:fq=0\/fq=1\/fq=2\/fq=3:=by omega
 clear kh Uq;rcases hfq with rfl|rfl|rfl|rfl<;>rcases Nat.eq_zero_or_pos nd with rfl|cO<;>cases ord
 all_goals
  go_enter func141,ntmps141;go_wp2_with (go_at_call 176;refine(CO.out _ bj).mono ?_;rintro e w1 ⟨rfl,ay⟩;have q0:=Aw ay 0 _ rfl;have q4:=Aw ay 4 _ rfl;have q5:=Aw ay 5 _ rfl;have q6:=Aw ay 6 _ rfl;have q7:=Aw ay 7 _ rfl)
 all_goals go_ret
 all_goals
  refine⟨congrArg (λb=>Ending.returned (ν b)) ?_,by first|exact bj.trans (ay.mono bj.size)|exact(κ _ _).alloc (ι _) _⟩;clear CO bj
  try clear q0 q4 q5 q6 q7
  unfold xe;simp_all
 all_goals first|omega|(rw[Bool.eq_iff_iff];simp;try omega)
end
section
section
variable {P:ϝ} {ops:Array ϛ} {Q:Exit->Ϛ->μ->Prop} {md:Region.Mode}
theorem cZ {listed:Array Bool}{i:Nat}(h:i∈ω md ops listed):i<ops.size/\listed.getD i true=false/\∃o,ops[i]?=some o/\∀e∈o.after,π md e=true->listed.getD e.on false=true:=by
 unfold ω at h;rw[ϣ,ϥ]at h;obtain⟨hi,h⟩:=h;rw[ϊ]at h;obtain⟨G,A⟩:=h;refine⟨hi,by simpa using G,ops[i],ξ hi,?_⟩;rw[ξ hi,Δ,Ν,Ι]at A;intro e he U;have:=A e he;rw[U]at this;simpa using this
theorem oc {listed:Array Bool}{i:Nat}{o:ϛ}(ho:ops[i]?=some o)(G:listed.getD i true=false)(A:∀e∈o.after,π md e=true->listed.getD e.on false=true):i∈ω md ops listed:=by
 unfold ω;rw[ϣ,ϥ];refine⟨(Array.getElem?_eq_some_iff.1 ho).1,?_⟩;rw[ϊ];refine⟨by simp only[G,Bool.not_false],?_⟩;rw[ho,Δ,Ν,Ι];intro e he;cases U:π md e
 ·rfl
 rw[A e he U];rfl
def forward (md:Region.Mode)(ops:Array ϛ):Bool:=(List.range ops.size).all λi=>((ops[i]?).map λo=>o.after.all λe=>!Region.binds md e||decide (e.on<i)).getD true
theorem fC (h:forward md ops=true){i:Nat}{o:ϛ}(ho:ops[i]?=some o):∀e∈o.after,π md e=true->e.on<i:=by
 unfold forward at h;rw[List.all_eq_true]at h;have:=h i (List.mem_range.2 (Array.getElem?_eq_some_iff.1 ho).1);rw[ho,Δ,Ν,Ι]at this;intro e he U;have:=this e he;rw[U]at this;simpa using this
theorem bF {l:Array Bool}{i:Nat}(d:Bool)(h:i<l.size):l.getD i d=l[i]:=by simp[ύ,h]
theorem mZ (hf:forward md ops=true){listed:Array Bool}(hs:listed.size=ops.size)(hr:ω md ops listed=[]):∀i,i<ops.size->listed.getD i false=true:=by
 intro i
 induction i using Nat.strongRecOn with
 |ind i ih=>
  intro hi;cases hc:listed.getD i false
  ·exfalso;have:i∈ω md ops listed:=oc (ξ hi) (by rw[bF _ (by omega)]at hc⊢;exact hc)
    (λe he U=>ih e.on (fC hf (ξ hi) e he U) (Nat.lt_trans (fC hf (ξ hi) e he U) hi))
   rw[hr]at this;simp at this
  rfl
theorem E4 (aqr:Nat->Ϛ->μ->Prop)(aqq:Ϛ->μ->Prop)(hf:forward md ops=true)
 (aqs:∀i o a w,ops[i]?=some o->aqq a w->(∀e∈o.after,π md e=true->aqr e.on a w)->wpOp P ops Q i (λa' I=>aqq a' I/\aqr i a' I/\∀j oj,ops[j]?=some oj->j≠i->(∀e∈oj.after,π md e=true->e.on≠i)->aqr j a w->aqr j a' I) a w)
 (D:∀a w,aqq a w->(∀i,i<ops.size->aqr i a w)->Q .normal a w):
 ∀(fuel:Nat) (listed:Array Bool) (a:Ϛ) (w:μ),listed.size=ops.size->listed.toList.count false<=fuel->aqq a w->(∀i,i<ops.size->listed.getD i false=true->aqr i a w)->(∀i o,ops[i]?=some o->listed.getD i false=true->∀e∈o.after,π md e=true->listed.getD e.on false=true)->wpAny P md ops Q fuel listed a w:=by
 intro fuel
 induction fuel with
 |zero=>
  intro listed a w hs hc hI hG hC;have bD:∀i,i<ops.size->listed.getD i false=true:=λi hi=>by
   rw[bF _ (by omega)];cases U:listed[i]'(by omega)
   ·exfalso;have:false∈listed.toList:=by rw[<-U];exact Array.mem_def.1 (Array.getElem_mem _)
    have:=List.count_pos_iff.2 this;omega
   rfl
  have hr:ω md ops listed=[]:=by
   rw[List.eq_nil_iff_forall_not_mem];intro i hi;obtain⟨G,A,_⟩:=cZ hi;have:=bD i G;rw[bF _ (by omega)]at this A;rw[this]at A;cases A
  exact⟨hr,D a w hI (λi hi=>hG i hi (bD i hi))⟩
 |succ fuel ih=>
  intro listed a w hs hc hI hG hC;refine⟨λhr=>D a w hI (λi hi=>hG i hi (mZ hf hs hr i hi)),λi hi=>?_⟩;obtain⟨G,A,o,ho,M⟩:=cZ hi;refine wpOp_mono (λa' I ⟨q1,q2,q3⟩=>?_) (aqs i o a w ho hI (λe he U=>hG e.on (Nat.lt_trans (fC hf ho e he U) G) (M e he U)));have OU:∀k,listed.getD k false=true->(listed.setIfInBounds i true).getD k false=true:=λk Y=>by
   by_cases kF:k=i
   ·subst kF;rw[bF _ (by simp;omega)];simp
   by_cases kg:k<listed.size
   ·rw[bF _ kg]at Y;rw[bF _ (by simp;exact kg),Ω _ (λe=>kF e.symm)];exact Y
   simp[ύ,kg]at Y
  have Z7:∀k,k≠i->(listed.setIfInBounds i true).getD k false=true->listed.getD k false=true:=λk kF Y=>by
   by_cases kg:k<listed.size
   ·rw[bF _ (by simp;exact kg),Ω _ (λe=>kF e.symm)]at Y;rw[bF _ kg];exact Y
   simp[ύ,kg]at Y
  refine ih (listed.setIfInBounds i true) a' I (by simp[hs]) ?_ q1 (λj hj K=>?_) (λj oj jg K e he U=>?_)
  ·rw[Array.toList_setIfInBounds,List.count_set (by rw[φ];omega)];have:listed.toList[i]'(by rw[φ];omega)=false:=by
    rw[bF _ (by omega)]at A;simpa using A
   rw[this];have J:0<listed.toList.count false:=List.count_pos_iff.2 (by rw[<-this];exact List.getElem_mem _);show listed.toList.count false-1+0<=fuel;omega
  ·by_cases fB:j=i
   ·subst fB;exact q2
   have Tt:=Z7 j fB K;refine q3 j ops[j] (ξ hj) fB (λe he U uz=>?_) (hG j hj Tt);have:=hC j ops[j] (ξ hj) Tt e he U;rw[uz,bF _ (by omega)]at this;rw[bF _ (by omega),this]at A;cases A
  by_cases fB:j=i
  ·subst fB;rw[ho]at jg;cases jg;exact OU _ (M e he U)
  exact OU _ (hC j oj jg (Z7 j fB K) e he U)
theorem Gw {id:Nat}{a:Ϛ}{w:μ}(aqr:Nat->Ϛ->μ->Prop)(aqq:Ϛ->μ->Prop)(hm:P.follows .mixedOrders=true)(hf:forward .any ops=true)
 (aqs:∀i o a w,ops[i]?=some o->aqq a w->(∀e∈o.after,π .any e=true->aqr e.on a w)->wpOp P ops Q i (λa' I=>aqq a' I/\aqr i a' I/\∀j oj,ops[j]?=some oj->j≠i->(∀e∈oj.after,π .any e=true->e.on≠i)->aqr j a w->aqr j a' I) a w)
 (D:∀a w,aqq a w->(∀i,i<ops.size->aqr i a w)->Q .normal a w)(hI:aqq a {w with drawn:=w.drawn+1}):(Code.region id ops true).wp P Q a w:=
 wp_region_any hm (E4 aqr aqq hf aqs D ops.size (Array.replicate ops.size false) a _ (by simp) (by rw[Array.toList_replicate,List.count_replicate];simp) hI (λi hi h=>by
  rw[bF _ (by simpa using hi)]at h;simp at h) (λi o ho h=>by
  rw[bF _ (by simpa using(Array.getElem?_eq_some_iff.1 ho).1)]at h;simp at h))
end
end
section
section
variable {P:ϝ} {ops:Array ϛ} {Q:Exit->Ϛ->μ->Prop}
theorem ai {o:ϛ}{a:Ϛ}{w I:μ}{aqy:Ϛ->μ->Prop}{v:Value}(h:(execOp a.eval o).run P w=.ok (.value v) I)(hK:aqy (a.put o.dst v) I):Ψ P o a w aqy Q:=by
 unfold Ψ;rw[h];exact hK
theorem A4 {o:ϛ}{a:Ϛ}{w I:μ}{aqy:Ϛ->μ->Prop}(h:(execOp a.eval o).run P w=.ok .skip I)(hK:aqy (a.put o.dst undef) I):Ψ P o a w aqy Q:=by
 unfold Ψ;rw[h];exact hK
theorem cI {o:ϛ}{a:Ϛ}{w I:μ}{aqy:Ϛ->μ->Prop}{f:Ϡ}{args:Array Value}{R:Η->μ->Prop}(h:(execOp a.eval o).run P w=.ok (.enter f args) I)(hc:ο P f args I R)
 (G:∀v az,R (δ v) az->aqy (a.put o.dst v) az)(A:∀c az,R (ε c) az->Q (.panic c) a az)(M:∀az,¬R .outgrown az):Ψ P o a w aqy Q:=by
 unfold Ψ;rw[h];refine Calls.mono hc λe az he=>?_;cases e with
 |returned v=>exact G v az he
 |panicked c=>exact A c az he
 |outgrown=>exact absurd he (M az)
def fI (ops:Array ϛ):Bool:=ops.all λo=>o.guard.isNone
theorem iw {id:Nat}{a:Ϛ}{w:μ}(aqr:Nat->Ϛ->μ->Prop)(aqq:Ϛ->μ->Prop)(hm:P.follows .mixedOrders=true)(hf:forward .any ops=true)(hg:fI ops=true)
 (aqs:∀i o,ops[i]?=some o->∀a w,aqq a w->(∀e∈o.after,π .any e=true->aqr e.on a w)->Ψ P o a w (λa' I=>aqq a' I/\aqr i a' I/\∀j oj,ops[j]?=some oj->j≠i->(∀e∈oj.after,π .any e=true->e.on≠i)->aqr j a w->aqr j a' I) Q)
 (D:∀a w,aqq a w->(∀i,i<ops.size->aqr i a w)->Q .normal a w)(hI:aqq a {w with drawn:=w.drawn+1}):(Code.region id ops true).wp P Q a w:=by
 refine Gw aqr aqq hm hf (λi o a w ho hI hG=>?_) D hI;refine wpOp_step ho λK' mv=>?_;have zJ:o.guard=none:=by
  unfold fI at hg;rw[Ι]at hg;have:=hg o (Array.mem_of_getElem? ho);simpa using this
 have hw:Ϣ o (yielded ops a.tmps)=true:=by unfold Ϣ;rw[zJ]
 rw[if_pos hw];exact Oper.wp_mono mv (aqs i o ho a w hI hG)
end
theorem cY {a:Ϛ}{d k:Nat}{v:Value}(h:k≠d):(a.put (some d) v).eval (.tmp k)=a.eval (.tmp k):=by
 show(a.tmps.setIfInBounds d v).getD k undef=a.tmps.getD k undef;simp[ό,Ne.symm h]
theorem gO {a:Ϛ}{d:Nat}{v:Value}(h:d<a.tmps.size):(a.put (some d) v).eval (.tmp d)=v:=by
 show(a.tmps.setIfInBounds d v).getD d undef=v;simp[ό,h]
theorem fW {a:Ϛ}{d:Option Nat}{v:Value}:(a.put d v).tmps.size=a.tmps.size:=by
 cases d with
 |none=>rfl
 |some d=>show(a.tmps.setIfInBounds d v).size=_;simp
theorem put_defers {a:Ϛ}{d:Option Nat}{v:Value}:(a.put d v).defers=a.defers:=by
 cases d<;>rfl
def xf (f:Nat->Value):Nat->Nat->List Value
 |0,_=>[]
 |n+1,k=>f k::xf f n (k+1)
theorem E5 (f:Nat->Value):∀(n k i:Nat),i<n->(xf f n k)[i]?=some (f (k+i))
 |0,_,_,h=>by omega
 |n+1,k,0,_=>rfl
 |n+1,k,i+1,h=>by
  rw[xf,List.getElem?_cons_succ,E5 f n (k+1) i (by omega)];congr 2;omega
theorem E6 (f:Nat->Value):∀n k:Nat,(xf f n k).length=n
 |0,_=>rfl
 |n+1,k=>by rw[xf,Γ,E6 f n]
theorem gK (n:Nat)(a:Ϛ)(h:a.tmps.size=n)(hd:a.defers=[]):∃f:Nat->Value,a=⟨(xf f n 0).toArray,[]⟩/\∀k,a.eval (.tmp k)=f k:=by
 obtain⟨t,d⟩:=a;simp only[]at h hd;subst hd;refine⟨λk=>t.getD k undef,?_,λk=>rfl⟩;congr 1;apply Array.ext';apply List.ext_getElem?;intro i;by_cases hi:i<n
 ·rw[E5 _ n 0 i hi,Θ];simp[ύ,h,hi]
 rw[Ρ (by rw[φ];omega),Ρ (by rw[E6];omega)]
end
open Go.Sort
def ep (x:Int)(o:Option Int):Η:=match o with|none=> ε (bx x)|some z=> δ (V Z z)
def pC (f:Option (List UInt8)):Option Int:=(idx ja (f.getD [])).map λk:Nat=>(k:Int)
def Ax (v:List UInt8):Option Int:=(idx jP v).map λk:Nat=>(k:Int)
def pD (lo hi:Int)(v:List UInt8):Option Int:=if mJ v lo hi=true then some (dv v)else none
def sR (most:Int)(v:List UInt8):Option Int:=if fE v most=0 then none else some (fE v most)
def vZ (f:Option (List UInt8)):Option Int:=match f with|none=>some 0|some v=>pD 1 1000 v
def wb (f:Option (List UInt8)):Option Int:=match f with|none=>some 9223372036854775807|some v=>if kV (bJ v)=true then some (kj (bJ v))else none
def il (v:List UInt8):Option Int:=if kV (bJ v)=true then some (kj (bJ v))else none
theorem Pj (ns:List (List UInt8))(v:List UInt8)(x:Int):B0 ns v x=ep x ((idx ns v).map λk:Nat=>(k:Int)):=by
 unfold B0 ep;cases idx ns v<;>rfl
theorem Gx (v:List UInt8)(lo hi x:Int):ES v lo hi x=ep x (pD lo hi v):=by
 unfold ES ep pD;cases mJ v lo hi<;>rfl
theorem Pk (v:List UInt8)(most x:Int):ET v most x=ep x (sR most v):=by
 unfold ET ep sR;by_cases h:fE v most=0
 ·rw[if_pos h,if_pos h]
 rw[if_neg h,if_neg h]
theorem XL (f:Option (List UInt8)):L4 f=ep 3 (vZ f):=by
 unfold L4 vZ;cases f with
 |none=>rfl
 |some v=>exact Gx v 1 1000 3
theorem XM (f:Option (List UInt8)):L5 f=ep 3 (wb f):=by
 unfold L5 wb ep;cases f with
 |none=>rfl
 |some v=>simp only[];split<;>rfl
theorem vx (v:List UInt8):sY (bJ v)=ep 1 (il v):=by
 unfold sY il ep;split<;>rfl
def rX (rd:List UInt8->Option Int)(f:Option (List UInt8))(x:Int)(w:μ)(E:Η)(I:μ):Prop:=
 ((∃zs v,dV rd f=some zs/\E=δ v/\cr I v zs)\/(dV rd f=none/\E=ε (bx x)))/\Below w.heap.size w I
def Ur (f:Option (List UInt8))(w:μ)(E:Η)(I:μ):Prop:=
 ((∃zs v,dV lD f=some zs/\E=δ v/\gy I v zs)\/(dV lD f=none/\E=ε (bx 3)))/\Below w.heap.size w I
theorem Ay (fn:Ϡ)(x:Int)(w:μ):
 ο prog 125 #[bI none,V Z x,.func (.func fn) #[] #[]] w λE I=>E=δ (ζ none 0 0)/\Below w.heap.size w I:=by
 unfold bI;go_enter func125,ntmps125;go_wp2;go_ret;exact⟨rfl,(κ _ _).alloc (ι _) _⟩
theorem NR (fn:Ϡ)(x:Int)(w:μ):
 ο prog 136 #[bI none,V Z x,.func (.func fn) #[] #[]] w λE I=>E=δ (ζ none 0 0)/\Below w.heap.size w I:=by
 unfold bI;go_enter func136,ntmps136;go_wp2;go_ret;exact⟨rfl,(κ _ _).alloc (ι _) _⟩
theorem qV (rd:List UInt8->Option Int)(fn:Ϡ)(f:Option (List UInt8))(x:Int)(w:μ)(hm:ML w)(K:(f.getD []).length<=1048576)(rK:Enters prog fn)
 (hr:∀(t:List UInt8) (W:μ),t.length<=1048576->ο prog fn #[η ⟨t.toArray⟩] W λE I=>E=ep x (rd t)/\Below W.heap.size W I):
 ο prog 125 #[bI f,V Z x,.func (.func fn) #[] #[]] w (rX rd f x w):=by
 cases f with
 |none=>exact(Ay fn x w).mono λE I ⟨G,A⟩=>⟨.inl ⟨[],_,rfl,G,.inl ⟨rfl,rfl⟩⟩,A⟩
 |some v=>
  refine(As rd fn v x w hm K rK (λt W ht=>(hr t W ht).mono λE I ⟨G,A⟩=>⟨by rw[G];unfold ep;cases rd t<;>rfl,A⟩)).mono λE I ⟨G,A⟩=>⟨?_,A⟩;unfold xc at G;cases hq:dV rd (some v)with
  |none=>rw[hq]at G;exact .inr ⟨rfl,G⟩
  |some zs=>
   rw[hq]at G;obtain⟨g,e,_,aC⟩:=G;exact .inl ⟨zs,_,rfl,e,.inr ⟨g,rfl,aC⟩⟩
theorem Ro (f:Option (List UInt8))(w:μ)(hm:ML w)(K:(f.getD []).length<=1048576):
 ο prog 136 #[bI f,V Z 3,.func (.func 137) #[] #[]] w (Ur f w):=by
 cases f with
 |none=>exact(NR _ 3 w).mono λE I ⟨G,A⟩=>⟨.inl ⟨[],_,rfl,G,.inl ⟨rfl,rfl⟩⟩,A⟩
 |some v=>
  refine(NP lD 137 v 3 w hm K (enters_of func137 (by kernel_rfl) rfl) (λt W ht=>(E0 t W ht).mono λE I ⟨G,A⟩=>⟨by rw[G];unfold yZ;cases lD t<;>rfl,A⟩)).mono λE I ⟨G,A⟩=>⟨?_,A⟩;unfold Au at G;cases hq:dV lD (some v)with
  |none=>rw[hq]at G;exact .inr ⟨rfl,G⟩
  |some zs=>
   rw[hq]at G;obtain⟨g,e,_,aC⟩:=G;exact .inl ⟨zs,_,rfl,e,.inr ⟨g,rfl,aC⟩⟩
theorem mL {n:Nat}(h:n<=1048576):n<=maxLen:=by unfold maxLen;omega
theorem Rp (f:Option (List UInt8))(w:μ)(hm:ML w)(K:(f.getD []).length<=1048576):
 ο prog 125 #[bI f,V Z 3,.func (.func 134) #[] #[]] w (rX (pD 1 12) f 3 w):=
 qV _ _ f 3 w hm K (enters_of func134 (by kernel_rfl) rfl) (λt W ht=>(JJ t W (mL ht)).mono λE I ⟨G,A⟩=>⟨by rw[G,Gx],A⟩)
theorem Br (f:Option (List UInt8))(w:μ)(hm:ML w)(K:(f.getD []).length<=1048576):
 ο prog 125 #[bI f,V Z 3,.func (.func 135) #[] #[]] w (rX (sR 31) f 3 w):=
 qV _ _ f 3 w hm K (enters_of func135 (by kernel_rfl) rfl) (λt W ht=>(C9 t W (mL ht)).mono λE I ⟨G,A⟩=>⟨by rw[G,Pk],A⟩)
theorem Rq (f:Option (List UInt8))(w:μ)(hm:ML w)(K:(f.getD []).length<=1048576):
 ο prog 125 #[bI f,V Z 3,.func (.func 138) #[] #[]] w (rX (sR 366) f 3 w):=
 qV _ _ f 3 w hm K (enters_of func138 (by kernel_rfl) rfl) (λt W ht=>(JK t W (mL ht)).mono λE I ⟨G,A⟩=>⟨by rw[G,Pk],A⟩)
theorem Gy (f:Option (List UInt8))(w:μ)(hm:ML w)(K:(f.getD []).length<=1048576):
 ο prog 125 #[bI f,V Z 1,.func (.func 82) #[] #[]] w (rX il f 1 w):=
 qV _ _ f 1 w hm K (enters_of func82 (by kernel_rfl) rfl) (λt W _=>(nf (bJ t) W).mono λE I ⟨G,A⟩=>⟨by rw[G,vx],A⟩)
theorem E7 (f:Option (List UInt8))(o:List UInt8)(w:μ):ο prog 122 #[bI f,η ⟨o.toArray⟩] w λE I=>E=δ (η ⟨(f.getD o).toArray⟩)/\Below w.heap.size w I:=by
 cases f with
 |none=>exact agy _ _ w
 |some v=>exact aeg _ _ w
structure aE where
 fq:Int
 iv:Int
 ct:Int
 un:Int
 ms:List Int
 mds:List Int
 wks:List (Int×Int)
 pls:List Int
 ws:Int
structure nT (F:Nat->Option (List UInt8))(r:aE):Prop where
 fq:pC (F 0)=some r.fq
 iv:pD 1 100 ((F 1).getD [49])=some r.iv
 ct:vZ (F 2)=some r.ct
 un:wb (F 3)=some r.un
 ms:dV (pD 1 12) (F 4)=some r.ms
 mds:dV (sR 31) (F 5)=some r.mds
 wks:dV lD (F 6)=some r.wks
 pls:dV (sR 366) (F 7)=some r.pls
 ws:Ax ((F 8).getD [77,79])=some r.ws
theorem bq {P:ϝ}{w I:μ}{v:Value}{s:Sem Value}(h:s.run P w=.ok v I):(do pure (Next.value (←s)):Sem Next).run P w=.ok (.value v) I:=by
 simp[h]
theorem De {P:ϝ}{w I:μ}{s:Sem Unit}(h:s.run P w=.ok () I):(do s;pure Next.skip:Sem Next).run P w=.ok .skip I:=by
 simp[h]
theorem dM (g:Nat)(k:Nat)(Y:k<9)(w:μ):(Instr.indexAt 123 (ζ (some ⟨g,0,none⟩) 9 9) (V Z (k:Int))).run prog w=.ok (.pointer (some ⟨g,k*2,none⟩)) w:=by
 have bV:(k:Int)<9:=by omega
 go_simp
theorem dj {g k:Nat}{F:Nat->Option (List UInt8)}{w:μ}(hF:cX w g F)(Y:k<9):(Instr.loadAt 126 (.pointer (some ⟨g,k*2,none⟩))).run prog w=.ok (bI (F k)) w:=by
 have c0:=hF.val k Y;have c1:=hF.there k Y;unfold bI;go_simp
end Go.Proofs.YtchdfdmjihnhkaaGreatDoor
