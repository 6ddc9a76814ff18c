import Derived.Test.YthpndgcaoeokeaaGreatDoorCo12
import Derived.Deep.MidRow
import Derived.Sort.WalkA6
set_option maxRecDepth 100000
set_option maxHeartbeats 16000000
open Go.IntKind renaming i64→Z
open Go.Value renaming int→V,pointer→δ,slice→ε,string→ζ,bool→ι
open Go.Obj renaming cells→η
open Go renaming World→θ,TypeId→τ,Program→Η,Oper→Θ,Calls→Φ,Act→Χ
open Go.Proofs.YthpndgcaoeokeaaGreatDoor.Gr renaming set→κ
open Go.Region renaming binds→μ
open Array renaming getD_eq_getD_getElem?→ν,any_eq_true'→Δ
open Go.Lib renaming trimSuffix→ξ
open List renaming getElem?_eq_getElem→ο,range→Ζ,getElem?_map→Ι,length_take→Κ,length_drop→Λ,all_eq_true→Μ,mem_cons→Ξ,getD→Υ
open Go.World renaming cell?_of_block→π,frozen?_of_block→Β,drew→Ρ
open Go.AllReady renaming cons→ρ,nil→φ
open Nat renaming le_refl→υ,zero_add→Τ
open Option.some renaming inj→χ
open Option renaming map_some→ψ,getD_some→Ε
open Go.RowKit.Below renaming refl→ω,heap_setCell→Γ
open Go.Instr renaming fieldAt→Α,storeAt→Ν,loadAt→Ο
namespace Go.Proofs.YthpndgcaoeokeaaGreatDoor
open Tryz
open Go.RowKit Go.Sort
def fi:List (List UInt8):=[[85,73,68],[68,84,83,84,65,82,84],[68,84,69,78,68],[68,85,82,65,84,73,79,78],[82,82,85,76,69],[69,88,68,65,84,69],[82,68,65,84,69],[84,82,65,78,83,80],[83,84,65,84,85,83]]
def oA:List UInt8:=[66,69,71,73,78,58,86,69,86,69,78,84]
def pA:List UInt8:=[69,78,68,58,86,69,86,69,78,84]
theorem qW (w:θ):Φ prog 130 #[] w fun E w'=>E= .returned (ε (some ⟨w.heap.size,0,none⟩) 9 9)∧w'=w.alloc (η (strs fi).toArray 9):=by
 go_enter func130,ntmps130;go_wp2;go_ret;exact⟨rfl,rfl⟩
def dz (ls:List (List UInt8)):List (List UInt8):=(ls.drop 1).take (ls.length - 2)
structure dw (s:List UInt8)(F:Nat→Option (List UInt8)):Prop where
 len:s.length≤2000
 lines:∃ls,jw s=some ls∧2≤ls.length∧ls.getD 0 []=oA∧ls.getD (ls.length - 1) []=pA∧bZ fi 58 (dz ls) (fun _=>none)=some F
 uid:(F 0).isSome=true
 start:(F 1).isSome=true
 one:((F 2).isSome !=(F 3).isSome)=true
def abg (s:List UInt8)(w:θ)(E:Ending)(w':θ):Prop:=
 ((∃F g,dw s F∧E= .returned (ε (some ⟨g,0,none⟩) 9 9)∧w.heap.size≤g∧cQ w' g F)∨((¬∃F,dw s F)∧E= .panicked (bN 2)))∧Below w.heap.size w w'
theorem Ru {w:θ}{g:Nat}{ls:List (List UInt8)}{t:τ}(h:af w g (strs ls) t):cE w g 1 (dz ls):=fun j hj=>by
 have Er:j<ls.length - 2∧j+1<ls.length:=by unfold dz at hj;rw[Κ,Λ]at hj;omega
 refine h.cell ?_;unfold strs dz;rw[Ι,Nat.add_comm 1 j,ο Er.2];simp only[ψ];congr 3;simp[Υ,Er.1,Er.2]
theorem Rv (ls:List (List UInt8)):(dz ls).length=ls.length - 2:=by
 unfold dz;rw[Κ,Λ];omega
theorem pB {w:θ}{g k:Nat}{ls:List (List UInt8)}{t:τ}(h:af w g (strs ls) t)(hk:k<ls.length):w.cell? ⟨g,k,none⟩=some (ζ ⟨(ls.getD k []).toArray⟩):=by
 refine h.cell ?_;unfold strs;rw[Ι,ο hk];simp[Υ,hk]
theorem Vg (a:List UInt8){l:List (List UInt8)}(h:l≠[]):(glue a l).length=l.length:=by
 cases l with
 |nil=>exact absurd rfl h
 |cons x t=>rfl
theorem Dx:∀l:List UInt8,(dM l).length≤l.length+1
 |[]=>by simp[dM]
 |[a]=>by simp[dM]
 |a::b::r=>by
  rw[dM];split
  ·have:=Dx r;simp;omega
  ·rw[Vg _ (jZ _)];have:=Dx (b::r);simp at this⊢;omega
theorem PX {s:List UInt8}{ls:List (List UInt8)}(h:jw s=some ls):ls.length≤s.length+1:=by
 unfold jw at h;split at h
 ·cases h;rw[←sG];have h1:=Dx (ξ (dv s) crlf);have h2:=pz s.length s (υ _);have h3:(ξ (dv s) crlf).length≤(dv s).length:=by
   unfold ξ;split<;>simp
  omega
 ·cases h
theorem yj:∀(l:List UInt8),∀p∈dM l,p.length≤l.length
 |[],p,h=>by simp[dM]at h;subst h;simp
 |[a],p,h=>by simp[dM]at h;subst h;simp
 |a::b::r,p,h=>by
  rw[dM]at h;split at h
  ·rw[Ξ]at h;rcases h with rfl|h
   ·simp
   ·have:=yj r p h;simp;omega
  ·cases hs:dM (b::r)with
   |nil=>exact absurd hs (jZ _)
   |cons x t=>
    have ih:=yj (b::r);rw[hs]at h ih;simp only[glue,Ξ]at h;rcases h with rfl|h
    ·have:=ih x (by simp);simp at this⊢;omega
    ·have:=ih p (by simp[h]);simp at this⊢;omega
theorem zW {s:List UInt8}{ls:List (List UInt8)}(h:jw s=some ls):∀l∈ls,l.length≤s.length:=by
 unfold jw at h;split at h
 ·cases h;intro l hl;rw[←sG]at hl;have h1:=yj _ l hl;have h2:=pz s.length s (υ _);have h3:(ξ (dv s) crlf).length≤(dv s).length:=by
   unfold ξ;split<;>simp
  omega
 ·cases h
theorem alk (a b:Bool):(a=true∧b=true∧(a !=b)=false)∨(a=false∧b=false∧(a !=b)=false)∨(a=true∧b=false∧(a !=b)=true)∨(a=false∧b=true∧(a !=b)=true):=by
 cases a<;>cases b<;>simp
theorem cQ.aeE {w:θ}{g:Nat}{f:Nat→Option (List UInt8)}(h:cQ w g f):cQ w.drew g f:=⟨h.lt,h.val,h.there,h.fv,h.ft⟩
theorem zX (s:List UInt8)(w:θ)(hm:ML w)(hs:s.length≤1048576):
 Φ prog 74 #[ζ ⟨s.toArray⟩] w (abg s w):=by
 by_cases h2k:s.length≤2000
 case neg=>
  have HN:Hid (¬∃F,dw s F):=ad (fun⟨F,h⟩=>h2k h.len);have h':decide ((s.length:Int)≤2000)=false:=by simp;omega
  clear hm;go_enter func74,ntmps74;go_wp2_with (go_at_call_of 65 (ι false);refine(aM _ _).mono ?_;rintro e w' ⟨rfl,rfl⟩);exact⟨rfl, .inr ⟨HN.out,rfl⟩,ω _ _⟩
 have alm:(s.length:Int)≤2000:=by omega
 have CL:=PV s 2 w hm hs;unfold Rs at CL;cases hq:jw s with
 |none=>
  rw[hq]at CL;have HN:Hid (¬∃F,dw s F):=ad (fun⟨F,h⟩=>by obtain⟨ls,h1,_⟩:=h.lines;rw[hq]at h1;cases h1);have C:=ad CL;clear CL hq hm;go_enter func74,ntmps74;go_wp2_with (first
   |(go_at_call_of 65 (ι true);refine(aF _ _).mono ?_;rintro e w' ⟨rfl,rfl⟩)
   |(go_at_call 128;refine(C.out).mono ?_;rintro e w1 ⟨rfl,ai⟩))
  exact⟨rfl, .inr ⟨HN.out,rfl⟩,ai⟩
 |some ls=>
  rw[hq]at CL;simp only[]at CL;have C:=ad CL;have pU:∀mM,jw s=some mM→mM=ls:=fun mM h=>by rw[hq]at h;exact(χ h).symm
  have HM:=ad hm;clear CL hm;by_cases oB:2≤ls.length
  case neg=>
   have HN:Hid (¬∃F,dw s F):=ad (fun⟨F,h⟩=>by obtain⟨mM,h1,h2,_⟩:=h.lines;rw[pU mM h1]at h2;exact oB h2);have g0:decide ((0:Int)<(ls.length:Int) - 1)=false:=by simp;omega
   clear hq pU;go_enter func74,ntmps74;go_wp2_with (first
    |(go_at_call_of 65 (ι true);refine(aF _ _).mono ?_;rintro e w' ⟨rfl,rfl⟩)
    |(go_at_call_of 65 (ι false);refine(aM _ _).mono ?_;rintro e w' ⟨rfl,rfl⟩)
    |(go_at_call 128;refine(C.out).mono ?_;rintro e w1 ⟨⟨g,rfl,hg,ax⟩,ai⟩))
   exact⟨rfl, .inr ⟨HN.out,rfl⟩,ai⟩
  obtain⟨m,sH⟩:∃m,ls.length=m+2:=⟨ls.length - 2,by omega⟩;rw[sH]at C;have zY:=PX hq;have Hi:wrap64 ((m:Int)+2 - 1)=(m:Int)+1:=by unfold wrap64;omega
  have htn:((m:Int)+1).toNat=m+1:=by omega
  have aln:(0:Int)<(m:Int)+1:=by omega
  have zg:=ad sH;clear oB;by_cases hb:ls.getD 0 []=oA
  case neg=>
   have HN:Hid (¬∃F,dw s F):=ad (fun⟨F,h⟩=>by obtain⟨mM,h1,h2,h3,_⟩:=h.lines;rw[pU mM h1]at h3;exact hb h3);obtain⟨l0,XJ⟩:∃l0,l0=ls.getD 0 []:=⟨_,rfl⟩;have q0:(l0==[66,69,71,73,78,58,86,69,86,69,78,84])=false:=by rw[beq_eq_false_iff_ne,XJ];exact hb
   have Hj:=ad XJ;clear hq pU hb XJ sH;go_enter func74,ntmps74;go_wp2_with (first
    |(go_at_call_of 65 (ι true);refine(aF _ _).mono ?_;rintro e w' ⟨rfl,rfl⟩)
    |(go_at_call_of 65 (ι false);refine(aM _ _).mono ?_;rintro e w' ⟨rfl,rfl⟩)
    |(go_at_call 128;refine(C.out).mono ?_;rintro e w1 ⟨⟨g,rfl,hg,ax⟩,ai⟩;have d0:=pB ax (k:=0) (by rw[zg.out];omega);rw[←Hj.out]at d0))
   exact⟨rfl, .inr ⟨HN.out,rfl⟩,ai⟩
  by_cases he:ls.getD (ls.length - 1) []=pA
  case neg=>
   have HN:Hid (¬∃F,dw s F):=ad (fun⟨F,h⟩=>by obtain⟨mM,h1,h2,h3,h4,_⟩:=h.lines;rw[pU mM h1]at h4;exact he h4);rw[show ls.length - 1=m+1 from by omega]at he;obtain⟨l1,mN⟩:∃l1,l1=ls.getD (m+1) []:=⟨_,rfl⟩;have q0:(l1==[69,78,68,58,86,69,86,69,78,84])=false:=by rw[beq_eq_false_iff_ne,mN];exact he
   have XK:=ad mN;have Hj:Hid (ls.getD 0 []=[66,69,71,73,78,58,86,69,86,69,78,84]):=ad hb;clear hq pU hb mN sH he;go_enter func74,ntmps74;go_wp2_with (first
    |(go_at_call_of 65 (ι true);refine(aF _ _).mono ?_;rintro e w' ⟨rfl,rfl⟩)
    |(go_at_call_of 65 (ι false);refine(aM _ _).mono ?_;rintro e w' ⟨rfl,rfl⟩)
    |(go_at_call 128;refine(C.out).mono ?_;rintro e w1 ⟨⟨g,rfl,hg,ax⟩,ai⟩;have d0:=pB ax (k:=0) (by rw[zg.out];omega);rw[Hj.out]at d0;have d1:=pB ax (k:=m+1) (by rw[zg.out];omega);rw[←XK.out]at d1))
   exact⟨rfl, .inr ⟨HN.out,rfl⟩,ai⟩
  have Hj:Hid (ls.getD 0 []=[66,69,71,73,78,58,86,69,86,69,78,84]):=ad hb;have XK:Hid (ls.getD (m+1) []=[69,78,68,58,86,69,86,69,78,84]):=ad (by rw[show ls.length - 1=m+1 from by omega]at he;exact he);have lF:(dz ls).length=m:=by rw[Rv,sH];omega
  have HIL:=ad lF;have Oh:Hid (∀l∈dz ls,l.length≤1048576):=ad (fun l hl=>by
   have:l∈ls:=List.mem_of_mem_drop (List.mem_of_mem_take hl);have:=zW hq l this;omega)
  have XL:∀(w1:θ) (g:Nat),Below w.heap.size w w1→af w1 g (strs ls) 9→ML w→Φ prog 129 #[ε (some ⟨g,1,none⟩) m (m+1), ζ ⟨#[58]⟩, ε (some ⟨w1.heap.size,0,none⟩) 9 9, V Z 2] (w1.drew.alloc (η (strs fi).toArray 9)) (mL fi 58 (dz ls) 2 (w1.drew.alloc (η (strs fi).toArray 9))):=fun w1 g ai ax XM=>by
   have az:Below w1.heap.size w1 (w1.drew.alloc (η (strs fi).toArray 9)):=(ω _ _).drew.alloc (υ _) _;have:=Es g 1 (m+1) w1.heap.size 0 9 fi (dz ls) 58 2 (w1.drew.alloc (η (strs fi).toArray 9)) rfl (by rw[lF];omega) Oh.out (by have:=ax.lt;have:=az.size;omega) (by show w1.drew.heap.size<_;simp) (Ru (ax.on az)) (iE w1.drew fi 9);rw[lF]at this;exact this
  cases hp:bZ fi 58 (dz ls) (fun _=>none)with
  |none=>
   have CF:Hid (∀(w1:θ) (g:Nat),Below w.heap.size w w1→af w1 g (strs ls) 9→ML w→Φ prog 129 #[ε (some ⟨g,1,none⟩) m (m+1), ζ ⟨#[58]⟩, ε (some ⟨w1.heap.size,0,none⟩) 9 9, V Z 2] (w1.drew.alloc (η (strs fi).toArray 9)) fun E w'=>E= .panicked (bN 2)∧Below w.heap.size w w'):=
    ad (fun w1 g ai ax XM=>(XL w1 g ai ax XM).mono fun E w' h=>by
     unfold mL at h;rw[hp]at h;have az:Below w1.heap.size w1 (w1.drew.alloc (η (strs fi).toArray 9)):=(ω _ _).drew.alloc (υ _) _;exact⟨h.1,ai.trans ((az.trans (h.2.mono az.size)).mono ai.size)⟩)
   clear XL;have HN:Hid (¬∃F,dw s F):=ad (fun⟨F,h⟩=>by obtain⟨mM,h1,h2,h3,h4,h5⟩:=h.lines;rw[pU mM h1,hp]at h5;cases h5);have HP:=ad hp;clear hq pU hb he sH lF hp;go_enter func74,ntmps74;go_wp2_with (first
    |(go_at_call_of 65 (ι true);refine(aF _ _).mono ?_;rintro e w' ⟨rfl,rfl⟩)
    |(go_at_call 128;refine(C.out).mono ?_;rintro e w1 ⟨⟨g,rfl,hg,ax⟩,ai⟩;have d0:=pB ax (k:=0) (by rw[zg.out];omega);rw[Hj.out]at d0;have d1:=pB ax (k:=m+1) (by rw[zg.out];omega);rw[XK.out]at d1))
   refine wp_region_any (by kernel_rfl) ?_;change wpAny _ _ _ _ _ _ _ (Ρ _);refine wpAny_take (i:=0) (v:=?_) rfl (by kernel_rfl) (by kernel_rfl) (by kernel_rfl) (fun _ _ _ h=>h) (Or.inl ⟨by rfl,?_⟩) ?_;rotate_left 1
   ·intro w;go_simp<;>with_reducible rfl
   refine wpAny_take (i:=1) (v:=?_) rfl (by kernel_rfl) (by kernel_rfl) (by kernel_rfl) (fun _ _ _ h=>h) (Or.inl ⟨by rfl,?_⟩) ?_;rotate_left 1
   ·intro w;go_simp<;>with_reducible rfl
   have s1:(1:Int)≤(m:Int)+1:=by omega
   have s2:(m:Int)+1≤(m:Int)+2:=by omega
   have s3:((m:Int)+1 - 1).toNat=m:=by omega
   refine wpAny_take (i:=2) (v:=?_) rfl (by kernel_rfl) (by kernel_rfl) (by kernel_rfl) (fun _ _ _ h=>h) (Or.inl ⟨by rfl,?_⟩) ?_;rotate_left 1
   ·intro w;go_simp<;>with_reducible rfl
   refine wpAny_ready (rs:=[3]) (by kernel_rfl) (by simp) ?_;refine ρ rfl (fun K hK=>?_) φ;go_simp;go_wp2_with (go_at_call 130;refine(qW _).mono ?_;rintro e w' ⟨rfl,rfl⟩)
   try(refine hK _ _ ?_;clear hK K)
   refine wpAny_ready (rs:=[4]) (by kernel_rfl) (by simp) ?_;refine ρ rfl (fun K hK=>?_) φ;go_simp;go_wp2_with (go_at_call 129;refine(CF.out w1 g ai ax HM.out).mono ?_;rintro e w3 ⟨rfl,ah⟩);exact⟨rfl, .inr ⟨HN.out,rfl⟩,ah⟩
  |some F=>
   have HP:=ad hp;have CF:Hid (∀(w1:θ) (g:Nat),Below w.heap.size w w1→af w1 g (strs ls) 9→ML w→Φ prog 129 #[ε (some ⟨g,1,none⟩) m (m+1), ζ ⟨#[58]⟩, ε (some ⟨w1.heap.size,0,none⟩) 9 9, V Z 2] (w1.drew.alloc (η (strs fi).toArray 9)) fun E w'=>∃g2,E= .returned (ε (some ⟨g2,0,none⟩) 9 9)∧w.heap.size≤g2∧cQ w' g2 F∧Below w.heap.size w w'):=
    ad (fun w1 g ai ax XM=>(XL w1 g ai ax XM).mono fun E w' h=>by
     unfold mL at h;rw[hp]at h;have az:Below w1.heap.size w1 (w1.drew.alloc (η (strs fi).toArray 9)):=(ω _ _).drew.alloc (υ _) _;obtain⟨⟨g2,h1,h2,h3⟩,h4⟩:=h;have Kv:=ai.size;have mO:=az.size;exact⟨g2,h1,by omega,h3,ai.trans ((az.trans (h4.mono az.size)).mono ai.size)⟩)
   have huF:∀F',dw s F'→F'=F:=fun F' h=>by obtain⟨mM,h1,h2,h3,h4,h5⟩:=h.lines;rw[pU mM h1,hp]at h5;exact(χ h5).symm
   have bT:dw s F↔((F 0).isSome=true∧(F 1).isSome=true∧((F 2).isSome !=(F 3).isSome)=true):=
    ⟨fun h=>⟨h.uid,h.start,h.one⟩,fun⟨h1,h2,h3⟩=>⟨h2k,⟨ls,hq,by omega,hb,he,hp⟩,h1,h2,h3⟩⟩
   have pa:Hid (¬((F 0).isSome=true∧(F 1).isSome=true∧((F 2).isSome !=(F 3).isSome)=true)→¬∃F,dw s F):=ad (fun hn ⟨F',h⟩=>by rw[huF F' h]at h;exact hn (bT.1 h));have HA:=ad bT.2;clear XL hq pU hb he sH lF hp huF bT;go_enter func74,ntmps74;go_wp2_with (first
    |(go_at_call_of 65 (ι true);refine(aF _ _).mono ?_;rintro e w' ⟨rfl,rfl⟩)
    |(go_at_call 128;refine(C.out).mono ?_;rintro e w1 ⟨⟨g,rfl,hg,ax⟩,ai⟩;have d0:=pB ax (k:=0) (by rw[zg.out];omega);rw[Hj.out]at d0;have d1:=pB ax (k:=m+1) (by rw[zg.out];omega);rw[XK.out]at d1))
   refine wp_region_any (by kernel_rfl) ?_;change wpAny _ _ _ _ _ _ _ (Ρ _);refine wpAny_take (i:=0) (v:=?_) rfl (by kernel_rfl) (by kernel_rfl) (by kernel_rfl) (fun _ _ _ h=>h) (Or.inl ⟨by rfl,?_⟩) ?_;rotate_left 1
   ·intro w;go_simp<;>with_reducible rfl
   refine wpAny_take (i:=1) (v:=?_) rfl (by kernel_rfl) (by kernel_rfl) (by kernel_rfl) (fun _ _ _ h=>h) (Or.inl ⟨by rfl,?_⟩) ?_;rotate_left 1
   ·intro w;go_simp<;>with_reducible rfl
   have s1:(1:Int)≤(m:Int)+1:=by omega
   have s2:(m:Int)+1≤(m:Int)+2:=by omega
   have s3:((m:Int)+1 - 1).toNat=m:=by omega
   refine wpAny_take (i:=2) (v:=?_) rfl (by kernel_rfl) (by kernel_rfl) (by kernel_rfl) (fun _ _ _ h=>h) (Or.inl ⟨by rfl,?_⟩) ?_;rotate_left 1
   ·intro w;go_simp<;>with_reducible rfl
   refine wpAny_ready (rs:=[3]) (by kernel_rfl) (by simp) ?_;refine ρ rfl (fun K hK=>?_) φ;go_simp;go_wp2_with (go_at_call 130;refine(qW _).mono ?_;rintro e w' ⟨rfl,rfl⟩)
   try(refine hK _ _ ?_;clear hK K)
   refine wpAny_ready (rs:=[4]) (by kernel_rfl) (by simp) ?_;refine ρ rfl (fun K hK=>?_) φ;go_simp;go_wp2_with (go_at_call 129;refine(CF.out w1 g ai ax HM.out).mono ?_;rintro e w3 ⟨g2,rfl,Ez,hF,ah⟩)
   try(refine hK _ _ ?_;clear hK K)
   refine wpAny_take (i:=5) (v:=?_) rfl (by kernel_rfl) (by kernel_rfl) (by kernel_rfl) (fun _ _ _ h=>h) (Or.inl ⟨by rfl,?_⟩) ?_;rotate_left 1
   ·intro w;go_simp<;>with_reducible rfl
   refine wpAny_done (by kernel_rfl) ?_ _;have x0:=hF.there 0 (by decide);have x1:=hF.there 1 (by decide);have x2:=hF.there 2 (by decide);have x3:=hF.there 3 (by decide);generalize(F 0).isSome=b0 at *
   generalize(F 1).isSome=b1 at *
   generalize(F 2).isSome=b2 at *
   generalize(F 3).isSome=b3 at *
   have HF:=ad hF;clear hF d0 d1 ax C CF;cases b0 with
   |false=>
    have HN:Hid (¬∃F,dw s F):=ad (pa.out (fun h=>by cases h.1));clear pa HA;go_wp2_with (go_at_call_of 65 (ι false);refine(aM _ _).mono ?_;rintro e w' ⟨rfl,rfl⟩);exact⟨rfl, .inr ⟨HN.out,rfl⟩,ah⟩
   |true=>
    cases b1 with
    |false=>
     have HN:Hid (¬∃F,dw s F):=ad (pa.out (fun h=>by cases h.2.1));clear pa HA;go_wp2_with (first
      |(go_at_call_of 65 (ι true);refine(aF _ _).mono ?_;rintro e w' ⟨rfl,rfl⟩)
      |(go_at_call_of 65 (ι false);refine(aM _ _).mono ?_;rintro e w' ⟨rfl,rfl⟩))
     exact⟨rfl, .inr ⟨HN.out,rfl⟩,ah⟩
    |true=>
     go_wp2_with (go_at_call_of 65 (ι true);refine(aF _ _).mono ?_;rintro e w' ⟨rfl,rfl⟩);refine PW 9 (by simp only[List.take_succ_cons,List.take_zero];rfl) (by simp only[List.drop_succ_cons,List.drop_zero];rfl) (by kernel_rfl) (by kernel_rfl) (by kernel_rfl) (by kernel_rfl) rfl (by kernel_rfl) ?_
     iterate 9 (go_big_quiet_step (fail))
     refine wpQuiet_nil ?_;intro _ fF;obtain⟨nq,rfl⟩:=fF;have jy:=below_drewN ah nq;cases b2<;>cases b3
     case true.true|false.false=>
      have HN:Hid (¬∃F,dw s F):=ad (pa.out (fun h=>by cases h.2.2));clear pa HA;go_wp2_with (go_at_call_of 65 (ι false);refine(aM _ _).mono ?_;rintro e w' ⟨rfl,rfl⟩);exact⟨rfl, .inr ⟨HN.out,rfl⟩,jy⟩
     all_goals
      have HI:Hid (dw s F):=ad (HA.out (by simp));clear pa HA;go_wp2_with (go_at_call_of 65 (ι true);refine(aF _ _).mono ?_;rintro e w' ⟨rfl,rfl⟩);go_ret;exact⟨.inl ⟨F,g2,HI.out,rfl,Ez,⟨HF.out.lt,HF.out.val,HF.out.there,HF.out.fv,HF.out.ft⟩⟩,jy⟩
def jA (u:ByteArray)(st ln:Int)(hr:Bool)(rc:List Value)(ex xt:Value)(tr:Bool)(k:Int):List Value:=[ζ u, V Z st, V Z ln, .bool hr]++rc++[ex,xt, .bool tr, V Z k]
def zh (u:ByteArray)(st ln:Int)(hr:Bool)(rc:List Value)(ex xt:Value)(tr:Bool)(k:Int):Value:= .agg (jA u st ln hr rc ex xt tr k).toArray
def iR:List Value:=jA ⟨#[]⟩ 0 0 false aU (ε none 0 0) (ε none 0 0) false 0
structure EA (F:Nat→Option (List UInt8))(tr:Bool)(k:Int):Prop where
 uid:gJ (bH ((F 0).getD []))=true
 tr:zR (F 7)=some tr
 st:zS (F 8)=some k
def EV (F:Nat→Option (List UInt8))(v:Value):Prop:=∃tr k,EA F tr k∧v=zh (bH ((F 0).getD [])) 0 0 false aU (ε none 0 0) (ε none 0 0) tr k
def EB (F:Nat→Option (List UInt8))(w:θ)(b:Nat):Prop:=∃tr k,EA F tr k∧af w b (jA (bH ((F 0).getD [])) 0 0 false aU (ε none 0 0) (ε none 0 0) tr k) 79
def oC (i:Nat):Nat:=if i=14 then 4 else 7+i
def NE (g:Nat)(F:Nat→Option (List UInt8))(B:Nat)(i:Nat)(v:Value)(w:θ):Prop:=match i with
 |0|5|9=>v= ε (some ⟨g,0,none⟩) 9 9
 |1|2=>v= δ (some ⟨g,0 * 2,none⟩)
 |3=>v= ζ (bH ((F 0).getD []))
 |4=>gJ (bH ((F 0).getD []))=true∧v= ζ (bH ((F 0).getD []))
 |6=>v= δ (some ⟨g,7 * 2,none⟩)
 |7=>v=aZ (F 7)
 |8=>∃z,zR (F 7)=some z∧v= .bool z
 |10=>v= δ (some ⟨g,8 * 2,none⟩)
 |11=>v=aZ (F 8)
 |12=>∃z,zS (F 8)=some z∧v= V Z z
 |13=>EV F v
 |14=>∃b,v= δ (some ⟨b,0,none⟩)∧B≤b∧∃cs,cs.length=18∧af w b cs 79
 |_=>True
def GE (g:Nat)(F:Nat→Option (List UInt8))(B:Nat)(i:Nat)(a:Χ)(w:θ):Prop:=
 if i=15 then ∃b,a.eval (.tmp 4)= δ (some ⟨b,0,none⟩)∧B≤b∧EB F w b else NE g F B i (a.eval (.tmp (oC i))) w
theorem NE.gr {g:Nat}{F:Nat→Option (List UInt8)}{B i:Nat}{v:Value}{w w':θ}(h:NE g F B i v w)(gr:Gr 79 w w'):NE g F B i v w':=by
 unfold NE at h⊢;split<;>first
  |exact h
  |exact trivial
  |(obtain⟨b,h1,h2,cs,h3,h4⟩:=h;obtain⟨lS,h5,h6⟩:=gr.2 b cs h4;exact⟨b,h1,h2,lS,h5.trans h3,h6⟩)
theorem Vh {i j:Nat}(hi:i<15)(hj:j<15)(h:j≠i):oC j≠oC i:=by
 unfold oC;split<;>split<;>omega
structure JE (W:θ)(r g:Nat)(a:Χ)(w:θ):Prop where
 size:a.tmps.size=61
 defers:a.defers=[]
 s2:a.eval (.tmp 2)= δ (some ⟨r,0,none⟩)
 s3:a.eval (.tmp 3)= ε (some ⟨g,0,none⟩) 9 9
 below:Below W.heap.size W w
theorem JE.put {W:θ}{r g:Nat}{a:Χ}{w w':θ}{i:Nat}{v:Value}(h:JE W r g a w)(hb:Below W.heap.size W w'):JE W r g (a.put (some (oC i)) v) w':=
 ⟨by rw[eB];exact h.size,by rw[put_defers];exact h.defers,by rw[bL (by unfold oC;split<;>omega)];exact h.s2,by rw[bL (by unfold oC;split<;>omega)];exact h.s3,hb⟩
def wI (ops:Array Θ):Bool:=((ops[15]?).map fun o=>(Ζ 15).all fun i=>o.after.any fun e=>μ .any e&&e.on==i).getD true
theorem Dy {ops:Array Θ}{o:Θ}{i:Nat}(h:wI ops=true)(ho:ops[15]?=some o)(hi:i<15):∃e∈o.after,μ .any e=true∧e.on=i:=by
 unfold wI at h;rw[ho,ψ,Ε,Μ]at h;have:=h i (List.mem_range.2 hi);rw[Δ]at this;obtain⟨e,he,hb⟩:=this;simp only[Bool.and_eq_true,beq_iff_eq]at hb;exact⟨e,he,hb.1,hb.2⟩
theorem kI {W:θ}{r g:Nat}{F:Nat→Option (List UInt8)}{a:Χ}{w w':θ}{i n:Nat}{v:Value}{dst:Option Nat}{ops:Array Θ}(hd:dst=some (oC i))(hi:i<15)(h:JE W r g a w)(hb:Below w.heap.size w w')(hn:NE g F n i v w')
 (Ko:wI ops=true)(bu:ops.size=16):
 JE W r g (a.put dst v) w'∧GE g F n i (a.put dst v) w'∧∀j oj,ops[j]?=some oj→j≠i→(∀e∈oj.after,μ .any e=true→e.on≠i)→GE g F n j a w→GE g F n j (a.put dst v) w':=by
 subst hd;have hs:oC i<a.tmps.size:=by rw[h.size];unfold oC;split<;>omega
 refine⟨h.put (h.below.trans (hb.mono h.below.size)),?_,fun j oj gy lE Kp hg=>?_⟩
 ·unfold GE;rw[if_neg (by omega),fh hs];exact hn
 ·by_cases hj:j=15
  ·subst hj;obtain⟨e,he,jg,heq⟩:=Dy Ko gy hi;exact absurd heq (Kp e he jg)
  ·have Er:j<16:=by rw[←bu];exact(Array.getElem?_eq_some_iff.1 gy).1
   unfold GE at hg⊢;rw[if_neg hj]at hg⊢;rw[bL (Vh hi (by omega) lE)];exact hg.gr (Gr.of hb)
theorem iS {g:Nat}{F:Nat→Option (List UInt8)}{B i:Nat}{a:Χ}{w:θ}(h:GE g F B i a w)(hi:i≠15):NE g F B i (a.eval (.tmp (oC i))) w:=by
 unfold GE at h;rw[if_neg hi]at h;exact h
theorem Nv (u:ByteArray)(tr:Bool)(k:Int)(w:θ):(Instr.build 79 #[(0, ζ u),(7, .bool tr),(8, V Z k)]).run prog w= .ok (zh u 0 0 false aU (ε none 0 0) (ε none 0 0) tr k) w:=by
 kernel_rfl
theorem Nw {g k:Nat}{F:Nat→Option (List UInt8)}{w:θ}(hF:cQ w g F)(hk:k<9):(Ο 9 (δ (some ⟨g,k * 2,none⟩))).run prog w= .ok (ζ ⟨((F k).getD []).toArray⟩) w:=by
 have c0:=hF.val k hk;go_simp
theorem JK (p:Addr)(w:θ)(hp:p.spot=none):(Α 122 (δ (some p)) 0).run prog w= .ok (δ (some p)) w:=by
 obtain⟨b,o,sp⟩:=p;simp only[]at hp;subst hp;go_simp
theorem Rw {W w:θ}{b:Nat}{cs:List Value}{F:Nat→Option (List UInt8)}{v:Value}(ax:af w b cs 79)(sA:cs.length=18)(hB:W.heap.size≤b)(fA:Below W.heap.size W w)(hv:EV F v):
 ∃w',(Ν 79 (δ (some ⟨b,0,none⟩)) v).run prog w= .ok () w'∧Below W.heap.size W w'∧Gr 79 w w'∧EB F w' b:=by
 obtain⟨tr,k,hP,rfl⟩:=hv
 match cs,sA with
 |[x0,x1,x2,x3,x4,x5,x6,x7,x8,x9,Hk,Hl,Hm,pd,Hn,Ho,Hp,Hq],_=>
  have c0:=ax.cell (k:=0) rfl;have c1:=ax.cell (k:=1) rfl;have c2:=ax.cell (k:=2) rfl;have c3:=ax.cell (k:=3) rfl;have c4:=ax.cell (k:=4) rfl;have c5:=ax.cell (k:=5) rfl;have c6:=ax.cell (k:=6) rfl;have c7:=ax.cell (k:=7) rfl;have c8:=ax.cell (k:=8) rfl;have c9:=ax.cell (k:=9) rfl;have c10:=ax.cell (k:=10) rfl;have c11:=ax.cell (k:=11) rfl;have Hr:=ax.cell (k:=12) rfl;have Hs:=ax.cell (k:=13) rfl;have B7:=ax.cell (k:=14) rfl;have c15:=ax.cell (k:=15) rfl;have c16:=ax.cell (k:=16) rfl;have c17:=ax.cell (k:=17) rfl;have f0:=ax.free (k:=0);have f1:=ax.free (k:=1);have f2:=ax.free (k:=2);have f3:=ax.free (k:=3);have f4:=ax.free (k:=4);have f5:=ax.free (k:=5);have f6:=ax.free (k:=6);have f7:=ax.free (k:=7);have f8:=ax.free (k:=8);have f9:=ax.free (k:=9);have f10:=ax.free (k:=10);have f11:=ax.free (k:=11);have f12:=ax.free (k:=12);have f13:=ax.free (k:=13);have f14:=ax.free (k:=14);have f15:=ax.free (k:=15);have f16:=ax.free (k:=16);have f17:=ax.free (k:=17);have r0:=ax.set (k:=0) (ζ (bH ((F 0).getD [])));have r1:=r0.set (k:=1) (V Z 0);have r2:=r1.set (k:=2) (V Z 0);have r3:=r2.set (k:=3) (.bool false);have r4:=r3.set (k:=4) (V Z 0);have r5:=r4.set (k:=5) (V Z 0);have r6:=r5.set (k:=6) (V Z 0);have r7:=r6.set (k:=7) (V Z 0);have r8:=r7.set (k:=8) (ε none 0 0);have r9:=r8.set (k:=9) (ε none 0 0);have r10:=r9.set (k:=10) (ε none 0 0);have r11:=r10.set (k:=11) (ε none 0 0);have Rx:=r11.set (k:=12) (V Z 0);have B8:=Rx.set (k:=13) (ζ ⟨#[]⟩);have kx:=B8.set (k:=14) (ε none 0 0);have r15:=kx.set (k:=15) (ε none 0 0);have Ht:=r15.set (k:=16) (.bool tr);have r17:=Ht.set (k:=17) (V Z k);have g:Gr 79 w _:=((((((((((((((((((κ (i:=0) ax (ζ (bH ((F 0).getD [])))).trans (κ (i:=1) r0 (V Z 0))).trans (κ (i:=2) r1 (V Z 0))).trans (κ (i:=3) r2 (.bool false))).trans (κ (i:=4) r3 (V Z 0))).trans (κ (i:=5) r4 (V Z 0))).trans (κ (i:=6) r5 (V Z 0))).trans (κ (i:=7) r6 (V Z 0))).trans (κ (i:=8) r7 (ε none 0 0))).trans (κ (i:=9) r8 (ε none 0 0))).trans (κ (i:=10) r9 (ε none 0 0))).trans (κ (i:=11) r10 (ε none 0 0))).trans (κ (i:=12) r11 (V Z 0))).trans (κ (i:=13) Rx (ζ ⟨#[]⟩))).trans (κ (i:=14) B8 (ε none 0 0))).trans (κ (i:=15) kx (ε none 0 0))).trans (κ (i:=16) r15 (.bool tr))).trans (κ (i:=17) Ht (V Z k)));refine⟨_,?_,((((((((((((((((((fA.setCell (p:=⟨b,0,none⟩) hB (ζ (bH ((F 0).getD [])))).setCell (p:=⟨b,1,none⟩) hB (V Z 0)).setCell (p:=⟨b,2,none⟩) hB (V Z 0)).setCell (p:=⟨b,3,none⟩) hB (.bool false)).setCell (p:=⟨b,4,none⟩) hB (V Z 0)).setCell (p:=⟨b,5,none⟩) hB (V Z 0)).setCell (p:=⟨b,6,none⟩) hB (V Z 0)).setCell (p:=⟨b,7,none⟩) hB (V Z 0)).setCell (p:=⟨b,8,none⟩) hB (ε none 0 0)).setCell (p:=⟨b,9,none⟩) hB (ε none 0 0)).setCell (p:=⟨b,10,none⟩) hB (ε none 0 0)).setCell (p:=⟨b,11,none⟩) hB (ε none 0 0)).setCell (p:=⟨b,12,none⟩) hB (V Z 0)).setCell (p:=⟨b,13,none⟩) hB (ζ ⟨#[]⟩)).setCell (p:=⟨b,14,none⟩) hB (ε none 0 0)).setCell (p:=⟨b,15,none⟩) hB (ε none 0 0)).setCell (p:=⟨b,16,none⟩) hB (.bool tr)).setCell (p:=⟨b,17,none⟩) hB (V Z k)),g,tr,k,hP,r17⟩;clear r0 r1 r2 r3 r4 r5 r6 r7 r8 r9 r10 r11 Rx B8 kx r15 Ht r17 g fA hP ax;unfold zh jA aU bW;go_simp
structure JL (w0:θ)(r g b:Nat)(F:Nat→Option (List UInt8))(st:Int)(tr:Bool)(k:Int)(a:Χ)(w:θ):Prop where
 size:a.tmps.size=61
 defers:a.defers=[]
 s2:a.eval (.tmp 2)= δ (some ⟨r,0,none⟩)
 s3:a.eval (.tmp 3)= ε (some ⟨g,0,none⟩) 9 9
 s4:a.eval (.tmp 4)= δ (some ⟨b,0,none⟩)
 fields:cQ w g F
 ml:ML w
 row:∃z,af w b (jA (bH ((F 0).getD [])) st z false aU (ε none 0 0) (ε none 0 0) tr k) 79
 res:af w r iR 79
 below:Below w0.heap.size w0 w
def pV (i:Nat):Nat:=27+i
def NL (g b:Nat)(F:Nat→Option (List UInt8))(st:Int)(i:Nat)(v:Value):Prop:=match i with
 |0=>v= δ (some ⟨b,1,none⟩)
 |1=>v= V Z st
 |2|5=>v= ε (some ⟨g,0,none⟩) 9 9
 |3=>v= δ (some ⟨g,2 * 2,none⟩)
 |4=>v=aZ (F 2)
 |6=>v= δ (some ⟨g,3 * 2,none⟩)
 |7=>v=aZ (F 3)
 |8=>∃z,jv st (F 2) (F 3)=some z∧v= V Z z
 |9=>v= δ (some ⟨b,2,none⟩)
 |_=>True
def GL (g b:Nat)(F:Nat→Option (List UInt8))(st:Int)(tr:Bool)(k:Int)(i:Nat)(a:Χ)(w:θ):Prop:=
 if i=10 then ∃z,jv st (F 2) (F 3)=some z∧af w b (jA (bH ((F 0).getD [])) st z false aU (ε none 0 0) (ε none 0 0) tr k) 79 else NL g b F st i (a.eval (.tmp (pV i)))
theorem JL.put {w0:θ}{r g b:Nat}{F:Nat→Option (List UInt8)}{st:Int}{tr:Bool}{k:Int}{a:Χ}{w w':θ}{i:Nat}{v:Value}(h:JL w0 r g b F st tr k a w)(hb:Below w.heap.size w w'):JL w0 r g b F st tr k (a.put (some (pV i)) v) w':=by
 obtain⟨z,hz⟩:=h.row;exact⟨by rw[eB];exact h.size,by rw[put_defers];exact h.defers,by rw[bL (by unfold pV;omega)];exact h.s2,by rw[bL (by unfold pV;omega)];exact h.s3,by rw[bL (by unfold pV;omega)];exact h.s4,
  h.fields.on hb,h.ml.on hb,⟨z,hz.on hb⟩,h.res.on hb,h.below.trans (hb.mono h.below.size)⟩
def wJ (ops:Array Θ):Bool:=((ops[10]?).map fun o=>(Ζ 10).all fun i=>o.after.any fun e=>μ .any e&&e.on==i).getD true
theorem Dz {ops:Array Θ}{o:Θ}{i:Nat}(h:wJ ops=true)(ho:ops[10]?=some o)(hi:i<10):∃e∈o.after,μ .any e=true∧e.on=i:=by
 unfold wJ at h;rw[ho,ψ,Ε,Μ]at h;have:=h i (List.mem_range.2 hi);rw[Δ]at this;obtain⟨e,he,hb⟩:=this;simp only[Bool.and_eq_true,beq_iff_eq]at hb;exact⟨e,he,hb.1,hb.2⟩
theorem pW {w0:θ}{r g b:Nat}{F:Nat→Option (List UInt8)}{st:Int}{tr:Bool}{k:Int}{a:Χ}{w w':θ}{i:Nat}{v:Value}{dst:Option Nat}{ops:Array Θ}(hd:dst=some (pV i))(hi:i<10)(h:JL w0 r g b F st tr k a w)(hb:Below w.heap.size w w')(hn:NL g b F st i v)
 (Ko:wJ ops=true)(bu:ops.size=11):
 JL w0 r g b F st tr k (a.put dst v) w'∧GL g b F st tr k i (a.put dst v) w'∧∀j oj,ops[j]?=some oj→j≠i→(∀e∈oj.after,μ .any e=true→e.on≠i)→GL g b F st tr k j a w→GL g b F st tr k j (a.put dst v) w':=by
 subst hd;have hs:pV i<a.tmps.size:=by rw[h.size];unfold pV;omega
 refine⟨h.put hb,?_,fun j oj gy lE Kp hg=>?_⟩
 ·unfold GL;rw[if_neg (by omega),fh hs];exact hn
 ·by_cases hj:j=10
  ·subst hj;obtain⟨e,he,jg,heq⟩:=Dz Ko gy hi;exact absurd heq (Kp e he jg)
  ·have Er:j<11:=by rw[←bu];exact(Array.getElem?_eq_some_iff.1 gy).1
   unfold GL at hg⊢;rw[if_neg hj]at hg⊢;rw[bL (by unfold pV;omega)];exact hg
theorem mP {g b:Nat}{F:Nat→Option (List UInt8)}{st:Int}{tr:Bool}{k:Int}{i:Nat}{a:Χ}{w:θ}(h:GL g b F st tr k i a w)(hi:i≠10):NL g b F st i (a.eval (.tmp (pV i))):=by
 unfold GL at h;rw[if_neg hi]at h;exact h
theorem Nx (b:Nat)(w:θ):(Α 79 (δ (some ⟨b,0,none⟩)) 1).run prog w= .ok (δ (some ⟨b,1,none⟩)) w:=by
 go_simp
theorem Ny (b:Nat)(w:θ):(Α 79 (δ (some ⟨b,0,none⟩)) 2).run prog w= .ok (δ (some ⟨b,2,none⟩)) w:=by
 go_simp
theorem Nz {b k:Nat}{z:Int}{w:θ}(h:w.cell? ⟨b,k,none⟩=some (V Z z)):(Ο 3 (δ (some ⟨b,k,none⟩))).run prog w= .ok (V Z z) w:=by
 go_simp
theorem Kw {b k:Nat}{y:Value}{z:Int}{w:θ}(h:w.cell? ⟨b,k,none⟩=some y)(hf:w.frozen? ⟨b,k,none⟩=false):(Ν 3 (δ (some ⟨b,k,none⟩)) (V Z z)).run prog w= .ok () (w.setCell ⟨b,k,none⟩ (V Z z)):=by
 go_simp
theorem cQ.other {w:θ}{g b i:Nat}{f:Nat→Option (List UInt8)}(h:cQ w g f)(di:g≠b)(v:Value):cQ (w.setCell ⟨b,i,none⟩ v) g f:=by
 have e:(w.setCell ⟨b,i,none⟩ v).heap[g]?=w.heap[g]?:=Γ _ _ _ _ di;exact⟨by rw[cW];exact h.lt,fun k hk=>by rw[π (a:=⟨g,k * 2,none⟩) e];exact h.val k hk,fun k hk=>by rw[π (a:=⟨g,k * 2+1,none⟩) e];exact h.there k hk,
  fun k hk=>by rw[Β (a:=⟨g,k * 2,none⟩) e];exact h.fv k hk,fun k hk=>by rw[Β (a:=⟨g,k * 2+1,none⟩) e];exact h.ft k hk⟩
theorem ML.other {w:θ}{b i:Nat}(h:ML w)(di:0≠b)(v:Value):ML (w.setCell ⟨b,i,none⟩ v):=by
 obtain⟨h1,m,h2⟩:=h;exact⟨by rw[cW];exact h1,m,by rw[π (a:=⟨0,0,none⟩) (Γ _ _ _ _ di)];exact h2⟩
structure kJ (F:Nat→Option (List UInt8))(st ln:Int)(ex xt:List Int):Prop where
 cM:ea ((F 1).getD [])=some st
 ow:jv st (F 2) (F 3)=some ln
 hex:qR (F 5)=some ex
 lG:qR (F 6)=some xt
def lV (s:List UInt8)(F:Nat→Option (List UInt8))(tr:Bool)(k:Int):Prop:=dw s F∧EA F tr k
def ahw (F:Nat→Option (List UInt8))(tr:Bool)(k st ln:Int)(ex xt:List Int)(E:Ending)(w':θ):Prop:=
 ∃aG aI,dn w' aG ex∧dn w' aI xt∧((F 4=none∧E= .returned (zh (bH ((F 0).getD [])) st ln false aU aG aI tr k))∨
  ∃v F' r m md wk pl,F 4=some v∧lT v F' r∧cN w' m r.ms∧cN w' md r.mds∧iB w' wk r.wks∧cN w' pl r.pls∧E= .returned (zh (bH ((F 0).getD [])) st ln true (bW r.fq r.iv r.ct r.un m md wk pl r.ws (gw F')) aG aI tr k))
def Kx (s:List UInt8)(w:θ)(E:Ending)(w':θ):Prop:=
 ((∃F tr k st ln ex xt,lV s F tr k∧kJ F st ln ex xt∧ahw F tr k st ln ex xt E w')∨
  ((¬∃F tr k,lV s F tr k)∧E= .panicked (bN 2))∨
  ((∃F tr k,lV s F tr k∧¬∃st ln ex xt,kJ F st ln ex xt)∧E= .panicked (bN 1))∨
  ((∃F tr k st ln ex xt v,lV s F tr k∧kJ F st ln ex xt∧F 4=some v∧¬∃F' r,lT v F' r)∧E= .panicked (bN 3)))∧Below w.heap.size w w'
theorem ZO {s:ByteArray}{x:Int}{v:Value}(h:Ending.returned v=zi s x):gJ s=true∧v= ζ s:=by
 unfold zi at h;split at h
 ·rename_i hn;exact⟨hn,Ending.returned.inj h⟩
 ·cases h
theorem ZP {s:ByteArray}{x:Int}{c:List PanicEntry}(h:Ending.panicked c=zi s x):gJ s=false∧c=bN x:=by
 unfold zi at h;split at h
 ·cases h
 ·rename_i hn;exact⟨by simpa using hn,Ending.panicked.inj h⟩
theorem ZQ {s:ByteArray}{x:Int}(h:Ending.outgrown=zi s x):False:=by
 unfold zi at h;split at h<;>cases h
theorem Ry {x:Int}{o:Option Bool}{v:Value}(h:Ending.returned v=uD x o):∃z,o=some z∧v= .bool z:=by
 unfold uD at h;cases o with
 |none=>cases h
 |some z=>exact⟨z,rfl,Ending.returned.inj h⟩
theorem Rz {x:Int}{o:Option Bool}{c:List PanicEntry}(h:Ending.panicked c=uD x o):o=none∧c=bN x:=by
 unfold uD at h;cases o with
 |none=>exact⟨rfl,Ending.panicked.inj h⟩
 |some z=>cases h
theorem RA {x:Int}{o:Option Bool}(h:Ending.outgrown=uD x o):False:=by
 unfold uD at h;cases o<;>cases h
theorem dw.uniq {s:List UInt8}{F F':Nat→Option (List UInt8)}(h:dw s F)(h':dw s F'):F'=F:=by
 obtain⟨ls,h1,_,_,_,h5⟩:=h.lines;obtain⟨mM,zc,_,_,_,h5'⟩:=h'.lines;rw[h1]at zc;cases zc;rw[h5]at h5';exact(χ h5').symm
theorem dw.small {s:List UInt8}{F:Nat→Option (List UInt8)}(h:dw s F):∀k,((F k).getD []).length≤2000:=by
 obtain⟨ls,h1,_,_,_,h5⟩:=h.lines;refine my (fun p hp=>?_) (fun k=>by simp) h5;have:p∈ls:=List.mem_of_mem_drop (List.mem_of_mem_take hp);have:=zW h1 p this;have:=h.len;omega
theorem gR:(3:τ)≠79:=by decide
theorem XN:(183:τ)≠79:=by decide
theorem dn.form {w:θ}{v:Value}{zs:List Int}(h:dn w v zs):∃a c,v= ε a zs.length c:=by
 rcases h with⟨rfl,rfl⟩|⟨g,cap,rest,rfl,_⟩<;>exact⟨_,_,rfl⟩
theorem dn.on {w w':θ}{v:Value}{zs:List Int}(h:dn w v zs)(hb:Below w.heap.size w w'):dn w' v zs:=
 h.imp id fun⟨g,cap,rest,h1,h2⟩=>⟨g,cap,rest,h1,h2.on hb⟩
theorem dn.gr {T:τ}{w w':θ}{v:Value}{zs:List Int}(hT:3≠T)(h:dn w v zs)(g:Gr T w w'):dn w' v zs:=
 h.imp id fun⟨k,cap,rest,h1,h2⟩=>⟨k,cap,rest,h1,g.1 _ _ _ hT h2⟩
theorem dc {w:θ}{b:Nat}{cs:List Value}{t:τ}(h:af w b cs t):w.rangeAt b 0 cs:=fun j v hv=>by rw[Τ];exact h.cell hv
theorem nJ {w:θ}{b:Nat}{cs:List Value}{t:τ}{n:Nat}(h:af w b cs t)(hn:n=cs.length):w.there b 0 n:=fun j hj=>by
 subst hn;rw[Τ];exact⟨by rw[h.cell (ο hj)];rfl,h.free⟩
def oD:Nat→List Value→List Value→List Value
 |_,[],cs=>cs
 |o,v::r,cs=>oD (o+1) r (cs.set o v)
theorem BA {T:τ}{W:θ}{b:Nat}:∀{vs:List Value} {o:Nat} {w:θ} {cs:List Value},af w b cs T→Below W.heap.size W w→W.heap.size≤b→
 Gr T w (w.setCells b o vs)∧Below W.heap.size W (w.setCells b o vs)∧af (w.setCells b o vs) b (oD o vs cs) T
 |[],o,w,cs,h,hb,_=>⟨Gr.refl _ _,hb,h⟩
 |v::l,o,w,cs,h,hb,hB=>by
  obtain⟨h1,h2,h3⟩:=BA (vs:=l) (o:=o+1) (h.set (k:=o) v) (hb.setCell (p:=⟨b,o,none⟩) hB v) hB;exact⟨(κ (i:=o) h v).trans h1,h2,h3⟩
theorem Hu (a:Χ)(h:a.tmps.size=61)(hd:a.defers=[]):∃f:Nat→Value,a=⟨#[f 0,f 1,f 2,f 3,f 4,f 5,f 6,f 7,f 8,f 9,f 10,f 11,f 12,f 13,f 14,f 15,f 16,f 17,f 18,f 19,f 20,f 21,f 22,f 23,f 24,f 25,f 26,f 27,f 28,f 29,f 30,f 31,f 32,f 33,f 34,f 35,f 36,f 37,f 38,f 39,f 40,f 41,f 42,f 43,f 44,f 45,f 46,f 47,f 48,f 49,f 50,f 51,f 52,f 53,f 54,f 55,f 56,f 57,f 58,f 59,f 60],[]⟩∧∀k,a.eval (.tmp k)=f k:=jo 61 a h hd
def ba (l:List UInt8):ByteArray:=⟨l.toArray⟩
def iw (k:Nat)(v:List UInt8):Bool:=match k with
 |0=>decide (0<B9 v)
 |1=>decide (0<cT v 100)
 |2=>decide (0<cT v 1000)
 |3=>fs (ba v)
 |4=>(dX (ba v) 12 false).isSome
 |5=>(dX (ba v) 31 true).isSome
 |6=>(jc (ba v)).isSome
 |7=>(dX (ba v) 366 true).isSome
 |8=>decide (0≤gB v)
 |_=>false
def has (f:Nat→Option (List UInt8))(k:Nat):Bool:=(f k).isSome
def ik (f:Nat→Option (List UInt8)):Bool:=match f 6 with
 |none=>false
 |some v=>match jc (ba v)with
  |none=>false
  |some q=>q.2.any fun o=>decide (o≠0)
def kb (f:Nat→Option (List UInt8)):Int:=match f 0 with|none=>0|some v=>B9 v
def agree (f:Nat→Option (List UInt8)):Bool:=
 has f 0&&!(has f 2&&has f 3)&&!(has f 5&&decide (kb f=2))&&!(ik f&&(decide (kb f<3)||has f 5))&&(!has f 7||has f 4||has f 5||has f 6)
def sI (f:Nat→Option (List UInt8)):Bool:=(Ζ 9).all fun k=>match f k with|none=>true|some v=>iw k v
def lv (c:UInt8)(s:List UInt8):List (List UInt8):=(cI (ba s) c.toNat).map (·.data.toList)
def cV (s:List UInt8):Option (Nat→Option (List UInt8)):=match bZ aC 61 (lv 59 s) (fun _=>none)with
 |none=>none
 |some f=>if sI f&&agree f then some f else none
def val (f:Nat→Option (List UInt8))(k:Nat):List UInt8:=(f k).getD []
def lW (s:List UInt8):List (List UInt8):=(dS (dv s) []).1
def wV (s:List UInt8):Bool:=(dS (dv s) []).2&&decide (s.length≤2000)&&decide (2≤(lW s).length)&&decide ((lW s).getD 0 []=oA)&&decide ((lW s).getD ((lW s).length - 1) []=pA)
def mY:List UInt8:=[79,80,65,81,85,69]
def jB:List UInt8:=[84,82,65,78,83,80,65,82,69,78,84]
def jV:List UInt8:=[67,79,78,70,73,82,77,69,68]
def fW:List UInt8:=[84,69,78,84,65,84,73,86,69]
def fX:List UInt8:=[67,65,78,67,69,76,76,69,68]
def must (f:Nat→Option (List UInt8)):Bool:=has f 0&&has f 1&&(has f 2 !=has f 3)&&gJ (ba (val f 0))
def jC (f:Nat→Option (List UInt8)):Bool:=!(has f 7&&(decide (jh (val f 7) mY jB []=0)||decide (val f 7=[])))&&!(has f 8&&decide (jh (val f 8) jV fW fX=0))
def bj (s:List UInt8):Option (Nat→Option (List UInt8)):=
 if wV s then match bZ bJ 58 (dz (lW s)) (fun _=>none)with
  |none=>none
  |some f=>if must f&&jC f then some f else none
 else none
def lX (o:Option (List UInt8)):Option (List Int):=match o with|none=>some []|some v=>wW (ba v)
def Ca (o:Option (List UInt8)):Option (Option (Nat→Option (List UInt8))):=match o with|none=>some none|some v=>(cV v).map some
def kindOf (f:Nat→Option (List UInt8)):Int:=if has f 8 then jh (val f 8) jV fW fX else 1
def eO (f:Nat→Option (List UInt8)):Bool:=decide (val f 7=jB)
structure iT where
 f:Nat→Option (List UInt8)
 st:Int
 ln:Int
 ex:List Int
 xt:List Int
 rl:Option (Nat→Option (List UInt8))
def cG (s:List UInt8):Except Int iT:=match bj s with
 |none=> .error 2
 |some f=>match ea (val f 1)with
  |none=> .error 1
  |some st=>match jv st (f 3) (f 2)with
   |none=> .error 1
   |some ln=>match lX (f 5)with
    |none=> .error 1
    |some ex=>match lX (f 6)with
     |none=> .error 1
     |some xt=>match Ca (f 4)with
      |none=> .error 3
      |some rl=> .ok ⟨f,st,ln,ex,xt,rl⟩
def F5:List UInt8:=[85,73,68,58]
def F6:List UInt8:=[68,84,83,84,65,82,84,58]
def F7:List UInt8:=[68,85,82,65,84,73,79,78,58,80,84]
def F9:List UInt8:=[82,82,85,76,69,58]
def Ky:List UInt8:=[69,88,68,65,84,69,58]
def Kz:List UInt8:=[82,68,65,84,69,58]
def PY:List UInt8:=[84,82,65,78,83,80,58,84,82,65,78,83,80,65,82,69,78,84]
def oE:List UInt8:=[83,84,65,84,85,83,58]
def nK (u:List UInt8)(st ln:Int):List (List UInt8):=[oA,F5++u,F6++fC st,F7++Lib.decDigits ln.toNat++[83]]
def zZ (rt:Option (List UInt8)):List (List UInt8):=match rt with|none=>[]|some t=>[F9++t]
def zj (ex:List Int):List (List UInt8):=if ex.length=0 then[]else[Ky++Lib.join (ex.map fC) [44]]
def zk (xt:List Int):List (List UInt8):=if xt.length=0 then[]else[Kz++Lib.join (xt.map fC) [44]]
def wX (tr:Bool):List (List UInt8):=if tr then[PY]else[]
def zl (k:Int):List (List UInt8):=if k=1 then[oE++fW]else if k=2 then[oE++fX]else[]
def wY (u:List UInt8)(st ln:Int)(rt:Option (List UInt8))(ex xt:List Int)(tr:Bool)(k:Int):List (List UInt8):=
 nK u st ln++zZ rt++zj ex++zk xt++wX tr++zl k++[pA]
theorem yk {P:Η}{a:Addr}{w:θ}:(asAddr (δ (some a))).run P w= .ok a w:=by simp[asAddr]
theorem ke {P:Η}{fn:Func}{tmps:Array Value}{w:θ}{t:Nat}{ty:τ}{b o:Nat}{v:Value}(hf:fn.results=#[.cell t ty])(ht:tmps.getD t undef= δ (some ⟨b,o,none⟩))
 (hl:(loadVar ty ⟨b,o,none⟩).run P w= .ok v w):(results fn tmps).run P w= .ok v w:=by
 unfold results;rw[ν]at ht;rw[hf];simp[ht,yk,hl]
theorem results_cell_tmp {P:Η}{fn:Func}{tmps:Array Value}{w:θ}{t s:Nat}{ty:τ}{b o:Nat}{v:Value}(hf:fn.results=#[.cell t ty, .tmp s])(ht:tmps.getD t undef= δ (some ⟨b,o,none⟩))
 (hl:(loadVar ty ⟨b,o,none⟩).run P w= .ok v w):(results fn tmps).run P w= .ok (.tuple #[v,tmps.getD s undef]) w:=by
 unfold results;rw[ν]at ht;rw[hf];simp[ht,yk,hl]
theorem B0 {P:Η}{fn:Func}{tmps:Array Value}{w:θ}{t t' s:Nat}{ty ty':τ}{b o b' o':Nat}{v v':Value}(hf:fn.results=#[.cell t ty, .cell t' ty', .tmp s])(ht:tmps.getD t undef= δ (some ⟨b,o,none⟩))(XO:tmps.getD t' undef= δ (some ⟨b',o',none⟩))
 (hl:(loadVar ty ⟨b,o,none⟩).run P w= .ok v w)(Hv:(loadVar ty' ⟨b',o',none⟩).run P w= .ok v' w):(results fn tmps).run P w= .ok (.tuple #[v,v',tmps.getD s undef]) w:=by
 unfold results;rw[ν]at ht XO;rw[hf];simp[ht,XO,yk,hl,Hv]
theorem eC {P:Η}{ops:Array Θ}{Q:Exit→Χ→θ→Prop}{o:Θ}{rest:List Θ}{a:Χ}{w w':θ}{v:Value}(ix:o.guard=none)(h:(execOp a.eval o).run P w= .ok (.value v) w')(hK:wpList P ops Q rest (a.put o.dst v) w'):wpList P ops Q (o::rest) a w:=
 wpList_plain ix fun _ hk=>aj h (hk _ _ hK)
end Go.Proofs.YthpndgcaoeokeaaGreatDoor
