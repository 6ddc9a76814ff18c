import Derived.Test.YthpndgcaoeokeaaGreatDoorCo11
import Derived.Lib.Replace
set_option maxRecDepth 100000
set_option maxHeartbeats 8000000
open Go.IntKind renaming i64→Z
open Go.Ending renaming returned→δ
open Go.Value renaming string→ε,int→θ,bool→ξ
open Nat renaming le_refl→ζ,zero_add→Ι
open Go renaming World→η,Oper→υ,Calls→ψ
open List renaming isPrefixOf→ι,all_eq_true→ο,getLast?_cons_cons→τ,range→Γ,length_map→Ζ,length→Κ
open Go.RowKit.Below renaming refl→κ
open Go.Region renaming ready→μ,binds→φ,wanted→ω
open Go.Lib renaming compact→ν,trimSuffix→ρ,countB→Α,hasSuffix→Θ
open Bool renaming and_eq_true→π,and_eq_false_iff→Β,false_ne_true→Δ,and_true→Η
open Array renaming getD_eq_getD_getElem?→χ,replicate→Ε
namespace Go.Proofs.YthpndgcaoeokeaaGreatDoor
open Tryz
open Go.RowKit Go.Sort
theorem Dt {s:ByteArray}(h:fs s=true):0≤eI s∧eI s≤7258118399:=by
 obtain⟨_,_,_,y0,y1,vd,h1,h2,m1,m2,s1,s2⟩:=eA.1 h;have nb:=wO y0 y1 vd;unfold eI;omega
theorem By {v:List UInt8}{z:Int}(h:ea v=some z):0≤z∧z≤7258118399:=by
 unfold ea at h;split at h
 ·rename_i ht;cases h;exact Dt ht
 ·cases h
theorem FZ (start:Int)(v:List UInt8)(l:Option (List UInt8))(w:η)(h0:0≤start)(h1:start≤7258118399):
 ψ prog 79 #[.int Z start,aZ (some v),aZ l] w fun E w'=>E=dR 1 (jv start (some v) l)∧Below w.heap.size w w':=by
 have k:=fun W=>mx (bH v) W;rw[uC]at k;unfold aZ;cases ht:ea v with
 |none=>
  rw[ht]at k;rw[show jv start (some v) l=none from by unfold jv;simp only[];rw[ht];rfl];unfold dR at k;have C:=ad k;clear k ht;go_enter func79,ntmps79;go_wp2_with (go_at_call 78;refine(C.out _).mono ?_;rintro e w1 ⟨rfl,ai⟩);exact⟨rfl,rfl,(((κ _ _).alloc (ζ _) _).alloc (by simp) _).trans (ai.mono (by simp;omega))⟩
 |some z=>
  rw[ht]at k;have hz:=By ht;have ow:jv start (some v) l=if 1≤z - start∧z - start≤2678400 then some (z - start)else none:=by unfold jv;simp only[];rw[ht];rfl
  rw[ow];unfold dR at k;have C:=ad k;clear k ht ow;by_cases g1:1≤z - start
  ·by_cases g2:z - start≤2678400
   ·rw[if_pos ⟨g1,g2⟩];go_enter func79,ntmps79;go_wp2_with (first
     |(go_at_call 78;refine(C.out _).mono ?_;rintro e w1 ⟨rfl,ai⟩)
     |(go_at_call_of 65 (ξ true);refine(aF _ _).mono ?_;rintro e w' ⟨rfl,rfl⟩))
    go_ret;exact⟨rfl,(((κ _ _).alloc (ζ _) _).alloc (by simp) _).trans (ai.mono (by simp;omega))⟩
   ·rw[if_neg (fun h=>g2 h.2)];have XB:decide (z - start≤2678400)=false:=by simpa using g2
    go_enter func79,ntmps79;go_wp2_with (first
     |(go_at_call 78;refine(C.out _).mono ?_;rintro e w1 ⟨rfl,ai⟩)
     |(go_at_call_of 65 (ξ false);refine(aM _ _).mono ?_;rintro e w' ⟨rfl,rfl⟩))
    exact⟨rfl,rfl,(((κ _ _).alloc (ζ _) _).alloc (by simp) _).trans (ai.mono (by simp;omega))⟩
  ·rw[if_neg (fun h=>g1 h.1)];have g1':decide (1≤z - start)=false:=by simpa using g1
   go_enter func79,ntmps79;go_wp2_with (first
    |(go_at_call 78;refine(C.out _).mono ?_;rintro e w1 ⟨rfl,ai⟩)
    |(go_at_call_of 65 (ξ false);refine(aM _ _).mono ?_;rintro e w' ⟨rfl,rfl⟩))
   exact⟨rfl,rfl,(((κ _ _).alloc (ζ _) _).alloc (by simp) _).trans (ai.mono (by simp;omega))⟩
theorem F0 (start:Int)(l:Option (List UInt8))(w:η)(hl:(l.getD []).length≤maxLen):
 ψ prog 79 #[.int Z start,aZ none,aZ l] w fun E w'=>E=dR 1 (jv start none l)∧Below w.heap.size w w':=by
 have k:=fun W=>Ds (l.getD []) W hl;unfold aZ;cases ht:fN (l.getD [])with
 |none=>
  rw[ht]at k;rw[show jv start none l=none from by unfold jv;simp only[];rw[ht]];unfold dR at k;have C:=ad k;clear k ht;go_enter func79,ntmps79;go_wp2_with (go_at_call 135;refine(C.out _).mono ?_;rintro e w1 ⟨rfl,ai⟩);exact⟨rfl,rfl,(((κ _ _).alloc (ζ _) _).alloc (by simp) _).trans (ai.mono (by simp;omega))⟩
 |some z=>
  rw[ht]at k;have ow:jv start none l=if 1≤z∧z≤2678400 then some z else none:=by unfold jv;simp only[];rw[ht]
  rw[ow];unfold dR at k;have C:=ad k;clear k ht ow;by_cases g1:1≤z
  ·by_cases g2:z≤2678400
   ·rw[if_pos ⟨g1,g2⟩];go_enter func79,ntmps79;go_wp2_with (first
     |(go_at_call 135;refine(C.out _).mono ?_;rintro e w1 ⟨rfl,ai⟩)
     |(go_at_call_of 65 (ξ true);refine(aF _ _).mono ?_;rintro e w' ⟨rfl,rfl⟩))
    go_ret;exact⟨rfl,(((κ _ _).alloc (ζ _) _).alloc (by simp) _).trans (ai.mono (by simp;omega))⟩
   ·rw[if_neg (fun h=>g2 h.2)];have XB:decide (z≤2678400)=false:=by simpa using g2
    go_enter func79,ntmps79;go_wp2_with (first
     |(go_at_call 135;refine(C.out _).mono ?_;rintro e w1 ⟨rfl,ai⟩)
     |(go_at_call_of 65 (ξ false);refine(aM _ _).mono ?_;rintro e w' ⟨rfl,rfl⟩))
    exact⟨rfl,rfl,(((κ _ _).alloc (ζ _) _).alloc (by simp) _).trans (ai.mono (by simp;omega))⟩
  ·rw[if_neg (fun h=>g1 h.1)];have g1':decide (1≤z)=false:=by simpa using g1
   go_enter func79,ntmps79;go_wp2_with (first
    |(go_at_call 135;refine(C.out _).mono ?_;rintro e w1 ⟨rfl,ai⟩)
    |(go_at_call_of 65 (ξ false);refine(aM _ _).mono ?_;rintro e w' ⟨rfl,rfl⟩))
   exact⟨rfl,rfl,(((κ _ _).alloc (ζ _) _).alloc (by simp) _).trans (ai.mono (by simp;omega))⟩
theorem Ew (start:Int)(e l:Option (List UInt8))(w:η)(h0:0≤start)(h1:start≤7258118399)(hl:(l.getD []).length≤maxLen):
 ψ prog 79 #[.int Z start,aZ e,aZ l] w fun E w'=>E=dR 1 (jv start e l)∧Below w.heap.size w w':=by
 cases e with
 |none=>exact F0 start l w hl
 |some v=>exact FZ start v l w h0 h1
def dn (w:η)(v:Value)(zs:List Int):Prop:=(v= .slice none 0 0∧zs=[])∨∃g cap rest,v= .slice (some ⟨g,0,none⟩) zs.length cap∧af w g ((zs++rest).map (θ Z)) 3
def qR (f:Option (List UInt8)):Option (List Int):=(dJ ea f).map fun zs=>ν (zs.mergeSort fun x y=>decide (x≤y))
theorem Hd {w:η}{g:Nat}{zs:List Int}{t:TypeId}(h:af w g (zs.map (θ Z)) t):Holds (θ Z) w g 0 zs.toArray:=fun j hj=>by
 have hj':j<zs.length:=by simpa using hj
 rw[Ι];refine⟨h.cell ?_,h.free⟩;rw[List.getElem?_map,List.getElem?_eq_getElem hj'];simp[hj']
theorem Of {w:η}{g:Nat}{zs ds:List Int}{t:TypeId}(h:af w g (zs.map (θ Z)) t)(hd:ds.length=zs.length)(n:Nat):af (putRow (θ Z) (Sort.ahead w n) g 0 ds.toArray) g (ds.map (θ Z)) t:=by
 unfold af at h⊢;unfold putRow mapBlock;have h':(Sort.ahead w n).heap[g]?=some (.cells (zs.map (θ Z)).toArray t):=h;simp only[Array.getElem?_modify,if_true,h',Option.map_some,onCells];congr 2;unfold putCells;apply Array.ext
 ·simp[hd]
 ·intro i h1 h2;have hi:i<ds.length:=by simpa using h2
  simp[hi]
theorem Vd {w:η}{g:Nat}{cs:List Value}{t:TypeId}(h:af w g cs t)(os:Array Obj):af (grow w os) g cs t:=by
 have hl:=h.lt;unfold af at h⊢;show(w.heap++os)[g]?=_;rw[Array.getElem?_append_left hl];exact h
theorem He {B:Nat}{w:η}{g n:Nat}{d:Array Int}(hg:B≤g):Below B w (putRow (θ Z) (Sort.ahead w n) g 0 d):=by
 refine⟨rfl,rfl,rfl,by rw[size_putRow];exact ζ _,fun k hk=>?_⟩;unfold putRow mapBlock;show((Sort.ahead w n).heap.modify g _)[k]?=w.heap[k]?;rw[Array.getElem?_modify,if_neg (by omega)];rfl
theorem below_grow {B:Nat}{a w:η}(h:Below B a w)(os:Array Obj)(hB:B≤w.heap.size):Below B a (grow w os):=
 ⟨h.os,h.tape,h.output,by show _≤(w.heap++os).size;rw[Array.size_append];have:=h.size;omega,fun k hk=>by
  show(w.heap++os)[k]?=_;rw[Array.getElem?_append_left (by omega)];exact h.block k hk⟩
def aa8 (f:Option (List UInt8))(w:η)(E:Ending)(w':η):Prop:=
 ((∃zs v,qR f=some zs∧E= δ v∧dn w' v zs)∨(qR f=none∧E= .panicked (bN 1)))∧Below w.heap.size w w'
theorem xZ (zs:List Int):(ν zs).length≤zs.length:=by
 unfold ν Lib.compactUpTo;rw[Ζ];exact Nat.le_trans (List.length_filter_le _ _) (by simp)
theorem Ns {g n:Nat}{S:List Int}{w:η}(hn:S.length=n)(hb:n≤20)(ax:af w g (S.map (θ Z)) 3):
 ψ prog 138 #[.slice (some ⟨g,0,none⟩) n n] w fun e w'=>e= δ (.slice (some ⟨g,0,none⟩) (ν S).length n)∧af w' g ((ν S++List.replicate (S.length - (ν S).length) 0).map (θ Z)) 3∧∀B,B≤g→Below B w w':=by
 subst hn;have dP:=xZ S;refine(Tryz.slices_Compact_int g 0 S.length S w (Hd ax) (by omega) (ζ _)).mono fun e w' ⟨h1,q,h2⟩=>⟨h1,?_,fun B hB=>?_⟩
 ·rw[h2];exact Of ax (by simp;omega) q
 ·rw[h2];exact He hB
theorem Ve:([]:List Int).mergeSort (fun x y=>decide (x≤y))=[]:=by simp
theorem zf (f:Option (List UInt8))(w:η)(hm:ML w)(hl:(f.getD []).length≤1048576):
 ψ prog 80 #[aZ f] w (aa8 f w):=by
 have bz:Below w.heap.size w (w.alloc (.cells #[ε ⟨(f.getD []).toArray⟩, .bool f.isSome] 122)):=(κ _ _).alloc (ζ _) _;have fH:(w.alloc (.cells #[ε ⟨(f.getD []).toArray⟩, .bool f.isSome] 122)).heap.size=w.heap.size+1:=by simp
 have CL:=FU f (w.alloc (.cells #[ε ⟨(f.getD []).toArray⟩, .bool f.isSome] 122)) (hm.on bz) hl;cases hq:dJ ea f with
 |none=>
  have ht:qR f=none:=by unfold qR;rw[hq];rfl
  have C:Hid (ψ prog 136 #[aZ f, .int Z 1, .func (.func 78) #[] #[]] (w.alloc (.cells #[ε ⟨(f.getD []).toArray⟩, .bool f.isSome] 122)) fun E w'=>E= .panicked (bN 1)∧Below w.heap.size w w'):=
   ad (CL.mono fun E w' ⟨h1,h2⟩=>by
    refine⟨?_,bz.trans (h2.mono (by omega))⟩;rcases h1 with⟨zs,v,h,_⟩|⟨_,h⟩
    ·rw[hq]at h;cases h
    ·exact h)
  have HT:=ad ht;unfold aZ at C⊢;clear CL hq ht bz fH hm hl;go_enter func80,ntmps80;go_wp2_with (go_at_call 136;refine(C.out).mono ?_;rintro e w1 ⟨rfl,ai⟩);exact⟨rfl, .inr ⟨HT.out,rfl⟩,ai⟩
 |some zs=>
  have ht:qR f=some (ν (zs.mergeSort fun x y=>decide (x≤y))):=by unfold qR;rw[hq];rfl
  have hlen:=rV hq;cases f with
  |none=>
   have hz:zs=[]:=by unfold dJ at hq;simp only[]at hq;cases hq;rfl
   subst hz;have C:Hid (ψ prog 136 #[aZ none, .int Z 1, .func (.func 78) #[] #[]] (w.alloc (.cells #[ε ⟨((none:Option (List UInt8)).getD []).toArray⟩, .bool (none:Option (List UInt8)).isSome] 122)) fun E w'=>E= δ (.slice none 0 0)∧Below w.heap.size w w'):=
    ad ((zL 78 1 _).mono fun E w' ⟨h1,h2⟩=>⟨h1,bz.trans (h2.mono (by omega))⟩)
   rw[Ve]at ht;have HT:=ad ht;unfold aZ at C⊢;clear CL hq ht bz fH hm hl hlen;go_enter func80,ntmps80;go_wp2_with (first
    |(go_at_call 136;refine(C.out).mono ?_;rintro e w1 ⟨rfl,ai⟩)
    |(go_at_call 137;refine(Tryz.slices_Sort_int_none _ _ _).mono ?_;rintro e w' ⟨rfl,rfl⟩)
    |(go_at_call 138;refine(Tryz.slices_Compact_int_empty _ _ _).mono ?_;rintro e w' ⟨rfl,rfl⟩))
   go_ret;exact⟨.inl ⟨[],_,HT.out,rfl, .inl ⟨rfl,rfl⟩⟩,ai⟩
  |some v=>
   have C:Hid (ψ prog 136 #[aZ (some v), .int Z 1, .func (.func 78) #[] #[]] (w.alloc (.cells #[ε ⟨((some v).getD []).toArray⟩, .bool (some v).isSome] 122)) fun E w'=>∃g,E= δ (.slice (some ⟨g,0,none⟩) zs.length zs.length)∧w.heap.size≤g∧af w' g (zs.map (θ Z)) 3∧Below w.heap.size w w'):=
    ad ((zM ea 78 v 1 _ (hm.on bz) hl (enters_of func78 (by kernel_rfl) rfl) (fun t W _=>(mx (bH t) W).mono fun E w' ⟨h1,h2⟩=>⟨by rw[h1,uC];unfold dR;cases ea t<;>rfl,h2⟩)).mono fun E w' ⟨h1,h2⟩=>by
     unfold wR at h1;rw[hq]at h1;obtain⟨g,e,hg,ax⟩:=h1;exact⟨g,e,by omega,ax,bz.trans (h2.mono (by omega))⟩)
   obtain⟨S,hS⟩:∃S,S=zs.mergeSort fun x y=>decide (x≤y):=⟨_,rfl⟩;have XC:S.length=zs.length:=by rw[hS,List.length_mergeSort]
   rw[←hS]at ht;have dP:=xZ S;have HT:=ad ht;have HS:=ad hS;unfold aZ at C⊢;clear CL hq ht bz fH hm hl hS;go_enter func80,ntmps80;go_wp2_with (first
    |(go_at_call 136;refine(C.out).mono ?_;rintro e w1 ⟨g,rfl,hg,ax,ai⟩)
    |(go_at_call 137;refine(Tryz.slices_Sort_int g 0 zs.length zs w1 (Hd ax) ax.lt (by omega)).mono ?_;rintro e w2 ⟨rfl,n,os,Hf⟩;rw[←HS.out]at Hf;have XD:=Vd (Of ax XC n) os;have az:Below w.heap.size w w2:=(by rw[Hf];exact below_grow (ai.trans (He hg)) os (by rw[size_putRow];exact ai.size));rw[←Hf]at XD;clear Hf)
    |(go_at_call 138;refine(Ns XC (by omega) XD).mono ?_;rintro e w3 ⟨rfl,aeD,bw⟩))
   go_ret;exact⟨.inl ⟨ν S,_,HT.out,rfl, .inr ⟨g,zs.length,_,rfl,aeD⟩⟩,az.trans (bw _ hg)⟩
open Go.Lib
def gH:List UInt8:=[13,10,32]
def rep (s:List UInt8):List UInt8:=replaceK gH [] (count s gH) s
theorem aa9 (s:List UInt8):replaceAll s gH []=rep s:=by
 unfold replaceAll replace rep;rw[if_neg (by decide)];unfold replaceNum;rw[if_pos (.inl (by decide))]
theorem sE {s:List UInt8}(h:index s gH=-1):rep s=s:=by
 unfold rep;rw[count_miss h];rfl
theorem Du {s:List UInt8}{i:Nat}(h:index s gH=i):rep s=s.take i++rep (s.drop (i+3)):=by
 unfold rep;rw[count_hit (by decide) h,Nat.add_comm,replaceK_hit _ _ _ _ i h];simp[gH]
theorem Rp (r:List UInt8):index (13::10::32::r) gH=0:=by
 unfold index;rw[if_pos (by simp[gH])]
theorem ZK (r:List UInt8):rep (13::10::32::r)=rep r:=by
 rw[Du (i:=0) (Rp r)];simp
theorem yc {a:UInt8}{r:List UInt8}(h:gH.isPrefixOf (a::r)=false):rep (a::r)=a::rep r:=by
 have e:index (a::r) gH=if index r gH==-1 then -1 else index r gH+1:=by
  rw[index,if_neg (by rw[h];exact Δ)]
 have Ex:=index_ge r gH;by_cases hm:index r gH=-1
 ·rw[sE hm,sE (by rw[e,hm];rfl)]
 ·obtain⟨i,hi⟩:∃i:Nat,index r gH=i:=⟨(index r gH).toNat,by omega⟩;rw[Du hi,Du (s:=a::r) (i:=i+1) (by rw[e,hi,if_neg (by simp)];rfl)];simp
theorem F1:∀s:List UInt8,dv s=rep s
 |[]=>(sE rfl).symm
 |[a]=>by
  rw[yc (by simp[gH,ι]),sE rfl];rfl
 |[a,b]=>by
  rw[yc (by simp[gH,ι]),yc (by simp[gH,ι]),sE rfl];rfl
 |a::b::c::r=>by
  rw[dv];split
  ·rename_i h;obtain⟨rfl,rfl,rfl⟩:=h;rw[ZK,F1 r]
  ·rename_i h;rw[yc,F1 (b::c::r)];simp only[gH,ι,Β,beq_eq_false_iff_ne,Η];by_cases h1:a=13
   ·by_cases h2:b=10
    ·have h3:c≠32:=fun h3=>h ⟨h1,h2,h3⟩;exact .inr (.inr (Ne.symm h3))
    ·exact .inr (.inl (Ne.symm h2))
   ·exact .inl (Ne.symm h1)
def crlf:List UInt8:=[13,10]
def dM:List UInt8→List (List UInt8)
 |[]=>[[]]
 |[a]=>[[a]]
 |a::b::r=>if a=13∧b=10 then[]::dM r else glue [a] (dM (b::r))
theorem ZL (acc:List UInt8)(l:List (List UInt8)):glue acc l≠[]:=by cases l<;>simp[glue]
theorem Rq (a b:List UInt8)(l:List (List UInt8))(h:l≠[]):glue a (glue b l)=glue (a++b) l:=by
 cases l with
 |nil=>exact absurd rfl h
 |cons x t=>simp[glue]
theorem jZ:∀l:List UInt8,dM l≠[]
 |[]=>by simp[dM]
 |[a]=>by simp[dM]
 |a::b::r=>by
  rw[dM];split
  ·simp
  ·exact ZL _ _
theorem Kr (acc:List UInt8){l:List (List UInt8)}(h:l≠[]):(acc::l).dropLast=acc::l.dropLast:=by
 cases l with
 |nil=>exact absurd rfl h
 |cons x t=>rfl
theorem ye:∀(u acc:List UInt8),dS u acc=((glue acc (dM u)).dropLast,((glue acc (dM u)).getLast?.getD []).isEmpty)
 |[],acc=>by simp[dS,dM,glue]
 |[a],acc=>by simp[dS,dM,glue]
 |a::b::r,acc=>by
  rw[dS,dM];split
  ·have ih:=ye r [];rw[sF (jZ r)]at ih;rw[ih];simp only[glue,List.append_nil];rw[Kr acc (jZ r)];cases hs:dM r with
   |nil=>exact absurd hs (jZ r)
   |cons x t=>simp[τ]
  ·rw[ye (b::r) (acc++[a]),Rq _ _ _ (jZ _)]
def ox (s:List UInt8):List (List UInt8):=splitK crlf 0 (count s crlf) s
theorem yf {s:List UInt8}(h:index s crlf=-1):ox s=[s]:=by
 unfold ox;rw[count_miss h];rfl
theorem Dv {s:List UInt8}{i:Nat}(h:index s crlf=i):ox s=s.take i::ox (s.drop (i+2)):=by
 have qS:¬(index s crlf==-1)=true:=fun e=>by have:=beq_iff_eq.1 e;omega
 have et:(index s crlf).toNat=i:=by omega
 unfold ox;rw[count_hit (by decide) h,Nat.add_comm,splitK,if_neg qS,et];simp[crlf]
theorem ZM (r:List UInt8):ox (13::10::r)=[]::ox r:=by
 have:index (13::10::r) crlf=(0:Nat):=by unfold index;rw[if_pos (by simp[crlf])];rfl
 rw[Dv this];simp
theorem Ks {a:UInt8}{r:List UInt8}(h:crlf.isPrefixOf (a::r)=false):ox (a::r)=glue [a] (ox r):=by
 have e:index (a::r) crlf=if index r crlf==-1 then -1 else index r crlf+1:=by
  rw[index,if_neg (by rw[h];exact Δ)]
 have Ex:=index_ge r crlf;by_cases hm:index r crlf=-1
 ·rw[yf hm,yf (by rw[e,hm];rfl)];rfl
 ·obtain⟨i,hi⟩:∃i:Nat,index r crlf=i:=⟨(index r crlf).toNat,by omega⟩;rw[Dv hi,Dv (s:=a::r) (i:=i+1) (by rw[e,hi,if_neg (by simp)];rfl)];simp[glue]
theorem sG:∀s:List UInt8,dM s=ox s
 |[]=>(yf rfl).symm
 |[a]=>by
  rw[Ks (by simp[crlf,ι]),yf rfl];rfl
 |a::b::r=>by
  rw[dM];split
  ·rename_i h;obtain⟨rfl,rfl⟩:=h;rw[ZM,sG r]
  ·rename_i h;rw[Ks,sG (b::r)];simp only[crlf,ι,Β,beq_eq_false_iff_ne,Η];by_cases h1:a=13
   ·exact .inr (Ne.symm (fun h2=>h ⟨h1,h2⟩))
   ·exact .inl (Ne.symm h1)
theorem Rr (acc:List UInt8){l:List (List UInt8)}(x:List UInt8)(h:l≠[]):glue acc (l++[x])=glue acc l++[x]:=by
 cases l with
 |nil=>exact absurd rfl h
 |cons y t=>simp[glue]
theorem Dw:∀l:List UInt8,dM (l++[13,10])=dM l++[[]]
 |[]=>by simp[dM]
 |[a]=>by
  show dM (a::13::[10])=_;simp[dM,glue]
 |a::b::r=>by
  show dM (a::b::(r++[13,10]))=_;rw[dM,dM];split
  ·rw[Dw r];rfl
  ·rw[show b::(r++[13,10])=(b::r)++[13,10]from rfl,Dw (b::r),Rr _ _ (jZ _)]
theorem zU:∀u:List UInt8,(dM u).getLast?.getD []=[]→u=[]∨∃i,u=i++[13,10]
 |[],_=> .inl rfl
 |[a],h=>by simp[dM]at h
 |a::b::r,h=>by
  rw[dM]at h;split at h
  ·rename_i XE;obtain⟨rfl,rfl⟩:=XE;have hr:(dM r).getLast?.getD []=[]:=by
    cases hs:dM r with
    |nil=>exact absurd hs (jZ r)
    |cons x t=>rw[hs,τ]at h;exact h
   rcases zU r hr with rfl|⟨i,rfl⟩
   ·exact .inr ⟨[],rfl⟩
   ·exact .inr ⟨13::10::i,rfl⟩
  ·have hr:(dM (b::r)).getLast?.getD []=[]:=by
    cases hs:dM (b::r)with
    |nil=>exact absurd hs (jZ _)
    |cons x t=>
     rw[hs]at h;cases t with
     |nil=>simp[glue]at h
     |cons y t=>simp only[glue]at h;rw[τ]at h⊢;exact h
   rcases zU (b::r) hr with h0|⟨i,hi⟩
   ·cases h0
   ·exact .inr ⟨a::i,by rw[hi];rfl⟩
theorem ZN (i:List UInt8):dS (i++[13,10]) []=(ox i,true):=by
 rw[ye,sF (jZ _),Dw,←sG];simp
theorem aba {u:List UInt8}(h0:u≠[])(h:∀i,u≠i++[13,10]):(dS u []).2=false:=by
 rw[ye,sF (jZ _)];cases hs:(dM u).getLast?.getD []with
 |nil=>
  rcases zU u hs with h1|⟨i,h1⟩
  ·exact absurd h1 h0
  ·exact absurd h1 (h i)
 |cons x t=>rfl
def jw (s:List UInt8):Option (List (List UInt8)):=if Θ (dv s) crlf=true then some (ox (ρ (dv s) crlf))else none
def Rs (s:List UInt8)(x:Int)(w:η)(E:Ending)(w':η):Prop:=
 (match jw s with
 |none=>E= .panicked (bN x)
 |some ls=>∃g,E= δ (.slice (some ⟨g,0,none⟩) ls.length ls.length)∧w.heap.size≤g∧af w' g (strs ls) 9)∧Below w.heap.size w w'
theorem B6 (l:List UInt8):(Lib.splitB ⟨#[13,10]⟩ 0 (Α ⟨l.toArray⟩ ⟨#[13,10]⟩) ⟨l.toArray⟩).map Value.string=strs (ox l):=by
 have h1:=Lib.splitB_data ⟨#[13,10]⟩ 0 (Α ⟨l.toArray⟩ ⟨#[13,10]⟩) ⟨l.toArray⟩;have h3:(Lib.splitB ⟨#[13,10]⟩ 0 (Α ⟨l.toArray⟩ ⟨#[13,10]⟩) ⟨l.toArray⟩).map (·.data.toList)=ox l:=h1;rw[←h3];unfold strs;rw[List.map_map];apply List.map_congr_left;intro a _;simp
theorem Kt (l:List UInt8):Α ⟨l.toArray⟩ ⟨#[13,10]⟩+1=(ox l).length:=by
 have h1:=Lib.splitB_all ⟨#[13,10]⟩ (by decide) 0 _ ⟨l.toArray⟩ rfl;have h2:=congrArg Κ (B6 l);rw[Ζ,iF]at h2;omega
theorem JI (l:List UInt8)(w:η)(hm:ML w)(hl:l.length≤1048576):
 ψ prog 139 #[ε ⟨l.toArray⟩, ε ⟨#[13,10]⟩] w fun e w'=>e= δ (.slice (some ⟨w.heap.size,0,none⟩) (ox l).length (ox l).length)∧w'=w.alloc (.cells (strs (ox l)).toArray 9):=by
 obtain⟨_,m,hm⟩:=hm;have k:=Tryz.strings_Split ⟨l.toArray⟩ ⟨#[13,10]⟩ m w (by show l.length<4294967281;omega) hm (by decide);rw[B6,Kt]at k;exact k
theorem F2 (s:List UInt8)(w:η)(hm:ML w)(hl:s.length≤1048576):
 ψ prog 203 #[ε ⟨s.toArray⟩, ε ⟨#[13,10,32]⟩, ε ⟨#[]⟩] w fun e w'=>e= δ (ε ⟨(dv s).toArray⟩)∧Below w.heap.size w w':=by
 obtain⟨_,m,hm⟩:=hm;have k:=Tryz.strings_ReplaceAll ⟨s.toArray⟩ ⟨#[13,10,32]⟩ ⟨#[]⟩ m w (by show s.length<4294967281;omega) hm (by decide) (by show s.length+_ * 0≤140737488355328;omega);rw[show(⟨s.toArray⟩:ByteArray).data.toList=s from rfl,show(⟨#[13,10,32]⟩:ByteArray).data.toList=gH from rfl,show(⟨#[]⟩:ByteArray).data.toList=[]from rfl,aa9,←F1]at k;exact k
theorem pz:∀(n:Nat) (s:List UInt8),s.length≤n→(dv s).length≤s.length
 |n,[],_=>by simp[dv]
 |n,[a],_=>by simp[dv]
 |n,[a,b],_=>by simp[dv]
 |0,a::b::c::r,h=>by simp at h
 |n+1,a::b::c::r,h=>by
  rw[dv];split
  ·have:=pz n r (by simp at h;omega);simp;omega
  ·have:=pz n (b::c::r) (by simp at h⊢;omega);simp at this⊢;omega
theorem PV (s:List UInt8)(x:Int)(w:η)(hm:ML w)(hl:s.length≤1048576):
 ψ prog 128 #[ε ⟨s.toArray⟩, .int Z x] w (Rs s x w):=by
 have CR:=ad (F2 s w hm hl);have hul:=pz s.length s (ζ _);have cs:=fun W=>Tryz.strings_CutSuffix ⟨(dv s).toArray⟩ ⟨#[13,10]⟩ W (by show(dv s).length≤9223372036854775807;omega);rw[show(⟨(dv s).toArray⟩:ByteArray).data.toList=dv s from rfl,show(⟨#[13,10]⟩:ByteArray).data.toList=crlf from rfl]at cs;cases hq:Θ (dv s) crlf with
 |false=>
  have HE:Hid (jw s=none):=ad (by unfold jw;rw[hq];rfl);rw[hq]at cs;have C:=ad cs;clear cs hq;go_enter func128,ntmps128;go_wp2_with (first
   |(go_at_call 203;refine(CR.out).mono ?_;rintro e w1 ⟨rfl,ai⟩)
   |(go_at_call 204;refine(C.out _).mono ?_;rintro e w' ⟨rfl,rfl⟩)
   |(go_at_call_of 65 (ξ false);refine(aM _ _).mono ?_;rintro e w' ⟨rfl,rfl⟩))
  refine⟨rfl,?_,ai⟩;rw[HE.out]
 |true=>
  have HE:Hid (jw s=some (ox (ρ (dv s) crlf))):=ad (by unfold jw;rw[hq];rfl);rw[hq]at cs;have Og:(ρ (dv s) crlf).length≤1048576:=by
   unfold ρ;split<;>simp<;>omega
  obtain⟨t,ht⟩:∃t,t=ρ (dv s) crlf:=⟨_,rfl⟩;rw[←ht]at cs HE Og;have C:=ad cs;have HM:=ad hm;clear cs hq ht hm;go_enter func128,ntmps128;go_wp2_with (first
   |(go_at_call 203;refine(CR.out).mono ?_;rintro e w1 ⟨rfl,ai⟩)
   |(go_at_call 204;refine(C.out _).mono ?_;rintro e w' ⟨rfl,rfl⟩)
   |(go_at_call_of 65 (ξ true);refine(aF _ _).mono ?_;rintro e w' ⟨rfl,rfl⟩)
   |(go_at_call 139;refine(JI t _ (HM.out.on ai) Og).mono ?_;rintro e w' ⟨rfl,rfl⟩))
  go_ret;refine⟨?_,ai.alloc ai.size _⟩;rw[HE.out];exact⟨_,rfl,ai.size,af.new _ _ _⟩
section
variable {P:Program} {Q:Exit→Act→η→Prop}
def waits (ops:Array υ)(j i:Nat):Bool:=((ops[j]?).map fun o=>o.after.any fun e=>φ .any e&&e.on==i).getD false
theorem yg {ops:Array υ}{i j:Nat}{o:υ}(ho:ops[j]?=some o)(h:waits ops j i=true):∃e∈o.after,φ .any e=true∧e.on=i:=by
 unfold waits at h;rw[ho,Option.map_some,Option.getD_some,Array.any_eq_true']at h;obtain⟨e,he,h3⟩:=h;rw[π,beq_iff_eq]at h3;exact⟨e,he,h3.1,h3.2⟩
def oz (n:Nat)(ops:Array υ):Bool:=((Γ n).all fun i=>(Γ (n+1)).any fun k=>decide (i<k)&&waits ops k i)&&(Γ ops.size).all fun j=>decide (j≤n)||waits ops j (j - 1)
theorem Nt {n:Nat}{ops:Array υ}(h:oz n ops=true){i:Nat}(hi:i<n):∃k,i<k∧k≤n∧waits ops k i=true:=by
 unfold oz at h;rw[π,ο]at h;have h1:=h.1 i (List.mem_range.2 hi);rw[List.any_eq_true]at h1;obtain⟨k,hk,h2⟩:=h1;rw[π]at h2;exact⟨k,of_decide_eq_true h2.1,by have:=List.mem_range.1 hk;omega,h2.2⟩
theorem Ey {n:Nat}{ops:Array υ}(h:oz n ops=true){j:Nat}{o:υ}(ho:ops[j]?=some o)(hn:n<j):∃e∈o.after,φ .any e=true∧e.on=j - 1:=by
 unfold oz at h;rw[π,ο,ο]at h;have h1:=h.2 j (List.mem_range.2 (Array.getElem?_eq_some_iff.1 ho).1);rw[Bool.or_eq_true]at h1;rcases h1 with h1|h1
 ·have:=of_decide_eq_true h1;omega
 ·exact yg ho h1
theorem lj {l:Array Bool}{i:Nat}(d:Bool)(h:i<l.size):(l.setIfInBounds i true).getD i d=true:=by simp[Array.getD,h]
theorem fI {l:Array Bool}{i k:Nat}(d:Bool)(h:k≠i):(l.setIfInBounds i true).getD k d=l.getD k d:=by
 simp only[χ,Array.getElem?_setIfInBounds];rw[if_neg (fun e=>h e.symm)]
theorem rW {l:Array Bool}{i:Nat}(h:l.getD i false=true):l.getD i true=true:=by
 simp only[χ]at *
 cases hx:l[i]?with
 |none=>rw[hx]at h;cases h
 |some b=>rw[hx]at h;exact h
theorem Hg {ops:Array υ}{n:Nat}(hf:forward .any ops=true)(hc:oz n ops=true):
 ∀(t:List υ) (k fuel:Nat) (listed:Array Bool) (a:Act) (w:η),ops.toList.drop k=t→n≤k→k≤ops.size→listed.size=ops.size→(∀i,i<k→listed.getD i false=true)→(∀i,k≤i→i<ops.size→listed.getD i true=false)→
  t.length≤fuel→wpList P ops Q t a w→wpAny P .any ops Q fuel listed a w
 |[],k,fuel,listed,a,w,hd,hn,hk,hs,h1,h2,hl,h=>by
  have qT:k=ops.size:=by
   have:=congrArg Κ hd;simp only[List.length_drop,List.length_nil,Array.length_toList]at this;omega
  have hr:μ .any ops listed=[]:=by
   rw[List.eq_nil_iff_forall_not_mem];intro i hi;obtain⟨q1,q2,_⟩:=gI hi;have:=rW (h1 i (by omega));rw[q2]at this;cases this
  cases fuel with
  |zero=>exact⟨hr,h⟩
  |succ f=>exact⟨fun _=>h,fun i hi=>by rw[hr]at hi;cases hi⟩
 |o::t,k,fuel,listed,a,w,hd,hn,hk,hs,h1,h2,hl,h=>by
  have qU:ops[k]?=some o:=by
   have:=congrArg (fun l:List υ=>l[0]?) hd;simpa[List.getElem?_drop]using this
  have ay:=(Array.getElem?_eq_some_iff.1 qU).1;cases fuel with
  |zero=>simp at hl
  |succ f=>
   have uE:k∈μ .any ops listed:=yh qU (h2 k (ζ _) ay) (fun e he hb=>h1 _ (ka hf qU e he hb));refine⟨fun hr=>(by rw[hr]at uE;cases uE),fun i hi=>?_⟩;obtain⟨q1,q2,oi,q3,q4⟩:=gI hi;have XF:i=k:=by
    rcases Nat.lt_trichotomy i k with abb|heq|XG
    ·have:=rW (h1 i abb);rw[q2]at this;cases this
    ·exact heq
    ·obtain⟨e,he,hb,bq⟩:=Ey hc q3 (by omega);have h3:=q4 e he hb;rw[bq]at h3;have:=rW h3;rw[h2 (i - 1) (by omega) (by omega)]at this;cases this
   subst XF;have h0:wpOp P ops Q i (wpList P ops Q t) a w:=by
    unfold wpOp;rw[qU];exact h
   refine wpOp_mono (fun a' w' fF=>Hg hf hc t (i+1) f _ a' w' ?_ (by omega) (by omega) (by simp[hs]) ?_ ?_ (by simpa using hl) fF) h0
   ·rw[←List.drop_drop,hd];rfl
   ·intro j hj;by_cases lE:j=i
    ·subst lE;exact lj _ (by omega)
    ·rw[fI _ lE];exact h1 j (by omega)
   ·intro j hj hjs;rw[fI _ (by omega)];exact h2 j (by omega) hjs
def J5 (P:Program)(ops:Array υ)(Q:Exit→Act→η→Prop)(t:List υ):Exit→Act→η→Prop
 | .normal,a,w=>wpList P ops Q t a w
 |e,a,w=>Q e a w
theorem Rt {ops:Array υ}{t:List υ}{o:υ}{a:Act}{w:η}{K K':Act→η→Prop}(h:∀a w,K a w→K' a w)(hh:o.wp P a w K (J5 P ops Q t)):o.wp P a w K' Q:=by
 unfold Oper.wp at *
 generalize(execOp a.eval o).run P w=r at *
 cases r with
 |ok n w'=>
  cases n<;>simp only[Oper.upon]at hh⊢<;>
   first
    |exact h _ _ hh
    |exact Calls.mono hh (fun e aA he=>by cases e<;>first|exact h _ _ he|exact he)
    |exact Rows.mono hh (fun _ _ he=>h _ _ he)
 |halt x w'=>cases x<;>simp only[Oper.upon]at hh⊢<;>exact hh
theorem Nu {ops:Array υ}(hg:lO ops=true){i:Nat}{o:υ}(ho:ops[i]?=some o)(y:Nat→Option Bool):ω o y=true:=by
 unfold lO at hg;rw[Array.all_eq_true']at hg;have:=hg o (Array.mem_of_getElem? ho);have h:o.guard=none:=by simpa using this
 unfold ω;rw[h]
theorem Vf {l t:List υ}(hf:forward .any (l++t).toArray=true)(hg:lO (l++t).toArray=true)(hc:oz l.length (l++t).toArray=true):
 ∀(fuel:Nat) (listed L:Array Bool) (a:Act) (w:η),(∀i o,l.toArray[i]?=some o→listed.getD i false=true→∀e∈o.after,φ .any e=true→listed.getD e.on false=true)→listed.size=l.length→L.size=l.length+t.length→(∀i,i<l.length→L.getD i true=listed.getD i true)→(∀i,l.length≤i→i<l.length+t.length→L.getD i true=false)→
  wpAny P .any l.toArray (J5 P (l++t).toArray Q t) fuel listed a w→wpAny P .any (l++t).toArray Q (fuel+t.length) L a w:=by
 have bu:(l++t).toArray.size=l.length+t.length:=by simp
 have F3:∀i,i<l.length→(l++t).toArray[i]?=l.toArray[i]?:=fun i hi=>by simp[List.getElem?_append_left hi]
 have zV:forward .any l.toArray=true:=by
  unfold forward;rw[ο];intro i hi;have Hh:i<l.length:=by simpa using List.mem_range.1 hi
  unfold forward at hf;rw[ο]at hf;have:=hf i (List.mem_range.2 (by rw[bu];omega));rw[F3 i Hh]at this;exact this
 have rk:∀(x:Array Bool) (i:Nat),i<x.size→x.getD i true=x.getD i false:=fun x i hi=>by rw[cP _ hi,cP _ hi]
 have done:∀(fuel:Nat) (listed L:Array Bool) (a:Act) (w:η),t.length≤fuel→listed.size=l.length→L.size=l.length+t.length→(∀i,i<l.length→L.getD i true=listed.getD i true)→(∀i,l.length≤i→i<l.length+t.length→L.getD i true=false)→
  μ .any l.toArray listed=[]→wpList P (l++t).toArray Q t a w→wpAny P .any (l++t).toArray Q fuel L a w:=by
  intro fuel listed L a w hfu hs hL h1 h2 hr h;have bT:=yi zV (by simpa using hs) hr;refine Hg hf hc t l.length fuel L a w (by simp) (ζ _) (by rw[bu];omega) (by rw[hL,bu]) (fun i hi=>?_) (fun i hi his=>h2 i hi (by rw[bu]at his;exact his)) hfu h;rw[←rk L i (by omega),h1 i hi,rk listed i (by omega)];exact bT i (by simpa using hi)
 intro fuel
 induction fuel with
 |zero=>
  intro listed L a w _ hs hL h1 h2 h;rw[Ι];exact done _ listed L a w (ζ _) hs hL h1 h2 h.1 h.2
 |succ f ih=>
  intro listed L a w hC hs hL h1 h2 h;by_cases hr:μ .any l.toArray listed=[]
  ·exact done _ listed L a w (by omega) hs hL h1 h2 hr (h.1 hr)
  ·obtain⟨j,hj⟩:=List.exists_mem_of_ne_nil _ hr;obtain⟨j1,j2,_⟩:=gI hj;have j1':j<l.length:=by simpa using j1
   have fV:L.getD j true=false:=by rw[h1 j j1'];exact j2
   have e:f+1+t.length=(f+t.length)+1:=by omega
   rw[e];have key:∀i,i∈μ .any (l++t).toArray L→i∈μ .any l.toArray listed∧i<l.length:=by
    intro i hi;obtain⟨q1,q2,o,q3,q4⟩:=gI hi;have lF:i<l.length:=by
     rcases Nat.lt_or_ge i l.length with h'|h'
     ·exact h'
     ·rcases Nat.eq_or_lt_of_le h' with h5|h5
      ·rw[←h5]at q3;have bT:∀d x,x+d=l.length→0<d→L.getD x false=true:=by
        intro d
        induction d using Nat.strongRecOn with
        |ind d ih=>
         intro x hx hd;obtain⟨k,jx,gm,hk3⟩:=Nt hc (by omega:x<l.length);rcases Nat.eq_or_lt_of_le gm with XH|XH
         ·rw[XH]at hk3;obtain⟨e,he,hb,bq⟩:=yg q3 hk3;have h3:=q4 e he hb;rw[bq]at h3;exact h3
         ·have hk5:=ih (l.length - k) (by omega) k (by omega) (by omega);have qU:(l++t).toArray[k]?=some l[k]:=by rw[F3 k XH];simp
          obtain⟨e,he,hb,bq⟩:=yg qU hk3;have h6:=hC k l[k] (by simp) (by rw[←rk listed k (by omega),←h1 k XH,rk L k (by omega)];exact hk5) e he hb;rw[bq,←rk listed x (by omega),←h1 x (by omega),rk L x (by omega)]at h6;exact h6
       have:=rW (bT (l.length - j) j (by omega) (by omega));rw[fV]at this;cases this
      ·obtain⟨e,he,hb,bq⟩:=Ey hc q3 h5;have h3:=q4 e he hb;rw[bq]at h3;have:=rW h3;rw[h2 (i - 1) (by omega) (by rw[bu]at q1;omega)]at this;cases this
    rw[F3 i lF]at q3;refine⟨yh q3 (by rw[←h1 i lF];exact q2) (fun e he hb=>?_),lF⟩;have ay:e.on<i:=ka zV q3 e he hb;have h3:=q4 e he hb;have:=rW h3;rw[h1 e.on (by omega),rk listed _ (by omega)]at this;exact this
   refine⟨fun pc=>?_,fun i hi=>?_⟩
   ·exfalso;obtain⟨q1,q2,o,q3,q4⟩:=gI hj;have XI:j∈μ .any (l++t).toArray L:=by
     refine yh (by rw[F3 j j1'];exact q3) fV (fun e he hb=>?_);have ay:e.on<j:=ka zV q3 e he hb;have h3:=q4 e he hb;rw[←rk L _ (by omega),h1 _ (by omega),rk listed _ (by omega)];exact h3
    rw[pc]at XI;cases XI
   ·obtain⟨ki,lF⟩:=key i hi;have h4:=h.2 i ki;have ho:l.toArray[i]?=some l[i]:=by simp
    unfold wpOp at h4⊢;rw[F3 i lF];rw[ho]at h4⊢;simp only[]at h4⊢;have hw:∀y,ω l[i] y=true:=Nu hg (by rw[F3 i lF];exact ho);rw[if_pos (hw _)]at h4⊢;refine h4.imp (Rt fun a' w' fF=>ih _ _ a' w' (fun k ok qU fB e he hb=>?_) (by simpa using hs) (by simpa using hL) (fun k hk=>?_) (fun k hk qT=>?_) fF) (fun⟨x,y⟩=>⟨x,y⟩)
    ·obtain⟨_,_,oi,qo,qa⟩:=gI ki;by_cases qV:k=i
     ·subst qV;rw[qo]at qU;cases qU;by_cases Ku:e.on=k
      ·rw[Ku];exact lj _ (by omega)
      ·rw[fI _ Ku];exact qa e he hb
     ·rw[fI _ qV]at fB;by_cases Ku:e.on=i
      ·rw[Ku];exact lj _ (by omega)
      ·rw[fI _ Ku];exact hC k ok qU fB e he hb
    ·by_cases qV:k=i
     ·subst qV;rw[lj _ (by omega),lj _ (by omega)]
     ·rw[fI _ qV,fI _ qV];exact h1 k hk
    ·rw[fI _ (by omega)];exact h2 k hk qT
theorem F4 {id:Nat}{a:Act}{w:η}(l t:List υ)(hm:P.follows .mixedOrders=true)(hf:forward .any (l++t).toArray=true)(hg:lO (l++t).toArray=true)(hc:oz l.length (l++t).toArray=true)
 (h:wpAny P .any l.toArray (J5 P (l++t).toArray Q t) l.length (Ε l.length false) a {w with drawn:=w.drawn+1}):(Code.region id (l++t).toArray true).wp P Q a w:=by
 refine wp_region_any hm ?_;have bu:(l++t).toArray.size=l.length+t.length:=by simp
 rw[bu];refine Vf hf hg hc _ _ _ _ _ (fun i o ho hl=>?_) (by simp) (by simp) (fun i hi=>?_) (fun i hi his=>?_) h
 ·rw[cP _ (by simpa using(Array.getElem?_eq_some_iff.1 ho).1)]at hl;simp at hl
 ·rw[cP _ (by simp;omega),cP _ (by simpa using hi)];simp
 ·rw[cP _ (by simp;omega)];simp
theorem JJ {id:Nat}{a:Act}{w:η}(l t:List υ)(hm:P.follows .mixedOrders=true)(hf:forward .any (l++t).toArray=true)(hg:lO (l++t).toArray=true)(hc:oz l.length (l++t).toArray=true)(hB:Region.lexB .any l.toArray=true)
 (h:wpQuiet P l.toArray (fun w'=>∃n,w'=w.drewN n) (fun a'=>∀w',(∃n,w'=w.drewN n)→wpList P (l++t).toArray Q t a' w') l a):(Code.region id (l++t).toArray true).wp P Q a w:=by
 refine F4 l t hm hf hg hc ?_;simp only[Region.lexB,π]at hB;refine wpAny_of_quiet (Q:=fun a'=>∀w',(∃n,w'=w.drewN n)→J5 P (l++t).toArray Q t .normal a' w') (C:=fun w'=>∃n,w'=w.drewN n) (fun _ w' fF h=>h w' fF) _ _ _ _ ⟨1,rfl⟩ ?_;exact wpAnyQ_lex (C:=fun w'=>∃n,w'=w.drewN n) (md:= .any) hB.1 l 0 (Ε l.length false) a (by simp) (by simpa using hB.2) h
theorem PW {id:Nat}{a:Act}{w:η}{L l t:List υ}(n:Nat)(hl:L.take n=l)(ht:L.drop n=t)(hm:P.follows .mixedOrders=true)(hf:forward .any L.toArray=true)(hg:lO L.toArray=true)(hc:oz n L.toArray=true)(hn:l.length=n)(hB:Region.lexB .any l.toArray=true)
 (h:wpQuiet P l.toArray (fun w'=>∃n,w'=w.drewN n) (fun a'=>∀w',(∃n,w'=w.drewN n)→wpList P L.toArray Q t a' w') l a):(Code.region id L.toArray true).wp P Q a w:=by
 subst hl ht;have e:L.take n++L.drop n=L:=List.take_append_drop n L;have:=JJ (P:=P) (Q:=Q) (id:=id) (a:=a) (w:=w) (L.take n) (L.drop n) hm (by rw[e];exact hf) (by rw[e];exact hg) (by rw[e,hn];exact hc) hB (by rw[e];exact h);rw[e]at this;exact this
end
end Go.Proofs.YthpndgcaoeokeaaGreatDoor
