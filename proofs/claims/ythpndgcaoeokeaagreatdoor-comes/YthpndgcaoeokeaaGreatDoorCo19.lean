import Derived.Test.YthpndgcaoeokeaaGreatDoorCo18
set_option maxRecDepth 100000
set_option maxHeartbeats 8000000
open Go.IntKind renaming i64→Z
open Go.Value renaming int→V,pointer→ε,slice→ζ,string→η
open Go.Ending renaming returned→δ
open Go.Obj renaming cells→θ
open Go renaming World→ι
open List renaming getElem?_eq_getElem→κ,getElem?_eq_none→ν,getD_eq_getElem?_getD→ξ,size_toArray→υ,getElem?_map→φ,not_mem_nil→χ,mem_cons→ψ,ext_getElem?→Β,mem_append→Δ,range→Ε
open Nat renaming le_refl→μ,le_trans→π,zero_add→ω
open Go.Lib renaming bytes_beq_false_iff→ο,bytes_beq_iff→Γ
open Go.RowKit renaming Hid→ρ
open Go.RowKit.Below renaming refl→τ,heap_setCell→Α
namespace Go.Proofs.YthpndgcaoeokeaaGreatDoor
open Tryz
open Go.RowKit
def bC (f:Nat→Option (List UInt8)):List Value:=(Ε 9).map fun k=>Value.string ⟨((f k).getD []).toArray⟩
def fP (f:Nat→Option (List UInt8)):List Value:=(Ε 9).map fun k=>Value.bool (f k).isSome
theorem jM (f:Nat→Option (List UInt8)):(bC f).length=9:=by simp[bC]
theorem jN (f:Nat→Option (List UInt8)):(fP f).length=9:=by simp[fP]
theorem eY (f:Nat→Option (List UInt8)){k:Nat}(h:k<9):(bC f)[k]?=some (η ⟨((f k).getD []).toArray⟩):=by
 unfold bC;rw[φ,List.getElem?_range h];rfl
theorem eZ (f:Nat→Option (List UInt8)){k:Nat}(h:k<9):(fP f)[k]?=some (.bool (f k).isSome):=by
 unfold fP;rw[φ,List.getElem?_range h];rfl
theorem VA (f:Nat→Option (List UInt8)){j:Nat}(v:List UInt8)(hj:j<9):(bC f).set j (η ⟨v.toArray⟩)=bC (ji f j v):=by
 apply Β;intro k;by_cases hk:k<9
 ·rw[List.getElem?_set,jM];by_cases e:j=k
  ·subst e;rw[if_pos rfl,if_pos hj,eY _ hj,mc];rfl
  ·rw[if_neg e,eY _ hk,eY _ hk,xe (Ne.symm e)]
 ·rw[ν (by rw[List.length_set,jM];omega),ν (by rw[jM];omega)]
theorem VB (f:Nat→Option (List UInt8)){j:Nat}(v:List UInt8)(hj:j<9):(fP f).set j (.bool true)=fP (ji f j v):=by
 apply Β;intro k;by_cases hk:k<9
 ·rw[List.getElem?_set,jN];by_cases e:j=k
  ·subst e;rw[if_pos rfl,if_pos hj,eZ _ hj,mc];rfl
  ·rw[if_neg e,eZ _ hk,eZ _ hk,xe (Ne.symm e)]
 ·rw[ν (by rw[List.length_set,jN];omega),ν (by rw[jN];omega)]
theorem K8 (f:Nat→Option (List UInt8)):∀v∈bC f,v.oneCell'=true:=fun v hv=>by
 unfold bC at hv;obtain⟨k,_,rfl⟩:=List.mem_map.1 hv;rfl
theorem K9 (f:Nat→Option (List UInt8)):∀v∈fP f,v.oneCell'=true:=fun v hv=>by
 unfold fP at hv;obtain⟨k,_,rfl⟩:=List.mem_map.1 hv;rfl
theorem DG:(prog.info? 241).map (·.size)=some 9:=by kernel_rfl
theorem Ak:(prog.info? 286).map (·.size)=some 9:=by kernel_rfl
theorem xm {o:Oper}(ho:o.op= .alloc 241)(a:Act)(w:ι):(execOp a.eval o).run prog w= .ok (.value (ε (some ⟨w.heap.size,0,none⟩))) (w.alloc (θ (bC eF).toArray 241)):=by
 obtain⟨_,_,_,_,_,_⟩:=o;simp only[]at ho;subst ho;kernel_rfl
theorem xn {o:Oper}(ho:o.op= .alloc 286)(a:Act)(w:ι):(execOp a.eval o).run prog w= .ok (.value (ε (some ⟨w.heap.size,0,none⟩))) (w.alloc (θ (fP eF).toArray 286)):=by
 obtain⟨_,_,_,_,_,_⟩:=o;simp only[]at ho;subst ho;kernel_rfl
theorem Se {w:ι}{B:Nat}{v:Value}{L:List (List UInt8)}{e:TypeId}(h:w.ownsRow B e 1 v L.length (strs L)):∃a c,v= ζ a L.length c∧(0<L.length→∃g,a=some ⟨g,0,none⟩∧B≤g∧g<w.heap.size∧cE w g 0 L):=by
 rcases ky h with⟨rfl,hn⟩|⟨g,cap,rfl,hb,hg,hc⟩
 ·have hl:L.length=0:=by have:=congrArg List.length hn;rw[iF]at this;exact this
  rw[hl];exact⟨none,0,rfl,fun h=>absurd h (by omega)⟩
 ·refine⟨_,_,rfl,fun _=>⟨g,rfl,hb,hg,fun j hj=>?_⟩⟩;rw[ω];refine hc j _ ?_;unfold strs;rw[φ,κ hj];simp[ξ,κ hj]
structure lH (w:ι)(g:Nat)(L:List (List UInt8))(f:Nat→Option (List UInt8))(wr:ι):Prop where
 v:af wr (w.heap.size+2) (bC f) 241
 h:af wr (w.heap.size+3) (fP f) 286
 r1:af wr w.heap.size (bC eF) 241
 r2:af wr (w.heap.size+1) (fP eF) 286
 ls:cE wr g 0 L
 below:Below w.heap.size w wr
theorem lH.drewN {w wr:ι}{g:Nat}{L:List (List UInt8)}{f:Nat→Option (List UInt8)}(h:lH w g L f wr)(n:Nat):lH w g L f (wr.drewN n):=
 ⟨h.v,h.h,h.r1,h.r2,h.ls,below_drewN h.below n⟩
theorem lH.put {w wr:ι}{g j:Nat}{L:List (List UInt8)}{f:Nat→Option (List UInt8)}(h:lH w g L f wr)(v:List UInt8)(hg:w.heap.size+4≤g)(hj:j<9):
 lH w g L (ji f j v) ((wr.setCell ⟨w.heap.size+3,j,none⟩ (.bool true)).setCell ⟨w.heap.size+2,j,none⟩ (η ⟨v.toArray⟩)):=by
 refine⟨?_,?_,?_,?_,?_,?_⟩
 ·rw[←VA f v hj];exact(h.v.other (by omega) _).set (k:=j) _
 ·rw[←VB f v hj];exact(h.h.set (k:=j) _).other (by omega) _
 ·exact(h.r1.other (by omega) _).other (by omega) _
 ·exact(h.r2.other (by omega) _).other (by omega) _
 ·intro i hi;rw[World.cell?_of_block (a:=⟨g,0+i,none⟩) ((Α _ _ _ _ (show g≠w.heap.size+2 by omega)).trans (Α _ _ _ _ (show g≠w.heap.size+3 by omega)))];exact h.ls i hi
 ·exact(h.below.setCell (p:=⟨w.heap.size+3,j,none⟩) (by show w.heap.size≤w.heap.size+3;omega) _).setCell (p:=⟨w.heap.size+2,j,none⟩) (by show w.heap.size≤w.heap.size+2;omega) _
def Gs (s:List UInt8)(w:ι)(e:Ending)(w':ι):Prop:=
 Below w.heap.size w w'∧∃f b,e= δ (.tuple #[.agg (bC f).toArray, .agg (fP f).toArray, .bool b])∧(b=false→bj s=none)∧(b=true→bj s=some f)
theorem Qh {s:List UInt8}{w W:ι}{f:Nat→Option (List UInt8)}{tmps:Array Value}{b:Bool}(r1:af W w.heap.size (bC f) 241)(r2:af W (w.heap.size+1) (fP f) 286)(hb:Below w.heap.size w W)
 (h2:tmps.getD 2 undef= ε (some ⟨w.heap.size,0,none⟩))(h3:tmps.getD 3 undef= ε (some ⟨w.heap.size+1,0,none⟩))(h4:tmps.getD 4 undef= .bool b)(h0:b=false→bj s=none)(h1:b=true→bj s=some f):
 bodyPost prog Tryz.f235 (Gs s w) .ret ⟨tmps,[]⟩ W:=by
 refine bodyPost_ret (v:= .tuple #[.agg (bC f).toArray, .agg (fP f).toArray, .bool b]) ?_ rfl ⟨hb,f,b,rfl,h0,h1⟩;rw[B0 results235 h2 h3 (run_loadVar_mid _ w.heap.size 0 241 (bC f) _ (dc r1) underlying241 rfl (by rw[jM];exact DG)) (run_loadVar_mid _ (w.heap.size+1) 0 286 (fP f) _ (dc r2) underlying286 rfl (by rw[jN];exact Ak)),h4]
theorem La (w w1:ι)(h:w1=(((w.alloc (θ (bC eF).toArray 241)).alloc (θ (fP eF).toArray 286)).alloc (θ (bC eF).toArray 241)).alloc (θ (fP eF).toArray 286)):
 (af w1 (w.heap.size+2) (bC eF) 241∧af w1 (w.heap.size+3) (fP eF) 286∧af w1 w.heap.size (bC eF) 241∧af w1 (w.heap.size+1) (fP eF) 286∧Below w.heap.size w w1)∧w1.heap.size=w.heap.size+4:=by
 have a1:=af.new w (bC eF) 241;have z1:(w.alloc (θ (bC eF).toArray 241)).heap.size=w.heap.size+1:=by simp
 have b1:Below w.heap.size w (w.alloc (θ (bC eF).toArray 241)):=(τ _ _).alloc (μ _) _;generalize w.alloc (θ (bC eF).toArray 241)=A1 at *
 have a2:=af.new A1 (fP eF) 286;rw[z1]at a2;have E6:=a1.on ((τ A1.heap.size A1).alloc (μ _) (θ (fP eF).toArray 286));have z2:(A1.alloc (θ (fP eF).toArray 286)).heap.size=w.heap.size+2:=by simp[z1]
 have b2:Below w.heap.size w (A1.alloc (θ (fP eF).toArray 286)):=b1.alloc (by omega) _;generalize A1.alloc (θ (fP eF).toArray 286)=A2 at *
 have a3:=af.new A2 (bC eF) 241;rw[z2]at a3;have c1:=E6.on ((τ A2.heap.size A2).alloc (μ _) (θ (bC eF).toArray 241));have c2:=a2.on ((τ A2.heap.size A2).alloc (μ _) (θ (bC eF).toArray 241));have z3:(A2.alloc (θ (bC eF).toArray 241)).heap.size=w.heap.size+3:=by simp[z2]
 have b3:Below w.heap.size w (A2.alloc (θ (bC eF).toArray 241)):=b2.alloc (by omega) _;generalize A2.alloc (θ (bC eF).toArray 241)=A3 at *
 have a4:=af.new A3 (fP eF) 286;rw[z3]at a4;have hb:=(τ A3.heap.size A3).alloc (μ _) (θ (fP eF).toArray 286);subst h;exact⟨⟨a3.on hb,a4,c1.on hb,c2.on hb,b3.alloc (by omega) _⟩,by simp[z3]⟩
theorem Gt:∀(n:Nat) (l acc:List UInt8),l.length≤n→(dS l acc).1.length≤l.length
 |n,[],acc,_=>by simp[dS]
 |n,[a],acc,_=>by simp[dS]
 |0,a::b::r,acc,h=>by simp at h
 |n+1,a::b::r,acc,h=>by
  rw[dS];split
  ·have:=Gt n r [] (by simp at h;omega);simp;omega
  ·have:=Gt n (b::r) (acc++[a]) (by simp at h⊢;omega);simp at this⊢;omega
theorem Al:∀(n:Nat) (l acc:List UInt8),l.length≤n→∀p∈(dS l acc).1,p.length≤acc.length+l.length
 |n,[],acc,_,p,hp=>by simp[dS]at hp
 |n,[a],acc,_,p,hp=>by simp[dS]at hp
 |0,a::b::r,acc,h,_,_=>by simp at h
 |n+1,a::b::r,acc,h,p,hp=>by
  rw[dS]at hp;split at hp
  ·rcases List.mem_cons.1 hp with rfl|hp
   ·omega
   ·have:=Al n r [] (by simp at h;omega) p hp;simp at this⊢;omega
  ·have:=Al n (b::r) (acc++[a]) (by simp at h⊢;omega) p hp;simp at this⊢;omega
theorem Sf {s:ByteArray}(h:s.size≤1048576):(⟨(dv s.data.toList).toArray⟩:ByteArray).size≤1048576:=by
 have:=pz s.data.toList.length s.data.toList (μ _);rw[Array.length_toList]at this;show(dv s.data.toList).toArray.size≤_;rw[υ];exact π this h
theorem Qi {s:ByteArray}(h:s.size≤1048576):(dS (dv s.data.toList) []).1.length≤1048576∧∀p∈(dS (dv s.data.toList) []).1,p.length≤1048576:=by
 have h1:=pz s.data.toList.length s.data.toList (μ _);have h2:s.data.toList.length≤1048576:=by rw[Array.length_toList];exact h
 refine⟨π (Gt _ _ _ (μ _)) (π h1 h2),fun p hp=>?_⟩;have:=Al _ _ _ (μ _) p hp;simp at this;omega
theorem Qj {s:List UInt8}{L:List (List UInt8)}{b:Bool}(hL:L=(dS (dv (ba s).data.toList) []).1)(hb:b=(dS (dv (ba s).data.toList) []).2):
 bj s=if(b&&decide (s.length≤2000)&&decide (2≤L.length)&&decide (L.getD 0 []=oA)&&decide (L.getD (L.length - 1) []=pA))then match bZ bJ 58 (dz L) (fun _=>none)with
  |none=>none
  |some f=>if must f&&jC f then some f else none
 else none:=by
 subst hL hb;rfl
theorem Sg {L:List (List UInt8)}{k:Nat}{l:List UInt8}(hk:1≤k)(ay:k+1<L.length)(hl:l=L.getD k []):(dz L)[k - 1]?=some l:=by
 unfold dz;rw[List.getElem?_take,if_pos (by omega),List.getElem?_drop,show 1+(k - 1)=k by omega,κ (by omega),hl,ξ,κ (by omega)];rfl
theorem Sh {L:List (List UInt8)}{k:Nat}(h:∀p∈L,p.length≤1048576)(hk:k<L.length):(L.getD k []).length≤1048576:=by
 rw[ξ,κ hk];exact h _ (List.getElem_mem hk)
theorem uR {l:List UInt8}(h:l.length≤1048576):(⟨l.toArray⟩:ByteArray).size≤maxLen:=by
 show l.toArray.size≤_;rw[υ];unfold maxLen;omega
theorem eL {id:Nat}{ops:Array Oper}{K:Act→ι→Prop}{Q:Exit→Act→ι→Prop}{t:Array Value}{s:List UInt8}{w wr:ι}{g:Nat}{L:List (List UInt8)}{f:Nat→Option (List UInt8)}(x y:Nat)(b:Bool)(hR:lH w g L f wr)(hK:∀a w',Code.wp prog Code.ret Q a w'→K a w')
 (hQ:∀t W,bodyPost prog Tryz.f235 (Gs s w) .ret ⟨t,[]⟩ W→Q .ret ⟨t,[]⟩ W)(h0:b=false→bj s=none)(h1:b=true→bj s=some f)(hf:forward .any ops=true)(hC:R4 ops x y b 241 286)(hl:t.size=135)(hx:6<x∧x<y∧y<135)
 (e2:t.getD 2 undef= ε (some ⟨w.heap.size,0,none⟩))(e3:t.getD 3 undef= ε (some ⟨w.heap.size+1,0,none⟩))(e5:t.getD 5 undef= ε (some ⟨w.heap.size+2,0,none⟩))(e6:t.getD 6 undef= ε (some ⟨w.heap.size+3,0,none⟩)):Code.wp prog (Code.region id ops true) (Exit.then K Q) ⟨t,[]⟩ wr:=by
 obtain⟨x0,x1,x2⟩:=hx;refine R7 (R1:=w.heap.size) (R2:=w.heap.size+1) (b5:=w.heap.size+2) (b6:=w.heap.size+3) (x:=x) (y:=y) (b:=b) (T1:=241) (T2:=286) (vs:=bC f) (hs:=fP f) (by kernel_rfl) hf hC e2 e3 e5 e6 (by show x<t.size;omega) (by show y<t.size;omega) (by show 4<t.size;omega) x0 x1 ⟨by omega,by omega,by omega,by omega,by omega⟩
  hR.v hR.h ⟨_,(jM _).trans (jM _).symm,hR.r1⟩ ⟨_,(jN _).trans (jN _).symm,hR.r2⟩ underlying241 rfl (by rw[jM];exact DG) (K8 _) underlying286 rfl (by rw[jN];exact Ak) (K9 _) ?_
 intro w9 q1 q2 q3;refine hK _ _ (wp_ret (hQ _ _ (Qh q1 q2 (hR.below.trans (q3.below hR.below.size (fun k hk=>by omega))) ?_ ?_ ?_ h0 h1)))
 ·exact(bL (by omega)).trans ((bL (by omega)).trans ((bL (by omega)).trans e2))
 ·exact(bL (by omega)).trans ((bL (by omega)).trans ((bL (by omega)).trans e3))
 ·exact fh (by rw[eB,eB];show 4<t.size;omega)
theorem Qk (s:List UInt8)(w:ι)(hs:s.length≤1048575)(hn:cE w 1 0 bJ)(hg:1<w.heap.size):
 Calls prog 235 #[η (ba s)] w (Gs s w):=by
 have bu:(ba s).size=s.length:=by unfold ba;simp[ByteArray.size]
 obtain⟨w1,zt⟩:∃w1,w1=(((w.alloc (θ (bC eF).toArray 241)).alloc (θ (fP eF).toArray 286)).alloc (θ (bC eF).toArray 241)).alloc (θ (fP eF).toArray 286):=⟨_,rfl⟩;obtain⟨L0,z1⟩:=La w w1 zt;have R9:=ad zt;have HN:=ad hn;clear zt hn;have CU:=ad (fun W=>Lb (ba s) W (by omega));have CL:=Si ⟨(dv (ba s).data.toList).toArray⟩ w1 (Sf (by rw[bu];omega));obtain⟨lb1,lb2⟩:=Qi (s:=ba s) (by rw[bu];omega);obtain⟨L,hL⟩:∃L,L=(dS (dv (ba s).data.toList) []).1:=⟨_,rfl⟩;obtain⟨b,hb⟩:∃b,b=(dS (dv (ba s).data.toList) []).2:=⟨_,rfl⟩;rw[←hL]at lb1 lb2;rw[←hL,←hb]at CL;have HLB:=ad lb2;have HF:=ad (Qj (s:=s) hL hb);have CL2:=ad CL;have HSZ:=ad bu;obtain⟨S,hS⟩:∃S,S=ba s:=⟨_,rfl⟩;clear hL hb lb2 CL;rw[←hS]at CU CL2 HSZ bu⊢;clear hS;have hS2:(S.size:Int)≤1048575:=by omega
 clear bu;go_enter func235,ntmps235;go_upto_region 3 with(first
  |(refine eC rfl (xm rfl _ _) ?_;try simp only[World.size_alloc])
  |(refine eC rfl (xn rfl _ _) ?_;try simp only[World.size_alloc]))
 rw[←R9.out,show w.heap.size+1+1+1=w.heap.size+3 from rfl,show w.heap.size+1+1=w.heap.size+2 from rfl];go_upto_region 4 with(first
  |(go_at_call 290;refine(CU.out _).mono ?_;rintro e w2 ⟨rfl,rfl⟩)
  |(go_at_call 289;refine(CL2.out).mono ?_;rintro e w2 ⟨v,rfl,aw,az⟩;obtain⟨a,c,rfl,Yj⟩:=Se aw;clear aw))
 have Sj:=ad Yj;clear Yj CU CL2 R9;have L2:∀g M,cE w2 g 0 M→lH w g M eF w2:=fun g M h=>⟨L0.1.on az,L0.2.1.on az,L0.2.2.1.on az,L0.2.2.2.1.on az,h,L0.2.2.2.2.trans (az.mono (by omega))⟩;have HE:ρ (lH w 0 [] eF w2):=ad (L2 0 [] (fun j hj=>by simp at hj));have xo:=ad L2;have fb:=az.size;clear L0 L2 az;cases b with
 |false=>
  have HX:ρ (bj s=none):=ad (by rw[HF.out];rfl);clear HF xo Sj;go_upto_region 5 with fail;rename_i K hK;exact eL (f:=eF) 49 50 false HE.out hK (fun _ _ h=>h) (fun _=>HX.out) (fun h=>by cases h) (by kernel_rfl) ⟨rfl,⟨_,rfl,rfl,rfl,rfl⟩,⟨_,rfl,rfl,rfl,rfl⟩,⟨_,rfl,rfl,rfl,rfl,⟨0, .data⟩,by simp,rfl,rfl⟩,⟨_,rfl,rfl,rfl,rfl,⟨1, .data⟩,by simp,rfl,rfl⟩,⟨_,rfl,rfl,rfl,rfl⟩⟩ rfl (by decide) rfl rfl rfl rfl
 |true=>
  by_cases J9:s.length≤2000
  case neg=>
   have HX:ρ (bj s=none):=ad (by rw[HF.out,if_neg (by simp[J9])]);have XG:(2000:Int)<S.size:=by have:=HSZ.out;omega
   clear HF xo Sj J9;go_upto_region 5 with fail;rename_i K hK;exact eL (f:=eF) 49 50 false HE.out hK (fun _ _ h=>h) (fun _=>HX.out) (fun h=>by cases h) (by kernel_rfl) ⟨rfl,⟨_,rfl,rfl,rfl,rfl⟩,⟨_,rfl,rfl,rfl,rfl⟩,⟨_,rfl,rfl,rfl,rfl,⟨0, .data⟩,by simp,rfl,rfl⟩,⟨_,rfl,rfl,rfl,rfl,⟨1, .data⟩,by simp,rfl,rfl⟩,⟨_,rfl,rfl,rfl,rfl⟩⟩ rfl (by decide) rfl rfl rfl rfl
  case pos=>
   have hle:(S.size:Int)≤2000:=by have:=HSZ.out;omega
   by_cases h2:2≤L.length
   case neg=>
    have HX:ρ (bj s=none):=ad (by rw[HF.out,if_neg (by simp[h2])]);have ay:(L.length:Int)<2:=by omega
    clear HF xo Sj h2 J9;go_upto_region 5 with fail;rename_i K hK;exact eL (f:=eF) 49 50 false HE.out hK (fun _ _ h=>h) (fun _=>HX.out) (fun h=>by cases h) (by kernel_rfl) ⟨rfl,⟨_,rfl,rfl,rfl,rfl⟩,⟨_,rfl,rfl,rfl,rfl⟩,⟨_,rfl,rfl,rfl,rfl,⟨0, .data⟩,by simp,rfl,rfl⟩,⟨_,rfl,rfl,rfl,rfl,⟨1, .data⟩,by simp,rfl,rfl⟩,⟨_,rfl,rfl,rfl,rfl⟩⟩ rfl (by decide) rfl rfl rfl rfl
   case pos=>
    obtain⟨g,rfl,hg1,Ez,nT⟩:=Sj.out (by omega);have B4:(2:Int)≤L.length:=by omega
    have Sc:=ad nT;have c0:=nT 0 (by omega);have cl:=nT (L.length - 1) (by omega);have el:((L.length - 1:Nat):Int)=(L.length:Int) - 1:=by omega
    rw[ω]at cl;clear Sj nT;obtain⟨X0,hX0⟩:∃X:ByteArray,X=⟨(L.getD 0 []).toArray⟩:=⟨_,rfl⟩;obtain⟨X1,hX1⟩:∃X:ByteArray,X=⟨(L.getD (L.length - 1) []).toArray⟩:=⟨_,rfl⟩;rw[←hX0]at c0;rw[←hX1]at cl;have H0:=ad hX0;have H1:=ad hX1;clear hX0 hX1;have il:((L.length:Int) - 1).toNat=L.length - 1:=by omega
    by_cases e0:X0=⟨#[66,69,71,73,78,58,86,69,86,69,78,84]⟩
    case neg=>
     have n0:¬X0.toList=[66,69,71,73,78,58,86,69,86,69,78,84]:=by simpa using(ο X0 ⟨#[66,69,71,73,78,58,86,69,86,69,78,84]⟩).2 e0
     have g0:(X0.toList==[66,69,71,73,78,58,86,69,86,69,78,84])=false:=beq_eq_false_iff_ne.2 n0;have HX:ρ (bj s=none):=ad (by
      rw[HF.out,if_neg];intro hc;simp only[Bool.and_eq_true,decide_eq_true_eq]at hc;exact e0 (by rw[H0.out,hc.1.2];rfl))
     clear HF xo e0 cl;go_upto_region 5 with fail;rename_i K hK;exact eL (f:=eF) 49 50 false HE.out hK (fun _ _ h=>h) (fun _=>HX.out) (fun h=>by cases h) (by kernel_rfl) ⟨rfl,⟨_,rfl,rfl,rfl,rfl⟩,⟨_,rfl,rfl,rfl,rfl⟩,⟨_,rfl,rfl,rfl,rfl,⟨0, .data⟩,by simp,rfl,rfl⟩,⟨_,rfl,rfl,rfl,rfl,⟨1, .data⟩,by simp,rfl,rfl⟩,⟨_,rfl,rfl,rfl,rfl⟩⟩ rfl (by decide) rfl rfl rfl rfl
    case pos=>
     have n0:X0.toList=[66,69,71,73,78,58,86,69,86,69,78,84]:=by simpa using(Γ X0 ⟨#[66,69,71,73,78,58,86,69,86,69,78,84]⟩).2 e0
     have g0:(X0.toList==[66,69,71,73,78,58,86,69,86,69,78,84])=true:=beq_iff_eq.2 n0;by_cases e1:X1=⟨#[69,78,68,58,86,69,86,69,78,84]⟩
     case neg=>
      have n1:¬X1.toList=[69,78,68,58,86,69,86,69,78,84]:=by simpa using(ο X1 ⟨#[69,78,68,58,86,69,86,69,78,84]⟩).2 e1
      have g1:(X1.toList==[69,78,68,58,86,69,86,69,78,84])=false:=beq_eq_false_iff_ne.2 n1;have HX:ρ (bj s=none):=ad (by
       rw[HF.out,if_neg];intro hc;simp only[Bool.and_eq_true,decide_eq_true_eq]at hc;exact e1 (by rw[H1.out,hc.2];rfl))
      clear HF xo e0 e1;go_upto_region 5 with fail;rename_i K hK;exact eL (f:=eF) 49 50 false HE.out hK (fun _ _ h=>h) (fun _=>HX.out) (fun h=>by cases h) (by kernel_rfl) ⟨rfl,⟨_,rfl,rfl,rfl,rfl⟩,⟨_,rfl,rfl,rfl,rfl⟩,⟨_,rfl,rfl,rfl,rfl,⟨0, .data⟩,by simp,rfl,rfl⟩,⟨_,rfl,rfl,rfl,rfl,⟨1, .data⟩,by simp,rfl,rfl⟩,⟨_,rfl,rfl,rfl,rfl⟩⟩ rfl (by decide) rfl rfl rfl rfl
     case pos=>
      have n1:X1.toList=[69,78,68,58,86,69,86,69,78,84]:=by simpa using(Γ X1 ⟨#[69,78,68,58,86,69,86,69,78,84]⟩).2 e1
      have g1:(X1.toList==[69,78,68,58,86,69,86,69,78,84])=true:=beq_iff_eq.2 n1;have xl:ρ (bj s=match bZ bJ 58 (dz L) (fun _=>none)with|none=>none|some f=>if must f&&jC f then some f else none):=ad (by
       have b0:L.getD 0 []=oA:=by have:=H0.out.symm.trans e0;exact(mU _ [66,69,71,73,78,58,86,69,86,69,78,84]).1 this
       have b1:L.getD (L.length - 1) []=pA:=by have:=H1.out.symm.trans e1;exact(mU _ [69,78,68,58,86,69,86,69,78,84]).1 this
       exact HF.out.trans (if_pos (by rw[b0,b1];simp[J9,h2])))
      clear HF e0 e1;have HI:ρ (lH w g L eF w2):=ad (xo.out g L Sc.out);have OH:w.heap.size+4≤g:=by omega
      have mf:1<w.heap.size:=hg;clear xo HE Sc H0 H1;go_wp2_with fail;clear c0 cl g0 g1 n0 n1;go_loopw [9] (fun i wr=>∃(k:Nat) (f:Nat→Option (List UInt8)),1≤k∧k+1≤L.length∧i= V Z k∧ρ (lH w g L f wr)∧ρ (bZ bJ 58 (dz L) (fun _=>none)=bZ bJ 58 ((dz L).drop (k - 1)) f)) (fun i _=>L.length - (intOf i).toNat)
      case atStart=>exact⟨1,eF,μ _,by omega,rfl,HI,ad rfl⟩
      case round=>
       obtain⟨k,f,jx,gm,rfl,HR,HT⟩:=hrel;clear HI;by_cases ay:k+1<L.length
       case pos=>
        obtain⟨l,hl⟩:∃l,l=L.getD k []:=⟨_,rfl⟩;have cR:wr.cell? ⟨g,k,none⟩=some (η ⟨l.toArray⟩):=by
         have:=HR.out.ls k (by omega);rw[ω]at this;rw[hl];exact this
        have zY:(dz L)[k - 1]?=some l:=Sg jx ay hl;have nT:l.length≤1048576:=by rw[hl];exact Sh HLB.out (by omega)
        have hlz:(⟨l.toArray⟩:ByteArray).size≤1048576:=by show l.toArray.size≤_;rw[υ];exact nT
        have CQ:ρ (∀n,Calls prog 291 #[ζ (some ⟨1,0,none⟩) 9 9, η ⟨l.toArray⟩, .int .u8 58] (wr.drewN n) fun e w'=>e= δ (Qg (jR bJ 58 l))∧∃q,w'=(wr.drewN n).drewN q):=ad fun n=>Iq 1 0 9 bJ ⟨l.toArray⟩ 58 (wr.drewN n) hlz (by decide) (jK HN.out hg (below_drewN HR.out.below n));have E4:=ad zY;clear zY hl hlz;cases kQ:jR bJ 58 l with
        |none=>
         have xk:ρ (∀n,Calls prog 291 #[ζ (some ⟨1,0,none⟩) 9 9, η ⟨l.toArray⟩, .int .u8 58] (wr.drewN n) fun e w'=>e= δ (.tuple #[V Z 0, η ⟨#[]⟩, .bool false])∧∃q,w'=(wr.drewN n).drewN q):=ad fun n=>by have:=CQ.out n;rw[kQ]at this;exact this
         have HX:ρ (bj s=none):=ad (by rw[xl.out,HT.out,Ik E4.out kQ]);clear kQ HT CQ xl;go_wp2;go_quiet ((go_at_call 291;exact Calls.quiet_of (xk.out _)));have Aj:ρ (lH w g L f (wr.drewN nq)):=ad (HR.out.drewN nq);clear HR xk cR;go_upto_region 11 with fail;rename_i K hK;exact eL (f:=f) 75 76 false Aj.out hK (fun _ _ h=>h) (fun _=>HX.out) (fun h=>by cases h) (by kernel_rfl) ⟨rfl,⟨_,rfl,rfl,rfl,rfl⟩,⟨_,rfl,rfl,rfl,rfl⟩,⟨_,rfl,rfl,rfl,rfl,⟨0, .data⟩,by simp,rfl,rfl⟩,⟨_,rfl,rfl,rfl,rfl,⟨1, .data⟩,by simp,rfl,rfl⟩,⟨_,rfl,rfl,rfl,rfl⟩⟩ rfl (by decide) rfl rfl rfl rfl
        |some q=>
         obtain⟨j,v⟩:=q;obtain⟨hj,OI⟩:=KR kQ;have sV:j<9:=hj;have xk:ρ (∀n,Calls prog 291 #[ζ (some ⟨1,0,none⟩) 9 9, η ⟨l.toArray⟩, .int .u8 58] (wr.drewN n) fun e w'=>e= δ (.tuple #[V Z j, η ⟨v.toArray⟩, .bool true])∧∃q,w'=(wr.drewN n).drewN q):=ad fun n=>by have:=CQ.out n;rw[kQ]at this;exact this
         have hjz:(j:Int)<9:=by omega
         clear CQ hj OI;cases hd:(f j).isSome with
         |true=>
          have HX:ρ (bj s=none):=ad (by rw[xl.out,HT.out,ER E4.out kQ hd]);have hh:wr.cell? ⟨w.heap.size+3,j,none⟩=some (.bool true):=by rw[←hd];exact HR.out.h.cell (eZ f sV)
          clear kQ HT hd xl;go_wp2;go_quiet ((go_at_call 291;exact Calls.quiet_of (xk.out _)));have Aj:ρ (lH w g L f (wr.drewN nq)):=ad (HR.out.drewN nq);have hh2:(wr.drewN nq).cell? ⟨w.heap.size+3,j,none⟩=some (.bool true):=hh;clear HR xk cR hh;go_upto_region 11 with fail;rename_i K hK;exact eL (f:=f) 75 76 false Aj.out hK (fun _ _ h=>h) (fun _=>HX.out) (fun h=>by cases h) (by kernel_rfl) ⟨rfl,⟨_,rfl,rfl,rfl,rfl⟩,⟨_,rfl,rfl,rfl,rfl⟩,⟨_,rfl,rfl,rfl,rfl,⟨0, .data⟩,by simp,rfl,rfl⟩,⟨_,rfl,rfl,rfl,rfl,⟨1, .data⟩,by simp,rfl,rfl⟩,⟨_,rfl,rfl,rfl,rfl⟩⟩ rfl (by decide) rfl rfl rfl rfl
         |false=>
          have zw:f j=none:=by cases hq:f j<;>simp_all
          have Ir:ρ (bZ bJ 58 (dz L) (fun _=>none)=bZ bJ 58 ((dz L).drop (k+1 - 1)) (ji f j v)):=ad (by rw[HT.out,KQ E4.out kQ zw,show k - 1+1=k+1 - 1 by omega]);have hh:wr.cell? ⟨w.heap.size+3,j,none⟩=some (.bool false):=by rw[←hd];exact HR.out.h.cell (eZ f sV)
          have Sd:wr.frozen? ⟨w.heap.size+3,j,none⟩=false:=HR.out.h.free;have hv:=HR.out.v.cell (eY f sV);have hvf:wr.frozen? ⟨w.heap.size+2,j,none⟩=false:=HR.out.v.free;rw[zw]at hv;clear kQ HT hd E4 zw;go_wp2;go_quiet ((go_at_call 291;exact Calls.quiet_of (xk.out _)));have Aj:ρ (lH w g L (ji f j v) _):=ad ((HR.out.drewN nq).put v OH sV);have hh2:(wr.drewN nq).cell? ⟨w.heap.size+3,j,none⟩=some (.bool false):=hh;have ab0:(wr.drewN nq).frozen? ⟨w.heap.size+3,j,none⟩=false:=Sd;have hv2:((wr.drewN nq).setCell ⟨w.heap.size+3,j,none⟩ (.bool true)).cell? ⟨w.heap.size+2,j,none⟩=some (η ⟨([]:List UInt8).toArray⟩):=(World.cell?_setCell_other _ _ _ _ (fun e=>by have:=congrArg Addr.block e;simp at this)).trans hv;have alo:((wr.drewN nq).setCell ⟨w.heap.size+3,j,none⟩ (.bool true)).frozen? ⟨w.heap.size+2,j,none⟩=false:=by rw[World.frozen?_setCell];exact hvf
          clear hh Sd hv hvf HR xk cR;go_wp2_with fail;go_roundw
          case rel=>exact⟨k+1,ji f j v,by omega,by omega,by go_num,Aj,Ir⟩
          case measure=>simp[intOf];omega
       case neg=>
        have fB:k+1=L.length:=by omega
        have Ip:ρ (bZ bJ 58 (dz L) (fun _=>none)=some f):=ad (by rw[HT.out,List.drop_of_length_le (by unfold dz;rw[List.length_take,List.length_drop];omega)];rfl);have Ir:ρ (bj s=if must f&&jC f then some f else none):=ad (by rw[xl.out,Ip.out]);have E7:ρ (∀j,(val f j).length≤1048576):=ad (my (fun p hp=>HLB.out p (List.mem_of_mem_drop (List.mem_of_mem_take hp))) (fun j=>by simp) Ip.out);clear HT xl Ip;have d0:=HR.out.h.cell (eZ f (show 0<9 by decide));have d1:=HR.out.h.cell (eZ f (show 1<9 by decide));have d2:=HR.out.h.cell (eZ f (show 2<9 by decide));have d3:=HR.out.h.cell (eZ f (show 3<9 by decide));have d7:=HR.out.h.cell (eZ f (show 7<9 by decide));have d8:=HR.out.h.cell (eZ f (show 8<9 by decide));have v0:=HR.out.v.cell (eY f (show 0<9 by decide));have v7:=HR.out.v.cell (eY f (show 7<9 by decide));have v8:=HR.out.v.cell (eY f (show 8<9 by decide));have HM:ρ (must f=((f 0).isSome&&(f 1).isSome&&!((f 2).isSome==(f 3).isSome)&&gJ ⟨((f 0).getD []).toArray⟩)):=ad rfl;have HW:ρ (jC f=(!((f 7).isSome&&(decide (jh ((f 7).getD []) mY jB []=0)||decide ((f 7).getD []=[])))&&!((f 8).isSome&&decide (jh ((f 8).getD []) jV fW fX=0)))):=ad rfl;have CN:=VC ⟨((f 0).getD []).toArray⟩ wr (uR (E7.out 0));have C7:=yz ((f 7).getD []) mY jB [] wr;have C8:=yz ((f 8).getD []) jV fW fX wr;generalize gn:(f 0).isSome=x0 at *
        generalize fR:(f 1).isSome=x1 at *
        generalize fZ:(f 2).isSome=x2 at *
        generalize iW:(f 3).isSome=x3 at *
        generalize uQ:(f 7).isSome=x7 at *
        generalize hx8:(f 8).isSome=x8 at *
        generalize Sk:gJ ⟨((f 0).getD []).toArray⟩=nm at *
        generalize ht7:jh ((f 7).getD []) mY jB []=t7 at *
        generalize ht8:jh ((f 8).getD []) jV fW fX=t8 at *
        generalize X5:(f 0).getD []=y0 at *
        generalize hv7:(f 7).getD []=y7 at *
        generalize hv8:(f 8).getD []=y8 at *
        generalize Sl:(⟨y0.toArray⟩:ByteArray)=Y0 at *
        generalize OK:(⟨y7.toArray⟩:ByteArray)=Y7 at *
        generalize hY8:(⟨y8.toArray⟩:ByteArray)=Y8 at *
        have HY7:=ad OK;have CN2:=ad CN;have C72:=ad C7;have C82:=ad C8;clear gn fR fZ iW uQ hx8 Sk ht7 ht8 X5 hv7 hv8 Sl OK hY8 CN C7 C8;go_upto_region 17 with(first
         |(go_at_call 189;refine(CN2.out).mono ?_;rintro e w9 ⟨rfl,rfl⟩)
         |(go_at_call_of 238 (Value.string Y7);refine(C72.out).mono ?_;rintro e w9 ⟨rfl,rfl⟩)
         |(go_at_call_of 238 (Value.string Y8);refine(C82.out).mono ?_;rintro e w9 ⟨rfl,rfl⟩))
        clear CN2 C72 C82;cases x0 with
        |false=>
         have HX:ρ (bj s=none):=ad (by rw[Ir.out,HM.out];rfl);go_upto_region 18 with fail;rename_i K hK;exact eL (f:=f) 110 111 false HR.out hK (fun _ _ h=>h) (fun _=>HX.out) (fun h=>by cases h) (by kernel_rfl) ⟨rfl,⟨_,rfl,rfl,rfl,rfl⟩,⟨_,rfl,rfl,rfl,rfl⟩,⟨_,rfl,rfl,rfl,rfl,⟨0, .data⟩,by simp,rfl,rfl⟩,⟨_,rfl,rfl,rfl,rfl,⟨1, .data⟩,by simp,rfl,rfl⟩,⟨_,rfl,rfl,rfl,rfl⟩⟩ rfl (by decide) rfl rfl rfl rfl
        |true=>
         cases x1 with
         |false=>
          have HX:ρ (bj s=none):=ad (by rw[Ir.out,HM.out];rfl);go_upto_region 18 with fail;rename_i K hK;exact eL (f:=f) 110 111 false HR.out hK (fun _ _ h=>h) (fun _=>HX.out) (fun h=>by cases h) (by kernel_rfl) ⟨rfl,⟨_,rfl,rfl,rfl,rfl⟩,⟨_,rfl,rfl,rfl,rfl⟩,⟨_,rfl,rfl,rfl,rfl,⟨0, .data⟩,by simp,rfl,rfl⟩,⟨_,rfl,rfl,rfl,rfl,⟨1, .data⟩,by simp,rfl,rfl⟩,⟨_,rfl,rfl,rfl,rfl⟩⟩ rfl (by decide) rfl rfl rfl rfl
         |true=>
          cases he:(x2==x3)with
          |true=>
           have HX:ρ (bj s=none):=ad (by rw[Ir.out,HM.out,he];rfl);go_upto_region 18 with fail;rename_i K hK;exact eL (f:=f) 110 111 false HR.out hK (fun _ _ h=>h) (fun _=>HX.out) (fun h=>by cases h) (by kernel_rfl) ⟨rfl,⟨_,rfl,rfl,rfl,rfl⟩,⟨_,rfl,rfl,rfl,rfl⟩,⟨_,rfl,rfl,rfl,rfl,⟨0, .data⟩,by simp,rfl,rfl⟩,⟨_,rfl,rfl,rfl,rfl,⟨1, .data⟩,by simp,rfl,rfl⟩,⟨_,rfl,rfl,rfl,rfl⟩⟩ rfl (by decide) rfl rfl rfl rfl
          |false=>
           cases nm with
           |false=>
            have HX:ρ (bj s=none):=ad (by rw[Ir.out,HM.out,he];rfl);go_upto_region 18 with fail;rename_i K hK;exact eL (f:=f) 110 111 false HR.out hK (fun _ _ h=>h) (fun _=>HX.out) (fun h=>by cases h) (by kernel_rfl) ⟨rfl,⟨_,rfl,rfl,rfl,rfl⟩,⟨_,rfl,rfl,rfl,rfl⟩,⟨_,rfl,rfl,rfl,rfl,⟨0, .data⟩,by simp,rfl,rfl⟩,⟨_,rfl,rfl,rfl,rfl,⟨1, .data⟩,by simp,rfl,rfl⟩,⟨_,rfl,rfl,rfl,rfl⟩⟩ rfl (by decide) rfl rfl rfl rfl
           |true=>
            have zg:ρ (must f=true):=ad (by rw[HM.out,he];rfl);have E8:ρ (bj s=if jC f then some f else none):=ad (by rw[Ir.out,zg.out];rfl);clear HM zg Ir;go_upto_region 19 with fail;cases x7 with
            |false=>
             cases x8 with
             |false=>
              have HX:ρ (bj s=some f):=ad (by rw[E8.out,HW.out];rfl);go_upto_region 21 with fail;rename_i K hK;exact eL (f:=f) 133 134 true HR.out hK (fun _ _ h=>h) (fun h=>by cases h) (fun _=>HX.out) (by kernel_rfl) ⟨rfl,⟨_,rfl,rfl,rfl,rfl⟩,⟨_,rfl,rfl,rfl,rfl⟩,⟨_,rfl,rfl,rfl,rfl,⟨0, .data⟩,by simp,rfl,rfl⟩,⟨_,rfl,rfl,rfl,rfl,⟨1, .data⟩,by simp,rfl,rfl⟩,⟨_,rfl,rfl,rfl,rfl⟩⟩ rfl (by decide) rfl rfl rfl rfl
             |true=>
              by_cases h8:t8=0
              case pos=>
               have HX:ρ (bj s=none):=ad (by rw[E8.out,HW.out,h8];rfl);subst h8;go_upto_region 20 with fail;rename_i K hK;exact eL (f:=f) 131 132 false HR.out hK (fun _ _ h=>h) (fun _=>HX.out) (fun h=>by cases h) (by kernel_rfl) ⟨rfl,⟨_,rfl,rfl,rfl,rfl⟩,⟨_,rfl,rfl,rfl,rfl⟩,⟨_,rfl,rfl,rfl,rfl,⟨0, .data⟩,by simp,rfl,rfl⟩,⟨_,rfl,rfl,rfl,rfl,⟨1, .data⟩,by simp,rfl,rfl⟩,⟨_,rfl,rfl,rfl,rfl⟩⟩ rfl (by decide) rfl rfl rfl rfl
              case neg=>
               have HX:ρ (bj s=some f):=ad (by rw[E8.out,HW.out];simp[h8]);go_upto_region 21 with fail;rename_i K hK;exact eL (f:=f) 133 134 true HR.out hK (fun _ _ h=>h) (fun h=>by cases h) (fun _=>HX.out) (by kernel_rfl) ⟨rfl,⟨_,rfl,rfl,rfl,rfl⟩,⟨_,rfl,rfl,rfl,rfl⟩,⟨_,rfl,rfl,rfl,rfl,⟨0, .data⟩,by simp,rfl,rfl⟩,⟨_,rfl,rfl,rfl,rfl,⟨1, .data⟩,by simp,rfl,rfl⟩,⟨_,rfl,rfl,rfl,rfl⟩⟩ rfl (by decide) rfl rfl rfl rfl
            |true=>
             by_cases h7:t7=0
             case pos=>
              have HX:ρ (bj s=none):=ad (by rw[E8.out,HW.out,h7];rfl);subst h7;go_upto_region 20 with fail;rename_i K hK;exact eL (f:=f) 131 132 false HR.out hK (fun _ _ h=>h) (fun _=>HX.out) (fun h=>by cases h) (by kernel_rfl) ⟨rfl,⟨_,rfl,rfl,rfl,rfl⟩,⟨_,rfl,rfl,rfl,rfl⟩,⟨_,rfl,rfl,rfl,rfl,⟨0, .data⟩,by simp,rfl,rfl⟩,⟨_,rfl,rfl,rfl,rfl,⟨1, .data⟩,by simp,rfl,rfl⟩,⟨_,rfl,rfl,rfl,rfl⟩⟩ rfl (by decide) rfl rfl rfl rfl
             case neg=>
              by_cases e7:Y7=⟨#[]⟩
              case pos=>
               have HX:ρ (bj s=none):=ad (by
                have hy:y7=[]:=(mU y7 []).1 (HY7.out.trans e7);rw[E8.out,HW.out,hy];simp)
               subst e7;go_upto_region 20 with fail;rename_i K hK;exact eL (f:=f) 131 132 false HR.out hK (fun _ _ h=>h) (fun _=>HX.out) (fun h=>by cases h) (by kernel_rfl) ⟨rfl,⟨_,rfl,rfl,rfl,rfl⟩,⟨_,rfl,rfl,rfl,rfl⟩,⟨_,rfl,rfl,rfl,rfl,⟨0, .data⟩,by simp,rfl,rfl⟩,⟨_,rfl,rfl,rfl,rfl,⟨1, .data⟩,by simp,rfl,rfl⟩,⟨_,rfl,rfl,rfl,rfl⟩⟩ rfl (by decide) rfl rfl rfl rfl
              case neg=>
               have n7:¬Y7.toList=[]:=by simpa using(ο Y7 ⟨#[]⟩).2 e7
               have g7:(Y7.toList==[])=false:=beq_eq_false_iff_ne.2 n7;have HYN:ρ (¬y7=[]):=ad (fun e=>e7 (by rw[←HY7.out,e]));clear e7;cases x8 with
               |false=>
                have HX:ρ (bj s=some f):=ad (by rw[E8.out,HW.out];simp[h7,HYN.out]);go_upto_region 21 with fail;rename_i K hK;exact eL (f:=f) 133 134 true HR.out hK (fun _ _ h=>h) (fun h=>by cases h) (fun _=>HX.out) (by kernel_rfl) ⟨rfl,⟨_,rfl,rfl,rfl,rfl⟩,⟨_,rfl,rfl,rfl,rfl⟩,⟨_,rfl,rfl,rfl,rfl,⟨0, .data⟩,by simp,rfl,rfl⟩,⟨_,rfl,rfl,rfl,rfl,⟨1, .data⟩,by simp,rfl,rfl⟩,⟨_,rfl,rfl,rfl,rfl⟩⟩ rfl (by decide) rfl rfl rfl rfl
               |true=>
                by_cases h8:t8=0
                case pos=>
                 have HX:ρ (bj s=none):=ad (by rw[E8.out,HW.out,h8];simp);subst h8;go_upto_region 20 with fail;rename_i K hK;exact eL (f:=f) 131 132 false HR.out hK (fun _ _ h=>h) (fun _=>HX.out) (fun h=>by cases h) (by kernel_rfl) ⟨rfl,⟨_,rfl,rfl,rfl,rfl⟩,⟨_,rfl,rfl,rfl,rfl⟩,⟨_,rfl,rfl,rfl,rfl,⟨0, .data⟩,by simp,rfl,rfl⟩,⟨_,rfl,rfl,rfl,rfl,⟨1, .data⟩,by simp,rfl,rfl⟩,⟨_,rfl,rfl,rfl,rfl⟩⟩ rfl (by decide) rfl rfl rfl rfl
                case neg=>
                 have HX:ρ (bj s=some f):=ad (by rw[E8.out,HW.out];simp[h7,h8,HYN.out]);have h7b:(t7==0)=false:=beq_eq_false_iff_ne.2 h7;have h8b:(t8==0)=false:=beq_eq_false_iff_ne.2 h8;clear HW E8 E7 HLB HY7 HYN d0 d1 d2 d3 v0 v8;go_upto_region 21 with fail;rename_i K hK;exact eL (f:=f) 133 134 true HR.out hK (fun _ _ h=>h) (fun h=>by cases h) (fun _=>HX.out) (by kernel_rfl) ⟨rfl,⟨_,rfl,rfl,rfl,rfl⟩,⟨_,rfl,rfl,rfl,rfl⟩,⟨_,rfl,rfl,rfl,rfl,⟨0, .data⟩,by simp,rfl,rfl⟩,⟨_,rfl,rfl,rfl,rfl,⟨1, .data⟩,by simp,rfl,rfl⟩,⟨_,rfl,rfl,rfl,rfl⟩⟩ rfl (by decide) rfl rfl rfl rfl
def fe (u:ByteArray)(st ln:Int)(rc:List Value)(ex xt:Value)(op:Bool)(k:Int):List Value:=[η u, V Z st, V Z ln]++rc++[ex,xt, .bool op, V Z k]
def xp:List Value:=fe ⟨#[]⟩ 0 0 bD (ζ none 0 0) (ζ none 0 0) false 0
theorem BL {u:ByteArray}{st ln:Int}{rc:List Value}{ex xt:Value}{op:Bool}{k:Int}(h:rc.length=19):(fe u st ln rc ex xt op k).length=26:=by
 unfold fe;simp[h]
theorem gX {u:ByteArray}{st ln:Int}{rc:List Value}{ex xt:Value}{op:Bool}{k:Int}(h:∀x∈rc,x.oneCell'=true)(h1:ex.oneCell'=true)(h2:xt.oneCell'=true):∀x∈fe u st ln rc ex xt op k,x.oneCell'=true:=by
 intro x hx;unfold fe at hx;rw[Δ,Δ]at hx;rcases hx with(hx|hx)|hx
 ·simp only[ψ,χ,or_false]at hx;rcases hx with rfl|rfl|rfl<;>rfl
 ·exact h x hx
 ·simp only[ψ,χ,or_false]at hx;rcases hx with rfl|rfl|rfl|rfl
  ·exact h1
  ·exact h2
  ·rfl
  ·rfl
theorem ef:∀x∈bD,x.oneCell'=true:=by
 intro v hv;unfold bD at hv;simp only[ψ,χ,or_false]at hv;rcases hv with rfl|rfl|rfl|rfl|rfl|rfl|rfl|rfl|rfl|rfl|rfl|rfl|rfl|rfl|rfl|rfl|rfl|rfl|rfl<;>rfl
theorem dB:(prog.info? 245).map (·.size)=some 26:=by kernel_rfl
theorem kj {o:Oper}(ho:o.op= .alloc 245)(a:Act)(w:ι):(execOp a.eval o).run prog w= .ok (.value (ε (some ⟨w.heap.size,0,none⟩))) (w.alloc (θ xp.toArray 245)):=by
 obtain⟨_,_,_,_,_,_⟩:=o;simp only[]at ho;subst ho;kernel_rfl
theorem gp {o:Oper}(ho:o.op= .build 245 #[])(a:Act)(w:ι):(execOp a.eval o).run prog w= .ok (.value (.agg xp.toArray)) w:=by
 obtain⟨_,_,_,_,_,_⟩:=o;simp only[]at ho;subst ho;kernel_rfl
theorem Lc (u:ByteArray)(b:Bool)(w:ι):(Instr.build 245 #[(0, η u),(7, V Z 1),(6, .bool b)]).run prog w= .ok (.agg (fe u 0 0 bD (ζ none 0 0) (ζ none 0 0) b 1).toArray) w:=by
 kernel_rfl
theorem Ld {o:Oper}{x y:Operand}{u:ByteArray}{b:Bool}{a:Act}(ho:o.op= .build 245 #[(0,x),(7, .const (V Z 1)),(6,y)])(hx:a.eval x= η u)(hy:a.eval y= .bool b)(w:ι):(execOp a.eval o).run prog w= .ok (.value (.agg (fe u 0 0 bD (ζ none 0 0) (ζ none 0 0) b 1).toArray)) w:=by
 obtain⟨_,_,_,_,_,_⟩:=o;simp only[]at ho;subst ho;unfold execOp;have h0:a.eval (.const (V Z 1))= V Z 1:=rfl;simp only[List.map_toArray,List.map_cons,List.map_nil,h0,hx,hy];refine aL ?_;exact Lc u b w
structure xq (w:ι)(ab H E:Nat)(f:Nat→Option (List UInt8))(cs:List Value)(wr:ι):Prop where
 v:af wr ab (bC f) 241
 h:af wr H (fP f) 286
 e:af wr E cs 245
 r:af wr w.heap.size xp 245
 below:Below w.heap.size w wr
structure RdA (R ab H E:Nat)(a:Act):Prop where
 size:a.tmps.size=115
 defers:a.defers=[]
 s2:a.eval (.tmp 2)= ε (some ⟨R,0,none⟩)
 s4:a.eval (.tmp 4)= ε (some ⟨ab,0,none⟩)
 s5:a.eval (.tmp 5)= ε (some ⟨H,0,none⟩)
 s7:a.eval (.tmp 7)= ε (some ⟨E,0,none⟩)
theorem xq.on {w wr gY:ι}{ab H E:Nat}{f:Nat→Option (List UInt8)}{cs:List Value}(h:xq w ab H E f cs wr)(hb:Below wr.heap.size wr gY):xq w ab H E f cs gY:=
 ⟨h.v.on hb,h.h.on hb,h.e.on hb,h.r.on hb,h.below.trans (hb.mono h.below.size)⟩
theorem xq.aQ {w wr gY:ι}{ab H E:Nat}{f:Nat→Option (List UInt8)}{cs lS:List Value}(h:xq w ab H E f cs wr)(hx:aK (fun k=>k=E) wr gY)(he:af gY E lS 245)(hV:ab≠E)(hH:H≠E)(hE:w.heap.size<E):xq w ab H E f lS gY:=
 ⟨h.v.aQ hx hV,h.h.aQ hx hH,he,h.r.aQ hx (by omega),h.below.trans (hx.below h.below.size (fun k hk=>by omega))⟩
theorem xq.set {w wr:ι}{ab H E i:Nat}{f:Nat→Option (List UInt8)}{cs:List Value}(h:xq w ab H E f cs wr)(v:Value)(hV:ab≠E)(hH:H≠E)(hE:w.heap.size<E):xq w ab H E f (cs.set i v) (wr.setCell ⟨E,i,none⟩ v):=
 h.aQ ((aK.refl (fun k=>k=E) wr).setCell (p:=⟨E,i,none⟩) (.inl rfl) v) (h.e.set (k:=i) v) hV hH hE
structure yA (rc:List Value)(F:Nat→Option (List UInt8)):Prop where
 len:rc.length=19
 one:∀x∈rc,x.oneCell'=true
 fq:rc[0]?=some (V Z (kb F))
 tx:∀k,k<9→rc[10+k]?=some (η ⟨(nR k (F k)).toArray⟩)
theorem aeO {N:Nat}{w:ι}{v:Value}{F:Nat→Option (List UInt8)}(h:fJ N w v F):∃rc,v= .agg rc.toArray∧yA rc F:=by
 obtain⟨cs,h1,h2,h3,h4,h5⟩:=h;obtain⟨x,B,_,q1,q2⟩:=h4 0 (by decide);exact⟨cs,h1,⟨h2,h3,by rw[q1];exact congrArg some q2,h5⟩⟩
def gK (E:Nat)(w:ι)(v:Value)(zs:List Int):Prop:=w.ownsRow (E+1) 3 1 v zs.length (zs.map (Value.int Z))∧zs.length≤20
theorem gK.on {E:Nat}{w w':ι}{v:Value}{zs:List Int}(h:gK E w v zs)(hb:Below w.heap.size w w'):gK E w' v zs:=⟨dY h.1 fun g hg _=>hb.block g hg,h.2⟩
theorem gK.aQ {E:Nat}{w w':ι}{v:Value}{zs:List Int}{O:Nat→Prop}(h:gK E w v zs)(hx:aK O w w')(hO:∀k,O k→k≤E):gK E w' v zs:=⟨dY h.1 fun g hg hE=>hx.block g hg (fun ho=>by have:=hO g ho;omega),h.2⟩
theorem gK.one {E:Nat}{w:ι}{v:Value}{zs:List Int}(h:gK E w v zs):v.oneCell'=true:=by
 rcases h.1.2 with⟨rfl,_⟩|⟨g,cap,cur,rfl,_⟩<;>rfl
theorem gK.nil (E:Nat)(w:ι):gK E w (ζ none 0 0) []:=⟨World.ownsRow_nil _ _ _ _,by simp⟩
theorem fJ.mono {N N':Nat}{w:ι}{v:Value}{F:Nat→Option (List UInt8)}(h:fJ N w v F)(hn:N'≤N):fJ N' w v F:=by
 obtain⟨cs,h1,h2,h3,h4,h5⟩:=h;exact⟨cs,h1,h2,h3,fun j hj=>by obtain⟨x,B,hB,q⟩:=h4 j hj;exact⟨x,B,π hn hB,q⟩,h5⟩
theorem RC.keep {B:Nat}{w w':ι}{o:Option (List UInt8)}{j:Nat}{v:Value}(h:RC B w o j v)(hk:∀g,g<w.heap.size→B≤g→w'.heap[g]?=w.heap[g]?):RC B w' o j v:=by
 unfold RC at h⊢;split at h
 case h_5=>exact h.on hk
 case h_6=>exact h.on hk
 case h_7=>exact h.on hk
 case h_8=>exact⟨h.1.on hk,h.2⟩
 case h_9=>exact⟨h.1.on hk,h.2⟩
 all_goals exact h
theorem fJ.keep {N:Nat}{w w':ι}{v:Value}{F:Nat→Option (List UInt8)}(h:fJ N w v F)(hk:∀g,g<w.heap.size→N≤g→w'.heap[g]?=w.heap[g]?):fJ N w' v F:=by
 obtain⟨cs,h1,h2,h3,h4,h5⟩:=h;exact⟨cs,h1,h2,h3,fun j hj=>by obtain⟨x,B,hB,q,r⟩:=h4 j hj;exact⟨x,B,hB,q,r.keep fun g hg hb=>hk g hg (π hB hb)⟩,h5⟩
def Le (s:List UInt8)(w:ι)(e:Ending)(w':ι):Prop:=
 Below w.heap.size w w'∧((∃x,cG s= .error x∧e= δ (.tuple #[.agg xp.toArray, V Z x]))∨
  ∃d rc ex xt,cG s= .ok d∧e= δ (.tuple #[.agg (fe (ba (val d.f 0)) d.st d.ln rc ex xt (eO d.f) (kindOf d.f)).toArray, V Z 0])∧cF w' ex d.ex∧cF w' xt d.xt∧
   ((d.rl=none∧rc=bD)∨∃F,d.rl=some F∧yA rc F∧fJ w.heap.size w' (.agg rc.toArray) F))
theorem kR {s:List UInt8}{w W:ι}{cs:List Value}{tmps:Array Value}{x:Int}(r:af W w.heap.size cs 245)(hl:cs.length=26)(h2:tmps.getD 2 undef= ε (some ⟨w.heap.size,0,none⟩))(h3:tmps.getD 3 undef= V Z x)
 (hP:Le s w (δ (.tuple #[.agg cs.toArray, V Z x])) W):bodyPost prog Tryz.f186 (Le s w) .ret ⟨tmps,[]⟩ W:=by
 refine bodyPost_ret (v:= .tuple #[.agg cs.toArray, V Z x]) ?_ rfl hP;rw[results_cell_tmp results186 h2 (run_loadVar_mid _ w.heap.size 0 245 cs _ (dc r) underlying245 rfl (by rw[hl];exact dB)),h3]
theorem oM (a:Act)(h:a.tmps.size=115)(hd:a.defers=[]):∃f:Nat→Value,a=⟨List.toArray (f 0::f 1::f 2::f 3::f 4::f 5::f 6::f 7::f 8::f 9::f 10::f 11::f 12::f 13::f 14::f 15::f 16::f 17::f 18::f 19::f 20::f 21::f 22::f 23::f 24::f 25::f 26::f 27::f 28::f 29::f 30::f 31::f 32::f 33::f 34::f 35::f 36::f 37::f 38::f 39::f 40::f 41::f 42::f 43::f 44::f 45::f 46::f 47::f 48::f 49::f 50::f 51::f 52::f 53::f 54::f 55::f 56::f 57::f 58::f 59::f 60::f 61::f 62::f 63::f 64::f 65::f 66::f 67::f 68::f 69::f 70::f 71::f 72::f 73::f 74::f 75::f 76::f 77::f 78::f 79::f 80::f 81::f 82::f 83::f 84::f 85::f 86::f 87::f 88::f 89::f 90::f 91::f 92::f 93::f 94::f 95::f 96::f 97::f 98::f 99::f 100::f 101::f 102::f 103::f 104::f 105::f 106::f 107::f 108::f 109::f 110::f 111::f 112::f 113::f 114::[]),[]⟩∧∀k,a.eval (.tmp k)=f k:=jo 115 a h hd
theorem Am {s:List UInt8}{f:Nat→Option (List UInt8)}(h:bj s=some f):∀k,(val f k).length≤2000:=fun k=>by
 have hp:dw s (sw f):=((nu s (sw f) _ _).2 ⟨f,h,rfl,rfl,rfl⟩).1;have:=hp.small (swp k);unfold sw at this;rw[BI]at this;exact this
theorem Ql (v:List UInt8):lM ⟨v.toArray⟩=match ea v with|some z=> .tuple #[V Z z, V Z 0]|none=> .tuple #[V Z 0, V Z 1]:=by
 unfold lM ea bH;split<;>rfl
end Go.Proofs.YthpndgcaoeokeaaGreatDoor
