import Derived.Test.YthpndgcaoeokeaaGreatDoorCo15
import Derived.RangeFuncNested
import Derived.RangeFuncBound
set_option maxRecDepth 100000
set_option maxHeartbeats 8000000
open Go.Ending renaming returned→δ
open Go.Value renaming string→ε
open Bool renaming and_eq_true→ζ,true_or→Η,or_true→Θ
open Option renaming getD_some→η,map_some→ο
open Option.some renaming inj→θ
open Go renaming World→ι,Calls→Β
open List renaming mem_append→κ,length_append→μ,singleton_append→π,mem_singleton→τ,nil_append→φ,length_map→χ,map_cons→ω,mem_cons_of_mem→Α,append_nil→Γ,drop_zero→Δ
open Go.Lib renaming compactUpTo→ν,hasSuffix→υ,compact→ψ,trimSuffix→Ε,join→Ζ
open Ne renaming symm→ξ
open Nat renaming le_refl→ρ,le_trans→Ι
namespace Go.Proofs.YthpndgcaoeokeaaGreatDoor
open Tryz
theorem Ow (l:ByteArray):ba l.data.toList=l:=by unfold ba;simp
theorem BF (l:List UInt8):(ba l).data.toList=l:=rfl
theorem uH (v:List UInt8):(cI (ba v) 44).map (·.data.toList)=bX 44 v:=EI (ba v) 44
theorem P7 (s:List UInt8):lv 59 s=bX 59 s:=EI (ba s) 59
theorem RS {l:List UInt8}(h:cO l=true):¬l.head?=some 45:=fun e=>by
 cases l with
 |nil=>cases e
 |cons a r=>
  simp only[List.head?_cons,Option.some.injEq]at e;have:=yq h a (by simp);rw[e]at this;exact absurd this (by decide)
theorem ZS {v:List UInt8}{m:Int}(h:lP v 1 m=true):cT v m=bU v∧0<cT v m:=by
 have h2:=h;unfold lP at h2;simp only[ζ,decide_eq_true_eq]at h2;have e:cT v m=bU v:=by
  unfold cT;rw[if_neg (RS h2.1.1),mA,if_pos h]
 rw[e];exact⟨rfl,by omega⟩
theorem abH {v:List UInt8}{m:Int}(h:lP v 1 m=false):cT v m≤0:=by
 unfold cT;split
 ·split
  ·rename_i h2;unfold within at h2;simp only[ζ,decide_eq_true_eq]at h2;omega
  ·omega
 ·rw[mA,h];simp
theorem se (v:List UInt8)(m:Int):mK 1 m v=if 0<cT v m then some (cT v m)else none:=by
 unfold mK;cases h:lP v 1 m
 ·rw[if_neg (by simp),if_neg (by have:=abH h;omega)]
 ·have:=ZS h;rw[if_pos rfl,if_pos this.2,this.1]
theorem Ox (most:Int)(cJ:Bool):∀(P:List ByteArray) (acc:List Int),ph most cJ P acc=(fc (fun l=>nt most cJ (ba l)) (P.map (·.data.toList))).map (acc++·)
 |[],acc=>by simp[ph,fc]
 |l::r,acc=>by
  simp only[ph,ω,fc,Ow];cases h:nt most cJ l with
  |none=>rfl
  |some z=>
   simp only[];rw[Ox most cJ r (acc++[z])];cases fc (fun l=>nt most cJ (ba l)) (r.map (·.data.toList))<;>simp
theorem lZ (v:List UInt8)(most:Int)(cJ:Bool):dX (ba v) most cJ=dJ (fun l=>nt most cJ (ba l)) (some v):=by
 have e:=uH v;have hl:(cI (ba v) 44).length=(bX 44 v).length:=by rw[←e,χ]
 unfold dX dJ;simp only[];rw[hl,Ox,e];split
 ·cases fc (fun l=>nt most cJ (ba l)) (bX 44 v)<;>simp
 ·rfl
theorem Ge (m:Int):(fun l=>nt m false (ba l))=mK 1 m:=by
 funext l;rw[se];unfold nt;rw[BF];by_cases h:0<cT l m
 ·rw[if_neg (by omega),if_neg (by omega),if_pos h]
 ·rw[if_neg h];by_cases h0:cT l m=0
  ·rw[if_pos h0]
  ·rw[if_neg h0,if_pos ⟨by omega,rfl⟩]
theorem sf (m:Int):(fun l=>nt m true (ba l))=qQ m:=by
 funext l;unfold nt qQ;rw[BF];by_cases h0:cT l m=0
 ·rw[if_pos h0,if_pos h0]
 ·rw[if_neg h0,if_neg h0,if_neg (by simp)]
theorem Vo {v:List UInt8}(h:v.length≠2):idx dE v=none:=by
 refine sL fun j hj e=>h ?_;rw[←e];have:j=0∨j=1∨j=2∨j=3∨j=4∨j=5∨j=6:=by have:dE.length=7:=rfl;omega
 rcases this with rfl|rfl|rfl|rfl|rfl|rfl|rfl<;>rfl
theorem KK {v:List UInt8}{k:Nat}(h:idx dE v=some k):gB v=k:=by unfold gB;rw[h]
theorem KL {v:List UInt8}(h:idx dE v=none):gB v=-1:=by unfold gB;rw[h]
theorem ZT (l:List UInt8):qI (ba l)=(lg l).map fun q=>(q.2,q.1):=by
 have hs:(ba l).size=l.length:=by unfold ba;simp[ByteArray.size]
 unfold qI lg;rw[hs];by_cases h2:l.length<2
 ·rw[if_pos h2,show l.length - 2=0 from by omega,Δ,Vo (by omega)];rfl
 ·have c1:cut (ba l) (l.length - 2) 2=l.drop (l.length - 2):=by
   unfold cut;rw[BF];exact List.take_of_length_le (by rw[List.length_drop];omega)
  have c2:cut (ba l) 0 (l.length - 2)=l.take (l.length - 2):=by
   unfold cut;rw[BF,Δ]
  rw[if_neg h2,c1,c2];cases hi:idx dE (l.drop (l.length - 2))with
  |none=>rw[KL hi,if_pos (by omega)];rfl
  |some k=>
   rw[KK hi,if_neg (by omega)];simp only[];by_cases e2:l.length=2
   ·rw[if_pos e2,if_pos (by omega)];rfl
   ·rw[if_neg e2,if_neg (show¬l.length≤2 by omega)];split<;>rfl
theorem Oy:∀(P:List ByteArray) (acc:List Int×List Int),nO P acc=(fc lg (P.map (·.data.toList))).map fun zs=>(acc.1++zs.map (·.2),acc.2++zs.map (·.1))
 |[],acc=>by simp[nO,fc]
 |l::r,acc=>by
  have e:=ZT l.data.toList;rw[Ow]at e;simp only[nO,ω,fc,e];cases h:lg l.data.toList with
  |none=>rfl
  |some z=>
   simp only[ο];rw[Oy r];cases fc lg (r.map (·.data.toList))<;>simp
theorem ql (v:List UInt8):jc (ba v)=(dJ lg (some v)).map fun zs=>(zs.map (·.2),zs.map (·.1)):=by
 have e:=uH v;have hl:(cI (ba v) 44).length=(bX 44 v).length:=by rw[←e,χ]
 unfold jc dJ;simp only[];rw[hl,Oy,e];split
 ·cases fc lg (bX 44 v)<;>simp
 ·rfl
theorem uI (v:List UInt8):oh (some v)=if 0<B9 v then some (B9 v - 1)else none:=by
 unfold oh;rw[η];by_cases h1:v=[68,65,73,76,89]
 ·subst h1;decide
 by_cases h2:v=[87,69,69,75,76,89]
 ·subst h2;decide
 by_cases h3:v=[77,79,78,84,72,76,89]
 ·subst h3;decide
 by_cases h4:v=[89,69,65,82,76,89]
 ·subst h4;decide
 have e:idx iD v=none:=sL fun j hj e=>by
  have:j=0∨j=1∨j=2∨j=3:=by have:iD.length=4:=rfl;omega
  rcases this with rfl|rfl|rfl|rfl
  ·exact h1 e.symm
  ·exact h2 e.symm
  ·exact h3 e.symm
  ·exact h4 e.symm
 rw[e];unfold B9 jh;rw[if_neg h4,if_neg h1,if_neg h2,if_neg h3];rfl
theorem yt:oh none=none:=by decide
theorem Gf (v:List UInt8):wE v=if 0≤gB v then some (gB v)else none:=by
 unfold wE;cases h:idx dE v with
 |none=>rw[KL h];rfl
 |some k=>rw[KK h,if_pos (by omega)];rfl
theorem EJ (F:Nat→Option (List UInt8)):sI F=true↔∀k,k<9→∀v,F k=some v→iw k v=true:=by
 unfold sI;rw[List.all_eq_true];constructor
 ·intro h k hk v hv;have:=h k (List.mem_range.2 hk);rw[hv]at this;exact this
 ·intro h k hk;cases hv:F k with
  |none=>rfl
  |some v=>exact h k (List.mem_range.1 hk) v hv
theorem qm {α:Type}{o:Option α}(h:o.isSome=true):∃z,o=some z:=Option.isSome_iff_exists.1 h
theorem Ad (F:Nat→Option (List UInt8)):(∃r,kH F r)↔has F 0=true∧sI F=true:=by
 rw[EJ];constructor
 ·rintro⟨r,h⟩;refine⟨?_,fun k hk v hv=>?_⟩
  ·unfold has;cases h0:F 0 with
   |none=>have:=h.fq;rw[h0,yt]at this;cases this
   |some v=>rfl
  ·have:k=0∨k=1∨k=2∨k=3∨k=4∨k=5∨k=6∨k=7∨k=8:=by omega
   rcases this with rfl|rfl|rfl|rfl|rfl|rfl|rfl|rfl|rfl<;>unfold iw<;>simp only[]
   ·have:=h.fq;rw[hv,uI]at this;split at this
    ·simpa using ‹_›
    ·cases this
   ·have:=h.iv;rw[hv,η,se]at this;split at this
    ·simpa using ‹_›
    ·cases this
   ·have:=h.ct;rw[hv]at this;unfold wF at this;simp only[]at this;rw[se]at this;split at this
    ·simpa using ‹_›
    ·cases this
   ·have:=h.un;rw[hv]at this;unfold wG at this;simp only[]at this;split at this
    ·rename_i ht;exact ht
    ·cases this
   ·rw[lZ,Ge,←hv,h.ms];rfl
   ·rw[lZ,sf,←hv,h.mds];rfl
   ·rw[ql,←hv,h.wks];rfl
   ·rw[lZ,sf,←hv,h.pls];rfl
   ·have:=h.ws;rw[hv,η,Gf]at this;split at this
    ·simpa using ‹_›
    ·cases this
 ·rintro⟨h0,h⟩;obtain⟨v0,X5⟩:=qm h0;have p0:=h 0 (by decide) v0 X5;have q1:∃z,mK 1 100 ((F 1).getD [49])=some z:=by
   cases hv:F 1 with
   |none=>exact⟨1,by rw[Option.getD_none];decide⟩
   |some v=>
    have p:=h 1 (by decide) v hv;unfold iw at p;simp only[decide_eq_true_eq]at p;exact⟨_,by rw[η,se,if_pos p]⟩
  have q2:∃z,wF (F 2)=some z:=by
   cases hv:F 2 with
   |none=>exact⟨0,rfl⟩
   |some v=>
    have p:=h 2 (by decide) v hv;unfold iw at p;simp only[decide_eq_true_eq]at p;exact⟨_,by unfold wF;simp only[];rw[se,if_pos p]⟩
  have q3:∃z,wG (F 3)=some z:=by
   cases hv:F 3 with
   |none=>exact⟨9223372036854775807,rfl⟩
   |some v=>
    have p:fs (bH v)=true:=h 3 (by decide) v hv;exact⟨_,by unfold wG;simp only[];rw[if_pos p]⟩
  have q4:∃z,dJ (mK 1 12) (F 4)=some z:=by
   cases hv:F 4 with
   |none=>exact⟨[],rfl⟩
   |some v=>
    have p:(dX (ba v) 12 false).isSome=true:=h 4 (by decide) v hv;rw[lZ,Ge]at p;exact qm p
  have q5:∃z,dJ (qQ 31) (F 5)=some z:=by
   cases hv:F 5 with
   |none=>exact⟨[],rfl⟩
   |some v=>
    have p:(dX (ba v) 31 true).isSome=true:=h 5 (by decide) v hv;rw[lZ,sf]at p;exact qm p
  have q6:∃z,dJ lg (F 6)=some z:=by
   cases hv:F 6 with
   |none=>exact⟨[],rfl⟩
   |some v=>
    have p:(jc (ba v)).isSome=true:=h 6 (by decide) v hv;rw[ql,Option.isSome_map]at p;exact qm p
  have q7:∃z,dJ (qQ 366) (F 7)=some z:=by
   cases hv:F 7 with
   |none=>exact⟨[],rfl⟩
   |some v=>
    have p:(dX (ba v) 366 true).isSome=true:=h 7 (by decide) v hv;rw[lZ,sf]at p;exact qm p
  have q8:∃z,wE ((F 8).getD [77,79])=some z:=by
   cases hv:F 8 with
   |none=>exact⟨0,by rw[Option.getD_none];decide⟩
   |some v=>
    have p:=h 8 (by decide) v hv;unfold iw at p;simp only[decide_eq_true_eq]at p;exact⟨_,by rw[η,Gf,if_pos p]⟩
  unfold iw at p0;simp only[decide_eq_true_eq]at p0;obtain⟨z1,q1⟩:=q1;obtain⟨z2,q2⟩:=q2;obtain⟨z3,q3⟩:=q3;obtain⟨z4,q4⟩:=q4;obtain⟨z5,q5⟩:=q5;obtain⟨z6,q6⟩:=q6;obtain⟨z7,q7⟩:=q7;obtain⟨z8,q8⟩:=q8;exact⟨⟨B9 v0 - 1,z1,z2,z3,z4,z5,z6,z7,z8⟩,by rw[X5,uI,if_pos p0],q1,q2,q3,q4,q5,q6,q7,q8⟩
theorem ZU {α:Type}{rd:List UInt8→Option α}{v:List UInt8}{zs:List α}(h:dJ rd (some v)=some zs):0<zs.length:=by
 unfold dJ at h;simp only[]at h;split at h
 ·rw[Bx h];have:=Ae 44 v;cases hs:bX 44 v with
  |nil=>exact absurd hs this
  |cons a r=>simp
 ·cases h
theorem BG {α:Type}{rd:List UInt8→Option α}{f:Option (List UInt8)}{zs:List α}(h:dJ rd f=some zs):f.isSome=decide (0<zs.length):=by
 cases f with
 |none=>
  have:zs=[]:=(θ h).symm;subst this;rfl
 |some v=>have:=ZU h;simp[this]
theorem abI {F:Nat→Option (List UInt8)}{zs:List (Int×Int)}(h:dJ lg (F 6)=some zs):ik F=fU zs:=by
 unfold ik;cases hv:F 6 with
 |none=>
  rw[hv]at h;have:zs=[]:=(θ h).symm;subst this;rfl
 |some v=>
  rw[hv]at h;simp only[];rw[ql,h];simp only[ο];unfold fU;rw[List.any_map];rfl
theorem ZV {F:Nat→Option (List UInt8)}{z:Int}(h:oh (F 0)=some z):kb F=z+1∧has F 0=true:=by
 unfold kb has;cases hv:F 0 with
 |none=>rw[hv,yt]at h;cases h
 |some v=>
  rw[hv,uI]at h;split at h
  ·have:=θ h;exact⟨by simp only[];omega,rfl⟩
  ·cases h
theorem Ic {F:Nat→Option (List UInt8)}{r:au}(h:kH F r):agree F=true↔¬((F 2).isSome=true∧(F 3).isSome=true)∧qh r=true:=by
 obtain⟨hf,h0⟩:=ZV h.fq;have ho:=abI h.wks;have b5:has F 5=decide (0<r.mds.length):=BG h.mds;have b4:has F 4=decide (0<r.ms.length):=BG h.ms;have b6:has F 6=decide (0<r.wks.length):=BG h.wks;have b7:has F 7=decide (0<r.pls.length):=BG h.pls;have zQ:=Oe h.fq;unfold agree qh sy;rw[h0,hf,ho,b4,b5,b6,b7];unfold has;generalize(F 2).isSome=x2;generalize(F 3).isSome=x3;generalize fU r.wks=o;generalize r.mds.length=nd at *
 generalize r.ms.length=nm at *
 generalize r.wks.length=nw at *
 generalize r.pls.length=np at *
 have hq:r.fq=0∨r.fq=1∨r.fq=2∨r.fq=3:=by omega
 rcases hq with e|e|e|e<;>rw[e]<;>cases x2<;>cases x3<;>cases o<;>by_cases c1:0<nd<;>by_cases c2:0<nm<;>by_cases c3:0<nw<;>by_cases c4:0<np<;>simp[c1,c2,c3,c4]<;>omega
theorem pD (s:List UInt8)(F:Nat→Option (List UInt8)):cV s=some F↔∃r,lT s F r:=by
 unfold cV lT partsOf;rw[P7];cases hf:bZ aC 61 (bX 59 s) (fun _=>none)with
 |none=>simp
 |some f=>
  simp only[];constructor
  ·intro h;split at h
   ·rename_i hc;have e:=θ h;subst e;rw[ζ]at hc;have h0:has f 0=true:=by
     have:=hc.2;unfold agree at this;simp only[ζ]at this;exact this.1.1.1.1
    obtain⟨r,hr⟩:=(Ad f).2 ⟨h0,hc.1⟩;obtain⟨a1,a2⟩:=(Ic hr).1 hc.2;exact⟨r,rfl,a1,hr,a2⟩
   ·cases h
  ·rintro⟨r,h1,h2,h3,h4⟩;have e:=θ h1;subst e;have a:=(Ic h3).2 ⟨h2,h4⟩;have b:=((Ad f).1 ⟨r,h3⟩).2;rw[if_pos (by rw[a,b];rfl)]
def dZ (l:List Int):Prop:=l.Pairwise (·<·)
theorem nP (n:Int):∀(zs:List Int) (d:Bool) (x:Int),x∈eE n d zs↔(x=n∧d=false)∨(x∈zs∧x≠n)
 |[],d,x=>by cases d<;>simp[eE]
 |a::r,d,x=>by
  rw[eE,κ,κ,nP n r];cases d
  ·by_cases h1:n≤a
   ·by_cases h2:a=n
    ·subst h2;simp;constructor
     ·rintro(h|⟨h,h'⟩)
      ·exact .inl h
      ·exact .inr ⟨.inr h,h'⟩
     ·rintro(h|⟨h|h,h'⟩)
      ·exact .inl h
      ·exact absurd h h'
      ·exact .inr ⟨h,h'⟩
    ·simp[h1,h2];constructor
     ·rintro((h|h)|⟨h,h'⟩)
      ·exact .inl h
      ·exact .inr ⟨.inl h,by rw[h];exact h2⟩
      ·exact .inr ⟨.inr h,h'⟩
     ·rintro(h|⟨h|h,h'⟩)
      ·exact .inl (.inl h)
      ·exact .inl (.inr h)
      ·exact .inr ⟨h,h'⟩
   ·have h2:¬a=n:=by omega
    simp[h1,h2];constructor
    ·rintro(h|h|⟨h,h'⟩)
     ·exact .inr ⟨.inl h,by rw[h];exact h2⟩
     ·exact .inl h
     ·exact .inr ⟨.inr h,h'⟩
    ·rintro(h|⟨h|h,h'⟩)
     ·exact .inr (.inl h)
     ·exact .inl h
     ·exact .inr (.inr ⟨h,h'⟩)
  ·by_cases h2:a=n
   ·subst h2;simp;exact fun h h'=>absurd h' h
   ·simp[h2];constructor
    ·rintro(h|⟨h,h'⟩)
     ·exact⟨.inl h,by rw[h];exact h2⟩
     ·exact⟨.inr h,h'⟩
    ·rintro⟨h|h,h'⟩
     ·exact .inl h
     ·exact .inr ⟨h,h'⟩
theorem BH (n:Int):∀(zs:List Int) (d:Bool),dZ zs→dZ (eE n d zs)
 |[],d,_=>by cases d<;>simp[eE,dZ]
 |a::r,d,h=>by
  obtain⟨ha,hr⟩:=List.pairwise_cons.1 h;have X6:=BH n r true hr;have ihF:=BH n r false hr;rw[eE];cases d
  ·by_cases h1:n≤a
   ·by_cases h2:a=n
    ·simp only[h2,Int.le_refl,and_self,if_true,Γ,π,decide_true,Θ];refine List.pairwise_cons.2 ⟨fun x hx=>?_,X6⟩;rcases(nP n r true x).1 hx with⟨_,h⟩|⟨hx,_⟩
     ·cases h
     ·have:=ha x hx;omega
    ·simp only[h1,h2,and_self,if_true,if_false,List.cons_append,φ,decide_true,Θ];refine List.pairwise_cons.2 ⟨fun x hx=>?_,List.pairwise_cons.2 ⟨fun x hx=>?_,X6⟩⟩
     ·rcases List.mem_cons.1 hx with rfl|hx
      ·omega
      ·rcases(nP n r true x).1 hx with⟨_,h⟩|⟨hx,_⟩
       ·cases h
       ·have:=ha x hx;omega
     ·rcases(nP n r true x).1 hx with⟨_,h⟩|⟨hx,_⟩
      ·cases h
      ·exact ha x hx
   ·have h2:¬a=n:=by omega
    have h3:¬(false=false∧n≤a):=fun h=>h1 h.2;rw[if_neg h3,if_neg h2,show(false||decide (n≤a))=false from by simp[h1]];simp only[φ,π];refine List.pairwise_cons.2 ⟨fun x hx=>?_,ihF⟩;rcases(nP n r false x).1 hx with⟨h,_⟩|⟨hx,_⟩
    ·omega
    ·exact ha x hx
  ·by_cases h2:a=n
   ·rw[if_neg (fun h=>by cases h.1),if_pos h2];exact X6
   ·rw[if_neg (fun h=>by cases h.1),if_neg h2];simp only[φ,π,Η];refine List.pairwise_cons.2 ⟨fun x hx=>?_,X6⟩;rcases(nP n r true x).1 hx with⟨_,h⟩|⟨hx,_⟩
    ·cases h
    ·exact ha x hx
theorem EK:∀{l m:List Int},dZ l→dZ m→(∀x,x∈l↔x∈m)→l=m
 |[],[],_,_,_=>rfl
 |[],b::m,_,_,h=>absurd ((h b).2 (by simp)) (by simp)
 |a::l,[],_,_,h=>absurd ((h a).1 (by simp)) (by simp)
 |a::l,b::m,hl,hm,h=>by
  obtain⟨ha,Hv⟩:=List.pairwise_cons.1 hl;obtain⟨hb,qS⟩:=List.pairwise_cons.1 hm;have e:a=b:=by
   have h1:=(h a).1 (by simp);have h2:=(h b).2 (by simp);rcases List.mem_cons.1 h1 with h1|h1
   ·exact h1
   ·rcases List.mem_cons.1 h2 with h2|h2
    ·exact h2.symm
    ·have:=ha b h2;have:=hb a h1;omega
  subst e;rw[EK Hv qS fun x=>?_];constructor
  ·intro hx;rcases List.mem_cons.1 ((h x).1 (Α _ hx))with e|h'
   ·have:=ha x hx;omega
   ·exact h'
  ·intro hx;rcases List.mem_cons.1 ((h x).2 (Α _ hx))with e|h'
   ·have:=hb x hx;omega
   ·exact h'
theorem KM (zs:List Int)(hs:zs.Pairwise (·≤·)):∀m,m≤zs.length→dZ (ν zs.toArray m)∧∀x,x∈ν zs.toArray m↔x∈zs.take m
 |0,_=>by
  have:ν zs.toArray 0=[]:=by simp[ν]
  rw[this];exact⟨List.Pairwise.nil,by simp⟩
 |m+1,h=>by
  obtain⟨h1,h2⟩:=KM zs hs m (by omega);have hm:m<zs.length:=by omega
  have hg:zs.toArray[m]! =zs[m]:=by simp[hm]
  rw[Lib.compactUpTo_succ,hg,List.take_succ_eq_append_getElem hm];by_cases hk:Lib.keeps zs.toArray m=true
  ·rw[if_pos hk];refine⟨?_,fun x=>by rw[κ,κ,h2]⟩;refine List.pairwise_append.2 ⟨h1,List.pairwise_singleton _ _,fun x hx y hy=>?_⟩;rw[τ]at hy;subst hy;obtain⟨j,hj,rfl⟩:=List.getElem_of_mem ((h2 x).1 hx);rw[List.length_take]at hj;rw[List.getElem_take];have h3:zs[m - 1]<zs[m]:=by
    have di:zs[m]≠zs[m - 1]:=by
     unfold Lib.keeps at hk;have lU:m - 1<zs.length:=by omega
     simp only[hg]at hk;intro e;have h0:m≠0:=by omega
     simp[h0,lU,e]at hk
    have:=List.pairwise_iff_getElem.1 hs (m - 1) m (by omega) hm (by omega);omega
   rcases Nat.lt_or_ge j (m - 1)with h4|h4
   ·have:=List.pairwise_iff_getElem.1 hs j (m - 1) (by omega) (by omega) h4;omega
   ·have:j=m - 1:=by omega
    subst this;exact h3
  ·rw[if_neg hk,Γ];refine⟨h1,fun x=>?_⟩;rw[h2,κ,τ];constructor
   ·exact .inl
   ·rintro(h|h)
    ·exact h
    ·subst h;have h0:m≠0:=fun e=>hk (by subst e;exact Lib.keeps_lt_one _ 0 (by omega));have lU:m - 1<zs.length:=by omega
     have e:zs[m]=zs[m - 1]:=by
      unfold Lib.keeps at hk;simp only[hg]at hk;by_cases e:zs[m]=zs[m - 1]
      ·exact e
      ·exfalso;apply hk;simp[h0,lU,e]
     rw[e];exact List.mem_take_iff_getElem.2 ⟨m - 1,by omega,rfl⟩
theorem J7 (zs:List Int):dZ (ψ (zs.mergeSort fun x y=>decide (x≤y)))∧∀x,x∈ψ (zs.mergeSort fun x y=>decide (x≤y))↔x∈zs:=by
 have hs:(zs.mergeSort fun x y=>decide (x≤y)).Pairwise (·≤·):=by
  have:=List.pairwise_mergeSort (le:=fun x y:Int=>decide (x≤y)) (by simp;omega) (by simp;omega) zs;exact this.imp (by simp)
 obtain⟨h1,h2⟩:=KM _ hs _ (ρ _);refine⟨h1,fun x=>?_⟩;rw[show ψ (zs.mergeSort fun x y=>decide (x≤y))=ν (zs.mergeSort fun x y=>decide (x≤y)).toArray (zs.mergeSort fun x y=>decide (x≤y)).length from rfl,h2,List.take_length];exact List.mem_mergeSort
theorem Oz:∀(P:List ByteArray) (acc:List Int),dZ acc→(match fc ea (P.map (·.data.toList))with
 |none=>nQ P acc=none
 |some zs=>∃out,nQ P acc=some out∧dZ out∧∀x,x∈out↔x∈zs∨x∈acc)
 |[],acc,h=>⟨acc,rfl,h,fun x=>by simp⟩
 |l::r,acc,h=>by
  rw[ω,fc,nQ];have e:ea l.data.toList=if fs l=true then some (eI l)else none:=by
   unfold ea bH;simp
  rw[e];by_cases ht:fs l=true
  ·rw[if_pos ht,if_pos ht];have ih:=Oz r (eE (eI l) false acc) (BH _ _ _ h);cases hz:fc ea (r.map (·.data.toList))with
   |none=>rw[hz]at ih;exact ih
   |some zs=>
    rw[hz]at ih;obtain⟨out,h1,h2,h3⟩:=ih;refine⟨out,h1,h2,fun x=>?_⟩;rw[h3,nP,List.mem_cons];simp only[and_true];by_cases hx:x=eI l<;>simp[hx]
  ·rw[if_neg ht,if_neg ht]
def swp (k:Nat):Nat:=if k=2 then 3 else if k=3 then 2 else k
def sw (f:Nat→Option (List UInt8)):Nat→Option (List UInt8):=fun k=>f (swp k)
theorem BI (k:Nat):swp (swp k)=k:=by
 unfold swp;by_cases h2:k=2
 ·subst h2;rfl
 ·by_cases h3:k=3
  ·subst h3;rfl
  ·simp[h2,h3]
theorem abJ (f:Nat→Option (List UInt8))(j:Nat)(v:List UInt8):sw (fun i=>if i=j then some v else f i)=fun i=>if i=swp j then some v else sw f i:=by
 funext k;unfold sw;by_cases h:k=swp j
 ·subst h;rw[BI];simp
 ·have:¬swp k=j:=fun e=>h (by rw[←e,BI]);simp[h,this]
theorem abK (n:List UInt8):idx fi n=(idx bJ n).map swp:=by
 by_cases h0:n=[85,73,68]
 ·subst h0;decide
 by_cases h1:n=[68,84,83,84,65,82,84]
 ·subst h1;decide
 by_cases h2:n=[68,84,69,78,68]
 ·subst h2;decide
 by_cases h3:n=[68,85,82,65,84,73,79,78]
 ·subst h3;decide
 by_cases h4:n=[82,82,85,76,69]
 ·subst h4;decide
 by_cases h5:n=[69,88,68,65,84,69]
 ·subst h5;decide
 by_cases h6:n=[82,68,65,84,69]
 ·subst h6;decide
 by_cases h7:n=[84,82,65,78,83,80]
 ·subst h7;decide
 by_cases h8:n=[83,84,65,84,85,83]
 ·subst h8;decide
 unfold fi bJ;simp only[idx,if_neg (ξ h0),if_neg (ξ h1),if_neg (ξ h2),if_neg (ξ h3),if_neg (ξ h4),if_neg (ξ h5),if_neg (ξ h6),if_neg (ξ h7),if_neg (ξ h8)];rfl
theorem abL (l:List UInt8):jR fi 58 l=(jR bJ 58 l).map fun q=>(swp q.1,q.2):=by
 unfold jR;cases sp 58 l with
 |none=>rfl
 |some q=>
  obtain⟨n,v⟩:=q;simp only[];rw[abK];cases idx bJ n<;>rfl
theorem Gg:∀(P:List (List UInt8)) (f:Nat→Option (List UInt8)),bZ fi 58 P (sw f)=(bZ bJ 58 P f).map sw
 |[],f=>rfl
 |l::r,f=>by
  rw[bZ,bZ,abL];cases jR bJ 58 l with
  |none=>rfl
  |some q=>
   obtain⟨k,v⟩:=q;simp only[ο];have e:sw f (swp k)=f k:=by unfold sw;rw[BI]
   rw[e];cases hb:(f k).isSome with
   |true=>rfl
   |false=>
    simp only[Bool.false_eq_true,if_false];rw[←abJ];exact Gg r _
theorem RT (o:Option (List UInt8)):zS o=match o with|none=>some 0|some v=>if jh v jV fW fX=0 then none else some (jh v jV fW fX - 1):=by
 cases o with
 |none=>decide
 |some v=>
  unfold zS;simp only[η];by_cases h0:v=jV
  ·subst h0;decide
  by_cases h1:v=fW
  ·subst h1;decide
  by_cases h2:v=fX
  ·subst h2;decide
  have hw:jh v jV fW fX=0:=by unfold jh;simp[h0,h1,h2]
  rw[if_pos hw];unfold dm;simp only[idx];unfold jV at h0;unfold fW at h1;unfold fX at h2;simp only[if_neg (ξ h0),if_neg (ξ h1),if_neg (ξ h2)];rfl
theorem RU (o:Option (List UInt8)):zR o=match o with|none=>some false|some v=>if jh v mY jB []=0∨v=[]then none else some (decide (v=jB)):=by
 cases o with
 |none=>decide
 |some v=>
  unfold zR;simp only[η];by_cases h0:v=mY
  ·subst h0;decide
  by_cases h1:v=jB
  ·subst h1;decide
  have hw:jh v mY jB []=0∨v=[]:=by
   by_cases h2:v=[]
   ·exact .inr h2
   ·exact .inl (by unfold jh;simp[h0,h1,h2])
  rw[if_pos hw];unfold lu;simp only[idx];unfold mY at h0;unfold jB at h1;simp only[if_neg (ξ h0),if_neg (ξ h1)];rfl
theorem Ie {s:List UInt8}{ls:List (List UInt8)}(h2:2≤ls.length):jw s=some ls↔(dS (dv s) []).2=true∧lW s=ls:=by
 unfold jw lW;by_cases hx:∃i,dv s=i++[13,10]
 ·obtain⟨i,hi⟩:=hx;have h1:υ (dv s) crlf=true:=by rw[hi];unfold υ;exact List.isSuffixOf_iff_suffix.2 ⟨i,rfl⟩
  have h3:Ε (dv s) crlf=i:=by unfold Ε;rw[if_pos h1,hi];simp[crlf]
  rw[if_pos h1,h3,hi,ZN];simp
 ·have h1:¬υ (dv s) crlf=true:=fun e=>by
   unfold υ at e;obtain⟨t,ht⟩:=List.isSuffixOf_iff_suffix.1 e;exact hx ⟨t,ht.symm⟩
  rw[if_neg h1];constructor
  ·intro h;cases h
  ·rintro⟨h3,h4⟩;by_cases h0:dv s=[]
   ·rw[h0]at h4;simp[dS]at h4;subst h4;simp at h2
   ·rw[aba h0 (fun i e=>hx ⟨i,e⟩)]at h3;cases h3
theorem KN (f:Nat→Option (List UInt8)):must f=true↔(sw f 0).isSome=true∧(sw f 1).isSome=true∧((sw f 2).isSome !=(sw f 3).isSome)=true∧gJ (bH ((sw f 0).getD []))=true:=by
 have e0:sw f 0=f 0:=rfl;have e1:sw f 1=f 1:=rfl;have e2:sw f 2=f 3:=rfl;have e3:sw f 3=f 2:=rfl;rw[e0,e1,e2,e3];unfold must has val;rw[ζ,ζ,ζ];have:((f 2).isSome !=(f 3).isSome)=((f 3).isSome !=(f 2).isSome):=by cases(f 2).isSome<;>cases(f 3).isSome<;>rfl
 rw[this];exact⟨fun⟨⟨⟨a,b⟩,c⟩,d⟩=>⟨a,b,c,d⟩,fun⟨a,b,c,d⟩=>⟨⟨⟨a,b⟩,c⟩,d⟩⟩
theorem Ig (f:Nat→Option (List UInt8)):jC f=true↔zR (sw f 7)=some (eO f)∧zS (sw f 8)=some (kindOf f - 1):=by
 have e7:sw f 7=f 7:=rfl;have e8:sw f 8=f 8:=rfl;rw[e7,e8,RU,RT];unfold jC eO kindOf has val;cases f 7 with
 |none=>
  cases f 8 with
  |none=>simp[jB]
  |some v=>by_cases h:jh v jV fW fX=0<;>simp[h,jB]
 |some u=>
  cases f 8 with
  |none=>by_cases h:jh u mY jB []=0<;>by_cases h':u=[]<;>simp[h,h']
  |some v=>by_cases h:jh u mY jB []=0<;>by_cases h':u=[]<;>by_cases h2:jh v jV fW fX=0<;>simp[h,h',h2]
theorem P8 {f:Nat→Option (List UInt8)}{tr:Bool}{k:Int}(h:EA (sw f) tr k):jC f=true∧tr=eO f∧k=kindOf f - 1:=by
 have h1:=h.tr;have h2:=h.st;have e7:sw f 7=f 7:=rfl;have e8:sw f 8=f 8:=rfl;have hw:jC f=true:=by
  rw[e7,RU]at h1;rw[e8,RT]at h2;unfold jC has val;cases h7:f 7 with
  |none=>
   cases h8:f 8 with
   |none=>rfl
   |some v=>rw[h8]at h2;by_cases h:jh v jV fW fX=0<;>simp[h]at h2⊢
  |some u=>
   rw[h7]at h1;cases h8:f 8 with
   |none=>by_cases h:jh u mY jB []=0<;>by_cases h':u=[]<;>simp[h,h']at h1⊢
   |some v=>rw[h8]at h2;by_cases h:jh u mY jB []=0<;>by_cases h':u=[]<;>by_cases h3:jh v jV fW fX=0<;>simp[h,h',h3]at h1 h2⊢
 obtain⟨a,b⟩:=(Ig f).1 hw;rw[h1]at a;rw[h2]at b;exact⟨hw,θ a,θ b⟩
theorem EL (s:List UInt8):wV s=true↔s.length≤2000∧(dS (dv s) []).2=true∧2≤(lW s).length∧(lW s).getD 0 []=oA∧(lW s).getD ((lW s).length - 1) []=pA:=by
 unfold wV;simp only[ζ,decide_eq_true_eq];exact⟨fun⟨⟨⟨⟨a,b⟩,c⟩,d⟩,e⟩=>⟨b,a,c,d,e⟩,fun⟨b,a,c,d,e⟩=>⟨⟨⟨⟨a,b⟩,c⟩,d⟩,e⟩⟩
theorem nu (s:List UInt8)(F:Nat→Option (List UInt8))(tr:Bool)(k:Int):lV s F tr k↔∃f,bj s=some f∧F=sw f∧tr=eO f∧k=kindOf f - 1:=by
 have e0:sw (fun _=>none)=fun _=>none:=rfl;constructor
 ·rintro⟨hp,hb⟩;obtain⟨ls,h1,h2,h3,h4,h5⟩:=hp.lines;obtain⟨hl,rfl⟩:=(Ie h2).1 h1;have hf:wV s=true:=(EL s).2 ⟨hp.len,hl,h2,h3,h4⟩;have h6:=Gg (dz (lW s)) (fun _=>none);rw[e0,h5]at h6;obtain⟨f,zq,rfl⟩:=Option.map_eq_some_iff.1 h6.symm;obtain⟨hw,htr,hk⟩:=P8 hb;have hm:must f=true:=(KN f).2 ⟨hp.uid,hp.start,hp.one,hb.uid⟩;refine⟨f,?_,rfl,htr,hk⟩;unfold bj;rw[if_pos hf,zq];simp only[];rw[hm,hw];rfl
 ·rintro⟨f,hf,rfl,rfl,rfl⟩;unfold bj at hf;by_cases zr:wV s=true
  ·rw[if_pos zr]at hf;obtain⟨h1,h2,h3,h4,h5⟩:=(EL s).1 zr;cases h6:bZ bJ 58 (dz (lW s)) (fun _=>none)with
   |none=>rw[h6]at hf;cases hf
   |some f'=>
    rw[h6]at hf;simp only[]at hf;split at hf
    ·rename_i hc;cases hf;rw[ζ]at hc;obtain⟨m1,m2,m3,m4⟩:=(KN f).1 hc.1;obtain⟨w1,w2⟩:=(Ig f).1 hc.2;have h7:=Gg (dz (lW s)) (fun _=>none);rw[e0,h6]at h7;exact⟨⟨h1,⟨lW s,(Ie h3).2 ⟨h2,rfl⟩,h3,h4,h5,h7⟩,m1,m2,m3⟩,⟨m4,w1,w2⟩⟩
    ·cases hf
  ·rw[if_neg zr]at hf;cases hf
theorem Af (o:Option (List UInt8)):lX o=qR o:=by
 cases o with
 |none=>unfold lX qR dJ;simp[ψ,ν]
 |some v=>
  unfold lX qR wW dJ;simp only[];have hl:(cI (ba v) 44).length=(bX 44 v).length:=by rw[←uH,χ]
  rw[hl];by_cases qj:(bX 44 v).length≤20
  ·rw[if_pos qj,if_pos qj];have h:=Oz (cI (ba v) 44) [] List.Pairwise.nil;rw[uH]at h;cases hz:fc ea (bX 44 v)with
   |none=>rw[hz]at h;rw[h];rfl
   |some zs=>
    rw[hz]at h;obtain⟨out,h1,h2,h3⟩:=h;rw[h1];obtain⟨s1,s2⟩:=J7 zs;simp only[ο];congr 1;exact EK h2 s1 fun x=>by rw[h3,s2];simp
  ·rw[if_neg qj,if_neg qj];rfl
theorem uJ {f:Nat→Option (List UInt8)}{st ln:Int}{ex xt:List Int}:kJ (sw f) st ln ex xt↔ea (val f 1)=some st∧jv st (f 3) (f 2)=some ln∧lX (f 5)=some ex∧lX (f 6)=some xt:=by
 rw[Af,Af];exact⟨fun h=>⟨h.cM,h.ow,h.hex,h.lG⟩,fun⟨a,b,c,d⟩=>⟨a,b,c,d⟩⟩
open Go.RowKit
def qJ (d:iT):List UInt8:=de (wY (val d.f 0) d.st d.ln (d.rl.map fun F=>Ζ (bO F 9) [59]) d.ex d.xt (eO d.f) (kindOf d.f - 1))
def oI (s:List UInt8):Value:=match cG s with
 | .error x=> .tuple #[ε ⟨#[]⟩, .int .i64 x]
 | .ok d=> .tuple #[ε ⟨(qJ d).toArray⟩, .int .i64 0]
theorem xc {s:List UInt8}{f:Nat→Option (List UInt8)}{st ln:Int}{ex xt:List Int}(hf:bj s=some f)(h1:ea (val f 1)=some st)(h2:jv st (f 3) (f 2)=some ln)(h3:lX (f 5)=some ex)(h4:lX (f 6)=some xt):
 cG s=match Ca (f 4)with|none=> .error 3|some rl=> .ok ⟨f,st,ln,ex,xt,rl⟩:=by
 unfold cG;rw[hf];simp only[h1,h2,h3,h4];cases Ca (f 4)<;>rfl
theorem Vp {s:List UInt8}{f:Nat→Option (List UInt8)}(hf:bj s=some f)(h:¬∃st ln ex xt,kJ (sw f) st ln ex xt):cG s= .error 1:=by
 unfold cG;rw[hf];simp only[];cases h1:ea (val f 1)with
 |none=>rfl
 |some st=>
  simp only[];cases h2:jv st (f 3) (f 2)with
  |none=>rfl
  |some ln=>
   simp only[];cases h3:lX (f 5)with
   |none=>rfl
   |some ex=>
    simp only[];cases h4:lX (f 6)with
    |none=>rfl
    |some xt=>exact absurd ⟨st,ln,ex,xt,uJ.2 ⟨h1,h2,h3,h4⟩⟩ h
def Vq (d:iT)(E:Ending)(w':ι):Prop:=
 ∃aG aI,dn w' aG d.ex∧dn w' aI d.xt∧((d.rl=none∧E= δ (zh (bH (val d.f 0)) d.st d.ln false aU aG aI (eO d.f) (kindOf d.f - 1)))∨
  ∃(F:Nat→Option (List UInt8)) (r:au) (m md wk pl:Value),d.rl=some F∧cN w' m r.ms∧cN w' md r.mds∧iB w' wk r.wks∧cN w' pl r.pls∧E= δ (zh (bH (val d.f 0)) d.st d.ln true (bW r.fq r.iv r.ct r.un m md wk pl r.ws (gw F)) aG aI (eO d.f) (kindOf d.f - 1)))
theorem uK {s:List UInt8}{w w':ι}{E:Ending}(h:Kx s w E w'):((∃x,cG s= .error x∧E= .panicked (bN x))∨∃d,cG s= .ok d∧Vq d E w')∧Below w.heap.size w w':=by
 obtain⟨h,hb⟩:=h;refine⟨?_,hb⟩;rcases h with⟨F,tr,k,st,ln,ex,xt,hH,hT,hE⟩|⟨hn,rfl⟩|⟨⟨F,tr,k,hH,hn⟩,rfl⟩|⟨⟨F,tr,k,st,ln,ex,xt,v,hH,hT,hv,hn⟩,rfl⟩
 ·obtain⟨f,hf,rfl,rfl,rfl⟩:=(nu s F tr k).1 hH;obtain⟨h1,h2,h3,h4⟩:=uJ.1 hT;have hr:=xc hf h1 h2 h3 h4;obtain⟨aG,aI,i1,i2,hE⟩:=hE;right;rcases hE with⟨h0,rfl⟩|⟨v,F',r,m,md,wk,pl,hv,hR,q1,q2,q3,q4,rfl⟩
  ·have e4:f 4=none:=h0;rw[e4]at hr;exact⟨⟨f,st,ln,ex,xt,none⟩,hr,aG,aI,i1,i2, .inl ⟨rfl,rfl⟩⟩
  ·have e4:f 4=some v:=hv;have e5:Ca (f 4)=some (some F'):=by rw[e4];show(cV v).map some=_;rw[(pD v F').2 ⟨r,hR⟩];rfl
   rw[e5]at hr;exact⟨⟨f,st,ln,ex,xt,some F'⟩,hr,aG,aI,i1,i2, .inr ⟨F',r,m,md,wk,pl,rfl,q1,q2,q3,q4,rfl⟩⟩
 ·left;refine⟨2,?_,rfl⟩;unfold cG;cases hf:bj s with
  |none=>rfl
  |some f=>exact absurd ⟨sw f,_,_,(nu s (sw f) _ _).2 ⟨f,hf,rfl,rfl,rfl⟩⟩ hn
 ·left;obtain⟨f,hf,rfl,_,_⟩:=(nu s F tr k).1 hH;exact⟨1,Vp hf hn,rfl⟩
 ·left;obtain⟨f,hf,rfl,_,_⟩:=(nu s F tr k).1 hH;obtain⟨h1,h2,h3,h4⟩:=uJ.1 hT;have hr:=xc hf h1 h2 h3 h4;have e4:f 4=some v:=hv;have e5:Ca (f 4)=none:=by
   rw[e4];show(cV v).map some=none;cases hq:cV v with
   |none=>rfl
   |some F'=>exact absurd ⟨F',(pD v F').1 hq⟩ hn
  rw[e5]at hr;exact⟨3,hr,rfl⟩
theorem RW (n:Int):∀(zs:List Int) (d:Bool),(eE n d zs).length≤zs.length+1
 |[],d=>by cases d<;>simp[eE]
 |a::r,d=>by
  have h1:=RW n r (d||decide (n≤a));rw[eE,μ,μ];by_cases hd:d=false∧n≤a
  ·rw[if_pos hd];have h2:∀zs:List Int,(eE n true zs).length≤zs.length:=fun zs=>by
    induction zs with
    |nil=>simp[eE]
    |cons b t ih=>
     rw[eE,if_neg (by simp),μ,μ,Η];split<;>simp<;>omega
   have h3:=h2 r;rw[show(d||decide (n≤a))=true from by simp[hd.2]];split<;>simp<;>omega
  ·rw[if_neg hd];split<;>simp<;>omega
theorem OA:∀(P:List ByteArray) (acc out:List Int),nQ P acc=some out→out.length≤acc.length+P.length
 |[],acc,out,h=>by rw[nQ]at h;cases h;simp
 |l::r,acc,out,h=>by
  rw[nQ]at h;split at h
  ·have h1:=OA r _ out h;have h2:=RW (eI l) acc false;simp;omega
  ·cases h
theorem sh {o:Option (List UInt8)}{zs:List Int}(h:lX o=some zs):zs.length≤20:=by
 cases o with
 |none=>cases h;simp
 |some v=>
  unfold lX wW at h;simp only[]at h;split at h
  ·have:=OA _ _ _ h;simp at this;omega
  ·cases h
theorem EM {st ln:Int}{e l:Option (List UInt8)}(h:jv st e l=some ln):1≤ln∧ln≤2678400:=by
 unfold jv at h;split at h
 ·cases h
 ·split at h
  ·rename_i hb;cases h;exact hb
  ·cases h
theorem BJ {s:List UInt8}{d:iT}(h:cG s= .ok d):bj s=some d.f∧ea (val d.f 1)=some d.st∧jv d.st (d.f 3) (d.f 2)=some d.ln∧lX (d.f 5)=some d.ex∧lX (d.f 6)=some d.xt∧Ca (d.f 4)=some d.rl:=by
 unfold cG at h;cases hf:bj s with
 |none=>rw[hf]at h;cases h
 |some f=>
  rw[hf]at h;simp only[]at h;cases h1:ea (val f 1)with
  |none=>rw[h1]at h;cases h
  |some st=>
   rw[h1]at h;simp only[]at h;cases h2:jv st (f 3) (f 2)with
   |none=>rw[h2]at h;cases h
   |some ln=>
    rw[h2]at h;simp only[]at h;cases h3:lX (f 5)with
    |none=>rw[h3]at h;cases h
    |some ex=>
     rw[h3]at h;simp only[]at h;cases h4:lX (f 6)with
     |none=>rw[h4]at h;cases h
     |some xt=>
      rw[h4]at h;simp only[]at h;cases h5:Ca (f 4)with
      |none=>rw[h5]at h;cases h
      |some rl=>
       rw[h5]at h;cases h;exact⟨rfl,h1,h2,h3,h4,h5⟩
theorem OB {f:Nat→Option (List UInt8)}(h:jC f=true):0≤kindOf f - 1∧kindOf f - 1≤2:=by
 unfold jC at h;unfold kindOf;cases h8:has f 8 with
 |false=>simp
 |true=>
  rw[h8]at h;simp only[ζ,Bool.not_eq_true',Bool.true_and,decide_eq_false_iff_not]at h;have h2:=h.2;rw[if_pos rfl];unfold jh at h2⊢
  repeat' split at h2
  all_goals(repeat' split)
  all_goals first|omega|simp_all
theorem Ih {s:List UInt8}{f:Nat→Option (List UInt8)}(h:bj s=some f):wV s=true∧bZ bJ 58 (dz (lW s)) (fun _=>none)=some f∧must f=true∧jC f=true:=by
 unfold bj at h;split at h
 ·rename_i hf;cases h6:bZ bJ 58 (dz (lW s)) (fun _=>none)with
  |none=>rw[h6]at h;cases h
  |some f'=>
   rw[h6]at h;simp only[]at h;split at h
   ·rename_i hc;cases h;rw[ζ]at hc;exact⟨hf,rfl,hc.1,hc.2⟩
   ·cases h
 ·cases h
open Go.RowKit Go.Sort
theorem EN {F:Nat→Option (List UInt8)}{B:Nat}(h:∀k,((F k).getD []).length≤B):∀k,∀t∈bO F k,t.length≤B+21
 |0,t,ht=>by simp[bO]at ht
 |k+1,t,ht=>by
  rw[bO,κ]at ht;rcases ht with ht|ht
  ·exact EN h k t ht
  ·unfold qK at ht;have h1:=h k;have h2:=mR k;cases hf:F k with
   |none=>rw[hf]at ht;simp at ht
   |some v=>
    rw[hf]at ht h1;simp only[]at ht;split at ht
    ·rw[τ]at ht;subst ht;rw[μ,List.length_cons];simp at h1;omega
    ·simp at ht
structure Small (d:iT):Prop where
 u:(val d.f 0).length≤2000
 ex:d.ex.length≤20
 xt:d.xt.length≤20
 l1:1≤d.ln
 l2:d.ln≤2678400
 k1:0≤kindOf d.f - 1
 k2:kindOf d.f - 1≤2
 tx:∀F,d.rl=some F→(Ζ (bO F 9) [59]).length≤20000
theorem P9 {s:List UInt8}{d:iT}(h:cG s= .ok d):Small d:=by
 obtain⟨h0,h1,h2,h3,h4,h5⟩:=BJ h;obtain⟨g1,g2,g3,g4⟩:=Ih h0;obtain⟨k1,k2⟩:=OB g4;obtain⟨q1,q2⟩:=EM h2;have hp:dw s (sw d.f):=((nu s (sw d.f) _ _).2 ⟨d.f,h0,rfl,rfl,rfl⟩).1;have hs:∀k,((sw d.f k).getD []).length≤2000:=hp.small;refine⟨hs 0,sh h3,sh h4,q1,q2,k1,k2,fun F hF=>?_⟩;rw[hF]at h5;cases h6:d.f 4 with
 |none=>rw[h6]at h5;cases h5
 |some v=>
  rw[h6]at h5;have hv:cV v=some F:=by
   change (cV v).map some=some (some F)at h5;cases hq:cV v with
   |none=>rw[hq]at h5;cases h5
   |some F'=>rw[hq]at h5;cases h5;rfl
  have OC:v.length≤2000:=by
   have:=hs 4;rw[show sw d.f 4=d.f 4 from rfl,h6]at this;simpa using this
  obtain⟨r,hR⟩:=(pD v F).1 hv;have Ag:bZ aC 61 (bX 59 v) (fun _=>none)=some F:=hR.1;have hb:∀k,((F k).getD []).length≤2000:=my (fun p hp=>Ι (ku 59 v p hp) OC) (fun k=>by simp) Ag;have h7:=gW [59] 2021 (bO F 9) (EN hb 9);have h8:=yu F 9;have h9:(bO F 9).length * (2021+[(59:UInt8)].length)≤9 * 2022:=Nat.mul_le_mul h8 (by simp);omega
theorem RX (s:List UInt8)(x:Int)(p:Addr)(W:ι)(hm:ML W)(hs:s.length≤1048576)(hc:W.cell? p=some (ε ⟨s.toArray⟩))(hr:cG s= .error x):
 Β prog 42 #[.pointer (some p)] W fun E w'=>E= .panicked (bN x)∧Below W.heap.size W w':=by
 have C:Hid (Β prog 43 #[ε ⟨s.toArray⟩] W fun E w'=>E= .panicked (bN x)∧Below W.heap.size W w'):=ad ((mz s W hm hs).mono fun E w' h=>by
  obtain⟨h1,h2⟩:=uK h;refine⟨?_,h2⟩;rcases h1 with⟨y,h3,h4⟩|⟨d,h3,_⟩
  ·rw[hr]at h3;cases h3;exact h4
  ·rw[hr]at h3;cases h3)
 clear hr hm;go_enter func42,ntmps42;go_wp2_with (go_at_call 43;refine(C.out).mono ?_;rintro e w1 ⟨rfl,hb⟩);exact⟨rfl,rfl,hb⟩
theorem Qa (s:List UInt8)(d:iT)(p:Addr)(W:ι)(hm:ML W)(ht:iU W)(hs:s.length≤1048576)(hc:W.cell? p=some (ε ⟨s.toArray⟩))(hr:cG s= .ok d):
 Β prog 42 #[.pointer (some p)] W fun E w'=>E= δ (ε ⟨(qJ d).toArray⟩)∧Below W.heap.size W w':=by
 have HS:=ad (P9 hr);have CX:Hid (Β prog 43 #[ε ⟨s.toArray⟩] W fun E w'=>Vq d E w'∧Below W.heap.size W w'):=ad ((mz s W hm hs).mono fun E w' h=>by
  obtain⟨h1,h2⟩:=uK h;refine⟨?_,h2⟩;rcases h1 with⟨y,h3,h4⟩|⟨d',h3,h4⟩
  ·rw[hr]at h3;cases h3
  ·rw[hr]at h3;cases h3;exact h4)
 have HT:=ad ht;clear hr hm ht;have key:Hid (∀E w1,Vq d E w1→Below W.heap.size W w1→∃v,E= δ v∧Β prog 44 #[v] w1 fun E w'=>E= δ (ε ⟨(qJ d).toArray⟩)∧Below w1.heap.size w1 w'):=ad fun E w1 h hb=>by
  obtain⟨aG,aI,i1,i2,h⟩:=h;have S:=HS.out;obtain⟨a5,c5,rfl⟩:=i1.form;obtain⟨a6,c6,rfl⟩:=i2.form;rcases h with⟨kA,rfl⟩|⟨F,r,m,md,wk,pl,kA,j1,j2,j3,j4,rfl⟩
  ·refine⟨_,rfl,?_⟩;have:=zn (val d.f 0) d.st d.ln false 0 0 0 0 none none none none a5 a6 0 0 0 0 0 0 0 0 c5 c6 0 [] d.ex d.xt (eO d.f) (kindOf d.f - 1) w1 (HT.out.on hb) i1 i2 S.u (by simp) S.ex S.xt S.l1 S.l2 S.k1 S.k2;unfold qJ;rw[kA];exact this
  ·refine⟨_,rfl,?_⟩;obtain⟨b1,rfl⟩:=j1.form;obtain⟨b2,rfl⟩:=j2.form;obtain⟨b3,rfl⟩:=j3.form;obtain⟨b4,rfl⟩:=j4.form;have:=zn (val d.f 0) d.st d.ln true r.fq r.iv r.ct r.un b1 b2 b3 b4 a5 a6 r.ms.length r.mds.length r.wks.length r.pls.length r.ms.length r.mds.length r.wks.length r.pls.length c5 c6 r.ws (Ζ (bO F 9) [59]) d.ex d.xt (eO d.f) (kindOf d.f - 1) w1 (HT.out.on hb) i1 i2 S.u (S.tx F kA) S.ex S.xt S.l1 S.l2 S.k1 S.k2;unfold qJ;rw[kA];exact this
 have C:Hid (Β prog 43 #[ε ⟨s.toArray⟩] W fun E w1=>∃v,E= δ v∧Hid (Β prog 44 #[v] w1 fun E w'=>E= δ (ε ⟨(qJ d).toArray⟩)∧Below w1.heap.size w1 w')∧Below W.heap.size W w1):=ad ((CX.out).mono fun E w1 ⟨h,hb⟩=>by
  obtain⟨v,h1,h2⟩:=key.out E w1 h hb;exact⟨v,h1,ad h2,hb⟩)
 clear CX key HS HT;go_enter func42,ntmps42;go_wp2_with (first
  |(go_at_call 43;refine(C.out).mono ?_;rintro e w1 ⟨v,rfl,CT,hb⟩)
  |(go_at_call 44;refine(CT.out).mono ?_;rintro e w2 ⟨rfl,az⟩))
 go_ret;exact⟨rfl,hb.trans (az.mono hb.size)⟩
theorem Ii (s:List UInt8)(w:ι)(hm:ML w)(ht:iU w)(hs:s.length≤1048576):
 Β prog 22 #[ε ⟨s.toArray⟩] w fun E w'=>E= δ (oI s)∧Below w.heap.size w w':=by
 have Cf:∀(fn:Fn) (first cap:Array Value) (w:ι),(Instr.makeFunc fn first cap).run prog w= .ok (.func fn first cap) w:=fun _ _ _ _=>rfl;have bz:∀W,Below (w.alloc (.cells #[ε ⟨s.toArray⟩] 9)).heap.size (w.alloc (.cells #[ε ⟨s.toArray⟩] 9)) W→Below w.heap.size w W:=fun W hb=>((Below.refl _ _).alloc (ρ _) _).trans (hb.mono (by simp));have dP:∀W,Below (w.alloc (.cells #[ε ⟨s.toArray⟩] 9)).heap.size (w.alloc (.cells #[ε ⟨s.toArray⟩] 9)) W→W.cell? ⟨w.heap.size,0,none⟩=some (ε ⟨s.toArray⟩):=fun W hb=>by
  rw[hb.cell (p:=⟨w.heap.size,0,none⟩) (by simp)];simp[go_sem]
 cases h:cG s with
 |error x=>
  have hv:oI s= .tuple #[ε ⟨#[]⟩, .int .i64 x]:=by unfold oI;rw[h]
  rw[hv];have C:=ad (Gh ⟨w.heap.size,0,none⟩ x (w.alloc (.cells #[ε ⟨s.toArray⟩] 9)) (fun W hb=>RX s x _ W (hm.on (bz W hb)) hs (dP W hb) h));clear dP bz hm ht hv h;go_enter func22,ntmps22;go_wp2_with (go_at_call 34;refine(C.out).mono ?_;rintro e w1 ⟨rfl,hb⟩);go_ret2;exact⟨rfl,((Below.refl _ _).alloc (ρ _) _).trans (hb.mono (by simp))⟩
 |ok d=>
  have hv:oI s= .tuple #[ε ⟨(qJ d).toArray⟩, .int .i64 0]:=by unfold oI;rw[h]
  rw[hv];have C:=ad (EO ⟨w.heap.size,0,none⟩ ⟨(qJ d).toArray⟩ (w.alloc (.cells #[ε ⟨s.toArray⟩] 9)) (fun W hb=>Qa s d _ W (hm.on (bz W hb)) (ht.on (bz W hb)) hs (dP W hb) h));clear dP bz hm ht hv h;go_enter func22,ntmps22;go_wp2_with (go_at_call 34;refine(C.out).mono ?_;rintro e w1 ⟨rfl,hb⟩);go_ret2;exact⟨rfl,((Below.refl _ _).alloc (ρ _) _).trans (hb.mono (by simp))⟩
structure aK (O:Nat→Prop)(W W':ι):Prop where
 os:W'.os=W.os
 tape:W'.tape=W.tape
 output:W'.output=W.output
 size:W.heap.size≤W'.heap.size
 block:∀k,k<W.heap.size→¬O k→W'.heap[k]?=W.heap[k]?
theorem aK.refl (O:Nat→Prop)(W:ι):aK O W W:=⟨rfl,rfl,rfl,ρ _,fun _ _ _=>rfl⟩
theorem aK.trans {O O':Nat→Prop}{A B C:ι}(h:aK O A B)(k:aK O' B C)(hO:∀i,O' i→O i∨A.heap.size≤i):aK O A C:=
 ⟨k.os.trans h.os,k.tape.trans h.tape,k.output.trans h.output,Ι h.size k.size,fun i hi hn=>(k.block i (Nat.lt_of_lt_of_le hi h.size) (fun ho=>(hO i ho).elim hn (by omega))).trans (h.block i hi hn)⟩
theorem aK.fY {O:Nat→Prop}{A B C:ι}(h:aK O A B)(k:aK O B C):aK O A C:=h.trans k (fun _ h=> .inl h)
theorem aK.bG {O:Nat→Prop}{W W':ι}(h:Below W.heap.size W W'):aK O W W':=⟨h.os,h.tape,h.output,h.size,fun k hk _=>h.block k hk⟩
theorem aK.below {O:Nat→Prop}{W W':ι}{B:Nat}(h:aK O W W')(hB:B≤W.heap.size)(hO:∀k,O k→B≤k):Below B W W':=
 ⟨h.os,h.tape,h.output,h.size,fun k hk=>h.block k (by omega) (fun ho=>by have:=hO k ho;omega)⟩
theorem aK.mono {O O':Nat→Prop}{W W':ι}(h:aK O W W')(hO:∀k,O k→O' k∨W.heap.size≤k):aK O' W W':=
 ⟨h.os,h.tape,h.output,h.size,fun k hk hn=>h.block k hk (fun ho=>(hO k ho).elim hn (by omega))⟩
theorem aK.setCell {O:Nat→Prop}{W W':ι}(h:aK O W W'){p:Addr}(hp:O p.block∨W.heap.size≤p.block)(v:Value):aK O W (W'.setCell p v):=
 ⟨h.os,h.tape,h.output,by simpa[World.setCell]using h.size,fun k hk hn=>(Below.heap_setCell _ _ _ _ (fun e=>by subst e;exact hp.elim hn (by omega))).trans (h.block k hk hn)⟩
theorem aK.alloc {O:Nat→Prop}{W W':ι}(h:aK O W W')(o:Obj):aK O W (W'.alloc o):=
 ⟨h.os,h.tape,h.output,by have:=h.size;simp;omega,fun k hk hn=>(Below.heap_alloc _ _ _ (by have:=h.size;omega)).trans (h.block k hk hn)⟩
theorem aK.drew {O:Nat→Prop}{W W':ι}(h:aK O W W'):aK O W W'.drew:=⟨h.os,h.tape,h.output,h.size,h.block⟩
theorem aK.put {O:Nat→Prop}{W W':ι}(h:aK O W W'){r:Nat}(hr:O r∨W.heap.size≤r)(o:Obj):aK O W (W'.putObj r o):=
 ⟨h.os,h.tape,h.output,by simpa using h.size,fun k hk hn=>(World.putObj_heap_other (fun e=>by subst e;exact hr.elim hn (by omega))).trans (h.block k hk hn)⟩
def xd (D:Nat→Prop)(J:ι→Prop)(W:ι):Prop:=∀W2:ι,(∀k,D k→W2.heap[k]?=W.heap[k]?)→J W2
theorem xd.out {D:Nat→Prop}{J:ι→Prop}{W:ι}(h:xd D J W):J W:=h W (fun _ _=>rfl)
theorem xd.on {D:Nat→Prop}{J:ι→Prop}{W W':ι}(h:xd D J W)(hk:∀k,D k→W'.heap[k]?=W.heap[k]?):xd D J W':=
 fun W2 h2=>h W2 (fun k hd=>(h2 k hd).trans (hk k hd))
theorem Qb {W W':ι}{k:Nat}(hk:k<W.heap.size)(e:W'.heap[k]?=W.heap[k]?):k<W'.heap.size:=by
 rw[Array.getElem?_eq_getElem hk]at e;exact(Array.getElem?_eq_some_iff.1 e).1
end Go.Proofs.YthpndgcaoeokeaaGreatDoor
