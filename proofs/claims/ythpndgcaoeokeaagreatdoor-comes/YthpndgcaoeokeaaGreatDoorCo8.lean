import Derived.Test.YthpndgcaoeokeaaGreatDoorCo7
import Derived.Lib.Split
set_option maxRecDepth 100000
set_option maxHeartbeats 8000000
open Go.IntKind renaming i64→Z
open Go.Value renaming int→V,slice→ζ,string→η,bool→ν,int→Γ
open Go.Ending renaming returned→δ,panicked→ε
open Go.Obj renaming cells→θ
open Nat renaming le_refl→ι,lt_of_lt_of_le→Δ,zero_add→Κ,zero_le→Λ
open Go.RowKit.Below renaming refl→κ
open Go renaming World→μ,Calls→τ,TypeId→φ,Ending→Ε
open Go.World renaming cell?_setCell_other→ξ,frozen?_setCell→π,cell?_setCell_same→ψ
open List renaming drop_eq_getElem_cons→ο,getElem?_eq_getElem→ρ,mem_cons→υ,replicate→χ,getD→ω,mem_of_getElem?→Α,getElem?_of_mem→Β,length_cons→Ζ,drop_length→Η,length_map→Θ,map_cons→Ι
namespace Go.Proofs.YthpndgcaoeokeaaGreatDoor
open Tryz
open Go.RowKit
theorem NZ (w:μ):
 τ prog 240 #[ζ none 0 0] w fun e w'=>e= δ (η ⟨#[]⟩)∧Below w.heap.size w w':=by
 go_enter func240,ntmps240;go_wp2;go_loopw [3,4] (fun o i wr=>o= η ⟨#[]⟩∧i= V Z 0∧wr=w) (fun _ _ _=>0)
 case atStart=>exact⟨rfl,rfl,rfl⟩
 case round=>
  obtain⟨rfl,rfl,rfl⟩:=hrel;go_wp2;go_ret;exact⟨rfl,κ _ _⟩
theorem Cm (v:Value)(zs:List Int)(w:μ)(h:cF w v zs):
 τ prog 240 #[v] w fun e w'=>e= δ (η ⟨(zz zs zs.length).toArray⟩)∧Below w.heap.size w w':=by
 obtain⟨hz,⟨rfl,rfl⟩|⟨g,off,cap,rfl,hg,hc⟩⟩:=h
 ·exact NZ w
 ·exact M9 g off cap zs w hz hg hc
def bJ:List (List UInt8):=[[85,73,68],[68,84,83,84,65,82,84],[68,85,82,65,84,73,79,78],[68,84,69,78,68],[82,82,85,76,69],[69,88,68,65,84,69],[82,68,65,84,69],[84,82,65,78,83,80],[83,84,65,84,85,83]]
def aC:List (List UInt8):=[[70,82,69,81],[73,78,84,69,82,86,65,76],[67,79,85,78,84],[85,78,84,73,76],[66,89,77,79,78,84,72],[66,89,77,79,78,84,72,68,65,89],[66,89,68,65,89],[66,89,83,69,84,80,79,83],[87,75,83,84]]
def bZ (ns:List (List UInt8))(c:UInt8):List (List UInt8)→(Nat→Option (List UInt8))→Option (Nat→Option (List UInt8))
 |[],f=>some f
 |l::r,f=>match jR ns c l with
  |none=>none
  |some (k,v)=>if(f k).isSome then none else bZ ns c r (fun j=>if j=k then some v else f j)
open Go.RowKit Go.Sort
def cE (w:μ)(b off:Nat)(ns:List (List UInt8)):Prop:=∀j,j<ns.length→w.cell? ⟨b,off+j,none⟩=some (η ⟨(ns.getD j []).toArray⟩)
def bH (l:List UInt8):ByteArray:=⟨l.toArray⟩
theorem PG {a b:List UInt8}:bH a=bH b↔a=b:=mU a b
theorem Nf (l:List UInt8):∀(ns:List (List UInt8)) (i:Nat),Lib.idxFromS (ns.map bH) (bH l) i=match idx ns l with|none=> -1|some k=>((i+k:Nat):Int)
 |[],i=>rfl
 |a::r,i=>by
  rw[Ι,Lib.idxFromS,idx];by_cases h:a=l
  ·rw[if_pos h,if_pos (PG.2 h)];rfl
  ·rw[if_neg h,if_neg (fun e=>h (PG.1 e)),Nf l r (i+1)];cases idx r l with
   |none=>rfl
   |some k=>show((i+1+k:Nat):Int)=((i+(k+1):Nat):Int);congr 1;omega
theorem aaW (ns:List (List UInt8))(l:List UInt8):Lib.idxOfS (ns.map bH) (bH l)=match idx ns l with|none=> -1|some k=>(k:Int):=by
 unfold Lib.idxOfS;rw[Nf];cases idx ns l with
 |none=>rfl
 |some k=>simp
theorem Xi (ns:List (List UInt8))(j:Nat)(h:j<ns.length):(ns.map bH).getD j ByteArray.empty=⟨(ns.getD j []).toArray⟩:=by
 simp[ω,h,bH]
def B5 (ns:List (List UInt8))(l:List UInt8)(x:Int):Ε:=match idx ns l with|none=> ε (bN x)|some k=> δ (V Z k)
theorem qk {ns:List (List UInt8)}{l:List UInt8}{x:Int}(h:idx ns l=none):B5 ns l x= ε (bN x):=by unfold B5;rw[h]
theorem nI {ns:List (List UInt8)}{l:List UInt8}{x:Int}{k:Nat}(h:idx ns l=some k):B5 ns l x= δ (V Z k):=by unfold B5;rw[h]
theorem ou (b off cap:Nat)(ns:List (List UInt8))(l:List UInt8)(x:Int)(w:μ)(hn:ns.length≤100)(hc:cE w b off ns):
 τ prog 133 #[η ⟨l.toArray⟩, ζ (some ⟨b,off,none⟩) ns.length cap, V Z x] w fun E w'=>E=B5 ns l x∧w=w':=by
 have k:=Tryz.slices_Index_string b off ns.length cap (ns.map bH) (bH l) w (by simp) (by omega) (fun j hj=>by rw[Θ]at hj;rw[Xi ns j hj];exact hc j hj);rw[List.take_of_length_le (by simp),aaW]at k;cases hi:idx ns l with
 |none=>
  rw[qk hi];rw[hi]at k;have K:=ad k;clear k hi hc hn;go_enter func133,ntmps133;go_wp2_with (first
   |(go_at_call 206;refine(K.out).mono ?_;rintro e w' ⟨rfl,rfl⟩)
   |(go_at_call_of 65 (ν false);refine(aM _ _).mono ?_;rintro e w' ⟨rfl,rfl⟩))
  exact⟨rfl,rfl,rfl⟩
 |some i=>
  rw[nI hi];rw[hi]at k;have K:=ad k;clear k hi hc hn;go_enter func133,ntmps133;go_wp2_with (first
   |(go_at_call 206;refine(K.out).mono ?_;rintro e w' ⟨rfl,rfl⟩)
   |(go_at_call_of 65 (ν true);refine(aF _ _).mono ?_;rintro e w' ⟨rfl,rfl⟩))
  go_ret;exact⟨rfl,rfl⟩
structure cQ (w:μ)(g:Nat)(f:Nat→Option (List UInt8)):Prop where
 lt:g<w.heap.size
 val:∀k,k<9→w.cell? ⟨g,k * 2,none⟩=some (η ⟨((f k).getD []).toArray⟩)
 there:∀k,k<9→w.cell? ⟨g,k * 2+1,none⟩=some (.bool (f k).isSome)
 fv:∀k,k<9→w.frozen? ⟨g,k * 2,none⟩=false
 ft:∀k,k<9→w.frozen? ⟨g,k * 2+1,none⟩=false
def mL (ns:List (List UInt8))(c:UInt8)(ps:List (List UInt8))(x:Int)(w:μ)(E:Ε)(w':μ):Prop:=
 (match bZ ns c ps (fun _=>none)with
 |none=>E= ε (bN x)
 |some F=>∃g,E= δ (ζ (some ⟨g,0,none⟩) 9 9)∧w.heap.size≤g∧cQ w' g F)∧Below w.heap.size w w'
def Ng:Array Value:=#[η ⟨#[]⟩, .bool false, η ⟨#[]⟩, .bool false, η ⟨#[]⟩, .bool false, η ⟨#[]⟩, .bool false, η ⟨#[]⟩, .bool false, η ⟨#[]⟩, .bool false, η ⟨#[]⟩, .bool false, η ⟨#[]⟩, .bool false, η ⟨#[]⟩, .bool false]
theorem ae9 (w:μ):(Instr.makeSlice 118 (V Z 9) (V Z 9)).run prog w= .ok (ζ (some ⟨w.heap.size,0,none⟩) 9 9) (w.alloc (θ Ng 122)):=by
 kernel_rfl
theorem aaX (w:μ):cQ (w.alloc (θ Ng 122)) w.heap.size (fun _=>none):=by
 refine⟨by simp,fun k hk=>?_,fun k hk=>?_,fun k hk=>by simp[go_sem],fun k hk=>by simp[go_sem]⟩
 ·have:k=0∨k=1∨k=2∨k=3∨k=4∨k=5∨k=6∨k=7∨k=8:=by omega
  rcases this with rfl|rfl|rfl|rfl|rfl|rfl|rfl|rfl|rfl<;>simp[go_sem,Ng]
 ·have:k=0∨k=1∨k=2∨k=3∨k=4∨k=5∨k=6∨k=7∨k=8:=by omega
  rcases this with rfl|rfl|rfl|rfl|rfl|rfl|rfl|rfl|rfl<;>simp[go_sem,Ng]
theorem jK {w w':μ}{b off:Nat}{ns:List (List UInt8)}(h:cE w b off ns)(hb:b<w.heap.size)(hx:Below w.heap.size w w'):cE w' b off ns:=fun j hj=>by
 rw[hx.cell (p:=⟨b,off+j,none⟩) hb];exact h j hj
theorem zP:∀{ns:List (List UInt8)} {n:List UInt8} {k:Nat},idx ns n=some k→k<ns.length
 |[],n,k,h=>by simp[idx]at h
 |a::r,n,k,h=>by
  rw[idx]at h;by_cases e:a=n
  ·rw[if_pos e]at h;cases h;simp
  ·rw[if_neg e]at h;obtain⟨j,hj,rfl⟩:=Option.map_eq_some_iff.1 h;have:=zP hj;simp;omega
theorem G3 (b off cap:Nat)(ns:List (List UInt8))(l:List UInt8)(x:Int)(w:μ)(hn:ns.length=9)(hc:cE w b off ns):
 τ prog 133 #[η ⟨l.toArray⟩, ζ (some ⟨b,off,none⟩) 9 cap, V Z x] w fun E w'=>E=B5 ns l x∧w=w':=by
 have:=ou b off cap ns l x w (by omega) hc;rw[hn]at this;exact this
theorem cQ.on {w w':μ}{g:Nat}{f:Nat→Option (List UInt8)}(h:cQ w g f)(hb:Below w.heap.size w w'):cQ w' g f:=
 ⟨Δ h.lt hb.size,fun k hk=>by rw[hb.cell (p:=⟨g,k * 2,none⟩) h.lt];exact h.val k hk,fun k hk=>by rw[hb.cell (p:=⟨g,k * 2+1,none⟩) h.lt];exact h.there k hk,
  fun k hk=>by rw[hb.frozen (p:=⟨g,k * 2,none⟩) h.lt];exact h.fv k hk,fun k hk=>by rw[hb.frozen (p:=⟨g,k * 2+1,none⟩) h.lt];exact h.ft k hk⟩
theorem xU {g i k:Nat}(h:i≠k):(⟨g,i,none⟩:Addr)≠⟨g,k,none⟩:=fun e=>h (congrArg Addr.off e)
theorem cQ.put {w:μ}{g j:Nat}{f:Nat→Option (List UInt8)}(h:cQ w g f)(hj:j<9)(v:List UInt8):
 cQ ((w.setCell ⟨g,j * 2,none⟩ (η ⟨v.toArray⟩)).setCell ⟨g,j * 2+1,none⟩ (.bool true)) g (fun i=>if i=j then some v else f i):=by
 refine⟨by rw[cW,cW];exact h.lt,fun k hk=>?_,fun k hk=>?_,fun k hk=>by rw[π,π];exact h.fv k hk,fun k hk=>by rw[π,π];exact h.ft k hk⟩
 ·rw[ξ _ _ _ _ (xU (by omega))];by_cases e:k=j
  ·subst e;rw[ψ _ _ _ (h.val k hk),if_pos rfl];rfl
  ·rw[ξ _ _ _ _ (xU (by omega)),if_neg e];exact h.val k hk
 ·by_cases e:k=j
  ·subst e;rw[ψ _ _ _ ((ξ _ _ _ _ (xU (by omega))).trans (h.there k hk)),if_pos rfl];rfl
  ·rw[ξ _ _ _ _ (xU (by omega)),ξ _ _ _ _ (xU (by omega)),if_neg e];exact h.there k hk
theorem Es (b off cap nb Nh Rg:Nat)(ns ps:List (List UInt8))(c:UInt8)(x:Int)(w:μ)(hn:ns.length=9)(hp:ps.length≤1048576)(hs:∀l∈ps,l.length≤1048576)
 (hb:b<w.heap.size)(OM:nb<w.heap.size)(hc:cE w b off ps)(Zp:cE w nb Nh ns):
 τ prog 129 #[ζ (some ⟨b,off,none⟩) ps.length cap, η ⟨#[c]⟩, ζ (some ⟨nb,Nh,none⟩) 9 Rg, V Z x] w (mL ns c ps x w):=by
 have HC:=ad hc;have HN:=ad Zp;have HS:=ad hs;have HL:=ad hn;clear hc Zp hs hn;have mk:=ae9;go_enter func129,ntmps129;go_wp2;have kC:cQ (w.alloc (θ Ng 122)) w.heap.size (fun _=>none):=aaX w;go_loopw [21] (fun i wr=>∃(k:Nat) (f:Nat→Option (List UInt8)),k≤ps.length∧i= V Z k∧cQ wr w.heap.size f∧Below w.heap.size w wr∧Hid (bZ ns c ps (fun _=>none)=bZ ns c (ps.drop k) f)) (fun i _=>ps.length - (intOf i).toNat)
 case atStart=>exact⟨0,_,Λ _,rfl,kC,(κ _ _).alloc (ι _) _,ad (by simp)⟩
 case round=>
  obtain⟨k,f,hk,rfl,hf,aX,HT⟩:=hrel;have hB:=aX.size;clear kC mk;by_cases ay:k<ps.length
  case neg=>
   have fB:k=ps.length:=by omega
   subst fB;have HE:Hid (bZ ns c ps (fun _=>none)=some f):=ad (by rw[HT.out,Η];rfl);clear HT;go_wp2;go_ret;unfold mL;rw[HE.out];exact⟨⟨_,rfl,ι _,hf⟩,aX⟩
  case pos=>
   obtain⟨l,hl⟩:∃l,ps[k]?=some l:=⟨_,ρ ay⟩;have cR:wr.cell? ⟨b,off+k,none⟩=some (η ⟨l.toArray⟩):=by
    rw[aX.cell (p:=⟨b,off+k,none⟩) hb,HC.out k ay];simp[ω,hl]
   have zY:l.length≤maxLen:=by have:=HS.out l (Α hl);unfold maxLen;omega
   have hd:ps.drop k=l::ps.drop (k+1):=by
    obtain⟨lR,he⟩:=List.getElem?_eq_some_iff.1 hl;rw[ο lR,he]
   have CC:=yZ l c wr zY;unfold qO at CC;cases qi:sp c l with
   |none=>
    have HE:Hid (bZ ns c ps (fun _=>none)=none):=ad (by rw[HT.out,hd,bZ];unfold jR;rw[qi]);rw[qi]at CC;have C:=ad CC;clear HT CC qi hd hl;go_wp2_with (first
     |(go_at_call 72;refine(C.out).mono ?_;rintro e w1 ⟨rfl,ai⟩)
     |(go_at_call_of 65 (ν false);refine(aM _ _).mono ?_;rintro e w' ⟨rfl,rfl⟩))
    refine⟨rfl,?_⟩;unfold mL;rw[HE.out];exact⟨rfl,aX.trans (ai.mono hB)⟩
   |some q=>
    obtain⟨n,v⟩:=q;rw[qi]at CC;have C:=ad CC;cases hi:idx ns n with
    |none=>
     have HE:Hid (bZ ns c ps (fun _=>none)=none):=ad (by rw[HT.out,hd,bZ];unfold jR;rw[qi];simp only[];rw[hi];rfl);have HX:=ad (qk (x:=x) hi);clear HT CC qi hd hl hi;go_wp2_with (first
      |(go_at_call 72;refine(C.out).mono ?_;rintro e w1 ⟨rfl,ai⟩)
      |(go_at_call_of 65 (ν true);refine(aF _ _).mono ?_;rintro e w' ⟨rfl,rfl⟩)
      |(go_at_call 133;refine(G3 nb Nh Rg ns n x _ HL.out (jK HN.out OM (aX.trans (ai.mono hB)))).mono ?_;rw[HX.out];rintro e w' ⟨rfl,rfl⟩))
     refine⟨rfl,?_⟩;unfold mL;rw[HE.out];exact⟨rfl,aX.trans (ai.mono hB)⟩
    |some j=>
     have hj:j<9:=by have:=zP hi;rw[HL.out]at this;exact this
     have HX:=ad (nI (x:=x) hi);cases zw:(f j).isSome
     case true=>
      have HE:Hid (bZ ns c ps (fun _=>none)=none):=ad (by rw[HT.out,hd,bZ];unfold jR;rw[qi];simp only[];rw[hi];simp only[Option.map_some];rw[if_pos zw]);clear HT CC qi hd hl hi;go_wp2_with (first
       |(go_at_call 72;refine(C.out).mono ?_;rintro e w1 ⟨rfl,ai⟩;have ct:=(hf.on ai).there j hj;rw[zw]at ct)
       |(go_at_call_of 65 (ν true);refine(aF _ _).mono ?_;rintro e w' ⟨rfl,rfl⟩)
       |(go_at_call_of 65 (ν false);refine(aM _ _).mono ?_;rintro e w' ⟨rfl,rfl⟩)
       |(go_at_call 133;refine(G3 nb Nh Rg ns n x _ HL.out (jK HN.out OM (aX.trans (ai.mono hB)))).mono ?_;rw[HX.out];rintro e w' ⟨rfl,rfl⟩))
      refine⟨rfl,?_⟩;unfold mL;rw[HE.out];exact⟨rfl,aX.trans (ai.mono hB)⟩
     case false=>
      have HE:Hid (bZ ns c ps (fun _=>none)=bZ ns c (ps.drop (k+1)) (fun i=>if i=j then some v else f i)):=ad (by rw[HT.out,hd,bZ];unfold jR;rw[qi];simp only[];rw[hi];simp only[Option.map_some];rw[if_neg (by rw[zw];exact Bool.false_ne_true)]);clear HT CC qi hd hl hi;go_wp2_with (first
       |(go_at_call 72;refine(C.out).mono ?_;rintro e w1 ⟨rfl,ai⟩;have zq:=hf.on ai;have ct:=zq.there j hj;rw[zw]at ct;have cv:=zq.val j hj;have fv:=zq.fv j hj;have ft:=zq.ft j hj)
       |(go_at_call_of 65 (ν true);refine(aF _ _).mono ?_;rintro e w' ⟨rfl,rfl⟩)
       |(go_at_call 133;refine(G3 nb Nh Rg ns n x _ HL.out (jK HN.out OM (aX.trans (ai.mono hB)))).mono ?_;rw[HX.out];rintro e w' ⟨rfl,rfl⟩))
      go_roundw
      case rel=>exact⟨k+1,_,by omega,by go_num,zq.put hj v,((aX.trans (ai.mono hB)).setCell (ι _) _).setCell (ι _) _,HE⟩
      case measure=>simp[intOf];omega
def aZ (f:Option (List UInt8)):Value:= .agg #[η ⟨(f.getD []).toArray⟩, .bool f.isSome]
theorem iE (w:μ)(ns:List (List UInt8))(t:φ):cE (w.alloc (θ (strs ns).toArray t)) w.heap.size 0 ns:=fun j hj=>by
 rw[Κ];simp[go_sem,strs,ω,hj]
def iD:List (List UInt8):=[[68,65,73,76,89],[87,69,69,75,76,89],[77,79,78,84,72,76,89],[89,69,65,82,76,89]]
theorem BZ (v:List UInt8)(b:Bool)(w:μ):
 τ prog 141 #[.agg #[η ⟨v.toArray⟩, .bool b]] w fun E w'=>E=B5 iD v 3∧Below w.heap.size w w':=by
 have bu:(w.alloc (θ #[η ⟨v.toArray⟩, .bool b] 122)).heap.size=w.heap.size+1:=by simp
 have C:=ad (ou (w.heap.size+1) 0 4 iD v 3 ((w.alloc (θ #[η ⟨v.toArray⟩, .bool b] 122)).alloc (θ (strs iD).toArray 9)) (by decide)
  (by have:=iE (w.alloc (θ #[η ⟨v.toArray⟩, .bool b] 122)) iD 9;rw[bu]at this;exact this))
 clear bu;cases hi:idx iD v with
 |none=>
  have HX:=ad (qk (x:=3) hi);rw[HX.out];clear hi;go_enter func141,ntmps141;go_wp2_with (go_at_call 133;refine(C.out).mono ?_;rw[HX.out];rintro e w' ⟨rfl,rfl⟩);exact⟨rfl,rfl,((κ _ _).alloc (ι _) _).alloc (by simp) _⟩
 |some k=>
  have HX:=ad (nI (x:=3) hi);rw[HX.out];clear hi;go_enter func141,ntmps141;go_wp2_with (go_at_call 133;refine(C.out).mono ?_;rw[HX.out];rintro e w' ⟨rfl,rfl⟩);go_ret;exact⟨rfl,((κ _ _).alloc (ι _) _).alloc (by simp) _⟩
theorem ot (v:List UInt8)(w:μ):
 τ prog 150 #[η ⟨v.toArray⟩] w fun E w'=>E=B5 dE v 3∧Below w.heap.size w w':=by
 have C:=ad fun W=>ou W.heap.size 0 7 dE v 3 (W.alloc (θ (strs dE).toArray 9)) (by decide) (iE W dE 9);cases hi:idx dE v with
 |none=>
  have HX:=ad (qk (x:=3) hi);rw[HX.out];clear hi;go_enter func150,ntmps150;go_wp2_with (go_at_call 133;refine(C.out _).mono ?_;rw[HX.out];rintro e w' ⟨rfl,rfl⟩);exact⟨rfl,rfl,(κ _ _).alloc (ι _) _⟩
 |some k=>
  have HX:=ad (nI (x:=3) hi);rw[HX.out];clear hi;go_enter func150,ntmps150;go_wp2_with (go_at_call 133;refine(C.out _).mono ?_;rw[HX.out];rintro e w' ⟨rfl,rfl⟩);go_ret;exact⟨rfl,(κ _ _).alloc (ι _) _⟩
def Km (f:Option (List UInt8)):Ε:=match f with|none=> δ (V Z 0)|some v=>El v 1 1000 3
theorem JG (f:Option (List UInt8))(w:μ)(hf:(f.getD []).length≤maxLen):
 τ prog 143 #[aZ f] w fun E w'=>E=Km f∧Below w.heap.size w w':=by
 cases f with
 |none=>
  unfold aZ Km;go_enter func143,ntmps143;go_wp2;go_ret;exact⟨rfl,(κ _ _).alloc (ι _) _⟩
 |some v=>
  have k:=fun W=>iQ v 1 1000 3 W hf;unfold aZ Km;cases hw:lP v 1 1000
  ·have HX:=ad (uz (x:=3) hw);simp only[];rw[HX.out];rw[HX.out]at k;have C:=ad k;clear k hw hf HX;go_enter func143,ntmps143;go_wp2_with (go_at_call 142;refine(C.out _).mono ?_;rintro e w' ⟨rfl,rfl⟩);exact⟨rfl,rfl,(κ _ _).alloc (ι _) _⟩
  ·have HX:=ad (xS (x:=3) hw);simp only[];rw[HX.out];rw[HX.out]at k;have C:=ad k;clear k hw hf HX;go_enter func143,ntmps143;go_wp2_with (go_at_call 142;refine(C.out _).mono ?_;rintro e w' ⟨rfl,rfl⟩);go_ret;exact⟨rfl,(κ _ _).alloc (ι _) _⟩
def Kn (f:Option (List UInt8)):Ε:=match f with
 |none=> δ (V Z 9223372036854775807)
 |some v=>if fs (bH v)=true then δ (V Z (eI (bH v)))else ε (bN 3)
theorem JH (f:Option (List UInt8))(w:μ):
 τ prog 144 #[aZ f] w fun E w'=>E=Kn f∧Below w.heap.size w w':=by
 cases f with
 |none=>
  unfold aZ Kn;go_enter func144,ntmps144;go_wp2;go_ret;exact⟨rfl,(κ _ _).alloc (ι _) _⟩
 |some v=>
  have k:=fun W=>wy (bH v) W;unfold aZ Kn;simp only[];by_cases ht:fs (bH v)=true
  ·rw[ju (eA.1 ht)]at k;rw[if_pos ht];have C:=ad k;clear k ht;go_enter func144,ntmps144;go_wp2_with (first
    |(go_at_call 19;refine(C.out _).mono ?_;rintro e w1 ⟨rfl,ai⟩)
    |(go_at_call_of 65 (ν true);refine(aF _ _).mono ?_;rintro e w' ⟨rfl,rfl⟩))
   go_ret;exact⟨rfl,((κ _ _).alloc (ι _) _).trans (ai.mono (by simp))⟩
  ·rw[iC (fun h=>ht (eA.2 h))]at k;rw[if_neg ht];have C:=ad k;clear k ht;go_enter func144,ntmps144;go_wp2_with (first
    |(go_at_call 19;refine(C.out _).mono ?_;rintro e w1 ⟨rfl,ai⟩)
    |(go_at_call_of 65 (ν false);refine(aM _ _).mono ?_;rintro e w' ⟨rfl,rfl⟩))
   exact⟨rfl,rfl,((κ _ _).alloc (ι _) _).trans (ai.mono (by simp))⟩
theorem JB (v:List UInt8)(w:μ)(hl:v.length≤maxLen):
 τ prog 145 #[η ⟨v.toArray⟩] w fun E w'=>E=El v 1 12 3∧Below w.heap.size w w':=by
 have k:=fun W=>iQ v 1 12 3 W hl;cases hw:lP v 1 12
 ·rw[uz hw]at k⊢;have C:=ad k;clear k hw hl;go_enter func145,ntmps145;go_wp2_with (go_at_call 142;refine(C.out _).mono ?_;rintro e w' ⟨rfl,rfl⟩);exact⟨rfl,rfl,κ _ _⟩
 ·rw[xS hw]at k⊢;have C:=ad k;clear k hw hl;go_enter func145,ntmps145;go_wp2_with (go_at_call 142;refine(C.out _).mono ?_;rintro e w' ⟨rfl,rfl⟩);go_ret;exact⟨rfl,κ _ _⟩
theorem Dn (v:List UInt8)(w:μ)(hl:v.length≤maxLen):
 τ prog 146 #[η ⟨v.toArray⟩] w fun E w'=>E=Em v 31 3∧Below w.heap.size w w':=by
 have k:=fun W=>oX v 31 3 W hl;by_cases hw:cT v 31=0
 ·rw[Br hw]at k⊢;have C:=ad k;clear k hw hl;go_enter func146,ntmps146;go_wp2_with (go_at_call 210;refine(C.out _).mono ?_;rintro e w' ⟨rfl,rfl⟩);exact⟨rfl,rfl,κ _ _⟩
 ·rw[xT hw]at k⊢;have C:=ad k;clear k hw hl;go_enter func146,ntmps146;go_wp2_with (go_at_call 210;refine(C.out _).mono ?_;rintro e w' ⟨rfl,rfl⟩);go_ret;exact⟨rfl,κ _ _⟩
theorem JD (v:List UInt8)(w:μ)(hl:v.length≤maxLen):
 τ prog 149 #[η ⟨v.toArray⟩] w fun E w'=>E=Em v 366 3∧Below w.heap.size w w':=by
 have k:=fun W=>oX v 366 3 W hl;by_cases hw:cT v 366=0
 ·rw[Br hw]at k⊢;have C:=ad k;clear k hw hl;go_enter func149,ntmps149;go_wp2_with (go_at_call 210;refine(C.out _).mono ?_;rintro e w' ⟨rfl,rfl⟩);exact⟨rfl,rfl,κ _ _⟩
 ·rw[xT hw]at k⊢;have C:=ad k;clear k hw hl;go_enter func149,ntmps149;go_wp2_with (go_at_call 210;refine(C.out _).mono ?_;rintro e w' ⟨rfl,rfl⟩);go_ret;exact⟨rfl,κ _ _⟩
theorem mx (s:ByteArray)(w:μ):
 τ prog 78 #[η s] w fun E w'=>E=rj s∧Below w.heap.size w w':=by
 have k:=fun W=>wy s W;by_cases ht:fs s=true
 ·rw[ju (eA.1 ht)]at k;rw[ve (eA.1 ht)];have C:=ad k;clear k ht;go_enter func78,ntmps78;go_wp2_with (first
   |(go_at_call 19;refine(C.out _).mono ?_;rintro e w1 ⟨rfl,ai⟩)
   |(go_at_call_of 65 (ν true);refine(aF _ _).mono ?_;rintro e w' ⟨rfl,rfl⟩))
  go_ret;exact⟨rfl,ai⟩
 ·rw[iC (fun h=>ht (eA.2 h))]at k;rw[jP (fun h=>ht (eA.2 h))];have C:=ad k;clear k ht;go_enter func78,ntmps78;go_wp2_with (first
   |(go_at_call 19;refine(C.out _).mono ?_;rintro e w1 ⟨rfl,ai⟩)
   |(go_at_call_of 65 (ν false);refine(aM _ _).mono ?_;rintro e w' ⟨rfl,rfl⟩))
  exact⟨rfl,rfl,ai⟩
open Go.Lib
def bX (c:UInt8):List UInt8→List (List UInt8)
 |[]=>[[]]
 |a::r=>if a=c then[]::bX c r else match bX c r with|[]=>[[a]]|h::t=>(a::h)::t
theorem Ae (c:UInt8)(l:List UInt8):bX c l≠[]:=by
 cases l with
 |nil=>simp[bX]
 |cons a r=>
  rw[bX];split
  ·simp
  ·split<;>simp
def glue (acc:List UInt8):List (List UInt8)→List (List UInt8)
 |[]=>[acc]
 |h::t=>(acc++h)::t
theorem sF {l:List (List UInt8)}(h:l≠[]):glue [] l=l:=by
 cases l with
 |nil=>exact absurd rfl h
 |cons a t=>rfl
theorem Xj {c a:UInt8}{acc r:List UInt8}(h:a=c):glue acc (bX c (a::r))=acc::bX c r:=by
 rw[bX,if_pos h];simp[glue]
theorem UK {c a:UInt8}{acc r:List UInt8}(h:¬a=c):glue acc (bX c (a::r))=glue (acc++[a]) (bX c r):=by
 rw[bX,if_neg h];cases hs:bX c r with
 |nil=>exact absurd hs (Ae c r)
 |cons x t=>simp[glue]
theorem PH (s:ByteArray)(c:UInt8):∀k,k≤s.size→(jl s c.toNat k).2.map (·.data.toList)++glue (cut s (jl s c.toNat k).1 (k - (jl s c.toNat k).1)) (bX c (s.data.toList.drop k))=bX c s.data.toList
 |0,_=>by simp[jl,cut,sF (Ae c _)]
 |k+1,hk=>by
  have ih:=PH s c k (by omega);have hf:=(MZ s c.toNat k).1;rw[drop_cons s k (by omega)]at ih;by_cases h:s[k]'(by omega)=c
  ·have h':fQ s k=(c.toNat:Int):=by rw[←bb s k (by omega),h]
   rw[Xj h]at ih;rw[xR h',←ih];simp only[Nat.sub_self,List.map_append,Ι,List.map_nil,bP,List.append_assoc,List.singleton_append];rw[show cut s (k+1) 0=[]from by simp[cut],sF (Ae c _)]
  ·have h':¬fQ s k=(c.toNat:Int):=fun e=>by
    rw[←bb s k (by omega)]at e;exact h (UInt8.toNat_inj.1 (by omega))
   rw[UK h]at ih;rw[uy h',←ih,show k+1 - (jl s c.toNat k).1=(k - (jl s c.toNat k).1)+1 from by omega,px s _ _ (by omega)];have:s[(jl s c.toNat k).1+(k - (jl s c.toNat k).1)]'(by omega)=s[k]'(by omega):=by congr 1;omega
   rw[this]
theorem EI (s:ByteArray)(c:UInt8):(cI s c.toNat).map (·.data.toList)=bX c s.data.toList:=by
 have h:=PH s c s.size (ι _);rw[BX]at h;rw[←h];unfold cI;simp[bX,glue,cut]
theorem Ni {c:UInt8}:∀{l:List UInt8},c∉l→bX c l=[l]
 |[],_=>rfl
 |a::r,h=>by
  rw[υ]at h;rw[bX,if_neg (fun e=>h (.inl e.symm)),Ni (fun m=>h (.inr m))]
theorem UL {c:UInt8}:∀{x y:List UInt8},c∉x→bX c (x++c::y)=x::bX c y
 |[],y,_=>by rw[List.nil_append,bX,if_pos rfl]
 |a::r,y,h=>by
  rw[υ]at h;rw[List.cons_append,bX,if_neg (fun e=>h (.inl e.symm)),UL (fun m=>h (.inr m))]
theorem FO (c:UInt8):∀(n:Nat) (l:List UInt8),l.length≤n→splitK [c] 0 (count l [c]) l=bX c l
 |n,l,hn=>by
  have Ex:=indexByte_ge l c;by_cases hm:indexByte l c=-1
  ·have h1:index l [c]=-1:=(index_one l c).trans hm;rw[count_miss h1,Ni]
   ·rfl
   ·intro m;obtain⟨k,hk⟩:=Β m;exact indexByte_none hm k hk
  ·obtain⟨o,ho⟩:∃o:Nat,indexByte l c=o:=⟨(indexByte l c).toNat,by omega⟩;have h1:index l [c]=o:=(index_one l c).trans ho;obtain⟨g1,g2⟩:=indexByte_some ho;have ay:o<l.length:=(List.getElem?_eq_some_iff.1 g1).1;have e:l=l.take o++c::l.drop (o+1):=by
    conv=>lhs;rw[←List.take_append_drop o l]
    rw[ο ay];rw[ρ ay]at g1;rw[Option.some.inj g1]
   have Sk:c∉l.take o:=by
    intro m;obtain⟨k,hk⟩:=Β m;rw[List.getElem?_take]at hk;by_cases q:k<o
    ·rw[if_pos q]at hk;exact g2 k q hk
    ·rw[if_neg q]at hk;cases hk
   have qS:¬(index l [c]==-1)=true:=fun e=>by have:=beq_iff_eq.1 e;omega
   have et:(index l [c]).toNat=o:=by omega
   have hr:bX c l=l.take o::bX c (l.drop (o+1)):=by
    conv=>lhs;rw[e]
    exact UL Sk
   rw[count_hit (by simp) h1,Nat.add_comm,splitK,if_neg qS,et,hr];cases n with
   |zero=>omega
   |succ n=>
    have:=FO c n (l.drop (o+1)) (by rw[List.length_drop];omega);simpa using this
def ML (w:μ):Prop:=0<w.heap.size∧∃m:Int,w.cell? ⟨0,0,none⟩=some (V Z m)
theorem ML.on {w w':μ}(h:ML w)(hb:Below w.heap.size w w'):ML w':=by
 obtain⟨h1,m,h2⟩:=h;exact⟨Δ h1 hb.size,m,by rw[hb.cell (p:=⟨0,0,none⟩) h1];exact h2⟩
theorem OJ (s:ByteArray):(⟨s.data.toList.toArray⟩:ByteArray)=s:=by simp
theorem FP (l:List UInt8)(c:UInt8):(Lib.splitB ⟨#[c]⟩ 0 (Lib.countB ⟨l.toArray⟩ ⟨#[c]⟩) ⟨l.toArray⟩).map Value.string=strs (bX c l):=by
 have h1:=Lib.splitB_data ⟨#[c]⟩ 0 (Lib.countB ⟨l.toArray⟩ ⟨#[c]⟩) ⟨l.toArray⟩;have h2:Lib.splitK [c] 0 (Lib.count l [c]) l=bX c l:=FO c l.length l (ι _);have h3:(Lib.splitB ⟨#[c]⟩ 0 (Lib.countB ⟨l.toArray⟩ ⟨#[c]⟩) ⟨l.toArray⟩).map (·.data.toList)=bX c l:=h1.trans h2;rw[←h3];unfold strs;rw[List.map_map];apply List.map_congr_left;intro a _;simp
theorem N1 (l:List UInt8)(c:UInt8):Lib.countB ⟨l.toArray⟩ ⟨#[c]⟩+1=(bX c l).length:=by
 have h1:=Lib.splitB_all ⟨#[c]⟩ (ι 1) 0 _ ⟨l.toArray⟩ rfl;have h2:=congrArg List.length (FP l c);rw[Θ,iF]at h2;omega
theorem sB (l:List UInt8)(c:UInt8)(w:μ)(hm:ML w)(hl:l.length≤1048576):
 τ prog 139 #[η ⟨l.toArray⟩, η ⟨#[c]⟩] w fun e w'=>e= δ (ζ (some ⟨w.heap.size,0,none⟩) (bX c l).length (bX c l).length)∧w'=w.alloc (θ (strs (bX c l)).toArray 9):=by
 obtain⟨_,m,hm⟩:=hm;have k:=Tryz.strings_Split ⟨l.toArray⟩ ⟨#[c]⟩ m w (by show l.length<4294967281;omega) hm (ι 1);rw[FP,N1]at k;exact k
theorem Ro (l:List UInt8)(c:UInt8):(bX c l).length≤l.length+1:=by
 induction l with
 |nil=>simp[bX]
 |cons a r ih=>
  rw[bX];split
  ·simp;omega
  ·cases hs:bX c r with
   |nil=>simp
   |cons x t=>rw[hs]at ih;simp at ih⊢;omega
def lg (v:List UInt8):Option (Int×Int):=match idx dE (v.drop (v.length - 2))with
 |none=>none
 |some k=>if v.length≤2 then some (0,k)else if cT (v.take (v.length - 2)) 53=0 then none else some (cT (v.take (v.length - 2)) 53,k)
def ze (v:List UInt8):Ε:=match lg v with
 |none=> ε (bN 3)
 |some q=> δ (.agg #[V Z q.1, V Z q.2])
theorem Bs {w w1:μ}{x y:Value}{t:φ}(hb:Below (w.alloc (θ #[x,y] t)).heap.size (w.alloc (θ #[x,y] t)) w1):
 w1.cell? ⟨w.heap.size,0,none⟩=some x∧w1.cell? ⟨w.heap.size,1,none⟩=some y∧w1.frozen? ⟨w.heap.size,0,none⟩=false∧w1.frozen? ⟨w.heap.size,1,none⟩=false∧w.heap.size<w1.heap.size:=by
 have hs:=hb.size;simp at hs;exact⟨by rw[hb.cell (p:=⟨w.heap.size,0,none⟩) (by simp)];simp[go_sem],by rw[hb.cell (p:=⟨w.heap.size,1,none⟩) (by simp)];simp[go_sem],
  by rw[hb.frozen (p:=⟨w.heap.size,0,none⟩) (by simp)];simp[go_sem],by rw[hb.frozen (p:=⟨w.heap.size,1,none⟩) (by simp)];simp[go_sem],by omega⟩
theorem En (v:List UInt8)(w:μ)(hl:v.length≤1048576):
 τ prog 148 #[η ⟨v.toArray⟩] w fun E w'=>E=ze v∧Below w.heap.size w w':=by
 by_cases h2:v.length≤2
 ·have hd:v.drop (v.length - 2)=v:=by rw[Nat.sub_eq_zero_of_le h2];rfl
  have k:=fun W=>ot v W;have hx:(⟨v.toArray⟩:ByteArray).extract 0 v.length=⟨v.toArray⟩:=by have:=ux v 0;simpa using this
  have Fi:max ((v.length:Int) - 2) 0=0:=by omega
  cases hi:idx dE v with
  |none=>
   rw[show ze v= ε (bN 3)from by unfold ze lg;rw[hd,hi]];rw[qk hi]at k;have C:=ad k;clear k hi hd h2;go_enter func148,ntmps148;go_wp2_with (go_at_call 150;refine(C.out _).mono ?_;rintro e w1 ⟨rfl,ai⟩);exact⟨rfl,rfl,((κ _ _).alloc (ι _) _).trans (ai.mono (by simp))⟩
  |some j=>
   rw[show ze v= δ (.agg #[V Z 0, V Z j])from by unfold ze lg;rw[hd,hi];simp only[];rw[if_pos h2]];rw[nI hi]at k;have C:=ad k;clear k hi hd h2;go_enter func148,ntmps148;go_wp2_with (go_at_call 150;refine(C.out _).mono ?_;rintro e w1 ⟨rfl,ai⟩;obtain⟨c0,c1,f0,f1,bu⟩:=Bs ai);have ah:Below w.heap.size w w1:=((κ _ _).alloc (ι _) _).trans (ai.mono (by simp));exact bodyPost_ret (v:= .agg #[V Z 0, V Z j]) (by simp[results,results148,go_sem,c0,c1,bu]) rfl ⟨rfl,((ah.setCell (ι _) _).setCell (ι _) _).alloc (by rw[cW,cW];omega) _⟩
 ·obtain⟨n,hn⟩:∃n,n=v.length - 2:=⟨_,rfl⟩;have Fi:max ((v.length:Int) - 2) 0=(n:Int):=by omega
  have hx:(⟨v.toArray⟩:ByteArray).extract n v.length=⟨(v.drop n).toArray⟩:=ux v n;have fZ:(⟨v.toArray⟩:ByteArray).extract 0 n=⟨(v.take n).toArray⟩:=Bp v n;have k:=fun W=>ot (v.drop n) W;have q:=fun W=>oX (v.take n) 53 3 W (by rw[List.length_take];unfold maxLen;omega);have hnl:(n:Int)≤v.length:=by omega
  have alQ:(0:Int)<n:=by omega
  cases hi:idx dE (v.drop n)with
  |none=>
   rw[show ze v= ε (bN 3)from by unfold ze lg;rw[←hn,hi]];rw[qk hi]at k;have C:=ad k;clear k hi q h2 hn;go_enter func148,ntmps148;go_wp2_with (go_at_call 150;refine(C.out _).mono ?_;rintro e w1 ⟨rfl,ai⟩);exact⟨rfl,rfl,((κ _ _).alloc (ι _) _).trans (ai.mono (by simp))⟩
  |some j=>
   rw[nI hi]at k;have C:=ad k;by_cases hz:cT (v.take n) 53=0
   ·rw[show ze v= ε (bN 3)from by unfold ze lg;rw[←hn,hi];simp only[];rw[if_neg h2,if_pos hz]];rw[Br hz]at q;have D:=ad q;clear k hi q h2 hn hz;go_enter func148,ntmps148;go_wp2_with (first
     |(go_at_call 150;refine(C.out _).mono ?_;rintro e w1 ⟨rfl,ai⟩;obtain⟨c0,c1,f0,f1,bu⟩:=Bs ai)
     |(go_at_call 210;refine(D.out _).mono ?_;rintro e w' ⟨rfl,rfl⟩))
    have ah:Below w.heap.size w w1:=((κ _ _).alloc (ι _) _).trans (ai.mono (by simp));exact⟨rfl,rfl,ah.alloc (by omega) _⟩
   ·rw[show ze v= δ (.agg #[V Z (cT (v.take n) 53), V Z j])from by unfold ze lg;rw[←hn,hi];simp only[];rw[if_neg h2,if_neg hz]];rw[xT hz]at q;have D:=ad q;clear k hi q h2 hn hz;go_enter func148,ntmps148;go_wp2_with (first
     |(go_at_call 150;refine(C.out _).mono ?_;rintro e w1 ⟨rfl,ai⟩;obtain⟨c0,c1,f0,f1,bu⟩:=Bs ai)
     |(go_at_call 210;refine(D.out _).mono ?_;rintro e w' ⟨rfl,rfl⟩))
    have ah:Below w.heap.size w w1:=((κ _ _).alloc (ι _) _).trans (ai.mono (by simp));exact bodyPost_ret (v:= .agg #[V Z (cT (v.take n) 53), V Z j]) (by simp[results,results148,go_sem,c0,c1,bu]) rfl ⟨rfl,((ah.setCell (ι _) _).setCell (ι _) _).alloc (by rw[cW,cW];omega) _⟩
def fc {α:Type}(rd:List UInt8→Option α):List (List UInt8)→Option (List α)
 |[]=>some []
 |l::r=>match rd l with|none=>none|some z=>(fc rd r).map (z::·)
def dJ {α:Type}(rd:List UInt8→Option α)(f:Option (List UInt8)):Option (List α):=match f with
 |none=>some []
 |some v=>if(bX 44 v).length≤20 then fc rd (bX 44 v)else none
def af (w:μ)(g:Nat)(cs:List Value)(t:φ):Prop:=w.heap[g]?=some (θ cs.toArray t)
theorem Bx {α:Type}{rd:List UInt8→Option α}:∀{ps:List (List UInt8)} {zs:List α},fc rd ps=some zs→zs.length=ps.length
 |[],zs,h=>by cases h;rfl
 |l::r,zs,h=>by
  rw[fc]at h;cases hl:rd l with
  |none=>rw[hl]at h;cases h
  |some z=>
   rw[hl]at h;obtain⟨y,hy,rfl⟩:=Option.map_eq_some_iff.1 h;rw[Ζ,Ζ,Bx hy]
theorem af.cell {w:μ}{g k:Nat}{cs:List Value}{t:φ}{y:Value}(h:af w g cs t)(hk:cs[k]?=some y):w.cell? ⟨g,k,none⟩=some y:=by
 unfold af at h;simp[World.cell?,h,hk]
theorem af.free {w:μ}{g k:Nat}{cs:List Value}{t:φ}(h:af w g cs t):w.frozen? ⟨g,k,none⟩=false:=by
 unfold af at h;simp[World.frozen?,h]
theorem af.lt {w:μ}{g:Nat}{cs:List Value}{t:φ}(h:af w g cs t):g<w.heap.size:=(Array.getElem?_eq_some_iff.1 h).1
theorem af.on {w w':μ}{g:Nat}{cs:List Value}{t:φ}(h:af w g cs t)(hb:Below w.heap.size w w'):af w' g cs t:=by
 have hl:=h.lt;unfold af at *
 rw[hb.block g hl];exact h
theorem af.set {w:μ}{g k:Nat}{cs:List Value}{t:φ}(h:af w g cs t)(v:Value):af (w.setCell ⟨g,k,none⟩ v) g (cs.set k v) t:=by
 unfold af at *
 simp[World.setCell,Array.getElem?_modify,h]
theorem af.other {w:μ}{g b k:Nat}{cs:List Value}{t:φ}(h:af w g cs t)(di:g≠b)(v:Value):af (w.setCell ⟨b,k,none⟩ v) g cs t:=by
 unfold af at *
 rw[Below.heap_setCell _ _ _ _ di];exact h
theorem af.new (w:μ)(cs:List Value)(t:φ):af (w.alloc (θ cs.toArray t)) w.heap.size cs t:=by
 show(w.heap.push (Obj.cells cs.toArray t))[w.heap.size]?=some _;exact Array.getElem?_push_size
theorem PI (z:Value)(n:Nat):madeCells #[z] n=(χ n z).toArray:=by
 unfold madeCells;apply Array.ext
 ·simp
 ·intro i h1 h2;simp[Nat.mod_one]
def wR (rd:List UInt8→Option Int)(v:List UInt8)(x:Int)(w:μ)(E:Ε)(w':μ):Prop:=
 match dJ rd (some v)with
 |none=>E= ε (bN x)
 |some zs=>∃g,E= δ (ζ (some ⟨g,0,none⟩) zs.length zs.length)∧w.heap.size≤g∧af w' g (zs.map (Γ Z)) 3
def Bt (zs:List Int)(n:Nat):List Value:=zs.map (Γ Z)++χ (n - zs.length) (V Z 0)
theorem Xk {zs:List Int}{n k:Nat}(hz:zs.length=k)(hk:k<n):(Bt zs n)[k]?=some (V Z 0):=by
 unfold Bt;rw[List.getElem?_append_right (by simp;omega)];simp[hz,List.getElem?_replicate];omega
theorem Xl {zs:List Int}{n k:Nat}(hz:zs.length=k)(hk:k<n)(z:Int):(Bt zs n).set k (V Z z)=Bt (zs++[z]) n:=by
 unfold Bt;rw[List.set_append_right _ _ (by simp;omega)];have:n - zs.length=(n - (zs++[z]).length)+1:=by simp;omega
 rw[this,List.replicate_succ];simp[hz]
theorem UM {zs:List Int}{n:Nat}(hz:zs.length=n):Bt zs n=zs.map (Γ Z):=by
 unfold Bt;rw[hz];simp
theorem PJ {α:Type}{rd:List UInt8→Option α}{ps:List (List UInt8)}{l:List UInt8}{k:Nat}{z:α}{zs:List α}(hl:ps[k]?=some l)(hz:rd l=some z)(h:fc rd ps=(fc rd (ps.drop k)).map (zs++·)):
 fc rd ps=(fc rd (ps.drop (k+1))).map ((zs++[z])++·):=by
 obtain⟨hk,he⟩:=List.getElem?_eq_some_iff.1 hl;rw[h,ο hk,he,fc,hz,Option.map_map];congr 1;funext y;simp
theorem Nj {α:Type}{rd:List UInt8→Option α}{ps:List (List UInt8)}{l:List UInt8}{k:Nat}{zs:List α}(hl:ps[k]?=some l)(hz:rd l=none)(h:fc rd ps=(fc rd (ps.drop k)).map (zs++·)):
 fc rd ps=none:=by
 obtain⟨hk,he⟩:=List.getElem?_eq_some_iff.1 hl;rw[h,ο hk,he,fc,hz];rfl
theorem ku (c:UInt8):∀(l:List UInt8),∀p∈bX c l,p.length≤l.length
 |[],p,hp=>by simp[bX]at hp;subst hp;simp
 |a::r,p,hp=>by
  rw[bX]at hp;by_cases h:a=c
  ·rw[if_pos h,υ]at hp;rcases hp with rfl|hp
   ·simp
   ·have:=ku c r p hp;simp;omega
  ·rw[if_neg h]at hp;cases hs:bX c r with
   |nil=>exact absurd hs (Ae c r)
   |cons x t=>
    rw[hs]at hp;rw[υ]at hp;have hx:=ku c r;rw[hs]at hx;rcases hp with rfl|hp
    ·have:=hx x (by simp);simp;omega
    ·have:=hx p (by simp[hp]);simp;omega
theorem zM (rd:List UInt8→Option Int)(fn:FuncId)(v:List UInt8)(x:Int)(w:μ)(hm:ML w)(hl:v.length≤1048576)
 (hen:∀args w,(callFunc fn args).run prog w= .ok (.enter fn args) w)
 (hr:∀(t:List UInt8) (W:μ),t.length≤1048576→τ prog fn #[η ⟨t.toArray⟩] W fun E w'=>E=(match rd t with|none=>Ending.panicked (bN x)|some z=> δ (V Z z))∧Below W.heap.size W w'):
 τ prog 136 #[.agg #[η ⟨v.toArray⟩, .bool true], V Z x, .func (.func fn) #[] #[]] w fun E w'=>
  wR rd v x w E w'∧Below w.heap.size w w':=by
 have CS:=ad fun W (h:ML W)=>sB v 44 W h hl;have HM:Hid (ML (w.alloc (θ #[η ⟨v.toArray⟩, .bool true] 122))):=ad (hm.on ((κ _ _).alloc (ι _) _));have HR:=ad hr;have HS:Hid (∀p∈bX 44 v,p.length≤1048576):=ad (fun p hp=>Nat.le_trans (ku 44 v p hp) hl);have HF:Hid (dJ rd (some v)=if(bX 44 v).length≤20 then fc rd (bX 44 v)else none):=ad rfl;clear hr hm;obtain⟨ps,nS⟩:∃ps,ps=bX 44 v:=⟨_,rfl⟩;rw[←nS]at CS HS HF;clear nS;by_cases qj:ps.length≤20
 case neg=>
  have HE:Hid (dJ rd (some v)=none):=ad (by rw[HF.out,if_neg qj]);have Xm:decide ((ps.length:Int)≤20)=false:=by simp;omega
  go_enter func136,ntmps136;go_wp2_with (first
   |(go_at_call 139;refine(CS.out _ HM.out).mono ?_;rintro e w1 ⟨rfl,rfl⟩)
   |(go_at_call_of 65 (ν false);refine(aM _ _).mono ?_;rintro e w' ⟨rfl,rfl⟩))
  exact⟨rfl,by unfold wR;rw[HE.out],((κ _ _).alloc (ι _) _).alloc (by simp) _⟩
 case pos=>
  have Xm:(ps.length:Int)≤20:=by omega
  have HE:Hid (dJ rd (some v)=fc rd ps):=ad (by rw[HF.out,if_pos qj]);have mk:=run_make_row' (P:=prog) 54 3 (V Z 0) 8 underlying54 eu rfl Z Z ps.length (by omega) (by omega);rw[PI]at mk;have nS:cE ((w.alloc (θ #[η ⟨v.toArray⟩, .bool true] 122)).alloc (θ (strs ps).toArray 9)) (w.heap.size+1) 0 ps:=by
   have:=iE (w.alloc (θ #[η ⟨v.toArray⟩, .bool true] 122)) ps 9;rw[show(w.alloc (θ #[η ⟨v.toArray⟩, .bool true] 122)).heap.size=w.heap.size+1 from by simp]at this;exact this
  have bu:((w.alloc (θ #[η ⟨v.toArray⟩, .bool true] 122)).alloc (θ (strs ps).toArray 9)).heap.size=w.heap.size+1+1:=by simp
  have ax:=af.new ((w.alloc (θ #[η ⟨v.toArray⟩, .bool true] 122)).alloc (θ (strs ps).toArray 9)) (χ ps.length (V Z 0)) 3;rw[bu]at ax;have az:Below w.heap.size w ((w.alloc (θ #[η ⟨v.toArray⟩, .bool true] 122)).alloc (θ (strs ps).toArray 9)):=((κ _ _).alloc (ι _) _).alloc (by simp) _;go_enter func136,ntmps136;go_wp2_with (first
   |(go_at_call 139;refine(CS.out _ HM.out).mono ?_;rintro e w1 ⟨rfl,rfl⟩)
   |(go_at_call_of 65 (ν true);refine(aF _ _).mono ?_;rintro e w' ⟨rfl,rfl⟩))
  generalize(w.alloc (θ #[η ⟨v.toArray⟩, .bool true] 122)).alloc (θ (strs ps).toArray 9)=W at *
  clear mk HM CS HF;go_loopw [27] (fun i wr=>∃(k:Nat) (zs:List Int),k≤ps.length∧i= V Z k∧zs.length=k∧af wr (w.heap.size+1+1) (Bt zs ps.length) 3∧Below W.heap.size W wr∧Hid (fc rd ps=(fc rd (ps.drop k)).map (zs++·))) (fun i _=>ps.length - (intOf i).toNat)
  case atStart=>exact⟨0,[],Λ _,rfl,rfl,ax,(κ _ _).alloc (ι _) _,ad (by simp)⟩
  case round=>
   obtain⟨k,zs,hk,rfl,hz,iV,aX,HT⟩:=hrel;have hB:=aX.size;by_cases ay:k<ps.length
   case neg=>
    have fB:k=ps.length:=by omega
    subst fB;have HG:Hid (dJ rd (some v)=some zs):=ad (by rw[HE.out,HT.out,Η];simp[fc]);have HZ:=ad hz;clear HT HE hz;go_wp2;go_ret;refine⟨?_,az.trans (aX.mono (by omega))⟩;unfold wR;rw[HG.out];refine⟨w.heap.size+1+1,by rw[HZ.out];rfl,by omega,?_⟩;rw[←UM HZ.out];exact iV
   case pos=>
    obtain⟨l,tl⟩:∃l,ps[k]?=some l:=⟨_,ρ ay⟩;have cR:wr.cell? ⟨w.heap.size+1,k,none⟩=some (η ⟨l.toArray⟩):=by
     rw[aX.cell (p:=⟨w.heap.size+1,k,none⟩) (by show w.heap.size+1<W.heap.size;omega)];have:=nS k ay;rw[Κ]at this;rw[this];simp[ω,tl]
    have CR:=HR.out l wr (HS.out l (Α tl));cases hq:rd l with
    |none=>
     have HG:Hid (dJ rd (some v)=none):=ad (by rw[HE.out,Nj tl hq HT.out]);rw[hq]at CR;have C:=ad CR;clear HT HE CR hq tl;go_wp2_with (refine(C.out).mono ?_;rintro e w1 ⟨rfl,ai⟩);refine⟨rfl,?_,az.trans ((aX.trans (ai.mono hB)).mono (by omega))⟩;unfold wR;rw[HG.out]
    |some z=>
     have HG:Hid (fc rd ps=(fc rd (ps.drop (k+1))).map ((zs++[z])++·)):=ad (PJ tl hq HT.out);rw[hq]at CR;have C:=ad CR;clear HT CR hq tl;go_wp2_with (refine(C.out).mono ?_;rintro e w1 ⟨rfl,ai⟩;have jX:=iV.on ai;have c1:=jX.cell (Xk hz ay);have f1:=jX.free (k:=k));go_roundw
     case rel=>exact⟨k+1,zs++[z],by omega,by go_num,by simp[hz],by rw[←Xl hz ay z];exact jX.set _,(aX.trans (ai.mono hB)).setCell (by show W.heap.size≤w.heap.size+1+1;omega) _,HG⟩
     case measure=>simp[intOf];omega
end Go.Proofs.YthpndgcaoeokeaaGreatDoor
