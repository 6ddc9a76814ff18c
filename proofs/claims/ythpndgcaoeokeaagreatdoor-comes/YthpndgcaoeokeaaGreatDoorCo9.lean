import Derived.Test.YthpndgcaoeokeaaGreatDoorCo8
import Derived.Lib.Builder
import Derived.Lib.AppendStr
import Derived.Lib.UnsafeStr
import Derived.Laws.Externs
set_option maxRecDepth 100000
set_option maxHeartbeats 8000000
open Go.IntKind renaming i64→Z
open Go.Value renaming int→V,pointer→ε,slice→ζ,string→η
open Go.Ending renaming returned→δ
open Go.Obj renaming cells→θ
open Array renaming getElem?_eq_getElem→ι,all_eq_true'→Θ,getElem_setIfInBounds_ne→Κ,length_toList→Ν,getD→Ο
open List renaming length_append→κ,length_map→ο,getElem?_eq_getElem→π,getElem?_map→φ,replicate→ω,getElem?_append_right→Α,getD_eq_getElem?_getD→Β,getElem?_replicate→Γ,set_append_right→Ε,replicate_succ→Η,take_succ_eq_append_getElem→Ι,map_congr_left→Ξ,take_length→Ρ,length_cons→Τ,drop_length→Υ,mem_filter→Φ,map_append→Χ,mem_range→Ψ
open Go.RowKit.Below renaming refl→μ
open Nat renaming le_refl→ν,zero_add→Δ,zero_le→Μ,mul_le_mul→Ω,le_trans→ϊ
open Go renaming World→ξ,Calls→Ζ
open Go.Region renaming binds→ρ,ready→υ
open Go.Lib renaming byteCells→τ,join→χ
open Option renaming getD_some→ψ,map_some→Λ
namespace Go.Proofs.YthpndgcaoeokeaaGreatDoor
open Tryz
open Go.RowKit Go.Sort
def flat (zs:List (Int×Int)):List Value:=zs.flatMap fun q=>[V Z q.1, V Z q.2]
theorem Ee (zs:List (Int×Int)):(flat zs).length=zs.length * 2:=by
 induction zs with
 |nil=>rfl
 |cons a r ih=>simp[flat]at ih⊢;omega
theorem UN (zs:List (Int×Int))(z:Int×Int):flat (zs++[z])=flat zs++[V Z z.1, V Z z.2]:=by simp[flat]
def zN (rd:List UInt8→Option (Int×Int))(v:List UInt8)(x:Int)(w:ξ)(E:Ending)(w':ξ):Prop:=
 match dJ rd (some v)with
 |none=>E= .panicked (bN x)
 |some zs=>∃g,E= δ (ζ (some ⟨g,0,none⟩) zs.length zs.length)∧w.heap.size≤g∧af w' g (flat zs) 183
def qP (zs:List (Int×Int))(n:Nat):List Value:=flat zs++ω ((n - zs.length) * 2) (V Z 0)
theorem UO {zs:List (Int×Int)}{n k:Nat}(hz:zs.length=k)(hk:k<n):(qP zs n)[k * 2]?=some (V Z 0):=by
 unfold qP;have hf:=Ee zs;rw[Α (by omega)];rw[Γ,if_pos (by omega)]
theorem UP {zs:List (Int×Int)}{n k:Nat}(hz:zs.length=k)(hk:k<n):(qP zs n)[k * 2+1]?=some (V Z 0):=by
 unfold qP;have hf:=Ee zs;rw[Α (by omega)];rw[Γ,if_pos (by omega)]
theorem Xn {zs:List (Int×Int)}{n k:Nat}(hz:zs.length=k)(hk:k<n)(z:Int×Int):((qP zs n).set (k * 2) (V Z z.1)).set (k * 2+1) (V Z z.2)=qP (zs++[z]) n:=by
 unfold qP;have hf:=Ee zs;rw[Ε _ _ (by omega),Ε _ _ (by omega)];have:(n - zs.length) * 2=(n - (zs++[z]).length) * 2+1+1:=by simp;omega
 rw[this,Η,Η,UN];rw[show k * 2 - (flat zs).length=0 from by omega,show k * 2+1 - (flat zs).length=1 from by omega];simp
theorem UQ {zs:List (Int×Int)}{n:Nat}(hz:zs.length=n):qP zs n=flat zs:=by
 unfold qP;rw[hz];simp
theorem Xo (z:Value)(m:Nat):madeCells #[z,z] m=(ω m z).toArray:=by
 unfold madeCells;apply Array.ext
 ·simp
 ·intro i h1 h2;have:i%2=0∨i%2=1:=by omega
  rcases this with h|h<;>simp[h]
theorem aew:(prog.info? 183).map (fun i=>(i.zero,i.size,i.bytes))=some (some (.agg #[V Z 0, V Z 0]),2,16):=by kernel_rfl
theorem aey (w:ξ)(n:Nat)(hn:n≤20):(Instr.makeSlice 74 (V Z (n:Int)) (V Z (n:Int))).run prog w= .ok (ζ (some ⟨w.heap.size,0,none⟩) n n) (w.alloc (θ (qP [] n).toArray 183)):=by
 obtain⟨i0,hi,fH,eP,fb⟩:=info_parts aew;have k:=run_make (P:=prog) w 74 183 i0 _ underlying74 hi fH Z Z (n:Int) (n:Int) (by omega) (Int.le_refl _) (by rw[fb];omega) (by omega);rw[eP,show(Value.agg #[V Z 0, V Z 0]).cells=#[V Z 0, V Z 0]from rfl,Xo]at k;simp only[Int.toNat_natCast]at k;exact k
theorem Nr (rd:List UInt8→Option (Int×Int))(fn:FuncId)(v:List UInt8)(x:Int)(w:ξ)(hm:ML w)(hl:v.length≤1048576)
 (hen:∀args w,(callFunc fn args).run prog w= .ok (.enter fn args) w)
 (hr:∀(t:List UInt8) (W:ξ),t.length≤1048576→Ζ prog fn #[η ⟨t.toArray⟩] W fun E w'=>E=(match rd t with|none=>Ending.panicked (bN x)|some z=> δ (.agg #[V Z z.1, V Z z.2]))∧Below W.heap.size W w'):
 Ζ prog 147 #[.agg #[η ⟨v.toArray⟩, .bool true], V Z x, .func (.func fn) #[] #[]] w fun E w'=>
  zN rd v x w E w'∧Below w.heap.size w w':=by
 have CS:=ad fun W (h:ML W)=>sB v 44 W h hl;have HM:Hid (ML (w.alloc (θ #[η ⟨v.toArray⟩, .bool true] 122))):=ad (hm.on ((μ _ _).alloc (ν _) _));have HR:=ad hr;have HS:Hid (∀p∈bX 44 v,p.length≤1048576):=ad (fun p hp=>ϊ (ku 44 v p hp) hl);have HF:Hid (dJ rd (some v)=if(bX 44 v).length≤20 then fc rd (bX 44 v)else none):=ad rfl;clear hr hm;obtain⟨ps,nS⟩:∃ps,ps=bX 44 v:=⟨_,rfl⟩;rw[←nS]at CS HS HF;clear nS;by_cases qj:ps.length≤20
 case neg=>
  have HE:Hid (dJ rd (some v)=none):=ad (by rw[HF.out,if_neg qj]);have Xm:decide ((ps.length:Int)≤20)=false:=by simp;omega
  go_enter func147,ntmps147;go_wp2_with (first
   |(go_at_call 139;refine(CS.out _ HM.out).mono ?_;rintro e w1 ⟨rfl,rfl⟩)
   |(go_at_call_of 65 (Value.bool false);refine(aM _ _).mono ?_;rintro e w' ⟨rfl,rfl⟩))
  exact⟨rfl,by unfold zN;rw[HE.out],((μ _ _).alloc (ν _) _).alloc (by simp) _⟩
 case pos=>
  have Xm:(ps.length:Int)≤20:=by omega
  have HE:Hid (dJ rd (some v)=fc rd ps):=ad (by rw[HF.out,if_pos qj]);have mk:=fun W=>aey W ps.length qj;have nS:cE ((w.alloc (θ #[η ⟨v.toArray⟩, .bool true] 122)).alloc (θ (strs ps).toArray 9)) (w.heap.size+1) 0 ps:=by
   have:=iE (w.alloc (θ #[η ⟨v.toArray⟩, .bool true] 122)) ps 9;rw[show(w.alloc (θ #[η ⟨v.toArray⟩, .bool true] 122)).heap.size=w.heap.size+1 from by simp]at this;exact this
  have bu:((w.alloc (θ #[η ⟨v.toArray⟩, .bool true] 122)).alloc (θ (strs ps).toArray 9)).heap.size=w.heap.size+1+1:=by simp
  have ax:=af.new ((w.alloc (θ #[η ⟨v.toArray⟩, .bool true] 122)).alloc (θ (strs ps).toArray 9)) (qP [] ps.length) 183;rw[bu]at ax;have az:Below w.heap.size w ((w.alloc (θ #[η ⟨v.toArray⟩, .bool true] 122)).alloc (θ (strs ps).toArray 9)):=((μ _ _).alloc (ν _) _).alloc (by simp) _;go_enter func147,ntmps147;go_wp2_with (first
   |(go_at_call 139;refine(CS.out _ HM.out).mono ?_;rintro e w1 ⟨rfl,rfl⟩)
   |(go_at_call_of 65 (Value.bool true);refine(aF _ _).mono ?_;rintro e w' ⟨rfl,rfl⟩))
  generalize(w.alloc (θ #[η ⟨v.toArray⟩, .bool true] 122)).alloc (θ (strs ps).toArray 9)=W at *
  clear mk HM CS HF;go_loopw [27] (fun i wr=>∃(k:Nat) (zs:List (Int×Int)),k≤ps.length∧i= V Z k∧zs.length=k∧af wr (w.heap.size+1+1) (qP zs ps.length) 183∧Below W.heap.size W wr∧Hid (fc rd ps=(fc rd (ps.drop k)).map (zs++·))) (fun i _=>ps.length - (intOf i).toNat)
  case atStart=>exact⟨0,[],Μ _,rfl,rfl,ax,(μ _ _).alloc (ν _) _,ad (by simp)⟩
  case round=>
   obtain⟨k,zs,hk,rfl,hz,iV,aX,HT⟩:=hrel;have hB:=aX.size;by_cases ay:k<ps.length
   case neg=>
    have fB:k=ps.length:=by omega
    subst fB;have HG:Hid (dJ rd (some v)=some zs):=ad (by rw[HE.out,HT.out,Υ];simp[fc]);have HZ:=ad hz;clear HT HE hz;go_wp2;go_ret;refine⟨?_,az.trans (aX.mono (by omega))⟩;unfold zN;rw[HG.out];refine⟨w.heap.size+1+1,by rw[HZ.out];rfl,by omega,?_⟩;rw[←UQ HZ.out];exact iV
   case pos=>
    obtain⟨l,tl⟩:∃l,ps[k]?=some l:=⟨_,π ay⟩;have cR:wr.cell? ⟨w.heap.size+1,k,none⟩=some (η ⟨l.toArray⟩):=by
     rw[aX.cell (p:=⟨w.heap.size+1,k,none⟩) (by show w.heap.size+1<W.heap.size;omega)];have:=nS k ay;rw[Δ]at this;rw[this];simp[List.getD,tl]
    have CR:=HR.out l wr (HS.out l (List.mem_of_getElem? tl));cases hq:rd l with
    |none=>
     have HG:Hid (dJ rd (some v)=none):=ad (by rw[HE.out,Nj tl hq HT.out]);rw[hq]at CR;have C:=ad CR;clear HT HE CR hq tl;go_wp2_with (refine(C.out).mono ?_;rintro e w1 ⟨rfl,ai⟩);refine⟨rfl,?_,az.trans ((aX.trans (ai.mono hB)).mono (by omega))⟩;unfold zN;rw[HG.out]
    |some z=>
     have HG:Hid (fc rd ps=(fc rd (ps.drop (k+1))).map ((zs++[z])++·)):=ad (PJ tl hq HT.out);rw[hq]at CR;have C:=ad CR;clear HT CR hq tl;go_wp2_with (refine(C.out).mono ?_;rintro e w1 ⟨rfl,ai⟩;have jX:=iV.on ai;have c1:=jX.cell (UO hz ay);have c2:=jX.cell (UP hz ay);have f1:=jX.free (k:=k * 2);have f2:=jX.free (k:=k * 2+1));go_roundw
     case rel=>exact⟨k+1,zs++[z],by omega,by go_num,by simp[hz],by rw[←Xn hz ay z];exact(jX.set _).set _,((aX.trans (ai.mono hB)).setCell (by show W.heap.size≤w.heap.size+1+1;omega) _).setCell (by show W.heap.size≤w.heap.size+1+1;omega) _,HG⟩
     case measure=>simp[intOf];omega
theorem mX (w:ξ):Ζ prog 140 #[] w fun E w'=>E= δ (ζ (some ⟨w.heap.size,0,none⟩) 9 9)∧w'=w.alloc (θ (strs aC).toArray 9):=by
 go_enter func140,ntmps140;go_wp2;go_ret;exact⟨rfl,rfl⟩
def shown (t:List UInt8):Bool:=decide (t≠[73,78,84,69,82,86,65,76,61,49])&&decide (t≠[87,75,83,84,61,77,79])
def qK (F:Nat→Option (List UInt8))(k:Nat):List (List UInt8):=match F k with
 |none=>[]
 |some v=>if shown (aC.getD k []++61::v)then[aC.getD k []++61::v]else[]
def bO (F:Nat→Option (List UInt8)):Nat→List (List UInt8)
 |0=>[]
 |k+1=>bO F k++qK F k
theorem yu (F:Nat→Option (List UInt8)):∀k,(bO F k).length≤k
 |0=>by simp[bO]
 |k+1=>by
  have:=yu F k;rw[bO,κ];unfold qK;cases F k with
  |none=>simp;omega
  |some v=>simp only[];split<;>simp<;>omega
theorem aim (a b:List UInt8):(⟨a.toArray⟩:ByteArray)++⟨#[61]⟩++⟨b.toArray⟩=⟨(a++61::b).toArray⟩:=by
 apply ByteArray.ext;simp
theorem mR (k:Nat):(aC.getD k []).length≤20:=by
 by_cases h:k<9
 ·have:k=0∨k=1∨k=2∨k=3∨k=4∨k=5∨k=6∨k=7∨k=8:=by omega
  rcases this with rfl|rfl|rfl|rfl|rfl|rfl|rfl|rfl|rfl<;>decide
 ·rw[Β,List.getElem?_eq_none (by rw[show aC.length=9 from rfl];omega)];simp
theorem UR {t:List UInt8}(h:(t==[73,78,84,69,82,86,65,76,61,49])=true):shown t=false:=by
 rw[beq_iff_eq]at h;unfold shown;rw[h];rfl
theorem US {t:List UInt8}(h:(t==[87,75,83,84,61,77,79])=true):shown t=false:=by
 rw[beq_iff_eq]at h;unfold shown;rw[h];rfl
theorem UT {t:List UInt8}(h:(t==[73,78,84,69,82,86,65,76,61,49])=false)(h2:(t==[87,75,83,84,61,77,79])=false):shown t=true:=by
 rw[beq_eq_false_iff_ne]at h h2;unfold shown;simp[h,h2]
theorem PK (F:Nat→Option (List UInt8))(hs:∀k,((F k).getD []).length≤1048576):∀k,∀t∈bO F k,t.length≤1048600
 |0,t,h=>by simp[bO]at h
 |k+1,t,h=>by
  rw[bO,List.mem_append]at h;rcases h with h|h
  ·exact PK F hs k t h
  ·unfold qK at h;have h1:=hs k;have h2:=mR k;cases hf:F k with
   |none=>rw[hf]at h;simp at h
   |some v=>
    rw[hf]at h h1;simp only[]at h;split at h
    ·rw[List.mem_singleton]at h;subst h;simp only[ψ]at h1;rw[κ,Τ];omega
    ·simp at h
theorem gW (sep:List UInt8)(B:Nat):∀(xs:List (List UInt8)),(∀x∈xs,x.length≤B)→(χ xs sep).length≤xs.length * (B+sep.length)
 |[],_=>by simp[Lib.join_nil]
 |[x],h=>by rw[Lib.join_one];have:=h x (by simp);simp;omega
 |x::y::r,h=>by
  have ih:=gW sep B (y::r) (fun z hz=>h z (by simp at hz⊢;exact .inr hz));have hx:=h x (by simp);have e:χ (x::y::r) sep=x++sep++χ (y::r) sep:=by simp[χ,List.intercalate,List.intersperse]
  rw[e,κ,κ];have:(x::y::r).length * (B+sep.length)=(y::r).length * (B+sep.length)+(B+sep.length):=by
   rw[Τ (a:=x),Nat.succ_mul]
  omega
theorem Xp (ls:List (List UInt8))(B:Nat)(v:Value)(w:ξ)(aw:w.ownsRow B 9 1 v ls.length (strs ls))(hb:∀t∈ls,t.length≤1048600)(hn:ls.length≤100):
 Ζ prog 154 #[v, η ⟨#[59]⟩] w fun E w'=>E= δ (η ⟨(χ ls [59]).toArray⟩)∧Below w.heap.size w w':=by
 rcases ky aw with⟨rfl,hz⟩|⟨g,cap,rfl,_,hg,hc⟩
 ·obtain rfl:ls=[]:=by unfold strs at hz;simpa using hz
  exact(Tryz.strings_Join_none none 0 ⟨#[59]⟩ w).mono fun E w' ⟨h1,h2⟩=>⟨h1,by rw[h2];exact μ _ _⟩
 ·have LJ:ls.length≤cap:=by
   obtain⟨_,h|⟨g',aid,cur,hv,_,hh,IF,mS,bu,ht⟩⟩:=aw
   ·cases h.1
   ·cases hv;omega
  have e1:(ls.map bH).map (·.data.toList)=ls:=by
   rw[List.map_map];conv=>rhs;rw[←List.map_id ls]
   apply Ξ;intro a _;rfl
  have k:=Tryz.strings_Join g 0 cap (ls.map bH) ⟨#[59]⟩ w (fun j x hx=>by
   rw[Δ];refine hc j (η x) ?_;rw[φ]at hx;obtain⟨a,ha,rfl⟩:=Option.map_eq_some_iff.1 hx;unfold strs;rw[φ,ha];rfl) hg (by rw[ο];omega) (by rw[ο];exact LJ) (by
    rw[e1];have:=gW [59] 1048600 ls hb;rw[show(⟨#[59]⟩:ByteArray).data.toList=[59]from rfl];have h2:ls.length * (1048600+[(59:UInt8)].length)≤100 * 1048601:=Ω hn (by simp);omega)
  rw[e1,ο]at k;exact k
theorem Dp (g:Nat)(F:Nat→Option (List UInt8))(w:ξ)(hF:cQ w g F)(hs:∀k,((F k).getD []).length≤1048576):
 Ζ prog 151 #[ζ (some ⟨g,0,none⟩) 9 9] w fun E w'=>E= δ (η ⟨(χ (bO F 9) [59]).toArray⟩)∧Below w.heap.size w w':=by
 have bz:Below w.heap.size w (w.alloc (θ (strs aC).toArray 9)):=(μ _ _).alloc (ν _) _;have Sk:=iE w aC 9;have hg:=hF.lt;have bu:(w.alloc (θ (strs aC).toArray 9)).heap.size=w.heap.size+1:=by simp
 go_enter func151,ntmps151;go_wp2_with (go_at_call 140;refine(mX _).mono ?_;rintro e w1 ⟨rfl,rfl⟩);have Co:=hF.on bz;generalize w.alloc (θ (strs aC).toArray 9)=W at *
 go_loopw [3,9] (fun v i wr=>∃k:Nat,k≤9∧i= V Z k∧wr.ownsRow W.heap.size 9 1 v (bO F k).length (strs (bO F k))∧Below W.heap.size W wr) (fun _ i _=>9 - (intOf i).toNat)
 case atStart=>exact⟨0,by omega,rfl,World.ownsRow_nil _ _ _ _,μ _ _⟩
 case round=>
  obtain⟨k,hk,rfl,aw,aX⟩:=hrel;have hB:=aX.size;have HT:=ad (yu F k);by_cases ay:k<9
  case neg=>
   have IN:k=9:=by omega
   subst IN;have CJ:=ad (Xp (bO F 9) W.heap.size u3 wr aw (PK F hs 9) (by have:=HT.out;omega));clear Co hF hs;obtain⟨a3,n3,c3,rfl⟩:=dF aw;go_wp2_with (go_at_call 154;refine(CJ.out).mono ?_;rintro e w2 ⟨rfl,az⟩);go_ret;exact⟨rfl,bz.trans ((aX.trans (az.mono hB)).mono (by omega))⟩
  case pos=>
   have Ag:=Co.on aX;obtain⟨nm,Ef⟩:∃nm,nm=aC.getD k []:=⟨_,rfl⟩;have cn:wr.cell? ⟨w.heap.size,k,none⟩=some (η ⟨nm.toArray⟩):=by
    rw[aX.cell (p:=⟨w.heap.size,k,none⟩) (by show w.heap.size<W.heap.size;omega)];have:=Sk k ay;rw[Δ,←Ef]at this;exact this
   have cv:=Ag.val k ay;have ct:=Ag.there k ay;have abb:(k:Int)<9:=by omega
   have mN:nm.length≤20:=by rw[Ef];exact mR k
   have oB:=hs k;obtain⟨val,uA⟩:∃val,val=(F k).getD []:=⟨_,rfl⟩;rw[←uA]at cv oB;have hc3:=aim nm val;have o1:¬9223372036854775807<nm.length+1:=by omega
   have o2:¬9223372036854775807<nm.length+1+val.length:=by omega
   obtain⟨t,ht⟩:∃t,t=nm++61::val:=⟨_,rfl⟩;rw[←ht]at hc3;have H1:Hid (bO F (k+1)=bO F k++qK F k):=ad rfl;cases hf:(F k).isSome with
   |false=>
    rw[hf]at ct;have HN:Hid (bO F (k+1)=bO F k):=ad (by rw[H1.out];unfold qK;rw[Option.isSome_eq_false_iff.1 hf|>Option.isNone_iff_eq_none.1];simp);clear hf Ag ht uA Ef H1;cases q1:(t==[73,78,84,69,82,86,65,76,61,49])<;>
     (go_wp2
      go_roundw
      case rel=>exact⟨k+1,by omega,by go_num,by rw[HN.out];exact aw,aX⟩
      case measure=>simp[intOf];omega)
   |true=>
    rw[hf]at ct;have ZC:F k=some val:=by
     obtain⟨y,hy⟩:=Option.isSome_iff_exists.1 hf;rw[hy]at uA;rw[hy,uA];rfl
    have HX:Hid (qK F k=if shown t then[t]else[]):=ad (by unfold qK;rw[ZC];simp only[];rw[←Ef,←ht]);cases q1:(t==[73,78,84,69,82,86,65,76,61,49])with
    |true=>
     have HN:Hid (bO F (k+1)=bO F k):=ad (by rw[H1.out,HX.out,UR q1];simp);clear hf Ag ht uA Ef H1 ZC HX;go_wp2;go_roundw
     case rel=>exact⟨k+1,by omega,by go_num,by rw[HN.out];exact aw,aX⟩
     case measure=>simp[intOf];omega
    |false=>
     cases q2:(t==[87,75,83,84,61,77,79])with
     |true=>
      have HN:Hid (bO F (k+1)=bO F k):=ad (by rw[H1.out,HX.out,US q2];simp);clear hf Ag ht uA Ef H1 ZC HX;go_wp2;go_roundw
      case rel=>exact⟨k+1,by omega,by go_num,by rw[HN.out];exact aw,aX⟩
      case measure=>simp[intOf];omega
     |false=>
      have HN:Hid (bO F (k+1)=bO F k++[t]):=ad (by rw[H1.out,HX.out,UT q1 q2];simp);clear hf Ag ht uA Ef H1 ZC HX;go_wp2_with (at_builtin;refine fj rfl (.tmp 35) (.tmp 37) 52 9 _ 16 rfl underlying52 eK rfl W.heap.size _ _ _ rfl aw aX hB (η ⟨t.toArray⟩) rfl rfl (by simp) (by have:=HT.out;omega) (by decide) ?_;intro v' w1 kW nC Cv);go_roundw
      case rel=>exact⟨k+1,by omega,by go_num,by rw[HN.out,uF,κ];exact kW,nC⟩
      case measure=>simp[intOf];omega
theorem PL:(prog.info? 189).map (·.size)=some 2:=by kernel_rfl
theorem aaY:liesAt prog prog.depth 189 (2/prog.cellsOf 189) 0 189 1=true:=by kernel_rfl
theorem UU:(prog.info? 5).map (fun i=>(i.zero,i.size,i.bytes))=some (some (.int .u8 0),1,1):=by kernel_rfl
theorem G4 (b:Nat)(w:ξ)(h0:w.cell? ⟨b,0,none⟩=some (ε (some ⟨b,0,none⟩))):
 Ζ prog 213 #[ε (some ⟨b,0,none⟩)] w fun e w'=>e= δ (.tuple #[])∧w'=w:=by
 obtain⟨j,hj,_⟩:=Option.map_eq_some_iff.1 PL;go_enter func213,ntmps213;go_wp2;rw[Lib.run_neq_ptr_same w _ underlying187 hj];go_wp2;go_end0;exact⟨rfl,rfl⟩
theorem FQ (b:Nat)(w:ξ)(h0:w.cell? ⟨b,0,none⟩=some (ε none))(MW:w.shape? b=some (189,2))(po:w.frozen? ⟨b,0,none⟩=false):
 Ζ prog 213 #[ε (some ⟨b,0,none⟩)] w fun e w'=>e= δ (.tuple #[])∧w'=w.setCell ⟨b,0,none⟩ (ε (some ⟨b,0,none⟩)):=by
 obtain⟨j,hj,hjs⟩:=Option.map_eq_some_iff.1 PL;go_enter func213,ntmps213;go_wp2;rw[Lib.run_to_unsafe w ⟨b,0,none⟩ underlying187 underlying328 hj (by rw[hjs];decide) MW (Nat.zero_lt_succ 1)];simp only[Result.andThen];rw[Oper.upon_value];go_wp2;rw[run_callFunc_extern func279 (by kernel_rfl) (by kernel_rfl) (by kernel_rfl) (e:=Extern.AbiNoEscape.same) (by kernel_rfl)];rw[Lib.run_noEscape];simp only[Result.andThen];rw[Oper.upon_value];go_wp2;rw[Lib.run_from_unsafe w ⟨b,0,none⟩ underlying328 underlying187 hj MW aaY];simp only[Result.andThen];rw[Oper.upon_value];go_wp2;go_end0;exact⟨rfl,rfl⟩
theorem J4 (B b:Nat)(bs:List Value)(w:ξ)(h:Lib.IsBuilder 189 5 B b bs w):
 Ζ prog 213 #[ε (some ⟨b,0,none⟩)] w fun e w'=>e= δ (.tuple #[])∧(Lib.BuilderAt 189 5 B b (ε (some ⟨b,0,none⟩)) bs w'∧Below B w w'):=by
 rcases h with h|h
 ·exact(FQ b w h.cell0 h.shape h.frozen0).mono fun e w' ⟨h1,h2⟩=>by
   subst h2;exact⟨h1,h.used _,(μ B w).setCell (p:=⟨b,0,none⟩) h.1 _⟩
 ·exact(G4 b w h.cell0).mono fun e w' ⟨h1,h2⟩=>by
   subst h2;exact⟨h1,h,μ B _⟩
theorem wD (B b:Nat)(bs:List Value)(s:ByteArray)(w:ξ)(h:Lib.IsBuilder 189 5 B b bs w)(hlen:bs.length+s.size≤140737488355328)(hBw:B≤w.heap.size):
 Ζ prog 155 #[ε (some ⟨b,0,none⟩), η s] w fun e w'=>e= δ (.tuple #[V Z s.size, .nilIface])∧(Lib.BuilderAt 189 5 B b (ε (some ⟨b,0,none⟩)) (bs++Lib.strCells s) w'∧Below B w w'):=by
 obtain⟨i0,hi,fH,eP,fb⟩:=info_parts UU;go_enter func155,ntmps155;go_wp2_with (go_at_call 213;refine(J4 B b bs _ h).mono ?_);rintro e w1 ⟨rfl,h1,ai⟩;obtain⟨hB,v,AN,aw,di⟩:=h1;have c0:w1.cell? ⟨b,0,none⟩=some (ε (some ⟨b,0,none⟩)):=by rw[Lib.cell_of_heap AN];rfl
 have c1:w1.cell? ⟨b,1,none⟩=some v:=by rw[Lib.cell_of_heap AN];rfl
 go_wp2_with (at_builtin;refine Lib.wpList_append_own_string _ rfl _ _ 72 9 rfl B 5 i0 underlying72 underlying9 hi fH eP fb _ _ _ rfl aw s rfl ?c3 ?c4 ?c5 ?_)
 case c3=>unfold maxLen;omega
 case c4=>omega
 case c5=>have:=ai.size;omega
 intro v' w2 dj eJ _;have ay:b<w1.heap.size:=by
  rcases Nat.lt_or_ge b w1.heap.size with h'|h'
  ·exact h'
  ·simp[Array.getElem?_eq_none h']at AN
 have az:w2.heap[b]?=some (θ #[ε (some ⟨b,0,none⟩),v] 189 (0,0)):=by
  rw[eJ.block b ay (fun e=>di e.symm)];exact AN
 have d0:w2.cell? ⟨b,0,none⟩=some (ε (some ⟨b,0,none⟩)):=by rw[Lib.cell_of_heap az];rfl
 have d1:w2.cell? ⟨b,1,none⟩=some v:=by rw[Lib.cell_of_heap az];rfl
 have f1:w2.frozen? ⟨b,1,none⟩=false:=Lib.frozen_of_heap az 1;obtain⟨ao,n',cap,rfl⟩:∃ao n' cap,v'= ζ ao n' cap:=by
  rcases dj.2 with⟨hv,_⟩|⟨g,cap,cur,hv,_⟩
  ·exact⟨_,_,_,hv⟩
  ·exact⟨_,_,_,hv⟩
 go_wp2;go_ret2;refine⟨rfl,?_,?_⟩
 ·exact Lib.BuilderAt.put (T:=189) (e:=5) hB az (bs':=bs++Lib.strCells s) (by simpa[Lib.strCells_length]using dj) (by decide)
 ·exact(ai.grown eJ (by have:=ai.size;omega) (fun k hk=>(aw.lt k hk).1)).setCell (p:=⟨b,1,none⟩) hB _
def de (ls:List (List UInt8)):List UInt8:=ls.flatMap (·++[13,10])
theorem Xq (ls:List (List UInt8))(l:List UInt8):de (ls++[l])=de ls++l++[13,10]:=by simp[de]
theorem Xr (ls:List (List UInt8))(k:Nat):(de (ls.take k)).length≤(de ls).length:=by
 have:de ls=de (ls.take k)++de (ls.drop k):=by
  conv=>lhs;rw[←List.take_append_drop k ls]
  unfold de;rw[List.flatMap_append]
 rw[this,κ];exact Nat.le_add_right _ _
theorem Eg (a l:List UInt8):τ a++Lib.strCells ⟨l.toArray⟩=τ (a++l):=by
 unfold τ Lib.strCells;rw[Χ]
theorem N2 (w:ξ):Lib.IsBuilder 189 5 w.heap.size w.heap.size (τ []) (w.alloc (θ #[ε none, ζ none 0 0] 189)):=by
 refine .inl ⟨ν _, ζ none 0 0,af.new w [ε none, ζ none 0 0] 189,World.ownsRow_nil _ _ _ _,by simp[Value.ownBlock]⟩
theorem JN (g cap:Nat)(ls:List (List UInt8))(w:ξ)(hg:g<w.heap.size)(hn:cE w g 0 ls)(hl:ls.length≤1000000000)(hs:(de ls).length≤140737488355328):
 Ζ prog 87 #[ζ (some ⟨g,0,none⟩) ls.length cap] w fun E w'=>E= δ (η ⟨(de ls).toArray⟩)∧Below w.heap.size w w':=by
 have bz:Below w.heap.size w (w.alloc (θ #[ε none, ζ none 0 0] 189)):=(μ _ _).alloc (ν _) _;have HB:=ad (N2 w);go_enter func87,ntmps87;go_wp2;generalize w.alloc (θ #[ε none, ζ none 0 0] 189)=W at *
 go_loopw [8] (fun i wr=>∃k:Nat,k≤ls.length∧i= V Z k∧Hid (Lib.IsBuilder 189 5 w.heap.size w.heap.size (τ (de (ls.take k))) wr)∧Hid (Below w.heap.size w wr)) (fun i _=>ls.length - (intOf i).toNat)
 case atStart=>exact⟨0,Μ _,rfl,ad (by rw[List.take_zero];exact HB.out),ad bz⟩
 case round=>
  obtain⟨k,hk,rfl,HI,HX⟩:=hrel;have hB:=HX.out.size;by_cases ay:k<ls.length
  case neg=>
   have fB:k=ls.length:=by omega
   subst fB;have CS:=ad (Tryz.Builder_String_any w.heap.size w.heap.size (de ls) wr (by have:=HI.out;rw[Ρ]at this;exact this) hB);go_wp2_with (go_at_call 156;refine(CS.out).mono ?_;rintro e w2 ⟨rfl,az⟩);go_ret;exact⟨rfl,HX.out.trans az⟩
  case pos=>
   obtain⟨l,hle⟩:∃l,l=ls[k]:=⟨_,rfl⟩;have cR:wr.cell? ⟨g,k,none⟩=some (η ⟨l.toArray⟩):=by
    have h1:=hn k ay;rw[Δ]at h1;rw[HX.out.cell (p:=⟨g,k,none⟩) hg,h1,hle,Β,π ay];rfl
   have ZD:Hid (de (ls.take (k+1))=de (ls.take k)++l++[13,10]):=ad (by rw[Ι ay,Xq,hle]);have xF:(de (ls.take k)).length+l.length+2≤140737488355328:=by
    have h3:=Xr ls (k+1);rw[ZD.out,κ,κ]at h3;exact ϊ h3 hs
   have C1:=ad (wD w.heap.size w.heap.size (τ (de (ls.take k))) ⟨l.toArray⟩ wr HI.out (by rw[Lib.byteCells_length];show _+l.toArray.size≤_;rw[List.size_toArray];omega) hB);clear hle;go_upto_region 6 with(go_at_call 155;refine(C1.out).mono ?_;rintro e w2 ⟨rfl,KX,az⟩);have SG:=(HX.out.trans az).size;have C2:=ad (wD w.heap.size w.heap.size (τ (de (ls.take k))++Lib.strCells ⟨l.toArray⟩) ⟨#[13,10]⟩ w2 (.inr KX) (by rw[Eg,Lib.byteCells_length,κ];show _+2≤_;omega) SG);have Sb:=ad (HX.out.trans az);clear C1 KX az HI HX;go_wp2_with (go_at_call 155;refine(C2.out).mono ?_;rintro e w3 ⟨rfl,YL,bw⟩);rw[Eg,show(⟨#[13,10]⟩:ByteArray)=⟨[(13:UInt8),10].toArray⟩from rfl,Eg,←ZD.out]at YL;have HI3:=ad YL;have HX3:=ad (Sb.out.trans bw);clear YL bw;go_wp2;go_roundw
   case rel=>exact⟨k+1,by omega,by go_num,ad (.inr HI3.out),HX3⟩
   case measure=>simp[intOf];omega
theorem Ac (z:Int)(w:ξ)(ht:iU w):
 Ζ prog 82 #[V Z z] w fun E w'=>E= δ (η ⟨(fC z).toArray⟩)∧Below w.heap.size w w':=by
 obtain⟨x,hx⟩:=yD z;have C:=vg z w ht;rw[hx]at C;have C:=ad C;clear hx ht;go_enter func82,ntmps82;go_wp2_with (go_at_call 18;refine(C.out).mono ?_;rintro e w1 ⟨rfl,hb⟩);go_ret;exact⟨rfl,hb⟩
def Bu (ts:List (List UInt8))(n:Nat):List Value:=strs ts++ω (n - ts.length) (η ⟨#[]⟩)
theorem Xs {ts:List (List UInt8)}{n k:Nat}(hz:ts.length=k)(hk:k<n):(Bu ts n)[k]?=some (η ⟨#[]⟩):=by
 unfold Bu;rw[Α (by rw[iF];omega),iF];simp[hz,Γ];omega
theorem Xt {ts:List (List UInt8)}{n k:Nat}(hz:ts.length=k)(hk:k<n)(t:List UInt8):(Bu ts n).set k (η ⟨t.toArray⟩)=Bu (ts++[t]) n:=by
 unfold Bu;rw[Ε _ _ (by rw[iF];omega),iF];have:n - ts.length=(n - (ts++[t]).length)+1:=by simp;omega
 rw[this,Η,uF];simp[hz]
theorem UW {ts:List (List UInt8)}{n:Nat}(hz:ts.length=n):Bu ts n=strs ts:=by
 unfold Bu;rw[hz];simp
theorem Xu (ls:List (List UInt8))(c:UInt8)(g cap:Nat)(w:ξ)(h:af w g (strs ls) 9)(hc:ls.length≤cap)(hb:∀t∈ls,t.length≤1048600)(hn:ls.length≤100):
 Ζ prog 154 #[ζ (some ⟨g,0,none⟩) ls.length cap, η ⟨#[c]⟩] w fun E w'=>E= δ (η ⟨(χ ls [c]).toArray⟩)∧Below w.heap.size w w':=by
 have e1:(ls.map bH).map (·.data.toList)=ls:=by
  rw[List.map_map];conv=>rhs;rw[←List.map_id ls]
  apply Ξ;intro a _;rfl
 have k:=Tryz.strings_Join g 0 cap (ls.map bH) ⟨#[c]⟩ w (fun j x hx=>by
  rw[Δ];refine h.cell (y:= η x) ?_;rw[φ]at hx;obtain⟨a,ha,rfl⟩:=Option.map_eq_some_iff.1 hx;unfold strs;rw[φ,ha];rfl) h.lt (by rw[ο];omega) (by rw[ο];exact hc) (by
   rw[e1];have:=gW [c] 1048600 ls hb;rw[show(⟨#[c]⟩:ByteArray).data.toList=[c]from rfl];have h2:ls.length * (1048600+[c].length)≤100 * 1048601:=Ω hn (by simp);omega)
 rw[e1,ο]at k;exact k
theorem zp (g cap:Nat)(zs rest:List Int)(w:ξ)(ht:iU w)(hr:af w g ((zs++rest).map (Value.int Z)) 3)(hl:zs.length≤100):
 Ζ prog 85 #[ζ (some ⟨g,0,none⟩) zs.length cap] w fun E w'=>E= δ (η ⟨(χ (zs.map fC) [44]).toArray⟩)∧Below w.heap.size w w':=by
 have mk:=run_make_row' (P:=prog) 52 9 (η ⟨#[]⟩) 16 underlying52 eK rfl Z Z zs.length (by omega) (by omega);rw[PI]at mk;have ax:=af.new w (ω zs.length (η ⟨#[]⟩)) 9;have hg:=hr.lt;have bz:Below w.heap.size w (w.alloc (θ (ω zs.length (η ⟨#[]⟩)).toArray 9)):=(μ _ _).alloc (ν _) _;have HR:=ad hr;have HT:=ad ht;clear hr ht;go_enter func85,ntmps85;go_wp2;clear mk;go_loopw [11] (fun i wr=>∃k:Nat,k≤zs.length∧i= V Z k∧Hid (af wr w.heap.size (Bu ((zs.take k).map fC) zs.length) 9)∧Hid (Below w.heap.size w wr)) (fun i _=>zs.length - (intOf i).toNat)
 case atStart=>exact⟨0,Μ _,rfl,ad ax,ad bz⟩
 case round=>
  obtain⟨k,hk,rfl,HW,HX⟩:=hrel;have hB:=HX.out.size;by_cases ay:k<zs.length
  case neg=>
   have fB:k=zs.length:=by omega
   subst fB;have CJ:=ad (Xu (zs.map fC) 44 w.heap.size zs.length wr (by have:=HW.out;rw[Ρ,UW (by simp)]at this;exact this) (by simp) (fun t h=>by
    obtain⟨z,_,rfl⟩:=List.mem_map.1 h;have:=sb z;omega) (by simp;omega))
   rw[ο]at CJ;go_wp2_with (go_at_call 154;refine(CJ.out).mono ?_;rintro e w2 ⟨rfl,az⟩);go_ret;exact⟨rfl,HX.out.trans (az.mono hB)⟩
  case pos=>
   obtain⟨z,hz⟩:∃z,zs[k]?=some z:=⟨_,π ay⟩;have cR:wr.cell? ⟨g,k,none⟩=some (V Z z):=by
    rw[HX.out.cell (p:=⟨g,k,none⟩) hg];refine HR.out.cell ?_;rw[φ,List.getElem?_append_left ay,hz];rfl
   have ZD:Hid ((zs.take (k+1)).map fC=(zs.take k).map fC++[fC z]):=ad (by
    rw[List.take_add_one,hz];simp)
   have Og:((zs.take k).map fC).length=k:=by simp;omega
   have C:=ad (Ac z wr (HT.out.on HX.out));clear hz;go_wp2_with (go_at_call 82;refine(C.out).mono ?_;rintro e w1 ⟨rfl,ai⟩;have jX:=HW.out.on ai;have c1:=jX.cell (Xs Og ay);have f1:=jX.free (k:=k));have xh:=jX.set (k:=k) (η ⟨(fC z).toArray⟩);rw[Xt Og ay,←ZD.out]at xh;have HR2:=ad xh;have Sb:=ad ((HX.out.trans (ai.mono hB)).setCell (p:=⟨w.heap.size,k,none⟩) (ν _) (η ⟨(fC z).toArray⟩));go_roundw
   case rel=>exact⟨k+1,by omega,by go_num,HR2,Sb⟩
   case measure=>simp[intOf];omega
theorem IE (xs:List (List UInt8))(y sep:List UInt8)(h:xs≠[]):χ (xs++[y]) sep=χ xs sep++sep++y:=by
 cases xs with
 |nil=>exact absurd rfl h
 |cons x r=>rw[List.cons_append,Lib.join_cons,Lib.join_cons];simp[Lib.joinTail]
theorem DH:∀(zs:List Int) (k:Nat),k≤zs.length→zz zs k=χ ((zs.take k).map fC) [44]
 |zs,0,_=>by rw[List.take_zero];rfl
 |zs,k+1,h=>by
  have ih:=DH zs k (by omega);have hk:k<zs.length:=by omega
  rw[zz,ih,Ι hk,Χ];rw[Β,π hk];simp only[ψ,List.map_cons,List.map_nil];by_cases h0:k=0
  ·subst h0;rw[if_pos rfl,List.take_zero];simp[Lib.join_nil,Lib.join_one]
  ·rw[if_neg h0];rw[IE _ _ _ (fun e=>by have:=congrArg List.length e;rw[ο,List.length_take,List.length_nil]at this;omega)]
def cN (w:ξ)(v:Value)(zs:List Int):Prop:=(v= ζ none 0 0∧zs=[])∨∃g,v= ζ (some ⟨g,0,none⟩) zs.length zs.length∧af w g (zs.map (Value.int Z)) 3
def iB (w:ξ)(v:Value)(zs:List (Int×Int)):Prop:=(v= ζ none 0 0∧zs=[])∨∃g,v= ζ (some ⟨g,0,none⟩) zs.length zs.length∧af w g (flat zs) 183
theorem cN.form {w:ξ}{v:Value}{zs:List Int}(h:cN w v zs):∃a,v= ζ a zs.length zs.length:=by
 rcases h with⟨rfl,rfl⟩|⟨g,rfl,_⟩<;>exact⟨_,rfl⟩
theorem iB.form {w:ξ}{v:Value}{zs:List (Int×Int)}(h:iB w v zs):∃a,v= ζ a zs.length zs.length:=by
 rcases h with⟨rfl,rfl⟩|⟨g,rfl,_⟩<;>exact⟨_,rfl⟩
theorem cN.on {w w':ξ}{v:Value}{zs:List Int}(h:cN w v zs)(hb:Below w.heap.size w w'):cN w' v zs:=
 h.imp id fun⟨g,h1,h2⟩=>⟨g,h1,h2.on hb⟩
theorem iB.on {w w':ξ}{v:Value}{zs:List (Int×Int)}(h:iB w v zs)(hb:Below w.heap.size w w'):iB w' v zs:=
 h.imp id fun⟨g,h1,h2⟩=>⟨g,h1,h2.on hb⟩
theorem IS (zs:List (Int×Int))(k:Nat)(q:Int×Int)(h:zs[k]?=some q):(flat zs)[k * 2]?=some (V Z q.1):=by
 induction zs generalizing k with
 |nil=>simp at h
 |cons a r ih=>
  cases k with
  |zero=>simp at h;subst h;simp[flat]
  |succ k=>
   have:=ih k (by simpa using h);rw[show(k+1) * 2=k * 2+2 from by omega];simpa[flat]using this
theorem IT (zs:List (Int×Int))(k:Nat)(q:Int×Int)(h:zs[k]?=some q):(flat zs)[k * 2+1]?=some (V Z q.2):=by
 induction zs generalizing k with
 |nil=>simp at h
 |cons a r ih=>
  cases k with
  |zero=>simp at h;subst h;simp[flat]
  |succ k=>
   have:=ih k (by simpa using h);rw[show(k+1) * 2+1=k * 2+1+2 from by omega];simpa[flat]using this
def fU (zs:List (Int×Int)):Bool:=zs.any fun q=>decide (q.1≠0)
def aY (fq iv ct un:Int)(m md wk pl:Value)(ws:Int)(tx:ByteArray):Value:= .agg #[V Z fq, V Z iv, V Z ct, V Z un,m,md,wk,pl, V Z ws, η tx]
theorem G5 (fq iv ct un ws:Int)(m md wk pl:Value)(tx:ByteArray)(zs:List (Int×Int))(w:ξ)(hz:zs.length≤20)(h:iB w wk zs)(h1:∃a n c,m= ζ a n c)(h2:∃a n c,md= ζ a n c)(h3:∃a n c,pl= ζ a n c):
 Ζ prog 211 #[aY fq iv ct un m md wk pl ws tx] w fun E w'=>E= δ (.bool (fU zs))∧Below w.heap.size w w':=by
 unfold aY;obtain⟨a1,n1,c1,rfl⟩:=h1;obtain⟨a2,n2,c2,rfl⟩:=h2;obtain⟨a3,n3,c3,rfl⟩:=h3;rcases h with⟨rfl,rfl⟩|⟨g,rfl,ax⟩
 ·go_enter func211,ntmps211;go_wp2;go_loop [8] (fun i=>i= V Z 0) (fun _=>0)
  case atStart=>rfl
  case round=>
   subst hrel;go_wp2;go_ret;exact⟨rfl,(μ _ _).alloc (ν _) _⟩
 ·have hl:=ax.lt;go_enter func211,ntmps211;go_wp2;have bz:Below w.heap.size w (w.alloc (θ #[V Z fq, V Z iv, V Z ct, V Z un, ζ a1 n1 c1, ζ a2 n2 c2, ζ (some ⟨g,0,none⟩) zs.length zs.length, ζ a3 n3 c3, V Z ws, η tx] 76)):=(μ _ _).alloc (ν _) _;generalize w.alloc (θ #[V Z fq, V Z iv, V Z ct, V Z un, ζ a1 n1 c1, ζ a2 n2 c2, ζ (some ⟨g,0,none⟩) zs.length zs.length, ζ a3 n3 c3, V Z ws, η tx] 76)=W at *
  go_loopw [8] (fun i wr=>∃k:Nat,k≤zs.length∧i= V Z k∧Below w.heap.size w wr∧Hid (fU zs=fU (zs.drop k))) (fun i _=>zs.length - (intOf i).toNat)
  case atStart=>exact⟨0,Μ _,rfl,bz,ad (by simp)⟩
  case round=>
   obtain⟨k,hk,rfl,aX,HT⟩:=hrel;by_cases ay:k<zs.length
   case neg=>
    have fB:k=zs.length:=by omega
    subst fB;have HE:Hid (fU zs=false):=ad (by rw[HT.out,Υ];rfl);clear HT;go_wp2;go_ret;exact⟨by rw[HE.out];rfl,aX⟩
   case pos=>
    obtain⟨q,hq⟩:∃q,zs[k]?=some q:=⟨_,π ay⟩;have hr:=ax.on aX;have d0:=hr.cell (IS zs k q hq);have d1:=hr.cell (IT zs k q hq);have hd:zs.drop k=q::zs.drop (k+1):=by
     obtain⟨lR,he⟩:=List.getElem?_eq_some_iff.1 hq;rw[List.drop_eq_getElem_cons lR,he]
    have hB:=aX.size;by_cases fH:q.1=0
    ·have HE:Hid (fU zs=fU (zs.drop (k+1))):=ad (by rw[HT.out,hd];unfold fU;rw[List.any_cons];simp[fH]);have g1:(q.1 !=0)=false:=by simp[fH]
     clear HT hd fH hq;go_wp2;go_roundw
     case rel=>exact⟨k+1,by omega,by go_num,aX.alloc hB _,HE⟩
     case measure=>simp[intOf];omega
    ·have HE:Hid (fU zs=true):=ad (by rw[HT.out,hd];unfold fU;rw[List.any_cons];simp[fH]);have g1:(q.1 !=0)=true:=by simpa using fH
     clear HT hd fH hq;go_wp2;go_ret;exact⟨by rw[HE.out];rfl,aX.alloc hB _⟩
def sy (fq:Int)(nm nd nw np:Nat)(ord:Bool):Bool:=
 let ik:=(decide (fq=2)||decide (fq=3))&&decide (nd=0)
 if !ik&&ord then false else if decide (fq=1)&&decide (0<nd)then false else decide (0<nm)||decide (0<nd)||decide (0<nw)||decide (np=0)
theorem Bv {w w1:ξ}{cs:Array Value}{t:TypeId}(hb:Below (w.alloc (θ cs t)).heap.size (w.alloc (θ cs t)) w1)(i:Nat)(v:Value)(h:cs[i]?=some v):w1.cell? ⟨w.heap.size,i,none⟩=some v:=by
 rw[hb.cell (p:=⟨w.heap.size,i,none⟩) (by simp)];simp[h]
theorem FX (fq iv ct un ws:Int)(m md pl:Option Addr)(nm nd np cm cd cp:Nat)(wk:Value)(tx:ByteArray)(zs:List (Int×Int))(w:ξ)(kC:0≤fq)(IL:fq≤3)(hz:zs.length≤20)(h:iB w wk zs):
 Ζ prog 152 #[aY fq iv ct un (ζ m nm cm) (ζ md nd cd) wk (ζ pl np cp) ws tx] w fun E w'=>E= δ (.bool (sy fq nm nd zs.length np (fU zs)))∧Below w.heap.size w w':=by
 obtain⟨wa,hwa⟩:=h.form;have co:=fun W (hb:Below w.heap.size w W)=>G5 fq iv ct un ws (ζ m nm cm) (ζ md nd cd) wk (ζ pl np cp) tx zs W hz (h.on hb) ⟨_,_,_,rfl⟩ ⟨_,_,_,rfl⟩ ⟨_,_,_,rfl⟩;rw[hwa]at co⊢;clear h hwa;unfold aY at co⊢;generalize fU zs=ord at co⊢;generalize zs.length=nw at co⊢;obtain⟨cw,hcw⟩:∃c,c=nw:=⟨_,rfl⟩;rw[show Value.slice wa nw nw= ζ wa nw cw by rw[hcw]]at co⊢;clear hcw;have bz:Below w.heap.size w (w.alloc (θ #[V Z fq, V Z iv, V Z ct, V Z un, ζ m nm cm, ζ md nd cd, ζ wa nw cw, ζ pl np cp, V Z ws, η tx] 76)):=(μ _ _).alloc (ν _) _;have CO:=ad co;clear co;have tz:fq=0∨fq=1∨fq=2∨fq=3:=by omega
 clear kC IL;rcases tz with rfl|rfl|rfl|rfl<;>rcases Nat.eq_zero_or_pos nd with rfl|gi<;>cases ord
 all_goals
  go_enter func152,ntmps152;go_wp2_with (go_at_call 211;refine(CO.out _ bz).mono ?_;rintro e w1 ⟨rfl,ai⟩;have q0:=Bv ai 0 _ rfl;have q4:=Bv ai 4 _ rfl;have q5:=Bv ai 5 _ rfl;have q6:=Bv ai 6 _ rfl;have q7:=Bv ai 7 _ rfl)
 all_goals go_ret
 all_goals
  refine⟨congrArg (fun b=>Ending.returned (Value.bool b)) ?_,by first|exact bz.trans (ai.mono bz.size)|exact(μ _ _).alloc (ν _) _⟩;clear CO bz
  try clear q0 q4 q5 q6 q7
  unfold sy;simp_all
 all_goals first|omega|(rw[Bool.eq_iff_iff];simp;try omega)
section
variable {P:Program} {ops:Array Oper} {Q:Exit→Act→ξ→Prop} {md:Region.Mode}
theorem gI {listed:Array Bool}{i:Nat}(h:i∈υ md ops listed):i<ops.size∧listed.getD i true=false∧∃o,ops[i]?=some o∧∀e∈o.after,ρ md e=true→listed.getD e.on false=true:=by
 unfold υ at h;rw[Φ,Ψ]at h;obtain⟨hi,h⟩:=h;rw[Bool.and_eq_true]at h;obtain⟨h1,h2⟩:=h;refine⟨hi,by simpa using h1,ops[i],ι hi,?_⟩;rw[ι hi,Λ,ψ,Θ]at h2;intro e he hb;have:=h2 e he;rw[hb]at this;simpa using this
theorem yh {listed:Array Bool}{i:Nat}{o:Oper}(ho:ops[i]?=some o)(h1:listed.getD i true=false)(h2:∀e∈o.after,ρ md e=true→listed.getD e.on false=true):i∈υ md ops listed:=by
 unfold υ;rw[Φ,Ψ];refine⟨(Array.getElem?_eq_some_iff.1 ho).1,?_⟩;rw[Bool.and_eq_true];refine⟨by simp only[h1,Bool.not_false],?_⟩;rw[ho,Λ,ψ,Θ];intro e he;cases hb:ρ md e
 ·rfl
 ·rw[h2 e he hb];rfl
def forward (md:Region.Mode)(ops:Array Oper):Bool:=(List.range ops.size).all fun i=>((ops[i]?).map fun o=>o.after.all fun e=>!Region.binds md e||decide (e.on<i)).getD true
theorem ka (h:forward md ops=true){i:Nat}{o:Oper}(ho:ops[i]?=some o):∀e∈o.after,ρ md e=true→e.on<i:=by
 unfold forward at h;rw[List.all_eq_true]at h;have:=h i (List.mem_range.2 (Array.getElem?_eq_some_iff.1 ho).1);rw[ho,Λ,ψ,Θ]at this;intro e he hb;have:=this e he;rw[hb]at this;simpa using this
theorem cP {l:Array Bool}{i:Nat}(d:Bool)(h:i<l.size):l.getD i d=l[i]:=by simp[Ο,h]
theorem yi (hf:forward md ops=true){listed:Array Bool}(hs:listed.size=ops.size)(hr:υ md ops listed=[]):∀i,i<ops.size→listed.getD i false=true:=by
 intro i
 induction i using Nat.strongRecOn with
 |ind i ih=>
  intro hi;cases hc:listed.getD i false
  ·exfalso;have:i∈υ md ops listed:=yh (ι hi) (by rw[cP _ (by omega)]at hc⊢;exact hc)
    (fun e he hb=>ih e.on (ka hf (ι hi) e he hb) (Nat.lt_trans (ka hf (ι hi) e he hb) hi))
   rw[hr]at this;simp at this
  ·rfl
theorem Rh (G:Nat→Act→ξ→Prop)(I:Act→ξ→Prop)(hf:forward md ops=true)
 (H:∀i o a w,ops[i]?=some o→I a w→(∀e∈o.after,ρ md e=true→G e.on a w)→wpOp P ops Q i (fun a' w'=>I a' w'∧G i a' w'∧∀j oj,ops[j]?=some oj→j≠i→(∀e∈oj.after,ρ md e=true→e.on≠i)→G j a w→G j a' w') a w)
 (D:∀a w,I a w→(∀i,i<ops.size→G i a w)→Q .normal a w):
 ∀(fuel:Nat) (listed:Array Bool) (a:Act) (w:ξ),listed.size=ops.size→listed.toList.count false≤fuel→I a w→(∀i,i<ops.size→listed.getD i false=true→G i a w)→(∀i o,ops[i]?=some o→listed.getD i false=true→∀e∈o.after,ρ md e=true→listed.getD e.on false=true)→wpAny P md ops Q fuel listed a w:=by
 intro fuel
 induction fuel with
 |zero=>
  intro listed a w hs hc hI hG hC;have bT:∀i,i<ops.size→listed.getD i false=true:=fun i hi=>by
   rw[cP _ (by omega)];cases hb:listed[i]'(by omega)
   ·exfalso;have:false∈listed.toList:=by rw[←hb];exact Array.mem_def.1 (Array.getElem_mem _)
    have:=List.count_pos_iff.2 this;omega
   ·rfl
  have hr:υ md ops listed=[]:=by
   rw[List.eq_nil_iff_forall_not_mem];intro i hi;obtain⟨h1,h2,_⟩:=gI hi;have:=bT i h1;rw[cP _ (by omega)]at this h2;rw[this]at h2;cases h2
  exact⟨hr,D a w hI (fun i hi=>hG i hi (bT i hi))⟩
 |succ fuel ih=>
  intro listed a w hs hc hI hG hC;refine⟨fun hr=>D a w hI (fun i hi=>hG i hi (yi hf hs hr i hi)),fun i hi=>?_⟩;obtain⟨h1,h2,o,ho,h3⟩:=gI hi;refine wpOp_mono (fun a' w' ⟨q1,q2,q3⟩=>?_) (H i o a w ho hI (fun e he hb=>hG e.on (Nat.lt_trans (ka hf ho e he hb) h1) (h3 e he hb)));have hup:∀k,listed.getD k false=true→(listed.setIfInBounds i true).getD k false=true:=fun k hk=>by
   by_cases qV:k=i
   ·subst qV;rw[cP _ (by simp;omega)];simp
   ·by_cases qT:k<listed.size
    ·rw[cP _ qT]at hk;rw[cP _ (by simp;exact qT),Κ _ (fun e=>qV e.symm)];exact hk
    ·simp[Ο,qT]at hk
  have ZE:∀k,k≠i→(listed.setIfInBounds i true).getD k false=true→listed.getD k false=true:=fun k qV hk=>by
   by_cases qT:k<listed.size
   ·rw[cP _ (by simp;exact qT),Κ _ (fun e=>qV e.symm)]at hk;rw[cP _ qT];exact hk
   ·simp[Ο,qT]at hk
  refine ih (listed.setIfInBounds i true) a' w' (by simp[hs]) ?_ q1 (fun j hj hl=>?_) (fun j oj gy hl e he hb=>?_)
  ·rw[Array.toList_setIfInBounds,List.count_set (by rw[Ν];omega)];have:listed.toList[i]'(by rw[Ν];omega)=false:=by
    rw[cP _ (by omega)]at h2;simpa using h2
   rw[this];have hp:0<listed.toList.count false:=List.count_pos_iff.2 (by rw[←this];exact List.getElem_mem _);show listed.toList.count false - 1+0≤fuel;omega
  ·by_cases lE:j=i
   ·subst lE;exact q2
   ·have hlj:=ZE j lE hl;refine q3 j ops[j] (ι hj) lE (fun e he hb Ku=>?_) (hG j hj hlj);have:=hC j ops[j] (ι hj) hlj e he hb;rw[Ku,cP _ (by omega)]at this;rw[cP _ (by omega),this]at h2;cases h2
  ·by_cases lE:j=i
   ·subst lE;rw[ho]at gy;cases gy;exact hup _ (h3 e he hb)
   ·exact hup _ (hC j oj gy (ZE j lE hl) e he hb)
theorem wP {id:Nat}{a:Act}{w:ξ}(G:Nat→Act→ξ→Prop)(I:Act→ξ→Prop)(hm:P.follows .mixedOrders=true)(hf:forward .any ops=true)
 (H:∀i o a w,ops[i]?=some o→I a w→(∀e∈o.after,ρ .any e=true→G e.on a w)→wpOp P ops Q i (fun a' w'=>I a' w'∧G i a' w'∧∀j oj,ops[j]?=some oj→j≠i→(∀e∈oj.after,ρ .any e=true→e.on≠i)→G j a w→G j a' w') a w)
 (D:∀a w,I a w→(∀i,i<ops.size→G i a w)→Q .normal a w)(hI:I a {w with drawn:=w.drawn+1}):(Code.region id ops true).wp P Q a w:=
 wp_region_any hm (Rh G I hf H D ops.size (Array.replicate ops.size false) a _ (by simp) (by rw[Array.toList_replicate,List.count_replicate];simp) hI (fun i hi h=>by
  rw[cP _ (by simpa using hi)]at h;simp at h) (fun i o ho h=>by
  rw[cP _ (by simpa using(Array.getElem?_eq_some_iff.1 ho).1)]at h;simp at h))
end
end Go.Proofs.YthpndgcaoeokeaaGreatDoor
