import Derived.Test.YthpndgcaoeokeaaGreatDoorCo3
import Derived.Test.YthpndgcaoeokeaaGreatDoorShelf
import Derived.Lib.AppendIntMem
import Derived.Lib.IndexLaws
set_option maxRecDepth 100000
set_option maxHeartbeats 8000000
open Go.IntKind renaming i64→Z
open Go.Value renaming int→V,pointer→ζ,string→η,bool→ο
open Go.Ending renaming returned→δ,panicked→ε
open Go.Obj renaming cells→θ
open Nat renaming le_refl→ι,le_of_lt→Δ
open Go renaming Calls→κ,World→ν,Addr→ω
open Go.RowKit.Below renaming refl→μ
open Go.Lib renaming decDigits→ξ,decDigits_one→χ
open List renaming mem_cons_of_mem→π,nil_append→ρ,mem_cons_self→υ,singleton_append→Α,getElem?_of_mem→Β,cons_append→Γ
open Go.Instr renaming makeFunc→τ
open Bool renaming false_ne_true→φ
open Int renaming eq_ofNat_of_zero_le→ψ
namespace Go.Proofs.YthpndgcaoeokeaaGreatDoor
open Tryz
open Go.RowKit Go.Sort
theorem zF (g:Nat)(eg:∀args w,(callFunc g args).run prog w= .ok (.enter g args) w)(p:ω)(n:Int)(w:ν)
 (hf:∀W,Below w.heap.size w W→κ prog g #[ζ (some p)] W fun E w'=>E= δ (V Z n)∧Below W.heap.size W w'):
 κ prog 37 #[.func (.func g) #[] #[ζ (some p)]] w fun E w'=>E= δ (.tuple #[V Z n, V Z 0])∧Below w.heap.size w w':=by
 have Cf:∀(fn:Fn) (first cap:Array Value) (w:ν),(τ fn first cap).run prog w= .ok (.func fn first cap) w:=fun _ _ _ _=>rfl;have HF:=ad hf;clear hf;go_enter_defers func37,ntmps37;go_wp2_with fail;refine(HF.out _ ((μ _ _).alloc (ι _) _)).mono ?_;rintro e w1 ⟨rfl,ai⟩;obtain⟨hc,po⟩:=lI ai;have hz:=ai.size;have h0:w1.cell? ⟨w.heap.size,0,none⟩=some (V Z 0):=by rw[hc _ _ (by simp)];simp[go_sem]
 have h1:w1.frozen? ⟨w.heap.size,0,none⟩=false:=by rw[po _ _ (by simp)];simp[go_sem]
 have ay:w.heap.size<w1.heap.size:=by simp at hz;omega
 have hb:Below w.heap.size w w1:=((μ _ _).alloc (ι _) _).trans (ai.mono (by simp));clear hc po ai hz;go_wp2;refine leaves_cons (f:=68) (args:=#[ζ (some ⟨w.heap.size,0,none⟩)]) (by simp) (by simp[go_sem]) ?_;refine(JX _ _).mono ?_;rintro e u' aA ⟨rfl,rfl,rfl⟩;refine⟨.tuple #[V Z n, V Z 0],?_,rfl,hb.setCell (ι _) _⟩;simp[results,results37,go_sem,h0]
theorem Bn (g:Nat)(eg:∀args w,(callFunc g args).run prog w= .ok (.enter g args) w)(p:ω)(x:Int)(w:ν)
 (hf:∀W,Below w.heap.size w W→κ prog g #[ζ (some p)] W fun E w'=>E= ε (bN x)∧Below W.heap.size W w'):
 κ prog 37 #[.func (.func g) #[] #[ζ (some p)]] w fun E w'=>E= δ (.tuple #[V Z 0, V Z x])∧Below w.heap.size w w':=by
 have Cf:∀(fn:Fn) (first cap:Array Value) (w:ν),(τ fn first cap).run prog w= .ok (.func fn first cap) w:=fun _ _ _ _=>rfl;have HF:=ad hf;clear hf;go_enter_defers func37,ntmps37;go_wp2_with fail;refine(HF.out _ ((μ _ _).alloc (ι _) _)).mono ?_;rintro e w1 ⟨rfl,ai⟩;obtain⟨hc,po⟩:=lI ai;have hz:=ai.size;have h0:w1.cell? ⟨w.heap.size,0,none⟩=some (V Z 0):=by rw[hc _ _ (by simp)];simp[go_sem]
 have h1:w1.frozen? ⟨w.heap.size,0,none⟩=false:=by rw[po _ _ (by simp)];simp[go_sem]
 have ay:w.heap.size<w1.heap.size:=by simp at hz;omega
 have hb:Below w.heap.size w w1:=((μ _ _).alloc (ι _) _).trans (ai.mono (by simp));clear hc po ai hz;refine leaves_cons (f:=68) (args:=#[ζ (some ⟨w.heap.size,0,none⟩)]) (by simp) (by simp[go_sem]) ?_;refine(AR ⟨w.heap.size,0,none⟩ x (V Z 0) [] _ h0 h1 ay).mono ?_;rintro e u' aA ⟨rfl,rfl,rfl⟩;refine⟨.tuple #[V Z 0, V Z x],?_,rfl,(hb.alloc (Δ ay) _).setCell (ι _) _⟩;have h2:((w1.alloc (θ #[V Z x] 103)).cell? ⟨w.heap.size,0,none⟩).isSome=true:=by
  rw[World.cell?_alloc_past _ _ _ ay,h0];rfl
 simp[results,results37,go_sem,h2]
theorem zG (g:Nat)(eg:∀args w,(callFunc g args).run prog w= .ok (.enter g args) w)(p:ω)(n:ByteArray)(w:ν)
 (hf:∀W,Below w.heap.size w W→κ prog g #[ζ (some p)] W fun E w'=>E= δ (η n)∧Below W.heap.size W w'):
 κ prog 34 #[.func (.func g) #[] #[ζ (some p)]] w fun E w'=>E= δ (.tuple #[η n, V Z 0])∧Below w.heap.size w w':=by
 have Cf:∀(fn:Fn) (first cap:Array Value) (w:ν),(τ fn first cap).run prog w= .ok (.func fn first cap) w:=fun _ _ _ _=>rfl;have HF:=ad hf;clear hf;go_enter_defers func34,ntmps34;go_wp2_with fail;refine(HF.out _ ((μ _ _).alloc (ι _) _)).mono ?_;rintro e w1 ⟨rfl,ai⟩;obtain⟨hc,po⟩:=lI ai;have hz:=ai.size;have h0:w1.cell? ⟨w.heap.size,0,none⟩=some (V Z 0):=by rw[hc _ _ (by simp)];simp[go_sem]
 have h1:w1.frozen? ⟨w.heap.size,0,none⟩=false:=by rw[po _ _ (by simp)];simp[go_sem]
 have ay:w.heap.size<w1.heap.size:=by simp at hz;omega
 have hb:Below w.heap.size w w1:=((μ _ _).alloc (ι _) _).trans (ai.mono (by simp));clear hc po ai hz;go_wp2;refine leaves_cons (f:=63) (args:=#[ζ (some ⟨w.heap.size,0,none⟩)]) (by simp) (by simp[go_sem]) ?_;refine(DU _ _).mono ?_;rintro e u' aA ⟨rfl,rfl,rfl⟩;refine⟨.tuple #[η n, V Z 0],?_,rfl,hb.setCell (ι _) _⟩;simp[results,results34,go_sem,h0]
theorem Bo (g:Nat)(eg:∀args w,(callFunc g args).run prog w= .ok (.enter g args) w)(p:ω)(x:Int)(w:ν)
 (hf:∀W,Below w.heap.size w W→κ prog g #[ζ (some p)] W fun E w'=>E= ε (bN x)∧Below W.heap.size W w'):
 κ prog 34 #[.func (.func g) #[] #[ζ (some p)]] w fun E w'=>E= δ (.tuple #[η ⟨#[]⟩, V Z x])∧Below w.heap.size w w':=by
 have Cf:∀(fn:Fn) (first cap:Array Value) (w:ν),(τ fn first cap).run prog w= .ok (.func fn first cap) w:=fun _ _ _ _=>rfl;have HF:=ad hf;clear hf;go_enter_defers func34,ntmps34;go_wp2_with fail;refine(HF.out _ ((μ _ _).alloc (ι _) _)).mono ?_;rintro e w1 ⟨rfl,ai⟩;obtain⟨hc,po⟩:=lI ai;have hz:=ai.size;have h0:w1.cell? ⟨w.heap.size,0,none⟩=some (V Z 0):=by rw[hc _ _ (by simp)];simp[go_sem]
 have h1:w1.frozen? ⟨w.heap.size,0,none⟩=false:=by rw[po _ _ (by simp)];simp[go_sem]
 have ay:w.heap.size<w1.heap.size:=by simp at hz;omega
 have hb:Below w.heap.size w w1:=((μ _ _).alloc (ι _) _).trans (ai.mono (by simp));clear hc po ai hz;refine leaves_cons (f:=63) (args:=#[ζ (some ⟨w.heap.size,0,none⟩)]) (by simp) (by simp[go_sem]) ?_;refine(xI ⟨w.heap.size,0,none⟩ x (V Z 0) [] _ h0 h1 ay).mono ?_;rintro e u' aA ⟨rfl,rfl,rfl⟩;refine⟨.tuple #[η ⟨#[]⟩, V Z x],?_,rfl,(hb.alloc (Δ ay) _).setCell (ι _) _⟩;have h2:((w1.alloc (θ #[V Z x] 103)).cell? ⟨w.heap.size,0,none⟩).isSome=true:=by
  rw[World.cell?_alloc_past _ _ _ ay,h0];rfl
 simp[results,results34,go_sem,h2]
theorem FF (args:Array Value)(w:ν):(callFunc 38 args).run prog w= .ok (.enter 38 args) w:=by simp[go_sem]
theorem FG (p:ω)(n:Int)(w:ν)
 (hf:∀W,Below w.heap.size w W→κ prog 38 #[ζ (some p)] W fun E w'=>E= δ (V Z n)∧Below W.heap.size W w'):
 κ prog 37 #[.func (.func 38) #[] #[ζ (some p)]] w fun E w'=>E= δ (.tuple #[V Z n, V Z 0])∧Below w.heap.size w w':=zF _ FF p n w hf
theorem GY (p:ω)(x:Int)(w:ν)
 (hf:∀W,Below w.heap.size w W→κ prog 38 #[ζ (some p)] W fun E w'=>E= ε (bN x)∧Below W.heap.size W w'):
 κ prog 37 #[.func (.func 38) #[] #[ζ (some p)]] w fun E w'=>E= δ (.tuple #[V Z 0, V Z x])∧Below w.heap.size w w':=Bn _ FF p x w hf
theorem Dj (args:Array Value)(w:ν):(callFunc 40 args).run prog w= .ok (.enter 40 args) w:=by simp[go_sem]
theorem D9 (p:ω)(n:Int)(w:ν)
 (hf:∀W,Below w.heap.size w W→κ prog 40 #[ζ (some p)] W fun E w'=>E= δ (V Z n)∧Below W.heap.size W w'):
 κ prog 37 #[.func (.func 40) #[] #[ζ (some p)]] w fun E w'=>E= δ (.tuple #[V Z n, V Z 0])∧Below w.heap.size w w':=zF _ Dj p n w hf
theorem FH (p:ω)(x:Int)(w:ν)
 (hf:∀W,Below w.heap.size w W→κ prog 40 #[ζ (some p)] W fun E w'=>E= ε (bN x)∧Below W.heap.size W w'):
 κ prog 37 #[.func (.func 40) #[] #[ζ (some p)]] w fun E w'=>E= δ (.tuple #[V Z 0, V Z x])∧Below w.heap.size w w':=Bn _ Dj p x w hf
theorem FI (args:Array Value)(w:ν):(callFunc 35 args).run prog w= .ok (.enter 35 args) w:=by simp[go_sem]
theorem FJ (p:ω)(n:ByteArray)(w:ν)
 (hf:∀W,Below w.heap.size w W→κ prog 35 #[ζ (some p)] W fun E w'=>E= δ (η n)∧Below W.heap.size W w'):
 κ prog 34 #[.func (.func 35) #[] #[ζ (some p)]] w fun E w'=>E= δ (.tuple #[η n, V Z 0])∧Below w.heap.size w w':=zG _ FI p n w hf
theorem GZ (p:ω)(x:Int)(w:ν)
 (hf:∀W,Below w.heap.size w W→κ prog 35 #[ζ (some p)] W fun E w'=>E= ε (bN x)∧Below W.heap.size W w'):
 κ prog 34 #[.func (.func 35) #[] #[ζ (some p)]] w fun E w'=>E= δ (.tuple #[η ⟨#[]⟩, V Z x])∧Below w.heap.size w w':=Bo _ FI p x w hf
theorem FK (args:Array Value)(w:ν):(callFunc 42 args).run prog w= .ok (.enter 42 args) w:=by simp[go_sem]
theorem EO (p:ω)(n:ByteArray)(w:ν)
 (hf:∀W,Below w.heap.size w W→κ prog 42 #[ζ (some p)] W fun E w'=>E= δ (η n)∧Below W.heap.size W w'):
 κ prog 34 #[.func (.func 42) #[] #[ζ (some p)]] w fun E w'=>E= δ (.tuple #[η n, V Z 0])∧Below w.heap.size w w':=zG _ FK p n w hf
theorem Gh (p:ω)(x:Int)(w:ν)
 (hf:∀W,Below w.heap.size w W→κ prog 42 #[ζ (some p)] W fun E w'=>E= ε (bN x)∧Below W.heap.size W w'):
 κ prog 34 #[.func (.func 42) #[] #[ζ (some p)]] w fun E w'=>E= δ (.tuple #[η ⟨#[]⟩, V Z x])∧Below w.heap.size w w':=Bo _ FK p x w hf
theorem FL (s:ByteArray)(p:ω)(W:ν)(hc:W.cell? p=some (η s)):
 κ prog 38 #[ζ (some p)] W fun E w'=>E=rj s∧Below W.heap.size W w':=by
 by_cases h:la s
 ·have c:=fun W=>AQ s W;rw[ve h]at c⊢;have C:=ad c;clear c h;go_enter func38,ntmps38;go_wp2_with (go_at_call 39;refine(C.out _).mono ?_;rintro e w1 ⟨rfl,hb⟩);go_ret;exact⟨rfl,hb⟩
 ·have c:=fun W=>AQ s W;rw[jP h]at c⊢;have C:=ad c;clear c h;go_enter func38,ntmps38;go_wp2_with (go_at_call 39;refine(C.out _).mono ?_;rintro e w1 ⟨rfl,hb⟩);exact⟨rfl,rfl,hb⟩
theorem wy (s:ByteArray)(w:ν):
 κ prog 19 #[η s] w fun E w'=>E= δ (lM s)∧Below w.heap.size w w':=by
 have Cf:∀(fn:Fn) (first cap:Array Value) (w:ν),(τ fn first cap).run prog w= .ok (.func fn first cap) w:=fun _ _ _ _=>rfl;have dP:∀W,Below (w.alloc (θ #[η s] 9)).heap.size (w.alloc (θ #[η s] 9)) W→W.cell? ⟨w.heap.size,0,none⟩=some (η s):=fun W hb=>by
  rw[hb.cell (p:=⟨w.heap.size,0,none⟩) (by simp)];simp[go_sem]
 by_cases h:la s
 ·rw[ju h];have c:=FG ⟨w.heap.size,0,none⟩ (eI s) (w.alloc (θ #[η s] 9)) (fun W hb=>by
   have:=FL s ⟨w.heap.size,0,none⟩ W (dP W hb);rw[ve h]at this;exact this)
  have C:=ad c;clear c dP h;go_enter func19,ntmps19;go_wp2_with (go_at_call 37;refine(C.out).mono ?_;rintro e w1 ⟨rfl,hb⟩);go_ret2;exact⟨rfl,((μ _ _).alloc (ι _) _).trans (hb.mono (by simp))⟩
 ·rw[iC h];have c:=GY ⟨w.heap.size,0,none⟩ 1 (w.alloc (θ #[η s] 9)) (fun W hb=>by
   have:=FL s ⟨w.heap.size,0,none⟩ W (dP W hb);rw[jP h]at this;exact this)
  have C:=ad c;clear c dP h;go_enter func19,ntmps19;go_wp2_with (go_at_call 37;refine(C.out).mono ?_;rintro e w1 ⟨rfl,hb⟩);go_ret2;exact⟨rfl,((μ _ _).alloc (ι _) _).trans (hb.mono (by simp))⟩
def iU (w:ν):Prop:=Lib.TabIs prog w "internal/strconv.uint64pow10" .u64 Lib.pow10Tab
theorem iU.on {w w':ν}(h:iU w)(hb:Below w.heap.size w w'):iU w':=Lib.tabBelow_of_tabIs h w' hb
theorem Pz (s:ByteArray)(w:ν):κ prog 122 #[η s, V Z 0] w fun e w'=>e= δ (η ⟨#[]⟩)∧w=w':=by
 go_enter func122,ntmps122;go_wp2;go_ret;exact⟨rfl,rfl⟩
theorem aaK (s:ByteArray)(w:ν):κ prog 122 #[η s, V Z 1] w fun e w'=>e= δ (η s)∧w=w':=by
 go_enter func122,ntmps122;go_wp2;go_ret;exact⟨rfl,rfl⟩
theorem mg {u:Nat}(h:¬u<10):ξ u=ξ (u/10)++[UInt8.ofNat (48+u%10)]:=by
 rw[ξ,dif_neg h]
theorem MO (u:Nat)(h:¬u<10)(h2:u<100):ξ u=pad 2 u:=by
 rw[mg h,χ (by omega)];simp only[pad,ρ,Α];congr 1
 ·congr 1;omega
theorem WM (u:Nat)(h:u<10):[48]++ξ u=pad 2 u:=by
 rw[χ h];simp only[pad,ρ,Α];congr 1
 ·have:(48+(u:Int)/10%10).toNat=48:=by omega
  rw[this];rfl
 ·congr 1;congr 1;omega
theorem MP (u:Nat)(h:1000≤u)(h2:u<10000):ξ u=pad 4 u:=by
 rw[mg (by omega),mg (u:=u/10) (by omega),mg (u:=u/10/10) (by omega),χ (by omega)];have a1:(48+(u:Int)/10/10/10%10).toNat=48+u/10/10/10:=by omega
 have a2:(48+(u:Int)/10/10%10).toNat=48+u/10/10%10:=by omega
 have a3:(48+(u:Int)/10%10).toNat=48+u/10%10:=by omega
 have a4:(48+(u:Int)%10).toNat=48+u%10:=by omega
 simp only[pad,ρ,a1,a2,a3,a4]
theorem KH (u:Nat)(w:ν)(h:u≤10000000)(ht:iU w):
 κ prog 83 #[V Z u] w fun e w'=>e= δ (η ⟨(ξ u).toArray⟩)∧Below w.heap.size w w':=
 (Tryz.strconv_Itoa (u:Int) (by omega) (by omega) w ht).mono fun e w' ⟨h1,k,os,h2⟩=>by
  rw[Lib.itoa_nonneg]at h1;refine⟨h1,?_⟩;rw[h2];refine⟨rfl,rfl,rfl,by simp[grow,World.drewN],fun j hj=>?_⟩;simp[grow,World.drewN,Array.getElem?_append,hj]
theorem G0 (u width:Nat)(w:ν)(ht:iU w)(h:(width=2∧u<100)∨(width=4∧1000≤u∧u<10000)):
 κ prog 67 #[V Z u, V Z width] w fun e w'=>e= δ (η ⟨(pad width u).toArray⟩)∧Below w.heap.size w w':=by
 have c:=KH u w (by omega) ht;have hl:(ξ u).length=Lib.nDigits u:=Lib.decDigits_length u;have C:=ad c;clear c;rcases h with⟨rfl,h2⟩|⟨rfl,h4,h5⟩
 ·by_cases h1:u<10
  ·have e1:(ξ u).length=1:=by rw[χ h1];rfl
   have E:=ad (WM u h1);clear hl;go_enter func67,ntmps67;go_wp2_with (first
    |(go_at_call 83;refine(C.out).mono ?_;rintro e w1 ⟨rfl,hb⟩)
    |(go_at_call 122;refine(aaK _ _).mono ?_;rintro e w' ⟨rfl,rfl⟩))
   go_ret;exact⟨nG ((og [48] _).trans (by rw[E.out])),hb⟩
  ·have e1:(ξ u).length=2:=by rw[MO u h1 h2,oe]
   have E:=ad (MO u h1 h2);clear hl;go_enter func67,ntmps67;go_wp2_with (first
    |(go_at_call 83;refine(C.out).mono ?_;rintro e w1 ⟨rfl,hb⟩)
    |(go_at_call 122;refine(Pz _ _).mono ?_;rintro e w' ⟨rfl,rfl⟩))
   go_ret;exact⟨nG ((og [] _).trans (by rw[E.out,ρ])),hb⟩
 ·have e1:(ξ u).length=4:=by rw[MP u h4 h5,oe]
  have E:=ad (MP u h4 h5);clear hl;go_enter func67,ntmps67;go_wp2_with (first
   |(go_at_call 83;refine(C.out).mono ?_;rintro e w1 ⟨rfl,hb⟩)
   |(go_at_call 122;refine(Pz _ _).mono ?_;rintro e w' ⟨rfl,rfl⟩))
  go_ret;exact⟨nG ((og [] _).trans (by rw[E.out,ρ])),hb⟩
theorem Ra (n:Int):(⟨(pad 4 (ae.ag (n/86400))).toArray⟩:ByteArray)++⟨(pad 2 (ae.ofM (n/86400))).toArray⟩++⟨(pad 2 (ae.ar (n/86400))).toArray⟩++⟨#[84]⟩++
 ⟨(pad 2 (n%86400/3600)).toArray⟩++⟨(pad 2 (n%3600/60)).toArray⟩++⟨(pad 2 (n%60)).toArray⟩++⟨#[90]⟩=⟨(lf n).toArray⟩:=by
 rw[show n%3600/60=n%86400/60%60 from by omega];exact Ha n
theorem J2 (W:ν)(n width:Int)(D:Nat)(os:Array Obj)(ht:iU W)(h0:0≤n)(h1:0≤width)(h:(width=2∧n<100)∨(width=4∧1000≤n∧n<10000)):
 κ prog 67 #[V Z n, V Z width] (grow (redrawn W D) os) fun e aA=>e= δ (η ⟨(pad width.toNat n).toArray⟩)∧∃p:Regrown,aA=grow (redrawn W p.d) p.os:=by
 obtain⟨k,rfl⟩:=ψ h1;obtain⟨u,rfl⟩:=ψ h0;exact Calls.regrown_of (G0 u k _ (ht.on (below_regrown W D os)) (by omega))
theorem MQ (n:Int)(w:ν)(h:cD n=false):
 κ prog 36 #[V Z n] w fun e w'=>e= ε (bN 1)∧Below w.heap.size w w':=by
 have e1:ae.num 2200 1 1 * 86400=7258118400:=by rw[ae.pr];rfl
 have E1:=ad e1;clear e1;by_cases h0:0≤n
 ·have h1:¬n<7258118400:=by simp[cD,h0]at h;omega
  have zc:decide (n<7258118400)=false:=by simpa using h1
  clear h;go_enter func36,ntmps36;go_wp2_with (first
   |(go_at_call 64;refine(gT _ _ _ _ (by omega) (by omega) (by omega) (by omega) (by omega) (by omega)).mono ?_;rintro e w1 ⟨rfl,hb⟩;rw[E1.out])
   |(go_at_call_of 65 (ο false);refine(aM _ _).mono ?_;rintro e w' ⟨rfl,rfl⟩))
  exact⟨rfl,rfl,hb⟩
 ·have Xy:decide (0≤n)=false:=by simpa using h0
  clear h;go_enter func36,ntmps36;go_wp2_with (first
   |(go_at_call 64;refine(gT _ _ _ _ (by omega) (by omega) (by omega) (by omega) (by omega) (by omega)).mono ?_;rintro e w1 ⟨rfl,hb⟩;rw[E1.out])
   |(go_at_call_of 65 (ο false);refine(aM _ _).mono ?_;rintro e w' ⟨rfl,rfl⟩))
  exact⟨rfl,rfl,hb⟩
theorem J3 (n:Int)(w:ν)(ht:iU w)(h:cD n=true):
 κ prog 36 #[V Z n] w fun e w'=>e= δ (η ⟨(lf n).toArray⟩)∧Below w.heap.size w w':=by
 have E1:Hid (ae.num 2200 1 1 * 86400=7258118400):=ad (by rw[ae.pr];rfl);have hb:0≤n∧n<7258118400:=by simpa[cD]using h
 have hd:=Rk (n:=n/86400) (by omega) (by omega);obtain⟨d1,d2,d3,d4,d5,d6⟩:=hd;have hm:=ae.fS (ae.ag (n/86400)) (ae.ofM (n/86400));clear h;go_enter func36,ntmps36;go_wp2_with (first
  |(go_at_call 64;refine(gT _ _ _ _ (by omega) (by omega) (by omega) (by omega) (by omega) (by omega)).mono ?_;rintro e w1 ⟨rfl,ai⟩;rw[E1.out])
  |(go_at_call_of 65 (ο true);refine(aF _ _).mono ?_;rintro e w' ⟨rfl,rfl⟩)
  |(go_at_call 66;refine(Fc _ _ (by omega) (by omega)).mono ?_;rintro e w2 ⟨rfl,az⟩;unfold cS))
 have Hf:Below w.heap.size w w2:=ai.trans (az.mono ai.size);have ah:Below w.heap.size w (w2.alloc (θ #[V Z (ae.ag (n/86400)), V Z (ae.ofM (n/86400)), V Z (ae.ar (n/86400))] 106)):=Hf.alloc Hf.size _;have c0:(w2.alloc (θ #[V Z (ae.ag (n/86400)), V Z (ae.ofM (n/86400)), V Z (ae.ar (n/86400))] 106)).cell? ⟨w2.heap.size,0,none⟩=some (V Z (ae.ag (n/86400))):=by simp[go_sem]
 have c1:(w2.alloc (θ #[V Z (ae.ag (n/86400)), V Z (ae.ofM (n/86400)), V Z (ae.ar (n/86400))] 106)).cell? ⟨w2.heap.size,1,none⟩=some (V Z (ae.ofM (n/86400))):=by simp[go_sem]
 have c2:(w2.alloc (θ #[V Z (ae.ag (n/86400)), V Z (ae.ofM (n/86400)), V Z (ae.ar (n/86400))] 106)).cell? ⟨w2.heap.size,2,none⟩=some (V Z (ae.ar (n/86400))):=by simp[go_sem]
 generalize(w2.alloc (θ #[V Z (ae.ag (n/86400)), V Z (ae.ofM (n/86400)), V Z (ae.ar (n/86400))] 106))=W at *
 have k0:=cell_regrown c0;have k1:=cell_regrown c1;have k2:=cell_regrown c2;have hT:=ad (ht.on ah);clear c0 c1 c2 ai az Hf ht;have hl:=oe;refine wp_region_quiet_below (by kernel_rfl) (by kernel_rfl) ?_
 repeat(go_big_quiet_step (first|exact J2 W _ _ _ _ hT.out (by omega) (by omega) (by omega)))
 refine wpQuiet_nil ?_;intro _ fF;obtain⟨⟨dq,gj⟩,eU⟩:=fF;subst eU;go_wp2;go_ret;exact⟨nG (Ra n),ah.trans ((below_regrown W dq gj).mono ah.size)⟩
theorem Rb (n:Int)(p:ω)(W:ν)(ht:iU W)(hc:W.cell? p=some (V Z n))(h:cD n=true):
 κ prog 35 #[ζ (some p)] W fun E w'=>E= δ (η ⟨(lf n).toArray⟩)∧Below W.heap.size W w':=by
 have C:=ad (J3 n W ht h);clear h ht;go_enter func35,ntmps35;go_wp2_with (go_at_call 36;refine(C.out).mono ?_;rintro e w1 ⟨rfl,hb⟩);go_ret;exact⟨rfl,hb⟩
theorem Ux (n:Int)(p:ω)(W:ν)(hc:W.cell? p=some (V Z n))(h:cD n=false):
 κ prog 35 #[ζ (some p)] W fun E w'=>E= ε (bN 1)∧Below W.heap.size W w':=by
 have C:=ad (MQ n W h);clear h;go_enter func35,ntmps35;go_wp2_with (go_at_call 36;refine(C.out).mono ?_;rintro e w1 ⟨rfl,hb⟩);exact⟨rfl,rfl,hb⟩
theorem vg (n:Int)(w:ν)(ht:iU w):
 κ prog 18 #[V Z n] w fun E w'=>E= δ (gQ n)∧Below w.heap.size w w':=by
 have Cf:∀(fn:Fn) (first cap:Array Value) (w:ν),(τ fn first cap).run prog w= .ok (.func fn first cap) w:=fun _ _ _ _=>rfl;have dP:∀W,Below (w.alloc (θ #[V Z n] 3)).heap.size (w.alloc (θ #[V Z n] 3)) W→W.cell? ⟨w.heap.size,0,none⟩=some (V Z n):=fun W hb=>by
  rw[hb.cell (p:=⟨w.heap.size,0,none⟩) (by simp)];simp[go_sem]
 have hT:∀W,Below (w.alloc (θ #[V Z n] 3)).heap.size (w.alloc (θ #[V Z n] 3)) W→iU W:=fun W hb=>
  ht.on (((μ _ _).alloc (ι _) _).trans (hb.mono (by simp)))
 cases h:cD n
 ·have hv:gQ n= .tuple #[η ⟨#[]⟩, V Z 1]:=by unfold gQ;rw[h];rfl
  rw[hv];have C:=ad (GZ ⟨w.heap.size,0,none⟩ 1 (w.alloc (θ #[V Z n] 3)) (fun W hb=>Ux n _ W (dP W hb) h));clear dP hT ht hv h;go_enter func18,ntmps18;go_wp2_with (go_at_call 34;refine(C.out).mono ?_;rintro e w1 ⟨rfl,hb⟩);go_ret2;exact⟨rfl,((μ _ _).alloc (ι _) _).trans (hb.mono (by simp))⟩
 ·have hv:gQ n= .tuple #[η ⟨(lf n).toArray⟩, V Z 0]:=by unfold gQ;rw[h];rfl
  rw[hv];have C:=ad (FJ ⟨w.heap.size,0,none⟩ ⟨(lf n).toArray⟩ (w.alloc (θ #[V Z n] 3)) (fun W hb=>Rb n _ W (hT W hb) (dP W hb) h));clear dP hT ht hv h;go_enter func18,ntmps18;go_wp2_with (go_at_call 34;refine(C.out).mono ?_;rintro e w1 ⟨rfl,hb⟩);go_ret2;exact⟨rfl,((μ _ _).alloc (ι _) _).trans (hb.mono (by simp))⟩
def sp (c:UInt8):List UInt8→Option (List UInt8×List UInt8)
 |[]=>none
 |x::r=>if x=c then some ([],r)else(sp c r).map fun q=>(x::q.1,q.2)
theorem lA {c:UInt8}:∀{l:List UInt8},c∉l→sp c l=none
 |[],_=>rfl
 |x::r,h=>by
  unfold sp;rw[if_neg (fun e=>h (by rw[e];exact υ)),lA (fun q=>h (π _ q))];rfl
theorem oU {c:UInt8}:∀{a b:List UInt8},c∉a→sp c (a++c::b)=some (a,b)
 |[],b,_=>by simp[sp]
 |x::r,b,h=>by
  simp only[Γ];unfold sp;rw[if_neg (fun e=>h (by rw[e];exact υ)),oU (fun q=>h (π _ q))];rfl
theorem jq {c:UInt8}:∀{l a b:List UInt8},sp c l=some (a,b)→l=a++c::b∧c∉a
 |[],_,_,h=>by cases h
 |x::r,a,b,h=>by
  unfold sp at h;by_cases e:x=c
  ·rw[if_pos e]at h;cases h;subst e;simp
  ·rw[if_neg e]at h;cases q:sp c r with
   |none=>rw[q]at h;cases h
   |some y=>
    rw[q]at h;obtain⟨a',b'⟩:=y;cases h;obtain⟨h1,h2⟩:=jq q;refine⟨by rw[h1];rfl,?_⟩;intro m;rcases List.mem_cons.1 m with m|m
    ·exact e m.symm
    ·exact h2 m
theorem yq {l:List UInt8}(h:cO l=true):∀x∈l,ez x=true:=by
 simp only[cO,Bool.and_eq_true,decide_eq_true_eq]at h;have:l.all ez=true:=by
  cases q:l.all ez
  ·have:=h.2;unfold bF at this;rw[if_neg (by rw[q];exact φ)]at this;omega
  ·rfl
 exact List.all_eq_true.1 this
def ff (mark:UInt8)(mJ:Int)(l:List UInt8):Option (Int×List UInt8):=
 match sp mark l with
 |none=>some (0,l)
 |some (a,b)=>if cO a=true then some (bU a * mJ,b)else none
def chain:List (UInt8×Int)→List UInt8→Option Int
 |[],l=>if l=[]then some 0 else none
 |(m,s)::ms,l=>match ff m s l with
  |none=>none
  |some (v,r)=>(chain ms r).map (v+·)
theorem fo {m:UInt8}{s:Int}{ms:List (UInt8×Int)}{l:List UInt8}(h:m∉l):chain ((m,s)::ms) l=chain ms l:=by
 simp only[chain,ff,lA h];cases chain ms l with
 |none=>rfl
 |some v=>simp
theorem wz (ms:List (UInt8×Int)):chain ms []=some 0:=by
 induction ms with
 |nil=>rfl
 |cons m ms ih=>obtain⟨m,s⟩:=m;rw[fo (by simp),ih]
theorem gN {x:UInt8}(hx:ez x=false):∀(ms:List (UInt8×Int)) (l:List UInt8),(∀m∈ms,m.1≠x)→x∈l→chain ms l=none
 |[],l,_,h=>by
  unfold chain;rw[if_neg];intro e;rw[e]at h;cases h
 |(m,s)::ms,l,hm,h=>by
  cases q:sp m l with
  |none=>
   have:chain ((m,s)::ms) l=(chain ms l).map (0+·):=by simp only[chain,ff,q]
   rw[this,gN hx ms l (fun y hy=>hm y (π _ hy)) h];rfl
  |some y=>
   obtain⟨a,b⟩:=y;obtain⟨e,_⟩:=jq q;simp only[chain,ff,q];by_cases hn:cO a=true
   ·rw[if_pos hn];have hb:x∈b:=by
     rw[e]at h;rcases List.mem_append.1 h with h|h
     ·have:=yq hn x h;rw[hx]at this;cases this
     ·rcases List.mem_cons.1 h with h|h
      ·exact absurd h.symm (hm (m,s) υ)
      ·exact h
    simp only[gN hx ms b (fun y hy=>hm y (π _ hy)) hb];rfl
   ·rw[if_neg hn]
theorem uv {m c:UInt8}{s:Int}{ms:List (UInt8×Int)}{ds r:List UInt8}(uZ:m∉ds)(hc:ez c=false)(I8:c≠m)(hm:m∈r):
 chain ((m,s)::ms) (ds++c::r)=none:=by
 have:m∈ds++c::r:=by simp[hm]
 cases q:sp m (ds++c::r)with
 |none=>
  exfalso;clear uZ hm;have:∀l:List UInt8,m∈l→sp m l≠none:=by
   intro l
   induction l with
   |nil=>intro h;cases h
   |cons x l ih=>
    intro h;unfold sp;by_cases e:x=m
    ·rw[if_pos e];simp
    ·rw[if_neg e];rcases List.mem_cons.1 h with h|h
     ·exact absurd h.symm e
     ·have:=ih h;cases q:sp m l with
      |none=>exact absurd q this
      |some y=>simp
  exact this _ ‹_› q
 |some y=>
  obtain⟨a,b⟩:=y;obtain⟨e,ha⟩:=jq q;have hca:c∈a:=by
   rcases List.append_eq_append_iff.1 e with⟨t,e1,e2⟩|⟨t,e1,e2⟩
   ·cases t with
    |nil=>simp at e2;exact absurd e2.1 I8
    |cons y t=>simp at e2;rw[e1,←e2.1];simp
   ·cases t with
    |nil=>simp at e2;exact absurd e2.1.symm I8
    |cons y t=>simp at e2;exfalso;apply uZ;rw[e1,←e2.1];simp
  simp only[chain,ff,q];rw[if_neg];intro hn;have:=yq hn c hca;rw[hc]at this;cases this
theorem yY {m:UInt8}{s:Int}{ms:List (UInt8×Int)}{ds r:List UInt8}(uZ:m∉ds)(hn:cO ds=true):
 chain ((m,s)::ms) (ds++m::r)=(chain ms r).map (bU ds * s+·):=by
 simp only[chain,ff,oU uZ,hn,if_true]
theorem qN {m:UInt8}{s:Int}{ms:List (UInt8×Int)}{ds r:List UInt8}(uZ:m∉ds)(hn:cO ds=false):
 chain ((m,s)::ms) (ds++m::r)=none:=by
 simp only[chain,ff,oU uZ];rw[if_neg (by rw[hn];exact φ)]
theorem wA:∀(ds rest cur:List UInt8) (u:Nat) (t:Bool) (s:Int) (p:Nat),(∀x∈ds,ez x=true)→cK (ds++rest) cur u t s p=cK rest (cur++ds) u t s p
 |[],_,_,_,_,_,_,_=>by simp
 |x::ds,rest,cur,u,t,s,p,h=>by
  simp only[Γ]
  conv=>lhs;unfold cK
  rw[if_pos (h x υ),wA ds rest (cur++[x]) u t s p (fun y hy=>h y (π _ hy))];simp
theorem uw (l:List UInt8):∃ds rest,l=ds++rest∧(∀x∈ds,ez x=true)∧(rest=[]∨∃c r,rest=c::r∧ez c=false):=by
 induction l with
 |nil=>exact⟨[],[],rfl,by simp, .inl rfl⟩
 |cons x l ih=>
  cases h:ez x
  ·exact⟨[],x::l,rfl,by simp, .inr ⟨x,l,rfl,h⟩⟩
  ·obtain⟨ds,rest,e,hd,hr⟩:=ih;refine⟨x::ds,rest,by rw[e];rfl,?_,hr⟩;intro y hy;rcases List.mem_cons.1 hy with rfl|hy
   ·exact h
   ·exact hd y hy
def U:Nat→List (UInt8×Int)
 |1=>[(72,3600),(77,60),(83,1)]
 |2=>[(77,60),(83,1)]
 |3=>[(83,1)]
 |_=>[]
theorem nd {c:UInt8}{n:Nat}(h:c.toNat=n)(hn:57<n):ez c=false:=by
 cases q:ez c
 ·rfl
 ·have:=(pw c).1 q;omega
theorem jJ {c:UInt8}{ds:List UInt8}(h:ez c=false)(hd:∀x∈ds,ez x=true):c∉ds:=by
 intro m;have:=hd c m;rw[h]at this;cases this
theorem u8 {c:UInt8}{n:Nat}(h:c.toNat=n):c=UInt8.ofNat n:=by rw[←h];simp
theorem nB:∀(k:Nat) (l:List UInt8),l.length≤k→∀(u:Nat),1≤u→u≤4→∀(sum:Int) (parts:Nat),l≠[]∨0<parts→
 cK l [] u true sum parts=(chain (U u) l).map (sum+·)
 |0,l,hk,u,_,_,sum,parts,hp=>by
  have:l=[]:=List.eq_nil_of_length_eq_zero (by omega);subst this;have zO:0<parts:=by rcases hp with h|h;exact absurd rfl h;exact h
  rw[wz];unfold cK;rw[if_neg (by simp;omega)];simp
 |k+1,l,hk,u,u1,u4,sum,parts,hp=>by
  obtain⟨ds,rest,rfl,hd,hr⟩:=uw l;rw[wA ds rest [] u true sum parts hd,ρ];rcases hr with rfl|⟨c,r,rfl,hc⟩
  ·
   rw[List.append_nil]at *
   unfold cK;by_cases e:ds=[]
   ·subst e;have zO:0<parts:=by rcases hp with h|h;exact absurd rfl h;exact h
    rw[wz,if_neg (by simp;omega)];simp
   ·rw[if_pos (.inr e)];have a72:(72:UInt8)∉ds:=jJ (nd (n:=72) rfl (by omega)) hd;have MR:(77:UInt8)∉ds:=jJ (nd (n:=77) rfl (by omega)) hd;have PA:(83:UInt8)∉ds:=jJ (nd (n:=83) rfl (by omega)) hd;have kh:chain [] ds=none:=by unfold chain;rw[if_neg e]
    have:u=1∨u=2∨u=3∨u=4:=by omega
    rcases this with rfl|rfl|rfl|rfl
    ·rw[show U 1=[(72,3600),(77,60),(83,1)]from rfl,fo a72,fo MR,fo PA,kh];rfl
    ·rw[show U 2=[(77,60),(83,1)]from rfl,fo MR,fo PA,kh];rfl
    ·rw[show U 3=[(83,1)]from rfl,fo PA,kh];rfl
    ·rw[show U 4=[]from rfl,kh];rfl
  ·have D4:c∈ds++c::r:=by simp
   have Uy:r.length≤k:=by simp at hk;omega
   have a72:(72:UInt8)∉ds:=jJ (nd (n:=72) rfl (by omega)) hd;have MR:(77:UInt8)∉ds:=jJ (nd (n:=77) rfl (by omega)) hd;have PA:(83:UInt8)∉ds:=jJ (nd (n:=83) rfl (by omega)) hd
   conv=>lhs;unfold cK
   rw[if_neg (by rw[hc];exact φ)];by_cases hT:c.toNat=84
   ·rw[if_pos hT,if_pos (.inl rfl)];have di:∀m∈U u,m.1≠c:=by
     rw[u8 hT];have:u=1∨u=2∨u=3∨u=4:=by omega
     rcases this with rfl|rfl|rfl|rfl<;>simp[U]
    rw[gN hc (U u) _ di D4];rfl
   ·rw[if_neg hT];have hu:u=1∨u=2∨u=3∨u=4:=by omega
    by_cases hH:c.toNat=72
    ·have ec:c=72:=u8 hH;subst ec;by_cases h1:u≤1
     ·obtain rfl:u=1:=by omega
      have hj:cu 1 72=1:=by decide
      rw[hj];cases hn:cO ds
      ·rw[if_pos (.inl rfl),show U 1=[(72,3600),(77,60),(83,1)]from rfl,qN a72 hn];rfl
      ·rw[if_neg (by simp),nB k r Uy 2 (by omega) (by omega) _ _ (.inr (by omega)),show U 1=[(72,3600),(77,60),(83,1)]from rfl,yY a72 hn,Option.map_map];congr 1;funext x;simp[oN];omega
     ·have hj:cu u 72=4:=by rcases hu with rfl|rfl|rfl|rfl<;>first|omega|decide
      rw[if_pos (.inr (.inl hj)),gN hc (U u) _ (by rcases hu with rfl|rfl|rfl|rfl<;>first|omega|simp[U]) D4];rfl
    by_cases hM:c.toNat=77
    ·have ec:c=77:=u8 hM;subst ec;by_cases h2:u≤2
     ·have hj:cu u 77=2:=by rcases hu with rfl|rfl|rfl|rfl<;>first|omega|decide
      rw[hj];have main:(if cO ds=false∨(2:Nat)=4∨decide (0<2)≠true then none else cK r [] (2+1) true (sum+bU ds * oN 2) (parts+1))=(chain (U 2) (ds++77::r)).map (sum+·):=by
       cases hn:cO ds
       ·rw[if_pos (.inl rfl),show U 2=[(77,60),(83,1)]from rfl,qN MR hn];rfl
       ·rw[if_neg (by simp),nB k r Uy 3 (by omega) (by omega) _ _ (.inr (by omega)),show U 2=[(77,60),(83,1)]from rfl,yY MR hn,Option.map_map];congr 1;funext x;simp[oN];omega
      have:u=1∨u=2:=by omega
      rcases this with rfl|rfl
      ·by_cases hb:(72:UInt8)∈r
       ·rw[show U 1=(72,3600)::U 2 from rfl,uv a72 hc (by decide) hb];cases hn:cO ds
        ·rw[if_pos (.inl rfl)];rfl
        ·rw[if_neg (by simp),nB k r Uy 3 (by omega) (by omega) _ _ (.inr (by omega)),gN (nd (c:=72) (n:=72) rfl (by omega)) (U 3) r (by simp[U]) hb];rfl
       ·rw[show U 1=(72,3600)::U 2 from rfl,fo (by simp[a72,hb]),←main]
      ·exact main
     ·have hj:cu u 77=4:=by rcases hu with rfl|rfl|rfl|rfl<;>first|omega|decide
      rw[if_pos (.inr (.inl hj)),gN hc (U u) _ (by rcases hu with rfl|rfl|rfl|rfl<;>first|omega|simp[U]) D4];rfl
    by_cases hS:c.toNat=83
    ·have ec:c=83:=u8 hS;subst ec;by_cases h3:u≤3
     ·have hj:cu u 83=3:=by rcases hu with rfl|rfl|rfl|rfl<;>first|omega|decide
      rw[hj];have main:(if cO ds=false∨(3:Nat)=4∨decide (0<3)≠true then none else cK r [] (3+1) true (sum+bU ds * oN 3) (parts+1))=(chain (U 3) (ds++83::r)).map (sum+·):=by
       cases hn:cO ds
       ·rw[if_pos (.inl rfl),show U 3=[(83,1)]from rfl,qN PA hn];rfl
       ·rw[if_neg (by simp),nB k r Uy 4 (by omega) (by omega) _ _ (.inr (by omega)),show U 3=[(83,1)]from rfl,yY PA hn,Option.map_map];congr 1;funext x;simp[oN];omega
      have bad:∀(x:UInt8),ez x=false→x∈r→(if cO ds=false∨(3:Nat)=4∨decide (0<3)≠true then none else cK r [] (3+1) true (sum+bU ds * oN 3) (parts+1))=none:=by
       intro x hx hb;cases hn:cO ds
       ·rw[if_pos (.inl rfl)]
       ·rw[if_neg (by simp),nB k r Uy 4 (by omega) (by omega) _ _ (.inr (by omega)),gN hx (U 4) r (by simp[U]) hb];rfl
      have two:(if cO ds=false∨(3:Nat)=4∨decide (0<3)≠true then none else cK r [] (3+1) true (sum+bU ds * oN 3) (parts+1))=(chain (U 2) (ds++83::r)).map (sum+·):=by
       by_cases hb:(77:UInt8)∈r
       ·rw[show U 2=(77,60)::U 3 from rfl,uv MR hc (by decide) hb,bad 77 (nd (n:=77) rfl (by omega)) hb];rfl
       ·rw[show U 2=(77,60)::U 3 from rfl,fo (by simp[MR,hb]),←main]
      have:u=1∨u=2∨u=3:=by omega
      rcases this with rfl|rfl|rfl
      ·by_cases hb:(72:UInt8)∈r
       ·rw[show U 1=(72,3600)::U 2 from rfl,uv a72 hc (by decide) hb,bad 72 (nd (n:=72) rfl (by omega)) hb];rfl
       ·rw[show U 1=(72,3600)::U 2 from rfl,fo (by simp[a72,hb]),←two]
      ·exact two
      ·exact main
     ·have hj:cu u 83=4:=by rcases hu with rfl|rfl|rfl|rfl<;>first|omega|decide
      rw[if_pos (.inr (.inl hj)),gN hc (U u) _ (by rcases hu with rfl|rfl|rfl|rfl<;>first|omega|simp[U]) D4];rfl
    have hj:cu u c=4:=by
     unfold cu;rw[if_neg (by omega),if_neg (by omega),if_neg (by omega),if_neg (by omega)]
    have di:∀m∈U u,m.1≠c:=by
     have b1:(72:UInt8)≠c:=fun e=>hH (by rw[←e];rfl);have b2:(77:UInt8)≠c:=fun e=>hM (by rw[←e];rfl);have b3:(83:UInt8)≠c:=fun e=>hS (by rw[←e];rfl);rcases hu with rfl|rfl|rfl|rfl<;>simp[U,b1,b2,b3]
    rw[if_pos (.inr (.inl hj)),gN hc (U u) _ di D4];rfl
theorem NS {c:UInt8}{l:List UInt8}(h:Lib.indexByte l c=-1):sp c l=none:=by
 refine lA fun m=>?_;obtain⟨k,hk⟩:=Β m;exact Lib.indexByte_none h k hk
theorem MT {c:UInt8}{l:List UInt8}{o:Nat}(h:Lib.indexByte l c=o):sp c l=some (l.take o,l.drop (o+1))∧o<l.length:=by
 obtain⟨h1,h2⟩:=Lib.indexByte_some h;have ay:o<l.length:=by
  rw[List.getElem?_eq_some_iff]at h1;exact h1.1
 have e:l=l.take o++c::l.drop (o+1):=by
  conv=>lhs;rw[←List.take_append_drop o l]
  rw[List.drop_eq_getElem_cons ay];rw[List.getElem?_eq_getElem ay]at h1;rw[Option.some.inj h1]
 have hn:c∉l.take o:=by
  intro m;obtain⟨k,hk⟩:=Β m;rw[List.getElem?_take]at hk;by_cases q:k<o
  ·rw[if_pos q]at hk;exact h2 k q hk
  ·rw[if_neg q]at hk;cases hk
 refine⟨?_,ay⟩
 conv=>lhs;rw[e]
 exact oU hn
def qO (c:UInt8)(l:List UInt8):Value:=match sp c l with
 |none=> .tuple #[η ⟨l.toArray⟩, η ⟨#[]⟩, .bool false]
 |some (a,b)=> .tuple #[η ⟨a.toArray⟩, η ⟨b.toArray⟩, .bool true]
theorem Uz (s:ByteArray)(l:List UInt8)(h:s.data.toList=l):s=⟨l.toArray⟩:=by
 cases s with|mk d=>subst h;simp
theorem Bp (l:List UInt8)(o:Nat):(⟨l.toArray⟩:ByteArray).extract 0 o=⟨(l.take o).toArray⟩:=by
 apply Uz;rw[bP];simp[cut]
theorem ux (l:List UInt8)(o:Nat):(⟨l.toArray⟩:ByteArray).extract o l.length=⟨(l.drop o).toArray⟩:=by
 apply Uz;rw[bP];simp[cut];exact List.take_of_length_le (by simp)
theorem aaL {a a' b b':ByteArray}{f:Bool}(h1:a=a')(h2:b=b'):Ending.returned (.tuple #[η a, η b, .bool f])= δ (.tuple #[η a', η b', .bool f]):=by rw[h1,h2]
theorem WN (l:List UInt8)(c:UInt8)(w:ν)(hl:l.length≤maxLen):
 κ prog 126 #[η ⟨l.toArray⟩, η ⟨#[c]⟩] w fun e w'=>e= δ (qO c l)∧Below w.heap.size w w':=by
 have ci:=Tryz.stringslite_Index_one ⟨l.toArray⟩ c w;have CI:=ad ci;have Ex:=Lib.indexByte_ge l c;unfold maxLen at hl;clear ci;by_cases h:Lib.indexByte l c=-1
 ·have hv:qO c l= .tuple #[η ⟨l.toArray⟩, η ⟨#[]⟩, .bool false]:=by unfold qO;rw[NS h]
  rw[hv];have CJ:Hid (κ prog 202 #[η ⟨l.toArray⟩, η ⟨#[c]⟩] w fun e w'=>e= δ (V Z (-1))∧w'=w):=by
   have:=CI.out;rw[show(⟨l.toArray⟩:ByteArray).data.toList=l from rfl,h]at this;exact this
  clear h hv CI Ex;go_enter func126,ntmps126;go_wp2_with (go_at_call 202;refine(CJ.out).mono ?_;rintro e w' ⟨rfl,rfl⟩);go_ret3;exact⟨rfl,μ _ _⟩
 ·obtain⟨o,ho⟩:=ψ (show 0≤Lib.indexByte l c by omega);obtain⟨hs,ay⟩:=MT ho;have hv:qO c l= .tuple #[η ⟨(l.take o).toArray⟩, η ⟨(l.drop (o+1)).toArray⟩, .bool true]:=by unfold qO;rw[hs]
  rw[hv];have CJ:Hid (κ prog 202 #[η ⟨l.toArray⟩, η ⟨#[c]⟩] w fun e w'=>e= δ (V Z (o:Int))∧w'=w):=by
   have:=CI.out;rw[show(⟨l.toArray⟩:ByteArray).data.toList=l from rfl,ho]at this;exact this
  have E1:=ad (Bp l o);have E2:=ad (ux l (o+1));clear h hv CI Ex ho hs;go_enter func126,ntmps126;go_wp2_with (go_at_call 202;refine(CJ.out).mono ?_;rintro e w' ⟨rfl,rfl⟩);go_quiet (fail);go_wp2;go_ret3;exact⟨aaL E1.out E2.out,below_drewN (μ _ _) _⟩
theorem UA (c:UInt8)(l:List UInt8):∃a b f,qO c l= .tuple #[η a, η b, .bool f]:=by
 unfold qO;cases sp c l with
 |none=>exact⟨_,_,_,rfl⟩
 |some y=>exact⟨_,_,_,rfl⟩
theorem yZ (l:List UInt8)(c:UInt8)(w:ν)(hl:l.length≤maxLen):
 κ prog 72 #[η ⟨l.toArray⟩, η ⟨#[c]⟩] w fun e w'=>e= δ (qO c l)∧Below w.heap.size w w':=by
 have k:=WN l c w hl;obtain⟨a,b,f,hf⟩:=UA c l;rw[hf]at k⊢;have C:=ad k;clear k hf hl;go_enter func72,ntmps72;go_wp2_with (go_at_call 126;refine(C.out).mono ?_;rintro e w1 ⟨rfl,hb⟩);go_ret3;exact⟨rfl,hb⟩
def MU (l:List UInt8)(x:Int):Ending:=if cO l=true then δ (V Z (bU l))else ε (bN x)
theorem Ea {l:List UInt8}{x:Int}(h:cO l=true):MU l x= δ (V Z (bU l)):=by unfold MU;rw[if_pos h]
theorem su {l:List UInt8}{x:Int}(h:cO l=false):MU l x= ε (bN x):=by unfold MU;rw[if_neg (by rw[h];exact φ)]
theorem MV (c:UInt8)(r:List UInt8):0<(⟨(c::r).toArray⟩:ByteArray).size:=by show 0<(c::r).length;simp
theorem head_ne {c:UInt8}(r:List UInt8)(q:¬c=48):((((⟨(c::r).toArray⟩:ByteArray)[0]'(MV c r)).toNat:Int)!=48)=true:=by
 show((c.toNat:Int)!=48)=true;rw[bne_iff_ne];intro e;apply q;apply UInt8.toNat_inj.1;show _=48;omega
theorem head_eq (r:List UInt8):((((⟨((48:UInt8)::r).toArray⟩:ByteArray)[0]'(MV 48 r)).toNat:Int)!=48)=false:=rfl
theorem wB (l:List UInt8)(x:Int)(w:ν)(hl:l.length≤maxLen):
 κ prog 127 #[η ⟨l.toArray⟩, V Z x] w fun E w'=>E=MU l x∧w=w':=by
 unfold maxLen at hl
 match l with
 |[]=>
  rw[su (by rfl)];go_enter func127,ntmps127;go_wp2_with (go_at_call_of 65 (ο false);refine(aM _ _).mono ?_;rintro e w' ⟨rfl,rfl⟩);exact⟨rfl,rfl,rfl⟩
 |c::r=>
  by_cases h7:r.length+1≤7
  case neg=>
   rw[su (by simp[cO,kG];intro q;omega)];have Oa:decide ((r.length:Int)+1≤7)=false:=by simp;omega
   go_enter func127,ntmps127;go_wp2_with (go_at_call_of 65 (ο false);refine(aM _ _).mono ?_;rintro e w' ⟨rfl,rfl⟩);exact⟨rfl,rfl,rfl⟩
  case pos=>
   have Oa:(r.length:Int)+1≤7:=by omega
   have cy:=eG ⟨(c::r).toArray⟩ x w (by show(c::r).length≤7;simp;omega);have cn:=jE ⟨(c::r).toArray⟩ x w (by show(c::r).length≤7;simp;omega);by_cases hs:c=48∧r≠[]
   case pos=>
    obtain⟨rfl,hr⟩:=hs;obtain⟨r0,r1,rfl⟩:=List.exists_cons_of_ne_nil hr;rw[su (by simp[cO,kG])];have h9:(r1.length:Int)+1+1≤7:=by simp at h7;omega
    have q2:=head_eq (r0::r1);clear cy cn hr h7 Oa;go_enter func127,ntmps127;go_wp2_with (first
     |(go_at_call_of 65 (ο true);refine(aF _ _).mono ?_;rintro e w' ⟨rfl,rfl⟩)
     |(go_at_call_of 65 (ο false);refine(aM _ _).mono ?_;rintro e w' ⟨rfl,rfl⟩))
    exact⟨rfl,rfl,rfl⟩
   case neg=>
    have MW:kG (c::r)=true:=by
     simp[kG];refine⟨by omega,?_⟩;by_cases q:c=48
     ·right;by_cases e:r=[]
      ·rw[e]
      ·exact absurd ⟨q,e⟩ hs
     ·exact .inl q
    have hlen:(c::r).length≤7:=by simp;omega
    cases ha:dU ⟨(c::r).toArray⟩
    case false=>
     have hb:cO (c::r)=false:=by
      unfold cO;rw[xr (l:=c::r) ha];simp
     rw[su hb];have C:=ad (cn ha);clear cy cn ha hb MW hlen;rcases r with _|⟨r0,r1⟩
     case nil=>
      by_cases q:c=48
      ·subst q;go_enter func127,ntmps127;go_wp2_with (first
        |(go_at_call_of 65 (ο true);refine(aF _ _).mono ?_;rintro e w' ⟨rfl,rfl⟩)
        |(go_at_call 123;refine(C.out).mono ?_;rintro e w' ⟨rfl,rfl⟩))
       exact⟨rfl,rfl,rfl⟩
      ·have q':(c==48)=false:=by simp[q]
       have q2:=head_ne [] q;go_enter func127,ntmps127;go_wp2_with (first
        |(go_at_call_of 65 (ο true);refine(aF _ _).mono ?_;rintro e w' ⟨rfl,rfl⟩)
        |(go_at_call 123;refine(C.out).mono ?_;rintro e w' ⟨rfl,rfl⟩))
       exact⟨rfl,rfl,rfl⟩
     case cons=>
      have q:¬c=48:=fun e=>hs ⟨e,by simp⟩;have q2:=head_ne (r0::r1) q;have h9:(r1.length:Int)+1+1≤7:=by simp at h7;omega
      clear h7 Oa hs;go_enter func127,ntmps127;go_wp2_with (first
       |(go_at_call_of 65 (ο true);refine(aF _ _).mono ?_;rintro e w' ⟨rfl,rfl⟩)
       |(go_at_call 123;refine(C.out).mono ?_;rintro e w' ⟨rfl,rfl⟩))
      exact⟨rfl,rfl,rfl⟩
    case true=>
     have hd:=nH (c::r) 7 hlen ha;have hb:cO (c::r)=true:=by
      unfold cO;rw[MW,pE (l:=c::r) ha];simp;exact hd.1
     have hN:bU (c::r)=iO (c::r):=by
      unfold bU;rw[if_pos MW,pE (l:=c::r) ha]
     rw[Ea hb,hN];have C:=ad (cy ha);clear cy cn ha hb MW hlen hd hN;rcases r with _|⟨r0,r1⟩
     case nil=>
      by_cases q:c=48
      ·subst q;go_enter func127,ntmps127;go_wp2_with (first
        |(go_at_call_of 65 (ο true);refine(aF _ _).mono ?_;rintro e w' ⟨rfl,rfl⟩)
        |(go_at_call 123;refine(C.out).mono ?_;rintro e w' ⟨rfl,rfl⟩))
       go_ret;exact⟨rfl,rfl⟩
      ·have q':(c==48)=false:=by simp[q]
       have q2:=head_ne [] q;go_enter func127,ntmps127;go_wp2_with (first
        |(go_at_call_of 65 (ο true);refine(aF _ _).mono ?_;rintro e w' ⟨rfl,rfl⟩)
        |(go_at_call 123;refine(C.out).mono ?_;rintro e w' ⟨rfl,rfl⟩))
       go_ret;exact⟨rfl,rfl⟩
     case cons=>
      have q:¬c=48:=fun e=>hs ⟨e,by simp⟩;have q2:=head_ne (r0::r1) q;have h9:(r1.length:Int)+1+1≤7:=by simp at h7;omega
      clear h7 Oa hs;go_enter func127,ntmps127;go_wp2_with (first
       |(go_at_call_of 65 (ο true);refine(aF _ _).mono ?_;rintro e w' ⟨rfl,rfl⟩)
       |(go_at_call 123;refine(C.out).mono ?_;rintro e w' ⟨rfl,rfl⟩))
      go_ret;exact⟨rfl,rfl⟩
end Go.Proofs.YthpndgcaoeokeaaGreatDoor
