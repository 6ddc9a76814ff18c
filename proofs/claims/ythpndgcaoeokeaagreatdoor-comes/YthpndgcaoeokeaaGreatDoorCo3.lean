import Derived.Test.YthpndgcaoeokeaaGreatDoorCo2
import Derived.Defers
import Derived.Recover
set_option maxRecDepth 100000
set_option maxHeartbeats 8000000
open Go.IntKind renaming i64→Z
open Go.Value renaming int→V,string→ζ,bool→ξ
open Go.Ending renaming returned→δ,panicked→ε
open Go.AllReady renaming cons→η,nil→θ
open Or renaming inl→ι
open Go.RowKit.Below renaming refl→κ
open ByteArray renaming size_extract→μ
open Nat renaming le_refl→ν
open Go renaming Calls→ο,World→π
open Go.World renaming drew→ρ,frozen?_alloc_old→τ
namespace Go.Proofs.YthpndgcaoeokeaaGreatDoor
open Tryz
open Go.RowKit Go.Sort
theorem Me (t:ByteArray)(w:π)(h8:t.size=8)(d1:dU (t.extract 0 4)=false):
 ο prog 69 #[ζ t] w fun E w'=>E= ε (bN 1)∧Below w.heap.size w w':=by
 have z1:(4:Int)≤t.size:=by omega
 have z2:(6:Int)≤t.size:=by omega
 have z3:(8:Int)≤t.size:=by omega
 have z4:(t.size:Int)≤8:=by omega
 have s1:(t.extract 0 4).size≤7:=by simp[μ];omega
 have c1:=fun W=>jE (t.extract 0 4) 1 W s1 d1;have C1:=ad c1;have H8:=ad h8;clear h8 c1 d1 s1;go_enter func69,ntmps69;go_wp2;refine wp_region_any (by kernel_rfl) ?_;change wpAny _ _ _ _ _ _ _ (ρ _);refine wpAny_take (i:=0) (v:=?_) rfl (by kernel_rfl) (by kernel_rfl) (by kernel_rfl) (fun _ _ _ h=>h) (ι ⟨by rfl,?_⟩) ?_;rotate_left 1
 ·intro w;go_simp<;>with_reducible rfl
 refine wpAny_take (i:=1) (v:=?_) rfl (by kernel_rfl) (by kernel_rfl) (by kernel_rfl) (fun _ _ _ h=>h) (ι ⟨by rfl,?_⟩) ?_;rotate_left 1
 ·intro w;go_simp<;>with_reducible rfl
 refine wpAny_take (i:=3) (v:=?_) rfl (by kernel_rfl) (by kernel_rfl) (by kernel_rfl) (fun _ _ _ h=>h) (ι ⟨by rfl,?_⟩) ?_;rotate_left 1
 ·intro w;go_simp<;>with_reducible rfl
 refine wpAny_take (i:=4) (v:=?_) rfl (by kernel_rfl) (by kernel_rfl) (by kernel_rfl) (fun _ _ _ h=>h) (ι ⟨by rfl,?_⟩) ?_;rotate_left 1
 ·intro w;go_simp<;>with_reducible rfl
 refine wpAny_take (i:=6) (v:=?_) rfl (by kernel_rfl) (by kernel_rfl) (by kernel_rfl) (fun _ _ _ h=>h) (ι ⟨by rfl,?_⟩) ?_;rotate_left 1
 ·intro w;go_simp<;>with_reducible rfl
 refine wpAny_take (i:=7) (v:=?_) rfl (by kernel_rfl) (by kernel_rfl) (by kernel_rfl) (fun _ _ _ h=>h) (ι ⟨by rfl,?_⟩) ?_;rotate_left 1
 ·intro w;go_simp<;>with_reducible rfl
 refine wpAny_ready (rs:=[2,10]) (by kernel_rfl) (by simp) ?_;refine η rfl (fun K hK=>?_) (η rfl (fun K hK=>?_) θ)
 ·go_simp;go_wp2_with (go_at_call 123;refine(C1.out _).mono ?_;rintro e w' ⟨rfl,rfl⟩);exact⟨rfl,rfl,((κ _ _).alloc (ν _) _).drew⟩
 ·go_simp;refine hK _ _ ?_;clear hK K;refine wpAny_ready (rs:=[2]) (by kernel_rfl) (by simp) ?_;refine η rfl (fun K hK=>?_) θ
  ·go_simp;go_wp2_with (go_at_call 123;refine(C1.out _).mono ?_;rintro e w' ⟨rfl,rfl⟩);exact⟨rfl,rfl,(((κ _ _).alloc (ν _) _).alloc (by simp) _).drew⟩
theorem Mf (t:ByteArray)(w:π)(h8:t.size=8)(d1:dU (t.extract 0 4)=true)(d2:dU (t.extract 4 6)=false):
 ο prog 69 #[ζ t] w fun E w'=>E= ε (bN 1)∧Below w.heap.size w w':=by
 have z1:(4:Int)≤t.size:=by omega
 have z2:(6:Int)≤t.size:=by omega
 have z3:(8:Int)≤t.size:=by omega
 have z4:(t.size:Int)≤8:=by omega
 have s1:(t.extract 0 4).size≤7:=by simp[μ];omega
 have c1:=fun W=>eG (t.extract 0 4) 1 W s1 d1;have C1:=ad c1;have s2:(t.extract 4 6).size≤7:=by simp[μ];omega
 have c2:=fun W=>jE (t.extract 4 6) 1 W s2 d2;have C2:=ad c2;have H8:=ad h8;clear h8 c1 d1 s1 c2 d2 s2;go_enter func69,ntmps69;go_wp2;refine wp_region_any (by kernel_rfl) ?_;change wpAny _ _ _ _ _ _ _ (ρ _);refine wpAny_take (i:=0) (v:=?_) rfl (by kernel_rfl) (by kernel_rfl) (by kernel_rfl) (fun _ _ _ h=>h) (ι ⟨by rfl,?_⟩) ?_;rotate_left 1
 ·intro w;go_simp<;>with_reducible rfl
 refine wpAny_take (i:=1) (v:=?_) rfl (by kernel_rfl) (by kernel_rfl) (by kernel_rfl) (fun _ _ _ h=>h) (ι ⟨by rfl,?_⟩) ?_;rotate_left 1
 ·intro w;go_simp<;>with_reducible rfl
 refine wpAny_take (i:=3) (v:=?_) rfl (by kernel_rfl) (by kernel_rfl) (by kernel_rfl) (fun _ _ _ h=>h) (ι ⟨by rfl,?_⟩) ?_;rotate_left 1
 ·intro w;go_simp<;>with_reducible rfl
 refine wpAny_take (i:=4) (v:=?_) rfl (by kernel_rfl) (by kernel_rfl) (by kernel_rfl) (fun _ _ _ h=>h) (ι ⟨by rfl,?_⟩) ?_;rotate_left 1
 ·intro w;go_simp<;>with_reducible rfl
 refine wpAny_take (i:=6) (v:=?_) rfl (by kernel_rfl) (by kernel_rfl) (by kernel_rfl) (fun _ _ _ h=>h) (ι ⟨by rfl,?_⟩) ?_;rotate_left 1
 ·intro w;go_simp<;>with_reducible rfl
 refine wpAny_take (i:=7) (v:=?_) rfl (by kernel_rfl) (by kernel_rfl) (by kernel_rfl) (fun _ _ _ h=>h) (ι ⟨by rfl,?_⟩) ?_;rotate_left 1
 ·intro w;go_simp<;>with_reducible rfl
 refine wpAny_ready (rs:=[2,10]) (by kernel_rfl) (by simp) ?_;refine η rfl (fun K hK=>?_) (η rfl (fun K hK=>?_) θ)
 ·go_simp;go_wp2_with (go_at_call 123;refine(C1.out _).mono ?_;rintro e w' ⟨rfl,rfl⟩)
  try(refine hK _ _ ?_;clear hK K)
  refine wpAny_ready (rs:=[5,10]) (by kernel_rfl) (by simp) ?_;refine η rfl (fun K hK=>?_) (η rfl (fun K hK=>?_) θ)
  ·go_simp;go_wp2_with (go_at_call 123;refine(C2.out _).mono ?_;rintro e w' ⟨rfl,rfl⟩);exact⟨rfl,rfl,((κ _ _).alloc (ν _) _).drew⟩
  ·go_simp;refine hK _ _ ?_;clear hK K;refine wpAny_ready (rs:=[5]) (by kernel_rfl) (by simp) ?_;refine η rfl (fun K hK=>?_) θ
   ·go_simp;go_wp2_with (go_at_call 123;refine(C2.out _).mono ?_;rintro e w' ⟨rfl,rfl⟩);exact⟨rfl,rfl,(((κ _ _).alloc (ν _) _).alloc (by simp) _).drew⟩
 ·go_simp;refine hK _ _ ?_;clear hK K;refine wpAny_ready (rs:=[2]) (by kernel_rfl) (by simp) ?_;refine η rfl (fun K hK=>?_) θ
  ·go_simp;go_wp2_with (go_at_call 123;refine(C1.out _).mono ?_;rintro e w' ⟨rfl,rfl⟩)
   try(refine hK _ _ ?_;clear hK K)
   refine wpAny_ready (rs:=[5]) (by kernel_rfl) (by simp) ?_;refine η rfl (fun K hK=>?_) θ
   ·go_simp;go_wp2_with (go_at_call 123;refine(C2.out _).mono ?_;rintro e w' ⟨rfl,rfl⟩);exact⟨rfl,rfl,(((κ _ _).alloc (ν _) _).alloc (by simp) _).drew⟩
theorem Mg (t:ByteArray)(w:π)(h8:t.size=8)(d1:dU (t.extract 0 4)=true)(d2:dU (t.extract 4 6)=true)(d3:dU (t.extract 6 t.size)=false):
 ο prog 69 #[ζ t] w fun E w'=>E= ε (bN 1)∧Below w.heap.size w w':=by
 have z1:(4:Int)≤t.size:=by omega
 have z2:(6:Int)≤t.size:=by omega
 have z3:(8:Int)≤t.size:=by omega
 have z4:(t.size:Int)≤8:=by omega
 have s1:(t.extract 0 4).size≤7:=by simp[μ];omega
 have c1:=fun W=>eG (t.extract 0 4) 1 W s1 d1;have C1:=ad c1;have s2:(t.extract 4 6).size≤7:=by simp[μ];omega
 have c2:=fun W=>eG (t.extract 4 6) 1 W s2 d2;have C2:=ad c2;have s3:(t.extract 6 t.size).size≤7:=by simp[μ];omega
 have c3:=fun W=>jE (t.extract 6 t.size) 1 W s3 d3;have C3:=ad c3;have H8:=ad h8;clear h8 c1 d1 s1 c2 d2 s2 c3 d3 s3;go_enter func69,ntmps69;go_wp2;refine wp_region_any (by kernel_rfl) ?_;change wpAny _ _ _ _ _ _ _ (ρ _);refine wpAny_take (i:=0) (v:=?_) rfl (by kernel_rfl) (by kernel_rfl) (by kernel_rfl) (fun _ _ _ h=>h) (ι ⟨by rfl,?_⟩) ?_;rotate_left 1
 ·intro w;go_simp<;>with_reducible rfl
 refine wpAny_take (i:=1) (v:=?_) rfl (by kernel_rfl) (by kernel_rfl) (by kernel_rfl) (fun _ _ _ h=>h) (ι ⟨by rfl,?_⟩) ?_;rotate_left 1
 ·intro w;go_simp<;>with_reducible rfl
 refine wpAny_take (i:=3) (v:=?_) rfl (by kernel_rfl) (by kernel_rfl) (by kernel_rfl) (fun _ _ _ h=>h) (ι ⟨by rfl,?_⟩) ?_;rotate_left 1
 ·intro w;go_simp<;>with_reducible rfl
 refine wpAny_take (i:=4) (v:=?_) rfl (by kernel_rfl) (by kernel_rfl) (by kernel_rfl) (fun _ _ _ h=>h) (ι ⟨by rfl,?_⟩) ?_;rotate_left 1
 ·intro w;go_simp<;>with_reducible rfl
 refine wpAny_take (i:=6) (v:=?_) rfl (by kernel_rfl) (by kernel_rfl) (by kernel_rfl) (fun _ _ _ h=>h) (ι ⟨by rfl,?_⟩) ?_;rotate_left 1
 ·intro w;go_simp<;>with_reducible rfl
 refine wpAny_take (i:=7) (v:=?_) rfl (by kernel_rfl) (by kernel_rfl) (by kernel_rfl) (fun _ _ _ h=>h) (ι ⟨by rfl,?_⟩) ?_;rotate_left 1
 ·intro w;go_simp<;>with_reducible rfl
 refine wpAny_ready (rs:=[2,10]) (by kernel_rfl) (by simp) ?_;refine η rfl (fun K hK=>?_) (η rfl (fun K hK=>?_) θ)
 ·go_simp;go_wp2_with (go_at_call 123;refine(C1.out _).mono ?_;rintro e w' ⟨rfl,rfl⟩)
  try(refine hK _ _ ?_;clear hK K)
  refine wpAny_ready (rs:=[5,10]) (by kernel_rfl) (by simp) ?_;refine η rfl (fun K hK=>?_) (η rfl (fun K hK=>?_) θ)
  ·go_simp;go_wp2_with (go_at_call 123;refine(C2.out _).mono ?_;rintro e w' ⟨rfl,rfl⟩)
   try(refine hK _ _ ?_;clear hK K)
   refine wpAny_ready (rs:=[8,10]) (by kernel_rfl) (by simp) ?_;refine η rfl (fun K hK=>?_) (η rfl (fun K hK=>?_) θ)
   ·go_simp;go_wp2_with (go_at_call 123;refine(C3.out _).mono ?_;rintro e w' ⟨rfl,rfl⟩);exact⟨rfl,rfl,((κ _ _).alloc (ν _) _).drew⟩
   ·go_simp;refine hK _ _ ?_;clear hK K;refine wpAny_ready (rs:=[8]) (by kernel_rfl) (by simp) ?_;refine η rfl (fun K hK=>?_) θ
    ·go_simp;go_wp2_with (go_at_call 123;refine(C3.out _).mono ?_;rintro e w' ⟨rfl,rfl⟩);exact⟨rfl,rfl,(((κ _ _).alloc (ν _) _).alloc (by simp) _).drew⟩
  ·go_simp;refine hK _ _ ?_;clear hK K;refine wpAny_ready (rs:=[5]) (by kernel_rfl) (by simp) ?_;refine η rfl (fun K hK=>?_) θ
   ·go_simp;go_wp2_with (go_at_call 123;refine(C2.out _).mono ?_;rintro e w' ⟨rfl,rfl⟩)
    try(refine hK _ _ ?_;clear hK K)
    refine wpAny_ready (rs:=[8]) (by kernel_rfl) (by simp) ?_;refine η rfl (fun K hK=>?_) θ
    ·go_simp;go_wp2_with (go_at_call 123;refine(C3.out _).mono ?_;rintro e w' ⟨rfl,rfl⟩);exact⟨rfl,rfl,(((κ _ _).alloc (ν _) _).alloc (by simp) _).drew⟩
 ·go_simp;refine hK _ _ ?_;clear hK K;refine wpAny_ready (rs:=[2]) (by kernel_rfl) (by simp) ?_;refine η rfl (fun K hK=>?_) θ
  ·go_simp;go_wp2_with (go_at_call 123;refine(C1.out _).mono ?_;rintro e w' ⟨rfl,rfl⟩)
   try(refine hK _ _ ?_;clear hK K)
   refine wpAny_ready (rs:=[5]) (by kernel_rfl) (by simp) ?_;refine η rfl (fun K hK=>?_) θ
   ·go_simp;go_wp2_with (go_at_call 123;refine(C2.out _).mono ?_;rintro e w' ⟨rfl,rfl⟩)
    try(refine hK _ _ ?_;clear hK K)
    refine wpAny_ready (rs:=[8]) (by kernel_rfl) (by simp) ?_;refine η rfl (fun K hK=>?_) θ
    ·go_simp;go_wp2_with (go_at_call 123;refine(C3.out _).mono ?_;rintro e w' ⟨rfl,rfl⟩);exact⟨rfl,rfl,(((κ _ _).alloc (ν _) _).alloc (by simp) _).drew⟩
theorem NG (t:ByteArray)(w:π)(h8:t.size=8):
 ο prog 69 #[ζ t] w fun E w'=>E=Ap (bF (cut t 0 4)) (bF (cut t 4 2)) (bF (cut t 6 2))∧Below w.heap.size w w':=by
 have a1:dU (t.extract 0 4)=(cut t 0 4).all ez:=yC t 0 4;have a2:dU (t.extract 4 6)=(cut t 4 2).all ez:=yC t 4 6;have a3:dU (t.extract 6 t.size)=(cut t 6 2).all ez:=by rw[yC,h8]
 have no:∀{y m d:Int},(y=-1∨m=-1∨d=-1)→Ap y m d= ε (bN 1):=by
  intro y m d h;refine xu ?_;rintro⟨q1,q2,q3⟩;obtain⟨q4,q5,q6,q7⟩:=(rv y m d).1 q3;omega
 cases d1:dU (t.extract 0 4)
 ·rw[no (.inl (xr (by rw[←a1];exact d1)))];exact Me t w h8 d1
 cases d2:dU (t.extract 4 6)
 ·rw[no (.inr (.inl (xr (by rw[←a2];exact d2))))];exact Mf t w h8 d1 d2
 cases d3:dU (t.extract 6 t.size)
 ·rw[no (.inr (.inr (xr (by rw[←a3];exact d3))))];exact Mg t w h8 d1 d2 d3
 have b1:=pE (l:=cut t 0 4) (by rw[←a1];exact d1);have b2:=pE (l:=cut t 4 2) (by rw[←a2];exact d2);have b3:=pE (l:=cut t 6 2) (by rw[←a3];exact d3);have r1:=nH (cut t 0 4) 4 (by rw[kF t 0 4 (by omega)];omega) (by rw[←a1];exact d1);have r2:=nH (cut t 4 2) 2 (by rw[kF t 4 2 (by omega)];omega) (by rw[←a2];exact d2);have r3:=nH (cut t 6 2) 2 (by rw[kF t 6 2 (by omega)];omega) (by rw[←a3];exact d3);rw[b1,b2,b3];exact Gu t w _ _ _ h8 d1 d2 d3 (by rw[bP]) (by rw[bP]) (by rw[bP,h8]) r1.1 (by omega) r2.1 (by omega) r3.1 (by omega)
def xH (n last:Int):Ending:=if 0≤n∧n≤last then δ (V Z n)else ε (bN 1)
theorem rF {n last:Int}(h:0≤n∧n≤last):xH n last= δ (V Z n):=by unfold xH;rw[if_pos h]
theorem qB {n last:Int}(h:¬(0≤n∧n≤last)):xH n last= ε (bN 1):=by unfold xH;rw[if_neg h]
theorem JR (t:ByteArray)(last:Int)(w:π)(h2:t.size=2):
 ο prog 70 #[ζ t, V Z last] w fun E w'=>E=xH (bF t.data.toList) last∧w=w':=by
 cases hd:dU t
 case false=>
  rw[xr hd,qB (by omega)];have c:=jE t 1 w (by omega) hd;have C:=ad c;clear c hd;go_enter func70,ntmps70;go_wp2_with (go_at_call 123;refine(C.out).mono ?_;rintro e w' ⟨rfl,rfl⟩);exact⟨rfl,rfl,rfl⟩
 case true=>
  have hl:t.data.toList.length=2:=by rw[Array.length_toList];exact h2
  have hb:=nH t.data.toList 2 (by omega) hd;rw[pE hd];have c:=eG t 1 w (by omega) hd;generalize iO t.data.toList=n at *
  have C:=ad c;clear c hd hl;by_cases hn:n≤last
  case pos=>
   rw[rF ⟨hb.1,hn⟩];go_enter func70,ntmps70;go_wp2_with (first
    |(go_at_call 123;refine(C.out).mono ?_;rintro e w' ⟨rfl,rfl⟩)
    |(go_at_call_of 65 (ξ true);refine(aF _ _).mono ?_;rintro e w' ⟨rfl,rfl⟩))
   go_ret;exact⟨rfl,rfl⟩
  case neg=>
   rw[qB (by omega)];have Jb:decide (n≤last)=false:=by simpa using hn
   go_enter func70,ntmps70;go_wp2_with (first
    |(go_at_call 123;refine(C.out).mono ?_;rintro e w' ⟨rfl,rfl⟩)
    |(go_at_call_of 65 (ξ false);refine(aM _ _).mono ?_;rintro e w' ⟨rfl,rfl⟩))
   exact⟨rfl,rfl,rfl⟩
theorem ia {x:Int}(h0:-9223372036854775808≤x)(h1:x≤9223372036854775807):IntKind.i64.wrap x=x:=by
 rw[IntKind.wrap_i64];omega
theorem aao (y m d:Int)(h0:1≤y)(h1:y≤10000)(h2:0≤m)(h3:m≤100)(h4:0≤d)(h5:d≤100):-1000000000≤ae.num y m d∧ae.num y m d≤1000000000:=by
 unfold ae.num;by_cases hm:m - 3<0
 ·have t1:=Ka (y - 1) (by omega) (by omega);have t2:=E9 (m - 3+12) (by omega) (by omega);rw[if_pos hm];omega
 ·have t1:=Ka y (by omega) (by omega);have t2:=E9 (m - 3) (by omega) (by omega);rw[if_neg hm];omega
theorem gT (y m d:Int)(w:π)(h0:1≤y)(h1:y≤10000)(h2:0≤m)(h3:m≤100)(h4:0≤d)(h5:d≤100):
 ο prog 64 #[.agg #[V Z y, V Z m, V Z d]] w fun e w'=>e= δ (V Z (ae.num y m d * 86400))∧Below w.heap.size w w':=by
 have hl:=aao y m d h0 h1 h2 h3 h4 h5;go_enter func64,ntmps64;go_wp2_with (go_at_call 120;refine(qL _ _ _ _ (by omega) (by omega) (by omega) (by omega) (by omega) (by omega)).mono ?_;rintro e w1 ⟨rfl,hb⟩);go_ret;exact⟨rfl,((κ _ _).alloc (ν _) _).trans (hb.mono (by simp))⟩
theorem Fc (n:Int)(w:π)(h0:0≤n)(h1:n≤7258118400):
 ο prog 66 #[V Z n] w fun e w'=>e= δ (cS (ae.ag (n/86400)) (ae.ofM (n/86400)) (ae.ar (n/86400)))∧Below w.heap.size w w':=by
 have hn:∀o,(w.alloc (.cells #[V Z 0, V Z 0, V Z 0] 106)).frozen? ⟨w.heap.size,o,none⟩=false:=fun o=>by simp[go_sem]
 go_enter func66,ntmps66;go_wp2_with (go_at_call 121;refine(yB _ _ (by omega) (by omega)).mono ?_;rintro e w2 ⟨rfl,az⟩;unfold cS;have c0:w2.cell? ⟨w.heap.size,0,none⟩=some (V Z 0):=(by rw[az.cell (p:=⟨w.heap.size,0,none⟩) (by simp)];simp[go_sem]);have c1:w2.cell? ⟨w.heap.size,1,none⟩=some (V Z 0):=(by rw[az.cell (p:=⟨w.heap.size,1,none⟩) (by simp)];simp[go_sem]);have c2:w2.cell? ⟨w.heap.size,2,none⟩=some (V Z 0):=(by rw[az.cell (p:=⟨w.heap.size,2,none⟩) (by simp)];simp[go_sem]);have f0:w2.frozen? ⟨w.heap.size,0,none⟩=false:=((lI az).2 w.heap.size 0 (by simp)).trans (hn 0);have f1:w2.frozen? ⟨w.heap.size,1,none⟩=false:=((lI az).2 w.heap.size 1 (by simp)).trans (hn 1);have f2:w2.frozen? ⟨w.heap.size,2,none⟩=false:=((lI az).2 w.heap.size 2 (by simp)).trans (hn 2));have ah:Below w.heap.size w w2:=((κ _ _).alloc (ν _) _).trans (az.mono (by simp));exact bodyPost_ret (v:=cS (ae.ag (n/86400)) (ae.ofM (n/86400)) (ae.ar (n/86400))) (by simp[results,results66,go_sem,c0,c1,c2,cS]) rfl ⟨rfl,((ah.setCell (ν _) _).setCell (ν _) _).setCell (ν _) _⟩
theorem NH (s:ByteArray)(w:π)(y m d h i c:Int)(hz:s.size=16)(h8:fQ s 8=84)(iP:fQ s 15=90)(y0:1970≤y)(y1:y≤2199)(vd:ae.Valid y m d)(h0:0≤h)(h1:h≤59)(i0:0≤i)(i1:i≤59)(c0:0≤c)(c1:c≤59)
 (vb:∀W,ο prog 69 #[ζ (s.extract 0 8)] W fun E w'=>E= δ (.agg #[V Z y, V Z m, V Z d])∧Below W.heap.size W w')
 (AP:∀W,ο prog 70 #[ζ (s.extract 9 11), V Z 23] W fun E w'=>E= δ (V Z h)∧Below W.heap.size W w')
 (Jc:∀W,ο prog 70 #[ζ (s.extract 11 13), V Z 59] W fun E w'=>E= δ (V Z i)∧Below W.heap.size W w')
 (TE:∀W,ο prog 70 #[ζ (s.extract 13 15), V Z 59] W fun E w'=>E= δ (V Z c)∧Below W.heap.size W w'):
 ο prog 39 #[ζ s] w fun E w'=>E= δ (V Z (ae.num y m d * 86400+h * 3600+i * 60+c))∧Below w.heap.size w w':=by
 have z0:((s.size:Int)==16)=true:=by simp[hz]
 have z1:(15:Int)<s.size:=by omega
 have Hz:15<s.size:=by omega
 have z8:(8:Int)≤s.size:=by omega
 have YQ:(11:Int)≤s.size:=by omega
 have YR:(13:Int)≤s.size:=by omega
 have YT:(15:Int)≤s.size:=by omega
 have HZ:=ad hz;clear hz;have G9:(((s[8]'(by omega)).toNat:Int)==84)=true:=by rw[bb s 8 (by omega),h8];rfl
 have Dm:(((s[15]'(by omega)).toNat:Int)==90)=true:=by rw[bb s 15 (by omega),iP];rfl
 have nb:=wO y0 y1 vd;obtain⟨v1,v2,v3,v4⟩:=vd;have md:=ae.fS y m;have C0:=ad vb;have C1:=ad AP;have C2:=ad Jc;have C3:=ad TE;clear h8 iP vb AP Jc TE;go_enter func39,ntmps39;go_wp2_with (first
  |(go_at_call_of 65 (ξ true);refine(aF _ _).mono ?_;rintro e w' ⟨rfl,rfl⟩))
 refine wp_region_any (by kernel_rfl) ?_;change wpAny _ _ _ _ _ _ _ (ρ _);refine wpAny_take (i:=0) (v:=?_) rfl (by kernel_rfl) (by kernel_rfl) (by kernel_rfl) (fun _ _ _ h=>h) (ι ⟨by rfl,?_⟩) ?_;rotate_left 1
 ·intro w;go_simp<;>with_reducible rfl
 refine wpAny_take (i:=1) (v:=?_) rfl (by kernel_rfl) (by kernel_rfl) (by kernel_rfl) (fun _ _ _ h=>h) (ι ⟨by rfl,?_⟩) ?_;rotate_left 1
 ·intro w;go_simp<;>with_reducible rfl
 refine wpAny_take (i:=4) (v:=?_) rfl (by kernel_rfl) (by kernel_rfl) (by kernel_rfl) (fun _ _ _ h=>h) (ι ⟨by rfl,?_⟩) ?_;rotate_left 1
 ·intro w;go_simp<;>with_reducible rfl
 refine wpAny_take (i:=5) (v:=?_) rfl (by kernel_rfl) (by kernel_rfl) (by kernel_rfl) (fun _ _ _ h=>h) (ι ⟨by rfl,?_⟩) ?_;rotate_left 1
 ·intro w;go_simp<;>with_reducible rfl
 refine wpAny_take (i:=9) (v:=?_) rfl (by kernel_rfl) (by kernel_rfl) (by kernel_rfl) (fun _ _ _ h=>h) (ι ⟨by rfl,?_⟩) ?_;rotate_left 1
 ·intro w;go_simp<;>with_reducible rfl
 refine wpAny_take (i:=10) (v:=?_) rfl (by kernel_rfl) (by kernel_rfl) (by kernel_rfl) (fun _ _ _ h=>h) (ι ⟨by rfl,?_⟩) ?_;rotate_left 1
 ·intro w;go_simp<;>with_reducible rfl
 refine wpAny_take (i:=14) (v:=?_) rfl (by kernel_rfl) (by kernel_rfl) (by kernel_rfl) (fun _ _ _ h=>h) (ι ⟨by rfl,?_⟩) ?_;rotate_left 1
 ·intro w;go_simp<;>with_reducible rfl
 refine wpAny_take (i:=15) (v:=?_) rfl (by kernel_rfl) (by kernel_rfl) (by kernel_rfl) (fun _ _ _ h=>h) (ι ⟨by rfl,?_⟩) ?_;rotate_left 1
 ·intro w;go_simp<;>with_reducible rfl
 refine wpAny_ready (rs:=[2]) (by kernel_rfl) (by simp) ?_;refine η rfl (fun K hK=>?_) θ;go_simp;go_wp2_with (go_at_call 69;refine(C0.out _).mono ?_;rintro e u0 ⟨rfl,bz⟩)
 try(refine hK _ _ ?_;clear hK K)
 refine wpAny_ready (rs:=[3]) (by kernel_rfl) (by simp) ?_;refine η rfl (fun K hK=>?_) θ;go_simp;go_wp2_with (go_at_call 64;refine(gT _ _ _ _ (by omega) (by omega) (by omega) (by omega) (by omega) (by omega)).mono ?_;rintro e un ⟨rfl,mW⟩)
 try(refine hK _ _ ?_;clear hK K)
 have bn:Below w.heap.size w un:=((κ _ _).drew.trans bz).trans (mW.mono bz.size);refine wpAny_ready (rs:=[6]) (by kernel_rfl) (by simp) ?_;refine η rfl (fun K hK=>?_) θ;go_simp;go_wp2_with (go_at_call 70;refine(C1.out _).mono ?_;rintro e u1 ⟨rfl,ai⟩)
 try(refine hK _ _ ?_;clear hK K)
 have b1:Below w.heap.size w u1:=bn.trans (ai.mono bn.size);have e1m:IntKind.i64.wrap (h * 3600)=h * 3600:=ia (by omega) (by omega);refine wpAny_take (i:=7) (v:=?_) rfl (by kernel_rfl) (by kernel_rfl) (by kernel_rfl) (fun _ _ _ h=>h) (ι ⟨by rfl,?_⟩) ?_;rotate_left 1
 ·intro w;go_simp<;>with_reducible rfl
 have e1a:IntKind.i64.wrap (ae.num y m d * 86400+h * 3600)=ae.num y m d * 86400+h * 3600:=ia (by omega) (by omega);refine wpAny_take (i:=8) (v:=?_) rfl (by kernel_rfl) (by kernel_rfl) (by kernel_rfl) (fun _ _ _ h=>h) (ι ⟨by rfl,?_⟩) ?_;rotate_left 1
 ·intro w;go_simp<;>with_reducible rfl
 refine wpAny_ready (rs:=[11]) (by kernel_rfl) (by simp) ?_;refine η rfl (fun K hK=>?_) θ;go_simp;go_wp2_with (go_at_call 70;refine(C2.out _).mono ?_;rintro e u2 ⟨rfl,az⟩)
 try(refine hK _ _ ?_;clear hK K)
 have b2:Below w.heap.size w u2:=b1.trans (az.mono b1.size);have e2m:IntKind.i64.wrap (i * 60)=i * 60:=ia (by omega) (by omega);refine wpAny_take (i:=12) (v:=?_) rfl (by kernel_rfl) (by kernel_rfl) (by kernel_rfl) (fun _ _ _ h=>h) (ι ⟨by rfl,?_⟩) ?_;rotate_left 1
 ·intro w;go_simp<;>with_reducible rfl
 have e2a:IntKind.i64.wrap (ae.num y m d * 86400+h * 3600+i * 60)=ae.num y m d * 86400+h * 3600+i * 60:=ia (by omega) (by omega);refine wpAny_take (i:=13) (v:=?_) rfl (by kernel_rfl) (by kernel_rfl) (by kernel_rfl) (fun _ _ _ h=>h) (ι ⟨by rfl,?_⟩) ?_;rotate_left 1
 ·intro w;go_simp<;>with_reducible rfl
 refine wpAny_ready (rs:=[16]) (by kernel_rfl) (by simp) ?_;refine η rfl (fun K hK=>?_) θ;go_simp;go_wp2_with (go_at_call 70;refine(C3.out _).mono ?_;rintro e u3 ⟨rfl,bw⟩)
 try(refine hK _ _ ?_;clear hK K)
 have b3:Below w.heap.size w u3:=b2.trans (bw.mono b2.size);have e3a:IntKind.i64.wrap (ae.num y m d * 86400+h * 3600+i * 60+c)=ae.num y m d * 86400+h * 3600+i * 60+c:=ia (by omega) (by omega);refine wpAny_take (i:=17) (v:=?_) rfl (by kernel_rfl) (by kernel_rfl) (by kernel_rfl) (fun _ _ _ h=>h) (ι ⟨by rfl,?_⟩) ?_;rotate_left 1
 ·intro w;go_simp<;>with_reducible rfl
 refine wpAny_take (i:=18) (v:=?_) rfl (by kernel_rfl) (by kernel_rfl) (by kernel_rfl) (fun _ _ _ h=>h) (ι ⟨by rfl,?_⟩) ?_;rotate_left 1
 ·intro w;go_simp<;>with_reducible rfl
 refine wpAny_done (by kernel_rfl) ?_ _;go_wp2;go_ret;exact⟨rfl,b3⟩
theorem JS (s:ByteArray)(w:π)(hz:s.size=16)(h8:fQ s 8=84)(iP:fQ s 15=90)
 (vb:∀W,ο prog 69 #[ζ (s.extract 0 8)] W fun E w'=>E= ε (bN 1)∧Below W.heap.size W w'):
 ο prog 39 #[ζ s] w fun E w'=>E= ε (bN 1)∧Below w.heap.size w w':=by
 have z0:((s.size:Int)==16)=true:=by simp[hz]
 have z1:(15:Int)<s.size:=by omega
 have Hz:15<s.size:=by omega
 have z8:(8:Int)≤s.size:=by omega
 have YQ:(11:Int)≤s.size:=by omega
 have YR:(13:Int)≤s.size:=by omega
 have YT:(15:Int)≤s.size:=by omega
 have HZ:=ad hz;clear hz;have G9:(((s[8]'(by omega)).toNat:Int)==84)=true:=by rw[bb s 8 (by omega),h8];rfl
 have Dm:(((s[15]'(by omega)).toNat:Int)==90)=true:=by rw[bb s 15 (by omega),iP];rfl
 have C0:=ad vb;clear h8 iP vb;go_enter func39,ntmps39;go_wp2_with (first
  |(go_at_call_of 65 (ξ true);refine(aF _ _).mono ?_;rintro e w' ⟨rfl,rfl⟩))
 refine wp_region_any (by kernel_rfl) ?_;change wpAny _ _ _ _ _ _ _ (ρ _);refine wpAny_take (i:=0) (v:=?_) rfl (by kernel_rfl) (by kernel_rfl) (by kernel_rfl) (fun _ _ _ h=>h) (ι ⟨by rfl,?_⟩) ?_;rotate_left 1
 ·intro w;go_simp<;>with_reducible rfl
 refine wpAny_take (i:=1) (v:=?_) rfl (by kernel_rfl) (by kernel_rfl) (by kernel_rfl) (fun _ _ _ h=>h) (ι ⟨by rfl,?_⟩) ?_;rotate_left 1
 ·intro w;go_simp<;>with_reducible rfl
 refine wpAny_take (i:=4) (v:=?_) rfl (by kernel_rfl) (by kernel_rfl) (by kernel_rfl) (fun _ _ _ h=>h) (ι ⟨by rfl,?_⟩) ?_;rotate_left 1
 ·intro w;go_simp<;>with_reducible rfl
 refine wpAny_take (i:=5) (v:=?_) rfl (by kernel_rfl) (by kernel_rfl) (by kernel_rfl) (fun _ _ _ h=>h) (ι ⟨by rfl,?_⟩) ?_;rotate_left 1
 ·intro w;go_simp<;>with_reducible rfl
 refine wpAny_take (i:=9) (v:=?_) rfl (by kernel_rfl) (by kernel_rfl) (by kernel_rfl) (fun _ _ _ h=>h) (ι ⟨by rfl,?_⟩) ?_;rotate_left 1
 ·intro w;go_simp<;>with_reducible rfl
 refine wpAny_take (i:=10) (v:=?_) rfl (by kernel_rfl) (by kernel_rfl) (by kernel_rfl) (fun _ _ _ h=>h) (ι ⟨by rfl,?_⟩) ?_;rotate_left 1
 ·intro w;go_simp<;>with_reducible rfl
 refine wpAny_take (i:=14) (v:=?_) rfl (by kernel_rfl) (by kernel_rfl) (by kernel_rfl) (fun _ _ _ h=>h) (ι ⟨by rfl,?_⟩) ?_;rotate_left 1
 ·intro w;go_simp<;>with_reducible rfl
 refine wpAny_take (i:=15) (v:=?_) rfl (by kernel_rfl) (by kernel_rfl) (by kernel_rfl) (fun _ _ _ h=>h) (ι ⟨by rfl,?_⟩) ?_;rotate_left 1
 ·intro w;go_simp<;>with_reducible rfl
 refine wpAny_ready (rs:=[2]) (by kernel_rfl) (by simp) ?_;refine η rfl (fun K hK=>?_) θ;go_simp;go_wp2_with (go_at_call 69;refine(C0.out _).mono ?_;rintro e u0 ⟨rfl,bz⟩);exact⟨rfl,rfl,(κ _ _).drew.trans bz⟩
theorem JT (s:ByteArray)(w:π)(y m d:Int)(hz:s.size=16)(h8:fQ s 8=84)(iP:fQ s 15=90)(y0:1970≤y)(y1:y≤2199)(vd:ae.Valid y m d)
 (vb:∀W,ο prog 69 #[ζ (s.extract 0 8)] W fun E w'=>E= δ (.agg #[V Z y, V Z m, V Z d])∧Below W.heap.size W w')
 (AP:∀W,ο prog 70 #[ζ (s.extract 9 11), V Z 23] W fun E w'=>E= ε (bN 1)∧Below W.heap.size W w'):
 ο prog 39 #[ζ s] w fun E w'=>E= ε (bN 1)∧Below w.heap.size w w':=by
 have z0:((s.size:Int)==16)=true:=by simp[hz]
 have z1:(15:Int)<s.size:=by omega
 have Hz:15<s.size:=by omega
 have z8:(8:Int)≤s.size:=by omega
 have YQ:(11:Int)≤s.size:=by omega
 have YR:(13:Int)≤s.size:=by omega
 have YT:(15:Int)≤s.size:=by omega
 have HZ:=ad hz;clear hz;have G9:(((s[8]'(by omega)).toNat:Int)==84)=true:=by rw[bb s 8 (by omega),h8];rfl
 have Dm:(((s[15]'(by omega)).toNat:Int)==90)=true:=by rw[bb s 15 (by omega),iP];rfl
 have nb:=wO y0 y1 vd;obtain⟨v1,v2,v3,v4⟩:=vd;have md:=ae.fS y m;have C0:=ad vb;have C1:=ad AP;clear h8 iP vb AP;go_enter func39,ntmps39;go_wp2_with (first
  |(go_at_call_of 65 (ξ true);refine(aF _ _).mono ?_;rintro e w' ⟨rfl,rfl⟩))
 refine wp_region_any (by kernel_rfl) ?_;change wpAny _ _ _ _ _ _ _ (ρ _);refine wpAny_take (i:=0) (v:=?_) rfl (by kernel_rfl) (by kernel_rfl) (by kernel_rfl) (fun _ _ _ h=>h) (ι ⟨by rfl,?_⟩) ?_;rotate_left 1
 ·intro w;go_simp<;>with_reducible rfl
 refine wpAny_take (i:=1) (v:=?_) rfl (by kernel_rfl) (by kernel_rfl) (by kernel_rfl) (fun _ _ _ h=>h) (ι ⟨by rfl,?_⟩) ?_;rotate_left 1
 ·intro w;go_simp<;>with_reducible rfl
 refine wpAny_take (i:=4) (v:=?_) rfl (by kernel_rfl) (by kernel_rfl) (by kernel_rfl) (fun _ _ _ h=>h) (ι ⟨by rfl,?_⟩) ?_;rotate_left 1
 ·intro w;go_simp<;>with_reducible rfl
 refine wpAny_take (i:=5) (v:=?_) rfl (by kernel_rfl) (by kernel_rfl) (by kernel_rfl) (fun _ _ _ h=>h) (ι ⟨by rfl,?_⟩) ?_;rotate_left 1
 ·intro w;go_simp<;>with_reducible rfl
 refine wpAny_take (i:=9) (v:=?_) rfl (by kernel_rfl) (by kernel_rfl) (by kernel_rfl) (fun _ _ _ h=>h) (ι ⟨by rfl,?_⟩) ?_;rotate_left 1
 ·intro w;go_simp<;>with_reducible rfl
 refine wpAny_take (i:=10) (v:=?_) rfl (by kernel_rfl) (by kernel_rfl) (by kernel_rfl) (fun _ _ _ h=>h) (ι ⟨by rfl,?_⟩) ?_;rotate_left 1
 ·intro w;go_simp<;>with_reducible rfl
 refine wpAny_take (i:=14) (v:=?_) rfl (by kernel_rfl) (by kernel_rfl) (by kernel_rfl) (fun _ _ _ h=>h) (ι ⟨by rfl,?_⟩) ?_;rotate_left 1
 ·intro w;go_simp<;>with_reducible rfl
 refine wpAny_take (i:=15) (v:=?_) rfl (by kernel_rfl) (by kernel_rfl) (by kernel_rfl) (fun _ _ _ h=>h) (ι ⟨by rfl,?_⟩) ?_;rotate_left 1
 ·intro w;go_simp<;>with_reducible rfl
 refine wpAny_ready (rs:=[2]) (by kernel_rfl) (by simp) ?_;refine η rfl (fun K hK=>?_) θ;go_simp;go_wp2_with (go_at_call 69;refine(C0.out _).mono ?_;rintro e u0 ⟨rfl,bz⟩)
 try(refine hK _ _ ?_;clear hK K)
 refine wpAny_ready (rs:=[3]) (by kernel_rfl) (by simp) ?_;refine η rfl (fun K hK=>?_) θ;go_simp;go_wp2_with (go_at_call 64;refine(gT _ _ _ _ (by omega) (by omega) (by omega) (by omega) (by omega) (by omega)).mono ?_;rintro e un ⟨rfl,mW⟩)
 try(refine hK _ _ ?_;clear hK K)
 have bn:Below w.heap.size w un:=((κ _ _).drew.trans bz).trans (mW.mono bz.size);refine wpAny_ready (rs:=[6]) (by kernel_rfl) (by simp) ?_;refine η rfl (fun K hK=>?_) θ;go_simp;go_wp2_with (go_at_call 70;refine(C1.out _).mono ?_;rintro e u1 ⟨rfl,ai⟩);exact⟨rfl,rfl,bn.trans (ai.mono bn.size)⟩
theorem JU (s:ByteArray)(w:π)(y m d h:Int)(hz:s.size=16)(h8:fQ s 8=84)(iP:fQ s 15=90)(y0:1970≤y)(y1:y≤2199)(vd:ae.Valid y m d)(h0:0≤h)(h1:h≤59)
 (vb:∀W,ο prog 69 #[ζ (s.extract 0 8)] W fun E w'=>E= δ (.agg #[V Z y, V Z m, V Z d])∧Below W.heap.size W w')
 (AP:∀W,ο prog 70 #[ζ (s.extract 9 11), V Z 23] W fun E w'=>E= δ (V Z h)∧Below W.heap.size W w')
 (Jc:∀W,ο prog 70 #[ζ (s.extract 11 13), V Z 59] W fun E w'=>E= ε (bN 1)∧Below W.heap.size W w'):
 ο prog 39 #[ζ s] w fun E w'=>E= ε (bN 1)∧Below w.heap.size w w':=by
 have z0:((s.size:Int)==16)=true:=by simp[hz]
 have z1:(15:Int)<s.size:=by omega
 have Hz:15<s.size:=by omega
 have z8:(8:Int)≤s.size:=by omega
 have YQ:(11:Int)≤s.size:=by omega
 have YR:(13:Int)≤s.size:=by omega
 have YT:(15:Int)≤s.size:=by omega
 have HZ:=ad hz;clear hz;have G9:(((s[8]'(by omega)).toNat:Int)==84)=true:=by rw[bb s 8 (by omega),h8];rfl
 have Dm:(((s[15]'(by omega)).toNat:Int)==90)=true:=by rw[bb s 15 (by omega),iP];rfl
 have nb:=wO y0 y1 vd;obtain⟨v1,v2,v3,v4⟩:=vd;have md:=ae.fS y m;have C0:=ad vb;have C1:=ad AP;have C2:=ad Jc;clear h8 iP vb AP Jc;go_enter func39,ntmps39;go_wp2_with (first
  |(go_at_call_of 65 (ξ true);refine(aF _ _).mono ?_;rintro e w' ⟨rfl,rfl⟩))
 refine wp_region_any (by kernel_rfl) ?_;change wpAny _ _ _ _ _ _ _ (ρ _);refine wpAny_take (i:=0) (v:=?_) rfl (by kernel_rfl) (by kernel_rfl) (by kernel_rfl) (fun _ _ _ h=>h) (ι ⟨by rfl,?_⟩) ?_;rotate_left 1
 ·intro w;go_simp<;>with_reducible rfl
 refine wpAny_take (i:=1) (v:=?_) rfl (by kernel_rfl) (by kernel_rfl) (by kernel_rfl) (fun _ _ _ h=>h) (ι ⟨by rfl,?_⟩) ?_;rotate_left 1
 ·intro w;go_simp<;>with_reducible rfl
 refine wpAny_take (i:=4) (v:=?_) rfl (by kernel_rfl) (by kernel_rfl) (by kernel_rfl) (fun _ _ _ h=>h) (ι ⟨by rfl,?_⟩) ?_;rotate_left 1
 ·intro w;go_simp<;>with_reducible rfl
 refine wpAny_take (i:=5) (v:=?_) rfl (by kernel_rfl) (by kernel_rfl) (by kernel_rfl) (fun _ _ _ h=>h) (ι ⟨by rfl,?_⟩) ?_;rotate_left 1
 ·intro w;go_simp<;>with_reducible rfl
 refine wpAny_take (i:=9) (v:=?_) rfl (by kernel_rfl) (by kernel_rfl) (by kernel_rfl) (fun _ _ _ h=>h) (ι ⟨by rfl,?_⟩) ?_;rotate_left 1
 ·intro w;go_simp<;>with_reducible rfl
 refine wpAny_take (i:=10) (v:=?_) rfl (by kernel_rfl) (by kernel_rfl) (by kernel_rfl) (fun _ _ _ h=>h) (ι ⟨by rfl,?_⟩) ?_;rotate_left 1
 ·intro w;go_simp<;>with_reducible rfl
 refine wpAny_take (i:=14) (v:=?_) rfl (by kernel_rfl) (by kernel_rfl) (by kernel_rfl) (fun _ _ _ h=>h) (ι ⟨by rfl,?_⟩) ?_;rotate_left 1
 ·intro w;go_simp<;>with_reducible rfl
 refine wpAny_take (i:=15) (v:=?_) rfl (by kernel_rfl) (by kernel_rfl) (by kernel_rfl) (fun _ _ _ h=>h) (ι ⟨by rfl,?_⟩) ?_;rotate_left 1
 ·intro w;go_simp<;>with_reducible rfl
 refine wpAny_ready (rs:=[2]) (by kernel_rfl) (by simp) ?_;refine η rfl (fun K hK=>?_) θ;go_simp;go_wp2_with (go_at_call 69;refine(C0.out _).mono ?_;rintro e u0 ⟨rfl,bz⟩)
 try(refine hK _ _ ?_;clear hK K)
 refine wpAny_ready (rs:=[3]) (by kernel_rfl) (by simp) ?_;refine η rfl (fun K hK=>?_) θ;go_simp;go_wp2_with (go_at_call 64;refine(gT _ _ _ _ (by omega) (by omega) (by omega) (by omega) (by omega) (by omega)).mono ?_;rintro e un ⟨rfl,mW⟩)
 try(refine hK _ _ ?_;clear hK K)
 have bn:Below w.heap.size w un:=((κ _ _).drew.trans bz).trans (mW.mono bz.size);refine wpAny_ready (rs:=[6]) (by kernel_rfl) (by simp) ?_;refine η rfl (fun K hK=>?_) θ;go_simp;go_wp2_with (go_at_call 70;refine(C1.out _).mono ?_;rintro e u1 ⟨rfl,ai⟩)
 try(refine hK _ _ ?_;clear hK K)
 have b1:Below w.heap.size w u1:=bn.trans (ai.mono bn.size);have e1m:IntKind.i64.wrap (h * 3600)=h * 3600:=ia (by omega) (by omega);refine wpAny_take (i:=7) (v:=?_) rfl (by kernel_rfl) (by kernel_rfl) (by kernel_rfl) (fun _ _ _ h=>h) (ι ⟨by rfl,?_⟩) ?_;rotate_left 1
 ·intro w;go_simp<;>with_reducible rfl
 have e1a:IntKind.i64.wrap (ae.num y m d * 86400+h * 3600)=ae.num y m d * 86400+h * 3600:=ia (by omega) (by omega);refine wpAny_take (i:=8) (v:=?_) rfl (by kernel_rfl) (by kernel_rfl) (by kernel_rfl) (fun _ _ _ h=>h) (ι ⟨by rfl,?_⟩) ?_;rotate_left 1
 ·intro w;go_simp<;>with_reducible rfl
 refine wpAny_ready (rs:=[11]) (by kernel_rfl) (by simp) ?_;refine η rfl (fun K hK=>?_) θ;go_simp;go_wp2_with (go_at_call 70;refine(C2.out _).mono ?_;rintro e u2 ⟨rfl,az⟩);exact⟨rfl,rfl,b1.trans (az.mono b1.size)⟩
theorem JW (s:ByteArray)(w:π)(y m d h i:Int)(hz:s.size=16)(h8:fQ s 8=84)(iP:fQ s 15=90)(y0:1970≤y)(y1:y≤2199)(vd:ae.Valid y m d)(h0:0≤h)(h1:h≤59)(i0:0≤i)(i1:i≤59)
 (vb:∀W,ο prog 69 #[ζ (s.extract 0 8)] W fun E w'=>E= δ (.agg #[V Z y, V Z m, V Z d])∧Below W.heap.size W w')
 (AP:∀W,ο prog 70 #[ζ (s.extract 9 11), V Z 23] W fun E w'=>E= δ (V Z h)∧Below W.heap.size W w')
 (Jc:∀W,ο prog 70 #[ζ (s.extract 11 13), V Z 59] W fun E w'=>E= δ (V Z i)∧Below W.heap.size W w')
 (TE:∀W,ο prog 70 #[ζ (s.extract 13 15), V Z 59] W fun E w'=>E= ε (bN 1)∧Below W.heap.size W w'):
 ο prog 39 #[ζ s] w fun E w'=>E= ε (bN 1)∧Below w.heap.size w w':=by
 have z0:((s.size:Int)==16)=true:=by simp[hz]
 have z1:(15:Int)<s.size:=by omega
 have Hz:15<s.size:=by omega
 have z8:(8:Int)≤s.size:=by omega
 have YQ:(11:Int)≤s.size:=by omega
 have YR:(13:Int)≤s.size:=by omega
 have YT:(15:Int)≤s.size:=by omega
 have HZ:=ad hz;clear hz;have G9:(((s[8]'(by omega)).toNat:Int)==84)=true:=by rw[bb s 8 (by omega),h8];rfl
 have Dm:(((s[15]'(by omega)).toNat:Int)==90)=true:=by rw[bb s 15 (by omega),iP];rfl
 have nb:=wO y0 y1 vd;obtain⟨v1,v2,v3,v4⟩:=vd;have md:=ae.fS y m;have C0:=ad vb;have C1:=ad AP;have C2:=ad Jc;have C3:=ad TE;clear h8 iP vb AP Jc TE;go_enter func39,ntmps39;go_wp2_with (first
  |(go_at_call_of 65 (ξ true);refine(aF _ _).mono ?_;rintro e w' ⟨rfl,rfl⟩))
 refine wp_region_any (by kernel_rfl) ?_;change wpAny _ _ _ _ _ _ _ (ρ _);refine wpAny_take (i:=0) (v:=?_) rfl (by kernel_rfl) (by kernel_rfl) (by kernel_rfl) (fun _ _ _ h=>h) (ι ⟨by rfl,?_⟩) ?_;rotate_left 1
 ·intro w;go_simp<;>with_reducible rfl
 refine wpAny_take (i:=1) (v:=?_) rfl (by kernel_rfl) (by kernel_rfl) (by kernel_rfl) (fun _ _ _ h=>h) (ι ⟨by rfl,?_⟩) ?_;rotate_left 1
 ·intro w;go_simp<;>with_reducible rfl
 refine wpAny_take (i:=4) (v:=?_) rfl (by kernel_rfl) (by kernel_rfl) (by kernel_rfl) (fun _ _ _ h=>h) (ι ⟨by rfl,?_⟩) ?_;rotate_left 1
 ·intro w;go_simp<;>with_reducible rfl
 refine wpAny_take (i:=5) (v:=?_) rfl (by kernel_rfl) (by kernel_rfl) (by kernel_rfl) (fun _ _ _ h=>h) (ι ⟨by rfl,?_⟩) ?_;rotate_left 1
 ·intro w;go_simp<;>with_reducible rfl
 refine wpAny_take (i:=9) (v:=?_) rfl (by kernel_rfl) (by kernel_rfl) (by kernel_rfl) (fun _ _ _ h=>h) (ι ⟨by rfl,?_⟩) ?_;rotate_left 1
 ·intro w;go_simp<;>with_reducible rfl
 refine wpAny_take (i:=10) (v:=?_) rfl (by kernel_rfl) (by kernel_rfl) (by kernel_rfl) (fun _ _ _ h=>h) (ι ⟨by rfl,?_⟩) ?_;rotate_left 1
 ·intro w;go_simp<;>with_reducible rfl
 refine wpAny_take (i:=14) (v:=?_) rfl (by kernel_rfl) (by kernel_rfl) (by kernel_rfl) (fun _ _ _ h=>h) (ι ⟨by rfl,?_⟩) ?_;rotate_left 1
 ·intro w;go_simp<;>with_reducible rfl
 refine wpAny_take (i:=15) (v:=?_) rfl (by kernel_rfl) (by kernel_rfl) (by kernel_rfl) (fun _ _ _ h=>h) (ι ⟨by rfl,?_⟩) ?_;rotate_left 1
 ·intro w;go_simp<;>with_reducible rfl
 refine wpAny_ready (rs:=[2]) (by kernel_rfl) (by simp) ?_;refine η rfl (fun K hK=>?_) θ;go_simp;go_wp2_with (go_at_call 69;refine(C0.out _).mono ?_;rintro e u0 ⟨rfl,bz⟩)
 try(refine hK _ _ ?_;clear hK K)
 refine wpAny_ready (rs:=[3]) (by kernel_rfl) (by simp) ?_;refine η rfl (fun K hK=>?_) θ;go_simp;go_wp2_with (go_at_call 64;refine(gT _ _ _ _ (by omega) (by omega) (by omega) (by omega) (by omega) (by omega)).mono ?_;rintro e un ⟨rfl,mW⟩)
 try(refine hK _ _ ?_;clear hK K)
 have bn:Below w.heap.size w un:=((κ _ _).drew.trans bz).trans (mW.mono bz.size);refine wpAny_ready (rs:=[6]) (by kernel_rfl) (by simp) ?_;refine η rfl (fun K hK=>?_) θ;go_simp;go_wp2_with (go_at_call 70;refine(C1.out _).mono ?_;rintro e u1 ⟨rfl,ai⟩)
 try(refine hK _ _ ?_;clear hK K)
 have b1:Below w.heap.size w u1:=bn.trans (ai.mono bn.size);have e1m:IntKind.i64.wrap (h * 3600)=h * 3600:=ia (by omega) (by omega);refine wpAny_take (i:=7) (v:=?_) rfl (by kernel_rfl) (by kernel_rfl) (by kernel_rfl) (fun _ _ _ h=>h) (ι ⟨by rfl,?_⟩) ?_;rotate_left 1
 ·intro w;go_simp<;>with_reducible rfl
 have e1a:IntKind.i64.wrap (ae.num y m d * 86400+h * 3600)=ae.num y m d * 86400+h * 3600:=ia (by omega) (by omega);refine wpAny_take (i:=8) (v:=?_) rfl (by kernel_rfl) (by kernel_rfl) (by kernel_rfl) (fun _ _ _ h=>h) (ι ⟨by rfl,?_⟩) ?_;rotate_left 1
 ·intro w;go_simp<;>with_reducible rfl
 refine wpAny_ready (rs:=[11]) (by kernel_rfl) (by simp) ?_;refine η rfl (fun K hK=>?_) θ;go_simp;go_wp2_with (go_at_call 70;refine(C2.out _).mono ?_;rintro e u2 ⟨rfl,az⟩)
 try(refine hK _ _ ?_;clear hK K)
 have b2:Below w.heap.size w u2:=b1.trans (az.mono b1.size);have e2m:IntKind.i64.wrap (i * 60)=i * 60:=ia (by omega) (by omega);refine wpAny_take (i:=12) (v:=?_) rfl (by kernel_rfl) (by kernel_rfl) (by kernel_rfl) (fun _ _ _ h=>h) (ι ⟨by rfl,?_⟩) ?_;rotate_left 1
 ·intro w;go_simp<;>with_reducible rfl
 have e2a:IntKind.i64.wrap (ae.num y m d * 86400+h * 3600+i * 60)=ae.num y m d * 86400+h * 3600+i * 60:=ia (by omega) (by omega);refine wpAny_take (i:=13) (v:=?_) rfl (by kernel_rfl) (by kernel_rfl) (by kernel_rfl) (fun _ _ _ h=>h) (ι ⟨by rfl,?_⟩) ?_;rotate_left 1
 ·intro w;go_simp<;>with_reducible rfl
 refine wpAny_ready (rs:=[16]) (by kernel_rfl) (by simp) ?_;refine η rfl (fun K hK=>?_) θ;go_simp;go_wp2_with (go_at_call 70;refine(C3.out _).mono ?_;rintro e u3 ⟨rfl,bw⟩);exact⟨rfl,rfl,b2.trans (bw.mono b2.size)⟩
def rj (s:ByteArray):Ending:=if fs s=true then δ (V Z (eI s))else ε (bN 1)
theorem ve {s:ByteArray}(h:la s):rj s= δ (V Z (eI s)):=by unfold rj;rw[if_pos (eA.2 h)]
theorem jP {s:ByteArray}(h:¬la s):rj s= ε (bN 1):=by unfold rj;rw[if_neg (fun e=>h (eA.1 e))]
theorem GI (s:ByteArray)(a b c d:Nat)(h:c+d≤b - a):cut (s.extract a b) c d=cut s (a+c) d:=by
 unfold cut;have:(s.extract a b).data.toList=cut s a (b - a):=bP s a b;rw[this];unfold cut;rw[List.drop_take,List.take_take,List.drop_drop,Nat.min_eq_left (by omega)]
theorem AQ (s:ByteArray)(w:π):
 ο prog 39 #[ζ s] w fun E w'=>E=rj s∧Below w.heap.size w w':=by
 by_cases hz:s.size=16
 case neg=>
  rw[jP (fun h=>hz h.1)];have Kk:((s.size:Int)==16)=false:=by rw[beq_eq_false_iff_ne];omega
  clear hz;go_enter func39,ntmps39;go_wp2_with (go_at_call_of 65 (ξ false);refine(aM _ _).mono ?_;rintro e w' ⟨rfl,rfl⟩);exact⟨rfl,rfl,κ _ _⟩
 have z0:((s.size:Int)==16)=true:=by simp[hz]
 have Hz:15<s.size:=by omega
 have e8:=bb s 8 (by omega);have zd:=bb s 15 (by omega);by_cases h8:fQ s 8=84
 case neg=>
  rw[jP (fun h=>h8 h.2.1)];have G9:(((s[8]'(by omega)).toNat:Int)==84)=false:=by rw[beq_eq_false_iff_ne,e8];exact h8
  clear h8 e8 zd;go_enter func39,ntmps39;go_wp2_with (first
   |(go_at_call_of 65 (ξ true);refine(aF _ _).mono ?_;rintro e w' ⟨rfl,rfl⟩)
   |(go_at_call_of 65 (ξ false);refine(aM _ _).mono ?_;rintro e w' ⟨rfl,rfl⟩))
  exact⟨rfl,rfl,κ _ _⟩
 by_cases iP:fQ s 15=90
 case neg=>
  rw[jP (fun h=>iP h.2.2.1)];have G9:(((s[8]'(by omega)).toNat:Int)==84)=true:=by rw[e8,h8];rfl
  have Dm:(((s[15]'(by omega)).toNat:Int)==90)=false:=by rw[beq_eq_false_iff_ne,zd];exact iP
  clear h8 e8 zd iP;go_enter func39,ntmps39;go_wp2_with (first
   |(go_at_call_of 65 (ξ true);refine(aF _ _).mono ?_;rintro e w' ⟨rfl,rfl⟩)
   |(go_at_call_of 65 (ξ false);refine(aM _ _).mono ?_;rintro e w' ⟨rfl,rfl⟩))
  exact⟨rfl,rfl,κ _ _⟩
 clear e8 zd z0;have k0:∀W,ο prog 69 #[ζ (s.extract 0 8)] W fun E w'=>E=Ap (bF (cut s 0 4)) (bF (cut s 4 2)) (bF (cut s 6 2))∧Below W.heap.size W w':=fun W=>by
  have:=NG (s.extract 0 8) W (by simp[μ];omega);rw[GI s 0 8 0 4 (by omega),GI s 0 8 4 2 (by omega),GI s 0 8 6 2 (by omega)]at this;exact this
 have kc:∀(a b:Nat) (last:Int) (W:π),b - a=2→b≤s.size→ο prog 70 #[ζ (s.extract a b), V Z last] W fun E w'=>E=xH (bF (cut s a 2)) last∧Below W.heap.size W w':=fun a b last W XE hb=>by
  have:=JR (s.extract a b) last W (by simp[μ];omega);rw[bP,XE]at this;exact this.mono fun E w' ⟨q1,q2⟩=>⟨q1,by rw[←q2];exact κ _ _⟩
 have k1:=fun W=>kc 9 11 23 W rfl (by omega);have k2:=fun W=>kc 11 13 59 W rfl (by omega);have k3:=fun W=>kc 13 15 59 W rfl (by omega);by_cases hd:1970≤bF (cut s 0 4)∧bF (cut s 0 4)≤2199∧oO (bF (cut s 0 4)) (bF (cut s 4 2)) (bF (cut s 6 2))=true
 case neg=>
  rw[jP (fun h=>hd ⟨h.2.2.2.1,h.2.2.2.2.1,(rv _ _ _).2 h.2.2.2.2.2.1⟩)];rw[xu hd]at k0;exact JS s w hz h8 iP k0
 rw[Li hd]at k0;have hv:=(rv _ _ _).1 hd.2.2;by_cases hh:0≤bF (cut s 9 2)∧bF (cut s 9 2)≤23
 case neg=>
  rw[jP (fun h=>hh ⟨h.2.2.2.2.2.2.1,h.2.2.2.2.2.2.2.1⟩)];rw[qB hh]at k1;exact JT s w _ _ _ hz h8 iP hd.1 hd.2.1 hv k0 k1
 rw[rF hh]at k1;by_cases hi:0≤bF (cut s 11 2)∧bF (cut s 11 2)≤59
 case neg=>
  rw[jP (fun h=>hi ⟨h.2.2.2.2.2.2.2.2.1,h.2.2.2.2.2.2.2.2.2.1⟩)];rw[qB hi]at k2;exact JU s w _ _ _ _ hz h8 iP hd.1 hd.2.1 hv hh.1 (by omega) k0 k1 k2
 rw[rF hi]at k2;by_cases hc:0≤bF (cut s 13 2)∧bF (cut s 13 2)≤59
 case neg=>
  rw[jP (fun h=>hc ⟨h.2.2.2.2.2.2.2.2.2.2.1,h.2.2.2.2.2.2.2.2.2.2.2⟩)];rw[qB hc]at k3;exact JW s w _ _ _ _ _ hz h8 iP hd.1 hd.2.1 hv hh.1 (by omega) hi.1 hi.2 k0 k1 k2 k3
 rw[rF hc]at k3;rw[ve ⟨hz,h8,iP,hd.1,hd.2.1,hv,hh.1,hh.2,hi.1,hi.2,hc.1,hc.2⟩];exact NH s w _ _ _ _ _ _ hz h8 iP hd.1 hd.2.1 hv hh.1 (by omega) hi.1 hi.2 hc.1 hc.2 k0 k1 k2 k3
theorem pQ {P:Program}{Q:Exit→Act→List Frame→π→Prop}{a:Act}{cs:List Frame}{w:π}{x y:Code}
 (h:∀K:Act→List Frame→π→Prop,(∀a cs w,y.wpS P Q a cs w→K a cs w)→x.wpS P (Exit.thenS K Q) a cs w):(Code.seq x y).wpS P Q a cs w:=
 wpS_seq (h _ (fun _ _ _ h=>h))
theorem nY (p:Addr)(v:Value):#[Value.pointer (some p)]++((Array.replicate 16 undef).setIfInBounds 3 v).setIfInBounds 0 v=#[.pointer (some p),v,undef,undef,v,undef,undef,undef,undef,undef,undef,undef,undef,undef,undef,undef,undef]:=rfl
theorem yO (e:Int)(w:π):(Instr.typeAssert (.iface 103 (.agg #[V Z e])) 20 103 true).run prog w= .ok (.tuple #[.agg #[V Z e], .bool true]) w:=by
 kernel_rfl
theorem JX (p:Addr)(w:π):
 CallsD prog 68 #[.pointer (some p)] .returning w fun e u' w'=>e= δ (.tuple #[])∧u'= .returning∧w'=w:=by
 have hf:=nY p .nilIface;refine callsD_of_wpS func68 rfl fun c₀ cs hu=>?_;refine pQ fun K hK=>?_;refine wpS_region ?_;simp[wpOpsS,go_sem,recoverD,hu,ntmps68,Exit.thenS];rw[hf];refine hK _ _ _ ?_;clear hK K hf;refine wpS_of_wp ?_;go_wp2;cases c₀;simp_all[bodyPostS,results,results68]
theorem AR (p:Addr)(e:Int)(x:Value)(vf:List PanicEntry)(w:π)(hc:w.cell? p=some x)(hz:w.frozen? p=false)(hp:p.block<w.heap.size):
 CallsD prog 68 #[.pointer (some p)] (.panicking ({v:= .iface 103 (.agg #[V Z e]),recovered:=false}::vf)) w fun E u' w'=>
  E= δ (.tuple #[])∧u'= .panicking ({v:= .iface 103 (.agg #[V Z e]),recovered:=true}::vf)∧w'=(w.alloc (.cells #[V Z e] 103)).setCell p (V Z e):=by
 have hta:=yO;have fb:∀o,(w.alloc o).frozen? p=false:=fun o=>by rw[τ w o p (by omega)];exact hz
 have hf:=nY p (.iface 103 (.agg #[V Z e]));refine callsD_of_wpS func68 rfl fun c₀ cs hu=>?_;refine pQ fun K hK=>?_;refine wpS_region ?_;simp[wpOpsS,go_sem,recoverD,hu,ntmps68,Exit.thenS];rw[hf];refine hK _ _ _ ?_;clear hK K hf;refine wpS_of_wp ?_;go_wp2;exact⟨rfl,_,rfl, .tuple #[],by simp[results,results68],rfl,rfl,rfl⟩
theorem DU (p:Addr)(w:π):
 CallsD prog 63 #[.pointer (some p)] .returning w fun e u' w'=>e= δ (.tuple #[])∧u'= .returning∧w'=w:=by
 have hf:=nY p .nilIface;refine callsD_of_wpS func63 rfl fun c₀ cs hu=>?_;refine pQ fun K hK=>?_;refine wpS_region ?_;simp[wpOpsS,go_sem,recoverD,hu,ntmps63,Exit.thenS];rw[hf];refine hK _ _ _ ?_;clear hK K hf;refine wpS_of_wp ?_;go_wp2;cases c₀;simp_all[bodyPostS,results,results63]
theorem xI (p:Addr)(e:Int)(x:Value)(vf:List PanicEntry)(w:π)(hc:w.cell? p=some x)(hz:w.frozen? p=false)(hp:p.block<w.heap.size):
 CallsD prog 63 #[.pointer (some p)] (.panicking ({v:= .iface 103 (.agg #[V Z e]),recovered:=false}::vf)) w fun E u' w'=>
  E= δ (.tuple #[])∧u'= .panicking ({v:= .iface 103 (.agg #[V Z e]),recovered:=true}::vf)∧w'=(w.alloc (.cells #[V Z e] 103)).setCell p (V Z e):=by
 have hta:=yO;have fb:∀o,(w.alloc o).frozen? p=false:=fun o=>by rw[τ w o p (by omega)];exact hz
 have hf:=nY p (.iface 103 (.agg #[V Z e]));refine callsD_of_wpS func63 rfl fun c₀ cs hu=>?_;refine pQ fun K hK=>?_;refine wpS_region ?_;simp[wpOpsS,go_sem,recoverD,hu,ntmps63,Exit.thenS];rw[hf];refine hK _ _ _ ?_;clear hK K hf;refine wpS_of_wp ?_;go_wp2;exact⟨rfl,_,rfl, .tuple #[],by simp[results,results63],rfl,rfl,rfl⟩
end Go.Proofs.YthpndgcaoeokeaaGreatDoor
