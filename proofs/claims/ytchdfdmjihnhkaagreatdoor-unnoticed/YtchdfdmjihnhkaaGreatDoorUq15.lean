import Derived.Test.YtchdfdmjihnhkaaGreatDoorUq13
import Derived.Test.YtchdfdmjihnhkaaGreatDoorRows
import Derived.Test.YtchdfdmjihnhkaaGreatDoorCards
import Derived.Test.YtchdfdmjihnhkaaGreatDoorTie
import Derived.Deep.Slices
import Derived.Lib.SmallJoins
import Derived.Lib.LaidTab
import Derived.Stop.LaidErr
import Derived.MakeChecks
import Derived.ProofKit
import Derived.OpenShut
import Derived.LaidMore
import Derived.Lay
import Derived.SevenTiedAt
import Derived.Stop.Joined
import Derived.Carry
import Derived.Deep.DeepHandedRow
import Derived.Shelf.LaysM
import Derived.ChangeMaps5
import Derived.WalkArith
set_option maxRecDepth 100000
set_option maxHeartbeats 8000000
namespace Go.Proofs.YtchdfdmjihnhkaaGreatDoor
open _root_.Go.Proofs.Tryz
open Go.ChangeAt Go.ChangeShapes Go.RowKit Go.WideShapes
section
theorem LV:prog.cellsOf 3=1:=by kernel_rfl
theorem NJ:prog.cellsOf 9=1:=by kernel_rfl
theorem Xu {w:World}{a:Addr}{v:Value}(h:w.cell? a=some v):a.spot=none:=by
 unfold World.cell? at h;split at h
 ·split at h
  ·cases h
  rename_i hn;cases hs:a.spot with
  |none=>rfl
  |some x=>rw[hs]at hn;simp at hn
 cases h
theorem J8 {α:Type}{l:List α}{k:Nat}{c:α}(h:(l.drop k).take 1=[c]):l[k]?=some c:=by
 have:=congrArg (·[0]?) h;simpa using this
section
variable {aqs:Type} {enc:TypeId×Value->aqs} {w:World} {spare:Nat->Bool} {held:Bool}
end
theorem aku:prog.globalNamed "internal/strconv.uint64pow10" =some 0:=by kernel_rfl
theorem Xv:(prog.globals[0]?).map (·.type)=some 263:=by kernel_rfl
theorem Xw:prog.cellsOf 263=20:=by kernel_rfl
theorem Xx:prog.cellsOf 213=1:=by kernel_rfl
end
section
theorem own:ownKnob prog.godebug=none:=by kernel_rfl
theorem laidOut:laidOutB prog=true:=by kernel_rfl
end
section
section
variable {aqs:Type} {enc:TypeId×Value->aqs} {w:World} {spare:Nat->Bool} {held:Bool}
end
theorem agw {W:World}(h:W.ShapedOpen prog):ML W:=by
 obtain⟨m,hm⟩:=cell_of_shapedOpen_int (g:=1) (zero:=#[.int .i64 0]) (t:=3) h (of_decide_eq_true (by kernel_rfl)) (by kernel_rfl) rfl (by kernel_rfl) (by kernel_rfl) underlying3;exact⟨World.block_lt_of_cell? W _ hm,m,hm⟩
end
section
section
variable {aqs:Type} {enc:TypeId×Value->aqs} {w:World} {base:Nat} {spare:Nat->Bool} {held:Bool}
end
theorem abF {W:World}{a b:String×DataW Unit}{r:List (String×DataW Unit)}(h:laidMet prog (a::b::("internal/strconv.uint64pow10",Rows.laid_internal_strconv_uint64pow10)::r) W):iX W:=
 Lib.tabIs_of_head aku Xv underlying263 underlying213 Xx Xw (show laidMet prog (("internal/strconv.uint64pow10",Lib.tabData .u64 Lib.pow10Tab)::r) W from h.tail.tail)
end
section
theorem Pa {α:Type}{P:Nat->α->Prop}:∀n:Nat,(∀i,i<n->∃x,P i x)->∃l:List α,l.length=n/\∀i x,l[i]?=some x->P i x
 |0,_=>⟨[],rfl,λi x h=>by simp at h⟩
 |n+1,h=>by
  obtain⟨l,G,A⟩:=Pa n λi hi=>h i (by omega);obtain⟨y,hy⟩:=h n (by omega);refine⟨l++[y],by simp[G],λi x N=>?_⟩;by_cases hi:i<n
  ·rw[List.getElem?_append_left (by omega)]at N;exact A i x N
  rw[List.getElem?_append_right (by omega)]at N;have mw:i=n:=by
   have:=(List.getElem?_eq_some_iff.1 N).1;simp at this;omega
  subst mw;rw[G]at N;simp at N;subst N;exact hy
section
variable {aqs:Type} {enc:TypeId×Value->aqs} {w:World} {spare:Nat->Bool} {held:Bool}
end
end
theorem both {a b:Bool}(h:a=true)(k:b=true):(a&&b)=true:=by rw[h,k];rfl
end Go.Proofs.YtchdfdmjihnhkaaGreatDoor
