import Derived.Test.YthpndgcaoeokeaaGreatDoorCv8
import Derived.Test.YthpndgcaoeokeaaGreatDoorRows
import Derived.Test.YthpndgcaoeokeaaGreatDoorCards
import Derived.Test.YthpndgcaoeokeaaGreatDoorTie
import Derived.Deep.Slices
import Derived.Lib.SmallJoins
import Derived.Lib.LaidTab
import Derived.Stop.LaidErr
import Derived.MakeChecks
import Derived.ProofKit
import Derived.OpenShut
import Derived.LaidMore
import Derived.Lay
import Derived.SevenTiedAt
import Derived.Stop.Joined
import Derived.Carry
import Derived.Deep.DeepHandedRow
import Derived.Shelf.LaysM
import Derived.ChangeMaps5
import Derived.WalkArith
set_option maxRecDepth 100000
set_option maxHeartbeats 8000000
namespace Go.Proofs.YthpndgcaoeokeaaGreatDoor
open _root_.Go.Proofs.Tryz
open Go.ChangeAt Go.ChangeShapes Go.RowKit Go.WideShapes
section
theorem Za:prog.cellsOf 3=1:=by kernel_rfl
theorem Zb {w:World}{a:Addr}{v:Value}(h:w.cell? a=some v):a.spot=none:=by
 unfold World.cell? at h;split at h
 ·split at h
  ·cases h
  rename_i hn;cases hs:a.spot with
  |none=>rfl
  |some x=>rw[hs]at hn;simp at hn
 cases h
theorem Sx {α:Type}{l:List α}{k:Nat}{c:α}(h:(l.drop k).take 1=[c]):l[k]?=some c:=by
 have:=congrArg (·[0]?) h;simpa using this
section
variable {atA:Type} {enc:TypeId×Value->atA} {w:World} {spare:Nat->Bool} {held:Bool}
end
theorem am4:prog.globalNamed "internal/strconv.uint64pow10" =some 3:=by kernel_rfl
theorem Zc:(prog.globals[3]?).map (·.type)=some 354:=by kernel_rfl
theorem Zd:prog.cellsOf 354=20:=by kernel_rfl
theorem Ze:prog.cellsOf 309=1:=by kernel_rfl
end
section
theorem own:ownKnob prog.godebug=none:=by kernel_rfl
theorem laidOut:laidOutB prog=true:=by kernel_rfl
end
section
section
variable {atA:Type} {enc:TypeId×Value->atA} {w:World} {spare:Nat->Bool} {held:Bool}
end
theorem aiT {W:World}(h:W.ShapedOpen prog):ML W:=by
 obtain⟨m,hm⟩:=cell_of_shapedOpen_int (g:=0) (zero:=#[.int .i64 0]) (t:=3) h (of_decide_eq_true (by kernel_rfl)) (by kernel_rfl) rfl (by kernel_rfl) (by kernel_rfl) underlying3;exact⟨World.block_lt_of_cell? W _ hm,m,hm⟩
end
section
section
variable {atA:Type} {enc:TypeId×Value->atA} {w:World} {base:Nat} {spare:Nat->Bool} {held:Bool}
theorem A7 {r:Reach}{b0:Nat}{v:Value}{d:DataW atA}{p:List MemPlace}(ho:Value.okWide prog w r b0 3 v)(h:DataW.Trod enc prog w base spare held 3 v d p):∃n,v=.int .i64 n/\d=.lit (.int .i64 n)/\p=[]/\(-9223372036854775808<=n/\n<=9223372036854775807):=by
 obtain⟨fuel,hf⟩:=h;obtain⟨m,rfl⟩:=okWide_int underlying3 ho;obtain⟨n,e1,e2,e3⟩:=DataW.trod_int underlying3 hf;have e5:[Value.int .i64 m]=[.int .i64 n]:=e1;injection e5 with e5
 injection e5 with _ e5
 subst e5;injection e2 with e2 e4
 exact⟨_,rfl,e2,e4,bounds_i64 e3⟩
theorem A8 (n:Int)(h:-9223372036854775808<=n/\n<=9223372036854775807):DataW.Trod enc prog w base spare held 3 (.int .i64 n) (.lit (.int .i64 n)) []:=shut_int underlying3 (WalkArith.wf_i64 h)
end
theorem adw {W:World}{a b:String×DataW Unit}{r:List (String×DataW Unit)}(h:laidMet prog (a::b::("internal/strconv.uint64pow10",Rows.laid_internal_strconv_uint64pow10)::r) W):jg W:=
 Lib.tabIs_of_head am4 Zc underlying354 underlying309 Ze Zd (show laidMet prog (("internal/strconv.uint64pow10",Lib.tabData .u64 Lib.pow10Tab)::r) W from h.tail.tail)
end
theorem both {a b:Bool}(h:a=true)(k:b=true):(a&&b)=true:=by rw[h,k];rfl
end Go.Proofs.YthpndgcaoeokeaaGreatDoor
