import Derived.Test.YthpndgcaoeokeaaGreatDoorCo37
set_option maxRecDepth 100000
set_option maxHeartbeats 8000000
open Go.Value.slice renaming injEq→δ
namespace Go.Proofs.YthpndgcaoeokeaaGreatDoor
open _root_.Go.Proofs.Tryz
open Go.ChangeShapes Go.WideShapes Go.ChangeAt Go.RowKit
theorem Nk {H:Type}:∀(l:List (DataW H)),l.length≤Rows.uptoBulkAll l
 |[]=>Nat.zero_le _
 |x::r=>by
  have h1:=WL x;have h2:=Nk r;simp only[Rows.uptoBulkAll,List.length_cons];omega
theorem Xv {H:Type}{enc:TypeId×Value→H}{w:World}{spare:Nat→Bool}{held:Bool}{n:Nat}{sv:Option Addr}{sn sk:Nat}{x:DataW H×List MemPlace}(h:DataW.trod enc prog w 0 spare held n 22 [.slice sv sn sk]=some x)(hb:Rows.uptoBulk x.1≤1048576):sn≤1048576:=by
 rcases Go.Deep.open_slice underlying22 h with⟨hv,_⟩|⟨a,len,cap,m,n,D,Pl,hv,_,MB,I8,hm,Uw,hx⟩
 ·simp only[List.cons.injEq,δ,and_true]at hv;omega
 ·simp only[List.cons.injEq,δ,and_true]at hv;have h1:=Nk ((List.range len).map D);rw[Uw]at hb;simp only[Rows.uptoBulk]at hb;simp only[List.length_map,List.length_range]at h1;omega
theorem Xw {W:World}(hL:laidMetH prog Rows.comesUptoRow.laid W)(hS:W.ShapedOpen prog):fu W:=by
 rw[MakeChecks.laidMetH_plain _ _ _ (by kernel_rfl)]at hL;obtain⟨n1,n2⟩:=WK hL;have h1:cE W 1 0 bJ:=fun j hj=>by rw[Nat.zero_add];exact n1 j hj
 have h2:cE W 2 0 aC:=fun j hj=>by rw[Nat.zero_add];exact n2 j hj
 exact⟨aeq hL,ae8 hS,h1,World.block_lt_of_cell? W _ (n1 0 (by decide)),h2,World.block_lt_of_cell? W _ (n2 0 (by decide))⟩
theorem N3 (os:Os){H:Type}(enc:TypeId×Value→H):∃places,DataW.whole enc prog ((World.laidAll prog os Rows.comesUptoRow.laid).forCall (fun _ _=>0) ⟨#[],#[.slice none 0 0],[]⟩).memory Tryz.f6.params.toList Rows.comesSpec.vars false #[Value.slice none 0 0].toList 8=some ([.nil],[],places):=
 ⟨[],by kernel_rfl⟩
theorem Nl (os:Os)(started:os.Started)(H:Type)(enc:TypeId×Value→H)(F:Stop.Interp):
 ReturnsInHanded {} Tryz.checked os 6 .any ((Rows.OpenSpec.upto Rows.comesSpec).preRow enc prog Tryz.f6 Rows.comesUptoRow.domain false Rows.comesUptoRow.laid) (((Rows.OpenSpec.upto Rows.comesSpec).at F).post enc prog Tryz.f6 false true false false):=by
 obtain⟨places,hx⟩:=N3 os enc;refine returnsInHanded_of_row (C:=Tryz.checked) (s:=Rows.OpenSpec.upto Rows.comesSpec) own started (by kernel_rfl) func6
  (witness_row_at (enc:=enc) (C:=Tryz.checked) false (World.laidAll prog os Rows.comesUptoRow.laid) #[.slice none 0 0] (World.laidAll_os _ _ _) (by kernel_rfl) (by kernel_rfl) (by kernel_rfl)
   (OpenSpec.preRow_of_cond 8 hx (by kernel_rfl) (fun k hk=>by cases hk;kernel_rfl) (by kernel_rfl) (laidMet_laidAll _ (by kernel_rfl) (by kernel_rfl)))) ?_
 intro W base args ds gs before ZF hW _ ZG _ hL hS _;have uA:∀(j:Nat) t v,Tryz.f6.params[j]?=some t→args[j]?=some v→Value.okWide prog W .any base t v:=ZF;have Pf:=hW;obtain⟨p,q,xy,hV,rfl,_,_⟩:=hW;have hA:DataW.TrodAll enc prog W 0 (fun _=>true) true Tryz.f6.params.toList args.toList ds p:=xy;rw[params6]at hA uA;obtain⟨v0,d0,rfl,rfl,h0⟩:=trodAll_one hA;obtain⟨rfl,rfl⟩:=trodVars_none hV;obtain⟨sv,sn,sk,rfl⟩:=okWide_slice underlying22 (uA 0 22 v0 rfl rfl);have hk:=ZG _ rfl;clear xy hV ZF uA ZG;simp only[List.append_nil]at Pf;have ay:∀x∈p,x.block<W.heap.size:=fun x hx=>Pf.lt x hx;have hR:fu W:=Xw hL hS;have AN:Rows.uptoBulk d0≤1048576:=by
  have h1:Rows.uptoBulkAll ([d0]++([]:List (DataW H)))≤1048576:=of_decide_eq_true hk;simp only[List.append_nil,Rows.uptoBulkAll]at h1;omega
 have fin:Calls prog 6 #[.slice sv sn sk] W fun e w'=>e= .returned (.bool true)∧Below W.heap.size W w':=by
  refine WD _ W ?_;obtain⟨fuel,hf⟩:=h0;have hn:=Xv hf AN;rcases Q9 (v:= .slice sv sn sk) hf AN with⟨sa,cap,e⟩|⟨b,off,len,cap,e,hb,hlen,cM⟩<;>rw[e]
  ·exact Ur sa cap W hR
  ·exact Us b off len cap W hR hb (by simp only[δ]at e;omega) cM
 refine fin.mono fun e W' ⟨he,hb⟩=>?_;subst he;have afa:DataW.Trod enc prog W' 0 (fun b=>decide (b<W.heap.size)) true 22 (.slice sv sn sk) d0 p:=
  Below.trod laidOut (by kernel_rfl) (of_decide_eq_true (by kernel_rfl)) h0 hb ay
 exact⟨_,rfl,[d0],[],p,[],p,[],Pf,trodAll_mk1 (shut_bool underlying4 _),trodAll_mk1 afa,rfl,hb.frame _,fun h=>by cases h⟩
end Go.Proofs.YthpndgcaoeokeaaGreatDoor
