import Derived.Test.YtchdfdmjihnhkaaGreatDoorUq14
import Derived.Test.YtchdfdmjihnhkaaGreatDoorUq15
set_option maxRecDepth 100000
set_option maxHeartbeats 8000000
open List renaming getElem?_eq_getElem->δ,append_nil->ε
namespace Go.Proofs.YtchdfdmjihnhkaaGreatDoor
open _root_.Go.Proofs.Tryz
open Go.ChangeShapes Go.WideShapes Go.ChangeAt Go.RowKit
theorem V9:prog.cellsOf 29=4:=by kernel_rfl
section
variable {aqs:Type} {enc:TypeId×Value->aqs} {w:World} {spare:Nat->Bool} {held:Bool}
theorem YZ {n:Nat}{cs:List Value}{x:DataW aqs×List MemPlace}(h:DataW.trod enc prog w 0 spare held n 29 cs=some x):
 ∃y:Int×Int×Int×List UInt8,cs[0]?=some (.int .i64 y.1)/\cs[1]?=some (.int .i64 y.2.1)/\cs[2]?=some (.int .i64 y.2.2.1)/\cs[3]?=some (.string ⟨y.2.2.2.toArray⟩)/\
  (-9223372036854775808<=y.1/\y.1<=9223372036854775807)/\(-9223372036854775808<=y.2.1/\y.2.1<=9223372036854775807)/\(-9223372036854775808<=y.2.2.1/\y.2.2.1<=9223372036854775807):=by
 obtain⟨xs,n',_,_,K,N,hf⟩:=DataW.trod_struct underlying29 h;have bH:xs.length=4:=N;have f0:DataW.trod enc prog w 0 spare held n' 3 ((cs.drop 0).take (prog.cellsOf 3))=xs[0]?:=hf 0 _ rfl;have f1:DataW.trod enc prog w 0 spare held n' 3 ((cs.drop 1).take (prog.cellsOf 3))=xs[1]?:=hf 1 _ rfl;have f2:DataW.trod enc prog w 0 spare held n' 3 ((cs.drop 2).take (prog.cellsOf 3))=xs[2]?:=hf 2 _ rfl;have f3:DataW.trod enc prog w 0 spare held n' 9 ((cs.drop 3).take (prog.cellsOf 9))=xs[3]?:=hf 3 _ rfl;rw[LV]at f0 f1 f2;rw[NJ]at f3;rw[δ (by omega)]at f0 f1 f2 f3;obtain⟨a,e0,_,w0⟩:=DataW.trod_int underlying3 f0;obtain⟨b,S,_,w1⟩:=DataW.trod_int underlying3 f1;obtain⟨c,e2,_,w2⟩:=DataW.trod_int underlying3 f2;obtain⟨aqA,e3,_,_⟩:=DataW.trod_string underlying9 f3;exact⟨(a,b,c,aqA.data.toList),J8 e0,J8 S,J8 e2,J8 e3,bounds_i64 w0,bounds_i64 w1,bounds_i64 w2⟩
theorem Ci {α:Type}{T e:TypeId}{k:Nat}(hT:prog.underlying T=some (.slice e))(Y:prog.cellsOf e=k)(k0:0<k){P:List Value->α->Prop}(hP:∀n cs x,DataW.trod enc prog w 0 spare held n e cs=some x->∃y,P cs y)
 {n:Nat}{v:Value}{x:DataW aqs×List MemPlace}(h:DataW.trod enc prog w 0 spare held n T [v]=some x):∃sa cap l,v=.slice sa (l:List α).length cap/\l.length<=9223372036854775807/\∀i x,l[i]?=some x->∃b off cs,sa=some ⟨b,off,none⟩/\b<w.heap.size/\(∀j,j<k->w.cell? ⟨b,off+i*k+j,none⟩=cs[j]?)/\P cs x:=by
 rcases Go.Deep.open_slice hT h with⟨hv,_⟩|⟨a,len,cap,m,n,D,Pl,hv,_,hlc,zv,hm,_,N⟩
 ·exact⟨none,0,[],by simpa using hv,by simp,λi x h=>by simp at h⟩
 obtain rfl:v=.slice (some a) len cap:=by simpa using hv
 rcases Nat.eq_zero_or_pos len with rfl|J
 ·exact⟨some a,cap,[],rfl,by simp,λi x h=>by simp at h⟩
 have hle:len<=m:=by rw[hm];split<;>omega
 rw[Y]at N;have cell:∀i,i<len->∃lB,lB.length=k/\(∀j,j<k->w.cell? ((a.add (i*k)).add j)=lB[j]?)/\DataW.trod enc prog w 0 spare held n e lB=some (D i,Pl i):=λi hi=>by
  obtain⟨lB,G,A⟩:=N i (by omega);obtain⟨_,K,hc⟩:=World.cells?_some G;exact⟨lB,K,hc,A⟩
 obtain⟨c0,l0,g0,_⟩:=cell 0 J;have q0:w.cell? a=some c0[0]:=by
  have:=g0 0 k0;rw[δ (by omega)]at this;simpa[Addr.add]using this
 have hs:=Xu q0;have U:=World.block_lt_of_cell? w a q0;obtain⟨b,off,sp⟩:=a;obtain rfl:sp=none:=hs;have at_:∀i j,(Addr.add (Addr.add ⟨b,off,none⟩ i) j)=⟨b,off+i+j,none⟩:=λi j=>by
  unfold Addr.add;by_cases hi:i=0<;>by_cases hj:j=0<;>simp[hi,hj]
 obtain⟨l,K,hP'⟩:=Pa (P:=λi (x:α)=>∃cs,(∀j,j<k->w.cell? ⟨b,off+i*k+j,none⟩=cs[j]?)/\P cs x) len λi hi=>by
  obtain⟨cs,K,hc,ht⟩:=cell i hi;obtain⟨y,hy⟩:=hP _ _ _ ht;exact⟨y,cs,λj hj=>by rw[<-at_];exact hc j hj,hy⟩
 have hlm:len<=maxLen:=by omega
 exact⟨some ⟨b,off,none⟩,cap,l,by rw[K],by rw[K];unfold maxLen at hlm;omega,λi x N=>by
  obtain⟨cs,G,A⟩:=hP' i x N;exact⟨b,off,cs,rfl,U,G,A⟩⟩
theorem Wa {n:Nat}{v:Value}{x:DataW aqs×List MemPlace}(h:DataW.trod enc prog w 0 spare held n 22 [v]=some x):∃sa cap l,v=.slice sa (l:List (Int×Int×Int×List UInt8)).length cap/\ad8 w sa l:=by
 obtain⟨sa,cap,l,e,K,h⟩:=Ci underlying22 V9 (by decide) (λn cs x h=>YZ h) h;refine⟨sa,cap,l,e,K,λi x N=>?_⟩;obtain⟨b,off,cs,S,U,hc,c0,c1,c2,c3,q0,q1,q2⟩:=h i x N;refine⟨b,off,S,U,λj v hj=>?_,q0,q1,q2⟩;have hj4:j<4:=(List.getElem?_eq_some_iff.1 hj).1;rw[hc j hj4,<-hj];have:j=0\/j=1\/j=2\/j=3:=by omega
 rcases this with rfl|rfl|rfl|rfl
 ·exact c0
 ·exact c1
 ·exact c2
 exact c3
theorem Sh {n:Nat}{v:Value}{x:DataW aqs×List MemPlace}(h:DataW.trod enc prog w 0 spare held n 23 [v]=some x):∃sa cap l,v=.slice sa (l:List Int).length cap/\TmV w sa l:=by
 obtain⟨sa,cap,l,e,K,h⟩:=Ci (P:=λcs y=>cs=[.int .i64 y]) underlying23 LV (by decide) (λn cs x h=>by
  obtain⟨a,e0,_,_⟩:=DataW.trod_int underlying3 h;exact⟨a,e0⟩) h
 refine⟨sa,cap,l,e,K,λi x N=>?_⟩;obtain⟨b,off,cs,S,U,hc,rfl⟩:=h i x N;have:=hc 0 (by decide);rw[Nat.mul_one,Nat.add_zero]at this;exact⟨b,off,S,U,this⟩
end
theorem FV (os:Os){aqs:Type}(enc:TypeId×Value->aqs):∃places,DataW.whole enc prog ((World.laidAll prog os Rows.unnoticedRow.laid).forCall (λ_ _=>0) ⟨#[],#[.slice none 0 0,.slice none 0 0],[]⟩).memory Tryz.f3.params.toList Rows.unnoticedSpec.vars false #[.slice none 0 0,.slice none 0 0].toList 8=some ([.nil,.nil],[],places):=
 ⟨[],by kernel_rfl⟩
theorem DL (os:Os)(started:os.Started)(aqs:Type)(enc:TypeId×Value->aqs)(F:Stop.Interp):
 ReturnsInHanded {} Tryz.checked os 3 .any ((OpenSpec.ofChange Rows.unnoticedSpec).preRow enc prog Tryz.f3 Rows.unnoticedRow.domain false Rows.unnoticedRow.laid) (((OpenSpec.ofChange Rows.unnoticedSpec).at F).post enc prog Tryz.f3 false true false false):=by
 obtain⟨places,N⟩:=FV os enc;refine returnsInHanded_of_row (C:=Tryz.checked) (s:=OpenSpec.ofChange Rows.unnoticedSpec) own started (by kernel_rfl) func3
  (witness_row_at (enc:=enc) (C:=Tryz.checked) false (World.laidAll prog os Rows.unnoticedRow.laid) #[.slice none 0 0,.slice none 0 0] (World.laidAll_os _ _ _) (by kernel_rfl) (by kernel_rfl) (by kernel_rfl)
   (OpenSpec.preRow_of_cond 8 N (by kernel_rfl) (λk Y=>by cases Y) (by kernel_rfl) (laidMet_laidAll _ (by kernel_rfl) (by kernel_rfl)))) ?_
 intro W base args ds gs before aaL hW _ _ _ hL hS _;have sF:∀(j:Nat) t v,Tryz.f3.params[j]?=some t->args[j]?=some v->Value.okWide prog W .any base t v:=aaL;have BV:=hW;obtain⟨p,q,xn,hV,rfl,_,_⟩:=hW;have hA:DataW.TrodAll enc prog W 0 (λ_=>true) true Tryz.f3.params.toList args.toList ds p:=xn;rw[params3]at hA sF;obtain⟨v1,vs1,d1,ds1,p1,q1,agR,rfl,rfl,k1,pX⟩:=trodAll_cons hA;obtain⟨v2,vs2,d2,ds2,p2,q2,rfl,rfl,rfl,k2,mH⟩:=trodAll_cons pX;obtain⟨rfl,rfl,rfl⟩:=trodAll_nil mH;obtain⟨rfl,rfl⟩:=trodVars_none hV;obtain rfl:args=#[v1,v2]:=by cases args;simp_all
 obtain⟨sv,sn,sk,rfl⟩:=okWide_slice underlying22 (sF 0 22 v1 rfl rfl);obtain⟨tv,tn,tk,rfl⟩:=okWide_slice underlying23 (sF 1 23 v2 rfl rfl);clear xn hV agR hA pX sF aaL;simp only[ε]at BV;have aR:∀x∈p1,x.block<W.heap.size:=λx N=>BV.lt x (List.mem_append.2 (.inl N));have Yj:∀x∈p2,x.block<W.heap.size:=λx N=>BV.lt x (List.mem_append.2 (.inr N));have hT:iX W:=by
  rw[MakeChecks.laidMetH_plain _ _ _ (by kernel_rfl)]at hL;exact abF hL
 have hM:ML W:=agw hS;have fin:Calls prog 3 #[.slice sv sn sk,.slice tv tn tk] W λe I=>e=.returned (.bool true)/\Below W.heap.size W I:=by
  obtain⟨fuel,hf⟩:=k1;obtain⟨an9,hf2⟩:=k2;obtain⟨sa,cap,l,e,K⟩:=Wa (v:=.slice sv sn sk) hf;obtain⟨ta,ak4,l2,e2,rI⟩:=Sh (v:=.slice tv tn tk) hf2;rw[e,e2];exact NH sa cap l ta ak4 l2 W K rI hM hT
 refine fin.mono λe W' ⟨he,U⟩=>?_;subst he;have agS:DataW.Trod enc prog W' 0 (λb=>decide (b<W.heap.size)) true 22 (.slice sv sn sk) d1 p1:=
  Below.trod laidOut (by kernel_rfl) (of_decide_eq_true (by kernel_rfl)) k1 U aR
 have agf:DataW.Trod enc prog W' 0 (λb=>decide (b<W.heap.size)) true 23 (.slice tv tn tk) d2 p2:=
  Below.trod laidOut (by kernel_rfl) (of_decide_eq_true (by kernel_rfl)) k2 U Yj
 have bD:=trodAll_cons_mk agS (trodAll_cons_mk agf (trodAll_mk0));simp only[ε]at bD;exact⟨_,rfl,[d1,d2],[],p1++p2,[],p1++p2,[],BV,trodAll_mk1 (shut_bool underlying4 _),bD,rfl,U.frame _,λh=>by cases h⟩
end Go.Proofs.YtchdfdmjihnhkaaGreatDoor
