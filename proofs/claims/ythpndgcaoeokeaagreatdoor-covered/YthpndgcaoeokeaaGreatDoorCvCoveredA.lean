import Derived.Test.YthpndgcaoeokeaaGreatDoorCv14
import Derived.Test.YthpndgcaoeokeaaGreatDoorCv15
set_option maxRecDepth 100000
set_option maxHeartbeats 8000000
open Go.IntKind renaming i64->Z
open List renaming getElem?_eq_getElem->δ,append_nil->ε
namespace Go.Proofs.YthpndgcaoeokeaaGreatDoor
open _root_.Go.Proofs.Tryz
open Go.ChangeShapes Go.WideShapes Go.ChangeAt Go.RowKit
theorem Tu:prog.cellsOf 86=3:=by kernel_rfl
theorem Rw {α:Type}{P:Nat->α->Prop}:∀n:Nat,(∀i,i<n->∃x,P i x)->∃l:List α,l.length=n/\∀i x,l[i]?=some x->P i x
 |0,_=>⟨[],rfl,λi x h=>by simp at h⟩
 |n+1,h=>by
  obtain⟨l,G,A⟩:=Rw n λi S=>h i (by omega);obtain⟨y,hy⟩:=h n (by omega);refine⟨l++[y],by simp[G],λi x X=>?_⟩;by_cases S:i<n
  ·rw[List.getElem?_append_left (by omega)]at X;exact A i x X
  rw[List.getElem?_append_right (by omega)]at X;have lP:i=n:=by
   have:=(List.getElem?_eq_some_iff.1 X).1;simp at this;omega
  subst lP;rw[G]at X;simp at X;subst X;exact hy
section
variable {atA:Type} {enc:TypeId×Value->atA} {w:World} {spare:Nat->Bool} {held:Bool}
theorem XP {n:Nat}{cs:List Value}{x:DataW atA×List MemPlace}(h:DataW.trod enc prog w 0 spare held n 86 cs=some x):
 ∃y:Int×Int×Int,cs[0]?=some (.int Z y.1)/\cs[1]?=some (.int Z y.2.1)/\cs[2]?=some (.int Z y.2.2)/\
  (-9223372036854775808<=y.1/\y.1<=9223372036854775807)/\(-9223372036854775808<=y.2.1/\y.2.1<=9223372036854775807)/\(-9223372036854775808<=y.2.2/\y.2.2<=9223372036854775807):=by
 obtain⟨xs,n',_,_,N,X,hf⟩:=DataW.trod_struct underlying86 h;have dZ:xs.length=3:=X;have f0:DataW.trod enc prog w 0 spare held n' 3 ((cs.drop 0).take (prog.cellsOf 3))=xs[0]?:=hf 0 _ rfl;have f1:DataW.trod enc prog w 0 spare held n' 3 ((cs.drop 1).take (prog.cellsOf 3))=xs[1]?:=hf 1 _ rfl;have f2:DataW.trod enc prog w 0 spare held n' 3 ((cs.drop 2).take (prog.cellsOf 3))=xs[2]?:=hf 2 _ rfl;rw[Za]at f0 f1 f2;rw[δ (by omega)]at f0 f1 f2;obtain⟨a,e0,_,w0⟩:=DataW.trod_int underlying3 f0;obtain⟨b,e1,_,w1⟩:=DataW.trod_int underlying3 f1;obtain⟨c,e2,_,w2⟩:=DataW.trod_int underlying3 f2;exact⟨(a,b,c),Sx e0,Sx e1,Sx e2,bounds_i64 w0,bounds_i64 w1,bounds_i64 w2⟩
theorem Tv {n:Nat}{v:Value}{x:DataW atA×List MemPlace}(h:DataW.trod enc prog w 0 spare held n 48 [v]=some x):∃sa cap l,v=.slice sa (l:List (Int×Int×Int)).length cap/\Mz w sa l:=by
 rcases Go.Deep.open_slice underlying48 h with⟨hv,_⟩|⟨a,len,cap,m,n,D,Pl,hv,_,hlc,zR,hm,_,X⟩
 ·exact⟨none,0,[],by simpa using hv,by simp,λi x h=>by simp at h⟩
 obtain rfl:v=.slice (some a) len cap:=by simpa using hv
 rcases Nat.eq_zero_or_pos len with rfl|J
 ·exact⟨some a,cap,[],rfl,by simp,λi x h=>by simp at h⟩
 have hle:len<=m:=by rw[hm];split<;>omega
 rw[Tu]at X;have cell:∀i,i<len->∃mR,mR.length=3/\(∀j,j<3->w.cell? ((a.add (i*3)).add j)=mR[j]?)/\DataW.trod enc prog w 0 spare held n 86 mR=some (D i,Pl i):=λi S=>by
  obtain⟨mR,G,A⟩:=X i (by omega);obtain⟨_,N,hc⟩:=World.cells?_some G;exact⟨mR,N,hc,A⟩
 obtain⟨c0,l0,g0,_⟩:=cell 0 J;have q0:w.cell? a=some c0[0]:=by
  have:=g0 0 (by omega);rw[δ (by omega)]at this;simpa[Addr.add]using this
 have hs:=Zb q0;have U:=World.block_lt_of_cell? w a q0;obtain⟨b,off,sp⟩:=a;obtain rfl:sp=none:=hs;have at_:∀i j,(Addr.add (Addr.add ⟨b,off,none⟩ i) j)=⟨b,off+i+j,none⟩:=λi j=>by
  unfold Addr.add;by_cases S:i=0<;>by_cases hj:j=0<;>simp[S,hj]
 obtain⟨l,N,hP⟩:=Rw (P:=λi (x:Int×Int×Int)=>w.cell? ⟨b,off+i*3,none⟩=some (.int Z x.1)/\w.cell? ⟨b,off+i*3+1,none⟩=some (.int Z x.2.1)/\w.cell? ⟨b,off+i*3+2,none⟩=some (.int Z x.2.2)/\
  (-9223372036854775808<=x.1/\x.1<=9223372036854775807)/\(-9223372036854775808<=x.2.1/\x.2.1<=9223372036854775807)/\(-9223372036854775808<=x.2.2/\x.2.2<=9223372036854775807)) len λi S=>by
  obtain⟨cs,N,hc,ht⟩:=cell i S;obtain⟨y,e0,e1,e2,e3⟩:=XP ht;have c:∀j,j<3->w.cell? ⟨b,off+i*3+j,none⟩=cs[j]?:=λj hj=>by rw[<-at_];exact hc j hj
  exact⟨y,(c 0 (by omega)).trans e0,(c 1 (by omega)).trans e1,(c 2 (by omega)).trans e2,e3⟩
 have hlm:len<=maxLen:=by omega
 exact⟨some ⟨b,off,none⟩,cap,l,by rw[N],by rw[N];unfold maxLen at hlm;omega,λi x X=>⟨b,off,rfl,U,hP i x X⟩⟩
end
theorem KL (os:Os){atA:Type}(enc:TypeId×Value->atA):∃places,DataW.whole enc prog ((World.laidAll prog os Rows.coveredRow.laid).forCall (λ_ _=>0) ⟨#[],#[.slice none 0 0,.int Z 0,.int Z 0,.int Z 0,.int Z 0,.int Z 0],[]⟩).memory Tryz.f14.params.toList Rows.coveredSpec.vars false #[.slice none 0 0,.int Z 0,.int Z 0,.int Z 0,.int Z 0,.int Z 0].toList 8=some ([.nil,.lit (.int Z 0),.lit (.int Z 0),.lit (.int Z 0),.lit (.int Z 0),.lit (.int Z 0)],[],places):=
 ⟨[],by kernel_rfl⟩
theorem Iy (os:Os)(started:os.Started)(atA:Type)(enc:TypeId×Value->atA)(F:Stop.Interp):
 ReturnsInHanded {} Tryz.checked os 14 .any ((OpenSpec.ofChange Rows.coveredSpec).preRow enc prog Tryz.f14 Rows.coveredRow.domain false Rows.coveredRow.laid) (((OpenSpec.ofChange Rows.coveredSpec).at F).post enc prog Tryz.f14 false true false false):=by
 obtain⟨places,X⟩:=KL os enc;refine returnsInHanded_of_row (C:=Tryz.checked) (s:=OpenSpec.ofChange Rows.coveredSpec) own started (by kernel_rfl) func14
  (witness_row_at (enc:=enc) (C:=Tryz.checked) false (World.laidAll prog os Rows.coveredRow.laid) #[.slice none 0 0,.int Z 0,.int Z 0,.int Z 0,.int Z 0,.int Z 0] (World.laidAll_os _ _ _) (by kernel_rfl) (by kernel_rfl) (by kernel_rfl)
   (OpenSpec.preRow_of_cond 8 X (by kernel_rfl) (λk I=>by cases I) (by kernel_rfl) (laidMet_laidAll _ (by kernel_rfl) (by kernel_rfl)))) ?_
 intro W base args ds gs before acz hW _ _ _ hL hS _;have nS:∀(j:Nat) t v,Tryz.f14.params[j]?=some t->args[j]?=some v->Value.okWide prog W .any base t v:=acz;have QU:=hW;obtain⟨p,q,xR,hV,rfl,_,_⟩:=hW;have hA:DataW.TrodAll enc prog W 0 (λ_=>true) true Tryz.f14.params.toList args.toList ds p:=xR;rw[params14]at hA nS;obtain⟨v1,vs1,d1,ds1,p1,q1,ajf,rfl,rfl,k1,F9⟩:=trodAll_cons hA;obtain⟨v2,vs2,d2,ds2,p2,q2,rfl,rfl,rfl,k2,JO⟩:=trodAll_cons F9;obtain⟨v3,vs3,d3,ds3,p3,q3,rfl,rfl,rfl,k3,JP⟩:=trodAll_cons JO;obtain⟨v4,vs4,d4,ds4,p4,q4,rfl,rfl,rfl,k4,hA4⟩:=trodAll_cons JP;obtain⟨v5,vs5,d5,ds5,p5,q5,rfl,rfl,rfl,k5,hA5⟩:=trodAll_cons hA4;obtain⟨v6,vs6,d6,ds6,p6,q6,rfl,rfl,rfl,k6,hA6⟩:=trodAll_cons hA5;obtain⟨rfl,rfl,rfl⟩:=trodAll_nil hA6;obtain⟨rfl,rfl⟩:=trodVars_none hV;obtain rfl:args=#[v1,v2,v3,v4,v5,v6]:=by cases args;simp_all
 obtain⟨x2,rfl,rfl,rfl,r2⟩:=A7 (nS 1 3 v2 rfl rfl) k2;obtain⟨x3,rfl,rfl,rfl,r3⟩:=A7 (nS 2 3 v3 rfl rfl) k3;obtain⟨x4,rfl,rfl,rfl,r4⟩:=A7 (nS 3 3 v4 rfl rfl) k4;obtain⟨x5,rfl,rfl,rfl,r5⟩:=A7 (nS 4 3 v5 rfl rfl) k5;obtain⟨x6,rfl,rfl,rfl,r6⟩:=A7 (nS 5 3 v6 rfl rfl) k6;obtain⟨sv,sn,sk,rfl⟩:=okWide_slice underlying48 (nS 0 48 v1 rfl rfl);clear xR hV ajf hA F9 nS acz;simp only[ε]at QU;have aQ:∀x∈p1,x.block<W.heap.size:=λx X=>QU.lt x X;have hT:jg W:=by
  rw[MakeChecks.laidMetH_plain _ _ _ (by kernel_rfl)]at hL;exact adw hL
 have hM:ML W:=aiT hS;have fin:Calls prog 14 #[.slice sv sn sk,.int Z x2,.int Z x3,.int Z x4,.int Z x5,.int Z x6] W λe Y=>e=.returned (.bool true)/\Below W.heap.size W Y:=by
  obtain⟨fuel,hf⟩:=k1;obtain⟨sa,cap,l,e,N⟩:=Tv (v:=.slice sv sn sk) hf;rw[e];exact Vs sa cap l x2 x3 x4 x5 x6 W N hM hT r2 r3 r4 r5 r6
 refine fin.mono λe W' ⟨he,U⟩=>?_;subst he;have ajg:DataW.Trod enc prog W' 0 (λb=>decide (b<W.heap.size)) true 48 (.slice sv sn sk) d1 p1:=
  Below.trod laidOut (by kernel_rfl) (of_decide_eq_true (by kernel_rfl)) k1 U aQ
 have bx:=trodAll_cons_mk ajg (trodAll_cons_mk (A8 x2 r2) (trodAll_cons_mk (A8 x3 r3) (trodAll_cons_mk (A8 x4 r4) (trodAll_cons_mk (A8 x5 r5) (trodAll_cons_mk (A8 x6 r6) (trodAll_mk0))))));simp only[ε]at bx;exact⟨_,rfl,[d1,.lit (.int Z x2),.lit (.int Z x3),.lit (.int Z x4),.lit (.int Z x5),.lit (.int Z x6)],[],p1,[],p1,[],QU,trodAll_mk1 (shut_bool underlying4 _),bx,rfl,U.frame _,λh=>by cases h⟩
end Go.Proofs.YthpndgcaoeokeaaGreatDoor
