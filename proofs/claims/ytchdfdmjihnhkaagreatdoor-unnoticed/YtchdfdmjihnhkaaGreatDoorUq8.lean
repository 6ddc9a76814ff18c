import Derived.Test.YtchdfdmjihnhkaaGreatDoorUq7
import GoSem.Core.Next
import Derived.Laws.AppendOwn
import Derived.Sort.Walk0
set_option maxRecDepth 100000
set_option maxHeartbeats 8000000
open Go.IntKind renaming i64->Z
open Go.Value renaming int->V,pointer->ζ,slice->η,string->θ
open Go.Ending renaming returned->δ,panicked->ε
open Go.Obj renaming cells->ι
open List.Perm renaming cons->κ,refl->φ,append_left->ψ,append_right->Β,swap->Ε
open List renaming mem_cons_of_mem->μ,filter_append->ν,append_assoc->ο,cons_append->π,nil_append->υ,takeWhile_cons->Α,filter_cons_of_pos->Γ,mem_cons->Δ,mem_filter->Η,append_nil->Θ,filter_cons_of_neg->Κ,filter_eq_nil_iff->Λ,filter_cons->Τ,mem_append->Φ,length_append->Ω,size_toArray->ϊ,perm_middle->ό,contains_iff_mem->Ϗ,mem_of_mem_take->ϗ,pairwise_cons->ϙ,pairwise_map->ϛ,filter_congr->Ϝ,not_mem_nil->ϝ,length_cons->Ϟ,map_append->ϟ,mem_map->Ϡ
open ByteArray renaming size_append->ξ
open List.Pairwise renaming filter->ρ
open Go renaming World->τ,Calls->ω,Addr->ϡ
open Nat renaming le_refl->χ,zero_add->ϋ,le_trans->ώ,lt_of_lt_of_le->Ϛ
open Int renaming le_refl->Ζ,mul_nonneg->Μ,add_assoc->Ν,emod_nonneg->ύ
open Go.RowKit.Below renaming refl->Ι,heap_setCell->Χ
open Bool renaming false_eq_true->Ξ,and_eq_true->Υ
open UInt8 renaming ofNat->Ο
open Go.World renaming putObj_heap_other->Ρ,ownsRow_nil->Ϙ
open Go.Region renaming binds->Ψ
namespace Go.Proofs.YtchdfdmjihnhkaaGreatDoor
open Tryz
open Go.RowKit Go.Sort
section
attribute [local go_sem] Oper.semAt_some
attribute [local go_sem] bK aU
attribute [local simp] bK aU
theorem Ab (n:Int)(w:τ)(ht:iX w):
 ω prog 43 #[V Z n] w λe I=>e=δ (.bool (cU n))/\Below w.heap.size w I:=by
 have hP:=H (ry n w ht);unfold kr at hP;clear ht;cases hB:cU n
 ·rw[hB]at hP;simp only[Ξ,if_false]at hP;go_enter func43,ntmps43;go_wp2_with (go_at_call 10;refine(hP.out).mono ?_;rintro e w1 ⟨rfl,U⟩);go_ret;exact⟨rfl,U⟩
 rw[hB]at hP;simp only[if_true]at hP;go_enter func43,ntmps43;go_wp2_with (go_at_call 10;refine(hP.out).mono ?_;rintro e w1 ⟨rfl,U⟩);go_ret;exact⟨rfl,U⟩
def uB (f t:Int):Bool:=cU f&&cU t&&decide (f<t)
theorem Ai (f t:Int)(w:τ)(ht:iX w):
 ω prog 55 #[V Z f,V Z t] w λe I=>e=(if uB f t then δ (.tuple #[])else ε (bx 7))/\Below w.heap.size w I:=by
 have G:=H (Ab f w ht);have A:Hid (∀W,Below w.heap.size w W->ω prog 43 #[V Z t] W λe I=>e=δ (.bool (cU t))/\Below W.heap.size W I):=H λW U=>Ab t W (ht.on U);have hu1:=H (eS 7);have hu0:=H (gg 7);have hW:uB f t=(cU f&&cU t&&decide (f<t)):=rfl;generalize uB f t=B at *
 generalize cU f=B1 at *
 generalize cU t=B2 at *
 clear ht;cases B1
 ·simp only[Bool.false_and]at hW;subst hW;go_enter func55,ntmps55;go_wp2_with fail;refine(G.out).mono ?_;rintro e w1 ⟨rfl,ay⟩;go_wp2_with fail;refine(hu0.out _).mono ?_;rintro e w2 ⟨rfl,rfl⟩;exact⟨rfl,rfl,ay⟩
 cases B2
 ·simp only[Bool.and_false,Bool.false_and]at hW;subst hW;go_enter func55,ntmps55;go_wp2_with fail;refine(G.out).mono ?_;rintro e w1 ⟨rfl,ay⟩;go_wp2_with fail;refine(A.out _ ay).mono ?_;rintro e w2 ⟨rfl,aN⟩;go_wp2_with fail;refine(hu0.out _).mono ?_;rintro e w3 ⟨rfl,rfl⟩;exact⟨rfl,rfl,ay.trans (aN.mono ay.size)⟩
 by_cases wR:f<t
 ·simp only[Bool.true_and,wR,decide_true]at hW;subst hW;go_enter func55,ntmps55;go_wp2_with fail;refine(G.out).mono ?_;rintro e w1 ⟨rfl,ay⟩;go_wp2_with fail;refine(A.out _ ay).mono ?_;rintro e w2 ⟨rfl,aN⟩;go_wp2_with fail;refine(hu1.out _).mono ?_;rintro e w3 ⟨rfl,rfl⟩;go_wp2_with fail;go_end0;exact⟨rfl,ay.trans (aN.mono ay.size)⟩
 simp only[Bool.true_and,wR,decide_false]at hW;subst hW;have aoM:t<=f:=by omega
 go_enter func55,ntmps55;go_wp2_with fail;refine(G.out).mono ?_;rintro e w1 ⟨rfl,ay⟩;go_wp2_with fail;refine(A.out _ ay).mono ?_;rintro e w2 ⟨rfl,aN⟩;go_wp2_with fail;rw[decide_eq_false (show¬f<t by omega)];refine(hu0.out _).mono ?_;rintro e w3 ⟨rfl,rfl⟩;exact⟨rfl,rfl,ay.trans (aN.mono ay.size)⟩
def oQ (d:oJ)(to:Int):List Int:=fb (jC d) (jD d) d.st 0 to d.ex d.xt
def oo (d:oJ)(from_:Int)(l:List Int):List (Int×Int):=(l.map λb=>(b,b+d.ln)).filter λp=>decide (from_<p.2)
def vV (s:List UInt8)(from_ to:Int):Except Int (List (Int×Int)):=match iA s with
 | .error x=>.error x
 | .ok d=>if uB from_ to then(if(oQ d to).length<=3000 then .ok (oo d from_ (oQ d to))else .error 5)else .error 7
def mf (l:List (Int×Int)):List Value:=(l.map λp=>[Value.int Z p.1,V Z p.2]).flatten
theorem M4:∀(ts ls:List Int) (x:Int),x∈ji ts ls->x∈ts\/x∈ls
 |[],ls,x,h=>.inr (by rw[ji]at h;exact h)
 |t::ts,ls,x,h=>by
  rw[ji]at h;rcases List.mem_append.1 h with h|h
  ·exact .inr ((List.takeWhile_sublist _).subset h)
  rcases List.mem_cons.1 h with rfl|h
  ·exact .inl (by simp)
  rcases M4 ts _ x h with h|h
  ·exact .inl (μ _ h)
  right;have hd:∀l:List Int,∀y∈gD t l,y∈l:=λl y hy=>by
   cases l with
   |nil=>simp[gD]at hy
   |cons a r=>
    rw[gD]at hy;split at hy
    ·exact μ _ hy
    exact hy
  exact(List.dropWhile_sublist _).subset (hd _ _ h)
theorem afK (hr:Bool)(r:aE)(ho:hr=true->ei r)(st f to:Int)(ex xt:List Int)(s0:0<=st)(s1:st<=7258118400)(f1:f<=7258118400)(t1:to<=7258118400)(N:∀t∈xt,0<=t/\t<=7258118400):∀t∈fb hr r st f to ex xt,-100000000000<=t/\t<=100000000000:=by
 intro t ht;unfold fb at ht;rcases M4 _ _ _ ht with h|h
 ·unfold sO vn at h;obtain⟨h,_⟩:=List.mem_filter.1 h;obtain⟨d,hd,rfl⟩:=List.mem_map.1 h;have:=Vy hr r ho st f to s0 s1 f1 t1 d hd;omega
 unfold iz at h;obtain⟨h,_⟩:=List.mem_filter.1 h;have:=N t h;omega
theorem aci {d:oJ}{E:Ending}{w:τ}(h:J5 d E w):∃(u:ByteArray) (m md wk pl:Value) (tx:ByteArray) (aI aH:Value),E=δ (.agg (cE u d.st d.ln (jC d) (jD d) m md wk pl tx aI aH (iL d.f) (kindOf d.f-1)).toArray)/\jX w (jC d) (jD d) m md wk pl aI aH d.ex d.xt/\0<=d.st/\d.st<=7258118400/\0<=d.ln/\d.ln<=10000000:=by
 obtain⟨⟨hs,K,hex,lT,l1,l2⟩,aI,aH,i1,i2,h⟩:=h;rcases h with⟨wO,rfl⟩|⟨F,r,m,md,wk,pl,wO,hP,j1,j2,j3,j4,rfl⟩
 ·have S:jC d=false:=by unfold jC;rw[wO];rfl
  have e2:jD d=EF:=by unfold jD;rw[wO]
  rw[S,e2];refine⟨_,η none 0 0,η none 0 0,η none 0 0,η none 0 0,⟨#[]⟩,aI,aH,rfl,⟨⟨.inl ⟨rfl,rfl⟩,.inl ⟨rfl,rfl⟩,.inl ⟨rfl,rfl⟩,.inl ⟨rfl,rfl⟩⟩,λh=>(by cases h),i1,i2,by omega,by omega,hex,lT⟩,by omega,by omega,by omega,by omega⟩
 have S:jC d=true:=by unfold jC;rw[wO];rfl
 have e2:jD d=r:=by unfold jD;rw[wO];exact Iz hP
 rw[S,e2];exact⟨_,m,md,wk,pl,gw F,aI,aH,rfl,⟨⟨j1,j2,j3,j4⟩,λ_=>Lw hP,i1,i2,by omega,by omega,hex,lT⟩,by omega,by omega,by omega,by omega⟩
end
section
attribute [local go_sem] Oper.semAt_some
attribute [local go_sem] bK aU
attribute [local simp] bK aU
theorem fR {o:Oper}(ho:o.op=.alloc 99)(a:Act)(w:τ):(execOp a.eval o).run prog w=.ok (.value (ζ (some ⟨w.heap.size,0,none⟩))) (w.alloc (ι eD.toArray 99)):=by
 obtain⟨_,_,_,_,_,_⟩:=o;simp only[]at ho;subst ho;kernel_rfl
theorem OW (u:ByteArray)(st ln:Int)(hr:Bool)(r:aE)(m md wk pl:Value)(tx:ByteArray)(aI aH:Value)(tr:Bool)(k:Int)(G:m.oneCell'=true)(A:md.oneCell'=true)(M:wk.oneCell'=true)(h4:pl.oneCell'=true)(h5:aI.oneCell'=true)(h6:aH.oneCell'=true):
 ∀v∈cE u st ln hr r m md wk pl tx aI aH tr k,v.oneCell'=true:=by
 intro v hv;unfold cE at hv;simp only[Δ,ϝ,or_false]at hv;rcases hv with rfl|rfl|rfl|rfl|rfl|rfl|rfl|rfl|rfl|rfl|rfl|rfl|rfl|rfl|rfl|rfl|rfl|rfl<;>first|rfl|assumption
theorem Yz:(prog.info? 43).map (λi=>(i.zero,i.size,i.bytes))=some (some (.agg #[V Z 0,V Z 0]),2,16):=by kernel_rfl
theorem VO (d:oJ)(from_:Int)(l:List Int)(b:Int):oo d from_ (l++[b])=oo d from_ l++if from_<b+d.ln then[(b,b+d.ln)]else[]:=by
 unfold oo;rw[ϟ,ν];by_cases h:from_<b+d.ln<;>simp[h]
theorem RZ (l:List (Int×Int))(p:Int×Int):mf (l++[p])=mf l++[V Z p.1,V Z p.2]:=by unfold mf;simp
theorem YA (d:oJ)(from_:Int)(l:List Int):(oo d from_ l).length<=l.length:=by
 unfold oo;exact ώ (List.length_filter_le _ _) (by simp)
def IJ (b8 b9 aqv:Nat)(d:oJ)(from_:Int)(T:List Int)(i:Nat):aQ:=λD W=>
 sJ b8 38 43 2 aqv (oo d from_ (T.take i)).length (mf (oo d from_ (T.take i))) D W/\D b9/\X W b9 [V Z i] 3/\i<=3000
theorem IJ.cQ {b8 b9 aqv:Nat}{d:oJ}{from_:Int}{T:List Int}{i:Nat}{D:ak}{W:τ}(G:On D (sJ b8 38 43 2 aqv (oo d from_ (T.take i)).length (mf (oo d from_ (T.take i)))) W)(A:D b9)(M:X W b9 [V Z i] 3)(h4:i<=3000):On D (IJ b8 b9 aqv d from_ T i) W:=
 ⟨G.1,λW2 Y=>⟨G.2 W2 Y,A,M.keep (Y _ A),h4⟩⟩
theorem IJ.post {b8 b9 aqv aqz:Nat}{d:oJ}{from_:Int}{T:List Int}{i:Nat}{D:ak}{W W':τ}(G:aO D aqz (sJ b8 38 43 2 aqv (oo d from_ (T.take i)).length (mf (oo d from_ (T.take i)))) W W')(A:D b9)(M:X W' b9 [V Z i] 3)(h4:i<=3000):aO D aqz (IJ b8 b9 aqv d from_ T i) W W':=by
 obtain⟨x,D',d1,d2,d3⟩:=G;exact⟨x,D',d1,d2,IJ.cQ d3 (d2 _ A) M h4⟩
def uQ (s:List UInt8)(from_ to:Int)(w:τ):Ending->τ->Prop:=λe I=>
 (match vV s from_ to with
  | .error x=>e=ε (bx x)
  | .ok l=>∃v,e=δ v/\I.ownsRow w.heap.size 43 2 v l.length (mf l))/\Below w.heap.size w I
theorem Cc (s:List UInt8)(from_ to:Int)(w:τ)(hm:ML w)(ht:iX w)(hs:s.length<=1048576):
 ω prog 33 #[θ ⟨s.toArray⟩,V Z from_,V Z to] w (uQ s from_ to w):=by
 have r4:=X.new w [V Z from_] 3;have bj:Below w.heap.size w (w.alloc (ι #[V Z from_] 3)):=(Ι _ _).alloc (χ _) _;have iY:(w.alloc (ι #[V Z from_] 3)).heap.size=w.heap.size+1:=by simp
 refine(callsIn_wide (n:=0)).1 ?_;refine di func33 rfl ?_;simp only[ntmps33,ϊ,Ϟ,List.length_nil,Nat.reduceAdd,Nat.reduceSub,Array.replicate_succ,Array.replicate_zero,List.push_toArray,List.append_toArray,υ,π];refine bO λaqy hK=>bQ ?_;gi_wp2_with fail;have eW:w.alloc (.cells [V Z from_].toArray 3)=w.alloc (ι #[V Z from_] 3):=rfl;rw[eW]at r4;clear eW;replace iY:=H iY;generalize w.alloc (ι #[V Z from_] 3)=W0 at *
 cases hr:iA s with
 |error x=>
  have hI:uQ s from_ to w=λe I=>e=ε (bx x)/\Below w.heap.size w I:=by
   unfold uQ vV;rw[hr]
  rw[hI];have C:Hid (ω prog 54 #[θ ⟨s.toArray⟩] W0 λE I=>E=ε (bx x)/\Below W0.heap.size W0 I):=H ((qx s W0 (hm.on bj) hs).mono λE I h=>by
   obtain⟨G,A⟩:=Jk h;refine⟨?_,A⟩;rcases G with⟨y,M,h4⟩|⟨d,M,_⟩
   ·rw[hr]at M;cases M;exact h4
   rw[hr]at M;cases M)
  clear hr hI hm ht;refine bO λaqy hK=>bQ ?_;gi_wp2_with fail;refine(callsIn_wide.2 C.out).mono ?_;rintro e w1 ⟨rfl,ay⟩;exact⟨rfl,bj.trans (ay.mono bj.size)⟩
 |ok d=>
  have C:Hid (ω prog 54 #[θ ⟨s.toArray⟩] W0 λE I=>(∃(u:ByteArray) (m md wk pl:Value) (tx:ByteArray) (aI aH:Value),E=δ (.agg (cE u d.st d.ln (jC d) (jD d) m md wk pl tx aI aH (iL d.f) (kindOf d.f-1)).toArray)/\jX I (jC d) (jD d) m md wk pl aI aH d.ex d.xt/\0<=d.st/\d.st<=7258118400/\0<=d.ln/\d.ln<=10000000)/\Below W0.heap.size W0 I):=H ((qx s W0 (hm.on bj) hs).mono λE I h=>by
   obtain⟨G,A⟩:=xS h;refine⟨?_,A⟩;rcases G with⟨y,M,h4⟩|⟨d',M,h4⟩
   ·rw[hr]at M;cases M
   rw[hr]at M;cases M;exact aci h4)
  have HT:=H ht;clear hm ht;refine bO λaqy hK=>bQ (wpIn_wide.2 ?_);go_wp2_with fail;refine(C.out).mono ?_;rintro e w1 ⟨⟨u,m,md,wk,pl,tx,aI,aH,rfl,K,s0,s1,l0,l1⟩,ay⟩;have lM:∀v∈cE u d.st d.ln (jC d) (jD d) m md wk pl tx aI aH (iL d.f) (kindOf d.f-1),v.oneCell'=true:=by
   obtain⟨a1,S⟩:=K.cT.ms.form;obtain⟨a2,e2⟩:=K.cT.mds.form;obtain⟨a3,e3⟩:=K.cT.wks.form;obtain⟨a4,e4⟩:=K.cT.pls.form;obtain⟨a5,c5,e5⟩:=K.hex.sl;obtain⟨a6,c6,e6⟩:=K.lT.sl;exact OW _ _ _ _ _ _ _ _ _ _ _ _ _ _ (by rw[S];rfl) (by rw[e2];rfl) (by rw[e3];rfl) (by rw[e4];rfl) (by rw[e5];rfl) (by rw[e6];rfl)
  have hlen:(cE u d.st d.ln (jC d) (jD d) m md wk pl tx aI aH (iL d.f) (kindOf d.f-1)).length=18:=rfl;replace K:=H K;replace r4:=r4.on ay;replace bj:=bj.trans (ay.mono bj.size);have wD:=ay.size;clear C ay;go_wp2_with (first
   |(refine jE rfl (fR rfl _ _) ?_;intro w2 Eg gX aN)
   |(refine jF rfl rfl rfl rfl Eg rfl fT lM ?_;intro w3 BS eo;have aP:=aN.trans (eo.below (by omega) (λk Y=>by omega));have Hv:=eo.size))
  replace r4:=r4.on aP;replace K:=H (K.out.on aP);have ly:∀k,kP m md wk pl aI aH k->k<w3.heap.size:=λk Y=>K.out.fO Y;have al:=bj.trans (aP.mono bj.size);have hw3:w.heap.size+2<=w3.heap.size:=by have:=iY.out;omega
  have Ip:w1.heap.size<w3.heap.size:=by omega
  have hw1:w.heap.size<w1.heap.size:=by have:=iY.out;omega
  generalize hE:cE u d.st d.ln (jC d) (jD d) m md wk pl tx aI aH (iL d.f) (kindOf d.f-1)=EV at *
  clear Eg gX aN eo Hv aP lM bj wD;generalize w1.heap.size=be at *
  have EN:=H (Ai from_ to w3 (HT.out.on al));refine bO λaqy hK=>bQ ?_;have c4:=r4.cell (k:=0) rfl;gi_wp2_with fail;refine(callsIn_wide.2 EN.out).mono ?_;rintro e w5 ⟨he,bB⟩;clear c4 EN HT;cases Dw:uB from_ to
  case false=>
   rw[Dw]at he;simp only[Ξ,if_false]at he;subst he;have hI:uQ s from_ to w=λe I=>e=ε (bx 7)/\Below w.heap.size w I:=by
    unfold uQ vV;rw[hr];simp only[Dw,Ξ,if_false]
   rw[hI];exact⟨rfl,al.trans (bB.mono al.size)⟩
  case true=>
   rw[Dw]at he;simp only[if_true]at he;subst he;have hto:0<=to/\to<7258118400:=by
    unfold uB cU at Dw;simp only[Υ,decide_eq_true_eq]at Dw;omega
   have hG1:Hid ((oQ d to).length<=3000->∀v I,I.ownsRow w.heap.size 43 2 v (oo d from_ (oQ d to)).length (mf (oo d from_ (oQ d to)))->Below w.heap.size w I->uQ s from_ to w (δ v) I):=H (by
    intro M v I h4 h5;unfold uQ vV;rw[hr];simp only[Dw,if_true,M];exact⟨⟨v,rfl,h4⟩,h5⟩)
   have hG2:Hid (¬(oQ d to).length<=3000->∀I,Below w.heap.size w I->uQ s from_ to w (ε (bx 5)) I):=H (by
    intro M I h5;unfold uQ vV;rw[hr];simp only[Dw,if_true,M,if_false];exact⟨trivial,h5⟩)
   replace r4:=r4.on bB;replace BS:=BS.on bB;replace K:=H (K.out.on bB);replace al:=al.trans (bB.mono al.size);have sL:=bB.size;clear bB;have ox:=H (afK (jC d) (jD d) K.out.ok d.st 0 to d.ex d.xt s0 s1 (by omega) (by omega) K.out.xtb);gi_wp2_with fail;refine bO λaqy hK=>bQ ?_;gi_wp2_with fail;refine bO λaqy hK=>bQ ?_;gi_wp2_with fail;have r8:=kC w5 [η none 0 0] 38 (ι #[V Z 0] 3);have r9:=kD w5 [V Z 0] 3 (ι #[η none 0 0] 38);have p7:=mu w5 (ι #[η none 0 0] 38) (ι #[V Z 0] 3);have pU:((w5.alloc (ι #[η none 0 0] 38)).alloc (ι #[V Z 0] 3)).heap.size=w5.heap.size+2:=by simp
   replace pU:=H pU;generalize(w5.alloc (ι #[η none 0 0] 38)).alloc (ι #[V Z 0] 3)=w6 at *
   replace r4:=r4.on p7;replace BS:=BS.on p7;have hl6:=K.out.on p7;replace al:=al.trans (p7.mono al.size);rw[<-hE]at BS;have KI:=H (sA u d.st d.ln (jC d) (jD d) m md wk pl tx aI aH d.ex d.xt (iL d.f) (kindOf d.f-1) 0 to w6 hl6 s0 s1 l0 l1 (by omega) (by omega) (by omega) (by omega) ox.out);rw[hE]at KI;clear K hl6 p7;refine bO λK1 fh=>?_;refine bO λaqy hK=>bQ ?_;gi_wp2_with (refine KJ rfl rfl rfl BS (λ_=>trivial) ?_);refine(callsIn_wide.2 KI.out).mono ?_;rintro e w7 ⟨g,lb,R,rfl,hit,mn,eg,p8⟩;replace r4:=r4.on p8;replace r8:=r8.on p8;replace r9:=r9.on p8;replace al:=al.trans (p8.mono al.size);have hz7:=p8.size;clear p8 KI BS hE;have hT9:Hid (oQ d to=fb (jC d) (jD d) d.st 0 to d.ex d.xt):=H rfl;rw[<-hT9.out]at hit ox;clear hT9;generalize oQ d to=T at *
   have hw6:=pU.out;gi_wp2_with fail;refine gj ?_;generalize sb:w5.heap.size=b8 at *
   refine kY (gf:=g) (lb:=lb) func33 ?g eg hit (χ _) (λ_ _=>rfl) (λk Y=>(mn k Y).1)
    (λk=>k=b8\/k=b8+1) (λk Y bV=>by
     rcases(mn k bV).2 with h|h
     ·have:=ly k h;omega
     omega) (IJ b8 (b8+1) w7.heap.size d from_ T) (λ_ _ _=>False) (λc D W=>c=bx 5/\3000<T.length) ?ps ?start ?round ?done ?stop ?pan
   case g=>rfl
   case ps=>intro x N;obtain⟨b,_,rfl⟩:=List.mem_map.1 N;rfl
   case start=>exact IJ.cQ (sJ.cQ (λk Y=>by omega) ⟨.inl rfl,η none 0 0,r8,λk Y=>by simp[Value.ownBlock]at Y,Ϙ _ _ _ _⟩) (.inr rfl) r9 (by omega)
   case stop=>
    rintro c W ⟨_,D,_,_,aG⟩;exact aG.out.elim
   case pan=>
    rintro c W4 ⟨N,D,cx,_,aG⟩ hs bM;obtain⟨rfl,M⟩:=aG.out;have sK:=al.trans (N.below (B:=w.heap.size) (by omega) (λk Y=>by omega));refine⟨by simp,.inl ⟨_,_,rfl,run_takeDeferred bM,?_⟩⟩;refine hG2.out (by omega) _ ⟨sK.os,sK.tape,sK.output,by simp;omega,λk Y=>(Ρ (by omega)).trans (sK.block k Y)⟩
   case done=>
    rw[rE];rintro W4 ⟨N,D,cx,_,aG⟩ hs bM;obtain⟨⟨zP,v,ak2,fS,aX⟩,_,_,M⟩:=aG.out;rw[List.take_length]at aX;have sK:=al.trans (N.below (B:=w.heap.size) (by omega) (λk Y=>by omega));have c8:=ak2.cell (k:=0) rfl;have zz:=λk Y=>(aX.lt k Y).1;simp only[Exit.inBlock,Exit.then];refine fh _ _ (bQ ?_);clear fh aG hit;gi_wp2_with fail;have cO:∀k,v.ownBlock=some k->k≠w7.heap.size:=λk Y e=>by
     rcases cx k (fS k Y).1 with h|h<;>omega
    refine⟨by simp,.inl ⟨_,_,rfl,run_takeDeferred bM,?_⟩⟩;refine⟨_,results_tmp rfl _ _ _,hG1.out M _ _ ?_ ?_⟩
    ·exact tD (eK aX λg hg=>Ρ (cO g hg)) (by omega)
    exact⟨sK.os,sK.tape,sK.output,by simp;omega,λk Y=>(Ρ (by omega)).trans (sK.block k Y)⟩
   case round=>
    intro BA i x N W4 D yM hs dT aG aqy hK;obtain⟨b,hd⟩:∃b,T[i]?=some b:=⟨_,List.getElem?_eq_getElem (by have:=(List.getElem?_eq_some_iff.1 N).1;rwa [rE]at this)⟩;rw[zB hd]at N;cases N;have htb:=ox.out b (List.mem_of_getElem? hd);have hiT:=(List.getElem?_eq_some_iff.1 hd).1;have ur:=H (show T.take (i+1)=T.take i++[b]from by rw[List.take_add_one,hd];rfl);clear hd ox;gi_wp2_with fail;have gp:Below W4.heap.size W4 (W4.alloc (ι #[V Z b,V Z (b+d.ln)] 43)):=(Ι _ _).alloc (χ _) _;refine hK _ _ (λk=>D k\/k=W4.heap.size) gp (λk Y=>Y.imp id λh=>by omega) (λk Y=>.inl Y) (λk Y=>Y.elim (λh=>by have:=aG.1 k h;simp;omega) (λh=>by simp;omega)) ?_;intro l' W2 fD bN rB;have q4:=r4.aM bN (show¬(w.heap.size=b8\/w.heap.size=b8+1) by omega);have q10:=(X.new W4 [V Z b,V Z (b+d.ln)] 43).keep (fD _ (.inr rfl));have dX:=aG.on (W':=W2) λk Y=>(fD k (.inl Y)).trans (gp.block k (aG.1 k Y));have dp:¬D W4.heap.size:=λh=>by have:=aG.1 _ h;omega
    clear hK fD hit fh gp;obtain⟨⟨zP,v,q8,fS,aX⟩,hD9,q9,M⟩:=dX.out;have dP:∀k,D k\/k=W4.heap.size->k<W2.heap.size:=λk Y=>Y.elim (dX.1 k) (λh=>by have:=q10.lt;omega);have zz:∀k,v.ownBlock=some k->k≠b8+1:=λk Y=>by have:=(aX.lt k Y).1;omega
    have c9:=q9.cell (k:=0) rfl;have f9:=q9.free (k:=0);gi_wp2_with fail;have e9:(Value.int Z ((i:Int)+1))=V Z ((i+1:Nat):Int):=by simp
    have eo:aj (λk=>D k\/k=W4.heap.size) W2 (W2.setCell ⟨b8+1,0,none⟩ (V Z ((i:Int)+1))):=(aj.refl _ _).setCell (.inl (.inl hD9)) _;have y9:=q9.set (k:=0) (V Z ((i:Int)+1));have VP:∀k,k≠b8+1->(W2.setCell ⟨b8+1,0,none⟩ (V Z ((i:Int)+1))).heap[k]?=W2.heap[k]?:=λk Y=>Χ _ _ _ _ Y;have y4:X (W2.setCell ⟨b8+1,0,none⟩ (V Z ((i:Int)+1))) _ _ _:=(VP _ (by omega)).trans q4;have y8:X (W2.setCell ⟨b8+1,0,none⟩ (V Z ((i:Int)+1))) _ _ _:=(VP _ (by omega)).trans q8;have y10:X (W2.setCell ⟨b8+1,0,none⟩ (V Z ((i:Int)+1))) _ _ _:=(VP _ (by omega)).trans q10;have Fs:=eK aX (I:=W2.setCell ⟨b8+1,0,none⟩ (V Z ((i:Int)+1))) λg hg=>VP g (zz g hg);clear c9 f9 q4 q8 q9 q10 VP aX;generalize W2.setCell ⟨b8+1,0,none⟩ (V Z ((i:Int)+1))=W3 at *
    have y9':X W3 (b8+1) [V Z ((i+1:Nat):Int)] 3:=by rw[<-e9];exact y9
    clear y9 e9;by_cases hle:i+1<=3000
    case neg=>
     rw[decide_eq_false (by omega)];refine(CallsIn.inRound l' (callsIn_wide.2 (gg 5 _))).mono ?_;rintro e W5 ⟨rfl,rfl⟩;exact⟨rfl,eo,_,λk Y=>.inl Y,λk Y=>Y,⟨λk Y=>Ϛ (dP k Y) eo.size,λW5 _=>⟨rfl,(by omega)⟩⟩⟩
    rw[decide_eq_true (by omega)];refine(CallsIn.inRound l' (callsIn_wide.2 (eS 5 _))).mono ?_;rintro e W5 ⟨rfl,rfl⟩;have ga:=H (VO d from_ (T.take i) b);rw[<-ur.out]at ga;have x0:=y10.cell (k:=0) rfl;have x1:=y10.cell (k:=1) rfl;have c4:=y4.cell (k:=0) rfl;have c8:=y8.cell (k:=0) rfl;have f8:=y8.free (k:=0);by_cases PE:from_<b+d.ln
    case neg=>
     rw[if_neg PE,Θ]at ga;gi_wp2_with fail;show aO _ _ _ _ _;refine IJ.post ⟨eo,λk=>D k\/k=W4.heap.size,λk Y=>.inl Y,λk Y=>Y,?_⟩ (.inl hD9) y9' hle;rw[ga.out];exact sJ.cQ (λk Y=>Ϛ (dP k Y) eo.size) ⟨.inl zP,v,y8,λk Y=>⟨.inl (fS k Y).1,(fS k Y).2⟩,Fs⟩
    rw[if_pos PE]at ga;gi_wp2_with (gi_at_builtin;refine Hid.out ?_);refine H ?_;have jw:(oo d from_ (T.take i)).length<=i:=ώ (YA _ _ _) (by simp;omega);have Zc:w7.heap.size<=W3.heap.size:=by have:=eo.size;omega
    refine wE rfl (.tmp 29) (.tmp 31) 38 43 _ 2 16 rfl underlying38 Yz rfl (by decide) w7.heap.size _ _ _ rfl (Fs.alloc _) (by simp;omega) W3.heap.size [V Z b,V Z (b+d.ln)] rfl rfl (λj u hj=>(X.new W3 [V Z b,V Z (b+d.ln)] 43).cell hj) (by simp[Value.oneCell']) (by omega) (by decide) ?_;intro v' W6 o6 tN qh;obtain⟨g6,aj3,rfl⟩:=nD o6;replace qh:=H qh;have cD:=(Ι W3.heap.size W3).alloc (χ _) (.cells [V Z b,V Z (b+d.ln)].toArray 43);have z8:=y8.on cD;have z9:=y9'.on cD;have z8':X W6 b8 [v] 38:=(tN.block _ z8.lt (λe=>(fS _ e.symm).2 rfl)).trans z8;have z9':X W6 (b8+1) [V Z ((i+1:Nat):Int)] 3:=(tN.block _ z9.lt (λe=>zz _ e.symm rfl)).trans z9;clear c8 f8 x0 x1 c4;have c8:=z8'.cell (k:=0) rfl;have f8:=z8'.free (k:=0);gi_wp2_with fail;have fG:=Cn (D1:=λk=>D k\/k=W4.heap.size) (W2:=W2) (p:=b8) (T:=38) dP (.inl zP) (eo.alloc _) z8 (λk Y=>⟨.inl (fS k Y).1,(fS k Y).2⟩) tN qh.out o6;show aO _ _ _ _ _;refine IJ.post ?_ (.inl hD9) ((Χ _ _ _ _ (show b8+1≠b8 by omega)).trans z9') hle;rw[ga.out,RZ,Ω];exact fG
end
theorem Hb (p:ϡ)(w:τ):
 CallsD prog 53 #[ζ (some p)] .returning w λe u' I=>e=δ (.tuple #[])/\u'=.returning/\I=w:=by
 have hf:=kN p .nilIface;refine callsD_of_wpS func53 rfl λc₀ cs hu=>?_;refine mh λaqy hK=>?_;refine wpS_region ?_;simp[wpOpsS,go_sem,recoverD,hu,ntmps53,Exit.thenS];rw[hf];refine hK _ _ _ ?_;clear hK aqy hf;refine wpS_of_wp ?_;go_wp2;cases c₀;simp_all[bodyPostS,results,results53]
theorem zj (p:ϡ)(e:Int)(x:Value)(oY:List PanicEntry)(w:τ)(hc:w.cell? p=some x)(hz:w.frozen? p=false)(J:p.block<w.heap.size):
 CallsD prog 53 #[ζ (some p)] (.panicking ({v:=.iface 85 (.agg #[V Z e]),recovered:=false}::oY)) w λE u' I=>
  E=δ (.tuple #[])/\u'=.panicking ({v:=.iface 85 (.agg #[V Z e]),recovered:=true}::oY)/\I=(w.alloc (ι #[V Z e] 85)).setCell p (V Z e):=by
 have hta:=sZ;have gX:∀o,(w.alloc o).frozen? p=false:=λo=>by rw[World.frozen?_alloc_old w o p (by omega)];exact hz
 have hf:=kN p (.iface 85 (.agg #[V Z e]));refine callsD_of_wpS func53 rfl λc₀ cs hu=>?_;refine mh λaqy hK=>?_;refine wpS_region ?_;simp[wpOpsS,go_sem,recoverD,hu,ntmps53,Exit.thenS];rw[hf];refine hK _ _ _ ?_;clear hK aqy hf;refine wpS_of_wp ?_;go_wp2;exact⟨rfl,_,rfl,.tuple #[],by simp[results,results53],rfl,rfl,rfl⟩
theorem Hc (p q r:ϡ)(l:List (Int×Int))(w:τ)
 (hf:∀W,Below w.heap.size w W->ω prog 32 #[ζ (some p),ζ (some q),ζ (some r)] W λE I=>(∃v,E=δ v/\I.ownsRow W.heap.size 43 2 v l.length (mf l))/\Below W.heap.size W I):
 ω prog 31 #[.func (.func 32) #[] #[ζ (some p),ζ (some q),ζ (some r)]] w λE I=>(∃v,E=δ (.tuple #[v,V Z 0])/\I.ownsRow w.heap.size 43 2 v l.length (mf l))/\Below w.heap.size w I:=by
 have sI:∀(fn:Fn) (first cap:Array Value) (w:τ),(Instr.makeFunc fn first cap).run prog w=.ok (.func fn first cap) w:=λ_ _ _ _=>rfl;have HF:=H hf;clear hf;go_enter_defers func31,ntmps31;go_wp2_with fail;refine(HF.out _ ((Ι _ _).alloc (χ _) _)).mono ?_;rintro e w1 ⟨⟨v,rfl,aX⟩,ay⟩;obtain⟨hc,pP⟩:=qN ay;have hz:=ay.size;have h0:w1.cell? ⟨w.heap.size,0,none⟩=some (V Z 0):=by rw[hc _ _ (by simp)];simp[go_sem]
 have G:w1.frozen? ⟨w.heap.size,0,none⟩=false:=by rw[pP _ _ (by simp)];simp[go_sem]
 have aR:w.heap.size<w1.heap.size:=by simp at hz;omega
 have U:Below w.heap.size w w1:=((Ι _ _).alloc (χ _) _).trans (ay.mono (by simp));clear hc pP ay hz;have dp:∀k,v.ownBlock=some k->k≠w.heap.size:=λk Y=>by have:=(aX.lt k Y).1;simp at this;omega
 have gU:=eK aX (I:=w1.setCell ⟨w.heap.size,0,none⟩ (V Z 0)) λg hg=>Χ _ _ _ _ (dp g hg);replace gU:=tD gU (show w.heap.size<=_ by simp);obtain⟨a5,c5,rfl⟩:=nD aX;clear aX dp;go_wp2;refine leaves_cons (f:=53) (args:=#[ζ (some ⟨w.heap.size,0,none⟩)]) (by simp) (by simp[go_sem]) ?_;refine(Hb _ _).mono ?_;rintro e u' az ⟨rfl,rfl,rfl⟩;refine⟨.tuple #[η a5 l.length c5,V Z 0],?_,⟨_,rfl,gU⟩,U.setCell (χ _) _⟩;simp[results,results31,go_sem,h0]
theorem JW (p q r:ϡ)(x:Int)(w:τ)
 (hf:∀W,Below w.heap.size w W->ω prog 32 #[ζ (some p),ζ (some q),ζ (some r)] W λE I=>E=ε (bx x)/\Below W.heap.size W I):
 ω prog 31 #[.func (.func 32) #[] #[ζ (some p),ζ (some q),ζ (some r)]] w λE I=>E=δ (.tuple #[η none 0 0,V Z x])/\Below w.heap.size w I:=by
 have sI:∀(fn:Fn) (first cap:Array Value) (w:τ),(Instr.makeFunc fn first cap).run prog w=.ok (.func fn first cap) w:=λ_ _ _ _=>rfl;have HF:=H hf;clear hf;go_enter_defers func31,ntmps31;go_wp2_with fail;refine(HF.out _ ((Ι _ _).alloc (χ _) _)).mono ?_;rintro e w1 ⟨rfl,ay⟩;obtain⟨hc,pP⟩:=qN ay;have hz:=ay.size;have h0:w1.cell? ⟨w.heap.size,0,none⟩=some (V Z 0):=by rw[hc _ _ (by simp)];simp[go_sem]
 have G:w1.frozen? ⟨w.heap.size,0,none⟩=false:=by rw[pP _ _ (by simp)];simp[go_sem]
 have aR:w.heap.size<w1.heap.size:=by simp at hz;omega
 have U:Below w.heap.size w w1:=((Ι _ _).alloc (χ _) _).trans (ay.mono (by simp));clear hc pP ay hz;refine leaves_cons (f:=53) (args:=#[ζ (some ⟨w.heap.size,0,none⟩)]) (by simp) (by simp[go_sem]) ?_;refine(zj ⟨w.heap.size,0,none⟩ x (V Z 0) [] _ h0 G aR).mono ?_;rintro e u' az ⟨rfl,rfl,rfl⟩;refine⟨.tuple #[η none 0 0,V Z x],?_,rfl,(U.alloc (Nat.le_of_lt aR) _).setCell (χ _) _⟩;have A:((w1.alloc (ι #[V Z x] 85)).cell? ⟨w.heap.size,0,none⟩).isSome=true:=by
  rw[World.cell?_alloc_past _ _ _ aR,h0];rfl
 simp[results,results31,go_sem,A]
theorem YB (s:List UInt8)(f t:Int)(p q r:ϡ)(w:τ)(hm:ML w)(ht:iX w)(hs:s.length<=1048576)(c0:w.cell? p=some (θ ⟨s.toArray⟩))(c1:w.cell? q=some (V Z f))(c2:w.cell? r=some (V Z t))(x:Int)(h:vV s f t=.error x):
 ω prog 32 #[ζ (some p),ζ (some q),ζ (some r)] w λE I=>E=ε (bx x)/\Below w.heap.size w I:=by
 have C:Hid (ω prog 33 #[θ ⟨s.toArray⟩,V Z f,V Z t] w λE I=>E=ε (bx x)/\Below w.heap.size w I):=H ((Cc s f t w hm ht hs).mono λE I J=>by
  unfold uQ at J;rw[h]at J;exact J)
 clear hm ht h;go_enter func32,ntmps32;go_wp2_with fail;refine(C.out).mono ?_;rintro e w1 ⟨rfl,U⟩;exact⟨rfl,rfl,U⟩
theorem VQ (s:List UInt8)(f t:Int)(p q r:ϡ)(w:τ)(hm:ML w)(ht:iX w)(hs:s.length<=1048576)(c0:w.cell? p=some (θ ⟨s.toArray⟩))(c1:w.cell? q=some (V Z f))(c2:w.cell? r=some (V Z t))(l:List (Int×Int))(h:vV s f t=.ok l):
 ω prog 32 #[ζ (some p),ζ (some q),ζ (some r)] w λE I=>(∃v,E=δ v/\I.ownsRow w.heap.size 43 2 v l.length (mf l))/\Below w.heap.size w I:=by
 have C:Hid (ω prog 33 #[θ ⟨s.toArray⟩,V Z f,V Z t] w λE I=>(∃v,E=δ v/\I.ownsRow w.heap.size 43 2 v l.length (mf l))/\Below w.heap.size w I):=H ((Cc s f t w hm ht hs).mono λE I J=>by
  unfold uQ at J;rw[h]at J;exact J)
 clear hm ht h;go_enter func32,ntmps32;go_wp2_with fail;refine(C.out).mono ?_;rintro e w1 ⟨⟨v,rfl,aX⟩,U⟩;go_wp2_with fail;go_ret;exact⟨⟨v,rfl,aX⟩,U⟩
def Bb (s:List UInt8)(f t:Int)(w:τ):Ending->τ->Prop:=λe I=>
 (match vV s f t with
  | .error x=>e=δ (.tuple #[η none 0 0,V Z x])
  | .ok l=>∃v,e=δ (.tuple #[v,V Z 0])/\I.ownsRow w.heap.size 43 2 v l.length (mf l))/\Below w.heap.size w I
theorem T3 (s:List UInt8)(f t:Int)(w:τ)(hm:ML w)(ht:iX w)(hs:s.length<=1048576):
 ω prog 11 #[θ ⟨s.toArray⟩,V Z f,V Z t] w (Bb s f t w):=by
 have sI:∀(fn:Fn) (first cap:Array Value) (w:τ),(Instr.makeFunc fn first cap).run prog w=.ok (.func fn first cap) w:=λ_ _ _ _=>rfl;obtain⟨W0,eR⟩:∃W0,W0=((w.alloc (ι #[θ ⟨s.toArray⟩] 9)).alloc (ι #[V Z f] 3)).alloc (ι #[V Z t] 3):=⟨_,rfl⟩;have Hd:Below w.heap.size w W0:=by
  subst eR;exact(((Ι _ _).alloc (χ _) _).alloc (by simp) _).alloc (by simp;omega) _
 have bj:∀W,Below W0.heap.size W0 W->Below w.heap.size w W:=λW U=>Hd.trans (U.mono Hd.size);have k0:W0.cell? ⟨w.heap.size,0,none⟩=some (θ ⟨s.toArray⟩)/\W0.cell? ⟨w.heap.size+1,0,none⟩=some (V Z f)/\W0.cell? ⟨w.heap.size+1+1,0,none⟩=some (V Z t)/\W0.heap.size=w.heap.size+3:=by
  subst eR;refine⟨?_,?_,?_,by simp⟩<;>simp[go_sem]
 obtain⟨k0,k1,k2,k3⟩:=k0;have dE:∀W,Below W0.heap.size W0 W->W.cell? ⟨w.heap.size,0,none⟩=some (θ ⟨s.toArray⟩)/\W.cell? ⟨w.heap.size+1,0,none⟩=some (V Z f)/\W.cell? ⟨w.heap.size+1+1,0,none⟩=some (V Z t):=λW U=>
  ⟨(U.cell (by simp;omega)).trans k0,(U.cell (by simp;omega)).trans k1,(U.cell (by simp;omega)).trans k2⟩
 cases h:vV s f t with
 |error x=>
  have hv:Bb s f t w=λe I=>e=δ (.tuple #[η none 0 0,V Z x])/\Below w.heap.size w I:=by unfold Bb;rw[h]
  rw[hv];have C:=H (JW ⟨w.heap.size,0,none⟩ ⟨w.heap.size+1,0,none⟩ ⟨w.heap.size+1+1,0,none⟩ x W0 (λW U=>YB s f t _ _ _ W (hm.on (bj W U)) (ht.on (bj W U)) hs (dE W U).1 (dE W U).2.1 (dE W U).2.2 x h));replace eR:=H eR;clear dE bj hm ht hv h k0 k1 k2 k3;go_enter func11,ntmps11;go_wp2_with fail;rw[<-eR.out];refine(C.out).mono ?_;rintro e w1 ⟨rfl,U⟩;go_wp2_with fail;go_ret2;exact⟨rfl,Hd.trans (U.mono Hd.size)⟩
 |ok l=>
  have hv:Bb s f t w=λe I=>(∃v,e=δ (.tuple #[v,V Z 0])/\I.ownsRow w.heap.size 43 2 v l.length (mf l))/\Below w.heap.size w I:=by unfold Bb;rw[h]
  rw[hv];have C:=H (Hc ⟨w.heap.size,0,none⟩ ⟨w.heap.size+1,0,none⟩ ⟨w.heap.size+1+1,0,none⟩ l W0 (λW U=>VQ s f t _ _ _ W (hm.on (bj W U)) (ht.on (bj W U)) hs (dE W U).1 (dE W U).2.1 (dE W U).2.2 l h));replace eR:=H eR;replace k3:=H k3;clear dE bj hm ht hv h k0 k1 k2;go_enter func11,ntmps11;go_wp2_with fail;rw[<-eR.out];refine(C.out).mono ?_;rintro e w1 ⟨⟨v,rfl,aX⟩,U⟩;obtain⟨a5,c5,rfl⟩:=nD aX;go_wp2_with fail;go_ret2;exact⟨⟨_,rfl,tD aX (by have:=k3.out;omega)⟩,Hd.trans (U.mono Hd.size)⟩
def dw (c n:Int):Int:=if c<0 then(-(c+1))%n else c%n
theorem tA (c n:Int)(h:0<n):0<=dw c n/\dw c n<n:=by
 unfold dw;split
 ·exact⟨ύ _ (by omega),Int.emod_lt_of_pos _ h⟩
 exact⟨ύ _ (by omega),Int.emod_lt_of_pos _ h⟩
theorem Aj (c n:Int)(w:τ)(h0:-9223372036854775808<=c)(G:c<=9223372036854775807)(n0:0<n)(n1:n<=9223372036854775807):
 ω prog 16 #[V Z c,V Z n] w λe I=>e=δ (V Z (dw c n))/\w=I:=by
 unfold dw;by_cases hc:c<0
 ·rw[if_pos hc];go_enter func16,ntmps16;go_wp2;go_ret;refine⟨aaN ?_,rfl⟩;rw[<-Int.neg_tmod,Int.tmod_eq_emod_of_nonneg (by omega)]
 rw[if_neg hc];go_enter func16,ntmps16;go_wp2;go_ret;exact⟨rfl,rfl⟩
def kJ:Nat->Int->List UInt8
 |0,_=>[]
 |g+1,n=>(if n<10 then[]else kJ g (n/10))++[Ο (48+n%10).toNat]
def dU (n:Int):List UInt8:=kJ 20 n
theorem qu (n:Int)(w:τ)(h0:0<=n)(G:n<100000000000000000000)(A:n<=9223372036854775807):
 ω prog 15 #[V Z n] w λe I=>e=δ (θ ⟨(dU n).toArray⟩)/\Below w.heap.size w I:=by
 have Tj:=Wb;have hm:0<=n%10/\n%10<10:=by omega
 have iI:Hid ((if n<10 then[]else kJ 19 (n/10))++[Ο (48+n%10).toNat]=dU n):=H rfl;go_enter func15,ntmps15;go_wp2;go_loopw [0,3] (λt s wr=>∃(g:Nat) (q:Int) (l:List UInt8),g<=19/\0<=q/\q<=9223372036854775807/\Hid (q<10^(g+1))/\t=V Z q/\s=θ ⟨l.toArray⟩/\l.length<=20-g/\Hid ((if q<10 then[]else kJ g (q/10))++l=dU n)/\Below w.heap.size w wr) (λt _ _=>(intOf t).toNat)
 case atStart=>exact⟨19,n,_,by omega,h0,A,H (by omega),rfl,rfl,by simp,iI,(Ι _ _).alloc (χ _) _⟩
 case round=>
  obtain⟨g,q,l,g0,q0,q1,hq,rfl,rfl,K,HP,U⟩:=hrel;clear iI;by_cases aR:10<=q
  ·have hg:∃k,g=k+1:=by
    cases g with
    |zero=>have:=hq.out;simp at this;omega
    |succ k=>exact⟨k,rfl⟩
   obtain⟨k,rfl⟩:=hg;have Z2:Hid (q/10<10^(k+1)):=H (by have:=hq.out;rw[Int.pow_succ]at this;omega);have HP':Hid ((if q/10<10 then[]else kJ k (q/10/10))++(Ο (48+q/10%10).toNat::l)=dU n):=H (by
    have:=HP.out;rw[if_neg (by omega),kJ,ο]at this;exact this)
   clear HP hq;have L7:0<=q/10%10/\q/10%10<10:=by omega
   go_wp2;refine⟨⟨k,q/10,Ο (48+q/10%10).toNat::l,by omega,by omega,by omega,Z2,rfl,acx (oW [_] l),by simp;omega,HP',?_⟩,by simp[intOf];omega⟩;exact U.alloc U.size _
  have HQ:Hid (l=dU n):=H (by
   have:=HP.out;rw[if_pos (by omega)]at this;exact this)
  clear HP;go_wp2;go_ret;exact⟨mU (by rw[HQ.out]),U⟩
theorem Jl:∀(g:Nat) (n:Int),0<=n->n<10^g->jd (kJ g n)=n/\(kJ g n).all fN=true
 |0,n,h0,G=>by simp at G;exact⟨by simp[kJ,jd];omega,rfl⟩
 |g+1,n,h0,G=>by
  have U:((Ο (48+n%10).toNat).toNat:Int)=48+n%10:=by
   rw[UInt8.toNat_ofNat',Nat.mod_eq_of_lt (by omega)];omega
  rw[kJ,Hm,U,List.all_append];have hd:fN (Ο (48+n%10).toNat)=true:=(AY _).2 (by omega);by_cases h:n<10
  ·rw[if_pos h];exact⟨by simp[jd];omega,by simp[hd]⟩
  rw[if_neg h];obtain⟨i1,i2⟩:=Jl g (n/10) (by omega) (by rw[Int.pow_succ]at G;omega);rw[i1,i2];exact⟨by omega,by simp[hd]⟩
theorem yB:∀(g:Nat) (n:Int) (k:Nat),n<10^(k+1)->(kJ g n).length<=k+1
 |0,n,k,h=>by simp[kJ]
 |g+1,n,k,h=>by
  rw[kJ,Ω];by_cases G:n<10
  ·rw[if_pos G];simp
  rw[if_neg G];cases k with
  |zero=>simp at h;omega
  |succ k=>
   have:=yB g (n/10) k (by rw[Int.pow_succ]at h;omega);simp;omega
theorem Jm:∀(g:Nat) (n:Int),1<=n->n<10^g->(kJ g n).head?≠some 48
 |0,n,h,A=>by simp[kJ]
 |g+1,n,h,A=>by
  rw[kJ];by_cases G:n<10
  ·rw[if_pos G];intro e;have e':=Option.some.inj e;have e2:=congrArg UInt8.toNat e';rw[UInt8.toNat_ofNat',Nat.mod_eq_of_lt (by omega)]at e2;have:(48:UInt8).toNat=48:=rfl;omega
  rw[if_neg G];have aR:n/10<10^g:=by rw[Int.pow_succ]at A;omega
  have ih:=Jm g (n/10) (by omega) aR;cases hd:kJ g (n/10)with
  |nil=>
   intro e;cases g with
   |zero=>simp at aR;omega
   |succ g=>rw[kJ]at hd;simp at hd
  |cons a r=>rw[hd]at ih;exact ih
theorem afN (n:Int):dU n≠[]:=by unfold dU;rw[kJ];simp
theorem abE (n:Int)(h0:0<=n)(G:n<10000000):dD (dU n)=true/\dv (dU n)=n/\(dU n).all fN=true/\(dU n).length<=7:=by
 obtain⟨a,b⟩:=Jl 20 n h0 (by omega);have K:=yB 20 n 6 (by omega);have hs:kW (dU n)=true:=by
  unfold kW;simp only[Υ,decide_eq_true_eq,Bool.not_eq_true',Bool.and_eq_false_iff,decide_eq_false_iff_not];refine⟨⟨?_,K⟩,?_⟩
  ·have:=afN n;cases h:dU n with
   |nil=>exact absurd h this
   |cons x r=>simp
  by_cases hn:n<10
  ·right;have:=yB 20 n 0 (by omega);show¬1<(kJ 20 n).length;omega
  left;have:=Jm 20 n (by omega) (by omega);cases h:(dU n).head?==some 48
  ·rfl
  exact absurd (eq_of_beq h) this
 have hd:bU (dU n)=n:=by unfold bU dU;rw[if_pos b,a]
 refine⟨?_,?_,b,K⟩
 ·unfold dD;rw[hs,hd];simp[h0]
 unfold dv;rw[if_pos hs,hd]
theorem Xq (c:Int)(w:τ)(h0:-9223372036854775808<=c)(G:c<=9223372036854775807):
 ω prog 19 #[V Z c] w λe I=>e=δ (V Z (315532800+dw c 3155760000))/\w=I:=by
 have U:=tA c 3155760000 (by omega);have C:=H (Aj c 3155760000 w h0 G (by omega) (by omega));generalize dw c 3155760000=x at *
 clear h0 G;go_enter func19,ntmps19;go_wp2_with (go_at_call 16;refine(C.out).mono ?_;rintro e I ⟨rfl,rfl⟩);go_ret;exact⟨rfl,rfl⟩
theorem TE {o:Option (List UInt8)}{ex:List Int}(h:pZ o=some ex):fL ex/\ex.length<=20/\(∀t∈ex,0<=t/\t<=7258118399):=by
 rw[AI]at h;unfold sS at h;obtain⟨ys,hy,rfl⟩:=Option.map_eq_some_iff.1 h;have G:=Ha (p:=λz=>0<=z/\z<=7258118399) (λv z hz=>wT hz) hy;refine⟨(Kd ys).1,?_,λt ht=>G t (((Kd ys).2 t).1 ht)⟩;have A:ys.length<=20:=by
  unfold dV at hy;split at hy
  ·cases hy;simp
  split at hy
  ·rename_i h5;rw[Bd hy];exact h5
  cases hy
 have M:(Lib.compact (ys.mergeSort λx y=>decide (x<=y))).length<=(ys.mergeSort λx y=>decide (x<=y)).length:=yf _;rw[List.length_mergeSort]at M;omega
def P9 (n:Int):List UInt8:=if cU n then kq n else[]
theorem FF (n:Int):∃x:Int,kr n=.tuple #[θ ⟨(P9 n).toArray⟩,V Z x]:=by
 unfold kr P9;by_cases h:cU n=true
 ·rw[if_pos h,if_pos h];exact⟨_,rfl⟩
 rw[if_neg h,if_neg h];exact⟨_,rfl⟩
theorem R6 (n:Int):(kq n).length=16:=by unfold kq;simp[oV]
theorem Qa (n:Int):(P9 n).length<=16:=by unfold P9;split<;>simp[R6]
def FG (st ln:Int):List UInt8:=if ln%86400=0/\ln/86400<32 then[68,85,82,65,84,73,79,78,58,80]++dU (ln/86400)++[68]++[13,10]else[68,84,69,78,68,58]++P9 (st+ln)++[13,10]
def FH (cT:List UInt8):List UInt8:=if cT=[]then[]else[82,82,85,76,69,58]++cT++[13,10]
def M5 (u:List UInt8)(st:Int):List UInt8:=[66,69,71,73,78,58,86,69,86,69,78,84,13,10,85,73,68,58]++u++[13,10]++[68,84,83,84,65,82,84,58]++P9 st++[13,10]
def vW (u:List UInt8)(st ln:Int)(cT:List UInt8):List UInt8:=M5 u st++FG st ln++FH cT++[69,78,68,58,86,69,86,69,78,84]++[13,10]
theorem YC (aqu P1 D R:ByteArray)(x1 st ln:Int)(w:τ)(C1:Hid (ω prog 10 #[V Z st] w λE I=>E=δ (.tuple #[θ P1,V Z x1])/\Below w.heap.size w I))
 (C3:Hid (∀W,Below w.heap.size w W->ω prog 15 #[V Z (ln/86400)] W λE I=>E=δ (θ D)/\Below W.heap.size W I))
 (hU:aqu.size<=1000)(G:P1.size<=16)(M:D.size<=20)(h4:R.size<=1000)(l0:0<=ln)(l1:ln<=100000000000)
 (hd:ln%86400=0/\ln/86400<32)(hR:R.toList≠[]):
 ω prog 12 #[θ aqu,V Z st,V Z ln,θ R] w λe I=>e=δ (θ ((⟨#[66,69,71,73,78,58,86,69,86,69,78,84,13,10,85,73,68,58]⟩:ByteArray)++aqu++⟨#[13,10]⟩++⟨#[68,84,83,84,65,82,84,58]⟩++P1++⟨#[13,10]⟩++⟨#[68,85,82,65,84,73,79,78,58,80]⟩++D++⟨#[68]⟩++⟨#[13,10]⟩++⟨#[82,82,85,76,69,58]⟩++R++⟨#[13,10]⟩++⟨#[69,78,68,58,86,69,86,69,78,84]⟩++⟨#[13,10]⟩))/\Below w.heap.size w I:=by
 have Ew:(R.toList==[])=false:=by simp[hR]
 have d1:(ln%86400==0)=true:=by simp[hd.1]
 obtain⟨cx,tG⟩:=hd;go_enter func12,ntmps12;go_wp2_with fail;refine(C1.out).mono ?_;rintro e w1 ⟨rfl,ay⟩;go_wp2_with fail;refine(C3.out _ ay).mono ?_;rintro e w2 ⟨rfl,aN⟩;go_wp2_with fail;go_ret;exact⟨rfl,ay.trans (aN.mono ay.size)⟩
theorem YD (aqu P1 D R:ByteArray)(x1 st ln:Int)(w:τ)(C1:Hid (ω prog 10 #[V Z st] w λE I=>E=δ (.tuple #[θ P1,V Z x1])/\Below w.heap.size w I))
 (C3:Hid (∀W,Below w.heap.size w W->ω prog 15 #[V Z (ln/86400)] W λE I=>E=δ (θ D)/\Below W.heap.size W I))
 (hU:aqu.size<=1000)(G:P1.size<=16)(M:D.size<=20)(h4:R.size<=1000)(l0:0<=ln)(l1:ln<=100000000000)
 (hd:ln%86400=0/\ln/86400<32)(hR:R=⟨#[]⟩):
 ω prog 12 #[θ aqu,V Z st,V Z ln,θ R] w λe I=>e=δ (θ ((⟨#[66,69,71,73,78,58,86,69,86,69,78,84,13,10,85,73,68,58]⟩:ByteArray)++aqu++⟨#[13,10]⟩++⟨#[68,84,83,84,65,82,84,58]⟩++P1++⟨#[13,10]⟩++⟨#[68,85,82,65,84,73,79,78,58,80]⟩++D++⟨#[68]⟩++⟨#[13,10]⟩++⟨#[69,78,68,58,86,69,86,69,78,84]⟩++⟨#[13,10]⟩))/\Below w.heap.size w I:=by
 subst hR;have d1:(ln%86400==0)=true:=by simp[hd.1]
 obtain⟨cx,tG⟩:=hd;go_enter func12,ntmps12;go_wp2_with fail;refine(C1.out).mono ?_;rintro e w1 ⟨rfl,ay⟩;go_wp2_with fail;refine(C3.out _ ay).mono ?_;rintro e w2 ⟨rfl,aN⟩;go_wp2_with fail;go_ret;exact⟨rfl,ay.trans (aN.mono ay.size)⟩
theorem YE (aqu P1 P2 R:ByteArray)(x1 x2 st ln:Int)(w:τ)(C1:Hid (ω prog 10 #[V Z st] w λE I=>E=δ (.tuple #[θ P1,V Z x1])/\Below w.heap.size w I))
 (C2:Hid (∀W,Below w.heap.size w W->ω prog 10 #[V Z (st+ln)] W λE I=>E=δ (.tuple #[θ P2,V Z x2])/\Below W.heap.size W I))
 (hU:aqu.size<=1000)(G:P1.size<=16)(A:P2.size<=16)(h4:R.size<=1000)(s0:0<=st)(s1:st<=100000000000)(l0:0<=ln)(l1:ln<=100000000000)
 (hd:¬(ln%86400=0/\ln/86400<32))(hR:R.toList≠[]):
 ω prog 12 #[θ aqu,V Z st,V Z ln,θ R] w λe I=>e=δ (θ ((⟨#[66,69,71,73,78,58,86,69,86,69,78,84,13,10,85,73,68,58]⟩:ByteArray)++aqu++⟨#[13,10]⟩++⟨#[68,84,83,84,65,82,84,58]⟩++P1++⟨#[13,10]⟩++⟨#[68,84,69,78,68,58]⟩++P2++⟨#[13,10]⟩++⟨#[82,82,85,76,69,58]⟩++R++⟨#[13,10]⟩++⟨#[69,78,68,58,86,69,86,69,78,84]⟩++⟨#[13,10]⟩))/\Below w.heap.size w I:=by
 have Ew:(R.toList==[])=false:=by simp[hR]
 by_cases d0:ln%86400=0
 ·have cx:¬ln/86400<32:=λh=>hd ⟨d0,h⟩;clear hd;go_enter func12,ntmps12;go_wp2_with fail;refine(C1.out).mono ?_;rintro e w1 ⟨rfl,ay⟩;go_wp2_with fail;refine(C2.out _ ay).mono ?_;rintro e w2 ⟨rfl,aN⟩;go_wp2_with fail;go_ret;exact⟨rfl,ay.trans (aN.mono ay.size)⟩
 clear hd;have d1:(ln%86400==0)=false:=by simp[d0]
 go_enter func12,ntmps12;go_wp2_with fail;refine(C1.out).mono ?_;rintro e w1 ⟨rfl,ay⟩;go_wp2_with fail;refine(C2.out _ ay).mono ?_;rintro e w2 ⟨rfl,aN⟩;go_wp2_with fail;go_ret;exact⟨rfl,ay.trans (aN.mono ay.size)⟩
theorem YF (aqu P1 P2 R:ByteArray)(x1 x2 st ln:Int)(w:τ)(C1:Hid (ω prog 10 #[V Z st] w λE I=>E=δ (.tuple #[θ P1,V Z x1])/\Below w.heap.size w I))
 (C2:Hid (∀W,Below w.heap.size w W->ω prog 10 #[V Z (st+ln)] W λE I=>E=δ (.tuple #[θ P2,V Z x2])/\Below W.heap.size W I))
 (hU:aqu.size<=1000)(G:P1.size<=16)(A:P2.size<=16)(h4:R.size<=1000)(s0:0<=st)(s1:st<=100000000000)(l0:0<=ln)(l1:ln<=100000000000)
 (hd:¬(ln%86400=0/\ln/86400<32))(hR:R=⟨#[]⟩):
 ω prog 12 #[θ aqu,V Z st,V Z ln,θ R] w λe I=>e=δ (θ ((⟨#[66,69,71,73,78,58,86,69,86,69,78,84,13,10,85,73,68,58]⟩:ByteArray)++aqu++⟨#[13,10]⟩++⟨#[68,84,83,84,65,82,84,58]⟩++P1++⟨#[13,10]⟩++⟨#[68,84,69,78,68,58]⟩++P2++⟨#[13,10]⟩++⟨#[69,78,68,58,86,69,86,69,78,84]⟩++⟨#[13,10]⟩))/\Below w.heap.size w I:=by
 subst hR;by_cases d0:ln%86400=0
 ·have cx:¬ln/86400<32:=λh=>hd ⟨d0,h⟩;clear hd;go_enter func12,ntmps12;go_wp2_with fail;refine(C1.out).mono ?_;rintro e w1 ⟨rfl,ay⟩;go_wp2_with fail;refine(C2.out _ ay).mono ?_;rintro e w2 ⟨rfl,aN⟩;go_wp2_with fail;go_ret;exact⟨rfl,ay.trans (aN.mono ay.size)⟩
 clear hd;have d1:(ln%86400==0)=false:=by simp[d0]
 go_enter func12,ntmps12;go_wp2_with fail;refine(C1.out).mono ?_;rintro e w1 ⟨rfl,ay⟩;go_wp2_with fail;refine(C2.out _ ay).mono ?_;rintro e w2 ⟨rfl,aN⟩;go_wp2_with fail;go_ret;exact⟨rfl,ay.trans (aN.mono ay.size)⟩
theorem aaG {l:List UInt8}(h:l≠[]):(⟨l.toArray⟩:ByteArray).toList≠[]:=by
 intro e;have G:((⟨l.toArray⟩:ByteArray).toList==(⟨([]:List UInt8).toArray⟩:ByteArray).toList)=true:=by rw[e];simp[go_sem]
 exact h ((aee l []).1 G)
theorem abz (u:List UInt8)(st ln:Int)(cT:List UInt8)(w:τ)(ht:iX w)(hu:u.length<=1000)(hr:cT.length<=1000)(s0:0<=st)(s1:st<=100000000000)(l0:0<=ln)(l1:ln<=100000000000):
 ω prog 12 #[θ ⟨u.toArray⟩,V Z st,V Z ln,θ ⟨cT.toArray⟩] w λe I=>e=δ (θ ⟨(vW u st ln cT).toArray⟩)/\Below w.heap.size w I:=by
 obtain⟨x1,S⟩:=FF st;obtain⟨x2,e2⟩:=FF (st+ln);have C1:=H (ry st w ht);have C2:Hid (∀W,Below w.heap.size w W->ω prog 10 #[V Z (st+ln)] W λE I=>E=δ (kr (st+ln))/\Below W.heap.size W I):=H λW U=>ry _ W (ht.on U);have C3:Hid (∀W,Below w.heap.size w W->ω prog 15 #[V Z (ln/86400)] W λE I=>E=δ (θ ⟨(dU (ln/86400)).toArray⟩)/\Below W.heap.size W I):=H λW U=>qu _ W (by omega) (by omega) (by omega);rw[S]at C1;rw[e2]at C2;have p1:=Qa st;have p2:=Qa (st+ln);have p3:(dU (ln/86400)).length<=20:=ώ (yB 20 (ln/86400) 19 (by omega)) (χ _);by_cases hd:ln%86400=0/\ln/86400<32
 ·by_cases hR:cT=[]
  ·refine(YD ⟨u.toArray⟩ _ _ ⟨cT.toArray⟩ x1 st ln w C1 C3 hu p1 p3 hr l0 l1 hd (by rw[hR])).mono ?_;rintro e I ⟨rfl,U⟩;refine⟨mU ?_,U⟩;unfold vW M5 FG FH;rw[if_pos hd,if_pos hR];simp only[oW,ο,Θ,π,υ]
  refine(YC ⟨u.toArray⟩ _ _ ⟨cT.toArray⟩ x1 st ln w C1 C3 hu p1 p3 hr l0 l1 hd (aaG hR)).mono ?_;rintro e I ⟨rfl,U⟩;refine⟨mU ?_,U⟩;unfold vW M5 FG FH;rw[if_pos hd,if_neg hR];simp only[oW,ο,π,υ]
 by_cases hR:cT=[]
 ·refine(YF ⟨u.toArray⟩ _ _ ⟨cT.toArray⟩ x1 x2 st ln w C1 C2 hu p1 p2 hr s0 s1 l0 l1 hd (by rw[hR])).mono ?_;rintro e I ⟨rfl,U⟩;refine⟨mU ?_,U⟩;unfold vW M5 FG FH;rw[if_neg hd,if_pos hR];simp only[oW,ο,Θ,π,υ]
 refine(YE ⟨u.toArray⟩ _ _ ⟨cT.toArray⟩ x1 x2 st ln w C1 C2 hu p1 p2 hr s0 s1 l0 l1 hd (aaG hR)).mono ?_;rintro e I ⟨rfl,U⟩;refine⟨mU ?_,U⟩;unfold vW M5 FG FH;rw[if_neg hd,if_neg hR];simp only[oW,ο,π,υ]
theorem qF (a:Int)(m n:Nat):dx a (m+n)=dx a m++dx (a+m) n:=by
 unfold dx;rw[List.range_add,ϟ,List.map_map];congr 1;apply List.map_congr_left;intro i _;simp only[Function.comp];omega
theorem ke {a x:Int}{n:Nat}:x∈dx a n↔a<=x/\x<a+n:=by
 unfold dx;rw[Ϡ];constructor
 ·rintro⟨i,hi,rfl⟩;have:=List.mem_range.1 hi;omega
 rintro⟨h0,G⟩;exact⟨(x-a).toNat,List.mem_range.2 (by omega),by omega⟩
theorem yC (r:aE)(s k:Int):iU r s k=bh r s (k+1):=by
 unfold bh iU;by_cases h0:r.fq=0
 ·rw[if_pos h0,if_pos h0];omega
 rw[if_neg h0,if_neg h0];by_cases G:r.fq=1
 ·rw[if_pos G,if_pos G];have:eu (s+(k+1)*7) r.ws=eu (s+k*7) r.ws:=by unfold eu;omega
  rw[this];omega
 rw[if_neg G,if_neg G];by_cases A:r.fq=2
 ·rw[if_pos A,if_pos A,Ν]
 rw[if_neg A,if_neg A,Ν]
def jq (r:aE):Int:=if r.fq=0 then 1 else if r.fq=1 then 7 else if r.fq=2 then 28 else 365
theorem FI (r:aE)(s k:Int):bh r s k+jq r<=bh r s (k+1):=by
 rw[<-yC];unfold bh iU jq;by_cases h0:r.fq=0
 ·simp only[if_pos h0];omega
 simp only[if_neg h0];by_cases G:r.fq=1
 ·simp only[if_pos G];omega
 simp only[if_neg G];by_cases A:r.fq=2
 ·simp only[if_pos A];have:=(vD (ag.au s) (ag.ofM s+k)).1;omega
 simp only[if_neg A];rw[ag.tF];have:=ag.Qs (ag.au s+k);omega
theorem Dx (r:aE):1<=jq r:=by unfold jq;repeat' split<;>omega
def Jn (ct:Int)(l:List Int):List Int:=if ct=0 then l else l.take ct.toNat
theorem AS (st last ct:Int)(s0:0<=st):∀(l:List Int) (c:Int),0<=c->(ct=0\/c<ct)->
 iV st 0 last ct c l=(if ct=0 then id else List.take (ct-c).toNat) ((l.filter λd=>decide (st/86400<=d)).takeWhile λd=>decide (d*86400<=last))
 |[],c,_,_=>by rw[iV];split<;>simp
 |d::l,c,hc,hh=>by
  rw[iV];by_cases G:d*86400<st-st%86400
  ·have e:(d::l).filter (λd=>decide (st/86400<=d))=l.filter λd=>decide (st/86400<=d):=by rw[Τ,if_neg (by simp;omega)]
   rw[if_pos G,AS st last ct s0 l c hc hh,e]
  have e:(d::l).filter (λd=>decide (st/86400<=d))=d::l.filter λd=>decide (st/86400<=d):=by rw[Τ,if_pos (by simp;omega)]
  rw[if_neg G,e];by_cases A:last<d*86400
  ·have e2:(d::l.filter λd=>decide (st/86400<=d)).takeWhile (λd=>decide (d*86400<=last))=[]:=by rw[Α,if_neg (by simp;omega)]
   rw[if_pos A,e2];split<;>simp
  have e2:(d::l.filter λd=>decide (st/86400<=d)).takeWhile (λd=>decide (d*86400<=last))=d::(l.filter λd=>decide (st/86400<=d)).takeWhile λd=>decide (d*86400<=last):=by rw[Α,if_pos (by simp;omega)]
  rw[if_neg A,if_pos (show 0-st%86400<=d*86400 by omega),e2,List.singleton_append];by_cases M:ct=0
  ·rw[if_neg (show¬c+1=ct by omega),AS st last ct s0 l (c+1) (by omega) (.inl M),if_pos M,if_pos M];rfl
  rw[if_neg M];by_cases h4:c+1=ct
  ·rw[if_pos h4,show(ct-c).toNat=1 by omega];simp
  rw[if_neg h4,AS st last ct s0 l (c+1) (by omega) (.inr (by omega)),if_neg M,show(ct-c).toNat=(ct-(c+1)).toNat+1 by omega,List.take_succ_cons]
theorem VR (y:Int):365<=ag.ty (y+1)-ag.ty y/\ag.ty (y+1)-ag.ty y<=366:=by
 rw[ag.AV];split<;>omega
theorem acj (y m d:Int):365<=ag.num (y+1) m d-ag.num y m d/\ag.num (y+1) m d-ag.num y m d<=366:=by
 unfold ag.num;split
 ·have:=VR (y-1);rw[show y-1+1=y+1-1 by omega]at this;omega
 have:=VR y;omega
theorem VS (y m d:Int):∀k:Nat,ag.num y m d+365*k<=ag.num (y+k) m d/\ag.num (y+k) m d<=ag.num y m d+366*k
 |0=>by simp
 |k+1=>by
  have G:=VS y m d k;have A:=acj (y+k) m d;rw[show y+((k+1:Nat):Int)=y+k+1 by omega];omega
theorem VT {y y' m d:Int}(h:ag.num y m d<ag.num y' m d):y<y':=by
 by_cases q:y<y'
 ·exact q
 obtain⟨k,Y⟩:∃k:Nat,y=y'+k:=⟨(y-y').toNat,by omega⟩;have:=(VS y' m d k).1;rw[<-Y]at this;omega
theorem Qb (r:aE){s d k:Int}(d0:-10000<=d)(h0:bh r s k<=d)(G:d<bh r s (k+1)):cj r s d=k:=by
 unfold bh at h0 G;unfold cj;by_cases q0:r.fq=0
 ·rw[if_pos q0]at h0 G⊢;omega
 rw[if_neg q0]at h0 G⊢;by_cases q1:r.fq=1
 ·rw[if_pos q1]at h0 G⊢;have S:eu (s+k*7) r.ws=eu s r.ws:=by unfold eu;omega
  have e2:eu (s+(k+1)*7) r.ws=eu s r.ws:=by unfold eu;omega
  rw[S]at h0;rw[e2]at G;omega
 rw[if_neg q1]at h0 G⊢;by_cases q2:r.fq=2
 ·rw[if_pos q2]at h0 G⊢;have ha:=jm d d0;have b1:12*ag.au s+(ag.ofM s+k)<12*ag.au d+(ag.ofM d+1):=by
   by_cases q:12*ag.au s+(ag.ofM s+k)<12*ag.au d+(ag.ofM d+1)
   ·exact q
   have:=G0 (y:=ag.au d) (m:=ag.ofM d+1) (y':=ag.au s) (m':=ag.ofM s+k) (by omega);omega
  have b2:12*ag.au d+ag.ofM d<12*ag.au s+(ag.ofM s+(k+1)):=by
   by_cases q:12*ag.au d+ag.ofM d<12*ag.au s+(ag.ofM s+(k+1))
   ·exact q
   have:=G0 (y:=ag.au s) (m:=ag.ofM s+(k+1)) (y':=ag.au d) (m':=ag.ofM d) (by omega);omega
  omega
 rw[if_neg q2]at h0 G⊢;have ha:=nP d d0;have b1:=VT (show ag.num (ag.au s+k) 1 1<ag.num (ag.au d+1) 1 1 by omega);have b2:=VT (show ag.num (ag.au d) 1 1<ag.num (ag.au s+(k+1)) 1 1 by omega);omega
theorem Dy (pls:List Int)(len:Int):∀(i:Int) (l:List Int),(ny pls len i l).Sublist l
 |_,[]=>by simp[ny]
 |i,d::l=>by
  rw[ny];split
  ·exact(Dy pls len (i+1) l).cons_cons d
  exact(Dy pls len (i+1) l).cons d
theorem R7 (r:aE)(a:Int)(n:Nat):(dm r a n).Sublist (dx a n):=by
 unfold dm;split
 ·exact List.filter_sublist
 exact(Dy _ _ _ _).trans List.filter_sublist
theorem wu (a:Int):∀n:Nat,(dx a n).Pairwise (·<·):=by
 intro n;unfold dx;rw[ϛ];exact List.pairwise_lt_range.imp (λh=>by omega)
theorem yD:∀{l m:List Int},l.Sublist m->m.Pairwise (·<·)->l=m.filter λd=>l.contains d
 |_,_,.slnil,_=>rfl
 |l,x::m,.cons _ h,J=>by
  rw[ϙ]at J;have N:l.contains x=false:=by
   cases hc:l.contains x with
   |false=>rfl
   |true=>
    have:=J.1 x (h.subset (List.contains_iff_mem.1 hc));omega
  rw[Τ,if_neg (by rw[N];exact Bool.false_ne_true)];exact yD h J.2
 |x::l,_::m,.cons_cons _ h,J=>by
  rw[ϙ]at J;rw[Τ,if_pos (by simp)];congr 1;have e:=yD h J.2;rw[e];apply Ϝ;intro d hd;rw[<-e];have:d≠x:=λq=>by subst q;have:=J.1 d hd;omega
  cases hc:l.contains d with
  |true=>rw[Ϗ]at hc;exact(List.contains_iff_mem.2 (μ _ hc)).symm
  |false=>
   cases Bv:(x::l).contains d with
   |false=>rfl
   |true=>
    rw[Ϗ]at Bv;rcases List.mem_cons.1 Bv with G|G
    ·exact absurd G this
    rw[List.contains_iff_mem.2 G]at hc;cases hc
theorem JY (r:aE)(a:Int)(n:Nat):dm r a n=(dx a n).filter λd=>(dm r a n).contains d:=yD (R7 r a n) (wu a n)
def qG (r:aE)(s d:Int):Bool:=decide (cj r s d%r.iv=0)&&(dm r (bh r s (cj r s d)) (gP r s (cj r s d))).contains d
theorem uR (r:aE)(s:Int):∀(k:Int) (j:Nat),bh r s k+j*jq r<=bh r s (k+j)
 |k,0=>by simp
 |k,j+1=>by
  have G:=uR r s k j;have A:=FI r s (k+j);rw[show k+((j+1:Nat):Int)=k+j+1 by omega,Int.natCast_add,Int.add_mul];simp only[Int.natCast_one,Int.one_mul];omega
theorem skip_none (r:aE)(s:Int)(k:Int)(Y:k%r.iv=0)(hA:-10000<=bh r s k):∀j:Nat,(j:Int)<r.iv->(dx (bh r s (k+1)) (bh r s (k+1+j)-bh r s (k+1)).toNat).filter (qG r s)=[]
 |0,_=>by simp[dx]
 |j+1,hj=>by
  have ih:=skip_none r s k Y hA j (by omega);have u0:=uR r s k 1;have u1:=uR r s (k+1) j;have u2:=FI r s (k+1+j);have hE:=Dx r;have hjE:0<=(j:Int)*jq r:=Μ (by omega) (by omega);simp only[Int.natCast_one,Int.one_mul]at u0;rw[show k+1+((j+1:Nat):Int)=k+1+j+1 by omega];obtain⟨m,hm⟩:∃m:Nat,bh r s (k+1+j)=bh r s (k+1)+m:=⟨(bh r s (k+1+j)-bh r s (k+1)).toNat,by omega⟩;obtain⟨p,J⟩:∃p:Nat,bh r s (k+1+j+1)=bh r s (k+1+j)+p:=⟨(bh r s (k+1+j+1)-bh r s (k+1+j)).toNat,by omega⟩;rw[hm,show(bh r s (k+1)+(m:Int)-bh r s (k+1)).toNat=m by omega]at ih;rw[J,hm,show(bh r s (k+1)+(m:Int)+p-bh r s (k+1)).toNat=m+p by omega,qF,ν,ih,υ,Λ];intro d hd;have hd:=ke.1 hd;have e:=Qb r (s:=s) (d:=d) (k:=k+1+j) (by omega) (by omega) (by omega);unfold qG;rw[e];have:¬(k+1+j)%r.iv=0:=by
   intro hz;have G:(k+1+j-k)%r.iv=0:=by rw[Int.sub_emod,hz,Y];simp
   rw[show k+1+(j:Int)-k=1+j by omega]at G;rw[Int.emod_eq_of_lt (by omega) (by omega)]at G;omega
  simp[this]
theorem YG (r:aE)(s:Int)(k:Int)(Y:k%r.iv=0)(hA:-10000<=bh r s k):dm r (bh r s k) (gP r s k)=(dx (bh r s k) (gP r s k)).filter (qG r s):=by
 rw[JY];apply Ϝ;intro d hd;have hd:=ke.1 hd;have hN:(gP r s k:Int)=bh r s (k+1)-bh r s k:=by
  have:=FI r s k;have:=Dx r;unfold gP;rw[yC];omega
 have e:=Qb r (s:=s) (d:=d) (k:=k) (by omega) (by omega) (by omega);unfold qG;rw[e];simp[Y]
theorem Dz (r:aE)(s last:Int)(hi:1<=r.iv):∀(g:Nat) (k:Int),k%r.iv=0→-10000<=bh r s k->last<(bh r s k+g*jq r)*86400->∃m:Nat,sf r s last g k=(dx (bh r s k) m).filter (qG r s)/\last<(bh r s k+m)*86400
 |0,k,_,_,h=>⟨0,rfl,by simpa using h⟩
 |g+1,k,Y,hA,h=>by
  by_cases K:last<bh r s k*86400
  ·exact⟨0,by rw[PO _ _ _ _ _ K];rfl,by simpa using K⟩
  have A:=Dx r;obtain⟨i,hiv⟩:∃i:Nat,r.iv=1+i:=⟨(r.iv-1).toNat,by omega⟩;have u0:=FI r s k;have u1:=uR r s (k+1) i;have hiE:0<=(i:Int)*jq r:=Μ (by omega) (by omega);have ek:k+r.iv=k+1+i:=by omega
  have eg:((g+1:Nat):Int)*jq r=g*jq r+jq r:=by rw[Int.natCast_add,Int.add_mul];simp
  rw[eg]at h;obtain⟨m,e,hm⟩:=Dz r s last hi g (k+r.iv) (by rw[Int.add_emod,Y];simp) (by rw[ek];omega) (by rw[ek];omega);have sk:=skip_none r s k Y hA i (by omega);have hN:bh r s (k+1)=bh r s k+(gP r s k:Nat):=by unfold gP;rw[yC];omega
  obtain⟨p,J⟩:∃p:Nat,bh r s (k+1+i)=bh r s (k+1)+p:=⟨(bh r s (k+1+i)-bh r s (k+1)).toNat,by omega⟩;rw[J,show(bh r s (k+1)+(p:Int)-bh r s (k+1)).toNat=p by omega]at sk;refine⟨gP r s k+(p+m),?_,?_⟩
  ·rw[Ve _ _ _ _ _ K,YG r s k Y hA,e,qF,ν,<-hN,qF,ν,sk,υ,ek,J]
  rw[ek,J,hN]at hm;rw[Int.natCast_add,Int.natCast_add];omega
theorem YH (p:Int->Bool)(a s last:Int)(m aqv:Nat)(ha:a<=s)(hm:last<(a+m)*86400)(hN0:last<(s+aqv)*86400)(M6:0<aqv->(s+aqv-1)*86400<=last):
 ((((dx a m).filter p).filter λd=>decide (s<=d)).takeWhile λd=>decide (d*86400<=last))=(dx s aqv).filter p:=by
 by_cases hs:s<=a+m
 ·obtain⟨u,hu⟩:∃u:Nat,s=a+u:=⟨(s-a).toNat,by omega⟩;have U:s+aqv<=a+m:=by
   by_cases h0:0<aqv
   ·have:=M6 h0;omega
   omega
  obtain⟨v,hv⟩:∃v:Nat,m=u+(aqv+v):=⟨m-(u+aqv),by omega⟩;rw[hv,qF,qF,<-hu,ν,ν,ν,ν];have p1:((dx a u).filter p).filter (λd=>decide (s<=d))=[]:=by
   rw[Λ];intro d hd;have:=ke.1 (List.mem_filter.1 hd).1;simp;omega
  have p2:((dx s aqv).filter p).filter (λd=>decide (s<=d))=(dx s aqv).filter p:=by
   rw[List.filter_eq_self];intro d hd;have:=ke.1 (List.mem_filter.1 hd).1;simp;omega
  rw[p1,υ,p2,List.takeWhile_append_of_pos]
  ·have p3:∀L:List Int,(∀d∈L,¬d*86400<=last)->L.takeWhile (λd=>decide (d*86400<=last))=[]:=by
    intro L h;cases L with
    |nil=>rfl
    |cons d r=>rw[Α,if_neg (by simpa using h d (by simp))]
   rw[p3 _ (λd hd=>by
    have lR:=(List.mem_filter.1 hd).1;have:=ke.1 (List.mem_filter.1 lR).1;omega),Θ]
  intro d hd;have:=ke.1 (List.mem_filter.1 hd).1;simp only[decide_eq_true_eq];have:=M6 (by omega);omega
 have hN:aqv=0:=by
  by_cases h0:0<aqv
  ·have:=M6 h0;omega
  omega
 subst hN;have e:((dx a m).filter p).filter (λd=>decide (s<=d))=[]:=by
  rw[Λ];intro d hd;have:=ke.1 (List.mem_filter.1 hd).1;simp;omega
 rw[e];rfl
theorem YK (r:aE)(st last:Int)(aqv:Nat)(s0:0<=st)(hi:1<=r.iv)(hc:0<=r.ct)(hA:bh (aS r (st/86400)) (st/86400) 0<=st/86400)(xn:-10000<=bh (aS r (st/86400)) (st/86400) 0)(hg:last<(bh (aS r (st/86400)) (st/86400) 0+(dA r).toNat*jq r)*86400)(hN0:last<(st/86400+aqv)*86400)(M6:0<aqv->(st/86400+aqv-1)*86400<=last):
 lk r st 0 last=Jn r.ct ((dx (st/86400) aqv).filter (qG (aS r (st/86400)) (st/86400))):=by
 obtain⟨r',hr⟩:∃r',r'=aS r (st/86400):=⟨_,rfl⟩;have S:r'.iv=r.iv/\r'.fq=r.fq:=by
  rw[hr];unfold aS
  repeat' split
  all_goals exact⟨rfl,rfl⟩
 obtain⟨i1,i3⟩:=S;have e2:dA r'=dA r:=by unfold dA;rw[i3]
 have e3:jq r'=jq r:=by unfold jq;rw[i3]
 have e4:eZ r' st 0=0:=by unfold eZ;rw[if_pos (.inr s0)]
 unfold lk jc;rw[<-hr]at hA xn hg⊢;rw[e4,e2];obtain⟨m,em,hm⟩:=Dz r' (st/86400) last (by omega) (dA r).toNat 0 (by simp) xn (by rw[e3];exact hg);rw[em,AS st last r.ct s0 _ 0 (by omega) (by omega),YH (qG r' (st/86400)) _ _ _ m aqv hA hm hN0 M6];unfold Jn;split
 ·rfl
 rw[Int.sub_zero]
def ew (f:Nat->Option (List UInt8)):List Value:=(List.range 9).map λk=>Value.string ⟨((f k).getD []).toArray⟩
def rA:ByteArray:=⟨#[66,69,71,73,78,58,86,69,86,69,78,84,13,10,85,73,68,58]⟩
def rC:ByteArray:=⟨#[13,10]⟩
def rD:ByteArray:=⟨#[68,84,83,84,65,82,84,58]⟩
def rU:ByteArray:=⟨#[68,85,82,65,84,73,79,78,58,80,84]⟩
def rS:ByteArray:=⟨#[83]⟩
def c2 (aqu:ByteArray):ByteArray:=rA++aqu
def c3 (aqu:ByteArray):ByteArray:=c2 aqu++rC
def c4 (aqu:ByteArray):ByteArray:=c3 aqu++rD
def c6 (aqu T:ByteArray):ByteArray:=c4 aqu++T
def c7 (aqu T:ByteArray):ByteArray:=c6 aqu T++rC
def c8 (aqu T:ByteArray):ByteArray:=c7 aqu T++rU
def c12 (aqu T D:ByteArray):ByteArray:=c8 aqu T++D
def c13 (aqu T D:ByteArray):ByteArray:=c12 aqu T D++rS
def c14 (aqu T D:ByteArray):ByteArray:=c13 aqu T D++rC
theorem s2 (aqu:ByteArray):(c2 aqu).size=aqu.size+18:=by
 unfold c2;rw[ξ];have:rA.size=18:=rfl;omega
theorem s3 (aqu:ByteArray):(c3 aqu).size=aqu.size+20:=by
 unfold c3;rw[ξ,s2];have:rC.size=2:=rfl;omega
theorem s4 (aqu:ByteArray):(c4 aqu).size=aqu.size+28:=by
 unfold c4;rw[ξ,s3];have:rD.size=8:=rfl;omega
theorem s6 (aqu T:ByteArray):(c6 aqu T).size=aqu.size+T.size+28:=by
 unfold c6;rw[ξ,s4];omega
theorem s7 (aqu T:ByteArray):(c7 aqu T).size=aqu.size+T.size+30:=by
 unfold c7;rw[ξ,s6];have:rC.size=2:=rfl;omega
theorem s8 (aqu T:ByteArray):(c8 aqu T).size=aqu.size+T.size+41:=by
 unfold c8;rw[ξ,s7];have:rU.size=11:=rfl;omega
theorem Zh (aqu T D:ByteArray):(c12 aqu T D).size=aqu.size+T.size+D.size+41:=by
 unfold c12;rw[ξ,s8];omega
theorem Zi (aqu T D:ByteArray):(c13 aqu T D).size=aqu.size+T.size+D.size+42:=by
 unfold c13;rw[ξ,Zh];have:rS.size=1:=rfl;omega
theorem s14 (aqu T D:ByteArray):(c14 aqu T D).size=aqu.size+T.size+D.size+44:=by
 unfold c14;rw[ξ,Zi];have:rC.size=2:=rfl;omega
theorem c5 {w:τ}{g:Nat}{x0 x1 x2 x3 x4:Value}{T:TypeId}(h:X w g [x0,x1,x2,x3,x4] T):
 w.cell? ⟨g,0,none⟩=some x0/\w.cell? ⟨g,1,none⟩=some x1/\w.cell? ⟨g,2,none⟩=some x2/\w.cell? ⟨g,3,none⟩=some x3/\w.cell? ⟨g,4,none⟩=some x4:=
 ⟨h.cell rfl,h.cell rfl,h.cell rfl,h.cell rfl,h.cell rfl⟩
theorem YL (n ws:Int):eu n ws=((n+3)%7-ws)%7:=by unfold eu;omega
theorem FJ (r:aE)(hf:0<=r.fq/\r.fq<=3){s d:Int}(hd:-10000<=d):bh r s (cj r s d)<=d/\d<bh r s (cj r s d+1):=by
 unfold bh cj;have hq:r.fq=0\/r.fq=1\/r.fq=2\/r.fq=3:=by omega
 rcases hq with h|h|h|h
 ·simp only[h,if_true];omega
 ·simp only[h,if_true,show¬((1:Int)=0) by omega,if_false];simp only[YL];omega
 ·simp only[h,if_true,show¬((2:Int)=0) by omega,show¬((2:Int)=1) by omega,if_false];have ha:=jm d hd;rw[se (y:=ag.au s) (m:=ag.ofM s+((ag.au d-ag.au s)*12+ag.ofM d-ag.ofM s)) (y':=ag.au d) (m':=ag.ofM d) (by omega),se (y:=ag.au s) (m:=ag.ofM s+((ag.au d-ag.au s)*12+ag.ofM d-ag.ofM s+1)) (y':=ag.au d) (m':=ag.ofM d+1) (by omega)];omega
 simp only[h,show¬((3:Int)=0) by omega,show¬((3:Int)=1) by omega,show¬((3:Int)=2) by omega,if_false];have ha:=nP d hd;rw[show ag.au s+(ag.au d-ag.au s)=ag.au d by omega,show ag.au s+(ag.au d-ag.au s+1)=ag.au d+1 by omega];omega
theorem FK (r:aE)(s:Int):(aS r s).fq=r.fq/\(aS r s).iv=r.iv/\(aS r s).ws=r.ws/\(aS r s).pls=r.pls:=by
 unfold aS
 repeat' split
 all_goals exact⟨rfl,rfl,rfl,rfl⟩
theorem FL (t:Int):∀ls:List Int,fL ls->fL (gD t (ls.dropWhile λx=>decide (x<t)))/\(∀x∈gD t (ls.dropWhile λx=>decide (x<t)),t<x/\x∈ls)/\(∀x∈ls.takeWhile (λx=>decide (x<t)),x<t/\x∈ls)/\fL (ls.takeWhile λx=>decide (x<t))/\∀x∈ls,x∈ls.takeWhile (λx=>decide (x<t))\/x=t\/x∈gD t (ls.dropWhile λx=>decide (x<t))
 |[],_=>by simp[gD,fL]
 |a::r,h=>by
  obtain⟨ha,hr⟩:=List.pairwise_cons.1 h;by_cases q:a<t
  ·obtain⟨i1,i2,i3,i4,i5⟩:=FL t r hr;rw[List.dropWhile_cons,if_pos (by simpa using q),Α,if_pos (by simpa using q)];refine⟨i1,λx N=>⟨(i2 x N).1,μ _ (i2 x N).2⟩,λx N=>?_,?_,λx N=>?_⟩
   ·rcases List.mem_cons.1 N with rfl|N
    ·exact⟨q,by simp⟩
    exact⟨(i3 x N).1,μ _ (i3 x N).2⟩
   ·exact List.pairwise_cons.2 ⟨λx N=>ha x (i3 x N).2,i4⟩
   rcases List.mem_cons.1 N with rfl|N
   ·exact .inl (by simp)
   rcases i5 x N with G|G|G
   ·exact .inl (μ _ G)
   ·exact .inr (.inl G)
   exact .inr (.inr G)
  rw[List.dropWhile_cons,if_neg (by simpa using q),Α,if_neg (by simpa using q),gD];by_cases e:a=t
  ·subst e;rw[if_pos rfl];refine⟨hr,λx N=>⟨ha x N,μ _ N⟩,by simp,by simp[fL],λx N=>?_⟩;rcases List.mem_cons.1 N with rfl|N
   ·exact .inr (.inl rfl)
   exact .inr (.inr N)
  rw[if_neg e];refine⟨h,λx N=>?_,by simp,by simp[fL],λx N=>.inr (.inr N)⟩;rcases List.mem_cons.1 N with rfl|dY
  ·exact⟨by omega,N⟩
  have:=ha x dY;exact⟨by omega,N⟩
theorem Jo:∀ts ls:List Int,fL ts->fL ls->fL (ji ts ls)/\∀x,x∈ji ts ls↔x∈ts\/x∈ls
 |[],ls,_,h=>by rw[ji];exact⟨h,by simp⟩
 |t::ts,ls,G,A=>by
  obtain⟨ha,hr⟩:=List.pairwise_cons.1 G;obtain⟨i1,i2,i3,i4,i5⟩:=FL t ls A;obtain⟨j1,j2⟩:=Jo ts (gD t (ls.dropWhile λx=>decide (x<t))) hr i1;rw[ji];have Iu:∀x∈ji ts (gD t (ls.dropWhile λx=>decide (x<t))),t<x:=λx N=>by
   rcases(j2 x).1 N with h|h
   ·exact ha x h
   exact(i2 x h).1
  refine⟨?_,λx=>?_⟩
  ·unfold fL;rw[List.pairwise_append];refine⟨i4,List.pairwise_cons.2 ⟨Iu,j1⟩,λx N y hy=>?_⟩;have:=(i3 x N).1;rcases List.mem_cons.1 hy with rfl|hy
   ·exact this
   have:=Iu y hy;omega
  rw[Φ,Δ,Δ,j2];constructor
  ·rintro(h|h|h|h)
   ·exact .inr (i3 x h).2
   ·exact .inl (.inl h)
   ·exact .inl (.inr h)
   exact .inr (i2 x h).2
  rintro((h|h)|h)
  ·exact .inr (.inl h)
  ·exact .inr (.inr (.inl h))
  rcases i5 x h with q|q|q
  ·exact .inl q
  ·exact .inr (.inl q)
  exact .inr (.inr (.inr q))
theorem YM {L:List Int}(h:fL L)(st:Int)(ex:List Int):fL (vn st ex L):=by
 unfold vn fL;refine ρ _ ?_;rw[ϛ];exact h.imp (λq=>by omega)
theorem ack {L:List Int}(h:fL L)(ct:Int):fL (Jn ct L):=by
 unfold Jn;split
 ·exact h
 exact List.Pairwise.sublist (List.take_sublist _ _) h
theorem VU (r:aE)(s:Int):cj r s s=0:=by
 have:=qA s r.ws;unfold cj;by_cases h0:r.fq=0
 ·rw[if_pos h0];omega
 rw[if_neg h0];by_cases G:r.fq=1
 ·rw[if_pos G];omega
 rw[if_neg G];by_cases A:r.fq=2
 ·rw[if_pos A];omega
 rw[if_neg A];omega
theorem YN (r:aE)(s k:Int):bh r s (k+1)<=bh r s k+366:=by
 rw[<-yC];unfold bh iU;by_cases h0:r.fq=0
 ·rw[if_pos h0,if_pos h0];omega
 rw[if_neg h0,if_neg h0];by_cases G:r.fq=1
 ·rw[if_pos G,if_pos G];omega
 rw[if_neg G,if_neg G];by_cases A:r.fq=2
 ·rw[if_pos A,if_pos A];have:=vD (ag.au s) (ag.ofM s+k);omega
 rw[if_neg A,if_neg A];have:=ag.tF (ag.au s+k);have:=ag.Qs (ag.au s+k);omega
theorem Qc (r:aE)(hf:0<=r.fq/\r.fq<=3){s:Int}(hs:0<=s):bh r s 0<=s/\s-366<=bh r s 0:=by
 have h:=FJ r hf (s:=s) (d:=s) (by omega);rw[VU r]at h;have:=YN r s 0;omega
theorem Qd (r:aE)(hf:0<=r.fq/\r.fq<=3):160000<=((dA r).toNat:Int)*jq r:=by
 have:r.fq=0\/r.fq=1\/r.fq=2\/r.fq=3:=by omega
 unfold dA jq;rcases this with h|h|h|h<;>rw[h]<;>decide
theorem M7 (r:aE)(hf:0<=r.fq/\r.fq<=3)(s:Int):0<=(aS r s).fq/\(aS r s).fq<=3:=by rw[(FK r s).1];exact hf
theorem DB (r:aE)(hf:0<=r.fq/\r.fq<=3)(st last:Int)(aqv:Nat)(s0:0<=st)(hi:1<=r.iv)(hc:0<=r.ct)(K:last<7300000000)(hN0:last<(st/86400+aqv)*86400)(M6:0<aqv->(st/86400+aqv-1)*86400<=last):
 lk r st 0 last=Jn r.ct ((dx (st/86400) aqv).filter (qG (aS r (st/86400)) (st/86400))):=by
 have U:=Qc (aS r (st/86400)) (M7 r hf _) (s:=st/86400) (by omega);have Y:=Qd r hf;exact YK r st last aqv s0 hi hc U.1 (by omega) (by omega) hN0 M6
theorem M8 (s last:Int)(k:Nat)(Y:∀j:Nat,j<k->(s+j)*86400<=last):∃m:Nat,last<(s+((k+m:Nat):Int))*86400/\(0<k+m->(s+((k+m:Nat):Int)-1)*86400<=last):=by
 by_cases h:(s+k)*86400<=last
 ·exact⟨(last/86400-s-k+1).toNat,by omega,λ_=>by omega⟩
 refine⟨0,by omega,λh0=>?_⟩;have:=Y (k-1) (by omega);omega
theorem acm (r:aE)(hf:0<=r.fq/\r.fq<=3)(st last:Int)(s0:0<=st)(hi:1<=r.iv)(hc:0<=r.ct)(K:last<7300000000):fL (lk r st 0 last):=by
 obtain⟨m,m0,m1⟩:=M8 (st/86400) last 0 (λj hj=>by omega);rw[DB r hf st last (0+m) s0 hi hc K m0 m1];exact ack (ρ _ (wu _ _)) _
theorem vI (s f last ct:Int)(s0:0<=s):∀(l:List Int) (c:Int),iV s f last ct c l=(iV s 0 last ct c l).filter λd=>decide (f-s%86400<=d*86400)
 |[],c=>by simp[iV]
 |d::l,c=>by
  rw[iV,iV];by_cases G:d*86400<s-s%86400
  ·rw[if_pos G,if_pos G];exact vI s f last ct s0 l c
  rw[if_neg G,if_neg G];by_cases A:last<d*86400
  ·rw[if_pos A,if_pos A];rfl
  rw[if_neg A,if_neg A,if_pos (show 0-s%86400<=d*86400 by omega)];by_cases M:c+1=ct
  ·rw[if_pos M,if_pos M,Θ,Θ];by_cases h4:f-s%86400<=d*86400
   ·rw[if_pos h4];simp[h4]
   rw[if_neg h4];simp[h4]
  rw[if_neg M,if_neg M,vI s f last ct s0 l (c+1)];by_cases h4:f-s%86400<=d*86400
  ·rw[if_pos h4];simp[h4]
  rw[if_neg h4];simp[h4]
theorem YO {l:List Int}{last:Int}(h:fL l)(x:Int):x∈l.takeWhile (λd=>decide (d*86400<=last))↔x∈l/\x*86400<=last:=by
 induction l with
 |nil=>simp
 |cons a l ih=>
  obtain⟨ha,K⟩:=List.pairwise_cons.1 h;rw[Α];by_cases G:a*86400<=last
  ·rw[if_pos (by simpa using G),Δ,Δ,ih K];constructor
   ·rintro(rfl|h)
    ·exact⟨.inl rfl,G⟩
    exact⟨.inr h.1,h.2⟩
   rintro⟨rfl|h,h'⟩
   ·exact .inl rfl
   exact .inr ⟨h,h'⟩
  rw[if_neg (by simpa using G)];constructor
  ·intro h;simp at h
  rintro⟨A,M⟩;rw[Δ]at A;rcases A with rfl|A
  ·exact absurd M G
  have:=ha x A;omega
theorem M9 (r:aE)(hf:0<=r.fq/\r.fq<=3)(st f last:Int)(s0:0<=st)(hi:1<=r.iv)(hc:r.ct=0)(K:last<7300000000):
 fL (lk r st f last)/\∀d,d∈lk r st f last↔qG (aS r (st/86400)) (st/86400) d=true/\st/86400<=d/\d*86400<=last/\f-st%86400<=d*86400:=by
 obtain⟨r',hr⟩:∃r',r'=aS r (st/86400):=⟨_,rfl⟩;have MA:=M7 r hf (st/86400);have Tx:=FK r (st/86400);rw[<-hr]at MA Tx;have U:=Qc r' MA (s:=st/86400) (by omega);have wH:=Qd r' MA;have i3:r'.iv=r.iv:=Tx.2.1;have e2:dA r'=dA r:=by unfold dA;rw[Tx.1]
 have hct:r'.ct=r.ct:=by
  rw[hr];unfold aS
  repeat' split
  all_goals rfl
 obtain⟨k,Y,k0,km,kd⟩:∃k:Int,eZ r' st f=k/\0<=k/\k%r'.iv=0/\(∀d,st/86400<=d->f-st%86400<=d*86400->bh r' (st/86400) k<=d):=by
  refine⟨_,rfl,?_⟩;unfold eZ;by_cases G:0<r'.ct\/f<=st
  ·rw[if_pos G];exact⟨by omega,by simp,λd h _=>by omega⟩
  rw[if_neg G];have A:st/86400<=f/86400:=by omega
  have pa:=FJ r' MA (s:=st/86400) (d:=f/86400) (by omega);have KP:0<=cj r' (st/86400) (f/86400):=by
   by_cases hn:0<=cj r' (st/86400) (f/86400)
   ·exact hn
   have M:=uR r' (st/86400) (cj r' (st/86400) (f/86400)+1) (-(cj r' (st/86400) (f/86400)+1)).toNat;have e0:cj r' (st/86400) (f/86400)+1+((-(cj r' (st/86400) (f/86400)+1)).toNat:Int)=0:=by omega
   have:0<=((-(cj r' (st/86400) (f/86400)+1)).toNat:Int)*jq r':=Μ (by omega) (by unfold jq;split<;>(try split)<;>(try split)<;>omega);rw[e0]at M;omega
  obtain⟨D,hD⟩:∃D,cj r' (st/86400) (f/86400)=D:=⟨_,rfl⟩;rw[hD]at pa KP⊢;have kM:0<=D%r'.iv:=ύ _ (by omega);have lR:D%r'.iv<=D:=by
   have:=Int.emod_add_mul_ediv D r'.iv;have h4:0<=r'.iv*(D/r'.iv):=Μ (by omega) (Int.ediv_nonneg KP (by omega));omega
  refine⟨by omega,?_,λd h h'=>?_⟩
  ·rw[Int.sub_emod,Int.emod_emod_of_dvd _ (Int.dvd_refl _),Int.sub_self,Int.zero_emod]
  have h5:=uR r' (st/86400) (D-D%r'.iv) (D%r'.iv).toNat;have e5:D-D%r'.iv+((D%r'.iv).toNat:Int)=D:=by omega
  have:0<=((D%r'.iv).toNat:Int)*jq r':=Μ (by omega) (by unfold jq;split<;>(try split)<;>(try split)<;>omega);rw[e5]at h5;omega
 have hA:bh r' (st/86400) 0<=bh r' (st/86400) k:=by
  have M:=uR r' (st/86400) 0 k.toNat;have e0:0+(k.toNat:Int)=k:=by omega
  have:0<=(k.toNat:Int)*jq r':=Μ (by omega) (by unfold jq;split<;>(try split)<;>(try split)<;>omega);rw[e0]at M;omega
 obtain⟨m,em,hm⟩:=Dz r' (st/86400) last (by omega) (dA r').toNat k km (by omega) (by omega);have hI:fL ((dx (bh r' (st/86400) k) m).filter (qG r' (st/86400))):=ρ _ (wu _ _);have e9:lk r st f last=(((((dx (bh r' (st/86400) k) m).filter (qG r' (st/86400))).filter λd=>decide (st/86400<=d)).takeWhile λd=>decide (d*86400<=last)).filter λd=>decide (f-st%86400<=d*86400)):=by
  unfold lk jc;rw[<-hr,Y,em,vI st f last r.ct s0,AS st last r.ct s0 _ 0 (by omega) (.inl hc),if_pos hc];rfl
 rw[e9];refine⟨ρ _ ((ρ _ hI).sublist (List.takeWhile_sublist _)),λd=>?_⟩;rw[Η,YO (ρ _ hI),Η,Η,ke];simp only[decide_eq_true_eq,<-hr];constructor
 ·rintro⟨⟨⟨⟨_,A⟩,M⟩,h4⟩,h5⟩;exact⟨A,M,h4,h5⟩
 rintro⟨A,M,h4,h5⟩;have:=kd d M h5;exact⟨⟨⟨⟨⟨this,by omega⟩,A⟩,M⟩,h4⟩,h5⟩
def Na (r:aE)(st:Int):List Int:=lk r st 0 7299999999
theorem acn {aqt B:List Int}{ct last x:Int}(hA:∀d∈aqt,d*86400<=last)(hB:∀d∈B,last<d*86400):x∈Jn ct (aqt++B)/\x*86400<=last↔x∈Jn ct aqt:=by
 unfold Jn;split
 ·rw[Φ];exact⟨λ⟨h,h'⟩=>h.elim id λh=>by have:=hB x h;omega,λh=>⟨.inl h,hA x h⟩⟩
 rw[List.take_append,Φ];exact⟨λ⟨h,h'⟩=>h.elim id λh=>by have:=hB x (ϗ h);omega,λh=>⟨.inl h,hA x (ϗ h)⟩⟩
theorem A8 (r:aE)(ho:ei r)(st f last:Int)(s0:0<=st)(K:last<7300000000):
 fL (lk r st f last)/\∀d,d∈lk r st f last↔d∈Na r st/\d*86400<=last/\f-st%86400<=d*86400:=by
 have hf:0<=r.fq/\r.fq<=3:=⟨ho.UY,ho.UZ⟩;by_cases hc:r.ct=0
 ·obtain⟨G,A⟩:=M9 r hf st f last s0 ho.Fo hc K;obtain⟨M,h4⟩:=M9 r hf st 0 7299999999 s0 ho.Fo hc (by omega);refine⟨G,λd=>?_⟩;unfold Na;rw[A,h4];constructor
  ·rintro⟨a,b,c,e⟩;exact⟨⟨a,b,by omega,by omega⟩,c,e⟩
  rintro⟨⟨a,b,_,_⟩,c,e⟩;exact⟨a,b,c,e⟩
 have S:lk r st f last=(lk r st 0 last).filter λd=>decide (f-st%86400<=d*86400):=by
  have hct:(aS r (st/86400)).ct=r.ct:=by
   unfold aS
   repeat' split
   all_goals rfl
  have J:0<r.ct:=by have:=ho.PH;omega
  have e4:eZ (aS r (st/86400)) st f=0:=by unfold eZ;rw[if_pos (.inl (by omega))]
  have e5:eZ (aS r (st/86400)) st 0=0:=by unfold eZ;rw[if_pos (.inl (by omega))]
  unfold lk jc;rw[e4,e5];exact vI st f last r.ct s0 _ 0
 have hi:=acm r hf st last s0 ho.Fo ho.PH K;rw[S];refine⟨ρ _ hi,λd=>?_⟩;rw[Η];unfold Na;obtain⟨m,m0,m1⟩:=M8 (st/86400) last 0 (λj hj=>by omega);rw[ϋ]at m0 m1;obtain⟨n,n0,n1⟩:=M8 (st/86400) 7299999999 m (λj hj=>by have:=m1 (by omega);omega);rw[DB r hf st last m s0 ho.Fo ho.PH K m0 m1,DB r hf st 7299999999 (m+n) s0 ho.Fo ho.PH (by omega) n0 n1,qF,ν];have hA:∀d∈(dx (st/86400) m).filter (qG (aS r (st/86400)) (st/86400)),d*86400<=last:=λd hd=>by
  have:=ke.1 (List.mem_filter.1 hd).1;have:=m1 (by omega);omega
 have hB:∀d∈(dx (st/86400+m) n).filter (qG (aS r (st/86400)) (st/86400)),last<d*86400:=λd hd=>by
  have:=ke.1 (List.mem_filter.1 hd).1;omega
 rw[<-acn (ct:=r.ct) (x:=d) hA hB,decide_eq_true_eq,and_assoc]
def isT (hr:Bool)(r:aE)(st:Int)(ex xt:List Int)(x:Int):Prop:=
 x∉ex/\((hr=true/\(∃d∈Na r st,x=d*86400+st%86400)/\x<=r.un)\/(hr=false/\x=st)\/(x∈xt/\st<=x))
theorem OO (hr:Bool)(r:aE)(st f to:Int)(ex xt:List Int)(ho:hr=true->ei r)(s0:0<=st)(t1:to<=7258118400)(N:fL xt):
 fL (fb hr r st f to ex xt)/\∀x,x∈fb hr r st f to ex xt↔isT hr r st ex xt x/\f<=x/\x<to:=by
 have tH:fL (uv hr r st f to)/\∀d,d∈uv hr r st f to↔((hr=true/\d∈Na r st/\d*86400+st%86400<=r.un)\/(hr=false/\d=st/86400))/\f<=d*86400+st%86400/\d*86400+st%86400<to:=by
  unfold uv;cases hr with
  |true=>
   obtain⟨G,A⟩:=A8 r (ho rfl) st f (iK r.un st to) s0 (by unfold iK;omega);refine⟨by simpa using G,λd=>?_⟩;rw[if_pos rfl,A];unfold iK;constructor
   ·rintro⟨a,b,c⟩;exact⟨.inl ⟨rfl,a,by omega⟩,by omega,by omega⟩
   rintro⟨⟨_,a,b⟩|⟨h,_⟩,c,e⟩
   ·exact⟨a,by omega,by omega⟩
   cases h
  |false=>
   have es:st/86400*86400+st%86400=st:=by omega
   simp only[Ξ,if_false,false_and,false_or,true_and];by_cases h:f<=st/\st<to
   ·rw[if_pos h];refine⟨by simp[fL],λd=>?_⟩;rw[List.mem_singleton];exact⟨λe=>by subst e;exact⟨rfl,by omega,by omega⟩,λe=>e.1⟩
   rw[if_neg h];refine⟨by simp[fL],λd=>?_⟩;constructor
   ·intro h;simp at h
   rintro⟨rfl,a,b⟩;omega
 have U:=YM tH.1 st ex;have hxb:fL (iz st f to ex xt):=by unfold iz;exact ρ _ N
 obtain⟨g1,g2⟩:=Jo (sO hr r st f to ex) (iz st f to ex xt) U hxb;refine⟨g1,λx=>?_⟩;unfold fb;rw[g2];unfold sO vn iz isT;rw[Η,Ϡ,Η];simp only[Υ,decide_eq_true_eq,Bool.not_eq_true',List.contains_eq_mem,decide_eq_false_iff_not];constructor
 ·rintro(⟨⟨d,G,rfl⟩,A⟩|⟨G,⟨A,M⟩,h4⟩)
  ·obtain⟨M,h4,h5⟩:=(tH.2 d).1 G;refine⟨⟨A,?_⟩,h4,h5⟩;rcases M with⟨a,b,c⟩|⟨a,b⟩
   ·exact .inl ⟨a,⟨d,b,rfl⟩,c⟩
   exact .inr (.inl ⟨a,by omega⟩)
  exact⟨⟨h4,.inr (.inr ⟨G,by omega⟩)⟩,by omega,by omega⟩
 rintro⟨⟨G,A⟩,M,h4⟩;rcases A with⟨a,⟨d,b,rfl⟩,c⟩|⟨a,rfl⟩|⟨a,b⟩
 ·exact .inl ⟨⟨d,(tH.2 d).2 ⟨.inl ⟨a,b,c⟩,M,h4⟩,rfl⟩,G⟩
 ·refine .inl ⟨⟨x/86400,(tH.2 _).2 ⟨.inr ⟨a,rfl⟩,by omega,by omega⟩,by omega⟩,G⟩
 exact .inr ⟨a,⟨by omega,by omega⟩,G⟩
def nt (aqy:Int->Int)(t:Int):Int->List (Int×Int×Int)->Prop
 |p,[]=>∀s,p<=s->s<t->aqy s=0
 |p,(b,e,k)::L=>p<=b/\b<e/\e<=t/\k≠0/\(∀s,p<=s->s<b->aqy s=0)/\(∀s,b<=s->s<e->aqy s=k)/\(e=t\/aqy e≠k)/\nt aqy t e L
theorem nt.skip {aqy:Int->Int}{t:Int}{p q:Int}{L:List (Int×Int×Int)}(h:nt aqy t q L)(hpq:p<=q)(h0:∀s,p<=s->s<q->aqy s=0):nt aqy t p L:=by
 cases L with
 |nil=>
  intro s G A;by_cases M:s<q
  ·exact h0 s G M
  exact h s (by omega) A
 |cons x L=>
  obtain⟨b,e,k⟩:=x;obtain⟨a1,a2,a3,a4,a5,a6⟩:=h;exact⟨by omega,a2,a3,a4,λs G A=>if M:s<q then h0 s G M else a5 s (by omega) A,a6⟩
theorem nt.uniq {aqy K':Int->Int}{t:Int}:∀{p:Int} {L L':List (Int×Int×Int)},(∀s,p<=s->s<t->aqy s=K' s)->nt aqy t p L->nt K' t p L'->L=L'
 |p,[],[],_,_,_=>rfl
 |p,[],(b,e,k)::L',hK,h,⟨a1,a2,a3,a4,_,a6,_⟩=>by
  have G:=h b a1 (by omega);rw[hK b a1 (by omega),a6 b (Ζ _) a2]at G;exact absurd G a4
 |p,(b,e,k)::L,[],hK,⟨a1,a2,a3,a4,_,a6,_⟩,h=>by
  have G:=h b a1 (by omega);rw[<-hK b a1 (by omega),a6 b (Ζ _) a2]at G;exact absurd G a4
 |p,(b,e,k)::L,(b',e',k')::L',hK,⟨a1,a2,a3,a4,a5,a6,a7,a8⟩,⟨c1,c2,c3,c4,c5,c6,c7,c8⟩=>by
  have U:b=b':=by
   rcases Int.lt_trichotomy b b' with h|h|h
   ·have:=c5 b a1 h;rw[<-hK b a1 (by omega),a6 b (Ζ _) a2]at this;exact absurd this a4
   ·exact h
   have:=a5 b' c1 h;rw[hK b' c1 (by omega),c6 b' (Ζ _) c2]at this;exact absurd this c4
  subst U;have Y:k=k':=by
   have G:=a6 b (Ζ _) a2;rw[hK b a1 (by omega),c6 b (Ζ _) c2]at G;exact G.symm
  subst Y;have he:e=e':=by
   rcases Int.lt_trichotomy e e' with h|h|h
   ·rcases a7 with h'|h'
    ·omega
    rw[hK e (by omega) (by omega)]at h';exact absurd (c6 e (by omega) h) h'
   ·exact h
   rcases c7 with h'|h'
   ·omega
   rw[<-hK e' (by omega) (by omega)]at h';exact absurd (a6 e' (by omega) h) h'
  subst he;rw[nt.uniq (λs G A=>hK s (by omega) A) a8 c8]
structure eC where
 t:Int
 k:Int
 m:Int
def eO (k:Int):List eC->Int
 |[]=>0
 |e::r=>(if e.k=k then e.m else 0)+eO k r
theorem Nb (k:Int)(x y:List eC):eO k (x++y)=eO k x+eO k y:=by
 induction x with
 |nil=>simp[eO]
 |cons a x ih=>simp only[π,eO,ih];omega
theorem vJ {k:Int}{x y:List eC}(h:x.Perm y):eO k x=eO k y:=by
 induction h with
 |nil=>rfl
 |cons a _ ih=>simp only[eO,ih]
 |swap a b l=>simp only[eO];omega
 |trans _ _ G A=>exact G.trans A
def mT (s:Int)(l:List eC):List eC:=l.filter λe=>decide (e.t<=s)
def gM (c1 c2:Int):Int:=if 0<c2 then 2 else if 0<c1 then 1 else 0
def xJ (t:Int):List eC->Bool
 |[]=>false
 |e::_=>decide (e.t=t)
def fU (c1 c2 bg kd:Int):List eC->List (Int×Int×Int)
 |[]=>[]
 |e::r=>
  if xJ e.t r=true\/gM (c1+if e.k=1 then e.m else 0) (c2+if e.k=2 then e.m else 0)=kd then fU (c1+if e.k=1 then e.m else 0) (c2+if e.k=2 then e.m else 0) bg kd r
  else(if kd=0 then[]else[(bg,e.t,kd)])++fU (c1+if e.k=1 then e.m else 0) (c2+if e.k=2 then e.m else 0) e.t (gM (c1+if e.k=1 then e.m else 0) (c2+if e.k=2 then e.m else 0)) r
theorem N3 {s:Int}{e:eC}{r:List eC}(h:e.t<=s):mT s (e::r)=e::mT s r:=by unfold mT;rw[Γ (by simpa using h)]
theorem Qe {s:Int}{r:List eC}(h:∀x∈r,s<x.t):mT s r=[]:=by
 unfold mT;rw[Λ];intro x N;have:=h x N;simp;omega
theorem vK (T:Int)(aqy:Int->Int):∀(es:List eC) (c1 c2 bg kd:Int),es.Pairwise (λx y=>x.t<=y.t)->(∀e∈es,bg<=e.t/\e.t<=T)->(kd≠0->∀e∈es,bg<e.t)->(es=[]->kd=0)->
 gM (c1+eO 1 es) (c2+eO 2 es)=0->(∀s,bg<=s->s<T->(∀e∈es,s<e.t)->aqy s=kd)->(∀s,bg<=s->s<T->(∃e∈es,e.t<=s)->aqy s=gM (c1+eO 1 (mT s es)) (c2+eO 2 (mT s es)))->
 nt aqy T bg (fU c1 c2 bg kd es)
 |[],c1,c2,bg,kd,_,_,_,h0,_,G,_=>λs a b=>by rw[G s a b (by simp)];exact h0 rfl
 |e::r,c1,c2,bg,kd,hs,U,Y,_,hz,G,A=>by
  obtain⟨s1,s2⟩:=List.pairwise_cons.1 hs;have Ip:=U e (by simp);have jx:∀x∈r,bg<=x.t/\x.t<=T:=λx N=>U x (μ _ N);have Ho:gM ((c1+if e.k=1 then e.m else 0)+eO 1 r) ((c2+if e.k=2 then e.m else 0)+eO 2 r)=0:=by rw[eO,eO]at hz;rwa [Ν,Ν]
  have hG:∀s,e.t<=s->bg<=s->s<T->aqy s=gM ((c1+if e.k=1 then e.m else 0)+eO 1 (mT s r)) ((c2+if e.k=2 then e.m else 0)+eO 2 (mT s r)):=by
   intro s a b c;rw[A s b c ⟨e,by simp,a⟩,N3 a,eO,eO,Ν,Ν]
  rw[fU];generalize(c1+if e.k=1 then e.m else 0)=d1 at *
  generalize(c2+if e.k=2 then e.m else 0)=d2 at *
  by_cases iI:xJ e.t r=true
  case pos=>
   rw[if_pos (.inl iI)];cases r with
   |nil=>cases iI
   |cons x r'=>
    have N:x.t=e.t:=by simpa[xJ]using iI
    refine vK T aqy (x::r') d1 d2 bg kd s2 jx (λa y hy=>Y a y (μ _ hy)) (λh=>by cases h) Ho (λs a b c=>?_) (λs a b c=>?_)
    ·refine G s a b λy hy=>?_;rcases List.mem_cons.1 hy with rfl|hy
     ·have:=c x (by simp);omega
     exact c y hy
    refine hG s ?_ a b;obtain⟨y,hy,hy'⟩:=c;have:=s1 y hy;omega
  case neg=>
   have jW:∀x∈r,e.t<x.t:=by
    cases r with
    |nil=>simp
    |cons x r'=>
     have N:x.t≠e.t:=λh=>iI (by simpa[xJ]using h);have bN:=s1 x (by simp);obtain⟨s3,_⟩:=List.pairwise_cons.1 s2;intro y hy;rcases List.mem_cons.1 hy with rfl|hy
     ·omega
     have:=s3 y hy;omega
   have YQ:∀s,e.t<=s->bg<=s->s<T->(∀x∈r,s<x.t)->aqy s=gM d1 d2:=by
    intro s a b c d;rw[hG s a b c,Qe d];simp[eO]
   have afO:r=[]->gM d1 d2=0:=by
    rintro rfl;simpa[eO]using Ho
   by_cases VV:gM d1 d2=kd
   case pos=>
    rw[if_pos (.inr VV)];refine vK T aqy r d1 d2 bg kd s2 jx (λa y hy=>Y a y (μ _ hy)) (λh=>by rw[<-VV];exact afO h) Ho (λs a b c=>?_) (λs a b c=>?_)
    ·by_cases h:e.t<=s
     ·rw[YQ s h a b c,VV]
     refine G s a b λy hy=>?_;rcases List.mem_cons.1 hy with rfl|hy
     ·omega
     exact c y hy
    refine hG s ?_ a b;obtain⟨y,hy,hy'⟩:=c;have:=s1 y hy;omega
   case neg=>
    rw[if_neg (λh=>h.elim iI VV)];have ih:nt aqy T e.t (fU d1 d2 e.t (gM d1 d2) r):=by
     refine vK T aqy r d1 d2 e.t (gM d1 d2) s2 (λx N=>⟨s1 x N,(jx x N).2⟩) (λ_=>jW) afO Ho (λs a b c=>YQ s a (by omega) b c) (λs a b c=>hG s a (by omega) b)
    have h0:∀s,bg<=s->s<e.t->aqy s=kd:=λs a b=>G s a (by omega) λy hy=>by
     rcases List.mem_cons.1 hy with rfl|hy
     ·exact b
     have:=s1 y hy;omega
    by_cases h:kd=0
    ·rw[if_pos h];exact ih.skip Ip.1 (λs a b=>by rw[h0 s a b,h])
    rw[if_neg h];refine⟨Ζ _,Y h e (by simp),Ip.2,h,λs a b=>by omega,h0,?_,ih⟩;by_cases he:e.t=T
    ·exact .inl he
    refine .inr ?_;rw[YQ e.t (Ζ _) Ip.1 (by omega) jW];exact VV
structure lY where
 k:Int
 b:Int
 e:Int
def eT (f t:Int)(cs:List lY):List eC:=cs.flatMap λc=>[⟨max c.b f,c.k,1⟩,⟨min c.e t,c.k,-1⟩]
def Ix (cs:List lY)(s:Int):Int:=if cs.any (λc=>decide (c.k=2)&&decide (c.b<=s)&&decide (s<c.e))then 2 else if cs.any (λc=>decide (c.k=1)&&decide (c.b<=s)&&decide (s<c.e))then 1 else 0
theorem Nc (f t:Int)(k s:Int)(hs:f<=s)(ht:s<t):∀(cs:List lY),(∀c∈cs,c.b<c.e)->0<=eO k (mT s (eT f t cs))/\(0<eO k (mT s (eT f t cs))↔cs.any (λc=>decide (c.k=k)&&decide (c.b<=s)&&decide (s<c.e))=true)
 |[],_=>by simp[eT,mT,eO]
 |c::cs,h=>by
  obtain⟨G,A⟩:=Nc f t k s hs ht cs (λx N=>h x (μ _ N));have hc:=h c (by simp);have S:mT s (eT f t (c::cs))=mT s [⟨max c.b f,c.k,1⟩,⟨min c.e t,c.k,-1⟩]++mT s (eT f t cs):=by
   show mT s ([_,_]++_)=_;unfold mT;rw[ν];rfl
  rw[S,Nb,List.any_cons];have e2:eO k (mT s [⟨max c.b f,c.k,1⟩,⟨min c.e t,c.k,-1⟩])=if c.k=k/\c.b<=s/\s<c.e then 1 else 0:=by
   unfold mT;by_cases a1:max c.b f<=s
   ·by_cases a2:min c.e t<=s
    ·rw[Γ (by simpa using a1),Γ (by simpa using a2),List.filter_nil];have:¬(c.k=k/\c.b<=s/\s<c.e):=by omega
     rw[if_neg this];by_cases Y:c.k=k<;>simp[eO,Y]
    rw[Γ (by simpa using a1),Κ (by simpa using a2),List.filter_nil];by_cases Y:c.k=k
    ·rw[if_pos (by omega)];simp[eO,Y]
    rw[if_neg (λh=>Y h.1)];simp[eO,Y]
   have a2:¬min c.e t<=s:=by omega
   rw[Κ (by simpa using a1),Κ (by simpa using a2),List.filter_nil];rw[if_neg (by omega)];rfl
  rw[e2];by_cases Y:c.k=k/\c.b<=s/\s<c.e
  ·rw[if_pos Y];refine⟨by omega,?_⟩;simp only[Y,decide_true,Bool.and_true,Bool.true_or,iff_true];have:=Y.2;simp;omega
  rw[if_neg Y];have:(decide (c.k=k)&&decide (c.b<=s)&&decide (s<c.e))=false:=by
   cases h':(decide (c.k=k)&&decide (c.b<=s)&&decide (s<c.e))
   ·rfl
   simp only[Υ,decide_eq_true_eq]at h';exact absurd ⟨h'.1.1,h'.1.2,h'.2⟩ Y
  rw[this,Bool.false_or,Int.zero_add];exact⟨G,A⟩
theorem He (f t k:Int):∀cs:List lY,eO k (eT f t cs)=0
 |[]=>rfl
 |c::cs=>by
  have S:eT f t (c::cs)=[⟨max c.b f,c.k,1⟩,⟨min c.e t,c.k,-1⟩]++eT f t cs:=rfl;rw[S,Nb,He f t k cs];by_cases Y:c.k=k<;>simp[eO,Y]
theorem Nd {s:Int}{x y:List eC}(h:x.Perm y):(mT s x).Perm (mT s y):=h.filter _
theorem QX {f t:Int}{cs:List lY}(wR:f<t)(hc:∀c∈cs,c.b<c.e/\c.b<t/\f<c.e){es:List eC}(J:es.Perm (eT f t cs))(hs:es.Pairwise λx y=>x.t<=y.t):nt (Ix cs) t f (fU 0 0 f 0 es):=by
 have U:∀e∈es,f<=e.t/\e.t<=t:=by
  intro e he;have:=J.mem_iff.1 he;unfold eT at this;rw[List.mem_flatMap]at this;obtain⟨c,zv,zg⟩:=this;obtain⟨G,A,M⟩:=hc c zv;simp only[Δ,ϝ,or_false]at zg;rcases zg with rfl|rfl
  ·exact⟨by show f<=max c.b f;omega,by show max c.b f<=t;omega⟩
  exact⟨by show f<=min c.e t;omega,by show min c.e t<=t;omega⟩
 have hK:∀s,f<=s->s<t->Ix cs s=gM (0+eO 1 (mT s es)) (0+eO 2 (mT s es)):=by
  intro s a b;obtain⟨_,A⟩:=Nc f t 1 s a b cs (λc rP=>(hc c rP).1);obtain⟨_,M⟩:=Nc f t 2 s a b cs (λc rP=>(hc c rP).1);rw[Int.zero_add,Int.zero_add,vJ (Nd J),vJ (Nd J)];unfold Ix gM;simp only[A,M]
 refine vK t (Ix cs) es 0 0 f 0 hs U (λh=>absurd rfl h) (λ_=>rfl) ?_ (λs a b c=>?_) (λs a b _=>hK s a b)
 ·rw[vJ J,vJ J,He,He];rfl
 rw[hK s a b,Qe c];rfl
theorem dC {P:Program}{Q:Exit->Act->τ->Prop}{id:Nat}{a:Act}{w:τ}{L l t:List Oper}(n:Nat)(K:L.take n=l)(ht:L.drop n=t)(aqr:Nat->Act->τ->Prop)(aqq:Act->τ->Prop)
 (hm:P.follows .mixedOrders=true)(hf:forward .any L.toArray=true)(mG:forward .any l.toArray=true)(hg:fI L.toArray=true)(Io:fI l.toArray=true)(hc:iM n L.toArray=true)(hn:l.length=n)
 (aqs:∀i o,l.toArray[i]?=some o->∀a w,aqq a w->(∀e∈o.after,Ψ .any e=true->aqr e.on a w)->∀Q':Exit->Act->τ->Prop,Oper.wp P o a w (λa' I=>aqq a' I/\aqr i a' I/\∀j oj,l.toArray[j]?=some oj->j≠i->(∀e∈oj.after,Ψ .any e=true->e.on≠i)->aqr j a w->aqr j a' I) Q')
 (D:∀a w,aqq a w->(∀i,i<n->aqr i a w)->wpList P L.toArray Q t a w)(hI:aqq a {w with drawn:=w.drawn+1}):(Code.region id L.toArray true).wp P Q a w:=by
 subst K ht;have e:L.take n++L.drop n=L:=List.take_append_drop n L;have:=xh (P:=P) (Q:=Q) (id:=id) (a:=a) (w:=w) (L.take n) (L.drop n) hm (by rw[e];exact hf) (by rw[e];exact hg) (by rw[e,hn];exact hc) (by
  refine E4 aqr aqq mG (λi o a w ho hI hG=>?_) (λa w hI hG=>?_) (L.take n).length (Array.replicate (L.take n).length false) a _ (by simp) (by rw[Array.toList_replicate,List.count_replicate];simp) hI (λi hi h=>?_) (λi o ho h=>?_)
  ·refine wpOp_step ho λK' mv=>?_;rw[if_pos (we Io ho _)];exact Oper.wp_mono mv (aqs i o ho a w hI hG _)
  ·show wpList P (L.take n++L.drop n).toArray Q (L.drop n) a w;rw[e];exact D a w hI λi hi=>hG i (by rw[ϊ,hn];exact hi)
  ·rw[bF _ (by simpa using hi)]at h;simp at h
  rw[bF _ (by simpa using(Array.getElem?_eq_some_iff.1 ho).1)]at h;simp at h)
 rw[e]at this;exact this
theorem Hf {α:Type}{a b:α}{w I:τ}(h:(Result.ok a w:Result α)=.ok b I):a=b/\w=I:=by cases h;exact⟨rfl,rfl⟩
theorem pd {P:Program}(w:τ)(base:Nat)(t ty e:TypeId)(z:Value)(size bytes:Nat)(ht:P.underlying t=some (.slice e))(xI:(P.info? e).map (λi=>(i.zero,i.size,i.bytes))=some (some z,size,bytes))(hzs:z.cells.size=size)(bA:0<size)
 (v:Value)(n:Nat)(xs:List Value)(aX:w.ownsRow base e size v n xs)(a:ϡ)(m c:Nat)(hm:0<m)(news:List Value)(K:news.length=m*size)(Kf:∀j u,news[j]?=some u->w.cell? (a.add j)=some u)(G:∀u∈news,u.oneCell'=true)
 (h63:n+m<=16777216)(tT:bytes<=64)(agN:base<=w.heap.size):
 ∃g cap I,(Builtin.append_ #[t,t] ty #[v,η (some a) m c]).run P w=.ok (η (some ⟨g,0,none⟩) (n+m) cap) I/\I.ownsRow base e size (η (some ⟨g,0,none⟩) (n+m) cap) (n+m) (xs++news)/\I.ownsRow base e size v n xs/\w.grownBy I v.ownBlock/\(v.ownBlock=some g\/g=w.heap.size):=by
 obtain⟨i,hi,hz,aaI,hby⟩:=info_parts xI;have aN:(n+m)*bytes<=140737488355328:=by
  have:(n+m)*bytes<=16777216*64:=Nat.mul_le_mul h63 tT;omega
 obtain⟨v',I,jy,o1,g1,_⟩:=run_append_own (P:=P) w base t ty e i z size bytes ht hi hz aaI hby hzs bA v n xs aX a m c news K Kf G (by unfold maxLen;omega) aN agN;subst aaI hby;rcases aX.2 with⟨rfl,rfl⟩|⟨g,cap,cur,rfl,hbg,hg,Oo,zv,zE,QF⟩
 ·have N:xs=[]:=List.eq_nil_of_length_eq_zero (by simpa using aX.1);subst N;have hr:=run_append_nil (P:=P) w t ty e i z ht hi hz a m c news K Kf hm (by omega) (by simp only[ϋ]at aN;omega);rw[jy]at hr;obtain⟨S,e2⟩:=Hf hr;subst S;refine⟨w.heap.size,grownCap w m 0 e,I,by rw[ϋ];exact jy,by rw[ϋ]at o1⊢;exact o1,Ϙ _ _ _ _,g1,.inr rfl⟩
 by_cases Qz:n+m<=cap
 ·have Co:n*i.size+news.length<=cur.size:=by rw[K,zE,<-Nat.add_mul];exact Nat.mul_le_mul_right _ Qz
  have hr:=run_append_room (P:=P) w t ty e i ht hi g n cap cur hg a m c news K Kf G Qz Co;rw[jy]at hr;obtain⟨S,e2⟩:=Hf hr;subst S e2;refine⟨g,cap,_,jy,o1,⟨aX.1,.inr ⟨g,cap,_,rfl,hbg,setRow_heap w g cur _ e _ hg,Oo,zv,?_,?_⟩⟩,g1,.inl rfl⟩
  ·simp only[ϊ,Ω,List.length_take,List.length_drop,Array.length_toList];omega
  rw[QF,<-aX.1,ο];exact List.take_left
 have holds:∀j u,xs[j]?=some u->w.cell? ((⟨g,0,none⟩:ϡ).add j)=some u:=aX.cells (g:=g) rfl;have hr:=run_append_grow (P:=P) w t ty e i z ht hi hz ⟨g,0,none⟩ n cap xs aX.1 holds a m c news K Kf (by omega) (by omega) (growslice_fits (by omega) aN);rw[jy]at hr;obtain⟨S,e2⟩:=Hf hr;subst S e2;have aR:=(Array.getElem?_eq_some_iff.1 hg).1;exact⟨w.heap.size,_,_,jy,o1,⟨aX.1,.inr ⟨g,cap,cur,rfl,hbg,(Below.heap_alloc _ _ _ aR).trans hg,Oo,zv,zE,QF⟩⟩,g1,.inr rfl⟩
structure JX (n0:Nat)(fix:List (Nat×Value))(C:τ->Prop)(a:Act)(w:τ):Prop where
 size:a.tmps.size=n0
 defers:a.defers=[]
 fixed:∀p∈fix,a.eval (.tmp p.1)=p.2
 world:C w
structure KM (σ:Nat->Nat)(fix:List (Nat×Value))(n0 n:Nat):Prop where
 lt:∀i,i<n->σ i<n0
 inj:∀i j,i<n->j<n->σ i=σ j->i=j
 off:∀p∈fix,∀i,i<n->p.1≠σ i
theorem QD {σ:Nat->Nat}{fix:List (Nat×Value)}{n0:Nat}{aqv:Nat->Value->τ->Prop}{C:τ->Prop}{a:Act}{w I:τ}{ops:Array Oper}{i:Nat}{v:Value}{dst:Option Nat}(aqA:KM σ fix n0 ops.size)(hd:dst=some (σ i))(hi:i<ops.size)
 (h:JX n0 fix C a w)(hC:C I)(Y:∀j v,j≠i->aqv j v w->aqv j v I)(hn:aqv i v I):
 JX n0 fix C (a.put dst v) I/\GV σ aqv i (a.put dst v) I/\∀j oj,ops[j]?=some oj->j≠i->(∀e∈oj.after,Ψ .any e=true->e.on≠i)->GV σ aqv j a w->GV σ aqv j (a.put dst v) I:=by
 subst hd;have hs:σ i<a.tmps.size:=by rw[h.size];exact aqA.lt i hi
 refine⟨⟨by rw[fW];exact h.size,by rw[put_defers];exact h.defers,λp J=>by rw[cY (aqA.off p J i hi)];exact h.fixed p J,hC⟩,?_,λj oj jg fB _ hg=>?_⟩
 ·unfold GV;rw[gO hs];exact hn
 have hj:j<ops.size:=(Array.getElem?_eq_some_iff.1 jg).1;unfold GV at hg⊢;rw[cY (λe=>fB (aqA.inj j i hj hi e))];exact Y j _ fB hg
theorem ef {σ:Nat->Nat}{fix:List (Nat×Value)}{n0:Nat}{aqv:Nat->Value->τ->Prop}{C:τ->Prop}{a:Act}{w:τ}{ops:Array Oper}{i:Nat}{v:Value}{dst:Option Nat}(aqA:KM σ fix n0 ops.size)(hd:dst=some (σ i))(hi:i<ops.size)
 (h:JX n0 fix C a w)(hn:aqv i v w):
 JX n0 fix C (a.put dst v) w/\GV σ aqv i (a.put dst v) w/\∀j oj,ops[j]?=some oj->j≠i->(∀e∈oj.after,Ψ .any e=true->e.on≠i)->GV σ aqv j a w->GV σ aqv j (a.put dst v) w:=
 QD aqA hd hi h h.world (λ_ _ _ h=>h) hn
theorem F6 {P:Program}{o:Oper}{a:Act}{w I:τ}{s x:Operand}{t:TypeId}{v u r:Value}(ho:o.op=.call {callee:=.builtin .append,args:=#[s,x],argTypes:=#[t,t]})(hs:a.eval s=v)(N:a.eval x=u)(hr:(Builtin.append_ #[t,t] o.type #[v,u]).run P w=.ok r I):
 (execOp a.eval o).run P w=.ok (.value r) I:=by
 unfold execOp;simp only[ho,resolve,invoke,builtin,Sem.run_bind,Sem.run_pure,Result.andThen_ok,List.map_toArray,List.map_cons,List.map_nil,hs,N,hr]
structure aJ where
 b:Int
 e:Int
 c:ByteArray
 u:ByteArray
 k:Int
def VW (x y:ByteArray):Bool:=Op.bytesLess x.toList y.toList
def iW (x y:ByteArray):Int:=if VW x y then -1 else if x.toList==y.toList then 0 else 1
def iF (a b:Int):Int:=if a<b then -1 else if b<a then 1 else 0
def bP (x y:aJ):Int:=if iF x.b y.b≠0 then iF x.b y.b else if iW x.c y.c≠0 then iW x.c y.c else iW x.u y.u
def lI (x y:aJ):Prop:=bP x y<0
theorem afP {x y:ByteArray}(h:x.toList=y.toList):x=y:=(Lib.bytes_beq_iff x y).1 (by simp[h])
theorem Qf {x y:ByteArray}:VW x y=true↔x.toList<y.toList:=by unfold VW;rw[bytesLess_eq];simp
theorem Bk {x y:ByteArray}:iW x y<0↔x.toList<y.toList:=by
 unfold iW;rw[<-Qf];split
 ·simp[*]
 split<;>simp[*]
theorem afQ (a b:UInt8):a<b\/a=b\/b<a:=by
 rcases Nat.lt_trichotomy a.toNat b.toNat with h|h|h
 ·exact .inl h
 ·exact .inr (.inl (UInt8.toNat_inj.1 h))
 exact .inr (.inr h)
theorem Nf:∀x y:List UInt8,x<y\/x=y\/y<x
 |[],[]=>.inr (.inl rfl)
 |[],_::_=>.inl (List.Lex.nil)
 |_::_,[]=>.inr (.inr List.Lex.nil)
 |a::x,b::y=>by
  rcases afQ a b with h|h|h
  ·exact .inl (List.Lex.rel h)
  ·subst h;rcases Nf x y with h|h|h
   ·exact .inl (List.Lex.cons h)
   ·exact .inr (.inl (by rw[h]))
   exact .inr (.inr (List.Lex.cons h))
  exact .inr (.inr (List.Lex.rel h))
theorem uS:∀x:List UInt8,¬x<x
 |[],h=>by cases h
 |a::x,h=>by
  cases h with
  |rel h=>exact Nat.lt_irrefl _ h
  |cons h=>exact uS x h
theorem yE:∀{x y z:List UInt8},x<y->y<z->x<z
 |_,_,[],_,A=>by cases A
 |[],_,_::_,_,_=>List.Lex.nil
 |_::_,[],_::_,G,_=>by cases G
 |a::x,b::y,c::z,G,A=>by
  cases G with
  |rel G=>
   cases A with
   |rel A=>exact List.Lex.rel (Nat.lt_trans G A)
   |cons A=>exact List.Lex.rel G
  |cons G=>
   cases A with
   |rel A=>exact List.Lex.rel A
   |cons A=>exact List.Lex.cons (yE G A)
theorem Bl {x y:ByteArray}:0<iW x y↔y.toList<x.toList:=by
 have h0:= @Qf x y;unfold iW;by_cases G:VW x y=true
 ·rw[if_pos G];constructor
  ·intro h;omega
  intro h;exact(uS _ (yE (h0.1 G) h)).elim
 rw[if_neg G];by_cases A:(x.toList==y.toList)=true
 ·rw[if_pos A];have:x.toList=y.toList:=by simpa using A
  rw[this];constructor
  ·intro h;omega
  intro h;exact(uS _ h).elim
 rw[if_neg A];rcases Nf x.toList y.toList with h|h|h
 ·exact(G (h0.2 h)).elim
 ·exact(A (by simp[h])).elim
 exact⟨λ_=>h,λ_=>by omega⟩
theorem qH {x y:ByteArray}:iW x y=0↔x=y:=by
 constructor
 ·intro h;rcases Nf x.toList y.toList with k|k|k
  ·have:=Bk.2 k;omega
  ·exact afP k
  have:=Bl.2 k;omega
 rintro rfl;rcases Int.lt_trichotomy (iW x x) 0 with h|h|h
 ·exact(uS _ (Bk.1 h)).elim
 ·exact h
 exact(uS _ (Bl.1 h)).elim
theorem aco {a b:Int}:iF a b<0↔a<b:=by
 unfold iF;split
 ·omega
 split<;>omega
theorem acp {a b:Int}:0<iF a b↔b<a:=by
 unfold iF;split
 ·omega
 split<;>omega
theorem tE {a b:Int}:iF a b=0↔a=b:=by
 unfold iF;split
 ·omega
 split<;>omega
theorem xq {x y:aJ}:lI x y↔x.b<y.b\/x.b=y.b/\(x.c.toList<y.c.toList\/x.c=y.c/\x.u.toList<y.u.toList):=by
 unfold lI bP;by_cases h:iF x.b y.b=0
 ·rw[if_neg (by simpa using h)];have U:=tE.1 h;by_cases h':iW x.c y.c=0
  ·rw[if_neg (by simpa using h'),Bk];have hc:=qH.1 h';constructor
   ·intro k;exact .inr ⟨U,.inr ⟨hc,k⟩⟩
   rintro(k|⟨_,k|⟨_,k⟩⟩)
   ·omega
   ·rw[hc]at k;exact(uS _ k).elim
   exact k
  rw[if_pos h',Bk];constructor
  ·intro k;exact .inr ⟨U,.inl k⟩
  rintro(k|⟨_,k|⟨k,_⟩⟩)
  ·omega
  ·exact k
  exact(h' (qH.2 k)).elim
 rw[if_pos h,aco];constructor
 ·intro k;exact .inl k
 rintro(k|⟨k,_⟩)
 ·exact k
 exact(h (tE.2 k)).elim
theorem Bm {x y:aJ}:0<bP x y↔lI y x:=by
 rw[xq];unfold bP;by_cases h:iF x.b y.b=0
 ·rw[if_neg (by simpa using h)];have U:=tE.1 h;by_cases h':iW x.c y.c=0
  ·rw[if_neg (by simpa using h'),Bl];have hc:=qH.1 h';constructor
   ·intro k;exact .inr ⟨U.symm,.inr ⟨hc.symm,k⟩⟩
   rintro(k|⟨_,k|⟨_,k⟩⟩)
   ·omega
   ·rw[hc]at k;exact(uS _ k).elim
   exact k
  rw[if_pos h',Bl];constructor
  ·intro k;exact .inr ⟨U.symm,.inl k⟩
  rintro(k|⟨_,k|⟨k,_⟩⟩)
  ·omega
  ·exact k
  exact(h' (qH.2 k.symm)).elim
 rw[if_pos h,acp];constructor
 ·intro k;exact .inl k
 rintro(k|⟨k,_⟩)
 ·exact k
 exact(h (tE.2 k.symm)).elim
theorem ir {x y:aJ}:bP x y=0↔x.b=y.b/\x.c=y.c/\x.u=y.u:=by
 unfold bP;by_cases h:iF x.b y.b=0
 ·rw[if_neg (by simpa using h)];have U:=tE.1 h;by_cases h':iW x.c y.c=0
  ·rw[if_neg (by simpa using h'),qH];have hc:=qH.1 h';exact⟨λk=>⟨U,hc,k⟩,λk=>k.2.2⟩
  rw[if_pos h'];exact⟨λk=>(h' k).elim,λk=>(h' (qH.2 k.2.1)).elim⟩
 rw[if_pos h];exact⟨λk=>(h k).elim,λk=>(h (tE.2 k.1)).elim⟩
theorem lI.trans {x y z:aJ}(h:lI x y)(k:lI y z):lI x z:=by
 rw[xq]at *
 rcases h with h|⟨h,h'|⟨h',h''⟩⟩<;>rcases k with k|⟨k,k'|⟨k',k''⟩⟩
 ·exact .inl (by omega)
 ·exact .inl (by omega)
 ·exact .inl (by omega)
 ·exact .inl (by omega)
 ·exact .inr ⟨by omega,.inl (yE h' k')⟩
 ·exact .inr ⟨by omega,.inl (k'▸h')⟩
 ·exact .inl (by omega)
 ·exact .inr ⟨by omega,.inl (h'▸k')⟩
 exact .inr ⟨by omega,.inr ⟨h'.trans k',yE h'' k''⟩⟩
theorem lI.b {x y:aJ}(h:lI x y):x.b<=y.b:=by
 rcases xq.1 h with h|h
 ·omega
 omega
structure LT where
 t:Option (Nat×aJ×LT×LT)
namespace LT
abbrev nil:LT:=⟨none⟩
abbrev node (b:Nat) (e:aJ) (l r:LT):LT:=⟨some (b,e,l,r)⟩
theorem ind {P:LT->Prop}(nil:P .nil)(node:∀b e l r,P l->P r->P (.node b e l r)):∀t,P t
 |⟨none⟩=>nil
 |⟨some (b,e,l,r)⟩=>node b e l r (ind nil node l) (ind nil node r)
theorem AT {P:LT->Prop}(nil:P .nil)(node:∀b e l r,P (.node b e l r)):∀t,P t
 |⟨none⟩=>nil
 |⟨some (b,e,l,r)⟩=>node b e l r
def ht:LT->Int
 |⟨none⟩=>0
 |⟨some (_,_,l,r)⟩=>1+max l.ht r.ht
theorem eH:∀t:LT,0<=t.ht
 |⟨none⟩=>Ζ _
 |⟨some (_,_,l,r)⟩=>by have:=l.eH;have:=r.eH;simp only[ht];omega
def isNil:LT->Bool
 |⟨none⟩=>true
 |_=>false
def gr:LT->Int
 |⟨none⟩=>0
 |⟨some (_,e,l,r)⟩=>if r.isNil then(if l.isNil then e.e else max e.e l.gr)else max (if l.isNil then e.e else max e.e l.gr) r.gr
def aw:LT->List aJ
 |⟨none⟩=>[]
 |⟨some (_,e,l,r)⟩=>l.aw++e::r.aw
def ax:LT->List Nat
 |⟨none⟩=>[]
 |⟨some (b,_,l,r)⟩=>b::(l.ax++r.ax)
def size:LT->Nat
 |⟨none⟩=>0
 |⟨some (_,_,l,r)⟩=>l.size+r.size+1
theorem cC:∀t:LT,t.aw.length=t.size
 |⟨none⟩=>rfl
 |⟨some (_,_,l,r)⟩=>by simp[aw,size,cC l,cC r];omega
theorem dy:∀t:LT,t.ht<=t.size
 |⟨none⟩=>by simp[ht,size]
 |⟨some (_,_,l,r)⟩=>by have:=dy l;have:=dy r;simp only[ht,size];omega
theorem Ng:∀(t:LT) (x:aJ),x∈t.aw->x.e<=t.gr
 |⟨none⟩,_,h=>by cases h
 |⟨some (_,e,l,r)⟩,x,h=>by
  have K:=Ng l x;have hr:=Ng r x;have nl:l.isNil=true->l.aw=[]:=by cases l using LT.AT<;>simp[isNil,aw]
  have nr:r.isNil=true->r.aw=[]:=by cases r using LT.AT<;>simp[isNil,aw]
  simp only[aw,Φ,Δ]at h;simp only[gr];rcases h with h|h|h
  ·have:l.isNil=false:=by cases k:l.isNil;rfl;rw[nl k]at h;cases h
   have:=K h;simp only[*];split<;>simp<;>omega
  ·subst h;split<;>split<;>omega
  have:r.isNil=false:=by cases k:r.isNil;rfl;rw[nr k]at h;cases h
  have:=hr h;simp only[*];split<;>simp at * <;>omega
def yF:LT->LT
 |⟨some (b,e,l,⟨some (br,er,rl,rr)⟩)⟩=>node br er (node b e l rl) rr
 |t=>t
def yG:LT->LT
 |⟨some (b,e,⟨some (bl,el,ll,lr)⟩,r)⟩=>node bl el ll (node b e lr r)
 |t=>t
def lean:LT->Int
 |⟨none⟩=>0
 |⟨some (_,_,l,r)⟩=>l.ht-r.ht
def iN (b:Nat)(e:aJ)(l r:LT):LT:=
 if 1<l.ht-r.ht then yG (node b e (if l.lean<0 then yF l else l) r)
 else if l.ht-r.ht< -1 then yF (node b e l (if 0<r.lean then yG r else r))
 else node b e l r
def put (nb:Nat)(x:aJ):LT->LT
 |⟨none⟩=>node nb x nil nil
 |⟨some (b,e,l,r)⟩=>if bP x e<0 then iN b e (l.put nb x) r else iN b e l (r.put nb x)
def first:LT->Option (aJ×LT)
 |⟨none⟩=>none
 |⟨some (b,e,l,r)⟩=>match l.first with
  |none=>some (e,r)
  |some (f,l')=>some (f,iN b e l' r)
def drop (x:aJ):LT->LT
 |⟨none⟩=>nil
 |⟨some (b,e,l,r)⟩=>if bP x e<0 then iN b e (l.drop x) r else if 0<bP x e then iN b e l (r.drop x)else match r.first with
  |none=>l
  |some (f,r')=>iN b f l r'
theorem FM (t:LT):t.yF.aw=t.aw:=by
 unfold yF;split<;>simp[aw]
theorem FN (t:LT):t.yG.aw=t.aw:=by
 unfold yG;split<;>simp[aw]
theorem qI (b:Nat)(e:aJ)(l r:LT):(iN b e l r).aw=l.aw++e::r.aw:=by
 unfold iN;split
 ·rw[FN];simp only[aw];split<;>simp[FM]
 split
 ·rw[FM];simp only[aw];split<;>simp[FN]
 rfl
theorem vL (t:LT):t.yF.ax.Perm t.ax:=by
 unfold yF;split
 ·rename_i b e l br er rl rr;simp only[ax,π];have G:(br::b::(l.ax++rl.ax++rr.ax)).Perm (b::br::(l.ax++rl.ax++rr.ax)):=Ε _ _ _;refine G.trans (κ b ?_);rw[ο];exact List.perm_middle.symm
 exact φ _
theorem vM (t:LT):t.yG.ax.Perm t.ax:=by
 unfold yG;split
 ·rename_i b e bl el ll lr r;simp only[ax,π];have G:(ll.ax++b::(lr.ax++r.ax)).Perm (b::(ll.ax++(lr.ax++r.ax))):=ό;refine(κ bl G).trans ((Ε _ _ _).trans ?_);rw[ο]
 exact φ _
theorem qJ (b:Nat)(e:aJ)(l r:LT):(iN b e l r).ax.Perm (b::(l.ax++r.ax)):=by
 unfold iN;split
 ·refine(vM _).trans ?_;simp only[ax];refine κ _ (Β _ ?_);split
  ·exact vL _
  exact φ _
 split
 ·refine(vL _).trans ?_;simp only[ax];refine κ _ (ψ _ ?_);split
  ·exact vM _
  exact φ _
 exact φ _
theorem mY (nb:Nat)(x:aJ):∀t:LT,(t.put nb x).ax.Perm (nb::t.ax)
 |⟨none⟩=>φ _
 |⟨some (b,e,l,r)⟩=>by
  unfold put;split
  ·refine(qJ _ _ _ _).trans ?_;simp only[ax];refine(κ b (Β _ (mY nb x l))).trans ?_;exact Ε _ _ _
  refine(qJ _ _ _ _).trans ?_;simp only[ax];refine(κ b (ψ _ (mY nb x r))).trans ?_;exact(κ b ό).trans (Ε _ _ _)
theorem oR {t:LT}(h:t.first=none):t=nil:=by
 cases t using LT.AT with
 |nil=>rfl
 |node b e l r=>
  unfold first at h
  split at h<;>cases h
theorem FO:∀{t:LT} {f:aJ} {t':LT},t.first=some (f,t')->t.aw=f::t'.aw
 |⟨none⟩,_,_,h=>by cases h
 |⟨some (b,e,l,r)⟩,f,t',h=>by
  unfold first at h
  split at h
  ·rename_i K;rw[oR K];cases h;rfl
  rename_i f' l' K;cases h;rw[qI,aw,FO K];rfl
theorem vN:∀{t:LT} {f:aJ} {t':LT},t.first=some (f,t')->∃x,t.ax.Perm (x::t'.ax)
 |⟨none⟩,_,_,h=>by cases h
 |⟨some (b,e,l,r)⟩,f,t',h=>by
  unfold first at h
  split at h
  ·rename_i K;rw[oR K];cases h;exact⟨b,φ _⟩
  rename_i f' l' K;cases h;obtain⟨x,N⟩:=vN K;refine⟨x,?_⟩;simp only[ax];refine(κ b (Β _ N)).trans ?_;exact(Ε _ _ _).trans (κ x (qJ _ _ _ _).symm)
def oq (x:aJ):List aJ->List aJ
 |[]=>[x]
 |y::r=>if bP x y<0 then x::y::r else y::oq x r
theorem Qg {x y:aJ}(h:lI x y):∀{l:List aJ} {r:List aJ},oq x (l++y::r)=oq x l++y::r
 |[],r=>by simp only[υ,oq];rw[if_pos (show bP x y<0 from h)];rfl
 |z::l,r=>by
  simp only[π,oq];split
  ·rfl
  rw[Qg h];rfl
theorem Qh {x:aJ}:∀{l:List aJ} (r:List aJ),(∀y∈l,¬lI x y)->oq x (l++r)=l++oq x r
 |[],_,_=>rfl
 |z::l,r,h=>by
  simp only[π,oq];rw[if_neg (show¬bP x z<0 from h z (by simp)),Qh r λy hy=>h y (by simp[hy])]
def eF (l:List aJ):Prop:=l.Pairwise lI
theorem Cm (nb:Nat)(x:aJ):∀{t:LT},eF t.aw->(t.put nb x).aw=oq x t.aw
 |⟨none⟩,_=>rfl
 |⟨some (b,e,l,r)⟩,h=>by
  simp only[aw]at h⊢;obtain⟨G,A,M⟩:=List.pairwise_append.1 h;obtain⟨h4,h5⟩:=List.pairwise_cons.1 A;unfold put;split
  ·rename_i N;rw[qI,Cm nb x G,Qg N]
  rename_i N;rw[qI,Cm nb x h5];rw[Qh]
  ·simp only[oq];rw[if_neg N]
  intro y hy hxy;exact N (lI.trans hxy (M y hy e (by simp)))
theorem zx (x:aJ):∀l:List aJ,(oq x l).Perm (x::l)
 |[]=>φ _
 |y::r=>by
  unfold oq;split
  ·exact φ _
  exact(κ y (zx x r)).trans (Ε _ _ _)
theorem Ky {x:aJ}:∀{l:List aJ},eF l->(∀y∈l,bP x y≠0)->eF (oq x l)
 |[],_,_=>by simp[oq,eF]
 |y::r,h,hn=>by
  unfold oq;obtain⟨G,A⟩:=List.pairwise_cons.1 h;split
  ·rename_i N;refine List.pairwise_cons.2 ⟨λz hz=>?_,h⟩;rcases List.mem_cons.1 hz with rfl|hz
   ·exact N
   exact lI.trans N (G z hz)
  rename_i N;refine List.pairwise_cons.2 ⟨λz hz=>?_,Ky A λz hz=>hn z (by simp[hz])⟩;rcases List.mem_cons.1 ((zx x r).mem_iff.1 hz)with rfl|hz
  ·exact Bm.1 (by have:=hn y (by simp);omega)
  exact G z hz
def jY (x:aJ)(l:List aJ):List aJ:=l.filter λy=>decide (bP x y≠0)
theorem Bn {x:aJ}{l:List aJ}(h:∀y∈l,bP x y≠0):jY x l=l:=by
 unfold jY;exact List.filter_eq_self.2 λy hy=>by simpa using h y hy
theorem ne_of_lt {x y:aJ}(h:lI x y):bP x y≠0:=by unfold lI at h;omega
theorem ne_of_gt {x y:aJ}(h:lI y x):bP x y≠0:=by have:=Bm.2 h;omega
theorem H9 {x y z:aJ}(h:bP x y=0)(k:lI z y):lI z x:=by
 obtain⟨G,A,M⟩:=ir.1 h;rw[xq]at k⊢;rw[G,A,M];exact k
theorem Ia {x y z:aJ}(h:bP x y=0)(k:lI y z):lI x z:=by
 obtain⟨G,A,M⟩:=ir.1 h;rw[xq]at k⊢;rw[G,A,M];exact k
theorem rJ (x:aJ):∀{t:LT},eF t.aw->(t.drop x).aw=jY x t.aw
 |⟨none⟩,_=>rfl
 |⟨some (b,e,l,r)⟩,h=>by
  simp only[aw]at h⊢;obtain⟨G,A,M⟩:=List.pairwise_append.1 h;obtain⟨h4,h5⟩:=List.pairwise_cons.1 A;have O1:jY x (l.aw++e::r.aw)=jY x l.aw++jY x (e::r.aw):=by unfold jY;rw[ν]
  rw[O1];unfold drop;split
  ·rename_i N;rw[qI,rJ x G,Bn (l:=e::r.aw)];intro y hy;rcases List.mem_cons.1 hy with rfl|hy
   ·exact ne_of_lt N
   exact ne_of_lt (lI.trans N (h4 y hy))
  split
  ·rename_i Lz N;have dY:=Bm.1 N;have he:jY x (e::r.aw)=e::jY x r.aw:=by unfold jY;rw[Γ];simpa using ne_of_gt dY
   rw[qI,rJ x h5,he,Bn (l:=l.aw)];intro y hy;exact ne_of_gt (lI.trans (M y hy e (by simp)) dY)
  rename_i Lz N;have h0:bP x e=0:=by omega
  have K:jY x l.aw=l.aw:=Bn λy hy=>ne_of_gt (H9 h0 (M y hy e (by simp)));have hr:jY x (e::r.aw)=r.aw:=by
   have S:jY x (e::r.aw)=jY x r.aw:=by unfold jY;rw[Κ];simpa using h0
   rw[S];exact Bn λy hy=>ne_of_lt (Ia h0 (h4 y hy))
  rw[K,hr];split
  ·rename_i hf;rw[oR hf];simp[aw]
  rename_i f r' hf;rw[qI,FO hf]
theorem uT (x:aJ):∀t:LT,∃ys,t.ax.Perm (ys++(t.drop x).ax)
 |⟨none⟩=>⟨[],φ _⟩
 |⟨some (b,e,l,r)⟩=>by
  unfold drop;split
  ·obtain⟨ys,h⟩:=uT x l;refine⟨ys,?_⟩;simp only[ax];refine(κ b (Β _ h)).trans ?_;rw[ο];exact List.perm_middle.symm.trans (ψ _ (qJ _ _ _ _).symm)
  split
  ·obtain⟨ys,h⟩:=uT x r;refine⟨ys,?_⟩;simp only[ax];refine(κ b (ψ _ h)).trans ?_;have S:(l.ax++(ys++(r.drop x).ax)).Perm (ys++(l.ax++(r.drop x).ax)):=by
    rw[<-ο,<-ο];exact Β _ List.perm_append_comm
   exact(κ b S).trans (List.perm_middle.symm.trans (ψ _ (qJ _ _ _ _).symm))
  split
  ·rename_i hf;rw[oR hf];exact⟨[b],by simp[ax]⟩
  rename_i f r' hf;obtain⟨y,hy⟩:=vN hf;refine⟨[y],?_⟩;simp only[ax,π,υ];refine(κ b (ψ _ hy)).trans ?_;refine(κ b ό).trans ((Ε _ _ _).trans (κ y (qJ _ _ _ _).symm))
theorem kf:∀t:LT,t.ax.length=t.size
 |⟨none⟩=>rfl
 |⟨some (_,_,l,r)⟩=>by simp[ax,size,kf l,kf r]
theorem size_put (nb:Nat)(x:aJ)(t:LT):(t.put nb x).size=t.size+1:=by
 rw[<-kf,(mY nb x t).length_eq,Ϟ,kf]
end LT
end Go.Proofs.YtchdfdmjihnhkaaGreatDoor
