import Derived.Test.YthpndgcaoeokeaaGreatDoorCv7
import GoSem.Core.Next
import Derived.Laws.AppendOwn
set_option maxRecDepth 100000
set_option maxHeartbeats 8000000
open Go.IntKind renaming i64->Z
open Go.Value renaming int->V,pointer->ζ,slice->η,string->θ
open Go.Ending renaming returned->δ,panicked->ε
open Go.Obj renaming cells->ι
open List renaming cons_append->κ,nil_append->μ,mem_cons_of_mem->ν,length_append->ο,filter_append->π,append_nil->τ,length_cons->χ,append_assoc->ψ,mem_cons->ω,takeWhile_cons->Α,mem_singleton->Γ,mem_append->Ε,map_cons->Ζ,mem_filter->Η,filter_cons_of_pos->Κ,filter_eq_nil_iff->Μ,not_mem_nil->Τ,filter_cons_of_neg->Υ,filter_cons->Φ,map_nil->Χ,map_append->Ψ,size_toArray->ϋ,contains_iff_mem->Ϗ,mem_of_mem_take->ϗ,pairwise_cons->ϙ,pairwise_map->ϛ,filter_congr->Ϝ,length_nil->ϝ,mem_map->Ϟ
open ByteArray renaming size_append->ξ
open List.Pairwise renaming filter->ρ
open Go renaming World->υ,Calls->Δ,Addr->ϟ
open Nat renaming le_refl->φ,zero_add->ό,le_trans->ώ,lt_of_lt_of_le->Ϛ
open Bool renaming and_eq_true->Β,false_eq_true->Ο
open Go.RowKit.Below renaming refl->Θ,heap_setCell->Ω
open UInt8 renaming ofNat->Ι
open Int renaming le_refl->Λ,mul_nonneg->Ν,add_assoc->Ξ,emod_nonneg->ύ
open Go.World renaming putObj_heap_other->Ρ,ownsRow_nil->Ϙ
open Go.Region renaming binds->ϊ
namespace Go.Proofs.YthpndgcaoeokeaaGreatDoor
open Tryz
open Go.RowKit Go.Sort
section
attribute [local go_sem] Oper.semAt_some
attribute [local go_sem] bG aV
attribute [local simp] bG aV
theorem jb {o:Oper}(ho:o.op=.alloc 79)(a:Act)(w:υ):(execOp a.eval o).run prog w=.ok (.value (ζ (some ⟨w.heap.size,0,none⟩))) (w.alloc (ι fB.toArray 79)):=by
 obtain⟨_,_,_,_,_,_⟩:=o;simp only[]at ho;subst ho;kernel_rfl
theorem PX (u:ByteArray)(st ln:Int)(hr:Bool)(r:aC)(m md wk pl:Value)(tx:ByteArray)(aI aH:Value)(tr:Bool)(k:Int)(G:m.oneCell'=true)(A:md.oneCell'=true)(K:wk.oneCell'=true)(h4:pl.oneCell'=true)(h5:aI.oneCell'=true)(h6:aH.oneCell'=true):
 ∀v∈cF u st ln hr r m md wk pl tx aI aH tr k,v.oneCell'=true:=by
 intro v hv;unfold cF at hv;simp only[ω,Τ,or_false]at hv;rcases hv with rfl|rfl|rfl|rfl|rfl|rfl|rfl|rfl|rfl|rfl|rfl|rfl|rfl|rfl|rfl|rfl|rfl|rfl<;>first|rfl|assumption
theorem Z8:(prog.info? 39).map (λi=>(i.zero,i.size,i.bytes))=some (some (.agg #[V Z 0,V Z 0]),2,16):=by kernel_rfl
theorem Xu (d:pf)(from_:Int)(l:List Int)(b:Int):oS d from_ (l++[b])=oS d from_ l++if from_<b+d.ln then[(b,b+d.ln)]else[]:=by
 unfold oS;rw[Ψ,π];by_cases h:from_<b+d.ln<;>simp[h]
theorem Tf (l:List (Int×Int))(p:Int×Int):mF (l++[p])=mF l++[V Z p.1,V Z p.2]:=by unfold mF;simp
theorem Z9 (d:pf)(from_:Int)(l:List Int):(oS d from_ l).length<=l.length:=by
 unfold oS;exact ώ (List.length_filter_le _ _) (by simp)
def IJ (b8 b9 atE:Nat)(d:pf)(from_:Int)(T:List Int)(i:Nat):aP:=λD W=>
 tg b8 35 39 2 atE (oS d from_ (T.take i)).length (mF (oS d from_ (T.take i))) D W/\D b9/\M W b9 [V Z i] 3/\i<=3000
theorem IJ.cL {b8 b9 atE:Nat}{d:pf}{from_:Int}{T:List Int}{i:Nat}{D:aj}{W:υ}(G:On D (tg b8 35 39 2 atE (oS d from_ (T.take i)).length (mF (oS d from_ (T.take i)))) W)(A:D b9)(K:M W b9 [V Z i] 3)(h4:i<=3000):On D (IJ b8 b9 atE d from_ T i) W:=
 ⟨G.1,λW2 I=>⟨G.2 W2 I,A,K.keep (I _ A),h4⟩⟩
theorem IJ.post {b8 b9 atE atG:Nat}{d:pf}{from_:Int}{T:List Int}{i:Nat}{D:aj}{W W':υ}(G:aN D atG (tg b8 35 39 2 atE (oS d from_ (T.take i)).length (mF (oS d from_ (T.take i)))) W W')(A:D b9)(K:M W' b9 [V Z i] 3)(h4:i<=3000):aN D atG (IJ b8 b9 atE d from_ T i) W W':=by
 obtain⟨x,D',d1,d2,d3⟩:=G;exact⟨x,D',d1,d2,IJ.cL d3 (d2 _ A) K h4⟩
def vn (s:List UInt8)(from_ to:Int)(w:υ):Ending->υ->Prop:=λe Y=>
 (match wK s from_ to with
  | .error x=>e=ε (bF x)
  | .ok l=>∃v,e=δ v/\Y.ownsRow w.heap.size 39 2 v l.length (mF l))/\Below w.heap.size w Y
theorem Dk (s:List UInt8)(from_ to:Int)(w:υ)(hm:ML w)(ht:jg w)(hs:s.length<=1048576):
 Δ prog 47 #[θ ⟨s.toArray⟩,V Z from_,V Z to] w (vn s from_ to w):=by
 have r4:=M.new w [V Z from_] 3;have bh:Below w.heap.size w (w.alloc (ι #[V Z from_] 3)):=(Θ _ _).alloc (φ _) _;have gH:(w.alloc (ι #[V Z from_] 3)).heap.size=w.heap.size+1:=by simp
 refine(callsIn_wide (n:=0)).1 ?_;refine dr func47 rfl ?_;simp only[ntmps47,ϋ,χ,ϝ,Nat.reduceAdd,Nat.reduceSub,Array.replicate_succ,Array.replicate_zero,List.push_toArray,List.append_toArray,μ,κ];refine bK λatH hK=>bQ ?_;gi_wp2_with fail;have eW:w.alloc (.cells [V Z from_].toArray 3)=w.alloc (ι #[V Z from_] 3):=rfl;rw[eW]at r4;clear eW;replace gH:=H gH;generalize w.alloc (ι #[V Z from_] 3)=W0 at *
 cases hr:iz s with
 |error x=>
  have hI:vn s from_ to w=λe Y=>e=ε (bF x)/\Below w.heap.size w Y:=by
   unfold vn wK;rw[hr]
  rw[hI];have C:Hid (Δ prog 43 #[θ ⟨s.toArray⟩] W0 λE Y=>E=ε (bF x)/\Below W0.heap.size W0 Y):=H ((qU s W0 (hm.on bh) hs).mono λE Y h=>by
   obtain⟨G,A⟩:=Ka h;refine⟨?_,A⟩;rcases G with⟨y,K,h4⟩|⟨d,K,_⟩
   ·rw[hr]at K;cases K;exact h4
   rw[hr]at K;cases K)
  clear hr hI hm ht;refine bK λatH hK=>bQ ?_;gi_wp2_with fail;refine(callsIn_wide.2 C.out).mono ?_;rintro e w1 ⟨rfl,au⟩;exact⟨rfl,bh.trans (au.mono bh.size)⟩
 |ok d=>
  have C:Hid (Δ prog 43 #[θ ⟨s.toArray⟩] W0 λE Y=>(∃(u:ByteArray) (m md wk pl:Value) (tx:ByteArray) (aI aH:Value),E=δ (.agg (cF u d.st d.ln (jq d) (jr d) m md wk pl tx aI aH (gK d.f) (kindOf d.f-1)).toArray)/\kt Y (jq d) (jr d) m md wk pl aI aH d.ex d.xt/\0<=d.st/\d.st<=7258118400/\0<=d.ln/\d.ln<=10000000)/\Below W0.heap.size W0 Y):=H ((qU s W0 (hm.on bh) hs).mono λE Y h=>by
   obtain⟨G,A⟩:=yD h;refine⟨?_,A⟩;rcases G with⟨y,K,h4⟩|⟨d',K,h4⟩
   ·rw[hr]at K;cases K
   rw[hr]at K;cases K;exact aea h4)
  have HT:=H ht;clear hm ht;refine bK λatH hK=>bQ (wpIn_wide.2 ?_);go_wp2_with fail;refine(C.out).mono ?_;rintro e w1 ⟨⟨u,m,md,wk,pl,tx,aI,aH,rfl,N,s0,s1,l0,l1⟩,au⟩;have oG:∀v∈cF u d.st d.ln (jq d) (jr d) m md wk pl tx aI aH (gK d.f) (kindOf d.f-1),v.oneCell'=true:=by
   obtain⟨a1,e1⟩:=N.cb.ms.form;obtain⟨a2,e2⟩:=N.cb.mds.form;obtain⟨a3,e3⟩:=N.cb.wks.form;obtain⟨a4,e4⟩:=N.cb.pls.form;obtain⟨a5,c5,e5⟩:=N.hex.sl;obtain⟨a6,c6,e6⟩:=N.mw.sl;exact PX _ _ _ _ _ _ _ _ _ _ _ _ _ _ (by rw[e1];rfl) (by rw[e2];rfl) (by rw[e3];rfl) (by rw[e4];rfl) (by rw[e5];rfl) (by rw[e6];rfl)
  have hlen:(cF u d.st d.ln (jq d) (jr d) m md wk pl tx aI aH (gK d.f) (kindOf d.f-1)).length=18:=rfl;replace N:=H N;replace r4:=r4.on au;replace bh:=bh.trans (au.mono bh.size);have oV:=au.size;clear C au;go_wp2_with (first
   |(refine ow rfl (jb rfl _ _) ?_;intro w2 E8 fN aO)
   |(refine ox rfl rfl rfl rfl E8 rfl jk oG ?_;intro w3 C5 dZ;have aR:=aO.trans (dZ.below (by omega) (λk I=>by omega));have IP:=dZ.size))
  replace r4:=r4.on aR;replace N:=H (N.out.on aR);have lQ:∀k,kY m md wk pl aI aH k->k<w3.heap.size:=λk I=>N.out.fW I;have al:=bh.trans (aR.mono bh.size);have hw3:w.heap.size+2<=w3.heap.size:=by have:=gH.out;omega
  have Jc:w1.heap.size<w3.heap.size:=by omega
  have hw1:w.heap.size<w1.heap.size:=by have:=gH.out;omega
  generalize hE:cF u d.st d.ln (jq d) (jr d) m md wk pl tx aI aH (gK d.f) (kindOf d.f-1)=EV at *
  clear E8 fN aO dZ IP aR oG bh oV;generalize w1.heap.size=be at *
  have FF:=H (AX from_ to w3 (HT.out.on al));refine bK λatH hK=>bQ ?_;have c4:=r4.cell (k:=0) rfl;gi_wp2_with fail;refine(callsIn_wide.2 FF.out).mono ?_;rintro e w5 ⟨he,bJ⟩;clear c4 FF HT;cases Ep:pZ from_ to
  case false=>
   rw[Ep]at he;simp only[Ο,if_false]at he;subst he;have hI:vn s from_ to w=λe Y=>e=ε (bF 7)/\Below w.heap.size w Y:=by
    unfold vn wK;rw[hr];simp only[Ep,Ο,if_false]
   rw[hI];exact⟨rfl,al.trans (bJ.mono al.size)⟩
  case true=>
   rw[Ep]at he;simp only[if_true]at he;subst he;have hto:0<=to/\to<7258118400:=by
    unfold pZ cq at Ep;simp only[Β,decide_eq_true_eq]at Ep;omega
   have hG1:Hid ((pt d to).length<=3000->∀v Y,Y.ownsRow w.heap.size 39 2 v (oS d from_ (pt d to)).length (mF (oS d from_ (pt d to)))->Below w.heap.size w Y->vn s from_ to w (δ v) Y):=H (by
    intro K v Y h4 h5;unfold vn wK;rw[hr];simp only[Ep,if_true,K];exact⟨⟨v,rfl,h4⟩,h5⟩)
   have hG2:Hid (¬(pt d to).length<=3000->∀Y,Below w.heap.size w Y->vn s from_ to w (ε (bF 5)) Y):=H (by
    intro K Y h5;unfold vn wK;rw[hr];simp only[Ep,if_true,K,if_false];exact⟨trivial,h5⟩)
   replace r4:=r4.on bJ;replace C5:=C5.on bJ;replace N:=H (N.out.on bJ);replace al:=al.trans (bJ.mono al.size);have ti:=bJ.size;clear bJ;have o4:=H (ahZ (jq d) (jr d) N.out.ok d.st 0 to d.ex d.xt s0 s1 (by omega) (by omega) N.out.xtb);gi_wp2_with fail;refine bK λatH hK=>bQ ?_;gi_wp2_with fail;refine bK λatH hK=>bQ ?_;gi_wp2_with fail;have r8:=kK w5 [η none 0 0] 35 (ι #[V Z 0] 3);have r9:=kM w5 [V Z 0] 3 (ι #[η none 0 0] 35);have qE:=mP w5 (ι #[η none 0 0] 35) (ι #[V Z 0] 3);have tj:((w5.alloc (ι #[η none 0 0] 35)).alloc (ι #[V Z 0] 3)).heap.size=w5.heap.size+2:=by simp
   replace tj:=H tj;generalize(w5.alloc (ι #[η none 0 0] 35)).alloc (ι #[V Z 0] 3)=w6 at *
   replace r4:=r4.on qE;replace C5:=C5.on qE;have hl6:=N.out.on qE;replace al:=al.trans (qE.mono al.size);rw[<-hE]at C5;have Lw:=H (sX u d.st d.ln (jq d) (jr d) m md wk pl tx aI aH d.ex d.xt (gK d.f) (kindOf d.f-1) 0 to w6 hl6 s0 s1 l0 l1 (by omega) (by omega) (by omega) (by omega) o4.out);rw[hE]at Lw;clear N hl6 qE;refine bK λK1 eM=>?_;refine bK λatH hK=>bQ ?_;gi_wp2_with (refine Lx rfl rfl rfl C5 (λ_=>trivial) ?_);refine(callsIn_wide.2 Lw.out).mono ?_;rintro e w7 ⟨g,lb,R,rfl,hit,mM,eg,ka⟩;replace r4:=r4.on ka;replace r8:=r8.on ka;replace r9:=r9.on ka;replace al:=al.trans (ka.mono al.size);have hz7:=ka.size;clear ka Lw C5 hE;have hT9:Hid (pt d to=ff (jq d) (jr d) d.st 0 to d.ex d.xt):=H rfl;rw[<-hT9.out]at hit o4;clear hT9;generalize pt d to=T at *
   have hw6:=tj.out;gi_wp2_with fail;refine gB ?_;generalize ph:w5.heap.size=b8 at *
   refine lz (gf:=g) (lb:=lb) func47 ?g eg hit (φ _) (λ_ _=>rfl) (λk I=>(mM k I).1)
    (λk=>k=b8\/k=b8+1) (λk I cj=>by
     rcases(mM k cj).2 with h|h
     ·have:=lQ k h;omega
     omega) (IJ b8 (b8+1) w7.heap.size d from_ T) (λ_ _ _=>False) (λc D W=>c=bF 5/\3000<T.length) ?ps ?start ?round ?done ?stop ?pan
   case g=>rfl
   case ps=>intro x X;obtain⟨b,_,rfl⟩:=List.mem_map.1 X;rfl
   case start=>exact IJ.cL (tg.cL (λk I=>by omega) ⟨.inl rfl,η none 0 0,r8,λk I=>by simp[Value.ownBlock]at I,Ϙ _ _ _ _⟩) (.inr rfl) r9 (by omega)
   case stop=>
    rintro c W ⟨_,D,_,_,aG⟩;exact aG.out.elim
   case pan=>
    rintro c W4 ⟨X,D,cD,_,aG⟩ hs bI;obtain⟨rfl,K⟩:=aG.out;have th:=al.trans (X.below (B:=w.heap.size) (by omega) (λk I=>by omega));refine⟨by simp,.inl ⟨_,_,rfl,run_takeDeferred bI,?_⟩⟩;refine hG2.out (by omega) _ ⟨th.os,th.tape,th.output,by simp;omega,λk I=>(Ρ (by omega)).trans (th.block k I)⟩
   case done=>
    rw[sx];rintro W4 ⟨X,D,cD,_,aG⟩ hs bI;obtain⟨⟨AE,v,anF,gg,aU⟩,_,_,K⟩:=aG.out;rw[List.take_length]at aU;have th:=al.trans (X.below (B:=w.heap.size) (by omega) (λk I=>by omega));have c8:=anF.cell (k:=0) rfl;have zr:=λk I=>(aU.lt k I).1;simp only[Exit.inBlock,Exit.then];refine eM _ _ (bQ ?_);clear eM aG hit;gi_wp2_with fail;have cK:∀k,v.ownBlock=some k->k≠w7.heap.size:=λk I e=>by
     rcases cD k (gg k I).1 with h|h<;>omega
    refine⟨by simp,.inl ⟨_,_,rfl,run_takeDeferred bI,?_⟩⟩;refine⟨_,results_tmp rfl _ _ _,hG1.out K _ _ ?_ ?_⟩
    ·exact tX (eO aU λg hg=>Ρ (cK g hg)) (by omega)
    exact⟨th.os,th.tape,th.output,by simp;omega,λk I=>(Ρ (by omega)).trans (th.block k I)⟩
   case round=>
    intro Ct i x X W4 D zq hs dV aG atH hK;obtain⟨b,hd⟩:∃b,T[i]?=some b:=⟨_,List.getElem?_eq_getElem (by have:=(List.getElem?_eq_some_iff.1 X).1;rwa [sx]at this)⟩;rw[Ah hd]at X;cases X;have htb:=o4.out b (List.mem_of_getElem? hd);have hiT:=(List.getElem?_eq_some_iff.1 hd).1;have uN:=H (show T.take (i+1)=T.take i++[b]from by rw[List.take_add_one,hd];rfl);clear hd o4;gi_wp2_with fail;have fO:Below W4.heap.size W4 (W4.alloc (ι #[V Z b,V Z (b+d.ln)] 39)):=(Θ _ _).alloc (φ _) _;refine hK _ _ (λk=>D k\/k=W4.heap.size) fO (λk I=>I.imp id λh=>by omega) (λk I=>.inl I) (λk I=>I.elim (λh=>by have:=aG.1 k h;simp;omega) (λh=>by simp;omega)) ?_;intro l' W2 fG bL oZ;have q4:=r4.aL bL (show¬(w.heap.size=b8\/w.heap.size=b8+1) by omega);have q10:=(M.new W4 [V Z b,V Z (b+d.ln)] 39).keep (fG _ (.inr rfl));have ea:=aG.on (W':=W2) λk I=>(fG k (.inl I)).trans (fO.block k (aG.1 k I));have df:¬D W4.heap.size:=λh=>by have:=aG.1 _ h;omega
    clear hK fG hit eM fO;obtain⟨⟨AE,v,q8,gg,aU⟩,hD9,q9,K⟩:=ea.out;have dN:∀k,D k\/k=W4.heap.size->k<W2.heap.size:=λk I=>I.elim (ea.1 k) (λh=>by have:=q10.lt;omega);have zr:∀k,v.ownBlock=some k->k≠b8+1:=λk I=>by have:=(aU.lt k I).1;omega
    have c9:=q9.cell (k:=0) rfl;have f9:=q9.free (k:=0);gi_wp2_with fail;have e9:(Value.int Z ((i:Int)+1))=V Z ((i+1:Nat):Int):=by simp
    have dZ:ak (λk=>D k\/k=W4.heap.size) W2 (W2.setCell ⟨b8+1,0,none⟩ (V Z ((i:Int)+1))):=(ak.refl _ _).setCell (.inl (.inl hD9)) _;have y9:=q9.set (k:=0) (V Z ((i:Int)+1));have Xv:∀k,k≠b8+1->(W2.setCell ⟨b8+1,0,none⟩ (V Z ((i:Int)+1))).heap[k]?=W2.heap[k]?:=λk I=>Ω _ _ _ _ I;have y4:M (W2.setCell ⟨b8+1,0,none⟩ (V Z ((i:Int)+1))) _ _ _:=(Xv _ (by omega)).trans q4;have y8:M (W2.setCell ⟨b8+1,0,none⟩ (V Z ((i:Int)+1))) _ _ _:=(Xv _ (by omega)).trans q8;have y10:M (W2.setCell ⟨b8+1,0,none⟩ (V Z ((i:Int)+1))) _ _ _:=(Xv _ (by omega)).trans q10;have Gb:=eO aU (Y:=W2.setCell ⟨b8+1,0,none⟩ (V Z ((i:Int)+1))) λg hg=>Xv g (zr g hg);clear c9 f9 q4 q8 q9 q10 Xv aU;generalize W2.setCell ⟨b8+1,0,none⟩ (V Z ((i:Int)+1))=W3 at *
    have y9':M W3 (b8+1) [V Z ((i+1:Nat):Int)] 3:=by rw[<-e9];exact y9
    clear y9 e9;by_cases hle:i+1<=3000
    case neg=>
     rw[decide_eq_false (by omega)];refine(CallsIn.inRound l' (callsIn_wide.2 (gY 5 _))).mono ?_;rintro e W5 ⟨rfl,rfl⟩;exact⟨rfl,dZ,_,λk I=>.inl I,λk I=>I,⟨λk I=>Ϛ (dN k I) dZ.size,λW5 _=>⟨rfl,(by omega)⟩⟩⟩
    rw[decide_eq_true (by omega)];refine(CallsIn.inRound l' (callsIn_wide.2 (fD 5 _))).mono ?_;rintro e W5 ⟨rfl,rfl⟩;have fE:=H (Xu d from_ (T.take i) b);rw[<-uN.out]at fE;have x0:=y10.cell (k:=0) rfl;have x1:=y10.cell (k:=1) rfl;have c4:=y4.cell (k:=0) rfl;have c8:=y8.cell (k:=0) rfl;have f8:=y8.free (k:=0);by_cases Ra:from_<b+d.ln
    case neg=>
     rw[if_neg Ra,τ]at fE;gi_wp2_with fail;show aN _ _ _ _ _;refine IJ.post ⟨dZ,λk=>D k\/k=W4.heap.size,λk I=>.inl I,λk I=>I,?_⟩ (.inl hD9) y9' hle;rw[fE.out];exact tg.cL (λk I=>Ϛ (dN k I) dZ.size) ⟨.inl AE,v,y8,λk I=>⟨.inl (gg k I).1,(gg k I).2⟩,Gb⟩
    rw[if_pos Ra]at fE;gi_wp2_with (gi_at_builtin;refine Hid.out ?_);refine H ?_;have jl:(oS d from_ (T.take i)).length<=i:=ώ (Z9 _ _ _) (by simp;omega);have hzA:w7.heap.size<=W3.heap.size:=by have:=dZ.size;omega
    refine xi rfl (.tmp 29) (.tmp 31) 35 39 _ 2 16 rfl underlying35 Z8 rfl (by decide) w7.heap.size _ _ _ rfl (Gb.alloc _) (by simp;omega) W3.heap.size [V Z b,V Z (b+d.ln)] rfl rfl (λj u hj=>(M.new W3 [V Z b,V Z (b+d.ln)] 39).cell hj) (by simp[Value.oneCell']) (by omega) (by decide) ?_;intro v' W6 nA ux qL;obtain⟨g6,amD,rfl⟩:=nZ nA;replace qL:=H qL;have cE:=(Θ W3.heap.size W3).alloc (φ _) (.cells [V Z b,V Z (b+d.ln)].toArray 39);have z8:=y8.on cE;have z9:=y9'.on cE;have z8':M W6 b8 [v] 35:=(ux.block _ z8.lt (λe=>(gg _ e.symm).2 rfl)).trans z8;have z9':M W6 (b8+1) [V Z ((i+1:Nat):Int)] 3:=(ux.block _ z9.lt (λe=>zr _ e.symm rfl)).trans z9;clear c8 f8 x0 x1 c4;have c8:=z8'.cell (k:=0) rfl;have f8:=z8'.free (k:=0);gi_wp2_with fail;have eY:=Dv (D1:=λk=>D k\/k=W4.heap.size) (W2:=W2) (p:=b8) (T:=35) dN (.inl AE) (dZ.alloc _) z8 (λk I=>⟨.inl (gg k I).1,(gg k I).2⟩) ux qL.out nA;show aN _ _ _ _ _;refine IJ.post ?_ (.inl hD9) ((Ω _ _ _ _ (show b8+1≠b8 by omega)).trans z9') hle;rw[fE.out,Tf,ο];exact eY
end
theorem Ip (p:ϟ)(w:υ):
 CallsD prog 88 #[ζ (some p)] .returning w λe u' Y=>e=δ (.tuple #[])/\u'=.returning/\Y=w:=by
 have hf:=kW p .nilIface;refine callsD_of_wpS func88 rfl λc₀ cs hu=>?_;refine mI λatH hK=>?_;refine wpS_region ?_;simp[wpOpsS,go_sem,recoverD,hu,ntmps88,Exit.thenS];rw[hf];refine hK _ _ _ ?_;clear hK atH hf;refine wpS_of_wp ?_;go_wp2;cases c₀;simp_all[bodyPostS,results,results88]
theorem zO (p:ϟ)(e:Int)(x:Value)(pG:List PanicEntry)(w:υ)(hc:w.cell? p=some x)(hz:w.frozen? p=false)(J:p.block<w.heap.size):
 CallsD prog 88 #[ζ (some p)] (.panicking ({v:=.iface 103 (.agg #[V Z e]),recovered:=false}::pG)) w λE u' Y=>
  E=δ (.tuple #[])/\u'=.panicking ({v:=.iface 103 (.agg #[V Z e]),recovered:=true}::pG)/\Y=(w.alloc (ι #[V Z e] 103)).setCell p (V Z e):=by
 have hta:=tG;have fN:∀o,(w.alloc o).frozen? p=false:=λo=>by rw[World.frozen?_alloc_old w o p (by omega)];exact hz
 have hf:=kW p (.iface 103 (.agg #[V Z e]));refine callsD_of_wpS func88 rfl λc₀ cs hu=>?_;refine mI λatH hK=>?_;refine wpS_region ?_;simp[wpOpsS,go_sem,recoverD,hu,ntmps88,Exit.thenS];rw[hf];refine hK _ _ _ ?_;clear hK atH hf;refine wpS_of_wp ?_;go_wp2;exact⟨rfl,_,rfl,.tuple #[],by simp[results,results88],rfl,rfl,rfl⟩
theorem Iq (p q r:ϟ)(l:List (Int×Int))(w:υ)
 (hf:∀W,Below w.heap.size w W->Δ prog 46 #[ζ (some p),ζ (some q),ζ (some r)] W λE Y=>(∃v,E=δ v/\Y.ownsRow W.heap.size 39 2 v l.length (mF l))/\Below W.heap.size W Y):
 Δ prog 45 #[.func (.func 46) #[] #[ζ (some p),ζ (some q),ζ (some r)]] w λE Y=>(∃v,E=δ (.tuple #[v,V Z 0])/\Y.ownsRow w.heap.size 39 2 v l.length (mF l))/\Below w.heap.size w Y:=by
 have uo:∀(fn:Fn) (first cap:Array Value) (w:υ),(Instr.makeFunc fn first cap).run prog w=.ok (.func fn first cap) w:=λ_ _ _ _=>rfl;have HF:=H hf;clear hf;go_enter_defers func45,ntmps45;go_wp2_with fail;refine(HF.out _ ((Θ _ _).alloc (φ _) _)).mono ?_;rintro e w1 ⟨⟨v,rfl,aU⟩,au⟩;obtain⟨hc,qv⟩:=rL au;have hz:=au.size;have h0:w1.cell? ⟨w.heap.size,0,none⟩=some (V Z 0):=by rw[hc _ _ (by simp)];simp[go_sem]
 have G:w1.frozen? ⟨w.heap.size,0,none⟩=false:=by rw[qv _ _ (by simp)];simp[go_sem]
 have aQ:w.heap.size<w1.heap.size:=by simp at hz;omega
 have U:Below w.heap.size w w1:=((Θ _ _).alloc (φ _) _).trans (au.mono (by simp));clear hc qv au hz;have df:∀k,v.ownBlock=some k->k≠w.heap.size:=λk I=>by have:=(aU.lt k I).1;simp at this;omega
 have gV:=eO aU (Y:=w1.setCell ⟨w.heap.size,0,none⟩ (V Z 0)) λg hg=>Ω _ _ _ _ (df g hg);replace gV:=tX gV (show w.heap.size<=_ by simp);obtain⟨a5,c5,rfl⟩:=nZ aU;clear aU df;go_wp2;refine leaves_cons (f:=88) (args:=#[ζ (some ⟨w.heap.size,0,none⟩)]) (by simp) (by simp[go_sem]) ?_;refine(Ip _ _).mono ?_;rintro e u' az ⟨rfl,rfl,rfl⟩;refine⟨.tuple #[η a5 l.length c5,V Z 0],?_,⟨_,rfl,gV⟩,U.setCell (φ _) _⟩;simp[results,results45,go_sem,h0]
theorem KI (p q r:ϟ)(x:Int)(w:υ)
 (hf:∀W,Below w.heap.size w W->Δ prog 46 #[ζ (some p),ζ (some q),ζ (some r)] W λE Y=>E=ε (bF x)/\Below W.heap.size W Y):
 Δ prog 45 #[.func (.func 46) #[] #[ζ (some p),ζ (some q),ζ (some r)]] w λE Y=>E=δ (.tuple #[η none 0 0,V Z x])/\Below w.heap.size w Y:=by
 have uo:∀(fn:Fn) (first cap:Array Value) (w:υ),(Instr.makeFunc fn first cap).run prog w=.ok (.func fn first cap) w:=λ_ _ _ _=>rfl;have HF:=H hf;clear hf;go_enter_defers func45,ntmps45;go_wp2_with fail;refine(HF.out _ ((Θ _ _).alloc (φ _) _)).mono ?_;rintro e w1 ⟨rfl,au⟩;obtain⟨hc,qv⟩:=rL au;have hz:=au.size;have h0:w1.cell? ⟨w.heap.size,0,none⟩=some (V Z 0):=by rw[hc _ _ (by simp)];simp[go_sem]
 have G:w1.frozen? ⟨w.heap.size,0,none⟩=false:=by rw[qv _ _ (by simp)];simp[go_sem]
 have aQ:w.heap.size<w1.heap.size:=by simp at hz;omega
 have U:Below w.heap.size w w1:=((Θ _ _).alloc (φ _) _).trans (au.mono (by simp));clear hc qv au hz;refine leaves_cons (f:=88) (args:=#[ζ (some ⟨w.heap.size,0,none⟩)]) (by simp) (by simp[go_sem]) ?_;refine(zO ⟨w.heap.size,0,none⟩ x (V Z 0) [] _ h0 G aQ).mono ?_;rintro e u' az ⟨rfl,rfl,rfl⟩;refine⟨.tuple #[η none 0 0,V Z x],?_,rfl,(U.alloc (Nat.le_of_lt aQ) _).setCell (φ _) _⟩;have A:((w1.alloc (ι #[V Z x] 103)).cell? ⟨w.heap.size,0,none⟩).isSome=true:=by
  rw[World.cell?_alloc_past _ _ _ aQ,h0];rfl
 simp[results,results45,go_sem,A]
theorem aac (s:List UInt8)(f t:Int)(p q r:ϟ)(w:υ)(hm:ML w)(ht:jg w)(hs:s.length<=1048576)(c0:w.cell? p=some (θ ⟨s.toArray⟩))(c1:w.cell? q=some (V Z f))(c2:w.cell? r=some (V Z t))(x:Int)(h:wK s f t=.error x):
 Δ prog 46 #[ζ (some p),ζ (some q),ζ (some r)] w λE Y=>E=ε (bF x)/\Below w.heap.size w Y:=by
 have C:Hid (Δ prog 47 #[θ ⟨s.toArray⟩,V Z f,V Z t] w λE Y=>E=ε (bF x)/\Below w.heap.size w Y):=H ((Dk s f t w hm ht hs).mono λE Y J=>by
  unfold vn at J;rw[h]at J;exact J)
 clear hm ht h;go_enter func46,ntmps46;go_wp2_with fail;refine(C.out).mono ?_;rintro e w1 ⟨rfl,U⟩;exact⟨rfl,rfl,U⟩
theorem Xw (s:List UInt8)(f t:Int)(p q r:ϟ)(w:υ)(hm:ML w)(ht:jg w)(hs:s.length<=1048576)(c0:w.cell? p=some (θ ⟨s.toArray⟩))(c1:w.cell? q=some (V Z f))(c2:w.cell? r=some (V Z t))(l:List (Int×Int))(h:wK s f t=.ok l):
 Δ prog 46 #[ζ (some p),ζ (some q),ζ (some r)] w λE Y=>(∃v,E=δ v/\Y.ownsRow w.heap.size 39 2 v l.length (mF l))/\Below w.heap.size w Y:=by
 have C:Hid (Δ prog 47 #[θ ⟨s.toArray⟩,V Z f,V Z t] w λE Y=>(∃v,E=δ v/\Y.ownsRow w.heap.size 39 2 v l.length (mF l))/\Below w.heap.size w Y):=H ((Dk s f t w hm ht hs).mono λE Y J=>by
  unfold vn at J;rw[h]at J;exact J)
 clear hm ht h;go_enter func46,ntmps46;go_wp2_with fail;refine(C.out).mono ?_;rintro e w1 ⟨⟨v,rfl,aU⟩,U⟩;go_wp2_with fail;go_ret;exact⟨⟨v,rfl,aU⟩,U⟩
def BV (s:List UInt8)(f t:Int)(w:υ):Ending->υ->Prop:=λe Y=>
 (match wK s f t with
  | .error x=>e=δ (.tuple #[η none 0 0,V Z x])
  | .ok l=>∃v,e=δ (.tuple #[v,V Z 0])/\Y.ownsRow w.heap.size 39 2 v l.length (mF l))/\Below w.heap.size w Y
theorem Vq (s:List UInt8)(f t:Int)(w:υ)(hm:ML w)(ht:jg w)(hs:s.length<=1048576):
 Δ prog 23 #[θ ⟨s.toArray⟩,V Z f,V Z t] w (BV s f t w):=by
 have uo:∀(fn:Fn) (first cap:Array Value) (w:υ),(Instr.makeFunc fn first cap).run prog w=.ok (.func fn first cap) w:=λ_ _ _ _=>rfl;obtain⟨W0,gp⟩:∃W0,W0=((w.alloc (ι #[θ ⟨s.toArray⟩] 9)).alloc (ι #[V Z f] 3)).alloc (ι #[V Z t] 3):=⟨_,rfl⟩;have Ir:Below w.heap.size w W0:=by
  subst gp;exact(((Θ _ _).alloc (φ _) _).alloc (by simp) _).alloc (by simp;omega) _
 have bh:∀W,Below W0.heap.size W0 W->Below w.heap.size w W:=λW U=>Ir.trans (U.mono Ir.size);have k0:W0.cell? ⟨w.heap.size,0,none⟩=some (θ ⟨s.toArray⟩)/\W0.cell? ⟨w.heap.size+1,0,none⟩=some (V Z f)/\W0.cell? ⟨w.heap.size+1+1,0,none⟩=some (V Z t)/\W0.heap.size=w.heap.size+3:=by
  subst gp;refine⟨?_,?_,?_,by simp⟩<;>simp[go_sem]
 obtain⟨k0,k1,k2,k3⟩:=k0;have dY:∀W,Below W0.heap.size W0 W->W.cell? ⟨w.heap.size,0,none⟩=some (θ ⟨s.toArray⟩)/\W.cell? ⟨w.heap.size+1,0,none⟩=some (V Z f)/\W.cell? ⟨w.heap.size+1+1,0,none⟩=some (V Z t):=λW U=>
  ⟨(U.cell (by simp;omega)).trans k0,(U.cell (by simp;omega)).trans k1,(U.cell (by simp;omega)).trans k2⟩
 cases h:wK s f t with
 |error x=>
  have hv:BV s f t w=λe Y=>e=δ (.tuple #[η none 0 0,V Z x])/\Below w.heap.size w Y:=by unfold BV;rw[h]
  rw[hv];have C:=H (KI ⟨w.heap.size,0,none⟩ ⟨w.heap.size+1,0,none⟩ ⟨w.heap.size+1+1,0,none⟩ x W0 (λW U=>aac s f t _ _ _ W (hm.on (bh W U)) (ht.on (bh W U)) hs (dY W U).1 (dY W U).2.1 (dY W U).2.2 x h));replace gp:=H gp;clear dY bh hm ht hv h k0 k1 k2 k3;go_enter func23,ntmps23;go_wp2_with fail;rw[<-gp.out];refine(C.out).mono ?_;rintro e w1 ⟨rfl,U⟩;go_wp2_with fail;go_ret2;exact⟨rfl,Ir.trans (U.mono Ir.size)⟩
 |ok l=>
  have hv:BV s f t w=λe Y=>(∃v,e=δ (.tuple #[v,V Z 0])/\Y.ownsRow w.heap.size 39 2 v l.length (mF l))/\Below w.heap.size w Y:=by unfold BV;rw[h]
  rw[hv];have C:=H (Iq ⟨w.heap.size,0,none⟩ ⟨w.heap.size+1,0,none⟩ ⟨w.heap.size+1+1,0,none⟩ l W0 (λW U=>Xw s f t _ _ _ W (hm.on (bh W U)) (ht.on (bh W U)) hs (dY W U).1 (dY W U).2.1 (dY W U).2.2 l h));replace gp:=H gp;replace k3:=H k3;clear dY bh hm ht hv h k0 k1 k2;go_enter func23,ntmps23;go_wp2_with fail;rw[<-gp.out];refine(C.out).mono ?_;rintro e w1 ⟨⟨v,rfl,aU⟩,U⟩;obtain⟨a5,c5,rfl⟩:=nZ aU;go_wp2_with fail;go_ret2;exact⟨⟨_,rfl,tX aU (by have:=k3.out;omega)⟩,Ir.trans (U.mono Ir.size)⟩
def bN (c n:Int):Int:=if c<0 then(-(c+1))%n else c%n
theorem fa (c n:Int)(h:0<n):0<=bN c n/\bN c n<n:=by
 unfold bN;split
 ·exact⟨ύ _ (by omega),Int.emod_lt_of_pos _ h⟩
 exact⟨ύ _ (by omega),Int.emod_lt_of_pos _ h⟩
theorem lU (c n:Int)(w:υ)(h0:-9223372036854775808<=c)(G:c<=9223372036854775807)(n0:0<n)(n1:n<=9223372036854775807):
 Δ prog 17 #[V Z c,V Z n] w λe Y=>e=δ (V Z (bN c n))/\w=Y:=by
 unfold bN;by_cases hc:c<0
 ·rw[if_pos hc];go_enter func17,ntmps17;go_wp2;go_ret;refine⟨acB ?_,rfl⟩;rw[<-Int.neg_tmod,Int.tmod_eq_emod_of_nonneg (by omega)]
 rw[if_neg hc];go_enter func17,ntmps17;go_wp2;go_ret;exact⟨rfl,rfl⟩
def kU:Nat->Int->List UInt8
 |0,_=>[]
 |g+1,n=>(if n<10 then[]else kU g (n/10))++[Ι (48+n%10).toNat]
def cY (n:Int):List UInt8:=kU 20 n
theorem uX (n:Int)(w:υ)(h0:0<=n)(G:n<100000000000000000000)(A:n<=9223372036854775807):
 Δ prog 21 #[V Z n] w λe Y=>e=δ (θ ⟨(cY n).toArray⟩)/\Below w.heap.size w Y:=by
 have AD:=XQ;have hm:0<=n%10/\n%10<10:=by omega
 have iK:Hid ((if n<10 then[]else kU 19 (n/10))++[Ι (48+n%10).toNat]=cY n):=H rfl;go_enter func21,ntmps21;go_wp2;go_loopw [0,3] (λt s wr=>∃(g:Nat) (q:Int) (l:List UInt8),g<=19/\0<=q/\q<=9223372036854775807/\Hid (q<10^(g+1))/\t=V Z q/\s=θ ⟨l.toArray⟩/\l.length<=20-g/\Hid ((if q<10 then[]else kU g (q/10))++l=cY n)/\Below w.heap.size w wr) (λt _ _=>(intOf t).toNat)
 case atStart=>exact⟨19,n,_,by omega,h0,A,H (by omega),rfl,rfl,by simp,iK,(Θ _ _).alloc (φ _) _⟩
 case round=>
  obtain⟨g,q,l,g0,q0,q1,hq,rfl,rfl,N,HP,U⟩:=hrel;clear iK;by_cases aQ:10<=q
  ·have hg:∃k,g=k+1:=by
    cases g with
    |zero=>have:=hq.out;simp at this;omega
    |succ k=>exact⟨k,rfl⟩
   obtain⟨k,rfl⟩:=hg;have hq':Hid (q/10<10^(k+1)):=H (by have:=hq.out;rw[Int.pow_succ]at this;omega);have HP':Hid ((if q/10<10 then[]else kU k (q/10/10))++(Ι (48+q/10%10).toNat::l)=cY n):=H (by
    have:=HP.out;rw[if_neg (by omega),kU,ψ]at this;exact this)
   clear HP hq;have MY:0<=q/10%10/\q/10%10<10:=by omega
   go_wp2;refine⟨⟨k,q/10,Ι (48+q/10%10).toNat::l,by omega,by omega,by omega,hq',rfl,aeq (pz [_] l),by simp;omega,HP',?_⟩,by simp[intOf];omega⟩;exact U.alloc U.size _
  have HQ:Hid (l=cY n):=H (by
   have:=HP.out;rw[if_pos (by omega)]at this;exact this)
  clear HP;go_wp2;go_ret;exact⟨nk (by rw[HQ.out]),U⟩
theorem Kb:∀(g:Nat) (n:Int),0<=n->n<10^g->iC (kU g n)=n/\(kU g n).all fg=true
 |0,n,h0,G=>by simp at G;exact⟨by simp[kU,iC];omega,rfl⟩
 |g+1,n,h0,G=>by
  have U:((Ι (48+n%10).toNat).toNat:Int)=48+n%10:=by
   rw[UInt8.toNat_ofNat',Nat.mod_eq_of_lt (by omega)];omega
  rw[kU,zP,U,List.all_append];have hd:fg (Ι (48+n%10).toNat)=true:=(xa _).2 (by omega);by_cases h:n<10
  ·rw[if_pos h];exact⟨by simp[iC];omega,by simp[hd]⟩
  rw[if_neg h];obtain⟨i1,i2⟩:=Kb g (n/10) (by omega) (by rw[Int.pow_succ]at G;omega);rw[i1,i2];exact⟨by omega,by simp[hd]⟩
theorem vo:∀(g:Nat) (n:Int) (k:Nat),n<10^(k+1)->(kU g n).length<=k+1
 |0,n,k,h=>by simp[kU]
 |g+1,n,k,h=>by
  rw[kU,ο];by_cases G:n<10
  ·rw[if_pos G];simp
  rw[if_neg G];cases k with
  |zero=>simp at h;omega
  |succ k=>
   have:=vo g (n/10) k (by rw[Int.pow_succ]at h;omega);simp;omega
theorem Kc:∀(g:Nat) (n:Int),1<=n->n<10^g->(kU g n).head?≠some 48
 |0,n,h,A=>by simp[kU]
 |g+1,n,h,A=>by
  rw[kU];by_cases G:n<10
  ·rw[if_pos G];intro e;have e':=Option.some.inj e;have e2:=congrArg UInt8.toNat e';rw[UInt8.toNat_ofNat',Nat.mod_eq_of_lt (by omega)]at e2;have:(48:UInt8).toNat=48:=rfl;omega
  rw[if_neg G];have aQ:n/10<10^g:=by rw[Int.pow_succ]at A;omega
  have ih:=Kc g (n/10) (by omega) aQ;cases hd:kU g (n/10)with
  |nil=>
   intro e;cases g with
   |zero=>simp at aQ;omega
   |succ g=>rw[kU]at hd;simp at hd
  |cons a r=>rw[hd]at ih;exact ih
theorem ah2 (n:Int):cY n≠[]:=by unfold cY;rw[kU];simp
theorem BX (n:Int)(h0:0<=n)(G:n<10000000):dx (cY n)=true/\dw (cY n)=n/\(cY n).all fg=true/\(cY n).length<=7:=by
 obtain⟨a,b⟩:=Kb 20 n h0 (by omega);have N:=vo 20 n 6 (by omega);have hs:kk (cY n)=true:=by
  unfold kk;simp only[Β,decide_eq_true_eq,Bool.not_eq_true',Bool.and_eq_false_iff,decide_eq_false_iff_not];refine⟨⟨?_,N⟩,?_⟩
  ·have:=ah2 n;cases h:cY n with
   |nil=>exact absurd h this
   |cons x r=>simp
  by_cases hn:n<10
  ·right;have:=vo 20 n 0 (by omega);show¬1<(kU 20 n).length;omega
  left;have:=Kc 20 n (by omega) (by omega);cases h:(cY n).head?==some 48
  ·rfl
  exact absurd (eq_of_beq h) this
 have hd:bP (cY n)=n:=by unfold bP cY;rw[if_pos b,a]
 refine⟨?_,?_,b,N⟩
 ·unfold dx;rw[hs,hd];simp[h0]
 unfold dw;rw[if_pos hs,hd]
theorem dgb (n:Int):((Ι (48+n%10).toNat).toNat:Int)=48+n%10:=by
 rw[UInt8.toNat_ofNat',Nat.mod_eq_of_lt (by omega)];omega
theorem N3:∀(k:Nat) (n:Int),0<=n->n<10^k->iC (pad k n)=n/\(pad k n).all fg=true
 |0,n,h0,G=>by simp at G;exact⟨by simp[pad,iC];omega,rfl⟩
 |k+1,n,h0,G=>by
  obtain⟨i1,i2⟩:=N3 k (n/10) (by omega) (by rw[Int.pow_succ]at G;omega);have hd:fg (Ι (48+n%10).toNat)=true:=(xa _).2 (by have:=dgb n;omega);rw[pad,zP,dgb,i1,List.all_append,i2];exact⟨by omega,by simp[hd]⟩
theorem rq (k:Nat)(n:Int)(h0:0<=n)(G:n<10^k):bP (pad k n)=n:=by
 obtain⟨a,b⟩:=N3 k n h0 G;unfold bP;rw[if_pos b,a]
structure Tg (n:Int):Prop where
 y0:1970<=ag.aq (n/86400)
 y1:ag.aq (n/86400)<=2199
 v:ag.Valid (ag.aq (n/86400)) (ag.ofM (n/86400)) (ag.aA (n/86400))
 e:ag.num (ag.aq (n/86400)) (ag.ofM (n/86400)) (ag.aA (n/86400))=n/86400
theorem ai9 {n:Int}(h0:0<=n)(G:n<7258118400):Tg n:=by
 obtain⟨a,b,c⟩:=Ty (n:=n/86400) (by omega) (by omega);exact⟨a,b,c,ag.nV _ (by omega)⟩
theorem Tg.bd {n:Int}(h:Tg n):1<=ag.ofM (n/86400)/\ag.ofM (n/86400)<=12/\1<=ag.aA (n/86400)/\ag.aA (n/86400)<=31:=by
 obtain⟨a,b,c,d⟩:=h.v;have:=ag.rJ (ag.aq (n/86400)) (ag.ofM (n/86400));omega
theorem anG (l:List UInt8)(a k:Nat):cut ⟨l.toArray⟩ a k=(l.drop a).take k:=rfl
theorem O1 (n:Int):cut ⟨(dv n).toArray⟩ 0 4=pad 4 (ag.aq (n/86400))/\cut ⟨(dv n).toArray⟩ 4 2=pad 2 (ag.ofM (n/86400))/\cut ⟨(dv n).toArray⟩ 6 2=pad 2 (ag.aA (n/86400))/\
 cut ⟨(dv n).toArray⟩ 9 2=pad 2 (n%86400/3600)/\cut ⟨(dv n).toArray⟩ 11 2=pad 2 (n%86400/60%60)/\cut ⟨(dv n).toArray⟩ 13 2=pad 2 (n%86400%60)/\pA ⟨(dv n).toArray⟩ 8=84/\pA ⟨(dv n).toArray⟩ 15=90:=by
 simp only[anG,dv,pad,pA];refine⟨?_,?_,?_,?_,?_,?_,?_,?_⟩<;>simp
theorem aad {n:Int}(h0:0<=n)(G:n<7258118400):nW ⟨(dv n).toArray⟩/\jA ⟨(dv n).toArray⟩=n:=by
 obtain⟨c0,c1,c2,c3,c4,c5,a0,a1⟩:=O1 n;have p:=ai9 h0 G;have q:=p.bd;have e0:=rq 4 (ag.aq (n/86400)) (by have:=p.y0;omega) (by have:=p.y1;omega);have e1:=rq 2 (ag.ofM (n/86400)) (by omega) (by omega);have e2:=rq 2 (ag.aA (n/86400)) (by omega) (by omega);have e3:=rq 2 (n%86400/3600) (by omega) (by omega);have e4:=rq 2 (n%86400/60%60) (by omega) (by omega);have e5:=rq 2 (n%86400%60) (by omega) (by omega);unfold nW jA;rw[c0,c1,c2,c3,c4,c5,e0,e1,e2,e3,e4,e5,p.e];refine⟨⟨by show(dv n).length=16;unfold dv;simp[lk],a0,a1,p.y0,p.y1,p.v,by omega,by omega,by omega,by omega,by omega,by omega⟩,by omega⟩
theorem Gq:∀(ds rest cur:List UInt8) (u:Nat) (tm:Bool) (sum:Int) (parts:Nat),ds.all fg=true->eC (ds++rest) cur u tm sum parts=eC rest (cur++ds) u tm sum parts
 |[],rest,cur,u,tm,sum,parts,h=>by simp
 |c::ds,rest,cur,u,tm,sum,parts,h=>by
  simp only[List.all_cons,Β]at h;rw[κ,eC,if_pos h.1,Gq ds rest _ u tm sum parts h.2];simp
theorem Th (c:UInt8)(rest cur:List UInt8)(u k:Nat)(tm:Bool)(sum:Int)(parts:Nat)(hc:fg c=false)(h84:c.toNat≠84)(hn:dx cur=true)(I:ik u c=k)(k4:k≠4)(ht:decide (0<k)=tm):
 eC (c::rest) cur u tm sum parts=eC rest [] (k+1) tm (sum+dw cur*ou k) (parts+1):=by
 subst I;rw[eC,if_neg (by simp[hc]),if_neg h84,if_neg (by rintro(h|h|h)<;>first|exact k4 h|exact h ht|simp[hn]at h)]
theorem N4 {a:UInt8}(h:a≠13):∀r:List UInt8,fM (a::r)=a::fM r
 |[]=>rfl
 |[b]=>rfl
 |b::c::r=>by rw[fM,if_neg (λq=>h q.1)]
theorem N5 (rest:List UInt8)(hr:rest.head?≠some 32):∀l:List UInt8,(∀x∈l,x≠13)->fM (l++13::10::rest)=l++13::10::fM rest
 |[],_=>by
  cases rest with
  |nil=>rfl
  |cons c r=>
   have hc:c≠32:=λq=>hr (by rw[q];rfl);rw[μ,μ,fM,if_neg (λq=>hc q.2.2),N4 (by decide)]
 |a::l,h=>by
  rw[κ,N4 (h a (by simp)),N5 rest hr l (λx X=>h x (by simp[X]))];rfl
def xV (l:List UInt8):Prop:=(∀x∈l,x≠13)/\l.head?≠some 32
theorem vp (l:List UInt8)(ls:List (List UInt8)):dL (l::ls)=l++13::10::dL ls:=by unfold dL;simp
theorem aae:∀ls:List (List UInt8),(∀l∈ls,xV l)->(dL ls).head?≠some 32
 |[],_=>by simp[dL]
 |[]::ls,_=>by rw[vp];simp
 |(a::l)::ls,h=>by
  rw[vp];have:=(h (a::l) (by simp)).2;simpa using this
theorem Rf:∀ls:List (List UInt8),(∀l∈ls,xV l)->fM (dL ls)=dL ls
 |[],_=>rfl
 |l::ls,h=>by
  rw[vp,N5 _ (aae ls λx X=>h x (by simp[X])) l (h l (by simp)).1,Rf ls λx X=>h x (by simp[X])]
theorem Er (rest:List UInt8):∀(l acc:List UInt8),(∀x∈l,x≠13)->nX (l++13::10::rest) acc=((acc++l)::(nX rest []).1,(nX rest []).2)
 |[],acc,_=>by rw[μ,nX,if_pos ⟨rfl,rfl⟩,τ]
 |[a],acc,h=>by
  have ha:=h a (by simp);rw[κ,μ,nX,if_neg (λq=>ha q.1)];have:=Er rest [] (acc++[a]) (by simp);rw[μ]at this;rw[this,τ]
 |a::b::l,acc,h=>by
  have ha:=h a (by simp);rw[κ,κ,nX,if_neg (λq=>ha q.1)];have:=Er rest (b::l) (acc++[a]) (λx X=>h x (ν _ X));rw[κ]at this;rw[this,ψ];rfl
theorem Rg:∀ls:List (List UInt8),(∀l∈ls,xV l)->nX (dL ls) []=(ls,true)
 |[],_=>rfl
 |l::ls,h=>by
  rw[vp,Er _ l [] (h l (by simp)).1,Rg ls λx X=>h x (by simp[X])];rfl
theorem Ti (inner:List (List UInt8))(h:∀l∈inner,xV l)(N:(dL (gq::inner++[lB])).length<=2000):
 iA (dL (gq::inner++[lB]))=match eH cg 58 inner (λ_=>none)with
  |none=>none
  |some f=>if must f&&kT f then some f else none:=by
 have bx:∀l∈gq::inner++[lB],xV l:=λl hm=>by
  simp only[κ,ω,Ε,Τ,or_false]at hm;rcases hm with rfl|hm|rfl
  ·exact⟨by decide,by decide⟩
  ·exact h l hm
  exact⟨by decide,by decide⟩
 have e1:=Rf _ bx;have e2:=Rg _ bx;have e3:lH (dL (gq::inner++[lB]))=gq::inner++[lB]:=by unfold lH;rw[e1,e2]
 have e4:sQ (dL (gq::inner++[lB]))=true:=by
  unfold sQ;rw[e3,e1,e2];simp;exact N
 have e5:gu (gq::inner++[lB])=inner:=by
  unfold gu;simp
 unfold iA;rw[e4,e3,e5];rfl
def Kd:List (Nat×List UInt8)->(Nat->Option (List UInt8))->Nat->Option (List UInt8)
 |[],f=>f
 |p::r,f=>Kd r (λj=>if j=p.1 then some p.2 else f j)
theorem N6 (ns:List (List UInt8))(c:UInt8):∀(ps:List (Nat×List UInt8)) (f:Nat->Option (List UInt8)),(∀p∈ps,vx ns c (ns.getD p.1 []++c::p.2)=some p)->(ps.map (·.1)).Nodup->(∀p∈ps,f p.1=none)->
 eH ns c (ps.map λp=>ns.getD p.1 []++c::p.2) f=some (Kd ps f)
 |[],f,_,_,_=>rfl
 |p::r,f,G,A,K=>by
  rw[Ζ,eH,G p (by simp)];have h4:=K p (by simp);simp only[h4,Option.isSome_none,Ο,if_false];rw[Ζ,List.nodup_cons]at A;rw[Kd];refine N6 ns c r _ (λq hq=>G q (by simp[hq])) A.2 (λq hq=>?_);have:q.1≠p.1:=λe=>A.1 (by rw[<-e];exact List.mem_map.2 ⟨q,hq,rfl⟩);rw[if_neg this];exact K q (by simp[hq])
theorem aaf (k:Nat)(v:List UInt8)(h:k<9):vx cg 58 (cg.getD k []++58::v)=some (k,v):=by
 unfold vx;have I:k=0\/k=1\/k=2\/k=3\/k=4\/k=5\/k=6\/k=7\/k=8:=by omega
 rcases I with rfl|rfl|rfl|rfl|rfl|rfl|rfl|rfl|rfl<;>(rw[pC (by decide)];rfl)
theorem ah4 {t:Int}(h0:0<=t)(G:t<=7258118399):vz t=dv t:=by
 unfold vz;rw[if_pos (by unfold cq;simp;omega)]
theorem Ke {t:Int}(h0:0<=t)(G:t<=7258118399):fU (vz t)=some t:=by
 obtain⟨a,b⟩:=aad h0 (show t<7258118400 by omega);rw[ah4 h0 G];unfold fU bU;rw[if_pos (gw.2 a),b]
theorem tY (k:Nat):∀(n:Int) (x:UInt8),x∈pad k n->48<=x.toNat/\x.toNat<=57:=by
 induction k with
 |zero=>intro n x h;simp[pad]at h
 |succ k ih=>
  intro n x h;rw[pad,Ε]at h;rcases h with h|h
  ·exact ih _ _ h
  simp only[Γ]at h;subst h;have:=dgb n;omega
theorem ah5 (t:Int)(x:UInt8)(h:x∈vz t):(48<=x.toNat/\x.toNat<=57)\/x=84\/x=90:=by
 unfold vz at h;split at h
 ·unfold dv at h;simp only[Ε,Γ]at h;rcases h with((((((h|h)|h)|h)|h)|h)|h)|h
  ·exact .inl (tY _ _ _ h)
  ·exact .inl (tY _ _ _ h)
  ·exact .inl (tY _ _ _ h)
  ·exact .inr (.inl h)
  ·exact .inl (tY _ _ _ h)
  ·exact .inl (tY _ _ _ h)
  ·exact .inl (tY _ _ _ h)
  exact .inr (.inr h)
 simp at h
theorem UW {o:Option (List UInt8)}{ex:List Int}(h:qF o=some ex):fR ex/\ex.length<=20/\(∀t∈ex,0<=t/\t<=7258118399):=by
 rw[BE]at h;unfold tw at h;obtain⟨ys,hy,rfl⟩:=Option.map_eq_some_iff.1 h;have G:=Io (p:=λz=>0<=z/\z<=7258118399) (λv z hz=>xx hz) hy;refine⟨(KZ ys).1,?_,λt ht=>G t (((KZ ys).2 t).1 ht)⟩;have A:ys.length<=20:=by
  unfold dW at hy;split at hy
  ·cases hy;simp
  split at hy
  ·rename_i h5;rw[BY hy];exact h5
  cases hy
 have K:(Lib.compact (ys.mergeSort λx y=>decide (x<=y))).length<=(ys.mergeSort λx y=>decide (x<=y)).length:=yN _;rw[List.length_mergeSort]at K;omega
def qt (n:Nat)(v:List UInt8):Prop:=v.length<=n/\13∉v
theorem qt.app {n m:Nat}{u v:List UInt8}(h:qt n u)(h':qt m v):qt (n+m) (u++v):=
 ⟨by rw[ο];have:=h.1;have:=h'.1;omega,λq=>(List.mem_append.1 q).elim h.2 h'.2⟩
theorem aag {l:List UInt8}(h:dx l=true):qt 7 l:=by
 unfold dx kk at h;simp only[Β,decide_eq_true_eq]at h;refine⟨h.1.1.2,λhc=>?_⟩;have A:=h.2;unfold bP at A;split at A
 ·rename_i ha;have:=List.all_eq_true.1 ha 13 hc;exact absurd this (by decide)
 omega
theorem N7 (t:Int):qt 16 (vz t):=by
 refine⟨?_,λhc=>?_⟩
 ·unfold vz;split
  ·unfold dv;simp[lk]
  simp
 rcases ah5 t _ hc with h|h|h<;>simp at h
theorem Xx {u:List UInt8}(h:fT (ba u)=true):qt 12 u:=by
 unfold fT at h;simp only[Β,decide_eq_true_eq]at h;have e:(ba u).size=u.length:=by unfold ba;simp[ByteArray.size]
 refine⟨by omega,λhc=>?_⟩;exact absurd (List.all_eq_true.1 h.1.1 13 hc) (by decide)
def qG (k:Nat)(o:Option (List UInt8)):List (Nat×List UInt8):=match o with|none=>[]|some v=>[(k,v)]
theorem aeb (k:Nat)(o:Option (List UInt8))(p:Nat×List UInt8):p∈qG k o↔p.1=k/\o=some p.2:=by
 unfold qG;cases o with
 |none=>simp
 |some v=>
  simp only[Γ,Option.some.injEq];constructor
  ·rintro rfl;exact⟨rfl,rfl⟩
  rintro⟨rfl,rfl⟩;rfl
def sS (p:Nat×List UInt8):List UInt8:=cg.getD p.1 []++58::p.2
theorem ah6 {p:Nat×List UInt8}(h:p.1<9)(A:13∉p.2):xV (sS p):=by
 have e:∀k,k<9->13∉cg.getD k []/\∃a r,cg.getD k []=a::r/\a≠32:=by
  intro k I;have cj:k=0\/k=1\/k=2\/k=3\/k=4\/k=5\/k=6\/k=7\/k=8:=by omega
  rcases cj with rfl|rfl|rfl|rfl|rfl|rfl|rfl|rfl|rfl<;>exact⟨by decide,_,_,rfl,by decide⟩
 obtain⟨e1,a,r,e2,e3⟩:=e p.1 h;unfold sS;refine⟨λx X q=>?_,?_⟩
 ·subst q;rcases List.mem_append.1 X with X|X
  ·exact e1 X
  rcases List.mem_cons.1 X with X|X
  ·exact absurd X (by decide)
  exact A X
 rw[e2,κ,List.head?_cons];intro q;exact e3 (Option.some.inj q)
theorem Xy (ps:List (Nat×List UInt8))(G:∀p∈ps,p.1<9/\13∉p.2)(A:(ps.map (·.1)).Nodup)(N:(dL (gq::ps.map sS++[lB])).length<=2000):
 iA (dL (gq::ps.map sS++[lB]))=if must (Kd ps λ_=>none)&&kT (Kd ps λ_=>none)then some (Kd ps λ_=>none)else none:=by
 rw[Ti (ps.map sS) (λl hm=>by
  obtain⟨p,J,rfl⟩:=List.mem_map.1 hm;exact ah6 (G p J).1 (G p J).2) N]
 have e:ps.map sS=ps.map λp=>cg.getD p.1 []++58::p.2:=rfl;rw[e,N6 cg 58 ps _ (λp J=>aaf p.1 p.2 (G p J).1) A (λ_ _=>rfl)]
theorem Is (a b:List (List UInt8)):dL (a++b)=dL a++dL b:=by unfold dL;simp
def xX (n:Int):List UInt8:=if cq n then dv n else[]
theorem Gs (n:Int):∃x:Int,kG n=.tuple #[θ ⟨(xX n).toArray⟩,V Z x]:=by
 unfold kG xX;by_cases h:cq n=true
 ·rw[if_pos h,if_pos h];exact⟨_,rfl⟩
 rw[if_neg h,if_neg h];exact⟨_,rfl⟩
theorem Tj (n:Int):(dv n).length=16:=by unfold dv;simp[lk]
theorem B8 (n:Int):(xX n).length<=16:=by unfold xX;split<;>simp[Tj]
def wo (st ln:Int):List UInt8:=if ln%86400=0/\ln/86400<32 then[68,85,82,65,84,73,79,78,58,80]++cY (ln/86400)++[68]++[13,10]else[68,84,69,78,68,58]++xX (st+ln)++[13,10]
def yH (cb:List UInt8):List UInt8:=if cb=[]then[]else[82,82,85,76,69,58]++cb++[13,10]
def BF (u:List UInt8)(st:Int):List UInt8:=[66,69,71,73,78,58,86,69,86,69,78,84,13,10,85,73,68,58]++u++[13,10]++[68,84,83,84,65,82,84,58]++xX st++[13,10]
def fJ (u:List UInt8)(st ln:Int)(cb:List UInt8):List UInt8:=BF u st++wo st ln++yH cb++[69,78,68,58,86,69,86,69,78,84]++[13,10]
theorem Vo (st ln:Int)(h:0<=ln):(wo st ln).length<=40:=by
 unfold wo;split
 ·rename_i q;have:=vo 20 (ln/86400) 6 (by omega);simp[cY];omega
 have:=B8 (st+ln);simp;omega
theorem YZ (u:List UInt8)(st:Int):(BF u st).length<=u.length+60:=by
 have:=B8 st;unfold BF;simp;omega
theorem aah (atC P1 D R:ByteArray)(x1 st ln:Int)(w:υ)(C1:Hid (Δ prog 18 #[V Z st] w λE Y=>E=δ (.tuple #[θ P1,V Z x1])/\Below w.heap.size w Y))
 (C3:Hid (∀W,Below w.heap.size w W->Δ prog 21 #[V Z (ln/86400)] W λE Y=>E=δ (θ D)/\Below W.heap.size W Y))
 (hU:atC.size<=1000)(G:P1.size<=16)(K:D.size<=20)(h4:R.size<=1000)(l0:0<=ln)(l1:ln<=100000000000)
 (hd:ln%86400=0/\ln/86400<32)(hR:R.toList≠[]):
 Δ prog 25 #[θ atC,V Z st,V Z ln,θ R] w λe Y=>e=δ (θ ((⟨#[66,69,71,73,78,58,86,69,86,69,78,84,13,10,85,73,68,58]⟩:ByteArray)++atC++⟨#[13,10]⟩++⟨#[68,84,83,84,65,82,84,58]⟩++P1++⟨#[13,10]⟩++⟨#[68,85,82,65,84,73,79,78,58,80]⟩++D++⟨#[68]⟩++⟨#[13,10]⟩++⟨#[82,82,85,76,69,58]⟩++R++⟨#[13,10]⟩++⟨#[69,78,68,58,86,69,86,69,78,84]⟩++⟨#[13,10]⟩))/\Below w.heap.size w Y:=by
 have Fo:(R.toList==[])=false:=by simp[hR]
 have d1:(ln%86400==0)=true:=by simp[hd.1]
 obtain⟨cD,uj⟩:=hd;go_enter func25,ntmps25;go_wp2_with fail;refine(C1.out).mono ?_;rintro e w1 ⟨rfl,au⟩;go_wp2_with fail;refine(C3.out _ au).mono ?_;rintro e w2 ⟨rfl,aO⟩;go_wp2_with fail;go_ret;exact⟨rfl,au.trans (aO.mono au.size)⟩
theorem aai (atC P1 D R:ByteArray)(x1 st ln:Int)(w:υ)(C1:Hid (Δ prog 18 #[V Z st] w λE Y=>E=δ (.tuple #[θ P1,V Z x1])/\Below w.heap.size w Y))
 (C3:Hid (∀W,Below w.heap.size w W->Δ prog 21 #[V Z (ln/86400)] W λE Y=>E=δ (θ D)/\Below W.heap.size W Y))
 (hU:atC.size<=1000)(G:P1.size<=16)(K:D.size<=20)(h4:R.size<=1000)(l0:0<=ln)(l1:ln<=100000000000)
 (hd:ln%86400=0/\ln/86400<32)(hR:R=⟨#[]⟩):
 Δ prog 25 #[θ atC,V Z st,V Z ln,θ R] w λe Y=>e=δ (θ ((⟨#[66,69,71,73,78,58,86,69,86,69,78,84,13,10,85,73,68,58]⟩:ByteArray)++atC++⟨#[13,10]⟩++⟨#[68,84,83,84,65,82,84,58]⟩++P1++⟨#[13,10]⟩++⟨#[68,85,82,65,84,73,79,78,58,80]⟩++D++⟨#[68]⟩++⟨#[13,10]⟩++⟨#[69,78,68,58,86,69,86,69,78,84]⟩++⟨#[13,10]⟩))/\Below w.heap.size w Y:=by
 subst hR;have d1:(ln%86400==0)=true:=by simp[hd.1]
 obtain⟨cD,uj⟩:=hd;go_enter func25,ntmps25;go_wp2_with fail;refine(C1.out).mono ?_;rintro e w1 ⟨rfl,au⟩;go_wp2_with fail;refine(C3.out _ au).mono ?_;rintro e w2 ⟨rfl,aO⟩;go_wp2_with fail;go_ret;exact⟨rfl,au.trans (aO.mono au.size)⟩
theorem aaj (atC P1 P2 R:ByteArray)(x1 x2 st ln:Int)(w:υ)(C1:Hid (Δ prog 18 #[V Z st] w λE Y=>E=δ (.tuple #[θ P1,V Z x1])/\Below w.heap.size w Y))
 (C2:Hid (∀W,Below w.heap.size w W->Δ prog 18 #[V Z (st+ln)] W λE Y=>E=δ (.tuple #[θ P2,V Z x2])/\Below W.heap.size W Y))
 (hU:atC.size<=1000)(G:P1.size<=16)(A:P2.size<=16)(h4:R.size<=1000)(s0:0<=st)(s1:st<=100000000000)(l0:0<=ln)(l1:ln<=100000000000)
 (hd:¬(ln%86400=0/\ln/86400<32))(hR:R.toList≠[]):
 Δ prog 25 #[θ atC,V Z st,V Z ln,θ R] w λe Y=>e=δ (θ ((⟨#[66,69,71,73,78,58,86,69,86,69,78,84,13,10,85,73,68,58]⟩:ByteArray)++atC++⟨#[13,10]⟩++⟨#[68,84,83,84,65,82,84,58]⟩++P1++⟨#[13,10]⟩++⟨#[68,84,69,78,68,58]⟩++P2++⟨#[13,10]⟩++⟨#[82,82,85,76,69,58]⟩++R++⟨#[13,10]⟩++⟨#[69,78,68,58,86,69,86,69,78,84]⟩++⟨#[13,10]⟩))/\Below w.heap.size w Y:=by
 have Fo:(R.toList==[])=false:=by simp[hR]
 by_cases d0:ln%86400=0
 ·have cD:¬ln/86400<32:=λh=>hd ⟨d0,h⟩;clear hd;go_enter func25,ntmps25;go_wp2_with fail;refine(C1.out).mono ?_;rintro e w1 ⟨rfl,au⟩;go_wp2_with fail;refine(C2.out _ au).mono ?_;rintro e w2 ⟨rfl,aO⟩;go_wp2_with fail;go_ret;exact⟨rfl,au.trans (aO.mono au.size)⟩
 clear hd;have d1:(ln%86400==0)=false:=by simp[d0]
 go_enter func25,ntmps25;go_wp2_with fail;refine(C1.out).mono ?_;rintro e w1 ⟨rfl,au⟩;go_wp2_with fail;refine(C2.out _ au).mono ?_;rintro e w2 ⟨rfl,aO⟩;go_wp2_with fail;go_ret;exact⟨rfl,au.trans (aO.mono au.size)⟩
theorem aak (atC P1 P2 R:ByteArray)(x1 x2 st ln:Int)(w:υ)(C1:Hid (Δ prog 18 #[V Z st] w λE Y=>E=δ (.tuple #[θ P1,V Z x1])/\Below w.heap.size w Y))
 (C2:Hid (∀W,Below w.heap.size w W->Δ prog 18 #[V Z (st+ln)] W λE Y=>E=δ (.tuple #[θ P2,V Z x2])/\Below W.heap.size W Y))
 (hU:atC.size<=1000)(G:P1.size<=16)(A:P2.size<=16)(h4:R.size<=1000)(s0:0<=st)(s1:st<=100000000000)(l0:0<=ln)(l1:ln<=100000000000)
 (hd:¬(ln%86400=0/\ln/86400<32))(hR:R=⟨#[]⟩):
 Δ prog 25 #[θ atC,V Z st,V Z ln,θ R] w λe Y=>e=δ (θ ((⟨#[66,69,71,73,78,58,86,69,86,69,78,84,13,10,85,73,68,58]⟩:ByteArray)++atC++⟨#[13,10]⟩++⟨#[68,84,83,84,65,82,84,58]⟩++P1++⟨#[13,10]⟩++⟨#[68,84,69,78,68,58]⟩++P2++⟨#[13,10]⟩++⟨#[69,78,68,58,86,69,86,69,78,84]⟩++⟨#[13,10]⟩))/\Below w.heap.size w Y:=by
 subst hR;by_cases d0:ln%86400=0
 ·have cD:¬ln/86400<32:=λh=>hd ⟨d0,h⟩;clear hd;go_enter func25,ntmps25;go_wp2_with fail;refine(C1.out).mono ?_;rintro e w1 ⟨rfl,au⟩;go_wp2_with fail;refine(C2.out _ au).mono ?_;rintro e w2 ⟨rfl,aO⟩;go_wp2_with fail;go_ret;exact⟨rfl,au.trans (aO.mono au.size)⟩
 clear hd;have d1:(ln%86400==0)=false:=by simp[d0]
 go_enter func25,ntmps25;go_wp2_with fail;refine(C1.out).mono ?_;rintro e w1 ⟨rfl,au⟩;go_wp2_with fail;refine(C2.out _ au).mono ?_;rintro e w2 ⟨rfl,aO⟩;go_wp2_with fail;go_ret;exact⟨rfl,au.trans (aO.mono au.size)⟩
theorem acu {l:List UInt8}(h:l≠[]):(⟨l.toArray⟩:ByteArray).toList≠[]:=by
 intro e;have G:((⟨l.toArray⟩:ByteArray).toList==(⟨([]:List UInt8).toArray⟩:ByteArray).toList)=true:=by rw[e];simp[go_sem]
 exact h ((aeu l []).1 G)
theorem Hj (u:List UInt8)(st ln:Int)(cb:List UInt8)(w:υ)(ht:jg w)(hu:u.length<=1000)(hr:cb.length<=1000)(s0:0<=st)(s1:st<=100000000000)(l0:0<=ln)(l1:ln<=100000000000):
 Δ prog 25 #[θ ⟨u.toArray⟩,V Z st,V Z ln,θ ⟨cb.toArray⟩] w λe Y=>e=δ (θ ⟨(fJ u st ln cb).toArray⟩)/\Below w.heap.size w Y:=by
 obtain⟨x1,e1⟩:=Gs st;obtain⟨x2,e2⟩:=Gs (st+ln);have C1:=H (jQ st w ht);have C2:Hid (∀W,Below w.heap.size w W->Δ prog 18 #[V Z (st+ln)] W λE Y=>E=δ (kG (st+ln))/\Below W.heap.size W Y):=H λW U=>jQ _ W (ht.on U);have C3:Hid (∀W,Below w.heap.size w W->Δ prog 21 #[V Z (ln/86400)] W λE Y=>E=δ (θ ⟨(cY (ln/86400)).toArray⟩)/\Below W.heap.size W Y):=H λW U=>uX _ W (by omega) (by omega) (by omega);rw[e1]at C1;rw[e2]at C2;have p1:=B8 st;have p2:=B8 (st+ln);have p3:(cY (ln/86400)).length<=20:=ώ (vo 20 (ln/86400) 19 (by omega)) (φ _);by_cases hd:ln%86400=0/\ln/86400<32
 ·by_cases hR:cb=[]
  ·refine(aai ⟨u.toArray⟩ _ _ ⟨cb.toArray⟩ x1 st ln w C1 C3 hu p1 p3 hr l0 l1 hd (by rw[hR])).mono ?_;rintro e Y ⟨rfl,U⟩;refine⟨nk ?_,U⟩;unfold fJ BF wo yH;rw[if_pos hd,if_pos hR];simp only[pz,ψ,τ,κ,μ]
  refine(aah ⟨u.toArray⟩ _ _ ⟨cb.toArray⟩ x1 st ln w C1 C3 hu p1 p3 hr l0 l1 hd (acu hR)).mono ?_;rintro e Y ⟨rfl,U⟩;refine⟨nk ?_,U⟩;unfold fJ BF wo yH;rw[if_pos hd,if_neg hR];simp only[pz,ψ,κ,μ]
 by_cases hR:cb=[]
 ·refine(aak ⟨u.toArray⟩ _ _ ⟨cb.toArray⟩ x1 x2 st ln w C1 C2 hu p1 p2 hr s0 s1 l0 l1 hd (by rw[hR])).mono ?_;rintro e Y ⟨rfl,U⟩;refine⟨nk ?_,U⟩;unfold fJ BF wo yH;rw[if_neg hd,if_pos hR];simp only[pz,ψ,τ,κ,μ]
 refine(aaj ⟨u.toArray⟩ _ _ ⟨cb.toArray⟩ x1 x2 st ln w C1 C2 hu p1 p2 hr s0 s1 l0 l1 hd (acu hR)).mono ?_;rintro e Y ⟨rfl,U⟩;refine⟨nk ?_,U⟩;unfold fJ BF wo yH;rw[if_neg hd,if_neg hR];simp only[pz,ψ,κ,μ]
def ru (u:List UInt8)(st ln:Int)(cb:List UInt8):List (Nat×List UInt8):=
 [(0,u),(1,xX st)]++(if ln%86400=0/\ln/86400<32 then[(2,[80]++cY (ln/86400)++[68])]else[(3,xX (st+ln))])++(if cb=[]then[]else[(4,cb)])
def aal (b a:Option (List UInt8)):List (Nat×List UInt8):=qG 6 b++qG 5 a
def aam (u:List UInt8)(st ln:Int)(cb:List UInt8)(b a:Option (List UInt8)):List UInt8:=dL (gq::(ru u st ln cb++aal b a).map sS++[lB])
theorem aec (u:List UInt8)(st ln:Int)(cb:List UInt8):fJ u st ln cb=aam u st ln cb none none:=by
 unfold fJ BF wo yH aam ru aal qG dL sS;split<;>split<;>simp[cg,gq,lB]
theorem aed (ls:List (List UInt8)):(dL ls).length=(ls.map λl=>l.length+2).sum:=by
 induction ls with
 |nil=>rfl
 |cons l r ih=>rw[vp,Ζ,List.sum_cons,ο,χ,χ,ih];omega
theorem aan (n:Int)(h0:0<=n)(G:n<32):oC ([80]++cY n++[68])=some (n*86400):=by
 obtain⟨a1,a2,a3,_⟩:=BX n h0 (by omega);simp only[κ,μ,oC];rw[if_pos (by rfl),Gq _ _ _ _ _ _ _ a3,μ,Th 68 _ _ 0 0 false _ _ (by decide) (by decide) a1 (by decide) (by decide) (by decide),a2];rw[eC,if_neg (by simp)];simp[ou]
theorem aao (n:Int)(h0:0<=n)(G:n<10000000):qt 7 (cY n):=aag (BX n h0 G).1
def nR (u:List UInt8)(st ln:Int)(o:Option (List UInt8)):List UInt8:=dL (gq::(ru u st ln []++qG 8 o).map sS++[lB])
theorem AY (u:List UInt8)(st ln:Int):fJ u st ln []=nR u st ln none:=by
 rw[aec];unfold aam nR aal;simp[qG]
theorem Sq (u:List UInt8)(st ln:Int):12<=(fJ u st ln []).length:=by
 unfold fJ;simp only[ο,χ,ϝ];omega
theorem Jw (u:List UInt8)(st ln:Int)(v:List UInt8):(fJ u st ln []).take ((fJ u st ln []).length-12)++[83,84,65,84,85,83,58]++v++[13,10]++[69,78,68,58,86,69,86,69,78,84]++[13,10]=nR u st ln (some v):=by
 have e1:fJ u st ln []=dL (gq::(ru u st ln []).map sS)++[69,78,68,58,86,69,86,69,78,84,13,10]:=by
  rw[AY];unfold nR;simp only[qG,τ];rw[Is];rfl
 rw[e1,List.take_append_of_le_length (by simp),List.take_of_length_le (by simp)];unfold nR;simp only[qG];rw[Ψ,<-κ,Is,Is];simp[dL,sS,cg,lB]
def kO (o:Option (List UInt8)):Int:=match o with|none=>1|some v=>nI v jF jE jD
theorem YR (u:List UInt8)(st ln:Int)(o:Option (List UInt8))(ho:o=none\/o=some jF\/o=some jE\/o=some jD)(hu:fT (ba u)=true)(s0:0<=st)(s1:st+ln<=7258118399)(l0:1<=ln)(l1:ln<=2678400):
 ∃f,iz (nR u st ln o)=.ok ⟨f,st,ln,[],[],none⟩/\val f 0=u/\gK f=false/\kindOf f=kO o:=by
 have nu:=Xx hu;have n1:qt 16 (xX st):=N7 st;have n3:qt 16 (xX (st+ln)):=N7 (st+ln);have n2:ln/86400<32->qt 9 ([80]++cY (ln/86400)++[68]):=λh=>((show qt 1 [80]from⟨by decide,by decide⟩).app (aao (ln/86400) (by omega) (by omega))).app (show qt 1 [68]from⟨by decide,by decide⟩);have no:∀v,o=some v->qt 9 v:=λv hv=>by
  rcases ho with h|h|h|h<;>rw[h]at hv<;>cases hv<;>exact⟨by decide,by decide⟩
 have G:∀p∈ru u st ln []++qG 8 o,p.1<9/\13∉p.2:=by
  intro p J;unfold ru at J;simp only[Ε,aeb]at J;rcases J with((J|J)|J)|⟨e1,J⟩
  ·simp only[ω,Τ,or_false]at J;rcases J with rfl|rfl
   ·exact⟨by simp,nu.2⟩
   exact⟨by simp,n1.2⟩
  ·split at J
   ·rename_i hq;simp only[Γ]at J;subst J;exact⟨by simp,(n2 hq.2).2⟩
   simp only[Γ]at J;subst J;exact⟨by simp,n3.2⟩
  ·simp at J
  exact⟨by omega,(no _ J).2⟩
 have A:((ru u st ln []++qG 8 o).map (·.1)).Nodup:=by
  unfold ru qG;cases o<;>split<;>simp
 have N:(dL (gq::(ru u st ln []++qG 8 o).map sS++[lB])).length<=2000:=by
  have q0:=nu.1;have q1:=n1.1;have q3:=n3.1;have qb:gq.length=12:=rfl;have qe:lB.length=10:=rfl;have p0:(cg.getD 0 []).length=3:=rfl;have p1:(cg.getD 1 []).length=7:=rfl;have p2:(cg.getD 2 []).length=8:=rfl;have p3:(cg.getD 3 []).length=5:=rfl;have p8:(cg.getD 8 []).length=6:=rfl;have m1:(((ru u st ln []).map sS).map λl=>l.length+2).sum<=1200:=by
   unfold ru;split
   ·rename_i hq;have q2:=(n2 hq.2).1;simp only[if_true,κ,μ,τ,Ζ,Χ,List.sum_cons,List.sum_nil,sS,ο,χ,p0,p1,p2];simp only[κ,μ,ο,χ]at q2;omega
   simp only[if_true,κ,μ,τ,Ζ,Χ,List.sum_cons,List.sum_nil,sS,ο,χ,p0,p1,p3];omega
  have m2:(((qG 8 o).map sS).map λl=>l.length+2).sum<=40:=by
   cases o with
   |none=>simp[qG]
   |some v=>
    have:=(no v rfl).1;simp only[qG,Ζ,Χ,List.sum_cons,List.sum_nil,sS,ο,χ,p8];omega
  rw[aed];simp only[κ,Ζ,List.sum_cons,Ψ,List.sum_append,Χ,List.sum_nil,qb,qe];omega
 have jZ:=Xy _ G A N;obtain⟨f,hf⟩:∃f,f=Kd (ru u st ln []++qG 8 o) λ_=>none:=⟨_,rfl⟩;rw[<-hf]at jZ;have g:f 0=some u/\f 1=some (xX st)/\((ln%86400=0/\ln/86400<32/\f 2=some ([80]++cY (ln/86400)++[68])/\f 3=none)\/(f 2=none/\f 3=some (xX (st+ln))))/\f 4=none/\f 5=none/\f 6=none/\f 7=none/\f 8=o:=by
  subst hf;unfold ru qG;clear ho no jZ N G A;cases o<;>split<;>simp_all[Kd]
 obtain⟨g0,g1,g23,g4,g5,g6,g7,g8⟩:=g;have aja:must f=true:=by
  unfold must has val;rw[g0,g1];rcases g23 with⟨_,_,e2,e3⟩|⟨e2,e3⟩
  ·rw[e2,e3];simpa using hu
  rw[e2,e3];simpa using hu
 have ah7:kT f=true:=by
  unfold kT has val;rw[g7,g8];rcases ho with rfl|rfl|rfl|rfl<;>decide
 rw[aja,ah7]at jZ;simp only[Bool.and_self,if_true]at jZ;have r1:fU (val f 1)=some st:=by
  unfold val;rw[g1];exact Ke s0 (by omega)
 have r2:lY st (f 3) (f 2)=some ln:=by
  unfold lY;rcases g23 with⟨q1,q2,e2,e3⟩|⟨e2,e3⟩
  ·rw[e2,e3];simp only[Option.getD_some];rw[aan (ln/86400) (by omega) q2];simp only[];rw[show ln/86400*86400=ln by omega,if_pos ⟨l0,l1⟩]
  rw[e2,e3];simp only[];rw[show fU (xX (st+ln))=some (st+ln)from Ke (by omega) s1,Option.map_some];simp only[];rw[show st+ln-st=ln by omega,if_pos ⟨l0,l1⟩]
 refine⟨f,?_,by unfold val;rw[g0];rfl,by unfold gK val;rw[g7];decide,by unfold kindOf has val kO;rw[g8];cases o<;>rfl⟩;have:=B6 (s:=nR u st ln o) (ex:=[]) (xt:=[]) jZ r1 r2 (by rw[g5];rfl) (by rw[g6];rfl);rw[this,g4];rfl
theorem ry (a:Int)(m n:Nat):dB a (m+n)=dB a m++dB (a+m) n:=by
 unfold dB;rw[List.range_add,Ψ,List.map_map];congr 1;apply List.map_congr_left;intro i _;simp only[Function.comp];omega
theorem kA {a x:Int}{n:Nat}:x∈dB a n↔a<=x/\x<a+n:=by
 unfold dB;rw[Ϟ];constructor
 ·rintro⟨i,S,rfl⟩;have:=List.mem_range.1 S;omega
 rintro⟨h0,G⟩;exact⟨(x-a).toNat,List.mem_range.2 (by omega),by omega⟩
theorem zg (r:aC)(s k:Int):iW r s k=aX r s (k+1):=by
 unfold aX iW;by_cases h0:r.fq=0
 ·rw[if_pos h0,if_pos h0];omega
 rw[if_neg h0,if_neg h0];by_cases G:r.fq=1
 ·rw[if_pos G,if_pos G];have:ez (s+(k+1)*7) r.ws=ez (s+k*7) r.ws:=by unfold ez;omega
  rw[this];omega
 rw[if_neg G,if_neg G];by_cases A:r.fq=2
 ·rw[if_pos A,if_pos A,Ξ]
 rw[if_neg A,if_neg A,Ξ]
def jx (r:aC):Int:=if r.fq=0 then 1 else if r.fq=1 then 7 else if r.fq=2 then 28 else 365
theorem Gt (r:aC)(s k:Int):aX r s k+jx r<=aX r s (k+1):=by
 rw[<-zg];unfold aX iW jx;by_cases h0:r.fq=0
 ·simp only[if_pos h0];omega
 simp only[if_neg h0];by_cases G:r.fq=1
 ·simp only[if_pos G];omega
 simp only[if_neg G];by_cases A:r.fq=2
 ·simp only[if_pos A];have:=(wb (ag.aq s) (ag.ofM s+k)).1;omega
 simp only[if_neg A];rw[ag.ua];have:=ag.Ry (ag.aq s+k);omega
theorem Es (r:aC):1<=jx r:=by unfold jx;repeat' split<;>omega
def Kf (ct:Int)(l:List Int):List Int:=if ct=0 then l else l.take ct.toNat
theorem BG (st last ct:Int)(s0:0<=st):∀(l:List Int) (c:Int),0<=c->(ct=0\/c<ct)->
 iX st 0 last ct c l=(if ct=0 then id else List.take (ct-c).toNat) ((l.filter λd=>decide (st/86400<=d)).takeWhile λd=>decide (d*86400<=last))
 |[],c,_,_=>by rw[iX];split<;>simp
 |d::l,c,hc,hh=>by
  rw[iX];by_cases G:d*86400<st-st%86400
  ·have e:(d::l).filter (λd=>decide (st/86400<=d))=l.filter λd=>decide (st/86400<=d):=by rw[Φ,if_neg (by simp;omega)]
   rw[if_pos G,BG st last ct s0 l c hc hh,e]
  have e:(d::l).filter (λd=>decide (st/86400<=d))=d::l.filter λd=>decide (st/86400<=d):=by rw[Φ,if_pos (by simp;omega)]
  rw[if_neg G,e];by_cases A:last<d*86400
  ·have e2:(d::l.filter λd=>decide (st/86400<=d)).takeWhile (λd=>decide (d*86400<=last))=[]:=by rw[Α,if_neg (by simp;omega)]
   rw[if_pos A,e2];split<;>simp
  have e2:(d::l.filter λd=>decide (st/86400<=d)).takeWhile (λd=>decide (d*86400<=last))=d::(l.filter λd=>decide (st/86400<=d)).takeWhile λd=>decide (d*86400<=last):=by rw[Α,if_pos (by simp;omega)]
  rw[if_neg A,if_pos (show 0-st%86400<=d*86400 by omega),e2,List.singleton_append];by_cases K:ct=0
  ·rw[if_neg (show¬c+1=ct by omega),BG st last ct s0 l (c+1) (by omega) (.inl K),if_pos K,if_pos K];rfl
  rw[if_neg K];by_cases h4:c+1=ct
  ·rw[if_pos h4,show(ct-c).toNat=1 by omega];simp
  rw[if_neg h4,BG st last ct s0 l (c+1) (by omega) (.inr (by omega)),if_neg K,show(ct-c).toNat=(ct-(c+1)).toNat+1 by omega,List.take_succ_cons]
theorem Xz (y:Int):365<=ag.ty (y+1)-ag.ty y/\ag.ty (y+1)-ag.ty y<=366:=by
 rw[ag.BH];split<;>omega
theorem aee (y m d:Int):365<=ag.num (y+1) m d-ag.num y m d/\ag.num (y+1) m d-ag.num y m d<=366:=by
 unfold ag.num;split
 ·have:=Xz (y-1);rw[show y-1+1=y+1-1 by omega]at this;omega
 have:=Xz y;omega
theorem XA (y m d:Int):∀k:Nat,ag.num y m d+365*k<=ag.num (y+k) m d/\ag.num (y+k) m d<=ag.num y m d+366*k
 |0=>by simp
 |k+1=>by
  have G:=XA y m d k;have A:=aee (y+k) m d;rw[show y+((k+1:Nat):Int)=y+k+1 by omega];omega
theorem XB {y y' m d:Int}(h:ag.num y m d<ag.num y' m d):y<y':=by
 by_cases q:y<y'
 ·exact q
 obtain⟨k,I⟩:∃k:Nat,y=y'+k:=⟨(y-y').toNat,by omega⟩;have:=(XA y' m d k).1;rw[<-I]at this;omega
theorem Rh (r:aC){s d k:Int}(d0:-10000<=d)(h0:aX r s k<=d)(G:d<aX r s (k+1)):cf r s d=k:=by
 unfold aX at h0 G;unfold cf;by_cases q0:r.fq=0
 ·rw[if_pos q0]at h0 G⊢;omega
 rw[if_neg q0]at h0 G⊢;by_cases q1:r.fq=1
 ·rw[if_pos q1]at h0 G⊢;have e1:ez (s+k*7) r.ws=ez s r.ws:=by unfold ez;omega
  have e2:ez (s+(k+1)*7) r.ws=ez s r.ws:=by unfold ez;omega
  rw[e1]at h0;rw[e2]at G;omega
 rw[if_neg q1]at h0 G⊢;by_cases q2:r.fq=2
 ·rw[if_pos q2]at h0 G⊢;have ha:=ju d d0;have b1:12*ag.aq s+(ag.ofM s+k)<12*ag.aq d+(ag.ofM d+1):=by
   by_cases q:12*ag.aq s+(ag.ofM s+k)<12*ag.aq d+(ag.ofM d+1)
   ·exact q
   have:=Ia (y:=ag.aq d) (m:=ag.ofM d+1) (y':=ag.aq s) (m':=ag.ofM s+k) (by omega);omega
  have b2:12*ag.aq d+ag.ofM d<12*ag.aq s+(ag.ofM s+(k+1)):=by
   by_cases q:12*ag.aq d+ag.ofM d<12*ag.aq s+(ag.ofM s+(k+1))
   ·exact q
   have:=Ia (y:=ag.aq s) (m:=ag.ofM s+(k+1)) (y':=ag.aq d) (m':=ag.ofM d) (by omega);omega
  omega
 rw[if_neg q2]at h0 G⊢;have ha:=oq d d0;have b1:=XB (show ag.num (ag.aq s+k) 1 1<ag.num (ag.aq d+1) 1 1 by omega);have b2:=XB (show ag.num (ag.aq d) 1 1<ag.num (ag.aq s+(k+1)) 1 1 by omega);omega
theorem Et (pls:List Int)(len:Int):∀(i:Int) (l:List Int),(nT pls len i l).Sublist l
 |_,[]=>by simp[nT]
 |i,d::l=>by
  rw[nT];split
  ·exact(Et pls len (i+1) l).cons_cons d
  exact(Et pls len (i+1) l).cons d
theorem Tk (r:aC)(a:Int)(n:Nat):(du r a n).Sublist (dB a n):=by
 unfold du;split
 ·exact List.filter_sublist
 exact(Et _ _ _ _).trans List.filter_sublist
theorem wY (a:Int):∀n:Nat,(dB a n).Pairwise (·<·):=by
 intro n;unfold dB;rw[ϛ];exact List.pairwise_lt_range.imp (λh=>by omega)
theorem zh:∀{l m:List Int},l.Sublist m->m.Pairwise (·<·)->l=m.filter λd=>l.contains d
 |_,_,.slnil,_=>rfl
 |l,x::m,.cons _ h,J=>by
  rw[ϙ]at J;have X:l.contains x=false:=by
   cases hc:l.contains x with
   |false=>rfl
   |true=>
    have:=J.1 x (h.subset (List.contains_iff_mem.1 hc));omega
  rw[Φ,if_neg (by rw[X];exact Bool.false_ne_true)];exact zh h J.2
 |x::l,_::m,.cons_cons _ h,J=>by
  rw[ϙ]at J;rw[Φ,if_pos (by simp)];congr 1;have e:=zh h J.2;rw[e];apply Ϝ;intro d hd;rw[<-e];have:d≠x:=λq=>by subst q;have:=J.1 d hd;omega
  cases hc:l.contains d with
  |true=>rw[Ϗ]at hc;exact(List.contains_iff_mem.2 (ν _ hc)).symm
  |false=>
   cases Cl:(x::l).contains d with
   |false=>rfl
   |true=>
    rw[Ϗ]at Cl;rcases List.mem_cons.1 Cl with G|G
    ·exact absurd G this
    rw[List.contains_iff_mem.2 G]at hc;cases hc
theorem KJ (r:aC)(a:Int)(n:Nat):du r a n=(dB a n).filter λd=>(du r a n).contains d:=zh (Tk r a n) (wY a n)
def rB (r:aC)(s d:Int):Bool:=decide (cf r s d%r.iv=0)&&(du r (aX r s (cf r s d)) (gS r s (cf r s d))).contains d
theorem vq (r:aC)(s:Int):∀(k:Int) (j:Nat),aX r s k+j*jx r<=aX r s (k+j)
 |k,0=>by simp
 |k,j+1=>by
  have G:=vq r s k j;have A:=Gt r s (k+j);rw[show k+((j+1:Nat):Int)=k+j+1 by omega,Int.natCast_add,Int.add_mul];simp only[Int.natCast_one,Int.one_mul];omega
theorem skip_none (r:aC)(s:Int)(k:Int)(I:k%r.iv=0)(hA:-10000<=aX r s k):∀j:Nat,(j:Int)<r.iv->(dB (aX r s (k+1)) (aX r s (k+1+j)-aX r s (k+1)).toNat).filter (rB r s)=[]
 |0,_=>by simp[dB]
 |j+1,hj=>by
  have ih:=skip_none r s k I hA j (by omega);have u0:=vq r s k 1;have u1:=vq r s (k+1) j;have u2:=Gt r s (k+1+j);have hE:=Es r;have hjE:0<=(j:Int)*jx r:=Ν (by omega) (by omega);simp only[Int.natCast_one,Int.one_mul]at u0;rw[show k+1+((j+1:Nat):Int)=k+1+j+1 by omega];obtain⟨m,hm⟩:∃m:Nat,aX r s (k+1+j)=aX r s (k+1)+m:=⟨(aX r s (k+1+j)-aX r s (k+1)).toNat,by omega⟩;obtain⟨p,J⟩:∃p:Nat,aX r s (k+1+j+1)=aX r s (k+1+j)+p:=⟨(aX r s (k+1+j+1)-aX r s (k+1+j)).toNat,by omega⟩;rw[hm,show(aX r s (k+1)+(m:Int)-aX r s (k+1)).toNat=m by omega]at ih;rw[J,hm,show(aX r s (k+1)+(m:Int)+p-aX r s (k+1)).toNat=m+p by omega,ry,π,ih,μ,Μ];intro d hd;have hd:=kA.1 hd;have e:=Rh r (s:=s) (d:=d) (k:=k+1+j) (by omega) (by omega) (by omega);unfold rB;rw[e];have:¬(k+1+j)%r.iv=0:=by
   intro hz;have G:(k+1+j-k)%r.iv=0:=by rw[Int.sub_emod,hz,I];simp
   rw[show k+1+(j:Int)-k=1+j by omega]at G;rw[Int.emod_eq_of_lt (by omega) (by omega)]at G;omega
  simp[this]
theorem aap (r:aC)(s:Int)(k:Int)(I:k%r.iv=0)(hA:-10000<=aX r s k):du r (aX r s k) (gS r s k)=(dB (aX r s k) (gS r s k)).filter (rB r s):=by
 rw[KJ];apply Ϝ;intro d hd;have hd:=kA.1 hd;have hN:(gS r s k:Int)=aX r s (k+1)-aX r s k:=by
  have:=Gt r s k;have:=Es r;unfold gS;rw[zg];omega
 have e:=Rh r (s:=s) (d:=d) (k:=k) (by omega) (by omega) (by omega);unfold rB;rw[e];simp[I]
theorem Eu (r:aC)(s last:Int)(S:1<=r.iv):∀(g:Nat) (k:Int),k%r.iv=0→-10000<=aX r s k->last<(aX r s k+g*jx r)*86400->∃m:Nat,sO r s last g k=(dB (aX r s k) m).filter (rB r s)/\last<(aX r s k+m)*86400
 |0,k,_,_,h=>⟨0,rfl,by simpa using h⟩
 |g+1,k,I,hA,h=>by
  by_cases N:last<aX r s k*86400
  ·exact⟨0,by rw[QP _ _ _ _ _ N];rfl,by simpa using N⟩
  have A:=Es r;obtain⟨i,hiv⟩:∃i:Nat,r.iv=1+i:=⟨(r.iv-1).toNat,by omega⟩;have u0:=Gt r s k;have u1:=vq r s (k+1) i;have hiE:0<=(i:Int)*jx r:=Ν (by omega) (by omega);have ek:k+r.iv=k+1+i:=by omega
  have eg:((g+1:Nat):Int)*jx r=g*jx r+jx r:=by rw[Int.natCast_add,Int.add_mul];simp
  rw[eg]at h;obtain⟨m,e,hm⟩:=Eu r s last S g (k+r.iv) (by rw[Int.add_emod,I];simp) (by rw[ek];omega) (by rw[ek];omega);have sk:=skip_none r s k I hA i (by omega);have hN:aX r s (k+1)=aX r s k+(gS r s k:Nat):=by unfold gS;rw[zg];omega
  obtain⟨p,J⟩:∃p:Nat,aX r s (k+1+i)=aX r s (k+1)+p:=⟨(aX r s (k+1+i)-aX r s (k+1)).toNat,by omega⟩;rw[J,show(aX r s (k+1)+(p:Int)-aX r s (k+1)).toNat=p by omega]at sk;refine⟨gS r s k+(p+m),?_,?_⟩
  ·rw[Ww _ _ _ _ _ N,aap r s k I hA,e,ry,π,<-hN,ry,π,sk,μ,ek,J]
  rw[ek,J,hN]at hm;rw[Int.natCast_add,Int.natCast_add];omega
theorem aaq (p:Int->Bool)(a s last:Int)(m atE:Nat)(ha:a<=s)(hm:last<(a+m)*86400)(hN0:last<(s+atE)*86400)(N8:0<atE->(s+atE-1)*86400<=last):
 ((((dB a m).filter p).filter λd=>decide (s<=d)).takeWhile λd=>decide (d*86400<=last))=(dB s atE).filter p:=by
 by_cases hs:s<=a+m
 ·obtain⟨u,hu⟩:∃u:Nat,s=a+u:=⟨(s-a).toNat,by omega⟩;have U:s+atE<=a+m:=by
   by_cases h0:0<atE
   ·have:=N8 h0;omega
   omega
  obtain⟨v,hv⟩:∃v:Nat,m=u+(atE+v):=⟨m-(u+atE),by omega⟩;rw[hv,ry,ry,<-hu,π,π,π,π];have p1:((dB a u).filter p).filter (λd=>decide (s<=d))=[]:=by
   rw[Μ];intro d hd;have:=kA.1 (List.mem_filter.1 hd).1;simp;omega
  have p2:((dB s atE).filter p).filter (λd=>decide (s<=d))=(dB s atE).filter p:=by
   rw[List.filter_eq_self];intro d hd;have:=kA.1 (List.mem_filter.1 hd).1;simp;omega
  rw[p1,μ,p2,List.takeWhile_append_of_pos]
  ·have p3:∀L:List Int,(∀d∈L,¬d*86400<=last)->L.takeWhile (λd=>decide (d*86400<=last))=[]:=by
    intro L h;cases L with
    |nil=>rfl
    |cons d r=>rw[Α,if_neg (by simpa using h d (by simp))]
   rw[p3 _ (λd hd=>by
    have nJ:=(List.mem_filter.1 hd).1;have:=kA.1 (List.mem_filter.1 nJ).1;omega),τ]
  intro d hd;have:=kA.1 (List.mem_filter.1 hd).1;simp only[decide_eq_true_eq];have:=N8 (by omega);omega
 have hN:atE=0:=by
  by_cases h0:0<atE
  ·have:=N8 h0;omega
  omega
 subst hN;have e:((dB a m).filter p).filter (λd=>decide (s<=d))=[]:=by
  rw[Μ];intro d hd;have:=kA.1 (List.mem_filter.1 hd).1;simp;omega
 rw[e];rfl
theorem aar (r:aC)(st last:Int)(atE:Nat)(s0:0<=st)(S:1<=r.iv)(hc:0<=r.ct)(hA:aX (aS r (st/86400)) (st/86400) 0<=st/86400)(xR:-10000<=aX (aS r (st/86400)) (st/86400) 0)(hg:last<(aX (aS r (st/86400)) (st/86400) 0+(dG r).toNat*jx r)*86400)(hN0:last<(st/86400+atE)*86400)(N8:0<atE->(st/86400+atE-1)*86400<=last):
 lG r st 0 last=Kf r.ct ((dB (st/86400) atE).filter (rB (aS r (st/86400)) (st/86400))):=by
 obtain⟨r',hr⟩:∃r',r'=aS r (st/86400):=⟨_,rfl⟩;have e1:r'.iv=r.iv/\r'.fq=r.fq:=by
  rw[hr];unfold aS
  repeat' split
  all_goals exact⟨rfl,rfl⟩
 obtain⟨i1,i3⟩:=e1;have e2:dG r'=dG r:=by unfold dG;rw[i3]
 have e3:jx r'=jx r:=by unfold jx;rw[i3]
 have e4:fc r' st 0=0:=by unfold fc;rw[if_pos (.inr s0)]
 unfold lG jf;rw[<-hr]at hA xR hg⊢;rw[e4,e2];obtain⟨m,em,hm⟩:=Eu r' (st/86400) last (by omega) (dG r).toNat 0 (by simp) xR (by rw[e3];exact hg);rw[em,BG st last r.ct s0 _ 0 (by omega) (by omega),aaq (rB r' (st/86400)) _ _ _ m atE hA hm hN0 N8];unfold Kf;split
 ·rfl
 rw[Int.sub_zero]
def eA (f:Nat->Option (List UInt8)):List Value:=(List.range 9).map λk=>Value.string ⟨((f k).getD []).toArray⟩
def rA:ByteArray:=⟨#[66,69,71,73,78,58,86,69,86,69,78,84,13,10,85,73,68,58]⟩
def rC:ByteArray:=⟨#[13,10]⟩
def rD:ByteArray:=⟨#[68,84,83,84,65,82,84,58]⟩
def rU:ByteArray:=⟨#[68,85,82,65,84,73,79,78,58,80,84]⟩
def rS:ByteArray:=⟨#[83]⟩
def c2 (atC:ByteArray):ByteArray:=rA++atC
def c3 (atC:ByteArray):ByteArray:=c2 atC++rC
def c4 (atC:ByteArray):ByteArray:=c3 atC++rD
def c6 (atC T:ByteArray):ByteArray:=c4 atC++T
def c7 (atC T:ByteArray):ByteArray:=c6 atC T++rC
def c8 (atC T:ByteArray):ByteArray:=c7 atC T++rU
def c12 (atC T D:ByteArray):ByteArray:=c8 atC T++D
def c13 (atC T D:ByteArray):ByteArray:=c12 atC T D++rS
def c14 (atC T D:ByteArray):ByteArray:=c13 atC T D++rC
theorem s2 (atC:ByteArray):(c2 atC).size=atC.size+18:=by
 unfold c2;rw[ξ];have:rA.size=18:=rfl;omega
theorem s3 (atC:ByteArray):(c3 atC).size=atC.size+20:=by
 unfold c3;rw[ξ,s2];have:rC.size=2:=rfl;omega
theorem s4 (atC:ByteArray):(c4 atC).size=atC.size+28:=by
 unfold c4;rw[ξ,s3];have:rD.size=8:=rfl;omega
theorem s6 (atC T:ByteArray):(c6 atC T).size=atC.size+T.size+28:=by
 unfold c6;rw[ξ,s4];omega
theorem s7 (atC T:ByteArray):(c7 atC T).size=atC.size+T.size+30:=by
 unfold c7;rw[ξ,s6];have:rC.size=2:=rfl;omega
theorem s8 (atC T:ByteArray):(c8 atC T).size=atC.size+T.size+41:=by
 unfold c8;rw[ξ,s7];have:rU.size=11:=rfl;omega
theorem s12 (atC T D:ByteArray):(c12 atC T D).size=atC.size+T.size+D.size+41:=by
 unfold c12;rw[ξ,s8];omega
theorem s13 (atC T D:ByteArray):(c13 atC T D).size=atC.size+T.size+D.size+42:=by
 unfold c13;rw[ξ,s12];have:rS.size=1:=rfl;omega
theorem LF (atC T D:ByteArray):(c14 atC T D).size=atC.size+T.size+D.size+44:=by
 unfold c14;rw[ξ,s13];have:rC.size=2:=rfl;omega
theorem c5 {w:υ}{g:Nat}{x0 x1 x2 x3 x4:Value}{T:TypeId}(h:M w g [x0,x1,x2,x3,x4] T):
 w.cell? ⟨g,0,none⟩=some x0/\w.cell? ⟨g,1,none⟩=some x1/\w.cell? ⟨g,2,none⟩=some x2/\w.cell? ⟨g,3,none⟩=some x3/\w.cell? ⟨g,4,none⟩=some x4:=
 ⟨h.cell rfl,h.cell rfl,h.cell rfl,h.cell rfl,h.cell rfl⟩
theorem aas (n ws:Int):ez n ws=((n+3)%7-ws)%7:=by unfold ez;omega
theorem Gu (r:aC)(hf:0<=r.fq/\r.fq<=3){s d:Int}(hd:-10000<=d):aX r s (cf r s d)<=d/\d<aX r s (cf r s d+1):=by
 unfold aX cf;have hq:r.fq=0\/r.fq=1\/r.fq=2\/r.fq=3:=by omega
 rcases hq with h|h|h|h
 ·simp only[h,if_true];omega
 ·simp only[h,if_true,show¬((1:Int)=0) by omega,if_false];simp only[aas];omega
 ·simp only[h,if_true,show¬((2:Int)=0) by omega,show¬((2:Int)=1) by omega,if_false];have ha:=ju d hd;rw[sN (y:=ag.aq s) (m:=ag.ofM s+((ag.aq d-ag.aq s)*12+ag.ofM d-ag.ofM s)) (y':=ag.aq d) (m':=ag.ofM d) (by omega),sN (y:=ag.aq s) (m:=ag.ofM s+((ag.aq d-ag.aq s)*12+ag.ofM d-ag.ofM s+1)) (y':=ag.aq d) (m':=ag.ofM d+1) (by omega)];omega
 simp only[h,show¬((3:Int)=0) by omega,show¬((3:Int)=1) by omega,show¬((3:Int)=2) by omega,if_false];have ha:=oq d hd;rw[show ag.aq s+(ag.aq d-ag.aq s)=ag.aq d by omega,show ag.aq s+(ag.aq d-ag.aq s+1)=ag.aq d+1 by omega];omega
theorem Gv (r:aC)(s:Int):(aS r s).fq=r.fq/\(aS r s).iv=r.iv/\(aS r s).ws=r.ws/\(aS r s).pls=r.pls:=by
 unfold aS
 repeat' split
 all_goals exact⟨rfl,rfl,rfl,rfl⟩
theorem Gw (t:Int):∀ls:List Int,fR ls->fR (gJ t (ls.dropWhile λx=>decide (x<t)))/\(∀x∈gJ t (ls.dropWhile λx=>decide (x<t)),t<x/\x∈ls)/\(∀x∈ls.takeWhile (λx=>decide (x<t)),x<t/\x∈ls)/\fR (ls.takeWhile λx=>decide (x<t))/\∀x∈ls,x∈ls.takeWhile (λx=>decide (x<t))\/x=t\/x∈gJ t (ls.dropWhile λx=>decide (x<t))
 |[],_=>by simp[gJ,fR]
 |a::r,h=>by
  obtain⟨ha,hr⟩:=List.pairwise_cons.1 h;by_cases q:a<t
  ·obtain⟨i1,i2,i3,i4,i5⟩:=Gw t r hr;rw[List.dropWhile_cons,if_pos (by simpa using q),Α,if_pos (by simpa using q)];refine⟨i1,λx X=>⟨(i2 x X).1,ν _ (i2 x X).2⟩,λx X=>?_,?_,λx X=>?_⟩
   ·rcases List.mem_cons.1 X with rfl|X
    ·exact⟨q,by simp⟩
    exact⟨(i3 x X).1,ν _ (i3 x X).2⟩
   ·exact List.pairwise_cons.2 ⟨λx X=>ha x (i3 x X).2,i4⟩
   rcases List.mem_cons.1 X with rfl|X
   ·exact .inl (by simp)
   rcases i5 x X with G|G|G
   ·exact .inl (ν _ G)
   ·exact .inr (.inl G)
   exact .inr (.inr G)
  rw[List.dropWhile_cons,if_neg (by simpa using q),Α,if_neg (by simpa using q),gJ];by_cases e:a=t
  ·subst e;rw[if_pos rfl];refine⟨hr,λx X=>⟨ha x X,ν _ X⟩,by simp,by simp[fR],λx X=>?_⟩;rcases List.mem_cons.1 X with rfl|X
   ·exact .inr (.inl rfl)
   exact .inr (.inr X)
  rw[if_neg e];refine⟨h,λx X=>?_,by simp,by simp[fR],λx X=>.inr (.inr X)⟩;rcases List.mem_cons.1 X with rfl|ef
  ·exact⟨by omega,X⟩
  have:=ha x ef;exact⟨by omega,X⟩
theorem Kg:∀ts ls:List Int,fR ts->fR ls->fR (jn ts ls)/\∀x,x∈jn ts ls↔x∈ts\/x∈ls
 |[],ls,_,h=>by rw[jn];exact⟨h,by simp⟩
 |t::ts,ls,G,A=>by
  obtain⟨ha,hr⟩:=List.pairwise_cons.1 G;obtain⟨i1,i2,i3,i4,i5⟩:=Gw t ls A;obtain⟨j1,j2⟩:=Kg ts (gJ t (ls.dropWhile λx=>decide (x<t))) hr i1;rw[jn];have Jg:∀x∈jn ts (gJ t (ls.dropWhile λx=>decide (x<t))),t<x:=λx X=>by
   rcases(j2 x).1 X with h|h
   ·exact ha x h
   exact(i2 x h).1
  refine⟨?_,λx=>?_⟩
  ·unfold fR;rw[List.pairwise_append];refine⟨i4,List.pairwise_cons.2 ⟨Jg,j1⟩,λx X y hy=>?_⟩;have:=(i3 x X).1;rcases List.mem_cons.1 hy with rfl|hy
   ·exact this
   have:=Jg y hy;omega
  rw[Ε,ω,ω,j2];constructor
  ·rintro(h|h|h|h)
   ·exact .inr (i3 x h).2
   ·exact .inl (.inl h)
   ·exact .inl (.inr h)
   exact .inr (i2 x h).2
  rintro((h|h)|h)
  ·exact .inr (.inl h)
  ·exact .inr (.inr (.inl h))
  rcases i5 x h with q|q|q
  ·exact .inl q
  ·exact .inr (.inl q)
  exact .inr (.inr (.inr q))
theorem aat {L:List Int}(h:fR L)(st:Int)(ex:List Int):fR (vK st ex L):=by
 unfold vK fR;refine ρ _ ?_;rw[ϛ];exact h.imp (λq=>by omega)
theorem aef {L:List Int}(h:fR L)(ct:Int):fR (Kf ct L):=by
 unfold Kf;split
 ·exact h
 exact List.Pairwise.sublist (List.take_sublist _ _) h
theorem XC (r:aC)(s:Int):cf r s s=0:=by
 have:=qY s r.ws;unfold cf;by_cases h0:r.fq=0
 ·rw[if_pos h0];omega
 rw[if_neg h0];by_cases G:r.fq=1
 ·rw[if_pos G];omega
 rw[if_neg G];by_cases A:r.fq=2
 ·rw[if_pos A];omega
 rw[if_neg A];omega
theorem aau (r:aC)(s k:Int):aX r s (k+1)<=aX r s k+366:=by
 rw[<-zg];unfold aX iW;by_cases h0:r.fq=0
 ·rw[if_pos h0,if_pos h0];omega
 rw[if_neg h0,if_neg h0];by_cases G:r.fq=1
 ·rw[if_pos G,if_pos G];omega
 rw[if_neg G,if_neg G];by_cases A:r.fq=2
 ·rw[if_pos A,if_pos A];have:=wb (ag.aq s) (ag.ofM s+k);omega
 rw[if_neg A,if_neg A];have:=ag.ua (ag.aq s+k);have:=ag.Ry (ag.aq s+k);omega
theorem Ri (r:aC)(hf:0<=r.fq/\r.fq<=3){s:Int}(hs:0<=s):aX r s 0<=s/\s-366<=aX r s 0:=by
 have h:=Gu r hf (s:=s) (d:=s) (by omega);rw[XC r]at h;have:=aau r s 0;omega
theorem Rj (r:aC)(hf:0<=r.fq/\r.fq<=3):160000<=((dG r).toNat:Int)*jx r:=by
 have:r.fq=0\/r.fq=1\/r.fq=2\/r.fq=3:=by omega
 unfold dG jx;rcases this with h|h|h|h<;>rw[h]<;>decide
theorem N9 (r:aC)(hf:0<=r.fq/\r.fq<=3)(s:Int):0<=(aS r s).fq/\(aS r s).fq<=3:=by rw[(Gv r s).1];exact hf
theorem Ev (r:aC)(hf:0<=r.fq/\r.fq<=3)(st last:Int)(atE:Nat)(s0:0<=st)(S:1<=r.iv)(hc:0<=r.ct)(N:last<7300000000)(hN0:last<(st/86400+atE)*86400)(N8:0<atE->(st/86400+atE-1)*86400<=last):
 lG r st 0 last=Kf r.ct ((dB (st/86400) atE).filter (rB (aS r (st/86400)) (st/86400))):=by
 have U:=Ri (aS r (st/86400)) (N9 r hf _) (s:=st/86400) (by omega);have I:=Rj r hf;exact aar r st last atE s0 S hc U.1 (by omega) (by omega) hN0 N8
theorem Oa (s last:Int)(k:Nat)(I:∀j:Nat,j<k->(s+j)*86400<=last):∃m:Nat,last<(s+((k+m:Nat):Int))*86400/\(0<k+m->(s+((k+m:Nat):Int)-1)*86400<=last):=by
 by_cases h:(s+k)*86400<=last
 ·exact⟨(last/86400-s-k+1).toNat,by omega,λ_=>by omega⟩
 refine⟨0,by omega,λh0=>?_⟩;have:=I (k-1) (by omega);omega
theorem aeg (r:aC)(hf:0<=r.fq/\r.fq<=3)(st last:Int)(s0:0<=st)(S:1<=r.iv)(hc:0<=r.ct)(N:last<7300000000):fR (lG r st 0 last):=by
 obtain⟨m,m0,m1⟩:=Oa (st/86400) last 0 (λj hj=>by omega);rw[Ev r hf st last (0+m) s0 S hc N m0 m1];exact aef (ρ _ (wY _ _)) _
theorem wu (s f last ct:Int)(s0:0<=s):∀(l:List Int) (c:Int),iX s f last ct c l=(iX s 0 last ct c l).filter λd=>decide (f-s%86400<=d*86400)
 |[],c=>by simp[iX]
 |d::l,c=>by
  rw[iX,iX];by_cases G:d*86400<s-s%86400
  ·rw[if_pos G,if_pos G];exact wu s f last ct s0 l c
  rw[if_neg G,if_neg G];by_cases A:last<d*86400
  ·rw[if_pos A,if_pos A];rfl
  rw[if_neg A,if_neg A,if_pos (show 0-s%86400<=d*86400 by omega)];by_cases K:c+1=ct
  ·rw[if_pos K,if_pos K,τ,τ];by_cases h4:f-s%86400<=d*86400
   ·rw[if_pos h4];simp[h4]
   rw[if_neg h4];simp[h4]
  rw[if_neg K,if_neg K,wu s f last ct s0 l (c+1)];by_cases h4:f-s%86400<=d*86400
  ·rw[if_pos h4];simp[h4]
  rw[if_neg h4];simp[h4]
theorem aav {l:List Int}{last:Int}(h:fR l)(x:Int):x∈l.takeWhile (λd=>decide (d*86400<=last))↔x∈l/\x*86400<=last:=by
 induction l with
 |nil=>simp
 |cons a l ih=>
  obtain⟨ha,N⟩:=List.pairwise_cons.1 h;rw[Α];by_cases G:a*86400<=last
  ·rw[if_pos (by simpa using G),ω,ω,ih N];constructor
   ·rintro(rfl|h)
    ·exact⟨.inl rfl,G⟩
    exact⟨.inr h.1,h.2⟩
   rintro⟨rfl|h,h'⟩
   ·exact .inl rfl
   exact .inr ⟨h,h'⟩
  rw[if_neg (by simpa using G)];constructor
  ·intro h;simp at h
  rintro⟨A,K⟩;rw[ω]at A;rcases A with rfl|A
  ·exact absurd K G
  have:=ha x A;omega
theorem Ob (r:aC)(hf:0<=r.fq/\r.fq<=3)(st f last:Int)(s0:0<=st)(S:1<=r.iv)(hc:r.ct=0)(N:last<7300000000):
 fR (lG r st f last)/\∀d,d∈lG r st f last↔rB (aS r (st/86400)) (st/86400) d=true/\st/86400<=d/\d*86400<=last/\f-st%86400<=d*86400:=by
 obtain⟨r',hr⟩:∃r',r'=aS r (st/86400):=⟨_,rfl⟩;have Nr:=N9 r hf (st/86400);have UP:=Gv r (st/86400);rw[<-hr]at Nr UP;have U:=Ri r' Nr (s:=st/86400) (by omega);have xk:=Rj r' Nr;have i3:r'.iv=r.iv:=UP.2.1;have e2:dG r'=dG r:=by unfold dG;rw[UP.1]
 have hct:r'.ct=r.ct:=by
  rw[hr];unfold aS
  repeat' split
  all_goals rfl
 obtain⟨k,I,k0,km,kd⟩:∃k:Int,fc r' st f=k/\0<=k/\k%r'.iv=0/\(∀d,st/86400<=d->f-st%86400<=d*86400->aX r' (st/86400) k<=d):=by
  refine⟨_,rfl,?_⟩;unfold fc;by_cases G:0<r'.ct\/f<=st
  ·rw[if_pos G];exact⟨by omega,by simp,λd h _=>by omega⟩
  rw[if_neg G];have A:st/86400<=f/86400:=by omega
  have pa:=Gu r' Nr (s:=st/86400) (d:=f/86400) (by omega);have LG:0<=cf r' (st/86400) (f/86400):=by
   by_cases hn:0<=cf r' (st/86400) (f/86400)
   ·exact hn
   have K:=vq r' (st/86400) (cf r' (st/86400) (f/86400)+1) (-(cf r' (st/86400) (f/86400)+1)).toNat;have e0:cf r' (st/86400) (f/86400)+1+((-(cf r' (st/86400) (f/86400)+1)).toNat:Int)=0:=by omega
   have:0<=((-(cf r' (st/86400) (f/86400)+1)).toNat:Int)*jx r':=Ν (by omega) (by unfold jx;split<;>(try split)<;>(try split)<;>omega);rw[e0]at K;omega
  obtain⟨D,hD⟩:∃D,cf r' (st/86400) (f/86400)=D:=⟨_,rfl⟩;rw[hD]at pa LG⊢;have mu:0<=D%r'.iv:=ύ _ (by omega);have nJ:D%r'.iv<=D:=by
   have:=Int.emod_add_mul_ediv D r'.iv;have h4:0<=r'.iv*(D/r'.iv):=Ν (by omega) (Int.ediv_nonneg LG (by omega));omega
  refine⟨by omega,?_,λd h h'=>?_⟩
  ·rw[Int.sub_emod,Int.emod_emod_of_dvd _ (Int.dvd_refl _),Int.sub_self,Int.zero_emod]
  have h5:=vq r' (st/86400) (D-D%r'.iv) (D%r'.iv).toNat;have e5:D-D%r'.iv+((D%r'.iv).toNat:Int)=D:=by omega
  have:0<=((D%r'.iv).toNat:Int)*jx r':=Ν (by omega) (by unfold jx;split<;>(try split)<;>(try split)<;>omega);rw[e5]at h5;omega
 have hA:aX r' (st/86400) 0<=aX r' (st/86400) k:=by
  have K:=vq r' (st/86400) 0 k.toNat;have e0:0+(k.toNat:Int)=k:=by omega
  have:0<=(k.toNat:Int)*jx r':=Ν (by omega) (by unfold jx;split<;>(try split)<;>(try split)<;>omega);rw[e0]at K;omega
 obtain⟨m,em,hm⟩:=Eu r' (st/86400) last (by omega) (dG r').toNat k km (by omega) (by omega);have hI:fR ((dB (aX r' (st/86400) k) m).filter (rB r' (st/86400))):=ρ _ (wY _ _);have e9:lG r st f last=(((((dB (aX r' (st/86400) k) m).filter (rB r' (st/86400))).filter λd=>decide (st/86400<=d)).takeWhile λd=>decide (d*86400<=last)).filter λd=>decide (f-st%86400<=d*86400)):=by
  unfold lG jf;rw[<-hr,I,em,wu st f last r.ct s0,BG st last r.ct s0 _ 0 (by omega) (.inl hc),if_pos hc];rfl
 rw[e9];refine⟨ρ _ ((ρ _ hI).sublist (List.takeWhile_sublist _)),λd=>?_⟩;rw[Η,aav (ρ _ hI),Η,Η,kA];simp only[decide_eq_true_eq,<-hr];constructor
 ·rintro⟨⟨⟨⟨_,A⟩,K⟩,h4⟩,h5⟩;exact⟨A,K,h4,h5⟩
 rintro⟨A,K,h4,h5⟩;have:=kd d K h5;exact⟨⟨⟨⟨⟨this,by omega⟩,A⟩,K⟩,h4⟩,h5⟩
def Oc (r:aC)(st:Int):List Int:=lG r st 0 7299999999
theorem aeh {atB B:List Int}{ct last x:Int}(hA:∀d∈atB,d*86400<=last)(hB:∀d∈B,last<d*86400):x∈Kf ct (atB++B)/\x*86400<=last↔x∈Kf ct atB:=by
 unfold Kf;split
 ·rw[Ε];exact⟨λ⟨h,h'⟩=>h.elim id λh=>by have:=hB x h;omega,λh=>⟨.inl h,hA x h⟩⟩
 rw[List.take_append,Ε];exact⟨λ⟨h,h'⟩=>h.elim id λh=>by have:=hB x (ϗ h);omega,λh=>⟨.inl h,hA x (ϗ h)⟩⟩
theorem BR (r:aC)(ho:eu r)(st f last:Int)(s0:0<=st)(N:last<7300000000):
 fR (lG r st f last)/\∀d,d∈lG r st f last↔d∈Oc r st/\d*86400<=last/\f-st%86400<=d*86400:=by
 have hf:0<=r.fq/\r.fq<=3:=⟨ho.Wg,ho.Wh⟩;by_cases hc:r.ct=0
 ·obtain⟨G,A⟩:=Ob r hf st f last s0 ho.F7 hc N;obtain⟨K,h4⟩:=Ob r hf st 0 7299999999 s0 ho.F7 hc (by omega);refine⟨G,λd=>?_⟩;unfold Oc;rw[A,h4];constructor
  ·rintro⟨a,b,c,e⟩;exact⟨⟨a,b,by omega,by omega⟩,c,e⟩
  rintro⟨⟨a,b,_,_⟩,c,e⟩;exact⟨a,b,c,e⟩
 have e1:lG r st f last=(lG r st 0 last).filter λd=>decide (f-st%86400<=d*86400):=by
  have hct:(aS r (st/86400)).ct=r.ct:=by
   unfold aS
   repeat' split
   all_goals rfl
  have J:0<r.ct:=by have:=ho.QL;omega
  have e4:fc (aS r (st/86400)) st f=0:=by unfold fc;rw[if_pos (.inl (by omega))]
  have e5:fc (aS r (st/86400)) st 0=0:=by unfold fc;rw[if_pos (.inl (by omega))]
  unfold lG jf;rw[e4,e5];exact wu st f last r.ct s0 _ 0
 have S:=aeg r hf st last s0 ho.F7 ho.QL N;rw[e1];refine⟨ρ _ S,λd=>?_⟩;rw[Η];unfold Oc;obtain⟨m,m0,m1⟩:=Oa (st/86400) last 0 (λj hj=>by omega);rw[ό]at m0 m1;obtain⟨n,n0,n1⟩:=Oa (st/86400) 7299999999 m (λj hj=>by have:=m1 (by omega);omega);rw[Ev r hf st last m s0 ho.F7 ho.QL N m0 m1,Ev r hf st 7299999999 (m+n) s0 ho.F7 ho.QL (by omega) n0 n1,ry,π];have hA:∀d∈(dB (st/86400) m).filter (rB (aS r (st/86400)) (st/86400)),d*86400<=last:=λd hd=>by
  have:=kA.1 (List.mem_filter.1 hd).1;have:=m1 (by omega);omega
 have hB:∀d∈(dB (st/86400+m) n).filter (rB (aS r (st/86400)) (st/86400)),last<d*86400:=λd hd=>by
  have:=kA.1 (List.mem_filter.1 hd).1;omega
 rw[<-aeh (ct:=r.ct) (x:=d) hA hB,decide_eq_true_eq,and_assoc]
def isT (hr:Bool)(r:aC)(st:Int)(ex xt:List Int)(x:Int):Prop:=
 x∉ex/\((hr=true/\(∃d∈Oc r st,x=d*86400+st%86400)/\x<=r.un)\/(hr=false/\x=st)\/(x∈xt/\st<=x))
theorem PR (hr:Bool)(r:aC)(st f to:Int)(ex xt:List Int)(ho:hr=true->eu r)(s0:0<=st)(t1:to<=7258118400)(X:fR xt):
 fR (ff hr r st f to ex xt)/\∀x,x∈ff hr r st f to ex xt↔isT hr r st ex xt x/\f<=x/\x<to:=by
 have EE:fR (uP hr r st f to)/\∀d,d∈uP hr r st f to↔((hr=true/\d∈Oc r st/\d*86400+st%86400<=r.un)\/(hr=false/\d=st/86400))/\f<=d*86400+st%86400/\d*86400+st%86400<to:=by
  unfold uP;cases hr with
  |true=>
   obtain⟨G,A⟩:=BR r (ho rfl) st f (iN r.un st to) s0 (by unfold iN;omega);refine⟨by simpa using G,λd=>?_⟩;rw[if_pos rfl,A];unfold iN;constructor
   ·rintro⟨a,b,c⟩;exact⟨.inl ⟨rfl,a,by omega⟩,by omega,by omega⟩
   rintro⟨⟨_,a,b⟩|⟨h,_⟩,c,e⟩
   ·exact⟨a,by omega,by omega⟩
   cases h
  |false=>
   have es:st/86400*86400+st%86400=st:=by omega
   simp only[Ο,if_false,false_and,false_or,true_and];by_cases h:f<=st/\st<to
   ·rw[if_pos h];refine⟨by simp[fR],λd=>?_⟩;rw[Γ];exact⟨λe=>by subst e;exact⟨rfl,by omega,by omega⟩,λe=>e.1⟩
   rw[if_neg h];refine⟨by simp[fR],λd=>?_⟩;constructor
   ·intro h;simp at h
   rintro⟨rfl,a,b⟩;omega
 have U:=aat EE.1 st ex;have hxb:fR (ix st f to ex xt):=by unfold ix;exact ρ _ X
 obtain⟨g1,g2⟩:=Kg (tp hr r st f to ex) (ix st f to ex xt) U hxb;refine⟨g1,λx=>?_⟩;unfold ff;rw[g2];unfold tp vK ix isT;rw[Η,Ϟ,Η];simp only[Β,decide_eq_true_eq,Bool.not_eq_true',List.contains_eq_mem,decide_eq_false_iff_not];constructor
 ·rintro(⟨⟨d,G,rfl⟩,A⟩|⟨G,⟨A,K⟩,h4⟩)
  ·obtain⟨K,h4,h5⟩:=(EE.2 d).1 G;refine⟨⟨A,?_⟩,h4,h5⟩;rcases K with⟨a,b,c⟩|⟨a,b⟩
   ·exact .inl ⟨a,⟨d,b,rfl⟩,c⟩
   exact .inr (.inl ⟨a,by omega⟩)
  exact⟨⟨h4,.inr (.inr ⟨G,by omega⟩)⟩,by omega,by omega⟩
 rintro⟨⟨G,A⟩,K,h4⟩;rcases A with⟨a,⟨d,b,rfl⟩,c⟩|⟨a,rfl⟩|⟨a,b⟩
 ·exact .inl ⟨⟨d,(EE.2 d).2 ⟨.inl ⟨a,b,c⟩,K,h4⟩,rfl⟩,G⟩
 ·refine .inl ⟨⟨x/86400,(EE.2 _).2 ⟨.inr ⟨a,rfl⟩,by omega,by omega⟩,by omega⟩,G⟩
 exact .inr ⟨a,⟨by omega,by omega⟩,G⟩
def mS (atH:Int->Int)(t:Int):Int->List (Int×Int×Int)->Prop
 |p,[]=>∀s,p<=s->s<t->atH s=0
 |p,(b,e,k)::L=>p<=b/\b<e/\e<=t/\k≠0/\(∀s,p<=s->s<b->atH s=0)/\(∀s,b<=s->s<e->atH s=k)/\(e=t\/atH e≠k)/\mS atH t e L
theorem mS.skip {atH:Int->Int}{t:Int}{p q:Int}{L:List (Int×Int×Int)}(h:mS atH t q L)(Qp:p<=q)(h0:∀s,p<=s->s<q->atH s=0):mS atH t p L:=by
 cases L with
 |nil=>
  intro s G A;by_cases K:s<q
  ·exact h0 s G K
  exact h s (by omega) A
 |cons x L=>
  obtain⟨b,e,k⟩:=x;obtain⟨a1,a2,a3,a4,a5,a6⟩:=h;exact⟨by omega,a2,a3,a4,λs G A=>if K:s<q then h0 s G K else a5 s (by omega) A,a6⟩
theorem mS.uniq {atH K':Int->Int}{t:Int}:∀{p:Int} {L L':List (Int×Int×Int)},(∀s,p<=s->s<t->atH s=K' s)->mS atH t p L->mS K' t p L'->L=L'
 |p,[],[],_,_,_=>rfl
 |p,[],(b,e,k)::L',hK,h,⟨a1,a2,a3,a4,_,a6,_⟩=>by
  have G:=h b a1 (by omega);rw[hK b a1 (by omega),a6 b (Λ _) a2]at G;exact absurd G a4
 |p,(b,e,k)::L,[],hK,⟨a1,a2,a3,a4,_,a6,_⟩,h=>by
  have G:=h b a1 (by omega);rw[<-hK b a1 (by omega),a6 b (Λ _) a2]at G;exact absurd G a4
 |p,(b,e,k)::L,(b',e',k')::L',hK,⟨a1,a2,a3,a4,a5,a6,a7,a8⟩,⟨c1,c2,c3,c4,c5,c6,c7,c8⟩=>by
  have U:b=b':=by
   rcases Int.lt_trichotomy b b' with h|h|h
   ·have:=c5 b a1 h;rw[<-hK b a1 (by omega),a6 b (Λ _) a2]at this;exact absurd this a4
   ·exact h
   have:=a5 b' c1 h;rw[hK b' c1 (by omega),c6 b' (Λ _) c2]at this;exact absurd this c4
  subst U;have I:k=k':=by
   have G:=a6 b (Λ _) a2;rw[hK b a1 (by omega),c6 b (Λ _) c2]at G;exact G.symm
  subst I;have he:e=e':=by
   rcases Int.lt_trichotomy e e' with h|h|h
   ·rcases a7 with h'|h'
    ·omega
    rw[hK e (by omega) (by omega)]at h';exact absurd (c6 e (by omega) h) h'
   ·exact h
   rcases c7 with h'|h'
   ·omega
   rw[<-hK e' (by omega) (by omega)]at h';exact absurd (a6 e' (by omega) h) h'
  subst he;rw[mS.uniq (λs G A=>hK s (by omega) A) a8 c8]
structure eF where
 t:Int
 k:Int
 m:Int
def eR (k:Int):List eF->Int
 |[]=>0
 |e::r=>(if e.k=k then e.m else 0)+eR k r
theorem Oe (k:Int)(x y:List eF):eR k (x++y)=eR k x+eR k y:=by
 induction x with
 |nil=>simp[eR]
 |cons a x ih=>simp only[κ,eR,ih];omega
theorem wv {k:Int}{x y:List eF}(h:x.Perm y):eR k x=eR k y:=by
 induction h with
 |nil=>rfl
 |cons a _ ih=>simp only[eR,ih]
 |swap a b l=>simp only[eR];omega
 |trans _ _ G A=>exact G.trans A
def nj (s:Int)(l:List eF):List eF:=l.filter λe=>decide (e.t<=s)
def gQ (c1 c2:Int):Int:=if 0<c2 then 2 else if 0<c1 then 1 else 0
def yu (t:Int):List eF->Bool
 |[]=>false
 |e::_=>decide (e.t=t)
def gi (c1 c2 bg kd:Int):List eF->List (Int×Int×Int)
 |[]=>[]
 |e::r=>
  if yu e.t r=true\/gQ (c1+if e.k=1 then e.m else 0) (c2+if e.k=2 then e.m else 0)=kd then gi (c1+if e.k=1 then e.m else 0) (c2+if e.k=2 then e.m else 0) bg kd r
  else(if kd=0 then[]else[(bg,e.t,kd)])++gi (c1+if e.k=1 then e.m else 0) (c2+if e.k=2 then e.m else 0) e.t (gQ (c1+if e.k=1 then e.m else 0) (c2+if e.k=2 then e.m else 0)) r
theorem O2 {s:Int}{e:eF}{r:List eF}(h:e.t<=s):nj s (e::r)=e::nj s r:=by unfold nj;rw[Κ (by simpa using h)]
theorem Rk {s:Int}{r:List eF}(h:∀x∈r,s<x.t):nj s r=[]:=by
 unfold nj;rw[Μ];intro x X;have:=h x X;simp;omega
theorem wx (T:Int)(atH:Int->Int):∀(es:List eF) (c1 c2 bg kd:Int),es.Pairwise (λx y=>x.t<=y.t)->(∀e∈es,bg<=e.t/\e.t<=T)->(kd≠0->∀e∈es,bg<e.t)->(es=[]->kd=0)->
 gQ (c1+eR 1 es) (c2+eR 2 es)=0->(∀s,bg<=s->s<T->(∀e∈es,s<e.t)->atH s=kd)->(∀s,bg<=s->s<T->(∃e∈es,e.t<=s)->atH s=gQ (c1+eR 1 (nj s es)) (c2+eR 2 (nj s es)))->
 mS atH T bg (gi c1 c2 bg kd es)
 |[],c1,c2,bg,kd,_,_,_,h0,_,G,_=>λs a b=>by rw[G s a b (by simp)];exact h0 rfl
 |e::r,c1,c2,bg,kd,hs,U,I,_,hz,G,A=>by
  obtain⟨s1,s2⟩:=List.pairwise_cons.1 hs;have Jc:=U e (by simp);have cP:∀x∈r,bg<=x.t/\x.t<=T:=λx X=>U x (ν _ X);have IG:gQ ((c1+if e.k=1 then e.m else 0)+eR 1 r) ((c2+if e.k=2 then e.m else 0)+eR 2 r)=0:=by rw[eR,eR]at hz;rwa [Ξ,Ξ]
  have hG:∀s,e.t<=s->bg<=s->s<T->atH s=gQ ((c1+if e.k=1 then e.m else 0)+eR 1 (nj s r)) ((c2+if e.k=2 then e.m else 0)+eR 2 (nj s r)):=by
   intro s a b c;rw[A s b c ⟨e,by simp,a⟩,O2 a,eR,eR,Ξ,Ξ]
  rw[gi];generalize(c1+if e.k=1 then e.m else 0)=d1 at *
  generalize(c2+if e.k=2 then e.m else 0)=d2 at *
  by_cases iK:yu e.t r=true
  case pos=>
   rw[if_pos (.inl iK)];cases r with
   |nil=>cases iK
   |cons x r'=>
    have X:x.t=e.t:=by simpa[yu]using iK
    refine wx T atH (x::r') d1 d2 bg kd s2 cP (λa y hy=>I a y (ν _ hy)) (λh=>by cases h) IG (λs a b c=>?_) (λs a b c=>?_)
    ·refine G s a b λy hy=>?_;rcases List.mem_cons.1 hy with rfl|hy
     ·have:=c x (by simp);omega
     exact c y hy
    refine hG s ?_ a b;obtain⟨y,hy,hy'⟩:=c;have:=s1 y hy;omega
  case neg=>
   have jh:∀x∈r,e.t<x.t:=by
    cases r with
    |nil=>simp
    |cons x r'=>
     have X:x.t≠e.t:=λh=>iK (by simpa[yu]using h);have bL:=s1 x (by simp);obtain⟨s3,_⟩:=List.pairwise_cons.1 s2;intro y hy;rcases List.mem_cons.1 hy with rfl|hy
     ·omega
     have:=s3 y hy;omega
   have aaw:∀s,e.t<=s->bg<=s->s<T->(∀x∈r,s<x.t)->atH s=gQ d1 d2:=by
    intro s a b c d;rw[hG s a b c,Rk d];simp[eR]
   have ah8:r=[]->gQ d1 d2=0:=by
    rintro rfl;simpa[eR]using IG
   by_cases XD:gQ d1 d2=kd
   case pos=>
    rw[if_pos (.inr XD)];refine wx T atH r d1 d2 bg kd s2 cP (λa y hy=>I a y (ν _ hy)) (λh=>by rw[<-XD];exact ah8 h) IG (λs a b c=>?_) (λs a b c=>?_)
    ·by_cases h:e.t<=s
     ·rw[aaw s h a b c,XD]
     refine G s a b λy hy=>?_;rcases List.mem_cons.1 hy with rfl|hy
     ·omega
     exact c y hy
    refine hG s ?_ a b;obtain⟨y,hy,hy'⟩:=c;have:=s1 y hy;omega
   case neg=>
    rw[if_neg (λh=>h.elim iK XD)];have ih:mS atH T e.t (gi d1 d2 e.t (gQ d1 d2) r):=by
     refine wx T atH r d1 d2 e.t (gQ d1 d2) s2 (λx X=>⟨s1 x X,(cP x X).2⟩) (λ_=>jh) ah8 IG (λs a b c=>aaw s a (by omega) b c) (λs a b c=>hG s a (by omega) b)
    have h0:∀s,bg<=s->s<e.t->atH s=kd:=λs a b=>G s a (by omega) λy hy=>by
     rcases List.mem_cons.1 hy with rfl|hy
     ·exact b
     have:=s1 y hy;omega
    by_cases h:kd=0
    ·rw[if_pos h];exact ih.skip Jc.1 (λs a b=>by rw[h0 s a b,h])
    rw[if_neg h];refine⟨Λ _,I h e (by simp),Jc.2,h,λs a b=>by omega,h0,?_,ih⟩;by_cases he:e.t=T
    ·exact .inl he
    refine .inr ?_;rw[aaw e.t (Λ _) Jc.1 (by omega) jh];exact XD
structure mC where
 k:Int
 b:Int
 e:Int
def eZ (f t:Int)(cs:List mC):List eF:=cs.flatMap λc=>[⟨max c.b f,c.k,1⟩,⟨min c.e t,c.k,-1⟩]
def AI (cs:List mC)(s:Int):Int:=if cs.any (λc=>decide (c.k=2)&&decide (c.b<=s)&&decide (s<c.e))then 2 else if cs.any (λc=>decide (c.k=1)&&decide (c.b<=s)&&decide (s<c.e))then 1 else 0
theorem Of (f t:Int)(k s:Int)(hs:f<=s)(ht:s<t):∀(cs:List mC),(∀c∈cs,c.b<c.e)->0<=eR k (nj s (eZ f t cs))/\(0<eR k (nj s (eZ f t cs))↔cs.any (λc=>decide (c.k=k)&&decide (c.b<=s)&&decide (s<c.e))=true)
 |[],_=>by simp[eZ,nj,eR]
 |c::cs,h=>by
  obtain⟨G,A⟩:=Of f t k s hs ht cs (λx X=>h x (ν _ X));have hc:=h c (by simp);have e1:nj s (eZ f t (c::cs))=nj s [⟨max c.b f,c.k,1⟩,⟨min c.e t,c.k,-1⟩]++nj s (eZ f t cs):=by
   show nj s ([_,_]++_)=_;unfold nj;rw[π];rfl
  rw[e1,Oe,List.any_cons];have e2:eR k (nj s [⟨max c.b f,c.k,1⟩,⟨min c.e t,c.k,-1⟩])=if c.k=k/\c.b<=s/\s<c.e then 1 else 0:=by
   unfold nj;by_cases a1:max c.b f<=s
   ·by_cases a2:min c.e t<=s
    ·rw[Κ (by simpa using a1),Κ (by simpa using a2),List.filter_nil];have:¬(c.k=k/\c.b<=s/\s<c.e):=by omega
     rw[if_neg this];by_cases I:c.k=k<;>simp[eR,I]
    rw[Κ (by simpa using a1),Υ (by simpa using a2),List.filter_nil];by_cases I:c.k=k
    ·rw[if_pos (by omega)];simp[eR,I]
    rw[if_neg (λh=>I h.1)];simp[eR,I]
   have a2:¬min c.e t<=s:=by omega
   rw[Υ (by simpa using a1),Υ (by simpa using a2),List.filter_nil];rw[if_neg (by omega)];rfl
  rw[e2];by_cases I:c.k=k/\c.b<=s/\s<c.e
  ·rw[if_pos I];refine⟨by omega,?_⟩;simp only[I,decide_true,Bool.and_true,Bool.true_or,iff_true];have:=I.2;simp;omega
  rw[if_neg I];have:(decide (c.k=k)&&decide (c.b<=s)&&decide (s<c.e))=false:=by
   cases h':(decide (c.k=k)&&decide (c.b<=s)&&decide (s<c.e))
   ·rfl
   simp only[Β,decide_eq_true_eq]at h';exact absurd ⟨h'.1.1,h'.1.2,h'.2⟩ I
  rw[this,Bool.false_or,Int.zero_add];exact⟨G,A⟩
theorem Iu (f t k:Int):∀cs:List mC,eR k (eZ f t cs)=0
 |[]=>rfl
 |c::cs=>by
  have e1:eZ f t (c::cs)=[⟨max c.b f,c.k,1⟩,⟨min c.e t,c.k,-1⟩]++eZ f t cs:=rfl;rw[e1,Oe,Iu f t k cs];by_cases I:c.k=k<;>simp[eR,I]
theorem Og {s:Int}{x y:List eF}(h:x.Perm y):(nj s x).Perm (nj s y):=h.filter _
theorem Sa {f t:Int}{cs:List mC}(xr:f<t)(hc:∀c∈cs,c.b<c.e/\c.b<t/\f<c.e){es:List eF}(J:es.Perm (eZ f t cs))(hs:es.Pairwise λx y=>x.t<=y.t):mS (AI cs) t f (gi 0 0 f 0 es):=by
 have U:∀e∈es,f<=e.t/\e.t<=t:=by
  intro e he;have:=J.mem_iff.1 he;unfold eZ at this;rw[List.mem_flatMap]at this;obtain⟨c,zR,zL⟩:=this;obtain⟨G,A,K⟩:=hc c zR;simp only[ω,Τ,or_false]at zL;rcases zL with rfl|rfl
  ·exact⟨by show f<=max c.b f;omega,by show max c.b f<=t;omega⟩
  exact⟨by show f<=min c.e t;omega,by show min c.e t<=t;omega⟩
 have hK:∀s,f<=s->s<t->AI cs s=gQ (0+eR 1 (nj s es)) (0+eR 2 (nj s es)):=by
  intro s a b;obtain⟨_,A⟩:=Of f t 1 s a b cs (λc uM=>(hc c uM).1);obtain⟨_,K⟩:=Of f t 2 s a b cs (λc uM=>(hc c uM).1);rw[Int.zero_add,Int.zero_add,wv (Og J),wv (Og J)];unfold AI gQ;simp only[A,K]
 refine wx t (AI cs) es 0 0 f 0 hs U (λh=>absurd rfl h) (λ_=>rfl) ?_ (λs a b c=>?_) (λs a b _=>hK s a b)
 ·rw[wv J,wv J,Iu,Iu];rfl
 rw[hK s a b,Rk c];rfl
theorem ei {P:Program}{Q:Exit->Act->υ->Prop}{id:Nat}{a:Act}{w:υ}{L l t:List Oper}(n:Nat)(N:L.take n=l)(ht:L.drop n=t)(atz:Nat->Act->υ->Prop)(aty:Act->υ->Prop)
 (hm:P.follows .mixedOrders=true)(hf:forward .any L.toArray=true)(jZ:forward .any l.toArray=true)(hg:fK L.toArray=true)(Fm:fK l.toArray=true)(hc:iO n L.toArray=true)(hn:l.length=n)
 (atA:∀i o,l.toArray[i]?=some o->∀a w,aty a w->(∀e∈o.after,ϊ .any e=true->atz e.on a w)->∀Q':Exit->Act->υ->Prop,Oper.wp P o a w (λa' Y=>aty a' Y/\atz i a' Y/\∀j oj,l.toArray[j]?=some oj->j≠i->(∀e∈oj.after,ϊ .any e=true->e.on≠i)->atz j a w->atz j a' Y) Q')
 (D:∀a w,aty a w->(∀i,i<n->atz i a w)->wpList P L.toArray Q t a w)(hI:aty a {w with drawn:=w.drawn+1}):(Code.region id L.toArray true).wp P Q a w:=by
 subst N ht;have e:L.take n++L.drop n=L:=List.take_append_drop n L;have:=xN (P:=P) (Q:=Q) (id:=id) (a:=a) (w:=w) (L.take n) (L.drop n) hm (by rw[e];exact hf) (by rw[e];exact hg) (by rw[e,hn];exact hc) (by
  refine FV atz aty jZ (λi o a w ho hI hG=>?_) (λa w hI hG=>?_) (L.take n).length (Array.replicate (L.take n).length false) a _ (by simp) (by rw[Array.toList_replicate,List.count_replicate];simp) hI (λi S h=>?_) (λi o ho h=>?_)
  ·refine wpOp_step ho λK' oc=>?_;rw[if_pos (wR Fm ho _)];exact Oper.wp_mono oc (atA i o ho a w hI hG _)
  ·show wpList P (L.take n++L.drop n).toArray Q (L.drop n) a w;rw[e];exact D a w hI λi S=>hG i (by rw[ϋ,hn];exact S)
  ·rw[bB _ (by simpa using S)]at h;simp at h
  rw[bB _ (by simpa using(Array.getElem?_eq_some_iff.1 ho).1)]at h;simp at h)
 rw[e]at this;exact this
theorem Iv {α:Type}{a b:α}{w Y:υ}(h:(Result.ok a w:Result α)=.ok b Y):a=b/\w=Y:=by cases h;exact⟨rfl,rfl⟩
theorem pP {P:Program}(w:υ)(base:Nat)(t ty e:TypeId)(z:Value)(size bytes:Nat)(ht:P.underlying t=some (.slice e))(yh:(P.info? e).map (λi=>(i.zero,i.size,i.bytes))=some (some z,size,bytes))(hzs:z.cells.size=size)(bp:0<size)
 (v:Value)(n:Nat)(xs:List Value)(aU:w.ownsRow base e size v n xs)(a:ϟ)(m c:Nat)(hm:0<m)(news:List Value)(N:news.length=m*size)(K0:∀j u,news[j]?=some u->w.cell? (a.add j)=some u)(G:∀u∈news,u.oneCell'=true)
 (h63:n+m<=16777216)(uf:bytes<=64)(ajb:base<=w.heap.size):
 ∃g cap Y,(Builtin.append_ #[t,t] ty #[v,η (some a) m c]).run P w=.ok (η (some ⟨g,0,none⟩) (n+m) cap) Y/\Y.ownsRow base e size (η (some ⟨g,0,none⟩) (n+m) cap) (n+m) (xs++news)/\Y.ownsRow base e size v n xs/\w.grownBy Y v.ownBlock/\(v.ownBlock=some g\/g=w.heap.size):=by
 obtain⟨i,S,hz,acw,hby⟩:=info_parts yh;have aO:(n+m)*bytes<=140737488355328:=by
  have:(n+m)*bytes<=16777216*64:=Nat.mul_le_mul h63 uf;omega
 obtain⟨v',Y,iF,o1,g1,_⟩:=run_append_own (P:=P) w base t ty e i z size bytes ht S hz acw hby hzs bp v n xs aU a m c news N K0 G (by unfold maxLen;omega) aO ajb;subst acw hby;rcases aU.2 with⟨rfl,rfl⟩|⟨g,cap,cur,rfl,hbg,hg,Ps,zR,Ak,RN⟩
 ·have X:xs=[]:=List.eq_nil_of_length_eq_zero (by simpa using aU.1);subst X;have hr:=run_append_nil (P:=P) w t ty e i z ht S hz a m c news N K0 hm (by omega) (by simp only[ό]at aO;omega);rw[iF]at hr;obtain⟨e1,e2⟩:=Iv hr;subst e1;refine⟨w.heap.size,grownCap w m 0 e,Y,by rw[ό];exact iF,by rw[ό]at o1⊢;exact o1,Ϙ _ _ _ _,g1,.inr rfl⟩
 by_cases RH:n+m<=cap
 ·have Dw:n*i.size+news.length<=cur.size:=by rw[N,Ak,<-Nat.add_mul];exact Nat.mul_le_mul_right _ RH
  have hr:=run_append_room (P:=P) w t ty e i ht S g n cap cur hg a m c news N K0 G RH Dw;rw[iF]at hr;obtain⟨e1,e2⟩:=Iv hr;subst e1 e2;refine⟨g,cap,_,iF,o1,⟨aU.1,.inr ⟨g,cap,_,rfl,hbg,setRow_heap w g cur _ e _ hg,Ps,zR,?_,?_⟩⟩,g1,.inl rfl⟩
  ·simp only[ϋ,ο,List.length_take,List.length_drop,Array.length_toList];omega
  rw[RN,<-aU.1,ψ];exact List.take_left
 have holds:∀j u,xs[j]?=some u->w.cell? ((⟨g,0,none⟩:ϟ).add j)=some u:=aU.cells (g:=g) rfl;have hr:=run_append_grow (P:=P) w t ty e i z ht S hz ⟨g,0,none⟩ n cap xs aU.1 holds a m c news N K0 (by omega) (by omega) (growslice_fits (by omega) aO);rw[iF]at hr;obtain⟨e1,e2⟩:=Iv hr;subst e1 e2;have aQ:=(Array.getElem?_eq_some_iff.1 hg).1;exact⟨w.heap.size,_,_,iF,o1,⟨aU.1,.inr ⟨g,cap,cur,rfl,hbg,(Below.heap_alloc _ _ _ aQ).trans hg,Ps,zR,Ak,RN⟩⟩,g1,.inr rfl⟩
structure JX (n0:Nat)(fix:List (Nat×Value))(C:υ->Prop)(a:Act)(w:υ):Prop where
 size:a.tmps.size=n0
 defers:a.defers=[]
 fixed:∀p∈fix,a.eval (.tmp p.1)=p.2
 world:C w
structure LA (σ:Nat->Nat)(fix:List (Nat×Value))(n0 n:Nat):Prop where
 lt:∀i,i<n->σ i<n0
 inj:∀i j,i<n->j<n->σ i=σ j->i=j
 off:∀p∈fix,∀i,i<n->p.1≠σ i
theorem RL {σ:Nat->Nat}{fix:List (Nat×Value)}{n0:Nat}{atE:Nat->Value->υ->Prop}{C:υ->Prop}{a:Act}{w Y:υ}{ops:Array Oper}{i:Nat}{v:Value}{dst:Option Nat}(atI:LA σ fix n0 ops.size)(hd:dst=some (σ i))(S:i<ops.size)
 (h:JX n0 fix C a w)(hC:C Y)(I:∀j v,j≠i->atE j v w->atE j v Y)(hn:atE i v Y):
 JX n0 fix C (a.put dst v) Y/\GV σ atE i (a.put dst v) Y/\∀j oj,ops[j]?=some oj->j≠i->(∀e∈oj.after,ϊ .any e=true->e.on≠i)->GV σ atE j a w->GV σ atE j (a.put dst v) Y:=by
 subst hd;have hs:σ i<a.tmps.size:=by rw[h.size];exact atI.lt i S
 refine⟨⟨by rw[gm];exact h.size,by rw[put_defers];exact h.defers,λp J=>by rw[cZ (atI.off p J i S)];exact h.fixed p J,hC⟩,?_,λj oj jm fA _ hg=>?_⟩
 ·unfold GV;rw[gR hs];exact hn
 have hj:j<ops.size:=(Array.getElem?_eq_some_iff.1 jm).1;unfold GV at hg⊢;rw[cZ (λe=>fA (atI.inj j i hj S e))];exact I j _ fA hg
theorem eo {σ:Nat->Nat}{fix:List (Nat×Value)}{n0:Nat}{atE:Nat->Value->υ->Prop}{C:υ->Prop}{a:Act}{w:υ}{ops:Array Oper}{i:Nat}{v:Value}{dst:Option Nat}(atI:LA σ fix n0 ops.size)(hd:dst=some (σ i))(S:i<ops.size)
 (h:JX n0 fix C a w)(hn:atE i v w):
 JX n0 fix C (a.put dst v) w/\GV σ atE i (a.put dst v) w/\∀j oj,ops[j]?=some oj->j≠i->(∀e∈oj.after,ϊ .any e=true->e.on≠i)->GV σ atE j a w->GV σ atE j (a.put dst v) w:=
 RL atI hd S h h.world (λ_ _ _ h=>h) hn
theorem GU {P:Program}{o:Oper}{a:Act}{w Y:υ}{s x:Operand}{t:TypeId}{v u r:Value}(ho:o.op=.call {callee:=.builtin .append,args:=#[s,x],argTypes:=#[t,t]})(hs:a.eval s=v)(X:a.eval x=u)(hr:(Builtin.append_ #[t,t] o.type #[v,u]).run P w=.ok r Y):
 (execOp a.eval o).run P w=.ok (.value r) Y:=by
 unfold execOp;simp only[ho,resolve,invoke,builtin,Sem.run_bind,Sem.run_pure,Result.andThen_ok,List.map_toArray,Ζ,Χ,hs,X,hr]
end Go.Proofs.YthpndgcaoeokeaaGreatDoor
