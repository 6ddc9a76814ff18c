import Derived.Test.YthpndgcaoeokeaaGreatDoorCv4
import Derived.RangeFuncLeaves
import Derived.Sort.LoopGhostIn
import Derived.TacticsIn
import Derived.RegionIn
import Derived.Maps.OwnIn
import Derived.OwnWalkIn
import Derived.Lib.QuietBelowIn
import Derived.Sort.BigQuietIn
import Derived.Sort.CutIn
set_option maxRecDepth 100000
set_option maxHeartbeats 8000000
open Go.IntKind renaming i64->Z
open Go.Value renaming int->V,pointer->ζ,slice->η,string->θ
open Go.Ending renaming returned->δ,panicked->ε
open Go.Obj renaming cells->ι
open Go renaming World->κ,PanicEntry->ρ,Program->τ,Code->ω,Calls->Α,FuncId->Ε,Act->Κ,Ending->Ο,TypeId->Ψ,LoopState->Ω,Exit->ϊ,Operand->Ϗ
open Nat renaming le_refl->μ,add_sub_cancel_left->ψ,le_trans->Γ,reduceSub->ύ,reduceAdd->ώ
open Go.RowKit.Below renaming refl->ν,heap_setCell->Ϙ,heap_alloc->Ϝ
open Go.Fence renaming wide->ξ
open Go.StepsIn renaming trans->ο
open Go.World renaming putObj_heap_other->π,size_setCell->Β,putObj_heap_same->ό,alloc_heap_new->ϗ,ownsRow_nil->ϙ,size_alloc->Ϛ
open List renaming length_append->υ,getElem?_append_right->φ,drop_eq_getElem_cons->Ζ,getElem?_eq_getElem->Η,length_cons->Θ,append_toArray->Ξ,size_toArray->Ρ,push_toArray->Τ,cons_append->Υ,nil_append->Φ,length_nil->Χ,any_cons->ϋ,getElem?_map->ϛ,drop_length->ϝ
open Go.Machine renaming fenced->χ
open Go.Code renaming rangeFunc->Δ
open Go.Exit renaming inBlock->Ι
open Array renaming replicate_zero->Λ,replicate_succ->Μ,replicate->Ϟ
open Go.RowKit renaming Hid->Ν
namespace Go.Proofs.YthpndgcaoeokeaaGreatDoor
open Tryz
open Go.RowKit Go.Sort
def wV (r:aC)(n:Int):Bool:=decide (r.wks.length=0)||r.wks.any λp=>p.2==(n+719470)%7&&(p.1==0||gM r n p.1)
def yX (r:aC)(n:Int):Bool:=H6 r n&&H7 r n&&wV r n
theorem KF (r:aC)(m md wk pl:Value)(tx:ByteArray)(n:Int)(w:κ)(N:eG w r m md wk pl)(ho:eu r)(h0:-10000<=n)(G:n<=300000):
 Α prog 364 #[bC r.fq r.iv r.ct r.un m md wk pl r.ws tx,aW n] w λe Y=>e=δ (.bool (wV r n))/\Below w.heap.size w Y:=by
 have hw:=N.wks;have hq:=ho.wks;have ag8:=H ho.ord;have hP:Ν (∀W o,Below w.heap.size w W→-53<=o->o<=53->Α prog 366 #[bC r.fq r.iv r.ct r.un m md wk pl r.ws tx,aW n,V Z o] W λe Y=>e=δ (.bool (gM r n o))/\Below W.heap.size W Y):=
  H λW o U a b=>SV r m md wk pl tx n o W (N.on U) ho h0 G a b
 have hD:Ν (∀W,Α prog 339 #[aW n] W λe Y=>e=δ (V Z ((n+719470)%7))/\Below W.heap.size W Y):=H λW=>Bs n W (by omega) (by omega);have Dw:Ν (r.wks.length≠0->wV r n=r.wks.any λp=>p.2==(n+719470)%7&&(p.1==0||gM r n p.1)):=H λh=>by unfold wV;simp[h]
 have SZ:Ν (r.wks.length=0->wV r n=true):=H λh=>by unfold wV;simp[h]
 have oa:0<=(n+719470)%7/\(n+719470)%7<=6:=by omega
 obtain⟨a1,e1⟩:=N.ms.form;obtain⟨a2,e2⟩:=N.mds.form;obtain⟨a3,e3⟩:=N.pls.form;clear N ho;generalize(n+719470)%7=atH at *
 generalize wV r n=FW at *
 generalize Lm:gM r n=PB at *
 clear Lm;generalize r.wks=zs at *
 generalize r.fq=fq at *
 generalize r.iv=iv at *
 generalize r.ct=ct at *
 generalize r.un=un at *
 generalize r.ws=ws at *
 generalize r.ms.length=n1 at *
 generalize r.mds.length=n2 at *
 generalize r.pls.length=n3 at *
 subst e1 e2 e3;unfold aW cS bC at *
 by_cases hz:zs.length=0
 case pos=>
  have HE:=H (SZ.out hz);obtain⟨a4,rfl⟩:=hw.form;clear hw ag8 Dw SZ hP hD;generalize zs.length=L at *
  subst hz;go_enter func364,ntmps364;go_wp2_with fail;go_ret;exact⟨by rw[HE.out];rfl,((ν _ _).alloc (μ _) _).alloc (by simp) _⟩
 case neg=>
  rcases hw with⟨_,A⟩|⟨g,rfl,aB⟩
  ·rw[A]at hz;exact absurd rfl hz
  have HE:=H (Dw.out hz);clear Dw SZ;have IG:((zs.length:Int)==0)=false:=by simpa using hz
  have aQ:=aB.lt;go_enter func364,ntmps364;go_wp2_with fail;have r0:=kK w [V Z fq,V Z iv,V Z ct,V Z un,η a1 n1 n1,η a2 n2 n2,η (some ⟨g,0,none⟩) zs.length zs.length,η a3 n3 n3,V Z ws,θ tx] 76 (ι #[V Z (ag.aq n),V Z (ag.ofM n),V Z (ag.aA n)] 106);have r1:=kM w [V Z (ag.aq n),V Z (ag.ofM n),V Z (ag.aA n)] 106 (ι #[V Z fq,V Z iv,V Z ct,V Z un,η a1 n1 n1,η a2 n2 n2,η (some ⟨g,0,none⟩) zs.length zs.length,η a3 n3 n3,V Z ws,θ tx] 76);have al:=mP w (ι #[V Z fq,V Z iv,V Z ct,V Z un,η a1 n1 n1,η a2 n2 n2,η (some ⟨g,0,none⟩) zs.length zs.length,η a3 n3 n3,V Z ws,θ tx] 76) (ι #[V Z (ag.aq n),V Z (ag.ofM n),V Z (ag.aA n)] 106);refine(hD.out _).mono ?_;rintro e w1 ⟨rfl,au⟩;replace r0:=r0.on au;replace r1:=r1.on au;replace al:=al.trans (au.mono al.size);clear au;obtain⟨q0,q1,q2,q3,q4,q5,q6,q7,q8,q9⟩:=bZ r0;go_wp2_with fail;clear q0 q1 q2 q3 q4 q5 q6 q7 q8 q9;go_loopw [17] (λi wr=>∃k:Nat,k<=zs.length/\i=V Z k/\Below w.heap.size w wr/\M wr w.heap.size [V Z fq,V Z iv,V Z ct,V Z un,η a1 n1 n1,η a2 n2 n2,η (some ⟨g,0,none⟩) zs.length zs.length,η a3 n3 n3,V Z ws,θ tx] 76/\M wr (w.heap.size+1) [V Z (ag.aq n),V Z (ag.ofM n),V Z (ag.aA n)] 106/\Ν (FW=(zs.drop k).any λp=>p.2==atH&&(p.1==0||PB p.1))) (λi _=>zs.length-(intOf i).toNat)
  case atStart=>exact⟨0,Nat.zero_le _,rfl,al,r0,r1,H (by simpa using HE.out)⟩
  case round=>
   clear r0 r1 al HE;obtain⟨k,I,rfl,dJ,r0,r1,HT⟩:=hrel;by_cases aQ:k<zs.length
   case neg=>
    have ja:k=zs.length:=by omega
    subst ja;have HE:Ν (FW=false):=H (by rw[HT.out,ϝ];rfl);clear HT;go_wp2_with fail;go_ret;exact⟨by rw[HE.out];rfl,dJ⟩
   case pos=>
    obtain⟨q,Nt⟩:∃q,zs[k]?=some q:=⟨_,Η aQ⟩;have hr:=aB.on dJ;have d0:=hr.cell (JF zs k q Nt);have d1:=hr.cell (JG zs k q Nt);have hqb:=ag8.out q (List.mem_of_getElem? Nt);have hd:zs.drop k=q::zs.drop (k+1):=by
     obtain⟨cj,he⟩:=List.getElem?_eq_some_iff.1 Nt;rw[Ζ cj,he]
    have hB:=dJ.size;have dH:=r1.lt;by_cases LG:q.2=atH
    case neg=>
     have HE:Ν (FW=(zs.drop (k+1)).any λp=>p.2==atH&&(p.1==0||PB p.1)):=H (by rw[HT.out,hd,ϋ];simp[LG]);have g1:(q.2==atH)=false:=by simp[LG]
     clear HT hd Nt;go_wp2_with fail;go_roundw
     case rel=>
      have cE:=(ν wr.heap.size wr).alloc (μ _) (ι #[V Z q.1,V Z q.2] 183);exact⟨k+1,by omega,by go_num,dJ.alloc hB _,r0.on cE,r1.on cE,HE⟩
     case measure=>simp[intOf];omega
    case pos=>
     subst LG;by_cases ho0:q.1=0
     case pos=>
      have HE:Ν (FW=true):=H (by rw[HT.out,hd,ϋ];simp[ho0]);have g1:(q.1==0)=true:=by simp[ho0]
      clear HT hd Nt;go_wp2_with fail;go_ret;exact⟨by rw[HE.out];rfl,dJ.alloc hB _⟩
     case neg=>
      have g1:(q.1==0)=false:=by simp[ho0]
      have HE:Ν (FW=(PB q.1||(zs.drop (k+1)).any λp=>p.2==q.2&&(p.1==0||PB p.1))):=H (by rw[HT.out,hd,ϋ,g1];simp);clear HT hd Nt;have cE:=(ν wr.heap.size wr).alloc (μ _) (ι #[V Z q.1,V Z q.2] 183);obtain⟨q0,q1,q2,q3,q4,q5,q6,q7,q8,q9⟩:=bZ (r0.on cE);obtain⟨c0,c1,c2,_,_,_⟩:=bW (r1.on cE);go_wp2_with fail;refine(hP.out _ q.1 (dJ.alloc hB _) hqb.1 hqb.2).mono ?_;rintro e w5 ⟨rfl,bJ⟩;generalize J:PB q.1=pb at *
      clear q0 q1 q2 q3 q4 q5 q6 q7 q8 q9 c0 c1 c2;cases pb
      ·go_wp2_with fail;go_roundw
       case rel=>exact⟨k+1,by omega,by go_num,(dJ.alloc hB _).trans (bJ.mono (by simp;omega)),(r0.on cE).on bJ,(r1.on cE).on bJ,H (by rw[HE.out];simp)⟩
       case measure=>simp[intOf];omega
      go_wp2_with fail;go_ret;exact⟨by rw[HE.out];simp,(dJ.alloc hB _).trans (bJ.mono (by simp;omega))⟩
theorem aha (r:aC)(m md wk pl:Value)(tx:ByteArray)(n:Int)(w:κ)(N:eG w r m md wk pl)(ho:eu r)(h0:-10000<=n)(G:n<=300000):
 Α prog 356 #[bC r.fq r.iv r.ct r.un m md wk pl r.ws tx,aW n] w λe Y=>e=δ (.bool (yX r n))/\Below w.heap.size w Y:=by
 have hA:Ν (∀W,Below w.heap.size w W->Α prog 362 #[bC r.fq r.iv r.ct r.un m md wk pl r.ws tx,aW n] W λe Y=>e=δ (.bool (H6 r n))/\Below W.heap.size W Y):=H λW U=>OY r m md wk pl tx n W (N.on U) ho;have hB:Ν (∀W,Below w.heap.size w W->Α prog 363 #[bC r.fq r.iv r.ct r.un m md wk pl r.ws tx,aW n] W λe Y=>e=δ (.bool (H7 r n))/\Below W.heap.size W Y):=H λW U=>H9 r m md wk pl tx n W (N.on U) ho h0 G;have hC:Ν (∀W,Below w.heap.size w W->Α prog 364 #[bC r.fq r.iv r.ct r.un m md wk pl r.ws tx,aW n] W λe Y=>e=δ (.bool (wV r n))/\Below W.heap.size W Y):=H λW U=>KF r m md wk pl tx n W (N.on U) ho h0 G;obtain⟨a1,e1⟩:=N.ms.form;obtain⟨a2,e2⟩:=N.mds.form;obtain⟨a3,e3⟩:=N.pls.form;obtain⟨a4,e4⟩:=N.wks.form;clear N ho;have hF:Ν (yX r n=(H6 r n&&H7 r n&&wV r n)):=H rfl;generalize yX r n=F at *
 generalize H6 r n=atB at *
 generalize H7 r n=B at *
 generalize wV r n=C at *
 generalize r.fq=fq at *
 generalize r.iv=iv at *
 generalize r.ct=ct at *
 generalize r.un=un at *
 generalize r.ws=ws at *
 generalize r.ms.length=n1 at *
 generalize r.mds.length=n2 at *
 generalize r.pls.length=n3 at *
 generalize r.wks.length=n4 at *
 subst e1 e2 e3 e4;unfold aW cS bC at *
 have r0:=kK w [V Z fq,V Z iv,V Z ct,V Z un,η a1 n1 n1,η a2 n2 n2,η a4 n4 n4,η a3 n3 n3,V Z ws,θ tx] 76 (ι #[V Z (ag.aq n),V Z (ag.ofM n),V Z (ag.aA n)] 106);have r1:=kM w [V Z (ag.aq n),V Z (ag.ofM n),V Z (ag.aA n)] 106 (ι #[V Z fq,V Z iv,V Z ct,V Z un,η a1 n1 n1,η a2 n2 n2,η a4 n4 n4,η a3 n3 n3,V Z ws,θ tx] 76);have al:=mP w (ι #[V Z fq,V Z iv,V Z ct,V Z un,η a1 n1 n1,η a2 n2 n2,η a4 n4 n4,η a3 n3 n3,V Z ws,θ tx] 76) (ι #[V Z (ag.aq n),V Z (ag.ofM n),V Z (ag.aA n)] 106);go_enter func356,ntmps356;go_wp2_with fail;refine(hA.out _ al).mono ?_;rintro e w1 ⟨rfl,au⟩;replace r0:=r0.on au;replace r1:=r1.on au;replace al:=al.trans (au.mono al.size);clear au;cases atB
 ·go_wp2_with fail;go_ret;exact⟨by rw[hF.out];simp,al⟩
 obtain⟨q0,q1,q2,q3,q4,q5,q6,q7,q8,q9⟩:=bZ r0;obtain⟨c0,c1,c2,_,_,_⟩:=bW r1;go_wp2_with fail;refine(hB.out _ al).mono ?_;rintro e w2 ⟨rfl,aO⟩;replace r0:=r0.on aO;replace r1:=r1.on aO;replace al:=al.trans (aO.mono al.size);clear aO q0 q1 q2 q3 q4 q5 q6 q7 q8 q9 c0 c1 c2;cases B
 ·go_wp2_with fail;go_ret;exact⟨by rw[hF.out];simp,al⟩
 obtain⟨q0,q1,q2,q3,q4,q5,q6,q7,q8,q9⟩:=bZ r0;obtain⟨c0,c1,c2,_,_,_⟩:=bW r1;go_wp2_with fail;refine(hC.out _ al).mono ?_;rintro e w3 ⟨rfl,aR⟩;go_wp2_with fail;go_ret;exact⟨by rw[hF.out];simp,al.trans (aR.mono al.size)⟩
end Go.Proofs.YthpndgcaoeokeaaGreatDoor
namespace Go.Proofs.YthpndgcaoeokeaaGreatDoor
open Tryz
open Go.RowKit
def S0 (P:τ)(l:Nat)(R:Ο->κ->Prop):ϊ->Κ->κ->Prop
 | .normal,_,w=>∃v Y,(Instr.endRound l none).run P w=.ok v Y/\R (δ v) Y
 | .ret,_,w=>∃v Y,(Instr.endRound l (some .ret)).run P w=.ok v Y/\R (δ v) Y
 | .exit id,_,w=>∃v Y,(Instr.endRound l (some (.exit id))).run P w=.ok v Y/\R (δ v) Y
 | .goto t,_,w=>∃v Y,(Instr.endRound l (some (.goto t))).run P w=.ok v Y/\R (δ v) Y
 | .panic c,a,w=>a.defers=[]/\R (ε c) w
 | .outgrown,_,_=>False
abbrev aj:=Nat->Prop
abbrev aP:=aj->κ->Prop
def On (D:aj)(atF:aP)(W:κ):Prop:=(∀k,D k->k<W.heap.size)/\xd D (atF D) W
theorem On.out {D:aj}{atF:aP}{W:κ}(h:On D atF W):atF D W:=h.2.out
theorem On.on {D:aj}{atF:aP}{W W':κ}(h:On D atF W)(I:∀k,D k->W'.heap[k]?=W.heap[k]?):On D atF W':=
 ⟨λk hd=>ED (h.1 k hd) (I k hd),h.2.on I⟩
theorem On.below {D:aj}{atF:aP}{W W':κ}(h:On D atF W)(U:Below W.heap.size W W'):On D atF W':=h.on λk hd=>U.block k (h.1 k hd)
theorem On.put {D:aj}{atF:aP}{W:κ}(h:On D atF W){r:Nat}(hr:¬D r)(o:Obj):On D atF (W.putObj r o):=
 h.on λ_ hd=>π (λe=>hr (e▸hd))
theorem On.alloc {D:aj}{atF:aP}{W:κ}(h:On D atF W)(o:Obj):On D atF (W.alloc o):=h.on λk hd=>Ϝ _ _ _ (h.1 k hd)
theorem On.imp {D:aj}{atF J':aP}{W:κ}(h:On D atF W)(hj:∀w,atF D w->J' D w):On D J' W:=⟨h.1,λW2 I=>hj _ (h.2 W2 I)⟩
def aN (O:aj)(atE:Nat)(atF:aP)(W W':κ):Prop:=
 ak O W W'/\∃D:aj,(∀k,D k->O k\/atE<=k)/\(∀k,O k->D k)/\On D atF W'
theorem aN.imp {O:aj}{atE:Nat}{atF J':aP}{W W':κ}(h:aN O atE atF W W')(hj:∀D w,atF D w->J' D w):aN O atE J' W W':=by
 obtain⟨x,D,d1,d2,d3⟩:=h;exact⟨x,D,d1,d2,d3.imp (hj D)⟩
def kX (P:τ)(g:Nat)(lb:Array Value)(xs:List (Array Value))(R:aj)(w:κ):Prop:=
 ∀(l:Nat) (W:κ) (O:aj) (atF:Nat->aP) (Js:aP) (Jp:List ρ->aP),
  w.heap.size<=W.heap.size->(∀k,R k->W.heap[k]?=w.heap[k]?)->(∀k,O k->¬R k)->On O (atF 0) W->
  (∀i x,xs[i]?=some x->∀(W1:κ) (D:aj),ak O W W1->(∀k,D k->O k\/W.heap.size<=k)->(∀k,O k->D k)->On D (atF i) W1->
   YieldAt ξ 0 P l x W1 λe W'=>
    (e=δ (.bool true)/\aN D W1.heap.size (atF (i+1)) W1 W')\/(e=δ (.bool false)/\aN D W1.heap.size Js W1 W')\/(∃c,e=ε c/\aN D W1.heap.size (Jp c) W1 W'))->
  CallsIn ξ 0 P g (#[.func (.yield l) #[] #[]]++lb) W λe W'=>
   ((∃v,e=δ v)/\(aN O W.heap.size (atF xs.length) W W'\/aN O W.heap.size Js W W'))\/(∃c,e=ε c/\aN O W.heap.size (Jp c) W W')
def Ff (D:aj)(atF:aP)(Jx:ω->aP)(Jp:List ρ->aP)(W:κ):ϊ->Κ->κ->Prop
 | .normal,_,W'=>aN D W.heap.size atF W W'
 | .ret,_,W'=>aN D W.heap.size (Jx .ret) W W'
 | .exit id,_,W'=>aN D W.heap.size (Jx (.exit id)) W W'
 | .goto t,_,W'=>aN D W.heap.size (Jx (.goto t)) W W'
 | .panic c,a,W'=>a.defers=[]/\aN D W.heap.size (Jp c) W W'
 | .outgrown,_,_=>False
def od (f:Ε)(ro:Option Nat)(P:τ)(c:ω)(Q:ϊ->Κ->κ->Prop)(a:Κ)(w:κ):Prop:=
 ∀(b:Frame) (k:List Item) (cs:List Frame),b.roundOf=ro->b.fn=f->
  ∃e a' Y,Q e a' Y/\ArrivesIn (χ P ξ) P (lone (b.atR a (.code c::k)) cs w) b k cs e a' Y
section
variable {f:Ε} {ro:Option Nat} {P:τ} {Q:ϊ->Κ->κ->Prop} {a:Κ} {w:κ}
theorem xq {x y:ω}(h:∀atH:Κ->κ->Prop,(∀a w,od f ro P y Q a w->atH a w)->od f ro P x (Exit.then atH Q) a w):od f ro P (Code.seq x y) Q a w:=by
 intro b k cs Bv U;have h0:(lone (b.atR a (.code (.seq x y)::k)) cs w).fenced P ξ:=fenced_wide _ _;obtain⟨e,a₁,w₁,hq,fL⟩:=h (od f ro P y Q) (λ_ _ h=>h) b (.code y::k) cs Bv U;cases e with
 |normal=>
  obtain⟨e₂,a₂,w₂,JQ,yY⟩:=hq b k cs Bv U;exact⟨e₂,a₂,w₂,JQ,.of_steps (.head h0 stepR_seq fL) yY⟩
 |exit id=>exact⟨_,a₁,w₁,hq,.of_steps (.one h0 stepR_seq) (.pass (x:=.code y) rfl (λ_ _=>.inl (by simp)) fL)⟩
 |goto l=>exact⟨_,a₁,w₁,hq,.of_steps (.one h0 stepR_seq) (.pass (x:=.code y) rfl (λ_ _=>.inl (by simp)) fL)⟩
 |ret=>exact⟨_,a₁,w₁,hq,.of_steps (.one h0 stepR_seq) (.pass (x:=.code y) rfl (λ_ _=>.inl (by simp)) fL)⟩
 |panic ch=>exact⟨_,a₁,w₁,hq,.of_steps (.one h0 stepR_seq) (.pass (x:=.code y) rfl (λ_ _=>.inl (by simp)) fL)⟩
 |outgrown=>exact⟨_,a₁,w₁,hq,.of_steps (.one h0 stepR_seq) (.pass (x:=.code y) rfl (λ_ _=>.inl (by simp)) fL)⟩
theorem o9 {id:Nat}{c:ω}(h:od f ro P c (Ι id Q) a w):od f ro P (Code.block id c) Q a w:=by
 intro b k cs Bv U;have kD:∀m,χ P ξ m:=λm=>fenced_wide _ m;obtain⟨e,a₁,w₁,hq,fL⟩:=h b (.inBlock id::k) cs Bv U;cases e with
 |normal=>exact⟨.normal,a₁,w₁,hq,.head (kD _) stepR_block (ο fL (.one (kD _) stepR_inBlock))⟩
 |exit Wn=>
  by_cases hid:Wn=id
  ·simp only[Ι,hid,if_true]at hq;exact⟨.normal,a₁,w₁,hq,.head (kD _) stepR_block (fL.1 k (by simp[exitTo,hid]))⟩
  simp only[Ι,hid,if_false]at hq;have this:(id==Wn)=false:=by simp;exact λh=>hid h.symm
  have X:exitTo Wn (.inBlock id::k)=exitTo Wn k:=by simp[exitTo,this]
  exact⟨.exit Wn,a₁,w₁,hq,λk' I=>.head (kD _) stepR_block (fL.1 k' (by rw[X];exact I)),
   λkJ I=>let⟨k₁,G,A⟩:=fL.2 kJ (by rw[X];exact I);⟨k₁,G,.head (kD _) stepR_block A⟩⟩
 |goto l=>
  have X:gotoIn l (.inBlock id::k)=gotoIn l k:=by simp[gotoIn]
  exact⟨_,a₁,w₁,hq,λk' I=>.head (kD _) stepR_block (fL.1 k' (by rw[X];exact I)),
   λkJ I=>let⟨k₁,G,A⟩:=fL.2 kJ (by rw[X];exact I);⟨k₁,G,.head (kD _) stepR_block A⟩⟩
 |ret=>exact⟨_,a₁,w₁,hq,.of_steps (.one (kD _) stepR_block) fL⟩
 |panic ch=>exact⟨_,a₁,w₁,hq,.of_steps (.one (kD _) stepR_block) fL⟩
 |outgrown=>exact⟨_,a₁,w₁,hq,.of_steps (.one (kD _) stepR_block) fL⟩
end
def vD (f:Ε)(P:τ)(c:ω)(Q:ϊ->Κ->κ->Prop)(a:Κ)(w:κ):Prop:=od f none P c Q a w
section vD
variable {f:Ε} {P:τ} {Q:ϊ->Κ->κ->Prop} {a:Κ} {w:κ}
theorem bQ {c:ω}(h:c.wpIn ξ 0 P Q a w):vD f P c Q a w:=λb k cs Bv _=>h b k cs Bv trivial (room_wide _)
theorem bK {x y:ω}(h:∀atH:Κ->κ->Prop,(∀a w,vD f P y Q a w->atH a w)->vD f P x (Exit.then atH Q) a w):vD f P (Code.seq x y) Q a w:=xq h
theorem gB {id:Nat}{c:ω}(h:vD f P c (Ι id Q) a w):vD f P (Code.block id c) Q a w:=o9 h
theorem dr {fn:Func}{c:ω}{args:Array Value}{R:Ο->κ->Prop}(hf:P.funcs[f]?=some fn)(U:fn.body=some c)
 (h:vD f P c (bodyPostM ξ 0 P fn R) {tmps:=args++Ϟ (fn.ntmps-args.size) undef,defers:=[]} w):CallsIn ξ 0 P f args w R:=by
 refine⟨trivial,λcs hr=>?_⟩;have hF:Fence.wide.fn f:=trivial;have kD:∀m,χ P ξ m:=λm=>fenced_wide _ m;let b:Frame:={(default:Frame)with fn:=f,kind:=.normal,roundOf:=none};have Bw:Frame.enter P f args .normal=
  b.atR {tmps:=args++Ϟ (fn.ntmps-args.size) undef,defers:=[]} [.code c]:=by
  simp[Frame.enter,Frame.atR,hf,U,b]
 obtain⟨e,a',Y,hq,fL⟩:=h b [] cs rfl rfl;rw[<-Bw]at fL;cases e with
 |normal=>
  obtain⟨e',az,Wo,hR,hs,De,N⟩:=leaves_stepsInM a'.defers .returning Y {b.atR a' []with mode:=.returning} cs rfl rfl rfl hf rfl hF hr hq;exact⟨e',az,Wo,hR,ComesIn.of_steps (ο fL (.one (kD _) (stepR_end rfl))) hs,De,N⟩
 |ret=>
  obtain⟨todo,hs₀⟩:=fL.1 rfl;obtain⟨e',az,Wo,hR,hs,De,N⟩:=leaves_stepsInM a'.defers .returning Y {b.atR a' todo with mode:=.returning} cs rfl rfl rfl hf rfl hF hr hq;exact⟨e',az,Wo,hR,ComesIn.of_steps hs₀ hs,De,N⟩
 |panic chain=>
  obtain⟨todo,hs₀⟩:=fL;obtain⟨e',az,Wo,hR,hs,De,N⟩:=leaves_stepsInM a'.defers (.panicking chain) Y {b.atR a' todo with mode:=.panicking chain} cs rfl rfl rfl hf rfl hF hr hq;exact⟨e',az,Wo,hR,ComesIn.of_steps hs₀ hs,De,N⟩
 |exit id=>exact hq.elim
 |goto l=>exact hq.elim
 |outgrown=>exact⟨.outgrown,Y,b,hq,fL.resolve_left (by simp[b]),rfl,trivial⟩
end vD
end Go.Proofs.YthpndgcaoeokeaaGreatDoor
namespace Go.Proofs.YthpndgcaoeokeaaGreatDoor
open Tryz
open Go.RowKit Go.Sort
attribute [local go_sem] Oper.semAt_some
def dB (a:Int)(n:Nat):List Int:=(List.range n).map λ(i:Nat)=>a+i
theorem Nu (a:Int)(n i:Nat)(h:i<n):(dB a n)[i]?=some (a+i):=by
 unfold dB;rw[ϛ,List.getElem?_range h];rfl
theorem yZ (a:Int)(n:Nat):(dB a n).length=n:=by unfold dB;simp
theorem M.keep {w Y:κ}{g:Nat}{cs:List Value}{t:Ψ}(h:M w g cs t)(e:Y.heap[g]?=w.heap[g]?):M Y g cs t:=e.trans h
theorem On.set {D:aj}{atF:aP}{W:κ}(h:On D atF W){b o:Nat}(U:¬D b)(v:Value):On D atF (W.setCell ⟨b,o,none⟩ v):=
 h.on λk I=>Ϙ _ _ _ _ (λ(e:k=b)=>U (e▸I))
theorem aiZ (a b:Int)(w:κ)(ha:-700000<=a)(U:-700000<=b):
 (Op.equalIn 10000 106 (.agg #[V Z (ag.aq a),V Z (ag.ofM a),V Z (ag.aA a)]) (.agg #[V Z (ag.aq b),V Z (ag.ofM b),V Z (ag.aA b)])).run prog w=.ok (decide (a=b)) w:=by
 rw[Pb];congr 1;rw[Bool.eq_iff_iff];simp only[Bool.and_eq_true,beq_iff_eq,decide_eq_true_eq];constructor
 ·rintro⟨⟨G,A⟩,K⟩;exact Wb ha U (by unfold aW cS;rw[G,A,K])
 rintro rfl;exact⟨⟨rfl,rfl⟩,rfl⟩
def vk (l:List Int):List (Array Value):=l.map λn=>#[aW n]
theorem lF (l:List Int):(vk l).length=l.length:=by unfold vk;simp
theorem qZ {l:List Int}{i:Nat}{n:Int}(h:l[i]?=some n):(vk l)[i]?=some #[aW n]:=by unfold vk;rw[ϛ,h];rfl
theorem ahc (a:Int)(n:Nat)(g:Nat)(w:κ)(h0:-600000<=a)(G:a+n<=800000)(hr:M w g (se a (a+n)) 370):
 kX prog 361 #[ζ (some ⟨g,0,none⟩)] (vk (dB a n)) (λk=>k=g) w:=by
 intro l W O atF Js Jp bp hR hO cJ hY;have mB:M W g (se a (a+n)) 370:=hr.keep (hR g rfl);have aQ:=mB.lt;have hnO:¬O g:=λh=>hO g h rfl;rw[lF,yZ];refine callsIn_of_wp func361 rfl trivial ?_ rfl;simp only[ntmps361,Ρ,Θ,Χ,ώ,ύ,Μ,Λ,Τ,Ξ,Φ,Υ];unfold se at mB;obtain⟨⟨z0,z1,z2,z3,z4,z5⟩,y0,y1,y2,y3,y4,y5⟩:=kg mB;gi_wp2_with fail;have rp:=M.new W [V Z (ag.aq a),V Z (ag.ofM a),V Z (ag.aA a)] 106;have hbp:Below W.heap.size W (W.alloc (ι #[V Z (ag.aq a),V Z (ag.ofM a),V Z (ag.aA a)] 106)):=(ν _ _).alloc (μ _) _;generalize(W.alloc (ι #[V Z (ag.aq a),V Z (ag.ofM a),V Z (ag.aA a)] 106))=W0 at *
 clear z0 z1 z2 z3 z4 z5 y0 y1 y2 y3 y4 y5;gi_loopg [3] n (λk p wr=>∃(i b:Nat) (D:aj),i+k=n/\p=ζ (some ⟨b,0,none⟩)/\W.heap.size<=b/\ak O W wr/\M wr b [V Z (ag.aq (a+i)),V Z (ag.ofM (a+i)),V Z (ag.aA (a+i))] 106/\¬D b/\(∀k,D k->O k\/W.heap.size<=k)/\(∀k,O k->D k)/\On D (atF i) wr)
 case atStart=>
  exact⟨0,W.heap.size,O,by omega,rfl,μ _,ak.ar hbp,by simpa using rp,λh=>by have:=cJ.1 _ h;omega,λ_ h=>.inl h,λ_ h=>h,cJ.below hbp⟩
 case round=>
  obtain⟨i,b,D,PM,rfl,hWb,X,U,uI,ep,dV,aG⟩:=hrel;have hg:=mB.aL X hnO;obtain⟨⟨z0,z1,z2,z3,z4,z5⟩,y0,y1,y2,y3,y4,y5⟩:=kg hg;obtain⟨c0,c1,c2,_,_,_⟩:=bW U;have heq:=aiZ (a+i) (a+n) wr (by omega) (by omega);by_cases lP:i=n
  case pos=>
   subst lP;simp only[decide_true]at heq;gi_wp2_with fail;go_end0;exact .inl ⟨⟨_,rfl⟩,.inl ⟨X,D,ep,dV,aG⟩⟩
  case neg=>
   rw[decide_eq_false (by omega)]at heq;obtain⟨f1,t1,a1,b1,gI,eE⟩:=hY i _ (qZ (Nu a n i (by omega))) wr D X ep dV aG;unfold aW cS at gI;gi_wp2_with fail;refine⟨rfl,eE.mono ?_⟩;clear gI eE heq z0 z1 z2 z3 z4 z5 y0 y1 y2 y3 y4 y5 c0 c1 c2;rintro e W1 (⟨rfl,bz,D1,d1,d2,pR⟩|⟨rfl,bz,D1,d1,d2,pR⟩|⟨c,rfl,bz,D1,d1,d2,pR⟩)
   case inl=>
    have au:=U.aL bz uI;have arl:¬D1 b:=λh=>(d1 _ h).elim uI (by have:=U.lt;omega);have ahd:ak O W W1:=X.trans bz (λj hj=>ep j hj);obtain⟨c0,c1,c2,_,_,_⟩:=bW au;gi_wp2_with fail;refine⟨trivial,rfl,?_⟩;have dJ:=Wc (a+i) (W1.alloc (ι #[V Z (ag.aq (a+i)),V Z (ag.ofM (a+i)),V Z (ag.aA (a+i))] 106)) (by omega) (by omega);unfold aW cS at dJ;refine(callsIn_wide.2 dJ).mono ?_;rintro e W2 ⟨rfl,aO⟩;clear c0 c1 c2;have r2:=(M.new W1 [V Z (ag.aq (a+i)),V Z (ag.ofM (a+i)),V Z (ag.aA (a+i))] 106).on aO;have bL:ak O W W2:=(ahd.alloc _).aM (ak.ar aO);have ea:=(pR.alloc (ι #[V Z (ag.aq (a+i)),V Z (ag.ofM (a+i)),V Z (ag.aA (a+i))] 106)).below aO;have Ag:=ahd.size;have JR:¬D1 W1.heap.size:=λh=>by have:=pR.1 _ h;omega
    obtain⟨c0,c1,c2,v0,v1,v2⟩:=bW r2;gi_wp2_with fail;gi_roundg (gk-1)
    case measure=>omega
    case rel=>
     refine⟨i+1,W1.heap.size,D1,by omega,rfl,by omega,?_,?_,JR,?_,λk I=>d2 k (dV k I),?_⟩
     ·exact((bL.setCell (.inr (by simpa using Ag)) _).setCell (.inr (by simpa using Ag)) _).setCell (.inr (by simpa using Ag)) _
     ·have:=((r2.set (k:=0) (V Z (ag.aq (a+i+1)))).set (k:=1) (V Z (ag.ofM (a+i+1)))).set (k:=2) (V Z (ag.aA (a+i+1)));simpa[Int.add_assoc]using this
     ·intro k I;rcases d1 k I with h|h
      ·exact ep k h
      exact .inr (by have:=X.size;omega)
     exact((ea.set JR _).set JR _).set JR _
   case inr.inl=>
    gi_wp2_with fail;refine bodyPost_ret (results_none rfl _ _ _) rfl ?_;exact .inl ⟨⟨_,rfl⟩,.inr ⟨X.trans bz (λj hj=>ep j hj),D1,λk I=>(d1 k I).elim (ep k) (λh=>.inr (by have:=X.size;omega)),λk I=>d2 k (dV k I),pR⟩⟩
   case inr.inr=>
    gi_wp2_with fail;exact⟨rfl,.inr ⟨c,rfl,X.trans bz (λj hj=>ep j hj),D1,λk I=>(d1 k I).elim (ep k) (λh=>.inr (by have:=X.size;omega)),λk I=>d2 k (dV k I),pR⟩⟩
theorem ai0 (a b:Int)(w:κ):
 Α prog 355 #[dy a b] w λe Y=>e=δ (.func (.func 361) #[] #[ζ (some ⟨w.heap.size,0,none⟩)])/\Y=w.alloc (ι (se a b).toArray 370):=by
 unfold dy se;go_enter func355,ntmps355;go_wp2_with fail;go_ret;exact⟨rfl,rfl⟩
end Go.Proofs.YthpndgcaoeokeaaGreatDoor
namespace Go.Proofs.YthpndgcaoeokeaaGreatDoor
open Tryz
open Go.RowKit
def qw (P:τ)(g:Nat)(lb:Array Value)(Ok:List (Array Value)->Prop)(R:aj)(w:κ):Prop:=
 ∀(l:Nat) (W:κ) (O:aj) (atF:List (Array Value)->aP) (Js:aP) (Jp:List ρ->aP),
  w.heap.size<=W.heap.size->(∀k,R k->W.heap[k]?=w.heap[k]?)->(∀k,O k->¬R k)->On O (atF []) W->
  (∀pre x,(∃gA,Ok (pre++x::gA))->∀(W1:κ) (D:aj),ak O W W1->(∀k,D k->O k\/W.heap.size<=k)->(∀k,O k->D k)->On D (atF pre) W1->
   YieldAt ξ 0 P l x W1 λe W'=>
    (e=δ (.bool true)/\aN D W1.heap.size (atF (pre++[x])) W1 W')\/(e=δ (.bool false)/\aN D W1.heap.size Js W1 W')\/(∃c,e=ε c/\aN D W1.heap.size (Jp c) W1 W'))->
  CallsIn ξ 0 P g (#[.func (.yield l) #[] #[]]++lb) W λe W'=>
   ((∃v,e=δ v)/\((∃xs,Ok xs/\aN O W.heap.size (atF xs) W W')\/aN O W.heap.size Js W W'))\/(∃c,e=ε c/\aN O W.heap.size (Jp c) W W')
theorem kX.n {P:τ}{g:Nat}{lb:Array Value}{xs:List (Array Value)}{R:aj}{w:κ}(h:kX P g lb xs R w):qw P g lb (λys=>ys=xs) R w:=by
 intro l W O atF Js Jp G A K h4 hY;refine(h l W O (λi=>atF (xs.take i)) Js Jp G A K (by simpa using h4) (λi x X W1 D a b c d=>?_)).mono ?_
 ·have e1:xs.take (i+1)=xs.take i++[x]:=by rw[List.take_add_one,X];rfl
  have e2:xs.take i++x::xs.drop (i+1)=xs:=by
   obtain⟨N,rfl⟩:=List.getElem?_eq_some_iff.1 X;rw[<-Ζ N,List.take_append_drop]
  simp only[e1];exact hY (xs.take i) x ⟨xs.drop (i+1),e2⟩ W1 D a b c d
 rintro e W' (⟨v,h|h⟩|h)
 ·exact .inl ⟨v,.inl ⟨xs,rfl,by simpa using h⟩⟩
 ·exact .inl ⟨v,.inr h⟩
 exact .inr h
def ahe (f:Ε)(ro:Option Nat)(P:τ)(l:Nat)(Q:ϊ->Κ->κ->Prop)(a':Κ):Ο->κ->Prop
 | δ _,w₃=>∃jump w₄,(Instr.endLoop l).run P w₃=.ok jump w₄/\(match jump with
  |none=>Q .normal a' w₄
  |some c=>od f ro P c Q a' w₄)
 | ε chain,w₃=>Q (.panic chain) a' w₃
 | .outgrown,_=>LetsOut Q
section
variable {f:Ε} {ro:Option Nat} {P:τ} {Q:ϊ->Κ->κ->Prop} {a:Κ} {w:κ}
theorem sH {l:Nat}{c:ω}(h:c.wpIn (Fence.wide.inRound l) 0 P Q a w):od f (some l) P c Q a w:=λb k cs Bv _=>h b k cs Bv trivial (room_wide _)
theorem Wp {g:Ϗ}{ps:Array Tmp}{assign body:ω}
 (h:∃(l:Nat) (mark:List Deferred) (w₁:κ) (d:Deferred) (w₁':κ) (f':Ε) (args:Array Value) (w₂:κ),
  (Instr.enterLoop f a.tmps ps assign body ro).run P w=.ok (l,mark) w₁/\
  (resolve a.eval (rangeCall g l) 0).run P w₁=.ok d w₁'/\
  (invoke d.target d.args).run P w₁'=.ok (.enter f' args) w₂/\
  CallsIn ξ 0 P f' args w₂ (ahe f ro P l Q {a with defers:=mark++a.defers})):
 od f ro P (Δ g ps assign body) Q a w:=by
 intro b k cs Bv U;have kD:∀m,χ P ξ m:=λm=>fenced_wide _ m;obtain⟨l,mark,w₁,d,w₁',f',args,w₂,he,SN,hinv,hF,ai1⟩:=h;rw[<-U,<-Bv]at he;have Bw:=stepR_rangeFunc (P:=P) (b:=b) (a:=a) (k:=k) (cs:=cs) (w:=w) he SN hinv;obtain⟨e,w₃,fr,hR,Nv,De,Wq⟩:=ai1 (b.atR {a with defers:=mark++a.defers} (.inRangeFunc l::k)::cs) (room_wide _);cases e with
 |outgrown=>
  obtain⟨a₀,w₀,hq⟩:=hR;exact⟨.outgrown,a₀,w₀,hq,.inr (Outgrown.of_steps (.one Bw) Nv)⟩
 |returned v=>
  obtain⟨jump,w₄,jh,hj⟩:=hR;have acf:StepsIn (χ P ξ) P (lone (b.atR a (.code (.rangeFunc g ps assign body)::k)) cs w) (lone (b.atR {a with defers:=mark++a.defers} ((jump.map Item.code).toList++k)) cs w₄):=by
   refine .head (kD _) Bw (ο Nv (.head (kD _) ?_ (.one (kD _) (stepR_endRangeFunc jh))));rw[<-finish_atR_inRangeFunc l v];exact step_leave_returned Wq
  cases jump with
  |none=>exact⟨.normal,_,w₄,hj,acf⟩
  |some c=>
   obtain⟨e',a'',w₅,hq,fL⟩:=hj b k cs Bv U;exact⟨e',a'',w₅,hq,.of_steps acf fL⟩
 |panicked chain=>
  refine⟨.panic chain,_,w₃,hR,.inRangeFunc l::k,.head (kD _) Bw (ο Nv (.one (kD _) ?_))⟩;rw[<-Frame.raise_atR];exact step_leave_panicked Wq
theorem ZR {c:ω}{Q':ϊ->Κ->κ->Prop}(h:od f ro P c Q a w)(hq:∀e a w,Q e a w->Q' e a w):od f ro P c Q' a w:=λb k cs G A=>
 let⟨e,a',Y,q,s⟩:=h b k cs G A
 ⟨e,a',Y,hq _ _ _ q,s⟩
end
theorem Ib {P:τ}{l:Nat}{f:Ε}{fn:Func}{tmps:Array Value}{assign body:ω}{w:κ}{R:Ο->κ->Prop}(De:P.funcs[f]?=some fn)
 (h:assign.wpIn (Fence.wide.inRound l) 0 P (Exit.then (λa₁ w₁=>∃w₂,(Instr.beginRound l).run P w₁=.ok () w₂/\od f (some l) P body (S0 P l R) a₁ w₂) (λ_ _ _=>False))
  {tmps:=tmps,defers:=[]} w):
 RoundIn ξ 0 P l f tmps assign body w R:=by
 refine⟨trivial,λc cs hr=>?_⟩;let b:Frame:={(default:Frame)with fn:=f,kind:=.normal,roundOf:=some l};have bh:Frame.round l f tmps assign body .normal=b.atR {tmps:=tmps,defers:=[]} [.code assign,.beginRound,.code body]:=by
  simp[Frame.round,Frame.atR,b]
 have kJ:(Fence.wide.inRound l).room ((c::cs).length+1+0):=hr;have Nw:(Fence.wide.inRound l).fn b.fn:=trivial;obtain⟨e,a₁,w₁,hq,fL⟩:=h b [.beginRound,.code body] (c::cs) rfl Nw kJ;rw[<-bh]at fL;cases e with
 |normal=>
  obtain⟨w₂,cP,za⟩:=hq;have s1:StepsIn (χ P (Fence.wide.inRound l)) P (lone (b.atR a₁ [.beginRound,.code body]) (c::cs) w₁) (lone (b.atR a₁ [.code body]) (c::cs) w₂):=
   .one (fenced_calm (fr:=b.atR a₁ [.beginRound,.code body]) Nw kJ rfl) (stepR_beginRound rfl cP)
  obtain⟨e₂,a₂,w₃,JQ,yY⟩:=za b [] (c::cs) rfl rfl;cases e₂ with
  |normal=>
   obtain⟨v,w₄,jh,hR⟩:=JQ;exact⟨δ v,w₄,hR,(ο fL s1).trans (ο yY (.one (fenced_calm (fr:=b.atR a₂ []) Nw kJ rfl) (stepR_round_end rfl rfl jh)))⟩
  |ret=>
   obtain⟨v,w₄,jh,hR⟩:=JQ;obtain⟨k₁,hs⟩:=yY.2 rfl;exact⟨δ v,w₄,hR,(ο fL s1).trans (ο hs (.one (fenced_calm (fr:=b.atR a₂ (.code .ret::k₁)) Nw kJ rfl) (stepR_round_ret rfl rfl jh)))⟩
  |exit id=>
   obtain⟨v,w₄,jh,hR⟩:=JQ;obtain⟨k₁,I,hs⟩:=yY.2 rfl rfl;exact⟨δ v,w₄,hR,(ο fL s1).trans (ο hs (.one (fenced_calm (fr:=b.atR a₂ (.code (.exit id)::k₁)) Nw kJ rfl) (stepR_round_exit rfl rfl I jh)))⟩
  |goto t=>
   obtain⟨v,w₄,jh,hR⟩:=JQ;obtain⟨k₁,I,hs⟩:=yY.2 rfl rfl;exact⟨δ v,w₄,hR,(ο fL s1).trans (ο hs (.one (fenced_calm (fr:=b.atR a₂ (.code (.goto t)::k₁)) Nw kJ rfl) (stepR_round_goto rfl rfl I jh)))⟩
  |panic chain=>
   obtain⟨hd,hR⟩:=JQ;obtain⟨todo,hs⟩:=yY;have N:({b.atR a₂ todo with mode:=.panicking chain}:Frame).leaving P w₃ (ε chain):=⟨rfl,hd,fn,De⟩;have vg:(lone {b.atR a₂ todo with mode:=.panicking chain} (c::cs) w₃).fenced P (Fence.wide.inRound l):=fenced_leaving Nw kJ N;exact⟨ε chain,w₃,hR,(ο fL s1).trans (ο hs (.one vg (step_leave_panicked N)))⟩
  |outgrown=>exact JQ.elim
 |exit id=>exact hq.elim
 |goto t=>exact hq.elim
 |ret=>exact hq.elim
 |panic chain=>exact hq.elim
 |outgrown=>exact hq.elim
theorem Fg {f:Ε}{ur:Func}{P:τ}(oE:P.funcs[f]?=some ur){g:Ϗ}{ps:Array Tmp}{assign body:ω}{Q:ϊ->Κ->κ->Prop}{a:Κ}{w:κ}
 {gf:Nat}{lb:Array Value}{Ok:List (Array Value)->Prop}(hg:a.eval g=.func (.func gf) #[] lb)(eg:∀args w,(callFunc gf args).run P w=.ok (.enter gf args) w)
 {R:aj}{w0:κ}(hit:qw P gf lb Ok R w0)(uu:w0.heap.size<=w.heap.size)(uv:∀k,R k->w.heap[k]?=w0.heap[k]?)(mK:∀k,R k->k<w.heap.size)
 {ro:Option Nat}{lr:Nat}{mark:List Deferred}{W1:κ}{dfr:Nat}(sD:(Instr.enterLoop f a.tmps ps assign body ro).run P w=.ok (lr,mark) W1)(hlr:w.heap.size<=lr)(Aq:W1.heap[lr]?=some (.loop {state:=.ready,pending:=none,fn:=f,tmps:=a.tmps,params:=ps,assign,body,defers:=dfr}))(PD:W1.heap.size=lr+1)(xm:Below w.heap.size w W1)
 (O:aj)(hO:∀k,O k->¬R k)(atF:List (Array Value)->aP)(Jx:ω->aP)(Jp:List ρ->aP)(B:List (Array Value)->Array Value->Κ->aP)(lJ:∀xs,Ok xs->∀x∈xs,x.size=ps.size)(h0:On O (atF []) w)
 (xS:∀(l:Nat) (i:List (Array Value)) (x:Array Value),(∃gA,Ok (i++x::gA))->∀(W:κ) (D:aj),ak O w W->lr+1<=W.heap.size->(∀k,O k->D k)->(∀k,D k->O k\/lr+1<=k)->On D (atF i) W->
  ∀atH:Κ->κ->Prop,(∀a1 W1 D1,Below W.heap.size W W1->(∀k,D1 k->D k\/W.heap.size<=k)->(∀k,D k->D1 k)->On D1 (B i x a1) W1->atH a1 W1)->
  assign.wpIn (Fence.wide.inRound l) 0 P (Exit.then atH (λ_ _ _=>False)) {tmps:=(ps.zip x).foldl (λt (p,v)=>t.setIfInBounds p v) a.tmps,defers:=[]} W)
 (za:∀(i:List (Array Value)) (x:Array Value),(∃gA,Ok (i++x::gA))->∀(a1:Κ) (W:κ) (D:aj),ak O w W->lr+1<=W.heap.size->(∀k,O k->D k)->(∀k,D k->O k\/lr+1<=k)->On D (B i x a1) W->(∃r,W.heap[lr]?=some (.loop r))->¬D lr->
  od f (some lr) P body (Ff D (atF (i++[x])) Jx Jp W) a1 W)
 (jS:∀(xs:List (Array Value)),Ok xs->∀(W:κ),aN O (lr+1) (atF xs) w W->lr+1<=W.heap.size->(∀k,w.heap.size<=k->k<lr->W.heap[k]?=W1.heap[k]?)->Q .normal {a with defers:=mark++a.defers} W)
 (lx:∀(c:ω) (W:κ),aN O (lr+1) (Jx c) w W->lr+1<=W.heap.size->(∀k,w.heap.size<=k->k<lr->W.heap[k]?=W1.heap[k]?)->od f ro P c Q {a with defers:=mark++a.defers} W)
 (oF:∀(c:List ρ) (W:κ),aN O (lr+1) (Jp c) w W->lr+1<=W.heap.size->(∀k,w.heap.size<=k->k<lr->W.heap[k]?=W1.heap[k]?)->Q (.panic c) {a with defers:=mark++a.defers} W):
 od f ro P (Δ g ps assign body) Q a w:=by
 refine Wp ?_;obtain⟨rec,gj⟩:∃rec:Ω->Option ω->Loop,rec=λst pe=>{state:=st,pending:=pe,fn:=f,tmps:=a.tmps,params:=ps,assign,body,defers:=dfr}:=⟨_,rfl⟩;replace Aq:W1.heap[lr]?=some (.loop (rec .ready none)):=by rw[gj];exact Aq
 refine⟨lr,mark,W1,{target:=.fn (.func gf) lb,args:=#[.func (.yield (lr)) #[] #[]]},W1,gf,
  #[.func (.yield (lr)) #[] #[]]++lb,W1,sD,?_,?_,?_⟩
 ·simp only[resolve,hg];simp[go_sem]
 ·simp[invoke,go_sem,eg]
 have nOl:¬O (lr):=λh=>by have:=h0.1 _ h;omega
 obtain⟨L,hL⟩:∃L:aP->Ω->Option ω->aP,L=λatF st pe D W=>(∃D0:aj,(∀k,D k↔D0 k\/k=lr)/\¬D0 (lr)/\(∀k,O k->D0 k)/\(∀k,D0 k->O k\/lr+1<=k)/\On D0 atF W)/\W.heap[lr]?=some (.loop (rec st pe)):=⟨_,rfl⟩;have mk:∀(atF:aP) (st:Ω) (pe:Option ω) (D0:aj) (W:κ),(∀k,O k->D0 k)->(∀k,D0 k->O k\/lr+1<=k)->On D0 atF W->W.heap[lr]?=some (.loop (rec st pe))->
  On (λk=>D0 k\/k=lr) (L atF st pe) W:=λatF st pe D0 W G A K h4=>by
  have n0:¬D0 (lr):=λh=>(A _ h).elim nOl (by omega);refine⟨λk I=>?_,λW2 I=>?_⟩
  ·rcases I with I|rfl
   ·exact K.1 k I
   exact(Array.getElem?_eq_some_iff.1 h4).1
  rw[hL];exact⟨⟨D0,λk=>Iff.rfl,n0,G,A,K.on λk hd=>I k (.inl hd)⟩,(I _ (.inr rfl)).trans h4⟩
 refine(hit (lr) W1 (λk=>O k\/k=lr)
  (λi=>L (atF i) .ready none) (λD W=>∃c,L (Jx c) .done (some c) D W) (λc=>L (Jp c) .busy none) (by omega) (λk I=>(xm.block k (mK k I)).trans (uv k I))
  (λk I=>by
   rcases I with I|rfl
   ·exact hO k I
   exact λhr=>by have:=mK _ hr;omega) (mk _ _ _ O W1 (λ_ h=>h) (λ_ h=>.inl h) (h0.below xm) Aq) ?_).mono ?_
 ·intro i x X W D ahg ep dV hD;obtain⟨⟨D0,uQ,n0,JS,JT,aG⟩,N⟩:=by have:=hD.out;rw[hL]at this;exact this
  have aQ:lr<W.heap.size:=(Array.getElem?_eq_some_iff.1 N).1;have qB:ak O w W:=(ak.ar xm).trans ahg (λj hj=>hj.elim .inl (λe=>.inr (by omega)));have hsw:lr+1<=W.heap.size:=by have:=ahg.size;omega
  have hy:=run_yield (P:=P) (args:=x) N (by rw[gj];exact(by obtain⟨gA,hs⟩:=X;exact lJ _ hs x (by simp)));rw[gj]at hy;refine⟨f,_,assign,body,hy,Ib oE (xS _ i x X W D0 qB hsw JS JT aG _ ?_)⟩;clear hy;intro a1 W2 D1 aO Wr dN pR;have sC:W2.heap[lr]?=some (.loop (rec .ready none)):=(aO.block _ aQ).trans N;have ang:lr<W2.heap.size:=(Array.getElem?_eq_some_iff.1 sC).1;have n1:¬D1 (lr):=λh=>(Wr _ h).elim n0 (by omega);refine⟨_,run_beginRound sC (by rw[gj]),?_⟩;obtain⟨W3,xu⟩:∃W3,W2.putObj (lr) (.loop {rec .ready none with state:=.busy})=W3:=⟨_,rfl⟩;have hl3:W3.heap[lr]?=some (.loop {rec .ready none with state:=.busy}):=by rw[<-xu];exact ό ang
  have su:W3.heap.size=W2.heap.size:=by rw[<-xu];simp
  have anh:On D1 (B i x a1) W3:=by rw[<-xu];exact pR.put n1 _
  have dZ:ak D W W3:=by rw[<-xu];exact(ak.ar aO).put (.inl ((uQ _).2 (.inr rfl))) _
  have ani:ak O w W3:=by
   rw[<-xu];exact((qB.aM (ak.ar aO)).put (.inr (by omega)) _)
  rw[xu];clear xu;refine ZR (za i x X a1 W3 D1 ani (by have:=aO.size;omega) (λk I=>dN k (JS k I)) (λk I=>(Wr k I).elim (JT k) (λh=>.inr (by omega))) anh ⟨_,hl3⟩ n1) ?_;have fin:∀(J':aP) (W4:κ),aN D1 W3.heap.size J' W3 W4->W4.heap[lr]?=some (.loop {rec .ready none with state:=.busy})/\
   ∀(o:Obj) (st:Ω) (pe:Option ω),o=.loop (rec st pe)->aN D W.heap.size (L J' st pe) W (W4.putObj (lr) o):=λJ' W4 h4=>by
   obtain⟨bO,D2,d1,d2,d3⟩:=h4;have xT:=(bO.block _ (by omega) n1).trans hl3;have X9:lr<W4.heap.size:=(Array.getElem?_eq_some_iff.1 xT).1;have n2:¬D2 (lr):=λh=>(d1 _ h).elim n1 (by omega);refine⟨xT,λo st pe ho=>⟨?_,λk=>D2 k\/k=lr,λk I=>?_,λk I=>?_,?_⟩⟩
   ·refine(dZ.trans bO λj hj=>?_).put (.inl ((uQ _).2 (.inr rfl))) _;rcases Wr j hj with h|h
    ·exact .inl ((uQ j).2 (.inl h))
    exact .inr h
   ·rcases I with I|rfl
    ·rcases d1 k I with h|h
     ·rcases Wr k h with h|h
      ·exact .inl ((uQ k).2 (.inl h))
      exact .inr h
     exact .inr (by have:=dZ.size;omega)
    exact .inl ((uQ _).2 (.inr rfl))
   ·rcases(uQ k).1 I with h|h
    ·exact .inl (d2 k (dN k h))
    exact .inr h
   refine mk J' st pe D2 _ (λk I=>d2 k (dN k (JS k I))) (λk I=>?_) (d3.put n2 _) (by rw[ό X9,ho]);rcases d1 k I with h|h
   ·rcases Wr k h with h|h
    ·exact JT k h
    exact .inr (by omega)
   exact .inr (by have:=dZ.size;omega)
  rintro e a3 W4 J;cases e with
  |normal=>
   obtain⟨xT,h4⟩:=fin _ W4 J;have hr:=run_endRound (P:=P) none xT;exact⟨_,_,hr,.inl ⟨rfl,h4 _ _ _ (by rw[gj];rfl)⟩⟩
  |ret=>
   obtain⟨xT,h4⟩:=fin _ W4 J;have hr:=run_endRound (P:=P) (some .ret) xT;exact⟨_,_,hr,.inr (.inl ⟨rfl,(h4 _ .done (some .ret) (by rw[gj];rfl)).imp λD w h=>⟨_,h⟩⟩)⟩
  |exit id=>
   obtain⟨xT,h4⟩:=fin _ W4 J;have hr:=run_endRound (P:=P) (some (.exit id)) xT;exact⟨_,_,hr,.inr (.inl ⟨rfl,(h4 _ .done (some (.exit id)) (by rw[gj];rfl)).imp λD w h=>⟨_,h⟩⟩)⟩
  |goto t=>
   obtain⟨xT,h4⟩:=fin _ W4 J;have hr:=run_endRound (P:=P) (some (.goto t)) xT;exact⟨_,_,hr,.inr (.inl ⟨rfl,(h4 _ .done (some (.goto t)) (by rw[gj];rfl)).imp λD w h=>⟨_,h⟩⟩)⟩
  |panic ch=>
   obtain⟨hd,J⟩:=J;obtain⟨xT,h4⟩:=fin _ W4 J;refine⟨hd,.inr (.inr ⟨ch,rfl,?_⟩)⟩;have e4:W4.putObj (lr) (.loop {rec .ready none with state:=.busy})=W4:=by
    obtain⟨X9,he⟩:=Array.getElem?_eq_some_iff.1 xT;have:W4.heap.setIfInBounds (lr) (.loop {rec .ready none with state:=.busy})=W4.heap:=by
     apply Array.ext_getElem?;intro j;rw[Array.getElem?_setIfInBounds];split
     ·rename_i ej;subst ej;exact xT.symm
     rfl
    show{W4 with heap:=_}=W4;rw[this]
   rw[<-e4];exact h4 _ .busy none (by rw[gj])
  |outgrown=>exact J.elim
 have back:∀(J':aP) (st:Ω) (pe:Option ω) (W2:κ),aN (λk=>O k\/k=lr) W1.heap.size (L J' st pe) W1 W2->
  W2.heap[lr]?=some (.loop (rec st pe))/\aN O (lr+1) J' w W2/\lr+1<=W2.heap.size/\(∀k,w.heap.size<=k->k<lr->W2.heap[k]?=W1.heap[k]?)/\
  ∀o,aN O (lr+1) J' w (W2.putObj (lr) o)/\lr+1<=(W2.putObj (lr) o).heap.size/\(∀k,w.heap.size<=k->k<lr->(W2.putObj (lr) o).heap[k]?=W1.heap[k]?):=λJ' st pe W2 A=>by
  obtain⟨X,D,d1,d2,d3⟩:=A;have K:=d3.out;rw[hL]at K;obtain⟨⟨D0,uQ,n0,JS,JT,aG⟩,N⟩:=K;have oZ:lr+1<=W2.heap.size:=by have:=X.size;omega
  have uj:∀k,w.heap.size<=k->k<lr->W2.heap[k]?=W1.heap[k]?:=λk G A=>X.block k (by omega) (λh=>h.elim (λh=>by have:=h0.1 _ h;omega) (by omega));have qB:ak O w W2:=(ak.ar xm).trans X (λj hj=>hj.elim .inl (λe=>.inr (by omega)));refine⟨N,⟨qB,D0,JT,JS,aG⟩,oZ,uj,λo=>⟨⟨qB.put (.inr (by omega)) _,D0,JT,JS,aG.put n0 _⟩,by simpa using oZ,λk G A=>(π (by omega)).trans (uj k G A)⟩⟩
 rintro e W2 (⟨⟨v,rfl⟩,⟨xs,cI,J⟩|J⟩|⟨c,rfl,J⟩)
 ·obtain⟨N,_,_,_,A⟩:=back _ _ _ W2 J;have he:=run_endLoop (P:=P) N (by rw[gj];simp);obtain⟨k1,k2,k3⟩:=A (.loop {rec .ready none with state:=.exhausted});rw[gj]at he k1 k2 k3;refine⟨none,_,he,?_⟩;exact jS xs cI _ k1 k2 k3
 ·obtain⟨X,D,d1,d2,d3⟩:=J;obtain⟨c,hc⟩:=d3.out;have aG:On D (L (Jx c) .done (some c)) W2:=by
   refine⟨d3.1,λW3 I=>?_⟩;have uM:=hc;rw[hL]at uM⊢;obtain⟨⟨D0,uQ,n0,JS,JT,aG⟩,N⟩:=uM;exact⟨⟨D0,uQ,n0,JS,JT,aG.on λk hd=>I k ((uQ k).2 (.inl hd))⟩,(I _ ((uQ _).2 (.inr rfl))).trans N⟩
  obtain⟨N,_,_,_,A⟩:=back (Jx c) .done (some c) W2 ⟨X,D,d1,d2,aG⟩;have he:=run_endLoop (P:=P) N (by rw[gj];simp);obtain⟨k1,k2,k3⟩:=A (.loop {rec .done (some c)with state:=.exhausted});rw[gj]at he k1 k2 k3;refine⟨some c,_,he,?_⟩;exact lx c _ k1 k2 k3
 obtain⟨N,k1,k2,k3,_⟩:=back _ _ _ W2 J;exact oF c W2 k1 k2 k3
theorem Pg {f:Ε}{ur:Func}{P:τ}(oE:P.funcs[f]?=some ur){g:Ϗ}{ps:Array Tmp}{assign body:ω}{Q:ϊ->Κ->κ->Prop}{a:Κ}{w:κ}
 {gf:Nat}{lb:Array Value}{Ok:List (Array Value)->Prop}(hg:a.eval g=.func (.func gf) #[] lb)(eg:∀args w,(callFunc gf args).run P w=.ok (.enter gf args) w)
 {R:aj}{w0:κ}(hit:qw P gf lb Ok R w0)(uu:w0.heap.size<=w.heap.size)(uv:∀k,R k->w.heap[k]?=w0.heap[k]?)(mK:∀k,R k->k<w.heap.size)
 (O:aj)(hO:∀k,O k->¬R k)(atF:List (Array Value)->aP)(Jx:ω->aP)(Jp:List ρ->aP)(B:List (Array Value)->Array Value->Κ->aP)(lJ:∀xs,Ok xs->∀x∈xs,x.size=ps.size)(h0:On O (atF []) w)
 (xS:∀(l:Nat) (i:List (Array Value)) (x:Array Value),(∃gA,Ok (i++x::gA))->∀(W:κ) (D:aj),ak O w W->w.heap.size+2<=W.heap.size->(∀k,O k->D k)->On D (atF i) W->
  ∀atH:Κ->κ->Prop,(∀a1 W1 D1,Below W.heap.size W W1->(∀k,D1 k->D k\/W.heap.size<=k)->(∀k,D k->D1 k)->On D1 (B i x a1) W1->atH a1 W1)->
  assign.wpIn (Fence.wide.inRound l) 0 P (Exit.then atH (λ_ _ _=>False)) {tmps:=(ps.zip x).foldl (λt (p,v)=>t.setIfInBounds p v) a.tmps,defers:=[]} W)
 (za:∀(l:Nat) (i:List (Array Value)) (x:Array Value),(∃gA,Ok (i++x::gA))->∀(a1:Κ) (W:κ) (D:aj),ak O w W->w.heap.size+2<=W.heap.size->(∀k,O k->D k)->On D (B i x a1) W->
  body.wpIn (Fence.wide.inRound l) 0 P (Ff D (atF (i++[x])) Jx Jp W) a1 W)
 (jS:∀(xs:List (Array Value)),Ok xs->∀(W:κ),aN O (w.heap.size+2) (atF xs) w W->w.heap.size+2<=W.heap.size->W.heap[w.heap.size]?=some (.deferred (some []))->Q .normal {a with defers:={target:=.collected w.heap.size,args:=#[]}::a.defers} W)
 (lx:∀(c:ω) (W:κ),aN O (w.heap.size+2) (Jx c) w W->w.heap.size+2<=W.heap.size->W.heap[w.heap.size]?=some (.deferred (some []))->c.wpIn ξ 0 P Q {a with defers:={target:=.collected w.heap.size,args:=#[]}::a.defers} W)
 (oF:∀(c:List ρ) (W:κ),aN O (w.heap.size+2) (Jp c) w W->w.heap.size+2<=W.heap.size->W.heap[w.heap.size]?=some (.deferred (some []))->Q (.panic c) {a with defers:={target:=.collected w.heap.size,args:=#[]}::a.defers} W):
 vD f P (Δ g ps assign body) Q a w:=by
 obtain⟨rec,gj⟩:∃rec:Loop,rec={state:=.ready,pending:=none,fn:=f,tmps:=a.tmps,params:=ps,assign,body,defers:=w.heap.size}:=⟨_,rfl⟩;obtain⟨W1,xn⟩:∃W1,(w.alloc (.deferred (some []))).alloc (.loop rec)=W1:=⟨_,rfl⟩;have Aq:W1.heap[w.heap.size+1]?=some (.loop rec):=by
  rw[<-xn];have:=ϗ (w.alloc (.deferred (some []))) (.loop rec);rwa [Ϛ]at this
 have eM:W1.heap[w.heap.size]?=some (.deferred (some [])):=by
  rw[<-xn];exact(Ϝ _ _ _ (by simp)).trans (ϗ w _)
 have PD:W1.heap.size=w.heap.size+1+1:=by rw[<-xn];simp
 have xm:Below w.heap.size w W1:=by
  rw[<-xn];exact((ν _ w).alloc (μ _) _).alloc (by simp) _
 have sD:(Instr.enterLoop f a.tmps ps assign body none).run P w=.ok (w.heap.size+1,[{target:=.collected w.heap.size,args:=#[]}]) W1:=by rw[<-xn,gj];exact run_enterLoop_outer _ _ _ _ _
 rw[gj]at Aq;exact Fg oE hg eg hit uu uv mK sD (by omega) Aq PD xm O hO atF Jx Jp B lJ h0 (λl i x hs W D G A K _ h5=>xS l i x hs W D G A K h5)
  (λi x hs a1 W D G A K _ h5 _ _=>sH (za _ i x hs a1 W D G A K h5)) (λxs cI W G A K=>jS xs cI W G A ((K w.heap.size (μ _) (by omega)).trans eM))
  (λc W G A K=>bQ (lx c W G A ((K w.heap.size (μ _) (by omega)).trans eM))) (λc W G A K=>oF c W G A ((K w.heap.size (μ _) (by omega)).trans eM))
theorem S1 {f:Ε}{ur:Func}{P:τ}(oE:P.funcs[f]?=some ur){g:Ϗ}{ps:Array Tmp}{assign body:ω}{Q:ϊ->Κ->κ->Prop}{a:Κ}{w:κ}
 {gf:Nat}{lb:Array Value}{xs:List (Array Value)}(hg:a.eval g=.func (.func gf) #[] lb)(eg:∀args w,(callFunc gf args).run P w=.ok (.enter gf args) w)
 {R:aj}{w0:κ}(hit:kX P gf lb xs R w0)(uu:w0.heap.size<=w.heap.size)(uv:∀k,R k->w.heap[k]?=w0.heap[k]?)(mK:∀k,R k->k<w.heap.size)
 (O:aj)(hO:∀k,O k->¬R k)(atF:Nat->aP)(Jx:ω->aP)(Jp:List ρ->aP)(B:Nat->Κ->aP)(lJ:∀x∈xs,x.size=ps.size)(h0:On O (atF 0) w)
 (xS:∀(l:Nat) (i:Nat) (x:Array Value),xs[i]?=some x->∀(W:κ) (D:aj),ak O w W->w.heap.size+2<=W.heap.size->(∀k,O k->D k)->On D (atF i) W->
  ∀atH:Κ->κ->Prop,(∀a1 W1 D1,Below W.heap.size W W1->(∀k,D1 k->D k\/W.heap.size<=k)->(∀k,D k->D1 k)->On D1 (B i a1) W1->atH a1 W1)->
  assign.wpIn (Fence.wide.inRound l) 0 P (Exit.then atH (λ_ _ _=>False)) {tmps:=(ps.zip x).foldl (λt (p,v)=>t.setIfInBounds p v) a.tmps,defers:=[]} W)
 (za:∀(l:Nat) (i:Nat) (x:Array Value),xs[i]?=some x->∀(a1:Κ) (W:κ) (D:aj),ak O w W->w.heap.size+2<=W.heap.size->(∀k,O k->D k)->On D (B i a1) W->
  body.wpIn (Fence.wide.inRound l) 0 P (Ff D (atF (i+1)) Jx Jp W) a1 W)
 (jS:∀(W:κ),aN O (w.heap.size+2) (atF xs.length) w W->w.heap.size+2<=W.heap.size->W.heap[w.heap.size]?=some (.deferred (some []))->Q .normal {a with defers:={target:=.collected w.heap.size,args:=#[]}::a.defers} W)
 (lx:∀(c:ω) (W:κ),aN O (w.heap.size+2) (Jx c) w W->w.heap.size+2<=W.heap.size->W.heap[w.heap.size]?=some (.deferred (some []))->c.wpIn ξ 0 P Q {a with defers:={target:=.collected w.heap.size,args:=#[]}::a.defers} W)
 (oF:∀(c:List ρ) (W:κ),aN O (w.heap.size+2) (Jp c) w W->w.heap.size+2<=W.heap.size->W.heap[w.heap.size]?=some (.deferred (some []))->Q (.panic c) {a with defers:={target:=.collected w.heap.size,args:=#[]}::a.defers} W):
 vD f P (Δ g ps assign body) Q a w:=
 Pg oE hg eg hit.n uu uv mK O hO (λi=>atF i.length) Jx Jp (λi _ a1=>B i.length a1) (λ_ e=>e▸lJ) h0
  (λl i x ⟨gA,e⟩=>xS l i.length x (by rw[<-e];simp))
  (λl i x ⟨gA,e⟩ a1 W D G A K h4=>by have:=za l i.length x (by rw[<-e];simp) a1 W D G A K h4;rw[υ];exact this)
  (λ_ e W h=>jS W (e▸h)) lx oF
end Go.Proofs.YthpndgcaoeokeaaGreatDoor
namespace Go.Proofs.YthpndgcaoeokeaaGreatDoor
open Tryz
open Go.RowKit
def EP (P:τ)(O:aj)(w:κ)(body:ω)(atF:aP)(Jx:ω->aP)(Jp:List ρ->aP)(a1:Κ)(D1:aj)(W1:κ):Prop:=
 ∀(l:Nat) (W2:κ),(∀k,D1 k->W2.heap[k]?=W1.heap[k]?)->ak O w W2->w.heap.size+2<=W2.heap.size->body.wpIn (Fence.wide.inRound l) 0 P (Ff D1 atF Jx Jp W2) a1 W2
theorem lz {f:Ε}{ur:Func}{P:τ}(oE:P.funcs[f]?=some ur){g:Ϗ}{ps:Array Tmp}{assign body:ω}{Q:ϊ->Κ->κ->Prop}{a:Κ}{w:κ}
 {gf:Nat}{lb:Array Value}{xs:List (Array Value)}(hg:a.eval g=.func (.func gf) #[] lb)(eg:∀args w,(callFunc gf args).run P w=.ok (.enter gf args) w)
 {R:aj}{w0:κ}(hit:kX P gf lb xs R w0)(uu:w0.heap.size<=w.heap.size)(uv:∀k,R k->w.heap[k]?=w0.heap[k]?)(mK:∀k,R k->k<w.heap.size)
 (O:aj)(hO:∀k,O k->¬R k)(atF:Nat->aP)(Jx:ω->aP)(Jp:List ρ->aP)(lJ:∀x∈xs,x.size=ps.size)(h0:On O (atF 0) w)
 (pI:∀(l:Nat) (i:Nat) (x:Array Value),xs[i]?=some x->∀(W:κ) (D:aj),ak O w W->w.heap.size+2<=W.heap.size->(∀k,O k->D k)->On D (atF i) W->
  ∀atH:Κ->κ->Prop,(∀a1 W1 D1,Below W.heap.size W W1->(∀k,D1 k->D k\/W.heap.size<=k)->(∀k,D k->D1 k)->(∀k,D1 k->k<W1.heap.size)->
   EP P O w body (atF (i+1)) Jx Jp a1 D1 W1->atH a1 W1)->
  assign.wpIn (Fence.wide.inRound l) 0 P (Exit.then atH (λ_ _ _=>False)) {tmps:=(ps.zip x).foldl (λt (p,v)=>t.setIfInBounds p v) a.tmps,defers:=[]} W)
 (jS:∀(W:κ),aN O (w.heap.size+2) (atF xs.length) w W->w.heap.size+2<=W.heap.size->W.heap[w.heap.size]?=some (.deferred (some []))->Q .normal {a with defers:={target:=.collected w.heap.size,args:=#[]}::a.defers} W)
 (lx:∀(c:ω) (W:κ),aN O (w.heap.size+2) (Jx c) w W->w.heap.size+2<=W.heap.size->W.heap[w.heap.size]?=some (.deferred (some []))->c.wpIn ξ 0 P Q {a with defers:={target:=.collected w.heap.size,args:=#[]}::a.defers} W)
 (oF:∀(c:List ρ) (W:κ),aN O (w.heap.size+2) (Jp c) w W->w.heap.size+2<=W.heap.size->W.heap[w.heap.size]?=some (.deferred (some []))->Q (.panic c) {a with defers:={target:=.collected w.heap.size,args:=#[]}::a.defers} W):
 vD f P (Δ g ps assign body) Q a w:=by
 refine S1 oE hg eg hit uu uv mK O hO atF Jx Jp (λi a1 D W=>EP P O w body (atF (i+1)) Jx Jp a1 D W) lJ h0 ?_ ?_ jS lx oF
 ·intro l i x X W D he hs dV aG atH hK;refine pI l i x X W D he hs dV aG atH λa1 W1 D1 U G A K Ad=>hK a1 W1 D1 U G A ⟨K,λW2 I l' W3 cj=>Ad l' W3 λk hd=>(cj k hd).trans (I k hd)⟩
 intro l i x X a1 W D he hs dV aG;exact aG.out l W (λ_ _=>rfl) he hs
theorem eO {w Y:κ}{B s:Nat}{e:Ψ}{v:Value}{n:Nat}{xs:List Value}(h:w.ownsRow B e s v n xs)(I:∀g,v.ownBlock=some g->Y.heap[g]?=w.heap[g]?):Y.ownsRow B e s v n xs:=
 ⟨h.1,h.2.elim .inl λ⟨g,cap,cur,G,A,K,h4⟩=>.inr ⟨g,cap,cur,G,A,(I g (by rw[G];rfl)).trans K,h4⟩⟩
def tg (p:Nat)(T e:Ψ)(sz B n:Nat)(xs:List Value):aP:=λD W=>
 D p/\∃v,M W p [v] T/\(∀k,v.ownBlock=some k->D k/\k≠p)/\W.ownsRow B e sz v n xs
theorem tg.cL {p:Nat}{T e:Ψ}{sz B n:Nat}{xs:List Value}{D:aj}{W:κ}(hD:∀k,D k->k<W.heap.size)(h:tg p T e sz B n xs D W):On D (tg p T e sz B n xs) W:=by
 obtain⟨G,v,A,K,h4⟩:=h;exact⟨hD,λW2 I=>⟨G,v,(I p G).trans A,K,eO h4 λg hg=>I g (K g hg).1⟩⟩
theorem xi {F:Fence}{nF:Nat}{P:τ}{ops:Array Oper}{rest:List Oper}{o:Oper}{a:Κ}{Q:ϊ->Κ->κ->Prop}{W:κ}(pD:o.guard=none)(s x:Ϗ)(t e:Ψ)(z:Value)(size bytes:Nat)
 (ho:o.op=.call {callee:=.builtin .append,args:=#[s,x],argTypes:=#[t,t]})(hu:P.underlying t=some (.slice e))
 (yh:(P.info? e).map (λi=>(i.zero,i.size,i.bytes))=some (some z,size,bytes))(hz:z.cells.size=size)(bp:0<size)(B:Nat)(v:Value)(n:Nat)(xs:List Value)(hs:a.eval s=v)
 (aU:W.ownsRow B e size v n xs)(hB:B<=W.heap.size)(p:Nat)(news:List Value)(X:a.eval x=η (some ⟨p,0,none⟩) 1 1)(N:news.length=size)
 (hc:∀j u,news[j]?=some u->W.cell? ⟨p,j,none⟩=some u)(G:∀u∈news,u.oneCell'=true)(hn:n<=4194304)(uf:bytes<=64)
 (h:∀v' W',W'.ownsRow B e size v' (n+1) (xs++news)->W.grownBy W' v.ownBlock->(v'.ownBlock=v.ownBlock\/v'.ownBlock=some W.heap.size)->wpListIn F nF P ops Q rest (a.put o.dst v') W'):
 wpListIn F nF P ops Q (o::rest) a W:=by
 obtain⟨i0,S,gH,oV,fN⟩:=info_parts yh;refine Go.wpListIn_append_own_at W pD s x t ho B e i0 z size bytes hu S gH oV fN hz bp v n xs hs aU ⟨p,0,none⟩ 1 1 news X (by omega) ?_ G ?_ ?_ hB ?_
 ·intro j u hj;have:=hc j u hj;have e:((⟨p,0,none⟩:Addr).add j)=⟨p,j,none⟩:=by
   unfold Addr.add;split
   ·rename_i hj0;subst hj0;rfl
   simp
  rw[e];exact this
 ·unfold maxLen;omega
 ·have:(n+1)*bytes<=4194305*64:=Nat.mul_le_mul (by omega) uf;omega
 intro v' W' gV tC _ QN;exact h v' W' gV tC QN
theorem ak.grown {O:aj}{atB W W':κ}{row:Option Nat}(h:ak O atB W)(hg:W.grownBy W' row)(hr:∀k,row=some k->O k\/atB.heap.size<=k):ak O atB W':=
 ⟨hg.os.trans h.os,hg.tape.trans h.tape,hg.output.trans h.output,Γ h.size hg.size,λk I ho=>by
  have df:some k≠row:=λe=>(hr k e.symm).elim ho (by omega);exact(hg.block k (Nat.lt_of_lt_of_le I h.size) df).trans (h.block k I ho)⟩
theorem nZ {w:κ}{B s n:Nat}{e:Ψ}{v:Value}{xs:List Value}(h:w.ownsRow B e s v n xs):∃a c,v=η a n c:=by
 rcases h.2 with⟨rfl,rfl⟩|⟨g,cap,cur,rfl,_⟩
 ·exact⟨_,_,rfl⟩
 exact⟨_,_,rfl⟩
theorem Dv {D1:aj}{W2 W3 W4:κ}{p B sz n':Nat}{T e:Ψ}{v v':Value}{xs':List Value}(dN:∀k,D1 k->k<W2.heap.size)(J:D1 p)(X:ak D1 W2 W3)(q:M W3 p [v] T)
 (hv:∀k,v.ownBlock=some k->D1 k/\k≠p)(hg:W3.grownBy W4 v.ownBlock)(QN:v'.ownBlock=v.ownBlock\/v'.ownBlock=some W3.heap.size)(ho:W4.ownsRow B e sz v' n' xs'):
 aN D1 W2.heap.size (tg p T e sz B n' xs') W2 (W4.setCell ⟨p,0,none⟩ v'):=by
 have hp3:=q.lt;have q4:M W4 p [v] T:=(hg.block p hp3 (λe=>(hv p e.symm).2 rfl)).trans q;have oZ:=X.size;have su:=hg.size;have LU:∀k,v'.ownBlock=some k->(D1 k\/W2.heap.size<=k)/\k≠p/\k<W4.heap.size:=λk I=>by
  have aQ:=(ho.lt k I).2;rcases QN with h|h
  ·have:=hv k (h▸I);exact⟨.inl this.1,this.2,aQ⟩
  rw[h]at I;injection I with I
  exact⟨.inr (by omega),by omega,aQ⟩
 refine⟨(X.grown hg λk I=>.inl (hv k I).1).setCell (.inl J) _,λk=>D1 k\/v'.ownBlock=some k,λk I=>I.elim .inl λh=>(LU k h).1,λk I=>.inl I,?_⟩;refine tg.cL (λk I=>?_) ⟨.inl J,v',q4.set (k:=0) v',λk I=>⟨.inr I,(LU k I).2.1⟩,eO ho λg JN=>Ϙ _ _ _ _ (λ(e:g=p)=>(LU g JN).2.1 e)⟩;rw[Β];rcases I with I|I
 ·have:=dN k I;omega
 exact(LU k I).2.2
end Go.Proofs.YthpndgcaoeokeaaGreatDoor
namespace Go.Proofs.YthpndgcaoeokeaaGreatDoor
open Tryz
open Go.RowKit Go.Sort
attribute [local go_sem] Oper.semAt_some
def jG (l:List Int):List Value:=(l.map pn).flatten
def kR (r:aC)(a:Int)(n:Nat):List Int:=(dB a n).filter (yX r)
def nT (pls:List Int)(len:Int):Int->List Int->List Int
 |_,[]=>[]
 |i,d::l=>(if pls.contains (i+1)||pls.contains (i-len)then[d]else[])++nT pls len (i+1) l
def du (r:aC)(a:Int)(n:Nat):List Int:=if r.pls.length=0 then kR r a n else nT r.pls (kR r a n).length 0 (kR r a n)
theorem Bx {l:List Int}{i:Nat}{d:Int}(h:l[i]?=some d):
 (jG l)[i*3]?=some (V Z (ag.aq d))/\(jG l)[i*3+1]?=some (V Z (ag.ofM d))/\(jG l)[i*3+2]?=some (V Z (ag.aA d)):=by
 induction l generalizing i with
 |nil=>simp at h
 |cons x r ih=>
  cases i with
  |zero=>simp at h;subst h;unfold jG pn;simp
  |succ i=>
   have:=ih (i:=i) (by simpa using h);have e:jG (x::r)=pn x++jG r:=by unfold jG;simp
   rw[e];have N:(pn x).length=3:=rfl;refine⟨?_,?_,?_⟩
   ·rw[show(i+1)*3=3+i*3 from by omega,φ (by omega),N,ψ];exact this.1
   ·rw[show(i+1)*3+1=3+(i*3+1)from by omega,φ (by omega),N,ψ];exact this.2.1
   rw[show(i+1)*3+2=3+(i*3+2)from by omega,φ (by omega),N,ψ];exact this.2.2
theorem Ws {pls:List Int}{len:Int}{F:List Int}{i:Nat}{d:Int}(h:F[i]?=some d):
 nT pls len i (F.drop i)=(if pls.contains (i+1)||pls.contains (i-len)then[d]else[])++nT pls len ((i+1:Nat):Int) (F.drop (i+1)):=by
 obtain⟨S,he⟩:=List.getElem?_eq_some_iff.1 h;rw[Ζ S,he,nT];rfl
theorem QO {w:κ}{B:Nat}{v:Value}{l:List Int}{i:Nat}{d:Int}(h:w.ownsRow B 106 3 v l.length (jG l))(hd:l[i]?=some d):
 ∃g cap,v=η (some ⟨g,0,none⟩) l.length cap/\B<=g/\l.length<=cap/\w.cell? ⟨g,i*3,none⟩=some (V Z (ag.aq d))/\w.cell? ⟨g,i*3+1,none⟩=some (V Z (ag.ofM d))/\w.cell? ⟨g,i*3+2,none⟩=some (V Z (ag.aA d)):=by
 have S:=(List.getElem?_eq_some_iff.1 hd).1;rcases h.2 with⟨_,h0⟩|⟨g,cap,cur,rfl,hB,hg,hc,_⟩
 ·omega
 refine⟨g,cap,rfl,hB,hc,?_,?_,?_⟩
 ·rw[h.cellAt _ (by omega)];exact(Bx hd).1
 ·rw[h.cellAt _ (by omega)];exact(Bx hd).2.1
 rw[h.cellAt _ (by omega)];exact(Bx hd).2.2
theorem tX {w:κ}{B B' s n:Nat}{e:Ψ}{v:Value}{xs:List Value}(h:w.ownsRow B e s v n xs)(U:B'<=B):w.ownsRow B' e s v n xs:=
 ⟨h.1,h.2.imp id λ⟨g,cap,cur,G,A,K⟩=>⟨g,cap,cur,G,Γ U A,K⟩⟩
theorem Ic:(prog.info? 106).map (λi=>(i.zero,i.size,i.bytes))=some (some (.agg #[V Z 0,V Z 0,V Z 0]),3,24):=by kernel_rfl
theorem Wt (r:aC)(a:Int)(i:Nat):kR r a (i+1)=kR r a i++if yX r (a+i)then[a+i]else[]:=by
 unfold kR dB;rw[List.range_succ,List.map_append,List.filter_append];simp[List.filter_cons]
theorem zb (l:List Int)(x:Int):jG (l++[x])=jG l++pn x:=by unfold jG;simp
theorem Ek (r:aC)(a:Int)(n:Nat):(kR r a n).length<=n:=by
 unfold kR;exact Γ (List.length_filter_le _ _) (by rw[yZ];exact μ _)
theorem ZS (r:aC)(m md wk pl:Value)(tx:ByteArray)(a:Int)(n:Nat)(w:κ)(N:eG w r m md wk pl)(ho:eu r)(h0:-10000<=a)(G:a+n<=300000)(hn:n<=400):
 Α prog 343 #[bC r.fq r.iv r.ct r.un m md wk pl r.ws tx,dy a (a+n)] w λe Y=>∃v,e=δ v/\Y.ownsRow w.heap.size 106 3 v (du r a n).length (jG (du r a n))/\Below w.heap.size w Y:=by
 have hF:Ν (∀W k,Below w.heap.size w W->k<n->Α prog 356 #[bC r.fq r.iv r.ct r.un m md wk pl r.ws tx,aW (a+(k:Nat))] W λe Y=>e=δ (.bool (yX r (a+(k:Nat))))/\Below W.heap.size W Y):=
  H λW k U I=>aha r m md wk pl tx (a+(k:Nat)) W (N.on U) ho (by omega) (by omega)
 have hA:Ν (∀W,Α prog 355 #[dy a (a+n)] W λe Y=>e=δ (.func (.func 361) #[] #[ζ (some ⟨W.heap.size,0,none⟩)])/\Y=W.alloc (ι (se a (a+n)).toArray 370)):=H λW=>ai0 a (a+n) W;obtain⟨a1,e1⟩:=N.ms.form;obtain⟨a2,e2⟩:=N.mds.form;obtain⟨a3,e3⟩:=N.wks.form;obtain⟨a4,e4⟩:=N.pls.form;have qz:=H N.pls;have arn:=ho.pls;clear N ho;generalize r.ms.length=n1 at *
 generalize r.mds.length=n2 at *
 generalize r.wks.length=n3 at *
 subst e1 e2 e3 e4;unfold bC at *
 unfold dy aW cS at *
 refine(callsIn_wide (n:=0)).1 ?_;refine dr func343 rfl ?_;simp only[ntmps343,Ρ,Θ,Χ,ώ,ύ,Μ,Λ,Τ,Ξ,Φ,Υ];refine bK λatH hK=>bQ ?_;gi_wp2_with fail;refine bK λatH hK=>bQ ?_;gi_wp2_with fail;refine bK λK1 eM=>?_;refine bK λatH hK=>bQ ?_;gi_wp2_with fail;refine⟨trivial,rfl,(callsIn_wide.2 (hA.out _)).mono ?_⟩;rintro e w1 ⟨rfl,rfl⟩;have r0:=((M.new w [V Z r.fq,V Z r.iv,V Z r.ct,V Z r.un,η a1 n1 n1,η a2 n2 n2,η a3 n3 n3,η a4 r.pls.length r.pls.length,V Z r.ws,θ tx] 76).on ((ν _ _).alloc (μ _) (ι #[V Z (ag.aq a),V Z (ag.ofM a),V Z (ag.aA a),V Z (ag.aq (a+n)),V Z (ag.ofM (a+n)),V Z (ag.aA (a+n))] 370))).on ((ν _ _).alloc (μ _) (ι #[η none 0 0] 372));have r5:=M.new ((w.alloc (ι #[V Z r.fq,V Z r.iv,V Z r.ct,V Z r.un,η a1 n1 n1,η a2 n2 n2,η a3 n3 n3,η a4 r.pls.length r.pls.length,V Z r.ws,θ tx] 76)).alloc (ι #[V Z (ag.aq a),V Z (ag.ofM a),V Z (ag.aA a),V Z (ag.aq (a+n)),V Z (ag.ofM (a+n)),V Z (ag.aA (a+n))] 370)) [η none 0 0] 372;simp only[Ϛ]at r5;have al:Below w.heap.size w (((w.alloc (ι #[V Z r.fq,V Z r.iv,V Z r.ct,V Z r.un,η a1 n1 n1,η a2 n2 n2,η a3 n3 n3,η a4 r.pls.length r.pls.length,V Z r.ws,θ tx] 76)).alloc (ι #[V Z (ag.aq a),V Z (ag.ofM a),V Z (ag.aA a),V Z (ag.aq (a+n)),V Z (ag.ofM (a+n)),V Z (ag.aA (a+n))] 370)).alloc (ι #[η none 0 0] 372)):=(((ν _ _).alloc (μ _) _).alloc (by simp) _).alloc (by simp;omega) _;have bp:(((w.alloc (ι #[V Z r.fq,V Z r.iv,V Z r.ct,V Z r.un,η a1 n1 n1,η a2 n2 n2,η a3 n3 n3,η a4 r.pls.length r.pls.length,V Z r.ws,θ tx] 76)).alloc (ι #[V Z (ag.aq a),V Z (ag.ofM a),V Z (ag.aA a),V Z (ag.aq (a+n)),V Z (ag.ofM (a+n)),V Z (ag.aA (a+n))] 370)).alloc (ι #[η none 0 0] 372)).heap.size=w.heap.size+3:=by simp
 generalize(((w.alloc (ι #[V Z r.fq,V Z r.iv,V Z r.ct,V Z r.un,η a1 n1 n1,η a2 n2 n2,η a3 n3 n3,η a4 r.pls.length r.pls.length,V Z r.ws,θ tx] 76)).alloc (ι #[V Z (ag.aq a),V Z (ag.ofM a),V Z (ag.aA a),V Z (ag.aq (a+n)),V Z (ag.ofM (a+n)),V Z (ag.aA (a+n))] 370)).alloc (ι #[η none 0 0] 372))=W0 at *
 have bh:Below W0.heap.size W0 (W0.alloc (ι (se a (a+n)).toArray 370)):=(ν _ _).alloc (μ _) _;have hit:=ahc a n W0.heap.size (W0.alloc (ι (se a (a+n)).toArray 370)) (by omega) (by omega) (M.new _ _ _);have ahh:(W0.alloc (ι (se a (a+n)).toArray 370)).heap.size=w.heap.size+4:=by simp;omega
 replace al:=al.trans (bh.mono al.size);replace r0:=r0.on bh;replace r5:=r5.on bh;rw[bp]at hit;generalize W0.alloc (ι (se a (a+n)).toArray 370)=W1 at *
 clear bh hA;gi_wp2_with fail;refine gB ?_;have eg:∀args w,(callFunc 361 args).run prog w=.ok (.enter 361 args) w:=enters_of func361 (by kernel_rfl) rfl;refine lz (gf:=361) (lb:=#[ζ (some ⟨w.heap.size+3,0,none⟩)]) func343 ?g eg hit (μ _) (λ_ _=>rfl) (λk I=>by omega)
  (λk=>k=w.heap.size+1+1) (λk I=>by omega) (λi=>tg (w.heap.size+1+1) 372 106 3 w.heap.size ((kR r a i).length) (jG (kR r a i))) (λ_ _ _=>False) (λ_ _ _=>False) ?ps ?start ?round ?done ?stop ?pan
 case g=>rfl
 case ps=>intro x X;obtain⟨d,_,rfl⟩:=List.mem_map.1 X;rfl
 case start=>exact tg.cL (λk I=>by omega) ⟨rfl,η none 0 0,r5,λk I=>by simp[Value.ownBlock]at I,ϙ _ _ _ _⟩
 case stop=>
  rintro c W ⟨_,D,_,_,aG⟩;exact aG.out.elim
 case pan=>
  rintro c W ⟨_,D,_,_,aG⟩;exact aG.out.elim
 case round=>
  intro l i x X W D zq hs dV aG atH hK;have lP:i<n:=by
   have:=(List.getElem?_eq_some_iff.1 X).1;rwa [lF,yZ]at this
  rw[qZ (Nu a n i lP)]at X;cases X;unfold aW cS;gi_wp2_with fail;have cG:Below W.heap.size W (W.alloc (ι #[V Z (ag.aq (a+i)),V Z (ag.ofM (a+i)),V Z (ag.aA (a+i))] 106)):=(ν _ _).alloc (μ _) _;refine hK _ _ (λk=>D k\/k=W.heap.size) cG (λk I=>I.imp id λh=>by omega) (λk I=>.inl I) (λk I=>I.elim (λh=>by have:=aG.1 k h;simp;omega) (λh=>by simp;omega)) ?_;intro l' W2 fG bL oZ;have q0:=r0.aL bL (show¬(w.heap.size=w.heap.size+1+1) by omega);have q6:=(M.new W [V Z (ag.aq (a+i)),V Z (ag.ofM (a+i)),V Z (ag.aA (a+i))] 106).keep (fG _ (.inr rfl));have ea:=aG.on (W':=W2) λk I=>(fG k (.inl I)).trans (cG.block k (aG.1 k I));have bV:=al.trans (bL.below (B:=w.heap.size) (by omega) (λk I=>by omega));have df:¬D W.heap.size:=λh=>by have:=aG.1 _ h;omega
  have uq:=q6.lt;clear hK cG fG r0 r5 hit eM;obtain⟨JR,v,q5,gg,aU⟩:=ea.out;obtain⟨g0,g1,g2,g3,g4,g5,g6,g7,g8,g9⟩:=bZ q0;obtain⟨c0,c1,c2,_,_,_⟩:=bW q6;gi_wp2_with fail;refine⟨trivial,rfl,(CallsIn.inRound l' (callsIn_wide.2 (hF.out _ i bV lP))).mono ?_⟩;rintro e W3 ⟨rfl,aR⟩;clear g0 g1 g2 g3 g4 g5 g6 g7 g8 g9 c0 c1 c2;have dN:∀k,D k\/k=W.heap.size->k<W2.heap.size:=λk I=>I.elim (ea.1 k) (λh=>by omega);have fE:=Wt r a i;have jZ:=Ek r a i;have z5:=q5.on aR;have z6:=q6.on aR;have Gb:=eO aU (Y:=W3) λg hg=>aR.block g (aU.lt g hg).2;have Gc:Ν (yX r (a+i)=false->kR r a (i+1)=kR r a i):=H λh=>by rw[fE,h];simp
  have Gd:Ν (yX r (a+i)=true->kR r a (i+1)=kR r a i++[a+i]):=H λh=>by rw[fE,h];simp
  clear fE;generalize hf:yX r (a+i)=B at *
  cases B
  ·replace Gc:=H (Gc.out rfl);clear Gd;gi_wp2_with fail;refine⟨ak.ar aR,λk=>D k\/k=W.heap.size,λk I=>.inl I,λk I=>I,?_⟩;rw[Gc.out];exact tg.cL (λk I=>by have:=dN k I;have:=aR.size;omega) ⟨.inl JR,v,z5,λk I=>⟨.inl (gg k I).1,(gg k I).2⟩,Gb⟩
  replace Gd:=H (Gd.out rfl);clear Gc;have c5:=z5.cell (k:=0) rfl;have f5:=z5.free (k:=0);obtain⟨c0,c1,c2,_,_,_⟩:=bW z6;have hw3:w.heap.size<=W3.heap.size:=by have:=aR.size;omega
  gi_wp2_with (gi_at_builtin;refine Hid.out ?_);refine H ?_;refine xi rfl (.tmp 16) (.tmp 18) 372 106 _ 3 24 rfl underlying372 Ic rfl (by decide) w.heap.size _ _ _ rfl (Gb.alloc _) (by simp;omega) W3.heap.size (pn (a+i)) rfl rfl (λj u hj=>(M.new W3 (pn (a+i)) 106).cell hj) (by unfold pn;simp[Value.oneCell']) (by omega) (by decide) ?_;intro v' W4 acg hg4 ZT;obtain⟨g4,aro,rfl⟩:=nZ acg;replace ZT:=H ZT;have cE:=(ν W3.heap.size W3).alloc (μ _) (ι (pn (a+i)).toArray 106);have y5:=z5.on cE;have y5':M W4 (w.heap.size+1+1) [v] 372:=(hg4.block _ y5.lt (λe=>(gg _ e.symm).2 rfl)).trans y5;clear c5 f5 c0 c1 c2;have c5:=y5'.cell (k:=0) rfl;have f5:=y5'.free (k:=0);gi_wp2_with fail;have eY:=Dv (D1:=λk=>D k\/k=W.heap.size) (W2:=W2) (p:=w.heap.size+1+1) (T:=372) dN (.inl JR) ((ak.ar aR).alloc _) y5 (λk I=>⟨.inl (gg k I).1,(gg k I).2⟩) hg4 ZT.out acg;show aN _ _ _ _ _;rw[Gd.out,zb,υ];exact eY
 case done=>
  rw[lF,yZ];rintro W ⟨X,D,ep,dV,aG⟩ hs bI;have q0:=r0.aL X (show¬(w.heap.size=w.heap.size+1+1) by omega);obtain⟨JR,v,q5,gg,aU⟩:=aG.out;have bV:=al.trans (X.below (B:=w.heap.size) (by omega) (λk I=>by omega));clear r0 r5 hit hF;obtain⟨g0,g1,g2,g3,g4,g5,g6,g7,g8,g9⟩:=bZ q0;have c5:=q5.cell (k:=0) rfl;simp only[Ι,Exit.then];refine eM _ _ (bQ ?_);clear eM;by_cases J:r.pls.length=0
  case pos=>
   have hL:Ν (du r a n=kR r a n):=H (by unfold du;rw[if_pos J]);generalize du r a n=L at *
   generalize r.pls.length=np at *
   subst J;gi_wp2_with fail;rw[ahh]at bI;refine⟨by simp,.inl ⟨_,_,rfl,run_takeDeferred bI,?_⟩⟩;refine⟨_,results_tmp rfl _ _ _,v,rfl,?_,?_⟩
   ·rw[hL.out];exact eO aU λg hg=>π (by
     rcases ep g (gg g hg).1 with h|h<;>omega)
   exact⟨bV.os,bV.tape,bV.output,by simp;omega,λk I=>(π (by omega)).trans (bV.block k I)⟩
  case neg=>
   have Aa:((r.pls.length:Int)==0)=false:=by simpa using J
   have hL:Ν (du r a n=nT r.pls (kR r a n).length 0 (kR r a n)):=H (by unfold du;rw[if_neg J]);have jZ:=Ek r a n;have hC:Ν (∀W' x,Below w.heap.size w W'->Α prog 218 #[η a4 r.pls.length r.pls.length,V Z x] W' λe Y=>e=δ (.bool (r.pls.contains x))/\Below W'.heap.size W' Y):=H λW' x U=>yV x (qz.out.on U) (by omega);clear qz;rw[ahh]at bI;obtain⟨av,cv,rfl⟩:=nZ aU;generalize hFF:kR r a n=F at *
   generalize du r a n=L at *
   gi_wp2_with fail;clear g0 g1 g2 g3 g4 g5 g6 g7 g8 g9 c5 hFF;gi_loopg [7,27] F.length (λk pv cv wr=>∃(i:Nat) (pre:List Int),i+k=F.length/\cv=V Z i/\Below W.heap.size W wr/\wr.ownsRow W.heap.size 106 3 pv pre.length (jG pre)/\pre.length<=i/\Ν (L=pre++nT r.pls F.length i (F.drop i)))
   case atStart=>exact⟨0,[],by omega,rfl,ν _ _,ϙ _ _ _ _,μ _,H (by rw[hL.out];rfl)⟩
   case round=>
    clear hL;obtain⟨i,pre,PM,rfl,cP,nP,S2,HL⟩:=hrel;have pL:=(cP.block _ (by omega:w.heap.size+4<W.heap.size)).trans bI;have A6:=cP.size;have wM:=bV.trans (cP.mono bV.size);by_cases S:i=F.length
    case pos=>
     have HL':Ν (L=pre):=H (by rw[HL.out,S,ϝ,nT];simp);clear HL;subst S;gi_wp2_with fail;refine⟨by simp,.inl ⟨_,_,rfl,run_takeDeferred pL,?_⟩⟩;refine⟨_,results_tmp rfl _ _ _,u7,rfl,?_,?_⟩
     ·rw[HL'.out];refine tX (eO nP λg hg=>π ?_) (by omega);have:=(nP.lt g hg).1;omega
     exact⟨wM.os,wM.tape,wM.output,by simp;omega,λk I=>(π (by omega)).trans (wM.block k I)⟩
    case neg=>
     have wW:i<F.length:=by omega
     obtain⟨d,hd⟩:∃d,F[i]?=some d:=⟨_,Η wW⟩;have ai2:=eO aU (Y:=wr) λg hg=>cP.block g (aU.lt g hg).2;obtain⟨gv,cap,LX,hgB,M4,d0,d1,d2⟩:=QO ai2 hd;simp only[Value.slice.injEq]at LX;obtain⟨rfl,_,rfl⟩:=LX;have q0':=q0.on cP;have q5':=q5.on cP;have cE:Below wr.heap.size wr (wr.alloc (ι #[V Z (ag.aq d),V Z (ag.ofM d),V Z (ag.aA d)] 106)):=(ν wr.heap.size wr).alloc (μ _) _;have hg7:=(q0'.on cE).cell (k:=7) rfl;have hg5:=(q5'.on cE).cell (k:=0) rfl;have iK:Ν _:=H (Ws (pls:=r.pls) (len:=F.length) hd);have r9:M (wr.alloc (ι #[V Z (ag.aq d),V Z (ag.ofM d),V Z (ag.aA d)] 106)) wr.heap.size (pn d) 106:=M.new wr (pn d) 106;have ha9:=H (wM.trans (cE.mono wM.size));clear hd;gi_wp2_with fail;refine⟨trivial,rfl,(callsIn_wide.2 (hC.out _ _ ha9.out)).mono ?_⟩;rintro e W5 ⟨rfl,bJ⟩;replace r9:=r9.on bJ;have q07:=((q0'.on cE).on bJ).cell (k:=7) rfl;have q05:=((q5'.on cE).on bJ).cell (k:=0) rfl;have El:=H (cP.trans ((cE.trans (bJ.mono (by simp))).mono (by omega)));have ly:=eO nP (Y:=W5) λg hg=>(bJ.block g (by have:=(nP.lt g hg).2;simp;omega)).trans (cE.block g (nP.lt g hg).2);have xh:wr.heap.size<W5.heap.size:=r9.lt;clear hg7 hg5 d0 d1 d2 bJ cE;generalize xm:r.pls.contains ((i:Int)+1)=B1 at *
     clear xm;cases B1
     case true=>
      obtain⟨c0,c1,c2,_,_,_⟩:=bW r9;gi_wp2_with fail;refine⟨trivial,?_⟩;gi_wp2_with (gi_at_builtin;refine Hid.out ?_);refine H ?_;refine xi rfl (.tmp 46) (.tmp 48) 372 106 _ 3 24 rfl underlying372 Ic rfl (by decide) W.heap.size u7 pre.length (jG pre) rfl (ly.alloc _) (by simp;omega) W5.heap.size (pn d) rfl rfl (λj u hj=>(M.new W5 (pn d) 106).cell hj) (by unfold pn;simp[Value.oneCell']) (by omega) (by decide) ?_;intro v' W6 nA ux qL;clear qL;have cG:=H ((El.out.alloc (by omega) _).grown ux (by simp;omega) (λk I=>(ly.lt k I).1));gi_wp2_with fail;gi_roundg (gk-1)
      case measure=>omega
      case rel=>exact⟨i+1,pre++[d],by omega,by go_num,cG.out,by rw[zb,υ];exact nA,by simp;omega,H (by rw[HL.out,iK.out];simp)⟩
     case false=>
      have anj:=H (bV.trans (El.out.mono bV.size));gi_wp2_with fail;refine⟨trivial,rfl,(callsIn_wide.2 (hC.out _ _ anj.out)).mono ?_⟩;rintro e W7 ⟨rfl,ka⟩;replace r9:=r9.on ka;have ahj:=H (El.out.trans (ka.mono (by omega)));have S3:=eO ly (Y:=W7) λg hg=>ka.block g (ly.lt g hg).2;have Pj:=ka.size;clear q07 q05 ka El;generalize Wi:r.pls.contains ((i:Int)-F.length)=B2 at *
      clear Wi;cases B2
      case true=>
       obtain⟨c0,c1,c2,_,_,_⟩:=bW r9;gi_wp2_with (gi_at_builtin;refine Hid.out ?_);refine H ?_;refine xi rfl (.tmp 46) (.tmp 48) 372 106 _ 3 24 rfl underlying372 Ic rfl (by decide) W.heap.size u7 pre.length (jG pre) rfl (S3.alloc _) (by simp;omega) W7.heap.size (pn d) rfl rfl (λj u hj=>(M.new W7 (pn d) 106).cell hj) (by unfold pn;simp[Value.oneCell']) (by omega) (by decide) ?_;intro v' W6 nA ux qL;clear qL;have cG:=H ((ahj.out.alloc (by omega) _).grown ux (by simp;omega) (λk I=>(S3.lt k I).1));gi_wp2_with fail;gi_roundg (gk-1)
       case measure=>omega
       case rel=>exact⟨i+1,pre++[d],by omega,by go_num,cG.out,by rw[zb,υ];exact nA,by simp;omega,H (by rw[HL.out,iK.out];simp)⟩
      case false=>
       gi_wp2_with fail;gi_roundg (gk-1)
       case measure=>omega
       case rel=>exact⟨i+1,pre,by omega,by go_num,ahj.out,S3,by omega,H (by rw[HL.out,iK.out];simp)⟩
end Go.Proofs.YthpndgcaoeokeaaGreatDoor
namespace Go.Proofs.YthpndgcaoeokeaaGreatDoor
open Tryz
theorem Em (y:Int):ag.num y 1 1=cx y 1:=by unfold cx;simp
theorem Wu (r:aC)(s k:Int)(s0:0<=s)(s1:s<=84010)(k0:0<=k)(k1:k<=dG r):
 -400<=aX r s k/\aX r s k<=iW r s k/\iW r s k<=aX r s k+400/\iW r s k<=300000/\(aX r s k<=84010->k+100<=dG r):=by
 have hw:=qY (s+k*7) r.ws;have hm:=ju s (by omega);have hy:=oq s (by omega);obtain⟨n,rfl⟩:∃n:Nat,k=n:=⟨k.toNat,by omega⟩;have G:=B0 (ag.aq s) (ag.ofM s) n;have A:=wb (ag.aq s) (ag.ofM s+n);have K:=B0 (ag.aq s) 1 (12*n);have h4:=B0 (ag.aq s) (1+(12*n:Nat)) 12;have e0:=Em (ag.aq s);have e1:ag.num (ag.aq s+n) 1 1=cx (ag.aq s) (1+(12*n:Nat)):=by rw[Em];exact sN (by omega)
 have e2:ag.num (ag.aq s+n+1) 1 1=cx (ag.aq s) (1+(12*n:Nat)+(12:Nat)):=by rw[Em];exact sN (by omega)
 unfold dG at *
 unfold aX iW;split
 ·rw[if_pos (by assumption)]at k1;omega
 rw[if_neg (by assumption)]at k1;split
 ·rw[if_pos (by assumption)]at k1;omega
 rw[if_neg (by assumption)]at k1;split
 ·rw[if_pos (by assumption)]at k1;omega
 rw[if_neg (by assumption)]at k1;rw[e1,e2];omega
theorem Wv (r:aC)(s d:Int)(s0:0<=s)(s1:s<=d)(d1:d<=84010):0<=cf r s d/\cf r s d+100<=dG r:=by
 have hr:=lE s (by omega) (by omega);have hrd:=lE d (by omega) (by omega);have hwi:=qY s r.ws;have hle:ag.aq s<=ag.aq d:=yW (by omega) s1;have hlm:=Bu (by omega) s1;have hs:1970<=ag.aq s:=by have:=yW (a:=0) (b:=s) (by omega) s0;have e:ag.aq 0=1970:=(by decide);omega
 have hd:ag.aq d<=2200:=by have:=yW (a:=d) (b:=84010) (by omega) d1;have e:ag.aq 84010=2200:=(by decide);omega
 unfold cf dG;split
 ·omega
 split
 ·omega
 split<;>omega
theorem JU (r:aC)(ho:eu r)(s f:Int)(s0:0<=s)(s1:s<=7258118400)(f1:f<=7258118400):0<=fc r s f/\fc r s f+100<=dG r:=by
 have Wl:=ho.F7;unfold fc;split
 ·unfold dG;split<;>(try split)<;>(try split)<;>omega
 have h:=Wv r (s/86400) (f/86400) (by omega) (by omega) (by omega);have G:=Int.emod_nonneg (cf r (s/86400) (f/86400)) (b:=r.iv) (by omega);have A:=Int.mul_ediv_add_emod (cf r (s/86400) (f/86400)) r.iv;have K:0<=cf r (s/86400) (f/86400)/r.iv:=Int.ediv_nonneg h.1 (by omega);have h4:0<=r.iv*(cf r (s/86400) (f/86400)/r.iv):=Int.mul_nonneg (by omega) K;omega
def gS (r:aC)(s k:Int):Nat:=(iW r s k-aX r s k).toNat
def sO (r:aC)(s last:Int):Nat->Int->List Int
 |0,_=>[]
 |g+1,k=>if last<aX r s k*86400 then[]else du r (aX r s k) (gS r s k)++sO r s last g (k+r.iv)
def jf (r:aC)(start from_ last:Int):List Int:=sO r (start/86400) last (dG r).toNat (fc r start from_)
theorem QP (r:aC)(s last:Int)(g:Nat)(k:Int)(h:last<aX r s k*86400):sO r s last g k=[]:=by
 cases g with
 |zero=>rfl
 |succ g=>rw[sO,if_pos h]
theorem Ww (r:aC)(s last:Int)(g:Nat)(k:Int)(h:¬last<aX r s k*86400):sO r s last (g+1) k=du r (aX r s k) (gS r s k)++sO r s last g (k+r.iv):=by
 rw[sO,if_neg h]
open Go.RowKit Go.Sort
def aS (r:aC)(s:Int):aC:=
 if 0<r.mds.length\/0<r.wks.length then r
 else if r.fq=1 then{r with wks:=[(0,(s+719470)%7)]}
 else if r.fq=2 then{r with mds:=[ag.aA s]}
 else if r.fq=3 then(if r.ms.length=0 then{r with mds:=[ag.aA s],ms:=[ag.ofM s]}else{r with mds:=[ag.aA s]})
 else r
def LB (m md wk pl:Value):aj:=λk=>m.ownBlock=some k\/md.ownBlock=some k\/wk.ownBlock=some k\/pl.ownBlock=some k
theorem cr.keep {w Y:κ}{v:Value}{zs:List Int}(h:cr w v zs)(I:∀k,v.ownBlock=some k->Y.heap[k]?=w.heap[k]?):cr Y v zs:=
 h.imp id λ⟨g,G,A⟩=>⟨g,G,(I g (by rw[G];rfl)).trans A⟩
theorem gE.keep {w Y:κ}{v:Value}{zs:List (Int×Int)}(h:gE w v zs)(I:∀k,v.ownBlock=some k->Y.heap[k]?=w.heap[k]?):gE Y v zs:=
 h.imp id λ⟨g,G,A⟩=>⟨g,G,(I g (by rw[G];rfl)).trans A⟩
theorem eG.keep {w Y:κ}{r:aC}{m md wk pl:Value}(h:eG w r m md wk pl)(I:∀k,LB m md wk pl k->Y.heap[k]?=w.heap[k]?):eG Y r m md wk pl:=
 ⟨h.ms.keep λk e=>I k (.inl e),h.mds.keep λk e=>I k (.inr (.inl e)),h.wks.keep λk e=>I k (.inr (.inr (.inl e))),h.pls.keep λk e=>I k (.inr (.inr (.inr e)))⟩
theorem cr.fW {w:κ}{v:Value}{zs:List Int}(h:cr w v zs){k:Nat}(e:v.ownBlock=some k):k<w.heap.size:=by
 rcases h with⟨rfl,_⟩|⟨g,rfl,A⟩
 ·cases e
 cases e;exact A.lt
theorem gE.fW {w:κ}{v:Value}{zs:List (Int×Int)}(h:gE w v zs){k:Nat}(e:v.ownBlock=some k):k<w.heap.size:=by
 rcases h with⟨rfl,_⟩|⟨g,rfl,A⟩
 ·cases e
 cases e;exact A.lt
theorem eG.fW {w:κ}{r:aC}{m md wk pl:Value}(h:eG w r m md wk pl){k:Nat}(e:LB m md wk pl k):k<w.heap.size:=by
 rcases e with e|e|e|e
 ·exact h.ms.fW e
 ·exact h.mds.fW e
 ·exact h.wks.fW e
 exact h.pls.fW e
theorem JW {r:aC}(h:eu r)(s:Int):eu (aS r s):=by
 unfold aS;split
 ·exact h
 split
 ·exact{h with wks:=(by simp),ord:=(by intro p J;simp at J;subst J;simp)}
 split
 ·exact{h with mds:=(by simp)}
 split
 ·split
  ·exact{h with mds:=(by simp),ms:=(by simp)}
  exact{h with mds:=(by simp)}
 exact h
def JY (w:κ)(r:aC)(s:Int)(tx:ByteArray)(m md wk pl:Value):Ο->κ->Prop:=λe Y=>
 ∃m' fX fY,e=δ (bC (aS r s).fq (aS r s).iv (aS r s).ct (aS r s).un m' fX fY pl (aS r s).ws tx)/\eG Y (aS r s) m' fX fY pl/\Below w.heap.size w Y/\(∀k,LB m' fX fY pl k->LB m md wk pl k\/w.heap.size<=k)
theorem Ie (r:aC)(m md wk pl:Value)(tx:ByteArray)(s:Int)(w:κ)(N:eG w r m md wk pl)(ho:eu r)(s0:0<=s)(s1:s<=84010):
 Α prog 314 #[bC r.fq r.iv r.ct r.un m md wk pl r.ws tx,aW s] w (JY w r s tx m md wk pl):=by
 have kD:=ho.Wg;have VN:=ho.Wh;obtain⟨a1,e1⟩:=N.ms.form;obtain⟨a2,e2⟩:=N.mds.form;obtain⟨a3,e3⟩:=N.wks.form;obtain⟨a4,e4⟩:=N.pls.form;have hD:Ν (∀W,Α prog 339 #[aW s] W λe Y=>e=δ (V Z ((s+719470)%7))/\Below W.heap.size W Y):=H λW=>Bs s W (by omega) (by omega);have fin:∀(m' fX fY:Value) (r':aC) (e:Ο) (W':κ),aS r s=r'->e=δ (bC r'.fq r'.iv r'.ct r'.un m' fX fY pl r'.ws tx)->eG W' r' m' fX fY pl->Below w.heap.size w W'->(∀k,LB m' fX fY pl k->LB m md wk pl k\/w.heap.size<=k)->JY w r s tx m md wk pl e W':=
  λm' fX fY r' e W' G A K h4 h5=>⟨m',fX,fY,by rw[G];exact A,by rw[G];exact K,h4,h5⟩
 have hA:Ν (∀(h:0<r.mds.length\/0<r.wks.length\/r.fq=0) (e:Ο) (W':κ),e=δ (bC r.fq r.iv r.ct r.un m md wk pl r.ws tx)->Below w.heap.size w W'->JY w r s tx m md wk pl e W'):=H λh e W' he U=>
  fin m md wk r e W' (by unfold aS;split;rfl;rw[if_neg (by omega),if_neg (by omega),if_neg (by omega)]) he (N.on U) U λk I=>.inl I
 have G:Ν (r.mds.length=0->r.wks.length=0->r.fq=1->∀(g:Nat) (e:Ο) (W':κ),w.heap.size<=g->M W' g [V Z 0,V Z ((s+719470)%7)] 183->e=δ (bC r.fq r.iv r.ct r.un m md (η (some ⟨g,0,none⟩) 1 1) pl r.ws tx)->Below w.heap.size w W'->JY w r s tx m md wk pl e W'):=H λh h' hq g e W' hg aB he U=>
  fin m md (η (some ⟨g,0,none⟩) 1 1) {r with wks:=[(0,(s+719470)%7)]} e W' (by unfold aS;rw[if_neg (by omega),if_pos hq]) he ⟨N.ms.on U,N.mds.on U,.inr ⟨g,rfl,aB⟩,N.pls.on U⟩ U λk I=>by
   rcases I with I|I|I|I
   ·exact .inl (.inl I)
   ·exact .inl (.inr (.inl I))
   ·cases I;exact .inr hg
   exact .inl (.inr (.inr (.inr I)))
 have A:Ν (r.mds.length=0->r.wks.length=0->(r.fq=2\/r.fq=3/\r.ms.length≠0)->∀(g:Nat) (e:Ο) (W':κ),w.heap.size<=g->M W' g [V Z (ag.aA s)] 3->e=δ (bC r.fq r.iv r.ct r.un m (η (some ⟨g,0,none⟩) 1 1) wk pl r.ws tx)->Below w.heap.size w W'->JY w r s tx m md wk pl e W'):=H λh h' hq g e W' hg aB he U=>
  fin m (η (some ⟨g,0,none⟩) 1 1) wk {r with mds:=[ag.aA s]} e W' (by
   unfold aS;rw[if_neg (by omega),if_neg (by omega)];rcases hq with hq|⟨hq,hn⟩
   ·rw[if_pos hq]
   ·rw[if_neg (by omega),if_pos hq,if_neg hn]) he ⟨N.ms.on U,.inr ⟨g,rfl,aB⟩,N.wks.on U,N.pls.on U⟩ U λk I=>by
   rcases I with I|I|I|I
   ·exact .inl (.inl I)
   ·cases I;exact .inr hg
   ·exact .inl (.inr (.inr (.inl I)))
   exact .inl (.inr (.inr (.inr I)))
 have K:Ν (r.mds.length=0->r.wks.length=0->r.fq=3->r.ms.length=0->∀(g g':Nat) (e:Ο) (W':κ),w.heap.size<=g->w.heap.size<=g'->M W' g [V Z (ag.aA s)] 3->M W' g' [V Z (ag.ofM s)] 3->e=δ (bC r.fq r.iv r.ct r.un (η (some ⟨g',0,none⟩) 1 1) (η (some ⟨g,0,none⟩) 1 1) wk pl r.ws tx)->Below w.heap.size w W'->JY w r s tx m md wk pl e W'):=H λh h' hq hn g g' e W' hg LD aB tM he U=>
  fin (η (some ⟨g',0,none⟩) 1 1) (η (some ⟨g,0,none⟩) 1 1) wk {r with mds:=[ag.aA s],ms:=[ag.ofM s]} e W' (by
   unfold aS;rw[if_neg (by omega),if_neg (by omega),if_neg (by omega),if_pos hq,if_pos hn]) he ⟨.inr ⟨g',rfl,tM⟩,.inr ⟨g,rfl,aB⟩,N.wks.on U,N.pls.on U⟩ U λk I=>by
   rcases I with I|I|I|I
   ·cases I;exact .inr LD
   ·cases I;exact .inr hg
   ·exact .inl (.inr (.inr (.inl I)))
   exact .inl (.inr (.inr (.inr I)))
 clear fin N ho;generalize JY w r s tx m md wk pl=Q at *
 generalize r.ms.length=n1 at *
 generalize r.mds.length=n2 at *
 generalize r.wks.length=n3 at *
 generalize r.pls.length=n4 at *
 generalize r.fq=fq at *
 generalize r.iv=iv at *
 generalize r.ct=ct at *
 generalize r.un=un at *
 generalize r.ws=ws at *
 subst e1 e2 e3 e4;unfold aW cS bC at *
 have PG:0<=(s+719470)%7/\(s+719470)%7<=6:=by omega
 generalize(s+719470)%7=wd at *
 have r0:=lL w [V Z fq,V Z iv,V Z ct,V Z un,η a1 n1 n1,η a2 n2 n2,η a3 n3 n3,η a4 n4 n4,V Z ws,θ tx] 76 (ι #[V Z (ag.aq s),V Z (ag.ofM s),V Z (ag.aA s)] 106) (ι #[V Z 0,V Z 0,V Z 0,V Z 0,η none 0 0,η none 0 0,η none 0 0,η none 0 0,V Z 0,θ ⟨#[]⟩] 76);have r1:=lM w (ι #[V Z fq,V Z iv,V Z ct,V Z un,η a1 n1 n1,η a2 n2 n2,η a3 n3 n3,η a4 n4 n4,V Z ws,θ tx] 76) [V Z (ag.aq s),V Z (ag.ofM s),V Z (ag.aA s)] 106 (ι #[V Z 0,V Z 0,V Z 0,V Z 0,η none 0 0,η none 0 0,η none 0 0,η none 0 0,V Z 0,θ ⟨#[]⟩] 76);have r2:=lN w (ι #[V Z fq,V Z iv,V Z ct,V Z un,η a1 n1 n1,η a2 n2 n2,η a3 n3 n3,η a4 n4 n4,V Z ws,θ tx] 76) (ι #[V Z (ag.aq s),V Z (ag.ofM s),V Z (ag.aA s)] 106) [V Z 0,V Z 0,V Z 0,V Z 0,η none 0 0,η none 0 0,η none 0 0,η none 0 0,V Z 0,θ ⟨#[]⟩] 76;have al:=iD w (ι #[V Z fq,V Z iv,V Z ct,V Z un,η a1 n1 n1,η a2 n2 n2,η a3 n3 n3,η a4 n4 n4,V Z ws,θ tx] 76) (ι #[V Z (ag.aq s),V Z (ag.ofM s),V Z (ag.aA s)] 106) (ι #[V Z 0,V Z 0,V Z 0,V Z 0,η none 0 0,η none 0 0,η none 0 0,η none 0 0,V Z 0,θ ⟨#[]⟩] 76);have bp:(((w.alloc (ι #[V Z fq,V Z iv,V Z ct,V Z un,η a1 n1 n1,η a2 n2 n2,η a3 n3 n3,η a4 n4 n4,V Z ws,θ tx] 76)).alloc (ι #[V Z (ag.aq s),V Z (ag.ofM s),V Z (ag.aA s)] 106)).alloc (ι #[V Z 0,V Z 0,V Z 0,V Z 0,η none 0 0,η none 0 0,η none 0 0,η none 0 0,V Z 0,θ ⟨#[]⟩] 76)).heap.size>=w.heap.size+3:=by simp
 go_enter func314,ntmps314;go_upto_region 1 with fail;generalize((w.alloc (ι #[V Z fq,V Z iv,V Z ct,V Z un,η a1 n1 n1,η a2 n2 n2,η a3 n3 n3,η a4 n4 n4,V Z ws,θ tx] 76)).alloc (ι #[V Z (ag.aq s),V Z (ag.ofM s),V Z (ag.aA s)] 106)).alloc (ι #[V Z 0,V Z 0,V Z 0,V Z 0,η none 0 0,η none 0 0,η none 0 0,η none 0 0,V Z 0,θ ⟨#[]⟩] 76)=W at *
 by_cases hmd:0<n2
 ·have Wx:=H (hA.out (.inl hmd));clear hA G A K hD;have arp:(0:Int)<n2:=by omega
  have sP:=r0;have bS:=r2;have o8:=al;clear r0 r1 r2;obtain⟨g0,g1,g2,g3,g4,g5,g6,g7,g8,g9⟩:=bZ sP;obtain⟨z0,z1,z2,z3,z4,z5,z6,z7,z8,z9⟩:=bZ bS;have y0:=bS.free (k:=0);have y1:=bS.free (k:=1);have y2:=bS.free (k:=2);have y3:=bS.free (k:=3);have y4:=bS.free (k:=4);have y5:=bS.free (k:=5);have y6:=bS.free (k:=6);have y7:=bS.free (k:=7);have y8:=bS.free (k:=8);have y9:=bS.free (k:=9);go_wp2_with fail;exact bodyPost_ret (v:=.agg #[V Z fq,V Z iv,V Z ct,V Z un,η a1 n1 n1,η a2 n2 n2,η a3 n3 n3,η a4 n4 n4,V Z ws,θ tx]) (by simp[results,results314,go_sem,z0,z1,z2,z3,z4,z5,z6,z7,z8,z9]) rfl (Wx.out _ _ rfl ((((((((((o8.setCell (by simp;omega) _).setCell (by simp;omega) _).setCell (by simp;omega) _).setCell (by simp;omega) _).setCell (by simp;omega) _).setCell (by simp;omega) _).setCell (by simp;omega) _).setCell (by simp;omega) _).setCell (by simp;omega) _).setCell (by simp;omega) _))
 obtain rfl:n2=0:=by omega
 clear hmd;by_cases Nl:0<n3
 ·have Wx:=H (hA.out (.inr (.inl Nl)));clear hA G A K hD;have arq:(0:Int)<n3:=by omega
  have sP:=r0;have bS:=r2;have o8:=al;clear r0 r1 r2;obtain⟨g0,g1,g2,g3,g4,g5,g6,g7,g8,g9⟩:=bZ sP;obtain⟨z0,z1,z2,z3,z4,z5,z6,z7,z8,z9⟩:=bZ bS;have y0:=bS.free (k:=0);have y1:=bS.free (k:=1);have y2:=bS.free (k:=2);have y3:=bS.free (k:=3);have y4:=bS.free (k:=4);have y5:=bS.free (k:=5);have y6:=bS.free (k:=6);have y7:=bS.free (k:=7);have y8:=bS.free (k:=8);have y9:=bS.free (k:=9);go_wp2_with fail;exact bodyPost_ret (v:=.agg #[V Z fq,V Z iv,V Z ct,V Z un,η a1 n1 n1,η a2 0 0,η a3 n3 n3,η a4 n4 n4,V Z ws,θ tx]) (by simp[results,results314,go_sem,z0,z1,z2,z3,z4,z5,z6,z7,z8,z9]) rfl (Wx.out _ _ rfl ((((((((((o8.setCell (by simp;omega) _).setCell (by simp;omega) _).setCell (by simp;omega) _).setCell (by simp;omega) _).setCell (by simp;omega) _).setCell (by simp;omega) _).setCell (by simp;omega) _).setCell (by simp;omega) _).setCell (by simp;omega) _).setCell (by simp;omega) _))
 obtain rfl:n3=0:=by omega
 clear Nl;rcases(by omega:fq=0\/fq=1\/fq=2\/fq=3)with rfl|rfl|rfl|rfl
 ·have Wx:=H (hA.out (.inr (.inr rfl)));clear hA G A K hD;have sP:=r0;have bS:=r2;have o8:=al;clear r0 r1 r2;obtain⟨g0,g1,g2,g3,g4,g5,g6,g7,g8,g9⟩:=bZ sP;obtain⟨z0,z1,z2,z3,z4,z5,z6,z7,z8,z9⟩:=bZ bS;have y0:=bS.free (k:=0);have y1:=bS.free (k:=1);have y2:=bS.free (k:=2);have y3:=bS.free (k:=3);have y4:=bS.free (k:=4);have y5:=bS.free (k:=5);have y6:=bS.free (k:=6);have y7:=bS.free (k:=7);have y8:=bS.free (k:=8);have y9:=bS.free (k:=9);go_wp2_with fail;exact bodyPost_ret (v:=.agg #[V Z 0,V Z iv,V Z ct,V Z un,η a1 n1 n1,η a2 0 0,η a3 0 0,η a4 n4 n4,V Z ws,θ tx]) (by simp[results,results314,go_sem,z0,z1,z2,z3,z4,z5,z6,z7,z8,z9]) rfl (Wx.out _ _ rfl ((((((((((o8.setCell (by simp;omega) _).setCell (by simp;omega) _).setCell (by simp;omega) _).setCell (by simp;omega) _).setCell (by simp;omega) _).setCell (by simp;omega) _).setCell (by simp;omega) _).setCell (by simp;omega) _).setCell (by simp;omega) _).setCell (by simp;omega) _))
 ·have tf:=H (G.out rfl rfl rfl);clear hA G A K;obtain⟨g0,g1,g2,g3,g4,g5,g6,g7,g8,g9⟩:=bZ r0;obtain⟨c0,c1,c2,_,_,_⟩:=bW r1;go_wp2_with fail;refine(hD.out _).mono ?_;rintro e w3 ⟨rfl,aR⟩;replace r0:=r0.on aR;replace r2:=r2.on aR;replace al:=al.trans (aR.mono al.size);replace bp:w.heap.size+3<=w3.heap.size:=by have:=aR.size;omega
  clear aR g0 g1 g2 g3 g4 g5 g6 g7 g8 g9 c0 c1 c2 r1;have cE:Below w3.heap.size w3 (w3.alloc (ι #[V Z 0,V Z wd] 183)):=(ν _ _).alloc (μ _) _;have rN:M (w3.alloc (ι #[V Z 0,V Z wd] 183)) w3.heap.size [V Z 0,V Z wd] 183:=M.new w3 [V Z 0,V Z wd] 183;replace r0:=r0.on cE;replace r2:=r2.on cE;replace al:=al.trans (cE.mono al.size);have c6:=r0.cell (k:=6) rfl;have f6:=r0.free (k:=6);go_upto_region 12 with fail;clear c6 f6;have sP:M ((w3.alloc (ι #[V Z 0,V Z wd] 183)).setCell ⟨w.heap.size,6,none⟩ (η (some ⟨w3.heap.size,0,none⟩) 1 1)) w.heap.size [V Z 1,V Z iv,V Z ct,V Z un,η a1 n1 n1,η a2 0 0,η (some ⟨w3.heap.size,0,none⟩) 1 1,η a4 n4 n4,V Z ws,θ tx] 76:=r0.set (k:=6) _;have bS:=r2.other (b:=w.heap.size) (k:=6) (by omega) (η (some ⟨w3.heap.size,0,none⟩) 1 1);have Dg:=rN.other (b:=w.heap.size) (k:=6) (by omega) (η (some ⟨w3.heap.size,0,none⟩) 1 1);have o8:=al.setCell (p:=⟨w.heap.size,6,none⟩) (μ _) (η (some ⟨w3.heap.size,0,none⟩) 1 1);generalize(w3.alloc (ι #[V Z 0,V Z wd] 183)).setCell ⟨w.heap.size,6,none⟩ (η (some ⟨w3.heap.size,0,none⟩) 1 1)=WZ at *
  clear r0 r2 rN al cE;obtain⟨g0,g1,g2,g3,g4,g5,g6,g7,g8,g9⟩:=bZ sP;obtain⟨z0,z1,z2,z3,z4,z5,z6,z7,z8,z9⟩:=bZ bS;have y0:=bS.free (k:=0);have y1:=bS.free (k:=1);have y2:=bS.free (k:=2);have y3:=bS.free (k:=3);have y4:=bS.free (k:=4);have y5:=bS.free (k:=5);have y6:=bS.free (k:=6);have y7:=bS.free (k:=7);have y8:=bS.free (k:=8);have y9:=bS.free (k:=9);go_wp2_with fail;exact bodyPost_ret (v:=.agg #[V Z 1,V Z iv,V Z ct,V Z un,η a1 n1 n1,η a2 0 0,η (some ⟨w3.heap.size,0,none⟩) 1 1,η a4 n4 n4,V Z ws,θ tx]) (by simp[results,results314,go_sem,z0,z1,z2,z3,z4,z5,z6,z7,z8,z9]) rfl (tf.out _ _ _ (by omega) ((((((((((Dg.other (by omega) _).other (by omega) _).other (by omega) _).other (by omega) _).other (by omega) _).other (by omega) _).other (by omega) _).other (by omega) _).other (by omega) _).other (by omega) _) rfl ((((((((((o8.setCell (by simp;omega) _).setCell (by simp;omega) _).setCell (by simp;omega) _).setCell (by simp;omega) _).setCell (by simp;omega) _).setCell (by simp;omega) _).setCell (by simp;omega) _).setCell (by simp;omega) _).setCell (by simp;omega) _).setCell (by simp;omega) _))
 ·have uB:=H (A.out rfl rfl (.inl rfl));clear hA G A K hD;obtain⟨g0,g1,g2,g3,g4,g5,g6,g7,g8,g9⟩:=bZ r0;obtain⟨c0,c1,c2,_,_,_⟩:=bW r1;have cE:Below W.heap.size W (W.alloc (ι #[V Z (ag.aA s)] 3)):=(ν _ _).alloc (μ _) _;have rN:M (W.alloc (ι #[V Z (ag.aA s)] 3)) W.heap.size [V Z (ag.aA s)] 3:=M.new W [V Z (ag.aA s)] 3;have wc:=r0.on cE;have JZ:=r1.on cE;have J0:=r2.on cE;replace al:=al.trans (cE.mono al.size);have c6:=wc.cell (k:=5) rfl;have f6:=wc.free (k:=5);go_upto_region 12 with fail;clear c6 f6 g0 g1 g2 g3 g4 g5 g6 g7 g8 g9 c0 c1 c2 r0 r1 r2;have sP:M ((W.alloc (ι #[V Z (ag.aA s)] 3)).setCell ⟨w.heap.size,5,none⟩ (η (some ⟨W.heap.size,0,none⟩) 1 1)) w.heap.size [V Z 2,V Z iv,V Z ct,V Z un,η a1 n1 n1,η (some ⟨W.heap.size,0,none⟩) 1 1,η a3 0 0,η a4 n4 n4,V Z ws,θ tx] 76:=wc.set (k:=5) _;have rZ1:=JZ.other (b:=w.heap.size) (k:=5) (by omega) (η (some ⟨W.heap.size,0,none⟩) 1 1);have bS:=J0.other (b:=w.heap.size) (k:=5) (by omega) (η (some ⟨W.heap.size,0,none⟩) 1 1);have Dg:=rN.other (b:=w.heap.size) (k:=5) (by omega) (η (some ⟨W.heap.size,0,none⟩) 1 1);have o8:=al.setCell (p:=⟨w.heap.size,5,none⟩) (μ _) (η (some ⟨W.heap.size,0,none⟩) 1 1);have ahk:W.heap.size<((W.alloc (ι #[V Z (ag.aA s)] 3)).setCell ⟨w.heap.size,5,none⟩ (η (some ⟨W.heap.size,0,none⟩) 1 1)).heap.size:=by rw[Β];simp
  generalize(W.alloc (ι #[V Z (ag.aA s)] 3)).setCell ⟨w.heap.size,5,none⟩ (η (some ⟨W.heap.size,0,none⟩) 1 1)=WZ at *
  clear wc JZ J0 rN al cE;obtain⟨g0,g1,g2,g3,g4,g5,g6,g7,g8,g9⟩:=bZ sP;obtain⟨z0,z1,z2,z3,z4,z5,z6,z7,z8,z9⟩:=bZ bS;have y0:=bS.free (k:=0);have y1:=bS.free (k:=1);have y2:=bS.free (k:=2);have y3:=bS.free (k:=3);have y4:=bS.free (k:=4);have y5:=bS.free (k:=5);have y6:=bS.free (k:=6);have y7:=bS.free (k:=7);have y8:=bS.free (k:=8);have y9:=bS.free (k:=9);go_wp2_with fail;exact bodyPost_ret (v:=.agg #[V Z 2,V Z iv,V Z ct,V Z un,η a1 n1 n1,η (some ⟨W.heap.size,0,none⟩) 1 1,η a3 0 0,η a4 n4 n4,V Z ws,θ tx]) (by simp[results,results314,go_sem,z0,z1,z2,z3,z4,z5,z6,z7,z8,z9]) rfl (uB.out _ _ _ (by omega) ((((((((((Dg.other (by omega) _).other (by omega) _).other (by omega) _).other (by omega) _).other (by omega) _).other (by omega) _).other (by omega) _).other (by omega) _).other (by omega) _).other (by omega) _) rfl ((((((((((o8.setCell (by simp;omega) _).setCell (by simp;omega) _).setCell (by simp;omega) _).setCell (by simp;omega) _).setCell (by simp;omega) _).setCell (by simp;omega) _).setCell (by simp;omega) _).setCell (by simp;omega) _).setCell (by simp;omega) _).setCell (by simp;omega) _))
 by_cases zt:n1=0
 case neg=>
  have uB:=H (A.out rfl rfl (.inr ⟨rfl,zt⟩));clear hA G A K hD;have aeR:((n1:Int)==0)=false:=by simpa using zt
  obtain⟨g0,g1,g2,g3,g4,g5,g6,g7,g8,g9⟩:=bZ r0;obtain⟨c0,c1,c2,_,_,_⟩:=bW r1;have cE:Below W.heap.size W (W.alloc (ι #[V Z (ag.aA s)] 3)):=(ν _ _).alloc (μ _) _;have rN:M (W.alloc (ι #[V Z (ag.aA s)] 3)) W.heap.size [V Z (ag.aA s)] 3:=M.new W [V Z (ag.aA s)] 3;have wc:=r0.on cE;have JZ:=r1.on cE;have J0:=r2.on cE;replace al:=al.trans (cE.mono al.size);have c6:=wc.cell (k:=5) rfl;have f6:=wc.free (k:=5);go_upto_region 10 with fail;clear c6 f6 g0 g1 g2 g3 g4 g5 g6 g7 g8 g9 c0 c1 c2 r0 r1 r2;have sP:M ((W.alloc (ι #[V Z (ag.aA s)] 3)).setCell ⟨w.heap.size,5,none⟩ (η (some ⟨W.heap.size,0,none⟩) 1 1)) w.heap.size [V Z 3,V Z iv,V Z ct,V Z un,η a1 n1 n1,η (some ⟨W.heap.size,0,none⟩) 1 1,η a3 0 0,η a4 n4 n4,V Z ws,θ tx] 76:=wc.set (k:=5) _;have rZ1:=JZ.other (b:=w.heap.size) (k:=5) (by omega) (η (some ⟨W.heap.size,0,none⟩) 1 1);have bS:=J0.other (b:=w.heap.size) (k:=5) (by omega) (η (some ⟨W.heap.size,0,none⟩) 1 1);have Dg:=rN.other (b:=w.heap.size) (k:=5) (by omega) (η (some ⟨W.heap.size,0,none⟩) 1 1);have o8:=al.setCell (p:=⟨w.heap.size,5,none⟩) (μ _) (η (some ⟨W.heap.size,0,none⟩) 1 1);have ahk:W.heap.size<((W.alloc (ι #[V Z (ag.aA s)] 3)).setCell ⟨w.heap.size,5,none⟩ (η (some ⟨W.heap.size,0,none⟩) 1 1)).heap.size:=by rw[Β];simp
  generalize(W.alloc (ι #[V Z (ag.aA s)] 3)).setCell ⟨w.heap.size,5,none⟩ (η (some ⟨W.heap.size,0,none⟩) 1 1)=WZ at *
  clear wc JZ J0 rN al cE;obtain⟨g0,g1,g2,g3,g4,g5,g6,g7,g8,g9⟩:=bZ sP;obtain⟨z0,z1,z2,z3,z4,z5,z6,z7,z8,z9⟩:=bZ bS;have y0:=bS.free (k:=0);have y1:=bS.free (k:=1);have y2:=bS.free (k:=2);have y3:=bS.free (k:=3);have y4:=bS.free (k:=4);have y5:=bS.free (k:=5);have y6:=bS.free (k:=6);have y7:=bS.free (k:=7);have y8:=bS.free (k:=8);have y9:=bS.free (k:=9);go_wp2_with fail;exact bodyPost_ret (v:=.agg #[V Z 3,V Z iv,V Z ct,V Z un,η a1 n1 n1,η (some ⟨W.heap.size,0,none⟩) 1 1,η a3 0 0,η a4 n4 n4,V Z ws,θ tx]) (by simp[results,results314,go_sem,z0,z1,z2,z3,z4,z5,z6,z7,z8,z9]) rfl (uB.out _ _ _ (by omega) ((((((((((Dg.other (by omega) _).other (by omega) _).other (by omega) _).other (by omega) _).other (by omega) _).other (by omega) _).other (by omega) _).other (by omega) _).other (by omega) _).other (by omega) _) rfl ((((((((((o8.setCell (by simp;omega) _).setCell (by simp;omega) _).setCell (by simp;omega) _).setCell (by simp;omega) _).setCell (by simp;omega) _).setCell (by simp;omega) _).setCell (by simp;omega) _).setCell (by simp;omega) _).setCell (by simp;omega) _).setCell (by simp;omega) _))
 case pos=>
  have h3':=H (K.out rfl rfl rfl zt);clear hA G A K hD;subst zt;obtain⟨g0,g1,g2,g3,g4,g5,g6,g7,g8,g9⟩:=bZ r0;obtain⟨c0,c1,c2,_,_,_⟩:=bW r1;have cE:Below W.heap.size W (W.alloc (ι #[V Z (ag.aA s)] 3)):=(ν _ _).alloc (μ _) _;have rN:M (W.alloc (ι #[V Z (ag.aA s)] 3)) W.heap.size [V Z (ag.aA s)] 3:=M.new W [V Z (ag.aA s)] 3;have wc:=r0.on cE;have JZ:=r1.on cE;have J0:=r2.on cE;replace al:=al.trans (cE.mono al.size);have c6:=wc.cell (k:=5) rfl;have f6:=wc.free (k:=5);go_upto_region 10 with fail;clear c6 f6 g0 g1 g2 g3 g4 g5 g6 g7 g8 g9 c0 c1 c2 r0 r1 r2;have sP:M ((W.alloc (ι #[V Z (ag.aA s)] 3)).setCell ⟨w.heap.size,5,none⟩ (η (some ⟨W.heap.size,0,none⟩) 1 1)) w.heap.size [V Z 3,V Z iv,V Z ct,V Z un,η a1 0 0,η (some ⟨W.heap.size,0,none⟩) 1 1,η a3 0 0,η a4 n4 n4,V Z ws,θ tx] 76:=wc.set (k:=5) _;have rZ1:=JZ.other (b:=w.heap.size) (k:=5) (by omega) (η (some ⟨W.heap.size,0,none⟩) 1 1);have bS:=J0.other (b:=w.heap.size) (k:=5) (by omega) (η (some ⟨W.heap.size,0,none⟩) 1 1);have Dg:=rN.other (b:=w.heap.size) (k:=5) (by omega) (η (some ⟨W.heap.size,0,none⟩) 1 1);have o8:=al.setCell (p:=⟨w.heap.size,5,none⟩) (μ _) (η (some ⟨W.heap.size,0,none⟩) 1 1);have ahk:W.heap.size<((W.alloc (ι #[V Z (ag.aA s)] 3)).setCell ⟨w.heap.size,5,none⟩ (η (some ⟨W.heap.size,0,none⟩) 1 1)).heap.size:=by rw[Β];simp
  generalize(W.alloc (ι #[V Z (ag.aA s)] 3)).setCell ⟨w.heap.size,5,none⟩ (η (some ⟨W.heap.size,0,none⟩) 1 1)=WZ at *
  clear wc JZ J0 rN al cE;have vQ:Below WZ.heap.size WZ (WZ.alloc (ι #[V Z (ag.ofM s)] 3)):=(ν _ _).alloc (μ _) _;have rM:M (WZ.alloc (ι #[V Z (ag.ofM s)] 3)) WZ.heap.size [V Z (ag.ofM s)] 3:=M.new WZ [V Z (ag.ofM s)] 3;obtain⟨g0,g1,g2,g3,g4,g5,g6,g7,g8,g9⟩:=bZ sP;obtain⟨c0,c1,c2,_,_,_⟩:=bW rZ1;have r0b:=sP.on vQ;have r2b:=bS.on vQ;have rNb:=Dg.on vQ;have c6:=r0b.cell (k:=4) rfl;have f6:=r0b.free (k:=4);replace o8:=o8.trans (vQ.mono o8.size);go_upto_region 12 with fail;clear c6 f6 g0 g1 g2 g3 g4 g5 g6 g7 g8 g9 c0 c1 c2 sP rZ1 bS Dg;have sP:M ((WZ.alloc (ι #[V Z (ag.ofM s)] 3)).setCell ⟨w.heap.size,4,none⟩ (η (some ⟨WZ.heap.size,0,none⟩) 1 1)) w.heap.size [V Z 3,V Z iv,V Z ct,V Z un,η (some ⟨WZ.heap.size,0,none⟩) 1 1,η (some ⟨W.heap.size,0,none⟩) 1 1,η a3 0 0,η a4 n4 n4,V Z ws,θ tx] 76:=r0b.set (k:=4) _;have bS:=r2b.other (b:=w.heap.size) (k:=4) (by omega) (η (some ⟨WZ.heap.size,0,none⟩) 1 1);have Dg:=rNb.other (b:=w.heap.size) (k:=4) (by omega) (η (some ⟨WZ.heap.size,0,none⟩) 1 1);have rZM:=rM.other (b:=w.heap.size) (k:=4) (by omega) (η (some ⟨WZ.heap.size,0,none⟩) 1 1);replace o8:=o8.setCell (p:=⟨w.heap.size,4,none⟩) (μ _) (η (some ⟨WZ.heap.size,0,none⟩) 1 1);generalize(WZ.alloc (ι #[V Z (ag.ofM s)] 3)).setCell ⟨w.heap.size,4,none⟩ (η (some ⟨WZ.heap.size,0,none⟩) 1 1)=WY at *
  clear r0b r2b rNb rM vQ;obtain⟨g0,g1,g2,g3,g4,g5,g6,g7,g8,g9⟩:=bZ sP;obtain⟨z0,z1,z2,z3,z4,z5,z6,z7,z8,z9⟩:=bZ bS;have y0:=bS.free (k:=0);have y1:=bS.free (k:=1);have y2:=bS.free (k:=2);have y3:=bS.free (k:=3);have y4:=bS.free (k:=4);have y5:=bS.free (k:=5);have y6:=bS.free (k:=6);have y7:=bS.free (k:=7);have y8:=bS.free (k:=8);have y9:=bS.free (k:=9);go_wp2_with fail;exact bodyPost_ret (v:=.agg #[V Z 3,V Z iv,V Z ct,V Z un,η (some ⟨WZ.heap.size,0,none⟩) 1 1,η (some ⟨W.heap.size,0,none⟩) 1 1,η a3 0 0,η a4 n4 n4,V Z ws,θ tx]) (by simp[results,results314,go_sem,z0,z1,z2,z3,z4,z5,z6,z7,z8,z9]) rfl (h3'.out _ _ _ _ (by omega) (by omega) ((((((((((Dg.other (by omega) _).other (by omega) _).other (by omega) _).other (by omega) _).other (by omega) _).other (by omega) _).other (by omega) _).other (by omega) _).other (by omega) _).other (by omega) _) ((((((((((rZM.other (by omega) _).other (by omega) _).other (by omega) _).other (by omega) _).other (by omega) _).other (by omega) _).other (by omega) _).other (by omega) _).other (by omega) _).other (by omega) _) rfl ((((((((((o8.setCell (by simp;omega) _).setCell (by simp;omega) _).setCell (by simp;omega) _).setCell (by simp;omega) _).setCell (by simp;omega) _).setCell (by simp;omega) _).setCell (by simp;omega) _).setCell (by simp;omega) _).setCell (by simp;omega) _).setCell (by simp;omega) _))
end Go.Proofs.YthpndgcaoeokeaaGreatDoor
namespace Go.Proofs.YthpndgcaoeokeaaGreatDoor
open Tryz
open Go.RowKit Go.Sort
attribute [local go_sem] Oper.semAt_some
theorem Nx (pls:List Int)(len:Int):∀(i:Int) (l:List Int),(nT pls len i l).length<=l.length
 |_,[]=>μ _
 |i,d::l=>by
  rw[nT,υ,Θ];have:=Nx pls len (i+1) l;split<;>simp<;>omega
theorem Dh (r:aC)(a:Int)(n:Nat):(du r a n).length<=n:=by
 unfold du;have:=Ek r a n;split
 ·exact this
 exact Γ (Nx _ _ _ _) this
theorem bG (f:Ε):Fence.wide.fn f=True:=by simp[ξ]
theorem aV:(Fence.wide.depth=none)=True:=by simp[ξ]
attribute [local go_sem] bG aV
attribute [local simp] bG aV
structure St (O:aj)(W:κ)(atF:aP)(D:aj)(wr:κ):Prop where
 aL:ak O W wr
 dO:∀k,D k->O k\/W.heap.size<=k
 Od:∀k,O k->D k
 on:On D atF wr
theorem St.below {O:aj}{W:κ}{atF:aP}{D:aj}{wr Y:κ}(h:St O W atF D wr)(U:Below wr.heap.size wr Y):St O W atF D Y:=⟨h.aL.aM (ak.ar U),h.dO,h.Od,h.on.below U⟩
theorem St.alloc {O:aj}{W:κ}{atF:aP}{D:aj}{wr:κ}(h:St O W atF D wr)(o:Obj):St O W atF D (wr.alloc o):=h.below ((ν _ _).alloc (μ _) _)
theorem St.post {O:aj}{W:κ}{atF J':aP}{D:aj}{wr Y:κ}(h:St O W atF D wr)(J:aN D wr.heap.size J' wr Y):∃D',St O W J' D' Y/\(∀k,D' k->D k\/wr.heap.size<=k)/\ak D wr Y:=by
 obtain⟨X,D',d1,d2,d3⟩:=J;exact⟨D',⟨h.aL.trans X (λj hj=>h.dO j hj),λk I=>(d1 k I).elim (h.dO k) (λhh=>.inr (Γ h.aL.size hh)),λk I=>d2 k (h.Od k I),d3⟩,d1,X⟩
theorem St.fin {O:aj}{W:κ}{atF:aP}{D:aj}{wr:κ}(h:St O W atF D wr):aN O W.heap.size atF W wr:=⟨h.aL,D,h.dO,h.Od,h.on⟩
theorem St.lt {O:aj}{W:κ}{atF:aP}{D:aj}{wr:κ}(h:St O W atF D wr){k:Nat}(I:D k):k<wr.heap.size:=h.on.1 k I
theorem Wy (r:aC)(m md wk pl:Value)(tx:ByteArray)(s f last:Int)(bs br bf bl:Nat)(w:κ)(N:eG w r m md wk pl)(ho:eu r)(s0:0<=s)(s1:s<=7258118400)(f0:-1000000000000<=f)(f1:f<=7258118400)
 (l0:-1000000000000<=last)(l1:last<=7258118400)(q1:M w bs [V Z s] 3)(q2:M w br (bX r.fq r.iv r.ct r.un m md wk pl r.ws tx) 76)(q3:M w bf [V Z f] 3)(q4:M w bl [V Z last] 3):
 kX prog 340 #[ζ (some ⟨bs,0,none⟩),ζ (some ⟨br,0,none⟩),ζ (some ⟨bf,0,none⟩),ζ (some ⟨bl,0,none⟩)] (vk (jf r s f last)) (λk=>k=bs\/k=br\/k=bf\/k=bl\/LB m md wk pl k) w:=by
 intro l W O atF Js Jp bp hR hO cJ hY;have eI:=N.keep λk I=>hR k (.inr (.inr (.inr (.inr I))));replace q1:=q1.keep (hR bs (.inl rfl));replace q2:=q2.keep (hR br (.inr (.inl rfl)));replace q3:=q3.keep (hR bf (.inr (.inr (.inl rfl))));replace q4:=q4.keep (hR bl (.inr (.inr (.inr (.inl rfl)))));have J1:¬O bs:=λh=>hO bs h (.inl rfl);have Je:¬O br:=λh=>hO br h (.inr (.inl rfl));have UC:¬O bf:=λh=>hO bf h (.inr (.inr (.inl rfl)));have Pk:¬O bl:=λh=>hO bl h (.inr (.inr (.inr (.inl rfl))));have hlx:Ν (∀wr,ak O W wr->eG wr r m md wk pl):=H λwr X=>eI.keep λk I=>X.block k (eI.fW I) λh=>hO k h (.inr (.inr (.inr (.inr I))));have Wz:Ν (∀wr,Α prog 66 #[V Z s] wr λe Y=>e=δ (aW (s/86400))/\Below wr.heap.size wr Y):=H λwr=>qX s wr s0 s1;have hFD:Ν (∀wr,ak O W wr->Α prog 341 #[bC r.fq r.iv r.ct r.un m md wk pl r.ws tx,V Z s,V Z f] wr λe Y=>e=δ (V Z (fc r s f))/\Below wr.heap.size wr Y):=
  H λwr X=>Ga r m md wk pl tx s f wr (hlx.out wr X) ho s0 s1 f0 f1
 have hPR:Ν (∀k wr,ak O W wr->0<=k->k<=dG r->Α prog 342 #[bC r.fq r.iv r.ct r.un m md wk pl r.ws tx,aW (s/86400),V Z k] wr λe Y=>e=δ (dy (aX r (s/86400) k) (iW r (s/86400) k))/\Below wr.heap.size wr Y):=
  H λk wr X k0 k1=>ZO r m md wk pl tx (s/86400) k wr (hlx.out wr X) ho (by omega) (by omega) k0 k1
 have mW:=H λk k0 k1=>Wu r (s/86400) k (by omega) (by omega) k0 k1;have hBG:Ν (∀k wr,0<=k->k<=dG r->Α prog 64 #[aW (aX r (s/86400) k)] wr λe Y=>e=δ (V Z (aX r (s/86400) k*86400))/\Below wr.heap.size wr Y):=
  H λk wr k0 k1=>H0 _ wr (by have:=mW.out k k0 k1;omega) (by have:=mW.out k k0 k1;omega)
 have hCH:Ν (∀k wr,ak O W wr->0<=k->k<=dG r->Α prog 343 #[bC r.fq r.iv r.ct r.un m md wk pl r.ws tx,dy (aX r (s/86400) k) (iW r (s/86400) k)] wr λe Y=>∃v,e=δ v/\Y.ownsRow wr.heap.size 106 3 v (du r (aX r (s/86400) k) (gS r (s/86400) k)).length (jG (du r (aX r (s/86400) k) (gS r (s/86400) k)))/\Below wr.heap.size wr Y):=
  H λk wr X k0 k1=>by
   have U:=mW.out k k0 k1;have e:aX r (s/86400) k+(gS r (s/86400) k:Nat)=iW r (s/86400) k:=by unfold gS;omega
   have:=ZS r m md wk pl tx (aX r (s/86400) k) (gS r (s/86400) k) wr (hlx.out wr X) ho (by omega) (by omega) (by unfold gS;omega);rwa [e]at this
 have uE:=JU r ho s f s0 s1 f1;have I7:dG r<=200000:=by unfold dG;split<;>(try split)<;>(try split)<;>omega
 have Wl:=ho.F7;have QI:=ho.iv9;obtain⟨a1,e1⟩:=eI.ms.form;obtain⟨a2,e2⟩:=eI.mds.form;obtain⟨a3,e3⟩:=eI.wks.form;obtain⟨a4,e4⟩:=eI.pls.form;have hLL:Ν (jf r s f last=sO r (s/86400) last (dG r).toNat (fc r s f)):=H rfl;clear hR hO eI N ho hlx bp;generalize r.ms.length=n1 at *
 generalize r.mds.length=n2 at *
 generalize r.wks.length=n3 at *
 generalize r.pls.length=n4 at *
 subst e1 e2 e3 e4;unfold bC bX at *
 have Di:St O W (atF 0) O W:=⟨ak.refl _ _,λ_ h=>.inl h,λ_ h=>h,cJ⟩;have uy:=H (λ(i:Nat) (d:Int) (h:(jf r s f last)[i]?=some d)=>hY i _ (qZ h));clear hY cJ;rw[lF];generalize jf r s f last=XS at *
 have Ge:0<=s/86400/\s/86400<=84006:=by omega
 generalize s/86400=sd at *
 unfold aW cS dy at *
 refine callsIn_of_wp func340 rfl trivial ?_ rfl;simp only[ntmps340,Ρ,Θ,Χ,ώ,ύ,Μ,Λ,Τ,Ξ,Φ,Υ];have c1:=q1.cell (k:=0) rfl;gi_wp2_with fail;refine((callsIn_wide.2 (Wz.out _)).mono ?_);rintro e w1 ⟨rfl,au⟩;clear c1 Wz;replace Di:=Di.below au;have st1:=Di.alloc (ι #[V Z (ag.aq sd),V Z (ag.ofM sd),V Z (ag.aA sd)] 106);have r6:M (w1.alloc (ι #[V Z (ag.aq sd),V Z (ag.ofM sd),V Z (ag.aA sd)] 106)) w1.heap.size [V Z (ag.aq sd),V Z (ag.ofM sd),V Z (ag.aA sd)] 106:=M.new w1 [V Z (ag.aq sd),V Z (ag.ofM sd),V Z (ag.aA sd)] 106;have h6O:¬O w1.heap.size:=λh=>by have:=Di.lt h;omega
 have h6W:W.heap.size<=w1.heap.size:=Di.aL.size;have g2:=bZ (q2.aL st1.aL Je);have c1:=(q1.aL st1.aL J1).cell (k:=0) rfl;have c3:=(q3.aL st1.aL UC).cell (k:=0) rfl;obtain⟨z0,z1,z2,z3,z4,z5,z6,z7,z8,z9⟩:=g2;gi_wp2_with fail;refine((callsIn_wide.2 (hFD.out _ st1.aL)).mono ?_);rintro e w2 ⟨rfl,aO⟩;replace st1:=st1.below aO;replace r6:=r6.on aO;clear c1 c3 z0 z1 z2 z3 z4 z5 z6 z7 z8 z9 hFD aO au Di;generalize w1.heap.size=b6 at *
 generalize fc r s f=k0 at *
 have FU:prog.follows .mixedOrders=true:=by kernel_rfl
 gi_wp2_with fail;gi_loopg [7] (dG r).toNat (λg kv wr=>∃(k:Int) (pre:List Int) (D:aj),kv=V Z k/\0<=k/\k<=dG r/\dG r<=k+g/\St O W (atF pre.length) D wr/\¬D b6/\M wr b6 [V Z (ag.aq sd),V Z (ag.ofM sd),V Z (ag.aA sd)] 106/\Ν (XS=pre++sO r sd last g k))
 case atStart=>exact⟨k0,[],O,rfl,uE.1,by omega,by omega,st1,h6O,r6,H (by rw[hLL.out];rfl)⟩
 case round=>
  clear hLL st1 h6O r6 uE;obtain⟨k,pre,D,rfl,oa,Cu,hkg,st,QQ,r6,HX⟩:=hrel;obtain⟨z0,z1,z2,z3,z4,z5,z6,z7,z8,z9⟩:=bZ (q2.aL st.aL Je);obtain⟨c0,c1,c2,_,_,_⟩:=bW r6;gi_wp2_with fail;refine((callsIn_wide.2 (hPR.out k _ st.aL oa Cu)).mono ?_);rintro e w3 ⟨rfl,aR⟩;replace st:=st.below aR;replace r6:=r6.on aR;obtain⟨xR,hAB,hB4,hB3,hAk⟩:=mW.out k oa Cu;have ahn:=H (λwr=>hBG.out k wr oa Cu);have aho:=H (λwr X=>hCH.out k wr X oa Cu);have jh:Ν (last<aX r sd k*86400->XS=pre):=H λh=>by rw[HX.out,QP _ _ _ _ _ h,List.append_nil]
  have Ad:Ν (¬last<aX r sd k*86400->∃g',gk=g'+1/\XS=pre++(du r (aX r sd k) (gS r sd k)++sO r sd last g' (k+r.iv))):=H λh=>by
   have:k+100<=dG r:=hAk (by omega);obtain⟨g',rfl⟩:∃g',gk=g'+1:=⟨gk-1,by omega⟩;exact⟨g',rfl,by rw[HX.out,Ww _ _ _ _ _ h]⟩
  have xk:Ν (¬last<aX r sd k*86400->k+100<=dG r):=H λh=>hAk (by omega);have hpn:gS r sd k<=400:=by unfold gS;omega
  clear HX z0 z1 z2 z3 z4 z5 z6 z7 z8 z9 c0 c1 c2 aR hAk;generalize aX r sd k=atB at *
  generalize iW r sd k=B at *
  have r8:M (w3.alloc (ι #[V Z (ag.aq atB),V Z (ag.ofM atB),V Z (ag.aA atB),V Z (ag.aq B),V Z (ag.ofM B),V Z (ag.aA B)] 370)) w3.heap.size [V Z (ag.aq atB),V Z (ag.ofM atB),V Z (ag.aA atB),V Z (ag.aq B),V Z (ag.ofM B),V Z (ag.aA B)] 370:=M.new w3 [V Z (ag.aq atB),V Z (ag.ofM atB),V Z (ag.aA atB),V Z (ag.aq B),V Z (ag.ofM B),V Z (ag.aA B)] 370;have h8D:¬D w3.heap.size:=λh=>by have:=st.lt h;omega
  have cE:Below w3.heap.size w3 (w3.alloc (ι #[V Z (ag.aq atB),V Z (ag.ofM atB),V Z (ag.aA atB),V Z (ag.aq B),V Z (ag.ofM B),V Z (ag.aA B)] 370)):=(ν _ _).alloc (μ _) _;replace st:=st.below cE;replace r6:=r6.on cE;clear cE;gi_upto_region 4 with fail;generalize w3.alloc (ι #[V Z (ag.aq atB),V Z (ag.ofM atB),V Z (ag.aA atB),V Z (ag.aq B),V Z (ag.ofM B),V Z (ag.aA B)] 370)=w4 at *
  generalize w3.heap.size=b8 at *
  obtain⟨⟨z0,z1,z2,z3,z4,z5⟩,_,_,_,_,_,_⟩:=kg r8;have c4:=(q4.aL st.aL Pk).cell (k:=0) rfl;have i0:=cell_regrown z0;have i1:=cell_regrown z1;have i2:=cell_regrown z2;have i4:=cell_regrown c4;clear z0 z1 z2 z3 z4 z5 c4;refine wpIn_region_quiet_below rfl FU (by kernel_rfl) ?_;have cB:=λd os=>CallsIn.regrown_of (w:=w4) (d:=d) (os:=os) (callsIn_wide (n:=0).2 (ahn.out _))
  repeat(gi_big_quiet_step (first|exact⟨rfl,cB _ _⟩|exact cB _ _|exact⟨trivial,rfl,cB _ _⟩))
  clear cB i0 i1 i2 i4;refine wpQuietIn_nil ?_;intro _ dD;obtain⟨⟨dq,gT⟩,ga⟩:=dD;subst ga;have cP:=below_regrown w4 dq gT;replace st:=st.below cP;replace r6:=r6.on cP;replace r8:=r8.on cP;clear cP;generalize grow (redrawn w4 dq) gT=w5 at *
  by_cases ai3:last<atB*86400
  case pos=>
   have hX:=H (jh.out ai3);clear jh Ad xk;gi_wp2_with fail;refine bodyPost_ret (results_none rfl _ _ _) rfl ?_;rw[hX.out];exact .inl ⟨⟨_,rfl⟩,.inl st.fin⟩
  case neg=>
   have hX:=H (Ad.out (by omega));replace xk:=xk.out (by omega);clear jh Ad;obtain⟨z0,z1,z2,z3,z4,z5,z6,z7,z8,z9⟩:=bZ (q2.aL st.aL Je);obtain⟨⟨x0,x1,x2,x3,x4,x5⟩,_,_,_,_,_,_⟩:=kg r8;gi_wp2_with fail;refine((callsIn_wide.2 (aho.out _ st.aL)).mono ?_);rintro e w6 ⟨v,rfl,aU,cG⟩;have hv6:=H (λg hg=>(aU.lt g hg).1);have h5:Ν (∀k,D k->k<w5.heap.size):=H λk I=>st.lt I;replace st:=st.below cG;replace r6:=r6.on cG;clear z0 z1 z2 z3 z4 z5 z6 z7 z8 z9 x0 x1 x2 x3 x4 x5 cG r8 aho ahn;have hC4:(du r atB (gS r sd k)).length<=400:=Γ (Dh r atB (gS r sd k)) hpn;generalize du r atB (gS r sd k)=C at *
   obtain⟨av,cv,rfl⟩:=nZ aU;gi_wp2_with fail;have gg:∀g,(Value.slice av C.length cv).ownBlock=some g->¬D g:=λg hg h=>by have:=hv6.out g hg;have:=h5.out g h;omega
   clear hv6 h5;obtain⟨g',rfl,WG⟩:=hX.out;replace WG:=H WG;clear hX;gi_loopg [34] C.length (λq iv wr=>∃(i:Nat) (D:aj),iv=V Z i/\i+q=C.length/\St O W (atF (pre.length+i)) D wr/\¬D b6/\M wr b6 [V Z (ag.aq sd),V Z (ag.ofM sd),V Z (ag.aA sd)] 106/\wr.ownsRow w5.heap.size 106 3 (η av C.length cv) C.length (jG C)/\(∀g,(Value.slice av C.length cv).ownBlock=some g->¬D g))
   case atStart=>exact⟨0,D,rfl,by omega,st,QQ,r6,aU,gg⟩
   case round=>
    clear st QQ r6 aU gg;rename_i gk0 wr0 _ _;obtain⟨i,D,rfl,hiq,st,QQ,r6,aU,gg⟩:=hrel;by_cases S:i=C.length
    case pos=>
     have hX2:Ν (XS=(pre++C)++sO r sd last g' (k+r.iv)):=H (by rw[WG.out,List.append_assoc]);have sC:(pre++C).length=pre.length+C.length:=υ;obtain⟨z0,z1,z2,z3,z4,z5,z6,z7,z8,z9⟩:=bZ (q2.aL st.aL Je);clear WG;subst S;gi_wp2_with fail;gi_roundg g'
     case measure=>omega
     case rel=>exact⟨k+r.iv,pre++C,D,rfl,by omega,by omega,by omega,by rw[sC];exact st,QQ,r6,hX2⟩
    case neg=>
     have wW:i<C.length:=by omega
     obtain⟨d,hd⟩:∃d,C[i]?=some d:=⟨_,Η wW⟩;have A4:XS[pre.length+i]?=some d:=by
      rw[WG.out,φ (by omega),ψ,List.getElem?_append_left wW];exact hd
     obtain⟨gv,cap,LX,hgB,M4,d0,d1,d2⟩:=QO aU hd;simp only[Value.slice.injEq]at LX;obtain⟨rfl,_,rfl⟩:=LX;have cE:Below wr.heap.size wr (wr.alloc (ι #[V Z (ag.aq d),V Z (ag.ofM d),V Z (ag.aA d)] 106)):=(ν _ _).alloc (μ _) _;have Cy:=st.below cE;obtain⟨f1,t1,a1,b1,gI,eE⟩:=uy.out (pre.length+i) d A4 _ D Cy.aL Cy.dO Cy.Od Cy.on;clear A4 hd;gi_wp2_with fail;refine eE.mono ?_;clear gI eE d0 d1 d2;have Mb:=gg gv rfl;have gV:=eO aU (Y:=wr.alloc (ι #[V Z (ag.aq d),V Z (ag.ofM d),V Z (ag.aA d)] 106)) λg hg=>cE.block g (aU.lt g hg).2;have r6':=r6.on cE;have ars:=(gV.lt gv rfl).2;have art:=r6'.lt;clear st aU r6 cE gg;generalize wr.alloc (ι #[V Z (ag.aq d),V Z (ag.ofM d),V Z (ag.aA d)] 106)=wq at *
     rintro e W1 (⟨rfl,J⟩|⟨rfl,J⟩|⟨c,rfl,J⟩)
     case inl=>
      obtain⟨D1,st1,d1,bz⟩:=Cy.post J;have r61:=r6'.aL bz QQ;have SC:=eO gV (Y:=W1) λg hg=>bz.block g (gV.lt g hg).2 (by cases hg;exact Mb);have h61:¬D1 b6:=λh=>(d1 _ h).elim QQ (by omega);have hv1:¬D1 gv:=λh=>(d1 _ h).elim Mb (by omega);clear J bz Cy gV r6';gi_wp2_with fail;gi_roundg (gk-1)
      case measure=>omega
      case rel=>exact⟨i+1,D1,by go_num,by omega,st1,h61,r61,SC,λg hg=>by cases hg;exact hv1⟩
     case inr.inl=>
      obtain⟨D1,st1,d1,bz⟩:=Cy.post J;gi_wp2_with fail;refine bodyPost_ret (results_none rfl _ _ _) rfl ?_;exact .inl ⟨⟨_,rfl⟩,.inr st1.fin⟩
     case inr.inr=>
      obtain⟨D1,st1,d1,bz⟩:=Cy.post J;gi_wp2_with fail;exact⟨rfl,.inr ⟨c,rfl,st1.fin⟩⟩
theorem ZU (fq iv ct un ws:Int)(m md wk pl:Value)(tx:ByteArray)(s f last:Int)(w:κ)(G:∃a n c,m=η a n c)(A:∃a n c,md=η a n c)(K:∃a n c,wk=η a n c)(h4:∃a n c,pl=η a n c):
 Α prog 315 #[bC fq iv ct un m md wk pl ws tx,V Z s,V Z f,V Z last] w λe Y=>
  e=δ (.func (.func 340) #[] #[ζ (some ⟨w.heap.size+1,0,none⟩),ζ (some ⟨w.heap.size,0,none⟩),ζ (some ⟨w.heap.size+2,0,none⟩),ζ (some ⟨w.heap.size+3,0,none⟩)])/\
  Y=(((w.alloc (ι (bX fq iv ct un m md wk pl ws tx).toArray 76)).alloc (ι #[V Z s] 3)).alloc (ι #[V Z f] 3)).alloc (ι #[V Z last] 3):=by
 obtain⟨a1,n1,c1,rfl⟩:=G;obtain⟨a2,n2,c2,rfl⟩:=A;obtain⟨a3,n3,c3,rfl⟩:=K;obtain⟨a4,n4,c4,rfl⟩:=h4;unfold bC bX;go_enter func315,ntmps315;go_wp2_with fail;go_ret;exact⟨rfl,rfl⟩
end Go.Proofs.YthpndgcaoeokeaaGreatDoor
namespace Go.Proofs.YthpndgcaoeokeaaGreatDoor
open Tryz
open Go.RowKit
structure JV (n0:Nat)(fix:List (Nat×Value))(W:κ)(a:Κ)(w:κ):Prop where
 size:a.tmps.size=n0
 defers:a.defers=[]
 fixed:∀p∈fix,a.eval (.tmp p.1)=p.2
 below:Below W.heap.size W w
def GV (σ:Nat->Nat)(atE:Nat->Value->κ->Prop)(i:Nat)(a:Κ)(w:κ):Prop:=atE i (a.eval (.tmp (σ i))) w
structure rO (σ:Nat->Nat)(fix:List (Nat×Value))(n0 n:Nat)(atE:Nat->Value->κ->Prop):Prop where
 lt:∀i,i<n->σ i<n0
 inj:∀i j,i<n->j<n->σ i=σ j->i=j
 off:∀p∈fix,∀i,i<n->p.1≠σ i
 grow:∀i v w Y,atE i v w->Below w.heap.size w Y->atE i v Y
theorem mz {σ:Nat->Nat}{fix:List (Nat×Value)}{n0:Nat}{atE:Nat->Value->κ->Prop}{W:κ}{a:Κ}{w Y:κ}{ops:Array Oper}{i:Nat}{v:Value}{dst:Option Nat}(atI:rO σ fix n0 ops.size atE)(hd:dst=some (σ i))(S:i<ops.size)
 (h:JV n0 fix W a w)(U:Below w.heap.size w Y)(hn:atE i v Y):
 JV n0 fix W (a.put dst v) Y/\GV σ atE i (a.put dst v) Y/\∀j oj,ops[j]?=some oj->j≠i->(∀e∈oj.after,Region.binds .any e=true->e.on≠i)->GV σ atE j a w->GV σ atE j (a.put dst v) Y:=by
 subst hd;have hs:σ i<a.tmps.size:=by rw[h.size];exact atI.lt i S
 refine⟨⟨by rw[gm];exact h.size,by rw[put_defers];exact h.defers,λp J=>by rw[cZ (atI.off p J i S)];exact h.fixed p J,h.below.trans (U.mono h.below.size)⟩,?_,λj oj jm fA _ hg=>?_⟩
 ·unfold GV;rw[gR hs];exact hn
 have hj:j<ops.size:=(Array.getElem?_eq_some_iff.1 jm).1;unfold GV at hg⊢;rw[cZ (λe=>fA (atI.inj j i hj S e))];exact atI.grow j _ w Y hg U
theorem aZ {σ:Nat->Nat}{fix:List (Nat×Value)}{n0:Nat}{atE:Nat->Value->κ->Prop}{W:κ}{a:Κ}{w:κ}{ops:Array Oper}{i:Nat}{v:Value}{dst:Option Nat}(atI:rO σ fix n0 ops.size atE)(h:JV n0 fix W a w)
 (hd:dst=some (σ i):=by exact rfl)(S:i<ops.size:=by decide)(hn:atE i v w:=by exact rfl):
 JV n0 fix W (a.put dst v) w/\GV σ atE i (a.put dst v) w/\∀j oj,ops[j]?=some oj->j≠i->(∀e∈oj.after,Region.binds .any e=true->e.on≠i)->GV σ atE j a w->GV σ atE j (a.put dst v) w:=mz atI hd S h (ν _ _) hn
theorem uF {P:τ}{Q:ϊ->Κ->κ->Prop}{o:Oper}{a:Κ}{w Y:κ}{atH:Κ->κ->Prop}{f:Ε}{args:Array Value}{v:Value}(h:(execOp a.eval o).run P w=.ok (.enter f args) Y)(hc:Α P f args Y λe az=>e=δ v/\Below Y.heap.size Y az)
 (G:∀az,Below Y.heap.size Y az->atH (a.put o.dst v) az):Oper.wp P o a w atH Q:=
 cM h hc (λv' az ⟨e,U⟩=>by cases e;exact G az U) (λc az ⟨e,_⟩=>by cases e) (λaz ⟨e,_⟩=>by cases e)
end Go.Proofs.YthpndgcaoeokeaaGreatDoor
