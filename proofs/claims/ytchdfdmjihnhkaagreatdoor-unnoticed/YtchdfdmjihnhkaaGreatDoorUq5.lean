import Derived.Test.YtchdfdmjihnhkaaGreatDoorUq4
import Derived.RangeFuncLeaves
import Derived.Sort.LoopGhostIn
import Derived.TacticsIn
import Derived.RegionIn
import Derived.Maps.OwnIn
import Derived.OwnWalkIn
set_option maxRecDepth 100000
set_option maxHeartbeats 8000000
open Go.IntKind renaming i64->Z
open Go.Value renaming int->V,slice->ζ,string->η
open Go.Ending renaming returned->δ,panicked->ε
open Go.Obj renaming cells->θ
open Go renaming World->ι,Calls->π,PanicEntry->ρ,Program->τ,Code->φ,TypeId->Α,FuncId->Η,Act->Θ,LoopState->Ι,Exit->Ν,Regrown->Ξ,Operand->Ο,Ending->Ϟ
open Nat renaming le_refl->κ,add_sub_cancel_left->Δ,le_trans->Τ,reduceSub->Ϝ,reduceAdd->ϝ
open Go.RowKit.Below renaming refl->μ,heap_setCell->Ψ,heap_alloc->ώ
open Go.StepsIn renaming trans->ν
open Go.Fence renaming wide->ξ
open Go.World renaming putObj_heap_other->ο,putObj_heap_same->Μ,alloc_heap_new->Ρ,ownsRow_nil->Ω,size_alloc->ϊ
open Go.Machine renaming fenced->υ
open List renaming length_append->χ,getElem?_append_right->ψ,drop_eq_getElem_cons->Β,getElem?_eq_getElem->Κ,any_cons->Λ,append_toArray->Χ,size_toArray->ϋ,push_toArray->ό,getElem?_map->ύ,length_cons->Ϗ,drop_length->ϗ,cons_append->Ϙ,nil_append->Ϛ,length_nil->ϛ
open Go.Code renaming rangeFunc->ω
open Go.Calls renaming regrown_of->Γ
open Go.RowKit renaming Hid->Ε
open Go.Exit renaming inBlock->Ζ
open Array renaming replicate_zero->Υ,replicate_succ->Φ,replicate->ϙ
namespace Go.Proofs.YtchdfdmjihnhkaaGreatDoor
open Tryz
open Go.RowKit Go.Sort
theorem Ye (n:Int)(h0:-10000<=n):cu (ag.au n) (ag.ofM n)=ag.num (ag.au n) (ag.ofM n) 1:=by
 obtain⟨a,b,c,d⟩:=ag.kU n (by omega);unfold cu;rw[show(ag.ofM n-1)/12=0 from by omega,show(ag.ofM n-1)%12+1=ag.ofM n from by omega,Int.add_zero]
theorem U1 (n:Int)(h0:-10000<=n):cu (ag.au n) (ag.ofM n+1)=ag.num (ag.au n) (ag.ofM n) 1+ag.md (ag.au n) (ag.ofM n):=by
 obtain⟨a,b,c,d⟩:=ag.kU n (by omega);unfold cu;by_cases h:ag.ofM n=12
 ·rw[h,show(12+1-1:Int)/12=1 from rfl,show(12+1-1:Int)%12+1=1 from rfl,ag.acw];exact ag.AW _
 rw[show(ag.ofM n+1-1)/12=0 from by omega,show(ag.ofM n+1-1)%12+1=ag.ofM n+1 from by omega,Int.add_zero];exact ag.rn _ _ a (by omega)
theorem jm (n:Int)(h0:-10000<=n):cu (ag.au n) (ag.ofM n)<=n/\n<cu (ag.au n) (ag.ofM n+1)/\cu (ag.au n) (ag.ofM n+1)<=n+400/\n-400<=cu (ag.au n) (ag.ofM n):=by
 obtain⟨a,b,c,d⟩:=ag.kU n (by omega);have e:=ag.oU n (by omega);have S:=ag.ot (ag.au n) (ag.ofM n) (ag.aA n);have e2:=ag.sU (ag.au n) (ag.ofM n);rw[Ye n h0,U1 n h0];omega
theorem nP (n:Int)(h0:-10000<=n):ag.num (ag.au n) 1 1<=n/\n<ag.num (ag.au n+1) 1 1/\ag.num (ag.au n+1) 1 1<=n+400/\n-400<=ag.num (ag.au n) 1 1:=by
 have h:=ag.wv (ag.kU n (by omega));rw[ag.oU n (by omega)]at h;have A:=ag.tF (ag.au n);have M:ag.yd (ag.au n)<=366:=by unfold ag.yd;split<;>omega
 omega
def Mw (r:aE)(n:Int):Int:=if r.fq=3/\r.ms.length=0 then ag.num (ag.au n) 1 1 else cu (ag.au n) (ag.ofM n)
def Mz (r:aE)(n:Int):Int:=if r.fq=3/\r.ms.length=0 then ag.num (ag.au n+1) 1 1 else cu (ag.au n) (ag.ofM n+1)
def gH (r:aE)(n o:Int):Bool:=if 0<o then(n-Mw r n)/7==o-1 else(Mz r n-1-n)/7==-o-1
theorem am1 (r:aE)(n:Int)(h0:-10000<=n):Mw r n<=n/\n<Mz r n/\Mz r n<=n+400/\n-400<=Mw r n:=by
 unfold Mw Mz;split
 ·exact nP n h0
 exact jm n h0
theorem ca {w:ι}{g:Nat}{a b c d m md wk pl s t:Value}{T:Α}(h:X w g [a,b,c,d,m,md,wk,pl,s,t] T):
 w.cell? ⟨g,0,none⟩=some a/\w.cell? ⟨g,1,none⟩=some b/\w.cell? ⟨g,2,none⟩=some c/\w.cell? ⟨g,3,none⟩=some d/\w.cell? ⟨g,4,none⟩=some m/\w.cell? ⟨g,5,none⟩=some md/\w.cell? ⟨g,6,none⟩=some wk/\w.cell? ⟨g,7,none⟩=some pl/\w.cell? ⟨g,8,none⟩=some s/\w.cell? ⟨g,9,none⟩=some t:=
 ⟨h.cell rfl,h.cell rfl,h.cell rfl,h.cell rfl,h.cell rfl,h.cell rfl,h.cell rfl,h.cell rfl,h.cell rfl,h.cell rfl⟩
theorem mu (w:ι)(a b:Obj):Below w.heap.size w ((w.alloc a).alloc b):=((μ _ _).alloc (κ _) _).alloc (by simp) _
theorem kC (w:ι)(cs:List Value)(t:Α)(o:Obj):X ((w.alloc (θ cs.toArray t)).alloc o) w.heap.size cs t:=(X.new w cs t).on ((μ _ _).alloc (κ _) _)
theorem kD (w:ι)(cs:List Value)(t:Α)(o:Obj):X ((w.alloc o).alloc (θ cs.toArray t)) (w.heap.size+1) cs t:=by
 have:=X.new (w.alloc o) cs t;simpa using this
theorem RH (r:aE)(m md wk pl:Value)(tx:ByteArray)(n o:Int)(w:ι)(K:eE w r m md wk pl)(ho:ei r)(h0:-10000<=n)(G:n<=300000)(o0:-53<=o)(o1:o<=53):
 π prog 279 #[bG r.fq r.iv r.ct r.un m md wk pl r.ws tx,aZ n,V Z o] w λe I=>e=δ (.bool (gH r n o))/\Below w.heap.size w I:=by
 obtain⟨am,em⟩:=K.ms.form;have hq:=ho.ms;have kh:=ho.UY;have Uq:=ho.UZ;clear K ho;have hr:=lh n (by omega) (by omega);have hy:=tC n h0 G;have hma:=jm n h0;have hya:=nP n h0;have hM:Ε (∀W,π prog 264 #[V Z (ag.au n),V Z (ag.ofM n)] W λe I=>e=δ (dt (cu (ag.au n) (ag.ofM n)) (cu (ag.au n) (ag.ofM n+1)))/\Below W.heap.size W I):=H λW=>GU _ _ W (by omega) (by omega) (by omega) (by omega);have hY:Ε (∀W,π prog 265 #[V Z (ag.au n)] W λe I=>e=δ (dt (ag.num (ag.au n) 1 1) (ag.num (ag.au n+1) 1 1))/\Below W.heap.size W I):=H λW=>UX _ W (by omega) (by omega);have uM:Ε (∀a W,n-400<=a->a<=n->π prog 271 #[aZ a,aZ n] W λe I=>e=δ (V Z (n-a))/\Below W.heap.size W I):=H λa W a0 a1=>RG a n W (by omega) (by omega) (by omega) (by omega);have hT2:Ε (∀b W,b<=n+400->n<b->π prog 271 #[aZ n,aZ (b-1)] W λe I=>e=δ (V Z (b-1-n))/\Below W.heap.size W I):=H λb W a0 a1=>RG n (b-1) W (by omega) (by omega) (by omega) (by omega);have hP:Ε (∀b W,b<=n+400->n<b->π prog 262 #[aZ b,V Z (-1)] W λe I=>e=δ (aZ (b-1))/\Below W.heap.size W I):=H λb W a0 a1=>by
  have:=xm b (-1) W (by omega) (by omega) (by omega) (by omega);rwa [show b+-1=b-1 from by omega]at this
 unfold aZ cV dt at *
 have p1:r.fq≠3->0<o->gH r n o=((n-cu (ag.au n) (ag.ofM n))/7==o-1):=λa b=>by
  unfold gH Mw;rw[if_pos b,if_neg (λh=>a h.1)]
 have p2:r.fq≠3->¬0<o->gH r n o=((cu (ag.au n) (ag.ofM n+1)-1-n)/7==-o-1):=λa b=>by
  unfold gH Mz;rw[if_neg b,if_neg (λh=>a h.1)]
 have p3:r.ms.length≠0->0<o->gH r n o=((n-cu (ag.au n) (ag.ofM n))/7==o-1):=λa b=>by
  unfold gH Mw;rw[if_pos b,if_neg (λh=>a h.2)]
 have p4:r.ms.length≠0->¬0<o->gH r n o=((cu (ag.au n) (ag.ofM n+1)-1-n)/7==-o-1):=λa b=>by
  unfold gH Mz;rw[if_neg b,if_neg (λh=>a h.2)]
 have p5:r.fq=3->r.ms.length=0->0<o->gH r n o=((n-ag.num (ag.au n) 1 1)/7==o-1):=λa c b=>by
  unfold gH Mw;rw[if_pos b,if_pos ⟨a,c⟩]
 have p6:r.fq=3->r.ms.length=0->¬0<o->gH r n o=((ag.num (ag.au n+1) 1 1-1-n)/7==-o-1):=λa c b=>by
  unfold gH Mz;rw[if_neg b,if_pos ⟨a,c⟩]
 generalize gH r n o=PB at *
 replace p1:=H p1;replace p2:=H p2;replace p3:=H p3;replace p4:=H p4;replace p5:=H p5;replace p6:=H p6;unfold bG;subst em;generalize ag.num (ag.au n) 1 1=ya at *
 generalize ag.num (ag.au n+1) 1 1=yb at *
 generalize cu (ag.au n) (ag.ofM n)=ma at *
 generalize cu (ag.au n) (ag.ofM n+1)=mb at *
 generalize hL:r.ms.length=L at *
 clear hL;go_enter func279,ntmps279;go_wp2_with fail;have r0:=kC w [V Z r.fq,V Z r.iv,V Z r.ct,V Z r.un,ζ am L L,md,wk,pl,V Z r.ws,η tx] 96 (θ #[V Z (ag.au n),V Z (ag.ofM n),V Z (ag.aA n)] 88);have r1:=kD w [V Z (ag.au n),V Z (ag.ofM n),V Z (ag.aA n)] 88 (θ #[V Z r.fq,V Z r.iv,V Z r.ct,V Z r.un,ζ am L L,md,wk,pl,V Z r.ws,η tx] 96);have al:=mu w (θ #[V Z r.fq,V Z r.iv,V Z r.ct,V Z r.un,ζ am L L,md,wk,pl,V Z r.ws,η tx] 96) (θ #[V Z (ag.au n),V Z (ag.ofM n),V Z (ag.aA n)] 88);refine(hM.out _).mono ?_;rintro e w1 ⟨rfl,ay⟩;replace r0:=r0.on ay;replace r1:=r1.on ay;replace al:=al.trans (ay.mono al.size);have hz:w.heap.size+2<=w1.heap.size:=by have:=ay.size;simpa using this
 clear ay;have ra:=X.new w1 [V Z (ag.au ma),V Z (ag.ofM ma),V Z (ag.aA ma),V Z (ag.au mb),V Z (ag.ofM mb),V Z (ag.aA mb)] 277;have ba:Below w1.heap.size w1 (w1.alloc (θ #[V Z (ag.au ma),V Z (ag.ofM ma),V Z (ag.aA ma),V Z (ag.au mb),V Z (ag.ofM mb),V Z (ag.aA mb)] 277)):=(μ _ _).alloc (κ _) _;replace r0:=r0.on ba;replace r1:=r1.on ba;replace al:=al.trans (ba.mono al.size);have Tm:w1.heap.size<(w1.alloc (θ #[V Z (ag.au ma),V Z (ag.ofM ma),V Z (ag.aA ma),V Z (ag.au mb),V Z (ag.ofM mb),V Z (ag.aA mb)] 277)).heap.size:=by simp
 clear ba;have eW:w1.alloc (.cells [V Z (ag.au ma),V Z (ag.ofM ma),V Z (ag.aA ma),V Z (ag.au mb),V Z (ag.ofM mb),V Z (ag.aA mb)].toArray 277)=w1.alloc (θ #[V Z (ag.au ma),V Z (ag.ofM ma),V Z (ag.aA ma),V Z (ag.au mb),V Z (ag.ofM mb),V Z (ag.aA mb)] 277):=rfl;rw[eW]at ra;clear eW;obtain⟨q0,q1,q2,q3,q4,_,_,_,_,_⟩:=ca r0;obtain⟨c0,c1,c2,_,_,_⟩:=bW r1;obtain⟨⟨z0,z1,z2,z3,z4,z5⟩,y0,y1,y2,y3,y4,y5⟩:=jS ra;by_cases hf:r.fq=3
 case neg=>
  have MA:(r.fq==3)=false:=by simpa using hf
  by_cases J:0<o
  case pos=>
   go_wp2_with fail;refine(uM.out ma _ (by omega) (by omega)).mono ?_;rintro e w5 ⟨rfl,bB⟩;go_wp2_with fail;go_ret;exact⟨by rw[p1.out hf J];rfl,al.trans (bB.mono al.size)⟩
  case neg=>
   have uZ:o<=0:=by omega
   go_wp2_with fail;refine(hP.out mb _ (by omega) (by omega)).mono ?_;rintro e w5 ⟨rfl,bB⟩;have r5:=r1.on bB;replace al:=al.trans (bB.mono al.size);clear c0 c1 c2 z0 z1 z2 z3 z4 z5 y0 y1 y2 y3 y4 y5;have sL:w.heap.size+2<=w5.heap.size:=by have:=bB.size;have:=r1.lt;omega
   have r6:=r5.on ((μ _ _).alloc (κ _) (θ #[V Z (ag.au (mb-1)),V Z (ag.ofM (mb-1)),V Z (ag.aA (mb-1))] 88));obtain⟨c0,c1,c2,_,_,_⟩:=bW r5;obtain⟨d0,d1,d2,_,_,_⟩:=bW r6;go_wp2_with fail;refine(hT2.out mb _ (by omega) (by omega)).mono ?_;rintro e w6 ⟨rfl,cL⟩;go_wp2_with fail;go_ret;exact⟨by rw[p2.out hf J];rfl,(al.alloc al.size _).trans (cL.mono (by have:=al.size;simp;omega))⟩
 case pos=>
  by_cases hc:L=0
  case neg=>
   have rP:((L:Int)==0)=false:=by simpa using hc
   have MA:(r.fq==3)=true:=by simpa using hf
   by_cases J:0<o
   case pos=>
    go_wp2_with fail;refine(uM.out ma _ (by omega) (by omega)).mono ?_;rintro e w5 ⟨rfl,bB⟩;go_wp2_with fail;go_ret;exact⟨by rw[p3.out hc J];rfl,al.trans (bB.mono al.size)⟩
   case neg=>
    have uZ:o<=0:=by omega
    go_wp2_with fail;refine(hP.out mb _ (by omega) (by omega)).mono ?_;rintro e w5 ⟨rfl,bB⟩;have r5:=r1.on bB;replace al:=al.trans (bB.mono al.size);clear c0 c1 c2 z0 z1 z2 z3 z4 z5 y0 y1 y2 y3 y4 y5;have sL:w.heap.size+2<=w5.heap.size:=by have:=bB.size;have:=r1.lt;omega
    have r6:=r5.on ((μ _ _).alloc (κ _) (θ #[V Z (ag.au (mb-1)),V Z (ag.ofM (mb-1)),V Z (ag.aA (mb-1))] 88));obtain⟨c0,c1,c2,_,_,_⟩:=bW r5;obtain⟨d0,d1,d2,_,_,_⟩:=bW r6;go_wp2_with fail;refine(hT2.out mb _ (by omega) (by omega)).mono ?_;rintro e w6 ⟨rfl,cL⟩;go_wp2_with fail;go_ret;exact⟨by rw[p4.out hc J];rfl,(al.alloc al.size _).trans (cL.mono (by have:=al.size;simp;omega))⟩
  case pos=>
   subst hc;have MA:(r.fq==3)=true:=by simpa using hf
   go_wp2_with fail;refine(hY.out _).mono ?_;rintro e w2 ⟨rfl,aN⟩;replace r1:=r1.on aN;replace ra:=ra.on aN;replace al:=al.trans (aN.mono al.size);have gX:w1.heap.size+1<=w2.heap.size:=by have:=aN.size;simpa using this
   clear aN q0 q1 q2 q3 q4 c0 c1 c2 z0 z1 z2 z3 z4 z5 y0 y1 y2 y3 y4 y5;obtain⟨⟨z0,z1,z2,z3,z4,z5⟩,y0,y1,y2,y3,y4,y5⟩:=jS ra;have dp:w.heap.size+1≠w1.heap.size:=by omega
   have rY:X ((((((w2.setCell ⟨w1.heap.size,0,none⟩ (V Z (ag.au ya))).setCell ⟨w1.heap.size,1,none⟩ (V Z (ag.ofM ya))).setCell ⟨w1.heap.size,2,none⟩ (V Z (ag.aA ya))).setCell ⟨w1.heap.size,3,none⟩ (V Z (ag.au yb))).setCell ⟨w1.heap.size,4,none⟩ (V Z (ag.ofM yb))).setCell ⟨w1.heap.size,5,none⟩ (V Z (ag.aA yb))) w1.heap.size [V Z (ag.au ya),V Z (ag.ofM ya),V Z (ag.aA ya),V Z (ag.au yb),V Z (ag.ofM yb),V Z (ag.aA yb)] 277:=((((((ra.set (k:=0) _).set (k:=1) _).set (k:=2) _).set (k:=3) _).set (k:=4) _).set (k:=5) _);have r1Y:X ((((((w2.setCell ⟨w1.heap.size,0,none⟩ (V Z (ag.au ya))).setCell ⟨w1.heap.size,1,none⟩ (V Z (ag.ofM ya))).setCell ⟨w1.heap.size,2,none⟩ (V Z (ag.aA ya))).setCell ⟨w1.heap.size,3,none⟩ (V Z (ag.au yb))).setCell ⟨w1.heap.size,4,none⟩ (V Z (ag.ofM yb))).setCell ⟨w1.heap.size,5,none⟩ (V Z (ag.aA yb))) (w.heap.size+1) [V Z (ag.au n),V Z (ag.ofM n),V Z (ag.aA n)] 88:=((((((r1.other dp _).other dp _).other dp _).other dp _).other dp _).other dp _);have tW:Below w.heap.size w ((((((w2.setCell ⟨w1.heap.size,0,none⟩ (V Z (ag.au ya))).setCell ⟨w1.heap.size,1,none⟩ (V Z (ag.ofM ya))).setCell ⟨w1.heap.size,2,none⟩ (V Z (ag.aA ya))).setCell ⟨w1.heap.size,3,none⟩ (V Z (ag.au yb))).setCell ⟨w1.heap.size,4,none⟩ (V Z (ag.ofM yb))).setCell ⟨w1.heap.size,5,none⟩ (V Z (ag.aA yb))):=((((((al.setCell (by show _<=w1.heap.size;omega) _).setCell (by show _<=w1.heap.size;omega) _).setCell (by show _<=w1.heap.size;omega) _).setCell (by show _<=w1.heap.size;omega) _).setCell (by show _<=w1.heap.size;omega) _).setCell (by show _<=w1.heap.size;omega) _);go_upto_region 4 with fail;clear z0 z1 z2 z3 z4 z5 y0 y1 y2 y3 y4 y5;generalize((((((w2.setCell ⟨w1.heap.size,0,none⟩ (V Z (ag.au ya))).setCell ⟨w1.heap.size,1,none⟩ (V Z (ag.ofM ya))).setCell ⟨w1.heap.size,2,none⟩ (V Z (ag.aA ya))).setCell ⟨w1.heap.size,3,none⟩ (V Z (ag.au yb))).setCell ⟨w1.heap.size,4,none⟩ (V Z (ag.ofM yb))).setCell ⟨w1.heap.size,5,none⟩ (V Z (ag.aA yb)))=W at *
   obtain⟨c0,c1,c2,_,_,_⟩:=bW r1Y;obtain⟨⟨z0,z1,z2,z3,z4,z5⟩,y0,y1,y2,y3,y4,y5⟩:=jS rY;by_cases J:0<o
   case pos=>
    go_wp2_with fail;refine(uM.out ya _ (by omega) (by omega)).mono ?_;rintro e w5 ⟨rfl,bB⟩;go_wp2_with fail;go_ret;exact⟨by rw[p5.out hf (by simp) J];rfl,tW.trans (bB.mono tW.size)⟩
   case neg=>
    have uZ:o<=0:=by omega
    go_wp2_with fail;refine(hP.out yb _ (by omega) (by omega)).mono ?_;rintro e w5 ⟨rfl,bB⟩;have r5:=r1Y.on bB;replace tW:=tW.trans (bB.mono tW.size);clear c0 c1 c2 z0 z1 z2 z3 z4 z5 y0 y1 y2 y3 y4 y5;have sL:w.heap.size+2<=w5.heap.size:=by have:=bB.size;have:=r1Y.lt;omega
    have r6:=r5.on ((μ _ _).alloc (κ _) (θ #[V Z (ag.au (yb-1)),V Z (ag.ofM (yb-1)),V Z (ag.aA (yb-1))] 88));obtain⟨c0,c1,c2,_,_,_⟩:=bW r5;obtain⟨d0,d1,d2,_,_,_⟩:=bW r6;go_wp2_with fail;refine(hT2.out yb _ (by omega) (by omega)).mono ?_;rintro e w6 ⟨rfl,cL⟩;go_wp2_with fail;go_ret;exact⟨by rw[p6.out hf (by simp) J];rfl,(tW.alloc tW.size _).trans (cL.mono (by have:=tW.size;simp;omega))⟩
def bh (r:aE)(s k:Int):Int:=
 if r.fq=0 then s+k else if r.fq=1 then s+k*7-eu (s+k*7) r.ws else if r.fq=2 then cu (ag.au s) (ag.ofM s+k)else ag.num (ag.au s+k) 1 1
def iU (r:aE)(s k:Int):Int:=
 if r.fq=0 then s+k+1 else if r.fq=1 then s+k*7-eu (s+k*7) r.ws+7 else if r.fq=2 then cu (ag.au s) (ag.ofM s+k+1)else ag.num (ag.au s+k+1) 1 1
def dA (r:aE):Int:=if r.fq=0 then 200000 else if r.fq=1 then 25000 else if r.fq=2 then 6000 else 500
theorem gJ (w:ι)(a b c:Obj):Below w.heap.size w (((w.alloc a).alloc b).alloc c):=(((μ _ _).alloc (κ _) _).alloc (by simp) _).alloc (by simp;omega) _
theorem kx (w:ι)(cs:List Value)(t:Α)(b c:Obj):X (((w.alloc (θ cs.toArray t)).alloc b).alloc c) w.heap.size cs t:=((X.new w cs t).on ((μ _ _).alloc (κ _) _)).on ((μ _ _).alloc (κ _) _)
theorem ky (w:ι)(a:Obj)(cs:List Value)(t:Α)(c:Obj):X (((w.alloc a).alloc (θ cs.toArray t)).alloc c) (w.heap.size+1) cs t:=by
 have:=(X.new (w.alloc a) cs t).on ((μ _ _).alloc (κ _) c);simpa using this
theorem kz (w:ι)(a b:Obj)(cs:List Value)(t:Α):X (((w.alloc a).alloc b).alloc (θ cs.toArray t)) (w.heap.size+1+1) cs t:=by
 have:=X.new ((w.alloc a).alloc b) cs t;simpa using this
theorem Yf (r:aE)(m md wk pl:Value)(tx:ByteArray)(s k:Int)(w:ι)(K:eE w r m md wk pl)(ho:ei r)(s0:0<=s)(s1:s<=84010)(k0:0<=k)(k1:k<=dA r):
 π prog 247 #[bG r.fq r.iv r.ct r.un m md wk pl r.ws tx,aZ s,V Z k] w λe I=>e=δ (dt (bh r s k) (iU r s k))/\Below w.heap.size w I:=by
 have kh:=ho.UY;have Uq:=ho.UZ;have hw0:=ho.ws0;have hw6:=ho.ws6;have hr:=lh s (by omega) (by omega);have hy:=tC s (by omega) (by omega);obtain⟨a1,S⟩:=K.ms.form;obtain⟨a2,e2⟩:=K.mds.form;obtain⟨a3,e3⟩:=K.wks.form;obtain⟨a4,e4⟩:=K.pls.form;have Zn:=qA (s+k*7) r.ws;have PJ:Ε (r.fq=0->∀W,π prog 262 #[aZ s,V Z k] W λe I=>e=δ (aZ (s+k))/\Below W.heap.size W I):=H λh W=>by
  unfold dA at k1;rw[if_pos h]at k1;exact xm s k W (by omega) (by omega) (by omega) (by omega)
 have xn:Ε (r.fq=0->∀W,π prog 261 #[aZ (s+k)] W λe I=>e=δ (dt (bh r s k) (iU r s k))/\Below W.heap.size W I):=H λh W=>by
  unfold dA at k1;rw[if_pos h]at k1;unfold bh iU;rw[if_pos h,if_pos h];exact abY (s+k) W (by omega) (by omega)
 have sM:Ε (r.fq=1->∀W,π prog 262 #[aZ s,V Z (k*7)] W λe I=>e=δ (aZ (s+k*7))/\Below W.heap.size W I):=H λh W=>by
  unfold dA at k1;rw[if_neg (by omega),if_pos h]at k1;exact xm s (k*7) W (by omega) (by omega) (by omega) (by omega)
 have pX:Ε (r.fq=1->∀W,π prog 263 #[aZ (s+k*7),V Z r.ws] W λe I=>e=δ (dt (bh r s k) (iU r s k))/\Below W.heap.size W I):=H λh W=>by
  unfold dA at k1;rw[if_neg (by omega),if_pos h]at k1;unfold bh iU;rw[if_neg (by omega),if_pos h,if_neg (by omega),if_pos h];exact UW (s+k*7) r.ws W (by omega) (by omega) (by omega) (by omega)
 have mH:Ε (r.fq=2->∀W,π prog 264 #[V Z (ag.au s),V Z (ag.ofM s+k)] W λe I=>e=δ (dt (bh r s k) (iU r s k))/\Below W.heap.size W I):=H λh W=>by
  unfold dA at k1;rw[if_neg (by omega),if_neg (by omega),if_pos h]at k1;unfold bh iU;rw[if_neg (by omega),if_neg (by omega),if_pos h,if_neg (by omega),if_neg (by omega),if_pos h];exact GU (ag.au s) (ag.ofM s+k) W (by omega) (by omega) (by omega) (by omega)
 have PK:Ε (r.fq=3->∀W,π prog 265 #[V Z (ag.au s+k)] W λe I=>e=δ (dt (bh r s k) (iU r s k))/\Below W.heap.size W I):=H λh W=>by
  unfold dA at k1;rw[if_neg (by omega),if_neg (by omega),if_neg (by omega)]at k1;unfold bh iU;rw[if_neg (by omega),if_neg (by omega),if_neg (by omega),if_neg (by omega),if_neg (by omega),if_neg (by omega)];exact UX (ag.au s+k) W (by omega) (by omega)
 have wH:k<=200000:=by
  unfold dA at k1;split at k1<;>(try split at k1)<;>(try split at k1)<;>omega
 clear k1 K ho;generalize bh r s k=aqt at *
 generalize iU r s k=B at *
 generalize r.ms.length=n1 at *
 generalize r.mds.length=n2 at *
 generalize r.wks.length=n3 at *
 generalize r.pls.length=n4 at *
 generalize r.fq=fq at *
 generalize r.iv=iv at *
 generalize r.ct=ct at *
 generalize r.un=un at *
 generalize r.ws=ws at *
 subst S e2 e3 e4;unfold aZ cV bG dt at *
 have r0:=kx w [V Z fq,V Z iv,V Z ct,V Z un,ζ a1 n1 n1,ζ a2 n2 n2,ζ a3 n3 n3,ζ a4 n4 n4,V Z ws,η tx] 96 (θ #[V Z (ag.au s),V Z (ag.ofM s),V Z (ag.aA s)] 88) (θ #[V Z 0,V Z 0,V Z 0,V Z 0,V Z 0,V Z 0] 277);have r1:=ky w (θ #[V Z fq,V Z iv,V Z ct,V Z un,ζ a1 n1 n1,ζ a2 n2 n2,ζ a3 n3 n3,ζ a4 n4 n4,V Z ws,η tx] 96) [V Z (ag.au s),V Z (ag.ofM s),V Z (ag.aA s)] 88 (θ #[V Z 0,V Z 0,V Z 0,V Z 0,V Z 0,V Z 0] 277);have r2:=kz w (θ #[V Z fq,V Z iv,V Z ct,V Z un,ζ a1 n1 n1,ζ a2 n2 n2,ζ a3 n3 n3,ζ a4 n4 n4,V Z ws,η tx] 96) (θ #[V Z (ag.au s),V Z (ag.ofM s),V Z (ag.aA s)] 88) [V Z 0,V Z 0,V Z 0,V Z 0,V Z 0,V Z 0] 277;have al:=gJ w (θ #[V Z fq,V Z iv,V Z ct,V Z un,ζ a1 n1 n1,ζ a2 n2 n2,ζ a3 n3 n3,ζ a4 n4 n4,V Z ws,η tx] 96) (θ #[V Z (ag.au s),V Z (ag.ofM s),V Z (ag.aA s)] 88) (θ #[V Z 0,V Z 0,V Z 0,V Z 0,V Z 0,V Z 0] 277);go_enter func247,ntmps247;go_upto_region 1 with fail;generalize((w.alloc (θ #[V Z fq,V Z iv,V Z ct,V Z un,ζ a1 n1 n1,ζ a2 n2 n2,ζ a3 n3 n3,ζ a4 n4 n4,V Z ws,η tx] 96)).alloc (θ #[V Z (ag.au s),V Z (ag.ofM s),V Z (ag.aA s)] 88)).alloc (θ #[V Z 0,V Z 0,V Z 0,V Z 0,V Z 0,V Z 0] 277)=W at *
 obtain⟨g0,g1,g2,g3,g4,g5,g6,g7,g8,g9⟩:=ca r0;obtain⟨c0,c1,c2,_,_,_⟩:=bW r1;rcases(by omega:fq=0\/fq=1\/fq=2\/fq=3)with rfl|rfl|rfl|rfl
 ·replace PJ:=H (PJ.out rfl);replace xn:=H (xn.out rfl);clear sM pX mH PK;go_wp2_with fail;refine(PJ.out _).mono ?_;rintro e w3 ⟨rfl,aP⟩;go_wp2_with fail;refine(xn.out _).mono ?_;rintro e w4 ⟨rfl,cq⟩;replace al:=al.trans ((aP.trans (cq.mono aP.size)).mono al.size);obtain⟨⟨z0,z1,z2,z3,z4,z5⟩,y0,y1,y2,y3,y4,y5⟩:=jS ((r2.on aP).on cq);go_wp2_with fail;exact bodyPost_ret (v:=.agg #[V Z (ag.au aqt),V Z (ag.ofM aqt),V Z (ag.aA aqt),V Z (ag.au B),V Z (ag.ofM B),V Z (ag.aA B)]) (by simp[results,results247,go_sem,z0,z1,z2,z3,z4,z5]) rfl ⟨rfl,((((((al.setCell (by simp;omega) _).setCell (by simp;omega) _).setCell (by simp;omega) _).setCell (by simp;omega) _).setCell (by simp;omega) _).setCell (by simp;omega) _)⟩
 ·replace sM:=H (sM.out rfl);replace pX:=H (pX.out rfl);clear PJ xn mH PK;have Tz:IntKind.i64.wrap (k*7)=k*7:=gI (by omega) (by omega);go_upto_region 6 with fail;go_region_with (first
   |(go_at_call 262;refine(sM.out _).mono ?_;rintro e w3 ⟨rfl,aP⟩;have RI:Below W.heap.size W w3:=⟨aP.os,aP.tape,aP.output,aP.size,aP.block⟩;have k8:=(r0.on RI).cell (k:=8) rfl)
   |(go_at_call 263;refine(pX.out _).mono ?_;rintro e w4 ⟨rfl,cq⟩;have LG:Below w3.heap.size w3 w4:=⟨cq.os,cq.tape,cq.output,cq.size,cq.block⟩;obtain⟨⟨z0,z1,z2,z3,z4,z5⟩,y0,y1,y2,y3,y4,y5⟩:=jS ((r2.on RI).on LG)))
  all_goals go_wp2_with fail
  all_goals
   have p7:=al.trans ((RI.trans (LG.mono RI.size)).mono al.size);exact bodyPost_ret (v:=.agg #[V Z (ag.au aqt),V Z (ag.ofM aqt),V Z (ag.aA aqt),V Z (ag.au B),V Z (ag.ofM B),V Z (ag.aA B)]) (by simp[results,results247,go_sem,z0,z1,z2,z3,z4,z5]) rfl ⟨rfl,((((((p7.setCell (by simp;omega) _).setCell (by simp;omega) _).setCell (by simp;omega) _).setCell (by simp;omega) _).setCell (by simp;omega) _).setCell (by simp;omega) _)⟩
 ·replace mH:=H (mH.out rfl);clear PJ xn sM pX PK;go_wp2_with fail;refine(mH.out _).mono ?_;rintro e w4 ⟨rfl,cq⟩;replace al:=al.trans (cq.mono al.size);obtain⟨⟨z0,z1,z2,z3,z4,z5⟩,y0,y1,y2,y3,y4,y5⟩:=jS (r2.on cq);go_wp2_with fail;exact bodyPost_ret (v:=.agg #[V Z (ag.au aqt),V Z (ag.ofM aqt),V Z (ag.aA aqt),V Z (ag.au B),V Z (ag.ofM B),V Z (ag.aA B)]) (by simp[results,results247,go_sem,z0,z1,z2,z3,z4,z5]) rfl ⟨rfl,((((((al.setCell (by simp;omega) _).setCell (by simp;omega) _).setCell (by simp;omega) _).setCell (by simp;omega) _).setCell (by simp;omega) _).setCell (by simp;omega) _)⟩
 replace PK:=H (PK.out rfl);clear PJ xn sM pX mH;go_wp2_with fail;refine(PK.out _).mono ?_;rintro e w4 ⟨rfl,cq⟩;replace al:=al.trans (cq.mono al.size);obtain⟨⟨z0,z1,z2,z3,z4,z5⟩,y0,y1,y2,y3,y4,y5⟩:=jS (r2.on cq);go_wp2_with fail;exact bodyPost_ret (v:=.agg #[V Z (ag.au aqt),V Z (ag.ofM aqt),V Z (ag.aA aqt),V Z (ag.au B),V Z (ag.ofM B),V Z (ag.aA B)]) (by simp[results,results247,go_sem,z0,z1,z2,z3,z4,z5]) rfl ⟨rfl,((((((al.setCell (by simp;omega) _).setCell (by simp;omega) _).setCell (by simp;omega) _).setCell (by simp;omega) _).setCell (by simp;omega) _).setCell (by simp;omega) _)⟩
theorem vD (y m:Int):cu y m+28<=cu y (m+1)/\cu y (m+1)<=cu y m+31:=by
 unfold cu;by_cases h:(m-1)%12=11
 ·rw[show y+(m+1-1)/12=y+(m-1)/12+1 from by omega,show(m+1-1)%12+1=1 from by omega,h,ag.AW,show(11+1:Int)=12 from rfl];omega
 rw[show y+(m+1-1)/12=y+(m-1)/12 from by omega,show(m+1-1)%12+1=(m-1)%12+1+1 from by omega];have e:=ag.rn (y+(m-1)/12) ((m-1)%12+1) (by omega) (by omega);have:=ag.sU (y+(m-1)/12) ((m-1)%12+1);omega
theorem Bi (y m:Int)(k:Nat):cu y m+28*k<=cu y (m+k)/\cu y (m+k)<=cu y m+31*k:=by
 induction k with
 |zero=>simp
 |succ k ih=>
  have:=vD y (m+k);rw[show m+((k+1:Nat):Int)=m+k+1 from by omega];omega
theorem se {y m y' m':Int}(h:12*y+m=12*y'+m'):cu y m=cu y' m':=by
 unfold cu;rw[show y+(m-1)/12=y'+(m'-1)/12 from by omega,show(m-1)%12=(m'-1)%12 from by omega]
theorem G0 {y m y' m':Int}(h:12*y+m<=12*y'+m'):cu y m<=cu y' m':=by
 obtain⟨k,Y⟩:∃k:Nat,12*y'+m'=12*y+(m+k):=⟨(12*y'+m'-12*y-m).toNat,by omega⟩;rw[se Y];have:=(Bi y m k).1;omega
theorem AM {a b:Int}(h0:-10000<=a)(h:a<=b):12*ag.au a+ag.ofM a<=12*ag.au b+ag.ofM b:=by
 have ha:=jm a h0;have U:=jm b (by omega);rcases Int.lt_or_le (12*ag.au b+ag.ofM b) (12*ag.au a+ag.ofM a)with aR|Ku
 ·have:=G0 (y:=ag.au b) (m:=ag.ofM b+1) (y':=ag.au a) (m':=ag.ofM a) (by omega);omega
 exact Ku
theorem yq {a b:Int}(h0:-10000<=a)(h:a<=b):ag.au a<=ag.au b:=by
 have ha:=ag.kU a (by omega);have U:=ag.kU b (by omega);have:=AM h0 h;obtain⟨a1,a2,_⟩:=ha;obtain⟨b1,b2,_⟩:=U;omega
def cj (r:aE)(s d:Int):Int:=
 if r.fq=0 then d-s else if r.fq=1 then(d-(s-eu s r.ws))/7 else if r.fq=2 then(ag.au d-ag.au s)*12+ag.ofM d-ag.ofM s else ag.au d-ag.au s
def eZ (r:aE)(start from_:Int):Int:=
 if 0<r.ct\/from_<=start then 0 else cj r (start/86400) (from_/86400)-cj r (start/86400) (from_/86400)%r.iv
theorem Yg (a b:Int)(w:ι):(Instr.field 277 (dt a b) 0).run prog w=.ok (aZ a) w:=by
 unfold dt aZ cV Instr.field;simp[part,asAgg,go_sem]
theorem abZ (W:ι)(n s:Int)(D:Nat)(os:Array Obj)(h0:-699990<=n)(G:n<=899990)(s0:0<=s)(s1:s<=6):
 π prog 263 #[aZ n,V Z s] (grow (redrawn W D) os) λe az=>e=δ (dt (n-eu n s) (n-eu n s+7))/\∃p:Ξ,az=grow (redrawn W p.d) p.os:=
 Γ (UW n s _ h0 G s0 s1)
theorem RJ (r:aE)(m md wk pl:Value)(tx:ByteArray)(s d:Int)(w:ι)(K:eE w r m md wk pl)(ho:ei r)(s0:0<=s)(s1:s<=d)(d1:d<=84010):
 π prog 260 #[bG r.fq r.iv r.ct r.un m md wk pl r.ws tx,aZ s,aZ d] w λe I=>e=δ (V Z (cj r s d))/\Below w.heap.size w I:=by
 have kh:=ho.UY;have Uq:=ho.UZ;have hw0:=ho.ws0;have hw6:=ho.ws6;have hr:=lh s (by omega) (by omega);have hrd:=lh d (by omega) (by omega);have Zn:=qA s r.ws;obtain⟨a1,S⟩:=K.ms.form;obtain⟨a2,e2⟩:=K.mds.form;obtain⟨a3,e3⟩:=K.wks.form;obtain⟨a4,e4⟩:=K.pls.form;have h0:Ε (r.fq=0->cj r s d=d-s):=H λh=>by unfold cj;rw[if_pos h]
 have G:Ε (r.fq=1->cj r s d=(d-(s-eu s r.ws))/7):=H λh=>by unfold cj;rw[if_neg (by omega),if_pos h]
 have A:Ε (r.fq=2->cj r s d=(ag.au d-ag.au s)*12+ag.ofM d-ag.ofM s):=H λh=>by unfold cj;rw[if_neg (by omega),if_neg (by omega),if_pos h]
 have M:Ε (r.fq=3->cj r s d=ag.au d-ag.au s):=H λh=>by unfold cj;rw[if_neg (by omega),if_neg (by omega),if_neg (by omega)]
 have hT:Ε (∀W,π prog 271 #[aZ s,aZ d] W λe I=>e=δ (V Z (d-s))/\Below W.heap.size W I):=H λW=>RG s d W (by omega) (by omega) (by omega) (by omega);have hW:Ε (∀W D os,π prog 263 #[aZ s,V Z r.ws] (grow (redrawn W D) os) λe az=>e=δ (dt (s-eu s r.ws) (s-eu s r.ws+7))/\∃p:Ξ,az=grow (redrawn W p.d) p.os):=H λW D os=>abZ W s r.ws D os (by omega) (by omega) hw0 hw6;have uM:Ε (∀W D os,π prog 271 #[aZ (s-eu s r.ws),aZ d] (grow (redrawn W D) os) λe az=>e=δ (V Z (d-(s-eu s r.ws)))/\∃p:Ξ,az=grow (redrawn W p.d) p.os):=H λW D os=>aaq W (s-eu s r.ws) d D os (by omega) (by omega) (by omega) (by omega);clear K ho;have ub:-10<=s-eu s r.ws/\s-eu s r.ws<=d:=by omega
 have U2:=Yg (s-eu s r.ws) (s-eu s r.ws+7);generalize dt (s-eu s r.ws) (s-eu s r.ws+7)=SP at *
 generalize hfw:s-eu s r.ws=fw at *
 clear hfw;generalize hDF:aZ fw=DF at *
 clear hDF;generalize cj r s d=DD at *
 generalize r.ms.length=n1 at *
 generalize r.mds.length=n2 at *
 generalize r.wks.length=n3 at *
 generalize r.pls.length=n4 at *
 generalize r.fq=fq at *
 generalize r.iv=iv at *
 generalize r.ct=ct at *
 generalize r.un=un at *
 generalize r.ws=ws at *
 subst S e2 e3 e4;unfold aZ cV bG at *
 have r0:=kx w [V Z fq,V Z iv,V Z ct,V Z un,ζ a1 n1 n1,ζ a2 n2 n2,ζ a3 n3 n3,ζ a4 n4 n4,V Z ws,η tx] 96 (θ #[V Z (ag.au s),V Z (ag.ofM s),V Z (ag.aA s)] 88) (θ #[V Z (ag.au d),V Z (ag.ofM d),V Z (ag.aA d)] 88);have r1:=ky w (θ #[V Z fq,V Z iv,V Z ct,V Z un,ζ a1 n1 n1,ζ a2 n2 n2,ζ a3 n3 n3,ζ a4 n4 n4,V Z ws,η tx] 96) [V Z (ag.au s),V Z (ag.ofM s),V Z (ag.aA s)] 88 (θ #[V Z (ag.au d),V Z (ag.ofM d),V Z (ag.aA d)] 88);have r2:=kz w (θ #[V Z fq,V Z iv,V Z ct,V Z un,ζ a1 n1 n1,ζ a2 n2 n2,ζ a3 n3 n3,ζ a4 n4 n4,V Z ws,η tx] 96) (θ #[V Z (ag.au s),V Z (ag.ofM s),V Z (ag.aA s)] 88) [V Z (ag.au d),V Z (ag.ofM d),V Z (ag.aA d)] 88;have al:=gJ w (θ #[V Z fq,V Z iv,V Z ct,V Z un,ζ a1 n1 n1,ζ a2 n2 n2,ζ a3 n3 n3,ζ a4 n4 n4,V Z ws,η tx] 96) (θ #[V Z (ag.au s),V Z (ag.ofM s),V Z (ag.aA s)] 88) (θ #[V Z (ag.au d),V Z (ag.ofM d),V Z (ag.aA d)] 88);go_enter func260,ntmps260;go_upto_region 1 with fail;generalize((w.alloc (θ #[V Z fq,V Z iv,V Z ct,V Z un,ζ a1 n1 n1,ζ a2 n2 n2,ζ a3 n3 n3,ζ a4 n4 n4,V Z ws,η tx] 96)).alloc (θ #[V Z (ag.au s),V Z (ag.ofM s),V Z (ag.aA s)] 88)).alloc (θ #[V Z (ag.au d),V Z (ag.ofM d),V Z (ag.aA d)] 88)=W at *
 obtain⟨g0,g1,g2,g3,g4,g5,g6,g7,g8,g9⟩:=ca r0;obtain⟨c0,c1,c2,_,_,_⟩:=bW r1;obtain⟨d0,d1,d2,_,_,_⟩:=bW r2;rcases(by omega:fq=0\/fq=1\/fq=2\/fq=3)with rfl|rfl|rfl|rfl
 ·replace h0:=H (h0.out rfl);clear G A M;go_wp2_with fail;refine(hT.out _).mono ?_;rintro e w3 ⟨rfl,aP⟩;go_wp2_with fail;go_ret;exact⟨by rw[h0.out];rfl,al.trans (aP.mono al.size)⟩
 ·replace G:=H (G.out rfl);clear h0 A M;go_upto_region 6 with fail;have j8:=cell_regrown g8;have j0:=cell_regrown c0;have j1:=cell_regrown c1;have j2:=cell_regrown c2;have i0:=cell_regrown d0;have i1:=cell_regrown d1;have i2:=cell_regrown d2;clear g0 g1 g2 g3 g4 g5 g6 g7 g8 g9 c0 c1 c2 d0 d1 d2;refine wp_region_quiet_below (by kernel_rfl) (by kernel_rfl) ?_
  repeat(go_big_quiet_step (first|exact hW.out W _ _|exact uM.out W _ _))
  refine wpQuiet_nil ?_;intro _ dN;obtain⟨⟨dq,ju⟩,iE⟩:=dN;subst iE;go_wp2_with fail;go_ret;exact⟨by rw[G.out];rfl,al.trans ((below_regrown W dq ju).mono al.size)⟩
 ·replace A:=H (A.out rfl);clear h0 G M;go_wp2_with fail;go_ret;exact⟨by rw[A.out];rfl,al⟩
 replace M:=H (M.out rfl);clear h0 G A;go_wp2_with fail;go_ret;exact⟨by rw[M.out];rfl,al⟩
theorem Yh (r:aE)(s d:Int)(s0:0<=s)(s1:s<=d)(d1:d<=84010):0<=cj r s d/\cj r s d<=200000:=by
 have hr:=lh s (by omega) (by omega);have hrd:=lh d (by omega) (by omega);have hys:=tC s (by omega) (by omega);have lG:=tC d (by omega) (by omega);have Zn:=qA s r.ws;have hle:ag.au s<=ag.au d:=yq (by omega) s1;have hlm:=AM (by omega) s1;unfold cj;split
 ·omega
 split
 ·omega
 split<;>omega
theorem Fp (r:aE)(m md wk pl:Value)(tx:ByteArray)(s f:Int)(w:ι)(K:eE w r m md wk pl)(ho:ei r)(s0:0<=s)(s1:s<=7258118400)(f0:-1000000000000<=f)(f1:f<=7258118400):
 π prog 246 #[bG r.fq r.iv r.ct r.un m md wk pl r.ws tx,V Z s,V Z f] w λe I=>e=δ (V Z (eZ r s f))/\Below w.heap.size w I:=by
 have U3:=ho.Fo;have Pv:=ho.iv9;have hct:=ho.PH;have hD:Ε (s<f->∀W,Below w.heap.size w W->∀D os,π prog 260 #[bG r.fq r.iv r.ct r.un m md wk pl r.ws tx,aZ (s/86400),aZ (f/86400)] (grow (redrawn W D) os) λe az=>e=δ (V Z (cj r (s/86400) (f/86400)))/\∃p:Ξ,az=grow (redrawn W p.d) p.os):=
  H λh W U D os=>Γ (RJ r m md wk pl tx (s/86400) (f/86400) _ ((K.on U).on (below_regrown W D os)) ho (by omega) (by omega) (by omega))
 have IA:Ε (∀W D os,π prog 51 #[V Z s] (grow (redrawn W D) os) λe az=>e=δ (aZ (s/86400))/\∃p:Ξ,az=grow (redrawn W p.d) p.os):=H λW D os=>Γ (qz s _ s0 s1);have U4:Ε (s<f->∀W D os,π prog 51 #[V Z f] (grow (redrawn W D) os) λe az=>e=δ (aZ (f/86400))/\∃p:Ξ,az=grow (redrawn W p.d) p.os):=H λh W D os=>Γ (qz f _ (by omega) f1);have nM:Ε (s<f->0<=cj r (s/86400) (f/86400)/\cj r (s/86400) (f/86400)<=200000):=H λh=>Yh r _ _ (by omega) (by omega) (by omega);have MB:Ε (0<r.ct\/f<=s->eZ r s f=0):=H λh=>by unfold eZ;rw[if_pos h]
 have IT:Ε (r.ct=0->s<f->eZ r s f=cj r (s/86400) (f/86400)-cj r (s/86400) (f/86400)%r.iv):=H λh h'=>by unfold eZ;rw[if_neg (by omega)]
 obtain⟨a1,S⟩:=K.ms.form;obtain⟨a2,e2⟩:=K.mds.form;obtain⟨a3,e3⟩:=K.wks.form;obtain⟨a4,e4⟩:=K.pls.form;clear K ho;generalize eZ r s f=FD at *
 generalize cj r (s/86400) (f/86400)=DD at *
 generalize r.ms.length=n1 at *
 generalize r.mds.length=n2 at *
 generalize r.wks.length=n3 at *
 generalize r.pls.length=n4 at *
 generalize r.fq=fq at *
 generalize r.iv=iv at *
 generalize r.ct=ct at *
 generalize r.un=un at *
 generalize r.ws=ws at *
 subst S e2 e3 e4;unfold aZ cV bG at *
 have r0:=X.new w [V Z fq,V Z iv,V Z ct,V Z un,ζ a1 n1 n1,ζ a2 n2 n2,ζ a3 n3 n3,ζ a4 n4 n4,V Z ws,η tx] 96;have al:Below w.heap.size w (w.alloc (θ #[V Z fq,V Z iv,V Z ct,V Z un,ζ a1 n1 n1,ζ a2 n2 n2,ζ a3 n3 n3,ζ a4 n4 n4,V Z ws,η tx] 96)):=(μ _ _).alloc (κ _) _;go_enter func246,ntmps246;go_upto_region 1 with fail;have eW:w.alloc (.cells [V Z fq,V Z iv,V Z ct,V Z un,ζ a1 n1 n1,ζ a2 n2 n2,ζ a3 n3 n3,ζ a4 n4 n4,V Z ws,η tx].toArray 96)=w.alloc (θ #[V Z fq,V Z iv,V Z ct,V Z un,ζ a1 n1 n1,ζ a2 n2 n2,ζ a3 n3 n3,ζ a4 n4 n4,V Z ws,η tx] 96):=rfl;rw[eW]at r0;clear eW;generalize w.alloc (θ #[V Z fq,V Z iv,V Z ct,V Z un,ζ a1 n1 n1,ζ a2 n2 n2,ζ a3 n3 n3,ζ a4 n4 n4,V Z ws,η tx] 96)=W at *
 obtain⟨g0,g1,g2,g3,g4,g5,g6,g7,g8,g9⟩:=ca r0;by_cases hc:0<ct
 ·replace MB:=H (MB.out (.inl hc));clear IT hD IA U4 nM;go_wp2_with fail;go_ret;exact⟨by rw[MB.out];rfl,al⟩
 obtain rfl:ct=0:=by omega
 clear hc;by_cases Zb:f<=s
 ·replace MB:=H (MB.out (.inr Zb));clear IT hD IA U4 nM;go_wp2_with fail;go_ret;exact⟨by rw[MB.out];rfl,al⟩
 have U2:s<f:=by omega
 replace IT:=H (IT.out rfl U2);replace hD:=H (hD.out U2);replace U4:=H (U4.out U2);obtain⟨b0,b1⟩:=nM.out U2;clear MB nM;go_upto_region 3 with fail;have j0:=cell_regrown g0;have j1:=cell_regrown g1;have j2:=cell_regrown g2;have j3:=cell_regrown g3;have j4:=cell_regrown g4;have j5:=cell_regrown g5;have j6:=cell_regrown g6;have j7:=cell_regrown g7;have j8:=cell_regrown g8;have j9:=cell_regrown g9;clear g0 g1 g2 g3 g4 g5 g6 g7 g8 g9;refine wp_region_quiet_below (by kernel_rfl) (by kernel_rfl) ?_
 repeat(go_big_quiet_step (first|exact IA.out W _ _|exact U4.out W _ _|exact hD.out W al _ _))
 refine wpQuiet_nil ?_;intro _ dN;obtain⟨⟨dq,ju⟩,iE⟩:=dN;subst iE;have p7:=al.trans ((below_regrown W dq ju).mono al.size);have hiz:iv≠0:=by omega
 have aoy:(iv==0)=false:=by simpa using hiz
 have hm0:0<=DD%iv:=Int.emod_nonneg _ hiz;have kM:DD%iv<iv:=Int.emod_lt_of_pos _ (by omega);have htm:DD.tmod iv=DD%iv:=Int.tmod_eq_emod_of_nonneg b0;have Tz:wrap64 (DD-DD%iv)=DD-DD%iv:=by unfold wrap64;omega
 go_wp2_with fail;go_ret;exact⟨by rw[IT.out];rfl,p7⟩
def wj (r:aE)(n:Int):Bool:=decide (r.wks.length=0)||r.wks.any λp=>p.2==(n+719470)%7&&(p.1==0||gH r n p.1)
def yt (r:aE)(n:Int):Bool:=GX r n&&GY r n&&wj r n
theorem JS (r:aE)(m md wk pl:Value)(tx:ByteArray)(n:Int)(w:ι)(K:eE w r m md wk pl)(ho:ei r)(h0:-10000<=n)(G:n<=300000):
 π prog 277 #[bG r.fq r.iv r.ct r.un m md wk pl r.ws tx,aZ n] w λe I=>e=δ (.bool (wj r n))/\Below w.heap.size w I:=by
 have hw:=K.wks;have hq:=ho.wks;have aeY:=H ho.ord;have hP:Ε (∀W o,Below w.heap.size w W→-53<=o->o<=53->π prog 279 #[bG r.fq r.iv r.ct r.un m md wk pl r.ws tx,aZ n,V Z o] W λe I=>e=δ (.bool (gH r n o))/\Below W.heap.size W I):=
  H λW o U a b=>RH r m md wk pl tx n o W (K.on U) ho h0 G a b
 have hD:Ε (∀W,π prog 244 #[aZ n] W λe I=>e=δ (V Z ((n+719470)%7))/\Below W.heap.size W I):=H λW=>AK n W (by omega) (by omega);have Co:Ε (r.wks.length≠0->wj r n=r.wks.any λp=>p.2==(n+719470)%7&&(p.1==0||gH r n p.1)):=H λh=>by unfold wj;simp[h]
 have RL:Ε (r.wks.length=0->wj r n=true):=H λh=>by unfold wj;simp[h]
 have nE:0<=(n+719470)%7/\(n+719470)%7<=6:=by omega
 obtain⟨a1,S⟩:=K.ms.form;obtain⟨a2,e2⟩:=K.mds.form;obtain⟨a3,e3⟩:=K.pls.form;clear K ho;generalize(n+719470)%7=aqy at *
 generalize wj r n=FW at *
 generalize MC:gH r n=PB at *
 clear MC;generalize r.wks=zs at *
 generalize r.fq=fq at *
 generalize r.iv=iv at *
 generalize r.ct=ct at *
 generalize r.un=un at *
 generalize r.ws=ws at *
 generalize r.ms.length=n1 at *
 generalize r.mds.length=n2 at *
 generalize r.pls.length=n3 at *
 subst S e2 e3;unfold aZ cV bG at *
 by_cases hz:zs.length=0
 case pos=>
  have HE:=H (RL.out hz);obtain⟨a4,rfl⟩:=hw.form;clear hw aeY Co RL hP hD;generalize zs.length=L at *
  subst hz;go_enter func277,ntmps277;go_wp2_with fail;go_ret;exact⟨by rw[HE.out];rfl,((μ _ _).alloc (κ _) _).alloc (by simp) _⟩
 case neg=>
  rcases hw with⟨_,A⟩|⟨g,rfl,aC⟩
  ·rw[A]at hz;exact absurd rfl hz
  have HE:=H (Co.out hz);clear Co RL;have Ho:((zs.length:Int)==0)=false:=by simpa using hz
  have aR:=aC.lt;go_enter func277,ntmps277;go_wp2_with fail;have r0:=kC w [V Z fq,V Z iv,V Z ct,V Z un,ζ a1 n1 n1,ζ a2 n2 n2,ζ (some ⟨g,0,none⟩) zs.length zs.length,ζ a3 n3 n3,V Z ws,η tx] 96 (θ #[V Z (ag.au n),V Z (ag.ofM n),V Z (ag.aA n)] 88);have r1:=kD w [V Z (ag.au n),V Z (ag.ofM n),V Z (ag.aA n)] 88 (θ #[V Z fq,V Z iv,V Z ct,V Z un,ζ a1 n1 n1,ζ a2 n2 n2,ζ (some ⟨g,0,none⟩) zs.length zs.length,ζ a3 n3 n3,V Z ws,η tx] 96);have al:=mu w (θ #[V Z fq,V Z iv,V Z ct,V Z un,ζ a1 n1 n1,ζ a2 n2 n2,ζ (some ⟨g,0,none⟩) zs.length zs.length,ζ a3 n3 n3,V Z ws,η tx] 96) (θ #[V Z (ag.au n),V Z (ag.ofM n),V Z (ag.aA n)] 88);refine(hD.out _).mono ?_;rintro e w1 ⟨rfl,ay⟩;replace r0:=r0.on ay;replace r1:=r1.on ay;replace al:=al.trans (ay.mono al.size);clear ay;obtain⟨q0,q1,q2,q3,q4,q5,q6,q7,q8,q9⟩:=ca r0;go_wp2_with fail;clear q0 q1 q2 q3 q4 q5 q6 q7 q8 q9;go_loopw [17] (λi wr=>∃k:Nat,k<=zs.length/\i=V Z k/\Below w.heap.size w wr/\X wr w.heap.size [V Z fq,V Z iv,V Z ct,V Z un,ζ a1 n1 n1,ζ a2 n2 n2,ζ (some ⟨g,0,none⟩) zs.length zs.length,ζ a3 n3 n3,V Z ws,η tx] 96/\X wr (w.heap.size+1) [V Z (ag.au n),V Z (ag.ofM n),V Z (ag.aA n)] 88/\Ε (FW=(zs.drop k).any λp=>p.2==aqy&&(p.1==0||PB p.1))) (λi _=>zs.length-(intOf i).toNat)
  case atStart=>exact⟨0,Nat.zero_le _,rfl,al,r0,r1,H (by simpa using HE.out)⟩
  case round=>
   clear r0 r1 al HE;obtain⟨k,Y,rfl,dL,r0,r1,HT⟩:=hrel;by_cases aR:k<zs.length
   case neg=>
    have ie:k=zs.length:=by omega
    subst ie;have HE:Ε (FW=false):=H (by rw[HT.out,ϗ];rfl);clear HT;go_wp2_with fail;go_ret;exact⟨by rw[HE.out];rfl,dL⟩
   case pos=>
    obtain⟨q,MD⟩:∃q,zs[k]?=some q:=⟨_,Κ aR⟩;have hr:=aC.on dL;have d0:=hr.cell (IV zs k q MD);have d1:=hr.cell (IW zs k q MD);have hqb:=aeY.out q (List.mem_of_getElem? MD);have hd:zs.drop k=q::zs.drop (k+1):=by
     obtain⟨bV,he⟩:=List.getElem?_eq_some_iff.1 MD;rw[Β bV,he]
    have hB:=dL.size;have ez:=r1.lt;by_cases KP:q.2=aqy
    case neg=>
     have HE:Ε (FW=(zs.drop (k+1)).any λp=>p.2==aqy&&(p.1==0||PB p.1)):=H (by rw[HT.out,hd,Λ];simp[KP]);have g1:(q.2==aqy)=false:=by simp[KP]
     clear HT hd MD;go_wp2_with fail;go_roundw
     case rel=>
      have cD:=(μ wr.heap.size wr).alloc (κ _) (θ #[V Z q.1,V Z q.2] 191);exact⟨k+1,by omega,by go_num,dL.alloc hB _,r0.on cD,r1.on cD,HE⟩
     case measure=>simp[intOf];omega
    case pos=>
     subst KP;by_cases ho0:q.1=0
     case pos=>
      have HE:Ε (FW=true):=H (by rw[HT.out,hd,Λ];simp[ho0]);have g1:(q.1==0)=true:=by simp[ho0]
      clear HT hd MD;go_wp2_with fail;go_ret;exact⟨by rw[HE.out];rfl,dL.alloc hB _⟩
     case neg=>
      have g1:(q.1==0)=false:=by simp[ho0]
      have HE:Ε (FW=(PB q.1||(zs.drop (k+1)).any λp=>p.2==q.2&&(p.1==0||PB p.1))):=H (by rw[HT.out,hd,Λ,g1];simp);clear HT hd MD;have cD:=(μ wr.heap.size wr).alloc (κ _) (θ #[V Z q.1,V Z q.2] 191);obtain⟨q0,q1,q2,q3,q4,q5,q6,q7,q8,q9⟩:=ca (r0.on cD);obtain⟨c0,c1,c2,_,_,_⟩:=bW (r1.on cD);go_wp2_with fail;refine(hP.out _ q.1 (dL.alloc hB _) hqb.1 hqb.2).mono ?_;rintro e w5 ⟨rfl,bB⟩;generalize J:PB q.1=pb at *
      clear q0 q1 q2 q3 q4 q5 q6 q7 q8 q9 c0 c1 c2;cases pb
      ·go_wp2_with fail;go_roundw
       case rel=>exact⟨k+1,by omega,by go_num,(dL.alloc hB _).trans (bB.mono (by simp;omega)),(r0.on cD).on bB,(r1.on cD).on bB,H (by rw[HE.out];simp)⟩
       case measure=>simp[intOf];omega
      go_wp2_with fail;go_ret;exact⟨by rw[HE.out];simp,(dL.alloc hB _).trans (bB.mono (by simp;omega))⟩
theorem ae0 (r:aE)(m md wk pl:Value)(tx:ByteArray)(n:Int)(w:ι)(K:eE w r m md wk pl)(ho:ei r)(h0:-10000<=n)(G:n<=300000):
 π prog 267 #[bG r.fq r.iv r.ct r.un m md wk pl r.ws tx,aZ n] w λe I=>e=δ (.bool (yt r n))/\Below w.heap.size w I:=by
 have hA:Ε (∀W,Below w.heap.size w W->π prog 275 #[bG r.fq r.iv r.ct r.un m md wk pl r.ws tx,aZ n] W λe I=>e=δ (.bool (GX r n))/\Below W.heap.size W I):=H λW U=>N0 r m md wk pl tx n W (K.on U) ho;have hB:Ε (∀W,Below w.heap.size w W->π prog 276 #[bG r.fq r.iv r.ct r.un m md wk pl r.ws tx,aZ n] W λe I=>e=δ (.bool (GY r n))/\Below W.heap.size W I):=H λW U=>GZ r m md wk pl tx n W (K.on U) ho h0 G;have hC:Ε (∀W,Below w.heap.size w W->π prog 277 #[bG r.fq r.iv r.ct r.un m md wk pl r.ws tx,aZ n] W λe I=>e=δ (.bool (wj r n))/\Below W.heap.size W I):=H λW U=>JS r m md wk pl tx n W (K.on U) ho h0 G;obtain⟨a1,S⟩:=K.ms.form;obtain⟨a2,e2⟩:=K.mds.form;obtain⟨a3,e3⟩:=K.pls.form;obtain⟨a4,e4⟩:=K.wks.form;clear K ho;have hF:Ε (yt r n=(GX r n&&GY r n&&wj r n)):=H rfl;generalize yt r n=F at *
 generalize GX r n=aqt at *
 generalize GY r n=B at *
 generalize wj r n=C at *
 generalize r.fq=fq at *
 generalize r.iv=iv at *
 generalize r.ct=ct at *
 generalize r.un=un at *
 generalize r.ws=ws at *
 generalize r.ms.length=n1 at *
 generalize r.mds.length=n2 at *
 generalize r.pls.length=n3 at *
 generalize r.wks.length=n4 at *
 subst S e2 e3 e4;unfold aZ cV bG at *
 have r0:=kC w [V Z fq,V Z iv,V Z ct,V Z un,ζ a1 n1 n1,ζ a2 n2 n2,ζ a4 n4 n4,ζ a3 n3 n3,V Z ws,η tx] 96 (θ #[V Z (ag.au n),V Z (ag.ofM n),V Z (ag.aA n)] 88);have r1:=kD w [V Z (ag.au n),V Z (ag.ofM n),V Z (ag.aA n)] 88 (θ #[V Z fq,V Z iv,V Z ct,V Z un,ζ a1 n1 n1,ζ a2 n2 n2,ζ a4 n4 n4,ζ a3 n3 n3,V Z ws,η tx] 96);have al:=mu w (θ #[V Z fq,V Z iv,V Z ct,V Z un,ζ a1 n1 n1,ζ a2 n2 n2,ζ a4 n4 n4,ζ a3 n3 n3,V Z ws,η tx] 96) (θ #[V Z (ag.au n),V Z (ag.ofM n),V Z (ag.aA n)] 88);go_enter func267,ntmps267;go_wp2_with fail;refine(hA.out _ al).mono ?_;rintro e w1 ⟨rfl,ay⟩;replace r0:=r0.on ay;replace r1:=r1.on ay;replace al:=al.trans (ay.mono al.size);clear ay;cases aqt
 ·go_wp2_with fail;go_ret;exact⟨by rw[hF.out];simp,al⟩
 obtain⟨q0,q1,q2,q3,q4,q5,q6,q7,q8,q9⟩:=ca r0;obtain⟨c0,c1,c2,_,_,_⟩:=bW r1;go_wp2_with fail;refine(hB.out _ al).mono ?_;rintro e w2 ⟨rfl,aN⟩;replace r0:=r0.on aN;replace r1:=r1.on aN;replace al:=al.trans (aN.mono al.size);clear aN q0 q1 q2 q3 q4 q5 q6 q7 q8 q9 c0 c1 c2;cases B
 ·go_wp2_with fail;go_ret;exact⟨by rw[hF.out];simp,al⟩
 obtain⟨q0,q1,q2,q3,q4,q5,q6,q7,q8,q9⟩:=ca r0;obtain⟨c0,c1,c2,_,_,_⟩:=bW r1;go_wp2_with fail;refine(hC.out _ al).mono ?_;rintro e w3 ⟨rfl,aP⟩;go_wp2_with fail;go_ret;exact⟨by rw[hF.out];simp,al.trans (aP.mono al.size)⟩
end Go.Proofs.YtchdfdmjihnhkaaGreatDoor
namespace Go.Proofs.YtchdfdmjihnhkaaGreatDoor
open Tryz
open Go.RowKit
def RM (P:τ)(l:Nat)(R:Ϟ->ι->Prop):Ν->Θ->ι->Prop
 | .normal,_,w=>∃v I,(Instr.endRound l none).run P w=.ok v I/\R (δ v) I
 | .ret,_,w=>∃v I,(Instr.endRound l (some .ret)).run P w=.ok v I/\R (δ v) I
 | .exit id,_,w=>∃v I,(Instr.endRound l (some (.exit id))).run P w=.ok v I/\R (δ v) I
 | .goto t,_,w=>∃v I,(Instr.endRound l (some (.goto t))).run P w=.ok v I/\R (δ v) I
 | .panic c,a,w=>a.defers=[]/\R (ε c) w
 | .outgrown,_,_=>False
abbrev ak:=Nat->Prop
abbrev aQ:=ak->ι->Prop
def On (D:ak)(aqx:aQ)(W:ι):Prop:=(∀k,D k->k<W.heap.size)/\xk D (aqx D) W
theorem On.out {D:ak}{aqx:aQ}{W:ι}(h:On D aqx W):aqx D W:=h.2.out
theorem On.on {D:ak}{aqx:aQ}{W W':ι}(h:On D aqx W)(Y:∀k,D k->W'.heap[k]?=W.heap[k]?):On D aqx W':=
 ⟨λk hd=>En (h.1 k hd) (Y k hd),h.2.on Y⟩
theorem On.below {D:ak}{aqx:aQ}{W W':ι}(h:On D aqx W)(U:Below W.heap.size W W'):On D aqx W':=h.on λk hd=>U.block k (h.1 k hd)
theorem On.put {D:ak}{aqx:aQ}{W:ι}(h:On D aqx W){r:Nat}(hr:¬D r)(o:Obj):On D aqx (W.putObj r o):=
 h.on λ_ hd=>ο (λe=>hr (e▸hd))
theorem On.alloc {D:ak}{aqx:aQ}{W:ι}(h:On D aqx W)(o:Obj):On D aqx (W.alloc o):=h.on λk hd=>ώ _ _ _ (h.1 k hd)
theorem On.imp {D:ak}{aqx J':aQ}{W:ι}(h:On D aqx W)(hj:∀w,aqx D w->J' D w):On D J' W:=⟨h.1,λW2 Y=>hj _ (h.2 W2 Y)⟩
def aO (O:ak)(aqv:Nat)(aqx:aQ)(W W':ι):Prop:=
 aj O W W'/\∃D:ak,(∀k,D k->O k\/aqv<=k)/\(∀k,O k->D k)/\On D aqx W'
theorem aO.imp {O:ak}{aqv:Nat}{aqx J':aQ}{W W':ι}(h:aO O aqv aqx W W')(hj:∀D w,aqx D w->J' D w):aO O aqv J' W W':=by
 obtain⟨x,D,d1,d2,d3⟩:=h;exact⟨x,D,d1,d2,d3.imp (hj D)⟩
def kO (P:τ)(g:Nat)(lb:Array Value)(xs:List (Array Value))(R:ak)(w:ι):Prop:=
 ∀(l:Nat) (W:ι) (O:ak) (aqx:Nat->aQ) (Js:aQ) (Jp:List ρ->aQ),
  w.heap.size<=W.heap.size->(∀k,R k->W.heap[k]?=w.heap[k]?)->(∀k,O k->¬R k)->On O (aqx 0) W->
  (∀i x,xs[i]?=some x->∀(W1:ι) (D:ak),aj O W W1->(∀k,D k->O k\/W.heap.size<=k)->(∀k,O k->D k)->On D (aqx i) W1->
   YieldAt ξ 0 P l x W1 λe W'=>
    (e=δ (.bool true)/\aO D W1.heap.size (aqx (i+1)) W1 W')\/(e=δ (.bool false)/\aO D W1.heap.size Js W1 W')\/(∃c,e=ε c/\aO D W1.heap.size (Jp c) W1 W'))->
  CallsIn ξ 0 P g (#[.func (.yield l) #[] #[]]++lb) W λe W'=>
   ((∃v,e=δ v)/\(aO O W.heap.size (aqx xs.length) W W'\/aO O W.heap.size Js W W'))\/(∃c,e=ε c/\aO O W.heap.size (Jp c) W W')
def Ek (D:ak)(aqx:aQ)(Jx:φ->aQ)(Jp:List ρ->aQ)(W:ι):Ν->Θ->ι->Prop
 | .normal,_,W'=>aO D W.heap.size aqx W W'
 | .ret,_,W'=>aO D W.heap.size (Jx .ret) W W'
 | .exit id,_,W'=>aO D W.heap.size (Jx (.exit id)) W W'
 | .goto t,_,W'=>aO D W.heap.size (Jx (.goto t)) W W'
 | .panic c,a,W'=>a.defers=[]/\aO D W.heap.size (Jp c) W W'
 | .outgrown,_,_=>False
def nG (f:Η)(ro:Option Nat)(P:τ)(c:φ)(Q:Ν->Θ->ι->Prop)(a:Θ)(w:ι):Prop:=
 ∀(b:Frame) (k:List Item) (cs:List Frame),b.roundOf=ro->b.fn=f->
  ∃e a' I,Q e a' I/\ArrivesIn (υ P ξ) P (lone (b.atR a (.code c::k)) cs w) b k cs e a' I
section
variable {f:Η} {ro:Option Nat} {P:τ} {Q:Ν->Θ->ι->Prop} {a:Θ} {w:ι}
theorem wP {x y:φ}(h:∀aqy:Θ->ι->Prop,(∀a w,nG f ro P y Q a w->aqy a w)->nG f ro P x (Exit.then aqy Q) a w):nG f ro P (Code.seq x y) Q a w:=by
 intro b k cs AN U;have h0:(lone (b.atR a (.code (.seq x y)::k)) cs w).fenced P ξ:=fenced_wide _ _;obtain⟨e,a₁,w₁,hq,fJ⟩:=h (nG f ro P y Q) (λ_ _ h=>h) b (.code y::k) cs AN U;cases e with
 |normal=>
  obtain⟨e₂,a₂,w₂,I7,yu⟩:=hq b k cs AN U;exact⟨e₂,a₂,w₂,I7,.of_steps (.head h0 stepR_seq fJ) yu⟩
 |exit id=>exact⟨_,a₁,w₁,hq,.of_steps (.one h0 stepR_seq) (.pass (x:=.code y) rfl (λ_ _=>.inl (by simp)) fJ)⟩
 |goto l=>exact⟨_,a₁,w₁,hq,.of_steps (.one h0 stepR_seq) (.pass (x:=.code y) rfl (λ_ _=>.inl (by simp)) fJ)⟩
 |ret=>exact⟨_,a₁,w₁,hq,.of_steps (.one h0 stepR_seq) (.pass (x:=.code y) rfl (λ_ _=>.inl (by simp)) fJ)⟩
 |panic ch=>exact⟨_,a₁,w₁,hq,.of_steps (.one h0 stepR_seq) (.pass (x:=.code y) rfl (λ_ _=>.inl (by simp)) fJ)⟩
 |outgrown=>exact⟨_,a₁,w₁,hq,.of_steps (.one h0 stepR_seq) (.pass (x:=.code y) rfl (λ_ _=>.inl (by simp)) fJ)⟩
theorem oG {id:Nat}{c:φ}(h:nG f ro P c (Ζ id Q) a w):nG f ro P (Code.block id c) Q a w:=by
 intro b k cs AN U;have kh:∀m,υ P ξ m:=λm=>fenced_wide _ m;obtain⟨e,a₁,w₁,hq,fJ⟩:=h b (.inBlock id::k) cs AN U;cases e with
 |normal=>exact⟨.normal,a₁,w₁,hq,.head (kh _) stepR_block (ν fJ (.one (kh _) stepR_inBlock))⟩
 |exit U5=>
  by_cases hid:U5=id
  ·simp only[Ζ,hid,if_true]at hq;exact⟨.normal,a₁,w₁,hq,.head (kh _) stepR_block (fJ.1 k (by simp[exitTo,hid]))⟩
  simp only[Ζ,hid,if_false]at hq;have this:(id==U5)=false:=by simp;exact λh=>hid h.symm
  have N:exitTo U5 (.inBlock id::k)=exitTo U5 k:=by simp[exitTo,this]
  exact⟨.exit U5,a₁,w₁,hq,λk' Y=>.head (kh _) stepR_block (fJ.1 k' (by rw[N];exact Y)),
   λjv Y=>let⟨k₁,G,A⟩:=fJ.2 jv (by rw[N];exact Y);⟨k₁,G,.head (kh _) stepR_block A⟩⟩
 |goto l=>
  have N:gotoIn l (.inBlock id::k)=gotoIn l k:=by simp[gotoIn]
  exact⟨_,a₁,w₁,hq,λk' Y=>.head (kh _) stepR_block (fJ.1 k' (by rw[N];exact Y)),
   λjv Y=>let⟨k₁,G,A⟩:=fJ.2 jv (by rw[N];exact Y);⟨k₁,G,.head (kh _) stepR_block A⟩⟩
 |ret=>exact⟨_,a₁,w₁,hq,.of_steps (.one (kh _) stepR_block) fJ⟩
 |panic ch=>exact⟨_,a₁,w₁,hq,.of_steps (.one (kh _) stepR_block) fJ⟩
 |outgrown=>exact⟨_,a₁,w₁,hq,.of_steps (.one (kh _) stepR_block) fJ⟩
end
def vi (f:Η)(P:τ)(c:φ)(Q:Ν->Θ->ι->Prop)(a:Θ)(w:ι):Prop:=nG f none P c Q a w
section vi
variable {f:Η} {P:τ} {Q:Ν->Θ->ι->Prop} {a:Θ} {w:ι}
theorem bQ {c:φ}(h:c.wpIn ξ 0 P Q a w):vi f P c Q a w:=λb k cs AN _=>h b k cs AN trivial (room_wide _)
theorem bO {x y:φ}(h:∀aqy:Θ->ι->Prop,(∀a w,vi f P y Q a w->aqy a w)->vi f P x (Exit.then aqy Q) a w):vi f P (Code.seq x y) Q a w:=wP h
theorem gj {id:Nat}{c:φ}(h:vi f P c (Ζ id Q) a w):vi f P (Code.block id c) Q a w:=oG h
theorem di {fn:Func}{c:φ}{args:Array Value}{R:Ϟ->ι->Prop}(hf:P.funcs[f]?=some fn)(U:fn.body=some c)
 (h:vi f P c (bodyPostM ξ 0 P fn R) {tmps:=args++ϙ (fn.ntmps-args.size) undef,defers:=[]} w):CallsIn ξ 0 P f args w R:=by
 refine⟨trivial,λcs hr=>?_⟩;have hF:Fence.wide.fn f:=trivial;have kh:∀m,υ P ξ m:=λm=>fenced_wide _ m;let b:Frame:={(default:Frame)with fn:=f,kind:=.normal,roundOf:=none};have AO:Frame.enter P f args .normal=
  b.atR {tmps:=args++ϙ (fn.ntmps-args.size) undef,defers:=[]} [.code c]:=by
  simp[Frame.enter,Frame.atR,hf,U,b]
 obtain⟨e,a',I,hq,fJ⟩:=h b [] cs rfl rfl;rw[<-AO]at fJ;cases e with
 |normal=>
  obtain⟨e',az,U6,hR,hs,B7,K⟩:=leaves_stepsInM a'.defers .returning I {b.atR a' []with mode:=.returning} cs rfl rfl rfl hf rfl hF hr hq;exact⟨e',az,U6,hR,ComesIn.of_steps (ν fJ (.one (kh _) (stepR_end rfl))) hs,B7,K⟩
 |ret=>
  obtain⟨todo,hs₀⟩:=fJ.1 rfl;obtain⟨e',az,U6,hR,hs,B7,K⟩:=leaves_stepsInM a'.defers .returning I {b.atR a' todo with mode:=.returning} cs rfl rfl rfl hf rfl hF hr hq;exact⟨e',az,U6,hR,ComesIn.of_steps hs₀ hs,B7,K⟩
 |panic chain=>
  obtain⟨todo,hs₀⟩:=fJ;obtain⟨e',az,U6,hR,hs,B7,K⟩:=leaves_stepsInM a'.defers (.panicking chain) I {b.atR a' todo with mode:=.panicking chain} cs rfl rfl rfl hf rfl hF hr hq;exact⟨e',az,U6,hR,ComesIn.of_steps hs₀ hs,B7,K⟩
 |exit id=>exact hq.elim
 |goto l=>exact hq.elim
 |outgrown=>exact⟨.outgrown,I,b,hq,fJ.resolve_left (by simp[b]),rfl,trivial⟩
end vi
end Go.Proofs.YtchdfdmjihnhkaaGreatDoor
namespace Go.Proofs.YtchdfdmjihnhkaaGreatDoor
open Tryz
open Go.RowKit Go.Sort
attribute [local go_sem] Oper.semAt_some
def dx (a:Int)(n:Nat):List Int:=(List.range n).map λ(i:Nat)=>a+i
theorem ME (a:Int)(n i:Nat)(h:i<n):(dx a n)[i]?=some (a+i):=by
 unfold dx;rw[ύ,List.getElem?_range h];rfl
theorem yv (a:Int)(n:Nat):(dx a n).length=n:=by unfold dx;simp
theorem X.keep {w I:ι}{g:Nat}{cs:List Value}{t:Α}(h:X w g cs t)(e:I.heap[g]?=w.heap[g]?):X I g cs t:=e.trans h
theorem On.set {D:ak}{aqx:aQ}{W:ι}(h:On D aqx W){b o:Nat}(U:¬D b)(v:Value):On D aqx (W.setCell ⟨b,o,none⟩ v):=
 h.on λk Y=>Ψ _ _ _ _ (λ(e:k=b)=>U (e▸Y))
theorem agD (a b:Int)(w:ι)(ha:-700000<=a)(U:-700000<=b):
 (Op.equalIn 10000 88 (.agg #[V Z (ag.au a),V Z (ag.ofM a),V Z (ag.aA a)]) (.agg #[V Z (ag.au b),V Z (ag.ofM b),V Z (ag.aA b)])).run prog w=.ok (decide (a=b)) w:=by
 rw[N6];congr 1;rw[Bool.eq_iff_iff];simp only[Bool.and_eq_true,beq_iff_eq,decide_eq_true_eq];constructor
 ·rintro⟨⟨G,A⟩,M⟩;exact US ha U (by unfold aZ cV;rw[G,A,M])
 rintro rfl;exact⟨⟨rfl,rfl⟩,rfl⟩
def uN (l:List Int):List (Array Value):=l.map λn=>#[aZ n]
theorem lj (l:List Int):(uN l).length=l.length:=by unfold uN;simp
theorem qB {l:List Int}{i:Nat}{n:Int}(h:l[i]?=some n):(uN l)[i]?=some #[aZ n]:=by unfold uN;rw[ύ,h];rfl
theorem ae2 (a:Int)(n:Nat)(g:Nat)(w:ι)(h0:-600000<=a)(G:a+n<=800000)(hr:X w g (rj a (a+n)) 277):
 kO prog 274 #[.pointer (some ⟨g,0,none⟩)] (uN (dx a n)) (λk=>k=g) w:=by
 intro l W O aqx Js Jp bA hR hO cM hY;have lX:X W g (rj a (a+n)) 277:=hr.keep (hR g rfl);have aR:=lX.lt;have hnO:¬O g:=λh=>hO g h rfl;rw[lj,yv];refine callsIn_of_wp func274 rfl trivial ?_ rfl;simp only[ntmps274,ϋ,Ϗ,ϛ,ϝ,Ϝ,Φ,Υ,ό,Χ,Ϛ,Ϙ];unfold rj at lX;obtain⟨⟨z0,z1,z2,z3,z4,z5⟩,y0,y1,y2,y3,y4,y5⟩:=jS lX;gi_wp2_with fail;have rp:=X.new W [V Z (ag.au a),V Z (ag.ofM a),V Z (ag.aA a)] 88;have hbp:Below W.heap.size W (W.alloc (θ #[V Z (ag.au a),V Z (ag.ofM a),V Z (ag.aA a)] 88)):=(μ _ _).alloc (κ _) _;generalize(W.alloc (θ #[V Z (ag.au a),V Z (ag.ofM a),V Z (ag.aA a)] 88))=W0 at *
 clear z0 z1 z2 z3 z4 z5 y0 y1 y2 y3 y4 y5;gi_loopg [3] n (λk p wr=>∃(i b:Nat) (D:ak),i+k=n/\p=.pointer (some ⟨b,0,none⟩)/\W.heap.size<=b/\aj O W wr/\X wr b [V Z (ag.au (a+i)),V Z (ag.ofM (a+i)),V Z (ag.aA (a+i))] 88/\¬D b/\(∀k,D k->O k\/W.heap.size<=k)/\(∀k,O k->D k)/\On D (aqx i) wr)
 case atStart=>
  exact⟨0,W.heap.size,O,by omega,rfl,κ _,aj.aq hbp,by simpa using rp,λh=>by have:=cM.1 _ h;omega,λ_ h=>.inl h,λ_ h=>h,cM.below hbp⟩
 case round=>
  obtain⟨i,b,D,OI,rfl,hWb,N,U,uh,eh,dT,aG⟩:=hrel;have hg:=lX.aM N hnO;obtain⟨⟨z0,z1,z2,z3,z4,z5⟩,y0,y1,y2,y3,y4,y5⟩:=jS hg;obtain⟨c0,c1,c2,_,_,_⟩:=bW U;have heq:=agD (a+i) (a+n) wr (by omega) (by omega);by_cases mw:i=n
  case pos=>
   subst mw;simp only[decide_true]at heq;gi_wp2_with fail;go_end0;exact .inl ⟨⟨_,rfl⟩,.inl ⟨N,D,eh,dT,aG⟩⟩
  case neg=>
   rw[decide_eq_false (by omega)]at heq;obtain⟨f1,t1,a1,b1,gC,eB⟩:=hY i _ (qB (ME a n i (by omega))) wr D N eh dT aG;unfold aZ cV at gC;gi_wp2_with fail;refine⟨rfl,eB.mono ?_⟩;clear gC eB heq z0 z1 z2 z3 z4 z5 y0 y1 y2 y3 y4 y5 c0 c1 c2;rintro e W1 (⟨rfl,bC,D1,d1,d2,pj⟩|⟨rfl,bC,D1,d1,d2,pj⟩|⟨c,rfl,bC,D1,d1,d2,pj⟩)
   case inl=>
    have ay:=U.aM bC uh;have aoz:¬D1 b:=λh=>(d1 _ h).elim uh (by have:=U.lt;omega);have ae3:aj O W W1:=N.trans bC (λj hj=>eh j hj);obtain⟨c0,c1,c2,_,_,_⟩:=bW ay;gi_wp2_with fail;refine⟨trivial,rfl,?_⟩;have dL:=UT (a+i) (W1.alloc (θ #[V Z (ag.au (a+i)),V Z (ag.ofM (a+i)),V Z (ag.aA (a+i))] 88)) (by omega) (by omega);unfold aZ cV at dL;refine(callsIn_wide.2 dL).mono ?_;rintro e W2 ⟨rfl,aN⟩;clear c0 c1 c2;have r2:=(X.new W1 [V Z (ag.au (a+i)),V Z (ag.ofM (a+i)),V Z (ag.aA (a+i))] 88).on aN;have bN:aj O W W2:=(ae3.alloc _).aK (aj.aq aN);have dX:=(pj.alloc (θ #[V Z (ag.au (a+i)),V Z (ag.ofM (a+i)),V Z (ag.aA (a+i))] 88)).below aN;have zA:=ae3.size;have I8:¬D1 W1.heap.size:=λh=>by have:=pj.1 _ h;omega
    obtain⟨c0,c1,c2,v0,v1,v2⟩:=bW r2;gi_wp2_with fail;gi_roundg (gk-1)
    case measure=>omega
    case rel=>
     refine⟨i+1,W1.heap.size,D1,by omega,rfl,by omega,?_,?_,I8,?_,λk Y=>d2 k (dT k Y),?_⟩
     ·exact((bN.setCell (.inr (by simpa using zA)) _).setCell (.inr (by simpa using zA)) _).setCell (.inr (by simpa using zA)) _
     ·have:=((r2.set (k:=0) (V Z (ag.au (a+i+1)))).set (k:=1) (V Z (ag.ofM (a+i+1)))).set (k:=2) (V Z (ag.aA (a+i+1)));simpa[Int.add_assoc]using this
     ·intro k Y;rcases d1 k Y with h|h
      ·exact eh k h
      exact .inr (by have:=N.size;omega)
     exact((dX.set I8 _).set I8 _).set I8 _
   case inr.inl=>
    gi_wp2_with fail;refine bodyPost_ret (results_none rfl _ _ _) rfl ?_;exact .inl ⟨⟨_,rfl⟩,.inr ⟨N.trans bC (λj hj=>eh j hj),D1,λk Y=>(d1 k Y).elim (eh k) (λh=>.inr (by have:=N.size;omega)),λk Y=>d2 k (dT k Y),pj⟩⟩
   case inr.inr=>
    gi_wp2_with fail;exact⟨rfl,.inr ⟨c,rfl,N.trans bC (λj hj=>eh j hj),D1,λk Y=>(d1 k Y).elim (eh k) (λh=>.inr (by have:=N.size;omega)),λk Y=>d2 k (dT k Y),pj⟩⟩
theorem agE (a b:Int)(w:ι):
 π prog 266 #[dt a b] w λe I=>e=δ (.func (.func 274) #[] #[.pointer (some ⟨w.heap.size,0,none⟩)])/\I=w.alloc (θ (rj a b).toArray 277):=by
 unfold dt rj;go_enter func266,ntmps266;go_wp2_with fail;go_ret;exact⟨rfl,rfl⟩
end Go.Proofs.YtchdfdmjihnhkaaGreatDoor
namespace Go.Proofs.YtchdfdmjihnhkaaGreatDoor
open Tryz
open Go.RowKit
def pQ (P:τ)(g:Nat)(lb:Array Value)(Ok:List (Array Value)->Prop)(R:ak)(w:ι):Prop:=
 ∀(l:Nat) (W:ι) (O:ak) (aqx:List (Array Value)->aQ) (Js:aQ) (Jp:List ρ->aQ),
  w.heap.size<=W.heap.size->(∀k,R k->W.heap[k]?=w.heap[k]?)->(∀k,O k->¬R k)->On O (aqx []) W->
  (∀pre x,(∃gi,Ok (pre++x::gi))->∀(W1:ι) (D:ak),aj O W W1->(∀k,D k->O k\/W.heap.size<=k)->(∀k,O k->D k)->On D (aqx pre) W1->
   YieldAt ξ 0 P l x W1 λe W'=>
    (e=δ (.bool true)/\aO D W1.heap.size (aqx (pre++[x])) W1 W')\/(e=δ (.bool false)/\aO D W1.heap.size Js W1 W')\/(∃c,e=ε c/\aO D W1.heap.size (Jp c) W1 W'))->
  CallsIn ξ 0 P g (#[.func (.yield l) #[] #[]]++lb) W λe W'=>
   ((∃v,e=δ v)/\((∃xs,Ok xs/\aO O W.heap.size (aqx xs) W W')\/aO O W.heap.size Js W W'))\/(∃c,e=ε c/\aO O W.heap.size (Jp c) W W')
theorem kO.n {P:τ}{g:Nat}{lb:Array Value}{xs:List (Array Value)}{R:ak}{w:ι}(h:kO P g lb xs R w):pQ P g lb (λys=>ys=xs) R w:=by
 intro l W O aqx Js Jp G A M h4 hY;refine(h l W O (λi=>aqx (xs.take i)) Js Jp G A M (by simpa using h4) (λi x N W1 D a b c d=>?_)).mono ?_
 ·have S:xs.take (i+1)=xs.take i++[x]:=by rw[List.take_add_one,N];rfl
  have e2:xs.take i++x::xs.drop (i+1)=xs:=by
   obtain⟨K,rfl⟩:=List.getElem?_eq_some_iff.1 N;rw[<-Β K,List.take_append_drop]
  simp only[S];exact hY (xs.take i) x ⟨xs.drop (i+1),e2⟩ W1 D a b c d
 rintro e W' (⟨v,h|h⟩|h)
 ·exact .inl ⟨v,.inl ⟨xs,rfl,by simpa using h⟩⟩
 ·exact .inl ⟨v,.inr h⟩
 exact .inr h
def ae4 (f:Η)(ro:Option Nat)(P:τ)(l:Nat)(Q:Ν->Θ->ι->Prop)(a':Θ):Ϟ->ι->Prop
 | δ _,w₃=>∃jump w₄,(Instr.endLoop l).run P w₃=.ok jump w₄/\(match jump with
  |none=>Q .normal a' w₄
  |some c=>nG f ro P c Q a' w₄)
 | ε chain,w₃=>Q (.panic chain) a' w₃
 | .outgrown,_=>LetsOut Q
section
variable {f:Η} {ro:Option Nat} {P:τ} {Q:Ν->Θ->ι->Prop} {a:Θ} {w:ι}
theorem rR {l:Nat}{c:φ}(h:c.wpIn (Fence.wide.inRound l) 0 P Q a w):nG f (some l) P c Q a w:=λb k cs AN _=>h b k cs AN trivial (room_wide _)
theorem U7 {g:Ο}{ps:Array Tmp}{assign body:φ}
 (h:∃(l:Nat) (mark:List Deferred) (w₁:ι) (d:Deferred) (w₁':ι) (f':Η) (args:Array Value) (w₂:ι),
  (Instr.enterLoop f a.tmps ps assign body ro).run P w=.ok (l,mark) w₁/\
  (resolve a.eval (rangeCall g l) 0).run P w₁=.ok d w₁'/\
  (invoke d.target d.args).run P w₁'=.ok (.enter f' args) w₂/\
  CallsIn ξ 0 P f' args w₂ (ae4 f ro P l Q {a with defers:=mark++a.defers})):
 nG f ro P (ω g ps assign body) Q a w:=by
 intro b k cs AN U;have kh:∀m,υ P ξ m:=λm=>fenced_wide _ m;obtain⟨l,mark,w₁,d,w₁',f',args,w₂,he,Rx,hinv,hF,agF⟩:=h;rw[<-U,<-AN]at he;have AO:=stepR_rangeFunc (P:=P) (b:=b) (a:=a) (k:=k) (cs:=cs) (w:=w) he Rx hinv;obtain⟨e,w₃,fr,hR,MF,B7,U8⟩:=agF (b.atR {a with defers:=mark++a.defers} (.inRangeFunc l::k)::cs) (room_wide _);cases e with
 |outgrown=>
  obtain⟨a₀,w₀,hq⟩:=hR;exact⟨.outgrown,a₀,w₀,hq,.inr (Outgrown.of_steps (.one AO) MF)⟩
 |returned v=>
  obtain⟨jump,w₄,jW,hj⟩:=hR;have aas:StepsIn (υ P ξ) P (lone (b.atR a (.code (.rangeFunc g ps assign body)::k)) cs w) (lone (b.atR {a with defers:=mark++a.defers} ((jump.map Item.code).toList++k)) cs w₄):=by
   refine .head (kh _) AO (ν MF (.head (kh _) ?_ (.one (kh _) (stepR_endRangeFunc jW))));rw[<-finish_atR_inRangeFunc l v];exact step_leave_returned U8
  cases jump with
  |none=>exact⟨.normal,_,w₄,hj,aas⟩
  |some c=>
   obtain⟨e',a'',w₅,hq,fJ⟩:=hj b k cs AN U;exact⟨e',a'',w₅,hq,.of_steps aas fJ⟩
 |panicked chain=>
  refine⟨.panic chain,_,w₃,hR,.inRangeFunc l::k,.head (kh _) AO (ν MF (.one (kh _) ?_))⟩;rw[<-Frame.raise_atR];exact step_leave_panicked U8
theorem Yi {c:φ}{Q':Ν->Θ->ι->Prop}(h:nG f ro P c Q a w)(hq:∀e a w,Q e a w->Q' e a w):nG f ro P c Q' a w:=λb k cs G A=>
 let⟨e,a',I,q,s⟩:=h b k cs G A
 ⟨e,a',I,hq _ _ _ q,s⟩
end
theorem G1 {P:τ}{l:Nat}{f:Η}{fn:Func}{tmps:Array Value}{assign body:φ}{w:ι}{R:Ϟ->ι->Prop}(B7:P.funcs[f]?=some fn)
 (h:assign.wpIn (Fence.wide.inRound l) 0 P (Exit.then (λa₁ w₁=>∃w₂,(Instr.beginRound l).run P w₁=.ok () w₂/\nG f (some l) P body (RM P l R) a₁ w₂) (λ_ _ _=>False))
  {tmps:=tmps,defers:=[]} w):
 RoundIn ξ 0 P l f tmps assign body w R:=by
 refine⟨trivial,λc cs hr=>?_⟩;let b:Frame:={(default:Frame)with fn:=f,kind:=.normal,roundOf:=some l};have bj:Frame.round l f tmps assign body .normal=b.atR {tmps:=tmps,defers:=[]} [.code assign,.beginRound,.code body]:=by
  simp[Frame.round,Frame.atR,b]
 have jv:(Fence.wide.inRound l).room ((c::cs).length+1+0):=hr;have MG:(Fence.wide.inRound l).fn b.fn:=trivial;obtain⟨e,a₁,w₁,hq,fJ⟩:=h b [.beginRound,.code body] (c::cs) rfl MG jv;rw[<-bj]at fJ;cases e with
 |normal=>
  obtain⟨w₂,jx,yw⟩:=hq;have s1:StepsIn (υ P (Fence.wide.inRound l)) P (lone (b.atR a₁ [.beginRound,.code body]) (c::cs) w₁) (lone (b.atR a₁ [.code body]) (c::cs) w₂):=
   .one (fenced_calm (fr:=b.atR a₁ [.beginRound,.code body]) MG jv rfl) (stepR_beginRound rfl jx)
  obtain⟨e₂,a₂,w₃,I7,yu⟩:=yw b [] (c::cs) rfl rfl;cases e₂ with
  |normal=>
   obtain⟨v,w₄,jW,hR⟩:=I7;exact⟨δ v,w₄,hR,(ν fJ s1).trans (ν yu (.one (fenced_calm (fr:=b.atR a₂ []) MG jv rfl) (stepR_round_end rfl rfl jW)))⟩
  |ret=>
   obtain⟨v,w₄,jW,hR⟩:=I7;obtain⟨k₁,hs⟩:=yu.2 rfl;exact⟨δ v,w₄,hR,(ν fJ s1).trans (ν hs (.one (fenced_calm (fr:=b.atR a₂ (.code .ret::k₁)) MG jv rfl) (stepR_round_ret rfl rfl jW)))⟩
  |exit id=>
   obtain⟨v,w₄,jW,hR⟩:=I7;obtain⟨k₁,Y,hs⟩:=yu.2 rfl rfl;exact⟨δ v,w₄,hR,(ν fJ s1).trans (ν hs (.one (fenced_calm (fr:=b.atR a₂ (.code (.exit id)::k₁)) MG jv rfl) (stepR_round_exit rfl rfl Y jW)))⟩
  |goto t=>
   obtain⟨v,w₄,jW,hR⟩:=I7;obtain⟨k₁,Y,hs⟩:=yu.2 rfl rfl;exact⟨δ v,w₄,hR,(ν fJ s1).trans (ν hs (.one (fenced_calm (fr:=b.atR a₂ (.code (.goto t)::k₁)) MG jv rfl) (stepR_round_goto rfl rfl Y jW)))⟩
  |panic chain=>
   obtain⟨hd,hR⟩:=I7;obtain⟨todo,hs⟩:=yu;have K:({b.atR a₂ todo with mode:=.panicking chain}:Frame).leaving P w₃ (ε chain):=⟨rfl,hd,fn,B7⟩;have rO:(lone {b.atR a₂ todo with mode:=.panicking chain} (c::cs) w₃).fenced P (Fence.wide.inRound l):=fenced_leaving MG jv K;exact⟨ε chain,w₃,hR,(ν fJ s1).trans (ν hs (.one rO (step_leave_panicked K)))⟩
  |outgrown=>exact I7.elim
 |exit id=>exact hq.elim
 |goto t=>exact hq.elim
 |ret=>exact hq.elim
 |panic chain=>exact hq.elim
 |outgrown=>exact hq.elim
theorem El {f:Η}{ua:Func}{P:τ}(nV:P.funcs[f]?=some ua){g:Ο}{ps:Array Tmp}{assign body:φ}{Q:Ν->Θ->ι->Prop}{a:Θ}{w:ι}
 {gf:Nat}{lb:Array Value}{Ok:List (Array Value)->Prop}(hg:a.eval g=.func (.func gf) #[] lb)(eg:∀args w,(callFunc gf args).run P w=.ok (.enter gf args) w)
 {R:ak}{w0:ι}(hit:pQ P gf lb Ok R w0)(ub:w0.heap.size<=w.heap.size)(ud:∀k,R k->w.heap[k]?=w0.heap[k]?)(mA:∀k,R k->k<w.heap.size)
 {ro:Option Nat}{lr:Nat}{mark:List Deferred}{W1:ι}{Zr:Nat}(rK:(Instr.enterLoop f a.tmps ps assign body ro).run P w=.ok (lr,mark) W1)(hlr:w.heap.size<=lr)(zI:W1.heap[lr]?=some (.loop {state:=.ready,pending:=none,fn:=f,tmps:=a.tmps,params:=ps,assign,body,defers:=Zr}))(Oy:W1.heap.size=lr+1)(wJ:Below w.heap.size w W1)
 (O:ak)(hO:∀k,O k->¬R k)(aqx:List (Array Value)->aQ)(Jx:φ->aQ)(Jp:List ρ->aQ)(B:List (Array Value)->Array Value->Θ->aQ)(lz:∀xs,Ok xs->∀x∈xs,x.size=ps.size)(h0:On O (aqx []) w)
 (xo:∀(l:Nat) (i:List (Array Value)) (x:Array Value),(∃gi,Ok (i++x::gi))->∀(W:ι) (D:ak),aj O w W->lr+1<=W.heap.size->(∀k,O k->D k)->(∀k,D k->O k\/lr+1<=k)->On D (aqx i) W->
  ∀aqy:Θ->ι->Prop,(∀a1 W1 D1,Below W.heap.size W W1->(∀k,D1 k->D k\/W.heap.size<=k)->(∀k,D k->D1 k)->On D1 (B i x a1) W1->aqy a1 W1)->
  assign.wpIn (Fence.wide.inRound l) 0 P (Exit.then aqy (λ_ _ _=>False)) {tmps:=(ps.zip x).foldl (λt (p,v)=>t.setIfInBounds p v) a.tmps,defers:=[]} W)
 (yw:∀(i:List (Array Value)) (x:Array Value),(∃gi,Ok (i++x::gi))->∀(a1:Θ) (W:ι) (D:ak),aj O w W->lr+1<=W.heap.size->(∀k,O k->D k)->(∀k,D k->O k\/lr+1<=k)->On D (B i x a1) W->(∃r,W.heap[lr]?=some (.loop r))->¬D lr->
  nG f (some lr) P body (Ek D (aqx (i++[x])) Jx Jp W) a1 W)
 (kZ:∀(xs:List (Array Value)),Ok xs->∀(W:ι),aO O (lr+1) (aqx xs) w W->lr+1<=W.heap.size->(∀k,w.heap.size<=k->k<lr->W.heap[k]?=W1.heap[k]?)->Q .normal {a with defers:=mark++a.defers} W)
 (k4:∀(c:φ) (W:ι),aO O (lr+1) (Jx c) w W->lr+1<=W.heap.size->(∀k,w.heap.size<=k->k<lr->W.heap[k]?=W1.heap[k]?)->nG f ro P c Q {a with defers:=mark++a.defers} W)
 (nW:∀(c:List ρ) (W:ι),aO O (lr+1) (Jp c) w W->lr+1<=W.heap.size->(∀k,w.heap.size<=k->k<lr->W.heap[k]?=W1.heap[k]?)->Q (.panic c) {a with defers:=mark++a.defers} W):
 nG f ro P (ω g ps assign body) Q a w:=by
 refine U7 ?_;obtain⟨rec,fV⟩:∃rec:Ι->Option φ->Loop,rec=λst pe=>{state:=st,pending:=pe,fn:=f,tmps:=a.tmps,params:=ps,assign,body,defers:=Zr}:=⟨_,rfl⟩;replace zI:W1.heap[lr]?=some (.loop (rec .ready none)):=by rw[fV];exact zI
 refine⟨lr,mark,W1,{target:=.fn (.func gf) lb,args:=#[.func (.yield (lr)) #[] #[]]},W1,gf,
  #[.func (.yield (lr)) #[] #[]]++lb,W1,rK,?_,?_,?_⟩
 ·simp only[resolve,hg];simp[go_sem]
 ·simp[invoke,go_sem,eg]
 have nOl:¬O (lr):=λh=>by have:=h0.1 _ h;omega
 obtain⟨L,hL⟩:∃L:aQ->Ι->Option φ->aQ,L=λaqx st pe D W=>(∃D0:ak,(∀k,D k↔D0 k\/k=lr)/\¬D0 (lr)/\(∀k,O k->D0 k)/\(∀k,D0 k->O k\/lr+1<=k)/\On D0 aqx W)/\W.heap[lr]?=some (.loop (rec st pe)):=⟨_,rfl⟩;have mk:∀(aqx:aQ) (st:Ι) (pe:Option φ) (D0:ak) (W:ι),(∀k,O k->D0 k)->(∀k,D0 k->O k\/lr+1<=k)->On D0 aqx W->W.heap[lr]?=some (.loop (rec st pe))->
  On (λk=>D0 k\/k=lr) (L aqx st pe) W:=λaqx st pe D0 W G A M h4=>by
  have n0:¬D0 (lr):=λh=>(A _ h).elim nOl (by omega);refine⟨λk Y=>?_,λW2 Y=>?_⟩
  ·rcases Y with Y|rfl
   ·exact M.1 k Y
   exact(Array.getElem?_eq_some_iff.1 h4).1
  rw[hL];exact⟨⟨D0,λk=>Iff.rfl,n0,G,A,M.on λk hd=>Y k (.inl hd)⟩,(Y _ (.inr rfl)).trans h4⟩
 refine(hit (lr) W1 (λk=>O k\/k=lr)
  (λi=>L (aqx i) .ready none) (λD W=>∃c,L (Jx c) .done (some c) D W) (λc=>L (Jp c) .busy none) (by omega) (λk Y=>(wJ.block k (mA k Y)).trans (ud k Y))
  (λk Y=>by
   rcases Y with Y|rfl
   ·exact hO k Y
   exact λhr=>by have:=mA _ hr;omega) (mk _ _ _ O W1 (λ_ h=>h) (λ_ h=>.inl h) (h0.below wJ) zI) ?_).mono ?_
 ·intro i x N W D ae6 eh dT hD;obtain⟨⟨D0,uy,n0,I9,Ja,aG⟩,K⟩:=by have:=hD.out;rw[hL]at this;exact this
  have aR:lr<W.heap.size:=(Array.getElem?_eq_some_iff.1 K).1;have pV:aj O w W:=(aj.aq wJ).trans ae6 (λj hj=>hj.elim .inl (λe=>.inr (by omega)));have hsw:lr+1<=W.heap.size:=by have:=ae6.size;omega
  have hy:=run_yield (P:=P) (args:=x) K (by rw[fV];exact(by obtain⟨gi,hs⟩:=N;exact lz _ hs x (by simp)));rw[fV]at hy;refine⟨f,_,assign,body,hy,G1 nV (xo _ i x N W D0 pV hsw I9 Ja aG _ ?_)⟩;clear hy;intro a1 W2 D1 aN U9 dP pj;have rI:W2.heap[lr]?=some (.loop (rec .ready none)):=(aN.block _ aR).trans K;have Yj:lr<W2.heap.size:=(Array.getElem?_eq_some_iff.1 rI).1;have n1:¬D1 (lr):=λh=>(U9 _ h).elim n0 (by omega);refine⟨_,run_beginRound rI (by rw[fV]),?_⟩;obtain⟨W3,po⟩:∃W3,W2.putObj (lr) (.loop {rec .ready none with state:=.busy})=W3:=⟨_,rfl⟩;have hl3:W3.heap[lr]?=some (.loop {rec .ready none with state:=.busy}):=by rw[<-po];exact Μ Yj
  have tO:W3.heap.size=W2.heap.size:=by rw[<-po];simp
  have akE:On D1 (B i x a1) W3:=by rw[<-po];exact pj.put n1 _
  have eo:aj D W W3:=by rw[<-po];exact(aj.aq aN).put (.inl ((uy _).2 (.inr rfl))) _
  have akF:aj O w W3:=by
   rw[<-po];exact((pV.aK (aj.aq aN)).put (.inr (by omega)) _)
  rw[po];clear po;refine Yi (yw i x N a1 W3 D1 akF (by have:=aN.size;omega) (λk Y=>dP k (I9 k Y)) (λk Y=>(U9 k Y).elim (Ja k) (λh=>.inr (by omega))) akE ⟨_,hl3⟩ n1) ?_;have fin:∀(J':aQ) (W4:ι),aO D1 W3.heap.size J' W3 W4->W4.heap[lr]?=some (.loop {rec .ready none with state:=.busy})/\
   ∀(o:Obj) (st:Ι) (pe:Option φ),o=.loop (rec st pe)->aO D W.heap.size (L J' st pe) W (W4.putObj (lr) o):=λJ' W4 h4=>by
   obtain⟨bH,D2,d1,d2,d3⟩:=h4;have xp:=(bH.block _ (by omega) n1).trans hl3;have QC:lr<W4.heap.size:=(Array.getElem?_eq_some_iff.1 xp).1;have n2:¬D2 (lr):=λh=>(d1 _ h).elim n1 (by omega);refine⟨xp,λo st pe ho=>⟨?_,λk=>D2 k\/k=lr,λk Y=>?_,λk Y=>?_,?_⟩⟩
   ·refine(eo.trans bH λj hj=>?_).put (.inl ((uy _).2 (.inr rfl))) _;rcases U9 j hj with h|h
    ·exact .inl ((uy j).2 (.inl h))
    exact .inr h
   ·rcases Y with Y|rfl
    ·rcases d1 k Y with h|h
     ·rcases U9 k h with h|h
      ·exact .inl ((uy k).2 (.inl h))
      exact .inr h
     exact .inr (by have:=eo.size;omega)
    exact .inl ((uy _).2 (.inr rfl))
   ·rcases(uy k).1 Y with h|h
    ·exact .inl (d2 k (dP k h))
    exact .inr h
   refine mk J' st pe D2 _ (λk Y=>d2 k (dP k (I9 k Y))) (λk Y=>?_) (d3.put n2 _) (by rw[Μ QC,ho]);rcases d1 k Y with h|h
   ·rcases U9 k h with h|h
    ·exact Ja k h
    exact .inr (by omega)
   exact .inr (by have:=eo.size;omega)
  rintro e a3 W4 J;cases e with
  |normal=>
   obtain⟨xp,h4⟩:=fin _ W4 J;have hr:=run_endRound (P:=P) none xp;exact⟨_,_,hr,.inl ⟨rfl,h4 _ _ _ (by rw[fV];rfl)⟩⟩
  |ret=>
   obtain⟨xp,h4⟩:=fin _ W4 J;have hr:=run_endRound (P:=P) (some .ret) xp;exact⟨_,_,hr,.inr (.inl ⟨rfl,(h4 _ .done (some .ret) (by rw[fV];rfl)).imp λD w h=>⟨_,h⟩⟩)⟩
  |exit id=>
   obtain⟨xp,h4⟩:=fin _ W4 J;have hr:=run_endRound (P:=P) (some (.exit id)) xp;exact⟨_,_,hr,.inr (.inl ⟨rfl,(h4 _ .done (some (.exit id)) (by rw[fV];rfl)).imp λD w h=>⟨_,h⟩⟩)⟩
  |goto t=>
   obtain⟨xp,h4⟩:=fin _ W4 J;have hr:=run_endRound (P:=P) (some (.goto t)) xp;exact⟨_,_,hr,.inr (.inl ⟨rfl,(h4 _ .done (some (.goto t)) (by rw[fV];rfl)).imp λD w h=>⟨_,h⟩⟩)⟩
  |panic ch=>
   obtain⟨hd,J⟩:=J;obtain⟨xp,h4⟩:=fin _ W4 J;refine⟨hd,.inr (.inr ⟨ch,rfl,?_⟩)⟩;have e4:W4.putObj (lr) (.loop {rec .ready none with state:=.busy})=W4:=by
    obtain⟨QC,he⟩:=Array.getElem?_eq_some_iff.1 xp;have:W4.heap.setIfInBounds (lr) (.loop {rec .ready none with state:=.busy})=W4.heap:=by
     apply Array.ext_getElem?;intro j;rw[Array.getElem?_setIfInBounds];split
     ·rename_i ej;subst ej;exact xp.symm
     rfl
    show{W4 with heap:=_}=W4;rw[this]
   rw[<-e4];exact h4 _ .busy none (by rw[fV])
  |outgrown=>exact J.elim
 have back:∀(J':aQ) (st:Ι) (pe:Option φ) (W2:ι),aO (λk=>O k\/k=lr) W1.heap.size (L J' st pe) W1 W2->
  W2.heap[lr]?=some (.loop (rec st pe))/\aO O (lr+1) J' w W2/\lr+1<=W2.heap.size/\(∀k,w.heap.size<=k->k<lr->W2.heap[k]?=W1.heap[k]?)/\
  ∀o,aO O (lr+1) J' w (W2.putObj (lr) o)/\lr+1<=(W2.putObj (lr) o).heap.size/\(∀k,w.heap.size<=k->k<lr->(W2.putObj (lr) o).heap[k]?=W1.heap[k]?):=λJ' st pe W2 A=>by
  obtain⟨N,D,d1,d2,d3⟩:=A;have M:=d3.out;rw[hL]at M;obtain⟨⟨D0,uy,n0,I9,Ja,aG⟩,K⟩:=M;have rB:lr+1<=W2.heap.size:=by have:=N.size;omega
  have tG:∀k,w.heap.size<=k->k<lr->W2.heap[k]?=W1.heap[k]?:=λk G A=>N.block k (by omega) (λh=>h.elim (λh=>by have:=h0.1 _ h;omega) (by omega));have pV:aj O w W2:=(aj.aq wJ).trans N (λj hj=>hj.elim .inl (λe=>.inr (by omega)));refine⟨K,⟨pV,D0,Ja,I9,aG⟩,rB,tG,λo=>⟨⟨pV.put (.inr (by omega)) _,D0,Ja,I9,aG.put n0 _⟩,by simpa using rB,λk G A=>(ο (by omega)).trans (tG k G A)⟩⟩
 rintro e W2 (⟨⟨v,rfl⟩,⟨xs,cR,J⟩|J⟩|⟨c,rfl,J⟩)
 ·obtain⟨K,_,_,_,A⟩:=back _ _ _ W2 J;have he:=run_endLoop (P:=P) K (by rw[fV];simp);obtain⟨k1,k2,k3⟩:=A (.loop {rec .ready none with state:=.exhausted});rw[fV]at he k1 k2 k3;refine⟨none,_,he,?_⟩;exact kZ xs cR _ k1 k2 k3
 ·obtain⟨N,D,d1,d2,d3⟩:=J;obtain⟨c,hc⟩:=d3.out;have aG:On D (L (Jx c) .done (some c)) W2:=by
   refine⟨d3.1,λW3 Y=>?_⟩;have rP:=hc;rw[hL]at rP⊢;obtain⟨⟨D0,uy,n0,I9,Ja,aG⟩,K⟩:=rP;exact⟨⟨D0,uy,n0,I9,Ja,aG.on λk hd=>Y k ((uy k).2 (.inl hd))⟩,(Y _ ((uy _).2 (.inr rfl))).trans K⟩
  obtain⟨K,_,_,_,A⟩:=back (Jx c) .done (some c) W2 ⟨N,D,d1,d2,aG⟩;have he:=run_endLoop (P:=P) K (by rw[fV];simp);obtain⟨k1,k2,k3⟩:=A (.loop {rec .done (some c)with state:=.exhausted});rw[fV]at he k1 k2 k3;refine⟨some c,_,he,?_⟩;exact k4 c _ k1 k2 k3
 obtain⟨K,k1,k2,k3,_⟩:=back _ _ _ W2 J;exact nW c W2 k1 k2 k3
theorem PL {f:Η}{ua:Func}{P:τ}(nV:P.funcs[f]?=some ua){g:Ο}{ps:Array Tmp}{assign body:φ}{Q:Ν->Θ->ι->Prop}{a:Θ}{w:ι}
 {gf:Nat}{lb:Array Value}{Ok:List (Array Value)->Prop}(hg:a.eval g=.func (.func gf) #[] lb)(eg:∀args w,(callFunc gf args).run P w=.ok (.enter gf args) w)
 {R:ak}{w0:ι}(hit:pQ P gf lb Ok R w0)(ub:w0.heap.size<=w.heap.size)(ud:∀k,R k->w.heap[k]?=w0.heap[k]?)(mA:∀k,R k->k<w.heap.size)
 (O:ak)(hO:∀k,O k->¬R k)(aqx:List (Array Value)->aQ)(Jx:φ->aQ)(Jp:List ρ->aQ)(B:List (Array Value)->Array Value->Θ->aQ)(lz:∀xs,Ok xs->∀x∈xs,x.size=ps.size)(h0:On O (aqx []) w)
 (xo:∀(l:Nat) (i:List (Array Value)) (x:Array Value),(∃gi,Ok (i++x::gi))->∀(W:ι) (D:ak),aj O w W->w.heap.size+2<=W.heap.size->(∀k,O k->D k)->On D (aqx i) W->
  ∀aqy:Θ->ι->Prop,(∀a1 W1 D1,Below W.heap.size W W1->(∀k,D1 k->D k\/W.heap.size<=k)->(∀k,D k->D1 k)->On D1 (B i x a1) W1->aqy a1 W1)->
  assign.wpIn (Fence.wide.inRound l) 0 P (Exit.then aqy (λ_ _ _=>False)) {tmps:=(ps.zip x).foldl (λt (p,v)=>t.setIfInBounds p v) a.tmps,defers:=[]} W)
 (yw:∀(l:Nat) (i:List (Array Value)) (x:Array Value),(∃gi,Ok (i++x::gi))->∀(a1:Θ) (W:ι) (D:ak),aj O w W->w.heap.size+2<=W.heap.size->(∀k,O k->D k)->On D (B i x a1) W->
  body.wpIn (Fence.wide.inRound l) 0 P (Ek D (aqx (i++[x])) Jx Jp W) a1 W)
 (kZ:∀(xs:List (Array Value)),Ok xs->∀(W:ι),aO O (w.heap.size+2) (aqx xs) w W->w.heap.size+2<=W.heap.size->W.heap[w.heap.size]?=some (.deferred (some []))->Q .normal {a with defers:={target:=.collected w.heap.size,args:=#[]}::a.defers} W)
 (k4:∀(c:φ) (W:ι),aO O (w.heap.size+2) (Jx c) w W->w.heap.size+2<=W.heap.size->W.heap[w.heap.size]?=some (.deferred (some []))->c.wpIn ξ 0 P Q {a with defers:={target:=.collected w.heap.size,args:=#[]}::a.defers} W)
 (nW:∀(c:List ρ) (W:ι),aO O (w.heap.size+2) (Jp c) w W->w.heap.size+2<=W.heap.size->W.heap[w.heap.size]?=some (.deferred (some []))->Q (.panic c) {a with defers:={target:=.collected w.heap.size,args:=#[]}::a.defers} W):
 vi f P (ω g ps assign body) Q a w:=by
 obtain⟨rec,fV⟩:∃rec:Loop,rec={state:=.ready,pending:=none,fn:=f,tmps:=a.tmps,params:=ps,assign,body,defers:=w.heap.size}:=⟨_,rfl⟩;obtain⟨W1,wK⟩:∃W1,(w.alloc (.deferred (some []))).alloc (.loop rec)=W1:=⟨_,rfl⟩;have zI:W1.heap[w.heap.size+1]?=some (.loop rec):=by
  rw[<-wK];have:=Ρ (w.alloc (.deferred (some []))) (.loop rec);rwa [ϊ]at this
 have fh:W1.heap[w.heap.size]?=some (.deferred (some [])):=by
  rw[<-wK];exact(ώ _ _ _ (by simp)).trans (Ρ w _)
 have Oy:W1.heap.size=w.heap.size+1+1:=by rw[<-wK];simp
 have wJ:Below w.heap.size w W1:=by
  rw[<-wK];exact((μ _ w).alloc (κ _) _).alloc (by simp) _
 have rK:(Instr.enterLoop f a.tmps ps assign body none).run P w=.ok (w.heap.size+1,[{target:=.collected w.heap.size,args:=#[]}]) W1:=by rw[<-wK,fV];exact run_enterLoop_outer _ _ _ _ _
 rw[fV]at zI;exact El nV hg eg hit ub ud mA rK (by omega) zI Oy wJ O hO aqx Jx Jp B lz h0 (λl i x hs W D G A M _ h5=>xo l i x hs W D G A M h5)
  (λi x hs a1 W D G A M _ h5 _ _=>rR (yw _ i x hs a1 W D G A M h5)) (λxs cR W G A M=>kZ xs cR W G A ((M w.heap.size (κ _) (by omega)).trans fh))
  (λc W G A M=>bQ (k4 c W G A ((M w.heap.size (κ _) (by omega)).trans fh))) (λc W G A M=>nW c W G A ((M w.heap.size (κ _) (by omega)).trans fh))
theorem RN {f:Η}{ua:Func}{P:τ}(nV:P.funcs[f]?=some ua){g:Ο}{ps:Array Tmp}{assign body:φ}{Q:Ν->Θ->ι->Prop}{a:Θ}{w:ι}
 {gf:Nat}{lb:Array Value}{xs:List (Array Value)}(hg:a.eval g=.func (.func gf) #[] lb)(eg:∀args w,(callFunc gf args).run P w=.ok (.enter gf args) w)
 {R:ak}{w0:ι}(hit:kO P gf lb xs R w0)(ub:w0.heap.size<=w.heap.size)(ud:∀k,R k->w.heap[k]?=w0.heap[k]?)(mA:∀k,R k->k<w.heap.size)
 (O:ak)(hO:∀k,O k->¬R k)(aqx:Nat->aQ)(Jx:φ->aQ)(Jp:List ρ->aQ)(B:Nat->Θ->aQ)(lz:∀x∈xs,x.size=ps.size)(h0:On O (aqx 0) w)
 (xo:∀(l:Nat) (i:Nat) (x:Array Value),xs[i]?=some x->∀(W:ι) (D:ak),aj O w W->w.heap.size+2<=W.heap.size->(∀k,O k->D k)->On D (aqx i) W->
  ∀aqy:Θ->ι->Prop,(∀a1 W1 D1,Below W.heap.size W W1->(∀k,D1 k->D k\/W.heap.size<=k)->(∀k,D k->D1 k)->On D1 (B i a1) W1->aqy a1 W1)->
  assign.wpIn (Fence.wide.inRound l) 0 P (Exit.then aqy (λ_ _ _=>False)) {tmps:=(ps.zip x).foldl (λt (p,v)=>t.setIfInBounds p v) a.tmps,defers:=[]} W)
 (yw:∀(l:Nat) (i:Nat) (x:Array Value),xs[i]?=some x->∀(a1:Θ) (W:ι) (D:ak),aj O w W->w.heap.size+2<=W.heap.size->(∀k,O k->D k)->On D (B i a1) W->
  body.wpIn (Fence.wide.inRound l) 0 P (Ek D (aqx (i+1)) Jx Jp W) a1 W)
 (kZ:∀(W:ι),aO O (w.heap.size+2) (aqx xs.length) w W->w.heap.size+2<=W.heap.size->W.heap[w.heap.size]?=some (.deferred (some []))->Q .normal {a with defers:={target:=.collected w.heap.size,args:=#[]}::a.defers} W)
 (k4:∀(c:φ) (W:ι),aO O (w.heap.size+2) (Jx c) w W->w.heap.size+2<=W.heap.size->W.heap[w.heap.size]?=some (.deferred (some []))->c.wpIn ξ 0 P Q {a with defers:={target:=.collected w.heap.size,args:=#[]}::a.defers} W)
 (nW:∀(c:List ρ) (W:ι),aO O (w.heap.size+2) (Jp c) w W->w.heap.size+2<=W.heap.size->W.heap[w.heap.size]?=some (.deferred (some []))->Q (.panic c) {a with defers:={target:=.collected w.heap.size,args:=#[]}::a.defers} W):
 vi f P (ω g ps assign body) Q a w:=
 PL nV hg eg hit.n ub ud mA O hO (λi=>aqx i.length) Jx Jp (λi _ a1=>B i.length a1) (λ_ e=>e▸lz) h0
  (λl i x ⟨gi,e⟩=>xo l i.length x (by rw[<-e];simp))
  (λl i x ⟨gi,e⟩ a1 W D G A M h4=>by have:=yw l i.length x (by rw[<-e];simp) a1 W D G A M h4;rw[χ];exact this)
  (λ_ e W h=>kZ W (e▸h)) k4 nW
end Go.Proofs.YtchdfdmjihnhkaaGreatDoor
namespace Go.Proofs.YtchdfdmjihnhkaaGreatDoor
open Tryz
open Go.RowKit
def Fq (P:τ)(O:ak)(w:ι)(body:φ)(aqx:aQ)(Jx:φ->aQ)(Jp:List ρ->aQ)(a1:Θ)(D1:ak)(W1:ι):Prop:=
 ∀(l:Nat) (W2:ι),(∀k,D1 k->W2.heap[k]?=W1.heap[k]?)->aj O w W2->w.heap.size+2<=W2.heap.size->body.wpIn (Fence.wide.inRound l) 0 P (Ek D1 aqx Jx Jp W2) a1 W2
theorem kY {f:Η}{ua:Func}{P:τ}(nV:P.funcs[f]?=some ua){g:Ο}{ps:Array Tmp}{assign body:φ}{Q:Ν->Θ->ι->Prop}{a:Θ}{w:ι}
 {gf:Nat}{lb:Array Value}{xs:List (Array Value)}(hg:a.eval g=.func (.func gf) #[] lb)(eg:∀args w,(callFunc gf args).run P w=.ok (.enter gf args) w)
 {R:ak}{w0:ι}(hit:kO P gf lb xs R w0)(ub:w0.heap.size<=w.heap.size)(ud:∀k,R k->w.heap[k]?=w0.heap[k]?)(mA:∀k,R k->k<w.heap.size)
 (O:ak)(hO:∀k,O k->¬R k)(aqx:Nat->aQ)(Jx:φ->aQ)(Jp:List ρ->aQ)(lz:∀x∈xs,x.size=ps.size)(h0:On O (aqx 0) w)
 (ph:∀(l:Nat) (i:Nat) (x:Array Value),xs[i]?=some x->∀(W:ι) (D:ak),aj O w W->w.heap.size+2<=W.heap.size->(∀k,O k->D k)->On D (aqx i) W->
  ∀aqy:Θ->ι->Prop,(∀a1 W1 D1,Below W.heap.size W W1->(∀k,D1 k->D k\/W.heap.size<=k)->(∀k,D k->D1 k)->(∀k,D1 k->k<W1.heap.size)->
   Fq P O w body (aqx (i+1)) Jx Jp a1 D1 W1->aqy a1 W1)->
  assign.wpIn (Fence.wide.inRound l) 0 P (Exit.then aqy (λ_ _ _=>False)) {tmps:=(ps.zip x).foldl (λt (p,v)=>t.setIfInBounds p v) a.tmps,defers:=[]} W)
 (kZ:∀(W:ι),aO O (w.heap.size+2) (aqx xs.length) w W->w.heap.size+2<=W.heap.size->W.heap[w.heap.size]?=some (.deferred (some []))->Q .normal {a with defers:={target:=.collected w.heap.size,args:=#[]}::a.defers} W)
 (k4:∀(c:φ) (W:ι),aO O (w.heap.size+2) (Jx c) w W->w.heap.size+2<=W.heap.size->W.heap[w.heap.size]?=some (.deferred (some []))->c.wpIn ξ 0 P Q {a with defers:={target:=.collected w.heap.size,args:=#[]}::a.defers} W)
 (nW:∀(c:List ρ) (W:ι),aO O (w.heap.size+2) (Jp c) w W->w.heap.size+2<=W.heap.size->W.heap[w.heap.size]?=some (.deferred (some []))->Q (.panic c) {a with defers:={target:=.collected w.heap.size,args:=#[]}::a.defers} W):
 vi f P (ω g ps assign body) Q a w:=by
 refine RN nV hg eg hit ub ud mA O hO aqx Jx Jp (λi a1 D W=>Fq P O w body (aqx (i+1)) Jx Jp a1 D W) lz h0 ?_ ?_ kZ k4 nW
 ·intro l i x N W D he hs dT aG aqy hK;refine ph l i x N W D he hs dT aG aqy λa1 W1 D1 U G A M zJ=>hK a1 W1 D1 U G A ⟨M,λW2 Y l' W3 bV=>zJ l' W3 λk hd=>(bV k hd).trans (Y k hd)⟩
 intro l i x N a1 W D he hs dT aG;exact aG.out l W (λ_ _=>rfl) he hs
theorem eK {w I:ι}{B s:Nat}{e:Α}{v:Value}{n:Nat}{xs:List Value}(h:w.ownsRow B e s v n xs)(Y:∀g,v.ownBlock=some g->I.heap[g]?=w.heap[g]?):I.ownsRow B e s v n xs:=
 ⟨h.1,h.2.elim .inl λ⟨g,cap,cur,G,A,M,h4⟩=>.inr ⟨g,cap,cur,G,A,(Y g (by rw[G];rfl)).trans M,h4⟩⟩
def sJ (p:Nat)(T e:Α)(sz B n:Nat)(xs:List Value):aQ:=λD W=>
 D p/\∃v,X W p [v] T/\(∀k,v.ownBlock=some k->D k/\k≠p)/\W.ownsRow B e sz v n xs
theorem sJ.cQ {p:Nat}{T e:Α}{sz B n:Nat}{xs:List Value}{D:ak}{W:ι}(hD:∀k,D k->k<W.heap.size)(h:sJ p T e sz B n xs D W):On D (sJ p T e sz B n xs) W:=by
 obtain⟨G,v,A,M,h4⟩:=h;exact⟨hD,λW2 Y=>⟨G,v,(Y p G).trans A,M,eK h4 λg hg=>Y g (M g hg).1⟩⟩
theorem wE {F:Fence}{nF:Nat}{P:τ}{ops:Array Oper}{rest:List Oper}{o:Oper}{a:Θ}{Q:Ν->Θ->ι->Prop}{W:ι}(rH:o.guard=none)(s x:Ο)(t e:Α)(z:Value)(size bytes:Nat)
 (ho:o.op=.call {callee:=.builtin .append,args:=#[s,x],argTypes:=#[t,t]})(hu:P.underlying t=some (.slice e))
 (xI:(P.info? e).map (λi=>(i.zero,i.size,i.bytes))=some (some z,size,bytes))(hz:z.cells.size=size)(bA:0<size)(B:Nat)(v:Value)(n:Nat)(xs:List Value)(hs:a.eval s=v)
 (aX:W.ownsRow B e size v n xs)(hB:B<=W.heap.size)(p:Nat)(news:List Value)(N:a.eval x=ζ (some ⟨p,0,none⟩) 1 1)(K:news.length=size)
 (hc:∀j u,news[j]?=some u->W.cell? ⟨p,j,none⟩=some u)(G:∀u∈news,u.oneCell'=true)(hn:n<=4194304)(tT:bytes<=64)
 (h:∀v' W',W'.ownsRow B e size v' (n+1) (xs++news)->W.grownBy W' v.ownBlock->(v'.ownBlock=v.ownBlock\/v'.ownBlock=some W.heap.size)->wpListIn F nF P ops Q rest (a.put o.dst v') W'):
 wpListIn F nF P ops Q (o::rest) a W:=by
 obtain⟨i0,hi,iY,wD,gX⟩:=info_parts xI;refine Go.wpListIn_append_own_at W rH s x t ho B e i0 z size bytes hu hi iY wD gX hz bA v n xs hs aX ⟨p,0,none⟩ 1 1 news N (by omega) ?_ G ?_ ?_ hB ?_
 ·intro j u hj;have:=hc j u hj;have e:((⟨p,0,none⟩:Addr).add j)=⟨p,j,none⟩:=by
   unfold Addr.add;split
   ·rename_i hj0;subst hj0;rfl
   simp
  rw[e];exact this
 ·unfold maxLen;omega
 ·have:(n+1)*bytes<=4194305*64:=Nat.mul_le_mul (by omega) tT;omega
 intro v' W' gU th _ PM;exact h v' W' gU th PM
theorem aj.grown {O:ak}{aqt W W':ι}{row:Option Nat}(h:aj O aqt W)(hg:W.grownBy W' row)(hr:∀k,row=some k->O k\/aqt.heap.size<=k):aj O aqt W':=
 ⟨hg.os.trans h.os,hg.tape.trans h.tape,hg.output.trans h.output,Τ h.size hg.size,λk Y ho=>by
  have dp:some k≠row:=λe=>(hr k e.symm).elim ho (by omega);exact(hg.block k (Nat.lt_of_lt_of_le Y h.size) dp).trans (h.block k Y ho)⟩
theorem nD {w:ι}{B s n:Nat}{e:Α}{v:Value}{xs:List Value}(h:w.ownsRow B e s v n xs):∃a c,v=ζ a n c:=by
 rcases h.2 with⟨rfl,rfl⟩|⟨g,cap,cur,rfl,_⟩
 ·exact⟨_,_,rfl⟩
 exact⟨_,_,rfl⟩
theorem Cn {D1:ak}{W2 W3 W4:ι}{p B sz n':Nat}{T e:Α}{v v':Value}{xs':List Value}(dP:∀k,D1 k->k<W2.heap.size)(J:D1 p)(N:aj D1 W2 W3)(q:X W3 p [v] T)
 (hv:∀k,v.ownBlock=some k->D1 k/\k≠p)(hg:W3.grownBy W4 v.ownBlock)(PM:v'.ownBlock=v.ownBlock\/v'.ownBlock=some W3.heap.size)(ho:W4.ownsRow B e sz v' n' xs'):
 aO D1 W2.heap.size (sJ p T e sz B n' xs') W2 (W4.setCell ⟨p,0,none⟩ v'):=by
 have Ze:=q.lt;have q4:X W4 p [v] T:=(hg.block p Ze (λe=>(hv p e.symm).2 rfl)).trans q;have rB:=N.size;have tO:=hg.size;have OE:∀k,v'.ownBlock=some k->(D1 k\/W2.heap.size<=k)/\k≠p/\k<W4.heap.size:=λk Y=>by
  have aR:=(ho.lt k Y).2;rcases PM with h|h
  ·have:=hv k (h▸Y);exact⟨.inl this.1,this.2,aR⟩
  rw[h]at Y;injection Y with Y
  exact⟨.inr (by omega),by omega,aR⟩
 refine⟨(N.grown hg λk Y=>.inl (hv k Y).1).setCell (.inl J) _,λk=>D1 k\/v'.ownBlock=some k,λk Y=>Y.elim .inl λh=>(OE k h).1,λk Y=>.inl Y,?_⟩;refine sJ.cQ (λk Y=>?_) ⟨.inl J,v',q4.set (k:=0) v',λk Y=>⟨.inr Y,(OE k Y).2.1⟩,eK ho λg I1=>Ψ _ _ _ _ (λ(e:g=p)=>(OE g I1).2.1 e)⟩;rw[World.size_setCell];rcases Y with Y|Y
 ·have:=dP k Y;omega
 exact(OE k Y).2.2
end Go.Proofs.YtchdfdmjihnhkaaGreatDoor
namespace Go.Proofs.YtchdfdmjihnhkaaGreatDoor
open Tryz
open Go.RowKit Go.Sort
attribute [local go_sem] Oper.semAt_some
def jt (l:List Int):List Value:=(l.map oO).flatten
def kI (r:aE)(a:Int)(n:Nat):List Int:=(dx a n).filter (yt r)
def ny (pls:List Int)(len:Int):Int->List Int->List Int
 |_,[]=>[]
 |i,d::l=>(if pls.contains (i+1)||pls.contains (i-len)then[d]else[])++ny pls len (i+1) l
def dm (r:aE)(a:Int)(n:Nat):List Int:=if r.pls.length=0 then kI r a n else ny r.pls (kI r a n).length 0 (kI r a n)
theorem AP {l:List Int}{i:Nat}{d:Int}(h:l[i]?=some d):
 (jt l)[i*3]?=some (V Z (ag.au d))/\(jt l)[i*3+1]?=some (V Z (ag.ofM d))/\(jt l)[i*3+2]?=some (V Z (ag.aA d)):=by
 induction l generalizing i with
 |nil=>simp at h
 |cons x r ih=>
  cases i with
  |zero=>simp at h;subst h;unfold jt oO;simp
  |succ i=>
   have:=ih (i:=i) (by simpa using h);have e:jt (x::r)=oO x++jt r:=by unfold jt;simp
   rw[e];have K:(oO x).length=3:=rfl;refine⟨?_,?_,?_⟩
   ·rw[show(i+1)*3=3+i*3 from by omega,ψ (by omega),K,Δ];exact this.1
   ·rw[show(i+1)*3+1=3+(i*3+1)from by omega,ψ (by omega),K,Δ];exact this.2.1
   rw[show(i+1)*3+2=3+(i*3+2)from by omega,ψ (by omega),K,Δ];exact this.2.2
theorem Va {pls:List Int}{len:Int}{F:List Int}{i:Nat}{d:Int}(h:F[i]?=some d):
 ny pls len i (F.drop i)=(if pls.contains (i+1)||pls.contains (i-len)then[d]else[])++ny pls len ((i+1:Nat):Int) (F.drop (i+1)):=by
 obtain⟨hi,he⟩:=List.getElem?_eq_some_iff.1 h;rw[Β hi,he,ny];rfl
theorem PN {w:ι}{B:Nat}{v:Value}{l:List Int}{i:Nat}{d:Int}(h:w.ownsRow B 88 3 v l.length (jt l))(hd:l[i]?=some d):
 ∃g cap,v=ζ (some ⟨g,0,none⟩) l.length cap/\B<=g/\l.length<=cap/\w.cell? ⟨g,i*3,none⟩=some (V Z (ag.au d))/\w.cell? ⟨g,i*3+1,none⟩=some (V Z (ag.ofM d))/\w.cell? ⟨g,i*3+2,none⟩=some (V Z (ag.aA d)):=by
 have hi:=(List.getElem?_eq_some_iff.1 hd).1;rcases h.2 with⟨_,h0⟩|⟨g,cap,cur,rfl,hB,hg,hc,_⟩
 ·omega
 refine⟨g,cap,rfl,hB,hc,?_,?_,?_⟩
 ·rw[h.cellAt _ (by omega)];exact(AP hd).1
 ·rw[h.cellAt _ (by omega)];exact(AP hd).2.1
 rw[h.cellAt _ (by omega)];exact(AP hd).2.2
theorem tD {w:ι}{B B' s n:Nat}{e:Α}{v:Value}{xs:List Value}(h:w.ownsRow B e s v n xs)(U:B'<=B):w.ownsRow B' e s v n xs:=
 ⟨h.1,h.2.imp id λ⟨g,cap,cur,G,A,M⟩=>⟨g,cap,cur,G,Τ U A,M⟩⟩
theorem G2:(prog.info? 88).map (λi=>(i.zero,i.size,i.bytes))=some (some (.agg #[V Z 0,V Z 0,V Z 0]),3,24):=by kernel_rfl
theorem Vb (r:aE)(a:Int)(i:Nat):kI r a (i+1)=kI r a i++if yt r (a+i)then[a+i]else[]:=by
 unfold kI dx;rw[List.range_succ,List.map_append,List.filter_append];simp[List.filter_cons]
theorem yx (l:List Int)(x:Int):jt (l++[x])=jt l++oO x:=by unfold jt;simp
theorem Dr (r:aE)(a:Int)(n:Nat):(kI r a n).length<=n:=by
 unfold kI;exact Τ (List.length_filter_le _ _) (by rw[yv];exact κ _)
theorem Yk (r:aE)(m md wk pl:Value)(tx:ByteArray)(a:Int)(n:Nat)(w:ι)(K:eE w r m md wk pl)(ho:ei r)(h0:-10000<=a)(G:a+n<=300000)(hn:n<=400):
 π prog 248 #[bG r.fq r.iv r.ct r.un m md wk pl r.ws tx,dt a (a+n)] w λe I=>∃v,e=δ v/\I.ownsRow w.heap.size 88 3 v (dm r a n).length (jt (dm r a n))/\Below w.heap.size w I:=by
 have hF:Ε (∀W k,Below w.heap.size w W->k<n->π prog 267 #[bG r.fq r.iv r.ct r.un m md wk pl r.ws tx,aZ (a+(k:Nat))] W λe I=>e=δ (.bool (yt r (a+(k:Nat))))/\Below W.heap.size W I):=
  H λW k U Y=>ae0 r m md wk pl tx (a+(k:Nat)) W (K.on U) ho (by omega) (by omega)
 have hA:Ε (∀W,π prog 266 #[dt a (a+n)] W λe I=>e=δ (.func (.func 274) #[] #[.pointer (some ⟨W.heap.size,0,none⟩)])/\I=W.alloc (θ (rj a (a+n)).toArray 277)):=H λW=>agE a (a+n) W;obtain⟨a1,S⟩:=K.ms.form;obtain⟨a2,e2⟩:=K.mds.form;obtain⟨a3,e3⟩:=K.wks.form;obtain⟨a4,e4⟩:=K.pls.form;have pT:=H K.pls;have aoA:=ho.pls;clear K ho;generalize r.ms.length=n1 at *
 generalize r.mds.length=n2 at *
 generalize r.wks.length=n3 at *
 subst S e2 e3 e4;unfold bG at *
 unfold dt aZ cV at *
 refine(callsIn_wide (n:=0)).1 ?_;refine di func248 rfl ?_;simp only[ntmps248,ϋ,Ϗ,ϛ,ϝ,Ϝ,Φ,Υ,ό,Χ,Ϛ,Ϙ];refine bO λaqy hK=>bQ ?_;gi_wp2_with fail;refine bO λaqy hK=>bQ ?_;gi_wp2_with fail;refine bO λK1 fh=>?_;refine bO λaqy hK=>bQ ?_;gi_wp2_with fail;refine⟨trivial,rfl,(callsIn_wide.2 (hA.out _)).mono ?_⟩;rintro e w1 ⟨rfl,rfl⟩;have r0:=((X.new w [V Z r.fq,V Z r.iv,V Z r.ct,V Z r.un,ζ a1 n1 n1,ζ a2 n2 n2,ζ a3 n3 n3,ζ a4 r.pls.length r.pls.length,V Z r.ws,η tx] 96).on ((μ _ _).alloc (κ _) (θ #[V Z (ag.au a),V Z (ag.ofM a),V Z (ag.aA a),V Z (ag.au (a+n)),V Z (ag.ofM (a+n)),V Z (ag.aA (a+n))] 277))).on ((μ _ _).alloc (κ _) (θ #[ζ none 0 0] 279));have r5:=X.new ((w.alloc (θ #[V Z r.fq,V Z r.iv,V Z r.ct,V Z r.un,ζ a1 n1 n1,ζ a2 n2 n2,ζ a3 n3 n3,ζ a4 r.pls.length r.pls.length,V Z r.ws,η tx] 96)).alloc (θ #[V Z (ag.au a),V Z (ag.ofM a),V Z (ag.aA a),V Z (ag.au (a+n)),V Z (ag.ofM (a+n)),V Z (ag.aA (a+n))] 277)) [ζ none 0 0] 279;simp only[ϊ]at r5;have al:Below w.heap.size w (((w.alloc (θ #[V Z r.fq,V Z r.iv,V Z r.ct,V Z r.un,ζ a1 n1 n1,ζ a2 n2 n2,ζ a3 n3 n3,ζ a4 r.pls.length r.pls.length,V Z r.ws,η tx] 96)).alloc (θ #[V Z (ag.au a),V Z (ag.ofM a),V Z (ag.aA a),V Z (ag.au (a+n)),V Z (ag.ofM (a+n)),V Z (ag.aA (a+n))] 277)).alloc (θ #[ζ none 0 0] 279)):=(((μ _ _).alloc (κ _) _).alloc (by simp) _).alloc (by simp;omega) _;have bA:(((w.alloc (θ #[V Z r.fq,V Z r.iv,V Z r.ct,V Z r.un,ζ a1 n1 n1,ζ a2 n2 n2,ζ a3 n3 n3,ζ a4 r.pls.length r.pls.length,V Z r.ws,η tx] 96)).alloc (θ #[V Z (ag.au a),V Z (ag.ofM a),V Z (ag.aA a),V Z (ag.au (a+n)),V Z (ag.ofM (a+n)),V Z (ag.aA (a+n))] 277)).alloc (θ #[ζ none 0 0] 279)).heap.size=w.heap.size+3:=by simp
 generalize(((w.alloc (θ #[V Z r.fq,V Z r.iv,V Z r.ct,V Z r.un,ζ a1 n1 n1,ζ a2 n2 n2,ζ a3 n3 n3,ζ a4 r.pls.length r.pls.length,V Z r.ws,η tx] 96)).alloc (θ #[V Z (ag.au a),V Z (ag.ofM a),V Z (ag.aA a),V Z (ag.au (a+n)),V Z (ag.ofM (a+n)),V Z (ag.aA (a+n))] 277)).alloc (θ #[ζ none 0 0] 279))=W0 at *
 have bj:Below W0.heap.size W0 (W0.alloc (θ (rj a (a+n)).toArray 277)):=(μ _ _).alloc (κ _) _;have hit:=ae2 a n W0.heap.size (W0.alloc (θ (rj a (a+n)).toArray 277)) (by omega) (by omega) (X.new _ _ _);have ae7:(W0.alloc (θ (rj a (a+n)).toArray 277)).heap.size=w.heap.size+4:=by simp;omega
 replace al:=al.trans (bj.mono al.size);replace r0:=r0.on bj;replace r5:=r5.on bj;rw[bA]at hit;generalize W0.alloc (θ (rj a (a+n)).toArray 277)=W1 at *
 clear bj hA;gi_wp2_with fail;refine gj ?_;have eg:∀args w,(callFunc 274 args).run prog w=.ok (.enter 274 args) w:=enters_of func274 (by kernel_rfl) rfl;refine kY (gf:=274) (lb:=#[.pointer (some ⟨w.heap.size+3,0,none⟩)]) func248 ?g eg hit (κ _) (λ_ _=>rfl) (λk Y=>by omega)
  (λk=>k=w.heap.size+1+1) (λk Y=>by omega) (λi=>sJ (w.heap.size+1+1) 279 88 3 w.heap.size ((kI r a i).length) (jt (kI r a i))) (λ_ _ _=>False) (λ_ _ _=>False) ?ps ?start ?round ?done ?stop ?pan
 case g=>rfl
 case ps=>intro x N;obtain⟨d,_,rfl⟩:=List.mem_map.1 N;rfl
 case start=>exact sJ.cQ (λk Y=>by omega) ⟨rfl,ζ none 0 0,r5,λk Y=>by simp[Value.ownBlock]at Y,Ω _ _ _ _⟩
 case stop=>
  rintro c W ⟨_,D,_,_,aG⟩;exact aG.out.elim
 case pan=>
  rintro c W ⟨_,D,_,_,aG⟩;exact aG.out.elim
 case round=>
  intro l i x N W D yM hs dT aG aqy hK;have mw:i<n:=by
   have:=(List.getElem?_eq_some_iff.1 N).1;rwa [lj,yv]at this
  rw[qB (ME a n i mw)]at N;cases N;unfold aZ cV;gi_wp2_with fail;have cL:Below W.heap.size W (W.alloc (θ #[V Z (ag.au (a+i)),V Z (ag.ofM (a+i)),V Z (ag.aA (a+i))] 88)):=(μ _ _).alloc (κ _) _;refine hK _ _ (λk=>D k\/k=W.heap.size) cL (λk Y=>Y.imp id λh=>by omega) (λk Y=>.inl Y) (λk Y=>Y.elim (λh=>by have:=aG.1 k h;simp;omega) (λh=>by simp;omega)) ?_;intro l' W2 fD bN rB;have q0:=r0.aM bN (show¬(w.heap.size=w.heap.size+1+1) by omega);have q6:=(X.new W [V Z (ag.au (a+i)),V Z (ag.ofM (a+i)),V Z (ag.aA (a+i))] 88).keep (fD _ (.inr rfl));have dX:=aG.on (W':=W2) λk Y=>(fD k (.inl Y)).trans (cL.block k (aG.1 k Y));have bR:=al.trans (bN.below (B:=w.heap.size) (by omega) (λk Y=>by omega));have dp:¬D W.heap.size:=λh=>by have:=aG.1 _ h;omega
  have tQ:=q6.lt;clear hK cL fD r0 r5 hit fh;obtain⟨I8,v,q5,fS,aX⟩:=dX.out;obtain⟨g0,g1,g2,g3,g4,g5,g6,g7,g8,g9⟩:=ca q0;obtain⟨c0,c1,c2,_,_,_⟩:=bW q6;gi_wp2_with fail;refine⟨trivial,rfl,(CallsIn.inRound l' (callsIn_wide.2 (hF.out _ i bR mw))).mono ?_⟩;rintro e W3 ⟨rfl,aP⟩;clear g0 g1 g2 g3 g4 g5 g6 g7 g8 g9 c0 c1 c2;have dP:∀k,D k\/k=W.heap.size->k<W2.heap.size:=λk Y=>Y.elim (dX.1 k) (λh=>by omega);have ga:=Vb r a i;have mG:=Dr r a i;have z5:=q5.on aP;have z6:=q6.on aP;have Fs:=eK aX (I:=W3) λg hg=>aP.block g (aX.lt g hg).2;have Ft:Ε (yt r (a+i)=false->kI r a (i+1)=kI r a i):=H λh=>by rw[ga,h];simp
  have Fu:Ε (yt r (a+i)=true->kI r a (i+1)=kI r a i++[a+i]):=H λh=>by rw[ga,h];simp
  clear ga;generalize hf:yt r (a+i)=B at *
  cases B
  ·replace Ft:=H (Ft.out rfl);clear Fu;gi_wp2_with fail;refine⟨aj.aq aP,λk=>D k\/k=W.heap.size,λk Y=>.inl Y,λk Y=>Y,?_⟩;rw[Ft.out];exact sJ.cQ (λk Y=>by have:=dP k Y;have:=aP.size;omega) ⟨.inl I8,v,z5,λk Y=>⟨.inl (fS k Y).1,(fS k Y).2⟩,Fs⟩
  replace Fu:=H (Fu.out rfl);clear Ft;have c5:=z5.cell (k:=0) rfl;have f5:=z5.free (k:=0);obtain⟨c0,c1,c2,_,_,_⟩:=bW z6;have hw3:w.heap.size<=W3.heap.size:=by have:=aP.size;omega
  gi_wp2_with (gi_at_builtin;refine Hid.out ?_);refine H ?_;refine wE rfl (.tmp 16) (.tmp 18) 279 88 _ 3 24 rfl underlying279 G2 rfl (by decide) w.heap.size _ _ _ rfl (Fs.alloc _) (by simp;omega) W3.heap.size (oO (a+i)) rfl rfl (λj u hj=>(X.new W3 (oO (a+i)) 88).cell hj) (by unfold oO;simp[Value.oneCell']) (by omega) (by decide) ?_;intro v' W4 aat hg4 Yl;obtain⟨g4,aoB,rfl⟩:=nD aat;replace Yl:=H Yl;have cD:=(μ W3.heap.size W3).alloc (κ _) (θ (oO (a+i)).toArray 88);have y5:=z5.on cD;have y5':X W4 (w.heap.size+1+1) [v] 279:=(hg4.block _ y5.lt (λe=>(fS _ e.symm).2 rfl)).trans y5;clear c5 f5 c0 c1 c2;have c5:=y5'.cell (k:=0) rfl;have f5:=y5'.free (k:=0);gi_wp2_with fail;have fG:=Cn (D1:=λk=>D k\/k=W.heap.size) (W2:=W2) (p:=w.heap.size+1+1) (T:=279) dP (.inl I8) ((aj.aq aP).alloc _) y5 (λk Y=>⟨.inl (fS k Y).1,(fS k Y).2⟩) hg4 Yl.out aat;show aO _ _ _ _ _;rw[Fu.out,yx,χ];exact fG
 case done=>
  rw[lj,yv];rintro W ⟨N,D,eh,dT,aG⟩ hs bM;have q0:=r0.aM N (show¬(w.heap.size=w.heap.size+1+1) by omega);obtain⟨I8,v,q5,fS,aX⟩:=aG.out;have bR:=al.trans (N.below (B:=w.heap.size) (by omega) (λk Y=>by omega));clear r0 r5 hit hF;obtain⟨g0,g1,g2,g3,g4,g5,g6,g7,g8,g9⟩:=ca q0;have c5:=q5.cell (k:=0) rfl;simp only[Ζ,Exit.then];refine fh _ _ (bQ ?_);clear fh;by_cases J:r.pls.length=0
  case pos=>
   have hL:Ε (dm r a n=kI r a n):=H (by unfold dm;rw[if_pos J]);generalize dm r a n=L at *
   generalize r.pls.length=np at *
   subst J;gi_wp2_with fail;rw[ae7]at bM;refine⟨by simp,.inl ⟨_,_,rfl,run_takeDeferred bM,?_⟩⟩;refine⟨_,results_tmp rfl _ _ _,v,rfl,?_,?_⟩
   ·rw[hL.out];exact eK aX λg hg=>ο (by
     rcases eh g (fS g hg).1 with h|h<;>omega)
   exact⟨bR.os,bR.tape,bR.output,by simp;omega,λk Y=>(ο (by omega)).trans (bR.block k Y)⟩
  case neg=>
   have uZ:((r.pls.length:Int)==0)=false:=by simpa using J
   have hL:Ε (dm r a n=ny r.pls (kI r a n).length 0 (kI r a n)):=H (by unfold dm;rw[if_neg J]);have mG:=Dr r a n;have hC:Ε (∀W' x,Below w.heap.size w W'->π prog 146 #[ζ a4 r.pls.length r.pls.length,V Z x] W' λe I=>e=δ (.bool (r.pls.contains x))/\Below W'.heap.size W' I):=H λW' x U=>yp x (pT.out.on U) (by omega);clear pT;rw[ae7]at bM;obtain⟨av,cv,rfl⟩:=nD aX;generalize hFF:kI r a n=F at *
   generalize dm r a n=L at *
   gi_wp2_with fail;clear g0 g1 g2 g3 g4 g5 g6 g7 g8 g9 c5 hFF;gi_loopg [7,27] F.length (λk pv cv wr=>∃(i:Nat) (pre:List Int),i+k=F.length/\cv=V Z i/\Below W.heap.size W wr/\wr.ownsRow W.heap.size 88 3 pv pre.length (jt pre)/\pre.length<=i/\Ε (L=pre++ny r.pls F.length i (F.drop i)))
   case atStart=>exact⟨0,[],by omega,rfl,μ _ _,Ω _ _ _ _,κ _,H (by rw[hL.out];rfl)⟩
   case round=>
    clear hL;obtain⟨i,pre,OI,rfl,jx,qm,RO,HL⟩:=hrel;have o5:=(jx.block _ (by omega:w.heap.size+4<W.heap.size)).trans bM;have hsr:=jx.size;have G3:=bR.trans (jx.mono bR.size);by_cases hi:i=F.length
    case pos=>
     have HL':Ε (L=pre):=H (by rw[HL.out,hi,ϗ,ny];simp);clear HL;subst hi;gi_wp2_with fail;refine⟨by simp,.inl ⟨_,_,rfl,run_takeDeferred o5,?_⟩⟩;refine⟨_,results_tmp rfl _ _ _,u7,rfl,?_,?_⟩
     ·rw[HL'.out];refine tD (eK qm λg hg=>ο ?_) (by omega);have:=(qm.lt g hg).1;omega
     exact⟨G3.os,G3.tape,G3.output,by simp;omega,λk Y=>(ο (by omega)).trans (G3.block k Y)⟩
    case neg=>
     have wm:i<F.length:=by omega
     obtain⟨d,hd⟩:∃d,F[i]?=some d:=⟨_,Κ wm⟩;have agG:=eK aX (I:=wr) λg hg=>jx.block g (aX.lt g hg).2;obtain⟨gv,cap,Lb,hgB,L9,d0,d1,d2⟩:=PN agG hd;simp only[Value.slice.injEq]at Lb;obtain⟨rfl,_,rfl⟩:=Lb;have q0':=q0.on jx;have q5':=q5.on jx;have cD:Below wr.heap.size wr (wr.alloc (θ #[V Z (ag.au d),V Z (ag.ofM d),V Z (ag.aA d)] 88)):=(μ wr.heap.size wr).alloc (κ _) _;have hg7:=(q0'.on cD).cell (k:=7) rfl;have hg5:=(q5'.on cD).cell (k:=0) rfl;have iI:Ε _:=H (Va (pls:=r.pls) (len:=F.length) hd);have r9:X (wr.alloc (θ #[V Z (ag.au d),V Z (ag.ofM d),V Z (ag.aA d)] 88)) wr.heap.size (oO d) 88:=X.new wr (oO d) 88;have ha9:=H (G3.trans (cD.mono G3.size));clear hd;gi_wp2_with fail;refine⟨trivial,rfl,(callsIn_wide.2 (hC.out _ _ ha9.out)).mono ?_⟩;rintro e W5 ⟨rfl,bB⟩;replace r9:=r9.on bB;have q07:=((q0'.on cD).on bB).cell (k:=7) rfl;have q05:=((q5'.on cD).on bB).cell (k:=0) rfl;have Ds:=H (jx.trans ((cD.trans (bB.mono (by simp))).mono (by omega)));have mX:=eK qm (I:=W5) λg hg=>(bB.block g (by have:=(qm.lt g hg).2;simp;omega)).trans (cD.block g (qm.lt g hg).2);have wF:wr.heap.size<W5.heap.size:=r9.lt;clear hg7 hg5 d0 d1 d2 bB cD;generalize wJ:r.pls.contains ((i:Int)+1)=B1 at *
     clear wJ;cases B1
     case true=>
      obtain⟨c0,c1,c2,_,_,_⟩:=bW r9;gi_wp2_with fail;refine⟨trivial,?_⟩;gi_wp2_with (gi_at_builtin;refine Hid.out ?_);refine H ?_;refine wE rfl (.tmp 46) (.tmp 48) 279 88 _ 3 24 rfl underlying279 G2 rfl (by decide) W.heap.size u7 pre.length (jt pre) rfl (mX.alloc _) (by simp;omega) W5.heap.size (oO d) rfl rfl (λj u hj=>(X.new W5 (oO d) 88).cell hj) (by unfold oO;simp[Value.oneCell']) (by omega) (by decide) ?_;intro v' W6 o6 tN qh;clear qh;have cL:=H ((Ds.out.alloc (by omega) _).grown tN (by simp;omega) (λk Y=>(mX.lt k Y).1));gi_wp2_with fail;gi_roundg (gk-1)
      case measure=>omega
      case rel=>exact⟨i+1,pre++[d],by omega,by go_num,cL.out,by rw[yx,χ];exact o6,by simp;omega,H (by rw[HL.out,iI.out];simp)⟩
     case false=>
      have akG:=H (bR.trans (Ds.out.mono bR.size));gi_wp2_with fail;refine⟨trivial,rfl,(callsIn_wide.2 (hC.out _ _ akG.out)).mono ?_⟩;rintro e W7 ⟨rfl,p8⟩;replace r9:=r9.on p8;have ae9:=H (Ds.out.trans (p8.mono (by omega)));have RP:=eK mX (I:=W7) λg hg=>p8.block g (mX.lt g hg).2;have Oe:=p8.size;clear q07 q05 p8 Ds;generalize U0:r.pls.contains ((i:Int)-F.length)=B2 at *
      clear U0;cases B2
      case true=>
       obtain⟨c0,c1,c2,_,_,_⟩:=bW r9;gi_wp2_with (gi_at_builtin;refine Hid.out ?_);refine H ?_;refine wE rfl (.tmp 46) (.tmp 48) 279 88 _ 3 24 rfl underlying279 G2 rfl (by decide) W.heap.size u7 pre.length (jt pre) rfl (RP.alloc _) (by simp;omega) W7.heap.size (oO d) rfl rfl (λj u hj=>(X.new W7 (oO d) 88).cell hj) (by unfold oO;simp[Value.oneCell']) (by omega) (by decide) ?_;intro v' W6 o6 tN qh;clear qh;have cL:=H ((ae9.out.alloc (by omega) _).grown tN (by simp;omega) (λk Y=>(RP.lt k Y).1));gi_wp2_with fail;gi_roundg (gk-1)
       case measure=>omega
       case rel=>exact⟨i+1,pre++[d],by omega,by go_num,cL.out,by rw[yx,χ];exact o6,by simp;omega,H (by rw[HL.out,iI.out];simp)⟩
      case false=>
       gi_wp2_with fail;gi_roundg (gk-1)
       case measure=>omega
       case rel=>exact⟨i+1,pre,by omega,by go_num,ae9.out,RP,by omega,H (by rw[HL.out,iI.out];simp)⟩
end Go.Proofs.YtchdfdmjihnhkaaGreatDoor
namespace Go.Proofs.YtchdfdmjihnhkaaGreatDoor
open Tryz
theorem Dt (y:Int):ag.num y 1 1=cu y 1:=by unfold cu;simp
theorem Vc (r:aE)(s k:Int)(s0:0<=s)(s1:s<=84010)(k0:0<=k)(k1:k<=dA r):
 -400<=bh r s k/\bh r s k<=iU r s k/\iU r s k<=bh r s k+400/\iU r s k<=300000/\(bh r s k<=84010->k+100<=dA r):=by
 have hw:=qA (s+k*7) r.ws;have hm:=jm s (by omega);have hy:=nP s (by omega);obtain⟨n,rfl⟩:∃n:Nat,k=n:=⟨k.toNat,by omega⟩;have G:=Bi (ag.au s) (ag.ofM s) n;have A:=vD (ag.au s) (ag.ofM s+n);have M:=Bi (ag.au s) 1 (12*n);have h4:=Bi (ag.au s) (1+(12*n:Nat)) 12;have e0:=Dt (ag.au s);have S:ag.num (ag.au s+n) 1 1=cu (ag.au s) (1+(12*n:Nat)):=by rw[Dt];exact se (by omega)
 have e2:ag.num (ag.au s+n+1) 1 1=cu (ag.au s) (1+(12*n:Nat)+(12:Nat)):=by rw[Dt];exact se (by omega)
 unfold dA at *
 unfold bh iU;split
 ·rw[if_pos (by assumption)]at k1;omega
 rw[if_neg (by assumption)]at k1;split
 ·rw[if_pos (by assumption)]at k1;omega
 rw[if_neg (by assumption)]at k1;split
 ·rw[if_pos (by assumption)]at k1;omega
 rw[if_neg (by assumption)]at k1;rw[S,e2];omega
theorem Vd (r:aE)(s d:Int)(s0:0<=s)(s1:s<=d)(d1:d<=84010):0<=cj r s d/\cj r s d+100<=dA r:=by
 have hr:=lh s (by omega) (by omega);have hrd:=lh d (by omega) (by omega);have Zn:=qA s r.ws;have hle:ag.au s<=ag.au d:=yq (by omega) s1;have hlm:=AM (by omega) s1;have hs:1970<=ag.au s:=by have:=yq (a:=0) (b:=s) (by omega) s0;have e:ag.au 0=1970:=(by decide);omega
 have hd:ag.au d<=2200:=by have:=yq (a:=d) (b:=84010) (by omega) d1;have e:ag.au 84010=2200:=(by decide);omega
 unfold cj dA;split
 ·omega
 split
 ·omega
 split<;>omega
theorem Jb (r:aE)(ho:ei r)(s f:Int)(s0:0<=s)(s1:s<=7258118400)(f1:f<=7258118400):0<=eZ r s f/\eZ r s f+100<=dA r:=by
 have U3:=ho.Fo;unfold eZ;split
 ·unfold dA;split<;>(try split)<;>(try split)<;>omega
 have h:=Vd r (s/86400) (f/86400) (by omega) (by omega) (by omega);have G:=Int.emod_nonneg (cj r (s/86400) (f/86400)) (b:=r.iv) (by omega);have A:=Int.mul_ediv_add_emod (cj r (s/86400) (f/86400)) r.iv;have M:0<=cj r (s/86400) (f/86400)/r.iv:=Int.ediv_nonneg h.1 (by omega);have h4:0<=r.iv*(cj r (s/86400) (f/86400)/r.iv):=Int.mul_nonneg (by omega) M;omega
def gP (r:aE)(s k:Int):Nat:=(iU r s k-bh r s k).toNat
def sf (r:aE)(s last:Int):Nat->Int->List Int
 |0,_=>[]
 |g+1,k=>if last<bh r s k*86400 then[]else dm r (bh r s k) (gP r s k)++sf r s last g (k+r.iv)
def jc (r:aE)(start from_ last:Int):List Int:=sf r (start/86400) last (dA r).toNat (eZ r start from_)
theorem PO (r:aE)(s last:Int)(g:Nat)(k:Int)(h:last<bh r s k*86400):sf r s last g k=[]:=by
 cases g with
 |zero=>rfl
 |succ g=>rw[sf,if_pos h]
theorem Ve (r:aE)(s last:Int)(g:Nat)(k:Int)(h:¬last<bh r s k*86400):sf r s last (g+1) k=dm r (bh r s k) (gP r s k)++sf r s last g (k+r.iv):=by
 rw[sf,if_neg h]
end Go.Proofs.YtchdfdmjihnhkaaGreatDoor
