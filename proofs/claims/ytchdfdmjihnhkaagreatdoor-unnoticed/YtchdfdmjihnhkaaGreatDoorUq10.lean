import Derived.Test.YtchdfdmjihnhkaaGreatDoorUq9
import Derived.Test.YtchdfdmjihnhkaaGreatDoorShelfC
set_option maxRecDepth 100000
set_option maxHeartbeats 16000000
open Go.IntKind renaming i64->Z
open Go.Value renaming int->V,pointer->ε,slice->ζ,string->η,oneCell'->ύ,ownBlock->Ϥ
open Go.Ending renaming returned->δ
open Go.Obj renaming cells->θ
open Go renaming World->ι,Calls->Β,PanicEntry->Δ,Operand->Η,TypeId->ϋ,Act->Ϙ,Program->ϛ,Oper->ϝ,Code->ϡ,Ending->ϥ,Exit->ϧ,FuncId->ϩ
open Nat renaming le_refl->κ,lt_of_lt_of_le->ψ,reduceSub->ϙ,reduceAdd->Ϛ,zero_add->Ϝ,le_trans->Ϧ,zero_le->Ϩ
open Go.RowKit.Below renaming refl->μ,heap_alloc->φ,heap_setCell->Γ
open List renaming getElem?_eq_getElem->ν,not_mem_nil->ο,length_append->π,mem_cons->ρ,getElem?_append_right->υ,size_toArray->Α,map_toArray->Ε,length_cons->Ζ,nodup_cons->Θ,nil_append->Ι,mem_of_getElem?->Ν,take_succ_cons->Ξ,drop_succ_cons->Ο,append_toArray->Ρ,map_cons->Τ,push_toArray->Χ,map_nil->Ψ,length_take->Ω,cons_append->ϊ,length_nil->ό,take_zero->ώ,drop_zero->Ϗ,drop_eq_getElem_cons->ϗ,take_add_one->Ϟ,getElem_take->ϟ,append_assoc->Ϡ,take_length->Ϣ
open Option.some renaming inj->ξ
open Go.World renaming putObj_heap_other->τ,alloc_heap_new->Κ,ownsRow_nil->Υ
open Go.Instr renaming fieldAt->χ,loadAt->Φ,enterLoop->ϣ
open ByteArray renaming size_append->ω
open Array renaming replicate_zero->Λ,replicate_succ->Μ
namespace Go.Proofs.YtchdfdmjihnhkaaGreatDoor
open Tryz
open Go.RowKit
section
open Go.Sort
attribute [local go_sem] Oper.semAt_some
attribute [local go_sem] bK aU
attribute [local simp] bK aU
theorem Wj:(prog.info? 144).map (λi=>(i.zero,i.size,i.bytes))=some (some (.agg #[V Z 0,V Z 0,η ⟨#[]⟩,η ⟨#[]⟩,V Z 0]),5,56):=by kernel_rfl
def ve (es:List aJ):List Value:=es.flatMap bE
theorem Qv (es:List aJ)(e:aJ):ve (es++[e])=ve es++bE e:=by unfold ve;simp
theorem xD {w:ι}{B s:Nat}{e:ϋ}{v:Value}{n:Nat}{xs:List Value}(h:w.ownsRow B e s v n xs):
 (v=ζ none 0 0/\n=0)\/∃g cap,v=ζ (some ⟨g,0,none⟩) n cap/\B<=g/\g<w.heap.size/\∀j y,xs[j]?=some y->w.cell? ⟨g,j,none⟩=some y:=by
 obtain⟨K,h|⟨g,cap,cur,hv,U,hh,Hq,Bv,bA,ht⟩⟩:=h
 ·exact .inl h
 refine .inr ⟨g,cap,hv,U,?_,λj y hj=>?_⟩
 ·exact(Array.getElem?_eq_some_iff.1 hh).1
 rw[<-ht]at hj;have A:=List.getElem?_eq_some_iff.1 hj;obtain⟨aR,he⟩:=A;rw[Ω]at aR;rw[ϟ]at he;unfold World.cell?;rw[hh];simp only[Option.isSome_none,Bool.false_eq_true,if_false];rw[Array.getElem?_eq_getElem (by have:=ψ aR (Nat.min_le_right _ _);rw[Array.length_toList]at this;simpa using this)];rw[<-he];rfl
theorem ow:∀(L:List aJ) (k i:Nat) (h:k<L.length),i<5->(ve L)[k*5+i]?=(bE L[k])[i]?
 |e::r,0,i,_,hi=>by
  show(bE e++ve r)[0*5+i]?=_;rw[List.getElem?_append_left (by simpa[bE]using hi)];simp
 |e::r,k+1,i,h,hi=>by
  show(bE e++ve r)[(k+1)*5+i]?=_;rw[υ (by simp[bE];omega),show(k+1)*5+i-(bE e).length=k*5+i by simp[bE];omega,ow r k i (by simpa using h) hi];rfl
theorem Wk {w:ι}{B:Nat}{v:Value}{L:List aJ}(h:w.ownsRow B 144 5 v L.length (ve L)){k:Nat}{e:aJ}(Y:L[k]?=some e):
 ∃g cap,v=ζ (some ⟨g,0,none⟩) L.length cap/\w.cell? ⟨g,k*5,none⟩=some (V Z e.b)/\w.cell? ⟨g,k*5+1,none⟩=some (V Z e.e)/\w.cell? ⟨g,k*5+2,none⟩=some (η e.c)/\w.cell? ⟨g,k*5+3,none⟩=some (η e.u)/\w.cell? ⟨g,k*5+4,none⟩=some (V Z e.k):=by
 obtain⟨K,rfl⟩:=List.getElem?_eq_some_iff.1 Y;rcases xD h with⟨rfl,h0⟩|⟨g,cap,rfl,_,hg,hc⟩
 ·omega
 exact⟨g,cap,rfl,hc _ _ (ow L k 0 K (by decide)),hc _ _ (ow L k 1 K (by decide)),hc _ _ (ow L k 2 K (by decide)),hc _ _ (ow L k 3 K (by decide)),hc _ _ (ow L k 4 K (by decide))⟩
def AJ (b4 b6 aqv:Nat)(room:Nat)(xs:List (Array Value)):aQ:=λD W=>
 ∃es:List aJ,xs=dz es/\sJ b6 163 144 5 aqv es.length (ve es) D W/\D b4/\X W b4 [.bool false] 4/\es.length<=room
theorem xE (a b:List aJ):dz (a++b)=dz a++dz b:=by unfold dz;simp
theorem Kx {x y:aJ}(h:(#[de x]:Array Value)=#[de y]):x=y:=by
 obtain⟨x1,x2,x3,x4,x5⟩:=x;obtain⟨y1,y2,y3,y4,y5⟩:=y;unfold de bE at h;simp at h;obtain⟨G,A,M,h4,h5⟩:=h;subst G A M h4 h5;rfl
theorem tM:∀{a b:List aJ},dz a=dz b->a=b
 |[],[],_=>rfl
 |[],_::_,h=>by cases h
 |_::_,[],h=>by cases h
 |x::a,y::b,h=>by
  have h':#[de x]::dz a=#[de y]::dz b:=h;injection h' with G A
  rw[Kx G,tM A]
theorem xF:∀{es fs:List aJ} {x:Array Value} {gi:List (Array Value)},dz es++x::gi=dz fs->∃e r,fs=es++e::r/\x=#[de e]
 |[],[],_,_,h=>by cases h
 |[],e::r,_,_,h=>by
  have h':=List.cons.inj (show _::_=#[de e]::dz r from h);exact⟨e,r,rfl,h'.1⟩
 |_::_,[],_,_,h=>by cases h
 |a::es,b::fs,x,gi,h=>by
  have h':#[de a]::(dz es++x::gi)=#[de b]::dz fs:=h;injection h' with G A
  obtain⟨e,r,rfl,N⟩:=xF A;exact⟨e,r,by rw[Kx G];rfl,N⟩
theorem Bw {b:Nat}{x:Bool}{w:ι}(h:w.cell? ⟨b,0,none⟩=some (.bool x)):(loadVar 4 ⟨b,0,none⟩).run prog w=.ok (.bool x) w:=by
 simp[loadVar,go_sem,h]
theorem Cl {x y:aJ}(h:bP x y≠0):bP y x≠0:=λe=>h (by
 obtain⟨a,b,c⟩:=ir.1 e;exact ir.2 ⟨a.symm,b.symm,c.symm⟩)
theorem Y5 {es:List aJ}(J:es.Pairwise λx y=>bP x y≠0){j:Nat}{e:aJ}(he:es[j]?=some e):∀y∈es.take j,bP e y≠0:=λy hy=>by
 obtain⟨i,hi,rfl⟩:=List.getElem_of_mem hy;rw[Ω]at hi;obtain⟨K,rfl⟩:=List.getElem?_eq_some_iff.1 he;rw[ϟ];exact Cl (List.pairwise_iff_getElem.1 J i j (by omega) K (by omega))
theorem Wl {es:List aJ}{T aqA:LT}{j:Nat}{e:aJ}{nb:Nat}(he:es[j]?=some e)(J:es.Pairwise λx y=>bP x y≠0)(hT:∀x∈es,∀y∈T.aw,bP x y≠0)(hS:LT.eF aqA.aw)(hP:aqA.aw.Perm (es.take j++T.aw)):
 LT.eF (aqA.put nb e).aw/\(aqA.put nb e).aw.Perm (es.take (j+1)++T.aw):=by
 rw[LT.Cm nb e hS];refine⟨LT.Ky hS λy hy=>?_,?_⟩
 ·rcases List.mem_append.1 (hP.mem_iff.1 hy)with h|h
  ·exact Y5 J he y h
  exact hT e (Ν he) y h
 rw[Ϟ,he];refine(LT.zx e aqA.aw).trans ((hP.cons e).trans ?_);show(e::(es.take j++T.aw)).Perm ((es.take j++[e])++T.aw);rw[Ϡ];exact List.perm_middle.symm
def DY (Q:ϧ->Ϙ->ι->Prop):ϧ->Ϙ->ι->Prop
 | .normal,a,w=>Q .normal a w
 |_,_,_=>False
theorem Kz (Q:ϧ->Ϙ->ι->Prop):∀e a w,DY Q e a w->Q e a w:=λe a w h=>by
 cases e<;>first|exact h|exact h.elim
def aj0 (p:Nat)(T:LT)(h:Int)(lu:List aJ->Prop)(w:ι):ϥ->ι->Prop:=λE I=>
 (∃es T',lu es/\es.length+T.size<=500/\E=δ (.bool true)/\cP I p T' T'.size h/\LT.eF T'.aw/\T'.aw.Perm (es++T.aw)/\(∀k∈T'.ax,k∈T.ax\/w.heap.size<=k)/\aj (λk=>k∈p::T.ax) w I)\/
 ((∃es,lu es/\500<es.length+T.size)/\E=δ (.bool false)/\Below w.heap.size w I)
theorem Oc (p:Nat)(T:LT)(h:Int)(g:Nat)(lb:Array Value)(lu:List aJ->Prop)(R:ak)(w:ι)(hi:cP w p T T.size h)(hs:LT.eF T.aw)(hc:T.size<=500)
 (hit:pQ prog g lb (λxs=>∃es,lu es/\xs=dz es) R w)(hR:∀k,R k->k<w.heap.size)(eg:∀args w,(callFunc g args).run prog w=.ok (.enter g args) w)
 (hd:∀es,lu es->es.Pairwise (λx y=>bP x y≠0)/\∀x∈es,∀y∈T.aw,bP x y≠0):
 Β prog 70 #[ε (some ⟨p,0,none⟩),.func (.func g) #[] lb] w (aj0 p T h lu w):=by
 have k1:=hi.row.cell (k:=1) rfl;have aoa:=hi.row.lt;have Qw:=hi.tree.lt;have HI:=H hi;clear hi;refine(callsIn_wide (n:=0)).1 ?_;refine di func70 rfl ?_;simp only[ntmps70,Α,Ζ,ό,Ϛ,ϙ,Μ,Λ,Χ,Ρ,Ι,ϊ];refine bO λaqy hK=>bQ ?_;gi_wp2_with fail;refine bO λaqy hK=>bQ ?_;gi_wp2_with fail;refine bO λaqy hK=>bQ ?_;gi_wp2_with fail;have r4:=kx w [.bool false] 4 (θ #[V Z (500-(T.size:Int))] 3) (θ #[ζ none 0 0] 163);have r5:=ky w (θ #[.bool false] 4) [V Z (500-(T.size:Int))] 3 (θ #[ζ none 0 0] 163);have r6:=kz w (θ #[.bool false] 4) (θ #[V Z (500-(T.size:Int))] 3) [ζ none 0 0] 163;have bj:=gJ w (θ #[.bool false] 4) (θ #[V Z (500-(T.size:Int))] 3) (θ #[ζ none 0 0] 163);have hz:(((w.alloc (θ #[.bool false] 4)).alloc (θ #[V Z (500-(T.size:Int))] 3)).alloc (θ #[ζ none 0 0] 163)).heap.size=w.heap.size+3:=by simp
 replace hz:=H hz;generalize(((w.alloc (θ #[.bool false] 4)).alloc (θ #[V Z (500-(T.size:Int))] 3)).alloc (θ #[ζ none 0 0] 163))=W0 at *
 have hI0:Hid (cP W0 p T T.size h):=H (HI.out.aM (O:=λ_=>False) (aj.aq bj) (λ_ _ h=>h));clear k1 HI;refine bO λK1 fh=>?_;refine bO λaqy hK=>bQ ?_;gi_wp2_with fail;refine gj ?_;have wD:w.heap.size+3<=W0.heap.size:=by have:=hz.out;omega
 generalize cq:w.heap.size=b4 at *
 refine Ss (gf:=g) (lb:=lb) func70 ?g eg hit (by omega) (λk Y=>bj.block k (hR k Y)) (λk Y=>by have:=hR k Y;omega)
  (λk=>k=b4\/k=b4+1+1) (λk Y bV=>by have:=hR k bV;omega) (AJ b4 (b4+1+1) W0.heap.size (500-T.size)) (λc D W=>c=.ret/\D b4/\X W b4 [.bool false] 4/\∃es,lu es/\500<es.length+T.size) (λ_ _ _=>False) ?ps ?start ?round ?done ?stop ?pan
 case g=>rfl
 case ps=>rintro xs ⟨es,_,rfl⟩ x N;obtain⟨b,_,rfl⟩:=List.mem_map.1 N;rfl
 case start=>
  have G:On (λk=>k=b4\/k=b4+1+1) (sJ (b4+1+1) 163 144 5 W0.heap.size 0 []) W0:=sJ.cQ (λk Y=>by omega) ⟨.inr rfl,ζ none 0 0,r6,λk Y=>by simp[Ϥ]at Y,Υ _ _ _ _⟩;exact⟨G.1,λW2 Y=>⟨[],rfl,G.2 W2 Y,.inl rfl,r4.keep (Y _ (.inl rfl)),by simp⟩⟩
 case pan=>
  rintro c W4 ⟨N,D,cx,_,aG⟩ hs bM;exact aG.out.elim
 case stop=>
  rintro c W4 ⟨N,D,cx,_,aG⟩ hs bM;obtain⟨rfl,KA,q4,aj1⟩:=aG.out;have sK:=bj.trans (N.below (B:=b4) (by omega) (λk Y=>by omega));gi_wp2_with fail;refine⟨by simp,.inl ⟨_,_,rfl,run_takeDeferred bM,?_⟩⟩;have yK:X (W4.putObj W0.heap.size (.deferred none)) b4 [.bool false] 4:=(τ (by omega)).trans q4;refine⟨_,mj results70 rfl (Bw (yK.cell (k:=0) rfl)),.inr ⟨aj1,rfl,?_⟩⟩;rw[cq];exact⟨sK.os,sK.tape,sK.output,by simp;omega,λk Y=>(τ (by omega)).trans (sK.block k Y)⟩
 case done=>
  rintro xs ⟨es,cR,rfl⟩ W4 ⟨N,D,cx,_,aG⟩ nC bM;obtain⟨Y6,Hr,⟨DZ,v,q6,fS,aX⟩,KA,q4,hle⟩:=aG.out;have o4:=tM Hr;subst o4;obtain⟨hdp,hdT⟩:=hd es cR;have sK:=bj.trans (N.below (B:=b4) (by omega) (λk Y=>by omega));simp only[Exit.inBlock,Exit.then];refine fh _ _ (bQ (wpIn_wide.2 ?_));obtain⟨va,vc,hv⟩:=nD aX;subst hv;have c6:=q6.cell (k:=0) rfl;have hI4:cP W4 p T T.size h:=hI0.out.aM N (λk Y h=>by
   rcases List.mem_cons.1 Y with rfl|Y
   ·omega
   have:=Qw k Y;omega)
  clear fh aG hit;go_wp2_with fail;have HV:=H fS;have HO:=H aX;have HI4:=H hI4;have HS:=H hs;have HDP:=H hdp;have HDT:=H hdT;clear fS aX hI4 c6 hs hdp hdT hd;go_loopg [27,9] es.length (λk v27 _ wr=>∃(j:Nat) (aqA:LT),j+k=es.length/\v27=V Z j/\cP wr p aqA T.size h/\LT.eF aqA.aw/\aqA.aw.Perm (es.take j++T.aw)/\(∀k∈aqA.ax,k∈T.ax\/W4.heap.size<=k)/\aj (λk=>k∈p::T.ax) W4 wr)
  case atStart=>exact⟨0,T,by omega,rfl,HI4.out,HS.out,by simp,λ_ h=>.inl h,aj.refl _ _⟩
  case round=>
   obtain⟨j,aqA,hjk,rfl,Bx,KB,Y7,D4,KC⟩:=hrel;have bA:aqA.size=min j es.length+T.size:=by
    have:=Y7.length_eq;rw[π,Ω,LT.cC,LT.cC]at this;omega
   have zy:∀k,W0.heap.size<=k\/k=b4\/k=b4+1+1->¬k∈p::T.ax:=λk Y h=>by
    rcases List.mem_cons.1 h with rfl|h
    ·omega
    have:=Qw k h;omega
   have mX:=eK HO.out (I:=wr) λg hg=>KC.block g (HO.out.lt g hg).2 (zy g (.inl (HO.out.lt g hg).1));by_cases hj:j<es.length
   case pos=>
    have he:=ν hj;generalize es[j]=e at he;obtain⟨gb,cap,aj2,x0,x1,x2,x3,x4⟩:=Wk mX he;injection aj2 with hv1 hv2 KD
    subst hv1 KD;have Y8:(j:Int)<es.length:=by omega
    clear mX;go_upto_region 11 with fail;have bB:Below wr.heap.size wr (wr.alloc (θ (bE e).toArray 144)):=(μ _ _).alloc (κ _) _;have rx:=X.new wr (bE e) 144;have KF:cP (wr.alloc (θ (bE e).toArray 144)) p aqA T.size h:=Bx.aM (O:=λ_=>False) (aj.aq bB) (λ_ _ h=>h);have dH:aj (λk=>k∈p::T.ax) W4 (wr.alloc (θ (bE e).toArray 144)):=KC.alloc _;have Qx:W4.heap.size<=(wr.alloc (θ (bE e).toArray 144)).heap.size:=dH.size;clear x0 x1 x2 x3 x4 bB Bx KC;unfold bE at rx KF dH Qx;generalize(wr.alloc (.cells [Value.int Z e.b,V Z e.e,η e.c,η e.u,V Z e.k].toArray 144))=W5 at *
    obtain⟨x0,x1,x2,x3,x4⟩:=lS (e:=e) rx;have k0:=KF.row.cell (k:=0) rfl;have hn:=KF.nd;rw[Θ]at hn;have HI5:=H KF;have HX5:=H dH;have HC:=H (F4 e aqA W5.drew (KF.tree.keep λ_ _=>rfl) hn.2 (by omega));have an8:p<W5.heap.size:=KF.row.lt;unfold de bE at HC;clear KF dH rx;refine wp_mono (Q:=DY _) ?_ (Kz _);go_region_with (go_at_call 106;refine(HC.out).mono ?_;rintro E W6 ⟨nb,hE,yL,kA,gm⟩;obtain⟨px,gY⟩:=(aqA.put nb e).kB;rw[gY]at hE;subst hE;have r7:=X.ex (show X W5.drew p _ _ from HI5.out.row) gm hn.1;have f7:=r7.free (k:=0);have c7:=r7.cell (k:=0) rfl)
    all_goals
     have Qy:W5.heap.size<=nb:=kA;have Oe:aj (λk=>k=p) W6 (W6.setCell ⟨p,0,none⟩ (.pointer px)):=(aj.refl (λk=>k=p) W6).st rfl _;have mem:∀k,k∈(aqA.put nb e).ax↔k=nb\/k∈aqA.ax:=λk=>by rw[(LT.mY nb e aqA).mem_iff,ρ]
     have Y9:¬p∈(aqA.put nb e).ax:=λh=>by
      rcases(mem p).1 h with h|h
      ·omega
      exact hn.1 h
     have Su:cP (W6.setCell ⟨p,0,none⟩ (.pointer px)) p (aqA.put nb e) T.size h:=⟨by unfold Wm;rw[gY];exact r7.set (k:=0) _,yL.aM Oe (λk Y e=>Y9 (e▸Y)),by
      rw[Θ];refine⟨Y9,?_⟩;rw[(LT.mY nb e aqA).nodup_iff,Θ];exact⟨λh=>by have:=HI5.out.tree.lt nb h;omega,hn.2⟩⟩
     have iH:aj (λk=>k∈p::T.ax) W4 (W6.setCell ⟨p,0,none⟩ (.pointer px)):=((HX5.out.aK (aj.refl _ W5).drew).trans gm λk Y=>by
      rcases D4 k Y with h|h
      ·exact .inl (by simp[h])
      exact .inr h).st (by simp) _
     clear r7 f7 c7 gm yL HC x0 x1 x2 x3 x4 k0 Oe;generalize(W6.setCell ⟨p,0,none⟩ (.pointer px))=W7 at *
     obtain⟨m1,m2⟩:=Wl (nb:=nb) he HDP.out HDT.out KB Y7;have HI7:=H Su;have By:=H iH;clear Su iH;simp only[DY];go_wp2_with fail;go_roundg (gk-1)
     case measure=>omega
     case rel=>
      refine⟨j+1,aqA.put nb e,by omega,by simp,HI7.out,m1,m2,λk Y=>?_,By.out⟩;rcases(mem k).1 Y with h|h
      ·exact .inr (by omega)
      exact D4 k h
   case neg=>
    have Y8:¬(j:Int)<es.length:=by omega
    have hje:j=es.length:=by omega
    have q6':=q6.ex KC (zy _ (.inr (.inr rfl)));have yK:=q4.ex KC (zy _ (.inr (.inl rfl)));have o5:wr.heap[W0.heap.size]?=some (.deferred (some [])):=(KC.block _ (by omega) (zy _ (.inl (κ _)))).trans bM;have c6:=q6'.cell (k:=0) rfl;have c4:=yK.cell (k:=0) rfl;have f4:=yK.free (k:=0);have k1:=Bx.row.cell (k:=1) rfl;have f1:=Bx.row.free (k:=1);have Za:=H Bx;clear mX Bx;go_upto_region 13 with fail;refine wp_mono (Q:=DY _) ?_ (Kz _);go_region_with fail
    all_goals
     rw[show IntKind.i64.wrap ((T.size:Int)+es.length)=(T.size:Int)+es.length from gI (by omega) (by omega)];simp only[DY];have KG:(aqA.size:Int)=T.size+es.length:=by omega
     have Oe:aj (λk=>k=p) wr (wr.setCell ⟨p,1,none⟩ (V Z ((T.size:Int)+es.length))):=(aj.refl (λk=>k=p) wr).st rfl _;have r7:=Za.out.row.set (k:=1) (V Z ((T.size:Int)+es.length));have hn:=Za.out.nd;rw[Θ]at hn;have Su:cP (wr.setCell ⟨p,1,none⟩ (V Z ((T.size:Int)+es.length))).drew p aqA aqA.size h:=⟨by rw[KG];exact r7,(Za.out.tree.aM Oe (λk Y e=>hn.1 (e▸Y))).keep λ_ _=>rfl,Za.out.nd⟩;have iH:aj (λk=>k∈p::T.ax) W4 (wr.setCell ⟨p,1,none⟩ (V Z ((T.size:Int)+es.length))).drew:=(KC.st (by simp) _).drew;clear c6 c4 f4 k1 f1 yK q6' o5 r7 Oe;generalize(wr.setCell ⟨p,1,none⟩ (V Z ((T.size:Int)+es.length))).drew=W7 at *
     have yK:=q4.ex iH (zy _ (.inr (.inl rfl)));have o5:W7.heap[W0.heap.size]?=some (.deferred (some [])):=(iH.block _ (by omega) (zy _ (.inl (κ _)))).trans bM;have c4:=yK.cell (k:=0) rfl;have f4:=yK.free (k:=0);have HI7:=H Su;have By:=H iH;clear Su iH;go_wp2_with fail;have hz7:=By.out.size;have agk:∀k,k≠b4->k≠W0.heap.size->((W7.setCell ⟨b4,0,none⟩ (.bool true)).putObj W0.heap.size (.deferred none)).heap[k]?=W7.heap[k]?:=λk G A=>(τ A).trans (Γ _ _ _ _ G);have q9:X ((W7.setCell ⟨b4,0,none⟩ (.bool true)).putObj W0.heap.size (.deferred none)) b4 [.bool true] 4:=(τ (by omega)).trans (yK.set (k:=0) (.bool true));refine⟨by simp,.inl ⟨_,_,rfl,run_takeDeferred ((Γ _ _ _ _ (show W0.heap.size≠b4 by omega)).trans o5),?_⟩⟩;refine⟨_,mj results70 rfl (Bw (q9.cell (k:=0) rfl)),.inl ⟨es,aqA,cR,by omega,rfl,HI7.out.keep (λk Y=>agk k ?_ ?_),KB,?_,λk Y=>?_,?_⟩⟩
     ·rcases List.mem_cons.1 Y with rfl|Y
      ·omega
      rcases D4 k Y with h|h
      ·have:=Qw k h;omega
      omega
     ·rcases List.mem_cons.1 Y with rfl|Y
      ·omega
      rcases D4 k Y with h|h
      ·have:=Qw k h;omega
      omega
     ·rw[hje,Ϣ]at Y7;exact Y7
     ·rcases D4 k Y with h|h
      ·exact .inl h
      exact .inr (by omega)
     have S:aj (λk=>k∈p::T.ax) w W4:=aj.aq (cq.symm▸sK);exact((S.aK By.out).setCell (.inr (by show w.heap.size<=b4;omega)) _).put (.inr (by omega)) _
 case round=>
  intro BA pre x N W4 D yM nC dT aG aqy hK;obtain⟨es,rfl,⟨_,_⟩⟩:=aG.out;obtain⟨gi,fs,cR,Zb⟩:=N;obtain⟨e,r,rfl,rfl⟩:=xF Zb;clear Zb;unfold de bE;gi_wp2_with fail;have gp:Below W4.heap.size W4 (W4.alloc (θ (bE e).toArray 144)):=(μ _ _).alloc (κ _) _;refine hK _ _ (λk=>D k\/k=W4.heap.size) gp (λk Y=>Y.imp id λh=>by omega) (λk Y=>.inl Y) (λk Y=>Y.elim (λh=>by have:=aG.1 k h;simp;omega) (λh=>by simp;omega)) ?_;intro l' W2 fD bN rB;have q7:=(X.new W4 (bE e) 144).keep (fD _ (.inr rfl));have dX:=aG.on (W':=W2) λk Y=>(fD k (.inl Y)).trans (gp.block k (aG.1 k Y));have dp:¬D W4.heap.size:=λh=>by have:=aG.1 _ h;omega
  clear hK fD hit fh gp aG;obtain⟨Y6,Hr,⟨DZ,v,q6,fS,aX⟩,KA,q4,hle⟩:=dX.out;have o4:=tM Hr;subst o4;have dP:∀k,D k\/k=W4.heap.size->k<W2.heap.size:=λk Y=>Y.elim (dX.1 k) (λh=>by have:=q7.lt;omega);have q5:=r5.aM bN (show¬(b4+1=b4\/b4+1=b4+1+1) by omega);have zz:∀k,v.ownBlock=some k->k≠b4:=λk Y=>by have:=(aX.lt k Y).1;omega
  obtain⟨va,vc,rfl⟩:=nD aX;have c5:=q5.cell (k:=0) rfl;have c6:=q6.cell (k:=0) rfl;have f6:=q6.free (k:=0);have c4:=q4.cell (k:=0) rfl;have f4:=q4.free (k:=0);obtain⟨x0,x1,x2,x3,x4⟩:=lS (e:=e) q7;by_cases Qz:es.length=500-T.size
  case pos=>
   have jv:(es.length:Int)=500-(T.size:Int):=by omega
   gi_wp2_with fail;show aO _ _ _ _ _;refine⟨(aj.refl _ _).setCell (.inl (.inl KA)) _,λk=>D k\/k=W4.heap.size,λk Y=>.inl Y,λk Y=>Y,λk Y=>by rw[World.size_setCell];exact dP k Y,λW5 Y=>⟨rfl,.inl KA,((q4.set (k:=0) (.bool false)).keep (Y b4 (.inl KA))),_,cR,?_⟩⟩;rw[π,Ζ];omega
  case neg=>
   have jv:¬(es.length:Int)=500-(T.size:Int):=by omega
   gi_wp2_with (gi_at_builtin;refine Hid.out ?_);refine H ?_;have Zc:W0.heap.size<=W2.heap.size:=by omega
   refine wE rfl (.tmp 21) (.tmp 23) 163 144 _ 5 56 rfl underlying163 Wj rfl (by decide) W0.heap.size _ _ _ rfl (aX.alloc _) (by simp;omega) W2.heap.size (bE e) rfl rfl (λj u hj=>(X.new W2 (bE e) 144).cell hj) (by simp[bE,ύ]) (by omega) (by decide) ?_;intro v' W6 o6 tN qh;obtain⟨g6,aj3,rfl⟩:=nD o6;replace qh:=H qh;have cD:=(μ W2.heap.size W2).alloc (κ _) (θ (bE e).toArray 144);have z6:=q6.on cD;have z4:=q4.on cD;have z6':X W6 (b4+1+1) _ 163:=(tN.block _ z6.lt (λe=>(fS _ e.symm).2 rfl)).trans z6;have z4':X W6 b4 _ 4:=(tN.block _ z4.lt (λe=>zz _ e.symm rfl)).trans z4;clear c4 c5 c6 f4 f6 x0 x1 x2 x3 x4;have c6:=z6'.cell (k:=0) rfl;have f6:=z6'.free (k:=0);gi_wp2_with fail;have fG:=Cn (D1:=λk=>D k\/k=W4.heap.size) (W2:=W2) (p:=b4+1+1) (T:=163) dP (.inl DZ) ((aj.refl _ _).alloc _) z6 (λk Y=>⟨.inl (fS k Y).1,(fS k Y).2⟩) tN qh.out o6;show aO _ _ _ _ _;obtain⟨px,D',p1,p2,p3⟩:=fG;have aj4:∀u,X (W6.setCell ⟨b4+1+1,0,none⟩ u) b4 _ 4:=λu=>(Γ _ _ _ _ (show b4≠b4+1+1 by omega)).trans z4';refine⟨px,D',p1,p2,p3.1,λW7 Y=>⟨es++[e],by rw[xE];rfl,?_,p2 _ (.inl KA),(aj4 _).keep (Y _ (p2 _ (.inl KA))),?_⟩⟩
   ·rw[Qv,π];exact p3.2 W7 Y
   rw[π,List.length_singleton];omega
end
section
open Go.Sort
attribute [local go_sem] Oper.semAt_some
attribute [local go_sem] bK aU
attribute [local simp] bK aU
def gT (tr:Bool)(k:Int):Int:=if tr=true\/k=2 then 0 else if k=1 then 1 else 2
theorem KH (u:ByteArray)(st ln:Int)(hr:Bool)(r:aE)(m md wk pl:Value)(tx:ByteArray)(aI aH:Value)(tr:Bool)(k:Int)(w:ι)(G:∃a n c,m=ζ a n c)(A:∃a n c,md=ζ a n c)(M:∃a n c,wk=ζ a n c)(h4:∃a n c,pl=ζ a n c)(h5:∃a n c,aI=ζ a n c)(h6:∃a n c,aH=ζ a n c):
 Β prog 99 #[.agg (cE u st ln hr r m md wk pl tx aI aH tr k).toArray] w λe I=>e=δ (V Z (gT tr k))/\Below w.heap.size w I:=by
 obtain⟨a1,n1,c1,rfl⟩:=G;obtain⟨a2,n2,c2,rfl⟩:=A;obtain⟨a3,n3,c3,rfl⟩:=M;obtain⟨a4,n4,c4,rfl⟩:=h4;obtain⟨a5,n5,c5,rfl⟩:=h5;obtain⟨a6,n6,c6,rfl⟩:=h6;have U:Below w.heap.size w (w.alloc (θ (cE u st ln hr r (ζ a1 n1 c1) (ζ a2 n2 c2) (ζ a3 n3 c3) (ζ a4 n4 c4) tx (ζ a5 n5 c5) (ζ a6 n6 c6) tr k).toArray 99)):=(μ _ _).alloc (κ _) _;unfold cE at *
 cases tr
 case true=>
  rw[show gT true k=0 from if_pos (.inl rfl)];go_enter func99,ntmps99;go_wp2_with fail;go_ret;exact⟨rfl,U⟩
 case false=>
  by_cases k2:k=2
  ·subst k2;rw[show gT false 2=0 from rfl];go_enter func99,ntmps99;go_wp2_with fail;go_ret;exact⟨rfl,U⟩
  by_cases k1:k=1
  ·subst k1;rw[show gT false 1=1 from rfl];go_enter func99,ntmps99;go_wp2_with fail;go_ret;exact⟨rfl,U⟩
  have e2:(k==2)=false:=by simp[k2]
  have S:(k==1)=false:=by simp[k1]
  rw[show gT false k=2 by unfold gT;rw[if_neg (by simp[k2]),if_neg k1]];clear k1 k2;go_enter func99,ntmps99;go_wp2_with fail;go_ret;exact⟨rfl,U⟩
def mm (c u:ByteArray)(ln kd:Int)(bs:List Int):List aJ:=bs.map λb=>⟨b,b+ln,c,u,kd⟩
theorem QA {c u:ByteArray}{ln kd:Int}{bs:List Int}{i:Nat}{b:Int}(h:bs[i]?=some b):(mm c u ln kd bs)[i]?=some ⟨b,b+ln,c,u,kd⟩:=by unfold mm;rw[List.getElem?_map,h];rfl
theorem D5 (c u:ByteArray)(ln kd:Int)(bs:List Int):(mm c u ln kd bs).length=bs.length:=by unfold mm;simp
end
section
open Go.Sort
attribute [local go_sem] Oper.semAt_some
attribute [local go_sem] bK aU
attribute [local simp] bK aU
def sy (kc ku:ByteArray)(ln:Int)(tr:Bool)(k:Int)(bs:List Int):List aJ:=if gT tr k=0 then[]else mm kc ku ln (gT tr k) bs
theorem QB (kc ku:ByteArray)(u:ByteArray)(st ln:Int)(hr:Bool)(r:aE)(m md wk pl:Value)(tx:ByteArray)(aI aH:Value)(ex xt:List Int)(tr:Bool)(k:Int)(f to:Int)(be bf bt bk:Nat)(w:ι)(K:jX w hr r m md wk pl aI aH ex xt)
 (s0:0<=st)(s1:st<=7258118400)(l0:0<=ln)(l1:ln<=10000000)(f0:-1000000000000<=f)(f1:f<=7258118400)(t0:0<=to)(t1:to<=7258118400)(ox:∀t∈fb hr r st f to ex xt,-100000000000<=t/\t<=100000000000)
 (q1:X w be (cE u st ln hr r m md wk pl tx aI aH tr k) 99)(q2:X w bf [V Z f] 3)(q3:X w bt [V Z to] 3)(q4:X w bk [η kc,η ku] 107):
 kO prog 149 #[ε (some ⟨be,0,none⟩),ε (some ⟨bf,0,none⟩),ε (some ⟨bt,0,none⟩),ε (some ⟨bk,0,none⟩)] (dz (sy kc ku ln tr k (fb hr r st f to ex xt))) (λk=>k=be\/k=bf\/k=bt\/k=bk\/kP m md wk pl aI aH k) w:=by
 intro l W O aqx Js Jp bA hR hO cM hY;have eG:=K.keep λk Y=>hR k (.inr (.inr (.inr (.inr Y))));replace q1:=q1.keep (hR be (.inl rfl));replace q2:=q2.keep (hR bf (.inr (.inl rfl)));replace q3:=q3.keep (hR bt (.inr (.inr (.inl rfl))));replace q4:=q4.keep (hR bk (.inr (.inr (.inr (.inl rfl)))));have Of:¬O bk:=λh=>hO bk h (.inr (.inr (.inr (.inl rfl))));have J1:∀k,kP m md wk pl aI aH k->k<W.heap.size/\¬O k:=λk h=>⟨eG.fO h,λh'=>hO k h' (.inr (.inr (.inr (.inr h))))⟩;have QC:=q4.lt;have hKO:Hid (∀wr,Β prog 99 #[.agg (cE u st ln hr r m md wk pl tx aI aH tr k).toArray] wr λe I=>e=δ (V Z (gT tr k))/\Below wr.heap.size wr I):=by
  obtain⟨a1,S⟩:=eG.cT.ms.form;obtain⟨a2,e2⟩:=eG.cT.mds.form;obtain⟨a3,e3⟩:=eG.cT.wks.form;obtain⟨a4,e4⟩:=eG.cT.pls.form;obtain⟨a5,c5,e5⟩:=eG.hex.sl;obtain⟨a6,c6,e6⟩:=eG.lT.sl;exact H λwr=>KH u st ln hr r m md wk pl tx aI aH tr k wr ⟨_,_,_,S⟩ ⟨_,_,_,e2⟩ ⟨_,_,_,e3⟩ ⟨_,_,_,e4⟩ ⟨_,_,_,e5⟩ ⟨_,_,_,e6⟩
 have KI:Hid (∀wr,Below W.heap.size W wr->Β prog 56 #[.agg (cE u st ln hr r m md wk pl tx aI aH tr k).toArray,V Z f,V Z to] wr (dR (o7 ln (fb hr r st f to ex xt)) (kP m md wk pl aI aH) wr)):=
  H λwr U=>sA u st ln hr r m md wk pl tx aI aH ex xt tr k f to wr (eG.on U) s0 s1 l0 l1 f0 f1 t0 t1 ox
 clear hR hO K bA eG;rw[qi];refine di func149 rfl ?_;simp only[ntmps149,Α,Ζ,ό,Ϛ,ϙ,Μ,Λ,Χ,Ρ,Ι,ϊ];refine bO λaqy hK=>bQ ?_;gi_wp2_with fail;have r5:X (W.alloc (θ #[.func (.yield l) #[] #[]] 165)) W.heap.size [.func (.yield l) #[] #[]] 165:=X.new W [.func (.yield l) #[] #[]] 165;have al:Below W.heap.size W (W.alloc (θ #[.func (.yield l) #[] #[]] 165)):=(μ _ _).alloc (κ _) _;have zA:W.heap.size<(W.alloc (θ #[.func (.yield l) #[] #[]] 165)).heap.size:=by simp
 generalize W.alloc (θ #[.func (.yield l) #[] #[]] 165)=W2 at *
 refine bO λaqy hK=>bQ ?_;gi_wp2_with (refine KJ rfl rfl rfl (q1.on al) (λ_=>trivial) ?_);refine(callsIn_wide.2 (hKO.out _)).mono ?_;rintro e w3 ⟨rfl,aP⟩;replace r5:=r5.on aP;replace al:=al.trans (aP.mono al.size);have tO:=aP.size;clear aP hKO;gi_wp2_with fail;have r6:X (w3.alloc (θ #[V Z (gT tr k)] 142)) w3.heap.size [V Z (gT tr k)] 142:=X.new w3 [V Z (gT tr k)] 142;have cq:Below w3.heap.size w3 (w3.alloc (θ #[V Z (gT tr k)] 142)):=(μ _ _).alloc (κ _) _;have nC:w3.heap.size<(w3.alloc (θ #[V Z (gT tr k)] 142)).heap.size:=by simp
 replace r5:=r5.on cq;replace al:=al.trans (cq.mono al.size);generalize w3.alloc (θ #[V Z (gT tr k)] 142)=w4 at *
 have c6:=r6.cell (k:=0) rfl;refine bO λK1 fh=>bQ ?_;by_cases nE:gT tr k=0
 case pos=>
  have e0:sy kc ku ln tr k (fb hr r st f to ex xt)=[]:=if_pos nE;rw[e0];rw[nE]at c6;have fG:=H (show aO O W.heap.size (aqx 0) W w4 from⟨aj.aq al,O,λ_ h=>.inl h,λ_ h=>h,cM.below al⟩);clear hY KI ox J1 q1 q2 q3 q4 r5 r6 cq e0;gi_wp2_with fail;exact⟨_,results_none rfl _ _ _,.inl ⟨⟨_,rfl⟩,.inl fG.out⟩⟩
 case neg=>
  have e0:sy kc ku ln tr k (fb hr r st f to ex xt)=mm kc ku ln (gT tr k) (fb hr r st f to ex xt):=if_neg nE;rw[e0]at hY⊢;have tP:=H (λ(i:Nat) (t:Int) (h:(fb hr r st f to ex xt)[i]?=some t)=>hY i _ (xG (QA h)));rw[D5];have eN:=H (show(sy kc ku ln tr k (fb hr r st f to ex xt)).length=(fb hr r st f to ex xt).length by rw[e0,D5]);clear hY e0;have Hs:(gT tr k==0)=false:=by simp[nE]
  gi_wp2_with fail;refine bO λaqy hK=>bQ ?_;have c2:=(q2.on al).cell (k:=0) rfl;have c3:=(q3.on al).cell (k:=0) rfl;gi_wp2_with (refine KJ rfl rfl rfl (q1.on al) (λ_=>trivial) ?_);refine(callsIn_wide.2 (KI.out _ al)).mono ?_;rintro e w5 ⟨g,lb,R,rfl,hit,mn,eg,bB⟩;replace r5:=r5.on bB;replace r6:=r6.on bB;replace al:=al.trans (bB.mono al.size);have wF:=bB.size;clear bB KI c2 c3 c6 cq q1 q2 q3;generalize fb hr r st f to ex xt=XS at *
  generalize gT tr k=kd at *
  gi_wp2_with fail;refine gj ?_;refine kY (gf:=g) (lb:=lb) func149 ?g eg hit (κ _) (λ_ _=>rfl) (λk Y=>(mn k Y).1)
   O (λk Y bV=>by
    rcases(mn k bV).2 with h|h
    ·exact(J1 k h).2 Y
    have:=cM.1 k Y;omega) (DK O W aqx λq i=>q=i) (pR O W (aqx XS.length) Js) (λc=>DX O W (Jp c)) ?ps ?start ?round ?done ?stop ?pan
  case g=>rfl
  case ps=>intro x N;obtain⟨d,_,rfl⟩:=List.mem_map.1 N;rfl
  case start=>exact DK.cQ (λk Y=>by have:=cM.1 k Y;omega) ⟨0,O,⟨λk Y=>Y,λk Y=>.inl Y,λk Y=>Y,cM.below al⟩,rfl⟩
  case stop=>
   rintro c W4 ⟨N,D,cx,_,aG⟩ hs bM;have dY:aj O W (W4.putObj w5.heap.size (.deferred none)):=((aj.aq al).aK N).put (.inr (by omega)) _;have cO:¬D w5.heap.size:=λh=>(cx _ h).elim (λh=>by have:=cM.1 _ h;omega) (by omega);obtain⟨rfl,h⟩:=aG.out;have fG:=H (show aO O W.heap.size (aqx XS.length) W (W4.putObj w5.heap.size (.deferred none))\/aO O W.heap.size Js W (W4.putObj w5.heap.size (.deferred none))from by
    rcases h with⟨D0,h⟩|⟨D0,h⟩
    ·exact .inl ((h.put cO _).fin dY)
    exact .inr ((h.put cO _).fin dY))
   clear h aG cx;gi_wp2_with fail;refine⟨by simp,.inl ⟨_,_,rfl,run_takeDeferred bM,?_⟩⟩;exact⟨_,results_none rfl _ _ _,.inl ⟨⟨_,rfl⟩,by rw[eN.out];exact fG.out⟩⟩
  case pan=>
   rintro c W4 ⟨N,D,cx,_,aG⟩ hs bM;have dY:aj O W (W4.putObj w5.heap.size (.deferred none)):=((aj.aq al).aK N).put (.inr (by omega)) _;have cO:¬D w5.heap.size:=λh=>(cx _ h).elim (λh=>by have:=cM.1 _ h;omega) (by omega);obtain⟨D0,h⟩:=aG.out;refine⟨by simp,.inl ⟨_,_,rfl,run_takeDeferred bM,?_⟩⟩;exact .inr ⟨c,rfl,(h.put cO _).fin dY⟩
  case done=>
   rw[rE];rintro W4 ⟨N,D,cx,_,aG⟩ hs bM;have dY:aj O W (W4.putObj w5.heap.size (.deferred none)):=((aj.aq al).aK N).put (.inr (by omega)) _;have cO:¬D w5.heap.size:=λh=>(cx _ h).elim (λh=>by have:=cM.1 _ h;omega) (by omega);obtain⟨q,D0,bu,hq⟩:=aG.out;refine⟨by simp,.inl ⟨_,_,rfl,run_takeDeferred bM,?_⟩⟩;exact⟨_,results_none rfl _ _ _,.inl ⟨⟨_,rfl⟩,.inl (by rw[eN.out,<-hq];exact(bu.put cO _).fin dY)⟩⟩
  case round=>
   intro BA i x N W4 D yM hs dT aG aqy hK;obtain⟨t,hd⟩:∃t,XS[i]?=some t:=⟨_,ν (by have:=(List.getElem?_eq_some_iff.1 N).1;rwa [rE]at this)⟩;rw[zB hd]at N;cases N;gi_wp2_with fail;have gp:Below W4.heap.size W4 (W4.alloc (θ #[V Z t,V Z (t+ln)] 43)):=(μ _ _).alloc (κ _) _;refine hK _ _ (λk=>D k\/k=W4.heap.size) gp (λk Y=>Y.imp id λh=>by omega) (λk Y=>.inl Y) (λk Y=>Y.elim (λh=>by have:=aG.1 k h;simp;omega) (λh=>by simp;omega)) ?_;intro l' W5 fD bN tQ;have q7:=(X.new W4 [V Z t,V Z (t+ln)] 43).keep (fD _ (.inr rfl));have dX:=aG.on (W':=W5) λk Y=>(fD k (.inl Y)).trans (gp.block k (aG.1 k Y));have mq:aj O W W5:=(aj.aq al).aK bN;have y0:=(q4.aM mq Of).cell (k:=0) rfl;have y1:=(q4.aM mq Of).cell (k:=1) rfl;have y5:=(r5.aM bN (λh=>by have:=cM.1 _ h;omega)).cell (k:=0) rfl;have y6:=(r6.aM bN (λh=>by have:=cM.1 _ h;omega)).cell (k:=0) rfl;have z0:=q7.cell (k:=0) rfl;have z1:=q7.cell (k:=1) rfl;have dP:∀k,D k\/k=W4.heap.size->k<W5.heap.size:=λk Y=>Y.elim (dX.1 k) (λh=>by have:=q7.lt;omega);have o8:W.heap.size<=W5.heap.size:=by omega
   clear hK fD hit aG mn ox gp q7;obtain⟨q,D0,bu,rfl⟩:=dX.out;clear dX;replace bu:=bu.wide (D':=λk=>D k\/k=W4.heap.size) λk Y=>.inl Y;obtain⟨D6,tR,D7,D8,gC,eB⟩:=tP.out q t hd W5 D0 mq bu.dO bu.Od bu.on;unfold de bE at gC;clear hd;gi_wp2_with fail;refine(RoundIn.inRound l' eB).mono ?_;clear gC eB y1 y5 y6 y0 z0 z1;rintro e WX (⟨rfl,J⟩|⟨rfl,J⟩|⟨ch,rfl,J⟩)
   all_goals
    obtain⟨eQ,dZ,mr,je⟩:=bu.post o8 J;have eL:aj (λk=>D k\/k=W4.heap.size) W5 WX:=je.mono (λk Y=>.inl (bu.sub k Y));have rF:∀k,(D k\/k=W4.heap.size)\/eQ k->k<WX.heap.size:=λk Y=>Y.elim (λh=>ψ (dP k h) eL.size) (λh=>dZ.on.1 k h);have KK:∀k,(D k\/k=W4.heap.size)\/eQ k->(D k\/k=W4.heap.size)\/W5.heap.size<=k:=λk Y=>Y.elim .inl λh=>(mr k h).elim (λh=>.inl (bu.sub k h)) .inr;clear J;gi_wp2_with fail
   ·exact⟨eL,_,KK,λ_ Y=>.inl Y,DK.cQ rF ⟨q+1,eQ,dZ,rfl⟩⟩
   ·exact⟨eL,_,KK,λ_ Y=>.inl Y,pR.Sv (DX.cQ rF ⟨eQ,dZ⟩)⟩
   exact⟨rfl,eL,_,KK,λ_ Y=>.inl Y,DX.cQ rF ⟨eQ,dZ⟩⟩
end
section
open Go.Sort
attribute [local go_sem] Oper.semAt_some
attribute [local go_sem] bK aU
attribute [local simp] bK aU
theorem agl (w:ι)(a b c d:Obj):((((w.alloc a).alloc b).alloc c).alloc d).heap.size=w.heap.size+4:=by simp
theorem Og (w:ι)(a b c d:Obj):Below w.heap.size w ((((w.alloc a).alloc b).alloc c).alloc d):=(gJ w a b c).alloc (by simp;omega) _
theorem Sw (w:ι)(cs:List Value)(t:ϋ)(b c d:Obj):X ((((w.alloc (θ cs.toArray t)).alloc b).alloc c).alloc d) w.heap.size cs t:=(kx w cs t b c).on ((μ _ _).alloc (κ _) _)
theorem Sx (w:ι)(a:Obj)(cs:List Value)(t:ϋ)(c d:Obj):X ((((w.alloc a).alloc (θ cs.toArray t)).alloc c).alloc d) (w.heap.size+1) cs t:=(ky w a cs t c).on ((μ _ _).alloc (κ _) _)
theorem Sy (w:ι)(a b:Obj)(cs:List Value)(t:ϋ)(d:Obj):X ((((w.alloc a).alloc b).alloc (θ cs.toArray t)).alloc d) (w.heap.size+1+1) cs t:=(kz w a b cs t).on ((μ _ _).alloc (κ _) _)
theorem Sz (w:ι)(a b c:Obj)(cs:List Value)(t:ϋ):X ((((w.alloc a).alloc b).alloc c).alloc (θ cs.toArray t)) (w.heap.size+1+1+1) cs t:=by
 have:=X.new (((w.alloc a).alloc b).alloc c) cs t;rw[show(((w.alloc a).alloc b).alloc c).heap.size=w.heap.size+1+1+1 by simp]at this;exact this
theorem SA (kc ku:ByteArray)(u:ByteArray)(st ln:Int)(hr:Bool)(r:aE)(m md wk pl:Value)(tx:ByteArray)(aI aH:Value)(ex xt:List Int)(tr:Bool)(k:Int)(f to:Int)(w:ι)(K:jX w hr r m md wk pl aI aH ex xt)
 (s0:0<=st)(s1:st<=7258118400)(l0:0<=ln)(l1:ln<=10000000)(f0:-1000000000000<=f)(f1:f<=7258118400)(t0:0<=to)(t1:to<=7258118400)(ox:∀t∈fb hr r st f to ex xt,-100000000000<=t/\t<=100000000000):
 Β prog 93 #[.agg #[η kc,η ku],.agg (cE u st ln hr r m md wk pl tx aI aH tr k).toArray,V Z f,V Z to] w (dR (dz (sy kc ku ln tr k (fb hr r st f to ex xt))) (kP m md wk pl aI aH) w):=by
 have lU:∀args w,(callFunc 149 args).run prog w=.ok (.enter 149 args) w:=enters_of func149 (by kernel_rfl) rfl;replace lU:=H lU;have q0:=Sw w [η kc,η ku] 107 (θ (cE u st ln hr r m md wk pl tx aI aH tr k).toArray 99) (θ #[V Z f] 3) (θ #[V Z to] 3);have q1:=Sx w (θ #[η kc,η ku] 107) (cE u st ln hr r m md wk pl tx aI aH tr k) 99 (θ #[V Z f] 3) (θ #[V Z to] 3);have q2:=Sy w (θ #[η kc,η ku] 107) (θ (cE u st ln hr r m md wk pl tx aI aH tr k).toArray 99) [V Z f] 3 (θ #[V Z to] 3);have q3:=Sz w (θ #[η kc,η ku] 107) (θ (cE u st ln hr r m md wk pl tx aI aH tr k).toArray 99) (θ #[V Z f] 3) [V Z to] 3;have al:=Og w (θ #[η kc,η ku] 107) (θ (cE u st ln hr r m md wk pl tx aI aH tr k).toArray 99) (θ #[V Z f] 3) (θ #[V Z to] 3);have hz:=H (agl w (θ #[η kc,η ku] 107) (θ (cE u st ln hr r m md wk pl tx aI aH tr k).toArray 99) (θ #[V Z f] 3) (θ #[V Z to] 3));have hit:=H (QB kc ku u st ln hr r m md wk pl tx aI aH ex xt tr k f to (w.heap.size+1) (w.heap.size+1+1) (w.heap.size+1+1+1) w.heap.size _ (K.on al) s0 s1 l0 l1 f0 f1 t0 t1 ox q1 q2 q3 q0);have hblk:=H (λk (h:kP m md wk pl aI aH k)=>K.fO h);clear K q0 q1 q2 q3 ox;generalize sy kc ku ln tr k (fb hr r st f to ex xt)=XS at *
 generalize cE u st ln hr r m md wk pl tx aI aH tr k=E at *
 go_enter func93,ntmps93;go_wp2_with fail;go_ret;refine⟨_,_,_,rfl,hit.out,λk Y=>?_,lU.out,al⟩;have:=hz.out;rcases Y with rfl|rfl|rfl|rfl|h
 ·exact⟨by omega,.inr (by omega)⟩
 ·exact⟨by omega,.inr (by omega)⟩
 ·exact⟨by omega,.inr (by omega)⟩
 ·exact⟨by omega,.inr (by omega)⟩
 exact⟨by have:=hblk.out k h;omega,.inl h⟩
end
section
open Go.Sort
theorem dF {o:ϝ}{a:Ϙ}{w:ι}{x:Η}{p:Addr}(ho:o.op=.nilCheck x)(N:a.eval x=ε (some p)):(execOp a.eval o).run prog w=.ok (.value (ε (some p))) w:=by
 obtain⟨_,_,_,_,_,_⟩:=o;simp only[]at ho;subst ho;unfold execOp;simp only[N];go_simp
theorem gZ {b:Nat}{kc ku:ByteArray}{w:ι}(h:X w b [η kc,η ku] 107):(Φ 107 (ε (some ⟨b,0,none⟩))).run prog w=.ok (.agg #[η kc,η ku]) w:=by
 have h0:=h.cell (k:=0) rfl;have G:=h.cell (k:=1) rfl;go_simp
theorem jL {b:Nat}{EV:List Value}{w:ι}(h:X w b EV 99)(K:EV.length=18):(Φ 99 (ε (some ⟨b,0,none⟩))).run prog w=.ok (.agg EV.toArray) w:=
 run_loadAt_mid w b 0 99 _ _ (gq h) underlying99 rfl (by rw[K];exact fT)
theorem Ht {p:Nat}{w:ι}:(χ 70 (ε (some ⟨p,0,none⟩)) 2).run prog w=.ok (ε (some ⟨p,2,none⟩)) w:=by
 go_simp
def xH (W:ι)(p:Nat)(kc ku:ByteArray)(EV:List Value)(h:Int)(XS:List aJ)(Eb:ak)(i:Nat)(v:Value)(w:ι):Prop:=match i with
 |0=>v=ε (some ⟨p,0,none⟩)
 |1=>v=.agg #[η kc,η ku]
 |2=>v=.agg EV.toArray
 |3=>v=ε (some ⟨p,0,none⟩)
 |4=>v=ε (some ⟨p,0,none⟩)
 |5=>v=ε (some ⟨p,2,none⟩)
 |6=>v=V Z h
 |_=>∃g lb R,v=.func (.func g) #[] lb/\kO prog g lb (dz XS) R w/\(∀k,R k->k<w.heap.size/\(Eb k\/W.heap.size<=k))/\(∀args w,(callFunc g args).run prog w=.ok (.enter g args) w)
theorem xH.grow {W:ι}{p:Nat}{kc ku:ByteArray}{EV:List Value}{h:Int}{XS:List aJ}{Eb:ak}(i:Nat)(v:Value)(w I:ι)(hn:xH W p kc ku EV h XS Eb i v w)(U:Below w.heap.size w I):xH W p kc ku EV h XS Eb i v I:=by
 match i,hn with
 |0,h|1,h|2,h|3,h|4,h|5,h|6,h=>exact h
 |n+7,h=>
  obtain⟨g,lb,R,G,A,M,h4⟩:=h;exact⟨g,lb,R,G,A.later (λk Y=>(M k Y).1) U,λk Y=>⟨ψ (M k Y).1 U.size,(M k Y).2⟩,h4⟩
def rG (p bk be:Nat):List (Nat×Value):=[(0,ε (some ⟨p,0,none⟩)),(4,ε (some ⟨bk,0,none⟩)),(5,ε (some ⟨be,0,none⟩))]
theorem Wn (W:ι)(p bk be:Nat)(kc ku:ByteArray)(EV:List Value)(h:Int)(XS:List aJ)(Eb:ak):qQ (λi=>6+i) (rG p bk be) 18 8 (xH W p kc ku EV h XS Eb):=
 ⟨λi hi=>by show 6+i<18;omega,λi j hi hj h=>by have h':6+i=6+j:=h;omega,λq J i hi=>by
  simp only[rG,ρ,ο,or_false]at J;show q.1≠6+i;rcases J with rfl|rfl|rfl<;>simp<;>omega,xH.grow⟩
theorem Hu (a:Ϙ)(h:a.tmps.size=18)(hd:a.defers=[]):∃f:Nat->Value,a=⟨[f 0,f 1,f 2,f 3,f 4,f 5,f 6,f 7,f 8,f 9,f 10,f 11,f 12,f 13,f 14,f 15,f 16,f 17].toArray,[]⟩/\∀k,a.eval (.tmp k)=f k:=gK 18 a h hd
def Zd (p:Nat)(T:LT)(h:Int)(XS:List aJ)(w:ι):ϥ->ι->Prop:=λE I=>E=δ (.tuple #[])/\∃(T':LT) (h':Int),cP I p T' T'.size h'/\LT.eF T'.aw/\(XS.length+T.size<=500->h'=h/\T'.aw.Perm (XS++T.aw))/\(500<XS.length+T.size->h'=0/\T'.aw=qj 0 T.aw)/\(∀k∈T'.ax,k∈T.ax\/w.heap.size<=k)/\aj (λk=>k∈p::T.ax) w I
theorem D9 (p:Nat)(T:LT)(h:Int)(kc ku:ByteArray)(EV:List Value)(XS:List aJ)(Eb:ak)(w:ι)(hi:cP w p T T.size h)(hs:LT.eF T.aw)(hc:T.size<=500)(hEV:EV.length=18)
 (hC:∀wr,Below w.heap.size w wr->Β prog 93 #[.agg #[η kc,η ku],.agg EV.toArray,V Z 0,V Z h] wr (dR (dz XS) Eb wr))
 (hXp:XS.Pairwise λx y=>bP x y≠0)(hXT:∀x∈XS,∀y∈T.aw,bP x y≠0):
 Β prog 60 #[ε (some ⟨p,0,none⟩),.agg #[η kc,η ku],.agg EV.toArray] w (Zd p T h XS w):=by
 have rk:=kC w [η kc,η ku] 107 (θ EV.toArray 99);have re:=kD w EV 99 (θ #[η kc,η ku] 107);have al:=mu w (θ #[η kc,η ku] 107) (θ EV.toArray 99);have hI:=H (hi.aM (O:=λ_=>False) (aj.aq al) (λ_ _ h=>h));have HC:=H hC;clear hC hi;go_enter func60,ntmps60;go_upto_region 1 with fail;have hz:w.heap.size<=((w.alloc (θ #[η kc,η ku] 107)).alloc (θ EV.toArray 99)).heap.size:=al.size;generalize(w.alloc (θ #[η kc,η ku] 107)).alloc (θ EV.toArray 99)=W2 at *
 have aqA:=Wn W2 p w.heap.size (w.heap.size+1) kc ku EV h XS Eb;have p1:=H λI (U:Below W2.heap.size W2 I)=>gZ (rk.on U);have p2:=H λI (U:Below W2.heap.size W2 I)=>jL (re.on U) hEV;have p6:=H λI (U:Below W2.heap.size W2 I)=>dQ ((hI.out.row.on U).cell (k:=2) rfl);refine dC 8 (by simp only[Ξ,ώ];rfl) (by simp only[Ο,Ϗ];rfl) (GV (λi=>6+i) (xH W2 p kc ku EV h XS Eb)) (JV 18 (rG p w.heap.size (w.heap.size+1)) W2) (by kernel_rfl) (by kernel_rfl) (by kernel_rfl) (by kernel_rfl) (by kernel_rfl) (by kernel_rfl) rfl ?rops ?rdone ⟨rfl,rfl,λq J=>by
  simp only[rG,ρ,ο,or_false]at J;rcases J with rfl|rfl|rfl<;>rfl,(μ _ _).drew⟩
 case rops=>
  intro i o ho a I ar hG Q';have hi:i<8:=(Array.getElem?_eq_some_iff.1 ho).1;have t0:a.eval (.tmp 0)=ε (some ⟨p,0,none⟩):=ar.fixed (0,_) (by simp[rG]);have t4:a.eval (.tmp 4)=ε (some ⟨w.heap.size,0,none⟩):=ar.fixed (4,_) (by simp[rG]);have t5:a.eval (.tmp 5)=ε (some ⟨w.heap.size+1,0,none⟩):=ar.fixed (5,_) (by simp[rG]);have ea:i=0\/i=1\/i=2\/i=3\/i=4\/i=5\/i=6\/i=7:=by omega
  rcases ea with rfl|rfl|rfl|rfl|rfl|rfl|rfl|rfl<;>obtain rfl:=ξ ho
  ·exact ai (cJ rfl t0) (bp aqA ar)
  ·exact ai (aV rfl t4 (p1.out _ ar.below)) (bp aqA ar)
  ·exact ai (aV rfl t5 (p2.out _ ar.below)) (bp aqA ar)
  ·exact ai (cJ rfl t0) (bp aqA ar)
  ·have S:a.eval (.tmp 9)=ε (some ⟨p,0,none⟩):=aB hG 3;exact ai (dF rfl S) (bp aqA ar)
  ·have S:a.eval (.tmp 10)=ε (some ⟨p,0,none⟩):=aB hG 4;exact ai (cH rfl S Ht) (bp aqA ar)
  ·have S:a.eval (.tmp 11)=ε (some ⟨p,2,none⟩):=aB hG 5;exact ai (aV rfl S (p6.out _ ar.below)) (bp aqA ar)
  have S:a.eval (.tmp 7)=.agg #[η kc,η ku]:=aB hG 1;have e2:a.eval (.tmp 8)=.agg EV.toArray:=aB hG 2;have e3:a.eval (.tmp 12)=V Z h:=aB hG 6;refine cI (f:=93) (args:=#[a.eval (.tmp 7),a.eval (.tmp 8),V Z 0,a.eval (.tmp 12)]) (by kernel_rfl) (by rw[S,e2,e3];exact HC.out I (al.trans (ar.below.mono al.size))) ?_ (by rintro c az ⟨_,_,_,e,_⟩;cases e) (by rintro az ⟨_,_,_,e,_⟩;cases e);rintro v az ⟨g,lb,R,e,A,M,h4,h5⟩;cases e;exact lV aqA rfl (by decide) ar h5 ⟨g,lb,R,rfl,A,λk Y=>⟨(M k Y).1,(M k Y).2.imp id λh=>Ϧ ar.below.size h⟩,h4⟩
 case rdone=>
  intro a w3 ar hG;obtain⟨g,lb,R,Oh,hit,mn,eg⟩:∃g lb R,a.eval (.tmp 13)=.func (.func g) #[] lb/\kO prog g lb (dz XS) R w3/\(∀k,R k->k<w3.heap.size/\(Eb k\/W2.heap.size<=k))/\(∀args w,(callFunc g args).run prog w=.ok (.enter g args) w):=hG 7 (by decide);have e6:a.eval (.tmp 6)=ε (some ⟨p,0,none⟩):=hG 0 (by decide);have SB:a.eval (.tmp 0)=ε (some ⟨p,0,none⟩):=ar.fixed (0,_) (by simp[rG]);have aP:=ar.below;have fc:=ar.size;have fi:=ar.defers;clear ar hG aqA p1 p2 p6 HC;obtain⟨fr,rfl,hf⟩:=Hu a fc fi;have g0:=(hf 0).symm.trans SB;have g6:=(hf 6).symm.trans e6;have g13:=(hf 13).symm.trans Oh;rw[g0,g6,g13];clear hf fc fi SB e6 Oh g0 g6 g13;have U:=al.trans (aP.mono al.size);have o9:=hI.out.aM (O:=λ_=>False) (aj.aq aP) (λ_ _ h=>h);have HA:=H (Oc p T h g lb (λes=>es=XS) R w3 o9 hs hc (by
   have:=hit.n;exact(show pQ prog g lb (λxs=>∃es,es=XS/\xs=dz es) R w3 from by
    have e:(λxs:List (Array Value)=>∃es,es=XS/\xs=dz es)=λxs=>xs=dz XS:=by funext xs;simp
    rw[e];exact this)) (λk Y=>(mn k Y).1) eg (λes he=>by subst he;exact⟨hXp,hXT⟩))
  have Hv:=U.size;clear hit mn eg o9 rk re;by_cases Co:XS.length+T.size<=500
  case pos=>
   go_wp2_with (go_at_call 70;refine(HA.out).mono ?_;rintro E w4 hX;obtain⟨T',hE,hA⟩:∃T':LT,E=δ (.bool true)/\cP w4 p T' T'.size h/\LT.eF T'.aw/\T'.aw.Perm (XS++T.aw)/\(∀k∈T'.ax,k∈T.ax\/w3.heap.size<=k)/\aj (λk=>k∈p::T.ax) w3 w4:=(hX.elim (λ⟨es,T',he,_,G,A⟩=>by subst he;exact⟨T',G,A⟩) (λ⟨⟨es,he,G⟩,_⟩=>by subst he;omega));clear hX;subst hE;replace hA:=H hA;clear HA);go_end0;obtain⟨a1,a2,a3,a4,a5⟩:=hA.out;exact⟨rfl,T',h,a1,a2,λ_=>⟨rfl,a3⟩,λh=>by omega,λk Y=>(a4 k Y).imp id λh=>by omega,(aj.aq U).aK a5⟩
  case neg=>
   go_wp2_with (first
    |(go_at_call 70;refine(HA.out).mono ?_;rintro E w4 hX;obtain⟨hE,hA⟩:E=δ (.bool false)/\Below w3.heap.size w3 w4:=(hX.elim (λ⟨es,T',he,h0,_⟩=>by subst he;omega) (λ⟨_,h⟩=>h));clear hX;subst hE;have D4:=H (BC p T h 0 w4 (hI.out.aM (O:=λ_=>False) ((aj.aq aP).aK (aj.aq hA)) (λ_ _ h=>h)) hs (by omega));replace hA:=H hA;clear HA)
    |(go_at_call 69;refine(D4.out).mono ?_;rintro E w5 ⟨rfl,T',h5⟩;replace h5:=H h5))
   go_end0;obtain⟨a1,a2,a3,a4⟩:=h5.out;have cq:=U.trans (hA.out.mono Hv);refine⟨rfl,T',0,a1,?_,λh=>absurd h Co,λ_=>⟨rfl,a2⟩,λk Y=>.inl (a3 k Y),(aj.aq cq).aK a4⟩;rw[a2];unfold qj LT.eF at *
   exact hs.filter _
def pc (x:eC):List Value:=[V Z x.t,V Z x.k,V Z x.m]
def iu (L:List eC):List Value:=L.flatMap pc
theorem SC (x y:List eC):iu (x++y)=iu x++iu y:=by unfold iu;rw[List.flatMap_append]
theorem aaX:(prog.info? 203).map (λi=>(i.zero,i.size,i.bytes))=some (some (.agg #[V Z 0,V Z 0,V Z 0]),3,24):=by kernel_rfl
structure gL (w:ι)(p:Nat)(f t:Int)(v:Value)(L:List eC):Prop where
 row:X w p [V Z f,V Z t,v] 148
 own:w.ownsRow 0 203 3 v L.length (iu L)
 ne:v.ownBlock≠some p
theorem KL (f t:Int)(w:ι):
 Β prog 63 #[V Z f,V Z t] w λE I=>E=δ (ε (some ⟨w.heap.size,0,none⟩))/\gL I w.heap.size f t (ζ none 0 0) []/\Below w.heap.size w I:=by
 go_enter func63,ntmps63;go_wp2_with fail;go_ret;exact⟨rfl,⟨X.new w _ _,Υ _ _ _ _,by simp[Ϥ]⟩,(μ _ _).alloc (κ _) _⟩
def aj5 (p:Nat)(f t:Int)(v:Value)(L:List eC)(k b e:Int)(w:ι):ϥ->ι->Prop:=λE I=>
 E=δ (.tuple #[])/\∃v',gL I p f t v' (L++[⟨max b f,k,1⟩,⟨min e t,k,-1⟩])/\aj (λj=>j=p\/v.ownBlock=some j) w I/\∀j,v'.ownBlock=some j->v.ownBlock=some j\/w.heap.size<=j
theorem aaY {o:ϝ}{a:Ϙ}{w:ι}{x y:Η}{m n:Int}(ho:o.op=.call {callee:=.builtin .max,args:=#[x,y],argTypes:=#[3,3]})(N:a.eval x=V Z m)(hy:a.eval y=V Z n):(execOp a.eval o).run prog w=.ok (.value (V Z (max m n))) w:=by
 obtain⟨_,_,_,_,_,_⟩:=o;simp only[]at ho;subst ho;unfold execOp;simp only[N,hy,resolve,invoke,builtin,Ε,Τ,Ψ];go_simp
theorem aaZ {o:ϝ}{a:Ϙ}{w:ι}{x y:Η}{m n:Int}(ho:o.op=.call {callee:=.builtin .min,args:=#[x,y],argTypes:=#[3,3]})(N:a.eval x=V Z m)(hy:a.eval y=V Z n):(execOp a.eval o).run prog w=.ok (.value (V Z (min m n))) w:=by
 obtain⟨_,_,_,_,_,_⟩:=o;simp only[]at ho;subst ho;unfold execOp;simp only[N,hy,resolve,invoke,builtin,Ε,Τ,Ψ];go_simp
theorem Oi {o:ϝ}{a:Ϙ}{w:ι}{x y z:Η}{l m n:Int}(ho:o.op=.build 203 #[(0,x),(1,y),(2,z)])(N:a.eval x=V Z l)(hy:a.eval y=V Z m)(hz:a.eval z=V Z n):(execOp a.eval o).run prog w=.ok (.value (.agg #[V Z l,V Z m,V Z n])) w:=by
 obtain⟨_,_,_,_,_,_⟩:=o;simp only[]at ho;subst ho;unfold execOp;simp only[Ε,Τ,Ψ,N,hy,hz];go_simp
theorem aa0 {o:ϝ}{a:Ϙ}{w:ι}{x y:Η}{l m n l' m' n':Int}(ho:o.op=.buildSlice 146 2 #[(0,x),(1,y)])(N:a.eval x=.agg #[V Z l,V Z m,V Z n])(hy:a.eval y=.agg #[V Z l',V Z m',V Z n']):
 (execOp a.eval o).run prog w=.ok (.value (ζ (some ⟨w.heap.size,0,none⟩) 2 2)) (w.alloc (θ #[V Z l,V Z m,V Z n,V Z l',V Z m',V Z n'] 203)):=by
 obtain⟨_,_,_,_,_,_⟩:=o;simp only[]at ho;subst ho;unfold execOp;simp only[Ε,Τ,Ψ,N,hy];go_simp
theorem Wo {p:Addr}{v:Value}{w:ι}(h:w.cell? p=some v):(Φ 146 (ε (some p))).run prog w=.ok v w:=by
 go_simp
theorem SD {p:Nat}{w:ι}:(χ 148 (ε (some ⟨p,0,none⟩)) 0).run prog w=.ok (ε (some ⟨p,0,none⟩)) w:=by go_simp
theorem SE {p:Nat}{w:ι}:(χ 148 (ε (some ⟨p,0,none⟩)) 1).run prog w=.ok (ε (some ⟨p,1,none⟩)) w:=by go_simp
theorem SF {p:Nat}{w:ι}:(χ 148 (ε (some ⟨p,0,none⟩)) 2).run prog w=.ok (ε (some ⟨p,2,none⟩)) w:=by go_simp
theorem SG {p:Nat}{w:ι}:(χ 43 (ε (some ⟨p,0,none⟩)) 0).run prog w=.ok (ε (some ⟨p,0,none⟩)) w:=by go_simp
theorem SH {p:Nat}{w:ι}:(χ 43 (ε (some ⟨p,0,none⟩)) 1).run prog w=.ok (ε (some ⟨p,1,none⟩)) w:=by go_simp
def Oj (p B:Nat)(v:Value)(b e f t k:Int):List Value:=[ε (some ⟨p,0,none⟩),ε (some ⟨p,0,none⟩),ε (some ⟨p,0,none⟩),ε (some ⟨p,2,none⟩),v,ε (some ⟨B,0,none⟩),V Z b,ε (some ⟨p,0,none⟩),ε (some ⟨p,0,none⟩),ε (some ⟨p,0,none⟩),V Z f,V Z (max b f),V Z k,.agg #[V Z (max b f),V Z k,V Z 1],ε (some ⟨B,1,none⟩),V Z e,ε (some ⟨p,0,none⟩),ε (some ⟨p,0,none⟩),ε (some ⟨p,1,none⟩),V Z t,V Z (min e t),V Z k,.agg #[V Z (min e t),V Z k,V Z (-1)],undef,undef,ε (some ⟨p,0,none⟩),ε (some ⟨p,2,none⟩)]
def F5 (b e f t k:Int):List eC:=[⟨max b f,k,1⟩,⟨min e t,k,-1⟩]
def vQ (W:ι)(p B:Nat)(v0:Value)(L:List eC)(b e f t k:Int)(i:Nat)(v:Value)(w:ι):Prop:=match i with
 |23=>∃g,v=ζ (some ⟨g,0,none⟩) 2 2/\X w g (iu (F5 b e f t k)) 203/\W.heap.size<=g
 |24=>∃g cap,v=ζ (some ⟨g,0,none⟩) (L.length+2) cap/\w.ownsRow 0 203 3 v (L.length+2) (iu L++iu (F5 b e f t k))/\(v0.ownBlock=some g\/W.heap.size<=g)
 |n=>v=(Oj p B v0 b e f t k).getD n undef
def tS (p B:Nat)(k:Int):List (Nat×Value):=[(0,ε (some ⟨p,0,none⟩)),(1,V Z k),(5,ε (some ⟨B,0,none⟩))]
theorem Wp (p B:Nat)(k:Int):KM (λi=>6+i) (tS p B k) 33 27:=
 ⟨λi hi=>by show 6+i<33;omega,λi j hi hj h=>by have h':6+i=6+j:=h;omega,λq J i hi=>by
  simp only[tS,ρ,ο,or_false]at J;show q.1≠6+i;rcases J with rfl|rfl|rfl<;>simp<;>omega⟩
structure Cp (W:ι)(v0:Value)(L:List eC)(w:ι):Prop where
 ex:aj (λj=>v0.ownBlock=some j) W w
 own:w.ownsRow 0 203 3 v0 L.length (iu L)
theorem dB {w I:ι}{B:Nat}{e:ϋ}{s:Nat}{v:Value}{n:Nat}{xs:List Value}(h:w.ownsRow B e s v n xs)(Y:∀g,v.ownBlock=some g->g<w.heap.size->I.heap[g]?=w.heap[g]?):I.ownsRow B e s v n xs:=by
 refine⟨h.1,h.2.elim .inl ?_⟩;rintro⟨g,cap,cur,rfl,A,M,h4⟩;exact .inr ⟨g,cap,cur,rfl,A,(Y g rfl (Array.getElem?_eq_some_iff.1 M).1).trans M,h4⟩
theorem vQ.keep {W:ι}{p B:Nat}{v0:Value}{L:List eC}{b e f t k:Int}{w I:ι}(Y:∀g,W.heap.size<=g->g<w.heap.size->I.heap[g]?=w.heap[g]?)(i:Nat)(v:Value)(hi:i≠24)(h:vQ W p B v0 L b e f t k i v w):vQ W p B v0 L b e f t k i v I:=by
 by_cases Hw:i=23
 ·subst Hw;obtain⟨g,G,A,M⟩:=h;exact⟨g,G,A.keep (Y g M A.lt),M⟩
 have S:∀w,vQ W p B v0 L b e f t k i v w=(v=(Oj p B v0 b e f t k).getD i undef):=by
  intro w;unfold vQ;split
  ·exact absurd rfl Hw
  ·exact absurd rfl hi
  rfl
 rw[S]at h⊢;exact h
theorem SI (a:Ϙ)(h:a.tmps.size=33)(hd:a.defers=[]):∃f:Nat->Value,a=⟨[f 0,f 1,f 2,f 3,f 4,f 5,f 6,f 7,f 8,f 9,f 10,f 11,f 12,f 13,f 14,f 15,f 16,f 17,f 18,f 19,f 20,f 21,f 22,f 23,f 24,f 25,f 26,f 27,f 28,f 29,f 30,f 31,f 32].toArray,[]⟩/\∀k,a.eval (.tmp k)=f k:=gK 33 a h hd
theorem Cp.alloc {W:ι}{v0:Value}{L:List eC}{w:ι}(h:Cp W v0 L w)(o:Obj):Cp W v0 L (w.alloc o):=⟨h.ex.alloc o,h.own.alloc o⟩
theorem zC {w I:ι}{row:Option Nat}(h:w.grownBy I row):aj (λj=>row=some j) w I:=⟨h.os,h.tape,h.output,h.size,λk Y hn=>h.block k Y (λe=>hn e.symm)⟩
theorem Hx (p:Nat)(f t:Int)(v:Value)(L:List eC)(k b e:Int)(w:ι)(h:gL w p f t v L)(hL:L.length+2<=16777216):
 Β prog 97 #[ε (some ⟨p,0,none⟩),V Z k,.agg #[V Z b,V Z e]] w (aj5 p f t v L k b e w):=by
 have aR:=h.row.lt;have al:Below w.heap.size w (w.alloc (θ #[V Z b,V Z e] 43)):=(μ _ _).alloc (κ _) _;have rb0:=X.new w [V Z b,V Z e] 43;have Ol:∀j,v.ownBlock=some j->j<w.heap.size:=λj hj=>(h.own.lt j hj).2;have HS:=H h;clear h;go_enter func97,ntmps97;go_upto_region 1 with fail;have gX:(w.alloc (θ #[V Z b,V Z e] 43)).heap.size=w.heap.size+1:=by simp
 have hW:(w.alloc (.cells [V Z b,V Z e].toArray 43))=w.alloc (θ #[V Z b,V Z e] 43):=rfl;rw[hW]at rb0;clear hW;generalize(w.alloc (θ #[V Z b,V Z e] 43))=W2 at *
 have Om:Cp W2 v L W2:=⟨aj.refl _ _,dB HS.out.own λg _ hg=>al.block g hg⟩;have aqA:=Wp p w.heap.size k;have rp:Hid (∀I,Cp W2 v L I->X I p [V Z f,V Z t,v] 148):=H λI hc=>(hc.ex.block p (by omega) HS.out.ne).trans ((al.block p aR).trans HS.out.row);have rb:Hid (∀I,Cp W2 v L I->X I w.heap.size [V Z b,V Z e] 43):=H λI hc=>(hc.ex.block _ (by omega) (λe=>by have:=Ol _ e;omega)).trans rb0;refine dC 27 (by simp only[Ξ,ώ];rfl) (by simp only[Ο,Ϗ];rfl) (GV (λi=>6+i) (vQ W2 p w.heap.size v L b e f t k)) (JX 33 (tS p w.heap.size k) (Cp W2 v L)) (by kernel_rfl) (by kernel_rfl) (by kernel_rfl) (by kernel_rfl) (by kernel_rfl) (by kernel_rfl) rfl ?rops ?rdone ⟨rfl,rfl,λq J=>by
  simp only[tS,ρ,ο,or_false]at J;rcases J with rfl|rfl|rfl<;>rfl,⟨Om.ex.drew,Om.own⟩⟩
 case rops=>
  intro i o ho a I ar hG Q';have hi:i<27:=(Array.getElem?_eq_some_iff.1 ho).1;have t0:a.eval (.tmp 0)=ε (some ⟨p,0,none⟩):=ar.fixed (0,_) (by simp[tS]);have t1:a.eval (.tmp 1)=V Z k:=ar.fixed (1,_) (by simp[tS]);have t5:a.eval (.tmp 5)=ε (some ⟨w.heap.size,0,none⟩):=ar.fixed (5,_) (by simp[tS]);have ea:i=0\/i=1\/i=2\/i=3\/i=4\/i=5\/i=6\/i=7\/i=8\/i=9\/i=10\/i=11\/i=12\/i=13\/i=14\/i=15\/i=16\/i=17\/i=18\/i=19\/i=20\/i=21\/i=22\/i=23\/i=24\/i=25\/i=26:=by omega
  rcases ea with rfl|rfl|rfl|rfl|rfl|rfl|rfl|rfl|rfl|rfl|rfl|rfl|rfl|rfl|rfl|rfl|rfl|rfl|rfl|rfl|rfl|rfl|rfl|rfl|rfl|rfl|rfl<;>obtain rfl:=ξ ho
  ·exact ai (cJ rfl t0) (ef aqA rfl (by decide) ar rfl)
  ·exact ai (cJ rfl t0) (ef aqA rfl (by decide) ar rfl)
  ·have S:a.eval (.tmp 7)=ε (some ⟨p,0,none⟩):=aB hG 1;exact ai (dF rfl S) (ef aqA rfl (by decide) ar rfl)
  ·have S:a.eval (.tmp 8)=ε (some ⟨p,0,none⟩):=aB hG 2;exact ai (cH rfl S SF) (ef aqA rfl (by decide) ar rfl)
  ·have S:a.eval (.tmp 9)=ε (some ⟨p,2,none⟩):=aB hG 3;exact ai (aV rfl S (Wo ((rp.out _ ar.world).cell (k:=2) rfl))) (ef aqA rfl (by decide) ar rfl)
  ·exact ai (cH rfl t5 SG) (ef aqA rfl (by decide) ar rfl)
  ·have S:a.eval (.tmp 11)=ε (some ⟨w.heap.size,0,none⟩):=aB hG 5;exact ai (aV rfl S (dQ ((rb.out _ ar.world).cell (k:=0) rfl))) (ef aqA rfl (by decide) ar rfl)
  ·exact ai (cJ rfl t0) (ef aqA rfl (by decide) ar rfl)
  ·have S:a.eval (.tmp 13)=ε (some ⟨p,0,none⟩):=aB hG 7;exact ai (dF rfl S) (ef aqA rfl (by decide) ar rfl)
  ·have S:a.eval (.tmp 14)=ε (some ⟨p,0,none⟩):=aB hG 8;exact ai (cH rfl S SD) (ef aqA rfl (by decide) ar rfl)
  ·have S:a.eval (.tmp 15)=ε (some ⟨p,0,none⟩):=aB hG 9;exact ai (aV rfl S (dQ ((rp.out _ ar.world).cell (k:=0) rfl))) (ef aqA rfl (by decide) ar rfl)
  ·have S:a.eval (.tmp 12)=V Z b:=aB hG 6;have e2:a.eval (.tmp 16)=V Z f:=aB hG 10;exact ai (aaY rfl S e2) (ef aqA rfl (by decide) ar rfl)
  ·exact ai (cJ rfl t1) (ef aqA rfl (by decide) ar rfl)
  ·have S:a.eval (.tmp 17)=V Z (max b f):=aB hG 11;have e2:a.eval (.tmp 18)=V Z k:=aB hG 12;exact ai (Oi rfl S e2 rfl) (ef aqA rfl (by decide) ar rfl)
  ·exact ai (cH rfl t5 SH) (ef aqA rfl (by decide) ar rfl)
  ·have S:a.eval (.tmp 20)=ε (some ⟨w.heap.size,1,none⟩):=aB hG 14;exact ai (aV rfl S (dQ ((rb.out _ ar.world).cell (k:=1) rfl))) (ef aqA rfl (by decide) ar rfl)
  ·exact ai (cJ rfl t0) (ef aqA rfl (by decide) ar rfl)
  ·have S:a.eval (.tmp 22)=ε (some ⟨p,0,none⟩):=aB hG 16;exact ai (dF rfl S) (ef aqA rfl (by decide) ar rfl)
  ·have S:a.eval (.tmp 23)=ε (some ⟨p,0,none⟩):=aB hG 17;exact ai (cH rfl S SE) (ef aqA rfl (by decide) ar rfl)
  ·have S:a.eval (.tmp 24)=ε (some ⟨p,1,none⟩):=aB hG 18;exact ai (aV rfl S (dQ ((rp.out _ ar.world).cell (k:=1) rfl))) (ef aqA rfl (by decide) ar rfl)
  ·have S:a.eval (.tmp 21)=V Z e:=aB hG 15;have e2:a.eval (.tmp 25)=V Z t:=aB hG 19;exact ai (aaZ rfl S e2) (ef aqA rfl (by decide) ar rfl)
  ·exact ai (cJ rfl t1) (ef aqA rfl (by decide) ar rfl)
  ·have S:a.eval (.tmp 26)=V Z (min e t):=aB hG 20;have e2:a.eval (.tmp 27)=V Z k:=aB hG 21;exact ai (Oi rfl S e2 rfl) (ef aqA rfl (by decide) ar rfl)
  ·have S:a.eval (.tmp 19)=.agg #[V Z (max b f),V Z k,V Z 1]:=aB hG 13;have e2:a.eval (.tmp 28)=.agg #[V Z (min e t),V Z k,V Z (-1)]:=aB hG 22;have hex:=ar.world.ex.size;refine ai (aa0 rfl S e2) ?_;refine QD aqA rfl (by decide) ar (ar.world.alloc _) (λj u hj hn=>?_) ⟨I.heap.size,rfl,X.new I (iu (F5 b e f t k)) 203,hex⟩;by_cases h24:j=24
   ·subst h24;obtain⟨g,cap,a1,a2,a3⟩:=hn;exact⟨g,cap,a1,dB a2 λg' _ hg=>φ _ _ _ hg,a3⟩
   exact vQ.keep (λg _ hg=>φ _ _ _ hg) j u h24 hn
  ·have S:a.eval (.tmp 10)=v:=aB hG 4;obtain⟨gn,e2,pS,hgn⟩:vQ W2 p w.heap.size v L b e f t k 23 (a.eval (.tmp 29)) I:=aB hG 23;obtain⟨g,cap,w9,jM,wG,wH,Hy,zD⟩:=pd (P:=prog) I 0 146 146 203 _ 3 24 underlying146 aaX rfl (by decide) v L.length (iu L) ar.world.own ⟨gn,0,none⟩ 2 2 (by decide) (iu (F5 b e f t k)) rfl (World.news_of_block pS) (by simp[iu,F5,pc,ύ]) hL (by decide) (Ϩ _);refine ai (F6 rfl S e2 jM) ?_;refine QD aqA rfl (by decide) ar ⟨ar.world.ex.trans (zC Hy) (λj hj=>.inl hj),wH⟩ (λj u hj hn=>?_) ⟨g,cap,rfl,wG,zD.imp id (λh=>by have:=ar.world.ex.size;omega)⟩;exact vQ.keep (λg' hg1 KN=>Hy.block g' KN (λe=>by have:=Ol g' e.symm;omega)) j u hj hn
  ·have S:a.eval (.tmp 6)=ε (some ⟨p,0,none⟩):=aB hG 0;exact ai (dF rfl S) (ef aqA rfl (by decide) ar rfl)
  have S:a.eval (.tmp 31)=ε (some ⟨p,0,none⟩):=aB hG 25;exact ai (cH rfl S SF) (ef aqA rfl (by decide) ar rfl)
 case rdone=>
  intro a w3 ar hG;have e32:a.eval (.tmp 32)=ε (some ⟨p,2,none⟩):=hG 26 (by decide);obtain⟨g,cap,e30,wG,zD⟩:vQ W2 p w.heap.size v L b e f t k 24 (a.eval (.tmp 30)) w3:=hG 24 (by decide);have r3:=rp.out w3 ar.world;have x3:=ar.world.ex;have fc:=ar.size;have fi:=ar.defers;rw[e30]at wG;have z3:=r3.cell (k:=2) rfl;have f3:=r3.free (k:=2);have R3:=H r3;have O9:=H wG;have X3:=H x3;have Q9:=H zD;have HV:=H Ol;clear ar hG aqA rp rb Om r3 wG x3 zD rb0 Ol;obtain⟨fr,rfl,hf⟩:=SI a fc fi;have g32:=(hf 32).symm.trans e32;have g30:=(hf 30).symm.trans e30;clear hf fc fi e32 e30;rw[g32,g30];clear g32 g30;go_wp2_with fail;go_end0;have hgp:g≠p:=λe=>by
   rcases Q9.out with h|h
   ·exact HS.out.ne (by rw[h,e])
   omega
  refine⟨rfl,_,⟨R3.out.set (k:=2) _,?_,λe=>hgp (ξ e)⟩,?_,?_⟩
  ·have S:L++[⟨max b f,k,1⟩,⟨min e t,k,-1⟩]=L++F5 b e f t k:=rfl;rw[S,SC,π];exact dB O9.out λg' KO _=>Γ _ _ _ _ (λ(e:g'=p)=>hgp ((ξ KO).trans e))
  ·exact(((aj.aq al).trans X3.out λj hj=>.inl (.inr hj)).st (.inl rfl) _)
  intro j hj;have e9:g=j:=ξ hj;rw[<-e9];exact Q9.out.imp id λh=>by omega
open Go.Sort Go.Shelf Go.Lib
theorem QE (x y:eC)(W:ι):Β prog 155 #[.agg (pc x).toArray,.agg (pc y).toArray] W λe I=>e=δ (V Z (iF x.t y.t))/\∃q os',I=grow (W.drewN q) os':=by
 have C:Hid (∀W',Β prog 156 #[V Z x.t,V Z y.t] W' λe I=>e=δ (V Z (iF x.t y.t))/\W'=I):=H λW'=>Ea x.t y.t W';unfold pc;generalize iF x.t y.t=r at *
 go_enter func155,ntmps155;go_wp2_with (go_at_call 156;refine(C.out _).mono ?_;rintro e I ⟨rfl,rfl⟩);go_ret;exact⟨rfl,0,_,by rw[alloc_eq_grow,alloc_eq_grow,grow_grow];rfl⟩
theorem Ec (x y:eC): @Go.Proofs.ltOf eC (λx y=>iF x.t y.t) x y=decide (x.t<y.t):=by
 unfold Go.Proofs.ltOf iF;by_cases G:x.t<y.t
 ·simp[G]
 by_cases A:y.t<x.t<;>simp[G,A]<;>omega
theorem aa1:SWO (Go.Proofs.ltOf λx y:eC=>iF x.t y.t)where
 irrefl x:=by rw[Ec];simp
 trans x y z G A:=by rw[Ec]at *;simp at *;omega
 ntrans x y z G A:=by rw[Ec]at *;simp at *;omega
structure aj6 (w:ι)(v:Value)(L:List eC):Prop where
 is:(∃a c,v=ζ a 0 c/\L=[])\/∃b c,v=ζ (some ⟨b,0,none⟩) L.length c/\∀i x,L[i]?=some x->w.cell? ⟨b,i*3,none⟩=some (V Z x.t)/\w.cell? ⟨b,i*3+1,none⟩=some (V Z x.k)/\w.cell? ⟨b,i*3+2,none⟩=some (V Z x.m)
 fO:∀b,v.ownBlock=some b->b<w.heap.size
theorem SK {α:Type}[Inhabited α](enc:α->List Value)(k:Nat)(w:ι)(fO off m:Nat)(dk:Array α)(os:Array Obj):aj (λj=>j=fO) w (sortWorldK enc k w fO off m dk os):=by
 refine⟨rfl,rfl,rfl,size_sortWorldK_c enc k w fO off m dk os,λj hj dp=>?_⟩;show((w.heap.modify fO _)++os)[j]?=_;rw[Array.getElem?_append_left (by simpa using hj),Array.getElem?_modify,if_neg (λe=>dp e.symm)]
theorem SM {L:List eC}:∀{i:Nat} {x:eC},L[i]?=some x->(iu L)[i*3]?=some (V Z x.t)/\(iu L)[i*3+1]?=some (V Z x.k)/\(iu L)[i*3+2]?=some (V Z x.m):=by
 induction L with
 |nil=>intro i x h;cases h
 |cons y L ih=>
  intro i x h;have e:iu (y::L)=pc y++iu L:=rfl;cases i with
  |zero=>
   rw[List.getElem?_cons_zero]at h;cases h;rw[e];exact⟨rfl,rfl,rfl⟩
  |succ i=>
   rw[List.getElem?_cons_succ]at h;obtain⟨a,b,c⟩:=ih h;have K:(pc y).length=3:=rfl;rw[e];refine⟨?_,?_,?_⟩
   ·rw[υ (by rw[K];omega),K,show(i+1)*3-3=i*3 by omega];exact a
   ·rw[υ (by rw[K];omega),K,show(i+1)*3+1-3=i*3+1 by omega];exact b
   rw[υ (by rw[K];omega),K,show(i+1)*3+2-3=i*3+2 by omega];exact c
theorem Nu (v:Value)(L:List eC)(w:ι)(h:w.ownsRow 0 203 3 v L.length (iu L))(hL:L.length<=16777216):
 Β prog 154 #[v,.func (.func 155) #[] #[]] w λe I=>e=δ (.tuple #[])/\∃L',L'.Perm L/\L'.Pairwise (λx y=>x.t<=y.t)/\aj6 I v L'/\aj (λj=>v.ownBlock=some j) w I:=by
 have eg:∀args w,(callFunc 155 args).run prog w=.ok (.enter 155 args) w:=enters_of func155 (by kernel_rfl) rfl;have hblk:∀b,v.ownBlock=some b->b<w.heap.size:=λb U=>(h.lt b U).2;rcases h.2 with⟨rfl,h0⟩|⟨g,cap,cur,rfl,_,hg,Oo,zv,zE,QF⟩
 ·have K:L=[]:=List.length_eq_zero_iff.1 h0;subst K;refine(AnyF.slices_SortFunc_none Tryz.laysEdg none 0 _ w).mono ?_;rintro e I ⟨rfl,rfl⟩;exact⟨rfl,[],List.Perm.refl _,List.Pairwise.nil,⟨.inl ⟨_,_,rfl,rfl⟩,hblk⟩,aj.refl _ _⟩
 haveI:Inhabited eC:=⟨⟨0,0,0⟩⟩
 have hlen:L.toArray.size=L.length:=by simp
 have aC:∀i x,L[i]?=some x->∀k,k<3->w.cell? ⟨g,i*3+k,none⟩=some ((pc x)[k]!)/\w.frozen? ⟨g,i*3+k,none⟩=false:=by
  intro i x hi k Y;obtain⟨a1,a2,a3⟩:=SM hi;have jw:=(List.getElem?_eq_some_iff.1 hi).1;have hc:∀m u,(iu L)[m]?=some u->w.cell? ⟨g,m,none⟩=some u:=λm u hm=>by
   have:=h.cells (g:=g) rfl m u hm;rwa [Addr.add_lit,Ϝ]at this
  have hf:∀m,w.frozen? ⟨g,m,none⟩=false:=λm=>by
   simp[World.frozen?,hg]
  match k,Y with
  |0,_=>exact⟨hc _ _ a1,hf _⟩
  |1,_=>exact⟨hc _ _ a2,hf _⟩
  |2,_=>exact⟨hc _ _ a3,hf _⟩
 have hH:HoldsK pc 3 w g 0 L.toArray:=by
  intro t ht;rw[size_flatK]at ht;rw[get_flatK _ _ _ _ ht];have aR:t/3<L.length:=by simp at ht;omega
  have S:L.toArray[t/3]! =L[t/3]:=by
   rw[getElem!_pos L.toArray (t/3) (by simpa using aR)];simp
  rw[S,Ϝ,id];have:=aC (t/3) L[t/3] (ν aR) (t%3) (Nat.mod_lt _ (by decide));rwa [show t/3*3+t%3=t by omega]at this
 have acM:=hblk g rfl;have acN:=AnyQ.slices_SortFunc Tryz.laysEdg 3 Tryz.isAgg203 Tryz.sizeOf203 pc (λ_=>rfl) (λx v hv=>by
  simp[pc]at hv;rcases hv with rfl|rfl|rfl<;>rfl) (λx y:eC=>iF x.t y.t) aa1 155 #[] g 0 cap L.toArray w eg (λm os dk _ x y=>QE x y _) hH acM (by simp;omega)
 rw[hlen]at acN;refine acN.mono ?_;rintro e I ⟨rfl,d',n,os,J,hs,rfl⟩;obtain⟨lx,Ed,Ze⟩:=J;rw[hlen]at lx;have S:d'.extract 0 L.length=d':=by rw[<-lx];simp
 have e2:L.toArray.extract 0 L.length=L.toArray:=by simp
 rw[S,e2]at Ze;have acO:d'.toList.length=L.length:=by simpa using lx
 have hH':=holdsK_sortWorldK_c pc 3 w g 0 L.toArray d' n os hH acM (by rw[lx,hlen]);refine⟨rfl,d'.toList,by simpa using Ze,?_,⟨.inr ⟨g,cap,by rw[acO],λi x hi=>?_⟩,λb U=>?_⟩,?_⟩
 ·rw[List.pairwise_iff_getElem];intro i j hi hj Zf;have:=hs i j (Ϩ _) Zf (by rw[<-acO];exact hj);rw[Ec]at this;have f1:d'[i]! =d'.toList[i]:=by rw[getElem!_pos d' i (by simpa using hi)];simp
  have f2:d'[j]! =d'.toList[j]:=by rw[getElem!_pos d' j (by simpa using hj)];simp
  rw[f1,f2]at this;simp at this;simpa using this
 ·obtain⟨jw,N⟩:=List.getElem?_eq_some_iff.1 hi;have hid:i<d'.size:=by simpa using jw
  have f1:d'[i]! =x:=by rw[getElem!_pos d' i hid,<-N];simp
  have g0:=(hH'.cell hid (c:=0) (by decide)).1;have g1:=(hH'.cell hid (c:=1) (by decide)).1;have g2:=(hH'.cell hid (c:=2) (by decide)).1;rw[f1]at g0 g1 g2;rw[Ϝ]at g0 g1 g2;exact⟨g0,g1,g2⟩
 ·exact ψ (hblk b U) (size_sortWorldK_c pc 3 w g 0 n d' os)
 refine(SK pc 3 w g 0 n d' os).mono λj hj=>.inl ?_;rw[hj];rfl
def QG (x:Int×Int×Int):List Value:=[V Z x.1,V Z x.2.1,V Z x.2.2]
def js (R:List (Int×Int×Int)):List Value:=R.flatMap QG
theorem QH (R:List (Int×Int×Int))(x:Int×Int×Int):js (R++[x])=js R++QG x:=by unfold js;simp
theorem aa2:(prog.info? 158).map (λi=>(i.zero,i.size,i.bytes))=some (some (.agg #[V Z 0,V Z 0,V Z 0]),3,24):=by kernel_rfl
theorem Jy (c0 c1 c2:Int)(w:ι):
 Β prog 157 #[.agg #[V Z c0,V Z c1,V Z c2]] w λe I=>e=δ (V Z (gM c1 c2))/\Below w.heap.size w I:=by
 have U:Below w.heap.size w (w.alloc (θ #[V Z c0,V Z c1,V Z c2] 87)):=(μ _ _).alloc (κ _) _;unfold gM;by_cases A:0<c2
 ·rw[if_pos A];have vf:c2>0:=A;go_enter func157,ntmps157;go_wp2_with fail;go_ret;exact⟨rfl,U⟩
 rw[if_neg A];have vf:¬c2>0:=A;by_cases G:0<c1
 ·rw[if_pos G];have wx:c1>0:=G;go_enter func157,ntmps157;go_wp2_with fail;go_ret;exact⟨rfl,U⟩
 rw[if_neg G];have wx:¬c1>0:=G;go_enter func157,ntmps157;go_wp2_with fail;go_ret;exact⟨rfl,U⟩
theorem Hz (a:Ϙ)(h:a.tmps.size=81)(hd:a.defers=[]):∃f:Nat->Value,a=⟨List.toArray (f 0::f 1::f 2::f 3::f 4::f 5::f 6::f 7::f 8::f 9::f 10::f 11::f 12::f 13::f 14::f 15::f 16::f 17::f 18::f 19::f 20::f 21::f 22::f 23::f 24::f 25::f 26::f 27::f 28::f 29::f 30::f 31::f 32::f 33::f 34::f 35::f 36::f 37::f 38::f 39::f 40::f 41::f 42::f 43::f 44::f 45::f 46::f 47::f 48::f 49::f 50::f 51::f 52::f 53::f 54::f 55::f 56::f 57::f 58::f 59::f 60::f 61::f 62::f 63::f 64::f 65::f 66::f 67::f 68::f 69::f 70::f 71::f 72::f 73::f 74::f 75::f 76::f 77::f 78::f 79::f 80::[]),[]⟩/\∀k,a.eval (.tmp k)=f k:=gK 81 a h hd
theorem F7 {P:ϛ}{ops:Array ϝ}{Q:ϧ->Ϙ->ι->Prop}{rest:List ϝ}{o:ϝ}{a:Ϙ}{w:ι}(rH:o.guard=none)(s x:Η)(t e:ϋ)(z:Value)(sz bytes:Nat)
 (ho:o.op=.call {callee:=.builtin .append,args:=#[s,x],argTypes:=#[t,t]})(hu:P.underlying t=some (.slice e))(xI:(P.info? e).map (λi=>(i.zero,i.size,i.bytes))=some (some z,sz,bytes))(hz:z.cells.size=sz)(h0:0<sz)(B:Nat)(v:Value)(n:Nat)(xs:List Value)(hs:a.eval s=v)
 (aX:w.ownsRow B e sz v n xs)(p m:Nat)(hm:0<m)(news:List Value)(K:news.length=m*sz)(N:a.eval x=ζ (some ⟨p,0,none⟩) m m)(hc:X w p news e)(G:∀u∈news,u.oneCell'=true)(hn:n+m<=16777216)(tT:bytes<=64)(hB:B<=w.heap.size)
 (hK:∀g cap I,I.ownsRow B e sz (ζ (some ⟨g,0,none⟩) (n+m) cap) (n+m) (xs++news)->w.grownBy I v.ownBlock->(v.ownBlock=some g\/g=w.heap.size)->wpList P ops Q rest (a.put o.dst (ζ (some ⟨g,0,none⟩) (n+m) cap)) I):wpList P ops Q (o::rest) a w:=by
 obtain⟨g,cap,w9,jM,wG,_,Hy,zD⟩:=pd (P:=P) w B t o.type e z sz bytes hu xI hz h0 v n xs aX ⟨p,0,none⟩ m m hm news K (World.news_of_block hc) G hn tT hB;exact wpList_plain rH λaqy mv=>ai (F6 ho hs N jM) (mv _ _ (hK g cap w9 wG Hy zD))
structure acQ (p C Eb:Nat)(f:Int)(a5:Option Addr)(n c5:Nat)(s3:Value)(bg kd:Int)(i:Nat)(a:Ϙ):Prop where
 size:a.tmps.size=81
 defers:a.defers=[]
 s0:a.eval (.tmp 0)=ε (some ⟨p,0,none⟩)
 s3:a.eval (.tmp 3)=s3
 s4:a.eval (.tmp 4)=ε (some ⟨C,0,none⟩)
 s5:a.eval (.tmp 5)=V Z bg
 s6:a.eval (.tmp 6)=V Z kd
 s7:a.eval (.tmp 7)=V Z i
 s8:a.eval (.tmp 8)=ε (some ⟨Eb,0,none⟩)
 s23:a.eval (.tmp 23)=ζ a5 n c5
 s24:a.eval (.tmp 24)=V Z n
 Zg:a.eval (.tmp 25)=V Z i
 s1:a.eval (.tmp 1)=undef
 s2:a.eval (.tmp 2)=ζ none 0 0
 s11:a.eval (.tmp 11)=ε (some ⟨p,0,none⟩)
 Zh:a.eval (.tmp 12)=ε (some ⟨p,0,none⟩)
 Zi:a.eval (.tmp 13)=ε (some ⟨p,2,none⟩)
 s14:a.eval (.tmp 14)=ζ a5 n c5
 s15:a.eval (.tmp 15)=.tuple #[]
 s16:a.eval (.tmp 16)=ε (some ⟨p,0,none⟩)
 s17:a.eval (.tmp 17)=ε (some ⟨p,0,none⟩)
 s18:a.eval (.tmp 18)=ε (some ⟨p,0,none⟩)
 s19:a.eval (.tmp 19)=V Z f
 s20:a.eval (.tmp 20)=ε (some ⟨p,0,none⟩)
 s21:a.eval (.tmp 21)=ε (some ⟨p,0,none⟩)
 Zj:a.eval (.tmp 22)=ε (some ⟨p,2,none⟩)
 s80:a.eval (.tmp 80)=undef
def acS (v:Value)(f:Int)(L:List eC)(w:ι):ϥ->ι->Prop:=λE I=>
 ∃vs L',L'.Perm L/\L'.Pairwise (λx y:eC=>x.t<=y.t)/\E=δ vs/\I.ownsRow w.heap.size 158 3 vs (fU 0 0 f 0 L').length (js (fU 0 0 f 0 L'))/\aj (λj=>v.ownBlock=some j) w I
theorem Jz (p:Nat)(f t:Int)(v:Value)(L:List eC)(w:ι)(h:gL w p f t v L)(hL:L.length<=16777216)(Y:∀e∈L,(e.k=0\/e.k=1\/e.k=2)/\(e.m=1\/e.m=-1)):
 Β prog 102 #[ε (some ⟨p,0,none⟩)] w (acS v f L w):=by
 have agm:∃a5 c5,v=ζ a5 L.length c5:=by
  rcases h.own.2 with⟨e,h0⟩|⟨g,cap,cur,e,_⟩
  ·exact⟨none,0,by rw[e,h0]⟩
  exact⟨_,_,e⟩
 have k2:=h.row.cell (k:=2) rfl;have HS:=H (Nu v L w h.own hL);have HW:=H h;obtain⟨a5,c5,Oq⟩:=agm;rw[Oq]at HS k2;clear h;go_enter func102,ntmps102;go_upto_region 2 with(go_at_call 154;refine(HS.out).mono ?_;rintro E W1 ⟨rfl,L',tU,Ot,gu,bC⟩);clear HS k2;have r1:X W1 p [V Z f,V Z t,ζ a5 L.length c5] 148:=by
  rw[<-Oq];exact HW.out.row.ex bC (λe=>HW.out.ne (by rw[Oq];exact e))
 have pT:p<W1.heap.size:=r1.lt;have k0:=r1.cell (k:=0) rfl;have k2:=r1.cell (k:=2) rfl;have hlen:L'.length=L.length:=tU.length_eq;rw[<-hlen]at k2 gu r1⊢;replace Y:Hid (∀e∈L',(e.k=0\/e.k=1\/e.k=2)/\(e.m=1\/e.m=-1)):=H λe he=>Y e (tU.mem_iff.1 he);replace hL:L'.length<=16777216:=by omega
 have HF:Hid (∀E I,(∃vs,E=δ vs/\I.ownsRow w.heap.size 158 3 vs (fU 0 0 f 0 L').length (js (fU 0 0 f 0 L'))/\Below W1.heap.size W1 I)->acS v f L w E I):=H λE I ⟨vs,G,A,M⟩=>⟨vs,L',tU,Ot,G,A,by rw[Oq];exact bC.aK (aj.aq M)⟩;have zA:=bC.size;replace bC:=H bC;replace hlen:=H hlen;replace gu:=H gu;replace tU:=H tU;replace Ot:=H Ot;have aN:Below W1.heap.size W1 (W1.alloc (θ #[V Z 0,V Z 0,V Z 0] 87)):=(μ _ _).alloc (κ _) _;have Om:=X.new W1 [V Z 0,V Z 0,V Z 0] 87;go_wp2_with fail;clear k0 k2;have eW:(W1.alloc (.cells [V Z 0,V Z 0,V Z 0].toArray 87))=W1.alloc (θ #[V Z 0,V Z 0,V Z 0] 87):=rfl;rw[eW]at Om;clear eW;have gX:=H (show(W1.alloc (θ #[V Z 0,V Z 0,V Z 0] 87)).heap.size=W1.heap.size+1 by simp);generalize(W1.alloc (θ #[V Z 0,V Z 0,V Z 0] 87))=W2 at *
 go_loopg [3,5,6,25] L'.length (λq s3 s5 s6 Zg wr=>∃(i:Nat) (c0 c1 c2 bg kd:Int) (R:List (Int×Int×Int)),i+q=L'.length/\Zg=V Z i/\s5=V Z bg/\s6=V Z kd/\(-i<=c0/\c0<=i∧-i<=c1/\c1<=i∧-i<=c2/\c2<=i)/\wr.ownsRow (W1.heap.size+1) 158 3 s3 R.length (js R)/\X wr W1.heap.size [V Z c0,V Z c1,V Z c2] 87/\Below W1.heap.size W1 wr/\Hid (R++fU c1 c2 bg kd (L'.drop i)=fU 0 0 f 0 L')/\R.length<=i)
 case atStart=>
  exact⟨0,0,0,0,f,0,[],by omega,rfl,rfl,rfl,by omega,Υ _ _ _ _,Om,aN,H (by simp),κ _⟩
 case round=>
  obtain⟨i,c0,c1,c2,bg,kd,R,Zk,rfl,rfl,rfl,hcb,aX,hC,al,hR,hRl⟩:=hrel;by_cases mw:i=L'.length
  case pos=>
   subst mw;have S:R=fU 0 0 f 0 L':=by have:=hR.out;rw[List.drop_length]at this;simpa[fU]using this
   have fG:∃a6 n6 c6,u3=ζ a6 n6 c6:=by
    rcases aX.2 with⟨e,_⟩|⟨g,cap,cur,e,_⟩
    ·exact⟨_,_,_,e⟩
    exact⟨_,_,_,e⟩
   obtain⟨a6,n6,c6,rfl⟩:=fG;have agn:=H (show wr.ownsRow w.heap.size 158 3 (ζ a6 n6 c6) R.length (js R)from⟨aX.1,aX.2.elim .inl λ⟨g,cap,cur,G,A,M⟩=>.inr ⟨g,cap,cur,G,by omega,M⟩⟩);clear hR hC aX hcb;go_wp2_with fail;go_ret;exact HF.out _ _ ⟨_,rfl,by rw[<-S];exact agn.out,al⟩
  case neg=>
   have aR:i<L'.length:=by omega
   have zF:(i:Int)<(L'.length:Int):=by omega
   obtain⟨e,he⟩:∃e,L'[i]?=some e:=⟨_,ν aR⟩;obtain⟨pf,hme⟩:=Y.out e (Ν he);have hdr:L'.drop i=e::L'.drop (i+1):=by rw[ϗ aR];congr 1;exact ξ ((ν aR).symm.trans he)
   obtain⟨b5,ha5,aj7,dE⟩:∃b5,a5=some ⟨b5,0,none⟩/\b5<W1.heap.size/\Hid (∀j x,L'[j]?=some x->W1.cell? ⟨b5,j*3,none⟩=some (V Z x.t)/\W1.cell? ⟨b5,j*3+1,none⟩=some (V Z x.k)/\W1.cell? ⟨b5,j*3+2,none⟩=some (V Z x.m)):=by
    have tV:=gu.out.fO;rcases gu.out.is with⟨_,_,_,h'⟩|⟨b5,c,hv,dE⟩
    ·rw[h']at aR;simp at aR
    injection hv with G A M
    subst G;exact⟨b5,rfl,tV b5 rfl,H dE⟩
   subst ha5;have BD:Hid (∀W',Below W1.heap.size W1 W'->∀j x,L'[j]?=some x->W'.cell? ⟨b5,j*3,none⟩=some (V Z x.t)/\W'.cell? ⟨b5,j*3+1,none⟩=some (V Z x.k)/\W'.cell? ⟨b5,j*3+2,none⟩=some (V Z x.m)):=H λW' U j x hj=>by
    have e0:∀o,W'.cell? ⟨b5,o,none⟩=W1.cell? ⟨b5,o,none⟩:=λo=>World.cell?_of_block (U.block b5 aj7);rw[e0,e0,e0];exact dE.out j x hj
   obtain⟨q0,q1,q2⟩:=BD.out wr al i e he;have aj8:=hC.lt;go_upto_region 8 with fail;rename_i K9 hK9;obtain⟨d1,cx⟩:∃d1,d1=c1+if e.k=1 then e.m else 0:=⟨_,rfl⟩;obtain⟨d2,tG⟩:∃d2,d2=c2+if e.k=2 then e.m else 0:=⟨_,rfl⟩;replace cx:=H cx;replace tG:=H tG;have hrE:=X.new wr [V Z e.t,V Z e.k,V Z e.m] 203;have r9:∀a w8 d0,acQ p W1.heap.size wr.heap.size f (some ⟨b5,0,none⟩) L'.length c5 u3 bg kd i a->(-((i:Int)+1)<=d0/\d0<=(i:Int)+1)->X w8 W1.heap.size [V Z d0,V Z d1,V Z d2] 87->X w8 wr.heap.size [V Z e.t,V Z e.k,V Z e.m] 203->w8.ownsRow (W1.heap.size+1) 158 3 u3 R.length (js R)->Below W1.heap.size W1 w8->(∀j,u3.ownBlock=some j->j<wr.heap.size)->K9 a w8:=by
    intro a w8 d0 hF KP Zl zG Zm Ou hu8;refine hK9 a w8 ?_;clear hK9 K9;obtain⟨fr,rfl,hf⟩:=Hz a hF.size hF.defers;have g0:=(hf 0).symm.trans hF.s0;have g3:=(hf 3).symm.trans hF.s3;have g4:=(hf 4).symm.trans hF.s4;have g5:=(hf 5).symm.trans hF.s5;have g6:=(hf 6).symm.trans hF.s6;have g7:=(hf 7).symm.trans hF.s7;have g8:=(hf 8).symm.trans hF.s8;have g23:=(hf 23).symm.trans hF.s23;have g24:=(hf 24).symm.trans hF.s24;have SN:=(hf 25).symm.trans hF.Zg;have g1:=(hf 1).symm.trans hF.s1;have g2:=(hf 2).symm.trans hF.s2;have g11:=(hf 11).symm.trans hF.s11;have g12:=(hf 12).symm.trans hF.Zh;have g13:=(hf 13).symm.trans hF.Zi;have g14:=(hf 14).symm.trans hF.s14;have g15:=(hf 15).symm.trans hF.s15;have g16:=(hf 16).symm.trans hF.s16;have g17:=(hf 17).symm.trans hF.s17;have g18:=(hf 18).symm.trans hF.s18;have g19:=(hf 19).symm.trans hF.s19;have g20:=(hf 20).symm.trans hF.s20;have g21:=(hf 21).symm.trans hF.s21;have g22:=(hf 22).symm.trans hF.Zj;have SO:=(hf 80).symm.trans hF.s80;clear hf hF;rw[g0,g3,g4,g5,g6,g7,g8,g23,g24,SN,g1,g2,g11,g12,g13,g14,g15,g16,g17,g18,g19,g20,g21,g22,SO];clear g0 g3 g4 g5 g6 g7 g8 g23 g24 SN g1 g2 g11 g12 g13 g14 g15 g16 g17 g18 g19 g20 g21 g22 SO;have Zn:IntKind.i64.wrap ((i:Int)+1)=(i:Int)+1:=gI (by omega) (by omega);go_upto_region 10 with fail;have z0:=zG.cell (k:=0) rfl;have k2:=(r1.on Ou).cell (k:=2) rfl;rename_i K11 Wq K10 aj9;have iI:Hid (fU c1 c2 bg kd (L'.drop i)=if xJ e.t (L'.drop (i+1))=true\/gM d1 d2=kd then fU d1 d2 bg kd (L'.drop (i+1))else(if kd=0 then[]else[(bg,e.t,kd)])++fU d1 d2 e.t (gM d1 d2) (L'.drop (i+1))):=H (by rw[hdr,fU,<-cx.out,<-tG.out]);have aob:-((i:Int)+1)<=d1/\d1<=(i:Int)+1∧-((i:Int)+1)<=d2/\d2<=(i:Int)+1:=by
     rw[cx.out,tG.out];refine⟨?_,?_,?_,?_⟩<;>split<;>omega
    have Ee:xJ e.t (L'.drop (i+1))=false->∀a nq,acQ p W1.heap.size wr.heap.size f (some ⟨b5,0,none⟩) L'.length c5 u3 bg kd i a->K11 a (w8.drewN nq):=by
     intro my a nq hF;refine Wq a _ ?_;clear Wq K11 aj9 K10 z0 k2;have HJ:(w8.drewN nq).ownsRow (W1.heap.size+1) 158 3 u3 R.length (js R):=Zm;have vg:X (w8.drewN nq) W1.heap.size [V Z d0,V Z d1,V Z d2] 87:=Zl;have SQ:X (w8.drewN nq) wr.heap.size [V Z e.t,V Z e.k,V Z e.m] 203:=zG;have Ef:=below_drewN Ou nq;clear Zm Zl zG Ou;generalize w8.drewN nq=aqw at *
     obtain⟨fr2,rfl,hf⟩:=Hz a hF.size hF.defers;have g0:=(hf 0).symm.trans hF.s0;have g3:=(hf 3).symm.trans hF.s3;have g4:=(hf 4).symm.trans hF.s4;have g5:=(hf 5).symm.trans hF.s5;have g6:=(hf 6).symm.trans hF.s6;have g7:=(hf 7).symm.trans hF.s7;have g8:=(hf 8).symm.trans hF.s8;have g23:=(hf 23).symm.trans hF.s23;have g24:=(hf 24).symm.trans hF.s24;have SN:=(hf 25).symm.trans hF.Zg;have g1:=(hf 1).symm.trans hF.s1;have g2:=(hf 2).symm.trans hF.s2;have g11:=(hf 11).symm.trans hF.s11;have g12:=(hf 12).symm.trans hF.Zh;have g13:=(hf 13).symm.trans hF.Zi;have g14:=(hf 14).symm.trans hF.s14;have g15:=(hf 15).symm.trans hF.s15;have g16:=(hf 16).symm.trans hF.s16;have g17:=(hf 17).symm.trans hF.s17;have g18:=(hf 18).symm.trans hF.s18;have g19:=(hf 19).symm.trans hF.s19;have g20:=(hf 20).symm.trans hF.s20;have g21:=(hf 21).symm.trans hF.s21;have g22:=(hf 22).symm.trans hF.Zj;have SO:=(hf 80).symm.trans hF.s80;clear hf hF;rw[g0,g3,g4,g5,g6,g7,g8,g23,g24,SN,g1,g2,g11,g12,g13,g14,g15,g16,g17,g18,g19,g20,g21,g22,SO];clear g0 g3 g4 g5 g6 g7 g8 g23 g24 SN g1 g2 g11 g12 g13 g14 g15 g16 g17 g18 g19 g20 g21 g22 SO;have y0:=vg.cell (k:=0) rfl;have y1:=vg.cell (k:=1) rfl;have y2:=vg.cell (k:=2) rfl;have CS:=H (Jy d0 d1 d2 aqw);go_upto_region 12 with(go_at_call 157;refine(CS.out).mono ?_;rintro E aqp ⟨rfl,tW⟩);replace HJ:=dB HJ (I:=aqp) λg _ K=>tW.block g K;replace vg:=vg.on tW;replace SQ:=SQ.on tW;replace Ef:=Ef.trans (tW.mono Ef.size);clear y0 y1 y2 CS;have hlY:=SQ.lt;by_cases Ov:gM d1 d2=kd
     case pos=>
      have Zo:(gM d1 d2==kd)=true:=by simp[Ov]
      generalize hsg:gM d1 d2=sg at *
      go_wp2_with fail;go_roundg (gk-1)
      case measure=>omega
      case rel=>exact⟨i+1,d0,d1,d2,bg,kd,R,by omega,by go_num,rfl,rfl,by omega,HJ,vg,Ef,H (by rw[<-hR.out,iI.out,if_pos (.inr Ov)]),by omega⟩
     case neg=>
      have Zo:(gM d1 d2==kd)=false:=by simp[Ov]
      have F9:=H (iI.out.trans (if_neg (λh=>h.elim (λh=>by rw[my]at h;cases h) Ov)));generalize hsg:gM d1 d2=sg at *
      have z0:=SQ.cell (k:=0) rfl;by_cases nE:kd=0
      case pos=>
       have Wr:=H (F9.out.trans (by rw[if_pos nE,Ι]));subst nE;clear F9;go_wp2_with fail;go_roundg (gk-1)
       case measure=>omega
       case rel=>exact⟨i+1,d0,d1,d2,e.t,sg,R,by omega,by go_num,rfl,rfl,by omega,HJ,vg,Ef,H (by rw[<-hR.out,Wr.out]),by omega⟩
      case neg=>
       have aoc:(kd==0)=false:=by simp[nE]
       have Wr:=H (F9.out.trans (by rw[if_neg nE]));clear F9;have pS:=X.new aqp [V Z bg,V Z e.t,V Z kd] 158;have hYs:=H Ef.size;have acU:∀j,u3.ownBlock=some j->W1.heap.size+1<=j/\j<aqp.heap.size:=λj hj=>HJ.lt j hj;go_wp2_with (refine F7 rfl (.tmp 67) (.tmp 74) 155 158 _ 3 24 rfl underlying155 aa2 rfl (by decide) (W1.heap.size+1) _ R.length (js R) rfl (HJ.alloc _) aqp.heap.size 1 (by decide) [V Z bg,V Z e.t,V Z kd] rfl rfl pS (by simp[ύ]) (by omega) (by decide) (by have:=vg.lt;have:=hYs.out;simp;omega) ?_;intro g9 Ws ad SR hgZ _;have hEZ:=(show X ad wr.heap.size _ _ from(hgZ.block _ (by simp;omega) (λe=>by have:=hu8 _ e.symm;omega)).trans ((φ _ _ _ hlY).trans SQ));have zZ:=hEZ.cell (k:=0) rfl);have hsY:=hYs.out;have hlC:=vg.lt;have hCZ:X ad W1.heap.size [V Z d0,V Z d1,V Z d2] 87:=(hgZ.block _ (by simp;omega) (λe=>by have:=(acU _ e.symm).1;omega)).trans ((φ _ _ _ hlC).trans vg);have hBZ:Below W1.heap.size W1 ad:=(Ef.alloc hsY _).grown hgZ (by simp;omega) (λk Y=>by have:=(acU k Y).1;omega);go_roundg (gk-1)
       case measure=>omega
       case rel=>exact⟨i+1,d0,d1,d2,e.t,sg,R++[(bg,e.t,kd)],by omega,by go_num,rfl,rfl,by omega,by rw[QH,π];exact SR,hCZ,hBZ,H (by rw[<-hR.out,Wr.out,Ϡ]),by rw[π];simp;omega⟩
    clear Wq;replace Ee:=H Ee;by_cases yN:i+1<L'.length
    case pos=>
     have acW:(i:Int)+1<(L'.length:Int):=by omega
     obtain⟨e2,Eg⟩:∃e2,L'[i+1]?=some e2:=⟨_,ν yN⟩;have hsT:xJ e.t (L'.drop (i+1))=decide (e2.t=e.t):=by
      rw[ϗ yN];have:L'[i+1]=e2:=ξ ((ν yN).symm.trans Eg);rw[this];rfl
     obtain⟨p0,_,_⟩:=BD.out w8 Ou (i+1) e2 Eg;by_cases hte:e2.t=e.t
     case pos=>
      go_big_quiet (fail);have HJ:(w8.drewN nq).ownsRow (W1.heap.size+1) 158 3 u3 R.length (js R):=Zm;have vg:X (w8.drewN nq) W1.heap.size [V Z d0,V Z d1,V Z d2] 87:=Zl;have Ef:=below_drewN Ou nq;clear Ee Zm Zl zG Ou z0 k2 p0;go_wp2_with fail;go_roundg (gk-1)
      case measure=>omega
      case rel=>exact⟨i+1,d0,d1,d2,bg,kd,R,by omega,by go_num,rfl,rfl,by omega,HJ,vg,Ef,H (by rw[<-hR.out,iI.out,if_pos (.inl (by rw[hsT];simpa using hte))]),by omega⟩
     case neg=>
      go_big_quiet (fail);go_wp2_with fail;exact Ee.out (by rw[hsT];simpa using hte) _ nq ⟨rfl,rfl,rfl,rfl,rfl,rfl,rfl,rfl,rfl,rfl,rfl,rfl,rfl,rfl,rfl,rfl,rfl,rfl,rfl,rfl,rfl,rfl,rfl,rfl,rfl,rfl,rfl⟩
    case neg=>
     have acW:¬(i:Int)+1<(L'.length:Int):=by omega
     go_big_quiet (fail);go_wp2_with fail;exact Ee.out (by rw[List.drop_eq_nil_of_le (by omega)];rfl) _ nq ⟨rfl,rfl,rfl,rfl,rfl,rfl,rfl,rfl,rfl,rfl,rfl,rfl,rfl,rfl,rfl,rfl,rfl,rfl,rfl,rfl,rfl,rfl,rfl,rfl,rfl,rfl,rfl⟩
   clear hK9;replace r9:=H r9;have Eh:∀j,u3.ownBlock=some j->W1.heap.size+1<=j/\j<wr.heap.size:=λj hj=>aX.lt j hj;have H5:X (wr.alloc (θ #[V Z e.t,V Z e.k,V Z e.m] 203)) W1.heap.size [V Z c0,V Z c1,V Z c2] 87:=hC.keep (φ _ _ _ aj8);have ly:X (wr.alloc (θ #[V Z e.t,V Z e.k,V Z e.m] 203)) wr.heap.size [V Z e.t,V Z e.k,V Z e.m] 203:=hrE;have hOb:=aX.alloc (θ #[V Z e.t,V Z e.k,V Z e.m] 203);have yO:=al.alloc al.size (θ #[V Z e.t,V Z e.k,V Z e.m] 203);have hnE:wr.heap.size≠W1.heap.size:=by omega
   clear hrE hC aX al q0 q1 q2;generalize(wr.alloc (θ #[V Z e.t,V Z e.k,V Z e.m] 203))=W8 at *
   have z0:=ly.cell (k:=0) rfl;have z1:=ly.cell (k:=1) rfl;have z2:=ly.cell (k:=2) rfl;have y0:=H5.cell (k:=0) rfl;have y1:=H5.cell (k:=1) rfl;have y2:=H5.cell (k:=2) rfl;have x0:=H5.free (k:=0);have x1:=H5.free (k:=1);have x2:=H5.free (k:=2);have fG:Hid (∀(nq j:Nat) (u:Value),aj (λk=>k=W1.heap.size) W8 ((W8.drewN nq).setCell ⟨W1.heap.size,j,none⟩ u)):=H λnq j u=>(fK (λk=>k=W1.heap.size) W8 nq).st rfl u;have AZ:Hid (∀W9,aj (λk=>k=W1.heap.size) W8 W9->X W9 wr.heap.size [V Z e.t,V Z e.k,V Z e.m] 203/\W9.ownsRow (W1.heap.size+1) 158 3 u3 R.length (js R)/\Below W1.heap.size W1 W9):=H λW9 N=>⟨ly.ex N hnE,dB hOb λg hg K=>N.block g K (λe=>by have:=(Eh g hg).1;omega),yO.trans (N.below yO.size (λj hj=>by omega))⟩;have SS:=H H5;clear ly hOb yO H5;rcases pf with pf|pf|pf
   case inl=>
    rw[pf]at z1;have hw:IntKind.i64.wrap (c0+e.m)=c0+e.m:=gI (by omega) (by omega);have g1:d1=c1:=by rw[cx.out,pf];simp
    have g2:d2=c2:=by rw[tG.out,pf];simp
    refine ia 6 ?_
    iterate 6 (go_big_quiet_step (fail))
    refine wpQuiet_nil ?_;rintro _ ⟨nq,rfl⟩;go_wp2_with fail;have ib:=fG.out nq 0 (V Z (c0+e.m));obtain⟨m1,m2,m3⟩:=AZ.out _ ib;refine r9.out _ _ (c0+e.m) ⟨rfl,rfl,rfl,rfl,rfl,rfl,rfl,rfl,rfl,rfl,rfl,rfl,rfl,rfl,rfl,rfl,rfl,rfl,rfl,rfl,rfl,rfl,rfl,rfl,rfl,rfl,rfl⟩ (by omega) ?_ m1 m2 m3 (λj hj=>(Eh j hj).2);rw[g1,g2];exact X.set (k:=0) (show X (W8.drewN nq) _ _ _ from SS.out) _
   case inr.inl=>
    rw[pf]at z1;have hw:IntKind.i64.wrap (c1+e.m)=c1+e.m:=gI (by omega) (by omega);have g1:d1=c1+e.m:=by rw[cx.out,pf];simp
    have g2:d2=c2:=by rw[tG.out,pf];simp
    refine ia 6 ?_
    iterate 6 (go_big_quiet_step (fail))
    refine wpQuiet_nil ?_;rintro _ ⟨nq,rfl⟩;go_wp2_with fail;have ib:=fG.out nq 1 (V Z (c1+e.m));obtain⟨m1,m2,m3⟩:=AZ.out _ ib;refine r9.out _ _ c0 ⟨rfl,rfl,rfl,rfl,rfl,rfl,rfl,rfl,rfl,rfl,rfl,rfl,rfl,rfl,rfl,rfl,rfl,rfl,rfl,rfl,rfl,rfl,rfl,rfl,rfl,rfl,rfl⟩ (by omega) ?_ m1 m2 m3 (λj hj=>(Eh j hj).2);rw[g1,g2];exact X.set (k:=1) (show X (W8.drewN nq) _ _ _ from SS.out) _
   case inr.inr=>
    rw[pf]at z1;have hw:IntKind.i64.wrap (c2+e.m)=c2+e.m:=gI (by omega) (by omega);have g1:d1=c1:=by rw[cx.out,pf];simp
    have g2:d2=c2+e.m:=by rw[tG.out,pf];simp
    refine ia 6 ?_
    iterate 6 (go_big_quiet_step (fail))
    refine wpQuiet_nil ?_;rintro _ ⟨nq,rfl⟩;go_wp2_with fail;have ib:=fG.out nq 2 (V Z (c2+e.m));obtain⟨m1,m2,m3⟩:=AZ.out _ ib;refine r9.out _ _ c0 ⟨rfl,rfl,rfl,rfl,rfl,rfl,rfl,rfl,rfl,rfl,rfl,rfl,rfl,rfl,rfl,rfl,rfl,rfl,rfl,rfl,rfl,rfl,rfl,rfl,rfl,rfl,rfl⟩ (by omega) ?_ m1 m2 m3 (λj hj=>(Eh j hj).2);rw[g1,g2];exact X.set (k:=2) (show X (W8.drewN nq) _ _ _ from SS.out) _
def eY (n:Int):ByteArray:=⟨(KQ n).toArray⟩
theorem oz (n:Int):(eY n).size<=16:=by have:=aa3 n;show(KQ n).toArray.size<=16;simpa using this
def tX:ByteArray:=⟨#[70,82,69,69,66,85,83,89,59,70,66,84,89,80,69,61]⟩
def SU (k:Int):ByteArray:=if k=1 then⟨#[66,85,83,89,45,84,69,78,84,65,84,73,86,69]⟩else⟨#[66,85,83,89]⟩
def pg (x:Int×Int×Int):ByteArray:=tX++SU x.2.2++⟨#[58]⟩++eY x.1++⟨#[47]⟩++eY x.2.1
theorem Ei (n:Int)(w:ι)(ht:iX w):
 Β prog 101 #[V Z n] w λE I=>E=δ (η (eY n))/\Below w.heap.size w I:=by
 have C:=ry n w ht;obtain⟨x,S⟩:=QI n;rw[S]at C;replace C:=H C;unfold eY;clear S;generalize(⟨(KQ n).toArray⟩:ByteArray)=T at *
 go_enter func101,ntmps101;go_wp2_with (go_at_call 10;refine(C.out).mono ?_;rintro E w4 ⟨rfl,U⟩);go_ret;exact⟨rfl,U⟩
theorem SV {p:Nat}{w:ι}:(χ 158 (ε (some ⟨p,0,none⟩)) 0).run prog w=.ok (ε (some ⟨p,0,none⟩)) w:=by go_simp
def NLn (B:Nat)(NM:ByteArray)(b e:Int)(i:Nat)(v:Value)(_:ι):Prop:=v=[η NM,η (tX++NM),η (tX++NM++⟨#[58]⟩),ε (some ⟨B,0,none⟩),ε (some ⟨B,0,none⟩),V Z b,η (eY b),η (tX++NM++⟨#[58]⟩++eY b),η (tX++NM++⟨#[58]⟩++eY b++⟨#[47]⟩),ε (some ⟨B,0,none⟩),ε (some ⟨B,1,none⟩),V Z e,η (eY e),η (tX++NM++⟨#[58]⟩++eY b++⟨#[47]⟩++eY e)].getD i undef
def A0 (B:Nat)(NM:ByteArray):List (Nat×Value):=[(1,ε (some ⟨B,0,none⟩)),(3,η NM)]
theorem aa4 (B:Nat)(NM:ByteArray)(b e:Int):qQ (λi=>7+i) (A0 B NM) 21 14 (NLn B NM b e):=
 ⟨λi hi=>by show 7+i<21;omega,λi j hi hj h=>by have h':7+i=7+j:=h;omega,λq J i hi=>by
  simp only[A0,ρ,ο,or_false]at J;show q.1≠7+i;rcases J with rfl|rfl<;>simp<;>omega,λ_ _ _ _ h _=>h⟩
theorem H6 (a:Ϙ)(h:a.tmps.size=21)(hd:a.defers=[]):∃f:Nat->Value,a=⟨[f 0,f 1,f 2,f 3,f 4,f 5,f 6,f 7,f 8,f 9,f 10,f 11,f 12,f 13,f 14,f 15,f 16,f 17,f 18,f 19,f 20].toArray,[]⟩/\∀k,a.eval (.tmp k)=f k:=gK 21 a h hd
theorem Wt (b e k:Int)(w:ι)(ht:iX w)(Y:k=1\/k=2):
 Β prog 103 #[.agg #[V Z b,V Z e,V Z k]] w λE I=>E=δ (η (pg (b,e,k)))/\Below w.heap.size w I:=by
 have al:Below w.heap.size w (w.alloc (θ #[V Z b,V Z e,V Z k] 158)):=(μ _ _).alloc (κ _) _;have wC:X (w.alloc (θ #[V Z b,V Z e,V Z k] 158)) w.heap.size [V Z b,V Z e,V Z k] 158:=X.new w _ _;have k2:=wC.cell (k:=2) rfl;obtain⟨NM,Ow⟩:∃NM,NM=SU k:=⟨_,rfl⟩;have hNs:NM.size<=14:=by
  rw[Ow];unfold SU;split<;>decide
 have HT:Hid (∀n I,Below (w.alloc (θ #[V Z b,V Z e,V Z k] 158)).heap.size (w.alloc (θ #[V Z b,V Z e,V Z k] 158)) I->Β prog 101 #[V Z n] I λE az=>E=δ (η (eY n))/\Below I.heap.size I az):=H λn I U=>Ei n I (ht.on (al.trans (U.mono al.size)));have yP:=oz b;have rI:=oz e;have aR:pg (b,e,k)=tX++NM++⟨#[58]⟩++eY b++⟨#[47]⟩++eY e:=by rw[Ow];rfl
 rw[aR];replace Ow:=H Ow;have Zp:=H wC;clear wC ht aR;go_enter func103,ntmps103;go_upto_region 2 with fail;have SX:w.heap.size<(w.alloc (θ #[V Z b,V Z e,V Z k] 158)).heap.size:=by simp
 generalize w.alloc (θ #[V Z b,V Z e,V Z k] 158)=W at *
 rename_i K4 hK4 K2 H7;have r4:∀a:Ϙ,a.tmps.size=21->a.defers=[]->a.eval (.tmp 1)=ε (some ⟨w.heap.size,0,none⟩)->a.eval (.tmp 3)=η NM->K4 a W:=by
  intro a hs hd s1 s3;refine hK4 a W ?_;clear hK4 K4 H7 K2 k2;obtain⟨fr,rfl,hf⟩:=H6 a hs hd;have g1:=(hf 1).symm.trans s1;have g3:=(hf 3).symm.trans s3;clear hf hs hd s1 s3;rw[g1,g3];clear g1 g3;go_upto_region 4 with fail;have aqA:=aa4 w.heap.size NM b e;obtain⟨B,hB⟩:∃B,B=w.heap.size:=⟨_,rfl⟩;rw[<-hB]at aqA Zp SX al⊢;refine dC 14 (by simp only[Ξ,ώ];rfl) (by simp only[Ο,Ϗ];rfl) (GV (λi=>7+i) (NLn B NM b e)) (JV 21 (A0 B NM) W) (by kernel_rfl) (by kernel_rfl) (by kernel_rfl) (by kernel_rfl) (by kernel_rfl) (by kernel_rfl) rfl ?rops ?rdone ⟨rfl,rfl,λq J=>by
   simp only[A0,ρ,ο,or_false]at J;rcases J with rfl|rfl<;>rfl,(μ _ _).drew⟩
  case rops=>
   intro i o ho a I ar hG Q';have hi:i<14:=(Array.getElem?_eq_some_iff.1 ho).1;have t1:a.eval (.tmp 1)=ε (some ⟨B,0,none⟩):=ar.fixed (1,_) (by simp[A0]);have t3:a.eval (.tmp 3)=η NM:=ar.fixed (3,_) (by simp[A0]);have hf8:tX.size=16:=rfl;have hf9:(⟨#[70,82,69,69,66,85,83,89,59,70,66,84,89,80,69,61]⟩:ByteArray).size=16:=rfl;have hfa:(⟨#[58]⟩:ByteArray).size=1:=rfl;have tY:(⟨#[47]⟩:ByteArray).size=1:=rfl;have ea:i=0\/i=1\/i=2\/i=3\/i=4\/i=5\/i=6\/i=7\/i=8\/i=9\/i=10\/i=11\/i=12\/i=13:=by omega
   rcases ea with rfl|rfl|rfl|rfl|rfl|rfl|rfl|rfl|rfl|rfl|rfl|rfl|rfl|rfl<;>obtain rfl:=ξ ho
   ·exact ai (cJ rfl t3) (bp aqA ar)
   ·have S:a.eval (.tmp 7)=η NM:=aB hG 0;exact ai (qk rfl rfl S (by omega)) (bp aqA ar)
   ·have S:a.eval (.tmp 8)=η (tX++NM):=aB hG 1;exact ai (qk rfl S rfl (by simp[ω];omega)) (bp aqA ar)
   ·exact ai (cH rfl t1 SV) (bp aqA ar)
   ·have S:a.eval (.tmp 10)=ε (some ⟨B,0,none⟩):=aB hG 3;exact ai (cH rfl S SG) (bp aqA ar)
   ·have S:a.eval (.tmp 11)=ε (some ⟨B,0,none⟩):=aB hG 4;exact ai (aV rfl S (dQ ((Zp.out.on ar.below).cell (k:=0) rfl))) (bp aqA ar)
   ·have S:a.eval (.tmp 12)=V Z b:=aB hG 5;exact tZ (f:=101) (args:=#[a.eval (.tmp 12)]) (by kernel_rfl) (by rw[S];exact HT.out b I ar.below) (λaz U=>lV aqA rfl (by decide) ar U rfl)
   ·have S:a.eval (.tmp 9)=η (tX++NM++⟨#[58]⟩):=aB hG 2;have e2:a.eval (.tmp 13)=η (eY b):=aB hG 6;exact ai (qk rfl S e2 (by simp[ω];omega)) (bp aqA ar)
   ·have S:a.eval (.tmp 14)=η (tX++NM++⟨#[58]⟩++eY b):=aB hG 7;exact ai (qk rfl S rfl (by simp[ω];omega)) (bp aqA ar)
   ·exact ai (cH rfl t1 SV) (bp aqA ar)
   ·have S:a.eval (.tmp 16)=ε (some ⟨B,0,none⟩):=aB hG 9;exact ai (cH rfl S SH) (bp aqA ar)
   ·have S:a.eval (.tmp 17)=ε (some ⟨B,1,none⟩):=aB hG 10;exact ai (aV rfl S (dQ ((Zp.out.on ar.below).cell (k:=1) rfl))) (bp aqA ar)
   ·have S:a.eval (.tmp 18)=V Z e:=aB hG 11;exact tZ (f:=101) (args:=#[a.eval (.tmp 18)]) (by kernel_rfl) (by rw[S];exact HT.out e I ar.below) (λaz U=>lV aqA rfl (by decide) ar U rfl)
   have S:a.eval (.tmp 15)=η (tX++NM++⟨#[58]⟩++eY b++⟨#[47]⟩):=aB hG 8;have e2:a.eval (.tmp 19)=η (eY e):=aB hG 12;exact ai (qk rfl S e2 (by simp[ω];omega)) (bp aqA ar)
  case rdone=>
   intro a w3 ar hG;have Zq:a.eval (.tmp 20)=η (tX++NM++⟨#[58]⟩++eY b++⟨#[47]⟩++eY e):=hG 13 (by decide);have aP:=ar.below;have fc:=ar.size;have fi:=ar.defers;clear ar hG aqA;obtain⟨fr,rfl,hf⟩:=H6 a fc fi;have g20:=(hf 20).symm.trans Zq;clear hf fc fi Zq;rw[g20];clear g20;obtain⟨T,hT⟩:∃T,T=tX++NM++⟨#[58]⟩++eY b++⟨#[47]⟩++eY e:=⟨_,rfl⟩;rw[<-hT];replace hT:=H hT;go_wp2_with fail;go_ret;exact⟨by rw[<-hT.out];rfl,by rw[hB]at al;exact al.trans (aP.mono al.size)⟩
 clear hK4;replace r4:=H r4;rcases Y with rfl|rfl
 ·go_wp2_with fail;exact r4.out _ rfl rfl rfl (by rw[Ow.out];rfl)
 go_wp2_with fail;exact r4.out _ rfl rfl rfl (by rw[Ow.out];rfl)
end
section
open Go.Sort
attribute [local go_sem] Oper.semAt_some
attribute [local go_sem] bK aU
attribute [local simp] bK aU
theorem Wu {l:List aJ}{x:aJ}(hs:LT.eF l)(hy:∃y∈l,bP x y=0):(LT.jY x l).length+1=l.length:=by
 obtain⟨y,hy,h0⟩:=hy;obtain⟨a,b,rfl⟩:=List.append_of_mem hy;unfold LT.eF at hs;rw[List.pairwise_append,List.pairwise_cons]at hs;unfold LT.jY;have S:a.filter (λy=>decide (bP x y≠0))=a:=List.filter_eq_self.2 λz hz=>decide_eq_true (LT.ne_of_gt (LT.H9 h0 (hs.2.2 z hz y (by simp))));have e2:b.filter (λy=>decide (bP x y≠0))=b:=List.filter_eq_self.2 λz hz=>decide_eq_true (LT.ne_of_lt (LT.Ia h0 (hs.2.1.1 z hz)));rw[List.filter_append,List.filter_cons_of_neg (by simp[h0]),S,e2];simp;omega
def fy (xs:List aJ)(l:List aJ):List aJ:=l.filter λy=>xs.all λx=>decide (bP x y≠0)
theorem QJ (l:List aJ):fy [] l=l:=by unfold fy;simp
theorem Nv (xs:List aJ)(x:aJ)(l:List aJ):fy (xs++[x]) l=LT.jY x (fy xs l):=by
 unfold fy LT.jY;rw[List.filter_filter];congr 1;funext y;simp only[List.all_append,List.all_cons,List.all_nil,Bool.and_true];rw[Bool.and_comm]
theorem xK {xs l:List aJ}(h:LT.eF l):LT.eF (fy xs l):=by unfold fy LT.eF at *;exact h.filter _
theorem JA {x y z:aJ}(h:bP x y≠0)(k:bP y z=0):bP x z≠0:=λe=>h (by
 obtain⟨a,b,c⟩:=ir.1 k;obtain⟨a',b',c'⟩:=ir.1 e;exact ir.2 ⟨a'.trans a.symm,b'.trans b.symm,c'.trans c.symm⟩)
theorem QK {XS l:List aJ}{i:Nat}{e:aJ}(J:XS.Pairwise λx y=>bP x y≠0)(he:XS[i]?=some e)(mw:∀x∈XS,∃y∈l,bP x y=0):∃y∈fy (XS.take i) l,bP e y=0:=by
 obtain⟨y,hy,h0⟩:=mw e (Ν he);refine⟨y,?_,h0⟩;unfold fy;rw[List.mem_filter];refine⟨hy,?_⟩;rw[List.all_eq_true];intro x N;exact decide_eq_true (JA (Cl (Y5 J he x N)) h0)
def Ox (p:Nat)(T:LT)(h:Int)(XS:List aJ)(i:Nat):aQ:=λD W=>D p/\∃aqA:LT,(∀k∈aqA.ax,D k)/\(∀k∈aqA.ax,k∈T.ax)/\cP W p aqA aqA.size h/\aqA.aw=fy (XS.take i) T.aw
theorem Ox.cQ {p:Nat}{T:LT}{h:Int}{XS:List aJ}{i:Nat}{D:ak}{W:ι}(hD:∀k,D k->k<W.heap.size)(hj:Ox p T h XS i D W):On D (Ox p T h XS i) W:=by
 obtain⟨G,aqA,A,M,h4,h5⟩:=hj;exact⟨hD,λW2 Y=>⟨G,aqA,A,M,h4.keep λk bV=>Y k ((List.mem_cons.1 bV).elim (λe=>e▸G) (A k)),h5⟩⟩
def vh (b3 b4 b5:Nat):List (Nat×Value):=[(3,ε (some ⟨b3,0,none⟩)),(4,ε (some ⟨b4,0,none⟩)),(5,ε (some ⟨b5,0,none⟩))]
theorem aa5 (W:ι)(p b3 b4 b5:Nat)(kc ku:ByteArray)(EV:List Value)(h:Int)(XS:List aJ)(Eb:ak):qQ (λi=>7+i) (vh b3 b4 b5) 18 7 (λi=>xH W p kc ku EV h XS Eb (i+1)):=
 ⟨λi hi=>by show 7+i<18;omega,λi j hi hj h=>by have h':7+i=7+j:=h;omega,λq J i hi=>by
  simp only[vh,ρ,ο,or_false]at J;show q.1≠7+i;rcases J with rfl|rfl|rfl<;>simp<;>omega,λi=>xH.grow (i+1)⟩
theorem SY {b p:Nat}{w:ι}(h:w.cell? ⟨b,0,none⟩=some (ε (some ⟨p,0,none⟩))):(Φ 46 (ε (some ⟨b,0,none⟩))).run prog w=.ok (ε (some ⟨p,0,none⟩)) w:=by
 go_simp
def acY (p:Nat)(T:LT)(h:Int)(XS:List aJ)(w:ι):ϥ->ι->Prop:=λE I=>(∃v,E=δ v)/\∃aqA:LT,cP I p aqA aqA.size h/\aqA.aw=fy XS T.aw/\(∀k∈aqA.ax,k∈T.ax)/\aj (λk=>k∈p::T.ax) w I
theorem wI (p:Nat)(T:LT)(h:Int)(kc ku:ByteArray)(EV:List Value)(XS:List aJ)(Eb:ak)(w:ι)(hi:cP w p T T.size h)(hs:LT.eF T.aw)(hc:T.size<=500)(hEV:EV.length=18)
 (hC:∀wr,Below w.heap.size w wr->Β prog 93 #[.agg #[η kc,η ku],.agg EV.toArray,V Z 0,V Z h] wr (dR (dz XS) Eb wr))(ly:∀k,Eb k->¬k∈p::T.ax)
 (hXp:XS.Pairwise λx y=>bP x y≠0)(hXT:∀x∈XS,∃y∈T.aw,bP x y=0):
 Β prog 59 #[ε (some ⟨p,0,none⟩),.agg #[η kc,η ku],.agg EV.toArray] w (acY p T h XS w):=by
 have r3:=kx w [ε (some ⟨p,0,none⟩)] 46 (θ #[η kc,η ku] 107) (θ EV.toArray 99);have rk:=ky w (θ #[ε (some ⟨p,0,none⟩)] 46) [η kc,η ku] 107 (θ EV.toArray 99);have re:=kz w (θ #[ε (some ⟨p,0,none⟩)] 46) (θ #[η kc,η ku] 107) EV 99;have al:=gJ w (θ #[ε (some ⟨p,0,none⟩)] 46) (θ #[η kc,η ku] 107) (θ EV.toArray 99);have aR:∀k∈p::T.ax,k<w.heap.size:=λk Y=>(List.mem_cons.1 Y).elim (λe=>e▸hi.row.lt) (hi.tree.lt k);have hI:=H (hi.aM (O:=λ_=>False) (aj.aq al) (λ_ _ h=>h));have HC:=H hC;clear hC hi;refine(callsIn_wide (n:=0)).1 ?_;refine di func59 rfl ?_;simp only[ntmps59,Α,Ζ,ό,Ϛ,ϙ,Μ,Λ,Χ,Ρ,Ι,ϊ];refine bO λaqy hK=>bQ ?_;gi_wp2_with fail;have hz:w.heap.size+3<=(((w.alloc (θ #[ε (some ⟨p,0,none⟩)] 46)).alloc (θ #[η kc,η ku] 107)).alloc (θ EV.toArray 99)).heap.size:=by simp
 generalize(((w.alloc (θ #[ε (some ⟨p,0,none⟩)] 46)).alloc (θ #[η kc,η ku] 107)).alloc (θ EV.toArray 99))=W2 at *
 refine bO λK1 fh=>bQ (wpIn_wide.2 ?_);have aqA:=aa5 W2 p w.heap.size (w.heap.size+1) (w.heap.size+1+1) kc ku EV h XS Eb;have p1:=H λI (U:Below W2.heap.size W2 I)=>gZ (rk.on U);have p2:=H λI (U:Below W2.heap.size W2 I)=>jL (re.on U) hEV;have p3:=H λI (U:Below W2.heap.size W2 I)=>SY ((r3.on U).cell (k:=0) rfl);have p6:=H λI (U:Below W2.heap.size W2 I)=>dQ ((hI.out.row.on U).cell (k:=2) rfl);refine iw (GV (λi=>7+i) (λi=>xH W2 p kc ku EV h XS Eb (i+1))) (JV 18 (vh w.heap.size (w.heap.size+1) (w.heap.size+1+1)) W2) (by kernel_rfl) (by kernel_rfl) (by kernel_rfl) ?rops ?rdone ⟨rfl,rfl,λq J=>by
  simp only[vh,ρ,ο,or_false]at J;rcases J with rfl|rfl|rfl<;>rfl,(μ _ _).drew⟩
 case rops=>
  intro i o ho a I ar hG;have hi:i<7:=(Array.getElem?_eq_some_iff.1 ho).1;have t3:a.eval (.tmp 3)=ε (some ⟨w.heap.size,0,none⟩):=ar.fixed (3,_) (by simp[vh]);have t4:a.eval (.tmp 4)=ε (some ⟨w.heap.size+1,0,none⟩):=ar.fixed (4,_) (by simp[vh]);have t5:a.eval (.tmp 5)=ε (some ⟨w.heap.size+1+1,0,none⟩):=ar.fixed (5,_) (by simp[vh]);have ea:i=0\/i=1\/i=2\/i=3\/i=4\/i=5\/i=6:=by omega
  rcases ea with rfl|rfl|rfl|rfl|rfl|rfl|rfl<;>obtain rfl:=ξ ho
  ·exact ai (aV rfl t4 (p1.out _ ar.below)) (bp aqA ar)
  ·exact ai (aV rfl t5 (p2.out _ ar.below)) (bp aqA ar)
  ·exact ai (aV rfl t3 (p3.out _ ar.below)) (bp aqA ar)
  ·have S:a.eval (.tmp 9)=ε (some ⟨p,0,none⟩):=aB hG 2;exact ai (dF rfl S) (bp aqA ar)
  ·have S:a.eval (.tmp 10)=ε (some ⟨p,0,none⟩):=aB hG 3;exact ai (cH rfl S Ht) (bp aqA ar)
  ·have S:a.eval (.tmp 11)=ε (some ⟨p,2,none⟩):=aB hG 4;exact ai (aV rfl S (p6.out _ ar.below)) (bp aqA ar)
  have S:a.eval (.tmp 7)=.agg #[η kc,η ku]:=aB hG 0;have e2:a.eval (.tmp 8)=.agg EV.toArray:=aB hG 1;have e3:a.eval (.tmp 12)=V Z h:=aB hG 5;refine cI (f:=93) (args:=#[a.eval (.tmp 7),a.eval (.tmp 8),V Z 0,a.eval (.tmp 12)]) (by kernel_rfl) (by rw[S,e2,e3];exact HC.out I (al.trans (ar.below.mono al.size))) ?_ (by rintro c az ⟨_,_,_,e,_⟩;cases e) (by rintro az ⟨_,_,_,e,_⟩;cases e);rintro v az ⟨g,lb,R,e,A,M,h4,h5⟩;cases e;exact lV aqA rfl (by decide) ar h5 ⟨g,lb,R,rfl,A,λk Y=>⟨(M k Y).1,(M k Y).2.imp id λh=>Ϧ ar.below.size h⟩,h4⟩
 case rdone=>
  intro a w3 ar hG;obtain⟨g,lb,R,Oh,hit,mn,eg⟩:∃g lb R,a.eval (.tmp 13)=.func (.func g) #[] lb/\kO prog g lb (dz XS) R w3/\(∀k,R k->k<w3.heap.size/\(Eb k\/W2.heap.size<=k))/\(∀args w,(callFunc g args).run prog w=.ok (.enter g args) w):=hG 6 (by decide);have SZ:a.eval (.tmp 3)=ε (some ⟨w.heap.size,0,none⟩):=ar.fixed (3,_) (by simp[vh]);have aP:=ar.below;have fc:=ar.size;have fi:=ar.defers;clear ar hG aqA p1 p2 p3 p6 HC;refine fh a w3 ?_;clear fh;obtain⟨fr,rfl,hf⟩:=Hu a fc fi;have g3:=(hf 3).symm.trans SZ;have g13:=(hf 13).symm.trans Oh;rw[g3,g13];clear hf fc fi SZ Oh g3 g13;have U:=al.trans (aP.mono al.size);have o9:=hI.out.aM (O:=λ_=>False) (aj.aq aP) (λ_ _ h=>h);replace r3:=r3.on aP;have tO:=aP.size;refine gj ?_;refine kY (gf:=g) (lb:=lb) func59 ?g eg hit (κ _) (λ_ _=>rfl) (λk Y=>(mn k Y).1)
   (λk=>k∈p::T.ax) (λk Y bV=>by
    rcases(mn k bV).2 with h|h
    ·exact ly k h Y
    have:=aR k Y;omega) (Ox p T h XS) (λ_ _ _=>False) (λ_ _ _=>False) ?ps ?start ?round ?done ?stop ?pan
  case g=>rfl
  case ps=>intro x N;obtain⟨d,_,rfl⟩:=List.mem_map.1 N;rfl
  case start=>exact Ox.cQ (λk Y=>by have:=aR k Y;omega) ⟨by simp,T,λk Y=>by simp[Y],λk Y=>Y,o9,by simp[QJ]⟩
  case stop=>
   rintro c W4 ⟨N,D,cx,_,aG⟩ hs bM;exact aG.out.elim
  case pan=>
   rintro c W4 ⟨N,D,cx,_,aG⟩ hs bM;exact aG.out.elim
  case done=>
   rw[qi];rintro W4 ⟨N,D,cx,_,aG⟩ nC bM;obtain⟨_,aqA,hSD,zH,Bx,KR⟩:=aG.out;rw[Ϣ]at KR;refine⟨by simp,.inl ⟨_,_,rfl,run_takeDeferred bM,?_⟩⟩;refine⟨_,results_none rfl _ _ _,⟨_,rfl⟩,aqA,Bx.keep (λk Y=>τ ?_),KR,zH,((aj.aq U).aK N).put (.inr (by omega)) _⟩;have:k<w.heap.size:=aR k ((List.mem_cons.1 Y).elim (λe=>by simp[e]) λh=>by simp[zH k h]);omega
  case round=>
   intro BA i x N W4 D yM nC dT aG aqy hK;obtain⟨e,hd⟩:∃e,XS[i]?=some e:=⟨_,ν (by have:=(List.getElem?_eq_some_iff.1 N).1;rwa [qi]at this)⟩;rw[xG hd]at N;cases N;unfold de bE;gi_wp2_with fail;have gp:Below W4.heap.size W4 (W4.alloc (θ (bE e).toArray 144)):=(μ _ _).alloc (κ _) _;refine hK _ _ (λk=>D k\/k=W4.heap.size) gp (λk Y=>Y.imp id λh=>by omega) (λk Y=>.inl Y) (λk Y=>Y.elim (λh=>by have:=aG.1 k h;simp;omega) (λh=>by simp;omega)) ?_;intro l' W5 fD bN tQ;have q6:=(X.new W4 (bE e) 144).keep (fD _ (.inr rfl));have dX:=aG.on (W':=W5) λk Y=>(fD k (.inl Y)).trans (gp.block k (aG.1 k Y));have y3:=(r3.aM bN (λh=>by have:=aR _ h;omega)).cell (k:=0) rfl;have dP:∀k,D k\/k=W4.heap.size->k<W5.heap.size:=λk Y=>Y.elim (dX.1 k) (λh=>by have:=q6.lt;omega);obtain⟨Ej,aqA,hSD,zH,Bx,KR⟩:=dX.out;obtain⟨x0,x1,x2,x3,x4⟩:=lS (e:=e) q6;have KB:LT.eF aqA.aw:=by rw[KR];exact xK hs
   have Wv:=QK hXp hd hXT;rw[<-KR]at Wv;have Ib:aqA.size<=T.size:=by
    rw[<-LT.cC,<-LT.cC,KR];exact List.length_filter_le _ _
   have lM:=Wu KB Wv;rw[<-LT.rJ e KB,LT.cC,LT.cC]at lM;have HD:=H (BE p aqA aqA.size h e W5 Bx KB (by omega) Wv (by omega) (by omega));unfold de bE at HD;clear hK fD hit aG mn gp dX;gi_wp2_with fail;refine(CallsIn.inRound l' (callsIn_wide.2 HD.out)).mono ?_;rintro E W6 ⟨rfl,hI6,gm⟩;have HI6:=H hI6;have HX6:=H gm;clear hI6 gm HD x0 x1 x2 x3 x4 y3;gi_wp2_with fail;show aO _ _ _ _ _;have Hp:aj (λk=>D k\/k=W4.heap.size) W5 W6:=HX6.out.mono λk Y=>.inl (.inl ((List.mem_cons.1 Y).elim (λe=>e▸Ej) (hSD k)));refine⟨Hp,λk=>D k\/k=W4.heap.size,λk Y=>.inl Y,λk Y=>Y,Ox.cQ (λk Y=>ψ (dP k Y) Hp.size) ⟨.inl Ej,aqA.drop e,λk Y=>.inl (hSD k (mz e aqA k Y)),λk Y=>zH k (mz e aqA k Y),?_,?_⟩⟩
   ·rw[show((aqA.drop e).size:Int)=aqA.size-1 by omega];exact HI6.out
   rw[LT.rJ e KB,KR,Ϟ,hd];exact(Nv _ _ _).symm
end
section
def J2 (f:ϩ)(P:ϛ)(O:ak)(w:ι)(lr:Nat)(body:ϡ)(aqx:aQ)(Jx:ϡ->aQ)(Jp:List Δ->aQ)(a1:Ϙ)(D1:ak)(W1:ι):Prop:=
 ∀W2:ι,(∀k,D1 k->W2.heap[k]?=W1.heap[k]?)->aj O w W2->lr+1<=W2.heap.size->(∃r,W2.heap[lr]?=some (.loop r))->¬D1 lr->nG f (some lr) P body (Ek D1 aqx Jx Jp W2) a1 W2
theorem Ic {f:ϩ}{ua:Func}{P:ϛ}(nV:P.funcs[f]?=some ua){g:Η}{ps:Array Tmp}{assign body:ϡ}{Q:ϧ->Ϙ->ι->Prop}{a:Ϙ}{w:ι}
 {gf:Nat}{lb:Array Value}{Ok:List (Array Value)->Prop}(hg:a.eval g=.func (.func gf) #[] lb)(eg:∀args w,(callFunc gf args).run P w=.ok (.enter gf args) w)
 {R:ak}{w0:ι}(hit:pQ P gf lb Ok R w0)(ub:w0.heap.size<=w.heap.size)(ud:∀k,R k->w.heap[k]?=w0.heap[k]?)(mA:∀k,R k->k<w.heap.size)
 {ro:Option Nat}{lr:Nat}{mark:List Deferred}{W1:ι}{Zr:Nat}(rK:(ϣ f a.tmps ps assign body ro).run P w=.ok (lr,mark) W1)(hlr:w.heap.size<=lr)(zI:W1.heap[lr]?=some (.loop {state:=.ready,pending:=none,fn:=f,tmps:=a.tmps,params:=ps,assign,body,defers:=Zr}))(Oy:W1.heap.size=lr+1)(wJ:Below w.heap.size w W1)
 (O:ak)(hO:∀k,O k->¬R k)(aqx:List (Array Value)->aQ)(Jx:ϡ->aQ)(Jp:List Δ->aQ)(lz:∀xs,Ok xs->∀x∈xs,x.size=ps.size)(h0:On O (aqx []) w)
 (ph:∀(l:Nat) (i:List (Array Value)) (x:Array Value),(∃gi,Ok (i++x::gi))->∀(W:ι) (D:ak),aj O w W->lr+1<=W.heap.size->(∀k,O k->D k)->(∀k,D k->O k\/lr+1<=k)->On D (aqx i) W->
  ∀aqy:Ϙ->ι->Prop,(∀a1 W1 D1,Below W.heap.size W W1->(∀k,D1 k->D k\/W.heap.size<=k)->(∀k,D k->D1 k)->(∀k,D1 k->k<W1.heap.size)->J2 f P O w lr body (aqx (i++[x])) Jx Jp a1 D1 W1->aqy a1 W1)->
  assign.wpIn (Fence.wide.inRound l) 0 P (Exit.then aqy (λ_ _ _=>False)) {tmps:=(ps.zip x).foldl (λt (p,v)=>t.setIfInBounds p v) a.tmps,defers:=[]} W)
 (kZ:∀(xs:List (Array Value)),Ok xs->∀(W:ι),aO O (lr+1) (aqx xs) w W->lr+1<=W.heap.size->(∀k,w.heap.size<=k->k<lr->W.heap[k]?=W1.heap[k]?)->Q .normal {a with defers:=mark++a.defers} W)
 (k4:∀(c:ϡ) (W:ι),aO O (lr+1) (Jx c) w W->lr+1<=W.heap.size->(∀k,w.heap.size<=k->k<lr->W.heap[k]?=W1.heap[k]?)->nG f ro P c Q {a with defers:=mark++a.defers} W)
 (nW:∀(c:List Δ) (W:ι),aO O (lr+1) (Jp c) w W->lr+1<=W.heap.size->(∀k,w.heap.size<=k->k<lr->W.heap[k]?=W1.heap[k]?)->Q (.panic c) {a with defers:=mark++a.defers} W):
 nG f ro P (Code.rangeFunc g ps assign body) Q a w:=by
 refine El nV hg eg hit ub ud mA rK hlr zI Oy wJ O hO aqx Jx Jp (λi x a1 D W=>J2 f P O w lr body (aqx (i++[x])) Jx Jp a1 D W) lz h0 ?_ ?_ kZ k4 nW
 ·intro l i x N W D he hs dT eh aG aqy hK;refine ph l i x N W D he hs dT eh aG aqy λa1 W1 D1 U G A M zJ=>hK a1 W1 D1 U G A ⟨M,λW2 Y W3 bV=>zJ W3 λk hd=>(bV k hd).trans (Y k hd)⟩
 intro i x N a1 W D he hs dT _ aG hr hn;exact aG.out W (λ_ _=>rfl) he hs hr hn
theorem Ie {f:ϩ}{ua:Func}{P:ϛ}(nV:P.funcs[f]?=some ua){g:Η}{ps:Array Tmp}{assign body:ϡ}{Q:ϧ->Ϙ->ι->Prop}{a:Ϙ}{w:ι}
 {gf:Nat}{lb:Array Value}{Ok:List (Array Value)->Prop}(hg:a.eval g=.func (.func gf) #[] lb)(eg:∀args w,(callFunc gf args).run P w=.ok (.enter gf args) w)
 {R:ak}{w0:ι}(hit:pQ P gf lb Ok R w0)(ub:w0.heap.size<=w.heap.size)(ud:∀k,R k->w.heap[k]?=w0.heap[k]?)(mA:∀k,R k->k<w.heap.size)
 {l0:Nat}{r0:Loop}(S0:w.heap[l0]?=some (.loop r0))
 (O:ak)(hO:∀k,O k->¬R k)(aqx:List (Array Value)->aQ)(Jx:ϡ->aQ)(Jp:List Δ->aQ)(lz:∀xs,Ok xs->∀x∈xs,x.size=ps.size)(h0:On O (aqx []) w)
 (ph:∀(l:Nat) (i:List (Array Value)) (x:Array Value),(∃gi,Ok (i++x::gi))->∀(W:ι) (D:ak),aj O w W->w.heap.size+1<=W.heap.size->(∀k,O k->D k)->(∀k,D k->O k\/w.heap.size+1<=k)->On D (aqx i) W->
  ∀aqy:Ϙ->ι->Prop,(∀a1 W1 D1,Below W.heap.size W W1->(∀k,D1 k->D k\/W.heap.size<=k)->(∀k,D k->D1 k)->(∀k,D1 k->k<W1.heap.size)->J2 f P O w w.heap.size body (aqx (i++[x])) Jx Jp a1 D1 W1->aqy a1 W1)->
  assign.wpIn (Fence.wide.inRound l) 0 P (Exit.then aqy (λ_ _ _=>False)) {tmps:=(ps.zip x).foldl (λt (p,v)=>t.setIfInBounds p v) a.tmps,defers:=[]} W)
 (kZ:∀(xs:List (Array Value)),Ok xs->∀(W:ι),aO O (w.heap.size+1) (aqx xs) w W->w.heap.size+1<=W.heap.size->Q .normal a W)
 (k4:∀(c:ϡ) (W:ι),aO O (w.heap.size+1) (Jx c) w W->w.heap.size+1<=W.heap.size->nG f (some l0) P c Q a W)
 (nW:∀(c:List Δ) (W:ι),aO O (w.heap.size+1) (Jp c) w W->w.heap.size+1<=W.heap.size->Q (.panic c) a W):
 nG f (some l0) P (Code.rangeFunc g ps assign body) Q a w:=
 Ic nV hg eg hit ub ud mA (run_enterLoop_inner S0 f a.tmps ps assign body) (κ _) (Κ w _) (by simp) ((μ _ _).alloc (κ _) _) O hO aqx Jx Jp lz h0 ph (λxs cR W G A _=>kZ xs cR W G A) (λc W G A _=>k4 c W G A) (λc W G A _=>nW c W G A)
theorem Ig {f:ϩ}{ua:Func}{P:ϛ}(nV:P.funcs[f]?=some ua){g:Η}{ps:Array Tmp}{assign body:ϡ}{Q:ϧ->Ϙ->ι->Prop}{a:Ϙ}{w:ι}
 {gf:Nat}{lb:Array Value}{Ok:List (Array Value)->Prop}(hg:a.eval g=.func (.func gf) #[] lb)(eg:∀args w,(callFunc gf args).run P w=.ok (.enter gf args) w)
 {R:ak}{w0:ι}(hit:pQ P gf lb Ok R w0)(ub:w0.heap.size<=w.heap.size)(ud:∀k,R k->w.heap[k]?=w0.heap[k]?)(mA:∀k,R k->k<w.heap.size)
 (O:ak)(hO:∀k,O k->¬R k)(aqx:List (Array Value)->aQ)(Jx:ϡ->aQ)(Jp:List Δ->aQ)(lz:∀xs,Ok xs->∀x∈xs,x.size=ps.size)(h0:On O (aqx []) w)
 (ph:∀(l:Nat) (i:List (Array Value)) (x:Array Value),(∃gi,Ok (i++x::gi))->∀(W:ι) (D:ak),aj O w W->(w.heap.size+1)+1<=W.heap.size->(∀k,O k->D k)->(∀k,D k->O k\/(w.heap.size+1)+1<=k)->On D (aqx i) W->
  ∀aqy:Ϙ->ι->Prop,(∀a1 W1 D1,Below W.heap.size W W1->(∀k,D1 k->D k\/W.heap.size<=k)->(∀k,D k->D1 k)->(∀k,D1 k->k<W1.heap.size)->J2 f P O w (w.heap.size+1) body (aqx (i++[x])) Jx Jp a1 D1 W1->aqy a1 W1)->
  assign.wpIn (Fence.wide.inRound l) 0 P (Exit.then aqy (λ_ _ _=>False)) {tmps:=(ps.zip x).foldl (λt (p,v)=>t.setIfInBounds p v) a.tmps,defers:=[]} W)
 (kZ:∀(xs:List (Array Value)),Ok xs->∀(W:ι),aO O (w.heap.size+2) (aqx xs) w W->w.heap.size+2<=W.heap.size->W.heap[w.heap.size]?=some (.deferred (some []))->Q .normal {a with defers:={target:=.collected w.heap.size,args:=#[]}::a.defers} W)
 (k4:∀(c:ϡ) (W:ι),aO O (w.heap.size+2) (Jx c) w W->w.heap.size+2<=W.heap.size->W.heap[w.heap.size]?=some (.deferred (some []))->c.wpIn Fence.wide 0 P Q {a with defers:={target:=.collected w.heap.size,args:=#[]}::a.defers} W)
 (nW:∀(c:List Δ) (W:ι),aO O (w.heap.size+2) (Jp c) w W->w.heap.size+2<=W.heap.size->W.heap[w.heap.size]?=some (.deferred (some []))->Q (.panic c) {a with defers:={target:=.collected w.heap.size,args:=#[]}::a.defers} W):
 vi f P (Code.rangeFunc g ps assign body) Q a w:=by
 obtain⟨rec,fV⟩:∃rec:Loop,rec={state:=.ready,pending:=none,fn:=f,tmps:=a.tmps,params:=ps,assign,body,defers:=w.heap.size}:=⟨_,rfl⟩;obtain⟨W1,wK⟩:∃W1,(w.alloc (.deferred (some []))).alloc (.loop rec)=W1:=⟨_,rfl⟩;have zI:W1.heap[w.heap.size+1]?=some (.loop rec):=by
  rw[<-wK];have:=Κ (w.alloc (.deferred (some []))) (.loop rec);rwa [World.size_alloc]at this
 have fh:W1.heap[w.heap.size]?=some (.deferred (some [])):=by
  rw[<-wK];exact(φ _ _ _ (by simp)).trans (Κ w _)
 have Oy:W1.heap.size=w.heap.size+1+1:=by rw[<-wK];simp
 have wJ:Below w.heap.size w W1:=by
  rw[<-wK];exact((μ _ w).alloc (κ _) _).alloc (by simp) _
 have rK:(ϣ f a.tmps ps assign body none).run P w=.ok (w.heap.size+1,[{target:=.collected w.heap.size,args:=#[]}]) W1:=by rw[<-wK,fV];exact run_enterLoop_outer _ _ _ _ _
 rw[fV]at zI;exact Ic nV hg eg hit ub ud mA rK (by omega) zI Oy wJ O hO aqx Jx Jp lz h0 ph (λxs cR W G A M=>kZ xs cR W G A ((M w.heap.size (κ _) (by omega)).trans fh)) (λc W G A M=>bQ (k4 c W G A ((M w.heap.size (κ _) (by omega)).trans fh))) (λc W G A M=>nW c W G A ((M w.heap.size (κ _) (by omega)).trans fh))
end
section
variable {F:Fence} {nF:Nat} {P:ϛ} {ops:Array ϝ} {Q:ϧ->Ϙ->ι->Prop} {o:ϝ} {rest:List ϝ} {a:Ϙ} {w:ι}
theorem ix {zs:List Value}{T:ϋ}(hF:∀f,F.fn f)(hd:∀c,o.op≠ .defer c)(rH:o.guard=none)(hr:(execOp a.eval o).run P w=.ok (.value (ε (some ⟨w.heap.size,0,none⟩))) (w.alloc (θ zs.toArray T)))
 (hK:∀I,X I w.heap.size zs T->I.heap.size=w.heap.size+1->Below w.heap.size w I->wpListIn F nF P ops Q rest (a.put o.dst (ε (some ⟨w.heap.size,0,none⟩))) I):wpListIn F nF P ops Q (o::rest) a w:=
 wpListIn_plain rH λ_ Y=>bz hF hd hr (Y _ _ (hK _ (X.new w zs T) (by simp) ((μ _ _).alloc (κ _) _)))
theorem iy {T:ϋ}{x y:Η}{b:Nat}{vs cs:List Value}(hF:∀f,F.fn f)(rH:o.guard=none)(ho:o.op=.store T x y)(N:a.eval x=ε (some ⟨b,0,none⟩))(hy:a.eval y=.agg vs.toArray)(aC:X w b cs T)(K:cs.length=vs.length)
 (hi:(P.info? T).map (·.size)=some vs.length)(G:∀v∈vs,v.oneCell'=true)(hK:∀I,X I b vs T->aj (λk=>k=b) w I->wpListIn F nF P ops Q rest (a.put o.dst undef) I):wpListIn F nF P ops Q (o::rest) a w:=by
 have vj:=A2 (vs:=vs) (o:=0) aC;rw[uf vs cs K]at vj;refine wpListIn_plain rH λaqy Y=>?_;unfold Oper.wpIn;refine⟨λf _=>hF f,?_⟩;rw[Oper.semAt_plain F _ _ (λc e=>by rw[ho]at e;cases e)];unfold execOp;simp only[ho,N,hy,Instr.storeAt,Instr.sureAddr,Sem.run_bind,Sem.run_pure,Result.andThen_ok,run_storeVar_mid w b 0 T vs.toArray (rL aC (by rw[Α];exact K.symm)) (by rw[Α];exact hi) (all_oneCell_toArray G)];exact Y _ _ (hK _ vj (Cq b 0 vs w))
end
end Go.Proofs.YtchdfdmjihnhkaaGreatDoor
