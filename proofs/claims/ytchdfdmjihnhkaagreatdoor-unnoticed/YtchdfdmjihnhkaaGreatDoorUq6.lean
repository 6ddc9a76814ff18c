import Derived.Test.YtchdfdmjihnhkaaGreatDoorUq5
import Derived.Lib.QuietBelowIn
import Derived.Sort.BigQuietIn
import Derived.Sort.CutIn
import Derived.WideKeyEntry
import Derived.DeepKeys4
import Derived.Maps.Views
import Derived.Shelf.RegionOpen
import Derived.OrdersIn
import Derived.RangeFuncCalls
set_option maxRecDepth 100000
set_option maxHeartbeats 8000000
open Go.IntKind renaming i64->Z
open Go.Value renaming int->V,pointer->ε,slice->ζ,string->η
open Go.Ending renaming returned->δ
open Go.Obj renaming cells->θ
open Go renaming World->ι,Calls->Ι,Act->Ο,Ending->Ρ,Oper->Τ,TypeId->Ω,FuncId->ϗ,Operand->Ϙ
open Nat renaming le_refl->κ,le_trans->φ,lt_of_lt_of_le->χ,reduceSub->Λ,reduceAdd->Μ
open Go.RowKit.Below renaming refl->μ
open Go.World renaming size_setCell->ν,size_alloc->ό
open Go.MapKept renaming run_getObj_map->ξ,run_setObj_map->Δ
open Go.Region renaming binds->ο,wanted->ω
open List renaming length_cons->π,append_toArray->υ,size_toArray->Α,push_toArray->Β,getElem?_eq_getElem->Γ,cons_append->Ε,nil_append->Ζ,length_nil->Η,length_append->Ν,getElem?_append_left->Φ,mem_cons->Χ,mem_of_getElem?->ϊ,not_mem_nil->ύ
open Array renaming replicate_zero->ρ,replicate_succ->τ,getElem?_eq_getElem->Υ,length_toList->ϋ,replicate->Ϗ,getD->ϙ
open Int renaming tmod_eq_emod_of_nonneg->ψ
open Go.Result renaming andThen->Θ
open Go.Fence renaming wide->Κ
open Go.Instr renaming loadAt->Ξ,lookup->Ψ,mapUpdate->ώ
namespace Go.Proofs.YtchdfdmjihnhkaaGreatDoor
open Tryz
open Go.RowKit
section
open Go.Sort
def aS (r:aE)(s:Int):aE:=
 if 0<r.mds.length\/0<r.wks.length then r
 else if r.fq=1 then{r with wks:=[(0,(s+719470)%7)]}
 else if r.fq=2 then{r with mds:=[ag.aA s]}
 else if r.fq=3 then(if r.ms.length=0 then{r with mds:=[ag.aA s],ms:=[ag.ofM s]}else{r with mds:=[ag.aA s]})
 else r
def LB (m md wk pl:Value):ak:=λk=>m.ownBlock=some k\/md.ownBlock=some k\/wk.ownBlock=some k\/pl.ownBlock=some k
theorem cr.keep {w I:ι}{v:Value}{zs:List Int}(h:cr w v zs)(Y:∀k,v.ownBlock=some k->I.heap[k]?=w.heap[k]?):cr I v zs:=
 h.imp id λ⟨g,G,A⟩=>⟨g,G,(Y g (by rw[G];rfl)).trans A⟩
theorem gy.keep {w I:ι}{v:Value}{zs:List (Int×Int)}(h:gy w v zs)(Y:∀k,v.ownBlock=some k->I.heap[k]?=w.heap[k]?):gy I v zs:=
 h.imp id λ⟨g,G,A⟩=>⟨g,G,(Y g (by rw[G];rfl)).trans A⟩
theorem eE.keep {w I:ι}{r:aE}{m md wk pl:Value}(h:eE w r m md wk pl)(Y:∀k,LB m md wk pl k->I.heap[k]?=w.heap[k]?):eE I r m md wk pl:=
 ⟨h.ms.keep λk e=>Y k (.inl e),h.mds.keep λk e=>Y k (.inr (.inl e)),h.wks.keep λk e=>Y k (.inr (.inr (.inl e))),h.pls.keep λk e=>Y k (.inr (.inr (.inr e)))⟩
theorem cr.fO {w:ι}{v:Value}{zs:List Int}(h:cr w v zs){k:Nat}(e:v.ownBlock=some k):k<w.heap.size:=by
 rcases h with⟨rfl,_⟩|⟨g,rfl,A⟩
 ·cases e
 cases e;exact A.lt
theorem gy.fO {w:ι}{v:Value}{zs:List (Int×Int)}(h:gy w v zs){k:Nat}(e:v.ownBlock=some k):k<w.heap.size:=by
 rcases h with⟨rfl,_⟩|⟨g,rfl,A⟩
 ·cases e
 cases e;exact A.lt
theorem eE.fO {w:ι}{r:aE}{m md wk pl:Value}(h:eE w r m md wk pl){k:Nat}(e:LB m md wk pl k):k<w.heap.size:=by
 rcases e with e|e|e|e
 ·exact h.ms.fO e
 ·exact h.mds.fO e
 ·exact h.wks.fO e
 exact h.pls.fO e
theorem Jc {r:aE}(h:ei r)(s:Int):ei (aS r s):=by
 unfold aS;split
 ·exact h
 split
 ·exact{h with wks:=(by simp),ord:=(by intro p J;simp at J;subst J;simp)}
 split
 ·exact{h with mds:=(by simp)}
 split
 ·split
  ·exact{h with mds:=(by simp),ms:=(by simp)}
  exact{h with mds:=(by simp)}
 exact h
def Jd (w:ι)(r:aE)(s:Int)(tx:ByteArray)(m md wk pl:Value):Ρ->ι->Prop:=λe I=>
 ∃m' fP fQ,e=δ (bG (aS r s).fq (aS r s).iv (aS r s).ct (aS r s).un m' fP fQ pl (aS r s).ws tx)/\eE I (aS r s) m' fP fQ pl/\Below w.heap.size w I/\(∀k,LB m' fP fQ pl k->LB m md wk pl k\/w.heap.size<=k)
theorem G4 (r:aE)(m md wk pl:Value)(tx:ByteArray)(s:Int)(w:ι)(K:eE w r m md wk pl)(ho:ei r)(s0:0<=s)(s1:s<=84010):
 Ι prog 216 #[bG r.fq r.iv r.ct r.un m md wk pl r.ws tx,aZ s] w (Jd w r s tx m md wk pl):=by
 have kh:=ho.UY;have Uq:=ho.UZ;obtain⟨a1,S⟩:=K.ms.form;obtain⟨a2,e2⟩:=K.mds.form;obtain⟨a3,e3⟩:=K.wks.form;obtain⟨a4,e4⟩:=K.pls.form;have hD:Hid (∀W,Ι prog 244 #[aZ s] W λe I=>e=δ (V Z ((s+719470)%7))/\Below W.heap.size W I):=H λW=>AK s W (by omega) (by omega);have fin:∀(m' fP fQ:Value) (r':aE) (e:Ρ) (W':ι),aS r s=r'->e=δ (bG r'.fq r'.iv r'.ct r'.un m' fP fQ pl r'.ws tx)->eE W' r' m' fP fQ pl->Below w.heap.size w W'->(∀k,LB m' fP fQ pl k->LB m md wk pl k\/w.heap.size<=k)->Jd w r s tx m md wk pl e W':=
  λm' fP fQ r' e W' G A M h4 h5=>⟨m',fP,fQ,by rw[G];exact A,by rw[G];exact M,h4,h5⟩
 have hA:Hid (∀(h:0<r.mds.length\/0<r.wks.length\/r.fq=0) (e:Ρ) (W':ι),e=δ (bG r.fq r.iv r.ct r.un m md wk pl r.ws tx)->Below w.heap.size w W'->Jd w r s tx m md wk pl e W'):=H λh e W' he U=>
  fin m md wk r e W' (by unfold aS;split;rfl;rw[if_neg (by omega),if_neg (by omega),if_neg (by omega)]) he (K.on U) U λk Y=>.inl Y
 have G:Hid (r.mds.length=0->r.wks.length=0->r.fq=1->∀(g:Nat) (e:Ρ) (W':ι),w.heap.size<=g->X W' g [V Z 0,V Z ((s+719470)%7)] 191->e=δ (bG r.fq r.iv r.ct r.un m md (ζ (some ⟨g,0,none⟩) 1 1) pl r.ws tx)->Below w.heap.size w W'->Jd w r s tx m md wk pl e W'):=H λh h' hq g e W' hg aC he U=>
  fin m md (ζ (some ⟨g,0,none⟩) 1 1) {r with wks:=[(0,(s+719470)%7)]} e W' (by unfold aS;rw[if_neg (by omega),if_pos hq]) he ⟨K.ms.on U,K.mds.on U,.inr ⟨g,rfl,aC⟩,K.pls.on U⟩ U λk Y=>by
   rcases Y with Y|Y|Y|Y
   ·exact .inl (.inl Y)
   ·exact .inl (.inr (.inl Y))
   ·cases Y;exact .inr hg
   exact .inl (.inr (.inr (.inr Y)))
 have A:Hid (r.mds.length=0->r.wks.length=0->(r.fq=2\/r.fq=3/\r.ms.length≠0)->∀(g:Nat) (e:Ρ) (W':ι),w.heap.size<=g->X W' g [V Z (ag.aA s)] 3->e=δ (bG r.fq r.iv r.ct r.un m (ζ (some ⟨g,0,none⟩) 1 1) wk pl r.ws tx)->Below w.heap.size w W'->Jd w r s tx m md wk pl e W'):=H λh h' hq g e W' hg aC he U=>
  fin m (ζ (some ⟨g,0,none⟩) 1 1) wk {r with mds:=[ag.aA s]} e W' (by
   unfold aS;rw[if_neg (by omega),if_neg (by omega)];rcases hq with hq|⟨hq,hn⟩
   ·rw[if_pos hq]
   ·rw[if_neg (by omega),if_pos hq,if_neg hn]) he ⟨K.ms.on U,.inr ⟨g,rfl,aC⟩,K.wks.on U,K.pls.on U⟩ U λk Y=>by
   rcases Y with Y|Y|Y|Y
   ·exact .inl (.inl Y)
   ·cases Y;exact .inr hg
   ·exact .inl (.inr (.inr (.inl Y)))
   exact .inl (.inr (.inr (.inr Y)))
 have M:Hid (r.mds.length=0->r.wks.length=0->r.fq=3->r.ms.length=0->∀(g g':Nat) (e:Ρ) (W':ι),w.heap.size<=g->w.heap.size<=g'->X W' g [V Z (ag.aA s)] 3->X W' g' [V Z (ag.ofM s)] 3->e=δ (bG r.fq r.iv r.ct r.un (ζ (some ⟨g',0,none⟩) 1 1) (ζ (some ⟨g,0,none⟩) 1 1) wk pl r.ws tx)->Below w.heap.size w W'->Jd w r s tx m md wk pl e W'):=H λh h' hq hn g g' e W' hg KO aC tp he U=>
  fin (ζ (some ⟨g',0,none⟩) 1 1) (ζ (some ⟨g,0,none⟩) 1 1) wk {r with mds:=[ag.aA s],ms:=[ag.ofM s]} e W' (by
   unfold aS;rw[if_neg (by omega),if_neg (by omega),if_neg (by omega),if_pos hq,if_pos hn]) he ⟨.inr ⟨g',rfl,tp⟩,.inr ⟨g,rfl,aC⟩,K.wks.on U,K.pls.on U⟩ U λk Y=>by
   rcases Y with Y|Y|Y|Y
   ·cases Y;exact .inr KO
   ·cases Y;exact .inr hg
   ·exact .inl (.inr (.inr (.inl Y)))
   exact .inl (.inr (.inr (.inr Y)))
 clear fin K ho;generalize Jd w r s tx m md wk pl=Q at *
 generalize r.ms.length=n1 at *
 generalize r.mds.length=n2 at *
 generalize r.wks.length=n3 at *
 generalize r.pls.length=n4 at *
 generalize r.fq=fq at *
 generalize r.iv=iv at *
 generalize r.ct=ct at *
 generalize r.un=un at *
 generalize r.ws=ws at *
 subst S e2 e3 e4;unfold aZ cV bG at *
 have OB:0<=(s+719470)%7/\(s+719470)%7<=6:=by omega
 generalize(s+719470)%7=wd at *
 have r0:=kx w [V Z fq,V Z iv,V Z ct,V Z un,ζ a1 n1 n1,ζ a2 n2 n2,ζ a3 n3 n3,ζ a4 n4 n4,V Z ws,η tx] 96 (θ #[V Z (ag.au s),V Z (ag.ofM s),V Z (ag.aA s)] 88) (θ #[V Z 0,V Z 0,V Z 0,V Z 0,ζ none 0 0,ζ none 0 0,ζ none 0 0,ζ none 0 0,V Z 0,η ⟨#[]⟩] 96);have r1:=ky w (θ #[V Z fq,V Z iv,V Z ct,V Z un,ζ a1 n1 n1,ζ a2 n2 n2,ζ a3 n3 n3,ζ a4 n4 n4,V Z ws,η tx] 96) [V Z (ag.au s),V Z (ag.ofM s),V Z (ag.aA s)] 88 (θ #[V Z 0,V Z 0,V Z 0,V Z 0,ζ none 0 0,ζ none 0 0,ζ none 0 0,ζ none 0 0,V Z 0,η ⟨#[]⟩] 96);have r2:=kz w (θ #[V Z fq,V Z iv,V Z ct,V Z un,ζ a1 n1 n1,ζ a2 n2 n2,ζ a3 n3 n3,ζ a4 n4 n4,V Z ws,η tx] 96) (θ #[V Z (ag.au s),V Z (ag.ofM s),V Z (ag.aA s)] 88) [V Z 0,V Z 0,V Z 0,V Z 0,ζ none 0 0,ζ none 0 0,ζ none 0 0,ζ none 0 0,V Z 0,η ⟨#[]⟩] 96;have al:=gJ w (θ #[V Z fq,V Z iv,V Z ct,V Z un,ζ a1 n1 n1,ζ a2 n2 n2,ζ a3 n3 n3,ζ a4 n4 n4,V Z ws,η tx] 96) (θ #[V Z (ag.au s),V Z (ag.ofM s),V Z (ag.aA s)] 88) (θ #[V Z 0,V Z 0,V Z 0,V Z 0,ζ none 0 0,ζ none 0 0,ζ none 0 0,ζ none 0 0,V Z 0,η ⟨#[]⟩] 96);have bA:(((w.alloc (θ #[V Z fq,V Z iv,V Z ct,V Z un,ζ a1 n1 n1,ζ a2 n2 n2,ζ a3 n3 n3,ζ a4 n4 n4,V Z ws,η tx] 96)).alloc (θ #[V Z (ag.au s),V Z (ag.ofM s),V Z (ag.aA s)] 88)).alloc (θ #[V Z 0,V Z 0,V Z 0,V Z 0,ζ none 0 0,ζ none 0 0,ζ none 0 0,ζ none 0 0,V Z 0,η ⟨#[]⟩] 96)).heap.size>=w.heap.size+3:=by simp
 go_enter func216,ntmps216;go_upto_region 1 with fail;generalize((w.alloc (θ #[V Z fq,V Z iv,V Z ct,V Z un,ζ a1 n1 n1,ζ a2 n2 n2,ζ a3 n3 n3,ζ a4 n4 n4,V Z ws,η tx] 96)).alloc (θ #[V Z (ag.au s),V Z (ag.ofM s),V Z (ag.aA s)] 88)).alloc (θ #[V Z 0,V Z 0,V Z 0,V Z 0,ζ none 0 0,ζ none 0 0,ζ none 0 0,ζ none 0 0,V Z 0,η ⟨#[]⟩] 96)=W at *
 by_cases hmd:0<n2
 ·have Vf:=H (hA.out (.inl hmd));clear hA G A M hD;have aoC:(0:Int)<n2:=by omega
  have si:=r0;have bS:=r2;have oF:=al;clear r0 r1 r2;obtain⟨g0,g1,g2,g3,g4,g5,g6,g7,g8,g9⟩:=ca si;obtain⟨z0,z1,z2,z3,z4,z5,z6,z7,z8,z9⟩:=ca bS;have y0:=bS.free (k:=0);have y1:=bS.free (k:=1);have y2:=bS.free (k:=2);have y3:=bS.free (k:=3);have y4:=bS.free (k:=4);have y5:=bS.free (k:=5);have y6:=bS.free (k:=6);have y7:=bS.free (k:=7);have y8:=bS.free (k:=8);have y9:=bS.free (k:=9);go_wp2_with fail;exact bodyPost_ret (v:=.agg #[V Z fq,V Z iv,V Z ct,V Z un,ζ a1 n1 n1,ζ a2 n2 n2,ζ a3 n3 n3,ζ a4 n4 n4,V Z ws,η tx]) (by simp[results,results216,go_sem,z0,z1,z2,z3,z4,z5,z6,z7,z8,z9]) rfl (Vf.out _ _ rfl ((((((((((oF.setCell (by simp;omega) _).setCell (by simp;omega) _).setCell (by simp;omega) _).setCell (by simp;omega) _).setCell (by simp;omega) _).setCell (by simp;omega) _).setCell (by simp;omega) _).setCell (by simp;omega) _).setCell (by simp;omega) _).setCell (by simp;omega) _))
 obtain rfl:n2=0:=by omega
 clear hmd;by_cases Mu:0<n3
 ·have Vf:=H (hA.out (.inr (.inl Mu)));clear hA G A M hD;have aoD:(0:Int)<n3:=by omega
  have si:=r0;have bS:=r2;have oF:=al;clear r0 r1 r2;obtain⟨g0,g1,g2,g3,g4,g5,g6,g7,g8,g9⟩:=ca si;obtain⟨z0,z1,z2,z3,z4,z5,z6,z7,z8,z9⟩:=ca bS;have y0:=bS.free (k:=0);have y1:=bS.free (k:=1);have y2:=bS.free (k:=2);have y3:=bS.free (k:=3);have y4:=bS.free (k:=4);have y5:=bS.free (k:=5);have y6:=bS.free (k:=6);have y7:=bS.free (k:=7);have y8:=bS.free (k:=8);have y9:=bS.free (k:=9);go_wp2_with fail;exact bodyPost_ret (v:=.agg #[V Z fq,V Z iv,V Z ct,V Z un,ζ a1 n1 n1,ζ a2 0 0,ζ a3 n3 n3,ζ a4 n4 n4,V Z ws,η tx]) (by simp[results,results216,go_sem,z0,z1,z2,z3,z4,z5,z6,z7,z8,z9]) rfl (Vf.out _ _ rfl ((((((((((oF.setCell (by simp;omega) _).setCell (by simp;omega) _).setCell (by simp;omega) _).setCell (by simp;omega) _).setCell (by simp;omega) _).setCell (by simp;omega) _).setCell (by simp;omega) _).setCell (by simp;omega) _).setCell (by simp;omega) _).setCell (by simp;omega) _))
 obtain rfl:n3=0:=by omega
 clear Mu;rcases(by omega:fq=0\/fq=1\/fq=2\/fq=3)with rfl|rfl|rfl|rfl
 ·have Vf:=H (hA.out (.inr (.inr rfl)));clear hA G A M hD;have si:=r0;have bS:=r2;have oF:=al;clear r0 r1 r2;obtain⟨g0,g1,g2,g3,g4,g5,g6,g7,g8,g9⟩:=ca si;obtain⟨z0,z1,z2,z3,z4,z5,z6,z7,z8,z9⟩:=ca bS;have y0:=bS.free (k:=0);have y1:=bS.free (k:=1);have y2:=bS.free (k:=2);have y3:=bS.free (k:=3);have y4:=bS.free (k:=4);have y5:=bS.free (k:=5);have y6:=bS.free (k:=6);have y7:=bS.free (k:=7);have y8:=bS.free (k:=8);have y9:=bS.free (k:=9);go_wp2_with fail;exact bodyPost_ret (v:=.agg #[V Z 0,V Z iv,V Z ct,V Z un,ζ a1 n1 n1,ζ a2 0 0,ζ a3 0 0,ζ a4 n4 n4,V Z ws,η tx]) (by simp[results,results216,go_sem,z0,z1,z2,z3,z4,z5,z6,z7,z8,z9]) rfl (Vf.out _ _ rfl ((((((((((oF.setCell (by simp;omega) _).setCell (by simp;omega) _).setCell (by simp;omega) _).setCell (by simp;omega) _).setCell (by simp;omega) _).setCell (by simp;omega) _).setCell (by simp;omega) _).setCell (by simp;omega) _).setCell (by simp;omega) _).setCell (by simp;omega) _))
 ·have wx:=H (G.out rfl rfl rfl);clear hA G A M;obtain⟨g0,g1,g2,g3,g4,g5,g6,g7,g8,g9⟩:=ca r0;obtain⟨c0,c1,c2,_,_,_⟩:=bW r1;go_wp2_with fail;refine(hD.out _).mono ?_;rintro e w3 ⟨rfl,aP⟩;replace r0:=r0.on aP;replace r2:=r2.on aP;replace al:=al.trans (aP.mono al.size);replace bA:w.heap.size+3<=w3.heap.size:=by have:=aP.size;omega
  clear aP g0 g1 g2 g3 g4 g5 g6 g7 g8 g9 c0 c1 c2 r1;have cD:Below w3.heap.size w3 (w3.alloc (θ #[V Z 0,V Z wd] 191)):=(μ _ _).alloc (κ _) _;have rN:X (w3.alloc (θ #[V Z 0,V Z wd] 191)) w3.heap.size [V Z 0,V Z wd] 191:=X.new w3 [V Z 0,V Z wd] 191;replace r0:=r0.on cD;replace r2:=r2.on cD;replace al:=al.trans (cD.mono al.size);have c6:=r0.cell (k:=6) rfl;have f6:=r0.free (k:=6);go_upto_region 12 with fail;clear c6 f6;have si:X ((w3.alloc (θ #[V Z 0,V Z wd] 191)).setCell ⟨w.heap.size,6,none⟩ (ζ (some ⟨w3.heap.size,0,none⟩) 1 1)) w.heap.size [V Z 1,V Z iv,V Z ct,V Z un,ζ a1 n1 n1,ζ a2 0 0,ζ (some ⟨w3.heap.size,0,none⟩) 1 1,ζ a4 n4 n4,V Z ws,η tx] 96:=r0.set (k:=6) _;have bS:=r2.other (b:=w.heap.size) (k:=6) (by omega) (ζ (some ⟨w3.heap.size,0,none⟩) 1 1);have B8:=rN.other (b:=w.heap.size) (k:=6) (by omega) (ζ (some ⟨w3.heap.size,0,none⟩) 1 1);have oF:=al.setCell (p:=⟨w.heap.size,6,none⟩) (κ _) (ζ (some ⟨w3.heap.size,0,none⟩) 1 1);generalize(w3.alloc (θ #[V Z 0,V Z wd] 191)).setCell ⟨w.heap.size,6,none⟩ (ζ (some ⟨w3.heap.size,0,none⟩) 1 1)=WZ at *
  clear r0 r2 rN al cD;obtain⟨g0,g1,g2,g3,g4,g5,g6,g7,g8,g9⟩:=ca si;obtain⟨z0,z1,z2,z3,z4,z5,z6,z7,z8,z9⟩:=ca bS;have y0:=bS.free (k:=0);have y1:=bS.free (k:=1);have y2:=bS.free (k:=2);have y3:=bS.free (k:=3);have y4:=bS.free (k:=4);have y5:=bS.free (k:=5);have y6:=bS.free (k:=6);have y7:=bS.free (k:=7);have y8:=bS.free (k:=8);have y9:=bS.free (k:=9);go_wp2_with fail;exact bodyPost_ret (v:=.agg #[V Z 1,V Z iv,V Z ct,V Z un,ζ a1 n1 n1,ζ a2 0 0,ζ (some ⟨w3.heap.size,0,none⟩) 1 1,ζ a4 n4 n4,V Z ws,η tx]) (by simp[results,results216,go_sem,z0,z1,z2,z3,z4,z5,z6,z7,z8,z9]) rfl (wx.out _ _ _ (by omega) ((((((((((B8.other (by omega) _).other (by omega) _).other (by omega) _).other (by omega) _).other (by omega) _).other (by omega) _).other (by omega) _).other (by omega) _).other (by omega) _).other (by omega) _) rfl ((((((((((oF.setCell (by simp;omega) _).setCell (by simp;omega) _).setCell (by simp;omega) _).setCell (by simp;omega) _).setCell (by simp;omega) _).setCell (by simp;omega) _).setCell (by simp;omega) _).setCell (by simp;omega) _).setCell (by simp;omega) _).setCell (by simp;omega) _))
 ·have vf:=H (A.out rfl rfl (.inl rfl));clear hA G A M hD;obtain⟨g0,g1,g2,g3,g4,g5,g6,g7,g8,g9⟩:=ca r0;obtain⟨c0,c1,c2,_,_,_⟩:=bW r1;have cD:Below W.heap.size W (W.alloc (θ #[V Z (ag.aA s)] 3)):=(μ _ _).alloc (κ _) _;have rN:X (W.alloc (θ #[V Z (ag.aA s)] 3)) W.heap.size [V Z (ag.aA s)] 3:=X.new W [V Z (ag.aA s)] 3;have vE:=r0.on cD;have Je:=r1.on cD;have Jf:=r2.on cD;replace al:=al.trans (cD.mono al.size);have c6:=vE.cell (k:=5) rfl;have f6:=vE.free (k:=5);go_upto_region 12 with fail;clear c6 f6 g0 g1 g2 g3 g4 g5 g6 g7 g8 g9 c0 c1 c2 r0 r1 r2;have si:X ((W.alloc (θ #[V Z (ag.aA s)] 3)).setCell ⟨w.heap.size,5,none⟩ (ζ (some ⟨W.heap.size,0,none⟩) 1 1)) w.heap.size [V Z 2,V Z iv,V Z ct,V Z un,ζ a1 n1 n1,ζ (some ⟨W.heap.size,0,none⟩) 1 1,ζ a3 0 0,ζ a4 n4 n4,V Z ws,η tx] 96:=vE.set (k:=5) _;have rZ1:=Je.other (b:=w.heap.size) (k:=5) (by omega) (ζ (some ⟨W.heap.size,0,none⟩) 1 1);have bS:=Jf.other (b:=w.heap.size) (k:=5) (by omega) (ζ (some ⟨W.heap.size,0,none⟩) 1 1);have B8:=rN.other (b:=w.heap.size) (k:=5) (by omega) (ζ (some ⟨W.heap.size,0,none⟩) 1 1);have oF:=al.setCell (p:=⟨w.heap.size,5,none⟩) (κ _) (ζ (some ⟨W.heap.size,0,none⟩) 1 1);have afa:W.heap.size<((W.alloc (θ #[V Z (ag.aA s)] 3)).setCell ⟨w.heap.size,5,none⟩ (ζ (some ⟨W.heap.size,0,none⟩) 1 1)).heap.size:=by rw[ν];simp
  generalize(W.alloc (θ #[V Z (ag.aA s)] 3)).setCell ⟨w.heap.size,5,none⟩ (ζ (some ⟨W.heap.size,0,none⟩) 1 1)=WZ at *
  clear vE Je Jf rN al cD;obtain⟨g0,g1,g2,g3,g4,g5,g6,g7,g8,g9⟩:=ca si;obtain⟨z0,z1,z2,z3,z4,z5,z6,z7,z8,z9⟩:=ca bS;have y0:=bS.free (k:=0);have y1:=bS.free (k:=1);have y2:=bS.free (k:=2);have y3:=bS.free (k:=3);have y4:=bS.free (k:=4);have y5:=bS.free (k:=5);have y6:=bS.free (k:=6);have y7:=bS.free (k:=7);have y8:=bS.free (k:=8);have y9:=bS.free (k:=9);go_wp2_with fail;exact bodyPost_ret (v:=.agg #[V Z 2,V Z iv,V Z ct,V Z un,ζ a1 n1 n1,ζ (some ⟨W.heap.size,0,none⟩) 1 1,ζ a3 0 0,ζ a4 n4 n4,V Z ws,η tx]) (by simp[results,results216,go_sem,z0,z1,z2,z3,z4,z5,z6,z7,z8,z9]) rfl (vf.out _ _ _ (by omega) ((((((((((B8.other (by omega) _).other (by omega) _).other (by omega) _).other (by omega) _).other (by omega) _).other (by omega) _).other (by omega) _).other (by omega) _).other (by omega) _).other (by omega) _) rfl ((((((((((oF.setCell (by simp;omega) _).setCell (by simp;omega) _).setCell (by simp;omega) _).setCell (by simp;omega) _).setCell (by simp;omega) _).setCell (by simp;omega) _).setCell (by simp;omega) _).setCell (by simp;omega) _).setCell (by simp;omega) _).setCell (by simp;omega) _))
 by_cases yN:n1=0
 case neg=>
  have vf:=H (A.out rfl rfl (.inr ⟨rfl,yN⟩));clear hA G A M hD;have acW:((n1:Int)==0)=false:=by simpa using yN
  obtain⟨g0,g1,g2,g3,g4,g5,g6,g7,g8,g9⟩:=ca r0;obtain⟨c0,c1,c2,_,_,_⟩:=bW r1;have cD:Below W.heap.size W (W.alloc (θ #[V Z (ag.aA s)] 3)):=(μ _ _).alloc (κ _) _;have rN:X (W.alloc (θ #[V Z (ag.aA s)] 3)) W.heap.size [V Z (ag.aA s)] 3:=X.new W [V Z (ag.aA s)] 3;have vE:=r0.on cD;have Je:=r1.on cD;have Jf:=r2.on cD;replace al:=al.trans (cD.mono al.size);have c6:=vE.cell (k:=5) rfl;have f6:=vE.free (k:=5);go_upto_region 10 with fail;clear c6 f6 g0 g1 g2 g3 g4 g5 g6 g7 g8 g9 c0 c1 c2 r0 r1 r2;have si:X ((W.alloc (θ #[V Z (ag.aA s)] 3)).setCell ⟨w.heap.size,5,none⟩ (ζ (some ⟨W.heap.size,0,none⟩) 1 1)) w.heap.size [V Z 3,V Z iv,V Z ct,V Z un,ζ a1 n1 n1,ζ (some ⟨W.heap.size,0,none⟩) 1 1,ζ a3 0 0,ζ a4 n4 n4,V Z ws,η tx] 96:=vE.set (k:=5) _;have rZ1:=Je.other (b:=w.heap.size) (k:=5) (by omega) (ζ (some ⟨W.heap.size,0,none⟩) 1 1);have bS:=Jf.other (b:=w.heap.size) (k:=5) (by omega) (ζ (some ⟨W.heap.size,0,none⟩) 1 1);have B8:=rN.other (b:=w.heap.size) (k:=5) (by omega) (ζ (some ⟨W.heap.size,0,none⟩) 1 1);have oF:=al.setCell (p:=⟨w.heap.size,5,none⟩) (κ _) (ζ (some ⟨W.heap.size,0,none⟩) 1 1);have afa:W.heap.size<((W.alloc (θ #[V Z (ag.aA s)] 3)).setCell ⟨w.heap.size,5,none⟩ (ζ (some ⟨W.heap.size,0,none⟩) 1 1)).heap.size:=by rw[ν];simp
  generalize(W.alloc (θ #[V Z (ag.aA s)] 3)).setCell ⟨w.heap.size,5,none⟩ (ζ (some ⟨W.heap.size,0,none⟩) 1 1)=WZ at *
  clear vE Je Jf rN al cD;obtain⟨g0,g1,g2,g3,g4,g5,g6,g7,g8,g9⟩:=ca si;obtain⟨z0,z1,z2,z3,z4,z5,z6,z7,z8,z9⟩:=ca bS;have y0:=bS.free (k:=0);have y1:=bS.free (k:=1);have y2:=bS.free (k:=2);have y3:=bS.free (k:=3);have y4:=bS.free (k:=4);have y5:=bS.free (k:=5);have y6:=bS.free (k:=6);have y7:=bS.free (k:=7);have y8:=bS.free (k:=8);have y9:=bS.free (k:=9);go_wp2_with fail;exact bodyPost_ret (v:=.agg #[V Z 3,V Z iv,V Z ct,V Z un,ζ a1 n1 n1,ζ (some ⟨W.heap.size,0,none⟩) 1 1,ζ a3 0 0,ζ a4 n4 n4,V Z ws,η tx]) (by simp[results,results216,go_sem,z0,z1,z2,z3,z4,z5,z6,z7,z8,z9]) rfl (vf.out _ _ _ (by omega) ((((((((((B8.other (by omega) _).other (by omega) _).other (by omega) _).other (by omega) _).other (by omega) _).other (by omega) _).other (by omega) _).other (by omega) _).other (by omega) _).other (by omega) _) rfl ((((((((((oF.setCell (by simp;omega) _).setCell (by simp;omega) _).setCell (by simp;omega) _).setCell (by simp;omega) _).setCell (by simp;omega) _).setCell (by simp;omega) _).setCell (by simp;omega) _).setCell (by simp;omega) _).setCell (by simp;omega) _).setCell (by simp;omega) _))
 case pos=>
  have ZZ:=H (M.out rfl rfl rfl yN);clear hA G A M hD;subst yN;obtain⟨g0,g1,g2,g3,g4,g5,g6,g7,g8,g9⟩:=ca r0;obtain⟨c0,c1,c2,_,_,_⟩:=bW r1;have cD:Below W.heap.size W (W.alloc (θ #[V Z (ag.aA s)] 3)):=(μ _ _).alloc (κ _) _;have rN:X (W.alloc (θ #[V Z (ag.aA s)] 3)) W.heap.size [V Z (ag.aA s)] 3:=X.new W [V Z (ag.aA s)] 3;have vE:=r0.on cD;have Je:=r1.on cD;have Jf:=r2.on cD;replace al:=al.trans (cD.mono al.size);have c6:=vE.cell (k:=5) rfl;have f6:=vE.free (k:=5);go_upto_region 10 with fail;clear c6 f6 g0 g1 g2 g3 g4 g5 g6 g7 g8 g9 c0 c1 c2 r0 r1 r2;have si:X ((W.alloc (θ #[V Z (ag.aA s)] 3)).setCell ⟨w.heap.size,5,none⟩ (ζ (some ⟨W.heap.size,0,none⟩) 1 1)) w.heap.size [V Z 3,V Z iv,V Z ct,V Z un,ζ a1 0 0,ζ (some ⟨W.heap.size,0,none⟩) 1 1,ζ a3 0 0,ζ a4 n4 n4,V Z ws,η tx] 96:=vE.set (k:=5) _;have rZ1:=Je.other (b:=w.heap.size) (k:=5) (by omega) (ζ (some ⟨W.heap.size,0,none⟩) 1 1);have bS:=Jf.other (b:=w.heap.size) (k:=5) (by omega) (ζ (some ⟨W.heap.size,0,none⟩) 1 1);have B8:=rN.other (b:=w.heap.size) (k:=5) (by omega) (ζ (some ⟨W.heap.size,0,none⟩) 1 1);have oF:=al.setCell (p:=⟨w.heap.size,5,none⟩) (κ _) (ζ (some ⟨W.heap.size,0,none⟩) 1 1);have afa:W.heap.size<((W.alloc (θ #[V Z (ag.aA s)] 3)).setCell ⟨w.heap.size,5,none⟩ (ζ (some ⟨W.heap.size,0,none⟩) 1 1)).heap.size:=by rw[ν];simp
  generalize(W.alloc (θ #[V Z (ag.aA s)] 3)).setCell ⟨w.heap.size,5,none⟩ (ζ (some ⟨W.heap.size,0,none⟩) 1 1)=WZ at *
  clear vE Je Jf rN al cD;have pW:Below WZ.heap.size WZ (WZ.alloc (θ #[V Z (ag.ofM s)] 3)):=(μ _ _).alloc (κ _) _;have rM:X (WZ.alloc (θ #[V Z (ag.ofM s)] 3)) WZ.heap.size [V Z (ag.ofM s)] 3:=X.new WZ [V Z (ag.ofM s)] 3;obtain⟨g0,g1,g2,g3,g4,g5,g6,g7,g8,g9⟩:=ca si;obtain⟨c0,c1,c2,_,_,_⟩:=bW rZ1;have r0b:=si.on pW;have r2b:=bS.on pW;have rNb:=B8.on pW;have c6:=r0b.cell (k:=4) rfl;have f6:=r0b.free (k:=4);replace oF:=oF.trans (pW.mono oF.size);go_upto_region 12 with fail;clear c6 f6 g0 g1 g2 g3 g4 g5 g6 g7 g8 g9 c0 c1 c2 si rZ1 bS B8;have si:X ((WZ.alloc (θ #[V Z (ag.ofM s)] 3)).setCell ⟨w.heap.size,4,none⟩ (ζ (some ⟨WZ.heap.size,0,none⟩) 1 1)) w.heap.size [V Z 3,V Z iv,V Z ct,V Z un,ζ (some ⟨WZ.heap.size,0,none⟩) 1 1,ζ (some ⟨W.heap.size,0,none⟩) 1 1,ζ a3 0 0,ζ a4 n4 n4,V Z ws,η tx] 96:=r0b.set (k:=4) _;have bS:=r2b.other (b:=w.heap.size) (k:=4) (by omega) (ζ (some ⟨WZ.heap.size,0,none⟩) 1 1);have B8:=rNb.other (b:=w.heap.size) (k:=4) (by omega) (ζ (some ⟨WZ.heap.size,0,none⟩) 1 1);have rZM:=rM.other (b:=w.heap.size) (k:=4) (by omega) (ζ (some ⟨WZ.heap.size,0,none⟩) 1 1);replace oF:=oF.setCell (p:=⟨w.heap.size,4,none⟩) (κ _) (ζ (some ⟨WZ.heap.size,0,none⟩) 1 1);generalize(WZ.alloc (θ #[V Z (ag.ofM s)] 3)).setCell ⟨w.heap.size,4,none⟩ (ζ (some ⟨WZ.heap.size,0,none⟩) 1 1)=WY at *
  clear r0b r2b rNb rM pW;obtain⟨g0,g1,g2,g3,g4,g5,g6,g7,g8,g9⟩:=ca si;obtain⟨z0,z1,z2,z3,z4,z5,z6,z7,z8,z9⟩:=ca bS;have y0:=bS.free (k:=0);have y1:=bS.free (k:=1);have y2:=bS.free (k:=2);have y3:=bS.free (k:=3);have y4:=bS.free (k:=4);have y5:=bS.free (k:=5);have y6:=bS.free (k:=6);have y7:=bS.free (k:=7);have y8:=bS.free (k:=8);have y9:=bS.free (k:=9);go_wp2_with fail;exact bodyPost_ret (v:=.agg #[V Z 3,V Z iv,V Z ct,V Z un,ζ (some ⟨WZ.heap.size,0,none⟩) 1 1,ζ (some ⟨W.heap.size,0,none⟩) 1 1,ζ a3 0 0,ζ a4 n4 n4,V Z ws,η tx]) (by simp[results,results216,go_sem,z0,z1,z2,z3,z4,z5,z6,z7,z8,z9]) rfl (ZZ.out _ _ _ _ (by omega) (by omega) ((((((((((B8.other (by omega) _).other (by omega) _).other (by omega) _).other (by omega) _).other (by omega) _).other (by omega) _).other (by omega) _).other (by omega) _).other (by omega) _).other (by omega) _) ((((((((((rZM.other (by omega) _).other (by omega) _).other (by omega) _).other (by omega) _).other (by omega) _).other (by omega) _).other (by omega) _).other (by omega) _).other (by omega) _).other (by omega) _) rfl ((((((((((oF.setCell (by simp;omega) _).setCell (by simp;omega) _).setCell (by simp;omega) _).setCell (by simp;omega) _).setCell (by simp;omega) _).setCell (by simp;omega) _).setCell (by simp;omega) _).setCell (by simp;omega) _).setCell (by simp;omega) _).setCell (by simp;omega) _))
end
section
open Go.Sort
attribute [local go_sem] Oper.semAt_some
theorem MH (pls:List Int)(len:Int):∀(i:Int) (l:List Int),(ny pls len i l).length<=l.length
 |_,[]=>κ _
 |i,d::l=>by
  rw[ny,Ν,π];have:=MH pls len (i+1) l;split<;>simp<;>omega
theorem B9 (r:aE)(a:Int)(n:Nat):(dm r a n).length<=n:=by
 unfold dm;have:=Dr r a n;split
 ·exact this
 exact φ (MH _ _ _ _) this
theorem bK (f:ϗ):Fence.wide.fn f=True:=by simp[Κ]
theorem aU:(Fence.wide.depth=none)=True:=by simp[Κ]
attribute [local go_sem] bK aU
attribute [local simp] bK aU
structure St (O:ak)(W:ι)(aqx:aQ)(D:ak)(wr:ι):Prop where
 aM:aj O W wr
 dO:∀k,D k->O k\/W.heap.size<=k
 Od:∀k,O k->D k
 on:On D aqx wr
theorem St.below {O:ak}{W:ι}{aqx:aQ}{D:ak}{wr I:ι}(h:St O W aqx D wr)(U:Below wr.heap.size wr I):St O W aqx D I:=⟨h.aM.aK (aj.aq U),h.dO,h.Od,h.on.below U⟩
theorem St.alloc {O:ak}{W:ι}{aqx:aQ}{D:ak}{wr:ι}(h:St O W aqx D wr)(o:Obj):St O W aqx D (wr.alloc o):=h.below ((μ _ _).alloc (κ _) _)
theorem St.post {O:ak}{W:ι}{aqx J':aQ}{D:ak}{wr I:ι}(h:St O W aqx D wr)(J:aO D wr.heap.size J' wr I):∃D',St O W J' D' I/\(∀k,D' k->D k\/wr.heap.size<=k)/\aj D wr I:=by
 obtain⟨N,D',d1,d2,d3⟩:=J;exact⟨D',⟨h.aM.trans N (λj hj=>h.dO j hj),λk Y=>(d1 k Y).elim (h.dO k) (λhh=>.inr (φ h.aM.size hh)),λk Y=>d2 k (h.Od k Y),d3⟩,d1,N⟩
theorem St.fin {O:ak}{W:ι}{aqx:aQ}{D:ak}{wr:ι}(h:St O W aqx D wr):aO O W.heap.size aqx W wr:=⟨h.aM,D,h.dO,h.Od,h.on⟩
theorem St.lt {O:ak}{W:ι}{aqx:aQ}{D:ak}{wr:ι}(h:St O W aqx D wr){k:Nat}(Y:D k):k<wr.heap.size:=h.on.1 k Y
theorem Vg (r:aE)(m md wk pl:Value)(tx:ByteArray)(s f last:Int)(bs br bf bl:Nat)(w:ι)(K:eE w r m md wk pl)(ho:ei r)(s0:0<=s)(s1:s<=7258118400)(f0:-1000000000000<=f)(f1:f<=7258118400)
 (l0:-1000000000000<=last)(l1:last<=7258118400)(q1:X w bs [V Z s] 3)(q2:X w br (bX r.fq r.iv r.ct r.un m md wk pl r.ws tx) 96)(q3:X w bf [V Z f] 3)(q4:X w bl [V Z last] 3):
 kO prog 245 #[ε (some ⟨bs,0,none⟩),ε (some ⟨br,0,none⟩),ε (some ⟨bf,0,none⟩),ε (some ⟨bl,0,none⟩)] (uN (jc r s f last)) (λk=>k=bs\/k=br\/k=bf\/k=bl\/LB m md wk pl k) w:=by
 intro l W O aqx Js Jp bA hR hO cM hY;have eG:=K.keep λk Y=>hR k (.inr (.inr (.inr (.inr Y))));replace q1:=q1.keep (hR bs (.inl rfl));replace q2:=q2.keep (hR br (.inr (.inl rfl)));replace q3:=q3.keep (hR bf (.inr (.inr (.inl rfl))));replace q4:=q4.keep (hR bl (.inr (.inr (.inr (.inl rfl)))));have Jg:¬O bs:=λh=>hO bs h (.inl rfl);have Ir:¬O br:=λh=>hO br h (.inr (.inl rfl));have Tk:¬O bf:=λh=>hO bf h (.inr (.inr (.inl rfl)));have Of:¬O bl:=λh=>hO bl h (.inr (.inr (.inr (.inl rfl))));have hlx:Hid (∀wr,aj O W wr->eE wr r m md wk pl):=H λwr N=>eG.keep λk Y=>N.block k (eG.fO Y) λh=>hO k h (.inr (.inr (.inr (.inr Y))));have Vh:Hid (∀wr,Ι prog 51 #[V Z s] wr λe I=>e=δ (aZ (s/86400))/\Below wr.heap.size wr I):=H λwr=>qz s wr s0 s1;have hFD:Hid (∀wr,aj O W wr->Ι prog 246 #[bG r.fq r.iv r.ct r.un m md wk pl r.ws tx,V Z s,V Z f] wr λe I=>e=δ (V Z (eZ r s f))/\Below wr.heap.size wr I):=
  H λwr N=>Fp r m md wk pl tx s f wr (hlx.out wr N) ho s0 s1 f0 f1
 have hPR:Hid (∀k wr,aj O W wr->0<=k->k<=dA r->Ι prog 247 #[bG r.fq r.iv r.ct r.un m md wk pl r.ws tx,aZ (s/86400),V Z k] wr λe I=>e=δ (dt (bh r (s/86400) k) (iU r (s/86400) k))/\Below wr.heap.size wr I):=
  H λk wr N k0 k1=>Yf r m md wk pl tx (s/86400) k wr (hlx.out wr N) ho (by omega) (by omega) k0 k1
 have nM:=H λk k0 k1=>Vc r (s/86400) k (by omega) (by omega) k0 k1;have hBG:Hid (∀k wr,0<=k->k<=dA r->Ι prog 48 #[aZ (bh r (s/86400) k)] wr λe I=>e=δ (V Z (bh r (s/86400) k*86400))/\Below wr.heap.size wr I):=
  H λk wr k0 k1=>GR _ wr (by have:=nM.out k k0 k1;omega) (by have:=nM.out k k0 k1;omega)
 have hCH:Hid (∀k wr,aj O W wr->0<=k->k<=dA r->Ι prog 248 #[bG r.fq r.iv r.ct r.un m md wk pl r.ws tx,dt (bh r (s/86400) k) (iU r (s/86400) k)] wr λe I=>∃v,e=δ v/\I.ownsRow wr.heap.size 88 3 v (dm r (bh r (s/86400) k) (gP r (s/86400) k)).length (jt (dm r (bh r (s/86400) k) (gP r (s/86400) k)))/\Below wr.heap.size wr I):=
  H λk wr N k0 k1=>by
   have U:=nM.out k k0 k1;have e:bh r (s/86400) k+(gP r (s/86400) k:Nat)=iU r (s/86400) k:=by unfold gP;omega
   have:=Yk r m md wk pl tx (bh r (s/86400) k) (gP r (s/86400) k) wr (hlx.out wr N) ho (by omega) (by omega) (by unfold gP;omega);rwa [e]at this
 have tY:=Jb r ho s f s0 s1 f1;have Ij:dA r<=200000:=by unfold dA;split<;>(try split)<;>(try split)<;>omega
 have U3:=ho.Fo;have Pv:=ho.iv9;obtain⟨a1,S⟩:=eG.ms.form;obtain⟨a2,e2⟩:=eG.mds.form;obtain⟨a3,e3⟩:=eG.wks.form;obtain⟨a4,e4⟩:=eG.pls.form;have hLL:Hid (jc r s f last=sf r (s/86400) last (dA r).toNat (eZ r s f)):=H rfl;clear hR hO eG K ho hlx bA;generalize r.ms.length=n1 at *
 generalize r.mds.length=n2 at *
 generalize r.wks.length=n3 at *
 generalize r.pls.length=n4 at *
 subst S e2 e3 e4;unfold bG bX at *
 have Ca:St O W (aqx 0) O W:=⟨aj.refl _ _,λ_ h=>.inl h,λ_ h=>h,cM⟩;have tP:=H (λ(i:Nat) (d:Int) (h:(jc r s f last)[i]?=some d)=>hY i _ (qB h));clear hY cM;rw[lj];generalize jc r s f last=XS at *
 have Fv:0<=s/86400/\s/86400<=84006:=by omega
 generalize s/86400=sd at *
 unfold aZ cV dt at *
 refine callsIn_of_wp func245 rfl trivial ?_ rfl;simp only[ntmps245,Α,π,Η,Μ,Λ,τ,ρ,Β,υ,Ζ,Ε];have c1:=q1.cell (k:=0) rfl;gi_wp2_with fail;refine((callsIn_wide.2 (Vh.out _)).mono ?_);rintro e w1 ⟨rfl,ay⟩;clear c1 Vh;replace Ca:=Ca.below ay;have st1:=Ca.alloc (θ #[V Z (ag.au sd),V Z (ag.ofM sd),V Z (ag.aA sd)] 88);have r6:X (w1.alloc (θ #[V Z (ag.au sd),V Z (ag.ofM sd),V Z (ag.aA sd)] 88)) w1.heap.size [V Z (ag.au sd),V Z (ag.ofM sd),V Z (ag.aA sd)] 88:=X.new w1 [V Z (ag.au sd),V Z (ag.ofM sd),V Z (ag.aA sd)] 88;have h6O:¬O w1.heap.size:=λh=>by have:=Ca.lt h;omega
 have h6W:W.heap.size<=w1.heap.size:=Ca.aM.size;have g2:=ca (q2.aM st1.aM Ir);have c1:=(q1.aM st1.aM Jg).cell (k:=0) rfl;have c3:=(q3.aM st1.aM Tk).cell (k:=0) rfl;obtain⟨z0,z1,z2,z3,z4,z5,z6,z7,z8,z9⟩:=g2;gi_wp2_with fail;refine((callsIn_wide.2 (hFD.out _ st1.aM)).mono ?_);rintro e w2 ⟨rfl,aN⟩;replace st1:=st1.below aN;replace r6:=r6.on aN;clear c1 c3 z0 z1 z2 z3 z4 z5 z6 z7 z8 z9 hFD aN ay Ca;generalize w1.heap.size=b6 at *
 generalize eZ r s f=k0 at *
 have E3:prog.follows .mixedOrders=true:=by kernel_rfl
 gi_wp2_with fail;gi_loopg [7] (dA r).toNat (λg kv wr=>∃(k:Int) (pre:List Int) (D:ak),kv=V Z k/\0<=k/\k<=dA r/\dA r<=k+g/\St O W (aqx pre.length) D wr/\¬D b6/\X wr b6 [V Z (ag.au sd),V Z (ag.ofM sd),V Z (ag.aA sd)] 88/\Hid (XS=pre++sf r sd last g k))
 case atStart=>exact⟨k0,[],O,rfl,tY.1,by omega,by omega,st1,h6O,r6,H (by rw[hLL.out];rfl)⟩
 case round=>
  clear hLL st1 h6O r6 tY;obtain⟨k,pre,D,rfl,nE,Hs,hkg,st,PQ,r6,HX⟩:=hrel;obtain⟨z0,z1,z2,z3,z4,z5,z6,z7,z8,z9⟩:=ca (q2.aM st.aM Ir);obtain⟨c0,c1,c2,_,_,_⟩:=bW r6;gi_wp2_with fail;refine((callsIn_wide.2 (hPR.out k _ st.aM nE Hs)).mono ?_);rintro e w3 ⟨rfl,aP⟩;replace st:=st.below aP;replace r6:=r6.on aP;obtain⟨xn,hAB,EO,hB3,hAk⟩:=nM.out k nE Hs;have afd:=H (λwr=>hBG.out k wr nE Hs);have afe:=H (λwr N=>hCH.out k wr N nE Hs);have jW:Hid (last<bh r sd k*86400->XS=pre):=H λh=>by rw[HX.out,PO _ _ _ _ _ h,List.append_nil]
  have zJ:Hid (¬last<bh r sd k*86400->∃g',gk=g'+1/\XS=pre++(dm r (bh r sd k) (gP r sd k)++sf r sd last g' (k+r.iv))):=H λh=>by
   have:k+100<=dA r:=hAk (by omega);obtain⟨g',rfl⟩:∃g',gk=g'+1:=⟨gk-1,by omega⟩;exact⟨g',rfl,by rw[HX.out,Ve _ _ _ _ _ h]⟩
  have wH:Hid (¬last<bh r sd k*86400->k+100<=dA r):=H λh=>hAk (by omega);have Y9:gP r sd k<=400:=by unfold gP;omega
  clear HX z0 z1 z2 z3 z4 z5 z6 z7 z8 z9 c0 c1 c2 aP hAk;generalize bh r sd k=aqt at *
  generalize iU r sd k=B at *
  have r8:X (w3.alloc (θ #[V Z (ag.au aqt),V Z (ag.ofM aqt),V Z (ag.aA aqt),V Z (ag.au B),V Z (ag.ofM B),V Z (ag.aA B)] 277)) w3.heap.size [V Z (ag.au aqt),V Z (ag.ofM aqt),V Z (ag.aA aqt),V Z (ag.au B),V Z (ag.ofM B),V Z (ag.aA B)] 277:=X.new w3 [V Z (ag.au aqt),V Z (ag.ofM aqt),V Z (ag.aA aqt),V Z (ag.au B),V Z (ag.ofM B),V Z (ag.aA B)] 277;have h8D:¬D w3.heap.size:=λh=>by have:=st.lt h;omega
  have cD:Below w3.heap.size w3 (w3.alloc (θ #[V Z (ag.au aqt),V Z (ag.ofM aqt),V Z (ag.aA aqt),V Z (ag.au B),V Z (ag.ofM B),V Z (ag.aA B)] 277)):=(μ _ _).alloc (κ _) _;replace st:=st.below cD;replace r6:=r6.on cD;clear cD;gi_upto_region 4 with fail;generalize w3.alloc (θ #[V Z (ag.au aqt),V Z (ag.ofM aqt),V Z (ag.aA aqt),V Z (ag.au B),V Z (ag.ofM B),V Z (ag.aA B)] 277)=w4 at *
  generalize w3.heap.size=b8 at *
  obtain⟨⟨z0,z1,z2,z3,z4,z5⟩,_,_,_,_,_,_⟩:=jS r8;have c4:=(q4.aM st.aM Of).cell (k:=0) rfl;have i0:=cell_regrown z0;have i1:=cell_regrown z1;have i2:=cell_regrown z2;have i4:=cell_regrown c4;clear z0 z1 z2 z3 z4 z5 c4;refine wpIn_region_quiet_below rfl E3 (by kernel_rfl) ?_;have cB:=λd os=>CallsIn.regrown_of (w:=w4) (d:=d) (os:=os) (callsIn_wide (n:=0).2 (afd.out _))
  repeat(gi_big_quiet_step (first|exact⟨rfl,cB _ _⟩|exact cB _ _|exact⟨trivial,rfl,cB _ _⟩))
  clear cB i0 i1 i2 i4;refine wpQuietIn_nil ?_;intro _ dN;obtain⟨⟨dq,ju⟩,iE⟩:=dN;subst iE;have jx:=below_regrown w4 dq ju;replace st:=st.below jx;replace r6:=r6.on jx;replace r8:=r8.on jx;clear jx;generalize grow (redrawn w4 dq) ju=w5 at *
  by_cases agH:last<aqt*86400
  case pos=>
   have hX:=H (jW.out agH);clear jW zJ wH;gi_wp2_with fail;refine bodyPost_ret (results_none rfl _ _ _) rfl ?_;rw[hX.out];exact .inl ⟨⟨_,rfl⟩,.inl st.fin⟩
  case neg=>
   have hX:=H (zJ.out (by omega));replace wH:=wH.out (by omega);clear jW zJ;obtain⟨z0,z1,z2,z3,z4,z5,z6,z7,z8,z9⟩:=ca (q2.aM st.aM Ir);obtain⟨⟨x0,x1,x2,x3,x4,x5⟩,_,_,_,_,_,_⟩:=jS r8;gi_wp2_with fail;refine((callsIn_wide.2 (afe.out _ st.aM)).mono ?_);rintro e w6 ⟨v,rfl,aX,cL⟩;have hv6:=H (λg hg=>(aX.lt g hg).1);have h5:Hid (∀k,D k->k<w5.heap.size):=H λk Y=>st.lt Y;replace st:=st.below cL;replace r6:=r6.on cL;clear z0 z1 z2 z3 z4 z5 z6 z7 z8 z9 x0 x1 x2 x3 x4 x5 cL r8 afe afd;have zL:(dm r aqt (gP r sd k)).length<=400:=φ (B9 r aqt (gP r sd k)) Y9;generalize dm r aqt (gP r sd k)=C at *
   obtain⟨av,cv,rfl⟩:=nD aX;gi_wp2_with fail;have fS:∀g,(Value.slice av C.length cv).ownBlock=some g->¬D g:=λg hg h=>by have:=hv6.out g hg;have:=h5.out g h;omega
   clear hv6 h5;obtain⟨g',rfl,Vi⟩:=hX.out;replace Vi:=H Vi;clear hX;gi_loopg [34] C.length (λq iv wr=>∃(i:Nat) (D:ak),iv=V Z i/\i+q=C.length/\St O W (aqx (pre.length+i)) D wr/\¬D b6/\X wr b6 [V Z (ag.au sd),V Z (ag.ofM sd),V Z (ag.aA sd)] 88/\wr.ownsRow w5.heap.size 88 3 (ζ av C.length cv) C.length (jt C)/\(∀g,(Value.slice av C.length cv).ownBlock=some g->¬D g))
   case atStart=>exact⟨0,D,rfl,by omega,st,PQ,r6,aX,fS⟩
   case round=>
    clear st PQ r6 aX fS;rename_i gk0 wr0 _ _;obtain⟨i,D,rfl,Zk,st,PQ,r6,aX,fS⟩:=hrel;by_cases hi:i=C.length
    case pos=>
     have hX2:Hid (XS=(pre++C)++sf r sd last g' (k+r.iv)):=H (by rw[Vi.out,List.append_assoc]);have rI:(pre++C).length=pre.length+C.length:=Ν;obtain⟨z0,z1,z2,z3,z4,z5,z6,z7,z8,z9⟩:=ca (q2.aM st.aM Ir);clear Vi;subst hi;gi_wp2_with fail;gi_roundg g'
     case measure=>omega
     case rel=>exact⟨k+r.iv,pre++C,D,rfl,by omega,by omega,by omega,by rw[rI];exact st,PQ,r6,hX2⟩
    case neg=>
     have wm:i<C.length:=by omega
     obtain⟨d,hd⟩:∃d,C[i]?=some d:=⟨_,Γ wm⟩;have hxs:XS[pre.length+i]?=some d:=by
      rw[Vi.out,List.getElem?_append_right (by omega),Nat.add_sub_cancel_left,Φ wm];exact hd
     obtain⟨gv,cap,Lb,hgB,L9,d0,d1,d2⟩:=PN aX hd;simp only[Value.slice.injEq]at Lb;obtain⟨rfl,_,rfl⟩:=Lb;have cD:Below wr.heap.size wr (wr.alloc (θ #[V Z (ag.au d),V Z (ag.ofM d),V Z (ag.aA d)] 88)):=(μ _ _).alloc (κ _) _;have BM:=st.below cD;obtain⟨f1,t1,a1,b1,gC,eB⟩:=tP.out (pre.length+i) d hxs _ D BM.aM BM.dO BM.Od BM.on;clear hxs hd;gi_wp2_with fail;refine eB.mono ?_;clear gC eB d0 d1 d2;have Lp:=fS gv rfl;have gU:=eK aX (I:=wr.alloc (θ #[V Z (ag.au d),V Z (ag.ofM d),V Z (ag.aA d)] 88)) λg hg=>cD.block g (aX.lt g hg).2;have r6':=r6.on cD;have aoE:=(gU.lt gv rfl).2;have aoF:=r6'.lt;clear st aX r6 cD fS;generalize wr.alloc (θ #[V Z (ag.au d),V Z (ag.ofM d),V Z (ag.aA d)] 88)=wq at *
     rintro e W1 (⟨rfl,J⟩|⟨rfl,J⟩|⟨c,rfl,J⟩)
     case inl=>
      obtain⟨D1,st1,d1,bC⟩:=BM.post J;have r61:=r6'.aM bC PQ;have Rn:=eK gU (I:=W1) λg hg=>bC.block g (gU.lt g hg).2 (by cases hg;exact Lp);have h61:¬D1 b6:=λh=>(d1 _ h).elim PQ (by omega);have hv1:¬D1 gv:=λh=>(d1 _ h).elim Lp (by omega);clear J bC BM gU r6';gi_wp2_with fail;gi_roundg (gk-1)
      case measure=>omega
      case rel=>exact⟨i+1,D1,by go_num,by omega,st1,h61,r61,Rn,λg hg=>by cases hg;exact hv1⟩
     case inr.inl=>
      obtain⟨D1,st1,d1,bC⟩:=BM.post J;gi_wp2_with fail;refine bodyPost_ret (results_none rfl _ _ _) rfl ?_;exact .inl ⟨⟨_,rfl⟩,.inr st1.fin⟩
     case inr.inr=>
      obtain⟨D1,st1,d1,bC⟩:=BM.post J;gi_wp2_with fail;exact⟨rfl,.inr ⟨c,rfl,st1.fin⟩⟩
theorem Ym (fq iv ct un ws:Int)(m md wk pl:Value)(tx:ByteArray)(s f last:Int)(w:ι)(G:∃a n c,m=ζ a n c)(A:∃a n c,md=ζ a n c)(M:∃a n c,wk=ζ a n c)(h4:∃a n c,pl=ζ a n c):
 Ι prog 217 #[bG fq iv ct un m md wk pl ws tx,V Z s,V Z f,V Z last] w λe I=>
  e=δ (.func (.func 245) #[] #[ε (some ⟨w.heap.size+1,0,none⟩),ε (some ⟨w.heap.size,0,none⟩),ε (some ⟨w.heap.size+2,0,none⟩),ε (some ⟨w.heap.size+3,0,none⟩)])/\
  I=(((w.alloc (θ (bX fq iv ct un m md wk pl ws tx).toArray 96)).alloc (θ #[V Z s] 3)).alloc (θ #[V Z f] 3)).alloc (θ #[V Z last] 3):=by
 obtain⟨a1,n1,c1,rfl⟩:=G;obtain⟨a2,n2,c2,rfl⟩:=A;obtain⟨a3,n3,c3,rfl⟩:=M;obtain⟨a4,n4,c4,rfl⟩:=h4;unfold bG bX;go_enter func217,ntmps217;go_wp2_with fail;go_ret;exact⟨rfl,rfl⟩
end
section
structure JV (n0:Nat)(fix:List (Nat×Value))(W:ι)(a:Ο)(w:ι):Prop where
 size:a.tmps.size=n0
 defers:a.defers=[]
 fixed:∀p∈fix,a.eval (.tmp p.1)=p.2
 below:Below W.heap.size W w
def GV (σ:Nat->Nat)(aqv:Nat->Value->ι->Prop)(i:Nat)(a:Ο)(w:ι):Prop:=aqv i (a.eval (.tmp (σ i))) w
structure qQ (σ:Nat->Nat)(fix:List (Nat×Value))(n0 n:Nat)(aqv:Nat->Value->ι->Prop):Prop where
 lt:∀i,i<n->σ i<n0
 inj:∀i j,i<n->j<n->σ i=σ j->i=j
 off:∀p∈fix,∀i,i<n->p.1≠σ i
 grow:∀i v w I,aqv i v w->Below w.heap.size w I->aqv i v I
theorem lV {σ:Nat->Nat}{fix:List (Nat×Value)}{n0:Nat}{aqv:Nat->Value->ι->Prop}{W:ι}{a:Ο}{w I:ι}{ops:Array Τ}{i:Nat}{v:Value}{dst:Option Nat}(aqA:qQ σ fix n0 ops.size aqv)(hd:dst=some (σ i))(hi:i<ops.size)
 (h:JV n0 fix W a w)(U:Below w.heap.size w I)(hn:aqv i v I):
 JV n0 fix W (a.put dst v) I/\GV σ aqv i (a.put dst v) I/\∀j oj,ops[j]?=some oj->j≠i->(∀e∈oj.after,ο .any e=true->e.on≠i)->GV σ aqv j a w->GV σ aqv j (a.put dst v) I:=by
 subst hd;have hs:σ i<a.tmps.size:=by rw[h.size];exact aqA.lt i hi
 refine⟨⟨by rw[fW];exact h.size,by rw[put_defers];exact h.defers,λp J=>by rw[cY (aqA.off p J i hi)];exact h.fixed p J,h.below.trans (U.mono h.below.size)⟩,?_,λj oj jg fB _ hg=>?_⟩
 ·unfold GV;rw[gO hs];exact hn
 have hj:j<ops.size:=(Array.getElem?_eq_some_iff.1 jg).1;unfold GV at hg⊢;rw[cY (λe=>fB (aqA.inj j i hj hi e))];exact aqA.grow j _ w I hg U
theorem bp {σ:Nat->Nat}{fix:List (Nat×Value)}{n0:Nat}{aqv:Nat->Value->ι->Prop}{W:ι}{a:Ο}{w:ι}{ops:Array Τ}{i:Nat}{v:Value}{dst:Option Nat}(aqA:qQ σ fix n0 ops.size aqv)(h:JV n0 fix W a w)
 (hd:dst=some (σ i):=by exact rfl)(hi:i<ops.size:=by decide)(hn:aqv i v w:=by exact rfl):
 JV n0 fix W (a.put dst v) w/\GV σ aqv i (a.put dst v) w/\∀j oj,ops[j]?=some oj->j≠i->(∀e∈oj.after,ο .any e=true->e.on≠i)->GV σ aqv j a w->GV σ aqv j (a.put dst v) w:=lV aqA hd hi h (μ _ _) hn
theorem tZ {P:Program}{Q:Exit->Ο->ι->Prop}{o:Τ}{a:Ο}{w I:ι}{aqy:Ο->ι->Prop}{f:ϗ}{args:Array Value}{v:Value}(h:(execOp a.eval o).run P w=.ok (.enter f args) I)(hc:Ι P f args I λe az=>e=δ v/\Below I.heap.size I az)
 (G:∀az,Below I.heap.size I az->aqy (a.put o.dst v) az):Oper.wp P o a w aqy Q:=
 cI h hc (λv' az ⟨e,U⟩=>by cases e;exact G az U) (λc az ⟨e,_⟩=>by cases e) (λaz ⟨e,_⟩=>by cases e)
theorem qk {o:Τ}{a:Ο}{w:ι}{x y:Ϙ}{aqw aqp:ByteArray}(ho:o.op=.binOp .add 9 x y 9)(N:a.eval x=η aqw)(hy:a.eval y=η aqp)(hs:aqw.size+aqp.size<=10000000):(execOp a.eval o).run prog w=.ok (.value (η (aqw++aqp))) w:=by
 obtain⟨_,_,_,_,_,_⟩:=o;simp only[]at ho;subst ho;unfold execOp;simp only[N,hy];have An:(aqw.size:Int)+aqp.size<=10000000:=by omega
 have hm:aqw.size+aqp.size<=maxLen:=by unfold maxLen;omega
 go_simp;omega
theorem aV {o:Τ}{a:Ο}{w:ι}{x:Ϙ}{T:Ω}{p:Addr}{v:Value}(ho:o.op=.load T x)(N:a.eval x=ε (some p))(hr:(Ξ T (ε (some p))).run prog w=.ok v w):(execOp a.eval o).run prog w=.ok (.value v) w:=by
 obtain⟨_,_,_,_,_,_⟩:=o;simp only[]at ho;subst ho;unfold execOp;simp only[N];exact bq hr
theorem Td {p:Addr}{v:ByteArray}{w:ι}(h:w.cell? p=some (η v)):(Ξ 9 (ε (some p))).run prog w=.ok (η v) w:=by
 go_simp
theorem dQ {p:Addr}{z:Int}{w:ι}(h:w.cell? p=some (V Z z)):(Ξ 3 (ε (some p))).run prog w=.ok (V Z z) w:=by
 go_simp
theorem cH {o:Τ}{a:Ο}{w:ι}{x:Ϙ}{T:Ω}{k:Nat}{p q:Addr}(ho:o.op=.fieldAddr T x k)(N:a.eval x=ε (some p))(hr:(Instr.fieldAt T (ε (some p)) k).run prog w=.ok (ε (some q)) w):(execOp a.eval o).run prog w=.ok (.value (ε (some q))) w:=by
 obtain⟨_,_,_,_,_,_⟩:=o;simp only[]at ho;subst ho;unfold execOp;simp only[N];exact bq hr
theorem O4 {o:Τ}{a:Ο}{w:ι}{x:Ϙ}{v:Value}(ho:o.op=.assign x)(h:a.eval x=v):(execOp a.eval o).run prog w=.ok (.value v) w:=by
 obtain⟨_,_,_,_,_,_⟩:=o;simp only[]at ho;subst ho;unfold execOp;simp only[h];rfl
open Go.Sort
theorem Vj (a:Ο)(h:a.tmps.size=46)(hd:a.defers=[]):∃f:Nat->Value,a=⟨List.toArray (f 0::f 1::f 2::f 3::f 4::f 5::f 6::f 7::f 8::f 9::f 10::f 11::f 12::f 13::f 14::f 15::f 16::f 17::f 18::f 19::f 20::f 21::f 22::f 23::f 24::f 25::f 26::f 27::f 28::f 29::f 30::f 31::f 32::f 33::f 34::f 35::f 36::f 37::f 38::f 39::f 40::f 41::f 42::f 43::f 44::f 45::[]),[]⟩/\∀k,a.eval (.tmp k)=f k:=gK 46 a h hd
def iV (s f last ct:Int):Int->List Int->List Int
 |_,[]=>[]
 |c,d::l=>if d*86400<s-s%86400 then iV s f last ct c l else if last<d*86400 then[]else(if f-s%86400<=d*86400 then[d]else[])++(if c+1=ct then[]else iV s f last ct (c+1) l)
def lk (r:aE)(s f last:Int):List Int:=iV s f last r.ct 0 (jc (aS r (s/86400)) s f last)
theorem MI (pls:List Int)(len:Int):∀(i:Int) (l:List Int) (d:Int),d∈ny pls len i l->d∈l
 |_,[],d,h=>by simp[ny]at h
 |i,x::l,d,h=>by
  rw[ny,List.mem_append]at h;rcases h with h|h
  ·split at h
   ·simp at h;subst h;simp
   simp at h
  exact List.mem_cons_of_mem _ (MI pls len (i+1) l d h)
theorem MK {r:aE}{a:Int}{n:Nat}{d:Int}(h:d∈kI r a n):a<=d/\d<a+n:=by
 unfold kI dx at h;obtain⟨h,_⟩:=List.mem_filter.1 h;obtain⟨i,hi,rfl⟩:=List.mem_map.1 h;have:=List.mem_range.1 hi;omega
theorem N1 {r:aE}{a:Int}{n:Nat}{d:Int}(h:d∈dm r a n):a<=d/\d<a+n:=by
 unfold dm at h;split at h
 ·exact MK h
 exact MK (MI _ _ _ _ _ h)
theorem Vk (r:aE)(ho:ei r)(s last:Int)(s0:0<=s)(s1:s<=84010)(l1:last<=7258118400):∀(g:Nat) (k:Int),0<=k->k<=dA r->(sf r s last g k).length<=g*400/\∀d∈sf r s last g k,-400<=d/\d<=300000
 |0,k,_,_=>⟨by simp[sf],λd h=>by simp[sf]at h⟩
 |g+1,k,k0,k1=>by
  have U:=Vc r s k s0 s1 k0 k1;have U3:=ho.Fo;have Pv:=ho.iv9;rw[sf];split
  ·exact⟨by simp,λd h=>by simp at h⟩
  have Y:=U.2.2.2.2 (by omega);have ih:=Vk r ho s last s0 s1 l1 g (k+r.iv) (by omega) (by omega);have K:=B9 r (bh r s k) (gP r s k);have hn:gP r s k<=400:=by unfold gP;omega
  have e:bh r s k+(gP r s k:Nat)=iU r s k:=by unfold gP;omega
  refine⟨by rw[Ν];omega,λd hd=>?_⟩;rcases List.mem_append.1 hd with h|h
  ·have:=N1 h;omega
  exact ih.2 d h
theorem Fw (r:aE)(ho:ei r)(s f last:Int)(s0:0<=s)(s1:s<=7258118400)(f1:f<=7258118400)(l1:last<=7258118400):(jc r s f last).length<=80000000/\∀d∈jc r s f last,-400<=d/\d<=300000:=by
 have hf:=Jb r ho s f s0 s1 f1;have:=Vk r ho (s/86400) last (by omega) (by omega) l1 (dA r).toNat (eZ r s f) hf.1 (by omega);have Y:dA r<=200000:=by unfold dA;split<;>(try split)<;>(try split)<;>omega
 unfold jc;exact⟨by omega,this.2⟩
def PR (W:ι)(r:aE)(m md wk pl:Value)(tx:ByteArray)(s f last:Int)(i:Nat)(v:Value)(w:ι):Prop:=match i with
 |0=>v=bG r.fq r.iv r.ct r.un m md wk pl r.ws tx
 |1=>v=V Z s
 |2=>v=aZ (s/86400)
 |3=>∃m' fP fQ,v=bG (aS r (s/86400)).fq (aS r (s/86400)).iv (aS r (s/86400)).ct (aS r (s/86400)).un m' fP fQ pl (aS r (s/86400)).ws tx/\eE w (aS r (s/86400)) m' fP fQ pl/\∀k,LB m' fP fQ pl k->LB m md wk pl k\/W.heap.size<=k
 |4=>v=V Z s
 |5=>v=V Z f
 |6=>v=V Z last
 |_=>∃m' fP fQ b,v=.func (.func 245) #[] #[ε (some ⟨b+1,0,none⟩),ε (some ⟨b,0,none⟩),ε (some ⟨b+2,0,none⟩),ε (some ⟨b+3,0,none⟩)]/\W.heap.size<=b/\
  X w b (bX (aS r (s/86400)).fq (aS r (s/86400)).iv (aS r (s/86400)).ct (aS r (s/86400)).un m' fP fQ pl (aS r (s/86400)).ws tx) 96/\X w (b+1) [V Z s] 3/\X w (b+2) [V Z f] 3/\X w (b+3) [V Z last] 3/\
  eE w (aS r (s/86400)) m' fP fQ pl/\∀k,LB m' fP fQ pl k->LB m md wk pl k\/W.heap.size<=k
theorem PR.grow {W:ι}{r:aE}{m md wk pl:Value}{tx:ByteArray}{s f last:Int}(i:Nat)(v:Value)(w I:ι)(h:PR W r m md wk pl tx s f last i v w)(U:Below w.heap.size w I):PR W r m md wk pl tx s f last i v I:=by
 match i,h with
 |0,h|1,h|2,h|4,h|5,h|6,h=>exact h
 |3,h=>
  obtain⟨m',fP,fQ,G,A,M⟩:=h;exact⟨m',fP,fQ,G,A.on U,M⟩
 |n+7,h=>
  obtain⟨m',fP,fQ,b,G,A,M,h4,h5,h6,h7,h8⟩:=h;exact⟨m',fP,fQ,b,G,A,M.on U,h4.on U,h5.on U,h6.on U,h7.on U,h8⟩
theorem RQ {b:Nat}{fq iv ct un ws:Int}{m md wk pl:Value}{tx:ByteArray}{w:ι}(h:X w b (bX fq iv ct un m md wk pl ws tx) 96):(Ξ 96 (ε (some ⟨b,0,none⟩))).run prog w=.ok (bG fq iv ct un m md wk pl ws tx) w:=by
 unfold bX at h;unfold bG;obtain⟨z0,z1,z2,z3,z4,z5,z6,z7,z8,z9⟩:=ca h;go_simp
theorem afg (w:ι)(cs:List Value)(t:Ω)(x y z:Value)(t1 t2 t3:Ω):
 let I:=(((w.alloc (θ cs.toArray t)).alloc (θ #[x] t1)).alloc (θ #[y] t2)).alloc (θ #[z] t3)
 X I w.heap.size cs t/\X I (w.heap.size+1) [x] t1/\X I (w.heap.size+2) [y] t2/\X I (w.heap.size+3) [z] t3/\Below w.heap.size w I:=by
 intro I;have b1:=(μ w.heap.size w).alloc (κ _) (θ cs.toArray t);have q0:=X.new w cs t;have q1:=X.new (w.alloc (θ cs.toArray t)) [x] t1;have q2:=X.new ((w.alloc (θ cs.toArray t)).alloc (θ #[x] t1)) [y] t2;have q3:=X.new (((w.alloc (θ cs.toArray t)).alloc (θ #[x] t1)).alloc (θ #[y] t2)) [z] t3;have c1:=(μ _ (w.alloc (θ cs.toArray t))).alloc (κ _) (θ #[x] t1);have c2:=(μ _ ((w.alloc (θ cs.toArray t)).alloc (θ #[x] t1))).alloc (κ _) (θ #[y] t2);have c3:=(μ _ (((w.alloc (θ cs.toArray t)).alloc (θ #[x] t1)).alloc (θ #[y] t2))).alloc (κ _) (θ #[z] t3);simp only[ό]at q1 q2 q3;refine⟨((q0.on c1).on c2).on c3,(q1.on c2).on c3,q2.on c3,q3,?_⟩;exact((b1.alloc (by simp) _).alloc (by simp;omega) _).alloc (by simp;omega) _
end
section
open Go.Sort
attribute [local go_sem] Oper.semAt_some
attribute [local go_sem] bK aU
attribute [local simp] bK aU
theorem RoundIn.inRound {F:Fence}{n:Nat}{P:Program}{l:Nat}{f:ϗ}{tmps:Array Value}{assign body:Code}{w:ι}{R:Ρ->ι->Prop}(l':Nat)(h:RoundIn F n P l f tmps assign body w R):RoundIn (F.inRound l') n P l f tmps assign body w R:=h
structure lH (O:ak)(W0:ι)(aqw:aQ)(D0 D:ak)(W:ι):Prop where
 sub:∀k,D0 k->D k
 dO:∀k,D0 k->O k\/W0.heap.size<=k
 Od:∀k,O k->D0 k
 on:On D0 aqw W
theorem lH.keep {O:ak}{W0:ι}{aqw:aQ}{D0 D:ak}{W W':ι}(h:lH O W0 aqw D0 D W)(Y:∀k,D k->W'.heap[k]?=W.heap[k]?):lH O W0 aqw D0 D W':=⟨h.sub,h.dO,h.Od,h.on.on λk hd=>Y k (h.sub k hd)⟩
theorem lH.wide {O:ak}{W0:ι}{aqw:aQ}{D0 D D':ak}{W:ι}(h:lH O W0 aqw D0 D W)(hd:∀k,D k->D' k):lH O W0 aqw D0 D' W:=⟨λk Y=>hd k (h.sub k Y),h.dO,h.Od,h.on⟩
theorem lH.below {O:ak}{W0:ι}{aqw:aQ}{D0 D:ak}{W W':ι}(h:lH O W0 aqw D0 D W)(U:Below W.heap.size W W'):lH O W0 aqw D0 D W':=⟨h.sub,h.dO,h.Od,h.on.below U⟩
theorem lH.set {O:ak}{W0:ι}{aqw:aQ}{D0 D:ak}{W:ι}(h:lH O W0 aqw D0 D W){b o:Nat}(U:¬D0 b)(v:Value):lH O W0 aqw D0 D (W.setCell ⟨b,o,none⟩ v):=⟨h.sub,h.dO,h.Od,h.on.set U v⟩
theorem lH.post {O:ak}{W0:ι}{aqw X':aQ}{D0 D:ak}{W W':ι}(h:lH O W0 aqw D0 D W)(hs:W0.heap.size<=W.heap.size)(J:aO D0 W.heap.size X' W W'):
 ∃ni,lH O W0 X' ni (λk=>D k\/ni k) W'/\(∀k,ni k->D0 k\/W.heap.size<=k)/\aj D0 W W':=by
 obtain⟨N,ni,d1,d2,d3⟩:=J;exact⟨ni,⟨λk Y=>.inr Y,λk Y=>(d1 k Y).elim (h.dO k) (λhh=>.inr (φ hs hh)),λk Y=>d2 k (h.Od k Y),d3⟩,d1,N⟩
theorem lH.put {O:ak}{W0:ι}{aqw:aQ}{D0 D:ak}{W:ι}(h:lH O W0 aqw D0 D W){b:Nat}(U:¬D b)(o:Obj):lH O W0 aqw D0 D (W.putObj b o):=⟨h.sub,h.dO,h.Od,h.on.put (λhd=>U (h.sub _ hd)) o⟩
theorem lH.fin {O:ak}{W0:ι}{aqw:aQ}{D0 D:ak}{W:ι}(h:lH O W0 aqw D0 D W)(N:aj O W0 W):aO O W0.heap.size aqw W0 W:=⟨N,D0,h.dO,h.Od,h.on⟩
def DJ (O:ak)(W0:ι)(b7:Nat)(aqx:Nat->aQ)(E:Nat->Nat->Int->Prop)(i:Nat):aQ:=λD W=>
 D b7/\∃(c:Int) (q:Nat) (D0:ak),0<=c/\c<=i/\¬D0 b7/\lH O W0 (aqx q) D0 D W/\X W b7 [V Z c] 3/\E q i c
def DX (O:ak)(W0:ι)(aqw:aQ):aQ:=λD W=>∃D0:ak,lH O W0 aqw D0 D W
theorem DJ.cQ {O:ak}{W0:ι}{b7:Nat}{aqx:Nat->aQ}{E:Nat->Nat->Int->Prop}{i:Nat}{D:ak}{W:ι}(hD:∀k,D k->k<W.heap.size)(h:DJ O W0 b7 aqx E i D W):On D (DJ O W0 b7 aqx E i) W:=by
 obtain⟨G,c,q,D0,A,M,h4,h5,h6,h7⟩:=h;exact⟨hD,λW2 Y=>⟨G,c,q,D0,A,M,h4,h5.keep Y,h6.keep (Y _ G),h7⟩⟩
theorem DX.cQ {O:ak}{W0:ι}{aqw:aQ}{D:ak}{W:ι}(hD:∀k,D k->k<W.heap.size)(h:DX O W0 aqw D W):On D (DX O W0 aqw) W:=by
 obtain⟨D0,M⟩:=h;exact⟨hD,λW2 Y=>⟨D0,M.keep Y⟩⟩
def pR (O:ak)(W0:ι)(aqw aqp:aQ)(c:Code):aQ:=λD W=>c=.ret/\(DX O W0 aqw D W\/DX O W0 aqp D W)
theorem pR.onX {O:ak}{W0:ι}{aqw aqp:aQ}{D:ak}{W:ι}(h:On D (DX O W0 aqw) W):On D (pR O W0 aqw aqp .ret) W:=⟨h.1,λW2 Y=>⟨rfl,.inl (h.2 W2 Y)⟩⟩
theorem pR.Sv {O:ak}{W0:ι}{aqw aqp:aQ}{D:ak}{W:ι}(h:On D (DX O W0 aqp) W):On D (pR O W0 aqw aqp .ret) W:=⟨h.1,λW2 Y=>⟨rfl,.inr (h.2 W2 Y)⟩⟩
theorem drop_one {l:List Int}{i:Nat}{d:Int}(h:l[i]?=some d):l.drop i=d::l.drop (i+1):=by
 obtain⟨Y,he⟩:=List.getElem?_eq_some_iff.1 h;rw[List.drop_eq_getElem_cons Y,he]
theorem mR {l:List Int}{q:Nat}(h:l.drop q=[])(hq:q<=l.length):q=l.length:=by
 have:=congrArg List.length h;simp at this;omega
theorem oP {l r:List Int}{q:Nat}{d:Int}(h:l.drop q=d::r):l[q]?=some d/\l.drop (q+1)=r/\q+1<=l.length:=by
 have G:(l.drop q)[0]?=some d:=by rw[h];rfl
 rw[List.getElem?_drop]at G;have A:=(List.getElem?_eq_some_iff.1 G).1;refine⟨G,?_,by omega⟩;have:=drop_one G;simp only[Nat.add_zero]at this;rw[h]at this;injection this with _ M
 exact M.symm
def nA (l br bs bf bl bc b6 b7:Nat):List (Nat×Value):=[(0,.func (.yield l) #[] #[]),(1,ε (some ⟨br,0,none⟩)),(2,ε (some ⟨bs,0,none⟩)),(3,ε (some ⟨bf,0,none⟩)),(4,ε (some ⟨bl,0,none⟩)),(5,ε (some ⟨bc,0,none⟩)),(6,ε (some ⟨b6,0,none⟩)),(7,ε (some ⟨b7,0,none⟩))]
theorem afi (l br bs bf bl bc b6 b7:Nat)(W:ι)(r:aE)(m md wk pl:Value)(tx:ByteArray)(s f last:Int):qQ (λi=>10+i) (nA l br bs bf bl bc b6 b7) 46 8 (PR W r m md wk pl tx s f last):=
 ⟨λi hi=>by show 10+i<46;omega,λi j hi hj h=>by have h':10+i=10+j:=h;omega,λp J i hi=>by
  simp only[nA,Χ,ύ,or_false]at J;show p.1≠10+i;rcases J with rfl|rfl|rfl|rfl|rfl|rfl|rfl|rfl<;>simp<;>omega,PR.grow⟩
theorem ab0 (r:aE)(m md wk pl:Value)(tx:ByteArray)(s f last:Int)(br bs bf bl bc:Nat)(w:ι)(K:eE w r m md wk pl)(ho:ei r)(s0:0<=s)(s1:s<=7258118400)(f0:-1000000000000<=f)(f1:f<=7258118400)
 (l0:-1000000000000<=last)(l1:last<=7258118400)(q1:X w br (bX r.fq r.iv r.ct r.un m md wk pl r.ws tx) 96)(q2:X w bs [V Z s] 3)(q3:X w bf [V Z f] 3)(q4:X w bl [V Z last] 3)(q5:X w bc [V Z (s%86400)] 3):
 kO prog 215 #[ε (some ⟨br,0,none⟩),ε (some ⟨bs,0,none⟩),ε (some ⟨bf,0,none⟩),ε (some ⟨bl,0,none⟩),ε (some ⟨bc,0,none⟩)] (uN (lk r s f last)) (λk=>k=br\/k=bs\/k=bf\/k=bl\/k=bc\/LB m md wk pl k) w:=by
 intro l W O aqx Js Jp bA hR hO cM hY;have eG:=K.keep λk Y=>hR k (.inr (.inr (.inr (.inr (.inr Y)))));replace q1:=q1.keep (hR br (.inl rfl));replace q2:=q2.keep (hR bs (.inr (.inl rfl)));replace q3:=q3.keep (hR bf (.inr (.inr (.inl rfl))));replace q4:=q4.keep (hR bl (.inr (.inr (.inr (.inl rfl)))));replace q5:=q5.keep (hR bc (.inr (.inr (.inr (.inr (.inl rfl))))));have Jg:¬O br:=λh=>hO br h (.inl rfl);have Ir:¬O bs:=λh=>hO bs h (.inr (.inl rfl));have Tk:¬O bf:=λh=>hO bf h (.inr (.inr (.inl rfl)));have Of:¬O bl:=λh=>hO bl h (.inr (.inr (.inr (.inl rfl))));have nO5:¬O bc:=λh=>hO bc h (.inr (.inr (.inr (.inr (.inl rfl)))));have nOL:∀k,O k->¬LB m md wk pl k:=λk h h'=>hO k h (.inr (.inr (.inr (.inr (.inr h')))));have Yn:=Jc ho (s/86400);have Vh:Hid (∀wr,Ι prog 51 #[V Z s] wr λe I=>e=δ (aZ (s/86400))/\Below wr.heap.size wr I):=H λwr=>qz s wr s0 s1;have hSW:Hid (∀wr,Below W.heap.size W wr->Ι prog 216 #[bG r.fq r.iv r.ct r.un m md wk pl r.ws tx,aZ (s/86400)] wr (Jd wr r (s/86400) tx m md wk pl)):=
  H λwr U=>G4 r m md wk pl tx (s/86400) wr (eG.on U) ho (by omega) (by omega)
 have hdb:=H (Fw (aS r (s/86400)) Yn s f last s0 s1 f1 l1);have hct:(aS r (s/86400)).ct=r.ct:=by unfold aS;split;rfl;split;rfl;split;rfl;split;split<;>rfl;rfl
 have aoG:=ho.PH;have aoH:=ho.ct9;have PS:Hid (lk r s f last=iV s f last r.ct 0 (jc (aS r (s/86400)) s f last)):=H rfl;have hlf:∀k,LB m md wk pl k->k<W.heap.size:=λk Y=>eG.fO Y;obtain⟨a1,S⟩:=eG.ms.form;obtain⟨a2,e2⟩:=eG.mds.form;obtain⟨a3,e3⟩:=eG.wks.form;obtain⟨a4,e4⟩:=eG.pls.form;clear hR hO K ho bA;have tP:=H (λ(i:Nat) (d:Int) (h:(lk r s f last)[i]?=some d)=>hY i _ (qB h));clear hY;rw[lj];generalize lk r s f last=YS at *
 refine di func215 rfl ?_;simp only[ntmps215,Α,π,Η,Μ,Λ,τ,ρ,Β,υ,Ζ,Ε];refine bO λaqy hK=>bQ ?_;gi_wp2_with fail;refine bO λaqy hK=>bQ ?_;gi_wp2_with fail;have r6:=kC W [.func (.yield l) #[] #[]] 228 (θ #[V Z 0] 3);have r7:=kD W [V Z 0] 3 (θ #[.func (.yield l) #[] #[]] 228);have al:=mu W (θ #[.func (.yield l) #[] #[]] 228) (θ #[V Z 0] 3);have bA:((W.alloc (θ #[.func (.yield l) #[] #[]] 228)).alloc (θ #[V Z 0] 3)).heap.size=W.heap.size+2:=by simp
 refine bO λK1 fh=>bQ (wpIn_wide.2 ?_);generalize(W.alloc (θ #[.func (.yield l) #[] #[]] 228)).alloc (θ #[V Z 0] 3)=W2 at *
 have aqA:=afi l br bs bf bl bc W.heap.size (W.heap.size+1) W2 r m md wk pl tx s f last;have q1':=H λI (h:Below W2.heap.size W2 I)=>RQ ((q1.on al).on h);have q2':=H λI (h:Below W2.heap.size W2 I)=>dQ (((q2.on al).on h).cell (k:=0) rfl);have q3':=H λI (h:Below W2.heap.size W2 I)=>dQ (((q3.on al).on h).cell (k:=0) rfl);have yK:=H λI (h:Below W2.heap.size W2 I)=>dQ (((q4.on al).on h).cell (k:=0) rfl);refine iw (GV (λi=>10+i) (PR W2 r m md wk pl tx s f last)) (JV 46 (nA l br bs bf bl bc W.heap.size (W.heap.size+1)) W2) (by kernel_rfl) (by kernel_rfl) (by kernel_rfl) ?rops ?rdone ⟨rfl,rfl,λp J=>by
  simp only[nA,Χ,ύ,or_false]at J;rcases J with rfl|rfl|rfl|rfl|rfl|rfl|rfl|rfl<;>rfl,(μ _ _).drew⟩
 case rops=>
  intro i o ho a I hI hG;have hi:i<8:=(Array.getElem?_eq_some_iff.1 ho).1;have s1:a.eval (.tmp 1)=ε (some ⟨br,0,none⟩):=hI.fixed (1,_) (by simp[nA]);have s2:a.eval (.tmp 2)=ε (some ⟨bs,0,none⟩):=hI.fixed (2,_) (by simp[nA]);have s3:a.eval (.tmp 3)=ε (some ⟨bf,0,none⟩):=hI.fixed (3,_) (by simp[nA]);have s4:a.eval (.tmp 4)=ε (some ⟨bl,0,none⟩):=hI.fixed (4,_) (by simp[nA]);have ea:i=0\/i=1\/i=2\/i=3\/i=4\/i=5\/i=6\/i=7:=by omega
  rcases ea with rfl|rfl|rfl|rfl|rfl|rfl|rfl|rfl<;>obtain rfl:=Option.some.inj ho
  ·exact ai (v:=bG r.fq r.iv r.ct r.un m md wk pl r.ws tx) (aV rfl s1 (q1'.out _ hI.below)) (bp aqA hI)
  ·exact ai (v:=V Z s) (aV rfl s2 (q2'.out _ hI.below)) (bp aqA hI)
  ·have e:a.eval (.tmp 11)=V Z s:=aB hG 1;exact tZ (f:=51) (args:=#[a.eval (.tmp 11)]) (by kernel_rfl) (by rw[e];exact Vh.out I) (λaz U=>lV aqA rfl (by decide) hI U rfl)
  ·have S:a.eval (.tmp 10)=bG r.fq r.iv r.ct r.un m md wk pl r.ws tx:=aB hG 0;have e2:a.eval (.tmp 12)=aZ (s/86400):=aB hG 2;refine cI (f:=216) (args:=#[a.eval (.tmp 10),a.eval (.tmp 12)]) (by kernel_rfl) (by rw[S,e2];exact hSW.out I (al.trans (hI.below.mono al.size))) ?_ (by rintro c az ⟨_,_,_,e,_⟩;cases e) (by rintro az ⟨_,_,_,e,_⟩;cases e);rintro v az ⟨m',fP,fQ,e,A,M,h4⟩;cases e;exact lV aqA rfl (by decide) hI M ⟨m',fP,fQ,rfl,A,λk Y=>(h4 k Y).imp id λh=>φ hI.below.size h⟩
  ·exact ai (v:=V Z s) (aV rfl s2 (q2'.out _ hI.below)) (bp aqA hI)
  ·exact ai (v:=V Z f) (aV rfl s3 (q3'.out _ hI.below)) (bp aqA hI)
  ·exact ai (v:=V Z last) (aV rfl s4 (yK.out _ hI.below)) (bp aqA hI)
  obtain⟨m',fP,fQ,e3,A,h4⟩:∃m' fP fQ,a.eval (.tmp 13)=bG (aS r (s/86400)).fq (aS r (s/86400)).iv (aS r (s/86400)).ct (aS r (s/86400)).un m' fP fQ pl (aS r (s/86400)).ws tx/\eE I (aS r (s/86400)) m' fP fQ pl/\∀k,LB m' fP fQ pl k->LB m md wk pl k\/W2.heap.size<=k:=aB hG 3;have e4:a.eval (.tmp 14)=V Z s:=aB hG 4;have e5:a.eval (.tmp 15)=V Z f:=aB hG 5;have e6:a.eval (.tmp 16)=V Z last:=aB hG 6;refine cI (f:=217) (args:=#[a.eval (.tmp 13),a.eval (.tmp 14),a.eval (.tmp 15),a.eval (.tmp 16)]) (by kernel_rfl) (by
   rw[e3,e4,e5,e6];exact Ym _ _ _ _ _ m' fP fQ pl tx s f last I (by obtain⟨x,e⟩:=A.ms.form;exact⟨_,_,_,e⟩) (by obtain⟨x,e⟩:=A.mds.form;exact⟨_,_,_,e⟩) (by obtain⟨x,e⟩:=A.wks.form;exact⟨_,_,_,e⟩) (by obtain⟨x,e⟩:=A.pls.form;exact⟨_,_,_,e⟩)) ?_ (by rintro c az ⟨e,_⟩;cases e) (by rintro az ⟨e,_⟩;cases e)
  rintro v az ⟨e,rfl⟩;cases e;obtain⟨x0,x1,x2,x3,xb⟩:=afg I (bX (aS r (s/86400)).fq (aS r (s/86400)).iv (aS r (s/86400)).ct (aS r (s/86400)).un m' fP fQ pl (aS r (s/86400)).ws tx) 96 (V Z s) (V Z f) (V Z last) 3 3 3;exact lV aqA rfl (by decide) hI xb ⟨m',fP,fQ,I.heap.size,rfl,hI.below.size,x0,x1,x2,x3,A.on xb,h4⟩
 case rdone=>
  intro a w3 hI hG;obtain⟨m',fP,fQ,b,Eu,U,x0,x1,x2,x3,vk,hLB⟩:∃m' fP fQ b,a.eval (.tmp 17)=.func (.func 245) #[] #[ε (some ⟨b+1,0,none⟩),ε (some ⟨b,0,none⟩),ε (some ⟨b+2,0,none⟩),ε (some ⟨b+3,0,none⟩)]/\W2.heap.size<=b/\
   X w3 b (bX (aS r (s/86400)).fq (aS r (s/86400)).iv (aS r (s/86400)).ct (aS r (s/86400)).un m' fP fQ pl (aS r (s/86400)).ws tx) 96/\X w3 (b+1) [V Z s] 3/\X w3 (b+2) [V Z f] 3/\X w3 (b+3) [V Z last] 3/\
   eE w3 (aS r (s/86400)) m' fP fQ pl/\∀k,LB m' fP fQ pl k->LB m md wk pl k\/W2.heap.size<=k:=hG 7 (by decide)
  have s0':a.eval (.tmp 0)=.func (.yield l) #[] #[]:=hI.fixed (0,_) (by simp[nA]);have s1':a.eval (.tmp 1)=ε (some ⟨br,0,none⟩):=hI.fixed (1,_) (by simp[nA]);have s2':a.eval (.tmp 2)=ε (some ⟨bs,0,none⟩):=hI.fixed (2,_) (by simp[nA]);have s3':a.eval (.tmp 3)=ε (some ⟨bf,0,none⟩):=hI.fixed (3,_) (by simp[nA]);have s4':a.eval (.tmp 4)=ε (some ⟨bl,0,none⟩):=hI.fixed (4,_) (by simp[nA]);have s5':a.eval (.tmp 5)=ε (some ⟨bc,0,none⟩):=hI.fixed (5,_) (by simp[nA]);have s6':a.eval (.tmp 6)=ε (some ⟨W.heap.size,0,none⟩):=hI.fixed (6,_) (by simp[nA]);have s7':a.eval (.tmp 7)=ε (some ⟨W.heap.size+1,0,none⟩):=hI.fixed (7,_) (by simp[nA]);have aP:=hI.below;have fc:=hI.size;have fi:=hI.defers;clear hI hG aqA q1' q2' q3' yK hSW Vh;refine fh a w3 ?_;clear fh;obtain⟨fr,rfl,hf⟩:=Vj a fc fi;have g0:=(hf 0).symm.trans s0';have g1:=(hf 1).symm.trans s1';have g2:=(hf 2).symm.trans s2';have g3:=(hf 3).symm.trans s3';have g4:=(hf 4).symm.trans s4';have g5:=(hf 5).symm.trans s5';have g6:=(hf 6).symm.trans s6';have g7:=(hf 7).symm.trans s7';have g17:=(hf 17).symm.trans Eu;rw[g0,g1,g2,g3,g4,g5,g6,g7,g17];clear hf fc fi s0' s1' s2' s3' s4' s5' s6' s7' Eu g0 g1 g2 g3 g4 g5 g6 g7 g17;have hit:=Vg (aS r (s/86400)) m' fP fQ pl tx s f last (b+1) b (b+2) (b+3) w3 vk Yn s0 s1 f0 f1 l0 l1 x1 x0 x2 x3;have eM:=al.trans (aP.mono al.size);have tO:W.heap.size+2<=w3.heap.size:=by have:=aP.size;omega
  replace r6:=r6.on aP;replace r7:=r7.on aP;have akH:∀k,(k=b+1\/k=b\/k=b+2\/k=b+3\/LB m' fP fQ pl k)->k<w3.heap.size:=λk Y=>by
   rcases Y with rfl|rfl|rfl|rfl|h
   ·exact x1.lt
   ·exact x0.lt
   ·exact x2.lt
   ·exact x3.lt
   exact vk.fO h
  have hOR:∀k,(O k\/k=W.heap.size+1)->¬(k=b+1\/k=b\/k=b+2\/k=b+3\/LB m' fP fQ pl k):=λk Y bV=>by
   have fD:k<W2.heap.size:=Y.elim (λh=>by have:=cM.1 k h;omega) (λh=>by omega);rcases bV with h|h|h|h|h
   ·omega
   ·omega
   ·omega
   ·omega
   rcases hLB k h with h'|h'
   ·rcases Y with Y|Y
    ·exact nOL k Y h'
    have:=hlf k h';omega
   omega
  clear x0 x1 x2 x3 vk hLB U S e2 e3 e4 Yn;obtain⟨O1,hdm⟩:=hdb.out;generalize jc (aS r (s/86400)) s f last=XS at *
  clear hct hdb;generalize r.ct=ct at *
  refine gj ?_;have eg:∀args w,(callFunc 245 args).run prog w=.ok (.enter 245 args) w:=enters_of func245 (by kernel_rfl) rfl;refine kY (gf:=245) (lb:=#[ε (some ⟨b+1,0,none⟩),ε (some ⟨b,0,none⟩),ε (some ⟨b+2,0,none⟩),ε (some ⟨b+3,0,none⟩)]) func215 ?g eg hit (κ _) (λ_ _=>rfl) akH
   (λk=>O k\/k=W.heap.size+1) hOR (DJ O W (W.heap.size+1) aqx λq i c=>q<=YS.length/\YS.drop q=iV s f last ct c (XS.drop i)) (pR O W (aqx YS.length) Js) (λc=>DX O W (Jp c)) ?ps ?start ?round ?done ?stop ?pan
  case g=>rfl
  case ps=>intro x N;obtain⟨d,_,rfl⟩:=List.mem_map.1 N;rfl
  case start=>exact DJ.cQ (λk Y=>Y.elim (λh=>by have:=cM.1 k h;omega) (λh=>by omega)) ⟨.inr rfl,0,0,O,Int.le_refl _,by simp,λh=>by have:=cM.1 _ h;omega,⟨λk Y=>.inl Y,λk Y=>.inl Y,λk Y=>Y,cM.below eM⟩,r7,Nat.zero_le _,by simpa using PS.out⟩
  case stop=>
   rintro c W4 ⟨N,D,cx,_,aG⟩ hs bM;have dY:aj O W (W4.putObj w3.heap.size (.deferred none)):=((aj.aq eM).trans N (λk Y=>Y.imp id λh=>by omega)).put (.inr (by omega)) _;have cO:¬D w3.heap.size:=λh=>(cx _ h).elim (λh=>h.elim (λh=>by have:=cM.1 _ h;omega) (by omega)) (by omega);obtain⟨rfl,h⟩:=aG.out;have fG:=H (show aO O W.heap.size (aqx YS.length) W (W4.putObj w3.heap.size (.deferred none))\/aO O W.heap.size Js W (W4.putObj w3.heap.size (.deferred none))from by
    rcases h with⟨D0,h⟩|⟨D0,h⟩
    ·exact .inl ((h.put cO _).fin dY)
    exact .inr ((h.put cO _).fin dY))
   clear h aG cx;gi_wp2_with fail;refine⟨by simp,.inl ⟨_,_,rfl,run_takeDeferred bM,?_⟩⟩;exact⟨_,results_none rfl _ _ _,.inl ⟨⟨_,rfl⟩,fG.out⟩⟩
  case pan=>
   rintro c W4 ⟨N,D,cx,_,aG⟩ hs bM;have dY:aj O W (W4.putObj w3.heap.size (.deferred none)):=((aj.aq eM).trans N (λk Y=>Y.imp id λh=>by omega)).put (.inr (by omega)) _;have cO:¬D w3.heap.size:=λh=>(cx _ h).elim (λh=>h.elim (λh=>by have:=cM.1 _ h;omega) (by omega)) (by omega);obtain⟨D0,h⟩:=aG.out;refine⟨by simp,.inl ⟨_,_,rfl,run_takeDeferred bM,?_⟩⟩;exact .inr ⟨c,rfl,(h.put cO _).fin dY⟩
  case done=>
   rw[lj];rintro W4 ⟨N,D,cx,_,aG⟩ hs bM;have dY:aj O W (W4.putObj w3.heap.size (.deferred none)):=((aj.aq eM).trans N (λk Y=>Y.imp id λh=>by omega)).put (.inr (by omega)) _;have cO:¬D w3.heap.size:=λh=>(cx _ h).elim (λh=>h.elim (λh=>by have:=cM.1 _ h;omega) (by omega)) (by omega);obtain⟨_,c,q,D0,_,_,_,bu,_,hq,kT⟩:=aG.out;have ze:q=YS.length:=mR (by rw[kT,List.drop_length];rfl) hq;refine⟨by simp,.inl ⟨_,_,rfl,run_takeDeferred bM,?_⟩⟩;exact⟨_,results_none rfl _ _ _,.inl ⟨⟨_,rfl⟩,.inl (by rw[<-ze];exact(bu.put cO _).fin dY)⟩⟩
  case round=>
   intro BA i x N W4 D yM hs dT aG aqy hK;obtain⟨d,hd⟩:∃d,XS[i]?=some d:=⟨_,Γ (by have:=(List.getElem?_eq_some_iff.1 N).1;rwa [lj]at this)⟩;rw[qB hd]at N;cases N;have Fv:=hdm d (ϊ hd);have jw:=(List.getElem?_eq_some_iff.1 hd).1;have vF:=H (drop_one hd);clear hd hdm;unfold aZ cV;gi_wp2_with fail;have sb:Below W4.heap.size W4 (W4.alloc (θ #[V Z (ag.au d),V Z (ag.ofM d),V Z (ag.aA d)] 88)):=(μ _ _).alloc (κ _) _;refine hK _ _ (λk=>D k\/k=W4.heap.size) sb (λk Y=>Y.imp id λh=>by omega) (λk Y=>.inl Y) (λk Y=>Y.elim (λh=>by have:=aG.1 k h;simp;omega) (λh=>by simp;omega)) ?_;intro l' W5 fD bN rB;have q8:=(X.new W4 [V Z (ag.au d),V Z (ag.ofM d),V Z (ag.aA d)] 88).keep (fD _ (.inr rfl));have dX:=aG.on (W':=W5) λk Y=>(fD k (.inl Y)).trans (sb.block k (aG.1 k Y));have mq:aj O W W5:=(aj.aq eM).trans bN (λk Y=>Y.imp id λh=>by omega);have q6:=r6.aM bN (show¬(O W.heap.size\/W.heap.size=W.heap.size+1)from λh=>h.elim (λh=>by have:=cM.1 _ h;omega) (by omega));have dP:∀k,D k\/k=W4.heap.size->k<W5.heap.size:=λk Y=>Y.elim (dX.1 k) (λh=>by have:=q8.lt;omega);have hW4:¬D W4.heap.size:=λh=>by have:=aG.1 _ h;omega
   have wF:W.heap.size<=W5.heap.size:=by omega
   clear hK sb fD hit aG al aP r7;obtain⟨p8,c,q,D0,hc0,hci,h7,bu,q7,hq,kT⟩:=dX.out;clear dX;have h8:¬D0 W4.heap.size:=λh=>hW4 (bu.sub _ h);replace bu:=bu.wide (D':=λk=>D k\/k=W4.heap.size) λk Y=>.inl Y;obtain⟨c0,c1,c2,_,_,_⟩:=bW q8;gi_wp2_with fail;refine(CallsIn.inRound l' (callsIn_wide.2 (GR d W5 (by omega) (by omega)))).mono ?_;rintro e W6 ⟨rfl,cL⟩;clear c0 c1 c2;have G5:aj O W W6:=mq.aK (aj.aq cL);have y1:=q1.aM G5 Jg;have y2:=q2.aM G5 Ir;have y3:=q3.aM G5 Tk;have y4:=q4.aM G5 Of;have y5:=q5.aM G5 nO5;have y6:=q6.on cL;have y7:=q7.on cL;have y8:=q8.on cL;replace bu:=bu.below cL;have tQ:=cL.size;have DZ:∀k,D k\/k=W4.heap.size->k<W6.heap.size:=λk Y=>χ (dP k Y) tQ;have G6:aj (λk=>D k\/k=W4.heap.size) W5 W6:=aj.aq cL;have n17:br≠W.heap.size+1:=λe=>by have:=q1.lt;omega
   unfold bX at y1;have g2:=y2.cell (k:=0) rfl;have g3:=y3.cell (k:=0) rfl;have g4:=y4.cell (k:=0) rfl;have g5:=y5.cell (k:=0) rfl;have g6:=y6.cell (k:=0) rfl;obtain⟨c0,c1,c2,_,_,_⟩:=bW y8;have ga:Hid (YS.drop q=if d*86400<s-s%86400 then iV s f last ct c (XS.drop (i+1))else if last<d*86400 then[]else(if f-s%86400<=d*86400 then[d]else[])++(if c+1=ct then[]else iV s f last ct (c+1) (XS.drop (i+1)))):=H (by rw[kT,vF.out,iV]);clear kT vF cL q6 q7 q8 y2 y3 y4 y5 y6 y8 mq dP;have akI:0<=s%86400/\s%86400<86400:=by omega
   generalize hM:s%86400=aqz at *
   clear hM;have hB:-40000000<=d*86400/\d*86400<=30000000000:=by omega
   by_cases hA:d*86400<s-aqz
   case pos=>
    have Vl:=H (show YS.drop q=iV s f last ct c (XS.drop (i+1))from by rw[ga.out,if_pos hA]);clear ga;gi_wp2_with fail;exact⟨G6,λk=>D k\/k=W4.heap.size,λk Y=>.inl Y,λk Y=>Y,DJ.cQ DZ ⟨.inl p8,c,q,D0,hc0,by omega,h7,bu,y7,hq,Vl.out⟩⟩
   case neg=>
    by_cases hLa:last<d*86400
    case pos=>
     have ze:Hid (q=YS.length):=H (mR (by rw[ga.out,if_neg hA,if_pos hLa]) hq);clear ga;gi_wp2_with fail;refine⟨G6,λk=>D k\/k=W4.heap.size,λk Y=>.inl Y,λk Y=>Y,pR.onX (DX.cQ DZ ⟨D0,?_⟩)⟩;rw[<-ze.out];exact bu
    case neg=>
     by_cases hF:f-aqz<=d*86400
     case pos=>
      have iI:=H (show YS.drop q=d::(if c+1=ct then[]else iV s f last ct (c+1) (XS.drop (i+1)))from by rw[ga.out,if_neg hA,if_neg hLa,if_pos hF];rfl);clear ga;obtain⟨pM,lG,zf⟩:=oP iI.out;replace lG:=H lG;obtain⟨D6,tR,D7,D8,gC,eB⟩:=tP.out q d pM W6 D0 G5 bu.dO bu.Od bu.on;unfold aZ cV at gC;clear pM iI;gi_wp2_with fail;refine(RoundIn.inRound l' eB).mono ?_;clear gC eB g2 g3 g4 g5 g6 c0 c1 c2;rintro e WX (⟨rfl,J⟩|⟨rfl,J⟩|⟨ch,rfl,J⟩)
      case inl=>
       obtain⟨eQ,dZ,mr,je⟩:=bu.post (by omega) J;have eL:aj (λk=>D k\/k=W4.heap.size) W5 WX:=G6.trans je (λk Y=>.inl (bu.sub k Y));have z7:=y7.aM je h7;have z1:=y1.aM je (λh=>(bu.dO _ h).elim Jg (by have:=q1.lt;omega));have Vm:¬eQ (W.heap.size+1):=λh=>(mr _ h).elim h7 (by omega);have Fx:∀k,(D k\/k=W4.heap.size)\/eQ k->(D k\/k=W4.heap.size)\/W5.heap.size<=k:=λk Y=>Y.elim .inl λh=>(mr k h).elim (λh=>.inl (bu.sub k h)) (λh=>.inr (by omega));have Vn:∀k,D k\/k=W4.heap.size->(D k\/k=W4.heap.size)\/eQ k:=λk Y=>.inl Y;have rF:∀k,(D k\/k=W4.heap.size)\/eQ k->k<WX.heap.size:=λk Y=>Y.elim (λh=>χ (DZ k h) je.size) (λh=>dZ.on.1 k h);have hbX:(D (W.heap.size+1)\/W.heap.size+1=W4.heap.size)\/eQ (W.heap.size+1):=.inl (.inl p8);have Fy:=lG;have Vo:=zf;clear J je mr lG zf bu y7 y1;have g7:=z7.cell (k:=0) rfl;have f7:=z7.free (k:=0);have Vp:X (WX.setCell ⟨W.heap.size+1,0,none⟩ (V Z (c+1))) (W.heap.size+1) [V Z (c+1)] 3:=z7.set (k:=0) (V Z (c+1));have z1n:=z1.other (b:=W.heap.size+1) (k:=0) n17 (V Z (c+1));have g7n:=Vp.cell (k:=0) rfl;have g1n:=z1n.cell (k:=2) rfl;have MN:=dZ.set (o:=0) Vm (V Z (c+1));have MO:=H (eL.setCell (p:=⟨W.heap.size+1,0,none⟩) (.inl (.inl p8)) (V Z (c+1)));have MP:(WX.setCell ⟨W.heap.size+1,0,none⟩ (V Z (c+1))).heap.size=WX.heap.size:=ν _ _ _;by_cases zg:c+1=ct
       case pos=>
        have ze:Hid ((q+1)=YS.length):=H (mR (by rw[Fy.out,if_pos zg]) Vo);clear Fy;subst zg;gi_wp2_with fail;refine⟨MO.out,(λk=>(D k\/k=W4.heap.size)\/eQ k),Fx,Vn,pR.onX (DX.cQ (λk Y=>by rw[MP];exact rF k Y) ⟨eQ,by rw[<-ze.out];exact MN⟩)⟩
       case neg=>
        have Vl:=H (show YS.drop (q+1)=iV s f last ct (c+1) (XS.drop (i+1))from by rw[Fy.out,if_neg zg]);have akJ:(c+1==ct)=false:=by simpa using zg
        clear Fy;gi_wp2_with fail;exact⟨MO.out,(λk=>(D k\/k=W4.heap.size)\/eQ k),Fx,Vn,DJ.cQ (λk Y=>by rw[MP];exact rF k Y) ⟨hbX,c+1,(q+1),_,by omega,by omega,Vm,MN,Vp,Vo,Vl.out⟩⟩
      case inr.inl=>
       obtain⟨eQ,dZ,mr,je⟩:=bu.post (by omega) J;have eL:=H (G6.trans je (λk Y=>.inl (bu.sub k Y)):aj (λk=>D k\/k=W4.heap.size) W5 WX);have Fx:∀k,(D k\/k=W4.heap.size)\/eQ k->(D k\/k=W4.heap.size)\/W5.heap.size<=k:=λk Y=>Y.elim .inl λh=>(mr k h).elim (λh=>.inl (bu.sub k h)) (λh=>.inr (by omega));have rF:∀k,(D k\/k=W4.heap.size)\/eQ k->k<WX.heap.size:=λk Y=>Y.elim (λh=>χ (DZ k h) je.size) (λh=>dZ.on.1 k h);clear J je;gi_wp2_with fail;exact⟨eL.out,λk=>(D k\/k=W4.heap.size)\/eQ k,Fx,λk Y=>.inl Y,pR.Sv (DX.cQ rF ⟨_,dZ⟩)⟩
      case inr.inr=>
       obtain⟨eQ,dZ,mr,je⟩:=bu.post (by omega) J;have eL:=H (G6.trans je (λk Y=>.inl (bu.sub k Y)):aj (λk=>D k\/k=W4.heap.size) W5 WX);have Fx:∀k,(D k\/k=W4.heap.size)\/eQ k->(D k\/k=W4.heap.size)\/W5.heap.size<=k:=λk Y=>Y.elim .inl λh=>(mr k h).elim (λh=>.inl (bu.sub k h)) (λh=>.inr (by omega));have rF:∀k,(D k\/k=W4.heap.size)\/eQ k->k<WX.heap.size:=λk Y=>Y.elim (λh=>χ (DZ k h) je.size) (λh=>dZ.on.1 k h);clear J je;gi_wp2_with fail;exact⟨rfl,eL.out,λk=>(D k\/k=W4.heap.size)\/eQ k,Fx,λk Y=>.inl Y,DX.cQ rF ⟨_,dZ⟩⟩
     case neg=>
      have Fy:=H (show YS.drop q=(if c+1=ct then[]else iV s f last ct (c+1) (XS.drop (i+1)))from by rw[ga.out,if_neg hA,if_neg hLa,if_neg hF];rfl);clear ga;have z7:=y7;have z1:=y1;have dZ:=bu;have Vm:=h7;have eL:=G6;have Fx:∀k,D k\/k=W4.heap.size->(D k\/k=W4.heap.size)\/W5.heap.size<=k:=λk Y=>.inl Y;have Vn:∀k,D k\/k=W4.heap.size->D k\/k=W4.heap.size:=λk Y=>Y;have rF:=DZ;have hbX:D (W.heap.size+1)\/W.heap.size+1=W4.heap.size:=.inl p8;have Vo:=hq;clear bu y7 y1;have g7:=z7.cell (k:=0) rfl;have f7:=z7.free (k:=0);have Vp:X (W6.setCell ⟨W.heap.size+1,0,none⟩ (V Z (c+1))) (W.heap.size+1) [V Z (c+1)] 3:=z7.set (k:=0) (V Z (c+1));have z1n:=z1.other (b:=W.heap.size+1) (k:=0) n17 (V Z (c+1));have g7n:=Vp.cell (k:=0) rfl;have g1n:=z1n.cell (k:=2) rfl;have MN:=dZ.set (o:=0) Vm (V Z (c+1));have MO:=H (eL.setCell (p:=⟨W.heap.size+1,0,none⟩) (.inl (.inl p8)) (V Z (c+1)));have MP:(W6.setCell ⟨W.heap.size+1,0,none⟩ (V Z (c+1))).heap.size=W6.heap.size:=ν _ _ _;by_cases zg:c+1=ct
      case pos=>
       have ze:Hid (q=YS.length):=H (mR (by rw[Fy.out,if_pos zg]) Vo);clear Fy;subst zg;gi_wp2_with fail;refine⟨MO.out,(λk=>D k\/k=W4.heap.size),Fx,Vn,pR.onX (DX.cQ (λk Y=>by rw[MP];exact rF k Y) ⟨D0,by rw[<-ze.out];exact MN⟩)⟩
      case neg=>
       have Vl:=H (show YS.drop q=iV s f last ct (c+1) (XS.drop (i+1))from by rw[Fy.out,if_neg zg]);have akJ:(c+1==ct)=false:=by simpa using zg
       clear Fy;gi_wp2_with fail;exact⟨MO.out,(λk=>D k\/k=W4.heap.size),Fx,Vn,DJ.cQ (λk Y=>by rw[MP];exact rF k Y) ⟨hbX,c+1,q,_,by omega,by omega,Vm,MN,Vp,Vo,Vl.out⟩⟩
end
section
open Go.Maps Go.ChangeMaps Go.WideElems Go.MapKept
theorem Vq:prog.cellsOf 3=1:=by kernel_rfl
theorem KS:laidOutB prog=true:=by kernel_rfl
theorem Vr:(88:Ω)<prog.types.size:=of_decide_eq_true (by kernel_rfl)
theorem ab1:(match prog.underlying 88 with|some (.array _ _)|some (.struct _)=>true|_=>false)=true:=by rw[underlying88]
theorem Vs:WideMaps.KeyLaw prog 88:=deep_law_laid KS (m:=2) (by omega) Vr (by kernel_rfl) ab1
theorem jn:Keyed prog 88:=Keyed.of_law Vs
theorem PT (w:ι):(zeroValue 3).run prog w=.ok (V Z 0) w:=by kernel_rfl
theorem ab2:prog.keyType 88=true:=by kernel_rfl
theorem Yo:prog.cellsOf 88=3:=by kernel_rfl
theorem KT {n k:Nat}(h:k<n):∃j,n=j+1:=⟨n-1,by omega⟩
def kL (n:Int):Lit:=Lit.string (keyBytes [Lit.int Z (ag.au n),Lit.int Z (ag.ofM n),Lit.int Z (ag.aA n)])
theorem Ke (n:Int)(h0:-700000<=n)(G:n<=900000):keyOf prog 88 (aZ n)=some (kL n):=by
 have hr:=lh n h0 G;have w1:(Lit.int Z (ag.au n)).wf=true:=WalkArith.wf_i64 (by omega);have w2:(Lit.int Z (ag.ofM n)).wf=true:=WalkArith.wf_i64 (by omega);have w3:(Lit.int Z (ag.aA n)).wf=true:=WalkArith.wf_i64 (by omega);unfold keyOf aZ cV kL;obtain⟨k,Y⟩:=KT Vr;rw[underlying88,ab2,Y];simp[Value.formed,underlying88,Yo,Value.cells,Program.keyLits,Vq,underlying3,w1,w2,w3,List.range_succ]
theorem Vt {a b:Int}(h0:-700000<=a)(G:a<=900000)(k0:-700000<=b)(k1:b<=900000)(h:kL a=kL b):a=b:=
 US h0 k0 (jn.inj (Ke a h0 G) (by rw[h];exact Ke b k0 k1))
theorem AQ {α:Type}{a b:α}{w I:ι}(h:(Result.ok a w:Result α)=.ok b I):a=b/\w=I:=by cases h;exact⟨rfl,rfl⟩
theorem ab3 {a b:Int}(h:(DataW.lit (Lit.int Z a):DataW Unit)=.lit (Lit.int Z b)):a=b:=by cases h;rfl
theorem int_inj {a b:Int}(h:(Value.int Z a)=V Z b):a=b:=by cases h;rfl
def lQ (w:ι)(b n:Nat)(ds:List Int):Prop:=
 ∃D:DataW Unit,w.ownsMap prog 88 (plainElem prog 3) b n D/\∀d,-700000<=d->d<=900000->D.atKey (kL d) (.lit (Lit.int Z 0))=.lit (Lit.int Z (ds.count d))
theorem lQ.lt {w:ι}{b n:Nat}{ds:List Int}(h:lQ w b n ds):b<w.heap.size:=by obtain⟨D,h,_⟩:=h;exact h.lt
theorem lQ.keep {w I:ι}{b n:Nat}{ds:List Int}(h:lQ w b n ds)(e:I.heap[b]?=w.heap[b]?):lQ I b n ds:=by
 obtain⟨D,⟨es,clock,U,F,hs,hD⟩,A⟩:=h;exact⟨D,⟨es,clock,e.trans U,F,hs,hD⟩,A⟩
theorem lQ.made (w:ι):lQ (w.alloc (.map #[] 0)) w.heap.size 0 []:=
 ⟨.map [],World.ownsMap_made w _ _ _,λd _ _=>by simp[DataW.atKey]⟩
theorem lQ.look {w:ι}{b n:Nat}{ds:List Int}(h:lQ w b n ds)(d:Int)(h0:-700000<=d)(G:d<=900000):
 (Ψ 194 (.map (some b)) (aZ d) false).run prog w=.ok (V Z (ds.count d)) w:=by
 obtain⟨D,aX,hD⟩:=h;obtain⟨c,jy,PM,_⟩:=aX.lookup_int jn underlying194 underlying3 (PT w) (Ke d h0 G);rw[hD d h0 G]at PM;rw[jy,ab3 PM]
theorem AR {w I:ι}{k:Ω}{R:Value->Option (DataW Unit×List MemPlace)}{b n:Nat}{D:DataW Unit}(h:w.ownsMap prog k R b n D)(e:I.heap[b]?=w.heap[b]?):I.ownsMap prog k R b n D:=by
 obtain⟨es,clock,U,F,hs,hD⟩:=h;exact⟨es,clock,e.trans U,F,hs,hD⟩
theorem Jh {w:ι}{k:Ω}{R:Value->Option (DataW Unit×List MemPlace)}{b n:Nat}{D:DataW Unit}(h:w.ownsMap prog k R b n D):IsMap D:=h.isMap
theorem lQ.entry {w:ι}{b n:Nat}{ds:List Int}(h:lQ w b n ds)(hn:n<1000000)(d:Int)(h0:-700000<=d)(G:d<=900000):
 ∃(v0:Value) (st:Int) (W1:ι),(Instr.mapEntry 194 (.map (some b)) (aZ d)).run prog w=.ok (.tuple #[v0,V Z st]) W1/\lQ W1 b (n+1) ds/\aj (λk=>k=b) w W1/\
  ∀c:Int,0<=c->c<=1000000->c=ds.count d+1->∃W2,(Instr.entryStore 194 (.map (some b)) (V Z st) (V Z c)).run prog W1=.ok () W2/\lQ W2 b (n+1) (d::ds)/\aj (λk=>k=b) w W2:=by
 have agI:=h.look d h0 G;obtain⟨D,aX,hD⟩:=h;have uO:=Ke d h0 G;obtain⟨kl,pf⟩:∃kl,kL d=kl:=⟨_,rfl⟩;rw[pf]at uO;have ie:=jn.key uO;have hm:n<maxLen:=by unfold maxLen;omega
 obtain⟨es,clock,U,F,hs,uy⟩:=aX;have aX:w.ownsMap prog 88 (plainElem prog 3) b n D:=⟨es,clock,U,F,hs,uy⟩;obtain⟨v0,st,es1,MQ,RR,aoI,iI⟩:=entry_then_store Vs underlying194 PT U F uO;have hblk:(setBlock w b (.map es1 MQ)).heap[b]?=some (.map es1 MQ):=heap_setBlock_same U _;have hex:∀o,aj (λk=>k=b) w (setBlock w b o):=λo=>⟨rfl,rfl,rfl,by simp[setBlock],λk _ Y=>heap_setBlock_other U _ Y⟩;have wK:lQ (setBlock w b (.map es1 MQ)) b (n+1) ds:=by
  rcases jn.find w uO es.toList F.keys with⟨f1,f2⟩|⟨j,e0,f1,f2,f3⟩
  ·have kM:(Instr.mapEntry 194 (.map (some b)) (aZ d)).run prog w=.ok (.tuple #[V Z 0,goInt clock]) (setBlock w b (.map (es.push ⟨aZ d,V Z 0,clock⟩) (clock+1))):=by
    simp[Instr.mapEntry,run_underlying underlying194,ξ U,jn.check w false uO,f1,Δ _ U,Θ,setBlock]
   have hu1:(ώ 194 (.map (some b)) (aZ d) (V Z 0)).run prog w=.ok () (setBlock w b (.map (es.push ⟨aZ d,V Z 0,clock⟩) (clock+1))):=by
    simp[ώ,run_underlying underlying194,ξ U,jn.check w false uO,f1,Δ _ U,Θ,setBlock]
   have yP:(Ψ 194 (.map (some b)) (aZ d) false).run prog w=.ok (V Z 0) w:=by
    simp[Ψ,run_underlying underlying194,ξ U,jn.check w _ uO,f1,Θ]
   rw[agI]at yP;have hz:((ds.count d:Nat):Int)=0:=int_inj (AQ yP).1;obtain⟨I,tt,gU,_⟩:=aX.update jn underlying194 hm uO (plainElem_int underlying3 (show(Lit.int Z 0).wf=true by decide));rw[hu1]at tt;replace tt:=(AQ tt).2;rw[RR]at kM;replace kM:=(AQ kM).2;rw[kM,tt];refine⟨_,gU,λd' k0 k1=>?_⟩;by_cases Fv:d'=d
   ·subst Fv;rw[pf,atKey_put_same (Jh aX) ie,hz]
   rw[atKey_put_other (λe=>Fv (Vt k0 k1 h0 G (e.trans pf.symm)))];exact hD d' k0 k1
  have hj:es[j]?=some e0:=by simpa using f2
  have agJ:es.modify j (λe=>{e with key:=aZ d})=es:=by
   apply Array.ext';rw[Array.toList_modify,modify_eq_set _ _ _ _ f2];have:({e0 with key:=aZ d}:MapEntry)=e0:=by rw[<-f3]
   rw[this];exact set_self _ _ _ f2
  have kM:(Instr.mapEntry 194 (.map (some b)) (aZ d)).run prog w=.ok (.tuple #[e0.val,goInt e0.born]) (setBlock w b (.map es clock)):=by
   simp[Instr.mapEntry,run_underlying underlying194,ξ U,jn.check w false uO,f1,hj,f3,jn.stays w uO,agJ,Δ _ U,Θ,setBlock]
  rw[RR]at kM;replace kM:=(AQ kM).2;rw[kM];exact⟨D,(AR aX (by rw[heap_setBlock_same U,U])).mono (by omega),hD⟩
 refine⟨v0,st,_,RR,wK,hex _,λc hc0 Hq hc=>?_⟩;obtain⟨Y6,ans,akK,F9⟩:=iI _ (V Z c) hblk;obtain⟨I,tt,gU,_⟩:=aX.update jn underlying194 hm uO (plainElem_int underlying3 (show(Lit.int Z c).wf=true from WalkArith.wf_i64 (by omega)));rw[F9]at tt;replace tt:=(AQ tt).2;refine⟨_,akK,⟨_,AR gU ?_,λd' k0 k1=>?_⟩,?_⟩
 ·rw[<-tt,heap_setBlock_same U,heap_setBlock_same hblk]
 ·by_cases Fv:d'=d
  ·subst Fv;rw[pf,atKey_put_same (Jh aX) ie,List.count_cons_self,hc];simp
  rw[atKey_put_other (λe=>Fv (Vt k0 k1 h0 G (e.trans pf.symm))),List.count_cons_of_ne (λe=>Fv e.symm)];exact hD d' k0 k1
 exact(hex _).aK ⟨rfl,rfl,rfl,by simp[setBlock],λk _ Y=>heap_setBlock_other hblk _ Y⟩
end
section
open Go.Sort
attribute [local go_sem] Oper.semAt_some
attribute [local go_sem] bK aU
attribute [local simp] bK aU
def cE (u:ByteArray)(st ln:Int)(hr:Bool)(r:aE)(m md wk pl:Value)(tx:ByteArray)(aI aH:Value)(tr:Bool)(k:Int):List Value:=
 [η u,V Z st,V Z ln,.bool hr,V Z r.fq,V Z r.iv,V Z r.ct,V Z r.un,m,md,wk,pl,V Z r.ws,η tx,aI,aH,.bool tr,V Z k]
theorem dc.keep {w I:ι}{v:Value}{zs:List Int}(h:dc w v zs)(Y:∀k,v.ownBlock=some k->I.heap[k]?=w.heap[k]?):dc I v zs:=
 h.imp id λ⟨g,cap,rest,G,A⟩=>⟨g,cap,rest,G,(Y g (by rw[G];rfl)).trans A⟩
theorem dc.fO {w:ι}{v:Value}{zs:List Int}(h:dc w v zs){k:Nat}(e:v.ownBlock=some k):k<w.heap.size:=by
 rcases h with⟨rfl,_⟩|⟨g,cap,rest,rfl,A⟩
 ·cases e
 cases e;exact A.lt
theorem dc.sl {w:ι}{v:Value}{zs:List Int}(h:dc w v zs):∃a c,v=ζ a zs.length c:=by
 rcases h with⟨rfl,rfl⟩|⟨g,cap,rest,rfl,_⟩<;>exact⟨_,_,rfl⟩
theorem dc.cell {w:ι}{a:Option Addr}{n c i:Nat}{zs:List Int}{z:Int}(h:dc w (ζ a n c) zs)(hz:zs[i]?=some z):∃g,a=some ⟨g,0,none⟩/\w.cell? ⟨g,i,none⟩=some (V Z z):=by
 rcases h with⟨_,rfl⟩|⟨g,cap,rest,e,hr⟩
 ·simp at hz
 cases e;refine⟨g,rfl,hr.cell ?_⟩;have hi:=(List.getElem?_eq_some_iff.1 hz).1;rw[List.getElem?_map,Φ hi,hz];rfl
theorem Vu (u:ByteArray)(st ln:Int)(hr:Bool)(r:aE)(m md wk pl:Value)(tx:ByteArray)(aI aH:Value)(ex:List Int)(tr:Bool)(k:Int)(w:ι)(hm:∃a n c,m=ζ a n c)(hmd:∃a n c,md=ζ a n c)(Mu:∃a n c,wk=ζ a n c)(pT:∃a n c,pl=ζ a n c)(lT:∃a n c,aH=ζ a n c)
 (hex:dc w aI ex)(hle:ex.length<=1000)(U:∀t∈ex,0<=t/\t<=7258118400)(s0:0<=st):
 Ι prog 144 #[.agg (cE u st ln hr r m md wk pl tx aI aH tr k).toArray] w λe I=>∃b n ds,e=δ (.map (some b))/\w.heap.size<=b/\lQ I b n ds/\(∀d,d∈ds↔∃t∈ex,t%86400=st%86400/\t/86400=d)/\Below w.heap.size w I:=by
 obtain⟨a1,n1,c1,rfl⟩:=hm;obtain⟨a2,n2,c2,rfl⟩:=hmd;obtain⟨a3,n3,c3,rfl⟩:=Mu;obtain⟨a4,n4,c4,rfl⟩:=pT;obtain⟨a6,n6,c6,rfl⟩:=lT;obtain⟨a5,c5,rfl⟩:=hex.sl;have E3:prog.follows .mixedOrders=true:=by kernel_rfl
 have akL:Hid (∀wr,Below w.heap.size w wr->dc wr (ζ a5 ex.length c5) ex):=H λwr pW=>hex.keep λk e=>pW.block k (hex.fO e);have p7:=H U;clear hex U;unfold cE;generalize r.fq=fq;generalize r.iv=iv;generalize r.ct=ct;generalize r.un=un;generalize r.ws=ws;have r1:=X.new w [η u,V Z st,V Z ln,.bool hr,V Z fq,V Z iv,V Z ct,V Z un,ζ a1 n1 c1,ζ a2 n2 c2,ζ a3 n3 c3,ζ a4 n4 c4,V Z ws,η tx,ζ a5 ex.length c5,ζ a6 n6 c6,.bool tr,V Z k] 99;have al:Below w.heap.size w (w.alloc (θ #[η u,V Z st,V Z ln,.bool hr,V Z fq,V Z iv,V Z ct,V Z un,ζ a1 n1 c1,ζ a2 n2 c2,ζ a3 n3 c3,ζ a4 n4 c4,V Z ws,η tx,ζ a5 ex.length c5,ζ a6 n6 c6,.bool tr,V Z k] 99)):=(μ _ _).alloc (κ _) _;refine(callsIn_wide (n:=0)).1 ?_;refine callsIn_of_wp func144 rfl trivial ?_ rfl;simp only[ntmps144,Α,π,Η,Μ,Λ,τ,ρ,Β,υ,Ζ,Ε];have afp:w.heap.size<(w.alloc (θ #[η u,V Z st,V Z ln,.bool hr,V Z fq,V Z iv,V Z ct,V Z un,ζ a1 n1 c1,ζ a2 n2 c2,ζ a3 n3 c3,ζ a4 n4 c4,V Z ws,η tx,ζ a5 ex.length c5,ζ a6 n6 c6,.bool tr,V Z k] 99)).heap.size:=by simp
 gi_upto_region 1 with fail;have eW:w.alloc (.cells [η u,V Z st,V Z ln,.bool hr,V Z fq,V Z iv,V Z ct,V Z un,ζ a1 n1 c1,ζ a2 n2 c2,ζ a3 n3 c3,ζ a4 n4 c4,V Z ws,η tx,ζ a5 ex.length c5,ζ a6 n6 c6,.bool tr,V Z k].toArray 99)=w.alloc (θ #[η u,V Z st,V Z ln,.bool hr,V Z fq,V Z iv,V Z ct,V Z un,ζ a1 n1 c1,ζ a2 n2 c2,ζ a3 n3 c3,ζ a4 n4 c4,V Z ws,η tx,ζ a5 ex.length c5,ζ a6 n6 c6,.bool tr,V Z k] 99):=rfl;rw[eW]at r1;clear eW;generalize w.alloc (θ #[η u,V Z st,V Z ln,.bool hr,V Z fq,V Z iv,V Z ct,V Z un,ζ a1 n1 c1,ζ a2 n2 c2,ζ a3 n3 c3,ζ a4 n4 c4,V Z ws,η tx,ζ a5 ex.length c5,ζ a6 n6 c6,.bool tr,V Z k] 99)=W at *
 have om:=lQ.made W;have TC:Below W.heap.size W (W.alloc (.map #[] 0)):=(μ _ _).alloc (κ _) _;have hmk:=run_makeMap (P:=prog) 194 W;gi_upto_region 2 with fail;replace r1:=r1.on TC;replace al:=al.trans (TC.mono al.size);have bR:w.heap.size<W.heap.size:=afp;generalize W.alloc (.map #[] 0)=W1 at *
 generalize W.heap.size=b at *
 have g14:=r1.cell (k:=14) rfl;gi_wp2_with fail;clear g14 afp hmk;gi_loopg [10] ex.length (λq cv wr=>∃(i n:Nat) (ds:List Int),i+q=ex.length/\cv=V Z i/\n<=2*i/\ds.length<=i/\lQ wr b n ds/\Below w.heap.size w wr/\X wr w.heap.size [η u,V Z st,V Z ln,.bool hr,V Z fq,V Z iv,V Z ct,V Z un,ζ a1 n1 c1,ζ a2 n2 c2,ζ a3 n3 c3,ζ a4 n4 c4,V Z ws,η tx,ζ a5 ex.length c5,ζ a6 n6 c6,.bool tr,V Z k] 99/\Hid (∀d,d∈ds↔∃t∈ex.take i,t%86400=st%86400/\t/86400=d))
 case atStart=>exact⟨0,0,[],by omega,rfl,by omega,κ _,om,al,r1,H (by simp)⟩
 case round=>
  clear om al r1;obtain⟨i,n,ds,Zk,rfl,hn,O1,om,al,r1,HD⟩:=hrel;have hsr:=al.size;by_cases hi:i=ex.length
  case pos=>
   have HE:=H (show ∀d,d∈ds↔∃t∈ex,t%86400=st%86400/\t/86400=d from λd=>by rw[HD.out d,hi,List.take_length]);clear HD;subst hi;gi_wp2_with fail;go_ret;exact⟨b,n,ds,rfl,by omega,om,HE.out,al⟩
  case neg=>
   have wm:i<ex.length:=by omega
   obtain⟨t,ht⟩:∃t,ex[i]?=some t:=⟨_,Γ wm⟩;obtain⟨TB,jo⟩:=p7.out t (ϊ ht);obtain⟨gx,hax,hcx⟩:=(akL.out wr al).cell ht;have ur:=H (show ∀t',t'∈ex.take (i+1)↔t'∈ex.take i\/t'=t from λt'=>by
    rw[List.take_add_one,ht];simp)
   subst hax;have g1:=r1.cell (k:=1) rfl;have hmt:t.tmod 86400=t%86400:=ψ TB;have hms:st.tmod 86400=st%86400:=ψ s0;clear ht;by_cases heq:t%86400=st%86400
   case neg=>
    have akM:(t%86400==st%86400)=false:=by simpa using heq
    have HE:=H (show ∀d,d∈ds↔∃t∈ex.take (i+1),t%86400=st%86400/\t/86400=d from λd=>by
     rw[HD.out d];constructor
     ·rintro⟨t',G,A⟩;exact⟨t',(ur.out t').2 (.inl G),A⟩
     rintro⟨t',G,A,M⟩;rcases(ur.out t').1 G with h|rfl
     ·exact⟨t',h,A,M⟩
     exact absurd A heq)
    clear HD ur;gi_wp2_with fail;gi_roundg (gk-1)
    case measure=>omega
    case rel=>exact⟨i+1,n,ds,by omega,by go_num,by omega,by omega,om,al,r1,HE⟩
   case pos=>
    have HE:=H (show ∀d,d∈t/86400::ds↔∃t∈ex.take (i+1),t%86400=st%86400/\t/86400=d from λd=>by
     rw[Χ,HD.out d];constructor
     ·rintro(rfl|⟨t',G,A⟩)
      ·exact⟨t,(ur.out t).2 (.inr rfl),heq,rfl⟩
      exact⟨t',(ur.out t').2 (.inl G),A⟩
     rintro⟨t',G,A,M⟩;rcases(ur.out t').1 G with h|rfl
     ·exact .inr ⟨t',h,A,M⟩
     exact .inl M.symm)
    have akM:(t%86400==st%86400)=true:=by simpa using heq
    clear HD ur;have Yp:ds.count (t/86400)<=1000:=φ List.count_le_length (by omega);gi_upto_region 6 with fail;gi_region_with_o (gi_at_call 51;refine(callsIn_wide.2 (qz t _ TB jo)).mono ?_;rintro e w2 ⟨rfl,aN⟩;have sG:Below wr.heap.size wr w2:=⟨aN.os,aN.tape,aN.output,aN.size,aN.block⟩;have om2:=om.keep (sG.block b om.lt);have me:=om2.look (t/86400) (by omega) (by omega);obtain⟨v0,sp,W3,hme,om3,eo,Hr⟩:=om2.entry (by omega) (t/86400) (by omega) (by omega);have akN:=om3.look (t/86400) (by omega) (by omega);obtain⟨W4,akO,om4,bH⟩:=Hr ((ds.count (t/86400):Int)+1) (by omega) (by omega) rfl;have Tz:IntKind.i64.wrap ((ds.count (t/86400):Int)+1)=(ds.count (t/86400):Int)+1:=gI (by omega) (by omega))
    all_goals
     clear me hme akN akO Tz Hr;have rB:=sG.size;have cq:=al.trans ((sG.mono hsr).trans (bH.below (B:=w.heap.size) (by omega) (λk Y=>by omega)));have r4:=(r1.on sG).aM bH (show¬(w.heap.size=b) by omega);gi_wp2_with fail;gi_roundg (gk-1)
     case measure=>omega
     case rel=>exact⟨i+1,n+1,t/86400::ds,by omega,by go_num,by omega,by simp;omega,om4,cq,r4,HE⟩
end
section
open Go.Sort
attribute [local go_sem] Oper.semAt_some
attribute [local go_sem] bK aU
attribute [local simp] bK aU
def iK (un s to:Int):Int:=min (to-1) un-s%86400
theorem afr (fq iv ct un ws:Int)(m md wk pl:Value)(tx:ByteArray)(s f to:Int)(w:ι)(G:∃a n c,m=ζ a n c)(A:∃a n c,md=ζ a n c)(M:∃a n c,wk=ζ a n c)(h4:∃a n c,pl=ζ a n c)
 (s0:0<=s)(t0:0<=to)(t1:to<=7258118400)(u0:0<=un)(u1:un<=9223372036854775807):
 Ι prog 177 #[bG fq iv ct un m md wk pl ws tx,V Z s,V Z f,V Z to] w λe I=>
  e=δ (.func (.func 215) #[] #[ε (some ⟨w.heap.size,0,none⟩),ε (some ⟨w.heap.size+1,0,none⟩),ε (some ⟨w.heap.size+2,0,none⟩),ε (some ⟨w.heap.size+4,0,none⟩),ε (some ⟨w.heap.size+3,0,none⟩)])/\
  I=((((w.alloc (θ (bX fq iv ct un m md wk pl ws tx).toArray 96)).alloc (θ #[V Z s] 3)).alloc (θ #[V Z f] 3)).alloc (θ #[V Z (s%86400)] 3)).alloc (θ #[V Z (iK un s to)] 3):=by
 obtain⟨a1,n1,c1,rfl⟩:=G;obtain⟨a2,n2,c2,rfl⟩:=A;obtain⟨a3,n3,c3,rfl⟩:=M;obtain⟨a4,n4,c4,rfl⟩:=h4;have hm:0<=s%86400/\s%86400<86400:=by omega
 have hms:s.tmod 86400=s%86400:=ψ s0;unfold bG bX iK;go_enter func177,ntmps177;go_wp2_with fail;go_ret;exact⟨rfl,rfl⟩
theorem Vv (u:ByteArray)(st ln:Int)(hr:Bool)(r:aE)(m md wk pl:Value)(tx:ByteArray)(aI aH:Value)(tr:Bool)(k:Int)(f to:Int)(bf be bt:Nat)(w:ι)(s0:0<=st)(s1:st<=7258118400)
 (q1:X w bf [V Z f] 3)(q2:X w be (cE u st ln hr r m md wk pl tx aI aH tr k) 99)(q3:X w bt [V Z to] 3):
 kO prog 178 #[ε (some ⟨bf,0,none⟩),ε (some ⟨be,0,none⟩),ε (some ⟨bt,0,none⟩)] (uN (if f<=st/\st<to then[st/86400]else[])) (λk=>k=bf\/k=be\/k=bt) w:=by
 intro l W O aqx Js Jp bA hR hO cM hY;replace q1:=q1.keep (hR bf (.inl rfl));replace q2:=q2.keep (hR be (.inr (.inl rfl)));replace q3:=q3.keep (hR bt (.inr (.inr rfl)));have g1:=q1.cell (k:=0) rfl;have g2:W.cell? ⟨be,1,none⟩=some (V Z st):=q2.cell (k:=1) rfl;have g3:=q3.cell (k:=0) rfl;have Ca:St O W (aqx 0) O W:=⟨aj.refl _ _,λ_ h=>.inl h,λ_ h=>h,cM⟩;clear hR hO q1 q2 q3;refine callsIn_of_wp func178 rfl trivial ?_ rfl;simp only[ntmps178,Α,π,Η,Μ,Λ,τ,ρ,Β,υ,Ζ,Ε];by_cases G:f<=st
 case neg=>
  rw[if_neg (λh=>G h.1)]at hY⊢;have wx:st<f:=by omega
  clear hY;gi_wp2_with fail;go_end0;exact .inl ⟨⟨_,rfl⟩,.inl Ca.fin⟩
 case pos=>
  by_cases A:st<to
  case neg=>
   rw[if_neg (λh=>A h.2)]at hY⊢;have vf:to<=st:=by omega
   clear hY;gi_wp2_with fail;go_end0;exact .inl ⟨⟨_,rfl⟩,.inl Ca.fin⟩
  case pos=>
   rw[if_pos ⟨G,A⟩]at hY⊢;gi_wp2_with fail;refine((callsIn_wide.2 (qz st _ s0 s1)).mono ?_);rintro e W1 ⟨rfl,ay⟩;have st1:=Ca.below ay;obtain⟨f1,t1,a1,b1,gC,eB⟩:=hY 0 #[aZ (st/86400)] rfl W1 O st1.aM st1.dO st1.Od st1.on;clear g1 g2 g3 hY;gi_wp2_with fail;refine eB.mono ?_;clear gC eB;rintro e W2 (⟨rfl,J⟩|⟨rfl,J⟩|⟨c,rfl,J⟩)
   case inl=>
    obtain⟨D1,st2,_,_⟩:=st1.post J;gi_wp2_with fail;go_end0;exact .inl ⟨⟨_,rfl⟩,.inl st2.fin⟩
   case inr.inl=>
    obtain⟨D1,st2,_,_⟩:=st1.post J;gi_wp2_with fail;go_end0;exact .inl ⟨⟨_,rfl⟩,.inr st2.fin⟩
   case inr.inr=>
    obtain⟨D1,st2,_,_⟩:=st1.post J;gi_wp2_with fail;exact⟨rfl,.inr ⟨c,rfl,st2.fin⟩⟩
def uv (hr:Bool)(r:aE)(st f to:Int):List Int:=if hr then lk r st f (iK r.un st to)else if f<=st/\st<to then[st/86400]else[]
def dR (xs:List (Array Value))(E:ak)(w:ι):Ρ->ι->Prop:=λe I=>
 ∃g lb R,e=δ (.func (.func g) #[] lb)/\kO prog g lb xs R I/\(∀k,R k->k<I.heap.size/\(E k\/w.heap.size<=k))/\(∀args w,(callFunc g args).run prog w=.ok (.enter g args) w)/\Below w.heap.size w I
theorem RS (u:ByteArray)(st ln:Int)(hr:Bool)(r:aE)(m md wk pl:Value)(tx:ByteArray)(aI aH:Value)(tr:Bool)(k:Int)(f to:Int)(w:ι)(K:eE w r m md wk pl)(ho:hr=true->ei r)(bC:∃a n c,aI=ζ a n c)(bN:∃a n c,aH=ζ a n c)
 (s0:0<=st)(s1:st<=7258118400)(f0:-1000000000000<=f)(f1:f<=7258118400)(t0:0<=to)(t1:to<=7258118400):
 Ι prog 145 #[.agg (cE u st ln hr r m md wk pl tx aI aH tr k).toArray,V Z f,V Z to] w (dR (uN (uv hr r st f to)) (LB m md wk pl) w):=by
 have lU:∀args w,(callFunc 178 args).run prog w=.ok (.enter 178 args) w:=enters_of func178 (by kernel_rfl) rfl;have Le:∀args w,(callFunc 215 args).run prog w=.ok (.enter 215 args) w:=enters_of func215 (by kernel_rfl) rfl;replace lU:=H lU;replace Le:=H Le;have q0:=kx w (cE u st ln hr r m md wk pl tx aI aH tr k) 99 (θ #[V Z f] 3) (θ #[V Z to] 3);have q1:=ky w (θ (cE u st ln hr r m md wk pl tx aI aH tr k).toArray 99) [V Z f] 3 (θ #[V Z to] 3);have q2:=kz w (θ (cE u st ln hr r m md wk pl tx aI aH tr k).toArray 99) (θ #[V Z f] 3) [V Z to] 3;have al:=gJ w (θ (cE u st ln hr r m md wk pl tx aI aH tr k).toArray 99) (θ #[V Z f] 3) (θ #[V Z to] 3);have bA:(((w.alloc (θ (cE u st ln hr r m md wk pl tx aI aH tr k).toArray 99)).alloc (θ #[V Z f] 3)).alloc (θ #[V Z to] 3)).heap.size=w.heap.size+3:=by simp
 obtain⟨a1,S⟩:=K.ms.form;obtain⟨a2,e2⟩:=K.mds.form;obtain⟨a3,e3⟩:=K.wks.form;obtain⟨a4,e4⟩:=K.pls.form;obtain⟨a5,n5,c5,rfl⟩:=bC;obtain⟨a6,n6,c6,rfl⟩:=bN;have fm:∃a n c,m=ζ a n c:=⟨_,_,_,S⟩;have fmd:∃a n c,md=ζ a n c:=⟨_,_,_,e2⟩;have fwk:∃a n c,wk=ζ a n c:=⟨_,_,_,e3⟩;have fpl:∃a n c,pl=ζ a n c:=⟨_,_,_,e4⟩;clear S e2 e3 e4;cases hr
 case false=>
  have hit:=H (λ(W:ι) (p0:X W w.heap.size (cE u st ln false r m md wk pl tx (ζ a5 n5 c5) (ζ a6 n6 c6) tr k) 99) (p1:X W (w.heap.size+1) [V Z f] 3) (p2:X W (w.heap.size+1+1) [V Z to] 3)=>Vv u st ln false r m md wk pl tx (ζ a5 n5 c5) (ζ a6 n6 c6) tr k f to (w.heap.size+1) w.heap.size (w.heap.size+1+1) W s0 s1 p1 p0 p2);clear K ho;obtain⟨a1,n1,c1,rfl⟩:=fm;obtain⟨a2,n2,c2,rfl⟩:=fmd;obtain⟨a3,n3,c3,rfl⟩:=fwk;obtain⟨a4,n4,c4,rfl⟩:=fpl;unfold cE at *
  go_enter func145,ntmps145;go_wp2_with fail;go_ret;exact⟨_,_,_,rfl,hit.out _ q0 q1 q2,λk Y=>by
   refine⟨?_,.inr ?_⟩
   ·have:=bA;rcases Y with rfl|rfl|rfl<;>omega
   rcases Y with rfl|rfl|rfl<;>omega,lU.out,al⟩
 case true=>
  replace ho:=ho rfl;have hD:=H (λW=>afr r.fq r.iv r.ct r.un r.ws m md wk pl tx st f to W fm fmd fwk fpl s0 t0 t1 ho.un0 ho.un9);have aoJ:=ho.un0;have hit:=H (λ(W W':ι) (U:Below w.heap.size w W) (hW:W'=((((W.alloc (θ (bX r.fq r.iv r.ct r.un m md wk pl r.ws tx).toArray 96)).alloc (θ #[V Z st] 3)).alloc (θ #[V Z f] 3)).alloc (θ #[V Z (st%86400)] 3)).alloc (θ #[V Z (iK r.un st to)] 3))=>show kO prog 215 #[ε (some ⟨W.heap.size,0,none⟩),ε (some ⟨W.heap.size+1,0,none⟩),ε (some ⟨W.heap.size+2,0,none⟩),ε (some ⟨W.heap.size+4,0,none⟩),ε (some ⟨W.heap.size+3,0,none⟩)] (uN (uv true r st f to)) (λk=>k=W.heap.size\/k=W.heap.size+1\/k=W.heap.size+2\/k=W.heap.size+4\/k=W.heap.size+3\/LB m md wk pl k) W'/\Below W.heap.size W W'/\W'.heap.size=W.heap.size+5 from by
   subst hW;obtain⟨x0,x1,x2,x3,xb⟩:=afg W (bX r.fq r.iv r.ct r.un m md wk pl r.ws tx) 96 (V Z st) (V Z f) (V Z (st%86400)) 3 3 3;have x4:=X.new ((((W.alloc (θ (bX r.fq r.iv r.ct r.un m md wk pl r.ws tx).toArray 96)).alloc (θ #[V Z st] 3)).alloc (θ #[V Z f] 3)).alloc (θ #[V Z (st%86400)] 3)) [V Z (iK r.un st to)] 3;have b5:=(μ _ ((((W.alloc (θ (bX r.fq r.iv r.ct r.un m md wk pl r.ws tx).toArray 96)).alloc (θ #[V Z st] 3)).alloc (θ #[V Z f] 3)).alloc (θ #[V Z (st%86400)] 3))).alloc (κ _) (θ #[V Z (iK r.un st to)] 3);simp only[ό]at x4;have fA:=xb.trans (b5.mono xb.size);refine⟨?_,fA,by simp⟩;unfold uv;rw[if_pos rfl];exact ab0 r m md wk pl tx st f (iK r.un st to) W.heap.size (W.heap.size+1) (W.heap.size+2) (W.heap.size+4) (W.heap.size+3) _ ((K.on U).on fA) ho s0 s1 f0 f1 (by unfold iK;omega) (by unfold iK;omega) (x0.on b5) (x1.on b5) (x2.on b5) x4 (x3.on b5))
  have hblk:=H (λ(k:Nat) (h:LB m md wk pl k)=>K.fO h);clear K ho;obtain⟨a1,n1,c1,rfl⟩:=fm;obtain⟨a2,n2,c2,rfl⟩:=fmd;obtain⟨a3,n3,c3,rfl⟩:=fwk;obtain⟨a4,n4,c4,rfl⟩:=fpl;unfold cE at *
  unfold bG at hD;replace bA:=H bA;go_enter func145,ntmps145;go_upto_region 1 with fail;have eW:((w.alloc (.cells [η u,V Z st,V Z ln,.bool true,V Z r.fq,V Z r.iv,V Z r.ct,V Z r.un,ζ a1 n1 c1,ζ a2 n2 c2,ζ a3 n3 c3,ζ a4 n4 c4,V Z r.ws,η tx,ζ a5 n5 c5,ζ a6 n6 c6,.bool tr,V Z k].toArray 99)).alloc (θ #[V Z f] 3)).alloc (θ #[V Z to] 3)=((w.alloc (θ #[η u,V Z st,V Z ln,.bool true,V Z r.fq,V Z r.iv,V Z r.ct,V Z r.un,ζ a1 n1 c1,ζ a2 n2 c2,ζ a3 n3 c3,ζ a4 n4 c4,V Z r.ws,η tx,ζ a5 n5 c5,ζ a6 n6 c6,.bool tr,V Z k] 99)).alloc (θ #[V Z f] 3)).alloc (θ #[V Z to] 3):=rfl
  try rw[eW]at q0 q1 q2 al bA
  clear eW;generalize((w.alloc (θ #[η u,V Z st,V Z ln,.bool true,V Z r.fq,V Z r.iv,V Z r.ct,V Z r.un,ζ a1 n1 c1,ζ a2 n2 c2,ζ a3 n3 c3,ζ a4 n4 c4,V Z r.ws,η tx,ζ a5 n5 c5,ζ a6 n6 c6,.bool tr,V Z k] 99)).alloc (θ #[V Z f] 3)).alloc (θ #[V Z to] 3)=W at *
  have g1:=q0.cell (k:=1) rfl;have g3:=q0.cell (k:=3) rfl;have g4:=q0.cell (k:=4) rfl;have g5:=q0.cell (k:=5) rfl;have g6:=q0.cell (k:=6) rfl;have g7:=q0.cell (k:=7) rfl;have g8:=q0.cell (k:=8) rfl;have g9:=q0.cell (k:=9) rfl;have g10:=q0.cell (k:=10) rfl;have g11:=q0.cell (k:=11) rfl;have g12:=q0.cell (k:=12) rfl;have g13:=q0.cell (k:=13) rfl;have p1:=q1.cell (k:=0) rfl;have p2:=q2.cell (k:=0) rfl;go_wp2_with fail;refine(hD.out _).mono ?_;rintro e W' ⟨rfl,BV⟩;obtain⟨U3,hi2,hi3⟩:=hit.out _ _ al BV;clear BV hit g1 g3 g4 g5 g6 g7 g8 g9 g10 g11 g12 g13 p1 p2;go_wp2_with fail;go_ret;replace bA:=bA.out;refine⟨_,_,_,rfl,U3,λk Y=>?_,Le.out,al.trans (hi2.mono al.size)⟩;rcases Y with h|h|h|h|h|h
  ·exact⟨by omega,.inr (by omega)⟩
  ·exact⟨by omega,.inr (by omega)⟩
  ·exact⟨by omega,.inr (by omega)⟩
  ·exact⟨by omega,.inr (by omega)⟩
  ·exact⟨by omega,.inr (by omega)⟩
  exact⟨by have:=hblk.out k h;omega,.inl h⟩
end
section
variable {F:Fence} {nF:Nat} {P:Program} {ops:Array Τ} {Q:Exit->Ο->ι->Prop} {md:Region.Mode}
theorem G7 (aqq:(Nat->Bool)->Ο->ι->Prop)(hf:forward md ops=true)
 (aqs:∀(L:Nat->Bool) i o a w,ops[i]?=some o->L i=false->(∀e∈o.after,ο md e=true->L e.on=true)->(∀j oj,ops[j]?=some oj->L j=true->∀e∈oj.after,ο md e=true->L e.on=true)->
  aqq L a w->wpOpIn F nF P ops Q i (λa' I=>aqq (λk=>decide (k=i)||L k) a' I) a w)
 (D:∀(L:Nat->Bool) a w,(∀i,i<ops.size->L i=true)->aqq L a w->Q .normal a w):
 ∀(fuel:Nat) (listed:Array Bool) (a:Ο) (w:ι),listed.size=ops.size->listed.toList.count false<=fuel->aqq (λk=>listed.getD k false) a w->(∀i o,ops[i]?=some o->listed.getD i false=true->∀e∈o.after,ο md e=true->listed.getD e.on false=true)->wpAnyIn F nF P md ops Q fuel listed a w:=by
 intro fuel
 induction fuel with
 |zero=>
  intro listed a w hs hc hI hC;have bD:∀i,i<ops.size->listed.getD i false=true:=λi hi=>by
   rw[bF _ (by omega)];cases U:listed[i]'(by omega)
   ·exfalso;have:false∈listed.toList:=by rw[<-U];exact Array.mem_def.1 (Array.getElem_mem _)
    have:=List.count_pos_iff.2 this;omega
   rfl
  have hr:Region.ready md ops listed=[]:=by
   rw[List.eq_nil_iff_forall_not_mem];intro i hi;obtain⟨G,A,_⟩:=cZ hi;have:=bD i G;rw[bF _ (by omega)]at this A;rw[this]at A;cases A
  exact⟨hr,D _ a w bD hI⟩
 |succ fuel ih=>
  intro listed a w hs hc hI hC;refine⟨λhr=>D _ a w (mZ hf hs hr) hI,λi hi=>?_⟩;obtain⟨G,A,o,ho,M⟩:=cZ hi;have vf:listed.getD i false=false:=by rw[bF _ (by omega)]at A⊢;exact A
  refine wpOpIn_mono (λa' I q=>?_) (aqs (λk=>listed.getD k false) i o a w ho vf M hC hI);have hL:(λk=>(listed.setIfInBounds i true).getD k false)=λk=>decide (k=i)||listed.getD k false:=by
   funext k;by_cases kF:k=i
   ·subst kF;rw[bF _ (by simp;omega)];simp
   by_cases kg:k<listed.size
   ·rw[bF _ (by simpa using kg),Array.getElem_setIfInBounds_ne (by simpa using kg) (λe=>kF e.symm),bF _ kg];simp[kF]
   simp[ϙ,kg,kF]
  refine ih (listed.setIfInBounds i true) a' I (by simp[hs]) ?_ (by rw[hL];exact q) (λj oj jg K e he U=>?_)
  ·rw[Array.toList_setIfInBounds,List.count_set (by rw[ϋ];omega)];have:listed.toList[i]'(by rw[ϋ];omega)=false:=by
    rw[bF _ (by omega)]at A;simpa using A
   rw[this];have J:0<listed.toList.count false:=List.count_pos_iff.2 (by rw[<-this];exact List.getElem_mem _);show listed.toList.count false-1+0<=fuel;omega
  have hLk:∀k,(listed.setIfInBounds i true).getD k false=(decide (k=i)||listed.getD k false):=λk=>congrFun hL k;rw[hLk]at K⊢;by_cases fB:j=i
  ·subst fB;rw[ho]at jg;cases jg;rw[M e he U];simp
  simp only[fB,decide_false,Bool.false_or]at K;rw[hC j oj jg K e he U];simp
theorem mS {id:Nat}{a:Ο}{w:ι}(aqq:(Nat->Bool)->Ο->ι->Prop)(hm:P.follows .mixedOrders=true)(hf:forward .any ops=true)
 (aqs:∀(L:Nat->Bool) i o a w,ops[i]?=some o->L i=false->(∀e∈o.after,ο .any e=true->L e.on=true)->(∀j oj,ops[j]?=some oj->L j=true->∀e∈oj.after,ο .any e=true->L e.on=true)->
  aqq L a w->wpOpIn F nF P ops Q i (λa' I=>aqq (λk=>decide (k=i)||L k) a' I) a w)
 (D:∀(L:Nat->Bool) a w,(∀i,i<ops.size->L i=true)->aqq L a w->Q .normal a w)(hI:aqq (λ_=>false) a {w with drawn:=w.drawn+1}):(Code.region id ops true).wpIn F nF P Q a w:=
 wpIn_region_any hm (G7 aqq hf aqs D ops.size (Ϗ ops.size false) a _ (by simp) (by rw[Array.toList_replicate,List.count_replicate];simp) (by
  have e:(λk=>(Ϗ ops.size false).getD k false)=λ_=>false:=by
   funext k;by_cases Y:k<ops.size
   ·rw[bF _ (by simpa using Y)];simp
   simp[ϙ,Y]
  rw[e];exact hI) (λi o ho h=>by
  rw[bF _ (by simpa using(Array.getElem?_eq_some_iff.1 ho).1)]at h;simp at h))
theorem jb {i:Nat}{o:Τ}{a:Ο}{w:ι}{aqy:Ο->ι->Prop}(ho:ops[i]?=some o)(hw:ω o (yielded ops a.tmps)=true)(h:o.wpIn F nF P a w aqy Q):wpOpIn F nF P ops Q i aqy a w:=by
 unfold wpOpIn;rw[ho];simp only[hw,if_true];exact h
theorem dd {i:Nat}{o:Τ}{a:Ο}{w:ι}{aqy:Ο->ι->Prop}(ho:ops[i]?=some o)(hg:o.guard=none)(h:o.wpIn F nF P a w aqy Q):wpOpIn F nF P ops Q i aqy a w:=
 jb ho (by unfold ω;rw[hg]) h
theorem jT {i:Nat}{o:Τ}{a:Ο}{w:ι}{aqy:Ο->ι->Prop}(ho:ops[i]?=some o)(hw:ω o (yielded ops a.tmps)=false)(hF:∀f,F.fn f)(h:aqy (a.put o.dst undef) w):wpOpIn F nF P ops Q i aqy a w:=by
 unfold wpOpIn;rw[ho];simp only[hw];exact⟨λf _=>hF f,h⟩
theorem bz {o:Τ}{a:Ο}{w I:ι}{aqy:Ο->ι->Prop}{v:Value}(hF:∀f,F.fn f)(hd:∀c,o.op≠ .defer c)(h:(execOp a.eval o).run P w=.ok (.value v) I)(hK:aqy (a.put o.dst v) I):o.wpIn F nF P a w aqy Q:=by
 unfold Oper.wpIn;refine⟨λf _=>hF f,?_⟩;rw[Oper.semAt_plain F _ _ hd,h];exact hK
theorem Vw {l':Nat}{o:Τ}{a:Ο}{w I:ι}{aqy:Ο->ι->Prop}{f:ϗ}{args:Array Value}{v:Value}(hd:∀c,o.op≠ .defer c)(h:(execOp a.eval o).run P w=.ok (.enter f args) I)(hc:Ι P f args I λe az=>e=δ v/\Below I.heap.size I az)
 (G:∀az,Below I.heap.size I az->aqy (a.put o.dst v) az):o.wpIn (Fence.wide.inRound l') 0 P a w aqy Q:=by
 unfold Oper.wpIn;refine⟨λf _=>trivial,?_⟩;rw[Oper.semAt_plain _ _ _ hd,h];refine⟨λh=>(by simp[Κ]at h),(CallsIn.inRound l' (callsIn_wide.2 hc)).mono ?_⟩;rintro e az ⟨rfl,U⟩;exact G az U
theorem Fz {l' l:Nat}{o:Τ}{a:Ο}{w I:ι}{aqy:Ο->ι->Prop}{f:ϗ}{t:Array Value}{cA cB:Code}{R:Ρ->ι->Prop}(hd:∀c,o.op≠ .defer c)(h:(execOp a.eval o).run P w=.ok (.round l f t cA cB) I)(hR:RoundIn Κ 0 P l f t cA cB I R)
 (G:∀v az,R (δ v) az->aqy (a.put o.dst v) az)(A:∀c az,R (.panicked c) az->Q (.panic c) a az)(M:∀az,¬R .outgrown az):o.wpIn (Fence.wide.inRound l') 0 P a w aqy Q:=by
 unfold Oper.wpIn;refine⟨λf _=>trivial,?_⟩;rw[Oper.semAt_plain _ _ _ hd,h];have hR':RoundIn (Fence.wide.inRound l') 0 P l f t cA cB I R:=hR;refine⟨λh=>(by simp[Κ]at h),hR'.mono ?_⟩;intro e az he;cases e with
 |returned v=>exact G v az he
 |panicked c=>exact A c az he
 |outgrown=>exact absurd he (M az)
end
structure YI (s0 y n0:Nat)(fix:List (Nat×Value))(W:ι)(aqv:Nat->Value->Prop)(T Fa:ι->Prop)(Bz:Bool->Nat->Value->Prop)(L:Nat->Bool)(a:Ο)(w:ι):Prop where
 size:a.tmps.size=n0
 defers:a.defers=[]
 fixed:∀p∈fix,a.eval (.tmp p.1)=p.2
 pre:L y=false->Below W.heap.size W w/\∀j,y<j->L j=false
 ew:∀j,j<y->L j=true->aqv j (a.eval (.tmp (s0+j)))
 post:L y=true->(∀j,j<y->L j=true)/\∃b:Bool,a.eval (.tmp (s0+y))=.bool b/\(b=true->T w)/\(b=false->Fa w)/\∀j,y<j->L j=true->Bz b j (a.eval (.tmp (s0+j)))
section
variable {s0 y n0:Nat} {fix:List (Nat×Value)} {W:ι} {aqv:Nat->Value->Prop} {T Fa:ι->Prop} {Bz:Bool->Nat->Value->Prop} {L:Nat->Bool} {a:Ο} {w:ι}
theorem YI.start (G:a.tmps.size=n0)(A:a.defers=[])(M:∀p∈fix,a.eval (.tmp p.1)=p.2)(h4:Below W.heap.size W w):YI s0 y n0 fix W aqv T Fa Bz (λ_=>false) a w:=
 ⟨G,A,M,λ_=>⟨h4,λ_ _=>rfl⟩,λ_ _ h=>(by cases h),λh=>(by cases h)⟩
theorem YI.below (h:YI s0 y n0 fix W aqv T Fa Bz L a w){j:Nat}(hj:j<y)(hL:L j=false):Below W.heap.size W w:=by
 cases hy:L y
 ·exact(h.pre hy).1
 have:=(h.post hy).1 j hj;rw[hL]at this;cases this
theorem YI.fM (h:YI s0 y n0 fix W aqv T Fa Bz L a w){j:Nat}(hj:j<y)(hL:L j=false)(hn:s0+y<n0)(MR:∀p∈fix,p.1<s0){v:Value}{I:ι}(hv:aqv j v)(U:Below w.heap.size w I){dst:Option Nat}(hd:dst=some (s0+j)):
 YI s0 y n0 fix W aqv T Fa Bz (λk=>decide (k=j)||L k) (a.put dst v) I:=by
 subst hd;have hy:L y=false:=by
  cases hy:L y
  ·rfl
  have:=(h.post hy).1 j hj;rw[hL]at this;cases this
 have hs:s0+j<a.tmps.size:=by rw[h.size];omega
 refine⟨by rw[fW];exact h.size,by rw[put_defers];exact h.defers,λp J=>by rw[cY (by have:=MR p J;omega)];exact h.fixed p J,λ_=>⟨(h.pre hy).1.trans (U.mono (h.pre hy).1.size),λk Y=>?_⟩,λk Y K=>?_,λK=>?_⟩
 ·simp only[Bool.or_eq_false_iff,decide_eq_false_iff_not];exact⟨by omega,(h.pre hy).2 k Y⟩
 ·by_cases vG:k=j
  ·subst vG;rw[gO hs];exact hv
  rw[cY (by omega)];exact h.ew k Y (by simpa[vG]using K)
 have dp:¬y=j:=by omega
 simp only[dp,decide_false,Bool.false_or]at K;rw[hy]at K;cases K
theorem YI.FA (h:YI s0 y n0 fix W aqv T Fa Bz L a w)(bD:∀j,j<y->L j=true)(hL:L y=false)(hn:s0+y<n0)(MR:∀p∈fix,p.1<s0){b:Bool}{I:ι}(hT:b=true->T I)(hF:b=false->Fa I){dst:Option Nat}(hd:dst=some (s0+y)):
 YI s0 y n0 fix W aqv T Fa Bz (λk=>decide (k=y)||L k) (a.put dst (.bool b)) I:=by
 subst hd;have hs:s0+y<a.tmps.size:=by rw[h.size];omega
 refine⟨by rw[fW];exact h.size,by rw[put_defers];exact h.defers,λp J=>by rw[cY (by have:=MR p J;omega)];exact h.fixed p J,λK=>by simp at K,λk Y K=>?_,λ_=>⟨λk Y=>by simp[bD k Y],b,gO hs,hT,hF,λk Y K=>?_⟩⟩
 ·rw[cY (by omega)];exact h.ew k Y (bD k Y)
 have dp:¬k=y:=by omega
 simp only[dp,decide_false,Bool.false_or]at K;rw[(h.pre hL).2 k Y]at K;cases K
theorem YI.yy (h:YI s0 y n0 fix W aqv T Fa Bz L a w){j:Nat}(hj:y<j)(hL:L j=false)(Vx:L y=true)(hn:s0+j<n0)(MR:∀p∈fix,p.1<s0){v:Value}(hv:∀b,a.eval (.tmp (s0+y))=.bool b->Bz b j v){dst:Option Nat}(hd:dst=some (s0+j)):
 YI s0 y n0 fix W aqv T Fa Bz (λk=>decide (k=j)||L k) (a.put dst v) w:=by
 subst hd;have hs:s0+j<a.tmps.size:=by rw[h.size];omega
 obtain⟨p1,b,p2,p3,p4,p5⟩:=h.post Vx;refine⟨by rw[fW];exact h.size,by rw[put_defers];exact h.defers,λp J=>by rw[cY (by have:=MR p J;omega)];exact h.fixed p J,λK=>?_,λk Y K=>?_,λ_=>⟨λk Y=>by simp[p1 k Y],b,by rw[cY (by omega)];exact p2,p3,p4,λk Y K=>?_⟩⟩
 ·simp[Vx]at K
 ·rw[cY (by omega)];exact h.ew k Y (p1 k Y)
 by_cases vG:k=j
 ·subst vG;rw[gO hs];exact hv b p2
 rw[cY (by omega)];exact p5 k Y (by simpa[vG]using K)
end
structure YP (s0 m n0:Nat)(fix:List (Nat×Value))(W:ι)(aqv:Nat->Value->Prop)(L:Nat->Bool)(a:Ο)(w:ι):Prop where
 size:a.tmps.size=n0
 defers:a.defers=[]
 fixed:∀p∈fix,a.eval (.tmp p.1)=p.2
 below:Below W.heap.size W w
 ew:∀j,j<m->L j=true->aqv j (a.eval (.tmp (s0+j)))
theorem YP.step {s0 m n0:Nat}{fix:List (Nat×Value)}{W:ι}{aqv:Nat->Value->Prop}{L:Nat->Bool}{a:Ο}{w:ι}(h:YP s0 m n0 fix W aqv L a w){j:Nat}(hj:j<m)(hn:s0+m<=n0)(MR:∀p∈fix,p.1<s0){v:Value}{I:ι}(hv:aqv j v)(U:Below w.heap.size w I){dst:Option Nat}(hd:dst=some (s0+j)):
 YP s0 m n0 fix W aqv (λk=>decide (k=j)||L k) (a.put dst v) I:=by
 subst hd;have hs:s0+j<a.tmps.size:=by rw[h.size];omega
 refine⟨by rw[fW];exact h.size,by rw[put_defers];exact h.defers,λp J=>by rw[cY (by have:=MR p J;omega)];exact h.fixed p J,h.below.trans (U.mono h.below.size),λk Y K=>?_⟩;by_cases vG:k=j
 ·subst vG;rw[gO hs];exact hv
 rw[cY (by omega)];exact h.ew k Y (by simpa[vG]using K)
theorem Ji {ops:Array Τ}{o:Τ}{a:Ο}{j d:Nat}{b c:Bool}(hg:o.guard=some (j,b))(hj:((ops[j]?).bind (·.dst))=some d)(hd:d<a.tmps.size)(h:a.eval (.tmp d)=.bool c):ω o (yielded ops a.tmps)=(c==b):=by
 unfold ω;rw[hg];show(yielded ops a.tmps j==some b)=(c==b);unfold yielded;rw[hj];have e:a.tmps[d]?=some (.bool c):=by
  have h':a.tmps.getD d undef=.bool c:=h;rw[Array.getD_eq_getD_getElem?,Υ hd]at h';rw[Υ hd];exact congrArg some h'
 simp only[Option.bind_some,e];cases b<;>cases c<;>rfl
end Go.Proofs.YtchdfdmjihnhkaaGreatDoor
