import Derived.Test.YtchdfdmjihnhkaaGreatDoorUq8
import Derived.Deep.RegionWith
import Derived.Deep.LoopGhost
set_option maxRecDepth 100000
set_option maxHeartbeats 8000000
open Go.IntKind renaming i64->Z
open Go.Value renaming int->V,pointer->ε,string->ζ,pointer->ο,int->Β
open Go.Ending renaming returned->δ
open Go.Obj renaming cells->η
open Go renaming World->θ,Calls->ξ,Oper->Ν,PanicEntry->Ο,Act->Χ,Ending->ϋ,Exit->ϗ
open Nat renaming le_refl->ι,reduceSub->Κ,reduceAdd->Λ,le_trans->Ξ,zero_add->Φ,eq_or_lt_of_le->Ω
open List renaming nodup_cons->κ,mem_append->μ,mem_cons->ν,nodup_append->ρ,length_cons->τ,cons_append->φ,length_nil->ω,append_toArray->Α,length_append->Γ,getElem?_append_right->Δ,size_toArray->Ε,push_toArray->Ζ,nil_append->Θ,pairwise_append->Ι,filter_append->Μ,getElem?_append_left->Υ,getElem?_map->ϊ,all_eq_true->ό,append_nil->ώ,length->Ϗ
open Go.RowKit.Below renaming refl->π
open Go.Region renaming ready->υ
open Array renaming replicate_zero->χ,replicate_succ->ψ,replicate->ύ
open List.Perm renaming cons->Η,append_right->Ρ,append_left->Τ,swap->Ψ
namespace Go.Proofs.YtchdfdmjihnhkaaGreatDoor
open Tryz
open Go.RowKit
section
open Go.Sort
theorem X.ex {w I:θ}{O:Nat->Prop}{b:Nat}{cs:List Value}{T:TypeId}(h:X w b cs T)(N:aj O w I)(U:¬O b):X I b cs T:=(N.block b h.lt U).trans h
theorem fK (O:Nat->Prop)(w:θ)(n:Nat):aj O w (w.drewN n):=⟨rfl,rfl,rfl,ι _,λ_ _ _=>rfl⟩
theorem aj.st {O:Nat->Prop}{w I:θ}{b o:Nat}(h:aj O w I)(U:O b)(v:Value):aj O w (I.setCell ⟨b,o,none⟩ v):=h.setCell (p:=⟨b,o,none⟩) (.inl U) v
def LT.ptr:LT->Value
 |⟨none⟩=> ε none
 |⟨some (b,_,_,_)⟩=> ε (some ⟨b,0,none⟩)
theorem oS:LT.nil.ptr=ε none:=rfl
theorem jr (b:Nat)(e:aJ)(l r:LT):(LT.node b e l r).ptr=ε (some ⟨b,0,none⟩):=rfl
def bE (e:aJ):List Value:=[V Z e.b,V Z e.e,ζ e.c,ζ e.u,V Z e.k]
def iD (e:aJ)(lv rv:Value)(h g:Int):List Value:=[V Z e.b,V Z e.e,ζ e.c,ζ e.u,V Z e.k,lv,rv,V Z h,V Z g]
def aF (w:θ):LT->Prop
 |⟨none⟩=>True
 |⟨some (b,e,l,r)⟩=>X w b (iD e l.ptr r.ptr (LT.node b e l r).ht (LT.node b e l r).gr) 161/\aF w l/\aF w r
theorem aF.keep {w I:θ}:∀{t:LT},aF w t->(∀k∈t.ax,I.heap[k]?=w.heap[k]?)->aF I t
 |⟨none⟩,_,_=>trivial
 |⟨some (b,e,l,r)⟩,h,Y=>⟨(Y b (by simp[LT.ax])).trans h.1,h.2.1.keep λk bV=>Y k (by simp[LT.ax,bV]),h.2.2.keep λk bV=>Y k (by simp[LT.ax,bV])⟩
theorem aF.lt {w:θ}:∀{t:LT},aF w t->∀k∈t.ax,k<w.heap.size
 |⟨none⟩,_,k,Y=>by cases Y
 |⟨some (b,e,l,r)⟩,h,k,Y=>by
  simp only[LT.ax,ν,μ]at Y;rcases Y with rfl|Y|Y
  ·exact X.lt h.1
  ·exact h.2.1.lt k Y
  exact h.2.2.lt k Y
theorem aF.aM {w I:θ}{O:Nat->Prop}{t:LT}(h:aF w t)(N:aj O w I)(hn:∀k∈t.ax,¬O k):aF I t:=
 h.keep λk Y=>N.block k (h.lt k Y) (hn k Y)
theorem yH (t:LT)(w:θ)(h:aF w t):
 ξ prog 227 #[t.ptr] w λe I=>e=δ (V Z t.ht)/\w=I:=by
 cases t using LT.AT with
 |nil=>
  simp only[LT.ptr,LT.ht];go_enter func227,ntmps227;go_wp2_with fail;go_ret;exact⟨rfl,rfl⟩
 |node b e l r=>
  have c7:=X.cell (k:=7) h.1 rfl;clear h;simp only[LT.ptr];go_enter func227,ntmps227;go_wp2_with fail;go_ret;exact⟨rfl,rfl⟩
theorem YR (b:Nat)(e:aJ)(l r:LT)(h0 g0:Int)(w:θ)(hr:X w b (iD e l.ptr r.ptr h0 g0) 161)(vk:aF w l)(jv:aF w r)(sl:l.size<=1000000)(sr:r.size<=1000000):
 ξ prog 186 #[ε (some ⟨b,0,none⟩)] w λe I=>e=δ (V Z (l.ht-r.ht))/\∃n,I=w.drewN n:=by
 have c5:=X.cell (k:=5) hr rfl;have c6:=X.cell (k:=6) hr rfl;have a1:=l.dy;have a2:=r.dy;have a3:=l.eH;have a4:=r.eH;have H1:=H (λn=>yH l (w.drewN n) (vk.keep λk _=>rfl));have H2:=H (λn=>yH r (w.drewN n) (jv.keep λk _=>rfl));clear hr vk jv;go_enter func186,ntmps186;go_wp2_with fail;refine wp_region_quiet_lit (by kernel_rfl) (by kernel_rfl) ?_
 iterate 4 (go_big_quiet_step (fail))
 go_big_quiet_step (exact gh (H1.out _))
 iterate 4 (go_big_quiet_step (fail))
 go_big_quiet_step (exact gh (H2.out _))
 iterate 2 (go_big_quiet_step (fail))
 refine wpQuiet_nil ?_;intro _ dN;obtain⟨nq,rfl⟩:=dN;go_wp2_with fail;go_ret;exact⟨rfl,_,rfl⟩
def Qi (l r:LT):Int:=1+max l.ht r.ht
def mkG (e:aJ)(l r:LT):Int:=if r.isNil then(if l.isNil then e.e else max e.e l.gr)else max (if l.isNil then e.e else max e.e l.gr) r.gr
theorem nQ (b:Nat)(e:aJ)(l r:LT)(h0 g0:Int)(w:θ)(hr:X w b (iD e l.ptr r.ptr h0 g0) 161)(vk:aF w l)(jv:aF w r)(sl:l.size<=1000000)(sr:r.size<=1000000)(nl:b∉l.ax)(nr:b∉r.ax):
 ξ prog 185 #[ε (some ⟨b,0,none⟩)] w λE I=>E=δ (.tuple #[])/\X I b (iD e l.ptr r.ptr (Qi l r) (mkG e l r)) 161/\aj (λk=>k=b) w I:=by
 have a1:=l.dy;have a2:=r.dy;have a3:=l.eH;have a4:=r.eH;have H1:=H (λn=>yH l (w.drewN n) (vk.keep λk _=>rfl));have H2:=H (λn=>yH r (w.drewN n) (jv.keep λk _=>rfl));have HR:=H hr;have HL:=H vk;have HT:=H jv;have c1:=X.cell (k:=1) hr rfl;have c5:=X.cell (k:=5) hr rfl;have c6:=X.cell (k:=6) hr rfl;have c8:=X.cell (k:=8) hr rfl;have c7:=X.cell (k:=7) hr rfl;have f7:=X.free (k:=7) hr;have f8:=X.free (k:=8) hr;clear hr vk jv;go_enter func185,ntmps185;go_wp2_with fail;refine ia 13 ?_
 iterate 5 (go_big_quiet_step (fail))
 go_big_quiet_step (exact gh (H1.out _))
 iterate 4 (go_big_quiet_step (fail))
 go_big_quiet_step (exact gh (H2.out _))
 iterate 2 (go_big_quiet_step (fail))
 refine wpQuiet_nil ?_;intro _ dN;obtain⟨nq,rfl⟩:=dN;go_upto_region 2 with fail;have N:aj (λk=>k=b) w (((w.drewN nq).setCell ⟨b,7,none⟩ (V Z (1+max l.ht r.ht))).setCell ⟨b,8,none⟩ (V Z e.e)):=((fK (λk=>k=b) _ _).st rfl _).st rfl _;have aC:X (((w.drewN nq).setCell ⟨b,7,none⟩ (V Z (1+max l.ht r.ht))).setCell ⟨b,8,none⟩ (V Z e.e)) b (iD e l.ptr r.ptr (Qi l r) e.e) 161:=X.set (k:=8) (X.set (k:=7) (show X (w.drewN nq) b _ _ from HR.out) _) _;generalize(((w.drewN nq).setCell ⟨b,7,none⟩ (V Z (1+max l.ht r.ht))).setCell ⟨b,8,none⟩ (V Z e.e))=W at *
 have eG:=HL.out.aM N (λk Y e=>nl (e▸Y));have lX:=HT.out.aM N (λk Y e=>nr (e▸Y));have HX:=H N;clear N H1 H2 HR HL HT c1 c5 c6 c7 c8 f7 f8;have c5:=X.cell (k:=5) aC rfl;have c8:=X.cell (k:=8) aC rfl;have f8:=X.free (k:=8) aC;have HR:=H aC;clear aC;rcases l with⟨_|⟨bl,el,ll,lr⟩⟩
 case none=>
  simp only[oS]at c5;go_upto_region 4 with fail;clear c5 c8 f8 eG;have c6:=X.cell (k:=6) HR.out rfl;have c8:=X.cell (k:=8) HR.out rfl;have f8:=X.free (k:=8) HR.out;rcases r with⟨_|⟨br,er,rl,rr⟩⟩
  case none=>
   simp only[oS]at c6;go_wp2_with fail;go_end0;exact⟨rfl,HR.out,HX.out⟩
  case some=>
   have d8:=X.cell (k:=8) lX.1 rfl;have nb:br≠b:=λe=>nr (by simp[LT.ax,e]);simp only[jr]at c6;generalize lE:(LT.node br er rl rr).gr=gr' at *
   replace lE:=H lE;go_upto_region 5 with fail;refine ia 13 ?_
   iterate 13 (go_big_quiet_step (fail))
   refine wpQuiet_nil ?_;intro _ dN;obtain⟨nq3,rfl⟩:=dN;go_wp2_with fail;go_end0;refine⟨rfl,?_,((HX.out.aK (fK _ _ _)).st rfl _)⟩;have hq:=X.set (k:=8) (show X (W.drewN nq3) b _ _ from HR.out) (V Z (max (e.e) gr'));have YT:=lE.out;subst YT;exact hq
 case some=>
  have d8:=X.cell (k:=8) eG.1 rfl;have nb:bl≠b:=λe=>nl (by simp[LT.ax,e]);simp only[jr]at c5;generalize Io:(LT.node bl el ll lr).gr=gl at *
  replace Io:=H Io;go_upto_region 3 with fail;refine ia 13 ?_
  iterate 13 (go_big_quiet_step (fail))
  refine wpQuiet_nil ?_;intro _ dN;obtain⟨Qj,rfl⟩:=dN;go_upto_region 4 with fail;have bN:aj (λk=>k=b) w ((W.drewN Qj).setCell ⟨b,8,none⟩ (V Z (max e.e gl))):=(HX.out.aK (fK (λk=>k=b) _ _)).st rfl _;have Fc:X ((W.drewN Qj).setCell ⟨b,8,none⟩ (V Z (max e.e gl))) b (iD e (LT.node bl el ll lr).ptr r.ptr (Qi (LT.node bl el ll lr) r) (max e.e gl)) 161:=X.set (k:=8) (show X (W.drewN Qj) b _ _ from HR.out) _;have afT:aF ((W.drewN Qj).setCell ⟨b,8,none⟩ (V Z (max e.e gl))) r:=lX.aM (((fK (λk=>k=b) W Qj).st rfl _)) (λk Y e=>nr (e▸Y));clear HX HR lX c5 c8 f8 d8 eG;have HX:=H bN;have HR:=H Fc;have lX:=afT;clear bN Fc afT;generalize((W.drewN Qj).setCell ⟨b,8,none⟩ (V Z (max e.e gl)))=W at *
  have c6:=X.cell (k:=6) HR.out rfl;have c8:=X.cell (k:=8) HR.out rfl;have f8:=X.free (k:=8) HR.out;rcases r with⟨_|⟨br,er,rl,rr⟩⟩
  case none=>
   simp only[oS]at c6;go_wp2_with fail;go_end0;have YU:=Io.out;subst YU;exact⟨rfl,HR.out,HX.out⟩
  case some=>
   have d8:=X.cell (k:=8) lX.1 rfl;have nb:br≠b:=λe=>nr (by simp[LT.ax,e]);simp only[jr]at c6;generalize lE:(LT.node br er rl rr).gr=gr' at *
   replace lE:=H lE;go_upto_region 5 with fail;refine ia 13 ?_
   iterate 13 (go_big_quiet_step (fail))
   refine wpQuiet_nil ?_;intro _ dN;obtain⟨nq3,rfl⟩:=dN;go_wp2_with fail;go_end0;refine⟨rfl,?_,((HX.out.aK (fK _ _ _)).st rfl _)⟩;have hq:=X.set (k:=8) (show X (W.drewN nq3) b _ _ from HR.out) (V Z (max (max e.e gl) gr'));have YT:=lE.out;subst YT;have YU:=Io.out;subst YU;rw[show max e.e (max (LT.node bl el ll lr).gr (LT.node br er rl rr).gr)=max (max e.e (LT.node bl el ll lr).gr) (LT.node br er rl rr).gr by omega];exact hq
theorem aF.mk {w:θ}{b:Nat}{e:aJ}{l r:LT}(h:X w b (iD e l.ptr r.ptr (Qi l r) (mkG e l r)) 161)(K:aF w l)(hr:aF w r):aF w (.node b e l r):=⟨h,K,hr⟩
theorem LT.kB (t:LT):∃p,t.ptr=.pointer p:=by cases t using LT.AT<;>exact⟨_,rfl⟩
theorem YV {b br:Nat}{L aqz R:List Nat}(h:(b::(L++(br::(aqz++R)))).Nodup):b≠br/\b∉L/\b∉aqz/\b∉R/\br∉L/\br∉aqz/\br∉R:=by
 rw[κ]at h;obtain⟨G,A⟩:=h;simp only[μ,ν,not_or]at G;rw[ρ]at A;obtain⟨_,M,h4⟩:=A;rw[κ]at M;simp only[μ,not_or]at M;exact⟨G.2.1,G.1,G.2.2.1,G.2.2.2,λY=>h4 br Y br (by simp) rfl,M.1.1,M.1.2⟩
theorem VX (b:Nat)(e:aJ)(l:LT)(br:Nat)(er:aJ)(rl rr:LT)(h0 g0:Int)(w:θ)(hr:X w b (iD e l.ptr (ε (some ⟨br,0,none⟩)) h0 g0) 161)(K:aF w l)(ht:aF w (.node br er rl rr))(nb:b≠br)(n1:b∉l.ax)(n2:b∉rl.ax)(n3:b∉rr.ax)(m1:br∉l.ax)(m2:br∉rl.ax)(m3:br∉rr.ax)
 (s1:l.size+rl.size+1<=1000000)(s2:rr.size<=1000000):
 ξ prog 187 #[ε (some ⟨b,0,none⟩)] w λE I=>E=δ (ε (some ⟨br,0,none⟩))/\aF I (.node br er (.node b e l rl) rr)/\aj (λk=>k=b\/k=br) w I:=by
 have c6:=X.cell (k:=6) hr rfl;have f6:=X.free (k:=6) hr;have d5:=X.cell (k:=5) ht.1 rfl;have e5:=X.free (k:=5) ht.1;obtain⟨W,hW⟩:∃W,W=(w.setCell ⟨b,6,none⟩ rl.ptr).setCell ⟨br,5,none⟩ (ε (some ⟨b,0,none⟩)):=⟨_,rfl⟩;have bC:aj (λk=>k=b\/k=br) w W:=by subst hW;exact((aj.refl (λk=>k=b\/k=br) w).st (.inl rfl) _).st (.inr rfl) _
 have r1:X W b (iD e l.ptr rl.ptr h0 g0) 161:=by subst hW;exact X.other (X.set (k:=6) hr _) nb _
 have r2:X W br (iD er (LT.node b e l rl).ptr rr.ptr (LT.node br er rl rr).ht (LT.node br er rl rr).gr) 161:=by subst hW;exact X.set (k:=5) (X.other ht.1 (Ne.symm nb) _) _
 have tl:aF W l:=K.aM bC λk Y h=>h.elim (λe=>n1 (e▸Y)) (λe=>m1 (e▸Y));have trl:aF W rl:=ht.2.1.aM bC λk Y h=>h.elim (λe=>n2 (e▸Y)) (λe=>m2 (e▸Y));have trr:aF W rr:=ht.2.2.aM bC λk Y h=>h.elim (λe=>n3 (e▸Y)) (λe=>m3 (e▸Y));have M1:=H (nQ b e l rl h0 g0 W r1 tl trl (by omega) (by omega) n1 n2);have M2:Hid (∀W2,X W2 b (iD e l.ptr rl.ptr (Qi l rl) (mkG e l rl)) 161->aj (λk=>k=b) W W2->ξ prog 185 #[ε (some ⟨br,0,none⟩)] W2 λE I=>E=δ (.tuple #[])/\aF I (.node br er (.node b e l rl) rr)/\aj (λk=>k=b\/k=br) W I):=H λW2 aC bN=>by
  have t1:aF W2 (.node b e l rl):=aF.mk aC (tl.aM bN λk Y e=>n1 (e▸Y)) (trl.aM bN λk Y e=>n2 (e▸Y));have t2:aF W2 rr:=trr.aM bN λk Y e=>n3 (e▸Y);refine(nQ br er (.node b e l rl) rr _ _ W2 (r2.ex bN (Ne.symm nb)) t1 t2 (by simp only[LT.size];omega) s2 (by simp[LT.ax,Ne.symm nb,m1,m2]) m3).mono ?_;rintro E I ⟨rfl,tp,eo⟩;refine⟨rfl,aF.mk tp (t1.aM eo λk Y e=>?_) (t2.aM eo λk Y e=>m3 (e▸Y)),(bN.mono λk h=>.inl (.inl h)).trans eo λk h=>.inl (.inr h)⟩;subst e;simp only[LT.ax,ν,μ]at Y;rcases Y with h|h|h
  ·exact nb h.symm
  ·exact m1 h
  exact m2 h
 have HX:=H bC;obtain⟨px,gY⟩:=rl.kB;rw[gY]at d5 hW;clear gY;replace hW:=H hW;clear hr K ht r1 r2 tl trl trr bC;go_enter func187,ntmps187;go_upto_region 3 with fail;rw[<-hW.out];go_wp2_with (first
  |(go_at_call_of 185 (ο (some ⟨b,0,none⟩));refine(M1.out).mono ?_;rintro E W2 ⟨rfl,aC,bN⟩;have M3:=H (M2.out W2 aC bN);clear M1 M2 aC bN)
  |(go_at_call_of 185 (ο (some ⟨br,0,none⟩));refine(M3.out).mono ?_;rintro E W3 ⟨rfl,R8,eo⟩))
 go_ret;exact⟨rfl,R8,HX.out.aK eo⟩
theorem VY (b:Nat)(e:aJ)(r:LT)(bl:Nat)(el:aJ)(ll lr:LT)(h0 g0:Int)(w:θ)(hr:X w b (iD e (ε (some ⟨bl,0,none⟩)) r.ptr h0 g0) 161)(K:aF w r)(ht:aF w (.node bl el ll lr))(nb:b≠bl)(n1:b∉r.ax)(n2:b∉ll.ax)(n3:b∉lr.ax)(m1:bl∉r.ax)(m2:bl∉ll.ax)(m3:bl∉lr.ax)
 (s1:r.size+lr.size+1<=1000000)(s2:ll.size<=1000000):
 ξ prog 188 #[ε (some ⟨b,0,none⟩)] w λE I=>E=δ (ε (some ⟨bl,0,none⟩))/\aF I (.node bl el ll (.node b e lr r))/\aj (λk=>k=b\/k=bl) w I:=by
 have c6:=X.cell (k:=5) hr rfl;have f6:=X.free (k:=5) hr;have d5:=X.cell (k:=6) ht.1 rfl;have e5:=X.free (k:=6) ht.1;obtain⟨W,hW⟩:∃W,W=(w.setCell ⟨b,5,none⟩ lr.ptr).setCell ⟨bl,6,none⟩ (ε (some ⟨b,0,none⟩)):=⟨_,rfl⟩;have bC:aj (λk=>k=b\/k=bl) w W:=by subst hW;exact((aj.refl (λk=>k=b\/k=bl) w).st (.inl rfl) _).st (.inr rfl) _
 have r1:X W b (iD e lr.ptr r.ptr h0 g0) 161:=by subst hW;exact X.other (X.set (k:=5) hr _) nb _
 have r2:X W bl (iD el ll.ptr (LT.node b e lr r).ptr (LT.node bl el ll lr).ht (LT.node bl el ll lr).gr) 161:=by subst hW;exact X.set (k:=6) (X.other ht.1 (Ne.symm nb) _) _
 have tr:aF W r:=K.aM bC λk Y h=>h.elim (λe=>n1 (e▸Y)) (λe=>m1 (e▸Y));have tll:aF W ll:=ht.2.1.aM bC λk Y h=>h.elim (λe=>n2 (e▸Y)) (λe=>m2 (e▸Y));have tlr:aF W lr:=ht.2.2.aM bC λk Y h=>h.elim (λe=>n3 (e▸Y)) (λe=>m3 (e▸Y));have M1:=H (nQ b e lr r h0 g0 W r1 tlr tr (by omega) (by omega) n3 n1);have M2:Hid (∀W2,X W2 b (iD e lr.ptr r.ptr (Qi lr r) (mkG e lr r)) 161->aj (λk=>k=b) W W2->ξ prog 185 #[ε (some ⟨bl,0,none⟩)] W2 λE I=>E=δ (.tuple #[])/\aF I (.node bl el ll (.node b e lr r))/\aj (λk=>k=b\/k=bl) W I):=H λW2 aC bN=>by
  have t1:aF W2 (.node b e lr r):=aF.mk aC (tlr.aM bN λk Y e=>n3 (e▸Y)) (tr.aM bN λk Y e=>n1 (e▸Y));have t2:aF W2 ll:=tll.aM bN λk Y e=>n2 (e▸Y);refine(nQ bl el ll (.node b e lr r) _ _ W2 (r2.ex bN (Ne.symm nb)) t2 t1 s2 (by simp only[LT.size];omega) m2 (by simp[LT.ax,Ne.symm nb,m1,m3])).mono ?_;rintro E I ⟨rfl,tp,eo⟩;refine⟨rfl,aF.mk tp (t2.aM eo λk Y e=>m2 (e▸Y)) (t1.aM eo λk Y e=>?_),(bN.mono λk h=>.inl (.inl h)).trans eo λk h=>.inl (.inr h)⟩;subst e;simp only[LT.ax,ν,μ]at Y;rcases Y with h|h|h
  ·exact nb h.symm
  ·exact m3 h
  exact m1 h
 have HX:=H bC;obtain⟨px,gY⟩:=lr.kB;rw[gY]at d5 hW;clear gY;replace hW:=H hW;clear hr K ht r1 r2 tr tll tlr bC;go_enter func188,ntmps188;go_upto_region 3 with fail;rw[<-hW.out];go_wp2_with (first
  |(go_at_call_of 185 (ο (some ⟨b,0,none⟩));refine(M1.out).mono ?_;rintro E W2 ⟨rfl,aC,bN⟩;have M3:=H (M2.out W2 aC bN);clear M1 M2 aC bN)
  |(go_at_call_of 185 (ο (some ⟨bl,0,none⟩));refine(M3.out).mono ?_;rintro E W3 ⟨rfl,R8,eo⟩))
 go_ret;exact⟨rfl,R8,HX.out.aK eo⟩
theorem eV {b:Nat}{L R:List Nat}(h:(b::(L++R)).Nodup):b∉L/\b∉R/\L.Nodup/\R.Nodup/\∀k,k∈L->k∉R:=by
 rw[κ,ρ]at h;obtain⟨G,A,M,h4⟩:=h;simp only[μ,not_or]at G;exact⟨G.1,G.2,A,M,λk Y hr=>h4 k Y k hr rfl⟩
theorem FP {t:LT}(h:1<=t.ht):∃b e l r,t=.node b e l r:=by
 cases t using LT.AT with
 |nil=>simp[LT.ht]at h
 |node b e l r=>exact⟨b,e,l,r,rfl⟩
structure fa (w:θ)(b:Nat)(e:aJ)(l r:LT):Prop where
 row:∃h g,X w b (iD e l.ptr r.ptr h g) 161
 lt:aF w l
 rt:aF w r
theorem fa.drewN {w:θ}{b:Nat}{e:aJ}{l r:LT}(h:fa w b e l r)(n:Nat):fa (w.drewN n) b e l r:=
 ⟨h.row,h.lt.keep λ_ _=>rfl,h.rt.keep λ_ _=>rfl⟩
theorem aF.node {w:θ}{b:Nat}{e:aJ}{l r:LT}(h:aF w (.node b e l r)):fa w b e l r:=⟨⟨_,_,h.1⟩,h.2.1,h.2.2⟩
theorem nh {b:Nat}{e:aJ}{l r:LT}{w:θ}(h:fa w b e l r)(sl:l.size<=1000000)(sr:r.size<=1000000):
 ξ prog 186 #[ε (some ⟨b,0,none⟩)] w λe I=>e=δ (V Z (l.ht-r.ht))/\∃n,I=w.drewN n:=by
 obtain⟨x,y,aC⟩:=h.row;exact YR b e l r x y w aC h.lt h.rt sl sr
theorem pN {b:Nat}{e:aJ}{l r:LT}{w:θ}(h:fa w b e l r)(sl:l.size<=1000000)(sr:r.size<=1000000)(nl:b∉l.ax)(nr:b∉r.ax):
 ξ prog 185 #[ε (some ⟨b,0,none⟩)] w λE I=>E=δ (.tuple #[])/\aF I (.node b e l r)/\aj (λk=>k=b) w I:=by
 obtain⟨x,y,aC⟩:=h.row;refine(nQ b e l r x y w aC h.lt h.rt sl sr nl nr).mono ?_;rintro E I ⟨rfl,tp,N⟩;exact⟨rfl,aF.mk tp (h.lt.aM N λk Y e=>nl (e▸Y)) (h.rt.aM N λk Y e=>nr (e▸Y)),N⟩
theorem DE {b:Nat}{e:aJ}{l:LT}{br:Nat}{er:aJ}{rl rr:LT}{w:θ}(h:fa w b e l (.node br er rl rr))(nd:(b::(l.ax++(br::(rl.ax++rr.ax)))).Nodup)(s:l.size+rl.size+rr.size<=900000):
 ξ prog 187 #[ε (some ⟨b,0,none⟩)] w λE I=>E=δ (ε (some ⟨br,0,none⟩))/\aF I (.node br er (.node b e l rl) rr)/\aj (λk=>k=b\/k=br) w I:=by
 obtain⟨x,y,aC⟩:=h.row;obtain⟨n0,n1,n2,n3,n4,n5,n6⟩:=YV nd;exact VX b e l br er rl rr x y w aC h.lt h.rt n0 n1 n2 n3 n4 n5 n6 (by omega) (by omega)
theorem VZ {b bl:Nat}{L aqz R:List Nat}(h:(b::((bl::(L++aqz))++R)).Nodup):b≠bl/\b∉L/\b∉aqz/\b∉R/\bl∉L/\bl∉aqz/\bl∉R:=by
 rw[κ]at h;obtain⟨G,A⟩:=h;rw[φ,κ]at A;simp only[μ,ν,not_or]at G A;exact⟨G.1.1,G.1.2.1,G.1.2.2,G.2,A.1.1.1,A.1.1.2,A.1.2⟩
theorem DG {b:Nat}{e:aJ}{r:LT}{bl:Nat}{el:aJ}{ll lr:LT}{w:θ}(h:fa w b e (.node bl el ll lr) r)(nd:(b::((bl::(ll.ax++lr.ax))++r.ax)).Nodup)(s:ll.size+lr.size+r.size<=900000):
 ξ prog 188 #[ε (some ⟨b,0,none⟩)] w λE I=>E=δ (ε (some ⟨bl,0,none⟩))/\aF I (.node bl el ll (.node b e lr r))/\aj (λk=>k=b\/k=bl) w I:=by
 obtain⟨x,y,aC⟩:=h.row;obtain⟨n0,n1,n2,n3,n4,n5,n6⟩:=VZ nd;exact VY b e r bl el ll lr x y w aC h.rt h.lt n0 n3 n1 n2 n6 n4 n5 (by omega) (by omega)
def qK (b:Nat)(e:aJ)(l r:LT)(w:θ):ϋ->θ->Prop:=λE I=>E=δ (LT.iN b e l r).ptr/\aF I (LT.iN b e l r)/\aj (λk=>k∈b::(l.ax++r.ax)) w I
theorem acq (b:Nat)(e:aJ)(l r:LT)(w:θ)(h:fa w b e l r)(nd:(b::(l.ax++r.ax)).Nodup)(s:l.size+r.size<=800000)(G:¬1<l.ht-r.ht)(A:¬l.ht-r.ht< -1):
 ξ prog 159 #[ε (some ⟨b,0,none⟩)] w (qK b e l r w):=by
 obtain⟨n1,n2,_,_,_⟩:=eV nd;have aqz:=H (pN h (by omega) (by omega) n1 n2);have a1:=l.dy;have a2:=r.dy;have a3:=l.eH;have a4:=r.eH;have HB:LT.iN b e l r=.node b e l r:=by unfold LT.iN;rw[if_neg G,if_neg A]
 clear h nd;unfold qK;go_enter func159,ntmps159;go_wp2_with (first
  |(go_at_call 185;refine(aqz.out).mono ?_;rintro E W1 ⟨rfl,jo,bC⟩;have T1:=H jo;have X1:=H bC;have L1:=H (nh jo.node (by omega) (by omega));clear aqz jo bC)
  |(go_at_call 186;refine(L1.out).mono ?_;rintro E W2 ⟨rfl,nq,rfl⟩))
 go_ret;rw[HB];exact⟨rfl,T1.out.keep λ_ _=>rfl,(X1.out.mono λk Y=>.inl (by simp[Y])).aK (fK _ _ _)⟩
theorem agO (b:Nat)(e:aJ)(bl:Nat)(el:aJ)(ll lr r:LT)(w:θ)(h:fa w b e (.node bl el ll lr) r)(nd:(b::((bl::(ll.ax++lr.ax))++r.ax)).Nodup)(s:ll.size+lr.size+r.size<=800000)(G:1<(LT.node bl el ll lr).ht-r.ht)(A:¬ll.ht-lr.ht<0):
 ξ prog 159 #[ε (some ⟨b,0,none⟩)] w (qK b e (.node bl el ll lr) r w):=by
 obtain⟨n1,n2,_,_,_⟩:=eV (L:=(LT.node bl el ll lr).ax) nd;have aqz:=H (pN h (by simp only[LT.size];omega) (by omega) n1 n2);have a1:=(LT.node bl el ll lr).dy;have a2:=r.dy;have a3:=(LT.node bl el ll lr).eH;have a4:=r.eH;have a5:=ll.dy;have a6:=lr.dy;have a7:=ll.eH;have a8:=lr.eH;have S:(LT.node bl el ll lr).size=ll.size+lr.size+1:=rfl;have HB:LT.iN b e (.node bl el ll lr) r=.node bl el ll (.node b e lr r):=by unfold LT.iN;rw[if_pos G,if_neg (show¬(LT.node bl el ll lr).lean<0 from A)];rfl
 have ND:=H nd;clear h nd;unfold qK;generalize hH:(LT.node bl el ll lr).ht=aqs at *
 replace hH:=H hH;go_enter func159,ntmps159;go_wp2_with (first
  |(go_at_call 185;refine(aqz.out).mono ?_;rintro E W1 ⟨rfl,jo,bC⟩;have X1:=H bC;have L1:=H (nh jo.node (by omega) (by omega));rw[hH.out]at L1;have c5:=X.cell (k:=5) jo.1 rfl;rw[jr]at c5;have L2:=H (λn=>nh (jo.2.1.node.drewN n) (by omega) (by omega));have R1:=H (λn=>DG (jo.node.drewN n) ND.out (by omega));clear aqz jo bC)
  |(go_at_call_of 186 (ο (some ⟨b,0,none⟩));refine(L1.out).mono ?_;rintro E W2 ⟨rfl,nq,rfl⟩)
  |(go_at_call_of 186 (ο (some ⟨bl,0,none⟩));refine(L2.out nq).mono ?_;rintro E W3 ⟨rfl,nr,rfl⟩)
  |(go_at_call 188;refine(R1.out _).mono ?_;rintro E W4 ⟨rfl,gd,bH⟩))
 go_ret;rw[HB];refine⟨rfl,gd,(((X1.out.mono λk Y=>.inl (by simp[Y])).aK (fK _ _ _)).trans bH λk Y=>.inl ?_)⟩;rcases Y with rfl|rfl<;>simp[LT.ax]
theorem agP (b:Nat)(e:aJ)(l:LT)(br:Nat)(er:aJ)(rl rr:LT)(w:θ)(h:fa w b e l (.node br er rl rr))(nd:(b::(l.ax++(br::(rl.ax++rr.ax)))).Nodup)(s:l.size+rl.size+rr.size<=800000)(G:l.ht-(LT.node br er rl rr).ht< -1)(A:¬0<rl.ht-rr.ht):
 ξ prog 159 #[ε (some ⟨b,0,none⟩)] w (qK b e l (.node br er rl rr) w):=by
 obtain⟨n1,n2,_,_,_⟩:=eV (R:=(LT.node br er rl rr).ax) nd;have aqz:=H (pN h (by omega) (by simp only[LT.size];omega) n1 n2);have a1:=(LT.node br er rl rr).dy;have a2:=l.dy;have a3:=(LT.node br er rl rr).eH;have a4:=l.eH;have a5:=rl.dy;have a6:=rr.dy;have a7:=rl.eH;have a8:=rr.eH;have S:(LT.node br er rl rr).size=rl.size+rr.size+1:=rfl;have HB:LT.iN b e l (.node br er rl rr)=.node br er (.node b e l rl) rr:=by unfold LT.iN;rw[if_neg (by omega),if_pos G,if_neg (show¬0<(LT.node br er rl rr).lean from A)];rfl
 have ND:=H nd;clear h nd;unfold qK;generalize hH:(LT.node br er rl rr).ht=aqs at *
 replace hH:=H hH;go_enter func159,ntmps159;go_wp2_with (first
  |(go_at_call 185;refine(aqz.out).mono ?_;rintro E W1 ⟨rfl,jo,bC⟩;have X1:=H bC;have L1:=H (nh jo.node (by omega) (by omega));rw[hH.out]at L1;have c5:=X.cell (k:=6) jo.1 rfl;rw[jr]at c5;have L2:=H (λn=>nh (jo.2.2.node.drewN n) (by omega) (by omega));have R1:=H (λn=>DE (jo.node.drewN n) ND.out (by omega));clear aqz jo bC)
  |(go_at_call_of 186 (ο (some ⟨b,0,none⟩));refine(L1.out).mono ?_;rintro E W2 ⟨rfl,nq,rfl⟩)
  |(go_at_call_of 186 (ο (some ⟨br,0,none⟩));refine(L2.out nq).mono ?_;rintro E W3 ⟨rfl,nr,rfl⟩)
  |(go_at_call 187;refine(R1.out _).mono ?_;rintro E W4 ⟨rfl,gd,bH⟩))
 go_ret;rw[HB];refine⟨rfl,gd,(((X1.out.mono λk Y=>.inl (by simp[Y])).aK (fK _ _ _)).trans bH λk Y=>.inl ?_)⟩;rcases Y with rfl|rfl<;>simp[LT.ax]
theorem afW (b:Nat)(e:aJ)(bl:Nat)(el:aJ)(ll:LT)(b2:Nat)(e2:aJ)(x y:LT)(r:LT)(w:θ)(h:fa w b e (.node bl el ll (.node b2 e2 x y)) r)(nd:(b::((bl::(ll.ax++(b2::(x.ax++y.ax))))++r.ax)).Nodup)(s:ll.size+x.size+y.size+r.size<=700000)(G:1<(LT.node bl el ll (.node b2 e2 x y)).ht-r.ht)(A:ll.ht-(LT.node b2 e2 x y).ht<0):
 ξ prog 159 #[ε (some ⟨b,0,none⟩)] w (qK b e (LT.node bl el ll (.node b2 e2 x y)) r w):=by
 obtain⟨n1,n2,_,_,_⟩:=eV (L:=(LT.node bl el ll (.node b2 e2 x y)).ax) nd;have aqz:=H (pN h (by simp only[LT.size];omega) (by omega) n1 n2);have a1:=(LT.node bl el ll (.node b2 e2 x y)).dy;have a2:=r.dy;have a3:=(LT.node bl el ll (.node b2 e2 x y)).eH;have a4:=r.eH;have a5:=ll.dy;have a6:=(LT.node b2 e2 x y).dy;have a7:=ll.eH;have a8:=(LT.node b2 e2 x y).eH;have S:(LT.node bl el ll (.node b2 e2 x y)).size=ll.size+(LT.node b2 e2 x y).size+1:=by first|rfl|(simp only[LT.size];omega)
 have e2':(LT.node b2 e2 x y).size=x.size+y.size+1:=rfl;have HB:LT.iN b e (.node bl el ll (.node b2 e2 x y)) r=.node b2 e2 (.node bl el ll x) (.node b e y r):=by unfold LT.iN;rw[if_pos G,if_pos (show(LT.node bl el ll (.node b2 e2 x y)).lean<0 from A)];rfl
 have ND:=H nd;have nbk:b≠bl:=λe=>n1 (by simp[LT.ax,e]);have nb2:b≠b2:=λe=>n1 (by simp[LT.ax,e]);have R1:Hid (∀W1 W4:θ,aF W1 (.node b e (LT.node bl el ll (.node b2 e2 x y)) r)->aF W4 (LT.node b2 e2 (.node bl el ll x) y)->aj (λk=>k=bl\/k=b2) W1 W4->W4.frozen? ⟨b,5,none⟩=false/\W4.cell? ⟨b,5,none⟩=some (ε (some ⟨bl,0,none⟩))/\ξ prog 188 #[ε (some ⟨b,0,none⟩)] (W4.setCell ⟨b,5,none⟩ (ε (some ⟨b2,0,none⟩))) λE I=>E=δ (ε (some ⟨b2,0,none⟩))/\aF I (.node b2 e2 (.node bl el ll x) (.node b e y r))/\aj (λk=>k=b\/k=b2) (W4.setCell ⟨b,5,none⟩ (ε (some ⟨b2,0,none⟩))) I):=H λW1 W4 T1 gd bH=>by
  have Nh:=X.ex T1.1 bH (λh=>h.elim nbk nb2);have sj:aj (λk=>k=b) W4 (W4.setCell ⟨b,5,none⟩ (ε (some ⟨b2,0,none⟩))):=(aj.refl (λk=>k=b) W4).st rfl _;have t4:aF W4 r:=aF.aM T1.2.2 bH (λk Y hO=>((eV (L:=(LT.node bl el ll (.node b2 e2 x y)).ax) ND.out).2.2.2.2) k (by rcases hO with rfl|rfl<;>simp[LT.ax]) Y);have nb4:∀k∈(LT.node b2 e2 (.node bl el ll x) y).ax,¬k=b:=λk Y e=>n1 (by rw[show(LT.node b2 e2 (.node bl el ll x) y).ax=(LT.yF (LT.node bl el ll (.node b2 e2 x y))).ax from rfl,(LT.vL (LT.node bl el ll (.node b2 e2 x y))).mem_iff]at Y;exact e▸Y);have nn:fa (W4.setCell ⟨b,5,none⟩ (ε (some ⟨b2,0,none⟩))) b e (LT.node b2 e2 (.node bl el ll x) y) r:=⟨⟨_,_,X.set (k:=5) Nh _⟩,gd.aM sj nb4,t4.aM sj (λk Y e=>n2 (e▸Y))⟩;refine⟨X.free (k:=5) Nh,X.cell (k:=5) Nh rfl,DG nn ((((Η b (Ρ _ (LT.vL (LT.node bl el ll (.node b2 e2 x y))))).nodup_iff).2 nd)) (by simp only[LT.size];omega)⟩
 clear h nd;unfold qK;generalize hH:(LT.node bl el ll (.node b2 e2 x y)).ht=aqs at *
 generalize hI:(LT.node b2 e2 x y).ht=aqq at *
 replace hH:=H hH;replace hI:=H hI;go_enter func159,ntmps159;go_wp2_with (first
  |(go_at_call 185;refine(aqz.out).mono ?_;rintro E W1 ⟨rfl,jo,bC⟩;have X1:=H bC;have L1:=H (nh jo.node (by omega) (by omega));rw[hH.out]at L1;have c5:=X.cell (k:=5) jo.1 rfl;rw[jr]at c5;have L2:=H (λn=>nh (jo.2.1.node.drewN n) (by omega) (by omega));rw[hI.out]at L2;have R2:=H (λn=>DE (jo.2.1.node.drewN n) ((eV (L:=(LT.node bl el ll (.node b2 e2 x y)).ax) ND.out).2.2.1) (by omega));have R3:=H (λn W4=>R1.out (W1.drewN n) W4 (jo.keep λ_ _=>rfl));clear aqz R1 jo bC)
  |(go_at_call_of 186 (ο (some ⟨b,0,none⟩));refine(L1.out).mono ?_;rintro E W2 ⟨rfl,nq,rfl⟩)
  |(go_at_call_of 186 (ο (some ⟨bl,0,none⟩));refine(L2.out nq).mono ?_;rintro E W3 ⟨rfl,nr,rfl⟩)
  |(go_at_call 187;refine(R2.out _).mono ?_;rintro E W4 ⟨rfl,gd,bH⟩;have X4:=H bH;obtain⟨f5,c5',V0⟩:=R3.out _ W4 gd bH;have R4:=H V0;clear V0 R3 R2 gd bH)
  |(go_at_call 188;refine(R4.out).mono ?_;rintro E W5 ⟨rfl,V2,dH⟩))
 go_ret;rw[HB];refine⟨rfl,V2,((((((X1.out.mono λk Y=>.inl (by simp[Y])).aK (fK _ _ _)).trans X4.out λk Y=>.inl ?_).st (by simp) _)).trans dH λk Y=>.inl ?_)⟩
 ·rcases Y with rfl|rfl<;>simp[LT.ax]
 rcases Y with rfl|rfl<;>simp[LT.ax]
theorem af0 (b:Nat)(e:aJ)(l:LT)(br:Nat)(er:aJ)(b2:Nat)(e2:aJ)(x y:LT)(rr:LT)(w:θ)(h:fa w b e l (.node br er (.node b2 e2 x y) rr))(nd:(b::(l.ax++(br::((b2::(x.ax++y.ax))++rr.ax)))).Nodup)(s:l.size+x.size+y.size+rr.size<=700000)(G:l.ht-(LT.node br er (.node b2 e2 x y) rr).ht< -1)(A:0<(LT.node b2 e2 x y).ht-rr.ht):
 ξ prog 159 #[ε (some ⟨b,0,none⟩)] w (qK b e l (LT.node br er (.node b2 e2 x y) rr) w):=by
 obtain⟨n1,n2,_,_,_⟩:=eV (R:=(LT.node br er (.node b2 e2 x y) rr).ax) nd;have aqz:=H (pN h (by omega) (by simp only[LT.size];omega) n1 n2);have a1:=(LT.node br er (.node b2 e2 x y) rr).dy;have a2:=l.dy;have a3:=(LT.node br er (.node b2 e2 x y) rr).eH;have a4:=l.eH;have a5:=rr.dy;have a6:=(LT.node b2 e2 x y).dy;have a7:=rr.eH;have a8:=(LT.node b2 e2 x y).eH;have S:(LT.node br er (.node b2 e2 x y) rr).size=rr.size+(LT.node b2 e2 x y).size+1:=by first|rfl|(simp only[LT.size];omega)
 have e2':(LT.node b2 e2 x y).size=x.size+y.size+1:=rfl;have HB:LT.iN b e l (LT.node br er (.node b2 e2 x y) rr)=.node b2 e2 (.node b e l x) (.node br er y rr):=by unfold LT.iN;rw[if_neg (by omega),if_pos G,if_pos (show 0<(LT.node br er (.node b2 e2 x y) rr).lean from A)];rfl
 have ND:=H nd;have nbk:b≠br:=λe=>n2 (by simp[LT.ax,e]);have nb2:b≠b2:=λe=>n2 (by simp[LT.ax,e]);have R1:Hid (∀W1 W4:θ,aF W1 (.node b e l (LT.node br er (.node b2 e2 x y) rr))->aF W4 (LT.node b2 e2 x (.node br er y rr))->aj (λk=>k=br\/k=b2) W1 W4->W4.frozen? ⟨b,6,none⟩=false/\W4.cell? ⟨b,6,none⟩=some (ε (some ⟨br,0,none⟩))/\ξ prog 187 #[ε (some ⟨b,0,none⟩)] (W4.setCell ⟨b,6,none⟩ (ε (some ⟨b2,0,none⟩))) λE I=>E=δ (ε (some ⟨b2,0,none⟩))/\aF I (.node b2 e2 (.node b e l x) (.node br er y rr))/\aj (λk=>k=b\/k=b2) (W4.setCell ⟨b,6,none⟩ (ε (some ⟨b2,0,none⟩))) I):=H λW1 W4 T1 gd bH=>by
  have Nh:=X.ex T1.1 bH (λh=>h.elim nbk nb2);have sj:aj (λk=>k=b) W4 (W4.setCell ⟨b,6,none⟩ (ε (some ⟨b2,0,none⟩))):=(aj.refl (λk=>k=b) W4).st rfl _;have t4:aF W4 l:=aF.aM T1.2.1 bH (λk Y hO=>((eV (R:=(LT.node br er (.node b2 e2 x y) rr).ax) ND.out).2.2.2.2) k Y (by rcases hO with rfl|rfl<;>simp[LT.ax]));have nb4:∀k∈(LT.node b2 e2 x (.node br er y rr)).ax,¬k=b:=λk Y e=>n2 (by rw[show(LT.node b2 e2 x (.node br er y rr)).ax=(LT.yG (LT.node br er (.node b2 e2 x y) rr)).ax from rfl,(LT.vM (LT.node br er (.node b2 e2 x y) rr)).mem_iff]at Y;exact e▸Y);have nn:fa (W4.setCell ⟨b,6,none⟩ (ε (some ⟨b2,0,none⟩))) b e l (LT.node b2 e2 x (.node br er y rr)):=⟨⟨_,_,X.set (k:=6) Nh _⟩,t4.aM sj (λk Y e=>n1 (e▸Y)),gd.aM sj nb4⟩;refine⟨X.free (k:=6) Nh,X.cell (k:=6) Nh rfl,DE nn ((((Η b (Τ _ (LT.vM (LT.node br er (.node b2 e2 x y) rr)))).nodup_iff).2 nd)) (by simp only[LT.size];omega)⟩
 clear h nd;unfold qK;generalize hH:(LT.node br er (.node b2 e2 x y) rr).ht=aqs at *
 generalize hI:(LT.node b2 e2 x y).ht=aqq at *
 replace hH:=H hH;replace hI:=H hI;go_enter func159,ntmps159;go_wp2_with (first
  |(go_at_call 185;refine(aqz.out).mono ?_;rintro E W1 ⟨rfl,jo,bC⟩;have X1:=H bC;have L1:=H (nh jo.node (by omega) (by omega));rw[hH.out]at L1;have c5:=X.cell (k:=6) jo.1 rfl;rw[jr]at c5;have L2:=H (λn=>nh (jo.2.2.node.drewN n) (by omega) (by omega));rw[hI.out]at L2;have R2:=H (λn=>DG (jo.2.2.node.drewN n) ((eV (R:=(LT.node br er (.node b2 e2 x y) rr).ax) ND.out).2.2.2.1) (by omega));have R3:=H (λn W4=>R1.out (W1.drewN n) W4 (jo.keep λ_ _=>rfl));clear aqz R1 jo bC)
  |(go_at_call_of 186 (ο (some ⟨b,0,none⟩));refine(L1.out).mono ?_;rintro E W2 ⟨rfl,nq,rfl⟩)
  |(go_at_call_of 186 (ο (some ⟨br,0,none⟩));refine(L2.out nq).mono ?_;rintro E W3 ⟨rfl,nr,rfl⟩)
  |(go_at_call 188;refine(R2.out _).mono ?_;rintro E W4 ⟨rfl,gd,bH⟩;have X4:=H bH;obtain⟨f5,c5',V0⟩:=R3.out _ W4 gd bH;have R4:=H V0;clear V0 R3 R2 gd bH)
  |(go_at_call 187;refine(R4.out).mono ?_;rintro E W5 ⟨rfl,V2,dH⟩))
 go_ret;rw[HB];refine⟨rfl,V2,((((((X1.out.mono λk Y=>.inl (by simp[Y])).aK (fK _ _ _)).trans X4.out λk Y=>.inl ?_).st (by simp) _)).trans dH λk Y=>.inl ?_)⟩
 ·rcases Y with rfl|rfl<;>simp[LT.ax]
 rcases Y with rfl|rfl<;>simp[LT.ax]
theorem kK (b:Nat)(e:aJ)(l r:LT)(w:θ)(h:fa w b e l r)(nd:(b::(l.ax++r.ax)).Nodup)(s:l.size+r.size<=600000):
 ξ prog 159 #[ε (some ⟨b,0,none⟩)] w (qK b e l r w):=by
 by_cases G:1<l.ht-r.ht
 ·obtain⟨bl,el,ll,lr,rfl⟩:=FP (t:=l) (by have:=r.eH;omega);have S:(LT.node bl el ll lr).size=ll.size+lr.size+1:=rfl;by_cases A:ll.ht-lr.ht<0
  ·obtain⟨b2,e2,x,y,rfl⟩:=FP (t:=lr) (by have:=ll.eH;omega);have e3:(LT.node b2 e2 x y).size=x.size+y.size+1:=rfl;exact afW b e bl el ll b2 e2 x y r w h nd (by omega) G A
  exact agO b e bl el ll lr r w h nd (by omega) G A
 by_cases M:l.ht-r.ht< -1
 ·obtain⟨br,er,rl,rr,rfl⟩:=FP (t:=r) (by have:=l.eH;omega);have S:(LT.node br er rl rr).size=rl.size+rr.size+1:=rfl;by_cases A:0<rl.ht-rr.ht
  ·obtain⟨b2,e2,x,y,rfl⟩:=FP (t:=rl) (by have:=rr.eH;omega);have e3:(LT.node b2 e2 x y).size=x.size+y.size+1:=rfl;exact af0 b e l br er b2 e2 x y rr w h nd (by omega) M A
  exact agP b e l br er rl rr w h nd (by omega) M A
 exact acq b e l r w h nd (by omega) G M
theorem Ea (a b:Int)(w:θ):ξ prog 156 #[V Z a,V Z b] w λe I=>e=δ (V Z (iF a b))/\w=I:=by
 have C:Hid (∀x:Int,ξ prog 182 #[V Z x] w λe I=>e=δ (.bool false)/\w=I):=H λx=>by
  go_enter func182,ntmps182;go_wp2_with fail;go_ret;exact⟨rfl,rfl⟩
 unfold iF;go_enter func156,ntmps156;go_wp2_with (go_at_call 182;refine(C.out _).mono ?_;rintro e w1 ⟨rfl,rfl⟩)
 all_goals go_ret
 all_goals refine⟨?_,rfl⟩
 all_goals simp_all
 all_goals omega
theorem FQ (a b:ByteArray)(w:θ):ξ prog 184 #[ζ a,ζ b] w λe I=>e=δ (V Z (iW a b))/\w=I:=by
 have C:Hid (∀x:ByteArray,ξ prog 226 #[ζ x] w λe I=>e=δ (.bool false)/\w=I):=H λx=>by
  go_enter func226,ntmps226;go_wp2_with fail;go_ret;exact⟨by simp,rfl⟩
 unfold iW VW;go_enter func184,ntmps184;go_wp2_with (go_at_call 226;refine(C.out _).mono ?_;rintro e w1 ⟨rfl,rfl⟩)
 all_goals go_ret
 all_goals refine⟨?_,rfl⟩
 all_goals simp_all
def uU:List Int->Int
 |[]=>0
 |z::r=>if z≠0 then z else uU r
theorem YW {zs:List Int}{i:Nat}{z:Int}(h:zs[i]?=some z):uU (zs.drop i)=if z≠0 then z else uU (zs.drop (i+1)):=by
 have K:=(List.getElem?_eq_some_iff.1 h);obtain⟨G,A⟩:=K;rw[List.drop_eq_getElem_cons G,A];rfl
theorem V3 (g:Nat)(zs:List Int)(w:θ)(hr:X w g (zs.map (Β Z)) 3)(hn:zs.length<=1000):
 ξ prog 183 #[.slice (some ⟨g,0,none⟩) zs.length zs.length] w λe I=>e=δ (V Z (uU zs))/\w=I:=by
 obtain⟨n,Y1⟩:∃n,n=zs.length:=⟨_,rfl⟩;rw[<-Y1]at hn⊢;have HN:=H Y1;have HR:=H hr;clear hr Y1;go_enter func183,ntmps183;go_wp2_with fail;go_loop [8] (λi=>∃(k:Nat),k<=n/\i=V Z k/\Hid (uU (zs.drop k)=uU zs)) (λi=>n-(intOf i).toNat)
 case atStart=>exact⟨0,Nat.zero_le _,rfl,H (by simp)⟩
 case round=>
  obtain⟨k,Y,rfl,HP⟩:=hrel;by_cases aR:k<n
  case neg=>
   have HQ:Hid (uU zs=0):=H (by rw[<-HP.out,List.drop_eq_nil_of_le (by have:=HN.out;omega)];rfl);clear HP;go_wp2_with fail;go_ret;exact⟨by rw[HQ.out];rfl,rfl⟩
  case pos=>
   obtain⟨z,hz⟩:∃z,zs[k]?=some z:=⟨_,List.getElem?_eq_getElem (by have:=HN.out;omega)⟩;have ck:w.cell? ⟨g,k,none⟩=some (V Z z):=X.cell HR.out (by rw[ϊ,hz];rfl);have HO:=H (YW hz);clear hz;by_cases h0:z=0
   case pos=>
    have HQ:Hid (uU (zs.drop (k+1))=uU zs):=H (by have:=HO.out;rw[if_neg (by simpa using h0)]at this;rw[<-this];exact HP.out);clear HO HP;subst h0;go_wp2_with fail;exact⟨⟨k+1,by omega,by go_num,HQ⟩,by simp[intOf];omega⟩
   case neg=>
    have HQ:Hid (uU zs=z):=H (by have:=HO.out;rw[if_pos h0]at this;rw[<-this];exact HP.out.symm);clear HO HP;go_wp2_with fail;go_ret;exact⟨by rw[HQ.out];rfl,rfl⟩
def de (e:aJ):Value:=.agg (bE e).toArray
theorem lS {w:θ}{b:Nat}{e:aJ}{T:TypeId}(h:X w b (bE e) T):w.cell? ⟨b,0,none⟩=some (V Z e.b)/\w.cell? ⟨b,1,none⟩=some (V Z e.e)/\w.cell? ⟨b,2,none⟩=some (ζ e.c)/\w.cell? ⟨b,3,none⟩=some (ζ e.u)/\w.cell? ⟨b,4,none⟩=some (V Z e.k):=
 ⟨h.cell (k:=0) rfl,h.cell (k:=1) rfl,h.cell (k:=2) rfl,h.cell (k:=3) rfl,h.cell (k:=4) rfl⟩
theorem acr (x y:aJ):uU [iF x.b y.b,iW x.c y.c,iW x.u y.u]=bP x y:=by
 unfold uU bP;by_cases h:iF x.b y.b=0
 ·rw[if_neg (by simpa using h),if_neg (by simpa using h)];unfold uU;by_cases h':iW x.c y.c=0
  ·rw[if_neg (by simpa using h'),if_neg (by simpa using h')];unfold uU uU;by_cases A:iW x.u y.u=0<;>simp[A]
  rw[if_pos h',if_pos h']
 rw[if_pos h,if_pos h]
theorem Cd (x y:aJ)(w:θ):ξ prog 158 #[de x,de y] w λe I=>e=δ (V Z (bP x y))/\Below w.heap.size w I:=by
 have r0:=(X.new w (bE x) 144).on ((π _ _).alloc (ι _) (η (bE y).toArray 144));have r1:X ((w.alloc (η (bE x).toArray 144)).alloc (η (bE y).toArray 144)) (w.heap.size+1) (bE y) 144:=by
  have:=X.new (w.alloc (η (bE x).toArray 144)) (bE y) 144;simpa using this
 have al:Below w.heap.size w ((w.alloc (η (bE x).toArray 144)).alloc (η (bE y).toArray 144)):=((π _ _).alloc (ι _) _).alloc (by simp) _;have HE:=H (acr x y);unfold de;unfold bE at *
 go_enter func158,ntmps158;go_upto_region 1 with fail;generalize((w.alloc (η #[V Z x.b,V Z x.e,ζ x.c,ζ x.u,V Z x.k] 144)).alloc (η #[V Z y.b,V Z y.e,ζ y.c,ζ y.u,V Z y.k] 144))=W at *
 obtain⟨x0,_,x2,x3,_⟩:=lS (e:=x) r0;obtain⟨y0,_,y2,y3,_⟩:=lS (e:=y) r1;clear r0 r1;refine ia 21 ?_
 iterate 6 (go_big_quiet_step (fail))
 go_big_quiet_step (exact gh (Ea _ _ _))
 iterate 6 (go_big_quiet_step (fail))
 go_big_quiet_step (exact gh (FQ _ _ _))
 iterate 6 (go_big_quiet_step (fail))
 go_big_quiet_step (exact gh (FQ _ _ _));refine wpQuiet_nil ?_;intro _ dN;obtain⟨nq,rfl⟩:=dN;have ro:=X.new (W.drewN nq) [V Z (iF x.b y.b),V Z (iW x.c y.c),V Z (iW x.u y.u)] 3;have aN:Below w.heap.size w ((W.drewN nq).alloc (η #[V Z (iF x.b y.b),V Z (iW x.c y.c),V Z (iW x.u y.u)] 3)):=(below_drewN al nq).alloc (by have:=al.size;exact this) _;have HO:=H (V3 _ [iF x.b y.b,iW x.c y.c,iW x.u y.u] _ ro (by simp));rw[HE.out]at HO;clear ro;go_wp2_with (go_at_call 183;refine(HO.out).mono ?_;rintro e w1 ⟨rfl,rfl⟩);go_ret;exact⟨rfl,aN⟩
def Hg (x:aJ)(t:LT)(w:θ):ϋ->θ->Prop:=λE I=>∃nb,E=δ (t.put nb x).ptr/\aF I (t.put nb x)/\w.heap.size<=nb/\aj (λk=>k∈t.ax) w I
theorem acs (x:aJ)(w:θ):ξ prog 106 #[ε none,de x] w (Hg x .nil w):=by
 unfold Hg de bE;go_enter func106,ntmps106;go_wp2_with fail;go_ret;refine⟨w.heap.size+1,rfl,⟨?_,trivial,trivial⟩,by omega,?_⟩
 ·have:=X.new (w.alloc (η (bE x).toArray 144)) (iD x (ε none) (ε none) 1 x.e) 161;have S:(w.alloc (η (bE x).toArray 144)).heap.size=w.heap.size+1:=by simp
  rw[S]at this;exact this
 exact aj.aq (((π _ _).alloc (ι _) _).alloc (by simp) _)
theorem FR {w:θ}{b:Nat}{e:aJ}{lv rv:Value}{h g:Int}(hr:X w b (iD e lv rv h g) 161):w.cell? ⟨b,0,none⟩=some (V Z e.b)/\w.cell? ⟨b,1,none⟩=some (V Z e.e)/\w.cell? ⟨b,2,none⟩=some (ζ e.c)/\w.cell? ⟨b,3,none⟩=some (ζ e.u)/\w.cell? ⟨b,4,none⟩=some (V Z e.k):=
 ⟨hr.cell (k:=0) rfl,hr.cell (k:=1) rfl,hr.cell (k:=2) rfl,hr.cell (k:=3) rfl,hr.cell (k:=4) rfl⟩
theorem acu {b nb:Nat}{x:aJ}{l:LT}{R:List Nat}{n:Nat}(nd:(b::(l.ax++R)).Nodup)(aR:∀k∈b::(l.ax++R),k<n)(kA:n<=nb):(b::((l.put nb x).ax++R)).Nodup:=by
 have J:(b::((l.put nb x).ax++R)).Perm (nb::(b::(l.ax++R))):=(Η b (Ρ _ (LT.mY nb x l))).trans (Ψ _ _ _);rw[J.nodup_iff,κ];exact⟨λh=>by have:=aR nb h;omega,nd⟩
theorem acv {b nb:Nat}{x:aJ}{r:LT}{L:List Nat}{n:Nat}(nd:(b::(L++r.ax)).Nodup)(aR:∀k∈b::(L++r.ax),k<n)(kA:n<=nb):(b::(L++(r.put nb x).ax)).Nodup:=by
 have J:(b::(L++(r.put nb x).ax)).Perm (nb::(b::(L++r.ax))):=(Η b ((Τ _ (LT.mY nb x r)).trans List.perm_middle)).trans (Ψ _ _ _);rw[J.nodup_iff,κ];exact⟨λh=>by have:=aR nb h;omega,nd⟩
theorem R9 {x:aJ}{b:Nat}{e:aJ}{l r:LT}{nb:Nat}{w W3 W4:θ}{px:Option Addr}(nd:(b::(l.ax++r.ax)).Nodup)(aR:∀k∈b::(l.ax++r.ax),k<w.heap.size)(U:Below w.heap.size w W3)(hT:aF W3 (.node b e l r))(bH:aj (λk=>k∈l.ax) W3.drew W4)(gd:aF W4 (l.put nb x))(kA:W3.drew.heap.size<=nb)(gY:(l.put nb x).ptr=.pointer px)(s:l.size+r.size<=400000):
 ξ prog 159 #[ε (some ⟨b,0,none⟩)] (W4.setCell ⟨b,5,none⟩ (.pointer px)) λE I=>E=δ (LT.iN b e (l.put nb x) r).ptr/\aF I (LT.iN b e (l.put nb x) r)/\aj (λk=>k∈b::(l.ax++r.ax)) w I:=by
 obtain⟨n1,n2,d1,d2,d3⟩:=eV nd;have hs:=U.size;have Qy:w.heap.size<=nb:=Ξ hs kA;have r4:=X.ex (show X W3.drew b _ _ from hT.1) bH n1;have sj:aj (λk=>k=b) W4 (W4.setCell ⟨b,5,none⟩ (.pointer px)):=(aj.refl (λk=>k=b) W4).st rfl _;have mem:∀k,k∈(l.put nb x).ax↔k=nb\/k∈l.ax:=λk=>by rw[(LT.mY nb x l).mem_iff,ν]
 have zo:b<w.heap.size:=aR b (by simp);have nn:fa (W4.setCell ⟨b,5,none⟩ (.pointer px)) b e (l.put nb x) r:=⟨⟨_,_,by rw[gY];exact X.set (k:=5) r4 _⟩,gd.aM sj (λk Y h=>by
  rcases(mem k).1 Y with h'|h'
  ·omega
  exact n1 (h▸h')),((show aF W3.drew r from hT.2.2.keep λ_ _=>rfl).aM bH λk Y h=>d3 k h Y).aM sj λk Y h=>n2 (h▸Y)⟩
 refine(kK b e (l.put nb x) r _ nn (acu nd aR Qy) (by rw[LT.size_put];omega)).mono ?_;rintro E I ⟨rfl,ht,N⟩;refine⟨rfl,ht,?_⟩;refine((((aj.aq U).aK (aj.refl (λk=>k∈b::(l.ax++r.ax)) W3).drew).trans bH λk Y=>.inl (by simp[Y])).st (by simp) _).trans N λk Y=>?_;simp only[ν,μ]at Y;rcases Y with h|h|h
 ·exact .inl (by simp[h])
 ·rcases(mem k).1 h with h'|h'
  ·exact .inr (by omega)
  exact .inl (by simp[h'])
 exact .inl (by simp[h])
theorem Sa {x:aJ}{b:Nat}{e:aJ}{l r:LT}{nb:Nat}{w W3 W4:θ}{px:Option Addr}(nd:(b::(l.ax++r.ax)).Nodup)(aR:∀k∈b::(l.ax++r.ax),k<w.heap.size)(U:Below w.heap.size w W3)(hT:aF W3 (.node b e l r))(bH:aj (λk=>k∈r.ax) W3.drew W4)(gd:aF W4 (r.put nb x))(kA:W3.drew.heap.size<=nb)(gY:(r.put nb x).ptr=.pointer px)(s:l.size+r.size<=400000):
 ξ prog 159 #[ε (some ⟨b,0,none⟩)] (W4.setCell ⟨b,6,none⟩ (.pointer px)) λE I=>E=δ (LT.iN b e l (r.put nb x)).ptr/\aF I (LT.iN b e l (r.put nb x))/\aj (λk=>k∈b::(l.ax++r.ax)) w I:=by
 obtain⟨n1,n2,d1,d2,d3⟩:=eV nd;have hs:=U.size;have Qy:w.heap.size<=nb:=Ξ hs kA;have r4:=X.ex (show X W3.drew b _ _ from hT.1) bH n2;have sj:aj (λk=>k=b) W4 (W4.setCell ⟨b,6,none⟩ (.pointer px)):=(aj.refl (λk=>k=b) W4).st rfl _;have mem:∀k,k∈(r.put nb x).ax↔k=nb\/k∈r.ax:=λk=>by rw[(LT.mY nb x r).mem_iff,ν]
 have zo:b<w.heap.size:=aR b (by simp);have nn:fa (W4.setCell ⟨b,6,none⟩ (.pointer px)) b e l (r.put nb x):=⟨⟨_,_,by rw[gY];exact X.set (k:=6) r4 _⟩,((show aF W3.drew l from hT.2.1.keep λ_ _=>rfl).aM bH λk Y h=>d3 k Y h).aM sj (λk Y h=>n1 (h▸Y)),gd.aM sj (λk Y h=>by
  rcases(mem k).1 Y with h'|h'
  ·omega
  exact n2 (h▸h'))⟩
 refine(kK b e l (r.put nb x) _ nn (acv nd aR Qy) (by rw[LT.size_put];omega)).mono ?_;rintro E I ⟨rfl,ht,N⟩;refine⟨rfl,ht,?_⟩;refine((((aj.aq U).aK (aj.refl (λk=>k∈b::(l.ax++r.ax)) W3).drew).trans bH λk Y=>.inl (by simp[Y])).st (by simp) _).trans N λk Y=>?_;simp only[ν,μ]at Y;rcases Y with h|h|h
 ·exact .inl (by simp[h])
 ·exact .inl (by simp[h])
 rcases(mem k).1 h with h'|h'
 ·exact .inr (by omega)
 exact .inl (by simp[h'])
theorem Ni (x:aJ)(b:Nat)(e:aJ)(l r:LT)(w:θ)(h:aF w (.node b e l r))(nd:(LT.node b e l r).ax.Nodup)(s:l.size+r.size<=400000)
 (aqs:(bP x e<0/\∀W:θ,aF W l->ξ prog 106 #[l.ptr,de x] W (Hg x l W))\/(¬bP x e<0/\∀W:θ,aF W r->ξ prog 106 #[r.ptr,de x] W (Hg x r W))):
 ξ prog 106 #[ε (some ⟨b,0,none⟩),de x] w (Hg x (.node b e l r) w):=by
 have HH:=H aqs;clear aqs;have rx:=X.new w (bE x) 144;have al:Below w.heap.size w (w.alloc (η (bE x).toArray 144)):=(π _ _).alloc (ι _) _;have hT:aF (w.alloc (η (bE x).toArray 144)) (.node b e l r):=h.aM (O:=λ_=>False) (aj.aq al) (λ_ _ h=>h);have hC:=H (λW=>Cd x e W);have ak3:=h.1.lt;obtain⟨n1,n2,d1,d2,d3⟩:=eV nd;have aR:∀k∈b::(l.ax++r.ax),k<w.heap.size:=h.lt;unfold de at *
 unfold bE at *
 go_enter func106,ntmps106;go_upto_region 3 with fail;generalize(w.alloc (.cells [Β Z x.b,V Z x.e,ζ x.c,ζ x.u,V Z x.k].toArray 144))=W at *
 obtain⟨x0,x1,x2,x3,x4⟩:=lS (e:=x) rx;obtain⟨e0,S,e2,e3,e4⟩:=FR hT.1;have kx0:=cell_regrown x0;have kx1:=cell_regrown x1;have kx2:=cell_regrown x2;have kx3:=cell_regrown x3;have kx4:=cell_regrown x4;have ke0:=cell_regrown e0;have ke1:=cell_regrown S;have ke2:=cell_regrown e2;have ke3:=cell_regrown e3;have ke4:=cell_regrown e4;clear x0 x1 x2 x3 x4 e0 S e2 e3 e4;refine wp_region_quiet_below (by kernel_rfl) (by kernel_rfl) ?_
 iterate 5 (go_big_quiet_step (fail))
 go_big_quiet_step (exact Calls.regrown_of (hC.out _));go_big_quiet_step (fail);refine wpQuiet_nil ?_;intro _ dN;obtain⟨⟨dq,ju⟩,iE⟩:=dN;subst iE;have aP:Below W.heap.size W (grow (redrawn W dq) ju):=below_regrown W dq ju;have jU:aF (grow (redrawn W dq) ju) (.node b e l r):=hT.aM (O:=λ_=>False) (aj.aq aP) (λ_ _ h=>h);have Ce:=rx.on aP;have eM:=al.trans (aP.mono al.size);clear kx0 kx1 kx2 kx3 kx4 ke0 ke1 ke2 ke3 ke4 aP al hT rx hC;simp only[];generalize grow (redrawn W dq) ju=W3 at *
 obtain⟨x0,x1,x2,x3,x4⟩:=lS (e:=x) Ce;rcases HH.out with⟨N,ih⟩|⟨N,ih⟩
 all_goals clear HH
 ·have c5:=jU.1.cell (k:=5) rfl;have f5:=jU.1.free (k:=5);have HT:=H jU;have xr:=H eM;have IH:=H (ih W3.drew (jU.2.1.keep λ_ _=>rfl));clear jU eM Ce ih;go_upto_region 4 with fail;go_region_with (go_at_call 106;refine(IH.out).mono ?_;rintro E W4 ⟨nb,hE,gd,kA,bH⟩;obtain⟨px,gY⟩:=(l.put nb x).kB;rw[gY]at hE;subst hE;have r4:=X.ex (show X W3.drew b _ _ from HT.out.1) bH n1;have f4:=r4.free (k:=5);have c4:=r4.cell (k:=5) rfl)
  all_goals
   have B:=H (R9 nd aR xr.out HT.out bH gd kA gY s);clear r4 f4 c4 bH gd gY IH x0 x1 x2 x3 x4 c5 f5 HT;go_wp2_with (go_at_call 159;refine(B.out).mono ?_;rintro E W6 ⟨rfl,yL,gm⟩);go_ret;refine⟨nb,?_,?_,Ξ xr.out.size kA,gm⟩
   ·rw[LT.put,if_pos N];rfl
   rw[LT.put,if_pos N];exact yL
 have c5:=jU.1.cell (k:=6) rfl;have f5:=jU.1.free (k:=6);have HT:=H jU;have xr:=H eM;have IH:=H (ih W3.drew (jU.2.2.keep λ_ _=>rfl));clear jU eM Ce ih;go_upto_region 5 with fail;go_region_with (go_at_call 106;refine(IH.out).mono ?_;rintro E W4 ⟨nb,hE,gd,kA,bH⟩;obtain⟨px,gY⟩:=(r.put nb x).kB;rw[gY]at hE;subst hE;have r4:=X.ex (show X W3.drew b _ _ from HT.out.1) bH n2;have f4:=r4.free (k:=6);have c4:=r4.cell (k:=6) rfl)
 all_goals
  have B:=H (Sa nd aR xr.out HT.out bH gd kA gY s);clear r4 f4 c4 bH gd gY IH x0 x1 x2 x3 x4 c5 f5 HT;go_wp2_with (go_at_call 159;refine(B.out).mono ?_;rintro E W6 ⟨rfl,yL,gm⟩);go_ret;refine⟨nb,?_,?_,Ξ xr.out.size kA,gm⟩
  ·rw[LT.put,if_neg (by omega)];rfl
  rw[LT.put,if_neg (by omega)];exact yL
theorem F4 (x:aJ):∀(t:LT) (w:θ),aF w t->t.ax.Nodup->t.size<=400000->ξ prog 106 #[t.ptr,de x] w (Hg x t w)
 |⟨none⟩,w,_,_,_=>acs x w
 |⟨some (b,e,l,r)⟩,w,h,nd,s=>by
  have s':l.size+r.size+1<=400000:=s;obtain⟨_,_,d1,d2,_⟩:=eV nd;by_cases N:bP x e<0
  ·exact Ni x b e l r w h nd (by omega) (.inl ⟨N,λW hW=>F4 x l W hW d1 (by omega)⟩)
  exact Ni x b e l r w h nd (by omega) (.inr ⟨N,λW hW=>F4 x r W hW d2 (by omega)⟩)
theorem Qk:(prog.info? 144).map (·.size)=some 5:=by kernel_rfl
def xu (t:LT)(f:aJ)(t':LT)(w:θ):ϋ->θ->Prop:=λE I=>E=δ (.tuple #[de f,t'.ptr])/\aF I t'/\aj (λk=>k∈t.ax) w I
theorem Ql {W:θ}{p:Nat}{cs:List Value}{T:TypeId}(e:aJ)(h:X W p cs T)(K:cs.length=5):X (((((W.setCell ⟨p,0,none⟩ (V Z e.b)).setCell ⟨p,1,none⟩ (V Z e.e)).setCell ⟨p,2,none⟩ (ζ e.c)).setCell ⟨p,3,none⟩ (ζ e.u)).setCell ⟨p,4,none⟩ (V Z e.k)) p (bE e) T/\
 aj (λk=>k=p) W (((((W.setCell ⟨p,0,none⟩ (V Z e.b)).setCell ⟨p,1,none⟩ (V Z e.e)).setCell ⟨p,2,none⟩ (ζ e.c)).setCell ⟨p,3,none⟩ (ζ e.u)).setCell ⟨p,4,none⟩ (V Z e.k)):=by
 match cs,K with
 |[a0,a1,a2,a3,a4],_=>
  refine⟨?_,?_⟩
  ·exact((((h.set (k:=0) _).set (k:=1) _).set (k:=2) _).set (k:=3) _).set (k:=4) _
  exact(((((aj.refl (λk=>k=p) W).st rfl _).st rfl _).st rfl _).st rfl _).st rfl _
def oT:List Value:=[V Z 0,V Z 0,ζ ⟨#[]⟩,ζ ⟨#[]⟩,V Z 0]
theorem V4 (b:Nat)(e:aJ)(r:LT)(w:θ)(h:aF w (.node b e .nil r)):ξ prog 180 #[ε (some ⟨b,0,none⟩)] w (xu (.node b e .nil r) e r w):=by
 have rz:=X.new w oT 144;have al:Below w.heap.size w (w.alloc (η oT.toArray 144)):=(π _ _).alloc (ι _) _;have hT:aF (w.alloc (η oT.toArray 144)) (.node b e .nil r):=h.aM (O:=λ_=>False) (aj.aq al) (λ_ _ h=>h);have gQ:=h.1.lt;have HTL:Hid (∀k∈r.ax,k<w.heap.size):=H h.2.2.lt;clear h;unfold oT at *
 go_enter func180,ntmps180;go_upto_region 1 with fail;generalize(w.alloc (η #[Β Z 0,V Z 0,ζ ⟨#[]⟩,ζ ⟨#[]⟩,V Z 0] 144))=W at *
 have c5:=hT.1.cell (k:=5) rfl;have c6:=hT.1.cell (k:=6) rfl;obtain⟨e0,S,e2,e3,e4⟩:=FR hT.1;obtain⟨pr,Nj⟩:=r.kB;rw[Nj]at c6;simp only[oS]at c5;have HT:=H hT;have HZ:=H rz;have HB:=H al;have HP:=H Nj;clear hT rz al Nj;go_upto_region 2 with fail;have z0:=HZ.out.cell (k:=0) rfl;have z1:=HZ.out.cell (k:=1) rfl;have z2:=HZ.out.cell (k:=2) rfl;have z3:=HZ.out.cell (k:=3) rfl;have z4:=HZ.out.cell (k:=4) rfl;have y0:=HZ.out.free (k:=0);have y1:=HZ.out.free (k:=1);have y2:=HZ.out.free (k:=2);have y3:=HZ.out.free (k:=3);have y4:=HZ.out.free (k:=4);have nbl:b≠w.heap.size:=by omega
 obtain⟨agQ,dH⟩:=Ql e HZ.out rfl;go_region;clear z0 z1 z2 z3 z4 y0 y1 y2 y3 y4 c5 c6 e0 S e2 e3 e4;generalize(((((W.setCell ⟨w.heap.size,0,none⟩ (V Z e.b)).setCell ⟨w.heap.size,1,none⟩ (V Z e.e)).setCell ⟨w.heap.size,2,none⟩ (ζ e.c)).setCell ⟨w.heap.size,3,none⟩ (ζ e.u)).setCell ⟨w.heap.size,4,none⟩ (V Z e.k))=W5 at *
 go_wp2_with fail;refine bodyPost_ret (v:=.tuple #[de e,.pointer pr]) ?_ rfl ?_
 ·rw[results_cell_tmp results180 rfl (run_loadVar_mid W5.drew w.heap.size 0 144 (bE e) _ (gq (show X W5.drew w.heap.size _ _ from agQ)) underlying144 rfl Qk)];rfl
 have N:aj (λk=>k∈(LT.node b e .nil r).ax) w W5.drew:=((aj.aq HB.out).trans dH λk Y=>.inr (by omega)).drew;refine⟨by rw[HP.out],?_,N⟩;exact aF.keep (HT.out.2.2.aM dH λk Y h=>by have:=HTL.out k Y;omega) λ_ _=>rfl
theorem Sb (b:Nat)(e:aJ)(l r:LT)(f:aJ)(l':LT)(bl:Nat)(w:θ)(h:aF w (.node b e l r))(nd:(LT.node b e l r).ax.Nodup)(s:l.size+r.size<=400000)(K:l.ptr=ε (some ⟨bl,0,none⟩))(jB:∀k∈l'.ax,k∈l.ax)(cO:l'.ax.Nodup)(bA:l'.size<=l.size)
 (ih:∀W:θ,aF W l->ξ prog 180 #[l.ptr] W (xu l f l' W)):
 ξ prog 180 #[ε (some ⟨b,0,none⟩)] w (xu (.node b e l r) f (LT.iN b e l' r) w):=by
 have rz:=X.new w oT 144;have al:Below w.heap.size w (w.alloc (η oT.toArray 144)):=(π _ _).alloc (ι _) _;have hT:aF (w.alloc (η oT.toArray 144)) (.node b e l r):=h.aM (O:=λ_=>False) (aj.aq al) (λ_ _ h=>h);have aR:∀k∈b::(l.ax++r.ax),k<w.heap.size:=h.lt;obtain⟨n1,n2,d1,d2,d3⟩:=eV nd;clear h;unfold oT at *
 go_enter func180,ntmps180;go_upto_region 1 with fail;have hWs:(w.alloc (η #[Β Z 0,V Z 0,ζ ⟨#[]⟩,ζ ⟨#[]⟩,V Z 0] 144)).heap.size=w.heap.size+1:=by simp
 have HWS:=H hWs;clear hWs;generalize(w.alloc (η #[Β Z 0,V Z 0,ζ ⟨#[]⟩,ζ ⟨#[]⟩,V Z 0] 144))=W at *
 have c5:=hT.1.cell (k:=5) rfl;rw[K]at c5;obtain⟨Tv,RO⟩:=l'.kB;have IH:=H (ih W hT.2.1);rw[K]at IH;unfold xu at IH;rw[RO]at IH;have HT:=H hT;have HZ:=H rz;have HB:=H al;have HP:=H RO;clear hT rz al RO ih K;go_upto_region 3 with fail;unfold de bE at IH;go_upto_region 4 with(go_at_call 180;refine(IH.out).mono ?_;rintro E W2 ⟨rfl,ht2,bN⟩);have hq:=X.new W2 (bE f) 144;have aP:Below W2.heap.size W2 (W2.alloc (η #[V Z f.b,V Z f.e,ζ f.c,ζ f.u,V Z f.k] 144)):=(π _ _).alloc (ι _) _;have eo:aj (λk=>k∈l.ax) W (W2.alloc (η #[V Z f.b,V Z f.e,ζ f.c,ζ f.u,V Z f.k] 144)):=bN.alloc _;have ht3:aF (W2.alloc (η #[V Z f.b,V Z f.e,ζ f.c,ζ f.u,V Z f.k] 144)) l':=ht2.aM (O:=λ_=>False) (aj.aq aP) (λ_ _ h=>h);have hW2:w.heap.size+1<=W2.heap.size:=by have:=bN.size;have:=HWS.out;omega
 obtain⟨q,ze⟩:∃q,q=W2.heap.size:=⟨_,rfl⟩;unfold bE at hq;rw[<-ze]at hq hW2⊢;clear aP ht2 bN ze IH;generalize(W2.alloc (η #[V Z f.b,V Z f.e,ζ f.c,ζ f.u,V Z f.k] 144))=W3 at *
 have Ak:=X.ex HT.out.1 eo n1;have f5:=Ak.free (k:=5);have g5:=Ak.cell (k:=5) rfl;have gQ:b<w.heap.size:=aR b (by simp);have bH:aj (λk=>k=b) W3 (W3.setCell ⟨b,5,none⟩ (.pointer Tv)):=(aj.refl (λk=>k=b) W3).st rfl _;have nn:fa (W3.setCell ⟨b,5,none⟩ (.pointer Tv)) b e l' r:=⟨⟨_,_,by rw[HP.out];exact X.set (k:=5) Ak _⟩,ht3.aM bH (λk Y h=>n1 (h▸jB k Y)),(HT.out.2.2.aM eo λk Y h=>d3 k h Y).aM bH λk Y h=>n2 (h▸Y)⟩;have Nk:(b::(l'.ax++r.ax)).Nodup:=by
  rw[κ,ρ];refine⟨λh=>?_,cO,d2,λa ha c hc Nl=>d3 a (jB a ha) (Nl▸hc)⟩;rcases List.mem_append.1 h with h|h
  ·exact n1 (jB b h)
  exact n2 h
 have pV:aj (λk=>k∈b::(l.ax++r.ax)) w (W3.setCell ⟨b,5,none⟩ (.pointer Tv)):=(((aj.aq HB.out).trans eo λk Y=>.inl (by simp[Y])).st (by simp) _);have hq4:=X.ex hq bH (show¬q=b by omega);have Im:=X.ex (X.ex HZ.out eo (λh=>by have:=aR w.heap.size (by simp[h]);omega)) bH (show¬w.heap.size=b by omega);have B:=H (kK b e l' r _ (nn.drewN 1) Nk (by omega));unfold qK at B;go_upto_region 5 with fail;have XW:=H pV;have Q4:=H hq4;have Z4:=H Im;clear Ak f5 g5 bH nn pV eo ht3 hq hq4 Im c5;generalize(W3.setCell ⟨b,5,none⟩ (.pointer Tv))=W4 at *
 have v0:=Q4.out.cell (k:=0) rfl;have v1:=Q4.out.cell (k:=1) rfl;have v2:=Q4.out.cell (k:=2) rfl;have v3:=Q4.out.cell (k:=3) rfl;have v4:=Q4.out.cell (k:=4) rfl;have Sc:∀k,k∈b::(l'.ax++r.ax)->k∈b::(l.ax++r.ax):=λk Y=>by
  simp only[ν,μ]at Y⊢;rcases Y with h|h|h
  ·exact .inl h
  ·exact .inr (.inl (jB k h))
  exact .inr (.inr h)
 have MM:=H Sc;have nz:¬w.heap.size∈b::(l'.ax++r.ax):=λh=>by have:=aR _ (Sc _ h);omega
 have nq:¬q∈b::(l'.ax++r.ax):=λh=>by have:=aR _ (Sc _ h);omega
 have NZ:=H nz;have NQ:=H nq;clear nz nq Sc;obtain⟨pb,MC⟩:=(LT.iN b e l' r).kB;rw[MC]at B;have HPB:=H MC;clear MC;go_region_with (go_at_call 159;refine(B.out).mono ?_;rintro E W5 ⟨rfl,V2,dH⟩;have q5:=X.ex (show X W4.drew q _ _ from Q4.out) dH NQ.out;have z5:=X.ex (show X W4.drew w.heap.size _ _ from Z4.out) dH NZ.out;have m0:=q5.cell (k:=0) rfl;have m1:=q5.cell (k:=1) rfl;have m2:=q5.cell (k:=2) rfl;have m3:=q5.cell (k:=3) rfl;have m4:=q5.cell (k:=4) rfl;have z0:=z5.cell (k:=0) rfl;have z1:=z5.cell (k:=1) rfl;have z2:=z5.cell (k:=2) rfl;have z3:=z5.cell (k:=3) rfl;have z4:=z5.cell (k:=4) rfl;have y0:=z5.free (k:=0);have y1:=z5.free (k:=1);have y2:=z5.free (k:=2);have y3:=z5.free (k:=3);have y4:=z5.free (k:=4))
 all_goals
  obtain⟨Kb,gm⟩:=Ql f z5 rfl;clear m0 m1 m2 m3 m4 z0 z1 z2 z3 z4 y0 y1 y2 y3 y4 v0 v1 v2 v3 v4 B;generalize(((((W5.setCell ⟨w.heap.size,0,none⟩ (V Z f.b)).setCell ⟨w.heap.size,1,none⟩ (V Z f.e)).setCell ⟨w.heap.size,2,none⟩ (ζ f.c)).setCell ⟨w.heap.size,3,none⟩ (ζ f.u)).setCell ⟨w.heap.size,4,none⟩ (V Z f.k))=W6 at *
  go_wp2_with fail;refine bodyPost_ret (v:=.tuple #[de f,.pointer pb]) ?_ rfl ?_
  ·rw[results_cell_tmp results180 rfl (run_loadVar_mid W6 w.heap.size 0 144 (bE f) _ (gq Kb) underlying144 rfl Qk)];rfl
  refine⟨by rw[HPB.out],?_,?_⟩
  ·exact V2.aM gm λk Y h=>NZ.out (by subst h;exact(LT.qJ b e l' r).mem_iff.1 Y)
  exact(((XW.out.drew).trans dH λk Y=>.inl (MM.out k Y)).trans gm λk Y=>.inr (by omega))
theorem Jq:∀(t:LT) (f:aJ) (t':LT) (w:θ),t.first=some (f,t')->aF w t->t.ax.Nodup->t.size<=400000->ξ prog 180 #[t.ptr] w (xu t f t' w)
 |⟨none⟩,_,_,_,h,_,_,_=>by cases h
 |⟨some (b,e,l,r)⟩,f,t',w,h,hT,nd,s=>by
  have s':l.size+r.size+1<=400000:=s;obtain⟨_,_,d1,d2,_⟩:=eV nd;unfold LT.first at h
  split at h
  ·rename_i K;cases h;have hn:=LT.oR K;subst hn;exact V4 b e r w hT
  rename_i f' l' K;cases h;obtain⟨y,hy⟩:=LT.vN K;obtain⟨bl,el,ll,lr,rI⟩:∃bl el ll lr,l=.node bl el ll lr:=by
   cases l using LT.AT with
   |nil=>cases K
   |node bl el ll lr=>exact⟨_,_,_,_,rfl⟩
  have cO:(y::l'.ax).Nodup:=(hy.nodup_iff).1 d1;have bA:l'.size+1=l.size:=by rw[<-LT.kf,<-LT.kf,hy.length_eq,τ]
  exact Sb b e l r f l' bl w hT nd (by omega) (by rw[rI];rfl) (λk Y=>hy.mem_iff.2 (by simp[Y])) (List.nodup_cons.1 cO).2 (by omega) λW hW=>Jq l f l' W K hW d1 (by omega)
def Bo (x:aJ)(t:LT)(w:θ):ϋ->θ->Prop:=λE I=>E=δ (t.drop x).ptr/\aF I (t.drop x)/\aj (λk=>k∈t.ax) w I
theorem mz (x:aJ)(t:LT):∀k∈(t.drop x).ax,k∈t.ax:=λk Y=>by
 obtain⟨ys,h⟩:=LT.uT x t;exact h.mem_iff.2 (by simp[Y])
theorem Hh (x:aJ)(t:LT)(h:t.ax.Nodup):(t.drop x).ax.Nodup:=by
 obtain⟨ys,J⟩:=LT.uT x t;exact(List.nodup_append.1 ((J.nodup_iff).1 h)).2.1
theorem Qm (x:aJ)(t:LT):(t.drop x).size<=t.size:=by
 obtain⟨ys,J⟩:=LT.uT x t;rw[<-LT.kf,<-LT.kf,J.length_eq,Γ];omega
theorem Sd {b:Nat}{e:aJ}{l r l':LT}{w W3 W4:θ}{px:Option Addr}(nd:(b::(l.ax++r.ax)).Nodup)(U:Below w.heap.size w W3)(hT:aF W3 (.node b e l r))(bH:aj (λk=>k∈l.ax) W3.drew W4)(gd:aF W4 l')(jB:∀k∈l'.ax,k∈l.ax)(cO:l'.ax.Nodup)(bA:l'.size<=l.size)(gY:l'.ptr=.pointer px)(s:l.size+r.size<=400000):
 ξ prog 159 #[ε (some ⟨b,0,none⟩)] (W4.setCell ⟨b,5,none⟩ (.pointer px)) λE I=>E=δ (LT.iN b e l' r).ptr/\aF I (LT.iN b e l' r)/\aj (λk=>k∈b::(l.ax++r.ax)) w I:=by
 obtain⟨n1,n2,d1,d2,d3⟩:=eV nd;have r4:=X.ex (show X W3.drew b _ _ from hT.1) bH n1;have sj:aj (λk=>k=b) W4 (W4.setCell ⟨b,5,none⟩ (.pointer px)):=(aj.refl (λk=>k=b) W4).st rfl _;have nn:fa (W4.setCell ⟨b,5,none⟩ (.pointer px)) b e l' r:=⟨⟨_,_,by rw[gY];exact X.set (k:=5) r4 _⟩,gd.aM sj (λk Y h=>n1 (h▸jB k Y)),((show aF W3.drew r from hT.2.2.keep λ_ _=>rfl).aM bH λk Y h=>d3 k h Y).aM sj λk Y h=>n2 (h▸Y)⟩;have Nk:(b::(l'.ax++r.ax)).Nodup:=by
  rw[κ,ρ];refine⟨λh=>?_,cO,d2,λa ha c hc Nl=>d3 a (jB a ha) (Nl▸hc)⟩;rcases List.mem_append.1 h with h|h
  ·exact n1 (jB b h)
  exact n2 h
 refine(kK b e l' r _ nn Nk (by omega)).mono ?_;rintro E I ⟨rfl,ht,N⟩;refine⟨rfl,ht,?_⟩;refine((((aj.aq U).aK (aj.refl (λk=>k∈b::(l.ax++r.ax)) W3).drew).trans bH λk Y=>.inl (by simp[Y])).st (by simp) _).trans N λk Y=>?_;simp only[ν,μ]at Y;rcases Y with h|h|h
 ·exact .inl (by simp[h])
 ·exact .inl (by simp[jB k h])
 exact .inl (by simp[h])
theorem Se {b:Nat}{e:aJ}{l r r':LT}{w W3 W4:θ}{px:Option Addr}(nd:(b::(l.ax++r.ax)).Nodup)(U:Below w.heap.size w W3)(hT:aF W3 (.node b e l r))(bH:aj (λk=>k∈r.ax) W3.drew W4)(gd:aF W4 r')(jB:∀k∈r'.ax,k∈r.ax)(cO:r'.ax.Nodup)(bA:r'.size<=r.size)(gY:r'.ptr=.pointer px)(s:l.size+r.size<=400000):
 ξ prog 159 #[ε (some ⟨b,0,none⟩)] (W4.setCell ⟨b,6,none⟩ (.pointer px)) λE I=>E=δ (LT.iN b e l r').ptr/\aF I (LT.iN b e l r')/\aj (λk=>k∈b::(l.ax++r.ax)) w I:=by
 obtain⟨n1,n2,d1,d2,d3⟩:=eV nd;have r4:=X.ex (show X W3.drew b _ _ from hT.1) bH n2;have sj:aj (λk=>k=b) W4 (W4.setCell ⟨b,6,none⟩ (.pointer px)):=(aj.refl (λk=>k=b) W4).st rfl _;have nn:fa (W4.setCell ⟨b,6,none⟩ (.pointer px)) b e l r':=⟨⟨_,_,by rw[gY];exact X.set (k:=6) r4 _⟩,((show aF W3.drew l from hT.2.1.keep λ_ _=>rfl).aM bH λk Y h=>d3 k Y h).aM sj (λk Y h=>n1 (h▸Y)),gd.aM sj (λk Y h=>n2 (h▸jB k Y))⟩;have Nk:(b::(l.ax++r'.ax)).Nodup:=by
  rw[κ,ρ];refine⟨λh=>?_,d1,cO,λa ha c hc Nl=>d3 a ha (Nl▸jB c hc)⟩;rcases List.mem_append.1 h with h|h
  ·exact n1 h
  exact n2 (jB b h)
 refine(kK b e l r' _ nn Nk (by omega)).mono ?_;rintro E I ⟨rfl,ht,N⟩;refine⟨rfl,ht,?_⟩;refine((((aj.aq U).aK (aj.refl (λk=>k∈b::(l.ax++r.ax)) W3).drew).trans bH λk Y=>.inl (by simp[Y])).st (by simp) _).trans N λk Y=>?_;simp only[ν,μ]at Y;rcases Y with h|h|h
 ·exact .inl (by simp[h])
 ·exact .inl (by simp[h])
 exact .inl (by simp[jB k h])
theorem vO (x:aJ)(b:Nat)(e:aJ)(l r:LT)(w:θ)(h:aF w (.node b e l r))(nd:(LT.node b e l r).ax.Nodup)(s:l.size+r.size<=400000)
 (aqs:(bP x e<0/\∀W:θ,aF W l->ξ prog 150 #[l.ptr,de x] W (Bo x l W))\/(0<bP x e/\∀W:θ,aF W r->ξ prog 150 #[r.ptr,de x] W (Bo x r W))\/
  (bP x e=0/\(r=.nil\/∃(f:aJ) (r':LT) (br:Nat),r.first=some (f,r')/\r.ptr=ε (some ⟨br,0,none⟩)))):
 ξ prog 150 #[ε (some ⟨b,0,none⟩),de x] w (Bo x (.node b e l r) w):=by
 have HH:=H aqs;clear aqs;have rx:=X.new w (bE x) 144;have al:Below w.heap.size w (w.alloc (η (bE x).toArray 144)):=(π _ _).alloc (ι _) _;have hT:aF (w.alloc (η (bE x).toArray 144)) (.node b e l r):=h.aM (O:=λ_=>False) (aj.aq al) (λ_ _ h=>h);have hC:=H (λW=>Cd x e W);have ak3:=h.1.lt;obtain⟨n1,n2,d1,d2,d3⟩:=eV nd;have aR:∀k∈b::(l.ax++r.ax),k<w.heap.size:=h.lt;unfold de at *
 unfold bE at *
 go_enter func150,ntmps150;go_upto_region 1 with fail;generalize(w.alloc (.cells [Β Z x.b,V Z x.e,ζ x.c,ζ x.u,V Z x.k].toArray 144))=W at *
 obtain⟨x0,x1,x2,x3,x4⟩:=lS (e:=x) rx;obtain⟨e0,S,e2,e3,e4⟩:=FR hT.1;have kx0:=cell_regrown x0;have kx1:=cell_regrown x1;have kx2:=cell_regrown x2;have kx3:=cell_regrown x3;have kx4:=cell_regrown x4;have ke0:=cell_regrown e0;have ke1:=cell_regrown S;have ke2:=cell_regrown e2;have ke3:=cell_regrown e3;have ke4:=cell_regrown e4;clear x0 x1 x2 x3 x4 e0 S e2 e3 e4;refine wp_region_quiet_below (by kernel_rfl) (by kernel_rfl) ?_
 iterate 5 (go_big_quiet_step (fail))
 go_big_quiet_step (exact Calls.regrown_of (hC.out _));go_big_quiet_step (fail);refine wpQuiet_nil ?_;intro _ dN;obtain⟨⟨dq,ju⟩,iE⟩:=dN;subst iE;have aP:Below W.heap.size W (grow (redrawn W dq) ju):=below_regrown W dq ju;have jU:aF (grow (redrawn W dq) ju) (.node b e l r):=hT.aM (O:=λ_=>False) (aj.aq aP) (λ_ _ h=>h);have Ce:=rx.on aP;have eM:=al.trans (aP.mono al.size);clear kx0 kx1 kx2 kx3 kx4 ke0 ke1 ke2 ke3 ke4 aP al hT rx hC;simp only[];generalize grow (redrawn W dq) ju=W3 at *
 rcases HH.out with⟨N,ih⟩|⟨N,ih⟩|⟨N,rfl|⟨f,r',br,hf,K8⟩⟩
 all_goals clear HH
 ·obtain⟨x0,x1,x2,x3,x4⟩:=lS (e:=x) Ce;have c5:=jU.1.cell (k:=5) rfl;have f5:=jU.1.free (k:=5);have HT:=H jU;have xr:=H eM;have IH:=H (ih W3.drew (jU.2.1.keep λ_ _=>rfl));clear jU eM Ce ih;go_upto_region 4 with fail;go_region_with (go_at_call 150;refine(IH.out).mono ?_;rintro E W4 ⟨hE,gd,bH⟩;obtain⟨px,gY⟩:=(l.drop x).kB;rw[gY]at hE;subst hE;have r4:=X.ex (show X W3.drew b _ _ from HT.out.1) bH n1;have f4:=r4.free (k:=5);have c4:=r4.cell (k:=5) rfl)
  all_goals
   have B:=H (Sd nd xr.out HT.out bH gd (mz x l) (Hh x l d1) (Qm x l) gY s);clear r4 f4 c4 bH gd gY IH x0 x1 x2 x3 x4 c5 f5 HT;go_wp2_with (go_at_call 159;refine(B.out).mono ?_;rintro E W6 ⟨rfl,yL,gm⟩);go_ret;refine⟨?_,?_,gm⟩
   ·rw[LT.drop,if_pos N];rfl
   rw[LT.drop,if_pos N];exact yL
 ·obtain⟨x0,x1,x2,x3,x4⟩:=lS (e:=x) Ce;have c5:=jU.1.cell (k:=6) rfl;have f5:=jU.1.free (k:=6);have HT:=H jU;have xr:=H eM;have IH:=H (ih W3.drew (jU.2.2.keep λ_ _=>rfl));clear jU eM Ce ih;go_upto_region 6 with fail;go_region_with (go_at_call 150;refine(IH.out).mono ?_;rintro E W4 ⟨hE,gd,bH⟩;obtain⟨px,gY⟩:=(r.drop x).kB;rw[gY]at hE;subst hE;have r4:=X.ex (show X W3.drew b _ _ from HT.out.1) bH n2;have f4:=r4.free (k:=6);have c4:=r4.cell (k:=6) rfl)
  all_goals
   have B:=H (Se nd xr.out HT.out bH gd (mz x r) (Hh x r d2) (Qm x r) gY s);clear r4 f4 c4 bH gd gY IH x0 x1 x2 x3 x4 c5 f5 HT;go_wp2_with (go_at_call 159;refine(B.out).mono ?_;rintro E W6 ⟨rfl,yL,gm⟩);go_ret;refine⟨?_,?_,gm⟩
   ·rw[LT.drop,if_neg (by omega),if_pos N];rfl
   rw[LT.drop,if_neg (by omega),if_pos N];exact yL
 ·have c5:=jU.1.cell (k:=5) rfl;have c6:=jU.1.cell (k:=6) rfl;simp only[oS]at c6;obtain⟨pl,pT⟩:=l.kB;rw[pT]at c5;have HP:=H pT;have HT:=H jU;have xr:=H eM;clear jU eM Ce pT;go_wp2_with fail;go_ret;have hd:(LT.node b e l .nil).drop x=l:=by rw[LT.drop,if_neg (by omega),if_neg (by omega)];rfl
  rw[Bo,hd];exact⟨by rw[HP.out];rfl,HT.out.2.1,aj.aq xr.out⟩
 have c6:=jU.1.cell (k:=6) rfl;rw[K8]at c6;have F:=H (Jq r f r' W3 hf jU.2.2 d2 (by omega));rw[K8]at F;obtain⟨pr,Nj⟩:=r'.kB;unfold xu at F;rw[Nj]at F;unfold de bE at F;obtain⟨y,hy⟩:=LT.vN hf;have cO:(y::r'.ax).Nodup:=(hy.nodup_iff).1 d2;have bA:r'.size+1=r.size:=by rw[<-LT.kf,<-LT.kf,hy.length_eq,τ]
 have jB:∀k∈r'.ax,k∈r.ax:=λk Y=>hy.mem_iff.2 (by simp[Y]);have HND:=H (List.nodup_cons.1 cO).2;have hd:(LT.node b e l r).drop x=LT.iN b f l r':=by rw[LT.drop,if_neg (by omega),if_neg (by omega),hf]
 have HD:=H hd;have HP:=H Nj;have HT:=H jU;have xr:=H eM;clear jU eM Ce Nj hd hf hy cO K8;go_upto_region 9 with(go_at_call 180;refine(F.out).mono ?_;rintro E W4 ⟨rfl,gd,bH⟩;have r4:=X.ex HT.out.1 bH n2;have m0:=r4.cell (k:=0) rfl;have m1:=r4.cell (k:=1) rfl;have m2:=r4.cell (k:=2) rfl;have m3:=r4.cell (k:=3) rfl;have m4:=r4.cell (k:=4) rfl;have m6:=r4.cell (k:=6) rfl;have y0:=r4.free (k:=0);have y1:=r4.free (k:=1);have y2:=r4.free (k:=2);have y3:=r4.free (k:=3);have y4:=r4.free (k:=4);have y6:=r4.free (k:=6));have dH:aj (λk=>k=b) W4 ((((((W4.setCell ⟨b,0,none⟩ (V Z f.b)).setCell ⟨b,1,none⟩ (V Z f.e)).setCell ⟨b,2,none⟩ (ζ f.c)).setCell ⟨b,3,none⟩ (ζ f.u)).setCell ⟨b,4,none⟩ (V Z f.k)).setCell ⟨b,6,none⟩ (.pointer pr)):=((((((aj.refl (λk=>k=b) W4).st rfl _).st rfl _).st rfl _).st rfl _).st rfl _).st rfl _;have r5:X ((((((W4.setCell ⟨b,0,none⟩ (V Z f.b)).setCell ⟨b,1,none⟩ (V Z f.e)).setCell ⟨b,2,none⟩ (ζ f.c)).setCell ⟨b,3,none⟩ (ζ f.u)).setCell ⟨b,4,none⟩ (V Z f.k)).setCell ⟨b,6,none⟩ (.pointer pr)) b (iD f l.ptr (.pointer pr) (LT.node b e l r).ht (LT.node b e l r).gr) 161:=(((((r4.set (k:=0) _).set (k:=1) _).set (k:=2) _).set (k:=3) _).set (k:=4) _).set (k:=6) _;clear m0 m1 m2 m3 m4 m6 y0 y1 y2 y3 y4 y6 r4 F c6;generalize((((((W4.setCell ⟨b,0,none⟩ (V Z f.b)).setCell ⟨b,1,none⟩ (V Z f.e)).setCell ⟨b,2,none⟩ (ζ f.c)).setCell ⟨b,3,none⟩ (ζ f.u)).setCell ⟨b,4,none⟩ (V Z f.k)).setCell ⟨b,6,none⟩ (.pointer pr))=W5 at *
 have nn:fa W5 b f l r':=⟨⟨_,_,by rw[HP.out];exact r5⟩,(HT.out.2.1.aM bH λk Y h=>d3 k Y h).aM dH (λk Y h=>n1 (h▸Y)),gd.aM dH (λk Y h=>n2 (h▸jB k Y))⟩;have Nk:(b::(l.ax++r'.ax)).Nodup:=by
  rw[κ,ρ];refine⟨λh=>?_,d1,HND.out,λa ha c hc Nl=>d3 a ha (Nl▸jB c hc)⟩;rcases List.mem_append.1 h with h|h
  ·exact n1 h
  exact n2 (jB b h)
 have B:=H (kK b f l r' W5 nn Nk (by omega));unfold qK at B;have X5:Hid (aj (λk=>k∈b::(l.ax++r.ax)) w W5):=H (((aj.aq xr.out).trans bH λk Y=>.inl (by simp[Y])).trans dH λk Y=>.inl (by simp[Y]));clear bH gd dH r5 nn;go_wp2_with (go_at_call 159;refine(B.out).mono ?_;rintro E W6 ⟨rfl,yL,gm⟩);go_ret;rw[Bo,HD.out];refine⟨rfl,yL,X5.out.trans gm λk Y=>.inl ?_⟩;simp only[ν,μ]at Y⊢;rcases Y with h|h|h
 ·exact .inl h
 ·exact .inr (.inl h)
 exact .inr (.inr (jB k h))
theorem DH (x:aJ):∀(t:LT) (w:θ),aF w t->t.ax.Nodup->t.size<=400000->LT.eF t.aw->(∃y∈t.aw,bP x y=0)->ξ prog 150 #[t.ptr,de x] w (Bo x t w)
 |⟨none⟩,_,_,_,_,_,h=>by obtain⟨y,hy,_⟩:=h;cases hy
 |⟨some (b,e,l,r)⟩,w,h,nd,s,hs,hy=>by
  have s':l.size+r.size+1<=400000:=s;obtain⟨_,_,d1,d2,_⟩:=eV nd;obtain⟨G,A,M⟩:=List.pairwise_append.1 hs;obtain⟨h4,h5⟩:=List.pairwise_cons.1 A;obtain⟨y,hm,h0⟩:=hy;simp only[LT.aw,μ,ν]at hm;by_cases N:bP x e<0
  ·refine vO x b e l r w h nd (by omega) (.inl ⟨N,λW hW=>DH x l W hW d1 (by omega) G ⟨y,?_,h0⟩⟩);rcases hm with hm|hm|hm
   ·exact hm
   ·subst hm;omega
   exact(LT.ne_of_lt (lI.trans N (h4 y hm)) h0).elim
  by_cases dY:0<bP x e
  ·refine vO x b e l r w h nd (by omega) (.inr (.inl ⟨dY,λW hW=>DH x r W hW d2 (by omega) h5 ⟨y,?_,h0⟩⟩));rcases hm with hm|hm|hm
   ·exact(LT.ne_of_gt (lI.trans (M y hm e (by simp)) (Bm.1 dY)) h0).elim
   ·subst hm;omega
   exact hm
  have Lz:bP x e=0:=by omega
  cases hf:r.first with
  |none=>
   have hn:=LT.oR hf;subst hn;exact vO x b e l _ w h nd (by omega) (.inr (.inr ⟨Lz,.inl rfl⟩))
  |some p=>
   obtain⟨f,r'⟩:=p;rcases hr:r with⟨_|⟨br,er,rl,rr⟩⟩
   ·rw[hr]at hf;cases hf
   rw[<-hr];exact vO x b e l r w h nd (by omega) (.inr (.inr ⟨Lz,.inr ⟨f,r',br,hf,by rw[hr];rfl⟩⟩))
end
section
open Go.Sort
attribute [local go_sem] Oper.semAt_some
def LT.pO:LT->Option (Nat×aJ)
 |⟨none⟩=>none
 |⟨some (b,e,_,r)⟩=>match r.pO with
  |none=>some (b,e)
  |some p=>some p
theorem LT.AU {t:LT}(h:t.pO=none):t=.nil:=by
 cases t using LT.AT with
 |nil=>rfl
 |node b e l r=>unfold LT.pO at h;split at h<;>cases h
theorem LT.FT:∀{t:LT} {b:Nat} {e:aJ},t.pO=some (b,e)->∃l,t.aw=l++[e]
 |⟨none⟩,_,_,h=>by cases h
 |⟨some (b,e,l,r)⟩,b',e',h=>by
  unfold LT.pO at h;split at h
  ·rename_i hr;cases h;rw[LT.AU hr];exact⟨l.aw,rfl⟩
  rename_i p hr;cases h;obtain⟨m,hm⟩:=LT.FT hr;exact⟨l.aw++e::m,by simp[LT.aw,hm]⟩
theorem YX (t:LT)(b:Nat)(e:aJ)(w:θ)(h:aF w t)(K:t.pO=some (b,e)):
 ξ prog 105 #[t.ptr] w λE I=>E=δ (ε (some ⟨b,0,none⟩))/\w=I/\∃lv rv x y,X w b (iD e lv rv x y) 161:=by
 go_enter func105,ntmps105;go_wp2_with fail;go_loopg [0] t.size (λk v wr=>w=wr/\∃s:LT,s.size<=k/\v=s.ptr/\aF w s/\s.pO=some (b,e))
 case atStart=>exact⟨rfl,t,ι _,rfl,h,K⟩
 case round=>
  obtain⟨rfl,s,hs,rfl,hT,Qn⟩:=hrel;cases s using LT.AT with
  |nil=>cases Qn
  |node bs es l r=>
   have c6:=hT.1.cell (k:=6) rfl;simp only[jr];cases r using LT.AT with
   |nil=>
    simp only[oS]at c6;have S:bs=b/\es=e:=by
     unfold LT.pO at Qn;simp only[LT.pO]at Qn;cases Qn;exact⟨rfl,rfl⟩
    obtain⟨rfl,rfl⟩:=S;have HT:=H hT;clear hT;go_wp2_with fail;go_ret;exact⟨rfl,rfl,_,_,_,_,HT.out.1⟩
   |node br er rl rr=>
    simp only[jr]at c6;have HT:=H hT;have HL:=H Qn;clear hT Qn;have rB:(LT.node br er rl rr).size<gk:=by have:l.size+(LT.node br er rl rr).size+1<=gk:=hs;omega
    go_wp2_with fail;go_roundg (LT.node br er rl rr).size
    case measure=>exact rB
    case rel=>
     refine⟨rfl,.node br er rl rr,ι _,rfl,HT.out.2.2,?_⟩;have:=HL.out;rw[LT.pO]at this;split at this
     ·rename_i hn;have:=LT.AU hn;cases this
     rename_i p J;cases this;exact J
end
section
open Go.Sort
attribute [local go_sem] Oper.semAt_some
def du (f t:Int)(es:List aJ):List aJ:=es.filter λe=>decide (e.b<t)&&decide (f<e.e)
theorem OP (f t:Int)(x y:List aJ):du f t (x++y)=du f t x++du f t y:=by unfold du;exact Μ ..
theorem Qo {f t:Int}{es:List aJ}(h:∀x∈es,¬(x.b<t/\f<x.e)):du f t es=[]:=by
 unfold du;rw[List.filter_eq_nil_iff];intro x N h';exact h x N (by simpa using h')
theorem YY (f t:Int)(e:aJ)(r:List aJ):du f t (e::r)=(if e.b<t/\f<e.e then[e]else[])++du f t r:=by
 unfold du;by_cases h:e.b<t/\f<e.e
 ·rw[if_pos h,List.filter_cons_of_pos (by simpa using h)];rfl
 rw[if_neg h,List.filter_cons_of_neg (by simpa using h)];rfl
theorem V5 {l r:List aJ}{e:aJ}(h:LT.eF (l++e::r)):LT.eF l/\LT.eF r/\∀x∈r,e.b<=x.b:=by
 unfold LT.eF at *
 rw[Ι,List.pairwise_cons]at h;exact⟨h.1,h.2.1.2,λx N=>(h.2.1.1 x N).b⟩
theorem aO.after {D D1:ak}{aqx:aQ}{W W1 W2:θ}(h:aO D1 W1.heap.size aqx W1 W2)(N:aj D W W1)(d1:∀k,D1 k->D k\/W.heap.size<=k)(d2:∀k,D k->D1 k):aO D W.heap.size aqx W W2:=by
 obtain⟨x,E,S,e2,aG⟩:=h;exact⟨N.trans x d1,E,λk Y=>(S k Y).elim (d1 k) (λh=>.inr (by have:=N.size;omega)),λk Y=>e2 k (d2 k Y),aG⟩
def BF (D:ak)(aqx:aQ)(Js:aQ)(Jp:List Ο->aQ)(W:θ):ϋ->θ->Prop:=λe W'=>
 (e=δ (.bool true)/\aO D W.heap.size aqx W W')\/(e=δ (.bool false)/\aO D W.heap.size Js W W')\/(∃c,e=.panicked c/\aO D W.heap.size (Jp c) W W')
theorem BF.after {D D1:ak}{aqx Js:aQ}{Jp:List Ο->aQ}{W W1 W2:θ}{e:ϋ}(h:BF D1 aqx Js Jp W1 e W2)(N:aj D W W1)(d1:∀k,D1 k->D k\/W.heap.size<=k)(d2:∀k,D k->D1 k):BF D aqx Js Jp W e W2:=by
 rcases h with⟨rfl,h⟩|⟨rfl,h⟩|⟨c,rfl,h⟩
 ·exact .inl ⟨rfl,h.after N d1 d2⟩
 ·exact .inr (.inl ⟨rfl,h.after N d1 d2⟩)
 exact .inr (.inr ⟨c,rfl,h.after N d1 d2⟩)
theorem agb (l:Nat)(W0:θ)(O:ak)(aqx:Nat->aQ)(Js:aQ)(Jp:List Ο->aQ)(xs:List (Array Value))(f t:Int)
 (hY:∀i x,xs[i]?=some x->∀(W1:θ) (D:ak),aj O W0 W1->(∀k,D k->O k\/W0.heap.size<=k)->(∀k,O k->D k)->On D (aqx i) W1->YieldAt Fence.wide 0 prog l x W1 (BF D (aqx (i+1)) Js Jp W1)):
 ∀(s:LT) (i:Nat) (W:θ) (D:ak),aj O W0 W->(∀k,D k->O k\/W0.heap.size<=k)->(∀k,O k->D k)->On D (aqx i) W->aF W s->(∀k∈s.ax,k<W0.heap.size/\¬O k)->LT.eF s.aw->
  (∀j x,(du f t s.aw)[j]?=some x->xs[i+j]?=some #[de x])->
  CallsIn Fence.wide 0 prog 152 #[s.ptr,V Z f,V Z t,.func (.yield l) #[] #[]] W (BF D (aqx (i+(du f t s.aw).length)) Js Jp W):=by
 intro s
 induction s using LT.ind with
 |nil=>
  intro i W D N eh dT aG _ _ _ _;have HP:Hid (BF D (aqx i) Js Jp W (δ (.bool true)) W):=H (.inl ⟨rfl,aj.refl _ _,D,λ_ h=>.inl h,λ_ h=>h,aG⟩);clear hY N eh dT aG;refine callsIn_of_wp func152 rfl trivial ?_ rfl;simp only[ntmps152,Ε,τ,ω,Λ,Κ,ψ,χ,Ζ,Α,Θ,φ,oS];gi_wp2_with fail;go_ret;exact HP.out
 |node b e sl sr ihl V6=>
  intro i W D N eh dT aG hT hB hS hG;have ED:∀k∈(LT.node b e sl sr).ax,¬D k:=λk Y hd=>by
   rcases eh k hd with h|h
   ·exact(hB k Y).2 h
   have:=(hB k Y).1;omega
  obtain⟨s1,s2,s3⟩:=V5 (show LT.eF (sl.aw++e::sr.aw)from hS);have zo:b∈(LT.node b e sl sr).ax:=by simp[LT.ax]
  have lA:∀k∈sl.ax,k∈(LT.node b e sl sr).ax:=λk Y=>by simp[LT.ax,Y]
  have pS:∀k∈sr.ax,k∈(LT.node b e sl sr).ax:=λk Y=>by simp[LT.ax,Y]
  have lE:=(LT.node b e sl sr).Ng;have he:du f t (LT.node b e sl sr).aw=du f t sl.aw++((if e.b<t/\f<e.e then[e]else[])++du f t sr.aw):=by
   show du f t (sl.aw++e::sr.aw)=_;rw[OP,YY]
  have c8:=hT.1.cell (k:=8) rfl;by_cases hg:(LT.node b e sl sr).gr<=f
  case pos=>
   have e0:du f t (LT.node b e sl sr).aw=[]:=Qo λx N h=>by have:=lE x N;omega
   have HP:Hid (BF D (aqx (i+(du f t (LT.node b e sl sr).aw).length)) Js Jp W (δ (.bool true)) W):=by
    rw[e0];exact H (.inl ⟨rfl,aj.refl _ _,D,λ_ h=>.inl h,λ_ h=>h,aG⟩)
   clear hY N eh dT aG hT hB hS hG he lE ihl V6 ED s1 s2 s3 zo lA pS e0;generalize(LT.node b e sl sr).gr=aqr at *
   refine callsIn_of_wp func152 rfl trivial ?_ rfl;simp only[ntmps152,Ε,τ,ω,Λ,Κ,ψ,χ,Ζ,Α,Θ,φ,jr];gi_wp2_with fail;go_ret;exact HP.out
  case neg=>
   have c5:=hT.1.cell (k:=5) rfl;have HL:=H (ihl i W D N eh dT aG hT.2.1 (λk Y=>hB k (lA k Y)) s1 (λj x hj=>hG j x (by rw[he,Υ (List.getElem?_eq_some_iff.1 hj).1];exact hj)));have HT:=H hT;have HE:=H he;generalize hgE:(LT.node b e sl sr).gr=aqr at *
   clear ihl lE hT he hS;refine callsIn_of_wp func152 rfl trivial ?_ rfl;simp only[ntmps152,Ε,τ,ω,Λ,Κ,ψ,χ,Ζ,Α,Θ,φ,jr];gi_wp2_with fail;refine⟨trivial,rfl,HL.out.mono ?_⟩;clear HL c5 c8;rintro E W1 (⟨rfl,bC,D1,d1,d2,yT⟩|⟨rfl,J⟩|⟨c,rfl,J⟩)
   case inr.inl=>
    have HP:=H J;clear J hY N eh dT aG hB hG HT HE V6 ED s1 s2 s3 zo lA pS;gi_wp2_with fail;go_ret;exact .inr (.inl ⟨rfl,HP.out⟩)
   case inr.inr=>
    have HP:=H J;clear J hY N eh dT aG hB hG HT HE V6 ED s1 s2 s3 zo lA pS;gi_wp2_with fail;exact⟨rfl,.inr (.inr ⟨c,rfl,HP.out⟩)⟩
   case inl=>
    have bA:=N.size;have dP:∀k∈(LT.node b e sl sr).ax,¬D1 k:=λk Y hd=>(d1 k hd).elim (ED k Y) (λh=>by have:=(hB k Y).1;omega);have uM:=HT.out.aM bC ED;have sB:aj O W0 W1:=N.trans bC eh;have Hi:∀k,D1 k->O k\/W0.heap.size<=k:=λk Y=>(d1 k Y).elim (eh k) (λh=>.inr (by omega));have Nn:∀k,O k->D1 k:=λk Y=>d2 k (dT k Y);have HR:Hid (∀(W2:θ) (D2:ak) (m:Nat),aj D1 W1 W2->(∀k,D2 k->D1 k\/W1.heap.size<=k)->(∀k,D1 k->D2 k)->On D2 (aqx (i+(du f t sl.aw).length+m)) W2->m=(if e.b<t/\f<e.e then[e]else[]).length->
     CallsIn Fence.wide 0 prog 152 #[sr.ptr,V Z f,V Z t,.func (.yield l) #[] #[]] W2 (BF D (aqx (i+(du f t (LT.node b e sl sr).aw).length)) Js Jp W)):=H (by
     intro W2 D2 m bN a1 a2 on2 hm;have zA:=bC.size;refine(V6 _ W2 D2 (sB.trans bN Hi) (λk Y=>(a1 k Y).elim (Hi k) (λh=>.inr (by omega))) (λk Y=>a2 k (Nn k Y)) on2 (uM.2.2.aM bN λk Y=>dP k (pS k Y)) (λk Y=>hB k (pS k Y)) s2 ?_).mono ?_
     ·intro j x hj;have:=hG ((du f t sl.aw).length+m+j) x (by
       rw[HE.out,Δ (by omega),Δ (by omega)];rw[show(du f t sl.aw).length+m+j-(du f t sl.aw).length-(if e.b<t/\f<e.e then[e]else[]).length=j by omega];exact hj)
      rw[show i+(du f t sl.aw).length+m+j=i+((du f t sl.aw).length+m+j) by omega];exact this
     intro E W3 h;have:=h.after (D:=D) (W:=W) (bC.trans bN d1) (λk Y=>(a1 k Y).elim (d1 k) (λh=>.inr (by have:=bC.size;omega))) (λk Y=>a2 k (d2 k Y));rw[HE.out,Γ,Γ,<-hm,show i+((du f t sl.aw).length+(m+(du f t sr.aw).length))=i+(du f t sl.aw).length+m+(du f t sr.aw).length by omega];exact this)
    have c0:=uM.1.cell (k:=0) rfl;have c1:=uM.1.cell (k:=1) rfl;have c2:=uM.1.cell (k:=2) rfl;have c3:=uM.1.cell (k:=3) rfl;have c4:=uM.1.cell (k:=4) rfl;have c6:=uM.1.cell (k:=6) rfl;have Qp:=H uM;clear uM HT V6;by_cases G:e.b<t
    case neg=>
     have e0:du f t (LT.node b e sl sr).aw=du f t sl.aw:=by
      rw[HE.out,if_neg (λh=>G h.1),Qo (es:=sr.aw) (λx N h=>by have:=s3 x N;omega)];simp
     have HP:Hid (BF D (aqx (i+(du f t (LT.node b e sl sr).aw).length)) Js Jp W (δ (.bool true)) W1):=by
      rw[e0];exact H (.inl ⟨rfl,bC,D1,d1,d2,yT⟩)
     have wx:t<=e.b:=by omega
     clear hY N eh dT aG hB hG HE ED s1 s2 s3 zo lA pS e0 bC d1 d2 yT dP sB Hi Nn HR Qp;gi_wp2_with fail;go_ret;exact HP.out
    case pos=>
     have wx:¬t<=e.b:=by omega
     by_cases A:f<e.e
     case neg=>
      have vf:¬e.e>f:=by omega
      have HC:=H (HR.out W1 D1 0 (aj.refl _ _) (λ_ h=>.inl h) (λ_ h=>h) yT (by rw[if_neg (λh=>A h.2)];rfl));clear hY N eh dT aG hB hG HE ED s1 s2 s3 zo lA pS bC d1 d2 yT dP sB Hi Nn HR Qp;gi_wp2_with fail;refine⟨λ_ h=>(by cases h),?_⟩;gi_wp2_with fail;refine⟨trivial,rfl,HC.out.mono ?_⟩;rintro E W3 M;have H3:=H M;rcases M with⟨rfl,_⟩|⟨rfl,_⟩|⟨c,rfl,_⟩
      all_goals clear HC c0 c1 c2 c3 c4 c6
      ·gi_wp2_with fail;go_ret;exact H3.out
      ·gi_wp2_with fail;go_ret;exact H3.out
      gi_wp2_with fail;exact⟨rfl,H3.out⟩
     case pos=>
      have vf:e.e>f:=by omega
      obtain⟨f1,t1,a1,b1,gC,eB⟩:=hY _ _ (hG (du f t sl.aw).length e (by rw[HE.out,Δ (ι _),if_pos ⟨G,A⟩];simp)) W1 D1 sB Hi Nn yT;unfold de bE at gC;clear hY N eh dT aG hB hG HE ED s1 s2 s3 zo lA pS sB Hi Nn;have HR1:=H eB;clear eB;gi_wp2_with fail;refine⟨rfl,HR1.out.mono ?_⟩;clear gC HR1 c0 c1 c2 c3 c4 c6;rintro E W2 (⟨rfl,bN,D2,p1,p2,on2⟩|⟨rfl,J⟩|⟨c,rfl,J⟩)
      case inr.inl=>
       have HP:=H (J.after bC d1 d2);clear J bC d1 d2 yT HR Qp;gi_wp2_with fail;go_ret;exact .inr (.inl ⟨rfl,HP.out⟩)
      case inr.inr=>
       have HP:=H (J.after bC d1 d2);clear J bC d1 d2 yT HR Qp;gi_wp2_with fail;exact⟨rfl,.inr (.inr ⟨c,rfl,HP.out⟩)⟩
      case inl=>
       have HC:=H (HR.out W2 D2 1 bN p1 p2 on2 (by rw[if_pos ⟨G,A⟩];rfl));have c6:=(Qp.out.aM bN dP).1.cell (k:=6) rfl;clear bC d1 d2 yT HR Qp bN p1 p2 on2 dP;gi_wp2_with fail;refine⟨trivial,rfl,HC.out.mono ?_⟩;rintro E W3 M;have H3:=H M;rcases M with⟨rfl,_⟩|⟨rfl,_⟩|⟨c,rfl,_⟩
       all_goals clear HC c6
       ·gi_wp2_with fail;go_ret;exact H3.out
       ·gi_wp2_with fail;go_ret;exact H3.out
       gi_wp2_with fail;exact⟨rfl,H3.out⟩
end
section
section
variable {F:Fence} {nF:Nat} {P:Program} {Q:ϗ->Χ->θ->Prop}
theorem Cf {ops:Array Ν}{n:Nat}(hf:forward .any ops=true)(hc:iM n ops=true):
 ∀(t:List Ν) (k fuel:Nat) (listed:Array Bool) (a:Χ) (w:θ),ops.toList.drop k=t->n<=k->k<=ops.size->listed.size=ops.size->(∀i,i<k->listed.getD i false=true)->(∀i,k<=i->i<ops.size->listed.getD i true=false)->
  t.length<=fuel->wpListIn F nF P ops Q t a w->wpAnyIn F nF P .any ops Q fuel listed a w
 |[],k,fuel,listed,a,w,hd,hn,Y,hs,G,A,K,h=>by
  have kg:k=ops.size:=by
   have:=congrArg Ϗ hd;simp only[List.length_drop,ω,Array.length_toList]at this;omega
  have hr:υ .any ops listed=[]:=by
   rw[List.eq_nil_iff_forall_not_mem];intro i hi;obtain⟨q1,q2,_⟩:=cZ hi;have:=jH (G i (by omega));rw[q2]at this;cases this
  cases fuel with
  |zero=>exact⟨hr,h⟩
  |succ f=>exact⟨λ_=>h,λi hi=>by rw[hr]at hi;cases hi⟩
 |o::t,k,fuel,listed,a,w,hd,hn,Y,hs,G,A,K,h=>by
  have cR:ops[k]?=some o:=by
   have:=congrArg (λl:List Ν=>l[0]?) hd;simpa[List.getElem?_drop]using this
  have aR:=(Array.getElem?_eq_some_iff.1 cR).1;cases fuel with
  |zero=>simp at K
  |succ f=>
   have mw:k∈υ .any ops listed:=oc cR (A k (ι _) aR) (λe he U=>G _ (fC hf cR e he U));refine⟨λhr=>(by rw[hr]at mw;cases mw),λi hi=>?_⟩;obtain⟨q1,q2,oi,q3,q4⟩:=cZ hi;have OI:i=k:=by
    rcases Nat.lt_trichotomy i k with zF|heq|Iu
    ·have:=jH (G i zF);rw[q2]at this;cases this
    ·exact heq
    obtain⟨e,he,U,aG⟩:=tj hc q3 (by omega);have M:=q4 e he U;rw[aG]at M;have:=jH M;rw[A (i-1) (by omega) (by omega)]at this;cases this
   subst OI;have h0:wpOpIn F nF P ops Q i (wpListIn F nF P ops Q t) a w:=by
    unfold wpOpIn;rw[cR];exact h
   refine wpOpIn_mono (λa' I dN=>Cf hf hc t (i+1) f _ a' I ?_ (by omega) (by omega) (by simp[hs]) ?_ ?_ (by simpa using K) dN) h0
   ·rw[<-List.drop_drop,hd];rfl
   ·intro j hj;by_cases fB:j=i
    ·subst fB;exact eP _ (by omega)
    rw[cb _ fB];exact G j (by omega)
   intro j hj Ux;rw[cb _ (by omega)];exact A j (by omega) Ux
def Bp (F:Fence)(nF:Nat)(P:Program)(ops:Array Ν)(Q:ϗ->Χ->θ->Prop)(t:List Ν):ϗ->Χ->θ->Prop
 | .normal,a,w=>wpListIn F nF P ops Q t a w
 |e,a,w=>Q e a w
theorem N4 {ops:Array Ν}{t:List Ν}{o:Ν}{a:Χ}{w:θ}{aqy K':Χ->θ->Prop}(h:∀a w,aqy a w->K' a w)(hh:o.wpIn F nF P a w aqy (Bp F nF P ops Q t)):o.wpIn F nF P a w K' Q:=by
 unfold Oper.wpIn at *
 refine⟨hh.1,?_⟩;have hh:=hh.2;generalize(o.semAt F.round a.eval).run P w=r at *
 cases r with
 |ok x I=>
  cases x<;>simp only[Oper.uponIn]at hh⊢<;>
   first
    |exact h _ _ hh
    |exact⟨hh.1,CallsIn.mono hh.2 (λe az he=>by cases e<;>first|exact h _ _ he|exact he)⟩
    |exact⟨hh.1,RowsIn.mono hh.2 (λ_ _ he=>h _ _ he)⟩
    |exact⟨hh.1,RoundIn.mono hh.2 (λe az he=>by cases e<;>first|exact h _ _ he|exact he)⟩
 |halt x I=>cases x<;>simp only[Oper.uponIn]at hh⊢<;>exact hh
theorem Sf {l t:List Ν}(hf:forward .any (l++t).toArray=true)(hg:fI (l++t).toArray=true)(hc:iM l.length (l++t).toArray=true):
 ∀(fuel:Nat) (listed L:Array Bool) (a:Χ) (w:θ),(∀i o,l.toArray[i]?=some o->listed.getD i false=true->∀e∈o.after,Region.binds .any e=true->listed.getD e.on false=true)->listed.size=l.length->L.size=l.length+t.length->(∀i,i<l.length->L.getD i true=listed.getD i true)->(∀i,l.length<=i->i<l.length+t.length->L.getD i true=false)->
  wpAnyIn F nF P .any l.toArray (Bp F nF P (l++t).toArray Q t) fuel listed a w->wpAnyIn F nF P .any (l++t).toArray Q (fuel+t.length) L a w:=by
 have bA:(l++t).toArray.size=l.length+t.length:=by simp
 have qv:∀i,i<l.length->(l++t).toArray[i]?=l.toArray[i]?:=λi hi=>by simp[Υ hi]
 have mG:forward .any l.toArray=true:=by
  unfold forward;rw[ό];intro i hi;have O6:i<l.length:=by simpa using List.mem_range.1 hi
  unfold forward at hf;rw[ό]at hf;have:=hf i (List.mem_range.2 (by rw[bA];omega));rw[qv i O6]at this;exact this
 have iT:∀(x:Array Bool) (i:Nat),i<x.size->x.getD i true=x.getD i false:=λx i hi=>by rw[bF _ hi,bF _ hi]
 have done:∀(fuel:Nat) (listed L:Array Bool) (a:Χ) (w:θ),t.length<=fuel->listed.size=l.length->L.size=l.length+t.length->(∀i,i<l.length->L.getD i true=listed.getD i true)->(∀i,l.length<=i->i<l.length+t.length->L.getD i true=false)->
  υ .any l.toArray listed=[]->wpListIn F nF P (l++t).toArray Q t a w->wpAnyIn F nF P .any (l++t).toArray Q fuel L a w:=by
  intro fuel listed L a w hfu hs hL G A hr h;have bD:=mZ mG (by simpa using hs) hr;refine Cf hf hc t l.length fuel L a w (by simp) (ι _) (by rw[bA];omega) (by rw[hL,bA]) (λi hi=>?_) (λi hi Mg=>A i hi (by rw[bA]at Mg;exact Mg)) hfu h;rw[<-iT L i (by omega),G i hi,iT listed i (by omega)];exact bD i (by simpa using hi)
 intro fuel
 induction fuel with
 |zero=>
  intro listed L a w _ hs hL G A h;rw[Φ];exact done _ listed L a w (ι _) hs hL G A h.1 h.2
 |succ f ih=>
  intro listed L a w hC hs hL G A h;by_cases hr:υ .any l.toArray listed=[]
  ·exact done _ listed L a w (by omega) hs hL G A hr (h.1 hr)
  obtain⟨j,hj⟩:=List.exists_mem_of_ne_nil _ hr;obtain⟨j1,j2,_⟩:=cZ hj;have Uz:j<l.length:=by simpa using j1
  have fF:L.getD j true=false:=by rw[G j Uz];exact j2
  have e:f+1+t.length=(f+t.length)+1:=by omega
  rw[e];have key:∀i,i∈υ .any (l++t).toArray L->i∈υ .any l.toArray listed/\i<l.length:=by
   intro i hi;obtain⟨q1,q2,o,q3,q4⟩:=cZ hi;have jw:i<l.length:=by
    rcases Nat.lt_or_ge i l.length with h'|h'
    ·exact h'
    rcases Ω h' with h5|h5
    ·rw[<-h5]at q3;have bD:∀d x,x+d=l.length->0<d->L.getD x false=true:=by
      intro d
      induction d using Nat.strongRecOn with
      |ind d ih=>
       intro x N hd;obtain⟨k,Hs,fD,Mh⟩:=B5 hc (by omega:x<l.length);rcases Ω fD with Fe|Fe
       ·rw[Fe]at Mh;obtain⟨e,he,U,aG⟩:=pG q3 Mh;have M:=q4 e he U;rw[aG]at M;exact M
       have EH:=ih (l.length-k) (by omega) k (by omega) (by omega);have cR:(l++t).toArray[k]?=some l[k]:=by rw[qv k Fe];simp
       obtain⟨e,he,U,aG⟩:=pG cR Mh;have h6:=hC k l[k] (by simp) (by rw[<-iT listed k (by omega),<-G k Fe,iT L k (by omega)];exact EH) e he U;rw[aG,<-iT listed x (by omega),<-G x (by omega),iT L x (by omega)]at h6;exact h6
     have:=jH (bD (l.length-j) j (by omega) (by omega));rw[fF]at this;cases this
    obtain⟨e,he,U,aG⟩:=tj hc q3 h5;have M:=q4 e he U;rw[aG]at M;have:=jH M;rw[A (i-1) (by omega) (by rw[bA]at q1;omega)]at this;cases this
   rw[qv i jw]at q3;refine⟨oc q3 (by rw[<-G i jw];exact q2) (λe he U=>?_),jw⟩;have aR:e.on<i:=fC mG q3 e he U;have M:=q4 e he U;have:=jH M;rw[G e.on (by omega),iT listed _ (by omega)]at this;exact this
  refine⟨λjv=>?_,λi hi=>?_⟩
  ·exfalso;obtain⟨q1,q2,o,q3,q4⟩:=cZ hj;have UA:j∈υ .any (l++t).toArray L:=by
    refine oc (by rw[qv j Uz];exact q3) fF (λe he U=>?_);have aR:e.on<j:=fC mG q3 e he U;have M:=q4 e he U;rw[<-iT L _ (by omega),G _ (by omega),iT listed _ (by omega)];exact M
   rw[jv]at UA;cases UA
  obtain⟨ki,jw⟩:=key i hi;have h4:=h.2 i ki;have ho:l.toArray[i]?=some l[i]:=by simp
  unfold wpOpIn at h4⊢;rw[qv i jw];rw[ho]at h4⊢;simp only[]at h4⊢;have hw:∀y,Region.wanted l[i] y=true:=we hg (by rw[qv i jw];exact ho);rw[if_pos (hw _)]at h4⊢;refine N4 (λa' I dN=>ih _ _ a' I (λk ok cR ie e he U=>?_) (by simpa using hs) (by simpa using hL) (λk Y=>?_) (λk Y kg=>?_) dN) h4
  ·obtain⟨_,_,oi,qo,qa⟩:=cZ ki;by_cases kF:k=i
   ·subst kF;rw[qo]at cR;cases cR;by_cases uz:e.on=k
    ·rw[uz];exact eP _ (by omega)
    rw[cb _ uz];exact qa e he U
   rw[cb _ kF]at ie;by_cases uz:e.on=i
   ·rw[uz];exact eP _ (by omega)
   rw[cb _ uz];exact hC k ok cR ie e he U
  ·by_cases kF:k=i
   ·subst kF;rw[eP _ (by omega),eP _ (by omega)]
   rw[cb _ kF,cb _ kF];exact G k Y
  rw[cb _ (by omega)];exact A k Y kg
theorem DI {id:Nat}{a:Χ}{w:θ}(l t:List Ν)(hm:P.follows .mixedOrders=true)(hf:forward .any (l++t).toArray=true)(hg:fI (l++t).toArray=true)(hc:iM l.length (l++t).toArray=true)
 (h:wpAnyIn F nF P .any l.toArray (Bp F nF P (l++t).toArray Q t) l.length (ύ l.length false) a {w with drawn:=w.drawn+1}):(Code.region id (l++t).toArray true).wpIn F nF P Q a w:=by
 refine wpIn_region_any hm ?_;have bA:(l++t).toArray.size=l.length+t.length:=by simp
 rw[bA];refine Sf hf hg hc _ _ _ _ _ (λi o ho K=>?_) (by simp) (by simp) (λi hi=>?_) (λi hi Mg=>?_) h
 ·rw[bF _ (by simpa using(Array.getElem?_eq_some_iff.1 ho).1)]at K;simp at K
 ·rw[bF _ (by simp;omega),bF _ (by simpa using hi)];simp
 rw[bF _ (by simp;omega)];simp
def qL (ops:Array Ν):Bool:=ops.all λo=>match o.op with| .defer _=>false|_=>true
theorem JZ {ops:Array Ν}(h:qL ops=true){i:Nat}{o:Ν}(ho:ops[i]?=some o):∀c,o.op≠ .defer c:=by
 unfold qL at h;rw[Array.all_eq_true']at h;have:=h o (Array.mem_of_getElem? ho);intro c hc;rw[hc]at this;cases this
theorem Np {C:θ->Prop}{o:Ν}{a:Χ}{aqy:Χ->Prop}{K':Χ->θ->Prop}{Q':ϗ->Χ->θ->Prop}{w:θ}(hd:∀c,o.op≠ .defer c)(hw:C w)(h:∀a I,C I->aqy a->K' a I)
 (ha:o.askedIn F P a C)(hh:o.quietIn F nF P a C aqy):o.wpIn F nF P a w K' Q':=by
 obtain⟨v,G,A⟩:=hh;have M:=G w hw;unfold Oper.quietAtIn at M;unfold Oper.wpIn;refine⟨ha w hw,?_⟩;rw[Oper.semAt_plain F _ _ hd];generalize(execOp a.eval o).run P w=r at *
 cases r with
 |ok x I=>
  cases x<;>simp only[Oper.quietUponIn]at M<;>simp only[Oper.uponIn]
  case value u=>
   obtain⟨S,e2⟩:=M;rw[S,e2];exact h _ _ hw A
  case skip=>
   obtain⟨S,e2⟩:=M;rw[S,<-e2];exact h _ _ hw A
  case enter f args=>
   obtain⟨S,hd,hc⟩:=M;rw[S];exact⟨hd,hc.mono λe az ⟨he,iE⟩=>by subst he;exact h _ _ iE A⟩
 |halt x I=>simp only[Oper.quietUponIn]at M
theorem Sg {C:θ->Prop}{ops:Array Ν}(hd:qL ops=true){i:Nat}{a:Χ}{aqy:Χ->Prop}{K':Χ->θ->Prop}{Q':ϗ->Χ->θ->Prop}{w:θ}(hC:C w)(h:∀a I,C I->aqy a->K' a I)
 (hh:qOpIn F nF P ops C i aqy a):wpOpIn F nF P ops Q' i K' a w:=by
 unfold qOpIn at hh;unfold wpOpIn;split
 ·rename_i ho;simp only[ho]at hh;exact h _ _ hC hh
 rename_i o ho;simp only[ho]at hh;obtain⟨ha,hh⟩:=hh;split
 ·rename_i hw;simp only[hw,if_true]at hh;exact Np (JZ hd ho) hC h ha hh
 rename_i hw;simp only[hw]at hh;exact⟨ha w hC,h _ _ hC hh⟩
theorem Cg {C:θ->Prop}{ops:Array Ν}(hd:qL ops=true){Q:Χ->Prop}{Q':ϗ->Χ->θ->Prop}(hQ:∀a w,C w->Q a->Q' .normal a w):∀(fuel:Nat) (listed:Array Bool) (a:Χ) (w:θ),C w->
 wpAnyQIn F nF P .any ops C Q fuel listed a->wpAnyIn F nF P .any ops Q' fuel listed a w
 |0,_,_,_,hw,h=>⟨h.1,hQ _ _ hw h.2⟩
 |fuel+1,_,_,_,hw,h=>⟨λh0=>hQ _ _ hw (h.1 h0),λi hi=>Sg hd hw (λa' I dN=>Cg hd hQ fuel _ a' I dN) (h.2 i hi)⟩
theorem FU {id:Nat}{a:Χ}{w:θ}(l t:List Ν)(hm:P.follows .mixedOrders=true)(hf:forward .any (l++t).toArray=true)(hg:fI (l++t).toArray=true)(hc:iM l.length (l++t).toArray=true)(hd:qL l.toArray=true)(hB:Region.lexB .any l.toArray=true)
 (h:wpQuietIn F nF P l.toArray (λI=>∃n,I=w.drewN n) (λa'=>∀I,(∃n,I=w.drewN n)->wpListIn F nF P (l++t).toArray Q t a' I) l a):(Code.region id (l++t).toArray true).wpIn F nF P Q a w:=by
 refine DI l t hm hf hg hc ?_;simp only[Region.lexB,Bool.and_eq_true]at hB;refine Cg hd (Q:=λa'=>∀I,(∃n,I=w.drewN n)->Bp F nF P (l++t).toArray Q t .normal a' I) (C:=λI=>∃n,I=w.drewN n) (λ_ I dN h=>h I dN) _ _ _ _ ⟨1,rfl⟩ ?_;exact wpAnyQIn_lex (C:=λI=>∃n,I=w.drewN n) (md:=.any) hB.1 l 0 (ύ l.length false) a (by simp) (by simpa using hB.2) h
theorem Nq {id:Nat}{a:Χ}{w:θ}{L l t:List Ν}(n:Nat)(K:L.take n=l)(ht:L.drop n=t)(hm:P.follows .mixedOrders=true)(hf:forward .any L.toArray=true)(hg:fI L.toArray=true)(hc:iM n L.toArray=true)(hn:l.length=n)(hd:qL l.toArray=true)(hB:Region.lexB .any l.toArray=true)
 (h:wpQuietIn F nF P l.toArray (λI=>∃n,I=w.drewN n) (λa'=>∀I,(∃n,I=w.drewN n)->wpListIn F nF P L.toArray Q t a' I) l a):(Code.region id L.toArray true).wpIn F nF P Q a w:=by
 subst K ht;have e:L.take n++L.drop n=L:=List.take_append_drop n L;have:=FU (F:=F) (nF:=nF) (P:=P) (Q:=Q) (id:=id) (a:=a) (w:=w) (L.take n) (L.drop n) hm (by rw[e];exact hf) (by rw[e];exact hg) (by rw[e,hn];exact hc) hd hB (by rw[e];exact h);rw[e]at this;exact this
end
end
section
open Go.Sort
attribute [local go_sem] Oper.semAt_some
def Wm (t:LT)(c h:Int):List Value:=[t.ptr,V Z c,V Z h]
structure cP (w:θ)(p:Nat)(t:LT)(c h:Int):Prop where
 row:X w p (Wm t c h) 70
 tree:aF w t
 nd:(p::t.ax).Nodup
theorem cP.keep {w I:θ}{p:Nat}{t:LT}{c h:Int}(x:cP w p t c h)(Y:∀k∈p::t.ax,I.heap[k]?=w.heap[k]?):cP I p t c h:=
 ⟨(Y p (by simp)).trans x.row,x.tree.keep λk bV=>Y k (by simp[bV]),x.nd⟩
theorem cP.aM {w I:θ}{O:Nat->Prop}{p:Nat}{t:LT}{c h:Int}(x:cP w p t c h)(N:aj O w I)(hn:∀k∈p::t.ax,¬O k):cP I p t c h:=
 x.keep λk Y=>N.block k ((List.mem_cons.1 Y).elim (λe=>e▸x.row.lt) (x.tree.lt k)) (hn k Y)
def dz (es:List aJ):List (Array Value):=es.map λe=>#[de e]
theorem qi (es:List aJ):(dz es).length=es.length:=by unfold dz;simp
theorem xG {es:List aJ}{i:Nat}{e:aJ}(h:es[i]?=some e):(dz es)[i]?=some #[de e]:=by unfold dz;rw[ϊ,h];rfl
theorem EA (p:Nat)(f t:Int)(w:θ):
 ξ prog 96 #[ε (some ⟨p,0,none⟩),V Z f,V Z t] w λe I=>
  e=δ (.func (.func 151) #[] #[ε (some ⟨w.heap.size,0,none⟩),ε (some ⟨w.heap.size+1,0,none⟩),ε (some ⟨w.heap.size+2,0,none⟩)])/\
  Below w.heap.size w I/\X I w.heap.size [ε (some ⟨p,0,none⟩)] 46/\X I (w.heap.size+1) [V Z f] 3/\X I (w.heap.size+2) [V Z t] 3:=by
 go_enter func96,ntmps96;go_wp2_with fail;go_ret;have S:∀o,(w.alloc o).heap.size=w.heap.size+1:=λo=>by simp
 have e2:∀o o',((w.alloc o).alloc o').heap.size=w.heap.size+2:=λo o'=>by simp
 refine⟨rfl,(((π _ _).alloc (ι _) _).alloc (by simp) _).alloc (by simp;omega) _,?_,?_,?_⟩
 ·exact((X.new w _ _).on ((π _ _).alloc (ι _) _)).on ((π _ _).alloc (ι _) _)
 ·have:=(X.new (w.alloc (η #[ε (some ⟨p,0,none⟩)] 46)) [V Z f] 3).on ((π _ _).alloc (ι _) (η #[V Z t] 3));rw[S]at this;exact this
 have:=X.new ((w.alloc (η #[ε (some ⟨p,0,none⟩)] 46)).alloc (η #[V Z f] 3)) [V Z t] 3;rw[e2]at this;exact this
theorem Gi (b0 b1 b2 p:Nat)(T:LT)(c h f t:Int)(w:θ)(hi:cP w p T c h)(hs:LT.eF T.aw)
 (r0:X w b0 [ε (some ⟨p,0,none⟩)] 46)(r1:X w b1 [V Z f] 3)(r2:X w b2 [V Z t] 3):
 kO prog 151 #[ε (some ⟨b0,0,none⟩),ε (some ⟨b1,0,none⟩),ε (some ⟨b2,0,none⟩)] (dz (du f t T.aw)) (λk=>k=b0\/k=b1\/k=b2\/k∈p::T.ax) w:=by
 intro l W O aqx Js Jp bA hR hO cM hY;have hW:=hi.keep λk Y=>hR k (.inr (.inr (.inr Y)));have q0:=r0.keep (hR b0 (.inl rfl));have q1:=r1.keep (hR b1 (.inr (.inl rfl)));have q2:=r2.keep (hR b2 (.inr (.inr (.inl rfl))));have HC:=H λn=>agb l W O aqx Js Jp (dz (du f t T.aw)) f t hY T 0 (W.drewN n) O (fK _ _ _) (λ_ h=>.inl h) (λ_ h=>h) (cM.on λ_ _=>rfl) (hW.tree.keep λ_ _=>rfl) (λk Y=>⟨hW.tree.lt k Y,λho=>hO k ho (.inr (.inr (.inr (by simp[Y]))))⟩) hs (λj x hj=>by rw[Φ];exact xG hj);have c0:=q0.cell (k:=0) rfl;have c1:=q1.cell (k:=0) rfl;have c2:=q2.cell (k:=0) rfl;have c3:=hW.row.cell (k:=0) rfl;clear hW q0 q1 q2 hY hO hR hi r0 r1 r2 hs;rw[qi];refine callsIn_of_wp func151 rfl trivial ?_ rfl;simp only[ntmps151,Ε,τ,ω,Λ,Κ,ψ,χ,Ζ,Α,Θ,φ];refine Nq 7 (by simp only[List.take_succ_cons,List.take_zero];rfl) (by simp only[List.drop_succ_cons,List.drop_zero];rfl) (by kernel_rfl) (by kernel_rfl) (by kernel_rfl) (by kernel_rfl) rfl (by kernel_rfl) (by kernel_rfl) ?_
 iterate 7 (gi_big_quiet_step (fail))
 refine wpQuietIn_nil ?_;intro _ dN;obtain⟨nq,rfl⟩:=dN;gi_wp2_with fail;refine⟨trivial,rfl,(HC.out nq).mono ?_⟩;rw[Φ];have N:aj O W (W.drewN nq):=fK _ _ _;clear HC c0 c1 c2 c3;rintro E W1 (⟨rfl,J⟩|⟨rfl,J⟩|⟨q,rfl,J⟩)
 ·have HP:=H (J.after N (λ_ h=>.inl h) (λ_ h=>h));clear J N;gi_wp2_with fail;go_end0;exact .inl ⟨⟨_,rfl⟩,.inl HP.out⟩
 ·have HP:=H (J.after N (λ_ h=>.inl h) (λ_ h=>h));clear J N;gi_wp2_with fail;go_end0;exact .inl ⟨⟨_,rfl⟩,.inr HP.out⟩
 have HP:=H (J.after N (λ_ h=>.inl h) (λ_ h=>h));clear J N;gi_wp2_with fail;exact⟨rfl,.inr ⟨q,rfl,HP.out⟩⟩
end
section
open Go.Sort
attribute [local go_sem] Oper.semAt_some
theorem BE (p:Nat)(T:LT)(c h:Int)(x:aJ)(w:θ)(hi:cP w p T c h)(hs:LT.eF T.aw)(sz:T.size<=400000)(hy:∃y∈T.aw,bP x y=0)(c0:-1000000<=c)(c1:c<=1000000):
 ξ prog 94 #[ε (some ⟨p,0,none⟩),de x] w λE I=>E=δ (.tuple #[])/\cP I p (T.drop x) (c-1) h/\aj (λk=>k∈p::T.ax) w I:=by
 have rx:=X.new w (bE x) 144;have al:Below w.heap.size w (w.alloc (η (bE x).toArray 144)):=(π _ _).alloc (ι _) _;have hI:cP (w.alloc (η (bE x).toArray 144)) p T c h:=hi.aM (O:=λ_=>False) (aj.aq al) (λ_ _ h=>h);have hn:=hi.nd;rw[κ]at hn;unfold de at *
 unfold bE at *
 go_enter func94,ntmps94;go_upto_region 1 with fail;generalize(w.alloc (.cells [Β Z x.b,V Z x.e,ζ x.c,ζ x.u,V Z x.k].toArray 144))=W at *
 obtain⟨x0,x1,x2,x3,x4⟩:=lS (e:=x) rx;have k0:=hI.row.cell (k:=0) rfl;have HI:=H hI;have HB:=H al;have HC:=H (DH x T W.drew (hI.tree.keep λ_ _=>rfl) hn.2 sz hs hy);unfold de bE at HC;clear hI al rx hi;go_region_with (go_at_call 150;refine(HC.out).mono ?_;rintro E W4 ⟨hE,gd,bH⟩;obtain⟨px,gY⟩:=(T.drop x).kB;rw[gY]at hE;subst hE;have r4:=X.ex (show X W.drew p _ _ from HI.out.row) bH hn.1;have f4:=r4.free (k:=0);have c4:=r4.cell (k:=0) rfl)
 all_goals
  have wF:aj (λk=>k=p) W4 (W4.setCell ⟨p,0,none⟩ (.pointer px)):=(aj.refl (λk=>k=p) W4).st rfl _;have r5:=r4.set (k:=0) (.pointer px);have t5:=gd.aM wF (λk Y e=>hn.1 (mz x T p (e▸Y)));have x5:aj (λk=>k∈p::T.ax) w (W4.setCell ⟨p,0,none⟩ (.pointer px)):=(((aj.aq HB.out).aK (aj.refl _ W).drew).trans bH λk Y=>.inl (by simp[Y])).st (by simp) _;generalize(W4.setCell ⟨p,0,none⟩ (.pointer px))=W5 at *
  have k1:=r5.cell (k:=1) rfl;have f1:=r5.free (k:=1);have R5:=H r5;have T5:=H t5;have X5:=H x5;clear r5 t5 x5 wF r4 f4 c4 gd bH HC x0 x1 x2 x3 x4 k0 HI HB;go_wp2_with fail;go_end0;have tQ:aj (λk=>k=p) W5 (W5.setCell ⟨p,1,none⟩ (V Z (c-1))):=(aj.refl (λk=>k=p) W5).st rfl _;refine⟨rfl,⟨?_,T5.out.aM tQ (λk Y e=>hn.1 (mz x T p (e▸Y))),?_⟩,X5.out.trans tQ λk Y=>.inl (by simp[Y])⟩
  ·have:=R5.out.set (k:=1) (V Z (c-1));unfold Wm;rw[gY];exact this
  rw[κ];exact⟨λY=>hn.1 (mz x T p Y),Hh x T hn.2⟩
end
section
open Go.Sort
attribute [local go_sem] Oper.semAt_some
theorem V7 {l:List aJ}{e:aJ}(h:LT.eF (l++[e])):LT.jY e (l++[e])=l:=by
 unfold LT.jY;rw[Μ];have G:l.filter (λy=>decide (bP e y≠0))=l:=List.filter_eq_self.2 λy hy=>by
  unfold LT.eF at h;rw[Ι]at h;exact decide_eq_true (LT.ne_of_gt (h.2.2 y hy e (by simp)))
 have A:[e].filter (λy=>decide (bP e y≠0))=[]:=by
  have:bP e e=0:=ir.2 ⟨rfl,rfl,rfl⟩;simp[this]
 rw[G,A,ώ]
def qj (t:Int)(es:List aJ):List aJ:=es.filter λe=>decide (e.b<t)
theorem agd {l r:List aJ}{e:aJ}(h:LT.eF (l++e::r)):∀x∈l,x.b<=e.b:=λx N=>by
 unfold LT.eF at h;rw[Ι]at h;exact(h.2.2 x N e (by simp)).b
theorem V8 {t:Int}{aqA R aqt:List aJ}(h:aqt=aqA++R)(hS:∀x∈aqA,x.b<t)(hR:∀x∈R,t<=x.b):aqA=qj t aqt:=by
 unfold qj;rw[h,Μ,List.filter_eq_self.2 (λx N=>decide_eq_true (hS x N)),List.filter_eq_nil_iff.2 (λx N=>by have:=hR x N;simp;omega),ώ]
theorem Ch {p:Nat}{T aqA:LT}{R:List aJ}{c h t:Int}{w W:θ}(hI:cP W p aqA c h)(hT:T.aw=aqA.aw++R)(hS:∀x∈aqA.aw,x.b<t)(hR:∀x∈R,t<=x.b)(hB:∀k∈aqA.ax,k∈T.ax)(N:aj (λk=>k∈p::T.ax) w W):
 cP (W.setCell ⟨p,2,none⟩ (V Z t)) p aqA c t/\aqA.aw=qj t T.aw/\(∀k∈aqA.ax,k∈T.ax)/\aj (λk=>k∈p::T.ax) w (W.setCell ⟨p,2,none⟩ (V Z t)):=by
 have hn:=hI.nd;rw[κ]at hn;have hs:aj (λk=>k=p) W (W.setCell ⟨p,2,none⟩ (V Z t)):=(aj.refl (λk=>k=p) W).st rfl _;exact⟨⟨hI.row.set (k:=2) _,hI.tree.aM hs (λk Y e=>hn.1 (e▸Y)),hI.nd⟩,V8 hT hS hR,hB,N.trans hs λk Y=>.inl (by simp[Y])⟩
theorem BC (p:Nat)(T:LT)(h t:Int)(w:θ)(hi:cP w p T T.size h)(hs:LT.eF T.aw)(sz:T.size<=400000):
 ξ prog 69 #[ε (some ⟨p,0,none⟩),V Z t] w λE I=>E=δ (.tuple #[])/\∃T':LT,cP I p T' T'.size t/\T'.aw=qj t T.aw/\(∀k∈T'.ax,k∈T.ax)/\aj (λk=>k∈p::T.ax) w I:=by
 have HI:=H hi;have HS:=H hs;clear hi hs;go_enter func69,ntmps69;go_wp2_with fail;go_loopg [4] T.size (λk _ wr=>∃(aqA:LT) (R:List aJ),aqA.size<=k/\cP wr p aqA aqA.size h/\T.aw=aqA.aw++R/\(∀x∈R,t<=x.b)/\(∀k∈aqA.ax,k∈T.ax)/\aj (λk=>k∈p::T.ax) w wr)
 case atStart=>exact⟨T,[],ι _,HI.out,by simp,λ_ h=>(by cases h),λ_ h=>h,aj.refl _ _⟩
 case round=>
  obtain⟨aqA,R,bA,hI,hT,hR,hS,N⟩:=hrel;have k0:=hI.row.cell (k:=0) rfl;have HI2:=H hI;cases K:aqA.pO with
  |none=>
   have hn:=LT.AU K;subst hn;have f2:=hI.row.free (k:=2);have k2:=hI.row.cell (k:=2) rfl;clear hI;simp only[oS]at k0;go_wp2_with fail;go_end0;exact⟨rfl,.nil,Ch HI2.out hT (λ_ h=>by cases h) hR hS N⟩
  |some q=>
   obtain⟨b,e⟩:=q;have hn:∃pb,aqA.ptr=ε (some pb):=by
    cases aqA using LT.AT with
    |nil=>cases K
    |node bs _ _ _=>exact⟨_,rfl⟩
   obtain⟨pb,MC⟩:=hn;obtain⟨l,hle⟩:=LT.FT K;have HL:=H (YX aqA b e wr hI.tree K);rw[MC]at k0 HL;have HT:=H hT;have HX:=H N;have HSB:=H hS;have HR:=H hR;have KG:LT.eF aqA.aw:=by
    have:=HS.out;rw[hT]at this;unfold LT.eF at *
    exact(List.pairwise_append.1 this).1
   clear hI hT N hS hR;go_upto_region 2 with(go_at_call 105;refine(HL.out).mono ?_;rintro E W1 ⟨rfl,rfl,lv,rv,x,y,aC⟩;obtain⟨e0,S,e2,e3,e4⟩:=FR aC;clear aC);have ay:Below wr.heap.size wr (wr.alloc (η (bE e).toArray 144)):=(π _ _).alloc (ι _) _;have rx:=X.new wr (bE e) 144;have Qq:cP (wr.alloc (η (bE e).toArray 144)) p aqA aqA.size h:=HI2.out.aM (O:=λ_=>False) (aj.aq ay) (λ_ _ h=>h);have bC:aj (λk=>k∈p::T.ax) w (wr.alloc (η (bE e).toArray 144)):=HX.out.alloc _;clear e0 S e2 e3 e4 HL ay k0;unfold bE at *
   generalize(wr.alloc (.cells [Β Z e.b,V Z e.e,ζ e.c,ζ e.u,V Z e.k].toArray 144))=W1 at *
   obtain⟨e0,S,e2,e3,e4⟩:=lS (e:=e) rx;have f2:=Qq.row.free (k:=2);have k2:=Qq.row.cell (k:=2) rfl;have HI1:=H Qq;have HX1:=H bC;by_cases aR:e.b<t
   case pos=>
    clear Qq bC rx;go_wp2_with fail;go_end0;refine⟨rfl,aqA,Ch HI1.out HT.out (λx N=>?_) HR.out HSB.out HX1.out⟩;rw[hle]at N;rcases List.mem_append.1 N with h|h
    ·rw[hle]at KG;have:=agd KG x h;omega
    rw[List.mem_singleton.1 h];exact aR
   case neg=>
    have ak0:aqA.size<=T.size:=by
     have:=congrArg Ϗ HT.out;rw[Γ,LT.cC,LT.cC]at this;omega
    have HD:=H (BE p aqA aqA.size h e W1 Qq KG (by omega) ⟨e,by rw[hle];simp,ir.2 ⟨rfl,rfl,rfl⟩⟩ (by omega) (by omega));unfold de bE at HD;clear Qq bC rx;go_wp2_with (go_at_call 94;refine(HD.out).mono ?_;rintro E W2 ⟨rfl,o9,eo⟩);have hde:(aqA.drop e).aw=l:=by rw[LT.rJ e KG,hle];exact V7 (hle▸KG)
    have hz:(aqA.drop e).size+1=aqA.size:=by rw[<-LT.cC,<-LT.cC,hde,hle];simp
    go_roundg (aqA.drop e).size
    case measure=>omega
    case rel=>
     refine⟨aqA.drop e,e::R,ι _,?_,?_,?_,λk Y=>HSB.out k (mz e aqA k Y),HX1.out.trans eo λk Y=>.inl ?_⟩
     ·rw[show((aqA.drop e).size:Int)=aqA.size-1 by omega];exact o9
     ·rw[hde,HT.out,hle];simp
     ·intro x N;rcases List.mem_cons.1 N with h|h
      ·rw[h];omega
      exact HR.out x h
     rcases List.mem_cons.1 Y with h|h
     ·simp[h]
     simp[HSB.out k h]
end
theorem Ss {f:FuncId}{ua:Func}{P:Program}(nV:P.funcs[f]?=some ua){g:Operand}{ps:Array Tmp}{assign body:Code}{Q:ϗ->Χ->θ->Prop}{a:Χ}{w:θ}
 {gf:Nat}{lb:Array Value}{Ok:List (Array Value)->Prop}(hg:a.eval g=.func (.func gf) #[] lb)(eg:∀args w,(callFunc gf args).run P w=.ok (.enter gf args) w)
 {R:ak}{w0:θ}(hit:pQ P gf lb Ok R w0)(ub:w0.heap.size<=w.heap.size)(ud:∀k,R k->w.heap[k]?=w0.heap[k]?)(mA:∀k,R k->k<w.heap.size)
 (O:ak)(hO:∀k,O k->¬R k)(aqx:List (Array Value)->aQ)(Jx:Code->aQ)(Jp:List Ο->aQ)(lz:∀xs,Ok xs->∀x∈xs,x.size=ps.size)(h0:On O (aqx []) w)
 (ph:∀(l:Nat) (i:List (Array Value)) (x:Array Value),(∃gi,Ok (i++x::gi))->∀(W:θ) (D:ak),aj O w W->w.heap.size+2<=W.heap.size->(∀k,O k->D k)->On D (aqx i) W->
  ∀aqy:Χ->θ->Prop,(∀a1 W1 D1,Below W.heap.size W W1->(∀k,D1 k->D k\/W.heap.size<=k)->(∀k,D k->D1 k)->(∀k,D1 k->k<W1.heap.size)->
   Fq P O w body (aqx (i++[x])) Jx Jp a1 D1 W1->aqy a1 W1)->
  assign.wpIn (Fence.wide.inRound l) 0 P (Exit.then aqy (λ_ _ _=>False)) {tmps:=(ps.zip x).foldl (λt (p,v)=>t.setIfInBounds p v) a.tmps,defers:=[]} W)
 (kZ:∀(xs:List (Array Value)),Ok xs->∀(W:θ),aO O (w.heap.size+2) (aqx xs) w W->w.heap.size+2<=W.heap.size->W.heap[w.heap.size]?=some (.deferred (some []))->Q .normal {a with defers:={target:=.collected w.heap.size,args:=#[]}::a.defers} W)
 (k4:∀(c:Code) (W:θ),aO O (w.heap.size+2) (Jx c) w W->w.heap.size+2<=W.heap.size->W.heap[w.heap.size]?=some (.deferred (some []))->c.wpIn Fence.wide 0 P Q {a with defers:={target:=.collected w.heap.size,args:=#[]}::a.defers} W)
 (nW:∀(c:List Ο) (W:θ),aO O (w.heap.size+2) (Jp c) w W->w.heap.size+2<=W.heap.size->W.heap[w.heap.size]?=some (.deferred (some []))->Q (.panic c) {a with defers:={target:=.collected w.heap.size,args:=#[]}::a.defers} W):
 vi f P (Code.rangeFunc g ps assign body) Q a w:=by
 refine PL nV hg eg hit ub ud mA O hO aqx Jx Jp (λi x a1 D W=>Fq P O w body (aqx (i++[x])) Jx Jp a1 D W) lz h0 ?_ ?_ kZ k4 nW
 ·intro l i x N W D he hs dT aG aqy hK;refine ph l i x N W D he hs dT aG aqy λa1 W1 D1 U G A M zJ=>hK a1 W1 D1 U G A ⟨M,λW2 Y l' W3 bV=>zJ l' W3 λk hd=>(bV k hd).trans (Y k hd)⟩
 intro l i x N a1 W D he hs dT aG;exact aG.out l W (λ_ _=>rfl) he hs
end Go.Proofs.YtchdfdmjihnhkaaGreatDoor
