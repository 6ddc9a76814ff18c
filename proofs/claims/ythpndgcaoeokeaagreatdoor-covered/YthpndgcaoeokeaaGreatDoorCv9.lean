import Derived.Test.YthpndgcaoeokeaaGreatDoorCv8
import Derived.Sort.Walk0
import Derived.Deep.RegionWith
import Derived.Deep.LoopGhost
set_option maxRecDepth 100000
set_option maxHeartbeats 8000000
open Go.IntKind renaming i64->Z
open Go.Value renaming int->V,pointer->ε,string->ζ,pointer->υ,int->Ν
open Go.Ending renaming returned->δ
open Go.Obj renaming cells->η
open Go renaming World->θ,Calls->τ,Oper->Τ,Act->ϋ,Ending->ώ,PanicEntry->Ϙ
open List.Perm renaming cons->ι,append_left->ξ,append_right->ρ,refl->φ,swap->χ
open List renaming mem_append->κ,mem_cons->ν,nodup_cons->ο,cons_append->π,length_cons->ω,nodup_append->Α,nil_append->Β,append_assoc->Δ,length_nil->Η,append_toArray->Θ,getElem?_append_right->Ι,size_toArray->Κ,push_toArray->Λ,perm_middle->Μ,length_append->Ρ,getElem?_append_left->Φ,filter_cons_of_pos->Χ,filter_cons_of_neg->Ψ,filter_append->ϊ,getElem?_map->ύ,all_eq_true->Ϗ
open Nat renaming le_refl->μ,reduceSub->Ξ,reduceAdd->Ο,le_trans->Υ,zero_add->Ω,eq_or_lt_of_le->ό
open Go.RowKit.Below renaming refl->ψ
open Go.Region renaming ready->Γ
open Array renaming replicate_zero->Ε,replicate_succ->Ζ,replicate->ϗ
namespace Go.Proofs.YthpndgcaoeokeaaGreatDoor
open Tryz
open Go.Sort
structure aJ where
 b:Int
 e:Int
 c:ByteArray
 u:ByteArray
 k:Int
def XE (x y:ByteArray):Bool:=Op.bytesLess x.toList y.toList
def iY (x y:ByteArray):Int:=if XE x y then -1 else if x.toList==y.toList then 0 else 1
def iE (a b:Int):Int:=if a<b then -1 else if b<a then 1 else 0
def bM (x y:aJ):Int:=if iE x.b y.b≠0 then iE x.b y.b else if iY x.c y.c≠0 then iY x.c y.c else iY x.u y.u
def mf (x y:aJ):Prop:=bM x y<0
theorem ah9 {x y:ByteArray}(h:x.toList=y.toList):x=y:=(Lib.bytes_beq_iff x y).1 (by simp[h])
theorem Rl {x y:ByteArray}:XE x y=true↔x.toList<y.toList:=by unfold XE;rw[bytesLess_eq];simp
theorem B9 {x y:ByteArray}:iY x y<0↔x.toList<y.toList:=by
 unfold iY;rw[<-Rl];split
 ·simp[*]
 split<;>simp[*]
theorem aia (a b:UInt8):a<b\/a=b\/b<a:=by
 rcases Nat.lt_trichotomy a.toNat b.toNat with h|h|h
 ·exact .inl h
 ·exact .inr (.inl (UInt8.toNat_inj.1 h))
 exact .inr (.inr h)
theorem Oh:∀x y:List UInt8,x<y\/x=y\/y<x
 |[],[]=>.inr (.inl rfl)
 |[],_::_=>.inl (List.Lex.nil)
 |_::_,[]=>.inr (.inr List.Lex.nil)
 |a::x,b::y=>by
  rcases aia a b with h|h|h
  ·exact .inl (List.Lex.rel h)
  ·subst h;rcases Oh x y with h|h|h
   ·exact .inl (List.Lex.cons h)
   ·exact .inr (.inl (by rw[h]))
   exact .inr (.inr (List.Lex.cons h))
  exact .inr (.inr (List.Lex.rel h))
theorem vr:∀x:List UInt8,¬x<x
 |[],h=>by cases h
 |a::x,h=>by
  cases h with
  |rel h=>exact Nat.lt_irrefl _ h
  |cons h=>exact vr x h
theorem zi:∀{x y z:List UInt8},x<y->y<z->x<z
 |_,_,[],_,A=>by cases A
 |[],_,_::_,_,_=>List.Lex.nil
 |_::_,[],_::_,G,_=>by cases G
 |a::x,b::y,c::z,G,A=>by
  cases G with
  |rel G=>
   cases A with
   |rel A=>exact List.Lex.rel (Nat.lt_trans G A)
   |cons A=>exact List.Lex.rel G
  |cons G=>
   cases A with
   |rel A=>exact List.Lex.rel A
   |cons A=>exact List.Lex.cons (zi G A)
theorem Ca {x y:ByteArray}:0<iY x y↔y.toList<x.toList:=by
 have h0:= @Rl x y;unfold iY;by_cases G:XE x y=true
 ·rw[if_pos G];constructor
  ·intro h;omega
  intro h;exact(vr _ (zi (h0.1 G) h)).elim
 rw[if_neg G];by_cases A:(x.toList==y.toList)=true
 ·rw[if_pos A];have:x.toList=y.toList:=by simpa using A
  rw[this];constructor
  ·intro h;omega
  intro h;exact(vr _ h).elim
 rw[if_neg A];rcases Oh x.toList y.toList with h|h|h
 ·exact(G (h0.2 h)).elim
 ·exact(A (by simp[h])).elim
 exact⟨λ_=>h,λ_=>by omega⟩
theorem rE {x y:ByteArray}:iY x y=0↔x=y:=by
 constructor
 ·intro h;rcases Oh x.toList y.toList with k|k|k
  ·have:=B9.2 k;omega
  ·exact ah9 k
  have:=Ca.2 k;omega
 rintro rfl;rcases Int.lt_trichotomy (iY x x) 0 with h|h|h
 ·exact(vr _ (B9.1 h)).elim
 ·exact h
 exact(vr _ (Ca.1 h)).elim
theorem aei {a b:Int}:iE a b<0↔a<b:=by
 unfold iE;split
 ·omega
 split<;>omega
theorem aej {a b:Int}:0<iE a b↔b<a:=by
 unfold iE;split
 ·omega
 split<;>omega
theorem tZ {a b:Int}:iE a b=0↔a=b:=by
 unfold iE;split
 ·omega
 split<;>omega
theorem xY {x y:aJ}:mf x y↔x.b<y.b\/x.b=y.b/\(x.c.toList<y.c.toList\/x.c=y.c/\x.u.toList<y.u.toList):=by
 unfold mf bM;by_cases h:iE x.b y.b=0
 ·rw[if_neg (by simpa using h)];have U:=tZ.1 h;by_cases h':iY x.c y.c=0
  ·rw[if_neg (by simpa using h'),B9];have hc:=rE.1 h';constructor
   ·intro k;exact .inr ⟨U,.inr ⟨hc,k⟩⟩
   rintro(k|⟨_,k|⟨_,k⟩⟩)
   ·omega
   ·rw[hc]at k;exact(vr _ k).elim
   exact k
  rw[if_pos h',B9];constructor
  ·intro k;exact .inr ⟨U,.inl k⟩
  rintro(k|⟨_,k|⟨k,_⟩⟩)
  ·omega
  ·exact k
  exact(h' (rE.2 k)).elim
 rw[if_pos h,aei];constructor
 ·intro k;exact .inl k
 rintro(k|⟨k,_⟩)
 ·exact k
 exact(h (tZ.2 k)).elim
theorem Cb {x y:aJ}:0<bM x y↔mf y x:=by
 rw[xY];unfold bM;by_cases h:iE x.b y.b=0
 ·rw[if_neg (by simpa using h)];have U:=tZ.1 h;by_cases h':iY x.c y.c=0
  ·rw[if_neg (by simpa using h'),Ca];have hc:=rE.1 h';constructor
   ·intro k;exact .inr ⟨U.symm,.inr ⟨hc.symm,k⟩⟩
   rintro(k|⟨_,k|⟨_,k⟩⟩)
   ·omega
   ·rw[hc]at k;exact(vr _ k).elim
   exact k
  rw[if_pos h',Ca];constructor
  ·intro k;exact .inr ⟨U.symm,.inl k⟩
  rintro(k|⟨_,k|⟨k,_⟩⟩)
  ·omega
  ·exact k
  exact(h' (rE.2 k.symm)).elim
 rw[if_pos h,aej];constructor
 ·intro k;exact .inl k
 rintro(k|⟨k,_⟩)
 ·exact k
 exact(h (tZ.2 k.symm)).elim
theorem il {x y:aJ}:bM x y=0↔x.b=y.b/\x.c=y.c/\x.u=y.u:=by
 unfold bM;by_cases h:iE x.b y.b=0
 ·rw[if_neg (by simpa using h)];have U:=tZ.1 h;by_cases h':iY x.c y.c=0
  ·rw[if_neg (by simpa using h'),rE];have hc:=rE.1 h';exact⟨λk=>⟨U,hc,k⟩,λk=>k.2.2⟩
  rw[if_pos h'];exact⟨λk=>(h' k).elim,λk=>(h' (rE.2 k.2.1)).elim⟩
 rw[if_pos h];exact⟨λk=>(h k).elim,λk=>(h (tZ.2 k.1)).elim⟩
theorem mf.trans {x y z:aJ}(h:mf x y)(k:mf y z):mf x z:=by
 rw[xY]at *
 rcases h with h|⟨h,h'|⟨h',h''⟩⟩<;>rcases k with k|⟨k,k'|⟨k',k''⟩⟩
 ·exact .inl (by omega)
 ·exact .inl (by omega)
 ·exact .inl (by omega)
 ·exact .inl (by omega)
 ·exact .inr ⟨by omega,.inl (zi h' k')⟩
 ·exact .inr ⟨by omega,.inl (k'▸h')⟩
 ·exact .inl (by omega)
 ·exact .inr ⟨by omega,.inl (h'▸k')⟩
 exact .inr ⟨by omega,.inr ⟨h'.trans k',zi h'' k''⟩⟩
theorem mf.b {x y:aJ}(h:mf x y):x.b<=y.b:=by
 rcases xY.1 h with h|h
 ·omega
 omega
structure LT where
 t:Option (Nat×aJ×LT×LT)
namespace LT
abbrev nil:LT:=⟨none⟩
abbrev node (b:Nat) (e:aJ) (l r:LT):LT:=⟨some (b,e,l,r)⟩
theorem ind {P:LT->Prop}(nil:P .nil)(node:∀b e l r,P l->P r->P (.node b e l r)):∀t,P t
 |⟨none⟩=>nil
 |⟨some (b,e,l,r)⟩=>node b e l r (ind nil node l) (ind nil node r)
theorem Ac {P:LT->Prop}(nil:P .nil)(node:∀b e l r,P (.node b e l r)):∀t,P t
 |⟨none⟩=>nil
 |⟨some (b,e,l,r)⟩=>node b e l r
def ht:LT->Int
 |⟨none⟩=>0
 |⟨some (_,_,l,r)⟩=>1+max l.ht r.ht
theorem eK:∀t:LT,0<=t.ht
 |⟨none⟩=>Int.le_refl _
 |⟨some (_,_,l,r)⟩=>by have:=l.eK;have:=r.eK;simp only[ht];omega
def isNil:LT->Bool
 |⟨none⟩=>true
 |_=>false
def gr:LT->Int
 |⟨none⟩=>0
 |⟨some (_,e,l,r)⟩=>if r.isNil then(if l.isNil then e.e else max e.e l.gr)else max (if l.isNil then e.e else max e.e l.gr) r.gr
def aw:LT->List aJ
 |⟨none⟩=>[]
 |⟨some (_,e,l,r)⟩=>l.aw++e::r.aw
def ax:LT->List Nat
 |⟨none⟩=>[]
 |⟨some (b,_,l,r)⟩=>b::(l.ax++r.ax)
def size:LT->Nat
 |⟨none⟩=>0
 |⟨some (_,_,l,r)⟩=>l.size+r.size+1
theorem cO:∀t:LT,t.aw.length=t.size
 |⟨none⟩=>rfl
 |⟨some (_,_,l,r)⟩=>by simp[aw,size,cO l,cO r];omega
theorem dC:∀t:LT,t.ht<=t.size
 |⟨none⟩=>by simp[ht,size]
 |⟨some (_,_,l,r)⟩=>by have:=dC l;have:=dC r;simp only[ht,size];omega
theorem Oi:∀(t:LT) (x:aJ),x∈t.aw->x.e<=t.gr
 |⟨none⟩,_,h=>by cases h
 |⟨some (_,e,l,r)⟩,x,h=>by
  have N:=Oi l x;have hr:=Oi r x;have nl:l.isNil=true->l.aw=[]:=by cases l using LT.Ac<;>simp[isNil,aw]
  have nr:r.isNil=true->r.aw=[]:=by cases r using LT.Ac<;>simp[isNil,aw]
  simp only[aw,κ,ν]at h;simp only[gr];rcases h with h|h|h
  ·have:l.isNil=false:=by cases k:l.isNil;rfl;rw[nl k]at h;cases h
   have:=N h;simp only[*];split<;>simp<;>omega
  ·subst h;split<;>split<;>omega
  have:r.isNil=false:=by cases k:r.isNil;rfl;rw[nr k]at h;cases h
  have:=hr h;simp only[*];split<;>simp at * <;>omega
def zj:LT->LT
 |⟨some (b,e,l,⟨some (br,er,rl,rr)⟩)⟩=>node br er (node b e l rl) rr
 |t=>t
def zk:LT->LT
 |⟨some (b,e,⟨some (bl,el,ll,lr)⟩,r)⟩=>node bl el ll (node b e lr r)
 |t=>t
def lean:LT->Int
 |⟨none⟩=>0
 |⟨some (_,_,l,r)⟩=>l.ht-r.ht
def iP (b:Nat)(e:aJ)(l r:LT):LT:=
 if 1<l.ht-r.ht then zk (node b e (if l.lean<0 then zj l else l) r)
 else if l.ht-r.ht< -1 then zj (node b e l (if 0<r.lean then zk r else r))
 else node b e l r
def put (nb:Nat)(x:aJ):LT->LT
 |⟨none⟩=>node nb x nil nil
 |⟨some (b,e,l,r)⟩=>if bM x e<0 then iP b e (l.put nb x) r else iP b e l (r.put nb x)
def first:LT->Option (aJ×LT)
 |⟨none⟩=>none
 |⟨some (b,e,l,r)⟩=>match l.first with
  |none=>some (e,r)
  |some (f,l')=>some (f,iP b e l' r)
def drop (x:aJ):LT->LT
 |⟨none⟩=>nil
 |⟨some (b,e,l,r)⟩=>if bM x e<0 then iP b e (l.drop x) r else if 0<bM x e then iP b e l (r.drop x)else match r.first with
  |none=>l
  |some (f,r')=>iP b f l r'
theorem Gx (t:LT):t.zj.aw=t.aw:=by
 unfold zj;split<;>simp[aw]
theorem Gy (t:LT):t.zk.aw=t.aw:=by
 unfold zk;split<;>simp[aw]
theorem rF (b:Nat)(e:aJ)(l r:LT):(iP b e l r).aw=l.aw++e::r.aw:=by
 unfold iP;split
 ·rw[Gy];simp only[aw];split<;>simp[Gx]
 split
 ·rw[Gx];simp only[aw];split<;>simp[Gy]
 rfl
theorem wy (t:LT):t.zj.ax.Perm t.ax:=by
 unfold zj;split
 ·rename_i b e l br er rl rr;simp only[ax,π];have G:(br::b::(l.ax++rl.ax++rr.ax)).Perm (b::br::(l.ax++rl.ax++rr.ax)):=χ _ _ _;refine G.trans (ι b ?_);rw[Δ];exact List.perm_middle.symm
 exact φ _
theorem wz (t:LT):t.zk.ax.Perm t.ax:=by
 unfold zk;split
 ·rename_i b e bl el ll lr r;simp only[ax,π];have G:(ll.ax++b::(lr.ax++r.ax)).Perm (b::(ll.ax++(lr.ax++r.ax))):=Μ;refine(ι bl G).trans ((χ _ _ _).trans ?_);rw[Δ]
 exact φ _
theorem rG (b:Nat)(e:aJ)(l r:LT):(iP b e l r).ax.Perm (b::(l.ax++r.ax)):=by
 unfold iP;split
 ·refine(wz _).trans ?_;simp only[ax];refine ι _ (ρ _ ?_);split
  ·exact wy _
  exact φ _
 split
 ·refine(wy _).trans ?_;simp only[ax];refine ι _ (ξ _ ?_);split
  ·exact wz _
  exact φ _
 exact φ _
theorem ny (nb:Nat)(x:aJ):∀t:LT,(t.put nb x).ax.Perm (nb::t.ax)
 |⟨none⟩=>φ _
 |⟨some (b,e,l,r)⟩=>by
  unfold put;split
  ·refine(rG _ _ _ _).trans ?_;simp only[ax];refine(ι b (ρ _ (ny nb x l))).trans ?_;exact χ _ _ _
  refine(rG _ _ _ _).trans ?_;simp only[ax];refine(ι b (ξ _ (ny nb x r))).trans ?_;exact(ι b Μ).trans (χ _ _ _)
theorem pw {t:LT}(h:t.first=none):t=nil:=by
 cases t using LT.Ac with
 |nil=>rfl
 |node b e l r=>
  unfold first at h
  split at h<;>cases h
theorem Gz:∀{t:LT} {f:aJ} {t':LT},t.first=some (f,t')->t.aw=f::t'.aw
 |⟨none⟩,_,_,h=>by cases h
 |⟨some (b,e,l,r)⟩,f,t',h=>by
  unfold first at h
  split at h
  ·rename_i N;rw[pw N];cases h;rfl
  rename_i f' l' N;cases h;rw[rF,aw,Gz N];rfl
theorem wA:∀{t:LT} {f:aJ} {t':LT},t.first=some (f,t')->∃x,t.ax.Perm (x::t'.ax)
 |⟨none⟩,_,_,h=>by cases h
 |⟨some (b,e,l,r)⟩,f,t',h=>by
  unfold first at h
  split at h
  ·rename_i N;rw[pw N];cases h;exact⟨b,φ _⟩
  rename_i f' l' N;cases h;obtain⟨x,X⟩:=wA N;refine⟨x,?_⟩;simp only[ax];refine(ι b (ρ _ X)).trans ?_;exact(χ _ _ _).trans (ι x (rG _ _ _ _).symm)
def oT (x:aJ):List aJ->List aJ
 |[]=>[x]
 |y::r=>if bM x y<0 then x::y::r else y::oT x r
theorem Rm {x y:aJ}(h:mf x y):∀{l:List aJ} {r:List aJ},oT x (l++y::r)=oT x l++y::r
 |[],r=>by simp only[Β,oT];rw[if_pos (show bM x y<0 from h)];rfl
 |z::l,r=>by
  simp only[π,oT];split
  ·rfl
  rw[Rm h];rfl
theorem Rn {x:aJ}:∀{l:List aJ} (r:List aJ),(∀y∈l,¬mf x y)->oT x (l++r)=l++oT x r
 |[],_,_=>rfl
 |z::l,r,h=>by
  simp only[π,oT];rw[if_neg (show¬bM x z<0 from h z (by simp)),Rn r λy hy=>h y (by simp[hy])]
def eU (l:List aJ):Prop:=l.Pairwise mf
theorem Du (nb:Nat)(x:aJ):∀{t:LT},eU t.aw->(t.put nb x).aw=oT x t.aw
 |⟨none⟩,_=>rfl
 |⟨some (b,e,l,r)⟩,h=>by
  simp only[aw]at h⊢;obtain⟨G,A,K⟩:=List.pairwise_append.1 h;obtain⟨h4,h5⟩:=List.pairwise_cons.1 A;unfold put;split
  ·rename_i X;rw[rF,Du nb x G,Rm X]
  rename_i X;rw[rF,Du nb x h5];rw[Rn]
  ·simp only[oT];rw[if_neg X]
  intro y hy hxy;exact X (mf.trans hxy (K y hy e (by simp)))
theorem Ae (x:aJ):∀l:List aJ,(oT x l).Perm (x::l)
 |[]=>φ _
 |y::r=>by
  unfold oT;split
  ·exact φ _
  exact(ι y (Ae x r)).trans (χ _ _ _)
theorem Lo {x:aJ}:∀{l:List aJ},eU l->(∀y∈l,bM x y≠0)->eU (oT x l)
 |[],_,_=>by simp[oT,eU]
 |y::r,h,hn=>by
  unfold oT;obtain⟨G,A⟩:=List.pairwise_cons.1 h;split
  ·rename_i X;refine List.pairwise_cons.2 ⟨λz hz=>?_,h⟩;rcases List.mem_cons.1 hz with rfl|hz
   ·exact X
   exact mf.trans X (G z hz)
  rename_i X;refine List.pairwise_cons.2 ⟨λz hz=>?_,Lo A λz hz=>hn z (by simp[hz])⟩;rcases List.mem_cons.1 ((Ae x r).mem_iff.1 hz)with rfl|hz
  ·exact Cb.1 (by have:=hn y (by simp);omega)
  exact G z hz
def kr (x:aJ)(l:List aJ):List aJ:=l.filter λy=>decide (bM x y≠0)
theorem Cc {x:aJ}{l:List aJ}(h:∀y∈l,bM x y≠0):kr x l=l:=by
 unfold kr;exact List.filter_eq_self.2 λy hy=>by simpa using h y hy
theorem ne_of_lt {x y:aJ}(h:mf x y):bM x y≠0:=by unfold mf at h;omega
theorem ne_of_gt {x y:aJ}(h:mf y x):bM x y≠0:=by have:=Cb.2 h;omega
theorem I0 {x y z:aJ}(h:bM x y=0)(k:mf z y):mf z x:=by
 obtain⟨G,A,K⟩:=il.1 h;rw[xY]at k⊢;rw[G,A,K];exact k
theorem I1 {x y z:aJ}(h:bM x y=0)(k:mf y z):mf x z:=by
 obtain⟨G,A,K⟩:=il.1 h;rw[xY]at k⊢;rw[G,A,K];exact k
theorem sq (x:aJ):∀{t:LT},eU t.aw->(t.drop x).aw=kr x t.aw
 |⟨none⟩,_=>rfl
 |⟨some (b,e,l,r)⟩,h=>by
  simp only[aw]at h⊢;obtain⟨G,A,K⟩:=List.pairwise_append.1 h;obtain⟨h4,h5⟩:=List.pairwise_cons.1 A;have P7:kr x (l.aw++e::r.aw)=kr x l.aw++kr x (e::r.aw):=by unfold kr;rw[ϊ]
  rw[P7];unfold drop;split
  ·rename_i X;rw[rF,sq x G,Cc (l:=e::r.aw)];intro y hy;rcases List.mem_cons.1 hy with rfl|hy
   ·exact ne_of_lt X
   exact ne_of_lt (mf.trans X (h4 y hy))
  split
  ·rename_i Mm X;have ef:=Cb.1 X;have he:kr x (e::r.aw)=e::kr x r.aw:=by unfold kr;rw[Χ];simpa using ne_of_gt ef
   rw[rF,sq x h5,he,Cc (l:=l.aw)];intro y hy;exact ne_of_gt (mf.trans (K y hy e (by simp)) ef)
  rename_i Mm X;have h0:bM x e=0:=by omega
  have N:kr x l.aw=l.aw:=Cc λy hy=>ne_of_gt (I0 h0 (K y hy e (by simp)));have hr:kr x (e::r.aw)=r.aw:=by
   have e1:kr x (e::r.aw)=kr x r.aw:=by unfold kr;rw[Ψ];simpa using h0
   rw[e1];exact Cc λy hy=>ne_of_lt (I1 h0 (h4 y hy))
  rw[N,hr];split
  ·rename_i hf;rw[pw hf];simp[aw]
  rename_i f r' hf;rw[rF,Gz hf]
theorem vt (x:aJ):∀t:LT,∃ys,t.ax.Perm (ys++(t.drop x).ax)
 |⟨none⟩=>⟨[],φ _⟩
 |⟨some (b,e,l,r)⟩=>by
  unfold drop;split
  ·obtain⟨ys,h⟩:=vt x l;refine⟨ys,?_⟩;simp only[ax];refine(ι b (ρ _ h)).trans ?_;rw[Δ];exact List.perm_middle.symm.trans (ξ _ (rG _ _ _ _).symm)
  split
  ·obtain⟨ys,h⟩:=vt x r;refine⟨ys,?_⟩;simp only[ax];refine(ι b (ξ _ h)).trans ?_;have e1:(l.ax++(ys++(r.drop x).ax)).Perm (ys++(l.ax++(r.drop x).ax)):=by
    rw[<-Δ,<-Δ];exact ρ _ List.perm_append_comm
   exact(ι b e1).trans (List.perm_middle.symm.trans (ξ _ (rG _ _ _ _).symm))
  split
  ·rename_i hf;rw[pw hf];exact⟨[b],by simp[ax]⟩
  rename_i f r' hf;obtain⟨y,hy⟩:=wA hf;refine⟨[y],?_⟩;simp only[ax,π,Β];refine(ι b (ξ _ hy)).trans ?_;refine(ι b Μ).trans ((χ _ _ _).trans (ι y (rG _ _ _ _).symm))
theorem kB:∀t:LT,t.ax.length=t.size
 |⟨none⟩=>rfl
 |⟨some (_,_,l,r)⟩=>by simp[ax,size,kB l,kB r]
theorem size_put (nb:Nat)(x:aJ)(t:LT):(t.put nb x).size=t.size+1:=by
 rw[<-kB,(ny nb x t).length_eq,ω,kB]
end LT
open Go.RowKit Go.Sort
theorem M.ex {w Y:θ}{O:Nat->Prop}{b:Nat}{cs:List Value}{T:TypeId}(h:M w b cs T)(X:ak O w Y)(U:¬O b):M Y b cs T:=(X.block b h.lt U).trans h
theorem fP (O:Nat->Prop)(w:θ)(n:Nat):ak O w (w.drewN n):=⟨rfl,rfl,rfl,μ _,λ_ _ _=>rfl⟩
theorem ak.st {O:Nat->Prop}{w Y:θ}{b o:Nat}(h:ak O w Y)(U:O b)(v:Value):ak O w (Y.setCell ⟨b,o,none⟩ v):=h.setCell (p:=⟨b,o,none⟩) (.inl U) v
def LT.ptr:LT->Value
 |⟨none⟩=> ε none
 |⟨some (b,_,_,_)⟩=> ε (some ⟨b,0,none⟩)
theorem oX:LT.nil.ptr=ε none:=rfl
theorem jy (b:Nat)(e:aJ)(l r:LT):(LT.node b e l r).ptr=ε (some ⟨b,0,none⟩):=rfl
def bA (e:aJ):List Value:=[V Z e.b,V Z e.e,ζ e.c,ζ e.u,V Z e.k]
def iB (e:aJ)(lv rv:Value)(h g:Int):List Value:=[V Z e.b,V Z e.e,ζ e.c,ζ e.u,V Z e.k,lv,rv,V Z h,V Z g]
def aE (w:θ):LT->Prop
 |⟨none⟩=>True
 |⟨some (b,e,l,r)⟩=>M w b (iB e l.ptr r.ptr (LT.node b e l r).ht (LT.node b e l r).gr) 273/\aE w l/\aE w r
theorem aE.keep {w Y:θ}:∀{t:LT},aE w t->(∀k∈t.ax,Y.heap[k]?=w.heap[k]?)->aE Y t
 |⟨none⟩,_,_=>trivial
 |⟨some (b,e,l,r)⟩,h,I=>⟨(I b (by simp[LT.ax])).trans h.1,h.2.1.keep λk cj=>I k (by simp[LT.ax,cj]),h.2.2.keep λk cj=>I k (by simp[LT.ax,cj])⟩
theorem aE.lt {w:θ}:∀{t:LT},aE w t->∀k∈t.ax,k<w.heap.size
 |⟨none⟩,_,k,I=>by cases I
 |⟨some (b,e,l,r)⟩,h,k,I=>by
  simp only[LT.ax,ν,κ]at I;rcases I with rfl|I|I
  ·exact M.lt h.1
  ·exact h.2.1.lt k I
  exact h.2.2.lt k I
theorem aE.aL {w Y:θ}{O:Nat->Prop}{t:LT}(h:aE w t)(X:ak O w Y)(hn:∀k∈t.ax,¬O k):aE Y t:=
 h.keep λk I=>X.block k (h.lt k I) (hn k I)
theorem zl (t:LT)(w:θ)(h:aE w t):
 τ prog 345 #[t.ptr] w λe Y=>e=δ (V Z t.ht)/\w=Y:=by
 cases t using LT.Ac with
 |nil=>
  simp only[LT.ptr,LT.ht];go_enter func345,ntmps345;go_wp2_with fail;go_ret;exact⟨rfl,rfl⟩
 |node b e l r=>
  have c7:=M.cell (k:=7) h.1 rfl;clear h;simp only[LT.ptr];go_enter func345,ntmps345;go_wp2_with fail;go_ret;exact⟨rfl,rfl⟩
theorem aax (b:Nat)(e:aJ)(l r:LT)(h0 g0:Int)(w:θ)(hr:M w b (iB e l.ptr r.ptr h0 g0) 273)(vJ:aE w l)(kJ:aE w r)(sl:l.size<=1000000)(sr:r.size<=1000000):
 τ prog 320 #[ε (some ⟨b,0,none⟩)] w λe Y=>e=δ (V Z (l.ht-r.ht))/\∃n,Y=w.drewN n:=by
 have c5:=M.cell (k:=5) hr rfl;have c6:=M.cell (k:=6) hr rfl;have a1:=l.dC;have a2:=r.dC;have a3:=l.eK;have a4:=r.eK;have H1:=H (λn=>zl l (w.drewN n) (vJ.keep λk _=>rfl));have H2:=H (λn=>zl r (w.drewN n) (kJ.keep λk _=>rfl));clear hr vJ kJ;go_enter func320,ntmps320;go_wp2_with fail;refine wp_region_quiet_lit (by kernel_rfl) (by kernel_rfl) ?_
 iterate 4 (go_big_quiet_step (fail))
 go_big_quiet_step (exact gy (H1.out _))
 iterate 4 (go_big_quiet_step (fail))
 go_big_quiet_step (exact gy (H2.out _))
 iterate 2 (go_big_quiet_step (fail))
 refine wpQuiet_nil ?_;intro _ dD;obtain⟨nq,rfl⟩:=dD;go_wp2_with fail;go_ret;exact⟨rfl,_,rfl⟩
def Ro (l r:LT):Int:=1+max l.ht r.ht
def mkG (e:aJ)(l r:LT):Int:=if r.isNil then(if l.isNil then e.e else max e.e l.gr)else max (if l.isNil then e.e else max e.e l.gr) r.gr
theorem ot (b:Nat)(e:aJ)(l r:LT)(h0 g0:Int)(w:θ)(hr:M w b (iB e l.ptr r.ptr h0 g0) 273)(vJ:aE w l)(kJ:aE w r)(sl:l.size<=1000000)(sr:r.size<=1000000)(nl:b∉l.ax)(nr:b∉r.ax):
 τ prog 319 #[ε (some ⟨b,0,none⟩)] w λE Y=>E=δ (.tuple #[])/\M Y b (iB e l.ptr r.ptr (Ro l r) (mkG e l r)) 273/\ak (λk=>k=b) w Y:=by
 have a1:=l.dC;have a2:=r.dC;have a3:=l.eK;have a4:=r.eK;have H1:=H (λn=>zl l (w.drewN n) (vJ.keep λk _=>rfl));have H2:=H (λn=>zl r (w.drewN n) (kJ.keep λk _=>rfl));have HR:=H hr;have HL:=H vJ;have HT:=H kJ;have c1:=M.cell (k:=1) hr rfl;have c5:=M.cell (k:=5) hr rfl;have c6:=M.cell (k:=6) hr rfl;have c8:=M.cell (k:=8) hr rfl;have c7:=M.cell (k:=7) hr rfl;have f7:=M.free (k:=7) hr;have f8:=M.free (k:=8) hr;clear hr vJ kJ;go_enter func319,ntmps319;go_wp2_with fail;refine iZ 13 ?_
 iterate 5 (go_big_quiet_step (fail))
 go_big_quiet_step (exact gy (H1.out _))
 iterate 4 (go_big_quiet_step (fail))
 go_big_quiet_step (exact gy (H2.out _))
 iterate 2 (go_big_quiet_step (fail))
 refine wpQuiet_nil ?_;intro _ dD;obtain⟨nq,rfl⟩:=dD;go_upto_region 2 with fail;have X:ak (λk=>k=b) w (((w.drewN nq).setCell ⟨b,7,none⟩ (V Z (1+max l.ht r.ht))).setCell ⟨b,8,none⟩ (V Z e.e)):=((fP (λk=>k=b) _ _).st rfl _).st rfl _;have aB:M (((w.drewN nq).setCell ⟨b,7,none⟩ (V Z (1+max l.ht r.ht))).setCell ⟨b,8,none⟩ (V Z e.e)) b (iB e l.ptr r.ptr (Ro l r) e.e) 273:=M.set (k:=8) (M.set (k:=7) (show M (w.drewN nq) b _ _ from HR.out) _) _;generalize(((w.drewN nq).setCell ⟨b,7,none⟩ (V Z (1+max l.ht r.ht))).setCell ⟨b,8,none⟩ (V Z e.e))=W at *
 have eI:=HL.out.aL X (λk I e=>nl (e▸I));have mB:=HT.out.aL X (λk I e=>nr (e▸I));have HX:=H X;clear X H1 H2 HR HL HT c1 c5 c6 c7 c8 f7 f8;have c5:=M.cell (k:=5) aB rfl;have c8:=M.cell (k:=8) aB rfl;have f8:=M.free (k:=8) aB;have HR:=H aB;clear aB;rcases l with⟨_|⟨bl,el,ll,lr⟩⟩
 case none=>
  simp only[oX]at c5;go_upto_region 4 with fail;clear c5 c8 f8 eI;have c6:=M.cell (k:=6) HR.out rfl;have c8:=M.cell (k:=8) HR.out rfl;have f8:=M.free (k:=8) HR.out;rcases r with⟨_|⟨br,er,rl,rr⟩⟩
  case none=>
   simp only[oX]at c6;go_wp2_with fail;go_end0;exact⟨rfl,HR.out,HX.out⟩
  case some=>
   have d8:=M.cell (k:=8) mB.1 rfl;have nb:br≠b:=λe=>nr (by simp[LT.ax,e]);simp only[jy]at c6;generalize lW:(LT.node br er rl rr).gr=gr' at *
   replace lW:=H lW;go_upto_region 5 with fail;refine iZ 13 ?_
   iterate 13 (go_big_quiet_step (fail))
   refine wpQuiet_nil ?_;intro _ dD;obtain⟨nq3,rfl⟩:=dD;go_wp2_with fail;go_end0;refine⟨rfl,?_,((HX.out.aM (fP _ _ _)).st rfl _)⟩;have hq:=M.set (k:=8) (show M (W.drewN nq3) b _ _ from HR.out) (V Z (max (e.e) gr'));have aay:=lW.out;subst aay;exact hq
 case some=>
  have d8:=M.cell (k:=8) eI.1 rfl;have nb:bl≠b:=λe=>nl (by simp[LT.ax,e]);simp only[jy]at c5;generalize Fm:(LT.node bl el ll lr).gr=gl at *
  replace Fm:=H Fm;go_upto_region 3 with fail;refine iZ 13 ?_
  iterate 13 (go_big_quiet_step (fail))
  refine wpQuiet_nil ?_;intro _ dD;obtain⟨Rp,rfl⟩:=dD;go_upto_region 4 with fail;have bL:ak (λk=>k=b) w ((W.drewN Rp).setCell ⟨b,8,none⟩ (V Z (max e.e gl))):=(HX.out.aM (fP (λk=>k=b) _ _)).st rfl _;have F4:M ((W.drewN Rp).setCell ⟨b,8,none⟩ (V Z (max e.e gl))) b (iB e (LT.node bl el ll lr).ptr r.ptr (Ro (LT.node bl el ll lr) r) (max e.e gl)) 273:=M.set (k:=8) (show M (W.drewN Rp) b _ _ from HR.out) _;have aid:aE ((W.drewN Rp).setCell ⟨b,8,none⟩ (V Z (max e.e gl))) r:=mB.aL (((fP (λk=>k=b) W Rp).st rfl _)) (λk I e=>nr (e▸I));clear HX HR mB c5 c8 f8 d8 eI;have HX:=H bL;have HR:=H F4;have mB:=aid;clear bL F4 aid;generalize((W.drewN Rp).setCell ⟨b,8,none⟩ (V Z (max e.e gl)))=W at *
  have c6:=M.cell (k:=6) HR.out rfl;have c8:=M.cell (k:=8) HR.out rfl;have f8:=M.free (k:=8) HR.out;rcases r with⟨_|⟨br,er,rl,rr⟩⟩
  case none=>
   simp only[oX]at c6;go_wp2_with fail;go_end0;have aaz:=Fm.out;subst aaz;exact⟨rfl,HR.out,HX.out⟩
  case some=>
   have d8:=M.cell (k:=8) mB.1 rfl;have nb:br≠b:=λe=>nr (by simp[LT.ax,e]);simp only[jy]at c6;generalize lW:(LT.node br er rl rr).gr=gr' at *
   replace lW:=H lW;go_upto_region 5 with fail;refine iZ 13 ?_
   iterate 13 (go_big_quiet_step (fail))
   refine wpQuiet_nil ?_;intro _ dD;obtain⟨nq3,rfl⟩:=dD;go_wp2_with fail;go_end0;refine⟨rfl,?_,((HX.out.aM (fP _ _ _)).st rfl _)⟩;have hq:=M.set (k:=8) (show M (W.drewN nq3) b _ _ from HR.out) (V Z (max (max e.e gl) gr'));have aay:=lW.out;subst aay;have aaz:=Fm.out;subst aaz;rw[show max e.e (max (LT.node bl el ll lr).gr (LT.node br er rl rr).gr)=max (max e.e (LT.node bl el ll lr).gr) (LT.node br er rl rr).gr by omega];exact hq
theorem aE.mk {w:θ}{b:Nat}{e:aJ}{l r:LT}(h:M w b (iB e l.ptr r.ptr (Ro l r) (mkG e l r)) 273)(N:aE w l)(hr:aE w r):aE w (.node b e l r):=⟨h,N,hr⟩
theorem LT.kI (t:LT):∃p,t.ptr=.pointer p:=by cases t using LT.Ac<;>exact⟨_,rfl⟩
theorem aaA {b br:Nat}{L atG R:List Nat}(h:(b::(L++(br::(atG++R)))).Nodup):b≠br/\b∉L/\b∉atG/\b∉R/\br∉L/\br∉atG/\br∉R:=by
 rw[ο]at h;obtain⟨G,A⟩:=h;simp only[κ,ν,not_or]at G;rw[Α]at A;obtain⟨_,K,h4⟩:=A;rw[ο]at K;simp only[κ,not_or]at K;exact⟨G.2.1,G.1,G.2.2.1,G.2.2.2,λI=>h4 br I br (by simp) rfl,K.1.1,K.1.2⟩
theorem XF (b:Nat)(e:aJ)(l:LT)(br:Nat)(er:aJ)(rl rr:LT)(h0 g0:Int)(w:θ)(hr:M w b (iB e l.ptr (ε (some ⟨br,0,none⟩)) h0 g0) 273)(N:aE w l)(ht:aE w (.node br er rl rr))(nb:b≠br)(n1:b∉l.ax)(n2:b∉rl.ax)(n3:b∉rr.ax)(m1:br∉l.ax)(m2:br∉rl.ax)(m3:br∉rr.ax)
 (s1:l.size+rl.size+1<=1000000)(s2:rr.size<=1000000):
 τ prog 321 #[ε (some ⟨b,0,none⟩)] w λE Y=>E=δ (ε (some ⟨br,0,none⟩))/\aE Y (.node br er (.node b e l rl) rr)/\ak (λk=>k=b\/k=br) w Y:=by
 have c6:=M.cell (k:=6) hr rfl;have f6:=M.free (k:=6) hr;have d5:=M.cell (k:=5) ht.1 rfl;have e5:=M.free (k:=5) ht.1;obtain⟨W,hW⟩:∃W,W=(w.setCell ⟨b,6,none⟩ rl.ptr).setCell ⟨br,5,none⟩ (ε (some ⟨b,0,none⟩)):=⟨_,rfl⟩;have bz:ak (λk=>k=b\/k=br) w W:=by subst hW;exact((ak.refl (λk=>k=b\/k=br) w).st (.inl rfl) _).st (.inr rfl) _
 have r1:M W b (iB e l.ptr rl.ptr h0 g0) 273:=by subst hW;exact M.other (M.set (k:=6) hr _) nb _
 have r2:M W br (iB er (LT.node b e l rl).ptr rr.ptr (LT.node br er rl rr).ht (LT.node br er rl rr).gr) 273:=by subst hW;exact M.set (k:=5) (M.other ht.1 (Ne.symm nb) _) _
 have tl:aE W l:=N.aL bz λk I h=>h.elim (λe=>n1 (e▸I)) (λe=>m1 (e▸I));have trl:aE W rl:=ht.2.1.aL bz λk I h=>h.elim (λe=>n2 (e▸I)) (λe=>m2 (e▸I));have trr:aE W rr:=ht.2.2.aL bz λk I h=>h.elim (λe=>n3 (e▸I)) (λe=>m3 (e▸I));have M1:=H (ot b e l rl h0 g0 W r1 tl trl (by omega) (by omega) n1 n2);have M2:Hid (∀W2,M W2 b (iB e l.ptr rl.ptr (Ro l rl) (mkG e l rl)) 273->ak (λk=>k=b) W W2->τ prog 319 #[ε (some ⟨br,0,none⟩)] W2 λE Y=>E=δ (.tuple #[])/\aE Y (.node br er (.node b e l rl) rr)/\ak (λk=>k=b\/k=br) W Y):=H λW2 aB bL=>by
  have t1:aE W2 (.node b e l rl):=aE.mk aB (tl.aL bL λk I e=>n1 (e▸I)) (trl.aL bL λk I e=>n2 (e▸I));have t2:aE W2 rr:=trr.aL bL λk I e=>n3 (e▸I);refine(ot br er (.node b e l rl) rr _ _ W2 (r2.ex bL (Ne.symm nb)) t1 t2 (by simp only[LT.size];omega) s2 (by simp[LT.ax,Ne.symm nb,m1,m2]) m3).mono ?_;rintro E Y ⟨rfl,tM,dZ⟩;refine⟨rfl,aE.mk tM (t1.aL dZ λk I e=>?_) (t2.aL dZ λk I e=>m3 (e▸I)),(bL.mono λk h=>.inl (.inl h)).trans dZ λk h=>.inl (.inr h)⟩;subst e;simp only[LT.ax,ν,κ]at I;rcases I with h|h|h
  ·exact nb h.symm
  ·exact m1 h
  exact m2 h
 have HX:=H bz;obtain⟨px,gZ⟩:=rl.kI;rw[gZ]at d5 hW;clear gZ;replace hW:=H hW;clear hr N ht r1 r2 tl trl trr bz;go_enter func321,ntmps321;go_upto_region 3 with fail;rw[<-hW.out];go_wp2_with (first
  |(go_at_call_of 319 (υ (some ⟨b,0,none⟩));refine(M1.out).mono ?_;rintro E W2 ⟨rfl,aB,bL⟩;have M3:=H (M2.out W2 aB bL);clear M1 M2 aB bL)
  |(go_at_call_of 319 (υ (some ⟨br,0,none⟩));refine(M3.out).mono ?_;rintro E W3 ⟨rfl,Tl,dZ⟩))
 go_ret;exact⟨rfl,Tl,HX.out.aM dZ⟩
theorem XG (b:Nat)(e:aJ)(r:LT)(bl:Nat)(el:aJ)(ll lr:LT)(h0 g0:Int)(w:θ)(hr:M w b (iB e (ε (some ⟨bl,0,none⟩)) r.ptr h0 g0) 273)(N:aE w r)(ht:aE w (.node bl el ll lr))(nb:b≠bl)(n1:b∉r.ax)(n2:b∉ll.ax)(n3:b∉lr.ax)(m1:bl∉r.ax)(m2:bl∉ll.ax)(m3:bl∉lr.ax)
 (s1:r.size+lr.size+1<=1000000)(s2:ll.size<=1000000):
 τ prog 322 #[ε (some ⟨b,0,none⟩)] w λE Y=>E=δ (ε (some ⟨bl,0,none⟩))/\aE Y (.node bl el ll (.node b e lr r))/\ak (λk=>k=b\/k=bl) w Y:=by
 have c6:=M.cell (k:=5) hr rfl;have f6:=M.free (k:=5) hr;have d5:=M.cell (k:=6) ht.1 rfl;have e5:=M.free (k:=6) ht.1;obtain⟨W,hW⟩:∃W,W=(w.setCell ⟨b,5,none⟩ lr.ptr).setCell ⟨bl,6,none⟩ (ε (some ⟨b,0,none⟩)):=⟨_,rfl⟩;have bz:ak (λk=>k=b\/k=bl) w W:=by subst hW;exact((ak.refl (λk=>k=b\/k=bl) w).st (.inl rfl) _).st (.inr rfl) _
 have r1:M W b (iB e lr.ptr r.ptr h0 g0) 273:=by subst hW;exact M.other (M.set (k:=5) hr _) nb _
 have r2:M W bl (iB el ll.ptr (LT.node b e lr r).ptr (LT.node bl el ll lr).ht (LT.node bl el ll lr).gr) 273:=by subst hW;exact M.set (k:=6) (M.other ht.1 (Ne.symm nb) _) _
 have tr:aE W r:=N.aL bz λk I h=>h.elim (λe=>n1 (e▸I)) (λe=>m1 (e▸I));have tll:aE W ll:=ht.2.1.aL bz λk I h=>h.elim (λe=>n2 (e▸I)) (λe=>m2 (e▸I));have tlr:aE W lr:=ht.2.2.aL bz λk I h=>h.elim (λe=>n3 (e▸I)) (λe=>m3 (e▸I));have M1:=H (ot b e lr r h0 g0 W r1 tlr tr (by omega) (by omega) n3 n1);have M2:Hid (∀W2,M W2 b (iB e lr.ptr r.ptr (Ro lr r) (mkG e lr r)) 273->ak (λk=>k=b) W W2->τ prog 319 #[ε (some ⟨bl,0,none⟩)] W2 λE Y=>E=δ (.tuple #[])/\aE Y (.node bl el ll (.node b e lr r))/\ak (λk=>k=b\/k=bl) W Y):=H λW2 aB bL=>by
  have t1:aE W2 (.node b e lr r):=aE.mk aB (tlr.aL bL λk I e=>n3 (e▸I)) (tr.aL bL λk I e=>n1 (e▸I));have t2:aE W2 ll:=tll.aL bL λk I e=>n2 (e▸I);refine(ot bl el ll (.node b e lr r) _ _ W2 (r2.ex bL (Ne.symm nb)) t2 t1 s2 (by simp only[LT.size];omega) m2 (by simp[LT.ax,Ne.symm nb,m1,m3])).mono ?_;rintro E Y ⟨rfl,tM,dZ⟩;refine⟨rfl,aE.mk tM (t2.aL dZ λk I e=>m2 (e▸I)) (t1.aL dZ λk I e=>?_),(bL.mono λk h=>.inl (.inl h)).trans dZ λk h=>.inl (.inr h)⟩;subst e;simp only[LT.ax,ν,κ]at I;rcases I with h|h|h
  ·exact nb h.symm
  ·exact m3 h
  exact m1 h
 have HX:=H bz;obtain⟨px,gZ⟩:=lr.kI;rw[gZ]at d5 hW;clear gZ;replace hW:=H hW;clear hr N ht r1 r2 tr tll tlr bz;go_enter func322,ntmps322;go_upto_region 3 with fail;rw[<-hW.out];go_wp2_with (first
  |(go_at_call_of 319 (υ (some ⟨b,0,none⟩));refine(M1.out).mono ?_;rintro E W2 ⟨rfl,aB,bL⟩;have M3:=H (M2.out W2 aB bL);clear M1 M2 aB bL)
  |(go_at_call_of 319 (υ (some ⟨bl,0,none⟩));refine(M3.out).mono ?_;rintro E W3 ⟨rfl,Tl,dZ⟩))
 go_ret;exact⟨rfl,Tl,HX.out.aM dZ⟩
theorem fb {b:Nat}{L R:List Nat}(h:(b::(L++R)).Nodup):b∉L/\b∉R/\L.Nodup/\R.Nodup/\∀k,k∈L->k∉R:=by
 rw[ο,Α]at h;obtain⟨G,A,K,h4⟩:=h;simp only[κ,not_or]at G;exact⟨G.1,G.2,A,K,λk I hr=>h4 k I k hr rfl⟩
theorem GC {t:LT}(h:1<=t.ht):∃b e l r,t=.node b e l r:=by
 cases t using LT.Ac with
 |nil=>simp[LT.ht]at h
 |node b e l r=>exact⟨b,e,l,r,rfl⟩
structure fe (w:θ)(b:Nat)(e:aJ)(l r:LT):Prop where
 row:∃h g,M w b (iB e l.ptr r.ptr h g) 273
 lt:aE w l
 rt:aE w r
theorem fe.drewN {w:θ}{b:Nat}{e:aJ}{l r:LT}(h:fe w b e l r)(n:Nat):fe (w.drewN n) b e l r:=
 ⟨h.row,h.lt.keep λ_ _=>rfl,h.rt.keep λ_ _=>rfl⟩
theorem aE.node {w:θ}{b:Nat}{e:aJ}{l r:LT}(h:aE w (.node b e l r)):fe w b e l r:=⟨⟨_,_,h.1⟩,h.2.1,h.2.2⟩
theorem nH {b:Nat}{e:aJ}{l r:LT}{w:θ}(h:fe w b e l r)(sl:l.size<=1000000)(sr:r.size<=1000000):
 τ prog 320 #[ε (some ⟨b,0,none⟩)] w λe Y=>e=δ (V Z (l.ht-r.ht))/\∃n,Y=w.drewN n:=by
 obtain⟨x,y,aB⟩:=h.row;exact aax b e l r x y w aB h.lt h.rt sl sr
theorem qu {b:Nat}{e:aJ}{l r:LT}{w:θ}(h:fe w b e l r)(sl:l.size<=1000000)(sr:r.size<=1000000)(nl:b∉l.ax)(nr:b∉r.ax):
 τ prog 319 #[ε (some ⟨b,0,none⟩)] w λE Y=>E=δ (.tuple #[])/\aE Y (.node b e l r)/\ak (λk=>k=b) w Y:=by
 obtain⟨x,y,aB⟩:=h.row;refine(ot b e l r x y w aB h.lt h.rt sl sr nl nr).mono ?_;rintro E Y ⟨rfl,tM,X⟩;exact⟨rfl,aE.mk tM (h.lt.aL X λk I e=>nl (e▸I)) (h.rt.aL X λk I e=>nr (e▸I)),X⟩
theorem Ew {b:Nat}{e:aJ}{l:LT}{br:Nat}{er:aJ}{rl rr:LT}{w:θ}(h:fe w b e l (.node br er rl rr))(nd:(b::(l.ax++(br::(rl.ax++rr.ax)))).Nodup)(s:l.size+rl.size+rr.size<=900000):
 τ prog 321 #[ε (some ⟨b,0,none⟩)] w λE Y=>E=δ (ε (some ⟨br,0,none⟩))/\aE Y (.node br er (.node b e l rl) rr)/\ak (λk=>k=b\/k=br) w Y:=by
 obtain⟨x,y,aB⟩:=h.row;obtain⟨n0,n1,n2,n3,n4,n5,n6⟩:=aaA nd;exact XF b e l br er rl rr x y w aB h.lt h.rt n0 n1 n2 n3 n4 n5 n6 (by omega) (by omega)
theorem XH {b bl:Nat}{L atG R:List Nat}(h:(b::((bl::(L++atG))++R)).Nodup):b≠bl/\b∉L/\b∉atG/\b∉R/\bl∉L/\bl∉atG/\bl∉R:=by
 rw[ο]at h;obtain⟨G,A⟩:=h;rw[π,ο]at A;simp only[κ,ν,not_or]at G A;exact⟨G.1.1,G.1.2.1,G.1.2.2,G.2,A.1.1.1,A.1.1.2,A.1.2⟩
theorem Ex {b:Nat}{e:aJ}{r:LT}{bl:Nat}{el:aJ}{ll lr:LT}{w:θ}(h:fe w b e (.node bl el ll lr) r)(nd:(b::((bl::(ll.ax++lr.ax))++r.ax)).Nodup)(s:ll.size+lr.size+r.size<=900000):
 τ prog 322 #[ε (some ⟨b,0,none⟩)] w λE Y=>E=δ (ε (some ⟨bl,0,none⟩))/\aE Y (.node bl el ll (.node b e lr r))/\ak (λk=>k=b\/k=bl) w Y:=by
 obtain⟨x,y,aB⟩:=h.row;obtain⟨n0,n1,n2,n3,n4,n5,n6⟩:=XH nd;exact XG b e r bl el ll lr x y w aB h.rt h.lt n0 n3 n1 n2 n6 n4 n5 (by omega) (by omega)
def rH (b:Nat)(e:aJ)(l r:LT)(w:θ):ώ->θ->Prop:=λE Y=>E=δ (LT.iP b e l r).ptr/\aE Y (LT.iP b e l r)/\ak (λk=>k∈b::(l.ax++r.ax)) w Y
theorem aek (b:Nat)(e:aJ)(l r:LT)(w:θ)(h:fe w b e l r)(nd:(b::(l.ax++r.ax)).Nodup)(s:l.size+r.size<=800000)(G:¬1<l.ht-r.ht)(A:¬l.ht-r.ht< -1):
 τ prog 286 #[ε (some ⟨b,0,none⟩)] w (rH b e l r w):=by
 obtain⟨n1,n2,_,_,_⟩:=fb nd;have atG:=H (qu h (by omega) (by omega) n1 n2);have a1:=l.dC;have a2:=r.dC;have a3:=l.eK;have a4:=r.eK;have HB:LT.iP b e l r=.node b e l r:=by unfold LT.iP;rw[if_neg G,if_neg A]
 clear h nd;unfold rH;go_enter func286,ntmps286;go_wp2_with (first
  |(go_at_call 319;refine(atG.out).mono ?_;rintro E W1 ⟨rfl,jw,bz⟩;have T1:=H jw;have X1:=H bz;have L1:=H (nH jw.node (by omega) (by omega));clear atG jw bz)
  |(go_at_call 320;refine(L1.out).mono ?_;rintro E W2 ⟨rfl,nq,rfl⟩))
 go_ret;rw[HB];exact⟨rfl,T1.out.keep λ_ _=>rfl,(X1.out.mono λk I=>.inl (by simp[I])).aM (fP _ _ _)⟩
theorem ajc (b:Nat)(e:aJ)(bl:Nat)(el:aJ)(ll lr r:LT)(w:θ)(h:fe w b e (.node bl el ll lr) r)(nd:(b::((bl::(ll.ax++lr.ax))++r.ax)).Nodup)(s:ll.size+lr.size+r.size<=800000)(G:1<(LT.node bl el ll lr).ht-r.ht)(A:¬ll.ht-lr.ht<0):
 τ prog 286 #[ε (some ⟨b,0,none⟩)] w (rH b e (.node bl el ll lr) r w):=by
 obtain⟨n1,n2,_,_,_⟩:=fb (L:=(LT.node bl el ll lr).ax) nd;have atG:=H (qu h (by simp only[LT.size];omega) (by omega) n1 n2);have a1:=(LT.node bl el ll lr).dC;have a2:=r.dC;have a3:=(LT.node bl el ll lr).eK;have a4:=r.eK;have a5:=ll.dC;have a6:=lr.dC;have a7:=ll.eK;have a8:=lr.eK;have e1:(LT.node bl el ll lr).size=ll.size+lr.size+1:=rfl;have HB:LT.iP b e (.node bl el ll lr) r=.node bl el ll (.node b e lr r):=by unfold LT.iP;rw[if_pos G,if_neg (show¬(LT.node bl el ll lr).lean<0 from A)];rfl
 have ND:=H nd;clear h nd;unfold rH;generalize hH:(LT.node bl el ll lr).ht=atA at *
 replace hH:=H hH;go_enter func286,ntmps286;go_wp2_with (first
  |(go_at_call 319;refine(atG.out).mono ?_;rintro E W1 ⟨rfl,jw,bz⟩;have X1:=H bz;have L1:=H (nH jw.node (by omega) (by omega));rw[hH.out]at L1;have c5:=M.cell (k:=5) jw.1 rfl;rw[jy]at c5;have L2:=H (λn=>nH (jw.2.1.node.drewN n) (by omega) (by omega));have R1:=H (λn=>Ex (jw.node.drewN n) ND.out (by omega));clear atG jw bz)
  |(go_at_call_of 320 (υ (some ⟨b,0,none⟩));refine(L1.out).mono ?_;rintro E W2 ⟨rfl,nq,rfl⟩)
  |(go_at_call_of 320 (υ (some ⟨bl,0,none⟩));refine(L2.out nq).mono ?_;rintro E W3 ⟨rfl,nr,rfl⟩)
  |(go_at_call 322;refine(R1.out _).mono ?_;rintro E W4 ⟨rfl,gd,bO⟩))
 go_ret;rw[HB];refine⟨rfl,gd,(((X1.out.mono λk I=>.inl (by simp[I])).aM (fP _ _ _)).trans bO λk I=>.inl ?_)⟩;rcases I with rfl|rfl<;>simp[LT.ax]
theorem ajd (b:Nat)(e:aJ)(l:LT)(br:Nat)(er:aJ)(rl rr:LT)(w:θ)(h:fe w b e l (.node br er rl rr))(nd:(b::(l.ax++(br::(rl.ax++rr.ax)))).Nodup)(s:l.size+rl.size+rr.size<=800000)(G:l.ht-(LT.node br er rl rr).ht< -1)(A:¬0<rl.ht-rr.ht):
 τ prog 286 #[ε (some ⟨b,0,none⟩)] w (rH b e l (.node br er rl rr) w):=by
 obtain⟨n1,n2,_,_,_⟩:=fb (R:=(LT.node br er rl rr).ax) nd;have atG:=H (qu h (by omega) (by simp only[LT.size];omega) n1 n2);have a1:=(LT.node br er rl rr).dC;have a2:=l.dC;have a3:=(LT.node br er rl rr).eK;have a4:=l.eK;have a5:=rl.dC;have a6:=rr.dC;have a7:=rl.eK;have a8:=rr.eK;have e1:(LT.node br er rl rr).size=rl.size+rr.size+1:=rfl;have HB:LT.iP b e l (.node br er rl rr)=.node br er (.node b e l rl) rr:=by unfold LT.iP;rw[if_neg (by omega),if_pos G,if_neg (show¬0<(LT.node br er rl rr).lean from A)];rfl
 have ND:=H nd;clear h nd;unfold rH;generalize hH:(LT.node br er rl rr).ht=atA at *
 replace hH:=H hH;go_enter func286,ntmps286;go_wp2_with (first
  |(go_at_call 319;refine(atG.out).mono ?_;rintro E W1 ⟨rfl,jw,bz⟩;have X1:=H bz;have L1:=H (nH jw.node (by omega) (by omega));rw[hH.out]at L1;have c5:=M.cell (k:=6) jw.1 rfl;rw[jy]at c5;have L2:=H (λn=>nH (jw.2.2.node.drewN n) (by omega) (by omega));have R1:=H (λn=>Ew (jw.node.drewN n) ND.out (by omega));clear atG jw bz)
  |(go_at_call_of 320 (υ (some ⟨b,0,none⟩));refine(L1.out).mono ?_;rintro E W2 ⟨rfl,nq,rfl⟩)
  |(go_at_call_of 320 (υ (some ⟨br,0,none⟩));refine(L2.out nq).mono ?_;rintro E W3 ⟨rfl,nr,rfl⟩)
  |(go_at_call 321;refine(R1.out _).mono ?_;rintro E W4 ⟨rfl,gd,bO⟩))
 go_ret;rw[HB];refine⟨rfl,gd,(((X1.out.mono λk I=>.inl (by simp[I])).aM (fP _ _ _)).trans bO λk I=>.inl ?_)⟩;rcases I with rfl|rfl<;>simp[LT.ax]
theorem aih (b:Nat)(e:aJ)(bl:Nat)(el:aJ)(ll:LT)(b2:Nat)(e2:aJ)(x y:LT)(r:LT)(w:θ)(h:fe w b e (.node bl el ll (.node b2 e2 x y)) r)(nd:(b::((bl::(ll.ax++(b2::(x.ax++y.ax))))++r.ax)).Nodup)(s:ll.size+x.size+y.size+r.size<=700000)(G:1<(LT.node bl el ll (.node b2 e2 x y)).ht-r.ht)(A:ll.ht-(LT.node b2 e2 x y).ht<0):
 τ prog 286 #[ε (some ⟨b,0,none⟩)] w (rH b e (LT.node bl el ll (.node b2 e2 x y)) r w):=by
 obtain⟨n1,n2,_,_,_⟩:=fb (L:=(LT.node bl el ll (.node b2 e2 x y)).ax) nd;have atG:=H (qu h (by simp only[LT.size];omega) (by omega) n1 n2);have a1:=(LT.node bl el ll (.node b2 e2 x y)).dC;have a2:=r.dC;have a3:=(LT.node bl el ll (.node b2 e2 x y)).eK;have a4:=r.eK;have a5:=ll.dC;have a6:=(LT.node b2 e2 x y).dC;have a7:=ll.eK;have a8:=(LT.node b2 e2 x y).eK;have e1:(LT.node bl el ll (.node b2 e2 x y)).size=ll.size+(LT.node b2 e2 x y).size+1:=by first|rfl|(simp only[LT.size];omega)
 have e2':(LT.node b2 e2 x y).size=x.size+y.size+1:=rfl;have HB:LT.iP b e (.node bl el ll (.node b2 e2 x y)) r=.node b2 e2 (.node bl el ll x) (.node b e y r):=by unfold LT.iP;rw[if_pos G,if_pos (show(LT.node bl el ll (.node b2 e2 x y)).lean<0 from A)];rfl
 have ND:=H nd;have nbk:b≠bl:=λe=>n1 (by simp[LT.ax,e]);have nb2:b≠b2:=λe=>n1 (by simp[LT.ax,e]);have R1:Hid (∀W1 W4:θ,aE W1 (.node b e (LT.node bl el ll (.node b2 e2 x y)) r)->aE W4 (LT.node b2 e2 (.node bl el ll x) y)->ak (λk=>k=bl\/k=b2) W1 W4->W4.frozen? ⟨b,5,none⟩=false/\W4.cell? ⟨b,5,none⟩=some (ε (some ⟨bl,0,none⟩))/\τ prog 322 #[ε (some ⟨b,0,none⟩)] (W4.setCell ⟨b,5,none⟩ (ε (some ⟨b2,0,none⟩))) λE Y=>E=δ (ε (some ⟨b2,0,none⟩))/\aE Y (.node b2 e2 (.node bl el ll x) (.node b e y r))/\ak (λk=>k=b\/k=b2) (W4.setCell ⟨b,5,none⟩ (ε (some ⟨b2,0,none⟩))) Y):=H λW1 W4 T1 gd bO=>by
  have zE:=M.ex T1.1 bO (λh=>h.elim nbk nb2);have sT:ak (λk=>k=b) W4 (W4.setCell ⟨b,5,none⟩ (ε (some ⟨b2,0,none⟩))):=(ak.refl (λk=>k=b) W4).st rfl _;have t4:aE W4 r:=aE.aL T1.2.2 bO (λk I hO=>((fb (L:=(LT.node bl el ll (.node b2 e2 x y)).ax) ND.out).2.2.2.2) k (by rcases hO with rfl|rfl<;>simp[LT.ax]) I);have nb4:∀k∈(LT.node b2 e2 (.node bl el ll x) y).ax,¬k=b:=λk I e=>n1 (by rw[show(LT.node b2 e2 (.node bl el ll x) y).ax=(LT.zj (LT.node bl el ll (.node b2 e2 x y))).ax from rfl,(LT.wy (LT.node bl el ll (.node b2 e2 x y))).mem_iff]at I;exact e▸I);have nn:fe (W4.setCell ⟨b,5,none⟩ (ε (some ⟨b2,0,none⟩))) b e (LT.node b2 e2 (.node bl el ll x) y) r:=⟨⟨_,_,M.set (k:=5) zE _⟩,gd.aL sT nb4,t4.aL sT (λk I e=>n2 (e▸I))⟩;refine⟨M.free (k:=5) zE,M.cell (k:=5) zE rfl,Ex nn ((((ι b (ρ _ (LT.wy (LT.node bl el ll (.node b2 e2 x y))))).nodup_iff).2 nd)) (by simp only[LT.size];omega)⟩
 clear h nd;unfold rH;generalize hH:(LT.node bl el ll (.node b2 e2 x y)).ht=atA at *
 generalize hI:(LT.node b2 e2 x y).ht=aty at *
 replace hH:=H hH;replace hI:=H hI;go_enter func286,ntmps286;go_wp2_with (first
  |(go_at_call 319;refine(atG.out).mono ?_;rintro E W1 ⟨rfl,jw,bz⟩;have X1:=H bz;have L1:=H (nH jw.node (by omega) (by omega));rw[hH.out]at L1;have c5:=M.cell (k:=5) jw.1 rfl;rw[jy]at c5;have L2:=H (λn=>nH (jw.2.1.node.drewN n) (by omega) (by omega));rw[hI.out]at L2;have R2:=H (λn=>Ew (jw.2.1.node.drewN n) ((fb (L:=(LT.node bl el ll (.node b2 e2 x y)).ax) ND.out).2.2.1) (by omega));have R3:=H (λn W4=>R1.out (W1.drewN n) W4 (jw.keep λ_ _=>rfl));clear atG R1 jw bz)
  |(go_at_call_of 320 (υ (some ⟨b,0,none⟩));refine(L1.out).mono ?_;rintro E W2 ⟨rfl,nq,rfl⟩)
  |(go_at_call_of 320 (υ (some ⟨bl,0,none⟩));refine(L2.out nq).mono ?_;rintro E W3 ⟨rfl,nr,rfl⟩)
  |(go_at_call 321;refine(R2.out _).mono ?_;rintro E W4 ⟨rfl,gd,bO⟩;have X4:=H bO;obtain⟨f5,c5',XI⟩:=R3.out _ W4 gd bO;have R4:=H XI;clear XI R3 R2 gd bO)
  |(go_at_call 322;refine(R4.out).mono ?_;rintro E W5 ⟨rfl,XJ,fV⟩))
 go_ret;rw[HB];refine⟨rfl,XJ,((((((X1.out.mono λk I=>.inl (by simp[I])).aM (fP _ _ _)).trans X4.out λk I=>.inl ?_).st (by simp) _)).trans fV λk I=>.inl ?_)⟩
 ·rcases I with rfl|rfl<;>simp[LT.ax]
 rcases I with rfl|rfl<;>simp[LT.ax]
theorem ail (b:Nat)(e:aJ)(l:LT)(br:Nat)(er:aJ)(b2:Nat)(e2:aJ)(x y:LT)(rr:LT)(w:θ)(h:fe w b e l (.node br er (.node b2 e2 x y) rr))(nd:(b::(l.ax++(br::((b2::(x.ax++y.ax))++rr.ax)))).Nodup)(s:l.size+x.size+y.size+rr.size<=700000)(G:l.ht-(LT.node br er (.node b2 e2 x y) rr).ht< -1)(A:0<(LT.node b2 e2 x y).ht-rr.ht):
 τ prog 286 #[ε (some ⟨b,0,none⟩)] w (rH b e l (LT.node br er (.node b2 e2 x y) rr) w):=by
 obtain⟨n1,n2,_,_,_⟩:=fb (R:=(LT.node br er (.node b2 e2 x y) rr).ax) nd;have atG:=H (qu h (by omega) (by simp only[LT.size];omega) n1 n2);have a1:=(LT.node br er (.node b2 e2 x y) rr).dC;have a2:=l.dC;have a3:=(LT.node br er (.node b2 e2 x y) rr).eK;have a4:=l.eK;have a5:=rr.dC;have a6:=(LT.node b2 e2 x y).dC;have a7:=rr.eK;have a8:=(LT.node b2 e2 x y).eK;have e1:(LT.node br er (.node b2 e2 x y) rr).size=rr.size+(LT.node b2 e2 x y).size+1:=by first|rfl|(simp only[LT.size];omega)
 have e2':(LT.node b2 e2 x y).size=x.size+y.size+1:=rfl;have HB:LT.iP b e l (LT.node br er (.node b2 e2 x y) rr)=.node b2 e2 (.node b e l x) (.node br er y rr):=by unfold LT.iP;rw[if_neg (by omega),if_pos G,if_pos (show 0<(LT.node br er (.node b2 e2 x y) rr).lean from A)];rfl
 have ND:=H nd;have nbk:b≠br:=λe=>n2 (by simp[LT.ax,e]);have nb2:b≠b2:=λe=>n2 (by simp[LT.ax,e]);have R1:Hid (∀W1 W4:θ,aE W1 (.node b e l (LT.node br er (.node b2 e2 x y) rr))->aE W4 (LT.node b2 e2 x (.node br er y rr))->ak (λk=>k=br\/k=b2) W1 W4->W4.frozen? ⟨b,6,none⟩=false/\W4.cell? ⟨b,6,none⟩=some (ε (some ⟨br,0,none⟩))/\τ prog 321 #[ε (some ⟨b,0,none⟩)] (W4.setCell ⟨b,6,none⟩ (ε (some ⟨b2,0,none⟩))) λE Y=>E=δ (ε (some ⟨b2,0,none⟩))/\aE Y (.node b2 e2 (.node b e l x) (.node br er y rr))/\ak (λk=>k=b\/k=b2) (W4.setCell ⟨b,6,none⟩ (ε (some ⟨b2,0,none⟩))) Y):=H λW1 W4 T1 gd bO=>by
  have zE:=M.ex T1.1 bO (λh=>h.elim nbk nb2);have sT:ak (λk=>k=b) W4 (W4.setCell ⟨b,6,none⟩ (ε (some ⟨b2,0,none⟩))):=(ak.refl (λk=>k=b) W4).st rfl _;have t4:aE W4 l:=aE.aL T1.2.1 bO (λk I hO=>((fb (R:=(LT.node br er (.node b2 e2 x y) rr).ax) ND.out).2.2.2.2) k I (by rcases hO with rfl|rfl<;>simp[LT.ax]));have nb4:∀k∈(LT.node b2 e2 x (.node br er y rr)).ax,¬k=b:=λk I e=>n2 (by rw[show(LT.node b2 e2 x (.node br er y rr)).ax=(LT.zk (LT.node br er (.node b2 e2 x y) rr)).ax from rfl,(LT.wz (LT.node br er (.node b2 e2 x y) rr)).mem_iff]at I;exact e▸I);have nn:fe (W4.setCell ⟨b,6,none⟩ (ε (some ⟨b2,0,none⟩))) b e l (LT.node b2 e2 x (.node br er y rr)):=⟨⟨_,_,M.set (k:=6) zE _⟩,t4.aL sT (λk I e=>n1 (e▸I)),gd.aL sT nb4⟩;refine⟨M.free (k:=6) zE,M.cell (k:=6) zE rfl,Ew nn ((((ι b (ξ _ (LT.wz (LT.node br er (.node b2 e2 x y) rr)))).nodup_iff).2 nd)) (by simp only[LT.size];omega)⟩
 clear h nd;unfold rH;generalize hH:(LT.node br er (.node b2 e2 x y) rr).ht=atA at *
 generalize hI:(LT.node b2 e2 x y).ht=aty at *
 replace hH:=H hH;replace hI:=H hI;go_enter func286,ntmps286;go_wp2_with (first
  |(go_at_call 319;refine(atG.out).mono ?_;rintro E W1 ⟨rfl,jw,bz⟩;have X1:=H bz;have L1:=H (nH jw.node (by omega) (by omega));rw[hH.out]at L1;have c5:=M.cell (k:=6) jw.1 rfl;rw[jy]at c5;have L2:=H (λn=>nH (jw.2.2.node.drewN n) (by omega) (by omega));rw[hI.out]at L2;have R2:=H (λn=>Ex (jw.2.2.node.drewN n) ((fb (R:=(LT.node br er (.node b2 e2 x y) rr).ax) ND.out).2.2.2.1) (by omega));have R3:=H (λn W4=>R1.out (W1.drewN n) W4 (jw.keep λ_ _=>rfl));clear atG R1 jw bz)
  |(go_at_call_of 320 (υ (some ⟨b,0,none⟩));refine(L1.out).mono ?_;rintro E W2 ⟨rfl,nq,rfl⟩)
  |(go_at_call_of 320 (υ (some ⟨br,0,none⟩));refine(L2.out nq).mono ?_;rintro E W3 ⟨rfl,nr,rfl⟩)
  |(go_at_call 322;refine(R2.out _).mono ?_;rintro E W4 ⟨rfl,gd,bO⟩;have X4:=H bO;obtain⟨f5,c5',XI⟩:=R3.out _ W4 gd bO;have R4:=H XI;clear XI R3 R2 gd bO)
  |(go_at_call 321;refine(R4.out).mono ?_;rintro E W5 ⟨rfl,XJ,fV⟩))
 go_ret;rw[HB];refine⟨rfl,XJ,((((((X1.out.mono λk I=>.inl (by simp[I])).aM (fP _ _ _)).trans X4.out λk I=>.inl ?_).st (by simp) _)).trans fV λk I=>.inl ?_)⟩
 ·rcases I with rfl|rfl<;>simp[LT.ax]
 rcases I with rfl|rfl<;>simp[LT.ax]
theorem kV (b:Nat)(e:aJ)(l r:LT)(w:θ)(h:fe w b e l r)(nd:(b::(l.ax++r.ax)).Nodup)(s:l.size+r.size<=600000):
 τ prog 286 #[ε (some ⟨b,0,none⟩)] w (rH b e l r w):=by
 by_cases G:1<l.ht-r.ht
 ·obtain⟨bl,el,ll,lr,rfl⟩:=GC (t:=l) (by have:=r.eK;omega);have e1:(LT.node bl el ll lr).size=ll.size+lr.size+1:=rfl;by_cases A:ll.ht-lr.ht<0
  ·obtain⟨b2,e2,x,y,rfl⟩:=GC (t:=lr) (by have:=ll.eK;omega);have e3:(LT.node b2 e2 x y).size=x.size+y.size+1:=rfl;exact aih b e bl el ll b2 e2 x y r w h nd (by omega) G A
  exact ajc b e bl el ll lr r w h nd (by omega) G A
 by_cases K:l.ht-r.ht< -1
 ·obtain⟨br,er,rl,rr,rfl⟩:=GC (t:=r) (by have:=l.eK;omega);have e1:(LT.node br er rl rr).size=rl.size+rr.size+1:=rfl;by_cases A:0<rl.ht-rr.ht
  ·obtain⟨b2,e2,x,y,rfl⟩:=GC (t:=rl) (by have:=rr.eK;omega);have e3:(LT.node b2 e2 x y).size=x.size+y.size+1:=rfl;exact ail b e l br er b2 e2 x y rr w h nd (by omega) K A
  exact ajd b e l br er rl rr w h nd (by omega) K A
 exact aek b e l r w h nd (by omega) G K
theorem E0 (a b:Int)(w:θ):τ prog 230 #[V Z a,V Z b] w λe Y=>e=δ (V Z (iE a b))/\w=Y:=by
 have C:Hid (∀x:Int,τ prog 288 #[V Z x] w λe Y=>e=δ (.bool false)/\w=Y):=H λx=>by
  go_enter func288,ntmps288;go_wp2_with fail;go_ret;exact⟨rfl,rfl⟩
 unfold iE;go_enter func230,ntmps230;go_wp2_with (go_at_call 288;refine(C.out _).mono ?_;rintro e w1 ⟨rfl,rfl⟩)
 all_goals go_ret
 all_goals refine⟨?_,rfl⟩
 all_goals simp_all
 all_goals omega
theorem GD (a b:ByteArray)(w:θ):τ prog 318 #[ζ a,ζ b] w λe Y=>e=δ (V Z (iY a b))/\w=Y:=by
 have C:Hid (∀x:ByteArray,τ prog 344 #[ζ x] w λe Y=>e=δ (.bool false)/\w=Y):=H λx=>by
  go_enter func344,ntmps344;go_wp2_with fail;go_ret;exact⟨by simp,rfl⟩
 unfold iY XE;go_enter func318,ntmps318;go_wp2_with (go_at_call 344;refine(C.out _).mono ?_;rintro e w1 ⟨rfl,rfl⟩)
 all_goals go_ret
 all_goals refine⟨?_,rfl⟩
 all_goals simp_all
def vu:List Int->Int
 |[]=>0
 |z::r=>if z≠0 then z else vu r
theorem aaB {zs:List Int}{i:Nat}{z:Int}(h:zs[i]?=some z):vu (zs.drop i)=if z≠0 then z else vu (zs.drop (i+1)):=by
 have N:=(List.getElem?_eq_some_iff.1 h);obtain⟨G,A⟩:=N;rw[List.drop_eq_getElem_cons G,A];rfl
theorem XK (g:Nat)(zs:List Int)(w:θ)(hr:M w g (zs.map (Ν Z)) 3)(hn:zs.length<=1000):
 τ prog 317 #[.slice (some ⟨g,0,none⟩) zs.length zs.length] w λe Y=>e=δ (V Z (vu zs))/\w=Y:=by
 obtain⟨n,TH⟩:∃n,n=zs.length:=⟨_,rfl⟩;rw[<-TH]at hn⊢;have HN:=H TH;have HR:=H hr;clear hr TH;go_enter func317,ntmps317;go_wp2_with fail;go_loop [8] (λi=>∃(k:Nat),k<=n/\i=V Z k/\Hid (vu (zs.drop k)=vu zs)) (λi=>n-(intOf i).toNat)
 case atStart=>exact⟨0,Nat.zero_le _,rfl,H (by simp)⟩
 case round=>
  obtain⟨k,I,rfl,HP⟩:=hrel;by_cases aQ:k<n
  case neg=>
   have HQ:Hid (vu zs=0):=H (by rw[<-HP.out,List.drop_eq_nil_of_le (by have:=HN.out;omega)];rfl);clear HP;go_wp2_with fail;go_ret;exact⟨by rw[HQ.out];rfl,rfl⟩
  case pos=>
   obtain⟨z,hz⟩:∃z,zs[k]?=some z:=⟨_,List.getElem?_eq_getElem (by have:=HN.out;omega)⟩;have ck:w.cell? ⟨g,k,none⟩=some (V Z z):=M.cell HR.out (by rw[ύ,hz];rfl);have HO:=H (aaB hz);clear hz;by_cases h0:z=0
   case pos=>
    have HQ:Hid (vu (zs.drop (k+1))=vu zs):=H (by have:=HO.out;rw[if_neg (by simpa using h0)]at this;rw[<-this];exact HP.out);clear HO HP;subst h0;go_wp2_with fail;exact⟨⟨k+1,by omega,by go_num,HQ⟩,by simp[intOf];omega⟩
   case neg=>
    have HQ:Hid (vu zs=z):=H (by have:=HO.out;rw[if_pos h0]at this;rw[<-this];exact HP.out.symm);clear HO HP;go_wp2_with fail;go_ret;exact⟨by rw[HQ.out];rfl,rfl⟩
def di (e:aJ):Value:=.agg (bA e).toArray
theorem mv {w:θ}{b:Nat}{e:aJ}{T:TypeId}(h:M w b (bA e) T):w.cell? ⟨b,0,none⟩=some (V Z e.b)/\w.cell? ⟨b,1,none⟩=some (V Z e.e)/\w.cell? ⟨b,2,none⟩=some (ζ e.c)/\w.cell? ⟨b,3,none⟩=some (ζ e.u)/\w.cell? ⟨b,4,none⟩=some (V Z e.k):=
 ⟨h.cell (k:=0) rfl,h.cell (k:=1) rfl,h.cell (k:=2) rfl,h.cell (k:=3) rfl,h.cell (k:=4) rfl⟩
theorem ael (x y:aJ):vu [iE x.b y.b,iY x.c y.c,iY x.u y.u]=bM x y:=by
 unfold vu bM;by_cases h:iE x.b y.b=0
 ·rw[if_neg (by simpa using h),if_neg (by simpa using h)];unfold vu;by_cases h':iY x.c y.c=0
  ·rw[if_neg (by simpa using h'),if_neg (by simpa using h')];unfold vu vu;by_cases A:iY x.u y.u=0<;>simp[A]
  rw[if_pos h',if_pos h']
 rw[if_pos h,if_pos h]
theorem Dl (x y:aJ)(w:θ):τ prog 285 #[di x,di y] w λe Y=>e=δ (V Z (bM x y))/\Below w.heap.size w Y:=by
 have r0:=(M.new w (bA x) 223).on ((ψ _ _).alloc (μ _) (η (bA y).toArray 223));have r1:M ((w.alloc (η (bA x).toArray 223)).alloc (η (bA y).toArray 223)) (w.heap.size+1) (bA y) 223:=by
  have:=M.new (w.alloc (η (bA x).toArray 223)) (bA y) 223;simpa using this
 have al:Below w.heap.size w ((w.alloc (η (bA x).toArray 223)).alloc (η (bA y).toArray 223)):=((ψ _ _).alloc (μ _) _).alloc (by simp) _;have HE:=H (ael x y);unfold di;unfold bA at *
 go_enter func285,ntmps285;go_upto_region 1 with fail;generalize((w.alloc (η #[V Z x.b,V Z x.e,ζ x.c,ζ x.u,V Z x.k] 223)).alloc (η #[V Z y.b,V Z y.e,ζ y.c,ζ y.u,V Z y.k] 223))=W at *
 obtain⟨x0,_,x2,x3,_⟩:=mv (e:=x) r0;obtain⟨y0,_,y2,y3,_⟩:=mv (e:=y) r1;clear r0 r1;refine iZ 21 ?_
 iterate 6 (go_big_quiet_step (fail))
 go_big_quiet_step (exact gy (E0 _ _ _))
 iterate 6 (go_big_quiet_step (fail))
 go_big_quiet_step (exact gy (GD _ _ _))
 iterate 6 (go_big_quiet_step (fail))
 go_big_quiet_step (exact gy (GD _ _ _));refine wpQuiet_nil ?_;intro _ dD;obtain⟨nq,rfl⟩:=dD;have ro:=M.new (W.drewN nq) [V Z (iE x.b y.b),V Z (iY x.c y.c),V Z (iY x.u y.u)] 3;have aO:Below w.heap.size w ((W.drewN nq).alloc (η #[V Z (iE x.b y.b),V Z (iY x.c y.c),V Z (iY x.u y.u)] 3)):=(below_drewN al nq).alloc (by have:=al.size;exact this) _;have HO:=H (XK _ [iE x.b y.b,iY x.c y.c,iY x.u y.u] _ ro (by simp));rw[HE.out]at HO;clear ro;go_wp2_with (go_at_call 317;refine(HO.out).mono ?_;rintro e w1 ⟨rfl,rfl⟩);go_ret;exact⟨rfl,aO⟩
def Iw (x:aJ)(t:LT)(w:θ):ώ->θ->Prop:=λE Y=>∃nb,E=δ (t.put nb x).ptr/\aE Y (t.put nb x)/\w.heap.size<=nb/\ak (λk=>k∈t.ax) w Y
theorem aem (x:aJ)(w:θ):τ prog 222 #[ε none,di x] w (Iw x .nil w):=by
 unfold Iw di bA;go_enter func222,ntmps222;go_wp2_with fail;go_ret;refine⟨w.heap.size+1,rfl,⟨?_,trivial,trivial⟩,by omega,?_⟩
 ·have:=M.new (w.alloc (η (bA x).toArray 223)) (iB x (ε none) (ε none) 1 x.e) 273;have e1:(w.alloc (η (bA x).toArray 223)).heap.size=w.heap.size+1:=by simp
  rw[e1]at this;exact this
 exact ak.ar (((ψ _ _).alloc (μ _) _).alloc (by simp) _)
theorem EO {w:θ}{b:Nat}{e:aJ}{lv rv:Value}{h g:Int}(hr:M w b (iB e lv rv h g) 273):w.cell? ⟨b,0,none⟩=some (V Z e.b)/\w.cell? ⟨b,1,none⟩=some (V Z e.e)/\w.cell? ⟨b,2,none⟩=some (ζ e.c)/\w.cell? ⟨b,3,none⟩=some (ζ e.u)/\w.cell? ⟨b,4,none⟩=some (V Z e.k):=
 ⟨hr.cell (k:=0) rfl,hr.cell (k:=1) rfl,hr.cell (k:=2) rfl,hr.cell (k:=3) rfl,hr.cell (k:=4) rfl⟩
theorem aen {b nb:Nat}{x:aJ}{l:LT}{R:List Nat}{n:Nat}(nd:(b::(l.ax++R)).Nodup)(aQ:∀k∈b::(l.ax++R),k<n)(ji:n<=nb):(b::((l.put nb x).ax++R)).Nodup:=by
 have J:(b::((l.put nb x).ax++R)).Perm (nb::(b::(l.ax++R))):=(ι b (ρ _ (LT.ny nb x l))).trans (χ _ _ _);rw[J.nodup_iff,ο];exact⟨λh=>by have:=aQ nb h;omega,nd⟩
theorem aeo {b nb:Nat}{x:aJ}{r:LT}{L:List Nat}{n:Nat}(nd:(b::(L++r.ax)).Nodup)(aQ:∀k∈b::(L++r.ax),k<n)(ji:n<=nb):(b::(L++(r.put nb x).ax)).Nodup:=by
 have J:(b::(L++(r.put nb x).ax)).Perm (nb::(b::(L++r.ax))):=(ι b ((ξ _ (LT.ny nb x r)).trans Μ)).trans (χ _ _ _);rw[J.nodup_iff,ο];exact⟨λh=>by have:=aQ nb h;omega,nd⟩
theorem Tm {x:aJ}{b:Nat}{e:aJ}{l r:LT}{nb:Nat}{w W3 W4:θ}{px:Option Addr}(nd:(b::(l.ax++r.ax)).Nodup)(aQ:∀k∈b::(l.ax++r.ax),k<w.heap.size)(U:Below w.heap.size w W3)(hT:aE W3 (.node b e l r))(bO:ak (λk=>k∈l.ax) W3.drew W4)(gd:aE W4 (l.put nb x))(ji:W3.drew.heap.size<=nb)(gZ:(l.put nb x).ptr=.pointer px)(s:l.size+r.size<=400000):
 τ prog 286 #[ε (some ⟨b,0,none⟩)] (W4.setCell ⟨b,5,none⟩ (.pointer px)) λE Y=>E=δ (LT.iP b e (l.put nb x) r).ptr/\aE Y (LT.iP b e (l.put nb x) r)/\ak (λk=>k∈b::(l.ax++r.ax)) w Y:=by
 obtain⟨n1,n2,d1,d2,d3⟩:=fb nd;have hs:=U.size;have RG:w.heap.size<=nb:=Υ hs ji;have r4:=M.ex (show M W3.drew b _ _ from hT.1) bO n1;have sT:ak (λk=>k=b) W4 (W4.setCell ⟨b,5,none⟩ (.pointer px)):=(ak.refl (λk=>k=b) W4).st rfl _;have mem:∀k,k∈(l.put nb x).ax↔k=nb\/k∈l.ax:=λk=>by rw[(LT.ny nb x l).mem_iff,ν]
 have zU:b<w.heap.size:=aQ b (by simp);have nn:fe (W4.setCell ⟨b,5,none⟩ (.pointer px)) b e (l.put nb x) r:=⟨⟨_,_,by rw[gZ];exact M.set (k:=5) r4 _⟩,gd.aL sT (λk I h=>by
  rcases(mem k).1 I with h'|h'
  ·omega
  exact n1 (h▸h')),((show aE W3.drew r from hT.2.2.keep λ_ _=>rfl).aL bO λk I h=>d3 k h I).aL sT λk I h=>n2 (h▸I)⟩
 refine(kV b e (l.put nb x) r _ nn (aen nd aQ RG) (by rw[LT.size_put];omega)).mono ?_;rintro E Y ⟨rfl,ht,X⟩;refine⟨rfl,ht,?_⟩;refine((((ak.ar U).aM (ak.refl (λk=>k∈b::(l.ax++r.ax)) W3).drew).trans bO λk I=>.inl (by simp[I])).st (by simp) _).trans X λk I=>?_;simp only[ν,κ]at I;rcases I with h|h|h
 ·exact .inl (by simp[h])
 ·rcases(mem k).1 h with h'|h'
  ·exact .inr (by omega)
  exact .inl (by simp[h'])
 exact .inl (by simp[h])
theorem Tn {x:aJ}{b:Nat}{e:aJ}{l r:LT}{nb:Nat}{w W3 W4:θ}{px:Option Addr}(nd:(b::(l.ax++r.ax)).Nodup)(aQ:∀k∈b::(l.ax++r.ax),k<w.heap.size)(U:Below w.heap.size w W3)(hT:aE W3 (.node b e l r))(bO:ak (λk=>k∈r.ax) W3.drew W4)(gd:aE W4 (r.put nb x))(ji:W3.drew.heap.size<=nb)(gZ:(r.put nb x).ptr=.pointer px)(s:l.size+r.size<=400000):
 τ prog 286 #[ε (some ⟨b,0,none⟩)] (W4.setCell ⟨b,6,none⟩ (.pointer px)) λE Y=>E=δ (LT.iP b e l (r.put nb x)).ptr/\aE Y (LT.iP b e l (r.put nb x))/\ak (λk=>k∈b::(l.ax++r.ax)) w Y:=by
 obtain⟨n1,n2,d1,d2,d3⟩:=fb nd;have hs:=U.size;have RG:w.heap.size<=nb:=Υ hs ji;have r4:=M.ex (show M W3.drew b _ _ from hT.1) bO n2;have sT:ak (λk=>k=b) W4 (W4.setCell ⟨b,6,none⟩ (.pointer px)):=(ak.refl (λk=>k=b) W4).st rfl _;have mem:∀k,k∈(r.put nb x).ax↔k=nb\/k∈r.ax:=λk=>by rw[(LT.ny nb x r).mem_iff,ν]
 have zU:b<w.heap.size:=aQ b (by simp);have nn:fe (W4.setCell ⟨b,6,none⟩ (.pointer px)) b e l (r.put nb x):=⟨⟨_,_,by rw[gZ];exact M.set (k:=6) r4 _⟩,((show aE W3.drew l from hT.2.1.keep λ_ _=>rfl).aL bO λk I h=>d3 k I h).aL sT (λk I h=>n1 (h▸I)),gd.aL sT (λk I h=>by
  rcases(mem k).1 I with h'|h'
  ·omega
  exact n2 (h▸h'))⟩
 refine(kV b e l (r.put nb x) _ nn (aeo nd aQ RG) (by rw[LT.size_put];omega)).mono ?_;rintro E Y ⟨rfl,ht,X⟩;refine⟨rfl,ht,?_⟩;refine((((ak.ar U).aM (ak.refl (λk=>k∈b::(l.ax++r.ax)) W3).drew).trans bO λk I=>.inl (by simp[I])).st (by simp) _).trans X λk I=>?_;simp only[ν,κ]at I;rcases I with h|h|h
 ·exact .inl (by simp[h])
 ·exact .inl (by simp[h])
 rcases(mem k).1 h with h'|h'
 ·exact .inr (by omega)
 exact .inl (by simp[h'])
theorem Oj (x:aJ)(b:Nat)(e:aJ)(l r:LT)(w:θ)(h:aE w (.node b e l r))(nd:(LT.node b e l r).ax.Nodup)(s:l.size+r.size<=400000)
 (atA:(bM x e<0/\∀W:θ,aE W l->τ prog 222 #[l.ptr,di x] W (Iw x l W))\/(¬bM x e<0/\∀W:θ,aE W r->τ prog 222 #[r.ptr,di x] W (Iw x r W))):
 τ prog 222 #[ε (some ⟨b,0,none⟩),di x] w (Iw x (.node b e l r) w):=by
 have HH:=H atA;clear atA;have rx:=M.new w (bA x) 223;have al:Below w.heap.size w (w.alloc (η (bA x).toArray 223)):=(ψ _ _).alloc (μ _) _;have hT:aE (w.alloc (η (bA x).toArray 223)) (.node b e l r):=h.aL (O:=λ_=>False) (ak.ar al) (λ_ _ h=>h);have hC:=H (λW=>Dl x e W);have anH:=h.1.lt;obtain⟨n1,n2,d1,d2,d3⟩:=fb nd;have aQ:∀k∈b::(l.ax++r.ax),k<w.heap.size:=h.lt;unfold di at *
 unfold bA at *
 go_enter func222,ntmps222;go_upto_region 3 with fail;generalize(w.alloc (.cells [Ν Z x.b,V Z x.e,ζ x.c,ζ x.u,V Z x.k].toArray 223))=W at *
 obtain⟨x0,x1,x2,x3,x4⟩:=mv (e:=x) rx;obtain⟨e0,e1,e2,e3,e4⟩:=EO hT.1;have kx0:=cell_regrown x0;have kx1:=cell_regrown x1;have kx2:=cell_regrown x2;have kx3:=cell_regrown x3;have kx4:=cell_regrown x4;have ke0:=cell_regrown e0;have ke1:=cell_regrown e1;have ke2:=cell_regrown e2;have ke3:=cell_regrown e3;have ke4:=cell_regrown e4;clear x0 x1 x2 x3 x4 e0 e1 e2 e3 e4;refine wp_region_quiet_below (by kernel_rfl) (by kernel_rfl) ?_
 iterate 5 (go_big_quiet_step (fail))
 go_big_quiet_step (exact Calls.regrown_of (hC.out _));go_big_quiet_step (fail);refine wpQuiet_nil ?_;intro _ dD;obtain⟨⟨dq,gT⟩,ga⟩:=dD;subst ga;have aR:Below W.heap.size W (grow (redrawn W dq) gT):=below_regrown W dq gT;have kj:aE (grow (redrawn W dq) gT) (.node b e l r):=hT.aL (O:=λ_=>False) (ak.ar aR) (λ_ _ h=>h);have Dm:=rx.on aR;have iS:=al.trans (aR.mono al.size);clear kx0 kx1 kx2 kx3 kx4 ke0 ke1 ke2 ke3 ke4 aR al hT rx hC;simp only[];generalize grow (redrawn W dq) gT=W3 at *
 obtain⟨x0,x1,x2,x3,x4⟩:=mv (e:=x) Dm;rcases HH.out with⟨X,ih⟩|⟨X,ih⟩
 all_goals clear HH
 ·have c5:=kj.1.cell (k:=5) rfl;have f5:=kj.1.free (k:=5);have HT:=H kj;have xZ:=H iS;have IH:=H (ih W3.drew (kj.2.1.keep λ_ _=>rfl));clear kj iS Dm ih;go_upto_region 4 with fail;go_region_with (go_at_call 222;refine(IH.out).mono ?_;rintro E W4 ⟨nb,hE,gd,ji,bO⟩;obtain⟨px,gZ⟩:=(l.put nb x).kI;rw[gZ]at hE;subst hE;have r4:=M.ex (show M W3.drew b _ _ from HT.out.1) bO n1;have f4:=r4.free (k:=5);have c4:=r4.cell (k:=5) rfl)
  all_goals
   have B:=H (Tm nd aQ xZ.out HT.out bO gd ji gZ s);clear r4 f4 c4 bO gd gZ IH x0 x1 x2 x3 x4 c5 f5 HT;go_wp2_with (go_at_call 286;refine(B.out).mono ?_;rintro E W6 ⟨rfl,zp,jT⟩);go_ret;refine⟨nb,?_,?_,Υ xZ.out.size ji,jT⟩
   ·rw[LT.put,if_pos X];rfl
   rw[LT.put,if_pos X];exact zp
 have c5:=kj.1.cell (k:=6) rfl;have f5:=kj.1.free (k:=6);have HT:=H kj;have xZ:=H iS;have IH:=H (ih W3.drew (kj.2.2.keep λ_ _=>rfl));clear kj iS Dm ih;go_upto_region 5 with fail;go_region_with (go_at_call 222;refine(IH.out).mono ?_;rintro E W4 ⟨nb,hE,gd,ji,bO⟩;obtain⟨px,gZ⟩:=(r.put nb x).kI;rw[gZ]at hE;subst hE;have r4:=M.ex (show M W3.drew b _ _ from HT.out.1) bO n2;have f4:=r4.free (k:=6);have c4:=r4.cell (k:=6) rfl)
 all_goals
  have B:=H (Tn nd aQ xZ.out HT.out bO gd ji gZ s);clear r4 f4 c4 bO gd gZ IH x0 x1 x2 x3 x4 c5 f5 HT;go_wp2_with (go_at_call 286;refine(B.out).mono ?_;rintro E W6 ⟨rfl,zp,jT⟩);go_ret;refine⟨nb,?_,?_,Υ xZ.out.size ji,jT⟩
  ·rw[LT.put,if_neg (by omega)];rfl
  rw[LT.put,if_neg (by omega)];exact zp
theorem GQ (x:aJ):∀(t:LT) (w:θ),aE w t->t.ax.Nodup->t.size<=400000->τ prog 222 #[t.ptr,di x] w (Iw x t w)
 |⟨none⟩,w,_,_,_=>aem x w
 |⟨some (b,e,l,r)⟩,w,h,nd,s=>by
  have s':l.size+r.size+1<=400000:=s;obtain⟨_,_,d1,d2,_⟩:=fb nd;by_cases X:bM x e<0
  ·exact Oj x b e l r w h nd (by omega) (.inl ⟨X,λW hW=>GQ x l W hW d1 (by omega)⟩)
  exact Oj x b e l r w h nd (by omega) (.inr ⟨X,λW hW=>GQ x r W hW d2 (by omega)⟩)
theorem Rq:(prog.info? 223).map (·.size)=some 5:=by kernel_rfl
def yc (t:LT)(f:aJ)(t':LT)(w:θ):ώ->θ->Prop:=λE Y=>E=δ (.tuple #[di f,t'.ptr])/\aE Y t'/\ak (λk=>k∈t.ax) w Y
theorem Rr {W:θ}{p:Nat}{cs:List Value}{T:TypeId}(e:aJ)(h:M W p cs T)(N:cs.length=5):M (((((W.setCell ⟨p,0,none⟩ (V Z e.b)).setCell ⟨p,1,none⟩ (V Z e.e)).setCell ⟨p,2,none⟩ (ζ e.c)).setCell ⟨p,3,none⟩ (ζ e.u)).setCell ⟨p,4,none⟩ (V Z e.k)) p (bA e) T/\
 ak (λk=>k=p) W (((((W.setCell ⟨p,0,none⟩ (V Z e.b)).setCell ⟨p,1,none⟩ (V Z e.e)).setCell ⟨p,2,none⟩ (ζ e.c)).setCell ⟨p,3,none⟩ (ζ e.u)).setCell ⟨p,4,none⟩ (V Z e.k)):=by
 match cs,N with
 |[a0,a1,a2,a3,a4],_=>
  refine⟨?_,?_⟩
  ·exact((((h.set (k:=0) _).set (k:=1) _).set (k:=2) _).set (k:=3) _).set (k:=4) _
  exact(((((ak.refl (λk=>k=p) W).st rfl _).st rfl _).st rfl _).st rfl _).st rfl _
def py:List Value:=[V Z 0,V Z 0,ζ ⟨#[]⟩,ζ ⟨#[]⟩,V Z 0]
theorem XL (b:Nat)(e:aJ)(r:LT)(w:θ)(h:aE w (.node b e .nil r)):τ prog 316 #[ε (some ⟨b,0,none⟩)] w (yc (.node b e .nil r) e r w):=by
 have rz:=M.new w py 223;have al:Below w.heap.size w (w.alloc (η py.toArray 223)):=(ψ _ _).alloc (μ _) _;have hT:aE (w.alloc (η py.toArray 223)) (.node b e .nil r):=h.aL (O:=λ_=>False) (ak.ar al) (λ_ _ h=>h);have fH:=h.1.lt;have HTL:Hid (∀k∈r.ax,k<w.heap.size):=H h.2.2.lt;clear h;unfold py at *
 go_enter func316,ntmps316;go_upto_region 1 with fail;generalize(w.alloc (η #[Ν Z 0,V Z 0,ζ ⟨#[]⟩,ζ ⟨#[]⟩,V Z 0] 223))=W at *
 have c5:=hT.1.cell (k:=5) rfl;have c6:=hT.1.cell (k:=6) rfl;obtain⟨e0,e1,e2,e3,e4⟩:=EO hT.1;obtain⟨pr,Ol⟩:=r.kI;rw[Ol]at c6;simp only[oX]at c5;have HT:=H hT;have HZ:=H rz;have HB:=H al;have HP:=H Ol;clear hT rz al Ol;go_upto_region 2 with fail;have z0:=HZ.out.cell (k:=0) rfl;have z1:=HZ.out.cell (k:=1) rfl;have z2:=HZ.out.cell (k:=2) rfl;have z3:=HZ.out.cell (k:=3) rfl;have z4:=HZ.out.cell (k:=4) rfl;have y0:=HZ.out.free (k:=0);have y1:=HZ.out.free (k:=1);have y2:=HZ.out.free (k:=2);have y3:=HZ.out.free (k:=3);have y4:=HZ.out.free (k:=4);have nbl:b≠w.heap.size:=by omega
 obtain⟨aje,fV⟩:=Rr e HZ.out rfl;go_region;clear z0 z1 z2 z3 z4 y0 y1 y2 y3 y4 c5 c6 e0 e1 e2 e3 e4;generalize(((((W.setCell ⟨w.heap.size,0,none⟩ (V Z e.b)).setCell ⟨w.heap.size,1,none⟩ (V Z e.e)).setCell ⟨w.heap.size,2,none⟩ (ζ e.c)).setCell ⟨w.heap.size,3,none⟩ (ζ e.u)).setCell ⟨w.heap.size,4,none⟩ (V Z e.k))=W5 at *
 go_wp2_with fail;refine bodyPost_ret (v:=.tuple #[di e,.pointer pr]) ?_ rfl ?_
 ·rw[results_cell_tmp results316 rfl (run_loadVar_mid W5.drew w.heap.size 0 223 (bA e) _ (ia (show M W5.drew w.heap.size _ _ from aje)) underlying223 rfl Rq)];rfl
 have X:ak (λk=>k∈(LT.node b e .nil r).ax) w W5.drew:=((ak.ar HB.out).trans fV λk I=>.inr (by omega)).drew;refine⟨by rw[HP.out],?_,X⟩;exact aE.keep (HT.out.2.2.aL fV λk I h=>by have:=HTL.out k I;omega) λ_ _=>rfl
theorem To (b:Nat)(e:aJ)(l r:LT)(f:aJ)(l':LT)(bl:Nat)(w:θ)(h:aE w (.node b e l r))(nd:(LT.node b e l r).ax.Nodup)(s:l.size+r.size<=400000)(N:l.ptr=ε (some ⟨bl,0,none⟩))(jK:∀k∈l'.ax,k∈l.ax)(cK:l'.ax.Nodup)(bp:l'.size<=l.size)
 (ih:∀W:θ,aE W l->τ prog 316 #[l.ptr] W (yc l f l' W)):
 τ prog 316 #[ε (some ⟨b,0,none⟩)] w (yc (.node b e l r) f (LT.iP b e l' r) w):=by
 have rz:=M.new w py 223;have al:Below w.heap.size w (w.alloc (η py.toArray 223)):=(ψ _ _).alloc (μ _) _;have hT:aE (w.alloc (η py.toArray 223)) (.node b e l r):=h.aL (O:=λ_=>False) (ak.ar al) (λ_ _ h=>h);have aQ:∀k∈b::(l.ax++r.ax),k<w.heap.size:=h.lt;obtain⟨n1,n2,d1,d2,d3⟩:=fb nd;clear h;unfold py at *
 go_enter func316,ntmps316;go_upto_region 1 with fail;have hWs:(w.alloc (η #[Ν Z 0,V Z 0,ζ ⟨#[]⟩,ζ ⟨#[]⟩,V Z 0] 223)).heap.size=w.heap.size+1:=by simp
 have HWS:=H hWs;clear hWs;generalize(w.alloc (η #[Ν Z 0,V Z 0,ζ ⟨#[]⟩,ζ ⟨#[]⟩,V Z 0] 223))=W at *
 have c5:=hT.1.cell (k:=5) rfl;rw[N]at c5;obtain⟨UN,S2⟩:=l'.kI;have IH:=H (ih W hT.2.1);rw[N]at IH;unfold yc at IH;rw[S2]at IH;have HT:=H hT;have HZ:=H rz;have HB:=H al;have HP:=H S2;clear hT rz al S2 ih N;go_upto_region 3 with fail;unfold di bA at IH;go_upto_region 4 with(go_at_call 316;refine(IH.out).mono ?_;rintro E W2 ⟨rfl,ht2,bL⟩);have hq:=M.new W2 (bA f) 223;have aR:Below W2.heap.size W2 (W2.alloc (η #[V Z f.b,V Z f.e,ζ f.c,ζ f.u,V Z f.k] 223)):=(ψ _ _).alloc (μ _) _;have dZ:ak (λk=>k∈l.ax) W (W2.alloc (η #[V Z f.b,V Z f.e,ζ f.c,ζ f.u,V Z f.k] 223)):=bL.alloc _;have ht3:aE (W2.alloc (η #[V Z f.b,V Z f.e,ζ f.c,ζ f.u,V Z f.k] 223)) l':=ht2.aL (O:=λ_=>False) (ak.ar aR) (λ_ _ h=>h);have hW2:w.heap.size+1<=W2.heap.size:=by have:=bL.size;have:=HWS.out;omega
 obtain⟨q,p9⟩:∃q,q=W2.heap.size:=⟨_,rfl⟩;unfold bA at hq;rw[<-p9]at hq hW2⊢;clear aR ht2 bL p9 IH;generalize(W2.alloc (η #[V Z f.b,V Z f.e,ζ f.c,ζ f.u,V Z f.k] 223))=W3 at *
 have JH:=M.ex HT.out.1 dZ n1;have f5:=JH.free (k:=5);have g5:=JH.cell (k:=5) rfl;have fH:b<w.heap.size:=aQ b (by simp);have bO:ak (λk=>k=b) W3 (W3.setCell ⟨b,5,none⟩ (.pointer UN)):=(ak.refl (λk=>k=b) W3).st rfl _;have nn:fe (W3.setCell ⟨b,5,none⟩ (.pointer UN)) b e l' r:=⟨⟨_,_,by rw[HP.out];exact M.set (k:=5) JH _⟩,ht3.aL bO (λk I h=>n1 (h▸jK k I)),(HT.out.2.2.aL dZ λk I h=>d3 k h I).aL bO λk I h=>n2 (h▸I)⟩;have Om:(b::(l'.ax++r.ax)).Nodup:=by
  rw[ο,Α];refine⟨λh=>?_,cK,d2,λa ha c hc Oo=>d3 a (jK a ha) (Oo▸hc)⟩;rcases List.mem_append.1 h with h|h
  ·exact n1 (jK b h)
  exact n2 h
 have qB:ak (λk=>k∈b::(l.ax++r.ax)) w (W3.setCell ⟨b,5,none⟩ (.pointer UN)):=(((ak.ar HB.out).trans dZ λk I=>.inl (by simp[I])).st (by simp) _);have hq4:=M.ex hq bO (show¬q=b by omega);have Ja:=M.ex (M.ex HZ.out dZ (λh=>by have:=aQ w.heap.size (by simp[h]);omega)) bO (show¬w.heap.size=b by omega);have B:=H (kV b e l' r _ (nn.drewN 1) Om (by omega));unfold rH at B;go_upto_region 5 with fail;have XW:=H qB;have Q4:=H hq4;have Z4:=H Ja;clear JH f5 g5 bO nn qB dZ ht3 hq hq4 Ja c5;generalize(W3.setCell ⟨b,5,none⟩ (.pointer UN))=W4 at *
 have v0:=Q4.out.cell (k:=0) rfl;have v1:=Q4.out.cell (k:=1) rfl;have v2:=Q4.out.cell (k:=2) rfl;have v3:=Q4.out.cell (k:=3) rfl;have v4:=Q4.out.cell (k:=4) rfl;have Tp:∀k,k∈b::(l'.ax++r.ax)->k∈b::(l.ax++r.ax):=λk I=>by
  simp only[ν,κ]at I⊢;rcases I with h|h|h
  ·exact .inl h
  ·exact .inr (.inl (jK k h))
  exact .inr (.inr h)
 have MM:=H Tp;have nz:¬w.heap.size∈b::(l'.ax++r.ax):=λh=>by have:=aQ _ (Tp _ h);omega
 have nq:¬q∈b::(l'.ax++r.ax):=λh=>by have:=aQ _ (Tp _ h);omega
 have NZ:=H nz;have NQ:=H nq;clear nz nq Tp;obtain⟨pb,Lm⟩:=(LT.iP b e l' r).kI;rw[Lm]at B;have HPB:=H Lm;clear Lm;go_region_with (go_at_call 286;refine(B.out).mono ?_;rintro E W5 ⟨rfl,XJ,fV⟩;have q5:=M.ex (show M W4.drew q _ _ from Q4.out) fV NQ.out;have z5:=M.ex (show M W4.drew w.heap.size _ _ from Z4.out) fV NZ.out;have m0:=q5.cell (k:=0) rfl;have m1:=q5.cell (k:=1) rfl;have m2:=q5.cell (k:=2) rfl;have m3:=q5.cell (k:=3) rfl;have m4:=q5.cell (k:=4) rfl;have z0:=z5.cell (k:=0) rfl;have z1:=z5.cell (k:=1) rfl;have z2:=z5.cell (k:=2) rfl;have z3:=z5.cell (k:=3) rfl;have z4:=z5.cell (k:=4) rfl;have y0:=z5.free (k:=0);have y1:=z5.free (k:=1);have y2:=z5.free (k:=2);have y3:=z5.free (k:=3);have y4:=z5.free (k:=4))
 all_goals
  obtain⟨KW,jT⟩:=Rr f z5 rfl;clear m0 m1 m2 m3 m4 z0 z1 z2 z3 z4 y0 y1 y2 y3 y4 v0 v1 v2 v3 v4 B;generalize(((((W5.setCell ⟨w.heap.size,0,none⟩ (V Z f.b)).setCell ⟨w.heap.size,1,none⟩ (V Z f.e)).setCell ⟨w.heap.size,2,none⟩ (ζ f.c)).setCell ⟨w.heap.size,3,none⟩ (ζ f.u)).setCell ⟨w.heap.size,4,none⟩ (V Z f.k))=W6 at *
  go_wp2_with fail;refine bodyPost_ret (v:=.tuple #[di f,.pointer pb]) ?_ rfl ?_
  ·rw[results_cell_tmp results316 rfl (run_loadVar_mid W6 w.heap.size 0 223 (bA f) _ (ia KW) underlying223 rfl Rq)];rfl
  refine⟨by rw[HPB.out],?_,?_⟩
  ·exact XJ.aL jT λk I h=>NZ.out (by subst h;exact(LT.rG b e l' r).mem_iff.1 I)
  exact(((XW.out.drew).trans fV λk I=>.inl (MM.out k I)).trans jT λk I=>.inr (by omega))
theorem Kh:∀(t:LT) (f:aJ) (t':LT) (w:θ),t.first=some (f,t')->aE w t->t.ax.Nodup->t.size<=400000->τ prog 316 #[t.ptr] w (yc t f t' w)
 |⟨none⟩,_,_,_,h,_,_,_=>by cases h
 |⟨some (b,e,l,r)⟩,f,t',w,h,hT,nd,s=>by
  have s':l.size+r.size+1<=400000:=s;obtain⟨_,_,d1,d2,_⟩:=fb nd;unfold LT.first at h
  split at h
  ·rename_i N;cases h;have hn:=LT.pw N;subst hn;exact XL b e r w hT
  rename_i f' l' N;cases h;obtain⟨y,hy⟩:=LT.wA N;obtain⟨bl,el,ll,lr,sC⟩:∃bl el ll lr,l=.node bl el ll lr:=by
   cases l using LT.Ac with
   |nil=>cases N
   |node bl el ll lr=>exact⟨_,_,_,_,rfl⟩
  have cK:(y::l'.ax).Nodup:=(hy.nodup_iff).1 d1;have bp:l'.size+1=l.size:=by rw[<-LT.kB,<-LT.kB,hy.length_eq,ω]
  exact To b e l r f l' bl w hT nd (by omega) (by rw[sC];rfl) (λk I=>hy.mem_iff.2 (by simp[I])) (List.nodup_cons.1 cK).2 (by omega) λW hW=>Kh l f l' W N hW d1 (by omega)
def Cd (x:aJ)(t:LT)(w:θ):ώ->θ->Prop:=λE Y=>E=δ (t.drop x).ptr/\aE Y (t.drop x)/\ak (λk=>k∈t.ax) w Y
theorem mJ (x:aJ)(t:LT):∀k∈(t.drop x).ax,k∈t.ax:=λk I=>by
 obtain⟨ys,h⟩:=LT.vt x t;exact h.mem_iff.2 (by simp[I])
theorem GO (x:aJ)(t:LT)(h:t.ax.Nodup):(t.drop x).ax.Nodup:=by
 obtain⟨ys,J⟩:=LT.vt x t;exact(List.nodup_append.1 ((J.nodup_iff).1 h)).2.1
theorem Rs (x:aJ)(t:LT):(t.drop x).size<=t.size:=by
 obtain⟨ys,J⟩:=LT.vt x t;rw[<-LT.kB,<-LT.kB,J.length_eq,Ρ];omega
theorem Tq {b:Nat}{e:aJ}{l r l':LT}{w W3 W4:θ}{px:Option Addr}(nd:(b::(l.ax++r.ax)).Nodup)(U:Below w.heap.size w W3)(hT:aE W3 (.node b e l r))(bO:ak (λk=>k∈l.ax) W3.drew W4)(gd:aE W4 l')(jK:∀k∈l'.ax,k∈l.ax)(cK:l'.ax.Nodup)(bp:l'.size<=l.size)(gZ:l'.ptr=.pointer px)(s:l.size+r.size<=400000):
 τ prog 286 #[ε (some ⟨b,0,none⟩)] (W4.setCell ⟨b,5,none⟩ (.pointer px)) λE Y=>E=δ (LT.iP b e l' r).ptr/\aE Y (LT.iP b e l' r)/\ak (λk=>k∈b::(l.ax++r.ax)) w Y:=by
 obtain⟨n1,n2,d1,d2,d3⟩:=fb nd;have r4:=M.ex (show M W3.drew b _ _ from hT.1) bO n1;have sT:ak (λk=>k=b) W4 (W4.setCell ⟨b,5,none⟩ (.pointer px)):=(ak.refl (λk=>k=b) W4).st rfl _;have nn:fe (W4.setCell ⟨b,5,none⟩ (.pointer px)) b e l' r:=⟨⟨_,_,by rw[gZ];exact M.set (k:=5) r4 _⟩,gd.aL sT (λk I h=>n1 (h▸jK k I)),((show aE W3.drew r from hT.2.2.keep λ_ _=>rfl).aL bO λk I h=>d3 k h I).aL sT λk I h=>n2 (h▸I)⟩;have Om:(b::(l'.ax++r.ax)).Nodup:=by
  rw[ο,Α];refine⟨λh=>?_,cK,d2,λa ha c hc Oo=>d3 a (jK a ha) (Oo▸hc)⟩;rcases List.mem_append.1 h with h|h
  ·exact n1 (jK b h)
  exact n2 h
 refine(kV b e l' r _ nn Om (by omega)).mono ?_;rintro E Y ⟨rfl,ht,X⟩;refine⟨rfl,ht,?_⟩;refine((((ak.ar U).aM (ak.refl (λk=>k∈b::(l.ax++r.ax)) W3).drew).trans bO λk I=>.inl (by simp[I])).st (by simp) _).trans X λk I=>?_;simp only[ν,κ]at I;rcases I with h|h|h
 ·exact .inl (by simp[h])
 ·exact .inl (by simp[jK k h])
 exact .inl (by simp[h])
theorem Tr {b:Nat}{e:aJ}{l r r':LT}{w W3 W4:θ}{px:Option Addr}(nd:(b::(l.ax++r.ax)).Nodup)(U:Below w.heap.size w W3)(hT:aE W3 (.node b e l r))(bO:ak (λk=>k∈r.ax) W3.drew W4)(gd:aE W4 r')(jK:∀k∈r'.ax,k∈r.ax)(cK:r'.ax.Nodup)(bp:r'.size<=r.size)(gZ:r'.ptr=.pointer px)(s:l.size+r.size<=400000):
 τ prog 286 #[ε (some ⟨b,0,none⟩)] (W4.setCell ⟨b,6,none⟩ (.pointer px)) λE Y=>E=δ (LT.iP b e l r').ptr/\aE Y (LT.iP b e l r')/\ak (λk=>k∈b::(l.ax++r.ax)) w Y:=by
 obtain⟨n1,n2,d1,d2,d3⟩:=fb nd;have r4:=M.ex (show M W3.drew b _ _ from hT.1) bO n2;have sT:ak (λk=>k=b) W4 (W4.setCell ⟨b,6,none⟩ (.pointer px)):=(ak.refl (λk=>k=b) W4).st rfl _;have nn:fe (W4.setCell ⟨b,6,none⟩ (.pointer px)) b e l r':=⟨⟨_,_,by rw[gZ];exact M.set (k:=6) r4 _⟩,((show aE W3.drew l from hT.2.1.keep λ_ _=>rfl).aL bO λk I h=>d3 k I h).aL sT (λk I h=>n1 (h▸I)),gd.aL sT (λk I h=>n2 (h▸jK k I))⟩;have Om:(b::(l.ax++r'.ax)).Nodup:=by
  rw[ο,Α];refine⟨λh=>?_,d1,cK,λa ha c hc Oo=>d3 a ha (Oo▸jK c hc)⟩;rcases List.mem_append.1 h with h|h
  ·exact n1 h
  exact n2 (jK b h)
 refine(kV b e l r' _ nn Om (by omega)).mono ?_;rintro E Y ⟨rfl,ht,X⟩;refine⟨rfl,ht,?_⟩;refine((((ak.ar U).aM (ak.refl (λk=>k∈b::(l.ax++r.ax)) W3).drew).trans bO λk I=>.inl (by simp[I])).st (by simp) _).trans X λk I=>?_;simp only[ν,κ]at I;rcases I with h|h|h
 ·exact .inl (by simp[h])
 ·exact .inl (by simp[h])
 exact .inl (by simp[jK k h])
theorem wC (x:aJ)(b:Nat)(e:aJ)(l r:LT)(w:θ)(h:aE w (.node b e l r))(nd:(LT.node b e l r).ax.Nodup)(s:l.size+r.size<=400000)
 (atA:(bM x e<0/\∀W:θ,aE W l->τ prog 284 #[l.ptr,di x] W (Cd x l W))\/(0<bM x e/\∀W:θ,aE W r->τ prog 284 #[r.ptr,di x] W (Cd x r W))\/
  (bM x e=0/\(r=.nil\/∃(f:aJ) (r':LT) (br:Nat),r.first=some (f,r')/\r.ptr=ε (some ⟨br,0,none⟩)))):
 τ prog 284 #[ε (some ⟨b,0,none⟩),di x] w (Cd x (.node b e l r) w):=by
 have HH:=H atA;clear atA;have rx:=M.new w (bA x) 223;have al:Below w.heap.size w (w.alloc (η (bA x).toArray 223)):=(ψ _ _).alloc (μ _) _;have hT:aE (w.alloc (η (bA x).toArray 223)) (.node b e l r):=h.aL (O:=λ_=>False) (ak.ar al) (λ_ _ h=>h);have hC:=H (λW=>Dl x e W);have anH:=h.1.lt;obtain⟨n1,n2,d1,d2,d3⟩:=fb nd;have aQ:∀k∈b::(l.ax++r.ax),k<w.heap.size:=h.lt;unfold di at *
 unfold bA at *
 go_enter func284,ntmps284;go_upto_region 1 with fail;generalize(w.alloc (.cells [Ν Z x.b,V Z x.e,ζ x.c,ζ x.u,V Z x.k].toArray 223))=W at *
 obtain⟨x0,x1,x2,x3,x4⟩:=mv (e:=x) rx;obtain⟨e0,e1,e2,e3,e4⟩:=EO hT.1;have kx0:=cell_regrown x0;have kx1:=cell_regrown x1;have kx2:=cell_regrown x2;have kx3:=cell_regrown x3;have kx4:=cell_regrown x4;have ke0:=cell_regrown e0;have ke1:=cell_regrown e1;have ke2:=cell_regrown e2;have ke3:=cell_regrown e3;have ke4:=cell_regrown e4;clear x0 x1 x2 x3 x4 e0 e1 e2 e3 e4;refine wp_region_quiet_below (by kernel_rfl) (by kernel_rfl) ?_
 iterate 5 (go_big_quiet_step (fail))
 go_big_quiet_step (exact Calls.regrown_of (hC.out _));go_big_quiet_step (fail);refine wpQuiet_nil ?_;intro _ dD;obtain⟨⟨dq,gT⟩,ga⟩:=dD;subst ga;have aR:Below W.heap.size W (grow (redrawn W dq) gT):=below_regrown W dq gT;have kj:aE (grow (redrawn W dq) gT) (.node b e l r):=hT.aL (O:=λ_=>False) (ak.ar aR) (λ_ _ h=>h);have Dm:=rx.on aR;have iS:=al.trans (aR.mono al.size);clear kx0 kx1 kx2 kx3 kx4 ke0 ke1 ke2 ke3 ke4 aR al hT rx hC;simp only[];generalize grow (redrawn W dq) gT=W3 at *
 rcases HH.out with⟨X,ih⟩|⟨X,ih⟩|⟨X,rfl|⟨f,r',br,hf,LV⟩⟩
 all_goals clear HH
 ·obtain⟨x0,x1,x2,x3,x4⟩:=mv (e:=x) Dm;have c5:=kj.1.cell (k:=5) rfl;have f5:=kj.1.free (k:=5);have HT:=H kj;have xZ:=H iS;have IH:=H (ih W3.drew (kj.2.1.keep λ_ _=>rfl));clear kj iS Dm ih;go_upto_region 4 with fail;go_region_with (go_at_call 284;refine(IH.out).mono ?_;rintro E W4 ⟨hE,gd,bO⟩;obtain⟨px,gZ⟩:=(l.drop x).kI;rw[gZ]at hE;subst hE;have r4:=M.ex (show M W3.drew b _ _ from HT.out.1) bO n1;have f4:=r4.free (k:=5);have c4:=r4.cell (k:=5) rfl)
  all_goals
   have B:=H (Tq nd xZ.out HT.out bO gd (mJ x l) (GO x l d1) (Rs x l) gZ s);clear r4 f4 c4 bO gd gZ IH x0 x1 x2 x3 x4 c5 f5 HT;go_wp2_with (go_at_call 286;refine(B.out).mono ?_;rintro E W6 ⟨rfl,zp,jT⟩);go_ret;refine⟨?_,?_,jT⟩
   ·rw[LT.drop,if_pos X];rfl
   rw[LT.drop,if_pos X];exact zp
 ·obtain⟨x0,x1,x2,x3,x4⟩:=mv (e:=x) Dm;have c5:=kj.1.cell (k:=6) rfl;have f5:=kj.1.free (k:=6);have HT:=H kj;have xZ:=H iS;have IH:=H (ih W3.drew (kj.2.2.keep λ_ _=>rfl));clear kj iS Dm ih;go_upto_region 6 with fail;go_region_with (go_at_call 284;refine(IH.out).mono ?_;rintro E W4 ⟨hE,gd,bO⟩;obtain⟨px,gZ⟩:=(r.drop x).kI;rw[gZ]at hE;subst hE;have r4:=M.ex (show M W3.drew b _ _ from HT.out.1) bO n2;have f4:=r4.free (k:=6);have c4:=r4.cell (k:=6) rfl)
  all_goals
   have B:=H (Tr nd xZ.out HT.out bO gd (mJ x r) (GO x r d2) (Rs x r) gZ s);clear r4 f4 c4 bO gd gZ IH x0 x1 x2 x3 x4 c5 f5 HT;go_wp2_with (go_at_call 286;refine(B.out).mono ?_;rintro E W6 ⟨rfl,zp,jT⟩);go_ret;refine⟨?_,?_,jT⟩
   ·rw[LT.drop,if_neg (by omega),if_pos X];rfl
   rw[LT.drop,if_neg (by omega),if_pos X];exact zp
 ·have c5:=kj.1.cell (k:=5) rfl;have c6:=kj.1.cell (k:=6) rfl;simp only[oX]at c6;obtain⟨pl,qz⟩:=l.kI;rw[qz]at c5;have HP:=H qz;have HT:=H kj;have xZ:=H iS;clear kj iS Dm qz;go_wp2_with fail;go_ret;have hd:(LT.node b e l .nil).drop x=l:=by rw[LT.drop,if_neg (by omega),if_neg (by omega)];rfl
  rw[Cd,hd];exact⟨by rw[HP.out];rfl,HT.out.2.1,ak.ar xZ.out⟩
 have c6:=kj.1.cell (k:=6) rfl;rw[LV]at c6;have F:=H (Kh r f r' W3 hf kj.2.2 d2 (by omega));rw[LV]at F;obtain⟨pr,Ol⟩:=r'.kI;unfold yc at F;rw[Ol]at F;unfold di bA at F;obtain⟨y,hy⟩:=LT.wA hf;have cK:(y::r'.ax).Nodup:=(hy.nodup_iff).1 d2;have bp:r'.size+1=r.size:=by rw[<-LT.kB,<-LT.kB,hy.length_eq,ω]
 have jK:∀k∈r'.ax,k∈r.ax:=λk I=>hy.mem_iff.2 (by simp[I]);have HND:=H (List.nodup_cons.1 cK).2;have hd:(LT.node b e l r).drop x=LT.iP b f l r':=by rw[LT.drop,if_neg (by omega),if_neg (by omega),hf]
 have HD:=H hd;have HP:=H Ol;have HT:=H kj;have xZ:=H iS;clear kj iS Dm Ol hd hf hy cK LV;go_upto_region 9 with(go_at_call 316;refine(F.out).mono ?_;rintro E W4 ⟨rfl,gd,bO⟩;have r4:=M.ex HT.out.1 bO n2;have m0:=r4.cell (k:=0) rfl;have m1:=r4.cell (k:=1) rfl;have m2:=r4.cell (k:=2) rfl;have m3:=r4.cell (k:=3) rfl;have m4:=r4.cell (k:=4) rfl;have m6:=r4.cell (k:=6) rfl;have y0:=r4.free (k:=0);have y1:=r4.free (k:=1);have y2:=r4.free (k:=2);have y3:=r4.free (k:=3);have y4:=r4.free (k:=4);have y6:=r4.free (k:=6));have fV:ak (λk=>k=b) W4 ((((((W4.setCell ⟨b,0,none⟩ (V Z f.b)).setCell ⟨b,1,none⟩ (V Z f.e)).setCell ⟨b,2,none⟩ (ζ f.c)).setCell ⟨b,3,none⟩ (ζ f.u)).setCell ⟨b,4,none⟩ (V Z f.k)).setCell ⟨b,6,none⟩ (.pointer pr)):=((((((ak.refl (λk=>k=b) W4).st rfl _).st rfl _).st rfl _).st rfl _).st rfl _).st rfl _;have r5:M ((((((W4.setCell ⟨b,0,none⟩ (V Z f.b)).setCell ⟨b,1,none⟩ (V Z f.e)).setCell ⟨b,2,none⟩ (ζ f.c)).setCell ⟨b,3,none⟩ (ζ f.u)).setCell ⟨b,4,none⟩ (V Z f.k)).setCell ⟨b,6,none⟩ (.pointer pr)) b (iB f l.ptr (.pointer pr) (LT.node b e l r).ht (LT.node b e l r).gr) 273:=(((((r4.set (k:=0) _).set (k:=1) _).set (k:=2) _).set (k:=3) _).set (k:=4) _).set (k:=6) _;clear m0 m1 m2 m3 m4 m6 y0 y1 y2 y3 y4 y6 r4 F c6;generalize((((((W4.setCell ⟨b,0,none⟩ (V Z f.b)).setCell ⟨b,1,none⟩ (V Z f.e)).setCell ⟨b,2,none⟩ (ζ f.c)).setCell ⟨b,3,none⟩ (ζ f.u)).setCell ⟨b,4,none⟩ (V Z f.k)).setCell ⟨b,6,none⟩ (.pointer pr))=W5 at *
 have nn:fe W5 b f l r':=⟨⟨_,_,by rw[HP.out];exact r5⟩,(HT.out.2.1.aL bO λk I h=>d3 k I h).aL fV (λk I h=>n1 (h▸I)),gd.aL fV (λk I h=>n2 (h▸jK k I))⟩;have Om:(b::(l.ax++r'.ax)).Nodup:=by
  rw[ο,Α];refine⟨λh=>?_,d1,HND.out,λa ha c hc Oo=>d3 a ha (Oo▸jK c hc)⟩;rcases List.mem_append.1 h with h|h
  ·exact n1 h
  exact n2 (jK b h)
 have B:=H (kV b f l r' W5 nn Om (by omega));unfold rH at B;have X5:Hid (ak (λk=>k∈b::(l.ax++r.ax)) w W5):=H (((ak.ar xZ.out).trans bO λk I=>.inl (by simp[I])).trans fV λk I=>.inl (by simp[I]));clear bO gd fV r5 nn;go_wp2_with (go_at_call 286;refine(B.out).mono ?_;rintro E W6 ⟨rfl,zp,jT⟩);go_ret;rw[Cd,HD.out];refine⟨rfl,zp,X5.out.trans jT λk I=>.inl ?_⟩;simp only[ν,κ]at I⊢;rcases I with h|h|h
 ·exact .inl h
 ·exact .inr (.inl h)
 exact .inr (.inr (jK k h))
theorem Ds (x:aJ):∀(t:LT) (w:θ),aE w t->t.ax.Nodup->t.size<=400000->LT.eU t.aw->(∃y∈t.aw,bM x y=0)->τ prog 284 #[t.ptr,di x] w (Cd x t w)
 |⟨none⟩,_,_,_,_,_,h=>by obtain⟨y,hy,_⟩:=h;cases hy
 |⟨some (b,e,l,r)⟩,w,h,nd,s,hs,hy=>by
  have s':l.size+r.size+1<=400000:=s;obtain⟨_,_,d1,d2,_⟩:=fb nd;obtain⟨G,A,K⟩:=List.pairwise_append.1 hs;obtain⟨h4,h5⟩:=List.pairwise_cons.1 A;obtain⟨y,hm,h0⟩:=hy;simp only[LT.aw,κ,ν]at hm;by_cases X:bM x e<0
  ·refine wC x b e l r w h nd (by omega) (.inl ⟨X,λW hW=>Ds x l W hW d1 (by omega) G ⟨y,?_,h0⟩⟩);rcases hm with hm|hm|hm
   ·exact hm
   ·subst hm;omega
   exact(LT.ne_of_lt (mf.trans X (h4 y hm)) h0).elim
  by_cases ef:0<bM x e
  ·refine wC x b e l r w h nd (by omega) (.inr (.inl ⟨ef,λW hW=>Ds x r W hW d2 (by omega) h5 ⟨y,?_,h0⟩⟩));rcases hm with hm|hm|hm
   ·exact(LT.ne_of_gt (mf.trans (K y hm e (by simp)) (Cb.1 ef)) h0).elim
   ·subst hm;omega
   exact hm
  have Mm:bM x e=0:=by omega
  cases hf:r.first with
  |none=>
   have hn:=LT.pw hf;subst hn;exact wC x b e l _ w h nd (by omega) (.inr (.inr ⟨Mm,.inl rfl⟩))
  |some p=>
   obtain⟨f,r'⟩:=p;rcases hr:r with⟨_|⟨br,er,rl,rr⟩⟩
   ·rw[hr]at hf;cases hf
   rw[<-hr];exact wC x b e l r w h nd (by omega) (.inr (.inr ⟨Mm,.inr ⟨f,r',br,hf,by rw[hr];rfl⟩⟩))
end Go.Proofs.YthpndgcaoeokeaaGreatDoor
namespace Go.Proofs.YthpndgcaoeokeaaGreatDoor
open Tryz
open Go.RowKit Go.Sort
attribute [local go_sem] Oper.semAt_some
def LT.pH:LT->Option (Nat×aJ)
 |⟨none⟩=>none
 |⟨some (b,e,_,r)⟩=>match r.pH with
  |none=>some (b,e)
  |some p=>some p
theorem LT.Ab {t:LT}(h:t.pH=none):t=.nil:=by
 cases t using LT.Ac with
 |nil=>rfl
 |node b e l r=>unfold LT.pH at h;split at h<;>cases h
theorem LT.EN:∀{t:LT} {b:Nat} {e:aJ},t.pH=some (b,e)->∃l,t.aw=l++[e]
 |⟨none⟩,_,_,h=>by cases h
 |⟨some (b,e,l,r)⟩,b',e',h=>by
  unfold LT.pH at h;split at h
  ·rename_i hr;cases h;rw[LT.Ab hr];exact⟨l.aw,rfl⟩
  rename_i p hr;cases h;obtain⟨m,hm⟩:=LT.EN hr;exact⟨l.aw++e::m,by simp[LT.aw,hm]⟩
theorem X2 (t:LT)(b:Nat)(e:aJ)(w:θ)(h:aE w t)(N:t.pH=some (b,e)):
 τ prog 221 #[t.ptr] w λE Y=>E=δ (ε (some ⟨b,0,none⟩))/\w=Y/\∃lv rv x y,M w b (iB e lv rv x y) 273:=by
 go_enter func221,ntmps221;go_wp2_with fail;go_loopg [0] t.size (λk v wr=>w=wr/\∃s:LT,s.size<=k/\v=s.ptr/\aE w s/\s.pH=some (b,e))
 case atStart=>exact⟨rfl,t,μ _,rfl,h,N⟩
 case round=>
  obtain⟨rfl,s,hs,rfl,hT,Rt⟩:=hrel;cases s using LT.Ac with
  |nil=>cases Rt
  |node bs es l r=>
   have c6:=hT.1.cell (k:=6) rfl;simp only[jy];cases r using LT.Ac with
   |nil=>
    simp only[oX]at c6;have e1:bs=b/\es=e:=by
     unfold LT.pH at Rt;simp only[LT.pH]at Rt;cases Rt;exact⟨rfl,rfl⟩
    obtain⟨rfl,rfl⟩:=e1;have HT:=H hT;clear hT;go_wp2_with fail;go_ret;exact⟨rfl,rfl,_,_,_,_,HT.out.1⟩
   |node br er rl rr=>
    simp only[jy]at c6;have HT:=H hT;have HL:=H Rt;clear hT Rt;have oZ:(LT.node br er rl rr).size<gk:=by have:l.size+(LT.node br er rl rr).size+1<=gk:=hs;omega
    go_wp2_with fail;go_roundg (LT.node br er rl rr).size
    case measure=>exact oZ
    case rel=>
     refine⟨rfl,.node br er rl rr,μ _,rfl,HT.out.2.2,?_⟩;have:=HL.out;rw[LT.pH]at this;split at this
     ·rename_i hn;have:=LT.Ab hn;cases this
     rename_i p J;cases this;exact J
end Go.Proofs.YthpndgcaoeokeaaGreatDoor
namespace Go.Proofs.YthpndgcaoeokeaaGreatDoor
open Tryz
open Go.RowKit Go.Sort
attribute [local go_sem] Oper.semAt_some
def dz (f t:Int)(es:List aJ):List aJ:=es.filter λe=>decide (e.b<t)&&decide (f<e.e)
theorem PS (f t:Int)(x y:List aJ):dz f t (x++y)=dz f t x++dz f t y:=by unfold dz;exact ϊ ..
theorem Ru {f t:Int}{es:List aJ}(h:∀x∈es,¬(x.b<t/\f<x.e)):dz f t es=[]:=by
 unfold dz;rw[List.filter_eq_nil_iff];intro x X h';exact h x X (by simpa using h')
theorem aaC (f t:Int)(e:aJ)(r:List aJ):dz f t (e::r)=(if e.b<t/\f<e.e then[e]else[])++dz f t r:=by
 unfold dz;by_cases h:e.b<t/\f<e.e
 ·rw[if_pos h,Χ (by simpa using h)];rfl
 rw[if_neg h,Ψ (by simpa using h)];rfl
theorem XM {l r:List aJ}{e:aJ}(h:LT.eU (l++e::r)):LT.eU l/\LT.eU r/\∀x∈r,e.b<=x.b:=by
 unfold LT.eU at *
 rw[List.pairwise_append,List.pairwise_cons]at h;exact⟨h.1,h.2.1.2,λx X=>(h.2.1.1 x X).b⟩
theorem aN.after {D D1:aj}{atF:aP}{W W1 W2:θ}(h:aN D1 W1.heap.size atF W1 W2)(X:ak D W W1)(d1:∀k,D1 k->D k\/W.heap.size<=k)(d2:∀k,D k->D1 k):aN D W.heap.size atF W W2:=by
 obtain⟨x,E,e1,e2,aG⟩:=h;exact⟨X.trans x d1,E,λk I=>(e1 k I).elim (d1 k) (λh=>.inr (by have:=X.size;omega)),λk I=>e2 k (d2 k I),aG⟩
def Cw (D:aj)(atF:aP)(Js:aP)(Jp:List Ϙ->aP)(W:θ):ώ->θ->Prop:=λe W'=>
 (e=δ (.bool true)/\aN D W.heap.size atF W W')\/(e=δ (.bool false)/\aN D W.heap.size Js W W')\/(∃c,e=.panicked c/\aN D W.heap.size (Jp c) W W')
theorem Cw.after {D D1:aj}{atF Js:aP}{Jp:List Ϙ->aP}{W W1 W2:θ}{e:ώ}(h:Cw D1 atF Js Jp W1 e W2)(X:ak D W W1)(d1:∀k,D1 k->D k\/W.heap.size<=k)(d2:∀k,D k->D1 k):Cw D atF Js Jp W e W2:=by
 rcases h with⟨rfl,h⟩|⟨rfl,h⟩|⟨c,rfl,h⟩
 ·exact .inl ⟨rfl,h.after X d1 d2⟩
 ·exact .inr (.inl ⟨rfl,h.after X d1 d2⟩)
 exact .inr (.inr ⟨c,rfl,h.after X d1 d2⟩)
theorem aiw (l:Nat)(W0:θ)(O:aj)(atF:Nat->aP)(Js:aP)(Jp:List Ϙ->aP)(xs:List (Array Value))(f t:Int)
 (hY:∀i x,xs[i]?=some x->∀(W1:θ) (D:aj),ak O W0 W1->(∀k,D k->O k\/W0.heap.size<=k)->(∀k,O k->D k)->On D (atF i) W1->YieldAt Fence.wide 0 prog l x W1 (Cw D (atF (i+1)) Js Jp W1)):
 ∀(s:LT) (i:Nat) (W:θ) (D:aj),ak O W0 W->(∀k,D k->O k\/W0.heap.size<=k)->(∀k,O k->D k)->On D (atF i) W->aE W s->(∀k∈s.ax,k<W0.heap.size/\¬O k)->LT.eU s.aw->
  (∀j x,(dz f t s.aw)[j]?=some x->xs[i+j]?=some #[di x])->
  CallsIn Fence.wide 0 prog 226 #[s.ptr,V Z f,V Z t,.func (.yield l) #[] #[]] W (Cw D (atF (i+(dz f t s.aw).length)) Js Jp W):=by
 intro s
 induction s using LT.ind with
 |nil=>
  intro i W D X ep dV aG _ _ _ _;have HP:Hid (Cw D (atF i) Js Jp W (δ (.bool true)) W):=H (.inl ⟨rfl,ak.refl _ _,D,λ_ h=>.inl h,λ_ h=>h,aG⟩);clear hY X ep dV aG;refine callsIn_of_wp func226 rfl trivial ?_ rfl;simp only[ntmps226,Κ,ω,Η,Ο,Ξ,Ζ,Ε,Λ,Θ,Β,π,oX];gi_wp2_with fail;go_ret;exact HP.out
 |node b e sl sr ihl XO=>
  intro i W D X ep dV aG hT hB hS hG;have Fu:∀k∈(LT.node b e sl sr).ax,¬D k:=λk I hd=>by
   rcases ep k hd with h|h
   ·exact(hB k I).2 h
   have:=(hB k I).1;omega
  obtain⟨s1,s2,s3⟩:=XM (show LT.eU (sl.aw++e::sr.aw)from hS);have zU:b∈(LT.node b e sl sr).ax:=by simp[LT.ax]
  have lR:∀k∈sl.ax,k∈(LT.node b e sl sr).ax:=λk I=>by simp[LT.ax,I]
  have qy:∀k∈sr.ax,k∈(LT.node b e sl sr).ax:=λk I=>by simp[LT.ax,I]
  have lW:=(LT.node b e sl sr).Oi;have he:dz f t (LT.node b e sl sr).aw=dz f t sl.aw++((if e.b<t/\f<e.e then[e]else[])++dz f t sr.aw):=by
   show dz f t (sl.aw++e::sr.aw)=_;rw[PS,aaC]
  have c8:=hT.1.cell (k:=8) rfl;by_cases hg:(LT.node b e sl sr).gr<=f
  case pos=>
   have e0:dz f t (LT.node b e sl sr).aw=[]:=Ru λx X h=>by have:=lW x X;omega
   have HP:Hid (Cw D (atF (i+(dz f t (LT.node b e sl sr).aw).length)) Js Jp W (δ (.bool true)) W):=by
    rw[e0];exact H (.inl ⟨rfl,ak.refl _ _,D,λ_ h=>.inl h,λ_ h=>h,aG⟩)
   clear hY X ep dV aG hT hB hS hG he lW ihl XO Fu s1 s2 s3 zU lR qy e0;generalize(LT.node b e sl sr).gr=atz at *
   refine callsIn_of_wp func226 rfl trivial ?_ rfl;simp only[ntmps226,Κ,ω,Η,Ο,Ξ,Ζ,Ε,Λ,Θ,Β,π,jy];gi_wp2_with fail;go_ret;exact HP.out
  case neg=>
   have c5:=hT.1.cell (k:=5) rfl;have HL:=H (ihl i W D X ep dV aG hT.2.1 (λk I=>hB k (lR k I)) s1 (λj x hj=>hG j x (by rw[he,Φ (List.getElem?_eq_some_iff.1 hj).1];exact hj)));have HT:=H hT;have HE:=H he;generalize hgE:(LT.node b e sl sr).gr=atz at *
   clear ihl lW hT he hS;refine callsIn_of_wp func226 rfl trivial ?_ rfl;simp only[ntmps226,Κ,ω,Η,Ο,Ξ,Ζ,Ε,Λ,Θ,Β,π,jy];gi_wp2_with fail;refine⟨trivial,rfl,HL.out.mono ?_⟩;clear HL c5 c8;rintro E W1 (⟨rfl,bz,D1,d1,d2,zy⟩|⟨rfl,J⟩|⟨c,rfl,J⟩)
   case inr.inl=>
    have HP:=H J;clear J hY X ep dV aG hB hG HT HE XO Fu s1 s2 s3 zU lR qy;gi_wp2_with fail;go_ret;exact .inr (.inl ⟨rfl,HP.out⟩)
   case inr.inr=>
    have HP:=H J;clear J hY X ep dV aG hB hG HT HE XO Fu s1 s2 s3 zU lR qy;gi_wp2_with fail;exact⟨rfl,.inr (.inr ⟨c,rfl,HP.out⟩)⟩
   case inl=>
    have bp:=X.size;have dN:∀k∈(LT.node b e sl sr).ax,¬D1 k:=λk I hd=>(d1 k hd).elim (Fu k I) (λh=>by have:=(hB k I).1;omega);have vj:=HT.out.aL bz Fu;have sY:ak O W0 W1:=X.trans bz ep;have Ix:∀k,D1 k->O k\/W0.heap.size<=k:=λk I=>(d1 k I).elim (ep k) (λh=>.inr (by omega));have Oq:∀k,O k->D1 k:=λk I=>d2 k (dV k I);have HR:Hid (∀(W2:θ) (D2:aj) (m:Nat),ak D1 W1 W2->(∀k,D2 k->D1 k\/W1.heap.size<=k)->(∀k,D1 k->D2 k)->On D2 (atF (i+(dz f t sl.aw).length+m)) W2->m=(if e.b<t/\f<e.e then[e]else[]).length->
     CallsIn Fence.wide 0 prog 226 #[sr.ptr,V Z f,V Z t,.func (.yield l) #[] #[]] W2 (Cw D (atF (i+(dz f t (LT.node b e sl sr).aw).length)) Js Jp W)):=H (by
     intro W2 D2 m bL a1 a2 on2 hm;have Ag:=bz.size;refine(XO _ W2 D2 (sY.trans bL Ix) (λk I=>(a1 k I).elim (Ix k) (λh=>.inr (by omega))) (λk I=>a2 k (Oq k I)) on2 (vj.2.2.aL bL λk I=>dN k (qy k I)) (λk I=>hB k (qy k I)) s2 ?_).mono ?_
     ·intro j x hj;have:=hG ((dz f t sl.aw).length+m+j) x (by
       rw[HE.out,Ι (by omega),Ι (by omega)];rw[show(dz f t sl.aw).length+m+j-(dz f t sl.aw).length-(if e.b<t/\f<e.e then[e]else[]).length=j by omega];exact hj)
      rw[show i+(dz f t sl.aw).length+m+j=i+((dz f t sl.aw).length+m+j) by omega];exact this
     intro E W3 h;have:=h.after (D:=D) (W:=W) (bz.trans bL d1) (λk I=>(a1 k I).elim (d1 k) (λh=>.inr (by have:=bz.size;omega))) (λk I=>a2 k (d2 k I));rw[HE.out,Ρ,Ρ,<-hm,show i+((dz f t sl.aw).length+(m+(dz f t sr.aw).length))=i+(dz f t sl.aw).length+m+(dz f t sr.aw).length by omega];exact this)
    have c0:=vj.1.cell (k:=0) rfl;have c1:=vj.1.cell (k:=1) rfl;have c2:=vj.1.cell (k:=2) rfl;have c3:=vj.1.cell (k:=3) rfl;have c4:=vj.1.cell (k:=4) rfl;have c6:=vj.1.cell (k:=6) rfl;have Rv:=H vj;clear vj HT XO;by_cases G:e.b<t
    case neg=>
     have e0:dz f t (LT.node b e sl sr).aw=dz f t sl.aw:=by
      rw[HE.out,if_neg (λh=>G h.1),Ru (es:=sr.aw) (λx X h=>by have:=s3 x X;omega)];simp
     have HP:Hid (Cw D (atF (i+(dz f t (LT.node b e sl sr).aw).length)) Js Jp W (δ (.bool true)) W1):=by
      rw[e0];exact H (.inl ⟨rfl,bz,D1,d1,d2,zy⟩)
     have tf:t<=e.b:=by omega
     clear hY X ep dV aG hB hG HE Fu s1 s2 s3 zU lR qy e0 bz d1 d2 zy dN sY Ix Oq HR Rv;gi_wp2_with fail;go_ret;exact HP.out
    case pos=>
     have tf:¬t<=e.b:=by omega
     by_cases A:f<e.e
     case neg=>
      have uB:¬e.e>f:=by omega
      have HC:=H (HR.out W1 D1 0 (ak.refl _ _) (λ_ h=>.inl h) (λ_ h=>h) zy (by rw[if_neg (λh=>A h.2)];rfl));clear hY X ep dV aG hB hG HE Fu s1 s2 s3 zU lR qy bz d1 d2 zy dN sY Ix Oq HR Rv;gi_wp2_with fail;refine⟨λ_ h=>(by cases h),?_⟩;gi_wp2_with fail;refine⟨trivial,rfl,HC.out.mono ?_⟩;rintro E W3 K;have H3:=H K;rcases K with⟨rfl,_⟩|⟨rfl,_⟩|⟨c,rfl,_⟩
      all_goals clear HC c0 c1 c2 c3 c4 c6
      ·gi_wp2_with fail;go_ret;exact H3.out
      ·gi_wp2_with fail;go_ret;exact H3.out
      gi_wp2_with fail;exact⟨rfl,H3.out⟩
     case pos=>
      have uB:e.e>f:=by omega
      obtain⟨f1,t1,a1,b1,gI,eE⟩:=hY _ _ (hG (dz f t sl.aw).length e (by rw[HE.out,Ι (μ _),if_pos ⟨G,A⟩];simp)) W1 D1 sY Ix Oq zy;unfold di bA at gI;clear hY X ep dV aG hB hG HE Fu s1 s2 s3 zU lR qy sY Ix Oq;have HR1:=H eE;clear eE;gi_wp2_with fail;refine⟨rfl,HR1.out.mono ?_⟩;clear gI HR1 c0 c1 c2 c3 c4 c6;rintro E W2 (⟨rfl,bL,D2,p1,p2,on2⟩|⟨rfl,J⟩|⟨c,rfl,J⟩)
      case inr.inl=>
       have HP:=H (J.after bz d1 d2);clear J bz d1 d2 zy HR Rv;gi_wp2_with fail;go_ret;exact .inr (.inl ⟨rfl,HP.out⟩)
      case inr.inr=>
       have HP:=H (J.after bz d1 d2);clear J bz d1 d2 zy HR Rv;gi_wp2_with fail;exact⟨rfl,.inr (.inr ⟨c,rfl,HP.out⟩)⟩
      case inl=>
       have HC:=H (HR.out W2 D2 1 bL p1 p2 on2 (by rw[if_pos ⟨G,A⟩];rfl));have c6:=(Rv.out.aL bL dN).1.cell (k:=6) rfl;clear bz d1 d2 zy HR Rv bL p1 p2 on2 dN;gi_wp2_with fail;refine⟨trivial,rfl,HC.out.mono ?_⟩;rintro E W3 K;have H3:=H K;rcases K with⟨rfl,_⟩|⟨rfl,_⟩|⟨c,rfl,_⟩
       all_goals clear HC c6
       ·gi_wp2_with fail;go_ret;exact H3.out
       ·gi_wp2_with fail;go_ret;exact H3.out
       gi_wp2_with fail;exact⟨rfl,H3.out⟩
end Go.Proofs.YthpndgcaoeokeaaGreatDoor
namespace Go.Proofs.YthpndgcaoeokeaaGreatDoor
open Tryz
open Go.RowKit
section
variable {F:Fence} {nF:Nat} {P:Program} {Q:Exit->ϋ->θ->Prop}
theorem Dn {ops:Array Τ}{n:Nat}(hf:forward .any ops=true)(hc:iO n ops=true):
 ∀(t:List Τ) (k fuel:Nat) (listed:Array Bool) (a:ϋ) (w:θ),ops.toList.drop k=t->n<=k->k<=ops.size->listed.size=ops.size->(∀i,i<k->listed.getD i false=true)->(∀i,k<=i->i<ops.size->listed.getD i true=false)->
  t.length<=fuel->wpListIn F nF P ops Q t a w->wpAnyIn F nF P .any ops Q fuel listed a w
 |[],k,fuel,listed,a,w,hd,hn,I,hs,G,A,N,h=>by
  have kC:k=ops.size:=by
   have:=congrArg List.length hd;simp only[List.length_drop,Η,Array.length_toList]at this;omega
  have hr:Γ .any ops listed=[]:=by
   rw[List.eq_nil_iff_forall_not_mem];intro i S;obtain⟨q1,q2,_⟩:=dc S;have:=jM (G i (by omega));rw[q2]at this;cases this
  cases fuel with
  |zero=>exact⟨hr,h⟩
  |succ f=>exact⟨λ_=>h,λi S=>by rw[hr]at S;cases S⟩
 |o::t,k,fuel,listed,a,w,hd,hn,I,hs,G,A,N,h=>by
  have cI:ops[k]?=some o:=by
   have:=congrArg (λl:List Τ=>l[0]?) hd;simpa[List.getElem?_drop]using this
  have aQ:=(Array.getElem?_eq_some_iff.1 cI).1;cases fuel with
  |zero=>simp at N
  |succ f=>
   have lP:k∈Γ .any ops listed:=oO cI (A k (μ _) aQ) (λe he U=>G _ (fC hf cI e he U));refine⟨λhr=>(by rw[hr]at lP;cases lP),λi S=>?_⟩;obtain⟨q1,q2,oi,q3,q4⟩:=dc S;have PM:i=k:=by
    rcases Nat.lt_trichotomy i k with Al|heq|Jg
    ·have:=jM (G i Al);rw[q2]at this;cases this
    ·exact heq
    obtain⟨e,he,U,aG⟩:=tL hc q3 (by omega);have K:=q4 e he U;rw[aG]at K;have:=jM K;rw[A (i-1) (by omega) (by omega)]at this;cases this
   subst PM;have h0:wpOpIn F nF P ops Q i (wpListIn F nF P ops Q t) a w:=by
    unfold wpOpIn;rw[cI];exact h
   refine wpOpIn_mono (λa' Y dD=>Dn hf hc t (i+1) f _ a' Y ?_ (by omega) (by omega) (by simp[hs]) ?_ ?_ (by simpa using N) dD) h0
   ·rw[<-List.drop_drop,hd];rfl
   ·intro j hj;by_cases fA:j=i
    ·subst fA;exact eS _ (by omega)
    rw[ca _ fA];exact G j (by omega)
   intro j hj VU;rw[ca _ (by omega)];exact A j (by omega) VU
def Ce (F:Fence)(nF:Nat)(P:Program)(ops:Array Τ)(Q:Exit->ϋ->θ->Prop)(t:List Τ):Exit->ϋ->θ->Prop
 | .normal,a,w=>wpListIn F nF P ops Q t a w
 |e,a,w=>Q e a w
theorem O3 {ops:Array Τ}{t:List Τ}{o:Τ}{a:ϋ}{w:θ}{atH K':ϋ->θ->Prop}(h:∀a w,atH a w->K' a w)(hh:o.wpIn F nF P a w atH (Ce F nF P ops Q t)):o.wpIn F nF P a w K' Q:=by
 unfold Oper.wpIn at *
 refine⟨hh.1,?_⟩;have hh:=hh.2;generalize(o.semAt F.round a.eval).run P w=r at *
 cases r with
 |ok x Y=>
  cases x<;>simp only[Oper.uponIn]at hh⊢<;>
   first
    |exact h _ _ hh
    |exact⟨hh.1,CallsIn.mono hh.2 (λe az he=>by cases e<;>first|exact h _ _ he|exact he)⟩
    |exact⟨hh.1,RowsIn.mono hh.2 (λ_ _ he=>h _ _ he)⟩
    |exact⟨hh.1,RoundIn.mono hh.2 (λe az he=>by cases e<;>first|exact h _ _ he|exact he)⟩
 |halt x Y=>cases x<;>simp only[Oper.uponIn]at hh⊢<;>exact hh
theorem Ts {l t:List Τ}(hf:forward .any (l++t).toArray=true)(hg:fK (l++t).toArray=true)(hc:iO l.length (l++t).toArray=true):
 ∀(fuel:Nat) (listed L:Array Bool) (a:ϋ) (w:θ),(∀i o,l.toArray[i]?=some o->listed.getD i false=true->∀e∈o.after,Region.binds .any e=true->listed.getD e.on false=true)->listed.size=l.length->L.size=l.length+t.length->(∀i,i<l.length->L.getD i true=listed.getD i true)->(∀i,l.length<=i->i<l.length+t.length->L.getD i true=false)->
  wpAnyIn F nF P .any l.toArray (Ce F nF P (l++t).toArray Q t) fuel listed a w->wpAnyIn F nF P .any (l++t).toArray Q (fuel+t.length) L a w:=by
 have bp:(l++t).toArray.size=l.length+t.length:=by simp
 have qV:∀i,i<l.length->(l++t).toArray[i]?=l.toArray[i]?:=λi S=>by simp[Φ S]
 have jZ:forward .any l.toArray=true:=by
  unfold forward;rw[Ϗ];intro i S;have Qg:i<l.length:=by simpa using List.mem_range.1 S
  unfold forward at hf;rw[Ϗ]at hf;have:=hf i (List.mem_range.2 (by rw[bp];omega));rw[qV i Qg]at this;exact this
 have iV:∀(x:Array Bool) (i:Nat),i<x.size->x.getD i true=x.getD i false:=λx i S=>by rw[bB _ S,bB _ S]
 have done:∀(fuel:Nat) (listed L:Array Bool) (a:ϋ) (w:θ),t.length<=fuel->listed.size=l.length->L.size=l.length+t.length->(∀i,i<l.length->L.getD i true=listed.getD i true)->(∀i,l.length<=i->i<l.length+t.length->L.getD i true=false)->
  Γ .any l.toArray listed=[]->wpListIn F nF P (l++t).toArray Q t a w->wpAnyIn F nF P .any (l++t).toArray Q fuel L a w:=by
  intro fuel listed L a w hfu hs hL G A hr h;have bx:=nB jZ (by simpa using hs) hr;refine Dn hf hc t l.length fuel L a w (by simp) (μ _) (by rw[bp];omega) (by rw[hL,bp]) (λi S=>?_) (λi S Nb=>A i S (by rw[bp]at Nb;exact Nb)) hfu h;rw[<-iV L i (by omega),G i S,iV listed i (by omega)];exact bx i (by simpa using S)
 intro fuel
 induction fuel with
 |zero=>
  intro listed L a w _ hs hL G A h;rw[Ω];exact done _ listed L a w (μ _) hs hL G A h.1 h.2
 |succ f ih=>
  intro listed L a w hC hs hL G A h;by_cases hr:Γ .any l.toArray listed=[]
  ·exact done _ listed L a w (by omega) hs hL G A hr (h.1 hr)
  obtain⟨j,hj⟩:=List.exists_mem_of_ne_nil _ hr;obtain⟨j1,j2,_⟩:=dc hj;have VW:j<l.length:=by simpa using j1
  have fI:L.getD j true=false:=by rw[G j VW];exact j2
  have e:f+1+t.length=(f+t.length)+1:=by omega
  rw[e];have key:∀i,i∈Γ .any (l++t).toArray L->i∈Γ .any l.toArray listed/\i<l.length:=by
   intro i S;obtain⟨q1,q2,o,q3,q4⟩:=dc S;have jl:i<l.length:=by
    rcases Nat.lt_or_ge i l.length with h'|h'
    ·exact h'
    rcases ό h' with h5|h5
    ·rw[<-h5]at q3;have bx:∀d x,x+d=l.length->0<d->L.getD x false=true:=by
      intro d
      induction d using Nat.strongRecOn with
      |ind d ih=>
       intro x X hd;obtain⟨k,Cu,fG,Nc⟩:=Dc hc (by omega:x<l.length);rcases ό fG with F5|F5
       ·rw[F5]at Nc;obtain⟨e,he,U,aG⟩:=qp q3 Nc;have K:=q4 e he U;rw[aG]at K;exact K
       have Qa:=ih (l.length-k) (by omega) k (by omega) (by omega);have cI:(l++t).toArray[k]?=some l[k]:=by rw[qV k F5];simp
       obtain⟨e,he,U,aG⟩:=qp cI Nc;have h6:=hC k l[k] (by simp) (by rw[<-iV listed k (by omega),<-G k F5,iV L k (by omega)];exact Qa) e he U;rw[aG,<-iV listed x (by omega),<-G x (by omega),iV L x (by omega)]at h6;exact h6
     have:=jM (bx (l.length-j) j (by omega) (by omega));rw[fI]at this;cases this
    obtain⟨e,he,U,aG⟩:=tL hc q3 h5;have K:=q4 e he U;rw[aG]at K;have:=jM K;rw[A (i-1) (by omega) (by rw[bp]at q1;omega)]at this;cases this
   rw[qV i jl]at q3;refine⟨oO q3 (by rw[<-G i jl];exact q2) (λe he U=>?_),jl⟩;have aQ:e.on<i:=fC jZ q3 e he U;have K:=q4 e he U;have:=jM K;rw[G e.on (by omega),iV listed _ (by omega)]at this;exact this
  refine⟨λkJ=>?_,λi S=>?_⟩
  ·exfalso;obtain⟨q1,q2,o,q3,q4⟩:=dc hj;have Qn:j∈Γ .any (l++t).toArray L:=by
    refine oO (by rw[qV j VW];exact q3) fI (λe he U=>?_);have aQ:e.on<j:=fC jZ q3 e he U;have K:=q4 e he U;rw[<-iV L _ (by omega),G _ (by omega),iV listed _ (by omega)];exact K
   rw[kJ]at Qn;cases Qn
  obtain⟨ki,jl⟩:=key i S;have h4:=h.2 i ki;have ho:l.toArray[i]?=some l[i]:=by simp
  unfold wpOpIn at h4⊢;rw[qV i jl];rw[ho]at h4⊢;simp only[]at h4⊢;have hw:∀y,Region.wanted l[i] y=true:=wR hg (by rw[qV i jl];exact ho);rw[if_pos (hw _)]at h4⊢;refine O3 (λa' Y dD=>ih _ _ a' Y (λk ok cI ja e he U=>?_) (by simpa using hs) (by simpa using hL) (λk I=>?_) (λk I kC=>?_) dD) h4
  ·obtain⟨_,_,oi,qo,qa⟩:=dc ki;by_cases kN:k=i
   ·subst kN;rw[qo]at cI;cases cI;by_cases uS:e.on=k
    ·rw[uS];exact eS _ (by omega)
    rw[ca _ uS];exact qa e he U
   rw[ca _ kN]at ja;by_cases uS:e.on=i
   ·rw[uS];exact eS _ (by omega)
   rw[ca _ uS];exact hC k ok cI ja e he U
  ·by_cases kN:k=i
   ·subst kN;rw[eS _ (by omega),eS _ (by omega)]
   rw[ca _ kN,ca _ kN];exact G k I
  rw[ca _ (by omega)];exact A k I kC
theorem Ey {id:Nat}{a:ϋ}{w:θ}(l t:List Τ)(hm:P.follows .mixedOrders=true)(hf:forward .any (l++t).toArray=true)(hg:fK (l++t).toArray=true)(hc:iO l.length (l++t).toArray=true)
 (h:wpAnyIn F nF P .any l.toArray (Ce F nF P (l++t).toArray Q t) l.length (ϗ l.length false) a {w with drawn:=w.drawn+1}):(Code.region id (l++t).toArray true).wpIn F nF P Q a w:=by
 refine wpIn_region_any hm ?_;have bp:(l++t).toArray.size=l.length+t.length:=by simp
 rw[bp];refine Ts hf hg hc _ _ _ _ _ (λi o ho N=>?_) (by simp) (by simp) (λi S=>?_) (λi S Nb=>?_) h
 ·rw[bB _ (by simpa using(Array.getElem?_eq_some_iff.1 ho).1)]at N;simp at N
 ·rw[bB _ (by simp;omega),bB _ (by simpa using S)];simp
 rw[bB _ (by simp;omega)];simp
def rI (ops:Array Τ):Bool:=ops.all λo=>match o.op with| .defer _=>false|_=>true
theorem KK {ops:Array Τ}(h:rI ops=true){i:Nat}{o:Τ}(ho:ops[i]?=some o):∀c,o.op≠ .defer c:=by
 unfold rI at h;rw[Array.all_eq_true']at h;have:=h o (Array.mem_of_getElem? ho);intro c hc;rw[hc]at this;cases this
theorem Ot {C:θ->Prop}{o:Τ}{a:ϋ}{atH:ϋ->Prop}{K':ϋ->θ->Prop}{Q':Exit->ϋ->θ->Prop}{w:θ}(hd:∀c,o.op≠ .defer c)(hw:C w)(h:∀a Y,C Y->atH a->K' a Y)
 (ha:o.askedIn F P a C)(hh:o.quietIn F nF P a C atH):o.wpIn F nF P a w K' Q':=by
 obtain⟨v,G,A⟩:=hh;have K:=G w hw;unfold Oper.quietAtIn at K;unfold Oper.wpIn;refine⟨ha w hw,?_⟩;rw[Oper.semAt_plain F _ _ hd];generalize(execOp a.eval o).run P w=r at *
 cases r with
 |ok x Y=>
  cases x<;>simp only[Oper.quietUponIn]at K<;>simp only[Oper.uponIn]
  case value u=>
   obtain⟨e1,e2⟩:=K;rw[e1,e2];exact h _ _ hw A
  case skip=>
   obtain⟨e1,e2⟩:=K;rw[e1,<-e2];exact h _ _ hw A
  case enter f args=>
   obtain⟨e1,hd,hc⟩:=K;rw[e1];exact⟨hd,hc.mono λe az ⟨he,ga⟩=>by subst he;exact h _ _ ga A⟩
 |halt x Y=>simp only[Oper.quietUponIn]at K
theorem Tt {C:θ->Prop}{ops:Array Τ}(hd:rI ops=true){i:Nat}{a:ϋ}{atH:ϋ->Prop}{K':ϋ->θ->Prop}{Q':Exit->ϋ->θ->Prop}{w:θ}(hC:C w)(h:∀a Y,C Y->atH a->K' a Y)
 (hh:qOpIn F nF P ops C i atH a):wpOpIn F nF P ops Q' i K' a w:=by
 unfold qOpIn at hh;unfold wpOpIn;split
 ·rename_i ho;simp only[ho]at hh;exact h _ _ hC hh
 rename_i o ho;simp only[ho]at hh;obtain⟨ha,hh⟩:=hh;split
 ·rename_i hw;simp only[hw,if_true]at hh;exact Ot (KK hd ho) hC h ha hh
 rename_i hw;simp only[hw]at hh;exact⟨ha w hC,h _ _ hC hh⟩
theorem Dp {C:θ->Prop}{ops:Array Τ}(hd:rI ops=true){Q:ϋ->Prop}{Q':Exit->ϋ->θ->Prop}(hQ:∀a w,C w->Q a->Q' .normal a w):∀(fuel:Nat) (listed:Array Bool) (a:ϋ) (w:θ),C w->
 wpAnyQIn F nF P .any ops C Q fuel listed a->wpAnyIn F nF P .any ops Q' fuel listed a w
 |0,_,_,_,hw,h=>⟨h.1,hQ _ _ hw h.2⟩
 |fuel+1,_,_,_,hw,h=>⟨λh0=>hQ _ _ hw (h.1 h0),λi S=>Tt hd hw (λa' Y dD=>Dp hd hQ fuel _ a' Y dD) (h.2 i S)⟩
theorem GF {id:Nat}{a:ϋ}{w:θ}(l t:List Τ)(hm:P.follows .mixedOrders=true)(hf:forward .any (l++t).toArray=true)(hg:fK (l++t).toArray=true)(hc:iO l.length (l++t).toArray=true)(hd:rI l.toArray=true)(hB:Region.lexB .any l.toArray=true)
 (h:wpQuietIn F nF P l.toArray (λY=>∃n,Y=w.drewN n) (λa'=>∀Y,(∃n,Y=w.drewN n)->wpListIn F nF P (l++t).toArray Q t a' Y) l a):(Code.region id (l++t).toArray true).wpIn F nF P Q a w:=by
 refine Ey l t hm hf hg hc ?_;simp only[Region.lexB,Bool.and_eq_true]at hB;refine Dp hd (Q:=λa'=>∀Y,(∃n,Y=w.drewN n)->Ce F nF P (l++t).toArray Q t .normal a' Y) (C:=λY=>∃n,Y=w.drewN n) (λ_ Y dD h=>h Y dD) _ _ _ _ ⟨1,rfl⟩ ?_;exact wpAnyQIn_lex (C:=λY=>∃n,Y=w.drewN n) (md:=.any) hB.1 l 0 (ϗ l.length false) a (by simp) (by simpa using hB.2) h
theorem Ou {id:Nat}{a:ϋ}{w:θ}{L l t:List Τ}(n:Nat)(N:L.take n=l)(ht:L.drop n=t)(hm:P.follows .mixedOrders=true)(hf:forward .any L.toArray=true)(hg:fK L.toArray=true)(hc:iO n L.toArray=true)(hn:l.length=n)(hd:rI l.toArray=true)(hB:Region.lexB .any l.toArray=true)
 (h:wpQuietIn F nF P l.toArray (λY=>∃n,Y=w.drewN n) (λa'=>∀Y,(∃n,Y=w.drewN n)->wpListIn F nF P L.toArray Q t a' Y) l a):(Code.region id L.toArray true).wpIn F nF P Q a w:=by
 subst N ht;have e:L.take n++L.drop n=L:=List.take_append_drop n L;have:=GF (F:=F) (nF:=nF) (P:=P) (Q:=Q) (id:=id) (a:=a) (w:=w) (L.take n) (L.drop n) hm (by rw[e];exact hf) (by rw[e];exact hg) (by rw[e,hn];exact hc) hd hB (by rw[e];exact h);rw[e]at this;exact this
end
end Go.Proofs.YthpndgcaoeokeaaGreatDoor
namespace Go.Proofs.YthpndgcaoeokeaaGreatDoor
open Tryz
open Go.RowKit Go.Sort
attribute [local go_sem] Oper.semAt_some
def X0 (t:LT)(c h:Int):List Value:=[t.ptr,V Z c,V Z h]
structure cU (w:θ)(p:Nat)(t:LT)(c h:Int):Prop where
 row:M w p (X0 t c h) 205
 tree:aE w t
 nd:(p::t.ax).Nodup
theorem cU.keep {w Y:θ}{p:Nat}{t:LT}{c h:Int}(x:cU w p t c h)(I:∀k∈p::t.ax,Y.heap[k]?=w.heap[k]?):cU Y p t c h:=
 ⟨(I p (by simp)).trans x.row,x.tree.keep λk cj=>I k (by simp[cj]),x.nd⟩
theorem cU.aL {w Y:θ}{O:Nat->Prop}{p:Nat}{t:LT}{c h:Int}(x:cU w p t c h)(X:ak O w Y)(hn:∀k∈p::t.ax,¬O k):cU Y p t c h:=
 x.keep λk I=>X.block k ((List.mem_cons.1 I).elim (λe=>e▸x.row.lt) (x.tree.lt k)) (hn k I)
def dF (es:List aJ):List (Array Value):=es.map λe=>#[di e]
theorem qN (es:List aJ):(dF es).length=es.length:=by unfold dF;simp
theorem yq {es:List aJ}{i:Nat}{e:aJ}(h:es[i]?=some e):(dF es)[i]?=some #[di e]:=by unfold dF;rw[ύ,h];rfl
theorem Fp (p:Nat)(f t:Int)(w:θ):
 τ prog 171 #[ε (some ⟨p,0,none⟩),V Z f,V Z t] w λe Y=>
  e=δ (.func (.func 225) #[] #[ε (some ⟨w.heap.size,0,none⟩),ε (some ⟨w.heap.size+1,0,none⟩),ε (some ⟨w.heap.size+2,0,none⟩)])/\
  Below w.heap.size w Y/\M Y w.heap.size [ε (some ⟨p,0,none⟩)] 137/\M Y (w.heap.size+1) [V Z f] 3/\M Y (w.heap.size+2) [V Z t] 3:=by
 go_enter func171,ntmps171;go_wp2_with fail;go_ret;have e1:∀o,(w.alloc o).heap.size=w.heap.size+1:=λo=>by simp
 have e2:∀o o',((w.alloc o).alloc o').heap.size=w.heap.size+2:=λo o'=>by simp
 refine⟨rfl,(((ψ _ _).alloc (μ _) _).alloc (by simp) _).alloc (by simp;omega) _,?_,?_,?_⟩
 ·exact((M.new w _ _).on ((ψ _ _).alloc (μ _) _)).on ((ψ _ _).alloc (μ _) _)
 ·have:=(M.new (w.alloc (η #[ε (some ⟨p,0,none⟩)] 137)) [V Z f] 3).on ((ψ _ _).alloc (μ _) (η #[V Z t] 3));rw[e1]at this;exact this
 have:=M.new ((w.alloc (η #[ε (some ⟨p,0,none⟩)] 137)).alloc (η #[V Z f] 3)) [V Z t] 3;rw[e2]at this;exact this
theorem G8 (b0 b1 b2 p:Nat)(T:LT)(c h f t:Int)(w:θ)(S:cU w p T c h)(hs:LT.eU T.aw)
 (r0:M w b0 [ε (some ⟨p,0,none⟩)] 137)(r1:M w b1 [V Z f] 3)(r2:M w b2 [V Z t] 3):
 kX prog 225 #[ε (some ⟨b0,0,none⟩),ε (some ⟨b1,0,none⟩),ε (some ⟨b2,0,none⟩)] (dF (dz f t T.aw)) (λk=>k=b0\/k=b1\/k=b2\/k∈p::T.ax) w:=by
 intro l W O atF Js Jp bp hR hO cJ hY;have hW:=S.keep λk I=>hR k (.inr (.inr (.inr I)));have q0:=r0.keep (hR b0 (.inl rfl));have q1:=r1.keep (hR b1 (.inr (.inl rfl)));have q2:=r2.keep (hR b2 (.inr (.inr (.inl rfl))));have HC:=H λn=>aiw l W O atF Js Jp (dF (dz f t T.aw)) f t hY T 0 (W.drewN n) O (fP _ _ _) (λ_ h=>.inl h) (λ_ h=>h) (cJ.on λ_ _=>rfl) (hW.tree.keep λ_ _=>rfl) (λk I=>⟨hW.tree.lt k I,λho=>hO k ho (.inr (.inr (.inr (by simp[I]))))⟩) hs (λj x hj=>by rw[Ω];exact yq hj);have c0:=q0.cell (k:=0) rfl;have c1:=q1.cell (k:=0) rfl;have c2:=q2.cell (k:=0) rfl;have c3:=hW.row.cell (k:=0) rfl;clear hW q0 q1 q2 hY hO hR S r0 r1 r2 hs;rw[qN];refine callsIn_of_wp func225 rfl trivial ?_ rfl;simp only[ntmps225,Κ,ω,Η,Ο,Ξ,Ζ,Ε,Λ,Θ,Β,π];refine Ou 7 (by simp only[List.take_succ_cons,List.take_zero];rfl) (by simp only[List.drop_succ_cons,List.drop_zero];rfl) (by kernel_rfl) (by kernel_rfl) (by kernel_rfl) (by kernel_rfl) rfl (by kernel_rfl) (by kernel_rfl) ?_
 iterate 7 (gi_big_quiet_step (fail))
 refine wpQuietIn_nil ?_;intro _ dD;obtain⟨nq,rfl⟩:=dD;gi_wp2_with fail;refine⟨trivial,rfl,(HC.out nq).mono ?_⟩;rw[Ω];have X:ak O W (W.drewN nq):=fP _ _ _;clear HC c0 c1 c2 c3;rintro E W1 (⟨rfl,J⟩|⟨rfl,J⟩|⟨q,rfl,J⟩)
 ·have HP:=H (J.after X (λ_ h=>.inl h) (λ_ h=>h));clear J X;gi_wp2_with fail;go_end0;exact .inl ⟨⟨_,rfl⟩,.inl HP.out⟩
 ·have HP:=H (J.after X (λ_ h=>.inl h) (λ_ h=>h));clear J X;gi_wp2_with fail;go_end0;exact .inl ⟨⟨_,rfl⟩,.inr HP.out⟩
 have HP:=H (J.after X (λ_ h=>.inl h) (λ_ h=>h));clear J X;gi_wp2_with fail;exact⟨rfl,.inr ⟨q,rfl,HP.out⟩⟩
end Go.Proofs.YthpndgcaoeokeaaGreatDoor
