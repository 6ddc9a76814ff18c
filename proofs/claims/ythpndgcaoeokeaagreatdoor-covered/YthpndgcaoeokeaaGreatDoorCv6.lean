import Derived.Test.YthpndgcaoeokeaaGreatDoorCv5
import Derived.WideKeyEntry
import Derived.DeepKeys4
import Derived.Maps.Views
import Derived.Shelf.RegionOpen
import Derived.OrdersIn
import Derived.RangeFuncCalls
import Derived.Lib.Builder
import Derived.Lib.AppendStr
import Derived.Lib.UnsafeStr
import Derived.Laws.Externs
set_option maxRecDepth 100000
set_option maxHeartbeats 8000000
open Go.IntKind renaming i64->Z
open Go.Value renaming int->V,pointer->ε,slice->ζ,string->η
open Go.Ending renaming returned->δ
open Go.Obj renaming cells->θ
open Go renaming World->ι,Operand->ψ,Oper->Ε,Act->Υ,TypeId->Ψ,Calls->Ω,Addr->Ϟ
open Go.RowKit.Below renaming refl->κ
open Nat renaming le_refl->μ,lt_of_lt_of_le->ν,reduceSub->Φ,reduceAdd->Χ,le_trans->ϊ,zero_le->ύ
open Go.Instr renaming loadAt->ξ,lookup->Μ,mapUpdate->Ϙ,fieldAt->Ϛ
open Go.Result renaming andThen->ο
open Int renaming tmod_eq_emod_of_nonneg->π
open Go.Region renaming wanted->ρ,binds->Ι
open List renaming getElem?_eq_getElem->τ,length_append->φ,size_toArray->ω,not_mem_nil->Α,mem_cons->Β,append_toArray->Ζ,push_toArray->Η,length_cons->Κ,cons_append->Λ,nil_append->Ν,length_nil->Ξ,mem_of_getElem?->Ο,mem_cons_of_mem->Ρ,getElem?_map->ώ,take_length->Ϗ,drop_length->ϗ,map_cons->ϛ,toArray->Ϝ
open Go.Lib renaming byteCells->υ
open Go.MapKept renaming run_getObj_map->χ,run_setObj_map->Θ
open Array renaming replicate_zero->Γ,replicate_succ->Δ,getElem?_eq_getElem->ϋ,length_toList->ό,replicate->ϙ,getD->ϝ
open Option.some renaming inj->Τ
namespace Go.Proofs.YthpndgcaoeokeaaGreatDoor
open Tryz
open Go.RowKit
section
theorem qO {o:Ε}{a:Υ}{w:ι}{x y:ψ}{atD atx:ByteArray}(ho:o.op=.binOp .add 9 x y 9)(X:a.eval x=η atD)(hy:a.eval y=η atx)(hs:atD.size+atx.size<=10000000):(execOp a.eval o).run prog w=.ok (.value (η (atD++atx))) w:=by
 obtain⟨_,_,_,_,_,_⟩:=o;simp only[]at ho;subst ho;unfold execOp;simp only[X,hy];have Bb:(atD.size:Int)+atx.size<=10000000:=by omega
 have hm:atD.size+atx.size<=maxLen:=by unfold maxLen;omega
 go_simp;omega
theorem aY {o:Ε}{a:Υ}{w:ι}{x:ψ}{T:Ψ}{p:Ϟ}{v:Value}(ho:o.op=.load T x)(X:a.eval x=ε (some p))(hr:(ξ T (ε (some p))).run prog w=.ok v w):(execOp a.eval o).run prog w=.ok (.value v) w:=by
 obtain⟨_,_,_,_,_,_⟩:=o;simp only[]at ho;subst ho;unfold execOp;simp only[X];exact bj hr
theorem Uv {p:Ϟ}{v:ByteArray}{w:ι}(h:w.cell? p=some (η v)):(ξ 9 (ε (some p))).run prog w=.ok (η v) w:=by
 go_simp
theorem dP {p:Ϟ}{z:Int}{w:ι}(h:w.cell? p=some (V Z z)):(ξ 3 (ε (some p))).run prog w=.ok (V Z z) w:=by
 go_simp
theorem cR {o:Ε}{a:Υ}{w:ι}{x:ψ}{T:Ψ}{k:Nat}{p q:Ϟ}(ho:o.op=.fieldAddr T x k)(X:a.eval x=ε (some p))(hr:(Ϛ T (ε (some p)) k).run prog w=.ok (ε (some q)) w):(execOp a.eval o).run prog w=.ok (.value (ε (some q))) w:=by
 obtain⟨_,_,_,_,_,_⟩:=o;simp only[]at ho;subst ho;unfold execOp;simp only[X];exact bj hr
theorem Qd {o:Ε}{a:Υ}{w:ι}{x:ψ}{v:Value}(ho:o.op=.assign x)(h:a.eval x=v):(execOp a.eval o).run prog w=.ok (.value v) w:=by
 obtain⟨_,_,_,_,_,_⟩:=o;simp only[]at ho;subst ho;unfold execOp;simp only[h];rfl
open Go.Sort
theorem WH (a:Υ)(h:a.tmps.size=46)(hd:a.defers=[]):∃f:Nat->Value,a=⟨Ϝ (f 0::f 1::f 2::f 3::f 4::f 5::f 6::f 7::f 8::f 9::f 10::f 11::f 12::f 13::f 14::f 15::f 16::f 17::f 18::f 19::f 20::f 21::f 22::f 23::f 24::f 25::f 26::f 27::f 28::f 29::f 30::f 31::f 32::f 33::f 34::f 35::f 36::f 37::f 38::f 39::f 40::f 41::f 42::f 43::f 44::f 45::[]),[]⟩/\∀k,a.eval (.tmp k)=f k:=gO 46 a h hd
def iX (s f last ct:Int):Int->List Int->List Int
 |_,[]=>[]
 |c,d::l=>if d*86400<s-s%86400 then iX s f last ct c l else if last<d*86400 then[]else(if f-s%86400<=d*86400 then[d]else[])++(if c+1=ct then[]else iX s f last ct (c+1) l)
def lG (r:aC)(s f last:Int):List Int:=iX s f last r.ct 0 (jf (aS r (s/86400)) s f last)
theorem Ny (pls:List Int)(len:Int):∀(i:Int) (l:List Int) (d:Int),d∈nT pls len i l->d∈l
 |_,[],d,h=>by simp[nT]at h
 |i,x::l,d,h=>by
  rw[nT,List.mem_append]at h;rcases h with h|h
  ·split at h
   ·simp at h;subst h;simp
   simp at h
  exact Ρ _ (Ny pls len (i+1) l d h)
theorem Nz {r:aC}{a:Int}{n:Nat}{d:Int}(h:d∈kR r a n):a<=d/\d<a+n:=by
 unfold kR dB at h;obtain⟨h,_⟩:=List.mem_filter.1 h;obtain⟨i,S,rfl⟩:=List.mem_map.1 h;have:=List.mem_range.1 S;omega
theorem OZ {r:aC}{a:Int}{n:Nat}{d:Int}(h:d∈du r a n):a<=d/\d<a+n:=by
 unfold du at h;split at h
 ·exact Nz h
 exact Nz (Ny _ _ _ _ _ h)
theorem WI (r:aC)(ho:eu r)(s last:Int)(s0:0<=s)(s1:s<=84010)(l1:last<=7258118400):∀(g:Nat) (k:Int),0<=k->k<=dG r->(sO r s last g k).length<=g*400/\∀d∈sO r s last g k,-400<=d/\d<=300000
 |0,k,_,_=>⟨by simp[sO],λd h=>by simp[sO]at h⟩
 |g+1,k,k0,k1=>by
  have U:=Wu r s k s0 s1 k0 k1;have Wl:=ho.F7;have QI:=ho.iv9;rw[sO];split
  ·exact⟨by simp,λd h=>by simp at h⟩
  have I:=U.2.2.2.2 (by omega);have ih:=WI r ho s last s0 s1 l1 g (k+r.iv) (by omega) (by omega);have N:=Dh r (aX r s k) (gS r s k);have hn:gS r s k<=400:=by unfold gS;omega
  have e:aX r s k+(gS r s k:Nat)=iW r s k:=by unfold gS;omega
  refine⟨by rw[φ];omega,λd hd=>?_⟩;rcases List.mem_append.1 hd with h|h
  ·have:=OZ h;omega
  exact ih.2 d h
theorem Gf (r:aC)(ho:eu r)(s f last:Int)(s0:0<=s)(s1:s<=7258118400)(f1:f<=7258118400)(l1:last<=7258118400):(jf r s f last).length<=80000000/\∀d∈jf r s f last,-400<=d/\d<=300000:=by
 have hf:=JU r ho s f s0 s1 f1;have:=WI r ho (s/86400) last (by omega) (by omega) l1 (dG r).toNat (fc r s f) hf.1 (by omega);have I:dG r<=200000:=by unfold dG;split<;>(try split)<;>(try split)<;>omega
 unfold jf;exact⟨by omega,this.2⟩
def QR (W:ι)(r:aC)(m md wk pl:Value)(tx:ByteArray)(s f last:Int)(i:Nat)(v:Value)(w:ι):Prop:=match i with
 |0=>v=bC r.fq r.iv r.ct r.un m md wk pl r.ws tx
 |1=>v=V Z s
 |2=>v=aW (s/86400)
 |3=>∃m' fX fY,v=bC (aS r (s/86400)).fq (aS r (s/86400)).iv (aS r (s/86400)).ct (aS r (s/86400)).un m' fX fY pl (aS r (s/86400)).ws tx/\eG w (aS r (s/86400)) m' fX fY pl/\∀k,LB m' fX fY pl k->LB m md wk pl k\/W.heap.size<=k
 |4=>v=V Z s
 |5=>v=V Z f
 |6=>v=V Z last
 |_=>∃m' fX fY b,v=.func (.func 340) #[] #[ε (some ⟨b+1,0,none⟩),ε (some ⟨b,0,none⟩),ε (some ⟨b+2,0,none⟩),ε (some ⟨b+3,0,none⟩)]/\W.heap.size<=b/\
  M w b (bX (aS r (s/86400)).fq (aS r (s/86400)).iv (aS r (s/86400)).ct (aS r (s/86400)).un m' fX fY pl (aS r (s/86400)).ws tx) 76/\M w (b+1) [V Z s] 3/\M w (b+2) [V Z f] 3/\M w (b+3) [V Z last] 3/\
  eG w (aS r (s/86400)) m' fX fY pl/\∀k,LB m' fX fY pl k->LB m md wk pl k\/W.heap.size<=k
theorem QR.grow {W:ι}{r:aC}{m md wk pl:Value}{tx:ByteArray}{s f last:Int}(i:Nat)(v:Value)(w Y:ι)(h:QR W r m md wk pl tx s f last i v w)(U:Below w.heap.size w Y):QR W r m md wk pl tx s f last i v Y:=by
 match i,h with
 |0,h|1,h|2,h|4,h|5,h|6,h=>exact h
 |3,h=>
  obtain⟨m',fX,fY,G,A,K⟩:=h;exact⟨m',fX,fY,G,A.on U,K⟩
 |n+7,h=>
  obtain⟨m',fX,fY,b,G,A,K,h4,h5,h6,h7,h8⟩:=h;exact⟨m',fX,fY,b,G,A,K.on U,h4.on U,h5.on U,h6.on U,h7.on U,h8⟩
theorem S4 {b:Nat}{fq iv ct un ws:Int}{m md wk pl:Value}{tx:ByteArray}{w:ι}(h:M w b (bX fq iv ct un m md wk pl ws tx) 76):(ξ 76 (ε (some ⟨b,0,none⟩))).run prog w=.ok (bC fq iv ct un m md wk pl ws tx) w:=by
 unfold bX at h;unfold bC;obtain⟨z0,z1,z2,z3,z4,z5,z6,z7,z8,z9⟩:=bZ h;go_simp
theorem ahq (w:ι)(cs:List Value)(t:Ψ)(x y z:Value)(t1 t2 t3:Ψ):
 let Y:=(((w.alloc (θ cs.toArray t)).alloc (θ #[x] t1)).alloc (θ #[y] t2)).alloc (θ #[z] t3)
 M Y w.heap.size cs t/\M Y (w.heap.size+1) [x] t1/\M Y (w.heap.size+2) [y] t2/\M Y (w.heap.size+3) [z] t3/\Below w.heap.size w Y:=by
 intro Y;have b1:=(κ w.heap.size w).alloc (μ _) (θ cs.toArray t);have q0:=M.new w cs t;have q1:=M.new (w.alloc (θ cs.toArray t)) [x] t1;have q2:=M.new ((w.alloc (θ cs.toArray t)).alloc (θ #[x] t1)) [y] t2;have q3:=M.new (((w.alloc (θ cs.toArray t)).alloc (θ #[x] t1)).alloc (θ #[y] t2)) [z] t3;have c1:=(κ _ (w.alloc (θ cs.toArray t))).alloc (μ _) (θ #[x] t1);have c2:=(κ _ ((w.alloc (θ cs.toArray t)).alloc (θ #[x] t1))).alloc (μ _) (θ #[y] t2);have c3:=(κ _ (((w.alloc (θ cs.toArray t)).alloc (θ #[x] t1)).alloc (θ #[y] t2))).alloc (μ _) (θ #[z] t3);simp only[World.size_alloc]at q1 q2 q3;refine⟨((q0.on c1).on c2).on c3,(q1.on c2).on c3,q2.on c3,q3,?_⟩;exact((b1.alloc (by simp) _).alloc (by simp;omega) _).alloc (by simp;omega) _
end
section
open Go.Sort
attribute [local go_sem] Oper.semAt_some
attribute [local go_sem] bG aV
attribute [local simp] bG aV
theorem RoundIn.inRound {F:Fence}{n:Nat}{P:Program}{l:Nat}{f:FuncId}{tmps:Array Value}{assign body:Code}{w:ι}{R:Ending->ι->Prop}(l':Nat)(h:RoundIn F n P l f tmps assign body w R):RoundIn (F.inRound l') n P l f tmps assign body w R:=h
structure me (O:aj)(W0:ι)(atD:aP)(D0 D:aj)(W:ι):Prop where
 sub:∀k,D0 k->D k
 dO:∀k,D0 k->O k\/W0.heap.size<=k
 Od:∀k,O k->D0 k
 on:On D0 atD W
theorem me.keep {O:aj}{W0:ι}{atD:aP}{D0 D:aj}{W W':ι}(h:me O W0 atD D0 D W)(I:∀k,D k->W'.heap[k]?=W.heap[k]?):me O W0 atD D0 D W':=⟨h.sub,h.dO,h.Od,h.on.on λk hd=>I k (h.sub k hd)⟩
theorem me.wide {O:aj}{W0:ι}{atD:aP}{D0 D D':aj}{W:ι}(h:me O W0 atD D0 D W)(hd:∀k,D k->D' k):me O W0 atD D0 D' W:=⟨λk I=>hd k (h.sub k I),h.dO,h.Od,h.on⟩
theorem me.below {O:aj}{W0:ι}{atD:aP}{D0 D:aj}{W W':ι}(h:me O W0 atD D0 D W)(U:Below W.heap.size W W'):me O W0 atD D0 D W':=⟨h.sub,h.dO,h.Od,h.on.below U⟩
theorem me.set {O:aj}{W0:ι}{atD:aP}{D0 D:aj}{W:ι}(h:me O W0 atD D0 D W){b o:Nat}(U:¬D0 b)(v:Value):me O W0 atD D0 D (W.setCell ⟨b,o,none⟩ v):=⟨h.sub,h.dO,h.Od,h.on.set U v⟩
theorem me.post {O:aj}{W0:ι}{atD X':aP}{D0 D:aj}{W W':ι}(h:me O W0 atD D0 D W)(hs:W0.heap.size<=W.heap.size)(J:aN D0 W.heap.size X' W W'):
 ∃nK,me O W0 X' nK (λk=>D k\/nK k) W'/\(∀k,nK k->D0 k\/W.heap.size<=k)/\ak D0 W W':=by
 obtain⟨X,nK,d1,d2,d3⟩:=J;exact⟨nK,⟨λk I=>.inr I,λk I=>(d1 k I).elim (h.dO k) (λhh=>.inr (ϊ hs hh)),λk I=>d2 k (h.Od k I),d3⟩,d1,X⟩
theorem me.put {O:aj}{W0:ι}{atD:aP}{D0 D:aj}{W:ι}(h:me O W0 atD D0 D W){b:Nat}(U:¬D b)(o:Obj):me O W0 atD D0 D (W.putObj b o):=⟨h.sub,h.dO,h.Od,h.on.put (λhd=>U (h.sub _ hd)) o⟩
theorem me.fin {O:aj}{W0:ι}{atD:aP}{D0 D:aj}{W:ι}(h:me O W0 atD D0 D W)(X:ak O W0 W):aN O W0.heap.size atD W0 W:=⟨X,D0,h.dO,h.Od,h.on⟩
def DJ (O:aj)(W0:ι)(b7:Nat)(atF:Nat->aP)(E:Nat->Nat->Int->Prop)(i:Nat):aP:=λD W=>
 D b7/\∃(c:Int) (q:Nat) (D0:aj),0<=c/\c<=i/\¬D0 b7/\me O W0 (atF q) D0 D W/\M W b7 [V Z c] 3/\E q i c
def DX (O:aj)(W0:ι)(atD:aP):aP:=λD W=>∃D0:aj,me O W0 atD D0 D W
theorem DJ.cL {O:aj}{W0:ι}{b7:Nat}{atF:Nat->aP}{E:Nat->Nat->Int->Prop}{i:Nat}{D:aj}{W:ι}(hD:∀k,D k->k<W.heap.size)(h:DJ O W0 b7 atF E i D W):On D (DJ O W0 b7 atF E i) W:=by
 obtain⟨G,c,q,D0,A,K,h4,h5,h6,h7⟩:=h;exact⟨hD,λW2 I=>⟨G,c,q,D0,A,K,h4,h5.keep I,h6.keep (I _ G),h7⟩⟩
theorem DX.cL {O:aj}{W0:ι}{atD:aP}{D:aj}{W:ι}(hD:∀k,D k->k<W.heap.size)(h:DX O W0 atD D W):On D (DX O W0 atD) W:=by
 obtain⟨D0,K⟩:=h;exact⟨hD,λW2 I=>⟨D0,K.keep I⟩⟩
def qx (O:aj)(W0:ι)(atD atx:aP)(c:Code):aP:=λD W=>c=.ret/\(DX O W0 atD D W\/DX O W0 atx D W)
theorem qx.onX {O:aj}{W0:ι}{atD atx:aP}{D:aj}{W:ι}(h:On D (DX O W0 atD) W):On D (qx O W0 atD atx .ret) W:=⟨h.1,λW2 I=>⟨rfl,.inl (h.2 W2 I)⟩⟩
theorem qx.TQ {O:aj}{W0:ι}{atD atx:aP}{D:aj}{W:ι}(h:On D (DX O W0 atx) W):On D (qx O W0 atD atx .ret) W:=⟨h.1,λW2 I=>⟨rfl,.inr (h.2 W2 I)⟩⟩
theorem drop_one {l:List Int}{i:Nat}{d:Int}(h:l[i]?=some d):l.drop i=d::l.drop (i+1):=by
 obtain⟨I,he⟩:=List.getElem?_eq_some_iff.1 h;rw[List.drop_eq_getElem_cons I,he]
theorem nh {l:List Int}{q:Nat}(h:l.drop q=[])(hq:q<=l.length):q=l.length:=by
 have:=congrArg List.length h;simp at this;omega
theorem po {l r:List Int}{q:Nat}{d:Int}(h:l.drop q=d::r):l[q]?=some d/\l.drop (q+1)=r/\q+1<=l.length:=by
 have G:(l.drop q)[0]?=some d:=by rw[h];rfl
 rw[List.getElem?_drop]at G;have A:=(List.getElem?_eq_some_iff.1 G).1;refine⟨G,?_,by omega⟩;have:=drop_one G;simp only[Nat.add_zero]at this;rw[h]at this;injection this with _ K
 exact K.symm
def nU (l br bs bf bl bc b6 b7:Nat):List (Nat×Value):=[(0,.func (.yield l) #[] #[]),(1,ε (some ⟨br,0,none⟩)),(2,ε (some ⟨bs,0,none⟩)),(3,ε (some ⟨bf,0,none⟩)),(4,ε (some ⟨bl,0,none⟩)),(5,ε (some ⟨bc,0,none⟩)),(6,ε (some ⟨b6,0,none⟩)),(7,ε (some ⟨b7,0,none⟩))]
theorem ahs (l br bs bf bl bc b6 b7:Nat)(W:ι)(r:aC)(m md wk pl:Value)(tx:ByteArray)(s f last:Int):rO (λi=>10+i) (nU l br bs bf bl bc b6 b7) 46 8 (QR W r m md wk pl tx s f last):=
 ⟨λi S=>by show 10+i<46;omega,λi j S hj h=>by have h':10+i=10+j:=h;omega,λp J i S=>by
  simp only[nU,Β,Α,or_false]at J;show p.1≠10+i;rcases J with rfl|rfl|rfl|rfl|rfl|rfl|rfl|rfl<;>simp<;>omega,QR.grow⟩
theorem adP (r:aC)(m md wk pl:Value)(tx:ByteArray)(s f last:Int)(br bs bf bl bc:Nat)(w:ι)(N:eG w r m md wk pl)(ho:eu r)(s0:0<=s)(s1:s<=7258118400)(f0:-1000000000000<=f)(f1:f<=7258118400)
 (l0:-1000000000000<=last)(l1:last<=7258118400)(q1:M w br (bX r.fq r.iv r.ct r.un m md wk pl r.ws tx) 76)(q2:M w bs [V Z s] 3)(q3:M w bf [V Z f] 3)(q4:M w bl [V Z last] 3)(q5:M w bc [V Z (s%86400)] 3):
 kX prog 313 #[ε (some ⟨br,0,none⟩),ε (some ⟨bs,0,none⟩),ε (some ⟨bf,0,none⟩),ε (some ⟨bl,0,none⟩),ε (some ⟨bc,0,none⟩)] (vk (lG r s f last)) (λk=>k=br\/k=bs\/k=bf\/k=bl\/k=bc\/LB m md wk pl k) w:=by
 intro l W O atF Js Jp bp hR hO cJ hY;have eI:=N.keep λk I=>hR k (.inr (.inr (.inr (.inr (.inr I)))));replace q1:=q1.keep (hR br (.inl rfl));replace q2:=q2.keep (hR bs (.inr (.inl rfl)));replace q3:=q3.keep (hR bf (.inr (.inr (.inl rfl))));replace q4:=q4.keep (hR bl (.inr (.inr (.inr (.inl rfl)))));replace q5:=q5.keep (hR bc (.inr (.inr (.inr (.inr (.inl rfl))))));have J1:¬O br:=λh=>hO br h (.inl rfl);have Je:¬O bs:=λh=>hO bs h (.inr (.inl rfl));have UC:¬O bf:=λh=>hO bf h (.inr (.inr (.inl rfl)));have Pk:¬O bl:=λh=>hO bl h (.inr (.inr (.inr (.inl rfl))));have nO5:¬O bc:=λh=>hO bc h (.inr (.inr (.inr (.inr (.inl rfl)))));have nOL:∀k,O k->¬LB m md wk pl k:=λk h h'=>hO k h (.inr (.inr (.inr (.inr (.inr h')))));have ZV:=JW ho (s/86400);have Wz:Hid (∀wr,Ω prog 66 #[V Z s] wr λe Y=>e=δ (aW (s/86400))/\Below wr.heap.size wr Y):=H λwr=>qX s wr s0 s1;have hSW:Hid (∀wr,Below W.heap.size W wr->Ω prog 314 #[bC r.fq r.iv r.ct r.un m md wk pl r.ws tx,aW (s/86400)] wr (JY wr r (s/86400) tx m md wk pl)):=
  H λwr U=>Ie r m md wk pl tx (s/86400) wr (eI.on U) ho (by omega) (by omega)
 have hdb:=H (Gf (aS r (s/86400)) ZV s f last s0 s1 f1 l1);have hct:(aS r (s/86400)).ct=r.ct:=by unfold aS;split;rfl;split;rfl;split;rfl;split;split<;>rfl;rfl
 have aru:=ho.QL;have arv:=ho.ct9;have QS:Hid (lG r s f last=iX s f last r.ct 0 (jf (aS r (s/86400)) s f last)):=H rfl;have hlf:∀k,LB m md wk pl k->k<W.heap.size:=λk I=>eI.fW I;obtain⟨a1,e1⟩:=eI.ms.form;obtain⟨a2,e2⟩:=eI.mds.form;obtain⟨a3,e3⟩:=eI.wks.form;obtain⟨a4,e4⟩:=eI.pls.form;clear hR hO N ho bp;have uy:=H (λ(i:Nat) (d:Int) (h:(lG r s f last)[i]?=some d)=>hY i _ (qZ h));clear hY;rw[lF];generalize lG r s f last=YS at *
 refine dr func313 rfl ?_;simp only[ntmps313,ω,Κ,Ξ,Χ,Φ,Δ,Γ,Η,Ζ,Ν,Λ];refine bK λatH hK=>bQ ?_;gi_wp2_with fail;refine bK λatH hK=>bQ ?_;gi_wp2_with fail;have r6:=kK W [.func (.yield l) #[] #[]] 331 (θ #[V Z 0] 3);have r7:=kM W [V Z 0] 3 (θ #[.func (.yield l) #[] #[]] 331);have al:=mP W (θ #[.func (.yield l) #[] #[]] 331) (θ #[V Z 0] 3);have bp:((W.alloc (θ #[.func (.yield l) #[] #[]] 331)).alloc (θ #[V Z 0] 3)).heap.size=W.heap.size+2:=by simp
 refine bK λK1 eM=>bQ (wpIn_wide.2 ?_);generalize(W.alloc (θ #[.func (.yield l) #[] #[]] 331)).alloc (θ #[V Z 0] 3)=W2 at *
 have atI:=ahs l br bs bf bl bc W.heap.size (W.heap.size+1) W2 r m md wk pl tx s f last;have q1':=H λY (h:Below W2.heap.size W2 Y)=>S4 ((q1.on al).on h);have q2':=H λY (h:Below W2.heap.size W2 Y)=>dP (((q2.on al).on h).cell (k:=0) rfl);have q3':=H λY (h:Below W2.heap.size W2 Y)=>dP (((q3.on al).on h).cell (k:=0) rfl);have zo:=H λY (h:Below W2.heap.size W2 Y)=>dP (((q4.on al).on h).cell (k:=0) rfl);refine ir (GV (λi=>10+i) (QR W2 r m md wk pl tx s f last)) (JV 46 (nU l br bs bf bl bc W.heap.size (W.heap.size+1)) W2) (by kernel_rfl) (by kernel_rfl) (by kernel_rfl) ?rops ?rdone ⟨rfl,rfl,λp J=>by
  simp only[nU,Β,Α,or_false]at J;rcases J with rfl|rfl|rfl|rfl|rfl|rfl|rfl|rfl<;>rfl,(κ _ _).drew⟩
 case rops=>
  intro i o ho a Y hI hG;have S:i<8:=(Array.getElem?_eq_some_iff.1 ho).1;have s1:a.eval (.tmp 1)=ε (some ⟨br,0,none⟩):=hI.fixed (1,_) (by simp[nU]);have s2:a.eval (.tmp 2)=ε (some ⟨bs,0,none⟩):=hI.fixed (2,_) (by simp[nU]);have s3:a.eval (.tmp 3)=ε (some ⟨bf,0,none⟩):=hI.fixed (3,_) (by simp[nU]);have s4:a.eval (.tmp 4)=ε (some ⟨bl,0,none⟩):=hI.fixed (4,_) (by simp[nU]);have eQ:i=0\/i=1\/i=2\/i=3\/i=4\/i=5\/i=6\/i=7:=by omega
  rcases eQ with rfl|rfl|rfl|rfl|rfl|rfl|rfl|rfl<;>obtain rfl:=Τ ho
  ·exact ai (v:=bC r.fq r.iv r.ct r.un m md wk pl r.ws tx) (aY rfl s1 (q1'.out _ hI.below)) (aZ atI hI)
  ·exact ai (v:=V Z s) (aY rfl s2 (q2'.out _ hI.below)) (aZ atI hI)
  ·have e:a.eval (.tmp 11)=V Z s:=aF hG 1;exact uF (f:=66) (args:=#[a.eval (.tmp 11)]) (by kernel_rfl) (by rw[e];exact Wz.out Y) (λaz U=>mz atI rfl (by decide) hI U rfl)
  ·have e1:a.eval (.tmp 10)=bC r.fq r.iv r.ct r.un m md wk pl r.ws tx:=aF hG 0;have e2:a.eval (.tmp 12)=aW (s/86400):=aF hG 2;refine cM (f:=314) (args:=#[a.eval (.tmp 10),a.eval (.tmp 12)]) (by kernel_rfl) (by rw[e1,e2];exact hSW.out Y (al.trans (hI.below.mono al.size))) ?_ (by rintro c az ⟨_,_,_,e,_⟩;cases e) (by rintro az ⟨_,_,_,e,_⟩;cases e);rintro v az ⟨m',fX,fY,e,A,K,h4⟩;cases e;exact mz atI rfl (by decide) hI K ⟨m',fX,fY,rfl,A,λk I=>(h4 k I).imp id λh=>ϊ hI.below.size h⟩
  ·exact ai (v:=V Z s) (aY rfl s2 (q2'.out _ hI.below)) (aZ atI hI)
  ·exact ai (v:=V Z f) (aY rfl s3 (q3'.out _ hI.below)) (aZ atI hI)
  ·exact ai (v:=V Z last) (aY rfl s4 (zo.out _ hI.below)) (aZ atI hI)
  obtain⟨m',fX,fY,e3,A,h4⟩:∃m' fX fY,a.eval (.tmp 13)=bC (aS r (s/86400)).fq (aS r (s/86400)).iv (aS r (s/86400)).ct (aS r (s/86400)).un m' fX fY pl (aS r (s/86400)).ws tx/\eG Y (aS r (s/86400)) m' fX fY pl/\∀k,LB m' fX fY pl k->LB m md wk pl k\/W2.heap.size<=k:=aF hG 3;have e4:a.eval (.tmp 14)=V Z s:=aF hG 4;have e5:a.eval (.tmp 15)=V Z f:=aF hG 5;have e6:a.eval (.tmp 16)=V Z last:=aF hG 6;refine cM (f:=315) (args:=#[a.eval (.tmp 13),a.eval (.tmp 14),a.eval (.tmp 15),a.eval (.tmp 16)]) (by kernel_rfl) (by
   rw[e3,e4,e5,e6];exact ZU _ _ _ _ _ m' fX fY pl tx s f last Y (by obtain⟨x,e⟩:=A.ms.form;exact⟨_,_,_,e⟩) (by obtain⟨x,e⟩:=A.mds.form;exact⟨_,_,_,e⟩) (by obtain⟨x,e⟩:=A.wks.form;exact⟨_,_,_,e⟩) (by obtain⟨x,e⟩:=A.pls.form;exact⟨_,_,_,e⟩)) ?_ (by rintro c az ⟨e,_⟩;cases e) (by rintro az ⟨e,_⟩;cases e)
  rintro v az ⟨e,rfl⟩;cases e;obtain⟨x0,x1,x2,x3,xb⟩:=ahq Y (bX (aS r (s/86400)).fq (aS r (s/86400)).iv (aS r (s/86400)).ct (aS r (s/86400)).un m' fX fY pl (aS r (s/86400)).ws tx) 76 (V Z s) (V Z f) (V Z last) 3 3 3;exact mz atI rfl (by decide) hI xb ⟨m',fX,fY,Y.heap.size,rfl,hI.below.size,x0,x1,x2,x3,A.on xb,h4⟩
 case rdone=>
  intro a w3 hI hG;obtain⟨m',fX,fY,b,qA,U,x0,x1,x2,x3,vJ,hLB⟩:∃m' fX fY b,a.eval (.tmp 17)=.func (.func 340) #[] #[ε (some ⟨b+1,0,none⟩),ε (some ⟨b,0,none⟩),ε (some ⟨b+2,0,none⟩),ε (some ⟨b+3,0,none⟩)]/\W2.heap.size<=b/\
   M w3 b (bX (aS r (s/86400)).fq (aS r (s/86400)).iv (aS r (s/86400)).ct (aS r (s/86400)).un m' fX fY pl (aS r (s/86400)).ws tx) 76/\M w3 (b+1) [V Z s] 3/\M w3 (b+2) [V Z f] 3/\M w3 (b+3) [V Z last] 3/\
   eG w3 (aS r (s/86400)) m' fX fY pl/\∀k,LB m' fX fY pl k->LB m md wk pl k\/W2.heap.size<=k:=hG 7 (by decide)
  have s0':a.eval (.tmp 0)=.func (.yield l) #[] #[]:=hI.fixed (0,_) (by simp[nU]);have s1':a.eval (.tmp 1)=ε (some ⟨br,0,none⟩):=hI.fixed (1,_) (by simp[nU]);have s2':a.eval (.tmp 2)=ε (some ⟨bs,0,none⟩):=hI.fixed (2,_) (by simp[nU]);have s3':a.eval (.tmp 3)=ε (some ⟨bf,0,none⟩):=hI.fixed (3,_) (by simp[nU]);have s4':a.eval (.tmp 4)=ε (some ⟨bl,0,none⟩):=hI.fixed (4,_) (by simp[nU]);have s5':a.eval (.tmp 5)=ε (some ⟨bc,0,none⟩):=hI.fixed (5,_) (by simp[nU]);have s6':a.eval (.tmp 6)=ε (some ⟨W.heap.size,0,none⟩):=hI.fixed (6,_) (by simp[nU]);have s7':a.eval (.tmp 7)=ε (some ⟨W.heap.size+1,0,none⟩):=hI.fixed (7,_) (by simp[nU]);have aR:=hI.below;have gh:=hI.size;have gC:=hI.defers;clear hI hG atI q1' q2' q3' zo hSW Wz;refine eM a w3 ?_;clear eM;obtain⟨fr,rfl,hf⟩:=WH a gh gC;have g0:=(hf 0).symm.trans s0';have g1:=(hf 1).symm.trans s1';have g2:=(hf 2).symm.trans s2';have g3:=(hf 3).symm.trans s3';have g4:=(hf 4).symm.trans s4';have g5:=(hf 5).symm.trans s5';have g6:=(hf 6).symm.trans s6';have g7:=(hf 7).symm.trans s7';have g17:=(hf 17).symm.trans qA;rw[g0,g1,g2,g3,g4,g5,g6,g7,g17];clear hf gh gC s0' s1' s2' s3' s4' s5' s6' s7' qA g0 g1 g2 g3 g4 g5 g6 g7 g17;have hit:=Wy (aS r (s/86400)) m' fX fY pl tx s f last (b+1) b (b+2) (b+3) w3 vJ ZV s0 s1 f0 f1 l0 l1 x1 x0 x2 x3;have iS:=al.trans (aR.mono al.size);have su:W.heap.size+2<=w3.heap.size:=by have:=aR.size;omega
  replace r6:=r6.on aR;replace r7:=r7.on aR;have ank:∀k,(k=b+1\/k=b\/k=b+2\/k=b+3\/LB m' fX fY pl k)->k<w3.heap.size:=λk I=>by
   rcases I with rfl|rfl|rfl|rfl|h
   ·exact x1.lt
   ·exact x0.lt
   ·exact x2.lt
   ·exact x3.lt
   exact vJ.fW h
  have hOR:∀k,(O k\/k=W.heap.size+1)->¬(k=b+1\/k=b\/k=b+2\/k=b+3\/LB m' fX fY pl k):=λk I cj=>by
   have fG:k<W2.heap.size:=I.elim (λh=>by have:=cJ.1 k h;omega) (λh=>by omega);rcases cj with h|h|h|h|h
   ·omega
   ·omega
   ·omega
   ·omega
   rcases hLB k h with h'|h'
   ·rcases I with I|I
    ·exact nOL k I h'
    have:=hlf k h';omega
   omega
  clear x0 x1 x2 x3 vJ hLB U e1 e2 e3 e4 ZV;obtain⟨P7,hdm⟩:=hdb.out;generalize jf (aS r (s/86400)) s f last=XS at *
  clear hct hdb;generalize r.ct=ct at *
  refine gB ?_;have eg:∀args w,(callFunc 340 args).run prog w=.ok (.enter 340 args) w:=enters_of func340 (by kernel_rfl) rfl;refine lz (gf:=340) (lb:=#[ε (some ⟨b+1,0,none⟩),ε (some ⟨b,0,none⟩),ε (some ⟨b+2,0,none⟩),ε (some ⟨b+3,0,none⟩)]) func313 ?g eg hit (μ _) (λ_ _=>rfl) ank
   (λk=>O k\/k=W.heap.size+1) hOR (DJ O W (W.heap.size+1) atF λq i c=>q<=YS.length/\YS.drop q=iX s f last ct c (XS.drop i)) (qx O W (atF YS.length) Js) (λc=>DX O W (Jp c)) ?ps ?start ?round ?done ?stop ?pan
  case g=>rfl
  case ps=>intro x X;obtain⟨d,_,rfl⟩:=List.mem_map.1 X;rfl
  case start=>exact DJ.cL (λk I=>I.elim (λh=>by have:=cJ.1 k h;omega) (λh=>by omega)) ⟨.inr rfl,0,0,O,Int.le_refl _,by simp,λh=>by have:=cJ.1 _ h;omega,⟨λk I=>.inl I,λk I=>.inl I,λk I=>I,cJ.below iS⟩,r7,ύ _,by simpa using QS.out⟩
  case stop=>
   rintro c W4 ⟨X,D,cD,_,aG⟩ hs bI;have ef:ak O W (W4.putObj w3.heap.size (.deferred none)):=((ak.ar iS).trans X (λk I=>I.imp id λh=>by omega)).put (.inr (by omega)) _;have cK:¬D w3.heap.size:=λh=>(cD _ h).elim (λh=>h.elim (λh=>by have:=cJ.1 _ h;omega) (by omega)) (by omega);obtain⟨rfl,h⟩:=aG.out;have eY:=H (show aN O W.heap.size (atF YS.length) W (W4.putObj w3.heap.size (.deferred none))\/aN O W.heap.size Js W (W4.putObj w3.heap.size (.deferred none))from by
    rcases h with⟨D0,h⟩|⟨D0,h⟩
    ·exact .inl ((h.put cK _).fin ef)
    exact .inr ((h.put cK _).fin ef))
   clear h aG cD;gi_wp2_with fail;refine⟨by simp,.inl ⟨_,_,rfl,run_takeDeferred bI,?_⟩⟩;exact⟨_,results_none rfl _ _ _,.inl ⟨⟨_,rfl⟩,eY.out⟩⟩
  case pan=>
   rintro c W4 ⟨X,D,cD,_,aG⟩ hs bI;have ef:ak O W (W4.putObj w3.heap.size (.deferred none)):=((ak.ar iS).trans X (λk I=>I.imp id λh=>by omega)).put (.inr (by omega)) _;have cK:¬D w3.heap.size:=λh=>(cD _ h).elim (λh=>h.elim (λh=>by have:=cJ.1 _ h;omega) (by omega)) (by omega);obtain⟨D0,h⟩:=aG.out;refine⟨by simp,.inl ⟨_,_,rfl,run_takeDeferred bI,?_⟩⟩;exact .inr ⟨c,rfl,(h.put cK _).fin ef⟩
  case done=>
   rw[lF];rintro W4 ⟨X,D,cD,_,aG⟩ hs bI;have ef:ak O W (W4.putObj w3.heap.size (.deferred none)):=((ak.ar iS).trans X (λk I=>I.imp id λh=>by omega)).put (.inr (by omega)) _;have cK:¬D w3.heap.size:=λh=>(cD _ h).elim (λh=>h.elim (λh=>by have:=cJ.1 _ h;omega) (by omega)) (by omega);obtain⟨_,c,q,D0,_,_,_,bq,_,hq,lh⟩:=aG.out;have p9:q=YS.length:=nh (by rw[lh,ϗ];rfl) hq;refine⟨by simp,.inl ⟨_,_,rfl,run_takeDeferred bI,?_⟩⟩;exact⟨_,results_none rfl _ _ _,.inl ⟨⟨_,rfl⟩,.inl (by rw[<-p9];exact(bq.put cK _).fin ef)⟩⟩
  case round=>
   intro Ct i x X W4 D zq hs dV aG atH hK;obtain⟨d,hd⟩:∃d,XS[i]?=some d:=⟨_,τ (by have:=(List.getElem?_eq_some_iff.1 X).1;rwa [lF]at this)⟩;rw[qZ hd]at X;cases X;have Ge:=hdm d (Ο hd);have jl:=(List.getElem?_eq_some_iff.1 hd).1;have we:=H (drop_one hd);clear hd hdm;unfold aW cS;gi_wp2_with fail;have ph:Below W4.heap.size W4 (W4.alloc (θ #[V Z (ag.aq d),V Z (ag.ofM d),V Z (ag.aA d)] 106)):=(κ _ _).alloc (μ _) _;refine hK _ _ (λk=>D k\/k=W4.heap.size) ph (λk I=>I.imp id λh=>by omega) (λk I=>.inl I) (λk I=>I.elim (λh=>by have:=aG.1 k h;simp;omega) (λh=>by simp;omega)) ?_;intro l' W5 fG bL oZ;have q8:=(M.new W4 [V Z (ag.aq d),V Z (ag.ofM d),V Z (ag.aA d)] 106).keep (fG _ (.inr rfl));have ea:=aG.on (W':=W5) λk I=>(fG k (.inl I)).trans (ph.block k (aG.1 k I));have mN:ak O W W5:=(ak.ar iS).trans bL (λk I=>I.imp id λh=>by omega);have q6:=r6.aL bL (show¬(O W.heap.size\/W.heap.size=W.heap.size+1)from λh=>h.elim (λh=>by have:=cJ.1 _ h;omega) (by omega));have dN:∀k,D k\/k=W4.heap.size->k<W5.heap.size:=λk I=>I.elim (ea.1 k) (λh=>by have:=q8.lt;omega);have hW4:¬D W4.heap.size:=λh=>by have:=aG.1 _ h;omega
   have xh:W.heap.size<=W5.heap.size:=by omega
   clear hK ph fG hit aG al aR r7;obtain⟨ka,c,q,D0,hc0,hci,h7,bq,q7,hq,lh⟩:=ea.out;clear ea;have h8:¬D0 W4.heap.size:=λh=>hW4 (bq.sub _ h);replace bq:=bq.wide (D':=λk=>D k\/k=W4.heap.size) λk I=>.inl I;obtain⟨c0,c1,c2,_,_,_⟩:=bW q8;gi_wp2_with fail;refine(CallsIn.inRound l' (callsIn_wide.2 (H0 d W5 (by omega) (by omega)))).mono ?_;rintro e W6 ⟨rfl,cG⟩;clear c0 c1 c2;have Ig:ak O W W6:=mN.aM (ak.ar cG);have y1:=q1.aL Ig J1;have y2:=q2.aL Ig Je;have y3:=q3.aL Ig UC;have y4:=q4.aL Ig Pk;have y5:=q5.aL Ig nO5;have y6:=q6.on cG;have y7:=q7.on cG;have y8:=q8.on cG;replace bq:=bq.below cG;have uq:=cG.size;have ET:∀k,D k\/k=W4.heap.size->k<W6.heap.size:=λk I=>ν (dN k I) uq;have Ih:ak (λk=>D k\/k=W4.heap.size) W5 W6:=ak.ar cG;have n17:br≠W.heap.size+1:=λe=>by have:=q1.lt;omega
   unfold bX at y1;have g2:=y2.cell (k:=0) rfl;have g3:=y3.cell (k:=0) rfl;have g4:=y4.cell (k:=0) rfl;have g5:=y5.cell (k:=0) rfl;have g6:=y6.cell (k:=0) rfl;obtain⟨c0,c1,c2,_,_,_⟩:=bW y8;have fE:Hid (YS.drop q=if d*86400<s-s%86400 then iX s f last ct c (XS.drop (i+1))else if last<d*86400 then[]else(if f-s%86400<=d*86400 then[d]else[])++(if c+1=ct then[]else iX s f last ct (c+1) (XS.drop (i+1)))):=H (by rw[lh,we.out,iX]);clear lh we cG q6 q7 q8 y2 y3 y4 y5 y6 y8 mN dN;have anl:0<=s%86400/\s%86400<86400:=by omega
   generalize hM:s%86400=atG at *
   clear hM;have hB:-40000000<=d*86400/\d*86400<=30000000000:=by omega
   by_cases hA:d*86400<s-atG
   case pos=>
    have WJ:=H (show YS.drop q=iX s f last ct c (XS.drop (i+1))from by rw[fE.out,if_pos hA]);clear fE;gi_wp2_with fail;exact⟨Ih,λk=>D k\/k=W4.heap.size,λk I=>.inl I,λk I=>I,DJ.cL ET ⟨.inl ka,c,q,D0,hc0,by omega,h7,bq,y7,hq,WJ.out⟩⟩
   case neg=>
    by_cases hLa:last<d*86400
    case pos=>
     have p9:Hid (q=YS.length):=H (nh (by rw[fE.out,if_neg hA,if_pos hLa]) hq);clear fE;gi_wp2_with fail;refine⟨Ih,λk=>D k\/k=W4.heap.size,λk I=>.inl I,λk I=>I,qx.onX (DX.cL ET ⟨D0,?_⟩)⟩;rw[<-p9.out];exact bq
    case neg=>
     by_cases hF:f-atG<=d*86400
     case pos=>
      have iK:=H (show YS.drop q=d::(if c+1=ct then[]else iX s f last ct (c+1) (XS.drop (i+1)))from by rw[fE.out,if_neg hA,if_neg hLa,if_pos hF];rfl);clear fE;obtain⟨qs,lZ,zK⟩:=po iK.out;replace lZ:=H lZ;obtain⟨EW,uz,EX,EY,gI,eE⟩:=uy.out q d qs W6 D0 Ig bq.dO bq.Od bq.on;unfold aW cS at gI;clear qs iK;gi_wp2_with fail;refine(RoundIn.inRound l' eE).mono ?_;clear gI eE g2 g3 g4 g5 g6 c0 c1 c2;rintro e WX (⟨rfl,J⟩|⟨rfl,J⟩|⟨ch,rfl,J⟩)
      case inl=>
       obtain⟨eV,eh,mO,jj⟩:=bq.post (by omega) J;have eP:ak (λk=>D k\/k=W4.heap.size) W5 WX:=Ih.trans jj (λk I=>.inl (bq.sub k I));have z7:=y7.aL jj h7;have z1:=y1.aL jj (λh=>(bq.dO _ h).elim J1 (by have:=q1.lt;omega));have WK:¬eV (W.heap.size+1):=λh=>(mO _ h).elim h7 (by omega);have Gg:∀k,(D k\/k=W4.heap.size)\/eV k->(D k\/k=W4.heap.size)\/W5.heap.size<=k:=λk I=>I.elim .inl λh=>(mO k h).elim (λh=>.inl (bq.sub k h)) (λh=>.inr (by omega));have WL:∀k,D k\/k=W4.heap.size->(D k\/k=W4.heap.size)\/eV k:=λk I=>.inl I;have sy:∀k,(D k\/k=W4.heap.size)\/eV k->k<WX.heap.size:=λk I=>I.elim (λh=>ν (ET k h) jj.size) (λh=>eh.on.1 k h);have hbX:(D (W.heap.size+1)\/W.heap.size+1=W4.heap.size)\/eV (W.heap.size+1):=.inl (.inl ka);have Gh:=lZ;have WM:=zK;clear J jj mO lZ zK bq y7 y1;have g7:=z7.cell (k:=0) rfl;have f7:=z7.free (k:=0);have WN:M (WX.setCell ⟨W.heap.size+1,0,none⟩ (V Z (c+1))) (W.heap.size+1) [V Z (c+1)] 3:=z7.set (k:=0) (V Z (c+1));have z1n:=z1.other (b:=W.heap.size+1) (k:=0) n17 (V Z (c+1));have g7n:=WN.cell (k:=0) rfl;have g1n:=z1n.cell (k:=2) rfl;have NA:=eh.set (o:=0) WK (V Z (c+1));have NF:=H (eP.setCell (p:=⟨W.heap.size+1,0,none⟩) (.inl (.inl ka)) (V Z (c+1)));have NG:(WX.setCell ⟨W.heap.size+1,0,none⟩ (V Z (c+1))).heap.size=WX.heap.size:=World.size_setCell _ _ _;by_cases zL:c+1=ct
       case pos=>
        have p9:Hid ((q+1)=YS.length):=H (nh (by rw[Gh.out,if_pos zL]) WM);clear Gh;subst zL;gi_wp2_with fail;refine⟨NF.out,(λk=>(D k\/k=W4.heap.size)\/eV k),Gg,WL,qx.onX (DX.cL (λk I=>by rw[NG];exact sy k I) ⟨eV,by rw[<-p9.out];exact NA⟩)⟩
       case neg=>
        have WJ:=H (show YS.drop (q+1)=iX s f last ct (c+1) (XS.drop (i+1))from by rw[Gh.out,if_neg zL]);have anm:(c+1==ct)=false:=by simpa using zL
        clear Gh;gi_wp2_with fail;exact⟨NF.out,(λk=>(D k\/k=W4.heap.size)\/eV k),Gg,WL,DJ.cL (λk I=>by rw[NG];exact sy k I) ⟨hbX,c+1,(q+1),_,by omega,by omega,WK,NA,WN,WM,WJ.out⟩⟩
      case inr.inl=>
       obtain⟨eV,eh,mO,jj⟩:=bq.post (by omega) J;have eP:=H (Ih.trans jj (λk I=>.inl (bq.sub k I)):ak (λk=>D k\/k=W4.heap.size) W5 WX);have Gg:∀k,(D k\/k=W4.heap.size)\/eV k->(D k\/k=W4.heap.size)\/W5.heap.size<=k:=λk I=>I.elim .inl λh=>(mO k h).elim (λh=>.inl (bq.sub k h)) (λh=>.inr (by omega));have sy:∀k,(D k\/k=W4.heap.size)\/eV k->k<WX.heap.size:=λk I=>I.elim (λh=>ν (ET k h) jj.size) (λh=>eh.on.1 k h);clear J jj;gi_wp2_with fail;exact⟨eP.out,λk=>(D k\/k=W4.heap.size)\/eV k,Gg,λk I=>.inl I,qx.TQ (DX.cL sy ⟨_,eh⟩)⟩
      case inr.inr=>
       obtain⟨eV,eh,mO,jj⟩:=bq.post (by omega) J;have eP:=H (Ih.trans jj (λk I=>.inl (bq.sub k I)):ak (λk=>D k\/k=W4.heap.size) W5 WX);have Gg:∀k,(D k\/k=W4.heap.size)\/eV k->(D k\/k=W4.heap.size)\/W5.heap.size<=k:=λk I=>I.elim .inl λh=>(mO k h).elim (λh=>.inl (bq.sub k h)) (λh=>.inr (by omega));have sy:∀k,(D k\/k=W4.heap.size)\/eV k->k<WX.heap.size:=λk I=>I.elim (λh=>ν (ET k h) jj.size) (λh=>eh.on.1 k h);clear J jj;gi_wp2_with fail;exact⟨rfl,eP.out,λk=>(D k\/k=W4.heap.size)\/eV k,Gg,λk I=>.inl I,DX.cL sy ⟨_,eh⟩⟩
     case neg=>
      have Gh:=H (show YS.drop q=(if c+1=ct then[]else iX s f last ct (c+1) (XS.drop (i+1)))from by rw[fE.out,if_neg hA,if_neg hLa,if_neg hF];rfl);clear fE;have z7:=y7;have z1:=y1;have eh:=bq;have WK:=h7;have eP:=Ih;have Gg:∀k,D k\/k=W4.heap.size->(D k\/k=W4.heap.size)\/W5.heap.size<=k:=λk I=>.inl I;have WL:∀k,D k\/k=W4.heap.size->D k\/k=W4.heap.size:=λk I=>I;have sy:=ET;have hbX:D (W.heap.size+1)\/W.heap.size+1=W4.heap.size:=.inl ka;have WM:=hq;clear bq y7 y1;have g7:=z7.cell (k:=0) rfl;have f7:=z7.free (k:=0);have WN:M (W6.setCell ⟨W.heap.size+1,0,none⟩ (V Z (c+1))) (W.heap.size+1) [V Z (c+1)] 3:=z7.set (k:=0) (V Z (c+1));have z1n:=z1.other (b:=W.heap.size+1) (k:=0) n17 (V Z (c+1));have g7n:=WN.cell (k:=0) rfl;have g1n:=z1n.cell (k:=2) rfl;have NA:=eh.set (o:=0) WK (V Z (c+1));have NF:=H (eP.setCell (p:=⟨W.heap.size+1,0,none⟩) (.inl (.inl ka)) (V Z (c+1)));have NG:(W6.setCell ⟨W.heap.size+1,0,none⟩ (V Z (c+1))).heap.size=W6.heap.size:=World.size_setCell _ _ _;by_cases zL:c+1=ct
      case pos=>
       have p9:Hid (q=YS.length):=H (nh (by rw[Gh.out,if_pos zL]) WM);clear Gh;subst zL;gi_wp2_with fail;refine⟨NF.out,(λk=>D k\/k=W4.heap.size),Gg,WL,qx.onX (DX.cL (λk I=>by rw[NG];exact sy k I) ⟨D0,by rw[<-p9.out];exact NA⟩)⟩
      case neg=>
       have WJ:=H (show YS.drop q=iX s f last ct (c+1) (XS.drop (i+1))from by rw[Gh.out,if_neg zL]);have anm:(c+1==ct)=false:=by simpa using zL
       clear Gh;gi_wp2_with fail;exact⟨NF.out,(λk=>D k\/k=W4.heap.size),Gg,WL,DJ.cL (λk I=>by rw[NG];exact sy k I) ⟨hbX,c+1,q,_,by omega,by omega,WK,NA,WN,WM,WJ.out⟩⟩
end
section
open Go.Maps Go.ChangeMaps Go.WideElems Go.MapKept
theorem WO:prog.cellsOf 3=1:=by kernel_rfl
theorem LJ:laidOutB prog=true:=by kernel_rfl
theorem WQ:(106:Ψ)<prog.types.size:=of_decide_eq_true (by kernel_rfl)
theorem adQ:(match prog.underlying 106 with|some (.array _ _)|some (.struct _)=>true|_=>false)=true:=by rw[underlying106]
theorem WR:WideMaps.KeyLaw prog 106:=deep_law_laid LJ (m:=2) (by omega) WQ (by kernel_rfl) adQ
theorem jv:Keyed prog 106:=Keyed.of_law WR
theorem QT (w:ι):(zeroValue 3).run prog w=.ok (V Z 0) w:=by kernel_rfl
theorem adR:prog.keyType 106=true:=by kernel_rfl
theorem ZW:prog.cellsOf 106=3:=by kernel_rfl
theorem LK {n k:Nat}(h:k<n):∃j,n=j+1:=⟨n-1,by omega⟩
def kL (n:Int):Lit:=Lit.string (keyBytes [Lit.int Z (ag.aq n),Lit.int Z (ag.ofM n),Lit.int Z (ag.aA n)])
theorem KY (n:Int)(h0:-700000<=n)(G:n<=900000):keyOf prog 106 (aW n)=some (kL n):=by
 have hr:=lE n h0 G;have w1:(Lit.int Z (ag.aq n)).wf=true:=WalkArith.wf_i64 (by omega);have w2:(Lit.int Z (ag.ofM n)).wf=true:=WalkArith.wf_i64 (by omega);have w3:(Lit.int Z (ag.aA n)).wf=true:=WalkArith.wf_i64 (by omega);unfold keyOf aW cS kL;obtain⟨k,I⟩:=LK WQ;rw[underlying106,adR,I];simp[Value.formed,underlying106,ZW,Value.cells,Program.keyLits,WO,underlying3,w1,w2,w3,List.range_succ]
theorem WS {a b:Int}(h0:-700000<=a)(G:a<=900000)(k0:-700000<=b)(k1:b<=900000)(h:kL a=kL b):a=b:=
 Wb h0 k0 (jv.inj (KY a h0 G) (by rw[h];exact KY b k0 k1))
theorem By {α:Type}{a b:α}{w Y:ι}(h:(Result.ok a w:Result α)=.ok b Y):a=b/\w=Y:=by cases h;exact⟨rfl,rfl⟩
theorem adS {a b:Int}(h:(DataW.lit (Lit.int Z a):DataW Unit)=.lit (Lit.int Z b)):a=b:=by cases h;rfl
theorem int_inj {a b:Int}(h:(Value.int Z a)=V Z b):a=b:=by cases h;rfl
def mr (w:ι)(b n:Nat)(ds:List Int):Prop:=
 ∃D:DataW Unit,w.ownsMap prog 106 (plainElem prog 3) b n D/\∀d,-700000<=d->d<=900000->D.atKey (kL d) (.lit (Lit.int Z 0))=.lit (Lit.int Z (ds.count d))
theorem mr.lt {w:ι}{b n:Nat}{ds:List Int}(h:mr w b n ds):b<w.heap.size:=by obtain⟨D,h,_⟩:=h;exact h.lt
theorem mr.keep {w Y:ι}{b n:Nat}{ds:List Int}(h:mr w b n ds)(e:Y.heap[b]?=w.heap[b]?):mr Y b n ds:=by
 obtain⟨D,⟨es,clock,U,F,hs,hD⟩,A⟩:=h;exact⟨D,⟨es,clock,e.trans U,F,hs,hD⟩,A⟩
theorem mr.made (w:ι):mr (w.alloc (.map #[] 0)) w.heap.size 0 []:=
 ⟨.map [],World.ownsMap_made w _ _ _,λd _ _=>by simp[DataW.atKey]⟩
theorem mr.look {w:ι}{b n:Nat}{ds:List Int}(h:mr w b n ds)(d:Int)(h0:-700000<=d)(G:d<=900000):
 (Μ 264 (.map (some b)) (aW d) false).run prog w=.ok (V Z (ds.count d)) w:=by
 obtain⟨D,aU,hD⟩:=h;obtain⟨c,iF,QN,_⟩:=aU.lookup_int jv underlying264 underlying3 (QT w) (KY d h0 G);rw[hD d h0 G]at QN;rw[iF,adS QN]
theorem BA {w Y:ι}{k:Ψ}{R:Value->Option (DataW Unit×List MemPlace)}{b n:Nat}{D:DataW Unit}(h:w.ownsMap prog k R b n D)(e:Y.heap[b]?=w.heap[b]?):Y.ownsMap prog k R b n D:=by
 obtain⟨es,clock,U,F,hs,hD⟩:=h;exact⟨es,clock,e.trans U,F,hs,hD⟩
theorem J2 {w:ι}{k:Ψ}{R:Value->Option (DataW Unit×List MemPlace)}{b n:Nat}{D:DataW Unit}(h:w.ownsMap prog k R b n D):IsMap D:=h.isMap
theorem mr.entry {w:ι}{b n:Nat}{ds:List Int}(h:mr w b n ds)(hn:n<1000000)(d:Int)(h0:-700000<=d)(G:d<=900000):
 ∃(v0:Value) (st:Int) (W1:ι),(Instr.mapEntry 264 (.map (some b)) (aW d)).run prog w=.ok (.tuple #[v0,V Z st]) W1/\mr W1 b (n+1) ds/\ak (λk=>k=b) w W1/\
  ∀c:Int,0<=c->c<=1000000->c=ds.count d+1->∃W2,(Instr.entryStore 264 (.map (some b)) (V Z st) (V Z c)).run prog W1=.ok () W2/\mr W2 b (n+1) (d::ds)/\ak (λk=>k=b) w W2:=by
 have ai4:=h.look d h0 G;obtain⟨D,aU,hD⟩:=h;have vl:=KY d h0 G;obtain⟨kl,pQ⟩:∃kl,kL d=kl:=⟨_,rfl⟩;rw[pQ]at vl;have ja:=jv.key vl;have hm:n<maxLen:=by unfold maxLen;omega
 obtain⟨es,clock,U,F,hs,uQ⟩:=aU;have aU:w.ownsMap prog 106 (plainElem prog 3) b n D:=⟨es,clock,U,F,hs,uQ⟩;obtain⟨v0,st,es1,NH,S5,arw,iK⟩:=entry_then_store WR underlying264 QT U F vl;have hblk:(setBlock w b (.map es1 NH)).heap[b]?=some (.map es1 NH):=heap_setBlock_same U _;have hex:∀o,ak (λk=>k=b) w (setBlock w b o):=λo=>⟨rfl,rfl,rfl,by simp[setBlock],λk _ I=>heap_setBlock_other U _ I⟩;have xn:mr (setBlock w b (.map es1 NH)) b (n+1) ds:=by
  rcases jv.find w vl es.toList F.keys with⟨f1,f2⟩|⟨j,e0,f1,f2,f3⟩
  ·have mu:(Instr.mapEntry 264 (.map (some b)) (aW d)).run prog w=.ok (.tuple #[V Z 0,goInt clock]) (setBlock w b (.map (es.push ⟨aW d,V Z 0,clock⟩) (clock+1))):=by
    simp[Instr.mapEntry,run_underlying underlying264,χ U,jv.check w false vl,f1,Θ _ U,ο,setBlock]
   have hu1:(Ϙ 264 (.map (some b)) (aW d) (V Z 0)).run prog w=.ok () (setBlock w b (.map (es.push ⟨aW d,V Z 0,clock⟩) (clock+1))):=by
    simp[Ϙ,run_underlying underlying264,χ U,jv.check w false vl,f1,Θ _ U,ο,setBlock]
   have vG:(Μ 264 (.map (some b)) (aW d) false).run prog w=.ok (V Z 0) w:=by
    simp[Μ,run_underlying underlying264,χ U,jv.check w _ vl,f1,ο]
   rw[ai4]at vG;have hz:((ds.count d:Nat):Int)=0:=int_inj (By vG).1;obtain⟨Y,tN,gV,_⟩:=aU.update jv underlying264 hm vl (plainElem_int underlying3 (show(Lit.int Z 0).wf=true by decide));rw[hu1]at tN;replace tN:=(By tN).2;rw[S5]at mu;replace mu:=(By mu).2;rw[mu,tN];refine⟨_,gV,λd' k0 k1=>?_⟩;by_cases Ge:d'=d
   ·subst Ge;rw[pQ,atKey_put_same (J2 aU) ja,hz]
   rw[atKey_put_other (λe=>Ge (WS k0 k1 h0 G (e.trans pQ.symm)))];exact hD d' k0 k1
  have hj:es[j]?=some e0:=by simpa using f2
  have ai5:es.modify j (λe=>{e with key:=aW d})=es:=by
   apply Array.ext';rw[Array.toList_modify,modify_eq_set _ _ _ _ f2];have:({e0 with key:=aW d}:MapEntry)=e0:=by rw[<-f3]
   rw[this];exact set_self _ _ _ f2
  have mu:(Instr.mapEntry 264 (.map (some b)) (aW d)).run prog w=.ok (.tuple #[e0.val,goInt e0.born]) (setBlock w b (.map es clock)):=by
   simp[Instr.mapEntry,run_underlying underlying264,χ U,jv.check w false vl,f1,hj,f3,jv.stays w vl,ai5,Θ _ U,ο,setBlock]
  rw[S5]at mu;replace mu:=(By mu).2;rw[mu];exact⟨D,(BA aU (by rw[heap_setBlock_same U,U])).mono (by omega),hD⟩
 refine⟨v0,st,_,S5,xn,hex _,λc hc0 ID hc=>?_⟩;obtain⟨es',aqc,ann,GY⟩:=iK _ (V Z c) hblk;obtain⟨Y,tN,gV,_⟩:=aU.update jv underlying264 hm vl (plainElem_int underlying3 (show(Lit.int Z c).wf=true from WalkArith.wf_i64 (by omega)));rw[GY]at tN;replace tN:=(By tN).2;refine⟨_,ann,⟨_,BA gV ?_,λd' k0 k1=>?_⟩,?_⟩
 ·rw[<-tN,heap_setBlock_same U,heap_setBlock_same hblk]
 ·by_cases Ge:d'=d
  ·subst Ge;rw[pQ,atKey_put_same (J2 aU) ja,List.count_cons_self,hc];simp
  rw[atKey_put_other (λe=>Ge (WS k0 k1 h0 G (e.trans pQ.symm))),List.count_cons_of_ne (λe=>Ge e.symm)];exact hD d' k0 k1
 exact(hex _).aM ⟨rfl,rfl,rfl,by simp[setBlock],λk _ I=>heap_setBlock_other hblk _ I⟩
end
section
open Go.Sort
attribute [local go_sem] Oper.semAt_some
attribute [local go_sem] bG aV
attribute [local simp] bG aV
def cF (u:ByteArray)(st ln:Int)(hr:Bool)(r:aC)(m md wk pl:Value)(tx:ByteArray)(aI aH:Value)(tr:Bool)(k:Int):List Value:=
 [η u,V Z st,V Z ln,.bool hr,V Z r.fq,V Z r.iv,V Z r.ct,V Z r.un,m,md,wk,pl,V Z r.ws,η tx,aI,aH,.bool tr,V Z k]
theorem dd.keep {w Y:ι}{v:Value}{zs:List Int}(h:dd w v zs)(I:∀k,v.ownBlock=some k->Y.heap[k]?=w.heap[k]?):dd Y v zs:=
 h.imp id λ⟨g,cap,rest,G,A⟩=>⟨g,cap,rest,G,(I g (by rw[G];rfl)).trans A⟩
theorem dd.fW {w:ι}{v:Value}{zs:List Int}(h:dd w v zs){k:Nat}(e:v.ownBlock=some k):k<w.heap.size:=by
 rcases h with⟨rfl,_⟩|⟨g,cap,rest,rfl,A⟩
 ·cases e
 cases e;exact A.lt
theorem dd.sl {w:ι}{v:Value}{zs:List Int}(h:dd w v zs):∃a c,v=ζ a zs.length c:=by
 rcases h with⟨rfl,rfl⟩|⟨g,cap,rest,rfl,_⟩<;>exact⟨_,_,rfl⟩
theorem dd.cell {w:ι}{a:Option Ϟ}{n c i:Nat}{zs:List Int}{z:Int}(h:dd w (ζ a n c) zs)(hz:zs[i]?=some z):∃g,a=some ⟨g,0,none⟩/\w.cell? ⟨g,i,none⟩=some (V Z z):=by
 rcases h with⟨_,rfl⟩|⟨g,cap,rest,e,hr⟩
 ·simp at hz
 cases e;refine⟨g,rfl,hr.cell ?_⟩;have S:=(List.getElem?_eq_some_iff.1 hz).1;rw[ώ,List.getElem?_append_left S,hz];rfl
theorem WU (u:ByteArray)(st ln:Int)(hr:Bool)(r:aC)(m md wk pl:Value)(tx:ByteArray)(aI aH:Value)(ex:List Int)(tr:Bool)(k:Int)(w:ι)(hm:∃a n c,m=ζ a n c)(hmd:∃a n c,md=ζ a n c)(Nl:∃a n c,wk=ζ a n c)(qz:∃a n c,pl=ζ a n c)(mw:∃a n c,aH=ζ a n c)
 (hex:dd w aI ex)(hle:ex.length<=1000)(U:∀t∈ex,0<=t/\t<=7258118400)(s0:0<=st):
 Ω prog 216 #[.agg (cF u st ln hr r m md wk pl tx aI aH tr k).toArray] w λe Y=>∃b n ds,e=δ (.map (some b))/\w.heap.size<=b/\mr Y b n ds/\(∀d,d∈ds↔∃t∈ex,t%86400=st%86400/\t/86400=d)/\Below w.heap.size w Y:=by
 obtain⟨a1,n1,c1,rfl⟩:=hm;obtain⟨a2,n2,c2,rfl⟩:=hmd;obtain⟨a3,n3,c3,rfl⟩:=Nl;obtain⟨a4,n4,c4,rfl⟩:=qz;obtain⟨a6,n6,c6,rfl⟩:=mw;obtain⟨a5,c5,rfl⟩:=hex.sl;have FU:prog.follows .mixedOrders=true:=by kernel_rfl
 have ano:Hid (∀wr,Below w.heap.size w wr->dd wr (ζ a5 ex.length c5) ex):=H λwr vQ=>hex.keep λk e=>vQ.block k (hex.fW e);have qE:=H U;clear hex U;unfold cF;generalize r.fq=fq;generalize r.iv=iv;generalize r.ct=ct;generalize r.un=un;generalize r.ws=ws;have r1:=M.new w [η u,V Z st,V Z ln,.bool hr,V Z fq,V Z iv,V Z ct,V Z un,ζ a1 n1 c1,ζ a2 n2 c2,ζ a3 n3 c3,ζ a4 n4 c4,V Z ws,η tx,ζ a5 ex.length c5,ζ a6 n6 c6,.bool tr,V Z k] 79;have al:Below w.heap.size w (w.alloc (θ #[η u,V Z st,V Z ln,.bool hr,V Z fq,V Z iv,V Z ct,V Z un,ζ a1 n1 c1,ζ a2 n2 c2,ζ a3 n3 c3,ζ a4 n4 c4,V Z ws,η tx,ζ a5 ex.length c5,ζ a6 n6 c6,.bool tr,V Z k] 79)):=(κ _ _).alloc (μ _) _;refine(callsIn_wide (n:=0)).1 ?_;refine callsIn_of_wp func216 rfl trivial ?_ rfl;simp only[ntmps216,ω,Κ,Ξ,Χ,Φ,Δ,Γ,Η,Ζ,Ν,Λ];have ahz:w.heap.size<(w.alloc (θ #[η u,V Z st,V Z ln,.bool hr,V Z fq,V Z iv,V Z ct,V Z un,ζ a1 n1 c1,ζ a2 n2 c2,ζ a3 n3 c3,ζ a4 n4 c4,V Z ws,η tx,ζ a5 ex.length c5,ζ a6 n6 c6,.bool tr,V Z k] 79)).heap.size:=by simp
 gi_upto_region 1 with fail;have eW:w.alloc (.cells [η u,V Z st,V Z ln,.bool hr,V Z fq,V Z iv,V Z ct,V Z un,ζ a1 n1 c1,ζ a2 n2 c2,ζ a3 n3 c3,ζ a4 n4 c4,V Z ws,η tx,ζ a5 ex.length c5,ζ a6 n6 c6,.bool tr,V Z k].toArray 79)=w.alloc (θ #[η u,V Z st,V Z ln,.bool hr,V Z fq,V Z iv,V Z ct,V Z un,ζ a1 n1 c1,ζ a2 n2 c2,ζ a3 n3 c3,ζ a4 n4 c4,V Z ws,η tx,ζ a5 ex.length c5,ζ a6 n6 c6,.bool tr,V Z k] 79):=rfl;rw[eW]at r1;clear eW;generalize w.alloc (θ #[η u,V Z st,V Z ln,.bool hr,V Z fq,V Z iv,V Z ct,V Z un,ζ a1 n1 c1,ζ a2 n2 c2,ζ a3 n3 c3,ζ a4 n4 c4,V Z ws,η tx,ζ a5 ex.length c5,ζ a6 n6 c6,.bool tr,V Z k] 79)=W at *
 have om:=mr.made W;have UT:Below W.heap.size W (W.alloc (.map #[] 0)):=(κ _ _).alloc (μ _) _;have hmk:=run_makeMap (P:=prog) 264 W;gi_upto_region 2 with fail;replace r1:=r1.on UT;replace al:=al.trans (UT.mono al.size);have bV:w.heap.size<W.heap.size:=ahz;generalize W.alloc (.map #[] 0)=W1 at *
 generalize W.heap.size=b at *
 have g14:=r1.cell (k:=14) rfl;gi_wp2_with fail;clear g14 ahz hmk;gi_loopg [10] ex.length (λq cv wr=>∃(i n:Nat) (ds:List Int),i+q=ex.length/\cv=V Z i/\n<=2*i/\ds.length<=i/\mr wr b n ds/\Below w.heap.size w wr/\M wr w.heap.size [η u,V Z st,V Z ln,.bool hr,V Z fq,V Z iv,V Z ct,V Z un,ζ a1 n1 c1,ζ a2 n2 c2,ζ a3 n3 c3,ζ a4 n4 c4,V Z ws,η tx,ζ a5 ex.length c5,ζ a6 n6 c6,.bool tr,V Z k] 79/\Hid (∀d,d∈ds↔∃t∈ex.take i,t%86400=st%86400/\t/86400=d))
 case atStart=>exact⟨0,0,[],by omega,rfl,by omega,μ _,om,al,r1,H (by simp)⟩
 case round=>
  clear om al r1;obtain⟨i,n,ds,hiq,rfl,hn,P7,om,al,r1,HD⟩:=hrel;have A6:=al.size;by_cases S:i=ex.length
  case pos=>
   have HE:=H (show ∀d,d∈ds↔∃t∈ex,t%86400=st%86400/\t/86400=d from λd=>by rw[HD.out d,S,Ϗ]);clear HD;subst S;gi_wp2_with fail;go_ret;exact⟨b,n,ds,rfl,by omega,om,HE.out,al⟩
  case neg=>
   have wW:i<ex.length:=by omega
   obtain⟨t,ht⟩:∃t,ex[i]?=some t:=⟨_,τ wW⟩;obtain⟨US,jw⟩:=qE.out t (Ο ht);obtain⟨gx,hax,hcx⟩:=(ano.out wr al).cell ht;have uN:=H (show ∀t',t'∈ex.take (i+1)↔t'∈ex.take i\/t'=t from λt'=>by
    rw[List.take_add_one,ht];simp)
   subst hax;have g1:=r1.cell (k:=1) rfl;have hmt:t.tmod 86400=t%86400:=π US;have hms:st.tmod 86400=st%86400:=π s0;clear ht;by_cases heq:t%86400=st%86400
   case neg=>
    have anp:(t%86400==st%86400)=false:=by simpa using heq
    have HE:=H (show ∀d,d∈ds↔∃t∈ex.take (i+1),t%86400=st%86400/\t/86400=d from λd=>by
     rw[HD.out d];constructor
     ·rintro⟨t',G,A⟩;exact⟨t',(uN.out t').2 (.inl G),A⟩
     rintro⟨t',G,A,K⟩;rcases(uN.out t').1 G with h|rfl
     ·exact⟨t',h,A,K⟩
     exact absurd A heq)
    clear HD uN;gi_wp2_with fail;gi_roundg (gk-1)
    case measure=>omega
    case rel=>exact⟨i+1,n,ds,by omega,by go_num,by omega,by omega,om,al,r1,HE⟩
   case pos=>
    have HE:=H (show ∀d,d∈t/86400::ds↔∃t∈ex.take (i+1),t%86400=st%86400/\t/86400=d from λd=>by
     rw[Β,HD.out d];constructor
     ·rintro(rfl|⟨t',G,A⟩)
      ·exact⟨t,(uN.out t).2 (.inr rfl),heq,rfl⟩
      exact⟨t',(uN.out t').2 (.inl G),A⟩
     rintro⟨t',G,A,K⟩;rcases(uN.out t').1 G with h|rfl
     ·exact .inr ⟨t',h,A,K⟩
     exact .inl K.symm)
    have anp:(t%86400==st%86400)=true:=by simpa using heq
    clear HD uN;have Hi:ds.count (t/86400)<=1000:=ϊ List.count_le_length (by omega);gi_upto_region 6 with fail;gi_region_with_o (gi_at_call 66;refine(callsIn_wide.2 (qX t _ US jw)).mono ?_;rintro e w2 ⟨rfl,aO⟩;have te:Below wr.heap.size wr w2:=⟨aO.os,aO.tape,aO.output,aO.size,aO.block⟩;have om2:=om.keep (te.block b om.lt);have vf:=om2.look (t/86400) (by omega) (by omega);obtain⟨v0,sp,W3,hme,om3,dZ,IL⟩:=om2.entry (by omega) (t/86400) (by omega) (by omega);have anq:=om3.look (t/86400) (by omega) (by omega);obtain⟨W4,anr,om4,bO⟩:=IL ((ds.count (t/86400):Int)+1) (by omega) (by omega) rfl;have Mf:IntKind.i64.wrap ((ds.count (t/86400):Int)+1)=(ds.count (t/86400):Int)+1:=gN (by omega) (by omega))
    all_goals
     clear vf hme anq anr Mf IL;have oZ:=te.size;have cu:=al.trans ((te.mono A6).trans (bO.below (B:=w.heap.size) (by omega) (λk I=>by omega)));have r4:=(r1.on te).aL bO (show¬(w.heap.size=b) by omega);gi_wp2_with fail;gi_roundg (gk-1)
     case measure=>omega
     case rel=>exact⟨i+1,n+1,t/86400::ds,by omega,by go_num,by omega,by simp;omega,om4,cu,r4,HE⟩
end
section
open Go.Sort
attribute [local go_sem] Oper.semAt_some
attribute [local go_sem] bG aV
attribute [local simp] bG aV
def iN (un s to:Int):Int:=min (to-1) un-s%86400
theorem ahB (fq iv ct un ws:Int)(m md wk pl:Value)(tx:ByteArray)(s f to:Int)(w:ι)(G:∃a n c,m=ζ a n c)(A:∃a n c,md=ζ a n c)(K:∃a n c,wk=ζ a n c)(h4:∃a n c,pl=ζ a n c)
 (s0:0<=s)(t0:0<=to)(t1:to<=7258118400)(u0:0<=un)(u1:un<=9223372036854775807):
 Ω prog 280 #[bC fq iv ct un m md wk pl ws tx,V Z s,V Z f,V Z to] w λe Y=>
  e=δ (.func (.func 313) #[] #[ε (some ⟨w.heap.size,0,none⟩),ε (some ⟨w.heap.size+1,0,none⟩),ε (some ⟨w.heap.size+2,0,none⟩),ε (some ⟨w.heap.size+4,0,none⟩),ε (some ⟨w.heap.size+3,0,none⟩)])/\
  Y=((((w.alloc (θ (bX fq iv ct un m md wk pl ws tx).toArray 76)).alloc (θ #[V Z s] 3)).alloc (θ #[V Z f] 3)).alloc (θ #[V Z (s%86400)] 3)).alloc (θ #[V Z (iN un s to)] 3):=by
 obtain⟨a1,n1,c1,rfl⟩:=G;obtain⟨a2,n2,c2,rfl⟩:=A;obtain⟨a3,n3,c3,rfl⟩:=K;obtain⟨a4,n4,c4,rfl⟩:=h4;have hm:0<=s%86400/\s%86400<86400:=by omega
 have hms:s.tmod 86400=s%86400:=π s0;unfold bC bX iN;go_enter func280,ntmps280;go_wp2_with fail;go_ret;exact⟨rfl,rfl⟩
theorem WV (u:ByteArray)(st ln:Int)(hr:Bool)(r:aC)(m md wk pl:Value)(tx:ByteArray)(aI aH:Value)(tr:Bool)(k:Int)(f to:Int)(bf be bt:Nat)(w:ι)(s0:0<=st)(s1:st<=7258118400)
 (q1:M w bf [V Z f] 3)(q2:M w be (cF u st ln hr r m md wk pl tx aI aH tr k) 79)(q3:M w bt [V Z to] 3):
 kX prog 281 #[ε (some ⟨bf,0,none⟩),ε (some ⟨be,0,none⟩),ε (some ⟨bt,0,none⟩)] (vk (if f<=st/\st<to then[st/86400]else[])) (λk=>k=bf\/k=be\/k=bt) w:=by
 intro l W O atF Js Jp bp hR hO cJ hY;replace q1:=q1.keep (hR bf (.inl rfl));replace q2:=q2.keep (hR be (.inr (.inl rfl)));replace q3:=q3.keep (hR bt (.inr (.inr rfl)));have g1:=q1.cell (k:=0) rfl;have g2:W.cell? ⟨be,1,none⟩=some (V Z st):=q2.cell (k:=1) rfl;have g3:=q3.cell (k:=0) rfl;have Di:St O W (atF 0) O W:=⟨ak.refl _ _,λ_ h=>.inl h,λ_ h=>h,cJ⟩;clear hR hO q1 q2 q3;refine callsIn_of_wp func281 rfl trivial ?_ rfl;simp only[ntmps281,ω,Κ,Ξ,Χ,Φ,Δ,Γ,Η,Ζ,Ν,Λ];by_cases G:f<=st
 case neg=>
  rw[if_neg (λh=>G h.1)]at hY⊢;have tf:st<f:=by omega
  clear hY;gi_wp2_with fail;go_end0;exact .inl ⟨⟨_,rfl⟩,.inl Di.fin⟩
 case pos=>
  by_cases A:st<to
  case neg=>
   rw[if_neg (λh=>A h.2)]at hY⊢;have uB:to<=st:=by omega
   clear hY;gi_wp2_with fail;go_end0;exact .inl ⟨⟨_,rfl⟩,.inl Di.fin⟩
  case pos=>
   rw[if_pos ⟨G,A⟩]at hY⊢;gi_wp2_with fail;refine((callsIn_wide.2 (qX st _ s0 s1)).mono ?_);rintro e W1 ⟨rfl,au⟩;have st1:=Di.below au;obtain⟨f1,t1,a1,b1,gI,eE⟩:=hY 0 #[aW (st/86400)] rfl W1 O st1.aL st1.dO st1.Od st1.on;clear g1 g2 g3 hY;gi_wp2_with fail;refine eE.mono ?_;clear gI eE;rintro e W2 (⟨rfl,J⟩|⟨rfl,J⟩|⟨c,rfl,J⟩)
   case inl=>
    obtain⟨D1,st2,_,_⟩:=st1.post J;gi_wp2_with fail;go_end0;exact .inl ⟨⟨_,rfl⟩,.inl st2.fin⟩
   case inr.inl=>
    obtain⟨D1,st2,_,_⟩:=st1.post J;gi_wp2_with fail;go_end0;exact .inl ⟨⟨_,rfl⟩,.inr st2.fin⟩
   case inr.inr=>
    obtain⟨D1,st2,_,_⟩:=st1.post J;gi_wp2_with fail;exact⟨rfl,.inr ⟨c,rfl,st2.fin⟩⟩
def uP (hr:Bool)(r:aC)(st f to:Int):List Int:=if hr then lG r st f (iN r.un st to)else if f<=st/\st<to then[st/86400]else[]
def dR (xs:List (Array Value))(E:aj)(w:ι):Ending->ι->Prop:=λe Y=>
 ∃g lb R,e=δ (.func (.func g) #[] lb)/\kX prog g lb xs R Y/\(∀k,R k->k<Y.heap.size/\(E k\/w.heap.size<=k))/\(∀args w,(callFunc g args).run prog w=.ok (.enter g args) w)/\Below w.heap.size w Y
theorem S6 (u:ByteArray)(st ln:Int)(hr:Bool)(r:aC)(m md wk pl:Value)(tx:ByteArray)(aI aH:Value)(tr:Bool)(k:Int)(f to:Int)(w:ι)(N:eG w r m md wk pl)(ho:hr=true->eu r)(bz:∃a n c,aI=ζ a n c)(bL:∃a n c,aH=ζ a n c)
 (s0:0<=st)(s1:st<=7258118400)(f0:-1000000000000<=f)(f1:f<=7258118400)(t0:0<=to)(t1:to<=7258118400):
 Ω prog 217 #[.agg (cF u st ln hr r m md wk pl tx aI aH tr k).toArray,V Z f,V Z to] w (dR (vk (uP hr r st f to)) (LB m md wk pl) w):=by
 have my:∀args w,(callFunc 281 args).run prog w=.ok (.enter 281 args) w:=enters_of func281 (by kernel_rfl) rfl;have L0:∀args w,(callFunc 313 args).run prog w=.ok (.enter 313 args) w:=enters_of func313 (by kernel_rfl) rfl;replace my:=H my;replace L0:=H L0;have q0:=lL w (cF u st ln hr r m md wk pl tx aI aH tr k) 79 (θ #[V Z f] 3) (θ #[V Z to] 3);have q1:=lM w (θ (cF u st ln hr r m md wk pl tx aI aH tr k).toArray 79) [V Z f] 3 (θ #[V Z to] 3);have q2:=lN w (θ (cF u st ln hr r m md wk pl tx aI aH tr k).toArray 79) (θ #[V Z f] 3) [V Z to] 3;have al:=iD w (θ (cF u st ln hr r m md wk pl tx aI aH tr k).toArray 79) (θ #[V Z f] 3) (θ #[V Z to] 3);have bp:(((w.alloc (θ (cF u st ln hr r m md wk pl tx aI aH tr k).toArray 79)).alloc (θ #[V Z f] 3)).alloc (θ #[V Z to] 3)).heap.size=w.heap.size+3:=by simp
 obtain⟨a1,e1⟩:=N.ms.form;obtain⟨a2,e2⟩:=N.mds.form;obtain⟨a3,e3⟩:=N.wks.form;obtain⟨a4,e4⟩:=N.pls.form;obtain⟨a5,n5,c5,rfl⟩:=bz;obtain⟨a6,n6,c6,rfl⟩:=bL;have fm:∃a n c,m=ζ a n c:=⟨_,_,_,e1⟩;have fmd:∃a n c,md=ζ a n c:=⟨_,_,_,e2⟩;have fwk:∃a n c,wk=ζ a n c:=⟨_,_,_,e3⟩;have fpl:∃a n c,pl=ζ a n c:=⟨_,_,_,e4⟩;clear e1 e2 e3 e4;cases hr
 case false=>
  have hit:=H (λ(W:ι) (p0:M W w.heap.size (cF u st ln false r m md wk pl tx (ζ a5 n5 c5) (ζ a6 n6 c6) tr k) 79) (p1:M W (w.heap.size+1) [V Z f] 3) (p2:M W (w.heap.size+1+1) [V Z to] 3)=>WV u st ln false r m md wk pl tx (ζ a5 n5 c5) (ζ a6 n6 c6) tr k f to (w.heap.size+1) w.heap.size (w.heap.size+1+1) W s0 s1 p1 p0 p2);clear N ho;obtain⟨a1,n1,c1,rfl⟩:=fm;obtain⟨a2,n2,c2,rfl⟩:=fmd;obtain⟨a3,n3,c3,rfl⟩:=fwk;obtain⟨a4,n4,c4,rfl⟩:=fpl;unfold cF at *
  go_enter func217,ntmps217;go_wp2_with fail;go_ret;exact⟨_,_,_,rfl,hit.out _ q0 q1 q2,λk I=>by
   refine⟨?_,.inr ?_⟩
   ·have:=bp;rcases I with rfl|rfl|rfl<;>omega
   rcases I with rfl|rfl|rfl<;>omega,my.out,al⟩
 case true=>
  replace ho:=ho rfl;have hD:=H (λW=>ahB r.fq r.iv r.ct r.un r.ws m md wk pl tx st f to W fm fmd fwk fpl s0 t0 t1 ho.un0 ho.un9);have arx:=ho.un0;have hit:=H (λ(W W':ι) (U:Below w.heap.size w W) (hW:W'=((((W.alloc (θ (bX r.fq r.iv r.ct r.un m md wk pl r.ws tx).toArray 76)).alloc (θ #[V Z st] 3)).alloc (θ #[V Z f] 3)).alloc (θ #[V Z (st%86400)] 3)).alloc (θ #[V Z (iN r.un st to)] 3))=>show kX prog 313 #[ε (some ⟨W.heap.size,0,none⟩),ε (some ⟨W.heap.size+1,0,none⟩),ε (some ⟨W.heap.size+2,0,none⟩),ε (some ⟨W.heap.size+4,0,none⟩),ε (some ⟨W.heap.size+3,0,none⟩)] (vk (uP true r st f to)) (λk=>k=W.heap.size\/k=W.heap.size+1\/k=W.heap.size+2\/k=W.heap.size+4\/k=W.heap.size+3\/LB m md wk pl k) W'/\Below W.heap.size W W'/\W'.heap.size=W.heap.size+5 from by
   subst hW;obtain⟨x0,x1,x2,x3,xb⟩:=ahq W (bX r.fq r.iv r.ct r.un m md wk pl r.ws tx) 76 (V Z st) (V Z f) (V Z (st%86400)) 3 3 3;have x4:=M.new ((((W.alloc (θ (bX r.fq r.iv r.ct r.un m md wk pl r.ws tx).toArray 76)).alloc (θ #[V Z st] 3)).alloc (θ #[V Z f] 3)).alloc (θ #[V Z (st%86400)] 3)) [V Z (iN r.un st to)] 3;have b5:=(κ _ ((((W.alloc (θ (bX r.fq r.iv r.ct r.un m md wk pl r.ws tx).toArray 76)).alloc (θ #[V Z st] 3)).alloc (θ #[V Z f] 3)).alloc (θ #[V Z (st%86400)] 3))).alloc (μ _) (θ #[V Z (iN r.un st to)] 3);simp only[World.size_alloc]at x4;have fk:=xb.trans (b5.mono xb.size);refine⟨?_,fk,by simp⟩;unfold uP;rw[if_pos rfl];exact adP r m md wk pl tx st f (iN r.un st to) W.heap.size (W.heap.size+1) (W.heap.size+2) (W.heap.size+4) (W.heap.size+3) _ ((N.on U).on fk) ho s0 s1 f0 f1 (by unfold iN;omega) (by unfold iN;omega) (x0.on b5) (x1.on b5) (x2.on b5) x4 (x3.on b5))
  have hblk:=H (λ(k:Nat) (h:LB m md wk pl k)=>N.fW h);clear N ho;obtain⟨a1,n1,c1,rfl⟩:=fm;obtain⟨a2,n2,c2,rfl⟩:=fmd;obtain⟨a3,n3,c3,rfl⟩:=fwk;obtain⟨a4,n4,c4,rfl⟩:=fpl;unfold cF at *
  unfold bC at hD;replace bp:=H bp;go_enter func217,ntmps217;go_upto_region 1 with fail;have eW:((w.alloc (.cells [η u,V Z st,V Z ln,.bool true,V Z r.fq,V Z r.iv,V Z r.ct,V Z r.un,ζ a1 n1 c1,ζ a2 n2 c2,ζ a3 n3 c3,ζ a4 n4 c4,V Z r.ws,η tx,ζ a5 n5 c5,ζ a6 n6 c6,.bool tr,V Z k].toArray 79)).alloc (θ #[V Z f] 3)).alloc (θ #[V Z to] 3)=((w.alloc (θ #[η u,V Z st,V Z ln,.bool true,V Z r.fq,V Z r.iv,V Z r.ct,V Z r.un,ζ a1 n1 c1,ζ a2 n2 c2,ζ a3 n3 c3,ζ a4 n4 c4,V Z r.ws,η tx,ζ a5 n5 c5,ζ a6 n6 c6,.bool tr,V Z k] 79)).alloc (θ #[V Z f] 3)).alloc (θ #[V Z to] 3):=rfl
  try rw[eW]at q0 q1 q2 al bp
  clear eW;generalize((w.alloc (θ #[η u,V Z st,V Z ln,.bool true,V Z r.fq,V Z r.iv,V Z r.ct,V Z r.un,ζ a1 n1 c1,ζ a2 n2 c2,ζ a3 n3 c3,ζ a4 n4 c4,V Z r.ws,η tx,ζ a5 n5 c5,ζ a6 n6 c6,.bool tr,V Z k] 79)).alloc (θ #[V Z f] 3)).alloc (θ #[V Z to] 3)=W at *
  have g1:=q0.cell (k:=1) rfl;have g3:=q0.cell (k:=3) rfl;have g4:=q0.cell (k:=4) rfl;have g5:=q0.cell (k:=5) rfl;have g6:=q0.cell (k:=6) rfl;have g7:=q0.cell (k:=7) rfl;have g8:=q0.cell (k:=8) rfl;have g9:=q0.cell (k:=9) rfl;have g10:=q0.cell (k:=10) rfl;have g11:=q0.cell (k:=11) rfl;have g12:=q0.cell (k:=12) rfl;have g13:=q0.cell (k:=13) rfl;have p1:=q1.cell (k:=0) rfl;have p2:=q2.cell (k:=0) rfl;go_wp2_with fail;refine(hD.out _).mono ?_;rintro e W' ⟨rfl,QU⟩;obtain⟨Wl,hi2,hi3⟩:=hit.out _ _ al QU;clear QU hit g1 g3 g4 g5 g6 g7 g8 g9 g10 g11 g12 g13 p1 p2;go_wp2_with fail;go_ret;replace bp:=bp.out;refine⟨_,_,_,rfl,Wl,λk I=>?_,L0.out,al.trans (hi2.mono al.size)⟩;rcases I with h|h|h|h|h|h
  ·exact⟨by omega,.inr (by omega)⟩
  ·exact⟨by omega,.inr (by omega)⟩
  ·exact⟨by omega,.inr (by omega)⟩
  ·exact⟨by omega,.inr (by omega)⟩
  ·exact⟨by omega,.inr (by omega)⟩
  exact⟨by have:=hblk.out k h;omega,.inl h⟩
end
section
section
variable {F:Fence} {nF:Nat} {P:Program} {ops:Array Ε} {Q:Exit->Υ->ι->Prop} {md:Region.Mode}
theorem Ii (aty:(Nat->Bool)->Υ->ι->Prop)(hf:forward md ops=true)
 (atA:∀(L:Nat->Bool) i o a w,ops[i]?=some o->L i=false->(∀e∈o.after,Ι md e=true->L e.on=true)->(∀j oj,ops[j]?=some oj->L j=true->∀e∈oj.after,Ι md e=true->L e.on=true)->
  aty L a w->wpOpIn F nF P ops Q i (λa' Y=>aty (λk=>decide (k=i)||L k) a' Y) a w)
 (D:∀(L:Nat->Bool) a w,(∀i,i<ops.size->L i=true)->aty L a w->Q .normal a w):
 ∀(fuel:Nat) (listed:Array Bool) (a:Υ) (w:ι),listed.size=ops.size->listed.toList.count false<=fuel->aty (λk=>listed.getD k false) a w->(∀i o,ops[i]?=some o->listed.getD i false=true->∀e∈o.after,Ι md e=true->listed.getD e.on false=true)->wpAnyIn F nF P md ops Q fuel listed a w:=by
 intro fuel
 induction fuel with
 |zero=>
  intro listed a w hs hc hI hC;have bx:∀i,i<ops.size->listed.getD i false=true:=λi S=>by
   rw[bB _ (by omega)];cases U:listed[i]'(by omega)
   ·exfalso;have:false∈listed.toList:=by rw[<-U];exact Array.mem_def.1 (Array.getElem_mem _)
    have:=List.count_pos_iff.2 this;omega
   rfl
  have hr:Region.ready md ops listed=[]:=by
   rw[List.eq_nil_iff_forall_not_mem];intro i S;obtain⟨G,A,_⟩:=dc S;have:=bx i G;rw[bB _ (by omega)]at this A;rw[this]at A;cases A
  exact⟨hr,D _ a w bx hI⟩
 |succ fuel ih=>
  intro listed a w hs hc hI hC;refine⟨λhr=>D _ a w (nB hf hs hr) hI,λi S=>?_⟩;obtain⟨G,A,o,ho,K⟩:=dc S;have uB:listed.getD i false=false:=by rw[bB _ (by omega)]at A⊢;exact A
  refine wpOpIn_mono (λa' Y q=>?_) (atA (λk=>listed.getD k false) i o a w ho uB K hC hI);have hL:(λk=>(listed.setIfInBounds i true).getD k false)=λk=>decide (k=i)||listed.getD k false:=by
   funext k;by_cases kN:k=i
   ·subst kN;rw[bB _ (by simp;omega)];simp
   by_cases kC:k<listed.size
   ·rw[bB _ (by simpa using kC),Array.getElem_setIfInBounds_ne (by simpa using kC) (λe=>kN e.symm),bB _ kC];simp[kN]
   simp[ϝ,kC,kN]
  refine ih (listed.setIfInBounds i true) a' Y (by simp[hs]) ?_ (by rw[hL];exact q) (λj oj jm N e he U=>?_)
  ·rw[Array.toList_setIfInBounds,List.count_set (by rw[ό];omega)];have:listed.toList[i]'(by rw[ό];omega)=false:=by
    rw[bB _ (by omega)]at A;simpa using A
   rw[this];have J:0<listed.toList.count false:=List.count_pos_iff.2 (by rw[<-this];exact List.getElem_mem _);show listed.toList.count false-1+0<=fuel;omega
  have hLk:∀k,(listed.setIfInBounds i true).getD k false=(decide (k=i)||listed.getD k false):=λk=>congrFun hL k;rw[hLk]at N⊢;by_cases fA:j=i
  ·subst fA;rw[ho]at jm;cases jm;rw[K e he U];simp
  simp only[fA,decide_false,Bool.false_or]at N;rw[hC j oj jm N e he U];simp
theorem ni {id:Nat}{a:Υ}{w:ι}(aty:(Nat->Bool)->Υ->ι->Prop)(hm:P.follows .mixedOrders=true)(hf:forward .any ops=true)
 (atA:∀(L:Nat->Bool) i o a w,ops[i]?=some o->L i=false->(∀e∈o.after,Ι .any e=true->L e.on=true)->(∀j oj,ops[j]?=some oj->L j=true->∀e∈oj.after,Ι .any e=true->L e.on=true)->
  aty L a w->wpOpIn F nF P ops Q i (λa' Y=>aty (λk=>decide (k=i)||L k) a' Y) a w)
 (D:∀(L:Nat->Bool) a w,(∀i,i<ops.size->L i=true)->aty L a w->Q .normal a w)(hI:aty (λ_=>false) a {w with drawn:=w.drawn+1}):(Code.region id ops true).wpIn F nF P Q a w:=
 wpIn_region_any hm (Ii aty hf atA D ops.size (ϙ ops.size false) a _ (by simp) (by rw[Array.toList_replicate,List.count_replicate];simp) (by
  have e:(λk=>(ϙ ops.size false).getD k false)=λ_=>false:=by
   funext k;by_cases I:k<ops.size
   ·rw[bB _ (by simpa using I)];simp
   simp[ϝ,I]
  rw[e];exact hI) (λi o ho h=>by
  rw[bB _ (by simpa using(Array.getElem?_eq_some_iff.1 ho).1)]at h;simp at h))
theorem je {i:Nat}{o:Ε}{a:Υ}{w:ι}{atH:Υ->ι->Prop}(ho:ops[i]?=some o)(hw:ρ o (yielded ops a.tmps)=true)(h:o.wpIn F nF P a w atH Q):wpOpIn F nF P ops Q i atH a w:=by
 unfold wpOpIn;rw[ho];simp only[hw,if_true];exact h
theorem de {i:Nat}{o:Ε}{a:Υ}{w:ι}{atH:Υ->ι->Prop}(ho:ops[i]?=some o)(hg:o.guard=none)(h:o.wpIn F nF P a w atH Q):wpOpIn F nF P ops Q i atH a w:=
 je ho (by unfold ρ;rw[hg]) h
theorem kh {i:Nat}{o:Ε}{a:Υ}{w:ι}{atH:Υ->ι->Prop}(ho:ops[i]?=some o)(hw:ρ o (yielded ops a.tmps)=false)(hF:∀f,F.fn f)(h:atH (a.put o.dst undef) w):wpOpIn F nF P ops Q i atH a w:=by
 unfold wpOpIn;rw[ho];simp only[hw];exact⟨λf _=>hF f,h⟩
theorem bw {o:Ε}{a:Υ}{w Y:ι}{atH:Υ->ι->Prop}{v:Value}(hF:∀f,F.fn f)(hd:∀c,o.op≠ .defer c)(h:(execOp a.eval o).run P w=.ok (.value v) Y)(hK:atH (a.put o.dst v) Y):o.wpIn F nF P a w atH Q:=by
 unfold Oper.wpIn;refine⟨λf _=>hF f,?_⟩;rw[Oper.semAt_plain F _ _ hd,h];exact hK
theorem WW {l':Nat}{o:Ε}{a:Υ}{w Y:ι}{atH:Υ->ι->Prop}{f:FuncId}{args:Array Value}{v:Value}(hd:∀c,o.op≠ .defer c)(h:(execOp a.eval o).run P w=.ok (.enter f args) Y)(hc:Ω P f args Y λe az=>e=δ v/\Below Y.heap.size Y az)
 (G:∀az,Below Y.heap.size Y az->atH (a.put o.dst v) az):o.wpIn (Fence.wide.inRound l') 0 P a w atH Q:=by
 unfold Oper.wpIn;refine⟨λf _=>trivial,?_⟩;rw[Oper.semAt_plain _ _ _ hd,h];refine⟨λh=>(by simp[Fence.wide]at h),(CallsIn.inRound l' (callsIn_wide.2 hc)).mono ?_⟩;rintro e az ⟨rfl,U⟩;exact G az U
theorem Gi {l' l:Nat}{o:Ε}{a:Υ}{w Y:ι}{atH:Υ->ι->Prop}{f:FuncId}{t:Array Value}{cA cB:Code}{R:Ending->ι->Prop}(hd:∀c,o.op≠ .defer c)(h:(execOp a.eval o).run P w=.ok (.round l f t cA cB) Y)(hR:RoundIn Fence.wide 0 P l f t cA cB Y R)
 (G:∀v az,R (δ v) az->atH (a.put o.dst v) az)(A:∀c az,R (.panicked c) az->Q (.panic c) a az)(K:∀az,¬R .outgrown az):o.wpIn (Fence.wide.inRound l') 0 P a w atH Q:=by
 unfold Oper.wpIn;refine⟨λf _=>trivial,?_⟩;rw[Oper.semAt_plain _ _ _ hd,h];have hR':RoundIn (Fence.wide.inRound l') 0 P l f t cA cB Y R:=hR;refine⟨λh=>(by simp[Fence.wide]at h),hR'.mono ?_⟩;intro e az he;cases e with
 |returned v=>exact G v az he
 |panicked c=>exact A c az he
 |outgrown=>exact absurd he (K az)
end
structure YI (s0 y n0:Nat)(fix:List (Nat×Value))(W:ι)(atE:Nat->Value->Prop)(T Fa:ι->Prop)(Bz:Bool->Nat->Value->Prop)(L:Nat->Bool)(a:Υ)(w:ι):Prop where
 size:a.tmps.size=n0
 defers:a.defers=[]
 fixed:∀p∈fix,a.eval (.tmp p.1)=p.2
 pre:L y=false->Below W.heap.size W w/\∀j,y<j->L j=false
 eA:∀j,j<y->L j=true->atE j (a.eval (.tmp (s0+j)))
 post:L y=true->(∀j,j<y->L j=true)/\∃b:Bool,a.eval (.tmp (s0+y))=.bool b/\(b=true->T w)/\(b=false->Fa w)/\∀j,y<j->L j=true->Bz b j (a.eval (.tmp (s0+j)))
section
variable {s0 y n0:Nat} {fix:List (Nat×Value)} {W:ι} {atE:Nat->Value->Prop} {T Fa:ι->Prop} {Bz:Bool->Nat->Value->Prop} {L:Nat->Bool} {a:Υ} {w:ι}
theorem YI.start (G:a.tmps.size=n0)(A:a.defers=[])(K:∀p∈fix,a.eval (.tmp p.1)=p.2)(h4:Below W.heap.size W w):YI s0 y n0 fix W atE T Fa Bz (λ_=>false) a w:=
 ⟨G,A,K,λ_=>⟨h4,λ_ _=>rfl⟩,λ_ _ h=>(by cases h),λh=>(by cases h)⟩
theorem YI.below (h:YI s0 y n0 fix W atE T Fa Bz L a w){j:Nat}(hj:j<y)(hL:L j=false):Below W.heap.size W w:=by
 cases hy:L y
 ·exact(h.pre hy).1
 have:=(h.post hy).1 j hj;rw[hL]at this;cases this
theorem YI.fS (h:YI s0 y n0 fix W atE T Fa Bz L a w){j:Nat}(hj:j<y)(hL:L j=false)(hn:s0+y<n0)(NJ:∀p∈fix,p.1<s0){v:Value}{Y:ι}(hv:atE j v)(U:Below w.heap.size w Y){dst:Option Nat}(hd:dst=some (s0+j)):
 YI s0 y n0 fix W atE T Fa Bz (λk=>decide (k=j)||L k) (a.put dst v) Y:=by
 subst hd;have hy:L y=false:=by
  cases hy:L y
  ·rfl
  have:=(h.post hy).1 j hj;rw[hL]at this;cases this
 have hs:s0+j<a.tmps.size:=by rw[h.size];omega
 refine⟨by rw[gm];exact h.size,by rw[put_defers];exact h.defers,λp J=>by rw[cZ (by have:=NJ p J;omega)];exact h.fixed p J,λ_=>⟨(h.pre hy).1.trans (U.mono (h.pre hy).1.size),λk I=>?_⟩,λk I N=>?_,λN=>?_⟩
 ·simp only[Bool.or_eq_false_iff,decide_eq_false_iff_not];exact⟨by omega,(h.pre hy).2 k I⟩
 ·by_cases wg:k=j
  ·subst wg;rw[gR hs];exact hv
  rw[cZ (by omega)];exact h.eA k I (by simpa[wg]using N)
 have df:¬y=j:=by omega
 simp only[df,decide_false,Bool.false_or]at N;rw[hy]at N;cases N
theorem YI.Gj (h:YI s0 y n0 fix W atE T Fa Bz L a w)(bx:∀j,j<y->L j=true)(hL:L y=false)(hn:s0+y<n0)(NJ:∀p∈fix,p.1<s0){b:Bool}{Y:ι}(hT:b=true->T Y)(hF:b=false->Fa Y){dst:Option Nat}(hd:dst=some (s0+y)):
 YI s0 y n0 fix W atE T Fa Bz (λk=>decide (k=y)||L k) (a.put dst (.bool b)) Y:=by
 subst hd;have hs:s0+y<a.tmps.size:=by rw[h.size];omega
 refine⟨by rw[gm];exact h.size,by rw[put_defers];exact h.defers,λp J=>by rw[cZ (by have:=NJ p J;omega)];exact h.fixed p J,λN=>by simp at N,λk I N=>?_,λ_=>⟨λk I=>by simp[bx k I],b,gR hs,hT,hF,λk I N=>?_⟩⟩
 ·rw[cZ (by omega)];exact h.eA k I (bx k I)
 have df:¬k=y:=by omega
 simp only[df,decide_false,Bool.false_or]at N;rw[(h.pre hL).2 k I]at N;cases N
theorem YI.zc (h:YI s0 y n0 fix W atE T Fa Bz L a w){j:Nat}(hj:y<j)(hL:L j=false)(Xa:L y=true)(hn:s0+j<n0)(NJ:∀p∈fix,p.1<s0){v:Value}(hv:∀b,a.eval (.tmp (s0+y))=.bool b->Bz b j v){dst:Option Nat}(hd:dst=some (s0+j)):
 YI s0 y n0 fix W atE T Fa Bz (λk=>decide (k=j)||L k) (a.put dst v) w:=by
 subst hd;have hs:s0+j<a.tmps.size:=by rw[h.size];omega
 obtain⟨p1,b,p2,p3,p4,p5⟩:=h.post Xa;refine⟨by rw[gm];exact h.size,by rw[put_defers];exact h.defers,λp J=>by rw[cZ (by have:=NJ p J;omega)];exact h.fixed p J,λN=>?_,λk I N=>?_,λ_=>⟨λk I=>by simp[p1 k I],b,by rw[cZ (by omega)];exact p2,p3,p4,λk I N=>?_⟩⟩
 ·simp[Xa]at N
 ·rw[cZ (by omega)];exact h.eA k I (p1 k I)
 by_cases wg:k=j
 ·subst wg;rw[gR hs];exact hv b p2
 rw[cZ (by omega)];exact p5 k I (by simpa[wg]using N)
end
structure YP (s0 m n0:Nat)(fix:List (Nat×Value))(W:ι)(atE:Nat->Value->Prop)(L:Nat->Bool)(a:Υ)(w:ι):Prop where
 size:a.tmps.size=n0
 defers:a.defers=[]
 fixed:∀p∈fix,a.eval (.tmp p.1)=p.2
 below:Below W.heap.size W w
 eA:∀j,j<m->L j=true->atE j (a.eval (.tmp (s0+j)))
theorem YP.step {s0 m n0:Nat}{fix:List (Nat×Value)}{W:ι}{atE:Nat->Value->Prop}{L:Nat->Bool}{a:Υ}{w:ι}(h:YP s0 m n0 fix W atE L a w){j:Nat}(hj:j<m)(hn:s0+m<=n0)(NJ:∀p∈fix,p.1<s0){v:Value}{Y:ι}(hv:atE j v)(U:Below w.heap.size w Y){dst:Option Nat}(hd:dst=some (s0+j)):
 YP s0 m n0 fix W atE (λk=>decide (k=j)||L k) (a.put dst v) Y:=by
 subst hd;have hs:s0+j<a.tmps.size:=by rw[h.size];omega
 refine⟨by rw[gm];exact h.size,by rw[put_defers];exact h.defers,λp J=>by rw[cZ (by have:=NJ p J;omega)];exact h.fixed p J,h.below.trans (U.mono h.below.size),λk I N=>?_⟩;by_cases wg:k=j
 ·subst wg;rw[gR hs];exact hv
 rw[cZ (by omega)];exact h.eA k I (by simpa[wg]using N)
theorem J3 {ops:Array Ε}{o:Ε}{a:Υ}{j d:Nat}{b c:Bool}(hg:o.guard=some (j,b))(hj:((ops[j]?).bind (·.dst))=some d)(hd:d<a.tmps.size)(h:a.eval (.tmp d)=.bool c):ρ o (yielded ops a.tmps)=(c==b):=by
 unfold ρ;rw[hg];show(yielded ops a.tmps j==some b)=(c==b);unfold yielded;rw[hj];have e:a.tmps[d]?=some (.bool c):=by
  have h':a.tmps.getD d undef=.bool c:=h;rw[Array.getD_eq_getD_getElem?,ϋ hd]at h';rw[ϋ hd];exact congrArg some h'
 simp only[Option.bind_some,e];cases b<;>cases c<;>rfl
end
section
open Go.Sort
attribute [local go_sem] Oper.semAt_some
attribute [local go_sem] bG aV
attribute [local simp] bG aV
theorem J4 (a:Υ)(h:a.tmps.size=29)(hd:a.defers=[]):∃f:Nat->Value,a=⟨Ϝ (f 0::f 1::f 2::f 3::f 4::f 5::f 6::f 7::f 8::f 9::f 10::f 11::f 12::f 13::f 14::f 15::f 16::f 17::f 18::f 19::f 20::f 21::f 22::f 23::f 24::f 25::f 26::f 27::f 28::[]),[]⟩/\∀k,a.eval (.tmp k)=f k:=gO 29 a h hd
def rh (l:List Int):List (Array Value):=l.map λn=>#[V Z n]
theorem ri (l:List Int):(rh l).length=l.length:=by unfold rh;simp
theorem zd {l:List Int}{i:Nat}{n:Int}(h:l[i]?=some n):(rh l)[i]?=some #[V Z n]:=by unfold rh;rw[ώ,h];rfl
def vK (st:Int)(ex:List Int)(l:List Int):List Int:=(l.map λd=>d*86400+st%86400).filter λt=>!ex.contains t
def tp (hr:Bool)(r:aC)(st f to:Int)(ex:List Int):List Int:=vK st ex (uP hr r st f to)
theorem ZX (st:Int)(ex:List Int)(d:Int)(l:List Int):vK st ex (d::l)=(if ex.contains (d*86400+st%86400)then[]else[d*86400+st%86400])++vK st ex l:=by
 unfold vK;rw[ϛ,List.filter_cons];cases h:ex.contains (d*86400+st%86400)<;>simp
theorem En (s f last ct:Int):∀(c:Int) (l:List Int) (d:Int),d∈iX s f last ct c l->d∈l
 |_,[],d,h=>by simp[iX]at h
 |c,x::l,d,h=>by
  rw[iX]at h;split at h
  ·exact Ρ _ (En s f last ct c l d h)
  split at h
  ·simp at h
  rcases List.mem_append.1 h with h|h
  ·split at h
   ·simp at h;subst h;simp
   simp at h
  split at h
  ·simp at h
  exact Ρ _ (En s f last ct (c+1) l d h)
theorem Xb (hr:Bool)(r:aC)(ho:hr=true->eu r)(st f to:Int)(s0:0<=st)(s1:st<=7258118400)(f1:f<=7258118400)(t1:to<=7258118400):∀d∈uP hr r st f to,-400<=d/\d<=300000:=by
 intro d hd;unfold uP at hd;split at hd
 ·rename_i kJ;exact(Gf _ (JW (ho kJ) _) st f _ s0 s1 f1 (by unfold iN;omega)).2 d (En _ _ _ _ _ _ _ hd)
 split at hd
 ·simp at hd;omega
 simp at hd
theorem adT {st d:Int}{ex ds:List Int}(h:∀d,d∈ds↔∃t∈ex,t%86400=st%86400/\t/86400=d):(ds.count d=0↔ex.contains (d*86400+st%86400)=false):=by
 rw[List.count_eq_zero,h d];rw[<-Bool.not_eq_true,List.contains_iff_mem];constructor
 ·intro hn hm;exact hn ⟨_,hm,by omega,by omega⟩
 rintro hn ⟨t,ht,G,A⟩;exact hn (by rw[show d*86400+st%86400=t from by omega];exact ht)
def DK (O:aj)(W0:ι)(atF:Nat->aP)(E:Nat->Nat->Prop)(i:Nat):aP:=λD W=>∃(q:Nat) (D0:aj),me O W0 (atF q) D0 D W/\E q i
theorem DK.cL {O:aj}{W0:ι}{atF:Nat->aP}{E:Nat->Nat->Prop}{i:Nat}{D:aj}{W:ι}(hD:∀k,D k->k<W.heap.size)(h:DK O W0 atF E i D W):On D (DK O W0 atF E i) W:=by
 obtain⟨q,D0,G,A⟩:=h;exact⟨hD,λW2 I=>⟨q,D0,G.keep I,A⟩⟩
def rj (be b4 b5 b6:Nat):List (Nat×Value):=[(1,ε (some ⟨be,0,none⟩)),(4,ε (some ⟨b4,0,none⟩)),(5,ε (some ⟨b5,0,none⟩)),(6,ε (some ⟨b6,0,none⟩))]
def NB (l be bm:Nat)(d st:Int)(j:Nat)(v:Value):Prop:=match j with
 |0=>v=.map (some bm)
 |1=>v=aW d
 |2=>v=V Z 0
 |3=>v=.bool true
 |4=>v=.bool true
 |5=>v=.func (.yield l) #[] #[]
 |6=>v=aW d
 |7=>v=V Z (d*86400)
 |8=>v=ε (some ⟨be,1,none⟩)
 |9=>v=V Z st
 |10=>v=V Z (st%86400)
 |_=>v=V Z (d*86400+st%86400)
def BB (b:Bool)(_:Nat)(v:Value):Prop:=v=.bool (!b)
end
section
theorem QV:(prog.info? 189).map (·.size)=some 2:=by kernel_rfl
theorem adU:liesAt prog prog.depth 189 (2/prog.cellsOf 189) 0 189 1=true:=by kernel_rfl
theorem Xc:(prog.info? 5).map (λi=>(i.zero,i.size,i.bytes))=some (some (.int .u8 0),1,1):=by kernel_rfl
theorem Ij (b:Nat)(w:ι)(h0:w.cell? ⟨b,0,none⟩=some (ε (some ⟨b,0,none⟩))):
 Ω prog 213 #[ε (some ⟨b,0,none⟩)] w λe Y=>e=δ (.tuple #[])/\Y=w:=by
 obtain⟨j,hj,_⟩:=Option.map_eq_some_iff.1 QV;go_enter func213,ntmps213;go_wp2;rw[Lib.run_neq_ptr_same w _ underlying187 hj];go_wp2;go_end0;exact⟨rfl,rfl⟩
theorem Gk (b:Nat)(w:ι)(h0:w.cell? ⟨b,0,none⟩=some (ε none))(sJ:w.shape? b=some (189,2))(qv:w.frozen? ⟨b,0,none⟩=false):
 Ω prog 213 #[ε (some ⟨b,0,none⟩)] w λe Y=>e=δ (.tuple #[])/\Y=w.setCell ⟨b,0,none⟩ (ε (some ⟨b,0,none⟩)):=by
 obtain⟨j,hj,VU⟩:=Option.map_eq_some_iff.1 QV;go_enter func213,ntmps213;go_wp2;rw[Lib.run_to_unsafe w ⟨b,0,none⟩ underlying187 underlying328 hj (by rw[VU];decide) sJ (Nat.zero_lt_succ 1)];simp only[ο];rw[Oper.upon_value];go_wp2;rw[run_callFunc_extern func279 (by kernel_rfl) (by kernel_rfl) (by kernel_rfl) (e:=Extern.AbiNoEscape.same) (by kernel_rfl)];rw[Lib.run_noEscape];simp only[ο];rw[Oper.upon_value];go_wp2;rw[Lib.run_from_unsafe w ⟨b,0,none⟩ underlying328 underlying187 hj sJ adU];simp only[ο];rw[Oper.upon_value];go_wp2;go_end0;exact⟨rfl,rfl⟩
theorem KG (B b:Nat)(bs:List Value)(w:ι)(h:Lib.IsBuilder 189 5 B b bs w):
 Ω prog 213 #[ε (some ⟨b,0,none⟩)] w λe Y=>e=δ (.tuple #[])/\(Lib.BuilderAt 189 5 B b (ε (some ⟨b,0,none⟩)) bs Y/\Below B w Y):=by
 rcases h with h|h
 ·exact(Gk b w h.cell0 h.shape h.frozen0).mono λe Y ⟨G,A⟩=>by
   subst A;exact⟨G,h.used _,(κ B w).setCell (p:=⟨b,0,none⟩) h.1 _⟩
 exact(Ij b w h.cell0).mono λe Y ⟨G,A⟩=>by
  subst A;exact⟨G,h,κ B _⟩
theorem wi (B b:Nat)(bs:List Value)(s:ByteArray)(w:ι)(h:Lib.IsBuilder 189 5 B b bs w)(hlen:bs.length+s.size<=140737488355328)(hBw:B<=w.heap.size):
 Ω prog 155 #[ε (some ⟨b,0,none⟩),η s] w λe Y=>e=δ (.tuple #[V Z s.size,.nilIface])/\(Lib.BuilderAt 189 5 B b (ε (some ⟨b,0,none⟩)) (bs++Lib.strCells s) Y/\Below B w Y):=by
 obtain⟨i0,S,gH,oV,fN⟩:=info_parts Xc;go_enter func155,ntmps155;go_wp2_with (go_at_call 213;refine(KG B b bs _ h).mono ?_);rintro e w1 ⟨rfl,G,au⟩;obtain⟨hB,v,Am,aU,df⟩:=G;have c0:w1.cell? ⟨b,0,none⟩=some (ε (some ⟨b,0,none⟩)):=by rw[Lib.cell_of_heap Am];rfl
 have c1:w1.cell? ⟨b,1,none⟩=some v:=by rw[Lib.cell_of_heap Am];rfl
 go_wp2_with (at_builtin;refine Lib.wpList_append_own_string _ rfl _ _ 72 9 rfl B 5 i0 underlying72 underlying9 S gH oV fN _ _ _ rfl aU s rfl ?c3 ?c4 ?c5 ?_)
 case c3=>unfold maxLen;omega
 case c4=>omega
 case c5=>have:=au.size;omega
 intro v' w2 gV tC _;have aQ:b<w1.heap.size:=by
  rcases Nat.lt_or_ge b w1.heap.size with h'|h'
  ·exact h'
  simp[Array.getElem?_eq_none h']at Am
 have aO:w2.heap[b]?=some (θ #[ε (some ⟨b,0,none⟩),v] 189 (0,0)):=by
  rw[tC.block b aQ (λe=>df e.symm)];exact Am
 have d0:w2.cell? ⟨b,0,none⟩=some (ε (some ⟨b,0,none⟩)):=by rw[Lib.cell_of_heap aO];rfl
 have d1:w2.cell? ⟨b,1,none⟩=some v:=by rw[Lib.cell_of_heap aO];rfl
 have f1:w2.frozen? ⟨b,1,none⟩=false:=Lib.frozen_of_heap aO 1;obtain⟨ao,n',cap,rfl⟩:∃ao n' cap,v'=ζ ao n' cap:=by
  rcases gV.2 with⟨hv,_⟩|⟨g,cap,cur,hv,_⟩
  ·exact⟨_,_,_,hv⟩
  exact⟨_,_,_,hv⟩
 go_wp2;go_ret2;refine⟨rfl,?_,?_⟩
 ·exact Lib.BuilderAt.put (T:=189) (e:=5) hB aO (bs':=bs++Lib.strCells s) (by simpa[Lib.strCells_length]using gV) (by decide)
 exact(au.grown tC (by have:=au.size;omega) (λk I=>(aU.lt k I).1)).setCell (p:=⟨b,1,none⟩) hB _
open Go.Sort
def dL (ls:List (List UInt8)):List UInt8:=ls.flatMap (·++[13,10])
theorem ZY (ls:List (List UInt8))(l:List UInt8):dL (ls++[l])=dL ls++l++[13,10]:=by simp[dL]
theorem ZZ (ls:List (List UInt8))(k:Nat):(dL (ls.take k)).length<=(dL ls).length:=by
 have:dL ls=dL (ls.take k)++dL (ls.drop k):=by
  conv=>lhs;rw[<-List.take_append_drop k ls]
  unfold dL;rw[List.flatMap_append]
 rw[this,φ];exact Nat.le_add_right _ _
theorem Eo (a l:List UInt8):υ a++Lib.strCells ⟨l.toArray⟩=υ (a++l):=by
 unfold υ Lib.strCells;rw[List.map_append]
theorem O0 (w:ι):Lib.IsBuilder 189 5 w.heap.size w.heap.size (υ []) (w.alloc (θ #[ε none,ζ none 0 0] 189)):=by
 refine .inl ⟨μ _,ζ none 0 0,M.new w [ε none,ζ none 0 0] 189,World.ownsRow_nil _ _ _ _,by simp[Value.ownBlock]⟩
theorem Ks (g cap:Nat)(ls:List (List UInt8))(w:ι)(hg:g<w.heap.size)(hn:jL w g 0 ls)(N:ls.length<=1000000000)(hs:(dL ls).length<=140737488355328):
 Ω prog 87 #[ζ (some ⟨g,0,none⟩) ls.length cap] w λE Y=>E=δ (η ⟨(dL ls).toArray⟩)/\Below w.heap.size w Y:=by
 have bh:Below w.heap.size w (w.alloc (θ #[ε none,ζ none 0 0] 189)):=(κ _ _).alloc (μ _) _;have HB:=H (O0 w);go_enter func87,ntmps87;go_wp2;generalize w.alloc (θ #[ε none,ζ none 0 0] 189)=W at *
 go_loopw [8] (λi wr=>∃k:Nat,k<=ls.length/\i=V Z k/\Hid (Lib.IsBuilder 189 5 w.heap.size w.heap.size (υ (dL (ls.take k))) wr)/\Hid (Below w.heap.size w wr)) (λi _=>ls.length-(intOf i).toNat)
 case atStart=>exact⟨0,ύ _,rfl,H (by rw[List.take_zero];exact HB.out),H bh⟩
 case round=>
  obtain⟨k,I,rfl,HI,HX⟩:=hrel;have hB:=HX.out.size;by_cases aQ:k<ls.length
  case neg=>
   have ja:k=ls.length:=by omega
   subst ja;have CS:=H (Tryz.Builder_String_any w.heap.size w.heap.size (dL ls) wr (by have:=HI.out;rw[Ϗ]at this;exact this) hB);go_wp2_with (go_at_call 156;refine(CS.out).mono ?_;rintro e w2 ⟨rfl,aO⟩);go_ret;exact⟨rfl,HX.out.trans aO⟩
  case pos=>
   obtain⟨l,hle⟩:∃l,l=ls[k]:=⟨_,rfl⟩;have iU:wr.cell? ⟨g,k,none⟩=some (η ⟨l.toArray⟩):=by
    have G:=hn k aQ;rw[Nat.zero_add]at G;rw[HX.out.cell (p:=⟨g,k,none⟩) hg,G,hle,List.getD_eq_getElem?_getD,τ aQ];rfl
   have HTK:Hid (dL (ls.take (k+1))=dL (ls.take k)++l++[13,10]):=H (by rw[List.take_succ_eq_append_getElem aQ,ZY,hle]);have uN:(dL (ls.take k)).length+l.length+2<=140737488355328:=by
    have K:=ZZ ls (k+1);rw[HTK.out,φ,φ]at K;exact ϊ K hs
   have C1:=H (wi w.heap.size w.heap.size (υ (dL (ls.take k))) ⟨l.toArray⟩ wr HI.out (by rw[Lib.byteCells_length];show _+l.toArray.size<=_;rw[ω];omega) hB);clear hle;go_upto_region 6 with(go_at_call 155;refine(C1.out).mono ?_;rintro e w2 ⟨rfl,hi2,aO⟩);have Wi:=(HX.out.trans aO).size;have C2:=H (wi w.heap.size w.heap.size (υ (dL (ls.take k))++Lib.strCells ⟨l.toArray⟩) ⟨#[13,10]⟩ w2 (.inr hi2) (by rw[Eo,Lib.byteCells_length,φ];show _+2<=_;omega) Wi);have HX2:=H (HX.out.trans aO);clear C1 hi2 aO HI HX;go_wp2_with (go_at_call 155;refine(C2.out).mono ?_;rintro e w3 ⟨rfl,hi3,aR⟩);rw[Eo,show(⟨#[13,10]⟩:ByteArray)=⟨[(13:UInt8),10].toArray⟩from rfl,Eo,<-HTK.out]at hi3;have HI3:=H hi3;have HX3:=H (HX2.out.trans aR);clear hi3 aR;go_wp2;go_roundw
   case rel=>exact⟨k+1,by omega,by go_num,H (.inr HI3.out),HX3⟩
   case measure=>simp[intOf];omega
def val (f:Nat->Option (List UInt8))(k:Nat):List UInt8:=(f k).getD []
def lH (s:List UInt8):List (List UInt8):=(nX (fM s) []).1
def sQ (s:List UInt8):Bool:=(nX (fM s) []).2&&decide (s.length<=2000)&&decide (2<=(lH s).length)&&decide ((lH s).getD 0 []=gq)&&decide ((lH s).getD ((lH s).length-1) []=lB)
def tO:List UInt8:=[79,80,65,81,85,69]
def nG:List UInt8:=[84,82,65,78,83,80,65,82,69,78,84]
def jF:List UInt8:=[67,79,78,70,73,82,77,69,68]
def jE:List UInt8:=[84,69,78,84,65,84,73,86,69]
def jD:List UInt8:=[67,65,78,67,69,76,76,69,68]
def must (f:Nat->Option (List UInt8)):Bool:=has f 0&&has f 1&&(has f 2 !=has f 3)&&fT (ba (val f 0))
def kT (f:Nat->Option (List UInt8)):Bool:=!(has f 7&&(decide (nI (val f 7) tO nG []=0)||decide (val f 7=[])))&&!(has f 8&&decide (nI (val f 8) jF jE jD=0))
def iA (s:List UInt8):Option (Nat->Option (List UInt8)):=
 if sQ s then match eH cg 58 (gu (lH s)) (λ_=>none)with
  |none=>none
  |some f=>if must f&&kT f then some f else none
 else none
def qF (o:Option (List UInt8)):Option (List Int):=match o with|none=>some []|some v=>Lc (ba v)
def J5 (o:Option (List UInt8)):Option (Option (Nat->Option (List UInt8))):=match o with|none=>some none|some v=>(rK v).map some
def kindOf (f:Nat->Option (List UInt8)):Int:=if has f 8 then nI (val f 8) jF jE jD else 1
def gK (f:Nat->Option (List UInt8)):Bool:=decide (val f 7=nG)
structure pf where
 f:Nat->Option (List UInt8)
 st:Int
 ln:Int
 ex:List Int
 xt:List Int
 rl:Option (Nat->Option (List UInt8))
def iz (s:List UInt8):Except Int pf:=match iA s with
 |none=>.error 2
 |some f=>match fU (val f 1)with
  |none=>.error 1
  |some st=>match lY st (f 3) (f 2)with
   |none=>.error 1
   |some ln=>match qF (f 5)with
    |none=>.error 1
    |some ex=>match qF (f 6)with
     |none=>.error 1
     |some xt=>match J5 (f 4)with
      |none=>.error 3
      |some rl=>.ok ⟨f,st,ln,ex,xt,rl⟩
theorem RY {w:ι}{g B:Nat}{xs:List Value}{e:Ψ}(h:M w g xs e)(hB:B<=g)(N:xs.length<=1000):w.ownsRow B e 1 (ζ (some ⟨g,0,none⟩) xs.length xs.length) xs.length xs:=
 ⟨by omega,.inr ⟨g,xs.length,xs.toArray,rfl,hB,h,μ _,by unfold maxLen;omega,by simp,by simp⟩⟩
def ans:ByteArray:=⟨#[66,69,71,73,78,58,86,69,86,69,78,84]⟩
def ant:ByteArray:=⟨#[85,73,68,58]⟩
def anu:ByteArray:=⟨#[68,84,83,84,65,82,84,58]⟩
def anv:ByteArray:=⟨#[68,85,82,65,84,73,79,78,58,80,84]⟩
def kS:ByteArray:=⟨#[83]⟩
def HJ (atC T D:ByteArray):List Value:=[η ans,η (ant++atC),η (anu++T),η (anv++D++kS)]
theorem Xd (b k off:Nat)(h:(k,off)=(0,0)\/(k,off)=(1,1)\/(k,off)=(2,2))(w:ι):(Ϛ 79 (ε (some ⟨b,0,none⟩)) k).run prog w=.ok (ε (some ⟨b,off,none⟩)) w:=by
 rcases h with h|h|h<;>cases h<;>go_simp
end
open Go.Sort
attribute [local go_sem] Oper.semAt_some
attribute [local go_sem] bG aV
attribute [local simp] bG aV
theorem jk:(prog.info? 79).map (·.size)=some 18:=by kernel_rfl
theorem Lx {F:Fence}{nF:Nat}{ops:Array Ε}{rest:List Ε}{o:Ε}{a:Υ}{w:ι}{Q:Exit->Υ->ι->Prop}{x:ψ}{b:Nat}{u:ByteArray}{st ln:Int}{hr:Bool}{r:aC}{m md wk pl:Value}{tx:ByteArray}{aI aH:Value}{tr:Bool}{k:Int}(hg:o.guard=none)(ho:o.op=.load 79 x)(X:a.eval x=ε (some ⟨b,0,none⟩))
 (aB:M w b (cF u st ln hr r m md wk pl tx aI aH tr k) 79)(hF:∀f,F.fn f)(hK:wpListIn F nF prog ops Q rest (a.put o.dst (.agg (cF u st ln hr r m md wk pl tx aI aH tr k).toArray)) w):wpListIn F nF prog ops Q (o::rest) a w:=
 wpListIn_plain hg λatH oc=>bw hF (by rw[ho];intro c hc;cases hc) (aY ho X (run_loadAt_mid w b 0 79 _ _ (ia aB) underlying79 rfl jk)) (oc _ _ hK)
def NC (bm:Nat)(d:Int)(c:Nat)(j:Nat)(v:Value):Prop:=match j with
 |0=>v=.map (some bm)
 |1=>v=aW d
 |2=>v=V Z c
 |3=>v=.bool false
 |4=>v=.bool false
 |14=>v=.bool false
 |_=>v=undef
theorem NK {p:Ϟ}{l:Nat}{w:ι}(h:w.cell? p=some (.func (.yield l) #[] #[])):(ξ 58 (ε (some p))).run prog w=.ok (.func (.yield l) #[] #[]) w:=by
 go_simp
theorem Xe {p:Ϟ}{b:Nat}{w:ι}(h:w.cell? p=some (.map (some b))):(ξ 264 (ε (some p))).run prog w=.ok (.map (some b)) w:=by
 go_simp
theorem Xf {b:Nat}{d:Int}{w:ι}(h:M w b (pn d) 106):(ξ 106 (ε (some ⟨b,0,none⟩))).run prog w=.ok (aW d) w:=by
 unfold pn at h;unfold aW cS;obtain⟨c0,c1,c2,_,_,_⟩:=bW h;go_simp
theorem Xg {o:Ε}{a:Υ}{w:ι}{x y:ψ}{T:Ψ}{m k v:Value}(ho:o.op=.lookup T x y false)(X:a.eval x=m)(hy:a.eval y=k)(hr:(Μ T m k false).run prog w=.ok v w):(execOp a.eval o).run prog w=.ok (.value v) w:=by
 obtain⟨_,_,_,_,_,_⟩:=o;simp only[]at ho;subst ho;unfold execOp;simp only[X,hy];exact bj hr
theorem QW {o:Ε}{a:Υ}{w:ι}{x:ψ}{z:Int}(ho:o.op=.binOp .eql 3 x (.const (V Z 0)) 3)(X:a.eval x=V Z z):(execOp a.eval o).run prog w=.ok (.value (.bool (z==0))) w:=by
 obtain⟨_,_,_,_,_,_⟩:=o;simp only[]at ho;subst ho;unfold execOp;have h0:a.eval (.const (V Z 0))=V Z 0:=rfl;simp only[X,h0];go_simp
theorem cW {o:Ε}{a:Υ}{w:ι}{x:ψ}{v:Value}(ho:o.op=.move x)(X:a.eval x=v):(execOp a.eval o).run prog w=.ok (.value v) w:=by
 obtain⟨_,_,_,_,_,_⟩:=o;simp only[]at ho;subst ho;unfold execOp;simp only[X];rfl
theorem adV {o:Ε}{a:Υ}{w:ι}{x y:ψ}(ho:o.op=.pick x y (.const (.bool false)))(X:a.eval x=.bool false):(execOp a.eval o).run prog w=.ok (.value (.bool false)) w:=by
 obtain⟨_,_,_,_,_,_⟩:=o;simp only[]at ho;subst ho;unfold execOp;simp only[X];rfl
theorem adW {o:Ε}{a:Υ}{w:ι}{x y:ψ}{v:Value}(ho:o.op=.pick x y (.const (.bool false)))(X:a.eval x=.bool true)(hy:a.eval y=v):(execOp a.eval o).run prog w=.ok (.value v) w:=by
 obtain⟨_,_,_,_,_,_⟩:=o;simp only[]at ho;subst ho;unfold execOp;simp only[X,hy];rfl
theorem Xh {o:Ε}{a:Υ}{w:ι}{x y:ψ}{T:Ψ}{l:Nat}{v:Value}{r:Next}(ho:o.op=.call {callee:=.value x,args:=#[y],argTypes:=#[T]})(X:a.eval x=.func (.yield l) #[] #[])(hy:a.eval y=v)(hr:(Instr.yield l #[v]).run prog w=.ok r w):(execOp a.eval o).run prog w=.ok r w:=by
 obtain⟨_,_,_,_,_,_⟩:=o;simp only[]at ho;subst ho;unfold execOp;simp only[resolve,List.map_toArray,ϛ,List.map_nil,X,hy];simp[go_sem,invoke,hr]
theorem QX {o:Ε}{a:Υ}{w:ι}{x:ψ}{b:Bool}(ho:o.op=.unOp .not 4 x)(X:a.eval x=.bool b):(execOp a.eval o).run prog w=.ok (.value (.bool (!b))) w:=by
 obtain⟨_,_,_,_,_,_⟩:=o;simp only[]at ho;subst ho;unfold execOp;simp only[X];go_simp
theorem adX {o:Ε}{a:Υ}{w:ι}{x:ψ}{z:Int}(ho:o.op=.binOp .rem 3 x (.const (V Z 86400)) 3)(X:a.eval x=V Z z)(h0:0<=z):(execOp a.eval o).run prog w=.ok (.value (V Z (z%86400))) w:=by
 obtain⟨_,_,_,_,_,_⟩:=o;simp only[]at ho;subst ho;unfold execOp;have hc:a.eval (.const (V Z 86400))=V Z 86400:=rfl;have hm:z.tmod 86400=z%86400:=π h0;simp only[X,hc];go_simp
theorem adY {o:Ε}{a:Υ}{w:ι}{x y:ψ}{z t:Int}(ho:o.op=.binOp .add 3 x y 3)(X:a.eval x=V Z z)(hy:a.eval y=V Z t)(h0:-9223372036854775808<=z+t)(G:z+t<=9223372036854775807):(execOp a.eval o).run prog w=.ok (.value (V Z (z+t))) w:=by
 obtain⟨_,_,_,_,_,_⟩:=o;simp only[]at ho;subst ho;unfold execOp;have hw:=gN h0 G;simp only[X,hy];go_simp
structure kt (w:ι)(hr:Bool)(r:aC)(m md wk pl aI aH:Value)(ex xt:List Int):Prop where
 cb:eG w r m md wk pl
 ok:hr=true->eu r
 hex:dd w aI ex
 mw:dd w aH xt
 exl:ex.length<=1000
 xtl:xt.length<=1000
 exb:∀t∈ex,0<=t/\t<=7258118400
 xtb:∀t∈xt,0<=t/\t<=7258118400
def kY (m md wk pl aI aH:Value):aj:=λk=>LB m md wk pl k\/aI.ownBlock=some k\/aH.ownBlock=some k
theorem kt.keep {w Y:ι}{hr:Bool}{r:aC}{m md wk pl aI aH:Value}{ex xt:List Int}(h:kt w hr r m md wk pl aI aH ex xt)(I:∀k,kY m md wk pl aI aH k->Y.heap[k]?=w.heap[k]?):kt Y hr r m md wk pl aI aH ex xt:=
 ⟨h.cb.keep λk e=>I k (.inl e),h.ok,h.hex.keep λk e=>I k (.inr (.inl e)),h.mw.keep λk e=>I k (.inr (.inr e)),h.exl,h.xtl,h.exb,h.xtb⟩
theorem kt.fW {w:ι}{hr:Bool}{r:aC}{m md wk pl aI aH:Value}{ex xt:List Int}(h:kt w hr r m md wk pl aI aH ex xt){k:Nat}(e:kY m md wk pl aI aH k):k<w.heap.size:=by
 rcases e with e|e|e
 ·exact h.cb.fW e
 ·exact h.hex.fW e
 exact h.mw.fW e
theorem kt.on {w Y:ι}{hr:Bool}{r:aC}{m md wk pl aI aH:Value}{ex xt:List Int}(h:kt w hr r m md wk pl aI aH ex xt)(U:Below w.heap.size w Y):kt Y hr r m md wk pl aI aH ex xt:=h.keep λk e=>U.block k (h.fW e)
theorem ai6 (u:ByteArray)(st ln:Int)(hr:Bool)(r:aC)(m md wk pl:Value)(tx:ByteArray)(aI aH:Value)(ex xt:List Int)(tr:Bool)(k:Int)(f to:Int)(be bf bt:Nat)(w:ι)(N:kt w hr r m md wk pl aI aH ex xt)
 (s0:0<=st)(s1:st<=7258118400)(f0:-1000000000000<=f)(f1:f<=7258118400)(t0:0<=to)(t1:to<=7258118400)
 (q1:M w be (cF u st ln hr r m md wk pl tx aI aH tr k) 79)(q2:M w bf [V Z f] 3)(q3:M w bt [V Z to] 3):
 kX prog 215 #[ε (some ⟨be,0,none⟩),ε (some ⟨bf,0,none⟩),ε (some ⟨bt,0,none⟩)] (rh (tp hr r st f to ex)) (λk=>k=be\/k=bf\/k=bt\/kY m md wk pl aI aH k) w:=by
 intro l W O atF Js Jp bp hR hO cJ hY;have eI:=N.keep λk I=>hR k (.inr (.inr (.inr I)));replace q1:=q1.keep (hR be (.inl rfl));replace q2:=q2.keep (hR bf (.inr (.inl rfl)));replace q3:=q3.keep (hR bt (.inr (.inr (.inl rfl))));have J1:¬O be:=λh=>hO be h (.inl rfl);have Jf:∀k,O k->¬kY m md wk pl aI aH k:=λk h h'=>hO k h (.inr (.inr (.inr h')));have DB:=q1.lt;obtain⟨a1,e1⟩:=eI.cb.ms.form;obtain⟨a2,e2⟩:=eI.cb.mds.form;obtain⟨a3,e3⟩:=eI.cb.wks.form;obtain⟨a4,e4⟩:=eI.cb.pls.form;obtain⟨a5,c5,e5⟩:=eI.hex.sl;obtain⟨a6,c6,e6⟩:=eI.mw.sl;have FU:prog.follows .mixedOrders=true:=by kernel_rfl
 have ep:Hid (∀wr,Below W.heap.size W wr->Ω prog 216 #[.agg (cF u st ln hr r m md wk pl tx aI aH tr k).toArray] wr λe Y=>∃b n ds,e=δ (.map (some b))/\wr.heap.size<=b/\mr Y b n ds/\(∀d,d∈ds↔∃t∈ex,t%86400=st%86400/\t/86400=d)/\Below wr.heap.size wr Y):=
  H λwr U=>WU u st ln hr r m md wk pl tx aI aH ex tr k wr ⟨_,_,_,e1⟩ ⟨_,_,_,e2⟩ ⟨_,_,_,e3⟩ ⟨_,_,_,e4⟩ ⟨_,_,_,e6⟩ (eI.on U).hex eI.exl eI.exb s0
 have hRD:Hid (∀wr,Below W.heap.size W wr->Ω prog 217 #[.agg (cF u st ln hr r m md wk pl tx aI aH tr k).toArray,V Z f,V Z to] wr (dR (vk (uP hr r st f to)) (LB m md wk pl) wr)):=
  H λwr U=>S6 u st ln hr r m md wk pl tx aI aH tr k f to wr (eI.on U).cb eI.ok ⟨_,_,_,e5⟩ ⟨_,_,_,e6⟩ s0 s1 f0 f1 t0 t1
 have mW:=H (Xb hr r eI.ok st f to s0 s1 f1 t1);have ai7:∀k,LB m md wk pl k->k<W.heap.size/\¬O k:=λk h=>⟨eI.fW (.inl h),λh'=>Jf k h' (.inl h)⟩;have QS:Hid (tp hr r st f to ex=vK st ex (uP hr r st f to)):=H rfl;clear hR hO N bp eI Jf;clear e1 e2 e3 e4 e5 e6;have uy:=H (λ(i:Nat) (t:Int) (h:(tp hr r st f to ex)[i]?=some t)=>hY i _ (zd h));clear hY;rw[ri];generalize tp hr r st f to ex=YS at *
 generalize uP hr r st f to=XS at *
 refine dr func215 rfl ?_;simp only[ntmps215,ω,Κ,Ξ,Χ,Φ,Δ,Γ,Η,Ζ,Ν,Λ];refine bK λatH hK=>bQ ?_;gi_wp2_with fail;have r4:M (W.alloc (θ #[.func (.yield l) #[] #[]] 58)) W.heap.size [.func (.yield l) #[] #[]] 58:=M.new W [.func (.yield l) #[] #[]] 58;have al:Below W.heap.size W (W.alloc (θ #[.func (.yield l) #[] #[]] 58)):=(κ _ _).alloc (μ _) _;have Ag:W.heap.size<(W.alloc (θ #[.func (.yield l) #[] #[]] 58)).heap.size:=by simp
 generalize W.alloc (θ #[.func (.yield l) #[] #[]] 58)=W1 at *
 refine bK λatH hK=>bQ ?_;have qe:=q1.on al;gi_wp2_with (refine Lx rfl rfl rfl qe (λ_=>trivial) ?_);refine((callsIn_wide.2 (ep.out _ al)).mono ?_);rintro e w2 ⟨bm,nm,ds,rfl,UT,om,Cj,aO⟩;clear ep qe;replace Cj:=H Cj;replace r4:=r4.on aO;replace al:=al.trans (aO.mono al.size);have oZ:=aO.size;have r5:M (w2.alloc (θ #[.map (some bm)] 264)) w2.heap.size [.map (some bm)] 264:=M.new w2 [.map (some bm)] 264;have cE:Below w2.heap.size w2 (w2.alloc (θ #[.map (some bm)] 264)):=(κ _ _).alloc (μ _) _;replace r4:=r4.on cE;have ary:=om.lt;replace om:=om.keep (cE.block bm om.lt);replace al:=al.trans (cE.mono al.size);have su:w2.heap.size<(w2.alloc (θ #[.map (some bm)] 264)).heap.size:=by simp
 gi_wp2_with fail;generalize w2.alloc (θ #[.map (some bm)] 264)=W3 at *
 generalize bJ:w2.heap.size=b5 at *
 refine bK λatH hK=>bQ ?_;have qe:=q1.on al;have p2:=(q2.on al).cell (k:=0) rfl;have p3:=(q3.on al).cell (k:=0) rfl;gi_wp2_with (refine Lx rfl rfl rfl qe (λ_=>trivial) ?_);refine((callsIn_wide.2 (hRD.out _ al)).mono ?_);rintro e w4 ⟨g,lb,R,rfl,hit,mM,eg,cu⟩;clear qe p2 p3 hRD cE aO;replace r4:=r4.on cu;replace r5:=r5.on cu;replace om:=om.keep (cu.block bm om.lt);replace al:=al.trans (cu.mono al.size);have ES:=cu.size;clear cu;gi_wp2_with fail;refine gB ?_;refine lz (gf:=g) (lb:=lb) func215 ?g eg hit (μ _) (λ_ _=>rfl) (λk I=>(mM k I).1)
  O (λk I cj=>by
   rcases(mM k cj).2 with h|h
   ·exact(ai7 k h).2 I
   have:=cJ.1 k I;omega) (DK O W atF λq i=>q<=YS.length/\YS.drop q=vK st ex (XS.drop i)) (qx O W (atF YS.length) Js) (λc=>DX O W (Jp c)) ?ps ?start ?round ?done ?stop ?pan
 case g=>rfl
 case ps=>intro x X;obtain⟨d,_,rfl⟩:=List.mem_map.1 X;rfl
 case start=>exact DK.cL (λk I=>by have:=cJ.1 k I;omega) ⟨0,O,⟨λk I=>I,λk I=>.inl I,λk I=>I,cJ.below al⟩,ύ _,by simpa using QS.out⟩
 case stop=>
  rintro c W4 ⟨X,D,cD,_,aG⟩ hs bI;have ef:ak O W (W4.putObj w4.heap.size (.deferred none)):=((ak.ar al).aM X).put (.inr (by omega)) _;have cK:¬D w4.heap.size:=λh=>(cD _ h).elim (λh=>by have:=cJ.1 _ h;omega) (by omega);obtain⟨rfl,h⟩:=aG.out;have eY:=H (show aN O W.heap.size (atF YS.length) W (W4.putObj w4.heap.size (.deferred none))\/aN O W.heap.size Js W (W4.putObj w4.heap.size (.deferred none))from by
   rcases h with⟨D0,h⟩|⟨D0,h⟩
   ·exact .inl ((h.put cK _).fin ef)
   exact .inr ((h.put cK _).fin ef))
  clear h aG cD;gi_wp2_with fail;refine⟨by simp,.inl ⟨_,_,rfl,run_takeDeferred bI,?_⟩⟩;exact⟨_,results_none rfl _ _ _,.inl ⟨⟨_,rfl⟩,eY.out⟩⟩
 case pan=>
  rintro c W4 ⟨X,D,cD,_,aG⟩ hs bI;have ef:ak O W (W4.putObj w4.heap.size (.deferred none)):=((ak.ar al).aM X).put (.inr (by omega)) _;have cK:¬D w4.heap.size:=λh=>(cD _ h).elim (λh=>by have:=cJ.1 _ h;omega) (by omega);obtain⟨D0,h⟩:=aG.out;refine⟨by simp,.inl ⟨_,_,rfl,run_takeDeferred bI,?_⟩⟩;exact .inr ⟨c,rfl,(h.put cK _).fin ef⟩
 case done=>
  rw[lF];rintro W4 ⟨X,D,cD,_,aG⟩ hs bI;have ef:ak O W (W4.putObj w4.heap.size (.deferred none)):=((ak.ar al).aM X).put (.inr (by omega)) _;have cK:¬D w4.heap.size:=λh=>(cD _ h).elim (λh=>by have:=cJ.1 _ h;omega) (by omega);obtain⟨q,D0,bq,hq,lh⟩:=aG.out;have p9:q=YS.length:=nh (by rw[lh,ϗ];rfl) hq;refine⟨by simp,.inl ⟨_,_,rfl,run_takeDeferred bI,?_⟩⟩;exact⟨_,results_none rfl _ _ _,.inl ⟨⟨_,rfl⟩,.inl (by rw[<-p9];exact(bq.put cK _).fin ef)⟩⟩
 case round=>
  intro Ct i x X W4 D zq hs dV aG atH hK;obtain⟨d,hd⟩:∃d,XS[i]?=some d:=⟨_,τ (by have:=(List.getElem?_eq_some_iff.1 X).1;rwa [lF]at this)⟩;rw[qZ hd]at X;cases X;have Ge:=mW.out d (Ο hd);have we:=H (drop_one hd);clear hd mW;unfold aW cS;gi_wp2_with fail;have ph:Below W4.heap.size W4 (W4.alloc (θ #[V Z (ag.aq d),V Z (ag.ofM d),V Z (ag.aA d)] 106)):=(κ _ _).alloc (μ _) _;refine hK _ _ (λk=>D k\/k=W4.heap.size) ph (λk I=>I.imp id λh=>by omega) (λk I=>.inl I) (λk I=>I.elim (λh=>by have:=aG.1 k h;simp;omega) (λh=>by simp;omega)) ?_;intro l' W5 fG bL xh;have q6:=(M.new W4 (pn d) 106).keep (fG _ (.inr rfl));have ea:=aG.on (W':=W5) λk I=>(fG k (.inl I)).trans (ph.block k (aG.1 k I));have mN:ak O W W5:=(ak.ar al).aM bL;have y1:=q1.aL mN J1;have y4:=r4.aL bL (λh=>by have:=cJ.1 _ h;omega);have y5:=r5.aL bL (λh=>by have:=cJ.1 _ h;omega);have oy:=om.keep (bL.block bm om.lt (λh=>by have:=cJ.1 _ h;omega));have dN:∀k,D k\/k=W4.heap.size->k<W5.heap.size:=λk I=>I.elim (ea.1 k) (λh=>by have:=q6.lt;omega);have pN:W.heap.size<=W5.heap.size:=by omega
  clear hK ph fG hit aG r4 r5 om mM;obtain⟨q,D0,bq,hq,lh⟩:=ea.out;clear ea;replace bq:=bq.wide (D':=λk=>D k\/k=W4.heap.size) λk I=>.inl I;have fE:=H (show YS.drop q=(if ex.contains (d*86400+st%86400)then[]else[d*86400+st%86400])++vK st ex (XS.drop (i+1))from by rw[lh,we.out,ZX]);clear lh we;have Hi:=adT (d:=d) Cj.out;have anl:0<=st%86400/\st%86400<86400:=by omega
  gi_upto_region 4 with fail;have fx:∀p∈rj be W.heap.size b5 W4.heap.size,p.1<14:=λp J=>by
   simp only[rj,Β,Α,or_false]at J;rcases J with rfl|rfl|rfl|rfl<;>simp
  have g1:∀Y,Below W5.heap.size W5 Y->(ξ 3 (ε (some ⟨be,1,none⟩))).run prog Y=.ok (V Z st) Y:=λY U=>dP ((y1.on U).cell (k:=1) rfl);have g4:∀Y,Below W5.heap.size W5 Y->(ξ 58 (ε (some ⟨W.heap.size,0,none⟩))).run prog Y=.ok (.func (.yield l) #[] #[]) Y:=λY U=>NK ((y4.on U).cell (k:=0) rfl);have g5:∀Y,Below W5.heap.size W5 Y->(ξ 264 (ε (some ⟨b5,0,none⟩))).run prog Y=.ok (.map (some bm)) Y:=λY U=>Xe ((y5.on U).cell (k:=0) rfl);have g6:∀Y,Below W5.heap.size W5 Y->(ξ 106 (ε (some ⟨W4.heap.size,0,none⟩))).run prog Y=.ok (aW d) Y:=λY U=>Xf (q6.on U);have gl:∀Y,Below W5.heap.size W5 Y->(Μ 264 (.map (some bm)) (aW d) false).run prog Y=.ok (V Z (ds.count d)) Y:=λY U=>(oy.keep (U.block bm oy.lt)).look d (by omega) (by omega);rename_i K1 eM;by_cases hc:ex.contains (d*86400+st%86400)
  case pos=>
   have df:ds.count d≠0:=λh=>by rw[Hi.1 h]at hc;cases hc
   have lh:=H (show YS.drop q=vK st ex (XS.drop (i+1))from by rw[fE.out,if_pos hc];rfl);clear fE;refine ni (YP 14 15 29 (rj be W.heap.size b5 W4.heap.size) W5 (NC bm d (ds.count d))) FU (by kernel_rfl) ?rops ?rdone ⟨rfl,rfl,λp J=>by
    simp only[rj,Β,Α,or_false]at J;rcases J with rfl|rfl|rfl|rfl<;>rfl,(κ _ _).drew,λ_ _ h=>by cases h⟩
   case rdone=>
    intro L a Y bx hI;have Xi:a.eval (.tmp 28)=.bool false:=hI.eA 14 (by decide) (bx 14 (by decide));have fk:=hI.below;obtain⟨fr,rfl,hf⟩:=J4 a hI.size hI.defers;have f28:=(hf 28).symm.trans Xi;rw[f28];clear hf Xi f28 hI;refine eM _ _ ?_;clear eM;gi_wp2_with fail;have NO:=bq.below fk;exact⟨ak.ar fk,λk=>D k\/k=W4.heap.size,λk I=>.inl I,λk I=>I,DK.cL (λk I=>ν (dN k I) fk.size) ⟨q,D0,NO,hq,lh.out⟩⟩
   case rops=>
    intro L j o a Y ho fI cH hC hI;have hj:j<15:=(Array.getElem?_eq_some_iff.1 ho).1;have s1:a.eval (.tmp 1)=ε (some ⟨be,0,none⟩):=hI.fixed (1,_) (by simp[rj]);have s5:a.eval (.tmp 5)=ε (some ⟨b5,0,none⟩):=hI.fixed (5,_) (by simp[rj]);have s6:a.eval (.tmp 6)=ε (some ⟨W4.heap.size,0,none⟩):=hI.fixed (6,_) (by simp[rj]);have w4:L 4=true->∀{ops:Array Ε} {o':Ε},((ops[4]?).bind (·.dst))=some 18->o'.guard=some (4,true)->ρ o' (yielded ops a.tmps)=false:=λN ops o' hd hg=>by
     rw[J3 hg hd (d:=18) (by rw[hI.size];decide) (c:=false) (hI.eA 4 (by decide) N)];rfl
    have eQ:j=0\/j=1\/j=2\/j=3\/j=4\/j=5\/j=6\/j=7\/j=8\/j=9\/j=10\/j=11\/j=12\/j=13\/j=14:=by omega
    rcases eQ with rfl|rfl|rfl|rfl|rfl|rfl|rfl|rfl|rfl|rfl|rfl|rfl|rfl|rfl|rfl<;>obtain rfl:=Τ ho
    ·exact de rfl rfl (bw (λ_=>trivial) (λ_ h=>by cases h) (aY rfl s5 (g5 _ hI.below)) (hI.step (j:=0) (by decide) (by decide) fx rfl (κ _ _) rfl))
    ·exact de rfl rfl (bw (λ_=>trivial) (λ_ h=>by cases h) (aY rfl s6 (g6 _ hI.below)) (hI.step (j:=1) (by decide) (by decide) fx rfl (κ _ _) rfl))
    ·have e1:a.eval (.tmp 14)=.map (some bm):=hI.eA 0 (by decide) (cH ⟨0,.data⟩ (by simp) rfl);have e2:a.eval (.tmp 15)=aW d:=hI.eA 1 (by decide) (cH ⟨1,.data⟩ (by simp) rfl);exact de rfl rfl (bw (λ_=>trivial) (λ_ h=>by cases h) (Xg rfl e1 e2 (gl _ hI.below)) (hI.step (j:=2) (by decide) (by decide) fx rfl (κ _ _) rfl))
    ·have e:a.eval (.tmp 16)=V Z (ds.count d):=hI.eA 2 (by decide) (cH ⟨2,.data⟩ (by simp) rfl);exact de rfl rfl (bw (λ_=>trivial) (λ_ h=>by cases h) (QW rfl e) (hI.step (j:=3) (by decide) (by decide) fx (show Value.bool (((ds.count d:Nat):Int)==0)=.bool false by congr 1;simpa using df) (κ _ _) rfl))
    ·have e:a.eval (.tmp 17)=.bool false:=hI.eA 3 (by decide) (cH ⟨3,.data⟩ (by simp) rfl);exact de rfl rfl (bw (λ_=>trivial) (λ_ h=>by cases h) (cW rfl e) (hI.step (j:=4) (by decide) (by decide) fx rfl (κ _ _) rfl))
    ·exact kh rfl (w4 (cH ⟨4,.guard⟩ (by simp) rfl) rfl rfl) (λ_=>trivial) (hI.step (j:=5) (by decide) (by decide) fx (show NC bm d (ds.count d) 5 undef from rfl) (κ _ _) rfl)
    ·exact kh rfl (w4 (cH ⟨4,.guard⟩ (by simp) rfl) rfl rfl) (λ_=>trivial) (hI.step (j:=6) (by decide) (by decide) fx (show NC bm d (ds.count d) 6 undef from rfl) (κ _ _) rfl)
    ·exact kh rfl (w4 (cH ⟨4,.guard⟩ (by simp) rfl) rfl rfl) (λ_=>trivial) (hI.step (j:=7) (by decide) (by decide) fx (show NC bm d (ds.count d) 7 undef from rfl) (κ _ _) rfl)
    ·exact kh rfl (w4 (cH ⟨4,.guard⟩ (by simp) rfl) rfl rfl) (λ_=>trivial) (hI.step (j:=8) (by decide) (by decide) fx (show NC bm d (ds.count d) 8 undef from rfl) (κ _ _) rfl)
    ·exact kh rfl (w4 (cH ⟨4,.guard⟩ (by simp) rfl) rfl rfl) (λ_=>trivial) (hI.step (j:=9) (by decide) (by decide) fx (show NC bm d (ds.count d) 9 undef from rfl) (κ _ _) rfl)
    ·exact kh rfl (w4 (cH ⟨4,.guard⟩ (by simp) rfl) rfl rfl) (λ_=>trivial) (hI.step (j:=10) (by decide) (by decide) fx (show NC bm d (ds.count d) 10 undef from rfl) (κ _ _) rfl)
    ·exact kh rfl (w4 (cH ⟨4,.guard⟩ (by simp) rfl) rfl rfl) (λ_=>trivial) (hI.step (j:=11) (by decide) (by decide) fx (show NC bm d (ds.count d) 11 undef from rfl) (κ _ _) rfl)
    ·exact kh rfl (w4 (cH ⟨4,.guard⟩ (by simp) rfl) rfl rfl) (λ_=>trivial) (hI.step (j:=12) (by decide) (by decide) fx (show NC bm d (ds.count d) 12 undef from rfl) (κ _ _) rfl)
    ·exact kh rfl (w4 (cH ⟨4,.guard⟩ (by simp) rfl) rfl rfl) (λ_=>trivial) (hI.step (j:=13) (by decide) (by decide) fx (show NC bm d (ds.count d) 13 undef from rfl) (κ _ _) rfl)
    have e1:a.eval (.tmp 18)=.bool false:=hI.eA 4 (by decide) (cH ⟨4,.data⟩ (by simp) rfl);exact de rfl rfl (bw (λ_=>trivial) (λ_ h=>by cases h) (adV rfl e1) (hI.step (j:=14) (by decide) (by decide) fx rfl (κ _ _) rfl))
  case neg=>
   have hcz:ds.count d=0:=Hi.2 (by simpa using hc);have iK:=H (show YS.drop q=(d*86400+st%86400)::vK st ex (XS.drop (i+1))from by rw[fE.out,if_neg hc];rfl);clear fE;obtain⟨qs,lZ,zK⟩:=po iK.out;replace lZ:=H lZ;clear iK;rw[hcz]at gl;have hY':=H (λY (U:Below W5.heap.size W5 Y)=>uy.out q _ qs Y D0 (mN.aM (ak.ar U)) bq.dO bq.Od (bq.below U).on);have hBG:=H (λY=>H0 d Y (by omega) (by omega));refine ni (YI 14 12 29 (rj be W.heap.size b5 W4.heap.size) W5 (NB l be bm d st) (λW'=>∃Y,Below W5.heap.size W5 Y/\aN D0 Y.heap.size (atF (q+1)) Y W') (λW'=>∃Y,Below W5.heap.size W5 Y/\aN D0 Y.heap.size Js Y W') BB) FU (by kernel_rfl) ?rops ?rdone (YI.start rfl rfl (λp J=>by
    simp only[rj,Β,Α,or_false]at J;rcases J with rfl|rfl|rfl|rfl<;>rfl) (κ _ _).drew)
   case rdone=>
    intro L a WX bx hI;obtain⟨_,b,_,hT,hF,hB⟩:=hI.post (bx 12 (by decide));have Xi:a.eval (.tmp 28)=.bool (!b):=hB 14 (by decide) (bx 14 (by decide));obtain⟨fr,rfl,hf⟩:=J4 a hI.size hI.defers;have f28:=(hf 28).symm.trans Xi;rw[f28];clear hf Xi f28 hI hB;refine eM _ _ ?_;clear eM;cases b
    case true=>
     obtain⟨Y,fk,J⟩:=hT rfl;obtain⟨eV,eh,mO,jj⟩:=(bq.below fk).post (by have:=fk.size;omega) J;have eP:ak (λk=>D k\/k=W4.heap.size) W5 WX:=(ak.ar fk).trans jj (λk I=>.inl (bq.sub k I));have Bb:=fk.size;clear hT hF;gi_wp2_with fail;exact⟨eP,λk=>(D k\/k=W4.heap.size)\/eV k,λk I=>I.elim .inl λh=>(mO k h).elim (λh=>.inl (bq.sub k h)) (λh=>.inr (by omega)),λk I=>.inl I,DK.cL (λk I=>I.elim (λh=>ν (dN k h) eP.size) (λh=>eh.on.1 k h)) ⟨q+1,eV,eh,zK,lZ.out⟩⟩
    case false=>
     obtain⟨Y,fk,J⟩:=hF rfl;obtain⟨eV,eh,mO,jj⟩:=(bq.below fk).post (by have:=fk.size;omega) J;have eP:ak (λk=>D k\/k=W4.heap.size) W5 WX:=(ak.ar fk).trans jj (λk I=>.inl (bq.sub k I));have Bb:=fk.size;clear hT hF;gi_wp2_with fail;exact⟨eP,λk=>(D k\/k=W4.heap.size)\/eV k,λk I=>I.elim .inl λh=>(mO k h).elim (λh=>.inl (bq.sub k h)) (λh=>.inr (by omega)),λk I=>.inl I,qx.TQ (DX.cL (λk I=>I.elim (λh=>ν (dN k h) eP.size) (λh=>eh.on.1 k h)) ⟨eV,eh⟩)⟩
   case rops=>
    intro L j o a Y ho fI cH hC hI;have hj:j<15:=(Array.getElem?_eq_some_iff.1 ho).1;have s1:a.eval (.tmp 1)=ε (some ⟨be,0,none⟩):=hI.fixed (1,_) (by simp[rj]);have s4:a.eval (.tmp 4)=ε (some ⟨W.heap.size,0,none⟩):=hI.fixed (4,_) (by simp[rj]);have s5:a.eval (.tmp 5)=ε (some ⟨b5,0,none⟩):=hI.fixed (5,_) (by simp[rj]);have s6:a.eval (.tmp 6)=ε (some ⟨W4.heap.size,0,none⟩):=hI.fixed (6,_) (by simp[rj]);have w4:L 4=true->∀{ops:Array Ε} {o':Ε},((ops[4]?).bind (·.dst))=some 18->o'.guard=some (4,true)->ρ o' (yielded ops a.tmps)=true:=λN ops o' hd hg=>by
     rw[J3 hg hd (d:=18) (by rw[hI.size];decide) (c:=true) (hI.eA 4 (by decide) N)];rfl
    have eQ:j=0\/j=1\/j=2\/j=3\/j=4\/j=5\/j=6\/j=7\/j=8\/j=9\/j=10\/j=11\/j=12\/j=13\/j=14:=by omega
    rcases eQ with rfl|rfl|rfl|rfl|rfl|rfl|rfl|rfl|rfl|rfl|rfl|rfl|rfl|rfl|rfl<;>obtain rfl:=Τ ho
    ·exact de rfl rfl (bw (λ_=>trivial) (λ_ h=>by cases h) (aY rfl s5 (g5 _ (hI.below (by decide) fI))) (hI.fS (by decide) fI (by decide) fx rfl (κ _ _) rfl))
    ·exact de rfl rfl (bw (λ_=>trivial) (λ_ h=>by cases h) (aY rfl s6 (g6 _ (hI.below (by decide) fI))) (hI.fS (by decide) fI (by decide) fx rfl (κ _ _) rfl))
    ·have xD:a.eval (.tmp 14)=.map (some bm):=hI.eA 0 (by decide) (cH ⟨0,.data⟩ (by simp) rfl);have uk:a.eval (.tmp 15)=aW d:=hI.eA 1 (by decide) (cH ⟨1,.data⟩ (by simp) rfl);exact de rfl rfl (bw (λ_=>trivial) (λ_ h=>by cases h) (Xg rfl xD uk (gl _ (hI.below (by decide) fI))) (hI.fS (by decide) fI (by decide) fx rfl (κ _ _) rfl))
    ·have uT:a.eval (.tmp 16)=V Z 0:=hI.eA 2 (by decide) (cH ⟨2,.data⟩ (by simp) rfl);exact de rfl rfl (bw (λ_=>trivial) (λ_ h=>by cases h) (QW rfl uT) (hI.fS (by decide) fI (by decide) fx rfl (κ _ _) rfl))
    ·have qA:a.eval (.tmp 17)=.bool true:=hI.eA 3 (by decide) (cH ⟨3,.data⟩ (by simp) rfl);exact de rfl rfl (bw (λ_=>trivial) (λ_ h=>by cases h) (cW rfl qA) (hI.fS (by decide) fI (by decide) fx rfl (κ _ _) rfl))
    ·exact je rfl (w4 (cH ⟨4,.guard⟩ (by simp) rfl) rfl rfl) (bw (λ_=>trivial) (λ_ h=>by cases h) (aY rfl s4 (g4 _ (hI.below (by decide) fI))) (hI.fS (by decide) fI (by decide) fx rfl (κ _ _) rfl))
    ·exact je rfl (w4 (cH ⟨4,.guard⟩ (by simp) rfl) rfl rfl) (bw (λ_=>trivial) (λ_ h=>by cases h) (aY rfl s6 (g6 _ (hI.below (by decide) fI))) (hI.fS (by decide) fI (by decide) fx rfl (κ _ _) rfl))
    ·have Cv:a.eval (.tmp 20)=aW d:=hI.eA 6 (by decide) (cH ⟨6,.data⟩ (by simp) rfl);exact je rfl (w4 (cH ⟨4,.guard⟩ (by simp) rfl) rfl rfl) (WW (f:=64) (args:=#[a.eval (.tmp 20)]) (λ_ h=>by cases h) (by kernel_rfl) (by rw[Cv];exact hBG.out Y) (λaz U=>hI.fS (by decide) fI (by decide) fx rfl U rfl))
    ·exact je rfl (w4 (cH ⟨4,.guard⟩ (by simp) rfl) rfl rfl) (bw (λ_=>trivial) (λ_ h=>by cases h) (cR rfl s1 (Xd be 1 1 (.inr (.inl rfl)) _)) (hI.fS (by decide) fI (by decide) fx rfl (κ _ _) rfl))
    ·have QY:a.eval (.tmp 22)=ε (some ⟨be,1,none⟩):=hI.eA 8 (by decide) (cH ⟨8,.data⟩ (by simp) rfl);exact je rfl (w4 (cH ⟨4,.guard⟩ (by simp) rfl) rfl rfl) (bw (λ_=>trivial) (λ_ h=>by cases h) (aY rfl QY (g1 _ (hI.below (by decide) fI))) (hI.fS (by decide) fI (by decide) fx rfl (κ _ _) rfl))
    ·have QZ:a.eval (.tmp 23)=V Z st:=hI.eA 9 (by decide) (cH ⟨9,.data⟩ (by simp) rfl);exact je rfl (w4 (cH ⟨4,.guard⟩ (by simp) rfl) rfl rfl) (bw (λ_=>trivial) (λ_ h=>by cases h) (adX rfl QZ s0) (hI.fS (by decide) fI (by decide) fx rfl (κ _ _) rfl))
    ·have Q0:a.eval (.tmp 21)=V Z (d*86400):=hI.eA 7 (by decide) (cH ⟨7,.data⟩ (by simp) rfl);have Q1:a.eval (.tmp 24)=V Z (st%86400):=hI.eA 10 (by decide) (cH ⟨10,.data⟩ (by simp) rfl);exact je rfl (w4 (cH ⟨4,.guard⟩ (by simp) rfl) rfl rfl) (bw (λ_=>trivial) (λ_ h=>by cases h) (adY rfl Q0 Q1 (by omega) (by omega)) (hI.fS (by decide) fI (by decide) fx rfl (κ _ _) rfl))
    ·
     have bx:∀j,j<12->L j=true:=by
      have l5:=cH ⟨5,.data⟩ (by simp) rfl;have l11:=cH ⟨11,.data⟩ (by simp) rfl;have l4:=cH ⟨4,.guard⟩ (by simp) rfl;have l7:=hC 11 _ rfl l11 ⟨7,.data⟩ (by simp) rfl;have l10:=hC 11 _ rfl l11 ⟨10,.data⟩ (by simp) rfl;have l9:=hC 10 _ rfl l10 ⟨9,.data⟩ (by simp) rfl;have l8:=hC 9 _ rfl l9 ⟨8,.data⟩ (by simp) rfl;have l6:=hC 7 _ rfl l7 ⟨6,.data⟩ (by simp) rfl;have l3:=hC 4 _ rfl l4 ⟨3,.data⟩ (by simp) rfl;have l2:=hC 3 _ rfl l3 ⟨2,.data⟩ (by simp) rfl;have l0:=hC 2 _ rfl l2 ⟨0,.data⟩ (by simp) rfl;have l1:=hC 2 _ rfl l2 ⟨1,.data⟩ (by simp) rfl;intro j hj;have eQ:j=0\/j=1\/j=2\/j=3\/j=4\/j=5\/j=6\/j=7\/j=8\/j=9\/j=10\/j=11:=by omega
      rcases eQ with rfl|rfl|rfl|rfl|rfl|rfl|rfl|rfl|rfl|rfl|rfl|rfl<;>assumption
     have MF:a.eval (.tmp 19)=.func (.yield l) #[] #[]:=hI.eA 5 (by decide) (bx 5 (by decide));have Gl:a.eval (.tmp 25)=V Z (d*86400+st%86400):=hI.eA 11 (by decide) (bx 11 (by decide));have fH:=(hI.pre fI).1;obtain⟨EW,uz,EX,EY,gI,eE⟩:=hY'.out Y fH;refine je rfl (w4 (bx 4 (by decide)) rfl rfl) (Gi (λ_ h=>by cases h) (Xh rfl MF Gl gI) eE ?_ ?_ ?_)
     ·rintro v W' (⟨he,J⟩|⟨he,J⟩|⟨c,he,_⟩)
      ·cases he;exact hI.Gj bx fI (by decide) fx (λ_=>⟨Y,fH,J⟩) (λh=>by cases h) rfl
      ·cases he;exact hI.Gj bx fI (by decide) fx (λh=>by cases h) (λ_=>⟨Y,fH,J⟩) rfl
      cases he
     ·rintro c W' (⟨he,_⟩|⟨he,_⟩|⟨c',he,J⟩)
      ·cases he
      ·cases he
      cases he;obtain⟨eV,eh,mO,jj⟩:=(bq.below fH).post (by have:=fH.size;omega) J;have eP:ak (λk=>D k\/k=W4.heap.size) W5 W':=(ak.ar fH).trans jj (λk I=>.inl (bq.sub k I));have Bb:=fH.size;exact⟨hI.defers,eP,λk=>(D k\/k=W4.heap.size)\/eV k,λk I=>I.elim .inl λh=>(mO k h).elim (λh=>.inl (bq.sub k h)) (λh=>.inr (by omega)),λk I=>.inl I,DX.cL (λk I=>I.elim (λh=>ν (dN k h) eP.size) (λh=>eh.on.1 k h)) ⟨eV,eh⟩⟩
     rintro W' (⟨he,_⟩|⟨he,_⟩|⟨c',he,_⟩)<;>cases he
    ·have Xj:=cH ⟨12,.data⟩ (by simp) rfl;have l4:=cH ⟨4,.guard⟩ (by simp) rfl;obtain⟨_,b,NP,_,_,_⟩:=hI.post Xj;exact je rfl (w4 l4 rfl rfl) (bw (λ_=>trivial) (λ_ h=>by cases h) (QX rfl NP) (hI.zc (by decide) fI Xj (by decide) fx (λb' fk=>by
      have NR:a.eval (.tmp 26)=.bool b':=fk;rw[NP]at NR;cases NR;rfl) rfl))
    have l13:=cH ⟨13,.data⟩ (by simp) rfl;have Xj:=hC 13 _ rfl l13 ⟨12,.data⟩ (by simp) rfl;have e18:a.eval (.tmp 18)=.bool true:=hI.eA 4 (by decide) (cH ⟨4,.data⟩ (by simp) rfl);obtain⟨_,b,NP,_,_,hB⟩:=hI.post Xj;have e27:a.eval (.tmp 27)=.bool (!b):=hB 13 (by decide) l13;exact de rfl rfl (bw (λ_=>trivial) (λ_ h=>by cases h) (adW rfl e18 e27) (hI.zc (by decide) fI Xj (by decide) fx (λb' fk=>by
     have NR:a.eval (.tmp 26)=.bool b':=fk;rw[NP]at NR;cases NR;rfl) rfl))
end Go.Proofs.YthpndgcaoeokeaaGreatDoor
