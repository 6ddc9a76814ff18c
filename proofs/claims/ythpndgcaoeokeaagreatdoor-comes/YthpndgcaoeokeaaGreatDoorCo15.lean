import Derived.Test.YthpndgcaoeokeaaGreatDoorCo14
set_option maxRecDepth 100000
set_option maxHeartbeats 8000000
open Go.IntKind renaming i64→Z
open Go.Value renaming int→V,pointer→δ,slice→ε,string→ζ
open Go.Obj renaming cells→η
open Go.AllReady renaming cons→θ,nil→κ
open List renaming length_append→ι,mem_singleton→ν,size_toArray→π,append_nil→ω,getElem?_eq_getElem→Α,length_nil→Β
open Go.RowKit.Below renaming refl→μ
open ByteArray renaming ext→ξ
open Nat renaming le_trans→ο,le_refl→υ,mul_le_mul→Γ
open Go.World renaming cell?_alloc_past→ρ,drew→Δ
open Go renaming World→τ,TypeId→Ε
open Go.Lib renaming decDigits→φ,join→ψ
open Or renaming inl→χ
namespace Go.Proofs.YthpndgcaoeokeaaGreatDoor
open Tryz
open Go.RowKit Go.Sort
theorem KF (fq iv ct un:Int)(a1 a2 a3 a4:Option Addr)(l1 l2 l3 l4 c1 c2 c3 c4:Nat)(ws:Int)(tx:ByteArray)(w:τ):
 Calls prog 84 #[.agg #[V Z fq, V Z iv, V Z ct, V Z un, ε a1 l1 c1, ε a2 l2 c2, ε a3 l3 c3, ε a4 l4 c4, V Z ws, ζ tx]] w fun E w'=>E= .returned (ζ tx)∧Below w.heap.size w w':=by
 go_enter func84,ntmps84;go_wp2;go_ret;exact⟨rfl,(μ _ _).alloc (υ _) _⟩
theorem nL (a:Act)(h:a.tmps.size=69)(hd:a.defers=[]):∃f:Nat→Value,a=⟨List.toArray (f 0::f 1::f 2::f 3::f 4::f 5::f 6::f 7::f 8::f 9::f 10::f 11::f 12::f 13::f 14::f 15::f 16::f 17::f 18::f 19::f 20::f 21::f 22::f 23::f 24::f 25::f 26::f 27::f 28::f 29::f 30::f 31::f 32::f 33::f 34::f 35::f 36::f 37::f 38::f 39::f 40::f 41::f 42::f 43::f 44::f 45::f 46::f 47::f 48::f 49::f 50::f 51::f 52::f 53::f 54::f 55::f 56::f 57::f 58::f 59::f 60::f 61::f 62::f 63::f 64::f 65::f 66::f 67::f 68::[]),[]⟩∧∀k,a.eval (.tmp k)=f k:=jo 69 a h hd
theorem P6 {w:τ}{g B:Nat}{xs:List Value}{e:Ε}(h:af w g xs e)(hB:B≤g)(hl:xs.length≤1000):w.ownsRow B e 1 (ε (some ⟨g,0,none⟩) xs.length xs.length) xs.length xs:=
 ⟨by omega, .inr ⟨g,xs.length,xs.toArray,rfl,hB,h,υ _,by unfold maxLen;omega,by simp,by simp⟩⟩
theorem sK {w w':τ}{B:Nat}{e:Ε}{v:Value}{n:Nat}{xs:List Value}(h:w.ownsRow B e 1 v n xs)(hb:Below w.heap.size w w'):w'.ownsRow B e 1 v n xs:=dY h fun g hg _=>hb.block g hg
theorem BE {P:Program}{o:Oper}{a:Act}{K:Act→τ→Prop}{Q:Exit→Act→τ→Prop}{w w0:τ}{p:Nat}(s x:Operand)(t e:Ε)(z:Value)(bytes:Nat)
 (ho:o.op= .call {callee:= .builtin .append,args:=#[s,x],argTypes:=#[t,t]})(hu:P.underlying t=some (.slice e))
 (kN:(P.info? e).map (fun i=>(i.zero,i.size,i.bytes))=some (some z,1,bytes))(hz:z.cells.size=1)(B:Nat)(v:Value)(n:Nat)(xs:List Value)(hs:a.eval s=v)
 (aw:w0.ownsRow B e 1 v n xs)(aX:Below B w w0)(hB:B≤w0.heap.size)(y:Value)(hy:y.oneCell'=true)(hx:a.eval x= ε (some ⟨p,0,none⟩) 1 1)
 (hc:w0.cell? ⟨p,0,none⟩=some y)(hn:n≤4194304)(gC:bytes≤64)
 (h:∀v' w1,w1.ownsRow B e 1 v' (n+1) (xs++[y])→Below B w w1→B≤w1.heap.size→K (a.put o.dst v') w1):o.wp P a w0 K Q:=by
 obtain⟨i0,hi,fH,eP,fb⟩:=info_parts kN;refine wp_append_own _ s x t ho B e i0 z 1 bytes hu hi fH eP fb hz (by decide) v n xs hs aw ⟨p,0,none⟩ 1 1 [y] hx rfl ?_ ?_ ?_ ?_ hB ?_
 ·intro j u hj
  match j,hj with
  |0,hj=>simp at hj;subst hj;exact hc
 ·intro u hu;simp at hu;subst hu;exact hy
 ·unfold maxLen;omega
 ·have:(n+1) * bytes≤4194305 * 64:=Γ (by omega) gC;omega
 ·intro v' w1 dj eJ _;exact h v' w1 dj (aX.grown eJ hB (fun k hk=>(aw.lt k hk).1)) (ο hB eJ.size)
theorem kO {w:τ}{B n:Nat}{v:Value}{ls mM ms:List (List UInt8)}{t:List UInt8}{X:ByteArray}(h:w.ownsRow B 9 1 v (n+1) (strs ls++[ζ X]))(hX:X=⟨t.toArray⟩)(hm:ms=[t])(hn:n=ls.length)(hl:mM=ls++ms):w.ownsRow B 9 1 v mM.length (strs mM):=by
 subst hl hm hX hn;rw[uF,ι];exact h
theorem oG (zs:List Int)(h:zs.length≤20):(⟨(ψ (zs.map fC) [44]).toArray⟩:ByteArray).size≤1000:=by
 show(ψ (zs.map fC) [44]).toArray.size≤_;rw[π];have:=gW [44] 16 (zs.map fC) (fun t ht=>by
  obtain⟨z,_,rfl⟩:=List.mem_map.1 ht;exact sb z)
 rw[List.length_map]at this;have h2:zs.length * (16+[(44:UInt8)].length)≤20 * 17:=Γ h (by simp);omega
theorem XY:∀(k n:Nat),0<k→n<10^k→Lib.nDigits n≤k
 |0,n,h,_=>absurd h (by omega)
 |k+1,n,_,h=>by
  by_cases h1:n<10
  ·rw[Lib.nDigits_small h1];omega
  ·rw[Lib.nDigits_big h1];have hk:0<k:=by
    rcases Nat.eq_zero_or_pos k with e|e
    ·subst e;simp at h;omega
    ·exact e
   have:=XY k (n/10) hk (by rw[Nat.pow_succ]at h;omega);omega
theorem Gb (n:Nat)(h:n<100000000):(φ n).length≤8:=by
 rw[Lib.decDigits_length];exact XY 8 n (by omega) h
theorem RM {w:τ}{B:Nat}{v:Value}{L:List (List UInt8)}{e:Ε}(h:w.ownsRow B e 1 v L.length (strs L))(hp:0<L.length):∃g c,v= ε (some ⟨g,0,none⟩) L.length c∧g<w.heap.size∧cE w g 0 L:=by
 rcases ky h with⟨_,hn⟩|⟨g,cap,rfl,_,hg,hc⟩
 ·have:=congrArg List.length hn;rw[iF,Β]at this;omega
 ·refine⟨g,cap,rfl,hg,fun j hj=>?_⟩;rw[Nat.zero_add];refine hc j _ ?_;unfold strs;rw[List.getElem?_map,Α hj];simp[List.getD_eq_getElem?_getD,Α hj]
theorem RN (m:Nat):∀(ls:List (List UInt8)),(∀l∈ls,l.length≤m)→(de ls).length≤ls.length * (m+2)
 |[],_=>by simp[de]
 |l::r,h=>by
  have h1:=RN m r (fun x hx=>h x (by simp[hx]));have h2:=h l (by simp);have e:de (l::r)=l++[13,10]++de r:=by simp[de]
  rw[e,ι,ι,show(l::r).length=r.length+1 from rfl,Nat.add_mul];simp only[List.length_cons,Β];omega
theorem H7 (u:List UInt8)(st ln:Int)(rt:Option (List UInt8))(ex xt:List Int)(tr:Bool)(k:Int)(hu:u.length≤2000)(hr:(rt.getD []).length≤20000)(hx:ex.length≤20)(hy:xt.length≤20)(ow:ln≤2678400):(de (wY u st ln rt ex xt tr k)).length≤400000:=by
 have h5:∀l∈wY u st ln rt ex xt tr k,l.length≤30000:=by
  intro l hl;have jn:∀zs:List Int,zs.length≤20→(ψ (zs.map fC) [44]).length≤1000:=fun zs hz=>ο (Nat.le_of_eq (@π _ (ψ (zs.map fC) [44])).symm) (oG zs hz);unfold wY at hl;simp only[List.mem_append]at hl;rcases hl with(((((hl|hl)|hl)|hl)|hl)|hl)|hl
  ·unfold nK at hl;simp only[List.mem_cons,List.not_mem_nil,or_false]at hl;have h1:=sb st;have h2:=Gb ln.toNat (by omega);rcases hl with rfl|rfl|rfl|rfl
   ·decide
   ·rw[ι];have:F5.length=4:=rfl;omega
   ·rw[ι];have:F6.length=8:=rfl;omega
   ·rw[ι,ι];have:F7.length=11:=rfl;simp;omega
  ·unfold zZ at hl;cases rt with
   |none=>simp at hl
   |some t=>
    simp only[ν]at hl;subst hl;rw[ι];have:F9.length=6:=rfl;simp at hr;omega
  ·unfold zj at hl;split at hl
   ·simp at hl
   ·rw[ν]at hl;subst hl;rw[ι];have:Ky.length=7:=rfl;have:=jn ex hx;omega
  ·unfold zk at hl;split at hl
   ·simp at hl
   ·rw[ν]at hl;subst hl;rw[ι];have:Kz.length=6:=rfl;have:=jn xt hy;omega
  ·cases tr with
   |false=>simp[wX]at hl
   |true=>
    simp only[wX,if_true,ν]at hl;subst hl;decide
  ·unfold zl at hl;split at hl
   ·rw[ν]at hl;subst hl;decide
   ·split at hl
    ·rw[ν]at hl;subst hl;decide
    ·simp at hl
  ·rw[ν]at hl;subst hl;decide
 have h6:(wY u st ln rt ex xt tr k).length≤10:=by
  unfold wY;simp only[ι];have a1:(nK u st ln).length=4:=rfl;have a2:(zZ rt).length≤1:=by cases rt<;>simp[zZ]
  have a3:(zj ex).length≤1:=by unfold zj;split<;>simp
  have a4:(zk xt).length≤1:=by unfold zk;split<;>simp
  have a5:(wX tr).length≤1:=by cases tr<;>simp[wX]
  have a6:(zl k).length≤1:=by unfold zl;split<;>(try split)<;>simp
  simp;omega
 have h7:=RN 30000 _ h5;have h8:(wY u st ln rt ex xt tr k).length * (30000+2)≤10 * 30002:=Nat.mul_le_mul_right _ h6;omega
structure XZ (L1 L2 L3 L4 L5:List (List UInt8)):Prop where
 h1:L1.length≤5
 h2:L2.length≤6
 h3:L3.length≤7
 h4:L4.length≤8
 h5:L5.length≤9
theorem aeF {u tx:List UInt8}{st ln k:Int}{hr tr:Bool}{ex xt:List Int}{L1 L2 L3 L4 L5:List (List UInt8)}(h1:L1=nK u st ln++zZ (if hr then some tx else none))(h2:L2=L1++zj ex)(h3:L3=L2++zk xt)(h4:L4=L3++wX tr)(h5:L5=L4++zl k):XZ L1 L2 L3 L4 L5:=by
 have e1:L1.length≤5:=by subst h1;cases hr<;>simp[nK,zZ]
 have e2:L2.length≤6:=by subst h2;rw[ι];unfold zj;split<;>simp<;>omega
 have e3:L3.length≤7:=by subst h3;rw[ι];unfold zk;split<;>simp<;>omega
 have e4:L4.length≤8:=by subst h4;rw[ι];cases tr<;>simp[wX]<;>omega
 have e5:L5.length≤9:=by subst h5;rw[ι];unfold zl;split<;>(try split)<;>simp<;>omega
 exact⟨e1,e2,e3,e4,e5⟩
theorem H9 {w:τ}{a:Option Addr}{n c:Nat}{zs:List Int}(h:dn w (ε a n c) zs)(hz:¬zs.length=0):∃g rest,a=some ⟨g,0,none⟩∧af w g ((zs++rest).map (Value.int Z)) 3:=by
 rcases h with⟨_,rfl⟩|⟨g,cap,rest,e,hr⟩
 ·exact absurd rfl hz
 ·cases e;exact⟨g,rest,rfl,hr⟩
structure TI (b:Nat)(W:τ)(ls:List (List UInt8))(a:Act)(wr:τ):Prop where
 size:a.tmps.size=69
 defers:a.defers=[]
 s1:a.eval (.tmp 1)= δ (some ⟨b,0,none⟩)
 own:∃v,a.eval (.tmp 3)=v∧wr.ownsRow W.heap.size 9 1 v ls.length (strs ls)
 below:Below W.heap.size W wr
def ahC:ByteArray:=⟨#[66,69,71,73,78,58,86,69,86,69,78,84]⟩
def Gc:ByteArray:=⟨#[85,73,68,58]⟩
def Gd:ByteArray:=⟨#[68,84,83,84,65,82,84,58]⟩
def yp:ByteArray:=⟨#[68,85,82,65,84,73,79,78,58,80,84]⟩
def kS:ByteArray:=⟨#[83]⟩
def Ot (i:Nat):Nat:=if i=13 then 3 else 4+i
def pC (U T D:ByteArray):List Value:=[ζ ahC, ζ (Gc++U), ζ (Gd++T), ζ (yp++D++kS)]
def NT (b:Nat)(W:τ)(U T D:ByteArray)(st ln:Int)(i:Nat)(v:Value)(w:τ):Prop:=match i with
 |0=>v= δ (some ⟨b,0,none⟩)
 |1=>v= ζ U
 |2=>v= ζ (Gc++U)
 |3=>v= δ (some ⟨b,1,none⟩)
 |4=>v= V Z st
 |5=>v= ζ T
 |6=>v= ζ (Gd++T)
 |7=>v= δ (some ⟨b,2,none⟩)
 |8=>v= V Z ln
 |9=>v= ζ D
 |10=>v= ζ (yp++D)
 |11=>v= ζ (yp++D++kS)
 |_=>∃g,W.heap.size≤g∧v= ε (some ⟨g,0,none⟩) 4 4∧af w g (pC U T D) 9
theorem NT.grow {b:Nat}{W:τ}{U T D:ByteArray}{st ln:Int}(i:Nat)(v:Value)(w w':τ)(h:NT b W U T D st ln i v w)(hb:Below w.heap.size w w'):NT b W U T D st ln i v w':=by
 match i,h with
 |0,h|1,h|2,h|3,h|4,h|5,h|6,h|7,h|8,h|9,h|10,h|11,h=>exact h
 |n+12,h=>
  obtain⟨g,h1,h2,h3⟩:=h;exact⟨g,h1,h2,h3.on hb⟩
theorem abA (b:Nat)(W:τ)(U T D:ByteArray)(st ln:Int):EF Ot [(1, δ (some ⟨b,0,none⟩))] 69 14 (NT b W U T D st ln):=
 ⟨fun i hi=>by unfold Ot;split<;>omega,fun i j hi hj h=>by unfold Ot at h;split at h<;>split at h<;>omega,fun p hp i hi=>by rw[ν]at hp;subst hp;show 1≠Ot i;unfold Ot;split<;>omega,NT.grow⟩
theorem uG (b k off:Nat)(h:(k,off)=(0,0)∨(k,off)=(1,1)∨(k,off)=(2,2))(w:τ):(Instr.fieldAt 79 (δ (some ⟨b,0,none⟩)) k).run prog w= .ok (δ (some ⟨b,off,none⟩)) w:=by
 rcases h with h|h|h<;>cases h<;>go_simp
theorem zn (u:List UInt8)(st ln:Int)(hr:Bool)(fq iv ct un:Int)(a1 a2 a3 a4 a5 a6:Option Addr)(l1 l2 l3 l4 c1 c2 c3 c4 c5 c6:Nat)(ws:Int)(tx:List UInt8)(ex xt:List Int)(tr:Bool)(k:Int)(w:τ)(ht:iU w)
 (hex:dn w (ε a5 ex.length c5) ex)(lG:dn w (ε a6 xt.length c6) xt)(hu:u.length≤2000)(htx:tx.length≤20000)(hle:ex.length≤20)(Ia:xt.length≤20)(mN:1≤ln)(oB:ln≤2678400)(jx:0≤k)(gm:k≤2):
 Calls prog 44 #[.agg #[ζ (bH u), V Z st, V Z ln, .bool hr, V Z fq, V Z iv, V Z ct, V Z un, ε a1 l1 c1, ε a2 l2 c2, ε a3 l3 c3, ε a4 l4 c4, V Z ws, ζ (bH tx), ε a5 ex.length c5, ε a6 xt.length c6, .bool tr, V Z k]] w fun E w'=>E= .returned (ζ ⟨(de (wY u st ln (if hr then some tx else none) ex xt tr k)).toArray⟩)∧Below w.heap.size w w':=by
 generalize hrt:(if hr then some tx else none)=rt;have EG:=ad hrt;clear hrt;have ax:=af.new w [ζ (bH u), V Z st, V Z ln, .bool hr, V Z fq, V Z iv, V Z ct, V Z un, ε a1 l1 c1, ε a2 l2 c2, ε a3 l3 c3, ε a4 l4 c4, V Z ws, ζ (bH tx), ε a5 ex.length c5, ε a6 xt.length c6, .bool tr, V Z k] 79;have jD:Below w.heap.size w (w.alloc (η #[ζ (bH u), V Z st, V Z ln, .bool hr, V Z fq, V Z iv, V Z ct, V Z un, ε a1 l1 c1, ε a2 l2 c2, ε a3 l3 c3, ε a4 l4 c4, V Z ws, ζ (bH tx), ε a5 ex.length c5, ε a6 xt.length c6, .bool tr, V Z k] 79)):=(μ _ _).alloc (υ _) _;have KG:(w.alloc (η #[ζ (bH u), V Z st, V Z ln, .bool hr, V Z fq, V Z iv, V Z ct, V Z un, ε a1 l1 c1, ε a2 l2 c2, ε a3 l3 c3, ε a4 l4 c4, V Z ws, ζ (bH tx), ε a5 ex.length c5, ε a6 xt.length c6, .bool tr, V Z k] 79)).heap.size=w.heap.size+1:=by simp
 have CI:=ad fun W (h:iU W)=>KH ln.toNat W (by omega) h;have CT:=ad fun W (h:iU W)=>Ac st W h;have mQ:Hid (((ln.toNat:Nat):Int)=ln):=ad (by omega);have HT:=ad ht;have RG:=ad hex;have HXT:=ad lG;clear ht hex lG;rw[mQ.out]at CI;obtain⟨U,hU⟩:∃U,U=bH u:=⟨_,rfl⟩;obtain⟨T,hT⟩:∃T:ByteArray,T=⟨(fC st).toArray⟩:=⟨_,rfl⟩;obtain⟨D,hD⟩:∃D:ByteArray,D=⟨(φ ln.toNat).toArray⟩:=⟨_,rfl⟩;have sU:U.size≤2000:=by rw[hU];show u.toArray.size≤_;rw[π];exact hu
 have sT:T.size≤16:=by rw[hT];show(fC st).toArray.size≤_;rw[π];exact sb st
 have sD:D.size≤8:=by rw[hD];show(φ ln.toNat).toArray.size≤_;rw[π];exact Gb _ (by omega)
 rw[←hU]at ax jD KG⊢;rw[←hT]at CT;rw[←hD]at CI;have HU:=ad hU;have Cb:=ad hT;have HD:=ad hD;clear hU hT hD;go_enter func44,ntmps44;go_upto_region 1 with fail;generalize w.alloc (η #[ζ U, V Z st, V Z ln, .bool hr, V Z fq, V Z iv, V Z ct, V Z un, ε a1 l1 c1, ε a2 l2 c2, ε a3 l3 c3, ε a4 l4 c4, V Z ws, ζ (bH tx), ε a5 ex.length c5, ε a6 xt.length c6, .bool tr, V Z k] 79)=W at *
 rename_i K hK;have d0:∀w',Below W.heap.size W w'→w'.cell? ⟨w.heap.size,0,none⟩=some (ζ U):=fun w' h=>(h.cell (p:=⟨w.heap.size,0,none⟩) (by rw[KG];exact Nat.lt_succ_self _)).trans (ax.cell (k:=0) rfl);have d1:∀w',Below W.heap.size W w'→w'.cell? ⟨w.heap.size,1,none⟩=some (V Z st):=fun w' h=>(h.cell (p:=⟨w.heap.size,1,none⟩) (by rw[KG];exact Nat.lt_succ_self _)).trans (ax.cell (k:=1) rfl);have d2:∀w',Below W.heap.size W w'→w'.cell? ⟨w.heap.size,2,none⟩=some (V Z ln):=fun w' h=>(h.cell (p:=⟨w.heap.size,2,none⟩) (by rw[KG];exact Nat.lt_succ_self _)).trans (ax.cell (k:=2) rfl);have htW:=HT.out.on jD;have S:=abA w.heap.size W U T D st ln;refine fT (GV Ot (NT w.heap.size W U T D st ln)) (JV 69 [(1, δ (some ⟨w.heap.size,0,none⟩))] W) (by kernel_rfl) (by kernel_rfl) (by kernel_rfl) ?_ ?_ ⟨rfl,rfl,fun p hp=>by rw[ν]at hp;subst hp;rfl,(μ _ _).drew⟩
 ·intro i o ho a w' hI hG;have hi:i<14:=(Array.getElem?_eq_some_iff.1 ho).1;have s1:a.eval (.tmp 1)= δ (some ⟨w.heap.size,0,none⟩):=hI.fixed _ (List.mem_singleton.2 rfl);have gA:i=0∨i=1∨i=2∨i=3∨i=4∨i=5∨i=6∨i=7∨i=8∨i=9∨i=10∨i=11∨i=12∨i=13:=by omega
  rcases gA with rfl|rfl|rfl|rfl|rfl|rfl|rfl|rfl|rfl|rfl|rfl|rfl|rfl|rfl<;>obtain rfl:=Option.some.inj ho
  ·
   exact aj (v:= δ (some ⟨w.heap.size,0,none⟩)) (rZ rfl s1 (uG _ 0 0 (.inl rfl) _)) (cg S rfl (by decide) hI (μ _ _) rfl)
  ·
   have e:a.eval (.tmp 4)= δ (some ⟨w.heap.size,0,none⟩):=hG ⟨0, .data⟩ (by simp) rfl;exact aj (v:= ζ U) (dp rfl e (HH (d0 _ hI.below))) (cg S rfl (by decide) hI (μ _ _) rfl)
  ·
   have e:a.eval (.tmp 5)= ζ U:=hG ⟨1, .data⟩ (by simp) rfl;exact aj (v:= ζ (Gc++U)) (iL rfl rfl e (by show 4+U.size≤_;omega)) (cg S rfl (by decide) hI (μ _ _) rfl)
  ·
   exact aj (v:= δ (some ⟨w.heap.size,1,none⟩)) (rZ rfl s1 (uG _ 1 1 (.inr (.inl rfl)) _)) (cg S rfl (by decide) hI (μ _ _) rfl)
  ·
   have e:a.eval (.tmp 7)= δ (some ⟨w.heap.size,1,none⟩):=hG ⟨3, .data⟩ (by simp) rfl;exact aj (v:= V Z st) (dp rfl e (iH (d1 _ hI.below))) (cg S rfl (by decide) hI (μ _ _) rfl)
  ·
   have e:a.eval (.tmp 8)= V Z st:=hG ⟨4, .data⟩ (by simp) rfl;exact yo (f:=82) (args:=#[a.eval (.tmp 8)]) (by kernel_rfl) (by rw[e];exact CT.out w' (htW.on hI.below)) (fun aA hb=>cg S rfl (by decide) hI hb rfl)
  ·
   have e:a.eval (.tmp 9)= ζ T:=hG ⟨5, .data⟩ (by simp) rfl;exact aj (v:= ζ (Gd++T)) (iL rfl rfl e (by show 8+T.size≤_;omega)) (cg S rfl (by decide) hI (μ _ _) rfl)
  ·
   exact aj (v:= δ (some ⟨w.heap.size,2,none⟩)) (rZ rfl s1 (uG _ 2 2 (.inr (.inr rfl)) _)) (cg S rfl (by decide) hI (μ _ _) rfl)
  ·
   have e:a.eval (.tmp 11)= δ (some ⟨w.heap.size,2,none⟩):=hG ⟨7, .data⟩ (by simp) rfl;exact aj (v:= V Z ln) (dp rfl e (iH (d2 _ hI.below))) (cg S rfl (by decide) hI (μ _ _) rfl)
  ·
   have e:a.eval (.tmp 12)= V Z ln:=hG ⟨8, .data⟩ (by simp) rfl;exact yo (f:=83) (args:=#[a.eval (.tmp 12)]) (by kernel_rfl) (by rw[e];exact CI.out w' (htW.on hI.below)) (fun aA hb=>cg S rfl (by decide) hI hb rfl)
  ·
   have e:a.eval (.tmp 13)= ζ D:=hG ⟨9, .data⟩ (by simp) rfl;exact aj (v:= ζ (yp++D)) (iL rfl rfl e (by show 11+D.size≤_;omega)) (cg S rfl (by decide) hI (μ _ _) rfl)
  ·
   have e:a.eval (.tmp 14)= ζ (yp++D):=hG ⟨10, .data⟩ (by simp) rfl;exact aj (v:= ζ (yp++D++kS)) (iL rfl e rfl (by rw[ByteArray.size_append];show 11+D.size+1≤_;omega)) (cg S rfl (by decide) hI (μ _ _) rfl)
  ·
   have e1:a.eval (.tmp 6)= ζ (Gc++U):=hG ⟨2, .data⟩ (by simp) rfl;have e2:a.eval (.tmp 10)= ζ (Gd++T):=hG ⟨6, .data⟩ (by simp) rfl;have e3:a.eval (.tmp 15)= ζ (yp++D++kS):=hG ⟨11, .data⟩ (by simp) rfl;refine aj (w':=w'.alloc (η (pC U T D).toArray 9)) (v:= ε (some ⟨w'.heap.size,0,none⟩) 4 4) (Vn rfl e1 e2 e3) (cg S rfl (by decide) hI ((μ _ _).alloc (υ _) _) ⟨w'.heap.size,hI.below.size,rfl,af.new w' (pC U T D) 9⟩)
  ·
   have e:∃g,W.heap.size≤g∧a.eval (.tmp 16)= ε (some ⟨g,0,none⟩) 4 4∧af w' g (pC U T D) 9:=hG ⟨12, .data⟩ (by simp) rfl;exact aj (v:=a.eval (.tmp 16)) (Oq rfl rfl) (cg S rfl (by decide) hI (μ _ _) e)
 intro a w4 hI hG;obtain⟨g,hg,e3,BC⟩:∃g,W.heap.size≤g∧a.eval (.tmp 3)= ε (some ⟨g,0,none⟩) 4 4∧af w4 g (pC U T D) 9:=hG 13 (by decide);have s1:a.eval (.tmp 1)= δ (some ⟨w.heap.size,0,none⟩):=hI.fixed _ (List.mem_singleton.2 rfl);have dN:=hI.below;have bu:=hI.size;have nM:=hI.defers;clear hI hG d0 d1 d2 S CI CT sT sD;refine hK a w4 ?_;obtain⟨f,rfl,hf⟩:=nL a bu nM;have f1:=(hf 1).symm.trans s1;have f3:=(hf 3).symm.trans e3;rw[f1,f3];clear hf bu nM s1 e3 hK;have abC:w4.ownsRow W.heap.size 9 1 (ε (some ⟨g,0,none⟩) 4 4) (nK u st ln).length (strs (nK u st ln)):=by
  have e:pC U T D=strs (nK u st ln):=by
   have e1:Gc++bH u=⟨(F5++u).toArray⟩:=by apply ξ;simp[Gc,bH,F5]
   have e2:Gd++⟨(fC st).toArray⟩=⟨(F6++fC st).toArray⟩:=by apply ξ;simp[Gd,F6]
   have e3:yp++⟨(φ ln.toNat).toArray⟩++kS=⟨(F7++φ ln.toNat++[83]).toArray⟩:=by apply ξ;simp[yp,kS,F7]
   unfold pC strs nK;rw[HU.out,Cb.out,HD.out,e1,e2,e3];rfl
  rw[e]at BC;exact P6 (xs:=strs (nK u st ln)) BC hg (show 4≤1000 by decide)
 have lB:=ad ax;have oH:=ad jD;have Ib:=dN.size;have HO4:=ad abC;have RO:=ad dN;clear abC BC ax jD dN sU HU Cb HD;obtain⟨L1,zo⟩:∃L1,L1=nK u st ln++zZ rt:=⟨_,rfl⟩;obtain⟨L2,gS⟩:∃L2,L2=L1++zj ex:=⟨_,rfl⟩;obtain⟨L3,Cc⟩:∃L3,L3=L2++zk xt:=⟨_,rfl⟩;obtain⟨L4,Cd⟩:∃L4,L4=L3++wX tr:=⟨_,rfl⟩;obtain⟨L5,Ce⟩:∃L5,L5=L4++zl k:=⟨_,rfl⟩;have mQ:Hid (XZ L1 L2 L3 L4 L5):=ad (aeF (tx:=tx) (hr:=hr) (by rw[EG.out];exact zo) gS Cc Cd Ce);have Ou:Hid (wY u st ln rt ex xt tr k=L5++[pA]):=ad (by rw[Ce,Cd,Cc,gS,zo];rfl);have H1:=ad zo;have H2:=ad gS;have H3:=ad Cc;have H4:=ad Cd;have H5:=ad Ce;clear zo gS Cc Cd Ce;have sTX:(bH tx).size≤20000:=by show tx.toArray.size≤_;rw[π];exact htx
 go_upto_region 2 with fail;rename_i K1 aP K2 dI;have r1:∀a wr,TI w.heap.size W L1 a wr→K1 a wr:=by
  clear dI K2 HO4 RO Ib;intro a wr h;refine aP a wr ?_;clear aP;obtain⟨v3,e3,aw⟩:=h.own;obtain⟨q3,n3,m3,rfl⟩:=dF aw;obtain⟨f,rfl,hf⟩:=nL a h.size h.defers;have f1:=(hf 1).symm.trans h.s1;have f3:=(hf 3).symm.trans e3;rw[f1,f3];have HO:=ad aw;have cH:=ad h.below;have gD:=cH.out.size;clear hf e3 aw h f1 f3;go_upto_region 4 with fail;rename_i K1 aP K2 dI;have c0:wr.cell? ⟨w.heap.size,14,none⟩=some (ε a5 ex.length c5):=(lB.out.on cH.out).cell (k:=14) rfl;have r2:∀a wr,TI w.heap.size W L2 a wr→K1 a wr:=by
   clear dI K2 HO cH gD c0;intro a wr h;refine aP a wr ?_;clear aP;obtain⟨v3,e3,aw⟩:=h.own;obtain⟨q3,n3,m3,rfl⟩:=dF aw;obtain⟨f,rfl,hf⟩:=nL a h.size h.defers;have f1:=(hf 1).symm.trans h.s1;have f3:=(hf 3).symm.trans e3;rw[f1,f3];have HO:=ad aw;have cH:=ad h.below;have gD:=cH.out.size;clear hf e3 aw h f1 f3;go_upto_region 6 with fail;rename_i K1 aP K2 dI;have c0:wr.cell? ⟨w.heap.size,15,none⟩=some (ε a6 xt.length c6):=(lB.out.on cH.out).cell (k:=15) rfl;have r3:∀a wr,TI w.heap.size W L3 a wr→K1 a wr:=by
    clear dI K2 HO cH gD c0;intro a wr h;refine aP a wr ?_;clear aP;obtain⟨v3,e3,aw⟩:=h.own;obtain⟨q3,n3,m3,rfl⟩:=dF aw;obtain⟨f,rfl,hf⟩:=nL a h.size h.defers;have f1:=(hf 1).symm.trans h.s1;have f3:=(hf 3).symm.trans e3;rw[f1,f3];have HO:=ad aw;have cH:=ad h.below;have gD:=cH.out.size;clear hf e3 aw h f1 f3;go_upto_region 8 with fail;rename_i K1 aP K2 dI;have c0:wr.cell? ⟨w.heap.size,16,none⟩=some (.bool tr):=(lB.out.on cH.out).cell (k:=16) rfl;have r4:∀a wr,TI w.heap.size W L4 a wr→K1 a wr:=by
     clear dI K2 HO cH gD c0;intro a wr h;refine aP a wr ?_;clear aP;obtain⟨v3,e3,aw⟩:=h.own;obtain⟨q3,n3,m3,rfl⟩:=dF aw;obtain⟨f,rfl,hf⟩:=nL a h.size h.defers;have f1:=(hf 1).symm.trans h.s1;have f3:=(hf 3).symm.trans e3;rw[f1,f3];have HO:=ad aw;have cH:=ad h.below;have gD:=cH.out.size;clear hf e3 aw h f1 f3;go_upto_region 10 with fail;rename_i K1 aP K2 dI;have c0:wr.cell? ⟨w.heap.size,17,none⟩=some (V Z k):=(lB.out.on cH.out).cell (k:=17) rfl;have r5:∀a wr,TI w.heap.size W L5 a wr→K1 a wr:=by
      clear dI K2 HO cH gD c0;intro a wr h;refine aP a wr ?_;clear aP;obtain⟨v3,e3,aw⟩:=h.own;obtain⟨q3,n3,m3,rfl⟩:=dF aw;obtain⟨f,rfl,hf⟩:=nL a h.size h.defers;have f1:=(hf 1).symm.trans h.s1;have f3:=(hf 3).symm.trans e3;rw[f1,f3];have HO:=ad aw;have cH:=ad h.below;have gD:=cH.out.size;clear hf e3 aw h f1 f3;obtain⟨L6,RP⟩:∃L6,L6=L5++[pA]:=⟨_,rfl⟩;have HP6:Hid (0<L6.length∧L6.length≤1000000000):=ad (by have:=mQ.out.h5;rw[RP,ι];simp;omega);have HT6:Hid ((de L6).length≤140737488355328):=ad (by rw[RP,←Ou.out];exact ο (H7 _ _ _ _ _ _ _ _ hu (by rw[←EG.out];cases hr<;>simp<;>omega) hle Ia oB) (by decide));have HE6:Hid (wY u st ln rt ex xt tr k=L6):=ad (Ou.out.trans RP.symm);have H6:=ad RP;clear RP Ou;go_wp2_with (first
       |(at_builtin;refine fj rfl (.tmp 65) (.tmp 66) 52 9 _ 16 rfl underlying52 eK rfl W.heap.size _ _ _ rfl HO.out cH.out gD (ζ ⟨#[69,78,68,58,86,69,86,69,78,84]⟩) rfl rfl (by simp) (by have:=mQ.out.h5;omega) (by decide) ?_;intro v6 w6 dx lY EH;obtain⟨g6,abE,rfl,ahD,ahE⟩:=RM (kO dx (t:=pA) rfl rfl rfl H6.out) HP6.out.1)
       |(go_at_call 87;refine(JN g6 abE L6 w6 ahD ahE HP6.out.2 HT6.out).mono ?_;rintro e w7 ⟨rfl,nN⟩))
      go_ret;exact⟨by rw[HE6.out];rfl,oH.out.trans ((lY.trans (nN.mono EH)).mono (by omega))⟩
     clear aP;have hkk:k=0∨k=1∨k=2:=by omega
     rcases hkk with rfl|rfl|rfl
     ·go_wp2_with fail;exact⟨rfl,rfl,rfl,⟨ε q3 n3 m3,rfl,by rw[H5.out,show zl 0=[]from rfl,ω];exact HO.out⟩,cH.out⟩
     ·have Ov:w.heap.size<wr.heap.size:=by omega
      have c1:∀o,(wr.alloc o).cell? ⟨w.heap.size,17,none⟩=some (V Z 1):=fun o=>(ρ _ _ _ Ov).trans c0;have c2:∀o o',((wr.alloc o).alloc o').cell? ⟨w.heap.size,17,none⟩=some (V Z 1):=fun o o'=>(ρ _ _ _ (by show w.heap.size<(wr.alloc o).heap.size;simp;omega)).trans (c1 o);have kp:∀w',Below W.heap.size W w'→w'.cell? ⟨w.heap.size,17,none⟩=some (V Z 1):=fun w' h=>(h.cell (p:=⟨w.heap.size,17,none⟩) (by show w.heap.size<W.heap.size;omega)).trans (lB.out.cell (k:=17) rfl);have cn:(wr.alloc (η (strs dm).toArray 9)).cell? ⟨wr.heap.size,1,none⟩=some (ζ ⟨#[84,69,78,84,65,84,73,86,69]⟩):=(af.new wr (strs dm) 9).cell (k:=1) rfl;have cj:Below wr.heap.size wr ((wr.alloc (η (strs dm).toArray 9)).alloc (η #[(ζ ((⟨#[83,84,65,84,85,83,58]⟩:ByteArray)++⟨#[84,69,78,84,65,84,73,86,69]⟩))] 9)).drew:=(((μ _ _).alloc (υ _) _).alloc (by simp) _).drew;have RQ:((wr.alloc (η (strs dm).toArray 9)).alloc (η #[(ζ ((⟨#[83,84,65,84,85,83,58]⟩:ByteArray)++⟨#[84,69,78,84,65,84,73,86,69]⟩))] 9)).drew.cell? ⟨wr.heap.size+1,0,none⟩=some (ζ ((⟨#[83,84,65,84,85,83,58]⟩:ByteArray)++⟨#[84,69,78,84,65,84,73,86,69]⟩)):=by
       have:=(af.new (wr.alloc (η (strs dm).toArray 9)) [(ζ ((⟨#[83,84,65,84,85,83,58]⟩:ByteArray)++⟨#[84,69,78,84,65,84,73,86,69]⟩))] 9).cell (k:=0) (y:=(ζ ((⟨#[83,84,65,84,85,83,58]⟩:ByteArray)++⟨#[84,69,78,84,65,84,73,86,69]⟩))) rfl;rw[show(wr.alloc (η (strs dm).toArray 9)).heap.size=wr.heap.size+1 from by simp]at this;exact this
      go_upto_region 11 with fail;refine wp_region_any (by kernel_rfl) ?_;change wpAny _ _ _ _ _ _ _ (Δ _);refine wpAny_take (i:=0) (v:=?_) rfl (by kernel_rfl) (by kernel_rfl) (by kernel_rfl) (fun _ _ _ h=>h) (χ ⟨by rfl,?_⟩) ?_;rotate_left 1
      ·intro w;go_simp<;>with_reducible rfl
      refine wpAny_take (i:=2) (v:=?_) rfl (by kernel_rfl) (by kernel_rfl) (by kernel_rfl) (fun _ _ _ h=>h) (χ ⟨by rfl,?_⟩) ?_;rotate_left 1
      ·intro w;go_simp<;>with_reducible rfl
      refine wpAny_ready (rs:=[1,3]) (by kernel_rfl) (by simp) ?_;refine θ rfl (fun K hK=>?_) (θ rfl (fun K hK=>?_) κ)
      ·go_simp;go_wp2_with (go_at_call 86;refine(gV _).mono ?_;rintro e w5 ⟨rfl,rfl⟩)
       try(refine hK _ _ ?_;clear hK K)
       refine wpAny_ready (rs:=[3]) (by kernel_rfl) (by simp) ?_;refine θ rfl (fun K hK=>?_) κ;go_simp;refine hK _ _ ?_;clear hK K;refine wpAny_take (i:=4) (v:=?_) rfl (by kernel_rfl) (by kernel_rfl) (by kernel_rfl) (fun _ _ _ h=>h) (χ ⟨by rfl,?_⟩) ?_;rotate_left 1
       ·intro w;go_simp<;>with_reducible rfl
       refine wpAny_ready (rs:=[5]) (by kernel_rfl) (by simp) ?_;refine θ rfl (fun K hK=>?_) κ;go_simp;refine hK _ _ ?_;clear hK K;refine wpAny_take (i:=6) (v:=?_) rfl (by kernel_rfl) (by kernel_rfl) (by kernel_rfl) (fun _ _ _ h=>h) (χ ⟨by rfl,?_⟩) ?_;rotate_left 1
       ·intro w;go_simp<;>with_reducible rfl
       refine wpAny_ready (rs:=[7]) (by kernel_rfl) (by simp) ?_;refine θ rfl (fun K hK=>?_) κ;go_simp;refine hK _ _ ?_;clear hK K;refine wpAny_ready (rs:=[8]) (by kernel_rfl) (by simp) ?_;refine θ rfl (fun K hK=>?_) κ;rw[if_pos (cb rfl)];refine BE (.tmp 56) (.tmp 63) 52 9 _ 16 rfl underlying52 eK rfl W.heap.size _ _ _ rfl (sK HO.out cj) (cH.out.trans (cj.mono gD)) (ο gD cj.size) (ζ ((⟨#[83,84,65,84,85,83,58]⟩:ByteArray)++⟨#[84,69,78,84,65,84,73,86,69]⟩)) rfl rfl RQ (by have:=mQ.out.h4;omega) (by decide) ?_;intro v6 w6 dx lY EH;refine hK _ _ ?_;clear hK K;refine wpAny_ready (rs:=[9]) (by kernel_rfl) (by simp) ?_;refine θ rfl (fun K hK=>?_) κ;go_simp;refine hK _ _ ?_;clear hK K;refine wpAny_done (by kernel_rfl) ?_ _;exact r5 _ _ ⟨rfl,rfl,rfl,⟨v6,rfl,kO dx (t:=oE++fW) (by apply ξ;simp[oE,fW]) rfl rfl H5.out⟩,lY⟩
      ·go_simp;refine hK _ _ ?_;clear hK K;refine wpAny_ready (rs:=[1]) (by kernel_rfl) (by simp) ?_;refine θ rfl (fun K hK=>?_) κ;go_simp;go_wp2_with (go_at_call 86;refine(gV _).mono ?_;rintro e w5 ⟨rfl,rfl⟩)
       try(refine hK _ _ ?_;clear hK K)
       refine wpAny_take (i:=4) (v:=?_) rfl (by kernel_rfl) (by kernel_rfl) (by kernel_rfl) (fun _ _ _ h=>h) (χ ⟨by rfl,?_⟩) ?_;rotate_left 1
       ·intro w;go_simp<;>with_reducible rfl
       refine wpAny_ready (rs:=[5]) (by kernel_rfl) (by simp) ?_;refine θ rfl (fun K hK=>?_) κ;go_simp;refine hK _ _ ?_;clear hK K;refine wpAny_take (i:=6) (v:=?_) rfl (by kernel_rfl) (by kernel_rfl) (by kernel_rfl) (fun _ _ _ h=>h) (χ ⟨by rfl,?_⟩) ?_;rotate_left 1
       ·intro w;go_simp<;>with_reducible rfl
       refine wpAny_ready (rs:=[7]) (by kernel_rfl) (by simp) ?_;refine θ rfl (fun K hK=>?_) κ;go_simp;refine hK _ _ ?_;clear hK K;refine wpAny_ready (rs:=[8]) (by kernel_rfl) (by simp) ?_;refine θ rfl (fun K hK=>?_) κ;rw[if_pos (cb rfl)];refine BE (.tmp 56) (.tmp 63) 52 9 _ 16 rfl underlying52 eK rfl W.heap.size _ _ _ rfl (sK HO.out cj) (cH.out.trans (cj.mono gD)) (ο gD cj.size) (ζ ((⟨#[83,84,65,84,85,83,58]⟩:ByteArray)++⟨#[84,69,78,84,65,84,73,86,69]⟩)) rfl rfl RQ (by have:=mQ.out.h4;omega) (by decide) ?_;intro v6 w6 dx lY EH;refine hK _ _ ?_;clear hK K;refine wpAny_ready (rs:=[9]) (by kernel_rfl) (by simp) ?_;refine θ rfl (fun K hK=>?_) κ;go_simp;refine hK _ _ ?_;clear hK K;refine wpAny_done (by kernel_rfl) ?_ _;exact r5 _ _ ⟨rfl,rfl,rfl,⟨v6,rfl,kO dx (t:=oE++fW) (by apply ξ;simp[oE,fW]) rfl rfl H5.out⟩,lY⟩
     ·have Ov:w.heap.size<wr.heap.size:=by omega
      have c1:∀o,(wr.alloc o).cell? ⟨w.heap.size,17,none⟩=some (V Z 2):=fun o=>(ρ _ _ _ Ov).trans c0;have c2:∀o o',((wr.alloc o).alloc o').cell? ⟨w.heap.size,17,none⟩=some (V Z 2):=fun o o'=>(ρ _ _ _ (by show w.heap.size<(wr.alloc o).heap.size;simp;omega)).trans (c1 o);have kp:∀w',Below W.heap.size W w'→w'.cell? ⟨w.heap.size,17,none⟩=some (V Z 2):=fun w' h=>(h.cell (p:=⟨w.heap.size,17,none⟩) (by show w.heap.size<W.heap.size;omega)).trans (lB.out.cell (k:=17) rfl);have cn:(wr.alloc (η (strs dm).toArray 9)).cell? ⟨wr.heap.size,2,none⟩=some (ζ ⟨#[67,65,78,67,69,76,76,69,68]⟩):=(af.new wr (strs dm) 9).cell (k:=2) rfl;have cj:Below wr.heap.size wr ((wr.alloc (η (strs dm).toArray 9)).alloc (η #[(ζ ((⟨#[83,84,65,84,85,83,58]⟩:ByteArray)++⟨#[67,65,78,67,69,76,76,69,68]⟩))] 9)).drew:=(((μ _ _).alloc (υ _) _).alloc (by simp) _).drew;have RQ:((wr.alloc (η (strs dm).toArray 9)).alloc (η #[(ζ ((⟨#[83,84,65,84,85,83,58]⟩:ByteArray)++⟨#[67,65,78,67,69,76,76,69,68]⟩))] 9)).drew.cell? ⟨wr.heap.size+1,0,none⟩=some (ζ ((⟨#[83,84,65,84,85,83,58]⟩:ByteArray)++⟨#[67,65,78,67,69,76,76,69,68]⟩)):=by
       have:=(af.new (wr.alloc (η (strs dm).toArray 9)) [(ζ ((⟨#[83,84,65,84,85,83,58]⟩:ByteArray)++⟨#[67,65,78,67,69,76,76,69,68]⟩))] 9).cell (k:=0) (y:=(ζ ((⟨#[83,84,65,84,85,83,58]⟩:ByteArray)++⟨#[67,65,78,67,69,76,76,69,68]⟩))) rfl;rw[show(wr.alloc (η (strs dm).toArray 9)).heap.size=wr.heap.size+1 from by simp]at this;exact this
      go_upto_region 11 with fail;refine wp_region_any (by kernel_rfl) ?_;change wpAny _ _ _ _ _ _ _ (Δ _);refine wpAny_take (i:=0) (v:=?_) rfl (by kernel_rfl) (by kernel_rfl) (by kernel_rfl) (fun _ _ _ h=>h) (χ ⟨by rfl,?_⟩) ?_;rotate_left 1
      ·intro w;go_simp<;>with_reducible rfl
      refine wpAny_take (i:=2) (v:=?_) rfl (by kernel_rfl) (by kernel_rfl) (by kernel_rfl) (fun _ _ _ h=>h) (χ ⟨by rfl,?_⟩) ?_;rotate_left 1
      ·intro w;go_simp<;>with_reducible rfl
      refine wpAny_ready (rs:=[1,3]) (by kernel_rfl) (by simp) ?_;refine θ rfl (fun K hK=>?_) (θ rfl (fun K hK=>?_) κ)
      ·go_simp;go_wp2_with (go_at_call 86;refine(gV _).mono ?_;rintro e w5 ⟨rfl,rfl⟩)
       try(refine hK _ _ ?_;clear hK K)
       refine wpAny_ready (rs:=[3]) (by kernel_rfl) (by simp) ?_;refine θ rfl (fun K hK=>?_) κ;go_simp;refine hK _ _ ?_;clear hK K;refine wpAny_take (i:=4) (v:=?_) rfl (by kernel_rfl) (by kernel_rfl) (by kernel_rfl) (fun _ _ _ h=>h) (χ ⟨by rfl,?_⟩) ?_;rotate_left 1
       ·intro w;go_simp<;>with_reducible rfl
       refine wpAny_ready (rs:=[5]) (by kernel_rfl) (by simp) ?_;refine θ rfl (fun K hK=>?_) κ;go_simp;refine hK _ _ ?_;clear hK K;refine wpAny_take (i:=6) (v:=?_) rfl (by kernel_rfl) (by kernel_rfl) (by kernel_rfl) (fun _ _ _ h=>h) (χ ⟨by rfl,?_⟩) ?_;rotate_left 1
       ·intro w;go_simp<;>with_reducible rfl
       refine wpAny_ready (rs:=[7]) (by kernel_rfl) (by simp) ?_;refine θ rfl (fun K hK=>?_) κ;go_simp;refine hK _ _ ?_;clear hK K;refine wpAny_ready (rs:=[8]) (by kernel_rfl) (by simp) ?_;refine θ rfl (fun K hK=>?_) κ;rw[if_pos (cb rfl)];refine BE (.tmp 56) (.tmp 63) 52 9 _ 16 rfl underlying52 eK rfl W.heap.size _ _ _ rfl (sK HO.out cj) (cH.out.trans (cj.mono gD)) (ο gD cj.size) (ζ ((⟨#[83,84,65,84,85,83,58]⟩:ByteArray)++⟨#[67,65,78,67,69,76,76,69,68]⟩)) rfl rfl RQ (by have:=mQ.out.h4;omega) (by decide) ?_;intro v6 w6 dx lY EH;refine hK _ _ ?_;clear hK K;refine wpAny_ready (rs:=[9]) (by kernel_rfl) (by simp) ?_;refine θ rfl (fun K hK=>?_) κ;go_simp;refine hK _ _ ?_;clear hK K;refine wpAny_done (by kernel_rfl) ?_ _;exact r5 _ _ ⟨rfl,rfl,rfl,⟨v6,rfl,kO dx (t:=oE++fX) (by apply ξ;simp[oE,fX]) rfl rfl H5.out⟩,lY⟩
      ·go_simp;refine hK _ _ ?_;clear hK K;refine wpAny_ready (rs:=[1]) (by kernel_rfl) (by simp) ?_;refine θ rfl (fun K hK=>?_) κ;go_simp;go_wp2_with (go_at_call 86;refine(gV _).mono ?_;rintro e w5 ⟨rfl,rfl⟩)
       try(refine hK _ _ ?_;clear hK K)
       refine wpAny_take (i:=4) (v:=?_) rfl (by kernel_rfl) (by kernel_rfl) (by kernel_rfl) (fun _ _ _ h=>h) (χ ⟨by rfl,?_⟩) ?_;rotate_left 1
       ·intro w;go_simp<;>with_reducible rfl
       refine wpAny_ready (rs:=[5]) (by kernel_rfl) (by simp) ?_;refine θ rfl (fun K hK=>?_) κ;go_simp;refine hK _ _ ?_;clear hK K;refine wpAny_take (i:=6) (v:=?_) rfl (by kernel_rfl) (by kernel_rfl) (by kernel_rfl) (fun _ _ _ h=>h) (χ ⟨by rfl,?_⟩) ?_;rotate_left 1
       ·intro w;go_simp<;>with_reducible rfl
       refine wpAny_ready (rs:=[7]) (by kernel_rfl) (by simp) ?_;refine θ rfl (fun K hK=>?_) κ;go_simp;refine hK _ _ ?_;clear hK K;refine wpAny_ready (rs:=[8]) (by kernel_rfl) (by simp) ?_;refine θ rfl (fun K hK=>?_) κ;rw[if_pos (cb rfl)];refine BE (.tmp 56) (.tmp 63) 52 9 _ 16 rfl underlying52 eK rfl W.heap.size _ _ _ rfl (sK HO.out cj) (cH.out.trans (cj.mono gD)) (ο gD cj.size) (ζ ((⟨#[83,84,65,84,85,83,58]⟩:ByteArray)++⟨#[67,65,78,67,69,76,76,69,68]⟩)) rfl rfl RQ (by have:=mQ.out.h4;omega) (by decide) ?_;intro v6 w6 dx lY EH;refine hK _ _ ?_;clear hK K;refine wpAny_ready (rs:=[9]) (by kernel_rfl) (by simp) ?_;refine θ rfl (fun K hK=>?_) κ;go_simp;refine hK _ _ ?_;clear hK K;refine wpAny_done (by kernel_rfl) ?_ _;exact r5 _ _ ⟨rfl,rfl,rfl,⟨v6,rfl,kO dx (t:=oE++fX) (by apply ξ;simp[oE,fX]) rfl rfl H5.out⟩,lY⟩
    clear aP;cases tr with
    |false=>
     go_wp2_with fail;exact⟨rfl,rfl,rfl,⟨ε q3 n3 m3,rfl,by rw[H4.out,show wX false=[]from rfl,ω];exact HO.out⟩,cH.out⟩
    |true=>
     go_wp2_with (at_builtin;refine fj rfl (.tmp 50) (.tmp 51) 52 9 _ 16 rfl underlying52 eK rfl W.heap.size _ _ _ rfl HO.out cH.out gD (ζ ⟨#[84,82,65,78,83,80,58,84,82,65,78,83,80,65,82,69,78,84]⟩) rfl rfl (by simp) (by have:=mQ.out.h3;omega) (by decide) ?_;intro v6 w6 dx lY EH);exact⟨rfl,rfl,rfl,⟨v6,rfl,kO dx (t:=PY) rfl (show wX true=_ from rfl) rfl H4.out⟩,lY⟩
   clear aP;by_cases gn:xt.length=0
   case pos=>
    rw[gn]at c0;have HZ:=ad gn;clear gn;go_wp2_with fail;exact⟨rfl,rfl,rfl,⟨ε q3 n3 m3,rfl,by rw[H3.out,show zk xt=[]from if_pos HZ.out,ω];exact HO.out⟩,cH.out⟩
   case neg=>
    have hxp:(0:Int)<xt.length:=by omega
    obtain⟨gx,rest,KI,RR⟩:∃gx rest,a6=some ⟨gx,0,none⟩∧af w gx ((xt++rest).map (Value.int Z)) 3:=H9 HXT.out gn;have CX:=zp gx c6 xt rest wr (HT.out.on (oH.out.trans (cH.out.mono (by omega)))) (RR.on (oH.out.trans (cH.out.mono (by omega)))) (by omega);obtain⟨J,hJ⟩:∃J:ByteArray,J=⟨(ψ (xt.map fC) [44]).toArray⟩:=⟨_,rfl⟩;have sJ:J.size≤1000:=by rw[hJ];exact oG xt (by omega)
    rw[←hJ]at CX;have HJ:=ad hJ;have KJ:=ad CX;have HZ:=ad gn;clear hJ CX RR gn;subst KI;go_wp2_with (first
     |(go_at_call 85;refine(KJ.out).mono ?_;rintro e w5 ⟨rfl,bk⟩)
     |(at_builtin;refine fj rfl (.tmp 41) (.tmp 46) 52 9 _ 16 rfl underlying52 eK rfl W.heap.size _ _ _ rfl (sK HO.out bk) (cH.out.trans (bk.mono gD)) (ο gD bk.size) (ζ (⟨#[82,68,65,84,69,58]⟩++J)) rfl rfl (by simp) (by have:=mQ.out.h2;omega) (by decide) ?_;intro v6 w6 dx lY EH))
    exact⟨rfl,rfl,rfl,⟨v6,rfl,kO dx (t:=Kz++ψ (xt.map fC) [44]) (by rw[HJ.out];apply ξ;simp[Kz]) (show zk xt=_ from if_neg HZ.out) rfl H3.out⟩,lY⟩
  clear aP;by_cases gn:ex.length=0
  case pos=>
   rw[gn]at c0;have HZ:=ad gn;clear gn;go_wp2_with fail;exact⟨rfl,rfl,rfl,⟨ε q3 n3 m3,rfl,by rw[H2.out,show zj ex=[]from if_pos HZ.out,ω];exact HO.out⟩,cH.out⟩
  case neg=>
   have hxp:(0:Int)<ex.length:=by omega
   obtain⟨gx,rest,KI,RR⟩:∃gx rest,a5=some ⟨gx,0,none⟩∧af w gx ((ex++rest).map (Value.int Z)) 3:=H9 RG.out gn;have CX:=zp gx c5 ex rest wr (HT.out.on (oH.out.trans (cH.out.mono (by omega)))) (RR.on (oH.out.trans (cH.out.mono (by omega)))) (by omega);obtain⟨J,hJ⟩:∃J:ByteArray,J=⟨(ψ (ex.map fC) [44]).toArray⟩:=⟨_,rfl⟩;have sJ:J.size≤1000:=by rw[hJ];exact oG ex (by omega)
   rw[←hJ]at CX;have HJ:=ad hJ;have KJ:=ad CX;have HZ:=ad gn;clear hJ CX RR gn;subst KI;go_wp2_with (first
    |(go_at_call 85;refine(KJ.out).mono ?_;rintro e w5 ⟨rfl,bk⟩)
    |(at_builtin;refine fj rfl (.tmp 30) (.tmp 35) 52 9 _ 16 rfl underlying52 eK rfl W.heap.size _ _ _ rfl (sK HO.out bk) (cH.out.trans (bk.mono gD)) (ο gD bk.size) (ζ (⟨#[69,88,68,65,84,69,58]⟩++J)) rfl rfl (by simp) (by have:=mQ.out.h1;omega) (by decide) ?_;intro v6 w6 dx lY EH))
   exact⟨rfl,rfl,rfl,⟨v6,rfl,kO dx (t:=Ky++ψ (ex.map fC) [44]) (by rw[HJ.out];apply ξ;simp[Ky]) (show zj ex=_ from if_neg HZ.out) rfl H2.out⟩,lY⟩
 clear aP;have c3':w4.cell? ⟨w.heap.size,3,none⟩=some (.bool hr):=(lB.out.on RO.out).cell (k:=3) rfl;cases hr with
 |false=>
  go_wp2_with fail;exact⟨rfl,rfl,rfl,⟨ε (some ⟨g,0,none⟩) 4 4,rfl,by rw[H1.out,←EG.out];exact HO4.out⟩,RO.out⟩
 |true=>
  have rg:w4.rangeAt w.heap.size 4 [V Z fq, V Z iv, V Z ct, V Z un, ε a1 l1 c1, ε a2 l2 c2, ε a3 l3 c3, ε a4 l4 c4, V Z ws, ζ (bH tx)]:=fun j v hv=>by
   refine(lB.out.on RO.out).cell ?_
   match j,hv with
   |0,hv|1,hv|2,hv|3,hv|4,hv|5,hv|6,hv|7,hv|8,hv|9,hv=>exact hv
   |n+10,hv=>simp at hv
  have HRG:=ad rg;clear rg;go_wp2_with (first
   |(refine wpList_load_mid rfl 76 (.tmp 20) rfl w.heap.size 4 rfl [V Z fq, V Z iv, V Z ct, V Z un, ε a1 l1 c1, ε a2 l2 c2, ε a3 l3 c3, ε a4 l4 c4, V Z ws, ζ (bH tx)] _ HRG.out underlying76 rfl (by kernel_rfl) ?_)
   |(go_at_call 84;refine(KF _ _ _ _ _ _ _ _ _ _ _ _ _ _ _ _ _ _ _).mono ?_;rintro e w5 ⟨rfl,bk⟩)
   |(at_builtin;refine fj rfl (.tmp 19) (.tmp 24) 52 9 _ 16 rfl underlying52 eK rfl W.heap.size _ _ _ rfl (sK HO4.out bk) (RO.out.trans (bk.mono Ib)) (ο Ib bk.size) (ζ (⟨#[82,82,85,76,69,58]⟩++bH tx)) rfl rfl (by simp) (show 4≤4194304 by decide) (by decide) ?_;intro v6 w6 dx lY EH))
  exact⟨rfl,rfl,rfl,⟨v6,rfl,kO dx (t:=F9++tx) (by unfold bH;apply ξ;simp[F9]) (show zZ rt=_ by rw[←EG.out];rfl) rfl H1.out⟩,lY⟩
end Go.Proofs.YthpndgcaoeokeaaGreatDoor
