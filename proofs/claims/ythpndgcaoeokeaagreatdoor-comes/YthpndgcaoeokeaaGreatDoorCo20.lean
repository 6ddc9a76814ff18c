import Derived.Test.YthpndgcaoeokeaaGreatDoorCo19
set_option maxRecDepth 100000
set_option maxHeartbeats 8000000
open Go.IntKind renaming i64→Z
open Go.Value renaming int→V,pointer→δ,slice→ε,string→ζ
open ByteArray renaming size_append→η
open Nat renaming le_trans→θ,lt_of_lt_of_le→ξ
open Go renaming World→ι
open Option renaming isSome_some→κ,getD_some→μ,map_some→ν
namespace Go.Proofs.YthpndgcaoeokeaaGreatDoor
open Tryz
open Go.RowKit
def RI (w:ι)(ab H E:Nat)(f:Nat→Option (List UInt8))(cs:List Value)(X:ι→Prop)(a:Act)(wr:ι):Prop:=RdA w.heap.size ab H E a∧xq w ab H E f cs wr∧X wr
theorem Lj (v:List UInt8):∃z e:Int,lM ⟨v.toArray⟩= .tuple #[V Z z, V Z e]∧0≤z∧z≤7258118399∧(e=0→ea v=some z)∧(e≠0→ea v=none):=by
 rw[Ql];cases h:ea v with
 |none=>exact⟨0,1,rfl,by omega,by omega,fun h=>by omega,fun _=>rfl⟩
 |some z=>exact⟨z,0,rfl,(By h).1,(By h).2,fun _=>rfl,fun h=>absurd rfl h⟩
theorem VD (v:List UInt8):∃z e:Int,zT (fN v)= .tuple #[V Z z, V Z e]∧(e=0→fN v=some z)∧(e≠0→fN v=none):=by
 cases h:fN v with
 |none=>exact⟨0,1,rfl,fun h=>by omega,fun _=>rfl⟩
 |some z=>exact⟨z,0,rfl,fun _=>rfl,fun h=>absurd rfl h⟩
theorem acd {f:Nat→Option (List UInt8)}{z1 z3 n2 e3 e2:Int}(h3:e3=0→ea (val f 3)=some z3)(h2:e2=0→fN (val f 2)=some n2){L g:Int}(hL:L=if(f 3).isSome then z3 - z1 else n2)(hg:g=if(f 3).isSome then e3 else e2)(g0:g=0)(l1:1≤L)(l2:L≤2678400):jv z1 (f 3) (f 2)=some L:=by
 unfold jv val at *
 cases hf:f 3 with
 |none=>
  rw[hf]at hL hg;simp only[Option.isSome_none,Bool.false_eq_true,if_false]at hL hg;subst hL hg;simp only[h2 g0];exact if_pos ⟨l1,l2⟩
 |some v=>
  rw[hf]at hL hg h3;simp only[κ,if_true]at hL hg;subst hL hg;have:=h3 g0;simp only[μ]at this;simp only[this,ν];exact if_pos ⟨l1,l2⟩
theorem Qn {f:Nat→Option (List UInt8)}{z1 z3 n2 e3 e2:Int}(h3:e3=0→ea (val f 3)=some z3)(k3:e3≠0→ea (val f 3)=none)(h2:e2=0→fN (val f 2)=some n2)(k2:e2≠0→fN (val f 2)=none){L g:Int}(hL:L=if(f 3).isSome then z3 - z1 else n2)(hg:g=if(f 3).isSome then e3 else e2)(hn:¬(g=0∧1≤L∧L≤2678400)):jv z1 (f 3) (f 2)=none:=by
 unfold jv val at *
 cases hf:f 3 with
 |none=>
  rw[hf]at hL hg;simp only[Option.isSome_none,Bool.false_eq_true,if_false]at hL hg;subst hL hg;by_cases g0:g=0
  ·simp only[h2 g0];exact if_neg (fun h=>hn ⟨g0,h⟩)
  ·simp only[k2 g0]
 |some v=>
  rw[hf]at hL hg h3 k3;simp only[κ,if_true]at hL hg;subst hL hg;simp only[μ]at h3 k3;by_cases g0:g=0
  ·simp only[h3 g0,ν];exact if_neg (fun h=>hn ⟨g0,h⟩)
  ·simp only[k3 g0,Option.map_none]
def RL (E:Nat)(w:ι)(rl:Option (Nat→Option (List UInt8)))(rc:List Value):Prop:=(rl=none∧rc=bD)∨∃F,rl=some F∧yA rc F∧fJ (E+1) w (.agg rc.toArray) F
theorem RL.aQ {E:Nat}{w w':ι}{rl:Option (Nat→Option (List UInt8))}{rc:List Value}{O:Nat→Prop}(h:RL E w rl rc)(hx:aK O w w')(hO:∀k,O k→k≤E):RL E w' rl rc:=by
 rcases h with h|⟨F,h1,h2,h3⟩
 ·exact .inl h
 ·exact .inr ⟨F,h1,h2,h3.keep fun g hg hE=>hx.block g hg (fun ho=>by have:=hO g ho;omega)⟩
theorem RL.low {E N:Nat}{w:ι}{rl:Option (Nat→Option (List UInt8))}{rc:List Value}(h:RL E w rl rc)(hN:N≤E):(rl=none∧rc=bD)∨∃F,rl=some F∧yA rc F∧fJ N w (.agg rc.toArray) F:=by
 rcases h with h|⟨F,h1,h2,h3⟩
 ·exact .inl h
 ·exact .inr ⟨F,h1,h2,h3.mono (by omega)⟩
theorem Z0 {u:ByteArray}{st ln:Int}{rc:List Value}{ex xt:Value}{op:Bool}{k:Int}(h:rc.length=19):(fe u st ln rc ex xt op k)[25]?=some (V Z k):=by
 unfold fe;rw[List.getElem?_append_right (by simp[h])];simp[h]
theorem aeR {u:ByteArray}{st ln:Int}{rc:List Value}{ex xt:Value}{op:Bool}{k k':Int}(h:rc.length=19):(fe u st ln rc ex xt op k).set 25 (V Z k')=fe u st ln rc ex xt op k':=by
 unfold fe;rw[List.set_append_right _ _ (by simp[h])];simp[h]
theorem VE {u:ByteArray}{st ln:Int}{rc EC:List Value}{ex xt:Value}{op:Bool}{k:Int}(h:rc.length=19)(h':EC.length=19):oD 3 EC (fe u st ln rc ex xt op k)=fe u st ln EC ex xt op k:=by
 unfold fe;exact Vw _ rc _ EC 3 rfl (by rw[h,h'])
theorem BN {s:List UInt8}{f:Nat→Option (List UInt8)}(hf:bj s=some f)(h:ea (val f 1)=none∨∃st,ea (val f 1)=some st∧jv st (f 3) (f 2)=none):cG s= .error 1:=by
 unfold cG;rw[hf];simp only[];rcases h with h|⟨st,h1,h2⟩
 ·rw[h]
 ·rw[h1];simp only[];rw[h2]
theorem OO {s:List UInt8}{f:Nat→Option (List UInt8)}{st ln:Int}(hf:bj s=some f)(h1:ea (val f 1)=some st)(h2:jv st (f 3) (f 2)=some ln)(h:lX (f 5)=none∨∃ex,lX (f 5)=some ex∧lX (f 6)=none):cG s= .error 1:=by
 unfold cG;rw[hf];simp only[h1,h2];rcases h with h|⟨ex,h3,h4⟩
 ·rw[h]
 ·rw[h3];simp only[];rw[h4]
theorem Lk (s:List UInt8)(w:ι)(hs:s.length≤1048575)(hn:cE w 1 0 bJ)(hg:1<w.heap.size)(It:cE w 2 0 aC)(Ez:2<w.heap.size):
 Calls prog 186 #[ζ (ba s)] w (Le s w):=by
 have CF:=ad (fun W (h:Below w.heap.size w W)=>Qk s W hs (jK hn hg h) (ξ hg h.size));have HN2:=ad It;clear hn It;go_enter func186,ntmps186;go_upto_region 1 with(refine aW rfl (kj rfl _ _) ?_;intro w0 Yl fH bz);go_upto_region 2 with(first
  |(go_at_call 235;refine(CF.out _ bz).mono ?_;rintro e w1 ⟨ai,f,b,rfl,fG,jm⟩;have jX:=Yl.on ai;have eP:=ai.size)
  |(refine aW rfl (xm rfl _ _) ?_;intro w2 hv2 fb az)
  |(refine aW rfl (xn rfl _ _) ?_;intro w3 hh3 Iu bw;have hv3:=hv2.on bw)
  |(refine aN rfl (y:= .tmp 17) rfl rfl rfl hv3 ((jM _).trans (jM _).symm) (by rw[jM];exact DG) (K8 _) ?_;intro w4 hv4 sQ)
  |(refine aN rfl (y:= .tmp 18) rfl rfl rfl (hh3.aQ sQ (by omega)) ((jN _).trans (jN _).symm) (by rw[jN];exact Ak) (K9 _) ?_;intro w5 hh5 qn))
 have Ib:=sQ.size;have E5:=qn.size;have hv5:=hv4.aQ qn (by omega);have zm:=(((jX.on az).on bw).aQ sQ (by omega)).aQ qn (by omega);have acg:Below w.heap.size w w5:=((((bz.trans (ai.mono (by omega))).trans (az.mono (by omega))).trans (bw.mono (by omega))).trans (sQ.below (by omega) (fun k hk=>by omega))).trans (qn.below (by omega) (fun k hk=>by omega));have xa:=ad fG;have HYE:=ad jm;obtain⟨ab,hV⟩:∃ab,ab=w1.heap.size:=⟨_,rfl⟩;obtain⟨H,hH⟩:∃H,H=ab+1:=⟨_,rfl⟩;rw[←hV]at hv5⊢;rw[fb,←hV,←hH]at hh5;rw[←hH];have hVl:w.heap.size<ab∧ab<H∧H<w5.heap.size:=by omega
 have Cl:=ad hv5;have HH5:=ad hh5;have HR5:=ad zm;have Ai:=ad acg;clear CF fG jm Yl fH bz ai jX eP hv2 fb az hh3 Iu bw hv3 hv4 sQ hh5 qn Ib E5 hv5 zm acg hV hH;clear w0 w1 w2 w3 w4;cases b with
 |false=>
  have HX:Hid (cG s= .error 2):=ad (by unfold cG;rw[xa.out rfl]);go_wp2_with (first
   |(refine eC rfl (gp rfl _ _) ?_)
   |(refine aN rfl rfl rfl rfl HR5.out rfl dB (gX ef rfl rfl) ?_;intro w9 kB lJ))
  exact kR kB rfl rfl rfl ⟨Ai.out.trans (lJ.below Ai.out.size (fun k hk=>by omega)), .inl ⟨2,HX.out,rfl⟩⟩
 |true=>
  have HF:=ad (HYE.out rfl);clear xa HYE;obtain⟨ob,hob⟩:∃ob,ob=eO f:=⟨_,rfl⟩;obtain⟨Y0,Sl⟩:∃Y:ByteArray,Y=⟨((f 0).getD []).toArray⟩:=⟨_,rfl⟩;obtain⟨Y7,OK⟩:∃Y:ByteArray,Y=⟨((f 7).getD []).toArray⟩:=⟨_,rfl⟩;have v0:=Cl.out.cell (eY f (show 0<9 by decide));have v7:=Cl.out.cell (eY f (show 7<9 by decide));rw[←Sl]at v0;rw[←OK]at v7;have g7:(Y7.toList==[84,82,65,78,83,80,65,82,69,78,84])=ob:=by
   rw[hob,OK];unfold eO val jB;by_cases e:(f 7).getD []=[84,82,65,78,83,80,65,82,69,78,84]
   ·rw[e];simp
   ·have e2:¬(⟨((f 7).getD []).toArray⟩:ByteArray)=⟨#[84,82,65,78,83,80,65,82,69,78,84]⟩:=fun h=>e ((mU _ [84,82,65,78,83,80,65,82,69,78,84]).1 h);have:=(Lib.bytes_beq_false_iff _ _).2 e2;simp only[e,decide_false];simpa using this
  have HOB:=ad hob;have HY0:=ad Sl;clear hob Sl OK;go_upto_region 5 with(first
   |(refine eC rfl (Ld rfl rfl rfl _) ?_)
   |(refine aW rfl (kj rfl _ _) ?_;intro w6 he6 Ll dr)
   |(refine aN rfl (y:= .tmp 28) rfl rfl rfl he6 rfl dB (gX ef rfl rfl) ?_;intro w7 he7 uQ))
  have hz7:=uQ.size;obtain⟨E,hE⟩:∃E,E=w5.heap.size:=⟨_,rfl⟩;rw[←hE]at he7 uQ⊢;have hEl:w.heap.size<ab∧ab<H∧H<E∧E<w7.heap.size:=by omega
  have alp:w.heap.size<ab∧ab<H∧H<E:=by omega
  have HS:Hid (xq w ab H E f (fe Y0 0 0 bD (ε none 0 0) (ε none 0 0) ob 1) w7):=ad ⟨(Cl.out.on dr).aQ uQ (by omega),(HH5.out.on dr).aQ uQ (by omega),he7,(HR5.out.on dr).aQ uQ (by omega),(Ai.out.trans (dr.mono Ai.out.size)).trans (uQ.below (by omega) (fun k hk=>by omega))⟩;clear Cl HH5 HR5 Ai v0 v7 g7 hVl he6 Ll dr he7 uQ hz7 w6 hE w5;have E7:Hid (∀k,(val f k).length≤2000):=ad (Am HF.out);obtain⟨z1,e1,mf,b1,Iv,t1,k1⟩:=Lj ((f 1).getD []);obtain⟨n2,e2,Sp,t2,k2⟩:=VD ((f 2).getD []);obtain⟨z3,e3,Ym,b3,b3',t3,k3⟩:=Lj ((f 3).getD []);have C1:=ad (fun W=>lN ⟨((f 1).getD []).toArray⟩ W (uR (θ (E7.out 1) (by decide))));have C2:=ad (fun W=>zx ⟨((f 2).getD []).toArray⟩ W (uR (θ (E7.out 2) (by decide))));have C3:=ad (fun W=>lN ⟨((f 3).getD []).toArray⟩ W (uR (θ (E7.out 3) (by decide))));rw[mf]at C1;rw[Ym]at C3;rw[show fN (⟨((f 2).getD []).toArray⟩:ByteArray).data.toList=fN ((f 2).getD [])from rfl,Sp]at C2;have T1:=ad t1;have T2:=ad t2;have T3:=ad t3;have U1:=ad k1;have U2:=ad k2;have U3:=ad k3;clear mf Sp Ym t1 t2 t3 k1 k2 k3;have v1:=HS.out.v.cell (eY f (show 1<9 by decide));have s1:=HS.out.e.cell (k:=1) rfl;have f1:=HS.out.e.free (k:=1);go_upto_region 6 with(go_at_call 107;refine(C1.out _).mono ?_;rintro e w8 ⟨rfl,rfl⟩);have Kq:Hid (xq w ab H E f (fe Y0 z1 0 bD (ε none 0 0) (ε none 0 0) ob 1) (w7.setCell ⟨E,1,none⟩ (V Z z1))):=ad (HS.out.set (i:=1) _ (by omega) (by omega) (by omega));go_upto_region 7 with fail;clear s1 f1 v1 HS C1;have hE7:E<(w7.setCell ⟨E,1,none⟩ (V Z z1)).heap.size:=Kq.out.e.lt;generalize w7.setCell ⟨E,1,none⟩ (V Z z1)=w8 at *
  clear hEl;have v2:=Kq.out.v.cell (eY f (show 2<9 by decide));go_upto_region 8 with(go_at_call 110;refine(C2.out _).mono ?_;rintro e w9 ⟨rfl,iI⟩);have Sq:=ad (Kq.out.on iI);have hE9:H<E∧E<w9.heap.size:=by have:=iI.size;omega
  clear Kq v2 iI C2 hE7;rename_i K1 aP K2 dI;obtain⟨L,hL⟩:∃L,L=if(f 3).isSome then z3 - z1 else n2:=⟨_,rfl⟩;obtain⟨gg,OP⟩:∃g,g=if(f 3).isSome then e3 else e2:=⟨_,rfl⟩;have HL:=ad hL;have HG:=ad OP;have rC:∀a wr,RI w ab H E f (fe Y0 z1 0 bD (ε none 0 0) (ε none 0 0) ob 1) (fun _=>a.eval (.tmp 9)= V Z e1∧a.eval (.tmp 10)= V Z L∧a.eval (.tmp 11)= V Z gg) a wr→K1 a wr:=by
   clear dI K2 Sq C3 hE9 hL OP;intro a wr h;refine aP a wr ?_;clear aP;have hEw:E<wr.heap.size:=h.2.1.e.lt;obtain⟨hA,hS,h⟩:=h;obtain⟨q,rfl,hq⟩:=oM a hA.size hA.defers;have q2:=(hq 2).symm.trans hA.s2;have q4:=(hq 4).symm.trans hA.s4;have q5:=(hq 5).symm.trans hA.s5;have q7:=(hq 7).symm.trans hA.s7;have q9:=(hq 9).symm.trans h.1;have OQ:=(hq 10).symm.trans h.2.1;have q11:=(hq 11).symm.trans h.2.2;rw[q2,q4,q5,q7,q9,OQ,q11];have HS:=ad hS;clear hq hA hS q2 q4 q5 q7 q9 OQ q11;clear h;go_upto_region 12 with fail;have s2:=HS.out.e.cell (k:=2) rfl;have f2:=HS.out.e.free (k:=2);have HS3:Hid (xq w ab H E f (fe Y0 z1 L bD (ε none 0 0) (ε none 0 0) ob 1) (wr.setCell ⟨E,2,none⟩ (V Z L))):=ad (HS.out.set (i:=2) _ (by omega) (by omega) (by omega));go_upto_region 13 with fail;clear s2 f2 HS;generalize wr.setCell ⟨E,2,none⟩ (V Z L)=wq at *
   have HS:=HS3;clear HS3;by_cases q1:e1=0
   case neg=>
    have HX:Hid (cG s= .error 1):=ad (BN HF.out (.inl (U1.out q1)));have q1b:(e1==0)=false:=beq_eq_false_iff_ne.2 q1;go_wp2_with (first
     |(refine eC rfl (gp rfl _ _) ?_)
     |(refine aN rfl rfl rfl rfl HS.out.r rfl dB (gX ef rfl rfl) ?_;intro w9 kB lJ))
    exact kR kB rfl rfl rfl ⟨HS.out.below.trans (lJ.below HS.out.below.size (fun k hk=>by omega)), .inl ⟨1,HX.out,rfl⟩⟩
   case pos=>
    have Cb:=ad (T1.out q1);subst q1;by_cases q2:gg=0
    case neg=>
     have HX:Hid (cG s= .error 1):=ad (BN HF.out (.inr ⟨z1,Cb.out,Qn T3.out U3.out T2.out U2.out HL.out HG.out (fun h=>q2 h.1)⟩));have q2b:(gg==0)=false:=beq_eq_false_iff_ne.2 q2;go_wp2_with (first
      |(refine eC rfl (gp rfl _ _) ?_)
      |(refine aN rfl rfl rfl rfl HS.out.r rfl dB (gX ef rfl rfl) ?_;intro w9 kB lJ))
     exact kR kB rfl rfl rfl ⟨HS.out.below.trans (lJ.below HS.out.below.size (fun k hk=>by omega)), .inl ⟨1,HX.out,rfl⟩⟩
    case pos=>
     by_cases q3:1≤L
     case neg=>
      have HX:Hid (cG s= .error 1):=ad (BN HF.out (.inr ⟨z1,Cb.out,Qn T3.out U3.out T2.out U2.out HL.out HG.out (fun h=>q3 h.2.1)⟩));subst q2;have q3b:L<1:=by omega
      go_wp2_with (first
       |(refine eC rfl (gp rfl _ _) ?_)
       |(refine aN rfl rfl rfl rfl HS.out.r rfl dB (gX ef rfl rfl) ?_;intro w9 kB lJ))
      exact kR kB rfl rfl rfl ⟨HS.out.below.trans (lJ.below HS.out.below.size (fun k hk=>by omega)), .inl ⟨1,HX.out,rfl⟩⟩
     case pos=>
      by_cases q4:L≤2678400
      case neg=>
       have HX:Hid (cG s= .error 1):=ad (BN HF.out (.inr ⟨z1,Cb.out,Qn T3.out U3.out T2.out U2.out HL.out HG.out (fun h=>q4 h.2.2)⟩));subst q2;have q4b:2678400<L:=by omega
       go_wp2_with (first
        |(refine eC rfl (gp rfl _ _) ?_)
        |(refine aN rfl rfl rfl rfl HS.out.r rfl dB (gX ef rfl rfl) ?_;intro w9 kB lJ))
       exact kR kB rfl rfl rfl ⟨HS.out.below.trans (lJ.below HS.out.below.size (fun k hk=>by omega)), .inl ⟨1,HX.out,rfl⟩⟩
      case pos=>
       have mQ:=ad (acd T3.out T2.out HL.out HG.out q2 q3 q4);subst q2;have q3b:¬L<1:=by omega
       have q4b:¬2678400<L:=by omega
       go_upto_region 15 with fail;rename_i K1 aP K2 dI;clear q3 q4 q3b q4b T1 T2 T3 U1 U2 U3 HL HG;have h:True:=trivial;obtain⟨wr,Hi⟩:∃wr,wr=wq:=⟨_,rfl⟩;rw[←Hi]at HS⊢;clear Hi;have d0:=HS.out.h.cell (eZ f (show 5<9 by decide));have v0:=HS.out.v.cell (eY f (show 5<9 by decide));have rX:∀Iw aG,Hid (lX (f 5)=some Iw)→∀a wr,RI w ab H E f (fe Y0 z1 L bD aG (ε none 0 0) ob 1) (fun wr=>gK E wr aG Iw) a wr→K1 a wr:=by
        clear dI K2 HS d0 v0 h;intro Iw aG HX5;intro a wr h;refine aP a wr ?_;clear aP;obtain⟨hA,hS,h⟩:=h;obtain⟨q,rfl,hq⟩:=oM a hA.size hA.defers;have q2:=(hq 2).symm.trans hA.s2;have q4:=(hq 4).symm.trans hA.s4;have q5:=(hq 5).symm.trans hA.s5;have q7:=(hq 7).symm.trans hA.s7;rw[q2,q4,q5,q7];have HS:=ad hS;clear hq hA hS q2 q4 q5 q7;go_upto_region 19 with fail;rename_i K1 aP K2 dI;have d0:=HS.out.h.cell (eZ f (show 6<9 by decide));have v0:=HS.out.v.cell (eY f (show 6<9 by decide));have rD:∀OR aI,Hid (lX (f 6)=some OR)→∀a wr,RI w ab H E f (fe Y0 z1 L bD aG aI ob 1) (fun wr=>gK E wr aG Iw∧gK E wr aI OR) a wr→K1 a wr:=by
         clear dI K2 HS d0 v0 h;intro OR aI HX6;intro a wr h;refine aP a wr ?_;clear aP;obtain⟨hA,hS,h⟩:=h;obtain⟨q,rfl,hq⟩:=oM a hA.size hA.defers;have q2:=(hq 2).symm.trans hA.s2;have q4:=(hq 4).symm.trans hA.s4;have q5:=(hq 5).symm.trans hA.s5;have q7:=(hq 7).symm.trans hA.s7;rw[q2,q4,q5,q7];have HS:=ad hS;clear hq hA hS q2 q4 q5 q7;go_upto_region 23 with fail;rename_i K1 aP K2 dI;have d4:=HS.out.h.cell (eZ f (show 4<9 by decide));have v4:=HS.out.v.cell (eY f (show 4<9 by decide));have rR:∀rl zy,Hid (Ca (f 4)=some rl)→Hid (zy.length=19∧∀x∈zy,x.oneCell'=true)→∀a wr,RI w ab H E f (fe Y0 z1 L zy aG aI ob 1) (fun wr=>gK E wr aG Iw∧gK E wr aI OR∧RL E wr rl zy) a wr→K1 a wr:=by
          clear dI K2 HS d4 v4 h;intro rl zy HR4 Qo;intro a wr h;refine aP a wr ?_;clear aP;obtain⟨hA,hS,h⟩:=h;obtain⟨q,rfl,hq⟩:=oM a hA.size hA.defers;have q2:=(hq 2).symm.trans hA.s2;have q4:=(hq 4).symm.trans hA.s4;have q5:=(hq 5).symm.trans hA.s5;have q7:=(hq 7).symm.trans hA.s7;rw[q2,q4,q5,q7];have HS:=ad hS;clear hq hA hS q2 q4 q5 q7;go_upto_region 27 with fail;rename_i K1 aP K2 dI;have HK8:Hid (kindOf f=if(f 8).isSome then jh ((f 8).getD []) jV fW fX else 1):=ad rfl;have d8:=HS.out.h.cell (eZ f (show 8<9 by decide));have v8:=HS.out.v.cell (eY f (show 8<9 by decide));have s25:=HS.out.e.cell (k:=25) (Z0 Qo.out.1);have f25:=HS.out.e.free (k:=25);have C8:=ad (fun W=>yz ((f 8).getD []) jV fW fX W);have rK:∀kd,Hid (kd=kindOf f)→∀a wr,RI w ab H E f (fe Y0 z1 L zy aG aI ob kd) (fun wr=>gK E wr aG Iw∧gK E wr aI OR∧RL E wr rl zy) a wr→K1 a wr:=by
           clear dI K2 HS d8 v8 s25 f25 C8 h;intro kd HKD;intro a wr h;refine aP a wr ?_;clear aP;obtain⟨hA,hS,h⟩:=h;obtain⟨q,rfl,hq⟩:=oM a hA.size hA.defers;have q2:=(hq 2).symm.trans hA.s2;have q4:=(hq 4).symm.trans hA.s4;have q5:=(hq 5).symm.trans hA.s5;have q7:=(hq 7).symm.trans hA.s7;rw[q2,q4,q5,q7];have HS:=ad hS;clear hq hA hS q2 q4 q5 q7;obtain⟨O1,O2,kA⟩:=h;have HO1:=ad O1;have HO2:=ad O2;have Yn:=ad kA;clear O1 O2 kA;have acp:(fe Y0 z1 L zy aG aI ob kd).length=26:=BL Qo.out.1;have Qp:=ad acp;have ahH:Hid (∀x∈fe Y0 z1 L zy aG aI ob kd,x.oneCell'=true):=ad (gX Qo.out.2 HO1.out.one HO2.out.one);clear acp;go_wp2_with (first
            |(refine aR rfl rfl rfl HS.out.e underlying245 rfl (by rw[Qp.out];exact dB) ?_)
            |(refine aN rfl rfl rfl rfl HS.out.r (Qp.out.symm▸rfl) (by rw[Qp.out];exact dB) ahH.out ?_;intro w9 kB lJ))
           refine kR kB Qp.out rfl rfl ⟨HS.out.below.trans (lJ.below HS.out.below.size (fun k hk=>by omega)), .inr ⟨⟨f,z1,L,Iw,OR,rl⟩,zy,aG,aI,?_,?_,kP (HO1.out.aQ lJ (fun k hk=>by omega)).1 (θ HO1.out.2 (by decide)),kP (HO2.out.aQ lJ (fun k hk=>by omega)).1 (θ HO2.out.2 (by decide)),(Yn.out.aQ lJ (fun k hk=>by omega)).low (by omega)⟩⟩
           ·rw[xc HF.out Cb.out mQ.out HX5.out HX6.out,HR4.out]
           ·rw[HKD.out,HOB.out,HY0.out];rfl
          clear aP;obtain⟨O1,O2,kA⟩:=h;generalize hx8:(f 8).isSome=x8 at *
          cases x8 with
          |false=>
           go_wp2_with fail;exact rK 1 (ad (by rw[HK8.out];rfl)) _ _ ⟨⟨rfl,rfl,rfl,rfl,rfl,rfl⟩,HS.out,O1,O2,kA⟩
          |true=>
           go_wp2_with (go_at_call 238;refine(C8.out _).mono ?_;rintro e w8 ⟨rfl,rfl⟩);exact rK _ (ad (by rw[HK8.out];rfl)) _ _ ⟨⟨rfl,rfl,rfl,rfl,rfl,rfl⟩,aeR Qo.out.1▸HS.out.set (i:=25) _ (by omega) (by omega) (by omega),O1.aQ ((aK.refl (fun k=>k=E) _).setCell (p:=⟨E,25,none⟩) (.inl rfl) _) (fun k hk=>by omega),O2.aQ ((aK.refl (fun k=>k=E) _).setCell (p:=⟨E,25,none⟩) (.inl rfl) _) (fun k hk=>by omega),kA.aQ ((aK.refl (fun k=>k=E) _).setCell (p:=⟨E,25,none⟩) (.inl rfl) _) (fun k hk=>by omega)⟩
         clear aP;obtain⟨O1,O2⟩:=h;cases h4:f 4 with
         |none=>
          rw[h4]at d4;go_wp2_with fail;exact rR none bD (ad (by rw[h4];rfl)) (ad ⟨rfl,ef⟩) _ _ ⟨⟨rfl,rfl,rfl,rfl,rfl,rfl⟩,HS.out,O1,O2, .inl ⟨rfl,rfl⟩⟩
         |some v=>
          rw[h4]at d4 v4;have OC:v.length≤2000:=by have:=E7.out 4;unfold val at this;rw[h4]at this;exact this
          have CR:=Vz v wr (by omega) (jK HN2.out Ez HS.out.below) (ξ Ez HS.out.below.size);have sS:=ad CR;have HV4:=ad h4;clear CR h4;go_upto_region 25 with(first
           |(go_at_call 237;refine(sS.out).mono ?_;rintro e w8 ⟨iy,zy,b8,rfl,Qq,acq,Ix,Iy⟩;have qY:=ad (HS.out.on iy))
           |(refine xi rfl (k:=3) rfl rfl rfl qY.out.e (by rw[BL rfl,Qq];decide) (by rw[Qq];exact fk) acq ?_;intro w9 kB lJ))
          rw[VE rfl Qq]at kB;have uS:=ad (qY.out.aQ lJ kB (by omega) (by omega) (by omega));have Sr:=ad Ix;have Ss:=ad Iy;have O19:=(O1.on iy).aQ lJ (fun k hk=>by omega);have O29:=(O2.on iy).aQ lJ (fun k hk=>by omega);have HX9:=ad lJ;have hEw:E+1≤wr.heap.size:=by have:=HS.out.e.lt;omega
          clear Ix Iy kB lJ iy O1 O2 qY HS d4 v4;cases b8 with
          |false=>
           have HX:Hid (cG s= .error 3):=ad (by rw[xc HF.out Cb.out mQ.out HX5.out HX6.out,show Ca (f 4)=none from by rw[HV4.out];show(cV v).map some=none;rw[Sr.out rfl];rfl]);go_wp2_with (first
            |(refine eC rfl (gp rfl _ _) ?_)
            |(refine aN rfl rfl rfl rfl uS.out.r rfl dB (gX ef rfl rfl) ?_;intro pg qH Lm))
           exact kR qH rfl rfl rfl ⟨uS.out.below.trans (Lm.below uS.out.below.size (fun k hk=>by omega)), .inl ⟨3,HX.out,rfl⟩⟩
          |true=>
           obtain⟨F,hF,xv⟩:=Ss.out rfl;obtain⟨rc2,e2',hTX⟩:=aeO xv;have e3':rc2=zy:=by have:=Value.agg.inj e2';simpa using this.symm
           subst e3';go_wp2_with fail;exact rR (some F) rc2 (ad (by rw[HV4.out];show(cV v).map some=_;rw[hF];rfl)) (ad ⟨Qq,acq⟩) _ _ ⟨⟨rfl,rfl,rfl,rfl,rfl,rfl⟩,uS.out,O19,O29, .inr ⟨F,rfl,hTX,(xv.mono hEw).keep fun g hg hE=>HX9.out.block g hg (fun ho=>by omega)⟩⟩
        clear aP;have O1:=h;cases h5:f 6 with
        |none=>
         rw[h5]at d0;go_wp2_with fail;exact rD [] (ε none 0 0) (ad (by rw[h5];rfl)) _ _ ⟨⟨rfl,rfl,rfl,rfl,rfl,rfl⟩,HS.out,O1,gK.nil _ _⟩
        |some v=>
         rw[h5]at d0 v0;have OC:v.length≤2000:=by have:=E7.out 6;unfold val at this;rw[h5]at this;exact this
         have CR:=Iz ⟨v.toArray⟩ wr (by show v.toArray.size≤_;rw[List.size_toArray];omega);have sS:=ad CR;have Cl:=ad h5;clear CR h5;go_upto_region 21 with(go_at_call 236;refine(sS.out).mono ?_;rintro e w8 ⟨a8,n8,c8,b8,rfl,iy,Ix,Iy⟩;have qY:=ad (HS.out.on iy);have s8:=qY.out.e.cell (k:=23) rfl;have f8:=qY.out.e.free (k:=23));have uS:=ad (qY.out.set (i:=23) (ε a8 n8 c8) (by omega) (by omega) (by omega));have Su:aK (fun k=>k=E) w8 (w8.setCell ⟨E,23,none⟩ (ε a8 n8 c8)):=(aK.refl (fun k=>k=E) w8).setCell (p:=⟨E,23,none⟩) (.inl rfl) _;have Sr:=ad Ix;have Ss:=ad Iy;have Qr:=ad Su;have Ln:E+1≤wr.heap.size:=by have:=HS.out.e.lt;omega
         clear Ix Iy Su s8 f8 d0 v0 HS qY;cases b8 with
         |false=>
          have HX:Hid (cG s= .error 1):=ad (OO HF.out Cb.out mQ.out (.inr ⟨Iw,HX5.out,by rw[Cl.out];exact Sr.out rfl⟩));go_wp2_with (first
           |(refine eC rfl (gp rfl _ _) ?_)
           |(refine aN rfl rfl rfl rfl uS.out.r rfl dB (gX ef rfl rfl) ?_;intro w9 kB lJ))
          exact kR kB rfl rfl rfl ⟨uS.out.below.trans (lJ.below uS.out.below.size (fun k hk=>by omega)), .inl ⟨1,HX.out,rfl⟩⟩
         |true=>
          obtain⟨zs,eP,fb,Iu⟩:=Ss.out rfl;have hzo:gK E w8 (ε a8 n8 c8) zs:=⟨eV fb Ln,Iu⟩;go_wp2_with fail;exact rD zs (ε a8 n8 c8) (ad (by rw[Cl.out];exact eP)) _ _ ⟨⟨rfl,rfl,rfl,rfl,rfl,rfl⟩,uS.out,(O1.on iy).aQ Qr.out (fun k hk=>by omega),hzo.aQ Qr.out (fun k hk=>by omega)⟩
       clear aP;cases h5:f 5 with
       |none=>
        rw[h5]at d0;go_wp2_with fail;exact rX [] (ε none 0 0) (ad (by rw[h5];rfl)) _ _ ⟨⟨rfl,rfl,rfl,rfl,rfl,rfl⟩,HS.out,gK.nil _ _⟩
       |some v=>
        rw[h5]at d0 v0;have OC:v.length≤2000:=by have:=E7.out 5;unfold val at this;rw[h5]at this;exact this
        have CR:=Iz ⟨v.toArray⟩ wr (by show v.toArray.size≤_;rw[List.size_toArray];omega);have sS:=ad CR;have Cl:=ad h5;clear CR h5;go_upto_region 17 with(go_at_call 236;refine(sS.out).mono ?_;rintro e w8 ⟨a8,n8,c8,b8,rfl,iy,Ix,Iy⟩;have qY:=ad (HS.out.on iy);have s8:=qY.out.e.cell (k:=22) rfl;have f8:=qY.out.e.free (k:=22));have uS:=ad (qY.out.set (i:=22) (ε a8 n8 c8) (by omega) (by omega) (by omega));have Su:aK (fun k=>k=E) w8 (w8.setCell ⟨E,22,none⟩ (ε a8 n8 c8)):=(aK.refl (fun k=>k=E) w8).setCell (p:=⟨E,22,none⟩) (.inl rfl) _;have Sr:=ad Ix;have Ss:=ad Iy;have Qr:=ad Su;have Ln:E+1≤wr.heap.size:=by have:=HS.out.e.lt;omega
        clear Ix Iy Su s8 f8 d0 v0 HS qY;cases b8 with
        |false=>
         have HX:Hid (cG s= .error 1):=ad (OO HF.out Cb.out mQ.out (.inl (by rw[Cl.out];exact Sr.out rfl)));go_wp2_with (first
          |(refine eC rfl (gp rfl _ _) ?_)
          |(refine aN rfl rfl rfl rfl uS.out.r rfl dB (gX ef rfl rfl) ?_;intro w9 kB lJ))
         exact kR kB rfl rfl rfl ⟨uS.out.below.trans (lJ.below uS.out.below.size (fun k hk=>by omega)), .inl ⟨1,HX.out,rfl⟩⟩
        |true=>
         obtain⟨zs,eP,fb,Iu⟩:=Ss.out rfl;have hzo:gK E w8 (ε a8 n8 c8) zs:=⟨eV fb Ln,Iu⟩;go_wp2_with fail;exact rX zs (ε a8 n8 c8) (ad (by rw[Cl.out];exact eP)) _ _ ⟨⟨rfl,rfl,rfl,rfl,rfl,rfl⟩,uS.out,hzo.aQ Qr.out (fun k hk=>by omega)⟩
  clear aP;have d3:=Sq.out.h.cell (eZ f (show 3<9 by decide));have v3:=Sq.out.v.cell (eY f (show 3<9 by decide));generalize iW:(f 3).isSome=x3 at *
  cases x3 with
  |false=>
   rw[if_neg (by simp)]at hL OP;subst hL OP;go_wp2_with fail;exact⟨⟨rfl,rfl,rfl,rfl,rfl,rfl⟩,Sq.out,rfl,rfl,rfl⟩
  |true=>
   rw[if_pos rfl]at hL OP;subst hL OP;go_wp2_with (go_at_call 107;refine(C3.out _).mono ?_;rintro e pg ⟨rfl,rfl⟩);exact⟨⟨rfl,rfl,rfl,rfl,rfl,rfl⟩,Sq.out,rfl,rfl,rfl⟩
theorem Z1 {P:Program}(T:TypeId)(cs:List Value)(w:ι):(Instr.box T (.agg cs.toArray)).run P w= .ok (δ (some ⟨w.heap.size,0,none⟩)) (w.alloc (.cells cs.toArray T)):=by
 first
 |rfl
 |(simp[Instr.box,newVar,newRow,Value.cells];done)
 |(unfold Instr.box newVar;go_simp)
theorem mD {o:Oper}{a:Act}{w:ι}{x:Operand}{T:TypeId}{cs:List Value}(ho:o.op= .box T x)(hx:a.eval x= .agg cs.toArray):(execOp a.eval o).run prog w= .ok (.value (δ (some ⟨w.heap.size,0,none⟩))) (w.alloc (.cells cs.toArray T)):=by
 obtain⟨_,_,_,_,_,_⟩:=o;simp only[]at ho;subst ho;unfold execOp;simp only[hx];exact aL (Z1 T cs w)
def rA:ByteArray:=⟨#[66,69,71,73,78,58,86,69,86,69,78,84,13,10,85,73,68,58]⟩
def rC:ByteArray:=⟨#[13,10]⟩
def rD:ByteArray:=⟨#[68,84,83,84,65,82,84,58]⟩
def rU:ByteArray:=⟨#[68,85,82,65,84,73,79,78,58,80,84]⟩
def rS:ByteArray:=⟨#[83]⟩
def c2 (U:ByteArray):ByteArray:=rA++U
def c3 (U:ByteArray):ByteArray:=c2 U++rC
def c4 (U:ByteArray):ByteArray:=c3 U++rD
def c6 (U T:ByteArray):ByteArray:=c4 U++T
def c7 (U T:ByteArray):ByteArray:=c6 U T++rC
def c8 (U T:ByteArray):ByteArray:=c7 U T++rU
def Hr (U T D:ByteArray):ByteArray:=c8 U T++D
def Hs (U T D:ByteArray):ByteArray:=Hr U T D++rS
def B7 (U T D:ByteArray):ByteArray:=Hs U T D++rC
theorem s2 (U:ByteArray):(c2 U).size=U.size+18:=by
 unfold c2;rw[η];have:rA.size=18:=rfl;omega
theorem s3 (U:ByteArray):(c3 U).size=U.size+20:=by
 unfold c3;rw[η,s2];have:rC.size=2:=rfl;omega
theorem s4 (U:ByteArray):(c4 U).size=U.size+28:=by
 unfold c4;rw[η,s3];have:rD.size=8:=rfl;omega
theorem s6 (U T:ByteArray):(c6 U T).size=U.size+T.size+28:=by
 unfold c6;rw[η,s4];omega
theorem s7 (U T:ByteArray):(c7 U T).size=U.size+T.size+30:=by
 unfold c7;rw[η,s6];have:rC.size=2:=rfl;omega
theorem s8 (U T:ByteArray):(c8 U T).size=U.size+T.size+41:=by
 unfold c8;rw[η,s7];have:rU.size=11:=rfl;omega
theorem s12 (U T D:ByteArray):(Hr U T D).size=U.size+T.size+D.size+41:=by
 unfold Hr;rw[η,s8];omega
theorem s13 (U T D:ByteArray):(Hs U T D).size=U.size+T.size+D.size+42:=by
 unfold Hs;rw[η,s12];have:rS.size=1:=rfl;omega
def IA (i:Nat):Nat:=if i=15 then 5 else 15+i
def NR (b:Nat)(U T D:ByteArray)(ln:Int)(i:Nat)(v:Value)(_:ι):Prop:=match i with
 |0=>v= δ (some ⟨b,0,none⟩)
 |1=>v= ζ U
 |2=>v= ζ (c2 U)
 |3=>v= ζ (c3 U)
 |4=>v= ζ (c4 U)
 |5=>v= ζ T
 |6=>v= ζ (c6 U T)
 |7=>v= ζ (c7 U T)
 |8=>v= ζ (c8 U T)
 |9=>v= δ (some ⟨b,2,none⟩)
 |10=>v= V Z ln
 |11=>v= ζ D
 |12=>v= ζ (Hr U T D)
 |13=>v= ζ (Hs U T D)
 |14=>v= ζ (B7 U T D)
 |_=>v= ζ (B7 U T D)
theorem NR.grow {b:Nat}{U T D:ByteArray}{ln:Int}(i:Nat)(v:Value)(w w':ι)(h:NR b U T D ln i v w)(_:Below w.heap.size w w'):NR b U T D ln i v w':=h
theorem acs (b:Nat)(U T D:ByteArray)(ln:Int):EF IA [(1, δ (some ⟨b,0,none⟩)),(3, ζ T)] 107 16 (NR b U T D ln):=
 ⟨fun i hi=>by unfold IA;split<;>omega,fun i j hi hj h=>by unfold IA at h;split at h<;>split at h<;>omega,fun p hp i hi=>by
  simp only[List.mem_cons,List.not_mem_nil,or_false]at hp;rcases hp with rfl|rfl
  ·show 1≠IA i;unfold IA;split<;>omega
  ·show 3≠IA i;unfold IA;split<;>omega,NR.grow⟩
theorem IB (b k off:Nat)(h:(k,off)=(0,0)∨(k,off)=(1,1)∨(k,off)=(2,2))(w:ι):(Instr.fieldAt 245 (δ (some ⟨b,0,none⟩)) k).run prog w= .ok (δ (some ⟨b,off,none⟩)) w:=by
 rcases h with h|h|h<;>cases h<;>go_simp
theorem Lo {o:Oper}{a:Act}{w:ι}{x:Operand}{v:Value}(ho:o.op= .move x)(h:a.eval x=v):(execOp a.eval o).run prog w= .ok (.value v) w:=by
 obtain⟨_,_,_,_,_,_⟩:=o;simp only[]at ho;subst ho;unfold execOp;simp only[h];rfl
theorem mE (a:Act)(h:a.tmps.size=107)(hd:a.defers=[]):∃f:Nat→Value,a=⟨List.toArray (f 0::f 1::f 2::f 3::f 4::f 5::f 6::f 7::f 8::f 9::f 10::f 11::f 12::f 13::f 14::f 15::f 16::f 17::f 18::f 19::f 20::f 21::f 22::f 23::f 24::f 25::f 26::f 27::f 28::f 29::f 30::f 31::f 32::f 33::f 34::f 35::f 36::f 37::f 38::f 39::f 40::f 41::f 42::f 43::f 44::f 45::f 46::f 47::f 48::f 49::f 50::f 51::f 52::f 53::f 54::f 55::f 56::f 57::f 58::f 59::f 60::f 61::f 62::f 63::f 64::f 65::f 66::f 67::f 68::f 69::f 70::f 71::f 72::f 73::f 74::f 75::f 76::f 77::f 78::f 79::f 80::f 81::f 82::f 83::f 84::f 85::f 86::f 87::f 88::f 89::f 90::f 91::f 92::f 93::f 94::f 95::f 96::f 97::f 98::f 99::f 100::f 101::f 102::f 103::f 104::f 105::f 106::[]),[]⟩∧∀k,a.eval (.tmp k)=f k:=jo 107 a h hd
end Go.Proofs.YthpndgcaoeokeaaGreatDoor
