import Derived.Test.YthpndgcaoeokeaaGreatDoorCo33
set_option maxRecDepth 100000
set_option maxHeartbeats 16000000
open Go.IntKind renaming i64→Z
open Go.Value renaming int→V,pointer→ε,slice→ζ,string→η
open Go.Ending renaming returned→δ
open Option.some renaming inj→θ
open List renaming length_map→ι,setIfInBounds_toArray→ν,set_cons_zero→τ,set_cons_succ→υ,getD_eq_getElem?_getD→χ,getElem?_eq_getElem→ψ,take_of_length_le→Α,length_append→Β,filter_append→Γ,filter_congr→Δ,length_cons→Ε,getElem_mem→Ζ,toArray→Η,getD→Θ
open Bool renaming or_true→κ,false_or→ο,false_and→π,true_or→φ
open Go renaming World→μ,Calls→ρ,Regrown→ω
open List.Pairwise renaming filter→ξ
namespace Go.Proofs.YthpndgcaoeokeaaGreatDoor
open Tryz
open Go.RowKit Go.Sort
theorem rH (a:Act)(h:a.tmps.size=148)(hd:a.defers=[]):∃f:Nat→Value,a=⟨Η (f 0::f 1::f 2::f 3::f 4::f 5::f 6::f 7::f 8::f 9::f 10::f 11::f 12::f 13::f 14::f 15::f 16::f 17::f 18::f 19::f 20::f 21::f 22::f 23::f 24::f 25::f 26::f 27::f 28::f 29::f 30::f 31::f 32::f 33::f 34::f 35::f 36::f 37::f 38::f 39::f 40::f 41::f 42::f 43::f 44::f 45::f 46::f 47::f 48::f 49::f 50::f 51::f 52::f 53::f 54::f 55::f 56::f 57::f 58::f 59::f 60::f 61::f 62::f 63::f 64::f 65::f 66::f 67::f 68::f 69::f 70::f 71::f 72::f 73::f 74::f 75::f 76::f 77::f 78::f 79::f 80::f 81::f 82::f 83::f 84::f 85::f 86::f 87::f 88::f 89::f 90::f 91::f 92::f 93::f 94::f 95::f 96::f 97::f 98::f 99::f 100::f 101::f 102::f 103::f 104::f 105::f 106::f 107::f 108::f 109::f 110::f 111::f 112::f 113::f 114::f 115::f 116::f 117::f 118::f 119::f 120::f 121::f 122::f 123::f 124::f 125::f 126::f 127::f 128::f 129::f 130::f 131::f 132::f 133::f 134::f 135::f 136::f 137::f 138::f 139::f 140::f 141::f 142::f 143::f 144::f 145::f 146::f 147::[]),[]⟩∧∀k,a.eval (.tmp k)=f k:=jo 148 a h hd
def xP (w:μ)(R A B:List Value)(X:μ):Prop:=af X w.heap.size R 243∧af X (w.heap.size+1) A 236∧af X (w.heap.size+1+1) B 236∧Below w.heap.size w X
theorem xP.on {w X X':μ}{R A B:List Value}(h:xP w R A B X)(hb:Below X.heap.size X X'):xP w R A B X':=⟨h.1.on hb,h.2.1.on hb,h.2.2.1.on hb,h.2.2.2.trans (hb.mono h.2.2.2.size)⟩
theorem xP.drew {w X:μ}{R A B:List Value}(h:xP w R A B X)(n:Nat):xP w R A B (X.drewN n):=⟨h.1,h.2.1,h.2.2.1,below_drewN h.2.2.2 n⟩
structure Zk (w:μ)(a:Act):Prop where
 size:a.tmps.size=148
 defers:a.defers=[]
 s3:a.eval (.tmp 3)= ε (some ⟨w.heap.size,0,none⟩)
 s4:a.eval (.tmp 4)= ε (some ⟨w.heap.size+1,0,none⟩)
 s5:a.eval (.tmp 5)= ε (some ⟨w.heap.size+1+1,0,none⟩)
theorem aef (fq iv ct un ws:Int)(a1 a2 a3 a4 a5:Option Addr)(l1 l2 n3 l3 k1 k2 k3 k4 k5:Nat)(t0 t1 t2 t3 t4 t5 t6 t7 t8:ByteArray)(Y M D n q Y2 M2 D2 n2 q2 MD:Int)(bM bA bB:Bool)(wd od:Nat→Int)(oo S:Nat→Bool)(yr T R:Bool)(w:μ)
 (CM:Hid (∀W,Below w.heap.size w W→ρ prog 247 #[ζ a1 l1 k1, V Z M] W fun e w'=>e= δ (.bool bM)∧W=w'))
 (CA:Hid (∀W,Below w.heap.size w W→ρ prog 247 #[ζ a2 l2 k2, V Z D] W fun e w'=>e= δ (.bool bA)∧W=w'))
 (CD:Hid (∀W,ρ prog 180 #[V Z Y, V Z M] W fun e w'=>e= δ (V Z MD)∧W=w'))
 (CB:Hid (∀W,Below w.heap.size w W→ρ prog 247 #[ζ a2 l2 k2, V Z (D - MD - 1)] W fun e w'=>e= δ (.bool bB)∧W=w'))
 (HW:Hid (0<l3→∃FB o4 MC o5,a4=some ⟨FB,o4,none⟩∧a5=some ⟨MC,o5,none⟩∧∀X,Below w.heap.size w X→∀i,i<l3→X.cell? ⟨FB,o4+i,none⟩=some (V Z (wd i))∧X.cell? ⟨MC,o5+i,none⟩=some (V Z (od i))))
 (CO:Hid (∀i,i<l3→wd i=q→od i≠0→∀X,Below w.heap.size w X→ρ prog 294 #[.agg #[V Z Y, V Z M, V Z D, V Z n, V Z q], V Z (od i), .bool yr] X fun e w'=>e= δ (.bool (oo i))∧Below X.heap.size X w'))
 (Jr:Hid (S 0=false))(hS:Hid (∀i,i<l3→S (i+1)=(S i||(wd i==q&&(od i==0||oo i)))))(FC:Hid (yr=decide (fq=4∧l1=0)))(O6:l3≤1048576)(dd:0≤D∧D≤31)(m0:28≤MD∧MD≤31)
 (hT:Hid (T=if fq=2 then q==q2 else if fq=3 then D==D2 else if fq=4 then D==D2&&(decide (0<l1)||M==M2)else true))
 (hR:Hid (R=((decide (l1=0)||bM)&&(decide (l2=0)||bA||bB)&&(decide (l3=0)||S l3)&&(decide (0<l2)||decide (0<l3)||T)))):
 ρ prog 242 #[.agg #[V Z fq, V Z iv, V Z ct, V Z un, ζ a1 l1 k1, ζ a2 l2 k2, ζ a3 n3 k3, ζ a4 l3 k4, ζ a5 l3 k5, V Z ws, η t0, η t1, η t2, η t3, η t4, η t5, η t6, η t7, η t8], .agg #[V Z Y, V Z M, V Z D, V Z n, V Z q], .agg #[V Z Y2, V Z M2, V Z D2, V Z n2, V Z q2]] w fun e w'=>e= δ (.bool R)∧Below w.heap.size w w':=by
 go_enter func242,ntmps242;go_upto_region 1 with fail;refine qC (xP w [V Z fq, V Z iv, V Z ct, V Z un, ζ a1 l1 k1, ζ a2 l2 k2, ζ a3 n3 k3, ζ a4 l3 k4, ζ a5 l3 k5, V Z ws, η t0, η t1, η t2, η t3, η t4, η t5, η t6, η t7, η t8] [V Z Y, V Z M, V Z D, V Z n, V Z q] [V Z Y2, V Z M2, V Z D2, V Z n2, V Z q2]) ⟨qs w _ _ _ _,qt w _ _ _ _,qu w _ _ _ _,mi w _ _ _⟩ ?_;intro wr j;obtain⟨g0,g1,g2,g3,g4,g5,g6,g7,g8,g9,g10,g11,g12,g13,g14,g15,g16,g17,g18⟩:=Fv j.1;obtain⟨d0,d1,d2,d3,d4⟩:=c5 j.2.1;obtain⟨e0,e1,e2,e3,e4⟩:=c5 j.2.2.1;go_upto_region 2 with(refine(CM.out _ j.2.2.2).mono ?_;rintro e w1 ⟨rfl,rfl⟩);rename_i K1 aP K2 dI;have r4:Hid ((decide (l1=0)||bM)=true)→∀a wr,Zk w a→xP w [V Z fq, V Z iv, V Z ct, V Z un, ζ a1 l1 k1, ζ a2 l2 k2, ζ a3 n3 k3, ζ a4 l3 k4, ζ a5 l3 k5, V Z ws, η t0, η t1, η t2, η t3, η t4, η t5, η t6, η t7, η t8] [V Z Y, V Z M, V Z D, V Z n, V Z q] [V Z Y2, V Z M2, V Z D2, V Z n2, V Z q2] wr→K1 a wr:=by
  clear dI K2 CM;intro HM;clear g0 g1 g2 g3 g4 g5 g6 g7 g8 g9 g10 g11 g12 g13 g14 g15 g16 g17 g18 d0 d1 d2 d3 d4 e0 e1 e2 e3 e4;clear j wr;intro a wr hA j;refine aP a wr ?_;clear aP;obtain⟨f,rfl,hf⟩:=rH a hA.size hA.defers;have f3:=(hf 3).symm.trans hA.s3;have f4:=(hf 4).symm.trans hA.s4;have f5:=(hf 5).symm.trans hA.s5;rw[f3,f4,f5];clear hf hA f3 f4 f5;obtain⟨g0,g1,g2,g3,g4,g5,g6,g7,g8,g9,g10,g11,g12,g13,g14,g15,g16,g17,g18⟩:=Fv j.1;obtain⟨d0,d1,d2,d3,d4⟩:=c5 j.2.1;obtain⟨e0,e1,e2,e3,e4⟩:=c5 j.2.2.1;go_upto_region 4 with fail;rename_i K1 aP K2 dI;have r9:Hid ((decide (l2=0)||bA||bB)=true)→∀a wr,Zk w a→xP w [V Z fq, V Z iv, V Z ct, V Z un, ζ a1 l1 k1, ζ a2 l2 k2, ζ a3 n3 k3, ζ a4 l3 k4, ζ a5 l3 k5, V Z ws, η t0, η t1, η t2, η t3, η t4, η t5, η t6, η t7, η t8] [V Z Y, V Z M, V Z D, V Z n, V Z q] [V Z Y2, V Z M2, V Z D2, V Z n2, V Z q2] wr→K1 a wr:=by
   clear dI K2 CA CB CD m0 dd;intro HD;clear g0 g1 g2 g3 g4 g5 g6 g7 g8 g9 g10 g11 g12 g13 g14 g15 g16 g17 g18 d0 d1 d2 d3 d4 e0 e1 e2 e3 e4;clear j wr;intro a wr hA j;refine aP a wr ?_;clear aP;obtain⟨f,rfl,hf⟩:=rH a hA.size hA.defers;have f3:=(hf 3).symm.trans hA.s3;have f4:=(hf 4).symm.trans hA.s4;have f5:=(hf 5).symm.trans hA.s5;rw[f3,f4,f5];clear hf hA f3 f4 f5;obtain⟨g0,g1,g2,g3,g4,g5,g6,g7,g8,g9,g10,g11,g12,g13,g14,g15,g16,g17,g18⟩:=Fv j.1;obtain⟨d0,d1,d2,d3,d4⟩:=c5 j.2.1;obtain⟨e0,e1,e2,e3,e4⟩:=c5 j.2.2.1;go_upto_region 9 with fail;rename_i K1 aP K2 dI;have Zl:Hid ((decide (l3=0)||S l3)=true)→∀a wr,Zk w a→xP w [V Z fq, V Z iv, V Z ct, V Z un, ζ a1 l1 k1, ζ a2 l2 k2, ζ a3 n3 k3, ζ a4 l3 k4, ζ a5 l3 k5, V Z ws, η t0, η t1, η t2, η t3, η t4, η t5, η t6, η t7, η t8] [V Z Y, V Z M, V Z D, V Z n, V Z q] [V Z Y2, V Z M2, V Z D2, V Z n2, V Z q2] wr→K1 a wr:=by
    clear dI K2 HW CO Jr hS FC;intro H3;clear g0 g1 g2 g3 g4 g5 g6 g7 g8 g9 g10 g11 g12 g13 g14 g15 g16 g17 g18 d0 d1 d2 d3 d4 e0 e1 e2 e3 e4;clear j wr;intro a wr hA j;refine aP a wr ?_;clear aP;obtain⟨f,rfl,hf⟩:=rH a hA.size hA.defers;have f3:=(hf 3).symm.trans hA.s3;have f4:=(hf 4).symm.trans hA.s4;have f5:=(hf 5).symm.trans hA.s5;rw[f3,f4,f5];clear hf hA f3 f4 f5;obtain⟨g0,g1,g2,g3,g4,g5,g6,g7,g8,g9,g10,g11,g12,g13,g14,g15,g16,g17,g18⟩:=Fv j.1;obtain⟨d0,d1,d2,d3,d4⟩:=c5 j.2.1;obtain⟨e0,e1,e2,e3,e4⟩:=c5 j.2.2.1;go_upto_region 19 with fail;rename_i K1 aP K2 dI;by_cases p2:l2=0
    case neg=>
     have p2':0<l2:=by omega
     have e9:R=true:=by rw[hR.out,HM.out,HD.out,H3.out,decide_eq_true p2'];rfl
     clear hT hR;subst e9;go_wp2_with fail;go_ret;exact⟨rfl,j.2.2.2⟩
    case pos=>
     subst p2;by_cases p3:l3=0
     case neg=>
      have p3':0<l3:=by omega
      have e9:R=true:=by rw[hR.out,HM.out,HD.out,H3.out,decide_eq_true p3',κ,φ];rfl
      clear hT hR;subst e9;go_wp2_with fail;go_ret;exact⟨rfl,j.2.2.2⟩
     case pos=>
      subst p3;have EG:Hid (R=T):=ad (by rw[hR.out,HM.out,HD.out,H3.out];rfl);have Zj:∀a wr,Zk w a→xP w [V Z fq, V Z iv, V Z ct, V Z un, ζ a1 l1 k1, ζ a2 0 k2, ζ a3 n3 k3, ζ a4 0 k4, ζ a5 0 k5, V Z ws, η t0, η t1, η t2, η t3, η t4, η t5, η t6, η t7, η t8] [V Z Y, V Z M, V Z D, V Z n, V Z q] [V Z Y2, V Z M2, V Z D2, V Z n2, V Z q2] wr→K1 a wr:=by
       clear dI K2 hR HM HD H3;clear g0 g1 g2 g3 g4 g5 g6 g7 g8 g9 g10 g11 g12 g13 g14 g15 g16 g17 g18 d0 d1 d2 d3 d4 e0 e1 e2 e3 e4;clear j wr;intro a wr hA j;refine aP a wr ?_;clear aP;obtain⟨f,rfl,hf⟩:=rH a hA.size hA.defers;have f3:=(hf 3).symm.trans hA.s3;have f4:=(hf 4).symm.trans hA.s4;have f5:=(hf 5).symm.trans hA.s5;rw[f3,f4,f5];clear hf hA f3 f4 f5;obtain⟨g0,g1,g2,g3,g4,g5,g6,g7,g8,g9,g10,g11,g12,g13,g14,g15,g16,g17,g18⟩:=Fv j.1;obtain⟨d0,d1,d2,d3,d4⟩:=c5 j.2.1;obtain⟨e0,e1,e2,e3,e4⟩:=c5 j.2.2.1;go_upto_region 21 with fail;by_cases f2:fq=2
       ·subst f2;have e9:R=(q==q2):=EG.out.trans hT.out;subst e9;go_wp2_with fail;go_ret;exact⟨rfl,j.2.2.2⟩
       have XB:(fq==2)=false:=by simp[f2]
       by_cases f3:fq=3
       ·subst f3;have e9:R=(D==D2):=EG.out.trans hT.out;subst e9;go_wp2_with fail;go_ret;exact⟨rfl,j.2.2.2⟩
       have g3':(fq==3)=false:=by simp[f3]
       by_cases f4:fq=4
       ·subst f4;have e8:R=(D==D2&&(decide (0<l1)||M==M2)):=EG.out.trans hT.out;by_cases hD:D=D2
        ·subst hD;have pk:(D==D)=true:=by simp
         by_cases hl:0<l1
         ·have e9:R=true:=by rw[e8,pk,decide_eq_true hl];rfl
          clear e8;subst e9;go_wp2_with fail;go_ret;exact⟨rfl,j.2.2.2⟩
         ·obtain rfl:l1=0:=by omega
          have e9:R=(M==M2):=by rw[e8,pk,decide_eq_false hl];rfl
          clear e8;subst e9;go_wp2_with fail;go_ret;exact⟨rfl,j.2.2.2⟩
        ·have pk:(D==D2)=false:=by simp[hD]
         have e9:R=false:=by rw[e8,pk];rfl
         clear e8;subst e9;go_wp2_with fail;go_ret;exact⟨rfl,j.2.2.2⟩
       have FB:(fq==4)=false:=by simp[f4]
       have e9:R=true:=EG.out.trans (hT.out.trans (by rw[if_neg f2,if_neg f3,if_neg f4]));subst e9;go_wp2_with fail;go_ret;exact⟨rfl,j.2.2.2⟩
      clear aP;go_wp2_with fail;exact Zj _ _ ⟨rfl,rfl,rfl,rfl,rfl⟩ j
   clear aP hT;by_cases p3:l3=0
   case pos=>
    subst p3;go_wp2_with fail;exact Zl (ad rfl) _ _ ⟨rfl,rfl,rfl,rfl,rfl⟩ j
   case neg=>
    have p3':0<l3:=by omega
    obtain⟨FB,o4,MC,o5,rfl,rfl,hw⟩:=HW.out p3';have HWc:=ad hw;clear hw HW;go_wp2_with fail;go_loopw [10,11] (fun a b wr=>∃i:Nat,i≤l3∧a= .bool (S i)∧b= V Z i∧xP w [V Z fq, V Z iv, V Z ct, V Z un, ζ a1 l1 k1, ζ a2 l2 k2, ζ a3 n3 k3,Value.slice (some ⟨FB,o4,none⟩) l3 k4,Value.slice (some ⟨MC,o5,none⟩) l3 k5, V Z ws, η t0, η t1, η t2, η t3, η t4, η t5, η t6, η t7, η t8] [V Z Y, V Z M, V Z D, V Z n, V Z q] [V Z Y2, V Z M2, V Z D2, V Z n2, V Z q2] wr) (fun _ b _=>l3 - (intOf b).toNat)
    case atStart=>exact⟨0,Nat.zero_le _,by rw[Jr.out],rfl,j⟩
    case round=>
     obtain⟨i,hi,rfl,rfl,jr⟩:=hrel;clear g0 g1 g2 g3 g4 g5 g6 g7 g8 g9 g10 g11 g12 g13 g14 g15 g16 g17 g18 d0 d1 d2 d3 d4 e0 e1 e2 e3 e4;clear j;obtain⟨g0,g1,g2,g3,g4,g5,g6,g7,g8,g9,g10,g11,g12,g13,g14,g15,g16,g17,g18⟩:=Fv jr.1;obtain⟨d0,d1,d2,d3,d4⟩:=c5 jr.2.1;obtain⟨e0,e1,e2,e3,e4⟩:=c5 jr.2.2.1;by_cases ay:i<l3
     case neg=>
      have lF:S l3=S i:=by rw[show l3=i by omega]
      cases hs:S i with
      |false=>
       have e9:R=false:=by rw[hR.out,lF,hs,decide_eq_false p3,ο,Bool.and_false,π]
       clear hR lF Zl;subst e9;go_wp2_with fail;go_ret;exact⟨rfl,jr.2.2.2⟩
      |true=>
       have h3:Hid ((decide (l3=0)||S l3)=true):=ad (by rw[lF,hs,κ]);clear hR lF;go_wp2_with fail;exact Zl h3 _ _ ⟨rfl,rfl,rfl,rfl,rfl⟩ jr
     case pos=>
      clear hR Zl;have sn:=hS.out i ay;obtain⟨x1,x2⟩:=HWc.out wr jr.2.2.2 i ay;by_cases he:wd i=q
      case neg=>
       have hz:(wd i==q)=false:=by simp[he]
       rw[hz,π,Bool.or_false]at sn;generalize wd i=wi at *
       go_upto_region 14 with fail;go_big_quiet (fail);have jn:=jr.drew nq;go_wp2_with fail;exact⟨⟨i+1,by omega,by rw[sn];try rfl,by go_num,jn⟩,by simp[intOf];omega⟩
      case pos=>
       have hz:(wd i==q)=true:=by simp[he]
       rw[hz,Bool.true_and]at sn;rw[he]at x1;have IQ:(q==q)=true:=by simp
       go_upto_region 14 with fail;go_big_quiet (fail);replace jr:=jr.drew nq;clear g0 g1 g2 g3 g4 g5 g6 g7 g8 g9 g10 g11 g12 g13 g14 g15 g16 g17 g18 d0 d1 d2 d3 d4 e0 e1 e2 e3 e4 x1 x2;generalize wr.drewN nq=X at *
       obtain⟨g0,g1,g2,g3,g4,g5,g6,g7,g8,g9,g10,g11,g12,g13,g14,g15,g16,g17,g18⟩:=Fv jr.1;obtain⟨d0,d1,d2,d3,d4⟩:=c5 jr.2.1;obtain⟨e0,e1,e2,e3,e4⟩:=c5 jr.2.2.1;obtain⟨x1,x2⟩:=HWc.out X jr.2.2.2 i ay;go_upto_region 15 with fail;rename_i K3 hK3;have Ht:∀{b:Bool} {vj vk vl vo vp vr vt u64 vu vv vw vx vy vz vA vB vC vD vE vF vG vH vI vJ vK vL vM vN vO vP vQ vR vS vT vU vV vW vX vY vZ wc we wg:Value} {X':μ},S (i+1)=(S i||b)→xP w [V Z fq, V Z iv, V Z ct, V Z un, ζ a1 l1 k1, ζ a2 l2 k2, ζ a3 n3 k3,Value.slice (some ⟨FB,o4,none⟩) l3 k4,Value.slice (some ⟨MC,o5,none⟩) l3 k5, V Z ws, η t0, η t1, η t2, η t3, η t4, η t5, η t6, η t7, η t8] [V Z Y, V Z M, V Z D, V Z n, V Z q] [V Z Y2, V Z M2, V Z D2, V Z n2, V Z q2] X'→K3 ⟨Η (f 0::f 1::f 2::(ε (some ⟨w.heap.size,0,none⟩))::(ε (some ⟨w.heap.size+1,0,none⟩))::(ε (some ⟨w.heap.size+1+1,0,none⟩))::f 6::f 7::f 8::f 9::(.bool (S i))::(V Z (i:Int))::(.bool b)::f 13::f 14::f 15::f 16::f 17::f 18::f 19::f 20::f 21::f 22::f 23::f 24::f 25::f 26::f 27::f 28::f 29::f 30::f 31::f 32::f 33::f 34::f 35::f 36::f 37::f 38::f 39::f 40::f 41::f 42::f 43::f 44::f 45::f 46::f 47::f 48::f 49::f 50::f 51::f 52::(ε (some ⟨w.heap.size,7,none⟩))::(ζ (some ⟨FB,o4,none⟩) l3 k4)::(V Z (l3:Int))::(.bool true)::vj::vk::vl::vo::vp::vr::vt::u64::vu::vv::vw::vx::vy::vz::vA::vB::vC::vD::vE::vF::vG::vH::vI::vJ::vK::vL::vM::vN::vO::vP::vQ::vR::vS::vT::vU::vV::vW::vX::vY::vZ::wc::we::wg::f 100::f 101::f 102::f 103::f 104::f 105::f 106::f 107::f 108::f 109::f 110::f 111::f 112::f 113::f 114::f 115::f 116::f 117::f 118::f 119::f 120::f 121::f 122::f 123::f 124::f 125::f 126::f 127::f 128::f 129::f 130::f 131::f 132::f 133::f 134::f 135::f 136::f 137::f 138::f 139::f 140::f 141::f 142::f 143::f 144::f 145::f 146::f 147::[]),[]⟩ X':=by
        intro b vj vk vl vo vp vr vt u64 vu vv vw vx vy vz vA vB vC vD vE vF vG vH vI vJ vK vL vM vN vO vP vQ vR vS vT vU vV vW vX vY vZ wc we wg X' Zm jn;refine hK3 _ _ ?_;clear hK3;cases hs:S i with
        |true=>
         rw[hs,φ]at Zm;go_wp2_with fail;exact⟨⟨i+1,by omega,by rw[Zm],by go_num,jn⟩,by simp[intOf];omega⟩
        |false=>
         rw[hs,ο]at Zm;go_wp2_with fail;exact⟨⟨i+1,by omega,by rw[Zm],by go_num,jn⟩,by simp[intOf];omega⟩
       clear hK3;by_cases ho:od i=0
       case pos=>
        have Zn:(od i==0)=true:=by simp[ho]
        rw[Zn,φ]at sn;rw[ho]at x2;go_big_quiet (fail);have jn:=jr.drew nq;exact Ht sn jn
       case neg=>
        have aia:(od i==0)=false:=by simp[ho]
        rw[aia,ο]at sn;by_cases f4:fq=4
        case neg=>
         have g4q:(fq==4)=false:=by simp[f4]
         have y9:yr=false:=FC.out.trans (decide_eq_false fun q9=>f4 q9.1);clear FC;subst y9;have hx:Hid (∀Dq os,ρ prog 294 #[.agg #[V Z Y, V Z M, V Z D, V Z n, V Z q], V Z (od i), .bool _] (grow (redrawn X Dq) os) fun e aA=>e= δ (.bool (oo i))∧∃p:ω,aA=grow (redrawn X p.d) p.os):=ad fun Dq os=>Calls.regrown_of (CO.out i ay he ho _ (jr.2.2.2.trans ((below_regrown X Dq os).mono jr.2.2.2.size)));have Ug:Hid (∀w':μ,(∃p:ω,w'=grow (redrawn X p.d) p.os)→(Instr.loadAt 236 (ε (some ⟨w.heap.size+1,0,none⟩))).run prog w'= .ok (.agg ([V Z Y, V Z M, V Z D, V Z n, V Z q]:List Value).toArray) w'):=ad fun w' hc=>by
          obtain⟨p,rfl⟩:=hc;exact jQ (jr.2.1.on (below_regrown X p.d p.os)) rfl
         generalize od i=oi at *
         generalize oo i=ooi at *
         have Zn:(oi==0)=false:=by simp[ho]
         have y0:=cell_regrown g0;have y4:=cell_regrown g4;have y8:=cell_regrown g8;have yx:=cell_regrown x2;clear g0 g1 g2 g3 g4 g5 g6 g7 g8 g9 g10 g11 g12 g13 g14 g15 g16 g17 g18 d0 d1 d2 d3 d4 e0 e1 e2 e3 e4 x1 x2;refine wp_region_quiet_below (by kernel_rfl) (by kernel_rfl) ?_
         repeat(go_big_quiet_step (fail))
         refine gM rfl rfl rfl Ug.out rfl ?_;simp only[Act.put,ν,τ,υ]
         repeat(go_big_quiet_step (fail))
         go_big_quiet_step (exact hx.out _ _)
         repeat(go_big_quiet_step (fail))
         refine wpQuiet_nil ?_;intro _ fF;obtain⟨⟨dq,gj⟩,eU⟩:=fF;subst eU;have jn:=jr.on (below_regrown X dq gj);exact Ht sn jn
        case pos=>
         subst f4;by_cases mN:l1=0
         case pos=>
          subst mN;have y9:yr=true:=FC.out.trans (by simp);have XJ:(((0:Nat):Int)==0)=true:=rfl;clear FC;subst y9;have hx:Hid (∀Dq os,ρ prog 294 #[.agg #[V Z Y, V Z M, V Z D, V Z n, V Z q], V Z (od i), .bool _] (grow (redrawn X Dq) os) fun e aA=>e= δ (.bool (oo i))∧∃p:ω,aA=grow (redrawn X p.d) p.os):=ad fun Dq os=>Calls.regrown_of (CO.out i ay he ho _ (jr.2.2.2.trans ((below_regrown X Dq os).mono jr.2.2.2.size)));have Ug:Hid (∀w':μ,(∃p:ω,w'=grow (redrawn X p.d) p.os)→(Instr.loadAt 236 (ε (some ⟨w.heap.size+1,0,none⟩))).run prog w'= .ok (.agg ([V Z Y, V Z M, V Z D, V Z n, V Z q]:List Value).toArray) w'):=ad fun w' hc=>by
           obtain⟨p,rfl⟩:=hc;exact jQ (jr.2.1.on (below_regrown X p.d p.os)) rfl
          generalize od i=oi at *
          generalize oo i=ooi at *
          have Zn:(oi==0)=false:=by simp[ho]
          have y0:=cell_regrown g0;have y4:=cell_regrown g4;have y8:=cell_regrown g8;have yx:=cell_regrown x2;clear g0 g1 g2 g3 g4 g5 g6 g7 g8 g9 g10 g11 g12 g13 g14 g15 g16 g17 g18 d0 d1 d2 d3 d4 e0 e1 e2 e3 e4 x1 x2;refine wp_region_quiet_below (by kernel_rfl) (by kernel_rfl) ?_
          repeat(go_big_quiet_step (fail))
          refine gM rfl rfl rfl Ug.out rfl ?_;simp only[Act.put,ν,τ,υ]
          repeat(go_big_quiet_step (fail))
          go_big_quiet_step (exact hx.out _ _)
          repeat(go_big_quiet_step (fail))
          refine wpQuiet_nil ?_;intro _ fF;obtain⟨⟨dq,gj⟩,eU⟩:=fF;subst eU;have jn:=jr.on (below_regrown X dq gj);exact Ht sn jn
         case neg=>
          have y9:yr=false:=FC.out.trans (decide_eq_false fun q9=>mN q9.2);have alM:0<l1:=by omega
          have alN:((l1:Int)==0)=false:=by simp;omega
          have alO:(l1==0)=false:=by simp;omega
          clear FC;subst y9;have hx:Hid (∀Dq os,ρ prog 294 #[.agg #[V Z Y, V Z M, V Z D, V Z n, V Z q], V Z (od i), .bool _] (grow (redrawn X Dq) os) fun e aA=>e= δ (.bool (oo i))∧∃p:ω,aA=grow (redrawn X p.d) p.os):=ad fun Dq os=>Calls.regrown_of (CO.out i ay he ho _ (jr.2.2.2.trans ((below_regrown X Dq os).mono jr.2.2.2.size)));have Ug:Hid (∀w':μ,(∃p:ω,w'=grow (redrawn X p.d) p.os)→(Instr.loadAt 236 (ε (some ⟨w.heap.size+1,0,none⟩))).run prog w'= .ok (.agg ([V Z Y, V Z M, V Z D, V Z n, V Z q]:List Value).toArray) w'):=ad fun w' hc=>by
           obtain⟨p,rfl⟩:=hc;exact jQ (jr.2.1.on (below_regrown X p.d p.os)) rfl
          generalize od i=oi at *
          generalize oo i=ooi at *
          have Zn:(oi==0)=false:=by simp[ho]
          have y0:=cell_regrown g0;have y4:=cell_regrown g4;have y8:=cell_regrown g8;have yx:=cell_regrown x2;clear g0 g1 g2 g3 g4 g5 g6 g7 g8 g9 g10 g11 g12 g13 g14 g15 g16 g17 g18 d0 d1 d2 d3 d4 e0 e1 e2 e3 e4 x1 x2;refine wp_region_quiet_below (by kernel_rfl) (by kernel_rfl) ?_
          repeat(go_big_quiet_step (fail))
          refine gM rfl rfl rfl Ug.out rfl ?_;simp only[Act.put,ν,τ,υ]
          repeat(go_big_quiet_step (fail))
          go_big_quiet_step (exact hx.out _ _)
          repeat(go_big_quiet_step (fail))
          refine wpQuiet_nil ?_;intro _ fF;obtain⟨⟨dq,gj⟩,eU⟩:=fF;subst eU;have jn:=jr.on (below_regrown X dq gj);exact Ht sn jn
  clear aP hT HW CO Jr hS FC;by_cases p2:l2=0
  case pos=>
   subst p2;go_wp2_with fail;exact r9 (ad rfl) _ _ ⟨rfl,rfl,rfl,rfl,rfl⟩ j
  case neg=>
   have p2':0<l2:=by omega
   go_wp2_with fail;refine(CA.out _ j.2.2.2).mono ?_;rintro e w1 ⟨rfl,rfl⟩;go_upto_region 6 with fail;go_big_quiet (first|exact fK (CD.out _)|exact fK (CB.out _ (below_drewN j.2.2.2 _)));replace j:=j.drew nq;clear g0 g1 g2 g3 g4 g5 g6 g7 g8 g9 g10 g11 g12 g13 g14 g15 g16 g17 g18 d0 d1 d2 d3 d4 e0 e1 e2 e3 e4;generalize wr.drewN nq=wr at *
   obtain⟨g0,g1,g2,g3,g4,g5,g6,g7,g8,g9,g10,g11,g12,g13,g14,g15,g16,g17,g18⟩:=Fv j.1;obtain⟨d0,d1,d2,d3,d4⟩:=c5 j.2.1;obtain⟨e0,e1,e2,e3,e4⟩:=c5 j.2.2.1;cases bA with
   |true=>
    go_wp2_with fail;exact r9 (ad (by rw[κ,φ])) _ _ ⟨rfl,rfl,rfl,rfl,rfl⟩ j
   |false=>
    cases bB with
    |true=>
     go_wp2_with fail;exact r9 (ad (by rw[κ])) _ _ ⟨rfl,rfl,rfl,rfl,rfl⟩ j
    |false=>
     have e9:R=false:=by rw[hR.out,decide_eq_false p2,ο,ο,Bool.and_false,π,π]
     clear hR;subst e9;go_wp2_with fail;go_ret;exact⟨rfl,j.2.2.2⟩
 clear aP hT HW CO Jr hS FC CA CB CD;by_cases p1:l1=0
 case pos=>
  subst p1;go_wp2_with fail;exact r4 (ad rfl) _ _ ⟨rfl,rfl,rfl,rfl,rfl⟩ j
 case neg=>
  have p1':0<l1:=by omega
  cases bM with
  |true=>
   go_wp2_with fail;exact r4 (ad (by rw[κ])) _ _ ⟨rfl,rfl,rfl,rfl,rfl⟩ j
  |false=>
   have e9:R=false:=by rw[hR.out,decide_eq_false p1];rfl
   clear hR;subst e9;go_wp2_with fail;go_ret;exact⟨rfl,j.2.2.2⟩
theorem Uh (r:au)(s:Int):aH r s s=0:=by
 have:=pG s r.ws;unfold aH;by_cases h0:r.fq=0
 ·rw[if_pos h0];omega
 rw[if_neg h0];by_cases h1:r.fq=1
 ·rw[if_pos h1];omega
 rw[if_neg h1];by_cases h2:r.fq=2
 ·rw[if_pos h2];omega
 rw[if_neg h2];omega
theorem D7 (r:au)(s k:Int):aE r s (k+1)≤aE r s k+366:=by
 rw[←mr];unfold aE gq;by_cases h0:r.fq=0
 ·rw[if_pos h0,if_pos h0];omega
 rw[if_neg h0,if_neg h0];by_cases h1:r.fq=1
 ·rw[if_pos h1,if_pos h1];omega
 rw[if_neg h1,if_neg h1];by_cases h2:r.fq=2
 ·rw[if_pos h2,if_pos h2];have:=qv (ae.ag s) (ae.ofM s+k);omega
 rw[if_neg h2,if_neg h2];have:=ae.iN (ae.ag s+k);have:=ae.xV (ae.ag s+k);omega
theorem Ps (r:au)(hf:0≤r.fq∧r.fq≤3){s:Int}(hs:0≤s):aE r s 0≤s∧s - 366≤aE r s 0:=by
 have h:=rG r hf (s:=s) (d:=s) (by omega);rw[Uh r]at h;have:=D7 r s 0;omega
theorem aaA (r:au)(hf:0≤r.fq∧r.fq≤3):160000≤((dW r).toNat:Int) * iu r:=by
 have:r.fq=0∨r.fq=1∨r.fq=2∨r.fq=3:=by omega
 unfold dW iu;rcases this with h|h|h|h<;>rw[h]<;>decide
theorem Wp (r:au)(hf:0≤r.fq∧r.fq≤3)(s:Int):0≤(aJ r s).fq∧(aJ r s).fq≤3:=by rw[(yU r s).1];exact hf
theorem yV (r:au)(hf:0≤r.fq∧r.fq≤3)(st last:Int)(N:Nat)(s0:0≤st)(hi:1≤r.iv)(hc:0≤r.ct)(hl:last<7300000000)(YW:last<(st/86400+N) * 86400)(Mo:0<N→(st/86400+N - 1) * 86400≤last):
 oQ r st 0 last=Jk r.ct ((aV (st/86400) N).filter (nA (aJ r (st/86400)) (st/86400))):=by
 have hb:=Ps (aJ r (st/86400)) (Wp r hf _) (s:=st/86400) (by omega);have hk:=aaA r hf;exact Wd r st last N s0 hi hc hb.1 (by omega) (by omega) YW Mo
theorem ME (s last:Int)(k:Nat)(hk:∀j:Nat,j<k→(s+j) * 86400≤last):∃m:Nat,last<(s+((k+m:Nat):Int)) * 86400∧(0<k+m→(s+((k+m:Nat):Int) - 1) * 86400≤last):=by
 by_cases h:(s+k) * 86400≤last
 ·exact⟨(last/86400 - s - k+1).toNat,by omega,fun _=>by omega⟩
 ·refine⟨0,by omega,fun h0=>?_⟩;have:=hk (k - 1) (by omega);omega
theorem Wq (r:au)(hf:0≤r.fq∧r.fq≤3)(st last:Int)(k:Nat)(s0:0≤st)(hi:1≤r.iv)(hc:0≤r.ct)(hl:last<7300000000)(hk:∀j:Nat,j<k→(st/86400+j) * 86400≤last)
 (L:List Int)(hL:L=(aV (st/86400) k).filter (nA (aJ r (st/86400)) (st/86400)))(h1:r.ct=0∨(L.length:Int)≤r.ct)(h2:last<(st/86400+k) * 86400):oQ r st 0 last=L:=by
 rw[yV r hf st last k s0 hi hc hl h2 (fun h0=>by have:=hk (k - 1) (by omega);omega),←hL];unfold Jk;split
 ·rfl
 ·rw[Α (by omega)]
theorem Ui (r:au)(hf:0≤r.fq∧r.fq≤3)(st last:Int)(k:Nat)(s0:0≤st)(hi:1≤r.iv)(hc:0≤r.ct)(hl:last<7300000000)(hk:∀j:Nat,j<k→(st/86400+j) * 86400≤last)
 (L:List Int)(hL:L=(aV (st/86400) k).filter (nA (aJ r (st/86400)) (st/86400)))(h1:0<r.ct)(h2:(L.length:Int)=r.ct):oQ r st 0 last=L:=by
 obtain⟨m,m0,m1⟩:=ME (st/86400) last k hk;rw[yV r hf st last (k+m) s0 hi hc hl m0 m1,mq,Γ,←hL];unfold Jk;rw[if_neg (by omega),List.take_append_of_le_length (by omega),Α (by omega)]
theorem Wr (r:au)(hf:0≤r.fq∧r.fq≤3)(st last:Int)(k:Nat)(s0:0≤st)(hi:1≤r.iv)(hc:0≤r.ct)(hl:last<7300000000)(hk:∀j:Nat,j<k→(st/86400+j) * 86400≤last)
 (L:List Int)(hL:L=(aV (st/86400) k).filter (nA (aJ r (st/86400)) (st/86400)))(h1:r.ct=0∨(L.length:Int)<r.ct):L.length≤(oQ r st 0 last).length:=by
 obtain⟨m,m0,m1⟩:=ME (st/86400) last k hk;rw[yV r hf st last (k+m) s0 hi hc hl m0 m1,mq,Γ,←hL];unfold Jk;split
 ·rw[Β];omega
 ·rw[List.length_take,Β];omega
theorem Pt (r:au)(hf:0≤r.fq∧r.fq≤3)(st last:Int)(s0:0≤st)(hi:1≤r.iv)(hc:0≤r.ct)(hl:last<7300000000):dZ (oQ r st 0 last):=by
 obtain⟨m,m0,m1⟩:=ME (st/86400) last 0 (fun j hj=>by omega);rw[yV r hf st last (0+m) s0 hi hc hl m0 m1];exact aaz (ξ _ (pZ _ _)) _
theorem Dg {l m:List Int}(h1:dZ l)(h2:dZ m)(h:∀x∈l,x∈m):l.length≤m.length:=by
 have e:l=m.filter fun x=>l.contains x:=EK h1 (ξ _ h2) fun x=>by
  rw[List.mem_filter,List.contains_iff_mem];exact⟨fun q=>⟨h x q,q⟩,fun q=>q.2⟩
 rw[e];exact List.length_filter_le _ _
theorem Jt (a:Int):∀{m:List Int},dZ m→m.length≤(m.filter fun t=>t !=a).length+1
 |[],_=>by simp
 |x::m,h=>by
  obtain⟨hx,hm⟩:=List.pairwise_cons.1 h;by_cases e:x=a
  ·have e2:m.filter (fun t=>t !=a)=m:=List.filter_eq_self.2 fun y hy=>by
    have:=hx y hy;rw[bne_iff_ne];omega
   rw[List.filter_cons_of_neg (by simp[e]),e2];simp
  ·rw[List.filter_cons_of_pos (by simp[e])];have:=Jt a hm;simp only[Ε];omega
theorem wN:∀(ex:List Int) {l:List Int},dZ l→l.length≤(l.filter fun t=>!ex.contains t).length+ex.length
 |[],l,_=>by rw[List.filter_eq_self.2 (fun _ _=>rfl:∀t∈l,(![].contains t)=true)];simp
 |a::ex,l,h=>by
  have h1:=wN ex h;have h2:=Jt a (ξ (fun t=>!ex.contains t) h);have e:l.filter (fun t=>!(a::ex).contains t)=(l.filter fun t=>!ex.contains t).filter fun t=>t !=a:=by
   rw[List.filter_filter];apply Δ;intro t _;rw[List.contains_cons,Bool.not_or];rfl
  rw[e,Ε];omega
theorem QZ (d:iT)(to:Int)(cM:0≤d.st)(hx:dZ d.xt)(hL:dZ (lL (eH d) (fE d) d.st 0 to))(qj:d.ex.length≤20)(h:3021≤(lL (eH d) (fE d) d.st 0 to).length):¬(cL d to).length≤3000:=by
 rw[Mw d _ to cM hx hL rfl];have h1:=Mv hL d.st d.ex;obtain⟨i1,i2⟩:=vi (d.xt.filter fun t=>!d.ex.contains t&&decide (t<to)&&decide (d.st≤t)) _ h1;have h2:=Dg h1 i1 fun x hx=>(i2 x).2 (.inl hx);have h3:dZ ((lL (eH d) (fE d) d.st 0 to).map fun k=>k * 86400+d.st%86400):=List.pairwise_map.2 (hL.imp (fun q=>by omega));have h4:=wN d.ex h3;rw[ι]at h4;change _≤(qy d.st d.ex (lL (eH d) (fE d) d.st 0 to)).length+_ at h4;omega
structure Bi (w:μ)(r:au)(un:Int)(R:List Value):Prop where
 len:R.length=19
 c0:R[0]?=some (V Z (r.fq+1))
 c1:R[1]?=some (V Z r.iv)
 c2:R[2]?=some (V Z r.ct)
 c3:R[3]?=some (V Z un)
 m:∃v,R[4]?=some v∧cF w v r.ms
 md:∃v,R[5]?=some v∧cF w v r.mds
 sp:∃v,R[6]?=some v∧cF w v r.pls
 wk:∃v,R[7]?=some v∧cF w v (r.wks.map (·.2))
 od:∃v,R[8]?=some v∧cF w v (r.wks.map (·.1))
 c9:R[9]?=some (V Z r.ws)
 tx:∀k,k<9→∃b,R[10+k]?=some (η b)
theorem Bi.on {w w':μ}{r:au}{un:Int}{R:List Value}(h:Bi w r un R)(hb:Below w.heap.size w w'):Bi w' r un R:=
 ⟨h.len,h.c0,h.c1,h.c2,h.c3,h.m.imp fun _ q=>⟨q.1,q.2.on hb⟩,h.md.imp fun _ q=>⟨q.1,q.2.on hb⟩,h.sp.imp fun _ q=>⟨q.1,q.2.on hb⟩,h.wk.imp fun _ q=>⟨q.1,q.2.on hb⟩,h.od.imp fun _ q=>⟨q.1,q.2.on hb⟩,h.c9,h.tx⟩
theorem ae5 {R:List Value}(h:R.length=19):∃x0 x1 x2 x3 x4 x5 x6 x7 x8 x9 Hk Hl Hm pd Hn Ho Hp Hq Mj,R=[x0,x1,x2,x3,x4,x5,x6,x7,x8,x9,Hk,Hl,Hm,pd,Hn,Ho,Hp,Hq,Mj]:=by
 match R,h with
 |[x0,x1,x2,x3,x4,x5,x6,x7,x8,x9,Hk,Hl,Hm,pd,Hn,Ho,Hp,Hq,Mj],_=>exact⟨x0,x1,x2,x3,x4,x5,x6,x7,x8,x9,Hk,Hl,Hm,pd,Hn,Ho,Hp,Hq,Mj,rfl⟩
theorem Bi.lit {w:μ}{r:au}{un:Int}{R:List Value}(h:Bi w r un R):∃(a1 a2 a3 a4 a5:Option Addr) (k1 k2 k3 k4 k5:Nat) (t0 t1 t2 t3 t4 t5 t6 t7 t8:ByteArray),
 R=[V Z (r.fq+1), V Z r.iv, V Z r.ct, V Z un, ζ a1 r.ms.length k1, ζ a2 r.mds.length k2, ζ a3 r.pls.length k3, ζ a4 r.wks.length k4, ζ a5 r.wks.length k5, V Z r.ws, η t0, η t1, η t2, η t3, η t4, η t5, η t6, η t7, η t8]∧
 cF w (ζ a1 r.ms.length k1) r.ms∧cF w (ζ a2 r.mds.length k2) r.mds∧cF w (ζ a3 r.pls.length k3) r.pls∧cF w (ζ a4 r.wks.length k4) (r.wks.map (·.2))∧cF w (ζ a5 r.wks.length k5) (r.wks.map (·.1)):=by
 obtain⟨x0,x1,x2,x3,x4,x5,x6,x7,x8,x9,Hk,Hl,Hm,pd,Hn,Ho,Hp,Hq,Mj,rfl⟩:=ae5 h.len;have c0:=θ h.c0;have c1:=θ h.c1;have c2:=θ h.c2;have c3:=θ h.c3;have c9:=θ h.c9;obtain⟨v4,e4,i4⟩:=h.m;obtain⟨v5,e5,i5⟩:=h.md;obtain⟨v6,e6,i6⟩:=h.sp;obtain⟨v7,e7,i7⟩:=h.wk;obtain⟨v8,e8,i8⟩:=h.od;obtain⟨t0,g0⟩:=h.tx 0 (by omega);obtain⟨t1,g1⟩:=h.tx 1 (by omega);obtain⟨t2,g2⟩:=h.tx 2 (by omega);obtain⟨t3,g3⟩:=h.tx 3 (by omega);obtain⟨t4,g4⟩:=h.tx 4 (by omega);obtain⟨t5,g5⟩:=h.tx 5 (by omega);obtain⟨t6,g6⟩:=h.tx 6 (by omega);obtain⟨t7,g7⟩:=h.tx 7 (by omega);obtain⟨t8,g8⟩:=h.tx 8 (by omega);obtain⟨a1,k1,f4,_⟩:=dA i4;obtain⟨a2,k2,f5,_⟩:=dA i5;obtain⟨a3,k3,f6,_⟩:=dA i6;obtain⟨a4,k4,f7,_⟩:=dA i7;obtain⟨a5,k5,f8,_⟩:=dA i8;rw[ι]at f7 f8;subst f4 f5 f6 f7 f8;have e4':=θ e4;have e5':=θ e5;have e6':=θ e6;have e7':=θ e7;have e8':=θ e8;have g0':=θ g0;have g1':=θ g1;have XB:=θ g2;have g3':=θ g3;have FB:=θ g4;have MC:=θ g5;have g6':=θ g6;have g7':=θ g7;have g8':=θ g8;subst c0 c1 c2 c3 c9 e4' e5' e6' e7' e8' g0' g1' XB g3' FB MC g6' g7' g8';exact⟨a1,a2,a3,a4,a5,k1,k2,k3,k4,k5,t0,t1,t2,t3,t4,t5,t6,t7,t8,rfl,i4,i5,i6,i7,i8⟩
theorem Ws {α:Type}(p:α→Bool)(l:List α)(d:α)(i:Nat)(h:i<l.length):(l.take (i+1)).any p=((l.take i).any p||p (l.getD i d)):=by
 rw[List.take_succ_eq_append_getElem h,List.any_append];simp[Θ,h]
theorem getD_map {α β:Type}(f:α→β)(l:List α)(d:α)(e:β)(i:Nat)(h:i<l.length):(l.map f).getD i e=f (l.getD i d):=by simp[Θ,h]
theorem wh {w:μ}{a:Option Addr}{n c:Nat}{zs:List Int}(h:cF w (ζ a n c) zs){j:Nat}(hj:j<zs.length):∃g off,a=some ⟨g,off,none⟩∧w.cell? ⟨g,off+j,none⟩=some (V Z (zs.getD j 0)):=by
 obtain⟨a',c',e,hf⟩:=dA h;injection e with e1 e2 e3
 subst e1;exact hf j hj
theorem MF (r:au)(un:Int)(R:List Value)(n s:Int)(w:μ)(hr:Bi w r un R)(ho:cX r)(n0:-6≤n)(n1:n<84100)(hz:0≤n∨∀p∈r.wks,p.1=0):
 ρ prog 242 #[.agg R.toArray, .agg (dC n).toArray, .agg (dC s).toArray] w fun e w'=>e= δ (.bool (Mq (r.fq+1) r.ms r.mds r.wks n s))∧Below w.heap.size w w':=by
 obtain⟨a1,a2,a3,a4,a5,k1,k2,k3,k4,k5,t0,t1,t2,t3,t4,t5,t6,t7,t8,rfl,i1,i2,_,i4,i5⟩:=hr.lit;have hb:=gL n (by omega) (by omega);obtain⟨_,_,v3,v4⟩:=ae.eT n (by omega);have vm:=ae.fS (ae.ag n) (ae.ofM n);refine aef (r.fq+1) r.iv r.ct un r.ws a1 a2 a3 a4 a5 r.ms.length r.mds.length r.pls.length r.wks.length k1 k2 k3 k4 k5 t0 t1 t2 t3 t4 t5 t6 t7 t8 (ae.ag n) (ae.ofM n) (ae.ar n) n ((n+3)%7) (ae.ag s) (ae.ofM s) (ae.ar s) s ((s+3)%7) (ae.md (ae.ag n) (ae.ofM n))
  (r.ms.contains (ae.ofM n)) (r.mds.contains (ae.ar n)) (r.mds.contains (ae.ar n - ae.md (ae.ag n) (ae.ofM n) - 1)) (fun i=>(r.wks.getD i (0,0)).2) (fun i=>(r.wks.getD i (0,0)).1) (fun i=>Mm n (r.wks.getD i (0,0)).1 (decide (r.fq+1=4∧r.ms.length=0)))
  (fun i=>(r.wks.take i).any fun p=>p.2==(n+3)%7&&(p.1==0||Mm n p.1 (decide (r.fq+1=4∧r.ms.length=0)))) (decide (r.fq+1=4∧r.ms.length=0)) _ _ w
  (ad fun W hW=>xL _ _ _ W (i1.on hW)) (ad fun W hW=>xL _ _ _ W (i2.on hW)) (ad fun W=>ij _ _ W (by omega) (by omega)) (ad fun W hW=>xL _ _ _ W (i2.on hW)) (ad fun h3=>?_) (ad fun i hi _ di X _=>?_) (ad rfl) (ad fun i hi=>?_) (ad rfl) (by have:=ho.wks;omega) (by omega) (by omega) (ad rfl) (ad ?_)
 ·obtain⟨g4,o4,q4,_⟩:=wh i4 (j:=0) (by rw[ι];exact h3);obtain⟨g5,o5,q5,_⟩:=wh i5 (j:=0) (by rw[ι];exact h3);refine⟨g4,o4,g5,o5,q4,q5,fun X hX i hi=>⟨?_,?_⟩⟩
  ·obtain⟨g,o,q,hc⟩:=wh (i4.on hX) (j:=i) (by rw[ι];exact hi);rw[q4]at q;cases q;rw[hc,getD_map _ _ (0,0) _ _ hi]
  ·obtain⟨g,o,q,hc⟩:=wh (i5.on hX) (j:=i) (by rw[ι];exact hi);rw[q5]at q;cases q;rw[hc,getD_map _ _ (0,0) _ _ hi]
 ·rcases hz with hz|hz
  ·have hm:r.wks.getD i (0,0)∈r.wks:=by rw[χ,ψ hi];exact Ζ hi
   have:=ho.ord _ hm;exact NK n _ _ X hz n1 (by omega) (by omega)
  ·exact absurd (hz _ (by rw[χ,ψ hi];exact Ζ hi)) di
 ·exact Ws _ r.wks (0,0) i hi
 ·unfold Mq YY TU Mp ftS;rw[List.take_length];congr 1;by_cases h2:0<r.mds.length
  ·rw[if_pos (.inl h2),decide_eq_true h2];rfl
  by_cases h3:0<r.wks.length
  ·rw[if_pos (.inr h3),decide_eq_true h3,κ];rfl
  rw[if_neg (by omega),decide_eq_false h2,decide_eq_false h3];rfl
theorem BV (r:au)(un:Int)(R:List Value)(n:Int)(w:μ)(hr:Bi w r un R)(ho:cX r)(n0:0≤n)(n1:n<84100):
 ρ prog 243 #[.agg R.toArray, .agg (dC n).toArray] w fun e w'=>e= δ (V Z (lr (r.fq+1) r.ws n))∧Below w.heap.size w w':=by
 obtain⟨a1,a2,a3,a4,a5,k1,k2,k3,k4,k5,t0,t1,t2,t3,t4,t5,t6,t7,t8,rfl,_⟩:=hr.lit;exact AT (r.fq+1) r.iv r.ct un _ _ _ _ _ r.ws t0 t1 t2 t3 t4 t5 t6 t7 t8 n w n0 n1 ho.Yq ho.Yr
theorem Q0 (r:au)(un:Int)(R:List Value)(s d:Int)(w:μ)(hr:Bi w r un R)(ho:cX r)(s0:0≤s)(sd:s≤d)(d1:d<84100):
 ρ prog 241 #[.agg R.toArray, .agg (dC s).toArray, .agg (dC d).toArray] w fun e w'=>e= δ (V Z (Jg (r.fq+1) r.ws s d))∧Below w.heap.size w w':=by
 obtain⟨a1,a2,a3,a4,a5,k1,k2,k3,k4,k5,t0,t1,t2,t3,t4,t5,t6,t7,t8,rfl,_⟩:=hr.lit;exact Ml (r.fq+1) r.iv r.ct un _ _ _ _ _ r.ws t0 t1 t2 t3 t4 t5 t6 t7 t8 s d w ⟨_,_,_,rfl⟩ ⟨_,_,_,rfl⟩ ⟨_,_,_,rfl⟩ ⟨_,_,_,rfl⟩ ⟨_,_,_,rfl⟩ s0 sd d1 ho.Yq ho.Yr
theorem Wt (r:au)(un:Int)(R:List Value)(v:Value)(l:List Int)(n:Int)(w:μ)(hr:Bi w r un R)(hv:cF w v l):
 ρ prog 245 #[.agg R.toArray,v, V Z n] w fun e w'=>e= δ (.bool (re r.pls l.length 0 l n))∧Below w.heap.size w w':=by
 obtain⟨v6,e6,i6⟩:=hr.sp;obtain⟨a3,k3,rfl,_⟩:=dA i6;exact Wg R a3 _ k3 r.pls v l n w e6 hv (ad fun j W hW=>xL _ _ j W (i6.on hW))
theorem Wu (r:au)(s k:Int)(j:Nat):aE r s k≤aE r s (k+j):=by
 have:=xO r s k j;have:0≤(j:Int) * iu r:=Int.mul_nonneg (by omega) (by unfold iu;split<;>(try split)<;>(try split)<;>omega);omega
theorem aaB (r:au)(hf:0≤r.fq∧r.fq≤3){s d:Int}(s0:0≤s)(sd:s≤d)(d1:d<84006):0≤aH r s d∧aH r s d≤100000:=by
 obtain⟨p1,p2⟩:=rG r hf (s:=s) (d:=d) (by omega);obtain⟨q1,q2⟩:=Ps r hf (s:=s) s0;constructor
 ·by_cases h:0≤aH r s d
  ·exact h
  ·have:=Wu r s (aH r s d+1) (-(aH r s d+1)).toNat;rw[show aH r s d+1+((-(aH r s d+1)).toNat:Int)=0 by omega]at this;omega
 ·by_cases h:aH r s d≤100000
  ·exact h
  ·have:=xO r s 0 (aH r s d).toNat;rw[show(0:Int)+((aH r s d).toNat:Int)=aH r s d by omega]at this;have e:1≤iu r:=by unfold iu;split<;>(try split)<;>(try split)<;>omega
   have:=Int.mul_le_mul_of_nonneg_left e (show(0:Int)≤((aH r s d).toNat:Int) by omega);omega
theorem Wv (r:au){s k k':Int}(h0:-10000≤aE r s k)(h:aE r s k=aE r s k'):k=k':=by
 have e:∀j:Int,-10000≤aE r s j→aH r s (aE r s j)=j:=fun j hj=>xN r hj (Int.le_refl _) (by have:=xM r s j;have:1≤iu r:=(by unfold iu;split<;>(try split)<;>(try split)<;>omega);omega);have a:=e k h0;have b:=e k' (by omega);rw[h]at a;omega
theorem aei {r:au}(h:qh r=true)(hf:r.fq=1):∀p∈r.wks,p.1=0:=by
 intro p hp;by_cases e:p.1=0
 ·exact e
 ·have ho:fU r.wks=true:=by
   unfold fU;rw[List.any_eq_true];exact⟨p,hp,by simp[e]⟩
  unfold qh sy at h;rw[ho,hf]at h;simp at h
theorem wj (r:au)(ho:cX r){s d:Int}(s0:0≤s)(sd:s≤d)(d1:d<84006):
 -6≤aE r s (aH r s d)∧aE r s (aH r s d)≤d∧d<aE r s (aH r s d+1)∧aE r s (aH r s d+1)≤aE r s (aH r s d)+366∧aE r s (aH r s d+1)≤84090∧(aE r s (aH r s d)<0→r.fq=1):=by
 have hf:=ho.Av;have IL:=ho.Cr;obtain⟨p1,p2⟩:=rG r ⟨hf,IL⟩ (s:=s) (d:=d) (by omega);have p3:=D7 r s (aH r s d);have hy:=Fu (n:=d) (by omega) (by omega);obtain⟨v1,v2,v3,v4⟩:=ae.eT d (by omega);have vm:=ae.fS (ae.ag d) (ae.ofM d);have ya:=iJ d (by omega);have hj:=ae.N5 ya.1 d1;have e2:=ae.pr;have hb:=BR r ⟨hf,IL⟩ (s:=s) (d:=d) (by omega);have aX:=mr r s (aH r s d);refine⟨?_,p1,p2,p3,?_,?_⟩
 ·rw[←hb];unfold lr;split
  ·omega
  ·split
   ·have:=ae.uB (ae.ag d) (ae.ofM d) hy.1 hy.2 v1 v2;have e:=ae.gP d (by omega);have:=ae.fg (ae.ag d) (ae.ofM d) (ae.ar d);omega
   ·split
    ·have:=ae.pt (ae.ag d) hy.1 hy.2;omega
    ·omega
 ·by_cases h3:r.fq=3
  ·rw[←aX];unfold gq aH;rw[if_neg (by omega),if_neg (by omega),if_neg (by omega),if_neg (by omega),if_neg (by omega),if_neg (by omega),show ae.ag s+(ae.ag d - ae.ag s)+1=ae.ag d+1 by omega];have:=ae.fp (ae.ag d+1) (2200 - (ae.ag d+1)).toNat;rw[show ae.ag d+1+((2200 - (ae.ag d+1)).toNat:Int)=2200 by omega]at this;omega
  ·have:aE r s (aH r s d+1)≤aE r s (aH r s d)+31:=by
    rw[←aX];unfold aE gq;by_cases h0:r.fq=0
    ·rw[if_pos h0,if_pos h0];omega
    rw[if_neg h0,if_neg h0];by_cases h1:r.fq=1
    ·rw[if_pos h1,if_pos h1];omega
    rw[if_neg h1,if_neg h1,if_pos (by omega),if_pos (by omega)];have:=qv (ae.ag s) (ae.ofM s+aH r s d);omega
   omega
 ·intro hn;rw[←hb]at hn;unfold lr at hn;by_cases h1:r.fq=1
  ·exact h1
  rw[if_neg (by omega)]at hn;split at hn
  ·have:=ae.uB (ae.ag d) (ae.ofM d) hy.1 hy.2 v1 v2;have e:=ae.gP d (by omega);have:=ae.fg (ae.ag d) (ae.ofM d) (ae.ar d);omega
  ·split at hn
   ·have:=ae.pt (ae.ag d) hy.1 hy.2;omega
   ·omega
theorem aej (r:au)(ho:cX r){s d:Int}(s0:0≤s)(sd:s≤d)(d1:d<84006):
 qD r s d=(aV (aE r s (aH r s d)) (aE r s (aH r s d+1) - aE r s (aH r s d)).toNat).filter fun i=>Mq (r.fq+1) r.ms r.mds r.wks i s:=by
 obtain⟨a,b,c,e,f,g⟩:=wj r ho s0 sd d1;unfold qD im ed;rw[mr];apply Δ;intro i hi;have:=jb.1 hi;exact Pn r ⟨ho.Av,ho.Cr⟩ (by omega) (by by_cases q:0≤i;exact .inl q;exact .inr (g (by omega))) s0
theorem Ww (r:au)(un:Int)(R:List Value)(s d:Int)(w:μ)(hr:Bi w r un R)(ho:cX r)(ha:qh r=true)(s0:0≤s)(sd:s≤d)(d1:d<84006):
 ρ prog 244 #[.agg R.toArray, .agg (dC d).toArray, .agg (dC s).toArray] w fun e w'=>∃v,e= δ v∧w'.ownsRow w.heap.size 3 1 v (qD r s d).length ((qD r s d).map (Value.int Z))∧Below w.heap.size w w':=by
 obtain⟨a,b,c,e,f,g⟩:=wj r ho s0 sd d1;have hf:0≤r.fq∧r.fq≤3:=⟨ho.Av,ho.Cr⟩;have Jm:∀i,0≤i→aE r s (aH r s d)≤i→i<aE r s (aH r s d+1)→lr (r.fq+1) r.ws i=aE r s (aH r s d):=fun i i0 i1 i2=>by
  rw[BR r hf (s:=s) i0,xN r (by omega) i1 i2]
 have hbh:lr (r.fq+1) r.ws (aE r s (aH r s d+1))=aE r s (aH r s d+1):=by
  rw[BR r hf (s:=s) (by omega),xN r (by omega) (Int.le_refl _) (by have:=xM r s (aH r s d+1);have:1≤iu r:=(by unfold iu;split<;>(try split)<;>(try split)<;>omega);omega)]
 rw[aej r ho s0 sd d1];refine Wh R d s _ _ (aE r s (aH r s d+1)) _ w hr.len a (by omega) (by omega) e f (by omega) (by omega) (ad fun W hW=>?_) (ad fun i i0 i1 i2 W hW=>?_) (ad fun W hW=>?_) (ad fun i i1 i2 W hW=>?_)
 ·have:=BV r un R d W (hr.on hW) ho (by omega) (by omega);rwa [Jm d (by omega) b c]at this
 ·have:=BV r un R i W (hr.on hW) ho i0 (by omega);rwa [Jm i i0 i1 i2]at this
 ·have:=BV r un R (aE r s (aH r s d+1)) W (hr.on hW) ho (by omega) (by omega);rwa [hbh]at this
 ·exact MF r un R i s W (hr.on hW) ho (by omega) (by omega) (by by_cases q:0≤i;exact .inl q;exact .inr (aei ha (g (by omega))))
end Go.Proofs.YthpndgcaoeokeaaGreatDoor
