import Derived.Test.YthpndgcaoeokeaaGreatDoorCo20
set_option maxRecDepth 100000
set_option maxHeartbeats 8000000
open Go.IntKind renaming i64→Z
open Go.Value renaming int→V,pointer→ε,slice→ζ,string→η,string→κ,int→Η
open Go.Ending renaming returned→δ
open Go.Obj renaming cells→θ
open Go.RowKit.Below renaming refl→ι
open List renaming size_toArray→μ,append_nil→π,length_append→χ,getElem?_append_right→Α,mem_singleton→Β,take_length→Γ,length_cons→Δ,mem_append→Ζ
open Nat renaming le_refl→ν,lt_of_lt_of_le→ψ
open ByteArray renaming ext→ξ
open Go.Lib renaming join→ο,bytes_beq_false_iff→ρ,decDigits→υ,decDigits_one→Ε
open Go renaming World→τ,Calls→φ
open Bool renaming and_eq_true→ω
namespace Go.Proofs.YthpndgcaoeokeaaGreatDoor
open Tryz
open Go.RowKit
theorem IC:∀(m u:Nat),u≤m→u<10000000→pad (qq u) u=υ u
 |m,u,hm,h=>by
  by_cases h1:u<10
  ·rw[OT _ (by omega),Ε h1];simp only[pad,List.nil_append];congr 2;omega
  ·cases m with
   |zero=>omega
   |succ m=>
    have ih:=IC m (u/10) (by omega) (by omega);rw[Lp _ (by omega) (by omega),mg h1,←ih];show pad (qq ((u:Int)/10)) ((u:Int)/10)++[UInt8.ofNat (48+(u:Int)%10).toNat]=_;have e:(u:Int)/10=((u/10:Nat):Int):=by omega
    have e2:(48+(u:Int)%10).toNat=48+u%10:=by omega
    rw[e,e2]
theorem xw {u:ByteArray}{st ln:Int}{rc:List Value}{ex xt:Value}{op:Bool}{k:Int}(h:rc.length=19):
 (∀j,j<19→(fe u st ln rc ex xt op k)[3+j]?=rc[j]?)∧(fe u st ln rc ex xt op k)[22]?=some ex∧(fe u st ln rc ex xt op k)[23]?=some xt∧(fe u st ln rc ex xt op k)[24]?=some (.bool op)∧(fe u st ln rc ex xt op k)[25]?=some (V Z k):=by
 unfold fe;refine⟨fun j hj=>?_,?_,?_,?_,?_⟩
 ·rw[List.append_assoc,Α (by simp),show 3+j - [κ u,Η Z st,Η Z ln].length=j by simp,List.getElem?_append_left (by omega)]
 all_goals
  rw[Α (by simp[h])];simp[h]
structure TR (b:Nat)(W:τ)(ls:List (List UInt8))(a:Act)(wr:τ):Prop where
 size:a.tmps.size=107
 defers:a.defers=[]
 s1:a.eval (.tmp 1)= ε (some ⟨b,0,none⟩)
 s5:a.eval (.tmp 5)= η ⟨(de ls).toArray⟩
 below:Below W.heap.size W wr
theorem gZ (ls ms:List (List UInt8)):de (ls++ms)=de ls++de ms:=by unfold de;rw[List.flatMap_append]
theorem Z2 {u:List UInt8}{st ln:Int}:B7 (ba u) ⟨(fC st).toArray⟩ ⟨(υ ln.toNat).toArray⟩=⟨(de (nK u st ln)).toArray⟩:=by
 apply ξ;simp[B7,Hs,Hr,c8,c7,c6,c4,c3,c2,rA,rC,rD,rU,rS,ba,de,nK,oA,F5,F6,F7]
theorem OU {F:Nat→Option (List UInt8)}{B:Nat}(h:∀k,((F k).getD []).length≤B):∀k,∀t∈bO F k,t.length≤B+21
 |0,t,ht=>by simp[bO]at ht
 |k+1,t,ht=>by
  rw[bO,Ζ]at ht;rcases ht with ht|ht
  ·exact OU h k t ht
  ·unfold qK at ht;have h1:=h k;have h2:=mR k;cases hf:F k with
   |none=>rw[hf]at ht;simp at ht
   |some v=>
    rw[hf]at ht h1;simp only[]at ht;split at ht
    ·rw[Β]at ht;subst ht;rw[χ,Δ];simp at h1;omega
    ·simp at ht
theorem ID {F:Nat→Option (List UInt8)}(hb:∀k,((F k).getD []).length≤2000){j:Nat}(hj:j≤9:=by decide):(ο (bO F j) [59]).length≤20000:=by
 have h7:=gW [59] 2021 (bO F j) (OU hb j);have h8:=yu F j;have h9:(bO F j).length * (2021+[(59:UInt8)].length)≤9 * 2022:=Nat.mul_le_mul (by omega) (by simp);omega
theorem Sv {F:Nat→Option (List UInt8)}(hb:∀k,((F k).getD []).length≤2000)(j:Nat):(nR j (F j)).length≤2100:=by
 have h1:=hb j;have h2:=mR j;unfold nR;cases hf:F j with
 |none=>simp
 |some v=>
  rw[hf]at h1;simp at h1;rw[χ,Δ];omega
theorem Aq {F:Nat→Option (List UInt8)}{j:Nat}(h:nR j (F j)=[]∨nR j (F j)=[73,78,84,69,82,86,65,76,61,49]∨nR j (F j)=[87,75,83,84,61,77,79]):bO F (j+1)=bO F j:=by
 rw[bO];unfold qK;cases hf:F j with
 |none=>simp
 |some v=>
  rw[hf]at h;simp only[nR]at h;simp only[];rw[if_neg,π];intro hs;unfold shown at hs;simp only[ω,decide_eq_true_eq]at hs;rcases h with h|h|h
  ·simp at h
  ·exact hs.1 h
  ·exact hs.2 h
theorem VF {F:Nat→Option (List UInt8)}{j:Nat}(h0:nR j (F j)≠[])(h1:nR j (F j)≠[73,78,84,69,82,86,65,76,61,49])(h2:nR j (F j)≠[87,75,83,84,61,77,79]):bO F (j+1)=bO F j++[nR j (F j)]:=by
 rw[bO];unfold qK;cases hf:F j with
 |none=>rw[hf]at h0;exact absurd rfl h0
 |some v=>
  rw[hf]at h1 h2;simp only[nR]at h1 h2⊢;rw[if_pos];unfold shown;simp only[ω,decide_eq_true_eq];exact⟨h1,h2⟩
theorem OV {F:Nat→Option (List UInt8)}:∀j,∀t∈bO F j,t≠[]
 |0,t,h=>by simp[bO]at h
 |j+1,t,h=>by
  rw[bO,Ζ]at h;rcases h with h|h
  ·exact OV j t h
  ·unfold qK at h;cases hf:F j with
   |none=>rw[hf]at h;simp at h
   |some v=>
    rw[hf]at h;simp only[]at h;split at h
    ·rw[Β]at h;subst h;simp
    ·simp at h
theorem VG {F:Nat→Option (List UInt8)}{j:Nat}(h:ο (bO F j) [59]=[]):bO F j=[]:=by
 cases ht:bO F j with
 |nil=>rfl
 |cons t r=>
  rw[ht,Lib.join_cons]at h;have:=OV (F:=F) j t (by rw[ht];simp);exact absurd (List.append_eq_nil_iff.1 h).1 this
theorem sj {w w':τ}{v:Value}{zs:List Int}(h:cF w v zs)(hb:Below w.heap.size w w'):cF w' v zs:=by
 refine⟨h.1,h.2.imp id ?_⟩;rintro⟨g,off,cap,h1,h2,h3⟩;exact⟨g,off,cap,h1,ψ h2 hb.size,fun j hj=>(hb.cell (p:=⟨g,off+j,none⟩) h2).trans (h3 j hj)⟩
theorem VH (u:List UInt8)(st ln:Int)(rc:List Value)(rt:Option (List UInt8))(aG aI:Value)(ex xt:List Int)(op:Bool)(k:Int)(w:τ)(hl:rc.length=19)(h1c:∀x∈rc,x.oneCell'=true)
 (Oj:(rt=none∧rc=bD)∨∃F,rt=some (ο (bO F 9) [59])∧yA rc F∧0<kb F∧∀k,((F k).getD []).length≤2000)
 (hex:cF w aG ex)(lG:cF w aI xt)(hle:ex.length≤20)(Ia:xt.length≤20)(hu:u.length≤2000)(mN:1≤ln)(oB:ln≤2678400)(jx:1≤k)(gm:k≤3):
 φ prog 187 #[.agg (fe (ba u) st ln rc aG aI op k).toArray] w fun E w'=>E= δ (η ⟨(de (wY u st ln rt ex xt op (k - 1))).toArray⟩)∧Below w.heap.size w w':=by
 obtain⟨ax5,cx5,rfl,_⟩:=dA hex;obtain⟨ax6,cx6,rfl,_⟩:=dA lG;obtain⟨x1,fR⟩:=yD st;have CP:=fun W=>sx st W;rw[fR]at CP;have CL:=fun W=>Sw ln W (by omega) (by omega);rw[show pad (qq ln) ln=υ ln.toNat from by have:=IC ln.toNat ln.toNat (ν _) (by omega);rw[show((ln.toNat:Nat):Int)=ln by omega]at this;exact this]at CL;obtain⟨T,hT⟩:∃T:ByteArray,T=⟨(fC st).toArray⟩:=⟨_,rfl⟩;obtain⟨D,hD⟩:∃D:ByteArray,D=⟨(υ ln.toNat).toArray⟩:=⟨_,rfl⟩;obtain⟨U,hU⟩:∃U:ByteArray,U=ba u:=⟨_,rfl⟩;have sU:U.size≤2000:=by rw[hU];show u.toArray.size≤_;rw[μ];exact hu
 have sT:T.size≤16:=by rw[hT];show(fC st).toArray.size≤_;rw[μ];exact sb st
 have sD:D.size≤8:=by rw[hD];show(υ ln.toNat).toArray.size≤_;rw[μ];exact Gb _ (by omega)
 rw[←hT]at CP;rw[←hD]at CL;rw[←hU];obtain⟨cs,sA⟩:∃cs,cs=fe U st ln rc (ζ ax5 ex.length cx5) (ζ ax6 xt.length cx6) op k:=⟨_,rfl⟩;rw[←sA];have acy:Hid (B7 U T D=⟨(de (nK u st ln)).toArray⟩):=ad (by rw[hU,hT,hD];exact Z2);have HCP:=ad CP;have zu:=ad CL;have Fb:=ad sA;have RG:=ad hex;have HXT:=ad lG;have HRC:=ad Oj;clear CP CL hT hD hU sA fR hex lG Oj;go_enter func187,ntmps187;go_upto_region 1 with(refine aW rfl (mD rfl rfl) ?_;intro W ax KG jD);have lB:=ad ax;have c1:W.cell? ⟨w.heap.size,1,none⟩=some (V Z st):=lB.out.cell (by rw[Fb.out];rfl);clear ax;go_upto_region 2 with(go_at_call 109;refine(HCP.out _).mono ?_;rintro e w2 ⟨rfl,az⟩);rename_i K hK;have VI:w.heap.size<w2.heap.size:=by have:=az.size;omega
 have d0:∀w',Below w2.heap.size w2 w'→w'.cell? ⟨w.heap.size,0,none⟩=some (η U):=fun w' h=>((h.cell (p:=⟨w.heap.size,0,none⟩) VI).trans (az.cell (p:=⟨w.heap.size,0,none⟩) (by show w.heap.size<W.heap.size;omega))).trans (lB.out.cell (by rw[Fb.out];rfl));have d2:∀w',Below w2.heap.size w2 w'→w'.cell? ⟨w.heap.size,2,none⟩=some (V Z ln):=fun w' h=>((h.cell (p:=⟨w.heap.size,2,none⟩) VI).trans (az.cell (p:=⟨w.heap.size,2,none⟩) (by show w.heap.size<W.heap.size;omega))).trans (lB.out.cell (by rw[Fb.out];rfl));have S:=acs w.heap.size U T D ln;refine fT (GV IA (NR w.heap.size U T D ln)) (JV 107 [(1, ε (some ⟨w.heap.size,0,none⟩)),(3, η T)] w2) (by kernel_rfl) (by kernel_rfl) (by kernel_rfl) ?_ ?_ ⟨rfl,rfl,fun p hp=>by
  simp only[List.mem_cons,List.not_mem_nil,or_false]at hp;rcases hp with rfl|rfl<;>rfl,(ι _ _).drew⟩
 ·intro i o ho a w' hI hG;have hi:i<16:=(Array.getElem?_eq_some_iff.1 ho).1;have p1:a.eval (.tmp 1)= ε (some ⟨w.heap.size,0,none⟩):=hI.fixed (1,_) (by simp);have p3:a.eval (.tmp 3)= η T:=hI.fixed (3,_) (by simp);have gA:i=0∨i=1∨i=2∨i=3∨i=4∨i=5∨i=6∨i=7∨i=8∨i=9∨i=10∨i=11∨i=12∨i=13∨i=14∨i=15:=by omega
  rcases gA with rfl|rfl|rfl|rfl|rfl|rfl|rfl|rfl|rfl|rfl|rfl|rfl|rfl|rfl|rfl|rfl<;>obtain rfl:=Option.some.inj ho
  ·
   exact aj (v:= ε (some ⟨w.heap.size,0,none⟩)) (rZ rfl p1 (IB _ 0 0 (.inl rfl) _)) (cg S rfl (by decide) hI (ι _ _) rfl)
  ·
   have e0:a.eval (.tmp 15)= ε (some ⟨w.heap.size,0,none⟩):=hG ⟨0, .data⟩ (by simp) rfl;exact aj (v:= η U) (dp rfl e0 (HH (d0 _ hI.below))) (cg S rfl (by decide) hI (ι _ _) rfl)
  ·
   have e1:a.eval (.tmp 16)= η U:=hG ⟨1, .data⟩ (by simp) rfl;exact aj (v:= η (c2 U)) (iL rfl rfl e1 (by show 18+U.size≤_;omega)) (cg S rfl (by decide) hI (ι _ _) rfl)
  ·
   have e2:a.eval (.tmp 17)= η (c2 U):=hG ⟨2, .data⟩ (by simp) rfl;exact aj (v:= η (c3 U)) (iL rfl e2 rfl (by rw[s2];show _+2≤_;omega)) (cg S rfl (by decide) hI (ι _ _) rfl)
  ·
   have e3:a.eval (.tmp 18)= η (c3 U):=hG ⟨3, .data⟩ (by simp) rfl;exact aj (v:= η (c4 U)) (iL rfl e3 rfl (by rw[s3];show _+8≤_;omega)) (cg S rfl (by decide) hI (ι _ _) rfl)
  ·
   exact aj (v:= η T) (Lo rfl p3) (cg S rfl (by decide) hI (ι _ _) rfl)
  ·
   have e4:a.eval (.tmp 19)= η (c4 U):=hG ⟨4, .data⟩ (by simp) rfl;have e5:a.eval (.tmp 20)= η T:=hG ⟨5, .data⟩ (by simp) rfl;exact aj (v:= η (c6 U T)) (iL rfl e4 e5 (by rw[s4];omega)) (cg S rfl (by decide) hI (ι _ _) rfl)
  ·
   have e6:a.eval (.tmp 21)= η (c6 U T):=hG ⟨6, .data⟩ (by simp) rfl;exact aj (v:= η (c7 U T)) (iL rfl e6 rfl (by rw[s6];show _+2≤_;omega)) (cg S rfl (by decide) hI (ι _ _) rfl)
  ·
   have e7:a.eval (.tmp 22)= η (c7 U T):=hG ⟨7, .data⟩ (by simp) rfl;exact aj (v:= η (c8 U T)) (iL rfl e7 rfl (by rw[s7];show _+11≤_;omega)) (cg S rfl (by decide) hI (ι _ _) rfl)
  ·
   exact aj (v:= ε (some ⟨w.heap.size,2,none⟩)) (rZ rfl p1 (IB _ 2 2 (.inr (.inr rfl)) _)) (cg S rfl (by decide) hI (ι _ _) rfl)
  ·
   have e9:a.eval (.tmp 24)= ε (some ⟨w.heap.size,2,none⟩):=hG ⟨9, .data⟩ (by simp) rfl;exact aj (v:= V Z ln) (dp rfl e9 (iH (d2 _ hI.below))) (cg S rfl (by decide) hI (ι _ _) rfl)
  ·
   have e10:a.eval (.tmp 25)= V Z ln:=hG ⟨10, .data⟩ (by simp) rfl;exact yo (f:=239) (args:=#[a.eval (.tmp 25)]) (by kernel_rfl) (by rw[e10];exact zu.out w') (fun aA hb=>cg S rfl (by decide) hI hb rfl)
  ·
   have e8:a.eval (.tmp 23)= η (c8 U T):=hG ⟨8, .data⟩ (by simp) rfl;have e11:a.eval (.tmp 26)= η D:=hG ⟨11, .data⟩ (by simp) rfl;exact aj (v:= η (Hr U T D)) (iL rfl e8 e11 (by rw[s8];omega)) (cg S rfl (by decide) hI (ι _ _) rfl)
  ·
   have e12:a.eval (.tmp 27)= η (Hr U T D):=hG ⟨12, .data⟩ (by simp) rfl;exact aj (v:= η (Hs U T D)) (iL rfl e12 rfl (by rw[s12];show _+1≤_;omega)) (cg S rfl (by decide) hI (ι _ _) rfl)
  ·
   have e13:a.eval (.tmp 28)= η (Hs U T D):=hG ⟨13, .data⟩ (by simp) rfl;exact aj (v:= η (B7 U T D)) (iL rfl e13 rfl (by rw[s13];show _+2≤_;omega)) (cg S rfl (by decide) hI (ι _ _) rfl)
  ·
   have OW:a.eval (.tmp 29)= η (B7 U T D):=hG ⟨14, .data⟩ (by simp) rfl;exact aj (v:= η (B7 U T D)) (Oq rfl OW) (cg S rfl (by decide) hI (ι _ _) rfl)
 intro a w4 hI hG;have e5:a.eval (.tmp 5)= η (B7 U T D):=hG 15 (by decide);have p1:a.eval (.tmp 1)= ε (some ⟨w.heap.size,0,none⟩):=hI.fixed (1,_) (by simp);rw[acy.out]at e5;have fA:Below W.heap.size W w4:=az.trans (hI.below.mono az.size);have h:TR w.heap.size W (nK u st ln) a w4:=⟨hI.size,hI.defers,p1,e5,fA⟩;clear hI hG e5 p1 fA d0 d2 S sU sT sD HCP zu acy c1 az VI;clear w2;refine hK a w4 ?_;clear hK;obtain⟨L1,zo⟩:∃L1,L1=nK u st ln++zZ rt:=⟨_,rfl⟩;obtain⟨L2,gS⟩:∃L2,L2=L1++zj ex:=⟨_,rfl⟩;obtain⟨L3,Cc⟩:∃L3,L3=L2++zk xt:=⟨_,rfl⟩;obtain⟨L4,Cd⟩:∃L4,L4=L3++wX op:=⟨_,rfl⟩;obtain⟨L5,Ce⟩:∃L5,L5=L4++zl (k - 1):=⟨_,rfl⟩;have Ou:Hid (wY u st ln rt ex xt op (k - 1)=L5++[pA]):=ad (by rw[Ce,Cd,Cc,gS,zo];rfl);have OX:Hid ((de (nK u st ln)).length≤400000∧(de L1).length≤400000∧(de L2).length≤400000∧(de L3).length≤400000∧(de L4).length≤400000∧(de L5).length≤400000):=ad (by
  have hb:=H7 u st ln rt ex xt op (k - 1) hu (by
   rcases HRC.out with⟨rfl,_⟩|⟨F,rfl,_,_,hs⟩
   ·simp
   ·exact ID hs) hle Ia oB
  rw[Ou.out,gZ,Ce,gZ,Cd,gZ,Cc,gZ,gS,gZ,zo,gZ]at hb;subst Ce Cd Cc gS zo;simp only[gZ,χ]at hb⊢;omega)
 have H1:=ad zo;have H2:=ad gS;have H3:=ad Cc;have H4:=ad Cd;have H5:=ad Ce;clear zo gS Cc Cd Ce;obtain⟨f,rfl,hf⟩:=mE a h.size h.defers;have f1:=(hf 1).symm.trans h.s1;have f5:=(hf 5).symm.trans h.s5;rw[f1,f5];have cH:=ad h.below;have gD:=cH.out.size;clear hf f1 f5 h;obtain⟨X,hX⟩:∃X:ByteArray,X=⟨(de (nK u st ln)).toArray⟩:=⟨_,rfl⟩;have sX:X.size≤400000:=by rw[hX];show(de (nK u st ln)).toArray.size≤_;rw[μ];exact OX.out.1
 rw[←hX];have HX:=ad hX;clear hX;go_upto_region 3 with fail;rename_i K1 aP K2 dI;have r1:∀a wr,TR w.heap.size W L1 a wr→K1 a wr:=by
  clear dI K2 cH gD HX sX;clear X;intro a wr h;refine aP a wr ?_;clear aP;obtain⟨f,rfl,hf⟩:=mE a h.size h.defers;have f1:=(hf 1).symm.trans h.s1;have f5:=(hf 5).symm.trans h.s5;rw[f1,f5];have cH:=ad h.below;have gD:=cH.out.size;clear hf f1 f5 h;obtain⟨X,hX⟩:∃X:ByteArray,X=⟨(de L1).toArray⟩:=⟨_,rfl⟩;have sX:X.size≤400000:=by rw[hX];show(de L1).toArray.size≤_;rw[μ];exact OX.out.2.1
  rw[←hX];have HX:=ad hX;clear hX;go_upto_region 14 with fail;rename_i K1 aP K2 dI;have c0:wr.cell? ⟨w.heap.size,22,none⟩=some (ζ ax5 ex.length cx5):=(lB.out.on cH.out).cell (by rw[Fb.out];exact(xw hl).2.1);have r2:∀a wr,TR w.heap.size W L2 a wr→K1 a wr:=by
   clear dI K2 cH gD c0 HX sX;clear X;intro a wr h;refine aP a wr ?_;clear aP;obtain⟨f,rfl,hf⟩:=mE a h.size h.defers;have f1:=(hf 1).symm.trans h.s1;have f5:=(hf 5).symm.trans h.s5;rw[f1,f5];have cH:=ad h.below;have gD:=cH.out.size;clear hf f1 f5 h;obtain⟨X,hX⟩:∃X:ByteArray,X=⟨(de L2).toArray⟩:=⟨_,rfl⟩;have sX:X.size≤400000:=by rw[hX];show(de L2).toArray.size≤_;rw[μ];exact OX.out.2.2.1
   rw[←hX];have HX:=ad hX;clear hX;go_upto_region 16 with fail;rename_i K1 aP K2 dI;have c0:wr.cell? ⟨w.heap.size,23,none⟩=some (ζ ax6 xt.length cx6):=(lB.out.on cH.out).cell (by rw[Fb.out];exact(xw hl).2.2.1);have r3:∀a wr,TR w.heap.size W L3 a wr→K1 a wr:=by
    clear dI K2 cH gD c0 HX sX;clear X;intro a wr h;refine aP a wr ?_;clear aP;obtain⟨f,rfl,hf⟩:=mE a h.size h.defers;have f1:=(hf 1).symm.trans h.s1;have f5:=(hf 5).symm.trans h.s5;rw[f1,f5];have cH:=ad h.below;have gD:=cH.out.size;clear hf f1 f5 h;obtain⟨X,hX⟩:∃X:ByteArray,X=⟨(de L3).toArray⟩:=⟨_,rfl⟩;have sX:X.size≤400000:=by rw[hX];show(de L3).toArray.size≤_;rw[μ];exact OX.out.2.2.2.1
    rw[←hX];have HX:=ad hX;clear hX;go_upto_region 18 with fail;rename_i K1 aP K2 dI;have c0:wr.cell? ⟨w.heap.size,24,none⟩=some (.bool op):=(lB.out.on cH.out).cell (by rw[Fb.out];exact(xw hl).2.2.2.1);have r4:∀a wr,TR w.heap.size W L4 a wr→K1 a wr:=by
     clear dI K2 cH gD c0 HX sX;clear X;intro a wr h;refine aP a wr ?_;clear aP;obtain⟨f,rfl,hf⟩:=mE a h.size h.defers;have f1:=(hf 1).symm.trans h.s1;have f5:=(hf 5).symm.trans h.s5;rw[f1,f5];have cH:=ad h.below;have gD:=cH.out.size;clear hf f1 f5 h;obtain⟨X,hX⟩:∃X:ByteArray,X=⟨(de L4).toArray⟩:=⟨_,rfl⟩;have sX:X.size≤400000:=by rw[hX];show(de L4).toArray.size≤_;rw[μ];exact OX.out.2.2.2.2.1
     rw[←hX];have HX:=ad hX;clear hX;go_upto_region 20 with fail;rename_i K1 aP K2 dI;have c0:wr.cell? ⟨w.heap.size,25,none⟩=some (V Z k):=(lB.out.on cH.out).cell (by rw[Fb.out];exact(xw hl).2.2.2.2);have r5:∀a wr,TR w.heap.size W L5 a wr→K1 a wr:=by
      clear dI K2 cH gD c0 HX sX;clear X;intro a wr h;refine aP a wr ?_;clear aP;obtain⟨f,rfl,hf⟩:=mE a h.size h.defers;have f1:=(hf 1).symm.trans h.s1;have f5:=(hf 5).symm.trans h.s5;rw[f1,f5];have cH:=ad h.below;have gD:=cH.out.size;clear hf f1 f5 h;obtain⟨X,hX⟩:∃X:ByteArray,X=⟨(de L5).toArray⟩:=⟨_,rfl⟩;have sX:X.size≤400000:=by rw[hX];show(de L5).toArray.size≤_;rw[μ];exact OX.out.2.2.2.2.2
      rw[←hX];have HX:=ad hX;clear hX;go_wp2_with fail;go_ret;exact⟨by rw[Ou.out,gZ];exact congrArg (fun x=>Ending.returned (κ x)) (by rw[HX.out];apply ξ;simp[de,pA]),jD.trans (cH.out.mono (by omega))⟩
     clear aP;have hkk:k=1∨k=2∨k=3:=by omega
     rcases hkk with rfl|rfl|rfl
     ·go_wp2_with fail;exact⟨rfl,rfl,rfl,by rw[H5.out,show zl (1 - 1)=[]from rfl,π];exact congrArg κ HX.out,cH.out⟩
     ·go_wp2_with fail;exact⟨rfl,rfl,rfl,by rw[H5.out,show zl (2 - 1)=[oE++fW]from rfl,gZ];exact congrArg κ (by rw[HX.out];apply ξ;simp[de,oE,fW]),cH.out⟩
     ·go_wp2_with fail;exact⟨rfl,rfl,rfl,by rw[H5.out,show zl (3 - 1)=[oE++fX]from rfl,gZ];exact congrArg κ (by rw[HX.out];apply ξ;simp[de,oE,fX]),cH.out⟩
    clear aP;cases op with
    |false=>
     go_wp2_with fail;exact⟨rfl,rfl,rfl,by rw[H4.out,show wX false=[]from rfl,π];exact congrArg κ HX.out,cH.out⟩
    |true=>
     go_wp2_with fail;exact⟨rfl,rfl,rfl,by rw[H4.out,show wX true=[PY]from rfl,gZ];exact congrArg κ (by rw[HX.out];apply ξ;simp[de,PY]),cH.out⟩
   clear aP;by_cases gn:xt.length=0
   case pos=>
    rw[gn]at c0;have HZ:=ad gn;clear gn;go_wp2_with fail;exact⟨rfl,rfl,rfl,by rw[H3.out,show zk xt=[]from if_pos HZ.out,π];exact congrArg κ HX.out,cH.out⟩
   case neg=>
    have hxp:(0:Int)<xt.length:=by omega
    have Lq:Below w.heap.size w wr:=jD.trans (cH.out.mono (by omega));have CX:=Cm (ζ ax6 xt.length cx6) xt wr (sj HXT.out Lq);obtain⟨J,hJ⟩:∃J:ByteArray,J=⟨(ο (xt.map fC) [44]).toArray⟩:=⟨_,rfl⟩;have sJ:J.size≤1000:=by rw[hJ];exact oG xt (by omega)
    rw[show zz xt xt.length=ο (xt.map fC) [44]from by rw[DH _ _ (ν _),Γ],←hJ]at CX;have HJ:=ad hJ;have KJ:=ad CX;have HZ:=ad gn;clear hJ CX gn Lq;go_wp2_with (go_at_call 240;refine(KJ.out).mono ?_;rintro e w5 ⟨rfl,bk⟩);exact⟨rfl,rfl,rfl,by rw[H3.out,show zk xt=_ from if_neg HZ.out,gZ];exact congrArg κ (by rw[HX.out,HJ.out];apply ξ;simp[de,Kz]),cH.out.trans (bk.mono gD)⟩
  clear aP;by_cases gn:ex.length=0
  case pos=>
   rw[gn]at c0;have HZ:=ad gn;clear gn;go_wp2_with fail;exact⟨rfl,rfl,rfl,by rw[H2.out,show zj ex=[]from if_pos HZ.out,π];exact congrArg κ HX.out,cH.out⟩
  case neg=>
   have hxp:(0:Int)<ex.length:=by omega
   have Lq:Below w.heap.size w wr:=jD.trans (cH.out.mono (by omega));have CX:=Cm (ζ ax5 ex.length cx5) ex wr (sj RG.out Lq);obtain⟨J,hJ⟩:∃J:ByteArray,J=⟨(ο (ex.map fC) [44]).toArray⟩:=⟨_,rfl⟩;have sJ:J.size≤1000:=by rw[hJ];exact oG ex (by omega)
   rw[show zz ex ex.length=ο (ex.map fC) [44]from by rw[DH _ _ (ν _),Γ],←hJ]at CX;have HJ:=ad hJ;have KJ:=ad CX;have HZ:=ad gn;clear hJ CX gn Lq;go_wp2_with (go_at_call 240;refine(KJ.out).mono ?_;rintro e w5 ⟨rfl,bk⟩);exact⟨rfl,rfl,rfl,by rw[H2.out,show zj ex=_ from if_neg HZ.out,gZ];exact congrArg κ (by rw[HX.out,HJ.out];apply ξ;simp[de,Ky]),cH.out.trans (bk.mono gD)⟩
 clear aP;obtain⟨q,hq⟩:∃q:Int,rc[0]?=some (V Z q)∧(rt=none→q=0)∧∀F,rt=some (ο (bO F 9) [59])→yA rc F→q=kb F:=by
  rcases HRC.out with⟨rfl,rfl⟩|⟨F,rfl,hF,_,_⟩
  ·exact⟨0,rfl,fun _=>rfl,fun F h=>(by cases h)⟩
  ·exact⟨_,hF.fq,fun h=>(by cases h),fun F' _ Cn=>by have:=hF.fq.symm.trans Cn.fq;simpa using this⟩
 have c0:w4.cell? ⟨w.heap.size,3,none⟩=some (V Z q):=(lB.out.on cH.out).cell (by rw[Fb.out];exact((xw hl).1 0 (by decide)).trans hq.1);have HQ:=ad hq.2;clear hq;rcases HRC.out with⟨rfl,XA⟩|⟨F,Ar,hF,Co,Ag⟩
 ·have:q=0:=HQ.out.1 rfl;subst this;clear HQ XA;go_wp2_with fail;exact⟨rfl,rfl,rfl,by rw[H1.out,show zZ none=[]from rfl,π];exact congrArg κ HX.out,cH.out⟩
 ·have hq0:0<q:=by have:=HQ.out.2 F Ar hF;omega
  have HF0:=ad Ar;have xl:=ad Ag;have HTX:Hid (∀j,j<9→w4.cell? ⟨w.heap.size,13+j,none⟩=some (η ⟨(nR j (F j)).toArray⟩)):=ad fun j hj=>(lB.out.on cH.out).cell (by rw[Fb.out,show 13+j=3+(10+j) by omega];exact((xw hl).1 (10+j) (by omega)).trans (hF.tx j hj));clear HQ Ar hF Co Ag;go_wp2_with fail;go_loop [6,7] (fun v i=>∃j:Nat,j≤9∧i= V Z j∧v= η ⟨(ο (bO F j) [59]).toArray⟩) (fun _ i=>9 - (intOf i).toNat)
  case atStart=>exact⟨0,by omega,rfl,rfl⟩
  case round=>
   obtain⟨j,hj,rfl,rfl⟩:=hrel;obtain⟨R,hR⟩:∃R:ByteArray,R=⟨(ο (bO F j) [59]).toArray⟩:=⟨_,rfl⟩;have sR:R.size≤20000:=by rw[hR];show(ο (bO F j) [59]).toArray.size≤_;rw[μ];exact ID xl.out hj
   rw[←hR];have HR:=ad hR;clear hR;by_cases ay:j<9
   case neg=>
    have sV:j=9:=by omega
    subst sV;go_wp2_with fail;exact⟨rfl,rfl,rfl,by rw[H1.out,HF0.out,gZ];exact congrArg κ (by rw[HX.out,HR.out];apply ξ;simp[de,zZ,F9]),cH.out⟩
   case pos=>
    obtain⟨Y,hY⟩:∃Y:ByteArray,Y=⟨(nR j (F j)).toArray⟩:=⟨_,rfl⟩;have cY:=HTX.out j ay;have sY:Y.size≤2100:=by rw[hY];show(nR j (F j)).toArray.size≤_;rw[μ];exact Sv xl.out j
    rw[←hY]at cY;have HY:=ad hY;clear hY;have hjz:(j:Int)<9:=by omega
    by_cases e0:Y=⟨#[]⟩
    case pos=>
     have HN:Hid (bO F (j+1)=bO F j):=ad (Aq (.inl ((mU _ []).1 (HY.out.symm.trans e0))));subst e0;go_wp2_with fail;exact⟨⟨j+1,by omega,by go_num,by rw[HN.out];exact congrArg κ HR.out⟩,by simp[intOf];omega⟩
    case neg=>
     have n0:¬Y.toList=[]:=by simpa using(ρ Y ⟨#[]⟩).2 e0
     have g0:(Y.toList==[])=false:=beq_eq_false_iff_ne.2 n0;by_cases e1:Y=⟨#[73,78,84,69,82,86,65,76,61,49]⟩
     case pos=>
      have HN:Hid (bO F (j+1)=bO F j):=ad (Aq (.inr (.inl ((mU _ [73,78,84,69,82,86,65,76,61,49]).1 (HY.out.symm.trans e1)))));subst e1;clear e0 n0 g0;go_wp2_with fail;exact⟨⟨j+1,by omega,by go_num,by rw[HN.out];exact congrArg κ HR.out⟩,by simp[intOf];omega⟩
     case neg=>
      have n1:¬Y.toList=[73,78,84,69,82,86,65,76,61,49]:=by simpa using(ρ Y ⟨#[73,78,84,69,82,86,65,76,61,49]⟩).2 e1
      have g1:(Y.toList==[73,78,84,69,82,86,65,76,61,49])=false:=beq_eq_false_iff_ne.2 n1;by_cases e2:Y=⟨#[87,75,83,84,61,77,79]⟩
      case pos=>
       have HN:Hid (bO F (j+1)=bO F j):=ad (Aq (.inr (.inr ((mU _ [87,75,83,84,61,77,79]).1 (HY.out.symm.trans e2)))));subst e2;clear e0 n0 g0 e1 n1 g1;go_wp2_with fail;exact⟨⟨j+1,by omega,by go_num,by rw[HN.out];exact congrArg κ HR.out⟩,by simp[intOf];omega⟩
      case neg=>
       have n2:¬Y.toList=[87,75,83,84,61,77,79]:=by simpa using(ρ Y ⟨#[87,75,83,84,61,77,79]⟩).2 e2
       have g2:(Y.toList==[87,75,83,84,61,77,79])=false:=beq_eq_false_iff_ne.2 n2;have HN:Hid (bO F (j+1)=bO F j++[nR j (F j)]):=ad (VF (fun e=>e0 (by rw[HY.out,e])) (fun e=>e1 (by rw[HY.out,e])) (fun e=>e2 (by rw[HY.out,e])));clear e0 e1 e2;by_cases r0:R=⟨#[]⟩
       case pos=>
        have HE:Hid (bO F j=[]):=ad (VG ((mU _ []).1 (HR.out.symm.trans r0)));subst r0;go_wp2_with fail;exact⟨⟨j+1,by omega,by go_num,by rw[HN.out,HE.out];exact congrArg κ (by rw[HY.out];apply ξ;simp[Lib.join_one])⟩,by simp[intOf];omega⟩
       case neg=>
        have m0:¬R.toList=[]:=by simpa using(ρ R ⟨#[]⟩).2 r0
        have m1:(R.toList==[])=false:=beq_eq_false_iff_ne.2 m0;have HE:Hid (bO F j≠[]):=ad (fun e=>r0 (by rw[HR.out,e];rfl));clear r0;go_wp2_with fail;exact⟨⟨j+1,by omega,by go_num,by rw[HN.out,IE _ _ _ HE.out];exact congrArg κ (by rw[HY.out,HR.out];apply ξ;simp)⟩,by simp[intOf];omega⟩
theorem Qs {v:List UInt8}{F:Nat→Option (List UInt8)}(h:cV v=some F)(hv:v.length≤2000):0<kb F∧∀k,((F k).getD []).length≤2000:=by
 obtain⟨r,hR⟩:=(pD v F).1 h;refine⟨?_,my (fun p hp=>Nat.le_trans (ku 59 v p hp) hv) (fun k=>by simp) hR.1⟩;have hP:=hR.2.2.1;obtain⟨h0,he⟩:=(Ad F).1 ⟨r,hP⟩;unfold has at h0;obtain⟨x,hx⟩:=Option.isSome_iff_exists.1 h0;have:=(EJ F).1 he 0 (by decide) x hx;unfold iw at this;unfold kb;rw[hx];simpa using this
theorem Lr {s:List UInt8}{x:Int}(h:cG s= .error x):x=1∨x=2∨x=3:=by
 unfold cG at h
 repeat' split at h
 all_goals first
  |(cases h;done)
  |(cases h;exact .inl rfl)
  |(cases h;exact .inr (.inl rfl))
  |(cases h;exact .inr (.inr rfl))
theorem Ls (s:List UInt8)(w:τ)(hs:s.length≤1048575)(hn:cE w 1 0 bJ)(hg:1<w.heap.size)(It:cE w 2 0 aC)(Ez:2<w.heap.size):
 φ prog 111 #[η (ba s)] w fun E w'=>E= δ (oI s)∧Below w.heap.size w w':=by
 have CR:=Lk s w hs hn hg It Ez;cases hr:cG s with
 |error x=>
  have hv:oI s= .tuple #[η ⟨#[]⟩, V Z x]:=by unfold oI;rw[hr]
  rw[hv];have gn:¬x=0:=by rcases Lr hr with rfl|rfl|rfl<;>decide
  have fR:(x==0)=false:=beq_eq_false_iff_ne.2 gn;have C:Hid (φ prog 186 #[η (ba s)] w fun e w'=>e= δ (.tuple #[.agg xp.toArray, V Z x])∧Below w.heap.size w w'):=ad (CR.mono fun e w' ⟨hb,h⟩=>by
   rcases h with⟨y,h1,h2⟩|⟨d,rc,ex,xt,h1,_⟩
   ·rw[hr]at h1;cases h1;exact⟨h2,hb⟩
   ·rw[hr]at h1;cases h1)
  clear CR hr hv hn It;go_enter func111,ntmps111;go_wp2_with (first
   |(go_at_call 186;refine(C.out).mono ?_;rintro e w1 ⟨rfl,ai⟩)
   |(refine aW rfl (kj rfl _ _) ?_;intro w2 Cp fb az)
   |(refine aN rfl rfl rfl rfl Cp rfl dB (gX ef rfl rfl) ?_;intro w3 uT iW))
  go_ret2;exact⟨rfl,(ai.trans (az.mono ai.size)).trans (iW.below (by have:=ai.size;omega) (fun k hk=>by have:=ai.size;omega))⟩
 |ok d=>
  have hv:oI s= .tuple #[η ⟨(qJ d).toArray⟩, V Z 0]:=by unfold oI;rw[hr]
  rw[hv];obtain⟨q0,q1,q2,q3,q4,q5⟩:=BJ hr;obtain⟨g1,g2,g3,g4⟩:=Ih q0;obtain⟨k1,k2⟩:=OB g4;obtain⟨l1,l2⟩:=EM q2;have Sx:=Am q0;have C:Hid (φ prog 186 #[η (ba s)] w fun e w'=>∃cs:List Value,e= δ (.tuple #[.agg cs.toArray, V Z 0])∧cs.length=26∧(∀x∈cs,x.oneCell'=true)∧Below w.heap.size w w'∧Hid (∀W,Below w'.heap.size w' W→φ prog 187 #[.agg cs.toArray] W fun E w'=>E= δ (η ⟨(qJ d).toArray⟩)∧Below W.heap.size W w')):=ad (CR.mono fun e w' ⟨hb,h⟩=>by
   rcases h with⟨y,h1,h2⟩|⟨d',rc,ex,xt,h1,h2,i1,i2,h3⟩
   ·rw[hr]at h1;cases h1
   ·rw[hr]at h1;cases h1;have kA:rc.length=19∧∀x∈rc,x.oneCell'=true:=by
     rcases h3 with⟨_,rfl⟩|⟨F,_,hF,_⟩
     ·exact⟨rfl,ef⟩
     ·exact⟨hF.len,hF.one⟩
    obtain⟨b5,e5,hf5,_⟩:=dA i1;obtain⟨b6,e6,hf6,_⟩:=dA i2;refine⟨_,h2,BL kA.1,gX kA.2 (by rw[hf5];rfl) (by rw[hf6];rfl),hb,ad fun W hW=>?_⟩;refine VH (val d.f 0) d.st d.ln rc (d.rl.map fun F=>ο (bO F 9) [59]) ex xt d.ex d.xt (eO d.f) (kindOf d.f) W kA.1 kA.2 ?_ (sj i1 hW) (sj i2 hW) (sh q3) (sh q4) (Sx 0) l1 l2 (by omega) (by omega);rcases h3 with⟨h4,h5⟩|⟨F,h4,hF,_⟩
    ·exact .inl ⟨by rw[h4];rfl,h5⟩
    ·refine .inr ⟨F,by rw[h4];rfl,hF,?_⟩;rw[h4]at q5;cases h6:d.f 4 with
     |none=>rw[h6]at q5;cases q5
     |some v=>
      rw[h6]at q5;have hvF:cV v=some F:=by
       change (cV v).map some=some (some F)at q5;cases hq:cV v with
       |none=>rw[hq]at q5;cases q5
       |some F'=>rw[hq]at q5;cases q5;rfl
      exact Qs hvF (by have:=Sx 4;unfold val at this;rw[h6]at this;exact this))
  clear CR hr hv hn It q0 q1 q2 q3 q4 q5 g1 g2 g3 g4 k1 k2 l1 l2 Sx;go_enter func111,ntmps111;go_wp2_with (first
   |(go_at_call 186;refine(C.out).mono ?_;rintro e w1 ⟨cs,rfl,dP,hco,ai,CT⟩)
   |(refine aW rfl (kj rfl _ _) ?_;intro w2 Cp fb az)
   |(refine aN rfl rfl rfl rfl Cp (dP.symm▸rfl) (by rw[dP];exact dB) hco ?_;intro w3 uT iW;have bw:=az.trans (iW.below (by omega) (fun k hk=>by omega)))
   |(refine aR rfl rfl rfl uT underlying245 rfl (by rw[dP];exact dB) ?_)
   |(go_at_call 187;refine(CT.out _ bw).mono ?_;rintro e w4 ⟨rfl,dN⟩))
  go_ret2;have nr:=ai.trans (bw.mono ai.size);exact⟨rfl,nr.trans (dN.mono nr.size)⟩
open Go.RowKit Go.Sort
structure fu (w:τ):Prop where
 Lt:iU w
 ml:ML w
 n1:cE w 1 0 bJ
 g1:1<w.heap.size
 n2:cE w 2 0 aC
 g2:2<w.heap.size
theorem fu.on {w w':τ}(h:fu w)(hb:Below w.heap.size w w'):fu w':=
 ⟨h.Lt.on hb,h.ml.on hb,jK h.n1 h.g1 hb,ψ h.g1 hb.size,jK h.n2 h.g2 hb,ψ h.g2 hb.size⟩
theorem Sy (s:List UInt8):∃(t:ByteArray) (e:Int),oI s= .tuple #[η t, V Z e]:=by
 unfold oI;cases cG s with
 |error x=>exact⟨_,_,rfl⟩
 |ok d=>exact⟨_,_,rfl⟩
theorem NA (a n m:Int)(S T:ByteArray)(sa:Option Addr)(sl sc:Nat)(w:τ)(hS:S.size≤1048575)(hR:fu w):
 φ prog 57 #[.agg #[V Z 4, V Z a, V Z n, V Z m, η S, η T, ζ sa sl sc]] w fun E w'=>E= δ (.bool true)∧Below w.heap.size w w':=by
 have hl:S.data.toList.length=S.size:=by rw[Array.length_toList];rfl
 have eS:(⟨S.data.toList.toArray⟩:ByteArray)=S:=OJ S;have c1:=fun W (h:fu W)=>Ii S.data.toList W h.ml h.Lt (by omega);have c2:=fun W (h:fu W)=>Ls S.data.toList W (by omega) h.n1 h.g1 h.n2 h.g2;obtain⟨p,e,hv⟩:=Sy S.data.toList;rw[hv,eS]at c1;rw[hv,show ba S.data.toList=S from eS]at c2;have C1:=ad c1;have C2:=ad c2;have HR:=ad hR;clear c1 c2 hv hS hR hl eS;go_enter func57,ntmps57;go_wp2_with (first
  |(go_at_call 22;refine(C1.out _ (HR.out.on ((ι _ _).alloc (ν _) _))).mono ?_;rintro e w1 ⟨rfl,ai⟩;obtain⟨hc,hf⟩:=lI ai;have ah:=((ι w.heap.size w).alloc (ν _) _).trans (ai.mono (by simp)))
  |(go_at_call 111;refine(C2.out _ (HR.out.on ah)).mono ?_;rintro e w2 ⟨rfl,az⟩)
  |(go_at_call 108;refine(so _ _).mono ?_;rintro e w' ⟨rfl,rfl⟩))
 go_ret;exact⟨rfl,ah.trans (az.mono ah.size)⟩
theorem VJ (k a n m:Int)(S T:ByteArray)(sa:Option Addr)(sl sc:Nat)(w:τ)(hS:S.size≤1048575)(hR:fu w)(h1:1≤k)(h4:k≤4):
 φ prog 57 #[.agg #[V Z k, V Z a, V Z n, V Z m, η S, η T, ζ sa sl sc]] w fun E w'=>E= δ (.bool true)∧Below w.heap.size w w':=by
 by_cases h:k=4
 ·subst h;exact NA a n m S T sa sl sc w hS hR
 ·exact Sz k a n m S T sa sl sc w (by unfold maxLen;omega) hR.Lt h1 (by omega)
theorem Z3 (p:Nat)(k a n m:Int)(S T:ByteArray)(sa:Option Addr)(sl sc:Nat)(w:τ)(hS:S.size≤1048575)(hR:fu w)(h1:1≤k)(h4:k≤4):
 φ prog 32 #[ε (some ⟨p,0,none⟩), .agg #[V Z k, V Z a, V Z n, V Z m, η S, η T, ζ sa sl sc]] w fun E w'=>E= δ (.bool true)∧Below w.heap.size w w':=by
 have C:=ad (fun W (h:fu W)=>VJ k a n m S T sa sl sc W hS h h1 h4);have HR:=ad hR;clear hR hS;go_enter func32,ntmps32;go_wp2_with (go_at_call 57;refine(C.out _ (HR.out.on ((ι _ _).alloc (ν _) _))).mono ?_;rintro e w1 ⟨rfl,ai⟩);go_ret;exact⟨rfl,((ι w.heap.size w).alloc (ν _) _).trans (ai.mono (by simp))⟩
def td:List UInt8:=[66,69,71,73,78,58,86,69,86,69,78,84,13,10,68,84,69,78,68,58,50,48,50,52,48,49,48,50,84,48,49,48,48,48,48,90,13,10,68,84,83,84,65,82,84,58,50,48,50,52,48,49,48,50,84,48,48,48,48,48,48,90,13,10,85,73,68,58,97,49,13,10,82,82,85,76,69,58,87,75,83,84,61,77,79,59,66,89,68,65,89,61,84,85,44,84,72,59,70,82,69,81,61,87,69,69,75,76,89,13,10,69,78,68,58,86,69,86,69,78,84,13,10]
def Qt:List UInt8:=[66,69,71,73,78,58,86,69,86,69,78,84,13,10,85,73,68,58,97,49,13,10,68,84,83,84,65,82,84,58,50,48,50,52,48,49,48,50,84,48,48,48,48,48,48,90,13,10,68,85,82,65,84,73,79,78,58,80,84,51,54,48,48,83,13,10,82,82,85,76,69,58,70,82,69,81,61,87,69,69,75,76,89,59,66,89,68,65,89,61,84,85,44,84,72,13,10,69,78,68,58,86,69,86,69,78,84,13,10]
def acD:List UInt8:=[70,82,69,81,61,87,69,69,75,76,89,59,66,89,68,65,89,61,84,85,44,84,72]
def Yo:Bool:=match cG td with
 | .error _=>false
 | .ok d=>decide (val d.f 0=[97,49])&&decide (d.st=1704153600)&&decide (d.ln=3600)&&decide (d.rl.map (fun F=>ο (bO F 9) [59])=some acD)&&decide (d.ex=[])&&decide (d.xt=[])&&!eO d.f&&decide (kindOf d.f=1)
theorem VK:Yo=true:=by decide+kernel
theorem Z4:υ 3600=[51,54,48,48]:=by
 rw[mg (by decide),mg (by decide),mg (by decide),Ε (by decide)];rfl
theorem VL:de (oA::(F5++[97,49])::(F6++fC 1704153600)::(F7++[51,54,48,48]++[83])::(F9++acD)::[pA])=Qt:=by decide+kernel
theorem Qu:oI td= .tuple #[η ⟨Qt.toArray⟩, V Z 0]:=by
 have h:=VK;unfold Yo at h;unfold oI;cases hr:cG td with
 |error x=>rw[hr]at h;cases h
 |ok d=>
  rw[hr]at h;simp only[ω,decide_eq_true_eq,Bool.not_eq_true']at h;obtain⟨⟨⟨⟨⟨⟨⟨h1,h2⟩,h3⟩,h4⟩,h5⟩,h6⟩,h7⟩,h8⟩:=h;simp only[];have e:qJ d=Qt:=by
   unfold qJ;rw[h1,h2,h3,h4,h5,h6,h7,h8,←VL];unfold wY nK;rw[show(3600:Int).toNat=3600 from rfl,Z4];rfl
  rw[e]
def Qv (w:τ)(b o:Nat):Prop:=∃(k a n m:Int) (S T:ByteArray) (sa:Option Addr) (sl sc:Nat),S.size≤1048575∧
 w.cell? ⟨b,o,none⟩=some (V Z k)∧w.cell? ⟨b,o+1,none⟩=some (V Z a)∧w.cell? ⟨b,o+2,none⟩=some (V Z n)∧w.cell? ⟨b,o+3,none⟩=some (V Z m)∧
 w.cell? ⟨b,o+4,none⟩=some (η S)∧w.cell? ⟨b,o+5,none⟩=some (η T)∧w.cell? ⟨b,o+6,none⟩=some (ζ sa sl sc)
def aO (n:Int):Value:=cS (ae.ag n) (ae.ofM n) (ae.ar n)
theorem OY (l:Int):ae.yr l=l * 400/146097+1∨ae.yr l=l * 400/146097:=by
 unfold ae.yr;split
 ·exact .inl rfl
 ·exact .inr rfl
theorem gL (n:Int)(h0:-700000≤n)(h1:n≤900000):1≤ae.ag n∧ae.ag n≤9000∧1≤ae.ofM n∧ae.ofM n≤12∧1≤ae.ar n∧ae.ar n≤31:=by
 obtain⟨a,b,c,d⟩:=ae.eT n (by omega);have hm:=ae.fS (ae.ag n) (ae.ofM n);have hy:1≤ae.ag n∧ae.ag n≤9000:=by
  unfold ae.ag;have:=OY (n+719468);split<;>omega
 exact⟨hy.1,hy.2,a,b,c,by omega⟩
theorem Lu {y m d:Int}(hy:1≤y)(h:ae.Valid y m d):aO (ae.num y m d)=cS y m d:=by
 have:=(ae.G6 hy (by have:=h.1;omega) (by have:=h.2.2.1;omega)).2 h;unfold aO;rw[this.1,this.2.1,this.2.2]
theorem Z5 (n:Int)(h0:-700000≤n)(h1:n≤900000)(h:ae.ar n<28):cS (ae.ag n) (ae.ofM n) (ae.ar n+1)=aO (n+1):=by
 have hr:=gL n h0 h1;have hm:=ae.fS (ae.ag n) (ae.ofM n);have hv:ae.Valid (ae.ag n) (ae.ofM n) (ae.ar n+1):=⟨by omega,by omega,by omega,by omega⟩;rw[←Lu (by omega) hv];have e1:=ae.fg (ae.ag n) (ae.ofM n) (ae.ar n+1);have e2:=ae.fg (ae.ag n) (ae.ofM n) (ae.ar n);have e3:=ae.gP n (by omega);rw[show ae.num (ae.ag n) (ae.ofM n) (ae.ar n+1)=n+1 from by omega]
theorem SA {a b:Int}(ha:-700000≤a)(hb:-700000≤b)(h:aO a=aO b):a=b:=by
 have e1:=ae.gP a (by omega);have e2:=ae.gP b (by omega);unfold aO cS at h;simp only[Value.agg.injEq,Array.mk.injEq,List.cons.injEq,Value.int.injEq,and_true,true_and]at h;rw[←e1,←e2,h.1,h.2.1,h.2.2]
theorem bV {w:τ}{g:Nat}{a b c:Value}{t:TypeId}(h:af w g [a,b,c] t):
 w.cell? ⟨g,0,none⟩=some a∧w.cell? ⟨g,1,none⟩=some b∧w.cell? ⟨g,2,none⟩=some c∧w.frozen? ⟨g,0,none⟩=false∧w.frozen? ⟨g,1,none⟩=false∧w.frozen? ⟨g,2,none⟩=false:=
 ⟨h.cell rfl,h.cell rfl,h.cell rfl,h.free,h.free,h.free⟩
theorem DI (n:Int)(w:τ)(h0:-700000≤n)(h1:n≤900000):
 φ prog 120 #[aO n] w fun e w'=>e= δ (V Z n)∧Below w.heap.size w w':=by
 have hr:=gL n h0 h1;have e3:=ae.gP n (by omega);have:=qL (ae.ag n) (ae.ofM n) (ae.ar n) w (by omega) (by omega) (by omega) (by omega) (by omega) (by omega);rw[e3]at this;exact this
theorem Gv (n:Int)(w:τ)(h0:-700000≤n)(h1:n≤900000):
 φ prog 64 #[aO n] w fun e w'=>e= δ (V Z (n * 86400))∧Below w.heap.size w w':=by
 have hr:=gL n h0 h1;have e3:=ae.gP n (by omega);have:=gT (ae.ag n) (ae.ofM n) (ae.ar n) w (by omega) (by omega) (by omega) (by omega) (by omega) (by omega);rw[e3]at this;exact this
theorem ahI (n:Int)(w:τ)(h0:-700000≤n)(h1:n≤900000):
 φ prog 121 #[V Z n] w fun e w'=>e= δ (aO n)∧Below w.heap.size w w':=yB n w (by omega) (by omega)
theorem pF (n:Int)(w:τ)(h0:0≤n)(h1:n≤7258118400):
 φ prog 66 #[V Z n] w fun e w'=>e= δ (aO (n/86400))∧Below w.heap.size w w':=Fc n w h0 h1
theorem As (n:Int)(w:τ)(h0:-700000≤n)(h1:n≤900000):
 φ prog 339 #[aO n] w fun e w'=>e= δ (V Z ((n+719470)%7))∧Below w.heap.size w w':=by
 have Lv:=DI n;unfold aO cS at Lv⊢;go_enter func339,ntmps339;go_wp2_with (go_at_call 120;refine(Lv _ h0 h1).mono ?_;rintro e w1 ⟨rfl,hb⟩);go_ret;have e:n+719468+2=n+719470:=by omega
 rw[e];exact⟨rfl,((ι _ _).alloc (ν _) _).trans (hb.mono (by simp))⟩
theorem xx (n c:Int)(w:τ)(h0:-700000≤n)(h1:n≤900000)(k0:-700000≤n+c)(k1:n+c≤900000):
 φ prog 351 #[aO n, V Z c] w fun e w'=>e= δ (aO (n+c))∧Below w.heap.size w w':=by
 have Lv:=DI n;have hof:=ahI (n+c);unfold aO cS at Lv hof⊢;go_enter func351,ntmps351;go_wp2_with fail;refine(Lv _ h0 h1).mono ?_;rintro e w1 ⟨rfl,hb⟩;have r1:=(af.new (w.alloc (θ #[V Z (ae.ag n), V Z (ae.ofM n), V Z (ae.ar n)] 106)) [V Z 0, V Z 0, V Z 0] 106).on hb;have ah:Below w.heap.size w w1:=(((ι _ _).alloc (ν _) _).alloc (by simp) _).trans (hb.mono (by simp;omega));have hz:w.heap.size+2≤w1.heap.size:=by have:=hb.size;simpa using this
 clear hb;simp only[World.size_alloc]at r1;go_wp2_with fail;refine(hof _ k0 k1).mono ?_;rintro e w2 ⟨rfl,az⟩;have r2:=r1.on az;obtain⟨c0,c1,c2,f0,f1,f2⟩:=bV r2;go_wp2_with fail;exact bodyPost_ret (v:= .agg #[V Z (ae.ag (n+c)), V Z (ae.ofM (n+c)), V Z (ae.ar (n+c))]) (by simp[results,results351,go_sem,c0,c1,c2]) rfl ⟨rfl,(((ah.trans (az.mono ah.size)).setCell (by simp) _).setCell (by simp) _).setCell (by simp) _⟩
theorem SB (n:Int)(w:τ)(h0:-700000≤n)(h1:n≤899999):
 φ prog 359 #[aO n] w fun e w'=>e= δ (aO (n+1))∧Below w.heap.size w w':=by
 have hr:=gL n h0 (by omega);by_cases hd:ae.ar n<28
 case pos=>
  rw[←Z5 n h0 (by omega) hd];unfold aO cS;go_enter func359,ntmps359;go_wp2_with fail;exact bodyPost_ret (v:= .agg #[V Z (ae.ag n), V Z (ae.ofM n), V Z (ae.ar n+1)]) (by simp[results,results359,go_sem]) rfl ⟨rfl,((ι _ _).alloc (ν _) _).alloc (by simp) _⟩
 case neg=>
  have Cq:=xx n 1;unfold aO cS at Cq⊢;go_enter func359,ntmps359;go_wp2_with fail;refine(Cq _ h0 (by omega) (by omega) (by omega)).mono ?_;rintro e w1 ⟨rfl,hb⟩;have r1:=(af.new (w.alloc (θ #[V Z (ae.ag n), V Z (ae.ofM n), V Z (ae.ar n)] 106)) [V Z 0, V Z 0, V Z 0] 106).on hb;have ah:Below w.heap.size w w1:=(((ι _ _).alloc (ν _) _).alloc (by simp) _).trans (hb.mono (by simp;omega));clear hb;simp only[World.size_alloc]at r1;obtain⟨c0,c1,c2,f0,f1,f2⟩:=bV r1;go_wp2_with fail;exact bodyPost_ret (v:= .agg #[V Z (ae.ag (n+1)), V Z (ae.ofM (n+1)), V Z (ae.ar (n+1))]) (by simp[results,results359,go_sem,c0,c1,c2]) rfl ⟨rfl,((ah.setCell (by simp) _).setCell (by simp) _).setCell (by simp) _⟩
theorem SC (W:τ)(n:Int)(D:Nat)(os:Array Obj)(h0:-700000≤n)(h1:n≤900000):
 φ prog 120 #[.agg #[V Z (ae.ag n), V Z (ae.ofM n), V Z (ae.ar n)]] (grow (redrawn W D) os) fun e aA=>e= δ (V Z n)∧∃p:Regrown,aA=grow (redrawn W p.d) p.os:=
 Calls.regrown_of (DI n _ h0 h1)
theorem Qw (a b:Int)(w:τ)(h0:-700000≤a)(h1:a≤900000)(k0:-700000≤b)(k1:b≤900000):
 φ prog 358 #[aO a,aO b] w fun e w'=>e= δ (V Z (b - a))∧Below w.heap.size w w':=by
 unfold aO cS;go_enter func358,ntmps358;go_wp2_with fail;have ah:Below w.heap.size w ((w.alloc (θ #[V Z (ae.ag a), V Z (ae.ofM a), V Z (ae.ar a)] 106)).alloc (θ #[V Z (ae.ag b), V Z (ae.ofM b), V Z (ae.ar b)] 106)):=((ι _ _).alloc (ν _) _).alloc (by simp) _;have r0:af ((w.alloc (θ #[V Z (ae.ag a), V Z (ae.ofM a), V Z (ae.ar a)] 106)).alloc (θ #[V Z (ae.ag b), V Z (ae.ofM b), V Z (ae.ar b)] 106)) w.heap.size [V Z (ae.ag a), V Z (ae.ofM a), V Z (ae.ar a)] 106:=(af.new w [V Z (ae.ag a), V Z (ae.ofM a), V Z (ae.ar a)] 106).on ((ι _ _).alloc (ν _) _);have r1:af ((w.alloc (θ #[V Z (ae.ag a), V Z (ae.ofM a), V Z (ae.ar a)] 106)).alloc (θ #[V Z (ae.ag b), V Z (ae.ofM b), V Z (ae.ar b)] 106)) (w.heap.size+1) [V Z (ae.ag b), V Z (ae.ofM b), V Z (ae.ar b)] 106:=by
  have:=af.new (w.alloc (θ #[V Z (ae.ag a), V Z (ae.ofM a), V Z (ae.ar a)] 106)) [V Z (ae.ag b), V Z (ae.ofM b), V Z (ae.ar b)] 106;simpa using this
 generalize(w.alloc (θ #[V Z (ae.ag a), V Z (ae.ofM a), V Z (ae.ar a)] 106)).alloc (θ #[V Z (ae.ag b), V Z (ae.ofM b), V Z (ae.ar b)] 106)=W at *
 obtain⟨c0,c1,c2,_,_,_⟩:=bV r0;obtain⟨d0,d1,d2,_,_,_⟩:=bV r1;have k0:=cell_regrown c0;have k1:=cell_regrown c1;have k2:=cell_regrown c2;have l0:=cell_regrown d0;have l1:=cell_regrown d1;have l2:=cell_regrown d2;clear c0 c1 c2 d0 d1 d2 r0 r1;refine wp_region_quiet_below (by kernel_rfl) (by kernel_rfl) ?_
 repeat(go_big_quiet_step (exact SC W _ _ _ (by assumption) (by assumption)))
 refine wpQuiet_nil ?_;intro _ fF;obtain⟨⟨dq,gj⟩,eU⟩:=fF;subst eU;go_wp2_with fail;go_ret;exact⟨rfl,ah.trans ((below_regrown W dq gj).mono ah.size)⟩
end Go.Proofs.YthpndgcaoeokeaaGreatDoor
