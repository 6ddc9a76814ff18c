import Derived.Test.YthpndgcaoeokeaaGreatDoorCo13
set_option maxRecDepth 100000
set_option maxHeartbeats 16000000
open Go.IntKind renaming i64→Z
open Go.Value renaming int→V,pointer→δ,slice→ε,string→ζ
open Go.RowKit.Below renaming refl→η
open Go.Instr renaming loadAt→θ,indexAt→ν,fieldAt→ξ,storeAt→ω
open Go renaming World→ι,Calls→ρ,Operand→τ,Oper→υ,Act→ψ,TypeId→Δ
open And renaming intro→κ
open Go.Region renaming wanted→μ,binds→π
open Nat renaming le_refl→ο
open List renaming not_mem_nil→φ,map_toArray→χ,mem_cons→Α,map_cons→Β,map_nil→Γ
namespace Go.Proofs.YthpndgcaoeokeaaGreatDoor
open Tryz
open Go.RowKit Go.Sort
theorem Aa (fq iv ct un ws:Int)(a1 a2 a3 a4:Option Addr)(n1 n2 n3 n4 c1 c2 c3 c4:Nat)(tx:ByteArray):∀v∈bW fq iv ct un (ε a1 n1 c1) (ε a2 n2 c2) (ε a3 n3 c3) (ε a4 n4 c4) ws tx,v.oneCell'=true:=by
 intro v hv;unfold bW at hv;simp only[Α,φ,or_false]at hv;rcases hv with rfl|rfl|rfl|rfl|rfl|rfl|rfl|rfl|rfl|rfl<;>rfl
theorem Oi (u:ByteArray)(st ln:Int)(hr:Bool)(rc:List Value)(a1 a2:Option Addr)(n1 n2 c1 c2:Nat)(tr:Bool)(k:Int)(Oj:∀v∈rc,v.oneCell'=true):∀v∈jA u st ln hr rc (ε a1 n1 c1) (ε a2 n2 c2) tr k,v.oneCell'=true:=by
 intro v hv;unfold jA at hv;simp only[List.mem_append,Α,φ,or_false]at hv;rcases hv with((rfl|rfl|rfl|rfl)|h)|(rfl|rfl|rfl|rfl)
 ·rfl
 ·rfl
 ·rfl
 ·rfl
 ·exact Oj v h
 ·rfl
 ·rfl
 ·rfl
 ·rfl
theorem RD (fq iv ct un ws:Int)(m md wk pl:Value)(tx:ByteArray):(bW fq iv ct un m md wk pl ws tx).length=10:=rfl
theorem wZ (u:ByteArray)(st ln:Int)(hr:Bool)(rc:List Value)(ex xt:Value)(tr:Bool)(k:Int)(h:rc.length=10):(jA u st ln hr rc ex xt tr k).length=18:=by
 unfold jA;simp[h]
theorem yl:iR.length=18:=rfl
theorem ym:∀(vs:List Value) (o:Nat) (pre mid post:List Value),pre.length=o→mid.length=vs.length→oD o vs (pre++mid++post)=pre++vs++post
 |[],o,pre,mid,post,_,hm=>by
  have:mid=[]:=List.eq_nil_of_length_eq_zero hm;subst this;rfl
 |v::r,o,pre,mid,post,hp,hm=>by
  cases mid with
  |nil=>simp at hm
  |cons x m=>
   have e:(pre++x::m++post).set o v=(pre++[v])++m++post:=by
    subst hp;simp
   rw[oD,e,ym r (o+1) (pre++[v]) m post (by simp[hp]) (by simpa using hm)];simp
theorem kK (vs cs:List Value)(h:cs.length=vs.length):oD 0 vs cs=vs:=by
 have:=ym vs 0 [] cs [] rfl h;simpa using this
theorem RE (u:ByteArray)(st ln:Int)(hr:Bool)(rc EC:List Value)(ex xt:Value)(tr:Bool)(k:Int)(h:EC.length=rc.length):oD 4 EC (jA u st ln hr rc ex xt tr k)=jA u st ln hr EC ex xt tr k:=by
 unfold jA;exact ym EC 4 _ rc _ rfl h.symm
theorem af.iG {w:ι}{g b:Nat}{cs:List Value}{t:Δ}(h:af w g cs t)(di:g≠b):∀{vs:List Value} {o:Nat},af (w.setCells b o vs) g cs t:=by
 intro vs
 induction vs generalizing w with
 |nil=>intro o;exact h
 |cons v l ih=>intro o;exact ih (h.other di v)
theorem ZR {w:ι}{b o:Nat}{cs:List Value}{t:Δ}{n:Nat}(h:af w b cs t)(hn:o+n≤cs.length):w.there b o n:=fun j hj=>by
 exact⟨by rw[h.cell (List.getElem?_eq_getElem (show o+j<cs.length by omega))];rfl,h.free⟩
theorem Vi:(prog.info? 76).map (·.size)=some 10:=by kernel_rfl
theorem RF:(prog.info? 79).map (·.size)=some 18:=by kernel_rfl
theorem mz (s:List UInt8)(w:ι)(hm:ML w)(hs:s.length≤1048576):
 ρ prog 43 #[ζ ⟨s.toArray⟩] w (Kx s w):=by
 have ai:Below w.heap.size w (w.alloc (.cells iR.toArray 79)):=(η _ _).alloc (ο _) _;have z1:(w.alloc (.cells iR.toArray 79)).heap.size=w.heap.size+1:=by simp
 have jX:=af.new w iR 79;have CP:=zX s (w.alloc (.cells iR.toArray 79)) (hm.on ai) hs;have hmz:0<w.heap.size:=hm.1;by_cases hE:∃F,dw s F
 case neg=>
  have HN:Hid (¬∃F tr k,lV s F tr k):=ad (fun⟨F,_,_,h⟩=>hE ⟨F,h.1⟩);have C:Hid (ρ prog 74 #[ζ ⟨s.toArray⟩] (w.alloc (.cells iR.toArray 79)) fun E w'=>E= .panicked (bN 2)∧Below w.heap.size w w'):=ad (CP.mono fun E w' ⟨h1,h2⟩=>by
   rcases h1 with⟨F,g,h,_⟩|⟨_,h⟩
   ·exact absurd ⟨F,h⟩ hE
   ·exact⟨h,ai.trans (h2.mono (by omega))⟩)
  clear CP hE jX z1 ai hm hs;go_enter func43,ntmps43;go_wp2_with (go_at_call 74;refine(C.out).mono ?_;rintro e w3 ⟨rfl,ah⟩);exact⟨rfl, .inr (.inl ⟨HN.out,rfl⟩),ah⟩
 case pos=>
  obtain⟨F,Ol⟩:=hE;have C:Hid (ρ prog 74 #[ζ ⟨s.toArray⟩] (w.alloc (.cells iR.toArray 79)) fun E w'=>∃g,E= .returned (ε (some ⟨g,0,none⟩) 9 9)∧w.heap.size+1≤g∧cQ w' g F∧Below w.heap.size w w'∧af w' w.heap.size iR 79∧ML w'∧w.heap.size≤w'.heap.size):=ad (CP.mono fun E w' ⟨h1,h2⟩=>by
   rcases h1 with⟨F',g,h,h3,h4,h5⟩|⟨h,_⟩
   ·rw[Ol.uniq h]at h5;have:=h2.size;exact⟨g,h3,by omega,h5,ai.trans (h2.mono (by omega)),jX.on h2,(hm.on ai).on h2,by omega⟩
   ·exact absurd ⟨F,Ol⟩ h)
  have Vj:=Ol.small;have abk:=ad Vj;have jY:∀k,((F k).getD []).length≤1048576:=fun k=>Nat.le_trans (Vj k) (by decide);have no:(∀tr k,EA F tr k→False)→¬∃F tr k,lV s F tr k:=fun h ⟨F',tr,k,h1,h2⟩=>by rw[Ol.uniq h1]at h2;exact h tr k h2
  have HU:=ad Ol;clear CP jX z1 ai hm hs Vj Ol;have Oh:=ad jY;have xa:=ad no;clear jY no;go_enter func43,ntmps43;go_wp2_with (go_at_call 74;refine(C.out).mono ?_;rintro e w3 ⟨g,rfl,hg,hF,ah,PZ,Eu,oZ⟩);have no:=xa.out;have jY:=Oh.out;refine fT (GE g F w3.heap.size) (JE w3 w.heap.size g) (by kernel_rfl) (by kernel_rfl) (by kernel_rfl) ?_ ?_ ?_;rotate_left 2
  ·exact⟨rfl,rfl,rfl,rfl,(η _ _).drew⟩
  ·intro i o ho a w' hI hG;have hi:i<16:=(Array.getElem?_eq_some_iff.1 ho).1;have gA:i=0∨i=1∨i=2∨i=3∨i=4∨i=5∨i=6∨i=7∨i=8∨i=9∨i=10∨i=11∨i=12∨i=13∨i=14∨i=15:=by omega
   rcases gA with rfl|rfl|rfl|rfl|rfl|rfl|rfl|rfl|rfl|rfl|rfl|rfl|rfl|rfl|rfl|rfl<;>obtain rfl:=Option.some.inj ho
   ·
    exact aj (v:=a.eval (.tmp 3)) (by kernel_rfl) (kI rfl (by decide) hI (η _ _) (show NE g F w3.heap.size 0 _ _ from hI.s3) (by kernel_rfl) rfl)
   ·
    have e:a.eval (.tmp 7)= ε (some ⟨g,0,none⟩) 9 9:=iS (hG ⟨0, .data⟩ (by simp) rfl) (by decide);exact aj (v:= δ (some ⟨g,0 * 2,none⟩)) (aL (by show(ν 118 (a.eval (.tmp 7)) (V Z 0)).run _ _=_;rw[e];exact dH g 0 (by decide) w')) (kI rfl (by decide) hI (η _ _) (show NE g F w3.heap.size 1 _ _ from rfl) (by kernel_rfl) rfl)
   ·
    have e:a.eval (.tmp 8)= δ (some ⟨g,0 * 2,none⟩):=iS (hG ⟨1, .data⟩ (by simp) rfl) (by decide);exact aj (v:= δ (some ⟨g,0 * 2,none⟩)) (aL (by show(ξ 122 (a.eval (.tmp 8)) 0).run _ _=_;rw[e];exact JK _ w' rfl)) (kI rfl (by decide) hI (η _ _) (show NE g F w3.heap.size 2 _ _ from rfl) (by kernel_rfl) rfl)
   ·
    have e:a.eval (.tmp 9)= δ (some ⟨g,0 * 2,none⟩):=iS (hG ⟨2, .data⟩ (by simp) rfl) (by decide);exact aj (v:= ζ (bH ((F 0).getD []))) (aL (by show(θ 9 (a.eval (.tmp 9))).run _ _=_;rw[e];exact Nw (hF.on hI.below) (by decide))) (kI rfl (by decide) hI (η _ _) (show NE g F w3.heap.size 3 _ _ from rfl) (by kernel_rfl) rfl)
   ·
    have e:a.eval (.tmp 10)= ζ (bH ((F 0).getD [])):=iS (hG ⟨3, .data⟩ (by simp) rfl) (by decide);refine dK (R:=fun E aA=>E=zi (bH ((F 0).getD [])) 2∧Below w'.heap.size w' aA) (f:=75) (args:=#[a.eval (.tmp 10), V Z 2]) (by kernel_rfl) (by rw[e];exact JM (bH ((F 0).getD [])) 2 w' (show(bH ((F 0).getD [])).size≤maxLen from lQ (jY 0))) ?_ ?_ ?_
    ·rintro v aA ⟨he,hb⟩;obtain⟨hn,rfl⟩:=ZO he;exact(kI rfl (by decide) hI hb (show NE g F w3.heap.size 4 _ _ from⟨hn,rfl⟩) (by kernel_rfl) rfl)
    ·rintro c aA ⟨he,hb⟩;obtain⟨hn,rfl⟩:=ZP he;exact⟨hI.defers, .inr (.inl ⟨no fun tr k hB=>(by have:=hB.uid;rw[hn]at this;cases this),rfl⟩),ah.trans ((hI.below.trans (hb.mono hI.below.size)).mono oZ)⟩
    ·rintro aA ⟨he,_⟩;exact ZQ he
   ·
    exact aj (v:=a.eval (.tmp 3)) (by kernel_rfl) (kI rfl (by decide) hI (η _ _) (show NE g F w3.heap.size 5 _ _ from hI.s3) (by kernel_rfl) rfl)
   ·
    have e:a.eval (.tmp 12)= ε (some ⟨g,0,none⟩) 9 9:=iS (hG ⟨5, .data⟩ (by simp) rfl) (by decide);exact aj (v:= δ (some ⟨g,7 * 2,none⟩)) (aL (by show(ν 118 (a.eval (.tmp 12)) (V Z 7)).run _ _=_;rw[e];exact dH g 7 (by decide) w')) (kI rfl (by decide) hI (η _ _) (show NE g F w3.heap.size 6 _ _ from rfl) (by kernel_rfl) rfl)
   ·
    have e:a.eval (.tmp 13)= δ (some ⟨g,7 * 2,none⟩):=iS (hG ⟨6, .data⟩ (by simp) rfl) (by decide);exact aj (v:=aZ (F 7)) (aL (by show(θ 122 (a.eval (.tmp 13))).run _ _=_;rw[e];exact dk (hF.on hI.below) (by decide))) (kI rfl (by decide) hI (η _ _) (show NE g F w3.heap.size 7 _ _ from rfl) (by kernel_rfl) rfl)
   ·
    have e:a.eval (.tmp 14)=aZ (F 7):=iS (hG ⟨7, .data⟩ (by simp) rfl) (by decide);refine dK (R:=fun E aA=>E=uD 2 (zR (F 7))∧Below w'.heap.size w' aA) (f:=76) (args:=#[a.eval (.tmp 14)]) (by kernel_rfl) (by rw[e];exact zH (F 7) w') ?_ ?_ ?_
    ·rintro v aA ⟨he,hb⟩;obtain⟨z,hz,rfl⟩:=Ry he;exact(kI rfl (by decide) hI hb (show NE g F w3.heap.size 8 _ _ from⟨z,hz,rfl⟩) (by kernel_rfl) rfl)
    ·rintro c aA ⟨he,hb⟩;obtain⟨hz,rfl⟩:=Rz he;exact⟨hI.defers, .inr (.inl ⟨no fun tr k hB=>(by have:=hB.tr;rw[hz]at this;cases this),rfl⟩),ah.trans ((hI.below.trans (hb.mono hI.below.size)).mono oZ)⟩
    ·rintro aA ⟨he,_⟩;exact RA he
   ·
    exact aj (v:=a.eval (.tmp 3)) (by kernel_rfl) (kI rfl (by decide) hI (η _ _) (show NE g F w3.heap.size 9 _ _ from hI.s3) (by kernel_rfl) rfl)
   ·
    have e:a.eval (.tmp 16)= ε (some ⟨g,0,none⟩) 9 9:=iS (hG ⟨9, .data⟩ (by simp) rfl) (by decide);exact aj (v:= δ (some ⟨g,8 * 2,none⟩)) (aL (by show(ν 118 (a.eval (.tmp 16)) (V Z 8)).run _ _=_;rw[e];exact dH g 8 (by decide) w')) (kI rfl (by decide) hI (η _ _) (show NE g F w3.heap.size 10 _ _ from rfl) (by kernel_rfl) rfl)
   ·
    have e:a.eval (.tmp 17)= δ (some ⟨g,8 * 2,none⟩):=iS (hG ⟨10, .data⟩ (by simp) rfl) (by decide);exact aj (v:=aZ (F 8)) (aL (by show(θ 122 (a.eval (.tmp 17))).run _ _=_;rw[e];exact dk (hF.on hI.below) (by decide))) (kI rfl (by decide) hI (η _ _) (show NE g F w3.heap.size 11 _ _ from rfl) (by kernel_rfl) rfl)
   ·
    have e:a.eval (.tmp 18)=aZ (F 8):=iS (hG ⟨11, .data⟩ (by simp) rfl) (by decide);refine dK (R:=fun E aA=>E=dR 2 (zS (F 8))∧Below w'.heap.size w' aA) (f:=77) (args:=#[a.eval (.tmp 18)]) (by kernel_rfl) (by rw[e];exact FY (F 8) w') ?_ ?_ ?_
    ·rintro v aA ⟨he,hb⟩;obtain⟨z,hz,rfl⟩:=ng he;exact(kI rfl (by decide) hI hb (show NE g F w3.heap.size 12 _ _ from⟨z,hz,rfl⟩) (by kernel_rfl) rfl)
    ·rintro c aA ⟨he,hb⟩;obtain⟨hz,rfl⟩:=nh he;exact⟨hI.defers, .inr (.inl ⟨no fun tr k hB=>(by have:=hB.st;rw[hz]at this;cases this),rfl⟩),ah.trans ((hI.below.trans (hb.mono hI.below.size)).mono oZ)⟩
    ·rintro aA ⟨he,_⟩;exact ni he
   ·
    obtain⟨hu,t0⟩:=iS (hG ⟨4, .data⟩ (by simp) rfl) (by decide);obtain⟨tr,q1,t1⟩:=iS (hG ⟨8, .data⟩ (by simp) rfl) (by decide);obtain⟨k,q2,t2⟩:=iS (hG ⟨12, .data⟩ (by simp) rfl) (by decide);exact aj (v:=zh (bH ((F 0).getD [])) 0 0 false aU (ε none 0 0) (ε none 0 0) tr k) (aL (by simp only[χ,Β,Γ];rw[show a.eval (.tmp 11)=_ from t0,show a.eval (.tmp 15)=_ from t1,show a.eval (.tmp 19)=_ from t2];exact Nv ..)) (kI rfl (by decide) hI (η _ _) (show NE g F w3.heap.size 13 _ _ from⟨tr,k,⟨hu,q1,q2⟩,rfl⟩) (by kernel_rfl) rfl)
   ·
    exact aj (v:= δ (some ⟨w'.heap.size,0,none⟩)) (w':=w'.alloc (.cells iR.toArray 79)) (by kernel_rfl) (kI rfl (by decide) hI ((η _ _).alloc (ο _) _) (show NE g F w3.heap.size 14 _ _ from⟨_,rfl,hI.below.size,iR,rfl,af.new _ _ _⟩) (by kernel_rfl) rfl)
   ·
    obtain⟨b,eb,Hc,cs,sA,P0⟩:=iS (hG ⟨14, .data⟩ (by simp) rfl) (by decide);have hv:EV F (a.eval (.tmp 20)):=iS (hG ⟨13, .data⟩ (by simp) rfl) (by decide);obtain⟨aA,Dr,fA,wU,lh⟩:=Rw P0 sA Hc hI.below hv;refine rT (w':=aA) (py (by show(ω 79 (a.eval (.tmp 4)) (a.eval (.tmp 20))).run _ _=_;rw[show a.eval (.tmp 4)=_ from eb];exact Dr)) ⟨⟨hI.size,hI.defers,hI.s2,hI.s3,fA⟩,?_,fun j oj gy hj _ hg=>?_⟩
    ·unfold GE;rw[if_pos rfl];exact⟨b,eb,Hc,lh⟩
    ·unfold GE at hg⊢;rw[if_neg hj]at hg⊢;exact NE.gr hg wU
  ·intro a w4 hI hG;have g15:=hG 15 (by decide);unfold GE at g15;rw[if_pos rfl]at g15;obtain⟨b,eb,Hc,tr,k,hB,BC⟩:=g15;obtain⟨f,rfl,sC⟩:=Hu a hI.size hI.defers;have e2:=(sC 2).symm.trans hI.s2;have e3:=(sC 3).symm.trans hI.s3;have e4:=(sC 4).symm.trans eb;have dN:=hI.below;have hF4:=hF.on dN;have hm4:=Eu.on dN;have XP:=PZ.on dN;have oF:Below w.heap.size w w4:=ah.trans (dN.mono oZ);have ay:=hF.lt;have Hw:g≠b:=by omega
   have lh:w.heap.size≠b:=by omega
   have Hx:w.heap.size≤b:=by omega
   have Hy:0≠b:=by omega
   have HD:Hid (lV s F tr k):=ad ⟨HU.out,hB⟩;clear hI hG sC hF Eu PZ dN ah xa no HU ay hg Hc oZ jY hB C;rw[e2,e3,e4];have v1:w4.cell? ⟨g,2,none⟩=some (ζ ⟨((F 1).getD []).toArray⟩):=hF4.val 1 (by decide);have CT:=fun W=>mx (bH ((F 1).getD [])) W;rw[uC]at CT;cases ht:ea ((F 1).getD [])with
   |none=>
    rw[ht]at CT;unfold dR at CT;have HX:Hid (∃F tr k,lV s F tr k∧¬∃st ln ex xt,kJ F st ln ex xt):=ad ⟨F,tr,k,HD.out,fun⟨_,_,_,_,h⟩=>by have:=h.cM;rw[ht]at this;cases this⟩;have C1:=ad CT;clear CT ht;go_wp2_with (go_at_call 78;refine(C1.out _).mono ?_;rintro e w5 ⟨rfl,bk⟩);exact⟨rfl, .inr (.inr (.inl ⟨HX.out,rfl⟩)),oF.trans (bk.mono oF.size)⟩
   |some st=>
    rw[ht]at CT;unfold dR at CT;have Vk:=By ht;have HT:=ad ht;have C1:=ad CT;clear CT ht;go_wp2_with (go_at_call 78;refine(C1.out _).mono ?_;rintro e w5 ⟨rfl,bk⟩;have zm:=BC.on bk;have y1:=zm.cell (k:=1) rfl;have z1:=zm.free (k:=1));have XQ:af (w5.setCell ⟨b,1,none⟩ (V Z st)) b (jA (bH ((F 0).getD [])) st 0 false aU (ε none 0 0) (ε none 0 0) tr k) 79:=zm.set _;have hF6:=(hF4.on bk).other Hw (i:=1) (V Z st);have hm6:=(hm4.on bk).other Hy (i:=1) (V Z st);have XR:=(XP.on bk).other lh (k:=1) (V Z st);have abm:Below w.heap.size w (w5.setCell ⟨b,1,none⟩ (V Z st)):=(oF.trans (bk.mono oF.size)).setCell Hx _;clear zm y1 z1 bk hF4 hm4 XP oF BC v1;generalize w5.setCell ⟨b,1,none⟩ (V Z st)=w6 at *
    have jY:=Oh.out;refine fT (GL g b F st tr k) (JL w w.heap.size g b F st tr k) (by kernel_rfl) (by kernel_rfl) (by kernel_rfl) ?_ ?_ ?_;rotate_left 2
    ·exact⟨rfl,rfl,rfl,rfl,rfl,hF6.aeE,hm6,⟨0,XQ⟩,XR,abm.drew⟩
    ·intro i o ho a w' hI hG;have hi:i<11:=(Array.getElem?_eq_some_iff.1 ho).1;have gA:i=0∨i=1∨i=2∨i=3∨i=4∨i=5∨i=6∨i=7∨i=8∨i=9∨i=10:=by omega
     rcases gA with rfl|rfl|rfl|rfl|rfl|rfl|rfl|rfl|rfl|rfl|rfl<;>obtain rfl:=Option.some.inj ho
     ·
      exact aj (v:= δ (some ⟨b,1,none⟩)) (aL (by show(ξ 79 (a.eval (.tmp 4)) 1).run _ _=_;rw[hI.s4];exact Nx b w')) (pW rfl (by decide) hI (η _ _) (show NL g b F st 0 _ from rfl) (by kernel_rfl) rfl)
     ·
      have e:a.eval (.tmp 27)= δ (some ⟨b,1,none⟩):=mP (hG ⟨0, .data⟩ (by simp) rfl) (by decide);obtain⟨z,hz⟩:=hI.row;exact aj (v:= V Z st) (aL (by show(θ 3 (a.eval (.tmp 27))).run _ _=_;rw[e];exact Nz (hz.cell (k:=1) rfl))) (pW rfl (by decide) hI (η _ _) (show NL g b F st 1 _ from rfl) (by kernel_rfl) rfl)
     ·
      exact aj (v:=a.eval (.tmp 3)) (by kernel_rfl) (pW rfl (by decide) hI (η _ _) (show NL g b F st 2 _ from hI.s3) (by kernel_rfl) rfl)
     ·
      have e:a.eval (.tmp 29)= ε (some ⟨g,0,none⟩) 9 9:=mP (hG ⟨2, .data⟩ (by simp) rfl) (by decide);exact aj (v:= δ (some ⟨g,2 * 2,none⟩)) (aL (by show(ν 118 (a.eval (.tmp 29)) (V Z 2)).run _ _=_;rw[e];exact dH g 2 (by decide) w')) (pW rfl (by decide) hI (η _ _) (show NL g b F st 3 _ from rfl) (by kernel_rfl) rfl)
     ·
      have e:a.eval (.tmp 30)= δ (some ⟨g,2 * 2,none⟩):=mP (hG ⟨3, .data⟩ (by simp) rfl) (by decide);exact aj (v:=aZ (F 2)) (aL (by show(θ 122 (a.eval (.tmp 30))).run _ _=_;rw[e];exact dk hI.fields (by decide))) (pW rfl (by decide) hI (η _ _) (show NL g b F st 4 _ from rfl) (by kernel_rfl) rfl)
     ·
      exact aj (v:=a.eval (.tmp 3)) (by kernel_rfl) (pW rfl (by decide) hI (η _ _) (show NL g b F st 5 _ from hI.s3) (by kernel_rfl) rfl)
     ·
      have e:a.eval (.tmp 32)= ε (some ⟨g,0,none⟩) 9 9:=mP (hG ⟨5, .data⟩ (by simp) rfl) (by decide);exact aj (v:= δ (some ⟨g,3 * 2,none⟩)) (aL (by show(ν 118 (a.eval (.tmp 32)) (V Z 3)).run _ _=_;rw[e];exact dH g 3 (by decide) w')) (pW rfl (by decide) hI (η _ _) (show NL g b F st 6 _ from rfl) (by kernel_rfl) rfl)
     ·
      have e:a.eval (.tmp 33)= δ (some ⟨g,3 * 2,none⟩):=mP (hG ⟨6, .data⟩ (by simp) rfl) (by decide);exact aj (v:=aZ (F 3)) (aL (by show(θ 122 (a.eval (.tmp 33))).run _ _=_;rw[e];exact dk hI.fields (by decide))) (pW rfl (by decide) hI (η _ _) (show NL g b F st 7 _ from rfl) (by kernel_rfl) rfl)
     ·
      have e1:a.eval (.tmp 28)= V Z st:=mP (hG ⟨1, .data⟩ (by simp) rfl) (by decide);have e4:a.eval (.tmp 31)=aZ (F 2):=mP (hG ⟨4, .data⟩ (by simp) rfl) (by decide);have e7:a.eval (.tmp 34)=aZ (F 3):=mP (hG ⟨7, .data⟩ (by simp) rfl) (by decide);refine dK (R:=fun E aA=>E=dR 1 (jv st (F 2) (F 3))∧Below w'.heap.size w' aA) (f:=79) (args:=#[a.eval (.tmp 28),a.eval (.tmp 31),a.eval (.tmp 34)]) (by kernel_rfl) (by rw[e1,e4,e7];exact Ew st (F 2) (F 3) w' Vk.1 Vk.2 (lQ (jY 3))) ?_ ?_ ?_
      ·rintro v aA ⟨he,hb⟩;obtain⟨z,hz,rfl⟩:=ng he;exact(pW rfl (by decide) hI hb (show NL g b F st 8 _ from⟨z,hz,rfl⟩) (by kernel_rfl) rfl)
      ·rintro c aA ⟨he,hb⟩;obtain⟨hz,rfl⟩:=nh he;exact⟨hI.defers, .inr (.inr (.inl ⟨⟨F,tr,k,HD.out,fun⟨ED,_,_,_,h⟩=>by have h1:=h.cM;rw[HT.out]at h1;cases h1;have:=h.ow;rw[hz]at this;cases this⟩,rfl⟩)),hI.below.trans (hb.mono hI.below.size)⟩
      ·rintro aA ⟨he,_⟩;exact ni he
     ·
      exact aj (v:= δ (some ⟨b,2,none⟩)) (aL (by show(ξ 79 (a.eval (.tmp 4)) 2).run _ _=_;rw[hI.s4];exact Ny b w')) (pW rfl (by decide) hI (η _ _) (show NL g b F st 9 _ from rfl) (by kernel_rfl) rfl)
     ·
      obtain⟨z,hz,t8⟩:=mP (hG ⟨8, .data⟩ (by simp) rfl) (by decide);have t9:a.eval (.tmp 36)= δ (some ⟨b,2,none⟩):=mP (hG ⟨9, .data⟩ (by simp) rfl) (by decide);obtain⟨y,hy⟩:=hI.row;refine rT (w':=w'.setCell ⟨b,2,none⟩ (V Z z)) (py (by show(ω 3 (a.eval (.tmp 36)) (a.eval (.tmp 35))).run _ _=_;rw[t9,show a.eval (.tmp 35)=_ from t8];exact Kw (hy.cell (k:=2) rfl) hy.free)) ⟨⟨hI.size,hI.defers,hI.s2,hI.s3,hI.s4,hI.fields.other Hw _,hI.ml.other Hy _,⟨z,hy.set _⟩,hI.res.other lh _,hI.below.setCell Hx _⟩,?_,fun j oj gy hj _ hg=>?_⟩
      ·unfold GL;rw[if_pos rfl];exact⟨z,hz,hy.set _⟩
      ·unfold GL at hg⊢;rw[if_neg hj]at hg⊢;exact hg
    ·intro a w7 hI hG;have g10:=hG 10 (by decide);unfold GL at g10;rw[if_pos rfl]at g10;obtain⟨ln,ow,XT⟩:=g10;obtain⟨f',rfl,sC⟩:=Hu a hI.size hI.defers;have q2:=(sC 2).symm.trans hI.s2;have q3:=(sC 3).symm.trans hI.s3;have q4:=(sC 4).symm.trans hI.s4;have XU:=hI.fields;have hm7:=hI.ml;have XV:=hI.res;have KA:=hI.below;clear hI hG sC hF6 hm6 XQ XR abm e2 e3 e4 jY Vk C1;rw[q2,q3,q4];have v5:w7.cell? ⟨g,10,none⟩=some (ζ ⟨((F 5).getD []).toArray⟩):=XU.val 5 (by decide);have t5:w7.cell? ⟨g,11,none⟩=some (.bool (F 5).isSome):=XU.there 5 (by decide);have CX:=zf (F 5) w7 hm7 (Oh.out 5);have mQ:=ad ow;clear ow;cases hx:qR (F 5)with
     |none=>
      have C2:Hid (ρ prog 80 #[.agg #[ζ ⟨((F 5).getD []).toArray⟩, .bool (F 5).isSome]] w7 fun E w'=>E= .panicked (bN 1)∧Below w7.heap.size w7 w'):=ad (CX.mono fun E w' ⟨h1,h2⟩=>by
       rcases h1 with⟨zs,v,h,_⟩|⟨_,h⟩
       ·rw[hx]at h;cases h
       ·exact⟨h,h2⟩)
      have HX:Hid (∃F tr k,lV s F tr k∧¬∃st ln ex xt,kJ F st ln ex xt):=ad ⟨F,tr,k,HD.out,fun⟨_,_,_,_,h⟩=>by have:=h.hex;rw[hx]at this;cases this⟩;clear CX hx;go_wp2_with (go_at_call 80;refine(C2.out).mono ?_;rintro e w8 ⟨rfl,iy⟩);exact⟨rfl, .inr (.inr (.inl ⟨HX.out,rfl⟩)),KA.trans (iy.mono KA.size)⟩
     |some ex=>
      have C2:Hid (ρ prog 80 #[.agg #[ζ ⟨((F 5).getD []).toArray⟩, .bool (F 5).isSome]] w7 fun E w'=>∃v,E= .returned v∧dn w' v ex∧Below w7.heap.size w7 w'):=ad (CX.mono fun E w' ⟨h1,h2⟩=>by
       rcases h1 with⟨zs,v,h,he,hi⟩|⟨h,_⟩
       ·rw[hx]at h;cases h;exact⟨v,he,hi,h2⟩
       ·rw[hx]at h;cases h)
      have RG:=ad hx;clear CX hx;go_wp2_with (go_at_call_of 80 (Value.agg #[Value.string ⟨((F 5).getD []).toArray⟩,Value.bool (F 5).isSome]);refine(C2.out).mono ?_;rintro e w8 ⟨aG,rfl,hi8,iy⟩;obtain⟨a8,c8,rfl⟩:=hi8.form;have KB:=XT.on iy;have y14:=KB.cell (k:=14) rfl;have z14:=KB.free (k:=14);have F8:=(XU.on iy).other Hw (i:=14) (ε a8 ex.length c8);have v6:(w8.setCell ⟨b,14,none⟩ (ε a8 ex.length c8)).cell? ⟨g,12,none⟩=some (ζ ⟨((F 6).getD []).toArray⟩):=F8.val 6 (by decide);have t6:(w8.setCell ⟨b,14,none⟩ (ε a8 ex.length c8)).cell? ⟨g,13,none⟩=some (.bool (F 6).isSome):=F8.there 6 (by decide));have P2:af (w8.setCell ⟨b,14,none⟩ (ε a8 ex.length c8)) b (jA (bH ((F 0).getD [])) st ln false aU (ε a8 ex.length c8) (ε none 0 0) tr k) 79:=KB.set _;have hm9:=(hm7.on iy).other Hy (i:=14) (ε a8 ex.length c8);have P3:=(XV.on iy).other lh (k:=14) (ε a8 ex.length c8);have yn:Below w.heap.size w (w8.setCell ⟨b,14,none⟩ (ε a8 ex.length c8)):=(KA.trans (iy.mono KA.size)).setCell Hx _;have Om:=hi8.gr gR (Gr.set (i:=14) KB (ε a8 ex.length c8));clear KB y14 z14 iy XU hm7 XV KA XT v5 t5 hi8 C2;generalize w8.setCell ⟨b,14,none⟩ (ε a8 ex.length c8)=w9 at *
      have CY:=zf (F 6) w9 hm9 (Oh.out 6);cases hy:qR (F 6)with
      |none=>
       have C3:Hid (ρ prog 80 #[.agg #[ζ ⟨((F 6).getD []).toArray⟩, .bool (F 6).isSome]] w9 fun E w'=>E= .panicked (bN 1)∧Below w9.heap.size w9 w'):=ad (CY.mono fun E w' ⟨h1,h2⟩=>by
        rcases h1 with⟨zs,v,h,_⟩|⟨_,h⟩
        ·rw[hy]at h;cases h
        ·exact⟨h,h2⟩)
       have HX:Hid (∃F tr k,lV s F tr k∧¬∃st ln ex xt,kJ F st ln ex xt):=ad ⟨F,tr,k,HD.out,fun⟨_,_,_,_,h⟩=>by have:=h.lG;rw[hy]at this;cases this⟩;clear CY hy;go_wp2_with (go_at_call 80;refine(C3.out).mono ?_;rintro e pg ⟨rfl,kM⟩);exact⟨rfl, .inr (.inr (.inl ⟨HX.out,rfl⟩)),yn.trans (kM.mono yn.size)⟩
      |some xt=>
       have C3:Hid (ρ prog 80 #[.agg #[ζ ⟨((F 6).getD []).toArray⟩, .bool (F 6).isSome]] w9 fun E w'=>∃v,E= .returned v∧dn w' v xt∧Below w9.heap.size w9 w'):=ad (CY.mono fun E w' ⟨h1,h2⟩=>by
        rcases h1 with⟨zs,v,h,he,hi⟩|⟨h,_⟩
        ·rw[hy]at h;cases h;exact⟨v,he,hi,h2⟩
        ·rw[hy]at h;cases h)
       have HTA:Hid (kJ F st ln ex xt):=ad ⟨HT.out,mQ.out,RG.out,hy⟩;clear CY hy;cases h4:F 4 with
       |none=>
        have H4:=ad h4;clear h4;go_wp2_with (first
         |(go_at_call 80;refine(C3.out).mono ?_;rintro e pg ⟨aI,rfl,Ga,kM⟩;obtain⟨a9,c9,rfl⟩:=Ga.form;have qH:=P2.on kM;have y15:=qH.cell (k:=15) rfl;have Hz:=qH.free (k:=15);have RH:=(F8.on kM).other Hw (i:=15) (ε a9 xt.length c9);have t4:(pg.setCell ⟨b,15,none⟩ (ε a9 xt.length c9)).cell? ⟨g,9,none⟩=some (.bool false):=(by have:=RH.there 4 (by decide);rw[H4.out]at this;exact this);have pX:=qH.set (k:=15) (ε a9 xt.length c9);have y3:=pX.cell (k:=3) rfl;have z3:=pX.free (k:=3);have abr:af ((pg.setCell ⟨b,15,none⟩ (ε a9 xt.length c9)).setCell ⟨b,3,none⟩ (.bool false)) b (jA (bH ((F 0).getD [])) st ln false aU (ε a8 ex.length c8) (ε a9 xt.length c9) tr k) 79:=pX.set (k:=3) (.bool false);have x3:=abr.cell (k:=3) rfl;have KC:=((P3.on kM).other lh (k:=15) (ε a9 xt.length c9)).other lh (k:=3) (.bool false))
         |(refine wpList_load_mid rfl 79 (.tmp 4) rfl b 0 rfl (jA (bH ((F 0).getD [])) st ln false aU (ε a8 ex.length c8) (ε a9 xt.length c9) tr k) _ (dc abr) underlying79 rfl (by kernel_rfl) ?_)
         |(refine wpList_store_mid rfl 79 (.tmp 2) (.tmp 60) rfl w.heap.size 0 (jA (bH ((F 0).getD [])) st ln false aU (ε a8 ex.length c8) (ε a9 xt.length c9) tr k).toArray rfl rfl (nJ KC rfl) (by kernel_rfl) (all_oneCell_toArray (Oi _ _ _ _ _ _ _ _ _ _ _ _ _ (Aa _ _ _ _ _ _ _ _ _ _ _ _ _ _ _ _ _ _))) ?_))
        have KD:Below w.heap.size w ((pg.setCell ⟨b,15,none⟩ (ε a9 xt.length c9)).setCell ⟨b,3,none⟩ (.bool false)):=((yn.trans (kM.mono yn.size)).setCell Hx _).setCell Hx _;have gF:Gr 79 pg ((pg.setCell ⟨b,15,none⟩ (ε a9 xt.length c9)).setCell ⟨b,3,none⟩ (.bool false)):=(Gr.set (i:=15) qH (ε a9 xt.length c9)).trans (Gr.set (i:=3) pX (.bool false));obtain⟨wU,Vl,pC⟩:=BA (vs:=(jA (bH ((F 0).getD [])) st ln false aU (ε a8 ex.length c8) (ε a9 xt.length c9) tr k)) (o:=0) KC KD (ο _);rw[kK _ iR (by rw[yl,wZ _ _ _ _ _ _ _ _ _ rfl])]at pC;exact bodyPost_ret (v:=zh (bH ((F 0).getD [])) st ln false aU (ε a8 ex.length c8) (ε a9 xt.length c9) tr k) (ke results43 rfl (run_loadVar_mid _ w.heap.size 0 79 (jA (bH ((F 0).getD [])) st ln false aU (ε a8 ex.length c8) (ε a9 xt.length c9) tr k) _ (dc pC) underlying79 rfl (by kernel_rfl))) rfl
         ⟨.inl ⟨F,tr,k,st,ln,ex,xt,HD.out,HTA.out,_,_,((Om.on kM).gr gR gF).gr gR wU,(Ga.gr gR gF).gr gR wU, .inl ⟨H4.out,rfl⟩⟩,Vl⟩
       |some v=>
        have H4:=ad h4;have HV:v.length≤2000:=(by have:=abk.out 4;rw[h4]at this;exact this);clear h4;go_wp2_with (go_at_call 80;refine(C3.out).mono ?_;rintro e pg ⟨aI,rfl,Ga,kM⟩;obtain⟨a9,c9,rfl⟩:=Ga.form;have qH:=P2.on kM;have y15:=qH.cell (k:=15) rfl;have Hz:=qH.free (k:=15);have RH:=(F8.on kM).other Hw (i:=15) (ε a9 xt.length c9);have t4:(pg.setCell ⟨b,15,none⟩ (ε a9 xt.length c9)).cell? ⟨g,9,none⟩=some (.bool true):=(by have:=RH.there 4 (by decide);rw[H4.out]at this;exact this);have pX:=qH.set (k:=15) (ε a9 xt.length c9);have y3:=pX.cell (k:=3) rfl;have z3:=pX.free (k:=3);have P4:=pX.set (k:=3) (.bool true);have x3:=P4.cell (k:=3) rfl;have F12:=RH.other Hw (i:=3) (.bool true);have v4:((pg.setCell ⟨b,15,none⟩ (ε a9 xt.length c9)).setCell ⟨b,3,none⟩ (.bool true)).cell? ⟨g,8,none⟩=some (ζ ⟨v.toArray⟩):=(by have:=F12.val 4 (by decide);rw[H4.out]at this;exact this));rename_i K1 aP K2 dI;have abt:=((hm9.on kM).other Hy (i:=15) (ε a9 xt.length c9)).other Hy (i:=3) (.bool true);have KD:Below w.heap.size w ((pg.setCell ⟨b,15,none⟩ (ε a9 xt.length c9)).setCell ⟨b,3,none⟩ (.bool true)):=((yn.trans (kM.mono yn.size)).setCell Hx _).setCell Hx _;have gF:Gr 79 pg ((pg.setCell ⟨b,15,none⟩ (ε a9 xt.length c9)).setCell ⟨b,3,none⟩ (.bool true)):=(Gr.set (i:=15) qH (ε a9 xt.length c9)).trans (Gr.set (i:=3) pX (.bool true));have KC:=((P3.on kM).other lh (k:=15) (ε a9 xt.length c9)).other lh (k:=3) (.bool true);have RJ:af ((pg.setCell ⟨b,15,none⟩ (ε a9 xt.length c9)).setCell ⟨b,3,none⟩ (.bool true)) b (jA (bH ((F 0).getD [])) st ln true aU (ε a8 ex.length c8) (ε a9 xt.length c9) tr k) 79:=P4;have i1:=(Om.on kM).gr gR gF;have i2:=Ga.gr gR gF;clear P4 x3 F12 v4 pX y3 z3 t4 RH y15 Hz qH Ga kM gF Om P2 P3 yn F8 C3 v6 t6;generalize((pg.setCell ⟨b,15,none⟩ (ε a9 xt.length c9)).setCell ⟨b,3,none⟩ (.bool true))=KE at *
        refine(JF v KE abt (by omega)).mono ?_;rintro e w13 ⟨hR,nr⟩;rcases hR with⟨F',r,m,md,wk,pl,XW,hE,j1,j2,j3,j4⟩|⟨fG,rfl⟩
        case inr=>
         go_wp2;exact⟨rfl, .inr (.inr (.inr ⟨⟨F,tr,k,st,ln,ex,xt,v,HD.out,HTA.out,H4.out,fG⟩,rfl⟩)),KD.trans (nr.mono KD.size)⟩
        case inl=>
         obtain⟨p1,rfl⟩:=j1.form;obtain⟨p2,rfl⟩:=j2.form;obtain⟨p3,rfl⟩:=j3.form;obtain⟨p4,rfl⟩:=j4.form;have hE2:e= .returned (.agg (bW r.fq r.iv r.ct r.un (ε p1 r.ms.length r.ms.length) (ε p2 r.mds.length r.mds.length) (ε p3 r.wks.length r.wks.length) (ε p4 r.pls.length r.pls.length) r.ws (gw F')).toArray):=hE;subst hE2;clear hE;have P5:=RJ.on nr;have XX:=KC.on nr;obtain⟨g14,ep,J6⟩:=BA (vs:=(bW r.fq r.iv r.ct r.un (ε p1 r.ms.length r.ms.length) (ε p2 r.mds.length r.mds.length) (ε p3 r.wks.length r.wks.length) (ε p4 r.pls.length r.pls.length) r.ws (gw F'))) (o:=4) P5 (KD.trans (nr.mono KD.size)) Hx;rw[RE _ _ _ _ aU (bW r.fq r.iv r.ct r.un (ε p1 r.ms.length r.ms.length) (ε p2 r.mds.length r.mds.length) (ε p3 r.wks.length r.wks.length) (ε p4 r.pls.length r.pls.length) r.ws (gw F')) _ _ _ _ rfl]at J6;have BD:af (w13.setCells b 4 (bW r.fq r.iv r.ct r.un (ε p1 r.ms.length r.ms.length) (ε p2 r.mds.length r.mds.length) (ε p3 r.wks.length r.wks.length) (ε p4 r.pls.length r.pls.length) r.ws (gw F'))) w.heap.size iR 79:=XX.iG lh;obtain⟨w14,Vm⟩:∃w14,w14=w13.setCells b 4 (bW r.fq r.iv r.ct r.un (ε p1 r.ms.length r.ms.length) (ε p2 r.mds.length r.mds.length) (ε p3 r.wks.length r.wks.length) (ε p4 r.pls.length r.pls.length) r.ws (gw F')):=⟨_,rfl⟩;rw[←Vm]at g14 ep J6 BD;have ahx:=ad Vm;clear Vm;have abw:w13.there b 4 (bW r.fq r.iv r.ct r.un (ε p1 r.ms.length r.ms.length) (ε p2 r.mds.length r.mds.length) (ε p3 r.wks.length r.wks.length) (ε p4 r.pls.length r.pls.length) r.ws (gw F')).toArray.size:=ZR P5 (by rw[wZ _ _ _ _ _ _ _ _ _ rfl];show 4+(bW r.fq r.iv r.ct r.un (ε p1 r.ms.length r.ms.length) (ε p2 r.mds.length r.mds.length) (ε p3 r.wks.length r.wks.length) (ε p4 r.pls.length r.pls.length) r.ws (gw F')).length≤18;rw[RD];decide);have abx:=dc J6;have aby:w14.there w.heap.size 0 (jA (bH ((F 0).getD [])) st ln true (bW r.fq r.iv r.ct r.un (ε p1 r.ms.length r.ms.length) (ε p2 r.mds.length r.mds.length) (ε p3 r.wks.length r.wks.length) (ε p4 r.pls.length r.pls.length) r.ws (gw F')) (ε a8 ex.length c8) (ε a9 xt.length c9) tr k).toArray.size:=nJ BD (by show(jA (bH ((F 0).getD [])) st ln true (bW r.fq r.iv r.ct r.un (ε p1 r.ms.length r.ms.length) (ε p2 r.mds.length r.mds.length) (ε p3 r.wks.length r.wks.length) (ε p4 r.pls.length r.pls.length) r.ws (gw F')) (ε a8 ex.length c8) (ε a9 xt.length c9) tr k).length=_;rw[yl,wZ _ _ _ _ _ _ _ _ _ rfl]);have Oo:(bW r.fq r.iv r.ct r.un (ε p1 r.ms.length r.ms.length) (ε p2 r.mds.length r.mds.length) (ε p3 r.wks.length r.wks.length) (ε p4 r.pls.length r.pls.length) r.ws (gw F')).toArray.all (·.oneCell')=true:=all_oneCell_toArray (Aa _ _ _ _ _ _ _ _ _ _ _ _ _ _ _ _ _ _);have o14:(jA (bH ((F 0).getD [])) st ln true (bW r.fq r.iv r.ct r.un (ε p1 r.ms.length r.ms.length) (ε p2 r.mds.length r.mds.length) (ε p3 r.wks.length r.wks.length) (ε p4 r.pls.length r.pls.length) r.ws (gw F')) (ε a8 ex.length c8) (ε a9 xt.length c9) tr k).toArray.all (·.oneCell')=true:=all_oneCell_toArray (Oi _ _ _ _ _ _ _ _ _ _ _ _ _ (Aa _ _ _ _ _ _ _ _ _ _ _ _ _ _ _ _ _ _));have i13:(prog.info? 76).map (·.size)=some (bW r.fq r.iv r.ct r.un (ε p1 r.ms.length r.ms.length) (ε p2 r.mds.length r.mds.length) (ε p3 r.wks.length r.wks.length) (ε p4 r.pls.length r.pls.length) r.ws (gw F')).toArray.size:=Vi;have i14:(prog.info? 79).map (·.size)=some (jA (bH ((F 0).getD [])) st ln true (bW r.fq r.iv r.ct r.un (ε p1 r.ms.length r.ms.length) (ε p2 r.mds.length r.mds.length) (ε p3 r.wks.length r.wks.length) (ε p4 r.pls.length r.pls.length) r.ws (gw F')) (ε a8 ex.length c8) (ε a9 xt.length c9) tr k).length:=by rw[wZ _ _ _ _ _ _ _ _ _ rfl];exact RF
         have H13:=ad abw;have H14:=ad aby;have HR:=ad abx;have ahy:=ad Oo;have ahz:=ad o14;have ahA:=ad i13;have abz:=ad i14;clear abw aby abx Oo o14 i13 i14;refine dI _ _ ?_;clear dI K2;have ahB:=ad (κ g14 (κ ep (κ BD (κ i1 (κ i2 (κ nr (κ j1 (κ j2 (κ j3 (κ j4 XW))))))))));clear XW j1 j2 j3 j4 P5 XX g14 ep J6 BD i1 i2 RJ KC KD abt nr eb q2 q3 q4 hm9;go_wp2_with (first
          |(refine wpList_store_mid rfl 76 (.tmp 59) (.tmp 58) rfl b 4 (bW r.fq r.iv r.ct r.un (ε p1 r.ms.length r.ms.length) (ε p2 r.mds.length r.mds.length) (ε p3 r.wks.length r.wks.length) (ε p4 r.pls.length r.pls.length) r.ws (gw F')).toArray rfl rfl H13.out ahA.out ahy.out ?_;rw[show(bW r.fq r.iv r.ct r.un (ε p1 r.ms.length r.ms.length) (ε p2 r.mds.length r.mds.length) (ε p3 r.wks.length r.wks.length) (ε p4 r.pls.length r.pls.length) r.ws (gw F')).toArray.toList=(bW r.fq r.iv r.ct r.un (ε p1 r.ms.length r.ms.length) (ε p2 r.mds.length r.mds.length) (ε p3 r.wks.length r.wks.length) (ε p4 r.pls.length r.pls.length) r.ws (gw F'))from rfl,←ahx.out])
          |(refine wpList_load_mid rfl 79 (.tmp 4) rfl b 0 rfl (jA (bH ((F 0).getD [])) st ln true (bW r.fq r.iv r.ct r.un (ε p1 r.ms.length r.ms.length) (ε p2 r.mds.length r.mds.length) (ε p3 r.wks.length r.wks.length) (ε p4 r.pls.length r.pls.length) r.ws (gw F')) (ε a8 ex.length c8) (ε a9 xt.length c9) tr k) _ HR.out underlying79 rfl abz.out ?_)
          |(refine wpList_store_mid rfl 79 (.tmp 2) (.tmp 60) rfl w.heap.size 0 (jA (bH ((F 0).getD [])) st ln true (bW r.fq r.iv r.ct r.un (ε p1 r.ms.length r.ms.length) (ε p2 r.mds.length r.mds.length) (ε p3 r.wks.length r.wks.length) (ε p4 r.pls.length r.pls.length) r.ws (gw F')) (ε a8 ex.length c8) (ε a9 xt.length c9) tr k).toArray rfl rfl H14.out abz.out ahz.out ?_))
         obtain⟨g14,ep,BD,i1,i2,nr,j1,j2,j3,j4,XW⟩:=ahB.out;obtain⟨wU,Vl,pC⟩:=BA (vs:=(jA (bH ((F 0).getD [])) st ln true (bW r.fq r.iv r.ct r.un (ε p1 r.ms.length r.ms.length) (ε p2 r.mds.length r.mds.length) (ε p3 r.wks.length r.wks.length) (ε p4 r.pls.length r.pls.length) r.ws (gw F')) (ε a8 ex.length c8) (ε a9 xt.length c9) tr k)) (o:=0) BD ep (ο _);rw[kK _ iR (by rw[yl,wZ _ _ _ _ _ _ _ _ _ rfl])]at pC;exact bodyPost_ret (v:=zh (bH ((F 0).getD [])) st ln true (bW r.fq r.iv r.ct r.un (ε p1 r.ms.length r.ms.length) (ε p2 r.mds.length r.mds.length) (ε p3 r.wks.length r.wks.length) (ε p4 r.pls.length r.pls.length) r.ws (gw F')) (ε a8 ex.length c8) (ε a9 xt.length c9) tr k) (ke results43 rfl (run_loadVar_mid _ w.heap.size 0 79 (jA (bH ((F 0).getD [])) st ln true (bW r.fq r.iv r.ct r.un (ε p1 r.ms.length r.ms.length) (ε p2 r.mds.length r.mds.length) (ε p3 r.wks.length r.wks.length) (ε p4 r.pls.length r.pls.length) r.ws (gw F')) (ε a8 ex.length c8) (ε a9 xt.length c9) tr k) _ (dc pC) underlying79 rfl (by kernel_rfl))) rfl
          ⟨.inl ⟨F,tr,k,st,ln,ex,xt,HD.out,HTA.out,_,_,((i1.on nr).gr gR g14).gr gR wU,((i2.on nr).gr gR g14).gr gR wU, .inr ⟨v,F',r,_,_,_,_,H4.out,XW,(j1.gr gR g14).gr gR wU,(j2.gr gR g14).gr gR wU,(j3.gr XN g14).gr XN wU,(j4.gr gR g14).gr gR wU,rfl⟩⟩,Vl⟩
section
variable {P:Program} {ops:Array υ} {Q:Exit→ψ→ι→Prop}
def EE (ops:Array υ)(G:Nat→ψ→ι→Prop)(I:ψ→ι→Prop)(i:Nat)(a:ψ)(w:ι)(a':ψ)(w':ι):Prop:=
 I a' w'∧G i a' w'∧∀j oj,ops[j]?=some oj→j≠i→(∀e∈oj.after,π .any e=true→e.on≠i)→G j a w→G j a' w'
theorem Ab {id:Nat}{a:ψ}{w:ι}(G:Nat→ψ→ι→Prop)(I:ψ→ι→Prop)(hm:P.follows .mixedOrders=true)(hf:forward .any ops=true)
 (H:∀i o,ops[i]?=some o→∀a w,I a w→(∀e∈o.after,π .any e=true→G e.on a w)→
  if μ o (yielded ops a.tmps)=true then Oper.wp P o a w (EE ops G I i a w) Q else EE ops G I i a w (a.put o.dst undef) w)
 (D:∀a w,I a w→(∀i,i<ops.size→G i a w)→Q .normal a w)(hI:I a {w with drawn:=w.drawn+1}):(Code.region id ops true).wp P Q a w:=by
 refine wP G I hm hf (fun i o a w ho hI hG=>?_) D hI;refine wpOp_step ho fun K' Hb=>?_;have h:=H i o ho a w hI hG;by_cases hw:μ o (yielded ops a.tmps)=true
 ·rw[if_pos hw]at h⊢;exact Oper.wp_mono Hb h
 ·rw[if_neg hw]at h⊢;exact Hb _ _ h
theorem cb {o:υ}{y:Nat→Option Bool}(h:o.guard=none):μ o y=true:=by unfold μ;rw[h]
theorem lx {o oj:υ}{a:ψ}{j d:Nat}{want b:Bool}(h:o.guard=some (j,want))(hj:ops[j]?=some oj)(hd:oj.dst=some d)(hs:d<a.tmps.size)(hv:a.eval (.tmp d)= .bool b):μ o (yielded ops a.tmps)=(b==want):=by
 have e:a.tmps[d]?=some (.bool b):=by
  have:a.tmps.getD d undef= .bool b:=hv;rw[Array.getElem?_eq_getElem hs];rw[Array.getD_eq_getD_getElem?,Array.getElem?_eq_getElem hs]at this;simpa using this
 unfold μ yielded;rw[h];simp only[hj,Option.bind_some,hd,e];cases b<;>cases want<;>rfl
end
end Go.Proofs.YthpndgcaoeokeaaGreatDoor
namespace Go.Proofs.YthpndgcaoeokeaaGreatDoor
open Tryz
open Go.RowKit
structure JV (n0:Nat)(fix:List (Nat×Value))(W:ι)(a:ψ)(w:ι):Prop where
 size:a.tmps.size=n0
 defers:a.defers=[]
 fixed:∀p∈fix,a.eval (.tmp p.1)=p.2
 below:Below W.heap.size W w
def GV (σ:Nat→Nat)(N:Nat→Value→ι→Prop)(i:Nat)(a:ψ)(w:ι):Prop:=N i (a.eval (.tmp (σ i))) w
structure EF (σ:Nat→Nat)(fix:List (Nat×Value))(n0 n:Nat)(N:Nat→Value→ι→Prop):Prop where
 lt:∀i,i<n→σ i<n0
 inj:∀i j,i<n→j<n→σ i=σ j→i=j
 off:∀p∈fix,∀i,i<n→p.1≠σ i
 grow:∀i v w w',N i v w→Below w.heap.size w w'→N i v w'
theorem cg {σ:Nat→Nat}{fix:List (Nat×Value)}{n0:Nat}{N:Nat→Value→ι→Prop}{W:ι}{a:ψ}{w w':ι}{ops:Array υ}{i:Nat}{v:Value}{dst:Option Nat}(S:EF σ fix n0 ops.size N)(hd:dst=some (σ i))(hi:i<ops.size)
 (h:JV n0 fix W a w)(hb:Below w.heap.size w w')(hn:N i v w'):
 JV n0 fix W (a.put dst v) w'∧GV σ N i (a.put dst v) w'∧∀j oj,ops[j]?=some oj→j≠i→(∀e∈oj.after,π .any e=true→e.on≠i)→GV σ N j a w→GV σ N j (a.put dst v) w':=by
 subst hd;have hs:σ i<a.tmps.size:=by rw[h.size];exact S.lt i hi
 refine⟨⟨by rw[eB];exact h.size,by rw[put_defers];exact h.defers,fun p hp=>by rw[bL (S.off p hp i hi)];exact h.fixed p hp,h.below.trans (hb.mono h.below.size)⟩,?_,fun j oj gy lE _ hg=>?_⟩
 ·unfold GV;rw[fh hs];exact hn
 ·have hj:j<ops.size:=(Array.getElem?_eq_some_iff.1 gy).1;unfold GV at hg⊢;rw[bL (fun e=>lE (S.inj j i hj hi e))];exact S.grow j _ w w' hg hb
theorem yo {P:Program}{Q:Exit→ψ→ι→Prop}{o:υ}{a:ψ}{w w':ι}{K:ψ→ι→Prop}{f:FuncId}{args:Array Value}{v:Value}(h:(execOp a.eval o).run P w= .ok (.enter f args) w')(hc:ρ P f args w' fun e aA=>e= .returned v∧Below w'.heap.size w' aA)
 (h1:∀aA,Below w'.heap.size w' aA→K (a.put o.dst v) aA):Oper.wp P o a w K Q:=
 dK h hc (fun v' aA ⟨e,hb⟩=>by cases e;exact h1 aA hb) (fun c aA ⟨e,_⟩=>by cases e) (fun aA ⟨e,_⟩=>by cases e)
theorem iL {o:υ}{a:ψ}{w:ι}{x y:τ}{X Y:ByteArray}(ho:o.op= .binOp .add 9 x y 9)(hx:a.eval x= ζ X)(hy:a.eval y= ζ Y)(hs:X.size+Y.size≤10000000):(execOp a.eval o).run prog w= .ok (.value (ζ (X++Y))) w:=by
 obtain⟨_,_,_,_,_,_⟩:=o;simp only[]at ho;subst ho;unfold execOp;simp only[hx,hy];have qX:(X.size:Int)+Y.size≤10000000:=by omega
 have hm:X.size+Y.size≤maxLen:=by unfold maxLen;omega
 go_simp;omega
theorem dp {o:υ}{a:ψ}{w:ι}{x:τ}{T:Δ}{p:Addr}{v:Value}(ho:o.op= .load T x)(hx:a.eval x= δ (some p))(hr:(θ T (δ (some p))).run prog w= .ok v w):(execOp a.eval o).run prog w= .ok (.value v) w:=by
 obtain⟨_,_,_,_,_,_⟩:=o;simp only[]at ho;subst ho;unfold execOp;simp only[hx];exact aL hr
theorem HH {p:Addr}{v:ByteArray}{w:ι}(h:w.cell? p=some (ζ v)):(θ 9 (δ (some p))).run prog w= .ok (ζ v) w:=by
 go_simp
theorem iH {p:Addr}{z:Int}{w:ι}(h:w.cell? p=some (V Z z)):(θ 3 (δ (some p))).run prog w= .ok (V Z z) w:=by
 go_simp
theorem rZ {o:υ}{a:ψ}{w:ι}{x:τ}{T:Δ}{k:Nat}{p q:Addr}(ho:o.op= .fieldAddr T x k)(hx:a.eval x= δ (some p))(hr:(ξ T (δ (some p)) k).run prog w= .ok (δ (some q)) w):(execOp a.eval o).run prog w= .ok (.value (δ (some q))) w:=by
 obtain⟨_,_,_,_,_,_⟩:=o;simp only[]at ho;subst ho;unfold execOp;simp only[hx];exact aL hr
theorem Oq {o:υ}{a:ψ}{w:ι}{x:τ}{v:Value}(ho:o.op= .assign x)(h:a.eval x=v):(execOp a.eval o).run prog w= .ok (.value v) w:=by
 obtain⟨_,_,_,_,_,_⟩:=o;simp only[]at ho;subst ho;unfold execOp;simp only[h];rfl
theorem Vn {o:υ}{a:ψ}{w:ι}{x1 x2 x3:τ}{A B C D:ByteArray}(ho:o.op= .buildSlice 52 4 #[(0, .const (ζ A)),(1,x1),(2,x2),(3,x3)])(h1:a.eval x1= ζ B)(h2:a.eval x2= ζ C)(h3:a.eval x3= ζ D):
 (execOp a.eval o).run prog w= .ok (.value (ε (some ⟨w.heap.size,0,none⟩) 4 4)) (w.alloc (.cells #[ζ A, ζ B, ζ C, ζ D] 9)):=by
 obtain⟨_,_,_,_,_,_⟩:=o;simp only[]at ho;subst ho;unfold execOp;have h0:a.eval (.const (ζ A))= ζ A:=rfl;simp only[χ,Β,Γ,h0,h1,h2,h3];go_simp
end Go.Proofs.YthpndgcaoeokeaaGreatDoor
