import Derived.Test.YthpndgcaoeokeaaGreatDoorCo24
import Derived.Lib.QuietBelowIn
import Derived.Sort.BigQuietIn
import Derived.Sort.CutIn
set_option maxRecDepth 100000
set_option maxHeartbeats 8000000
open Go.IntKind renaming i64→Z
open Go.Value renaming int→V,pointer→ε,slice→ζ,string→η
open Go.Ending renaming returned→δ
open Go.Obj renaming cells→θ
open Nat renaming le_refl→ι,le_trans→ξ
open Go renaming World→κ,Calls→ο,Ending→π
open Go.RowKit.Below renaming refl→μ
open Go.World renaming size_setCell→ν
namespace Go.Proofs.YthpndgcaoeokeaaGreatDoor
open Tryz
open Go.RowKit Go.Sort
def aJ (r:au)(s:Int):au:=
 if 0<r.mds.length∨0<r.wks.length then r
 else if r.fq=1 then{r with wks:=[(0,(s+719470)%7)]}
 else if r.fq=2 then{r with mds:=[ae.ar s]}
 else if r.fq=3 then(if r.ms.length=0 then{r with mds:=[ae.ar s],ms:=[ae.ofM s]}else{r with mds:=[ae.ar s]})
 else r
def LB (m md wk pl:Value):aB:=fun k=>m.ownBlock=some k∨md.ownBlock=some k∨wk.ownBlock=some k∨pl.ownBlock=some k
theorem cN.keep {w w':κ}{v:Value}{zs:List Int}(h:cN w v zs)(hk:∀k,v.ownBlock=some k→w'.heap[k]?=w.heap[k]?):cN w' v zs:=
 h.imp id fun⟨g,h1,h2⟩=>⟨g,h1,(hk g (by rw[h1];rfl)).trans h2⟩
theorem iB.keep {w w':κ}{v:Value}{zs:List (Int×Int)}(h:iB w v zs)(hk:∀k,v.ownBlock=some k→w'.heap[k]?=w.heap[k]?):iB w' v zs:=
 h.imp id fun⟨g,h1,h2⟩=>⟨g,h1,(hk g (by rw[h1];rfl)).trans h2⟩
theorem eh.keep {w w':κ}{r:au}{m md wk pl:Value}(h:eh w r m md wk pl)(hk:∀k,LB m md wk pl k→w'.heap[k]?=w.heap[k]?):eh w' r m md wk pl:=
 ⟨h.ms.keep fun k e=>hk k (.inl e),h.mds.keep fun k e=>hk k (.inr (.inl e)),h.wks.keep fun k e=>hk k (.inr (.inr (.inl e))),h.pls.keep fun k e=>hk k (.inr (.inr (.inr e)))⟩
theorem cN.jG {w:κ}{v:Value}{zs:List Int}(h:cN w v zs){k:Nat}(e:v.ownBlock=some k):k<w.heap.size:=by
 rcases h with⟨rfl,_⟩|⟨g,rfl,h2⟩
 ·cases e
 ·cases e;exact h2.lt
theorem iB.jG {w:κ}{v:Value}{zs:List (Int×Int)}(h:iB w v zs){k:Nat}(e:v.ownBlock=some k):k<w.heap.size:=by
 rcases h with⟨rfl,_⟩|⟨g,rfl,h2⟩
 ·cases e
 ·cases e;exact h2.lt
theorem eh.jG {w:κ}{r:au}{m md wk pl:Value}(h:eh w r m md wk pl){k:Nat}(e:LB m md wk pl k):k<w.heap.size:=by
 rcases e with e|e|e|e
 ·exact h.ms.jG e
 ·exact h.mds.jG e
 ·exact h.wks.jG e
 ·exact h.pls.jG e
theorem IZ {r:au}(h:cX r)(s:Int):cX (aJ r s):=by
 unfold aJ;split
 ·exact h
 ·split
  ·exact{h with wks:=(by simp),ord:=(by intro p hp;simp at hp;subst hp;simp)}
  ·split
   ·exact{h with mds:=(by simp)}
   ·split
    ·split
     ·exact{h with mds:=(by simp),ms:=(by simp)}
     ·exact{h with mds:=(by simp)}
    ·exact h
def I0 (w:κ)(r:au)(s:Int)(tx:ByteArray)(m md wk pl:Value):π→κ→Prop:=fun e w'=>
 ∃m' gd gh,e= δ (aY (aJ r s).fq (aJ r s).iv (aJ r s).ct (aJ r s).un m' gd gh pl (aJ r s).ws tx)∧eh w' (aJ r s) m' gd gh pl∧Below w.heap.size w w'∧(∀k,LB m' gd gh pl k→LB m md wk pl k∨w.heap.size≤k)
theorem GB (r:au)(m md wk pl:Value)(tx:ByteArray)(s:Int)(w:κ)(hl:eh w r m md wk pl)(ho:cX r)(s0:0≤s)(s1:s≤84010):
 ο prog 314 #[aY r.fq r.iv r.ct r.un m md wk pl r.ws tx,aO s] w (I0 w r s tx m md wk pl):=by
 have kC:=ho.Av;have IL:=ho.Cr;obtain⟨a1,e1⟩:=hl.ms.form;obtain⟨a2,e2⟩:=hl.mds.form;obtain⟨a3,e3⟩:=hl.wks.form;obtain⟨a4,e4⟩:=hl.pls.form;have hD:Hid (∀W,ο prog 339 #[aO s] W fun e w'=>e= δ (V Z ((s+719470)%7))∧Below W.heap.size W w'):=ad fun W=>As s W (by omega) (by omega);have fin:∀(m' gd gh:Value) (r':au) (e:π) (W':κ),aJ r s=r'→e= δ (aY r'.fq r'.iv r'.ct r'.un m' gd gh pl r'.ws tx)→eh W' r' m' gd gh pl→Below w.heap.size w W'→(∀k,LB m' gd gh pl k→LB m md wk pl k∨w.heap.size≤k)→I0 w r s tx m md wk pl e W':=
  fun m' gd gh r' e W' h1 h2 h3 h4 h5=>⟨m',gd,gh,by rw[h1];exact h2,by rw[h1];exact h3,h4,h5⟩
 have hA:Hid (∀(h:0<r.mds.length∨0<r.wks.length∨r.fq=0) (e:π) (W':κ),e= δ (aY r.fq r.iv r.ct r.un m md wk pl r.ws tx)→Below w.heap.size w W'→I0 w r s tx m md wk pl e W'):=ad fun h e W' he hb=>
  fin m md wk r e W' (by unfold aJ;split;rfl;rw[if_neg (by omega),if_neg (by omega),if_neg (by omega)]) he (hl.on hb) hb fun k hk=> .inl hk
 have h1:Hid (r.mds.length=0→r.wks.length=0→r.fq=1→∀(g:Nat) (e:π) (W':κ),w.heap.size≤g→af W' g [V Z 0, V Z ((s+719470)%7)] 183→e= δ (aY r.fq r.iv r.ct r.un m md (ζ (some ⟨g,0,none⟩) 1 1) pl r.ws tx)→Below w.heap.size w W'→I0 w r s tx m md wk pl e W'):=ad fun h h' hq g e W' hg ax he hb=>
  fin m md (ζ (some ⟨g,0,none⟩) 1 1) {r with wks:=[(0,(s+719470)%7)]} e W' (by unfold aJ;rw[if_neg (by omega),if_pos hq]) he ⟨hl.ms.on hb,hl.mds.on hb, .inr ⟨g,rfl,ax⟩,hl.pls.on hb⟩ hb fun k hk=>by
   rcases hk with hk|hk|hk|hk
   ·exact .inl (.inl hk)
   ·exact .inl (.inr (.inl hk))
   ·cases hk;exact .inr hg
   ·exact .inl (.inr (.inr (.inr hk)))
 have h2:Hid (r.mds.length=0→r.wks.length=0→(r.fq=2∨r.fq=3∧r.ms.length≠0)→∀(g:Nat) (e:π) (W':κ),w.heap.size≤g→af W' g [V Z (ae.ar s)] 3→e= δ (aY r.fq r.iv r.ct r.un m (ζ (some ⟨g,0,none⟩) 1 1) wk pl r.ws tx)→Below w.heap.size w W'→I0 w r s tx m md wk pl e W'):=ad fun h h' hq g e W' hg ax he hb=>
  fin m (ζ (some ⟨g,0,none⟩) 1 1) wk {r with mds:=[ae.ar s]} e W' (by
   unfold aJ;rw[if_neg (by omega),if_neg (by omega)];rcases hq with hq|⟨hq,hn⟩
   ·rw[if_pos hq]
   ·rw[if_neg (by omega),if_pos hq,if_neg hn]) he ⟨hl.ms.on hb, .inr ⟨g,rfl,ax⟩,hl.wks.on hb,hl.pls.on hb⟩ hb fun k hk=>by
   rcases hk with hk|hk|hk|hk
   ·exact .inl (.inl hk)
   ·cases hk;exact .inr hg
   ·exact .inl (.inr (.inr (.inl hk)))
   ·exact .inl (.inr (.inr (.inr hk)))
 have h3:Hid (r.mds.length=0→r.wks.length=0→r.fq=3→r.ms.length=0→∀(g g':Nat) (e:π) (W':κ),w.heap.size≤g→w.heap.size≤g'→af W' g [V Z (ae.ar s)] 3→af W' g' [V Z (ae.ofM s)] 3→e= δ (aY r.fq r.iv r.ct r.un (ζ (some ⟨g',0,none⟩) 1 1) (ζ (some ⟨g,0,none⟩) 1 1) wk pl r.ws tx)→Below w.heap.size w W'→I0 w r s tx m md wk pl e W'):=ad fun h h' hq hn g g' e W' hg uV ax P0 he hb=>
  fin (ζ (some ⟨g',0,none⟩) 1 1) (ζ (some ⟨g,0,none⟩) 1 1) wk {r with mds:=[ae.ar s],ms:=[ae.ofM s]} e W' (by
   unfold aJ;rw[if_neg (by omega),if_neg (by omega),if_neg (by omega),if_pos hq,if_pos hn]) he ⟨.inr ⟨g',rfl,P0⟩, .inr ⟨g,rfl,ax⟩,hl.wks.on hb,hl.pls.on hb⟩ hb fun k hk=>by
   rcases hk with hk|hk|hk|hk
   ·cases hk;exact .inr uV
   ·cases hk;exact .inr hg
   ·exact .inl (.inr (.inr (.inl hk)))
   ·exact .inl (.inr (.inr (.inr hk)))
 clear fin hl ho;generalize I0 w r s tx m md wk pl=Q at *
 generalize r.ms.length=n1 at *
 generalize r.mds.length=n2 at *
 generalize r.wks.length=n3 at *
 generalize r.pls.length=n4 at *
 generalize r.fq=fq at *
 generalize r.iv=iv at *
 generalize r.ct=ct at *
 generalize r.un=un at *
 generalize r.ws=ws at *
 subst e1 e2 e3 e4;unfold aO cS aY at *
 have hk7:0≤(s+719470)%7∧(s+719470)%7≤6:=by omega
 generalize(s+719470)%7=wd at *
 have r0:=qs w [V Z fq, V Z iv, V Z ct, V Z un, ζ a1 n1 n1, ζ a2 n2 n2, ζ a3 n3 n3, ζ a4 n4 n4, V Z ws, η tx] 76 (θ #[V Z (ae.ag s), V Z (ae.ofM s), V Z (ae.ar s)] 106) (θ #[V Z 0, V Z 0, V Z 0, V Z 0, ζ none 0 0, ζ none 0 0, ζ none 0 0, ζ none 0 0, V Z 0, η ⟨#[]⟩] 76);have r1:=qt w (θ #[V Z fq, V Z iv, V Z ct, V Z un, ζ a1 n1 n1, ζ a2 n2 n2, ζ a3 n3 n3, ζ a4 n4 n4, V Z ws, η tx] 76) [V Z (ae.ag s), V Z (ae.ofM s), V Z (ae.ar s)] 106 (θ #[V Z 0, V Z 0, V Z 0, V Z 0, ζ none 0 0, ζ none 0 0, ζ none 0 0, ζ none 0 0, V Z 0, η ⟨#[]⟩] 76);have r2:=qu w (θ #[V Z fq, V Z iv, V Z ct, V Z un, ζ a1 n1 n1, ζ a2 n2 n2, ζ a3 n3 n3, ζ a4 n4 n4, V Z ws, η tx] 76) (θ #[V Z (ae.ag s), V Z (ae.ofM s), V Z (ae.ar s)] 106) [V Z 0, V Z 0, V Z 0, V Z 0, ζ none 0 0, ζ none 0 0, ζ none 0 0, ζ none 0 0, V Z 0, η ⟨#[]⟩] 76;have ah:=mi w (θ #[V Z fq, V Z iv, V Z ct, V Z un, ζ a1 n1 n1, ζ a2 n2 n2, ζ a3 n3 n3, ζ a4 n4 n4, V Z ws, η tx] 76) (θ #[V Z (ae.ag s), V Z (ae.ofM s), V Z (ae.ar s)] 106) (θ #[V Z 0, V Z 0, V Z 0, V Z 0, ζ none 0 0, ζ none 0 0, ζ none 0 0, ζ none 0 0, V Z 0, η ⟨#[]⟩] 76);have bu:(((w.alloc (θ #[V Z fq, V Z iv, V Z ct, V Z un, ζ a1 n1 n1, ζ a2 n2 n2, ζ a3 n3 n3, ζ a4 n4 n4, V Z ws, η tx] 76)).alloc (θ #[V Z (ae.ag s), V Z (ae.ofM s), V Z (ae.ar s)] 106)).alloc (θ #[V Z 0, V Z 0, V Z 0, V Z 0, ζ none 0 0, ζ none 0 0, ζ none 0 0, ζ none 0 0, V Z 0, η ⟨#[]⟩] 76)).heap.size≥w.heap.size+3:=by simp
 go_enter func314,ntmps314;go_upto_region 1 with fail;generalize((w.alloc (θ #[V Z fq, V Z iv, V Z ct, V Z un, ζ a1 n1 n1, ζ a2 n2 n2, ζ a3 n3 n3, ζ a4 n4 n4, V Z ws, η tx] 76)).alloc (θ #[V Z (ae.ag s), V Z (ae.ofM s), V Z (ae.ar s)] 106)).alloc (θ #[V Z 0, V Z 0, V Z 0, V Z 0, ζ none 0 0, ζ none 0 0, ζ none 0 0, ζ none 0 0, V Z 0, η ⟨#[]⟩] 76)=W at *
 by_cases N6:0<n2
 ·have S2:=ad (hA.out (.inl N6));clear hA h1 h2 h3 hD;have alw:(0:Int)<n2:=by omega
  have qx:=r0;have bQ:=r2;have pn:=ah;clear r0 r1 r2;obtain⟨g0,g1,g2,g3,g4,g5,g6,g7,g8,g9⟩:=ca qx;obtain⟨z0,z1,z2,z3,z4,z5,z6,z7,z8,z9⟩:=ca bQ;have y0:=bQ.free (k:=0);have y1:=bQ.free (k:=1);have y2:=bQ.free (k:=2);have y3:=bQ.free (k:=3);have y4:=bQ.free (k:=4);have y5:=bQ.free (k:=5);have y6:=bQ.free (k:=6);have y7:=bQ.free (k:=7);have y8:=bQ.free (k:=8);have y9:=bQ.free (k:=9);go_wp2_with fail;exact bodyPost_ret (v:= .agg #[V Z fq, V Z iv, V Z ct, V Z un, ζ a1 n1 n1, ζ a2 n2 n2, ζ a3 n3 n3, ζ a4 n4 n4, V Z ws, η tx]) (by simp[results,results314,go_sem,z0,z1,z2,z3,z4,z5,z6,z7,z8,z9]) rfl (S2.out _ _ rfl ((((((((((pn.setCell (by simp;omega) _).setCell (by simp;omega) _).setCell (by simp;omega) _).setCell (by simp;omega) _).setCell (by simp;omega) _).setCell (by simp;omega) _).setCell (by simp;omega) _).setCell (by simp;omega) _).setCell (by simp;omega) _).setCell (by simp;omega) _))
 ·obtain rfl:n2=0:=by omega
  clear N6;by_cases Lw:0<n3
  ·have S2:=ad (hA.out (.inr (.inl Lw)));clear hA h1 h2 h3 hD;have alx:(0:Int)<n3:=by omega
   have qx:=r0;have bQ:=r2;have pn:=ah;clear r0 r1 r2;obtain⟨g0,g1,g2,g3,g4,g5,g6,g7,g8,g9⟩:=ca qx;obtain⟨z0,z1,z2,z3,z4,z5,z6,z7,z8,z9⟩:=ca bQ;have y0:=bQ.free (k:=0);have y1:=bQ.free (k:=1);have y2:=bQ.free (k:=2);have y3:=bQ.free (k:=3);have y4:=bQ.free (k:=4);have y5:=bQ.free (k:=5);have y6:=bQ.free (k:=6);have y7:=bQ.free (k:=7);have y8:=bQ.free (k:=8);have y9:=bQ.free (k:=9);go_wp2_with fail;exact bodyPost_ret (v:= .agg #[V Z fq, V Z iv, V Z ct, V Z un, ζ a1 n1 n1, ζ a2 0 0, ζ a3 n3 n3, ζ a4 n4 n4, V Z ws, η tx]) (by simp[results,results314,go_sem,z0,z1,z2,z3,z4,z5,z6,z7,z8,z9]) rfl (S2.out _ _ rfl ((((((((((pn.setCell (by simp;omega) _).setCell (by simp;omega) _).setCell (by simp;omega) _).setCell (by simp;omega) _).setCell (by simp;omega) _).setCell (by simp;omega) _).setCell (by simp;omega) _).setCell (by simp;omega) _).setCell (by simp;omega) _).setCell (by simp;omega) _))
  ·obtain rfl:n3=0:=by omega
   clear Lw;rcases(by omega:fq=0∨fq=1∨fq=2∨fq=3)with rfl|rfl|rfl|rfl
   ·have S2:=ad (hA.out (.inr (.inr rfl)));clear hA h1 h2 h3 hD;have qx:=r0;have bQ:=r2;have pn:=ah;clear r0 r1 r2;obtain⟨g0,g1,g2,g3,g4,g5,g6,g7,g8,g9⟩:=ca qx;obtain⟨z0,z1,z2,z3,z4,z5,z6,z7,z8,z9⟩:=ca bQ;have y0:=bQ.free (k:=0);have y1:=bQ.free (k:=1);have y2:=bQ.free (k:=2);have y3:=bQ.free (k:=3);have y4:=bQ.free (k:=4);have y5:=bQ.free (k:=5);have y6:=bQ.free (k:=6);have y7:=bQ.free (k:=7);have y8:=bQ.free (k:=8);have y9:=bQ.free (k:=9);go_wp2_with fail;exact bodyPost_ret (v:= .agg #[V Z 0, V Z iv, V Z ct, V Z un, ζ a1 n1 n1, ζ a2 0 0, ζ a3 0 0, ζ a4 n4 n4, V Z ws, η tx]) (by simp[results,results314,go_sem,z0,z1,z2,z3,z4,z5,z6,z7,z8,z9]) rfl (S2.out _ _ rfl ((((((((((pn.setCell (by simp;omega) _).setCell (by simp;omega) _).setCell (by simp;omega) _).setCell (by simp;omega) _).setCell (by simp;omega) _).setCell (by simp;omega) _).setCell (by simp;omega) _).setCell (by simp;omega) _).setCell (by simp;omega) _).setCell (by simp;omega) _))
   ·have zc:=ad (h1.out rfl rfl rfl);clear hA h1 h2 h3;obtain⟨g0,g1,g2,g3,g4,g5,g6,g7,g8,g9⟩:=ca r0;obtain⟨c0,c1,c2,_,_,_⟩:=bV r1;go_wp2_with fail;refine(hD.out _).mono ?_;rintro e w3 ⟨rfl,bw⟩;replace r0:=r0.on bw;replace r2:=r2.on bw;replace ah:=ah.trans (bw.mono ah.size);replace bu:w.heap.size+3≤w3.heap.size:=by have:=bw.size;omega
    clear bw g0 g1 g2 g3 g4 g5 g6 g7 g8 g9 c0 c1 c2 r1;have cj:Below w3.heap.size w3 (w3.alloc (θ #[V Z 0, V Z wd] 183)):=(μ _ _).alloc (ι _) _;have rN:af (w3.alloc (θ #[V Z 0, V Z wd] 183)) w3.heap.size [V Z 0, V Z wd] 183:=af.new w3 [V Z 0, V Z wd] 183;replace r0:=r0.on cj;replace r2:=r2.on cj;replace ah:=ah.trans (cj.mono ah.size);have c6:=r0.cell (k:=6) rfl;have f6:=r0.free (k:=6);go_upto_region 12 with fail;clear c6 f6;have qx:af ((w3.alloc (θ #[V Z 0, V Z wd] 183)).setCell ⟨w.heap.size,6,none⟩ (ζ (some ⟨w3.heap.size,0,none⟩) 1 1)) w.heap.size [V Z 1, V Z iv, V Z ct, V Z un, ζ a1 n1 n1, ζ a2 0 0, ζ (some ⟨w3.heap.size,0,none⟩) 1 1, ζ a4 n4 n4, V Z ws, η tx] 76:=r0.set (k:=6) _;have bQ:=r2.other (b:=w.heap.size) (k:=6) (by omega) (ζ (some ⟨w3.heap.size,0,none⟩) 1 1);have Cw:=rN.other (b:=w.heap.size) (k:=6) (by omega) (ζ (some ⟨w3.heap.size,0,none⟩) 1 1);have pn:=ah.setCell (p:=⟨w.heap.size,6,none⟩) (ι _) (ζ (some ⟨w3.heap.size,0,none⟩) 1 1);generalize(w3.alloc (θ #[V Z 0, V Z wd] 183)).setCell ⟨w.heap.size,6,none⟩ (ζ (some ⟨w3.heap.size,0,none⟩) 1 1)=WZ at *
    clear r0 r2 rN ah cj;obtain⟨g0,g1,g2,g3,g4,g5,g6,g7,g8,g9⟩:=ca qx;obtain⟨z0,z1,z2,z3,z4,z5,z6,z7,z8,z9⟩:=ca bQ;have y0:=bQ.free (k:=0);have y1:=bQ.free (k:=1);have y2:=bQ.free (k:=2);have y3:=bQ.free (k:=3);have y4:=bQ.free (k:=4);have y5:=bQ.free (k:=5);have y6:=bQ.free (k:=6);have y7:=bQ.free (k:=7);have y8:=bQ.free (k:=8);have y9:=bQ.free (k:=9);go_wp2_with fail;exact bodyPost_ret (v:= .agg #[V Z 1, V Z iv, V Z ct, V Z un, ζ a1 n1 n1, ζ a2 0 0, ζ (some ⟨w3.heap.size,0,none⟩) 1 1, ζ a4 n4 n4, V Z ws, η tx]) (by simp[results,results314,go_sem,z0,z1,z2,z3,z4,z5,z6,z7,z8,z9]) rfl (zc.out _ _ _ (by omega) ((((((((((Cw.other (by omega) _).other (by omega) _).other (by omega) _).other (by omega) _).other (by omega) _).other (by omega) _).other (by omega) _).other (by omega) _).other (by omega) _).other (by omega) _) rfl ((((((((((pn.setCell (by simp;omega) _).setCell (by simp;omega) _).setCell (by simp;omega) _).setCell (by simp;omega) _).setCell (by simp;omega) _).setCell (by simp;omega) _).setCell (by simp;omega) _).setCell (by simp;omega) _).setCell (by simp;omega) _).setCell (by simp;omega) _))
   ·have B4:=ad (h2.out rfl rfl (.inl rfl));clear hA h1 h2 h3 hD;obtain⟨g0,g1,g2,g3,g4,g5,g6,g7,g8,g9⟩:=ca r0;obtain⟨c0,c1,c2,_,_,_⟩:=bV r1;have cj:Below W.heap.size W (W.alloc (θ #[V Z (ae.ar s)] 3)):=(μ _ _).alloc (ι _) _;have rN:af (W.alloc (θ #[V Z (ae.ar s)] 3)) W.heap.size [V Z (ae.ar s)] 3:=af.new W [V Z (ae.ar s)] 3;have uW:=r0.on cj;have I1:=r1.on cj;have I2:=r2.on cj;replace ah:=ah.trans (cj.mono ah.size);have c6:=uW.cell (k:=5) rfl;have f6:=uW.free (k:=5);go_upto_region 12 with fail;clear c6 f6 g0 g1 g2 g3 g4 g5 g6 g7 g8 g9 c0 c1 c2 r0 r1 r2;have qx:af ((W.alloc (θ #[V Z (ae.ar s)] 3)).setCell ⟨w.heap.size,5,none⟩ (ζ (some ⟨W.heap.size,0,none⟩) 1 1)) w.heap.size [V Z 2, V Z iv, V Z ct, V Z un, ζ a1 n1 n1, ζ (some ⟨W.heap.size,0,none⟩) 1 1, ζ a3 0 0, ζ a4 n4 n4, V Z ws, η tx] 76:=uW.set (k:=5) _;have YC:=I1.other (b:=w.heap.size) (k:=5) (by omega) (ζ (some ⟨W.heap.size,0,none⟩) 1 1);have bQ:=I2.other (b:=w.heap.size) (k:=5) (by omega) (ζ (some ⟨W.heap.size,0,none⟩) 1 1);have Cw:=rN.other (b:=w.heap.size) (k:=5) (by omega) (ζ (some ⟨W.heap.size,0,none⟩) 1 1);have pn:=ah.setCell (p:=⟨w.heap.size,5,none⟩) (ι _) (ζ (some ⟨W.heap.size,0,none⟩) 1 1);have ac0:W.heap.size<((W.alloc (θ #[V Z (ae.ar s)] 3)).setCell ⟨w.heap.size,5,none⟩ (ζ (some ⟨W.heap.size,0,none⟩) 1 1)).heap.size:=by rw[ν];simp
    generalize(W.alloc (θ #[V Z (ae.ar s)] 3)).setCell ⟨w.heap.size,5,none⟩ (ζ (some ⟨W.heap.size,0,none⟩) 1 1)=WZ at *
    clear uW I1 I2 rN ah cj;obtain⟨g0,g1,g2,g3,g4,g5,g6,g7,g8,g9⟩:=ca qx;obtain⟨z0,z1,z2,z3,z4,z5,z6,z7,z8,z9⟩:=ca bQ;have y0:=bQ.free (k:=0);have y1:=bQ.free (k:=1);have y2:=bQ.free (k:=2);have y3:=bQ.free (k:=3);have y4:=bQ.free (k:=4);have y5:=bQ.free (k:=5);have y6:=bQ.free (k:=6);have y7:=bQ.free (k:=7);have y8:=bQ.free (k:=8);have y9:=bQ.free (k:=9);go_wp2_with fail;exact bodyPost_ret (v:= .agg #[V Z 2, V Z iv, V Z ct, V Z un, ζ a1 n1 n1, ζ (some ⟨W.heap.size,0,none⟩) 1 1, ζ a3 0 0, ζ a4 n4 n4, V Z ws, η tx]) (by simp[results,results314,go_sem,z0,z1,z2,z3,z4,z5,z6,z7,z8,z9]) rfl (B4.out _ _ _ (by omega) ((((((((((Cw.other (by omega) _).other (by omega) _).other (by omega) _).other (by omega) _).other (by omega) _).other (by omega) _).other (by omega) _).other (by omega) _).other (by omega) _).other (by omega) _) rfl ((((((((((pn.setCell (by simp;omega) _).setCell (by simp;omega) _).setCell (by simp;omega) _).setCell (by simp;omega) _).setCell (by simp;omega) _).setCell (by simp;omega) _).setCell (by simp;omega) _).setCell (by simp;omega) _).setCell (by simp;omega) _).setCell (by simp;omega) _))
   ·by_cases S3:n1=0
    case neg=>
     have B4:=ad (h2.out rfl rfl (.inr ⟨rfl,S3⟩));clear hA h1 h2 h3 hD;have aly:((n1:Int)==0)=false:=by simpa using S3
     obtain⟨g0,g1,g2,g3,g4,g5,g6,g7,g8,g9⟩:=ca r0;obtain⟨c0,c1,c2,_,_,_⟩:=bV r1;have cj:Below W.heap.size W (W.alloc (θ #[V Z (ae.ar s)] 3)):=(μ _ _).alloc (ι _) _;have rN:af (W.alloc (θ #[V Z (ae.ar s)] 3)) W.heap.size [V Z (ae.ar s)] 3:=af.new W [V Z (ae.ar s)] 3;have uW:=r0.on cj;have I1:=r1.on cj;have I2:=r2.on cj;replace ah:=ah.trans (cj.mono ah.size);have c6:=uW.cell (k:=5) rfl;have f6:=uW.free (k:=5);go_upto_region 10 with fail;clear c6 f6 g0 g1 g2 g3 g4 g5 g6 g7 g8 g9 c0 c1 c2 r0 r1 r2;have qx:af ((W.alloc (θ #[V Z (ae.ar s)] 3)).setCell ⟨w.heap.size,5,none⟩ (ζ (some ⟨W.heap.size,0,none⟩) 1 1)) w.heap.size [V Z 3, V Z iv, V Z ct, V Z un, ζ a1 n1 n1, ζ (some ⟨W.heap.size,0,none⟩) 1 1, ζ a3 0 0, ζ a4 n4 n4, V Z ws, η tx] 76:=uW.set (k:=5) _;have YC:=I1.other (b:=w.heap.size) (k:=5) (by omega) (ζ (some ⟨W.heap.size,0,none⟩) 1 1);have bQ:=I2.other (b:=w.heap.size) (k:=5) (by omega) (ζ (some ⟨W.heap.size,0,none⟩) 1 1);have Cw:=rN.other (b:=w.heap.size) (k:=5) (by omega) (ζ (some ⟨W.heap.size,0,none⟩) 1 1);have pn:=ah.setCell (p:=⟨w.heap.size,5,none⟩) (ι _) (ζ (some ⟨W.heap.size,0,none⟩) 1 1);have ac0:W.heap.size<((W.alloc (θ #[V Z (ae.ar s)] 3)).setCell ⟨w.heap.size,5,none⟩ (ζ (some ⟨W.heap.size,0,none⟩) 1 1)).heap.size:=by rw[ν];simp
     generalize(W.alloc (θ #[V Z (ae.ar s)] 3)).setCell ⟨w.heap.size,5,none⟩ (ζ (some ⟨W.heap.size,0,none⟩) 1 1)=WZ at *
     clear uW I1 I2 rN ah cj;obtain⟨g0,g1,g2,g3,g4,g5,g6,g7,g8,g9⟩:=ca qx;obtain⟨z0,z1,z2,z3,z4,z5,z6,z7,z8,z9⟩:=ca bQ;have y0:=bQ.free (k:=0);have y1:=bQ.free (k:=1);have y2:=bQ.free (k:=2);have y3:=bQ.free (k:=3);have y4:=bQ.free (k:=4);have y5:=bQ.free (k:=5);have y6:=bQ.free (k:=6);have y7:=bQ.free (k:=7);have y8:=bQ.free (k:=8);have y9:=bQ.free (k:=9);go_wp2_with fail;exact bodyPost_ret (v:= .agg #[V Z 3, V Z iv, V Z ct, V Z un, ζ a1 n1 n1, ζ (some ⟨W.heap.size,0,none⟩) 1 1, ζ a3 0 0, ζ a4 n4 n4, V Z ws, η tx]) (by simp[results,results314,go_sem,z0,z1,z2,z3,z4,z5,z6,z7,z8,z9]) rfl (B4.out _ _ _ (by omega) ((((((((((Cw.other (by omega) _).other (by omega) _).other (by omega) _).other (by omega) _).other (by omega) _).other (by omega) _).other (by omega) _).other (by omega) _).other (by omega) _).other (by omega) _) rfl ((((((((((pn.setCell (by simp;omega) _).setCell (by simp;omega) _).setCell (by simp;omega) _).setCell (by simp;omega) _).setCell (by simp;omega) _).setCell (by simp;omega) _).setCell (by simp;omega) _).setCell (by simp;omega) _).setCell (by simp;omega) _).setCell (by simp;omega) _))
    case pos=>
     have h3':=ad (h3.out rfl rfl rfl S3);clear hA h1 h2 h3 hD;subst S3;obtain⟨g0,g1,g2,g3,g4,g5,g6,g7,g8,g9⟩:=ca r0;obtain⟨c0,c1,c2,_,_,_⟩:=bV r1;have cj:Below W.heap.size W (W.alloc (θ #[V Z (ae.ar s)] 3)):=(μ _ _).alloc (ι _) _;have rN:af (W.alloc (θ #[V Z (ae.ar s)] 3)) W.heap.size [V Z (ae.ar s)] 3:=af.new W [V Z (ae.ar s)] 3;have uW:=r0.on cj;have I1:=r1.on cj;have I2:=r2.on cj;replace ah:=ah.trans (cj.mono ah.size);have c6:=uW.cell (k:=5) rfl;have f6:=uW.free (k:=5);go_upto_region 10 with fail;clear c6 f6 g0 g1 g2 g3 g4 g5 g6 g7 g8 g9 c0 c1 c2 r0 r1 r2;have qx:af ((W.alloc (θ #[V Z (ae.ar s)] 3)).setCell ⟨w.heap.size,5,none⟩ (ζ (some ⟨W.heap.size,0,none⟩) 1 1)) w.heap.size [V Z 3, V Z iv, V Z ct, V Z un, ζ a1 0 0, ζ (some ⟨W.heap.size,0,none⟩) 1 1, ζ a3 0 0, ζ a4 n4 n4, V Z ws, η tx] 76:=uW.set (k:=5) _;have YC:=I1.other (b:=w.heap.size) (k:=5) (by omega) (ζ (some ⟨W.heap.size,0,none⟩) 1 1);have bQ:=I2.other (b:=w.heap.size) (k:=5) (by omega) (ζ (some ⟨W.heap.size,0,none⟩) 1 1);have Cw:=rN.other (b:=w.heap.size) (k:=5) (by omega) (ζ (some ⟨W.heap.size,0,none⟩) 1 1);have pn:=ah.setCell (p:=⟨w.heap.size,5,none⟩) (ι _) (ζ (some ⟨W.heap.size,0,none⟩) 1 1);have ac0:W.heap.size<((W.alloc (θ #[V Z (ae.ar s)] 3)).setCell ⟨w.heap.size,5,none⟩ (ζ (some ⟨W.heap.size,0,none⟩) 1 1)).heap.size:=by rw[ν];simp
     generalize(W.alloc (θ #[V Z (ae.ar s)] 3)).setCell ⟨w.heap.size,5,none⟩ (ζ (some ⟨W.heap.size,0,none⟩) 1 1)=WZ at *
     clear uW I1 I2 rN ah cj;have I3:Below WZ.heap.size WZ (WZ.alloc (θ #[V Z (ae.ofM s)] 3)):=(μ _ _).alloc (ι _) _;have rM:af (WZ.alloc (θ #[V Z (ae.ofM s)] 3)) WZ.heap.size [V Z (ae.ofM s)] 3:=af.new WZ [V Z (ae.ofM s)] 3;obtain⟨g0,g1,g2,g3,g4,g5,g6,g7,g8,g9⟩:=ca qx;obtain⟨c0,c1,c2,_,_,_⟩:=bV YC;have YE:=qx.on I3;have r2b:=bQ.on I3;have rNb:=Cw.on I3;have c6:=YE.cell (k:=4) rfl;have f6:=YE.free (k:=4);replace pn:=pn.trans (I3.mono pn.size);go_upto_region 12 with fail;clear c6 f6 g0 g1 g2 g3 g4 g5 g6 g7 g8 g9 c0 c1 c2 qx YC bQ Cw;have qx:af ((WZ.alloc (θ #[V Z (ae.ofM s)] 3)).setCell ⟨w.heap.size,4,none⟩ (ζ (some ⟨WZ.heap.size,0,none⟩) 1 1)) w.heap.size [V Z 3, V Z iv, V Z ct, V Z un, ζ (some ⟨WZ.heap.size,0,none⟩) 1 1, ζ (some ⟨W.heap.size,0,none⟩) 1 1, ζ a3 0 0, ζ a4 n4 n4, V Z ws, η tx] 76:=YE.set (k:=4) _;have bQ:=r2b.other (b:=w.heap.size) (k:=4) (by omega) (ζ (some ⟨WZ.heap.size,0,none⟩) 1 1);have Cw:=rNb.other (b:=w.heap.size) (k:=4) (by omega) (ζ (some ⟨WZ.heap.size,0,none⟩) 1 1);have rZM:=rM.other (b:=w.heap.size) (k:=4) (by omega) (ζ (some ⟨WZ.heap.size,0,none⟩) 1 1);replace pn:=pn.setCell (p:=⟨w.heap.size,4,none⟩) (ι _) (ζ (some ⟨WZ.heap.size,0,none⟩) 1 1);generalize(WZ.alloc (θ #[V Z (ae.ofM s)] 3)).setCell ⟨w.heap.size,4,none⟩ (ζ (some ⟨WZ.heap.size,0,none⟩) 1 1)=WY at *
     clear YE r2b rNb rM I3;obtain⟨g0,g1,g2,g3,g4,g5,g6,g7,g8,g9⟩:=ca qx;obtain⟨z0,z1,z2,z3,z4,z5,z6,z7,z8,z9⟩:=ca bQ;have y0:=bQ.free (k:=0);have y1:=bQ.free (k:=1);have y2:=bQ.free (k:=2);have y3:=bQ.free (k:=3);have y4:=bQ.free (k:=4);have y5:=bQ.free (k:=5);have y6:=bQ.free (k:=6);have y7:=bQ.free (k:=7);have y8:=bQ.free (k:=8);have y9:=bQ.free (k:=9);go_wp2_with fail;exact bodyPost_ret (v:= .agg #[V Z 3, V Z iv, V Z ct, V Z un, ζ (some ⟨WZ.heap.size,0,none⟩) 1 1, ζ (some ⟨W.heap.size,0,none⟩) 1 1, ζ a3 0 0, ζ a4 n4 n4, V Z ws, η tx]) (by simp[results,results314,go_sem,z0,z1,z2,z3,z4,z5,z6,z7,z8,z9]) rfl (h3'.out _ _ _ _ (by omega) (by omega) ((((((((((Cw.other (by omega) _).other (by omega) _).other (by omega) _).other (by omega) _).other (by omega) _).other (by omega) _).other (by omega) _).other (by omega) _).other (by omega) _).other (by omega) _) ((((((((((rZM.other (by omega) _).other (by omega) _).other (by omega) _).other (by omega) _).other (by omega) _).other (by omega) _).other (by omega) _).other (by omega) _).other (by omega) _).other (by omega) _) rfl ((((((((((pn.setCell (by simp;omega) _).setCell (by simp;omega) _).setCell (by simp;omega) _).setCell (by simp;omega) _).setCell (by simp;omega) _).setCell (by simp;omega) _).setCell (by simp;omega) _).setCell (by simp;omega) _).setCell (by simp;omega) _).setCell (by simp;omega) _))
attribute [local go_sem] Oper.semAt_some
theorem LK (pls:List Int)(len:Int):∀(i:Int) (l:List Int),(ko pls len i l).length≤l.length
 |_,[]=>ι _
 |i,d::l=>by
  rw[ko,List.length_append,List.length_cons];have:=LK pls len (i+1) l;split<;>simp<;>omega
theorem Cx (r:au)(a:Int)(n:Nat):(dh r a n).length≤n:=by
 unfold dh;have:=DN r a n;split
 ·exact this
 ·exact ξ (LK _ _ _ _) this
theorem jt (f:FuncId):Fence.wide.fn f=True:=by simp[Fence.wide]
theorem fy:(Fence.wide.depth=none)=True:=by simp[Fence.wide]
attribute [local go_sem] jt fy
attribute [local simp] jt fy
structure St (O:aB)(W:κ)(J:bI)(D:aB)(wr:κ):Prop where
 aQ:aK O W wr
 dO:∀k,D k→O k∨W.heap.size≤k
 Od:∀k,O k→D k
 on:On D J wr
theorem St.below {O:aB}{W:κ}{J:bI}{D:aB}{wr w':κ}(h:St O W J D wr)(hb:Below wr.heap.size wr w'):St O W J D w':=⟨h.aQ.fY (aK.bG hb),h.dO,h.Od,h.on.below hb⟩
theorem St.alloc {O:aB}{W:κ}{J:bI}{D:aB}{wr:κ}(h:St O W J D wr)(o:Obj):St O W J D (wr.alloc o):=h.below ((μ _ _).alloc (ι _) _)
theorem St.post {O:aB}{W:κ}{J J':bI}{D:aB}{wr w':κ}(h:St O W J D wr)(hp:bR D wr.heap.size J' wr w'):∃D',St O W J' D' w'∧(∀k,D' k→D k∨wr.heap.size≤k)∧aK D wr w':=by
 obtain⟨hx,D',d1,d2,d3⟩:=hp;exact⟨D',⟨h.aQ.trans hx (fun j hj=>h.dO j hj),fun k hk=>(d1 k hk).elim (h.dO k) (fun hh=> .inr (ξ h.aQ.size hh)),fun k hk=>d2 k (h.Od k hk),d3⟩,d1,hx⟩
theorem St.fin {O:aB}{W:κ}{J:bI}{D:aB}{wr:κ}(h:St O W J D wr):bR O W.heap.size J W wr:=⟨h.aQ,D,h.dO,h.Od,h.on⟩
theorem St.lt {O:aB}{W:κ}{J:bI}{D:aB}{wr:κ}(h:St O W J D wr){k:Nat}(hk:D k):k<wr.heap.size:=h.on.1 k hk
theorem S4 (r:au)(m md wk pl:Value)(tx:ByteArray)(s f last:Int)(bs br bf bl:Nat)(w:κ)(hl:eh w r m md wk pl)(ho:cX r)(s0:0≤s)(s1:s≤7258118400)(f0:-1000000000000≤f)(f1:f≤7258118400)
 (l0:-1000000000000≤last)(l1:last≤7258118400)(q1:af w bs [V Z s] 3)(q2:af w br (bW r.fq r.iv r.ct r.un m md wk pl r.ws tx) 76)(q3:af w bf [V Z f] 3)(q4:af w bl [V Z last] 3):
 oP prog 340 #[ε (some ⟨bs,0,none⟩), ε (some ⟨br,0,none⟩), ε (some ⟨bf,0,none⟩), ε (some ⟨bl,0,none⟩)] (tg (kq r s f last)) (fun k=>k=bs∨k=br∨k=bf∨k=bl∨LB m md wk pl k) w:=by
 intro l W O J Js Jp bu hR hO eQ hY;have ie:=hl.keep fun k hk=>hR k (.inr (.inr (.inr (.inr hk))));replace q1:=q1.keep (hR bs (.inl rfl));replace q2:=q2.keep (hR br (.inr (.inl rfl)));replace q3:=q3.keep (hR bf (.inr (.inr (.inl rfl))));replace q4:=q4.keep (hR bl (.inr (.inr (.inr (.inl rfl)))));have I4:¬O bs:=fun h=>hO bs h (.inl rfl);have O9:¬O br:=fun h=>hO br h (.inr (.inl rfl));have nO3:¬O bf:=fun h=>hO bf h (.inr (.inr (.inl rfl)));have nO4:¬O bl:=fun h=>hO bl h (.inr (.inr (.inr (.inl rfl))));have Ia:Hid (∀wr,aK O W wr→eh wr r m md wk pl):=ad fun wr hx=>ie.keep fun k hk=>hx.block k (ie.jG hk) fun h=>hO k h (.inr (.inr (.inr (.inr hk))));have S5:Hid (∀wr,ο prog 66 #[V Z s] wr fun e w'=>e= δ (aO (s/86400))∧Below wr.heap.size wr w'):=ad fun wr=>pF s wr s0 s1;have hFD:Hid (∀wr,aK O W wr→ο prog 341 #[aY r.fq r.iv r.ct r.un m md wk pl r.ws tx, V Z s, V Z f] wr fun e w'=>e= δ (V Z (iz r s f))∧Below wr.heap.size wr w'):=
  ad fun wr hx=>Ff r m md wk pl tx s f wr (Ia.out wr hx) ho s0 s1 f0 f1
 have hPR:Hid (∀k wr,aK O W wr→0≤k→k≤dW r→ο prog 342 #[aY r.fq r.iv r.ct r.un m md wk pl r.ws tx,aO (s/86400), V Z k] wr fun e w'=>e= δ (dt (aE r (s/86400) k) (gq r (s/86400) k))∧Below wr.heap.size wr w'):=
  ad fun k wr hx k0 k1=>VP r m md wk pl tx (s/86400) k wr (Ia.out wr hx) ho (by omega) (by omega) k0 k1
 have jg:=ad fun k k0 k1=>SY r (s/86400) k (by omega) (by omega) k0 k1;have hBG:Hid (∀k wr,0≤k→k≤dW r→ο prog 64 #[aO (aE r (s/86400) k)] wr fun e w'=>e= δ (V Z (aE r (s/86400) k * 86400))∧Below wr.heap.size wr w'):=
  ad fun k wr k0 k1=>Gv _ wr (by have:=jg.out k k0 k1;omega) (by have:=jg.out k k0 k1;omega)
 have hCH:Hid (∀k wr,aK O W wr→0≤k→k≤dW r→ο prog 343 #[aY r.fq r.iv r.ct r.un m md wk pl r.ws tx,dt (aE r (s/86400) k) (gq r (s/86400) k)] wr fun e w'=>∃v,e= δ v∧w'.ownsRow wr.heap.size 106 3 v (dh r (aE r (s/86400) k) (ed r (s/86400) k)).length (jd (dh r (aE r (s/86400) k) (ed r (s/86400) k)))∧Below wr.heap.size wr w'):=
  ad fun k wr hx k0 k1=>by
   have hb:=jg.out k k0 k1;have e:aE r (s/86400) k+(ed r (s/86400) k:Nat)=gq r (s/86400) k:=by unfold ed;omega
   have:=VV r m md wk pl tx (aE r (s/86400) k) (ed r (s/86400) k) wr (Ia.out wr hx) ho (by omega) (by omega) (by unfold ed;omega);rwa [e]at this
 have zQ:=IY r ho s f s0 s1 f1;have hkm:dW r≤200000:=by unfold dW;split<;>(try split)<;>(try split)<;>omega
 have EU:=ho.Cs;have Om:=ho.Yp;obtain⟨a1,e1⟩:=ie.ms.form;obtain⟨a2,e2⟩:=ie.mds.form;obtain⟨a3,e3⟩:=ie.wks.form;obtain⟨a4,e4⟩:=ie.pls.form;have YF:Hid (kq r s f last=qw r (s/86400) last (dW r).toNat (iz r s f)):=ad rfl;clear hR hO ie hl ho Ia bu;generalize r.ms.length=n1 at *
 generalize r.mds.length=n2 at *
 generalize r.wks.length=n3 at *
 generalize r.pls.length=n4 at *
 subst e1 e2 e3 e4;unfold aY bW at *
 have AI:St O W (J 0) O W:=⟨aK.refl _ _,fun _ h=> .inl h,fun _ h=>h,eQ⟩;have xE:=ad (fun(i:Nat) (d:Int) (h:(kq r s f last)[i]?=some d)=>hY i _ (pK h));clear hY eQ;rw[kV];generalize kq r s f last=XS at *
 have zB:0≤s/86400∧s/86400≤84006:=by omega
 generalize s/86400=sd at *
 unfold aO cS dt at *
 refine callsIn_of_wp func340 rfl trivial ?_ rfl;simp only[ntmps340,List.size_toArray,List.length_cons,List.length_nil,Nat.reduceAdd,Nat.reduceSub,Array.replicate_succ,Array.replicate_zero,List.push_toArray,List.append_toArray,List.nil_append,List.cons_append];have c1:=q1.cell (k:=0) rfl;gi_wp2_with fail;refine((callsIn_wide.2 (S5.out _)).mono ?_);rintro e w1 ⟨rfl,ai⟩;clear c1 S5;replace AI:=AI.below ai;have jH:=AI.alloc (θ #[V Z (ae.ag sd), V Z (ae.ofM sd), V Z (ae.ar sd)] 106);have r6:af (w1.alloc (θ #[V Z (ae.ag sd), V Z (ae.ofM sd), V Z (ae.ar sd)] 106)) w1.heap.size [V Z (ae.ag sd), V Z (ae.ofM sd), V Z (ae.ar sd)] 106:=af.new w1 [V Z (ae.ag sd), V Z (ae.ofM sd), V Z (ae.ar sd)] 106;have h6O:¬O w1.heap.size:=fun h=>by have:=AI.lt h;omega
 have h6W:W.heap.size≤w1.heap.size:=AI.aQ.size;have g2:=ca (q2.aQ jH.aQ O9);have c1:=(q1.aQ jH.aQ I4).cell (k:=0) rfl;have c3:=(q3.aQ jH.aQ nO3).cell (k:=0) rfl;obtain⟨z0,z1,z2,z3,z4,z5,z6,z7,z8,z9⟩:=g2;gi_wp2_with fail;refine((callsIn_wide.2 (hFD.out _ jH.aQ)).mono ?_);rintro e w2 ⟨rfl,az⟩;replace jH:=jH.below az;replace r6:=r6.on az;clear c1 c3 z0 z1 z2 z3 z4 z5 z6 z7 z8 z9 hFD az ai AI;generalize w1.heap.size=b6 at *
 generalize iz r s f=k0 at *
 have Fi:prog.follows .mixedOrders=true:=by kernel_rfl
 gi_wp2_with fail;gi_loopg [7] (dW r).toNat (fun g kv wr=>∃(k:Int) (pre:List Int) (D:aB),kv= V Z k∧0≤k∧k≤dW r∧dW r≤k+g∧St O W (J pre.length) D wr∧¬D b6∧af wr b6 [V Z (ae.ag sd), V Z (ae.ofM sd), V Z (ae.ar sd)] 106∧Hid (XS=pre++qw r sd last g k))
 case atStart=>exact⟨k0,[],O,rfl,zQ.1,by omega,by omega,jH,h6O,r6,ad (by rw[YF.out];rfl)⟩
 case round=>
  clear YF jH h6O r6 zQ;obtain⟨k,pre,D,rfl,IP,jx,hkg,st,Pa,r6,HX⟩:=hrel;obtain⟨z0,z1,z2,z3,z4,z5,z6,z7,z8,z9⟩:=ca (q2.aQ st.aQ O9);obtain⟨c0,c1,c2,_,_,_⟩:=bV r6;gi_wp2_with fail;refine((callsIn_wide.2 (hPR.out k _ st.aQ IP jx)).mono ?_);rintro e w3 ⟨rfl,bw⟩;replace st:=st.below bw;replace r6:=r6.on bw;obtain⟨xy,hAB,hB4,hB3,hAk⟩:=jg.out k IP jx;have ac5:=ad (fun wr=>hBG.out k wr IP jx);have ac6:=ad (fun wr hx=>hCH.out k wr hx IP jx);have kh:Hid (last<aE r sd k * 86400→XS=pre):=ad fun h=>by rw[HX.out,O8 _ _ _ _ _ h,List.append_nil]
  have Kl:Hid (¬last<aE r sd k * 86400→∃g',gk=g'+1∧XS=pre++(dh r (aE r sd k) (ed r sd k)++qw r sd last g' (k+r.iv))):=ad fun h=>by
   have:k+100≤dW r:=hAk (by omega);obtain⟨g',rfl⟩:∃g',gk=g'+1:=⟨gk - 1,by omega⟩;exact⟨g',rfl,by rw[HX.out,S1 _ _ _ _ _ h]⟩
  have IN:Hid (¬last<aE r sd k * 86400→k+100≤dW r):=ad fun h=>hAk (by omega);have hpn:ed r sd k≤400:=by unfold ed;omega
  clear HX z0 z1 z2 z3 z4 z5 z6 z7 z8 z9 c0 c1 c2 bw hAk;generalize aE r sd k=A at *
  generalize gq r sd k=B at *
  have r8:af (w3.alloc (θ #[V Z (ae.ag A), V Z (ae.ofM A), V Z (ae.ar A), V Z (ae.ag B), V Z (ae.ofM B), V Z (ae.ar B)] 370)) w3.heap.size [V Z (ae.ag A), V Z (ae.ofM A), V Z (ae.ar A), V Z (ae.ag B), V Z (ae.ofM B), V Z (ae.ar B)] 370:=af.new w3 [V Z (ae.ag A), V Z (ae.ofM A), V Z (ae.ar A), V Z (ae.ag B), V Z (ae.ofM B), V Z (ae.ar B)] 370;have h8D:¬D w3.heap.size:=fun h=>by have:=st.lt h;omega
  have cj:Below w3.heap.size w3 (w3.alloc (θ #[V Z (ae.ag A), V Z (ae.ofM A), V Z (ae.ar A), V Z (ae.ag B), V Z (ae.ofM B), V Z (ae.ar B)] 370)):=(μ _ _).alloc (ι _) _;replace st:=st.below cj;replace r6:=r6.on cj;clear cj;gi_upto_region 4 with fail;generalize w3.alloc (θ #[V Z (ae.ag A), V Z (ae.ofM A), V Z (ae.ar A), V Z (ae.ag B), V Z (ae.ofM B), V Z (ae.ar B)] 370)=w4 at *
  generalize w3.heap.size=b8 at *
  obtain⟨⟨z0,z1,z2,z3,z4,z5⟩,_,_,_,_,_,_⟩:=jF r8;have c4:=(q4.aQ st.aQ nO4).cell (k:=0) rfl;have i0:=cell_regrown z0;have i1:=cell_regrown z1;have i2:=cell_regrown z2;have i4:=cell_regrown c4;clear z0 z1 z2 z3 z4 z5 c4;refine wpIn_region_quiet_below rfl Fi (by kernel_rfl) ?_;have cB:=fun d os=>CallsIn.regrown_of (w:=w4) (d:=d) (os:=os) (callsIn_wide (n:=0).2 (ac5.out _))
  repeat(gi_big_quiet_step (first|exact⟨rfl,cB _ _⟩|exact cB _ _|exact⟨trivial,rfl,cB _ _⟩))
  clear cB i0 i1 i2 i4;refine wpQuietIn_nil ?_;intro _ fF;obtain⟨⟨dq,gj⟩,eU⟩:=fF;subst eU;have dG:=below_regrown w4 dq gj;replace st:=st.below dG;replace r6:=r6.on dG;replace r8:=r8.on dG;clear dG;generalize grow (redrawn w4 dq) gj=w5 at *
  by_cases aeX:last<A * 86400
  case pos=>
   have hX:=ad (kh.out aeX);clear kh Kl IN;gi_wp2_with fail;refine bodyPost_ret (results_none rfl _ _ _) rfl ?_;rw[hX.out];exact .inl ⟨⟨_,rfl⟩, .inl st.fin⟩
  case neg=>
   have hX:=ad (Kl.out (by omega));replace IN:=IN.out (by omega);clear kh Kl;obtain⟨z0,z1,z2,z3,z4,z5,z6,z7,z8,z9⟩:=ca (q2.aQ st.aQ O9);obtain⟨⟨x0,x1,x2,x3,x4,x5⟩,_,_,_,_,_,_⟩:=jF r8;gi_wp2_with fail;refine((callsIn_wide.2 (ac6.out _ st.aQ)).mono ?_);rintro e w6 ⟨v,rfl,aw,dr⟩;have hv6:=ad (fun g hg=>(aw.lt g hg).1);have h5:Hid (∀k,D k→k<w5.heap.size):=ad fun k hk=>st.lt hk;replace st:=st.below dr;replace r6:=r6.on dr;clear z0 z1 z2 z3 z4 z5 z6 z7 z8 z9 x0 x1 x2 x3 x4 x5 dr r8 ac6 ac5;have hC4:(dh r A (ed r sd k)).length≤400:=ξ (Cx r A (ed r sd k)) hpn;generalize dh r A (ed r sd k)=C at *
   obtain⟨av,cv,rfl⟩:=th aw;gi_wp2_with fail;have mV:∀g,(Value.slice av C.length cv).ownBlock=some g→¬D g:=fun g hg h=>by have:=hv6.out g hg;have:=h5.out g h;omega
   clear hv6 h5;obtain⟨g',rfl,S6⟩:=hX.out;replace S6:=ad S6;clear hX;gi_loopg [34] C.length (fun q iv wr=>∃(i:Nat) (D:aB),iv= V Z i∧i+q=C.length∧St O W (J (pre.length+i)) D wr∧¬D b6∧af wr b6 [V Z (ae.ag sd), V Z (ae.ofM sd), V Z (ae.ar sd)] 106∧wr.ownsRow w5.heap.size 106 3 (ζ av C.length cv) C.length (jd C)∧(∀g,(Value.slice av C.length cv).ownBlock=some g→¬D g))
   case atStart=>exact⟨0,D,rfl,by omega,st,Pa,r6,aw,mV⟩
   case round=>
    clear st Pa r6 aw mV;rename_i gk0 wr0 _ _;obtain⟨i,D,rfl,hiq,st,Pa,r6,aw,mV⟩:=hrel;by_cases hi:i=C.length
    case pos=>
     have hX2:Hid (XS=(pre++C)++qw r sd last g' (k+r.iv)):=ad (by rw[S6.out,List.append_assoc]);have oB:(pre++C).length=pre.length+C.length:=List.length_append;obtain⟨z0,z1,z2,z3,z4,z5,z6,z7,z8,z9⟩:=ca (q2.aQ st.aQ O9);clear S6;subst hi;gi_wp2_with fail;gi_roundg g'
     case measure=>omega
     case rel=>exact⟨k+r.iv,pre++C,D,rfl,by omega,by omega,by omega,by rw[oB];exact st,Pa,r6,hX2⟩
    case neg=>
     have wK:i<C.length:=by omega
     obtain⟨d,hd⟩:∃d,C[i]?=some d:=⟨_,List.getElem?_eq_getElem wK⟩;have Yk:XS[pre.length+i]?=some d:=by
      rw[S6.out,List.getElem?_append_right (by omega),Nat.add_sub_cancel_left,List.getElem?_append_left wK];exact hd
     obtain⟨gv,cap,LI,hgB,LJ,d0,d1,d2⟩:=O7 aw hd;simp only[Value.slice.injEq]at LI;obtain⟨rfl,_,rfl⟩:=LI;have cj:Below wr.heap.size wr (wr.alloc (θ #[V Z (ae.ag d), V Z (ae.ofM d), V Z (ae.ar d)] 106)):=(μ _ _).alloc (ι _) _;have ED:=st.below cj;obtain⟨f1,t1,a1,b1,mj,jj⟩:=xE.out (pre.length+i) d Yk _ D ED.aQ ED.dO ED.Od ED.on;clear Yk hd;gi_wp2_with fail;refine jj.mono ?_;clear mj jj d0 d1 d2;have ac7:=mV gv rfl;have dj:=fa aw (w':=wr.alloc (θ #[V Z (ae.ag d), V Z (ae.ofM d), V Z (ae.ar d)] 106)) fun g hg=>cj.block g (aw.lt g hg).2;have r6':=r6.on cj;have alz:=(dj.lt gv rfl).2;have alA:=r6'.lt;clear st aw r6 cj mV;generalize wr.alloc (θ #[V Z (ae.ag d), V Z (ae.ofM d), V Z (ae.ar d)] 106)=wq at *
     rintro e W1 (⟨rfl,hp⟩|⟨rfl,hp⟩|⟨c,rfl,hp⟩)
     case inl=>
      obtain⟨D1,jH,d1,fR⟩:=ED.post hp;have r61:=r6'.aQ fR Pa;have kW:=fa dj (w':=W1) fun g hg=>fR.block g (dj.lt g hg).2 (by cases hg;exact ac7);have h61:¬D1 b6:=fun h=>(d1 _ h).elim Pa (by omega);have hv1:¬D1 gv:=fun h=>(d1 _ h).elim ac7 (by omega);clear hp fR ED dj r6';gi_wp2_with fail;gi_roundg (gk - 1)
      case measure=>omega
      case rel=>exact⟨i+1,D1,by go_num,by omega,jH,h61,r61,kW,fun g hg=>by cases hg;exact hv1⟩
     case inr.inl=>
      obtain⟨D1,jH,d1,fR⟩:=ED.post hp;gi_wp2_with fail;refine bodyPost_ret (results_none rfl _ _ _) rfl ?_;exact .inl ⟨⟨_,rfl⟩, .inr jH.fin⟩
     case inr.inr=>
      obtain⟨D1,jH,d1,fR⟩:=ED.post hp;gi_wp2_with fail;exact⟨rfl, .inr ⟨c,rfl,jH.fin⟩⟩
theorem VW (fq iv ct un ws:Int)(m md wk pl:Value)(tx:ByteArray)(s f last:Int)(w:κ)(h1:∃a n c,m= ζ a n c)(h2:∃a n c,md= ζ a n c)(h3:∃a n c,wk= ζ a n c)(h4:∃a n c,pl= ζ a n c):
 ο prog 315 #[aY fq iv ct un m md wk pl ws tx, V Z s, V Z f, V Z last] w fun e w'=>
  e= δ (.func (.func 340) #[] #[ε (some ⟨w.heap.size+1,0,none⟩), ε (some ⟨w.heap.size,0,none⟩), ε (some ⟨w.heap.size+2,0,none⟩), ε (some ⟨w.heap.size+3,0,none⟩)])∧
  w'=(((w.alloc (θ (bW fq iv ct un m md wk pl ws tx).toArray 76)).alloc (θ #[V Z s] 3)).alloc (θ #[V Z f] 3)).alloc (θ #[V Z last] 3):=by
 obtain⟨a1,n1,c1,rfl⟩:=h1;obtain⟨a2,n2,c2,rfl⟩:=h2;obtain⟨a3,n3,c3,rfl⟩:=h3;obtain⟨a4,n4,c4,rfl⟩:=h4;unfold aY bW;go_enter func315,ntmps315;go_wp2_with fail;go_ret;exact⟨rfl,rfl⟩
end Go.Proofs.YthpndgcaoeokeaaGreatDoor
