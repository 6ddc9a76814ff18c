import Derived.Test.YthpndgcaoeokeaaGreatDoorCo10
set_option maxRecDepth 100000
set_option maxHeartbeats 8000000
open Go.IntKind renaming i64→Z
open Go.Value renaming int→V,pointer→ε,slice→ζ,string→η,bool→ρ
open Go.Ending renaming returned→δ
open Go.Obj renaming cells→θ
open Go.RowKit.Below renaming refl→ι
open Go.Ending.returned renaming inj→κ
open Go.Instr renaming indexAt→μ,loadAt→ν,storeAt→φ
open Go.Ending.panicked renaming inj→ξ
open Go.Proofs.YthpndgcaoeokeaaGreatDoor.Gr renaming set→ο
open Nat renaming le_refl→π
open Go renaming World→τ,Calls→υ
namespace Go.Proofs.YthpndgcaoeokeaaGreatDoor
open Tryz
open Go.RowKit Go.Sort
def aU:List Value:=bW 0 0 0 0 (ζ none 0 0) (ζ none 0 0) (ζ none 0 0) (ζ none 0 0) 0 ⟨#[]⟩
def partsOf (s:List UInt8):Option (Nat→Option (List UInt8)):=bZ aC 61 (bX 59 s) (fun _=>none)
def qh (r:au):Bool:=sy r.fq r.ms.length r.mds.length r.wks.length r.pls.length (fU r.wks)
def lT (s:List UInt8)(F:Nat→Option (List UInt8))(r:au):Prop:=partsOf s=some F∧¬((F 2).isSome=true∧(F 3).isSome=true)∧kH F r∧qh r=true
def U9 (s:List UInt8)(w:τ)(E:Ending)(w':τ):Prop:=
 ((∃F r m md wk pl,lT s F r∧E= δ (aY r.fq r.iv r.ct r.un m md wk pl r.ws (gw F))∧cN w' m r.ms∧cN w' md r.mds∧iB w' wk r.wks∧cN w' pl r.pls)∨((¬∃F r,lT s F r)∧E= .panicked (bN 3)))∧Below w.heap.size w w'
theorem ng {x:Int}{o:Option Int}{v:Value}(h:Ending.returned v=dR x o):∃z,o=some z∧v= V Z z:=by
 unfold dR at h;cases o with
 |none=>cases h
 |some z=>exact⟨z,rfl,κ h⟩
theorem nh {x:Int}{o:Option Int}{c:List PanicEntry}(h:Ending.panicked c=dR x o):o=none∧c=bN x:=by
 unfold dR at h;cases o with
 |none=>exact⟨rfl,ξ h⟩
 |some z=>cases h
theorem ni {x:Int}{o:Option Int}(h:Ending.outgrown=dR x o):False:=by
 unfold dR at h;cases o<;>cases h
theorem bS {g:Nat}{F:Nat→Option (List UInt8)}{B i:Nat}{a:Act}{w:τ}(h:GG g F B i a w)(hi:i≠42):NN g F B i (a.eval (.tmp (oq i))) w:=by
 unfold GG at h;rw[if_neg hi]at h;exact h
theorem Va {c:UInt8}{l a b:List UInt8}(h:sp c l=some (a,b)):b.length≤l.length:=by
 have e:=(jq h).1;rw[e];simp;omega
theorem my {ns:List (List UInt8)}{c:UInt8}{B:Nat}:∀{ps:List (List UInt8)} {f F:Nat→Option (List UInt8)},(∀p∈ps,p.length≤B)→(∀k,((f k).getD []).length≤B)→bZ ns c ps f=some F→∀k,((F k).getD []).length≤B
 |[],f,F,_,hf,h,k=>by rw[bZ]at h;cases h;exact hf k
 |l::r,f,F,hp,hf,h,k=>by
  rw[bZ]at h;cases hq:jR ns c l with
  |none=>rw[hq]at h;cases h
  |some q=>
   obtain⟨j,v⟩:=q;rw[hq]at h;simp only[]at h;cases hj:(f j).isSome
   ·rw[hj,if_neg Bool.false_ne_true]at h;refine my (fun p zO=>hp p (List.mem_cons_of_mem _ zO)) (fun i=>?_) h k;by_cases Xz:i=j
    ·rw[if_pos Xz];unfold jR at hq;cases qi:sp c l with
     |none=>rw[qi]at hq;cases hq
     |some y=>
      obtain⟨a,b⟩:=y;rw[qi]at hq;obtain⟨k',lR,e⟩:=Option.map_eq_some_iff.1 hq;have:b=v:=congrArg Prod.snd e;subst this;have h1:=Va qi;have h2:=hp l (by simp);simp only[Option.getD_some];omega
    ·rw[if_neg Xz];exact hf i
   ·rw[hj,if_pos rfl]at h;cases h
theorem Rn (z0 z1 z2 z3 z8:Int)(a4 a5 a6 a7:Option Addr)(n4 n5 n6 n7 c4 c5 c6 c7:Nat)(t:ByteArray)(w:τ):
 (Instr.build 76 #[(0, V Z z0),(1, V Z z1),(2, V Z z2),(3, V Z z3),(4, ζ a4 n4 c4),(5, ζ a5 n5 c5),(6, ζ a6 n6 c6),(7, ζ a7 n7 c7),(8, V Z z8),(9, η t)]).run prog w= .ok (aY z0 z1 z2 z3 (ζ a4 n4 c4) (ζ a5 n5 c5) (ζ a6 n6 c6) (ζ a7 n7 c7) z8 t) w:=by
 kernel_rfl
theorem Vb {W w:τ}{b:Nat}{cs:List Value}{F:Nat→Option (List UInt8)}{v:Value}(ax:af w b cs 76)(sA:cs.length=10)(hB:W.heap.size≤b)(fA:Below W.heap.size W w)(hv:RV F w v):
 ∃w',(φ 76 (ε (some ⟨b,0,none⟩)) v).run prog w= .ok () w'∧Below W.heap.size W w'∧Gr 76 w w'∧RB F w' b:=by
 obtain⟨r,m,md,wk,pl,hP,rfl,i1,i2,i3,i4⟩:=hv;obtain⟨a1,e1⟩:=i1.form;obtain⟨a2,e2⟩:=i2.form;obtain⟨a3,e3⟩:=i3.form;obtain⟨a4,e4⟩:=i4.form
 match cs,sA with
 |[x0,x1,x2,x3,x4,x5,x6,x7,x8,x9],_=>
  have c0:=ax.cell (k:=0) rfl;have c1:=ax.cell (k:=1) rfl;have c2:=ax.cell (k:=2) rfl;have c3:=ax.cell (k:=3) rfl;have c4:=ax.cell (k:=4) rfl;have c5:=ax.cell (k:=5) rfl;have c6:=ax.cell (k:=6) rfl;have c7:=ax.cell (k:=7) rfl;have c8:=ax.cell (k:=8) rfl;have c9:=ax.cell (k:=9) rfl;have f0:=ax.free (k:=0);have f1:=ax.free (k:=1);have f2:=ax.free (k:=2);have f3:=ax.free (k:=3);have f4:=ax.free (k:=4);have f5:=ax.free (k:=5);have f6:=ax.free (k:=6);have f7:=ax.free (k:=7);have f8:=ax.free (k:=8);have f9:=ax.free (k:=9);have r0:=ax.set (k:=0) (V Z r.fq);have r1:=r0.set (k:=1) (V Z r.iv);have r2:=r1.set (k:=2) (V Z r.ct);have r3:=r2.set (k:=3) (V Z r.un);have r4:=r3.set (k:=4) m;have r5:=r4.set (k:=5) md;have r6:=r5.set (k:=6) wk;have r7:=r6.set (k:=7) pl;have r8:=r7.set (k:=8) (V Z r.ws);have r9:=r8.set (k:=9) (η (gw F));have g:Gr 76 w _:=(((((((((ο (i:=0) ax (V Z r.fq)).trans (ο (i:=1) r0 (V Z r.iv))).trans (ο (i:=2) r1 (V Z r.ct))).trans (ο (i:=3) r2 (V Z r.un))).trans (ο (i:=4) r3 m)).trans (ο (i:=5) r4 md)).trans (ο (i:=6) r5 wk)).trans (ο (i:=7) r6 pl)).trans (ο (i:=8) r7 (V Z r.ws))).trans (ο (i:=9) r8 (η (gw F)));refine⟨_,?_,(((((((((fA.setCell (p:=⟨b,0,none⟩) hB (V Z r.fq)).setCell (p:=⟨b,1,none⟩) hB (V Z r.iv)).setCell (p:=⟨b,2,none⟩) hB (V Z r.ct)).setCell (p:=⟨b,3,none⟩) hB (V Z r.un)).setCell (p:=⟨b,4,none⟩) hB m).setCell (p:=⟨b,5,none⟩) hB md).setCell (p:=⟨b,6,none⟩) hB wk).setCell (p:=⟨b,7,none⟩) hB pl).setCell (p:=⟨b,8,none⟩) hB (V Z r.ws)).setCell (p:=⟨b,9,none⟩) hB (η (gw F)),g,r,m,md,wk,pl,hP,r9,i1.gr pT g,i2.gr pT g,i3.gr PT g,i4.gr pT g⟩;clear r0 r1 r2 r3 r4 r5 r6 r7 r8 r9 g fA i1 i2 i3 i4 hP ax;subst e1 e2 e3 e4;unfold aY;go_simp
theorem Oe {f:Option (List UInt8)}{z:Int}(h:oh f=some z):0≤z∧z≤3:=by
 unfold oh at h;obtain⟨k,hk,rfl⟩:=Option.map_eq_some_iff.1 h;have:=zP hk;rw[show iD.length=4 from rfl]at this;omega
theorem rV {α:Type}{rd:List UInt8→Option α}{f:Option (List UInt8)}{zs:List α}(h:dJ rd f=some zs):zs.length≤20:=by
 unfold dJ at h;cases f with
 |none=>simp only[Option.some.injEq]at h;subst h;simp
 |some v=>
  simp only[]at h;split at h
  ·rename_i qj;rw[Bx h];exact qj
  ·cases h
theorem kH.uniq {F:Nat→Option (List UInt8)}{r r':au}(h:kH F r)(h':kH F r'):r=r':=by
 obtain⟨a1,a2,a3,a4,a5,a6,a7,a8,a9⟩:=h;obtain⟨b1,b2,b3,b4,b5,b6,b7,b8,b9⟩:=h';cases r;cases r';simp only[]at *
 rw[a1]at b1;rw[a2]at b2;rw[a3]at b3;rw[a4]at b4;rw[a5]at b5;rw[a6]at b6;rw[a7]at b7;rw[a8]at b8;rw[a9]at b9;cases b1;cases b2;cases b3;cases b4;cases b5;cases b6;cases b7;cases b8;cases b9;rfl
theorem ZJ (a:Act)(h:a.tmps.size=66)(hd:a.defers=[]):∃f:Nat→Value,a=⟨#[f 0,f 1,f 2,f 3,f 4,f 5,f 6,f 7,f 8,f 9,f 10,f 11,f 12,f 13,f 14,f 15,f 16,f 17,f 18,f 19,f 20,f 21,f 22,f 23,f 24,f 25,f 26,f 27,f 28,f 29,f 30,f 31,f 32,f 33,f 34,f 35,f 36,f 37,f 38,f 39,f 40,f 41,f 42,f 43,f 44,f 45,f 46,f 47,f 48,f 49,f 50,f 51,f 52,f 53,f 54,f 55,f 56,f 57,f 58,f 59,f 60,f 61,f 62,f 63,f 64,f 65],[]⟩∧∀k,a.eval (.tmp k)=f k:=jo 66 a h hd
theorem aa3 {W w:τ}{b:Nat}{cs:List Value}(ax:af w b cs 76)(_alj:cs.length=10)(hB:W.heap.size≤b)(fA:Below W.heap.size W w)(v0 v1 v2 v3 v4 v5 v6 v7 v8 v9:Value):
 Gr 76 w ((((((((((w.setCell ⟨b,0,none⟩ v0).setCell ⟨b,1,none⟩ v1).setCell ⟨b,2,none⟩ v2).setCell ⟨b,3,none⟩ v3).setCell ⟨b,4,none⟩ v4).setCell ⟨b,5,none⟩ v5).setCell ⟨b,6,none⟩ v6).setCell ⟨b,7,none⟩ v7).setCell ⟨b,8,none⟩ v8).setCell ⟨b,9,none⟩ v9)∧
 Below W.heap.size W ((((((((((w.setCell ⟨b,0,none⟩ v0).setCell ⟨b,1,none⟩ v1).setCell ⟨b,2,none⟩ v2).setCell ⟨b,3,none⟩ v3).setCell ⟨b,4,none⟩ v4).setCell ⟨b,5,none⟩ v5).setCell ⟨b,6,none⟩ v6).setCell ⟨b,7,none⟩ v7).setCell ⟨b,8,none⟩ v8).setCell ⟨b,9,none⟩ v9):=by
 have r0:=ax.set (k:=0) v0;have r1:=r0.set (k:=1) v1;have r2:=r1.set (k:=2) v2;have r3:=r2.set (k:=3) v3;have r4:=r3.set (k:=4) v4;have r5:=r4.set (k:=5) v5;have r6:=r5.set (k:=6) v6;have r7:=r6.set (k:=7) v7;have r8:=r7.set (k:=8) v8;exact⟨(((((((((ο (i:=0) ax v0).trans (ο (i:=1) r0 v1)).trans (ο (i:=2) r1 v2)).trans (ο (i:=3) r2 v3)).trans (ο (i:=4) r3 v4)).trans (ο (i:=5) r4 v5)).trans (ο (i:=6) r5 v6)).trans (ο (i:=7) r6 v7)).trans (ο (i:=8) r7 v8)).trans (ο (i:=9) r8 v9),
  (((((((((fA.setCell (p:=⟨b,0,none⟩) hB v0).setCell (p:=⟨b,1,none⟩) hB v1).setCell (p:=⟨b,2,none⟩) hB v2).setCell (p:=⟨b,3,none⟩) hB v3).setCell (p:=⟨b,4,none⟩) hB v4).setCell (p:=⟨b,5,none⟩) hB v5).setCell (p:=⟨b,6,none⟩) hB v6).setCell (p:=⟨b,7,none⟩) hB v7).setCell (p:=⟨b,8,none⟩) hB v8).setCell (p:=⟨b,9,none⟩) hB v9⟩
theorem JF (s:List UInt8)(w:τ)(hm:ML w)(hs:s.length≤1048000):
 υ prog 81 #[η ⟨s.toArray⟩] w (U9 s w):=by
 have ai:Below w.heap.size w (w.alloc (θ aU.toArray 76)):=(ι _ _).alloc (π _) _;have z1:(w.alloc (θ aU.toArray 76)).heap.size=w.heap.size+1:=by simp
 have jX:=af.new w aU 76;have lU:ML (w.alloc (θ aU.toArray 76)):=hm.on ai;have CS:=ad (sB s 59 (w.alloc (θ aU.toArray 76)) lU (by omega));have n1:=iE (w.alloc (θ aU.toArray 76)) (bX 59 s) 9;have az:=ai.alloc (by omega) (θ (strs (bX 59 s)).toArray 9);have nj:Below (w.alloc (θ aU.toArray 76)).heap.size (w.alloc (θ aU.toArray 76)) _:=(ι _ _).alloc (π _) (θ (strs (bX 59 s)).toArray 9);have z2:((w.alloc (θ aU.toArray 76)).alloc (θ (strs (bX 59 s)).toArray 9)).heap.size=w.heap.size+1+1:=by simp
 have n2:=iE ((w.alloc (θ aU.toArray 76)).alloc (θ (strs (bX 59 s)).toArray 9)) aC 9;have bw:=az.alloc (by omega) (θ (strs aC).toArray 9);have PU:Below ((w.alloc (θ aU.toArray 76)).alloc (θ (strs (bX 59 s)).toArray 9)).heap.size ((w.alloc (θ aU.toArray 76)).alloc (θ (strs (bX 59 s)).toArray 9)) _:=(ι _ _).alloc (π _) (θ (strs aC).toArray 9);have z3:(((w.alloc (θ aU.toArray 76)).alloc (θ (strs (bX 59 s)).toArray 9)).alloc (θ (strs aC).toArray 9)).heap.size=w.heap.size+1+1+1:=by simp
 have n3:=jK n1 (by omega) PU;rw[z1]at n3;rw[z2]at n2;have hr3:=(jX.on nj).on PU;have Vc:=(lU.on nj).on PU;have CF:=ad (Es (w.heap.size+1) 0 (bX 59 s).length (w.heap.size+1+1) 0 9 aC (bX 59 s) 61 3 (((w.alloc (θ aU.toArray 76)).alloc (θ (strs (bX 59 s)).toArray 9)).alloc (θ (strs aC).toArray 9)) rfl
  (by have:=Ro s 59;omega) (fun l hl=>by have:=ku 59 s l hl;omega) (by omega) (by omega) n3 n2)
 clear n1 n2 n3 nj PU lU jX z1 z2 ai az;cases hp:partsOf s with
 |none=>
  have fG:¬∃F r,lT s F r:=fun⟨F,r,h,_⟩=>by rw[hp]at h;cases h
  have HN:=ad fG;have CG:Hid (υ prog 129 #[ζ (some ⟨w.heap.size+1,0,none⟩) (bX 59 s).length (bX 59 s).length, η ⟨#[61]⟩, ζ (some ⟨w.heap.size+1+1,0,none⟩) 9 9, V Z 3] (((w.alloc (θ aU.toArray 76)).alloc (θ (strs (bX 59 s)).toArray 9)).alloc (θ (strs aC).toArray 9)) fun E w'=>E= .panicked (bN 3)∧Below w.heap.size w w'):=
   ad (CF.out.mono fun E w' h=>by
    unfold mL at h;rw[show bZ aC 61 (bX 59 s) (fun _=>none)=none from hp]at h;exact⟨h.1,bw.trans (h.2.mono (by omega))⟩)
  clear CF fG hp hr3 Vc hm bw z3;go_enter func81,ntmps81;go_wp2_with (first
   |(go_at_call 139;refine(CS.out).mono ?_;rintro e w1 ⟨rfl,rfl⟩)
   |(go_at_call 140;refine(mX _).mono ?_;rintro e w1 ⟨rfl,rfl⟩)
   |(go_at_call 129;refine(CG.out).mono ?_;rintro e w3 ⟨rfl,ah⟩))
  exact⟨rfl, .inr ⟨HN.out,rfl⟩,ah⟩
 |some F=>
  have jY:∀k,((F k).getD []).length≤1048576:=my (fun p zO=>by have:=ku 59 s p zO;omega) (fun k=>by simp) hp;have FV:∀k (d:List UInt8),d.length≤1048576→((F k).getD d).length≤1048576:=fun k d hd=>by
   have:=jY k;cases hk:F k with
   |none=>simpa[hk]using hd
   |some v=>rw[hk]at this;simpa using this
  have uniq:∀F',partsOf s=some F'→F'=F:=fun F' h=>by rw[hp]at h;exact(Option.some.inj h).symm
  have no:(¬∃r,kH F r)→¬∃F r,lT s F r:=fun h ⟨F',r,h1,_,h3,_⟩=>by rw[uniq F' h1]at h3;exact h ⟨r,h3⟩
  have CG:Hid (υ prog 129 #[ζ (some ⟨w.heap.size+1,0,none⟩) (bX 59 s).length (bX 59 s).length, η ⟨#[61]⟩, ζ (some ⟨w.heap.size+1+1,0,none⟩) 9 9, V Z 3] (((w.alloc (θ aU.toArray 76)).alloc (θ (strs (bX 59 s)).toArray 9)).alloc (θ (strs aC).toArray 9)) fun E w'=>∃g,E= δ (ζ (some ⟨g,0,none⟩) 9 9)∧cQ w' g F∧Below w.heap.size w w'∧af w' w.heap.size aU 76∧ML w'∧w.heap.size≤w'.heap.size):=
   ad (CF.out.mono fun E w' h=>by
    unfold mL at h;rw[show bZ aC 61 (bX 59 s) (fun _=>none)=some F from hp]at h;obtain⟨⟨g,h1,h2,h3⟩,h4⟩:=h;have:=h4.size;exact⟨g,h1,h3,bw.trans (h4.mono (by omega)),hr3.on h4,Vc.on h4,by omega⟩)
  clear CF hr3 Vc bw z3 hm;by_cases Et:(F 2).isSome=true∧(F 3).isSome=true
  case pos=>
   have HN:Hid (¬∃F r,lT s F r):=ad (fun⟨F',r,h1,h2,_⟩=>by rw[uniq F' h1]at h2;exact h2 Et);obtain⟨b2,b3⟩:=Et;clear no uniq jY FV hp;go_enter func81,ntmps81;go_wp2_with (first
    |(go_at_call 139;refine(CS.out).mono ?_;rintro e w1 ⟨rfl,rfl⟩)
    |(go_at_call 140;refine(mX _).mono ?_;rintro e w1 ⟨rfl,rfl⟩)
    |(go_at_call 129;refine(CG.out).mono ?_;rintro e w3 ⟨g,rfl,hF,ah,ax,Eu,oZ⟩;have c2:=hF.there 2 (by decide);have c3:=hF.there 3 (by decide);rw[b2]at c2;rw[b3]at c3)
    |(go_at_call_of 65 (ρ false);refine(aM _ _).mono ?_;rintro e w' ⟨rfl,rfl⟩))
   exact⟨rfl, .inr ⟨HN.out,rfl⟩,ah⟩
  case neg=>
   have H23:=ad Et;have b23:((F 2).isSome=false)∨((F 2).isSome=true∧(F 3).isSome=false):=by
    cases h2:(F 2).isSome
    ·exact .inl rfl
    ·refine .inr ⟨rfl,?_⟩;cases h3:(F 3).isSome
     ·rfl
     ·exact absurd ⟨h2,h3⟩ Et
   have HU:=ad uniq;have pa:=ad no;have HP:=ad hp;have HS:=ad jY;have Kq:=ad FV;clear no uniq jY FV hp Et;rcases b23 with b2|⟨b2,b3⟩
   all_goals
    go_enter func81,ntmps81;go_wp2_with (first
     |(go_at_call 139;refine(CS.out).mono ?_;rintro e w1 ⟨rfl,rfl⟩)
     |(go_at_call 140;refine(mX _).mono ?_;rintro e w1 ⟨rfl,rfl⟩)
     |(go_at_call 129;refine(CG.out).mono ?_;rintro e w3 ⟨g,rfl,hF,ah,ax,Eu,oZ⟩;have c2:=hF.there 2 (by decide);have c3:=hF.there 3 (by decide);rw[b2]at c2;(try rw[b3]at c3))
     |(go_at_call_of 65 (ρ true);refine(aF _ _).mono ?_;rintro e w' ⟨rfl,rfl⟩))
    have no:=pa.out;have jY:=HS.out;have FV:=Kq.out;refine fT (GG g F w3.heap.size) (II w3 w.heap.size g) (by kernel_rfl) (by kernel_rfl) (by kernel_rfl) ?_ ?_ ?_;rotate_left 2
    ·exact⟨rfl,rfl,rfl,rfl,(ι _ _).drew⟩
    ·intro i o ho a w' hI hG;have hi:i<43:=(Array.getElem?_eq_some_iff.1 ho).1;have gA:i=0∨i=1∨i=2∨i=3∨i=4∨i=5∨i=6∨i=7∨i=8∨i=9∨i=10∨i=11∨i=12∨i=13∨i=14∨i=15∨i=16∨i=17∨i=18∨i=19∨i=20∨i=21∨i=22∨i=23∨i=24∨i=25∨i=26∨i=27∨i=28∨i=29∨i=30∨i=31∨i=32∨i=33∨i=34∨i=35∨i=36∨i=37∨i=38∨i=39∨i=40∨i=41∨i=42:=by omega
     rcases gA with rfl|rfl|rfl|rfl|rfl|rfl|rfl|rfl|rfl|rfl|rfl|rfl|rfl|rfl|rfl|rfl|rfl|rfl|rfl|rfl|rfl|rfl|rfl|rfl|rfl|rfl|rfl|rfl|rfl|rfl|rfl|rfl|rfl|rfl|rfl|rfl|rfl|rfl|rfl|rfl|rfl|rfl|rfl<;>obtain rfl:=Option.some.inj ho
     ·
      exact aj (v:=a.eval (.tmp 3)) (by kernel_rfl) (bp rfl (by decide) hI (ι _ _) (show NN g F w3.heap.size 0 _ _ from hI.s3) (by kernel_rfl) rfl)
     ·
      have e:a.eval (.tmp 21)= ζ (some ⟨g,0,none⟩) 9 9:=bS (hG ⟨0, .data⟩ (by simp) rfl) (by decide);exact aj (v:= ε (some ⟨g,0 * 2,none⟩)) (aL (by show(μ 118 (a.eval (.tmp 21)) (V Z 0)).run _ _=_;rw[e];exact dH g 0 (by decide) w')) (bp rfl (by decide) hI (ι _ _) (show NN g F w3.heap.size 1 _ _ from rfl) (by kernel_rfl) rfl)
     ·
      have e:a.eval (.tmp 22)= ε (some ⟨g,0 * 2,none⟩):=bS (hG ⟨1, .data⟩ (by simp) rfl) (by decide);exact aj (v:=aZ (F 0)) (aL (by show(ν 122 (a.eval (.tmp 22))).run _ _=_;rw[e];exact dk (hF.on hI.below) (by decide))) (bp rfl (by decide) hI (ι _ _) (show NN g F w3.heap.size 2 _ _ from rfl) (by kernel_rfl) rfl)
     ·
      have e:a.eval (.tmp 23)=aZ (F 0):=bS (hG ⟨2, .data⟩ (by simp) rfl) (by decide);refine dK (R:=fun E aA=>E=dR 3 (oh (F 0))∧Below w'.heap.size w' aA) (f:=141) (args:=#[a.eval (.tmp 23)]) (by kernel_rfl) (by rw[e];exact(BZ _ _ w').mono fun E aA ⟨h1,h2⟩=>⟨by rw[h1,Ob];rfl,h2⟩) ?_ ?_ ?_
      ·rintro v aA ⟨he,hb⟩;obtain⟨z,hz,rfl⟩:=ng he;exact(bp rfl (by decide) hI hb (show NN g F w3.heap.size 3 _ _ from⟨z,hz,rfl⟩) (by kernel_rfl) rfl)
      ·rintro c aA ⟨he,hb⟩;obtain⟨hz,rfl⟩:=nh he;exact⟨hI.defers, .inr ⟨no fun⟨r,hr⟩=>(by have:=hr.fq;rw[hz]at this;cases this),rfl⟩,ah.trans ((hI.below.trans (hb.mono hI.below.size)).mono oZ)⟩
      ·rintro aA ⟨he,_⟩;exact ni he
     ·
      exact aj (v:=a.eval (.tmp 3)) (by kernel_rfl) (bp rfl (by decide) hI (ι _ _) (show NN g F w3.heap.size 4 _ _ from hI.s3) (by kernel_rfl) rfl)
     ·
      have e:a.eval (.tmp 25)= ζ (some ⟨g,0,none⟩) 9 9:=bS (hG ⟨4, .data⟩ (by simp) rfl) (by decide);exact aj (v:= ε (some ⟨g,1 * 2,none⟩)) (aL (by show(μ 118 (a.eval (.tmp 25)) (V Z 1)).run _ _=_;rw[e];exact dH g 1 (by decide) w')) (bp rfl (by decide) hI (ι _ _) (show NN g F w3.heap.size 5 _ _ from rfl) (by kernel_rfl) rfl)
     ·
      have e:a.eval (.tmp 26)= ε (some ⟨g,1 * 2,none⟩):=bS (hG ⟨5, .data⟩ (by simp) rfl) (by decide);exact aj (v:=aZ (F 1)) (aL (by show(ν 122 (a.eval (.tmp 26))).run _ _=_;rw[e];exact dk (hF.on hI.below) (by decide))) (bp rfl (by decide) hI (ι _ _) (show NN g F w3.heap.size 6 _ _ from rfl) (by kernel_rfl) rfl)
     ·
      have e:a.eval (.tmp 27)=aZ (F 1):=bS (hG ⟨6, .data⟩ (by simp) rfl) (by decide);refine dK (R:=fun E aA=>E= δ (η ⟨((F 1).getD [49]).toArray⟩)∧Below w'.heap.size w' aA) (f:=134) (args:=#[a.eval (.tmp 27), η ⟨#[49]⟩]) (by kernel_rfl) (by rw[e];exact Eo (F 1) [49] w') ?_ ?_ ?_
      ·rintro v aA ⟨he,hb⟩;obtain rfl:v=_:=κ he;exact(bp rfl (by decide) hI hb (show NN g F w3.heap.size 7 _ _ from rfl) (by kernel_rfl) rfl)
      ·rintro c aA ⟨he,hb⟩;cases he
      ·rintro aA ⟨he,_⟩;cases he
     ·
      have e:a.eval (.tmp 28)= η ⟨((F 1).getD [49]).toArray⟩:=bS (hG ⟨7, .data⟩ (by simp) rfl) (by decide);refine dK (R:=fun E aA=>E=dR 3 (mK 1 100 ((F 1).getD [49]))∧Below w'.heap.size w' aA) (f:=142) (args:=#[a.eval (.tmp 28), V Z 1, V Z 100, V Z 3]) (by kernel_rfl) (by rw[e];exact(iQ _ 1 100 3 w' (lQ (FV 1 _ (by decide)))).mono fun E aA ⟨h1,h2⟩=>⟨by rw[h1,FT],by rw[←h2];exact ι _ _⟩) ?_ ?_ ?_
      ·rintro v aA ⟨he,hb⟩;obtain⟨z,hz,rfl⟩:=ng he;exact(bp rfl (by decide) hI hb (show NN g F w3.heap.size 8 _ _ from⟨z,hz,rfl⟩) (by kernel_rfl) rfl)
      ·rintro c aA ⟨he,hb⟩;obtain⟨hz,rfl⟩:=nh he;exact⟨hI.defers, .inr ⟨no fun⟨r,hr⟩=>(by have:=hr.iv;rw[hz]at this;cases this),rfl⟩,ah.trans ((hI.below.trans (hb.mono hI.below.size)).mono oZ)⟩
      ·rintro aA ⟨he,_⟩;exact ni he
     ·
      exact aj (v:=a.eval (.tmp 3)) (by kernel_rfl) (bp rfl (by decide) hI (ι _ _) (show NN g F w3.heap.size 9 _ _ from hI.s3) (by kernel_rfl) rfl)
     ·
      have e:a.eval (.tmp 30)= ζ (some ⟨g,0,none⟩) 9 9:=bS (hG ⟨9, .data⟩ (by simp) rfl) (by decide);exact aj (v:= ε (some ⟨g,2 * 2,none⟩)) (aL (by show(μ 118 (a.eval (.tmp 30)) (V Z 2)).run _ _=_;rw[e];exact dH g 2 (by decide) w')) (bp rfl (by decide) hI (ι _ _) (show NN g F w3.heap.size 10 _ _ from rfl) (by kernel_rfl) rfl)
     ·
      have e:a.eval (.tmp 31)= ε (some ⟨g,2 * 2,none⟩):=bS (hG ⟨10, .data⟩ (by simp) rfl) (by decide);exact aj (v:=aZ (F 2)) (aL (by show(ν 122 (a.eval (.tmp 31))).run _ _=_;rw[e];exact dk (hF.on hI.below) (by decide))) (bp rfl (by decide) hI (ι _ _) (show NN g F w3.heap.size 11 _ _ from rfl) (by kernel_rfl) rfl)
     ·
      have e:a.eval (.tmp 32)=aZ (F 2):=bS (hG ⟨11, .data⟩ (by simp) rfl) (by decide);refine dK (R:=fun E aA=>E=dR 3 (wF (F 2))∧Below w'.heap.size w' aA) (f:=143) (args:=#[a.eval (.tmp 32)]) (by kernel_rfl) (by rw[e];exact(JG (F 2) w' (lQ (jY 2))).mono fun E aA ⟨h1,h2⟩=>⟨by rw[h1,U6],h2⟩) ?_ ?_ ?_
      ·rintro v aA ⟨he,hb⟩;obtain⟨z,hz,rfl⟩:=ng he;exact(bp rfl (by decide) hI hb (show NN g F w3.heap.size 12 _ _ from⟨z,hz,rfl⟩) (by kernel_rfl) rfl)
      ·rintro c aA ⟨he,hb⟩;obtain⟨hz,rfl⟩:=nh he;exact⟨hI.defers, .inr ⟨no fun⟨r,hr⟩=>(by have:=hr.ct;rw[hz]at this;cases this),rfl⟩,ah.trans ((hI.below.trans (hb.mono hI.below.size)).mono oZ)⟩
      ·rintro aA ⟨he,_⟩;exact ni he
     ·
      exact aj (v:=a.eval (.tmp 3)) (by kernel_rfl) (bp rfl (by decide) hI (ι _ _) (show NN g F w3.heap.size 13 _ _ from hI.s3) (by kernel_rfl) rfl)
     ·
      have e:a.eval (.tmp 34)= ζ (some ⟨g,0,none⟩) 9 9:=bS (hG ⟨13, .data⟩ (by simp) rfl) (by decide);exact aj (v:= ε (some ⟨g,3 * 2,none⟩)) (aL (by show(μ 118 (a.eval (.tmp 34)) (V Z 3)).run _ _=_;rw[e];exact dH g 3 (by decide) w')) (bp rfl (by decide) hI (ι _ _) (show NN g F w3.heap.size 14 _ _ from rfl) (by kernel_rfl) rfl)
     ·
      have e:a.eval (.tmp 35)= ε (some ⟨g,3 * 2,none⟩):=bS (hG ⟨14, .data⟩ (by simp) rfl) (by decide);exact aj (v:=aZ (F 3)) (aL (by show(ν 122 (a.eval (.tmp 35))).run _ _=_;rw[e];exact dk (hF.on hI.below) (by decide))) (bp rfl (by decide) hI (ι _ _) (show NN g F w3.heap.size 15 _ _ from rfl) (by kernel_rfl) rfl)
     ·
      have e:a.eval (.tmp 36)=aZ (F 3):=bS (hG ⟨15, .data⟩ (by simp) rfl) (by decide);refine dK (R:=fun E aA=>E=dR 3 (wG (F 3))∧Below w'.heap.size w' aA) (f:=144) (args:=#[a.eval (.tmp 36)]) (by kernel_rfl) (by rw[e];exact(JH (F 3) w').mono fun E aA ⟨h1,h2⟩=>⟨by rw[h1,U7],h2⟩) ?_ ?_ ?_
      ·rintro v aA ⟨he,hb⟩;obtain⟨z,hz,rfl⟩:=ng he;exact(bp rfl (by decide) hI hb (show NN g F w3.heap.size 16 _ _ from⟨z,hz,rfl⟩) (by kernel_rfl) rfl)
      ·rintro c aA ⟨he,hb⟩;obtain⟨hz,rfl⟩:=nh he;exact⟨hI.defers, .inr ⟨no fun⟨r,hr⟩=>(by have:=hr.un;rw[hz]at this;cases this),rfl⟩,ah.trans ((hI.below.trans (hb.mono hI.below.size)).mono oZ)⟩
      ·rintro aA ⟨he,_⟩;exact ni he
     ·
      exact aj (v:=a.eval (.tmp 3)) (by kernel_rfl) (bp rfl (by decide) hI (ι _ _) (show NN g F w3.heap.size 17 _ _ from hI.s3) (by kernel_rfl) rfl)
     ·
      have e:a.eval (.tmp 38)= ζ (some ⟨g,0,none⟩) 9 9:=bS (hG ⟨17, .data⟩ (by simp) rfl) (by decide);exact aj (v:= ε (some ⟨g,4 * 2,none⟩)) (aL (by show(μ 118 (a.eval (.tmp 38)) (V Z 4)).run _ _=_;rw[e];exact dH g 4 (by decide) w')) (bp rfl (by decide) hI (ι _ _) (show NN g F w3.heap.size 18 _ _ from rfl) (by kernel_rfl) rfl)
     ·
      have e:a.eval (.tmp 39)= ε (some ⟨g,4 * 2,none⟩):=bS (hG ⟨18, .data⟩ (by simp) rfl) (by decide);exact aj (v:=aZ (F 4)) (aL (by show(ν 122 (a.eval (.tmp 39))).run _ _=_;rw[e];exact dk (hF.on hI.below) (by decide))) (bp rfl (by decide) hI (ι _ _) (show NN g F w3.heap.size 19 _ _ from rfl) (by kernel_rfl) rfl)
     ·
      have e:a.eval (.tmp 40)=aZ (F 4):=bS (hG ⟨19, .data⟩ (by simp) rfl) (by decide);refine dK (R:=qg (mK 1 12) (F 4) 3 w') (f:=136) (args:=#[a.eval (.tmp 40), V Z 3, .func (.func 145) #[] #[]]) (by kernel_rfl) (by rw[e];exact PQ (F 4) w' (Eu.on hI.below) (jY 4)) ?_ ?_ ?_
      ·rintro v aA ⟨⟨zs,v',hz,he,hv⟩|⟨_,he⟩,hb⟩
       ·obtain rfl:v=v':=κ he;exact(bp rfl (by decide) hI hb (show NN g F w3.heap.size 20 _ _ from⟨zs,hz,hv⟩) (by kernel_rfl) rfl)
       ·cases he
      ·rintro c aA ⟨⟨zs,v',hz,he,hv⟩|⟨hz,he⟩,hb⟩
       ·cases he
       ·obtain rfl:c=_:=ξ he;exact⟨hI.defers, .inr ⟨no fun⟨r,hr⟩=>(by have:=hr.ms;rw[hz]at this;cases this),rfl⟩,ah.trans ((hI.below.trans (hb.mono hI.below.size)).mono oZ)⟩
      ·rintro aA ⟨⟨zs,v',hz,he,hv⟩|⟨hz,he⟩,_⟩<;>cases he
     ·
      exact aj (v:=a.eval (.tmp 3)) (by kernel_rfl) (bp rfl (by decide) hI (ι _ _) (show NN g F w3.heap.size 21 _ _ from hI.s3) (by kernel_rfl) rfl)
     ·
      have e:a.eval (.tmp 42)= ζ (some ⟨g,0,none⟩) 9 9:=bS (hG ⟨21, .data⟩ (by simp) rfl) (by decide);exact aj (v:= ε (some ⟨g,5 * 2,none⟩)) (aL (by show(μ 118 (a.eval (.tmp 42)) (V Z 5)).run _ _=_;rw[e];exact dH g 5 (by decide) w')) (bp rfl (by decide) hI (ι _ _) (show NN g F w3.heap.size 22 _ _ from rfl) (by kernel_rfl) rfl)
     ·
      have e:a.eval (.tmp 43)= ε (some ⟨g,5 * 2,none⟩):=bS (hG ⟨22, .data⟩ (by simp) rfl) (by decide);exact aj (v:=aZ (F 5)) (aL (by show(ν 122 (a.eval (.tmp 43))).run _ _=_;rw[e];exact dk (hF.on hI.below) (by decide))) (bp rfl (by decide) hI (ι _ _) (show NN g F w3.heap.size 23 _ _ from rfl) (by kernel_rfl) rfl)
     ·
      have e:a.eval (.tmp 44)=aZ (F 5):=bS (hG ⟨23, .data⟩ (by simp) rfl) (by decide);refine dK (R:=qg (qQ 31) (F 5) 3 w') (f:=136) (args:=#[a.eval (.tmp 44), V Z 3, .func (.func 146) #[] #[]]) (by kernel_rfl) (by rw[e];exact BY (F 5) w' (Eu.on hI.below) (jY 5)) ?_ ?_ ?_
      ·rintro v aA ⟨⟨zs,v',hz,he,hv⟩|⟨_,he⟩,hb⟩
       ·obtain rfl:v=v':=κ he;exact(bp rfl (by decide) hI hb (show NN g F w3.heap.size 24 _ _ from⟨zs,hz,hv⟩) (by kernel_rfl) rfl)
       ·cases he
      ·rintro c aA ⟨⟨zs,v',hz,he,hv⟩|⟨hz,he⟩,hb⟩
       ·cases he
       ·obtain rfl:c=_:=ξ he;exact⟨hI.defers, .inr ⟨no fun⟨r,hr⟩=>(by have:=hr.mds;rw[hz]at this;cases this),rfl⟩,ah.trans ((hI.below.trans (hb.mono hI.below.size)).mono oZ)⟩
      ·rintro aA ⟨⟨zs,v',hz,he,hv⟩|⟨hz,he⟩,_⟩<;>cases he
     ·
      exact aj (v:=a.eval (.tmp 3)) (by kernel_rfl) (bp rfl (by decide) hI (ι _ _) (show NN g F w3.heap.size 25 _ _ from hI.s3) (by kernel_rfl) rfl)
     ·
      have e:a.eval (.tmp 46)= ζ (some ⟨g,0,none⟩) 9 9:=bS (hG ⟨25, .data⟩ (by simp) rfl) (by decide);exact aj (v:= ε (some ⟨g,6 * 2,none⟩)) (aL (by show(μ 118 (a.eval (.tmp 46)) (V Z 6)).run _ _=_;rw[e];exact dH g 6 (by decide) w')) (bp rfl (by decide) hI (ι _ _) (show NN g F w3.heap.size 26 _ _ from rfl) (by kernel_rfl) rfl)
     ·
      have e:a.eval (.tmp 47)= ε (some ⟨g,6 * 2,none⟩):=bS (hG ⟨26, .data⟩ (by simp) rfl) (by decide);exact aj (v:=aZ (F 6)) (aL (by show(ν 122 (a.eval (.tmp 47))).run _ _=_;rw[e];exact dk (hF.on hI.below) (by decide))) (bp rfl (by decide) hI (ι _ _) (show NN g F w3.heap.size 27 _ _ from rfl) (by kernel_rfl) rfl)
     ·
      have e:a.eval (.tmp 48)=aZ (F 6):=bS (hG ⟨27, .data⟩ (by simp) rfl) (by decide);refine dK (R:=Rm (F 6) w') (f:=147) (args:=#[a.eval (.tmp 48), V Z 3, .func (.func 148) #[] #[]]) (by kernel_rfl) (by rw[e];exact PN (F 6) w' (Eu.on hI.below) (jY 6)) ?_ ?_ ?_
      ·rintro v aA ⟨⟨zs,v',hz,he,hv⟩|⟨_,he⟩,hb⟩
       ·obtain rfl:v=v':=κ he;exact(bp rfl (by decide) hI hb (show NN g F w3.heap.size 28 _ _ from⟨zs,hz,hv⟩) (by kernel_rfl) rfl)
       ·cases he
      ·rintro c aA ⟨⟨zs,v',hz,he,hv⟩|⟨hz,he⟩,hb⟩
       ·cases he
       ·obtain rfl:c=_:=ξ he;exact⟨hI.defers, .inr ⟨no fun⟨r,hr⟩=>(by have:=hr.wks;rw[hz]at this;cases this),rfl⟩,ah.trans ((hI.below.trans (hb.mono hI.below.size)).mono oZ)⟩
      ·rintro aA ⟨⟨zs,v',hz,he,hv⟩|⟨hz,he⟩,_⟩<;>cases he
     ·
      exact aj (v:=a.eval (.tmp 3)) (by kernel_rfl) (bp rfl (by decide) hI (ι _ _) (show NN g F w3.heap.size 29 _ _ from hI.s3) (by kernel_rfl) rfl)
     ·
      have e:a.eval (.tmp 50)= ζ (some ⟨g,0,none⟩) 9 9:=bS (hG ⟨29, .data⟩ (by simp) rfl) (by decide);exact aj (v:= ε (some ⟨g,7 * 2,none⟩)) (aL (by show(μ 118 (a.eval (.tmp 50)) (V Z 7)).run _ _=_;rw[e];exact dH g 7 (by decide) w')) (bp rfl (by decide) hI (ι _ _) (show NN g F w3.heap.size 30 _ _ from rfl) (by kernel_rfl) rfl)
     ·
      have e:a.eval (.tmp 51)= ε (some ⟨g,7 * 2,none⟩):=bS (hG ⟨30, .data⟩ (by simp) rfl) (by decide);exact aj (v:=aZ (F 7)) (aL (by show(ν 122 (a.eval (.tmp 51))).run _ _=_;rw[e];exact dk (hF.on hI.below) (by decide))) (bp rfl (by decide) hI (ι _ _) (show NN g F w3.heap.size 31 _ _ from rfl) (by kernel_rfl) rfl)
     ·
      have e:a.eval (.tmp 52)=aZ (F 7):=bS (hG ⟨31, .data⟩ (by simp) rfl) (by decide);refine dK (R:=qg (qQ 366) (F 7) 3 w') (f:=136) (args:=#[a.eval (.tmp 52), V Z 3, .func (.func 149) #[] #[]]) (by kernel_rfl) (by rw[e];exact PR (F 7) w' (Eu.on hI.below) (jY 7)) ?_ ?_ ?_
      ·rintro v aA ⟨⟨zs,v',hz,he,hv⟩|⟨_,he⟩,hb⟩
       ·obtain rfl:v=v':=κ he;exact(bp rfl (by decide) hI hb (show NN g F w3.heap.size 32 _ _ from⟨zs,hz,hv⟩) (by kernel_rfl) rfl)
       ·cases he
      ·rintro c aA ⟨⟨zs,v',hz,he,hv⟩|⟨hz,he⟩,hb⟩
       ·cases he
       ·obtain rfl:c=_:=ξ he;exact⟨hI.defers, .inr ⟨no fun⟨r,hr⟩=>(by have:=hr.pls;rw[hz]at this;cases this),rfl⟩,ah.trans ((hI.below.trans (hb.mono hI.below.size)).mono oZ)⟩
      ·rintro aA ⟨⟨zs,v',hz,he,hv⟩|⟨hz,he⟩,_⟩<;>cases he
     ·
      exact aj (v:=a.eval (.tmp 3)) (by kernel_rfl) (bp rfl (by decide) hI (ι _ _) (show NN g F w3.heap.size 33 _ _ from hI.s3) (by kernel_rfl) rfl)
     ·
      have e:a.eval (.tmp 54)= ζ (some ⟨g,0,none⟩) 9 9:=bS (hG ⟨33, .data⟩ (by simp) rfl) (by decide);exact aj (v:= ε (some ⟨g,8 * 2,none⟩)) (aL (by show(μ 118 (a.eval (.tmp 54)) (V Z 8)).run _ _=_;rw[e];exact dH g 8 (by decide) w')) (bp rfl (by decide) hI (ι _ _) (show NN g F w3.heap.size 34 _ _ from rfl) (by kernel_rfl) rfl)
     ·
      have e:a.eval (.tmp 55)= ε (some ⟨g,8 * 2,none⟩):=bS (hG ⟨34, .data⟩ (by simp) rfl) (by decide);exact aj (v:=aZ (F 8)) (aL (by show(ν 122 (a.eval (.tmp 55))).run _ _=_;rw[e];exact dk (hF.on hI.below) (by decide))) (bp rfl (by decide) hI (ι _ _) (show NN g F w3.heap.size 35 _ _ from rfl) (by kernel_rfl) rfl)
     ·
      have e:a.eval (.tmp 56)=aZ (F 8):=bS (hG ⟨35, .data⟩ (by simp) rfl) (by decide);refine dK (R:=fun E aA=>E= δ (η ⟨((F 8).getD [77,79]).toArray⟩)∧Below w'.heap.size w' aA) (f:=134) (args:=#[a.eval (.tmp 56), η ⟨#[77,79]⟩]) (by kernel_rfl) (by rw[e];exact Eo (F 8) [77,79] w') ?_ ?_ ?_
      ·rintro v aA ⟨he,hb⟩;obtain rfl:v=_:=κ he;exact(bp rfl (by decide) hI hb (show NN g F w3.heap.size 36 _ _ from rfl) (by kernel_rfl) rfl)
      ·rintro c aA ⟨he,hb⟩;cases he
      ·rintro aA ⟨he,_⟩;cases he
     ·
      have e:a.eval (.tmp 57)= η ⟨((F 8).getD [77,79]).toArray⟩:=bS (hG ⟨36, .data⟩ (by simp) rfl) (by decide);refine dK (R:=fun E aA=>E=dR 3 (wE ((F 8).getD [77,79]))∧Below w'.heap.size w' aA) (f:=150) (args:=#[a.eval (.tmp 57)]) (by kernel_rfl) (by rw[e];exact(ot _ w').mono fun E aA ⟨h1,h2⟩=>⟨by rw[h1,Ob];rfl,h2⟩) ?_ ?_ ?_
      ·rintro v aA ⟨he,hb⟩;obtain⟨z,hz,rfl⟩:=ng he;exact(bp rfl (by decide) hI hb (show NN g F w3.heap.size 37 _ _ from⟨z,hz,rfl⟩) (by kernel_rfl) rfl)
      ·rintro c aA ⟨he,hb⟩;obtain⟨hz,rfl⟩:=nh he;exact⟨hI.defers, .inr ⟨no fun⟨r,hr⟩=>(by have:=hr.ws;rw[hz]at this;cases this),rfl⟩,ah.trans ((hI.below.trans (hb.mono hI.below.size)).mono oZ)⟩
      ·rintro aA ⟨he,_⟩;exact ni he
     ·
      exact aj (v:=a.eval (.tmp 3)) (by kernel_rfl) (bp rfl (by decide) hI (ι _ _) (show NN g F w3.heap.size 38 _ _ from hI.s3) (by kernel_rfl) rfl)
     ·
      have e:a.eval (.tmp 59)= ζ (some ⟨g,0,none⟩) 9 9:=bS (hG ⟨38, .data⟩ (by simp) rfl) (by decide);refine dK (R:=fun E aA=>E= δ (η (gw F))∧Below w'.heap.size w' aA) (f:=151) (args:=#[a.eval (.tmp 59)]) (by kernel_rfl) (by rw[e];exact Dp g F w' (hF.on hI.below) jY) ?_ ?_ ?_
      ·rintro v aA ⟨he,hb⟩;obtain rfl:v=_:=κ he;exact(bp rfl (by decide) hI hb (show NN g F w3.heap.size 39 _ _ from rfl) (by kernel_rfl) rfl)
      ·rintro c aA ⟨he,hb⟩;cases he
      ·rintro aA ⟨he,_⟩;cases he
     ·
      obtain⟨z0,q0,t0⟩:=bS (hG ⟨3, .data⟩ (by simp) rfl) (by decide);obtain⟨z1,q1,t1⟩:=bS (hG ⟨8, .data⟩ (by simp) rfl) (by decide);obtain⟨z2,q2,t2⟩:=bS (hG ⟨12, .data⟩ (by simp) rfl) (by decide);obtain⟨z3,q3,t3⟩:=bS (hG ⟨16, .data⟩ (by simp) rfl) (by decide);obtain⟨l4,q4,t4⟩:=bS (hG ⟨20, .data⟩ (by simp) rfl) (by decide);obtain⟨l5,q5,t5⟩:=bS (hG ⟨24, .data⟩ (by simp) rfl) (by decide);obtain⟨l6,q6,t6⟩:=bS (hG ⟨28, .data⟩ (by simp) rfl) (by decide);obtain⟨l7,q7,t7⟩:=bS (hG ⟨32, .data⟩ (by simp) rfl) (by decide);obtain⟨z8,q8,t8⟩:=bS (hG ⟨37, .data⟩ (by simp) rfl) (by decide);have t9:=bS (hG ⟨39, .data⟩ (by simp) rfl) (by decide);obtain⟨a4,e4⟩:=t4.form;obtain⟨a5,e5⟩:=t5.form;obtain⟨a6,e6⟩:=t6.form;obtain⟨a7,e7⟩:=t7.form;exact aj (v:=aY z0 z1 z2 z3 (a.eval (.tmp 41)) (a.eval (.tmp 45)) (a.eval (.tmp 49)) (a.eval (.tmp 53)) z8 (gw F)) (aL (by simp only[List.map_toArray,List.map_cons,List.map_nil];rw[show a.eval (.tmp 24)=_ from t0,show a.eval (.tmp 29)=_ from t1,show a.eval (.tmp 33)=_ from t2,show a.eval (.tmp 37)=_ from t3,show a.eval (.tmp 58)=_ from t8,show a.eval (.tmp 60)=_ from t9,show a.eval (.tmp 41)=_ from e4,show a.eval (.tmp 45)=_ from e5,show a.eval (.tmp 49)=_ from e6,show a.eval (.tmp 53)=_ from e7];exact Rn ..)) (bp rfl (by decide) hI (ι _ _) (show NN g F w3.heap.size 40 _ _ from⟨⟨z0,z1,z2,z3,l4,l5,l6,l7,z8⟩,_,_,_,_,⟨q0,q1,q2,q3,q4,q5,q6,q7,q8⟩,rfl,t4,t5,t6,t7⟩) (by kernel_rfl) rfl)
     ·
      exact aj (v:= ε (some ⟨w'.heap.size,0,none⟩)) (w':=w'.alloc (θ aU.toArray 76)) (by kernel_rfl) (bp rfl (by decide) hI ((ι _ _).alloc (π _) _) (show NN g F w3.heap.size 41 _ _ from⟨_,rfl,hI.below.size,aU,rfl,af.new _ _ _⟩) (by kernel_rfl) rfl)
     ·
      obtain⟨b,eb,Hc,cs,sA,ax⟩:=bS (hG ⟨41, .data⟩ (by simp) rfl) (by decide);have hv:RV F w' (a.eval (.tmp 61)):=bS (hG ⟨40, .data⟩ (by simp) rfl) (by decide);obtain⟨aA,Dr,fA,wU,lh⟩:=Vb ax sA Hc hI.below hv;refine rT (w':=aA) (py (by show(φ 76 (a.eval (.tmp 4)) (a.eval (.tmp 61))).run _ _=_;rw[show a.eval (.tmp 4)=_ from eb];exact Dr)) ⟨⟨hI.size,hI.defers,hI.s2,hI.s3,fA⟩,?_,fun j oj gy hj _ hg=>?_⟩
      ·unfold GG;rw[if_pos rfl];exact⟨b,eb,Hc,lh⟩
      ·have Er:j<43:=(Array.getElem?_eq_some_iff.1 gy).1;unfold GG at hg⊢;rw[if_neg hj]at hg⊢;exact NN.gr hg wU
    ·intro a w4 hI hG;have g42:=hG 42 (by decide);unfold GG at g42;rw[if_pos rfl]at g42;obtain⟨b,eb,Hc,r,m,md,wk,pl,hP,lh,i1,i2,i3,i4⟩:=g42;obtain⟨f,rfl,sC⟩:=ZJ a hI.size hI.defers;have e2:=(sC 2).symm.trans hI.s2;have e4:=(sC 4).symm.trans eb;have dN:=hI.below;have XA:=ax.on dN;have hB4:=dN.size;have hP':=hP;obtain⟨q0,q1,q2,q3,q4,q5,q6,q7,q8⟩:=hP';have zQ:=Oe q0;obtain⟨a1,s1⟩:=i1.form;obtain⟨a2,s2⟩:=i2.form;obtain⟨a3,s3⟩:=i3.form;obtain⟨a4,s4⟩:=i4.form;subst s1 s2 s3 s4;have CA:=FX r.fq r.iv r.ct r.un r.ws a1 a2 a4 r.ms.length r.mds.length r.pls.length r.ms.length r.mds.length r.pls.length (ζ a3 r.wks.length r.wks.length) (gw F) r.wks w4 zQ.1 zQ.2 (rV q6) i3;unfold bW at lh;have d0:=lh.cell (k:=0) rfl;have d1:=lh.cell (k:=1) rfl;have d2:=lh.cell (k:=2) rfl;have d3:=lh.cell (k:=3) rfl;have d4:=lh.cell (k:=4) rfl;have d5:=lh.cell (k:=5) rfl;have d6:=lh.cell (k:=6) rfl;have d7:=lh.cell (k:=7) rfl;have d8:=lh.cell (k:=8) rfl;have d9:=lh.cell (k:=9) rfl;clear hI hG sC q0 q1 q2 q3 q4 q5 q6 q7 q8 zQ c2 c3 CG CS HS Kq Eu hF jY FV no pa;rw[e2,e4];cases Ev:qh r with
     |false=>
      rw[show sy r.fq r.ms.length r.mds.length r.wks.length r.pls.length (fU r.wks)=false from Ev]at CA;have HN:Hid (¬∃F r,lT s F r):=ad (fun⟨F',r',h1,_,h3,h4⟩=>by rw[HU.out F' h1]at h3;rw[←hP.uniq h3,Ev]at h4;cases h4);unfold aY at CA;have C:=ad CA;clear CA Ev hP;go_wp2_with (first
       |(go_at_call 152;refine(C.out).mono ?_;rintro e w5 ⟨rfl,bk⟩)
       |(go_at_call_of 65 (ρ false);refine(aM _ _).mono ?_;rintro e w' ⟨rfl,rfl⟩))
      exact⟨rfl, .inr ⟨HN.out,rfl⟩,ah.trans ((dN.trans (bk.mono hB4)).mono oZ)⟩
     |true=>
      rw[show sy r.fq r.ms.length r.mds.length r.wks.length r.pls.length (fU r.wks)=true from Ev]at CA;have HR:Hid (lT s F r):=ad ⟨HP.out,H23.out,hP,Ev⟩;unfold aY at CA;unfold aU bW at XA;have C:=ad CA;clear CA Ev hP;go_wp2_with (first
       |(go_at_call 152;refine(C.out).mono ?_;rintro e w5 ⟨rfl,bk⟩;have wH:=lh.on bk;have jL:=XA.on bk;have x0:=wH.cell (k:=0) rfl;have x1:=wH.cell (k:=1) rfl;have x2:=wH.cell (k:=2) rfl;have x3:=wH.cell (k:=3) rfl;have x4:=wH.cell (k:=4) rfl;have x5:=wH.cell (k:=5) rfl;have x6:=wH.cell (k:=6) rfl;have x7:=wH.cell (k:=7) rfl;have x8:=wH.cell (k:=8) rfl;have x9:=wH.cell (k:=9) rfl;have y0:=jL.cell (k:=0) rfl;have f0:=jL.free (k:=0);have y1:=jL.cell (k:=1) rfl;have f1:=jL.free (k:=1);have y2:=jL.cell (k:=2) rfl;have f2:=jL.free (k:=2);have y3:=jL.cell (k:=3) rfl;have f3:=jL.free (k:=3);have y4:=jL.cell (k:=4) rfl;have f4:=jL.free (k:=4);have y5:=jL.cell (k:=5) rfl;have f5:=jL.free (k:=5);have y6:=jL.cell (k:=6) rfl;have f6:=jL.free (k:=6);have y7:=jL.cell (k:=7) rfl;have f7:=jL.free (k:=7);have y8:=jL.cell (k:=8) rfl;have f8:=jL.free (k:=8);have y9:=jL.cell (k:=9) rfl;have f9:=jL.free (k:=9))
       |(go_at_call_of 65 (ρ true);refine(aF _ _).mono ?_;rintro e w' ⟨rfl,rfl⟩))
      have hbf:Below w.heap.size w w5:=ah.trans ((dN.trans (bk.mono hB4)).mono oZ);obtain⟨hg,fA⟩:=aa3 jL rfl (π _) hbf (V Z r.fq) (V Z r.iv) (V Z r.ct) (V Z r.un) (ζ a1 r.ms.length r.ms.length) (ζ a2 r.mds.length r.mds.length) (ζ a3 r.wks.length r.wks.length) (ζ a4 r.pls.length r.pls.length) (V Z r.ws) (η (gw F));exact bodyPost_ret (v:=aY r.fq r.iv r.ct r.un (ζ a1 r.ms.length r.ms.length) (ζ a2 r.mds.length r.mds.length) (ζ a3 r.wks.length r.wks.length) (ζ a4 r.pls.length r.pls.length) r.ws (gw F)) (by simp[results,results81,go_sem,aY,y0,y1,y2,y3,y4,y5,y6,y7,y8,y9]) rfl
       ⟨.inl ⟨F,r,_,_,_,_,HR.out,rfl,(i1.on bk).gr pT hg,(i2.on bk).gr pT hg,(i3.on bk).gr PT hg,(i4.on bk).gr pT hg⟩,fA⟩
def lu:List (List UInt8):=[[79,80,65,81,85,69],[84,82,65,78,83,80,65,82,69,78,84]]
def dm:List (List UInt8):=[[67,79,78,70,73,82,77,69,68],[84,69,78,84,65,84,73,86,69],[67,65,78,67,69,76,76,69,68]]
def zR (f:Option (List UInt8)):Option Bool:=(idx lu (f.getD [79,80,65,81,85,69])).map fun k:Nat=>(k:Int)==1
def zS (f:Option (List UInt8)):Option Int:=(idx dm (f.getD [67,79,78,70,73,82,77,69,68])).map fun k:Nat=>(k:Int)
def uD (x:Int)(o:Option Bool):Ending:=match o with|none=> .panicked (bN x)|some z=> δ (.bool z)
theorem zH (f:Option (List UInt8))(w:τ):
 υ prog 76 #[aZ f] w fun E w'=>E=uD 2 (zR f)∧Below w.heap.size w w':=by
 have CO:=ad fun W=>Eo f [79,80,65,81,85,69] W;have CC:=ad fun W=>ou W.heap.size 0 2 lu (f.getD [79,80,65,81,85,69]) 2 (W.alloc (θ (strs lu).toArray 9)) (by decide) (iE W lu 9);unfold aZ at CO⊢;cases hi:idx lu (f.getD [79,80,65,81,85,69])with
 |none=>
  rw[show zR f=none from by unfold zR;rw[hi];rfl];have HX:=ad (qk (x:=2) hi);clear hi;go_enter func76,ntmps76;go_wp2_with (first
   |(go_at_call 134;refine(CO.out _).mono ?_;rintro e w1 ⟨rfl,ai⟩)
   |(go_at_call 133;refine(CC.out _).mono ?_;rw[HX.out];rintro e w' ⟨rfl,rfl⟩))
  exact⟨rfl,rfl,(((ι _ _).alloc (π _) _).trans (ai.mono (by simp))).alloc (by have:=ai.size;simp at this;omega) _⟩
 |some k=>
  rw[show zR f=some ((k:Int)==1)from by unfold zR;rw[hi];rfl];have HX:=ad (nI (x:=2) hi);clear hi;go_enter func76,ntmps76;go_wp2_with (first
   |(go_at_call 134;refine(CO.out _).mono ?_;rintro e w1 ⟨rfl,ai⟩)
   |(go_at_call 133;refine(CC.out _).mono ?_;rw[HX.out];rintro e w' ⟨rfl,rfl⟩))
  go_ret;exact⟨rfl,(((ι _ _).alloc (π _) _).trans (ai.mono (by simp))).alloc (by have:=ai.size;simp at this;omega) _⟩
theorem gV (w:τ):υ prog 86 #[] w fun E w'=>E= δ (ζ (some ⟨w.heap.size,0,none⟩) 3 3)∧w'=w.alloc (θ (strs dm).toArray 9):=by
 go_enter func86,ntmps86;go_wp2;go_ret;exact⟨rfl,rfl⟩
theorem FY (f:Option (List UInt8))(w:τ):
 υ prog 77 #[aZ f] w fun E w'=>E=dR 2 (zS f)∧Below w.heap.size w w':=by
 have CO:=ad fun W=>Eo f [67,79,78,70,73,82,77,69,68] W;have CC:=ad fun W=>ou W.heap.size 0 3 dm (f.getD [67,79,78,70,73,82,77,69,68]) 2 (W.alloc (θ (strs dm).toArray 9)) (by decide) (iE W dm 9);unfold aZ at CO⊢;cases hi:idx dm (f.getD [67,79,78,70,73,82,77,69,68])with
 |none=>
  rw[show zS f=none from by unfold zS;rw[hi];rfl];have HX:=ad (qk (x:=2) hi);clear hi;go_enter func77,ntmps77;go_wp2_with (first
   |(go_at_call 134;refine(CO.out _).mono ?_;rintro e w1 ⟨rfl,ai⟩)
   |(go_at_call 86;refine(gV _).mono ?_;rintro e w2 ⟨rfl,rfl⟩)
   |(go_at_call 133;refine(CC.out _).mono ?_;rw[HX.out];rintro e w' ⟨rfl,rfl⟩))
  exact⟨rfl,rfl,(((ι _ _).alloc (π _) _).trans (ai.mono (by simp))).alloc (by have:=ai.size;simp at this;omega) _⟩
 |some k=>
  rw[show zS f=some (k:Int)from by unfold zS;rw[hi];rfl];have HX:=ad (nI (x:=2) hi);clear hi;go_enter func77,ntmps77;go_wp2_with (first
   |(go_at_call 134;refine(CO.out _).mono ?_;rintro e w1 ⟨rfl,ai⟩)
   |(go_at_call 86;refine(gV _).mono ?_;rintro e w2 ⟨rfl,rfl⟩)
   |(go_at_call 133;refine(CC.out _).mono ?_;rw[HX.out];rintro e w' ⟨rfl,rfl⟩))
  go_ret;exact⟨rfl,(((ι _ _).alloc (π _) _).trans (ai.mono (by simp))).alloc (by have:=ai.size;simp at this;omega) _⟩
theorem Ds (v:List UInt8)(w:τ)(hl:v.length≤maxLen):
 υ prog 135 #[η ⟨v.toArray⟩] w fun E w'=>E=dR 1 (fN v)∧Below w.heap.size w w':=by
 have k:=fun W=>xY ⟨v.toArray⟩ W hl;rw[show(⟨v.toArray⟩:ByteArray).data.toList=v from rfl]at k;cases hv:fN v with
 |none=>
  rw[hv]at k;unfold zT at k;have C:=ad k;clear k hv hl;go_enter func135,ntmps135;go_wp2_with (first
   |(go_at_call 20;refine(C.out _).mono ?_;rintro e w1 ⟨rfl,ai⟩)
   |(go_at_call_of 65 (ρ false);refine(aM _ _).mono ?_;rintro e w' ⟨rfl,rfl⟩))
  exact⟨rfl,rfl,ai⟩
 |some n=>
  rw[hv]at k;unfold zT at k;have C:=ad k;clear k hv hl;go_enter func135,ntmps135;go_wp2_with (first
   |(go_at_call 20;refine(C.out _).mono ?_;rintro e w1 ⟨rfl,ai⟩)
   |(go_at_call_of 65 (ρ true);refine(aF _ _).mono ?_;rintro e w' ⟨rfl,rfl⟩))
  go_ret;exact⟨rfl,ai⟩
def jv (start:Int)(e l:Option (List UInt8)):Option Int:=
 match(match e with|some v=>(ea v).map fun z=>z - start|none=>fN (l.getD []))with
 |none=>none
 |some z=>if 1≤z∧z≤2678400 then some z else none
end Go.Proofs.YthpndgcaoeokeaaGreatDoor
