import Derived.Test.YthpndgcaoeokeaaGreatDoorCo21
set_option maxRecDepth 100000
set_option maxHeartbeats 8000000
open Go.IntKind renaming i64→Z
open Go.Value renaming int→V,slice→ε,string→ζ
open Go.Ending renaming returned→δ
open Go.Obj renaming cells→η
open Nat renaming le_refl→θ
open Go.RowKit.Below renaming refl→ι
open Go renaming Calls→κ,World→μ,Regrown→ξ,TypeId→ο
open Go.Calls renaming regrown_of→ν
namespace Go.Proofs.YthpndgcaoeokeaaGreatDoor
open Tryz
open Go.RowKit Go.Sort
def dt (a b:Int):Value:= .agg #[V Z (ae.ag a), V Z (ae.ofM a), V Z (ae.ar a), V Z (ae.ag b), V Z (ae.ofM b), V Z (ae.ar b)]
def pY (a b:Int):List Value:=[V Z (ae.ag a), V Z (ae.ofM a), V Z (ae.ar a), V Z (ae.ag b), V Z (ae.ofM b), V Z (ae.ar b)]
def nU (a:Int):List Value:=[V Z (ae.ag a), V Z (ae.ofM a), V Z (ae.ar a)]
theorem jF {w:μ}{g:Nat}{a b c d e f:Value}{t:ο}(h:af w g [a,b,c,d,e,f] t):
 (w.cell? ⟨g,0,none⟩=some a∧w.cell? ⟨g,1,none⟩=some b∧w.cell? ⟨g,2,none⟩=some c∧w.cell? ⟨g,3,none⟩=some d∧w.cell? ⟨g,4,none⟩=some e∧w.cell? ⟨g,5,none⟩=some f)∧
 (w.frozen? ⟨g,0,none⟩=false∧w.frozen? ⟨g,1,none⟩=false∧w.frozen? ⟨g,2,none⟩=false∧w.frozen? ⟨g,3,none⟩=false∧w.frozen? ⟨g,4,none⟩=false∧w.frozen? ⟨g,5,none⟩=false):=
 ⟨⟨h.cell rfl,h.cell rfl,h.cell rfl,h.cell rfl,h.cell rfl,h.cell rfl⟩,h.free,h.free,h.free,h.free,h.free,h.free⟩
theorem aeS (x:μ):Below x.heap.size x (x.alloc (η #[V Z 0, V Z 0, V Z 0, V Z 0, V Z 0, V Z 0] 370)):=(ι _ _).alloc (θ _) _
theorem Z6 (n:Int)(w:μ)(h0:-700000≤n)(h1:n≤899999):
 κ prog 350 #[aO n] w fun e w'=>e= δ (dt n (n+1))∧Below w.heap.size w w':=by
 have aX:=SB n;unfold aO cS at aX⊢;unfold dt;go_enter func350,ntmps350;go_wp2_with fail;have r0:=(af.new w [V Z (ae.ag n), V Z (ae.ofM n), V Z (ae.ar n)] 106);have r1:=(af.new (w.alloc (η #[V Z (ae.ag n), V Z (ae.ofM n), V Z (ae.ar n)] 106)) [V Z 0, V Z 0, V Z 0, V Z 0, V Z 0, V Z 0] 370);have r0':=r0.on ((ι _ _).alloc (θ _) (η #[V Z 0, V Z 0, V Z 0, V Z 0, V Z 0, V Z 0] 370));have ah:Below w.heap.size w ((w.alloc (η #[V Z (ae.ag n), V Z (ae.ofM n), V Z (ae.ar n)] 106)).alloc (η #[V Z 0, V Z 0, V Z 0, V Z 0, V Z 0, V Z 0] 370)):=((ι _ _).alloc (θ _) _).alloc (by simp) _;clear r0;simp only[World.size_alloc]at r1;generalize(w.alloc (η #[V Z (ae.ag n), V Z (ae.ofM n), V Z (ae.ar n)] 106)).alloc (η #[V Z 0, V Z 0, V Z 0, V Z 0, V Z 0, V Z 0] 370)=W at *
 obtain⟨c0,c1,c2,_,_,_⟩:=bV r0';go_region_with (go_at_call 359;refine(aX _ h0 h1).mono ?_;rintro e w2 ⟨rfl,az⟩;have qM:Below W.heap.size W w2:=⟨az.os,az.tape,az.output,az.size,az.block⟩;obtain⟨q0,q1,q2,_,_,_⟩:=bV (r0'.on qM);obtain⟨⟨z0,z1,z2,z3,z4,z5⟩,y0,y1,y2,y3,y4,y5⟩:=jF (r1.on qM))
 all_goals go_wp2_with fail
 all_goals
  have pj:=ah.trans (qM.mono ah.size);exact bodyPost_ret (v:= .agg #[V Z (ae.ag n), V Z (ae.ofM n), V Z (ae.ar n), V Z (ae.ag (n+1)), V Z (ae.ofM (n+1)), V Z (ae.ar (n+1))]) (by simp[results,results350,go_sem,z0,z1,z2,z3,z4,z5]) rfl ⟨rfl,((((((pj.setCell (by simp) _).setCell (by simp) _).setCell (by simp) _).setCell (by simp) _).setCell (by simp) _).setCell (by simp) _)⟩
def dV (n s:Int):Int:=((n+719470)%7 - s+7)%7
theorem pG (n s:Int):0≤dV n s∧dV n s≤6:=by unfold dV;omega
theorem SD (n s:Int)(w:μ)(h0:-699990≤n)(h1:n≤899990)(s0:0≤s)(s1:s≤6):
 κ prog 352 #[aO n, V Z s] w fun e w'=>e= δ (dt (n - dV n s) (n - dV n s+7))∧Below w.heap.size w w':=by
 have Lw:=As n;have mf:=xx n (-(((n+719470)%7 - s)%7));have Sp:=xx (n - dV n s) 7;have hi:=pG n s;rw[show n+-(((n+719470)%7 - s)%7)=n - dV n s from by unfold dV;omega]at mf;generalize hf:n - dV n s=f at *
 have kC:-700000≤f:=by omega
 have zq:f+7≤900000:=by omega
 have hw7:0≤(n+719470)%7∧(n+719470)%7≤6:=by omega
 have hi7:0≤((n+719470)%7 - s+7)%7∧((n+719470)%7 - s+7)%7≤6:=by omega
 generalize hk:(n+719470)%7=k at *
 unfold aO cS at Lw mf Sp⊢;unfold dt;go_enter func352,ntmps352;go_wp2_with fail;have rz:af ((w.alloc (η #[V Z (ae.ag n), V Z (ae.ofM n), V Z (ae.ar n)] 106)).alloc (η #[V Z 0, V Z 0, V Z 0, V Z 0, V Z 0, V Z 0] 370)) w.heap.size [V Z (ae.ag n), V Z (ae.ofM n), V Z (ae.ar n)] 106:=(af.new w [V Z (ae.ag n), V Z (ae.ofM n), V Z (ae.ar n)] 106).on ((ι _ _).alloc (θ _) _);have r1:=(af.new (w.alloc (η #[V Z (ae.ag n), V Z (ae.ofM n), V Z (ae.ar n)] 106)) [V Z 0, V Z 0, V Z 0, V Z 0, V Z 0, V Z 0] 370);have ah:Below w.heap.size w ((w.alloc (η #[V Z (ae.ag n), V Z (ae.ofM n), V Z (ae.ar n)] 106)).alloc (η #[V Z 0, V Z 0, V Z 0, V Z 0, V Z 0, V Z 0] 370)):=((ι _ _).alloc (θ _) _).alloc (by simp) _;simp only[World.size_alloc]at r1;refine(Lw _ (by omega) (by omega)).mono ?_;rintro e w1 ⟨rfl,ai⟩;replace rz:=rz.on ai;replace r1:=r1.on ai;replace ah:=ah.trans (ai.mono ah.size);have hz:w.heap.size+2≤w1.heap.size:=by have:=ai.size;simpa using this
 clear ai;obtain⟨c0,c1,c2,_,_,_⟩:=bV rz;go_wp2_with fail;refine(mf _ (by omega) (by omega) (by omega) (by omega)).mono ?_;rintro e w2 ⟨rfl,az⟩;replace r1:=r1.on az;replace ah:=ah.trans (az.mono ah.size);replace hz:w.heap.size+2≤w2.heap.size:=by have:=az.size;omega
 clear az c0 c1 c2 rz;go_wp2_with fail;have r2:=af.new w2 [V Z (ae.ag f), V Z (ae.ofM f), V Z (ae.ar f)] 106;replace r1:=r1.on ((ι _ _).alloc (θ _) (η #[V Z (ae.ag f), V Z (ae.ofM f), V Z (ae.ar f)] 106));replace ah:=ah.alloc ah.size (η #[V Z (ae.ag f), V Z (ae.ofM f), V Z (ae.ar f)] 106);generalize(w2.alloc (η #[V Z (ae.ag f), V Z (ae.ofM f), V Z (ae.ar f)] 106))=W at *
 obtain⟨c0,c1,c2,_,_,_⟩:=bV r2;go_region_with (go_at_call 351;refine(Sp _ (by omega) (by omega) (by omega) (by omega)).mono ?_;rintro e w3 ⟨rfl,bw⟩;have qM:Below W.heap.size W w3:=⟨bw.os,bw.tape,bw.output,bw.size,bw.block⟩;obtain⟨q0,q1,q2,_,_,_⟩:=bV (r2.on qM);obtain⟨⟨z0,z1,z2,z3,z4,z5⟩,y0,y1,y2,y3,y4,y5⟩:=jF (r1.on qM))
 all_goals go_wp2_with fail
 all_goals
  have pj:=ah.trans (qM.mono ah.size);exact bodyPost_ret (v:= .agg #[V Z (ae.ag f), V Z (ae.ofM f), V Z (ae.ar f), V Z (ae.ag (f+7)), V Z (ae.ofM (f+7)), V Z (ae.ar (f+7))]) (by simp[results,results352,go_sem,z0,z1,z2,z3,z4,z5]) rfl ⟨rfl,((((((pj.setCell (by simp) _).setCell (by simp) _).setCell (by simp) _).setCell (by simp) _).setCell (by simp) _).setCell (by simp) _)⟩
def cx (y m:Int):Int:=ae.num (y+(m - 1)/12) ((m - 1)%12+1) 1
theorem VM (y m:Int)(hy:1≤y)(hm:1≤m):aO (cx y m)=cS (y+(m - 1)/12) ((m - 1)%12+1) 1:=by
 have hd:=ae.fS (y+(m - 1)/12) ((m - 1)%12+1);exact Lu (by omega) ⟨by omega,by omega,by omega,by omega⟩
theorem Lx (y:Int)(hy:1≤y):aO (ae.num y 1 1)=cS y 1 1:=by
 have hd:=ae.fS y 1;exact Lu (by omega) ⟨by omega,by omega,by omega,by omega⟩
theorem Au (y m:Int)(w:μ)(y0:1≤y)(y1:y≤5000)(m0:1≤m)(m1:m≤100000):
 κ prog 360 #[V Z y, V Z m] w fun e w'=>e= δ (aO (cx y m))∧Below w.heap.size w w':=by
 rw[VM y m y0 m0];unfold cS;go_enter func360,ntmps360;go_wp2_with fail;exact bodyPost_ret (v:= .agg #[V Z (y+(m - 1)/12), V Z ((m - 1)%12+1), V Z 1]) (by simp[results,results360,go_sem]) rfl ⟨rfl,(ι _ _).alloc (θ _) _⟩
theorem Gw (y m:Int)(w:μ)(y0:1≤y)(y1:y≤5000)(m0:1≤m)(m1:m≤90000):
 κ prog 353 #[V Z y, V Z m] w fun e w'=>e= δ (dt (cx y m) (cx y (m+1)))∧Below w.heap.size w w':=by
 have ai:=fun w=>Au y m w y0 y1 m0 (by omega);have az:=fun w=>Au y (m+1) w y0 y1 (by omega) (by omega);unfold aO cS at ai az;unfold dt;generalize cx y m=a at *
 generalize cx y (m+1)=b at *
 go_enter func353,ntmps353;go_wp2_with fail;have r1:=af.new w [V Z 0, V Z 0, V Z 0, V Z 0, V Z 0, V Z 0] 370;have ah:=aeS w;refine(ai _).mono ?_;rintro e w1 ⟨rfl,IF⟩;replace r1:=r1.on IF;replace ah:=ah.trans (IF.mono ah.size);clear IF;go_wp2_with fail;refine(az _).mono ?_;rintro e w2 ⟨rfl,mS⟩;replace r1:=r1.on mS;replace ah:=ah.trans (mS.mono ah.size);clear mS;obtain⟨⟨z0,z1,z2,z3,z4,z5⟩,y0,y1,y2,y3,y4,y5⟩:=jF r1;go_wp2_with fail;exact bodyPost_ret (v:= .agg #[V Z (ae.ag a), V Z (ae.ofM a), V Z (ae.ar a), V Z (ae.ag b), V Z (ae.ofM b), V Z (ae.ar b)]) (by simp[results,results353,go_sem,z0,z1,z2,z3,z4,z5]) rfl ⟨rfl,((((((ah.setCell (by simp) _).setCell (by simp) _).setCell (by simp) _).setCell (by simp) _).setCell (by simp) _).setCell (by simp) _)⟩
theorem SE (y:Int)(w:μ)(y0:1≤y)(y1:y≤5000):
 κ prog 354 #[V Z y] w fun e w'=>e= δ (dt (ae.num y 1 1) (ae.num (y+1) 1 1))∧Below w.heap.size w w':=by
 have e1:=Lx y y0;have e2:=Lx (y+1) (by omega);unfold aO cS at e1 e2;simp only[Value.agg.injEq,Array.mk.injEq,List.cons.injEq,Value.int.injEq,and_true,true_and]at e1 e2;unfold dt;rw[e1.1,e1.2.1,e1.2.2,e2.1,e2.2.1,e2.2.2];clear e1 e2;go_enter func354,ntmps354;go_wp2_with fail;exact bodyPost_ret (v:= .agg #[V Z y, V Z 1, V Z 1, V Z (y+1), V Z 1, V Z 1]) (by simp[results,results354,go_sem]) rfl ⟨rfl,(ι _ _).alloc (θ _) _⟩
theorem yE {w:μ}{v:Value}{zs:List Int}(x:Int)(h:cN w v zs)(hb:zs.length≤1000):
 κ prog 218 #[v, V Z x] w fun e w'=>e= δ (.bool (zs.contains x))∧Below w.heap.size w w':=by
 rcases h with⟨rfl,rfl⟩|⟨g,rfl,hr⟩
 ·refine(Tryz.slices_Contains_int_empty none 0 x w).mono ?_;rintro e w' ⟨rfl,rfl⟩;exact⟨rfl,ι _ _⟩
 ·refine(Tryz.slices_Contains_int g 0 zs.length zs.length zs x w (θ _) (by omega) (fun j hj=>?_)).mono ?_
  ·rw[Nat.zero_add];exact hr.cell (by rw[List.getElem?_map,List.getElem?_eq_getElem hj,List.getD_eq_getElem?_getD,List.getElem?_eq_getElem hj];rfl)
  ·rintro e w' ⟨rfl,rfl⟩;exact⟨by rw[List.take_length],ι _ _⟩
structure eh (w:μ)(r:au)(m md wk pl:Value):Prop where
 ms:cN w m r.ms
 mds:cN w md r.mds
 wks:iB w wk r.wks
 pls:cN w pl r.pls
theorem eh.on {w w':μ}{r:au}{m md wk pl:Value}(h:eh w r m md wk pl)(hb:Below w.heap.size w w'):eh w' r m md wk pl:=⟨h.ms.on hb,h.mds.on hb,h.wks.on hb,h.pls.on hb⟩
structure cX (r:au):Prop where
 Av:0≤r.fq
 Cr:r.fq≤3
 Cs:1≤r.iv
 Yp:r.iv≤100
 IG:0≤r.ct
 ct9:r.ct≤1000
 SF:0≤r.un
 un9:r.un≤9223372036854775807
 ms:r.ms.length≤100
 mds:r.mds.length≤100
 wks:r.wks.length≤100
 pls:r.pls.length≤100
 ord:∀p∈r.wks,-53≤p.1∧p.1≤53
 Yq:0≤r.ws
 Yr:r.ws≤6
def Aw (r:au)(n:Int):Bool:=decide (r.ms.length=0)||r.ms.contains (ae.ofM n)
def kT (n:Int):Int:=cx (ae.ag n) (ae.ofM n+1) - n
def te (r:au)(n:Int):Bool:=decide (r.mds.length=0)||r.mds.contains (ae.ar n)||r.mds.contains (-(kT n))
theorem ND (r:au)(m md wk pl:Value)(tx:ByteArray)(n:Int)(w:μ)(hl:eh w r m md wk pl)(ho:cX r):
 κ prog 362 #[aY r.fq r.iv r.ct r.un m md wk pl r.ws tx,aO n] w fun e w'=>e= δ (.bool (Aw r n))∧Below w.heap.size w w':=by
 have hI:=hl.ms;have h1:=ho.ms;clear hl ho;unfold aY aO cS Aw;have hC:Hid (∀W,Below w.heap.size w W→κ prog 218 #[m, V Z (ae.ofM n)] W fun e w'=>e= δ (.bool (r.ms.contains (ae.ofM n)))∧Below W.heap.size W w'):=ad fun W hW=>yE _ (hI.on hW) (by omega);obtain⟨am,rfl⟩:=hI.form;clear hI;generalize r.ms.contains (ae.ofM n)=B at *
 generalize hL:r.ms.length=L at *
 clear hL;by_cases hz:L=0
 case pos=>
  subst hz;go_enter func362,ntmps362;go_wp2_with fail;go_ret;exact⟨rfl,((ι _ _).alloc (θ _) _).alloc (by simp) _⟩
 case neg=>
  have Kk:¬((L:Int)=0):=by omega
  go_enter func362,ntmps362;go_wp2_with fail;refine(hC.out _ (((ι _ _).alloc (θ _) _).alloc (by simp) _)).mono ?_;rintro e w1 ⟨rfl,hb⟩;go_wp2_with fail;go_ret;exact⟨by simp[hz],(((ι _ _).alloc (θ _) _).alloc (by simp) _).trans (hb.mono (by simp;omega))⟩
theorem OZ (y m:Int)(y0:1800≤y)(y1:y≤3000)(m0:1≤m)(m1:m≤1300):-70000≤cx y m∧cx y m≤899000:=by
 have h1:1800≤y+(m - 1)/12∧y+(m - 1)/12≤3110:=by omega
 have h2:1≤(m - 1)%12+1∧(m - 1)%12+1≤12:=by omega
 unfold cx;generalize y+(m - 1)/12=a at *
 generalize(m - 1)%12+1=b at *
 unfold ae.num ae.ty ae.tm;split<;>omega
theorem VN (a b:Int)(w:μ):(Instr.field 370 (dt a b) 1).run prog w= .ok (aO b) w:=by
 unfold dt aO cS Instr.field;simp[part,asAgg,go_sem]
theorem VO (W:μ)(y m:Int)(D:Nat)(os:Array Obj)(y0:1≤y)(y1:y≤5000)(m0:1≤m)(m1:m≤90000):
 κ prog 353 #[V Z y, V Z m] (grow (redrawn W D) os) fun e aA=>e= δ (dt (cx y m) (cx y (m+1)))∧∃p:ξ,aA=grow (redrawn W p.d) p.os:=
 ν (Gw y m _ y0 y1 m0 m1)
theorem Ys (W:μ)(a b:Int)(D:Nat)(os:Array Obj)(h0:-700000≤a)(h1:a≤900000)(k0:-700000≤b)(k1:b≤900000):
 κ prog 358 #[.agg #[V Z (ae.ag a), V Z (ae.ofM a), V Z (ae.ar a)], .agg #[V Z (ae.ag b), V Z (ae.ofM b), V Z (ae.ar b)]] (grow (redrawn W D) os) fun e aA=>e= δ (V Z (b - a))∧∃p:ξ,aA=grow (redrawn W p.d) p.os:=
 ν (Qw a b _ h0 h1 k0 k1)
theorem sq (n:Int)(h0:-10000≤n)(h1:n≤300000):1900≤ae.ag n∧ae.ag n≤2900:=by
 unfold ae.ag;have:=OY (n+719468);split<;>omega
theorem JO (n:Int)(w:μ)(h0:-10000≤n)(h1:n≤300000):
 κ prog 365 #[aO n] w fun e w'=>e= δ (V Z (kT n))∧Below w.heap.size w w':=by
 have hr:=gL n (by omega) (by omega);have hy:=sq n h0 h1;have hb:=OZ (ae.ag n) (ae.ofM n+1) (by omega) (by omega) (by omega) (by omega);unfold kT;have hM:Hid (∀W D os,κ prog 353 #[V Z (ae.ag n), V Z (ae.ofM n)] (grow (redrawn W D) os) fun e aA=>e= δ (dt (cx (ae.ag n) (ae.ofM n)) (cx (ae.ag n) (ae.ofM n+1)))∧∃p:ξ,aA=grow (redrawn W p.d) p.os):=
  ad fun W D os=>VO W _ _ D os (by omega) (by omega) (by omega) (by omega)
 have hT:Hid (∀W D os,κ prog 358 #[.agg #[V Z (ae.ag n), V Z (ae.ofM n), V Z (ae.ar n)],aO (cx (ae.ag n) (ae.ofM n+1))] (grow (redrawn W D) os) fun e aA=>e= δ (V Z (cx (ae.ag n) (ae.ofM n+1) - n))∧∃p:ξ,aA=grow (redrawn W p.d) p.os):=
  ad fun W D os=>Ys W _ _ D os (by omega) (by omega) (by omega) (by omega)
 generalize cx (ae.ag n) (ae.ofM n)=a at *
 generalize cx (ae.ag n) (ae.ofM n+1)=b at *
 have hs:=VN a b;generalize dt a b=S at *
 generalize aO b=T at *
 unfold aO cS;go_enter func365,ntmps365;go_wp2_with fail;have r0:=(af.new w [V Z (ae.ag n), V Z (ae.ofM n), V Z (ae.ar n)] 106);have ah:Below w.heap.size w (w.alloc (η #[V Z (ae.ag n), V Z (ae.ofM n), V Z (ae.ar n)] 106)):=(ι _ _).alloc (θ _) _;generalize(w.alloc (η #[V Z (ae.ag n), V Z (ae.ofM n), V Z (ae.ar n)] 106))=W at *
 obtain⟨c0,c1,c2,_,_,_⟩:=bV r0;have k0:=cell_regrown c0;have k1:=cell_regrown c1;have k2:=cell_regrown c2;clear c0 c1 c2 r0;refine wp_region_quiet_below (by kernel_rfl) (by kernel_rfl) ?_
 repeat(go_big_quiet_step (first|exact hM.out W _ _|exact hT.out W _ _))
 refine wpQuiet_nil ?_;intro _ fF;obtain⟨⟨dq,gj⟩,eU⟩:=fF;subst eU;go_wp2_with fail;go_ret;exact⟨rfl,ah.trans ((below_regrown W dq gj).mono ah.size)⟩
theorem Ct {w:μ}{v:Value}{zs:List Int}(x:Int)(h:cN w v zs)(hb:zs.length≤1000)(D:Nat)(os:Array Obj):
 κ prog 218 #[v, V Z x] (grow (redrawn w D) os) fun e aA=>e= δ (.bool (zs.contains x))∧∃p:ξ,aA=grow (redrawn w p.d) p.os:=
 ν (yE x (h.on (below_regrown w D os)) hb)
theorem Gx (r:au)(m md wk pl:Value)(tx:ByteArray)(n:Int)(w:μ)(hl:eh w r m md wk pl)(ho:cX r)(h0:-10000≤n)(h1:n≤300000):
 κ prog 363 #[aY r.fq r.iv r.ct r.un m md wk pl r.ws tx,aO n] w fun e w'=>e= δ (.bool (te r n))∧Below w.heap.size w w':=by
 have hI:=hl.mds;have hq:=ho.mds;have hL0:-100000000≤kT n∧kT n≤100000000:=by
  have hr:=gL n (by omega) (by omega);have hy:=sq n h0 h1;have hb:=OZ (ae.ag n) (ae.ofM n+1) (by omega) (by omega) (by omega) (by omega);unfold kT;omega
 clear hl ho;have hC1:Hid (∀W,Below w.heap.size w W→∀D os,κ prog 218 #[md, V Z (ae.ar n)] (grow (redrawn W D) os) fun e aA=>e= δ (.bool (r.mds.contains (ae.ar n)))∧∃p:ξ,aA=grow (redrawn W p.d) p.os):=ad fun W hW D os=>Ct _ (hI.on hW) (by omega) D os;have hC2:Hid (∀W,Below w.heap.size w W→∀D os,κ prog 218 #[md, V Z (-(kT n))] (grow (redrawn W D) os) fun e aA=>e= δ (.bool (r.mds.contains (-(kT n))))∧∃p:ξ,aA=grow (redrawn W p.d) p.os):=ad fun W hW D os=>Ct _ (hI.on hW) (by omega) D os;have hF:Hid (∀W D os,κ prog 365 #[aO n] (grow (redrawn W D) os) fun e aA=>e= δ (V Z (kT n))∧∃p:ξ,aA=grow (redrawn W p.d) p.os):=ad fun W D os=>ν (JO n _ h0 h1);obtain⟨am,rfl⟩:=hI.form;clear hI;unfold te;unfold aO cS at hF;unfold aY aO cS;generalize kT n=LM at *
 generalize hB:r.mds.contains (ae.ar n)=B at *
 generalize SG:r.mds.contains (-LM)=B2 at *
 generalize hL:r.mds.length=L at *
 clear hL hB SG;go_enter func363,ntmps363;go_wp2_with fail;have r0:af ((w.alloc (η #[V Z r.fq, V Z r.iv, V Z r.ct, V Z r.un,m, ε am L L,wk,pl, V Z r.ws, ζ tx] 76)).alloc (η #[V Z (ae.ag n), V Z (ae.ofM n), V Z (ae.ar n)] 106)) w.heap.size [V Z r.fq, V Z r.iv, V Z r.ct, V Z r.un,m, ε am L L,wk,pl, V Z r.ws, ζ tx] 76:=(af.new w [V Z r.fq, V Z r.iv, V Z r.ct, V Z r.un,m, ε am L L,wk,pl, V Z r.ws, ζ tx] 76).on ((ι _ _).alloc (θ _) _);have r1:=af.new (w.alloc (η #[V Z r.fq, V Z r.iv, V Z r.ct, V Z r.un,m, ε am L L,wk,pl, V Z r.ws, ζ tx] 76)) [V Z (ae.ag n), V Z (ae.ofM n), V Z (ae.ar n)] 106;simp only[World.size_alloc]at r1;have ah:Below w.heap.size w ((w.alloc (η #[V Z r.fq, V Z r.iv, V Z r.ct, V Z r.un,m, ε am L L,wk,pl, V Z r.ws, ζ tx] 76)).alloc (η #[V Z (ae.ag n), V Z (ae.ofM n), V Z (ae.ar n)] 106)):=((ι _ _).alloc (θ _) _).alloc (by simp) _;generalize((w.alloc (η #[V Z r.fq, V Z r.iv, V Z r.ct, V Z r.un,m, ε am L L,wk,pl, V Z r.ws, ζ tx] 76)).alloc (η #[V Z (ae.ag n), V Z (ae.ofM n), V Z (ae.ar n)] 106))=W at *
 have cm:W.cell? ⟨w.heap.size,5,none⟩=some (ε am L L):=r0.cell rfl;obtain⟨c0,c1,c2,_,_,_⟩:=bV r1;have km:=cell_regrown cm;have k0:=cell_regrown c0;have k1:=cell_regrown c1;have k2:=cell_regrown c2;clear c0 c1 c2 r0 r1 cm;by_cases hz:L=0
 case pos=>
  subst hz;refine wp_region_quiet_below (by kernel_rfl) (by kernel_rfl) ?_
  repeat(go_big_quiet_step (fail))
  refine wpQuiet_nil ?_;intro _ fF;obtain⟨⟨dq,gj⟩,eU⟩:=fF;subst eU;go_wp2_with fail;go_ret;exact⟨by simp,ah.trans ((below_regrown W dq gj).mono ah.size)⟩
 case neg=>
  have Kk:¬((L:Int)=0):=by omega
  have fb:((L:Int)==0)=false:=by simpa using hz
  cases B
  case true=>
   refine wp_region_quiet_below (by kernel_rfl) (by kernel_rfl) ?_
   repeat(go_big_quiet_step (first|exact hC1.out W ah _ _))
   refine wpQuiet_nil ?_;intro _ fF;obtain⟨⟨dq,gj⟩,eU⟩:=fF;subst eU;go_wp2_with fail;go_ret;exact⟨by simp,ah.trans ((below_regrown W dq gj).mono ah.size)⟩
  case false=>
   refine wp_region_quiet_below (by kernel_rfl) (by kernel_rfl) ?_
   repeat(go_big_quiet_step (first|exact hC1.out W ah _ _|exact hF.out W _ _|exact hC2.out W ah _ _))
   refine wpQuiet_nil ?_;intro _ fF;obtain⟨⟨dq,gj⟩,eU⟩:=fF;subst eU;go_wp2_with fail;go_ret;exact⟨by simp[hz],ah.trans ((below_regrown W dq gj).mono ah.size)⟩
theorem DL (n:Int)(h0:-10000≤n):cx (ae.ag n) (ae.ofM n)=ae.num (ae.ag n) (ae.ofM n) 1:=by
 obtain⟨a,b,c,d⟩:=ae.eT n (by omega);unfold cx;rw[show(ae.ofM n - 1)/12=0 from by omega,show(ae.ofM n - 1)%12+1=ae.ofM n from by omega,Int.add_zero]
theorem Ax (n:Int)(h0:-10000≤n):cx (ae.ag n) (ae.ofM n+1)=ae.num (ae.ag n) (ae.ofM n) 1+ae.md (ae.ag n) (ae.ofM n):=by
 obtain⟨a,b,c,d⟩:=ae.eT n (by omega);unfold cx;by_cases h:ae.ofM n=12
 ·rw[h,show(12+1 - 1:Int)/12=1 from rfl,show(12+1 - 1:Int)%12+1=1 from rfl,ae.Kg];exact ae.rP _
 ·rw[show(ae.ofM n+1 - 1)/12=0 from by omega,show(ae.ofM n+1 - 1)%12+1=ae.ofM n+1 from by omega,Int.add_zero];exact ae.ks _ _ a (by omega)
theorem gU (n:Int)(h0:-10000≤n):cx (ae.ag n) (ae.ofM n)≤n∧n<cx (ae.ag n) (ae.ofM n+1)∧cx (ae.ag n) (ae.ofM n+1)≤n+400∧n - 400≤cx (ae.ag n) (ae.ofM n):=by
 obtain⟨a,b,c,d⟩:=ae.eT n (by omega);have e:=ae.gP n (by omega);have e1:=ae.fg (ae.ag n) (ae.ofM n) (ae.ar n);have e2:=ae.fS (ae.ag n) (ae.ofM n);rw[DL n h0,Ax n h0];omega
theorem iJ (n:Int)(h0:-10000≤n):ae.num (ae.ag n) 1 1≤n∧n<ae.num (ae.ag n+1) 1 1∧ae.num (ae.ag n+1) 1 1≤n+400∧n - 400≤ae.num (ae.ag n) 1 1:=by
 have h:=ae.rQ (ae.eT n (by omega));rw[ae.gP n (by omega)]at h;have h2:=ae.iN (ae.ag n);have h3:ae.yd (ae.ag n)≤366:=by unfold ae.yd;split<;>omega
 omega
def IH (r:au)(n:Int):Int:=if r.fq=3∧r.ms.length=0 then ae.num (ae.ag n) 1 1 else cx (ae.ag n) (ae.ofM n)
def IK (r:au)(n:Int):Int:=if r.fq=3∧r.ms.length=0 then ae.num (ae.ag n+1) 1 1 else cx (ae.ag n) (ae.ofM n+1)
def fL (r:au)(n o:Int):Bool:=if 0<o then(n - IH r n)/7==o - 1 else(IK r n - 1 - n)/7==-o - 1
theorem ajA (r:au)(n:Int)(h0:-10000≤n):IH r n≤n∧n<IK r n∧IK r n≤n+400∧n - 400≤IH r n:=by
 unfold IH IK;split
 ·exact iJ n h0
 ·exact gU n h0
theorem ca {w:μ}{g:Nat}{a b c d m md wk pl s t:Value}{T:ο}(h:af w g [a,b,c,d,m,md,wk,pl,s,t] T):
 w.cell? ⟨g,0,none⟩=some a∧w.cell? ⟨g,1,none⟩=some b∧w.cell? ⟨g,2,none⟩=some c∧w.cell? ⟨g,3,none⟩=some d∧w.cell? ⟨g,4,none⟩=some m∧w.cell? ⟨g,5,none⟩=some md∧w.cell? ⟨g,6,none⟩=some wk∧w.cell? ⟨g,7,none⟩=some pl∧w.cell? ⟨g,8,none⟩=some s∧w.cell? ⟨g,9,none⟩=some t:=
 ⟨h.cell rfl,h.cell rfl,h.cell rfl,h.cell rfl,h.cell rfl,h.cell rfl,h.cell rfl,h.cell rfl,h.cell rfl,h.cell rfl⟩
theorem mh (w:μ)(a b:Obj):Below w.heap.size w ((w.alloc a).alloc b):=((ι _ _).alloc (θ _) _).alloc (by simp) _
theorem pH (w:μ)(cs:List Value)(t:ο)(o:Obj):af ((w.alloc (η cs.toArray t)).alloc o) w.heap.size cs t:=(af.new w cs t).on ((ι _ _).alloc (θ _) _)
theorem pI (w:μ)(cs:List Value)(t:ο)(o:Obj):af ((w.alloc o).alloc (η cs.toArray t)) (w.heap.size+1) cs t:=by
 have:=af.new (w.alloc o) cs t;simpa using this
theorem Qx (r:au)(m md wk pl:Value)(tx:ByteArray)(n o:Int)(w:μ)(hl:eh w r m md wk pl)(ho:cX r)(h0:-10000≤n)(h1:n≤300000)(o0:-53≤o)(o1:o≤53):
 κ prog 366 #[aY r.fq r.iv r.ct r.un m md wk pl r.ws tx,aO n, V Z o] w fun e w'=>e= δ (.bool (fL r n o))∧Below w.heap.size w w':=by
 obtain⟨am,em⟩:=hl.ms.form;have hq:=ho.ms;have kC:=ho.Av;have IL:=ho.Cr;clear hl ho;have hr:=gL n (by omega) (by omega);have hy:=sq n h0 h1;have hma:=gU n h0;have hya:=iJ n h0;have hM:Hid (∀W,κ prog 353 #[V Z (ae.ag n), V Z (ae.ofM n)] W fun e w'=>e= δ (dt (cx (ae.ag n) (ae.ofM n)) (cx (ae.ag n) (ae.ofM n+1)))∧Below W.heap.size W w'):=ad fun W=>Gw _ _ W (by omega) (by omega) (by omega) (by omega);have hY:Hid (∀W,κ prog 354 #[V Z (ae.ag n)] W fun e w'=>e= δ (dt (ae.num (ae.ag n) 1 1) (ae.num (ae.ag n+1) 1 1))∧Below W.heap.size W w'):=ad fun W=>SE _ W (by omega) (by omega);have tf:Hid (∀a W,n - 400≤a→a≤n→κ prog 358 #[aO a,aO n] W fun e w'=>e= δ (V Z (n - a))∧Below W.heap.size W w'):=ad fun a W a0 a1=>Qw a n W (by omega) (by omega) (by omega) (by omega);have hT2:Hid (∀b W,b≤n+400→n<b→κ prog 358 #[aO n,aO (b - 1)] W fun e w'=>e= δ (V Z (b - 1 - n))∧Below W.heap.size W w'):=ad fun b W a0 a1=>Qw n (b - 1) W (by omega) (by omega) (by omega) (by omega);have hP:Hid (∀b W,b≤n+400→n<b→κ prog 351 #[aO b, V Z (-1)] W fun e w'=>e= δ (aO (b - 1))∧Below W.heap.size W w'):=ad fun b W a0 a1=>by
  have:=xx b (-1) W (by omega) (by omega) (by omega) (by omega);rwa [show b+-1=b - 1 from by omega]at this
 unfold aO cS dt at *
 have p1:r.fq≠3→0<o→fL r n o=((n - cx (ae.ag n) (ae.ofM n))/7==o - 1):=fun a b=>by
  unfold fL IH;rw[if_pos b,if_neg (fun h=>a h.1)]
 have p2:r.fq≠3→¬0<o→fL r n o=((cx (ae.ag n) (ae.ofM n+1) - 1 - n)/7==-o - 1):=fun a b=>by
  unfold fL IK;rw[if_neg b,if_neg (fun h=>a h.1)]
 have p3:r.ms.length≠0→0<o→fL r n o=((n - cx (ae.ag n) (ae.ofM n))/7==o - 1):=fun a b=>by
  unfold fL IH;rw[if_pos b,if_neg (fun h=>a h.2)]
 have p4:r.ms.length≠0→¬0<o→fL r n o=((cx (ae.ag n) (ae.ofM n+1) - 1 - n)/7==-o - 1):=fun a b=>by
  unfold fL IK;rw[if_neg b,if_neg (fun h=>a h.2)]
 have p5:r.fq=3→r.ms.length=0→0<o→fL r n o=((n - ae.num (ae.ag n) 1 1)/7==o - 1):=fun a c b=>by
  unfold fL IH;rw[if_pos b,if_pos ⟨a,c⟩]
 have p6:r.fq=3→r.ms.length=0→¬0<o→fL r n o=((ae.num (ae.ag n+1) 1 1 - 1 - n)/7==-o - 1):=fun a c b=>by
  unfold fL IK;rw[if_neg b,if_pos ⟨a,c⟩]
 generalize fL r n o=PB at *
 replace p1:=ad p1;replace p2:=ad p2;replace p3:=ad p3;replace p4:=ad p4;replace p5:=ad p5;replace p6:=ad p6;unfold aY;subst em;generalize ae.num (ae.ag n) 1 1=ya at *
 generalize ae.num (ae.ag n+1) 1 1=yb at *
 generalize cx (ae.ag n) (ae.ofM n)=ma at *
 generalize cx (ae.ag n) (ae.ofM n+1)=mb at *
 generalize hL:r.ms.length=L at *
 clear hL;go_enter func366,ntmps366;go_wp2_with fail;have r0:=pH w [V Z r.fq, V Z r.iv, V Z r.ct, V Z r.un, ε am L L,md,wk,pl, V Z r.ws, ζ tx] 76 (η #[V Z (ae.ag n), V Z (ae.ofM n), V Z (ae.ar n)] 106);have r1:=pI w [V Z (ae.ag n), V Z (ae.ofM n), V Z (ae.ar n)] 106 (η #[V Z r.fq, V Z r.iv, V Z r.ct, V Z r.un, ε am L L,md,wk,pl, V Z r.ws, ζ tx] 76);have ah:=mh w (η #[V Z r.fq, V Z r.iv, V Z r.ct, V Z r.un, ε am L L,md,wk,pl, V Z r.ws, ζ tx] 76) (η #[V Z (ae.ag n), V Z (ae.ofM n), V Z (ae.ar n)] 106);refine(hM.out _).mono ?_;rintro e w1 ⟨rfl,ai⟩;replace r0:=r0.on ai;replace r1:=r1.on ai;replace ah:=ah.trans (ai.mono ah.size);have hz:w.heap.size+2≤w1.heap.size:=by have:=ai.size;simpa using this
 clear ai;have ra:=af.new w1 [V Z (ae.ag ma), V Z (ae.ofM ma), V Z (ae.ar ma), V Z (ae.ag mb), V Z (ae.ofM mb), V Z (ae.ar mb)] 370;have ba:Below w1.heap.size w1 (w1.alloc (η #[V Z (ae.ag ma), V Z (ae.ofM ma), V Z (ae.ar ma), V Z (ae.ag mb), V Z (ae.ofM mb), V Z (ae.ar mb)] 370)):=(ι _ _).alloc (θ _) _;replace r0:=r0.on ba;replace r1:=r1.on ba;replace ah:=ah.trans (ba.mono ah.size);have Ln:w1.heap.size<(w1.alloc (η #[V Z (ae.ag ma), V Z (ae.ofM ma), V Z (ae.ar ma), V Z (ae.ag mb), V Z (ae.ofM mb), V Z (ae.ar mb)] 370)).heap.size:=by simp
 clear ba;have eW:w1.alloc (.cells [V Z (ae.ag ma), V Z (ae.ofM ma), V Z (ae.ar ma), V Z (ae.ag mb), V Z (ae.ofM mb), V Z (ae.ar mb)].toArray 370)=w1.alloc (η #[V Z (ae.ag ma), V Z (ae.ofM ma), V Z (ae.ar ma), V Z (ae.ag mb), V Z (ae.ofM mb), V Z (ae.ar mb)] 370):=rfl;rw[eW]at ra;clear eW;obtain⟨q0,q1,q2,q3,q4,_,_,_,_,_⟩:=ca r0;obtain⟨c0,c1,c2,_,_,_⟩:=bV r1;obtain⟨⟨z0,z1,z2,z3,z4,z5⟩,y0,y1,y2,y3,y4,y5⟩:=jF ra;by_cases hf:r.fq=3
 case neg=>
  have hf':(r.fq==3)=false:=by simpa using hf
  by_cases hp:0<o
  case pos=>
   go_wp2_with fail;refine(tf.out ma _ (by omega) (by omega)).mono ?_;rintro e w5 ⟨rfl,bk⟩;go_wp2_with fail;go_ret;exact⟨by rw[p1.out hf hp];rfl,ah.trans (bk.mono ah.size)⟩
  case neg=>
   have zO:o≤0:=by omega
   go_wp2_with fail;refine(hP.out mb _ (by omega) (by omega)).mono ?_;rintro e w5 ⟨rfl,bk⟩;have r5:=r1.on bk;replace ah:=ah.trans (bk.mono ah.size);clear c0 c1 c2 z0 z1 z2 z3 z4 z5 y0 y1 y2 y3 y4 y5;have E5:w.heap.size+2≤w5.heap.size:=by have:=bk.size;have:=r1.lt;omega
   have r6:=r5.on ((ι _ _).alloc (θ _) (η #[V Z (ae.ag (mb - 1)), V Z (ae.ofM (mb - 1)), V Z (ae.ar (mb - 1))] 106));obtain⟨c0,c1,c2,_,_,_⟩:=bV r5;obtain⟨d0,d1,d2,_,_,_⟩:=bV r6;go_wp2_with fail;refine(hT2.out mb _ (by omega) (by omega)).mono ?_;rintro e w6 ⟨rfl,dr⟩;go_wp2_with fail;go_ret;exact⟨by rw[p2.out hf hp];rfl,(ah.alloc ah.size _).trans (dr.mono (by have:=ah.size;simp;omega))⟩
 case pos=>
  by_cases hc:L=0
  case neg=>
   have N8:((L:Int)==0)=false:=by simpa using hc
   have hf':(r.fq==3)=true:=by simpa using hf
   by_cases hp:0<o
   case pos=>
    go_wp2_with fail;refine(tf.out ma _ (by omega) (by omega)).mono ?_;rintro e w5 ⟨rfl,bk⟩;go_wp2_with fail;go_ret;exact⟨by rw[p3.out hc hp];rfl,ah.trans (bk.mono ah.size)⟩
   case neg=>
    have zO:o≤0:=by omega
    go_wp2_with fail;refine(hP.out mb _ (by omega) (by omega)).mono ?_;rintro e w5 ⟨rfl,bk⟩;have r5:=r1.on bk;replace ah:=ah.trans (bk.mono ah.size);clear c0 c1 c2 z0 z1 z2 z3 z4 z5 y0 y1 y2 y3 y4 y5;have E5:w.heap.size+2≤w5.heap.size:=by have:=bk.size;have:=r1.lt;omega
    have r6:=r5.on ((ι _ _).alloc (θ _) (η #[V Z (ae.ag (mb - 1)), V Z (ae.ofM (mb - 1)), V Z (ae.ar (mb - 1))] 106));obtain⟨c0,c1,c2,_,_,_⟩:=bV r5;obtain⟨d0,d1,d2,_,_,_⟩:=bV r6;go_wp2_with fail;refine(hT2.out mb _ (by omega) (by omega)).mono ?_;rintro e w6 ⟨rfl,dr⟩;go_wp2_with fail;go_ret;exact⟨by rw[p4.out hc hp];rfl,(ah.alloc ah.size _).trans (dr.mono (by have:=ah.size;simp;omega))⟩
  case pos=>
   subst hc;have hf':(r.fq==3)=true:=by simpa using hf
   go_wp2_with fail;refine(hY.out _).mono ?_;rintro e w2 ⟨rfl,az⟩;replace r1:=r1.on az;replace ra:=ra.on az;replace ah:=ah.trans (az.mono ah.size);have fb:w1.heap.size+1≤w2.heap.size:=by have:=az.size;simpa using this
   clear az q0 q1 q2 q3 q4 c0 c1 c2 z0 z1 z2 z3 z4 z5 y0 y1 y2 y3 y4 y5;obtain⟨⟨z0,z1,z2,z3,z4,z5⟩,y0,y1,y2,y3,y4,y5⟩:=jF ra;have di:w.heap.size+1≠w1.heap.size:=by omega
   have rY:af ((((((w2.setCell ⟨w1.heap.size,0,none⟩ (V Z (ae.ag ya))).setCell ⟨w1.heap.size,1,none⟩ (V Z (ae.ofM ya))).setCell ⟨w1.heap.size,2,none⟩ (V Z (ae.ar ya))).setCell ⟨w1.heap.size,3,none⟩ (V Z (ae.ag yb))).setCell ⟨w1.heap.size,4,none⟩ (V Z (ae.ofM yb))).setCell ⟨w1.heap.size,5,none⟩ (V Z (ae.ar yb))) w1.heap.size [V Z (ae.ag ya), V Z (ae.ofM ya), V Z (ae.ar ya), V Z (ae.ag yb), V Z (ae.ofM yb), V Z (ae.ar yb)] 370:=((((((ra.set (k:=0) _).set (k:=1) _).set (k:=2) _).set (k:=3) _).set (k:=4) _).set (k:=5) _);have r1Y:af ((((((w2.setCell ⟨w1.heap.size,0,none⟩ (V Z (ae.ag ya))).setCell ⟨w1.heap.size,1,none⟩ (V Z (ae.ofM ya))).setCell ⟨w1.heap.size,2,none⟩ (V Z (ae.ar ya))).setCell ⟨w1.heap.size,3,none⟩ (V Z (ae.ag yb))).setCell ⟨w1.heap.size,4,none⟩ (V Z (ae.ofM yb))).setCell ⟨w1.heap.size,5,none⟩ (V Z (ae.ar yb))) (w.heap.size+1) [V Z (ae.ag n), V Z (ae.ofM n), V Z (ae.ar n)] 106:=((((((r1.other di _).other di _).other di _).other di _).other di _).other di _);have IM:Below w.heap.size w ((((((w2.setCell ⟨w1.heap.size,0,none⟩ (V Z (ae.ag ya))).setCell ⟨w1.heap.size,1,none⟩ (V Z (ae.ofM ya))).setCell ⟨w1.heap.size,2,none⟩ (V Z (ae.ar ya))).setCell ⟨w1.heap.size,3,none⟩ (V Z (ae.ag yb))).setCell ⟨w1.heap.size,4,none⟩ (V Z (ae.ofM yb))).setCell ⟨w1.heap.size,5,none⟩ (V Z (ae.ar yb))):=((((((ah.setCell (by show _≤w1.heap.size;omega) _).setCell (by show _≤w1.heap.size;omega) _).setCell (by show _≤w1.heap.size;omega) _).setCell (by show _≤w1.heap.size;omega) _).setCell (by show _≤w1.heap.size;omega) _).setCell (by show _≤w1.heap.size;omega) _);go_upto_region 4 with fail;clear z0 z1 z2 z3 z4 z5 y0 y1 y2 y3 y4 y5;generalize((((((w2.setCell ⟨w1.heap.size,0,none⟩ (V Z (ae.ag ya))).setCell ⟨w1.heap.size,1,none⟩ (V Z (ae.ofM ya))).setCell ⟨w1.heap.size,2,none⟩ (V Z (ae.ar ya))).setCell ⟨w1.heap.size,3,none⟩ (V Z (ae.ag yb))).setCell ⟨w1.heap.size,4,none⟩ (V Z (ae.ofM yb))).setCell ⟨w1.heap.size,5,none⟩ (V Z (ae.ar yb)))=W at *
   obtain⟨c0,c1,c2,_,_,_⟩:=bV r1Y;obtain⟨⟨z0,z1,z2,z3,z4,z5⟩,y0,y1,y2,y3,y4,y5⟩:=jF rY;by_cases hp:0<o
   case pos=>
    go_wp2_with fail;refine(tf.out ya _ (by omega) (by omega)).mono ?_;rintro e w5 ⟨rfl,bk⟩;go_wp2_with fail;go_ret;exact⟨by rw[p5.out hf (by simp) hp];rfl,IM.trans (bk.mono IM.size)⟩
   case neg=>
    have zO:o≤0:=by omega
    go_wp2_with fail;refine(hP.out yb _ (by omega) (by omega)).mono ?_;rintro e w5 ⟨rfl,bk⟩;have r5:=r1Y.on bk;replace IM:=IM.trans (bk.mono IM.size);clear c0 c1 c2 z0 z1 z2 z3 z4 z5 y0 y1 y2 y3 y4 y5;have E5:w.heap.size+2≤w5.heap.size:=by have:=bk.size;have:=r1Y.lt;omega
    have r6:=r5.on ((ι _ _).alloc (θ _) (η #[V Z (ae.ag (yb - 1)), V Z (ae.ofM (yb - 1)), V Z (ae.ar (yb - 1))] 106));obtain⟨c0,c1,c2,_,_,_⟩:=bV r5;obtain⟨d0,d1,d2,_,_,_⟩:=bV r6;go_wp2_with fail;refine(hT2.out yb _ (by omega) (by omega)).mono ?_;rintro e w6 ⟨rfl,dr⟩;go_wp2_with fail;go_ret;exact⟨by rw[p6.out hf (by simp) hp];rfl,(IM.alloc IM.size _).trans (dr.mono (by have:=IM.size;simp;omega))⟩
def aE (r:au)(s k:Int):Int:=
 if r.fq=0 then s+k else if r.fq=1 then s+k * 7 - dV (s+k * 7) r.ws else if r.fq=2 then cx (ae.ag s) (ae.ofM s+k)else ae.num (ae.ag s+k) 1 1
def gq (r:au)(s k:Int):Int:=
 if r.fq=0 then s+k+1 else if r.fq=1 then s+k * 7 - dV (s+k * 7) r.ws+7 else if r.fq=2 then cx (ae.ag s) (ae.ofM s+k+1)else ae.num (ae.ag s+k+1) 1 1
def dW (r:au):Int:=if r.fq=0 then 200000 else if r.fq=1 then 25000 else if r.fq=2 then 6000 else 500
theorem mi (w:μ)(a b c:Obj):Below w.heap.size w (((w.alloc a).alloc b).alloc c):=(((ι _ _).alloc (θ _) _).alloc (by simp) _).alloc (by simp;omega) _
theorem qs (w:μ)(cs:List Value)(t:ο)(b c:Obj):af (((w.alloc (η cs.toArray t)).alloc b).alloc c) w.heap.size cs t:=((af.new w cs t).on ((ι _ _).alloc (θ _) _)).on ((ι _ _).alloc (θ _) _)
theorem qt (w:μ)(a:Obj)(cs:List Value)(t:ο)(c:Obj):af (((w.alloc a).alloc (η cs.toArray t)).alloc c) (w.heap.size+1) cs t:=by
 have:=(af.new (w.alloc a) cs t).on ((ι _ _).alloc (θ _) c);simpa using this
theorem qu (w:μ)(a b:Obj)(cs:List Value)(t:ο):af (((w.alloc a).alloc b).alloc (η cs.toArray t)) (w.heap.size+1+1) cs t:=by
 have:=af.new ((w.alloc a).alloc b) cs t;simpa using this
theorem VP (r:au)(m md wk pl:Value)(tx:ByteArray)(s k:Int)(w:μ)(hl:eh w r m md wk pl)(ho:cX r)(s0:0≤s)(s1:s≤84010)(k0:0≤k)(k1:k≤dW r):
 κ prog 342 #[aY r.fq r.iv r.ct r.un m md wk pl r.ws tx,aO s, V Z k] w fun e w'=>e= δ (dt (aE r s k) (gq r s k))∧Below w.heap.size w w':=by
 have kC:=ho.Av;have IL:=ho.Cr;have zA:=ho.Yq;have hw6:=ho.Yr;have hr:=gL s (by omega) (by omega);have hy:=sq s (by omega) (by omega);obtain⟨a1,e1⟩:=hl.ms.form;obtain⟨a2,e2⟩:=hl.mds.form;obtain⟨a3,e3⟩:=hl.wks.form;obtain⟨a4,e4⟩:=hl.pls.form;have hwi:=pG (s+k * 7) r.ws;have O0:Hid (r.fq=0→∀W,κ prog 351 #[aO s, V Z k] W fun e w'=>e= δ (aO (s+k))∧Below W.heap.size W w'):=ad fun h W=>by
  unfold dW at k1;rw[if_pos h]at k1;exact xx s k W (by omega) (by omega) (by omega) (by omega)
 have xy:Hid (r.fq=0→∀W,κ prog 350 #[aO (s+k)] W fun e w'=>e= δ (dt (aE r s k) (gq r s k))∧Below W.heap.size W w'):=ad fun h W=>by
  unfold dW at k1;rw[if_pos h]at k1;unfold aE gq;rw[if_pos h,if_pos h];exact Z6 (s+k) W (by omega) (by omega)
 have O3:Hid (r.fq=1→∀W,κ prog 351 #[aO s, V Z (k * 7)] W fun e w'=>e= δ (aO (s+k * 7))∧Below W.heap.size W w'):=ad fun h W=>by
  unfold dW at k1;rw[if_neg (by omega),if_pos h]at k1;exact xx s (k * 7) W (by omega) (by omega) (by omega) (by omega)
 have Ay:Hid (r.fq=1→∀W,κ prog 352 #[aO (s+k * 7), V Z r.ws] W fun e w'=>e= δ (dt (aE r s k) (gq r s k))∧Below W.heap.size W w'):=ad fun h W=>by
  unfold dW at k1;rw[if_neg (by omega),if_pos h]at k1;unfold aE gq;rw[if_neg (by omega),if_pos h,if_neg (by omega),if_pos h];exact SD (s+k * 7) r.ws W (by omega) (by omega) (by omega) (by omega)
 have xA:Hid (r.fq=2→∀W,κ prog 353 #[V Z (ae.ag s), V Z (ae.ofM s+k)] W fun e w'=>e= δ (dt (aE r s k) (gq r s k))∧Below W.heap.size W w'):=ad fun h W=>by
  unfold dW at k1;rw[if_neg (by omega),if_neg (by omega),if_pos h]at k1;unfold aE gq;rw[if_neg (by omega),if_neg (by omega),if_pos h,if_neg (by omega),if_neg (by omega),if_pos h];exact Gw (ae.ag s) (ae.ofM s+k) W (by omega) (by omega) (by omega) (by omega)
 have Fe:Hid (r.fq=3→∀W,κ prog 354 #[V Z (ae.ag s+k)] W fun e w'=>e= δ (dt (aE r s k) (gq r s k))∧Below W.heap.size W w'):=ad fun h W=>by
  unfold dW at k1;rw[if_neg (by omega),if_neg (by omega),if_neg (by omega)]at k1;unfold aE gq;rw[if_neg (by omega),if_neg (by omega),if_neg (by omega),if_neg (by omega),if_neg (by omega),if_neg (by omega)];exact SE (ae.ag s+k) W (by omega) (by omega)
 have IN:k≤200000:=by
  unfold dW at k1;split at k1<;>(try split at k1)<;>(try split at k1)<;>omega
 clear k1 hl ho;generalize aE r s k=A at *
 generalize gq r s k=B at *
 generalize r.ms.length=n1 at *
 generalize r.mds.length=n2 at *
 generalize r.wks.length=n3 at *
 generalize r.pls.length=n4 at *
 generalize r.fq=fq at *
 generalize r.iv=iv at *
 generalize r.ct=ct at *
 generalize r.un=un at *
 generalize r.ws=ws at *
 subst e1 e2 e3 e4;unfold aO cS aY dt at *
 have r0:=qs w [V Z fq, V Z iv, V Z ct, V Z un, ε a1 n1 n1, ε a2 n2 n2, ε a3 n3 n3, ε a4 n4 n4, V Z ws, ζ tx] 76 (η #[V Z (ae.ag s), V Z (ae.ofM s), V Z (ae.ar s)] 106) (η #[V Z 0, V Z 0, V Z 0, V Z 0, V Z 0, V Z 0] 370);have r1:=qt w (η #[V Z fq, V Z iv, V Z ct, V Z un, ε a1 n1 n1, ε a2 n2 n2, ε a3 n3 n3, ε a4 n4 n4, V Z ws, ζ tx] 76) [V Z (ae.ag s), V Z (ae.ofM s), V Z (ae.ar s)] 106 (η #[V Z 0, V Z 0, V Z 0, V Z 0, V Z 0, V Z 0] 370);have r2:=qu w (η #[V Z fq, V Z iv, V Z ct, V Z un, ε a1 n1 n1, ε a2 n2 n2, ε a3 n3 n3, ε a4 n4 n4, V Z ws, ζ tx] 76) (η #[V Z (ae.ag s), V Z (ae.ofM s), V Z (ae.ar s)] 106) [V Z 0, V Z 0, V Z 0, V Z 0, V Z 0, V Z 0] 370;have ah:=mi w (η #[V Z fq, V Z iv, V Z ct, V Z un, ε a1 n1 n1, ε a2 n2 n2, ε a3 n3 n3, ε a4 n4 n4, V Z ws, ζ tx] 76) (η #[V Z (ae.ag s), V Z (ae.ofM s), V Z (ae.ar s)] 106) (η #[V Z 0, V Z 0, V Z 0, V Z 0, V Z 0, V Z 0] 370);go_enter func342,ntmps342;go_upto_region 1 with fail;generalize((w.alloc (η #[V Z fq, V Z iv, V Z ct, V Z un, ε a1 n1 n1, ε a2 n2 n2, ε a3 n3 n3, ε a4 n4 n4, V Z ws, ζ tx] 76)).alloc (η #[V Z (ae.ag s), V Z (ae.ofM s), V Z (ae.ar s)] 106)).alloc (η #[V Z 0, V Z 0, V Z 0, V Z 0, V Z 0, V Z 0] 370)=W at *
 obtain⟨g0,g1,g2,g3,g4,g5,g6,g7,g8,g9⟩:=ca r0;obtain⟨c0,c1,c2,_,_,_⟩:=bV r1;rcases(by omega:fq=0∨fq=1∨fq=2∨fq=3)with rfl|rfl|rfl|rfl
 ·replace O0:=ad (O0.out rfl);replace xy:=ad (xy.out rfl);clear O3 Ay xA Fe;go_wp2_with fail;refine(O0.out _).mono ?_;rintro e w3 ⟨rfl,bw⟩;go_wp2_with fail;refine(xy.out _).mono ?_;rintro e w4 ⟨rfl,dN⟩;replace ah:=ah.trans ((bw.trans (dN.mono bw.size)).mono ah.size);obtain⟨⟨z0,z1,z2,z3,z4,z5⟩,y0,y1,y2,y3,y4,y5⟩:=jF ((r2.on bw).on dN);go_wp2_with fail;exact bodyPost_ret (v:= .agg #[V Z (ae.ag A), V Z (ae.ofM A), V Z (ae.ar A), V Z (ae.ag B), V Z (ae.ofM B), V Z (ae.ar B)]) (by simp[results,results342,go_sem,z0,z1,z2,z3,z4,z5]) rfl ⟨rfl,((((((ah.setCell (by simp;omega) _).setCell (by simp;omega) _).setCell (by simp;omega) _).setCell (by simp;omega) _).setCell (by simp;omega) _).setCell (by simp;omega) _)⟩
 ·replace O3:=ad (O3.out rfl);replace Ay:=ad (Ay.out rfl);clear O0 xy xA Fe;have Hi:IntKind.i64.wrap (k * 7)=k * 7:=ia (by omega) (by omega);go_upto_region 6 with fail;go_region_with (first
   |(go_at_call 351;refine(O3.out _).mono ?_;rintro e w3 ⟨rfl,bw⟩;have Qy:Below W.heap.size W w3:=⟨bw.os,bw.tape,bw.output,bw.size,bw.block⟩;have k8:=(r0.on Qy).cell (k:=8) rfl)
   |(go_at_call 352;refine(Ay.out _).mono ?_;rintro e w4 ⟨rfl,dN⟩;have acI:Below w3.heap.size w3 w4:=⟨dN.os,dN.tape,dN.output,dN.size,dN.block⟩;obtain⟨⟨z0,z1,z2,z3,z4,z5⟩,y0,y1,y2,y3,y4,y5⟩:=jF ((r2.on Qy).on acI)))
  all_goals go_wp2_with fail
  all_goals
   have pj:=ah.trans ((Qy.trans (acI.mono Qy.size)).mono ah.size);exact bodyPost_ret (v:= .agg #[V Z (ae.ag A), V Z (ae.ofM A), V Z (ae.ar A), V Z (ae.ag B), V Z (ae.ofM B), V Z (ae.ar B)]) (by simp[results,results342,go_sem,z0,z1,z2,z3,z4,z5]) rfl ⟨rfl,((((((pj.setCell (by simp;omega) _).setCell (by simp;omega) _).setCell (by simp;omega) _).setCell (by simp;omega) _).setCell (by simp;omega) _).setCell (by simp;omega) _)⟩
 ·replace xA:=ad (xA.out rfl);clear O0 xy O3 Ay Fe;go_wp2_with fail;refine(xA.out _).mono ?_;rintro e w4 ⟨rfl,dN⟩;replace ah:=ah.trans (dN.mono ah.size);obtain⟨⟨z0,z1,z2,z3,z4,z5⟩,y0,y1,y2,y3,y4,y5⟩:=jF (r2.on dN);go_wp2_with fail;exact bodyPost_ret (v:= .agg #[V Z (ae.ag A), V Z (ae.ofM A), V Z (ae.ar A), V Z (ae.ag B), V Z (ae.ofM B), V Z (ae.ar B)]) (by simp[results,results342,go_sem,z0,z1,z2,z3,z4,z5]) rfl ⟨rfl,((((((ah.setCell (by simp;omega) _).setCell (by simp;omega) _).setCell (by simp;omega) _).setCell (by simp;omega) _).setCell (by simp;omega) _).setCell (by simp;omega) _)⟩
 ·replace Fe:=ad (Fe.out rfl);clear O0 xy O3 Ay xA;go_wp2_with fail;refine(Fe.out _).mono ?_;rintro e w4 ⟨rfl,dN⟩;replace ah:=ah.trans (dN.mono ah.size);obtain⟨⟨z0,z1,z2,z3,z4,z5⟩,y0,y1,y2,y3,y4,y5⟩:=jF (r2.on dN);go_wp2_with fail;exact bodyPost_ret (v:= .agg #[V Z (ae.ag A), V Z (ae.ofM A), V Z (ae.ar A), V Z (ae.ag B), V Z (ae.ofM B), V Z (ae.ar B)]) (by simp[results,results342,go_sem,z0,z1,z2,z3,z4,z5]) rfl ⟨rfl,((((((ah.setCell (by simp;omega) _).setCell (by simp;omega) _).setCell (by simp;omega) _).setCell (by simp;omega) _).setCell (by simp;omega) _).setCell (by simp;omega) _)⟩
theorem qv (y m:Int):cx y m+28≤cx y (m+1)∧cx y (m+1)≤cx y m+31:=by
 unfold cx;by_cases h:(m - 1)%12=11
 ·rw[show y+(m+1 - 1)/12=y+(m - 1)/12+1 from by omega,show(m+1 - 1)%12+1=1 from by omega,h,ae.rP,show(11+1:Int)=12 from rfl];omega
 ·rw[show y+(m+1 - 1)/12=y+(m - 1)/12 from by omega,show(m+1 - 1)%12+1=(m - 1)%12+1+1 from by omega];have e:=ae.ks (y+(m - 1)/12) ((m - 1)%12+1) (by omega) (by omega);have:=ae.fS (y+(m - 1)/12) ((m - 1)%12+1);omega
theorem BO (y m:Int)(k:Nat):cx y m+28 * k≤cx y (m+k)∧cx y (m+k)≤cx y m+31 * k:=by
 induction k with
 |zero=>simp
 |succ k ih=>
  have:=qv y (m+k);rw[show m+((k+1:Nat):Int)=m+k+1 from by omega];omega
theorem nV {y m y' m':Int}(h:12 * y+m=12 * y'+m'):cx y m=cx y' m':=by
 unfold cx;rw[show y+(m - 1)/12=y'+(m' - 1)/12 from by omega,show(m - 1)%12=(m' - 1)%12 from by omega]
theorem Gy {y m y' m':Int}(h:12 * y+m≤12 * y'+m'):cx y m≤cx y' m':=by
 obtain⟨k,hk⟩:∃k:Nat,12 * y'+m'=12 * y+(m+k):=⟨(12 * y'+m' - 12 * y - m).toNat,by omega⟩;rw[nV hk];have:=(BO y m k).1;omega
theorem Az {a b:Int}(h0:-10000≤a)(h:a≤b):12 * ae.ag a+ae.ofM a≤12 * ae.ag b+ae.ofM b:=by
 have ha:=gU a h0;have hb:=gU b (by omega);rcases Int.lt_or_le (12 * ae.ag b+ae.ofM b) (12 * ae.ag a+ae.ofM a)with ay|Ex
 ·have:=Gy (y:=ae.ag b) (m:=ae.ofM b+1) (y':=ae.ag a) (m':=ae.ofM a) (by omega);omega
 ·exact Ex
theorem yF {a b:Int}(h0:-10000≤a)(h:a≤b):ae.ag a≤ae.ag b:=by
 have ha:=ae.eT a (by omega);have hb:=ae.eT b (by omega);have:=Az h0 h;obtain⟨a1,a2,_⟩:=ha;obtain⟨b1,b2,_⟩:=hb;omega
end Go.Proofs.YthpndgcaoeokeaaGreatDoor
