import Derived.Test.YthpndgcaoeokeaaGreatDoorCo22
import Derived.RangeFuncLeaves
set_option maxRecDepth 100000
set_option maxHeartbeats 8000000
open Go.IntKind renaming i64→Z
open Go.Value renaming int→V,slice→ε,string→ζ
open Go.Ending renaming returned→δ
open Go.Obj renaming cells→η
open Go.StepsIn renaming trans→θ
open Go renaming World→ι,Calls→ξ,Regrown→π,Program→ρ,PanicEntry→τ,FuncId→υ,Act→φ
open Go.Fence renaming wide→κ
open Go.Machine renaming fenced→μ
open Go.Calls renaming regrown_of→ν
open Nat renaming le_refl→ο
namespace Go.Proofs.YthpndgcaoeokeaaGreatDoor
open Tryz
open Go.RowKit Go.Sort
def aH (r:au)(s d:Int):Int:=
 if r.fq=0 then d - s else if r.fq=1 then(d - (s - dV s r.ws))/7 else if r.fq=2 then(ae.ag d - ae.ag s) * 12+ae.ofM d - ae.ofM s else ae.ag d - ae.ag s
def iz (r:au)(start from_:Int):Int:=
 if 0<r.ct∨from_≤start then 0 else aH r (start/86400) (from_/86400) - aH r (start/86400) (from_/86400)%r.iv
theorem VQ (a b:Int)(w:ι):(Instr.field 370 (dt a b) 0).run prog w= .ok (aO a) w:=by
 unfold dt aO cS Instr.field;simp[part,asAgg,go_sem]
theorem Z7 (W:ι)(n s:Int)(D:Nat)(os:Array Obj)(h0:-699990≤n)(h1:n≤899990)(s0:0≤s)(s1:s≤6):
 ξ prog 352 #[aO n, V Z s] (grow (redrawn W D) os) fun e aA=>e= δ (dt (n - dV n s) (n - dV n s+7))∧∃p:π,aA=grow (redrawn W p.d) p.os:=
 ν (SD n s _ h0 h1 s0 s1)
theorem Qz (r:au)(m md wk pl:Value)(tx:ByteArray)(s d:Int)(w:ι)(hl:eh w r m md wk pl)(ho:cX r)(s0:0≤s)(s1:s≤d)(d1:d≤84010):
 ξ prog 349 #[aY r.fq r.iv r.ct r.un m md wk pl r.ws tx,aO s,aO d] w fun e w'=>e= δ (V Z (aH r s d))∧Below w.heap.size w w':=by
 have kC:=ho.Av;have IL:=ho.Cr;have zA:=ho.Yq;have hw6:=ho.Yr;have hr:=gL s (by omega) (by omega);have hrd:=gL d (by omega) (by omega);have hwi:=pG s r.ws;obtain⟨a1,e1⟩:=hl.ms.form;obtain⟨a2,e2⟩:=hl.mds.form;obtain⟨a3,e3⟩:=hl.wks.form;obtain⟨a4,e4⟩:=hl.pls.form;have h0:Hid (r.fq=0→aH r s d=d - s):=ad fun h=>by unfold aH;rw[if_pos h]
 have h1:Hid (r.fq=1→aH r s d=(d - (s - dV s r.ws))/7):=ad fun h=>by unfold aH;rw[if_neg (by omega),if_pos h]
 have h2:Hid (r.fq=2→aH r s d=(ae.ag d - ae.ag s) * 12+ae.ofM d - ae.ofM s):=ad fun h=>by unfold aH;rw[if_neg (by omega),if_neg (by omega),if_pos h]
 have h3:Hid (r.fq=3→aH r s d=ae.ag d - ae.ag s):=ad fun h=>by unfold aH;rw[if_neg (by omega),if_neg (by omega),if_neg (by omega)]
 have hT:Hid (∀W,ξ prog 358 #[aO s,aO d] W fun e w'=>e= δ (V Z (d - s))∧Below W.heap.size W w'):=ad fun W=>Qw s d W (by omega) (by omega) (by omega) (by omega);have hW:Hid (∀W D os,ξ prog 352 #[aO s, V Z r.ws] (grow (redrawn W D) os) fun e aA=>e= δ (dt (s - dV s r.ws) (s - dV s r.ws+7))∧∃p:π,aA=grow (redrawn W p.d) p.os):=ad fun W D os=>Z7 W s r.ws D os (by omega) (by omega) zA hw6;have tf:Hid (∀W D os,ξ prog 358 #[aO (s - dV s r.ws),aO d] (grow (redrawn W D) os) fun e aA=>e= δ (V Z (d - (s - dV s r.ws)))∧∃p:π,aA=grow (redrawn W p.d) p.os):=ad fun W D os=>Ys W (s - dV s r.ws) d D os (by omega) (by omega) (by omega) (by omega);clear hl ho;have O4:-10≤s - dV s r.ws∧s - dV s r.ws≤d:=by omega
 have SH:=VQ (s - dV s r.ws) (s - dV s r.ws+7);generalize dt (s - dV s r.ws) (s - dV s r.ws+7)=SP at *
 generalize hfw:s - dV s r.ws=fw at *
 clear hfw;generalize hDF:aO fw=DF at *
 clear hDF;generalize aH r s d=DD at *
 generalize r.ms.length=n1 at *
 generalize r.mds.length=n2 at *
 generalize r.wks.length=n3 at *
 generalize r.pls.length=n4 at *
 generalize r.fq=fq at *
 generalize r.iv=iv at *
 generalize r.ct=ct at *
 generalize r.un=un at *
 generalize r.ws=ws at *
 subst e1 e2 e3 e4;unfold aO cS aY at *
 have r0:=qs w [V Z fq, V Z iv, V Z ct, V Z un, ε a1 n1 n1, ε a2 n2 n2, ε a3 n3 n3, ε a4 n4 n4, V Z ws, ζ tx] 76 (η #[V Z (ae.ag s), V Z (ae.ofM s), V Z (ae.ar s)] 106) (η #[V Z (ae.ag d), V Z (ae.ofM d), V Z (ae.ar d)] 106);have r1:=qt w (η #[V Z fq, V Z iv, V Z ct, V Z un, ε a1 n1 n1, ε a2 n2 n2, ε a3 n3 n3, ε a4 n4 n4, V Z ws, ζ tx] 76) [V Z (ae.ag s), V Z (ae.ofM s), V Z (ae.ar s)] 106 (η #[V Z (ae.ag d), V Z (ae.ofM d), V Z (ae.ar d)] 106);have r2:=qu w (η #[V Z fq, V Z iv, V Z ct, V Z un, ε a1 n1 n1, ε a2 n2 n2, ε a3 n3 n3, ε a4 n4 n4, V Z ws, ζ tx] 76) (η #[V Z (ae.ag s), V Z (ae.ofM s), V Z (ae.ar s)] 106) [V Z (ae.ag d), V Z (ae.ofM d), V Z (ae.ar d)] 106;have ah:=mi w (η #[V Z fq, V Z iv, V Z ct, V Z un, ε a1 n1 n1, ε a2 n2 n2, ε a3 n3 n3, ε a4 n4 n4, V Z ws, ζ tx] 76) (η #[V Z (ae.ag s), V Z (ae.ofM s), V Z (ae.ar s)] 106) (η #[V Z (ae.ag d), V Z (ae.ofM d), V Z (ae.ar d)] 106);go_enter func349,ntmps349;go_upto_region 1 with fail;generalize((w.alloc (η #[V Z fq, V Z iv, V Z ct, V Z un, ε a1 n1 n1, ε a2 n2 n2, ε a3 n3 n3, ε a4 n4 n4, V Z ws, ζ tx] 76)).alloc (η #[V Z (ae.ag s), V Z (ae.ofM s), V Z (ae.ar s)] 106)).alloc (η #[V Z (ae.ag d), V Z (ae.ofM d), V Z (ae.ar d)] 106)=W at *
 obtain⟨g0,g1,g2,g3,g4,g5,g6,g7,g8,g9⟩:=ca r0;obtain⟨c0,c1,c2,_,_,_⟩:=bV r1;obtain⟨d0,d1,d2,_,_,_⟩:=bV r2;rcases(by omega:fq=0∨fq=1∨fq=2∨fq=3)with rfl|rfl|rfl|rfl
 ·replace h0:=ad (h0.out rfl);clear h1 h2 h3;go_wp2_with fail;refine(hT.out _).mono ?_;rintro e w3 ⟨rfl,bw⟩;go_wp2_with fail;go_ret;exact⟨by rw[h0.out];rfl,ah.trans (bw.mono ah.size)⟩
 ·replace h1:=ad (h1.out rfl);clear h0 h2 h3;go_upto_region 6 with fail;have j8:=cell_regrown g8;have j0:=cell_regrown c0;have j1:=cell_regrown c1;have j2:=cell_regrown c2;have i0:=cell_regrown d0;have i1:=cell_regrown d1;have i2:=cell_regrown d2;clear g0 g1 g2 g3 g4 g5 g6 g7 g8 g9 c0 c1 c2 d0 d1 d2;refine wp_region_quiet_below (by kernel_rfl) (by kernel_rfl) ?_
  repeat(go_big_quiet_step (first|exact hW.out W _ _|exact tf.out W _ _))
  refine wpQuiet_nil ?_;intro _ fF;obtain⟨⟨dq,gj⟩,eU⟩:=fF;subst eU;go_wp2_with fail;go_ret;exact⟨by rw[h1.out];rfl,ah.trans ((below_regrown W dq gj).mono ah.size)⟩
 ·replace h2:=ad (h2.out rfl);clear h0 h1 h3;go_wp2_with fail;go_ret;exact⟨by rw[h2.out];rfl,ah⟩
 ·replace h3:=ad (h3.out rfl);clear h0 h1 h2;go_wp2_with fail;go_ret;exact⟨by rw[h3.out];rfl,ah⟩
theorem VR (r:au)(s d:Int)(s0:0≤s)(s1:s≤d)(d1:d≤84010):0≤aH r s d∧aH r s d≤200000:=by
 have hr:=gL s (by omega) (by omega);have hrd:=gL d (by omega) (by omega);have hys:=sq s (by omega) (by omega);have kt:=sq d (by omega) (by omega);have hwi:=pG s r.ws;have hle:ae.ag s≤ae.ag d:=yF (by omega) s1;have hlm:=Az (by omega) s1;unfold aH;split
 ·omega
 ·split
  ·omega
  ·split<;>omega
theorem Ff (r:au)(m md wk pl:Value)(tx:ByteArray)(s f:Int)(w:ι)(hl:eh w r m md wk pl)(ho:cX r)(s0:0≤s)(s1:s≤7258118400)(f0:-1000000000000≤f)(f1:f≤7258118400):
 ξ prog 341 #[aY r.fq r.iv r.ct r.un m md wk pl r.ws tx, V Z s, V Z f] w fun e w'=>e= δ (V Z (iz r s f))∧Below w.heap.size w w':=by
 have EU:=ho.Cs;have Om:=ho.Yp;have Ly:=ho.IG;have hD:Hid (s<f→∀W,Below w.heap.size w W→∀D os,ξ prog 349 #[aY r.fq r.iv r.ct r.un m md wk pl r.ws tx,aO (s/86400),aO (f/86400)] (grow (redrawn W D) os) fun e aA=>e= δ (V Z (aH r (s/86400) (f/86400)))∧∃p:π,aA=grow (redrawn W p.d) p.os):=
  ad fun h W hb D os=>ν (Qz r m md wk pl tx (s/86400) (f/86400) _ ((hl.on hb).on (below_regrown W D os)) ho (by omega) (by omega) (by omega))
 have hO1:Hid (∀W D os,ξ prog 66 #[V Z s] (grow (redrawn W D) os) fun e aA=>e= δ (aO (s/86400))∧∃p:π,aA=grow (redrawn W p.d) p.os):=ad fun W D os=>ν (pF s _ s0 s1);have SI:Hid (s<f→∀W D os,ξ prog 66 #[V Z f] (grow (redrawn W D) os) fun e aA=>e= δ (aO (f/86400))∧∃p:π,aA=grow (redrawn W p.d) p.os):=ad fun h W D os=>ν (pF f _ (by omega) f1);have jg:Hid (s<f→0≤aH r (s/86400) (f/86400)∧aH r (s/86400) (f/86400)≤200000):=ad fun h=>VR r _ _ (by omega) (by omega) (by omega);have Ar:Hid (0<r.ct∨f≤s→iz r s f=0):=ad fun h=>by unfold iz;rw[if_pos h]
 have Co:Hid (r.ct=0→s<f→iz r s f=aH r (s/86400) (f/86400) - aH r (s/86400) (f/86400)%r.iv):=ad fun h h'=>by unfold iz;rw[if_neg (by omega)]
 obtain⟨a1,e1⟩:=hl.ms.form;obtain⟨a2,e2⟩:=hl.mds.form;obtain⟨a3,e3⟩:=hl.wks.form;obtain⟨a4,e4⟩:=hl.pls.form;clear hl ho;generalize iz r s f=FD at *
 generalize aH r (s/86400) (f/86400)=DD at *
 generalize r.ms.length=n1 at *
 generalize r.mds.length=n2 at *
 generalize r.wks.length=n3 at *
 generalize r.pls.length=n4 at *
 generalize r.fq=fq at *
 generalize r.iv=iv at *
 generalize r.ct=ct at *
 generalize r.un=un at *
 generalize r.ws=ws at *
 subst e1 e2 e3 e4;unfold aO cS aY at *
 have r0:=af.new w [V Z fq, V Z iv, V Z ct, V Z un, ε a1 n1 n1, ε a2 n2 n2, ε a3 n3 n3, ε a4 n4 n4, V Z ws, ζ tx] 76;have ah:Below w.heap.size w (w.alloc (η #[V Z fq, V Z iv, V Z ct, V Z un, ε a1 n1 n1, ε a2 n2 n2, ε a3 n3 n3, ε a4 n4 n4, V Z ws, ζ tx] 76)):=(Below.refl _ _).alloc (ο _) _;go_enter func341,ntmps341;go_upto_region 1 with fail;have eW:w.alloc (.cells [V Z fq, V Z iv, V Z ct, V Z un, ε a1 n1 n1, ε a2 n2 n2, ε a3 n3 n3, ε a4 n4 n4, V Z ws, ζ tx].toArray 76)=w.alloc (η #[V Z fq, V Z iv, V Z ct, V Z un, ε a1 n1 n1, ε a2 n2 n2, ε a3 n3 n3, ε a4 n4 n4, V Z ws, ζ tx] 76):=rfl;rw[eW]at r0;clear eW;generalize w.alloc (η #[V Z fq, V Z iv, V Z ct, V Z un, ε a1 n1 n1, ε a2 n2 n2, ε a3 n3 n3, ε a4 n4 n4, V Z ws, ζ tx] 76)=W at *
 obtain⟨g0,g1,g2,g3,g4,g5,g6,g7,g8,g9⟩:=ca r0;by_cases hc:0<ct
 ·replace Ar:=ad (Ar.out (.inl hc));clear Co hD hO1 SI jg;go_wp2_with fail;go_ret;exact⟨by rw[Ar.out];rfl,ah⟩
 ·obtain rfl:ct=0:=by omega
  clear hc;by_cases Sx:f≤s
  ·replace Ar:=ad (Ar.out (.inr Sx));clear Co hD hO1 SI jg;go_wp2_with fail;go_ret;exact⟨by rw[Ar.out];rfl,ah⟩
  ·have SH:s<f:=by omega
   replace Co:=ad (Co.out rfl SH);replace hD:=ad (hD.out SH);replace SI:=ad (SI.out SH);obtain⟨b0,b1⟩:=jg.out SH;clear Ar jg;go_upto_region 3 with fail;have j0:=cell_regrown g0;have j1:=cell_regrown g1;have j2:=cell_regrown g2;have j3:=cell_regrown g3;have j4:=cell_regrown g4;have j5:=cell_regrown g5;have j6:=cell_regrown g6;have j7:=cell_regrown g7;have j8:=cell_regrown g8;have j9:=cell_regrown g9;clear g0 g1 g2 g3 g4 g5 g6 g7 g8 g9;refine wp_region_quiet_below (by kernel_rfl) (by kernel_rfl) ?_
   repeat(go_big_quiet_step (first|exact hO1.out W _ _|exact SI.out W _ _|exact hD.out W ah _ _))
   refine wpQuiet_nil ?_;intro _ fF;obtain⟨⟨dq,gj⟩,eU⟩:=fF;subst eU;have pj:=ah.trans ((below_regrown W dq gj).mono ah.size);have hiz:iv≠0:=by omega
   have alq:(iv==0)=false:=by simpa using hiz
   have Lz:0≤DD%iv:=Int.emod_nonneg _ hiz;have lU:DD%iv<iv:=Int.emod_lt_of_pos _ (by omega);have htm:DD.tmod iv=DD%iv:=Int.tmod_eq_emod_of_nonneg b0;have Hi:wrap64 (DD - DD%iv)=DD - DD%iv:=by unfold wrap64;omega
   go_wp2_with fail;go_ret;exact⟨by rw[Co.out];rfl,pj⟩
def nx (r:au)(n:Int):Bool:=decide (r.wks.length=0)||r.wks.any fun p=>p.2==(n+719470)%7&&(p.1==0||fL r n p.1)
def kU (r:au)(n:Int):Bool:=Aw r n&&te r n&&nx r n
theorem JP (r:au)(m md wk pl:Value)(tx:ByteArray)(n:Int)(w:ι)(hl:eh w r m md wk pl)(ho:cX r)(h0:-10000≤n)(h1:n≤300000):
 ξ prog 364 #[aY r.fq r.iv r.ct r.un m md wk pl r.ws tx,aO n] w fun e w'=>e= δ (.bool (nx r n))∧Below w.heap.size w w':=by
 have hw:=hl.wks;have hq:=ho.wks;have acK:=ad ho.ord;have hP:Hid (∀W o,Below w.heap.size w W→-53≤o→o≤53→ξ prog 366 #[aY r.fq r.iv r.ct r.un m md wk pl r.ws tx,aO n, V Z o] W fun e w'=>e= δ (.bool (fL r n o))∧Below W.heap.size W w'):=
  ad fun W o hb a b=>Qx r m md wk pl tx n o W (hl.on hb) ho h0 h1 a b
 have hD:Hid (∀W,ξ prog 339 #[aO n] W fun e w'=>e= δ (V Z ((n+719470)%7))∧Below W.heap.size W w'):=ad fun W=>As n W (by omega) (by omega);have AA:Hid (r.wks.length≠0→nx r n=r.wks.any fun p=>p.2==(n+719470)%7&&(p.1==0||fL r n p.1)):=ad fun h=>by unfold nx;simp[h]
 have QA:Hid (r.wks.length=0→nx r n=true):=ad fun h=>by unfold nx;simp[h]
 have IP:0≤(n+719470)%7∧(n+719470)%7≤6:=by omega
 obtain⟨a1,e1⟩:=hl.ms.form;obtain⟨a2,e2⟩:=hl.mds.form;obtain⟨a3,e3⟩:=hl.pls.form;clear hl ho;generalize(n+719470)%7=K at *
 generalize nx r n=FW at *
 generalize hpb:fL r n=PB at *
 clear hpb;generalize r.wks=zs at *
 generalize r.fq=fq at *
 generalize r.iv=iv at *
 generalize r.ct=ct at *
 generalize r.un=un at *
 generalize r.ws=ws at *
 generalize r.ms.length=n1 at *
 generalize r.mds.length=n2 at *
 generalize r.pls.length=n3 at *
 subst e1 e2 e3;unfold aO cS aY at *
 by_cases hz:zs.length=0
 case pos=>
  have HE:=ad (QA.out hz);obtain⟨a4,rfl⟩:=hw.form;clear hw acK AA QA hP hD;generalize zs.length=L at *
  subst hz;go_enter func364,ntmps364;go_wp2_with fail;go_ret;exact⟨by rw[HE.out];rfl,((Below.refl _ _).alloc (ο _) _).alloc (by simp) _⟩
 case neg=>
  rcases hw with⟨_,h2⟩|⟨g,rfl,ax⟩
  ·rw[h2]at hz;exact absurd rfl hz
  have HE:=ad (AA.out hz);clear AA QA;have Kk:((zs.length:Int)==0)=false:=by simpa using hz
  have ay:=ax.lt;go_enter func364,ntmps364;go_wp2_with fail;have r0:=pH w [V Z fq, V Z iv, V Z ct, V Z un, ε a1 n1 n1, ε a2 n2 n2, ε (some ⟨g,0,none⟩) zs.length zs.length, ε a3 n3 n3, V Z ws, ζ tx] 76 (η #[V Z (ae.ag n), V Z (ae.ofM n), V Z (ae.ar n)] 106);have r1:=pI w [V Z (ae.ag n), V Z (ae.ofM n), V Z (ae.ar n)] 106 (η #[V Z fq, V Z iv, V Z ct, V Z un, ε a1 n1 n1, ε a2 n2 n2, ε (some ⟨g,0,none⟩) zs.length zs.length, ε a3 n3 n3, V Z ws, ζ tx] 76);have ah:=mh w (η #[V Z fq, V Z iv, V Z ct, V Z un, ε a1 n1 n1, ε a2 n2 n2, ε (some ⟨g,0,none⟩) zs.length zs.length, ε a3 n3 n3, V Z ws, ζ tx] 76) (η #[V Z (ae.ag n), V Z (ae.ofM n), V Z (ae.ar n)] 106);refine(hD.out _).mono ?_;rintro e w1 ⟨rfl,ai⟩;replace r0:=r0.on ai;replace r1:=r1.on ai;replace ah:=ah.trans (ai.mono ah.size);clear ai;obtain⟨q0,q1,q2,q3,q4,q5,q6,q7,q8,q9⟩:=ca r0;go_wp2_with fail;clear q0 q1 q2 q3 q4 q5 q6 q7 q8 q9;go_loopw [17] (fun i wr=>∃k:Nat,k≤zs.length∧i= V Z k∧Below w.heap.size w wr∧af wr w.heap.size [V Z fq, V Z iv, V Z ct, V Z un, ε a1 n1 n1, ε a2 n2 n2, ε (some ⟨g,0,none⟩) zs.length zs.length, ε a3 n3 n3, V Z ws, ζ tx] 76∧af wr (w.heap.size+1) [V Z (ae.ag n), V Z (ae.ofM n), V Z (ae.ar n)] 106∧Hid (FW=(zs.drop k).any fun p=>p.2==K&&(p.1==0||PB p.1))) (fun i _=>zs.length - (intOf i).toNat)
  case atStart=>exact⟨0,Nat.zero_le _,rfl,ah,r0,r1,ad (by simpa using HE.out)⟩
  case round=>
   clear r0 r1 ah HE;obtain⟨k,hk,rfl,aX,r0,r1,HT⟩:=hrel;by_cases ay:k<zs.length
   case neg=>
    have fB:k=zs.length:=by omega
    subst fB;have HE:Hid (FW=false):=ad (by rw[HT.out,List.drop_length];rfl);clear HT;go_wp2_with fail;go_ret;exact⟨by rw[HE.out];rfl,aX⟩
   case pos=>
    obtain⟨q,IQ⟩:∃q,zs[k]?=some q:=⟨_,List.getElem?_eq_getElem ay⟩;have hr:=ax.on aX;have d0:=hr.cell (IS zs k q IQ);have d1:=hr.cell (IT zs k q IQ);have hqb:=acK.out q (List.mem_of_getElem? IQ);have hd:zs.drop k=q::zs.drop (k+1):=by
     obtain⟨lR,he⟩:=List.getElem?_eq_some_iff.1 IQ;rw[List.drop_eq_getElem_cons lR,he]
    have hB:=aX.size;have jX:=r1.lt;by_cases SJ:q.2=K
    case neg=>
     have HE:Hid (FW=(zs.drop (k+1)).any fun p=>p.2==K&&(p.1==0||PB p.1)):=ad (by rw[HT.out,hd,List.any_cons];simp[SJ]);have g1:(q.2==K)=false:=by simp[SJ]
     clear HT hd IQ;go_wp2_with fail;go_roundw
     case rel=>
      have cj:=(Below.refl wr.heap.size wr).alloc (ο _) (η #[V Z q.1, V Z q.2] 183);exact⟨k+1,by omega,by go_num,aX.alloc hB _,r0.on cj,r1.on cj,HE⟩
     case measure=>simp[intOf];omega
    case pos=>
     subst SJ;by_cases ho0:q.1=0
     case pos=>
      have HE:Hid (FW=true):=ad (by rw[HT.out,hd,List.any_cons];simp[ho0]);have g1:(q.1==0)=true:=by simp[ho0]
      clear HT hd IQ;go_wp2_with fail;go_ret;exact⟨by rw[HE.out];rfl,aX.alloc hB _⟩
     case neg=>
      have g1:(q.1==0)=false:=by simp[ho0]
      have HE:Hid (FW=(PB q.1||(zs.drop (k+1)).any fun p=>p.2==q.2&&(p.1==0||PB p.1))):=ad (by rw[HT.out,hd,List.any_cons,g1];simp);clear HT hd IQ;have cj:=(Below.refl wr.heap.size wr).alloc (ο _) (η #[V Z q.1, V Z q.2] 183);obtain⟨q0,q1,q2,q3,q4,q5,q6,q7,q8,q9⟩:=ca (r0.on cj);obtain⟨c0,c1,c2,_,_,_⟩:=bV (r1.on cj);go_wp2_with fail;refine(hP.out _ q.1 (aX.alloc hB _) hqb.1 hqb.2).mono ?_;rintro e w5 ⟨rfl,bk⟩;generalize hp:PB q.1=pb at *
      clear q0 q1 q2 q3 q4 q5 q6 q7 q8 q9 c0 c1 c2;cases pb
      ·go_wp2_with fail;go_roundw
       case rel=>exact⟨k+1,by omega,by go_num,(aX.alloc hB _).trans (bk.mono (by simp;omega)),(r0.on cj).on bk,(r1.on cj).on bk,ad (by rw[HE.out];simp)⟩
       case measure=>simp[intOf];omega
      ·go_wp2_with fail;go_ret;exact⟨by rw[HE.out];simp,(aX.alloc hB _).trans (bk.mono (by simp;omega))⟩
theorem acM (r:au)(m md wk pl:Value)(tx:ByteArray)(n:Int)(w:ι)(hl:eh w r m md wk pl)(ho:cX r)(h0:-10000≤n)(h1:n≤300000):
 ξ prog 356 #[aY r.fq r.iv r.ct r.un m md wk pl r.ws tx,aO n] w fun e w'=>e= δ (.bool (kU r n))∧Below w.heap.size w w':=by
 have hA:Hid (∀W,Below w.heap.size w W→ξ prog 362 #[aY r.fq r.iv r.ct r.un m md wk pl r.ws tx,aO n] W fun e w'=>e= δ (.bool (Aw r n))∧Below W.heap.size W w'):=ad fun W hb=>ND r m md wk pl tx n W (hl.on hb) ho;have hB:Hid (∀W,Below w.heap.size w W→ξ prog 363 #[aY r.fq r.iv r.ct r.un m md wk pl r.ws tx,aO n] W fun e w'=>e= δ (.bool (te r n))∧Below W.heap.size W w'):=ad fun W hb=>Gx r m md wk pl tx n W (hl.on hb) ho h0 h1;have hC:Hid (∀W,Below w.heap.size w W→ξ prog 364 #[aY r.fq r.iv r.ct r.un m md wk pl r.ws tx,aO n] W fun e w'=>e= δ (.bool (nx r n))∧Below W.heap.size W w'):=ad fun W hb=>JP r m md wk pl tx n W (hl.on hb) ho h0 h1;obtain⟨a1,e1⟩:=hl.ms.form;obtain⟨a2,e2⟩:=hl.mds.form;obtain⟨a3,e3⟩:=hl.pls.form;obtain⟨a4,e4⟩:=hl.wks.form;clear hl ho;have hF:Hid (kU r n=(Aw r n&&te r n&&nx r n)):=ad rfl;generalize kU r n=F at *
 generalize Aw r n=A at *
 generalize te r n=B at *
 generalize nx r n=C at *
 generalize r.fq=fq at *
 generalize r.iv=iv at *
 generalize r.ct=ct at *
 generalize r.un=un at *
 generalize r.ws=ws at *
 generalize r.ms.length=n1 at *
 generalize r.mds.length=n2 at *
 generalize r.pls.length=n3 at *
 generalize r.wks.length=n4 at *
 subst e1 e2 e3 e4;unfold aO cS aY at *
 have r0:=pH w [V Z fq, V Z iv, V Z ct, V Z un, ε a1 n1 n1, ε a2 n2 n2, ε a4 n4 n4, ε a3 n3 n3, V Z ws, ζ tx] 76 (η #[V Z (ae.ag n), V Z (ae.ofM n), V Z (ae.ar n)] 106);have r1:=pI w [V Z (ae.ag n), V Z (ae.ofM n), V Z (ae.ar n)] 106 (η #[V Z fq, V Z iv, V Z ct, V Z un, ε a1 n1 n1, ε a2 n2 n2, ε a4 n4 n4, ε a3 n3 n3, V Z ws, ζ tx] 76);have ah:=mh w (η #[V Z fq, V Z iv, V Z ct, V Z un, ε a1 n1 n1, ε a2 n2 n2, ε a4 n4 n4, ε a3 n3 n3, V Z ws, ζ tx] 76) (η #[V Z (ae.ag n), V Z (ae.ofM n), V Z (ae.ar n)] 106);go_enter func356,ntmps356;go_wp2_with fail;refine(hA.out _ ah).mono ?_;rintro e w1 ⟨rfl,ai⟩;replace r0:=r0.on ai;replace r1:=r1.on ai;replace ah:=ah.trans (ai.mono ah.size);clear ai;cases A
 ·go_wp2_with fail;go_ret;exact⟨by rw[hF.out];simp,ah⟩
 ·obtain⟨q0,q1,q2,q3,q4,q5,q6,q7,q8,q9⟩:=ca r0;obtain⟨c0,c1,c2,_,_,_⟩:=bV r1;go_wp2_with fail;refine(hB.out _ ah).mono ?_;rintro e w2 ⟨rfl,az⟩;replace r0:=r0.on az;replace r1:=r1.on az;replace ah:=ah.trans (az.mono ah.size);clear az q0 q1 q2 q3 q4 q5 q6 q7 q8 q9 c0 c1 c2;cases B
  ·go_wp2_with fail;go_ret;exact⟨by rw[hF.out];simp,ah⟩
  ·obtain⟨q0,q1,q2,q3,q4,q5,q6,q7,q8,q9⟩:=ca r0;obtain⟨c0,c1,c2,_,_,_⟩:=bV r1;go_wp2_with fail;refine(hC.out _ ah).mono ?_;rintro e w3 ⟨rfl,bw⟩;go_wp2_with fail;go_ret;exact⟨by rw[hF.out];simp,ah.trans (bw.mono ah.size)⟩
def QB (P:ρ)(l:Nat)(R:Ending→ι→Prop):Exit→φ→ι→Prop
 | .normal,_,w=>∃v w',(Instr.endRound l none).run P w= .ok v w'∧R (δ v) w'
 | .ret,_,w=>∃v w',(Instr.endRound l (some .ret)).run P w= .ok v w'∧R (δ v) w'
 | .exit id,_,w=>∃v w',(Instr.endRound l (some (.exit id))).run P w= .ok v w'∧R (δ v) w'
 | .goto t,_,w=>∃v w',(Instr.endRound l (some (.goto t))).run P w= .ok v w'∧R (δ v) w'
 | .panic c,a,w=>a.defers=[]∧R (.panicked c) w
 | .outgrown,_,_=>False
theorem DM {F:Fence}{n:Nat}{P:ρ}{l:Nat}{f:υ}{fn:Func}{tmps:Array Value}{assign body:Code}{w:ι}{R:Ending→ι→Prop}(hF:F.fn f)(Cu:P.funcs[f]?=some fn)
 (h:assign.wpIn (F.inRound l) n P (Exit.then (fun a₁ w₁=>∃w₂,(Instr.beginRound l).run P w₁= .ok () w₂∧body.wpIn (F.inRound l) n P (QB P l R) a₁ w₂) (fun _ _ _=>False))
  {tmps:=tmps,defers:=[]} w):
 RoundIn F n P l f tmps assign body w R:=by
 refine⟨hF,fun c cs hr=>?_⟩;let b:Frame:={(default:Frame)with fn:=f,kind:= .normal,roundOf:=some l};have bz:Frame.round l f tmps assign body .normal=b.atR {tmps:=tmps,defers:=[]} [.code assign, .beginRound, .code body]:=by
  simp[Frame.round,Frame.atR,b]
 have pc:(F.inRound l).room ((c::cs).length+1+n):=hr;have Cn:(F.inRound l).fn b.fn:=hF;obtain⟨e,a₁,w₁,hq,ga⟩:=h b [.beginRound, .code body] (c::cs) rfl Cn pc;rw[←bz]at ga;cases e with
 |normal=>
  obtain⟨w₂,dG,QC⟩:=hq;have s1:StepsIn (μ P (F.inRound l)) P (lone (b.atR a₁ [.beginRound, .code body]) (c::cs) w₁) (lone (b.atR a₁ [.code body]) (c::cs) w₂):=
   .one (fenced_calm (fr:=b.atR a₁ [.beginRound, .code body]) Cn pc rfl) (stepR_beginRound rfl dG)
  obtain⟨e₂,a₂,w₃,IU,yG⟩:=QC b [] (c::cs) rfl Cn pc;cases e₂ with
  |normal=>
   obtain⟨v,w₄,kh,hR⟩:=IU;exact⟨δ v,w₄,hR,(θ ga s1).trans (θ yG (.one (fenced_calm (fr:=b.atR a₂ []) Cn pc rfl) (stepR_round_end rfl rfl kh)))⟩
  |ret=>
   obtain⟨v,w₄,kh,hR⟩:=IU;obtain⟨k₁,hs⟩:=yG.2 rfl;exact⟨δ v,w₄,hR,(θ ga s1).trans (θ hs (.one (fenced_calm (fr:=b.atR a₂ (.code .ret::k₁)) Cn pc rfl) (stepR_round_ret rfl rfl kh)))⟩
  |exit id=>
   obtain⟨v,w₄,kh,hR⟩:=IU;obtain⟨k₁,hk,hs⟩:=yG.2 rfl rfl;exact⟨δ v,w₄,hR,(θ ga s1).trans (θ hs (.one (fenced_calm (fr:=b.atR a₂ (.code (.exit id)::k₁)) Cn pc rfl) (stepR_round_exit rfl rfl hk kh)))⟩
  |goto t=>
   obtain⟨v,w₄,kh,hR⟩:=IU;obtain⟨k₁,hk,hs⟩:=yG.2 rfl rfl;exact⟨δ v,w₄,hR,(θ ga s1).trans (θ hs (.one (fenced_calm (fr:=b.atR a₂ (.code (.goto t)::k₁)) Cn pc rfl) (stepR_round_goto rfl rfl hk kh)))⟩
  |panic chain=>
   obtain⟨hd,hR⟩:=IU;obtain⟨todo,hs⟩:=yG;have hl:({b.atR a₂ todo with mode:= .panicking chain}:Frame).leaving P w₃ (.panicked chain):=⟨rfl,hd,fn,Cu⟩;have sC:(lone {b.atR a₂ todo with mode:= .panicking chain} (c::cs) w₃).fenced P (F.inRound l):=fenced_leaving Cn pc hl;exact⟨.panicked chain,w₃,hR,(θ ga s1).trans (θ hs (.one sC (step_leave_panicked hl)))⟩
  |outgrown=>exact IU.elim
 |exit id=>exact hq.elim
 |goto t=>exact hq.elim
 |ret=>exact hq.elim
 |panic chain=>exact hq.elim
 |outgrown=>exact hq.elim
abbrev aB:=Nat→Prop
abbrev bI:=aB→ι→Prop
def On (D:aB)(J:bI)(W:ι):Prop:=(∀k,D k→k<W.heap.size)∧xd D (J D) W
theorem On.out {D:aB}{J:bI}{W:ι}(h:On D J W):J D W:=h.2.out
theorem On.on {D:aB}{J:bI}{W W':ι}(h:On D J W)(hk:∀k,D k→W'.heap[k]?=W.heap[k]?):On D J W':=
 ⟨fun k hd=>Qb (h.1 k hd) (hk k hd),h.2.on hk⟩
theorem On.below {D:aB}{J:bI}{W W':ι}(h:On D J W)(hb:Below W.heap.size W W'):On D J W':=h.on fun k hd=>hb.block k (h.1 k hd)
theorem On.put {D:aB}{J:bI}{W:ι}(h:On D J W){r:Nat}(hr:¬D r)(o:Obj):On D J (W.putObj r o):=
 h.on fun _ hd=>World.putObj_heap_other (fun e=>hr (e▸hd))
theorem On.alloc {D:aB}{J:bI}{W:ι}(h:On D J W)(o:Obj):On D J (W.alloc o):=h.on fun k hd=>Below.heap_alloc _ _ _ (h.1 k hd)
theorem On.imp {D:aB}{J J':bI}{W:ι}(h:On D J W)(hj:∀w,J D w→J' D w):On D J' W:=⟨h.1,fun W2 hk=>hj _ (h.2 W2 hk)⟩
def bR (O:aB)(N:Nat)(J:bI)(W W':ι):Prop:=
 aK O W W'∧∃D:aB,(∀k,D k→O k∨N≤k)∧(∀k,O k→D k)∧On D J W'
theorem bR.imp {O:aB}{N:Nat}{J J':bI}{W W':ι}(h:bR O N J W W')(hj:∀D w,J D w→J' D w):bR O N J' W W':=by
 obtain⟨x,D,d1,d2,d3⟩:=h;exact⟨x,D,d1,d2,d3.imp (hj D)⟩
def oP (P:ρ)(g:Nat)(lb:Array Value)(xs:List (Array Value))(R:aB)(w:ι):Prop:=
 ∀(l:Nat) (W:ι) (O:aB) (J:Nat→bI) (Js:bI) (Jp:List τ→bI),
  w.heap.size≤W.heap.size→(∀k,R k→W.heap[k]?=w.heap[k]?)→(∀k,O k→¬R k)→On O (J 0) W→
  (∀i x,xs[i]?=some x→∀(W1:ι) (D:aB),aK O W W1→(∀k,D k→O k∨W.heap.size≤k)→(∀k,O k→D k)→On D (J i) W1→
   YieldAt κ 0 P l x W1 fun e W'=>
    (e= δ (.bool true)∧bR D W1.heap.size (J (i+1)) W1 W')∨(e= δ (.bool false)∧bR D W1.heap.size Js W1 W')∨(∃c,e= .panicked c∧bR D W1.heap.size (Jp c) W1 W'))→
  CallsIn κ 0 P g (#[.func (.yield l) #[] #[]]++lb) W fun e W'=>
   ((∃v,e= δ v)∧(bR O W.heap.size (J xs.length) W W'∨bR O W.heap.size Js W W'))∨(∃c,e= .panicked c∧bR O W.heap.size (Jp c) W W')
def Yt (D:aB)(J:bI)(Jx:Code→bI)(Jp:List τ→bI)(W:ι):Exit→φ→ι→Prop
 | .normal,_,W'=>bR D W.heap.size J W W'
 | .ret,_,W'=>bR D W.heap.size (Jx .ret) W W'
 | .exit id,_,W'=>bR D W.heap.size (Jx (.exit id)) W W'
 | .goto t,_,W'=>bR D W.heap.size (Jx (.goto t)) W W'
 | .panic c,a,W'=>a.defers=[]∧bR D W.heap.size (Jp c) W W'
 | .outgrown,_,_=>False
def xB (f:υ)(P:ρ)(c:Code)(Q:Exit→φ→ι→Prop)(a:φ)(w:ι):Prop:=
 ∀(b:Frame) (k:List Item) (cs:List Frame),b.roundOf=none→b.fn=f→
  ∃e a' w',Q e a' w'∧ArrivesIn (μ P κ) P (lone (b.atR a (.code c::k)) cs w) b k cs e a' w'
section xB
variable {f:υ} {P:ρ} {Q:Exit→φ→ι→Prop} {a:φ} {w:ι}
theorem ei {c:Code}(h:c.wpIn κ 0 P Q a w):xB f P c Q a w:=fun b k cs AB _=>h b k cs AB trivial (room_wide _)
theorem dy {x y:Code}(h:∀K:φ→ι→Prop,(∀a w,xB f P y Q a w→K a w)→xB f P x (Exit.then K Q) a w):xB f P (Code.seq x y) Q a w:=by
 intro b k cs AB hb;have h0:(lone (b.atR a (.code (.seq x y)::k)) cs w).fenced P κ:=fenced_wide _ _;obtain⟨e,a₁,w₁,hq,ga⟩:=h (xB f P y Q) (fun _ _ h=>h) b (.code y::k) cs AB hb;cases e with
 |normal=>
  obtain⟨e₂,a₂,w₂,IU,yG⟩:=hq b k cs AB hb;exact⟨e₂,a₂,w₂,IU, .of_steps (.head h0 stepR_seq ga) yG⟩
 |exit id=>exact⟨_,a₁,w₁,hq, .of_steps (.one h0 stepR_seq) (.pass (x:= .code y) rfl (fun _ _=> .inl (by simp)) ga)⟩
 |goto l=>exact⟨_,a₁,w₁,hq, .of_steps (.one h0 stepR_seq) (.pass (x:= .code y) rfl (fun _ _=> .inl (by simp)) ga)⟩
 |ret=>exact⟨_,a₁,w₁,hq, .of_steps (.one h0 stepR_seq) (.pass (x:= .code y) rfl (fun _ _=> .inl (by simp)) ga)⟩
 |panic ch=>exact⟨_,a₁,w₁,hq, .of_steps (.one h0 stepR_seq) (.pass (x:= .code y) rfl (fun _ _=> .inl (by simp)) ga)⟩
 |outgrown=>exact⟨_,a₁,w₁,hq, .of_steps (.one h0 stepR_seq) (.pass (x:= .code y) rfl (fun _ _=> .inl (by simp)) ga)⟩
theorem nW {id:Nat}{c:Code}(h:xB f P c (Exit.inBlock id Q) a w):xB f P (Code.block id c) Q a w:=by
 intro b k cs AB hb;have kC:∀m,μ P κ m:=fun m=>fenced_wide _ m;obtain⟨e,a₁,w₁,hq,ga⟩:=h b (.inBlock id::k) cs AB hb;cases e with
 |normal=>exact⟨.normal,a₁,w₁,hq, .head (kC _) stepR_block (θ ga (.one (kC _) stepR_inBlock))⟩
 |exit SK=>
  by_cases hid:SK=id
  ·simp only[Exit.inBlock,hid,if_true]at hq;exact⟨.normal,a₁,w₁,hq, .head (kC _) stepR_block (ga.1 k (by simp[exitTo,hid]))⟩
  ·simp only[Exit.inBlock,hid,if_false]at hq;have this:(id==SK)=false:=by simp;exact fun h=>hid h.symm
   have hx:exitTo SK (.inBlock id::k)=exitTo SK k:=by simp[exitTo,this]
   exact⟨.exit SK,a₁,w₁,hq,fun k' hk=> .head (kC _) stepR_block (ga.1 k' (by rw[hx];exact hk)),
    fun pc hk=>by rw[AB]at pc;cases pc⟩
 |goto l=>
  have hx:gotoIn l (.inBlock id::k)=gotoIn l k:=by simp[gotoIn]
  exact⟨_,a₁,w₁,hq,fun k' hk=> .head (kC _) stepR_block (ga.1 k' (by rw[hx];exact hk)),
   fun pc hk=>by rw[AB]at pc;cases pc⟩
 |ret=>exact⟨_,a₁,w₁,hq, .of_steps (.one (kC _) stepR_block) ga⟩
 |panic ch=>exact⟨_,a₁,w₁,hq, .of_steps (.one (kC _) stepR_block) ga⟩
 |outgrown=>exact⟨_,a₁,w₁,hq, .of_steps (.one (kC _) stepR_block) ga⟩
theorem SL {g:Operand}{ps:Array Tmp}{assign body:Code}
 (h:∃(l:Nat) (mark:List Deferred) (w₁:ι) (d:Deferred) (w₁':ι) (f':υ) (args:Array Value) (w₂:ι),
  (Instr.enterLoop f a.tmps ps assign body none).run P w= .ok (l,mark) w₁∧
  (resolve a.eval (rangeCall g l) 0).run P w₁= .ok d w₁'∧
  (invoke d.target d.args).run P w₁'= .ok (.enter f' args) w₂∧
  CallsIn κ 0 P f' args w₂ (rangePost κ 0 P l Q {a with defers:=mark++a.defers})):
 xB f P (Code.rangeFunc g ps assign body) Q a w:=by
 intro b k cs AB hb;have kC:∀m,μ P κ m:=fun m=>fenced_wide _ m;obtain⟨l,mark,w₁,d,w₁',f',args,w₂,he,PZ,hinv,hF,aeT⟩:=h;rw[←hb,←AB]at he;have AD:=stepR_rangeFunc (P:=P) (b:=b) (a:=a) (k:=k) (cs:=cs) (w:=w) he PZ hinv;obtain⟨e,w₃,fr,hR,LA,Cu,SM⟩:=aeT (b.atR {a with defers:=mark++a.defers} (.inRangeFunc l::k)::cs) (room_wide _);cases e with
 |outgrown=>
  obtain⟨a₀,w₀,hq⟩:=hR;exact⟨.outgrown,a₀,w₀,hq, .inr (Outgrown.of_steps (.one AD) LA)⟩
 |returned v=>
  obtain⟨jump,w₄,kh,hj⟩:=hR;have Yu:StepsIn (μ P κ) P (lone (b.atR a (.code (.rangeFunc g ps assign body)::k)) cs w) (lone (b.atR {a with defers:=mark++a.defers} ((jump.map Item.code).toList++k)) cs w₄):=by
   refine .head (kC _) AD (θ LA (.head (kC _) ?_ (.one (kC _) (stepR_endRangeFunc kh))));rw[←finish_atR_inRangeFunc l v];exact step_leave_returned SM
  cases jump with
  |none=>exact⟨.normal,_,w₄,hj,Yu⟩
  |some c=>
   obtain⟨e',a'',w₅,hq,ga⟩:=hj b k cs AB trivial (room_wide _);exact⟨e',a'',w₅,hq, .of_steps Yu ga⟩
 |panicked chain=>
  refine⟨.panic chain,_,w₃,hR, .inRangeFunc l::k, .head (kC _) AD (θ LA (.one (kC _) ?_))⟩;rw[←Frame.raise_atR];exact step_leave_panicked SM
theorem iM {fn:Func}{c:Code}{args:Array Value}{R:Ending→ι→Prop}(hf:P.funcs[f]?=some fn)(hb:fn.body=some c)
 (h:xB f P c (bodyPostM κ 0 P fn R) {tmps:=args++Array.replicate (fn.ntmps - args.size) undef,defers:=[]} w):CallsIn κ 0 P f args w R:=by
 refine⟨trivial,fun cs hr=>?_⟩;have hF:Fence.wide.fn f:=trivial;have kC:∀m,μ P κ m:=fun m=>fenced_wide _ m;let b:Frame:={(default:Frame)with fn:=f,kind:= .normal,roundOf:=none};have AD:Frame.enter P f args .normal=
  b.atR {tmps:=args++Array.replicate (fn.ntmps - args.size) undef,defers:=[]} [.code c]:=by
  simp[Frame.enter,Frame.atR,hf,hb,b]
 obtain⟨e,a',w',hq,ga⟩:=h b [] cs rfl rfl;rw[←AD]at ga;cases e with
 |normal=>
  obtain⟨e',aA,SN,hR,hs,Cu,hl⟩:=leaves_stepsInM a'.defers .returning w' {b.atR a' []with mode:= .returning} cs rfl rfl rfl hf rfl hF hr hq;exact⟨e',aA,SN,hR,ComesIn.of_steps (θ ga (.one (kC _) (stepR_end rfl))) hs,Cu,hl⟩
 |ret=>
  obtain⟨todo,hs₀⟩:=ga.1 rfl;obtain⟨e',aA,SN,hR,hs,Cu,hl⟩:=leaves_stepsInM a'.defers .returning w' {b.atR a' todo with mode:= .returning} cs rfl rfl rfl hf rfl hF hr hq;exact⟨e',aA,SN,hR,ComesIn.of_steps hs₀ hs,Cu,hl⟩
 |panic chain=>
  obtain⟨todo,hs₀⟩:=ga;obtain⟨e',aA,SN,hR,hs,Cu,hl⟩:=leaves_stepsInM a'.defers (.panicking chain) w' {b.atR a' todo with mode:= .panicking chain} cs rfl rfl rfl hf rfl hF hr hq;exact⟨e',aA,SN,hR,ComesIn.of_steps hs₀ hs,Cu,hl⟩
 |exit id=>exact hq.elim
 |goto l=>exact hq.elim
 |outgrown=>exact⟨.outgrown,w',b,hq,ga.resolve_left (by simp[b]),rfl,trivial⟩
end xB
theorem QD {f:υ}{fnc:Func}{P:ρ}(VS:P.funcs[f]?=some fnc){g:Operand}{ps:Array Tmp}{assign body:Code}{Q:Exit→φ→ι→Prop}{a:φ}{w:ι}
 {gf:Nat}{lb:Array Value}{xs:List (Array Value)}(hg:a.eval g= .func (.func gf) #[] lb)(eg:∀args w,(callFunc gf args).run P w= .ok (.enter gf args) w)
 {R:aB}{w0:ι}(hit:oP P gf lb xs R w0)(O4:w0.heap.size≤w.heap.size)(hwR:∀k,R k→w.heap[k]?=w0.heap[k]?)(Yv:∀k,R k→k<w.heap.size)
 (O:aB)(hO:∀k,O k→¬R k)(J:Nat→bI)(Jx:Code→bI)(Jp:List τ→bI)(B:Nat→φ→bI)(nS:∀x∈xs,x.size=ps.size)(h0:On O (J 0) w)
 (Z8:∀(l:Nat) (i:Nat) (x:Array Value),xs[i]?=some x→∀(W:ι) (D:aB),aK O w W→w.heap.size+2≤W.heap.size→(∀k,O k→D k)→On D (J i) W→
  ∀K:φ→ι→Prop,(∀a1 W1 D1,Below W.heap.size W W1→(∀k,D1 k→D k∨W.heap.size≤k)→(∀k,D k→D1 k)→On D1 (B i a1) W1→K a1 W1)→
  assign.wpIn (Fence.wide.inRound l) 0 P (Exit.then K (fun _ _ _=>False)) {tmps:=(ps.zip x).foldl (fun t (p,v)=>t.setIfInBounds p v) a.tmps,defers:=[]} W)
 (QC:∀(l:Nat) (i:Nat) (x:Array Value),xs[i]?=some x→∀(a1:φ) (W:ι) (D:aB),aK O w W→w.heap.size+2≤W.heap.size→(∀k,O k→D k)→On D (B i a1) W→
  body.wpIn (Fence.wide.inRound l) 0 P (Yt D (J (i+1)) Jx Jp W) a1 W)
 (QE:∀(W:ι),bR O (w.heap.size+2) (J xs.length) w W→w.heap.size+2≤W.heap.size→W.heap[w.heap.size]?=some (.deferred (some []))→Q .normal {a with defers:={target:= .collected w.heap.size,args:=#[]}::a.defers} W)
 (QF:∀(c:Code) (W:ι),bR O (w.heap.size+2) (Jx c) w W→w.heap.size+2≤W.heap.size→W.heap[w.heap.size]?=some (.deferred (some []))→c.wpIn κ 0 P Q {a with defers:={target:= .collected w.heap.size,args:=#[]}::a.defers} W)
 (VT:∀(c:List τ) (W:ι),bR O (w.heap.size+2) (Jp c) w W→w.heap.size+2≤W.heap.size→W.heap[w.heap.size]?=some (.deferred (some []))→Q (.panic c) {a with defers:={target:= .collected w.heap.size,args:=#[]}::a.defers} W):
 xB f P (Code.rangeFunc g ps assign body) Q a w:=by
 refine SL ?_;obtain⟨rec,pJ⟩:∃rec:LoopState→Option Code→Loop,rec=fun st pe=>{state:=st,pending:=pe,fn:=f,tmps:=a.tmps,params:=ps,assign,body,defers:=w.heap.size}:=⟨_,rfl⟩;obtain⟨W1,LC⟩:∃W1,(w.alloc (.deferred (some []))).alloc (.loop (rec .ready none))=W1:=⟨_,rfl⟩;have zo:W1.heap[w.heap.size+1]?=some (.loop (rec .ready none)):=by
  rw[←LC];have:=World.alloc_heap_new (w.alloc (.deferred (some []))) (.loop (rec .ready none));rwa [World.size_alloc]at this
 have aP:W1.heap[w.heap.size]?=some (.deferred (some [])):=by
  rw[←LC];exact(Below.heap_alloc _ _ _ (by simp)).trans (World.alloc_heap_new w _)
 have hS1:W1.heap.size=w.heap.size+2:=by rw[←LC];simp
 have Cv:Below w.heap.size w W1:=by
  rw[←LC];exact((Below.refl _ w).alloc (ο _) _).alloc (by simp) _
 refine⟨w.heap.size+1,[{target:= .collected w.heap.size,args:=#[]}],W1,{target:= .fn (.func gf) lb,args:=#[.func (.yield (w.heap.size+1)) #[] #[]]},W1,gf,
  #[.func (.yield (w.heap.size+1)) #[] #[]]++lb,W1,?_,?_,?_,?_⟩
 ·rw[←LC,pJ];exact run_enterLoop_outer _ _ _ _ _
 ·simp only[resolve,hg];simp[go_sem]
 ·simp[invoke,go_sem,eg]
 ·
  have nOl:¬O (w.heap.size+1):=fun h=>by have:=h0.1 _ h;omega
  have nOd:¬O w.heap.size:=fun h=>by have:=h0.1 _ h;omega
  obtain⟨L,hL⟩:∃L:bI→LoopState→Option Code→bI,L=fun J st pe D W=>(∃D0:aB,(∀k,D k↔D0 k∨k=w.heap.size+1)∧¬D0 (w.heap.size+1)∧(∀k,O k→D0 k)∧(∀k,D0 k→O k∨w.heap.size+2≤k)∧On D0 J W)∧W.heap[w.heap.size+1]?=some (.loop (rec st pe)):=⟨_,rfl⟩;have mk:∀(J:bI) (st:LoopState) (pe:Option Code) (D0:aB) (W:ι),(∀k,O k→D0 k)→(∀k,D0 k→O k∨w.heap.size+2≤k)→On D0 J W→W.heap[w.heap.size+1]?=some (.loop (rec st pe))→
   On (fun k=>D0 k∨k=w.heap.size+1) (L J st pe) W:=fun J st pe D0 W h1 h2 h3 h4=>by
   have n0:¬D0 (w.heap.size+1):=fun h=>(h2 _ h).elim nOl (by omega);refine⟨fun k hk=>?_,fun W2 hk=>?_⟩
   ·rcases hk with hk|rfl
    ·exact h3.1 k hk
    ·exact(Array.getElem?_eq_some_iff.1 h4).1
   ·rw[hL];exact⟨⟨D0,fun k=>Iff.rfl,n0,h1,h2,h3.on fun k hd=>hk k (.inl hd)⟩,(hk _ (.inr rfl)).trans h4⟩
  refine(hit (w.heap.size+1) W1 (fun k=>O k∨k=w.heap.size+1)
   (fun i=>L (J i) .ready none) (fun D W=>∃c,L (Jx c) .done (some c) D W) (fun c=>L (Jp c) .busy none) (by omega) (fun k hk=>(Cv.block k (Yv k hk)).trans (hwR k hk))
   (fun k hk=>by
    rcases hk with hk|rfl
    ·exact hO k hk
    ·exact fun hr=>by have:=Yv _ hr;omega) (mk _ _ _ O W1 (fun _ h=>h) (fun _ h=> .inl h) (h0.below Cv) zo) ?_).mono ?_
  ·intro i x hx W D acR uU qZ hD;obtain⟨⟨D0,pk,n0,IV,O5,bq⟩,hl⟩:=by have:=hD.out;rw[hL]at this;exact this
   have ay:w.heap.size+1<W.heap.size:=(Array.getElem?_eq_some_iff.1 hl).1;have SO:aK O w W:=(aK.bG Cv).trans acR (fun j hj=>hj.elim .inl (fun e=> .inr (by omega)));have hsw:w.heap.size+2≤W.heap.size:=by have:=acR.size;omega
   have hy:=run_yield (P:=P) (args:=x) hl (by rw[pJ];exact nS x (List.mem_of_getElem? hx));rw[pJ]at hy;refine⟨f,_,assign,body,hy,DM trivial VS (Z8 _ i x hx W D0 SO hsw IV bq _ ?_)⟩;clear hy;intro a1 W2 D1 az Yw gG AE;have oB:W2.heap[w.heap.size+1]?=some (.loop (rec .ready none)):=(az.block _ ay).trans hl;have VU:w.heap.size+1<W2.heap.size:=(Array.getElem?_eq_some_iff.1 oB).1;have n1:¬D1 (w.heap.size+1):=fun h=>(Yw _ h).elim n0 (by omega);refine⟨_,run_beginRound oB (by rw[pJ]),?_⟩;obtain⟨W3,LD⟩:∃W3,W2.putObj (w.heap.size+1) (.loop {rec .ready none with state:= .busy})=W3:=⟨_,rfl⟩;have O6:W3.heap[w.heap.size+1]?=some (.loop {rec .ready none with state:= .busy}):=by rw[←LD];exact World.putObj_heap_same VU
   have Yx:W3.heap.size=W2.heap.size:=by rw[←LD];simp
   have ahJ:On D1 (B i a1) W3:=by rw[←LD];exact AE.put n1 _
   have iW:aK D W W3:=by rw[←LD];exact(aK.bG az).put (.inl ((pk _).2 (.inr rfl))) _
   have ahK:aK O w W3:=by
    rw[←LD];exact((SO.fY (aK.bG az)).put (.inr (by omega)) _)
   rw[LD];clear LD;refine wpIn_mono (QC _ i x hx a1 W3 D1 ahK (by have:=az.size;omega) (fun k hk=>gG k (IV k hk)) ahJ) ?_;have fin:∀(J':bI) (W4:ι),bR D1 W3.heap.size J' W3 W4→W4.heap[w.heap.size+1]?=some (.loop {rec .ready none with state:= .busy})∧
    ∀(o:Obj) (st:LoopState) (pe:Option Code),o= .loop (rec st pe)→bR D W.heap.size (L J' st pe) W (W4.putObj (w.heap.size+1) o):=fun J' W4 h4=>by
    obtain⟨sQ,D2,d1,d2,d3⟩:=h4;have xC:=(sQ.block _ (by omega) n1).trans O6;have acS:w.heap.size+1<W4.heap.size:=(Array.getElem?_eq_some_iff.1 xC).1;have n2:¬D2 (w.heap.size+1):=fun h=>(d1 _ h).elim n1 (by omega);refine⟨xC,fun o st pe ho=>⟨?_,fun k=>D2 k∨k=w.heap.size+1,fun k hk=>?_,fun k hk=>?_,?_⟩⟩
    ·refine(iW.trans sQ fun j hj=>?_).put (.inl ((pk _).2 (.inr rfl))) _;rcases Yw j hj with h|h
     ·exact .inl ((pk j).2 (.inl h))
     ·exact .inr h
    ·rcases hk with hk|rfl
     ·rcases d1 k hk with h|h
      ·rcases Yw k h with h|h
       ·exact .inl ((pk k).2 (.inl h))
       ·exact .inr h
      ·exact .inr (by have:=iW.size;omega)
     ·exact .inl ((pk _).2 (.inr rfl))
    ·rcases(pk k).1 hk with h|h
     ·exact .inl (d2 k (gG k h))
     ·exact .inr h
    ·refine mk J' st pe D2 _ (fun k hk=>d2 k (gG k (IV k hk))) (fun k hk=>?_) (d3.put n2 _) (by rw[World.putObj_heap_same acS,ho]);rcases d1 k hk with h|h
     ·rcases Yw k h with h|h
      ·exact O5 k h
      ·exact .inr (by omega)
     ·exact .inr (by have:=iW.size;omega)
   rintro e a3 W4 hp;cases e with
   |normal=>
    obtain⟨xC,h4⟩:=fin _ W4 hp;have hr:=run_endRound (P:=P) none xC;exact⟨_,_,hr, .inl ⟨rfl,h4 _ _ _ (by rw[pJ];rfl)⟩⟩
   |ret=>
    obtain⟨xC,h4⟩:=fin _ W4 hp;have hr:=run_endRound (P:=P) (some .ret) xC;exact⟨_,_,hr, .inr (.inl ⟨rfl,(h4 _ .done (some .ret) (by rw[pJ];rfl)).imp fun D w h=>⟨_,h⟩⟩)⟩
   |exit id=>
    obtain⟨xC,h4⟩:=fin _ W4 hp;have hr:=run_endRound (P:=P) (some (.exit id)) xC;exact⟨_,_,hr, .inr (.inl ⟨rfl,(h4 _ .done (some (.exit id)) (by rw[pJ];rfl)).imp fun D w h=>⟨_,h⟩⟩)⟩
   |goto t=>
    obtain⟨xC,h4⟩:=fin _ W4 hp;have hr:=run_endRound (P:=P) (some (.goto t)) xC;exact⟨_,_,hr, .inr (.inl ⟨rfl,(h4 _ .done (some (.goto t)) (by rw[pJ];rfl)).imp fun D w h=>⟨_,h⟩⟩)⟩
   |panic ch=>
    obtain⟨hd,hp⟩:=hp;obtain⟨xC,h4⟩:=fin _ W4 hp;refine⟨hd, .inr (.inr ⟨ch,rfl,?_⟩)⟩;have e4:W4.putObj (w.heap.size+1) (.loop {rec .ready none with state:= .busy})=W4:=by
     obtain⟨acS,he⟩:=Array.getElem?_eq_some_iff.1 xC;have:W4.heap.setIfInBounds (w.heap.size+1) (.loop {rec .ready none with state:= .busy})=W4.heap:=by
      apply Array.ext_getElem?;intro j;rw[Array.getElem?_setIfInBounds];split
      ·rename_i ej;subst ej;exact xC.symm
      ·rfl
     show{W4 with heap:=_}=W4;rw[this]
    rw[←e4];exact h4 _ .busy none (by rw[pJ])
   |outgrown=>exact hp.elim
  ·
   have back:∀(J':bI) (st:LoopState) (pe:Option Code) (W2:ι),bR (fun k=>O k∨k=w.heap.size+1) W1.heap.size (L J' st pe) W1 W2→
    W2.heap[w.heap.size+1]?=some (.loop (rec st pe))∧bR O (w.heap.size+2) J' w W2∧w.heap.size+2≤W2.heap.size∧W2.heap[w.heap.size]?=some (.deferred (some []))∧
    ∀o,bR O (w.heap.size+2) J' w (W2.putObj (w.heap.size+1) o)∧w.heap.size+2≤(W2.putObj (w.heap.size+1) o).heap.size∧(W2.putObj (w.heap.size+1) o).heap[w.heap.size]?=some (.deferred (some [])):=fun J' st pe W2 h2=>by
    obtain⟨hx,D,d1,d2,d3⟩:=h2;have h3:=d3.out;rw[hL]at h3;obtain⟨⟨D0,pk,n0,IV,O5,bq⟩,hl⟩:=h3;have mO:w.heap.size+2≤W2.heap.size:=by have:=hx.size;omega
    have Kj:W2.heap[w.heap.size]?=some (.deferred (some [])):=(hx.block _ (by omega) (fun h=>h.elim nOd (by omega))).trans aP;have SO:aK O w W2:=(aK.bG Cv).trans hx (fun j hj=>hj.elim .inl (fun e=> .inr (by omega)));refine⟨hl,⟨SO,D0,O5,IV,bq⟩,mO,Kj,fun o=>⟨⟨SO.put (.inr (by omega)) _,D0,O5,IV,bq.put n0 _⟩,by simpa using mO,?_⟩⟩;rw[World.putObj_heap_other (by omega)];exact Kj
   rintro e W2 (⟨⟨v,rfl⟩,hp|hp⟩|⟨c,rfl,hp⟩)
   ·obtain⟨hl,_,_,_,h2⟩:=back _ _ _ W2 hp;have he:=run_endLoop (P:=P) hl (by rw[pJ];simp);obtain⟨k1,k2,k3⟩:=h2 (.loop {rec .ready none with state:= .exhausted});rw[pJ]at he k1 k2 k3;refine⟨none,_,he,?_⟩;exact QE _ k1 k2 k3
   ·obtain⟨hx,D,d1,d2,d3⟩:=hp;obtain⟨c,hc⟩:=d3.out;have bq:On D (L (Jx c) .done (some c)) W2:=by
     refine⟨d3.1,fun W3 hk=>?_⟩;have N8:=hc;rw[hL]at N8⊢;obtain⟨⟨D0,pk,n0,IV,O5,bq⟩,hl⟩:=N8;exact⟨⟨D0,pk,n0,IV,O5,bq.on fun k hd=>hk k ((pk k).2 (.inl hd))⟩,(hk _ ((pk _).2 (.inr rfl))).trans hl⟩
    obtain⟨hl,_,_,_,h2⟩:=back (Jx c) .done (some c) W2 ⟨hx,D,d1,d2,bq⟩;have he:=run_endLoop (P:=P) hl (by rw[pJ];simp);obtain⟨k1,k2,k3⟩:=h2 (.loop {rec .done (some c)with state:= .exhausted});rw[pJ]at he k1 k2 k3;refine⟨some c,_,he,?_⟩;exact QF c _ k1 k2 k3
   ·obtain⟨hl,k1,k2,k3,_⟩:=back _ _ _ W2 hp;exact VT c W2 k1 k2 k3
end Go.Proofs.YthpndgcaoeokeaaGreatDoor
