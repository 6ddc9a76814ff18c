import Derived.Test.YthpndgcaoeokeaaGreatDoorCo33
set_option maxRecDepth 100000
set_option maxHeartbeats 64000000
open Go.IntKind renaming i64→Z
open Go.Value renaming int→V,pointer→ε,slice→ζ
open Go.Ending renaming returned→δ
open List renaming length_map→η,setIfInBounds_toArray→θ,set_cons_zero→ι,set_cons_succ→κ,toArray→ο,append_nil→τ
open Go.RowKit renaming Hid→μ
open Go.World renaming ownsRow_nil→ν
open Go renaming Regrown→ξ,World→π,Calls→ρ
namespace Go.Proofs.YthpndgcaoeokeaaGreatDoor
open Tryz
open Go.RowKit Go.Sort
theorem Pp (E R:List Value)(st to fq iv ct un:Int)(Dd apl AX:Option Addr)(nex De T8 cpl Df:Nat)(ex xt:List Int)(w:π)(s c:Int)(aa:List Int→Prop)(T9:μ (∀j v,R[j]?=some v→E[3+j]?=some v))(hR:R.length=19)
 (e1:E[1]?=some (V Z st))(e3:E[3]?=some (V Z fq))(e4:E[4]?=some (V Z iv))(e5:E[5]?=some (V Z ct))(e6:E[6]?=some (V Z un))(e9:E[9]?=some (ζ apl T8 cpl))(Fq:E[22]?=some (ζ Dd nex De))(Cz:E[23]?=some (ζ AX xt.length Df))
 (AI:0≤st)(jH:st<7258118400)(to0:0≤to)(to1:to<7258118400)(lG:cF w (ζ AX xt.length Df) xt)(x20:xt.length≤20)
 (CE:μ (∀n W,Below w.heap.size w W→ρ prog 247 #[ζ Dd nex De, V Z n] W fun e w'=>e= δ (.bool (ex.contains n))∧W=w'))(hs:s=st/86400)(hc:c=st%86400)(last:Int)(ds bg:Int→Int)(ft Ua P:Int→Bool)(jU:Int→List Int)
 (Y9:fq≠0→1≤iv∧iv≤100∧0≤ct∧ct≤1000∧-1≤un∧un<7258118400)
 (mN:μ (∀d,kE c d<to→(un<0∨kE c d≤un)→d * 86400≤last))(oB:μ (∀d,to≤kE c d→last<d * 86400))(O6:μ (∀d,0≤un→un<kE c d→last<d * 86400))
 (hP:μ (∀d,P d=(decide (ds d%iv=0)&&(ft d&&(decide (T8=0)||Ua d)))))
 (uZ:∀d,s≤d→d<84006→0≤ds d∧ds d≤100000)(Jm:μ (∀d d',s≤d→d<84006→s≤d'→d'<84006→bg d'=bg d→jU d'=jU d))(bz:μ (∀d,s≤d→d<84006→-366<bg d))(hch:μ (∀d,(jU d).length≤1000))
 (CD:μ (fq≠0→∀d,s≤d→d<84006→∀W,Below w.heap.size w W→ρ prog 241 #[.agg R.toArray, .agg (dC s).toArray, .agg (dC d).toArray] W fun e w'=>e= δ (V Z (ds d))∧Below W.heap.size W w'))
 (CF:μ (fq≠0→∀d,s≤d→d<84006→∀W,Below w.heap.size w W→ρ prog 242 #[.agg R.toArray, .agg (dC d).toArray, .agg (dC s).toArray] W fun e w'=>e= δ (.bool (ft d))∧Below W.heap.size W w'))
 (CB:μ (fq≠0→∀d,s≤d→d<84006→∀W,Below w.heap.size w W→ρ prog 243 #[.agg R.toArray, .agg (dC d).toArray] W fun e w'=>e= δ (V Z (bg d))∧Below W.heap.size W w'))
 (CC:μ (fq≠0→∀d,s≤d→d<84006→∀W,Below w.heap.size w W→ρ prog 244 #[.agg R.toArray, .agg (dC d).toArray, .agg (dC s).toArray] W fun e w'=>∃v,e= δ v∧w'.ownsRow W.heap.size 3 1 v (jU d).length ((jU d).map (Value.int Z))∧Below W.heap.size W w'))
 (CN:μ (fq≠0→∀d,s≤d→d<84006→∀W v,Below w.heap.size w W→cF W v (jU d)→ρ prog 245 #[.agg R.toArray,v, V Z d] W fun e w'=>e= δ (.bool (Ua d))∧Below W.heap.size W w'))
 (hZ0:μ (fq=0→aa [st]))(hZ:μ (fq≠0→∀(k:Nat) (L:List Int),L=(aV s k).filter P→(∀j:Nat,j<k→(s+j) * 86400≤last)→((last<(s+k) * 86400∧(ct=0∨(L.length:Int)<ct))∨(0<ct∧(L.length:Int)=ct)∨(3021≤L.length∧(ct=0∨(L.length:Int)<ct)))→aa (L.map (kE c)))):
 ρ prog 188 #[.agg E.toArray, V Z to, V Z 3000] w fun e w'=>∃O v,aa O∧e= δ v∧w'.ownsRow w.heap.size 3 1 v (fl (O.filter (ew ex to)) (xt.filter (je ex to st))).length ((fl (O.filter (ew ex to)) (xt.filter (je ex to st))).map (Value.int Z))∧Below w.heap.size w w':=by
 have HI:μ ((prog.info? 243).map (·.size)=some R.length):=ad (by rw[hR];exact fk);go_enter func188,ntmps188;go_upto_region 2 with(refine aW rfl (mD (cs:=E) rfl rfl) ?_;intro W1 r1 z1 b1);rename_i K1 aP K2 dI;have z1':w.heap.size<W1.heap.size:=by omega
 clear z1;have Pq:∀(O:List Int) (v:Value) (wr:π),O.length≤3021→wr.ownsRow W1.heap.size 3 1 v O.length (O.map (Value.int Z))→Below W1.heap.size W1 wr→μ (aa O)→∀a:Act,a.tmps.size=213→a.defers=[]→a.eval (.tmp 1)= V Z to→a.eval (.tmp 3)= ε (some ⟨w.heap.size,0,none⟩)→a.eval (.tmp 7)=v→K1 a wr:=by
  clear dI K2 hZ0 hZ CD CF CB CC CN mN oB O6 hP uZ Jm bz hch HI Y9;intro O v W0 hO aw hb HZ a bu nM s1 s3 s7;refine aP a W0 ?_;clear aP;obtain⟨f,rfl,hf⟩:=QT a bu nM;have f1:=(hf 1).symm.trans s1;have f3:=(hf 3).symm.trans s3;have f7:=(hf 7).symm.trans s7;rw[f1,f3,f7];clear hf bu nM s1 s3 s7 f1 f3 f7;have ah:Below w.heap.size w W0:=b1.trans (hb.mono b1.size);have rE:=r1.on hb;obtain⟨OK7,hOK⟩:∃OK7:List Int,OK7=O:=⟨_,rfl⟩;have HO:=ad (kP aw (by omega));obtain⟨aq,nq0,cq,rfl⟩:=dF aw;have hnq:nq0=O.length:=by
   rcases ky aw with⟨q,q2⟩|⟨g,cap,q,_⟩
   ·cases q;have:=congrArg List.length q2;simpa using this.symm
   ·cases q;rfl
  subst hnq;go_wp2_with fail;go_loopw [18,19] (fun v t wr=>∃k:Nat,k≤O.length∧t= V Z k∧Below W0.heap.size W0 wr∧wr.ownsRow W0.heap.size 3 1 v ((O.take k).filter (ew ex to)).length (((O.take k).filter (ew ex to)).map (Value.int Z))) (fun _ t _=>O.length - (intOf t).toNat)
  case atStart=>exact⟨0,Nat.zero_le _,rfl,Below.refl _ _,ν _ _ _ _⟩
  case round=>
   obtain⟨k,hk,rfl,jy,nZ⟩:=hrel;have Jn:=jy.size;have wM:=ah.trans (jy.mono ah.size);have rq:=rE.on jy;have Za:=rq.cell Fq;by_cases ay:k<O.length
   case neg=>
    have ek:O.take k=O:=List.take_of_length_le (by omega);rw[ek]at nZ;clear ek;have rE2:=rE;go_wp2_with fail;have zV:=List.length_filter_le (ew ex to) O;go_loopw [18,21] (fun v t wr=>∃(k:Nat) (A:List Int),k≤xt.length∧t= V Z k∧A.length≤3021+k∧Below W0.heap.size W0 wr∧wr.ownsRow W0.heap.size 3 1 v A.length (A.map (Value.int Z))∧μ (fl (O.filter (ew ex to)) (xt.filter (je ex to st))=fl A ((xt.drop k).filter (je ex to st)))) (fun _ t _=>xt.length - (intOf t).toNat)
    case atStart=>exact⟨0,O.filter (ew ex to),Nat.zero_le _,rfl,by omega,jy,nZ,ad rfl⟩
    case round=>
     clear nZ jy rq Za Jn wM;obtain⟨k,A,hk,rfl,hA,jy,nZ,HI⟩:=hrel;have Jn:=jy.size;have wM:=ah.trans (jy.mono ah.size);have rq:=rE.on jy;have Za:=rq.cell Fq;have Zb:=rq.cell Cz;have c1:=rq.cell e1;by_cases ay:k<xt.length
     case neg=>
      have HI2:μ (fl (O.filter (ew ex to)) (xt.filter (je ex to st))=A):=ad (by rw[HI.out,List.drop_eq_nil_of_le (by omega)];rfl);obtain⟨a9,n9,c9,rfl⟩:=dF nZ;go_wp2_with fail;go_ret;exact⟨O,_,HZ.out,rfl,by rw[HI2.out];exact eV nZ ah.size,wM⟩
     case pos=>
      obtain⟨g8,o8,hxq,Pr⟩:∃g8 o8,AX=some ⟨g8,o8,none⟩∧wr.cell? ⟨g8,o8+k,none⟩=some (V Z (xt.getD k 0)):=by
       rcases(lG.on wM).2 with⟨q,q2⟩|⟨g,off,cap,q,q3,q4⟩
       ·subst q2;simp at ay
       ·cases q;exact⟨g,off,rfl,q4 k ay⟩
      subst hxq;have hd:=Wl (je ex to st) xt k ay;have tw:je ex to st (xt.getD k 0)=(!ex.contains (xt.getD k 0)&&decide (xt.getD k 0<to)&&decide (st≤xt.getD k 0)):=rfl;generalize xt.getD k 0=z at *
      generalize je ex to st z=kz at *
      have CZ:=ad (CE.out z);generalize ex.contains z=xz at *
      go_upto_region 37 with fail;go_big_quiet (exact fK (CZ.out _ (below_drewN wM _)));replace nZ:=pR nZ nq;replace jy:=below_drewN jy nq;replace wM:=below_drewN wM nq;replace rq:af (wr.drewN nq) w.heap.size E 245:=rq;replace Pr:(wr.drewN nq).cell? ⟨g8,o8+k,none⟩=some (V Z z):=Pr;replace Jn:=jy.size;clear Za Zb c1;generalize wr.drewN nq=wr at *
      have Zb:=rq.cell Cz;have c1:=rq.cell e1;have fG:kz=false→μ (fl (O.filter (ew ex to)) (xt.filter (je ex to st))=fl A ((xt.drop (k+1)).filter (je ex to st))):=fun q=>ad (by rw[HI.out,hd,q];rfl);have Ub:kz=true→μ (fl (O.filter (ew ex to)) (xt.filter (je ex to st))=fl (eE z false A) ((xt.drop (k+1)).filter (je ex to st))):=fun q=>ad (by rw[HI.out,hd,q];rfl);cases xz with
      |true=>
       have HN:=fG tw;clear tw fG Ub hd;go_upto_region 38 with fail;go_big_quiet (fail);go_wp2_with fail;exact⟨⟨k+1,A,by omega,by go_num,by omega,below_drewN jy _,pR nZ _,HN⟩,by simp[intOf];omega⟩
      |false=>
       by_cases I9:z<to
       case neg=>
        have HN:=fG (by rw[tw,decide_eq_false I9];rfl);clear tw fG Ub hd;go_upto_region 38 with fail;go_big_quiet (fail);go_wp2_with fail;exact⟨⟨k+1,A,by omega,by go_num,by omega,below_drewN jy _,pR nZ _,HN⟩,by simp[intOf];omega⟩
       case pos=>
        by_cases Zc:st≤z
        case neg=>
         have HN:=fG (by rw[tw,decide_eq_true I9,decide_eq_false Zc];rfl);clear tw fG Ub hd;go_upto_region 38 with fail;go_big_quiet (fail);go_wp2_with fail;exact⟨⟨k+1,A,by omega,by go_num,by omega,below_drewN jy _,pR nZ _,HN⟩,by simp[intOf];omega⟩
        case pos=>
         have HN:=Ub (by rw[tw,decide_eq_true I9,decide_eq_true Zc];rfl);clear tw fG Ub hd;have Ov:=Wm z A;go_upto_region 38 with fail;go_big_quiet (fail);replace nZ:=pR nZ nq;replace jy:=below_drewN jy nq;replace rq:af (wr.drewN nq) w.heap.size E 245:=rq;replace Pr:(wr.drewN nq).cell? ⟨g8,o8+k,none⟩=some (V Z z):=Pr;replace Jn:=jy.size;clear Zb c1 wM;generalize wr.drewN nq=wr at *
         have Zb:=rq.cell Cz;have CW:=ad (fun v (h:cF wr v A)=>MA v A z wr h);have HA:=ad (kP nZ (by omega));obtain⟨a9,n9,c9,rfl⟩:=dF nZ;go_wp2_with (go_at_call 248;refine(CW.out _ HA.out).mono ?_;rintro e w6 ⟨v6,rfl,dx,dr⟩);exact⟨⟨k+1,eE z false A,by omega,by go_num,by omega,jy.trans (dr.mono Jn),eV dx Jn,HN⟩,by simp[intOf];omega⟩
   case pos=>
    obtain⟨g7,QY,eq7,hg7,Mz⟩:∃g7 QY,Value.slice aq O.length cq= ζ (some ⟨g7,0,none⟩) O.length QY∧g7<W0.heap.size∧∀j,j<O.length→W0.cell? ⟨g7,j,none⟩=some (V Z (O.getD j 0)):=by
     rcases ky aw with⟨q,q2⟩|⟨g,cap,q,_,q3,q4⟩
     ·have:O=[]:=by simpa using q2
      subst this;simp at ay
     ·exact⟨g,cap,q,q3,fun j hj=>q4 j _ (by rw[List.getElem?_map,List.getElem?_eq_getElem hj];simp[List.getD,hj])⟩
    cases eq7;have c7:wr.cell? ⟨g7,k,none⟩=some (V Z (O.getD k 0)):=(jy.cell (p:=⟨g7,k,none⟩) hg7).trans (Mz k ay);have hn:=Wk (ew ex to) O k ay;have zV:=Mx (ew ex to) O k;obtain⟨L2,gS⟩:∃L2,L2=(O.take (k+1)).filter (ew ex to):=⟨_,rfl⟩;rw[←gS]at hn;generalize(O.take k).filter (ew ex to)=L at *
    have tw:ew ex to (O.getD k 0)=(!ex.contains (O.getD k 0)&&decide (O.getD k 0<to)):=rfl;generalize O.getD k 0=z at *
    generalize ew ex to z=kz at *
    have CZ:=ad (CE.out z);generalize ex.contains z=xz at *
    clear aw Mz;go_upto_region 31 with fail;go_big_quiet (exact fK (CZ.out _ (below_drewN wM _)));replace c7:(wr.drewN nq).cell? ⟨g7,k,none⟩=some (V Z z):=c7;replace nZ:=pR nZ nq;replace jy:=below_drewN jy nq;replace Jn:=jy.size;clear Za rq wM;generalize wr.drewN nq=wr at *
    cases xz with
    |true=>
     have e9:kz=false:=tw;subst e9;have Jb:L2=L:=by simpa using hn
     subst Jb;clear tw hn;go_wp2_with fail;exact⟨⟨k+1,by omega,by go_num,jy,by rw[←gS];exact nZ⟩,by simp[intOf];omega⟩
    |false=>
     by_cases I9:z<to
     case pos=>
      have e9:kz=true:=by rw[tw,decide_eq_true I9];rfl
      subst e9;rw[if_pos rfl]at hn;clear tw;go_wp2_with (at_builtin;refine fj rfl (.tmp 162) (.tmp 167) 54 3 _ 8 rfl underlying54 eu rfl W0.heap.size _ _ _ rfl nZ jy Jn (V Z z) rfl rfl (by simp) (by omega) (by decide) ?_;intro v' w6 dx dr _);exact⟨⟨k+1,by omega,by go_num,dr,by rw[←gS,hn];simpa using dx⟩,by simp[intOf];omega⟩
     case neg=>
      have e9:kz=false:=by rw[tw,decide_eq_false I9];rfl
      subst e9;have Jb:L2=L:=by simpa using hn
      subst Jb;clear tw hn;go_wp2_with fail;exact⟨⟨k+1,by omega,by go_num,jy,by rw[←gS];exact nZ⟩,by simp[intOf];omega⟩
 clear aP;have g3:=r1.cell e3;have g1:=r1.cell e1;by_cases tz:fq=0
 case pos=>
  clear hZ CD CF CB CC CN mN oB O6 hP uZ Jm bz hch HI Y9;subst tz;go_wp2_with (at_builtin;refine fj rfl (.tmp 27) (.tmp 30) 54 3 _ 8 rfl underlying54 eu rfl W1.heap.size _ _ _ rfl (ν W1 W1.heap.size 3 1) (Below.refl _ _) (Nat.le_refl _) (V Z st) rfl rfl (by simp) (by omega) (by decide) ?_;intro v' w6 dx dr _);exact Pq [st] v' w6 (by simp) dx dr (ad (hZ0.out (by trivial))) _ rfl rfl rfl rfl rfl
 case neg=>
  have zQ:(fq==0)=false:=by simp[tz]
  obtain⟨i0,i1,c0,c1,u0,u1⟩:=Y9 tz;replace CD:=ad (CD.out tz);replace CF:=ad (CF.out tz);replace CB:=ad (CB.out tz);replace CC:=ad (CC.out tz);replace CN:=ad (CN.out tz);clear Y9 hZ0;have hsb:0≤s∧s<84006:=by omega
  have hcb:0≤c∧c<86400:=by omega
  have CO:=ad (fun W=>zJ s W hsb.1 hsb.2);rw[Fx,hs]at CO;go_upto_region 5 with(first
   |(go_at_call 183;refine(CO.out _).mono ?_;rintro e w2 ⟨rfl,az⟩)
   |(refine aW rfl (nc rfl _ _) ?_;intro W3 r3 z3 b3)
   |(refine aN (vs:=dC (st/86400)) rfl rfl rfl rfl r3 rfl aS (qE (st/86400)) ?_;intro W4 r4 x4))
  rw[←hs]at r4;have dN:Below W1.heap.size W1 W4:=(az.trans (b3.mono az.size)).trans (x4.below (by have:=az.size;omega) (fun k hk=>by have:=az.size;omega));have Ib:=x4.size;have fb:=az.size;clear g1 g3 r3 b3 x4 az;have g1:=(r1.on dN).cell e1;go_upto_region 10 with(go_at_call 234;refine(G7 _).mono ?_;rintro e w5 ⟨rfl,rfl⟩);obtain⟨b8,iy⟩:∃b8,b8=w2.heap.size:=⟨_,rfl⟩;rw[←iy]at r4⊢;go_wp2_with (first
   |(refine aR (b:=b8) rfl rfl rfl r4 underlying236 rfl aS ?_)
   |(refine aW rfl (nc rfl _ _) ?_;intro W5 r5 z5 b5)
   |(refine aN (vs:=dC s) rfl rfl rfl rfl r5 rfl aS (qE s) ?_;intro W6 r6 x6))
  have r8:=(r4.on b5).aQ x6 (by omega);have dr:Below W1.heap.size W1 W6:=(dN.trans (b5.mono dN.size)).trans (x6.below (by omega) (fun k hk=>by omega));obtain⟨ep,ad4⟩:∃ep,ep=W4.heap.size:=⟨_,rfl⟩;rw[←ad4]at r6⊢;have ad5:b8≠ep:=by omega
  have ad6:W1.heap.size≤ep:=by omega
  simp only[Act.put,θ,ι,κ];rw[←hc,←hs];clear r4 b5 x6 dN g1 r5 Ib fb z3 z5 iy ad4 CO;replace hs:=ad hs;replace hc:=ad hc;have h0:TW W1 b8 ep s c s bg jU [] (ζ none 0 0) (ζ none 0 0) (-366) W6:=⟨dr,r8,r6,ν _ _ _ _,fun d d0 d1 e=>by have:=bz.out d d0 d1;omega,fun g hg=>by cases hg⟩;go_loopw [7,11,12,13] (fun v cn ch p wr=>∃(k:Nat) (L:List Int) (pp:Int),s+k≤84006∧cn= V Z (L.length:Int)∧p= V Z pp∧yR ch∧TW W1 b8 ep s c (s+k) bg jU L v ch pp wr∧μ (L=(aV s k).filter P)∧μ (∀j:Nat,j<k→(s+j) * 86400≤last)∧(ct=0∨(L.length:Int)<ct)∧L.length≤3021) (fun _ _ _ _ wr=>(84007 - intOf ((wr.cell? ⟨ep,3,none⟩).getD undef)).toNat)
  case atStart=>exact⟨0,[],-366,by omega,rfl,rfl,⟨_,_,_,rfl⟩,by rw[show s+((0:Nat):Int)=s by omega];exact h0,ad rfl,ad (fun j hj=>by omega),by simp;omega,by simp⟩
  case round=>
   clear h0 r6 r8 dr;obtain⟨k,L,pp,hk,rfl,rfl,⟨Uc,Ud,Ue,rfl⟩,hT,HL,HJ,Ly,AY⟩:=hrel;have HV:=ad hT.own;obtain⟨av,nv,cv,rfl⟩:=dF hT.own;have hnv:nv=L.length:=Y3 hT.own;subst hnv;obtain⟨D,hD⟩:∃D,D=s+k:=⟨_,rfl⟩;rw[←hD]at hT hk;have hD0:s≤D:=by omega
   have Zd:μ (D+1=s+((k+1:Nat):Int)):=ad (by omega);have HD:=ad hD;have Tl:μ ((84007 - intOf ((wr.cell? ⟨ep,3,none⟩).getD undef)).toNat=(84007 - D).toNat):=ad (by rw[hT.kx.cell (k:=3) rfl];rfl);have d3:=hT.kx.cell (k:=3) rfl;have g6:=(r1.on hT.below).cell e6;obtain⟨T,tf⟩:∃T,T=D * 86400+c:=⟨_,rfl⟩;have Ze:μ (T=kE c D):=ad tf;have ad7:=ad (fun h=>oB.out D h);have ah7:=ad (fun h0 h=>O6.out D h0 h);have ah8:=ad (fun h0 h=>mN.out D h0 h);have Zf:μ ((aV s (k+1)).filter P=L++if P D then[D]else[]):=ad (by rw[D6,←HL.out,←hD]);have YF:μ (∀L':List Int,L'=(aV s (k+1)).filter P→ct=0∨(L'.length:Int)≤ct):=ad fun L' h=>by
    rw[h,Zf.out,List.length_append];split
    ·simp;omega
    ·simp;omega
   have Zg:T=D * 86400+c:=tf;clear hD;by_cases Ay:D<84006
   case neg=>
    have hx:μ (last<(s+k) * 86400):=ad (by rw[←HD.out];exact ad7.out (by unfold kE;omega));clear tf Zg;go_wp2_with fail;exact Pq (L.map (kE c)) _ wr (by rw[η];exact AY) (by rw[η];exact HV.out) hT.below (ad (hZ.out tz k L HL.out HJ.out (.inl ⟨hx.out,Ly⟩))) _ rfl rfl rfl rfl rfl
   case pos=>
   by_cases xA:D * 86400+c<to
   case neg=>
    have hx:μ (last<(s+k) * 86400):=ad (by rw[←HD.out];exact ad7.out (by unfold kE;omega));clear tf Zg;go_wp2_with fail;exact Pq (L.map (kE c)) _ wr (by rw[η];exact AY) (by rw[η];exact HV.out) hT.below (ad (hZ.out tz k L HL.out HJ.out (.inl ⟨hx.out,Ly⟩))) _ rfl rfl rfl rfl rfl
   case pos=>
   by_cases Fe:L.length≤3020
   case neg=>
    clear tf Zg;go_wp2_with fail;exact Pq (L.map (kE c)) _ wr (by rw[η];exact AY) (by rw[η];exact HV.out) hT.below (ad (hZ.out tz k L HL.out HJ.out (.inr (.inr ⟨by omega,Ly⟩)))) _ rfl rfl rfl rfl rfl
   case pos=>
   go_upto_region 13 with fail;rename_i K1 aP K2 dI;rw[←tf];rw[←tf]at xA;have AS:0≤T∧T<7258204800:=by omega
   clear Zg;replace tf:=ad tf;by_cases T7:0≤un∧un<T
   case pos=>
    obtain⟨TH,Io⟩:=T7;have hx:μ (last<(s+k) * 86400):=ad (by rw[←HD.out];exact ah7.out TH (by rw[←Ze.out];exact Io));clear aP;go_wp2_with fail;exact Pq (L.map (kE c)) _ wr (by rw[η];exact AY) (by rw[η];exact HV.out) hT.below (ad (hZ.out tz k L HL.out HJ.out (.inl ⟨hx.out,Ly⟩))) _ rfl rfl rfl rfl rfl
   case neg=>
   have HJ1:μ (∀j:Nat,j<k+1→(s+j) * 86400≤last):=ad fun j hj=>by
    by_cases q:j<k
    ·exact HJ.out j q
    ·have e:j=k:=by omega
     subst e;rw[←HD.out];exact ah8.out (by rw[←Ze.out];exact xA) (by rw[←Ze.out];omega)
   have kx:∀{u16 Jo AZ A0 A4 A5 A6 A7 A8 A9 Ba Bb Bc Bd Be Bf Bg Bh vj vk vl vo vp vr vt u64 vu vv vw vx vy vz vA vB vC vD vE vF vG vH vI vJ vK vL vM vN vO vP vQ vR vS vT vU vV vW vX vY vZ wc we wg tA tB tC tD tE tF tG tH tI tJ tK tL tM tN tO tP tQ tR tS tT tU tV tW tX tY tZ ua ub ud ue uf ug uh ui uj uk um uo uq:Value},K1 ⟨ο ((.agg E.toArray)::(V Z to)::(V Z 3000)::(ε (some ⟨w.heap.size,0,none⟩))::undef::undef::(ζ none 0 0)::(ζ av L.length cv)::(ε (some ⟨b8,0,none⟩))::(V Z c)::(V Z 84006)::(V Z (L.length:Int))::(ζ Uc Ud Ue)::(V Z pp)::(ε (some ⟨ep,0,none⟩))::(V Z T)::u16::Jo::undef::undef::undef::undef::undef::(ε (some ⟨w.heap.size,3,none⟩))::(ε (some ⟨w.heap.size,3,none⟩))::(V Z fq)::(.bool false)::undef::undef::undef::undef::undef::(ε (some ⟨w.heap.size,1,none⟩))::(V Z st)::(V Z s)::(.agg (dC s).toArray)::(ε (some ⟨w.heap.size,1,none⟩))::(V Z st)::(V Z c)::(V Z 84006)::(.agg (dC s).toArray)::AZ::A0::A4::A5::A6::A7::A8::A9::Ba::Bb::Bc::Bd::Be::Bf::Bg::Bh::vj::vk::vl::vo::vp::vr::vt::u64::vu::vv::vw::vx::vy::vz::vA::vB::vC::vD::vE::vF::vG::vH::vI::vJ::vK::vL::vM::vN::vO::vP::vQ::vR::vS::vT::vU::vV::vW::vX::vY::vZ::wc::we::wg::tA::tB::tC::tD::tE::tF::tG::tH::tI::tJ::tK::tL::tM::tN::tO::tP::tQ::tR::tS::tT::tU::tV::tW::tX::tY::tZ::ua::ub::ud::ue::uf::ug::uh::ui::uj::uk::um::uo::uq::undef::undef::undef::undef::undef::undef::undef::undef::undef::undef::undef::undef::undef::undef::undef::undef::undef::undef::undef::undef::undef::undef::undef::undef::undef::undef::undef::undef::undef::undef::undef::undef::undef::undef::undef::undef::undef::undef::undef::undef::undef::undef::undef::undef::undef::undef::undef::undef::undef::undef::undef::undef::undef::undef::undef::undef::undef::undef::undef::undef::undef::undef::undef::undef::undef::undef::undef::undef::undef::undef::undef::undef::undef::undef::[]),[]⟩ wr:=by
    clear dI K2 T7;intro u16 Jo AZ A0 A4 A5 A6 A7 A8 A9 Ba Bb Bc Bd Be Bf Bg Bh vj vk vl vo vp vr vt u64 vu vv vw vx vy vz vA vB vC vD vE vF vG vH vI vJ vK vL vM vN vO vP vQ vR vS vT vU vV vW vX vY vZ wc we wg tA tB tC tD tE tF tG tH tI tJ tK tL tM tN tO tP tQ tR tS tT tU tV tW tX tY tZ ua ub ud ue uf ug uh ui uj uk um uo uq;refine aP _ _ ?_;clear aP;have d3:=hT.kx.cell (k:=3) rfl;have g4:=(r1.on hT.below).cell e4;go_upto_region 14 with fail;rename_i K1 aP K2 dI;have r25:∀{u15 u16 Jo AZ A0 A4 A5 A6 A7 A8 A9 Ba Bb Bc Bd Be Bf Bg Bh vj vk vl vo vp vr vt u64 vu vv vw vx vy vz vA vB vC vD vE vF vG vH vI vJ vK vL vM vN vO vP vQ vR vS vT vU vV vW vX vY vZ wc we wg tA tB tC tD tE tF tG tH tI tJ tK tL tM tN tO tP tQ tR tS tT tU tV tW tX tY tZ ua ub ud ue uf ug uh ui uj uk um uo uq:Value} (L':List Int) (v ch:Value) (pp:Int) (wr:π),μ (L'=(aV s (k+1)).filter P)→L'.length≤3021→yR ch→TW W1 b8 ep s c D bg jU L' v ch pp wr→K1 ⟨ο ((.agg E.toArray)::(V Z to)::(V Z 3000)::(ε (some ⟨w.heap.size,0,none⟩))::undef::undef::(ζ none 0 0)::v::(ε (some ⟨b8,0,none⟩))::(V Z c)::(V Z 84006)::(V Z (L'.length:Int))::ch::(V Z pp)::(ε (some ⟨ep,0,none⟩))::u15::u16::Jo::undef::undef::undef::undef::undef::(ε (some ⟨w.heap.size,3,none⟩))::(ε (some ⟨w.heap.size,3,none⟩))::(V Z fq)::(.bool false)::undef::undef::undef::undef::undef::(ε (some ⟨w.heap.size,1,none⟩))::(V Z st)::(V Z s)::(.agg (dC s).toArray)::(ε (some ⟨w.heap.size,1,none⟩))::(V Z st)::(V Z c)::(V Z 84006)::(.agg (dC s).toArray)::AZ::A0::A4::A5::A6::A7::A8::A9::Ba::Bb::Bc::Bd::Be::Bf::Bg::Bh::vj::vk::vl::vo::vp::vr::vt::u64::vu::vv::vw::vx::vy::vz::vA::vB::vC::vD::vE::vF::vG::vH::vI::vJ::vK::vL::vM::vN::vO::vP::vQ::vR::vS::vT::vU::vV::vW::vX::vY::vZ::wc::we::wg::tA::tB::tC::tD::tE::tF::tG::tH::tI::tJ::tK::tL::tM::tN::tO::tP::tQ::tR::tS::tT::tU::tV::tW::tX::tY::tZ::ua::ub::ud::ue::uf::ug::uh::ui::uj::uk::um::uo::uq::undef::undef::undef::undef::undef::undef::undef::undef::undef::undef::undef::undef::undef::undef::undef::undef::undef::undef::undef::undef::undef::undef::undef::undef::undef::undef::undef::undef::undef::undef::undef::undef::undef::undef::undef::undef::undef::undef::undef::undef::undef::undef::undef::undef::undef::undef::undef::undef::undef::undef::undef::undef::undef::undef::undef::undef::undef::undef::undef::undef::undef::undef::undef::undef::undef::undef::undef::undef::undef::undef::undef::undef::undef::undef::[]),[]⟩ wr:=by
     clear dI K2 CD CF CB CC CN;intro u15 u16 Jo AZ A0 A4 A5 A6 A7 A8 A9 Ba Bb Bc Bd Be Bf Bg Bh vj vk vl vo vp vr vt u64 vu vv vw vx vy vz vA vB vC vD vE vF vG vH vI vJ vK vL vM vN vO vP vQ vR vS vT vU vV vW vX vY vZ wc we wg tA tB tC tD tE tF tG tH tI tJ tK tL tM tN tO tP tQ tR tS tT tU tV tW tX tY tZ ua ub ud ue uf ug uh ui uj uk um uo uq L' v ch pp wr Jq AY CK hT;refine aP _ _ ?_;clear aP;obtain⟨Uc,Ud,Ue,rfl⟩:=CK;have HV:=ad hT.own;obtain⟨av,nv,cv,rfl⟩:=dF hT.own;have g5:=(r1.on hT.below).cell e5;have CA:=ad (fun W=>Jh D W (by omega) (by omega));rw[Fx,Fx]at CA;by_cases Ck:0<ct∧(L'.length:Int)=ct
     case pos=>
      have HCC:=ad Ck;have alJ:((L'.length:Int)==ct)=true:=by simp[Ck.2]
      have YK:=Ck.1;clear Ck;go_wp2_with fail;exact Pq (L'.map (kE c)) _ wr (by rw[η];exact AY) (by rw[η];exact HV.out) hT.below (ad (hZ.out tz (k+1) L' Jq.out (HJ1.out) (.inr (.inl HCC.out)))) _ rfl rfl rfl rfl rfl
     case neg=>
      have MB:ct=0∨(L'.length:Int)<ct:=by
       have:=YF.out L' Jq.out;omega
      have aea:=ad MB;by_cases YK:0<ct
      ·have alK:((L'.length:Int)==ct)=false:=by simp;omega
       clear Ck MB;go_wp2_with (first
        |(refine aR (b:=ep) rfl rfl rfl hT.kx underlying236 rfl aS ?_)
        |(go_at_call 246;refine(CA.out _).mono ?_;rintro e KE ⟨rfl,nj⟩;replace hT:=hT.on nj)
        |(refine aN (b:=ep) (vs:=dC (D+1)) rfl rfl rfl rfl hT.kx (BU _ _) aS (qE (D+1)) ?_;intro W13 B8 pd;replace hT:=hT.next ad5 ad6 B8 pd))
       simp only[Act.put];go_big_round;refine⟨⟨k+1,L',pp,by have:=Zd.out;omega,rfl,rfl,⟨_,_,_,rfl⟩,Zd.out▸hT,Jq,HJ1,aea.out,AY⟩,?_⟩;rw[Tl.out,hT.kx.cell (k:=3) rfl];show(84007 - (D+1)).toNat<(84007 - D).toNat;omega
      ·have ade:ct=0:=by omega
       subst ade;clear Ck MB;go_wp2_with (first
        |(refine aR (b:=ep) rfl rfl rfl hT.kx underlying236 rfl aS ?_)
        |(go_at_call 246;refine(CA.out _).mono ?_;rintro e KE ⟨rfl,nj⟩;replace hT:=hT.on nj)
        |(refine aN (b:=ep) (vs:=dC (D+1)) rfl rfl rfl rfl hT.kx (BU _ _) aS (qE (D+1)) ?_;intro W13 B8 pd;replace hT:=hT.next ad5 ad6 B8 pd))
       simp only[Act.put];go_big_round;refine⟨⟨k+1,L',pp,by have:=Zd.out;omega,rfl,rfl,⟨_,_,_,rfl⟩,Zd.out▸hT,Jq,HJ1,aea.out,AY⟩,?_⟩;rw[Tl.out,hT.kx.cell (k:=3) rfl];show(84007 - (D+1)).toNat<(84007 - D).toNat;omega
    clear aP;have hdD:=uZ D (by omega) (by omega);have CD1:=ad (CD.out D (by omega) (by omega));have Zh:=ad (hP.out D);obtain⟨dD,zB⟩:∃x,x=ds D:=⟨_,rfl⟩;rw[←zB]at hdD CD1 Zh;clear zB;have oH:μ (Below w.heap.size w wr):=ad (b1.trans (hT.below.mono b1.size));have hx:μ (∀Dq os,ρ prog 241 #[.agg R.toArray, .agg (dC s).toArray, .agg (dC D).toArray] (grow (redrawn wr Dq) os) fun e aA=>e= δ (V Z dD)∧∃p:ξ,aA=grow (redrawn wr p.d) p.os):=ad fun Dq os=>Calls.regrown_of (CD1.out _ (oH.out.trans ((below_regrown wr Dq os).mono oH.out.size)));have Yn:μ (∀w':π,(∃p:ξ,w'=grow (redrawn wr p.d) p.os)→(Instr.loadAt 243 (ε (some ⟨w.heap.size,3,none⟩))).run prog w'= .ok (.agg R.toArray) w'):=ad fun w' hc=>by
     obtain⟨p,rfl⟩:=hc;exact J1 ((r1.on hT.below).on (below_regrown wr p.d p.os)) T9.out hR
    have qY:μ (∀w':π,(∃p:ξ,w'=grow (redrawn wr p.d) p.os)→(Instr.loadAt 236 (ε (some ⟨b8,0,none⟩))).run prog w'= .ok (.agg (dC s).toArray) w'):=ad fun w' hc=>by
     obtain⟨p,rfl⟩:=hc;exact jQ (hT.r8.on (below_regrown wr p.d p.os)) rfl
    have aec:μ (∀w':π,(∃p:ξ,w'=grow (redrawn wr p.d) p.os)→(Instr.loadAt 236 (ε (some ⟨ep,0,none⟩))).run prog w'= .ok (.agg (dC D).toArray) w'):=ad fun w' hc=>by
     obtain⟨p,rfl⟩:=hc;exact jQ (hT.kx.on (below_regrown wr p.d p.os)) rfl
    have y4:=cell_regrown g4;clear g4 d3;have alL:(iv==0)=false:=by simp;omega
    refine wp_region_quiet_below (by kernel_rfl) (by kernel_rfl) ?_
    repeat(go_big_quiet_step (fail))
    refine Dc rfl rfl rfl Yn.out rfl ?_;simp only[Act.put,θ,ι,κ];refine gM rfl rfl rfl qY.out rfl ?_;simp only[Act.put,θ,ι,κ];refine gM rfl rfl rfl aec.out rfl ?_;simp only[Act.put,θ,ι,κ];go_big_quiet_step (exact hx.out _ _)
    repeat(go_big_quiet_step (fail))
    refine wpQuiet_nil ?_;intro _ fF;obtain⟨⟨dq,gj⟩,eU⟩:=fF;subst eU;replace hT:TW W1 b8 ep s c D bg jU L (ζ av L.length cv) (ζ Uc Ud Ue) pp (grow (redrawn wr (⟨dq,gj⟩:ξ).d) (⟨dq,gj⟩:ξ).os):=hT.on (below_regrown wr dq gj);clear hx Yn qY aec y4 oH CD1;generalize grow (redrawn wr (⟨dq,gj⟩:ξ).d) (⟨dq,gj⟩:ξ).os=W2 at hT⊢;by_cases hm:dD%iv=0
    case neg=>
     have Hy:(dD%iv==0)=false:=by simp[hm]
     have gS:μ (L=(aV s (k+1)).filter P):=ad (by rw[Zf.out,Zh.out,decide_eq_false hm,Bool.false_and,if_neg (by simp),τ]);clear hm;go_wp2_with fail;exact r25 L _ _ pp _ gS (by omega) ⟨_,_,_,rfl⟩ hT
    case pos=>
     have Hy:(dD%iv==0)=true:=by simp[hm]
     have Uf:μ (P D=(ft D&&(decide (T8=0)||Ua D))):=ad (by rw[Zh.out,decide_eq_true hm,Bool.true_and]);clear Zh hm;have Zi:=ad (CF.out D (by omega) (by omega));obtain⟨fD,hfd⟩:∃x,x=ft D:=⟨_,rfl⟩;rw[←hfd]at Zi Uf;clear hfd;have oH:=ad (b1.trans (hT.below.mono b1.size));go_upto_region 16 with(first
      |(refine wpList_load_mid rfl 243 _ rfl w.heap.size 3 rfl R _ (tv (r1.on hT.below) T9.out) underlying243 rfl HI.out ?_)
      |(refine aR (b:=ep) rfl rfl rfl hT.kx underlying236 rfl aS ?_)
      |(refine aR (b:=b8) rfl rfl rfl hT.r8 underlying236 rfl aS ?_)
      |(go_at_call 242;refine(Zi.out _ oH.out).mono ?_;rintro e w9 ⟨rfl,iI⟩;replace hT:=hT.on iI))
     rename_i K1 aP K2 dI;have r22:∀{Jo AZ A0 A4 A5 A6 A7 A8 A9 Ba Bb Bc Bd Be Bf Bg Bh vj vk vl vo vp vr vt u64 vu vv vw vx vy vz vA vB vC vD vE vF vG vH vI vJ vK vL vM vN vO vP vQ vR vS vT vU vV vW vX vY vZ wc we wg tA tB tC tD tE tF tG tH tI tJ tK tL tM tN tO tP tQ tR tS tT tU tV tW tX tY tZ ua ub ud ue uf ug uh ui uj uk um uo uq:Value} (b:Bool) (ch:Value) (pp:Int) (wr:π),μ (P D=b)→yR ch→TW W1 b8 ep s c D bg jU L (ζ av L.length cv) ch pp wr→K1 ⟨ο ((.agg E.toArray)::(V Z to)::(V Z 3000)::(ε (some ⟨w.heap.size,0,none⟩))::undef::undef::(ζ none 0 0)::(ζ av L.length cv)::(ε (some ⟨b8,0,none⟩))::(V Z c)::(V Z 84006)::(V Z (L.length:Int))::ch::(V Z pp)::(ε (some ⟨ep,0,none⟩))::(V Z T)::(.bool b)::Jo::undef::undef::undef::undef::undef::(ε (some ⟨w.heap.size,3,none⟩))::(ε (some ⟨w.heap.size,3,none⟩))::(V Z fq)::(.bool false)::undef::undef::undef::undef::undef::(ε (some ⟨w.heap.size,1,none⟩))::(V Z st)::(V Z s)::(.agg (dC s).toArray)::(ε (some ⟨w.heap.size,1,none⟩))::(V Z st)::(V Z c)::(V Z 84006)::(.agg (dC s).toArray)::AZ::A0::A4::A5::A6::A7::A8::A9::Ba::Bb::Bc::Bd::Be::Bf::Bg::Bh::vj::vk::vl::vo::vp::vr::vt::u64::vu::vv::vw::vx::vy::vz::vA::vB::vC::vD::vE::vF::vG::vH::vI::vJ::vK::vL::vM::vN::vO::vP::vQ::vR::vS::vT::vU::vV::vW::vX::vY::vZ::wc::we::wg::tA::tB::tC::tD::tE::tF::tG::tH::tI::tJ::tK::tL::tM::tN::tO::tP::tQ::tR::tS::tT::tU::tV::tW::tX::tY::tZ::ua::ub::ud::ue::uf::ug::uh::ui::uj::uk::um::uo::uq::undef::undef::undef::undef::undef::undef::undef::undef::undef::undef::undef::undef::undef::undef::undef::undef::undef::undef::undef::undef::undef::undef::undef::undef::undef::undef::undef::undef::undef::undef::undef::undef::undef::undef::undef::undef::undef::undef::undef::undef::undef::undef::undef::undef::undef::undef::undef::undef::undef::undef::undef::undef::undef::undef::undef::undef::undef::undef::undef::undef::undef::undef::undef::undef::undef::undef::undef::undef::undef::undef::undef::undef::undef::undef::[]),[]⟩ wr:=by
      clear dI K2 Zi oH Uf Hy;intro Jo AZ A0 A4 A5 A6 A7 A8 A9 Ba Bb Bc Bd Be Bf Bg Bh vj vk vl vo vp vr vt u64 vu vv vw vx vy vz vA vB vC vD vE vF vG vH vI vJ vK vL vM vN vO vP vQ vR vS vT vU vV vW vX vY vZ wc we wg tA tB tC tD tE tF tG tH tI tJ tK tL tM tN tO tP tQ tR tS tT tU tV tW tX tY tZ ua ub ud ue uf ug uh ui uj uk um uo uq b ch pp wr hb CK hT;refine aP _ _ ?_;clear aP;obtain⟨Uc,Ud,Ue,rfl⟩:=CK;have hz:=hT.below.size;cases b with
      |true=>
       have gS:μ (L++[D]=(aV s (k+1)).filter P):=ad (by rw[Zf.out,hb.out,if_pos rfl]);have ow:(L++[D]).length=L.length+1:=by simp
       have mQ:=ad ow;clear ow;go_wp2_with (at_builtin;refine YZ rfl (.tmp 122) (.tmp 124) 54 3 _ 8 rfl underlying54 eu rfl W1.heap.size _ _ _ rfl hT.own hT.below hz (V Z T) rfl rfl (by simp) (by omega) (by decide) ?_;intro v' w11 o11 QS adS Wi ae4);have hT':=hT.app (x:=D) (by rw[←Ze.out];exact o11) QS adS Wi ae4;rw[show(V Z ((L.length:Int)+1):Value)= V Z ((L++[D]).length:Int) by rw[mQ.out];rfl];exact r25 (L++[D]) v' _ pp _ gS (by rw[mQ.out];omega) ⟨_,_,_,rfl⟩ hT'
      |false=>
       have gS:μ (L=(aV s (k+1)).filter P):=ad (by rw[Zf.out,hb.out,if_neg (by simp),τ]);go_wp2_with fail;exact r25 L _ _ pp _ gS (by omega) ⟨_,_,_,rfl⟩ hT
     clear aP oH Zi;have g9:=(r1.on hT.below).cell e9;cases fD with
     |false=>
      go_wp2_with fail;exact r22 false _ pp _ (ad (by rw[Uf.out];rfl)) ⟨_,_,_,rfl⟩ hT
     |true=>
      by_cases hn0:T8=0
      case pos=>
       subst hn0;go_wp2_with fail;exact r22 true _ pp _ (ad (by rw[Uf.out];rfl)) ⟨_,_,_,rfl⟩ hT
      case neg=>
       have S3:0<T8:=by omega
       have hPc:μ (P D=Ua D):=ad (by rw[Uf.out,decide_eq_false hn0];rfl);have CB1:=ad (CB.out D (by omega) (by omega));have oH:=ad (b1.trans (hT.below.mono b1.size));go_upto_region 18 with(first
        |(refine wpList_load_mid rfl 243 _ rfl w.heap.size 3 rfl R _ (tv (r1.on hT.below) T9.out) underlying243 rfl HI.out ?_)
        |(refine aR (b:=ep) rfl rfl rfl hT.kx underlying236 rfl aS ?_)
        |(go_at_call 243;refine(CB1.out _ oH.out).mono ?_;rintro e w9 ⟨rfl,iI⟩;replace hT:=hT.on iI))
       rename_i K1 aP K2 dI;have Zj:∀{AZ A0 A4 A5 A6 A7 A8 A9 Ba Bb Bc Bd Be Bf Bg Bh vj vk vl vo vp vr vt u64 vu vv vw vx vy vz vA vB vC vD vE vF vG vH vI vJ vK vL vM vN vO vP vQ vR vS vT vU vV vW vX vY vZ wc we wg tA tB tC tD tE tF tG tH tI tJ tK tL tM tN tO tP tQ tR tS tT tU tV tW tX tY tZ ua ub ud ue uf ug uh ui uj uk um uo uq:Value} (ch:Value) (wr:π),yR ch→TW W1 b8 ep s c D bg jU L (ζ av L.length cv) ch (bg D) wr→K1 ⟨ο ((.agg E.toArray)::(V Z to)::(V Z 3000)::(ε (some ⟨w.heap.size,0,none⟩))::undef::undef::(ζ none 0 0)::(ζ av L.length cv)::(ε (some ⟨b8,0,none⟩))::(V Z c)::(V Z 84006)::(V Z (L.length:Int))::ch::(V Z (bg D))::(ε (some ⟨ep,0,none⟩))::(V Z T)::(.bool true)::(V Z (bg D))::undef::undef::undef::undef::undef::(ε (some ⟨w.heap.size,3,none⟩))::(ε (some ⟨w.heap.size,3,none⟩))::(V Z fq)::(.bool false)::undef::undef::undef::undef::undef::(ε (some ⟨w.heap.size,1,none⟩))::(V Z st)::(V Z s)::(.agg (dC s).toArray)::(ε (some ⟨w.heap.size,1,none⟩))::(V Z st)::(V Z c)::(V Z 84006)::(.agg (dC s).toArray)::AZ::A0::A4::A5::A6::A7::A8::A9::Ba::Bb::Bc::Bd::Be::Bf::Bg::Bh::vj::vk::vl::vo::vp::vr::vt::u64::vu::vv::vw::vx::vy::vz::vA::vB::vC::vD::vE::vF::vG::vH::vI::vJ::vK::vL::vM::vN::vO::vP::vQ::vR::vS::vT::vU::vV::vW::vX::vY::vZ::wc::we::wg::tA::tB::tC::tD::tE::tF::tG::tH::tI::tJ::tK::tL::tM::tN::tO::tP::tQ::tR::tS::tT::tU::tV::tW::tX::tY::tZ::ua::ub::ud::ue::uf::ug::uh::ui::uj::uk::um::uo::uq::undef::undef::undef::undef::undef::undef::undef::undef::undef::undef::undef::undef::undef::undef::undef::undef::undef::undef::undef::undef::undef::undef::undef::undef::undef::undef::undef::undef::undef::undef::undef::undef::undef::undef::undef::undef::undef::undef::undef::undef::undef::undef::undef::undef::undef::undef::undef::undef::undef::undef::undef::undef::undef::undef::undef::undef::undef::undef::undef::undef::undef::undef::undef::undef::undef::undef::undef::undef::undef::undef::undef::undef::undef::undef::[]),[]⟩ wr:=by
        clear dI K2 oH CB1 g9;intro AZ A0 A4 A5 A6 A7 A8 A9 Ba Bb Bc Bd Be Bf Bg Bh vj vk vl vo vp vr vt u64 vu vv vw vx vy vz vA vB vC vD vE vF vG vH vI vJ vK vL vM vN vO vP vQ vR vS vT vU vV vW vX vY vZ wc we wg tA tB tC tD tE tF tG tH tI tJ tK tL tM tN tO tP tQ tR tS tT tU tV tW tX tY tZ ua ub ud ue uf ug uh ui uj uk um uo uq ch wr CK hT;refine aP _ _ ?_;clear aP;have HC:=ad (kP (hT.Y4 D (by omega) (by omega) rfl) (Nat.le_trans (hch.out D) (by decide)));obtain⟨Uc,Ud,Ue,rfl⟩:=CK;have d3:=hT.kx.cell (k:=3) rfl;have CN1:=ad (CN.out D (by omega) (by omega) wr _ (b1.trans (hT.below.mono b1.size)) HC.out);go_wp2_with (first
         |(refine wpList_load_mid rfl 243 _ rfl w.heap.size 3 rfl R _ (tv (r1.on hT.below) T9.out) underlying243 rfl HI.out ?_)
         |(go_at_call 245;refine(CN1.out).mono ?_;rintro e w9 ⟨rfl,iI⟩;replace hT:=hT.on iI))
        exact r22 (Ua D) _ _ _ hPc ⟨_,_,_,rfl⟩ hT
       clear aP oH CB1 g9;by_cases SQ:bg D=pp
       case pos=>
        subst SQ;have ah9:(bg D !=bg D)=false:=by simp
        go_wp2_with fail;exact Zj _ _ ⟨_,_,_,rfl⟩ hT
       case neg=>
        have ah9:(bg D !=pp)=true:=by simp[SQ]
        have CC1:=ad (CC.out D (by omega) (by omega));have oH:=ad (b1.trans (hT.below.mono b1.size));have MB:=ad (fun d d0 d1 e=>Jm.out D d (by omega) (by omega) d0 d1 e);go_wp2_with (first
         |(refine wpList_load_mid rfl 243 _ rfl w.heap.size 3 rfl R _ (tv (r1.on hT.below) T9.out) underlying243 rfl HI.out ?_)
         |(refine aR (b:=ep) rfl rfl rfl hT.kx underlying236 rfl aS ?_)
         |(refine aR (b:=b8) rfl rfl rfl hT.r8 underlying236 rfl aS ?_)
         |(go_at_call 244;refine(CC1.out _ oH.out).mono ?_;rintro e w9 ⟨v9,rfl,Y6,iI⟩))
        exact Zj _ _ (dF Y6) (hT.chg iI _ Y6 MB.out)
   clear aP;by_cases hu:0≤un
   ·have Io:T≤un:=by omega
    clear T7;go_wp2_with fail;exact kx
   ·clear T7;go_wp2_with fail;exact kx
end Go.Proofs.YthpndgcaoeokeaaGreatDoor
