import Derived.Test.YtchdfdmjihnhkaaGreatDoorUq11
set_option maxRecDepth 100000
set_option maxHeartbeats 8000000
open Go.IntKind renaming i64->Z
open Go.Value renaming int->V,pointer->ε,slice->ζ,string->η,ownBlock->μ,int->ϛ
open Go.Ending renaming returned->δ
open Go.Obj renaming cells->θ
open List renaming flatMap_cons->ι,length_append->ν,map_cons->π,map_map->τ,length_filter_le->υ,flatMap_append->φ,length_map->ψ,append_assoc->Γ,length_cons->Δ,perm_append_comm_assoc->Η,setIfInBounds_toArray->Θ,filter_append->Ι,cons_append->Κ,nil_append->Μ,map_append->Ν,map_congr_left->Τ,append_toArray->Υ,set_cons_zero->Φ,set_cons_succ->Χ,size_toArray->Ω,push_toArray->ϊ,filter_cons->ϋ,any_eq_true->ό,all_eq_true->ύ,length_nil->Ϙ,append_nil->ϙ,mem_cons->Ϝ,any_cons->ϝ,filter_eq_nil_iff->Ϡ,pairwise_append->Ϣ,mem_map_of_mem->Ϥ,pairwise_cons->Ϧ,pairwise_map->ϧ,not_mem_nil->Ϩ,mem_filter->Ϫ,mem_append->ϫ,range->ϭ
open Go renaming World->κ,Calls->Ζ,Ending->ϡ
open Nat renaming le_refl->ξ,le_trans->Λ,lt_of_lt_of_le->Ψ,reduceSub->Ϟ,reduceAdd->ϟ
open Go.Lib renaming containsS->ο
open Go.RowKit.Below renaming refl->ρ
open Go.CallsIn renaming inRound->χ
open Go.World renaming putObj_heap_other->ω
open Go.Region renaming binds->Α,wanted->ϩ
open List.Perm renaming append_left->Β,refl->ϥ
open Option.some renaming injEq->Ε,inj->Ϯ
open List.Pairwise renaming nil->Ξ,filter->Ϗ
open Array renaming replicate_zero->Ο,replicate_succ->Ρ,replicate->ϗ,getElem?_eq_getElem->Ϛ,length_toList->ϣ,getD->Ϭ
open Bool renaming and_eq_true->ώ
namespace Go.Proofs.YtchdfdmjihnhkaaGreatDoor
open Tryz
open Go.RowKit Go.Sort
attribute [local go_sem] Oper.semAt_some
attribute [local go_sem] bK aU
attribute [local simp] bK aU
theorem adn (g:Nat)(lb:Array Value)(R:ak)(lu:List KE->Prop)(aqw:KE->List aJ)(Eb:ak)(f to:Int)(ba bf bt:Nat)(w:κ)
 (hit:pQ prog g lb (λxs=>∃ks,lu ks/\xs=ks.map fj) R w)(mA:∀k,R k->k<w.heap.size)(eg:∀args w,(callFunc g args).run prog w=.ok (.enter g args) w)
 (gu:∀ks,lu ks->∀k∈ks,k.ev.length=18/\∀v∈k.ev,v.oneCell'=true)
 (hC:∀ks,lu ks->∀k∈ks,∀wr:κ,w.heap.size<=wr.heap.size->(∀b,Eb b->wr.heap[b]?=w.heap[b]?)->Ζ prog 93 #[.agg #[η k.kc,η k.ku],.agg k.ev.toArray,V Z f,V Z to] wr (dR (dz (aqw k)) Eb wr))
 (ly:∀b,Eb b->b<w.heap.size)
 (q1:X w ba [.func (.func g) #[] lb] 82)(q2:X w bf [V Z f] 3)(q3:X w bt [V Z to] 3):
 pQ prog 107 #[ε (some ⟨ba,0,none⟩),ε (some ⟨bf,0,none⟩),ε (some ⟨bt,0,none⟩)] (λxs=>∃ks,lu ks/\xs=dz (ks.flatMap aqw)) (λk=>k=ba\/k=bf\/k=bt\/R k\/Eb k) w:=by
 intro l W O aqx Js Jp bA OK hO cM hY;replace q1:=q1.keep (OK ba (.inl rfl));replace q2:=q2.keep (OK bf (.inr (.inl rfl)));replace q3:=q3.keep (OK bt (.inr (.inr (.inl rfl))));have Ir:¬O bf:=λh=>hO bf h (.inr (.inl rfl));have Tk:¬O bt:=λh=>hO bt h (.inr (.inr (.inl rfl)));have nOR:∀k,O k->¬R k:=λk h h'=>hO k h (.inr (.inr (.inr (.inl h'))));have Is:∀k,O k->¬Eb k:=λk h h'=>hO k h (.inr (.inr (.inr (.inr h'))));have mn:∀k,R k->W.heap[k]?=w.heap[k]?:=λk h=>OK k (.inr (.inr (.inr (.inl h))));have hEE:∀k,Eb k->W.heap[k]?=w.heap[k]?:=λk h=>OK k (.inr (.inr (.inr (.inr h))));have HY:=H hY;have HC:=H hC;have HV:=H gu;clear hO OK hY hC gu;refine di func107 rfl ?_;simp only[ntmps107,Ω,Δ,Ϙ,ϟ,Ϟ,Ρ,Ο,ϊ,Υ,Μ,Κ];refine bO λaqy hK=>bQ ?_;gi_wp2_with fail;have r4:X (W.alloc (θ #[.func (.yield l) #[] #[]] 165)) W.heap.size [.func (.yield l) #[] #[]] 165:=X.new W [.func (.yield l) #[] #[]] 165;have al:Below W.heap.size W (W.alloc (θ #[.func (.yield l) #[] #[]] 165)):=(ρ _ _).alloc (ξ _) _;have zA:W.heap.size<(W.alloc (θ #[.func (.yield l) #[] #[]] 165)).heap.size:=by simp
 generalize W.alloc (θ #[.func (.yield l) #[] #[]] 165)=W2 at *
 have c1:=(q1.on al).cell (k:=0) rfl;refine bO λaqy hK=>bQ ?_;gi_wp2_with fail;clear c1 q1;refine gj ?_;refine Ig (gf:=g) (lb:=lb) func107 ?g eg hit (by omega) (λk Y=>(al.block k (by have:=mA k Y;omega)).trans (mn k Y)) (λk Y=>by have:=mA k Y;omega)
  O nOR (OJ O W aqx aqw) (Cr O W Js) (λc=>DX O W (Jp c)) ?ps ?start ?round ?done ?stop ?pan
 case g=>rfl
 case ps=>rintro xs ⟨ks,_,rfl⟩ x N;obtain⟨b,_,rfl⟩:=List.mem_map.1 N;rfl
 case start=>exact OJ.cQ (λk Y=>by have:=cM.1 k Y;omega) ⟨[],rfl,O,λk Y=>Y,λk Y=>.inl Y,λk Y=>Y,cM.below al⟩
 case stop=>
  rintro c W4 ⟨N,D,cx,_,aG⟩ hs bM;have dY:aj O W (W4.putObj W2.heap.size (.deferred none)):=((aj.aq al).aK N).put (.inr (by omega)) _;have cO:¬D W2.heap.size:=λh=>(cx _ h).elim (λh=>by have:=cM.1 _ h;omega) (by omega);obtain⟨rfl,D0,h⟩:=aG.out;have fG:=H ((h.put cO (.deferred none)).fin dY);clear h aG cx;gi_wp2_with fail;refine⟨by simp,.inl ⟨_,_,rfl,run_takeDeferred bM,?_⟩⟩;exact⟨_,results_none rfl _ _ _,.inl ⟨⟨_,rfl⟩,.inr fG.out⟩⟩
 case pan=>
  rintro c W4 ⟨N,D,cx,_,aG⟩ hs bM;have dY:aj O W (W4.putObj W2.heap.size (.deferred none)):=((aj.aq al).aK N).put (.inr (by omega)) _;have cO:¬D W2.heap.size:=λh=>(cx _ h).elim (λh=>by have:=cM.1 _ h;omega) (by omega);obtain⟨D0,h⟩:=aG.out;refine⟨by simp,.inl ⟨_,_,rfl,run_takeDeferred bM,?_⟩⟩;exact .inr ⟨c,rfl,(h.put cO _).fin dY⟩
 case done=>
  rintro xs ⟨ks,cR,rfl⟩ W4 ⟨N,D,cx,_,aG⟩ hs bM;have dY:aj O W (W4.putObj W2.heap.size (.deferred none)):=((aj.aq al).aK N).put (.inr (by omega)) _;have cO:¬D W2.heap.size:=λh=>(cx _ h).elim (λh=>by have:=cM.1 _ h;omega) (by omega);obtain⟨dI,he,D0,bu⟩:=aG.out;have o4:=Ga he;subst o4;refine⟨by simp,.inl ⟨_,_,rfl,run_takeDeferred bM,?_⟩⟩;exact⟨_,results_none rfl _ _ _,.inl ⟨⟨_,rfl⟩,.inl ⟨_,⟨ks,cR,rfl⟩,(bu.put cO _).fin dY⟩⟩⟩
 case round=>
  intro BA i x N W4 D yM hs dT eh aG aqy hK;obtain⟨dI,hi,_⟩:=aG.out;subst hi;obtain⟨gi,ks,cR,kg⟩:=N;obtain⟨k,ks2,rfl,rfl⟩:=Ih kg;obtain⟨fe,lM⟩:=HV.out _ cR k (by simp);have HCk:=H (HC.out _ cR k (by simp));clear kg HC HV;unfold fj;gi_wp2_with (first
   |(refine ix (λ_=>trivial) (λ_ h=>by cases h) rfl (fR rfl _ _) ?_;intro w6 yR pU cL)
   |(refine iy (λ_=>trivial) rfl rfl rfl rfl yR (by rw[fe];rfl) (by rw[fe];exact fT) lM ?_;intro w7 yS iH))
  simp only[Act.put,Θ,Χ,Φ];have rk:=X.new W4 [η k.kc,η k.ku] 107;have tV:Below W4.heap.size W4 (W4.alloc (θ #[η k.kc,η k.ku] 107)):=(ρ _ _).alloc (ξ _) _;have S9:(W4.alloc (θ #[η k.kc,η k.ku] 107)).heap.size=W4.heap.size+1:=by simp
  have eW:W4.alloc (.cells [η k.kc,η k.ku].toArray 107)=W4.alloc (θ #[η k.kc,η k.ku] 107):=rfl;rw[eW]at rk;clear eW;generalize W4.alloc (θ #[η k.kc,η k.ku] 107)=W5 at *
  rw[S9]at yR pU cL yS iH⊢;have Lc:Below W4.heap.size W4 w7:=(tV.trans (cL.mono (by omega))).trans (iH.below (by omega) (λk Y=>by omega));have rk7:=(rk.on (cL.mono (by omega))).ex iH (by omega);have hz7:=iH.size;clear yR cL iH rk tV;refine hK _ _ (λb=>D b\/b=W4.heap.size\/b=W4.heap.size+1) Lc (λb U=>U.imp id λh=>by omega) (λb U=>.inl U) (λb U=>U.elim (λh=>by have:=aG.1 b h;omega) (λh=>by omega)) ?_;intro W8 ui nH hs8 fV OC;obtain⟨r8,fV⟩:=fV;have q5:=rk7.keep (ui _ (.inr (.inl rfl)));have q6:=yS.keep (ui _ (.inr (.inr rfl)));have uj:=aG.on (W':=W8) λb U=>(ui b (.inl U)).trans (Lc.block b (aG.1 b U));have zP:∀b,D b\/b=W4.heap.size\/b=W4.heap.size+1->b<W8.heap.size:=λb U=>by
   rcases U with h|h|h
   ·exact uj.1 b h
   ·have:=q5.lt;omega
   have:=q6.lt;omega
  have mq:aj O W W8:=(aj.aq al).aK nH;obtain⟨aog,hi,D0,bu⟩:=uj.out;have o4:=Ga hi;subst o4;replace bu:=bu.wide (D':=λb=>D b\/b=W4.heap.size\/b=W4.heap.size+1) λk Y=>.inl Y;clear hK ui hit aG uj yS rk7 hi;have y2:=(q2.aM mq Ir).cell (k:=0) rfl;have y3:=(q3.aM mq Tk).cell (k:=0) rfl;have z0:=q5.cell (k:=0) rfl;have z1:=q5.cell (k:=1) rfl;refine oG ?_;refine wP λaqy hK=>rR ?_;gi_wp2_with (refine J3 rfl rfl rfl q6 fe (λ_=>trivial) ?_);have zG:∀b,Eb b->W8.heap[b]?=w.heap[b]?:=λb U=>(mq.block b (by have:=ly b U;omega) (λh=>Is b h U)).trans (hEE b U);refine(χ _ (callsIn_wide.2 (HCk.out W8 (by omega) zG))).mono ?_;rintro e W9 ⟨g2,lb2,R2,rfl,Ld,Ew,Le,rT⟩;have hz9:=rT.size;have agr:W9.heap[W2.heap.size+1]?=some (.loop r8):=(rT.block _ (by omega)).trans fV;replace bu:=bu.below rT;replace mq:aj O W W9:=mq.aK (aj.aq rT);have r49:=(r4.aM (nH.aK (aj.aq rT)) (λh=>by have:=cM.1 _ h;omega));clear y2 y3 z0 z1 HCk fV q5 q6 zG;gi_wp2_with fail;refine oG ?_;refine Ie (gf:=g2) (lb:=lb2) func107 ?ig Le Ld.n (ξ _) (λ_ _=>rfl) (λk Y=>(Ew k Y).1) agr
   (λb=>D b\/b=W4.heap.size\/b=W4.heap.size+1) (λb U fA=>by
    rcases(Ew b fA).2 with h|h
    ·rcases U with U|U
     ·rcases eh b U with h'|h'
      ·exact Is b h' h
      have:=ly b h;omega
     have:=ly b h;omega
    have:=zP b U;omega) (OA O W aqx (dI.flatMap aqw)) (Cr O W Js) (λc=>DX O W (Jp c)) ?ips ?istart ?iround ?idone ?istop ?ipan
  case ig=>rfl
  case ips=>rintro xs rfl x N;obtain⟨d,_,rfl⟩:=List.mem_map.1 N;rfl
  case istart=>exact OA.cQ (λb U=>by have:=zP b U;omega) ⟨[],rfl,D0,by simpa using bu⟩
  case idone=>
   rintro xs rfl WA ⟨Lf,DA,OL,OM,nY⟩ hsA;obtain⟨es,he,Tl,Gf⟩:=nY.out;have o4:=tM he;subst o4;refine(show aO (λb=>D b\/b=W4.heap.size\/b=W4.heap.size+1) W8.heap.size (OJ O W aqx aqw (dI.map fj++[fj k])) W8 WA from ?_);refine⟨(aj.aq rT).aK Lf,DA,λb U=>(OL b U).imp id λh=>by omega,OM,OJ.cQ nY.1 ⟨dI++[k],by simp,Tl,?_⟩⟩;rw[φ,List.flatMap_singleton];exact Gf
  case istop=>
   rintro c WA ⟨Lf,DA,OL,OM,nY⟩ hsA;obtain⟨rfl,Tl,Gf⟩:=nY.out;have fG:=H (show aO (λb=>D b\/b=W4.heap.size\/b=W4.heap.size+1) W8.heap.size (Cr O W Js .ret) W8 WA from⟨(aj.aq rT).aK Lf,DA,λb U=>(OL b U).imp id λh=>by omega,OM,Cr.cQ nY.1 ⟨Tl,Gf⟩⟩);clear Lf OL OM nY Gf;refine rR ?_;gi_wp2_with fail;exact fG.out
  case ipan=>
   rintro c WA ⟨Lf,DA,OL,OM,nY⟩ hsA;obtain⟨Tl,Gf⟩:=nY.out;exact⟨rfl,(aj.aq rT).aK Lf,DA,λb U=>(OL b U).imp id λh=>by omega,OM,DX.cQ nY.1 ⟨Tl,Gf⟩⟩
  case iround=>
   intro l2' pre x N WA DA Lf hsA aoh aoi nY aqy hK;obtain⟨gi,WL⟩:=N;obtain⟨es,qm,_⟩:=nY.out;subst qm;obtain⟨e,r,hXk,rfl⟩:=xF WL;unfold de bE;gi_wp2_with fail;have gp:Below WA.heap.size WA (WA.alloc (θ (bE e).toArray 144)):=(ρ _ _).alloc (ξ _) _;refine hK _ _ (λb=>DA b\/b=WA.heap.size) gp (λb U=>U.imp id λh=>by omega) (λb U=>.inl U) (λb U=>U.elim (λh=>by have:=nY.1 b h;simp;omega) (λh=>by simp;omega)) ?_;intro WB hkB hxB hsB Zp hnB;have q7:=(X.new WA (bE e) 144).keep (hkB _ (.inr rfl));have WM:=nY.on (W':=WB) λb U=>(hkB b (.inl U)).trans (gp.block b (nY.1 b U));have hDB:∀b,DA b\/b=WA.heap.size->b<WB.heap.size:=λb U=>U.elim (WM.1 b) (λh=>by have:=q7.lt;omega);have y4:=(r49.aM hxB (λh=>by
    rcases h with h|h
    ·rcases eh _ h with h'|h'
     ·have:=cM.1 _ h';omega
     omega
    omega)).cell (k:=0) rfl
   obtain⟨x0,x1,x2,x3,x4⟩:=lS (e:=e) q7;obtain⟨Y6,qm,D0B,zQ⟩:=WM.out;have o4:=tM qm;subst o4;replace zQ:=zQ.wide (D':=λb=>DA b\/b=WA.heap.size) λk Y=>.inl Y;have adt:aj O W WB:=mq.trans hxB (λb U=>by
    rcases U with U|U
    ·rcases eh b U with h|h
     ·exact .inl h
     exact .inr (by omega)
    exact .inr (by omega))
   have hWB:W.heap.size<=WB.heap.size:=adt.size;obtain⟨D6,tR,D7,D8,gC,eB⟩:=HY.out (dz (dI.flatMap aqw++es)) #[de e] ⟨dz (r++ks2.flatMap aqw),_,cR,by
    rw[φ,ι,hXk];simp only[xE,Γ];rfl⟩ WB D0B adt zQ.dO zQ.Od zQ.on
   unfold de bE at gC;clear hK hkB nY WM Ld Ew;refine rR ?_;gi_wp2_with fail;refine(RoundIn.inRound _ eB).mono ?_;clear gC eB y4 x0 x1 x2 x3 x4;rintro e' WX (⟨rfl,J⟩|⟨rfl,J⟩|⟨ch,rfl,J⟩)
   all_goals
    obtain⟨eQ,dZ,mr,je⟩:=zQ.post hWB J;have eL:aj (λb=>DA b\/b=WA.heap.size) WB WX:=je.mono (λb U=>.inl (zQ.sub b U));have rF:∀b,(DA b\/b=WA.heap.size)\/eQ b->b<WX.heap.size:=λb U=>U.elim (λh=>Ψ (hDB b h) eL.size) (λh=>dZ.on.1 b h);have KK:∀b,(DA b\/b=WA.heap.size)\/eQ b->(DA b\/b=WA.heap.size)\/WB.heap.size<=b:=λb U=>U.elim .inl λh=>(mr b h).elim (λh=>.inl (zQ.sub b h)) .inr;clear J;gi_wp2_with fail
   ·exact⟨eL,_,KK,λ_ Y=>.inl Y,OA.cQ rF ⟨es++[e],by rw[xE];rfl,eQ,by
     rw[<-Γ,xE];exact dZ⟩⟩
   ·exact⟨eL,_,KK,λ_ Y=>.inl Y,Cr.cQ rF ⟨eQ,dZ⟩⟩
   exact⟨rfl,eL,_,KK,λ_ Y=>.inl Y,DX.cQ rF ⟨eQ,dZ⟩⟩
end Go.Proofs.YtchdfdmjihnhkaaGreatDoor
namespace Go.Proofs.YtchdfdmjihnhkaaGreatDoor
open Tryz
open Go.RowKit Go.Sort
theorem pQ.later {P:Program}{g:Nat}{lb:Array Value}{Ok:List (Array Value)->Prop}{R:ak}{w I:κ}(h:pQ P g lb Ok R w)(hR:∀k,R k->k<w.heap.size)(U:Below w.heap.size w I):pQ P g lb Ok R I:=
 λl W O aqx Js Jp G A=>h l W O aqx Js Jp (Λ U.size G) (λk Y=>(A k Y).trans (U.block k (hR k Y)))
theorem Gg (g:Nat)(lb:Array Value)(f to:Int)(w:κ):
 Ζ prog 71 #[.func (.func g) #[] lb,V Z f,V Z to] w λe I=>
  e=δ (.func (.func 107) #[] #[ε (some ⟨w.heap.size,0,none⟩),ε (some ⟨w.heap.size+1,0,none⟩),ε (some ⟨w.heap.size+1+1,0,none⟩)])/\
  I=((w.alloc (θ #[.func (.func g) #[] lb] 82)).alloc (θ #[V Z f] 3)).alloc (θ #[V Z to] 3):=by
 go_enter func71,ntmps71;go_wp2_with fail;go_ret;exact⟨rfl,rfl⟩
theorem Lg (p:Nat)(T:LT)(h t:Int)(v:Value)(w:κ)(hi:cP w p T T.size h)(hs:LT.eF T.aw)(sz:T.size<=400000)(ht:t<=h):
 Ζ prog 44 #[ε (some ⟨p,0,none⟩),V Z t,v] w λE I=>E=δ (.bool true)/\∃T':LT,cP I p T' T'.size t/\T'.aw=qj t T.aw/\(∀k∈T'.ax,k∈T.ax)/\aj (λk=>k∈p::T.ax) w I:=by
 have k2:=hi.row.cell (k:=2) rfl;have HS:=H (BC p T h t w hi hs sz);clear hi hs;go_enter func44,ntmps44;go_wp2_with (go_at_call 69;refine(HS.out).mono ?_;rintro E w5 ⟨rfl,T',h5⟩;replace h5:=H h5);go_ret;exact⟨rfl,T',h5.out⟩
def adu (p:Nat)(T:LT)(t:Int)(lu:List KE->Prop)(aqw:KE->List aJ)(w:κ):ϡ->κ->Prop:=λE I=>
 (∃ks T',lu ks/\(ks.flatMap aqw).length+T.size<=500/\E=δ (.bool true)/\cP I p T' T'.size t/\LT.eF T'.aw/\T'.aw.Perm (ks.flatMap aqw++T.aw)/\(∀k∈T'.ax,k∈T.ax\/w.heap.size<=k)/\aj (λk=>k∈p::T.ax) w I)\/
 ((∃ks,lu ks/\500<(ks.flatMap aqw).length+T.size)/\E=δ (.bool false)/\Below w.heap.size w I)
theorem Nz (p:Nat)(T:LT)(h t:Int)(g:Nat)(lb:Array Value)(R:ak)(lu:List KE->Prop)(aqw:KE->List aJ)(Eb:ak)(w:κ)(hi:cP w p T T.size h)(hs:LT.eF T.aw)(hc:T.size<=500)(ht:h<t)
 (hit:pQ prog g lb (λxs=>∃ks,lu ks/\xs=ks.map fj) R w)(mA:∀k,R k->k<w.heap.size)(eg:∀args w,(callFunc g args).run prog w=.ok (.enter g args) w)
 (gu:∀ks,lu ks->∀k∈ks,k.ev.length=18/\∀v∈k.ev,v.oneCell'=true)
 (hC:∀ks,lu ks->∀k∈ks,∀wr:κ,w.heap.size<=wr.heap.size->(∀b,Eb b->wr.heap[b]?=w.heap[b]?)->Ζ prog 93 #[.agg #[η k.kc,η k.ku],.agg k.ev.toArray,V Z h,V Z t] wr (dR (dz (aqw k)) Eb wr))
 (ly:∀b,Eb b->b<w.heap.size)(hd:∀ks,lu ks->(ks.flatMap aqw).Pairwise (λx y=>bP x y≠0)/\∀x∈ks.flatMap aqw,∀y∈T.aw,bP x y≠0):
 Ζ prog 44 #[ε (some ⟨p,0,none⟩),V Z t,.func (.func g) #[] lb] w (adu p T t lu aqw w):=by
 have k2:=hi.row.cell (k:=2) rfl;have lU:∀args w,(callFunc 107 args).run prog w=.ok (.enter 107 args) w:=enters_of func107 (by kernel_rfl) rfl;have q1:=kx w [.func (.func g) #[] lb] 82 (θ #[V Z h] 3) (θ #[V Z t] 3);have q2:=ky w (θ #[.func (.func g) #[] lb] 82) [V Z h] 3 (θ #[V Z t] 3);have q3:=kz w (θ #[.func (.func g) #[] lb] 82) (θ #[V Z h] 3) [V Z t] 3;have U:=gJ w (θ #[.func (.func g) #[] lb] 82) (θ #[V Z h] 3) (θ #[V Z t] 3);have hz:=H (show(((w.alloc (θ #[.func (.func g) #[] lb] 82)).alloc (θ #[V Z h] 3)).alloc (θ #[V Z t] 3)).heap.size=w.heap.size+3 by simp);have o9:=hi.aM (O:=λ_=>False) (aj.aq U) (λ_ _ h=>h);have hN:=adn g lb R lu aqw Eb h t w.heap.size (w.heap.size+1) (w.heap.size+1+1) _ (pQ.later hit mA U) (λk Y=>by have:=mA k Y;have:=hz.out;omega) eg gu (λks cR k Y wr G A=>hC ks cR k Y wr (by have:=hz.out;omega) λb fA=>(A b fA).trans (U.block b (ly b fA))) (λb fA=>by have:=ly b fA;have:=hz.out;omega) q1 q2 q3;have e:(λxs:List (Array Value)=>∃ks,lu ks/\xs=dz (ks.flatMap aqw))=λxs=>∃es,(∃ks,lu ks/\es=ks.flatMap aqw)/\xs=dz es:=by
  funext xs;exact propext ⟨λ⟨ks,G,A⟩=>⟨_,⟨ks,G,rfl⟩,A⟩,λ⟨es,⟨ks,G,M⟩,A⟩=>⟨ks,G,by rw[A,M]⟩⟩
 rw[e]at hN;have HA:=H (Oc p T h 107 _ (λes=>∃ks,lu ks/\es=ks.flatMap aqw) _ _ o9 hs hc hN (λk Y=>by
  have:=hz.out;rcases Y with rfl|rfl|rfl|h|h
  ·omega
  ·omega
  ·omega
  ·have:=mA k h;omega
  have:=ly k h;omega) lU (λes ⟨ks,cR,he⟩=>by subst he;exact hd ks cR))
 clear hN e q1 q2 q3 hit hC gu hd o9 hi lU;have hzb:=H U;clear U;go_enter func44,ntmps44;go_wp2_with (go_at_call 71;refine(Gg g lb h t w).mono ?_;rintro E w3 ⟨rfl,rfl⟩);refine(HA.out).mono ?_;rintro E w4 (⟨es,T',⟨ks,cR,rfl⟩,hle,rfl,a1,a2,a3,a4,a5⟩|⟨⟨es,⟨ks,cR,rfl⟩,Iu⟩,rfl,cq⟩)
 case inl=>
  have k0:=a1.row.cell (k:=2) rfl;have f0:=a1.row.free (k:=2);have A1:=H a1;have A5:=H a5;clear a1 a5 HA k2;go_wp2_with fail;go_ret;have hn:=A1.out.nd;rw[List.nodup_cons]at hn;have tQ:aj (λk=>k=p) w4 (w4.setCell ⟨p,2,none⟩ (V Z t)):=(aj.refl (λk=>k=p) w4).st rfl _;refine .inl ⟨ks,T',cR,hle,rfl,⟨A1.out.row.set (k:=2) _,A1.out.tree.aM tQ (λk Y e=>hn.1 (e▸Y)),A1.out.nd⟩,a2,a3,λk Y=>(a4 k Y).imp id λh=>by have:=hz.out;omega,?_⟩;exact(((aj.aq hzb.out).aK A5.out).trans tQ λk Y=>.inl (by simp[Y]))
 case inr=>
  have HB:=H (hzb.out.trans (cq.mono hzb.out.size));clear cq HA k2;go_wp2_with fail;go_ret;exact .inr ⟨⟨ks,cR,Iu⟩,rfl,HB.out⟩
theorem QT (w:κ):
 Ζ prog 14 #[] w λE I=>E=δ (ε (some ⟨w.heap.size,0,none⟩))/\cP I w.heap.size .nil 0 0/\Below w.heap.size w I:=by
 go_enter func14,ntmps14;go_wp2_with fail;go_ret;exact⟨rfl,⟨X.new w _ _,trivial,by simp[LT.ax]⟩,(ρ _ _).alloc (ξ _) _⟩
theorem Gh (p:Nat)(T:LT)(c h:Int)(w:κ)(hi:cP w p T c h):
 Ζ prog 95 #[ε (some ⟨p,0,none⟩)] w λE I=>E=δ (V Z h)/\w=I:=by
 have k2:=hi.row.cell (k:=2) rfl;clear hi;go_enter func95,ntmps95;go_wp2_with fail;go_ret;exact⟨rfl,rfl⟩
theorem Lh (p:Nat)(T:LT)(c h:Int)(w:κ)(hi:cP w p T c h):
 Ζ prog 21 #[ε (some ⟨p,0,none⟩)] w λE I=>E=δ (V Z c)/\w=I:=by
 have k1:=hi.row.cell (k:=1) rfl;clear hi;go_enter func21,ntmps21;go_wp2_with fail;go_ret;exact⟨rfl,rfl⟩
end Go.Proofs.YtchdfdmjihnhkaaGreatDoor
namespace Go.Proofs.YtchdfdmjihnhkaaGreatDoor
open Tryz
open Go.RowKit Go.Sort
attribute [local go_sem] Oper.semAt_some
attribute [local go_sem] bK aU
attribute [local simp] bK aU
def adw (e:aJ):lY:=⟨e.k,e.b,e.e⟩
def iP (ns:List ByteArray)(es:List aJ):List lY:=(es.filter λe=>ο ns e.c).map adw
theorem Iv (ns:List ByteArray)(es:List aJ)(e:aJ):iP ns (es++[e])=iP ns es++if ο ns e.c then[adw e]else[]:=by
 unfold iP;cases h:ο ns e.c<;>simp[Ι,h]
theorem Iw (f t:Int)(cs:List lY)(c:lY):eT f t (cs++[c])=eT f t cs++[⟨max c.b f,c.k,1⟩,⟨min c.e t,c.k,-1⟩]:=by unfold eT;simp
theorem Cw (f t:Int)(cs:List lY):(eT f t cs).length=2*cs.length:=by
 induction cs with
 |nil=>rfl
 |cons c cs ih=>
  have e:eT f t (c::cs)=[⟨max c.b f,c.k,1⟩,⟨min c.e t,c.k,-1⟩]++eT f t cs:=rfl;rw[e,ν,ih];simp;omega
theorem Li (ns:List ByteArray)(es:List aJ):(iP ns es).length<=es.length:=by unfold iP;rw[ψ];exact υ _ _
def SJ (p:Nat)(f t:Int)(aqw:List eC):aQ:=λD W=>D p/\∃v,(∀k,v.ownBlock=some k->D k)/\gL W p f t v aqw
theorem SJ.cQ {p:Nat}{f t:Int}{aqw:List eC}{D:ak}{W:κ}(hD:∀k,D k->k<W.heap.size)(h:SJ p f t aqw D W):On D (SJ p f t aqw) W:=by
 obtain⟨G,v,A,M⟩:=h;exact⟨hD,λW2 Y=>⟨G,v,A,M.row.keep (Y p G),dB M.own λg hg _=>Y g (A g hg),M.ne⟩⟩
def CvP (p:Nat)(f t:Int)(aqw:List eC)(w:κ):ϡ->κ->Prop:=λE I=>(∃u,E=δ u)/\∃v,gL I p f t v aqw/\aj (λk=>k=p) w I/\∀k,v.ownBlock=some k->w.heap.size<=k
theorem Lj (s ip p:Nat)(T:LT)(c h f t:Int)(cv nv:Value)(ns:List ByteArray)(w:κ)(hi:cP w ip T c h)(hs:LT.eF T.aw)(hc:T.size<=500)(Ez:X w s [cv,ε (some ⟨ip,0,none⟩)] 49)(hn:iJ w nv ns)(S5:ns.length<=9223372036854775807)
 (oZ:gL w p f t (ζ none 0 0) [])(lx:¬p∈ip::T.ax)(Ed:nv.ownBlock≠some p):
 Ζ prog 65 #[ε (some ⟨s,0,none⟩),ε (some ⟨p,0,none⟩),nv,V Z f,V Z t] w (CvP p f t (eT f t (iP ns (du f t T.aw))) w):=by
 obtain⟨an,cn,lW⟩:=hn.sl;have ra:X ((w.alloc (θ #[ε (some ⟨p,0,none⟩)] 113)).alloc (θ #[ζ an ns.length cn] 55)) w.heap.size [ε (some ⟨p,0,none⟩)] 113:=kC w [ε (some ⟨p,0,none⟩)] 113 (θ #[ζ an ns.length cn] 55);have rb:X ((w.alloc (θ #[ε (some ⟨p,0,none⟩)] 113)).alloc (θ #[ζ an ns.length cn] 55)) (w.heap.size+1) [ζ an ns.length cn] 55:=kD w [ζ an ns.length cn] 55 (θ #[ε (some ⟨p,0,none⟩)] 113);have al:=mu w (θ #[ε (some ⟨p,0,none⟩)] 113) (θ #[ζ an ns.length cn] 55);have aR:∀k∈ip::T.ax,k<w.heap.size:=λk Y=>(List.mem_cons.1 Y).elim (λe=>e▸hi.row.lt) (hi.tree.lt k);have pT:=oZ.row.lt;have lU:∀args w,(callFunc 151 args).run prog w=.ok (.enter 151 args) w:=enters_of func151 (by kernel_rfl) rfl;have hI:=H (hi.aM (O:=λ_=>False) (aj.aq al) (λ_ _ h=>h));have hS:=H (oZ.on al);have k1:=(Ez.on al).cell (k:=1) rfl;have HN:=H (hn.keep (I:=(w.alloc (θ #[ε (some ⟨p,0,none⟩)] 113)).alloc (θ #[ζ an ns.length cn] 55)) λj hj=>al.block j (hn.lt hj));rw[lW];rw[lW]at HN Ed;clear hi oZ Ez hn lW;refine(callsIn_wide (n:=0)).1 ?_;refine di func65 rfl ?_;simp only[ntmps65,Ω,Δ,Ϙ,ϟ,Ϟ,Ρ,Ο,ϊ,Υ,Μ,Κ];refine bO λaqy hK=>bQ ?_;gi_wp2_with fail;have gX:w.heap.size+2=((w.alloc (θ #[ε (some ⟨p,0,none⟩)] 113)).alloc (θ #[ζ an ns.length cn] 55)).heap.size:=by simp
 generalize(w.alloc (θ #[ε (some ⟨p,0,none⟩)] 113)).alloc (θ #[ζ an ns.length cn] 55)=W2 at *
 replace gX:=H gX;refine bO λaqy hK=>bQ ?_;gi_wp2_with fail;refine(callsIn_wide.2 (EA ip f t W2)).mono ?_;rintro E W3 ⟨rfl,aP,o1,o2,o3⟩;clear k1;have o9:=hI.out.aM (O:=λ_=>False) (aj.aq aP) (λ_ _ h=>h);have hit:=Gi W2.heap.size (W2.heap.size+1) (W2.heap.size+2) ip T c h f t W3 o9 hs o1 o2 o3;have ZL:=hS.out.on aP;have hN3:=H (HN.out.keep (I:=W3) λj hj=>aP.block j (HN.out.lt hj));replace ra:=ra.on aP;replace rb:=rb.on aP;have tO:=aP.size;have ho1:=o1.lt;have ho2:=o2.lt;have ho3:=o3.lt;have Tm:=gX.out;have hol:(du f t T.aw).length<=500:=by
  have G:(du f t T.aw).length<=T.aw.length:=υ _ _;rw[LT.cC]at G;omega
 have eM:=H (al.trans (aP.mono al.size));clear hI HN o9 o1 o2 o3 aP al hS;gi_wp2_with fail;refine gj ?_;refine kY (gf:=151) func65 ?g lU hit (ξ _) (λ_ _=>rfl) (λk Y=>by
  rcases Y with rfl|rfl|rfl|Y
  ·exact ho1
  ·exact ho2
  ·exact ho3
  have:=aR k Y;omega)
  (λk=>k=p) (λk Y bV=>by
   subst Y;rcases bV with h|h|h|h
   ·omega
   ·omega
   ·omega
   exact lx h) (λi=>SJ p f t (eT f t (iP ns ((du f t T.aw).take i)))) (λ_ _ _=>False) (λ_ _ _=>False) ?ps ?start ?round ?done ?stop ?pan
 case g=>rfl
 case ps=>intro x N;obtain⟨d,_,rfl⟩:=List.mem_map.1 N;rfl
 case start=>exact SJ.cQ (λk Y=>by omega) ⟨rfl,ζ none 0 0,λk Y=>by simp[μ]at Y,by simpa[iP,eT]using ZL⟩
 case stop=>
  rintro c W4 ⟨N,D,cx,_,aG⟩ hs bM;exact aG.out.elim
 case pan=>
  rintro c W4 ⟨N,D,cx,_,aG⟩ hs bM;exact aG.out.elim
 case done=>
  rw[qi];rintro W4 ⟨N,D,cx,_,aG⟩ nC bM;obtain⟨_,v,fS,sN⟩:=aG.out;rw[List.take_length]at sN;refine⟨by simp,.inl ⟨_,_,rfl,run_takeDeferred bM,?_⟩⟩;have zz:∀k,v.ownBlock=some k->k≠p/\W3.heap.size+2<=k:=λk Y=>by
   have Tn:k≠p:=λe=>sN.ne (by rw[Y,e]);exact⟨Tn,(cx k (fS k Y)).resolve_left Tn⟩
  refine⟨_,results_none rfl _ _ _,⟨_,rfl⟩,v,⟨sN.row.keep (ω (by omega)),dB sN.own λg hg _=>ω (by have:=(zz g hg).2;omega),sN.ne⟩,(((aj.aq eM.out).aK N).put (.inr (by omega)) _),λk Y=>by have:=(zz k Y).2;omega⟩
 case round=>
  intro BA i x N W4 D yM nC dT aG aqy hK;obtain⟨e,hd⟩:∃e,(du f t T.aw)[i]?=some e:=⟨_,List.getElem?_eq_getElem (by have:=(List.getElem?_eq_some_iff.1 N).1;rwa [qi]at this)⟩;rw[xG hd]at N;cases N;unfold de bE;gi_wp2_with fail;have gp:Below W4.heap.size W4 (W4.alloc (θ (bE e).toArray 144)):=(ρ _ _).alloc (ξ _) _;refine hK _ _ (λk=>D k\/k=W4.heap.size) gp (λk Y=>Y.imp id λh=>by omega) (λk Y=>.inl Y) (λk Y=>Y.elim (λh=>by have:=aG.1 k h;simp;omega) (λh=>by simp;omega)) ?_;intro l' W5 fD bN tQ;have q6:=(X.new W4 (bE e) 144).keep (fD _ (.inr rfl));have dX:=aG.on (W':=W5) λk Y=>(fD k (.inl Y)).trans (gp.block k (aG.1 k Y));have ya:=(ra.aM bN (by omega)).cell (k:=0) rfl;have yb:=(rb.aM bN (by omega)).cell (k:=0) rfl;have hN5:=hN3.out.keep (I:=W5) λj hj=>bN.block j (hN3.out.lt hj) (λe=>Ed (e▸hj));have CN:=H (xN hN5 e.c S5);have dP:∀k,D k\/k=W4.heap.size->k<W5.heap.size:=λk Y=>Y.elim (dX.1 k) (λh=>by have:=q6.lt;omega);obtain⟨Ej,v,fS,sN⟩:=dX.out;obtain⟨x0,x1,x2,x3,x4⟩:=lS (e:=e) q6;have ur:(du f t T.aw).take (i+1)=(du f t T.aw).take i++[e]:=by rw[List.take_add_one,hd];rfl
  have dE:(eT f t (iP ns ((du f t T.aw).take i))).length+2<=16777216:=by
   rw[Cw];have G:=Li ns ((du f t T.aw).take i);have A:((du f t T.aw).take i).length<=(du f t T.aw).length:=by rw[List.length_take];omega
   omega
  clear hK fD hit aG gp dX;gi_wp2_with fail;refine(χ l' (callsIn_wide.2 CN.out)).mono ?_;rintro E W6 ⟨rfl,rfl⟩;clear yb CN;cases oB:ο ns e.c
  case false=>
   have hX:iP ns ((du f t T.aw).take (i+1))=iP ns ((du f t T.aw).take i):=by rw[ur,Iv,oB];simp
   clear x0 x1 x2 x3 x4 ya;gi_wp2_with fail;show aO _ _ _ _ _;refine⟨aj.refl _ _,λk=>D k\/k=W4.heap.size,λk Y=>.inl Y,λk Y=>Y,?_⟩;rw[hX];exact SJ.cQ dP ⟨.inl Ej,v,λk Y=>.inl (fS k Y),sN⟩
  case true=>
   have hX:eT f t (iP ns ((du f t T.aw).take (i+1)))=eT f t (iP ns ((du f t T.aw).take i))++[⟨max e.b f,e.k,1⟩,⟨min e.e t,e.k,-1⟩]:=by rw[ur,Iv,oB,if_pos rfl,Iw];rfl
   have To:=H (Hx p f t v _ e.k e.b e.e W5 sN dE);gi_wp2_with fail;refine(χ l' (callsIn_wide.2 To.out)).mono ?_;rintro E W7 ⟨rfl,v7,Tp,iH,hv7⟩;clear x0 x1 x2 x3 x4 ya To;gi_wp2_with fail;show aO _ _ _ _ _;have WN:aj (λk=>D k\/k=W4.heap.size) W5 W7:=iH.mono λk Y=>.inl (Y.elim (λe=>.inl (e▸Ej)) (λh=>.inl (fS k h)));refine⟨WN,λk=>(D k\/k=W4.heap.size)\/v7.ownBlock=some k,λk Y=>Y.elim .inl λh=>(hv7 k h).imp (λh'=>.inl (fS k h')) id,λk Y=>.inl Y,?_⟩;rw[hX];exact SJ.cQ (λk Y=>Y.elim (λh=>Ψ (dP k h) iH.size) (λh=>(Tp.own.lt k h).2)) ⟨.inl (.inl Ej),v7,λk Y=>.inr Y,Tp⟩
end Go.Proofs.YtchdfdmjihnhkaaGreatDoor
namespace Go.Proofs.YtchdfdmjihnhkaaGreatDoor
open Tryz
open Go.RowKit
structure aL where
 kc:ByteArray
 ku:ByteArray
 st:Int
 ln:Int
 hr:Bool
 r:aE
 ex:List Int
 xt:List Int
 tr:Bool
 k:Int
theorem QU (t:Int)(ls:List Int):(gD t ls).length<=ls.length:=by
 unfold gD;split
 ·simp
 split<;>simp
theorem Lk:∀ts ls:List Int,(ji ts ls).length<=ts.length+ls.length
 |[],ls=>by simp[ji]
 |t::ts,ls=>by
  rw[ji,ν,Δ,Δ];have G:=Lk ts (gD t (ls.dropWhile λx=>decide (x<t)));have A:=QU t (ls.dropWhile λx=>decide (x<t));have M:(ls.takeWhile λx=>decide (x<t)).length+(ls.dropWhile λx=>decide (x<t)).length=ls.length:=by rw[<-ν,List.takeWhile_append_dropWhile]
  omega
theorem ON:∀(l:List Int) (a b:Int),fL l->(∀x∈l,a<=x/\x<b)->(l.length:Int)<=max 0 (b-a)
 |[],a,b,_,_=>by simp;omega
 |x::l,a,b,h,U=>by
  obtain⟨G,A⟩:=List.pairwise_cons.1 h;have:=ON l (x+1) b A λy hy=>⟨by have:=G y hy;omega,(U y (by simp[hy])).2⟩;have:=U x (by simp);simp;omega
namespace aL
def ok (d:aL):Prop:=(d.hr=true->ei d.r)/\(0<=d.st/\d.st<=7258118400)/\(1<=d.ln/\d.ln<=10000000)/\fL d.xt/\d.xt.length<=1000
def tm (d:aL)(f to:Int):List Int:=fb d.hr d.r d.st f to d.ex d.xt
def is (d:aL)(x:Int):Prop:=isT d.hr d.r d.st d.ex d.xt x
def kd (d:aL):Int:=gT d.tr d.k
def aw (d:aL)(f to:Int):List aJ:=sy d.kc d.ku d.ln d.tr d.k (d.tm f to)
def Ll (d:aL)(f t:Int):List lY:=if d.kd=0 then[]else(d.tm (f-d.ln+1) t).map λx=>⟨d.kd,x,x+d.ln⟩
theorem QV {d:aL}(h:d.ok){x:Int}(N:d.is x):0<=x:=by
 obtain⟨G,⟨A,_⟩,_⟩:=h;obtain⟨_,⟨a,⟨y,hy,rfl⟩,_⟩|⟨_,rfl⟩|⟨_,b⟩⟩:=N
 ·have:=((A8 d.r (G a) d.st 0 7299999999 A (by omega)).2 y).1 hy;omega
 ·exact A
 omega
theorem rV {d:aL}(h:d.ok){f to:Int}(t1:to<=7258118400):fL (d.tm f to):=(OO d.hr d.r d.st f to d.ex d.xt h.1 h.2.1.1 t1 h.2.2.2.1).1
theorem jj {d:aL}(h:d.ok){f to:Int}(t1:to<=7258118400){x:Int}:x∈d.tm f to↔d.is x/\f<=x/\x<to:=(OO d.hr d.r d.st f to d.ex d.xt h.1 h.2.1.1 t1 h.2.2.2.1).2 x
theorem WO {d:aL}(h:d.ok){f m to:Int}(G:f<=m)(A:m<=to)(t1:to<=7258118400):d.tm f to=d.tm f m++d.tm m to:=by
 refine zR (rV h t1) ?_ λx=>?_
 ·unfold fL;rw[Ϣ];exact⟨rV h (by omega),rV h t1,λa ha b U=>by
   have:=(jj h (by omega)).1 ha;have:=(jj h t1).1 U;omega⟩
 rw[ϫ,jj h t1,jj h (by omega),jj h t1];constructor
 ·rintro⟨a,b,c⟩;by_cases N:x<m
  ·exact .inl ⟨a,b,N⟩
  exact .inr ⟨a,by omega,c⟩
 rintro(⟨a,b,c⟩|⟨a,b,c⟩)
 ·exact⟨a,b,by omega⟩
 exact⟨a,by omega,c⟩
theorem adz {d:aL}(h:d.ok){f hi to:Int}(A:hi<=to)(t1:to<=7258118400):(d.tm f to).filter (λx=>decide (x<hi))=d.tm f hi:=by
 refine zR (Ϗ _ (rV h t1)) (rV h (by omega)) λx=>?_;rw[Ϫ,jj h t1,jj h (by omega),decide_eq_true_eq];exact⟨λ⟨⟨a,b,_⟩,c⟩=>⟨a,b,c⟩,λ⟨a,b,c⟩=>⟨⟨a,b,by omega⟩,c⟩⟩
theorem adA {d:aL}(h:d.ok){f t hz:Int}(A:t<=hz)(t1:hz<=7258118400):(d.tm 0 hz).filter (λx=>decide (x<t)&&decide (f<x+d.ln))=d.tm (f-d.ln+1) t:=by
 refine zR (Ϗ _ (rV h t1)) (rV h (by omega)) λx=>?_;rw[Ϫ,jj h t1,jj h (by omega),ώ,decide_eq_true_eq,decide_eq_true_eq];constructor
 ·rintro⟨⟨a,b,_⟩,c,e⟩;exact⟨a,by omega,c⟩
 rintro⟨a,b,c⟩;have:=QV h a;exact⟨⟨a,this,by omega⟩,c,by omega⟩
theorem uV {d:aL}(h:d.ok){f to:Int}(t1:to<=7258118400):∀t∈d.tm f to,-100000000000<=t/\t<=100000000000:=λt ht=>by
 obtain⟨a,b,c⟩:=(jj h t1).1 ht;have:=QV h a;omega
theorem adB {d:aL}(h:d.ok){f to:Int}(t1:to<=7258118400):(d.tm f to).length<=86000:=by
 unfold tm fb;have G:=Lk (sO d.hr d.r d.st f to d.ex) (iz d.st f to d.ex d.xt);have A:(iz d.st f to d.ex d.xt).length<=d.xt.length:=υ _ _;have M:(sO d.hr d.r d.st f to d.ex).length<=(uv d.hr d.r d.st f to).length:=by
  unfold sO vn;exact Λ (υ _ _) (by rw[ψ];exact ξ _)
 have h4:(uv d.hr d.r d.st f to).length<=84007:=by
  unfold uv;cases hr:d.hr with
  |true=>
   rw[if_pos rfl];obtain⟨g1,g2⟩:=A8 d.r (h.1 hr) d.st f (iK d.r.un d.st to) h.2.1.1 (by unfold iK;omega);have:=ON _ 0 84007 g1 λx N=>by
    obtain⟨a,b,_⟩:=(g2 x).1 N;have:=((A8 d.r (h.1 hr) d.st 0 7299999999 h.2.1.1 (by omega)).2 x).1 a;unfold iK at b;omega
   omega
  |false=>
   rw[if_neg (by simp)];split<;>simp
 have:=h.2.2.2.2;omega
theorem ka {d:aL}{f to:Int}{e:aJ}(h:e∈d.aw f to):e.c=d.kc/\e.u=d.ku/\e.e=e.b+d.ln/\e.b∈d.tm f to/\e.k=d.kd/\d.kd≠0:=by
 unfold aw sy at h;split at h
 ·cases h
 rename_i h0;unfold mm at h;obtain⟨x,N,rfl⟩:=List.mem_map.1 h;exact⟨rfl,rfl,rfl,N,rfl,h0⟩
theorem Lm (d:aL)(f to f' to':Int)(p:Int->Bool)(h:(d.tm f to).filter p=d.tm f' to')(q:aJ->Bool)(hq:∀x,q ⟨x,x+d.ln,d.kc,d.ku,d.kd⟩=p x):(d.aw f to).filter q=d.aw f' to':=by
 unfold aw sy;split
 ·rfl
 unfold mm;rw[List.filter_map,<-h];congr 1;apply List.filter_congr;intro x _;exact hq x
theorem wQ {d:aL}(h:d.ok){f to:Int}(t1:to<=7258118400):(d.aw f to).Pairwise λx y=>bP x y≠0:=by
 unfold aw sy;split
 ·exact Ξ
 unfold mm;rw[ϧ];refine(rV h t1).imp λ{a b} Y3 e=>?_;have:=(ir.1 e).1;simp at this;omega
theorem QW {d:aL}(h:d.ok){f m to:Int}(G:f<=m)(A:m<=to)(t1:to<=7258118400):d.aw f to=d.aw f m++d.aw m to:=by
 unfold aw sy;split
 ·rfl
 unfold mm;rw[WO h G A t1,Ν]
theorem WQ {d:aL}(h:d.ok){f hi to:Int}(A:hi<=to)(t1:to<=7258118400):qj hi (d.aw f to)=d.aw f hi:=Lm d f to f hi _ (adz h A t1) _ λ_=>rfl
theorem Tq {d:aL}(h:d.ok):d.aw 0 0=[]:=by
 refine List.eq_nil_iff_forall_not_mem.2 λe he=>?_;have:=(jj h (by omega)).1 (ka he).2.2.2.1;omega
theorem WR {d:aL}(h:d.ok){f to:Int}(t1:to<=7258118400):∀e∈d.aw f to,0<=e.b:=λ_ he=>QV h ((jj h t1).1 (ka he).2.2.2.1).1
theorem WS {d:aL}(h:d.ok){f t hz:Int}(A:t<=hz)(t1:hz<=7258118400)(ns:List ByteArray):iP ns (du f t (d.aw 0 hz))=if ο ns d.kc then d.Ll f t else[]:=by
 have S:du f t (d.aw 0 hz)=d.aw (f-d.ln+1) t:=Lm d 0 hz (f-d.ln+1) t _ (adA h A t1) _ λ_=>rfl;rw[S];unfold iP;cases hc:ο ns d.kc with
 |true=>
  rw[if_pos rfl,List.filter_eq_self.2 λe he=>by rw[(ka he).1];exact hc];unfold aw sy Ll kd;split
  ·rfl
  unfold mm;rw[τ];rfl
 |false=>
  rw[if_neg (by simp),List.filter_eq_nil_iff.2 λe he=>by rw[(ka he).1,hc];simp];rfl
end aL
def nR (ds:List aL):Prop:=ds.Pairwise λx y=>¬(x.kc=y.kc/\x.ku=y.ku)
theorem adC {ds:List aL}(Y:nR ds)(ho:∀d∈ds,d.ok){f to:Int}(t1:to<=7258118400):(ds.flatMap (·.aw f to)).Pairwise λx y=>bP x y≠0:=by
 induction ds with
 |nil=>exact Ξ
 |cons d ds ih=>
  unfold nR at Y;rw[Ϧ]at Y;rw[ι,Ϣ];refine⟨aL.wQ (ho d (by simp)) t1,ih Y.2 (λx N=>ho x (by simp[N])),λa ha b U e=>?_⟩;obtain⟨y,hy,U⟩:=List.mem_flatMap.1 U;obtain⟨a1,a2,_⟩:=aL.ka ha;obtain⟨b1,b2,_⟩:=aL.ka U;obtain⟨_,S,e2⟩:=ir.1 e;exact Y.1 y hy ⟨by rw[<-a1,S,b1],by rw[<-a2,e2,b2]⟩
theorem other_key {ds:List aL}{d:aL}{f to f' to':Int}(hn:∀x∈ds,¬(d.kc=x.kc/\d.ku=x.ku)){a b:aJ}(ha:a∈d.aw f to)(U:b∈ds.flatMap (·.aw f' to')):bP a b≠0:=λe=>by
 obtain⟨y,hy,U⟩:=List.mem_flatMap.1 U;obtain⟨a1,a2,_⟩:=aL.ka ha;obtain⟨b1,b2,_⟩:=aL.ka U;obtain⟨_,S,e2⟩:=ir.1 e;exact hn y hy ⟨by rw[<-a1,S,b1],by rw[<-a2,e2,b2]⟩
theorem Tr {ds:List aL}(ho:∀d∈ds,d.ok){f m to:Int}(G:f<=m)(A:m<=to)(t1:to<=7258118400):(ds.flatMap (·.aw f to)).Perm (ds.flatMap (·.aw m to)++ds.flatMap (·.aw f m)):=by
 induction ds with
 |nil=>exact ϥ _
 |cons d ds ih=>
  rw[ι,ι,ι,aL.QW (ho d (by simp)) G A t1];have h:=ih (λx N=>ho x (by simp[N]));rw[Γ,Γ];refine Η _ _ _|>.trans ?_;refine Β _ ?_;refine(Β _ h).trans ?_;exact Η _ _ _
theorem abj {ds:List aL}(ho:∀d∈ds,d.ok){f hi to:Int}(A:hi<=to)(t1:to<=7258118400):qj hi (ds.flatMap (·.aw f to))=ds.flatMap (·.aw f hi):=by
 induction ds with
 |nil=>rfl
 |cons d ds ih=>
  have h:=ih (λx N=>ho x (by simp[N]));unfold qj at h⊢;rw[ι,ι,Ι,h];congr 1;exact aL.WQ (ho d (by simp)) A t1
theorem all_zero {ds:List aL}(ho:∀d∈ds,d.ok):ds.flatMap (·.aw 0 0)=[]:=by
 induction ds with
 |nil=>rfl
 |cons d ds ih=>rw[ι,aL.Tq (ho d (by simp)),ih (λx N=>ho x (by simp[N]))];rfl
def uw (ns:List ByteArray)(ds:List aL)(f t:Int):List lY:=(ds.filter λd=>ο ns d.kc).flatMap (·.Ll f t)
theorem WT (ns:List ByteArray)(x y:List aJ):iP ns (x++y)=iP ns x++iP ns y:=by unfold iP;rw[Ι,Ν]
theorem WU {ds:List aL}(ho:∀d∈ds,d.ok){f t hz:Int}(A:t<=hz)(t1:hz<=7258118400)(ns:List ByteArray):iP ns (du f t (ds.flatMap (·.aw 0 hz)))=uw ns ds f t:=by
 unfold uw
 induction ds with
 |nil=>rfl
 |cons d ds ih=>
  rw[ι,OP,WT,ih (λx N=>ho x (by simp[N])),aL.WS (ho d (by simp)) A t1,ϋ];cases ο ns d.kc<;>simp
theorem WV {ds:List aL}{es:List aJ}(ho:∀d∈ds,d.ok){f t hz:Int}(A:t<=hz)(t1:hz<=7258118400)(ns:List ByteArray)(J:es.Perm (ds.flatMap (·.aw 0 hz))):(iP ns (du f t es)).Perm (uw ns ds f t):=by
 rw[<-WU ho A t1 ns];unfold iP du;exact((J.filter _).filter _).map _
theorem Ln {cs lB:List lY}(h:cs.Perm lB)(p:lY->Bool):cs.any p=lB.any p:=by
 rw[Bool.eq_iff_iff,ό,ό];exact⟨λ⟨x,a,b⟩=>⟨x,h.mem_iff.1 a,b⟩,λ⟨x,a,b⟩=>⟨x,h.mem_iff.2 a,b⟩⟩
theorem WW {cs lB:List lY}(h:cs.Perm lB):Ix cs=Ix lB:=by
 funext s;unfold Ix;rw[Ln h,Ln h]
theorem OQ {ds:List aL}(ho:∀d∈ds,d.ok){f t:Int}(t1:t<=7258118400)(ns:List ByteArray):∀c∈uw ns ds f t,(c.b<c.e/\c.b<t/\f<c.e)/\(c.k=1\/c.k=2):=by
 intro c hc;unfold uw at hc;obtain⟨d,hd,hc⟩:=List.mem_flatMap.1 hc;have cR:=ho d (List.mem_filter.1 hd).1;unfold aL.Ll at hc;split at hc
 ·cases hc
 rename_i h0;obtain⟨x,N,rfl⟩:=List.mem_map.1 hc;have G:=(aL.jj cR t1).1 N;have A:=cR.2.2.1.1;refine⟨⟨?_,?_,?_⟩,?_⟩
 ·show x<x+d.ln;omega
 ·show x<t;omega
 ·show f<x+d.ln;omega
 unfold aL.kd gT at h0⊢;show(if _ then _ else _:Int)=1\/(if _ then _ else _:Int)=2;split at h0
 ·exact absurd rfl h0
 rename_i hq;rw[if_neg hq];split
 ·exact .inl rfl
 exact .inr rfl
def vo (ns:List ByteArray)(ds:List aL)(f t:Int)(s:ByteArray):Prop:=∃L,nt (Ix (uw ns ds f t)) t f L/\s=rQ f t L
theorem vo.uniq {ns:List ByteArray}{ds:List aL}{f t:Int}{s s':ByteArray}(h:vo ns ds f t s)(h':vo ns ds f t s'):s=s':=by
 obtain⟨L,G,rfl⟩:=h;obtain⟨L',A,rfl⟩:=h';rw[nt.uniq (λ_ _ _=>rfl) G A]
theorem abk {ns:List ByteArray}{ds:List aL}{f t:Int}{cs:List lY}{es:List eC}(ho:∀d∈ds,d.ok)(wR:f<t)(t1:t<=7258118400)(hc:cs.Perm (uw ns ds f t))(J:es.Perm (eT f t cs))(hs:es.Pairwise λx y=>x.t<=y.t):vo ns ds f t (rQ f t (fU 0 0 f 0 es)):=by
 refine⟨_,?_,rfl⟩;rw[<-WW hc];exact QX wR (λc h=>(OQ ho t1 ns c (hc.mem_iff.1 h)).1) J hs
def iQ (c u:ByteArray)(d:aL):Bool:=decide (d.kc=c)&&decide (d.ku=u)
theorem kQ {c u:ByteArray}{d:aL}:iQ c u d=true↔d.kc=c/\d.ku=u:=by unfold iQ;simp
def mD (c u:ByteArray)(ds:List aL):Bool:=ds.any (iQ c u)
def nu (d:aL)(ds:List aL):List aL:=if mD d.kc d.ku ds then ds.map λx=>if iQ d.kc d.ku x then d else x else ds++[d]
def iR (c u:ByteArray)(ds:List aL):List aL:=ds.filter λx=>!iQ c u x
def eU (ds:List aL)(h:Int):Nat:=(ds.flatMap (·.aw 0 h)).length
theorem nR.tail {d:aL}{ds:List aL}(h:nR (d::ds)):nR ds:=(List.pairwise_cons.1 h).2
theorem nR.head {d x:aL}{ds:List aL}(h:nR (d::ds))(N:x∈ds):¬(d.kc=x.kc/\d.ku=x.ku):=(List.pairwise_cons.1 h).1 x N
theorem zT {c u:ByteArray}{ds:List aL}(h:∀x∈ds,iQ c u x=false):iR c u ds=ds:=List.filter_eq_self.2 λx N=>by rw[h x N];rfl
theorem zU {d:aL}{ds:List aL}(h:nR (d::ds)):iR d.kc d.ku (d::ds)=ds:=by
 have G:iQ d.kc d.ku d=true:=kQ.2 ⟨rfl,rfl⟩;unfold iR;rw[ϋ,G];exact zT λx N=>by
  cases hs:iQ d.kc d.ku x with
  |false=>rfl
  |true=>exact absurd ⟨(kQ.1 hs).1.symm,(kQ.1 hs).2.symm⟩ (h.head N)
theorem zV {c u:ByteArray}{d:aL}{ds:List aL}(h:iQ c u d=false):iR c u (d::ds)=d::iR c u ds:=by
 unfold iR;rw[ϋ,h];rfl
theorem Iy {d:aL}{ds:List aL}{f:aL->List aJ}(h:nR ds):((nu d ds).flatMap f).Perm (f d++(iR d.kc d.ku ds).flatMap f):=by
 unfold nu;cases hh:mD d.kc d.ku ds with
 |false=>
  rw[if_neg (by simp),zT λx N=>by
   cases hs:iQ d.kc d.ku x with
   |false=>rfl
   |true=>rw[mD,List.any_eq_false]at hh;exact absurd hs (hh x N),φ]
  simp only[ι,List.flatMap_nil,ϙ];exact List.perm_append_comm
 |true=>
  rw[if_pos rfl]
  induction ds with
  |nil=>cases hh
  |cons x ds ih=>
   cases N:iQ d.kc d.ku x with
   |true=>
    obtain⟨S,e2⟩:=kQ.1 N;have e3:iR d.kc d.ku (x::ds)=ds:=by rw[<-S,<-e2];exact zU h
    have e4:(ds.map λx=>if iQ d.kc d.ku x then d else x)=ds:=by
     conv=>rhs;rw[<-List.map_id ds]
     apply Τ;intro y hy;rw[if_neg]
     ·rfl
     intro hs;obtain⟨a1,a2⟩:=kQ.1 hs;exact h.head hy ⟨by rw[S,a1],by rw[e2,a2]⟩
    rw[π,e3,e4,if_pos N,ι]
   |false=>
    have A:mD d.kc d.ku ds=true:=by unfold mD at hh⊢;rw[ϝ,N]at hh;simpa using hh
    rw[π,if_neg (by rw[N];simp),zV N,ι,ι];refine(Β _ (ih h.tail A)).trans ?_;exact Η _ _ _
theorem zW (e:aJ):bP e e=0:=ir.2 ⟨rfl,rfl,rfl⟩
theorem BK {c u:ByteArray}{f to:Int}{ds:List aL}(Y:nR ds){d:aL}(hd:d∈ds)(hs:iQ c u d=true):fy (d.aw f to) (ds.flatMap (·.aw f to))=(iR c u ds).flatMap (·.aw f to):=by
 obtain⟨S,e2⟩:=kQ.1 hs;have aX:fy (d.aw f to) (d.aw f to)=[]:=by
  unfold fy;rw[Ϡ];intro y hy;rw[ύ];exact λh=>of_decide_eq_true (h y hy) (zW y)
 have adD:∀OR:List aL,(∀x∈OR,¬(d.kc=x.kc/\d.ku=x.ku))->fy (d.aw f to) (OR.flatMap (·.aw f to))=OR.flatMap (·.aw f to):=λOR hn=>by
  unfold fy;rw[List.filter_eq_self];intro y hy;simp only[ύ,decide_eq_true_eq];exact λx N=>other_key hn N hy
 have akk:∀a b:List aJ,fy (d.aw f to) (a++b)=fy (d.aw f to) a++fy (d.aw f to) b:=λa b=>Ι _ _
 induction ds with
 |nil=>cases hd
 |cons x ds ih=>
  rw[ι,akk];rcases List.mem_cons.1 hd with rfl|hd
  ·rw[aX,<-S,<-e2,zU Y,adD ds λy hy=>Y.head hy];rfl
  have N:¬(d.kc=x.kc/\d.ku=x.ku):=λ⟨a,b⟩=>Y.head hd ⟨a.symm,b.symm⟩;have dY:iQ c u x=false:=by
   cases h:iQ c u x with
   |false=>rfl
   |true=>obtain⟨a,b⟩:=kQ.1 h;exact absurd ⟨by rw[S,a],by rw[e2,b]⟩ N
  have:=adD [x] (by simpa using N);simp only[ι,List.flatMap_nil,ϙ]at this;rw[this,ih Y.tail hd,zV dY,ι]
theorem BL {aqw a b:List aJ}(h:a.Perm b):(fy aqw a).Perm (fy aqw b):=h.filter _
theorem te {c u:ByteArray}{ds:List aL}{x:aL}(h:x∈iR c u ds):x∈ds/\¬(c=x.kc/\u=x.ku):=by
 obtain⟨G,A⟩:=List.mem_filter.1 h;refine⟨G,λ⟨a,b⟩=>?_⟩;rw[kQ.2 ⟨a.symm,b.symm⟩]at A;cases A
theorem abl {d:aL}{ds:List aL}(h:∀x∈ds,x.ok)(hd:d.ok):∀x∈nu d ds,x.ok:=by
 intro x N;unfold nu at N;split at N
 ·obtain⟨y,hy,rfl⟩:=List.mem_map.1 N;split
  ·exact hd
  exact h y hy
 rcases List.mem_append.1 N with N|N
 ·exact h x N
 rw[List.mem_singleton.1 N];exact hd
theorem QY {ds:List aL}(ho:∀d∈ds,d.ok):eU ds 0=0:=by unfold eU;rw[all_zero ho];rfl
open Go.RowKit Go.Sort
theorem dR.later {xs:List (Array Value)}{E:ak}{w w1:κ}{e:ϡ}{I:κ}(U:Below w.heap.size w w1)(h:dR xs E w1 e I):dR xs E w e I:=by
 obtain⟨g,lb,R,G,A,M,h4,h5⟩:=h;exact⟨g,lb,R,G,A,λk Y=>⟨(M k Y).1,(M k Y).2.imp id λh=>Λ U.size h⟩,h4,U.trans (h5.mono U.size)⟩
theorem Xa (u:ByteArray)(st ln:Int)(hr:Bool)(r:aE)(m md wk pl:Value)(tx:ByteArray)(aI aH:Value)(ex xt:List Int)(tr:Bool)(k:Int)(f to:Int)(w:κ)(K:jX w hr r m md wk pl aI aH ex xt)
 (s0:0<=st)(s1:st<=7258118400)(l0:1<=ln)(l1:ln<=10000000)(f0:0<=f)(f1:f<=7258118400)(t0:0<=to)(t1:to<=7258118400)(ox:∀t∈fb hr r st (f-ln+1) to ex xt,-100000000000<=t/\t<=100000000000):
 Ζ prog 100 #[.agg (cE u st ln hr r m md wk pl tx aI aH tr k).toArray,V Z f,V Z to] w (dR (o7 ln (fb hr r st (f-ln+1) to ex xt)) (kP m md wk pl aI aH) w):=by
 have al:Below w.heap.size w (w.alloc (θ (cE u st ln hr r m md wk pl tx aI aH tr k).toArray 99)):=(ρ _ _).alloc (ξ _) _;have wC:=X.new w (cE u st ln hr r m md wk pl tx aI aH tr k) 99;have C:=H (sA u st ln hr r m md wk pl tx aI aH ex xt tr k (f-ln+1) to _ (K.on al) s0 s1 (by omega) l1 (by omega) (by omega) t0 t1 ox);have k2:=wC.cell (k:=2) rfl;have hw1:IntKind.i64.wrap (f-ln)=f-ln:=gI (by omega) (by omega);have DV:IntKind.i64.wrap (f-ln+1)=f-ln+1:=gI (by omega) (by omega);have fe:(cE u st ln hr r m md wk pl tx aI aH tr k).length=18:=rfl;have HB:=H al;clear ox K al;generalize o7 ln (fb hr r st (f-ln+1) to ex xt)=XS at *
 generalize cE u st ln hr r m md wk pl tx aI aH tr k=EV at *
 go_enter func100,ntmps100;go_wp2_with (first
  |(refine uo rfl rfl rfl wC underlying99 rfl (by rw[fe];exact fT) ?_)
  |(go_at_call 56;refine(C.out).mono ?_;rintro E W h9;obtain⟨g,lb,R,rfl,h9'⟩:=h9;replace h9':=H h9'))
 go_ret;exact dR.later HB.out ⟨g,lb,R,rfl,h9'.out⟩
end Go.Proofs.YtchdfdmjihnhkaaGreatDoor
namespace Go.Proofs.YtchdfdmjihnhkaaGreatDoor
open Tryz
open Go.RowKit Go.Sort
attribute [local go_sem] Oper.semAt_some
attribute [local go_sem] bK aU
attribute [local simp] bK aU
def qp (e:List Value):Array Value:=#[.agg e.toArray]
theorem Cx {x y:List Value}(h:qp x=qp y):x=y:=by unfold qp at h;simpa using h
theorem nZ {α β:Type}{g:α->β}(hg:∀{x y},g x=g y->x=y):∀{a b:List α},a.map g=b.map g->a=b
 |[],[],_=>rfl
 |[],_::_,h=>by cases h
 |_::_,[],h=>by cases h
 |x::a,y::b,h=>by
  rw[π,π]at h;injection h with G A
  rw[hg G,nZ hg A]
theorem xR {α β:Type}{g:α->β}(hg:∀{x y},g x=g y->x=y):∀{es fs:List α} {x:β} {gi:List β},es.map g++x::gi=fs.map g->∃e r,fs=es++e::r/\x=g e
 |[],[],_,_,h=>by cases h
 |[],e::r,_,_,h=>by
  have h':=List.cons.inj (show _::_=g e::r.map g from h);exact⟨e,r,rfl,h'.1⟩
 |_::_,[],_,_,h=>by cases h
 |a::es,b::fs,x,gi,h=>by
  have h':g a::(es.map g++x::gi)=g b::fs.map g:=h;injection h' with G A
  obtain⟨e,r,rfl,N⟩:=xR hg A;exact⟨e,r,by rw[hg G];rfl,N⟩
def zX (x:Int×Int):Array Value:=#[.agg #[V Z x.1,V Z x.2]]
theorem Gj {x y:Int×Int}(h:zX x=zX y):x=y:=by
 obtain⟨a,b⟩:=x;obtain⟨c,d⟩:=y;unfold zX at h;simp at h;rw[h.1,h.2]
def jA (k:Int)(s:List (Int×Int)):List lY:=s.map λx=>⟨k,x.1,x.2⟩
def EC (p:Nat)(f t:Int)(aqw:List Value->List lY)(pre:List (Array Value)):aQ:=λD W=>∃es:List (List Value),pre=es.map qp/\SJ p f t (eT f t (es.flatMap aqw)) D W
theorem EC.cQ {p:Nat}{f t:Int}{aqw:List Value->List lY}{pre:List (Array Value)}{D:ak}{W:κ}(hD:∀k,D k->k<W.heap.size)(h:EC p f t aqw pre D W):On D (EC p f t aqw pre) W:=by
 obtain⟨es,G,A⟩:=h;exact⟨hD,λW2 Y=>⟨es,G,(SJ.cQ hD A).2 W2 Y⟩⟩
def OT (p:Nat)(f t:Int)(aqp:List lY)(k:Int)(pre:List (Array Value)):aQ:=λD W=>∃s:List (Int×Int),pre=s.map zX/\SJ p f t (eT f t (aqp++jA k s)) D W
theorem OT.cQ {p:Nat}{f t:Int}{aqp:List lY}{k:Int}{pre:List (Array Value)}{D:ak}{W:κ}(hD:∀k,D k->k<W.heap.size)(h:OT p f t aqp k pre D W):On D (OT p f t aqp k pre) W:=by
 obtain⟨es,G,A⟩:=h;exact⟨hD,λW2 Y=>⟨es,G,(SJ.cQ hD A).2 W2 Y⟩⟩
theorem Xb (aqt:Array Value)(n:Nat)(v:Value):Array.foldl (λt (x:Nat×Value)=>match x with|(p,v)=>t.setIfInBounds p v) aqt (#[n].zip #[v])=aqt.setIfInBounds n v:=by simp
theorem Lo (s cp b p:Nat)(f t:Int)(v0 iv nv:Value)(ns:List ByteArray)(ks:List KE)(kd:List Value->Int)(sp:List Value->List (Int×Int))(Eb:ak)(w:κ)(hm:jf w b ks)(hc:X w cp [v0,.map (some b)] 67)(Ez:X w s [ε (some ⟨cp,0,none⟩),iv] 49)
 (hn:iJ w nv ns)(S5:ns.length<=9223372036854775807)(gu:∀k∈ks,k.ev.length=18/\∀v∈k.ev,v.oneCell'=true)(oZ:gL w p f t (ζ none 0 0) [])(lx:p≠cp/\p≠b)(Ed:nv.ownBlock≠some p)
 (hK:∀k∈ks,∀wr:κ,w.heap.size<=wr.heap.size->(∀j,Eb j->wr.heap[j]?=w.heap[j]?)->Ζ prog 99 #[.agg k.ev.toArray] wr λe I=>e=δ (V Z (kd k.ev))/\Below wr.heap.size wr I)
 (hO:∀k∈ks,kd k.ev≠0->∀wr:κ,w.heap.size<=wr.heap.size->(∀j,Eb j->wr.heap[j]?=w.heap[j]?)->Ζ prog 100 #[.agg k.ev.toArray,V Z f,V Z t] wr (dR ((sp k.ev).map zX) Eb wr))
 (ly:∀j,Eb j->j<w.heap.size/\j≠p)(hT:∀dI:List KE,dI.Perm (ks.filter λk=>ο ns k.kc)->2*((dI.map KE.ev).flatMap λe=>if kd e=0 then[]else jA (kd e) (sp e)).length+2<=16777216):
 Ζ prog 66 #[ε (some ⟨s,0,none⟩),ε (some ⟨p,0,none⟩),nv,V Z f,V Z t] w λE I=>∃dI:List KE,dI.Perm (ks.filter λk=>ο ns k.kc)/\CvP p f t (eT f t ((dI.map KE.ev).flatMap λe=>if kd e=0 then[]else jA (kd e) (sp e))) w E I:=by
 obtain⟨an,cn,lW⟩:=hn.sl;have ra:=kx w [ε (some ⟨p,0,none⟩)] 113 (θ #[V Z f] 3) (θ #[V Z t] 3);have rf:=ky w (θ #[ε (some ⟨p,0,none⟩)] 113) [V Z f] 3 (θ #[V Z t] 3);have rt:=kz w (θ #[ε (some ⟨p,0,none⟩)] 113) (θ #[V Z f] 3) [V Z t] 3;have al:=gJ w (θ #[ε (some ⟨p,0,none⟩)] 113) (θ #[V Z f] 3) (θ #[V Z t] 3);have gX:((((w.alloc (θ #[ε (some ⟨p,0,none⟩)] 113)).alloc (θ #[V Z f] 3)).alloc (θ #[V Z t] 3))).heap.size=w.heap.size+3:=by simp
 have pT:=oZ.row.lt;have lU:∀args w,(callFunc 153 args).run prog w=.ok (.enter 153 args) w:=enters_of func153 (by kernel_rfl) rfl;have hS:=H (oZ.on al);have k0:=(Ez.on al).cell (k:=0) rfl;have dE:=hc.lt;have hml:=hm.lt;have HC:=H (hc.on al);have HM:=H (hm.keep (al.block b hml));have oD:∀j,nv.ownBlock=some j->j<w.heap.size:=λj hj=>hn.lt hj;have HN:=H (hn.keep λj hj=>al.block j (oD j hj));have HK:=H hK;have HO:=H hO;have HV:=H gu;have HTt:=H hT;rw[lW]at HN Ed oD;rw[lW];clear hm hc Ez hn oZ hK hO gu hT lW;obtain⟨aqw,hX⟩:∃aqw:List Value->List lY,aqw=λe=>if kd e=0 then[]else jA (kd e) (sp e):=⟨_,rfl⟩;rw[<-hX]at HTt⊢;replace hX:=H hX;refine(callsIn_wide (n:=0)).1 ?_;refine di func66 rfl ?_;simp only[ntmps66,Ω,Δ,Ϙ,ϟ,Ϟ,Ρ,Ο,ϊ,Υ,Μ,Κ];refine bO λaqy hK=>bQ ?_;gi_wp2_with fail;generalize(((w.alloc (θ #[ε (some ⟨p,0,none⟩)] 113)).alloc (θ #[V Z f] 3)).alloc (θ #[V Z t] 3))=W2 at *
 replace gX:=H gX;refine bO λaqy hK=>bQ ?_;gi_wp2_with fail;refine(callsIn_wide.2 (JB cp an ns.length cn W2)).mono ?_;rintro E W3 ⟨rfl,po⟩;clear k0;have qc:X W3 W2.heap.size [ε (some ⟨cp,0,none⟩)] 44:=by rw[po];exact kC W2 [ε (some ⟨cp,0,none⟩)] 44 (θ #[ζ an ns.length cn] 55)
 have qn:X W3 (W2.heap.size+1) [ζ an ns.length cn] 55:=by rw[po];exact kD W2 [ζ an ns.length cn] 55 (θ #[ε (some ⟨cp,0,none⟩)] 44)
 have aP:Below W2.heap.size W2 W3:=by rw[po];exact mu W2 (θ #[ε (some ⟨cp,0,none⟩)] 44) (θ #[ζ an ns.length cn] 55)
 replace po:=H po;have Tm:w.heap.size+3<=W2.heap.size:=by have:=gX.out;omega
 have hit:=KX ks ns (ζ an ns.length cn) cp b W2.heap.size (W2.heap.size+1) v0 W3 (HM.out.keep (aP.block b (by omega))) (HC.out.on aP) qc qn (HN.out.keep λj hj=>aP.block j (by have:=oD j hj;omega)) S5 HV.out;have ZL:=hS.out.on aP;replace ra:=ra.on aP;replace rf:=rf.on aP;replace rt:=rt.on aP;have tO:=aP.size;have BG:=qc.lt;have hq2:=qn.lt;have eM:=H (al.trans (aP.mono al.size));clear HM HC HN qc qn aP al hS;gi_wp2_with fail;refine gj ?_;refine Ig (gf:=153) func66 ?g lU hit (ξ _) (λ_ _=>rfl) (λk Y=>by
  rcases Y with rfl|rfl|rfl|rfl|Y
  ·omega
  ·omega
  ·exact BG
  ·exact hq2
  have:=oD k Y;omega)
  (λk=>k=p) (λk Y bV=>by
   subst Y;rcases bV with h|h|h|h|h
   ·exact lx.1 h
   ·exact lx.2 h
   ·omega
   ·omega
   exact Ed h) (EC p f t aqw) (λ_ _ _=>False) (λ_ _ _=>False) ?ps ?start ?round ?done ?stop ?pan
 case g=>rfl
 case ps=>rintro xs ⟨dI,_,rfl⟩ x N;obtain⟨d,_,rfl⟩:=List.mem_map.1 N;rfl
 case start=>exact EC.cQ (λk Y=>by omega) ⟨[],rfl,rfl,ζ none 0 0,λk Y=>by simp[μ]at Y,by simpa[eT]using ZL⟩
 case stop=>
  rintro c W4 ⟨N,D,cx,_,aG⟩ hs bM;exact aG.out.elim
 case pan=>
  rintro c W4 ⟨N,D,cx,_,aG⟩ hs bM;exact aG.out.elim
 case done=>
  rintro xs ⟨dI,J4,rfl⟩ W4 ⟨N,D,cx,_,aG⟩ nC bM;obtain⟨es,Hr,_,v,fS,sN⟩:=aG.out;have o4:es=dI.map KE.ev:=nZ (g:=qp) Cx (by rw[<-Hr,τ];rfl);subst o4;have zz:∀k,v.ownBlock=some k->k≠p/\W3.heap.size+2<=k:=λk Y=>by
   have Tn:k≠p:=λe=>sN.ne (by rw[Y,e]);exact⟨Tn,(cx k (fS k Y)).resolve_left Tn⟩
  refine⟨by simp,.inl ⟨_,_,rfl,run_takeDeferred bM,?_⟩⟩;refine⟨_,results_none rfl _ _ _,dI,J4,⟨_,rfl⟩,v,⟨sN.row.keep (ω (by omega)),dB sN.own λg hg _=>ω (by have:=(zz g hg).2;omega),sN.ne⟩,(((aj.aq eM.out).aK N).put (.inr (by omega)) _),λk Y=>by have:=(zz k Y).2;omega⟩
 case round=>
  intro BA i x N W4 D yM nC dT eh aG aqy hK;obtain⟨es,hi,_⟩:=aG.out;subst hi;obtain⟨gi,dI,J4,kg⟩:=N;have adG:es.map qp++x::gi=(dI.map KE.ev).map qp:=by rw[kg,τ];rfl
  obtain⟨ev,er,oH,rfl⟩:=xR Cx adG;have vP:∃k∈ks,k.ev=ev:=by
   have:ev∈dI.map KE.ev:=by rw[oH];simp
   obtain⟨k,Y,rfl⟩:=List.mem_map.1 this;exact⟨k,(List.mem_filter.1 (J4.mem_iff.1 Y)).1,rfl⟩
  obtain⟨k,Ij,rfl⟩:=vP;obtain⟨fe,lM⟩:=HV.out k Ij;have HKk:=H (HK.out k Ij);have HOk:=H (HO.out k Ij);have Xc:=HTt.out dI J4;rw[oH]at Xc;clear kg adG HK HO HV HTt;unfold qp;gi_upto_region 2 with fail;rw[Xb];simp only[Θ,Χ,Φ];gi_wp2_with (first
   |(refine ix (λ_=>trivial) (λ_ h=>by cases h) rfl (fR rfl _ _) ?_;intro w6 yR pU cL)
   |(refine iy (λ_=>trivial) rfl rfl rfl rfl yR (by rw[fe];rfl) (by rw[fe];exact fT) lM ?_;intro w7 yS iH))
  simp only[Act.put,Θ,Χ,Φ];have Lc:Below W4.heap.size W4 w7:=cL.trans (iH.below (by omega) (λk Y=>by omega));have hz7:=iH.size;clear yR cL iH;refine hK _ _ (λb=>D b\/b=W4.heap.size) Lc (λb U=>U.imp id λh=>by omega) (λb U=>.inl U) (λb U=>U.elim (λh=>by have:=aG.1 b h;omega) (λh=>by omega)) ?_;intro W8 ui nH hs8 fV OC;obtain⟨r8,fV⟩:=fV;have q6:=yS.keep (ui _ (.inr rfl));have uj:=aG.on (W':=W8) λb U=>(ui b (.inl U)).trans (Lc.block b (aG.1 b U));have zP:∀b,D b\/b=W4.heap.size->b<W8.heap.size:=λb U=>by
   rcases U with h|h
   ·exact uj.1 b h
   have:=q6.lt;omega
  have zG:∀j,Eb j->W8.heap[j]?=w.heap[j]?:=λj hj=>(nH.block j (by have:=(ly j hj).1;omega) (ly j hj).2).trans (eM.out.block j (ly j hj).1);have Zw:w.heap.size<=W8.heap.size:=by omega
  have ra8:=ra.aM nH (by omega);have rf8:=rf.aM nH (by omega);have rt8:=rt.aM nH (by omega);obtain⟨Y6,hi,Ej,v,fS,sN⟩:=uj.out;have o4:=nZ (g:=qp) Cx hi;subst o4;clear hK ui hit aG uj yS hi ra rf rt yM ZL;refine oG ?_;refine wP λaqy hK=>rR ?_;gi_wp2_with (refine J3 rfl rfl rfl q6 fe (λ_=>trivial) ?_);refine(χ _ (callsIn_wide.2 (HKk.out W8 Zw zG))).mono ?_;rintro e W9 ⟨rfl,rT⟩;clear HKk;gi_wp2_with fail;have r6:X (W9.alloc (θ #[V Z (kd k.ev)] 142)) W9.heap.size [V Z (kd k.ev)] 142:=X.new W9 [V Z (kd k.ev)] 142;have lN:Below W9.heap.size W9 (W9.alloc (θ #[V Z (kd k.ev)] 142)):=(ρ _ _).alloc (ξ _) _;have Zc:(W9.alloc (θ #[V Z (kd k.ev)] 142)).heap.size=W9.heap.size+1:=by simp
  generalize W9.alloc (θ #[V Z (kd k.ev)] 142)=WA at *
  have gp:=rT.trans (lN.mono rT.size);have hz9:=rT.size;replace Zc:=H Zc;clear rT lN;have q6A:=q6.on gp;have hSA:=sN.on gp;have raA:=ra8.on gp;have rfA:=rf8.on gp;have rtA:=rt8.on gp;have ZM:WA.heap[W3.heap.size+1]?=some (.loop r8):=(gp.block _ (by omega)).trans fV;clear q6 ra8 rf8 rt8 fV;have c6:=r6.cell (k:=0) rfl;have hX1:(es++[k.ev]).flatMap aqw=es.flatMap aqw++aqw k.ev:=by rw[φ,List.flatMap_singleton]
  have eX:=congrFun hX.out k.ev;refine wP λK1 fh=>rR ?_;by_cases nE:kd k.ev=0
  case pos=>
   have Ts:aqw k.ev=[]:=by rw[eX,if_pos nE]
   rw[nE]at c6;have fG:=H (show aO (λb=>D b\/b=W4.heap.size) W8.heap.size (EC p f t aqw (List.map qp es++[qp k.ev])) W8 WA from
    ⟨aj.aq gp,_,λ_ h=>.inl h,λ_ h=>h,EC.cQ (λb U=>by have:=zP b U;have:=gp.size;omega) ⟨es++[k.ev],by simp,.inl Ej,v,λj hj=>.inl (fS j hj),by rw[hX1,Ts,ϙ];exact hSA⟩⟩)
   clear HOk fh r6 eX Ts Xc;gi_wp2_with fail;exact fG.out
  case neg=>
   have Ts:aqw k.ev=jA (kd k.ev) (sp k.ev):=by rw[eX,if_neg nE]
   have Hs:(kd k.ev==0)=false:=by simp[nE]
   clear eX;gi_wp2_with fail;refine wP λaqy hK=>rR ?_;have y2:=rfA.cell (k:=0) rfl;have y3:=rtA.cell (k:=0) rfl;gi_wp2_with (refine J3 rfl rfl rfl q6A fe (λ_=>trivial) ?_);have hEA:∀j,Eb j->WA.heap[j]?=w.heap[j]?:=λj hj=>(gp.block j (by have:=(ly j hj).1;omega)).trans (zG j hj);refine(χ _ (callsIn_wide.2 (HOk.out nE WA (Λ Zw gp.size) hEA))).mono ?_;rintro e WB ⟨g2,lb2,R2,rfl,Ld,Ew,Le,ux⟩;have hzB:=ux.size;have ags:WB.heap[W3.heap.size+1]?=some (.loop r8):=(ux.block _ (by have:=gp.size;omega)).trans ZM;have D4:=hSA.on ux;have raB:=raA.on ux;have r6B:=r6.on ux;have aoj:=gp.size;have akl:=gp.trans (ux.mono gp.size);clear y2 y3 HOk ZM c6 hSA raA rfA rtA r6 q6A zG hEA sN gp;gi_wp2_with fail;refine oG ?_;refine Ie (gf:=g2) (lb:=lb2) func66 ?ig Le Ld.n (ξ _) (λ_ _=>rfl) (λk Y=>(Ew k Y).1) ags
    (λb=>D b\/b=W4.heap.size) (λb U fA=>by
     rcases(Ew b fA).2 with h|h
     ·rcases U with U|U
      ·rcases eh b U with h'|h'
       ·exact(ly b h).2 h'
       have:=(ly b h).1;omega
      have:=(ly b h).1;omega
     have:=zP b U;omega) (OT p f t (es.flatMap aqw) (kd k.ev)) (λ_ _ _=>False) (λ_ _ _=>False) ?ips ?istart ?iround ?idone ?istop ?ipan
   case ig=>rfl
   case ips=>rintro xs rfl x N;obtain⟨d,_,rfl⟩:=List.mem_map.1 N;rfl
   case istart=>exact OT.cQ (λb U=>by have:=zP b U;omega) ⟨[],rfl,.inl Ej,v,λj hj=>.inl (fS j hj),by simpa[jA]using D4⟩
   case idone=>
    rintro xs rfl WC ⟨hxC,DC,hdC,hdD,sC⟩ hsC;obtain⟨ss,he,hS9⟩:=sC.out;have o4:=nZ (g:=zX) Gj he;subst o4;refine(show aO (λb=>D b\/b=W4.heap.size) W8.heap.size (EC p f t aqw (List.map qp es++[qp k.ev])) W8 WC from ?_);refine⟨(aj.aq akl).aK hxC,DC,λb U=>(hdC b U).imp id λh=>by omega,hdD,EC.cQ sC.1 ⟨es++[k.ev],by simp,?_⟩⟩;rw[hX1,Ts];exact hS9
   case istop=>
    rintro c WC ⟨_,_,_,_,sC⟩ hsC;exact sC.out.elim
   case ipan=>
    rintro c WC ⟨_,_,_,_,sC⟩ hsC;exact sC.out.elim
   case iround=>
    intro l2' pre x N WC DC hxC hsC aok aol sC aqy hK;obtain⟨gi,WL⟩:=N;obtain⟨ss,qm,_⟩:=sC.out;subst qm;obtain⟨y,r,hXk,rfl⟩:=xR Gj WL;unfold zX;gi_wp2_with fail;have hbC:Below WC.heap.size WC (WC.alloc (θ #[V Z y.1,V Z y.2] 43)):=(ρ _ _).alloc (ξ _) _;refine hK _ _ (λb=>DC b\/b=WC.heap.size) hbC (λb U=>U.imp id λh=>by omega) (λb U=>.inl U) (λb U=>U.elim (λh=>by have:=sC.1 b h;simp;omega) (λh=>by simp;omega)) ?_;intro WD hkD Hp hsD hrD ED;have q7:=(X.new WC [V Z y.1,V Z y.2] 43).keep (hkD _ (.inr rfl));have Xd:=sC.on (W':=WD) λb U=>(hkD b (.inl U)).trans (hbC.block b (sC.1 b U));have uy:∀b,DC b\/b=WC.heap.size->b<WD.heap.size:=λb U=>U.elim (Xd.1 b) (λh=>by have:=q7.lt;omega);have nO:∀j,j<W4.heap.size->j≠p->j<W3.heap.size+2->¬(D j\/j=W4.heap.size):=λj G A M h=>by
     rcases h with h|h
     ·rcases eh j h with h'|h'
      ·exact A h'
      omega
     omega
    have ya:=(raB.aM Hp (nO _ (by omega) (by omega) (by omega))).cell (k:=0) rfl;have yk:=(r6B.aM Hp (λh=>by have:=zP _ h;omega)).cell (k:=0) rfl;have x0:=q7.cell (k:=0) rfl;have x1:=q7.cell (k:=1) rfl;obtain⟨ss',qm,adL,v',Lp,akm⟩:=Xd.out;have o4:=nZ (g:=zX) Gj qm;subst o4;have dE:(eT f t (es.flatMap aqw++jA (kd k.ev) ss)).length+2<=16777216:=by
     rw[Cw];have G:(aqw k.ev).length=ss.length+(r.length+1):=by rw[Ts,hXk];simp[jA]
     rw[φ,ι,ν,ν,G]at Xc;rw[ν];have A:(jA (kd k.ev) ss).length=ss.length:=by simp[jA]
     omega
    have hX9:eT f t (es.flatMap aqw++jA (kd k.ev) (ss++[y]))=eT f t (es.flatMap aqw++jA (kd k.ev) ss)++[⟨max y.1 f,kd k.ev,1⟩,⟨min y.2 t,kd k.ev,-1⟩]:=by
     have G:jA (kd k.ev) (ss++[y])=jA (kd k.ev) ss++[⟨kd k.ev,y.1,y.2⟩]:=by simp[jA]
     rw[G,<-Γ,Iw]
    have To:=H (Hx p f t v' _ (kd k.ev) y.1 y.2 WD akm dE);clear hK hkD sC Xd Ld Ew;refine oG ?_;refine rR ?_;gi_wp2_with fail;refine(χ _ (callsIn_wide.2 To.out)).mono ?_;rintro E WE ⟨rfl,v7,Tp,iH,hv7⟩;clear x0 x1 ya yk To;gi_wp2_with fail;have WN:aj (λb=>DC b\/b=WC.heap.size) WD WE:=iH.mono λk Y=>.inl (Y.elim (λe=>.inl (e▸adL)) (λh=>.inl (Lp k h)));refine(show aO _ _ _ _ _ from⟨WN,λb=>(DC b\/b=WC.heap.size)\/v7.ownBlock=some b,λb U=>U.elim .inl λh=>(hv7 b h).imp (λh'=>.inl (Lp b h')) id,λb U=>.inl U,?_⟩);exact OT.cQ (λb U=>U.elim (λh=>Ψ (uy b h) iH.size) (λh=>(Tp.own.lt b h).2)) ⟨ss++[y],by simp[zX],.inl (.inl adL),v7,λb U=>.inr U,by rw[hX9];exact Tp⟩
end Go.Proofs.YtchdfdmjihnhkaaGreatDoor
namespace Go.Proofs.YtchdfdmjihnhkaaGreatDoor
open Tryz
open Go.RowKit
def oI (d:Nat->Bool)(i:Nat):Nat->Bool:=λk=>if k=i then true else d k
theorem oa (d:Nat->Bool)(i:Nat):oI d i i=true:=by unfold oI;simp
theorem gE {d:Nat->Bool}{i k:Nat}(h:k≠i):oI d i k=d k:=by unfold oI;rw[if_neg h]
section
variable {P:Program} {ops:Array Oper} {Q:Exit->Act->κ->Prop} {md:Region.Mode}
def A9 (md:Region.Mode)(ops:Array Oper)(d:Nat->Bool):Prop:=∀j oj,ops[j]?=some oj->d j=true->∀e∈oj.after,Α md e=true->d e.on=true
theorem wpAny_done (aqr:Nat->Act->κ->Prop)(aqq:(Nat->Bool)->Act->κ->Prop)(hf:forward md ops=true)
 (aqs:∀i o d a w,ops[i]?=some o->d i=false->(∀e∈o.after,Α md e=true->d e.on=true)->A9 md ops d->aqq d a w->(∀j,j<ops.size->d j=true->aqr j a w)->
  wpOp P ops Q i (λa' I=>aqq (oI d i) a' I/\aqr i a' I/\∀j oj,ops[j]?=some oj->j≠i->(∀e∈oj.after,Α md e=true->e.on≠i)->aqr j a w->aqr j a' I) a w)
 (D:∀d a w,(∀i,i<ops.size->d i=true)->aqq d a w->(∀i,i<ops.size->aqr i a w)->Q .normal a w):
 ∀(fuel:Nat) (listed:Array Bool) (a:Act) (w:κ),listed.size=ops.size->listed.toList.count false<=fuel->aqq (λk=>listed.getD k false) a w->(∀i,i<ops.size->listed.getD i false=true->aqr i a w)->A9 md ops (λk=>listed.getD k false)->wpAny P md ops Q fuel listed a w:=by
 intro fuel
 induction fuel with
 |zero=>
  intro listed a w hs hc hI hG hC;have bD:∀i,i<ops.size->listed.getD i false=true:=λi hi=>by
   rw[bF _ (by omega)];cases U:listed[i]'(by omega)
   ·exfalso;have:false∈listed.toList:=by rw[<-U];exact Array.mem_def.1 (Array.getElem_mem _)
    have:=List.count_pos_iff.2 this;omega
   rfl
  have hr:Region.ready md ops listed=[]:=by
   rw[List.eq_nil_iff_forall_not_mem];intro i hi;obtain⟨G,A,_⟩:=cZ hi;have:=bD i G;rw[bF _ (by omega)]at this A;rw[this]at A;cases A
  exact⟨hr,D _ a w bD hI (λi hi=>hG i hi (bD i hi))⟩
 |succ fuel ih=>
  intro listed a w hs hc hI hG hC;refine⟨λhr=>D _ a w (mZ hf hs hr) hI (λi hi=>hG i hi (mZ hf hs hr i hi)),λi hi=>?_⟩;obtain⟨G,A,o,ho,M⟩:=cZ hi;have vf:listed.getD i false=false:=by rw[bF _ (by omega)]at A⊢;exact A
  have OU:(λk=>(listed.setIfInBounds i true).getD k false)=oI (λk=>listed.getD k false) i:=by
   funext k;by_cases kF:k=i
   ·subst kF;rw[oa,bF _ (by simp;omega)];simp
   rw[gE kF];by_cases kg:k<listed.size
   ·rw[bF _ kg,bF _ (by simp;exact kg),Array.getElem_setIfInBounds_ne _ (λe=>kF e.symm)]
   simp[Ϭ,kg]
  refine wpOp_mono (λa' I ⟨q1,q2,q3⟩=>?_) (aqs i o _ a w ho vf M hC hI hG);refine ih (listed.setIfInBounds i true) a' I (by simp[hs]) ?_ (by rw[OU];exact q1) (λj hj K=>?_) ?_
  ·rw[Array.toList_setIfInBounds,List.count_set (by rw[ϣ];omega)];have:listed.toList[i]'(by rw[ϣ];omega)=false:=by
    rw[bF _ (by omega)]at A;simpa using A
   rw[this];have J:0<listed.toList.count false:=List.count_pos_iff.2 (by rw[<-this];exact List.getElem_mem _);show listed.toList.count false-1+0<=fuel;omega
  ·by_cases fB:j=i
   ·subst fB;exact q2
   have Tt:listed.getD j false=true:=by
    have:=congrFun OU j;simp only[gE fB]at this;rw[<-this];exact K
   refine q3 j ops[j] (Ϛ hj) fB (λe he U uz=>?_) (hG j hj Tt);have:=hC j ops[j] (Ϛ hj) Tt e he U;simp only[uz,vf]at this;cases this
  rw[OU];intro j oj jg K e he U;by_cases fB:j=i
  ·subst fB;rw[ho]at jg;cases jg;have:=M e he U;unfold oI;split
   ·rfl
   exact this
  rw[gE fB]at K;have:=hC j oj jg K e he U;unfold oI;split
  ·rfl
  exact this
theorem qq {id:Nat}{a:Act}{w:κ}(aqr:Nat->Act->κ->Prop)(aqq:(Nat->Bool)->Act->κ->Prop)(hm:P.follows .mixedOrders=true)(hf:forward .any ops=true)
 (aqs:∀i o,ops[i]?=some o->∀d a w,d i=false->(∀e∈o.after,Α .any e=true->d e.on=true)->A9 .any ops d->aqq d a w->(∀e∈o.after,Α .any e=true->aqr e.on a w)->(∀j,j<ops.size->d j=true->aqr j a w)->
  ϩ o (yielded ops a.tmps)=true/\Oper.wp P o a w (λa' I=>aqq (oI d i) a' I/\aqr i a' I/\∀j oj,ops[j]?=some oj->j≠i->(∀e∈oj.after,Α .any e=true->e.on≠i)->aqr j a w->aqr j a' I) Q)
 (D:∀d a w,(∀i,i<ops.size->d i=true)->aqq d a w->(∀i,i<ops.size->aqr i a w)->Q .normal a w)(hI:aqq (λ_=>false) a {w with drawn:=w.drawn+1}):(Code.region id ops true).wp P Q a w:=by
 have h0:(λk=>(ϗ ops.size false).getD k false)=λ_=>false:=by
  funext k;by_cases Y:k<ops.size
  ·rw[bF _ (by simpa using Y)];simp
  simp[Ϭ,Y]
 refine wp_region_any hm (wpAny_done aqr aqq hf (λi o d a w ho G A M h4 h5=>?_) D ops.size (ϗ ops.size false) a _ (by simp) (by rw[Array.toList_replicate,List.count_replicate];simp) (by rw[h0];exact hI) (λi hi h=>?_) ?_)
 ·refine wpOp_step ho λK' mv=>?_;obtain⟨q1,q2⟩:=aqs i o ho d a w G A M h4 (λe he U=>h5 e.on (Nat.lt_trans (fC hf ho e he U) (Array.getElem?_eq_some_iff.1 ho).1) (A e he U)) h5;rw[if_pos q1];exact Oper.wp_mono mv q2
 ·have e:(ϗ ops.size false).getD i false=false:=congrFun h0 i;rw[e]at h;cases h
 rw[h0];intro j oj _ h;cases h
theorem pq {o oj:Oper}{a:Act}{j k:Nat}{b:Bool}(h:o.guard=some (j,b))(ho:ops[j]?=some oj)(hd:oj.dst=some k)(Y:k<a.tmps.size)(hv:a.eval (.tmp k)=.bool b):ϩ o (yielded ops a.tmps)=true:=by
 rw[NA h ho hd Y hv];cases b<;>rfl
def OV (n:Nat)(ops:Array Oper):Bool:=(ϭ n).all λi=>(ϭ (n+1)).any λk=>decide (i<k)&&match ops[k]?with
 |none=>false
 |some o=>o.after.any λe=>Α .any e&&decide (e.on=i)
theorem pt {d:Nat->Bool}{n:Nat}(h:A9 .any ops d)(hc:OV n ops=true)(hn:d n=true):∀i,i<=n->d i=true:=by
 have:∀m i,i+m=n->d i=true:=by
  intro m
  induction m using Nat.strongRecOn with
  |ind m ih=>
   intro i hi;by_cases hm:m=0
   ·rw[show i=n by omega];exact hn
   unfold OV at hc;rw[ύ]at hc;have G:=hc i (List.mem_range.2 (by omega));rw[ό]at G;obtain⟨k,Y,A⟩:=G;rw[List.mem_range]at Y;rw[ώ,decide_eq_true_eq]at A;obtain⟨A,M⟩:=A;split at M
   ·cases M
   rename_i o ho;rw[Array.any_eq_true']at M;obtain⟨e,he,Eg⟩:=M;rw[ώ,decide_eq_true_eq]at Eg;rw[<-Eg.2];exact h k o ho (ih (n-k) (by omega) k (by omega)) e he Eg.1
 intro i hi;exact this (n-i) i (by omega)
end
theorem cf {aqt B C P:Prop}(h:aqt/\B/\C)(p:P):(aqt/\P)/\B/\C:=⟨⟨h.1,p⟩,h.2⟩
end Go.Proofs.YtchdfdmjihnhkaaGreatDoor
namespace Go.Proofs.YtchdfdmjihnhkaaGreatDoor
open Tryz
open Go.RowKit Go.Sort
theorem dR.mono {xs:List (Array Value)}{E E':ak}{w:κ}{e:ϡ}{I:κ}(h:dR xs E w e I)(hE:∀k,E k->E' k):dR xs E' w e I:=by
 obtain⟨g,lb,R,G,A,M,h4,h5⟩:=h;exact⟨g,lb,R,G,A,λk Y=>⟨(M k Y).1,(M k Y).2.imp (hE k) id⟩,h4,h5⟩
theorem cr.uniq {w:κ}{v:Value}{a b:List Int}(h:cr w v a)(k:cr w v b):a=b:=by
 rcases h with⟨rfl,rfl⟩|⟨g,rfl,h⟩<;>rcases k with⟨k1,rfl⟩|⟨g',k1,k⟩
 ·rfl
 ·cases k1
 ·cases k1
 injection k1 with S e2 e3
 injection S with S
 injection S with S
 subst S;unfold X at h k;rw[h]at k;injection k with k
 injection k with k
 have:a.map (ϛ Z)=b.map (ϛ Z):=by simpa using k
 exact nZ (λ{x y} h=>by injection h) this
theorem gy.uniq {w:κ}{v:Value}{a b:List (Int×Int)}(h:gy w v a)(k:gy w v b):a=b:=by
 rcases h with⟨rfl,rfl⟩|⟨g,rfl,h⟩<;>rcases k with⟨k1,rfl⟩|⟨g',k1,k⟩
 ·rfl
 ·cases k1
 ·cases k1
 injection k1 with S e2 e3
 injection S with S
 injection S with S
 subst S;unfold X at h k;rw[h]at k;injection k with k
 injection k with k
 replace k:flat a=flat b:=by simpa using k
 clear h e2 e3
 induction a generalizing b with
 |nil=>cases b with
  |nil=>rfl
  |cons y b=>cases k
 |cons x a ih=>cases b with
  |nil=>cases k
  |cons y b=>
   obtain⟨x1,x2⟩:=x;obtain⟨y1,y2⟩:=y;simp only[flat,ι,Κ,Μ]at k;injection k with k1 k2
   injection k2 with k2 k3
   injection k1 with _ k1
   injection k2 with _ k2
   rw[k1,k2,ih k3]
theorem dc.uniq {w:κ}{v:Value}{a b:List Int}(h:dc w v a)(k:dc w v b):a=b:=by
 rcases h with⟨rfl,rfl⟩|⟨g,cap,r,rfl,h⟩<;>rcases k with⟨k1,rfl⟩|⟨g',akn,r',k1,k⟩
 ·rfl
 ·cases k1
 ·cases k1
 injection k1 with S e2 e3
 injection S with S
 injection S with S
 subst S;unfold X at h k;rw[h]at k;injection k with k
 injection k with k
 have:(a++r).map (ϛ Z)=(b++r').map (ϛ Z):=by simpa using k
 have:=nZ (λ{x y} h=>by injection h) this;exact List.append_inj_left this e2
def ij (w:κ)(E:ak)(k:KE)(d:aL):Prop:=
 k.kc=d.kc/\k.ku=d.ku/\∃(u:ByteArray) (m md wk pl:Value) (tx:ByteArray) (aI aH:Value),k.ev=cE u d.st d.ln d.hr d.r m md wk pl tx aI aH d.tr d.k/\jX w d.hr d.r m md wk pl aI aH d.ex d.xt/\∀j,kP m md wk pl aI aH j->E j
theorem ij.keep {w I:κ}{E:ak}{k:KE}{d:aL}(h:ij w E k d)(Y:∀j,E j->I.heap[j]?=w.heap[j]?):ij I E k d:=by
 obtain⟨G,A,u,m,md,wk,pl,tx,aI,aH,M,h4,h5⟩:=h;exact⟨G,A,u,m,md,wk,pl,tx,aI,aH,M,h4.keep λj hj=>Y j (h5 j hj),h5⟩
theorem ij.mono {w:κ}{E E':ak}{k:KE}{d:aL}(h:ij w E k d)(Y:∀j,E j->E' j):ij w E' k d:=by
 obtain⟨G,A,u,m,md,wk,pl,tx,aI,aH,M,h4,h5⟩:=h;exact⟨G,A,u,m,md,wk,pl,tx,aI,aH,M,h4,λj hj=>Y j (h5 j hj)⟩
theorem wS {w:κ}{v:Value}{l:List Int}(h:cr w v l):v.oneCell'=true/\∃a n c,v=ζ a n c:=by rcases h with⟨rfl,_⟩|⟨g,rfl,_⟩<;>exact⟨rfl,_,_,_,rfl⟩
theorem Tu {w:κ}{v:Value}{l:List (Int×Int)}(h:gy w v l):v.oneCell'=true/\∃a n c,v=ζ a n c:=by rcases h with⟨rfl,_⟩|⟨g,rfl,_⟩<;>exact⟨rfl,_,_,_,rfl⟩
theorem EE {w:κ}{v:Value}{l:List Int}(h:dc w v l):v.oneCell'=true/\∃a n c,v=ζ a n c:=by rcases h with⟨rfl,_⟩|⟨g,cap,r,rfl,_⟩<;>exact⟨rfl,_,_,_,rfl⟩
theorem ij.vR {w:κ}{E:ak}{k:KE}{d:aL}(h:ij w E k d):k.ev.length=18/\∀v∈k.ev,v.oneCell'=true:=by
 obtain⟨G,A,u,m,md,wk,pl,tx,aI,aH,M,h4,h5⟩:=h;rw[M];exact⟨rfl,OW _ _ _ _ _ _ _ _ _ _ _ _ _ _ (wS h4.cT.ms).1 (wS h4.cT.mds).1 (Tu h4.cT.wks).1 (wS h4.cT.pls).1 (EE h4.hex).1 (EE h4.lT).1⟩
theorem ij.aw {w:κ}{E:ak}{k:KE}{d:aL}(h:ij w E k d)(ho:d.ok){f to:Int}(f0:0<=f)(f1:f<=7258118400)(t0:0<=to)(t1:to<=7258118400):
 Ζ prog 93 #[.agg #[η k.kc,η k.ku],.agg k.ev.toArray,V Z f,V Z to] w (dR (dz (d.aw f to)) E w):=by
 obtain⟨G,A,u,m,md,wk,pl,tx,aI,aH,M,h4,h5⟩:=h;rw[G,A,M];exact(SA d.kc d.ku u d.st d.ln d.hr d.r m md wk pl tx aI aH d.ex d.xt d.tr d.k f to w h4 ho.2.1.1 ho.2.1.2 (by have:=ho.2.2.1.1;omega) ho.2.2.1.2 (by omega) f1 t0 t1 (aL.uV ho t1)).mono λe I hg=>hg.mono h5
theorem ij.kind {w:κ}{E:ak}{k:KE}{d:aL}(h:ij w E k d):Ζ prog 99 #[.agg k.ev.toArray] w λe I=>e=δ (V Z d.kd)/\Below w.heap.size w I:=by
 obtain⟨G,A,u,m,md,wk,pl,tx,aI,aH,M,h4,h5⟩:=h;rw[M];exact KH u d.st d.ln d.hr d.r m md wk pl tx aI aH d.tr d.k w (wS h4.cT.ms).2 (wS h4.cT.mds).2 (Tu h4.cT.wks).2 (wS h4.cT.pls).2 (EE h4.hex).2 (EE h4.lT).2
def aL.sP (d:aL)(f t:Int):List (Int×Int):=(d.tm (f-d.ln+1) t).map λx=>(x,x+d.ln)
theorem aL.abm (d:aL)(f t:Int):d.Ll f t=if d.kd=0 then[]else jA d.kd (d.sP f t):=by
 unfold Ll jA sP;rw[τ];rfl
theorem ij.over {w:κ}{E:ak}{k:KE}{d:aL}(h:ij w E k d)(ho:d.ok){f to:Int}(f0:0<=f)(f1:f<=7258118400)(t0:0<=to)(t1:to<=7258118400):
 Ζ prog 100 #[.agg k.ev.toArray,V Z f,V Z to] w (dR ((d.sP f to).map zX) E w):=by
 obtain⟨G,A,u,m,md,wk,pl,tx,aI,aH,M,h4,h5⟩:=h;rw[M];have e:(d.sP f to).map zX=o7 d.ln (d.tm (f-d.ln+1) to):=by unfold aL.sP o7;rw[τ];rfl
 rw[e];exact(Xa u d.st d.ln d.hr d.r m md wk pl tx aI aH d.ex d.xt d.tr d.k f to w h4 ho.2.1.1 ho.2.1.2 ho.2.2.1.1 ho.2.2.1.2 f0 f1 t0 t1 (aL.uV ho t1)).mono λe I hg=>hg.mono h5
theorem ij.uniq {w:κ}{E:ak}{k k':KE}{d d':aL}(h:ij w E k d)(h':ij w E k' d')(e:k.ev=k'.ev):d'={d with kc:=d'.kc,ku:=d'.ku}:=by
 obtain⟨G,A,u,m,md,wk,pl,tx,aI,aH,M,h4,h5⟩:=h;obtain⟨g1,g2,u',m',fP,fQ,Tv,tx',aom,aon,g3,g4,g5⟩:=h';rw[M,g3]at e;unfold cE at e;simp only[List.cons.injEq,Value.int.injEq,Value.bool.injEq,Value.string.injEq,and_true,true_and]at e;obtain⟨e0,S,e2,e3,e4,e5,e6,e7,rfl,rfl,rfl,rfl,e12,Oh,rfl,rfl,OX,Eu⟩:=e;have i1:=h4.cT.ms.uniq g4.cT.ms;have i2:=h4.cT.mds.uniq g4.cT.mds;have i3:=h4.cT.wks.uniq g4.cT.wks;have i4:=h4.cT.pls.uniq g4.cT.pls;have i5:=h4.hex.uniq g4.hex;have i6:=h4.lT.uniq g4.lT;obtain⟨kc,ku,st,ln,hr,⟨fq,iv,ct,un,ms,mds,wks,pls,ws⟩,ex,xt,tr,k⟩:=d;obtain⟨kc',ku',BM,ln',jv,⟨fq',iv',ct',un',kR,aoo,aop,aoq,ws'⟩,ex',xt',tr',k'⟩:=d';simp only[]at *
 subst S e2 e3 e4 e5 e6 e7 e12 OX Eu i1 i2 i3 i4 i5 i6;rfl
def sQ (w:κ)(k:Nat):Prop:=∃cs t fz,w.heap[k]?=some (θ cs t fz)/\(t=3\/t=191)
def uA (w:κ)(k:Nat):Prop:=∀cs t fz,w.heap[k]?=some (θ cs t fz)->t≠3/\t≠191
theorem iG {w:κ}{k:Nat}(h:sQ w k)(h':uA w k):False:=by
 obtain⟨cs,t,fz,G,A⟩:=h;have:=h' cs t fz G;rcases A with A|A
 ·exact this.1 A
 exact this.2 A
theorem uA.row {w:κ}{k:Nat}{cs:List Value}{t:TypeId}(h:X w k cs t)(G:t≠3)(A:t≠191):uA w k:=by
 intro lB t' fz' e;unfold X at h;rw[h]at e;injection e with e
 injection e with _ e
 subst e;exact⟨G,A⟩
theorem sQ.lt {w:κ}{k:Nat}(h:sQ w k):k<w.heap.size:=by
 obtain⟨cs,t,fz,G,_⟩:=h;exact(Array.getElem?_eq_some_iff.1 G).1
theorem sQ.keep {w I:κ}{k:Nat}(h:sQ w k)(e:I.heap[k]?=w.heap[k]?):sQ I k:=by
 obtain⟨cs,t,fz,G,A⟩:=h;exact⟨cs,t,fz,e.trans G,A⟩
theorem Gk {w:κ}:∀{t:LT},aF w t->∀k∈t.ax,uA w k
 |⟨none⟩,_,k,Y=>by simp[LT.ax]at Y
 |⟨some (b,e,l,r)⟩,h,k,Y=>by
  simp only[LT.ax,Ϝ,ϫ]at Y;rcases Y with rfl|Y|Y
  ·exact uA.row h.1 (by decide) (by decide)
  ·exact Gk h.2.1 k Y
  exact Gk h.2.2 k Y
theorem adM {w:κ}{p b:Nat}{nv:Value}{ns:List ByteArray}{ks:List KE}(h:dJ w p b nv ns ks){k:Nat}(Y:jZ p b nv k):uA w k:=by
 rcases Y with rfl|rfl|Y
 ·exact uA.row h.row (by decide) (by decide)
 ·obtain⟨es,cl,G,_⟩:=h.map;intro cs t fz e;rw[G]at e;injection e with e
  cases e
 rcases h.own.2 with⟨e,_⟩|⟨g,cap,cur,e,_,G,_⟩
 ·rw[e]at Y;simp[μ]at Y
 rw[e]at Y;simp only[μ,Ε]at Y;subst Y;intro cs t fz e;rw[G]at e;injection e with e
 injection e with _ e
 subst e;exact⟨by decide,by decide⟩
theorem agt {w:κ}{hr:Bool}{r:aE}{m md wk pl aI aH:Value}{ex xt:List Int}(h:jX w hr r m md wk pl aI aH ex xt){k:Nat}(e:kP m md wk pl aI aH k):sQ w k:=by
 have hi:∀{v:Value} {l:List Int},cr w v l->v.ownBlock=some k->sQ w k:=λh e=>by
  rcases h with⟨rfl,_⟩|⟨g,rfl,h⟩
  ·simp[μ]at e
  simp only[μ,Ε]at e;subst e;exact⟨_,_,_,h,.inl rfl⟩
 have hw:∀{v:Value} {l:List Int},dc w v l->v.ownBlock=some k->sQ w k:=λh e=>by
  rcases h with⟨rfl,_⟩|⟨g,cap,rr,rfl,h⟩
  ·simp[μ]at e
  simp only[μ,Ε]at e;subst e;exact⟨_,_,_,h,.inl rfl⟩
 rcases e with(e|e|e|e)|e|e
 ·exact hi h.cT.ms e
 ·exact hi h.cT.mds e
 ·rcases h.cT.wks with⟨e',_⟩|⟨g,e',h⟩
  ·rw[e']at e;simp[μ]at e
  rw[e']at e;simp only[μ,Ε]at e;subst e;exact⟨_,_,_,h,.inr rfl⟩
 ·exact hi h.cT.pls e
 ·exact hw h.hex e
 exact hw h.lT e
def zY (s cp b ip:Nat)(nv:Value)(T:LT):ak:=λk=>k=s\/jZ cp b nv k\/k∈ip::T.ax
structure cK (w:κ)(s:Nat)(aqz E:ak)(ns:List ByteArray)(ds:List aL)(h:Int)(cp b ip:Nat)(nv:Value)(ps:List (KE×aL))(T:LT):Prop where
 row:X w s [ε (some ⟨cp,0,none⟩),ε (some ⟨ip,0,none⟩)] 49
 dK:dJ w cp b nv ns (ps.map (·.1))
 snd:ps.map (·.2)=ds
 mE:∀p∈ps,ij w E p.1 p.2
 ok:∀d∈ds,d.ok
 idx:cP w ip T T.size h
 srt:LT.eF T.aw
 perm:T.aw.Perm (ds.flatMap (·.aw 0 h))
 sz:T.size<=500
 hz:0<=h/\h<=7258118400
 n8:ns.length<=8
 k30:ps.length<=30
 mx:aqz=zY s cp b ip nv T
 et:∀k,E k->sQ w k
 d1:¬jZ cp b nv s
 d2:∀k,k∈ip::T.ax->k≠s/\¬jZ cp b nv k
section
variable {w I:κ} {s:Nat} {aqz E:ak} {ns:List ByteArray} {ds:List aL} {h:Int} {cp b ip:Nat} {nv:Value} {ps:List (KE×aL)} {T:LT}
theorem cK.ms (x:cK w s aqz E ns ds h cp b ip nv ps T):aqz s:=by rw[x.mx];exact .inl rfl
theorem cK.mc (x:cK w s aqz E ns ds h cp b ip nv ps T):∀k,jZ cp b nv k->aqz k:=λk Y=>by rw[x.mx];exact .inr (.inl Y)
theorem cK.mi (x:cK w s aqz E ns ds h cp b ip nv ps T):∀k,k∈ip::T.ax->aqz k:=λk Y=>by rw[x.mx];exact .inr (.inr Y)
theorem cK.lt (x:cK w s aqz E ns ds h cp b ip nv ps T):∀k,aqz k->k<w.heap.size:=λk Y=>by
 rw[x.mx]at Y;rcases Y with rfl|Y|Y
 ·exact x.row.lt
 ·exact x.dK.lt Y
 exact(List.mem_cons.1 Y).elim (λe=>e▸x.idx.row.lt) (x.idx.tree.lt k)
theorem cK.el (x:cK w s aqz E ns ds h cp b ip nv ps T):∀k,E k->k<w.heap.size:=λk Y=>(x.et k Y).lt
theorem cK.mt (x:cK w s aqz E ns ds h cp b ip nv ps T):∀k,aqz k->uA w k:=λk Y=>by
 rw[x.mx]at Y;rcases Y with rfl|Y|Y
 ·exact uA.row x.row (by decide) (by decide)
 ·exact adM x.dK Y
 rcases List.mem_cons.1 Y with rfl|Y
 ·exact uA.row x.idx.row (by decide) (by decide)
 exact Gk x.idx.tree k Y
theorem cK.em (x:cK w s aqz E ns ds h cp b ip nv ps T):∀k,E k->¬aqz k:=λk Y bV=>iG (x.et k Y) (x.mt k bV)
theorem cK.keep (x:cK w s aqz E ns ds h cp b ip nv ps T)(Y:∀k,aqz k\/E k->I.heap[k]?=w.heap[k]?):cK I s aqz E ns ds h cp b ip nv ps T where
 row:=x.row.keep (Y s (.inl x.ms))
 dK:=x.dK.keep λk bV=>Y k (.inl (x.mc k bV))
 snd:=x.snd
 mE:=λp J=>(x.mE p J).keep λk bV=>Y k (.inr bV)
 ok:=x.ok
 idx:=x.idx.keep λk bV=>Y k (.inl (x.mi k bV))
 srt:=x.srt
 perm:=x.perm
 sz:=x.sz
 hz:=x.hz
 n8:=x.n8
 k30:=x.k30
 mx:=x.mx
 et:=λk bV=>(x.et k bV).keep (Y k (.inr bV))
 d1:=x.d1
 d2:=x.d2
end
def cg (w:κ)(s:Nat)(aqz E:ak)(ns:List ByteArray)(ds:List aL)(h:Int):Prop:=∃cp b ip nv ps T,cK w s aqz E ns ds h cp b ip nv ps T
theorem cg.apart {w:κ}{s s':Nat}{aqz E M' E':ak}{ns yU:List ByteArray}{ds OR:List aL}{h h':Int}(x:cg w s aqz E ns ds h)(y:cg w s' M' E' yU OR h'){k:Nat}(Y:E' k):¬aqz k:=by
 obtain⟨cp,b,ip,nv,ps,T,x⟩:=x;obtain⟨cp',b',ip',jh,BN,T',y⟩:=y;exact λh=>iG (y.et k Y) (x.mt k h)
theorem cg.keep {w I:κ}{s:Nat}{aqz E:ak}{ns:List ByteArray}{ds:List aL}{h:Int}(x:cg w s aqz E ns ds h)(Y:∀k,aqz k\/E k->I.heap[k]?=w.heap[k]?):cg I s aqz E ns ds h:=by
 obtain⟨cp,b,ip,nv,ps,T,x⟩:=x;exact⟨cp,b,ip,nv,ps,T,x.keep Y⟩
theorem cg.lt {w:κ}{s:Nat}{aqz E:ak}{ns:List ByteArray}{ds:List aL}{h:Int}(x:cg w s aqz E ns ds h){k:Nat}(Y:aqz k\/E k):k<w.heap.size:=by
 obtain⟨cp,b,ip,nv,ps,T,x⟩:=x;exact Y.elim (x.lt k) (x.el k)
theorem cg.on {w I:κ}{s:Nat}{aqz E:ak}{ns:List ByteArray}{ds:List aL}{h:Int}(x:cg w s aqz E ns ds h)(U:Below w.heap.size w I):cg I s aqz E ns ds h:=x.keep λk Y=>U.block k (x.lt Y)
theorem cg.aM {w I:κ}{O:ak}{s:Nat}{aqz E:ak}{ns:List ByteArray}{ds:List aL}{h:Int}(x:cg w s aqz E ns ds h)(N:aj O w I)(hn:∀k,aqz k\/E k->¬O k):cg I s aqz E ns ds h:=x.keep λk Y=>N.block k (x.lt Y) (hn k Y)
theorem cK.vR {w:κ}{s:Nat}{aqz E:ak}{ns:List ByteArray}{ds:List aL}{h:Int}{cp b ip:Nat}{nv:Value}{ps:List (KE×aL)}{T:LT}(x:cK w s aqz E ns ds h cp b ip nv ps T):∀k∈ps.map (·.1),k.ev.length=18/\∀v∈k.ev,v.oneCell'=true:=λk Y=>by
 obtain⟨p,J,rfl⟩:=List.mem_map.1 Y;exact(x.mE p J).vR
theorem cK.same {w:κ}{s:Nat}{aqz E:ak}{ns:List ByteArray}{ds:List aL}{h:Int}{cp b ip:Nat}{nv:Value}{ps:List (KE×aL)}{T:LT}(x:cK w s aqz E ns ds h cp b ip nv ps T)(c u:ByteArray){p:KE×aL}(J:p∈ps):cS c u p.1=iQ c u p.2:=by
 obtain⟨G,A,_⟩:=x.mE p J;unfold cS iQ;rw[G,A]
theorem cK.keys {w:κ}{s:Nat}{aqz E:ak}{ns:List ByteArray}{ds:List aL}{h:Int}{cp b ip:Nat}{nv:Value}{ps:List (KE×aL)}{T:LT}(x:cK w s aqz E ns ds h cp b ip nv ps T):nR ds:=by
 obtain⟨es,cl,_,_,_,_,h5,_⟩:=x.dK.map;rw[<-x.snd];unfold nR;rw[ϧ]at h5⊢;refine h5.imp_of_mem λ{p q} J hq hs hc=>?_;obtain⟨p1,p2,_⟩:=x.mE p J;obtain⟨q1,q2,_⟩:=x.mE q hq;rw[eA.2 ⟨by rw[p1,q1];exact hc.1.symm,by rw[p2,q2];exact hc.2.symm⟩]at hs;cases hs
theorem cK.QZ {w:κ}{s:Nat}{aqz E:ak}{ns:List ByteArray}{ds:List aL}{h:Int}{cp b ip:Nat}{nv:Value}{ps:List (KE×aL)}{T:LT}(x:cK w s aqz E ns ds h cp b ip nv ps T):T.size=eU ds h:=by
 unfold eU;rw[<-x.perm.length_eq,LT.cC]
theorem Q0 {ps:List (KE×aL)}{ks:List KE}(h:ks.Perm (ps.map (·.1))):∃BN:List (KE×aL),BN.Perm ps/\BN.map (·.1)=ks:=by
 generalize K:ps.map (·.1)=l at h
 induction h generalizing ps with
 |nil=>exact⟨[],by rw[List.map_eq_nil_iff.1 K],rfl⟩
 | @cons x l1 l2 _ ih=>
  cases ps with
  |nil=>cases K
  |cons p ps=>
   rw[π]at K;injection K with S e2
   obtain⟨BN,G,A⟩:=ih e2;exact⟨p::BN,G.cons _,by rw[π,A,S]⟩
 |swap x y l=>
  cases ps with
  |nil=>cases K
  |cons p ps=>
   cases ps with
   |nil=>cases K
   |cons q ps=>
    rw[π,π]at K;injection K with S e2
    injection e2 with e2 e3
    exact⟨q::p::ps,List.Perm.swap _ _ _,by rw[π,π,S,e2,e3]⟩
 |trans G A ih1 ih2=>
  obtain⟨p2,a1,a2⟩:=ih2 K;obtain⟨p1,b1,b2⟩:=ih1 a2;exact⟨p1,b1.trans a1,b2⟩
end Go.Proofs.YtchdfdmjihnhkaaGreatDoor
namespace Go.Proofs.YtchdfdmjihnhkaaGreatDoor
open Tryz
open Go.RowKit Go.Sort
def mF (ds:List aL)(h t:Int):Bool:=decide (t<=h)||decide (eU ds t<=500)
def qs (ds:List aL)(h t:Int):Int:=if mF ds h t then t else h
def Lq (ps:List (KE×aL))(h t:Int)(k:KE):List aJ:=((ps.find? λp=>cS k.kc k.ku p.1).map λp=>p.2.aw h t).getD []
theorem Tw {ps:List (KE×aL)}(hd:(ps.map (·.1)).Pairwise (λx y=>cS x.kc x.ku y=false)){p:KE×aL}(J:p∈ps)(h t:Int):Lq ps h t p.1=p.2.aw h t:=by
 unfold Lq;have hs:cS p.1.kc p.1.ku p.1=true:=eA.2 ⟨rfl,rfl⟩
 induction ps with
 |nil=>cases J
 |cons q ps ih=>
  rw[π,Ϧ]at hd;rw[List.find?_cons];rcases List.mem_cons.1 J with rfl|J
  ·rw[hs];rfl
  have:cS p.1.kc p.1.ku q.1=false:=by
   rw[tc];exact hd.1 p.1 (Ϥ J)
  rw[this];exact ih hd.2 J
theorem Cy {ps:List (KE×aL)}(hd:(ps.map (·.1)).Pairwise (λx y=>cS x.kc x.ku y=false))(h t:Int){ks:List KE}(Y:ks.Perm (ps.map (·.1))):(ks.flatMap (Lq ps h t)).Perm ((ps.map (·.2)).flatMap (·.aw h t)):=by
 refine(Y.flatMap_right _).trans ?_;rw[List.flatMap_map,List.flatMap_map];have:∀l:List (KE×aL),(∀p∈l,p∈ps)->l.flatMap (λp=>Lq ps h t p.1)=l.flatMap λp=>p.2.aw h t:=by
  intro l K
  induction l with
  |nil=>rfl
  |cons q l ih=>rw[ι,ι,ih λp J=>K p (by simp[J]),Tw hd (K q (by simp))]
 rw[this ps λp J=>J]
theorem abn {a b:List aJ}(h:a.Perm b)(U:b.Pairwise λx y=>bP x y≠0):a.Pairwise λx y=>bP x y≠0:=(List.Perm.pairwise_iff (λh=>Cl h) h).2 U
def vS (s:Nat)(aqz E:ak)(ns:List ByteArray)(ds:List aL)(h t:Int)(w:κ):κ->Prop:=λI=>∃M':ak,cg I s M' E ns ds (qs ds h t)/\aj aqz w I/\∀k,M' k->aqz k\/w.heap.size<=k
theorem Lr {w:κ}{s:Nat}{aqz E:ak}{ns:List ByteArray}{ds:List aL}{h:Int}{cp b ip:Nat}{nv:Value}{ps:List (KE×aL)}{T:LT}(x:cK w s aqz E ns ds h cp b ip nv ps T)(t:Int)(t0:0<=t)(t1:t<=7258118400)(bm:Nat)(hq:X w bm [.map (some b)] 65):
 Ζ prog 44 #[ε (some ⟨ip,0,none⟩),V Z t,.func (.func 108) #[] #[ε (some ⟨bm,0,none⟩)]] w λe I=>e=δ (.bool (mF ds h t))/\vS s aqz E ns ds h t w I:=by
 have Ls:∀k,k∈ip::T.ax->aqz k:=x.mi;by_cases ht:t<=h
 ·have hB:mF ds h t=true:=by unfold mF;simp[ht]
  have hH:qs ds h t=t:=by unfold qs;rw[hB];rfl
  refine(Lg ip T h t _ w x.idx x.srt (by have:=x.sz;omega) ht).mono ?_;rintro e I ⟨rfl,T',a1,a2,a3,a4⟩;rw[hB];have jB:∀k,k∈ip::T'.ax->k∈ip::T.ax:=λk Y=>(List.mem_cons.1 Y).elim (λe=>by simp[e]) λe=>by simp[a3 k e]
  refine⟨rfl,zY s cp b ip nv T',⟨cp,b,ip,nv,ps,T',?_⟩,a4.mono λk Y=>.inl (Ls k Y),λk Y=>.inl (by rw[x.mx];exact Y.imp id λh=>h.imp id (jB k))⟩;rw[hH];have Tx:LT.eF T'.aw:=by rw[a2];unfold qj;unfold LT.eF;exact x.srt.filter _
  exact{
   row:=x.row.ex a4 (λhs=>(x.d2 s hs).1 rfl)
   dK:=x.dK.aM a4 λk Y bV=>(x.d2 k bV).2 Y
   snd:=x.snd
   mE:=λp J=>(x.mE p J).keep λj hj=>a4.block j (x.el j hj) λY=>x.em j hj (Ls j Y)
   ok:=x.ok
   idx:=a1
   srt:=Tx
   perm:=by rw[a2,<-abj x.ok ht x.hz.2];exact x.perm.filter _
   sz:=by
    have G:T'.aw.length<=T.aw.length:=by rw[a2];exact υ _ _
    rw[LT.cC,LT.cC]at G;have:=x.sz;omega
   hz:=⟨t0,t1⟩
   n8:=x.n8
   k30:=x.k30
   mx:=rfl
   et:=λk Y=>(x.et k Y).keep (a4.block k (x.el k Y) λbV=>x.em k Y (Ls k bV))
   d1:=x.d1
   d2:=λk Y=>x.d2 k (jB k Y)}
 obtain⟨es,cl,_,_,_,_,hd,_⟩:=x.dK.map;have hX:∀ks:List KE,ks.Perm (ps.map (·.1))->(ks.flatMap (Lq ps h t)).Perm (ds.flatMap (·.aw h t)):=λks Y=>by
  have:=Cy hd h t Y;rw[x.snd]at this;exact this
 have oH:=Tr x.ok x.hz.1 (show h<=t by omega) t1;have hlen:∀ks:List KE,ks.Perm (ps.map (·.1))->(ks.flatMap (Lq ps h t)).length+T.size=eU ds t:=λks Y=>by
  unfold eU;rw[oH.length_eq,ν,(hX ks Y).length_eq,x.QZ];rfl
 refine(Nz ip T h t _ _ (λk=>k=bm\/k=b) (λks=>ks.Perm (ps.map (·.1))) (Lq ps h t) E w x.idx x.srt x.sz (by omega) (QM (ps.map (·.1)) b bm w x.dK.map hq x.vR)
  (λk Y=>Y.elim (λe=>e▸hq.lt) (λe=>e▸x.dK.map.lt)) (enters_of func108 (by kernel_rfl) rfl)
  (λks Y k Ty=>x.vR k (Y.mem_iff.1 Ty)) (λks Y k Ty wr Tz hE=>?_) x.el (λks Y=>⟨?_,λa ha y hy e=>?_⟩)).mono ?_
 ·obtain⟨p,J,rfl⟩:=List.mem_map.1 (Y.mem_iff.1 Ty);rw[Tw hd J];exact((x.mE p J).keep hE).aw (x.ok p.2 (by rw[<-x.snd];exact Ϥ J)) x.hz.1 x.hz.2 t0 t1
 ·exact abn (hX ks Y) (adC x.keys x.ok t1)
 ·obtain⟨d,cx,ha⟩:=List.mem_flatMap.1 ((hX ks Y).mem_iff.1 ha);obtain⟨d',tG,hy⟩:=List.mem_flatMap.1 (x.perm.mem_iff.1 hy);have a1:=(aL.jj (x.ok d cx) t1).1 (aL.ka ha).2.2.2.1;have a2:=(aL.jj (x.ok d' tG) x.hz.2).1 (aL.ka hy).2.2.2.1;have:=(ir.1 e).1;omega
 rintro e I (⟨ks,T',Y,hle,rfl,a1,a2,a3,a4,a5⟩|⟨⟨ks,Y,Iu⟩,rfl,U⟩)
 ·have wF:eU ds t<=500:=by rw[<-hlen ks Y];exact hle
  have hB:mF ds h t=true:=by unfold mF;simp[wF]
  have hH:qs ds h t=t:=by unfold qs;rw[hB];rfl
  rw[hB];have gQ:∀k,k∈ip::T'.ax->k∈ip::T.ax\/w.heap.size<=k:=λk Y=>(List.mem_cons.1 Y).elim (λe=>.inl (by simp[e])) λe=>(a4 k e).imp (λh=>by simp[h]) id;refine⟨rfl,zY s cp b ip nv T',⟨cp,b,ip,nv,ps,T',?_⟩,a5.mono λk Y=>.inl (Ls k Y),λk Y=>by
   rcases Y with Y|Y|Y
   ·exact .inl (by rw[x.mx];exact .inl Y)
   ·exact .inl (x.mc k Y)
   exact(gQ k Y).imp (Ls k) id⟩
  rw[hH];have tU:T'.aw.Perm (ds.flatMap (·.aw 0 t)):=a3.trans ((List.Perm.append (hX ks Y) x.perm).trans oH.symm);exact{
   row:=x.row.ex a5 (λhs=>(x.d2 s hs).1 rfl)
   dK:=x.dK.aM a5 λk Y bV=>(x.d2 k bV).2 Y
   snd:=x.snd
   mE:=λp J=>(x.mE p J).keep λj hj=>a5.block j (x.el j hj) λY=>x.em j hj (Ls j Y)
   ok:=x.ok
   idx:=a1
   srt:=a2
   perm:=tU
   sz:=by
    have G:=tU.length_eq;rw[LT.cC]at G;unfold eU at wF;omega
   hz:=⟨t0,t1⟩
   n8:=x.n8
   k30:=x.k30
   mx:=rfl
   et:=λk Y=>(x.et k Y).keep (a5.block k (x.el k Y) λbV=>x.em k Y (Ls k bV))
   d1:=x.d1
   d2:=λk Y=>(gQ k Y).elim (x.d2 k) λh=>⟨λe=>by have:=x.lt s x.ms;omega,λhc=>by have:=x.lt k (x.mc k hc);omega⟩}
 have wF:500<eU ds t:=by rw[<-hlen ks Y];exact Iu
 have hB:mF ds h t=false:=by unfold mF;simp[ht];omega
 have hH:qs ds h t=h:=by unfold qs;rw[hB];rfl
 rw[hB];refine⟨rfl,aqz,?_,aj.aq U,λk Y=>.inl Y⟩;rw[hH];exact cg.on ⟨cp,b,ip,nv,ps,T,x⟩ U
theorem Ba {p:Nat}{w:κ}:(Instr.fieldAt 49 (ε (some ⟨p,0,none⟩)) 0).run prog w=.ok (ε (some ⟨p,0,none⟩)) w:=by go_simp
theorem qt {p:Nat}{w:κ}:(Instr.fieldAt 49 (ε (some ⟨p,0,none⟩)) 1).run prog w=.ok (ε (some ⟨p,1,none⟩)) w:=by go_simp
theorem tf {q:Addr}{p:Nat}{w:κ}(h:w.cell? q=some (ε (some ⟨p,0,none⟩))):(Instr.loadAt 44 (ε (some q))).run prog w=.ok (ε (some ⟨p,0,none⟩)) w:=by
 go_simp
theorem k5 {q:Addr}{p:Nat}{w:κ}(h:w.cell? q=some (ε (some ⟨p,0,none⟩))):(Instr.loadAt 46 (ε (some q))).run prog w=.ok (ε (some ⟨p,0,none⟩)) w:=by
 go_simp
theorem Q1 (w:κ):
 Ζ prog 5 #[] w λe I=>∃(s:Nat) (aqz:ak),e=δ (ε (some ⟨s,0,none⟩))/\cg I s aqz (λ_=>False) [] [] 0/\(∀k,aqz k->w.heap.size<=k)/\Below w.heap.size w I:=by
 have hC:=H (QO w);have hI:=H λW=>QT W;go_enter func5,ntmps5;go_wp2_with (first
  |(go_at_call 13;refine(hC.out).mono ?_;rintro e w1 ⟨rfl,c1,b1⟩;replace c1:=H c1;replace b1:=H b1)
  |(go_at_call 14;refine(hI.out _).mono ?_;rintro e w2 ⟨rfl,i2,b2⟩;replace i2:=H i2;replace b2:=H b2))
 go_ret;have wD:w.heap.size+1<w1.heap.size:=c1.out.row.lt;have gX:w1.heap.size<w2.heap.size:=i2.out.row.lt;have aP:Below w2.heap.size w2 (w2.alloc (θ #[ε (some ⟨w.heap.size+1,0,none⟩),ε (some ⟨w1.heap.size,0,none⟩)] 49)):=(ρ _ _).alloc (ξ _) _;have hsb:∀k,zY w2.heap.size (w.heap.size+1) w.heap.size w1.heap.size (ζ none 0 0) .nil k->w.heap.size<=k:=λk Y=>by
  rcases Y with rfl|(rfl|rfl|Y)|Y
  ·omega
  ·omega
  ·omega
  ·simp[μ]at Y
  rcases List.mem_cons.1 Y with rfl|Y
  ·omega
  simp[LT.ax]at Y
 refine⟨w2.heap.size,zY w2.heap.size (w.heap.size+1) w.heap.size w1.heap.size (ζ none 0 0) .nil,rfl,⟨w.heap.size+1,w.heap.size,w1.heap.size,ζ none 0 0,[],.nil,?_⟩,λk Y=>hsb k Y,(b1.out.trans (b2.out.mono b1.out.size)).trans (aP.mono (by omega))⟩;have ako:=(c1.out.on b2.out).on aP;exact{
  row:=X.new w2 _ _
  dK:=ako
  snd:=rfl
  mE:=λp J=>by cases J
  ok:=λp J=>by cases J
  idx:=i2.out.keep λk Y=>aP.block k (by
   rcases List.mem_cons.1 Y with rfl|Y
   ·exact gX
   simp[LT.ax]at Y)
  srt:=Ξ
  perm:=ϥ _
  sz:=by decide
  hz:=by omega
  n8:=by simp
  k30:=by simp
  mx:=rfl
  et:=λk Y=>Y.elim
  d1:=λY=>by
   rcases Y with Y|Y|Y
   ·omega
   ·omega
   simp[μ]at Y
  d2:=λk Y=>by
   rcases List.mem_cons.1 Y with rfl|Y
   ·refine⟨by omega,λY=>?_⟩;rcases Y with Y|Y|Y
    ·omega
    ·omega
    simp[μ]at Y
   simp[LT.ax]at Y}
theorem JF {w:κ}{s:Nat}{aqz E:ak}{ns:List ByteArray}{ds:List aL}{h:Int}(x:cg w s aqz E ns ds h):
 Ζ prog 7 #[ε (some ⟨s,0,none⟩)] w λe I=>e=δ (V Z (eU ds h))/\w=I:=by
 obtain⟨cp,b,ip,nv,ps,T,x⟩:=x;have C:=H (Lh ip T T.size h w x.idx);have k1:=x.row.cell (k:=1) rfl;rw[x.QZ]at C;clear x;go_enter func7,ntmps7;go_wp2_with (go_at_call 21;refine(C.out).mono ?_;rintro e w1 ⟨rfl,rfl⟩);go_ret;exact⟨rfl,rfl⟩
def Lt (W:κ)(s cp ip b:Nat)(t:Int)(i:Nat)(v:Value)(w:κ):Prop:=match i with
 |9=>∃bm,v=.func (.func 108) #[] #[ε (some ⟨bm,0,none⟩)]/\X w bm [.map (some b)] 65/\W.heap.size<=bm
 |n=>v=[ε (some ⟨s,0,none⟩),ε (some ⟨s,0,none⟩),ε (some ⟨s,1,none⟩),ε (some ⟨ip,0,none⟩),V Z t,ε (some ⟨s,0,none⟩),ε (some ⟨s,0,none⟩),ε (some ⟨s,0,none⟩),ε (some ⟨cp,0,none⟩)].getD n undef
theorem Lt.grow {W:κ}{s cp ip b:Nat}{t:Int}(i:Nat)(v:Value)(w I:κ)(h:Lt W s cp ip b t i v w)(U:Below w.heap.size w I):Lt W s cp ip b t i v I:=by
 unfold Lt at h⊢;split at h
 ·obtain⟨bm,G,A,M⟩:=h;exact⟨bm,G,A.on U,M⟩
 exact h
def qT (s:Nat)(t:Int):List (Nat×Value):=[(0,ε (some ⟨s,0,none⟩)),(1,V Z t)]
theorem abo (W:κ)(s cp ip b:Nat)(t:Int):qQ (λi=>7+i) (qT s t) 19 10 (Lt W s cp ip b t):=
 ⟨λi hi=>by show 7+i<19;omega,λi j hi hj h=>by have h':7+i=7+j:=h;omega,λq J i hi=>by
  simp only[qT,Ϝ,Ϩ,or_false]at J;show q.1≠7+i;rcases J with rfl|rfl<;>simp<;>omega,Lt.grow⟩
theorem TA (a:Act)(h:a.tmps.size=19)(hd:a.defers=[]):∃f:Nat->Value,a=⟨[f 0,f 1,f 2,f 3,f 4,f 5,f 6,f 7,f 8,f 9,f 10,f 11,f 12,f 13,f 14,f 15,f 16,f 17,f 18].toArray,[]⟩/\∀k,a.eval (.tmp k)=f k:=gK 19 a h hd
def Aa (s:Nat)(aqz E:ak)(ns:List ByteArray)(ds:List aL)(h t:Int)(w:κ):ϡ->κ->Prop:=λe I=>
 if cU t then e=(if mF ds h t then δ (.tuple #[])else .panicked (bx 5))/\vS s aqz E ns ds h t w I else e=.panicked (bx 1)/\Below w.heap.size w I
theorem vS.later {s:Nat}{aqz E:ak}{ns:List ByteArray}{ds:List aL}{h t:Int}{w w1 w2:κ}(U:Below w.heap.size w w1)(x:vS s aqz E ns ds h t w1 w2):vS s aqz E ns ds h t w w2:=by
 obtain⟨M',G,A,M⟩:=x;exact⟨M',G,(aj.aq U).aK A,λk Y=>(M k Y).imp id λh=>Λ U.size h⟩
theorem NF {w:κ}{s:Nat}{aqz E:ak}{ns:List ByteArray}{ds:List aL}{h:Int}(x:cg w s aqz E ns ds h)(t:Int)(ht:iX w):
 Ζ prog 24 #[ε (some ⟨s,0,none⟩),V Z t] w (Aa s aqz E ns ds h t w):=by
 have CT:=H (Ab t w ht);have HX:=H x;clear x ht;cases Lu:cU t with
 |false=>
  rw[Lu]at CT;go_enter func24,ntmps24;go_wp2_with (first
   |(go_at_call 43;refine(CT.out).mono ?_;rintro e w1 ⟨rfl,ay⟩)
   |(go_at_call 42;refine(gg 1 _).mono ?_;rintro e w2 ⟨rfl,rfl⟩))
  exact⟨rfl,by unfold Aa;rw[Lu];exact⟨rfl,ay⟩⟩
 |true=>
  have TB:0<=t/\t<=7258118400:=by
   unfold cU at Lu;simp at Lu;omega
  rw[Lu]at CT;go_enter func24,ntmps24;go_upto_region 1 with(first
   |(go_at_call 43;refine(CT.out).mono ?_;rintro e w1 ⟨rfl,ay⟩)
   |(go_at_call 42;refine(eS 1 _).mono ?_;rintro e w2 ⟨rfl,rfl⟩))
  obtain⟨cp,b,ip,nv,ps,T,x1⟩:=HX.out.on ay;replace x1:=H x1;replace ay:=H ay;clear HX CT;have aqA:=abo w1 s cp ip b t;refine dC 10 (by simp only[List.take_succ_cons,List.take_zero];rfl) (by simp only[List.drop_succ_cons,List.drop_zero];rfl) (GV (λi=>7+i) (Lt w1 s cp ip b t)) (JV 19 (qT s t) w1) (by kernel_rfl) (by kernel_rfl) (by kernel_rfl) (by kernel_rfl) (by kernel_rfl) (by kernel_rfl) rfl ?rops ?rdone ⟨rfl,rfl,λq J=>by
   simp only[qT,Ϝ,Ϩ,or_false]at J;rcases J with rfl|rfl<;>rfl,(ρ _ _).drew⟩
  case rops=>
   intro i o ho a I ar hG Q';have hi:i<10:=(Array.getElem?_eq_some_iff.1 ho).1;have t0:a.eval (.tmp 0)=ε (some ⟨s,0,none⟩):=ar.fixed (0,_) (by simp[qT]);have t1:a.eval (.tmp 1)=V Z t:=ar.fixed (1,_) (by simp[qT]);have ea:i=0\/i=1\/i=2\/i=3\/i=4\/i=5\/i=6\/i=7\/i=8\/i=9:=by omega
   rcases ea with rfl|rfl|rfl|rfl|rfl|rfl|rfl|rfl|rfl|rfl<;>obtain rfl:=Ϯ ho
   ·exact ai (cJ rfl t0) (bp aqA ar)
   ·have S:a.eval (.tmp 7)=ε (some ⟨s,0,none⟩):=aB hG 0;exact ai (dF rfl S) (bp aqA ar)
   ·have S:a.eval (.tmp 8)=ε (some ⟨s,0,none⟩):=aB hG 1;exact ai (cH rfl S qt) (bp aqA ar)
   ·have S:a.eval (.tmp 9)=ε (some ⟨s,1,none⟩):=aB hG 2;exact ai (aV rfl S (k5 ((x1.out.row.on ar.below).cell (k:=1) rfl))) (bp aqA ar)
   ·exact ai (cJ rfl t1) (bp aqA ar)
   ·exact ai (cJ rfl t0) (bp aqA ar)
   ·have S:a.eval (.tmp 12)=ε (some ⟨s,0,none⟩):=aB hG 5;exact ai (dF rfl S) (bp aqA ar)
   ·have S:a.eval (.tmp 13)=ε (some ⟨s,0,none⟩):=aB hG 6;exact ai (cH rfl S Ba) (bp aqA ar)
   ·have S:a.eval (.tmp 14)=ε (some ⟨s,0,none⟩):=aB hG 7;exact ai (aV rfl S (tf ((x1.out.row.on ar.below).cell (k:=0) rfl))) (bp aqA ar)
   have S:a.eval (.tmp 15)=ε (some ⟨cp,0,none⟩):=aB hG 8;refine cI (f:=45) (args:=#[a.eval (.tmp 15)]) (by kernel_rfl) (by rw[S];exact Eo cp b nv I (x1.out.dK.on ar.below).row) ?_ (by rintro c az ⟨e,_⟩;cases e) (by rintro az ⟨e,_⟩;cases e);rintro v az ⟨e,rfl⟩;cases e;exact lV aqA rfl (by decide) ar ((ρ _ _).alloc (ξ _) _) ⟨I.heap.size,rfl,X.new I _ _,ar.below.size⟩
  case rdone=>
   intro a w3 ar hG;obtain⟨bm,OX,ZN,TC⟩:∃bm,a.eval (.tmp 16)=.func (.func 108) #[] #[ε (some ⟨bm,0,none⟩)]/\X w3 bm [.map (some b)] 65/\w1.heap.size<=bm:=hG 9 (by decide);have TD:a.eval (.tmp 10)=ε (some ⟨ip,0,none⟩):=hG 3 (by decide);have Ti:a.eval (.tmp 11)=V Z t:=hG 4 (by decide);have aP:=ar.below;have fc:=ar.size;have fi:=ar.defers;clear ar hG aqA;obtain⟨fr,rfl,hf⟩:=TA a fc fi;have g10:=(hf 10).symm.trans TD;have g11:=(hf 11).symm.trans Ti;have g16:=(hf 16).symm.trans OX;rw[g10,g11,g16];clear hf fc fi TD Ti OX g10 g11 g16;have x3:cK w3 s aqz E ns ds h cp b ip nv ps T:=x1.out.keep λk Y=>aP.block k (Y.elim (x1.out.lt k) (x1.out.el k));have HM:=H (Lr x3 t TB.1 TB.2 bm ZN);have al:=H (ay.out.trans (aP.mono ay.out.size));clear x3 ZN ay aP x1;cases vp:mF ds h t with
   |true=>
    rw[vp]at HM;go_wp2_with (first
     |(go_at_call 44;refine(HM.out).mono ?_;rintro e w4 ⟨rfl,BO⟩;replace BO:=H BO)
     |(go_at_call 42;refine(eS 5 _).mono ?_;rintro e w2 ⟨rfl,rfl⟩))
    go_end0;unfold Aa;rw[Lu,if_pos rfl,vp];exact⟨rfl,vS.later al.out BO.out⟩
   |false=>
    rw[vp]at HM;go_wp2_with (first
     |(go_at_call 44;refine(HM.out).mono ?_;rintro e w4 ⟨rfl,BO⟩;replace BO:=H BO)
     |(go_at_call 42;refine(gg 5 _).mono ?_;rintro e w2 ⟨rfl,rfl⟩))
    refine⟨rfl,?_⟩;unfold Aa;rw[Lu,if_pos rfl,vp];exact⟨rfl,vS.later al.out BO.out⟩
end Go.Proofs.YtchdfdmjihnhkaaGreatDoor
namespace Go.Proofs.YtchdfdmjihnhkaaGreatDoor
open Tryz
open Go.RowKit Go.Sort
theorem Xe {s:List UInt8}{d:oJ}(h:iA s=.ok d):(0<=d.st/\d.st<=7258118399)/\(1<=d.ln/\d.ln<=2678400)/\fL d.xt/\d.xt.length<=20:=by
 obtain⟨_,q1,q2,q3,q4,q5⟩:=OY h;have f4:=TE q4;exact⟨wT q1,Lv q2,f4.1,f4.2.1⟩
def nJ (c:ByteArray)(d:oJ):aL:=⟨c,bJ (val d.f 0),d.st,d.ln,jC d,jD d,d.ex,d.xt,iL d.f,kindOf d.f-1⟩
theorem Xf {d:oJ}{E:ϡ}{w:κ}(h:J5 d E w):∃(m md wk pl:Value) (tx:ByteArray) (aI aH:Value),E=δ (.agg (cE (bJ (val d.f 0)) d.st d.ln (jC d) (jD d) m md wk pl tx aI aH (iL d.f) (kindOf d.f-1)).toArray)/\jX w (jC d) (jD d) m md wk pl aI aH d.ex d.xt:=by
 obtain⟨⟨hs,K,hex,lT,l1,l2⟩,aI,aH,i1,i2,h⟩:=h;rcases h with⟨wO,rfl⟩|⟨F,r,m,md,wk,pl,wO,hP,j1,j2,j3,j4,rfl⟩
 ·have S:jC d=false:=by unfold jC;rw[wO];rfl
  have e2:jD d=EF:=by unfold jD;rw[wO]
  rw[S,e2];exact⟨ζ none 0 0,ζ none 0 0,ζ none 0 0,ζ none 0 0,⟨#[]⟩,aI,aH,rfl,⟨⟨.inl ⟨rfl,rfl⟩,.inl ⟨rfl,rfl⟩,.inl ⟨rfl,rfl⟩,.inl ⟨rfl,rfl⟩⟩,λh=>(by cases h),i1,i2,by omega,by omega,hex,lT⟩⟩
 have S:jC d=true:=by unfold jC;rw[wO];rfl
 have e2:jD d=r:=by unfold jD;rw[wO];exact Iz hP
 rw[S,e2];exact⟨m,md,wk,pl,gw F,aI,aH,rfl,⟨⟨j1,j2,j3,j4⟩,λ_=>Lw hP,i1,i2,by omega,by omega,hex,lT⟩⟩
theorem abp {s:List UInt8}{d:oJ}{E:ϡ}{w:κ}(c:ByteArray)(hr:iA s=.ok d)(h:J5 d E w):∃(EV:List Value) (E2:ak),E=δ (.agg EV.toArray)/\ij w E2 ⟨(nJ c d).kc,(nJ c d).ku,EV⟩ (nJ c d)/\(∀k,E2 k->sQ w k)/\(nJ c d).ok/\EV[0]?=some (η (nJ c d).ku):=by
 obtain⟨m,md,wk,pl,tx,aI,aH,G,A⟩:=Xf h;obtain⟨a1,a2,a3,a4⟩:=Xe hr;refine⟨_,kP m md wk pl aI aH,G,⟨rfl,rfl,_,m,md,wk,pl,tx,aI,aH,rfl,A,λj hj=>hj⟩,λk Y=>agt A Y,⟨A.ok,?_,?_,a3,?_⟩,rfl⟩
 ·show 0<=d.st/\d.st<=7258118400;omega
 ·show 1<=d.ln/\d.ln<=10000000;omega
 show d.xt.length<=1000;omega
def Cz (c:ByteArray)(ns:List ByteArray):List ByteArray:=if ο ns c then ns else ns++[c]
def la (c u:ByteArray)(ns:List ByteArray)(ds:List aL):Bool:=(!Lib.containsS ns c&&decide (8<=ns.length))||(!mD c u ds&&decide (30<=ds.length))
def CE (c:ByteArray)(s:List UInt8)(ns:List ByteArray)(ds:List aL):Except Int aL:=
 if kk c then match iA s with
  | .error x=>.error x
  | .ok d=>if la c (nJ c d).ku ns ds then .error 5 else .ok (nJ c d)
 else .error 4
def Gl (D:aL)(ds:List aL)(h:Int):Int:=if eU (nu D ds) h<=500 then h else 0
theorem Q2 {α:Type}{l:List α}{f g:α->Bool}(h:∀x∈l,f x=g x):l.any f=l.any g:=by
 induction l with
 |nil=>rfl
 |cons x l ih=>rw[ϝ,ϝ,h x (by simp),ih λy hy=>h y (by simp[hy])]
section
variable {w W w3 w5 w6:κ} {s:Nat} {aqz E:ak} {ns:List ByteArray} {ds:List aL} {h:Int} {cp b ip:Nat} {nv:Value} {ps:List (KE×aL)} {T:LT}
theorem cK.find (x:cK w s aqz E ns ds h cp b ip nv ps T)(c u:ByteArray):(bZ c u (ps.map (·.1))).isSome=mD c u ds:=by
 unfold bZ mD;rw[List.isSome_find?,<-x.snd,List.any_map,List.any_map];apply Q2;intro p J;exact x.same c u J
theorem cK.found (x:cK w s aqz E ns ds h cp b ip nv ps T){c u:ByteArray}{k:KE}(Y:bZ c u (ps.map (·.1))=some k):∃p∈ps,p.1=k/\iQ c u p.2=true:=by
 unfold bZ at Y;have G:=List.mem_of_find?_eq_some Y;have A:=List.find?_some Y;obtain⟨p,J,rfl⟩:=List.mem_map.1 G;exact⟨p,J,rfl,by rw[<-x.same c u J];exact A⟩
theorem cK.full (x:cK w s aqz E ns ds h cp b ip nv ps T)(c u:ByteArray):la c u ns ds=true↔ο ns c=false/\8<=ns.length\/(bZ c u (ps.map (·.1))).isSome=false/\30<=(ps.map (·.1)).length:=by
 have S:(ps.map (·.1)).length=ds.length:=by rw[<-x.snd,ψ,ψ]
 rw[x.find,S];unfold la;simp
def vq (D:aL)(EV:List Value)(ds:List aL)(ps:List (KE×aL)):List (KE×aL):=if mD D.kc D.ku ds then ps.map λp=>if cS D.kc D.ku p.1 then(⟨D.kc,D.ku,EV⟩,D)else p else ps++[(⟨D.kc,D.ku,EV⟩,D)]
theorem cK.abq (x:cK w s aqz E ns ds h cp b ip nv ps T)(D:aL)(EV:List Value):(vq D EV ds ps).map (·.1)=nX ⟨D.kc,D.ku,EV⟩ (ps.map (·.1)):=by
 unfold vq nX;simp only[x.find];split
 ·rw[τ,τ];apply Τ;intro p J;simp only[Function.comp];split<;>rfl
 rw[Ν];rfl
theorem cK.abr (x:cK w s aqz E ns ds h cp b ip nv ps T)(D:aL)(EV:List Value):(vq D EV ds ps).map (·.2)=nu D ds:=by
 unfold vq nu;split
 ·rw[τ,<-x.snd,τ];apply Τ;intro p J;simp only[Function.comp];rw[x.same _ _ J];split<;>rfl
 rw[Ν,x.snd];rfl
theorem TF {D:aL}{EV:List Value}{p:KE×aL}(J:p∈vq D EV ds ps):p∈ps\/p=(⟨D.kc,D.ku,EV⟩,D):=by
 unfold vq at J;split at J
 ·obtain⟨q,hq,rfl⟩:=List.mem_map.1 J;split
  ·exact .inr rfl
  exact .inl hq
 exact(List.mem_append.1 J).imp id List.mem_singleton.1
def Q3 (s:Nat)(aqz:ak)(ns:List ByteArray)(ds:List aL)(h:Int)(D:aL)(w:κ):κ->Prop:=λI=>∃M' E':ak,cg I s M' E' (Cz D.kc ns) (nu D ds) (Gl D ds h)/\aj aqz w I/\(∀k,M' k->aqz k\/w.heap.size<=k)/\∀k,E' k->sQ I k
theorem BP (x:cK w s aqz E ns ds h cp b ip nv ps T){D:aL}{EV:List Value}{E2:ak}{jh:Value}{aqA:LT}(hD:D.ok)(bR:Below w.heap.size w W)(gu:ij W E2 ⟨D.kc,D.ku,EV⟩ D)(OZ:∀k,E2 k->sQ W k)(mG:la D.kc D.ku ns ds=false)
 (O0:dJ w3 cp b jh (Cz D.kc ns) (nX ⟨D.kc,D.ku,EV⟩ (ps.map (·.1))))(eo:aj (jZ cp b nv) W w3)(wU:∀j,jh.ownBlock=some j->nv.ownBlock=some j\/W.heap.size<=j)
 (wV:aqA.aw.Perm ((iR D.kc D.ku ds).flatMap (·.aw 0 h)))(BQ:∀k∈aqA.ax,k∈T.ax)(dH:aj (λk=>k∈ip::T.ax) w3 w5)
 (hP:Zd ip aqA h (D.aw 0 h) w5 (δ (.tuple #[])) w6):Q3 s aqz ns ds h D w w6:=by
 obtain⟨_,T',h',a1,a2,a3,a4,a5,a6⟩:=hP;have aor:(D.aw 0 h).length+aqA.size=eU (nu D ds) h:=by
  unfold eU;rw[(Iy (d:=D) (f:=(·.aw 0 h)) x.keys).length_eq,ν,<-wV.length_eq,LT.cC]
 have cR:∀d∈nu D ds,d.ok:=abl x.ok hD;have ZO:∀k,k∈ip::aqA.ax->k∈ip::T.ax:=λk Y=>(List.mem_cons.1 Y).elim (λe=>by simp[e]) λe=>by simp[BQ k e]
 have gm:aj (λk=>k∈ip::T.ax) w5 w6:=a6.mono λk Y=>.inl (ZO k Y);have Q5:aj (λk=>k∈ip::T.ax) w3 w6:=dH.aK gm;have N:aj aqz w w6:=((aj.aq bR).aK (eo.mono λk Y=>.inl (x.mc k Y))).aK (Q5.mono λk Y=>.inl (x.mi k Y));have mq:aj aqz W w6:=(eo.mono λk Y=>.inl (x.mc k Y)).aK (Q5.mono λk Y=>.inl (x.mi k Y));have Hv:=eo.size;have sL:=dH.size;have SX:=bR.size;have oD:∀j,jh.ownBlock=some j->j<w3.heap.size:=λj hj=>O0.lt (.inr (.inr hj));have jw:∀k,k∈ip::T.ax->k<w.heap.size:=λk Y=>x.lt k (x.mi k Y);have fA:∀k,k∈ip::T'.ax->k∈ip::T.ax\/w5.heap.size<=k:=λk Y=>(List.mem_cons.1 Y).elim (λe=>.inl (by simp[e])) λe=>(a5 k e).imp (λh=>ZO k (by simp[h])) id;have agu:dJ w6 cp b jh (Cz D.kc ns) (nX ⟨D.kc,D.ku,EV⟩ (ps.map (·.1))):=O0.aM Q5 λk Y bV=>by
  have G:=(x.d2 k bV).2;rcases Y with Y|Y|Y
  ·exact G (.inl Y)
  ·exact G (.inr (.inl Y))
  rcases wU k Y with Y|Y
  ·exact G (.inr (.inr Y))
  have:=jw k bV;omega
 have hMt:∀k,aqz k->uA w k:=x.mt;have Lx:∀k,sQ w k->w6.heap[k]?=w.heap[k]?:=λk Y=>N.block k Y.lt λhM=>iG Y (hMt k hM);have Ly:∀k,E2 k->w6.heap[k]?=W.heap[k]?:=λk Y=>mq.block k (OZ k Y).lt λhM=>by
  have G:=OZ k Y;have A:=hMt k hM;have M:=bR.block k (x.lt k hM);exact iG (G.keep M.symm) A
 have hH:Gl D ds h=h':=by
  unfold Gl;by_cases hf:eU (nu D ds) h<=500
  ·rw[if_pos hf];exact(a3 (by omega)).1.symm
  rw[if_neg hf];exact(a4 (by omega)).1.symm
 refine⟨zY s cp b ip jh T',λk=>E k\/E2 k,⟨cp,b,ip,jh,vq D EV ds ps,T',?_⟩,N,λk Y=>?_,λk Y=>Y.elim (λh=>(x.et k h).keep (Lx k (x.et k h))) λh=>(OZ k h).keep (Ly k h)⟩
 ·rw[hH];have tU:T'.aw.Perm ((nu D ds).flatMap (·.aw 0 h')):=by
   by_cases hf:eU (nu D ds) h<=500
   ·obtain⟨S,e2⟩:=a3 (by omega);rw[S];exact e2.trans ((Β _ wV).trans (Iy (d:=D) (f:=(·.aw 0 h)) x.keys).symm)
   obtain⟨S,e2⟩:=a4 (by omega);rw[S,all_zero cR,e2];have:qj 0 aqA.aw=[]:=by
    unfold qj;rw[Ϡ];intro e he;obtain⟨d,hd,he⟩:=List.mem_flatMap.1 (wV.mem_iff.1 he);have:=aL.WR (x.ok d (te hd).1) x.hz.2 e he;simp;omega
   rw[this]
  have tQ:T'.size=eU (nu D ds) h':=by
   unfold eU;rw[<-tU.length_eq,LT.cC]
  exact{
   row:=((x.row.on bR).ex eo x.d1).ex Q5 λhs=>(x.d2 s hs).1 rfl
   dK:=by rw[x.abq];exact agu
   snd:=x.abr D EV
   mE:=λp J=>by
    rcases TF J with J|rfl
    ·exact((x.mE p J).keep λj hj=>Lx j (x.et j hj)).mono λj hj=>.inl hj
    exact(gu.keep Ly).mono λj hj=>.inr hj
   ok:=cR
   idx:=a1
   srt:=a2
   perm:=tU
   sz:=by
    rw[tQ,<-hH];unfold Gl;by_cases hf:eU (nu D ds) h<=500
    ·rw[if_pos hf];exact hf
    rw[if_neg hf,QY cR];omega
   hz:=by
    rw[<-hH];unfold Gl;have:=x.hz;split<;>omega
   n8:=by
    have:=x.n8;unfold la at mG;unfold Cz;split
    ·exact this
    rename_i oB;simp[oB]at mG;rw[ν,List.length_singleton];omega
   k30:=by
    have:=x.k30;have O1:ds.length=ps.length:=by rw[<-x.snd,ψ]
    unfold la at mG;unfold vq;split
    ·rw[ψ];exact this
    rename_i oB;simp[oB]at mG;rw[ν,List.length_singleton];omega
   mx:=rfl
   et:=λk Y=>Y.elim (λh=>(x.et k h).keep (Lx k (x.et k h))) λh=>(OZ k h).keep (Ly k h)
   d1:=λY=>by
    rcases Y with Y|Y|Y
    ·exact x.d1 (.inl Y)
    ·exact x.d1 (.inr (.inl Y))
    rcases wU s Y with Y|Y
    ·exact x.d1 (.inr (.inr Y))
    have:=x.lt s x.ms;omega
   d2:=λk Y=>by
    rcases fA k Y with Y|Y
    ·refine⟨(x.d2 k Y).1,λhc=>?_⟩;rcases hc with hc|hc|hc
     ·exact(x.d2 k Y).2 (.inl hc)
     ·exact(x.d2 k Y).2 (.inr (.inl hc))
     rcases wU k hc with hc|hc
     ·exact(x.d2 k Y).2 (.inr (.inr hc))
     have:=jw k Y;omega
    refine⟨λe=>by have:=x.lt s x.ms;omega,λhc=>?_⟩;rcases hc with hc|hc|hc
    ·have:=x.lt k (x.mc k (.inl hc));omega
    ·have:=x.lt k (x.mc k (.inr (.inl hc)));omega
    have:=oD k hc;omega}
 rcases Y with Y|(Y|Y|Y)|Y
 ·exact .inl (by rw[x.mx];exact .inl Y)
 ·exact .inl (x.mc k (.inl Y))
 ·exact .inl (x.mc k (.inr (.inl Y)))
 ·rcases wU k Y with Y|Y
  ·exact .inl (x.mc k (.inr (.inr Y)))
  exact .inr (by omega)
 rcases fA k Y with Y|Y
 ·exact .inl (x.mi k Y)
 exact .inr (by omega)
end
end Go.Proofs.YtchdfdmjihnhkaaGreatDoor
