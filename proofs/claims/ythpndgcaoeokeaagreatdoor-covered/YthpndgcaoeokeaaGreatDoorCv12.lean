import Derived.Test.YthpndgcaoeokeaaGreatDoorCv11
set_option maxRecDepth 100000
set_option maxHeartbeats 8000000
open Go.IntKind renaming i64->Z
open Go.Value renaming int->V,pointer->ε,slice->ζ,ownBlock->κ,int->ϊ
open Go.Ending renaming returned->δ
open Go.Obj renaming cells->η
open List renaming flatMap_cons->θ,length_append->μ,map_cons->ξ,map_map->π,length_filter_le->ρ,length_map->τ,perm_append_comm_assoc->Β,filter_append->Γ,length_cons->Ε,map_append->Η,map_congr_left->Ι,flatMap_append->Κ,append_assoc->Λ,filter_cons->Μ,cons_append->Ν,any_eq_true->Ξ,all_eq_true->Ο,nil_append->Φ,append_nil->Χ,setIfInBounds_toArray->Ψ,mem_cons->ϋ,any_cons->ό,filter_eq_nil_iff->ύ,pairwise_append->Ϙ,mem_map_of_mem->Ϛ,append_toArray->ϛ,set_cons_zero->ϝ,set_cons_succ->Ϟ,pairwise_cons->ϟ,size_toArray->ϡ,push_toArray->Ϣ,pairwise_map->ϣ,not_mem_nil->Ϥ,mem_filter->Ϧ,mem_append->ϧ,length_nil->Ϩ,range->Ϭ
open Go renaming World->ι,Calls->Δ,Ending->ώ
open Go.Lib renaming containsS->ν
open Nat renaming le_refl->ο,le_trans->Ζ,lt_of_lt_of_le->Ϡ,reduceSub->ϩ,reduceAdd->Ϫ
open Go.World renaming putObj_heap_other->υ
open Go.Region renaming binds->φ,wanted->ϥ
open List.Perm renaming append_left->χ,refl->Ϝ
open Go.RowKit.Below renaming refl->ψ
open Go.CallsIn renaming inRound->ω
open Option.some renaming injEq->Α,inj->ϭ
open List.Pairwise renaming nil->Θ,filter->Τ
open Bool renaming and_eq_true->Ρ
open Array renaming replicate->Υ,getElem?_eq_getElem->Ω,replicate_zero->Ϗ,replicate_succ->ϗ,length_toList->ϙ,getD->ϫ
namespace Go.Proofs.YthpndgcaoeokeaaGreatDoor
open Tryz
open Go.RowKit Go.Sort
theorem qw.later {P:Program}{g:Nat}{lb:Array Value}{Ok:List (Array Value)->Prop}{R:aj}{w Y:ι}(h:qw P g lb Ok R w)(hR:∀k,R k->k<w.heap.size)(U:Below w.heap.size w Y):qw P g lb Ok R Y:=
 λl W O atF Js Jp G A=>h l W O atF Js Jp (Ζ U.size G) (λk I=>(A k I).trans (U.block k (hR k I)))
theorem G6 (g:Nat)(lb:Array Value)(f to:Int)(w:ι):
 Δ prog 167 #[.func (.func g) #[] lb,V Z f,V Z to] w λe Y=>
  e=δ (.func (.func 223) #[] #[ε (some ⟨w.heap.size,0,none⟩),ε (some ⟨w.heap.size+1,0,none⟩),ε (some ⟨w.heap.size+1+1,0,none⟩)])/\
  Y=((w.alloc (η #[.func (.func g) #[] lb] 148)).alloc (η #[V Z f] 3)).alloc (η #[V Z to] 3):=by
 go_enter func167,ntmps167;go_wp2_with fail;go_ret;exact⟨rfl,rfl⟩
theorem L4 (p:Nat)(T:LT)(h t:Int)(v:Value)(w:ι)(S:cU w p T T.size h)(hs:LT.eU T.aw)(sz:T.size<=400000)(ht:t<=h):
 Δ prog 98 #[ε (some ⟨p,0,none⟩),V Z t,v] w λE Y=>E=δ (.bool true)/\∃T':LT,cU Y p T' T'.size t/\T'.aw=qK t T.aw/\(∀k∈T'.ax,k∈T.ax)/\ak (λk=>k∈p::T.ax) w Y:=by
 have k2:=S.row.cell (k:=2) rfl;have HS:=H (Cp p T h t w S hs sz);clear S hs;go_enter func98,ntmps98;go_wp2_with (go_at_call 165;refine(HS.out).mono ?_;rintro E w5 ⟨rfl,T',h5⟩;replace h5:=H h5);go_ret;exact⟨rfl,T',h5.out⟩
def afm (p:Nat)(T:LT)(t:Int)(lK:List KE->Prop)(atD:KE->List aJ)(w:ι):ώ->ι->Prop:=λE Y=>
 (∃ks T',lK ks/\(ks.flatMap atD).length+T.size<=500/\E=δ (.bool true)/\cU Y p T' T'.size t/\LT.eU T'.aw/\T'.aw.Perm (ks.flatMap atD++T.aw)/\(∀k∈T'.ax,k∈T.ax\/w.heap.size<=k)/\ak (λk=>k∈p::T.ax) w Y)\/
 ((∃ks,lK ks/\500<(ks.flatMap atD).length+T.size)/\E=δ (.bool false)/\Below w.heap.size w Y)
theorem OC (p:Nat)(T:LT)(h t:Int)(g:Nat)(lb:Array Value)(R:aj)(lK:List KE->Prop)(atD:KE->List aJ)(Eb:aj)(w:ι)(S:cU w p T T.size h)(hs:LT.eU T.aw)(hc:T.size<=500)(ht:h<t)
 (hit:qw prog g lb (λxs=>∃ks,lK ks/\xs=ks.map fi) R w)(mK:∀k,R k->k<w.heap.size)(eg:∀args w,(callFunc g args).run prog w=.ok (.enter g args) w)
 (ib:∀ks,lK ks->∀k∈ks,k.ev.length=18/\∀v∈k.ev,v.oneCell'=true)
 (hC:∀ks,lK ks->∀k∈ks,∀wr:ι,w.heap.size<=wr.heap.size->(∀b,Eb b->wr.heap[b]?=w.heap[b]?)->Δ prog 219 #[.agg #[.string k.kc,.string k.ku],.agg k.ev.toArray,V Z h,V Z t] wr (dR (dF (atD k)) Eb wr))
 (lQ:∀b,Eb b->b<w.heap.size)(hd:∀ks,lK ks->(ks.flatMap atD).Pairwise (λx y=>bM x y≠0)/\∀x∈ks.flatMap atD,∀y∈T.aw,bM x y≠0):
 Δ prog 98 #[ε (some ⟨p,0,none⟩),V Z t,.func (.func g) #[] lb] w (afm p T t lK atD w):=by
 have k2:=S.row.cell (k:=2) rfl;have my:∀args w,(callFunc 223 args).run prog w=.ok (.enter 223 args) w:=enters_of func223 (by kernel_rfl) rfl;have q1:=lL w [.func (.func g) #[] lb] 148 (η #[V Z h] 3) (η #[V Z t] 3);have q2:=lM w (η #[.func (.func g) #[] lb] 148) [V Z h] 3 (η #[V Z t] 3);have q3:=lN w (η #[.func (.func g) #[] lb] 148) (η #[V Z h] 3) [V Z t] 3;have U:=iD w (η #[.func (.func g) #[] lb] 148) (η #[V Z h] 3) (η #[V Z t] 3);have hz:=H (show(((w.alloc (η #[.func (.func g) #[] lb] 148)).alloc (η #[V Z h] 3)).alloc (η #[V Z t] 3)).heap.size=w.heap.size+3 by simp);have sj:=S.aL (O:=λ_=>False) (ak.ar U) (λ_ _ h=>h);have hN:=aff g lb R lK atD Eb h t w.heap.size (w.heap.size+1) (w.heap.size+1+1) _ (qw.later hit mK U) (λk I=>by have:=mK k I;have:=hz.out;omega) eg ib (λks cI k I wr G A=>hC ks cI k I wr (by have:=hz.out;omega) λb fk=>(A b fk).trans (U.block b (lQ b fk))) (λb fk=>by have:=lQ b fk;have:=hz.out;omega) q1 q2 q3;have e:(λxs:List (Array Value)=>∃ks,lK ks/\xs=dF (ks.flatMap atD))=λxs=>∃es,(∃ks,lK ks/\es=ks.flatMap atD)/\xs=dF es:=by
  funext xs;exact propext ⟨λ⟨ks,G,A⟩=>⟨_,⟨ks,G,rfl⟩,A⟩,λ⟨es,⟨ks,G,K⟩,A⟩=>⟨ks,G,by rw[A,K]⟩⟩
 rw[e]at hN;have HA:=H (Ph p T h 223 _ (λes=>∃ks,lK ks/\es=ks.flatMap atD) _ _ sj hs hc hN (λk I=>by
  have:=hz.out;rcases I with rfl|rfl|rfl|h|h
  ·omega
  ·omega
  ·omega
  ·have:=mK k h;omega
  have:=lQ k h;omega) my (λes ⟨ks,cI,he⟩=>by subst he;exact hd ks cI))
 clear hN e q1 q2 q3 hit hC ib hd sj S my;have hzb:=H U;clear U;go_enter func98,ntmps98;go_wp2_with (go_at_call 167;refine(G6 g lb h t w).mono ?_;rintro E w3 ⟨rfl,rfl⟩);refine(HA.out).mono ?_;rintro E w4 (⟨es,T',⟨ks,cI,rfl⟩,hle,rfl,a1,a2,a3,a4,a5⟩|⟨⟨es,⟨ks,cI,rfl⟩,Jg⟩,rfl,cu⟩)
 case inl=>
  have k0:=a1.row.cell (k:=2) rfl;have f0:=a1.row.free (k:=2);have A1:=H a1;have A5:=H a5;clear a1 a5 HA k2;go_wp2_with fail;go_ret;have hn:=A1.out.nd;rw[List.nodup_cons]at hn;have uq:ak (λk=>k=p) w4 (w4.setCell ⟨p,2,none⟩ (V Z t)):=(ak.refl (λk=>k=p) w4).st rfl _;refine .inl ⟨ks,T',cI,hle,rfl,⟨A1.out.row.set (k:=2) _,A1.out.tree.aL uq (λk I e=>hn.1 (e▸I)),A1.out.nd⟩,a2,a3,λk I=>(a4 k I).imp id λh=>by have:=hz.out;omega,?_⟩;exact(((ak.ar hzb.out).aM A5.out).trans uq λk I=>.inl (by simp[I]))
 case inr=>
  have HB:=H (hzb.out.trans (cu.mono hzb.out.size));clear cu HA k2;go_wp2_with fail;go_ret;exact .inr ⟨⟨ks,cI,Jg⟩,rfl,HB.out⟩
theorem R6 (w:ι):
 Δ prog 92 #[] w λE Y=>E=δ (ε (some ⟨w.heap.size,0,none⟩))/\cU Y w.heap.size .nil 0 0/\Below w.heap.size w Y:=by
 go_enter func92,ntmps92;go_wp2_with fail;go_ret;exact⟨rfl,⟨M.new w _ _,trivial,by simp[LT.ax]⟩,(ψ _ _).alloc (ο _) _⟩
theorem G7 (p:Nat)(T:LT)(c h:Int)(w:ι)(S:cU w p T c h):
 Δ prog 170 #[ε (some ⟨p,0,none⟩)] w λE Y=>E=δ (V Z h)/\w=Y:=by
 have k2:=S.row.cell (k:=2) rfl;clear S;go_enter func170,ntmps170;go_wp2_with fail;go_ret;exact⟨rfl,rfl⟩
end Go.Proofs.YthpndgcaoeokeaaGreatDoor
namespace Go.Proofs.YthpndgcaoeokeaaGreatDoor
open Tryz
open Go.RowKit Go.Sort
attribute [local go_sem] Oper.semAt_some
attribute [local go_sem] bG aV
attribute [local simp] bG aV
def afo (e:aJ):mC:=⟨e.k,e.b,e.e⟩
def iR (ns:List ByteArray)(es:List aJ):List mC:=(es.filter λe=>ν ns e.c).map afo
theorem Jh (ns:List ByteArray)(es:List aJ)(e:aJ):iR ns (es++[e])=iR ns es++if ν ns e.c then[afo e]else[]:=by
 unfold iR;cases h:ν ns e.c<;>simp[Γ,h]
theorem Ji (f t:Int)(cs:List mC)(c:mC):eZ f t (cs++[c])=eZ f t cs++[⟨max c.b f,c.k,1⟩,⟨min c.e t,c.k,-1⟩]:=by unfold eZ;simp
theorem DH (f t:Int)(cs:List mC):(eZ f t cs).length=2*cs.length:=by
 induction cs with
 |nil=>rfl
 |cons c cs ih=>
  have e:eZ f t (c::cs)=[⟨max c.b f,c.k,1⟩,⟨min c.e t,c.k,-1⟩]++eZ f t cs:=rfl;rw[e,μ,ih];simp;omega
theorem L5 (ns:List ByteArray)(es:List aJ):(iR ns es).length<=es.length:=by unfold iR;rw[τ];exact ρ _ _
def SJ (p:Nat)(f t:Int)(atD:List eF):aP:=λD W=>D p/\∃v,(∀k,v.ownBlock=some k->D k)/\gP W p f t v atD
theorem SJ.cL {p:Nat}{f t:Int}{atD:List eF}{D:aj}{W:ι}(hD:∀k,D k->k<W.heap.size)(h:SJ p f t atD D W):On D (SJ p f t atD) W:=by
 obtain⟨G,v,A,K⟩:=h;exact⟨hD,λW2 I=>⟨G,v,A,K.row.keep (I p G),dQ K.own λg hg _=>I g (A g hg),K.ne⟩⟩
def CvP (p:Nat)(f t:Int)(atD:List eF)(w:ι):ώ->ι->Prop:=λE Y=>(∃u,E=δ u)/\∃v,gP Y p f t v atD/\ak (λk=>k=p) w Y/\∀k,v.ownBlock=some k->w.heap.size<=k
theorem L6 (s ip p:Nat)(T:LT)(c h f t:Int)(cv nv:Value)(ns:List ByteArray)(w:ι)(S:cU w ip T c h)(hs:LT.eU T.aw)(hc:T.size<=500)(uO:M w s [cv,ε (some ⟨ip,0,none⟩)] 140)(hn:fQ w nv ns)(Uq:ns.length<=9223372036854775807)
 (sJ:gP w p f t (ζ none 0 0) [])(lO:¬p∈ip::T.ax)(E5:nv.ownBlock≠some p):
 Δ prog 103 #[ε (some ⟨s,0,none⟩),ε (some ⟨p,0,none⟩),nv,V Z f,V Z t] w (CvP p f t (eZ f t (iR ns (dz f t T.aw))) w):=by
 obtain⟨an,cn,mA⟩:=hn.sl;have ra:M ((w.alloc (η #[ε (some ⟨p,0,none⟩)] 151)).alloc (η #[ζ an ns.length cn] 52)) w.heap.size [ε (some ⟨p,0,none⟩)] 151:=kK w [ε (some ⟨p,0,none⟩)] 151 (η #[ζ an ns.length cn] 52);have rb:M ((w.alloc (η #[ε (some ⟨p,0,none⟩)] 151)).alloc (η #[ζ an ns.length cn] 52)) (w.heap.size+1) [ζ an ns.length cn] 52:=kM w [ζ an ns.length cn] 52 (η #[ε (some ⟨p,0,none⟩)] 151);have al:=mP w (η #[ε (some ⟨p,0,none⟩)] 151) (η #[ζ an ns.length cn] 52);have aQ:∀k∈ip::T.ax,k<w.heap.size:=λk I=>(List.mem_cons.1 I).elim (λe=>e▸S.row.lt) (S.tree.lt k);have qz:=sJ.row.lt;have my:∀args w,(callFunc 225 args).run prog w=.ok (.enter 225 args) w:=enters_of func225 (by kernel_rfl) rfl;have hI:=H (S.aL (O:=λ_=>False) (ak.ar al) (λ_ _ h=>h));have hS:=H (sJ.on al);have k1:=(uO.on al).cell (k:=1) rfl;have HN:=H (hn.keep (Y:=(w.alloc (η #[ε (some ⟨p,0,none⟩)] 151)).alloc (η #[ζ an ns.length cn] 52)) λj hj=>al.block j (hn.lt hj));rw[mA];rw[mA]at HN E5;clear S sJ uO hn mA;refine(callsIn_wide (n:=0)).1 ?_;refine dr func103 rfl ?_;simp only[ntmps103,ϡ,Ε,Ϩ,Ϫ,ϩ,ϗ,Ϗ,Ϣ,ϛ,Φ,Ν];refine bK λatH hK=>bQ ?_;gi_wp2_with fail;have fN:w.heap.size+2=((w.alloc (η #[ε (some ⟨p,0,none⟩)] 151)).alloc (η #[ζ an ns.length cn] 52)).heap.size:=by simp
 generalize(w.alloc (η #[ε (some ⟨p,0,none⟩)] 151)).alloc (η #[ζ an ns.length cn] 52)=W2 at *
 replace fN:=H fN;refine bK λatH hK=>bQ ?_;gi_wp2_with fail;refine(callsIn_wide.2 (Fp ip f t W2)).mono ?_;rintro E W3 ⟨rfl,aR,o1,o2,o3⟩;clear k1;have sj:=hI.out.aL (O:=λ_=>False) (ak.ar aR) (λ_ _ h=>h);have hit:=G8 W2.heap.size (W2.heap.size+1) (W2.heap.size+2) ip T c h f t W3 sj hs o1 o2 o3;have hS3:=hS.out.on aR;have hN3:=H (HN.out.keep (Y:=W3) λj hj=>aR.block j (HN.out.lt hj));replace ra:=ra.on aR;replace rb:=rb.on aR;have su:=aR.size;have ho1:=o1.lt;have ho2:=o2.lt;have ho3:=o3.lt;have UE:=fN.out;have hol:(dz f t T.aw).length<=500:=by
  have G:(dz f t T.aw).length<=T.aw.length:=ρ _ _;rw[LT.cO]at G;omega
 have iS:=H (al.trans (aR.mono al.size));clear hI HN sj o1 o2 o3 aR al hS;gi_wp2_with fail;refine gB ?_;refine lz (gf:=225) func103 ?g my hit (ο _) (λ_ _=>rfl) (λk I=>by
  rcases I with rfl|rfl|rfl|I
  ·exact ho1
  ·exact ho2
  ·exact ho3
  have:=aQ k I;omega)
  (λk=>k=p) (λk I cj=>by
   subst I;rcases cj with h|h|h|h
   ·omega
   ·omega
   ·omega
   exact lO h) (λi=>SJ p f t (eZ f t (iR ns ((dz f t T.aw).take i)))) (λ_ _ _=>False) (λ_ _ _=>False) ?ps ?start ?round ?done ?stop ?pan
 case g=>rfl
 case ps=>intro x X;obtain⟨d,_,rfl⟩:=List.mem_map.1 X;rfl
 case start=>exact SJ.cL (λk I=>by omega) ⟨rfl,ζ none 0 0,λk I=>by simp[κ]at I,by simpa[iR,eZ]using hS3⟩
 case stop=>
  rintro c W4 ⟨X,D,cD,_,aG⟩ hs bI;exact aG.out.elim
 case pan=>
  rintro c W4 ⟨X,D,cD,_,aG⟩ hs bI;exact aG.out.elim
 case done=>
  rw[qN];rintro W4 ⟨X,D,cD,_,aG⟩ ES bI;obtain⟨_,v,gg,tn⟩:=aG.out;rw[List.take_length]at tn;refine⟨by simp,.inl ⟨_,_,rfl,run_takeDeferred bI,?_⟩⟩;have zr:∀k,v.ownBlock=some k->k≠p/\W3.heap.size+2<=k:=λk I=>by
   have UF:k≠p:=λe=>tn.ne (by rw[I,e]);exact⟨UF,(cD k (gg k I)).resolve_left UF⟩
  refine⟨_,results_none rfl _ _ _,⟨_,rfl⟩,v,⟨tn.row.keep (υ (by omega)),dQ tn.own λg hg _=>υ (by have:=(zr g hg).2;omega),tn.ne⟩,(((ak.ar iS.out).aM X).put (.inr (by omega)) _),λk I=>by have:=(zr k I).2;omega⟩
 case round=>
  intro Ct i x X W4 D zq ES dV aG atH hK;obtain⟨e,hd⟩:∃e,(dz f t T.aw)[i]?=some e:=⟨_,List.getElem?_eq_getElem (by have:=(List.getElem?_eq_some_iff.1 X).1;rwa [qN]at this)⟩;rw[yq hd]at X;cases X;unfold di bA;gi_wp2_with fail;have fO:Below W4.heap.size W4 (W4.alloc (η (bA e).toArray 223)):=(ψ _ _).alloc (ο _) _;refine hK _ _ (λk=>D k\/k=W4.heap.size) fO (λk I=>I.imp id λh=>by omega) (λk I=>.inl I) (λk I=>I.elim (λh=>by have:=aG.1 k h;simp;omega) (λh=>by simp;omega)) ?_;intro l' W5 fG bL uq;have q6:=(M.new W4 (bA e) 223).keep (fG _ (.inr rfl));have ea:=aG.on (W':=W5) λk I=>(fG k (.inl I)).trans (fO.block k (aG.1 k I));have ya:=(ra.aL bL (by omega)).cell (k:=0) rfl;have yb:=(rb.aL bL (by omega)).cell (k:=0) rfl;have hN5:=hN3.out.keep (Y:=W5) λj hj=>bL.block j (hN3.out.lt hj) (λe=>E5 (e▸hj));have CN:=H (yx hN5 e.c Uq);have dN:∀k,D k\/k=W4.heap.size->k<W5.heap.size:=λk I=>I.elim (ea.1 k) (λh=>by have:=q6.lt;omega);obtain⟨Fe,v,gg,tn⟩:=ea.out;obtain⟨x0,x1,x2,x3,x4⟩:=mv (e:=e) q6;have uN:(dz f t T.aw).take (i+1)=(dz f t T.aw).take i++[e]:=by rw[List.take_add_one,hd];rfl
  have dY:(eZ f t (iR ns ((dz f t T.aw).take i))).length+2<=16777216:=by
   rw[DH];have G:=L5 ns ((dz f t T.aw).take i);have A:((dz f t T.aw).take i).length<=(dz f t T.aw).length:=by rw[List.length_take];omega
   omega
  clear hK fG hit aG fO ea;gi_wp2_with fail;refine(ω l' (callsIn_wide.2 CN.out)).mono ?_;rintro E W6 ⟨rfl,rfl⟩;clear yb CN;cases o5:ν ns e.c
  case false=>
   have hX:iR ns ((dz f t T.aw).take (i+1))=iR ns ((dz f t T.aw).take i):=by rw[uN,Jh,o5];simp
   clear x0 x1 x2 x3 x4 ya;gi_wp2_with fail;show aN _ _ _ _ _;refine⟨ak.refl _ _,λk=>D k\/k=W4.heap.size,λk I=>.inl I,λk I=>I,?_⟩;rw[hX];exact SJ.cL dN ⟨.inl Fe,v,λk I=>.inl (gg k I),tn⟩
  case true=>
   have hX:eZ f t (iR ns ((dz f t T.aw).take (i+1)))=eZ f t (iR ns ((dz f t T.aw).take i))++[⟨max e.b f,e.k,1⟩,⟨min e.e t,e.k,-1⟩]:=by rw[uN,Jh,o5,if_pos rfl,Ji];rfl
   have UG:=H (IS p f t v _ e.k e.b e.e W5 tn dY);gi_wp2_with fail;refine(ω l' (callsIn_wide.2 UG.out)).mono ?_;rintro E W7 ⟨rfl,v7,UH,iJ,hv7⟩;clear x0 x1 x2 x3 x4 ya UG;gi_wp2_with fail;show aN _ _ _ _ _;have Yu:ak (λk=>D k\/k=W4.heap.size) W5 W7:=iJ.mono λk I=>.inl (I.elim (λe=>.inl (e▸Fe)) (λh=>.inl (gg k h)));refine⟨Yu,λk=>(D k\/k=W4.heap.size)\/v7.ownBlock=some k,λk I=>I.elim .inl λh=>(hv7 k h).imp (λh'=>.inl (gg k h')) id,λk I=>.inl I,?_⟩;rw[hX];exact SJ.cL (λk I=>I.elim (λh=>Ϡ (dN k h) iJ.size) (λh=>(UH.own.lt k h).2)) ⟨.inl (.inl Fe),v7,λk I=>.inr I,UH⟩
end Go.Proofs.YthpndgcaoeokeaaGreatDoor
namespace Go.Proofs.YthpndgcaoeokeaaGreatDoor
open Tryz
open Go.RowKit
structure aK where
 kc:ByteArray
 ku:ByteArray
 st:Int
 ln:Int
 hr:Bool
 r:aC
 ex:List Int
 xt:List Int
 tr:Bool
 k:Int
theorem R7 (t:Int)(ls:List Int):(gJ t ls).length<=ls.length:=by
 unfold gJ;split
 ·simp
 split<;>simp
theorem L7:∀ts ls:List Int,(jn ts ls).length<=ts.length+ls.length
 |[],ls=>by simp[jn]
 |t::ts,ls=>by
  rw[jn,μ,Ε,Ε];have G:=L7 ts (gJ t (ls.dropWhile λx=>decide (x<t)));have A:=R7 t (ls.dropWhile λx=>decide (x<t));have K:(ls.takeWhile λx=>decide (x<t)).length+(ls.dropWhile λx=>decide (x<t)).length=ls.length:=by rw[<-μ,List.takeWhile_append_dropWhile]
  omega
theorem G9:∀(l:List Int) (a b:Int),fR l->(∀x∈l,a<=x/\x<b)->(l.length:Int)<=max 0 (b-a)
 |[],a,b,_,_=>by simp;omega
 |x::l,a,b,h,U=>by
  obtain⟨G,A⟩:=List.pairwise_cons.1 h;have:=G9 l (x+1) b A λy hy=>⟨by have:=G y hy;omega,(U y (by simp[hy])).2⟩;have:=U x (by simp);simp;omega
namespace aK
def ok (d:aK):Prop:=(d.hr=true->eu d.r)/\(0<=d.st/\d.st<=7258118400)/\(1<=d.ln/\d.ln<=10000000)/\fR d.xt/\d.xt.length<=1000
def tm (d:aK)(f to:Int):List Int:=ff d.hr d.r d.st f to d.ex d.xt
def is (d:aK)(x:Int):Prop:=isT d.hr d.r d.st d.ex d.xt x
def kd (d:aK):Int:=eD d.tr d.k
def aw (d:aK)(f to:Int):List aJ:=qM d.kc d.ku d.ln d.tr d.k (d.tm f to)
def AG (d:aK)(f t:Int):List mC:=if d.kd=0 then[]else(d.tm (f-d.ln+1) t).map λx=>⟨d.kd,x,x+d.ln⟩
theorem R8 {d:aK}(h:d.ok){x:Int}(X:d.is x):0<=x:=by
 obtain⟨G,⟨A,_⟩,_⟩:=h;obtain⟨_,⟨a,⟨y,hy,rfl⟩,_⟩|⟨_,rfl⟩|⟨_,b⟩⟩:=X
 ·have:=((BR d.r (G a) d.st 0 7299999999 A (by omega)).2 y).1 hy;omega
 ·exact A
 omega
theorem pW {d:aK}(h:d.ok){f to:Int}(t1:to<=7258118400):fR (d.tm f to):=(PR d.hr d.r d.st f to d.ex d.xt h.1 h.2.1.1 t1 h.2.2.2.1).1
theorem iM {d:aK}(h:d.ok){f to:Int}(t1:to<=7258118400){x:Int}:x∈d.tm f to↔d.is x/\f<=x/\x<to:=(PR d.hr d.r d.st f to d.ex d.xt h.1 h.2.1.1 t1 h.2.2.2.1).2 x
theorem Yv {d:aK}(h:d.ok){f m to:Int}(G:f<=m)(A:m<=to)(t1:to<=7258118400):d.tm f to=d.tm f m++d.tm m to:=by
 refine AH (pW h t1) ?_ λx=>?_
 ·unfold fR;rw[Ϙ];exact⟨pW h (by omega),pW h t1,λa ha b U=>by
   have:=(iM h (by omega)).1 ha;have:=(iM h t1).1 U;omega⟩
 rw[ϧ,iM h t1,iM h (by omega),iM h t1];constructor
 ·rintro⟨a,b,c⟩;by_cases X:x<m
  ·exact .inl ⟨a,b,X⟩
  exact .inr ⟨a,by omega,c⟩
 rintro(⟨a,b,c⟩|⟨a,b,c⟩)
 ·exact⟨a,b,by omega⟩
 exact⟨a,by omega,c⟩
theorem afq {d:aK}(h:d.ok){f S to:Int}(A:S<=to)(t1:to<=7258118400):(d.tm f to).filter (λx=>decide (x<S))=d.tm f S:=by
 refine AH (Τ _ (pW h t1)) (pW h (by omega)) λx=>?_;rw[Ϧ,iM h t1,iM h (by omega),decide_eq_true_eq];exact⟨λ⟨⟨a,b,_⟩,c⟩=>⟨a,b,c⟩,λ⟨a,b,c⟩=>⟨⟨a,b,by omega⟩,c⟩⟩
theorem afr {d:aK}(h:d.ok){f t hz:Int}(A:t<=hz)(t1:hz<=7258118400):(d.tm 0 hz).filter (λx=>decide (x<t)&&decide (f<x+d.ln))=d.tm (f-d.ln+1) t:=by
 refine AH (Τ _ (pW h t1)) (pW h (by omega)) λx=>?_;rw[Ϧ,iM h t1,iM h (by omega),Ρ,decide_eq_true_eq,decide_eq_true_eq];constructor
 ·rintro⟨⟨a,b,_⟩,c,e⟩;exact⟨a,by omega,c⟩
 rintro⟨a,b,c⟩;have:=R8 h a;exact⟨⟨a,this,by omega⟩,c,by omega⟩
theorem vA {d:aK}(h:d.ok){f to:Int}(t1:to<=7258118400):∀t∈d.tm f to,-100000000000<=t/\t<=100000000000:=λt ht=>by
 obtain⟨a,b,c⟩:=(iM h t1).1 ht;have:=R8 h a;omega
theorem afs {d:aK}(h:d.ok){f to:Int}(t1:to<=7258118400):(d.tm f to).length<=86000:=by
 unfold tm ff;have G:=L7 (tp d.hr d.r d.st f to d.ex) (ix d.st f to d.ex d.xt);have A:(ix d.st f to d.ex d.xt).length<=d.xt.length:=ρ _ _;have K:(tp d.hr d.r d.st f to d.ex).length<=(uP d.hr d.r d.st f to).length:=by
  unfold tp vK;exact Ζ (ρ _ _) (by rw[τ];exact ο _)
 have h4:(uP d.hr d.r d.st f to).length<=84007:=by
  unfold uP;cases hr:d.hr with
  |true=>
   rw[if_pos rfl];obtain⟨g1,g2⟩:=BR d.r (h.1 hr) d.st f (iN d.r.un d.st to) h.2.1.1 (by unfold iN;omega);have:=G9 _ 0 84007 g1 λx X=>by
    obtain⟨a,b,_⟩:=(g2 x).1 X;have:=((BR d.r (h.1 hr) d.st 0 7299999999 h.2.1.1 (by omega)).2 x).1 a;unfold iN at b;omega
   omega
  |false=>
   rw[if_neg (by simp)];split<;>simp
 have:=h.2.2.2.2;omega
theorem kx {d:aK}{f to:Int}{e:aJ}(h:e∈d.aw f to):e.c=d.kc/\e.u=d.ku/\e.e=e.b+d.ln/\e.b∈d.tm f to/\e.k=d.kd/\d.kd≠0:=by
 unfold aw qM at h;split at h
 ·cases h
 rename_i h0;unfold mL at h;obtain⟨x,X,rfl⟩:=List.mem_map.1 h;exact⟨rfl,rfl,rfl,X,rfl,h0⟩
theorem L8 (d:aK)(f to f' to':Int)(p:Int->Bool)(h:(d.tm f to).filter p=d.tm f' to')(q:aJ->Bool)(hq:∀x,q ⟨x,x+d.ln,d.kc,d.ku,d.kd⟩=p x):(d.aw f to).filter q=d.aw f' to':=by
 unfold aw qM;split
 ·rfl
 unfold mL;rw[List.filter_map,<-h];congr 1;apply List.filter_congr;intro x _;exact hq x
theorem BS {d:aK}(h:d.ok){f to:Int}(t1:to<=7258118400):(d.aw f to).Pairwise λx y=>bM x y≠0:=by
 unfold aw qM;split
 ·exact Θ
 unfold mL;rw[ϣ];refine(pW h t1).imp λ{a b} TI e=>?_;have:=(il.1 e).1;simp at this;omega
theorem R9 {d:aK}(h:d.ok){f m to:Int}(G:f<=m)(A:m<=to)(t1:to<=7258118400):d.aw f to=d.aw f m++d.aw m to:=by
 unfold aw qM;split
 ·rfl
 unfold mL;rw[Yv h G A t1,Η]
theorem Yw {d:aK}(h:d.ok){f S to:Int}(A:S<=to)(t1:to<=7258118400):qK S (d.aw f to)=d.aw f S:=L8 d f to f S _ (afq h A t1) _ λ_=>rfl
theorem UI {d:aK}(h:d.ok):d.aw 0 0=[]:=by
 refine List.eq_nil_iff_forall_not_mem.2 λe he=>?_;have:=(iM h (by omega)).1 (kx he).2.2.2.1;omega
theorem Yx {d:aK}(h:d.ok){f to:Int}(t1:to<=7258118400):∀e∈d.aw f to,0<=e.b:=λ_ he=>R8 h ((iM h t1).1 (kx he).2.2.2.1).1
theorem Yy {d:aK}(h:d.ok){f t hz:Int}(A:t<=hz)(t1:hz<=7258118400)(ns:List ByteArray):iR ns (dz f t (d.aw 0 hz))=if ν ns d.kc then d.AG f t else[]:=by
 have e1:dz f t (d.aw 0 hz)=d.aw (f-d.ln+1) t:=L8 d 0 hz (f-d.ln+1) t _ (afr h A t1) _ λ_=>rfl;rw[e1];unfold iR;cases hc:ν ns d.kc with
 |true=>
  rw[if_pos rfl,List.filter_eq_self.2 λe he=>by rw[(kx he).1];exact hc];unfold aw qM AG kd;split
  ·rfl
  unfold mL;rw[π];rfl
 |false=>
  rw[if_neg (by simp),List.filter_eq_nil_iff.2 λe he=>by rw[(kx he).1,hc];simp];rfl
end aK
def oz (ds:List aK):Prop:=ds.Pairwise λx y=>¬(x.kc=y.kc/\x.ku=y.ku)
theorem aft {ds:List aK}(I:oz ds)(ho:∀d∈ds,d.ok){f to:Int}(t1:to<=7258118400):(ds.flatMap (·.aw f to)).Pairwise λx y=>bM x y≠0:=by
 induction ds with
 |nil=>exact Θ
 |cons d ds ih=>
  unfold oz at I;rw[ϟ]at I;rw[θ,Ϙ];refine⟨aK.BS (ho d (by simp)) t1,ih I.2 (λx X=>ho x (by simp[X])),λa ha b U e=>?_⟩;obtain⟨y,hy,U⟩:=List.mem_flatMap.1 U;obtain⟨a1,a2,_⟩:=aK.kx ha;obtain⟨b1,b2,_⟩:=aK.kx U;obtain⟨_,e1,e2⟩:=il.1 e;exact I.1 y hy ⟨by rw[<-a1,e1,b1],by rw[<-a2,e2,b2]⟩
theorem other_key {ds:List aK}{d:aK}{f to f' to':Int}(hn:∀x∈ds,¬(d.kc=x.kc/\d.ku=x.ku)){a b:aJ}(ha:a∈d.aw f to)(U:b∈ds.flatMap (·.aw f' to')):bM a b≠0:=λe=>by
 obtain⟨y,hy,U⟩:=List.mem_flatMap.1 U;obtain⟨a1,a2,_⟩:=aK.kx ha;obtain⟨b1,b2,_⟩:=aK.kx U;obtain⟨_,e1,e2⟩:=il.1 e;exact hn y hy ⟨by rw[<-a1,e1,b1],by rw[<-a2,e2,b2]⟩
theorem UJ {ds:List aK}(ho:∀d∈ds,d.ok){f m to:Int}(G:f<=m)(A:m<=to)(t1:to<=7258118400):(ds.flatMap (·.aw f to)).Perm (ds.flatMap (·.aw m to)++ds.flatMap (·.aw f m)):=by
 induction ds with
 |nil=>exact Ϝ _
 |cons d ds ih=>
  rw[θ,θ,θ,aK.R9 (ho d (by simp)) G A t1];have h:=ih (λx X=>ho x (by simp[X]));rw[Λ,Λ];refine Β _ _ _|>.trans ?_;refine χ _ ?_;refine(χ _ h).trans ?_;exact Β _ _ _
theorem ac1 {ds:List aK}(ho:∀d∈ds,d.ok){f S to:Int}(A:S<=to)(t1:to<=7258118400):qK S (ds.flatMap (·.aw f to))=ds.flatMap (·.aw f S):=by
 induction ds with
 |nil=>rfl
 |cons d ds ih=>
  have h:=ih (λx X=>ho x (by simp[X]));unfold qK at h⊢;rw[θ,θ,Γ,h];congr 1;exact aK.Yw (ho d (by simp)) A t1
theorem all_zero {ds:List aK}(ho:∀d∈ds,d.ok):ds.flatMap (·.aw 0 0)=[]:=by
 induction ds with
 |nil=>rfl
 |cons d ds ih=>rw[θ,aK.UI (ho d (by simp)),ih (λx X=>ho x (by simp[X]))];rfl
def oJ (ns:List ByteArray)(ds:List aK)(f t:Int):List mC:=(ds.filter λd=>ν ns d.kc).flatMap (·.AG f t)
theorem Yz (ns:List ByteArray)(x y:List aJ):iR ns (x++y)=iR ns x++iR ns y:=by unfold iR;rw[Γ,Η]
theorem YA {ds:List aK}(ho:∀d∈ds,d.ok){f t hz:Int}(A:t<=hz)(t1:hz<=7258118400)(ns:List ByteArray):iR ns (dz f t (ds.flatMap (·.aw 0 hz)))=oJ ns ds f t:=by
 unfold oJ
 induction ds with
 |nil=>rfl
 |cons d ds ih=>
  rw[θ,PS,Yz,ih (λx X=>ho x (by simp[X])),aK.Yy (ho d (by simp)) A t1,Μ];cases ν ns d.kc<;>simp
theorem YB {ds:List aK}{es:List aJ}(ho:∀d∈ds,d.ok){f t hz:Int}(A:t<=hz)(t1:hz<=7258118400)(ns:List ByteArray)(J:es.Perm (ds.flatMap (·.aw 0 hz))):(iR ns (dz f t es)).Perm (oJ ns ds f t):=by
 rw[<-YA ho A t1 ns];unfold iR dz;exact((J.filter _).filter _).map _
theorem L9 {cs mR:List mC}(h:cs.Perm mR)(p:mC->Bool):cs.any p=mR.any p:=by
 rw[Bool.eq_iff_iff,Ξ,Ξ];exact⟨λ⟨x,a,b⟩=>⟨x,h.mem_iff.1 a,b⟩,λ⟨x,a,b⟩=>⟨x,h.mem_iff.2 a,b⟩⟩
theorem YC {cs mR:List mC}(h:cs.Perm mR):AI cs=AI mR:=by
 funext s;unfold AI;rw[L9 h,L9 h]
theorem PT {ds:List aK}(ho:∀d∈ds,d.ok){f t:Int}(t1:t<=7258118400)(ns:List ByteArray):∀c∈oJ ns ds f t,(c.b<c.e/\c.b<t/\f<c.e)/\(c.k=1\/c.k=2):=by
 intro c hc;unfold oJ at hc;obtain⟨d,hd,hc⟩:=List.mem_flatMap.1 hc;have cI:=ho d (List.mem_filter.1 hd).1;unfold aK.AG at hc;split at hc
 ·cases hc
 rename_i h0;obtain⟨x,X,rfl⟩:=List.mem_map.1 hc;have G:=(aK.iM cI t1).1 X;have A:=cI.2.2.1.1;refine⟨⟨?_,?_,?_⟩,?_⟩
 ·show x<x+d.ln;omega
 ·show x<t;omega
 ·show f<x+d.ln;omega
 unfold aK.kd eD at h0⊢;show(if _ then _ else _:Int)=1\/(if _ then _ else _:Int)=2;split at h0
 ·exact absurd rfl h0
 rename_i hq;rw[if_neg hq];split
 ·exact .inl rfl
 exact .inr rfl
def Fq (ns:List ByteArray)(ds:List aK)(f t:Int)(s:ByteArray):Prop:=∃L,mS (AI (oJ ns ds f t)) t f L/\s=pU f t L
theorem ac2 {ns:List ByteArray}{ds:List aK}{f t:Int}{cs:List mC}{es:List eF}(ho:∀d∈ds,d.ok)(xr:f<t)(t1:t<=7258118400)(hc:cs.Perm (oJ ns ds f t))(J:es.Perm (eZ f t cs))(hs:es.Pairwise λx y=>x.t<=y.t):Fq ns ds f t (pU f t (gi 0 0 f 0 es)):=by
 refine⟨_,?_,rfl⟩;rw[<-YC hc];exact Sa xr (λc h=>(PT ho t1 ns c (hc.mem_iff.1 h)).1) J hs
def iT (c u:ByteArray)(d:aK):Bool:=decide (d.kc=c)&&decide (d.ku=u)
theorem jW {c u:ByteArray}{d:aK}:iT c u d=true↔d.kc=c/\d.ku=u:=by unfold iT;simp
def qR (c u:ByteArray)(ds:List aK):Bool:=ds.any (iT c u)
def mn (d:aK)(ds:List aK):List aK:=if qR d.kc d.ku ds then ds.map λx=>if iT d.kc d.ku x then d else x else ds++[d]
def oK (c u:ByteArray)(ds:List aK):List aK:=ds.filter λx=>!iT c u x
def iy (ds:List aK)(h:Int):Nat:=(ds.flatMap (·.aw 0 h)).length
theorem oz.tail {d:aK}{ds:List aK}(h:oz (d::ds)):oz ds:=(List.pairwise_cons.1 h).2
theorem oz.head {d x:aK}{ds:List aK}(h:oz (d::ds))(X:x∈ds):¬(d.kc=x.kc/\d.ku=x.ku):=(List.pairwise_cons.1 h).1 x X
theorem AK {c u:ByteArray}{ds:List aK}(h:∀x∈ds,iT c u x=false):oK c u ds=ds:=List.filter_eq_self.2 λx X=>by rw[h x X];rfl
theorem AL {d:aK}{ds:List aK}(h:oz (d::ds)):oK d.kc d.ku (d::ds)=ds:=by
 have G:iT d.kc d.ku d=true:=jW.2 ⟨rfl,rfl⟩;unfold oK;rw[Μ,G];exact AK λx X=>by
  cases hs:iT d.kc d.ku x with
  |false=>rfl
  |true=>exact absurd ⟨(jW.1 hs).1.symm,(jW.1 hs).2.symm⟩ (h.head X)
theorem AM {c u:ByteArray}{d:aK}{ds:List aK}(h:iT c u d=false):oK c u (d::ds)=d::oK c u ds:=by
 unfold oK;rw[Μ,h];rfl
theorem Jj {d:aK}{ds:List aK}{f:aK->List aJ}(h:oz ds):((mn d ds).flatMap f).Perm (f d++(oK d.kc d.ku ds).flatMap f):=by
 unfold mn;cases hh:qR d.kc d.ku ds with
 |false=>
  rw[if_neg (by simp),AK λx X=>by
   cases hs:iT d.kc d.ku x with
   |false=>rfl
   |true=>rw[qR,List.any_eq_false]at hh;exact absurd hs (hh x X),Κ]
  simp only[θ,List.flatMap_nil,Χ];exact List.perm_append_comm
 |true=>
  rw[if_pos rfl]
  induction ds with
  |nil=>cases hh
  |cons x ds ih=>
   cases X:iT d.kc d.ku x with
   |true=>
    obtain⟨e1,e2⟩:=jW.1 X;have e3:oK d.kc d.ku (x::ds)=ds:=by rw[<-e1,<-e2];exact AL h
    have e4:(ds.map λx=>if iT d.kc d.ku x then d else x)=ds:=by
     conv=>rhs;rw[<-List.map_id ds]
     apply Ι;intro y hy;rw[if_neg]
     ·rfl
     intro hs;obtain⟨a1,a2⟩:=jW.1 hs;exact h.head hy ⟨by rw[e1,a1],by rw[e2,a2]⟩
    rw[ξ,e3,e4,if_pos X,θ]
   |false=>
    have A:qR d.kc d.ku ds=true:=by unfold qR at hh⊢;rw[ό,X]at hh;simpa using hh
    rw[ξ,if_neg (by rw[X];simp),AM X,θ,θ];refine(χ _ (ih h.tail A)).trans ?_;exact Β _ _ _
theorem Jk (e:aJ):bM e e=0:=il.2 ⟨rfl,rfl,rfl⟩
theorem OD {c u:ByteArray}{f to:Int}{ds:List aK}(I:oz ds){d:aK}(hd:d∈ds)(hs:iT c u d=true):fy (d.aw f to) (ds.flatMap (·.aw f to))=(oK c u ds).flatMap (·.aw f to):=by
 obtain⟨e1,e2⟩:=jW.1 hs;have aU:fy (d.aw f to) (d.aw f to)=[]:=by
  unfold fy;rw[ύ];intro y hy;rw[Ο];exact λh=>of_decide_eq_true (h y hy) (Jk y)
 have afu:∀ds':List aK,(∀x∈ds',¬(d.kc=x.kc/\d.ku=x.ku))->fy (d.aw f to) (ds'.flatMap (·.aw f to))=ds'.flatMap (·.aw f to):=λds' hn=>by
  unfold fy;rw[List.filter_eq_self];intro y hy;simp only[Ο,decide_eq_true_eq];exact λx X=>other_key hn X hy
 have amS:∀a b:List aJ,fy (d.aw f to) (a++b)=fy (d.aw f to) a++fy (d.aw f to) b:=λa b=>Γ _ _
 induction ds with
 |nil=>cases hd
 |cons x ds ih=>
  rw[θ,amS];rcases List.mem_cons.1 hd with rfl|hd
  ·rw[aU,<-e1,<-e2,AL I,afu ds λy hy=>I.head hy];rfl
  have X:¬(d.kc=x.kc/\d.ku=x.ku):=λ⟨a,b⟩=>I.head hd ⟨a.symm,b.symm⟩;have ef:iT c u x=false:=by
   cases h:iT c u x with
   |false=>rfl
   |true=>obtain⟨a,b⟩:=jW.1 h;exact absurd ⟨by rw[e1,a],by rw[e2,b]⟩ X
  have:=afu [x] (by simpa using X);simp only[θ,List.flatMap_nil,Χ]at this;rw[this,ih I.tail hd,AM ef,θ]
theorem OE {atD a b:List aJ}(h:a.Perm b):(fy atD a).Perm (fy atD b):=h.filter _
theorem yz {c u:ByteArray}{ds:List aK}{x:aK}(h:x∈oK c u ds):x∈ds/\¬(c=x.kc/\u=x.ku):=by
 obtain⟨G,A⟩:=List.mem_filter.1 h;refine⟨G,λ⟨a,b⟩=>?_⟩;rw[jW.2 ⟨a.symm,b.symm⟩]at A;cases A
theorem ac3 {d:aK}{ds:List aK}(h:∀x∈ds,x.ok)(hd:d.ok):∀x∈mn d ds,x.ok:=by
 intro x X;unfold mn at X;split at X
 ·obtain⟨y,hy,rfl⟩:=List.mem_map.1 X;split
  ·exact hd
  exact h y hy
 rcases List.mem_append.1 X with X|X
 ·exact h x X
 rw[List.mem_singleton.1 X];exact hd
theorem Fs {ds:List aK}(ho:∀d∈ds,d.ok):iy ds 0=0:=by unfold iy;rw[all_zero ho];rfl
open Go.RowKit Go.Sort
theorem dR.later {xs:List (Array Value)}{E:aj}{w w1:ι}{e:ώ}{Y:ι}(U:Below w.heap.size w w1)(h:dR xs E w1 e Y):dR xs E w e Y:=by
 obtain⟨g,lb,R,G,A,K,h4,h5⟩:=h;exact⟨g,lb,R,G,A,λk I=>⟨(K k I).1,(K k I).2.imp id λh=>Ζ U.size h⟩,h4,U.trans (h5.mono U.size)⟩
theorem YD (u:ByteArray)(st ln:Int)(hr:Bool)(r:aC)(m md wk pl:Value)(tx:ByteArray)(aI aH:Value)(ex xt:List Int)(tr:Bool)(k:Int)(f to:Int)(w:ι)(N:kt w hr r m md wk pl aI aH ex xt)
 (s0:0<=st)(s1:st<=7258118400)(l0:1<=ln)(l1:ln<=10000000)(f0:0<=f)(f1:f<=7258118400)(t0:0<=to)(t1:to<=7258118400)(o4:∀t∈ff hr r st (f-ln+1) to ex xt,-100000000000<=t/\t<=100000000000):
 Δ prog 175 #[.agg (cF u st ln hr r m md wk pl tx aI aH tr k).toArray,V Z f,V Z to] w (dR (pM ln (ff hr r st (f-ln+1) to ex xt)) (kY m md wk pl aI aH) w):=by
 have al:Below w.heap.size w (w.alloc (η (cF u st ln hr r m md wk pl tx aI aH tr k).toArray 79)):=(ψ _ _).alloc (ο _) _;have xl:=M.new w (cF u st ln hr r m md wk pl tx aI aH tr k) 79;have C:=H (sX u st ln hr r m md wk pl tx aI aH ex xt tr k (f-ln+1) to _ (N.on al) s0 s1 (by omega) l1 (by omega) (by omega) t0 t1 o4);have k2:=xl.cell (k:=2) rfl;have hw1:IntKind.i64.wrap (f-ln)=f-ln:=gN (by omega) (by omega);have EM:IntKind.i64.wrap (f-ln+1)=f-ln+1:=gN (by omega) (by omega);have iG:(cF u st ln hr r m md wk pl tx aI aH tr k).length=18:=rfl;have HB:=H al;clear o4 N al;generalize pM ln (ff hr r st (f-ln+1) to ex xt)=XS at *
 generalize cF u st ln hr r m md wk pl tx aI aH tr k=EV at *
 go_enter func175,ntmps175;go_wp2_with (first
  |(refine Ay rfl rfl rfl xl underlying79 rfl (by rw[iG];exact jk) ?_)
  |(go_at_call 90;refine(C.out).mono ?_;rintro E W h9;obtain⟨g,lb,R,rfl,h9'⟩:=h9;replace h9':=H h9'))
 go_ret;exact dR.later HB.out ⟨g,lb,R,rfl,h9'.out⟩
end Go.Proofs.YthpndgcaoeokeaaGreatDoor
namespace Go.Proofs.YthpndgcaoeokeaaGreatDoor
open Tryz
open Go.RowKit Go.Sort
attribute [local go_sem] Oper.semAt_some
attribute [local go_sem] bG aV
attribute [local simp] bG aV
def qS (e:List Value):Array Value:=#[.agg e.toArray]
theorem DL {x y:List Value}(h:qS x=qS y):x=y:=by unfold qS at h;simpa using h
theorem oL {α β:Type}{g:α->β}(hg:∀{x y},g x=g y->x=y):∀{a b:List α},a.map g=b.map g->a=b
 |[],[],_=>rfl
 |[],_::_,h=>by cases h
 |_::_,[],h=>by cases h
 |x::a,y::b,h=>by
  rw[ξ,ξ]at h;injection h with G A
  rw[hg G,oL hg A]
theorem yA {α β:Type}{g:α->β}(hg:∀{x y},g x=g y->x=y):∀{es fs:List α} {x:β} {gA:List β},es.map g++x::gA=fs.map g->∃e r,fs=es++e::r/\x=g e
 |[],[],_,_,h=>by cases h
 |[],e::r,_,_,h=>by
  have h':=List.cons.inj (show _::_=g e::r.map g from h);exact⟨e,r,rfl,h'.1⟩
 |_::_,[],_,_,h=>by cases h
 |a::es,b::fs,x,gA,h=>by
  have h':g a::(es.map g++x::gA)=g b::fs.map g:=h;injection h' with G A
  obtain⟨e,r,rfl,X⟩:=yA hg A;exact⟨e,r,by rw[hg G];rfl,X⟩
def AN (x:Int×Int):Array Value:=#[.agg #[V Z x.1,V Z x.2]]
theorem Ha {x y:Int×Int}(h:AN x=AN y):x=y:=by
 obtain⟨a,b⟩:=x;obtain⟨c,d⟩:=y;unfold AN at h;simp at h;rw[h.1,h.2]
def jJ (k:Int)(s:List (Int×Int)):List mC:=s.map λx=>⟨k,x.1,x.2⟩
def Ft (p:Nat)(f t:Int)(atD:List Value->List mC)(pre:List (Array Value)):aP:=λD W=>∃es:List (List Value),pre=es.map qS/\SJ p f t (eZ f t (es.flatMap atD)) D W
theorem Ft.cL {p:Nat}{f t:Int}{atD:List Value->List mC}{pre:List (Array Value)}{D:aj}{W:ι}(hD:∀k,D k->k<W.heap.size)(h:Ft p f t atD pre D W):On D (Ft p f t atD pre) W:=by
 obtain⟨es,G,A⟩:=h;exact⟨hD,λW2 I=>⟨es,G,(SJ.cL hD A).2 W2 I⟩⟩
def PU (p:Nat)(f t:Int)(atx:List mC)(k:Int)(pre:List (Array Value)):aP:=λD W=>∃s:List (Int×Int),pre=s.map AN/\SJ p f t (eZ f t (atx++jJ k s)) D W
theorem PU.cL {p:Nat}{f t:Int}{atx:List mC}{k:Int}{pre:List (Array Value)}{D:aj}{W:ι}(hD:∀k,D k->k<W.heap.size)(h:PU p f t atx k pre D W):On D (PU p f t atx k pre) W:=by
 obtain⟨es,G,A⟩:=h;exact⟨hD,λW2 I=>⟨es,G,(SJ.cL hD A).2 W2 I⟩⟩
theorem YE (atB:Array Value)(n:Nat)(v:Value):Array.foldl (λt (x:Nat×Value)=>match x with|(p,v)=>t.setIfInBounds p v) atB (#[n].zip #[v])=atB.setIfInBounds n v:=by simp
theorem Ma (s cp b p:Nat)(f t:Int)(v0 iv nv:Value)(ns:List ByteArray)(ks:List KE)(kd:List Value->Int)(sp:List Value->List (Int×Int))(Eb:aj)(w:ι)(hm:lf w b ks)(hc:M w cp [v0,.map (some b)] 202)(uO:M w s [ε (some ⟨cp,0,none⟩),iv] 140)
 (hn:fQ w nv ns)(Uq:ns.length<=9223372036854775807)(ib:∀k∈ks,k.ev.length=18/\∀v∈k.ev,v.oneCell'=true)(sJ:gP w p f t (ζ none 0 0) [])(lO:p≠cp/\p≠b)(E5:nv.ownBlock≠some p)
 (hK:∀k∈ks,∀wr:ι,w.heap.size<=wr.heap.size->(∀j,Eb j->wr.heap[j]?=w.heap[j]?)->Δ prog 174 #[.agg k.ev.toArray] wr λe Y=>e=δ (V Z (kd k.ev))/\Below wr.heap.size wr Y)
 (hO:∀k∈ks,kd k.ev≠0->∀wr:ι,w.heap.size<=wr.heap.size->(∀j,Eb j->wr.heap[j]?=w.heap[j]?)->Δ prog 175 #[.agg k.ev.toArray,V Z f,V Z t] wr (dR ((sp k.ev).map AN) Eb wr))
 (lQ:∀j,Eb j->j<w.heap.size/\j≠p)(hT:∀dK:List KE,dK.Perm (ks.filter λk=>ν ns k.kc)->2*((dK.map KE.ev).flatMap λe=>if kd e=0 then[]else jJ (kd e) (sp e)).length+2<=16777216):
 Δ prog 104 #[ε (some ⟨s,0,none⟩),ε (some ⟨p,0,none⟩),nv,V Z f,V Z t] w λE Y=>∃dK:List KE,dK.Perm (ks.filter λk=>ν ns k.kc)/\CvP p f t (eZ f t ((dK.map KE.ev).flatMap λe=>if kd e=0 then[]else jJ (kd e) (sp e))) w E Y:=by
 obtain⟨an,cn,mA⟩:=hn.sl;have ra:=lL w [ε (some ⟨p,0,none⟩)] 151 (η #[V Z f] 3) (η #[V Z t] 3);have rf:=lM w (η #[ε (some ⟨p,0,none⟩)] 151) [V Z f] 3 (η #[V Z t] 3);have rt:=lN w (η #[ε (some ⟨p,0,none⟩)] 151) (η #[V Z f] 3) [V Z t] 3;have al:=iD w (η #[ε (some ⟨p,0,none⟩)] 151) (η #[V Z f] 3) (η #[V Z t] 3);have fN:((((w.alloc (η #[ε (some ⟨p,0,none⟩)] 151)).alloc (η #[V Z f] 3)).alloc (η #[V Z t] 3))).heap.size=w.heap.size+3:=by simp
 have qz:=sJ.row.lt;have my:∀args w,(callFunc 227 args).run prog w=.ok (.enter 227 args) w:=enters_of func227 (by kernel_rfl) rfl;have hS:=H (sJ.on al);have k0:=(uO.on al).cell (k:=0) rfl;have dY:=hc.lt;have hml:=hm.lt;have HC:=H (hc.on al);have HM:=H (hm.keep (al.block b hml));have o7:∀j,nv.ownBlock=some j->j<w.heap.size:=λj hj=>hn.lt hj;have HN:=H (hn.keep λj hj=>al.block j (o7 j hj));have HK:=H hK;have HO:=H hO;have HV:=H ib;have HTt:=H hT;rw[mA]at HN E5 o7;rw[mA];clear hm hc uO hn sJ hK hO ib hT mA;obtain⟨atD,hX⟩:∃atD:List Value->List mC,atD=λe=>if kd e=0 then[]else jJ (kd e) (sp e):=⟨_,rfl⟩;rw[<-hX]at HTt⊢;replace hX:=H hX;refine(callsIn_wide (n:=0)).1 ?_;refine dr func104 rfl ?_;simp only[ntmps104,ϡ,Ε,Ϩ,Ϫ,ϩ,ϗ,Ϗ,Ϣ,ϛ,Φ,Ν];refine bK λatH hK=>bQ ?_;gi_wp2_with fail;generalize(((w.alloc (η #[ε (some ⟨p,0,none⟩)] 151)).alloc (η #[V Z f] 3)).alloc (η #[V Z t] 3))=W2 at *
 replace fN:=H fN;refine bK λatH hK=>bQ ?_;gi_wp2_with fail;refine(callsIn_wide.2 (Kq cp an ns.length cn W2)).mono ?_;rintro E W3 ⟨rfl,xu⟩;clear k0;have qc:M W3 W2.heap.size [ε (some ⟨cp,0,none⟩)] 135:=by rw[xu];exact kK W2 [ε (some ⟨cp,0,none⟩)] 135 (η #[ζ an ns.length cn] 52)
 have qn:M W3 (W2.heap.size+1) [ζ an ns.length cn] 52:=by rw[xu];exact kM W2 [ζ an ns.length cn] 52 (η #[ε (some ⟨cp,0,none⟩)] 135)
 have aR:Below W2.heap.size W2 W3:=by rw[xu];exact mP W2 (η #[ε (some ⟨cp,0,none⟩)] 135) (η #[ζ an ns.length cn] 52)
 replace xu:=H xu;have UE:w.heap.size+3<=W2.heap.size:=by have:=fN.out;omega
 have hit:=LO ks ns (ζ an ns.length cn) cp b W2.heap.size (W2.heap.size+1) v0 W3 (HM.out.keep (aR.block b (by omega))) (HC.out.on aR) qc qn (HN.out.keep λj hj=>aR.block j (by have:=o7 j hj;omega)) Uq HV.out;have hS3:=hS.out.on aR;replace ra:=ra.on aR;replace rf:=rf.on aR;replace rt:=rt.on aR;have su:=aR.size;have Au:=qc.lt;have hq2:=qn.lt;have iS:=H (al.trans (aR.mono al.size));clear HM HC HN qc qn aR al hS;gi_wp2_with fail;refine gB ?_;refine I5 (gf:=227) func104 ?g my hit (ο _) (λ_ _=>rfl) (λk I=>by
  rcases I with rfl|rfl|rfl|rfl|I
  ·omega
  ·omega
  ·exact Au
  ·exact hq2
  have:=o7 k I;omega)
  (λk=>k=p) (λk I cj=>by
   subst I;rcases cj with h|h|h|h|h
   ·exact lO.1 h
   ·exact lO.2 h
   ·omega
   ·omega
   exact E5 h) (Ft p f t atD) (λ_ _ _=>False) (λ_ _ _=>False) ?ps ?start ?round ?done ?stop ?pan
 case g=>rfl
 case ps=>rintro xs ⟨dK,_,rfl⟩ x X;obtain⟨d,_,rfl⟩:=List.mem_map.1 X;rfl
 case start=>exact Ft.cL (λk I=>by omega) ⟨[],rfl,rfl,ζ none 0 0,λk I=>by simp[κ]at I,by simpa[eZ]using hS3⟩
 case stop=>
  rintro c W4 ⟨X,D,cD,_,aG⟩ hs bI;exact aG.out.elim
 case pan=>
  rintro c W4 ⟨X,D,cD,_,aG⟩ hs bI;exact aG.out.elim
 case done=>
  rintro xs ⟨dK,KR,rfl⟩ W4 ⟨X,D,cD,_,aG⟩ ES bI;obtain⟨es,IL,_,v,gg,tn⟩:=aG.out;have pK:es=dK.map KE.ev:=oL (g:=qS) DL (by rw[<-IL,π];rfl);subst pK;have zr:∀k,v.ownBlock=some k->k≠p/\W3.heap.size+2<=k:=λk I=>by
   have UF:k≠p:=λe=>tn.ne (by rw[I,e]);exact⟨UF,(cD k (gg k I)).resolve_left UF⟩
  refine⟨by simp,.inl ⟨_,_,rfl,run_takeDeferred bI,?_⟩⟩;refine⟨_,results_none rfl _ _ _,dK,KR,⟨_,rfl⟩,v,⟨tn.row.keep (υ (by omega)),dQ tn.own λg hg _=>υ (by have:=(zr g hg).2;omega),tn.ne⟩,(((ak.ar iS.out).aM X).put (.inr (by omega)) _),λk I=>by have:=(zr k I).2;omega⟩
 case round=>
  intro Ct i x X W4 D zq ES dV ep aG atH hK;obtain⟨es,S,_⟩:=aG.out;subst S;obtain⟨gA,dK,KR,kC⟩:=X;have afy:es.map qS++x::gA=(dK.map KE.ev).map qS:=by rw[kC,π];rfl
  obtain⟨ev,er,pc,rfl⟩:=yA DL afy;have wE:∃k∈ks,k.ev=ev:=by
   have:ev∈dK.map KE.ev:=by rw[pc];simp
   obtain⟨k,I,rfl⟩:=List.mem_map.1 this;exact⟨k,(List.mem_filter.1 (KR.mem_iff.1 I)).1,rfl⟩
  obtain⟨k,I7,rfl⟩:=wE;obtain⟨iG,oG⟩:=HV.out k I7;have HKk:=H (HK.out k I7);have HOk:=H (HO.out k I7);have YF:=HTt.out dK KR;rw[pc]at YF;clear kC afy HK HO HV HTt;unfold qS;gi_upto_region 2 with fail;rw[YE];simp only[Ψ,Ϟ,ϝ];gi_wp2_with (first
   |(refine iu (λ_=>trivial) (λ_ h=>by cases h) rfl (jb rfl _ _) ?_;intro w6 zw tj cG)
   |(refine iw (λ_=>trivial) rfl rfl rfl rfl zw (by rw[iG];rfl) (by rw[iG];exact jk) oG ?_;intro w7 zx iJ))
  simp only[Act.put,Ψ,Ϟ,ϝ];have LY:Below W4.heap.size W4 w7:=cG.trans (iJ.below (by omega) (λk I=>by omega));have hz7:=iJ.size;clear zw cG iJ;refine hK _ _ (λb=>D b\/b=W4.heap.size) LY (λb U=>U.imp id λh=>by omega) (λb U=>.inl U) (λb U=>U.elim (λh=>by have:=aG.1 b h;omega) (λh=>by omega)) ?_;intro W8 uJ oe hs8 gj PH;obtain⟨r8,gj⟩:=gj;have q6:=zx.keep (uJ _ (.inr rfl));have uK:=aG.on (W':=W8) λb U=>(uJ b (.inl U)).trans (LY.block b (aG.1 b U));have AE:∀b,D b\/b=W4.heap.size->b<W8.heap.size:=λb U=>by
   rcases U with h|h
   ·exact uK.1 b h
   have:=q6.lt;omega
  have An:∀j,Eb j->W8.heap[j]?=w.heap[j]?:=λj hj=>(oe.block j (by have:=(lQ j hj).1;omega) (lQ j hj).2).trans (iS.out.block j (lQ j hj).1);have hz8:w.heap.size<=W8.heap.size:=by omega
  have ra8:=ra.aL oe (by omega);have rf8:=rf.aL oe (by omega);have rt8:=rt.aL oe (by omega);obtain⟨es',S,Fe,v,gg,tn⟩:=uK.out;have pK:=oL (g:=qS) DL S;subst pK;clear hK uJ hit aG uK zx S ra rf rt zq hS3;refine o9 ?_;refine xq λatH hK=>sH ?_;gi_wp2_with (refine KQ rfl rfl rfl q6 iG (λ_=>trivial) ?_);refine(ω _ (callsIn_wide.2 (HKk.out W8 hz8 An))).mono ?_;rintro e W9 ⟨rfl,sI⟩;clear HKk;gi_wp2_with fail;have r6:M (W9.alloc (η #[V Z (kd k.ev)] 221)) W9.heap.size [V Z (kd k.ev)] 221:=M.new W9 [V Z (kd k.ev)] 221;have mq:Below W9.heap.size W9 (W9.alloc (η #[V Z (kd k.ev)] 221)):=(ψ _ _).alloc (ο _) _;have hzA:(W9.alloc (η #[V Z (kd k.ev)] 221)).heap.size=W9.heap.size+1:=by simp
  generalize W9.alloc (η #[V Z (kd k.ev)] 221)=WA at *
  have fO:=sI.trans (mq.mono sI.size);have hz9:=sI.size;replace hzA:=H hzA;clear sI mq;have q6A:=q6.on fO;have hSA:=tn.on fO;have raA:=ra8.on fO;have rfA:=rf8.on fO;have rtA:=rt8.on fO;have abu:WA.heap[W3.heap.size+1]?=some (.loop r8):=(fO.block _ (by omega)).trans gj;clear q6 ra8 rf8 rt8 gj;have c6:=r6.cell (k:=0) rfl;have hX1:(es++[k.ev]).flatMap atD=es.flatMap atD++atD k.ev:=by rw[Κ,List.flatMap_singleton]
  have eX:=congrFun hX.out k.ev;refine xq λK1 eM=>sH ?_;by_cases oa:kd k.ev=0
  case pos=>
   have UK:atD k.ev=[]:=by rw[eX,if_pos oa]
   rw[oa]at c6;have eY:=H (show aN (λb=>D b\/b=W4.heap.size) W8.heap.size (Ft p f t atD (List.map qS es++[qS k.ev])) W8 WA from
    ⟨ak.ar fO,_,λ_ h=>.inl h,λ_ h=>h,Ft.cL (λb U=>by have:=AE b U;have:=fO.size;omega) ⟨es++[k.ev],by simp,.inl Fe,v,λj hj=>.inl (gg j hj),by rw[hX1,UK,Χ];exact hSA⟩⟩)
   clear HOk eM r6 eX UK YF;gi_wp2_with fail;exact eY.out
  case neg=>
   have UK:atD k.ev=jJ (kd k.ev) (sp k.ev):=by rw[eX,if_neg oa]
   have Cu:(kd k.ev==0)=false:=by simp[oa]
   clear eX;gi_wp2_with fail;refine xq λatH hK=>sH ?_;have y2:=rfA.cell (k:=0) rfl;have y3:=rtA.cell (k:=0) rfl;gi_wp2_with (refine KQ rfl rfl rfl q6A iG (λ_=>trivial) ?_);have hEA:∀j,Eb j->WA.heap[j]?=w.heap[j]?:=λj hj=>(fO.block j (by have:=(lQ j hj).1;omega)).trans (An j hj);refine(ω _ (callsIn_wide.2 (HOk.out oa WA (Ζ hz8 fO.size) hEA))).mono ?_;rintro e WB ⟨g2,lb2,R2,rfl,LZ,Fo,L0,pX⟩;have hzB:=pX.size;have aiL:WB.heap[W3.heap.size+1]?=some (.loop r8):=(pX.block _ (by have:=fO.size;omega)).trans abu;have EU:=hSA.on pX;have raB:=raA.on pX;have r6B:=r6.on pX;have aq4:=fO.size;have amT:=fO.trans (pX.mono fO.size);clear y2 y3 HOk abu c6 hSA raA rfA rtA r6 q6A An hEA tn fO;gi_wp2_with fail;refine o9 ?_;refine I4 (gf:=g2) (lb:=lb2) func104 ?ig L0 LZ.n (ο _) (λ_ _=>rfl) (λk I=>(Fo k I).1) aiL
    (λb=>D b\/b=W4.heap.size) (λb U fk=>by
     rcases(Fo b fk).2 with h|h
     ·rcases U with U|U
      ·rcases ep b U with h'|h'
       ·exact(lQ b h).2 h'
       have:=(lQ b h).1;omega
      have:=(lQ b h).1;omega
     have:=AE b U;omega) (PU p f t (es.flatMap atD) (kd k.ev)) (λ_ _ _=>False) (λ_ _ _=>False) ?ips ?istart ?iround ?idone ?istop ?ipan
   case ig=>rfl
   case ips=>rintro xs rfl x X;obtain⟨d,_,rfl⟩:=List.mem_map.1 X;rfl
   case istart=>exact PU.cL (λb U=>by have:=AE b U;omega) ⟨[],rfl,.inl Fe,v,λj hj=>.inl (gg j hj),by simpa[jJ]using EU⟩
   case idone=>
    rintro xs rfl WC ⟨hxC,DC,hdC,hdD,sZ⟩ hsC;obtain⟨ss,he,hS9⟩:=sZ.out;have pK:=oL (g:=AN) Ha he;subst pK;refine(show aN (λb=>D b\/b=W4.heap.size) W8.heap.size (Ft p f t atD (List.map qS es++[qS k.ev])) W8 WC from ?_);refine⟨(ak.ar amT).aM hxC,DC,λb U=>(hdC b U).imp id λh=>by omega,hdD,Ft.cL sZ.1 ⟨es++[k.ev],by simp,?_⟩⟩;rw[hX1,UK];exact hS9
   case istop=>
    rintro c WC ⟨_,_,_,_,sZ⟩ hsC;exact sZ.out.elim
   case ipan=>
    rintro c WC ⟨_,_,_,_,sZ⟩ hsC;exact sZ.out.elim
   case iround=>
    intro l2' pre x X WC DC hxC hsC aq5 aq6 sZ atH hK;obtain⟨gA,Ys⟩:=X;obtain⟨ss,nP,_⟩:=sZ.out;subst nP;obtain⟨y,r,hXk,rfl⟩:=yA Ha Ys;unfold AN;gi_wp2_with fail;have hbC:Below WC.heap.size WC (WC.alloc (η #[V Z y.1,V Z y.2] 39)):=(ψ _ _).alloc (ο _) _;refine hK _ _ (λb=>DC b\/b=WC.heap.size) hbC (λb U=>U.imp id λh=>by omega) (λb U=>.inl U) (λb U=>U.elim (λh=>by have:=sZ.1 b h;simp;omega) (λh=>by simp;omega)) ?_;intro WD hkD I2 hsD hrD Fu;have q7:=(M.new WC [V Z y.1,V Z y.2] 39).keep (hkD _ (.inr rfl));have YG:=sZ.on (W':=WD) λb U=>(hkD b (.inl U)).trans (hbC.block b (sZ.1 b U));have uQ:∀b,DC b\/b=WC.heap.size->b<WD.heap.size:=λb U=>U.elim (YG.1 b) (λh=>by have:=q7.lt;omega);have nO:∀j,j<W4.heap.size->j≠p->j<W3.heap.size+2->¬(D j\/j=W4.heap.size):=λj G A K h=>by
     rcases h with h|h
     ·rcases ep j h with h'|h'
      ·exact A h'
      omega
     omega
    have ya:=(raB.aL I2 (nO _ (by omega) (by omega) (by omega))).cell (k:=0) rfl;have yk:=(r6B.aL I2 (λh=>by have:=AE _ h;omega)).cell (k:=0) rfl;have x0:=q7.cell (k:=0) rfl;have x1:=q7.cell (k:=1) rfl;obtain⟨ss',nP,afE,v',Mb,amU⟩:=YG.out;have pK:=oL (g:=AN) Ha nP;subst pK;have dY:(eZ f t (es.flatMap atD++jJ (kd k.ev) ss)).length+2<=16777216:=by
     rw[DH];have G:(atD k.ev).length=ss.length+(r.length+1):=by rw[UK,hXk];simp[jJ]
     rw[Κ,θ,μ,μ,G]at YF;rw[μ];have A:(jJ (kd k.ev) ss).length=ss.length:=by simp[jJ]
     omega
    have hX9:eZ f t (es.flatMap atD++jJ (kd k.ev) (ss++[y]))=eZ f t (es.flatMap atD++jJ (kd k.ev) ss)++[⟨max y.1 f,kd k.ev,1⟩,⟨min y.2 t,kd k.ev,-1⟩]:=by
     have G:jJ (kd k.ev) (ss++[y])=jJ (kd k.ev) ss++[⟨kd k.ev,y.1,y.2⟩]:=by simp[jJ]
     rw[G,<-Λ,Ji]
    have UG:=H (IS p f t v' _ (kd k.ev) y.1 y.2 WD amU dY);clear hK hkD sZ YG LZ Fo;refine o9 ?_;refine sH ?_;gi_wp2_with fail;refine(ω _ (callsIn_wide.2 UG.out)).mono ?_;rintro E WE ⟨rfl,v7,UH,iJ,hv7⟩;clear x0 x1 ya yk UG;gi_wp2_with fail;have Yu:ak (λb=>DC b\/b=WC.heap.size) WD WE:=iJ.mono λk I=>.inl (I.elim (λe=>.inl (e▸afE)) (λh=>.inl (Mb k h)));refine(show aN _ _ _ _ _ from⟨Yu,λb=>(DC b\/b=WC.heap.size)\/v7.ownBlock=some b,λb U=>U.elim .inl λh=>(hv7 b h).imp (λh'=>.inl (Mb b h')) id,λb U=>.inl U,?_⟩);exact PU.cL (λb U=>U.elim (λh=>Ϡ (uQ b h) iJ.size) (λh=>(UH.own.lt b h).2)) ⟨ss++[y],by simp[AN],.inl (.inl afE),v7,λb U=>.inr U,by rw[hX9];exact UH⟩
end Go.Proofs.YthpndgcaoeokeaaGreatDoor
namespace Go.Proofs.YthpndgcaoeokeaaGreatDoor
open Tryz
open Go.RowKit
def uR (d:Nat->Bool)(i:Nat):Nat->Bool:=λk=>if k=i then true else d k
theorem yB (d:Nat->Bool)(i:Nat):uR d i i=true:=by unfold uR;simp
theorem jX {d:Nat->Bool}{i k:Nat}(h:k≠i):uR d i k=d k:=by unfold uR;rw[if_neg h]
section
variable {P:Program} {ops:Array Oper} {Q:Exit->Act->ι->Prop} {md:Region.Mode}
def BU (md:Region.Mode)(ops:Array Oper)(d:Nat->Bool):Prop:=∀j oj,ops[j]?=some oj->d j=true->∀e∈oj.after,φ md e=true->d e.on=true
theorem wpAny_done (atz:Nat->Act->ι->Prop)(aty:(Nat->Bool)->Act->ι->Prop)(hf:forward md ops=true)
 (atA:∀i o d a w,ops[i]?=some o->d i=false->(∀e∈o.after,φ md e=true->d e.on=true)->BU md ops d->aty d a w->(∀j,j<ops.size->d j=true->atz j a w)->
  wpOp P ops Q i (λa' Y=>aty (uR d i) a' Y/\atz i a' Y/\∀j oj,ops[j]?=some oj->j≠i->(∀e∈oj.after,φ md e=true->e.on≠i)->atz j a w->atz j a' Y) a w)
 (D:∀d a w,(∀i,i<ops.size->d i=true)->aty d a w->(∀i,i<ops.size->atz i a w)->Q .normal a w):
 ∀(fuel:Nat) (listed:Array Bool) (a:Act) (w:ι),listed.size=ops.size->listed.toList.count false<=fuel->aty (λk=>listed.getD k false) a w->(∀i,i<ops.size->listed.getD i false=true->atz i a w)->BU md ops (λk=>listed.getD k false)->wpAny P md ops Q fuel listed a w:=by
 intro fuel
 induction fuel with
 |zero=>
  intro listed a w hs hc hI hG hC;have bx:∀i,i<ops.size->listed.getD i false=true:=λi S=>by
   rw[bB _ (by omega)];cases U:listed[i]'(by omega)
   ·exfalso;have:false∈listed.toList:=by rw[<-U];exact Array.mem_def.1 (Array.getElem_mem _)
    have:=List.count_pos_iff.2 this;omega
   rfl
  have hr:Region.ready md ops listed=[]:=by
   rw[List.eq_nil_iff_forall_not_mem];intro i S;obtain⟨G,A,_⟩:=dc S;have:=bx i G;rw[bB _ (by omega)]at this A;rw[this]at A;cases A
  exact⟨hr,D _ a w bx hI (λi S=>hG i S (bx i S))⟩
 |succ fuel ih=>
  intro listed a w hs hc hI hG hC;refine⟨λhr=>D _ a w (nB hf hs hr) hI (λi S=>hG i S (nB hf hs hr i S)),λi S=>?_⟩;obtain⟨G,A,o,ho,K⟩:=dc S;have uB:listed.getD i false=false:=by rw[bB _ (by omega)]at A⊢;exact A
  have PV:(λk=>(listed.setIfInBounds i true).getD k false)=uR (λk=>listed.getD k false) i:=by
   funext k;by_cases kN:k=i
   ·subst kN;rw[yB,bB _ (by simp;omega)];simp
   rw[jX kN];by_cases kC:k<listed.size
   ·rw[bB _ kC,bB _ (by simp;exact kC),Array.getElem_setIfInBounds_ne _ (λe=>kN e.symm)]
   simp[ϫ,kC]
  refine wpOp_mono (λa' Y ⟨q1,q2,q3⟩=>?_) (atA i o _ a w ho uB K hC hI hG);refine ih (listed.setIfInBounds i true) a' Y (by simp[hs]) ?_ (by rw[PV];exact q1) (λj hj N=>?_) ?_
  ·rw[Array.toList_setIfInBounds,List.count_set (by rw[ϙ];omega)];have:listed.toList[i]'(by rw[ϙ];omega)=false:=by
    rw[bB _ (by omega)]at A;simpa using A
   rw[this];have J:0<listed.toList.count false:=List.count_pos_iff.2 (by rw[<-this];exact List.getElem_mem _);show listed.toList.count false-1+0<=fuel;omega
  ·by_cases fA:j=i
   ·subst fA;exact q2
   have UL:listed.getD j false=true:=by
    have:=congrFun PV j;simp only[jX fA]at this;rw[<-this];exact N
   refine q3 j ops[j] (Ω hj) fA (λe he U uS=>?_) (hG j hj UL);have:=hC j ops[j] (Ω hj) UL e he U;simp only[uS,uB]at this;cases this
  rw[PV];intro j oj jm N e he U;by_cases fA:j=i
  ·subst fA;rw[ho]at jm;cases jm;have:=K e he U;unfold uR;split
   ·rfl
   exact this
  rw[jX fA]at N;have:=hC j oj jm N e he U;unfold uR;split
  ·rfl
  exact this
theorem xv {id:Nat}{a:Act}{w:ι}(atz:Nat->Act->ι->Prop)(aty:(Nat->Bool)->Act->ι->Prop)(hm:P.follows .mixedOrders=true)(hf:forward .any ops=true)
 (atA:∀i o,ops[i]?=some o->∀d a w,d i=false->(∀e∈o.after,φ .any e=true->d e.on=true)->BU .any ops d->aty d a w->(∀e∈o.after,φ .any e=true->atz e.on a w)->(∀j,j<ops.size->d j=true->atz j a w)->
  ϥ o (yielded ops a.tmps)=true/\Oper.wp P o a w (λa' Y=>aty (uR d i) a' Y/\atz i a' Y/\∀j oj,ops[j]?=some oj->j≠i->(∀e∈oj.after,φ .any e=true->e.on≠i)->atz j a w->atz j a' Y) Q)
 (D:∀d a w,(∀i,i<ops.size->d i=true)->aty d a w->(∀i,i<ops.size->atz i a w)->Q .normal a w)(hI:aty (λ_=>false) a {w with drawn:=w.drawn+1}):(Code.region id ops true).wp P Q a w:=by
 have h0:(λk=>(Υ ops.size false).getD k false)=λ_=>false:=by
  funext k;by_cases I:k<ops.size
  ·rw[bB _ (by simpa using I)];simp
  simp[ϫ,I]
 refine wp_region_any hm (wpAny_done atz aty hf (λi o d a w ho G A K h4 h5=>?_) D ops.size (Υ ops.size false) a _ (by simp) (by rw[Array.toList_replicate,List.count_replicate];simp) (by rw[h0];exact hI) (λi S h=>?_) ?_)
 ·refine wpOp_step ho λK' oc=>?_;obtain⟨q1,q2⟩:=atA i o ho d a w G A K h4 (λe he U=>h5 e.on (Nat.lt_trans (fC hf ho e he U) (Array.getElem?_eq_some_iff.1 ho).1) (A e he U)) h5;rw[if_pos q1];exact Oper.wp_mono oc q2
 ·have e:(Υ ops.size false).getD i false=false:=congrFun h0 i;rw[e]at h;cases h
 rw[h0];intro j oj _ h;cases h
theorem pY {o oj:Oper}{a:Act}{j k:Nat}{b:Bool}(h:o.guard=some (j,b))(ho:ops[j]?=some oj)(hd:oj.dst=some k)(I:k<a.tmps.size)(hv:a.eval (.tmp k)=.bool b):ϥ o (yielded ops a.tmps)=true:=by
 rw[OF h ho hd I hv];cases b<;>rfl
def PW (n:Nat)(ops:Array Oper):Bool:=(Ϭ n).all λi=>(Ϭ (n+1)).any λk=>decide (i<k)&&match ops[k]?with
 |none=>false
 |some o=>o.after.any λe=>φ .any e&&decide (e.on=i)
theorem tH {d:Nat->Bool}{n:Nat}(h:BU .any ops d)(hc:PW n ops=true)(hn:d n=true):∀i,i<=n->d i=true:=by
 have:∀m i,i+m=n->d i=true:=by
  intro m
  induction m using Nat.strongRecOn with
  |ind m ih=>
   intro i S;by_cases hm:m=0
   ·rw[show i=n by omega];exact hn
   unfold PW at hc;rw[Ο]at hc;have G:=hc i (List.mem_range.2 (by omega));rw[Ξ]at G;obtain⟨k,I,A⟩:=G;rw[List.mem_range]at I;rw[Ρ,decide_eq_true_eq]at A;obtain⟨A,K⟩:=A;split at K
   ·cases K
   rename_i o ho;rw[Array.any_eq_true']at K;obtain⟨e,he,E8⟩:=K;rw[Ρ,decide_eq_true_eq]at E8;rw[<-E8.2];exact h k o ho (ih (n-k) (by omega) k (by omega)) e he E8.1
 intro i S;exact this (n-i) i (by omega)
end
theorem dA {atB B C P:Prop}(h:atB/\B/\C)(p:P):(atB/\P)/\B/\C:=⟨⟨h.1,p⟩,h.2⟩
end Go.Proofs.YthpndgcaoeokeaaGreatDoor
namespace Go.Proofs.YthpndgcaoeokeaaGreatDoor
open Tryz
open Go.RowKit Go.Sort
theorem dR.mono {xs:List (Array Value)}{E E':aj}{w:ι}{e:ώ}{Y:ι}(h:dR xs E w e Y)(hE:∀k,E k->E' k):dR xs E' w e Y:=by
 obtain⟨g,lb,R,G,A,K,h4,h5⟩:=h;exact⟨g,lb,R,G,A,λk I=>⟨(K k I).1,(K k I).2.imp (hE k) id⟩,h4,h5⟩
theorem cr.uniq {w:ι}{v:Value}{a b:List Int}(h:cr w v a)(k:cr w v b):a=b:=by
 rcases h with⟨rfl,rfl⟩|⟨g,rfl,h⟩<;>rcases k with⟨k1,rfl⟩|⟨g',k1,k⟩
 ·rfl
 ·cases k1
 ·cases k1
 injection k1 with e1 e2 e3
 injection e1 with e1
 injection e1 with e1
 subst e1;unfold M at h k;rw[h]at k;injection k with k
 injection k with k
 have:a.map (ϊ Z)=b.map (ϊ Z):=by simpa using k
 exact oL (λ{x y} h=>by injection h) this
theorem gE.uniq {w:ι}{v:Value}{a b:List (Int×Int)}(h:gE w v a)(k:gE w v b):a=b:=by
 rcases h with⟨rfl,rfl⟩|⟨g,rfl,h⟩<;>rcases k with⟨k1,rfl⟩|⟨g',k1,k⟩
 ·rfl
 ·cases k1
 ·cases k1
 injection k1 with e1 e2 e3
 injection e1 with e1
 injection e1 with e1
 subst e1;unfold M at h k;rw[h]at k;injection k with k
 injection k with k
 replace k:flat a=flat b:=by simpa using k
 clear h e2 e3
 induction a generalizing b with
 |nil=>cases b with
  |nil=>rfl
  |cons y b=>cases k
 |cons x a ih=>cases b with
  |nil=>cases k
  |cons y b=>
   obtain⟨x1,x2⟩:=x;obtain⟨y1,y2⟩:=y;simp only[flat,θ,Ν,Φ]at k;injection k with k1 k2
   injection k2 with k2 k3
   injection k1 with _ k1
   injection k2 with _ k2
   rw[k1,k2,ih k3]
theorem dd.uniq {w:ι}{v:Value}{a b:List Int}(h:dd w v a)(k:dd w v b):a=b:=by
 rcases h with⟨rfl,rfl⟩|⟨g,cap,r,rfl,h⟩<;>rcases k with⟨k1,rfl⟩|⟨g',amV,r',k1,k⟩
 ·rfl
 ·cases k1
 ·cases k1
 injection k1 with e1 e2 e3
 injection e1 with e1
 injection e1 with e1
 subst e1;unfold M at h k;rw[h]at k;injection k with k
 injection k with k
 have:(a++r).map (ϊ Z)=(b++r').map (ϊ Z):=by simpa using k
 have:=oL (λ{x y} h=>by injection h) this;exact List.append_inj_left this e2
def iI (w:ι)(E:aj)(k:KE)(d:aK):Prop:=
 k.kc=d.kc/\k.ku=d.ku/\∃(u:ByteArray) (m md wk pl:Value) (tx:ByteArray) (aI aH:Value),k.ev=cF u d.st d.ln d.hr d.r m md wk pl tx aI aH d.tr d.k/\kt w d.hr d.r m md wk pl aI aH d.ex d.xt/\∀j,kY m md wk pl aI aH j->E j
theorem iI.keep {w Y:ι}{E:aj}{k:KE}{d:aK}(h:iI w E k d)(I:∀j,E j->Y.heap[j]?=w.heap[j]?):iI Y E k d:=by
 obtain⟨G,A,u,m,md,wk,pl,tx,aI,aH,K,h4,h5⟩:=h;exact⟨G,A,u,m,md,wk,pl,tx,aI,aH,K,h4.keep λj hj=>I j (h5 j hj),h5⟩
theorem iI.mono {w:ι}{E E':aj}{k:KE}{d:aK}(h:iI w E k d)(I:∀j,E j->E' j):iI w E' k d:=by
 obtain⟨G,A,u,m,md,wk,pl,tx,aI,aH,K,h4,h5⟩:=h;exact⟨G,A,u,m,md,wk,pl,tx,aI,aH,K,h4,λj hj=>I j (h5 j hj)⟩
theorem xw {w:ι}{v:Value}{l:List Int}(h:cr w v l):v.oneCell'=true/\∃a n c,v=ζ a n c:=by rcases h with⟨rfl,_⟩|⟨g,rfl,_⟩<;>exact⟨rfl,_,_,_,rfl⟩
theorem UM {w:ι}{v:Value}{l:List (Int×Int)}(h:gE w v l):v.oneCell'=true/\∃a n c,v=ζ a n c:=by rcases h with⟨rfl,_⟩|⟨g,rfl,_⟩<;>exact⟨rfl,_,_,_,rfl⟩
theorem Fv {w:ι}{v:Value}{l:List Int}(h:dd w v l):v.oneCell'=true/\∃a n c,v=ζ a n c:=by rcases h with⟨rfl,_⟩|⟨g,cap,r,rfl,_⟩<;>exact⟨rfl,_,_,_,rfl⟩
theorem iI.AO {w:ι}{E:aj}{k:KE}{d:aK}(h:iI w E k d):k.ev.length=18/\∀v∈k.ev,v.oneCell'=true:=by
 obtain⟨G,A,u,m,md,wk,pl,tx,aI,aH,K,h4,h5⟩:=h;rw[K];exact⟨rfl,PX _ _ _ _ _ _ _ _ _ _ _ _ _ _ (xw h4.cb.ms).1 (xw h4.cb.mds).1 (UM h4.cb.wks).1 (xw h4.cb.pls).1 (Fv h4.hex).1 (Fv h4.mw).1⟩
theorem iI.aw {w:ι}{E:aj}{k:KE}{d:aK}(h:iI w E k d)(ho:d.ok){f to:Int}(f0:0<=f)(f1:f<=7258118400)(t0:0<=to)(t1:to<=7258118400):
 Δ prog 219 #[.agg #[.string k.kc,.string k.ku],.agg k.ev.toArray,V Z f,V Z to] w (dR (dF (d.aw f to)) E w):=by
 obtain⟨G,A,u,m,md,wk,pl,tx,aI,aH,K,h4,h5⟩:=h;rw[G,A,K];exact(TV d.kc d.ku u d.st d.ln d.hr d.r m md wk pl tx aI aH d.ex d.xt d.tr d.k f to w h4 ho.2.1.1 ho.2.1.2 (by have:=ho.2.2.1.1;omega) ho.2.2.1.2 (by omega) f1 t0 t1 (aK.vA ho t1)).mono λe Y hg=>hg.mono h5
theorem iI.kind {w:ι}{E:aj}{k:KE}{d:aK}(h:iI w E k d):Δ prog 174 #[.agg k.ev.toArray] w λe Y=>e=δ (V Z d.kd)/\Below w.heap.size w Y:=by
 obtain⟨G,A,u,m,md,wk,pl,tx,aI,aH,K,h4,h5⟩:=h;rw[K];exact Lv u d.st d.ln d.hr d.r m md wk pl tx aI aH d.tr d.k w (xw h4.cb.ms).2 (xw h4.cb.mds).2 (UM h4.cb.wks).2 (xw h4.cb.pls).2 (Fv h4.hex).2 (Fv h4.mw).2
def aK.tq (d:aK)(f t:Int):List (Int×Int):=(d.tm (f-d.ln+1) t).map λx=>(x,x+d.ln)
theorem aK.ac4 (d:aK)(f t:Int):d.AG f t=if d.kd=0 then[]else jJ d.kd (d.tq f t):=by
 unfold AG jJ tq;rw[π];rfl
theorem iI.over {w:ι}{E:aj}{k:KE}{d:aK}(h:iI w E k d)(ho:d.ok){f to:Int}(f0:0<=f)(f1:f<=7258118400)(t0:0<=to)(t1:to<=7258118400):
 Δ prog 175 #[.agg k.ev.toArray,V Z f,V Z to] w (dR ((d.tq f to).map AN) E w):=by
 obtain⟨G,A,u,m,md,wk,pl,tx,aI,aH,K,h4,h5⟩:=h;rw[K];have e:(d.tq f to).map AN=pM d.ln (d.tm (f-d.ln+1) to):=by unfold aK.tq pM;rw[π];rfl
 rw[e];exact(YD u d.st d.ln d.hr d.r m md wk pl tx aI aH d.ex d.xt d.tr d.k f to w h4 ho.2.1.1 ho.2.1.2 ho.2.2.1.1 ho.2.2.1.2 f0 f1 t0 t1 (aK.vA ho t1)).mono λe Y hg=>hg.mono h5
theorem iI.uniq {w:ι}{E:aj}{k k':KE}{d d':aK}(h:iI w E k d)(h':iI w E k' d')(e:k.ev=k'.ev):d'={d with kc:=d'.kc,ku:=d'.ku}:=by
 obtain⟨G,A,u,m,md,wk,pl,tx,aI,aH,K,h4,h5⟩:=h;obtain⟨g1,g2,u',m',fX,fY,UN,tx',aq7,aq8,g3,g4,g5⟩:=h';rw[K,g3]at e;unfold cF at e;simp only[List.cons.injEq,Value.int.injEq,Value.bool.injEq,Value.string.injEq,and_true,true_and]at e;obtain⟨e0,e1,e2,e3,e4,e5,e6,e7,rfl,rfl,rfl,rfl,e12,Pn,rfl,rfl,uT,qA⟩:=e;have i1:=h4.cb.ms.uniq g4.cb.ms;have i2:=h4.cb.mds.uniq g4.cb.mds;have i3:=h4.cb.wks.uniq g4.cb.wks;have i4:=h4.cb.pls.uniq g4.cb.pls;have i5:=h4.hex.uniq g4.hex;have i6:=h4.mw.uniq g4.mw;obtain⟨kc,ku,st,ln,hr,⟨fq,iv,ct,un,ms,mds,wks,pls,ws⟩,ex,xt,tr,k⟩:=d;obtain⟨kc',ku',Cy,ln',kJ,⟨fq',iv',ct',un',lg,aq9,ara,arb,ws'⟩,ex',xt',tr',k'⟩:=d';simp only[]at *
 subst e1 e2 e3 e4 e5 e6 e7 e12 uT qA i1 i2 i3 i4 i5 i6;rfl
def tt (w:ι)(k:Nat):Prop:=∃cs t fz,w.heap[k]?=some (η cs t fz)/\(t=3\/t=183)
def uU (w:ι)(k:Nat):Prop:=∀cs t fz,w.heap[k]?=some (η cs t fz)->t≠3/\t≠183
theorem jo {w:ι}{k:Nat}(h:tt w k)(h':uU w k):False:=by
 obtain⟨cs,t,fz,G,A⟩:=h;have:=h' cs t fz G;rcases A with A|A
 ·exact this.1 A
 exact this.2 A
theorem uU.row {w:ι}{k:Nat}{cs:List Value}{t:TypeId}(h:M w k cs t)(G:t≠3)(A:t≠183):uU w k:=by
 intro mR t' fz' e;unfold M at h;rw[h]at e;injection e with e
 injection e with _ e
 subst e;exact⟨G,A⟩
theorem tt.lt {w:ι}{k:Nat}(h:tt w k):k<w.heap.size:=by
 obtain⟨cs,t,fz,G,_⟩:=h;exact(Array.getElem?_eq_some_iff.1 G).1
theorem tt.keep {w Y:ι}{k:Nat}(h:tt w k)(e:Y.heap[k]?=w.heap[k]?):tt Y k:=by
 obtain⟨cs,t,fz,G,A⟩:=h;exact⟨cs,t,fz,e.trans G,A⟩
theorem Hb {w:ι}:∀{t:LT},aE w t->∀k∈t.ax,uU w k
 |⟨none⟩,_,k,I=>by simp[LT.ax]at I
 |⟨some (b,e,l,r)⟩,h,k,I=>by
  simp only[LT.ax,ϋ,ϧ]at I;rcases I with rfl|I|I
  ·exact uU.row h.1 (by decide) (by decide)
  ·exact Hb h.2.1 k I
  exact Hb h.2.2 k I
theorem afF {w:ι}{p b:Nat}{nv:Value}{ns:List ByteArray}{ks:List KE}(h:fl w p b nv ns ks){k:Nat}(I:mm p b nv k):uU w k:=by
 rcases I with rfl|rfl|I
 ·exact uU.row h.row (by decide) (by decide)
 ·obtain⟨es,cl,G,_⟩:=h.map;intro cs t fz e;rw[G]at e;injection e with e
  cases e
 rcases h.own.2 with⟨e,_⟩|⟨g,cap,cur,e,_,G,_⟩
 ·rw[e]at I;simp[κ]at I
 rw[e]at I;simp only[κ,Α]at I;subst I;intro cs t fz e;rw[G]at e;injection e with e
 injection e with _ e
 subst e;exact⟨by decide,by decide⟩
theorem aiM {w:ι}{hr:Bool}{r:aC}{m md wk pl aI aH:Value}{ex xt:List Int}(h:kt w hr r m md wk pl aI aH ex xt){k:Nat}(e:kY m md wk pl aI aH k):tt w k:=by
 have S:∀{v:Value} {l:List Int},cr w v l->v.ownBlock=some k->tt w k:=λh e=>by
  rcases h with⟨rfl,_⟩|⟨g,rfl,h⟩
  ·simp[κ]at e
  simp only[κ,Α]at e;subst e;exact⟨_,_,_,h,.inl rfl⟩
 have hw:∀{v:Value} {l:List Int},dd w v l->v.ownBlock=some k->tt w k:=λh e=>by
  rcases h with⟨rfl,_⟩|⟨g,cap,rr,rfl,h⟩
  ·simp[κ]at e
  simp only[κ,Α]at e;subst e;exact⟨_,_,_,h,.inl rfl⟩
 rcases e with(e|e|e|e)|e|e
 ·exact S h.cb.ms e
 ·exact S h.cb.mds e
 ·rcases h.cb.wks with⟨e',_⟩|⟨g,e',h⟩
  ·rw[e']at e;simp[κ]at e
  rw[e']at e;simp only[κ,Α]at e;subst e;exact⟨_,_,_,h,.inr rfl⟩
 ·exact S h.cb.pls e
 ·exact hw h.hex e
 exact hw h.mw e
def Hc (s cp b ip:Nat)(nv:Value)(T:LT):aj:=λk=>k=s\/mm cp b nv k\/k∈ip::T.ax
structure cQ (w:ι)(s:Nat)(atG E:aj)(ns:List ByteArray)(ds:List aK)(h:Int)(cp b ip:Nat)(nv:Value)(ps:List (KE×aK))(T:LT):Prop where
 row:M w s [ε (some ⟨cp,0,none⟩),ε (some ⟨ip,0,none⟩)] 140
 dh:fl w cp b nv ns (ps.map (·.1))
 snd:ps.map (·.2)=ds
 pd:∀p∈ps,iI w E p.1 p.2
 ok:∀d∈ds,d.ok
 idx:cU w ip T T.size h
 srt:LT.eU T.aw
 perm:T.aw.Perm (ds.flatMap (·.aw 0 h))
 sz:T.size<=500
 hz:0<=h/\h<=7258118400
 n8:ns.length<=8
 k30:ps.length<=30
 mx:atG=Hc s cp b ip nv T
 et:∀k,E k->tt w k
 d1:¬mm cp b nv s
 d2:∀k,k∈ip::T.ax->k≠s/\¬mm cp b nv k
section
variable {w Y:ι} {s:Nat} {atG E:aj} {ns:List ByteArray} {ds:List aK} {h:Int} {cp b ip:Nat} {nv:Value} {ps:List (KE×aK)} {T:LT}
theorem cQ.ms (x:cQ w s atG E ns ds h cp b ip nv ps T):atG s:=by rw[x.mx];exact .inl rfl
theorem cQ.mc (x:cQ w s atG E ns ds h cp b ip nv ps T):∀k,mm cp b nv k->atG k:=λk I=>by rw[x.mx];exact .inr (.inl I)
theorem cQ.mi (x:cQ w s atG E ns ds h cp b ip nv ps T):∀k,k∈ip::T.ax->atG k:=λk I=>by rw[x.mx];exact .inr (.inr I)
theorem cQ.lt (x:cQ w s atG E ns ds h cp b ip nv ps T):∀k,atG k->k<w.heap.size:=λk I=>by
 rw[x.mx]at I;rcases I with rfl|I|I
 ·exact x.row.lt
 ·exact x.dh.lt I
 exact(List.mem_cons.1 I).elim (λe=>e▸x.idx.row.lt) (x.idx.tree.lt k)
theorem cQ.el (x:cQ w s atG E ns ds h cp b ip nv ps T):∀k,E k->k<w.heap.size:=λk I=>(x.et k I).lt
theorem cQ.mt (x:cQ w s atG E ns ds h cp b ip nv ps T):∀k,atG k->uU w k:=λk I=>by
 rw[x.mx]at I;rcases I with rfl|I|I
 ·exact uU.row x.row (by decide) (by decide)
 ·exact afF x.dh I
 rcases List.mem_cons.1 I with rfl|I
 ·exact uU.row x.idx.row (by decide) (by decide)
 exact Hb x.idx.tree k I
theorem cQ.em (x:cQ w s atG E ns ds h cp b ip nv ps T):∀k,E k->¬atG k:=λk I cj=>jo (x.et k I) (x.mt k cj)
theorem cQ.keep (x:cQ w s atG E ns ds h cp b ip nv ps T)(I:∀k,atG k\/E k->Y.heap[k]?=w.heap[k]?):cQ Y s atG E ns ds h cp b ip nv ps T where
 row:=x.row.keep (I s (.inl x.ms))
 dh:=x.dh.keep λk cj=>I k (.inl (x.mc k cj))
 snd:=x.snd
 pd:=λp J=>(x.pd p J).keep λk cj=>I k (.inr cj)
 ok:=x.ok
 idx:=x.idx.keep λk cj=>I k (.inl (x.mi k cj))
 srt:=x.srt
 perm:=x.perm
 sz:=x.sz
 hz:=x.hz
 n8:=x.n8
 k30:=x.k30
 mx:=x.mx
 et:=λk cj=>(x.et k cj).keep (I k (.inr cj))
 d1:=x.d1
 d2:=x.d2
end
def cX (w:ι)(s:Nat)(atG E:aj)(ns:List ByteArray)(ds:List aK)(h:Int):Prop:=∃cp b ip nv ps T,cQ w s atG E ns ds h cp b ip nv ps T
theorem cX.keep {w Y:ι}{s:Nat}{atG E:aj}{ns:List ByteArray}{ds:List aK}{h:Int}(x:cX w s atG E ns ds h)(I:∀k,atG k\/E k->Y.heap[k]?=w.heap[k]?):cX Y s atG E ns ds h:=by
 obtain⟨cp,b,ip,nv,ps,T,x⟩:=x;exact⟨cp,b,ip,nv,ps,T,x.keep I⟩
theorem cX.lt {w:ι}{s:Nat}{atG E:aj}{ns:List ByteArray}{ds:List aK}{h:Int}(x:cX w s atG E ns ds h){k:Nat}(I:atG k\/E k):k<w.heap.size:=by
 obtain⟨cp,b,ip,nv,ps,T,x⟩:=x;exact I.elim (x.lt k) (x.el k)
theorem cX.on {w Y:ι}{s:Nat}{atG E:aj}{ns:List ByteArray}{ds:List aK}{h:Int}(x:cX w s atG E ns ds h)(U:Below w.heap.size w Y):cX Y s atG E ns ds h:=x.keep λk I=>U.block k (x.lt I)
theorem cX.aL {w Y:ι}{O:aj}{s:Nat}{atG E:aj}{ns:List ByteArray}{ds:List aK}{h:Int}(x:cX w s atG E ns ds h)(X:ak O w Y)(hn:∀k,atG k\/E k->¬O k):cX Y s atG E ns ds h:=x.keep λk I=>X.block k (x.lt I) (hn k I)
theorem cQ.AO {w:ι}{s:Nat}{atG E:aj}{ns:List ByteArray}{ds:List aK}{h:Int}{cp b ip:Nat}{nv:Value}{ps:List (KE×aK)}{T:LT}(x:cQ w s atG E ns ds h cp b ip nv ps T):∀k∈ps.map (·.1),k.ev.length=18/\∀v∈k.ev,v.oneCell'=true:=λk I=>by
 obtain⟨p,J,rfl⟩:=List.mem_map.1 I;exact(x.pd p J).AO
theorem cQ.same {w:ι}{s:Nat}{atG E:aj}{ns:List ByteArray}{ds:List aK}{h:Int}{cp b ip:Nat}{nv:Value}{ps:List (KE×aK)}{T:LT}(x:cQ w s atG E ns ds h cp b ip nv ps T)(c u:ByteArray){p:KE×aK}(J:p∈ps):dj c u p.1=iT c u p.2:=by
 obtain⟨G,A,_⟩:=x.pd p J;unfold dj iT;rw[G,A]
theorem cQ.keys {w:ι}{s:Nat}{atG E:aj}{ns:List ByteArray}{ds:List aK}{h:Int}{cp b ip:Nat}{nv:Value}{ps:List (KE×aK)}{T:LT}(x:cQ w s atG E ns ds h cp b ip nv ps T):oz ds:=by
 obtain⟨es,cl,_,_,_,_,h5,_⟩:=x.dh.map;rw[<-x.snd];unfold oz;rw[ϣ]at h5⊢;refine h5.imp_of_mem λ{p q} J hq hs hc=>?_;obtain⟨p1,p2,_⟩:=x.pd p J;obtain⟨q1,q2,_⟩:=x.pd q hq;rw[fj.2 ⟨by rw[p1,q1];exact hc.1.symm,by rw[p2,q2];exact hc.2.symm⟩]at hs;cases hs
theorem cQ.aiN {w:ι}{s:Nat}{atG E:aj}{ns:List ByteArray}{ds:List aK}{h:Int}{cp b ip:Nat}{nv:Value}{ps:List (KE×aK)}{T:LT}(x:cQ w s atG E ns ds h cp b ip nv ps T):T.size=iy ds h:=by
 unfold iy;rw[<-x.perm.length_eq,LT.cO]
theorem Sb {ps:List (KE×aK)}{ks:List KE}(h:ks.Perm (ps.map (·.1))):∃Fw:List (KE×aK),Fw.Perm ps/\Fw.map (·.1)=ks:=by
 generalize N:ps.map (·.1)=l at h
 induction h generalizing ps with
 |nil=>exact⟨[],by rw[List.map_eq_nil_iff.1 N],rfl⟩
 | @cons x l1 l2 _ ih=>
  cases ps with
  |nil=>cases N
  |cons p ps=>
   rw[ξ]at N;injection N with e1 e2
   obtain⟨Fw,G,A⟩:=ih e2;exact⟨p::Fw,G.cons _,by rw[ξ,A,e1]⟩
 |swap x y l=>
  cases ps with
  |nil=>cases N
  |cons p ps=>
   cases ps with
   |nil=>cases N
   |cons q ps=>
    rw[ξ,ξ]at N;injection N with e1 e2
    injection e2 with e2 e3
    exact⟨q::p::ps,List.Perm.swap _ _ _,by rw[ξ,ξ,e1,e2,e3]⟩
 |trans G A ih1 ih2=>
  obtain⟨p2,a1,a2⟩:=ih2 N;obtain⟨p1,b1,b2⟩:=ih1 a2;exact⟨p1,b1.trans a1,b2⟩
end Go.Proofs.YthpndgcaoeokeaaGreatDoor
namespace Go.Proofs.YthpndgcaoeokeaaGreatDoor
open Tryz
open Go.RowKit Go.Sort
def lA (ds:List aK)(h t:Int):Bool:=decide (t<=h)||decide (iy ds t<=500)
def qT (ds:List aK)(h t:Int):Int:=if lA ds h t then t else h
def Mc (ps:List (KE×aK))(h t:Int)(k:KE):List aJ:=((ps.find? λp=>dj k.kc k.ku p.1).map λp=>p.2.aw h t).getD []
theorem UO {ps:List (KE×aK)}(hd:(ps.map (·.1)).Pairwise (λx y=>dj x.kc x.ku y=false)){p:KE×aK}(J:p∈ps)(h t:Int):Mc ps h t p.1=p.2.aw h t:=by
 unfold Mc;have hs:dj p.1.kc p.1.ku p.1=true:=fj.2 ⟨rfl,rfl⟩
 induction ps with
 |nil=>cases J
 |cons q ps ih=>
  rw[ξ,ϟ]at hd;rw[List.find?_cons];rcases List.mem_cons.1 J with rfl|J
  ·rw[hs];rfl
  have:dj p.1.kc p.1.ku q.1=false:=by
   rw[yv];exact hd.1 p.1 (Ϛ J)
  rw[this];exact ih hd.2 J
theorem DN {ps:List (KE×aK)}(hd:(ps.map (·.1)).Pairwise (λx y=>dj x.kc x.ku y=false))(h t:Int){ks:List KE}(I:ks.Perm (ps.map (·.1))):(ks.flatMap (Mc ps h t)).Perm ((ps.map (·.2)).flatMap (·.aw h t)):=by
 refine(I.flatMap_right _).trans ?_;rw[List.flatMap_map,List.flatMap_map];have:∀l:List (KE×aK),(∀p∈l,p∈ps)->l.flatMap (λp=>Mc ps h t p.1)=l.flatMap λp=>p.2.aw h t:=by
  intro l N
  induction l with
  |nil=>rfl
  |cons q l ih=>rw[θ,θ,ih λp J=>N p (by simp[J]),UO hd (N q (by simp))]
 rw[this ps λp J=>J]
theorem ac5 {a b:List aJ}(h:a.Perm b)(U:b.Pairwise λx y=>bM x y≠0):a.Pairwise λx y=>bM x y≠0:=(List.Perm.pairwise_iff (λh=>Dt h) h).2 U
def wH (s:Nat)(atG E:aj)(ns:List ByteArray)(ds:List aK)(h t:Int)(w:ι):ι->Prop:=λY=>∃M':aj,cX Y s M' E ns ds (qT ds h t)/\ak atG w Y/\∀k,M' k->atG k\/w.heap.size<=k
theorem Md {w:ι}{s:Nat}{atG E:aj}{ns:List ByteArray}{ds:List aK}{h:Int}{cp b ip:Nat}{nv:Value}{ps:List (KE×aK)}{T:LT}(x:cQ w s atG E ns ds h cp b ip nv ps T)(t:Int)(t0:0<=t)(t1:t<=7258118400)(bm:Nat)(hq:M w bm [.map (some b)] 200):
 Δ prog 98 #[ε (some ⟨ip,0,none⟩),V Z t,.func (.func 224) #[] #[ε (some ⟨bm,0,none⟩)]] w λe Y=>e=δ (.bool (lA ds h t))/\wH s atG E ns ds h t w Y:=by
 have Me:∀k,k∈ip::T.ax->atG k:=x.mi;by_cases ht:t<=h
 ·have hB:lA ds h t=true:=by unfold lA;simp[ht]
  have hH:qT ds h t=t:=by unfold qT;rw[hB];rfl
  refine(L4 ip T h t _ w x.idx x.srt (by have:=x.sz;omega) ht).mono ?_;rintro e Y ⟨rfl,T',a1,a2,a3,a4⟩;rw[hB];have jK:∀k,k∈ip::T'.ax->k∈ip::T.ax:=λk I=>(List.mem_cons.1 I).elim (λe=>by simp[e]) λe=>by simp[a3 k e]
  refine⟨rfl,Hc s cp b ip nv T',⟨cp,b,ip,nv,ps,T',?_⟩,a4.mono λk I=>.inl (Me k I),λk I=>.inl (by rw[x.mx];exact I.imp id λh=>h.imp id (jK k))⟩;rw[hH];have UP:LT.eU T'.aw:=by rw[a2];unfold qK;unfold LT.eU;exact x.srt.filter _
  exact{
   row:=x.row.ex a4 (λhs=>(x.d2 s hs).1 rfl)
   dh:=x.dh.aL a4 λk I cj=>(x.d2 k cj).2 I
   snd:=x.snd
   pd:=λp J=>(x.pd p J).keep λj hj=>a4.block j (x.el j hj) λI=>x.em j hj (Me j I)
   ok:=x.ok
   idx:=a1
   srt:=UP
   perm:=by rw[a2,<-ac1 x.ok ht x.hz.2];exact x.perm.filter _
   sz:=by
    have G:T'.aw.length<=T.aw.length:=by rw[a2];exact ρ _ _
    rw[LT.cO,LT.cO]at G;have:=x.sz;omega
   hz:=⟨t0,t1⟩
   n8:=x.n8
   k30:=x.k30
   mx:=rfl
   et:=λk I=>(x.et k I).keep (a4.block k (x.el k I) λcj=>x.em k I (Me k cj))
   d1:=x.d1
   d2:=λk I=>x.d2 k (jK k I)}
 obtain⟨es,cl,_,_,_,_,hd,_⟩:=x.dh.map;have hX:∀ks:List KE,ks.Perm (ps.map (·.1))->(ks.flatMap (Mc ps h t)).Perm (ds.flatMap (·.aw h t)):=λks I=>by
  have:=DN hd h t I;rw[x.snd]at this;exact this
 have pc:=UJ x.ok x.hz.1 (show h<=t by omega) t1;have hlen:∀ks:List KE,ks.Perm (ps.map (·.1))->(ks.flatMap (Mc ps h t)).length+T.size=iy ds t:=λks I=>by
  unfold iy;rw[pc.length_eq,μ,(hX ks I).length_eq,x.aiN];rfl
 refine(OC ip T h t _ _ (λk=>k=bm\/k=b) (λks=>ks.Perm (ps.map (·.1))) (Mc ps h t) E w x.idx x.srt x.sz (by omega) (RT (ps.map (·.1)) b bm w x.dh.map hq x.AO)
  (λk I=>I.elim (λe=>e▸hq.lt) (λe=>e▸x.dh.map.lt)) (enters_of func224 (by kernel_rfl) rfl)
  (λks I k UQ=>x.AO k (I.mem_iff.1 UQ)) (λks I k UQ wr Mf hE=>?_) x.el (λks I=>⟨?_,λa ha y hy e=>?_⟩)).mono ?_
 ·obtain⟨p,J,rfl⟩:=List.mem_map.1 (I.mem_iff.1 UQ);rw[UO hd J];exact((x.pd p J).keep hE).aw (x.ok p.2 (by rw[<-x.snd];exact Ϛ J)) x.hz.1 x.hz.2 t0 t1
 ·exact ac5 (hX ks I) (aft x.keys x.ok t1)
 ·obtain⟨d,cD,ha⟩:=List.mem_flatMap.1 ((hX ks I).mem_iff.1 ha);obtain⟨d',uj,hy⟩:=List.mem_flatMap.1 (x.perm.mem_iff.1 hy);have a1:=(aK.iM (x.ok d cD) t1).1 (aK.kx ha).2.2.2.1;have a2:=(aK.iM (x.ok d' uj) x.hz.2).1 (aK.kx hy).2.2.2.1;have:=(il.1 e).1;omega
 rintro e Y (⟨ks,T',I,hle,rfl,a1,a2,a3,a4,a5⟩|⟨⟨ks,I,Jg⟩,rfl,U⟩)
 ·have xh:iy ds t<=500:=by rw[<-hlen ks I];exact hle
  have hB:lA ds h t=true:=by unfold lA;simp[xh]
  have hH:qT ds h t=t:=by unfold qT;rw[hB];rfl
  rw[hB];have fH:∀k,k∈ip::T'.ax->k∈ip::T.ax\/w.heap.size<=k:=λk I=>(List.mem_cons.1 I).elim (λe=>.inl (by simp[e])) λe=>(a4 k e).imp (λh=>by simp[h]) id;refine⟨rfl,Hc s cp b ip nv T',⟨cp,b,ip,nv,ps,T',?_⟩,a5.mono λk I=>.inl (Me k I),λk I=>by
   rcases I with I|I|I
   ·exact .inl (by rw[x.mx];exact .inl I)
   ·exact .inl (x.mc k I)
   exact(fH k I).imp (Me k) id⟩
  rw[hH];have uC:T'.aw.Perm (ds.flatMap (·.aw 0 t)):=a3.trans ((List.Perm.append (hX ks I) x.perm).trans pc.symm);exact{
   row:=x.row.ex a5 (λhs=>(x.d2 s hs).1 rfl)
   dh:=x.dh.aL a5 λk I cj=>(x.d2 k cj).2 I
   snd:=x.snd
   pd:=λp J=>(x.pd p J).keep λj hj=>a5.block j (x.el j hj) λI=>x.em j hj (Me j I)
   ok:=x.ok
   idx:=a1
   srt:=a2
   perm:=uC
   sz:=by
    have G:=uC.length_eq;rw[LT.cO]at G;unfold iy at xh;omega
   hz:=⟨t0,t1⟩
   n8:=x.n8
   k30:=x.k30
   mx:=rfl
   et:=λk I=>(x.et k I).keep (a5.block k (x.el k I) λcj=>x.em k I (Me k cj))
   d1:=x.d1
   d2:=λk I=>(fH k I).elim (x.d2 k) λh=>⟨λe=>by have:=x.lt s x.ms;omega,λhc=>by have:=x.lt k (x.mc k hc);omega⟩}
 have xh:500<iy ds t:=by rw[<-hlen ks I];exact Jg
 have hB:lA ds h t=false:=by unfold lA;simp[ht];omega
 have hH:qT ds h t=h:=by unfold qT;rw[hB];rfl
 rw[hB];refine⟨rfl,atG,?_,ak.ar U,λk I=>.inl I⟩;rw[hH];exact cX.on ⟨cp,b,ip,nv,ps,T,x⟩ U
theorem Hd {p:Nat}{w:ι}:(Instr.fieldAt 140 (ε (some ⟨p,0,none⟩)) 0).run prog w=.ok (ε (some ⟨p,0,none⟩)) w:=by go_simp
theorem tS {p:Nat}{w:ι}:(Instr.fieldAt 140 (ε (some ⟨p,0,none⟩)) 1).run prog w=.ok (ε (some ⟨p,1,none⟩)) w:=by go_simp
theorem yC {q:Addr}{p:Nat}{w:ι}(h:w.cell? q=some (ε (some ⟨p,0,none⟩))):(Instr.loadAt 135 (ε (some q))).run prog w=.ok (ε (some ⟨p,0,none⟩)) w:=by
 go_simp
theorem nC {q:Addr}{p:Nat}{w:ι}(h:w.cell? q=some (ε (some ⟨p,0,none⟩))):(Instr.loadAt 137 (ε (some q))).run prog w=.ok (ε (some ⟨p,0,none⟩)) w:=by
 go_simp
theorem Sc (w:ι):
 Δ prog 48 #[] w λe Y=>∃(s:Nat) (atG:aj),e=δ (ε (some ⟨s,0,none⟩))/\cX Y s atG (λ_=>False) [] [] 0/\(∀k,atG k->w.heap.size<=k)/\Below w.heap.size w Y:=by
 have hC:=H (RU w);have hI:=H λW=>R6 W;go_enter func48,ntmps48;go_wp2_with (first
  |(go_at_call 91;refine(hC.out).mono ?_;rintro e w1 ⟨rfl,c1,b1⟩;replace c1:=H c1;replace b1:=H b1)
  |(go_at_call 92;refine(hI.out _).mono ?_;rintro e w2 ⟨rfl,i2,b2⟩;replace i2:=H i2;replace b2:=H b2))
 go_ret;have oV:w.heap.size+1<w1.heap.size:=c1.out.row.lt;have fN:w1.heap.size<w2.heap.size:=i2.out.row.lt;have aR:Below w2.heap.size w2 (w2.alloc (η #[ε (some ⟨w.heap.size+1,0,none⟩),ε (some ⟨w1.heap.size,0,none⟩)] 140)):=(ψ _ _).alloc (ο _) _;have hsb:∀k,Hc w2.heap.size (w.heap.size+1) w.heap.size w1.heap.size (ζ none 0 0) .nil k->w.heap.size<=k:=λk I=>by
  rcases I with rfl|(rfl|rfl|I)|I
  ·omega
  ·omega
  ·omega
  ·simp[κ]at I
  rcases List.mem_cons.1 I with rfl|I
  ·omega
  simp[LT.ax]at I
 refine⟨w2.heap.size,Hc w2.heap.size (w.heap.size+1) w.heap.size w1.heap.size (ζ none 0 0) .nil,rfl,⟨w.heap.size+1,w.heap.size,w1.heap.size,ζ none 0 0,[],.nil,?_⟩,λk I=>hsb k I,(b1.out.trans (b2.out.mono b1.out.size)).trans (aR.mono (by omega))⟩;have amW:=(c1.out.on b2.out).on aR;exact{
  row:=M.new w2 _ _
  dh:=amW
  snd:=rfl
  pd:=λp J=>by cases J
  ok:=λp J=>by cases J
  idx:=i2.out.keep λk I=>aR.block k (by
   rcases List.mem_cons.1 I with rfl|I
   ·exact fN
   simp[LT.ax]at I)
  srt:=Θ
  perm:=Ϝ _
  sz:=by decide
  hz:=by omega
  n8:=by simp
  k30:=by simp
  mx:=rfl
  et:=λk I=>I.elim
  d1:=λI=>by
   rcases I with I|I|I
   ·omega
   ·omega
   simp[κ]at I
  d2:=λk I=>by
   rcases List.mem_cons.1 I with rfl|I
   ·refine⟨by omega,λI=>?_⟩;rcases I with I|I|I
    ·omega
    ·omega
    simp[κ]at I
   simp[LT.ax]at I}
def Mg (W:ι)(s cp ip b:Nat)(t:Int)(i:Nat)(v:Value)(w:ι):Prop:=match i with
 |9=>∃bm,v=.func (.func 224) #[] #[ε (some ⟨bm,0,none⟩)]/\M w bm [.map (some b)] 200/\W.heap.size<=bm
 |n=>v=[ε (some ⟨s,0,none⟩),ε (some ⟨s,0,none⟩),ε (some ⟨s,1,none⟩),ε (some ⟨ip,0,none⟩),V Z t,ε (some ⟨s,0,none⟩),ε (some ⟨s,0,none⟩),ε (some ⟨s,0,none⟩),ε (some ⟨cp,0,none⟩)].getD n undef
theorem Mg.grow {W:ι}{s cp ip b:Nat}{t:Int}(i:Nat)(v:Value)(w Y:ι)(h:Mg W s cp ip b t i v w)(U:Below w.heap.size w Y):Mg W s cp ip b t i v Y:=by
 unfold Mg at h⊢;split at h
 ·obtain⟨bm,G,A,K⟩:=h;exact⟨bm,G,A.on U,K⟩
 exact h
def rQ (s:Nat)(t:Int):List (Nat×Value):=[(0,ε (some ⟨s,0,none⟩)),(1,V Z t)]
theorem ac6 (W:ι)(s cp ip b:Nat)(t:Int):rO (λi=>7+i) (rQ s t) 19 10 (Mg W s cp ip b t):=
 ⟨λi S=>by show 7+i<19;omega,λi j S hj h=>by have h':7+i=7+j:=h;omega,λq J i S=>by
  simp only[rQ,ϋ,Ϥ,or_false]at J;show q.1≠7+i;rcases J with rfl|rfl<;>simp<;>omega,Mg.grow⟩
theorem UR (a:Act)(h:a.tmps.size=19)(hd:a.defers=[]):∃f:Nat->Value,a=⟨[f 0,f 1,f 2,f 3,f 4,f 5,f 6,f 7,f 8,f 9,f 10,f 11,f 12,f 13,f 14,f 15,f 16,f 17,f 18].toArray,[]⟩/\∀k,a.eval (.tmp k)=f k:=gO 19 a h hd
def AP (s:Nat)(atG E:aj)(ns:List ByteArray)(ds:List aK)(h t:Int)(w:ι):ώ->ι->Prop:=λe Y=>
 if cq t then e=(if lA ds h t then δ (.tuple #[])else .panicked (bF 5))/\wH s atG E ns ds h t w Y else e=.panicked (bF 1)/\Below w.heap.size w Y
theorem wH.later {s:Nat}{atG E:aj}{ns:List ByteArray}{ds:List aK}{h t:Int}{w w1 w2:ι}(U:Below w.heap.size w w1)(x:wH s atG E ns ds h t w1 w2):wH s atG E ns ds h t w w2:=by
 obtain⟨M',G,A,K⟩:=x;exact⟨M',G,(ak.ar U).aM A,λk I=>(K k I).imp id λh=>Ζ U.size h⟩
theorem OG {w:ι}{s:Nat}{atG E:aj}{ns:List ByteArray}{ds:List aK}{h:Int}(x:cX w s atG E ns ds h)(t:Int)(ht:jg w):
 Δ prog 53 #[ε (some ⟨s,0,none⟩),V Z t] w (AP s atG E ns ds h t w):=by
 have CT:=H (AQ t w ht);have HX:=H x;clear x ht;cases Mh:cq t with
 |false=>
  rw[Mh]at CT;go_enter func53,ntmps53;go_wp2_with (first
   |(go_at_call 97;refine(CT.out).mono ?_;rintro e w1 ⟨rfl,au⟩)
   |(go_at_call 65;refine(gY 1 _).mono ?_;rintro e w2 ⟨rfl,rfl⟩))
  exact⟨rfl,by unfold AP;rw[Mh];exact⟨rfl,au⟩⟩
 |true=>
  have US:0<=t/\t<=7258118400:=by
   unfold cq at Mh;simp at Mh;omega
  rw[Mh]at CT;go_enter func53,ntmps53;go_upto_region 1 with(first
   |(go_at_call 97;refine(CT.out).mono ?_;rintro e w1 ⟨rfl,au⟩)
   |(go_at_call 65;refine(fD 1 _).mono ?_;rintro e w2 ⟨rfl,rfl⟩))
  obtain⟨cp,b,ip,nv,ps,T,x1⟩:=HX.out.on au;replace x1:=H x1;replace au:=H au;clear HX CT;have atI:=ac6 w1 s cp ip b t;refine ei 10 (by simp only[List.take_succ_cons,List.take_zero];rfl) (by simp only[List.drop_succ_cons,List.drop_zero];rfl) (GV (λi=>7+i) (Mg w1 s cp ip b t)) (JV 19 (rQ s t) w1) (by kernel_rfl) (by kernel_rfl) (by kernel_rfl) (by kernel_rfl) (by kernel_rfl) (by kernel_rfl) rfl ?rops ?rdone ⟨rfl,rfl,λq J=>by
   simp only[rQ,ϋ,Ϥ,or_false]at J;rcases J with rfl|rfl<;>rfl,(ψ _ _).drew⟩
  case rops=>
   intro i o ho a Y ay hG Q';have S:i<10:=(Array.getElem?_eq_some_iff.1 ho).1;have t0:a.eval (.tmp 0)=ε (some ⟨s,0,none⟩):=ay.fixed (0,_) (by simp[rQ]);have t1:a.eval (.tmp 1)=V Z t:=ay.fixed (1,_) (by simp[rQ]);have eQ:i=0\/i=1\/i=2\/i=3\/i=4\/i=5\/i=6\/i=7\/i=8\/i=9:=by omega
   rcases eQ with rfl|rfl|rfl|rfl|rfl|rfl|rfl|rfl|rfl|rfl<;>obtain rfl:=ϭ ho
   ·exact ai (cW rfl t0) (aZ atI ay)
   ·have e1:a.eval (.tmp 7)=ε (some ⟨s,0,none⟩):=aF hG 0;exact ai (eJ rfl e1) (aZ atI ay)
   ·have e1:a.eval (.tmp 8)=ε (some ⟨s,0,none⟩):=aF hG 1;exact ai (cR rfl e1 tS) (aZ atI ay)
   ·have e1:a.eval (.tmp 9)=ε (some ⟨s,1,none⟩):=aF hG 2;exact ai (aY rfl e1 (nC ((x1.out.row.on ay.below).cell (k:=1) rfl))) (aZ atI ay)
   ·exact ai (cW rfl t1) (aZ atI ay)
   ·exact ai (cW rfl t0) (aZ atI ay)
   ·have e1:a.eval (.tmp 12)=ε (some ⟨s,0,none⟩):=aF hG 5;exact ai (eJ rfl e1) (aZ atI ay)
   ·have e1:a.eval (.tmp 13)=ε (some ⟨s,0,none⟩):=aF hG 6;exact ai (cR rfl e1 Hd) (aZ atI ay)
   ·have e1:a.eval (.tmp 14)=ε (some ⟨s,0,none⟩):=aF hG 7;exact ai (aY rfl e1 (yC ((x1.out.row.on ay.below).cell (k:=0) rfl))) (aZ atI ay)
   have e1:a.eval (.tmp 15)=ε (some ⟨cp,0,none⟩):=aF hG 8;refine cM (f:=99) (args:=#[a.eval (.tmp 15)]) (by kernel_rfl) (by rw[e1];exact Fk cp b nv Y (x1.out.dh.on ay.below).row) ?_ (by rintro c az ⟨e,_⟩;cases e) (by rintro az ⟨e,_⟩;cases e);rintro v az ⟨e,rfl⟩;cases e;exact mz atI rfl (by decide) ay ((ψ _ _).alloc (ο _) _) ⟨Y.heap.size,rfl,M.new Y _ _,ay.below.size⟩
  case rdone=>
   intro a w3 ay hG;obtain⟨bm,uT,hrm,UT⟩:∃bm,a.eval (.tmp 16)=.func (.func 224) #[] #[ε (some ⟨bm,0,none⟩)]/\M w3 bm [.map (some b)] 200/\w1.heap.size<=bm:=hG 9 (by decide);have UU:a.eval (.tmp 10)=ε (some ⟨ip,0,none⟩):=hG 3 (by decide);have UB:a.eval (.tmp 11)=V Z t:=hG 4 (by decide);have aR:=ay.below;have gh:=ay.size;have gC:=ay.defers;clear ay hG atI;obtain⟨fr,rfl,hf⟩:=UR a gh gC;have g10:=(hf 10).symm.trans UU;have g11:=(hf 11).symm.trans UB;have g16:=(hf 16).symm.trans uT;rw[g10,g11,g16];clear hf gh gC UU UB uT g10 g11 g16;have x3:cQ w3 s atG E ns ds h cp b ip nv ps T:=x1.out.keep λk I=>aR.block k (I.elim (x1.out.lt k) (x1.out.el k));have HM:=H (Md x3 t US.1 US.2 bm hrm);have al:=H (au.out.trans (aR.mono au.out.size));clear x3 hrm au aR x1;cases vL:lA ds h t with
   |true=>
    rw[vL]at HM;go_wp2_with (first
     |(go_at_call 98;refine(HM.out).mono ?_;rintro e w4 ⟨rfl,Cz⟩;replace Cz:=H Cz)
     |(go_at_call 65;refine(fD 5 _).mono ?_;rintro e w2 ⟨rfl,rfl⟩))
    go_end0;unfold AP;rw[Mh,if_pos rfl,vL];exact⟨rfl,wH.later al.out Cz.out⟩
   |false=>
    rw[vL]at HM;go_wp2_with (first
     |(go_at_call 98;refine(HM.out).mono ?_;rintro e w4 ⟨rfl,Cz⟩;replace Cz:=H Cz)
     |(go_at_call 65;refine(gY 5 _).mono ?_;rintro e w2 ⟨rfl,rfl⟩))
    refine⟨rfl,?_⟩;unfold AP;rw[Mh,if_pos rfl,vL];exact⟨rfl,wH.later al.out Cz.out⟩
end Go.Proofs.YthpndgcaoeokeaaGreatDoor
namespace Go.Proofs.YthpndgcaoeokeaaGreatDoor
open Tryz
open Go.RowKit Go.Sort
theorem YH {s:List UInt8}{d:pf}(h:iz s=.ok d):(0<=d.st/\d.st<=7258118399)/\(1<=d.ln/\d.ln<=2678400)/\fR d.xt/\d.xt.length<=20:=by
 obtain⟨_,q1,q2,q3,q4,q5⟩:=PY h;have f4:=UW q4;exact⟨xx q1,Mi q2,f4.1,f4.2.1⟩
def mT (c:ByteArray)(d:pf):aK:=⟨c,bU (val d.f 0),d.st,d.ln,jq d,jr d,d.ex,d.xt,gK d.f,kindOf d.f-1⟩
theorem YK {d:pf}{E:ώ}{w:ι}(h:KS d E w):∃(m md wk pl:Value) (tx:ByteArray) (aI aH:Value),E=δ (.agg (cF (bU (val d.f 0)) d.st d.ln (jq d) (jr d) m md wk pl tx aI aH (gK d.f) (kindOf d.f-1)).toArray)/\kt w (jq d) (jr d) m md wk pl aI aH d.ex d.xt:=by
 obtain⟨⟨hs,N,hex,mw,l1,l2⟩,aI,aH,i1,i2,h⟩:=h;rcases h with⟨xp,rfl⟩|⟨F,r,m,md,wk,pl,xp,hP,j1,j2,j3,j4,rfl⟩
 ·have e1:jq d=false:=by unfold jq;rw[xp];rfl
  have e2:jr d=ic:=by unfold jr;rw[xp]
  rw[e1,e2];exact⟨ζ none 0 0,ζ none 0 0,ζ none 0 0,ζ none 0 0,⟨#[]⟩,aI,aH,rfl,⟨⟨.inl ⟨rfl,rfl⟩,.inl ⟨rfl,rfl⟩,.inl ⟨rfl,rfl⟩,.inl ⟨rfl,rfl⟩⟩,λh=>(by cases h),i1,i2,by omega,by omega,hex,mw⟩⟩
 have e1:jq d=true:=by unfold jq;rw[xp];rfl
 have e2:jr d=r:=by unfold jr;rw[xp];exact Jl hP
 rw[e1,e2];exact⟨m,md,wk,pl,gD F,aI,aH,rfl,⟨⟨j1,j2,j3,j4⟩,λ_=>Mj hP,i1,i2,by omega,by omega,hex,mw⟩⟩
theorem ac7 {s:List UInt8}{d:pf}{E:ώ}{w:ι}(c:ByteArray)(hr:iz s=.ok d)(h:KS d E w):∃(EV:List Value) (E2:aj),E=δ (.agg EV.toArray)/\iI w E2 ⟨(mT c d).kc,(mT c d).ku,EV⟩ (mT c d)/\(∀k,E2 k->tt w k)/\(mT c d).ok/\EV[0]?=some (.string (mT c d).ku):=by
 obtain⟨m,md,wk,pl,tx,aI,aH,G,A⟩:=YK h;obtain⟨a1,a2,a3,a4⟩:=YH hr;refine⟨_,kY m md wk pl aI aH,G,⟨rfl,rfl,_,m,md,wk,pl,tx,aI,aH,rfl,A,λj hj=>hj⟩,λk I=>aiM A I,⟨A.ok,?_,?_,a3,?_⟩,rfl⟩
 ·show 0<=d.st/\d.st<=7258118400;omega
 ·show 1<=d.ln/\d.ln<=10000000;omega
 show d.xt.length<=1000;omega
def wI (c:ByteArray)(ns:List ByteArray):List ByteArray:=if ν ns c then ns else ns++[c]
def jY (c u:ByteArray)(ns:List ByteArray)(ds:List aK):Bool:=(!Lib.containsS ns c&&decide (8<=ns.length))||(!qR c u ds&&decide (30<=ds.length))
def AR (c:ByteArray)(s:List UInt8)(ns:List ByteArray)(ds:List aK):Except Int aK:=
 if fT c then match iz s with
  | .error x=>.error x
  | .ok d=>if jY c (mT c d).ku ns ds then .error 5 else .ok (mT c d)
 else .error 4
def DO (D:aK)(ds:List aK)(h:Int):Int:=if iy (mn D ds) h<=500 then h else 0
theorem Fx {α:Type}{l:List α}{f g:α->Bool}(h:∀x∈l,f x=g x):l.any f=l.any g:=by
 induction l with
 |nil=>rfl
 |cons x l ih=>rw[ό,ό,h x (by simp),ih λy hy=>h y (by simp[hy])]
section
variable {w W w3 w5 w6:ι} {s:Nat} {atG E:aj} {ns:List ByteArray} {ds:List aK} {h:Int} {cp b ip:Nat} {nv:Value} {ps:List (KE×aK)} {T:LT}
theorem cQ.find (x:cQ w s atG E ns ds h cp b ip nv ps T)(c u:ByteArray):(dm c u (ps.map (·.1))).isSome=qR c u ds:=by
 unfold dm qR;rw[List.isSome_find?,<-x.snd,List.any_map,List.any_map];apply Fx;intro p J;exact x.same c u J
theorem cQ.found (x:cQ w s atG E ns ds h cp b ip nv ps T){c u:ByteArray}{k:KE}(I:dm c u (ps.map (·.1))=some k):∃p∈ps,p.1=k/\iT c u p.2=true:=by
 unfold dm at I;have G:=List.mem_of_find?_eq_some I;have A:=List.find?_some I;obtain⟨p,J,rfl⟩:=List.mem_map.1 G;exact⟨p,J,rfl,by rw[<-x.same c u J];exact A⟩
theorem cQ.full (x:cQ w s atG E ns ds h cp b ip nv ps T)(c u:ByteArray):jY c u ns ds=true↔ν ns c=false/\8<=ns.length\/(dm c u (ps.map (·.1))).isSome=false/\30<=(ps.map (·.1)).length:=by
 have e1:(ps.map (·.1)).length=ds.length:=by rw[<-x.snd,τ,τ]
 rw[x.find,e1];unfold jY;simp
def vM (D:aK)(EV:List Value)(ds:List aK)(ps:List (KE×aK)):List (KE×aK):=if qR D.kc D.ku ds then ps.map λp=>if dj D.kc D.ku p.1 then(⟨D.kc,D.ku,EV⟩,D)else p else ps++[(⟨D.kc,D.ku,EV⟩,D)]
theorem cQ.ac8 (x:cQ w s atG E ns ds h cp b ip nv ps T)(D:aK)(EV:List Value):(vM D EV ds ps).map (·.1)=oH ⟨D.kc,D.ku,EV⟩ (ps.map (·.1)):=by
 unfold vM oH;simp only[x.find];split
 ·rw[π,π];apply Ι;intro p J;simp only[Function.comp];split<;>rfl
 rw[Η];rfl
theorem cQ.ac9 (x:cQ w s atG E ns ds h cp b ip nv ps T)(D:aK)(EV:List Value):(vM D EV ds ps).map (·.2)=mn D ds:=by
 unfold vM mn;split
 ·rw[π,<-x.snd,π];apply Ι;intro p J;simp only[Function.comp];rw[x.same _ _ J];split<;>rfl
 rw[Η,x.snd];rfl
theorem UX {D:aK}{EV:List Value}{p:KE×aK}(J:p∈vM D EV ds ps):p∈ps\/p=(⟨D.kc,D.ku,EV⟩,D):=by
 unfold vM at J;split at J
 ·obtain⟨q,hq,rfl⟩:=List.mem_map.1 J;split
  ·exact .inr rfl
  exact .inl hq
 exact(List.mem_append.1 J).imp id List.mem_singleton.1
def Sd (s:Nat)(atG:aj)(ns:List ByteArray)(ds:List aK)(h:Int)(D:aK)(w:ι):ι->Prop:=λY=>∃M' E':aj,cX Y s M' E' (wI D.kc ns) (mn D ds) (DO D ds h)/\ak atG w Y/\(∀k,M' k->atG k\/w.heap.size<=k)/\∀k,E' k->tt Y k
theorem CU (x:cQ w s atG E ns ds h cp b ip nv ps T){D:aK}{EV:List Value}{E2:aj}{jH:Value}{atI:LT}(hD:D.ok)(bV:Below w.heap.size w W)(ib:iI W E2 ⟨D.kc,D.ku,EV⟩ D)(PZ:∀k,E2 k->tt W k)(jZ:jY D.kc D.ku ns ds=false)
 (hc3:fl w3 cp b jH (wI D.kc ns) (oH ⟨D.kc,D.ku,EV⟩ (ps.map (·.1))))(dZ:ak (mm cp b nv) W w3)(xy:∀j,jH.ownBlock=some j->nv.ownBlock=some j\/W.heap.size<=j)
 (Fy:atI.aw.Perm ((oK D.kc D.ku ds).flatMap (·.aw 0 h)))(UY:∀k∈atI.ax,k∈T.ax)(fV:ak (λk=>k∈ip::T.ax) w3 w5)
 (hP:aaO ip atI h (D.aw 0 h) w5 (δ (.tuple #[])) w6):Sd s atG ns ds h D w w6:=by
 obtain⟨_,T',h',a1,a2,a3,a4,a5,a6⟩:=hP;have arc:(D.aw 0 h).length+atI.size=iy (mn D ds) h:=by
  unfold iy;rw[(Jj (d:=D) (f:=(·.aw 0 h)) x.keys).length_eq,μ,<-Fy.length_eq,LT.cO]
 have cI:∀d∈mn D ds,d.ok:=ac3 x.ok hD;have hSi:∀k,k∈ip::atI.ax->k∈ip::T.ax:=λk I=>(List.mem_cons.1 I).elim (λe=>by simp[e]) λe=>by simp[UY k e]
 have jT:ak (λk=>k∈ip::T.ax) w5 w6:=a6.mono λk I=>.inl (hSi k I);have Se:ak (λk=>k∈ip::T.ax) w3 w6:=fV.aM jT;have X:ak atG w w6:=((ak.ar bV).aM (dZ.mono λk I=>.inl (x.mc k I))).aM (Se.mono λk I=>.inl (x.mi k I));have mN:ak atG W w6:=(dZ.mono λk I=>.inl (x.mc k I)).aM (Se.mono λk I=>.inl (x.mi k I));have IP:=dZ.size;have ti:=fV.size;have Uh:=bV.size;have o7:∀j,jH.ownBlock=some j->j<w3.heap.size:=λj hj=>hc3.lt (.inr (.inr hj));have jl:∀k,k∈ip::T.ax->k<w.heap.size:=λk I=>x.lt k (x.mi k I);have fk:∀k,k∈ip::T'.ax->k∈ip::T.ax\/w5.heap.size<=k:=λk I=>(List.mem_cons.1 I).elim (λe=>.inl (by simp[e])) λe=>(a5 k e).imp (λh=>hSi k (by simp[h])) id;have aiO:fl w6 cp b jH (wI D.kc ns) (oH ⟨D.kc,D.ku,EV⟩ (ps.map (·.1))):=hc3.aL Se λk I cj=>by
  have G:=(x.d2 k cj).2;rcases I with I|I|I
  ·exact G (.inl I)
  ·exact G (.inr (.inl I))
  rcases xy k I with I|I
  ·exact G (.inr (.inr I))
  have:=jl k cj;omega
 have hMt:∀k,atG k->uU w k:=x.mt;have Mk:∀k,tt w k->w6.heap[k]?=w.heap[k]?:=λk I=>X.block k I.lt λhM=>jo I (hMt k hM);have Ml:∀k,E2 k->w6.heap[k]?=W.heap[k]?:=λk I=>mN.block k (PZ k I).lt λhM=>by
  have G:=PZ k I;have A:=hMt k hM;have K:=bV.block k (x.lt k hM);exact jo (G.keep K.symm) A
 have hH:DO D ds h=h':=by
  unfold DO;by_cases hf:iy (mn D ds) h<=500
  ·rw[if_pos hf];exact(a3 (by omega)).1.symm
  rw[if_neg hf];exact(a4 (by omega)).1.symm
 refine⟨Hc s cp b ip jH T',λk=>E k\/E2 k,⟨cp,b,ip,jH,vM D EV ds ps,T',?_⟩,X,λk I=>?_,λk I=>I.elim (λh=>(x.et k h).keep (Mk k (x.et k h))) λh=>(PZ k h).keep (Ml k h)⟩
 ·rw[hH];have uC:T'.aw.Perm ((mn D ds).flatMap (·.aw 0 h')):=by
   by_cases hf:iy (mn D ds) h<=500
   ·obtain⟨e1,e2⟩:=a3 (by omega);rw[e1];exact e2.trans ((χ _ Fy).trans (Jj (d:=D) (f:=(·.aw 0 h)) x.keys).symm)
   obtain⟨e1,e2⟩:=a4 (by omega);rw[e1,all_zero cI,e2];have:qK 0 atI.aw=[]:=by
    unfold qK;rw[ύ];intro e he;obtain⟨d,hd,he⟩:=List.mem_flatMap.1 (Fy.mem_iff.1 he);have:=aK.Yx (x.ok d (yz hd).1) x.hz.2 e he;simp;omega
   rw[this]
  have uq:T'.size=iy (mn D ds) h':=by
   unfold iy;rw[<-uC.length_eq,LT.cO]
  exact{
   row:=((x.row.on bV).ex dZ x.d1).ex Se λhs=>(x.d2 s hs).1 rfl
   dh:=by rw[x.ac8];exact aiO
   snd:=x.ac9 D EV
   pd:=λp J=>by
    rcases UX J with J|rfl
    ·exact((x.pd p J).keep λj hj=>Mk j (x.et j hj)).mono λj hj=>.inl hj
    exact(ib.keep Ml).mono λj hj=>.inr hj
   ok:=cI
   idx:=a1
   srt:=a2
   perm:=uC
   sz:=by
    rw[uq,<-hH];unfold DO;by_cases hf:iy (mn D ds) h<=500
    ·rw[if_pos hf];exact hf
    rw[if_neg hf,Fs cI];omega
   hz:=by
    rw[<-hH];unfold DO;have:=x.hz;split<;>omega
   n8:=by
    have:=x.n8;unfold jY at jZ;unfold wI;split
    ·exact this
    rename_i o5;simp[o5]at jZ;rw[μ,List.length_singleton];omega
   k30:=by
    have:=x.k30;have P7:ds.length=ps.length:=by rw[<-x.snd,τ]
    unfold jY at jZ;unfold vM;split
    ·rw[τ];exact this
    rename_i o5;simp[o5]at jZ;rw[μ,List.length_singleton];omega
   mx:=rfl
   et:=λk I=>I.elim (λh=>(x.et k h).keep (Mk k (x.et k h))) λh=>(PZ k h).keep (Ml k h)
   d1:=λI=>by
    rcases I with I|I|I
    ·exact x.d1 (.inl I)
    ·exact x.d1 (.inr (.inl I))
    rcases xy s I with I|I
    ·exact x.d1 (.inr (.inr I))
    have:=x.lt s x.ms;omega
   d2:=λk I=>by
    rcases fk k I with I|I
    ·refine⟨(x.d2 k I).1,λhc=>?_⟩;rcases hc with hc|hc|hc
     ·exact(x.d2 k I).2 (.inl hc)
     ·exact(x.d2 k I).2 (.inr (.inl hc))
     rcases xy k hc with hc|hc
     ·exact(x.d2 k I).2 (.inr (.inr hc))
     have:=jl k I;omega
    refine⟨λe=>by have:=x.lt s x.ms;omega,λhc=>?_⟩;rcases hc with hc|hc|hc
    ·have:=x.lt k (x.mc k (.inl hc));omega
    ·have:=x.lt k (x.mc k (.inr (.inl hc)));omega
    have:=o7 k hc;omega}
 rcases I with I|(I|I|I)|I
 ·exact .inl (by rw[x.mx];exact .inl I)
 ·exact .inl (x.mc k (.inl I))
 ·exact .inl (x.mc k (.inr (.inl I)))
 ·rcases xy k I with I|I
  ·exact .inl (x.mc k (.inr (.inr I)))
  exact .inr (by omega)
 rcases fk k I with I|I
 ·exact .inl (x.mi k I)
 exact .inr (by omega)
end
end Go.Proofs.YthpndgcaoeokeaaGreatDoor
