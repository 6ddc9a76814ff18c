import Derived.Test.YtchdfdmjihnhkaaGreatDoorUq12
set_option maxRecDepth 100000
set_option maxHeartbeats 8000000
open Go.IntKind renaming i64->Z
open Go.Value renaming int->V,pointer->ζ,slice->η,string->θ,ownBlock->Ζ,string->Ξ
open Go.Ending renaming returned->δ,panicked->ε
open Go.Obj renaming cells->ι
open Nat renaming lt_of_lt_of_le->κ,le_refl->ξ,le_trans->ο
open Go renaming World->μ,Calls->φ,Ending->Κ
open Go.RowKit.Below renaming refl->ν
open List renaming not_mem_nil->π,mem_cons->ρ,length_filter_le->τ,length_map->ω,take_succ_cons->Α,mem_map_of_mem->Β,drop_succ_cons->Γ,flatMap_cons->Δ,take_zero->Η,drop_zero->Θ,getElem?_eq_getElem->Λ,filter_congr->Ν
open Go.Instr renaming makeFunc->υ
open Option.some renaming inj->χ
open Go.Lib renaming containsS->ψ
open Int renaming le_refl->Ε
open ByteArray renaming size_append->Ι,empty->Μ
namespace Go.Proofs.YtchdfdmjihnhkaaGreatDoor
open Tryz
open Go.RowKit Go.Sort
section
def tg (s:Nat)(aqz:ak)(ns:List ByteArray)(ds:List aL)(h:Int)(c:ByteArray)(t:List UInt8)(w:μ):Κ->μ->Prop:=λe I=>
 match CE c t ns ds with
 | .error x=>e=ε (bx x)/\Below w.heap.size w I
 | .ok D=>(∃v,e=δ v)/\Q3 s aqz ns ds h D w I
def Ac (s:Nat)(aqz:ak)(ns:List ByteArray)(ds:List aL)(h:Int)(D:aL)(w:μ):Κ->μ->Prop:=λe I=>
 if la D.kc D.ku ns ds then e=ε (bx 5)/\Below w.heap.size w I else(∃v,e=δ v)/\Q3 s aqz ns ds h D w I
def BR (W:μ)(s cp:Nat)(c u:ByteArray)(EV iB:List Value)(rep ok:Bool)(i:Nat)(v:Value)(w:μ):Prop:=match i with
 |6=>ok=true/\v=.tuple #[.agg iB.toArray,.bool rep]
 |7=>ok=true/\v=.tuple #[.agg iB.toArray,.bool rep]
 |8=>ok=true/\v=.agg iB.toArray
 |9=>ok=true/\v=.bool rep
 |10=>∃g cs,v=ζ (some ⟨g,0,none⟩)/\X w g cs 99/\cs.length=18/\W.heap.size<=g
 |11=>ok=true/\∃g,v=ζ (some ⟨g,0,none⟩)/\X w g iB 99/\W.heap.size<=g
 |12=>ok=true/\v=.bool rep
 |n=>v=[ζ (some ⟨s,0,none⟩),ζ (some ⟨s,0,none⟩),ζ (some ⟨s,0,none⟩),ζ (some ⟨cp,0,none⟩),.agg #[θ c,θ u],.agg EV.toArray].getD n undef
theorem BR.keep {W:μ}{s cp:Nat}{c u:ByteArray}{EV iB:List Value}{rep ok:Bool}{w I:μ}(Y:∀g,W.heap.size<=g->g<w.heap.size->I.heap[g]?=w.heap[g]?)(i:Nat)(v:Value)(hn:BR W s cp c u EV iB rep ok i v w):BR W s cp c u EV iB rep ok i v I:=by
 unfold BR at hn⊢;split at hn
 ·exact hn
 ·exact hn
 ·exact hn
 ·exact hn
 ·obtain⟨g,cs,G,A,M,h4⟩:=hn;exact⟨g,cs,G,A.keep (Y g h4 A.lt),M,h4⟩
 ·obtain⟨h0,g,G,A,h4⟩:=hn;exact⟨h0,g,G,A.keep (Y g h4 A.lt),h4⟩
 ·exact hn
 exact hn
def sSp (i:Nat):Nat:=[20,21,22,23,24,25,26,19,27,28,9,9,10].getD i 0
def vr (s k7 k8:Nat):List (Nat×Value):=[(0,ζ (some ⟨s,0,none⟩)),(7,ζ (some ⟨k7,0,none⟩)),(8,ζ (some ⟨k8,0,none⟩))]
def vt (W:μ)(cp b:Nat)(nv:Value)(yU:List ByteArray)(dI:List KE)(d:Nat->Bool)(a:Act)(w:μ):Prop:=
 (d 6=false->Below W.heap.size W w)/\(d 6=true->∃jh,dJ w cp b jh yU dI/\aj (jZ cp b nv) W w/\∀j,jh.ownBlock=some j->(nv.ownBlock=some j\/W.heap.size<=j)/\(d 10=true->a.eval (.tmp 9)≠ ζ (some ⟨j,0,none⟩)))
theorem vt.put {W:μ}{cp b:Nat}{nv:Value}{yU:List ByteArray}{dI:List KE}{d:Nat->Bool}{a:Act}{w:μ}(h:vt W cp b nv yU dI d a w){i k:Nat}(h6:i≠6)(Ep:i≠10)(Y:k≠9)(v:Value):vt W cp b nv yU dI (oI d i) (a.put (some k) v) w:=by
 unfold vt;rw[gE (Ne.symm h6),gE (Ne.symm Ep),cY (Ne.symm Y)];exact h
theorem vt.called {W:μ}{cp b:Nat}{nv jh:Value}{yU:List ByteArray}{dI:List KE}{d:Nat->Bool}{a:Act}{w:μ}(G:dJ w cp b jh yU dI)(A:aj (jZ cp b nv) W w)(M:∀j,jh.ownBlock=some j->(nv.ownBlock=some j\/W.heap.size<=j)/\(d 10=true->a.eval (.tmp 9)≠ ζ (some ⟨j,0,none⟩))){k:Nat}(Y:k≠9)(v:Value):vt W cp b nv yU dI (oI d 6) (a.put (some k) v) w:=by
 unfold vt;rw[oa,gE (by decide),cY (Ne.symm Y)];exact⟨λh=>(by cases h),λ_=>⟨jh,G,A,M⟩⟩
theorem vt.made {W:μ}{cp b:Nat}{nv:Value}{yU:List ByteArray}{dI:List KE}{d:Nat->Bool}{a:Act}{w I:μ}(h:vt W cp b nv yU dI d a w)(U:Below w.heap.size w I)(hs:9<a.tmps.size):vt W cp b nv yU dI (oI d 10) (a.put (some 9) (ζ (some ⟨w.heap.size,0,none⟩))) I:=by
 unfold vt;rw[oa,gE (by decide),gO hs];refine⟨λh6=>(h.1 h6).trans (U.mono (h.1 h6).size),λh6=>?_⟩;obtain⟨jh,G,A,M⟩:=h.2 h6;refine⟨jh,G.on U,A.aK (aj.aq U),λj hj=>⟨(M j hj).1,λ_ e=>?_⟩⟩;injection e with e
 injection e with e
 injection e with e
 have:=G.lt (k:=j) (.inr (.inr hj));omega
theorem vu (a:Act)(h:a.tmps.size=44)(hd:a.defers=[]):∃f:Nat->Value,a=⟨List.toArray (f 0::f 1::f 2::f 3::f 4::f 5::f 6::f 7::f 8::f 9::f 10::f 11::f 12::f 13::f 14::f 15::f 16::f 17::f 18::f 19::f 20::f 21::f 22::f 23::f 24::f 25::f 26::f 27::f 28::f 29::f 30::f 31::f 32::f 33::f 34::f 35::f 36::f 37::f 38::f 39::f 40::f 41::f 42::f 43::[]),[]⟩/\∀k,a.eval (.tmp k)=f k:=gK 44 a h hd
def ZP (s ip:Nat)(c u:ByteArray)(EV:List Value)(i:Nat)(v:Value)(_:μ):Prop:=v=[ζ (some ⟨s,0,none⟩),ζ (some ⟨s,0,none⟩),ζ (some ⟨s,1,none⟩),ζ (some ⟨ip,0,none⟩),.agg #[θ c,θ u],.agg EV.toArray].getD i undef
theorem Gm (o:Nat)(fix:List (Nat×Value))(n0:Nat)(s ip:Nat)(c u:ByteArray)(EV:List Value)(G:o+6<=n0)(A:∀p∈fix,p.1<o):qQ (λi=>o+i) fix n0 6 (ZP s ip c u EV):=
 ⟨λi hi=>by show o+i<n0;omega,λi j hi hj h=>by have h':o+i=o+j:=h;omega,λq J i hi=>by
  have:=A q J;show q.1≠o+i;omega,λ_ _ _ _ h _=>h⟩
def qU (s k7 k8 k9:Nat):List (Nat×Value):=[(0,ζ (some ⟨s,0,none⟩)),(7,ζ (some ⟨k7,0,none⟩)),(8,ζ (some ⟨k8,0,none⟩)),(9,ζ (some ⟨k9,0,none⟩))]
def lZ (s k7 k8:Nat):List (Nat×Value):=[(0,ζ (some ⟨s,0,none⟩)),(7,ζ (some ⟨k7,0,none⟩)),(8,ζ (some ⟨k8,0,none⟩))]
theorem O2 (c u:ByteArray):∀v∈[Ξ c,Ξ u],v.oneCell'=true:=by intro v hv;simp at hv;rcases hv with rfl|rfl<;>rfl
theorem Q6 {w:μ}{s:Nat}{aqz E:ak}{ns:List ByteArray}{ds:List aL}{h:Int}(x:cg w s aqz E ns ds h)(c:ByteArray)(t:List UInt8)(hm:ML w)(hc:c.size<=maxLen):
 φ prog 35 #[ζ (some ⟨s,0,none⟩),θ c,θ ⟨t.toArray⟩] w (tg s aqz ns ds h c t w):=by
 have CN:=H (yV c 4 w hc);cases kA:kk c with
 |false=>
  rw[EG kA]at CN;clear x hm;go_enter func35,ntmps35;go_wp2_with (go_at_call 57;refine(CN.out).mono ?_;rintro e w1 ⟨rfl,ay⟩);exact⟨rfl,by unfold tg CE;rw[kA];exact⟨rfl,ay⟩⟩
 |true=>
 rw[O3 kA]at CN;have CR:=H λ(W:μ) (U:Below w.heap.size w W)=>Gn t W (hm.on U);cases hr:iA t with
 |error y=>
  clear x hm;go_enter func35,ntmps35;go_wp2_with (first
   |(go_at_call 57;refine(CN.out).mono ?_;rintro e w1 ⟨rfl,ay⟩)
   |(go_at_call 54;refine(CR.out _ ay).mono ?_;rintro e w2 J;obtain⟨hE,aN⟩:e=ε (bx y)/\Below w1.heap.size w1 w2:=(by
    obtain⟨G,A⟩:=xS J;refine⟨?_,A⟩;rcases G with⟨z,M,h4⟩|⟨d,M,_⟩
    ·rw[hr]at M;cases M;exact h4
    rw[hr]at M;cases M);subst hE))
  exact⟨rfl,by unfold tg CE;rw[kA,hr];exact⟨rfl,ay.trans (aN.mono ay.size)⟩⟩
 |ok d=>
 have hu:(nJ c d).ku.size<=maxLen:=by
  have G:=(Q7 hr).u;show(bJ (val d.f 0)).size<=maxLen;have:(bJ (val d.f 0)).size=(val d.f 0).length:=by show(val d.f 0).toArray.size=_;simp
  rw[this];unfold maxLen;omega
 have HX:=H x;have hP9:tg s aqz ns ds h c t w=Ac s aqz ns ds h (nJ c d) w:=by
  funext e I;unfold tg CE Ac;rw[kA,hr];simp only[if_true];show _=if la c (nJ c d).ku ns ds=true then _ else _;cases la c (nJ c d).ku ns ds<;>rfl
 obtain⟨D,hD⟩:∃D,D=nJ c d:=⟨_,rfl⟩;rw[hP9,<-hD];replace hD:=H hD;clear x hm hP9;go_enter func35,ntmps35;go_upto_region 1 with(go_at_call 57;refine(CN.out).mono ?_;rintro e w1 ⟨rfl,ay⟩);have CR1:=H (CR.out w1 ay);clear CR CN;go_upto_region 2 with(first
  |(go_at_call 54;refine(CR1.out).mono ?_;rintro e w2 J;obtain⟨EV,E2,hE,gu,ZQ,cR,h0,aN⟩:∃EV E2,e=δ (.agg (EV:List Value).toArray)/\ij w2 E2 ⟨(nJ c d).kc,(nJ c d).ku,EV⟩ (nJ c d)/\(∀k,E2 k->sQ w2 k)/\(nJ c d).ok/\EV[0]?=some (θ (nJ c d).ku)/\Below w1.heap.size w1 w2:=(by
   obtain⟨G,A⟩:=xS J;rcases G with⟨z,M,h4⟩|⟨d',M,h4⟩
   ·rw[hr]at M;cases M
   rw[hr]at M;cases M;obtain⟨EV,E2,q1,q2,q3,q4,q5⟩:=abp c hr h4;exact⟨EV,E2,q1,q2,q3,q4,q5,A⟩);subst hE;have Ad:=gu.vR;replace gu:=H gu;clear J)
  |(refine jE rfl (fR rfl _ _) ?_;intro w3 BS Hv aP)
  |(refine jF rfl rfl rfl rfl BS (by rw[Ad.1];rfl) (by rw[Ad.1];exact fT) Ad.2 ?_;intro w4 he4 bH;have cq:=aP.trans (bH.below (by omega) (λk Y=>by omega));have Im:=bH.size))
 have q0:=he4.cell (k:=0) h0;have hE0:=H he4;clear BS CR1;go_upto_region 3 with(first
  |(refine jE rfl (qR rfl _ _) ?_;intro w5 EH sL bB)
  |(refine jF (vs:=[θ c,θ (nJ c d).ku]) rfl rfl rfl rfl EH rfl A3 (O2 _ _) ?_;intro W Ae gm;have cL:=bB.trans (gm.below (by omega) (λk Y=>by omega));have pU:=gm.size))
 have lO:Below w.heap.size w w2:=ay.trans (aN.mono ay.size);have Q8:Below w2.heap.size w2 W:=cq.trans (cL.mono (by omega));have bR:Below w.heap.size w W:=lO.trans (Q8.mono lO.size);have ZR:X W w2.heap.size EV 99:=hE0.out.on cL;have CK:ij W E2 ⟨(nJ c d).kc,(nJ c d).ku,EV⟩ (nJ c d):=gu.out.keep λj hj=>Q8.block j (ZQ j hj).lt;have nx:∀k,E2 k->sQ W k:=λk Y=>(ZQ k Y).keep (Q8.block k (ZQ k Y).lt);obtain⟨cp,b,ip,nv,ps,T,x⟩:=HX.out;have xW:cK W s aqz E ns ds h cp b ip nv ps T:=x.keep λk Y=>bR.block k (Y.elim (x.lt k) (x.el k));have BD:∀k,jZ cp b nv k->k<w.heap.size:=λk Y=>x.lt k (x.mc k Y);have hiw:∀k,k∈ip::T.ax->k<w.heap.size:=λk Y=>x.lt k (x.mi k Y);have Lz:=H x;have adQ:=hE0.out.lt;have hzw:w.heap.size<=w2.heap.size:=lO.size;have ie:w4.heap.size<W.heap.size:=Ae.lt;have h74:w2.heap.size<w4.heap.size:=adQ;replace ZR:=H ZR;replace Ae:=H Ae;replace CK:=H CK;replace nx:=H nx;replace bR:=H bR;replace xW:=H xW;replace cR:=H cR;clear HX hE0 gu ZQ q0 ay aN aP cq bB cL bH gm he4 EH lO Q8 Hv Im sL pU adQ x;generalize w4.heap.size=k8 at *
 generalize w2.heap.size=k7 at *
 have hDc:c=D.kc:=by rw[hD.out];rfl
 rw[<-hD.out]at CK cR hu Ae h0;clear hD;subst hDc;have Ra:=xW.out.full D.kc D.ku;have Ty:ps.length<=30:=xW.out.k30;have CP:=H λ(W':μ) (U:Below W.heap.size W W')=>QP cp b nv ns (ps.map (·.1)) D.kc D.ku EV W' (xW.out.dK.on U) hc hu Ad.1 xW.out.vR xW.out.n8 (by rw[ω];exact Ty);obtain⟨iB,xT⟩:∃iB,iB=dr D.kc D.ku (ps.map (·.1)):=⟨_,rfl⟩;obtain⟨rep,LA⟩:∃rep,rep=(bZ D.kc D.ku (ps.map (·.1))).isSome:=⟨_,rfl⟩;obtain⟨xU,IA⟩:=xO (c:=D.kc) (u:=D.ku) xW.out.vR;rw[<-xT]at xU IA;have ZS:∀k,jZ cp b nv k->k<W.heap.size:=λk Y=>xW.out.dK.lt Y;refine qq (GV sSp (BR W s cp D.kc D.ku EV iB rep (!la D.kc D.ku ns ds))) (λdn a I=>JX 44 (vr s k7 k8) (λ_=>True) a I/\vt W cp b nv (Cz D.kc ns) (nX ⟨D.kc,D.ku,EV⟩ (ps.map (·.1))) dn a I) (by kernel_rfl) (by kernel_rfl) ?rops ?rdone ⟨⟨rfl,rfl,λq J=>by
  simp only[vr,ρ,π,or_false]at J;rcases J with rfl|rfl|rfl<;>rfl,trivial⟩,λ_=>(ν _ _).drew,λh=>by cases h⟩
 case rops=>
  intro i o ho dn a I IB gN dE ar hG bD;have hi:i<13:=(Array.getElem?_eq_some_iff.1 ho).1;obtain⟨hJ,hC⟩:=ar;have s0:a.eval (.tmp 0)=ζ (some ⟨s,0,none⟩):=hJ.fixed (0,_) (by simp[vr]);have s7:a.eval (.tmp 7)=ζ (some ⟨k7,0,none⟩):=hJ.fixed (7,_) (by simp[vr]);have s8:a.eval (.tmp 8)=ζ (some ⟨k8,0,none⟩):=hJ.fixed (8,_) (by simp[vr]);have U:i<=6->Below W.heap.size W I:=λh6=>hC.1 (by
   cases h:dn 6 with
   |false=>rfl
   |true=>have:=pt dE (by kernel_rfl) h i h6;rw[IB]at this;cases this)
  have ea:i=0\/i=1\/i=2\/i=3\/i=4\/i=5\/i=6\/i=7\/i=8\/i=9\/i=10\/i=11\/i=12:=by omega
  rcases ea with rfl|rfl|rfl|rfl|rfl|rfl|rfl|rfl|rfl|rfl|rfl|rfl|rfl<;>obtain rfl:=χ ho
  ·exact⟨aY rfl,ai (cJ rfl s0) (cf (aW hJ rfl) (hC.put (by decide) (by decide) (by decide) _))⟩
  ·have S:a.eval (.tmp 20)=ζ (some ⟨s,0,none⟩):=aB hG 0;exact⟨aY rfl,ai (dF rfl S) (cf (aW hJ rfl) (hC.put (by decide) (by decide) (by decide) _))⟩
  ·have S:a.eval (.tmp 21)=ζ (some ⟨s,0,none⟩):=aB hG 1;exact⟨aY rfl,ai (cH rfl S Ba) (cf (aW hJ rfl) (hC.put (by decide) (by decide) (by decide) _))⟩
  ·have S:a.eval (.tmp 22)=ζ (some ⟨s,0,none⟩):=aB hG 2;exact⟨aY rfl,ai (aV rfl S (tf ((xW.out.row.on (U (by decide))).cell (k:=0) rfl))) (cf (aW hJ rfl) (hC.put (by decide) (by decide) (by decide) _))⟩
  ·exact⟨aY rfl,ai (aV rfl s8 (gZ (Ae.out.on (U (by decide))))) (cf (aW hJ rfl) (hC.put (by decide) (by decide) (by decide) _))⟩
  ·exact⟨aY rfl,ai (aV rfl s7 (jL (ZR.out.on (U (by decide))) Ad.1)) (cf (aW hJ rfl) (hC.put (by decide) (by decide) (by decide) _))⟩
  ·have S:a.eval (.tmp 23)=ζ (some ⟨cp,0,none⟩):=aB hG 3;have e2:a.eval (.tmp 24)=.agg #[θ D.kc,θ D.ku]:=aB hG 4;have e3:a.eval (.tmp 25)=.agg EV.toArray:=aB hG 5;have pW:=U (by decide);refine⟨aY rfl,cI (f:=58) (args:=#[a.eval (.tmp 23),a.eval (.tmp 24),a.eval (.tmp 25)]) (by kernel_rfl) (by rw[S,e2,e3];exact CP.out I pW) ?_ ?_ ?_⟩
   ·rintro v az J;unfold xQ at J;split at J
    ·cases J.1
    rename_i hnf;have tY:la D.kc D.ku ns ds=false:=by
     cases hq:la D.kc D.ku ns ds with
     |false=>rfl
     |true=>exact absurd (Ra.1 hq) hnf
    obtain⟨e,jh,G,A,M⟩:=J;cases e;refine cf (nI (by kernel_rfl) rfl (by decide) hJ trivial (λj v _ hn=>BR.keep (λg hg KO=>A.block g KO λhM=>by have:=ZS g hM;omega) j v hn) ⟨by rw[tY];rfl,by rw[xT,LA]⟩) (vt.called G ((aj.aq pW).aK A) (λj hj=>⟨(M j hj).imp id λh=>ο pW.size h,λEp e=>?_⟩) (by decide) _);obtain⟨g,cs,q1,q2,q3,q4⟩:BR W s cp D.kc D.ku EV iB rep (!la D.kc D.ku ns ds) 10 (a.eval (.tmp 9)) I:=bD 10 (by decide) Ep;rw[q1]at e;injection e with e
    injection e with e
    injection e with e
    have:=q2.lt;rcases M j hj with h|h
    ·have:=ZS j (.inr (.inr h));omega
    omega
   ·rintro cc az J;unfold xQ at J;split at J
    ·rename_i hf;obtain⟨e,rT⟩:=J;cases e;refine⟨hJ.defers,?_⟩;show Ac s aqz ns ds h D w _ az;unfold Ac;rw[Ra.2 hf];exact⟨rfl,bR.out.trans ((pW.trans (rT.mono pW.size)).mono bR.out.size)⟩
    cases J.1
   rintro az J;unfold xQ at J;split at J
   ·cases J.1
   cases J.1
  ·obtain⟨f1,S⟩:_/\a.eval (.tmp 26)=.tuple #[.agg iB.toArray,.bool rep]:=aB hG 6;exact⟨aY rfl,ai (cJ rfl S) (cf (aW hJ ⟨f1,rfl⟩) (hC.put (by decide) (by decide) (by decide) _))⟩
  ·obtain⟨f1,S⟩:_/\a.eval (.tmp 19)=.tuple #[.agg iB.toArray,.bool rep]:=aB hG 7;exact⟨aY rfl,ai (tz rfl S (by decide)) (cf (aW hJ ⟨f1,rfl⟩) (hC.put (by decide) (by decide) (by decide) _))⟩
  ·obtain⟨f1,S⟩:_/\a.eval (.tmp 19)=.tuple #[.agg iB.toArray,.bool rep]:=aB hG 7;exact⟨aY rfl,ai (tz rfl S (by decide)) (cf (aW hJ ⟨f1,rfl⟩) (hC.put (by decide) (by decide) (by decide) _))⟩
  ·have cD:Below I.heap.size I (I.alloc (ι eD.toArray 99)):=(ν _ _).alloc (ξ _) _;have hWw:W.heap.size<=I.heap.size:=by
    cases h6:dn 6 with
    |false=>exact(hC.1 h6).size
    |true=>obtain⟨_,_,h,_⟩:=hC.2 h6;exact h.size
   exact⟨aY rfl,ai (fR rfl _ _) (cf (nI (by kernel_rfl) rfl (by decide) hJ trivial (λj v _ hn=>BR.keep (λg _ hg=>cD.block g hg) j v hn) ⟨I.heap.size,eD,rfl,X.new I eD _,rfl,hWw⟩) (hC.made cD (by rw[hJ.size];decide)))⟩
  ·obtain⟨f1,S⟩:_/\a.eval (.tmp 27)=.agg iB.toArray:=aB hG 8;obtain⟨g,cs,e2,tH,rI,KN⟩:BR W s cp D.kc D.ku EV iB rep (!la D.kc D.ku ns ds) 10 (a.eval (.tmp 9)) I:=aB hG 10;have d6:dn 6=true:=pt (n:=8) dE (by kernel_rfl) (gN ⟨8,.data⟩ (by simp) rfl) 6 (by decide);have d10:dn 10=true:=gN ⟨10,.data⟩ (by simp) rfl;refine⟨aY rfl,uk rfl e2 S tH (by rw[rI,xU]) (by rw[xU];exact fT) IA λw9 jM ib=>?_⟩;obtain⟨jh,G,A,M⟩:=hC.2 d6;have vg:vt W cp b nv (Cz D.kc ns) (nX ⟨D.kc,D.ku,EV⟩ (ps.map (·.1))) (oI dn 11) a w9:=by
    refine⟨λh=>?_,λ_=>⟨jh,G.aM ib ?_,A.trans ib λk Y=>.inr (by omega),λj hj=>⟨(M j hj).1,λ_=>(M j hj).2 d10⟩⟩⟩
    ·rw[gE (by decide),d6]at h;cases h
    intro k Y e;subst e;rcases Y with rfl|rfl|Y
    ·have:=ZS k (.inl rfl);omega
    ·have:=ZS k (.inr (.inl rfl));omega
    exact(M k Y).2 d10 e2
   refine cf (QN rfl hJ trivial (λj v hj hn=>?_) ⟨f1,g,e2,jM,KN⟩) vg;by_cases Ep:j=10
   ·subst Ep;obtain⟨g',lB,q1,q2,q3,q4⟩:=hn;by_cases Ta:g'=g
    ·subst Ta;exact⟨g',_,q1,jM,xU,q4⟩
    exact⟨g',lB,q1,q2.ex ib Ta,q3,q4⟩
   unfold BR at hn⊢;split at hn
   ·exact hn
   ·exact hn
   ·exact hn
   ·exact hn
   ·exact absurd rfl Ep
   ·exact absurd rfl hj
   ·exact hn
   exact hn
  obtain⟨f1,S⟩:_/\a.eval (.tmp 28)=.bool rep:=aB hG 9;exact⟨aY rfl,ai (O4 rfl S) (cf (aW hJ ⟨f1,rfl⟩) (hC.put (by decide) (by decide) (by decide) _))⟩
 case rdone=>
  intro dn a w3 hd ar hG;obtain⟨hJ,hC⟩:=ar;obtain⟨jh,c3,x3,n3⟩:=hC.2 (hd 6 (by decide));obtain⟨f1,TD⟩:_/\a.eval (.tmp 10)=.bool rep:=hG 12 (by decide);obtain⟨_,g,e9,jM,Hy⟩:_/\∃g,a.eval (.tmp 9)=ζ (some ⟨g,0,none⟩)/\X w3 g iB 99/\W.heap.size<=g:=hG 11 (by decide);have tY:la D.kc D.ku ns ds=false:=by simpa using f1
  have s0:a.eval (.tmp 0)=ζ (some ⟨s,0,none⟩):=hJ.fixed (0,_) (by simp[vr]);have s7:a.eval (.tmp 7)=ζ (some ⟨k7,0,none⟩):=hJ.fixed (7,_) (by simp[vr]);have s8:a.eval (.tmp 8)=ζ (some ⟨k8,0,none⟩):=hJ.fixed (8,_) (by simp[vr]);have fc:=hJ.size;have fi:=hJ.defers;clear hJ hG hC f1 hd CP;obtain⟨fr,rfl,hf⟩:=vu a fc fi;have g0:=(hf 0).symm.trans s0;have g7:=(hf 7).symm.trans s7;have g8:=(hf 8).symm.trans s8;have g9:=(hf 9).symm.trans e9;have g10:=(hf 10).symm.trans TD;rw[g0,g7,g8,g9,g10];clear hf fc fi s0 s7 s8 e9 TD g0 g7 g8 g9 g10;have wU:∀j,jh.ownBlock=some j->nv.ownBlock=some j\/W.heap.size<=j:=λj hj=>(n3 j hj).1;have TG:=H (xW.out.row.ex x3 xW.out.d1);have Es:=H (Ae.out.ex x3 λY=>by have:=BD _ Y;omega);have K0:=H (ZR.out.ex x3 λY=>by have:=BD _ Y;omega);have o9:=H (xW.out.idx.aM x3 λk Y=>(xW.out.d2 k Y).2);replace jM:=H jM;have Qx:T.size<=500:=xW.out.sz;clear n3 Ra;cases rep with
  |true=>
   obtain⟨k,Y⟩:=Option.isSome_iff_exists.1 LA.symm;obtain⟨p,J,ZT,TH⟩:=xW.out.found Y;have LC:iB=k.ev:=by rw[xT];unfold dr;rw[Y];rfl
   have CM:k.kc=D.kc/\k.ku=D.ku:=eA.1 (List.find?_some Y);have LD:p.2∈ds:=by rw[<-xW.out.snd];exact Β J
   have EI:=xW.out.ok p.2 LD;have Rb:Hid (ij w3 E k p.2):=H (by
    rw[<-ZT];exact(xW.out.mE p J).keep λj hj=>x3.block j (xW.out.el j hj) λrP=>xW.out.em j hj (xW.out.mc j rP))
   replace LC:=H LC;replace CM:=H CM;replace Y:=H Y;replace TH:=H TH;replace LA:=H LA;replace xT:=H xT;clear ZT;go_upto_region 5 with fail;have SL:=Gm 30 (qU s k7 k8 g) 44 s ip D.kc D.ku iB (by decide) (λp J=>by
    simp only[qU,ρ,π,or_false]at J;rcases J with rfl|rfl|rfl|rfl<;>simp)
   refine dC 6 (by simp only[Α,Η];rfl) (by simp only[Γ,Θ];rfl) (GV (λi=>30+i) (ZP s ip D.kc D.ku iB)) (JV 44 (qU s k7 k8 g) w3) (by kernel_rfl) (by kernel_rfl) (by kernel_rfl) (by kernel_rfl) (by kernel_rfl) (by kernel_rfl) rfl ?rops ?rdone ⟨rfl,rfl,λq J=>by
    simp only[qU,ρ,π,or_false]at J;rcases J with rfl|rfl|rfl|rfl<;>rfl,(ν _ _).drew⟩
   case rops=>
    intro i o ho a I ar hG Q';have hi:i<6:=(Array.getElem?_eq_some_iff.1 ho).1;have s0:a.eval (.tmp 0)=ζ (some ⟨s,0,none⟩):=ar.fixed (0,_) (by simp[qU]);have s8:a.eval (.tmp 8)=ζ (some ⟨k8,0,none⟩):=ar.fixed (8,_) (by simp[qU]);have sE:a.eval (.tmp 9)=ζ (some ⟨g,0,none⟩):=ar.fixed (9,_) (by simp[qU]);have ea:i=0\/i=1\/i=2\/i=3\/i=4\/i=5:=by omega
    rcases ea with rfl|rfl|rfl|rfl|rfl|rfl<;>obtain rfl:=χ ho
    ·exact ai (cJ rfl s0) (bp SL ar)
    ·have S:a.eval (.tmp 30)=ζ (some ⟨s,0,none⟩):=aB hG 0;exact ai (dF rfl S) (bp SL ar)
    ·have S:a.eval (.tmp 31)=ζ (some ⟨s,0,none⟩):=aB hG 1;exact ai (cH rfl S qt) (bp SL ar)
    ·have S:a.eval (.tmp 32)=ζ (some ⟨s,1,none⟩):=aB hG 2;exact ai (aV rfl S (k5 ((TG.out.on ar.below).cell (k:=1) rfl))) (bp SL ar)
    ·exact ai (aV rfl s8 (gZ (Es.out.on ar.below))) (bp SL ar)
    exact ai (aV rfl sE (jL (jM.out.on ar.below) xU)) (bp SL ar)
   case rdone=>
   intro a w4 ar hG;have e33:a.eval (.tmp 33)=ζ (some ⟨ip,0,none⟩):=hG 3 (by decide);have Tb:a.eval (.tmp 34)=.agg #[θ D.kc,θ D.ku]:=hG 4 (by decide);have e35:a.eval (.tmp 35)=.agg iB.toArray:=hG 5 (by decide);have s0:a.eval (.tmp 0)=ζ (some ⟨s,0,none⟩):=ar.fixed (0,_) (by simp[qU]);have s7:a.eval (.tmp 7)=ζ (some ⟨k7,0,none⟩):=ar.fixed (7,_) (by simp[qU]);have s8:a.eval (.tmp 8)=ζ (some ⟨k8,0,none⟩):=ar.fixed (8,_) (by simp[qU]);have cq:=ar.below;have adR:=ar.size;have adS:=ar.defers;clear ar hG SL;obtain⟨fr4,rfl,LF⟩:=vu a adR adS;have g33:=(LF 33).symm.trans e33;have Tc:=(LF 34).symm.trans Tb;have g35:=(LF 35).symm.trans e35;have g0:=(LF 0).symm.trans s0;have g7:=(LF 7).symm.trans s7;have g8:=(LF 8).symm.trans s8;rw[g33,Tc,g35,g0,g7,g8];clear LF adR adS e33 Tb e35 s0 s7 s8 g33 Tc g35 g0 g7 g8;have hE3:∀k,E k->k<w3.heap.size:=λk Y=>κ (xW.out.el k Y) x3.size;have CID:=H (wI ip T h D.kc D.ku iB (p.2.aw 0 h) E w4 (o9.out.aM (O:=λ_=>False) (aj.aq cq) (λ_ _ h=>h)) xW.out.srt Qx xU (λwr jx=>by
    have:=((Rb.out.keep λj hj=>cq.block j (hE3 j hj)).keep λj hj=>jx.block j (κ (hE3 j hj) cq.size)).aw EI (Ε _) (by decide) xW.out.hz.1 xW.out.hz.2;rw[CM.out.1,CM.out.2,<-LC.out]at this;exact this) (λk Y bV=>xW.out.em k Y (xW.out.mi k bV)) (aL.wQ EI xW.out.hz.2) (λa ha=>⟨a,xW.out.perm.mem_iff.2 (List.mem_flatMap.2 ⟨p.2,LD,ha⟩),zW a⟩))
   have rs4:=H (TG.out.on cq);have rk4:=H (Es.out.on cq);have ZA:=H (K0.out.on cq);have LG:=H cq;clear cq Rb jM TG Es K0 o9;go_upto_region 6 with(go_at_call 59;refine(CID.out).mono ?_;rintro e w5 hp5;obtain⟨⟨v5,Oq⟩,aqA,Af,EJ,BQ,dH⟩:=hp5;subst Oq;replace Af:=H Af;replace EJ:=H EJ;replace dH:=H dH);have wV:=H (show aqA.aw.Perm ((iR D.kc D.ku ds).flatMap (·.aw 0 h)) by
    rw[EJ.out,<-BK xW.out.keys LD TH.out];exact BL xW.out.perm)
   have LH:=H (show LT.eF aqA.aw by rw[EJ.out];exact xK xW.out.srt);have Ib:aqA.size<=500:=by
    have G:aqA.aw.length<=T.aw.length:=by rw[EJ.out];exact τ _ _
    rw[LT.cC,LT.cC]at G;omega
   have TI:=H (rs4.out.ex dH.out λY=>(xW.out.d2 s Y).1 rfl);have TJ:=H (rk4.out.ex dH.out λY=>by have:=hiw _ Y;omega);have K3:=H (ZA.out.ex dH.out λY=>by have:=hiw _ Y;omega);replace dH:=H ((aj.aq (O:=λk=>k∈ip::T.ax) LG.out).aK dH.out);clear rs4 rk4 ZA LG CID;have SL:=Gm 37 (lZ s k7 k8) 44 s ip D.kc D.ku EV (by decide) (λp J=>by
    simp only[lZ,ρ,π,or_false]at J;rcases J with rfl|rfl|rfl<;>simp)
   refine dC 6 (by simp only[Α,Η];rfl) (by simp only[Γ,Θ];rfl) (GV (λi=>37+i) (ZP s ip D.kc D.ku EV)) (JV 44 (lZ s k7 k8) w5) (by kernel_rfl) (by kernel_rfl) (by kernel_rfl) (by kernel_rfl) (by kernel_rfl) (by kernel_rfl) rfl ?rops ?rdone ⟨rfl,rfl,λq J=>by
    simp only[lZ,ρ,π,or_false]at J;rcases J with rfl|rfl|rfl<;>rfl,(ν _ _).drew⟩
   case rops=>
    intro i o ho a I ar hG Q';have hi:i<6:=(Array.getElem?_eq_some_iff.1 ho).1;have s0:a.eval (.tmp 0)=ζ (some ⟨s,0,none⟩):=ar.fixed (0,_) (by simp[lZ]);have s8:a.eval (.tmp 8)=ζ (some ⟨k8,0,none⟩):=ar.fixed (8,_) (by simp[lZ]);have sE:a.eval (.tmp 7)=ζ (some ⟨k7,0,none⟩):=ar.fixed (7,_) (by simp[lZ]);have ea:i=0\/i=1\/i=2\/i=3\/i=4\/i=5:=by omega
    rcases ea with rfl|rfl|rfl|rfl|rfl|rfl<;>obtain rfl:=χ ho
    ·exact ai (cJ rfl s0) (bp SL ar)
    ·have S:a.eval (.tmp 37)=ζ (some ⟨s,0,none⟩):=aB hG 0;exact ai (dF rfl S) (bp SL ar)
    ·have S:a.eval (.tmp 38)=ζ (some ⟨s,0,none⟩):=aB hG 1;exact ai (cH rfl S qt) (bp SL ar)
    ·have S:a.eval (.tmp 39)=ζ (some ⟨s,1,none⟩):=aB hG 2;exact ai (aV rfl S (k5 ((TI.out.on ar.below).cell (k:=1) rfl))) (bp SL ar)
    ·exact ai (aV rfl s8 (gZ (TJ.out.on ar.below))) (bp SL ar)
    exact ai (aV rfl sE (jL (K3.out.on ar.below) Ad.1)) (bp SL ar)
   case rdone=>
    intro a w6 ar hG;have TK:a.eval (.tmp 40)=ζ (some ⟨ip,0,none⟩):=hG 3 (by decide);have TL:a.eval (.tmp 41)=.agg #[θ D.kc,θ D.ku]:=hG 4 (by decide);have TM:a.eval (.tmp 42)=.agg EV.toArray:=hG 5 (by decide);have cL:=ar.below;have LI:=ar.size;have LJ:=ar.defers;clear ar hG SL;obtain⟨fr6,rfl,EK⟩:=vu a LI LJ;have TN:=(EK 40).symm.trans TK;have TO:=(EK 41).symm.trans TL;have EL:=(EK 42).symm.trans TM;rw[TN,TO,EL];clear EK LI LJ TK TL TM TN TO EL;have Xg:ij w6 E2 ⟨D.kc,D.ku,EV⟩ D:=CK.out.keep λj hj=>(cL.block j (κ (nx.out j hj).lt (ο x3.size dH.out.size))).trans ((dH.out.block j (κ (nx.out j hj).lt x3.size) λY=>iG (nx.out j hj) (xW.out.mt j (xW.out.mi j Y))).trans (x3.block j (nx.out j hj).lt λY=>iG (nx.out j hj) (xW.out.mt j (xW.out.mc j Y))));have hE6:∀k,E2 k->k<w6.heap.size:=λk Y=>κ (nx.out k Y).lt (ο x3.size (ο dH.out.size cL.size));have CIP:=H (D9 ip aqA h D.kc D.ku EV (D.aw 0 h) E2 w6 (Af.out.aM (O:=λ_=>False) (aj.aq cL) (λ_ _ h=>h)) LH.out Ib Ad.1 (λwr jx=>(Xg.keep λj hj=>jx.block j (hE6 j hj)).aw cR.out (Ε _) (by decide) xW.out.hz.1 xW.out.hz.2) (aL.wQ cR.out xW.out.hz.2) (λa ha y hy=>other_key (ds:=iR D.kc D.ku ds) (f':=0) (to':=h) (λz hz=>(te hz).2) ha (wV.out.mem_iff.1 hy)));have hS6:=H (Af.out.aM (O:=λ_=>False) (aj.aq cL) (λ_ _ h=>h));have gm:=H (dH.out.aK (aj.aq (O:=λk=>k∈ip::T.ax) cL));clear cL Af TI TJ K3;go_wp2_with (go_at_call 60;refine(CIP.out).mono ?_;rintro e w7 EM;have hE7:=EM.1;subst hE7;replace EM:=H EM);go_end0;show Ac s aqz ns ds h D w _ w7;unfold Ac;rw[tY];exact⟨⟨_,rfl⟩,BP Lz.out cR.out bR.out CK.out nx.out tY c3 x3 wU wV.out BQ gm.out EM.out⟩
  |false=>
   have hhd:mD D.kc D.ku ds=false:=by rw[<-xW.out.find];exact LA.symm
   go_upto_region 6 with fail;obtain⟨aqA,zH⟩:∃aqA,aqA=T:=⟨_,rfl⟩;obtain⟨w5,IC⟩:∃w5,w5=w3:=⟨_,rfl⟩;have wV:=H (show aqA.aw.Perm ((iR D.kc D.ku ds).flatMap (·.aw 0 h)) by
    rw[zH,zT λy hy=>by
     cases hq:iQ D.kc D.ku y with
     |false=>rfl
     |true=>unfold mD at hhd;rw[List.any_eq_false]at hhd;exact absurd hq (hhd y hy)]
    exact xW.out.perm)
   have LH:=H (show LT.eF aqA.aw by rw[zH];exact xW.out.srt);have Ib:aqA.size<=500:=by rw[zH];exact Qx
   have BQ:∀k∈aqA.ax,k∈T.ax:=λk Y=>by rw[<-zH];exact Y
   have Af:=H (show cP w5 ip aqA aqA.size h by rw[zH,IC];exact o9.out);have TI:=H (show X w5 s _ _ by rw[IC];exact TG.out);have TJ:=H (show X w5 k8 _ _ by rw[IC];exact Es.out);have K3:=H (show X w5 k7 _ _ by rw[IC];exact K0.out);have dH:=H (show aj (λk=>k∈ip::T.ax) w3 w5 by rw[IC];exact aj.refl _ _);have aos:=H IC;rw[<-IC];clear IC zH TG Es K0 o9 jM;have SL:=Gm 37 (lZ s k7 k8) 44 s ip D.kc D.ku EV (by decide) (λp J=>by
    simp only[lZ,ρ,π,or_false]at J;rcases J with rfl|rfl|rfl<;>simp)
   refine dC 6 (by simp only[Α,Η];rfl) (by simp only[Γ,Θ];rfl) (GV (λi=>37+i) (ZP s ip D.kc D.ku EV)) (JV 44 (lZ s k7 k8) w5) (by kernel_rfl) (by kernel_rfl) (by kernel_rfl) (by kernel_rfl) (by kernel_rfl) (by kernel_rfl) rfl ?rops ?rdone ⟨rfl,rfl,λq J=>by
    simp only[lZ,ρ,π,or_false]at J;rcases J with rfl|rfl|rfl<;>rfl,(ν _ _).drew⟩
   case rops=>
    intro i o ho a I ar hG Q';have hi:i<6:=(Array.getElem?_eq_some_iff.1 ho).1;have s0:a.eval (.tmp 0)=ζ (some ⟨s,0,none⟩):=ar.fixed (0,_) (by simp[lZ]);have s8:a.eval (.tmp 8)=ζ (some ⟨k8,0,none⟩):=ar.fixed (8,_) (by simp[lZ]);have sE:a.eval (.tmp 7)=ζ (some ⟨k7,0,none⟩):=ar.fixed (7,_) (by simp[lZ]);have ea:i=0\/i=1\/i=2\/i=3\/i=4\/i=5:=by omega
    rcases ea with rfl|rfl|rfl|rfl|rfl|rfl<;>obtain rfl:=χ ho
    ·exact ai (cJ rfl s0) (bp SL ar)
    ·have S:a.eval (.tmp 37)=ζ (some ⟨s,0,none⟩):=aB hG 0;exact ai (dF rfl S) (bp SL ar)
    ·have S:a.eval (.tmp 38)=ζ (some ⟨s,0,none⟩):=aB hG 1;exact ai (cH rfl S qt) (bp SL ar)
    ·have S:a.eval (.tmp 39)=ζ (some ⟨s,1,none⟩):=aB hG 2;exact ai (aV rfl S (k5 ((TI.out.on ar.below).cell (k:=1) rfl))) (bp SL ar)
    ·exact ai (aV rfl s8 (gZ (TJ.out.on ar.below))) (bp SL ar)
    exact ai (aV rfl sE (jL (K3.out.on ar.below) Ad.1)) (bp SL ar)
   case rdone=>
    intro a w6 ar hG;have TK:a.eval (.tmp 40)=ζ (some ⟨ip,0,none⟩):=hG 3 (by decide);have TL:a.eval (.tmp 41)=.agg #[θ D.kc,θ D.ku]:=hG 4 (by decide);have TM:a.eval (.tmp 42)=.agg EV.toArray:=hG 5 (by decide);have cL:=ar.below;have LI:=ar.size;have LJ:=ar.defers;clear ar hG SL;obtain⟨fr6,rfl,EK⟩:=vu a LI LJ;have TN:=(EK 40).symm.trans TK;have TO:=(EK 41).symm.trans TL;have EL:=(EK 42).symm.trans TM;rw[TN,TO,EL];clear EK LI LJ TK TL TM TN TO EL;have Xg:ij w6 E2 ⟨D.kc,D.ku,EV⟩ D:=CK.out.keep λj hj=>(cL.block j (κ (nx.out j hj).lt (ο x3.size dH.out.size))).trans ((dH.out.block j (κ (nx.out j hj).lt x3.size) λY=>iG (nx.out j hj) (xW.out.mt j (xW.out.mi j Y))).trans (x3.block j (nx.out j hj).lt λY=>iG (nx.out j hj) (xW.out.mt j (xW.out.mc j Y))));have hE6:∀k,E2 k->k<w6.heap.size:=λk Y=>κ (nx.out k Y).lt (ο x3.size (ο dH.out.size cL.size));have CIP:=H (D9 ip aqA h D.kc D.ku EV (D.aw 0 h) E2 w6 (Af.out.aM (O:=λ_=>False) (aj.aq cL) (λ_ _ h=>h)) LH.out Ib Ad.1 (λwr jx=>(Xg.keep λj hj=>jx.block j (hE6 j hj)).aw cR.out (Ε _) (by decide) xW.out.hz.1 xW.out.hz.2) (aL.wQ cR.out xW.out.hz.2) (λa ha y hy=>other_key (ds:=iR D.kc D.ku ds) (f':=0) (to':=h) (λz hz=>(te hz).2) ha (wV.out.mem_iff.1 hy)));have hS6:=H (Af.out.aM (O:=λ_=>False) (aj.aq cL) (λ_ _ h=>h));have gm:=H (dH.out.aK (aj.aq (O:=λk=>k∈ip::T.ax) cL));clear cL Af TI TJ K3;go_wp2_with (go_at_call 60;refine(CIP.out).mono ?_;rintro e w7 EM;have hE7:=EM.1;subst hE7;replace EM:=H EM);go_end0;show Ac s aqz ns ds h D w _ w7;unfold Ac;rw[tY];exact⟨⟨_,rfl⟩,BP Lz.out cR.out bR.out CK.out nx.out tY c3 x3 wU wV.out BQ gm.out EM.out⟩
def wW (s:Nat)(aqz E:ak)(ns:List ByteArray)(ds:List aL)(h:Int)(c u:ByteArray)(w:μ):Κ->μ->Prop:=λe I=>
 if mD c u ds then(∃v,e=δ v)/\∃M':ak,cg I s M' E ns (iR c u ds) h/\aj aqz w I/\∀k,M' k->aqz k\/w.heap.size<=k else e=ε (bx 6)/\Below w.heap.size w I
theorem LK {W w3 w5:μ}{s:Nat}{aqz E:ak}{ns:List ByteArray}{ds:List aL}{h:Int}{cp b ip:Nat}{nv:Value}{ps:List (KE×aL)}{T aqA:LT}{c u:ByteArray}(x:cK W s aqz E ns ds h cp b ip nv ps T)
 (O0:dJ w3 cp b nv ns (ug c u (ps.map (·.1))))(eo:aj (λj=>j=b) W w3)(hS:cP w5 ip aqA aqA.size h)(LH:LT.eF aqA.aw)(Ib:aqA.size<=500)(wV:aqA.aw.Perm ((iR c u ds).flatMap (·.aw 0 h)))(BQ:∀k∈aqA.ax,k∈T.ax)(dH:aj (λk=>k∈ip::T.ax) w3 w5):
 cK w5 s (zY s cp b ip nv aqA) E ns (iR c u ds) h cp b ip nv (ps.filter λp=>!cS c u p.1) aqA:=by
 have ZO:∀k,k∈ip::aqA.ax->k∈ip::T.ax:=λk Y=>(List.mem_cons.1 Y).elim (λe=>by simp[e]) λe=>by simp[BQ k e]
 have N:aj aqz W w5:=(eo.mono λk Y=>.inl (x.mc k (.inr (.inl Y)))).aK (dH.mono λk Y=>.inl (x.mi k Y));have AZ:∀k,E k->w5.heap[k]?=W.heap[k]?:=λk Y=>N.block k (x.el k Y) (x.em k Y);exact{
  row:=(x.row.ex eo λe=>x.d1 (.inr (.inl e))).ex dH λhs=>(x.d2 s hs).1 rfl
  dK:=by
   have e:(ps.filter λp=>!cS c u p.1).map (·.1)=ug c u (ps.map (·.1)):=by unfold ug;rw[List.filter_map];rfl
   rw[e];exact O0.aM dH λk Y bV=>(x.d2 k bV).2 Y
  snd:=by
   unfold iR;rw[<-x.snd,List.filter_map];congr 1;apply Ν;intro p J;simp only[Function.comp];rw[x.same c u J]
  mE:=λp J=>(x.mE p (List.mem_filter.1 J).1).keep AZ
  ok:=λd hd=>x.ok d (te hd).1
  idx:=hS
  srt:=LH
  perm:=wV
  sz:=Ib
  hz:=x.hz
  n8:=x.n8
  k30:=ο (τ _ _) x.k30
  mx:=rfl
  et:=λk Y=>(x.et k Y).keep (AZ k Y)
  d1:=x.d1
  d2:=λk Y=>x.d2 k (ZO k Y)}
def NDr (s cp ip:Nat)(c u:ByteArray)(iB:List Value)(ok:Bool)(i:Nat)(v:Value)(_:μ):Prop:=match i with
 |10=>ok=true/\v=.agg iB.toArray
 |11=>True
 |n=>v=[ζ (some ⟨s,0,none⟩),ζ (some ⟨s,0,none⟩),ζ (some ⟨s,1,none⟩),ζ (some ⟨ip,0,none⟩),.agg #[θ c,θ u],ζ (some ⟨s,0,none⟩),ζ (some ⟨s,0,none⟩),ζ (some ⟨s,0,none⟩),ζ (some ⟨cp,0,none⟩),.agg #[θ c,θ u]].getD n undef
def J6 (s k6:Nat):List (Nat×Value):=[(0,ζ (some ⟨s,0,none⟩)),(6,ζ (some ⟨k6,0,none⟩))]
theorem NG {w:μ}{s:Nat}{aqz E:ak}{ns:List ByteArray}{ds:List aL}{h:Int}(x:cg w s aqz E ns ds h)(c u:ByteArray)(hc:c.size<=maxLen)(hu:u.size<=maxLen):
 φ prog 37 #[ζ (some ⟨s,0,none⟩),θ c,θ u] w (wW s aqz E ns ds h c u w):=by
 have HX:=H x;clear x;go_enter func37,ntmps37;go_upto_region 1 with(first
  |(refine jE rfl (qR rfl _ _) ?_;intro w5 EH sL bB)
  |(refine jF (vs:=[θ c,θ u]) rfl rfl rfl rfl EH rfl A3 (O2 _ _) ?_;intro W Ae gm;have bR:=bB.trans (gm.below (by omega) (λk Y=>by omega));have pU:=gm.size))
 obtain⟨cp,b,ip,nv,ps,T,x⟩:=HX.out;have BD:∀k,jZ cp b nv k->k<w.heap.size:=λk Y=>x.lt k (x.mc k Y);have hiw:∀k,k∈ip::T.ax->k<w.heap.size:=λk Y=>x.lt k (x.mi k Y);have xW:cK W s aqz E ns ds h cp b ip nv ps T:=x.keep λk Y=>bR.block k (Y.elim (x.lt k) (x.el k));replace xW:=H xW;replace bR:=H bR;replace Ae:=H Ae;clear HX x bB gm EH sL pU;obtain⟨k6,KW⟩:∃k6,k6=w.heap.size:=⟨_,rfl⟩;rw[<-KW]at Ae⊢;have al:b<w.heap.size:=BD b (.inr (.inl rfl));have CD:=H λ(W':μ) (U:Below W.heap.size W W')=>Ny cp b nv ns (ps.map (·.1)) c u W' (xW.out.dK.on U) hc hu xW.out.vR;have vl:=xW.out.find c u;have hQ:wW s aqz E ns ds h c u w=λe I=>if mD c u ds then(∃v,e=δ v)/\∃M':ak,cg I s M' E ns (iR c u ds) h/\aj aqz w I/\∀k,M' k->aqz k\/w.heap.size<=k else e=ε (bx 6)/\Below w.heap.size w I:=rfl;rw[hQ];clear hQ;obtain⟨iB,xT⟩:∃iB,iB=dr c u (ps.map (·.1)):=⟨_,rfl⟩;obtain⟨xU,IA⟩:=xO (c:=c) (u:=u) xW.out.vR;rw[<-xT]at xU IA;refine qq (GV (λi=>10+i) (NDr s cp ip c u iB (mD c u ds))) (λdn a I=>JX 22 (J6 s k6) (λ_=>True) a I/\((dn 11=false->aj (λj=>j=b) W I)/\(dn 10=false->Below W.heap.size W I)/\(dn 10=true->dn 11=false->dJ I cp b nv ns (ug c u (ps.map (·.1))))/\(dn 11=true->∃M':ak,cg I s M' E ns (iR c u ds) h/\aj aqz W I/\∀k,M' k->aqz k))) (by kernel_rfl) (by kernel_rfl) ?rops ?rdone ⟨⟨rfl,rfl,λq J=>by
  simp only[J6,ρ,π,or_false]at J;rcases J with rfl|rfl<;>rfl,trivial⟩,λ_=>aj.aq (ν _ _).drew,λ_=>(ν _ _).drew,λh=>(by cases h),λh=>by cases h⟩
 case rops=>
  intro i o ho dn a I IB gN dE ar hG bD;have hi:i<12:=(Array.getElem?_eq_some_iff.1 ho).1;obtain⟨hJ,hC⟩:=ar;have s0:a.eval (.tmp 0)=ζ (some ⟨s,0,none⟩):=hJ.fixed (0,_) (by simp[J6]);have s6:a.eval (.tmp 6)=ζ (some ⟨k6,0,none⟩):=hJ.fixed (6,_) (by simp[J6]);have d11:i<=11->dn 11=false:=λh6=>by
   cases h:dn 11 with
   |false=>rfl
   |true=>have:=pt dE (by kernel_rfl) h i h6;rw[IB]at this;cases this
  have hex:aj (λj=>j=b) W I:=hC.1 (d11 (by omega));have J:i≠10->i≠11->(oI dn i 11=false->aj (λj=>j=b) W I)/\(oI dn i 10=false->Below W.heap.size W I)/\(oI dn i 10=true->oI dn i 11=false->dJ I cp b nv ns (ug c u (ps.map (·.1))))/\(oI dn i 11=true->∃M':ak,cg I s M' E ns (iR c u ds) h/\aj aqz W I/\∀k,M' k->aqz k):=λG A=>by
   rw[gE (Ne.symm G),gE (Ne.symm A)];exact hC
  have rs:=xW.out.row.ex hex λe=>xW.out.d1 (.inr (.inl e));have rk:=Ae.out.ex hex λe=>by omega
  have ea:i=0\/i=1\/i=2\/i=3\/i=4\/i=5\/i=6\/i=7\/i=8\/i=9\/i=10\/i=11:=by omega
  rcases ea with rfl|rfl|rfl|rfl|rfl|rfl|rfl|rfl|rfl|rfl|rfl|rfl<;>obtain rfl:=χ ho
  ·exact⟨aY rfl,ai (cJ rfl s0) (cf (aW hJ rfl) (J (by decide) (by decide)))⟩
  ·have S:a.eval (.tmp 10)=ζ (some ⟨s,0,none⟩):=aB hG 0;exact⟨aY rfl,ai (dF rfl S) (cf (aW hJ rfl) (J (by decide) (by decide)))⟩
  ·have S:a.eval (.tmp 11)=ζ (some ⟨s,0,none⟩):=aB hG 1;exact⟨aY rfl,ai (cH rfl S qt) (cf (aW hJ rfl) (J (by decide) (by decide)))⟩
  ·have S:a.eval (.tmp 12)=ζ (some ⟨s,1,none⟩):=aB hG 2;exact⟨aY rfl,ai (aV rfl S (k5 (rs.cell (k:=1) rfl))) (cf (aW hJ rfl) (J (by decide) (by decide)))⟩
  ·exact⟨aY rfl,ai (aV rfl s6 (gZ rk)) (cf (aW hJ rfl) (J (by decide) (by decide)))⟩
  ·exact⟨aY rfl,ai (cJ rfl s0) (cf (aW hJ rfl) (J (by decide) (by decide)))⟩
  ·have S:a.eval (.tmp 15)=ζ (some ⟨s,0,none⟩):=aB hG 5;exact⟨aY rfl,ai (dF rfl S) (cf (aW hJ rfl) (J (by decide) (by decide)))⟩
  ·have S:a.eval (.tmp 16)=ζ (some ⟨s,0,none⟩):=aB hG 6;exact⟨aY rfl,ai (cH rfl S Ba) (cf (aW hJ rfl) (J (by decide) (by decide)))⟩
  ·have S:a.eval (.tmp 17)=ζ (some ⟨s,0,none⟩):=aB hG 7;exact⟨aY rfl,ai (aV rfl S (tf (rs.cell (k:=0) rfl))) (cf (aW hJ rfl) (J (by decide) (by decide)))⟩
  ·exact⟨aY rfl,ai (aV rfl s6 (gZ rk)) (cf (aW hJ rfl) (J (by decide) (by decide)))⟩
  ·have S:a.eval (.tmp 18)=ζ (some ⟨cp,0,none⟩):=aB hG 8;have e2:a.eval (.tmp 19)=.agg #[θ c,θ u]:=aB hG 9;have pW:Below W.heap.size W I:=hC.2.1 IB;refine⟨aY rfl,cI (f:=61) (args:=#[a.eval (.tmp 18),a.eval (.tmp 19)]) (by kernel_rfl) (by rw[S,e2];exact CD.out I pW) ?_ ?_ ?_⟩
   ·rintro v az hq;unfold A6 at hq;cases Y:bZ c u (ps.map (·.1))with
    |none=>rw[Y]at hq;cases hq.1
    |some k=>
     rw[Y]at hq vl;obtain⟨e,G,A⟩:=hq;cases e;have LC:iB=k.ev:=by rw[xT];unfold dr;rw[Y];rfl
     exact cf (nI (by kernel_rfl) rfl (by decide) hJ trivial (λj v _ hn=>hn) ⟨vl.symm,by rw[LC]⟩) ⟨λ_=>(aj.aq pW).aK A,λh=>(by rw[oa]at h;cases h),λ_ _=>G,λh=>by rw[gE (by decide),d11 (by decide)]at h;cases h⟩
   ·rintro cc az hq;unfold A6 at hq;cases Y:bZ c u (ps.map (·.1))with
    |none=>
     rw[Y]at hq vl;obtain⟨e,rT⟩:=hq;cases e;refine⟨hJ.defers,?_⟩;have akp:mD c u ds=false:=vl.symm;rw[akp];exact⟨rfl,bR.out.trans ((pW.trans (rT.mono pW.size)).mono bR.out.size)⟩
    |some k=>rw[Y]at hq;cases hq.1
   rintro az hq;unfold A6 at hq;cases Y:bZ c u (ps.map (·.1))with
   |none=>rw[Y]at hq;cases hq.1
   |some k=>rw[Y]at hq;cases hq.1
  obtain⟨f1,e3⟩:_/\a.eval (.tmp 20)=.agg iB.toArray:=aB hG 10;have S:a.eval (.tmp 13)=ζ (some ⟨ip,0,none⟩):=aB hG 3;have e2:a.eval (.tmp 14)=.agg #[θ c,θ u]:=aB hG 4;have d10:dn 10=true:=gN ⟨10,.data⟩ (by simp) rfl;have c3:=hC.2.2.1 d10 IB;rw[f1]at vl;obtain⟨k,Y⟩:=Option.isSome_iff_exists.1 vl;obtain⟨p,uZ,ZT,TH⟩:=xW.out.found Y;have LC:iB=k.ev:=by rw[xT];unfold dr;rw[Y];rfl
  have CM:k.kc=c/\k.ku=u:=eA.1 (List.find?_some Y);have LD:p.2∈ds:=by rw[<-xW.out.snd];exact Β uZ
  have EI:=xW.out.ok p.2 LD;have Rb:ij I E k p.2:=by
   rw[<-ZT];exact(xW.out.mE p uZ).keep λj hj=>hex.block j (xW.out.el j hj) λrP=>xW.out.em j hj (xW.out.mc j (.inr (.inl rP)))
  have o9:=xW.out.idx.aM hex λk Y e=>(xW.out.d2 k Y).2 (.inr (.inl e));refine⟨aY rfl,cI (f:=59) (args:=#[a.eval (.tmp 13),a.eval (.tmp 14),a.eval (.tmp 20)]) (by kernel_rfl) (by
   rw[S,e2,e3];exact wI ip T h c u iB (p.2.aw 0 h) E I o9 xW.out.srt xW.out.sz xU (λwr jx=>by
    have:=(Rb.keep λj hj=>jx.block j (κ (xW.out.el j hj) hex.size)).aw EI (Ε _) (by decide) xW.out.hz.1 xW.out.hz.2;rw[CM.1,CM.2,<-LC]at this;exact this) (λk Y bV=>xW.out.em k Y (xW.out.mi k bV)) (aL.wQ EI xW.out.hz.2) (λa ha=>⟨a,xW.out.perm.mem_iff.2 (List.mem_flatMap.2 ⟨p.2,LD,ha⟩),zW a⟩)) ?_ ?_ ?_⟩
  ·rintro v az ⟨_,aqA,Af,EJ,BQ,dH⟩;have wV:aqA.aw.Perm ((iR c u ds).flatMap (·.aw 0 h)):=by
    rw[EJ,<-BK xW.out.keys LD TH];exact BL xW.out.perm
   have LH:LT.eF aqA.aw:=by rw[EJ];exact xK xW.out.srt
   have Ib:aqA.size<=500:=by
    have G:aqA.aw.length<=T.aw.length:=by rw[EJ];exact τ _ _
    rw[LT.cC,LT.cC]at G;have:=xW.out.sz;omega
   refine cf (nI (by kernel_rfl) rfl (by decide) hJ trivial (λj v _ hn=>hn) trivial) ⟨λh=>(by rw[oa]at h;cases h),λh=>(by rw[gE (by decide),d10]at h;cases h),λ_ h=>(by rw[oa]at h;cases h),λ_=>⟨zY s cp b ip nv aqA,⟨cp,b,ip,nv,_,aqA,LK xW.out c3 hex Af LH Ib wV BQ dH⟩,(hex.mono λk Y=>.inl (xW.out.mc k (.inr (.inl Y)))).aK (dH.mono λk Y=>.inl (xW.out.mi k Y)),λk Y=>?_⟩⟩;rw[xW.out.mx];exact Y.imp id λh=>h.imp id λh=>(List.mem_cons.1 h).elim (λe=>by simp[e]) λe=>by simp[BQ k e]
  ·rintro cc az ⟨⟨_,e⟩,_⟩;cases e
  rintro az ⟨⟨_,e⟩,_⟩;cases e
 case rdone=>
  intro dn a w3 hd ar hG;obtain⟨hJ,hC⟩:=ar;obtain⟨M',m1,m2,m3⟩:=hC.2.2.2 (hd 11 (by decide));obtain⟨f1,_⟩:_/\a.eval (.tmp 20)=.agg iB.toArray:=hG 10 (by decide);have kM:=H m1;have lR:=H m2;have fc:=hJ.size;have fi:=hJ.defers;clear hJ hG hC m1 m2 CD;rw[f1];simp only[if_true];obtain⟨tm,df⟩:=a;simp only[]at fi;subst fi;go_end0;exact⟨⟨_,rfl⟩,M',kM.out,(aj.aq bR.out).aK lR.out,λk Y=>.inl (m3 k Y)⟩
def LL (W:μ)(s cp ip b:Nat)(h t:Int)(mb:Bool)(i:Nat)(v:Value)(w:μ):Prop:=match i with
 |17=>∃bm,v=.func (.func 108) #[] #[ζ (some ⟨bm,0,none⟩)]/\X w bm [.map (some b)] 65/\W.heap.size<=bm
 |n=>v=[V Z t,ζ (some ⟨s,0,none⟩),ζ (some ⟨s,0,none⟩),ζ (some ⟨s,1,none⟩),ζ (some ⟨ip,0,none⟩),V Z h,.bool false,.bool false,ζ (some ⟨s,0,none⟩),ζ (some ⟨s,0,none⟩),ζ (some ⟨s,1,none⟩),ζ (some ⟨ip,0,none⟩),V Z t,ζ (some ⟨s,0,none⟩),ζ (some ⟨s,0,none⟩),ζ (some ⟨s,0,none⟩),ζ (some ⟨cp,0,none⟩),undef,.bool mb,.bool mb,.bool mb].getD n undef
theorem LL.keep {W:μ}{s cp ip b:Nat}{h t:Int}{mb:Bool}{w I:μ}(Y:∀g,W.heap.size<=g->g<w.heap.size->I.heap[g]?=w.heap[g]?)(i:Nat)(v:Value)(hn:LL W s cp ip b h t mb i v w):LL W s cp ip b h t mb i v I:=by
 unfold LL at hn⊢;split at hn
 ·obtain⟨bm,G,A,M⟩:=hn;exact⟨bm,G,A.keep (Y bm M A.lt),M⟩
 exact hn
def sGo (i:Nat):Nat:=if i=20 then 4 else 5+i
theorem Rc (a:Act)(h:a.tmps.size=25)(hd:a.defers=[]):∃f:Nat->Value,a=⟨[f 0,f 1,f 2,f 3,f 4,f 5,f 6,f 7,f 8,f 9,f 10,f 11,f 12,f 13,f 14,f 15,f 16,f 17,f 18,f 19,f 20,f 21,f 22,f 23,f 24].toArray,[]⟩/\∀k,a.eval (.tmp k)=f k:=gK 25 a h hd
theorem abt {o:Oper}{a:Act}{w:μ}{x y:Operand}{m n:Int}(ho:o.op=.binOp .leq 3 x y 3)(N:a.eval x=V Z m)(hy:a.eval y=V Z n):(execOp a.eval o).run prog w=.ok (.value (.bool (decide (m<=n)))) w:=by
 unfold execOp;rw[ho];simp only[N,hy];go_simp
theorem Xh {o:Oper}{a:Act}{w:μ}{x y z:Operand}{v:Value}(ho:o.op=.pick x y z)(N:a.eval x=.bool false)(hz:a.eval z=v):(execOp a.eval o).run prog w=.ok (.value v) w:=by
 unfold execOp;rw[ho];simp only[N,hz];go_simp
theorem JG {w:μ}{s:Nat}{aqz E:ak}{ns:List ByteArray}{ds:List aL}{h:Int}(x:cg w s aqz E ns ds h)(t:Int)(t0:0<=t)(t1:t<=7258118400):
 φ prog 64 #[ζ (some ⟨s,0,none⟩),V Z t] w λe I=>e=δ (.bool (mF ds h t))/\∃M':ak,cg I s M' E ns ds (if t<=h then h else qs ds h t)/\aj aqz w I/\∀k,M' k->aqz k\/w.heap.size<=k:=by
 obtain⟨cp,b,ip,nv,ps,T,x⟩:=x;have CH:=H λ(W:μ) (U:Below w.heap.size w W)=>Gh ip T T.size h W (x.idx.keep λk Y=>U.block k (x.lt k (x.mi k Y)));by_cases hle:t<=h
 ·have hB:mF ds h t=true:=by unfold mF;simp[hle]
  have k1:=x.row.cell (k:=1) rfl;have HX:=H x;rw[hB];simp only[if_pos hle];clear x hB;go_enter func64,ntmps64;go_upto_region 1 with fail;go_big_quiet (exact gh (CH.out _ (below_drewN (ν _ _) _)));go_wp2_with fail;go_ret;exact⟨rfl,aqz,cg.on ⟨cp,b,ip,nv,ps,T,HX.out⟩ (below_drewN (ν _ _) _),aj.aq (below_drewN (ν _ _) _),λk Y=>.inl Y⟩
 simp only[if_neg hle];have hlf:decide (t<=h)=false:=decide_eq_false hle;have HX:=H x;have HMv:=H λ(W:μ) (bm:Nat) (U:Below w.heap.size w W) (hr:X W bm [.map (some b)] 65)=>Lr (x.keep λk Y=>U.block k (Y.elim (x.lt k) (x.el k))) t t0 t1 bm hr;have hMl:=x.lt;clear x;generalize mF ds h t=mb at *
 go_enter func64,ntmps64;go_upto_region 1 with fail;refine qq (GV sGo (LL w s cp ip b h t mb)) (λd a I=>JX 25 (qT s t) (λ_=>True) a I/\(d 18=false->Below w.heap.size w I)/\(d 18=true->vS s aqz E ns ds h t w I)) (by kernel_rfl) (by kernel_rfl) ?rops ?rdone ⟨⟨rfl,rfl,λq J=>by
  simp only[qT,ρ,π,or_false]at J;rcases J with rfl|rfl<;>rfl,trivial⟩,λ_=>(ν _ _).drew,λh=>by cases h⟩
 case rops=>
  intro i o ho d a I IB gN dE ar hG bD;have hi:i<21:=(Array.getElem?_eq_some_iff.1 ho).1;obtain⟨hJ,hlo,O5⟩:=ar;have s0:a.eval (.tmp 0)=ζ (some ⟨s,0,none⟩):=hJ.fixed (0,_) (by simp[qT]);have s1:a.eval (.tmp 1)=V Z t:=hJ.fixed (1,_) (by simp[qT]);have U:i<=18->Below w.heap.size w I:=λAd=>hlo (by
   cases h:d 18 with
   |false=>rfl
   |true=>have:=pt dE (by kernel_rfl) h i Ad;rw[IB]at this;cases this)
  have bA:a.tmps.size=25:=hJ.size;have hq:i<18->(oI d i 18=false->Below w.heap.size w I)/\(oI d i 18=true->vS s aqz E ns ds h t w I):=λO6=>⟨λ_=>U (by omega),λh=>by rw[gE (by omega)]at h;exact O5 h⟩;have ea:i=0\/i=1\/i=2\/i=3\/i=4\/i=5\/i=6\/i=7\/i=8\/i=9\/i=10\/i=11\/i=12\/i=13\/i=14\/i=15\/i=16\/i=17\/i=18\/i=19\/i=20:=by omega
  rcases ea with rfl|rfl|rfl|rfl|rfl|rfl|rfl|rfl|rfl|rfl|rfl|rfl|rfl|rfl|rfl|rfl|rfl|rfl|rfl|rfl|rfl<;>obtain rfl:=χ ho
  ·exact⟨aY rfl,ai (cJ rfl s1) (cf (aW hJ rfl) (hq (by decide)))⟩
  ·exact⟨aY rfl,ai (cJ rfl s0) (cf (aW hJ rfl) (hq (by decide)))⟩
  ·have S:a.eval (.tmp 6)=ζ (some ⟨s,0,none⟩):=aB hG 1;exact⟨aY rfl,ai (dF rfl S) (cf (aW hJ rfl) (hq (by decide)))⟩
  ·have S:a.eval (.tmp 7)=ζ (some ⟨s,0,none⟩):=aB hG 2;exact⟨aY rfl,ai (cH rfl S qt) (cf (aW hJ rfl) (hq (by decide)))⟩
  ·have S:a.eval (.tmp 8)=ζ (some ⟨s,1,none⟩):=aB hG 3;exact⟨aY rfl,ai (aV rfl S (k5 ((HX.out.row.on (U (by decide))).cell (k:=1) rfl))) (cf (aW hJ rfl) (hq (by decide)))⟩
  ·have S:a.eval (.tmp 9)=ζ (some ⟨ip,0,none⟩):=aB hG 4;refine⟨aY rfl,cI (f:=95) (args:=#[a.eval (.tmp 9)]) (by kernel_rfl) (by rw[S];exact CH.out I (U (by decide))) ?_ (by rintro c az ⟨e,_⟩;cases e) (by rintro az ⟨e,_⟩;cases e)⟩;rintro v az ⟨e,rfl⟩;cases e;exact cf (aW hJ rfl) (hq (by decide))
  ·have S:a.eval (.tmp 5)=V Z t:=aB hG 0;have e2:a.eval (.tmp 10)=V Z h:=aB hG 5;exact⟨aY rfl,ai (abt rfl S e2) (cf (aW hJ (by rw[hlf];rfl)) (hq (by decide)))⟩
  ·have S:a.eval (.tmp 11)=.bool false:=aB hG 6;exact⟨aY rfl,ai (cJ rfl S) (cf (aW hJ rfl) (hq (by decide)))⟩
  ·have g7:a.eval (.tmp 12)=.bool false:=bD 7 (by decide) (gN ⟨7,.guard⟩ (by simp) rfl);exact⟨pq rfl rfl rfl (by rw[bA];decide) g7,ai (cJ rfl s0) (cf (aW hJ rfl) (hq (by decide)))⟩
  ·have g7:a.eval (.tmp 12)=.bool false:=bD 7 (by decide) (gN ⟨7,.guard⟩ (by simp) rfl);have S:a.eval (.tmp 13)=ζ (some ⟨s,0,none⟩):=aB hG 8;exact⟨pq rfl rfl rfl (by rw[bA];decide) g7,ai (dF rfl S) (cf (aW hJ rfl) (hq (by decide)))⟩
  ·have g7:a.eval (.tmp 12)=.bool false:=bD 7 (by decide) (gN ⟨7,.guard⟩ (by simp) rfl);have S:a.eval (.tmp 14)=ζ (some ⟨s,0,none⟩):=aB hG 9;exact⟨pq rfl rfl rfl (by rw[bA];decide) g7,ai (cH rfl S qt) (cf (aW hJ rfl) (hq (by decide)))⟩
  ·have g7:a.eval (.tmp 12)=.bool false:=bD 7 (by decide) (gN ⟨7,.guard⟩ (by simp) rfl);have S:a.eval (.tmp 15)=ζ (some ⟨s,1,none⟩):=aB hG 10;exact⟨pq rfl rfl rfl (by rw[bA];decide) g7,ai (aV rfl S (k5 ((HX.out.row.on (U (by decide))).cell (k:=1) rfl))) (cf (aW hJ rfl) (hq (by decide)))⟩
  ·have g7:a.eval (.tmp 12)=.bool false:=bD 7 (by decide) (gN ⟨7,.guard⟩ (by simp) rfl);exact⟨pq rfl rfl rfl (by rw[bA];decide) g7,ai (cJ rfl s1) (cf (aW hJ rfl) (hq (by decide)))⟩
  ·have g7:a.eval (.tmp 12)=.bool false:=bD 7 (by decide) (gN ⟨7,.guard⟩ (by simp) rfl);exact⟨pq rfl rfl rfl (by rw[bA];decide) g7,ai (cJ rfl s0) (cf (aW hJ rfl) (hq (by decide)))⟩
  ·have g7:a.eval (.tmp 12)=.bool false:=bD 7 (by decide) (gN ⟨7,.guard⟩ (by simp) rfl);have S:a.eval (.tmp 18)=ζ (some ⟨s,0,none⟩):=aB hG 13;exact⟨pq rfl rfl rfl (by rw[bA];decide) g7,ai (dF rfl S) (cf (aW hJ rfl) (hq (by decide)))⟩
  ·have g7:a.eval (.tmp 12)=.bool false:=bD 7 (by decide) (gN ⟨7,.guard⟩ (by simp) rfl);have S:a.eval (.tmp 19)=ζ (some ⟨s,0,none⟩):=aB hG 14;exact⟨pq rfl rfl rfl (by rw[bA];decide) g7,ai (cH rfl S Ba) (cf (aW hJ rfl) (hq (by decide)))⟩
  ·have g7:a.eval (.tmp 12)=.bool false:=bD 7 (by decide) (gN ⟨7,.guard⟩ (by simp) rfl);have S:a.eval (.tmp 20)=ζ (some ⟨s,0,none⟩):=aB hG 15;exact⟨pq rfl rfl rfl (by rw[bA];decide) g7,ai (aV rfl S (tf ((HX.out.row.on (U (by decide))).cell (k:=0) rfl))) (cf (aW hJ rfl) (hq (by decide)))⟩
  ·have g7:a.eval (.tmp 12)=.bool false:=bD 7 (by decide) (gN ⟨7,.guard⟩ (by simp) rfl);have S:a.eval (.tmp 21)=ζ (some ⟨cp,0,none⟩):=aB hG 16;refine⟨pq rfl rfl rfl (by rw[bA];decide) g7,cI (f:=45) (args:=#[a.eval (.tmp 21)]) (by kernel_rfl) (by rw[S];exact Eo cp b nv I (HX.out.dK.on (U (by decide))).row) ?_ (by rintro c az ⟨e,_⟩;cases e) (by rintro az ⟨e,_⟩;cases e)⟩;rintro v az ⟨e,rfl⟩;cases e;have cD:Below I.heap.size I (I.alloc (ι #[.map (some b)] 65)):=(ν _ _).alloc (ξ _) _;exact cf (nI (by kernel_rfl) rfl (by decide) hJ trivial (λj v _ hn=>hn.keep (λg _ hg=>cD.block g hg) j v) ⟨I.heap.size,rfl,X.new I _ _,(U (by decide)).size⟩) ⟨λ_=>(U (by decide)).trans (cD.mono (U (by decide)).size),λh=>by
    rw[gE (by decide)]at h;have:=pt dE (by kernel_rfl) h 17 (by decide);rw[IB]at this;cases this⟩
  ·have g7:a.eval (.tmp 12)=.bool false:=bD 7 (by decide) (gN ⟨7,.guard⟩ (by simp) rfl);have S:a.eval (.tmp 16)=ζ (some ⟨ip,0,none⟩):=aB hG 11;have e2:a.eval (.tmp 17)=V Z t:=aB hG 12;obtain⟨bm,e3,ZN,TC⟩:LL w s cp ip b h t mb 17 (a.eval (.tmp 22)) I:=aB hG 17;refine⟨pq rfl rfl rfl (by rw[bA];decide) g7,cI (f:=44) (args:=#[a.eval (.tmp 16),a.eval (.tmp 17),a.eval (.tmp 22)]) (by kernel_rfl) (by rw[S,e2,e3];exact HMv.out I bm (U (by decide)) ZN) ?_ (by rintro c az ⟨e,_⟩;cases e) (by rintro az ⟨e,_⟩;cases e)⟩;rintro v az ⟨e,hmp⟩;cases e;have akq:=hmp;obtain⟨_,_,N,_⟩:=akq;exact cf (nI (by kernel_rfl) rfl (by decide) hJ trivial (λj v _ hn=>LL.keep (λg hg KO=>N.block g KO λhM=>by have:=hMl g hM;omega) j v hn) rfl) ⟨λh=>(by rw[oa]at h;cases h),λ_=>vS.later (U (by decide)) hmp⟩
  ·have g7:a.eval (.tmp 12)=.bool false:=bD 7 (by decide) (gN ⟨7,.data⟩ (by simp) rfl);have S:a.eval (.tmp 23)=.bool mb:=aB hG 18;exact⟨aY rfl,ai (Xh rfl g7 S) (cf (aW hJ rfl) ⟨λh=>hlo (by rw[gE (by decide)]at h;exact h),λh=>O5 (by rw[gE (by decide)]at h;exact h)⟩)⟩
  have S:a.eval (.tmp 24)=.bool mb:=aB hG 19;exact⟨aY rfl,ai (O4 rfl S) (cf (aW hJ rfl) ⟨λh=>hlo (by rw[gE (by decide)]at h;exact h),λh=>O5 (by rw[gE (by decide)]at h;exact h)⟩)⟩
 case rdone=>
  intro d a w3 hd ar hG;obtain⟨hJ,_,O5⟩:=ar;have Ag:=H (O5 (hd 18 (by decide)));have e4:a.eval (.tmp 4)=.bool mb:=hG 20 (by decide);have fc:=hJ.size;have fi:=hJ.defers;clear hJ hG O5;obtain⟨fr,rfl,hf⟩:=Rc a fc fi;have g4:=(hf 4).symm.trans e4;rw[g4];clear hf fc fi e4 g4;go_wp2_with fail;go_ret;exact⟨rfl,Ag.out⟩
def CV (ds:List aL)(h t:Int):Int:=if t<=h then h else qs ds h t
def vT (s:Nat)(aqz E:ak)(ns:List ByteArray)(ds:List aL)(h:Int)(xs:List ByteArray)(f t:Int)(w:μ):Κ->μ->Prop:=λe I=>
 if uB f t then match pn xs ns with
  |some y=>e=ε (bx y)/\Below w.heap.size w I
  |none=>∃aqA,e=δ (θ aqA)/\vo xs ds f t aqA/\∃M':ak,cg I s M' E ns ds (CV ds h t)/\aj aqz w I/\∀k,M' k->aqz k\/w.heap.size<=k
 else e=ε (bx 7)/\Below w.heap.size w I
def Ah (n:Nat)(w:μ):μ:={w with heap:=w.heap.extract 0 n}
theorem oK {n:Nat}{w:μ}(h:n<=w.heap.size):(Ah n w).heap.size=n:=by unfold Ah;simp;omega
theorem CZ {n:Nat}{w:μ}{k:Nat}(h:k<n):(Ah n w).heap[k]?=w.heap[k]?:=by
 unfold Ah;simp only[Array.getElem?_extract];split
 ·simp
 rename_i Y;rw[Array.getElem?_eq_none (by omega)]
theorem Re {n:Nat}{w:μ}(h:n<=w.heap.size):Below (Ah n w).heap.size (Ah n w) w:=⟨rfl,rfl,rfl,by rw[oK h];exact h,λk Y=>(CZ (by rw[oK h]at Y;exact Y)).symm⟩
theorem ID {α β:Type}(F:α->List β)(B:Nat):∀l:List α,(∀x∈l,(F x).length<=B)->(l.flatMap F).length<=l.length*B
 |[],_=>by simp
 |x::l,h=>by
  have G:=h x (by simp);have A:=ID F B l λy hy=>h y (by simp[hy]);rw[Δ,List.length_append,List.length_cons,Nat.add_mul,Nat.one_mul];omega
theorem abu {d:aL}(h:d.ok){f t:Int}(t1:t<=7258118400):(d.sP f t).length<=86000:=by
 unfold aL.sP;rw[ω];exact aL.adB h t1
theorem TP {α β:Type}{a b:List α}(h:a.Perm b)(F:α->List β):(a.flatMap F).Perm (b.flatMap F):=h.flatMap_right _
theorem TQ {ps:List (KE×aL)}{ds:List aL}{xs:List ByteArray}{f t:Int}{dI:List KE}{kd:List Value->Int}{sp:List Value->List (Int×Int)}(hs:ps.map (·.2)=ds)(Ov:∀p∈ps,p.1.kc=p.2.kc)(hf:∀p∈ps,kd p.1.ev=p.2.kd/\sp p.1.ev=p.2.sP f t)
 (Y:dI.Perm ((ps.map (·.1)).filter λk=>ψ xs k.kc)):((dI.map KE.ev).flatMap λe=>if kd e=0 then[]else jA (kd e) (sp e)).Perm (uw xs ds f t):=by
 have S:((ps.map (·.1)).filter λk=>ψ xs k.kc)=(ps.filter λp=>ψ xs p.1.kc).map (·.1):=by rw[List.filter_map];rfl
 rw[S]at Y;obtain⟨BN,G,A⟩:=Q0 Y;have vP:∀p∈BN,p∈ps:=λp J=>(List.mem_filter.1 (G.mem_iff.1 J)).1;have e2:((dI.map KE.ev).flatMap λe=>if kd e=0 then[]else jA (kd e) (sp e))=BN.flatMap λp=>p.2.Ll f t:=by
  rw[<-A,List.map_map,List.flatMap_map];clear G A Y S
  induction BN with
  |nil=>rfl
  |cons p BN ih=>
   rw[Δ,Δ,ih λq hq=>vP q (by simp[hq]),aL.abm];obtain⟨q1,q2⟩:=hf p (vP p (by simp));simp only[Function.comp,q1,q2]
 rw[e2];refine(TP G _).trans ?_;unfold uw;have e3:(ds.filter λd=>ψ xs d.kc)=(ps.filter λp=>ψ xs p.1.kc).map (·.2):=by
  rw[<-hs,List.filter_map];congr 1;apply Ν;intro p J;simp only[Function.comp];rw[Ov p J]
 rw[e3,List.flatMap_map]
theorem abv {f t:Int}{cs:List lY}(h:∀c∈cs,c.k=1\/c.k=2):∀e∈eT f t cs,(e.k=0\/e.k=1\/e.k=2)/\(e.m=1\/e.m=-1):=by
 intro e he;unfold eT at he;obtain⟨c,hc,he⟩:=List.mem_flatMap.1 he;have:=h c hc;simp at he;rcases he with rfl|rfl
 ·exact⟨.inr this,.inl rfl⟩
 exact⟨.inr this,.inr rfl⟩
theorem LN {w0 w2 w3:μ}{q:Nat}{f t:Int}{v:Value}{cs:List lY}{ds:List aL}{xs:List ByteArray}(ht:iX w0)(h0:Below w0.heap.size w0 w2)(N:aj (λk=>k=q) w2 w3)(hq:w0.heap.size<=q)(oZ:gL w3 q f t v (eT f t cs))(hv:∀k,v.ownBlock=some k->w2.heap.size<=k)(ho:∀d∈ds,d.ok)(wR:f<t)(t1:t<=7258118400)(hc:cs.Perm (uw xs ds f t))(K:2*cs.length+4<=16777216):
 φ prog 67 #[ζ (some ⟨q,0,none⟩)] w3 λe w4=>∃aqA,e=δ (θ aqA)/\vo xs ds f t aqA/\aj (λk=>k=q) w2 w4:=by
 have tO:=N.size;have h03:Below w0.heap.size w0 (Ah w2.heap.size w3):=⟨N.os.trans h0.os,N.tape.trans h0.tape,N.output.trans h0.output,by rw[oK tO];exact h0.size,λk Y=>by
  have:=h0.size;rw[CZ (by omega),N.block k (by omega) (by omega),h0.block k Y]⟩
 have hck:∀c∈cs,c.k=1\/c.k=2:=λc BU=>(OQ ho t1 xs c (hc.mem_iff.1 BU)).2;refine(JC (Ah w2.heap.size w3) q f t v (eT f t cs) w3 (ht.on h03) (Re tO) oZ (λj hj=>by rw[oK tO];exact hv j hj) (by rw[Cw];exact K) (abv hck)).mono ?_;rintro e w4 ⟨L',p1,p2,rfl,b4⟩;rw[oK tO]at b4;exact⟨_,rfl,abk ho wR t1 hc p1 p2,b4.os.trans N.os,b4.tape.trans N.tape,b4.output.trans N.output,by have:=b4.size;rw[oK tO]at this;exact this,λk Y hn=>by rw[b4.block k Y,CZ Y,N.block k Y hn]⟩
theorem Xi {w0 w:μ}{s:Nat}{aqz E:ak}{ns:List ByteArray}{ds:List aL}{h:Int}(x:cg w s aqz E ns ds h)(nv:Value)(xs:List ByteArray)(f t:Int)(ht:iX w0)(h0:Below w0.heap.size w0 w)(hM:∀k,aqz k->w0.heap.size<=k)(hn:iJ w nv xs)(ib:xs.length<=9223372036854775807)(O7:∀k,nv.ownBlock=some k->¬aqz k):
 φ prog 39 #[ζ (some ⟨s,0,none⟩),nv,V Z f,V Z t] w (vT s aqz E ns ds h xs f t w):=by
 have CW:=H (Ai f t w (ht.on h0));obtain⟨an,cn,lW⟩:=hn.sl;cases yW:uB f t with
 |false=>
  rw[yW]at CW;rw[lW];clear x hn lW;go_enter func39,ntmps39;go_wp2_with (go_at_call 55;refine(CW.out).mono ?_;rintro e w1 ⟨rfl,ay⟩);exact⟨rfl,by unfold vT;rw[yW];exact⟨rfl,ay⟩⟩
 |true=>
 rw[yW]at CW;simp only[if_true]at CW;have wR:(0<=f/\f<7258118400)/\(0<=t/\t<7258118400)/\f<t:=by
  unfold uB cU at yW;simp at yW;omega
 have HX:=H x;have HN:=H hn;have oD:∀k,nv.ownBlock=some k->k<w.heap.size:=λk Y=>hn.lt Y;clear x hn;subst lW;cases dp:pn xs ns with
 |some y=>
  have TR:vT s aqz E ns ds h xs f t w=λe I=>e=ε (bx y)/\Below w.heap.size w I:=by
   funext e I;unfold vT;rw[yW,dp];rfl
  rw[TR];clear TR yW;go_enter func39,ntmps39;go_upto_region 2 with(go_at_call 55;refine(CW.out).mono ?_;rintro e w1 ⟨rfl,ay⟩);obtain⟨cp,b,ip,nc,ps,T,x1⟩:=HX.out.on ay;have k0:=x1.row.cell (k:=0) rfl;have CN:=H (BJ cp b nc (η an xs.length cn) ns xs (ps.map (·.1)) w1 x1.dK (HN.out.keep λj hj=>ay.block j (oD j hj)) x1.n8 ib);rw[dp,show Ge (some y)=ε (bx y)from rfl]at CN;replace ay:=H ay;clear x1 CW dp;go_wp2_with (go_at_call 62;refine(CN.out).mono ?_;rintro e w2 ⟨rfl,rfl⟩);exact⟨rfl,rfl,ay.out⟩
 |none=>
  have TR:vT s aqz E ns ds h xs f t w=λe I=>∃aqA,e=δ (θ aqA)/\vo xs ds f t aqA/\∃M':ak,cg I s M' E ns ds (CV ds h t)/\aj aqz w I/\∀k,M' k->aqz k\/w.heap.size<=k:=by
   funext e I;unfold vT;rw[yW,dp];rfl
  rw[TR];clear TR yW;go_enter func39,ntmps39;go_upto_region 2 with(go_at_call 55;refine(CW.out).mono ?_;rintro e w1 ⟨rfl,ay⟩);obtain⟨cp,b,ip,nc,ps,T,x1⟩:=HX.out.on ay;have k0:=x1.row.cell (k:=0) rfl;have CN:=H (BJ cp b nc (η an xs.length cn) ns xs (ps.map (·.1)) w1 x1.dK (HN.out.keep λj hj=>ay.block j (oD j hj)) x1.n8 ib);rw[dp,show Ge none=δ (.tuple #[])from rfl]at CN;replace ay:=H ay;clear x1 CW;have CSh:=H (KL f t w1);go_upto_region 4 with(first
   |(go_at_call 62;refine(CN.out).mono ?_;rintro e w2 ⟨rfl,rfl⟩)
   |(go_at_call 63;refine(CSh.out).mono ?_;rintro e W1 ⟨rfl,yX,hbS⟩))
  have bR:Below w.heap.size w W1:=ay.out.trans (hbS.mono ay.out.size);have xW:=HX.out.on bR;have CG:=H (JG xW t wR.2.1.1 (by omega));obtain⟨q,hq⟩:∃q,q=w1.heap.size:=⟨_,rfl⟩;rw[<-hq]at yX⊢;have hqw:w.heap.size<=q:=by rw[hq];exact ay.out.size
  have ZU:q<W1.heap.size:=yX.row.lt;have SX:=bR.size;have iY:=h0.size;have hMl:∀k,aqz k->k<w.heap.size:=λk Y=>HX.out.lt (.inl Y);have TS:¬aqz q:=λY=>by have:=hMl q Y;omega
  have EN:=HN.out.keep (I:=W1) λj hj=>bR.block j (oD j hj);replace yX:=H yX;replace EN:=H EN;replace bR:=H bR;clear k0 CN CSh hq hbS ay HX HN xW dp;have hBH:CV ds h t=if t<=h then h else qs ds h t:=rfl;cases vp:mF ds h t with
  |true=>
   rw[vp]at CG;go_upto_region 5 with(go_at_call 64;refine(CG.out).mono ?_;rintro e w2 ⟨rfl,M2,x2,bN,lR⟩);rw[<-hBH]at x2;have hzt:t<=CV ds h t:=by
    unfold CV qs;rw[vp];split
    ·omega
    simp
   have TT:=H x2;obtain⟨TU,b2,ZV,nc2,IE,T2,x2⟩:=x2;have IF:gL w2 q f t (η none 0 0) []:=⟨yX.out.row.ex bN TS,dB yX.out.own λg hg _=>by simp[Ζ]at hg,yX.out.ne⟩;have TV:=EN.out.keep (I:=w2) λj hj=>bN.block j (κ (oD j hj) SX) (O7 j hj);have hqi:¬q∈ZV::T2.ax:=λY=>(lR q (x2.mi q Y)).elim TS λh=>by omega
   have CC:=H (Lj s ZV q T2 T2.size (CV ds h t) f t (ζ (some ⟨TU,0,none⟩)) (η an xs.length cn) xs w2 x2.idx x2.srt x2.sz x2.row TV ib IF hqi (λe=>by have:=oD q e;omega));have Zx:(iP xs (du f t T2.aw)).Perm (uw xs ds f t):=WV x2.ok hzt x2.hz.2 xs x2.perm;have dE:(iP xs (du f t T2.aw)).length<=500:=by
    have G:=Li xs (du f t T2.aw);have A:(du f t T2.aw).length<=T2.aw.length:=τ _ _;rw[LT.cC]at A;have:=x2.sz;omega
   have cR:=x2.ok;have pV:=H ((aj.aq (O:=aqz) bR.out).aK bN);have h02:Below w0.heap.size w0 w2:=h0.trans (pV.out.below iY hM);have LO:∀k,M2 k\/E k->k<w2.heap.size/\k≠q:=λk Y=>⟨TT.out.lt Y,λe=>by
    subst e;rcases Y with Y|Y
    ·exact(lR k Y).elim TS λh=>by omega
    exact iG (x2.et k Y) (uA.row IF.row (by decide) (by decide))⟩
   clear x2 IF TV yX EN CG bN;go_upto_region 7 with(go_at_call 65;refine(CC.out).mono ?_;rintro e w3 ⟨⟨u3,rfl⟩,v3,TW,eo,KD⟩);have CT:=H (LN (ds:=ds) (xs:=xs) ht h02 eo (by omega) TW KD cR wR.2.2 (by omega) Zx (by omega));clear CC TW KD;replace eo:=H eo;go_wp2_with (go_at_call 67;refine(CT.out).mono ?_;rintro e w4 ⟨aqA,rfl,hbt,bH⟩);go_ret;exact⟨aqA,rfl,hbt,M2,TT.out.keep λk Y=>bH.block k (LO k Y).1 (LO k Y).2,pV.out.trans bH λk Y=>.inr (by omega),λk Y=>(lR k Y).imp id λh=>by omega⟩
  |false=>
   rw[vp]at CG;go_upto_region 6 with(go_at_call 64;refine(CG.out).mono ?_;rintro e w2 ⟨rfl,M2,x2,bN,lR⟩);rw[<-hBH]at x2;have TT:=H x2;obtain⟨TU,b2,ZV,nc2,IE,T2,x2⟩:=x2;have IF:gL w2 q f t (η none 0 0) []:=⟨yX.out.row.ex bN TS,dB yX.out.own λg hg _=>by simp[Ζ]at hg,yX.out.ne⟩;have TV:=EN.out.keep (I:=w2) λj hj=>bN.block j (κ (oD j hj) SX) (O7 j hj);have hqc:∀k,M2 k->k≠q:=λk Y e=>by subst e;exact(lR k Y).elim TS λh=>by omega
   obtain⟨Df,TX⟩:∃Df:List Value->aL,∀ev,∀p∈IE,p.1.ev=ev->(Df ev).kd=p.2.kd/\(Df ev).sP f t=p.2.sP f t:=Classical.axiomOfChoice (r:=λev (d:aL)=>∀p∈IE,p.1.ev=ev->d.kd=p.2.kd/\d.sP f t=p.2.sP f t) λev=>by
    by_cases hex:∃p∈IE,p.1.ev=ev
    ·obtain⟨p,J,hpe⟩:=hex;refine⟨p.2,λp' uZ he'=>?_⟩;have hu:=(x2.mE p J).uniq (x2.mE p' uZ) (hpe.trans he'.symm);rw[hu];exact⟨rfl,rfl⟩
    exact⟨⟨Μ,Μ,0,0,false,EF,[],[],false,0⟩,λp J he=>absurd ⟨p,J,he⟩ hex⟩
   have EI:∀p∈IE,p.2.ok:=λp J=>x2.ok p.2 (by rw[<-x2.snd];exact Β J);have mG:∀dI:List KE,dI.Perm ((IE.map (·.1)).filter λk=>ψ xs k.kc)->2*((dI.map KE.ev).flatMap λe=>if(Df e).kd=0 then[]else jA ((Df e).kd) ((Df e).sP f t)).length+4<=16777216:=λdI Y=>by
    have G:dI.length<=30:=by
     rw[Y.length_eq];exact ο (τ _ _) (by rw[ω];exact x2.k30)
    have A:=ID (λe=>if(Df e).kd=0 then[]else jA ((Df e).kd) ((Df e).sP f t)) 86000 (dI.map KE.ev) λe he=>by
     obtain⟨k,bV,rfl⟩:=List.mem_map.1 he;obtain⟨p,J,rfl⟩:=List.mem_map.1 (List.mem_filter.1 (Y.mem_iff.1 bV)).1;split
     ·simp
     unfold jA;rw[ω,(TX _ p J rfl).2];exact abu (EI p J) (by omega)
    rw[ω]at A;have M:dI.length*86000<=30*86000:=Nat.mul_le_mul_right _ G;omega
   have CC:=H (Lo s TU b2 q f t nc2 (ζ (some ⟨ZV,0,none⟩)) (η an xs.length cn) xs (IE.map (·.1)) (λe=>(Df e).kd) (λe=>(Df e).sP f t) E w2 x2.dK.map x2.dK.row x2.row TV ib x2.vR IF ⟨λe=>hqc TU (x2.mc TU (.inl rfl)) e.symm,λe=>hqc b2 (x2.mc b2 (.inr (.inl rfl))) e.symm⟩ (λe=>by have:=oD q e;omega)
    (λk Y wr _ hE=>by
     obtain⟨p,J,rfl⟩:=List.mem_map.1 Y;simp only[(TX _ p J rfl).1];exact((x2.mE p J).keep hE).kind)
    (λk Y _ wr _ hE=>by
     obtain⟨p,J,rfl⟩:=List.mem_map.1 Y;simp only[(TX _ p J rfl).2];exact((x2.mE p J).keep hE).over (EI p J) wR.1.1 (by omega) wR.2.1.1 (by omega))
    (λj hj=>⟨x2.el j hj,λe=>by subst e;exact iG (x2.et j hj) (uA.row IF.row (by decide) (by decide))⟩) (λdI Y=>by have:=mG dI Y;omega))
   have hcr:=H λ(dI:List KE) (Y:dI.Perm ((IE.map (·.1)).filter λk=>ψ xs k.kc))=>TQ (kd:=λe=>(Df e).kd) (sp:=λe=>(Df e).sP f t) (f:=f) (t:=t) x2.snd (λp J=>(x2.mE p J).1) (λp J=>TX _ p J rfl) Y;have cR:=x2.ok;have pV:=H ((aj.aq (O:=aqz) bR.out).aK bN);have h02:Below w0.heap.size w0 w2:=h0.trans (pV.out.below iY hM);have LO:∀k,M2 k\/E k->k<w2.heap.size/\k≠q:=λk Y=>⟨TT.out.lt Y,λe=>by
    rcases Y with Y|Y
    ·exact hqc k Y e
    subst e;exact iG (x2.et k Y) (uA.row IF.row (by decide) (by decide))⟩
   replace mG:=H mG;clear x2 IF TV yX EN CG bN TX EI;go_upto_region 7 with(go_at_call 66;refine(CC.out).mono ?_;rintro e w3 ⟨dI,bV,⟨u3,rfl⟩,v3,TW,eo,KD⟩);have CT:=H (LN (ds:=ds) (xs:=xs) ht h02 eo (by omega) TW KD cR wR.2.2 (by omega) (hcr.out dI bV) (mG.out dI bV));clear CC TW KD bV hcr;replace eo:=H eo;go_wp2_with (go_at_call 67;refine(CT.out).mono ?_;rintro e w4 ⟨aqA,rfl,hbt,bH⟩);go_ret;exact⟨aqA,rfl,hbt,M2,TT.out.keep λk Y=>bH.block k (LO k Y).1 (LO k Y).2,pV.out.trans bH λk Y=>.inr (by omega),λk Y=>(lR k Y).imp id λh=>by omega⟩
theorem Gp (p:Addr)(w:μ):
 CallsD prog 68 #[ζ (some p)] .returning w λe u' I=>e=δ (.tuple #[])/\u'=.returning/\I=w:=by
 have hf:=kN p .nilIface;refine callsD_of_wpS func68 rfl λc₀ cs hu=>?_;refine mh λaqy hK=>?_;refine wpS_region ?_;simp[wpOpsS,go_sem,recoverD,hu,ntmps68,Exit.thenS];rw[hf];refine hK _ _ _ ?_;clear hK aqy hf;refine wpS_of_wp ?_;go_wp2;cases c₀;simp_all[bodyPostS,results,results68]
theorem zh (p:Addr)(e:Int)(x:Value)(oY:List PanicEntry)(w:μ)(hc:w.cell? p=some x)(hz:w.frozen? p=false)(J:p.block<w.heap.size):
 CallsD prog 68 #[ζ (some p)] (.panicking ({v:=.iface 85 (.agg #[V Z e]),recovered:=false}::oY)) w λE u' I=>
  E=δ (.tuple #[])/\u'=.panicking ({v:=.iface 85 (.agg #[V Z e]),recovered:=true}::oY)/\I=(w.alloc (ι #[V Z e] 85)).setCell p (V Z e):=by
 have hta:=sZ;have gX:∀o,(w.alloc o).frozen? p=false:=λo=>by rw[World.frozen?_alloc_old w o p (by omega)];exact hz
 have hf:=kN p (.iface 85 (.agg #[V Z e]));refine callsD_of_wpS func68 rfl λc₀ cs hu=>?_;refine mh λaqy hK=>?_;refine wpS_region ?_;simp[wpOpsS,go_sem,recoverD,hu,ntmps68,Exit.thenS];rw[hf];refine hK _ _ _ ?_;clear hK aqy hf;refine wpS_of_wp ?_;go_wp2;exact⟨rfl,_,rfl,.tuple #[],by simp[results,results68],rfl,rfl,rfl⟩
theorem aj.upto {aqz:ak}{w W w1:μ}(U:Below w.heap.size w W)(N:aj aqz W w1){O:ak}{w2:μ}(bN:aj O w1 w2)(hO:∀k,O k->w.heap.size<=k):aj aqz w w2:=((aj.aq U).aK N).trans bN λk Y=>.inr (hO k Y)
theorem ad4 (g:Nat)(eg:∀args w,(callFunc g args).run prog w=.ok (.enter g args) w)(lb:Array Value)(aqz:ak)(P:μ->Int->ByteArray->μ->Prop)(w:μ)(hM:∀k,aqz k->k<w.heap.size)
 (hf:∀W,Below w.heap.size w W->φ prog g lb W λE w1=>aj aqz W w1/\((∃s,E=δ (θ s)/\P W 0 s w1)\/∃x,E=ε (bx x)/\P W x ⟨#[]⟩ w1))
 (hP:∀W x s w1 w2 p,Below w.heap.size w W->w.heap.size<=p->p<W.heap.size->X w1 p [V Z 0] 31->P W x s w1->aj (λk=>k=p) w1 w2->P W x s w2):
 φ prog 28 #[.func (.func g) #[] lb] w λE I=>∃W x s,E=δ (.tuple #[θ s,V Z x])/\Below w.heap.size w W/\P W x s I/\aj aqz w I:=by
 have sI:∀(fn:Fn) (first cap:Array Value) (w:μ),(υ fn first cap).run prog w=.ok (.func fn first cap) w:=λ_ _ _ _=>rfl;have HF:=H hf;have HP:=H hP;have bR:Below w.heap.size w (w.alloc (ι #[V Z 0] 31)):=(ν _ _).alloc (ξ _) _;have lX:=X.new w [V Z 0] 31;have hM':¬aqz w.heap.size:=λh=>by have:=hM _ h;omega
 have yQ:w.heap.size<(w.alloc (ι #[V Z 0] 31)).heap.size:=by simp
 replace bR:=H bR;replace lX:=H lX;clear hf hP hM;go_enter_defers func28,ntmps28;go_wp2_with fail;refine(HF.out _ bR.out).mono ?_;rintro e w1 ⟨bC,h⟩;have ez:=lX.out.ex bC hM';have h0:=ez.cell (k:=0) rfl;have G:w1.frozen? ⟨w.heap.size,0,none⟩=false:=ez.free;have aR:=ez.lt;replace bC:=H bC;rcases h with⟨s,rfl,J⟩|⟨x,rfl,J⟩
 ·replace J:=H J;replace ez:=H ez;clear lX;go_wp2;refine leaves_cons (f:=50) (args:=#[ζ (some ⟨w.heap.size,0,none⟩)]) (by simp) (by simp[go_sem]) ?_;refine(tI _ _).mono ?_;rintro e u' az ⟨rfl,rfl,rfl⟩;refine⟨.tuple #[θ s,V Z 0],?_,_,0,s,rfl,bR.out,HP.out _ _ _ _ _ _ bR.out (ξ _) yQ ez.out J.out ((aj.refl (λk=>k=w.heap.size) _).setCell (.inl rfl) _),aj.upto bR.out bC.out ((aj.refl (λk=>w.heap.size<=k) _).setCell (.inl (ξ _)) _) (λk h=>h)⟩;simp[results,results28,go_sem,h0]
 replace J:=H J;replace ez:=H ez;clear lX;refine leaves_cons (f:=50) (args:=#[ζ (some ⟨w.heap.size,0,none⟩)]) (by simp) (by simp[go_sem]) ?_;refine(ou ⟨w.heap.size,0,none⟩ x (V Z 0) [] _ h0 G aR).mono ?_;rintro e u' az ⟨rfl,rfl,rfl⟩;refine⟨.tuple #[θ ⟨#[]⟩,V Z x],?_,_,x,⟨#[]⟩,rfl,bR.out,HP.out _ _ _ _ _ _ bR.out (ξ _) yQ ez.out J.out (((aj.refl (λk=>k=w.heap.size) _).alloc _).setCell (.inl rfl) _),aj.upto bR.out bC.out (((aj.refl (λk=>w.heap.size<=k) _).alloc _).setCell (.inl (ξ _)) _) (λk h=>h)⟩;have A:((w1.alloc (ι #[V Z x] 85)).cell? ⟨w.heap.size,0,none⟩).isSome=true:=by
  rw[World.cell?_alloc_past _ _ _ aR,h0];rfl
 simp[results,results28,go_sem,A]
theorem abw (g:Nat)(eg:∀args w,(callFunc g args).run prog w=.ok (.enter g args) w)(lb:Array Value)(aqz:ak)(P:μ->Int->μ->Prop)(w:μ)(hM:∀k,aqz k->k<w.heap.size)
 (hf:∀W,Below w.heap.size w W->φ prog g lb W λE w1=>aj aqz W w1/\((E=δ (.agg #[])/\P W 0 w1)\/∃x,E=ε (bx x)/\P W x w1))
 (hP:∀W x w1 w2 p,Below w.heap.size w W->w.heap.size<=p->p<W.heap.size->X w1 p [V Z 0] 31->P W x w1->aj (λk=>k=p) w1 w2->P W x w2):
 φ prog 40 #[.func (.func g) #[] lb] w λE I=>∃W x,E=δ (.tuple #[.agg #[],V Z x])/\Below w.heap.size w W/\P W x I/\aj aqz w I:=by
 have sI:∀(fn:Fn) (first cap:Array Value) (w:μ),(υ fn first cap).run prog w=.ok (.func fn first cap) w:=λ_ _ _ _=>rfl;have HF:=H hf;have HP:=H hP;have bR:Below w.heap.size w ((w.alloc (ι #[] 74)).alloc (ι #[V Z 0] 31)):=((ν _ _).alloc (ξ _) _).alloc (by simp) _;have lX:X ((w.alloc (ι #[] 74)).alloc (ι #[V Z 0] 31)) (w.heap.size+1) [V Z 0] 31:=by
  have:=X.new (w.alloc (ι #[] 74)) [V Z 0] 31;simpa using this
 have ZU:X ((w.alloc (ι #[] 74)).alloc (ι #[V Z 0] 31)) w.heap.size [] 74:=by
  have:=(X.new w [] 74).on (((ν (w.alloc (ι #[] 74)).heap.size _).alloc (ξ _) (ι #[V Z 0] 31)));exact this
 have hM':¬aqz (w.heap.size+1):=λh=>by have:=hM _ h;omega
 have O8:¬aqz w.heap.size:=λh=>by have:=hM _ h;omega
 have yQ:w.heap.size+1<((w.alloc (ι #[] 74)).alloc (ι #[V Z 0] 31)).heap.size:=by simp
 replace bR:=H bR;replace lX:=H lX;replace ZU:=H ZU;replace yQ:=H yQ;clear hf hP hM;go_enter_defers func40,ntmps40;go_wp2_with fail;refine(HF.out _ bR.out).mono ?_;rintro e w1 ⟨bC,h⟩;have ez:=lX.out.ex bC hM';have BG:=ZU.out.ex bC O8;have h0:=ez.cell (k:=0) rfl;have G:w1.frozen? ⟨w.heap.size+1,0,none⟩=false:=ez.free;have aR:=ez.lt;replace bC:=H bC;rcases h with⟨rfl,J⟩|⟨x,rfl,J⟩
 ·replace J:=H J;replace ez:=H ez;clear lX;go_wp2;refine leaves_cons (f:=68) (args:=#[ζ (some ⟨w.heap.size+1,0,none⟩)]) (by simp) (by simp[go_sem]) ?_;refine(Gp _ _).mono ?_;rintro e u' az ⟨rfl,rfl,rfl⟩;refine⟨.tuple #[.agg #[],V Z 0],?_,_,0,rfl,bR.out,HP.out _ _ _ _ _ bR.out (Nat.le_succ _) yQ.out ez.out J.out ((aj.refl (λk=>k=w.heap.size+1) _).setCell (.inl rfl) _),aj.upto bR.out bC.out ((aj.refl (λk=>w.heap.size<=k) _).setCell (.inl (Nat.le_succ _)) _) (λk h=>h)⟩;simp[results,results40,go_sem,h0]
 replace J:=H J;replace ez:=H ez;clear lX;refine leaves_cons (f:=68) (args:=#[ζ (some ⟨w.heap.size+1,0,none⟩)]) (by simp) (by simp[go_sem]) ?_;refine(zh ⟨w.heap.size+1,0,none⟩ x (V Z 0) [] _ h0 G aR).mono ?_;rintro e u' az ⟨rfl,rfl,rfl⟩;refine⟨.tuple #[.agg #[],V Z x],?_,_,x,rfl,bR.out,HP.out _ _ _ _ _ bR.out (Nat.le_succ _) yQ.out ez.out J.out (((aj.refl (λk=>k=w.heap.size+1) _).alloc _).setCell (.inl rfl) _),aj.upto bR.out bC.out (((aj.refl (λk=>w.heap.size<=k) _).alloc _).setCell (.inl (Nat.le_succ _)) _) (λk h=>h)⟩;have A:((w1.alloc (ι #[V Z x] 85)).cell? ⟨w.heap.size+1,0,none⟩).isSome=true:=by
  rw[World.cell?_alloc_past _ _ _ aR,h0];rfl
 simp[results,results40,go_sem,A]
theorem vU (g:Nat)(eg:∀args w,(callFunc g args).run prog w=.ok (.enter g args) w)(lb:Array Value)(aqz:ak)(P:μ->Int->μ->Prop)(w:μ)(hM:∀k,aqz k->k<w.heap.size)
 (hf:∀W,Below w.heap.size w W->φ prog g lb W λE w1=>aj aqz W w1/\(((∃v,E=δ v)/\P W 0 w1)\/∃x,E=ε (bx x)/\P W x w1))
 (hP:∀W x w1 w2 p,Below w.heap.size w W->w.heap.size<=p->p<W.heap.size->X w1 p [V Z 0] 31->P W x w1->aj (λk=>k=p) w1 w2->P W x w2)
 (ZW:∀W x w1 w2,P W x w1->Below w1.heap.size w1 w2->P W x w2):
 φ prog 22 #[.func (.func g) #[] lb] w λE I=>∃W x,E=δ (V Z x)/\Below w.heap.size w W/\P W x I/\aj aqz w I:=by
 have sI:∀(fn:Fn) (first cap:Array Value) (w:μ),(υ fn first cap).run prog w=.ok (.func fn first cap) w:=λ_ _ _ _=>rfl;have HF:=H hf;obtain⟨W0,eR⟩:∃W0,W0=w.alloc (ι #[.func (.func g) #[] lb] 1):=⟨_,rfl⟩;have bj:Below w.heap.size w W0:=by rw[eR];exact(ν _ _).alloc (ξ _) _
 have wC:X W0 w.heap.size [.func (.func g) #[] lb] 1:=by rw[eR];exact X.new w _ _
 have iY:=bj.size;have lU:∀args w,(callFunc 41 args).run prog w=.ok (.enter 41 args) w:=enters_of func41 (by kernel_rfl) rfl;have C1:Hid (∀ae,Below W0.heap.size W0 ae->φ prog 41 #[ζ (some ⟨w.heap.size,0,none⟩)] ae λE w1=>aj aqz ae w1/\((E=δ (.agg #[])/\∃W,Below w.heap.size w W/\ae.heap.size<=W.heap.size/\P W 0 w1)\/∃x,E=ε (bx x)/\∃W,Below w.heap.size w W/\ae.heap.size<=W.heap.size/\P W x w1)):=H λae TY=>by
  have ZX:Below w.heap.size w ae:=bj.trans (TY.mono iY);have k0:=(wC.on TY).cell (k:=0) rfl;obtain⟨V1,ZY⟩:∃V1,V1=ae.alloc (ι #[] 74):=⟨_,rfl⟩;have ay:Below ae.heap.size ae V1:=by rw[ZY];exact(ν _ _).alloc (ξ _) _
  have BG:X V1 ae.heap.size [] 74:=by rw[ZY];exact X.new ae _ _
  have LP:Below w.heap.size w V1:=ZX.trans (ay.mono ZX.size);have CF:=H (HF.out V1 LP);have hMV:¬aqz ae.heap.size:=λh=>by have:=hM _ h;have:=ZX.size;omega
  have k1:V1.cell? ⟨w.heap.size,0,none⟩=some (.func (.func g) #[] lb):=((wC.on TY).on ay).cell (k:=0) rfl;replace ay:=H ay;replace LP:=H LP;replace BG:=H BG;have ad6:=H ZY;clear ZX hP ZW hf HF eR wC TY ZY;go_enter func41,ntmps41;go_upto_region 1 with fail;rw[<-ad6.out];clear ad6;go_wp2_with fail;refine(CF.out).mono ?_;rintro e w1 ⟨bC,h⟩;have hq2:=BG.out.ex bC hMV;rcases h with⟨⟨v,rfl⟩,J⟩|⟨x,rfl,J⟩
  ·replace bC:=H bC;replace J:=H J;clear k0 k1 CF BG;go_wp2_with fail;refine⟨rfl,.agg #[],?_,(aj.aq ay.out).aK bC.out,.inl ⟨rfl,V1,LP.out,ay.out.size,J.out⟩⟩;simp[results,results41,go_sem]
  exact⟨rfl,(aj.aq ay.out).aK bC,.inr ⟨x,rfl,V1,LP.out,ay.out.size,J⟩⟩
 have CA:=H (abw 41 lU #[ζ (some ⟨w.heap.size,0,none⟩)] aqz (λae x w1=>∃W,Below w.heap.size w W/\ae.heap.size<=W.heap.size/\P W x w1) W0 (λk Y=>κ (hM k Y) iY) C1.out (λae x w1 w2 p _ G A M ⟨W,q1,q2,q3⟩ h4=>⟨W,q1,q2,hP W x w1 w2 p q1 (by omega) (by omega) M q3 h4⟩));replace bj:=H bj;replace ZW:=H ZW;have xV:=H eR;clear C1 HF hf hP hM wC eR;go_enter func22,ntmps22;go_upto_region 1 with fail;rw[<-xV.out];go_wp2_with (go_at_call 40;refine(CA.out).mono ?_;rintro e w4 ⟨ae,x,rfl,TY,⟨W,q1,q2,q3⟩,bH⟩);go_ret;have cD:Below w4.heap.size w4 (w4.alloc (ι #[] 74)):=(ν _ _).alloc (ξ _) _;exact⟨W,x,rfl,q1,ZW.out _ _ _ _ q3 cD,((aj.aq bj.out).aK bH).aK (aj.aq cD)⟩
end
section
structure fl where
 ns:List ByteArray
 ds:List aL
 h:Int
def fX (c:ByteArray)(t:List UInt8)(st:fl):Int×fl:=match CE c t st.ns st.ds with
 | .error x=>(x,st)
 | .ok D=>(0,⟨Cz D.kc st.ns,nu D st.ds,Gl D st.ds st.h⟩)
def fH (c u:ByteArray)(st:fl):Int×fl:=if mD c u st.ds then(0,⟨st.ns,iR c u st.ds,st.h⟩)else(6,st)
def fY (t:Int)(st:fl):Int×fl:=if cU t then(if mF st.ds st.h t then 0 else 5,⟨st.ns,st.ds,qs st.ds st.h t⟩)else(1,st)
def kG (xs:List ByteArray)(f t:Int)(st:fl):Int×fl:=if uB f t then match pn xs st.ns with
 |some y=>(y,st)
 |none=>(0,⟨st.ns,st.ds,CV st.ds st.h t⟩)
 else(7,st)
def gG (s:Nat)(aqz:ak)(st:fl)(n:Nat)(w:μ):Prop:=∃M' E':ak,cg w s M' E' st.ns st.ds st.h/\∀k,M' k->aqz k\/n<=k
theorem gG.on {s:Nat}{aqz:ak}{st:fl}{n:Nat}{w I:μ}(x:gG s aqz st n w)(U:Below w.heap.size w I):gG s aqz st n I:=by
 obtain⟨M',E',G,A⟩:=x;exact⟨M',E',G.on U,A⟩
theorem gG.J7 {s:Nat}{aqz:ak}{st:fl}{m n p:Nat}{w I:μ}(x:gG s aqz st n w)(hM:∀k,aqz k->k<m)(G:m<=p)(A:p<n)(hr:X w p [V Z 0] 31)(N:aj (λk=>k=p) w I):gG s aqz st n I:=by
 obtain⟨M',E',a1,a2⟩:=x;refine⟨M',E',a1.aM N λk Y e=>?_,a2⟩;subst e;rcases Y with Y|Y
 ·rcases a2 k Y with h|h
  ·have:=hM k h;omega
  omega
 obtain⟨cp,b,ip,nv,ps,T,y⟩:=a1;exact iG (y.et k Y) (uA.row hr (by decide) (by decide))
theorem gG.low {s:Nat}{aqz:ak}{st:fl}{m n:Nat}{w:μ}(x:gG s aqz st n w)(h:m<=n):gG s aqz st m w:=by
 obtain⟨M',E',a1,a2⟩:=x;exact⟨M',E',a1,λk Y=>(a2 k Y).imp id λh'=>ο h h'⟩
section
variable {w:μ} {s:Nat} {aqz E:ak} {st:fl}
theorem tg.sv {W w1:μ}{c:ByteArray}{t:List UInt8}{e:Κ}(x:cg W s aqz E st.ns st.ds st.h)(h:tg s aqz st.ns st.ds st.h c t W e w1):aj aqz W w1/\(((∃v,e=δ v)/\(0=(fX c t st).1/\gG s aqz (fX c t st).2 W.heap.size w1))\/∃y,e=ε (bx y)/\(y=(fX c t st).1/\gG s aqz (fX c t st).2 W.heap.size w1)):=by
 unfold tg at h;unfold fX;cases J:CE c t st.ns st.ds with
 |error y=>
  rw[J]at h;obtain⟨G,A⟩:=h;exact⟨aj.aq A,.inr ⟨y,G,rfl,aqz,E,x.on A,λk Y=>.inl Y⟩⟩
 |ok D=>
  rw[J]at h;obtain⟨G,M',E',A,M,h4,_⟩:=h;exact⟨M,.inl ⟨G,rfl,M',E',A,h4⟩⟩
theorem wW.sv {W w1:μ}{c u:ByteArray}{e:Κ}(x:cg W s aqz E st.ns st.ds st.h)(h:wW s aqz E st.ns st.ds st.h c u W e w1):aj aqz W w1/\(((∃v,e=δ v)/\(0=(fH c u st).1/\gG s aqz (fH c u st).2 W.heap.size w1))\/∃y,e=ε (bx y)/\(y=(fH c u st).1/\gG s aqz (fH c u st).2 W.heap.size w1)):=by
 unfold wW at h;unfold fH;cases J:mD c u st.ds with
 |false=>
  rw[J]at h;obtain⟨G,A⟩:=h;exact⟨aj.aq A,.inr ⟨6,G,rfl,aqz,E,x.on A,λk Y=>.inl Y⟩⟩
 |true=>
  rw[J]at h;obtain⟨G,M',A,M,h4⟩:=h;exact⟨M,.inl ⟨G,rfl,M',E,A,h4⟩⟩
theorem Aa.sv {W w1:μ}{t:Int}{e:Κ}(x:cg W s aqz E st.ns st.ds st.h)(h:Aa s aqz E st.ns st.ds st.h t W e w1):aj aqz W w1/\(((∃v,e=δ v)/\(0=(fY t st).1/\gG s aqz (fY t st).2 W.heap.size w1))\/∃y,e=ε (bx y)/\(y=(fY t st).1/\gG s aqz (fY t st).2 W.heap.size w1)):=by
 unfold Aa at h;unfold fY;cases ht:cU t with
 |false=>
  rw[ht]at h;obtain⟨G,A⟩:=h;exact⟨aj.aq A,.inr ⟨1,G,rfl,aqz,E,x.on A,λk Y=>.inl Y⟩⟩
 |true=>
  rw[ht]at h;obtain⟨G,M',A,M,h4⟩:=h;refine⟨M,?_⟩;cases hm:mF st.ds st.h t with
  |true=>rw[hm]at G;exact .inl ⟨⟨_,G⟩,rfl,M',E,A,h4⟩
  |false=>rw[hm]at G;exact .inr ⟨5,G,rfl,M',E,A,h4⟩
theorem Xj (x:cg w s aqz E st.ns st.ds st.h)(c:ByteArray)(t:List UInt8)(hm:ML w)(hc:c.size<=maxLen):
 φ prog 17 #[ζ (some ⟨s,0,none⟩),θ c,θ ⟨t.toArray⟩] w λe I=>e=δ (V Z (fX c t st).1)/\gG s aqz (fX c t st).2 w.heap.size I/\aj aqz w I:=by
 have sI:∀(fn:Fn) (first cap:Array Value) (w:μ),(υ fn first cap).run prog w=.ok (.func fn first cap) w:=λ_ _ _ _=>rfl;obtain⟨W0,eR⟩:∃W0,W0=((w.alloc (ι #[ζ (some ⟨s,0,none⟩)] 25)).alloc (ι #[θ c] 9)).alloc (ι #[θ ⟨t.toArray⟩] 9):=⟨_,rfl⟩;have bj:Below w.heap.size w W0:=by rw[eR];exact gJ w _ _ _
 have r0:X W0 w.heap.size [ζ (some ⟨s,0,none⟩)] 25:=by rw[eR];exact kx w _ _ _ _
 have r1:X W0 (w.heap.size+1) [θ c] 9:=by rw[eR];exact ky w _ _ _ _
 have r2:X W0 (w.heap.size+1+1) [θ ⟨t.toArray⟩] 9:=by rw[eR];exact kz w _ _ _ _
 have eg:∀args w,(callFunc 34 args).run prog w=.ok (.enter 34 args) w:=enters_of func34 (by kernel_rfl) rfl;have uC:∀k,aqz k->k<w.heap.size:=λk Y=>x.lt (.inl Y);have C1:Hid (∀W,Below W0.heap.size W0 W->φ prog 34 #[ζ (some ⟨w.heap.size,0,none⟩),ζ (some ⟨w.heap.size+1,0,none⟩),ζ (some ⟨w.heap.size+1+1,0,none⟩)] W λE w1=>aj aqz W w1/\(((∃v,E=δ v)/\(0=(fX c t st).1/\gG s aqz (fX c t st).2 W.heap.size w1))\/∃y,E=ε (bx y)/\(y=(fX c t st).1/\gG s aqz (fX c t st).2 W.heap.size w1))):=H λW U=>by
  have bR:Below w.heap.size w W:=bj.trans (U.mono bj.size);have xW:=x.on bR;have C:=H ((Q6 xW c t (hm.on bR) hc).mono λe w1 h=>tg.sv xW h);have k0:=(r0.on U).cell (k:=0) rfl;have k1:=(r1.on U).cell (k:=0) rfl;have k2:=(r2.on U).cell (k:=0) rfl;clear xW bR U r0 r1 r2 bj eR x hm;go_enter func34,ntmps34;go_wp2_with fail;refine(C.out).mono ?_;rintro e w1 ⟨G,⟨⟨v,rfl⟩,A⟩|⟨y,rfl,A⟩⟩
  ·replace G:=H G;replace A:=H A;clear C k0 k1 k2;go_wp2_with fail;go_end0;exact⟨G.out,.inl ⟨⟨_,rfl⟩,A.out⟩⟩
  exact⟨rfl,G,.inr ⟨y,rfl,A⟩⟩
 have CO:=H (vU 34 eg #[ζ (some ⟨w.heap.size,0,none⟩),ζ (some ⟨w.heap.size+1,0,none⟩),ζ (some ⟨w.heap.size+1+1,0,none⟩)] aqz (λW y w1=>y=(fX c t st).1/\gG s aqz (fX c t st).2 W.heap.size w1) W0 (λk Y=>κ (uC k Y) bj.size) C1.out
  (λW y w1 w2 p _ p1 p2 p3 ⟨G,A⟩ p4=>⟨G,A.J7 (λk Y=>κ (uC k Y) bj.size) p1 p2 p3 p4⟩) (λW y w1 w2 ⟨G,A⟩ U=>⟨G,A.on U⟩))
 replace bj:=H bj;have xV:=H eR;clear C1 x hm r0 r1 r2 eR uC;go_enter func17,ntmps17;go_upto_region 1 with fail;rw[<-xV.out];go_wp2_with (go_at_call 22;refine(CO.out).mono ?_;rintro e w4 ⟨W,y,rfl,bR,⟨hy,h4⟩,bH⟩);go_ret;subst hy;exact⟨rfl,h4.low (ο bj.out.size bR.size),(aj.aq bj.out).aK bH⟩
theorem IG (x:cg w s aqz E st.ns st.ds st.h)(c u:ByteArray)(hc:c.size<=maxLen)(hu:u.size<=maxLen):
 φ prog 18 #[ζ (some ⟨s,0,none⟩),θ c,θ u] w λe I=>e=δ (V Z (fH c u st).1)/\gG s aqz (fH c u st).2 w.heap.size I/\aj aqz w I:=by
 have sI:∀(fn:Fn) (first cap:Array Value) (w:μ),(υ fn first cap).run prog w=.ok (.func fn first cap) w:=λ_ _ _ _=>rfl;obtain⟨W0,eR⟩:∃W0,W0=((w.alloc (ι #[ζ (some ⟨s,0,none⟩)] 25)).alloc (ι #[θ c] 9)).alloc (ι #[θ u] 9):=⟨_,rfl⟩;have bj:Below w.heap.size w W0:=by rw[eR];exact gJ w _ _ _
 have r0:X W0 w.heap.size [ζ (some ⟨s,0,none⟩)] 25:=by rw[eR];exact kx w _ _ _ _
 have r1:X W0 (w.heap.size+1) [θ c] 9:=by rw[eR];exact ky w _ _ _ _
 have r2:X W0 (w.heap.size+1+1) [θ u] 9:=by rw[eR];exact kz w _ _ _ _
 have eg:∀args w,(callFunc 36 args).run prog w=.ok (.enter 36 args) w:=enters_of func36 (by kernel_rfl) rfl;have uC:∀k,aqz k->k<w.heap.size:=λk Y=>x.lt (.inl Y);have C1:Hid (∀W,Below W0.heap.size W0 W->φ prog 36 #[ζ (some ⟨w.heap.size,0,none⟩),ζ (some ⟨w.heap.size+1,0,none⟩),ζ (some ⟨w.heap.size+1+1,0,none⟩)] W λE w1=>aj aqz W w1/\(((∃v,E=δ v)/\(0=(fH c u st).1/\gG s aqz (fH c u st).2 W.heap.size w1))\/∃y,E=ε (bx y)/\(y=(fH c u st).1/\gG s aqz (fH c u st).2 W.heap.size w1))):=H λW U=>by
  have bR:Below w.heap.size w W:=bj.trans (U.mono bj.size);have xW:=x.on bR;have C:=H ((NG xW c u hc hu).mono λe w1 h=>wW.sv xW h);have k0:=(r0.on U).cell (k:=0) rfl;have k1:=(r1.on U).cell (k:=0) rfl;have k2:=(r2.on U).cell (k:=0) rfl;clear xW bR U r0 r1 r2 bj eR x;go_enter func36,ntmps36;go_wp2_with fail;refine(C.out).mono ?_;rintro e w1 ⟨G,⟨⟨v,rfl⟩,A⟩|⟨y,rfl,A⟩⟩
  ·replace G:=H G;replace A:=H A;clear C k0 k1 k2;go_wp2_with fail;go_end0;exact⟨G.out,.inl ⟨⟨_,rfl⟩,A.out⟩⟩
  exact⟨rfl,G,.inr ⟨y,rfl,A⟩⟩
 have CO:=H (vU 36 eg #[ζ (some ⟨w.heap.size,0,none⟩),ζ (some ⟨w.heap.size+1,0,none⟩),ζ (some ⟨w.heap.size+1+1,0,none⟩)] aqz (λW y w1=>y=(fH c u st).1/\gG s aqz (fH c u st).2 W.heap.size w1) W0 (λk Y=>κ (uC k Y) bj.size) C1.out
  (λW y w1 w2 p _ p1 p2 p3 ⟨G,A⟩ p4=>⟨G,A.J7 (λk Y=>κ (uC k Y) bj.size) p1 p2 p3 p4⟩) (λW y w1 w2 ⟨G,A⟩ U=>⟨G,A.on U⟩))
 replace bj:=H bj;have xV:=H eR;clear C1 x r0 r1 r2 eR uC;go_enter func18,ntmps18;go_upto_region 1 with fail;rw[<-xV.out];go_wp2_with (go_at_call 22;refine(CO.out).mono ?_;rintro e w4 ⟨W,y,rfl,bR,⟨hy,h4⟩,bH⟩);go_ret;subst hy;exact⟨rfl,h4.low (ο bj.out.size bR.size),(aj.aq bj.out).aK bH⟩
theorem Xk (x:cg w s aqz E st.ns st.ds st.h)(t:Int)(ht:iX w):
 φ prog 8 #[ζ (some ⟨s,0,none⟩),V Z t] w λe I=>e=δ (V Z (fY t st).1)/\gG s aqz (fY t st).2 w.heap.size I/\aj aqz w I:=by
 have sI:∀(fn:Fn) (first cap:Array Value) (w:μ),(υ fn first cap).run prog w=.ok (.func fn first cap) w:=λ_ _ _ _=>rfl;obtain⟨W0,eR⟩:∃W0,W0=(w.alloc (ι #[ζ (some ⟨s,0,none⟩)] 25)).alloc (ι #[V Z t] 3):=⟨_,rfl⟩;have bj:Below w.heap.size w W0:=by rw[eR];exact mu w _ _
 have r0:X W0 w.heap.size [ζ (some ⟨s,0,none⟩)] 25:=by rw[eR];exact kC w _ _ _
 have r1:X W0 (w.heap.size+1) [V Z t] 3:=by rw[eR];exact kD w _ _ _
 have eg:∀args w,(callFunc 23 args).run prog w=.ok (.enter 23 args) w:=enters_of func23 (by kernel_rfl) rfl;have uC:∀k,aqz k->k<w.heap.size:=λk Y=>x.lt (.inl Y);have C1:Hid (∀W,Below W0.heap.size W0 W->φ prog 23 #[ζ (some ⟨w.heap.size,0,none⟩),ζ (some ⟨w.heap.size+1,0,none⟩)] W λE w1=>aj aqz W w1/\(((∃v,E=δ v)/\(0=(fY t st).1/\gG s aqz (fY t st).2 W.heap.size w1))\/∃y,E=ε (bx y)/\(y=(fY t st).1/\gG s aqz (fY t st).2 W.heap.size w1))):=H λW U=>by
  have bR:Below w.heap.size w W:=bj.trans (U.mono bj.size);have xW:=x.on bR;have C:=H ((NF xW t (ht.on bR)).mono λe w1 h=>Aa.sv xW h);have k0:=(r0.on U).cell (k:=0) rfl;have k1:=(r1.on U).cell (k:=0) rfl;clear xW bR U r0 r1 bj eR x ht;go_enter func23,ntmps23;go_wp2_with fail;refine(C.out).mono ?_;rintro e w1 ⟨G,⟨⟨v,rfl⟩,A⟩|⟨y,rfl,A⟩⟩
  ·replace G:=H G;replace A:=H A;clear C k0 k1;go_wp2_with fail;go_end0;exact⟨G.out,.inl ⟨⟨_,rfl⟩,A.out⟩⟩
  exact⟨rfl,G,.inr ⟨y,rfl,A⟩⟩
 have CO:=H (vU 23 eg #[ζ (some ⟨w.heap.size,0,none⟩),ζ (some ⟨w.heap.size+1,0,none⟩)] aqz (λW y w1=>y=(fY t st).1/\gG s aqz (fY t st).2 W.heap.size w1) W0 (λk Y=>κ (uC k Y) bj.size) C1.out
  (λW y w1 w2 p _ p1 p2 p3 ⟨G,A⟩ p4=>⟨G,A.J7 (λk Y=>κ (uC k Y) bj.size) p1 p2 p3 p4⟩) (λW y w1 w2 ⟨G,A⟩ U=>⟨G,A.on U⟩))
 replace bj:=H bj;have xV:=H eR;clear C1 x ht r0 r1 eR uC;go_enter func8,ntmps8;go_upto_region 1 with fail;rw[<-xV.out];go_wp2_with (go_at_call 22;refine(CO.out).mono ?_;rintro e w4 ⟨W,y,rfl,bR,⟨hy,h4⟩,bH⟩);go_ret;subst hy;exact⟨rfl,h4.low (ο bj.out.size bR.size),(aj.aq bj.out).aK bH⟩
def ko (xs:List ByteArray)(f t:Int)(st:fl)(y:Int)(aqA:ByteArray):Prop:=y=(kG xs f t st).1/\if y=0 then vo xs st.ds f t aqA else aqA=⟨#[]⟩
theorem Xl {xs ns:List ByteArray}{y:Int}(h:pn xs ns=some y):y≠0:=by
 unfold pn at h;split at h
 ·cases h;decide
 split at h
 ·cases h;decide
 split at h
 ·cases h;decide
 cases h
theorem vT.sv {W w1:μ}{xs:List ByteArray}{f t:Int}{e:Κ}(x:cg W s aqz E st.ns st.ds st.h)(h:vT s aqz E st.ns st.ds st.h xs f t W e w1):aj aqz W w1/\((∃aqA,e=δ (θ aqA)/\(ko xs f t st 0 aqA/\gG s aqz (kG xs f t st).2 W.heap.size w1))\/∃y,e=ε (bx y)/\(ko xs f t st y ⟨#[]⟩/\gG s aqz (kG xs f t st).2 W.heap.size w1)):=by
 unfold vT at h;unfold ko kG;cases yW:uB f t with
 |false=>
  rw[yW]at h;obtain⟨G,A⟩:=h;exact⟨aj.aq A,.inr ⟨7,G,⟨rfl,by simp⟩,aqz,E,x.on A,λk Y=>.inl Y⟩⟩
 |true=>
  rw[yW]at h;simp only[if_true]at h⊢;cases dp:pn xs st.ns with
  |some y=>
   rw[dp]at h;obtain⟨G,A⟩:=h;exact⟨aj.aq A,.inr ⟨y,G,⟨rfl,by simp[Xl dp]⟩,aqz,E,x.on A,λk Y=>.inl Y⟩⟩
  |none=>
   rw[dp]at h;obtain⟨aqA,G,A,M',M,h4,h5⟩:=h;exact⟨h4,.inl ⟨aqA,G,⟨rfl,A⟩,M',E,M,h5⟩⟩
theorem TZ {w0:μ}(x:cg w s aqz E st.ns st.ds st.h)(nv:Value)(xs:List ByteArray)(f t:Int)(ht:iX w0)(h0:Below w0.heap.size w0 w)(hM:∀k,aqz k->w0.heap.size<=k)(hn:iJ w nv xs)(ib:xs.length<=9223372036854775807)(O7:∀k,nv.ownBlock=some k->¬aqz k):
 φ prog 20 #[ζ (some ⟨s,0,none⟩),nv,V Z f,V Z t] w λe I=>∃y aqA,e=δ (.tuple #[θ aqA,V Z y])/\ko xs f t st y aqA/\gG s aqz (kG xs f t st).2 w.heap.size I/\aj aqz w I:=by
 have sI:∀(fn:Fn) (first cap:Array Value) (w:μ),(υ fn first cap).run prog w=.ok (.func fn first cap) w:=λ_ _ _ _=>rfl;obtain⟨an,cn,lW⟩:=hn.sl;obtain⟨W0,eR⟩:∃W0,W0=(((w.alloc (ι #[ζ (some ⟨s,0,none⟩)] 25)).alloc (ι #[η an xs.length cn] 55)).alloc (ι #[V Z f] 3)).alloc (ι #[V Z t] 3):=⟨_,rfl⟩;have bj:Below w.heap.size w W0:=by rw[eR];exact Og w _ _ _ _
 have r0:X W0 w.heap.size [ζ (some ⟨s,0,none⟩)] 25:=by rw[eR];exact Sw w _ _ _ _ _
 have r1:X W0 (w.heap.size+1) [η an xs.length cn] 55:=by rw[eR];exact Sx w _ _ _ _ _
 have r2:X W0 (w.heap.size+1+1) [V Z f] 3:=by rw[eR];exact Sy w _ _ _ _ _
 have r3:X W0 (w.heap.size+1+1+1) [V Z t] 3:=by rw[eR];exact Sz w _ _ _ _ _
 have eg:∀args w,(callFunc 38 args).run prog w=.ok (.enter 38 args) w:=enters_of func38 (by kernel_rfl) rfl;have uC:∀k,aqz k->k<w.heap.size:=λk Y=>x.lt (.inl Y);have C1:Hid (∀W,Below W0.heap.size W0 W->φ prog 38 #[ζ (some ⟨w.heap.size,0,none⟩),ζ (some ⟨w.heap.size+1,0,none⟩),ζ (some ⟨w.heap.size+1+1,0,none⟩),ζ (some ⟨w.heap.size+1+1+1,0,none⟩)] W λE w1=>aj aqz W w1/\((∃aqA,E=δ (θ aqA)/\(ko xs f t st 0 aqA/\gG s aqz (kG xs f t st).2 W.heap.size w1))\/∃y,E=ε (bx y)/\(ko xs f t st y ⟨#[]⟩/\gG s aqz (kG xs f t st).2 W.heap.size w1))):=H λW U=>by
  have bR:Below w.heap.size w W:=bj.trans (U.mono bj.size);have xW:=x.on bR;have C:=H ((Xi xW nv xs f t ht (h0.trans (bR.mono h0.size)) hM (hn.keep λj hj=>bR.block j (hn.lt hj)) ib O7).mono λe w1 h=>vT.sv xW h);have k0:=(r0.on U).cell (k:=0) rfl;have k1:=(r1.on U).cell (k:=0) rfl;have k2:=(r2.on U).cell (k:=0) rfl;have k3:=(r3.on U).cell (k:=0) rfl;rw[lW]at C;clear xW bR U r0 r1 r2 r3 bj eR x ht hn lW O7;go_enter func38,ntmps38;go_wp2_with fail;refine(C.out).mono ?_;rintro e w1 ⟨G,⟨aqA,rfl,A⟩|⟨y,rfl,A⟩⟩
  ·replace G:=H G;replace A:=H A;clear C k0 k1 k2 k3;go_wp2_with fail;go_ret;exact⟨G.out,.inl ⟨aqA,rfl,A.out⟩⟩
  exact⟨rfl,G,.inr ⟨y,rfl,A⟩⟩
 have CO:=H (ad4 38 eg #[ζ (some ⟨w.heap.size,0,none⟩),ζ (some ⟨w.heap.size+1,0,none⟩),ζ (some ⟨w.heap.size+1+1,0,none⟩),ζ (some ⟨w.heap.size+1+1+1,0,none⟩)] aqz (λW y aqA w1=>ko xs f t st y aqA/\gG s aqz (kG xs f t st).2 W.heap.size w1) W0 (λk Y=>κ (uC k Y) bj.size) C1.out
  (λW y aqA w1 w2 p _ p1 p2 p3 ⟨G,A⟩ p4=>⟨G,A.J7 (λk Y=>κ (uC k Y) bj.size) p1 p2 p3 p4⟩))
 replace bj:=H bj;have xV:=H eR;clear C1 x ht r0 r1 r2 r3 eR uC hn O7;rw[lW];clear lW;go_enter func20,ntmps20;go_upto_region 1 with fail;rw[<-xV.out];go_wp2_with (go_at_call 28;refine(CO.out).mono ?_;rintro e w4 ⟨W,y,aqA,rfl,bR,⟨hy,h4⟩,bH⟩;replace hy:=H hy);go_ret2;exact⟨y,aqA,rfl,hy.out,h4.low (ο bj.out.size bR.size),(aj.aq bj.out).aK bH⟩
end
end
def cN (i:Nat):ByteArray:=bJ (99::dU i)
def eN (i:Nat):ByteArray:=bJ (101::dU i)
theorem LQ (a:UInt8)(l:List UInt8):(⟨#[a]⟩:ByteArray)++⟨l.toArray⟩=⟨(a::l).toArray⟩:=by
 apply ByteArray.ext;simp[ByteArray.data_append]
def fl.like (x y:fl):Prop:=x.ns=y.ns/\x.ds=y.ds
theorem IK {x y:fl}(h:x.like y)(c:ByteArray)(t:List UInt8):(fX c t x).1=(fX c t y).1/\(fX c t x).2.like (fX c t y).2:=by
 obtain⟨G,A⟩:=h;unfold fX;rw[G,A];split
 ·exact⟨rfl,G,A⟩
 exact⟨rfl,rfl,rfl⟩
theorem IL {x y:fl}(h:x.like y)(c u:ByteArray):(fH c u x).1=(fH c u y).1/\(fH c u x).2.like (fH c u y).2:=by
 obtain⟨G,A⟩:=h;unfold fH;rw[G,A];split
 ·exact⟨rfl,rfl,rfl⟩
 exact⟨rfl,G,A⟩
theorem IM {x y:fl}(h:x.like y)(xs:List ByteArray)(f t:Int):(kG xs f t x).1=(kG xs f t y).1/\(kG xs f t x).2.like (kG xs f t y).2:=by
 obtain⟨G,A⟩:=h;unfold kG;rw[G,A];split
 ·split
  ·exact⟨rfl,G,A⟩
  exact⟨rfl,rfl,rfl⟩
 exact⟨rfl,G,A⟩
theorem T0 (x:fl)(t:Int):(fY t x).2.like x:=by
 unfold fY;split
 ·exact⟨rfl,rfl⟩
 exact⟨rfl,rfl⟩
theorem Xm {x:fl}{t:Int}(h:(fY t x).1≠0):(fY t x).2=x:=by
 unfold fY at h⊢;split at h
 ·rename_i hi;rw[if_pos hi];simp only[qs]at h⊢;split at h
  ·exact absurd rfl h
  rename_i hm;rw[if_neg hm]
 rename_i hi;rw[if_neg hi]
theorem ko.one {x y:fl}(h:x.like y){xs:List ByteArray}{f t:Int}{a b:Int}{aqA S':ByteArray}(p:ko xs f t x a aqA)(q:ko xs f t y b S'):a=b/\aqA=S':=by
 obtain⟨p1,p2⟩:=p;obtain⟨q1,q2⟩:=q;have e:a=b:=by rw[p1,q1,(IM h xs f t).1]
 subst e;refine⟨rfl,?_⟩;by_cases h0:a=0
 ·rw[if_pos h0]at p2 q2;rw[h.2]at p2;exact p2.uniq q2
 rw[if_neg h0]at p2 q2;rw[p2,q2]
def C5 (k a b:Int)(t:List UInt8)(x:fl)(aqA:ByteArray)(y:fl):Prop:=
 if dw k 4=0\/dw k 4=1 then aqA=bJ (dU (fX (cN (dw a 3).toNat) t x).1)/\y=(fX (cN (dw a 3).toNat) t x).2
 else if dw k 4=2 then aqA=bJ (dU (fH (cN (dw a 3).toNat) (bJ (101::dU (dw b 4))) x).1)/\y=(fH (cN (dw a 3).toNat) (bJ (101::dU (dw b 4))) x).2
 else ∃(e:Int) (T:ByteArray),ko [cN (dw a 3).toNat] (315532800+dw b 3155760000) (315532800+dw b 3155760000+1+dw a 34560000) x e T/\aqA=bJ (dU e)++T/\
  y=(kG [cN (dw a 3).toNat] (315532800+dw b 3155760000) (315532800+dw b 3155760000+1+dw a 34560000) x).2
theorem C5.one {k a b:Int}{t:List UInt8}{x x' y y':fl}{aqA S':ByteArray}(h:x.like x')(p:C5 k a b t x aqA y)(q:C5 k a b t x' S' y'):aqA=S'/\y.like y':=by
 unfold C5 at p q;split at p
 ·rename_i G;rw[if_pos G]at q;obtain⟨rfl,rfl⟩:=p;obtain⟨rfl,rfl⟩:=q;exact⟨by rw[(IK h _ _).1],(IK h _ _).2⟩
 rename_i G;rw[if_neg G]at q;split at p
 ·rename_i A;rw[if_pos A]at q;obtain⟨rfl,rfl⟩:=p;obtain⟨rfl,rfl⟩:=q;exact⟨by rw[(IL h _ _).1],(IL h _ _).2⟩
 rename_i A;rw[if_neg A]at q;obtain⟨e,T,p1,rfl,rfl⟩:=p;obtain⟨e',T',q1,rfl,rfl⟩:=q;obtain⟨rfl,rfl⟩:=p1.one h q1;exact⟨rfl,(IM h _ _ _).2⟩
def oL:List UInt8:=[70,82,69,81,61,68,65,73,76,89,59,67,79,85,78,84,61,50]
theorem abx:vV (vW [120] 951868800 60 oL) 951868800 951868801=.ok [(951868800,951868860)]:=by
 kernel_rfl
theorem Xn:wy ⟨#[50,48,48,48,48,51,48,49,84,48,48,48,48,48,48,90]⟩=.tuple #[V Z 951868800,V Z 0]:=by kernel_rfl
theorem Xo:kr 951868800=.tuple #[θ ⟨#[50,48,48,48,48,51,48,49,84,48,48,48,48,48,48,90]⟩,V Z 0]:=by kernel_rfl
theorem Rf {w:μ}{B s:Nat}{e:TypeId}{v:Value}{n:Nat}{xs:List Value}(h:w.ownsRow B e s v n xs):
 (v=η none 0 0/\n=0)\/∃g cap,v=η (some ⟨g,0,none⟩) n cap/\B<=g/\g<w.heap.size/\∀j y,xs[j]?=some y->w.cell? ⟨g,j,none⟩=some y:=by
 obtain⟨K,h|⟨g,cap,cur,hv,U,hh,Hq,Bv,bA,ht⟩⟩:=h
 ·exact .inl h
 refine .inr ⟨g,cap,hv,U,?_,λj y hj=>?_⟩
 ·exact(Array.getElem?_eq_some_iff.1 hh).1
 rw[<-ht]at hj;have A:=List.getElem?_eq_some_iff.1 hj;obtain⟨aR,he⟩:=A;rw[List.length_take]at aR;rw[List.getElem_take]at he;unfold World.cell?;rw[hh];simp only[Option.isSome_none,Bool.false_eq_true,if_false];rw[Array.getElem?_eq_getElem (by have:=κ aR (Nat.min_le_right _ _);rw[Array.length_toList]at this;simpa using this)];rw[<-he];rfl
theorem aby (w:μ)(hm:ML w)(ht:iX w):
 φ prog 4 #[] w λe I=>e=δ (.bool true)/\Below w.heap.size w I:=by
 have C1:=H (zt ⟨#[50,48,48,48,48,51,48,49,84,48,48,48,48,48,48,90]⟩ w);rw[Xn]at C1;have C2:Hid (∀W,Below w.heap.size w W->φ prog 10 #[V Z 951868800] W λE I=>E=δ (kr 951868800)/\Below W.heap.size W I):=H λW U=>ry _ W (ht.on U);rw[Xo]at C2;have C3:Hid (∀W,Below w.heap.size w W->φ prog 12 #[θ ⟨#[120]⟩,V Z 951868800,V Z 60,θ ⟨oL.toArray⟩] W λE I=>E=δ (θ ⟨(vW [120] 951868800 60 oL).toArray⟩)/\Below W.heap.size W I):=H λW U=>abz [120] 951868800 60 oL W (ht.on U) (by decide) (by decide) (by omega) (by omega) (by omega) (by omega);have C4:Hid (∀W,Below w.heap.size w W->φ prog 11 #[θ ⟨(vW [120] 951868800 60 oL).toArray⟩,V Z 951868800,V Z 951868801] W λE I=>(∃v,E=δ (.tuple #[v,V Z 0])/\I.ownsRow W.heap.size 43 2 v 1 [V Z 951868800,V Z 951868860])/\Below W.heap.size W I):=H λW U=>
  (T3 (vW [120] 951868800 60 oL) 951868800 951868801 W (hm.on U) (ht.on U) (of_decide_eq_true (by kernel_rfl))).mono λE I h=>by
   unfold Bb at h;rw[abx]at h;exact h
 generalize vW [120] 951868800 60 oL=T at *
 unfold oL at C3;clear hm ht;go_enter func4,ntmps4;go_wp2_with fail;refine(C1.out).mono ?_;rintro e w1 ⟨rfl,ay⟩;go_wp2_with fail;refine(C2.out _ ay).mono ?_;rintro e w2 ⟨rfl,aN⟩;replace aN:=ay.trans (aN.mono ay.size);go_wp2_with fail;refine(C3.out _ aN).mono ?_;rintro e w3 ⟨rfl,aP⟩;replace aP:=aN.trans (aP.mono aN.size);go_wp2_with fail;refine(C4.out _ aP).mono ?_;rintro e w4 ⟨⟨v,rfl,aX⟩,cq⟩;replace cq:=aP.trans (cq.mono aP.size);rcases Rf aX with⟨_,h⟩|⟨g,cap,rfl,hg0,hg1,iS⟩
 case inl=>cases h
 have c0:=iS 0 _ rfl;have c1:=iS 1 _ rfl;clear iS C1 C2 C3 C4 aX;go_wp2_with fail;go_ret;exact⟨rfl,cq⟩
theorem T4 {s:List UInt8}{x:Int}(h:iA s=.error x):x=1\/x=2\/x=3:=by
 unfold iA at h
 repeat' split at h
 all_goals first|(cases h;simp)|cases h
theorem Rg {w:μ}{B g:Nat}{aqw:ByteArray}(h:X w g [θ aqw] 9)(hB:B<=g):w.ownsRow B 9 1 (η (some ⟨g,0,none⟩) 1 1) 1 (fk [aqw]):=
 ⟨rfl,.inr ⟨g,1,#[θ aqw],rfl,hB,h,ξ _,by decide,rfl,rfl⟩⟩
theorem LR {w:μ}{B:Nat}{v:Value}{xs:List ByteArray}(h:w.ownsRow B 9 1 v xs.length (fk xs)):iJ w v xs:=by
 refine⟨?_,λb U=>(h.lt b U).2⟩;rcases xD h with⟨e,e0⟩|⟨g,cap,e,_,_,hc⟩
 ·exact .inl ⟨none,0,e,List.eq_nil_of_length_eq_zero e0⟩
 refine .inr ⟨g,0,cap,e,OD h e,λj hj=>?_⟩;rw[Nat.zero_add];refine hc j _ ?_;unfold fk;rw[List.getElem?_map,Λ hj,List.getD_eq_getElem?_getD,Λ hj];rfl
theorem abA (c:ByteArray)(t:List UInt8)(st:fl):0<=(fX c t st).1/\(fX c t st).1<=9:=by
 unfold fX CE;split
 ·rename_i y h;show 0<=y/\y<=9;split at h
  ·split at h
   ·rename_i h';cases h;have:=T4 h';omega
   split at h
   ·cases h;omega
   cases h
  cases h;omega
 simp
theorem abB (c u:ByteArray)(st:fl):0<=(fH c u st).1/\(fH c u st).1<=9:=by
 unfold fH;split<;>simp
theorem abC (xs:List ByteArray)(f t:Int)(st:fl):0<=(kG xs f t st).1/\(kG xs f t st).1<=9:=by
 unfold kG;split
 ·split
  ·rename_i y h;show 0<=y/\y<=9;unfold pn at h;split at h
   ·cases h;omega
   split at h
   ·cases h;omega
   split at h
   ·cases h;omega
   cases h
  simp
 simp
theorem nt.len {aqy:Int->Int}{t:Int}:∀{p:Int} {L:List (Int×Int×Int)},p<=t->nt aqy t p L->(L.length:Int)<=t-p
 |p,[],h,_=>by simp;omega
 |p,(b,e,k)::L,h,r=>by
  obtain⟨G,A,M,_,_,_,_,h8⟩:=r;have:=nt.len M h8;simp;omega
theorem abD (f t:Int)(R:List (Int×Int×Int)):(rQ f t R).size<=102*(R.length+4):=by
 have h:=zO ((oE f t R++[uq]).map ByteArray.toList) λl K=>by
  obtain⟨aqw,hX,rfl⟩:=List.mem_map.1 K;rw[ByteArray.toList_eq,Array.length_toList];exact Il f t R aqw hX
 have A:(rQ f t R).size=(kE ((oE f t R++[uq]).map ByteArray.toList)).length:=by
  show(kE ((oE f t R++[uq]).map ByteArray.toList)).toArray.size=_;simp
 have M:((oE f t R++[uq]).map ByteArray.toList).length=R.length+4:=by unfold oE;simp
 rw[M]at h;omega
theorem ko.small {xs:List ByteArray}{f t:Int}{st:fl}{y:Int}{aqA:ByteArray}(h:ko xs f t st y aqA)(G:f<=t)(A:t-f<=40000000):aqA.size<=10000000000:=by
 obtain⟨_,h⟩:=h;split at h
 ·obtain⟨R,r1,rfl⟩:=h;have:=r1.len G;have:=abD f t R;omega
 subst h;decide
def C6 (aqy aqt B T L:Int)(t:List UInt8)(x:fl)(aqA:ByteArray)(y:fl):Prop:=
 if aqy=0\/aqy=1 then aqA=bJ (dU (fX (cN aqt.toNat) t x).1)/\y=(fX (cN aqt.toNat) t x).2
 else if aqy=2 then aqA=bJ (dU (fH (cN aqt.toNat) (bJ (101::dU B)) x).1)/\y=(fH (cN aqt.toNat) (bJ (101::dU B)) x).2
 else ∃(e:Int) (ad:ByteArray),ko [cN aqt.toNat] (315532800+T) (315532800+T+1+L) x e ad/\aqA=bJ (dU e)++ad/\y=(kG [cN aqt.toNat] (315532800+T) (315532800+T+1+L) x).2
theorem Xp {n:Int}(h:0<=n/\n<=9):(dU n).length<=7:=(abE n h.1 (by omega)).2.2.2
theorem Rh (l:List UInt8):(⟨l.toArray⟩:ByteArray).size=l.length:=by show l.toArray.size=_;simp
theorem agv {w0 w:μ}{s:Nat}{aqz E:ak}{st:fl}(x:cg w s aqz E st.ns st.ds st.h)(k a b:Int)(t:List UInt8)(Y:-9223372036854775808<=k/\k<=9223372036854775807)(ha:-9223372036854775808<=a/\a<=9223372036854775807)(U:-9223372036854775808<=b/\b<=9223372036854775807)
 (hm:ML w)(ht:iX w0)(h0:Below w0.heap.size w0 w)(hM:∀k,aqz k->w0.heap.size<=k):
 φ prog 6 #[ζ (some ⟨s,0,none⟩),.agg #[V Z k,V Z a,V Z b,θ ⟨t.toArray⟩]] w λe I=>∃aqA y,e=δ (θ aqA)/\C5 k a b t st aqA y/\gG s aqz y w.heap.size I/\aj aqz w I:=by
 rw[show C5 k a b t=C6 (dw k 4) (dw a 3) (dw b 4) (dw b 3155760000) (dw a 34560000) t from rfl];have P1:=H λW=>Aj a 3 W ha.1 ha.2 (by omega) (by omega);have P2:=H λW=>Aj k 4 W Y.1 Y.2 (by omega) (by omega);have P3:=H λW=>Aj b 4 W U.1 U.2 (by omega) (by omega);have P4:=H λW=>Aj a 34560000 W ha.1 ha.2 (by omega) (by omega);have P5:=H λW=>Xq b W U.1 U.2;have b1:=tA a 3 (by omega);have b2:=tA k 4 (by omega);have b3:=tA b 4 (by omega);have b4:=tA a 34560000 (by omega);have b5:=tA b 3155760000 (by omega);obtain⟨W,hW⟩:∃W,W=w.alloc (ι #[V Z k,V Z a,V Z b,θ ⟨t.toArray⟩] 29):=⟨_,rfl⟩;have bR:Below w.heap.size w W:=by rw[hW];exact(ν _ _).alloc (ξ _) _
 have hr:X W w.heap.size [V Z k,V Z a,V Z b,θ ⟨t.toArray⟩] 29:=by rw[hW];exact X.new w _ _
 have BV:=H hW;clear Y ha U hW;generalize dw k 4=aqy at *
 generalize dw a 3=aqt at *
 generalize dw b 4=B at *
 generalize dw b 3155760000=T at *
 generalize dw a 34560000=L at *
 have D1:=H λ(W:μ)=>qu aqt W b1.1 (by omega) (by omega);have D3:=H λ(W:μ)=>qu B W b3.1 (by omega) (by omega);have z1:=Xp (n:=aqt) (by omega);have z3:=Xp (n:=B) (by omega);have y1:=Rh (dU aqt);have y3:=Rh (dU B);have hC:Hid ((⟨#[99]⟩:ByteArray)++⟨(dU aqt).toArray⟩=cN aqt.toNat):=H (by rw[LQ];unfold cN bJ;rw[Int.toNat_of_nonneg b1.1]);have hU:Hid ((⟨#[101]⟩:ByteArray)++⟨(dU B).toArray⟩=bJ (101::dU B)):=H (by rw[LQ];rfl);have zc:(cN aqt.toNat).size<=8:=by
  rw[<-hC.out,Ι,y1];have:(⟨#[99]⟩:ByteArray).size=1:=rfl;omega
 have zu:(bJ (101::dU B)).size<=8:=by
  rw[<-hU.out,Ι,y3];have:(⟨#[101]⟩:ByteArray).size=1:=rfl;omega
 have jv:=H hr;have k1:=hr.cell (k:=1) rfl;have ad7:=H bR;have HX:=H x;have HM:=H hm;have HT:=H ht;have H0:=H h0;have HMM:=H hM;clear hr x hm ht h0 hM bR;go_enter func6,ntmps6;go_upto_region 1 with fail;rw[<-BV.out];clear BV;go_upto_region 2 with(first
  |(go_at_call 16;refine(P1.out _).mono ?_;rintro e I ⟨rfl,rfl⟩)
  |(go_at_call 15;refine(D1.out _).mono ?_;rintro e W2 ⟨rfl,aN⟩))
 rw[hC.out];have lO:Below w.heap.size w W2:=ad7.out.trans (aN.mono ad7.out.size);have r2:=jv.out.on aN;have j0:=r2.cell (k:=0) rfl;have bN:=H (HX.out.on lO);have tH:=H r2;clear k1 jv aN P1 D1 HX hC r2;generalize BU:cN aqt.toNat=c at *
 replace BU:=H BU;go_upto_region 3 with(go_at_call 16;refine(P2.out _).mono ?_;rintro e I ⟨rfl,rfl⟩);clear j0 P2;have hK:aqy=0\/aqy=1\/aqy=2\/aqy=3:=by omega
 by_cases LU:aqy=0\/aqy=1
 ·have C:=H (Xj bN.out c t (HM.out.on lO) (by unfold maxLen;omega));have bd:=abA c t st;have D:=H λ(W:μ)=>qu (fX c t st).1 W bd.1 (by omega) (by omega);have hQ:Hid (∀aqA y,C6 aqy aqt B T L t st aqA y↔aqA=bJ (dU (fX c t st).1)/\y=(fX c t st).2):=H λaqA y=>by
   unfold C6;rw[if_pos LU,BU.out]
  have k3:=tH.out.cell (k:=3) rfl;clear hK BU;rcases LU with rfl|rfl
  all_goals
   generalize(fX c t st).1=n at *
   go_wp2_with (first
    |(go_at_call 17;refine(C.out).mono ?_;rintro e w4 ⟨rfl,nC,bH⟩;replace nC:=H nC;replace bH:=H bH)
    |(go_at_call 15;refine(D.out _).mono ?_;rintro e w5 ⟨rfl,bB⟩))
   go_ret;exact⟨_,_,rfl,(hQ.out _ _).2 ⟨rfl,rfl⟩,(nC.out.low lO.size).on bB,((aj.aq lO).aK bH.out).aK (aj.aq bB)⟩
 by_cases A:aqy=2
 ·subst A;have C:=H (IG bN.out c (bJ (101::dU B)) (by unfold maxLen;omega) (by unfold maxLen;omega));have bd:=abB c (bJ (101::dU B)) st;have D:=H λ(W:μ)=>qu (fH c (bJ (101::dU B)) st).1 W bd.1 (by omega) (by omega);have hQ:Hid (∀aqA y,C6 2 aqt B T L t st aqA y↔aqA=bJ (dU (fH c (bJ (101::dU B)) st).1)/\y=(fH c (bJ (101::dU B)) st).2):=H λaqA y=>by
   unfold C6;rw[if_neg LU,if_pos rfl,BU.out]
  have k2:=tH.out.cell (k:=2) rfl;have CU:Hid (∀W3,Below W2.heap.size W2 W3->φ prog 18 #[ζ (some ⟨s,0,none⟩),θ c,θ ((⟨#[101]⟩:ByteArray)++⟨(dU B).toArray⟩)] W3 λe I=>e=δ (V Z (fH c (bJ (101::dU B)) st).1)/\gG s aqz (fH c (bJ (101::dU B)) st).2 w.heap.size I/\aj aqz w I):=H λW3 M=>by
   rw[hU.out];refine(IG (bN.out.on M) c (bJ (101::dU B)) (by unfold maxLen;omega) (by unfold maxLen;omega)).mono ?_;rintro e I ⟨q1,q2,q3⟩;have ZZ:Below w.heap.size w W3:=lO.trans (M.mono lO.size);exact⟨q1,q2.low ZZ.size,(aj.aq ZZ).aK q3⟩
  clear hK BU C hU;generalize(fH c (bJ (101::dU B)) st).1=n at *
  go_upto_region 9 with(first
   |(go_at_call 16;refine(P3.out _).mono ?_;rintro e I ⟨rfl,rfl⟩)
   |(go_at_call 15;refine(D3.out _).mono ?_;rintro e w3 ⟨rfl,aP⟩)
   |(go_at_call 18;refine(CU.out _ aP).mono ?_;rintro e w4 ⟨rfl,nC,bH⟩;replace nC:=H nC;replace bH:=H bH))
  go_wp2_with (go_at_call 15;refine(D.out _).mono ?_;rintro e w5 ⟨rfl,bB⟩);go_ret;exact⟨_,_,rfl,(hQ.out _ _).2 ⟨rfl,rfl⟩,nC.out.on bB,bH.out.aK (aj.aq bB)⟩
 obtain rfl:aqy=3:=by omega
 have hQ:Hid (∀e ad,ko [c] (315532800+T) (315532800+T+1+L) st e ad->C6 3 aqt B T L t st (bJ (dU e)++ad) (kG [c] (315532800+T) (315532800+T+1+L) st).2):=H λe ad h=>by
  unfold C6;rw[if_neg LU,if_neg A,BU.out];exact⟨e,ad,h,rfl,rfl⟩
 have k2:=tH.out.cell (k:=2) rfl;obtain⟨W3,po⟩:∃W3,W3=W2.alloc (ι #[θ c] 9):=⟨_,rfl⟩;have aP:Below W2.heap.size W2 W3:=by rw[po];exact(ν _ _).alloc (ξ _) _
 have Ak:X W3 W2.heap.size [θ c] 9:=by rw[po];exact X.new W2 _ _
 have k1:(W2.alloc (ι #[θ c] 9)).cell? ⟨w.heap.size,1,none⟩=some (V Z a):=by rw[<-po];exact(tH.out.on aP).cell (k:=1) rfl
 have eM:Below w.heap.size w W3:=lO.trans (aP.mono lO.size);have CB:Hid (φ prog 20 #[ζ (some ⟨s,0,none⟩),η (some ⟨W2.heap.size,0,none⟩) 1 1,V Z (315532800+T),V Z (315532800+T+1+L)] (W2.alloc (ι #[θ c] 9)) λe I=>∃y aqA,e=δ (.tuple #[θ aqA,V Z y])/\ko [c] (315532800+T) (315532800+T+1+L) st y aqA/\gG s aqz (kG [c] (315532800+T) (315532800+T+1+L) st).2 w.heap.size I/\aj aqz w I):=H (by
  rw[<-po];have q1:=bN.out.on aP;refine(TZ (w0:=w0) q1 _ [c] (315532800+T) (315532800+T+1+L) HT.out (H0.out.trans (eM.mono H0.out.size)) HMM.out (LR (Rg Ak (ξ _))) (by simp) (λk Y hMk=>?_)).mono ?_
  ·have:k=W2.heap.size:=by simpa[Ζ]using Y.symm
   have:=bN.out.lt (.inl hMk);omega
  rintro e I ⟨y,aqA,q2,q3,q4,q5⟩;exact⟨y,aqA,q2,q3,q4.low eM.size,(aj.aq eM).aK q5⟩)
 clear hK BU hU Ak po aP tH bN HT HM H0 HMM LU A;go_upto_region 12 with(first
  |(go_at_call 19;refine(P5.out _).mono ?_;rintro e I ⟨rfl,rfl⟩)
  |(go_at_call 16;refine(P4.out _).mono ?_;rintro e I ⟨rfl,rfl⟩)
  |(go_at_call 20;refine(CB.out).mono ?_;rintro e w4 ⟨y,aqA,rfl,hF,nC,bH⟩;replace hF:=H hF;replace nC:=H nC;replace bH:=H bH))
 have bd:0<=y/\y<=9:=by rw[hF.out.1];exact abC _ _ _ _
 have zS:=hF.out.small (by omega) (by omega);have D:=H λ(W:μ)=>qu y W bd.1 (by omega) (by omega);have z9:=Xp bd;have y9:=Rh (dU y);clear CB k1 k2;go_wp2_with (go_at_call 15;refine(D.out _).mono ?_;rintro e w5 ⟨rfl,bB⟩);go_ret;exact⟨_,_,rfl,hQ.out _ _ hF.out,nC.out.on bB,bH.out.aK (aj.aq bB)⟩
end Go.Proofs.YtchdfdmjihnhkaaGreatDoor
