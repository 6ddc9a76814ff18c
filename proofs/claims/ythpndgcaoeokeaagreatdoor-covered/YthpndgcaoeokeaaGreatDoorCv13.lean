import Derived.Test.YthpndgcaoeokeaaGreatDoorCv12
set_option maxRecDepth 100000
set_option maxHeartbeats 8000000
open Go.IntKind renaming i64->Z
open Go.Value renaming int->V,pointer->ζ,slice->η,string->θ,int->Φ,ownBlock->ώ,string->ϙ
open Go.Ending renaming returned->δ,panicked->ε
open Go.Obj renaming cells->ι
open Nat renaming lt_of_lt_of_le->κ,le_trans->ξ,le_refl->π
open Go renaming World->μ,Calls->χ,Regrown->ό,Ending->ύ
open Go.RowKit.Below renaming refl->ν
open List renaming length_map->ο,not_mem_nil->τ,mem_cons->υ,length_range->φ,range->ψ,flatMap_cons->Γ,length_cons->Δ,length_filter_le->Ε,take_succ_cons->Ζ,drop_succ_cons->Η,any_cons->Θ,length_append->Ι,getElem?_map->Κ,range_succ->Λ,take_zero->Ξ,mem_range->Ο,getD_eq_getElem?_getD->Ρ,drop_zero->Τ,getElem?_eq_getElem->Χ,mem_map_of_mem->Ω,getElem?_range->ϊ,map_append->Ϗ,length_nil->ϗ,replicate->Ϙ
open Go.Lib renaming containsS->ρ
open Go.Instr renaming makeFunc->ω
open Option.some renaming inj->Α
open Go.Calls renaming regrown_of->Β
open Int renaming le_refl->Μ
open Bool renaming eq_iff_iff->Ν
open ByteArray renaming data_append->Υ,empty->Ψ,ext->ϋ
namespace Go.Proofs.YthpndgcaoeokeaaGreatDoor
open Tryz
open Go.RowKit Go.Sort
section
def tI (s:Nat)(atG:aj)(ns:List ByteArray)(ds:List aK)(h:Int)(c:ByteArray)(t:List UInt8)(w:μ):ύ->μ->Prop:=λe Y=>
 match AR c t ns ds with
 | .error x=>e=ε (bF x)/\Below w.heap.size w Y
 | .ok D=>(∃v,e=δ v)/\Sd s atG ns ds h D w Y
def AS (s:Nat)(atG:aj)(ns:List ByteArray)(ds:List aK)(h:Int)(D:aK)(w:μ):ύ->μ->Prop:=λe Y=>
 if jY D.kc D.ku ns ds then e=ε (bF 5)/\Below w.heap.size w Y else(∃v,e=δ v)/\Sd s atG ns ds h D w Y
def CV (W:μ)(s cp:Nat)(c u:ByteArray)(EV mU:List Value)(rep ok:Bool)(i:Nat)(v:Value)(w:μ):Prop:=match i with
 |6=>ok=true/\v=.tuple #[.agg mU.toArray,.bool rep]
 |7=>ok=true/\v=.tuple #[.agg mU.toArray,.bool rep]
 |8=>ok=true/\v=.agg mU.toArray
 |9=>ok=true/\v=.bool rep
 |10=>∃g cs,v=ζ (some ⟨g,0,none⟩)/\M w g cs 79/\cs.length=18/\W.heap.size<=g
 |11=>ok=true/\∃g,v=ζ (some ⟨g,0,none⟩)/\M w g mU 79/\W.heap.size<=g
 |12=>ok=true/\v=.bool rep
 |n=>v=[ζ (some ⟨s,0,none⟩),ζ (some ⟨s,0,none⟩),ζ (some ⟨s,0,none⟩),ζ (some ⟨cp,0,none⟩),.agg #[θ c,θ u],.agg EV.toArray].getD n undef
theorem CV.keep {W:μ}{s cp:Nat}{c u:ByteArray}{EV mU:List Value}{rep ok:Bool}{w Y:μ}(I:∀g,W.heap.size<=g->g<w.heap.size->Y.heap[g]?=w.heap[g]?)(i:Nat)(v:Value)(hn:CV W s cp c u EV mU rep ok i v w):CV W s cp c u EV mU rep ok i v Y:=by
 unfold CV at hn⊢;split at hn
 ·exact hn
 ·exact hn
 ·exact hn
 ·exact hn
 ·obtain⟨g,cs,G,A,K,h4⟩:=hn;exact⟨g,cs,G,A.keep (I g h4 A.lt),K,h4⟩
 ·obtain⟨h0,g,G,A,h4⟩:=hn;exact⟨h0,g,G,A.keep (I g h4 A.lt),h4⟩
 ·exact hn
 exact hn
def sSp (i:Nat):Nat:=[20,21,22,23,24,25,26,19,27,28,9,9,10].getD i 0
def vN (s k7 k8:Nat):List (Nat×Value):=[(0,ζ (some ⟨s,0,none⟩)),(7,ζ (some ⟨k7,0,none⟩)),(8,ζ (some ⟨k8,0,none⟩))]
def vO (W:μ)(cp b:Nat)(nv:Value)(CZ:List ByteArray)(dK:List KE)(d:Nat->Bool)(a:Act)(w:μ):Prop:=
 (d 6=false->Below W.heap.size W w)/\(d 6=true->∃jH,fl w cp b jH CZ dK/\ak (mm cp b nv) W w/\∀j,jH.ownBlock=some j->(nv.ownBlock=some j\/W.heap.size<=j)/\(d 10=true->a.eval (.tmp 9)≠ ζ (some ⟨j,0,none⟩)))
theorem vO.put {W:μ}{cp b:Nat}{nv:Value}{CZ:List ByteArray}{dK:List KE}{d:Nat->Bool}{a:Act}{w:μ}(h:vO W cp b nv CZ dK d a w){i k:Nat}(h6:i≠6)(P8:i≠10)(I:k≠9)(v:Value):vO W cp b nv CZ dK (uR d i) (a.put (some k) v) w:=by
 unfold vO;rw[jX (Ne.symm h6),jX (Ne.symm P8),cZ (Ne.symm I)];exact h
theorem vO.called {W:μ}{cp b:Nat}{nv jH:Value}{CZ:List ByteArray}{dK:List KE}{d:Nat->Bool}{a:Act}{w:μ}(G:fl w cp b jH CZ dK)(A:ak (mm cp b nv) W w)(K:∀j,jH.ownBlock=some j->(nv.ownBlock=some j\/W.heap.size<=j)/\(d 10=true->a.eval (.tmp 9)≠ ζ (some ⟨j,0,none⟩))){k:Nat}(I:k≠9)(v:Value):vO W cp b nv CZ dK (uR d 6) (a.put (some k) v) w:=by
 unfold vO;rw[yB,jX (by decide),cZ (Ne.symm I)];exact⟨λh=>(by cases h),λ_=>⟨jH,G,A,K⟩⟩
theorem vO.made {W:μ}{cp b:Nat}{nv:Value}{CZ:List ByteArray}{dK:List KE}{d:Nat->Bool}{a:Act}{w Y:μ}(h:vO W cp b nv CZ dK d a w)(U:Below w.heap.size w Y)(hs:9<a.tmps.size):vO W cp b nv CZ dK (uR d 10) (a.put (some 9) (ζ (some ⟨w.heap.size,0,none⟩))) Y:=by
 unfold vO;rw[yB,jX (by decide),gR hs];refine⟨λh6=>(h.1 h6).trans (U.mono (h.1 h6).size),λh6=>?_⟩;obtain⟨jH,G,A,K⟩:=h.2 h6;refine⟨jH,G.on U,A.aM (ak.ar U),λj hj=>⟨(K j hj).1,λ_ e=>?_⟩⟩;injection e with e
 injection e with e
 injection e with e
 have:=G.lt (k:=j) (.inr (.inr hj));omega
theorem vP (a:Act)(h:a.tmps.size=44)(hd:a.defers=[]):∃f:Nat->Value,a=⟨List.toArray (f 0::f 1::f 2::f 3::f 4::f 5::f 6::f 7::f 8::f 9::f 10::f 11::f 12::f 13::f 14::f 15::f 16::f 17::f 18::f 19::f 20::f 21::f 22::f 23::f 24::f 25::f 26::f 27::f 28::f 29::f 30::f 31::f 32::f 33::f 34::f 35::f 36::f 37::f 38::f 39::f 40::f 41::f 42::f 43::[]),[]⟩/\∀k,a.eval (.tmp k)=f k:=gO 44 a h hd
def NLd (s ip:Nat)(c u:ByteArray)(EV:List Value)(i:Nat)(v:Value)(_:μ):Prop:=v=[ζ (some ⟨s,0,none⟩),ζ (some ⟨s,0,none⟩),ζ (some ⟨s,1,none⟩),ζ (some ⟨ip,0,none⟩),.agg #[θ c,θ u],.agg EV.toArray].getD i undef
theorem He (o:Nat)(fix:List (Nat×Value))(n0:Nat)(s ip:Nat)(c u:ByteArray)(EV:List Value)(G:o+6<=n0)(A:∀p∈fix,p.1<o):rO (λi=>o+i) fix n0 6 (NLd s ip c u EV):=
 ⟨λi S=>by show o+i<n0;omega,λi j S hj h=>by have h':o+i=o+j:=h;omega,λq J i S=>by
  have:=A q J;show q.1≠o+i;omega,λ_ _ _ _ h _=>h⟩
def rR (s k7 k8 k9:Nat):List (Nat×Value):=[(0,ζ (some ⟨s,0,none⟩)),(7,ζ (some ⟨k7,0,none⟩)),(8,ζ (some ⟨k8,0,none⟩)),(9,ζ (some ⟨k9,0,none⟩))]
def mD (s k7 k8:Nat):List (Nat×Value):=[(0,ζ (some ⟨s,0,none⟩)),(7,ζ (some ⟨k7,0,none⟩)),(8,ζ (some ⟨k8,0,none⟩))]
theorem ada (c u:ByteArray):∀v∈[ϙ c,ϙ u],v.oneCell'=true:=by intro v hv;simp at hv;rcases hv with rfl|rfl<;>rfl
theorem Sf {w:μ}{s:Nat}{atG E:aj}{ns:List ByteArray}{ds:List aK}{h:Int}(x:cX w s atG E ns ds h)(c:ByteArray)(t:List UInt8)(hm:ML w)(hc:c.size<=maxLen)(hs:t.length<=1048576):
 χ prog 94 #[ζ (some ⟨s,0,none⟩),θ c,θ ⟨t.toArray⟩] w (tI s atG ns ds h c t w):=by
 have CN:=H (zA c 4 w hc);cases ji:fT c with
 |false=>
  rw[Fz ji]at CN;clear x hm;go_enter func94,ntmps94;go_wp2_with (go_at_call 75;refine(CN.out).mono ?_;rintro e w1 ⟨rfl,au⟩);exact⟨rfl,by unfold tI AR;rw[ji];exact⟨rfl,au⟩⟩
 |true=>
 rw[P9 ji]at CN;have CR:=H λ(W:μ) (U:Below w.heap.size w W)=>qU t W (hm.on U) hs;cases hr:iz t with
 |error y=>
  clear x hm;go_enter func94,ntmps94;go_wp2_with (first
   |(go_at_call 75;refine(CN.out).mono ?_;rintro e w1 ⟨rfl,au⟩)
   |(go_at_call 43;refine(CR.out _ au).mono ?_;rintro e w2 J;obtain⟨hE,aO⟩:e=ε (bF y)/\Below w1.heap.size w1 w2:=(by
    obtain⟨G,A⟩:=yD J;refine⟨?_,A⟩;rcases G with⟨z,K,h4⟩|⟨d,K,_⟩
    ·rw[hr]at K;cases K;exact h4
    rw[hr]at K;cases K);subst hE))
  exact⟨rfl,by unfold tI AR;rw[ji,hr];exact⟨rfl,au.trans (aO.mono au.size)⟩⟩
 |ok d=>
 have hu:(mT c d).ku.size<=maxLen:=by
  have G:=(Sg hr).u;show(bU (val d.f 0)).size<=maxLen;have:(bU (val d.f 0)).size=(val d.f 0).length:=by show(val d.f 0).toArray.size=_;simp
  rw[this];unfold maxLen;omega
 have HX:=H x;have hP9:tI s atG ns ds h c t w=AS s atG ns ds h (mT c d) w:=by
  funext e Y;unfold tI AR AS;rw[ji,hr];simp only[if_true];show _=if jY c (mT c d).ku ns ds=true then _ else _;cases jY c (mT c d).ku ns ds<;>rfl
 obtain⟨D,hD⟩:∃D,D=mT c d:=⟨_,rfl⟩;rw[hP9,<-hD];replace hD:=H hD;clear x hm hP9;go_enter func94,ntmps94;go_upto_region 1 with(go_at_call 75;refine(CN.out).mono ?_;rintro e w1 ⟨rfl,au⟩);have CR1:=H (CR.out w1 au);clear CR CN;go_upto_region 2 with(first
  |(go_at_call 43;refine(CR1.out).mono ?_;rintro e w2 J;obtain⟨EV,E2,hE,ib,hty,cI,h0,aO⟩:∃EV E2,e=δ (.agg (EV:List Value).toArray)/\iI w2 E2 ⟨(mT c d).kc,(mT c d).ku,EV⟩ (mT c d)/\(∀k,E2 k->tt w2 k)/\(mT c d).ok/\EV[0]?=some (θ (mT c d).ku)/\Below w1.heap.size w1 w2:=(by
   obtain⟨G,A⟩:=yD J;rcases G with⟨z,K,h4⟩|⟨d',K,h4⟩
   ·rw[hr]at K;cases K
   rw[hr]at K;cases K;obtain⟨EV,E2,q1,q2,q3,q4,q5⟩:=ac7 c hr h4;exact⟨EV,E2,q1,q2,q3,q4,q5,A⟩);subst hE;have AT:=ib.AO;replace ib:=H ib;clear J)
  |(refine ow rfl (jb rfl _ _) ?_;intro w3 C5 IP aR)
  |(refine ox rfl rfl rfl rfl C5 (by rw[AT.1];rfl) (by rw[AT.1];exact jk) AT.2 ?_;intro w4 he4 bO;have cu:=aR.trans (bO.below (by omega) (λk I=>by omega));have Ja:=bO.size))
 have q0:=he4.cell (k:=0) h0;have hE0:=H he4;clear C5 CR1;go_upto_region 3 with(first
  |(refine ow rfl (wG rfl _ _) ?_;intro w5 Qa ti bJ)
  |(refine ox (vs:=[θ c,θ (mT c d).ku]) rfl rfl rfl rfl Qa rfl G1 (ada _ _) ?_;intro W Qb jT;have cG:=bJ.trans (jT.below (by omega) (λk I=>by omega));have tj:=jT.size))
 have uV:Below w.heap.size w w2:=au.trans (aO.mono au.size);have Sh:Below w2.heap.size w2 W:=cu.trans (cG.mono (by omega));have bV:Below w.heap.size w W:=uV.trans (Sh.mono uV.size);have heW:M W w2.heap.size EV 79:=hE0.out.on cG;have DP:iI W E2 ⟨(mT c d).kc,(mT c d).ku,EV⟩ (mT c d):=ib.out.keep λj hj=>Sh.block j (hty j hj).lt;have nQ:∀k,E2 k->tt W k:=λk I=>(hty k I).keep (Sh.block k (hty k I).lt);obtain⟨cp,b,ip,nv,ps,T,x⟩:=HX.out;have xW:cQ W s atG E ns ds h cp b ip nv ps T:=x.keep λk I=>bV.block k (I.elim (x.lt k) (x.el k));have IV:∀k,mm cp b nv k->k<w.heap.size:=λk I=>x.lt k (x.mc k I);have hiw:∀k,k∈ip::T.ax->k<w.heap.size:=λk I=>x.lt k (x.mi k I);have Mm:=H x;have afI:=hE0.out.lt;have hzw:w.heap.size<=w2.heap.size:=uV.size;have ja:w4.heap.size<W.heap.size:=Qb.lt;have h74:w2.heap.size<w4.heap.size:=afI;replace heW:=H heW;replace Qb:=H Qb;replace DP:=H DP;replace nQ:=H nQ;replace bV:=H bV;replace xW:=H xW;replace cI:=H cI;clear HX hE0 ib hty q0 au aO aR cu bJ cG bO jT he4 Qa uV Sh IP Ja ti tj afI x;generalize w4.heap.size=k8 at *
 generalize w2.heap.size=k7 at *
 have hDc:c=D.kc:=by rw[hD.out];rfl
 rw[<-hD.out]at DP cI hu Qb h0;clear hD;subst hDc;have Si:=xW.out.full D.kc D.ku;have UQ:ps.length<=30:=xW.out.k30;have CP:=H λ(W':μ) (U:Below W.heap.size W W')=>RW cp b nv ns (ps.map (·.1)) D.kc D.ku EV W' (xW.out.dh.on U) hc hu AT.1 xW.out.AO xW.out.n8 (by rw[ο];exact UQ);obtain⟨mU,Mn⟩:∃mU,mU=iQ D.kc D.ku (ps.map (·.1)):=⟨_,rfl⟩;obtain⟨rep,Mo⟩:∃rep,rep=(dm D.kc D.ku (ps.map (·.1))).isSome:=⟨_,rfl⟩;obtain⟨Hf,Qc⟩:=LQ (c:=D.kc) (u:=D.ku) xW.out.AO;rw[<-Mn]at Hf Qc;have hcB:∀k,mm cp b nv k->k<W.heap.size:=λk I=>xW.out.dh.lt I;refine xv (GV sSp (CV W s cp D.kc D.ku EV mU rep (!jY D.kc D.ku ns ds))) (λdn a Y=>JX 44 (vN s k7 k8) (λ_=>True) a Y/\vO W cp b nv (wI D.kc ns) (oH ⟨D.kc,D.ku,EV⟩ (ps.map (·.1))) dn a Y) (by kernel_rfl) (by kernel_rfl) ?rops ?rdone ⟨⟨rfl,rfl,λq J=>by
  simp only[vN,υ,τ,or_false]at J;rcases J with rfl|rfl|rfl<;>rfl,trivial⟩,λ_=>(ν _ _).drew,λh=>by cases h⟩
 case rops=>
  intro i o ho dn a Y hdi iH dY ay hG bx;have S:i<13:=(Array.getElem?_eq_some_iff.1 ho).1;obtain⟨hJ,hC⟩:=ay;have s0:a.eval (.tmp 0)=ζ (some ⟨s,0,none⟩):=hJ.fixed (0,_) (by simp[vN]);have s7:a.eval (.tmp 7)=ζ (some ⟨k7,0,none⟩):=hJ.fixed (7,_) (by simp[vN]);have s8:a.eval (.tmp 8)=ζ (some ⟨k8,0,none⟩):=hJ.fixed (8,_) (by simp[vN]);have U:i<=6->Below W.heap.size W Y:=λh6=>hC.1 (by
   cases h:dn 6 with
   |false=>rfl
   |true=>have:=tH dY (by kernel_rfl) h i h6;rw[hdi]at this;cases this)
  have eQ:i=0\/i=1\/i=2\/i=3\/i=4\/i=5\/i=6\/i=7\/i=8\/i=9\/i=10\/i=11\/i=12:=by omega
  rcases eQ with rfl|rfl|rfl|rfl|rfl|rfl|rfl|rfl|rfl|rfl|rfl|rfl|rfl<;>obtain rfl:=Α ho
  ·exact⟨bR rfl,ai (cW rfl s0) (dA (bD hJ rfl) (hC.put (by decide) (by decide) (by decide) _))⟩
  ·have e1:a.eval (.tmp 20)=ζ (some ⟨s,0,none⟩):=aF hG 0;exact⟨bR rfl,ai (eJ rfl e1) (dA (bD hJ rfl) (hC.put (by decide) (by decide) (by decide) _))⟩
  ·have e1:a.eval (.tmp 21)=ζ (some ⟨s,0,none⟩):=aF hG 1;exact⟨bR rfl,ai (cR rfl e1 Hd) (dA (bD hJ rfl) (hC.put (by decide) (by decide) (by decide) _))⟩
  ·have e1:a.eval (.tmp 22)=ζ (some ⟨s,0,none⟩):=aF hG 2;exact⟨bR rfl,ai (aY rfl e1 (yC ((xW.out.row.on (U (by decide))).cell (k:=0) rfl))) (dA (bD hJ rfl) (hC.put (by decide) (by decide) (by decide) _))⟩
  ·exact⟨bR rfl,ai (aY rfl s8 (kZ (Qb.out.on (U (by decide))))) (dA (bD hJ rfl) (hC.put (by decide) (by decide) (by decide) _))⟩
  ·exact⟨bR rfl,ai (aY rfl s7 (jU (heW.out.on (U (by decide))) AT.1)) (dA (bD hJ rfl) (hC.put (by decide) (by decide) (by decide) _))⟩
  ·have e1:a.eval (.tmp 23)=ζ (some ⟨cp,0,none⟩):=aF hG 3;have e2:a.eval (.tmp 24)=.agg #[θ D.kc,θ D.ku]:=aF hG 4;have e3:a.eval (.tmp 25)=.agg EV.toArray:=aF hG 5;have vQ:=U (by decide);refine⟨bR rfl,cM (f:=161) (args:=#[a.eval (.tmp 23),a.eval (.tmp 24),a.eval (.tmp 25)]) (by kernel_rfl) (by rw[e1,e2,e3];exact CP.out Y vQ) ?_ ?_ ?_⟩
   ·rintro v az J;unfold yy at J;split at J
    ·cases J.1
    rename_i hnf;have uE:jY D.kc D.ku ns ds=false:=by
     cases hq:jY D.kc D.ku ns ds with
     |false=>rfl
     |true=>exact absurd (Si.1 hq) hnf
    obtain⟨e,jH,G,A,K⟩:=J;cases e;refine dA (uL (by kernel_rfl) rfl (by decide) hJ trivial (λj v _ hn=>CV.keep (λg hg LD=>A.block g LD λhM=>by have:=hcB g hM;omega) j v hn) ⟨by rw[uE];rfl,by rw[Mn,Mo]⟩) (vO.called G ((ak.ar vQ).aM A) (λj hj=>⟨(K j hj).imp id λh=>ξ vQ.size h,λP8 e=>?_⟩) (by decide) _);obtain⟨g,cs,q1,q2,q3,q4⟩:CV W s cp D.kc D.ku EV mU rep (!jY D.kc D.ku ns ds) 10 (a.eval (.tmp 9)) Y:=bx 10 (by decide) P8;rw[q1]at e;injection e with e
    injection e with e
    injection e with e
    have:=q2.lt;rcases K j hj with h|h
    ·have:=hcB j (.inr (.inr h));omega
    omega
   ·rintro cc az J;unfold yy at J;split at J
    ·rename_i hf;obtain⟨e,sI⟩:=J;cases e;refine⟨hJ.defers,?_⟩;show AS s atG ns ds h D w _ az;unfold AS;rw[Si.2 hf];exact⟨rfl,bV.out.trans ((vQ.trans (sI.mono vQ.size)).mono bV.out.size)⟩
    cases J.1
   rintro az J;unfold yy at J;split at J
   ·cases J.1
   cases J.1
  ·obtain⟨f1,e1⟩:_/\a.eval (.tmp 26)=.tuple #[.agg mU.toArray,.bool rep]:=aF hG 6;exact⟨bR rfl,ai (cW rfl e1) (dA (bD hJ ⟨f1,rfl⟩) (hC.put (by decide) (by decide) (by decide) _))⟩
  ·obtain⟨f1,e1⟩:_/\a.eval (.tmp 19)=.tuple #[.agg mU.toArray,.bool rep]:=aF hG 7;exact⟨bR rfl,ai (BO rfl e1 (by decide)) (dA (bD hJ ⟨f1,rfl⟩) (hC.put (by decide) (by decide) (by decide) _))⟩
  ·obtain⟨f1,e1⟩:_/\a.eval (.tmp 19)=.tuple #[.agg mU.toArray,.bool rep]:=aF hG 7;exact⟨bR rfl,ai (BO rfl e1 (by decide)) (dA (bD hJ ⟨f1,rfl⟩) (hC.put (by decide) (by decide) (by decide) _))⟩
  ·have cE:Below Y.heap.size Y (Y.alloc (ι fB.toArray 79)):=(ν _ _).alloc (π _) _;have hWw:W.heap.size<=Y.heap.size:=by
    cases h6:dn 6 with
    |false=>exact(hC.1 h6).size
    |true=>obtain⟨_,_,h,_⟩:=hC.2 h6;exact h.size
   exact⟨bR rfl,ai (jb rfl _ _) (dA (uL (by kernel_rfl) rfl (by decide) hJ trivial (λj v _ hn=>CV.keep (λg _ hg=>cE.block g hg) j v hn) ⟨Y.heap.size,fB,rfl,M.new Y fB _,rfl,hWw⟩) (hC.made cE (by rw[hJ.size];decide)))⟩
  ·obtain⟨f1,e1⟩:_/\a.eval (.tmp 27)=.agg mU.toArray:=aF hG 8;obtain⟨g,cs,e2,EE,sC,LC⟩:CV W s cp D.kc D.ku EV mU rep (!jY D.kc D.ku ns ds) 10 (a.eval (.tmp 9)) Y:=aF hG 10;have d6:dn 6=true:=tH (n:=8) dY (by kernel_rfl) (iH ⟨8,.data⟩ (by simp) rfl) 6 (by decide);have d10:dn 10=true:=iH ⟨10,.data⟩ (by simp) rfl;refine⟨bR rfl,Aw rfl e2 e1 EE (by rw[sC,Hf]) (by rw[Hf];exact jk) Qc λw9 la i7=>?_⟩;obtain⟨jH,G,A,K⟩:=hC.2 d6;have vF:vO W cp b nv (wI D.kc ns) (oH ⟨D.kc,D.ku,EV⟩ (ps.map (·.1))) (uR dn 11) a w9:=by
    refine⟨λh=>?_,λ_=>⟨jH,G.aL i7 ?_,A.trans i7 λk I=>.inr (by omega),λj hj=>⟨(K j hj).1,λ_=>(K j hj).2 d10⟩⟩⟩
    ·rw[jX (by decide),d6]at h;cases h
    intro k I e;subst e;rcases I with rfl|rfl|I
    ·have:=hcB k (.inl rfl);omega
    ·have:=hcB k (.inr (.inl rfl));omega
    exact(K k I).2 d10 e2
   refine dA (abd rfl hJ trivial (λj v hj hn=>?_) ⟨f1,g,e2,la,LC⟩) vF;by_cases P8:j=10
   ·subst P8;obtain⟨g',mR,q1,q2,q3,q4⟩:=hn;by_cases hgg:g'=g
    ·subst hgg;exact⟨g',_,q1,la,Hf,q4⟩
    exact⟨g',mR,q1,q2.ex i7 hgg,q3,q4⟩
   unfold CV at hn⊢;split at hn
   ·exact hn
   ·exact hn
   ·exact hn
   ·exact hn
   ·exact absurd rfl P8
   ·exact absurd rfl hj
   ·exact hn
   exact hn
  obtain⟨f1,e1⟩:_/\a.eval (.tmp 28)=.bool rep:=aF hG 9;exact⟨bR rfl,ai (Qd rfl e1) (dA (bD hJ ⟨f1,rfl⟩) (hC.put (by decide) (by decide) (by decide) _))⟩
 case rdone=>
  intro dn a w3 hd ay hG;obtain⟨hJ,hC⟩:=ay;obtain⟨jH,c3,x3,n3⟩:=hC.2 (hd 6 (by decide));obtain⟨f1,UU⟩:_/\a.eval (.tmp 10)=.bool rep:=hG 12 (by decide);obtain⟨_,g,e9,la,IT⟩:_/\∃g,a.eval (.tmp 9)=ζ (some ⟨g,0,none⟩)/\M w3 g mU 79/\W.heap.size<=g:=hG 11 (by decide);have uE:jY D.kc D.ku ns ds=false:=by simpa using f1
  have s0:a.eval (.tmp 0)=ζ (some ⟨s,0,none⟩):=hJ.fixed (0,_) (by simp[vN]);have s7:a.eval (.tmp 7)=ζ (some ⟨k7,0,none⟩):=hJ.fixed (7,_) (by simp[vN]);have s8:a.eval (.tmp 8)=ζ (some ⟨k8,0,none⟩):=hJ.fixed (8,_) (by simp[vN]);have gh:=hJ.size;have gC:=hJ.defers;clear hJ hG hC f1 hd CP;obtain⟨fr,rfl,hf⟩:=vP a gh gC;have g0:=(hf 0).symm.trans s0;have g7:=(hf 7).symm.trans s7;have g8:=(hf 8).symm.trans s8;have g9:=(hf 9).symm.trans e9;have g10:=(hf 10).symm.trans UU;rw[g0,g7,g8,g9,g10];clear hf gh gC s0 s7 s8 e9 UU g0 g7 g8 g9 g10;have xy:∀j,jH.ownBlock=some j->nv.ownBlock=some j\/W.heap.size<=j:=λj hj=>(n3 j hj).1;have UZ:=H (xW.out.row.ex x3 xW.out.d1);have U0:=H (Qb.out.ex x3 λI=>by have:=IV _ I;omega);have re3:=H (heW.out.ex x3 λI=>by have:=IV _ I;omega);have sj:=H (xW.out.idx.aL x3 λk I=>(xW.out.d2 k I).2);replace la:=H la;have RF:T.size<=500:=xW.out.sz;clear n3 Si;cases rep with
  |true=>
   obtain⟨k,I⟩:=Option.isSome_iff_exists.1 Mo.symm;obtain⟨p,J,hpk,hsd⟩:=xW.out.found I;have hOk:mU=k.ev:=by rw[Mn];unfold iQ;rw[I];rfl
   have Sj:k.kc=D.kc/\k.ku=D.ku:=fj.1 (List.find?_some I);have hpd:p.2∈ds:=by rw[<-xW.out.snd];exact Ω J
   have Qe:=xW.out.ok p.2 hpd;have afM:Hid (iI w3 E k p.2):=H (by
    rw[<-hpk];exact(xW.out.pd p J).keep λj hj=>x3.block j (xW.out.el j hj) λuM=>xW.out.em j hj (xW.out.mc j uM))
   replace hOk:=H hOk;replace Sj:=H Sj;replace I:=H I;replace hsd:=H hsd;replace Mo:=H Mo;replace Mn:=H Mn;clear hpk;go_upto_region 5 with fail;have SL:=He 30 (rR s k7 k8 g) 44 s ip D.kc D.ku mU (by decide) (λp J=>by
    simp only[rR,υ,τ,or_false]at J;rcases J with rfl|rfl|rfl|rfl<;>simp)
   refine ei 6 (by simp only[Ζ,Ξ];rfl) (by simp only[Η,Τ];rfl) (GV (λi=>30+i) (NLd s ip D.kc D.ku mU)) (JV 44 (rR s k7 k8 g) w3) (by kernel_rfl) (by kernel_rfl) (by kernel_rfl) (by kernel_rfl) (by kernel_rfl) (by kernel_rfl) rfl ?rops ?rdone ⟨rfl,rfl,λq J=>by
    simp only[rR,υ,τ,or_false]at J;rcases J with rfl|rfl|rfl|rfl<;>rfl,(ν _ _).drew⟩
   case rops=>
    intro i o ho a Y ay hG Q';have S:i<6:=(Array.getElem?_eq_some_iff.1 ho).1;have s0:a.eval (.tmp 0)=ζ (some ⟨s,0,none⟩):=ay.fixed (0,_) (by simp[rR]);have s8:a.eval (.tmp 8)=ζ (some ⟨k8,0,none⟩):=ay.fixed (8,_) (by simp[rR]);have sE:a.eval (.tmp 9)=ζ (some ⟨g,0,none⟩):=ay.fixed (9,_) (by simp[rR]);have eQ:i=0\/i=1\/i=2\/i=3\/i=4\/i=5:=by omega
    rcases eQ with rfl|rfl|rfl|rfl|rfl|rfl<;>obtain rfl:=Α ho
    ·exact ai (cW rfl s0) (aZ SL ay)
    ·have e1:a.eval (.tmp 30)=ζ (some ⟨s,0,none⟩):=aF hG 0;exact ai (eJ rfl e1) (aZ SL ay)
    ·have e1:a.eval (.tmp 31)=ζ (some ⟨s,0,none⟩):=aF hG 1;exact ai (cR rfl e1 tS) (aZ SL ay)
    ·have e1:a.eval (.tmp 32)=ζ (some ⟨s,1,none⟩):=aF hG 2;exact ai (aY rfl e1 (nC ((UZ.out.on ay.below).cell (k:=1) rfl))) (aZ SL ay)
    ·exact ai (aY rfl s8 (kZ (U0.out.on ay.below))) (aZ SL ay)
    exact ai (aY rfl sE (jU (la.out.on ay.below) Hf)) (aZ SL ay)
   case rdone=>
   intro a w4 ay hG;have e33:a.eval (.tmp 33)=ζ (some ⟨ip,0,none⟩):=hG 3 (by decide);have Ut:a.eval (.tmp 34)=.agg #[θ D.kc,θ D.ku]:=hG 4 (by decide);have e35:a.eval (.tmp 35)=.agg mU.toArray:=hG 5 (by decide);have s0:a.eval (.tmp 0)=ζ (some ⟨s,0,none⟩):=ay.fixed (0,_) (by simp[rR]);have s7:a.eval (.tmp 7)=ζ (some ⟨k7,0,none⟩):=ay.fixed (7,_) (by simp[rR]);have s8:a.eval (.tmp 8)=ζ (some ⟨k8,0,none⟩):=ay.fixed (8,_) (by simp[rR]);have cu:=ay.below;have afN:=ay.size;have afO:=ay.defers;clear ay hG SL;obtain⟨fr4,rfl,Mp⟩:=vP a afN afO;have g33:=(Mp 33).symm.trans e33;have Uu:=(Mp 34).symm.trans Ut;have g35:=(Mp 35).symm.trans e35;have g0:=(Mp 0).symm.trans s0;have g7:=(Mp 7).symm.trans s7;have g8:=(Mp 8).symm.trans s8;rw[g33,Uu,g35,g0,g7,g8];clear Mp afN afO e33 Ut e35 s0 s7 s8 g33 Uu g35 g0 g7 g8;have hE3:∀k,E k->k<w3.heap.size:=λk I=>κ (xW.out.el k I) x3.size;have CID:=H (GZ ip T h D.kc D.ku mU (p.2.aw 0 h) E w4 (sj.out.aL (O:=λ_=>False) (ak.ar cu) (λ_ _ h=>h)) xW.out.srt RF Hf (λwr cP=>by
    have:=((afM.out.keep λj hj=>cu.block j (hE3 j hj)).keep λj hj=>cP.block j (κ (hE3 j hj) cu.size)).aw Qe (Μ _) (by decide) xW.out.hz.1 xW.out.hz.2;rw[Sj.out.1,Sj.out.2,<-hOk.out]at this;exact this) (λk I cj=>xW.out.em k I (xW.out.mi k cj)) (aK.BS Qe xW.out.hz.2) (λa ha=>⟨a,xW.out.perm.mem_iff.2 (List.mem_flatMap.2 ⟨p.2,hpd,ha⟩),Jk a⟩))
   have rs4:=H (UZ.out.on cu);have rk4:=H (U0.out.on cu);have re4:=H (re3.out.on cu);have Mq:=H cu;clear cu afM la UZ U0 re3 sj;go_upto_region 6 with(go_at_call 162;refine(CID.out).mono ?_;rintro e w5 hp5;obtain⟨⟨v5,Pw⟩,atI,FA,U1,UY,fV⟩:=hp5;subst Pw;replace FA:=H FA;replace U1:=H U1;replace fV:=H fV);have Fy:=H (show atI.aw.Perm ((oK D.kc D.ku ds).flatMap (·.aw 0 h)) by
    rw[U1.out,<-OD xW.out.keys hpd hsd.out];exact OE xW.out.perm)
   have hSs:=H (show LT.eU atI.aw by rw[U1.out];exact Fc xW.out.srt);have hSz:atI.size<=500:=by
    have G:atI.aw.length<=T.aw.length:=by rw[U1.out];exact Ε _ _
    rw[LT.cO,LT.cO]at G;omega
   have U2:=H (rs4.out.ex fV.out λI=>(xW.out.d2 s I).1 rfl);have U3:=H (rk4.out.ex fV.out λI=>by have:=hiw _ I;omega);have U4:=H (re4.out.ex fV.out λI=>by have:=hiw _ I;omega);replace fV:=H ((ak.ar (O:=λk=>k∈ip::T.ax) Mq.out).aM fV.out);clear rs4 rk4 re4 Mq CID;have SL:=He 37 (mD s k7 k8) 44 s ip D.kc D.ku EV (by decide) (λp J=>by
    simp only[mD,υ,τ,or_false]at J;rcases J with rfl|rfl|rfl<;>simp)
   refine ei 6 (by simp only[Ζ,Ξ];rfl) (by simp only[Η,Τ];rfl) (GV (λi=>37+i) (NLd s ip D.kc D.ku EV)) (JV 44 (mD s k7 k8) w5) (by kernel_rfl) (by kernel_rfl) (by kernel_rfl) (by kernel_rfl) (by kernel_rfl) (by kernel_rfl) rfl ?rops ?rdone ⟨rfl,rfl,λq J=>by
    simp only[mD,υ,τ,or_false]at J;rcases J with rfl|rfl|rfl<;>rfl,(ν _ _).drew⟩
   case rops=>
    intro i o ho a Y ay hG Q';have S:i<6:=(Array.getElem?_eq_some_iff.1 ho).1;have s0:a.eval (.tmp 0)=ζ (some ⟨s,0,none⟩):=ay.fixed (0,_) (by simp[mD]);have s8:a.eval (.tmp 8)=ζ (some ⟨k8,0,none⟩):=ay.fixed (8,_) (by simp[mD]);have sE:a.eval (.tmp 7)=ζ (some ⟨k7,0,none⟩):=ay.fixed (7,_) (by simp[mD]);have eQ:i=0\/i=1\/i=2\/i=3\/i=4\/i=5:=by omega
    rcases eQ with rfl|rfl|rfl|rfl|rfl|rfl<;>obtain rfl:=Α ho
    ·exact ai (cW rfl s0) (aZ SL ay)
    ·have e1:a.eval (.tmp 37)=ζ (some ⟨s,0,none⟩):=aF hG 0;exact ai (eJ rfl e1) (aZ SL ay)
    ·have e1:a.eval (.tmp 38)=ζ (some ⟨s,0,none⟩):=aF hG 1;exact ai (cR rfl e1 tS) (aZ SL ay)
    ·have e1:a.eval (.tmp 39)=ζ (some ⟨s,1,none⟩):=aF hG 2;exact ai (aY rfl e1 (nC ((U2.out.on ay.below).cell (k:=1) rfl))) (aZ SL ay)
    ·exact ai (aY rfl s8 (kZ (U3.out.on ay.below))) (aZ SL ay)
    exact ai (aY rfl sE (jU (U4.out.on ay.below) AT.1)) (aZ SL ay)
   case rdone=>
    intro a w6 ay hG;have U5:a.eval (.tmp 40)=ζ (some ⟨ip,0,none⟩):=hG 3 (by decide);have U6:a.eval (.tmp 41)=.agg #[θ D.kc,θ D.ku]:=hG 4 (by decide);have U7:a.eval (.tmp 42)=.agg EV.toArray:=hG 5 (by decide);have cG:=ay.below;have Mr:=ay.size;have Ms:=ay.defers;clear ay hG SL;obtain⟨fr6,rfl,FB⟩:=vP a Mr Ms;have U8:=(FB 40).symm.trans U5;have U9:=(FB 41).symm.trans U6;have FC:=(FB 42).symm.trans U7;rw[U8,U9,FC];clear FB Mr Ms U5 U6 U7 U8 U9 FC;have YL:iI w6 E2 ⟨D.kc,D.ku,EV⟩ D:=DP.out.keep λj hj=>(cG.block j (κ (nQ.out j hj).lt (ξ x3.size fV.out.size))).trans ((fV.out.block j (κ (nQ.out j hj).lt x3.size) λI=>jo (nQ.out j hj) (xW.out.mt j (xW.out.mi j I))).trans (x3.block j (nQ.out j hj).lt λI=>jo (nQ.out j hj) (xW.out.mt j (xW.out.mc j I))));have hE6:∀k,E2 k->k<w6.heap.size:=λk I=>κ (nQ.out k I).lt (ξ x3.size (ξ fV.out.size cG.size));have CIP:=H (EZ ip atI h D.kc D.ku EV (D.aw 0 h) E2 w6 (FA.out.aL (O:=λ_=>False) (ak.ar cG) (λ_ _ h=>h)) hSs.out hSz AT.1 (λwr cP=>(YL.keep λj hj=>cP.block j (hE6 j hj)).aw cI.out (Μ _) (by decide) xW.out.hz.1 xW.out.hz.2) (aK.BS cI.out xW.out.hz.2) (λa ha y hy=>other_key (ds:=oK D.kc D.ku ds) (f':=0) (to':=h) (λz hz=>(yz hz).2) ha (Fy.out.mem_iff.1 hy)));have hS6:=H (FA.out.aL (O:=λ_=>False) (ak.ar cG) (λ_ _ h=>h));have jT:=H (fV.out.aM (ak.ar (O:=λk=>k∈ip::T.ax) cG));clear cG FA U2 U3 U4;go_wp2_with (go_at_call 163;refine(CIP.out).mono ?_;rintro e w7 FE;have hE7:=FE.1;subst hE7;replace FE:=H FE);go_end0;show AS s atG ns ds h D w _ w7;unfold AS;rw[uE];exact⟨⟨_,rfl⟩,CU Mm.out cI.out bV.out DP.out nQ.out uE c3 x3 xy Fy.out UY jT.out FE.out⟩
  |false=>
   have hhd:qR D.kc D.ku ds=false:=by rw[<-xW.out.find];exact Mo.symm
   go_upto_region 6 with fail;obtain⟨atI,Ap⟩:∃atI,atI=T:=⟨_,rfl⟩;obtain⟨w5,Jm⟩:∃w5,w5=w3:=⟨_,rfl⟩;have Fy:=H (show atI.aw.Perm ((oK D.kc D.ku ds).flatMap (·.aw 0 h)) by
    rw[Ap,AK λy hy=>by
     cases hq:iT D.kc D.ku y with
     |false=>rfl
     |true=>unfold qR at hhd;rw[List.any_eq_false]at hhd;exact absurd hq (hhd y hy)]
    exact xW.out.perm)
   have hSs:=H (show LT.eU atI.aw by rw[Ap];exact xW.out.srt);have hSz:atI.size<=500:=by rw[Ap];exact RF
   have UY:∀k∈atI.ax,k∈T.ax:=λk I=>by rw[<-Ap];exact I
   have FA:=H (show cU w5 ip atI atI.size h by rw[Ap,Jm];exact sj.out);have U2:=H (show M w5 s _ _ by rw[Jm];exact UZ.out);have U3:=H (show M w5 k8 _ _ by rw[Jm];exact U0.out);have U4:=H (show M w5 k7 _ _ by rw[Jm];exact re3.out);have fV:=H (show ak (λk=>k∈ip::T.ax) w3 w5 by rw[Jm];exact ak.refl _ _);have ard:=H Jm;rw[<-Jm];clear Jm Ap UZ U0 re3 sj la;have SL:=He 37 (mD s k7 k8) 44 s ip D.kc D.ku EV (by decide) (λp J=>by
    simp only[mD,υ,τ,or_false]at J;rcases J with rfl|rfl|rfl<;>simp)
   refine ei 6 (by simp only[Ζ,Ξ];rfl) (by simp only[Η,Τ];rfl) (GV (λi=>37+i) (NLd s ip D.kc D.ku EV)) (JV 44 (mD s k7 k8) w5) (by kernel_rfl) (by kernel_rfl) (by kernel_rfl) (by kernel_rfl) (by kernel_rfl) (by kernel_rfl) rfl ?rops ?rdone ⟨rfl,rfl,λq J=>by
    simp only[mD,υ,τ,or_false]at J;rcases J with rfl|rfl|rfl<;>rfl,(ν _ _).drew⟩
   case rops=>
    intro i o ho a Y ay hG Q';have S:i<6:=(Array.getElem?_eq_some_iff.1 ho).1;have s0:a.eval (.tmp 0)=ζ (some ⟨s,0,none⟩):=ay.fixed (0,_) (by simp[mD]);have s8:a.eval (.tmp 8)=ζ (some ⟨k8,0,none⟩):=ay.fixed (8,_) (by simp[mD]);have sE:a.eval (.tmp 7)=ζ (some ⟨k7,0,none⟩):=ay.fixed (7,_) (by simp[mD]);have eQ:i=0\/i=1\/i=2\/i=3\/i=4\/i=5:=by omega
    rcases eQ with rfl|rfl|rfl|rfl|rfl|rfl<;>obtain rfl:=Α ho
    ·exact ai (cW rfl s0) (aZ SL ay)
    ·have e1:a.eval (.tmp 37)=ζ (some ⟨s,0,none⟩):=aF hG 0;exact ai (eJ rfl e1) (aZ SL ay)
    ·have e1:a.eval (.tmp 38)=ζ (some ⟨s,0,none⟩):=aF hG 1;exact ai (cR rfl e1 tS) (aZ SL ay)
    ·have e1:a.eval (.tmp 39)=ζ (some ⟨s,1,none⟩):=aF hG 2;exact ai (aY rfl e1 (nC ((U2.out.on ay.below).cell (k:=1) rfl))) (aZ SL ay)
    ·exact ai (aY rfl s8 (kZ (U3.out.on ay.below))) (aZ SL ay)
    exact ai (aY rfl sE (jU (U4.out.on ay.below) AT.1)) (aZ SL ay)
   case rdone=>
    intro a w6 ay hG;have U5:a.eval (.tmp 40)=ζ (some ⟨ip,0,none⟩):=hG 3 (by decide);have U6:a.eval (.tmp 41)=.agg #[θ D.kc,θ D.ku]:=hG 4 (by decide);have U7:a.eval (.tmp 42)=.agg EV.toArray:=hG 5 (by decide);have cG:=ay.below;have Mr:=ay.size;have Ms:=ay.defers;clear ay hG SL;obtain⟨fr6,rfl,FB⟩:=vP a Mr Ms;have U8:=(FB 40).symm.trans U5;have U9:=(FB 41).symm.trans U6;have FC:=(FB 42).symm.trans U7;rw[U8,U9,FC];clear FB Mr Ms U5 U6 U7 U8 U9 FC;have YL:iI w6 E2 ⟨D.kc,D.ku,EV⟩ D:=DP.out.keep λj hj=>(cG.block j (κ (nQ.out j hj).lt (ξ x3.size fV.out.size))).trans ((fV.out.block j (κ (nQ.out j hj).lt x3.size) λI=>jo (nQ.out j hj) (xW.out.mt j (xW.out.mi j I))).trans (x3.block j (nQ.out j hj).lt λI=>jo (nQ.out j hj) (xW.out.mt j (xW.out.mc j I))));have hE6:∀k,E2 k->k<w6.heap.size:=λk I=>κ (nQ.out k I).lt (ξ x3.size (ξ fV.out.size cG.size));have CIP:=H (EZ ip atI h D.kc D.ku EV (D.aw 0 h) E2 w6 (FA.out.aL (O:=λ_=>False) (ak.ar cG) (λ_ _ h=>h)) hSs.out hSz AT.1 (λwr cP=>(YL.keep λj hj=>cP.block j (hE6 j hj)).aw cI.out (Μ _) (by decide) xW.out.hz.1 xW.out.hz.2) (aK.BS cI.out xW.out.hz.2) (λa ha y hy=>other_key (ds:=oK D.kc D.ku ds) (f':=0) (to':=h) (λz hz=>(yz hz).2) ha (Fy.out.mem_iff.1 hy)));have hS6:=H (FA.out.aL (O:=λ_=>False) (ak.ar cG) (λ_ _ h=>h));have jT:=H (fV.out.aM (ak.ar (O:=λk=>k∈ip::T.ax) cG));clear cG FA U2 U3 U4;go_wp2_with (go_at_call 163;refine(CIP.out).mono ?_;rintro e w7 FE;have hE7:=FE.1;subst hE7;replace FE:=H FE);go_end0;show AS s atG ns ds h D w _ w7;unfold AS;rw[uE];exact⟨⟨_,rfl⟩,CU Mm.out cI.out bV.out DP.out nQ.out uE c3 x3 xy Fy.out UY jT.out FE.out⟩
def Mt (W:μ)(s cp ip b:Nat)(h t:Int)(mb:Bool)(i:Nat)(v:Value)(w:μ):Prop:=match i with
 |17=>∃bm,v=.func (.func 224) #[] #[ζ (some ⟨bm,0,none⟩)]/\M w bm [.map (some b)] 200/\W.heap.size<=bm
 |n=>v=[V Z t,ζ (some ⟨s,0,none⟩),ζ (some ⟨s,0,none⟩),ζ (some ⟨s,1,none⟩),ζ (some ⟨ip,0,none⟩),V Z h,.bool false,.bool false,ζ (some ⟨s,0,none⟩),ζ (some ⟨s,0,none⟩),ζ (some ⟨s,1,none⟩),ζ (some ⟨ip,0,none⟩),V Z t,ζ (some ⟨s,0,none⟩),ζ (some ⟨s,0,none⟩),ζ (some ⟨s,0,none⟩),ζ (some ⟨cp,0,none⟩),undef,.bool mb,.bool mb,.bool mb].getD n undef
theorem Mt.keep {W:μ}{s cp ip b:Nat}{h t:Int}{mb:Bool}{w Y:μ}(I:∀g,W.heap.size<=g->g<w.heap.size->Y.heap[g]?=w.heap[g]?)(i:Nat)(v:Value)(hn:Mt W s cp ip b h t mb i v w):Mt W s cp ip b h t mb i v Y:=by
 unfold Mt at hn⊢;split at hn
 ·obtain⟨bm,G,A,K⟩:=hn;exact⟨bm,G,A.keep (I bm K A.lt),K⟩
 exact hn
def sGo (i:Nat):Nat:=if i=20 then 4 else 5+i
theorem Sk (a:Act)(h:a.tmps.size=25)(hd:a.defers=[]):∃f:Nat->Value,a=⟨[f 0,f 1,f 2,f 3,f 4,f 5,f 6,f 7,f 8,f 9,f 10,f 11,f 12,f 13,f 14,f 15,f 16,f 17,f 18,f 19,f 20,f 21,f 22,f 23,f 24].toArray,[]⟩/\∀k,a.eval (.tmp k)=f k:=gO 25 a h hd
theorem adb {o:Oper}{a:Act}{w:μ}{x y:Operand}{m n:Int}(ho:o.op=.binOp .leq 3 x y 3)(X:a.eval x=V Z m)(hy:a.eval y=V Z n):(execOp a.eval o).run prog w=.ok (.value (.bool (decide (m<=n)))) w:=by
 unfold execOp;rw[ho];simp only[X,hy];go_simp
theorem YM {o:Oper}{a:Act}{w:μ}{x y z:Operand}{v:Value}(ho:o.op=.pick x y z)(X:a.eval x=.bool false)(hz:a.eval z=v):(execOp a.eval o).run prog w=.ok (.value v) w:=by
 unfold execOp;rw[ho];simp only[X,hz];go_simp
theorem Kt {w:μ}{s:Nat}{atG E:aj}{ns:List ByteArray}{ds:List aK}{h:Int}(x:cX w s atG E ns ds h)(t:Int)(t0:0<=t)(t1:t<=7258118400):
 χ prog 102 #[ζ (some ⟨s,0,none⟩),V Z t] w λe Y=>e=δ (.bool (lA ds h t))/\∃M':aj,cX Y s M' E ns ds (if t<=h then h else qT ds h t)/\ak atG w Y/\∀k,M' k->atG k\/w.heap.size<=k:=by
 obtain⟨cp,b,ip,nv,ps,T,x⟩:=x;have CH:=H λ(W:μ) (U:Below w.heap.size w W)=>G7 ip T T.size h W (x.idx.keep λk I=>U.block k (x.lt k (x.mi k I)));by_cases hle:t<=h
 ·have hB:lA ds h t=true:=by unfold lA;simp[hle]
  have k1:=x.row.cell (k:=1) rfl;have HX:=H x;rw[hB];simp only[if_pos hle];clear x hB;go_enter func102,ntmps102;go_upto_region 1 with fail;go_big_quiet (exact gy (CH.out _ (below_drewN (ν _ _) _)));go_wp2_with fail;go_ret;exact⟨rfl,atG,cX.on ⟨cp,b,ip,nv,ps,T,HX.out⟩ (below_drewN (ν _ _) _),ak.ar (below_drewN (ν _ _) _),λk I=>.inl I⟩
 simp only[if_neg hle];have hlf:decide (t<=h)=false:=decide_eq_false hle;have HX:=H x;have HMv:=H λ(W:μ) (bm:Nat) (U:Below w.heap.size w W) (hr:M W bm [.map (some b)] 200)=>Md (x.keep λk I=>U.block k (I.elim (x.lt k) (x.el k))) t t0 t1 bm hr;have hMl:=x.lt;clear x;generalize lA ds h t=mb at *
 go_enter func102,ntmps102;go_upto_region 1 with fail;refine xv (GV sGo (Mt w s cp ip b h t mb)) (λd a Y=>JX 25 (rQ s t) (λ_=>True) a Y/\(d 18=false->Below w.heap.size w Y)/\(d 18=true->wH s atG E ns ds h t w Y)) (by kernel_rfl) (by kernel_rfl) ?rops ?rdone ⟨⟨rfl,rfl,λq J=>by
  simp only[rQ,υ,τ,or_false]at J;rcases J with rfl|rfl<;>rfl,trivial⟩,λ_=>(ν _ _).drew,λh=>by cases h⟩
 case rops=>
  intro i o ho d a Y hdi iH dY ay hG bx;have S:i<21:=(Array.getElem?_eq_some_iff.1 ho).1;obtain⟨hJ,hlo,Qf⟩:=ay;have s0:a.eval (.tmp 0)=ζ (some ⟨s,0,none⟩):=hJ.fixed (0,_) (by simp[rQ]);have s1:a.eval (.tmp 1)=V Z t:=hJ.fixed (1,_) (by simp[rQ]);have U:i<=18->Below w.heap.size w Y:=λAT=>hlo (by
   cases h:d 18 with
   |false=>rfl
   |true=>have:=tH dY (by kernel_rfl) h i AT;rw[hdi]at this;cases this)
  have bp:a.tmps.size=25:=hJ.size;have hq:i<18->(uR d i 18=false->Below w.heap.size w Y)/\(uR d i 18=true->wH s atG E ns ds h t w Y):=λQg=>⟨λ_=>U (by omega),λh=>by rw[jX (by omega)]at h;exact Qf h⟩;have eQ:i=0\/i=1\/i=2\/i=3\/i=4\/i=5\/i=6\/i=7\/i=8\/i=9\/i=10\/i=11\/i=12\/i=13\/i=14\/i=15\/i=16\/i=17\/i=18\/i=19\/i=20:=by omega
  rcases eQ with rfl|rfl|rfl|rfl|rfl|rfl|rfl|rfl|rfl|rfl|rfl|rfl|rfl|rfl|rfl|rfl|rfl|rfl|rfl|rfl|rfl<;>obtain rfl:=Α ho
  ·exact⟨bR rfl,ai (cW rfl s1) (dA (bD hJ rfl) (hq (by decide)))⟩
  ·exact⟨bR rfl,ai (cW rfl s0) (dA (bD hJ rfl) (hq (by decide)))⟩
  ·have e1:a.eval (.tmp 6)=ζ (some ⟨s,0,none⟩):=aF hG 1;exact⟨bR rfl,ai (eJ rfl e1) (dA (bD hJ rfl) (hq (by decide)))⟩
  ·have e1:a.eval (.tmp 7)=ζ (some ⟨s,0,none⟩):=aF hG 2;exact⟨bR rfl,ai (cR rfl e1 tS) (dA (bD hJ rfl) (hq (by decide)))⟩
  ·have e1:a.eval (.tmp 8)=ζ (some ⟨s,1,none⟩):=aF hG 3;exact⟨bR rfl,ai (aY rfl e1 (nC ((HX.out.row.on (U (by decide))).cell (k:=1) rfl))) (dA (bD hJ rfl) (hq (by decide)))⟩
  ·have e1:a.eval (.tmp 9)=ζ (some ⟨ip,0,none⟩):=aF hG 4;refine⟨bR rfl,cM (f:=170) (args:=#[a.eval (.tmp 9)]) (by kernel_rfl) (by rw[e1];exact CH.out Y (U (by decide))) ?_ (by rintro c az ⟨e,_⟩;cases e) (by rintro az ⟨e,_⟩;cases e)⟩;rintro v az ⟨e,rfl⟩;cases e;exact dA (bD hJ rfl) (hq (by decide))
  ·have e1:a.eval (.tmp 5)=V Z t:=aF hG 0;have e2:a.eval (.tmp 10)=V Z h:=aF hG 5;exact⟨bR rfl,ai (adb rfl e1 e2) (dA (bD hJ (by rw[hlf];rfl)) (hq (by decide)))⟩
  ·have e1:a.eval (.tmp 11)=.bool false:=aF hG 6;exact⟨bR rfl,ai (cW rfl e1) (dA (bD hJ rfl) (hq (by decide)))⟩
  ·have g7:a.eval (.tmp 12)=.bool false:=bx 7 (by decide) (iH ⟨7,.guard⟩ (by simp) rfl);exact⟨pY rfl rfl rfl (by rw[bp];decide) g7,ai (cW rfl s0) (dA (bD hJ rfl) (hq (by decide)))⟩
  ·have g7:a.eval (.tmp 12)=.bool false:=bx 7 (by decide) (iH ⟨7,.guard⟩ (by simp) rfl);have e1:a.eval (.tmp 13)=ζ (some ⟨s,0,none⟩):=aF hG 8;exact⟨pY rfl rfl rfl (by rw[bp];decide) g7,ai (eJ rfl e1) (dA (bD hJ rfl) (hq (by decide)))⟩
  ·have g7:a.eval (.tmp 12)=.bool false:=bx 7 (by decide) (iH ⟨7,.guard⟩ (by simp) rfl);have e1:a.eval (.tmp 14)=ζ (some ⟨s,0,none⟩):=aF hG 9;exact⟨pY rfl rfl rfl (by rw[bp];decide) g7,ai (cR rfl e1 tS) (dA (bD hJ rfl) (hq (by decide)))⟩
  ·have g7:a.eval (.tmp 12)=.bool false:=bx 7 (by decide) (iH ⟨7,.guard⟩ (by simp) rfl);have e1:a.eval (.tmp 15)=ζ (some ⟨s,1,none⟩):=aF hG 10;exact⟨pY rfl rfl rfl (by rw[bp];decide) g7,ai (aY rfl e1 (nC ((HX.out.row.on (U (by decide))).cell (k:=1) rfl))) (dA (bD hJ rfl) (hq (by decide)))⟩
  ·have g7:a.eval (.tmp 12)=.bool false:=bx 7 (by decide) (iH ⟨7,.guard⟩ (by simp) rfl);exact⟨pY rfl rfl rfl (by rw[bp];decide) g7,ai (cW rfl s1) (dA (bD hJ rfl) (hq (by decide)))⟩
  ·have g7:a.eval (.tmp 12)=.bool false:=bx 7 (by decide) (iH ⟨7,.guard⟩ (by simp) rfl);exact⟨pY rfl rfl rfl (by rw[bp];decide) g7,ai (cW rfl s0) (dA (bD hJ rfl) (hq (by decide)))⟩
  ·have g7:a.eval (.tmp 12)=.bool false:=bx 7 (by decide) (iH ⟨7,.guard⟩ (by simp) rfl);have e1:a.eval (.tmp 18)=ζ (some ⟨s,0,none⟩):=aF hG 13;exact⟨pY rfl rfl rfl (by rw[bp];decide) g7,ai (eJ rfl e1) (dA (bD hJ rfl) (hq (by decide)))⟩
  ·have g7:a.eval (.tmp 12)=.bool false:=bx 7 (by decide) (iH ⟨7,.guard⟩ (by simp) rfl);have e1:a.eval (.tmp 19)=ζ (some ⟨s,0,none⟩):=aF hG 14;exact⟨pY rfl rfl rfl (by rw[bp];decide) g7,ai (cR rfl e1 Hd) (dA (bD hJ rfl) (hq (by decide)))⟩
  ·have g7:a.eval (.tmp 12)=.bool false:=bx 7 (by decide) (iH ⟨7,.guard⟩ (by simp) rfl);have e1:a.eval (.tmp 20)=ζ (some ⟨s,0,none⟩):=aF hG 15;exact⟨pY rfl rfl rfl (by rw[bp];decide) g7,ai (aY rfl e1 (yC ((HX.out.row.on (U (by decide))).cell (k:=0) rfl))) (dA (bD hJ rfl) (hq (by decide)))⟩
  ·have g7:a.eval (.tmp 12)=.bool false:=bx 7 (by decide) (iH ⟨7,.guard⟩ (by simp) rfl);have e1:a.eval (.tmp 21)=ζ (some ⟨cp,0,none⟩):=aF hG 16;refine⟨pY rfl rfl rfl (by rw[bp];decide) g7,cM (f:=99) (args:=#[a.eval (.tmp 21)]) (by kernel_rfl) (by rw[e1];exact Fk cp b nv Y (HX.out.dh.on (U (by decide))).row) ?_ (by rintro c az ⟨e,_⟩;cases e) (by rintro az ⟨e,_⟩;cases e)⟩;rintro v az ⟨e,rfl⟩;cases e;have cE:Below Y.heap.size Y (Y.alloc (ι #[.map (some b)] 200)):=(ν _ _).alloc (π _) _;exact dA (uL (by kernel_rfl) rfl (by decide) hJ trivial (λj v _ hn=>hn.keep (λg _ hg=>cE.block g hg) j v) ⟨Y.heap.size,rfl,M.new Y _ _,(U (by decide)).size⟩) ⟨λ_=>(U (by decide)).trans (cE.mono (U (by decide)).size),λh=>by
    rw[jX (by decide)]at h;have:=tH dY (by kernel_rfl) h 17 (by decide);rw[hdi]at this;cases this⟩
  ·have g7:a.eval (.tmp 12)=.bool false:=bx 7 (by decide) (iH ⟨7,.guard⟩ (by simp) rfl);have e1:a.eval (.tmp 16)=ζ (some ⟨ip,0,none⟩):=aF hG 11;have e2:a.eval (.tmp 17)=V Z t:=aF hG 12;obtain⟨bm,e3,hrm,UT⟩:Mt w s cp ip b h t mb 17 (a.eval (.tmp 22)) Y:=aF hG 17;refine⟨pY rfl rfl rfl (by rw[bp];decide) g7,cM (f:=98) (args:=#[a.eval (.tmp 16),a.eval (.tmp 17),a.eval (.tmp 22)]) (by kernel_rfl) (by rw[e1,e2,e3];exact HMv.out Y bm (U (by decide)) hrm) ?_ (by rintro c az ⟨e,_⟩;cases e) (by rintro az ⟨e,_⟩;cases e)⟩;rintro v az ⟨e,hmp⟩;cases e;have amX:=hmp;obtain⟨_,_,X,_⟩:=amX;exact dA (uL (by kernel_rfl) rfl (by decide) hJ trivial (λj v _ hn=>Mt.keep (λg hg LD=>X.block g LD λhM=>by have:=hMl g hM;omega) j v hn) rfl) ⟨λh=>(by rw[yB]at h;cases h),λ_=>wH.later (U (by decide)) hmp⟩
  ·have g7:a.eval (.tmp 12)=.bool false:=bx 7 (by decide) (iH ⟨7,.data⟩ (by simp) rfl);have e1:a.eval (.tmp 23)=.bool mb:=aF hG 18;exact⟨bR rfl,ai (YM rfl g7 e1) (dA (bD hJ rfl) ⟨λh=>hlo (by rw[jX (by decide)]at h;exact h),λh=>Qf (by rw[jX (by decide)]at h;exact h)⟩)⟩
  have e1:a.eval (.tmp 24)=.bool mb:=aF hG 19;exact⟨bR rfl,ai (Qd rfl e1) (dA (bD hJ rfl) ⟨λh=>hlo (by rw[jX (by decide)]at h;exact h),λh=>Qf (by rw[jX (by decide)]at h;exact h)⟩)⟩
 case rdone=>
  intro d a w3 hd ay hG;obtain⟨hJ,_,Qf⟩:=ay;have AU:=H (Qf (hd 18 (by decide)));have e4:a.eval (.tmp 4)=.bool mb:=hG 20 (by decide);have gh:=hJ.size;have gC:=hJ.defers;clear hJ hG Qf;obtain⟨fr,rfl,hf⟩:=Sk a gh gC;have g4:=(hf 4).symm.trans e4;rw[g4];clear hf gh gC e4 g4;go_wp2_with fail;go_ret;exact⟨rfl,AU.out⟩
def DQ (ds:List aK)(h t:Int):Int:=if t<=h then h else qT ds h t
def wJ (s:Nat)(atG E:aj)(ns:List ByteArray)(ds:List aK)(h:Int)(xs:List ByteArray)(f t:Int)(w:μ):ύ->μ->Prop:=λe Y=>
 if pZ f t then match jC xs ns with
  |some y=>e=ε (bF y)/\Below w.heap.size w Y
  |none=>∃atI,e=δ (θ atI)/\Fq xs ds f t atI/\∃M':aj,cX Y s M' E ns ds (DQ ds h t)/\ak atG w Y/\∀k,M' k->atG k\/w.heap.size<=k
 else e=ε (bF 7)/\Below w.heap.size w Y
def AV (n:Nat)(w:μ):μ:={w with heap:=w.heap.extract 0 n}
theorem pg {n:Nat}{w:μ}(h:n<=w.heap.size):(AV n w).heap.size=n:=by unfold AV;simp;omega
theorem DR {n:Nat}{w:μ}{k:Nat}(h:k<n):(AV n w).heap[k]?=w.heap[k]?:=by
 unfold AV;simp only[Array.getElem?_extract];split
 ·simp
 rename_i I;rw[Array.getElem?_eq_none (by omega)]
theorem Sl {n:Nat}{w:μ}(h:n<=w.heap.size):Below (AV n w).heap.size (AV n w) w:=⟨rfl,rfl,rfl,by rw[pg h];exact h,λk I=>(DR (by rw[pg h]at I;exact I)).symm⟩
theorem AW {α β:Type}(F:α->List β)(B:Nat):∀l:List α,(∀x∈l,(F x).length<=B)->(l.flatMap F).length<=l.length*B
 |[],_=>by simp
 |x::l,h=>by
  have G:=h x (by simp);have A:=AW F B l λy hy=>h y (by simp[hy]);rw[Γ,Ι,Δ,Nat.add_mul,Nat.one_mul];omega
theorem ade {d:aK}(h:d.ok){f t:Int}(t1:t<=7258118400):(d.tq f t).length<=86000:=by
 unfold aK.tq;rw[ο];exact aK.afs h t1
theorem Va {α β:Type}{a b:List α}(h:a.Perm b)(F:α->List β):(a.flatMap F).Perm (b.flatMap F):=h.flatMap_right _
theorem Vb {ps:List (KE×aK)}{ds:List aK}{xs:List ByteArray}{f t:Int}{dK:List KE}{kd:List Value->Int}{sp:List Value->List (Int×Int)}(hs:ps.map (·.2)=ds)(Pz:∀p∈ps,p.1.kc=p.2.kc)(hf:∀p∈ps,kd p.1.ev=p.2.kd/\sp p.1.ev=p.2.tq f t)
 (I:dK.Perm ((ps.map (·.1)).filter λk=>ρ xs k.kc)):((dK.map KE.ev).flatMap λe=>if kd e=0 then[]else jJ (kd e) (sp e)).Perm (oJ xs ds f t):=by
 have e1:((ps.map (·.1)).filter λk=>ρ xs k.kc)=(ps.filter λp=>ρ xs p.1.kc).map (·.1):=by rw[List.filter_map];rfl
 rw[e1]at I;obtain⟨Fw,G,A⟩:=Sb I;have wE:∀p∈Fw,p∈ps:=λp J=>(List.mem_filter.1 (G.mem_iff.1 J)).1;have e2:((dK.map KE.ev).flatMap λe=>if kd e=0 then[]else jJ (kd e) (sp e))=Fw.flatMap λp=>p.2.AG f t:=by
  rw[<-A,List.map_map,List.flatMap_map];clear G A I e1
  induction Fw with
  |nil=>rfl
  |cons p Fw ih=>
   rw[Γ,Γ,ih λq hq=>wE q (by simp[hq]),aK.ac4];obtain⟨q1,q2⟩:=hf p (wE p (by simp));simp only[Function.comp,q1,q2]
 rw[e2];refine(Va G _).trans ?_;unfold oJ;have e3:(ds.filter λd=>ρ xs d.kc)=(ps.filter λp=>ρ xs p.1.kc).map (·.2):=by
  rw[<-hs,List.filter_map];congr 1;apply List.filter_congr;intro p J;simp only[Function.comp];rw[Pz p J]
 rw[e3,List.flatMap_map]
theorem adf {f t:Int}{cs:List mC}(h:∀c∈cs,c.k=1\/c.k=2):∀e∈eZ f t cs,(e.k=0\/e.k=1\/e.k=2)/\(e.m=1\/e.m=-1):=by
 intro e he;unfold eZ at he;obtain⟨c,hc,he⟩:=List.mem_flatMap.1 he;have:=h c hc;simp at he;rcases he with rfl|rfl
 ·exact⟨.inr this,.inl rfl⟩
 exact⟨.inr this,.inr rfl⟩
theorem Mu {w0 w2 w3:μ}{q:Nat}{f t:Int}{v:Value}{cs:List mC}{ds:List aK}{xs:List ByteArray}(ht:jg w0)(h0:Below w0.heap.size w0 w2)(X:ak (λk=>k=q) w2 w3)(hq:w0.heap.size<=q)(sJ:gP w3 q f t v (eZ f t cs))(hv:∀k,v.ownBlock=some k->w2.heap.size<=k)(ho:∀d∈ds,d.ok)(xr:f<t)(t1:t<=7258118400)(hc:cs.Perm (oJ xs ds f t))(N:2*cs.length+4<=16777216):
 χ prog 105 #[ζ (some ⟨q,0,none⟩)] w3 λe w4=>∃atI,e=δ (θ atI)/\Fq xs ds f t atI/\ak (λk=>k=q) w2 w4:=by
 have su:=X.size;have h03:Below w0.heap.size w0 (AV w2.heap.size w3):=⟨X.os.trans h0.os,X.tape.trans h0.tape,X.output.trans h0.output,by rw[pg su];exact h0.size,λk I=>by
  have:=h0.size;rw[DR (by omega),X.block k (by omega) (by omega),h0.block k I]⟩
 have hck:∀c∈cs,c.k=1\/c.k=2:=λc hcc=>(PT ho t1 xs c (hc.mem_iff.1 hcc)).2;refine(Kr (AV w2.heap.size w3) q f t v (eZ f t cs) w3 (ht.on h03) (Sl su) sJ (λj hj=>by rw[pg su];exact hv j hj) (by rw[DH];exact N) (adf hck)).mono ?_;rintro e w4 ⟨L',p1,p2,rfl,b4⟩;rw[pg su]at b4;exact⟨_,rfl,ac2 ho xr t1 hc p1 p2,b4.os.trans X.os,b4.tape.trans X.tape,b4.output.trans X.output,by have:=b4.size;rw[pg su]at this;exact this,λk I hn=>by rw[b4.block k I,DR I,X.block k I hn]⟩
theorem YN {w0 w:μ}{s:Nat}{atG E:aj}{ns:List ByteArray}{ds:List aK}{h:Int}(x:cX w s atG E ns ds h)(nv:Value)(xs:List ByteArray)(f t:Int)(ht:jg w0)(h0:Below w0.heap.size w0 w)(hM:∀k,atG k->w0.heap.size<=k)(hn:fQ w nv xs)(i7:xs.length<=9223372036854775807)(Qh:∀k,nv.ownBlock=some k->¬atG k):
 χ prog 55 #[ζ (some ⟨s,0,none⟩),nv,V Z f,V Z t] w (wJ s atG E ns ds h xs f t w):=by
 have CW:=H (AX f t w (ht.on h0));obtain⟨an,cn,mA⟩:=hn.sl;cases zB:pZ f t with
 |false=>
  rw[zB]at CW;rw[mA];clear x hn mA;go_enter func55,ntmps55;go_wp2_with (go_at_call 89;refine(CW.out).mono ?_;rintro e w1 ⟨rfl,au⟩);exact⟨rfl,by unfold wJ;rw[zB];exact⟨rfl,au⟩⟩
 |true=>
 rw[zB]at CW;simp only[if_true]at CW;have xr:(0<=f/\f<7258118400)/\(0<=t/\t<7258118400)/\f<t:=by
  unfold pZ cq at zB;simp at zB;omega
 have HX:=H x;have HN:=H hn;have o7:∀k,nv.ownBlock=some k->k<w.heap.size:=λk I=>hn.lt I;clear x hn;subst mA;cases df:jC xs ns with
 |some y=>
  have Vc:wJ s atG E ns ds h xs f t w=λe Y=>e=ε (bF y)/\Below w.heap.size w Y:=by
   funext e Y;unfold wJ;rw[zB,df];rfl
  rw[Vc];clear Vc zB;go_enter func55,ntmps55;go_upto_region 2 with(go_at_call 89;refine(CW.out).mono ?_;rintro e w1 ⟨rfl,au⟩);obtain⟨cp,b,ip,nc,ps,T,x1⟩:=HX.out.on au;have k0:=x1.row.cell (k:=0) rfl;have CN:=H (Cx cp b nc (η an xs.length cn) ns xs (ps.map (·.1)) w1 x1.dh (HN.out.keep λj hj=>au.block j (o7 j hj)) x1.n8 i7);rw[df,show G4 (some y)=ε (bF y)from rfl]at CN;replace au:=H au;clear x1 CW df;go_wp2_with (go_at_call 100;refine(CN.out).mono ?_;rintro e w2 ⟨rfl,rfl⟩);exact⟨rfl,rfl,au.out⟩
 |none=>
  have Vc:wJ s atG E ns ds h xs f t w=λe Y=>∃atI,e=δ (θ atI)/\Fq xs ds f t atI/\∃M':aj,cX Y s M' E ns ds (DQ ds h t)/\ak atG w Y/\∀k,M' k->atG k\/w.heap.size<=k:=by
   funext e Y;unfold wJ;rw[zB,df];rfl
  rw[Vc];clear Vc zB;go_enter func55,ntmps55;go_upto_region 2 with(go_at_call 89;refine(CW.out).mono ?_;rintro e w1 ⟨rfl,au⟩);obtain⟨cp,b,ip,nc,ps,T,x1⟩:=HX.out.on au;have k0:=x1.row.cell (k:=0) rfl;have CN:=H (Cx cp b nc (η an xs.length cn) ns xs (ps.map (·.1)) w1 x1.dh (HN.out.keep λj hj=>au.block j (o7 j hj)) x1.n8 i7);rw[df,show G4 none=δ (.tuple #[])from rfl]at CN;replace au:=H au;clear x1 CW;have CSh:=H (Lz f t w1);go_upto_region 4 with(first
   |(go_at_call 100;refine(CN.out).mono ?_;rintro e w2 ⟨rfl,rfl⟩)
   |(go_at_call 101;refine(CSh.out).mono ?_;rintro e W1 ⟨rfl,zC,hbS⟩))
  have bV:Below w.heap.size w W1:=au.out.trans (hbS.mono au.out.size);have xW:=HX.out.on bV;have CG:=H (Kt xW t xr.2.1.1 (by omega));obtain⟨q,hq⟩:∃q,q=w1.heap.size:=⟨_,rfl⟩;rw[<-hq]at zC⊢;have hqw:w.heap.size<=q:=by rw[hq];exact au.out.size
  have hqW:q<W1.heap.size:=zC.row.lt;have Uh:=bV.size;have gH:=h0.size;have hMl:∀k,atG k->k<w.heap.size:=λk I=>HX.out.lt (.inl I);have Vd:¬atG q:=λI=>by have:=hMl q I;omega
  have FF:=HN.out.keep (Y:=W1) λj hj=>bV.block j (o7 j hj);replace zC:=H zC;replace FF:=H FF;replace bV:=H bV;clear k0 CN CSh hq hbS au HX HN xW df;have hBH:DQ ds h t=if t<=h then h else qT ds h t:=rfl;cases vL:lA ds h t with
  |true=>
   rw[vL]at CG;go_upto_region 5 with(go_at_call 102;refine(CG.out).mono ?_;rintro e w2 ⟨rfl,M2,x2,bL,nJ⟩);rw[<-hBH]at x2;have hzt:t<=DQ ds h t:=by
    unfold DQ qT;rw[vL];split
    ·omega
    simp
   have Ve:=H x2;obtain⟨Vf,b2,ip2,nc2,Jn,T2,x2⟩:=x2;have Jo:gP w2 q f t (η none 0 0) []:=⟨zC.out.row.ex bL Vd,dQ zC.out.own λg hg _=>by simp[ώ]at hg,zC.out.ne⟩;have Vg:=FF.out.keep (Y:=w2) λj hj=>bL.block j (κ (o7 j hj) Uh) (Qh j hj);have hqi:¬q∈ip2::T2.ax:=λI=>(nJ q (x2.mi q I)).elim Vd λh=>by omega
   have CC:=H (L6 s ip2 q T2 T2.size (DQ ds h t) f t (ζ (some ⟨Vf,0,none⟩)) (η an xs.length cn) xs w2 x2.idx x2.srt x2.sz x2.row Vg i7 Jo hqi (λe=>by have:=o7 q e;omega));have hcp:(iR xs (dz f t T2.aw)).Perm (oJ xs ds f t):=YB x2.ok hzt x2.hz.2 xs x2.perm;have dY:(iR xs (dz f t T2.aw)).length<=500:=by
    have G:=L5 xs (dz f t T2.aw);have A:(dz f t T2.aw).length<=T2.aw.length:=Ε _ _;rw[LT.cO]at A;have:=x2.sz;omega
   have cI:=x2.ok;have qB:=H ((ak.ar (O:=atG) bV.out).aM bL);have h02:Below w0.heap.size w0 w2:=h0.trans (qB.out.below gH hM);have Mv:∀k,M2 k\/E k->k<w2.heap.size/\k≠q:=λk I=>⟨Ve.out.lt I,λe=>by
    subst e;rcases I with I|I
    ·exact(nJ k I).elim Vd λh=>by omega
    exact jo (x2.et k I) (uU.row Jo.row (by decide) (by decide))⟩
   clear x2 Jo Vg zC FF CG bL;go_upto_region 7 with(go_at_call 103;refine(CC.out).mono ?_;rintro e w3 ⟨⟨u3,rfl⟩,v3,Vh,dZ,Lt⟩);have CT:=H (Mu (ds:=ds) (xs:=xs) ht h02 dZ (by omega) Vh Lt cI xr.2.2 (by omega) hcp (by omega));clear CC Vh Lt;replace dZ:=H dZ;go_wp2_with (go_at_call 105;refine(CT.out).mono ?_;rintro e w4 ⟨atI,rfl,hbt,bO⟩);go_ret;exact⟨atI,rfl,hbt,M2,Ve.out.keep λk I=>bO.block k (Mv k I).1 (Mv k I).2,qB.out.trans bO λk I=>.inr (by omega),λk I=>(nJ k I).imp id λh=>by omega⟩
  |false=>
   rw[vL]at CG;go_upto_region 6 with(go_at_call 102;refine(CG.out).mono ?_;rintro e w2 ⟨rfl,M2,x2,bL,nJ⟩);rw[<-hBH]at x2;have Ve:=H x2;obtain⟨Vf,b2,ip2,nc2,Jn,T2,x2⟩:=x2;have Jo:gP w2 q f t (η none 0 0) []:=⟨zC.out.row.ex bL Vd,dQ zC.out.own λg hg _=>by simp[ώ]at hg,zC.out.ne⟩;have Vg:=FF.out.keep (Y:=w2) λj hj=>bL.block j (κ (o7 j hj) Uh) (Qh j hj);have hqc:∀k,M2 k->k≠q:=λk I e=>by subst e;exact(nJ k I).elim Vd λh=>by omega
   obtain⟨Df,Vi⟩:∃Df:List Value->aK,∀ev,∀p∈Jn,p.1.ev=ev->(Df ev).kd=p.2.kd/\(Df ev).tq f t=p.2.tq f t:=Classical.axiomOfChoice (r:=λev (d:aK)=>∀p∈Jn,p.1.ev=ev->d.kd=p.2.kd/\d.tq f t=p.2.tq f t) λev=>by
    by_cases hex:∃p∈Jn,p.1.ev=ev
    ·obtain⟨p,J,hpe⟩:=hex;refine⟨p.2,λp' Aa he'=>?_⟩;have hu:=(x2.pd p J).uniq (x2.pd p' Aa) (hpe.trans he'.symm);rw[hu];exact⟨rfl,rfl⟩
    exact⟨⟨Ψ,Ψ,0,0,false,ic,[],[],false,0⟩,λp J he=>absurd ⟨p,J,he⟩ hex⟩
   have Qe:∀p∈Jn,p.2.ok:=λp J=>x2.ok p.2 (by rw[<-x2.snd];exact Ω J);have jZ:∀dK:List KE,dK.Perm ((Jn.map (·.1)).filter λk=>ρ xs k.kc)->2*((dK.map KE.ev).flatMap λe=>if(Df e).kd=0 then[]else jJ ((Df e).kd) ((Df e).tq f t)).length+4<=16777216:=λdK I=>by
    have G:dK.length<=30:=by
     rw[I.length_eq];exact ξ (Ε _ _) (by rw[ο];exact x2.k30)
    have A:=AW (λe=>if(Df e).kd=0 then[]else jJ ((Df e).kd) ((Df e).tq f t)) 86000 (dK.map KE.ev) λe he=>by
     obtain⟨k,cj,rfl⟩:=List.mem_map.1 he;obtain⟨p,J,rfl⟩:=List.mem_map.1 (List.mem_filter.1 (I.mem_iff.1 cj)).1;split
     ·simp
     unfold jJ;rw[ο,(Vi _ p J rfl).2];exact ade (Qe p J) (by omega)
    rw[ο]at A;have K:dK.length*86000<=30*86000:=Nat.mul_le_mul_right _ G;omega
   have CC:=H (Ma s Vf b2 q f t nc2 (ζ (some ⟨ip2,0,none⟩)) (η an xs.length cn) xs (Jn.map (·.1)) (λe=>(Df e).kd) (λe=>(Df e).tq f t) E w2 x2.dh.map x2.dh.row x2.row Vg i7 x2.AO Jo ⟨λe=>hqc Vf (x2.mc Vf (.inl rfl)) e.symm,λe=>hqc b2 (x2.mc b2 (.inr (.inl rfl))) e.symm⟩ (λe=>by have:=o7 q e;omega)
    (λk I wr _ hE=>by
     obtain⟨p,J,rfl⟩:=List.mem_map.1 I;simp only[(Vi _ p J rfl).1];exact((x2.pd p J).keep hE).kind)
    (λk I _ wr _ hE=>by
     obtain⟨p,J,rfl⟩:=List.mem_map.1 I;simp only[(Vi _ p J rfl).2];exact((x2.pd p J).keep hE).over (Qe p J) xr.1.1 (by omega) xr.2.1.1 (by omega))
    (λj hj=>⟨x2.el j hj,λe=>by subst e;exact jo (x2.et j hj) (uU.row Jo.row (by decide) (by decide))⟩) (λdK I=>by have:=jZ dK I;omega))
   have hcr:=H λ(dK:List KE) (I:dK.Perm ((Jn.map (·.1)).filter λk=>ρ xs k.kc))=>Vb (kd:=λe=>(Df e).kd) (sp:=λe=>(Df e).tq f t) (f:=f) (t:=t) x2.snd (λp J=>(x2.pd p J).1) (λp J=>Vi _ p J rfl) I;have cI:=x2.ok;have qB:=H ((ak.ar (O:=atG) bV.out).aM bL);have h02:Below w0.heap.size w0 w2:=h0.trans (qB.out.below gH hM);have Mv:∀k,M2 k\/E k->k<w2.heap.size/\k≠q:=λk I=>⟨Ve.out.lt I,λe=>by
    rcases I with I|I
    ·exact hqc k I e
    subst e;exact jo (x2.et k I) (uU.row Jo.row (by decide) (by decide))⟩
   replace jZ:=H jZ;clear x2 Jo Vg zC FF CG bL Vi Qe;go_upto_region 7 with(go_at_call 104;refine(CC.out).mono ?_;rintro e w3 ⟨dK,cj,⟨u3,rfl⟩,v3,Vh,dZ,Lt⟩);have CT:=H (Mu (ds:=ds) (xs:=xs) ht h02 dZ (by omega) Vh Lt cI xr.2.2 (by omega) (hcr.out dK cj) (jZ.out dK cj));clear CC Vh Lt cj hcr;replace dZ:=H dZ;go_wp2_with (go_at_call 105;refine(CT.out).mono ?_;rintro e w4 ⟨atI,rfl,hbt,bO⟩);go_ret;exact⟨atI,rfl,hbt,M2,Ve.out.keep λk I=>bO.block k (Mv k I).1 (Mv k I).2,qB.out.trans bO λk I=>.inr (by omega),λk I=>(nJ k I).imp id λh=>by omega⟩
theorem Hg (p:Addr)(w:μ):
 CallsD prog 164 #[ζ (some p)] .returning w λe u' Y=>e=δ (.tuple #[])/\u'=.returning/\Y=w:=by
 have hf:=kW p .nilIface;refine callsD_of_wpS func164 rfl λc₀ cs hu=>?_;refine mI λatH hK=>?_;refine wpS_region ?_;simp[wpOpsS,go_sem,recoverD,hu,ntmps164,Exit.thenS];rw[hf];refine hK _ _ _ ?_;clear hK atH hf;refine wpS_of_wp ?_;go_wp2;cases c₀;simp_all[bodyPostS,results,results164]
theorem zM (p:Addr)(e:Int)(x:Value)(pG:List PanicEntry)(w:μ)(hc:w.cell? p=some x)(hz:w.frozen? p=false)(J:p.block<w.heap.size):
 CallsD prog 164 #[ζ (some p)] (.panicking ({v:=.iface 103 (.agg #[V Z e]),recovered:=false}::pG)) w λE u' Y=>
  E=δ (.tuple #[])/\u'=.panicking ({v:=.iface 103 (.agg #[V Z e]),recovered:=true}::pG)/\Y=(w.alloc (ι #[V Z e] 103)).setCell p (V Z e):=by
 have hta:=tG;have fN:∀o,(w.alloc o).frozen? p=false:=λo=>by rw[World.frozen?_alloc_old w o p (by omega)];exact hz
 have hf:=kW p (.iface 103 (.agg #[V Z e]));refine callsD_of_wpS func164 rfl λc₀ cs hu=>?_;refine mI λatH hK=>?_;refine wpS_region ?_;simp[wpOpsS,go_sem,recoverD,hu,ntmps164,Exit.thenS];rw[hf];refine hK _ _ _ ?_;clear hK atH hf;refine wpS_of_wp ?_;go_wp2;exact⟨rfl,_,rfl,.tuple #[],by simp[results,results164],rfl,rfl,rfl⟩
theorem ak.upto {atG:aj}{w W w1:μ}(U:Below w.heap.size w W)(X:ak atG W w1){O:aj}{w2:μ}(bL:ak O w1 w2)(hO:∀k,O k->w.heap.size<=k):ak atG w w2:=((ak.ar U).aM X).trans bL λk I=>.inr (hO k I)
theorem af1 (g:Nat)(eg:∀args w,(callFunc g args).run prog w=.ok (.enter g args) w)(lb:Array Value)(atG:aj)(P:μ->Int->ByteArray->μ->Prop)(w:μ)(hM:∀k,atG k->k<w.heap.size)
 (hf:∀W,Below w.heap.size w W->χ prog g lb W λE w1=>ak atG W w1/\((∃s,E=δ (θ s)/\P W 0 s w1)\/∃x,E=ε (bF x)/\P W x ⟨#[]⟩ w1))
 (hP:∀W x s w1 w2 p,Below w.heap.size w W->w.heap.size<=p->p<W.heap.size->M w1 p [V Z 0] 27->P W x s w1->ak (λk=>k=p) w1 w2->P W x s w2):
 χ prog 34 #[.func (.func g) #[] lb] w λE Y=>∃W x s,E=δ (.tuple #[θ s,V Z x])/\Below w.heap.size w W/\P W x s Y/\ak atG w Y:=by
 have uo:∀(fn:Fn) (first cap:Array Value) (w:μ),(ω fn first cap).run prog w=.ok (.func fn first cap) w:=λ_ _ _ _=>rfl;have HF:=H hf;have HP:=H hP;have bV:Below w.heap.size w (w.alloc (ι #[V Z 0] 27)):=(ν _ _).alloc (π _) _;have mB:=M.new w [V Z 0] 27;have hM':¬atG w.heap.size:=λh=>by have:=hM _ h;omega
 have zv:w.heap.size<(w.alloc (ι #[V Z 0] 27)).heap.size:=by simp
 replace bV:=H bV;replace mB:=H mB;clear hf hP hM;go_enter_defers func34,ntmps34;go_wp2_with fail;refine(HF.out _ bV.out).mono ?_;rintro e w1 ⟨bz,h⟩;have dH:=mB.out.ex bz hM';have h0:=dH.cell (k:=0) rfl;have G:w1.frozen? ⟨w.heap.size,0,none⟩=false:=dH.free;have aQ:=dH.lt;replace bz:=H bz;rcases h with⟨s,rfl,J⟩|⟨x,rfl,J⟩
 ·replace J:=H J;replace dH:=H dH;clear mB;go_wp2;refine leaves_cons (f:=63) (args:=#[ζ (some ⟨w.heap.size,0,none⟩)]) (by simp) (by simp[go_sem]) ?_;refine(um _ _).mono ?_;rintro e u' az ⟨rfl,rfl,rfl⟩;refine⟨.tuple #[θ s,V Z 0],?_,_,0,s,rfl,bV.out,HP.out _ _ _ _ _ _ bV.out (π _) zv dH.out J.out ((ak.refl (λk=>k=w.heap.size) _).setCell (.inl rfl) _),ak.upto bV.out bz.out ((ak.refl (λk=>w.heap.size<=k) _).setCell (.inl (π _)) _) (λk h=>h)⟩;simp[results,results34,go_sem,h0]
 replace J:=H J;replace dH:=H dH;clear mB;refine leaves_cons (f:=63) (args:=#[ζ (some ⟨w.heap.size,0,none⟩)]) (by simp) (by simp[go_sem]) ?_;refine(oW ⟨w.heap.size,0,none⟩ x (V Z 0) [] _ h0 G aQ).mono ?_;rintro e u' az ⟨rfl,rfl,rfl⟩;refine⟨.tuple #[θ ⟨#[]⟩,V Z x],?_,_,x,⟨#[]⟩,rfl,bV.out,HP.out _ _ _ _ _ _ bV.out (π _) zv dH.out J.out (((ak.refl (λk=>k=w.heap.size) _).alloc _).setCell (.inl rfl) _),ak.upto bV.out bz.out (((ak.refl (λk=>w.heap.size<=k) _).alloc _).setCell (.inl (π _)) _) (λk h=>h)⟩;have A:((w1.alloc (ι #[V Z x] 103)).cell? ⟨w.heap.size,0,none⟩).isSome=true:=by
  rw[World.cell?_alloc_past _ _ _ aQ,h0];rfl
 simp[results,results34,go_sem,A]
theorem adg (g:Nat)(eg:∀args w,(callFunc g args).run prog w=.ok (.enter g args) w)(lb:Array Value)(atG:aj)(P:μ->Int->μ->Prop)(w:μ)(hM:∀k,atG k->k<w.heap.size)
 (hf:∀W,Below w.heap.size w W->χ prog g lb W λE w1=>ak atG W w1/\((E=δ (.agg #[])/\P W 0 w1)\/∃x,E=ε (bF x)/\P W x w1))
 (hP:∀W x w1 w2 p,Below w.heap.size w W->w.heap.size<=p->p<W.heap.size->M w1 p [V Z 0] 27->P W x w1->ak (λk=>k=p) w1 w2->P W x w2):
 χ prog 95 #[.func (.func g) #[] lb] w λE Y=>∃W x,E=δ (.tuple #[.agg #[],V Z x])/\Below w.heap.size w W/\P W x Y/\ak atG w Y:=by
 have uo:∀(fn:Fn) (first cap:Array Value) (w:μ),(ω fn first cap).run prog w=.ok (.func fn first cap) w:=λ_ _ _ _=>rfl;have HF:=H hf;have HP:=H hP;have bV:Below w.heap.size w ((w.alloc (ι #[] 142)).alloc (ι #[V Z 0] 27)):=((ν _ _).alloc (π _) _).alloc (by simp) _;have mB:M ((w.alloc (ι #[] 142)).alloc (ι #[V Z 0] 27)) (w.heap.size+1) [V Z 0] 27:=by
  have:=M.new (w.alloc (ι #[] 142)) [V Z 0] 27;simpa using this
 have hqW:M ((w.alloc (ι #[] 142)).alloc (ι #[V Z 0] 27)) w.heap.size [] 142:=by
  have:=(M.new w [] 142).on (((ν (w.alloc (ι #[] 142)).heap.size _).alloc (π _) (ι #[V Z 0] 27)));exact this
 have hM':¬atG (w.heap.size+1):=λh=>by have:=hM _ h;omega
 have hM2:¬atG w.heap.size:=λh=>by have:=hM _ h;omega
 have zv:w.heap.size+1<((w.alloc (ι #[] 142)).alloc (ι #[V Z 0] 27)).heap.size:=by simp
 replace bV:=H bV;replace mB:=H mB;replace hqW:=H hqW;replace zv:=H zv;clear hf hP hM;go_enter_defers func95,ntmps95;go_wp2_with fail;refine(HF.out _ bV.out).mono ?_;rintro e w1 ⟨bz,h⟩;have dH:=mB.out.ex bz hM';have Au:=hqW.out.ex bz hM2;have h0:=dH.cell (k:=0) rfl;have G:w1.frozen? ⟨w.heap.size+1,0,none⟩=false:=dH.free;have aQ:=dH.lt;replace bz:=H bz;rcases h with⟨rfl,J⟩|⟨x,rfl,J⟩
 ·replace J:=H J;replace dH:=H dH;clear mB;go_wp2;refine leaves_cons (f:=164) (args:=#[ζ (some ⟨w.heap.size+1,0,none⟩)]) (by simp) (by simp[go_sem]) ?_;refine(Hg _ _).mono ?_;rintro e u' az ⟨rfl,rfl,rfl⟩;refine⟨.tuple #[.agg #[],V Z 0],?_,_,0,rfl,bV.out,HP.out _ _ _ _ _ bV.out (Nat.le_succ _) zv.out dH.out J.out ((ak.refl (λk=>k=w.heap.size+1) _).setCell (.inl rfl) _),ak.upto bV.out bz.out ((ak.refl (λk=>w.heap.size<=k) _).setCell (.inl (Nat.le_succ _)) _) (λk h=>h)⟩;simp[results,results95,go_sem,h0]
 replace J:=H J;replace dH:=H dH;clear mB;refine leaves_cons (f:=164) (args:=#[ζ (some ⟨w.heap.size+1,0,none⟩)]) (by simp) (by simp[go_sem]) ?_;refine(zM ⟨w.heap.size+1,0,none⟩ x (V Z 0) [] _ h0 G aQ).mono ?_;rintro e u' az ⟨rfl,rfl,rfl⟩;refine⟨.tuple #[.agg #[],V Z x],?_,_,x,rfl,bV.out,HP.out _ _ _ _ _ bV.out (Nat.le_succ _) zv.out dH.out J.out (((ak.refl (λk=>k=w.heap.size+1) _).alloc _).setCell (.inl rfl) _),ak.upto bV.out bz.out (((ak.refl (λk=>w.heap.size<=k) _).alloc _).setCell (.inl (Nat.le_succ _)) _) (λk h=>h)⟩;have A:((w1.alloc (ι #[V Z x] 103)).cell? ⟨w.heap.size+1,0,none⟩).isSome=true:=by
  rw[World.cell?_alloc_past _ _ _ aQ,h0];rfl
 simp[results,results95,go_sem,A]
theorem C6 (g:Nat)(eg:∀args w,(callFunc g args).run prog w=.ok (.enter g args) w)(lb:Array Value)(atG:aj)(P:μ->Int->μ->Prop)(w:μ)(hM:∀k,atG k->k<w.heap.size)
 (hf:∀W,Below w.heap.size w W->χ prog g lb W λE w1=>ak atG W w1/\(((∃v,E=δ v)/\P W 0 w1)\/∃x,E=ε (bF x)/\P W x w1))
 (hP:∀W x w1 w2 p,Below w.heap.size w W->w.heap.size<=p->p<W.heap.size->M w1 p [V Z 0] 27->P W x w1->ak (λk=>k=p) w1 w2->P W x w2)
 (hPb:∀W x w1 w2,P W x w1->Below w1.heap.size w1 w2->P W x w2):
 χ prog 51 #[.func (.func g) #[] lb] w λE Y=>∃W x,E=δ (V Z x)/\Below w.heap.size w W/\P W x Y/\ak atG w Y:=by
 have uo:∀(fn:Fn) (first cap:Array Value) (w:μ),(ω fn first cap).run prog w=.ok (.func fn first cap) w:=λ_ _ _ _=>rfl;have HF:=H hf;obtain⟨W0,gp⟩:∃W0,W0=w.alloc (ι #[.func (.func g) #[] lb] 1):=⟨_,rfl⟩;have bh:Below w.heap.size w W0:=by rw[gp];exact(ν _ _).alloc (π _) _
 have xl:M W0 w.heap.size [.func (.func g) #[] lb] 1:=by rw[gp];exact M.new w _ _
 have gH:=bh.size;have my:∀args w,(callFunc 96 args).run prog w=.ok (.enter 96 args) w:=enters_of func96 (by kernel_rfl) rfl;have C1:Hid (∀ae,Below W0.heap.size W0 ae->χ prog 96 #[ζ (some ⟨w.heap.size,0,none⟩)] ae λE w1=>ak atG ae w1/\((E=δ (.agg #[])/\∃W,Below w.heap.size w W/\ae.heap.size<=W.heap.size/\P W 0 w1)\/∃x,E=ε (bF x)/\∃W,Below w.heap.size w W/\ae.heap.size<=W.heap.size/\P W x w1)):=H λae Vj=>by
  have hwV:Below w.heap.size w ae:=bh.trans (Vj.mono gH);have k0:=(xl.on Vj).cell (k:=0) rfl;obtain⟨V1,hV1⟩:∃V1,V1=ae.alloc (ι #[] 142):=⟨_,rfl⟩;have au:Below ae.heap.size ae V1:=by rw[hV1];exact(ν _ _).alloc (π _) _
  have Au:M V1 ae.heap.size [] 142:=by rw[hV1];exact M.new ae _ _
  have Mw:Below w.heap.size w V1:=hwV.trans (au.mono hwV.size);have CF:=H (HF.out V1 Mw);have hMV:¬atG ae.heap.size:=λh=>by have:=hM _ h;have:=hwV.size;omega
  have k1:V1.cell? ⟨w.heap.size,0,none⟩=some (.func (.func g) #[] lb):=((xl.on Vj).on au).cell (k:=0) rfl;replace au:=H au;replace Mw:=H Mw;replace Au:=H Au;have af3:=H hV1;clear hwV hP hPb hf HF gp xl Vj hV1;go_enter func96,ntmps96;go_upto_region 1 with fail;rw[<-af3.out];clear af3;go_wp2_with fail;refine(CF.out).mono ?_;rintro e w1 ⟨bz,h⟩;have hq2:=Au.out.ex bz hMV;rcases h with⟨⟨v,rfl⟩,J⟩|⟨x,rfl,J⟩
  ·replace bz:=H bz;replace J:=H J;clear k0 k1 CF Au;go_wp2_with fail;refine⟨rfl,.agg #[],?_,(ak.ar au.out).aM bz.out,.inl ⟨rfl,V1,Mw.out,au.out.size,J.out⟩⟩;simp[results,results96,go_sem]
  exact⟨rfl,(ak.ar au.out).aM bz,.inr ⟨x,rfl,V1,Mw.out,au.out.size,J⟩⟩
 have CA:=H (adg 96 my #[ζ (some ⟨w.heap.size,0,none⟩)] atG (λae x w1=>∃W,Below w.heap.size w W/\ae.heap.size<=W.heap.size/\P W x w1) W0 (λk I=>κ (hM k I) gH) C1.out (λae x w1 w2 p _ G A K ⟨W,q1,q2,q3⟩ h4=>⟨W,q1,q2,hP W x w1 w2 p q1 (by omega) (by omega) K q3 h4⟩));replace bh:=H bh;replace hPb:=H hPb;have DS:=H gp;clear C1 HF hf hP hM xl gp;go_enter func51,ntmps51;go_upto_region 1 with fail;rw[<-DS.out];go_wp2_with (go_at_call 95;refine(CA.out).mono ?_;rintro e w4 ⟨ae,x,rfl,Vj,⟨W,q1,q2,q3⟩,bO⟩);go_ret;have cE:Below w4.heap.size w4 (w4.alloc (ι #[] 142)):=(ν _ _).alloc (π _) _;exact⟨W,x,rfl,q1,hPb.out _ _ _ _ q3 cE,((ak.ar bh.out).aM bO).aM (ak.ar cE)⟩
end
section
structure vR where
 ns:List ByteArray
 ds:List aK
 h:Int
def mV (c:ByteArray)(t:List UInt8)(st:vR):Int×vR:=match AR c t st.ns st.ds with
 | .error x=>(x,st)
 | .ok D=>(0,⟨wI D.kc st.ns,mn D st.ds,DO D st.ds st.h⟩)
def oM (t:Int)(st:vR):Int×vR:=if cq t then(if lA st.ds st.h t then 0 else 5,⟨st.ns,st.ds,qT st.ds st.h t⟩)else(1,st)
def uW (xs:List ByteArray)(f t:Int)(st:vR):Int×vR:=if pZ f t then match jC xs st.ns with
 |some y=>(y,st)
 |none=>(0,⟨st.ns,st.ds,DQ st.ds st.h t⟩)
 else(7,st)
def kP (s:Nat)(atG:aj)(st:vR)(n:Nat)(w:μ):Prop:=∃M' E':aj,cX w s M' E' st.ns st.ds st.h/\∀k,M' k->atG k\/n<=k
theorem kP.on {s:Nat}{atG:aj}{st:vR}{n:Nat}{w Y:μ}(x:kP s atG st n w)(U:Below w.heap.size w Y):kP s atG st n Y:=by
 obtain⟨M',E',G,A⟩:=x;exact⟨M',E',G.on U,A⟩
theorem kP.Sm {s:Nat}{atG:aj}{st:vR}{m n p:Nat}{w Y:μ}(x:kP s atG st n w)(hM:∀k,atG k->k<m)(G:m<=p)(A:p<n)(hr:M w p [V Z 0] 27)(X:ak (λk=>k=p) w Y):kP s atG st n Y:=by
 obtain⟨M',E',a1,a2⟩:=x;refine⟨M',E',a1.aL X λk I e=>?_,a2⟩;subst e;rcases I with I|I
 ·rcases a2 k I with h|h
  ·have:=hM k h;omega
  omega
 obtain⟨cp,b,ip,nv,ps,T,y⟩:=a1;exact jo (y.et k I) (uU.row hr (by decide) (by decide))
theorem kP.low {s:Nat}{atG:aj}{st:vR}{m n:Nat}{w:μ}(x:kP s atG st n w)(h:m<=n):kP s atG st m w:=by
 obtain⟨M',E',a1,a2⟩:=x;exact⟨M',E',a1,λk I=>(a2 k I).imp id λh'=>ξ h h'⟩
section
variable {w:μ} {s:Nat} {atG E:aj} {st:vR}
theorem tI.sv {W w1:μ}{c:ByteArray}{t:List UInt8}{e:ύ}(x:cX W s atG E st.ns st.ds st.h)(h:tI s atG st.ns st.ds st.h c t W e w1):ak atG W w1/\(((∃v,e=δ v)/\(0=(mV c t st).1/\kP s atG (mV c t st).2 W.heap.size w1))\/∃y,e=ε (bF y)/\(y=(mV c t st).1/\kP s atG (mV c t st).2 W.heap.size w1)):=by
 unfold tI at h;unfold mV;cases J:AR c t st.ns st.ds with
 |error y=>
  rw[J]at h;obtain⟨G,A⟩:=h;exact⟨ak.ar A,.inr ⟨y,G,rfl,atG,E,x.on A,λk I=>.inl I⟩⟩
 |ok D=>
  rw[J]at h;obtain⟨G,M',E',A,K,h4,_⟩:=h;exact⟨K,.inl ⟨G,rfl,M',E',A,h4⟩⟩
theorem AP.sv {W w1:μ}{t:Int}{e:ύ}(x:cX W s atG E st.ns st.ds st.h)(h:AP s atG E st.ns st.ds st.h t W e w1):ak atG W w1/\(((∃v,e=δ v)/\(0=(oM t st).1/\kP s atG (oM t st).2 W.heap.size w1))\/∃y,e=ε (bF y)/\(y=(oM t st).1/\kP s atG (oM t st).2 W.heap.size w1)):=by
 unfold AP at h;unfold oM;cases ht:cq t with
 |false=>
  rw[ht]at h;obtain⟨G,A⟩:=h;exact⟨ak.ar A,.inr ⟨1,G,rfl,atG,E,x.on A,λk I=>.inl I⟩⟩
 |true=>
  rw[ht]at h;obtain⟨G,M',A,K,h4⟩:=h;refine⟨K,?_⟩;cases hm:lA st.ds st.h t with
  |true=>rw[hm]at G;exact .inl ⟨⟨_,G⟩,rfl,M',E,A,h4⟩
  |false=>rw[hm]at G;exact .inr ⟨5,G,rfl,M',E,A,h4⟩
theorem Mx (x:cX w s atG E st.ns st.ds st.h)(c:ByteArray)(t:List UInt8)(hm:ML w)(hc:c.size<=maxLen)(hs:t.length<=1048576):
 χ prog 50 #[ζ (some ⟨s,0,none⟩),θ c,θ ⟨t.toArray⟩] w λe Y=>e=δ (V Z (mV c t st).1)/\kP s atG (mV c t st).2 w.heap.size Y/\ak atG w Y:=by
 have uo:∀(fn:Fn) (first cap:Array Value) (w:μ),(ω fn first cap).run prog w=.ok (.func fn first cap) w:=λ_ _ _ _=>rfl;obtain⟨W0,gp⟩:∃W0,W0=((w.alloc (ι #[ζ (some ⟨s,0,none⟩)] 49)).alloc (ι #[θ c] 9)).alloc (ι #[θ ⟨t.toArray⟩] 9):=⟨_,rfl⟩;have bh:Below w.heap.size w W0:=by rw[gp];exact iD w _ _ _
 have r0:M W0 w.heap.size [ζ (some ⟨s,0,none⟩)] 49:=by rw[gp];exact lL w _ _ _ _
 have r1:M W0 (w.heap.size+1) [θ c] 9:=by rw[gp];exact lM w _ _ _ _
 have r2:M W0 (w.heap.size+1+1) [θ ⟨t.toArray⟩] 9:=by rw[gp];exact lN w _ _ _ _
 have eg:∀args w,(callFunc 93 args).run prog w=.ok (.enter 93 args) w:=enters_of func93 (by kernel_rfl) rfl;have tu:∀k,atG k->k<w.heap.size:=λk I=>x.lt (.inl I);have C1:Hid (∀W,Below W0.heap.size W0 W->χ prog 93 #[ζ (some ⟨w.heap.size,0,none⟩),ζ (some ⟨w.heap.size+1,0,none⟩),ζ (some ⟨w.heap.size+1+1,0,none⟩)] W λE w1=>ak atG W w1/\(((∃v,E=δ v)/\(0=(mV c t st).1/\kP s atG (mV c t st).2 W.heap.size w1))\/∃y,E=ε (bF y)/\(y=(mV c t st).1/\kP s atG (mV c t st).2 W.heap.size w1))):=H λW U=>by
  have bV:Below w.heap.size w W:=bh.trans (U.mono bh.size);have xW:=x.on bV;have C:=H ((Sf xW c t (hm.on bV) hc hs).mono λe w1 h=>tI.sv xW h);have k0:=(r0.on U).cell (k:=0) rfl;have k1:=(r1.on U).cell (k:=0) rfl;have k2:=(r2.on U).cell (k:=0) rfl;clear xW bV U r0 r1 r2 bh gp x hm;go_enter func93,ntmps93;go_wp2_with fail;refine(C.out).mono ?_;rintro e w1 ⟨G,⟨⟨v,rfl⟩,A⟩|⟨y,rfl,A⟩⟩
  ·replace G:=H G;replace A:=H A;clear C k0 k1 k2;go_wp2_with fail;go_end0;exact⟨G.out,.inl ⟨⟨_,rfl⟩,A.out⟩⟩
  exact⟨rfl,G,.inr ⟨y,rfl,A⟩⟩
 have CO:=H (C6 93 eg #[ζ (some ⟨w.heap.size,0,none⟩),ζ (some ⟨w.heap.size+1,0,none⟩),ζ (some ⟨w.heap.size+1+1,0,none⟩)] atG (λW y w1=>y=(mV c t st).1/\kP s atG (mV c t st).2 W.heap.size w1) W0 (λk I=>κ (tu k I) bh.size) C1.out
  (λW y w1 w2 p _ p1 p2 p3 ⟨G,A⟩ p4=>⟨G,A.Sm (λk I=>κ (tu k I) bh.size) p1 p2 p3 p4⟩) (λW y w1 w2 ⟨G,A⟩ U=>⟨G,A.on U⟩))
 replace bh:=H bh;have DS:=H gp;clear C1 x hm r0 r1 r2 gp tu;go_enter func50,ntmps50;go_upto_region 1 with fail;rw[<-DS.out];go_wp2_with (go_at_call 51;refine(CO.out).mono ?_;rintro e w4 ⟨W,y,rfl,bV,⟨hy,h4⟩,bO⟩);go_ret;subst hy;exact⟨rfl,h4.low (ξ bh.out.size bV.size),(ak.ar bh.out).aM bO⟩
theorem YO (x:cX w s atG E st.ns st.ds st.h)(t:Int)(ht:jg w):
 χ prog 27 #[ζ (some ⟨s,0,none⟩),V Z t] w λe Y=>e=δ (V Z (oM t st).1)/\kP s atG (oM t st).2 w.heap.size Y/\ak atG w Y:=by
 have uo:∀(fn:Fn) (first cap:Array Value) (w:μ),(ω fn first cap).run prog w=.ok (.func fn first cap) w:=λ_ _ _ _=>rfl;obtain⟨W0,gp⟩:∃W0,W0=(w.alloc (ι #[ζ (some ⟨s,0,none⟩)] 49)).alloc (ι #[V Z t] 3):=⟨_,rfl⟩;have bh:Below w.heap.size w W0:=by rw[gp];exact mP w _ _
 have r0:M W0 w.heap.size [ζ (some ⟨s,0,none⟩)] 49:=by rw[gp];exact kK w _ _ _
 have r1:M W0 (w.heap.size+1) [V Z t] 3:=by rw[gp];exact kM w _ _ _
 have eg:∀args w,(callFunc 52 args).run prog w=.ok (.enter 52 args) w:=enters_of func52 (by kernel_rfl) rfl;have tu:∀k,atG k->k<w.heap.size:=λk I=>x.lt (.inl I);have C1:Hid (∀W,Below W0.heap.size W0 W->χ prog 52 #[ζ (some ⟨w.heap.size,0,none⟩),ζ (some ⟨w.heap.size+1,0,none⟩)] W λE w1=>ak atG W w1/\(((∃v,E=δ v)/\(0=(oM t st).1/\kP s atG (oM t st).2 W.heap.size w1))\/∃y,E=ε (bF y)/\(y=(oM t st).1/\kP s atG (oM t st).2 W.heap.size w1))):=H λW U=>by
  have bV:Below w.heap.size w W:=bh.trans (U.mono bh.size);have xW:=x.on bV;have C:=H ((OG xW t (ht.on bV)).mono λe w1 h=>AP.sv xW h);have k0:=(r0.on U).cell (k:=0) rfl;have k1:=(r1.on U).cell (k:=0) rfl;clear xW bV U r0 r1 bh gp x ht;go_enter func52,ntmps52;go_wp2_with fail;refine(C.out).mono ?_;rintro e w1 ⟨G,⟨⟨v,rfl⟩,A⟩|⟨y,rfl,A⟩⟩
  ·replace G:=H G;replace A:=H A;clear C k0 k1;go_wp2_with fail;go_end0;exact⟨G.out,.inl ⟨⟨_,rfl⟩,A.out⟩⟩
  exact⟨rfl,G,.inr ⟨y,rfl,A⟩⟩
 have CO:=H (C6 52 eg #[ζ (some ⟨w.heap.size,0,none⟩),ζ (some ⟨w.heap.size+1,0,none⟩)] atG (λW y w1=>y=(oM t st).1/\kP s atG (oM t st).2 W.heap.size w1) W0 (λk I=>κ (tu k I) bh.size) C1.out
  (λW y w1 w2 p _ p1 p2 p3 ⟨G,A⟩ p4=>⟨G,A.Sm (λk I=>κ (tu k I) bh.size) p1 p2 p3 p4⟩) (λW y w1 w2 ⟨G,A⟩ U=>⟨G,A.on U⟩))
 replace bh:=H bh;have DS:=H gp;clear C1 x ht r0 r1 gp tu;go_enter func27,ntmps27;go_upto_region 1 with fail;rw[<-DS.out];go_wp2_with (go_at_call 51;refine(CO.out).mono ?_;rintro e w4 ⟨W,y,rfl,bV,⟨hy,h4⟩,bO⟩);go_ret;subst hy;exact⟨rfl,h4.low (ξ bh.out.size bV.size),(ak.ar bh.out).aM bO⟩
def yE (xs:List ByteArray)(f t:Int)(st:vR)(y:Int)(atI:ByteArray):Prop:=y=(uW xs f t st).1/\if y=0 then Fq xs st.ds f t atI else atI=⟨#[]⟩
theorem YQ {xs ns:List ByteArray}{y:Int}(h:jC xs ns=some y):y≠0:=by
 unfold jC at h;split at h
 ·cases h;decide
 split at h
 ·cases h;decide
 split at h
 ·cases h;decide
 cases h
theorem wJ.sv {W w1:μ}{xs:List ByteArray}{f t:Int}{e:ύ}(x:cX W s atG E st.ns st.ds st.h)(h:wJ s atG E st.ns st.ds st.h xs f t W e w1):ak atG W w1/\((∃atI,e=δ (θ atI)/\(yE xs f t st 0 atI/\kP s atG (uW xs f t st).2 W.heap.size w1))\/∃y,e=ε (bF y)/\(yE xs f t st y ⟨#[]⟩/\kP s atG (uW xs f t st).2 W.heap.size w1)):=by
 unfold wJ at h;unfold yE uW;cases zB:pZ f t with
 |false=>
  rw[zB]at h;obtain⟨G,A⟩:=h;exact⟨ak.ar A,.inr ⟨7,G,⟨rfl,by simp⟩,atG,E,x.on A,λk I=>.inl I⟩⟩
 |true=>
  rw[zB]at h;simp only[if_true]at h⊢;cases df:jC xs st.ns with
  |some y=>
   rw[df]at h;obtain⟨G,A⟩:=h;exact⟨ak.ar A,.inr ⟨y,G,⟨rfl,by simp[YQ df]⟩,atG,E,x.on A,λk I=>.inl I⟩⟩
  |none=>
   rw[df]at h;obtain⟨atI,G,A,M',K,h4,h5⟩:=h;exact⟨h4,.inl ⟨atI,G,⟨rfl,A⟩,M',E,K,h5⟩⟩
theorem Jq {w0:μ}(x:cX w s atG E st.ns st.ds st.h)(nv:Value)(xs:List ByteArray)(f t:Int)(ht:jg w0)(h0:Below w0.heap.size w0 w)(hM:∀k,atG k->w0.heap.size<=k)(hn:fQ w nv xs)(i7:xs.length<=9223372036854775807)(Qh:∀k,nv.ownBlock=some k->¬atG k):
 χ prog 28 #[ζ (some ⟨s,0,none⟩),nv,V Z f,V Z t] w λe Y=>∃y atI,e=δ (.tuple #[θ atI,V Z y])/\yE xs f t st y atI/\kP s atG (uW xs f t st).2 w.heap.size Y/\ak atG w Y:=by
 have uo:∀(fn:Fn) (first cap:Array Value) (w:μ),(ω fn first cap).run prog w=.ok (.func fn first cap) w:=λ_ _ _ _=>rfl;obtain⟨an,cn,mA⟩:=hn.sl;obtain⟨W0,gp⟩:∃W0,W0=(((w.alloc (ι #[ζ (some ⟨s,0,none⟩)] 49)).alloc (ι #[η an xs.length cn] 52)).alloc (ι #[V Z f] 3)).alloc (ι #[V Z t] 3):=⟨_,rfl⟩;have bh:Below w.heap.size w W0:=by rw[gp];exact Pm w _ _ _ _
 have r0:M W0 w.heap.size [ζ (some ⟨s,0,none⟩)] 49:=by rw[gp];exact TR w _ _ _ _ _
 have r1:M W0 (w.heap.size+1) [η an xs.length cn] 52:=by rw[gp];exact TS w _ _ _ _ _
 have r2:M W0 (w.heap.size+1+1) [V Z f] 3:=by rw[gp];exact TT w _ _ _ _ _
 have r3:M W0 (w.heap.size+1+1+1) [V Z t] 3:=by rw[gp];exact TU w _ _ _ _ _
 have eg:∀args w,(callFunc 54 args).run prog w=.ok (.enter 54 args) w:=enters_of func54 (by kernel_rfl) rfl;have tu:∀k,atG k->k<w.heap.size:=λk I=>x.lt (.inl I);have C1:Hid (∀W,Below W0.heap.size W0 W->χ prog 54 #[ζ (some ⟨w.heap.size,0,none⟩),ζ (some ⟨w.heap.size+1,0,none⟩),ζ (some ⟨w.heap.size+1+1,0,none⟩),ζ (some ⟨w.heap.size+1+1+1,0,none⟩)] W λE w1=>ak atG W w1/\((∃atI,E=δ (θ atI)/\(yE xs f t st 0 atI/\kP s atG (uW xs f t st).2 W.heap.size w1))\/∃y,E=ε (bF y)/\(yE xs f t st y ⟨#[]⟩/\kP s atG (uW xs f t st).2 W.heap.size w1))):=H λW U=>by
  have bV:Below w.heap.size w W:=bh.trans (U.mono bh.size);have xW:=x.on bV;have C:=H ((YN xW nv xs f t ht (h0.trans (bV.mono h0.size)) hM (hn.keep λj hj=>bV.block j (hn.lt hj)) i7 Qh).mono λe w1 h=>wJ.sv xW h);have k0:=(r0.on U).cell (k:=0) rfl;have k1:=(r1.on U).cell (k:=0) rfl;have k2:=(r2.on U).cell (k:=0) rfl;have k3:=(r3.on U).cell (k:=0) rfl;rw[mA]at C;clear xW bV U r0 r1 r2 r3 bh gp x ht hn mA Qh;go_enter func54,ntmps54;go_wp2_with fail;refine(C.out).mono ?_;rintro e w1 ⟨G,⟨atI,rfl,A⟩|⟨y,rfl,A⟩⟩
  ·replace G:=H G;replace A:=H A;clear C k0 k1 k2 k3;go_wp2_with fail;go_ret;exact⟨G.out,.inl ⟨atI,rfl,A.out⟩⟩
  exact⟨rfl,G,.inr ⟨y,rfl,A⟩⟩
 have CO:=H (af1 54 eg #[ζ (some ⟨w.heap.size,0,none⟩),ζ (some ⟨w.heap.size+1,0,none⟩),ζ (some ⟨w.heap.size+1+1,0,none⟩),ζ (some ⟨w.heap.size+1+1+1,0,none⟩)] atG (λW y atI w1=>yE xs f t st y atI/\kP s atG (uW xs f t st).2 W.heap.size w1) W0 (λk I=>κ (tu k I) bh.size) C1.out
  (λW y atI w1 w2 p _ p1 p2 p3 ⟨G,A⟩ p4=>⟨G,A.Sm (λk I=>κ (tu k I) bh.size) p1 p2 p3 p4⟩))
 replace bh:=H bh;have DS:=H gp;clear C1 x ht r0 r1 r2 r3 gp tu hn Qh;rw[mA];clear mA;go_enter func28,ntmps28;go_upto_region 1 with fail;rw[<-DS.out];go_wp2_with (go_at_call 34;refine(CO.out).mono ?_;rintro e w4 ⟨W,y,atI,rfl,bV,⟨hy,h4⟩,bO⟩;replace hy:=H hy);go_ret2;exact⟨y,atI,rfl,hy.out,h4.low (ξ bh.out.size bV.size),(ak.ar bh.out).aM bO⟩
end
end
def cN (i:Nat):ByteArray:=bU (99::cY i)
def eN (i:Nat):ByteArray:=bU (101::cY i)
theorem Qi:∀i,i<12->fT (cN i)=true:=by decide
theorem adh:∀i,i<12->fT (eN i)=true:=by decide
theorem Jr:∀i:Nat,i<12->∀j:Nat,j<12->cY i=cY j->i=j:=by decide
theorem Vk {i j:Nat}(S:i<12)(hj:j<12)(h:cN i=cN j):i=j:=by
 have G:=xA.1 h;injection G with _ G
 exact Jr i S j hj G
theorem af4 {i j:Nat}(S:i<12)(hj:j<12)(h:eN i=eN j):i=j:=by
 have G:=xA.1 h;injection G with _ G
 exact Jr i S j hj G
def abJ:ByteArray:=bU [108,97,115,116]
theorem adi (i:Nat):eN i≠abJ:=by
 intro h;have G:=xA.1 h;injection G with G _
 cases G
def qC (k:Int):Option (List UInt8):=some (if bN k 4=0 then jD else if bN k 4=1 then jE else jF)
theorem af5 (k:Int):qC k=none\/qC k=some jF\/qC k=some jE\/qC k=some jD:=by
 unfold qC;split
 ·exact .inr (.inr (.inr rfl))
 split
 ·exact .inr (.inr (.inl rfl))
 exact .inr (.inl rfl)
def mE (x:Int×Int×Int):Int:=1893456000+900*bN x.1 192
def og (x:Int×Int×Int):Int:=900*(1+bN x.2.1 40)
theorem vS (x:Int×Int×Int):1893456000<=mE x/\mE x<=1893456000+900*191/\900<=og x/\og x<=36000:=by
 have G:=fa x.1 192 (by omega);have A:=fa x.2.1 40 (by omega);unfold mE og;omega
def Sn (n:Nat)(i:Nat)(x:Int×Int×Int):aK:=⟨cN (i%n),eN i,mE x,og x,false,ic,[],[],false,kO (qC x.2.2)-1⟩
def FG:aK:=⟨cN 0,abJ,1919376000,60,false,ic,[],[],false,0⟩
def FH (n:Nat)(l:List (Int×Int×Int))(i:Nat):List aK:=(ψ i).map λj=>Sn n j (l.getD j (0,0,0))
def jI (m:Nat):List ByteArray:=(ψ m).map cN
def xB (n:Nat)(l:List (Int×Int×Int))(i:Nat):vR:=⟨jI (min n i),FH n l i,0⟩
def dT (n:Nat)(l:List (Int×Int×Int))(m:Nat):vR:=⟨jI (max 1 (min n m)),FH n l m++[FG],0⟩
theorem DT {c u:ByteArray}{st ln k:Int}(s0:0<=st)(s1:st<=7258118400)(l0:1<=ln)(l1:ln<=10000000):aK.ok ⟨c,u,st,ln,false,ic,[],[],false,k⟩:=
 ⟨λh=>(by cases h),⟨s0,s1⟩,⟨l0,l1⟩,List.Pairwise.nil,by simp⟩
theorem Hh (n i:Nat)(x:Int×Int×Int):(Sn n i x).ok:=by
 have:=vS x;exact DT (by omega) (by omega) (by omega) (by omega)
theorem Jt:FG.ok:=DT (by decide) (by decide) (by decide) (by decide)
theorem Vl (n:Nat)(l:List (Int×Int×Int))(i:Nat):∀d∈FH n l i,d.ok:=by
 intro d hd;obtain⟨j,_,rfl⟩:=List.mem_map.1 hd;exact Hh _ _ _
theorem af6 {c:ByteArray}{u:List UInt8}{st ln:Int}{o:Option (List UInt8)}(ho:o=none\/o=some jF\/o=some jE\/o=some jD)(hu:fT (ba u)=true)(s0:0<=st)(s1:st+ln<=7258118399)(l0:1<=ln)(l1:ln<=2678400):
 ∃d,iz (nR u st ln o)=.ok d/\mT c d=⟨c,bU u,st,ln,false,ic,[],[],false,kO o-1⟩:=by
 obtain⟨f,G,A,K,h4⟩:=YR u st ln o ho hu s0 s1 l0 l1;refine⟨_,G,?_⟩;unfold mT jq jr;simp only[A,K,h4];rfl
theorem Qj {c:ByteArray}{u:List UInt8}{st ln:Int}{o:Option (List UInt8)}{ns:List ByteArray}{ds:List aK}(hc:fT c=true)(ho:o=none\/o=some jF\/o=some jE\/o=some jD)(hu:fT (ba u)=true)(s0:0<=st)(s1:st+ln<=7258118399)(l0:1<=ln)(l1:ln<=2678400)
 (hn:ns.length<8)(hd:ds.length<30)(I:∀d∈ds,d.ku≠bU u)(cI:∀d∈ds,d.ok):
 mV c (nR u st ln o) ⟨ns,ds,0⟩=(0,⟨wI c ns,ds++[⟨c,bU u,st,ln,false,ic,[],[],false,kO o-1⟩],0⟩):=by
 obtain⟨d,G,A⟩:=af6 (c:=c) ho hu s0 s1 l0 l1;have hh:qR c (bU u) ds=false:=by
  unfold qR;rw[List.any_eq_false];intro x X hs;exact I x X (jW.1 hs).2
 have hf:jY c (bU u) ns ds=false:=by
  unfold jY;rw[hh];simp;omega
 obtain⟨D,hD⟩:∃D:aK,D=⟨c,bU u,st,ln,false,ic,[],[],false,kO o-1⟩:=⟨_,rfl⟩;have hDk:D.kc=c/\D.ku=bU u:=by rw[hD];exact⟨rfl,rfl⟩
 have hDo:D.ok:=by rw[hD];exact DT s0 (by omega) l0 (by omega)
 rw[<-hD]at A⊢;have J:mn D ds=ds++[D]:=by unfold mn;rw[hDk.1,hDk.2,hh];rfl
 have he:AR c (nR u st ln o) ns ds=.ok D:=by
  unfold AR;rw[hc,G];simp only[if_true,A,hDk.2,hf];rfl
 unfold mV;simp only[he];unfold DO;rw[J,Fs,if_pos (by omega),hDk.1];intro x X;rcases List.mem_append.1 X with X|X
 ·exact cI x X
 rw[List.mem_singleton.1 X];exact hDo
theorem tT {m i:Nat}(hm:m<=12)(S:i<12):ρ (jI m) (cN i)=decide (i<m):=by
 rw[Ν,Lib.containsS_iff,decide_eq_true_eq];unfold jI;rw[List.mem_map];constructor
 ·rintro⟨j,hj,e⟩;rw[Ο]at hj;rw[Vk S (by omega) e.symm];exact hj
 intro h;exact⟨i,List.mem_range.2 h,rfl⟩
theorem My (m:Nat):jI (m+1)=jI m++[cN m]:=by unfold jI;rw[Λ,Ϗ];rfl
theorem YT {n i:Nat}{l:List (Int×Int×Int)}{x:Int×Int×Int}(n1:1<=n)(n4:n<=4)(S:i<12)(X:l[i]?=some x):
 mV (cN (i%n)) (nR (101::cY i) (mE x) (og x) (qC x.2.2)) (xB n l i)=(0,xB n l (i+1)):=by
 have U:=vS x;have lP:i%n<n:=Nat.mod_lt _ (by omega);unfold xB;rw[Qj (Qi (i%n) (by omega)) (af5 _) (adh i S) (by omega) (by omega) (by omega) (by omega) (by unfold jI;rw[ο,φ];omega) (by unfold FH;rw[ο,φ];omega) ?_ (Vl n l i)]
 ·congr 1;congr 1
  ·unfold wI;rw[tT (by omega) (by omega)];by_cases amY:i<n
   ·have e1:i%n=i:=Nat.mod_eq_of_lt amY;rw[e1,show min n i=i by omega,show min n (i+1)=i+1 by omega,My];simp
   rw[show min n i=n by omega,show min n (i+1)=n by omega];simp[lP]
  unfold FH;rw[Λ,Ϗ];congr 1;simp only[List.map_cons,List.map_nil,Ρ,X,Option.getD_some];rfl
 intro d hd;obtain⟨j,hj,rfl⟩:=List.mem_map.1 hd;rw[Ο]at hj;intro e;have:=af4 (i:=j) (j:=i) (by omega) S e;omega
theorem YU {n m:Nat}{l:List (Int×Int×Int)}(n1:1<=n)(n4:n<=4)(hm:m<=12):
 mV (cN 0) (nR [108,97,115,116] 1919376000 60 none) (xB n l m)=(0,dT n l m):=by
 unfold xB dT;rw[Qj (Qi 0 (by decide)) (.inl rfl) (by decide) (by decide) (by decide) (by decide) (by decide) (by unfold jI;rw[ο,φ];omega) (by unfold FH;rw[ο,φ];omega) ?_ (Vl n l m)]
 ·congr 1;congr 1;unfold wI;rw[tT (by omega) (by decide)];by_cases h0:m=0
  ·subst h0;rw[show min n 0=0 by omega];rfl
  rw[show max 1 (min n m)=min n m by omega];simp;omega
 intro d hd;obtain⟨j,hj,rfl⟩:=List.mem_map.1 hd;exact adi j
def Mz (w:μ)(sa:Option Addr)(l:List (Int×Int×Int)):Prop:=l.length<=9223372036854775807/\∀i x,l[i]?=some x->∃b off,sa=some ⟨b,off,none⟩/\b<w.heap.size/\w.cell? ⟨b,off+i*3,none⟩=some (V Z x.1)/\w.cell? ⟨b,off+i*3+1,none⟩=some (V Z x.2.1)/\w.cell? ⟨b,off+i*3+2,none⟩=some (V Z x.2.2)/\
 (-9223372036854775808<=x.1/\x.1<=9223372036854775807)/\(-9223372036854775808<=x.2.1/\x.2.1<=9223372036854775807)/\(-9223372036854775808<=x.2.2/\x.2.2<=9223372036854775807)
theorem Mz.keep {w0 Y:μ}{sa:Option Addr}{l:List (Int×Int×Int)}(h:Mz w0 sa l)(U:Below w0.heap.size w0 Y):Mz Y sa l:=by
 refine⟨h.1,λi x X=>?_⟩;obtain⟨b,off,G,A,K,h4,h5,h6⟩:=h.2 i x X;exact⟨b,off,G,κ A U.size,(U.cell (p:=⟨b,_,none⟩) A).trans K,(U.cell (p:=⟨b,_,none⟩) A).trans h4,(U.cell (p:=⟨b,_,none⟩) A).trans h5,h6⟩
def gL (l:List (Int×Int×Int))(j:Nat):Int×Int×Int:=l.getD j (0,0,0)
theorem af7 {l:List (Int×Int×Int)}{i:Nat}{x:Int×Int×Int}(h:l[i]?=some x):gL l i=x:=by unfold gL;rw[Ρ,h];rfl
def vT (n w:Int)(j:Nat)(x:Int×Int×Int)(q:Nat):Bool:=(decide (w<0)||decide ((j:Int)%n=w))&&(decide (bN x.1 192<=q)&&decide ((q:Int)<bN x.1 192+1+bN x.2.1 40))
def kq (n w:Int)(l:List (Int×Int×Int))(i q:Nat):Int:=
 if(ψ i).any (λj=>decide (1<bN (gL l j).2.2 4)&&vT n w j (gL l j) q)then 1 else if(ψ i).any (λj=>decide (bN (gL l j).2.2 4=1)&&vT n w j (gL l j) q)then 2 else 0
theorem adj (n w:Int)(l:List (Int×Int×Int)):kq n w l 0=λ_=>0:=by funext q;rfl
theorem adk {n w:Int}{l:List (Int×Int×Int)}{i:Nat}{x:Int×Int×Int}(X:l[i]?=some x)(q:Nat):kq n w l (i+1) q=if(decide (1<bN x.2.2 4)&&vT n w i x q)=true then 1 else if(decide (bN x.2.2 4=1)&&vT n w i x q)=true/\kq n w l i q=0 then 2 else kq n w l i q:=by
 unfold kq;simp only[Λ,List.any_append,Θ,List.any_nil,Bool.or_false,af7 X];cases(ψ i).any (λj=>decide (1<bN (gL l j).2.2 4)&&vT n w j (gL l j) q)<;>cases(ψ i).any (λj=>decide (bN (gL l j).2.2 4=1)&&vT n w j (gL l j) q)<;>cases(decide (1<bN x.2.2 4)&&vT n w i x q)<;>cases(decide (bN x.2.2 4=1)&&vT n w i x q)<;>simp
theorem aiP (n w:Int)(l:List (Int×Int×Int))(i q:Nat):kq n w l i q=0\/kq n w l i q=1\/kq n w l i q=2:=by
 unfold kq;split
 ·exact .inr (.inl rfl)
 split
 ·exact .inr (.inr rfl)
 exact .inl rfl
def p7 (F:Nat->Int):List Value:=(ψ 300).map λq=>Φ Z (F q)
theorem DU (F:Nat->Int){q:Nat}(h:q<300):(p7 F)[q]?=some (V Z (F q)):=by
 unfold p7;rw[Κ,ϊ h];rfl
theorem MA (F:Nat->Int)(q:Nat)(v:Int):(p7 F).set q (V Z v)=p7 λj=>if j=q then v else F j:=by
 apply List.ext_getElem?;intro j;unfold p7;rw[List.getElem?_set,Κ,Κ,ο,φ];by_cases hj:j<300
 ·rw[ϊ hj];by_cases e:q=j
  ·subst e;simp[hj]
  simp[e,Ne.symm e]
 rw[List.getElem?_eq_none (by simp;omega)];by_cases e:q=j
 ·subst e;simp[hj]
 simp[e]
theorem Vm:p7 (λ_=>0)=Ϙ 300 (V Z 0):=by
 unfold p7;rw[List.map_const',φ]
theorem YV (z:Value)(m:Nat):madeCells #[z] m=(Ϙ m z).toArray:=by
 unfold madeCells;apply Array.ext
 ·simp
 intro i G A;simp[Nat.mod_one]
theorem YW:(prog.info? 3).map (λi=>(i.zero,i.size,i.bytes))=some (some (V Z 0),1,8):=by kernel_rfl
theorem adl (w:μ):(Instr.makeSlice 54 (V Z 300) (V Z 300)).run prog w=.ok (η (some ⟨w.heap.size,0,none⟩) 300 300) (w.alloc (ι (p7 λ_=>0).toArray 3)):=by
 obtain⟨i0,S,gH,oV,fN⟩:=info_parts YW;have k:=run_make (P:=prog) w 54 3 i0 _ underlying54 S gH Z Z 300 300 (by omega) (Μ _) (by rw[fN];omega) (by omega);rw[oV,show(Φ Z 0).cells=#[V Z 0]from rfl,YV]at k;rw[Vm];exact k
theorem OH {ops:Array Oper}{Q:Exit->Act->μ->Prop}{rest:List Oper}{o:Oper}{a:Act}{w:μ}(pD:o.guard=none)(ho:o.op=.makeSlice 54 (.const (V Z 300)) (.const (V Z 300)))
 (hK:∀Y,M Y w.heap.size (p7 λ_=>0) 3->Y.heap.size=w.heap.size+1->Below w.heap.size w Y->wpList prog ops Q rest (a.put o.dst (η (some ⟨w.heap.size,0,none⟩) 300 300)) Y):wpList prog ops Q (o::rest) a w:=by
 refine Ju pD (Y:=w.alloc (ι (p7 λ_=>0).toArray 3)) (v:=η (some ⟨w.heap.size,0,none⟩) 300 300) ?_ (hK _ (M.new w _ _) (by simp) ((ν _ _).alloc (π _) _));unfold execOp;rw[ho];have k:=adl w;simp only[Act.eval];go_simp
def lT (F:Nat->Int)(atH P0:Int)(q:Nat)(j:Nat):Int:=if P0<=j/\j<q then(if 1<atH then 1 else if F j=0 then 2 else F j)else F j
theorem OI (F:Nat->Int)(atH P0:Int){q:Nat}(h:(q:Int)=P0):lT F atH P0 q=F:=by
 funext j;unfold lT;rw[if_neg (by omega)]
theorem MB (F:Nat->Int)(atH P0:Int)(q:Nat):lT F atH P0 q q=F q:=by
 unfold lT;rw[if_neg (by omega)]
theorem yF (F:Nat->Int)(atH P0:Int){q:Nat}(h:P0<=q)(v:Int)(hv:v=if 1<atH then 1 else if F q=0 then 2 else F q):(λj=>if j=q then v else lT F atH P0 q j)=lT F atH P0 (q+1):=by
 funext j;unfold lT;by_cases e:j=q
 ·subst e;rw[if_pos rfl,if_pos (by omega)];exact hv
 rw[if_neg e];by_cases hj:P0<=j/\j<q
 ·rw[if_pos hj,if_pos (show P0<=(j:Int)/\j<q+1 by omega)]
 rw[if_neg hj,if_neg (show¬(P0<=(j:Int)/\j<q+1) by omega)]
theorem Sp (F:Nat->Int)(atH P0:Int){q:Nat}(h:P0<=q)(hv:F q=if 1<atH then 1 else if F q=0 then 2 else F q):lT F atH P0 (q+1)=lT F atH P0 q:=by
 rw[<-yF F atH P0 h (F q) hv];funext j;split
 ·rename_i e;subst e;rw[MB]
 rfl
theorem adm (sa:Option Addr)(cap:Nat)(l:List (Int×Int×Int))(n v:Int)(w:μ)(N:Mz w sa l)(n1:1<=n)(n4:n<=4)(v0:-1<=v)(v4:v<=4):
 χ prog 29 #[η sa l.length cap,V Z n,V Z v] w λe Y=>∃g,e=δ (η (some ⟨g,0,none⟩) 300 300)/\M Y g (p7 (kq n v l (min l.length 12))) 3/\Below w.heap.size w Y:=by
 obtain⟨atE,hN⟩:∃atE,atE=min l.length 12:=⟨_,rfl⟩;have HL:=H N;have hlen:=N.1;rw[<-hN];have hNl:atE<=l.length/\atE<=12/\(atE<l.length->atE=12):=by omega
 clear N hN;go_enter func29,ntmps29;go_upto_region 2 with(refine OH rfl rfl ?_;intro W1 dH oV au);replace oV:=H oV;have hG:w.heap.size<W1.heap.size:=dH.lt;obtain⟨g,hg⟩:∃g,g=w.heap.size:=⟨_,rfl⟩;rw[<-hg]at dH⊢;replace hg:=H hg;replace dH:=H dH;go_wp2_with fail;go_loopw [8] (λt wr=>∃i:Nat,i<=atE/\t=V Z i/\Below w.heap.size w wr/\Hid (M wr g (p7 (kq n v l i)) 3)) (λt _=>atE-(intOf t).toNat)
 case atStart=>exact⟨0,by omega,rfl,au,by rw[adj];exact dH⟩
 case round=>
  obtain⟨i,S,rfl,cP,aB⟩:=hrel;by_cases jl:i<atE
  case neg=>
   have hiN:i=atE:=by omega
   by_cases G:i<l.length
   case pos=>
    have vB:¬i<12:=by omega
    have YX:¬(i:Int)<12:=by omega
    go_wp2;go_ret;subst hiN;exact⟨g,rfl,aB.out,cP⟩
   case neg=>
    go_wp2;go_ret;subst hiN;exact⟨g,rfl,aB.out,cP⟩
  case pos=>
   have Jb:i<l.length:=by omega
   have vB:(i:Int)<12:=by omega
   obtain⟨x,X⟩:∃x,l[i]?=some x:=⟨_,Χ Jb⟩;obtain⟨b,off,hsa,fH,q0,q1,q2,z0,z1,z2⟩:=HL.out.2 i x X;subst hsa;have r0:wr.cell? ⟨b,off+i*3,none⟩=some (V Z x.1):=by rw[cP.cell (p:=⟨b,off+i*3,none⟩) fH];exact q0
   have r1:wr.cell? ⟨b,off+i*3+1,none⟩=some (V Z x.2.1):=by rw[cP.cell (p:=⟨b,off+i*3+1,none⟩) fH];exact q1
   have r2:wr.cell? ⟨b,off+i*3+2,none⟩=some (V Z x.2.2):=by rw[cP.cell (p:=⟨b,off+i*3+2,none⟩) fH];exact q2
   have hS:=H (adk (n:=n) (w:=v) X);have b0:=fa x.1 192 (by omega);have b1:=fa x.2.1 40 (by omega);have b2:=fa x.2.2 4 (by omega);have C0:=H λW=>lU x.1 192 W z0.1 z0.2 (by omega) (by omega);have C1:=H λW=>lU x.2.1 40 W z1.1 z1.2 (by omega) (by omega);have C2:=H λW=>lU x.2.2 4 W z2.1 z2.2 (by omega) (by omega);obtain⟨x0,x1,x2⟩:=x;simp only[]at *
   have AD:∀q,vT n v i (x0,x1,x2) q=((decide (v<0)||decide ((i:Int)%n=v))&&(decide (bN x0 192<=q)&&decide ((q:Int)<bN x0 192+1+bN x1 40))):=λq=>rfl;replace AD:=H AD;generalize bN x0 192=P0 at *
   generalize bN x1 40=P1 at *
   generalize bN x2 4=atH at *
   clear q0 q2 z0 z1 z2 X;replace q1:=H q1;by_cases hK0:atH=0
   case pos=>
    subst hK0;go_wp2_with (go_at_call 17;refine(C2.out _).mono ?_;rintro e Y ⟨rfl,rfl⟩);refine⟨⟨i+1,by omega,by go_num,cP,?_⟩,by simp[intOf];omega⟩;have e:kq n v l (i+1)=kq n v l i:=by funext q;rw[hS.out q];simp
    rw[e];exact aB
   case neg=>
   have hem:0<=(i:Int)%n:=Int.emod_nonneg _ (by omega);obtain⟨m,hr⟩:∃m,(i:Int)%n=m:=⟨_,rfl⟩;rw[hr]at hem;have MC:=H λq=>AD.out q;rw[hr]at MC;by_cases hsk:0<=v/\¬m=v
   case pos=>
    obtain⟨hv,hm⟩:=hsk;have e:=H (show kq n v l (i+1)=kq n v l i by
     funext q;have hc0:vT n v i (x0,x1,x2) q=false:=by rw[MC.out q];simp[hm];omega
     rw[hS.out q,hc0];simp)
    generalize kq n v l i=F at *
    clear hS AD MC;have hm6:(m !=v)=true:=by simpa using hm
    have hK6:(atH==0)=false:=by simpa using hK0
    go_wp2_with (go_at_call 17;refine(C2.out _).mono ?_;rintro e Y ⟨rfl,rfl⟩);refine⟨⟨i+1,by omega,by go_num,cP,?_⟩,by simp[intOf];omega⟩;rw[e.out];exact aB
   case neg=>
   have Hi:Hid ((decide (v<0)||decide (m=v))=true):=H (by simp;omega);have hvm:(¬0<=v)\/(0<=v/\m=v):=by omega
   have jh:Hid (∀q:Nat,(q:Int)=P0+1+P1->kq n v l (i+1)=lT (kq n v l i) atH P0 q):=H λq hq=>by
    funext j;rw[hS.out j,MC.out j,Hi.out];unfold lT;by_cases hj:P0<=(j:Int)/\j<q
    ·have G:decide (P0<=(j:Int))=true:=decide_eq_true hj.1;have A:decide ((j:Int)<P0+1+P1)=true:=decide_eq_true (by omega);rw[G,A,if_pos hj];by_cases eM:1<atH
     ·simp[eM]
     have:atH=1:=by omega
     subst this;simp
    have K:(decide (P0<=(j:Int))&&decide ((j:Int)<P0+1+P1))=false:=by simp;omega
    rw[K,if_neg hj];simp
   generalize kq n v l i=F at *
   clear hS AD MC Hi hsk;rcases hvm with hv|⟨hv,hm⟩
   all_goals
    go_wp2_with (first
     |(go_at_call_of 17 (Φ IntKind.i64 x2);refine(C2.out _).mono ?_;rintro e Y ⟨rfl,rfl⟩)
     |(go_at_call_of 17 (Φ IntKind.i64 x0);refine(C0.out _).mono ?_;rintro e Y ⟨rfl,rfl⟩))
    go_loopw [11] (λt wr=>∃q:Nat,P0<=q/\(q:Int)<=P0+1+P1/\t=V Z q/\Below w.heap.size w wr/\Hid (M wr g (p7 (lT F atH P0 q)) 3)) (λt _=>(P0+1+P1-intOf t).toNat)
    case atStart=>exact⟨P0.toNat,by omega,by omega,by rw[Int.toNat_of_nonneg (by omega)],cP,by rw[OI F atH P0 (by omega)];exact aB⟩
    case round=>
     obtain⟨q,hq0,Au,rfl,Ao,Qk⟩:=hrel;have r1':wr.cell? ⟨b,off+i*3+1,none⟩=some (V Z x1):=by rw[Ao.cell (p:=⟨b,off+i*3+1,none⟩) fH];exact q1.out
     by_cases aQ:(q:Int)<P0+1+P1
     case neg=>
      go_wp2_with (go_at_call 17;refine(C1.out _).mono ?_;rintro e Y ⟨rfl,rfl⟩);exact⟨⟨i+1,by omega,by go_num,Ao,H (by rw[jh.out q (by omega)];exact Qk.out)⟩,by simp[intOf];omega⟩
     case pos=>
     have hq3:q<300:=by omega
     have kc:wr.cell? ⟨g,q,none⟩=some (V Z (F q)):=by
      have:=Qk.out.cell (k:=q) (DU _ hq3);rw[MB]at this;exact this
     have kf:wr.frozen? ⟨g,q,none⟩=false:=Qk.out.free;have hgw:w.heap.size<=g:=by rw[hg.out];exact π _
     by_cases eM:1<atH
     case pos=>
      go_wp2_with (go_at_call 17;refine(C1.out _).mono ?_;rintro e Y ⟨rfl,rfl⟩);refine⟨⟨q+1,by omega,by omega,by go_num,Ao.setCell hgw _,H ?_⟩,by simp[intOf];omega⟩;have:=Qk.out.set (k:=q) (V Z 1);rw[MA,yF F atH P0 hq0 1 (by rw[if_pos (by omega)])]at this;exact this
     case neg=>
     by_cases hF:F q=0
     case pos=>
      rw[hF]at kc;go_wp2_with (go_at_call 17;refine(C1.out _).mono ?_;rintro e Y ⟨rfl,rfl⟩);refine⟨⟨q+1,by omega,by omega,by go_num,Ao.setCell hgw _,H ?_⟩,by simp[intOf];omega⟩;have:=Qk.out.set (k:=q) (V Z 2);rw[MA,yF F atH P0 hq0 2 (by rw[if_neg (by omega),if_pos hF])]at this;exact this
     case neg=>
      go_wp2_with (go_at_call 17;refine(C1.out _).mono ?_;rintro e Y ⟨rfl,rfl⟩);exact⟨⟨q+1,by omega,by omega,by go_num,Ao,H (by rw[Sp F atH P0 hq0 (by rw[if_neg (by omega),if_neg hF])];exact Qk.out)⟩,by simp[intOf];omega⟩
def C7 (k:Int):List UInt8:=if bN k 4=0 then jD else if bN k 4=1 then jE else jF
theorem Vn (k:Int):qC k=some (C7 k):=rfl
theorem Ql (k:Int):(C7 k).length=9:=by unfold C7;split<;>(try split)<;>rfl
theorem YY (c:Int)(w:μ)(h0:-9223372036854775808<=c)(G:c<=9223372036854775807):
 χ prog 49 #[V Z c] w λe Y=>e=δ (θ ⟨(C7 c).toArray⟩)/\w=Y:=by
 have C:=H λW=>lU c 4 W h0 G (by omega) (by omega);have U:=fa c 4 (by omega);unfold C7;generalize bN c 4=atH at *
 by_cases k0:atH=0
 ·subst k0;rw[if_pos rfl];go_enter func49,ntmps49;go_wp2_with (go_at_call 17;refine(C.out _).mono ?_;rintro e Y ⟨rfl,rfl⟩);go_ret;exact⟨rfl,rfl⟩
 rw[if_neg k0];by_cases k1:atH=1
 ·subst k1;rw[if_pos rfl];go_enter func49,ntmps49;go_wp2_with (go_at_call 17;refine(C.out _).mono ?_;rintro e Y ⟨rfl,rfl⟩);go_ret;exact⟨rfl,rfl⟩
 rw[if_neg k1];go_enter func49,ntmps49;go_wp2_with (go_at_call 17;refine(C.out _).mono ?_;rintro e Y ⟨rfl,rfl⟩);go_ret;exact⟨rfl,rfl⟩
theorem yG (a:UInt8)(l:List UInt8):(⟨#[a]⟩:ByteArray)++⟨l.toArray⟩=⟨(a::l).toArray⟩:=by
 apply ϋ;simp[Υ]
theorem Jv:∀i:Nat,i<12->(cY i).length<=2:=by decide
theorem FI (u:List UInt8)(st ln:Int)(hu:u.length<=12)(h:0<=ln):(fJ u st ln []).length<=200:=by
 have G:=YZ u st;have A:=Vo st ln h;unfold fJ yH;simp only[Ι,Δ,ϗ,if_true];omega
theorem adn (u:List UInt8)(st ln:Int)(k:Int)(ad:Nat)(hZ:(fJ u st ln []).length=ad+12):
 (⟨(fJ u st ln []).toArray⟩:ByteArray).extract 0 ad++⟨#[83,84,65,84,85,83,58]⟩++⟨(C7 k).toArray⟩++⟨#[13,10]⟩++⟨#[69,78,68,58,86,69,86,69,78,84]⟩++⟨#[13,10]⟩=⟨(nR u st ln (qC k)).toArray⟩:=by
 rw[Vn,<-Jw,show(fJ u st ln []).length-12=ad by omega];apply ϋ;simp only[Υ,ByteArray.data_extract];apply Array.ext';simp
theorem ado (sa:Option Addr)(cap:Nat)(l:List (Int×Int×Int))(n:Nat)(w:μ)(N:Mz w sa l)(n1:1<=n)(n4:n<=4)(hm:ML w)(ht:jg w):
 χ prog 26 #[η sa l.length cap,V Z n] w λe Y=>∃(s:Nat) (atG E:aj),e=δ (ζ (some ⟨s,0,none⟩))/\cX Y s atG E (dT n l (min l.length 12)).ns (dT n l (min l.length 12)).ds (dT n l (min l.length 12)).h/\(∀k,atG k->w.heap.size<=k)/\Below w.heap.size w Y:=by
 obtain⟨atE,hN⟩:∃atE,atE=min l.length 12:=⟨_,rfl⟩;have HL:=H N;have hlen:=N.1;rw[<-hN];have hNl:atE<=l.length/\atE<=12/\(atE<l.length->atE=12):=by omega
 have HM:=H hm;have HT:=H ht;have amZ:=H (Sc w);clear N hN hm ht;go_enter func26,ntmps26;go_upto_region 4 with(go_at_call 48;refine(amZ.out).mono ?_;rintro e w1 ⟨s,M0,rfl,x1,hM1,au⟩);replace x1:=H x1;go_wp2_with fail;go_loopw [6] (λt wr=>∃i:Nat,i<=atE/\t=V Z i/\Below w.heap.size w wr/\Hid (∃atG E:aj,cX wr s atG E (xB n l i).ns (xB n l i).ds (xB n l i).h/\∀k,atG k->w.heap.size<=k)) (λt _=>atE-(intOf t).toNat)
 case atStart=>exact⟨0,by omega,rfl,au,H ⟨M0,_,by
  have e:xB n l 0=⟨[],[],0⟩:=by unfold xB jI FH;rw[show min n 0=0 by omega];rfl
  rw[e];exact x1.out,hM1⟩⟩
 case round=>
  obtain⟨i,S,rfl,cP,uO⟩:=hrel;by_cases jl:i<atE
  case neg=>
   have hiN:i=atE:=by omega
   have jS:∀atH:Act->μ->Prop,True:=λ_=>trivial;clear jS;have CE:=H (Hj [108,97,115,116] 1919376000 60 [] wr (HT.out.on cP) (by decide) (by decide) (by decide) (by decide) (by decide) (by decide));have CP:Hid (∀W,Below wr.heap.size wr W->χ prog 50 #[ζ (some ⟨s,0,none⟩),θ ⟨#[99,48]⟩,θ ⟨(fJ [108,97,115,116] 1919376000 60 []).toArray⟩] W λe Y=>e=δ (V Z 0)/\(∃atG E:aj,cX Y s atG E (dT n l atE).ns (dT n l atE).ds (dT n l atE).h/\∀k,atG k->w.heap.size<=k)/\Below w.heap.size w Y):=H λW bV=>by
    obtain⟨atG,E,x,Vp⟩:=uO.out;have al:Below w.heap.size w W:=cP.trans (bV.mono cP.size);have G:=Mx (x.on bV) (cN 0) (nR [108,97,115,116] 1919376000 60 none) (HM.out.on al) (by decide) (by rw[<-AY];have:=FI [108,97,115,116] 1919376000 60 (by decide) (by decide);omega);rw[hiN,YU n1 n4 (by omega)]at G;rw[AY];refine G.mono ?_;rintro e Y ⟨A,⟨M',E',K,h4⟩,h5⟩;exact⟨A,⟨M',E',K,λk I=>(h4 k I).elim (Vp k) λh=>ξ al.size h⟩,al.trans (h5.below al.size Vp)⟩
   generalize(⟨(fJ [108,97,115,116] 1919376000 60 []).toArray⟩:ByteArray)=TL at *
   clear uO HM HT HL;have KT:i<l.length->¬(i:Int)<12:=λh=>by omega
   by_cases G:i<l.length
   all_goals
    first
     |have YX:¬(i:Int)<12:=KT G
     |skip
    clear KT;go_wp2_with (first
     |(go_at_call 25;refine(CE.out).mono ?_;rintro e w3 ⟨rfl,aR⟩;have CP3:=H (CP.out _ aR))
     |(go_at_call 50;refine(CP3.out).mono ?_;rintro e w4 ⟨rfl,h4,cu⟩;replace h4:=H h4))
    go_ret;obtain⟨atG,E,q1,q2⟩:=h4.out;exact⟨s,atG,E,rfl,q1,q2,cu⟩
  case pos=>
   have Jb:i<l.length:=by omega
   have agb:i<12:=by omega
   have vB:(i:Int)<12:=by omega
   obtain⟨x,X⟩:∃x,l[i]?=some x:=⟨_,Χ Jb⟩;obtain⟨b,off,hsa,fH,q0,q1,q2,z0,z1,z2⟩:=HL.out.2 i x X;subst hsa;have r0:wr.cell? ⟨b,off+i*3,none⟩=some (V Z x.1):=by rw[cP.cell (p:=⟨b,off+i*3,none⟩) fH];exact q0
   have r1:wr.cell? ⟨b,off+i*3+1,none⟩=some (V Z x.2.1):=by rw[cP.cell (p:=⟨b,off+i*3+1,none⟩) fH];exact q1
   have y0:=cell_regrown r0;have y1:=cell_regrown r1;have b0:=fa x.1 192 (by omega);have b1:=fa x.2.1 40 (by omega);have As:=Jv i agb;have hTs:=FI (101::cY i) (mE x) (og x) (by simp;omega) (by have:=vS x;omega);have agc:=Sq (101::cY i) (mE x) (og x);obtain⟨ad,hZ⟩:∃ad,(fJ (101::cY i) (mE x) (og x) []).length=ad+12:=⟨_,(Nat.sub_add_cancel agc).symm⟩;have hZ2:ad<=188:=by omega
   have hX:=adn (101::cY i) (mE x) (og x) x.2.2 ad hZ;have eB:mE x=1893456000+900*bN x.1 192:=rfl;have eN:og x=900*(1+bN x.2.1 40):=rfl;have hn0:(i:Int)%(n:Int)=((i%n:Nat):Int):=by omega
   have hmn:i%n<n:=Nat.mod_lt _ (by omega);have hDm:=Jv (i%n) (by omega);have hD:∀(D:Nat) (os:Array Obj),χ prog 21 #[V Z i] (grow (redrawn wr D) os) λe az=>e=δ (θ ⟨(cY i).toArray⟩)/\∃p:ό,az=grow (redrawn wr p.d) p.os:=λD os=>Β (uX i _ (by omega) (by omega) (by omega));have FJ:∀(D:Nat) (os:Array Obj),χ prog 17 #[V Z x.1,V Z 192] (grow (redrawn wr D) os) λe az=>e=δ (V Z (bN x.1 192))/\∃p:ό,az=grow (redrawn wr p.d) p.os:=λD os=>Β ((lU x.1 192 _ z0.1 z0.2 (by omega) (by omega)).mono λe Y h=>⟨h.1,by rw[<-h.2];exact ν _ _⟩);have pT:∀(D:Nat) (os:Array Obj),χ prog 17 #[V Z x.2.1,V Z 40] (grow (redrawn wr D) os) λe az=>e=δ (V Z (bN x.2.1 40))/\∃p:ό,az=grow (redrawn wr p.d) p.os:=λD os=>Β ((lU x.2.1 40 _ z1.1 z1.2 (by omega) (by omega)).mono λe Y h=>⟨h.1,by rw[<-h.2];exact ν _ _⟩);have hE:∀(D:Nat) (os:Array Obj),χ prog 25 #[θ ((⟨#[101]⟩:ByteArray)++⟨(cY i).toArray⟩),V Z (1893456000+900*bN x.1 192),V Z (900*(1+bN x.2.1 40)),θ ⟨#[]⟩] (grow (redrawn wr D) os) λe az=>e=δ (θ ⟨(fJ (101::cY i) (mE x) (og x) []).toArray⟩)/\∃p:ό,az=grow (redrawn wr p.d) p.os:=λD os=>Β (by
    have:=Hj (101::cY i) (mE x) (og x) [] (grow (redrawn wr D) os) (HT.out.on (cP.trans ((below_regrown wr D os).mono cP.size))) (by simp;omega) (by simp) (by have:=vS x;omega) (by have:=vS x;omega) (by have:=vS x;omega) (by have:=vS x;omega);rw[yG];exact this)
   have CS:=H λW=>YY x.2.2 W z2.1 z2.2;have CM:=H λ(W:μ)=>uX ((i%n:Nat):Int) W (by omega) (by omega) (by omega);have CP:Hid (∀W,Below wr.heap.size wr W->χ prog 50 #[ζ (some ⟨s,0,none⟩),θ ((⟨#[99]⟩:ByteArray)++⟨(cY ((i%n:Nat):Int)).toArray⟩),θ ((⟨(fJ (101::cY i) (mE x) (og x) []).toArray⟩:ByteArray).extract 0 ad++⟨#[83,84,65,84,85,83,58]⟩++⟨(C7 x.2.2).toArray⟩++⟨#[13,10]⟩++⟨#[69,78,68,58,86,69,86,69,78,84]⟩++⟨#[13,10]⟩)] W λe Y=>e=δ (V Z 0)/\Hid (∃atG E:aj,cX Y s atG E (xB n l (i+1)).ns (xB n l (i+1)).ds (xB n l (i+1)).h/\∀k,atG k->w.heap.size<=k)/\Below w.heap.size w Y):=H λW bV=>by
    obtain⟨atG,E,x',Vp⟩:=uO.out;have al:Below w.heap.size w W:=cP.trans (bV.mono cP.size);have tk:(nR (101::cY i) (mE x) (og x) (qC x.2.2)).length<=1048576:=by
     have h9:=Ql x.2.2;rw[Vn,<-Jw];simp only[Ι,List.length_take,Δ,ϗ];omega
    have G:=Mx (x'.on bV) (cN (i%n)) (nR (101::cY i) (mE x) (og x) (qC x.2.2)) (HM.out.on al) (by
     show(99::cY ((i%n:Nat):Int)).toArray.size<=maxLen;simp only[List.size_toArray,Δ];unfold maxLen;omega) tk
    rw[YT n1 n4 agb X]at G;rw[hX,yG];refine Calls.mono G ?_;rintro e Y ⟨A,⟨M',E',K,h4⟩,h5⟩;exact⟨A,H ⟨M',E',K,λk I=>(h4 k I).elim (Vp k) λh=>ξ al.size h⟩,al.trans (h5.below al.size Vp)⟩
   have hsT:(⟨(fJ (101::cY i) (mE x) (og x) []).toArray⟩:ByteArray).size=ad+12:=by
    show(fJ (101::cY i) (mE x) (og x) []).toArray.size=ad+12;simpa using hZ
   have IK:(⟨(C7 x.2.2).toArray⟩:ByteArray).size=9:=by
    show(C7 x.2.2).toArray.size=9;simpa using Ql x.2.2
   have hsD:(⟨(cY i).toArray⟩:ByteArray).size<=2:=by
    show(cY i).toArray.size<=2;simpa using As
   have hsM:(⟨(cY ((i%n:Nat):Int)).toArray⟩:ByteArray).size<=2:=by
    show(cY ((i%n:Nat):Int)).toArray.size<=2;simpa using hDm
   clear hX eB eN hZ agc hTs As hDm z0 z1 z2 uO HM HT HL q0 q1;replace q2:=H q2;generalize(⟨(fJ (101::cY i) (mE x) (og x) []).toArray⟩:ByteArray)=T1 at *
   generalize(⟨(C7 x.2.2).toArray⟩:ByteArray)=ST at *
   generalize(⟨(cY i).toArray⟩:ByteArray)=DI at *
   generalize(⟨(cY ((i%n:Nat):Int)).toArray⟩:ByteArray)=DM at *
   generalize i%n=m at *
   generalize bN x.1 192=P0 at *
   generalize bN x.2.1 40=P1 at *
   obtain⟨x0,x1,x2⟩:=x;simp only[]at *
   go_upto_region 7 with fail;refine wp_region_quiet_below (by kernel_rfl) (by kernel_rfl) ?_;go_big_quiet_step (fail);go_big_quiet_step (exact hD _ _)
   iterate 6 (go_big_quiet_step (fail))
   go_big_quiet_step (exact FJ _ _)
   iterate 7 (go_big_quiet_step (fail))
   go_big_quiet_step (exact pT _ _)
   iterate 2 (go_big_quiet_step (fail))
   go_big_quiet_step (exact hE _ _);go_big_quiet_step (fail);refine wpQuiet_nil ?_;intro _ dD;obtain⟨⟨dq,gT⟩,ga⟩:=dD;subst ga;have ka:=below_regrown wr dq gT;clear y0 y1 hD FJ pT hE r0 r1;generalize grow (redrawn wr dq) gT=w7 at *
   have AZ:Below w.heap.size w w7:=cP.trans (ka.mono cP.size);have r2:w7.cell? ⟨b,off+i*3+2,none⟩=some (V Z x2):=by rw[AZ.cell (p:=⟨b,off+i*3+2,none⟩) fH];exact q2.out
   have y2:=cell_regrown r2;have hS:∀(D:Nat) (os:Array Obj),χ prog 49 #[V Z x2] (grow (redrawn w7 D) os) λe az=>e=δ (θ ST)/\∃p:ό,az=grow (redrawn w7 p.d) p.os:=λD os=>Β ((CS.out _).mono λe Y h=>⟨h.1,by rw[<-h.2];exact ν _ _⟩);clear AZ q2;go_upto_region 8 with fail;refine wp_region_quiet_below (by kernel_rfl) (by kernel_rfl) ?_
   iterate 11 (go_big_quiet_step (fail))
   go_big_quiet_step (exact hS _ _)
   iterate 5 (go_big_quiet_step (fail))
   refine wpQuiet_nil ?_;intro _ dD;obtain⟨⟨dq,gT⟩,ga⟩:=dD;subst ga;have ph:=ka.trans ((below_regrown w7 dq gT).mono ka.size);clear y2 hS r2 ka CS;generalize grow (redrawn w7 dq) gT=w8 at *
   go_wp2_with (first
    |(go_at_call 21;refine(CM.out _).mono ?_;rintro e w9 ⟨rfl,sI⟩;have CP9:=H (CP.out _ (ph.trans (sI.mono ph.size))))
    |(go_at_call 50;refine(CP9.out).mono ?_;rintro e w4 ⟨rfl,h4,cu⟩))
   exact⟨⟨i+1,by omega,by go_num,cu,h4⟩,by simp[intOf];omega⟩
def Jy (k:Int):Int:=if k=1 then 2 else if k=2 then 1 else 0
theorem DW {c u:ByteArray}{st ln k:Int}(ho:aK.ok ⟨c,u,st,ln,false,ic,[],[],false,k⟩){f to x:Int}(t1:to<=7258118400):x∈aK.tm ⟨c,u,st,ln,false,ic,[],[],false,k⟩ f to↔x=st/\f<=x/\x<to:=by
 rw[aK.iM ho t1];unfold aK.is isT;simp
theorem Jz {c u:ByteArray}{st ln k:Int}(ho:aK.ok ⟨c,u,st,ln,false,ic,[],[],false,k⟩){f t s kz:Int}(t1:t<=7258118400)(hs:f<=s)(oZ:s<t)(hkz:kz≠0):
 (aK.AG ⟨c,u,st,ln,false,ic,[],[],false,k⟩ f t).any (λc=>decide (c.k=kz)&&decide (c.b<=s)&&decide (s<c.e))=(decide (eD false k=kz)&&(decide (st<=s)&&decide (s<st+ln))):=by
 have N:=ho.2.2.1;simp only[]at N;rw[Ν,List.any_eq_true];simp only[Bool.and_eq_true,decide_eq_true_eq];unfold aK.AG aK.kd;simp only[];constructor
 ·rintro⟨x,X,⟨G,A⟩,K⟩;split at X
  ·cases X
  obtain⟨y,hy,rfl⟩:=List.mem_map.1 X;obtain⟨e,_,_⟩:=(DW ho t1).1 hy;subst e;exact⟨G,A,K⟩
 rintro⟨G,A,K⟩;rw[if_neg (by rw[G];exact hkz)];exact⟨⟨eD false k,st,st+ln⟩,List.mem_map.2 ⟨st,(DW ho t1).2 ⟨rfl,by omega,by omega⟩,rfl⟩,⟨G,A⟩,K⟩
theorem Y0 {α β:Type}(l:List α)(F:α->List β)(p:β->Bool):(l.flatMap F).any p=l.any λx=>(F x).any p:=by
 induction l with
 |nil=>rfl
 |cons x l ih=>rw[Γ,List.any_append,Θ,ih]
theorem Y1 {α:Type}(l:List α)(c p:α->Bool):(l.filter c).any p=l.any λx=>c x&&p x:=by
 induction l with
 |nil=>rfl
 |cons x l ih=>
  rw[List.filter_cons,Θ];cases h:c x
  ·simp[ih]
  simp[ih]
theorem Qm (k:Int):eD false (kO (qC k)-1)=if bN k 4=0 then 0 else if bN k 4=1 then 1 else 2:=by
 unfold qC;split
 ·rfl
 split<;>rfl
def s9 (n m:Nat)(v:Int):List ByteArray:=if v<0 then jI (max 1 (min n m))else[cN v.toNat]
theorem adp {n m:Nat}{v:Int}(n1:1<=n)(n4:n<=4)(hm:m<=12)(v4:v<n){j:Nat}(hj:j<m):ρ (s9 n m v) (cN (j%n))=(decide (v<0)||decide ((j:Int)%n=v)):=by
 have Qn:j%n<n:=Nat.mod_lt _ (by omega);have hjj:j%n<=j:=Nat.mod_le _ _;unfold s9;by_cases hv:v<0
 ·rw[if_pos hv,tT (by omega) (by omega)];simp[hv];omega
 rw[if_neg hv,Ν,Lib.containsS_iff,List.mem_singleton];have e1:((j:Int)%n)=((j%n:Nat):Int):=by omega
 rw[e1];simp only[Bool.or_eq_true,decide_eq_true_eq];constructor
 ·intro h;have:=Vk (by omega) (by omega) h;exact .inr (by omega)
 rintro(h|h)
 ·omega
 rw[show j%n=v.toNat by omega]
theorem OK {n m:Nat}{l:List (Int×Int×Int)}{v:Int}(n1:1<=n)(n4:n<=4)(hm:m<=12)(v4:v<n){a b q:Nat}{s:Int}(U:b<=290)(ha:a<=q)(hq:q<b)(G:1893456000+900*(q:Int)<=s)(A:s<1893456000+900*(q:Int)+900):
 AI (oJ (s9 n m v) (dT n l m).ds (1893456000+900*(a:Int)) (1893456000+900*(b:Int))) s=Jy (kq n v l m q):=by
 have agd:∀kz:Int,kz≠0->(oJ (s9 n m v) (dT n l m).ds (1893456000+900*(a:Int)) (1893456000+900*(b:Int))).any (λc=>decide (c.k=kz)&&decide (c.b<=s)&&decide (s<c.e))=(ψ m).any λj=>decide (eD false (kO (qC (gL l j).2.2)-1)=kz)&&vT n v j (gL l j) q:=λkz hkz=>by
  unfold oJ;rw[Y0,Y1];unfold dT FH;simp only[List.any_append,List.any_map];have e2:([FG].any λd=>ρ (s9 n m v) d.kc&&(d.AG (1893456000+900*(a:Int)) (1893456000+900*(b:Int))).any λc=>decide (c.k=kz)&&decide (c.b<=s)&&decide (s<c.e))=false:=by
   rw[Θ,List.any_nil,Bool.or_false];have h9:=Jz Jt (f:=1893456000+900*(a:Int)) (t:=1893456000+900*(b:Int)) (s:=s) (by omega) (by omega) (by omega) hkz;unfold FG;rw[h9];have:decide ((1919376000:Int)<=s)=false:=decide_eq_false (by omega);rw[this];simp
  rw[e2,Bool.or_false];refine Fx λj hj=>?_;rw[Ο]at hj;have hsb:=vS (gL l j);have cI:=Hh n j (gL l j);have h9:=Jz cI (f:=1893456000+900*(a:Int)) (t:=1893456000+900*(b:Int)) (s:=s) (by omega) (by omega) (by omega) hkz;have e4:(ρ (s9 n m v) (Sn n j (gL l j)).kc&&((Sn n j (gL l j)).AG (1893456000+900*(a:Int)) (1893456000+900*(b:Int))).any λc=>decide (c.k=kz)&&decide (c.b<=s)&&decide (s<c.e))=((decide (v<0)||decide ((j:Int)%n=v))&&(decide (eD false (kO (qC (gL l j).2.2)-1)=kz)&&(decide (mE (gL l j)<=s)&&decide (s<mE (gL l j)+og (gL l j))))):=by
   rw[<-adp n1 n4 hm v4 hj,<-h9];rfl
  refine e4.trans ?_;unfold vT;have e5:decide (mE (gL l j)<=s)=decide (bN (gL l j).1 192<=(q:Int)):=by
   unfold mE;rw[decide_eq_decide];omega
  have e6:decide (s<mE (gL l j)+og (gL l j))=decide ((q:Int)<bN (gL l j).1 192+1+bN (gL l j).2.1 40):=by
   unfold mE og;rw[decide_eq_decide];omega
  rw[e5,e6];cases(decide (v<0)||decide ((j:Int)%n=v))<;>cases decide (eD false (kO (qC (gL l j).2.2)-1)=kz)<;>rfl
 unfold AI;rw[agd 2 (by decide),agd 1 (by decide)];unfold kq;have e1:∀j,decide (eD false (kO (qC (gL l j).2.2)-1)=2)=decide (1<bN (gL l j).2.2 4):=λj=>by
  have:=fa (gL l j).2.2 4 (by omega);rw[Qm,decide_eq_decide];split
  ·omega
  split<;>omega
 have e3:∀j,decide (eD false (kO (qC (gL l j).2.2)-1)=1)=decide (bN (gL l j).2.2 4=1):=λj=>by
  have:=fa (gL l j).2.2 4 (by omega);rw[Qm,decide_eq_decide];split
  ·omega
  split<;>omega
 simp only[e1,e3];cases(ψ m).any (λj=>decide (1<bN (gL l j).2.2 4)&&vT n v j (gL l j) q)<;>cases(ψ m).any (λj=>decide (bN (gL l j).2.2 4=1)&&vT n v j (gL l j) q)<;>rfl
end Go.Proofs.YthpndgcaoeokeaaGreatDoor
