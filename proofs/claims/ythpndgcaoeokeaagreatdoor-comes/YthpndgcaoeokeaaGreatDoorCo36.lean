import Derived.Test.YthpndgcaoeokeaaGreatDoorCo34
import Derived.Test.YthpndgcaoeokeaaGreatDoorCo35
set_option maxRecDepth 100000
set_option maxHeartbeats 8000000
open Go.IntKind renaming i64→Z
open Go.Value renaming int→V,slice→ε,ownBlock→π,oneCell'→Β,int→Ζ
open Go.Ending renaming returned→δ
open Option.some renaming inj→ζ
open Go renaming World→η,TypeId→ξ,Calls→Ε
open List renaming replicate→θ,getElem?_append_right→κ,filter_congr→μ,eq_of_mem_replicate→ν,getElem?_replicate→τ,mem_singleton→υ,length_append→φ,getElem?_take→χ,size_toArray→ω,map_cons→Γ,map_nil→Δ
open Nat renaming le_of_lt→ι,le_trans→ο
open Bool renaming and_true→ρ,false_eq_true→ψ,and_eq_true→Α
namespace Go.Proofs.YthpndgcaoeokeaaGreatDoor
open Tryz
open Go.RowKit Go.Sort
theorem Ju {F:Nat→Option (List UInt8)}{r:au}(h:kH F r):X7 (F 0)=r.fq+1∧X8 (F 1)=r.iv∧Yc (F 2)=r.ct∧(Cg (F 3)=r.un∨(Cg (F 3)=-1∧r.un=9223372036854775807))∧Ij 12 false (F 4)=r.ms∧Ij 31 true (F 5)=r.mds∧Ij 366 true (F 7)=r.pls∧
 (sM (F 6)).1=r.wks.map (·.2)∧(sM (F 6)).2=r.wks.map (·.1)∧Yd (F 8)=r.ws:=by
 have wi:∀{v:List UInt8} {m z:Int},mK 1 m v=some z→cT v m=z:=fun{v m z} q=>by
  rw[se]at q;split at q
  ·exact ζ q
  ·cases q
 have ls:∀{m:Int} {sg:Bool} {rd:List UInt8→Option Int} {o:Option (List UInt8)} {zs:List Int},(fun l=>nt m sg (ba l))=rd→dJ rd o=some zs→Ij m sg o=zs:=fun{m sg rd o zs} e q=>by
  unfold Ij;cases o with
  |none=>exact ζ q
  |some v=>
   simp only[];rw[lZ,e,q];rfl
 have wd:∀{v:List UInt8} {z:Int},wE v=some z→gB v=z:=fun{v z} q=>by
  rw[Gf]at q;split at q
  ·exact ζ q
  ·cases q
 refine⟨?_,?_,?_,?_,ls (Ge 12) h.ms,ls (sf 31) h.mds,ls (sf 366) h.pls,?_,?_,?_⟩
 ·have q:=h.fq;unfold X7;cases hF:F 0 with
  |none=>rw[hF,yt]at q;cases q
  |some v=>
   rw[hF,uI]at q;simp only[];split at q
   ·have:=ζ q;omega
   ·cases q
 ·have q:=h.iv;unfold X8;cases hF:F 1 with
  |none=>
   rw[hF]at q;have:mK 1 100 [49]=some 1:=by decide
   rw[show(none:Option (List UInt8)).getD [49]=[49]from rfl,this]at q;exact ζ q
  |some v=>rw[hF]at q;exact wi q
 ·have q:=h.ct;unfold Yc;cases hF:F 2 with
  |none=>rw[hF]at q;exact ζ q
  |some v=>rw[hF]at q;exact wi q
 ·have q:=h.un;unfold Cg;cases hF:F 3 with
  |none=>rw[hF]at q;exact .inr ⟨rfl,(ζ q).symm⟩
  |some v=>
   rw[hF]at q;left;change (if fs (bH v)=true then some (eI (bH v))else none)=some r.un at q;split at q
   ·rename_i ht;show(if fs (ba v)=true then eI (ba v)else 0)=r.un;rw[if_pos (show fs (ba v)=true from ht)];exact ζ q
   ·cases q
 ·have q:=h.wks;unfold sM;cases hF:F 6 with
  |none=>rw[hF]at q;rw[←ζ q];rfl
  |some v=>rw[hF]at q;simp only[];rw[ql,q];rfl
 ·have q:=h.wks;unfold sM;cases hF:F 6 with
  |none=>rw[hF]at q;rw[←ζ q];rfl
  |some v=>rw[hF]at q;simp only[];rw[ql,q];rfl
 ·have q:=h.ws;unfold Yd;cases hF:F 8 with
  |none=>
   rw[hF]at q;have:wE [77,79]=some 0:=by decide
   rw[show(none:Option (List UInt8)).getD [77,79]=[77,79]from rfl,this]at q;exact ζ q
  |some v=>rw[hF]at q;exact wd q
theorem aaC {N:Nat}{w:η}{R:List Value}{F:Nat→Option (List UInt8)}{r:au}(h:fJ N w (.agg R.toArray) F)(hp:kH F r):Bi w r (Cg (F 3)) R:=by
 obtain⟨cs,e,h2,_,h4,h5⟩:=h;have e':R=cs:=by have:=Value.agg.inj e;simpa using this
 subst e';obtain⟨p0,p1,p2,_,p4,p5,p6,p7,p8,p9⟩:=Ju hp;have il:∀{B:Nat} {v:Value} {zs:List Int},lC B w v zs→cF w v zs:=fun q=>kP q.1 q.2;refine⟨h2,?_,?_,?_,?_,?_,?_,?_,?_,?_,?_,fun k hk=>⟨_,h5 k hk⟩⟩
 ·obtain⟨x,B,_,q1,q2⟩:=h4 0 (by omega);rw[q1,show x= V Z (X7 (F 0))from q2,p0]
 ·obtain⟨x,B,_,q1,q2⟩:=h4 1 (by omega);rw[q1,show x= V Z (X8 (F 1))from q2,p1]
 ·obtain⟨x,B,_,q1,q2⟩:=h4 2 (by omega);rw[q1,show x= V Z (Yc (F 2))from q2,p2]
 ·obtain⟨x,B,_,q1,q2⟩:=h4 3 (by omega);rw[q1,show x= V Z (Cg (F 3))from q2]
 ·obtain⟨x,B,_,q1,q2⟩:=h4 4 (by omega);exact⟨x,q1,by rw[←p4];exact il q2⟩
 ·obtain⟨x,B,_,q1,q2⟩:=h4 5 (by omega);exact⟨x,q1,by rw[←p5];exact il q2⟩
 ·obtain⟨x,B,_,q1,q2⟩:=h4 6 (by omega);exact⟨x,q1,by rw[←p6];exact il q2⟩
 ·obtain⟨x,B,_,q1,q2⟩:=h4 7 (by omega);exact⟨x,q1,by rw[←p7];exact il q2.1⟩
 ·obtain⟨x,B,_,q1,q2⟩:=h4 8 (by omega);exact⟨x,q1,by rw[←p8];exact il q2.1⟩
 ·obtain⟨x,B,_,q1,q2⟩:=h4 9 (by omega);rw[q1,show x= V Z (Yd (F 8))from q2,p9]
def TZ (d:iT)(to:Int)(O:List Int):Prop:=O.filter (ew d.ex to)=qy d.st d.ex (lL (eH d) (fE d) d.st 0 to)∨(¬(cL d to).length≤3000∧3021≤O.length∧dZ O∧∀t∈O,t<to)
theorem aek {d:iT}{to:Int}{O:List Int}(cM:0≤d.st)(hx:dZ d.xt)(qj:d.ex.length≤20)(hL:dZ (lL (eH d) (fE d) d.st 0 to))(h:TZ d to O):
 ((cL d to).length≤3000→fl (O.filter (ew d.ex to)) (d.xt.filter (je d.ex to d.st))=cL d to)∧(¬(cL d to).length≤3000→¬(fl (O.filter (ew d.ex to)) (d.xt.filter (je d.ex to d.st))).length≤3000):=by
 rcases h with h|⟨h1,h2,h3,h4⟩
 ·have e:fl (O.filter (ew d.ex to)) (d.xt.filter (je d.ex to d.st))=cL d to:=by
   rw[Mw d _ to cM hx hL rfl,h];rfl
  rw[e];exact⟨fun _=>rfl,id⟩
 ·refine⟨fun q=>absurd q h1,fun _=>?_⟩;have e:O.filter (ew d.ex to)=O.filter fun t=>!d.ex.contains t:=by
   apply μ;intro t ht;unfold ew;rw[decide_eq_true (h4 t ht),ρ]
  have i0:dZ (O.filter (ew d.ex to)):=List.Pairwise.filter _ h3;obtain⟨i1,i2⟩:=vi (d.xt.filter (je d.ex to d.st)) _ i0;have l1:=Dg i0 i1 fun x hx=>(i2 x).2 (.inl hx);have l2:=wN d.ex h3;rw[←e]at l2;omega
theorem aaD {d:iT}{to:Int}(cM:0≤d.st)(hr:d.rl=none):TZ d to [d.st]:=by
 left;have e1:eH d=false:=by unfold eH;rw[hr];rfl
 unfold lL qy;rw[e1];simp only[ψ,if_false];by_cases h:d.st<to
 ·rw[if_pos ⟨cM,h⟩];have e:d.st/86400 * 86400+d.st%86400=d.st:=by omega
  simp only[Γ,Δ,e];apply μ;intro t ht;rw[υ]at ht;subst ht;unfold ew;rw[decide_eq_true h,ρ]
 ·rw[if_neg (fun q=>h q.2)];unfold ew;rw[List.filter_cons_of_neg (by simp[h])];rfl
theorem aaE {d:iT}{to:Int}(hr:d.rl=none):dZ (lL (eH d) (fE d) d.st 0 to):=by
 have e1:eH d=false:=by unfold eH;rw[hr];rfl
 unfold lL;rw[e1];simp only[ψ,if_false];split<;>simp[dZ]
theorem rI {un un' st to:Int}(h0:0≤un')(hu:un=un'∨(un=-1∧un'=9223372036854775807))(t1:to<7258118400):
 (∀d,kE (st%86400) d<to→(un<0∨kE (st%86400) d≤un)→d * 86400≤eR un' st to)∧(∀d,to≤kE (st%86400) d→eR un' st to<d * 86400)∧(∀d,0≤un→un<kE (st%86400) d→eR un' st to<d * 86400)∧eR un' st to<7300000000∧(∀d,d * 86400≤eR un' st to→kE (st%86400) d<to):=by
 unfold eR kE;refine⟨fun d a b=>?_,fun d a=>?_,fun d a b=>?_,?_,fun d a=>?_⟩<;>omega
theorem aaF {d:iT}{to:Int}{F:Nat→Option (List UInt8)}{r:au}(cM:0≤d.st)(hx:dZ d.xt)(qj:d.ex.length≤20)(hr:d.rl=some F)(hF:xJ F=r)(ho:cX r)(t1:to<7258118400){P:Int→Bool}(hP:∀x,d.st/86400≤x→P x=nA (aJ r (d.st/86400)) (d.st/86400) x)
 (k:Nat)(L:List Int)(hL:L=(aV (d.st/86400) k).filter P)(hk:∀j:Nat,j<k→(d.st/86400+j) * 86400≤eR r.un d.st to)
 (h:(eR r.un d.st to<(d.st/86400+k) * 86400∧(r.ct=0∨(L.length:Int)<r.ct))∨(0<r.ct∧(L.length:Int)=r.ct)∨(3021≤L.length∧(r.ct=0∨(L.length:Int)<r.ct))):TZ d to (L.map (kE (d.st%86400))):=by
 have hf:0≤r.fq∧r.fq≤3:=⟨ho.Av,ho.Cr⟩;obtain⟨_,_,_,ll,lt⟩:=rI (un:=r.un) (st:=d.st) ho.SF (.inl rfl) t1;have Jq:L=(aV (d.st/86400) k).filter (nA (aJ r (d.st/86400)) (d.st/86400)):=by
  rw[hL];apply μ;intro x hx;exact hP x (jb.1 hx).1
 have e1:lL (eH d) (fE d) d.st 0 to=oQ r d.st 0 (eR r.un d.st to):=by
  unfold lL eH fE;rw[hr];simp only[Option.isSome_some,if_true,hF]
 have uE:∀t∈L.map (kE (d.st%86400)),t<to:=by
  intro t ht;obtain⟨x,hx,rfl⟩:=List.mem_map.1 ht;rw[hL]at hx;have hm:=jb.1 (List.mem_filter.1 hx).1;have:=hk (x - d.st/86400).toNat (by omega);rw[show d.st/86400+((x - d.st/86400).toNat:Int)=x by omega]at this;exact lt x this
 have Kc:oQ r d.st 0 (eR r.un d.st to)=L→TZ d to (L.map (kE (d.st%86400))):=fun q=>by
  left;rw[e1,q];unfold qy;apply μ;intro t ht;unfold ew;rw[decide_eq_true (uE t ht),ρ]
 rcases h with⟨a,b⟩|⟨a,b⟩|⟨a,b⟩
 ·exact Kc (Wq r hf d.st _ k cM ho.Cs ho.IG ll hk L Jq (by omega) a)
 ·exact Kc (Ui r hf d.st _ k cM ho.Cs ho.IG ll hk L Jq a b)
 ·right;have hq:=Wr r hf d.st _ k cM ho.Cs ho.IG ll hk L Jq b;have hi:dZ L:=by rw[hL];exact List.Pairwise.filter _ (pZ _ _)
  refine⟨QZ d to cM hx (by rw[e1];exact Pt r hf d.st _ cM ho.Cs ho.IG ll) qj (by rw[e1];omega),by rw[List.length_map];exact a,?_,uE⟩;exact List.pairwise_map.2 (hi.imp (fun q=>by unfold kE;omega))
theorem rd_some {d:iT}{to:Int}{F:Nat→Option (List UInt8)}{r:au}(cM:0≤d.st)(hr:d.rl=some F)(hF:xJ F=r)(ho:cX r)(t1:to<7258118400):dZ (lL (eH d) (fE d) d.st 0 to):=by
 obtain⟨_,_,_,ll,_⟩:=rI (un:=r.un) (st:=d.st) ho.SF (.inl rfl) t1;unfold lL eH fE;rw[hr];simp only[Option.isSome_some,if_true,hF];exact Pt r ⟨ho.Av,ho.Cr⟩ d.st _ cM ho.Cs ho.IG ll
theorem Pu {u:ByteArray}{st ln:Int}{rc:List Value}{ex xt:Value}{op:Bool}{k:Int}(h:rc.length=19):∀j v,rc[j]?=some v→(fe u st ln rc ex xt op k)[3+j]?=some v:=fun j v hv=>by
 obtain⟨hj,_⟩:=List.getElem?_eq_some_iff.1 hv;unfold fe;rw[List.getElem?_append_left (by simp;omega),κ (by simp)];simpa using hv
theorem GS {u:ByteArray}{st ln:Int}{rc:List Value}{ex xt:Value}{op:Bool}{k:Int}(h:rc.length=19):(fe u st ln rc ex xt op k)[1]?=some (V Z st)∧(fe u st ln rc ex xt op k)[2]?=some (V Z ln)∧(fe u st ln rc ex xt op k)[22]?=some ex∧(fe u st ln rc ex xt op k)[23]?=some xt:=by
 unfold fe;refine⟨rfl,rfl,?_,?_⟩
 ·rw[κ (by simp[h])];simp[h]
 ·rw[κ (by simp[h])];simp[h]
theorem Dh {s:List UInt8}{d:iT}(h:cG s= .ok d):(0≤d.st∧d.st≤7258118399)∧(1≤d.ln∧d.ln≤2678400)∧dZ d.xt∧d.ex.length≤20∧d.xt.length≤20∧(d.rl=none∨∃F r,d.rl=some F∧xJ F=r∧kH F r∧qh r=true):=by
 obtain⟨_,q1,q2,q3,q4,q5⟩:=BJ h;have f3:=AV q3;have f4:=AV q4;refine⟨xK q1,EM q2,f4.1,f3.2.1,f4.2.1,?_⟩;cases h4:d.f 4 with
 |none=>
  rw[h4]at q5;exact .inl (ζ q5).symm
 |some v=>
  rw[h4]at q5;change (cV v).map some=some d.rl at q5;cases hF:cV v with
  |none=>rw[hF]at q5;cases q5
  |some F=>
   rw[hF]at q5;obtain⟨r,hR⟩:=(pD v F).1 hF;exact .inr ⟨F,r,(ζ q5).symm,Jd hR.2.2.1,hR.2.2.1,hR.2.2.2⟩
theorem aaG (s:List UInt8)(d:iT)(hd:cG s= .ok d)(u:ByteArray)(rc:List Value)(aG aI:Value)(op:Bool)(k to:Int)(w:η)(t0:0≤to)(t1:to<7258118400)
 (i1:cF w aG d.ex)(i2:cF w aI d.xt)(Oj:(d.rl=none∧rc=bD)∨∃F N,d.rl=some F∧yA rc F∧fJ N w (.agg rc.toArray) F):
 Ε prog 188 #[.agg (fe u d.st d.ln rc aG aI op k).toArray, V Z to, V Z 3000] w fun e w'=>∃O v,TZ d to O∧e= δ v∧w'.ownsRow w.heap.size 3 1 v (fl (O.filter (ew d.ex to)) (d.xt.filter (je d.ex to d.st))).length ((fl (O.filter (ew d.ex to)) (d.xt.filter (je d.ex to d.st))).map (Ζ Z))∧Below w.heap.size w w':=by
 obtain⟨⟨a0,a1⟩,_,a3,a4,a5,a6⟩:=Dh hd;obtain⟨Dd,De,rfl,_⟩:=dA i1;obtain⟨AX,Df,rfl,_⟩:=dA i2;rcases Oj with⟨h1,rfl⟩|⟨F,N,h1,hT,hR⟩
 ·obtain⟨g1,_,g22,g23⟩:=GS (u:=u) (st:=d.st) (ln:=d.ln) (rc:=bD) (ex:= ε Dd d.ex.length De) (xt:= ε AX d.xt.length Df) (op:=op) (k:=k) rfl;obtain⟨l1,l2,l3,_,_⟩:=rI (un:=0) (un':=0) (st:=d.st) (to:=to) (by omega) (.inl rfl) t1;exact Pp (fe u d.st d.ln bD (ε Dd d.ex.length De) (ε AX d.xt.length Df) op k) bD d.st to 0 0 0 0 Dd none AX d.ex.length De 0 0 Df d.ex d.xt w (d.st/86400) (d.st%86400) (TZ d to)
   (ad (Pu rfl)) rfl g1 rfl rfl rfl rfl rfl g22 g23 a0 (by omega) t0 t1 i2 a5 (ad fun n W hW=>xL _ _ n W (i1.on hW)) rfl rfl (eR 0 d.st to) (fun _=>0) (fun _=>0) (fun _=>true) (fun _=>true) (fun _=>_) (fun _=>[])
   (fun h=>absurd rfl h) (ad l1) (ad l2) (ad l3) (ad fun _=>rfl) (fun _ _ _=>by omega) (ad fun _ _ _ _ _ _ _=>rfl) (ad fun _ _ _=>by omega) (ad fun _=>by simp) (ad fun h=>absurd rfl h) (ad fun h=>absurd rfl h) (ad fun h=>absurd rfl h) (ad fun h=>absurd rfl h) (ad fun h=>absurd rfl h) (ad fun _=>aaD a0 h1) (ad fun h=>absurd rfl h)
 ·rcases a6 with h|⟨F',r,h2,h3,h4,h5⟩
  ·rw[h1]at h;cases h
  rw[h1]at h2;cases h2;have ho:=yP h4;have hf:0≤r.fq∧r.fq≤3:=⟨ho.Av,ho.Cr⟩;have hu:=(Ju h4).2.2.2.1;have Di:=aaC hR h4;obtain⟨v6,e6,i6⟩:=Di.sp;obtain⟨apl,cpl,rfl,_⟩:=dA i6;obtain⟨g1,_,g22,g23⟩:=GS (u:=u) (st:=d.st) (ln:=d.ln) (rc:=rc) (ex:= ε Dd d.ex.length De) (xt:= ε AX d.xt.length Df) (op:=op) (k:=k) hT.len;have Pv:=Pu (u:=u) (st:=d.st) (ln:=d.ln) (rc:=rc) (ex:= ε Dd d.ex.length De) (xt:= ε AX d.xt.length Df) (op:=op) (k:=k) hT.len;obtain⟨l1,l2,l3,_,_⟩:=rI (st:=d.st) (to:=to) ho.SF hu t1;have Im:0≤d.st/86400:=by omega
  have hub:-1≤Cg (F 3)∧Cg (F 3)<7258118400:=by
   unfold Cg;cases h3':F 3 with
   |none=>simp
   |some v=>
    simp only[];split
    ·have:=Dt (by assumption);omega
    ·omega
  refine Pp (fe u d.st d.ln rc (ε Dd d.ex.length De) (ε AX d.xt.length Df) op k) rc d.st to (r.fq+1) r.iv r.ct (Cg (F 3)) Dd apl AX d.ex.length De r.pls.length cpl Df d.ex d.xt w (d.st/86400) (d.st%86400) (TZ d to)
   (ad Pv) hT.len g1 (Pv 0 _ Di.c0) (Pv 1 _ Di.c1) (Pv 2 _ Di.c2) (Pv 3 _ Di.c3) (Pv 6 _ e6) g22 g23 a0 (by omega) t0 t1 i2 a5 (ad fun n W hW=>xL _ _ n W (i1.on hW)) rfl rfl (eR r.un d.st to)
   (fun x=>Jg (r.fq+1) r.ws (d.st/86400) x) (fun x=>lr (r.fq+1) r.ws x) (fun x=>Mq (r.fq+1) r.ms r.mds r.wks x (d.st/86400)) (fun x=>re r.pls (qD r (d.st/86400) x).length 0 (qD r (d.st/86400) x) x) (fun _=>_) (fun x=>qD r (d.st/86400) x)
   (fun _=>⟨ho.Cs,ho.Yp,ho.IG,ho.ct9,hub.1,hub.2⟩) (ad l1) (ad l2) (ad l3) (ad fun _=>rfl) (fun x x0 x1=>?_) (ad fun x y x0 x1 y0 y1 e=>?_) (ad fun x x0 x1=>?_) (ad fun x=>?_)
   (ad fun _ x x0 x1 W hW=>Q0 r _ rc _ x W (Di.on hW) ho Im x0 (by omega)) (ad fun _ x x0 x1 W hW=>MF r _ rc x _ W (Di.on hW) ho (by omega) (by omega) (.inl (by omega))) (ad fun _ x x0 x1 W hW=>BV r _ rc x W (Di.on hW) ho (by omega) (by omega)) (ad fun _ x x0 x1 W hW=>Ww r _ rc _ x W (Di.on hW) ho h5 Im x0 x1) (ad fun _ x x0 x1 W v hW hv=>Wt r _ rc v _ x W (Di.on hW) hv)
   (ad fun h=>by have:=ho.Av;omega) (ad fun _ kk L hL hk hh=>?_)
  ·have:=aaB r hf Im x0 x1;rw[YX r hf];exact this
  ·have bx:=BR r hf (s:=d.st/86400) (d:=x) (by omega);have bY:=BR r hf (s:=d.st/86400) (d:=y) (by omega);have e':lr (r.fq+1) r.ws y=lr (r.fq+1) r.ws x:=e;rw[bx,bY]at e';have pf:=wj r ho Im y0 y1;have:=Wv r (by omega) e';show qD r (d.st/86400) y=qD r (d.st/86400) x;unfold qD;rw[this]
  ·have bx:=BR r hf (s:=d.st/86400) (d:=x) (by omega);have pf:=wj r ho Im x0 x1;show -366<lr (r.fq+1) r.ws x;omega
  ·show(qD r (d.st/86400) x).length≤1000;unfold qD im ed;have:=GR (kU (aJ r (d.st/86400))) (aE r (d.st/86400) (aH r (d.st/86400) x)) (gq r (d.st/86400) (aH r (d.st/86400) x) - aE r (d.st/86400) (aH r (d.st/86400) x)).toNat;have ps:=D7 r (d.st/86400) (aH r (d.st/86400) x);rw[←mr]at ps;omega
  ·exact aaF a0 a3 a4 h1 h3 ho t1 (fun x hx=>(aax r hf Im hx).symm) kk L hL hk hh
def Uj (s:List UInt8)(f t:Int)(w:η):Ending→η→Prop:=fun e w'=>
 (match kY s f t with
  | .error x=>e= δ (.tuple #[ε none 0 0, V Z x])
  | .ok l=>∃v,e= δ (.tuple #[v, V Z 0])∧w'.ownsRow w.heap.size 163 2 v l.length (eo l))∧Below w.heap.size w w'
theorem Uk {f t:Int}(h:nz f t=true):0≤t∧t<7258118400:=by
 unfold nz at h;simp only[Α]at h;have:=h.1.2;unfold cD at this;simp only[Α,decide_eq_true_eq]at this;omega
theorem Wx (s:List UInt8)(f t x:Int)(w:η)(gn:¬x=0)(C:Hid (Ε prog 186 #[.string (ba s)] w fun e w'=>e= δ (.tuple #[.agg xp.toArray, V Z x])∧Below w.heap.size w w')):
 Ε prog 112 #[.string (ba s), V Z f, V Z t] w fun e w'=>e= δ (.tuple #[ε none 0 0, V Z x])∧Below w.heap.size w w':=by
 have fR:(x==0)=false:=beq_eq_false_iff_ne.2 gn;have fZ:(x !=0)=true:=by simp[gn]
 go_enter func112,ntmps112;go_wp2_with (first
  |(go_at_call 186;refine(C.out).mono ?_;rintro e w1 ⟨rfl,ai⟩)
  |(refine aW rfl (kj rfl _ _) ?_;intro w2 Cp fb az)
  |(refine aN rfl rfl rfl rfl Cp rfl dB (gX ef rfl rfl) ?_;intro w3 uT iW))
 go_ret2;exact⟨rfl,(ai.trans (az.mono ai.size)).trans (iW.below (by have:=ai.size;omega) (fun k hk=>by have:=ai.size;omega))⟩
theorem NP (s:List UInt8)(f t:Int)(w:η)(hs:s.length≤1048575)(hn:cE w 1 0 bJ)(hg:1<w.heap.size)(It:cE w 2 0 aC)(Ez:2<w.heap.size):
 Ε prog 112 #[.string (ba s), V Z f, V Z t] w (Uj s f t w):=by
 have CR:=Lk s w hs hn hg It Ez;cases hr:cG s with
 |error x=>
  have gn:¬x=0:=by rcases Lr hr with rfl|rfl|rfl<;>decide
  have he:kY s f t= .error x:=by unfold kY;rw[hr]
  refine(Wx s f t x w gn (ad (CR.mono fun e w' ⟨hb,h⟩=>?_))).mono fun e w' h=>?_
  ·rcases h with⟨y,h1,h2⟩|⟨d,rc,ex,xt,h1,_⟩
   ·rw[hr]at h1;cases h1;exact⟨h2,hb⟩
   ·rw[hr]at h1;cases h1
  ·unfold Uj;rw[he];exact h
 |ok d=>
  obtain⟨⟨a0,a1⟩,⟨l1,l2⟩,a3,a4,a5,a6⟩:=Dh hr;have hL:∀to,to<7258118400→dZ (lL (eH d) (fE d) d.st 0 to):=fun to ht=>by
   rcases a6 with h|⟨F,r,h2,h3,h4,_⟩
   ·exact aaE h
   ·exact rd_some a0 h2 h3 (yP h4) ht
  have qU:eH d=true→cX (fE d):=fun h=>by
   rcases a6 with h'|⟨F,r,h2,h3,h4,_⟩
   ·unfold eH at h;rw[h']at h;cases h
   ·unfold fE;rw[h2];simp only[h3];exact yP h4
  refine(adX (ba s) d f t w l1 l2 (ad fun hw=>?_) (ad (CR.mono fun e w' ⟨hb,h⟩=>?_))).mono fun e w' h=>?_
  ·have hx:=AV (BJ hr).2.2.2.2.1;exact TK (eH d) (fE d) qU d.st 0 t d.ex d.xt a0 (by omega) (by omega) (by have:=Uk hw;omega) fun y hy=>by have:=hx.2.2 y hy;omega
  ·rcases h with⟨y,h1,h2⟩|⟨d',rc,ex,xt,h1,h2,i1,i2,h3⟩
   ·rw[hr]at h1;cases h1
   ·rw[hr]at h1;cases h1;have kA:rc.length=19∧∀x∈rc,x.oneCell'=true:=by
     rcases h3 with⟨_,rfl⟩|⟨F,_,hF,_⟩
     ·exact⟨rfl,ef⟩
     ·exact⟨hF.len,hF.one⟩
    obtain⟨b5,e5,hf5,_⟩:=dA i1;obtain⟨b6,e6,hf6,_⟩:=dA i2;refine⟨_,h2,BL kA.1,gX kA.2 (by rw[hf5];rfl) (by rw[hf6];rfl),(GS kA.1).2.1,hb,ad fun hw W hW=>?_⟩;obtain⟨t0,t1⟩:=Uk hw;refine(aaG s d hr _ rc ex xt _ _ t W t0 t1 (sj i1 hW) (sj i2 hW) ?_).mono ?_
    ·rcases h3 with h3|⟨F,q1,q2,q3⟩
     ·exact .inl h3
     ·exact .inr ⟨F,_,q1,q2,q3.keep fun g hg _=>hW.block g hg⟩
    ·rintro e w3 ⟨O,v,hZ,rfl,aw,bw⟩;have:=aek a0 a3 a4 (hL t t1) hZ;exact⟨v,_,rfl,aw,bw,this.1,this.2⟩
  ·unfold Uj kY;rw[hr];obtain⟨h1,h2⟩:=h;refine⟨?_,h2⟩;by_cases hw:nz f t=true
   ·rw[if_pos hw]at h1;simp only[hw,if_true];by_cases hl:(cL d t).length≤3000
    ·rw[if_pos hl]at h1;simp only[if_pos hl];exact h1
    ·rw[if_neg hl]at h1;simp only[if_neg hl];exact h1
   ·rw[if_neg hw]at h1;simp only[if_neg hw];exact h1
def Zo (W w':η)(B:Nat)(e:ξ)(sz:Nat)(v v':Value)(n:Nat)(xs:List Value):Prop:=
 (v'.ownBlock=v.ownBlock∧w'.ownsRow B e sz v n xs)∨(v'.ownBlock=some W.heap.size∧∀k,k<W.heap.size→w'.heap[k]?=W.heap[k]?)
theorem Wy {P:Program}(w:η)(base:Nat)(t ty e:ξ)(i:TypeInfo)(z:Value)(size bytes:Nat)(ht:P.underlying t=some (.slice e))(hi:P.info? e=some i)(hz:i.zero=some z)
 (yW:i.size=size)(hby:i.bytes=bytes)(Zc:z.cells.size=size)(bu:0<size)(v:Value)(n:Nat)(xs:List Value)(aw:w.ownsRow base e size v n xs)
 (a:Addr)(m c:Nat)(news:List Value)(hl:news.length=m * size)(Q1:∀j u,news[j]?=some u→w.cell? (a.add j)=some u)(h1:∀u∈news,u.oneCell'=true)
 (h63:n+m≤maxLen)(gC:(n+m) * bytes≤140737488355328)(ae6:base≤w.heap.size):
 ∃v' w',(Builtin.append_ #[t,t] ty #[v, ε (some a) m c]).run P w= .ok v' w'∧w'.ownsRow base e size v' (n+m) (xs++news)∧w.grownBy w' v.ownBlock∧Zo w w' base e size v v' n xs:=by
 obtain⟨v',w',hr,h2,h3,_,h5⟩:=run_append_own_at (P:=P) w base t ty e i z size bytes ht hi hz yW hby Zc bu v n xs aw a m c news hl Q1 h1 h63 gC ae6;refine⟨v',w',hr,h2,h3,?_⟩;rcases aw.2 with⟨rfl,rfl⟩|⟨g,cap,cur,rfl,Jm,hg,Zp,I8,sA,ae7⟩
 ·rcases h5 with h5|h5
  ·have hx:xs=[]:=List.eq_nil_of_length_eq_zero (by simpa using aw.1);subst hx;exact .inl ⟨h5,World.ownsRow_nil _ _ _ _⟩
  ·exact .inr ⟨h5,fun k hk=>h3.block k hk (by simp[π])⟩
 ·have aib:((n+m:Nat):Int)≤9223372036854775807:=by simp only[maxLen]at h63;omega
  by_cases Zq:n+m≤cap
  ·have AA:n * i.size+news.length≤cur.size:=by rw[yW,hl,sA,←Nat.add_mul];exact Nat.mul_le_mul_right _ Zq
   have xh:=run_append_room (P:=P) w t ty e i ht hi g n cap cur hg a m c news (by rw[yW];exact hl) Q1 h1 Zq AA;rw[xh]at hr;injection hr with e1 e2
   subst e1 e2;refine .inl ⟨rfl,aw.1, .inr ⟨g,cap,_,rfl,Jm,setRow_heap w g cur _ e _ hg,Zp,I8,?_,?_⟩⟩
   ·simp only[ω,φ,List.length_take,List.length_drop,Array.length_toList];rw[yW]at AA⊢;omega
   ·have KW:xs.length=n * size:=aw.1;rw[yW,ae7];show List.take (n * size) ((xs++news++_).toArray).toList=xs;rw[List.append_assoc,←KW];exact List.take_left
  ·have holds:∀j u,xs[j]?=some u→w.cell? ((⟨g,0,none⟩:Addr).add j)=some u:=aw.cells (g:=g) rfl;have xh:=run_append_grow (P:=P) w t ty e i z ht hi hz ⟨g,0,none⟩ n cap xs (by rw[yW];exact aw.1) holds a m c news (by rw[yW];exact hl) Q1 (by omega) aib (growslice_fits (by omega) (by rw[hby];exact gC));rw[xh]at hr;injection hr with e1 e2
   subst e1 e2;exact .inr ⟨rfl,fun k hk=>heap_alloc_old w.drew _ hk⟩
theorem yX {P:Program}{ops:Array Oper}{rest:List Oper}{o:Oper}{a:Act}{Q:Exit→Act→η→Prop}(W:η)(ix:o.guard=none)(s x:Operand)(t e:ξ)(z:Value)(sz bytes:Nat)
 (ho:o.op= .call {callee:= .builtin .append,args:=#[s,x],argTypes:=#[t,t]})(hu:P.underlying t=some (.slice e))(bu:0<sz)
 (kN:(P.info? e).map (fun i=>(i.zero,i.size,i.bytes))=some (some z,sz,bytes))(hz:z.cells.size=sz)(B:Nat)(v:Value)(n:Nat)(xs:List Value)(hs:a.eval s=v)
 (aw:W.ownsRow B e sz v n xs)(p m:Nat)(news:List Value)(hx:a.eval x= ε (some ⟨p,0,none⟩) m m)(hl:news.length=m * sz)(hc:∀j u,news[j]?=some u→W.cell? ⟨p,j,none⟩=some u)(h1:∀u∈news,u.oneCell'=true)
 (hn:n+m≤16777216)(gC:bytes≤64)(hB:B≤W.heap.size)
 (h:∀v' w',w'.ownsRow B e sz v' (n+m) (xs++news)→W.grownBy w' v.ownBlock→Zo W w' B e sz v v' n xs→wpList P ops Q rest (a.put o.dst v') w'):wpList P ops Q (o::rest) a W:=by
 obtain⟨i0,hi,fH,eP,fb⟩:=info_parts kN;have hb:(n+m) * bytes≤140737488355328:=by
  have:(n+m) * bytes≤16777216 * 64:=Nat.mul_le_mul hn gC;omega
 refine wpList_plain ix fun K hK=>?_;obtain⟨v',w',hr,h2,h3,h4⟩:=Wy (P:=P) W B t o.type e i0 z sz bytes hu hi fH eP fb hz bu v n xs aw ⟨p,0,none⟩ m m news hl (fun j u hj=>by
  have aic:(⟨p,0,none⟩:Addr).add j=⟨p,j,none⟩:=by unfold Addr.add;split<;>simp_all
  rw[aic];exact hc j u hj) h1 (by unfold maxLen;omega) hb hB
 unfold Oper.wp execOp;simp only[ho,resolve,invoke,builtin,Sem.run_bind,Sem.run_pure,Result.andThen_ok,List.map_toArray,Γ,Δ,hs,hx,hr];exact hK _ _ (h v' w' h2 h3 h4)
def mu (N:Int)(j:Nat):List Value:=θ (j * 2) (V Z (-N))
def mv (w:η)(v:Value)(j:Nat)(N:Int):Prop:=(v= ε none 0 0∧j=0)∨∃g cap cur,v= ε (some ⟨g,0,none⟩) j cap∧w.heap[g]?=some (.cells cur 39 (0,0))∧cur.toList.take (j * 2)=mu N j
theorem mv.of {w:η}{B:Nat}{v:Value}{j:Nat}{N:Int}(h:w.ownsRow B 39 2 v j (mu N j)):mv w v j N:=by
 rcases h.2 with⟨e1,e2⟩|⟨g,cap,cur,e1,_,e2,_,_,_,e3⟩
 ·exact .inl ⟨e1,e2⟩
 ·exact .inr ⟨g,cap,cur,e1,e2,e3⟩
theorem mv.on {w w':η}{v:Value}{j:Nat}{N:Int}(h:mv w v j N)(hk:∀g,v.ownBlock=some g→g<w.heap.size→w'.heap[g]?=w.heap[g]?):mv w' v j N:=by
 rcases h with h|⟨g,cap,cur,e1,e2,e3⟩
 ·exact .inl h
 ·exact .inr ⟨g,cap,cur,e1,by rw[hk g (by rw[e1];rfl) (Array.getElem?_eq_some_iff.1 e2).1];exact e2,e3⟩
theorem Wz (N:Int){j k:Nat}(h:j≤k):(mu N k).take (j * 2)=mu N j:=by
 unfold mu;rw[List.take_replicate];congr 1;omega
theorem aaH (N:Int)(j m:Nat):mu N j++θ (m * 2) (V Z (-N))=mu N (j+m):=by
 unfold mu;rw[List.replicate_append_replicate];congr 1;omega
theorem mv.app {W w':η}{B:Nat}{l l' v:Value}{k m j:Nat}{N:Int}{xs:List Value}(h:mv W v j N)(ho:w'.ownsRow B 39 2 l' (k+m) (mu N (k+m)))(hg:W.grownBy w' l.ownBlock)(hk:Zo W w' B 39 2 l l' k xs)(hj:j≤k+m):mv w' v j N:=by
 rcases hk with⟨e1,_⟩|⟨_,e2⟩
 ·by_cases hv:v.ownBlock=l.ownBlock∧v≠ ε none 0 0
  ·rcases h with h|⟨g,cap,cur,q1,q2,q3⟩
   ·exact .inl h
   ·rcases ho.2 with⟨o1,_⟩|⟨g',aid,aie,o1,_,o2,_,_,_,o3⟩
    ·rw[o1]at e1;rw[q1,←e1]at hv;exact absurd hv.1 (by simp[π])
    ·have:g'=g:=by
      have a:=hv.1;rw[q1,←e1,o1]at a;simpa[π]using a.symm
     subst this;refine .inr ⟨g',cap,aie,q1,o2,?_⟩;rw[←Wz N hj,←o3,List.take_take];congr 1;omega
  ·refine h.on fun g uV ay=>hg.block g ay fun q=>hv ⟨uV.trans q,fun e=>?_⟩;rw[e]at uV;cases uV
 ·exact h.on fun g _ ay=>e2 g ay
theorem Ul (a:Act)(h:a.tmps.size=73)(hd:a.defers=[]):∃f:Nat→Value,a=⟨List.toArray (f 0::f 1::f 2::f 3::f 4::f 5::f 6::f 7::f 8::f 9::f 10::f 11::f 12::f 13::f 14::f 15::f 16::f 17::f 18::f 19::f 20::f 21::f 22::f 23::f 24::f 25::f 26::f 27::f 28::f 29::f 30::f 31::f 32::f 33::f 34::f 35::f 36::f 37::f 38::f 39::f 40::f 41::f 42::f 43::f 44::f 45::f 46::f 47::f 48::f 49::f 50::f 51::f 52::f 53::f 54::f 55::f 56::f 57::f 58::f 59::f 60::f 61::f 62::f 63::f 64::f 65::f 66::f 67::f 68::f 69::f 70::f 71::f 72::[]),[]⟩∧∀k,a.eval (.tmp k)=f k:=jo 73 a h hd
theorem GU {o:Oper}(ho:o.op= .alloc 39)(a:Act)(w:η):(execOp a.eval o).run prog w= .ok (.value (.pointer (some ⟨w.heap.size,0,none⟩))) (w.alloc (.cells ([V Z 0, V Z 0]:List Value).toArray 39)):=by
 obtain⟨_,_,_,_,_,_⟩:=o;simp only[]at ho;subst ho;kernel_rfl
theorem wm:(prog.info? 39).map (·.size)=some 2:=by kernel_rfl
theorem MG (n:Int)(w:η)(h0:0≤n)(h1:n≤100000000):Ε prog 61 #[V Z n] w fun e w'=>e= δ (.agg #[V Z (-n), V Z (-n)])∧Below w.heap.size w w':=by
 go_enter func61,ntmps61;go_wp2_with (first
  |(refine aW rfl (GU rfl _ _) ?_;intro w1 r1 z1 b1)
  |(refine aN (vs:=[V Z (-n), V Z (-n)]) rfl rfl rfl rfl r1 rfl wm (by simp[Β]) ?_;intro w2 r2 x2))
 exact bodyPost_ret (v:= .agg #[V Z (-n), V Z (-n)]) (ke results61 rfl (run_loadVar_mid _ w.heap.size 0 39 _ _ (dc r2) underlying39 rfl wm)) rfl ⟨rfl,b1.trans (x2.below (by omega) (fun k hk=>by omega))⟩
def jf (l:List (Int×Value×Nat)):List Value:=(l.map fun q=>[Ζ Z q.1,q.2.1, ε none 0 0]).flatten
theorem WA:(prog.info? 100).map (fun i=>(i.zero,i.size,i.bytes))=some (some (.agg #[V Z 0, ε none 0 0, ε none 0 0]),3,56):=by kernel_rfl
theorem eN {w w':η}{B sz:Nat}{e:ξ}{v:Value}{n:Nat}{xs:List Value}(h:w.ownsRow B e sz v n xs)(hk:∀g,v.ownBlock=some g→g<w.heap.size→w'.heap[g]?=w.heap[g]?):w'.ownsRow B e sz v n xs:=
 ⟨h.1,h.2.elim .inl fun⟨g,cap,cur,h1,h2,h3,h4⟩=> .inr ⟨g,cap,cur,h1,h2,(hk g (by rw[h1];rfl) (Array.getElem?_eq_some_iff.1 h3).1).trans h3,h4⟩⟩
theorem Um {w:η}{B B' sz sz':Nat}{e e':ξ}{v v':Value}{n n':Nat}{xs Yz:List Value}(h:w.ownsRow B e sz v n xs)(h':w.ownsRow B' e' sz' v' n' Yz)(he:e≠e'):∀g,v.ownBlock=some g→v'.ownBlock≠some g:=by
 intro g q q';rcases h.2 with⟨a,_⟩|⟨g1,_,_,a,_,b,_⟩
 ·rw[a]at q;cases q
 rcases h'.2 with⟨c,_⟩|⟨g2,_,_,c,_,d,_⟩
 ·rw[c]at q';cases q'
 rw[a]at q;rw[c]at q';cases q;cases q';rw[b]at d;cases d;exact he rfl
theorem wo {w:η}{B sz p:Nat}{e T:ξ}{v:Value}{n:Nat}{xs cs:List Value}(h:w.ownsRow B e sz v n xs)(hr:af w p cs T)(he:e≠T):v.ownBlock≠some p:=by
 intro q;rcases h.2 with⟨a,_⟩|⟨g1,_,_,a,_,b,_⟩
 ·rw[a]at q;cases q
 ·rw[a]at q;cases q;unfold af at hr;rw[b]at hr;cases hr;exact he rfl
theorem MH {w:η}{p:Nat}{T:ξ}{v:Value}{j:Nat}{N:Int}{cs:List Value}(h:mv w v j N)(hr:af w p cs T)(he:39≠T):v.ownBlock≠some p:=by
 intro q;rcases h with⟨a,_⟩|⟨g,cap,cur,a,b,_⟩
 ·rw[a]at q;cases q
 ·rw[a]at q;cases q;unfold af at hr;rw[b]at hr;cases hr;exact he rfl
theorem MI {w:η}{B sz:Nat}{e:ξ}{v u:Value}{j n:Nat}{N:Int}{xs:List Value}(h:mv w v j N)(ho:w.ownsRow B e sz u n xs)(he:39≠e):∀g,v.ownBlock=some g→u.ownBlock≠some g:=by
 intro g q q';rcases h with⟨a,_⟩|⟨g1,cap,cur,a,b,_⟩
 ·rw[a]at q;cases q
 rcases ho.2 with⟨c,_⟩|⟨g2,_,_,c,_,d,_⟩
 ·rw[c]at q';cases q'
 rw[a]at q;rw[c]at q';cases q;cases q';rw[b]at d;cases d;exact he rfl
structure SS (w:η)(p Bl:Nat)(N:Int)(kv l:Value)(k:Nat)(items:List (Int×Value×Nat))(ex:List (Value×Nat))(wr:η):Prop where
 below:Below p w wr
 row:af wr p [ε none 0 0, V Z N,kv] 63
 own:wr.ownsRow Bl 39 2 l k (mu N k)
 kept:wr.ownsRow p 100 3 kv items.length (jf items)
 rf:∀it∈items,mv wr it.2.1 it.2.2 it.1∧∀g,it.2.1.ownBlock=some g→g<Bl
 ex:∀q∈ex,mv wr q.1 q.2 N
theorem SS.on {w wr gY:η}{p Bl:Nat}{N:Int}{kv l:Value}{k:Nat}{items:List (Int×Value×Nat)}{ex:List (Value×Nat)}(h:SS w p Bl N kv l k items ex wr)(hb:Below wr.heap.size wr gY):SS w p Bl N kv l k items ex gY:=
 ⟨h.below.trans (hb.mono (ι h.row.lt)),h.row.on hb,eN h.own fun g _ hg=>hb.block g hg,eN h.kept fun g _ hg=>hb.block g hg,fun it hit=>⟨(h.rf it hit).1.on fun g _ hg=>hb.block g hg,(h.rf it hit).2⟩,fun q hq=>(h.ex q hq).on fun g _ hg=>hb.block g hg⟩
theorem SS.alloc {w wr:η}{p Bl:Nat}{N:Int}{kv l:Value}{k:Nat}{items:List (Int×Value×Nat)}{ex:List (Value×Nat)}(h:SS w p Bl N kv l k items ex wr)(o:Obj):SS w p Bl N kv l k items ex (wr.alloc o):=h.on ((Below.refl _ _).alloc (Nat.le_refl _) _)
theorem SS.app {w W w':η}{p Bl:Nat}{N:Int}{kv l l':Value}{k m:Nat}{items:List (Int×Value×Nat)}{ex:List (Value×Nat)}(h:SS w p Bl N kv l k items ex W)(Pw:p<Bl)(ho:w'.ownsRow Bl 39 2 l' (k+m) (mu N k++θ (m * 2) (V Z (-N))))(hg:W.grownBy w' l.ownBlock)(hk:Zo W w' Bl 39 2 l l' k (mu N k))(hm:∀q∈ex,q.2≤k+m):
 SS w p Bl N kv l k items (ex++[(l',k+m)]) w':=by
 rw[aaH]at ho;have hlB:∀g,l.ownBlock=some g→Bl≤g:=fun g q=>(h.own.lt g q).1;refine⟨h.below.grown hg (ι h.row.lt) (fun g q=>by have:=hlB g q;omega),?_,?_,?_,?_,?_⟩
 ·unfold af;rw[hg.block p h.row.lt (fun q=>by have:=hlB p q.symm;omega)];exact h.row
 ·rcases hk with⟨_,q⟩|⟨_,q⟩
  ·exact q
  ·exact eN h.own fun g _ ay=>q g ay
 ·exact eN h.kept fun g q ay=>hg.block g ay fun r=>Um h.kept h.own (by decide) g q r.symm
 ·intro it hit;refine⟨(h.rf it hit).1.on fun g q ay=>hg.block g ay fun r=>?_,(h.rf it hit).2⟩;have:=(h.rf it hit).2 g q;have:=hlB g r.symm;omega
 ·intro q hq;rcases List.mem_append.1 hq with hq|hq
  ·exact(h.ex q hq).app ho hg hk (hm q hq)
  ·rw[υ]at hq;subst hq;exact mv.of ho
theorem Un (l m:List (Int×Value×Nat)):jf (l++m)=jf l++jf m:=by unfold jf;simp
def SpP (w:η)(p:Nat)(N:Int)(items:List (Int×Value×Nat))(w':η):Prop:=Below p w w'∧∃kv Q2,af w' p [ε none 0 0, V Z N,kv] 63∧w'.ownsRow p 100 3 kv Q2.length (jf Q2)∧Q2.length=items.length+4∧∀it∈Q2,mv w' it.2.1 it.2.2 it.1∧0≤it.1∧it.1≤100000000∧it.2.2≤4000
theorem ur {w:η}{B sz:Nat}{e:ξ}{v:Option Addr}{n k c:Nat}{xs:List Value}(h:w.ownsRow B e sz (ε v k c) n xs):k=n:=by
 rcases h.2 with⟨q,q2⟩|⟨g,cap,cur,q,_⟩
 ·cases q;exact q2.symm
 ·cases q;rfl
theorem wu {w:η}{B sz:Nat}{e:ξ}{v:Value}{n:Nat}{xs:List Value}(h:w.ownsRow B e sz v n xs):∃a n c,v= ε a n c:=by
 rcases h.2 with⟨q,_⟩|⟨g,cap,cur,q,_⟩
 ·exact⟨_,_,_,q⟩
 ·exact⟨_,_,_,q⟩
structure S0 (w:η)(p Bl:Nat)(N:Int)(kv:Value)(items:List (Int×Value×Nat))(wr:η):Prop where
 below:Below p w wr
 row:af wr p [ε none 0 0, V Z N,kv] 63
 kept:wr.ownsRow p 100 3 kv items.length (jf items)
 rf:∀it∈items,mv wr it.2.1 it.2.2 it.1∧∀g,it.2.1.ownBlock=some g→g<Bl
theorem S0.on {w wr gY:η}{p Bl:Nat}{N:Int}{kv:Value}{items:List (Int×Value×Nat)}(h:S0 w p Bl N kv items wr)(hb:Below wr.heap.size wr gY):S0 w p Bl N kv items gY:=
 ⟨h.below.trans (hb.mono (ι h.row.lt)),h.row.on hb,eN h.kept fun g _ hg=>hb.block g hg,fun it hit=>⟨(h.rf it hit).1.on fun g _ hg=>hb.block g hg,(h.rf it hit).2⟩⟩
theorem S0.aQ {w wr gY:η}{p Bl g:Nat}{N:Int}{kv:Value}{items:List (Int×Value×Nat)}{cs:List Value}(h:S0 w p Bl N kv items wr)(Pw:p<Bl)(hg:Bl≤g)(hr:af wr g cs 39)(hx:aK (fun k=>k=g) wr gY):S0 w p Bl N kv items gY:=
 ⟨h.below.trans (hx.below (ι h.row.lt) (fun k hk=>by omega)),h.row.aQ hx (by omega),eN h.kept fun g' q ay=>hx.block g' ay (fun e=>wo h.kept hr (by decide) (e▸q)),fun it hit=>⟨(h.rf it hit).1.on fun g' q ay=>hx.block g' ay (fun e=>by have:=(h.rf it hit).2 g' q;omega),(h.rf it hit).2⟩⟩
theorem aaI {N:Int}{cs:List Value}{i:Nat}(hl:(i+1) * 2≤cs.length)(h:cs.take (i * 2)=mu N i):(oD (i * 2) [V Z (-N), V Z (-N)] cs).take ((i+1) * 2)=mu N (i+1):=by
 show(((cs.set (i * 2) (V Z (-N))).set (i * 2+1) (V Z (-N)))).take ((i+1) * 2)=mu N (i+1);apply List.ext_getElem?;intro j;unfold mu at h⊢;rw[χ,τ];by_cases hj:j<(i+1) * 2
 ·rw[if_pos hj,if_pos hj];by_cases h1:j=i * 2+1
  ·subst h1;rw[List.getElem?_set_self (by rw[List.length_set];omega)]
  ·rw[List.getElem?_set_ne (by omega)];by_cases h2:j=i * 2
   ·subst h2;rw[List.getElem?_set_self (by omega)]
   ·rw[List.getElem?_set_ne (by omega)];have:=congrArg (fun l=>l[j]?) h;simp only[χ,τ]at this;rw[if_pos (by omega),if_pos (by omega)]at this;exact this
 ·rw[if_neg hj,if_neg hj]
theorem Jv (p Bl:Nat)(N0:Int)(kv l:Value)(k:Nat)(L:List Value)(items:List (Int×Value×Nat))(w:η)(n0:0≤N0)(n1:N0≤10000000)(hk:k≤3000)(hi:items.length≤8000000)(Pw:p<Bl)(hBw:Bl≤w.heap.size)(hit:∀it∈items,0≤it.1∧it.1≤100000000∧it.2.2≤4000)
 (ax:af w p [ε none 0 0, V Z N0,kv] 63)(aw:w.ownsRow Bl 39 2 l k L)(wv:w.ownsRow p 100 3 kv items.length (jf items))(D8:∀it∈items,mv w it.2.1 it.2.2 it.1∧∀g,it.2.1.ownBlock=some g→g<Bl):
 Ε prog 113 #[.pointer (some ⟨p,0,none⟩),l] w fun e w'=>e= δ (.tuple #[])∧SpP w p (N0+1) items w':=by
 obtain⟨N,hN⟩:∃N,N=N0+1:=⟨_,rfl⟩;have hNb:0≤N∧N≤20000000:=by omega
 have CS:=ad (fun W=>MG N W (by omega) (by omega));have c1:=ax.cell (k:=1) rfl;have f1:=ax.free (k:=1);have hx:aK (fun q=>q=p) w (w.setCell ⟨p,1,none⟩ (V Z N)):=(aK.refl (fun q=>q=p) w).setCell (p:=⟨p,1,none⟩) (.inl rfl) _;have h0:S0 w p Bl N kv items (w.setCell ⟨p,1,none⟩ (V Z N)):=⟨hx.below (ι ax.lt) (fun q hq=>by omega),ax.set (k:=1) _,eN wv fun g q ay=>hx.block g ay (fun e=>wo wv ax (by decide) (e▸q)),fun it h=>⟨(D8 it h).1.on fun g q ay=>hx.block g ay (fun e=>MH (D8 it h).1 ax (by decide) (e▸q)),(D8 it h).2⟩⟩;have ho:(w.setCell ⟨p,1,none⟩ (V Z N)).ownsRow Bl 39 2 l k L:=eN aw fun g q ay=>hx.block g ay (fun e=>by have:=(aw.lt g q).1;omega);have rh:Bl≤(w.setCell ⟨p,1,none⟩ (V Z N)).heap.size:=ο hBw hx.size;have H0:=ad h0;have HO:=ad ho;clear ax aw wv D8 hx h0 ho;obtain⟨al,nl,cl,rfl⟩:=qF HO.out;go_enter func113,ntmps113;go_upto_region 2 with fail;rw[←hN];have HN:=ad hN;clear hN c1 f1;generalize w.setCell ⟨p,1,none⟩ (V Z N)=X at *
 rename_i K1 aP K2 dI;have r6:∀(wr:η),Bl≤wr.heap.size→SS w p Bl N kv (ε al nl cl) k items [] wr→∀a:Act,a.tmps.size=73→a.defers=[]→a.eval (.tmp 0)= .pointer (some ⟨p,0,none⟩)→a.eval (.tmp 1)= ε al nl cl→a.eval (.tmp 4)= V Z N→K1 a wr:=by
  clear dI K2 H0 HO rh;intro wr rh hS a bu nM s0 s1 s4;refine aP a wr ?_;clear aP;obtain⟨f,rfl,hf⟩:=Ul a bu nM;have f0:=(hf 0).symm.trans s0;have f1:=(hf 1).symm.trans s1;have f4:=(hf 4).symm.trans s4;rw[f0,f1,f4];clear hf bu nM s0 s1 s4 f0 f1 f4;go_upto_region 7 with(first
   |(go_at_call 61;refine(CS.out _).mono ?_;rintro e wS ⟨rfl,zD⟩;replace hS:=hS.on zD;replace rh:=ο rh zD.size)
   |(at_builtin;refine yX _ rfl (.tmp 31) (.tmp 34) 35 39 _ 2 16 rfl underlying35 (by decide) yQ rfl Bl _ k (mu N k) rfl (hS.alloc _).own _ 1 (θ (1 * 2) (V Z (-N))) rfl (by simp) (fun j u hj=>(af.new _ _ _).cell hj) (fun u hu=>by rw[ν hu];rfl) (by omega) (by decide) (by simp;omega) ?_;intro v6 w6 o6 g6 k6;replace hS:=(hS.alloc _).app Pw o6 g6 k6 (by simp)))
  replace rh:Bl≤w6.heap.size:=by have:=g6.size;simp at this;omega
  go_upto_region 8 with(first
   |(go_at_call 61;refine(CS.out _).mono ?_;rintro e wS ⟨rfl,zD⟩;replace hS:=hS.on zD;replace rh:=ο rh zD.size)
   |(at_builtin;refine yX _ rfl (.tmp 36) (.tmp 41) 35 39 _ 2 16 rfl underlying35 (by decide) yQ rfl Bl _ k (mu N k) rfl (hS.alloc _).own _ 2 (θ (2 * 2) (V Z (-N))) rfl (by simp) (fun j u hj=>(af.new _ _ _).cell hj) (fun u hu=>by rw[ν hu];rfl) (by omega) (by decide) (by simp;omega) ?_;intro v7 w7 o7 g7 k7;replace hS:=(hS.alloc _).app Pw o7 g7 k7 (by simp)))
  replace rh:Bl≤w7.heap.size:=by have:=g7.size;simp at this;omega
  go_upto_region 9 with(first
   |(go_at_call 61;refine(CS.out _).mono ?_;rintro e wS ⟨rfl,zD⟩;replace hS:=hS.on zD;replace rh:=ο rh zD.size)
   |(at_builtin;refine yX _ rfl (.tmp 43) (.tmp 50) 35 39 _ 2 16 rfl underlying35 (by decide) yQ rfl Bl _ k (mu N k) rfl (hS.alloc _).own _ 3 (θ (3 * 2) (V Z (-N))) rfl (by simp) (fun j u hj=>(af.new _ _ _).cell hj) (fun u hu=>by rw[ν hu];rfl) (by omega) (by decide) (by simp;omega) ?_;intro v8 w8 o8 g8 k8;replace hS:=(hS.alloc _).app Pw o8 g8 k8 (by simp)))
  replace rh:Bl≤w8.heap.size:=by have:=g8.size;simp at this;omega
  have c2:=hS.row.cell (k:=2) rfl;obtain⟨ak,nk,ck,rfl⟩:∃a n c,kv= ε a n c:=by
   rcases hS.kept.2 with⟨q,_⟩|⟨g,cap,cur,q,_⟩
   ·exact⟨_,_,_,q⟩
   ·exact⟨_,_,_,q⟩
  obtain⟨a6,n6,c6,rfl⟩:=qF o6;obtain⟨a7,n7,c7,rfl⟩:=qF o7;obtain⟨a8,n8,c8,rfl⟩:=qF o8;have e6:=ur o6;have e7:=ur o7;have e8:=ur o8;have e9:=ur hS.own;subst e6 e7 e8;subst e9;go_wp2_with (at_builtin;refine yX _ rfl (.tmp 56) (.tmp 69) 61 100 _ 3 56 rfl underlying61 (by decide) WA rfl p _ items.length (jf items) rfl (hS.alloc _).kept _ 4 (jf [(N, ε al nl cl,nl),(N, ε a6 (nl+1) c6,nl+1),(N, ε a7 (nl+2) c7,nl+2),(N, ε a8 (nl+3) c8,nl+3)]) rfl rfl (fun j u hj=>(af.new _ _ _).cell hj) (by intro u hu;simp[jf]at hu;rcases hu with rfl|rfl|rfl|rfl|rfl|rfl|rfl|rfl|rfl|rfl|rfl|rfl<;>rfl) (by omega) (by decide) (by simp;omega) ?_;intro v9 w9 o9 g9 k9;obtain⟨Zr,Zs,Zt,rfl⟩:=wu o9;have kB:af w9 p [ε none 0 0, V Z N, ε ak nk ck] 63:=(by have hA:=hS.alloc (.cells (jf [(N, ε al nl cl,nl),(N, ε a6 (nl+1) c6,nl+1),(N, ε a7 (nl+2) c7,nl+2),(N, ε a8 (nl+3) c8,nl+3)]).toArray 100);unfold af;rw[g9.block p hA.row.lt (fun q=>wo hA.kept hA.row (by decide) q.symm)];exact hA.row);have c29:=kB.cell (k:=2) rfl;have f29:=kB.free (k:=2));have hA:=hS.alloc (.cells (jf [(N, ε al nl cl,nl),(N, ε a6 (nl+1) c6,nl+1),(N, ε a7 (nl+2) c7,nl+2),(N, ε a8 (nl+3) c8,nl+3)]).toArray 100);have hx:aK (fun q=>q=p) w9 (w9.setCell ⟨p,2,none⟩ (ε Zr Zs Zt)):=(aK.refl (fun q=>q=p) w9).setCell (p:=⟨p,2,none⟩) (.inl rfl) _;have bT:∀v j M,mv (w8.alloc (.cells (jf [(N, ε al nl cl,nl),(N, ε a6 (nl+1) c6,nl+1),(N, ε a7 (nl+2) c7,nl+2),(N, ε a8 (nl+3) c8,nl+3)]).toArray 100)) v j M→mv (w9.setCell ⟨p,2,none⟩ (ε Zr Zs Zt)) v j M:=fun v j M h=>by
   have h9:mv w9 v j M:=h.on fun g q ay=>g9.block g ay fun r=>MI h hA.kept (by decide) g q r.symm;exact h9.on fun g q ay=>hx.block g ay (fun e=>MH h9 kB (by decide) (e▸q))
  have iI:Below p w w9:=hA.below.grown g9 (ι hA.row.lt) (fun g q=>(hA.kept.lt g q).1);have hP:SpP w p (N0+1) items (w9.setCell ⟨p,2,none⟩ (ε Zr Zs Zt)):=by
   rw[←HN.out];refine⟨iI.trans (hx.below (ι kB.lt) (fun q hq=>by omega)),(ε Zr Zs Zt),items++[(N, ε al nl cl,nl),(N, ε a6 (nl+1) c6,nl+1),(N, ε a7 (nl+2) c7,nl+2),(N, ε a8 (nl+3) c8,nl+3)],kB.set (k:=2) _,?_,by simp,?_⟩
   ·rw[Un,φ];exact eN o9 fun g q ay=>hx.block g ay (fun e=>wo o9 kB (by decide) (e▸q))
   ·intro it h;rcases List.mem_append.1 h with h|h
    ·exact⟨bT _ _ _ (hA.rf it h).1,hit it h⟩
    ·simp only[List.mem_cons,List.not_mem_nil,or_false]at h;rcases h with rfl|rfl|rfl|rfl
     ·exact⟨bT _ _ _ (mv.of hA.own),by show 0≤N;omega,by show N≤100000000;omega,by show nl≤4000;omega⟩
     ·exact⟨bT _ _ _ (hA.ex (ε a6 (nl+1) c6,nl+1) (by simp)),by show 0≤N;omega,by show N≤100000000;omega,by show nl+1≤4000;omega⟩
     ·exact⟨bT _ _ _ (hA.ex (ε a7 (nl+2) c7,nl+2) (by simp)),by show 0≤N;omega,by show N≤100000000;omega,by show nl+2≤4000;omega⟩
     ·exact⟨bT _ _ _ (hA.ex (ε a8 (nl+3) c8,nl+3) (by simp)),by show 0≤N;omega,by show N≤100000000;omega,by show nl+3≤4000;omega⟩
  exact bodyPost_end (results_none rfl _ _ _) rfl ⟨rfl,hP⟩
 clear aP;rcases HO.out.2 with⟨q1,q2⟩|⟨g,cap,cur,q1,q3,q4,q5,q6,q7,q8⟩
 ·cases q1;subst q2;have Jr:SS w p Bl N kv (ε none 0 0) 0 items [] X:=⟨H0.out.below,H0.out.row,World.ownsRow_nil _ _ _ _,H0.out.kept,H0.out.rf,by simp⟩;go_wp2_with fail;go_loopw [5] (fun t wr=>t= V Z 0∧wr=X) (fun _ _=>0)
  case atStart=>exact⟨rfl,rfl⟩
  case round=>
   obtain⟨rfl,rfl⟩:=hrel;go_wp2_with fail;exact r6 _ rh Jr _ rfl rfl rfl rfl rfl
 ·cases q1;have zE:af X g cur.toList 39:=q4;have dP:cur.toList.length=cl * 2:=by rw[Array.length_toList];exact q7
  clear q4 q7 q8 HO;go_wp2_with fail;go_loopw [5] (fun t wr=>∃(i:Nat) (cs:List Value),i≤k∧t= V Z i∧Bl≤wr.heap.size∧S0 w p Bl N kv items wr∧af wr g cs 39∧cs.length=cl * 2∧cs.take (i * 2)=mu N i) (fun t _=>k - (intOf t).toNat)
  case atStart=>exact⟨0,cur.toList,Nat.zero_le _,rfl,rh,H0.out,zE,dP,by simp[mu]⟩
  case round=>
   clear zE dP H0 rh;obtain⟨i,cs,XF,rfl,rh,h0,zE,dP,xF⟩:=hrel;by_cases ay:i<k
   case neg=>
    have e:i=k:=by omega
    subst e;have Jr:SS w p Bl N kv (ε (some ⟨g,0,none⟩) i cl) i items [] wr:=⟨h0.below,h0.row,⟨by simp[mu], .inr ⟨g,cl,cs.toArray,rfl,q3,zE,q5,q6,by rw[ω];exact dP,xF⟩⟩,h0.kept,h0.rf,by simp⟩;go_wp2_with fail;exact r6 _ rh Jr _ rfl rfl rfl rfl rfl
   case pos=>
    have H1:=ad h0;go_wp2_with (first
     |(go_at_call 61;refine(CS.out _).mono ?_;rintro e wS ⟨rfl,zD⟩;have hrS:=zE.on zD;have hzS:=zD.size)
     |(refine xi (b:=g) (k:=i * 2) (vs:=[V Z (-N), V Z (-N)]) rfl rfl (by first|rfl|simp) rfl hrS (by simp;omega) wm (by simp[Β]) ?_;intro wT hrT hxT))
    exact⟨⟨i+1,_,by omega,by go_num,by have:=hxT.size;omega,(H1.out.on zD).aQ Pw q3 hrS hxT,hrT,by rw[KZ];exact dP,aaI (by omega) xF⟩,by simp[intOf];omega⟩
end Go.Proofs.YthpndgcaoeokeaaGreatDoor
