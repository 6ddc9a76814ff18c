import Derived.Test.YthpndgcaoeokeaaGreatDoorCv13
set_option maxRecDepth 100000
set_option maxHeartbeats 16000000
open Go.IntKind renaming i64->Z
open Go.Value renaming int->V,slice->ε,string->ζ
open Go.Ending renaming returned->δ
open ByteArray renaming data_append->η,size_append->ι,ext->κ
open Int renaming eq_ofNat_of_zero_le->θ,le_refl->φ
open Go renaming Calls->μ,World->π
open Array renaming ext'->ν
open Go.ByteArray renaming toList_eq->ξ
open Go.RowKit renaming Hid->ο
open List renaming range->ρ,getD_eq_getElem?_getD->τ,getElem?_eq_getElem->υ,getElem?_map->χ
namespace Go.Proofs.YthpndgcaoeokeaaGreatDoor
open Tryz
open Go.RowKit Go.Sort
def zD (k f t:Int):ByteArray:=
 if k=1 then(⟨#[70,82,69,69,66,85,83,89,59,70,66,84,89,80,69,61,66,85,83,89,58]⟩:ByteArray)++dE f++⟨#[47]⟩++dE t++⟨#[13,10]⟩
 else if k=2 then(⟨#[70,82,69,69,66,85,83,89,59,70,66,84,89,80,69,61,66,85,83,89,45,84,69,78,84,65,84,73,86,69,58]⟩:ByteArray)++dE f++⟨#[47]⟩++dE t++⟨#[13,10]⟩
 else⟨#[]⟩
def WT (f t:Int)(R:List (Int×Int×Int)):ByteArray:=⟨(dL ((sG f t R).map ByteArray.toList)).toArray⟩
theorem age (f t:Int):(⟨#[66,69,71,73,78,58,86,70,82,69,69,66,85,83,89,13,10,68,84,83,84,65,82,84,58]⟩:ByteArray)++dE f++⟨#[13,10]⟩++⟨#[68,84,69,78,68,58]⟩++dE t++⟨#[13,10]⟩=WT f t []:=by
 apply κ;apply ν;unfold WT sG I8 AA AB;simp[dL,ξ,η]
theorem Qo (f t:Int)(R:List (Int×Int×Int))(x:Int×Int×Int):WT f t (R++[x])=WT f t R++(kF x++⟨#[13,10]⟩):=by
 apply κ;apply ν;unfold WT;rw[LW];simp[dL,ξ,η]
theorem agf (f t:Int)(R:List (Int×Int×Int)):WT f t R++⟨#[69,78,68,58,86,70,82,69,69,66,85,83,89]⟩++⟨#[13,10]⟩=pU f t R:=by
 apply κ;apply ν;unfold WT pU zz;simp[dL,ξ,η]
theorem adq (f t:Int):zD 1 f t=kF (f,t,2)++⟨#[13,10]⟩:=by
 apply κ;apply ν;unfold zD kF sB LH;simp[η]
theorem adr (f t:Int):zD 2 f t=kF (f,t,1)++⟨#[13,10]⟩:=by
 apply κ;apply ν;unfold zD kF sB LH;simp[η]
def vU (k f t:Int):List (Int×Int×Int):=if k=0 then[]else[(f,t,Jy k)]
theorem agh {k:Int}(I:k=0\/k=1\/k=2)(f t p q:Int)(R:List (Int×Int×Int)):WT f t R++zD k p q=WT f t (R++vU k p q):=by
 rcases I with rfl|rfl|rfl
 ·unfold vU zD;simp;apply κ;apply ν;simp[η]
 ·rw[adq,show vU 1 p q=[(p,q,2)]from rfl,Qo]
 rw[adr,show vU 2 p q=[(p,q,1)]from rfl,Qo]
theorem ads (k f t:Int):(zD k f t).size<=100:=by
 have G:=iq f;have A:=iq t;unfold zD;split
 ·simp only[ι];have e1:(⟨#[70,82,69,69,66,85,83,89,59,70,66,84,89,80,69,61,66,85,83,89,58]⟩:ByteArray).size=21:=rfl;have e2:(⟨#[47]⟩:ByteArray).size=1:=rfl;have e3:(⟨#[13,10]⟩:ByteArray).size=2:=rfl;omega
 split
 ·simp only[ι];have e1:(⟨#[70,82,69,69,66,85,83,89,59,70,66,84,89,80,69,61,66,85,83,89,45,84,69,78,84,65,84,73,86,69,58]⟩:ByteArray).size=31:=rfl;have e2:(⟨#[47]⟩:ByteArray).size=1:=rfl;have e3:(⟨#[13,10]⟩:ByteArray).size=2:=rfl;omega
 show(0:Nat)<=100;omega
def A0 (atH:Int->Int)(t f p:Int)(R:List (Int×Int×Int)):Prop:=∀L,mS atH t p L->mS atH t f (R++L)
theorem A0.run {atH:Int->Int}{t f p q k:Int}{R:List (Int×Int×Int)}(h:A0 atH t f p R)(I:k=0\/k=1\/k=2)(Qp:p<q)(hqt:q<=t)(hc:∀s,p<=s->s<q->atH s=Jy k)(he:q=t\/atH q≠Jy k):A0 atH t f q (R++vU k p q):=by
 intro L hL;rw[List.append_assoc];apply h;rcases I with rfl|rfl|rfl
 ·exact hL.skip (by omega) λs G A=>hc s G A
 ·exact⟨φ _,Qp,hqt,by decide,λs G A=>by omega,hc,he,hL⟩
 exact⟨φ _,Qp,hqt,by decide,λs G A=>by omega,hc,he,hL⟩
theorem A0.done {atH:Int->Int}{t f:Int}{R:List (Int×Int×Int)}(h:A0 atH t f t R):mS atH t f R:=by
 have:=h [] (λs G A=>by omega);rwa [List.append_nil]at this
theorem adt {a b:Int}(ha:a=0\/a=1\/a=2)(U:b=0\/b=1\/b=2)(h:Jy a=Jy b):a=b:=by
 rcases ha with rfl|rfl|rfl<;>rcases U with rfl|rfl|rfl<;>first|rfl|(exact absurd h (by decide))
theorem agi (k:Int)(p q:Nat)(w:π)(ht:jg w)(J:p<=400)(hq:q<=400):
 μ prog 30 #[V Z k,V Z p,V Z q] w λe Y=>e=δ (ζ (zD k (1893456000+900*(p:Int)) (1893456000+900*(q:Int))))/\Below w.heap.size w Y:=by
 obtain⟨x1,e1⟩:=pE (1893456000+900*(p:Int));obtain⟨x2,e2⟩:=pE (1893456000+900*(q:Int));have C1:ο (μ prog 18 #[V Z (1893456000+900*(p:Int))] w λE Y=>E=δ (.tuple #[ζ (dE (1893456000+900*(p:Int))),V Z x1])/\Below w.heap.size w Y):=H (by
  have:=jQ (1893456000+900*(p:Int)) w ht;rw[e1]at this;exact this)
 have C2:ο (∀W,Below w.heap.size w W->μ prog 18 #[V Z (1893456000+900*(q:Int))] W λE Y=>E=δ (.tuple #[ζ (dE (1893456000+900*(q:Int))),V Z x2])/\Below W.heap.size W Y):=H λW U=>by
  have:=jQ (1893456000+900*(q:Int)) W (ht.on U);rw[e2]at this;exact this
 have l1:=iq (1893456000+900*(p:Int));have l2:=iq (1893456000+900*(q:Int));unfold zD;clear e1 e2 ht;generalize dE (1893456000+900*(p:Int))=atB at *
 generalize dE (1893456000+900*(q:Int))=B at *
 by_cases k1:k=1
 ·subst k1;rw[if_pos rfl];go_enter func30,ntmps30;go_wp2_with (first
   |(go_at_call 18;refine(C1.out).mono ?_;rintro e w1 ⟨rfl,au⟩;have C3:=H (C2.out _ au))
   |(go_at_call 18;refine(C3.out).mono ?_;rintro e w2 ⟨rfl,aO⟩))
  go_ret;exact⟨rfl,au.trans (aO.mono au.size)⟩
 rw[if_neg k1];by_cases k2:k=2
 ·subst k2;rw[if_pos rfl];go_enter func30,ntmps30;go_wp2_with (first
   |(go_at_call 18;refine(C1.out).mono ?_;rintro e w1 ⟨rfl,au⟩;have C3:=H (C2.out _ au))
   |(go_at_call 18;refine(C3.out).mono ?_;rintro e w2 ⟨rfl,aO⟩))
  go_ret;exact⟨rfl,au.trans (aO.mono au.size)⟩
 rw[if_neg k2];go_enter func30,ntmps30;go_wp2_with (first
  |(go_at_call 18;refine(C1.out).mono ?_;rintro e w1 ⟨rfl,au⟩;have C3:=H (C2.out _ au))
  |(go_at_call 18;refine(C3.out).mono ?_;rintro e w2 ⟨rfl,aO⟩))
 go_ret;exact⟨rfl,au.trans (aO.mono au.size)⟩
def pj:List UInt8:=[70,82,69,81,61,68,65,73,76,89,59,67,79,85,78,84,61,50]
theorem adu:wK (fJ [120] 951868800 60 pj) 951868800 951868801=.ok [(951868800,951868860)]:=by
 kernel_rfl
theorem Y2:xc ⟨#[50,48,48,48,48,51,48,49,84,48,48,48,48,48,48,90]⟩=.tuple #[V Z 951868800,V Z 0]:=by kernel_rfl
theorem Y3:kG 951868800=.tuple #[ζ ⟨#[50,48,48,48,48,51,48,49,84,48,48,48,48,48,48,90]⟩,V Z 0]:=by kernel_rfl
theorem Sr {w:π}{B s:Nat}{e:TypeId}{v:Value}{n:Nat}{xs:List Value}(h:w.ownsRow B e s v n xs):
 (v=ε none 0 0/\n=0)\/∃g cap,v=ε (some ⟨g,0,none⟩) n cap/\B<=g/\g<w.heap.size/\∀j y,xs[j]?=some y->w.cell? ⟨g,j,none⟩=some y:=by
 obtain⟨N,h|⟨g,cap,cur,hv,U,hh,ID,Cl,bp,ht⟩⟩:=h
 ·exact .inl h
 refine .inr ⟨g,cap,hv,U,?_,λj y hj=>?_⟩
 ·exact(Array.getElem?_eq_some_iff.1 hh).1
 rw[<-ht]at hj;have A:=List.getElem?_eq_some_iff.1 hj;obtain⟨aQ,he⟩:=A;rw[List.length_take]at aQ;rw[List.getElem_take]at he;unfold World.cell?;rw[hh];simp only[Option.isSome_none,Bool.false_eq_true,if_false];rw[Array.getElem?_eq_getElem (by have:=Nat.lt_of_lt_of_le aQ (Nat.min_le_right _ _);rw[Array.length_toList]at this;simpa using this)];rw[<-he];rfl
theorem adv (w:π)(hm:ML w)(ht:jg w):
 μ prog 16 #[] w λe Y=>e=δ (.bool true)/\Below w.heap.size w Y:=by
 have C1:=H (zY ⟨#[50,48,48,48,48,51,48,49,84,48,48,48,48,48,48,90]⟩ w);rw[Y2]at C1;have C2:ο (∀W,Below w.heap.size w W->μ prog 18 #[V Z 951868800] W λE Y=>E=δ (kG 951868800)/\Below W.heap.size W Y):=H λW U=>jQ _ W (ht.on U);rw[Y3]at C2;have C3:ο (∀W,Below w.heap.size w W->μ prog 25 #[ζ ⟨#[120]⟩,V Z 951868800,V Z 60,ζ ⟨pj.toArray⟩] W λE Y=>E=δ (ζ ⟨(fJ [120] 951868800 60 pj).toArray⟩)/\Below W.heap.size W Y):=H λW U=>Hj [120] 951868800 60 pj W (ht.on U) (by decide) (by decide) (by omega) (by omega) (by omega) (by omega);have C4:ο (∀W,Below w.heap.size w W->μ prog 23 #[ζ ⟨(fJ [120] 951868800 60 pj).toArray⟩,V Z 951868800,V Z 951868801] W λE Y=>(∃v,E=δ (.tuple #[v,V Z 0])/\Y.ownsRow W.heap.size 39 2 v 1 [V Z 951868800,V Z 951868860])/\Below W.heap.size W Y):=H λW U=>
  (Vq (fJ [120] 951868800 60 pj) 951868800 951868801 W (hm.on U) (ht.on U) (of_decide_eq_true (by kernel_rfl))).mono λE Y h=>by
   unfold BV at h;rw[adu]at h;exact h
 generalize fJ [120] 951868800 60 pj=T at *
 unfold pj at C3;clear hm ht;go_enter func16,ntmps16;go_wp2_with fail;refine(C1.out).mono ?_;rintro e w1 ⟨rfl,au⟩;go_wp2_with fail;refine(C2.out _ au).mono ?_;rintro e w2 ⟨rfl,aO⟩;replace aO:=au.trans (aO.mono au.size);go_wp2_with fail;refine(C3.out _ aO).mono ?_;rintro e w3 ⟨rfl,aR⟩;replace aR:=aO.trans (aR.mono aO.size);go_wp2_with fail;refine(C4.out _ aR).mono ?_;rintro e w4 ⟨⟨v,rfl,aU⟩,cu⟩;replace cu:=aR.trans (cu.mono aR.size);rcases Sr aU with⟨_,h⟩|⟨g,cap,rfl,hg0,hg1,iU⟩
 case inl=>cases h
 have c0:=iU 0 _ rfl;have c1:=iU 1 _ rfl;clear iU C1 C2 C3 C4 aU;go_wp2_with fail;go_ret;exact⟨rfl,cu⟩
theorem xC (m:Nat):(jI m).length=m:=by unfold jI;rw[List.length_map,List.length_range]
theorem Vr {m i:Nat}(h:i<m):nN (jI m) i=cN i:=by
 unfold nN jI;rw[τ,χ,List.getElem?_range h];rfl
theorem Y4 {m i:Nat}(h:i<=m):(jI m).take i=jI i:=by
 unfold jI;rw[<-List.map_take,List.take_range,Nat.min_eq_left h]
theorem Y5 {m:Nat}(m1:1<=m)(m8:m<=8):jC (jI m) (jI m)=none:=by
 unfold jC;rw[xC,if_neg (by omega),if_neg,if_neg]
 ·rw[pV λi S=>?_]
  ·simp
  rw[Vr S,tT (by omega) (by omega)];simp[S]
 rw[pV λi S=>?_]
 ·simp
 rw[Vr S,Y4 (by omega),tT (by omega) (by omega)];simp
theorem MD {m j:Nat}(m8:m<=8)(hj:j<12):jC [cN j] (jI m)=if j<m then none else some 6:=by
 unfold jC;have G:((ρ [cN j].length).any λi=>Lib.containsS ([cN j].take i) (nN [cN j] i))=false:=pV λi S=>by
  have:i=0:=by simpa using S
  subst this;rfl
 have A:((ρ [cN j].length).any λi=>!Lib.containsS (jI m) (nN [cN j] i))=!decide (j<m):=by
  show((ρ 1).any λi=>!Lib.containsS (jI m) (nN [cN j] i))=_;rw[show ρ 1=[0]from rfl,List.any_cons,List.any_nil,Bool.or_false];show(!Lib.containsS (jI m) (cN j))=_;rw[tT (by omega) hj]
 rw[G,A,if_neg (by simp),if_neg (by simp)];by_cases h:j<m<;>simp[h]
theorem ME {c u:ByteArray}{st ln k:Int}(ho:aK.ok ⟨c,u,st,ln,false,ic,[],[],false,k⟩){f to:Int}(t1:to<=7258118400):(aK.aw ⟨c,u,st,ln,false,ic,[],[],false,k⟩ f to).length<=1:=by
 have G:(aK.tm ⟨c,u,st,ln,false,ic,[],[],false,k⟩ f to).length<=1:=by
  have:=G9 _ st (st+1) (aK.pW ho (f:=f) t1) λx X=>by
   have:=(DW ho t1).1 X;omega
  omega
 unfold aK.aw qM;split
 ·simp
 rw[yp];exact G
theorem aiQ {n m:Nat}{l:List (Int×Int×Int)}(hm:m<=12){t:Int}(t1:t<=7258118400):iy (dT n l m).ds t<=500:=by
 unfold iy;have G:=AW (λd:aK=>d.aw 0 t) 1 (dT n l m).ds λd hd=>by
  unfold dT at hd;simp only[List.mem_append,List.mem_singleton]at hd;rcases hd with hd|rfl
  ·obtain⟨j,_,rfl⟩:=List.mem_map.1 hd;exact ME (Hh n j _) t1
  exact ME Jt t1
 have A:(dT n l m).ds.length=m+1:=by unfold dT FH;simp
 rw[A]at G;omega
theorem am0 {n m:Nat}{l:List (Int×Int×Int)}(hm:m<=12){t:Int}(t0:0<=t)(t1:t<7258118400):oM t (dT n l m)=(0,⟨(dT n l m).ns,(dT n l m).ds,t⟩):=by
 have G:cq t=true:=by unfold cq;simp;omega
 have A:lA (dT n l m).ds (dT n l m).h t=true:=by
  unfold lA;have:=aiQ (n:=n) (l:=l) hm (t:=t) (by omega);simp[this]
 unfold oM qT;rw[G,A];rfl
theorem Ss {w:π}{B g:Nat}{atD:ByteArray}(h:M w g [ζ atD] 9)(hB:B<=g):w.ownsRow B 9 1 (ε (some ⟨g,0,none⟩) 1 1) 1 (dS [atD]):=
 ⟨rfl,.inr ⟨g,1,#[ζ atD],rfl,hB,h,Nat.le_refl _,by decide,rfl,rfl⟩⟩
theorem Y6 {w:π}{B:Nat}:w.ownsRow B 9 1 (ε none 0 0) 0 (dS []):=⟨rfl,.inl ⟨rfl,rfl⟩⟩
theorem A2 {w:π}{B:Nat}{v:Value}{xs:List ByteArray}(h:w.ownsRow B 9 1 v xs.length (dS xs)):fQ w v xs:=by
 refine⟨?_,λb U=>(h.lt b U).2⟩;rcases ym h with⟨e,e0⟩|⟨g,cap,e,_,_,hc⟩
 ·exact .inl ⟨none,0,e,List.eq_nil_of_length_eq_zero e0⟩
 refine .inr ⟨g,0,cap,e,PI h e,λj hj=>?_⟩;rw[Nat.zero_add];refine hc j _ ?_;unfold dS;rw[χ,υ hj,τ,υ hj];rfl
theorem yI (a:Act)(h:a.tmps.size=198)(hd:a.defers=[]):∃f:Nat->Value,a=⟨List.toArray (f 0::f 1::f 2::f 3::f 4::f 5::f 6::f 7::f 8::f 9::f 10::f 11::f 12::f 13::f 14::f 15::f 16::f 17::f 18::f 19::f 20::f 21::f 22::f 23::f 24::f 25::f 26::f 27::f 28::f 29::f 30::f 31::f 32::f 33::f 34::f 35::f 36::f 37::f 38::f 39::f 40::f 41::f 42::f 43::f 44::f 45::f 46::f 47::f 48::f 49::f 50::f 51::f 52::f 53::f 54::f 55::f 56::f 57::f 58::f 59::f 60::f 61::f 62::f 63::f 64::f 65::f 66::f 67::f 68::f 69::f 70::f 71::f 72::f 73::f 74::f 75::f 76::f 77::f 78::f 79::f 80::f 81::f 82::f 83::f 84::f 85::f 86::f 87::f 88::f 89::f 90::f 91::f 92::f 93::f 94::f 95::f 96::f 97::f 98::f 99::f 100::f 101::f 102::f 103::f 104::f 105::f 106::f 107::f 108::f 109::f 110::f 111::f 112::f 113::f 114::f 115::f 116::f 117::f 118::f 119::f 120::f 121::f 122::f 123::f 124::f 125::f 126::f 127::f 128::f 129::f 130::f 131::f 132::f 133::f 134::f 135::f 136::f 137::f 138::f 139::f 140::f 141::f 142::f 143::f 144::f 145::f 146::f 147::f 148::f 149::f 150::f 151::f 152::f 153::f 154::f 155::f 156::f 157::f 158::f 159::f 160::f 161::f 162::f 163::f 164::f 165::f 166::f 167::f 168::f 169::f 170::f 171::f 172::f 173::f 174::f 175::f 176::f 177::f 178::f 179::f 180::f 181::f 182::f 183::f 184::f 185::f 186::f 187::f 188::f 189::f 190::f 191::f 192::f 193::f 194::f 195::f 196::f 197::[]),[]⟩/\∀k,a.eval (.tmp k)=f k:=gO 198 a h hd
theorem OL {KA:Int->Int}{kf:Nat->Int}{a b p q:Nat}{R:List (Int×Int×Int)}{F:Int}(Qq:∀(q:Nat) (s:Int),a<=q->q<b->1893456000+900*(q:Int)<=s->s<1893456000+900*(q:Int)+900->KA s=Jy (kf q))(A3:∀q,kf q=0\/kf q=1\/kf q=2)
 (hap:a<=p)(Qp:p<q)(hqb:q<=b)(hc:∀j,p<=j->j<q->kf j=kf p)(he:q=b\/kf q≠kf p)(h:A0 KA (1893456000+900*(b:Int)) F (1893456000+900*(p:Int)) R):
 A0 KA (1893456000+900*(b:Int)) F (1893456000+900*(q:Int)) (R++vU (kf p) (1893456000+900*(p:Int)) (1893456000+900*(q:Int))):=by
 refine h.run (A3 p) (by omega) (by omega) (λs G A=>?_) ?_
 ·obtain⟨j,hj⟩:=θ (show 0<=(s-1893456000)/900 by omega);rw[Qq j s (by omega) (by omega) (by omega) (by omega),hc j (by omega) (by omega)]
 rcases he with rfl|he
 ·exact .inl rfl
 by_cases hq:q=b
 ·subst hq;exact .inl rfl
 refine .inr λe=>he ?_;rw[Qq q _ (by omega) (by omega) (φ _) (by omega)]at e;exact adt (A3 q) (A3 p) e
structure FCv (sa:Option Addr)(len cap n s a b:Nat)(x2:Value)(x19 x20:Value)(c:Act):Prop where
 size:c.tmps.size=198
 defers:c.defers=[]
 s0:c.eval (.tmp 0)=ε sa len cap
 s2:c.eval (.tmp 2)=x2
 LF:c.eval (.tmp 14)=V Z n
 Pt:c.eval (.tmp 15)=.pointer (some ⟨s,0,none⟩)
 Pu:c.eval (.tmp 16)=V Z a
 Pv:c.eval (.tmp 17)=V Z b
 T9:c.eval (.tmp 19)=x19
 Ua:c.eval (.tmp 20)=x20
theorem Vs (sa:Option Addr)(cap:Nat)(l:List (Int×Int×Int))(dh wh fr to hz:Int)(w:π)(N:Mz w sa l)(hm:ML w)(ht:jg w)(g1:-9223372036854775808<=dh/\dh<=9223372036854775807)(g2:-9223372036854775808<=wh/\wh<=9223372036854775807)(g3:-9223372036854775808<=fr/\fr<=9223372036854775807)(g4:-9223372036854775808<=to/\to<=9223372036854775807)(g5:-9223372036854775808<=hz/\hz<=9223372036854775807):
 μ prog 14 #[ε sa l.length cap,V Z dh,V Z wh,V Z fr,V Z to,V Z hz] w λe Y=>e=δ (.bool true)/\Below w.heap.size w Y:=by
 have hlen:=N.1;obtain⟨atE,hN⟩:∃atE,atE=min l.length 12:=⟨_,rfl⟩;have agl:atE<=12:=by omega
 have hNl:atE<=l.length:=by omega
 have hN4:ο (∀k:Nat,k<=4->(k<l.length↔k<atE)):=H λk I=>by omega
 obtain⟨n,hn⟩:=θ (show 0<=1+bN dh 4 by have:=fa dh 4 (by omega);omega);have ji:=fa dh 4 (by omega);have n1:1<=n:=by omega
 have n4:n<=4:=by omega
 obtain⟨a,ha⟩:=θ (fa fr 250 (by omega)).1;have TI:=(fa fr 250 (by omega)).2;have aqU:a<250:=by omega
 obtain⟨b',fk⟩:=θ (fa to (290-a) (by omega)).1;have vQ:=(fa to (290-a) (by omega)).2;obtain⟨b,U⟩:∃b:Nat,b=a+1+b':=⟨_,rfl⟩;have aiR:b<=290:=by omega
 have arf:a<b:=by omega
 obtain⟨v,hv⟩:∃v:Int,v=bN wh (n+1)-1:=⟨_,rfl⟩;have zr:=fa wh (n+1) (by omega);have v0:-1<=v:=by omega
 have v4:v<n:=by omega
 have hH3:=fa hz 3 (by omega);have hH4:=fa hz 400 (by omega);have CW:=H (adv w hm ht);have P1:=H λW=>lU dh 4 W g1.1 g1.2 (by omega) (by omega);have P3:ο (∀W,μ prog 17 #[V Z fr,V Z 250] W λe Y=>e=δ (V Z a)/\W=Y):=H λW=>by
  have:=lU fr 250 W g3.1 g3.2 (by omega) (by omega);rwa [ha]at this
 have P4:ο (∀W,μ prog 17 #[V Z to,V Z (290-a)] W λe Y=>e=δ (V Z b')/\W=Y):=H λW=>by
  have:=lU to (290-a) W g4.1 g4.2 (by omega) (by omega);rwa [fk]at this
 have P5:=H λW=>lU hz 3 W g5.1 g5.2 (by omega) (by omega);have P6:=H λW=>lU hz 400 W g5.1 g5.2 (by omega) (by omega);have P2:=H λW=>lU wh (n+1) W g2.1 g2.2 (by omega) (by omega);have CH:=H λ(W:π) (bV:Below w.heap.size w W)=>ado sa cap l n W (N.keep bV) n1 n4 (hm.on bV) (ht.on bV);rw[<-hN]at CH;have HL:=H N;have HM:=H hm;have HT:=H ht;have TH:1+bN dh 4=n:=hn;have hvd:=H hv;have hNd:=H hN;have mW:=H U;clear N hm ht g1 g2 g3 g4 g5 hn ha fk hv hN U;generalize bN dh 4=c4 at *
 generalize bN hz 3=K at *
 generalize bN hz 400=h4 at *
 go_enter func14,ntmps14;go_upto_region 3 with(first
  |(go_at_call 16;refine(CW.out).mono ?_;rintro e w1 ⟨rfl,au⟩)
  |(go_at_call 17;refine(P1.out _).mono ?_;rintro e Y ⟨rfl,rfl⟩))
 have CH1:=H (CH.out _ au);clear CW P1 CH;go_upto_region 6 with(go_at_call 26;refine(CH1.out).mono ?_;rintro e w2 ⟨s,atG,E,rfl,x2,hM2,aO⟩);have uV:Below w.heap.size w w2:=au.trans (aO.mono au.size);have tu:∀k,atG k->w.heap.size<=k:=λk I=>Nat.le_trans au.size (hM2 k I);have hbI:(a:Int)+1+(b':Int)=(b:Int):=by have:=mW.out;omega
 replace x2:=H x2;clear hM2 aO au CH1;go_upto_region 8 with(first
  |(go_at_call_of 17 (Value.int IntKind.i64 fr);refine(P3.out _).mono ?_;rintro e Y ⟨rfl,rfl⟩)
  |(go_at_call_of 17 (Value.int IntKind.i64 to);refine(P4.out _).mono ?_;rintro e Y ⟨rfl,rfl⟩))
 clear P3 P4;rename_i K12 Y7 K9 Ub;have JA:∀(c:Act) (wr:π) (h':Int),FCv sa l.length cap n s a b (V Z wh) (c.eval (.tmp 19)) (c.eval (.tmp 20)) c->Below w.heap.size w wr->ο (∃atG E:aj,cX wr s atG E (dT n l atE).ns (dT n l atE).ds h'/\∀k,atG k->w.heap.size<=k)->K12 c wr:=by
  intro c wr h' hc cP uO;refine Y7 c wr ?_;clear Y7 K12 Ub K9 x2 uV tu;obtain⟨fr,rfl,hf⟩:=yI c hc.size hc.defers;have e0:=(hf 0).symm.trans hc.s0;have e2:=(hf 2).symm.trans hc.s2;have xD:=(hf 14).symm.trans hc.LF;have uk:=(hf 15).symm.trans hc.Pt;have uT:=(hf 16).symm.trans hc.Pu;have qA:=(hf 17).symm.trans hc.Pv;clear hf hc;rw[e0,e2,xD,uk,uT,qA];clear e0 e2 xD uk uT qA;have hvv:bN wh (n+1)-1=v:=hvd.out.symm;go_upto_region 14 with(go_at_call 17;refine(P2.out _).mono ?_;rintro e Y ⟨rfl,rfl⟩);rename_i K19 Y8 K15 am1;obtain⟨L,hL⟩:∃L,L=max 1 (min n atE):=⟨_,rfl⟩;have hL8:1<=L/\L<=4/\L<=n:=by omega
  have Vt:∀(c:Act) (wB:π) (x2 Qr:Value),FCv sa l.length cap n s a b x2 (V Z v) Qr c->Below w.heap.size w wB->ο (∃atG E:aj,cX wB s atG E (dT n l atE).ns (dT n l atE).ds h'/\(∀k,atG k->w.heap.size<=k)/\∀k,Qr.ownBlock=some k->¬atG k)->(v<0->Qr=ε none 0 0)->ο (0<=v->fQ wB Qr [cN v.toNat])->(0<=v->v.toNat<L)->K19 c wB:=by
   intro c wB x2 Qr hc pX hsB agn Su hvL;refine Y8 c wB ?_;clear Y8 K19 am1 K15 uO cP;obtain⟨fr,rfl,hf⟩:=yI c hc.size hc.defers;have e0:=(hf 0).symm.trans hc.s0;have xD:=(hf 14).symm.trans hc.LF;have uk:=(hf 15).symm.trans hc.Pt;have uT:=(hf 16).symm.trans hc.Pu;have qA:=(hf 17).symm.trans hc.Pv;have MF:=(hf 19).symm.trans hc.T9;have Cv:=(hf 20).symm.trans hc.Ua;clear hf hc;rw[e0,xD,uk,uT,qA,MF,Cv];clear e0 xD uk uT qA MF Cv;go_wp2_with fail;rename_i K23 Y9;obtain⟨xs,A4⟩:∃xs,xs=s9 n atE v:=⟨_,rfl⟩;have aqV:xs.length<=4:=by
    rw[A4];unfold s9;split
    ·rw[xC];omega
    simp
   have Sv:jC xs (dT n l atE).ns=none:=by
    rw[A4];show jC (s9 n atE v) (jI (max 1 (min n atE)))=none;unfold s9;by_cases hv:v<0
    ·rw[if_pos hv];exact Y5 (by omega) (by omega)
    rw[if_neg hv,MD (by omega) (by omega),if_pos (by have:=hvL (by omega);omega)]
   have Vu:∀(c:Act) (wr:π) (x2 Qs:Value),FCv sa l.length cap n s a b x2 (V Z v) Qs c->Below w.heap.size w wr->ο (∃atG E:aj,cX wr s atG E (dT n l atE).ns (dT n l atE).ds h'/\(∀k,atG k->w.heap.size<=k)/\∀k,Qs.ownBlock=some k->¬atG k)->ο (fQ wr Qs xs)->K23 c wr:=by
    intro c wr x2 Qs hc cP A6 hnr;refine Y9 c wr ?_;clear Y9 K23 hsB Su agn pX hvL;obtain⟨fr,rfl,hf⟩:=yI c hc.size hc.defers;have e0:=(hf 0).symm.trans hc.s0;have xD:=(hf 14).symm.trans hc.LF;have uk:=(hf 15).symm.trans hc.Pt;have uT:=(hf 16).symm.trans hc.Pu;have qA:=(hf 17).symm.trans hc.Pv;have MF:=(hf 19).symm.trans hc.T9;have Cv:=(hf 20).symm.trans hc.Ua;clear hf hc;rw[e0,xD,uk,uT,qA,MF,Cv];clear e0 xD uk uT qA MF Cv;obtain⟨F,hF⟩:∃F:Int,F=1893456000+900*(a:Int):=⟨_,rfl⟩;obtain⟨T,hT⟩:∃T:Int,T=1893456000+900*(b:Int):=⟨_,rfl⟩;obtain⟨kf,hkf⟩:∃kf,kf=kq n v l atE:=⟨_,rfl⟩;obtain⟨KA,hKA⟩:∃KA,KA=AI (oJ xs (dT n l atE).ds F T):=⟨_,rfl⟩;have Qq:ο (∀(q:Nat) (s:Int),a<=q->q<b->1893456000+900*(q:Int)<=s->s<1893456000+900*(q:Int)+900->KA s=Jy (kf q)):=H λq s G A K h4=>by
     rw[hKA,hkf,hF,hT,A4];exact OK n1 n4 agl v4 aiR G A K h4
    have A3:ο (∀q,kf q=0\/kf q=1\/kf q=2):=H λq=>by rw[hkf];exact aiP _ _ _ _ _
    have CB:ο (μ prog 28 #[.pointer (some ⟨s,0,none⟩),Qs,V Z (1893456000+900*(a:Int)),V Z (1893456000+900*(b:Int))] wr λe Y=>∃atI,e=δ (.tuple #[ζ atI,V Z 0])/\(∃R,mS KA T F R/\atI=pU F T R)/\Below w.heap.size w Y):=H (by
     obtain⟨atG,E,q1,q2,q3⟩:=A6.out;rw[<-hF,<-hT];refine(Jq (w0:=w) (st:=⟨(dT n l atE).ns,(dT n l atE).ds,h'⟩) q1 Qs xs F T HT.out cP q2 hnr.out (by omega) q3).mono ?_;rintro e Y ⟨y,atI,G,⟨A,K⟩,_,h5⟩;have hy:y=0:=by
      rw[A];unfold uW;rw[show pZ F T=true from by unfold pZ cq;simp;omega];simp only[if_true,Sv]
     subst hy;obtain⟨R,r1,r2⟩:=K;exact⟨atI,G,⟨R,by rw[hKA];exact r1,r2⟩,cP.trans (h5.below cP.size q2)⟩)
    have CK:ο (∀W,Below w.heap.size w W->μ prog 29 #[ε sa l.length cap,V Z n,V Z v] W λe Y=>∃g,e=δ (ε (some ⟨g,0,none⟩) 300 300)/\M Y g (p7 kf) 3/\Below W.heap.size W Y):=H λW bV=>by
     have:=adm sa cap l n v W (HL.out.keep bV) (by omega) (by omega) v0 (by omega);rw[<-hNd.out]at this;rw[hkf];exact this
    obtain⟨x1,e1⟩:=pE F;obtain⟨x3,e3⟩:=pE T;have CP1:ο (∀W,Below w.heap.size w W->μ prog 18 #[V Z (1893456000+900*(a:Int))] W λE Y=>E=δ (.tuple #[ζ (dE F),V Z x1])/\Below W.heap.size W Y):=H λW U=>by
     have:=jQ F W (HT.out.on U);rw[e1]at this;rw[<-hF];exact this
    have CP2:ο (∀W,Below w.heap.size w W->μ prog 18 #[V Z (1893456000+900*(b:Int))] W λE Y=>E=δ (.tuple #[ζ (dE T),V Z x3])/\Below W.heap.size W Y):=H λW U=>by
     have:=jQ T W (HT.out.on U);rw[e3]at this;rw[<-hT];exact this
    have hWn:=H (age F T);have vG:=iq F;have sC:=iq T;have Vv:ο (F=1893456000+900*(a:Int)/\T=1893456000+900*(b:Int)):=H ⟨hF,hT⟩;clear hF hT e1 e3 A6 hnr Sv hKA hkf A4;go_upto_region 24 with(go_at_call 28;refine(CB.out).mono ?_;rintro e w3 ⟨atI,rfl,hS,aR⟩);have CK3:=H (CK.out _ aR);clear CK CB;replace hS:=H hS;go_upto_region 25 with(go_at_call 29;refine(CK3.out).mono ?_;rintro e w4 ⟨g,rfl,zE,cu⟩);have wL:Below w.heap.size w w4:=aR.trans (cu.mono aR.size);have agq:=H (CP1.out _ wL);replace zE:=H zE;clear CP1 CK3 cu aR;go_upto_region 26 with(go_at_call 18;refine(agq.out).mono ?_;rintro e w5 ⟨rfl,bJ⟩);have Sw:Below w.heap.size w w5:=wL.trans (bJ.mono wL.size);have agr:=H (CP2.out _ Sw);have MG:=H (zE.out.on bJ);clear CP2 agq zE bJ wL;go_upto_region 27 with(go_at_call 18;refine(agr.out).mono ?_;rintro e w6 ⟨rfl,cG⟩);have oN:Below w.heap.size w w6:=Sw.trans (cG.mono Sw.size);have hr6:=H (MG.out.on cG);have Fm:g<w6.heap.size:=hr6.out.lt;clear agr MG cG Sw;go_upto_region 28 with fail;rw[hWn.out];have gp:(WT F T []).size<=200:=by
     rw[<-hWn.out];simp only[ι];have z1:(⟨#[66,69,71,73,78,58,86,70,82,69,69,66,85,83,89,13,10,68,84,83,84,65,82,84,58]⟩:ByteArray).size=25:=rfl;have z2:(⟨#[13,10]⟩:ByteArray).size=2:=rfl;have z3:(⟨#[68,84,69,78,68,58]⟩:ByteArray).size=6:=rfl;omega
    clear hWn;go_wp2_with fail;have CL:ο (∀(k:Int) (p q:Nat) (W:π),p<=400->q<=400->Below w.heap.size w W->μ prog 30 #[V Z k,V Z p,V Z q] W λe Y=>e=δ (ζ (zD k (1893456000+900*(p:Int)) (1893456000+900*(q:Int))))/\Below W.heap.size W Y):=H λk p q W G A U=>agi k p q W (HT.out.on U) G A;clear HT HM HL P2 P5 P6 vG sC;go_loopw [31,32,33] (λsW tA tQ wr=>∃(p q:Nat) (R:List (Int×Int×Int)),sW=ζ (WT F T R)/\tA=V Z p/\tQ=V Z q/\Below w6.heap.size w6 wr/\ο ((WT F T R).size<=300+100*q)/\a<=p/\p<=290/\q<=b+1/\((q<=b/\p<q/\ο ((∀j,p<=j->j<q->kf j=kf p)/\A0 KA T F (1893456000+900*(p:Int)) R))\/(q=b+1/\ο (A0 KA T F T R)))) (λ_ _ tQ _=>b+1-(intOf tQ).toNat)
    case atStart=>
     refine⟨a,a+1,[],rfl,rfl,by go_num,Below.refl _ _,H (by omega),Nat.le_refl _,by omega,by omega,.inl ⟨by omega,by omega,H ⟨λj G A=>?_,?_⟩⟩⟩
     ·rw[show j=a by omega]
     rw[<-Vv.out.1];exact λL h=>h
    case round=>
     obtain⟨p,q,R,rfl,rfl,rfl,cP,bp,hap,aiS,hqb,BW⟩:=hrel;have al:Below w.heap.size w wr:=oN.trans (cP.mono oN.size);by_cases hq:q<=b
     case neg=>
      obtain⟨_,nP⟩:q=b+1/\ο (A0 KA T F T R):=BW.elim (λh=>absurd h.1 hq) id;have hSW:atI=WT F T R++⟨#[69,78,68,58,86,70,82,69,69,66,85,83,89]⟩++⟨#[13,10]⟩:=by
       obtain⟨R0,r1,r2⟩:=hS.out;rw[r2,agf,mS.uniq (λ_ _ _=>rfl) r1 nP.out.done]
      have hq':¬(q:Int)<=b:=by omega
      have Ao:∀atD:ByteArray,(atD.toList==atD.toList)=true:=λatD=>by simp
      have oZ:(WT F T R).size<=60000:=by have:=bp.out;omega
      clear BW nP hS Qq A3 bp Vv;subst hSW;generalize WT F T R=atD at *
      go_wp2_with fail;go_ret;exact⟨rfl,al⟩
     case pos=>
      obtain⟨_,Qp,hh⟩:=BW.resolve_right λh=>by omega
      have hrr:=hr6.out.on cP;have kc:=hrr.cell (k:=q) (DU kf (by omega));have kp:=hrr.cell (k:=p) (DU kf (by omega));have CLp:=H λ(W:π) (U:Below w.heap.size w W)=>CL.out (kf p) p q W (by omega) (by omega) U;have iF:ο ((q=b\/kf q≠kf p)->A0 KA T F (1893456000+900*(q:Int)) (R++vU (kf p) (1893456000+900*(p:Int)) (1893456000+900*(q:Int)))):=H λhe=>by
       have A:=hh.out.2;rw[Vv.out.2]at A⊢;exact OL Qq.out A3.out hap Qp hq hh.out.1 he A
      have hWr:=H (agh (A3.out p) F T (1893456000+900*(p:Int)) (1893456000+900*(q:Int)) R);have hLs:=ads (kf p) (1893456000+900*(p:Int)) (1893456000+900*(q:Int));have oZ:(WT F T R).size<=60000:=by have:=bp.out;omega
      have hle:(q:Int)<=b:=by omega
      have hTq:ο (q=b->1893456000+900*(q:Int)=T):=H λe=>by rw[e];exact Vv.out.2.symm
      clear BW Qq A3 Vv CL hrr;generalize zD (kf p) (1893456000+900*(p:Int)) (1893456000+900*(q:Int))=LS at *
      have hsR:ο ((WT F T (R++vU (kf p) (1893456000+900*(p:Int)) (1893456000+900*(q:Int)))).size<=300+100*(q+1)):=H (by
       rw[<-hWr.out,ι];have:=bp.out;omega)
      by_cases p9:q=b
      case pos=>
       have oV:((q:Int)==(b:Int))=true:=by simp[p9]
       have fN:=H p9;clear p9;go_upto_region 32 with fail;go_big_quiet (fail);go_wp2_with (go_at_call 30;refine(CLp.out _ (below_drewN al _)).mono ?_;rintro e w7 ⟨rfl,ka⟩);refine⟨⟨q,q+1,_,by rw[hWr.out],rfl,by go_num,(below_drewN cP _).trans (ka.mono (below_drewN cP _).size),hsR,by omega,by omega,by omega,.inr ⟨by have:=fN.out;omega,H ?_⟩⟩,by simp[intOf];omega⟩;have:=iF.out (.inl fN.out);rw[hTq.out fN.out]at this;rw[hTq.out fN.out];exact this
      case neg=>
       have oV:((q:Int)==(b:Int))=false:=by rw[beq_eq_false_iff_ne];omega
       have fN:=H p9;by_cases I:kf q=kf p
       case pos=>
        have Cu:(kf q !=kf p)=false:=by rw[I];simp
        replace I:=H I;clear p9;go_upto_region 32 with fail;go_big_quiet (fail);go_wp2_with fail;refine⟨⟨p,q+1,R,rfl,rfl,by go_num,below_drewN cP _,H (by have:=bp.out;omega),hap,aiS,by have:=fN.out;omega,.inl ⟨by have:=fN.out;omega,by omega,H ⟨λj G A=>?_,hh.out.2⟩⟩⟩,by simp[intOf];omega⟩;by_cases hj:j=q
        ·rw[hj];exact I.out
        exact hh.out.1 j G (by omega)
       case neg=>
        have Cu:(kf q !=kf p)=true:=by simpa using I
        replace I:=H I;clear p9;go_upto_region 32 with fail;go_big_quiet (fail);go_wp2_with (go_at_call 30;refine(CLp.out _ (below_drewN al _)).mono ?_;rintro e w7 ⟨rfl,ka⟩);exact⟨⟨q,q+1,_,by rw[hWr.out],rfl,by go_num,(below_drewN cP _).trans (ka.mono (below_drewN cP _).size),hsR,by omega,by omega,by have:=fN.out;omega,.inl ⟨by have:=fN.out;omega,by omega,H ⟨λj G A=>by rw[show j=q by omega],iF.out (.inr I.out)⟩⟩⟩,by simp[intOf];omega⟩
   replace Vu:=H Vu;clear Y9;replace A4:=H A4;obtain⟨atG,E,q1,q2,q3⟩:=hsB.out;have q1':=H q1;have hml:∀k,atG k\/E k->k<wB.heap.size:=λk I=>q1.lt I;have MH:=H hL;clear Sv hL q1 hsB;go_loopw [20,23] (λnvv t wr=>∃i:Nat,t=V Z i/\Below wB.heap.size wB wr/\i<=L/\((v<0/\ο (wr.ownsRow wB.heap.size 9 1 nvv i (dS (jI i))))\/(0<=v/\i=0/\nvv=Qr))) (λ_ t _=>L-(intOf t).toNat)
   case atStart=>
    refine⟨0,rfl,Below.refl _ _,by omega,?_⟩;by_cases hv:v<0
    ·exact .inl ⟨hv,H (by rw[agn hv];exact Y6)⟩
    exact .inr ⟨by omega,rfl,rfl⟩
   case round=>
    obtain⟨i,rfl,cP,hiL,BW⟩:=hrel;have wM:Below w.heap.size w wr:=pX.trans (cP.mono pX.size);have A6:ο (cX wr s atG E (dT n l atE).ns (dT n l atE).ds h'):=H (q1'.out.on cP);rcases BW with⟨hv,aU⟩|⟨hv,rfl,rfl⟩
    case inr=>
     have LU:¬v<0:=by omega
     go_wp2_with fail;exact Vu.out _ _ _ _ ⟨rfl,rfl,rfl,rfl,rfl,rfl,rfl,rfl,rfl,rfl⟩ wM (H ⟨atG,E,A6.out,q2,q3⟩) (H (by
      rw[A4.out];unfold s9;rw[if_neg (by omega)];exact(Su.out hv).keep λk I=>cP.block k ((Su.out hv).lt I)))
    case inl=>
    by_cases S:i<L
    case neg=>
     have am2:i=L:=by omega
     replace MH:=MH.out;subst am2;have eY:ο (fQ wr u20 xs):=H (by
      rw[A4.out];unfold s9;rw[if_pos hv,<-MH];have:=aU.out;rw[show i=(jI i).length from(xC i).symm]at this;rw[xC]at this;exact A2 (by rw[xC];exact this))
     have ji:ο (∀k,u20.ownBlock=some k->¬atG k):=H λk I hM=>by
      have:=(aU.out.lt k I).1;have:=hml k (.inl hM);omega
     replace MH:=H MH;by_cases G:(i:Int)<n
     case pos=>
      have gH:((i:Int)==0)=false:=by
       rw[beq_eq_false_iff_ne];omega
      have uB:¬i<l.length:=by
       have:=hN4.out i (by omega);have:=MH.out;omega
      have tf:i<n:=by omega
      clear G;go_wp2_with fail;exact Vu.out _ _ _ u20 ⟨rfl,rfl,rfl,rfl,rfl,rfl,rfl,rfl,rfl,rfl⟩ wM (H ⟨atG,E,A6.out,q2,ji.out⟩) eY
     case neg=>
      have tf:¬i<n:=by omega
      go_wp2_with fail;exact Vu.out _ _ _ u20 ⟨rfl,rfl,rfl,rfl,rfl,rfl,rfl,rfl,rfl,rfl⟩ wM (H ⟨atG,E,A6.out,q2,ji.out⟩) eY
    case pos=>
     have tf:i<n:=by omega
     have CDi:ο (μ prog 21 #[V Z i] wr λe Y=>e=δ (ζ ⟨(cY i).toArray⟩)/\Below wr.heap.size wr Y):=H (uX i wr (by omega) (by omega) (by omega));have Hk:ο ((⟨#[99]⟩:ByteArray)++⟨(cY i).toArray⟩=cN i):=H (by rw[yG];rfl);have hsD:(⟨(cY i).toArray⟩:ByteArray).size<=7:=by
      show(cY i).toArray.size<=7;simpa using(BX i (by omega) (by omega)).2.2.2
     have fE:ο (∀atD,atD=cN i->dS (jI (i+1))=dS (jI i)++[Value.string atD]):=H λatD e=>by
      rw[My,e];unfold dS;rw[List.map_append];rfl
     generalize(⟨(cY i).toArray⟩:ByteArray)=DI at *
     have KT:((i:Int)==0)=true\/(((i:Int)==0)=false/\i<l.length):=by
      have:=hN4.out i (by omega);have:=MH.out;rw[beq_eq_false_iff_ne,beq_iff_eq];omega
     rcases KT with gH|⟨gH,A⟩
     all_goals
      go_wp2_with (first
       |(go_at_call 21;refine(CDi.out).mono ?_;rintro e w5 ⟨rfl,bJ⟩;have agv:=cP.trans (bJ.mono cP.size);have hB5:=agv.size;have ly:=dQ aU.out (Y:=w5) λg _ hg=>bJ.block g hg)
       |(at_builtin;refine O7 rfl (.tmp 113) (.tmp 117) 52 9 _ 16 rfl underlying52 pB rfl wB.heap.size _ _ _ rfl ly agv hB5 (ζ ((⟨#[99]⟩:ByteArray)++DI)) rfl rfl (by simp) (by omega) (by decide) ?_;intro v' w6 nA am3 _))
      refine⟨⟨i+1,by go_num,am3,by omega,.inl ⟨hv,H ?_⟩⟩,by simp[intOf];omega⟩;rw[fE.out _ Hk.out];exact nA
  replace Vt:=H Vt;clear Y8;have hvn:v.toNat<12:=by omega
  by_cases Vw:0<=v
  case neg=>
   go_wp2_with fail;obtain⟨atG,E,q1,q2⟩:=uO.out;exact Vt.out _ _ _ (ε none 0 0) ⟨rfl,rfl,rfl,rfl,rfl,rfl,rfl,rfl,rfl,rfl⟩ cP (H ⟨atG,E,q1,q2,λk I=>by simp[Value.ownBlock]at I⟩) (λ_=>rfl) (H λh=>absurd h (by omega)) (λh=>absurd h (by omega))
  case pos=>
   have hvN:(v.toNat:Int)=v:=by omega
   have CD:ο (μ prog 21 #[V Z v] wr λe Y=>e=δ (ζ ⟨(cY v).toArray⟩)/\Below wr.heap.size wr Y):=H (uX v wr Vw (by omega) (by omega));have Hk:(⟨#[99]⟩:ByteArray)++⟨(cY v).toArray⟩=cN v.toNat:=by
    rw[yG];unfold cN;rw[hvN];rfl
   replace Hk:=H Hk;have hsD:(⟨(cY v).toArray⟩:ByteArray).size<=7:=by
    show(cY v).toArray.size<=7;simpa using(BX v Vw (by omega)).2.2.2
   generalize(⟨(cY v).toArray⟩:ByteArray)=DV at *
   go_upto_region 16 with(go_at_call 21;refine(CD.out).mono ?_;rintro e w5 ⟨rfl,bJ⟩);obtain⟨atG,E,q1,q2⟩:=uO.out;have fO:Below w5.heap.size w5 (w5.alloc (.cells #[ζ ((⟨#[99]⟩:ByteArray)++DV)] 9)):=(Below.refl _ _).alloc (Nat.le_refl _) _;have hrA:=M.new w5 [ζ ((⟨#[99]⟩:ByteArray)++DV)] 9;have ti:=bJ.size;have Mf:=cP.size;have cG:=bJ.trans (fO.mono ti);have oN:Below w.heap.size w (w5.alloc (.cells #[ζ ((⟨#[99]⟩:ByteArray)++DV)] 9)):=cP.trans (cG.mono Mf);have q6:=H (q1.on cG);have MI:∀k,(Value.slice (some ⟨w5.heap.size,0,none⟩) 1 1).ownBlock=some k->¬atG k:=λk I hM=>by
    simp only[Value.ownBlock,Option.some.injEq]at I;have:=q1.lt (.inl hM);omega
   have Fj:ο (fQ (w5.alloc (.cells #[ζ ((⟨#[99]⟩:ByteArray)++DV)] 9)) (ε (some ⟨w5.heap.size,0,none⟩) 1 1) [cN v.toNat]):=H (by
    rw[Hk.out]at hrA⊢;exact A2 (B:=0) (Ss hrA (Nat.zero_le _)))
   clear Hk hrA cG fO q1 uO CD;replace oN:=H oN;obtain⟨W6,hW6⟩:∃W6,W6=w5.alloc (.cells #[ζ ((⟨#[99]⟩:ByteArray)++DV)] 9):=⟨_,rfl⟩;rw[<-hW6]at q6 Fj oN⊢;replace hW6:=H hW6;have hlv:(l.length:Int)<=v↔atE<=v.toNat:=by have:=hN4.out v.toNat (by omega);omega
   by_cases aeB:(l.length:Int)<=v
   case pos=>
    by_cases hv1:0<v
    case pos=>
     have df:jC [cN v.toNat] (dT n l atE).ns=some 6:=by
      show jC [cN v.toNat] (jI (max 1 (min n atE)))=some 6;rw[MD (by omega) hvn,if_neg (by omega)]
     have CB:=H (Jq (w0:=w) (st:=⟨(dT n l atE).ns,(dT n l atE).ds,h'⟩) q6.out (ε (some ⟨w5.heap.size,0,none⟩) 1 1) [cN v.toNat] 1893456000 1893456001 HT.out oN.out q2 Fj.out (by simp) MI);have hbs:(uW [cN v.toNat] 1893456000 1893456001 ⟨(dT n l atE).ns,(dT n l atE).ds,h'⟩).1=6:=by
      unfold uW;rw[show pZ 1893456000 1893456001=true from by decide];simp only[if_true,df]
     have CB2:ο (μ prog 28 #[.pointer (some ⟨s,0,none⟩),ε (some ⟨w5.heap.size,0,none⟩) 1 1,V Z 1893456000,V Z 1893456001] W6 λe Y=>∃atI,e=δ (.tuple #[ζ atI,V Z 6])/\Below w.heap.size w Y):=H (CB.out.mono λe Y ⟨y,atI,G,A,_,h4⟩=>by
      have:y=6:=A.1.trans hbs;subst this;exact⟨atI,G,oN.out.trans (h4.below oN.out.size q2)⟩)
     clear CB hbs df q6 Fj oN;go_wp2_with (go_at_call 28;refine(CB2.out).mono ?_;rintro e w7 ⟨atI,rfl,ka⟩);go_ret;exact⟨rfl,ka⟩
    case neg=>
     go_wp2_with fail;exact Vt.out _ _ _ (ε (some ⟨w5.heap.size,0,none⟩) 1 1) ⟨rfl,rfl,rfl,rfl,rfl,rfl,rfl,rfl,rfl,rfl⟩ oN.out (H ⟨atG,E,q6.out,q2,MI⟩) (λh=>absurd h (by omega)) (H λ_=>Fj.out) (λ_=>by omega)
   case neg=>
    go_wp2_with fail;exact Vt.out _ _ _ (ε (some ⟨w5.heap.size,0,none⟩) 1 1) ⟨rfl,rfl,rfl,rfl,rfl,rfl,rfl,rfl,rfl,rfl⟩ oN.out (H ⟨atG,E,q6.out,q2,MI⟩) (λh=>absurd h (by omega)) (H λ_=>Fj.out) (λ_=>by omega)
 replace JA:=H JA;clear Y7;by_cases J:0<K
 case neg=>
  go_wp2_with (go_at_call 17;refine(P5.out _).mono ?_;rintro e Y ⟨rfl,rfl⟩);exact JA.out _ _ _ ⟨rfl,rfl,rfl,rfl,rfl,rfl,rfl,rfl,rfl,rfl⟩ uV (H ⟨atG,E,x2.out,tu⟩)
 case pos=>
  have CHo:=H (YO (st:=dT n l atE) x2.out (1893456000+900*h4) (HT.out.on uV));rw[am0 agl (by omega) (by omega)]at CHo;go_upto_region 9 with(go_at_call 17;refine(P5.out _).mono ?_;rintro e Y ⟨rfl,rfl⟩);go_wp2_with (first
   |(go_at_call 17;refine(P6.out _).mono ?_;rintro e Y ⟨rfl,rfl⟩)
   |(go_at_call 27;refine(CHo.out).mono ?_;rintro e w3 ⟨rfl,su,dZ⟩))
  obtain⟨M3,E3,q1,q2⟩:=su;exact JA.out _ _ _ ⟨rfl,rfl,rfl,rfl,rfl,rfl,rfl,rfl,rfl,rfl⟩ (uV.trans (dZ.below uV.size tu)) (H ⟨M3,E3,q1,λk I=>(q2 k I).elim (tu k) λh=>Nat.le_trans uV.size h⟩)
end Go.Proofs.YthpndgcaoeokeaaGreatDoor
