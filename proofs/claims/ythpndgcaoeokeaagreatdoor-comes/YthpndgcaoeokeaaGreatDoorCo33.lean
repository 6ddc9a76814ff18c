import Derived.Test.YthpndgcaoeokeaaGreatDoorCo32
import Derived.Deep.RegionLaw
set_option maxRecDepth 100000
set_option maxHeartbeats 16000000
open Go.IntKind renaming i64→Z
open Go.Value renaming int→V,slice→ε
open Go.Ending renaming returned→δ
open Go renaming World→ζ,TypeId→ι
open List renaming mem_cons_of_mem→η,mem_cons→κ,takeWhile_cons→μ,length_take→ν
open Nat renaming lt_of_lt_of_le→θ,le_trans→ξ
namespace Go.Proofs.YthpndgcaoeokeaaGreatDoor
open Tryz
open Go.RowKit
theorem Fz (t:Int):∀ls:List Int,dZ ls→dZ (ja t (ls.dropWhile fun x=>decide (x<t)))∧(∀x∈ja t (ls.dropWhile fun x=>decide (x<t)),t<x∧x∈ls)∧(∀x∈ls.takeWhile (fun x=>decide (x<t)),x<t∧x∈ls)∧dZ (ls.takeWhile fun x=>decide (x<t))∧∀x∈ls,x∈ls.takeWhile (fun x=>decide (x<t))∨x=t∨x∈ja t (ls.dropWhile fun x=>decide (x<t))
 |[],_=>by simp[ja,dZ]
 |a::r,h=>by
  obtain⟨ha,hr⟩:=List.pairwise_cons.1 h;by_cases q:a<t
  ·obtain⟨i1,i2,i3,i4,i5⟩:=Fz t r hr;rw[List.dropWhile_cons,if_pos (by simpa using q),μ,if_pos (by simpa using q)];refine⟨i1,fun x hx=>⟨(i2 x hx).1,η _ (i2 x hx).2⟩,fun x hx=>?_,?_,fun x hx=>?_⟩
   ·rcases List.mem_cons.1 hx with rfl|hx
    ·exact⟨q,by simp⟩
    ·exact⟨(i3 x hx).1,η _ (i3 x hx).2⟩
   ·exact List.pairwise_cons.2 ⟨fun x hx=>ha x (i3 x hx).2,i4⟩
   ·rcases List.mem_cons.1 hx with rfl|hx
    ·exact .inl (by simp)
    ·rcases i5 x hx with h1|h1|h1
     ·exact .inl (η _ h1)
     ·exact .inr (.inl h1)
     ·exact .inr (.inr h1)
  ·rw[List.dropWhile_cons,if_neg (by simpa using q),μ,if_neg (by simpa using q),ja];by_cases e:a=t
   ·subst e;rw[if_pos rfl];refine⟨hr,fun x hx=>⟨ha x hx,η _ hx⟩,by simp,by simp[dZ],fun x hx=>?_⟩;rcases List.mem_cons.1 hx with rfl|hx
    ·exact .inr (.inl rfl)
    ·exact .inr (.inr hx)
   ·rw[if_neg e];refine⟨h,fun x hx=>?_,by simp,by simp[dZ],fun x hx=> .inr (.inr hx)⟩;rcases List.mem_cons.1 hx with rfl|iA
    ·exact⟨by omega,hx⟩
    ·have:=ha x iA;exact⟨by omega,hx⟩
theorem Jl:∀ts ls:List Int,dZ ts→dZ ls→dZ (jO ts ls)∧∀x,x∈jO ts ls↔x∈ts∨x∈ls
 |[],ls,_,h=>by rw[jO];exact⟨h,by simp⟩
 |t::ts,ls,h1,h2=>by
  obtain⟨ha,hr⟩:=List.pairwise_cons.1 h1;obtain⟨i1,i2,i3,i4,i5⟩:=Fz t ls h2;obtain⟨j1,j2⟩:=Jl ts (ja t (ls.dropWhile fun x=>decide (x<t))) hr i1;rw[jO];have XG:∀x∈jO ts (ja t (ls.dropWhile fun x=>decide (x<t))),t<x:=fun x hx=>by
   rcases(j2 x).1 hx with h|h
   ·exact ha x h
   ·exact(i2 x h).1
  refine⟨?_,fun x=>?_⟩
  ·unfold dZ;rw[List.pairwise_append];refine⟨i4,List.pairwise_cons.2 ⟨XG,j1⟩,fun x hx y hy=>?_⟩;have:=(i3 x hx).1;rcases List.mem_cons.1 hy with rfl|hy
   ·exact this
   ·have:=XG y hy;omega
  ·rw[List.mem_append,κ,κ,j2];constructor
   ·rintro(h|h|h|h)
    ·exact .inr (i3 x h).2
    ·exact .inl (.inl h)
    ·exact .inl (.inr h)
    ·exact .inr (i2 x h).2
   ·rintro((h|h)|h)
    ·exact .inr (.inl h)
    ·exact .inr (.inr (.inl h))
    ·rcases i5 x h with q|q|q
     ·exact .inl q
     ·exact .inr (.inl q)
     ·exact .inr (.inr (.inr q))
def fl:List Int→List Int→List Int
 |all,[]=>all
 |all,x::xs=>fl (eE x false all) xs
theorem vi:∀xs all:List Int,dZ all→dZ (fl all xs)∧∀y,y∈fl all xs↔y∈all∨y∈xs
 |[],all,h=>⟨h,by simp[fl]⟩
 |x::xs,all,h=>by
  obtain⟨i1,i2⟩:=vi xs (eE x false all) (BH x all false h);refine⟨i1,fun y=>?_⟩;rw[fl,i2,nP,κ];constructor
  ·rintro((⟨rfl,_⟩|⟨h1,_⟩)|h1)
   ·exact .inr (.inl rfl)
   ·exact .inl h1
   ·exact .inr (.inr h1)
  ·rintro(h1|h1|h1)
   ·by_cases e:y=x
    ·exact .inl (.inl ⟨e,rfl⟩)
    ·exact .inl (.inr ⟨h1,e⟩)
   ·exact .inl (.inl ⟨h1,rfl⟩)
   ·exact .inr h1
theorem adW {ts xs:List Int}(h1:dZ ts)(h2:dZ xs):fl ts xs=jO ts xs:=by
 obtain⟨i1,i2⟩:=vi xs ts h1;obtain⟨j1,j2⟩:=Jl ts xs h1 h2;exact EK i1 j1 fun x=>by rw[i2,j2]
theorem Mv {L:List Int}(h:dZ L)(st:Int)(ex:List Int):dZ (qy st ex L):=by
 unfold qy dZ;refine List.Pairwise.filter _ ?_;rw[List.pairwise_map];exact h.imp (fun q=>by omega)
theorem aaz {L:List Int}(h:dZ L)(ct:Int):dZ (Jk ct L):=by
 unfold Jk;split
 ·exact h
 ·exact List.Pairwise.sublist (List.take_sublist _ _) h
theorem Mw (d:iT)(L:List Int)(to:Int)(cM:0≤d.st)(hx:dZ d.xt)(hL:dZ L)(hr:lL (eH d) (fE d) d.st 0 to=L):
 cL d to=fl (qy d.st d.ex L) (d.xt.filter fun t=>!d.ex.contains t&&decide (t<to)&&decide (d.st≤t)):=by
 have e:jk d.st 0 to d.ex d.xt=d.xt.filter fun t=>!d.ex.contains t&&decide (t<to)&&decide (d.st≤t):=by
  unfold jk;apply List.filter_congr;intro t _;rw[Int.max_eq_left cM,Bool.eq_iff_iff];simp only[Bool.and_eq_true];constructor
  ·rintro⟨⟨a,b⟩,c⟩;exact⟨⟨c,b⟩,a⟩
  ·rintro⟨⟨a,b⟩,c⟩;exact⟨⟨c,b⟩,a⟩
 unfold cL pP zC;rw[hr,e,adW (Mv hL d.st d.ex) (List.Pairwise.filter _ hx)]
open Go.RowKit Go.Sort
theorem QT (a:Act)(h:a.tmps.size=213)(hd:a.defers=[]):∃f:Nat→Value,a=⟨List.toArray (f 0::f 1::f 2::f 3::f 4::f 5::f 6::f 7::f 8::f 9::f 10::f 11::f 12::f 13::f 14::f 15::f 16::f 17::f 18::f 19::f 20::f 21::f 22::f 23::f 24::f 25::f 26::f 27::f 28::f 29::f 30::f 31::f 32::f 33::f 34::f 35::f 36::f 37::f 38::f 39::f 40::f 41::f 42::f 43::f 44::f 45::f 46::f 47::f 48::f 49::f 50::f 51::f 52::f 53::f 54::f 55::f 56::f 57::f 58::f 59::f 60::f 61::f 62::f 63::f 64::f 65::f 66::f 67::f 68::f 69::f 70::f 71::f 72::f 73::f 74::f 75::f 76::f 77::f 78::f 79::f 80::f 81::f 82::f 83::f 84::f 85::f 86::f 87::f 88::f 89::f 90::f 91::f 92::f 93::f 94::f 95::f 96::f 97::f 98::f 99::f 100::f 101::f 102::f 103::f 104::f 105::f 106::f 107::f 108::f 109::f 110::f 111::f 112::f 113::f 114::f 115::f 116::f 117::f 118::f 119::f 120::f 121::f 122::f 123::f 124::f 125::f 126::f 127::f 128::f 129::f 130::f 131::f 132::f 133::f 134::f 135::f 136::f 137::f 138::f 139::f 140::f 141::f 142::f 143::f 144::f 145::f 146::f 147::f 148::f 149::f 150::f 151::f 152::f 153::f 154::f 155::f 156::f 157::f 158::f 159::f 160::f 161::f 162::f 163::f 164::f 165::f 166::f 167::f 168::f 169::f 170::f 171::f 172::f 173::f 174::f 175::f 176::f 177::f 178::f 179::f 180::f 181::f 182::f 183::f 184::f 185::f 186::f 187::f 188::f 189::f 190::f 191::f 192::f 193::f 194::f 195::f 196::f 197::f 198::f 199::f 200::f 201::f 202::f 203::f 204::f 205::f 206::f 207::f 208::f 209::f 210::f 211::f 212::[]),[]⟩∧∀k,a.eval (.tmp k)=f k:=jo 213 a h hd
theorem tv {w:ζ}{b k:Nat}{E R:List Value}{T:ι}(h:af w b E T)(hE:∀j v,R[j]?=some v→E[k+j]?=some v):w.rangeAt b k R:=fun j v hj=>h.cell (hE j v hj)
theorem Dc {ops:Array Oper}{C:ζ→Prop}{Q:Act→Prop}{rest:List Oper}{o:Oper}{a a':Act}{x:Operand}{g k:Nat}{cs:List Value}{T:ι}(hw:Region.wanted o (yielded ops a.tmps)=true)(ho:o.op= .load T x)(hx:a.eval x= .pointer (some ⟨g,k,none⟩))
 (hr:∀w,C w→(Instr.loadAt T (.pointer (some ⟨g,k,none⟩))).run prog w= .ok (.agg cs.toArray) w)(ha:a.put o.dst (.agg cs.toArray)=a')(h:wpQuiet prog ops C Q rest a'):wpQuiet prog ops C Q (o::rest) a:=
 BigFrame.wpQuiet_want hw fun K hK=>⟨.agg cs.toArray,fun w hc=>by unfold Oper.quietAt;rw[dp ho hx (hr w hc)];exact⟨rfl,rfl⟩,hK _ (by rw[ha];exact h)⟩
theorem J1 {w:ζ}{b:Nat}{E R:List Value}{T:ι}(h:af w b E T)(hE:∀j v,R[j]?=some v→E[3+j]?=some v)(hR:R.length=19):(Instr.loadAt 243 (.pointer (some ⟨b,3,none⟩))).run prog w= .ok (.agg R.toArray) w:=
 run_loadAt_mid w b 3 243 R _ (tv h hE) underlying243 rfl (by rw[hR];exact fk)
def ew (ex:List Int)(to:Int):Int→Bool:=fun t=>!ex.contains t&&decide (t<to)
def je (ex:List Int)(to st:Int):Int→Bool:=fun t=>!ex.contains t&&decide (t<to)&&decide (st≤t)
theorem Wk (F:Int→Bool)(O:List Int)(k:Nat)(h:k<O.length):(O.take (k+1)).filter F=(O.take k).filter F++if F (O.getD k 0)then[O.getD k 0]else[]:=by
 rw[getD_take h,List.filter_append];congr 1;generalize O.getD k 0=x;cases q:F x<;>simp[q]
theorem Mx (F:Int→Bool)(O:List Int)(k:Nat):((O.take k).filter F).length≤O.length:=by
 refine ξ (List.length_filter_le _ _) ?_;rw[ν];omega
theorem Wl (F:Int→Bool)(O:List Int)(k:Nat)(h:k<O.length):(O.drop k).filter F=(if F (O.getD k 0)then[O.getD k 0]else[])++(O.drop (k+1)).filter F:=by
 rw[List.drop_eq_getElem_cons h,List.filter_cons];have e:O.getD k 0=O[k]:=by simp[List.getD,h]
 rw[e];cases q:F O[k]<;>simp
theorem T4 {w w1:ζ}{B:Nat}{e:ι}{v u:Value}{n:Nat}{xs:List Value}(h:w.ownsRow B e 1 v n xs)(hk:∀g,g<w.heap.size→u.ownBlock≠some g→w1.heap[g]?=w.heap[g]?)(di:∀g,v.ownBlock=some g→u.ownBlock≠some g):w1.ownsRow B e 1 v n xs:=by
 refine⟨h.1,h.2.imp id ?_⟩;rintro⟨g',cap,cur,h1,h2,h3,h4⟩;exact⟨g',cap,cur,h1,h2,by rw[hk g' (Array.getElem?_eq_some_iff.1 h3).1 (di g' (by rw[h1];rfl))];exact h3,h4⟩
theorem pR {w:ζ}{B:Nat}{e:ι}{v:Value}{n:Nat}{xs:List Value}(h:w.ownsRow B e 1 v n xs)(k:Nat):(w.drewN k).ownsRow B e 1 v n xs:=h
theorem Y3 {w:ζ}{B:Nat}{e:ι}{v:Option Addr}{n k c:Nat}{xs:List Value}(h:w.ownsRow B e 1 (ε v k c) n xs):k=n:=by
 rcases h.2 with⟨q,q2⟩|⟨g,cap,cur,q,_⟩
 ·cases q;exact q2.symm
 ·cases q;rfl
def kE (c d:Int):Int:=d * 86400+c
structure TW (W1:ζ)(b8 ep:Nat)(s c D:Int)(bg:Int→Int)(jU:Int→List Int)(L:List Int)(v ch:Value)(pp:Int)(wr:ζ):Prop where
 below:Below W1.heap.size W1 wr
 r8:af wr b8 (dC s) 236
 kx:af wr ep (dC D) 236
 own:wr.ownsRow W1.heap.size 3 1 v L.length ((L.map (kE c)).map (Value.int Z))
 Y4:∀d,s≤d→d<84006→bg d=pp→wr.ownsRow W1.heap.size 3 1 ch (jU d).length ((jU d).map (Value.int Z))
 My:∀g,ch.ownBlock=some g→g<wr.heap.size∧v.ownBlock≠some g
theorem TW.on {W1:ζ}{b8 ep:Nat}{s c D:Int}{bg:Int→Int}{jU:Int→List Int}{L:List Int}{v ch:Value}{pp:Int}{wr gY:ζ}(h:TW W1 b8 ep s c D bg jU L v ch pp wr)(hb:Below wr.heap.size wr gY):TW W1 b8 ep s c D bg jU L v ch pp gY:=
 ⟨h.below.trans (hb.mono h.below.size),h.r8.on hb,h.kx.on hb,dY h.own fun g hg _=>hb.block g hg,fun d d0 d1 e=>dY (h.Y4 d d0 d1 e) fun g hg _=>hb.block g hg,fun g hg=>⟨θ (h.My g hg).1 hb.size,(h.My g hg).2⟩⟩
theorem TW.next {W1:ζ}{b8 ep:Nat}{s c D D':Int}{bg:Int→Int}{jU:Int→List Int}{L:List Int}{v ch:Value}{pp:Int}{wr gY:ζ}(h:TW W1 b8 ep s c D bg jU L v ch pp wr)(h8:b8≠ep)(hB:W1.heap.size≤ep)(hr:af gY ep (dC D') 236)(hx:aK (fun k=>k=ep) wr gY):TW W1 b8 ep s c D' bg jU L v ch pp gY:=
 ⟨h.below.trans (hx.below h.below.size (fun k hk=>by omega)),h.r8.aQ hx h8,hr,ss (by decide) h.own h.kx hx,fun d d0 d1 e=>ss (by decide) (h.Y4 d d0 d1 e) h.kx hx,fun g hg=>⟨θ (h.My g hg).1 hx.size,(h.My g hg).2⟩⟩
theorem TW.app {W1:ζ}{b8 ep:Nat}{s c D:Int}{bg:Int→Int}{jU:Int→List Int}{L:List Int}{v v' ch:Value}{pp x:Int}{wr gY:ζ}(h:TW W1 b8 ep s c D bg jU L v ch pp wr)(ho:gY.ownsRow W1.heap.size 3 1 v' (L.length+1) ((L.map (kE c)).map (Value.int Z)++[V Z (kE c x)]))(hb:Below W1.heap.size W1 gY)(hz:wr.heap.size≤gY.heap.size)
 (hk:∀g,g<wr.heap.size→v.ownBlock≠some g→gY.heap[g]?=wr.heap[g]?)(gE:v'.ownBlock=v.ownBlock∨∃g,v'.ownBlock=some g∧wr.heap.size≤g):TW W1 b8 ep s c D bg jU (L++[x]) v' ch pp gY:=by
 refine⟨hb,D5 (by decide) h.own h.r8 hk,D5 (by decide) h.own h.kx hk,by simpa using ho,fun d d0 d1 e=>T4 (h.Y4 d d0 d1 e) hk fun g hg=>(h.My g hg).2,fun g hg=>⟨θ (h.My g hg).1 hz,?_⟩⟩;have q:=h.My g hg;rcases gE with e|⟨g',e,uV⟩
 ·rw[e];exact q.2
 ·rw[e];intro r;cases r;omega
theorem TW.chg {W1:ζ}{b8 ep:Nat}{s c D:Int}{bg:Int→Int}{jU:Int→List Int}{L:List Int}{v ch ch':Value}{pp p':Int}{wr gY:ζ}(h:TW W1 b8 ep s c D bg jU L v ch pp wr)(hb:Below wr.heap.size wr gY)(l:List Int)(ho:gY.ownsRow wr.heap.size 3 1 ch' l.length (l.map (Value.int Z)))
 (hl:∀d,s≤d→d<84006→bg d=p'→jU d=l):TW W1 b8 ep s c D bg jU L v ch' p' gY:=by
 have h':=h.on hb;refine⟨h'.below,h'.r8,h'.kx,h'.own,fun d d0 d1 e=>by rw[hl d d0 d1 e];exact eV ho h.below.size,fun g hg=>?_⟩;have q:=ho.lt g hg;refine⟨q.2,fun r=>?_⟩;have:=(h.own.lt g r).2;have:=q.1;omega
theorem Wm (n:Int)(zs:List Int):(eE n false zs).length≤zs.length+1:=by have:=Po n zs false;simpa using this
theorem T5:(prog.info? 163).map (fun i=>(i.zero,i.size,i.bytes))=some (some (.agg #[V Z 0, V Z 0]),2,16):=by kernel_rfl
def QU (d:iT)(f t:Int)(w:ζ):Ending→ζ→Prop:=fun e w'=>
 (if nz f t=true then(if(cL d t).length≤3000 then ∃v,e= δ (.tuple #[v, V Z 0])∧w'.ownsRow w.heap.size 163 2 v (ir d f (cL d t)).length (eo (ir d f (cL d t)))else e= δ (.tuple #[ε none 0 0, V Z 5]))else e= δ (.tuple #[ε none 0 0, V Z 7]))∧Below w.heap.size w w'
def TmP (d:iT)(t:Int)(W:ζ):Ending→ζ→Prop:=fun e aA=>∃(v:Value) (A:List Int),e= δ v∧aA.ownsRow W.heap.size 3 1 v A.length (A.map (Value.int Z))∧Below W.heap.size W aA∧((cL d t).length≤3000→A=cL d t)∧(¬(cL d t).length≤3000→¬A.length≤3000)
theorem qF {w:ζ}{B:Nat}{e:ι}{v:Value}{n:Nat}{xs:List Value}(h:w.ownsRow B e 2 v n xs):∃a n c,v= ε a n c:=by
 rcases h.2 with⟨q,_⟩|⟨g,cap,cur,q,_⟩
 ·exact⟨_,_,_,q⟩
 ·exact⟨_,_,_,q⟩
theorem T6 {w:ζ}{B B':Nat}{e:ι}{v:Value}{n:Nat}{xs:List Value}(h:w.ownsRow B e 2 v n xs)(hB:B'≤B):w.ownsRow B' e 2 v n xs:=
 ⟨h.1,h.2.elim .inl fun⟨g,cap,cur,h1,h2,h3⟩=> .inr ⟨g,cap,cur,h1,ξ hB h2,h3⟩⟩
theorem QV {w w':ζ}{a:Option Addr}{n c:Nat}{zs:List Int}(h:cF w (ε a n c) zs)(hb:Below w.heap.size w w'){j:Nat}(hj:j<zs.length):∃g off,a=some ⟨g,off,none⟩∧w'.cell? ⟨g,off+j,none⟩=some (V Z (zs.getD j 0)):=by
 obtain⟨a',c',e,hf⟩:=dA (h.on hb);injection e with e1 e2 e3
 subst e1;exact hf j hj
theorem QW {B:Nat}{a w w':ζ}(h:Below B a w)(e1:w'.heap=w.heap)(e2:w'.os=w.os)(e3:w'.tape=w.tape)(e4:w'.output=w.output):Below B a w':=⟨e2.trans h.os,e3.trans h.tape,e4.trans h.output,by rw[e1];exact h.size,by rw[e1];exact h.block⟩
theorem NO {B:Nat}{a w w0 w':ζ}{row:Option Nat}(hg:w.grownBy w' row)(h:Below B a w0)(e1:w.heap=w0.heap)(e2:w.os=w0.os)(e3:w.tape=w0.tape)(e4:w.output=w0.output)(hB:B≤w0.heap.size)(hr:∀k,row=some k→B≤k):Below B a w':=
 (QW h e1 e2 e3 e4).grown hg (by rw[e1];exact hB) hr
theorem Wn {P:Program}{ops:Array Oper}{o:Oper}{a:Act}{K:Act→ζ→Prop}{Q:Exit→Act→ζ→Prop}{E:Prop}(W:ζ)(ix:o.guard=none)(s x:Operand)(t e:ι)(z:Value)(bytes:Nat)
 (ho:o.op= .call {callee:= .builtin .append,args:=#[s,x],argTypes:=#[t,t]})(hu:P.underlying t=some (.slice e))
 (kN:(P.info? e).map (fun i=>(i.zero,i.size,i.bytes))=some (some z,2,bytes))(hz:z.cells.size=2)(B:Nat)(v:Value)(n:Nat)(xs:List Value)(hs:a.eval s=v)
 (aw:W.ownsRow B e 2 v n xs)(p:Nat)(y1 y2:Value)(hx:a.eval x= ε (some ⟨p,0,none⟩) 1 1)(IF:W.cell? ⟨p,0,none⟩=some y1)(mS:W.cell? ⟨p,1,none⟩=some y2)(h1:y1.oneCell'=true)(h2:y2.oneCell'=true)
 (hn:n≤4194304)(gC:bytes≤64)(hB:B≤W.heap.size)
 (h:∀g cap w',w'.ownsRow B e 2 (ε (some ⟨g,0,none⟩) (n+1) cap) (n+1) (xs++[y1,y2])→W.grownBy w' v.ownBlock→K (a.put o.dst (ε (some ⟨g,0,none⟩) (n+1) cap)) w'):
 if Region.wanted o (yielded ops a.tmps)=true then Oper.wp P o a W K Q else E:=by
 obtain⟨i0,hi,fH,eP,fb⟩:=info_parts kN;refine step_append_lies W ix s x t ho B e i0 z 2 bytes hu hi fH eP fb hz (by decide) v n xs hs aw ⟨p,0,none⟩ 1 1 [y1,y2] hx rfl ?_ ?_ (by decide) ?_ ?_ hB _ rfl ?_
 ·intro j u hj
  match j,hj with
  |0,hj=>simp at hj;subst hj;exact IF
  |1,hj=>simp at hj;subst hj;exact mS
 ·intro u hu;simp at hu;rcases hu with rfl|rfl
  ·exact h1
  ·exact h2
 ·unfold maxLen;omega
 ·have:(n+1) * bytes≤4194305 * 64:=Nat.mul_le_mul (by omega) gC;omega
 ·intro g cap w' q1 q2 _ _;exact h g cap w' q1 q2
theorem adX (s:ByteArray)(d:iT)(f t:Int)(w:ζ)(l1:1≤d.ln)(l2:d.ln≤2678400)(jg:Hid (nz f t=true→∀x∈cL d t,-100000000000≤x∧x≤100000000000))
 (C:Hid (Calls prog 186 #[.string s] w fun e w'=>∃cs:List Value,e= δ (.tuple #[.agg cs.toArray, V Z 0])∧cs.length=26∧(∀x∈cs,x.oneCell'=true)∧cs[2]?=some (V Z d.ln)∧Below w.heap.size w w'∧
  Hid (nz f t=true→∀W,Below w'.heap.size w' W→Calls prog 188 #[.agg cs.toArray, V Z t, V Z 3000] W (TmP d t W)))):
 Calls prog 112 #[.string s, V Z f, V Z t] w (QU d f t w):=by
 have CA:=ad (fun W=>ri f W);have CB:=ad (fun W=>ri t W);have mI:nz f t=(cD f&&cD t&&decide (f<t)):=rfl;have HE:Hid (∀e w',QU d f t w e w'↔(if nz f t=true then(if(cL d t).length≤3000 then ∃v,e= δ (.tuple #[v, V Z 0])∧w'.ownsRow w.heap.size 163 2 v (ir d f (cL d t)).length (eo (ir d f (cL d t)))else e= δ (.tuple #[ε none 0 0, V Z 5]))else e= δ (.tuple #[ε none 0 0, V Z 7]))∧Below w.heap.size w w'):=ad fun _ _=>Iff.rfl;generalize QU d f t w=PO at *
 generalize nz f t=wb at *
 generalize cD f=a at *
 generalize cD t=b at *
 suffices H:Calls prog 112 #[.string s, V Z f, V Z t] w (fun e w'=>PO e w'∧True)from H.mono fun _ _ h=>h.1
 go_enter func112,ntmps112;go_upto_region 5 with(first
  |(go_at_call 186;refine(C.out).mono ?_;rintro e w1 ⟨cs,rfl,dP,hco,mS,ai,HT⟩)
  |(refine aW rfl (kj rfl _ _) ?_;intro w2 Cp fb az)
  |(refine aN rfl rfl rfl rfl Cp (dP.symm▸rfl) (by rw[dP];exact dB) hco ?_;intro w3 uT iW)
  |(go_at_call 182;refine(CA.out _).mono ?_;rintro e w4 ⟨rfl,rfl⟩))
 go_upto_region 6 with(go_at_call 182;refine(CB.out _).mono ?_;rintro e w5 ⟨rfl,rfl⟩);have eP:=ai.size;have Iu:=iW.size;have nr:Below w1.heap.size w1 w3:=az.trans (iW.below (by omega) (fun k hk=>by omega));have fA:Below w.heap.size w w3:=ai.trans (nr.mono eP);cases a with
 |false=>
  have e9:wb=false:=mI;subst e9;clear mI;go_wp2_with fail;go_ret2;exact⟨(HE.out _ _).2 ⟨rfl,fA⟩,trivial⟩
 |true=>
  cases b with
  |false=>
   have e9:wb=false:=mI;subst e9;clear mI;go_wp2_with fail;go_ret2;exact⟨(HE.out _ _).2 ⟨rfl,fA⟩,trivial⟩
  |true=>
   by_cases TJ:f<t
   case neg=>
    have e9:wb=false:=by rw[mI,decide_eq_false TJ];rfl
    have adF:t≤f:=by omega
    have ah6:decide (t≤f)=true:=decide_eq_true adF;subst e9;clear mI;go_wp2_with fail
    first|(go_ret2;exact⟨(HE.out _ _).2 ⟨rfl,fA⟩,trivial⟩)|exact(HE.out _ _).2 ⟨rfl,fA⟩
   case pos=>
    have e9:wb=true:=by rw[mI,decide_eq_true TJ];rfl
    have ah6:decide (t≤f)=false:=decide_eq_false (by omega);subst e9;clear mI;have CT:=ad (HT.out rfl w3 nr);replace jg:=ad (jg.out rfl);have hI:Hid ((prog.info? 245).map (·.size)=some cs.length):=ad (by rw[dP];exact dB);go_upto_region 9 with(first
     |(refine aR rfl rfl rfl uT underlying245 rfl hI.out ?_)
     |(go_at_call 188;refine(CT.out).mono ?_;rintro e w6 ⟨v6,A,rfl,Y5,dr,Ay,xA⟩))
    have QX:Below w.heap.size w w6:=fA.trans (dr.mono fA.size);have h6e:=uT.on dr;have H6:=ad Y5;obtain⟨av,nv,cv,rfl⟩:=dF Y5;have hnv:nv=A.length:=Y3 Y5;subst hnv;by_cases FA:(cL d t).length≤3000
    case neg=>
     have Fe:¬A.length≤3000:=xA FA;have T7:3000<A.length:=by omega
     clear Ay xA Fe;go_wp2_with fail;go_ret2;exact⟨(HE.out _ _).2 ⟨by rw[if_pos (by trivial),if_neg FA];rfl,QX⟩,trivial⟩
    case pos=>
     obtain rfl:=Ay FA;clear Ay xA;have cl:=h6e.cell mS;obtain⟨T,hT⟩:∃T,T=cL d t:=⟨_,rfl⟩;rw[←hT]at FA jg Y5 H6;rw[←hT];have HTT:=ad hT;clear hT;go_wp2_with fail;go_loopw [13,14] (fun v tt wr=>∃i:Nat,i≤T.length∧tt= V Z i∧Below w6.heap.size w6 wr∧wr.ownsRow w6.heap.size 163 2 v (ir d f (T.take i)).length (eo (ir d f (T.take i)))) (fun _ tt _=>T.length - (intOf tt).toNat)
     case atStart=>exact⟨0,Nat.zero_le _,rfl,Below.refl _ _,World.ownsRow_nil _ _ _ _⟩
     case round=>
      obtain⟨i,hi,rfl,dG,gA⟩:=hrel;have gD:=dG.size;have Wo:=QX.trans (dG.mono QX.size);have cr:=(h6e.on dG).cell mS;by_cases ay:i<T.length
      case neg=>
       have et:T.take i=T:=List.take_of_length_le (by omega);rw[et]at gA;have HOR:=ad gA;obtain⟨a9,n9,c9,rfl⟩:=qF gA;clear et gA;go_wp2_with fail;go_ret2;exact⟨(HE.out _ _).2 ⟨by rw[if_pos (by trivial),←HTT.out,if_pos FA];exact⟨_,rfl,T6 HOR.out QX.size⟩,Wo⟩,trivial⟩
      case pos=>
       obtain⟨g7,o7,LI,Mz⟩:=QV (kP H6.out (by omega)) dG ay;subst LI;have hbi:=jg.out (T.getD i 0) (by rw[List.getD_eq_getElem?_getD,List.getElem?_eq_getElem ay];exact List.getElem_mem ay);have cM:=Jf d f (T.take i) (T.getD i 0);rw[←getD_take ay]at cM;have zY:=DV d f (T.take i);have Og:(T.take i).length≤3000:=by rw[ν];omega
       obtain⟨L2,gS⟩:∃L2,L2=ir d f (T.take (i+1)):=⟨_,rfl⟩;rw[←gS]at cM;have xo:=ad gS;clear gS;generalize ir d f (T.take i)=L at *
       generalize T.getD i 0=b at *
       go_upto_region 15 with fail;go_big_quiet (fail);replace dG:=below_drewN dG nq;replace Wo:=below_drewN Wo nq;replace Mz:(wr.drewN nq).cell? ⟨g7,o7+i,none⟩=some (V Z b):=Mz;replace cr:(wr.drewN nq).cell? ⟨w1.heap.size,2,none⟩=some (V Z d.ln):=cr;replace gA:(wr.drewN nq).ownsRow w6.heap.size 163 2 u13 L.length (eo L):=gA;generalize wr.drewN nq=X at *
       have hzX:=dG.size;by_cases zQ:f<b+d.ln
       case neg=>
        rw[if_neg zQ,List.append_nil]at cM;subst cM;go_wp2_with fail;exact⟨⟨i+1,by omega,by go_num,dG,by rw[←xo.out];exact gA⟩,by simp[intOf];omega⟩
       case pos=>
        rw[if_pos zQ]at cM;have Hi:IntKind.i64.wrap (b+d.ln)=b+d.ln:=by rw[IntKind.wrap_i64];omega
        go_upto_region 16 with fail;go_region_law (refine Wn _ rfl (.tmp 59) (.tmp 72) 160 163 _ 16 rfl underlying160 T5 rfl w6.heap.size _ L.length (eo L) rfl (gA.alloc _) X.heap.size (V Z b) (V Z (b+d.ln)) rfl (by simp[go_sem]) (by simp[go_sem]) rfl rfl (by omega) (by decide) (by simp;omega) ?_;intro g9 c9 w9 Y6 hg9)
        all_goals
         have TL:(ir d f (T.take (i+1))).length=L.length+1∧eo (ir d f (T.take (i+1)))=eo L++[V Z b, V Z (b+d.ln)]:=by
          rw[←xo.out,cM];exact⟨by simp,Ft L _⟩
         have hB9:Below w6.heap.size w6 w9:=NO hg9 (dG.alloc hzX (.cells #[V Z b, V Z (b+d.ln)] 163)) rfl rfl rfl rfl (by simp;omega) (fun k hk=>(gA.lt k hk).1);have adZ:=ad TL;clear TL cM;go_wp2_with fail;exact⟨⟨i+1,by omega,by go_num,hB9,by rw[adZ.out.1,adZ.out.2];exact Y6⟩,by simp[intOf];omega⟩
end Go.Proofs.YthpndgcaoeokeaaGreatDoor
