import Derived.Test.YthpndgcaoeokeaaGreatDoorCo4
set_option maxRecDepth 100000
set_option maxHeartbeats 8000000
open Go.IntKind renaming i64→Z
open Go.Value renaming int→V,string→ε,bool→ι,string→ν
open Go.Ending renaming returned→δ
open Nat renaming le_refl→ζ,zero_le→ο
open Go.RowKit.Below renaming refl→η
open Go renaming Calls→θ,World→κ
open Bool renaming false_ne_true→μ,and_eq_false_iff→ξ
namespace Go.Proofs.YthpndgcaoeokeaaGreatDoor
open Tryz
theorem WO:ez (84:UInt8)=false:=nd (n:=84) rfl (by omega)
theorem aih:ez (68:UInt8)=false:=nd (n:=68) rfl (by omega)
theorem aaM {c:UInt8}{ds r b:List UInt8}{x:UInt8}(hd:∀y∈ds,ez y=true)(hc:ez c=false)(hx:x≠c):sp c (ds++x::r)≠some ([],b):=by
 intro h;have e:=(jq h).1;cases ds with
 |nil=>simp at e;exact hx e.1
 |cons y ds=>simp at e;have:=hd y List.mem_cons_self;rw[e.1,hc]at this;cases this
theorem PC (r:List UInt8)(sum:Int)(parts:Nat)(hp:0<parts):cK r [] 1 false sum parts=
 if r=[]then some sum else match sp 84 r with
  |some ([],b)=>if b=[]then none else(chain (U 1) b).map (sum+·)
  |_=>none:=by
 obtain⟨ds,rest,rfl,hd,hr⟩:=uw r;rw[wA ds rest [] 1 false sum parts hd,List.nil_append];have aT:(84:UInt8)∉ds:=jJ WO hd;rcases hr with rfl|⟨c,r,rfl,hc⟩
 ·rw[List.append_nil];unfold cK;by_cases e:ds=[]
  ·rw[if_neg (by simp[e];omega),if_pos e]
  ·rw[if_pos (.inr e),if_neg e,lA aT]
 ·rw[if_neg (by simp)]
  conv=>lhs;unfold cK
  rw[if_neg (by rw[hc];exact μ)];by_cases hT:c.toNat=84
  ·obtain rfl:c=84:=u8 hT;rw[if_pos hT,oU aT];by_cases e:ds=[]
   ·subst e;by_cases e2:r=[]
    ·rw[if_pos (.inr (.inr e2))];simp[e2]
    ·rw[if_neg (by simp[e2]),nB r.length r (ζ _) 1 (by omega) (by omega) _ _ (.inl e2)];simp[e2]
   ·rw[if_pos (.inr (.inl e))];cases ds with
    |nil=>exact absurd rfl e
    |cons y ds=>rfl
  ·rw[if_neg hT];have hn:=Lf 1 c (by omega);rw[if_pos (by
    by_cases q:cu 1 c=4
    ·exact .inr (.inl q)
    ·right;right;rw[decide_eq_true (by omega)];simp)]
   have hx:c≠84:=fun e=>hT (by rw[e];rfl);have:=fun b=>aaM (b:=b) (r:=r) hd WO hx;cases q:sp 84 (ds++c::r)with
   |none=>rfl
   |some y=>
    obtain⟨a,b⟩:=y;cases a with
    |nil=>exact absurd q (this b)
    |cons y a=>rfl
def rL (body:List UInt8):Option Int:=
 match ff 68 86400 ((sp 84 body).elim body Prod.fst),chain (U 1) ((sp 84 body).elim [] Prod.snd)with
 |some (v,[]),some n=>some (v+n)
 |_,_=>none
theorem WQ (o:Option Int):o.map (0+·)=o:=by cases o<;>simp
theorem aaN (body:List UInt8)(di:body≠[]):cK body [] 0 false 0 0=match sp 84 body with
 |some (_,[])=>none
 |_=>rL body:=by
 obtain⟨ds,rest,rfl,hd,hr⟩:=uw body;rw[wA ds rest [] 0 false 0 0 hd,List.nil_append];have aT:(84:UInt8)∉ds:=jJ WO hd;have aD:(68:UInt8)∉ds:=jJ aih hd;rcases hr with rfl|⟨c,r,rfl,hc⟩
 ·rw[List.append_nil]at *
  unfold cK;rw[if_pos (.inl rfl),lA aT];unfold rL;rw[lA aT];simp only[Option.elim_none,ff,lA aD,wz];cases ds with
  |nil=>exact absurd rfl di
  |cons y ds=>rfl
 ·conv=>lhs;unfold cK
  rw[if_neg (by rw[hc];exact μ)];by_cases hT:c.toNat=84
  ·obtain rfl:c=84:=u8 hT;rw[if_pos hT,oU aT];cases r with
   |nil=>rw[if_pos (.inr (.inr rfl))]
   |cons z r=>
    unfold rL;rw[oU aT];simp only[Option.elim_some,ff,lA aD];cases ds with
    |nil=>
     rw[if_neg (by simp),nB (z::r).length (z::r) (ζ _) 1 (by omega) (by omega) _ _ (.inl (by simp)),WQ];cases chain (U 1) (z::r)<;>simp
    |cons y ds=>rw[if_pos (.inr (.inl (by simp)))]
  ·rw[if_neg hT];have hx:c≠84:=fun e=>hT (by rw[e];rfl);by_cases hD:c.toNat=68
   ·obtain rfl:c=68:=u8 hD;have hj:cu 0 68=0:=by decide
    rw[hj];cases q:sp 84 r with
    |none=>
     have qr:(84:UInt8)∉r:=by
      intro m;have:∀l:List UInt8,(84:UInt8)∈l→sp 84 l≠none:=by
       intro l
       induction l with
       |nil=>intro h;cases h
       |cons x l ih=>
        intro h;unfold sp;by_cases e:x=84
        ·rw[if_pos e];simp
        ·rw[if_neg e];rcases List.mem_cons.1 h with h|h
         ·exact absurd h.symm e
         ·have:=ih h;cases w:sp 84 l with
          |none=>exact absurd w this
          |some y=>simp
      exact this r m q
     have qb:sp 84 (ds++68::r)=none:=lA (by simp[aT,qr]);unfold rL;rw[qb];simp only[Option.elim_none,ff,oU aD,wz];cases hn:cO ds
     ·rw[if_pos (.inl rfl)];simp
     ·rw[if_neg (by simp),PC r _ _ (by omega),q];cases r with
      |nil=>simp[oN]
      |cons y r=>simp
    |some y=>
     obtain⟨a,b⟩:=y;obtain⟨e,ha⟩:=jq q;have qb:sp 84 (ds++68::r)=some (ds++68::a,b):=by
      rw[e,show ds++(68:UInt8)::(a++84::b)=(ds++68::a)++84::b from by simp];exact oU (by simp[aT,ha])
     unfold rL;rw[qb];have Yl:r≠[]:=by rw[e];simp
     simp only[Option.elim_some,ff,oU aD];cases hn:cO ds
     ·rw[if_pos (.inl rfl)];cases b<;>simp
     ·rw[if_neg (by simp),PC r _ _ (by omega),if_neg Yl,q];cases a with
      |nil=>
       cases b with
       |nil=>simp
       |cons z b=>
        simp only[if_true];rw[if_neg (by simp)];cases chain (U 1) (z::b)<;>simp[oN]
      |cons y a=>
       cases b with
       |nil=>rfl
       |cons z b=>simp
   ·have hn:=Lf 0 c (by omega);have hj:cu 0 c≠0:=by
     intro e;unfold cu at e;rw[if_neg (by omega)]at e;split at e
     ·omega
     ·split at e
      ·omega
      ·split at e<;>omega
    rw[if_pos (by right;right;rw[decide_eq_true (by omega)];simp)];have hxD:c≠68:=fun e=>hD (by rw[e];rfl);have key:∀t:List UInt8,∀v,ff 68 86400 (ds++c::t)≠some (v,[]):=by
     intro t v h;unfold ff at h;cases q:sp 68 (ds++c::t)with
     |none=>rw[q]at h;simp at h
     |some y=>
      obtain⟨a,b⟩:=y;rw[q]at h;simp only at h;obtain⟨e,ha⟩:=jq q;have hca:c∈a:=by
       rcases List.append_eq_append_iff.1 e with⟨t,e1,e2⟩|⟨t,e1,e2⟩
       ·cases t with
        |nil=>simp at e2;exact absurd e2.1 hxD
        |cons y t=>simp at e2;rw[e1,←e2.1];simp
       ·cases t with
        |nil=>simp at e2;exact absurd e2.1.symm hxD
        |cons y t=>simp at e2;exfalso;apply aD;rw[e1,←e2.1];simp
      by_cases hn:cO a=true
      ·have:=yq hn c hca;rw[hc]at this;cases this
      ·rw[if_neg hn]at h;cases h
    have PD:∀(t:List UInt8) (o:Option Int),(match ff 68 86400 (ds++c::t),o with
     |some (v,[]),some n=>some (v+n)
     |_,_=>none)=none:=by
     intro t o;cases q:ff 68 86400 (ds++c::t)with
     |none=>rfl
     |some y=>
      obtain⟨v,b⟩:=y;cases b with
      |nil=>exact absurd q (key t v)
      |cons z b=>rfl
    unfold rL;cases q:sp 84 (ds++c::r)with
    |none=>simp only[Option.elim_none];exact(PD r _).symm
    |some y=>
     obtain⟨a,b⟩:=y;obtain⟨e,ha⟩:=jq q;obtain⟨t,ht⟩:∃t,a=ds++c::t:=by
      rcases List.append_eq_append_iff.1 e with⟨t,e1,e2⟩|⟨t,e1,e2⟩
      ·cases t with
       |nil=>simp at e2;exact absurd e2.1 hx
       |cons y t=>simp at e2;exact⟨t,by rw[e1,←e2.1]⟩
      ·cases t with
       |nil=>simp at e2;exact absurd e2.1.symm hx
       |cons y t=>simp at e2;exfalso;apply aT;rw[e1,←e2.1];simp
     subst ht;cases b with
     |nil=>rfl
     |cons z b=>simp only[Option.elim_some];exact(PD t _).symm
open Go.RowKit Go.Sort
def FM (mark:UInt8)(mJ:Int)(l:List UInt8):Ending:=match ff mark mJ l with
 |some (v,r)=> δ (.tuple #[V Z v, ε ⟨r.toArray⟩])
 |none=> .panicked (bN 1)
theorem qd (l:List UInt8)(mark:UInt8)(mJ:Int)(w:κ)(hl:l.length≤maxLen)(h0:0≤mJ)(h1:mJ≤86400):
 θ prog 73 #[ε ⟨l.toArray⟩, ε ⟨#[mark]⟩, V Z mJ] w fun E w'=>E=FM mark mJ l∧Below w.heap.size w w':=by
 have k:=yZ l mark w hl;unfold FM ff;unfold qO at k;cases q:sp mark l with
 |none=>
  rw[q]at k;have C:=ad k;clear k q;go_enter func73,ntmps73;go_wp2_with (go_at_call 72;refine(C.out).mono ?_;rintro e w1 ⟨rfl,hb⟩);go_ret2;exact⟨rfl,hb⟩
 |some y=>
  obtain⟨a,b⟩:=y;rw[q]at k;have ha:a.length≤maxLen:=by
   have e:=(jq q).1;have:a.length≤l.length:=by rw[e];simp
   omega
  have kn:=fun W=>wB a 1 W ha;have C:=ad k;simp only[];cases hn:cO a
  ·rw[if_neg μ];rw[su hn]at kn;have D:=ad kn;clear k q kn ha hn;go_enter func73,ntmps73;go_wp2_with (first
    |(go_at_call 72;refine(C.out).mono ?_;rintro e w1 ⟨rfl,hb⟩)
    |(go_at_call 127;refine(D.out _).mono ?_;rintro e w' ⟨rfl,rfl⟩))
   exact⟨rfl,rfl,hb⟩
  ·rw[if_pos rfl];rw[Ea hn]at kn;have hb:=BM a hn;have hm:bU a * mJ≤9999999 * 86400:=Int.mul_le_mul hb.2 h1 h0 (by omega);have Lz:0≤bU a * mJ:=Int.mul_nonneg hb.1 h0;have D:=ad kn;clear k q kn ha hn;go_enter func73,ntmps73;go_wp2_with (first
    |(go_at_call 72;refine(C.out).mono ?_;rintro e w1 ⟨rfl,hb⟩)
    |(go_at_call 127;refine(D.out _).mono ?_;rintro e w' ⟨rfl,rfl⟩))
   go_ret2;exact⟨rfl,‹Below _ _ _›⟩
theorem za {mark:UInt8}{mJ v:Int}{l r:List UInt8}(h0:0≤mJ)(h1:mJ≤86400)(h:ff mark mJ l=some (v,r)):0≤v∧v≤863999913600∧r.length≤l.length:=by
 unfold ff at h;cases q:sp mark l with
 |none=>rw[q]at h;cases h;exact⟨by omega,by omega,ζ _⟩
 |some y=>
  obtain⟨a,b⟩:=y;rw[q]at h;simp only at h;by_cases hn:cO a=true
  ·rw[if_pos hn]at h;cases h;have hb:=BM a hn;have hm:bU a * mJ≤9999999 * 86400:=Int.mul_le_mul hb.2 h1 h0 (by omega);have Lz:0≤bU a * mJ:=Int.mul_nonneg hb.1 h0;have e:=(jq q).1;refine⟨Lz,by omega,?_⟩;rw[e];simp;omega
  ·rw[if_neg hn]at h;cases h
def G1 (o:Option Int):Ending:=match o with
 |some n=> δ (V Z n)
 |none=> .panicked (bN 1)
def xQ (dl cl:List UInt8):Option Int:=match ff 68 86400 dl,chain (U 1) cl with
 |some (v,[]),some n=>some (v+n)
 |_,_=>none
theorem Eb (z:UInt8)(body dl cl:List UInt8)(div:Bool)(w:κ)(hdl:dl.length≤maxLen)(dP:cl.length≤maxLen)(hdc:(div=false∧cl=[])∨(div=true∧cl≠[]))
 (cp:∀W,θ prog 71 #[ε ⟨((80:UInt8)::z::body).toArray⟩, ε ⟨#[80]⟩] W fun E w'=>E= δ (.tuple #[ε ⟨(z::body).toArray⟩, .bool true])∧w'=W)
 (cc:∀W,θ prog 72 #[ε ⟨(z::body).toArray⟩, ε ⟨#[84]⟩] W fun E w'=>E= δ (.tuple #[ε ⟨dl.toArray⟩, ε ⟨cl.toArray⟩, .bool div])∧Below W.heap.size W w'):
 θ prog 41 #[ε ⟨((80:UInt8)::z::body).toArray⟩] w fun E w'=>E=G1 (xQ dl cl)∧Below w.heap.size w w':=by
 have CP:=ad cp;have CC:=ad cc;have C0:=ad fun W=>qd dl 68 86400 W hdl (by omega) (by omega);have C1:=ad fun W=>qd cl 72 3600 W dP (by omega) (by omega);have HL:Hid (xQ dl cl=match ff 68 86400 dl,chain [(72,3600),(77,60),(83,1)] cl with
  |some (v,[]),some n=>some (v+n)
  |_,_=>none):=ad rfl
 unfold FM at C0 C1;clear cp cc;rcases hdc with⟨rfl,rfl⟩|⟨rfl,hc⟩
 case' inr=>
  obtain⟨x1,x2,rfl⟩:=List.exists_cons_of_ne_nil hc;clear hc
 all_goals
  go_enter func41,ntmps41;go_wp2_with (first
   |(go_at_call 71;refine(CP.out _).mono ?_;rintro e u ⟨rfl,rfl⟩)
   |(go_at_call 72;refine(CC.out _).mono ?_;rintro e uc ⟨rfl,UB⟩)
   |(go_at_call_of 65 (ι true);refine(aF _ _).mono ?_;rintro e w' ⟨rfl,rfl⟩))
  refine(C0.out _).mono ?_;rintro e u0 ⟨rfl,bz⟩;have h0:=UB.trans (bz.mono UB.size);cases q0:ff 68 86400 dl with
  |none=>exact⟨rfl,by rw[HL.out,q0];rfl,h0⟩
  |some y0=>
   obtain⟨v0,d1⟩:=y0;have b0:=za (by omega) (by omega) q0;clear CP CC C0 UB bz;go_wp2_with fail;refine(C1.out _).mono ?_;rintro e u1 ⟨rfl,ai⟩;have h1:=h0.trans (ai.mono h0.size);cases q1:ff 72 3600 _ with
   |none=>exact⟨rfl,by rw[HL.out,q0,chain,q1];cases d1<;>rfl,h1⟩
   |some y1=>
    obtain⟨v1,k1⟩:=y1;have b1:=za (by omega) (by omega) q1;have C2:=ad fun W=>qd k1 77 60 W (by omega) (by omega) (by omega);unfold FM at C2;clear C1 h0 ai;go_wp2_with fail;refine(C2.out _).mono ?_;rintro e u2 ⟨rfl,az⟩;have h2:=h1.trans (az.mono h1.size);cases q2:ff 77 60 k1 with
    |none=>exact⟨rfl,by rw[HL.out,q0,chain,q1];simp only[chain,q2];cases d1<;>rfl,h2⟩
    |some y2=>
     obtain⟨v2,k2⟩:=y2;have b2:=za (by omega) (by omega) q2;have C3:=ad fun W=>qd k2 83 1 W (by omega) (by omega) (by omega);unfold FM at C3;clear C2 h1 az;go_wp2_with fail;refine(C3.out _).mono ?_;rintro e u3 ⟨rfl,bw⟩;have h3:=h2.trans (bw.mono h2.size);cases q3:ff 83 1 k2 with
     |none=>exact⟨rfl,by rw[HL.out,q0,chain,q1];simp only[chain,q2,q3];cases d1<;>rfl,h3⟩
     |some y3=>
      obtain⟨v3,k3⟩:=y3;have b3:=za (by omega) (by omega) q3;clear C3 h2 bw;cases d1 with
      |cons a b=>
       have HQ:Hid (xQ dl _=none):=ad (by rw[HL.out,q0]);clear HL q0 q1 q2 q3;go_wp2_with (go_at_call_of 65 (ι false);refine(aM _ _).mono ?_;rintro e w' ⟨rfl,rfl⟩);exact⟨rfl,by rw[HQ.out];rfl,h3⟩
      |nil=>
       cases k3 with
       |cons a b=>
        have HQ:Hid (xQ dl _=none):=ad (by rw[HL.out,q0,chain,q1];simp only[chain,q2,q3];rfl);clear HL q0 q1 q2 q3;go_wp2_with (go_at_call_of 65 (ι false);refine(aM _ _).mono ?_;rintro e w' ⟨rfl,rfl⟩);exact⟨rfl,by rw[HQ.out];rfl,h3⟩
       |nil=>
        have HQ:Hid (xQ dl _=some (v0+v1+v2+v3)):=ad (by rw[HL.out,q0,chain,q1];simp only[chain,q2,q3];exact congrArg some (show v0+(v1+(v2+(v3+0)))=_ by omega));clear HL q0 q1 q2 q3;go_wp2_with (go_at_call_of 65 (ι true);refine(aF _ _).mono ?_;rintro e w' ⟨rfl,rfl⟩);go_ret;exact⟨by rw[HQ.out];rfl,h3⟩
theorem WR (z:UInt8)(body:List UInt8):fN (80::z::body)=match sp 84 (z::body)with
 |some (_,[])=>none
 |_=>rL (z::body):=by
 show(if(80:UInt8).toNat=80 then cK (z::body) [] 0 false 0 0 else none)=_;rw[if_pos (show(80:UInt8).toNat=80 from rfl)];exact aaN (z::body) (by simp)
theorem Rc (z:UInt8)(body:List UInt8)(W:κ):
 θ prog 71 #[ε ⟨((80:UInt8)::z::body).toArray⟩, ε ⟨#[80]⟩] W fun E w'=>E= δ (.tuple #[ε ⟨(z::body).toArray⟩, .bool true])∧w'=W:=by
 have:=Tryz.strings_CutPrefix ⟨((80:UInt8)::z::body).toArray⟩ ⟨#[80]⟩ W;have h1:Lib.hasPrefix ((80:UInt8)::z::body) [80]=true:=by simp[Lib.hasPrefix]
 have h2:Lib.trimPrefix ((80:UInt8)::z::body) [80]=z::body:=by unfold Lib.trimPrefix;rw[h1];rfl
 rw[show(⟨((80:UInt8)::z::body).toArray⟩:ByteArray).data.toList=80::z::body from rfl,show(⟨#[80]⟩:ByteArray).data.toList=[80]from rfl,h1,h2]at this;exact this
theorem MX (z:UInt8)(body dl:List UInt8)(w:κ)
 (cp:∀W,θ prog 71 #[ε ⟨((80:UInt8)::z::body).toArray⟩, ε ⟨#[80]⟩] W fun E w'=>E= δ (.tuple #[ε ⟨(z::body).toArray⟩, .bool true])∧w'=W)
 (cc:∀W,θ prog 72 #[ε ⟨(z::body).toArray⟩, ε ⟨#[84]⟩] W fun E w'=>E= δ (.tuple #[ε ⟨dl.toArray⟩, ε ⟨([]:List UInt8).toArray⟩, .bool true])∧Below W.heap.size W w'):
 θ prog 41 #[ε ⟨((80:UInt8)::z::body).toArray⟩] w fun E w'=>E= .panicked (bN 1)∧Below w.heap.size w w':=by
 have CP:=ad cp;have CC:=ad cc;clear cp cc;go_enter func41,ntmps41;go_wp2_with (first
  |(go_at_call 71;refine(CP.out _).mono ?_;rintro e u ⟨rfl,rfl⟩)
  |(go_at_call 72;refine(CC.out _).mono ?_;rintro e uc ⟨rfl,UB⟩)
  |(go_at_call_of 65 (ι true);refine(aF _ _).mono ?_;rintro e w' ⟨rfl,rfl⟩)
  |(go_at_call_of 65 (ι false);refine(aM _ _).mono ?_;rintro e w' ⟨rfl,rfl⟩))
 exact⟨rfl,rfl,UB⟩
theorem oV (l:List UInt8)(b:List UInt8)(f:Bool)(w:κ)(h:f=false∨b=[])
 (cp:∀W,θ prog 71 #[ε ⟨l.toArray⟩, ε ⟨#[80]⟩] W fun E w'=>E= δ (.tuple #[ε ⟨b.toArray⟩, .bool f])∧w'=W):
 θ prog 41 #[ε ⟨l.toArray⟩] w fun E w'=>E= .panicked (bN 1)∧Below w.heap.size w w':=by
 have CP:=ad cp;clear cp;cases f
 ·clear h;go_enter func41,ntmps41;go_wp2_with (first
   |(go_at_call 71;refine(CP.out _).mono ?_;rintro e u ⟨rfl,rfl⟩)
   |(go_at_call_of 65 (ι false);refine(aM _ _).mono ?_;rintro e w' ⟨rfl,rfl⟩))
  exact⟨rfl,rfl,η _ _⟩
 ·obtain rfl:b=[]:=by rcases h with h|h;cases h;exact h
  go_enter func41,ntmps41;go_wp2_with (first
   |(go_at_call 71;refine(CP.out _).mono ?_;rintro e u ⟨rfl,rfl⟩)
   |(go_at_call_of 65 (ι false);refine(aM _ _).mono ?_;rintro e w' ⟨rfl,rfl⟩))
  exact⟨rfl,rfl,η _ _⟩
theorem FN (z:UInt8)(body:List UInt8)(w:κ)(hl:(80::z::body).length≤maxLen):
 θ prog 41 #[ε ⟨((80:UInt8)::z::body).toArray⟩] w fun E w'=>E=G1 (fN (80::z::body))∧Below w.heap.size w w':=by
 have mN:(z::body).length≤maxLen:=by simp at hl⊢;omega
 have cp:=Rc z body;have cc:=fun W=>yZ (z::body) 84 W mN;rw[WR];have Re:=fun dl cl div h1 h2 h3=>Eb z body dl cl div w h1 h2 h3 cp;unfold xQ at Re;cases q:sp 84 (z::body)with
 |none=>
  unfold rL;rw[q];unfold qO at cc;rw[q]at cc;exact Re (z::body) [] false mN (by simp) (.inl ⟨rfl,rfl⟩) cc
 |some y=>
  obtain⟨a,b⟩:=y;have e:=(jq q).1;have h1:a.length≤maxLen:=by
   have:a.length≤(z::body).length:=by rw[e];simp
   omega
  have h2:b.length≤maxLen:=by
   have:b.length≤(z::body).length:=by rw[e];simp;omega
   omega
  unfold qO at cc;rw[q]at cc;cases b with
  |nil=>exact MX z body a w cp cc
  |cons x b=>
   unfold rL;rw[q];exact Re a (x::b) true h1 h2 (.inr ⟨rfl,by simp⟩) cc
theorem G2 (l:List UInt8)(w:κ)(hl:l.length≤maxLen):
 θ prog 41 #[ε ⟨l.toArray⟩] w fun E w'=>E=G1 (fN l)∧Below w.heap.size w w':=by
 have cp:=fun W=>Tryz.strings_CutPrefix ⟨l.toArray⟩ ⟨#[80]⟩ W;cases l with
 |nil=>exact oV [] _ _ w (.inl (by rfl)) cp
 |cons c r=>
  by_cases hc:c=80
  ·subst hc;cases r with
   |nil=>
    have e:fN [80]=none:=by decide
    rw[e];exact oV [80] _ _ w (.inr (by rfl)) cp
   |cons z body=>exact FN z body w hl
  ·have e:fN (c::r)=none:=by
    show(if c.toNat=80 then _ else none)=none;rw[if_neg (fun q=>hc (u8 q))]
   rw[e];refine oV (c::r) _ _ w (.inl ?_) cp;show Lib.hasPrefix (c::r) [80]=false;show(((80:UInt8)==c)&&[].isPrefixOf r)=false;rw[beq_eq_false_iff_ne.2 (Ne.symm hc)];rfl
theorem Dk (l:List UInt8)(p:Addr)(W:κ)(hl:l.length≤maxLen)(hc:W.cell? p=some (ε ⟨l.toArray⟩)):
 θ prog 40 #[.pointer (some p)] W fun E w'=>E=G1 (fN l)∧Below W.heap.size W w':=by
 have k:=G2 l W hl;cases q:fN l with
 |none=>
  rw[q]at k;simp only[G1]at k⊢;have C:=ad k;clear k q hl;go_enter func40,ntmps40;go_wp2_with (go_at_call 41;refine(C.out).mono ?_;rintro e w1 ⟨rfl,hb⟩);exact⟨rfl,rfl,hb⟩
 |some n=>
  rw[q]at k;simp only[G1]at k⊢;have C:=ad k;clear k q hl;go_enter func40,ntmps40;go_wp2_with (go_at_call 41;refine(C.out).mono ?_;rintro e w1 ⟨rfl,hb⟩);go_ret;exact⟨rfl,hb⟩
theorem xY (s:ByteArray)(w:κ)(hs:s.size≤maxLen):
 θ prog 20 #[ε s] w fun E w'=>E= δ (zT (fN s.data.toList))∧Below w.heap.size w w':=by
 have Cf:∀(fn:Fn) (first cap:Array Value) (w:κ),(Instr.makeFunc fn first cap).run prog w= .ok (.func fn first cap) w:=fun _ _ _ _=>rfl;have dP:∀W,Below (w.alloc (.cells #[ε s] 9)).heap.size (w.alloc (.cells #[ε s] 9)) W→W.cell? ⟨w.heap.size,0,none⟩=some (ε ⟨s.data.toList.toArray⟩):=fun W hb=>by
  rw[hb.cell (p:=⟨w.heap.size,0,none⟩) (by simp)];simp[go_sem]
 have hl:s.data.toList.length≤maxLen:=by rw[Array.length_toList];exact hs
 cases q:fN s.data.toList with
 |none=>
  have C:=ad (FH ⟨w.heap.size,0,none⟩ 1 (w.alloc (.cells #[ε s] 9)) (fun W hb=>by
   have:=Dk s.data.toList ⟨w.heap.size,0,none⟩ W hl (dP W hb);rw[q]at this;exact this))
  clear dP hl q hs;go_enter func20,ntmps20;go_wp2_with (go_at_call 37;refine(C.out).mono ?_;rintro e w1 ⟨rfl,hb⟩);go_ret2;exact⟨rfl,((η _ _).alloc (ζ _) _).trans (hb.mono (by simp))⟩
 |some n=>
  have C:=ad (D9 ⟨w.heap.size,0,none⟩ n (w.alloc (.cells #[ε s] 9)) (fun W hb=>by
   have:=Dk s.data.toList ⟨w.heap.size,0,none⟩ W hl (dP W hb);rw[q]at this;exact this))
  clear dP hl q hs;go_enter func20,ntmps20;go_wp2_with (go_at_call 37;refine(C.out).mono ?_;rintro e w1 ⟨rfl,hb⟩);go_ret2;exact⟨rfl,((η _ _).alloc (ζ _) _).trans (hb.mono (by simp))⟩
theorem so (e:Int)(w:κ):θ prog 108 #[V Z e] w fun E w'=>E= δ (V Z e)∧w=w':=by
 go_enter func108,ntmps108;go_wp2;go_ret;exact⟨rfl,rfl⟩
theorem NU (s:ByteArray):∃n e:Int,lM s= .tuple #[V Z n, V Z e]:=by
 by_cases h:la s
 ·exact⟨_,_,ju h⟩
 ·exact⟨_,_,iC h⟩
theorem NV (n:Int):∃(t:ByteArray) (e:Int),gQ n= .tuple #[ε t, V Z e]:=by
 unfold gQ;cases cD n
 ·exact⟨_,_,rfl⟩
 ·exact⟨_,_,rfl⟩
theorem UC (o:Option Int):∃n e:Int,zT o= .tuple #[V Z n, V Z e]:=by
 cases o with
 |none=>exact⟨_,_,rfl⟩
 |some n=>exact⟨_,_,rfl⟩
theorem NW (a n m:Int)(S T:ByteArray)(sa:Option Addr)(sl sc:Nat)(w:κ)(hS:S.size≤maxLen)(ht:iU w):
 θ prog 57 #[.agg #[V Z 1, V Z a, V Z n, V Z m, ε S, ε T, .slice sa sl sc]] w fun E w'=>E= δ (.bool true)∧Below w.heap.size w w':=by
 have c1:=fun W=>wy S W;have c2:=fun W=>lN S W hS;obtain⟨p,e,hv⟩:=NU S;rw[hv]at c1 c2;have C1:=ad c1;have C2:=ad c2;have HT:=ad ht;clear c1 c2 hv hS ht;go_enter func57,ntmps57;go_wp2_with (first
  |(go_at_call 19;refine(C1.out _).mono ?_;rintro e w1 ⟨rfl,ai⟩;obtain⟨hc,hf⟩:=lI ai)
  |(go_at_call 107;refine(C2.out _).mono ?_;rintro e w' ⟨rfl,rfl⟩)
  |(go_at_call 108;refine(so _ _).mono ?_;rintro e w' ⟨rfl,rfl⟩))
 go_ret;have hb:=((η w.heap.size w).alloc (ζ _) _).trans (ai.mono (by simp));exact⟨rfl,hb⟩
theorem NX (a n m:Int)(S T:ByteArray)(sa:Option Addr)(sl sc:Nat)(w:κ)(ht:iU w):
 θ prog 57 #[.agg #[V Z 2, V Z a, V Z n, V Z m, ε S, ε T, .slice sa sl sc]] w fun E w'=>E= δ (.bool true)∧Below w.heap.size w w':=by
 have c1:=fun W (h:iU W)=>vg n W h;have c2:=fun W=>sx n W;obtain⟨p,e,hv⟩:=NV n;rw[hv]at c1 c2;have C1:=ad c1;have C2:=ad c2;have HT:=ad ht;clear c1 c2 hv ht;go_enter func57,ntmps57;go_wp2_with (first
  |(go_at_call 18;refine(C1.out _ (HT.out.on ((η _ _).alloc (ζ _) _))).mono ?_;rintro e w1 ⟨rfl,ai⟩;obtain⟨hc,hf⟩:=lI ai)
  |(go_at_call 109;refine(C2.out _).mono ?_;rintro e w2 ⟨rfl,az⟩)
  |(go_at_call 108;refine(so _ _).mono ?_;rintro e w' ⟨rfl,rfl⟩))
 go_ret;have hb:=((η w.heap.size w).alloc (ζ _) _).trans (ai.mono (by simp));exact⟨rfl,hb.trans (az.mono hb.size)⟩
theorem MY (a n m:Int)(S T:ByteArray)(sa:Option Addr)(sl sc:Nat)(w:κ)(hS:S.size≤maxLen)(ht:iU w):
 θ prog 57 #[.agg #[V Z 3, V Z a, V Z n, V Z m, ε S, ε T, .slice sa sl sc]] w fun E w'=>E= δ (.bool true)∧Below w.heap.size w w':=by
 have c1:=fun W=>xY S W hS;have c2:=fun W=>zx S W hS;obtain⟨p,e,hv⟩:=UC (fN S.data.toList);rw[hv]at c1 c2;have C1:=ad c1;have C2:=ad c2;have HT:=ad ht;clear c1 c2 hv hS ht;go_enter func57,ntmps57;go_wp2_with (first
  |(go_at_call 20;refine(C1.out _).mono ?_;rintro e w1 ⟨rfl,ai⟩;obtain⟨hc,hf⟩:=lI ai)
  |(go_at_call 110;refine(C2.out _).mono ?_;rintro e w2 ⟨rfl,az⟩)
  |(go_at_call 108;refine(so _ _).mono ?_;rintro e w' ⟨rfl,rfl⟩))
 go_ret;have hb:=((η w.heap.size w).alloc (ζ _) _).trans (ai.mono (by simp));exact⟨rfl,hb.trans (az.mono hb.size)⟩
theorem Sz (k a n m:Int)(S T:ByteArray)(sa:Option Addr)(sl sc:Nat)(w:κ)(hS:S.size≤maxLen)(ht:iU w)(h1:1≤k)(h3:k≤3):
 θ prog 57 #[.agg #[V Z k, V Z a, V Z n, V Z m, ε S, ε T, .slice sa sl sc]] w fun E w'=>E= δ (.bool true)∧Below w.heap.size w w':=by
 have:k=1∨k=2∨k=3:=by omega
 rcases this with rfl|rfl|rfl
 ·exact NW a n m S T sa sl sc w hS ht
 ·exact NX a n m S T sa sl sc w ht
 ·exact MY a n m S T sa sl sc w hS ht
theorem Q5:lM ⟨#[50,48,50,52,48,50,50,57,84,48,48,48,48,48,48,90]⟩= .tuple #[V Z 1709164800, V Z 0]:=by
 have h:la ⟨#[50,48,50,52,48,50,50,57,84,48,48,48,48,48,48,90]⟩:=by
  unfold la ae.Valid;decide+kernel
 rw[ju h];have:eI ⟨#[50,48,50,52,48,50,50,57,84,48,48,48,48,48,48,90]⟩=1709164800:=by decide+kernel
 rw[this]
theorem NQ:zT (fN (⟨#[80,49,68,84,49,72]⟩:ByteArray).data.toList)= .tuple #[V Z 90000, V Z 0]:=by
 have:fN [80,49,68,84,49,72]=some 90000:=by decide+kernel
 show zT (fN [80,49,68,84,49,72])=_;rw[this];rfl
theorem Q6:gQ 1= .tuple #[ε ⟨#[49,57,55,48,48,49,48,49,84,48,48,48,48,48,49,90]⟩, V Z 0]:=by
 have:lf 1=[49,57,55,48,48,49,48,49,84,48,48,48,48,48,49,90]:=by decide+kernel
 unfold gQ;rw[this];rfl
theorem eK:(prog.info? 9).map (fun i=>(i.zero,i.size,i.bytes))=some (some (ε ⟨#[]⟩),1,16):=by kernel_rfl
theorem eu:(prog.info? 3).map (fun i=>(i.zero,i.size,i.bytes))=some (some (V Z 0),1,8):=by kernel_rfl
def jl (s:ByteArray)(c:Int):Nat→Nat×List ByteArray
 |0=>(0,[])
 |k+1=>if fQ s k=c then(k+1,(jl s c k).2++[s.extract (jl s c k).1 k])else jl s c k
def cI (s:ByteArray)(c:Int):List ByteArray:=(jl s c s.size).2++[s.extract (jl s c s.size).1 s.size]
theorem xR {s:ByteArray}{c:Int}{k:Nat}(h:fQ s k=c):jl s c (k+1)=(k+1,(jl s c k).2++[s.extract (jl s c k).1 k]):=by rw[jl,if_pos h]
theorem uy {s:ByteArray}{c:Int}{k:Nat}(h:¬fQ s k=c):jl s c (k+1)=jl s c k:=by rw[jl,if_neg h]
theorem MZ (s:ByteArray)(c:Int)(k:Nat):(jl s c k).1≤k∧(jl s c k).2.length≤k:=by
 induction k with
 |zero=>simp[jl]
 |succ k ih=>
  by_cases h:fQ s k=c
  ·rw[xR h];simp;omega
  ·rw[uy h];omega
theorem oT {B:Nat}{e:TypeId}{w wr w1:κ}{v v':Value}{n:Nat}{xs:List Value}{x:Value}{o:Obj}(hB:B≤wr.heap.size)
 (aw:wr.ownsRow B e 1 v n xs)(hb:Below B w wr)(dj:w1.ownsRow B e 1 v' (n+1) (xs++[x]))(eJ:(wr.alloc o).grownBy w1 v.ownBlock):
 w1.ownsRow B e 1 v' (n+1) (xs++[x])∧Below B w w1:=
 ⟨dj,(hb.alloc hB o).grown eJ (by simp;omega) (fun j hj=>(aw.lt j hj).1)⟩
theorem uN (s:ByteArray)(c:Int)(w:κ)(hs:s.size≤1048576):
 θ prog 292 #[ε s, .int .u8 c] w fun e w'=>∃v,e= δ v∧w'.ownsRow w.heap.size 9 1 v (cI s c).length ((cI s c).map ν)∧Below w.heap.size w w':=by
 obtain⟨i0,hi,fH,eP,fb⟩:=info_parts eK;go_enter func292,ntmps292;go_wp2;go_loopw [5,6,7] (fun v f i wr=>∃k:Nat,k≤s.size∧i= V Z k∧f= V Z (jl s c k).1∧wr.ownsRow w.heap.size 9 1 v (jl s c k).2.length ((jl s c k).2.map ν)∧Below w.heap.size w wr)
  (fun _ _ i _=>s.size - (intOf i).toNat)
 case atStart=>exact⟨0,ο _,rfl,rfl,World.ownsRow_nil _ _ _ _,η _ _⟩
 case round=>
  obtain⟨k,hk,rfl,rfl,aw,aX⟩:=hrel;have hle:=MZ s c k;have bu:=aX.size;by_cases ay:k<s.size
  case neg=>
   have fB:k=s.size:=by omega
   subst fB;go_wp2_with (at_builtin;refine wpList_append_own _ rfl _ _ 52 rfl w.heap.size 9 i0 (ε ⟨#[]⟩) 1 16 underlying52 hi fH eP fb rfl (by decide) _ _ _ rfl (aw.alloc _) ⟨wr.heap.size,0,none⟩ 1 1 [ε (s.extract (jl s c s.size).1 s.size)] rfl rfl ?c1 ?c2 ?c3 ?c4 ?c5 ?_)
   case c1=>
    intro j u hj
    match j,hj with
    |0,hj=>simp at hj;subst hj;simp[Addr.add]
   case c2=>intro u hu;simp at hu;subst hu;rfl
   case c3=>unfold maxLen;omega
   case c4=>omega
   case c5=>simp;omega
   ·intro v' w1 dj eJ _;have R:=oT bu aw aX dj eJ;clear dj eJ aw;go_wp2;go_ret;exact⟨_,rfl,by simpa[cI]using R.1,R.2⟩
  case pos=>
   by_cases hc:fQ s k=c
   case pos=>
    have N8:(((s[k]'ay).toNat:Int)==c)=true:=by rw[bb s k ay];simpa using hc
    go_wp2_with (at_builtin;refine wpList_append_own _ rfl _ _ 52 rfl w.heap.size 9 i0 (ε ⟨#[]⟩) 1 16 underlying52 hi fH eP fb rfl (by decide) _ _ _ rfl (aw.alloc _) ⟨wr.heap.size,0,none⟩ 1 1 [ε (s.extract (jl s c k).1 k)] rfl rfl ?c1 ?c2 ?c3 ?c4 ?c5 ?_)
    case c1=>
     intro j u hj
     match j,hj with
     |0,hj=>simp at hj;subst hj;simp[Addr.add]
    case c2=>intro u hu;simp at hu;subst hu;rfl
    case c3=>unfold maxLen;omega
    case c4=>omega
    case c5=>simp;omega
    ·intro v' w1 dj eJ _;have R:=oT bu aw aX dj eJ;clear dj eJ aw;go_wp2;go_roundw
     case rel=>exact⟨k+1,by omega,by go_num,by rw[xR hc];go_num,by rw[xR hc];simpa using R.1,R.2⟩
     case measure=>simp[intOf];omega
   case neg=>
    have N8:(((s[k]'ay).toNat:Int)==c)=false:=by rw[bb s k ay];simpa using hc
    go_wp2;go_roundw
    case rel=>exact⟨k+1,by omega,by go_num,by rw[uy hc],by rw[uy hc];exact aw,aX⟩
    case measure=>simp[intOf];omega
def oW (c:UInt8):Bool:=(decide (97≤(c.toNat:Int))&&decide ((c.toNat:Int)≤122))||(decide (48≤(c.toNat:Int))&&decide ((c.toNat:Int)≤57))
def gJ (s:ByteArray):Bool:=s.data.toList.all oW&&decide (1≤s.size)&&decide (s.size≤12)
theorem Bq (s:ByteArray)(k:Nat)(h:k<s.size):s.data.toList.take (k+1)=s.data.toList.take k++[s[k]]:=by
 rw[List.take_succ_eq_append_getElem (by simpa using h)];rfl
theorem Ec (s:ByteArray):s.data.toList.take s.size=s.data.toList:=List.take_of_length_le (Nat.le_of_eq (show s.data.toList.length=s.size by simp))
theorem Jz (s:ByteArray)(k:Nat)(h:k<s.size):s[k]∈s.data.toList:=by
 have:s[k]=s.data[k]:=rfl;rw[this];exact Array.mem_def.1 (Array.getElem_mem _)
theorem VC (s:ByteArray)(w:κ)(hs:s.size≤maxLen):
 θ prog 189 #[ε s] w fun e w'=>e= δ (.bool (gJ s))∧w=w':=by
 unfold maxLen at hs;go_enter func189,ntmps189;go_wp2;go_loop [3] (fun i=>∃k:Nat,k≤s.size∧i= V Z k∧Hid ((s.data.toList.take k).all oW=true)) (fun i=>s.size - (intOf i).toNat)
 case atStart=>exact⟨0,ο _,rfl,ad (by simp)⟩
 case round=>
  obtain⟨k,hk,rfl,bT⟩:=hrel;by_cases ay:k<s.size
  case neg=>
   have fB:k=s.size:=by omega
   subst fB;have h1:=bT.out;rw[Ec]at h1;have e:gJ s=(decide (1≤s.size)&&decide (s.size≤12)):=by unfold gJ;rw[h1,Bool.true_and]
   have E:=ad e;clear h1 bT e;by_cases a:1≤s.size
   ·by_cases b:s.size≤12
    ·go_wp2;go_ret;exact⟨by rw[E.out];simp[a,b];omega,rfl⟩
    ·go_wp2;go_ret;exact⟨by rw[E.out];simp[a,b];omega,rfl⟩
   ·go_wp2;go_ret;exact⟨by rw[E.out];simp[a],rfl⟩
  case pos=>
   cases hn:oW s[k]
   case false=>
    have e:gJ s=false:=by
     unfold gJ;rw[ξ];left;rw[ξ];left;rw[List.all_eq_false];exact⟨s[k],Jz s k ay,by rw[hn];exact μ⟩
    have E:=ad e;clear bT e;unfold oW at hn;simp only[Bool.or_eq_false_iff,ξ,decide_eq_false_iff_not]at hn;obtain⟨h1,h2⟩:=hn;rcases h1 with h1|h1<;>rcases h2 with h2|h2<;>(go_wp2;all_goals go_ret;all_goals exact⟨by rw[E.out];rfl,rfl⟩)
   case true=>
    have H:Hid ((s.data.toList.take (k+1)).all oW=true):=ad (by rw[Bq s k ay,List.all_append,bT.out];simp[hn]);clear bT;unfold oW at hn;simp only[Bool.or_eq_true,Bool.and_eq_true,decide_eq_true_eq]at hn;rcases hn with⟨h1,h2⟩|⟨h1,h2⟩
    ·go_wp2
     all_goals exact⟨⟨k+1,by omega,by go_num,H⟩,by simp[intOf];omega⟩
    ·go_wp2
     all_goals exact⟨⟨k+1,by omega,by go_num,H⟩,by simp[intOf];omega⟩
def dv:List UInt8→List UInt8
 |[]=>[]
 |[a]=>[a]
 |[a,b]=>[a,b]
 |a::b::c::r=>if a=13∧b=10∧c=32 then dv r else a::dv (b::c::r)
theorem BW (s:ByteArray)(k:Nat)(h:k<s.size):s.data.toList.drop k=s[k]::s.data.toList.drop (k+1):=by
 rw[List.drop_eq_getElem_cons (by simpa using h)];rfl
theorem BX (s:ByteArray):s.data.toList.drop s.size=[]:=List.drop_of_length_le (Nat.le_of_eq (show s.data.toList.length=s.size by simp))
theorem kr {c:UInt8}{n:Nat}(hn:n<256):(c.toNat:Int)=(n:Int)↔c=UInt8.ofNat n:=by
 constructor
 ·intro h;apply UInt8.toNat_inj.1;rw[UInt8.toNat_ofNat',Nat.mod_eq_of_lt hn];omega
 ·rintro rfl;rw[UInt8.toNat_ofNat',Nat.mod_eq_of_lt hn]
def M0 (s:ByteArray)(k:Nat):Prop:=k+2<s.size∧fQ s k=13∧fQ s (k+1)=10∧fQ s (k+2)=32
theorem WS {s:ByteArray}{k:Nat}(h:M0 s k):dv (s.data.toList.drop k)=dv (s.data.toList.drop (k+3)):=by
 obtain⟨h0,h1,h2,h3⟩:=h;rw[←bb s _ (by omega)]at h1 h2 h3;rw[BW s k (by omega),BW s (k+1) (by omega),BW s (k+2) (by omega),(kr (n:=13) (by decide)).1 h1,(kr (n:=10) (by decide)).1 h2,(kr (n:=32) (by decide)).1 h3];rw[dv];exact if_pos ⟨rfl,rfl,rfl⟩
theorem WT {s:ByteArray}{k:Nat}(hk:k<s.size)(h:¬M0 s k):dv (s.data.toList.drop k)=s[k]::dv (s.data.toList.drop (k+1)):=by
 rw[BW s k hk];by_cases h1:k+1<s.size
 ·rw[BW s (k+1) h1];by_cases h2:k+2<s.size
  ·rw[BW s (k+2) h2,dv,if_neg];rintro⟨a,b,c⟩;refine h ⟨h2,?_,?_,?_⟩
   ·rw[←bb s _ (by omega)];exact(kr (n:=13) (by decide)).2 a
   ·rw[←bb s _ (by omega)];exact(kr (n:=10) (by decide)).2 b
   ·rw[←bb s _ (by omega)];exact(kr (n:=32) (by decide)).2 c
  ·have e:k+2=s.size:=by omega
   rw[e,BX];rfl
 ·have e:k+1=s.size:=by omega
  rw[e,BX];rfl
theorem add_one (l:List UInt8)(s:ByteArray)(k:Nat)(h:k<s.size):(⟨l.toArray⟩:ByteArray)++s.extract k (k+1)=⟨(l++[s[k]]).toArray⟩:=by
 have e:s.extract k (k+1)=⟨[s[k]].toArray⟩:=by
  apply ByteArray.ext;apply Array.toList_inj.1;have:=bP s k (k+1);rw[this,show k+1 - k=0+1 from by omega,px s k 0 (by omega)];simp[cut]
 rw[e];exact og l [s[k]]
theorem Lb (s:ByteArray)(w:κ)(hs:s.size≤1048576):
 θ prog 290 #[ε s] w fun e w'=>e= δ (ε ⟨(dv s.data.toList).toArray⟩)∧w=w':=by
 go_enter func290,ntmps290;go_wp2;go_loop [3,4] (fun o i=>∃(k:Nat) (l:List UInt8),k≤s.size∧i= V Z k∧o= ε ⟨l.toArray⟩∧l.length≤k∧Hid (l++dv (s.data.toList.drop k)=dv s.data.toList)) (fun _ i=>s.size - (intOf i).toNat)
 case atStart=>exact⟨0,[],ο _,rfl,rfl,by simp,ad (by simp)⟩
 case round=>
  obtain⟨k,l,hk,rfl,rfl,hl,HP⟩:=hrel;by_cases ay:k<s.size
  case neg=>
   have fB:k=s.size:=by omega
   subst fB;have HQ:Hid (l=dv s.data.toList):=ad (by have:=HP.out;rw[BX]at this;simpa[dv]using this);clear HP;go_wp2;go_ret;exact⟨nG (by rw[HQ.out]),rfl⟩
  case pos=>
   by_cases hf:M0 s k
   case pos=>
    have HN:Hid (l++dv (s.data.toList.drop (k+3))=dv s.data.toList):=ad (by rw[←WS hf];exact HP.out);obtain⟨f0,f1,f2,f3⟩:=hf;clear HP;have g1:(((s[k]'ay).toNat:Int)==13)=true:=by rw[bb s k ay,f1];rfl
    have g2:(((s[k+1]'(by omega)).toNat:Int)==10)=true:=by rw[bb s (k+1) (by omega),f2];rfl
    have g3:(((s[k+2]'(by omega)).toNat:Int)==32)=true:=by rw[bb s (k+2) (by omega),f3];rfl
    clear f1 f2 f3;go_wp2;exact⟨⟨k+3,l,by omega,by go_num,rfl,by omega,HN⟩,by simp[intOf];omega⟩
   case neg=>
    have HN:Hid ((l++[s[k]])++dv (s.data.toList.drop (k+1))=dv s.data.toList):=ad (by have:=HP.out;rw[WT ay hf]at this;simpa using this);clear HP;by_cases h0:k+2<s.size
    case neg=>
     clear hf;go_wp2;exact⟨⟨k+1,l++[s[k]],by omega,by go_num,qf (add_one l s k ay),by simp;omega,HN⟩,by simp[intOf];omega⟩
    case pos=>
    by_cases h1:fQ s k=13
    case neg=>
     have g1:(((s[k]'ay).toNat:Int)==13)=false:=by rw[bb s k ay];simpa using h1
     clear hf h1;go_wp2;exact⟨⟨k+1,l++[s[k]],by omega,by go_num,qf (add_one l s k ay),by simp;omega,HN⟩,by simp[intOf];omega⟩
    case pos=>
    have g1:(((s[k]'ay).toNat:Int)==13)=true:=by rw[bb s k ay,h1];rfl
    by_cases h2:fQ s (k+1)=10
    case neg=>
     have g2:(((s[k+1]'(by omega)).toNat:Int)==10)=false:=by rw[bb s (k+1) (by omega)];simpa using h2
     clear hf h1 h2;go_wp2;exact⟨⟨k+1,l++[s[k]],by omega,by go_num,qf (add_one l s k ay),by simp;omega,HN⟩,by simp[intOf];omega⟩
    case pos=>
    have g2:(((s[k+1]'(by omega)).toNat:Int)==10)=true:=by rw[bb s (k+1) (by omega),h2];rfl
    have h3:¬fQ s (k+2)=32:=fun h3=>hf ⟨h0,h1,h2,h3⟩;have g3:(((s[k+2]'h0).toNat:Int)==32)=false:=by rw[bb s (k+2) h0];simpa using h3
    clear hf h1 h2 h3;go_wp2;exact⟨⟨k+1,l++[s[k]],by omega,by go_num,qf (add_one l s k ay),by simp;omega,HN⟩,by simp[intOf];omega⟩
def strs (ls:List (List UInt8)):List Value:=ls.map fun l=>ν ⟨l.toArray⟩
theorem iF (ls:List (List UInt8)):(strs ls).length=ls.length:=List.length_map _
theorem uF (ls:List (List UInt8))(l:List UInt8):strs (ls++[l])=strs ls++[ν ⟨l.toArray⟩]:=by simp[strs]
def dS:List UInt8→List UInt8→List (List UInt8)×Bool
 |[],acc=>([],acc.isEmpty)
 |[_],_=>([],false)
 |a::b::r,acc=>if a=13∧b=10 then(acc::(dS r []).1,(dS r []).2)else dS (b::r) (acc++[a])
def M1 (s:ByteArray)(k:Nat):Prop:=fQ s k=13∧fQ s (k+1)=10
theorem aaO {s:ByteArray}{k:Nat}{acc:List UInt8}(hk:k+1<s.size)(h:M1 s k):
 dS (s.data.toList.drop k) acc=(acc::(dS (s.data.toList.drop (k+2)) []).1,(dS (s.data.toList.drop (k+2)) []).2):=by
 obtain⟨h1,h2⟩:=h;rw[←bb s _ (by omega)]at h1 h2;rw[drop_cons s k (by omega),drop_cons s (k+1) (by omega),(kr (n:=13) (by decide)).1 h1,(kr (n:=10) (by decide)).1 h2];rw[dS];exact if_pos ⟨rfl,rfl⟩
theorem WU {s:ByteArray}{k:Nat}{acc:List UInt8}(hk:k+1<s.size)(h:¬M1 s k):
 dS (s.data.toList.drop k) acc=dS (s.data.toList.drop (k+1)) (acc++[s[k]]):=by
 rw[drop_cons s k (by omega),drop_cons s (k+1) (by omega),dS,if_neg];rintro⟨a,b⟩;refine h ⟨?_,?_⟩
 ·rw[←bb s _ (by omega)];exact(kr (n:=13) (by decide)).2 a
 ·rw[←bb s _ (by omega)];exact(kr (n:=10) (by decide)).2 b
theorem aaP {s:ByteArray}{k f:Nat}(hk:¬k+1<s.size)(qT:k≤s.size)(hf:f≤k):
 dS (s.data.toList.drop k) (cut s f (k - f))=([],(f:Int)==s.size):=by
 by_cases h:k=s.size
 ·subst h;rw[BX,dS];by_cases OE:f=s.size
  ·subst OE;simp[cut]
  ·have:cut s f (s.size - f)≠[]:=fun e=>by
    have:=congrArg List.length e;rw[kF s f (s.size - f) (by omega)]at this;simp at this;omega
   have e1:((f:Int)==s.size)=false:=by simp;omega
   rw[e1];cases hc:cut s f (s.size - f)with
   |nil=>exact absurd hc this
   |cons a l=>rfl
 ·have e:k+1=s.size:=by omega
  rw[drop_cons s k (by omega),e,BX,dS];have e1:((f:Int)==s.size)=false:=by simp;omega
  rw[e1]
theorem PE (s:ByteArray)(a b:Nat):ν (s.extract a b)= ε ⟨(cut s a (b - a)).toArray⟩:=by
 apply qf;apply ByteArray.ext;apply Array.toList_inj.1;rw[bP]
theorem Si (s:ByteArray)(w:κ)(hs:s.size≤1048576):
 θ prog 289 #[ε s] w fun e w'=>∃v,e= δ (.tuple #[v, .bool (dS s.data.toList []).2])∧w'.ownsRow w.heap.size 9 1 v (dS s.data.toList []).1.length (strs (dS s.data.toList []).1)∧Below w.heap.size w w':=by
 obtain⟨i0,hi,fH,eP,fb⟩:=info_parts eK;go_enter func289,ntmps289;go_wp2;go_loopw [4,5,6] (fun v f i wr=>∃(k f':Nat) (ys:List (List UInt8)),f'≤k∧k≤s.size∧i= V Z k∧f= V Z f'∧ys.length≤k∧wr.ownsRow w.heap.size 9 1 v ys.length (strs ys)∧Below w.heap.size w wr∧
  Hid (dS s.data.toList []=(ys++(dS (s.data.toList.drop k) (cut s f' (k - f'))).1,(dS (s.data.toList.drop k) (cut s f' (k - f'))).2)))
  (fun _ _ i _=>s.size - (intOf i).toNat)
 case atStart=>exact⟨0,0,[],ζ _,ο _,rfl,rfl,by simp,World.ownsRow_nil _ _ _ _,η _ _,ad (by simp[cut])⟩
 case round=>
  obtain⟨k,f,ys,OE,hk,rfl,rfl,oK,aw,aX,HP⟩:=hrel;have bu:=aX.size;by_cases ay:k+1<s.size
  case neg=>
   have HE:Hid (dS s.data.toList []=(ys,(f:Int)==s.size)):=ad (by rw[HP.out,aaP ay hk OE];simp);clear HP;go_wp2;go_ret2;exact⟨u4,by rw[HE.out];rfl,by rw[HE.out];exact aw,aX⟩
  case pos=>
   by_cases hc:M1 s k
   case pos=>
    have HN:Hid (dS s.data.toList []=((ys++[cut s f (k - f)])++(dS (s.data.toList.drop (k+2)) (cut s (k+2) (k+2 - (k+2)))).1,(dS (s.data.toList.drop (k+2)) (cut s (k+2) (k+2 - (k+2)))).2)):=
     ad (by rw[HP.out,aaO ay hc];simp[cut])
    obtain⟨h1,h2⟩:=hc;have g1:(((s[k]'(by omega)).toNat:Int)==13)=true:=by rw[bb s k (by omega),h1];rfl
    have g2:(((s[k+1]'ay).toNat:Int)==10)=true:=by rw[bb s (k+1) ay,h2];rfl
    clear HP h1 h2;go_wp2_with (at_builtin;refine wpList_append_own _ rfl _ _ 52 rfl w.heap.size 9 i0 (ε ⟨#[]⟩) 1 16 underlying52 hi fH eP fb rfl (by decide) _ _ _ rfl (aw.alloc _) ⟨wr.heap.size,0,none⟩ 1 1 [ε (s.extract f k)] rfl rfl ?c1 ?c2 ?c3 ?c4 ?c5 ?_)
    case c1=>
     intro j u hj
     match j,hj with
     |0,hj=>simp at hj;subst hj;simp[Addr.add]
    case c2=>intro u hu;simp at hu;subst hu;rfl
    case c3=>unfold maxLen;omega
    case c4=>omega
    case c5=>simp;omega
    ·intro v' w1 dj eJ _;have R:=oT bu aw aX dj eJ;clear dj eJ aw;go_wp2;go_roundw
     case rel=>exact⟨k+2,k+2,ys++[cut s f (k - f)],by omega,by omega,by go_num,by go_num,by simp;omega,by rw[uF,←PE];simpa using R.1,R.2,HN⟩
     case measure=>simp[intOf];omega
   case neg=>
    have HN:Hid (dS s.data.toList []=(ys++(dS (s.data.toList.drop (k+1)) (cut s f (k+1 - f))).1,(dS (s.data.toList.drop (k+1)) (cut s f (k+1 - f))).2)):=by
     have sA:=px s f (k - f) (by omega);have Ex:s[f+(k - f)]'(by omega)=s[k]'(by omega):=by congr 1;omega
     refine ad ?_;rw[HP.out,WU ay hc,show k+1 - f=(k - f)+1 from by omega,sA,Ex]
    clear HP;by_cases h1:fQ s k=13
    case neg=>
     have g1:(((s[k]'(by omega)).toNat:Int)==13)=false:=by rw[bb s k (by omega)];simpa using h1
     clear hc h1;go_wp2;go_roundw
     case rel=>exact⟨k+1,f,ys,by omega,by omega,by go_num,rfl,by omega,aw,aX,HN⟩
     case measure=>simp[intOf];omega
    case pos=>
     have g1:(((s[k]'(by omega)).toNat:Int)==13)=true:=by rw[bb s k (by omega),h1];rfl
     have h2:¬fQ s (k+1)=10:=fun h2=>hc ⟨h1,h2⟩;have g2:(((s[k+1]'ay).toNat:Int)==10)=false:=by rw[bb s (k+1) ay];simpa using h2
     clear hc h1 h2;go_wp2;go_roundw
     case rel=>exact⟨k+1,f,ys,by omega,by omega,by go_num,rfl,by omega,aw,aX,HN⟩
     case measure=>simp[intOf];omega
end Go.Proofs.YthpndgcaoeokeaaGreatDoor
