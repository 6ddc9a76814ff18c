import Derived.Test.YthpndgcaoeokeaaGreatDoorCv1
import Derived.Test.YthpndgcaoeokeaaGreatDoorShelfB
import Derived.Lib.IndexLaws
import Derived.Lib.Split
import Derived.Deep.MidRow
set_option maxRecDepth 100000
set_option maxHeartbeats 8000000
open Go.IntKind renaming i64->Z
open Go.Value renaming int->V,slice->ζ,string->η,bool->μ,int->ϛ
open Go.Ending renaming returned->δ,panicked->ε
open Go.Obj renaming cells->θ
open Nat renaming le_refl->ι,zero_add->Κ,zero_le->ώ,lt_of_lt_of_le->Ϡ,le_trans->Ϩ
open Go.RowKit.Below renaming refl->κ
open Go renaming World->ν,Calls->ο,Ending->Ξ,TypeId->Ρ,Program->ϗ,Oper->ϙ,Act->ϝ
open Array renaming getElem?_eq_getElem->ξ,getD_eq_getD_getElem?->φ,length_toList->ψ,all_eq_true'->Λ,getElem_setIfInBounds_ne->ό,getD->Ϙ
open List renaming drop_eq_getElem_cons->π,getElem?_eq_getElem->τ,length_append->ω,length_cons->Ε,getElem?_of_mem->Η,length_map->Ι,replicate->Μ,getElem?_append_right->Ν,getElem?_replicate->Τ,drop_length->Υ,getElem?_eq_none->Φ,mem_of_getElem?->Ψ,mem_cons->ϊ,nil_append->Ϗ,take_of_length_le->Ϝ,take_append_drop->Ϟ,map_congr_left->ϟ,getElem?_map->ϡ,mem_filter->Ϣ,append_nil->ϣ,mem_range->Ϥ,map_cons->ϥ,any_cons->Ϧ,map_map->ϧ
open Bool renaming false_ne_true->ρ,and_eq_false_iff->Χ,and_eq_true->ύ
open Go.Region renaming binds->υ,ready->Α,wanted->Δ
open Go.World renaming cell?_setCell_other->χ,frozen?_setCell->Γ
open Go.Lib renaming trimPrefix->Β,hasPrefix->Θ,countB->Ϛ
open Option renaming map_some->Ζ,getD_some->Ο
open Go.RowKit renaming Hid->Ω
open Go.Oper renaming wp->ϋ
namespace Go.Proofs.YthpndgcaoeokeaaGreatDoor
open Tryz
open Go.RowKit
section
open Go.Sort
theorem OM {c:UInt8}{l:List UInt8}(h:Lib.indexByte l c=-1):sp c l=none:=by
 refine nt λm=>?_;obtain⟨k,I⟩:=Η m;exact Lib.indexByte_none h k I
theorem MK {c:UInt8}{l:List UInt8}{o:Nat}(h:Lib.indexByte l c=o):sp c l=some (l.take o,l.drop (o+1))/\o<l.length:=by
 obtain⟨G,A⟩:=Lib.indexByte_some h;have aQ:o<l.length:=by
  rw[List.getElem?_eq_some_iff]at G;exact G.1
 have e:l=l.take o++c::l.drop (o+1):=by
  conv=>lhs;rw[<-Ϟ o l]
  rw[π aQ];rw[τ aQ]at G;rw[Option.some.inj G]
 have hn:c∉l.take o:=by
  intro m;obtain⟨k,I⟩:=Η m;rw[List.getElem?_take]at I;by_cases q:k<o
  ·rw[if_pos q]at I;exact A k q I
  rw[if_neg q]at I;cases I
 refine⟨?_,aQ⟩
 conv=>lhs;rw[e]
 exact pC hn
def tc (c:UInt8)(l:List UInt8):Value:=match sp c l with
 |none=>.tuple #[η ⟨l.toArray⟩,η ⟨#[]⟩,.bool false]
 |some (a,b)=>.tuple #[η ⟨a.toArray⟩,η ⟨b.toArray⟩,.bool true]
theorem Vx (s:ByteArray)(l:List UInt8)(h:s.data.toList=l):s=⟨l.toArray⟩:=by
 cases s with|mk d=>subst h;simp
theorem A9 (l:List UInt8)(o:Nat):(⟨l.toArray⟩:ByteArray).extract 0 o=⟨(l.take o).toArray⟩:=by
 apply Vx;rw[gU];simp[cut]
theorem uY (l:List UInt8)(o:Nat):(⟨l.toArray⟩:ByteArray).extract o l.length=⟨(l.drop o).toArray⟩:=by
 apply Vx;rw[gU];simp[cut];exact Ϝ (by simp)
theorem adx {a a' b b':ByteArray}{f:Bool}(G:a=a')(A:b=b'):Ending.returned (.tuple #[η a,η b,.bool f])=δ (.tuple #[η a',η b',.bool f]):=by rw[G,A]
theorem Zf (l:List UInt8)(c:UInt8)(w:ν)(N:l.length<=maxLen):
 ο prog 126 #[η ⟨l.toArray⟩,η ⟨#[c]⟩] w λe Y=>e=δ (tc c l)/\Below w.heap.size w Y:=by
 have ci:=Tryz.stringslite_Index_one ⟨l.toArray⟩ c w;have CI:=H ci;have MN:=Lib.indexByte_ge l c;unfold maxLen at N;clear ci;by_cases h:Lib.indexByte l c=-1
 ·have hv:tc c l=.tuple #[η ⟨l.toArray⟩,η ⟨#[]⟩,.bool false]:=by unfold tc;rw[OM h]
  rw[hv];have CJ:Ω (ο prog 202 #[η ⟨l.toArray⟩,η ⟨#[c]⟩] w λe Y=>e=δ (V Z (-1))/\Y=w):=by
   have:=CI.out;rw[show(⟨l.toArray⟩:ByteArray).data.toList=l from rfl,h]at this;exact this
  clear h hv CI MN;go_enter func126,ntmps126;go_wp2_with (go_at_call 202;refine(CJ.out).mono ?_;rintro e Y ⟨rfl,rfl⟩);go_ret3;exact⟨rfl,κ _ _⟩
 obtain⟨o,ho⟩:=Int.eq_ofNat_of_zero_le (show 0<=Lib.indexByte l c by omega);obtain⟨hs,aQ⟩:=MK ho;have hv:tc c l=.tuple #[η ⟨(l.take o).toArray⟩,η ⟨(l.drop (o+1)).toArray⟩,.bool true]:=by unfold tc;rw[hs]
 rw[hv];have CJ:Ω (ο prog 202 #[η ⟨l.toArray⟩,η ⟨#[c]⟩] w λe Y=>e=δ (V Z (o:Int))/\Y=w):=by
  have:=CI.out;rw[show(⟨l.toArray⟩:ByteArray).data.toList=l from rfl,ho]at this;exact this
 have E1:=H (A9 l o);have E2:=H (uY l (o+1));clear h hv CI MN ho hs;go_enter func126,ntmps126;go_wp2_with (go_at_call 202;refine(CJ.out).mono ?_;rintro e Y ⟨rfl,rfl⟩);go_quiet (fail);go_wp2;go_ret3;exact⟨adx E1.out E2.out,below_drewN (κ _ _) _⟩
theorem Vy (c:UInt8)(l:List UInt8):∃a b f,tc c l=.tuple #[η a,η b,.bool f]:=by
 unfold tc;cases sp c l with
 |none=>exact⟨_,_,_,rfl⟩
 |some y=>exact⟨_,_,_,rfl⟩
theorem yJ (l:List UInt8)(c:UInt8)(w:ν)(N:l.length<=maxLen):
 ο prog 72 #[η ⟨l.toArray⟩,η ⟨#[c]⟩] w λe Y=>e=δ (tc c l)/\Below w.heap.size w Y:=by
 have k:=Zf l c w N;obtain⟨a,b,f,hf⟩:=Vy c l;rw[hf]at k⊢;have C:=H k;clear k hf N;go_enter func72,ntmps72;go_wp2_with (go_at_call 126;refine(C.out).mono ?_;rintro e w1 ⟨rfl,U⟩);go_ret3;exact⟨rfl,U⟩
def MO (l:List UInt8)(x:Int):Ξ:=if dx l=true then δ (V Z (dw l))else ε (bF x)
theorem DY {l:List UInt8}{x:Int}(h:dx l=true):MO l x=δ (V Z (dw l)):=by unfold MO;rw[if_pos h]
theorem tU {l:List UInt8}{x:Int}(h:dx l=false):MO l x=ε (bF x):=by unfold MO;rw[if_neg (by rw[h];exact ρ)]
theorem MP (c:UInt8)(r:List UInt8):0<(⟨(c::r).toArray⟩:ByteArray).size:=by show 0<(c::r).length;simp
theorem head_ne {c:UInt8}(r:List UInt8)(q:¬c=48):((((⟨(c::r).toArray⟩:ByteArray)[0]'(MP c r)).toNat:Int)!=48)=true:=by
 show((c.toNat:Int)!=48)=true;rw[bne_iff_ne];intro e;apply q;apply UInt8.toNat_inj.1;show _=48;omega
theorem head_eq (r:List UInt8):((((⟨((48:UInt8)::r).toArray⟩:ByteArray)[0]'(MP 48 r)).toNat:Int)!=48)=false:=rfl
theorem vV (l:List UInt8)(x:Int)(w:ν)(N:l.length<=maxLen):
 ο prog 127 #[η ⟨l.toArray⟩,V Z x] w λE Y=>E=MO l x/\w=Y:=by
 unfold maxLen at N
 match l with
 |[]=>
  rw[tU (by rfl)];go_enter func127,ntmps127;go_wp2_with (go_at_call_of 65 (μ false);refine eT ?_);exact⟨rfl,rfl,rfl⟩
 |c::r=>
  by_cases h7:r.length+1<=7
  case neg=>
   rw[tU (by simp[dx,kk];intro q;omega)];have h7':decide ((r.length:Int)+1<=7)=false:=by simp;omega
   go_enter func127,ntmps127;go_wp2_with (go_at_call_of 65 (μ false);refine eT ?_);exact⟨rfl,rfl,rfl⟩
  case pos=>
   have h7':(r.length:Int)+1<=7:=by omega
   have cy:=eL ⟨(c::r).toArray⟩ x w (by show(c::r).length<=7;simp;omega);have cn:=jP ⟨(c::r).toArray⟩ x w (by show(c::r).length<=7;simp;omega);by_cases hs:c=48/\r≠[]
   case pos=>
    obtain⟨rfl,hr⟩:=hs;obtain⟨r0,r1,rfl⟩:=List.exists_cons_of_ne_nil hr;rw[tU (by simp[dx,kk])];have h9:(r1.length:Int)+1+1<=7:=by simp at h7;omega
    have q2:=head_eq (r0::r1);clear cy cn hr h7 h7';go_enter func127,ntmps127;go_wp2_with (first
     |(go_at_call_of 65 (μ true);refine dp ?_)
     |(go_at_call_of 65 (μ false);refine eT ?_))
    exact⟨rfl,rfl,rfl⟩
   case neg=>
    have sJ:kk (c::r)=true:=by
     simp[kk];refine⟨by omega,?_⟩;by_cases q:c=48
     ·right;by_cases e:r=[]
      ·rw[e]
      exact absurd ⟨q,e⟩ hs
     exact .inl q
    have hlen:(c::r).length<=7:=by simp;omega
    cases ha:dX ⟨(c::r).toArray⟩
    case false=>
     have U:dx (c::r)=false:=by
      unfold dx;rw[xe (l:=c::r) ha];simp
     rw[tU U];have C:=H (cn ha);clear cy cn ha U sJ hlen;rcases r with _|⟨r0,r1⟩
     case nil=>
      by_cases q:c=48
      ·subst q;go_enter func127,ntmps127;go_wp2_with (first
        |(go_at_call_of 65 (μ true);refine dp ?_)
        |(go_at_call 123;refine(C.out).mono ?_;rintro e Y ⟨rfl,rfl⟩))
       exact⟨rfl,rfl,rfl⟩
      have q':(c==48)=false:=by simp[q]
      have q2:=head_ne [] q;go_enter func127,ntmps127;go_wp2_with (first
       |(go_at_call_of 65 (μ true);refine dp ?_)
       |(go_at_call 123;refine(C.out).mono ?_;rintro e Y ⟨rfl,rfl⟩))
      exact⟨rfl,rfl,rfl⟩
     case cons=>
      have q:¬c=48:=λe=>hs ⟨e,by simp⟩;have q2:=head_ne (r0::r1) q;have h9:(r1.length:Int)+1+1<=7:=by simp at h7;omega
      clear h7 h7' hs;go_enter func127,ntmps127;go_wp2_with (first
       |(go_at_call_of 65 (μ true);refine dp ?_)
       |(go_at_call 123;refine(C.out).mono ?_;rintro e Y ⟨rfl,rfl⟩))
      exact⟨rfl,rfl,rfl⟩
    case true=>
     have hd:=qI (c::r) 7 hlen ha;have U:dx (c::r)=true:=by
      unfold dx;rw[sJ,qJ (l:=c::r) ha];simp;exact hd.1
     have hN:dw (c::r)=iC (c::r):=by
      unfold dw;rw[if_pos sJ,qJ (l:=c::r) ha]
     rw[DY U,hN];have C:=H (cy ha);clear cy cn ha U sJ hlen hd hN;rcases r with _|⟨r0,r1⟩
     case nil=>
      by_cases q:c=48
      ·subst q;go_enter func127,ntmps127;go_wp2_with (first
        |(go_at_call_of 65 (μ true);refine dp ?_)
        |(go_at_call 123;refine(C.out).mono ?_;rintro e Y ⟨rfl,rfl⟩))
       go_ret;exact⟨rfl,rfl⟩
      have q':(c==48)=false:=by simp[q]
      have q2:=head_ne [] q;go_enter func127,ntmps127;go_wp2_with (first
       |(go_at_call_of 65 (μ true);refine dp ?_)
       |(go_at_call 123;refine(C.out).mono ?_;rintro e Y ⟨rfl,rfl⟩))
      go_ret;exact⟨rfl,rfl⟩
     case cons=>
      have q:¬c=48:=λe=>hs ⟨e,by simp⟩;have q2:=head_ne (r0::r1) q;have h9:(r1.length:Int)+1+1<=7:=by simp at h7;omega
      clear h7 h7' hs;go_enter func127,ntmps127;go_wp2_with (first
       |(go_at_call_of 65 (μ true);refine dp ?_)
       |(go_at_call 123;refine(C.out).mono ?_;rintro e Y ⟨rfl,rfl⟩))
      go_ret;exact⟨rfl,rfl⟩
theorem Zg:fg (84:UInt8)=false:=nd (n:=84) rfl (by omega)
theorem am5:fg (68:UInt8)=false:=nd (n:=68) rfl (by omega)
theorem ady {c:UInt8}{ds r b:List UInt8}{x:UInt8}(hd:∀y∈ds,fg y=true)(hc:fg c=false)(X:x≠c):sp c (ds++x::r)≠some ([],b):=by
 intro h;have e:=(kH h).1;cases ds with
 |nil=>simp at e;exact X e.1
 |cons y ds=>simp at e;have:=hd y List.mem_cons_self;rw[e.1,hc]at this;cases this
theorem Qt (r:List UInt8)(sum:Int)(parts:Nat)(J:0<parts):eC r [] 1 false sum parts=
 if r=[]then some sum else match sp 84 r with
  |some ([],b)=>if b=[]then none else(chain (atC 1) b).map (sum+·)
  |_=>none:=by
 obtain⟨ds,rest,rfl,hd,hr⟩:=ud r;rw[vw ds rest [] 1 false sum parts hd,Ϗ];have aT:(84:UInt8)∉ds:=jR Zg hd;rcases hr with rfl|⟨c,r,rfl,hc⟩
 ·rw[ϣ];unfold eC;by_cases e:ds=[]
  ·rw[if_neg (by simp[e];omega),if_pos e]
  rw[if_pos (.inr e),if_neg e,nt aT]
 rw[if_neg (by simp)]
 conv=>lhs;unfold eC
 rw[if_neg (by rw[hc];exact ρ)];by_cases hT:c.toNat=84
 ·obtain rfl:c=84:=u8 hT;rw[if_pos hT,pC aT];by_cases e:ds=[]
  ·subst e;by_cases e2:r=[]
   ·rw[if_pos (.inr (.inr e2))];simp[e2]
   rw[if_neg (by simp[e2]),oD r.length r (ι _) 1 (by omega) (by omega) _ _ (.inl e2)];simp[e2]
  rw[if_pos (.inr (.inl e))];cases ds with
  |nil=>exact absurd rfl e
  |cons y ds=>rfl
 rw[if_neg hT];have hn:=La 1 c (by omega);rw[if_pos (by
  by_cases q:ik 1 c=4
  ·exact .inr (.inl q)
  right;right;rw[decide_eq_true (by omega)];simp)]
 have X:c≠84:=λe=>hT (by rw[e];rfl);have:=λb=>ady (b:=b) (r:=r) hd Zg X;cases q:sp 84 (ds++c::r)with
 |none=>rfl
 |some y=>
  obtain⟨a,b⟩:=y;cases a with
  |nil=>exact absurd q (this b)
  |cons y a=>rfl
def tJ (body:List UInt8):Option Int:=
 match fh 68 86400 ((sp 84 body).elim body Prod.fst),chain (atC 1) ((sp 84 body).elim [] Prod.snd)with
 |some (v,[]),some n=>some (v+n)
 |_,_=>none
theorem Zh (o:Option Int):o.map (0+·)=o:=by cases o<;>simp
theorem adz (body:List UInt8)(df:body≠[]):eC body [] 0 false 0 0=match sp 84 body with
 |some (_,[])=>none
 |_=>tJ body:=by
 obtain⟨ds,rest,rfl,hd,hr⟩:=ud body;rw[vw ds rest [] 0 false 0 0 hd,Ϗ];have aT:(84:UInt8)∉ds:=jR Zg hd;have aD:(68:UInt8)∉ds:=jR am5 hd;rcases hr with rfl|⟨c,r,rfl,hc⟩
 ·rw[ϣ]at *
  unfold eC;rw[if_pos (.inl rfl),nt aT];unfold tJ;rw[nt aT];simp only[Option.elim_none,fh,nt aD,vv];cases ds with
  |nil=>exact absurd rfl df
  |cons y ds=>rfl
 conv=>lhs;unfold eC
 rw[if_neg (by rw[hc];exact ρ)];by_cases hT:c.toNat=84
 ·obtain rfl:c=84:=u8 hT;rw[if_pos hT,pC aT];cases r with
  |nil=>rw[if_pos (.inr (.inr rfl))]
  |cons z r=>
   unfold tJ;rw[pC aT];simp only[Option.elim_some,fh,nt aD];cases ds with
   |nil=>
    rw[if_neg (by simp),oD (z::r).length (z::r) (ι _) 1 (by omega) (by omega) _ _ (.inl (by simp)),Zh];cases chain (atC 1) (z::r)<;>simp
   |cons y ds=>rw[if_pos (.inr (.inl (by simp)))]
 rw[if_neg hT];have X:c≠84:=λe=>hT (by rw[e];rfl);by_cases hD:c.toNat=68
 ·obtain rfl:c=68:=u8 hD;have hj:ik 0 68=0:=by decide
  rw[hj];cases q:sp 84 r with
  |none=>
   have qr:(84:UInt8)∉r:=by
    intro m;have:∀l:List UInt8,(84:UInt8)∈l->sp 84 l≠none:=by
     intro l
     induction l with
     |nil=>intro h;cases h
     |cons x l ih=>
      intro h;unfold sp;by_cases e:x=84
      ·rw[if_pos e];simp
      rw[if_neg e];rcases List.mem_cons.1 h with h|h
      ·exact absurd h.symm e
      have:=ih h;cases w:sp 84 l with
      |none=>exact absurd w this
      |some y=>simp
    exact this r m q
   have qb:sp 84 (ds++68::r)=none:=nt (by simp[aT,qr]);unfold tJ;rw[qb];simp only[Option.elim_none,fh,pC aD,vv];cases hn:dx ds
   ·rw[if_pos (.inl rfl)];simp
   rw[if_neg (by simp),Qt r _ _ (by omega),q];cases r with
   |nil=>simp[ou]
   |cons y r=>simp
  |some y=>
   obtain⟨a,b⟩:=y;obtain⟨e,ha⟩:=kH q;have qb:sp 84 (ds++68::r)=some (ds++68::a,b):=by
    rw[e,show ds++(68:UInt8)::(a++84::b)=(ds++68::a)++84::b from by simp];exact pC (by simp[aT,ha])
   unfold tJ;rw[qb];have xl:r≠[]:=by rw[e];simp
   simp only[Option.elim_some,fh,pC aD];cases hn:dx ds
   ·rw[if_pos (.inl rfl)];cases b<;>simp
   rw[if_neg (by simp),Qt r _ _ (by omega),if_neg xl,q];cases a with
   |nil=>
    cases b with
    |nil=>simp
    |cons z b=>
     simp only[if_true];rw[if_neg (by simp)];cases chain (atC 1) (z::b)<;>simp[ou]
   |cons y a=>
    cases b with
    |nil=>rfl
    |cons z b=>simp
 have hn:=La 0 c (by omega);have hj:ik 0 c≠0:=by
  intro e;unfold ik at e;rw[if_neg (by omega)]at e;split at e
  ·omega
  split at e
  ·omega
  split at e<;>omega
 rw[if_pos (by right;right;rw[decide_eq_true (by omega)];simp)];have I2:c≠68:=λe=>hD (by rw[e];rfl);have key:∀t:List UInt8,∀v,fh 68 86400 (ds++c::t)≠some (v,[]):=by
  intro t v h;unfold fh at h;cases q:sp 68 (ds++c::t)with
  |none=>rw[q]at h;simp at h
  |some y=>
   obtain⟨a,b⟩:=y;rw[q]at h;simp only at h;obtain⟨e,ha⟩:=kH q;have hca:c∈a:=by
    rcases List.append_eq_append_iff.1 e with⟨t,e1,e2⟩|⟨t,e1,e2⟩
    ·cases t with
     |nil=>simp at e2;exact absurd e2.1 I2
     |cons y t=>simp at e2;rw[e1,<-e2.1];simp
    cases t with
    |nil=>simp at e2;exact absurd e2.1.symm I2
    |cons y t=>simp at e2;exfalso;apply aD;rw[e1,<-e2.1];simp
   by_cases hn:dx a=true
   ·have:=yf hn c hca;rw[hc]at this;cases this
   rw[if_neg hn]at h;cases h
 have Qu:∀(t:List UInt8) (o:Option Int),(match fh 68 86400 (ds++c::t),o with
  |some (v,[]),some n=>some (v+n)
  |_,_=>none)=none:=by
  intro t o;cases q:fh 68 86400 (ds++c::t)with
  |none=>rfl
  |some y=>
   obtain⟨v,b⟩:=y;cases b with
   |nil=>exact absurd q (key t v)
   |cons z b=>rfl
 unfold tJ;cases q:sp 84 (ds++c::r)with
 |none=>simp only[Option.elim_none];exact(Qu r _).symm
 |some y=>
  obtain⟨a,b⟩:=y;obtain⟨e,ha⟩:=kH q;obtain⟨t,ht⟩:∃t,a=ds++c::t:=by
   rcases List.append_eq_append_iff.1 e with⟨t,e1,e2⟩|⟨t,e1,e2⟩
   ·cases t with
    |nil=>simp at e2;exact absurd e2.1 X
    |cons y t=>simp at e2;exact⟨t,by rw[e1,<-e2.1]⟩
   cases t with
   |nil=>simp at e2;exact absurd e2.1.symm X
   |cons y t=>simp at e2;exfalso;apply aT;rw[e1,<-e2.1];simp
  subst ht;cases b with
  |nil=>rfl
  |cons z b=>simp only[Option.elim_some];exact(Qu t _).symm
def FK (mark:UInt8)(nL:Int)(l:List UInt8):Ξ:=match fh mark nL l with
 |some (v,r)=> δ (.tuple #[V Z v,η ⟨r.toArray⟩])
 |none=> ε (bF 1)
theorem rT (l:List UInt8)(mark:UInt8)(nL:Int)(w:ν)(N:l.length<=maxLen)(h0:0<=nL)(G:nL<=86400):
 ο prog 73 #[η ⟨l.toArray⟩,η ⟨#[mark]⟩,V Z nL] w λE Y=>E=FK mark nL l/\Below w.heap.size w Y:=by
 have k:=yJ l mark w N;unfold FK fh;unfold tc at k;cases q:sp mark l with
 |none=>
  rw[q]at k;have C:=H k;clear k q;go_enter func73,ntmps73;go_wp2_with (go_at_call 72;refine(C.out).mono ?_;rintro e w1 ⟨rfl,U⟩);go_ret2;exact⟨rfl,U⟩
 |some y=>
  obtain⟨a,b⟩:=y;rw[q]at k;have ha:a.length<=maxLen:=by
   have e:=(kH q).1;have:a.length<=l.length:=by rw[e];simp
   omega
  have kn:=λW=>vV a 1 W ha;have C:=H k;simp only[];cases hn:dx a
  ·rw[if_neg ρ];rw[tU hn]at kn;have D:=H kn;clear k q kn ha hn;go_enter func73,ntmps73;go_wp2_with (first
    |(go_at_call 72;refine(C.out).mono ?_;rintro e w1 ⟨rfl,U⟩)
    |(go_at_call 127;refine(D.out _).mono ?_;rintro e Y ⟨rfl,rfl⟩))
   exact⟨rfl,rfl,U⟩
  rw[if_pos rfl];rw[DY hn]at kn;have U:=GH a hn;have hm:dw a*nL<=9999999*86400:=Int.mul_le_mul U.2 G h0 (by omega);have hm0:0<=dw a*nL:=Int.mul_nonneg U.1 h0;have D:=H kn;clear k q kn ha hn;go_enter func73,ntmps73;go_wp2_with (first
   |(go_at_call 72;refine(C.out).mono ?_;rintro e w1 ⟨rfl,U⟩)
   |(go_at_call 127;refine(D.out _).mono ?_;rintro e Y ⟨rfl,rfl⟩))
  go_ret2;exact⟨rfl,‹Below _ _ _›⟩
theorem yK {mark:UInt8}{nL v:Int}{l r:List UInt8}(h0:0<=nL)(G:nL<=86400)(h:fh mark nL l=some (v,r)):0<=v/\v<=863999913600/\r.length<=l.length:=by
 unfold fh at h;cases q:sp mark l with
 |none=>rw[q]at h;cases h;exact⟨by omega,by omega,ι _⟩
 |some y=>
  obtain⟨a,b⟩:=y;rw[q]at h;simp only at h;by_cases hn:dx a=true
  ·rw[if_pos hn]at h;cases h;have U:=GH a hn;have hm:dw a*nL<=9999999*86400:=Int.mul_le_mul U.2 G h0 (by omega);have hm0:0<=dw a*nL:=Int.mul_nonneg U.1 h0;have e:=(kH q).1;refine⟨hm0,by omega,?_⟩;rw[e];simp;omega
  rw[if_neg hn]at h;cases h
def Hl (o:Option Int):Ξ:=match o with
 |some n=> δ (V Z n)
 |none=> ε (bF 1)
def xE (dl cl:List UInt8):Option Int:=match fh 68 86400 dl,chain (atC 1) cl with
 |some (v,[]),some n=>some (v+n)
 |_,_=>none
theorem DZ (z:UInt8)(body dl cl:List UInt8)(div:Bool)(w:ν)(P7:dl.length<=maxLen)(dY:cl.length<=maxLen)(hdc:(div=false/\cl=[])\/(div=true/\cl≠[]))
 (cp:∀W,ο prog 71 #[η ⟨((80:UInt8)::z::body).toArray⟩,η ⟨#[80]⟩] W λE Y=>E=δ (.tuple #[η ⟨(z::body).toArray⟩,.bool true])/\Y=W)
 (cc:∀W,ο prog 72 #[η ⟨(z::body).toArray⟩,η ⟨#[84]⟩] W λE Y=>E=δ (.tuple #[η ⟨dl.toArray⟩,η ⟨cl.toArray⟩,.bool div])/\Below W.heap.size W Y):
 ο prog 41 #[η ⟨((80:UInt8)::z::body).toArray⟩] w λE Y=>E=Hl (xE dl cl)/\Below w.heap.size w Y:=by
 have CP:=H cp;have CC:=H cc;have C0:=H λW=>rT dl 68 86400 W P7 (by omega) (by omega);have C1:=H λW=>rT cl 72 3600 W dY (by omega) (by omega);have HL:Ω (xE dl cl=match fh 68 86400 dl,chain [(72,3600),(77,60),(83,1)] cl with
  |some (v,[]),some n=>some (v+n)
  |_,_=>none):=H rfl
 unfold FK at C0 C1;clear cp cc;rcases hdc with⟨rfl,rfl⟩|⟨rfl,hc⟩
 case' inr=>
  obtain⟨x1,x2,rfl⟩:=List.exists_cons_of_ne_nil hc;clear hc
 all_goals
  go_enter func41,ntmps41;go_wp2_with (first
   |(go_at_call 71;refine(CP.out _).mono ?_;rintro e u ⟨rfl,rfl⟩)
   |(go_at_call 72;refine(CC.out _).mono ?_;rintro e uc ⟨rfl,Vz⟩)
   |(go_at_call_of 65 (μ true);refine dp ?_))
  refine(C0.out _).mono ?_;rintro e u0 ⟨rfl,bh⟩;have h0:=Vz.trans (bh.mono Vz.size);cases q0:fh 68 86400 dl with
  |none=>exact⟨rfl,by rw[HL.out,q0];rfl,h0⟩
  |some y0=>
   obtain⟨v0,d1⟩:=y0;have b0:=yK (by omega) (by omega) q0;clear CP CC C0 Vz bh;go_wp2_with fail;refine(C1.out _).mono ?_;rintro e u1 ⟨rfl,au⟩;have G:=h0.trans (au.mono h0.size);cases q1:fh 72 3600 _ with
   |none=>exact⟨rfl,by rw[HL.out,q0,chain,q1];cases d1<;>rfl,G⟩
   |some y1=>
    obtain⟨v1,k1⟩:=y1;have b1:=yK (by omega) (by omega) q1;have C2:=H λW=>rT k1 77 60 W (by omega) (by omega) (by omega);unfold FK at C2;clear C1 h0 au;go_wp2_with fail;refine(C2.out _).mono ?_;rintro e u2 ⟨rfl,aO⟩;have A:=G.trans (aO.mono G.size);cases q2:fh 77 60 k1 with
    |none=>exact⟨rfl,by rw[HL.out,q0,chain,q1];simp only[chain,q2];cases d1<;>rfl,A⟩
    |some y2=>
     obtain⟨v2,k2⟩:=y2;have b2:=yK (by omega) (by omega) q2;have C3:=H λW=>rT k2 83 1 W (by omega) (by omega) (by omega);unfold FK at C3;clear C2 G aO;go_wp2_with fail;refine(C3.out _).mono ?_;rintro e u3 ⟨rfl,aR⟩;have K:=A.trans (aR.mono A.size);cases q3:fh 83 1 k2 with
     |none=>exact⟨rfl,by rw[HL.out,q0,chain,q1];simp only[chain,q2,q3];cases d1<;>rfl,K⟩
     |some y3=>
      obtain⟨v3,k3⟩:=y3;have b3:=yK (by omega) (by omega) q3;clear C3 A aR;cases d1 with
      |cons a b=>
       have HQ:Ω (xE dl _=none):=H (by rw[HL.out,q0]);clear HL q0 q1 q2 q3;go_wp2_with (go_at_call_of 65 (μ false);refine eT ?_);exact⟨rfl,by rw[HQ.out];rfl,K⟩
      |nil=>
       cases k3 with
       |cons a b=>
        have HQ:Ω (xE dl _=none):=H (by rw[HL.out,q0,chain,q1];simp only[chain,q2,q3];rfl);clear HL q0 q1 q2 q3;go_wp2_with (go_at_call_of 65 (μ false);refine eT ?_);exact⟨rfl,by rw[HQ.out];rfl,K⟩
       |nil=>
        have HQ:Ω (xE dl _=some (v0+v1+v2+v3)):=H (by rw[HL.out,q0,chain,q1];simp only[chain,q2,q3];exact congrArg some (show v0+(v1+(v2+(v3+0)))=_ by omega));clear HL q0 q1 q2 q3;go_wp2_with (go_at_call_of 65 (μ true);refine dp ?_);go_ret;exact⟨by rw[HQ.out];rfl,K⟩
theorem Zi (z:UInt8)(body:List UInt8):oC (80::z::body)=match sp 84 (z::body)with
 |some (_,[])=>none
 |_=>tJ (z::body):=by
 show(if(80:UInt8).toNat=80 then eC (z::body) [] 0 false 0 0 else none)=_;rw[if_pos (show(80:UInt8).toNat=80 from rfl)];exact adz (z::body) (by simp)
theorem Sy (z:UInt8)(body:List UInt8)(W:ν):
 ο prog 71 #[η ⟨((80:UInt8)::z::body).toArray⟩,η ⟨#[80]⟩] W λE Y=>E=δ (.tuple #[η ⟨(z::body).toArray⟩,.bool true])/\Y=W:=by
 have:=Tryz.strings_CutPrefix ⟨((80:UInt8)::z::body).toArray⟩ ⟨#[80]⟩ W;have G:Θ ((80:UInt8)::z::body) [80]=true:=by simp[Θ]
 have A:Β ((80:UInt8)::z::body) [80]=z::body:=by unfold Β;rw[G];rfl
 rw[show(⟨((80:UInt8)::z::body).toArray⟩:ByteArray).data.toList=80::z::body from rfl,show(⟨#[80]⟩:ByteArray).data.toList=[80]from rfl,G,A]at this;exact this
theorem MQ (z:UInt8)(body dl:List UInt8)(w:ν)
 (cp:∀W,ο prog 71 #[η ⟨((80:UInt8)::z::body).toArray⟩,η ⟨#[80]⟩] W λE Y=>E=δ (.tuple #[η ⟨(z::body).toArray⟩,.bool true])/\Y=W)
 (cc:∀W,ο prog 72 #[η ⟨(z::body).toArray⟩,η ⟨#[84]⟩] W λE Y=>E=δ (.tuple #[η ⟨dl.toArray⟩,η ⟨([]:List UInt8).toArray⟩,.bool true])/\Below W.heap.size W Y):
 ο prog 41 #[η ⟨((80:UInt8)::z::body).toArray⟩] w λE Y=>E=ε (bF 1)/\Below w.heap.size w Y:=by
 have CP:=H cp;have CC:=H cc;clear cp cc;go_enter func41,ntmps41;go_wp2_with (first
  |(go_at_call 71;refine(CP.out _).mono ?_;rintro e u ⟨rfl,rfl⟩)
  |(go_at_call 72;refine(CC.out _).mono ?_;rintro e uc ⟨rfl,Vz⟩)
  |(go_at_call_of 65 (μ true);refine dp ?_)
  |(go_at_call_of 65 (μ false);refine eT ?_))
 exact⟨rfl,rfl,Vz⟩
theorem qd (l:List UInt8)(b:List UInt8)(f:Bool)(w:ν)(h:f=false\/b=[])
 (cp:∀W,ο prog 71 #[η ⟨l.toArray⟩,η ⟨#[80]⟩] W λE Y=>E=δ (.tuple #[η ⟨b.toArray⟩,.bool f])/\Y=W):
 ο prog 41 #[η ⟨l.toArray⟩] w λE Y=>E=ε (bF 1)/\Below w.heap.size w Y:=by
 have CP:=H cp;clear cp;cases f
 ·clear h;go_enter func41,ntmps41;go_wp2_with (first
   |(go_at_call 71;refine(CP.out _).mono ?_;rintro e u ⟨rfl,rfl⟩)
   |(go_at_call_of 65 (μ false);refine eT ?_))
  exact⟨rfl,rfl,κ _ _⟩
 obtain rfl:b=[]:=by rcases h with h|h;cases h;exact h
 go_enter func41,ntmps41;go_wp2_with (first
  |(go_at_call 71;refine(CP.out _).mono ?_;rintro e u ⟨rfl,rfl⟩)
  |(go_at_call_of 65 (μ false);refine eT ?_))
 exact⟨rfl,rfl,κ _ _⟩
theorem FL (z:UInt8)(body:List UInt8)(w:ν)(N:(80::z::body).length<=maxLen):
 ο prog 41 #[η ⟨((80:UInt8)::z::body).toArray⟩] w λE Y=>E=Hl (oC (80::z::body))/\Below w.heap.size w Y:=by
 have vG:(z::body).length<=maxLen:=by simp at N⊢;omega
 have cp:=Sy z body;have cc:=λW=>yJ (z::body) 84 W vG;rw[Zi];have Sz:=λdl cl div G A K=>DZ z body dl cl div w G A K cp;unfold xE at Sz;cases q:sp 84 (z::body)with
 |none=>
  unfold tJ;rw[q];unfold tc at cc;rw[q]at cc;exact Sz (z::body) [] false vG (by simp) (.inl ⟨rfl,rfl⟩) cc
 |some y=>
  obtain⟨a,b⟩:=y;have e:=(kH q).1;have G:a.length<=maxLen:=by
   have:a.length<=(z::body).length:=by rw[e];simp
   omega
  have A:b.length<=maxLen:=by
   have:b.length<=(z::body).length:=by rw[e];simp;omega
   omega
  unfold tc at cc;rw[q]at cc;cases b with
  |nil=>exact MQ z body a w cp cc
  |cons x b=>
   unfold tJ;rw[q];exact Sz a (x::b) true G A (.inr ⟨rfl,by simp⟩) cc
theorem Hm (l:List UInt8)(w:ν)(N:l.length<=maxLen):
 ο prog 41 #[η ⟨l.toArray⟩] w λE Y=>E=Hl (oC l)/\Below w.heap.size w Y:=by
 have cp:=λW=>Tryz.strings_CutPrefix ⟨l.toArray⟩ ⟨#[80]⟩ W;cases l with
 |nil=>exact qd [] _ _ w (.inl (by rfl)) cp
 |cons c r=>
  by_cases hc:c=80
  ·subst hc;cases r with
   |nil=>
    have e:oC [80]=none:=by decide
    rw[e];exact qd [80] _ _ w (.inr (by rfl)) cp
   |cons z body=>exact FL z body w N
  have e:oC (c::r)=none:=by
   show(if c.toNat=80 then _ else none)=none;rw[if_neg (λq=>hc (u8 q))]
  rw[e];refine qd (c::r) _ _ w (.inl ?_) cp;show Θ (c::r) [80]=false;show(((80:UInt8)==c)&&[].isPrefixOf r)=false;rw[beq_eq_false_iff_ne.2 (Ne.symm hc)];rfl
theorem C8 (l:List UInt8)(p:Addr)(W:ν)(N:l.length<=maxLen)(hc:W.cell? p=some (η ⟨l.toArray⟩)):
 ο prog 40 #[.pointer (some p)] W λE Y=>E=Hl (oC l)/\Below W.heap.size W Y:=by
 have k:=Hm l W N;cases q:oC l with
 |none=>
  rw[q]at k;simp only[Hl]at k⊢;have C:=H k;clear k q N;go_enter func40,ntmps40;go_wp2_with (go_at_call 41;refine(C.out).mono ?_;rintro e w1 ⟨rfl,U⟩);exact⟨rfl,rfl,U⟩
 |some n=>
  rw[q]at k;simp only[Hl]at k⊢;have C:=H k;clear k q N;go_enter func40,ntmps40;go_wp2_with (go_at_call 41;refine(C.out).mono ?_;rintro e w1 ⟨rfl,U⟩);go_ret;exact⟨rfl,U⟩
theorem SA (s:ByteArray)(w:ν)(hs:s.size<=maxLen):
 ο prog 20 #[η s] w λE Y=>E=δ (XR (oC s.data.toList))/\Below w.heap.size w Y:=by
 have uo:∀(fn:Fn) (first cap:Array Value) (w:ν),(Instr.makeFunc fn first cap).run prog w=.ok (.func fn first cap) w:=λ_ _ _ _=>rfl;have dY:∀W,Below (w.alloc (θ #[η s] 9)).heap.size (w.alloc (θ #[η s] 9)) W->W.cell? ⟨w.heap.size,0,none⟩=some (η ⟨s.data.toList.toArray⟩):=λW U=>by
  rw[U.cell (p:=⟨w.heap.size,0,none⟩) (by simp)];simp[go_sem]
 have N:s.data.toList.length<=maxLen:=by rw[ψ];exact hs
 cases q:oC s.data.toList with
 |none=>
  have C:=H (EI ⟨w.heap.size,0,none⟩ 1 (w.alloc (θ #[η s] 9)) (λW U=>by
   have:=C8 s.data.toList ⟨w.heap.size,0,none⟩ W N (dY W U);rw[q]at this;exact this))
  clear dY N q hs;go_enter func20,ntmps20;go_wp2_with (go_at_call 37;refine(C.out).mono ?_;rintro e w1 ⟨rfl,U⟩);go_ret2;exact⟨rfl,((κ _ _).alloc (ι _) _).trans (U.mono (by simp))⟩
 |some n=>
  have C:=H (Dr ⟨w.heap.size,0,none⟩ n (w.alloc (θ #[η s] 9)) (λW U=>by
   have:=C8 s.data.toList ⟨w.heap.size,0,none⟩ W N (dY W U);rw[q]at this;exact this))
  clear dY N q hs;go_enter func20,ntmps20;go_wp2_with (go_at_call 37;refine(C.out).mono ?_;rintro e w1 ⟨rfl,U⟩);go_ret2;exact⟨rfl,((κ _ _).alloc (ι _) _).trans (U.mono (by simp))⟩
def mX (l:List UInt8)(lo S:Int):Bool:=dx l&&decide (lo<=dw l)&&decide (dw l<=S)
def FM (l:List UInt8)(lo S x:Int):Ξ:=if mX l lo S=true then δ (V Z (dw l))else ε (bF x)
theorem xF {l:List UInt8}{lo S x:Int}(h:mX l lo S=true):FM l lo S x=δ (V Z (dw l)):=by unfold FM;rw[if_pos h]
theorem uZ {l:List UInt8}{lo S x:Int}(h:mX l lo S=false):FM l lo S x=ε (bF x):=by unfold FM;rw[if_neg (by rw[h];exact ρ)]
theorem js (l:List UInt8)(lo S x:Int)(w:ν)(N:l.length<=maxLen):
 ο prog 142 #[η ⟨l.toArray⟩,V Z lo,V Z S,V Z x] w λE Y=>E=FM l lo S x/\w=Y:=by
 have kn:=λW=>vV l x W N;cases hn:dx l
 ·rw[tU hn]at kn;rw[uZ (by unfold mX;rw[hn];rfl)];have D:=H kn;clear kn hn N;go_enter func142,ntmps142;go_wp2_with (go_at_call 127;refine(D.out _).mono ?_;rintro e Y ⟨rfl,rfl⟩);exact⟨rfl,rfl,rfl⟩
 rw[DY hn]at kn;have D:=H kn;clear kn;by_cases h0:lo<=dw l
 ·by_cases G:dw l<=S
  ·rw[xF (by unfold mX;rw[hn];simp[h0,G])];clear hn N;go_enter func142,ntmps142;go_wp2_with (first
    |(go_at_call 127;refine(D.out _).mono ?_;rintro e Y ⟨rfl,rfl⟩)
    |(go_at_call_of 65 (μ true);refine dp ?_))
   go_ret;exact⟨rfl,rfl⟩
  rw[uZ (by unfold mX;rw[hn];simp[h0,G])];have tf:decide (dw l<=S)=false:=by simpa using G
  clear hn N;go_enter func142,ntmps142;go_wp2_with (first
   |(go_at_call 127;refine(D.out _).mono ?_;rintro e Y ⟨rfl,rfl⟩)
   |(go_at_call_of 65 (μ false);refine eT ?_))
  exact⟨rfl,rfl,rfl⟩
 rw[uZ (by unfold mX;rw[hn];simp[h0])];have h0':decide (lo<=dw l)=false:=by simpa using h0
 clear hn N;go_enter func142,ntmps142;go_wp2_with (first
  |(go_at_call 127;refine(D.out _).mono ?_;rintro e Y ⟨rfl,rfl⟩)
  |(go_at_call_of 65 (μ false);refine eT ?_))
 exact⟨rfl,rfl,rfl⟩
theorem nD (l:List UInt8)(most:Int):within l most=mX l 1 most:=rfl
def FN (l:List UInt8)(most x:Int):Ξ:=if fF l most=0 then ε (bF x)else δ (V Z (fF l most))
theorem Ba {l:List UInt8}{most x:Int}(h:fF l most=0):FN l most x=ε (bF x):=by unfold FN;rw[if_pos h]
theorem xG {l:List UInt8}{most x:Int}(h:¬fF l most=0):FN l most x=δ (V Z (fF l most)):=by unfold FN;rw[if_neg h]
theorem VA (r:List UInt8)(W:ν):
 ο prog 71 #[η ⟨((45:UInt8)::r).toArray⟩,η ⟨#[45]⟩] W λE Y=>E=δ (.tuple #[η ⟨r.toArray⟩,.bool true])/\Y=W:=by
 have:=Tryz.strings_CutPrefix ⟨((45:UInt8)::r).toArray⟩ ⟨#[45]⟩ W;have G:Θ ((45:UInt8)::r) [45]=true:=by simp[Θ]
 have A:Β ((45:UInt8)::r) [45]=r:=by unfold Β;rw[G];rfl
 rw[show(⟨((45:UInt8)::r).toArray⟩:ByteArray).data.toList=45::r from rfl,show(⟨#[45]⟩:ByteArray).data.toList=[45]from rfl,G,A]at this;exact this
theorem Zj (l:List UInt8)(W:ν)(h:¬l.head?=some 45):
 ο prog 71 #[η ⟨l.toArray⟩,η ⟨#[45]⟩] W λE Y=>E=δ (.tuple #[η ⟨l.toArray⟩,.bool false])/\Y=W:=by
 have:=Tryz.strings_CutPrefix ⟨l.toArray⟩ ⟨#[45]⟩ W;have G:Θ l [45]=false:=by
  cases l with
  |nil=>rfl
  |cons a r=>
   have:¬a=45:=λe=>h (by simp[e]);show((45:UInt8)==a&&([]:List UInt8).isPrefixOf r)=false;rw[Χ];left;rw[beq_eq_false_iff_ne];exact λe=>this (Eq.symm e)
 have A:Β l [45]=l:=by unfold Β;rw[G];rfl
 rw[show(⟨l.toArray⟩:ByteArray).data.toList=l from rfl,show(⟨#[45]⟩:ByteArray).data.toList=[45]from rfl,G,A]at this;exact this
theorem ON (l:List UInt8)(h:dx l=true):0<=dw l/\dw l<=9999999:=GH l h
theorem qf (l:List UInt8)(most x:Int)(w:ν)(N:l.length<=maxLen):
 ο prog 210 #[η ⟨l.toArray⟩,V Z most,V Z x] w λE Y=>E=FN l most x/\w=Y:=by
 by_cases hh:l.head?=some 45
 ·obtain⟨r,rfl⟩:∃r,l=45::r:=by
   cases l with
   |nil=>simp at hh
   |cons a r=>exact⟨r,by simp at hh;rw[hh]⟩
  have cp:=λW=>VA r W;have kn:=λW=>js r 1 most x W (by simp at N;omega);have hs:fF (45::r) most=if within r most then -(dw r)else 0:=by unfold fF;rw[if_pos (by rfl)];rfl
  cases hw:mX r 1 most
  ·rw[uZ hw]at kn;rw[Ba (by rw[hs,nD,hw];rfl)];have D:=H kn;have CP:=H cp;clear kn hw hs hh N cp;go_enter func210,ntmps210;go_wp2_with (first
    |(go_at_call 71;refine(CP.out _).mono ?_;rintro e u ⟨rfl,rfl⟩)
    |(go_at_call 142;refine(D.out _).mono ?_;rintro e Y ⟨rfl,rfl⟩))
   exact⟨rfl,rfl,rfl⟩
  rw[xF hw]at kn;have U:dx r=true:=by unfold mX at hw;simp at hw;exact hw.1.1
  have G:1<=dw r:=by unfold mX at hw;simp at hw;exact hw.1.2
  have A:=ON r U;have Bb:fF (45::r) most=-(dw r):=by rw[hs,nD,hw];rfl
  rw[xG (by rw[Bb];omega),Bb];have D:=H kn;have CP:=H cp;clear kn hw hs hh N cp U Bb;go_enter func210,ntmps210;go_wp2_with (first
   |(go_at_call 71;refine(CP.out _).mono ?_;rintro e u ⟨rfl,rfl⟩)
   |(go_at_call 142;refine(D.out _).mono ?_;rintro e Y ⟨rfl,rfl⟩))
  go_ret;exact⟨rfl,rfl⟩
 have cp:=λW=>Zj l W hh;have kn:=λW=>js l 1 most x W N;have hs:fF l most=if within l most then dw l else 0:=by unfold fF;rw[if_neg hh]
 cases hw:mX l 1 most
 ·rw[uZ hw]at kn;rw[Ba (by rw[hs,nD,hw];rfl)];have D:=H kn;have CP:=H cp;clear kn hw hs hh N cp;go_enter func210,ntmps210;go_wp2_with (first
   |(go_at_call 71;refine(CP.out _).mono ?_;rintro e u ⟨rfl,rfl⟩)
   |(go_at_call 142;refine(D.out _).mono ?_;rintro e Y ⟨rfl,rfl⟩))
  exact⟨rfl,rfl,rfl⟩
 rw[xF hw]at kn;have U:dx l=true:=by unfold mX at hw;simp at hw;exact hw.1.1
 have G:1<=dw l:=by unfold mX at hw;simp at hw;exact hw.1.2
 have Bb:fF l most=dw l:=by rw[hs,nD,hw];rfl
 rw[xG (by rw[Bb];omega),Bb];have D:=H kn;have CP:=H cp;clear kn hw hs hh N cp U Bb G;go_enter func210,ntmps210;go_wp2_with (first
  |(go_at_call 71;refine(CP.out _).mono ?_;rintro e u ⟨rfl,rfl⟩)
  |(go_at_call 142;refine(D.out _).mono ?_;rintro e Y ⟨rfl,rfl⟩))
 go_ret;exact⟨rfl,rfl⟩
def zF (s:ByteArray)(x:Int):Ξ:=if fT s=true then δ (η s)else ε (bF x)
theorem P9 {s:ByteArray}{x:Int}(h:fT s=true):zF s x=δ (η s):=by unfold zF;rw[if_pos h]
theorem Fz {s:ByteArray}{x:Int}(h:fT s=false):zF s x=ε (bF x):=by unfold zF;rw[if_neg (by rw[h];exact ρ)]
theorem VB (s:ByteArray)(w:ν)(hs:s.size<=281474976710656):
 ο prog 132 #[η s] w λE Y=>E=δ (η s)/\Below w.heap.size w Y:=by
 have C:=Tryz.stringslite_Clone s w hs;go_enter func132,ntmps132;go_wp2_with (go_at_call 205;refine C.mono ?_;rintro e Y ⟨rfl,U⟩);go_ret;exact⟨rfl,U⟩
theorem zA (s:ByteArray)(x:Int)(w:ν)(hs:s.size<=maxLen):
 ο prog 75 #[η s,V Z x] w λE Y=>E=zF s x/\Below w.heap.size w Y:=by
 unfold maxLen at hs;by_cases G:1<=s.size
 case neg=>
  have h0:s.size=0:=by omega
  obtain rfl:s=⟨#[]⟩:=by
   apply ByteArray.ext;exact Array.eq_empty_of_size_eq_zero h0
  rw[Fz (by rfl)];clear h0 G hs;go_enter func75,ntmps75;go_wp2_with (go_at_call_of 65 (μ false);refine eT ?_);exact⟨rfl,rfl,κ _ _⟩
 have df:(s.toList==[])=false:=by
  rw[ByteArray.toList_eq,beq_eq_false_iff_ne];intro e;have K:s.data.toList.length=0:=by rw[e];rfl
  rw[ψ]at K;have A:s.data.size=s.size:=rfl;omega
 by_cases vB:s.size<=12
 case neg=>
  rw[Fz (by unfold fT;simp;intros;omega)];have YX:¬(s.size:Int)<=12:=by omega
  go_enter func75,ntmps75;go_wp2_with (go_at_call_of 65 (μ false);refine eT ?_);exact⟨rfl,rfl,κ _ _⟩
 have YX:(s.size:Int)<=12:=by omega
 go_enter func75,ntmps75;go_wp2_with (go_at_call_of 65 (μ true);refine dp ?_);go_loop [17] (λi=>∃k:Nat,k<=s.size/\i=V Z (k:Int)/\Ω ((s.data.toList.take k).all BK=true)) (λi=>s.size-(intOf i).toNat)
 case atStart=>exact⟨0,by omega,rfl,H (by simp)⟩
 case round=>
  obtain⟨k,I,rfl,bx⟩:=hrel;by_cases aQ:k<s.size
  case neg=>
   have ja:k=s.size:=by omega
   subst ja;have A:=bx.out;rw[XT]at A;have E:=H (P9 (x:=x) (show fT s=true by unfold fT;rw[A];simp[G,vB]));clear A bx;have C:=H (VB s w (by omega));go_wp2_with (go_at_call 132;refine(C.out).mono ?_;rintro e w2 ⟨rfl,U⟩);go_ret;exact⟨by rw[E.out];rfl,U⟩
  case pos=>
   cases hn:BK s[k]
   case false=>
    have e:fT s=false:=by
     unfold fT;rw[Χ];left;rw[Χ];left;rw[List.all_eq_false];exact⟨s[k],TB s k aQ,by rw[hn];exact ρ⟩
    have E:=H (Fz (x:=x) e);clear bx e;unfold BK at hn;rw[Bool.or_eq_false_iff]at hn;obtain⟨n1,n2⟩:=hn;by_cases a:97<=(s[k].toNat:Int)
    ·have b:decide ((s[k].toNat:Int)<=122)=false:=by rw[decide_eq_true a,Bool.true_and]at n1;exact n1
     clear n1;go_wp2_with (first
      |(go_at_call 131;refine(mg _ _).mono ?_;rintro e Y ⟨rfl,rfl⟩;rw[n2])
      |(go_at_call_of 65 (μ false);refine eT ?_))
     exact⟨rfl,by rw[E.out],κ _ _⟩
    have a':decide (97<=(s[k].toNat:Int))=false:=by simpa using a
    clear n1;go_wp2_with (first
     |(go_at_call 131;refine(mg _ _).mono ?_;rintro e Y ⟨rfl,rfl⟩;rw[n2])
     |(go_at_call_of 65 (μ false);refine eT ?_))
    exact⟨rfl,by rw[E.out],κ _ _⟩
   case true=>
    have abT:Ω ((s.data.toList.take (k+1)).all BK=true):=H (by rw[TA s k aQ];simp[bx.out,hn]);clear bx;unfold BK at hn;cases n2:(decide (48<=(s[k].toNat:Int))&&decide ((s[k].toNat:Int)<=57))
    ·rw[n2,Bool.or_false,ύ,decide_eq_true_eq,decide_eq_true_eq]at hn;obtain⟨a,b⟩:=hn;go_wp2_with (first
      |(go_at_call 131;refine(mg _ _).mono ?_;rintro e Y ⟨rfl,rfl⟩;rw[n2])
      |(go_at_call_of 65 (μ true);refine dp ?_))
     exact⟨⟨k+1,by omega,by go_num,abT⟩,by simp[intOf];omega⟩
    clear hn;go_wp2_with (first
     |(go_at_call 131;refine(mg _ _).mono ?_;rintro e Y ⟨rfl,rfl⟩;rw[n2])
     |(go_at_call_of 65 (μ true);refine dp ?_))
    exact⟨⟨k+1,by omega,by go_num,abT⟩,by simp[intOf];omega⟩
theorem agz (v o:ByteArray)(w:ν):ο prog 134 #[.agg #[η v,.bool true],η o] w λE Y=>E=δ (η v)/\Below w.heap.size w Y:=by
 go_enter func134,ntmps134;go_wp2;go_ret;exact⟨rfl,(κ _ _).alloc (ι _) _⟩
theorem aiU (v o:ByteArray)(w:ν):ο prog 134 #[.agg #[η v,.bool false],η o] w λE Y=>E=δ (η o)/\Below w.heap.size w Y:=by
 go_enter func134,ntmps134;go_wp2;go_ret;exact⟨rfl,(κ _ _).alloc (ι _) _⟩
def jL (w:ν)(b off:Nat)(ns:List (List UInt8)):Prop:=∀j,j<ns.length->w.cell? ⟨b,off+j,none⟩=some (η ⟨(ns.getD j []).toArray⟩)
def bU (l:List UInt8):ByteArray:=⟨l.toArray⟩
theorem xA {a b:List UInt8}:bU a=bU b↔a=b:=aev a b
theorem MR (l:List UInt8):∀(ns:List (List UInt8)) (i:Nat),Lib.idxFromS (ns.map bU) (bU l) i=match idx ns l with|none=> -1|some k=>((i+k:Nat):Int)
 |[],i=>rfl
 |a::r,i=>by
  rw[ϥ,Lib.idxFromS,idx];by_cases h:a=l
  ·rw[if_pos h,if_pos (xA.2 h)];rfl
  rw[if_neg h,if_neg (λe=>h (xA.1 e)),MR l r (i+1)];cases idx r l with
  |none=>rfl
  |some k=>show((i+1+k:Nat):Int)=((i+(k+1):Nat):Int);congr 1;omega
theorem adA (ns:List (List UInt8))(l:List UInt8):Lib.idxOfS (ns.map bU) (bU l)=match idx ns l with|none=> -1|some k=>(k:Int):=by
 unfold Lib.idxOfS;rw[MR];cases idx ns l with
 |none=>rfl
 |some k=>simp
theorem Zk (ns:List (List UInt8))(j:Nat)(h:j<ns.length):(ns.map bU).getD j ByteArray.empty=⟨(ns.getD j []).toArray⟩:=by
 simp[List.getD,h,bU]
def C9 (ns:List (List UInt8))(l:List UInt8)(x:Int):Ξ:=match idx ns l with|none=> ε (bF x)|some k=> δ (V Z k)
theorem sK {ns:List (List UInt8)}{l:List UInt8}{x:Int}(h:idx ns l=none):C9 ns l x=ε (bF x):=by unfold C9;rw[h]
theorem pk {ns:List (List UInt8)}{l:List UInt8}{x:Int}{k:Nat}(h:idx ns l=some k):C9 ns l x=δ (V Z k):=by unfold C9;rw[h]
theorem qg (b off cap:Nat)(ns:List (List UInt8))(l:List UInt8)(x:Int)(w:ν)(hn:ns.length<=100)(hc:jL w b off ns):
 ο prog 133 #[η ⟨l.toArray⟩,ζ (some ⟨b,off,none⟩) ns.length cap,V Z x] w λE Y=>E=C9 ns l x/\w=Y:=by
 have k:=Tryz.slices_Index_string b off ns.length cap (ns.map bU) (bU l) w (by simp) (by omega) (λj hj=>by rw[Ι]at hj;rw[Zk ns j hj];exact hc j hj);rw[Ϝ (by simp),adA]at k;cases S:idx ns l with
 |none=>
  rw[sK S];rw[S]at k;have atH:=H k;clear k S hc hn;go_enter func133,ntmps133;go_wp2_with (first
   |(go_at_call 206;refine(atH.out).mono ?_;rintro e Y ⟨rfl,rfl⟩)
   |(go_at_call_of 65 (μ false);refine eT ?_))
  exact⟨rfl,rfl,rfl⟩
 |some i=>
  rw[pk S];rw[S]at k;have atH:=H k;clear k S hc hn;go_enter func133,ntmps133;go_wp2_with (first
   |(go_at_call 206;refine(atH.out).mono ?_;rintro e Y ⟨rfl,rfl⟩)
   |(go_at_call_of 65 (μ true);refine dp ?_))
  go_ret;exact⟨rfl,rfl⟩
structure cV (w:ν)(g:Nat)(f:Nat->Option (List UInt8)):Prop where
 lt:g<w.heap.size
 val:∀k,k<9->w.cell? ⟨g,k*2,none⟩=some (η ⟨((f k).getD []).toArray⟩)
 there:∀k,k<9->w.cell? ⟨g,k*2+1,none⟩=some (.bool (f k).isSome)
 fv:∀k,k<9->w.frozen? ⟨g,k*2,none⟩=false
 ft:∀k,k<9->w.frozen? ⟨g,k*2+1,none⟩=false
def oh (ns:List (List UInt8))(c:UInt8)(ps:List (List UInt8))(x:Int)(w:ν)(E:Ξ)(Y:ν):Prop:=
 (match eH ns c ps (λ_=>none)with
 |none=>E=ε (bF x)
 |some F=>∃g,E=δ (ζ (some ⟨g,0,none⟩) 9 9)/\w.heap.size<=g/\cV Y g F)/\Below w.heap.size w Y
def MT:Array Value:=#[η ⟨#[]⟩,.bool false,η ⟨#[]⟩,.bool false,η ⟨#[]⟩,.bool false,η ⟨#[]⟩,.bool false,η ⟨#[]⟩,.bool false,η ⟨#[]⟩,.bool false,η ⟨#[]⟩,.bool false,η ⟨#[]⟩,.bool false,η ⟨#[]⟩,.bool false]
theorem aiV (w:ν):(Instr.makeSlice 118 (V Z 9) (V Z 9)).run prog w=.ok (ζ (some ⟨w.heap.size,0,none⟩) 9 9) (w.alloc (θ MT 122)):=by
 kernel_rfl
theorem adB (w:ν):cV (w.alloc (θ MT 122)) w.heap.size (λ_=>none):=by
 refine⟨by simp,λk I=>?_,λk I=>?_,λk I=>by simp[go_sem],λk I=>by simp[go_sem]⟩
 ·have:k=0\/k=1\/k=2\/k=3\/k=4\/k=5\/k=6\/k=7\/k=8:=by omega
  rcases this with rfl|rfl|rfl|rfl|rfl|rfl|rfl|rfl|rfl<;>simp[go_sem,MT]
 have:k=0\/k=1\/k=2\/k=3\/k=4\/k=5\/k=6\/k=7\/k=8:=by omega
 rcases this with rfl|rfl|rfl|rfl|rfl|rfl|rfl|rfl|rfl<;>simp[go_sem,MT]
theorem yL {w Y:ν}{b off:Nat}{ns:List (List UInt8)}(h:jL w b off ns)(U:b<w.heap.size)(X:Below w.heap.size w Y):jL Y b off ns:=λj hj=>by
 rw[X.cell (p:=⟨b,off+j,none⟩) U];exact h j hj
theorem Bc:∀{ns:List (List UInt8)} {n:List UInt8} {k:Nat},idx ns n=some k->k<ns.length
 |[],n,k,h=>by simp[idx]at h
 |a::r,n,k,h=>by
  rw[idx]at h;by_cases e:a=n
  ·rw[if_pos e]at h;cases h;simp
  rw[if_neg e]at h;obtain⟨j,hj,rfl⟩:=Option.map_eq_some_iff.1 h;have:=Bc hj;simp;omega
theorem Hn (b off cap:Nat)(ns:List (List UInt8))(l:List UInt8)(x:Int)(w:ν)(hn:ns.length=9)(hc:jL w b off ns):
 ο prog 133 #[η ⟨l.toArray⟩,ζ (some ⟨b,off,none⟩) 9 cap,V Z x] w λE Y=>E=C9 ns l x/\w=Y:=by
 have:=qg b off cap ns l x w (by omega) hc;rw[hn]at this;exact this
theorem cV.on {w Y:ν}{g:Nat}{f:Nat->Option (List UInt8)}(h:cV w g f)(U:Below w.heap.size w Y):cV Y g f:=
 ⟨Ϡ h.lt U.size,λk I=>by rw[U.cell (p:=⟨g,k*2,none⟩) h.lt];exact h.val k I,λk I=>by rw[U.cell (p:=⟨g,k*2+1,none⟩) h.lt];exact h.there k I,
  λk I=>by rw[U.frozen (p:=⟨g,k*2,none⟩) h.lt];exact h.fv k I,λk I=>by rw[U.frozen (p:=⟨g,k*2+1,none⟩) h.lt];exact h.ft k I⟩
theorem xH {g i k:Nat}(h:i≠k):(⟨g,i,none⟩:Addr)≠⟨g,k,none⟩:=λe=>h (congrArg Addr.off e)
theorem cV.put {w:ν}{g j:Nat}{f:Nat->Option (List UInt8)}(h:cV w g f)(hj:j<9)(v:List UInt8):
 cV ((w.setCell ⟨g,j*2,none⟩ (η ⟨v.toArray⟩)).setCell ⟨g,j*2+1,none⟩ (.bool true)) g (λi=>if i=j then some v else f i):=by
 refine⟨by rw[fZ,fZ];exact h.lt,λk I=>?_,λk I=>?_,λk I=>by rw[Γ,Γ];exact h.fv k I,λk I=>by rw[Γ,Γ];exact h.ft k I⟩
 ·rw[χ _ _ _ _ (xH (by omega))];by_cases e:k=j
  ·subst e;rw[World.cell?_setCell_same _ _ _ (h.val k I),if_pos rfl];rfl
  rw[χ _ _ _ _ (xH (by omega)),if_neg e];exact h.val k I
 by_cases e:k=j
 ·subst e;rw[World.cell?_setCell_same _ _ _ ((χ _ _ _ _ (xH (by omega))).trans (h.there k I)),if_pos rfl];rfl
 rw[χ _ _ _ _ (xH (by omega)),χ _ _ _ _ (xH (by omega)),if_neg e];exact h.there k I
theorem FO (b off cap nb MU SB:Nat)(ns ps:List (List UInt8))(c:UInt8)(x:Int)(w:ν)(hn:ns.length=9)(J:ps.length<=1048576)(hs:∀l∈ps,l.length<=1048576)
 (U:b<w.heap.size)(ji:nb<w.heap.size)(hc:jL w b off ps)(Ps:jL w nb MU ns):
 ο prog 129 #[ζ (some ⟨b,off,none⟩) ps.length cap,η ⟨#[c]⟩,ζ (some ⟨nb,MU,none⟩) 9 SB,V Z x] w (oh ns c ps x w):=by
 have HC:=H hc;have HN:=H Ps;have HS:=H hs;have HL:=H hn;clear hc Ps hs hn;have mk:=aiV;go_enter func129,ntmps129;go_wp2;have kD:cV (w.alloc (θ MT 122)) w.heap.size (λ_=>none):=adB w;go_loopw [21] (λi wr=>∃(k:Nat) (f:Nat->Option (List UInt8)),k<=ps.length/\i=V Z k/\cV wr w.heap.size f/\Below w.heap.size w wr/\Ω (eH ns c ps (λ_=>none)=eH ns c (ps.drop k) f)) (λi _=>ps.length-(intOf i).toNat)
 case atStart=>exact⟨0,_,ώ _,rfl,kD,(κ _ _).alloc (ι _) _,H (by simp)⟩
 case round=>
  obtain⟨k,f,I,rfl,hf,dJ,HT⟩:=hrel;have hB:=dJ.size;clear kD mk;by_cases aQ:k<ps.length
  case neg=>
   have ja:k=ps.length:=by omega
   subst ja;have HE:Ω (eH ns c ps (λ_=>none)=some f):=H (by rw[HT.out,Υ];rfl);clear HT;go_wp2;go_ret;unfold oh;rw[HE.out];exact⟨⟨_,rfl,ι _,hf⟩,dJ⟩
  case pos=>
   obtain⟨l,N⟩:∃l,ps[k]?=some l:=⟨_,τ aQ⟩;have iU:wr.cell? ⟨b,off+k,none⟩=some (η ⟨l.toArray⟩):=by
    rw[dJ.cell (p:=⟨b,off+k,none⟩) U,HC.out k aQ];simp[List.getD,N]
   have Jb:l.length<=maxLen:=by have:=HS.out l (Ψ N);unfold maxLen;omega
   have hd:ps.drop k=l::ps.drop (k+1):=by
    obtain⟨cj,he⟩:=List.getElem?_eq_some_iff.1 N;rw[π cj,he]
   have CC:=yJ l c wr Jb;unfold tc at CC;cases pc:sp c l with
   |none=>
    have HE:Ω (eH ns c ps (λ_=>none)=none):=H (by rw[HT.out,hd,eH];unfold vx;rw[pc]);rw[pc]at CC;have C:=H CC;clear HT CC pc hd N;go_wp2_with (first
     |(go_at_call 72;refine(C.out).mono ?_;rintro e w1 ⟨rfl,au⟩)
     |(go_at_call_of 65 (μ false);refine eT ?_))
    refine⟨rfl,?_⟩;unfold oh;rw[HE.out];exact⟨rfl,dJ.trans (au.mono hB)⟩
   |some q=>
    obtain⟨n,v⟩:=q;rw[pc]at CC;have C:=H CC;cases S:idx ns n with
    |none=>
     have HE:Ω (eH ns c ps (λ_=>none)=none):=H (by rw[HT.out,hd,eH];unfold vx;rw[pc];simp only[];rw[S];rfl);have HX:=H (sK (x:=x) S);clear HT CC pc hd N S;go_wp2_with (first
      |(go_at_call 72;refine(C.out).mono ?_;rintro e w1 ⟨rfl,au⟩)
      |(go_at_call_of 65 (μ true);refine dp ?_)
      |(go_at_call 133;refine(Hn nb MU SB ns n x _ HL.out (yL HN.out ji (dJ.trans (au.mono hB)))).mono ?_;rw[HX.out];rintro e Y ⟨rfl,rfl⟩))
     refine⟨rfl,?_⟩;unfold oh;rw[HE.out];exact⟨rfl,dJ.trans (au.mono hB)⟩
    |some j=>
     have hj:j<9:=by have:=Bc S;rw[HL.out]at this;exact this
     have HX:=H (pk (x:=x) S);cases hfj:(f j).isSome
     case true=>
      have HE:Ω (eH ns c ps (λ_=>none)=none):=H (by rw[HT.out,hd,eH];unfold vx;rw[pc];simp only[];rw[S];simp only[Ζ];rw[if_pos hfj]);clear HT CC pc hd N S;go_wp2_with (first
       |(go_at_call 72;refine(C.out).mono ?_;rintro e w1 ⟨rfl,au⟩;have ct:=(hf.on au).there j hj;rw[hfj]at ct)
       |(go_at_call_of 65 (μ true);refine dp ?_)
       |(go_at_call_of 65 (μ false);refine eT ?_)
       |(go_at_call 133;refine(Hn nb MU SB ns n x _ HL.out (yL HN.out ji (dJ.trans (au.mono hB)))).mono ?_;rw[HX.out];rintro e Y ⟨rfl,rfl⟩))
      refine⟨rfl,?_⟩;unfold oh;rw[HE.out];exact⟨rfl,dJ.trans (au.mono hB)⟩
     case false=>
      have HE:Ω (eH ns c ps (λ_=>none)=eH ns c (ps.drop (k+1)) (λi=>if i=j then some v else f i)):=H (by rw[HT.out,hd,eH];unfold vx;rw[pc];simp only[];rw[S];simp only[Ζ];rw[if_neg (by rw[hfj];exact ρ)]);clear HT CC pc hd N S;go_wp2_with (first
       |(go_at_call 72;refine(C.out).mono ?_;rintro e w1 ⟨rfl,au⟩;have JB:=hf.on au;have ct:=JB.there j hj;rw[hfj]at ct;have cv:=JB.val j hj;have fv:=JB.fv j hj;have ft:=JB.ft j hj)
       |(go_at_call_of 65 (μ true);refine dp ?_)
       |(go_at_call 133;refine(Hn nb MU SB ns n x _ HL.out (yL HN.out ji (dJ.trans (au.mono hB)))).mono ?_;rw[HX.out];rintro e Y ⟨rfl,rfl⟩))
      go_roundw
      case rel=>exact⟨k+1,_,by omega,by go_num,JB.put hj v,((dJ.trans (au.mono hB)).setCell (ι _) _).setCell (ι _) _,HE⟩
      case measure=>simp[intOf];omega
def bE (f:Option (List UInt8)):Value:=.agg #[η ⟨(f.getD []).toArray⟩,.bool f.isSome]
theorem jc (w:ν)(ns:List (List UInt8))(t:Ρ):jL (w.alloc (θ (strs ns).toArray t)) w.heap.size 0 ns:=λj hj=>by
 rw[Κ];simp[go_sem,strs,List.getD,hj]
def jd:List (List UInt8):=[[68,65,73,76,89],[87,69,69,75,76,89],[77,79,78,84,72,76,89],[89,69,65,82,76,89]]
theorem Cf (v:List UInt8)(b:Bool)(w:ν):
 ο prog 141 #[.agg #[η ⟨v.toArray⟩,.bool b]] w λE Y=>E=C9 jd v 3/\Below w.heap.size w Y:=by
 have bp:(w.alloc (θ #[η ⟨v.toArray⟩,.bool b] 122)).heap.size=w.heap.size+1:=by simp
 have C:=H (qg (w.heap.size+1) 0 4 jd v 3 ((w.alloc (θ #[η ⟨v.toArray⟩,.bool b] 122)).alloc (θ (strs jd).toArray 9)) (by decide)
  (by have:=jc (w.alloc (θ #[η ⟨v.toArray⟩,.bool b] 122)) jd 9;rw[bp]at this;exact this))
 clear bp;cases S:idx jd v with
 |none=>
  have HX:=H (sK (x:=3) S);rw[HX.out];clear S;go_enter func141,ntmps141;go_wp2_with (go_at_call 133;refine(C.out).mono ?_;rw[HX.out];rintro e Y ⟨rfl,rfl⟩);exact⟨rfl,rfl,((κ _ _).alloc (ι _) _).alloc (by simp) _⟩
 |some k=>
  have HX:=H (pk (x:=3) S);rw[HX.out];clear S;go_enter func141,ntmps141;go_wp2_with (go_at_call 133;refine(C.out).mono ?_;rw[HX.out];rintro e Y ⟨rfl,rfl⟩);go_ret;exact⟨rfl,((κ _ _).alloc (ι _) _).alloc (by simp) _⟩
theorem qh (v:List UInt8)(w:ν):
 ο prog 150 #[η ⟨v.toArray⟩] w λE Y=>E=C9 jO v 3/\Below w.heap.size w Y:=by
 have C:=H λW=>qg W.heap.size 0 7 jO v 3 (W.alloc (θ (strs jO).toArray 9)) (by decide) (jc W jO 9);cases S:idx jO v with
 |none=>
  have HX:=H (sK (x:=3) S);rw[HX.out];clear S;go_enter func150,ntmps150;go_wp2_with (go_at_call 133;refine(C.out _).mono ?_;rw[HX.out];rintro e Y ⟨rfl,rfl⟩);exact⟨rfl,rfl,(κ _ _).alloc (ι _) _⟩
 |some k=>
  have HX:=H (pk (x:=3) S);rw[HX.out];clear S;go_enter func150,ntmps150;go_wp2_with (go_at_call 133;refine(C.out _).mono ?_;rw[HX.out];rintro e Y ⟨rfl,rfl⟩);go_ret;exact⟨rfl,(κ _ _).alloc (ι _) _⟩
def MV (f:Option (List UInt8)):Ξ:=match f with|none=> δ (V Z 0)|some v=>FM v 1 1000 3
theorem Ku (f:Option (List UInt8))(w:ν)(hf:(f.getD []).length<=maxLen):
 ο prog 143 #[bE f] w λE Y=>E=MV f/\Below w.heap.size w Y:=by
 cases f with
 |none=>
  unfold bE MV;go_enter func143,ntmps143;go_wp2;go_ret;exact⟨rfl,(κ _ _).alloc (ι _) _⟩
 |some v=>
  have k:=λW=>js v 1 1000 3 W hf;unfold bE MV;cases hw:mX v 1 1000
  ·have HX:=H (uZ (x:=3) hw);simp only[];rw[HX.out];rw[HX.out]at k;have C:=H k;clear k hw hf HX;go_enter func143,ntmps143;go_wp2_with (go_at_call 142;refine(C.out _).mono ?_;rintro e Y ⟨rfl,rfl⟩);exact⟨rfl,rfl,(κ _ _).alloc (ι _) _⟩
  have HX:=H (xF (x:=3) hw);simp only[];rw[HX.out];rw[HX.out]at k;have C:=H k;clear k hw hf HX;go_enter func143,ntmps143;go_wp2_with (go_at_call 142;refine(C.out _).mono ?_;rintro e Y ⟨rfl,rfl⟩);go_ret;exact⟨rfl,(κ _ _).alloc (ι _) _⟩
def MW (f:Option (List UInt8)):Ξ:=match f with
 |none=> δ (V Z 9223372036854775807)
 |some v=>if lq (bU v)=true then δ (V Z (jA (bU v)))else ε (bF 3)
theorem Kv (f:Option (List UInt8))(w:ν):
 ο prog 144 #[bE f] w λE Y=>E=MW f/\Below w.heap.size w Y:=by
 cases f with
 |none=>
  unfold bE MW;go_enter func144,ntmps144;go_wp2;go_ret;exact⟨rfl,(κ _ _).alloc (ι _) _⟩
 |some v=>
  have k:=λW=>zY (bU v) W;unfold bE MW;simp only[];by_cases ht:lq (bU v)=true
  ·rw[ye (gw.1 ht)]at k;rw[if_pos ht];have C:=H k;clear k ht;go_enter func144,ntmps144;go_wp2_with (first
    |(go_at_call 19;refine(C.out _).mono ?_;rintro e w1 ⟨rfl,au⟩)
    |(go_at_call_of 65 (μ true);refine dp ?_))
   go_ret;exact⟨rfl,((κ _ _).alloc (ι _) _).trans (au.mono (by simp))⟩
  rw[zQ (λh=>ht (gw.2 h))]at k;rw[if_neg ht];have C:=H k;clear k ht;go_enter func144,ntmps144;go_wp2_with (first
   |(go_at_call 19;refine(C.out _).mono ?_;rintro e w1 ⟨rfl,au⟩)
   |(go_at_call_of 65 (μ false);refine eT ?_))
  exact⟨rfl,rfl,((κ _ _).alloc (ι _) _).trans (au.mono (by simp))⟩
theorem Kw (v:List UInt8)(w:ν)(N:v.length<=maxLen):
 ο prog 145 #[η ⟨v.toArray⟩] w λE Y=>E=FM v 1 12 3/\Below w.heap.size w Y:=by
 have k:=λW=>js v 1 12 3 W N;cases hw:mX v 1 12
 ·rw[uZ hw]at k⊢;have C:=H k;clear k hw N;go_enter func145,ntmps145;go_wp2_with (go_at_call 142;refine(C.out _).mono ?_;rintro e Y ⟨rfl,rfl⟩);exact⟨rfl,rfl,κ _ _⟩
 rw[xF hw]at k⊢;have C:=H k;clear k hw N;go_enter func145,ntmps145;go_wp2_with (go_at_call 142;refine(C.out _).mono ?_;rintro e Y ⟨rfl,rfl⟩);go_ret;exact⟨rfl,κ _ _⟩
theorem D3 (v:List UInt8)(w:ν)(N:v.length<=maxLen):
 ο prog 146 #[η ⟨v.toArray⟩] w λE Y=>E=FN v 31 3/\Below w.heap.size w Y:=by
 have k:=λW=>qf v 31 3 W N;by_cases hw:fF v 31=0
 ·rw[Ba hw]at k⊢;have C:=H k;clear k hw N;go_enter func146,ntmps146;go_wp2_with (go_at_call 210;refine(C.out _).mono ?_;rintro e Y ⟨rfl,rfl⟩);exact⟨rfl,rfl,κ _ _⟩
 rw[xG hw]at k⊢;have C:=H k;clear k hw N;go_enter func146,ntmps146;go_wp2_with (go_at_call 210;refine(C.out _).mono ?_;rintro e Y ⟨rfl,rfl⟩);go_ret;exact⟨rfl,κ _ _⟩
theorem Kx (v:List UInt8)(w:ν)(N:v.length<=maxLen):
 ο prog 149 #[η ⟨v.toArray⟩] w λE Y=>E=FN v 366 3/\Below w.heap.size w Y:=by
 have k:=λW=>qf v 366 3 W N;by_cases hw:fF v 366=0
 ·rw[Ba hw]at k⊢;have C:=H k;clear k hw N;go_enter func149,ntmps149;go_wp2_with (go_at_call 210;refine(C.out _).mono ?_;rintro e Y ⟨rfl,rfl⟩);exact⟨rfl,rfl,κ _ _⟩
 rw[xG hw]at k⊢;have C:=H k;clear k hw N;go_enter func149,ntmps149;go_wp2_with (go_at_call 210;refine(C.out _).mono ?_;rintro e Y ⟨rfl,rfl⟩);go_ret;exact⟨rfl,κ _ _⟩
theorem nE (s:ByteArray)(w:ν):
 ο prog 78 #[η s] w λE Y=>E=tF s/\Below w.heap.size w Y:=by
 have k:=λW=>zY s W;by_cases ht:lq s=true
 ·rw[ye (gw.1 ht)]at k;rw[vC (gw.1 ht)];have C:=H k;clear k ht;go_enter func78,ntmps78;go_wp2_with (first
   |(go_at_call 19;refine(C.out _).mono ?_;rintro e w1 ⟨rfl,au⟩)
   |(go_at_call_of 65 (μ true);refine dp ?_))
  go_ret;exact⟨rfl,au⟩
 rw[zQ (λh=>ht (gw.2 h))]at k;rw[ko (λh=>ht (gw.2 h))];have C:=H k;clear k ht;go_enter func78,ntmps78;go_wp2_with (first
  |(go_at_call 19;refine(C.out _).mono ?_;rintro e w1 ⟨rfl,au⟩)
  |(go_at_call_of 65 (μ false);refine eT ?_))
 exact⟨rfl,rfl,au⟩
open Go.Lib
def bY (c:UInt8):List UInt8->List (List UInt8)
 |[]=>[[]]
 |a::r=>if a=c then[]::bY c r else match bY c r with|[]=>[[a]]|h::t=>(a::h)::t
theorem Bd (c:UInt8)(l:List UInt8):bY c l≠[]:=by
 cases l with
 |nil=>simp[bY]
 |cons a r=>
  rw[bY];split
  ·simp
  split<;>simp
def glue (acc:List UInt8):List (List UInt8)->List (List UInt8)
 |[]=>[acc]
 |h::t=>(acc++h)::t
theorem vb {l:List (List UInt8)}(h:l≠[]):glue [] l=l:=by
 cases l with
 |nil=>exact absurd rfl h
 |cons a t=>rfl
theorem Zl {c a:UInt8}{acc r:List UInt8}(h:a=c):glue acc (bY c (a::r))=acc::bY c r:=by
 rw[bY,if_pos h];simp[glue]
theorem VC {c a:UInt8}{acc r:List UInt8}(h:¬a=c):glue acc (bY c (a::r))=glue (acc++[a]) (bY c r):=by
 rw[bY,if_neg h];cases hs:bY c r with
 |nil=>exact absurd hs (Bd c r)
 |cons x t=>simp[glue]
theorem Qv (s:ByteArray)(c:UInt8):∀k,k<=s.size->(mG s c.toNat k).2.map (·.data.toList)++glue (cut s (mG s c.toNat k).1 (k-(mG s c.toNat k).1)) (bY c (s.data.toList.drop k))=bY c s.data.toList
 |0,_=>by simp[mG,cut,vb (Bd c _)]
 |k+1,I=>by
  have ih:=Qv s c k (by omega);have hf:=(aer s c.toNat k).1;rw[drop_cons s k (by omega)]at ih;by_cases h:s[k]'(by omega)=c
  ·have h':pA s k=(c.toNat:Int):=by rw[<-tP s k (by omega),h]
   rw[Zl h]at ih;rw[O6 h',<-ih];simp only[Nat.sub_self,List.map_append,ϥ,List.map_nil,gU,List.append_assoc,List.singleton_append];rw[show cut s (k+1) 0=[]from by simp[cut],vb (Bd c _)]
  have h':¬pA s k=(c.toNat:Int):=λe=>by
   rw[<-tP s k (by omega)]at e;exact h (UInt8.toNat_inj.1 (by omega))
  rw[VC h]at ih;rw[Lb h',<-ih,show k+1-(mG s c.toNat k).1=(k-(mG s c.toNat k).1)+1 from by omega,K8 s _ _ (by omega)];have:s[(mG s c.toNat k).1+(k-(mG s c.toNat k).1)]'(by omega)=s[k]'(by omega):=by congr 1;omega
  rw[this]
theorem FP (s:ByteArray)(c:UInt8):(jN s c.toNat).map (·.data.toList)=bY c s.data.toList:=by
 have h:=Qv s c s.size (ι _);rw[aiC]at h;rw[<-h];unfold jN;simp[bY,glue,cut]
theorem MX {c:UInt8}:∀{l:List UInt8},c∉l->bY c l=[l]
 |[],_=>rfl
 |a::r,h=>by
  rw[ϊ]at h;rw[bY,if_neg (λe=>h (.inl e.symm)),MX (λm=>h (.inr m))]
theorem VD {c:UInt8}:∀{x y:List UInt8},c∉x->bY c (x++c::y)=x::bY c y
 |[],y,_=>by rw[Ϗ,bY,if_pos rfl]
 |a::r,y,h=>by
  rw[ϊ]at h;rw[List.cons_append,bY,if_neg (λe=>h (.inl e.symm)),VD (λm=>h (.inr m))]
theorem FQ (c:UInt8):∀(n:Nat) (l:List UInt8),l.length<=n->splitK [c] 0 (count l [c]) l=bY c l
 |n,l,hn=>by
  have MN:=indexByte_ge l c;by_cases hm:indexByte l c=-1
  ·have G:index l [c]=-1:=(index_one l c).trans hm;rw[count_miss G,MX]
   ·rfl
   intro m;obtain⟨k,I⟩:=Η m;exact indexByte_none hm k I
  obtain⟨o,ho⟩:∃o:Nat,indexByte l c=o:=⟨(indexByte l c).toNat,by omega⟩;have G:index l [c]=o:=(index_one l c).trans ho;obtain⟨g1,g2⟩:=indexByte_some ho;have aQ:o<l.length:=(List.getElem?_eq_some_iff.1 g1).1;have e:l=l.take o++c::l.drop (o+1):=by
   conv=>lhs;rw[<-Ϟ o l]
   rw[π aQ];rw[τ aQ]at g1;rw[Option.some.inj g1]
  have MI:c∉l.take o:=by
   intro m;obtain⟨k,I⟩:=Η m;rw[List.getElem?_take]at I;by_cases q:k<o
   ·rw[if_pos q]at I;exact g2 k q I
   rw[if_neg q]at I;cases I
  have MY:¬(index l [c]==-1)=true:=λe=>by have:=beq_iff_eq.1 e;omega
  have et:(index l [c]).toNat=o:=by omega
  have hr:bY c l=l.take o::bY c (l.drop (o+1)):=by
   conv=>lhs;rw[e]
   exact VD MI
  rw[count_hit (by simp) G,Nat.add_comm,splitK,if_neg MY,et,hr];cases n with
  |zero=>omega
  |succ n=>
   have:=FQ c n (l.drop (o+1)) (by rw[List.length_drop];omega);simpa using this
def ML (w:ν):Prop:=0<w.heap.size/\∃m:Int,w.cell? ⟨0,0,none⟩=some (V Z m)
theorem ML.on {w Y:ν}(h:ML w)(U:Below w.heap.size w Y):ML Y:=by
 obtain⟨G,m,A⟩:=h;exact⟨Ϡ G U.size,m,by rw[U.cell (p:=⟨0,0,none⟩) G];exact A⟩
theorem FR (l:List UInt8)(c:UInt8):(Lib.splitB ⟨#[c]⟩ 0 (Ϛ ⟨l.toArray⟩ ⟨#[c]⟩) ⟨l.toArray⟩).map Value.string=strs (bY c l):=by
 have G:=Lib.splitB_data ⟨#[c]⟩ 0 (Ϛ ⟨l.toArray⟩ ⟨#[c]⟩) ⟨l.toArray⟩;have A:Lib.splitK [c] 0 (Lib.count l [c]) l=bY c l:=FQ c l.length l (ι _);have K:(Lib.splitB ⟨#[c]⟩ 0 (Ϛ ⟨l.toArray⟩ ⟨#[c]⟩) ⟨l.toArray⟩).map (·.data.toList)=bY c l:=G.trans A;rw[<-K];unfold strs;rw[ϧ];apply ϟ;intro a _;simp
theorem OO (l:List UInt8)(c:UInt8):Ϛ ⟨l.toArray⟩ ⟨#[c]⟩+1=(bY c l).length:=by
 have G:=Lib.splitB_all ⟨#[c]⟩ (ι 1) 0 _ ⟨l.toArray⟩ rfl;have A:=congrArg List.length (FR l c);rw[Ι,Ci]at A;omega
theorem ve (l:List UInt8)(c:UInt8)(w:ν)(hm:ML w)(N:l.length<=1048576):
 ο prog 139 #[η ⟨l.toArray⟩,η ⟨#[c]⟩] w λe Y=>e=δ (ζ (some ⟨w.heap.size,0,none⟩) (bY c l).length (bY c l).length)/\Y=w.alloc (θ (strs (bY c l)).toArray 9):=by
 obtain⟨_,m,hm⟩:=hm;have k:=Tryz.strings_Split ⟨l.toArray⟩ ⟨#[c]⟩ m w (by show l.length<4294967281;omega) hm (ι 1);rw[FR,OO]at k;exact k
theorem VE (l:List UInt8)(c:UInt8):(bY c l).length<=l.length+1:=by
 induction l with
 |nil=>simp[bY]
 |cons a r ih=>
  rw[bY];split
  ·simp;omega
  cases hs:bY c r with
  |nil=>simp
  |cons x t=>rw[hs]at ih;simp at ih⊢;omega
def lV (v:List UInt8):Option (Int×Int):=match idx jO (v.drop (v.length-2))with
 |none=>none
 |some k=>if v.length<=2 then some (0,k)else if fF (v.take (v.length-2)) 53=0 then none else some (fF (v.take (v.length-2)) 53,k)
def zG (v:List UInt8):Ξ:=match lV v with
 |none=> ε (bF 3)
 |some q=> δ (.agg #[V Z q.1,V Z q.2])
theorem Be {w w1:ν}{x y:Value}{t:Ρ}(U:Below (w.alloc (θ #[x,y] t)).heap.size (w.alloc (θ #[x,y] t)) w1):
 w1.cell? ⟨w.heap.size,0,none⟩=some x/\w1.cell? ⟨w.heap.size,1,none⟩=some y/\w1.frozen? ⟨w.heap.size,0,none⟩=false/\w1.frozen? ⟨w.heap.size,1,none⟩=false/\w.heap.size<w1.heap.size:=by
 have hs:=U.size;simp at hs;exact⟨by rw[U.cell (p:=⟨w.heap.size,0,none⟩) (by simp)];simp[go_sem],by rw[U.cell (p:=⟨w.heap.size,1,none⟩) (by simp)];simp[go_sem],
  by rw[U.frozen (p:=⟨w.heap.size,0,none⟩) (by simp)];simp[go_sem],by rw[U.frozen (p:=⟨w.heap.size,1,none⟩) (by simp)];simp[go_sem],by omega⟩
theorem FT (v:List UInt8)(w:ν)(N:v.length<=1048576):
 ο prog 148 #[η ⟨v.toArray⟩] w λE Y=>E=zG v/\Below w.heap.size w Y:=by
 by_cases A:v.length<=2
 ·have hd:v.drop (v.length-2)=v:=by rw[Nat.sub_eq_zero_of_le A];rfl
  have k:=λW=>qh v W;have X:(⟨v.toArray⟩:ByteArray).extract 0 v.length=⟨v.toArray⟩:=by have:=uY v 0;simpa using this
  have FU:max ((v.length:Int)-2) 0=0:=by omega
  cases S:idx jO v with
  |none=>
   rw[show zG v=ε (bF 3)from by unfold zG lV;rw[hd,S]];rw[sK S]at k;have C:=H k;clear k S hd A;go_enter func148,ntmps148;go_wp2_with (go_at_call 150;refine(C.out _).mono ?_;rintro e w1 ⟨rfl,au⟩);exact⟨rfl,rfl,((κ _ _).alloc (ι _) _).trans (au.mono (by simp))⟩
  |some j=>
   rw[show zG v=δ (.agg #[V Z 0,V Z j])from by unfold zG lV;rw[hd,S];simp only[];rw[if_pos A]];rw[pk S]at k;have C:=H k;clear k S hd A;go_enter func148,ntmps148;go_wp2_with (go_at_call 150;refine(C.out _).mono ?_;rintro e w1 ⟨rfl,au⟩;obtain⟨c0,c1,f0,f1,bp⟩:=Be au);have al:Below w.heap.size w w1:=((κ _ _).alloc (ι _) _).trans (au.mono (by simp));exact bodyPost_ret (v:=.agg #[V Z 0,V Z j]) (by simp[results,results148,go_sem,c0,c1,bp]) rfl ⟨rfl,((al.setCell (ι _) _).setCell (ι _) _).alloc (by rw[fZ,fZ];omega) _⟩
 obtain⟨n,hn⟩:∃n,n=v.length-2:=⟨_,rfl⟩;have FU:max ((v.length:Int)-2) 0=(n:Int):=by omega
 have X:(⟨v.toArray⟩:ByteArray).extract n v.length=⟨(v.drop n).toArray⟩:=uY v n;have bL:(⟨v.toArray⟩:ByteArray).extract 0 n=⟨(v.take n).toArray⟩:=A9 v n;have k:=λW=>qh (v.drop n) W;have q:=λW=>qf (v.take n) 53 3 W (by rw[List.length_take];unfold maxLen;omega);have o7:(n:Int)<=v.length:=by omega
 have Su:(0:Int)<n:=by omega
 cases S:idx jO (v.drop n)with
 |none=>
  rw[show zG v=ε (bF 3)from by unfold zG lV;rw[<-hn,S]];rw[sK S]at k;have C:=H k;clear k S q A hn;go_enter func148,ntmps148;go_wp2_with (go_at_call 150;refine(C.out _).mono ?_;rintro e w1 ⟨rfl,au⟩);exact⟨rfl,rfl,((κ _ _).alloc (ι _) _).trans (au.mono (by simp))⟩
 |some j=>
  rw[pk S]at k;have C:=H k;by_cases hz:fF (v.take n) 53=0
  ·rw[show zG v=ε (bF 3)from by unfold zG lV;rw[<-hn,S];simp only[];rw[if_neg A,if_pos hz]];rw[Ba hz]at q;have D:=H q;clear k S q A hn hz;go_enter func148,ntmps148;go_wp2_with (first
    |(go_at_call 150;refine(C.out _).mono ?_;rintro e w1 ⟨rfl,au⟩;obtain⟨c0,c1,f0,f1,bp⟩:=Be au)
    |(go_at_call 210;refine(D.out _).mono ?_;rintro e Y ⟨rfl,rfl⟩))
   have al:Below w.heap.size w w1:=((κ _ _).alloc (ι _) _).trans (au.mono (by simp));exact⟨rfl,rfl,al.alloc (by omega) _⟩
  rw[show zG v=δ (.agg #[V Z (fF (v.take n) 53),V Z j])from by unfold zG lV;rw[<-hn,S];simp only[];rw[if_neg A,if_neg hz]];rw[xG hz]at q;have D:=H q;clear k S q A hn hz;go_enter func148,ntmps148;go_wp2_with (first
   |(go_at_call 150;refine(C.out _).mono ?_;rintro e w1 ⟨rfl,au⟩;obtain⟨c0,c1,f0,f1,bp⟩:=Be au)
   |(go_at_call 210;refine(D.out _).mono ?_;rintro e Y ⟨rfl,rfl⟩))
  have al:Below w.heap.size w w1:=((κ _ _).alloc (ι _) _).trans (au.mono (by simp));exact bodyPost_ret (v:=.agg #[V Z (fF (v.take n) 53),V Z j]) (by simp[results,results148,go_sem,c0,c1,bp]) rfl ⟨rfl,((al.setCell (ι _) _).setCell (ι _) _).alloc (by rw[fZ,fZ];omega) _⟩
def fo {α:Type}(rd:List UInt8->Option α):List (List UInt8)->Option (List α)
 |[]=>some []
 |l::r=>match rd l with|none=>none|some z=>(fo rd r).map (z::·)
def dW {α:Type}(rd:List UInt8->Option α)(f:Option (List UInt8)):Option (List α):=match f with
 |none=>some []
 |some v=>if(bY 44 v).length<=20 then fo rd (bY 44 v)else none
def M (w:ν)(g:Nat)(cs:List Value)(t:Ρ):Prop:=w.heap[g]?=some (θ cs.toArray t)
theorem BY {α:Type}{rd:List UInt8->Option α}:∀{ps:List (List UInt8)} {zs:List α},fo rd ps=some zs->zs.length=ps.length
 |[],zs,h=>by cases h;rfl
 |l::r,zs,h=>by
  rw[fo]at h;cases N:rd l with
  |none=>rw[N]at h;cases h
  |some z=>
   rw[N]at h;obtain⟨y,hy,rfl⟩:=Option.map_eq_some_iff.1 h;rw[Ε,Ε,BY hy]
theorem M.cell {w:ν}{g k:Nat}{cs:List Value}{t:Ρ}{y:Value}(h:M w g cs t)(I:cs[k]?=some y):w.cell? ⟨g,k,none⟩=some y:=by
 unfold M at h;simp[World.cell?,h,I]
theorem M.free {w:ν}{g k:Nat}{cs:List Value}{t:Ρ}(h:M w g cs t):w.frozen? ⟨g,k,none⟩=false:=by
 unfold M at h;simp[World.frozen?,h]
theorem M.lt {w:ν}{g:Nat}{cs:List Value}{t:Ρ}(h:M w g cs t):g<w.heap.size:=(Array.getElem?_eq_some_iff.1 h).1
theorem M.on {w Y:ν}{g:Nat}{cs:List Value}{t:Ρ}(h:M w g cs t)(U:Below w.heap.size w Y):M Y g cs t:=by
 have N:=h.lt;unfold M at *
 rw[U.block g N];exact h
theorem M.set {w:ν}{g k:Nat}{cs:List Value}{t:Ρ}(h:M w g cs t)(v:Value):M (w.setCell ⟨g,k,none⟩ v) g (cs.set k v) t:=by
 unfold M at *
 simp[World.setCell,Array.getElem?_modify,h]
theorem M.other {w:ν}{g b k:Nat}{cs:List Value}{t:Ρ}(h:M w g cs t)(df:g≠b)(v:Value):M (w.setCell ⟨b,k,none⟩ v) g cs t:=by
 unfold M at *
 rw[Below.heap_setCell _ _ _ _ df];exact h
theorem M.new (w:ν)(cs:List Value)(t:Ρ):M (w.alloc (θ cs.toArray t)) w.heap.size cs t:=by
 show(w.heap.push (Obj.cells cs.toArray t))[w.heap.size]?=some _;exact Array.getElem?_push_size
theorem adC (z:Value)(n:Nat):madeCells #[z] n=(Μ n z).toArray:=by
 unfold madeCells;apply Array.ext
 ·simp
 intro i G A;simp[Nat.mod_one]
def xI (rd:List UInt8->Option Int)(v:List UInt8)(x:Int)(w:ν)(E:Ξ)(Y:ν):Prop:=
 match dW rd (some v)with
 |none=>E=ε (bF x)
 |some zs=>∃g,E=δ (ζ (some ⟨g,0,none⟩) zs.length zs.length)/\w.heap.size<=g/\M Y g (zs.map (ϛ Z)) 3
def Bf (zs:List Int)(n:Nat):List Value:=zs.map (ϛ Z)++Μ (n-zs.length) (V Z 0)
theorem Zm {zs:List Int}{n k:Nat}(hz:zs.length=k)(I:k<n):(Bf zs n)[k]?=some (V Z 0):=by
 unfold Bf;rw[Ν (by simp;omega)];simp[hz,Τ];omega
theorem Zn {zs:List Int}{n k:Nat}(hz:zs.length=k)(I:k<n)(z:Int):(Bf zs n).set k (V Z z)=Bf (zs++[z]) n:=by
 unfold Bf;rw[List.set_append_right _ _ (by simp;omega)];have:n-zs.length=(n-(zs++[z]).length)+1:=by simp;omega
 rw[this,List.replicate_succ];simp[hz]
theorem VF {zs:List Int}{n:Nat}(hz:zs.length=n):Bf zs n=zs.map (ϛ Z):=by
 unfold Bf;rw[hz];simp
theorem Qw {α:Type}{rd:List UInt8->Option α}{ps:List (List UInt8)}{l:List UInt8}{k:Nat}{z:α}{zs:List α}(N:ps[k]?=some l)(hz:rd l=some z)(h:fo rd ps=(fo rd (ps.drop k)).map (zs++·)):
 fo rd ps=(fo rd (ps.drop (k+1))).map ((zs++[z])++·):=by
 obtain⟨I,he⟩:=List.getElem?_eq_some_iff.1 N;rw[h,π I,he,fo,hz,Option.map_map];congr 1;funext y;simp
theorem MZ {α:Type}{rd:List UInt8->Option α}{ps:List (List UInt8)}{l:List UInt8}{k:Nat}{zs:List α}(N:ps[k]?=some l)(hz:rd l=none)(h:fo rd ps=(fo rd (ps.drop k)).map (zs++·)):
 fo rd ps=none:=by
 obtain⟨I,he⟩:=List.getElem?_eq_some_iff.1 N;rw[h,π I,he,fo,hz];rfl
theorem mY (c:UInt8):∀(l:List UInt8),∀p∈bY c l,p.length<=l.length
 |[],p,J=>by simp[bY]at J;subst J;simp
 |a::r,p,J=>by
  rw[bY]at J;by_cases h:a=c
  ·rw[if_pos h,ϊ]at J;rcases J with rfl|J
   ·simp
   have:=mY c r p J;simp;omega
  rw[if_neg h]at J;cases hs:bY c r with
  |nil=>exact absurd hs (Bd c r)
  |cons x t=>
   rw[hs]at J;rw[ϊ]at J;have X:=mY c r;rw[hs]at X;rcases J with rfl|J
   ·have:=X x (by simp);simp;omega
   have:=X p (by simp[J]);simp;omega
theorem Bg (rd:List UInt8->Option Int)(fn:FuncId)(v:List UInt8)(x:Int)(w:ν)(hm:ML w)(N:v.length<=1048576)
 (sD:∀args w,(callFunc fn args).run prog w=.ok (.enter fn args) w)
 (hr:∀(t:List UInt8) (W:ν),t.length<=1048576->ο prog fn #[η ⟨t.toArray⟩] W λE Y=>E=(match rd t with|none=>Ending.panicked (bF x)|some z=> δ (V Z z))/\Below W.heap.size W Y):
 ο prog 136 #[.agg #[η ⟨v.toArray⟩,.bool true],V Z x,.func (.func fn) #[] #[]] w λE Y=>
  xI rd v x w E Y/\Below w.heap.size w Y:=by
 have CS:=H λW (h:ML W)=>ve v 44 W h N;have HM:Ω (ML (w.alloc (θ #[η ⟨v.toArray⟩,.bool true] 122))):=H (hm.on ((κ _ _).alloc (ι _) _));have HR:=H hr;have HS:Ω (∀p∈bY 44 v,p.length<=1048576):=H (λp J=>Ϩ (mY 44 v p J) N);have HF:Ω (dW rd (some v)=if(bY 44 v).length<=20 then fo rd (bY 44 v)else none):=H rfl;clear hr hm;obtain⟨ps,lJ⟩:∃ps,ps=bY 44 v:=⟨_,rfl⟩;rw[<-lJ]at CS HS HF;clear lJ;by_cases xJ:ps.length<=20
 case neg=>
  have HE:Ω (dW rd (some v)=none):=H (by rw[HF.out,if_neg xJ]);have Zo:decide ((ps.length:Int)<=20)=false:=by simp;omega
  go_enter func136,ntmps136;go_wp2_with (first
   |(go_at_call 139;refine(CS.out _ HM.out).mono ?_;rintro e w1 ⟨rfl,rfl⟩)
   |(go_at_call_of 65 (μ false);refine eT ?_))
  exact⟨rfl,by unfold xI;rw[HE.out],((κ _ _).alloc (ι _) _).alloc (by simp) _⟩
 case pos=>
  have Zo:(ps.length:Int)<=20:=by omega
  have HE:Ω (dW rd (some v)=fo rd ps):=H (by rw[HF.out,if_pos xJ]);have mk:=run_make_row' (P:=prog) 54 3 (V Z 0) 8 underlying54 O5 rfl Z Z ps.length (by omega) (by omega);rw[adC]at mk;have lJ:jL ((w.alloc (θ #[η ⟨v.toArray⟩,.bool true] 122)).alloc (θ (strs ps).toArray 9)) (w.heap.size+1) 0 ps:=by
   have:=jc (w.alloc (θ #[η ⟨v.toArray⟩,.bool true] 122)) ps 9;rw[show(w.alloc (θ #[η ⟨v.toArray⟩,.bool true] 122)).heap.size=w.heap.size+1 from by simp]at this;exact this
  have bp:((w.alloc (θ #[η ⟨v.toArray⟩,.bool true] 122)).alloc (θ (strs ps).toArray 9)).heap.size=w.heap.size+1+1:=by simp
  have aB:=M.new ((w.alloc (θ #[η ⟨v.toArray⟩,.bool true] 122)).alloc (θ (strs ps).toArray 9)) (Μ ps.length (V Z 0)) 3;rw[bp]at aB;have aO:Below w.heap.size w ((w.alloc (θ #[η ⟨v.toArray⟩,.bool true] 122)).alloc (θ (strs ps).toArray 9)):=((κ _ _).alloc (ι _) _).alloc (by simp) _;go_enter func136,ntmps136;go_wp2_with (first
   |(go_at_call 139;refine(CS.out _ HM.out).mono ?_;rintro e w1 ⟨rfl,rfl⟩)
   |(go_at_call_of 65 (μ true);refine dp ?_))
  generalize(w.alloc (θ #[η ⟨v.toArray⟩,.bool true] 122)).alloc (θ (strs ps).toArray 9)=W at *
  clear mk HM CS HF;go_loopw [27] (λi wr=>∃(k:Nat) (zs:List Int),k<=ps.length/\i=V Z k/\zs.length=k/\M wr (w.heap.size+1+1) (Bf zs ps.length) 3/\Below W.heap.size W wr/\Ω (fo rd ps=(fo rd (ps.drop k)).map (zs++·))) (λi _=>ps.length-(intOf i).toNat)
  case atStart=>exact⟨0,[],ώ _,rfl,rfl,aB,(κ _ _).alloc (ι _) _,H (by simp)⟩
  case round=>
   obtain⟨k,zs,I,rfl,hz,vI,dJ,HT⟩:=hrel;have hB:=dJ.size;by_cases aQ:k<ps.length
   case neg=>
    have ja:k=ps.length:=by omega
    subst ja;have HG:Ω (dW rd (some v)=some zs):=H (by rw[HE.out,HT.out,Υ];simp[fo]);have HZ:=H hz;clear HT HE hz;go_wp2;go_ret;refine⟨?_,aO.trans (dJ.mono (by omega))⟩;unfold xI;rw[HG.out];refine⟨w.heap.size+1+1,by rw[HZ.out];rfl,by omega,?_⟩;rw[<-VF HZ.out];exact vI
   case pos=>
    obtain⟨l,vf⟩:∃l,ps[k]?=some l:=⟨_,τ aQ⟩;have iU:wr.cell? ⟨w.heap.size+1,k,none⟩=some (η ⟨l.toArray⟩):=by
     rw[dJ.cell (p:=⟨w.heap.size+1,k,none⟩) (by show w.heap.size+1<W.heap.size;omega)];have:=lJ k aQ;rw[Κ]at this;rw[this];simp[List.getD,vf]
    have CR:=HR.out l wr (HS.out l (Ψ vf));cases hq:rd l with
    |none=>
     have HG:Ω (dW rd (some v)=none):=H (by rw[HE.out,MZ vf hq HT.out]);rw[hq]at CR;have C:=H CR;clear HT HE CR hq vf;go_wp2_with (refine(C.out).mono ?_;rintro e w1 ⟨rfl,au⟩);refine⟨rfl,?_,aO.trans ((dJ.trans (au.mono hB)).mono (by omega))⟩;unfold xI;rw[HG.out]
    |some z=>
     have HG:Ω (fo rd ps=(fo rd (ps.drop (k+1))).map ((zs++[z])++·)):=H (Qw vf hq HT.out);rw[hq]at CR;have C:=H CR;clear HT CR hq vf;go_wp2_with (refine(C.out).mono ?_;rintro e w1 ⟨rfl,au⟩;have dH:=vI.on au;have c1:=dH.cell (Zm hz aQ);have f1:=dH.free (k:=k));go_roundw
     case rel=>exact⟨k+1,zs++[z],by omega,by go_num,by simp[hz],by rw[<-Zn hz aQ z];exact dH.set _,(dJ.trans (au.mono hB)).setCell (by show W.heap.size<=w.heap.size+1+1;omega) _,HG⟩
     case measure=>simp[intOf];omega
end
section
section
variable {P:ϗ} {ops:Array ϙ} {Q:Exit->ϝ->ν->Prop} {md:Region.Mode}
theorem dc {listed:Array Bool}{i:Nat}(h:i∈Α md ops listed):i<ops.size/\listed.getD i true=false/\∃o,ops[i]?=some o/\∀e∈o.after,υ md e=true->listed.getD e.on false=true:=by
 unfold Α at h;rw[Ϣ,Ϥ]at h;obtain⟨S,h⟩:=h;rw[ύ]at h;obtain⟨G,A⟩:=h;refine⟨S,by simpa using G,ops[i],ξ S,?_⟩;rw[ξ S,Ζ,Ο,Λ]at A;intro e he U;have:=A e he;rw[U]at this;simpa using this
theorem oO {listed:Array Bool}{i:Nat}{o:ϙ}(ho:ops[i]?=some o)(G:listed.getD i true=false)(A:∀e∈o.after,υ md e=true->listed.getD e.on false=true):i∈Α md ops listed:=by
 unfold Α;rw[Ϣ,Ϥ];refine⟨(Array.getElem?_eq_some_iff.1 ho).1,?_⟩;rw[ύ];refine⟨by simp only[G,Bool.not_false],?_⟩;rw[ho,Ζ,Ο,Λ];intro e he;cases U:υ md e
 ·rfl
 rw[A e he U];rfl
def forward (md:Region.Mode)(ops:Array ϙ):Bool:=(List.range ops.size).all λi=>((ops[i]?).map λo=>o.after.all λe=>!Region.binds md e||decide (e.on<i)).getD true
theorem fC (h:forward md ops=true){i:Nat}{o:ϙ}(ho:ops[i]?=some o):∀e∈o.after,υ md e=true->e.on<i:=by
 unfold forward at h;rw[List.all_eq_true]at h;have:=h i (List.mem_range.2 (Array.getElem?_eq_some_iff.1 ho).1);rw[ho,Ζ,Ο,Λ]at this;intro e he U;have:=this e he;rw[U]at this;simpa using this
theorem bB {l:Array Bool}{i:Nat}(d:Bool)(h:i<l.size):l.getD i d=l[i]:=by simp[Ϙ,h]
theorem nB (hf:forward md ops=true){listed:Array Bool}(hs:listed.size=ops.size)(hr:Α md ops listed=[]):∀i,i<ops.size->listed.getD i false=true:=by
 intro i
 induction i using Nat.strongRecOn with
 |ind i ih=>
  intro S;cases hc:listed.getD i false
  ·exfalso;have:i∈Α md ops listed:=oO (ξ S) (by rw[bB _ (by omega)]at hc⊢;exact hc)
    (λe he U=>ih e.on (fC hf (ξ S) e he U) (Nat.lt_trans (fC hf (ξ S) e he U) S))
   rw[hr]at this;simp at this
  rfl
theorem FV (atz:Nat->ϝ->ν->Prop)(aty:ϝ->ν->Prop)(hf:forward md ops=true)
 (atA:∀i o a w,ops[i]?=some o->aty a w->(∀e∈o.after,υ md e=true->atz e.on a w)->wpOp P ops Q i (λa' Y=>aty a' Y/\atz i a' Y/\∀j oj,ops[j]?=some oj->j≠i->(∀e∈oj.after,υ md e=true->e.on≠i)->atz j a w->atz j a' Y) a w)
 (D:∀a w,aty a w->(∀i,i<ops.size->atz i a w)->Q .normal a w):
 ∀(fuel:Nat) (listed:Array Bool) (a:ϝ) (w:ν),listed.size=ops.size->listed.toList.count false<=fuel->aty a w->(∀i,i<ops.size->listed.getD i false=true->atz i a w)->(∀i o,ops[i]?=some o->listed.getD i false=true->∀e∈o.after,υ md e=true->listed.getD e.on false=true)->wpAny P md ops Q fuel listed a w:=by
 intro fuel
 induction fuel with
 |zero=>
  intro listed a w hs hc hI hG hC;have bx:∀i,i<ops.size->listed.getD i false=true:=λi S=>by
   rw[bB _ (by omega)];cases U:listed[i]'(by omega)
   ·exfalso;have:false∈listed.toList:=by rw[<-U];exact Array.mem_def.1 (Array.getElem_mem _)
    have:=List.count_pos_iff.2 this;omega
   rfl
  have hr:Α md ops listed=[]:=by
   rw[List.eq_nil_iff_forall_not_mem];intro i S;obtain⟨G,A,_⟩:=dc S;have:=bx i G;rw[bB _ (by omega)]at this A;rw[this]at A;cases A
  exact⟨hr,D a w hI (λi S=>hG i S (bx i S))⟩
 |succ fuel ih=>
  intro listed a w hs hc hI hG hC;refine⟨λhr=>D a w hI (λi S=>hG i S (nB hf hs hr i S)),λi S=>?_⟩;obtain⟨G,A,o,ho,K⟩:=dc S;refine wpOp_mono (λa' Y ⟨q1,q2,q3⟩=>?_) (atA i o a w ho hI (λe he U=>hG e.on (Nat.lt_trans (fC hf ho e he U) G) (K e he U)));have PV:∀k,listed.getD k false=true->(listed.setIfInBounds i true).getD k false=true:=λk I=>by
   by_cases kN:k=i
   ·subst kN;rw[bB _ (by simp;omega)];simp
   by_cases kC:k<listed.size
   ·rw[bB _ kC]at I;rw[bB _ (by simp;exact kC),ό _ (λe=>kN e.symm)];exact I
   simp[Ϙ,kC]at I
  have abV:∀k,k≠i->(listed.setIfInBounds i true).getD k false=true->listed.getD k false=true:=λk kN I=>by
   by_cases kC:k<listed.size
   ·rw[bB _ (by simp;exact kC),ό _ (λe=>kN e.symm)]at I;rw[bB _ kC];exact I
   simp[Ϙ,kC]at I
  refine ih (listed.setIfInBounds i true) a' Y (by simp[hs]) ?_ q1 (λj hj N=>?_) (λj oj jm N e he U=>?_)
  ·rw[Array.toList_setIfInBounds,List.count_set (by rw[ψ];omega)];have:listed.toList[i]'(by rw[ψ];omega)=false:=by
    rw[bB _ (by omega)]at A;simpa using A
   rw[this];have J:0<listed.toList.count false:=List.count_pos_iff.2 (by rw[<-this];exact List.getElem_mem _);show listed.toList.count false-1+0<=fuel;omega
  ·by_cases fA:j=i
   ·subst fA;exact q2
   have UL:=abV j fA N;refine q3 j ops[j] (ξ hj) fA (λe he U uS=>?_) (hG j hj UL);have:=hC j ops[j] (ξ hj) UL e he U;rw[uS,bB _ (by omega)]at this;rw[bB _ (by omega),this]at A;cases A
  by_cases fA:j=i
  ·subst fA;rw[ho]at jm;cases jm;exact PV _ (K e he U)
  exact PV _ (hC j oj jm (abV j fA N) e he U)
theorem Ho {id:Nat}{a:ϝ}{w:ν}(atz:Nat->ϝ->ν->Prop)(aty:ϝ->ν->Prop)(hm:P.follows .mixedOrders=true)(hf:forward .any ops=true)
 (atA:∀i o a w,ops[i]?=some o->aty a w->(∀e∈o.after,υ .any e=true->atz e.on a w)->wpOp P ops Q i (λa' Y=>aty a' Y/\atz i a' Y/\∀j oj,ops[j]?=some oj->j≠i->(∀e∈oj.after,υ .any e=true->e.on≠i)->atz j a w->atz j a' Y) a w)
 (D:∀a w,aty a w->(∀i,i<ops.size->atz i a w)->Q .normal a w)(hI:aty a {w with drawn:=w.drawn+1}):(Code.region id ops true).wp P Q a w:=
 wp_region_any hm (FV atz aty hf atA D ops.size (Array.replicate ops.size false) a _ (by simp) (by rw[Array.toList_replicate,List.count_replicate];simp) hI (λi S h=>by
  rw[bB _ (by simpa using S)]at h;simp at h) (λi o ho h=>by
  rw[bB _ (by simpa using(Array.getElem?_eq_some_iff.1 ho).1)]at h;simp at h))
end
end
section
section
variable {P:ϗ} {ops:Array ϙ} {Q:Exit->ϝ->ν->Prop}
theorem ai {o:ϙ}{a:ϝ}{w Y:ν}{atH:ϝ->ν->Prop}{v:Value}(h:(execOp a.eval o).run P w=.ok (.value v) Y)(hK:atH (a.put o.dst v) Y):ϋ P o a w atH Q:=by
 unfold ϋ;rw[h];exact hK
theorem BP {o:ϙ}{a:ϝ}{w Y:ν}{atH:ϝ->ν->Prop}(h:(execOp a.eval o).run P w=.ok .skip Y)(hK:atH (a.put o.dst undef) Y):ϋ P o a w atH Q:=by
 unfold ϋ;rw[h];exact hK
theorem cM {o:ϙ}{a:ϝ}{w Y:ν}{atH:ϝ->ν->Prop}{f:FuncId}{args:Array Value}{R:Ξ->ν->Prop}(h:(execOp a.eval o).run P w=.ok (.enter f args) Y)(hc:ο P f args Y R)
 (G:∀v az,R (δ v) az->atH (a.put o.dst v) az)(A:∀c az,R (ε c) az->Q (.panic c) a az)(K:∀az,¬R .outgrown az):ϋ P o a w atH Q:=by
 unfold ϋ;rw[h];refine Calls.mono hc λe az he=>?_;cases e with
 |returned v=>exact G v az he
 |panicked c=>exact A c az he
 |outgrown=>exact absurd he (K az)
def fK (ops:Array ϙ):Bool:=ops.all λo=>o.guard.isNone
theorem ir {id:Nat}{a:ϝ}{w:ν}(atz:Nat->ϝ->ν->Prop)(aty:ϝ->ν->Prop)(hm:P.follows .mixedOrders=true)(hf:forward .any ops=true)(hg:fK ops=true)
 (atA:∀i o,ops[i]?=some o->∀a w,aty a w->(∀e∈o.after,υ .any e=true->atz e.on a w)->ϋ P o a w (λa' Y=>aty a' Y/\atz i a' Y/\∀j oj,ops[j]?=some oj->j≠i->(∀e∈oj.after,υ .any e=true->e.on≠i)->atz j a w->atz j a' Y) Q)
 (D:∀a w,aty a w->(∀i,i<ops.size->atz i a w)->Q .normal a w)(hI:aty a {w with drawn:=w.drawn+1}):(Code.region id ops true).wp P Q a w:=by
 refine Ho atz aty hm hf (λi o a w ho hI hG=>?_) D hI;refine wpOp_step ho λK' oc=>?_;have Ad:o.guard=none:=by
  unfold fK at hg;rw[Λ]at hg;have:=hg o (Array.mem_of_getElem? ho);simpa using this
 have hw:Δ o (yielded ops a.tmps)=true:=by unfold Δ;rw[Ad]
 rw[if_pos hw];exact Oper.wp_mono oc (atA i o ho a w hI hG)
end
theorem cZ {a:ϝ}{d k:Nat}{v:Value}(h:k≠d):(a.put (some d) v).eval (.tmp k)=a.eval (.tmp k):=by
 show(a.tmps.setIfInBounds d v).getD k undef=a.tmps.getD k undef;simp[φ,Ne.symm h]
theorem gR {a:ϝ}{d:Nat}{v:Value}(h:d<a.tmps.size):(a.put (some d) v).eval (.tmp d)=v:=by
 show(a.tmps.setIfInBounds d v).getD d undef=v;simp[φ,h]
theorem gm {a:ϝ}{d:Option Nat}{v:Value}:(a.put d v).tmps.size=a.tmps.size:=by
 cases d with
 |none=>rfl
 |some d=>show(a.tmps.setIfInBounds d v).size=_;simp
theorem put_defers {a:ϝ}{d:Option Nat}{v:Value}:(a.put d v).defers=a.defers:=by
 cases d<;>rfl
def xK (f:Nat->Value):Nat->Nat->List Value
 |0,_=>[]
 |n+1,k=>f k::xK f n (k+1)
theorem FX (f:Nat->Value):∀(n k i:Nat),i<n->(xK f n k)[i]?=some (f (k+i))
 |0,_,_,h=>by omega
 |n+1,k,0,_=>rfl
 |n+1,k,i+1,h=>by
  rw[xK,List.getElem?_cons_succ,FX f n (k+1) i (by omega)];congr 2;omega
theorem FY (f:Nat->Value):∀n k:Nat,(xK f n k).length=n
 |0,_=>rfl
 |n+1,k=>by rw[xK,Ε,FY f n]
theorem gO (n:Nat)(a:ϝ)(h:a.tmps.size=n)(hd:a.defers=[]):∃f:Nat->Value,a=⟨(xK f n 0).toArray,[]⟩/\∀k,a.eval (.tmp k)=f k:=by
 obtain⟨t,d⟩:=a;simp only[]at h hd;subst hd;refine⟨λk=>t.getD k undef,?_,λk=>rfl⟩;congr 1;apply Array.ext';apply List.ext_getElem?;intro i;by_cases S:i<n
 ·rw[FX _ n 0 i S,Κ];simp[Ϙ,h,S]
 rw[Φ (by rw[ψ];omega),Φ (by rw[FY];omega)]
end
section
theorem FZ {P:ϗ}{a:Addr}{w:ν}:(asAddr (.pointer (some a))).run P w=.ok a w:=by simp[asAddr]
theorem pJ {P:ϗ}{fn:Func}{tmps:Array Value}{w:ν}{t:Nat}{ty:Ρ}{b o:Nat}{v:Value}(hf:fn.results=#[.cell t ty])(ht:tmps.getD t undef=.pointer (some ⟨b,o,none⟩))
 (N:(loadVar ty ⟨b,o,none⟩).run P w=.ok v w):(results fn tmps).run P w=.ok v w:=by
 unfold results;rw[φ]at ht;rw[hf];simp[ht,FZ,N]
theorem results_cell_tmp {P:ϗ}{fn:Func}{tmps:Array Value}{w:ν}{t s:Nat}{ty:Ρ}{b o:Nat}{v:Value}(hf:fn.results=#[.cell t ty,.tmp s])(ht:tmps.getD t undef=.pointer (some ⟨b,o,none⟩))
 (N:(loadVar ty ⟨b,o,none⟩).run P w=.ok v w):(results fn tmps).run P w=.ok (.tuple #[v,tmps.getD s undef]) w:=by
 unfold results;rw[φ]at ht;rw[hf];simp[ht,FZ,N]
theorem Ju {P:ϗ}{ops:Array ϙ}{Q:Exit->ϝ->ν->Prop}{o:ϙ}{rest:List ϙ}{a:ϝ}{w Y:ν}{v:Value}(pD:o.guard=none)(h:(execOp a.eval o).run P w=.ok (.value v) Y)(hK:wpList P ops Q rest (a.put o.dst v) Y):wpList P ops Q (o::rest) a w:=
 wpList_plain pD λ_ I=>ai h (I _ _ hK)
end
section
section
variable {P:ϗ} {ops:Array ϙ} {Q:Exit->ϝ->ν->Prop}
theorem bR {o:ϙ}{y:Nat->Option Bool}(h:o.guard=none):Δ o y=true:=by unfold Δ;rw[h]
theorem OF {o oj:ϙ}{a:ϝ}{j d:Nat}{want b:Bool}(h:o.guard=some (j,want))(hj:ops[j]?=some oj)(hd:oj.dst=some d)(hs:d<a.tmps.size)(hv:a.eval (.tmp d)=.bool b):Δ o (yielded ops a.tmps)=(b==want):=by
 have e:a.tmps[d]?=some (.bool b):=by
  have:a.tmps.getD d undef=.bool b:=hv;rw[ξ hs];rw[φ,ξ hs]at this;simpa using this
 unfold Δ yielded;rw[h];simp only[hj,Option.bind_some,hd,e];cases b<;>cases want<;>rfl
end
end
open Go.Sort
def flat (zs:List (Int×Int)):List Value:=zs.flatMap λq=>[V Z q.1,V Z q.2]
theorem D4 (zs:List (Int×Int)):(flat zs).length=zs.length*2:=by
 induction zs with
 |nil=>rfl
 |cons a r ih=>simp[flat]at ih⊢;omega
theorem VG (zs:List (Int×Int))(z:Int×Int):flat (zs++[z])=flat zs++[V Z z.1,V Z z.2]:=by simp[flat]
def Bh (rd:List UInt8->Option (Int×Int))(v:List UInt8)(x:Int)(w:ν)(E:Ξ)(Y:ν):Prop:=
 match dW rd (some v)with
 |none=>E=ε (bF x)
 |some zs=>∃g,E=δ (ζ (some ⟨g,0,none⟩) zs.length zs.length)/\w.heap.size<=g/\M Y g (flat zs) 183
def td (zs:List (Int×Int))(n:Nat):List Value:=flat zs++Μ ((n-zs.length)*2) (V Z 0)
theorem VH {zs:List (Int×Int)}{n k:Nat}(hz:zs.length=k)(I:k<n):(td zs n)[k*2]?=some (V Z 0):=by
 unfold td;have hf:=D4 zs;rw[Ν (by omega)];rw[Τ,if_pos (by omega)]
theorem VI {zs:List (Int×Int)}{n k:Nat}(hz:zs.length=k)(I:k<n):(td zs n)[k*2+1]?=some (V Z 0):=by
 unfold td;have hf:=D4 zs;rw[Ν (by omega)];rw[Τ,if_pos (by omega)]
theorem Zp {zs:List (Int×Int)}{n k:Nat}(hz:zs.length=k)(I:k<n)(z:Int×Int):((td zs n).set (k*2) (V Z z.1)).set (k*2+1) (V Z z.2)=td (zs++[z]) n:=by
 unfold td;have hf:=D4 zs;rw[List.set_append_right _ _ (by omega),List.set_append_right _ _ (by omega)];have:(n-zs.length)*2=(n-(zs++[z]).length)*2+1+1:=by simp;omega
 rw[this,List.replicate_succ,List.replicate_succ,VG];rw[show k*2-(flat zs).length=0 from by omega,show k*2+1-(flat zs).length=1 from by omega];simp
theorem VJ {zs:List (Int×Int)}{n:Nat}(hz:zs.length=n):td zs n=flat zs:=by
 unfold td;rw[hz];simp
theorem Zq (z:Value)(m:Nat):madeCells #[z,z] m=(Μ m z).toArray:=by
 unfold madeCells;apply Array.ext
 ·simp
 intro i G A;have:i%2=0\/i%2=1:=by omega
 rcases this with h|h<;>simp[h]
theorem agA:(prog.info? 183).map (λi=>(i.zero,i.size,i.bytes))=some (some (.agg #[V Z 0,V Z 0]),2,16):=by kernel_rfl
theorem agB (w:ν)(n:Nat)(hn:n<=20):(Instr.makeSlice 74 (V Z (n:Int)) (V Z (n:Int))).run prog w=.ok (ζ (some ⟨w.heap.size,0,none⟩) n n) (w.alloc (θ (td [] n).toArray 183)):=by
 obtain⟨i0,S,gH,oV,fN⟩:=info_parts agA;have k:=run_make (P:=prog) w 74 183 i0 _ underlying74 S gH Z Z (n:Int) (n:Int) (by omega) (Int.le_refl _) (by rw[fN];omega) (by omega);rw[oV,show(Value.agg #[V Z 0,V Z 0]).cells=#[V Z 0,V Z 0]from rfl,Zq]at k;simp only[Int.toNat_natCast]at k;exact k
theorem OP (rd:List UInt8->Option (Int×Int))(fn:FuncId)(v:List UInt8)(x:Int)(w:ν)(hm:ML w)(N:v.length<=1048576)
 (sD:∀args w,(callFunc fn args).run prog w=.ok (.enter fn args) w)
 (hr:∀(t:List UInt8) (W:ν),t.length<=1048576->ο prog fn #[η ⟨t.toArray⟩] W λE Y=>E=(match rd t with|none=>Ending.panicked (bF x)|some z=> δ (.agg #[V Z z.1,V Z z.2]))/\Below W.heap.size W Y):
 ο prog 147 #[.agg #[η ⟨v.toArray⟩,.bool true],V Z x,.func (.func fn) #[] #[]] w λE Y=>
  Bh rd v x w E Y/\Below w.heap.size w Y:=by
 have CS:=H λW (h:ML W)=>ve v 44 W h N;have HM:Ω (ML (w.alloc (θ #[η ⟨v.toArray⟩,.bool true] 122))):=H (hm.on ((κ _ _).alloc (ι _) _));have HR:=H hr;have HS:Ω (∀p∈bY 44 v,p.length<=1048576):=H (λp J=>Ϩ (mY 44 v p J) N);have HF:Ω (dW rd (some v)=if(bY 44 v).length<=20 then fo rd (bY 44 v)else none):=H rfl;clear hr hm;obtain⟨ps,lJ⟩:∃ps,ps=bY 44 v:=⟨_,rfl⟩;rw[<-lJ]at CS HS HF;clear lJ;by_cases xJ:ps.length<=20
 case neg=>
  have HE:Ω (dW rd (some v)=none):=H (by rw[HF.out,if_neg xJ]);have Zo:decide ((ps.length:Int)<=20)=false:=by simp;omega
  go_enter func147,ntmps147;go_wp2_with (first
   |(go_at_call 139;refine(CS.out _ HM.out).mono ?_;rintro e w1 ⟨rfl,rfl⟩)
   |(go_at_call_of 65 (μ false);refine eT ?_))
  exact⟨rfl,by unfold Bh;rw[HE.out],((κ _ _).alloc (ι _) _).alloc (by simp) _⟩
 case pos=>
  have Zo:(ps.length:Int)<=20:=by omega
  have HE:Ω (dW rd (some v)=fo rd ps):=H (by rw[HF.out,if_pos xJ]);have mk:=λW=>agB W ps.length xJ;have lJ:jL ((w.alloc (θ #[η ⟨v.toArray⟩,.bool true] 122)).alloc (θ (strs ps).toArray 9)) (w.heap.size+1) 0 ps:=by
   have:=jc (w.alloc (θ #[η ⟨v.toArray⟩,.bool true] 122)) ps 9;rw[show(w.alloc (θ #[η ⟨v.toArray⟩,.bool true] 122)).heap.size=w.heap.size+1 from by simp]at this;exact this
  have bp:((w.alloc (θ #[η ⟨v.toArray⟩,.bool true] 122)).alloc (θ (strs ps).toArray 9)).heap.size=w.heap.size+1+1:=by simp
  have aB:=M.new ((w.alloc (θ #[η ⟨v.toArray⟩,.bool true] 122)).alloc (θ (strs ps).toArray 9)) (td [] ps.length) 183;rw[bp]at aB;have aO:Below w.heap.size w ((w.alloc (θ #[η ⟨v.toArray⟩,.bool true] 122)).alloc (θ (strs ps).toArray 9)):=((κ _ _).alloc (ι _) _).alloc (by simp) _;go_enter func147,ntmps147;go_wp2_with (first
   |(go_at_call 139;refine(CS.out _ HM.out).mono ?_;rintro e w1 ⟨rfl,rfl⟩)
   |(go_at_call_of 65 (μ true);refine dp ?_))
  generalize(w.alloc (θ #[η ⟨v.toArray⟩,.bool true] 122)).alloc (θ (strs ps).toArray 9)=W at *
  clear mk HM CS HF;go_loopw [27] (λi wr=>∃(k:Nat) (zs:List (Int×Int)),k<=ps.length/\i=V Z k/\zs.length=k/\M wr (w.heap.size+1+1) (td zs ps.length) 183/\Below W.heap.size W wr/\Ω (fo rd ps=(fo rd (ps.drop k)).map (zs++·))) (λi _=>ps.length-(intOf i).toNat)
  case atStart=>exact⟨0,[],ώ _,rfl,rfl,aB,(κ _ _).alloc (ι _) _,H (by simp)⟩
  case round=>
   obtain⟨k,zs,I,rfl,hz,vI,dJ,HT⟩:=hrel;have hB:=dJ.size;by_cases aQ:k<ps.length
   case neg=>
    have ja:k=ps.length:=by omega
    subst ja;have HG:Ω (dW rd (some v)=some zs):=H (by rw[HE.out,HT.out,Υ];simp[fo]);have HZ:=H hz;clear HT HE hz;go_wp2;go_ret;refine⟨?_,aO.trans (dJ.mono (by omega))⟩;unfold Bh;rw[HG.out];refine⟨w.heap.size+1+1,by rw[HZ.out];rfl,by omega,?_⟩;rw[<-VJ HZ.out];exact vI
   case pos=>
    obtain⟨l,vf⟩:∃l,ps[k]?=some l:=⟨_,τ aQ⟩;have iU:wr.cell? ⟨w.heap.size+1,k,none⟩=some (η ⟨l.toArray⟩):=by
     rw[dJ.cell (p:=⟨w.heap.size+1,k,none⟩) (by show w.heap.size+1<W.heap.size;omega)];have:=lJ k aQ;rw[Κ]at this;rw[this];simp[List.getD,vf]
    have CR:=HR.out l wr (HS.out l (Ψ vf));cases hq:rd l with
    |none=>
     have HG:Ω (dW rd (some v)=none):=H (by rw[HE.out,MZ vf hq HT.out]);rw[hq]at CR;have C:=H CR;clear HT HE CR hq vf;go_wp2_with (refine(C.out).mono ?_;rintro e w1 ⟨rfl,au⟩);refine⟨rfl,?_,aO.trans ((dJ.trans (au.mono hB)).mono (by omega))⟩;unfold Bh;rw[HG.out]
    |some z=>
     have HG:Ω (fo rd ps=(fo rd (ps.drop (k+1))).map ((zs++[z])++·)):=H (Qw vf hq HT.out);rw[hq]at CR;have C:=H CR;clear HT CR hq vf;go_wp2_with (refine(C.out).mono ?_;rintro e w1 ⟨rfl,au⟩;have dH:=vI.on au;have c1:=dH.cell (VH hz aQ);have c2:=dH.cell (VI hz aQ);have f1:=dH.free (k:=k*2);have f2:=dH.free (k:=k*2+1));go_roundw
     case rel=>exact⟨k+1,zs++[z],by omega,by go_num,by simp[hz],by rw[<-Zp hz aQ z];exact(dH.set _).set _,((dJ.trans (au.mono hB)).setCell (by show W.heap.size<=w.heap.size+1+1;omega) _).setCell (by show W.heap.size<=w.heap.size+1+1;omega) _,HG⟩
     case measure=>simp[intOf];omega
theorem oA (w:ν):ο prog 140 #[] w λE Y=>E=δ (ζ (some ⟨w.heap.size,0,none⟩) 9 9)/\Y=w.alloc (θ (strs cC).toArray 9):=by
 go_enter func140,ntmps140;go_wp2;go_ret;exact⟨rfl,rfl⟩
def shown (t:List UInt8):Bool:=decide (t≠[73,78,84,69,82,86,65,76,61,49])&&decide (t≠[87,75,83,84,61,77,79])
def Bi (F:Nat->Option (List UInt8))(k:Nat):List (List UInt8):=match F k with
 |none=>[]
 |some v=>if shown (cC.getD k []++61::v)then[cC.getD k []++61::v]else[]
def gG (F:Nat->Option (List UInt8)):Nat->List (List UInt8)
 |0=>[]
 |k+1=>gG F k++Bi F k
theorem D5 (F:Nat->Option (List UInt8)):∀k,(gG F k).length<=k
 |0=>by simp[gG]
 |k+1=>by
  have:=D5 F k;rw[gG,ω];unfold Bi;cases F k with
  |none=>simp;omega
  |some v=>simp only[];split<;>simp<;>omega
theorem am6 (a b:List UInt8):(⟨a.toArray⟩:ByteArray)++⟨#[61]⟩++⟨b.toArray⟩=⟨(a++61::b).toArray⟩:=by
 apply ByteArray.ext;simp
theorem wN (k:Nat):(cC.getD k []).length<=20:=by
 by_cases h:k<9
 ·have:k=0\/k=1\/k=2\/k=3\/k=4\/k=5\/k=6\/k=7\/k=8:=by omega
  rcases this with rfl|rfl|rfl|rfl|rfl|rfl|rfl|rfl|rfl<;>decide
 rw[List.getD_eq_getElem?_getD,Φ (by rw[show cC.length=9 from rfl];omega)];simp
theorem VK {t:List UInt8}(h:(t==[73,78,84,69,82,86,65,76,61,49])=true):shown t=false:=by
 rw[beq_iff_eq]at h;unfold shown;rw[h];rfl
theorem VL {t:List UInt8}(h:(t==[87,75,83,84,61,77,79])=true):shown t=false:=by
 rw[beq_iff_eq]at h;unfold shown;rw[h];rfl
theorem VM {t:List UInt8}(h:(t==[73,78,84,69,82,86,65,76,61,49])=false)(A:(t==[87,75,83,84,61,77,79])=false):shown t=true:=by
 rw[beq_eq_false_iff_ne]at h A;unfold shown;simp[h,A]
theorem Qx (F:Nat->Option (List UInt8))(hs:∀k,((F k).getD []).length<=1048576):∀k,∀t∈gG F k,t.length<=1048600
 |0,t,h=>by simp[gG]at h
 |k+1,t,h=>by
  rw[gG,List.mem_append]at h;rcases h with h|h
  ·exact Qx F hs k t h
  unfold Bi at h;have G:=hs k;have A:=wN k;cases hf:F k with
  |none=>rw[hf]at h;simp at h
  |some v=>
   rw[hf]at h G;simp only[]at h;split at h
   ·rw[List.mem_singleton]at h;subst h;simp only[Ο]at G;rw[ω,Ε];omega
   simp at h
theorem qi (sep:List UInt8)(B:Nat):∀(xs:List (List UInt8)),(∀x∈xs,x.length<=B)->(Lib.join xs sep).length<=xs.length*(B+sep.length)
 |[],_=>by simp[Lib.join_nil]
 |[x],h=>by rw[Lib.join_one];have:=h x (by simp);simp;omega
 |x::y::r,h=>by
  have ih:=qi sep B (y::r) (λz hz=>h z (by simp at hz⊢;exact .inr hz));have X:=h x (by simp);have e:Lib.join (x::y::r) sep=x++sep++Lib.join (y::r) sep:=by simp[Lib.join,List.intercalate,List.intersperse]
  rw[e,ω,ω];have:(x::y::r).length*(B+sep.length)=(y::r).length*(B+sep.length)+(B+sep.length):=by
   rw[Ε (a:=x),Nat.succ_mul]
  omega
theorem Zr (ls:List (List UInt8))(B:Nat)(v:Value)(w:ν)(aU:w.ownsRow B 9 1 v ls.length (strs ls))(U:∀t∈ls,t.length<=1048600)(hn:ls.length<=100):
 ο prog 154 #[v,η ⟨#[59]⟩] w λE Y=>E=δ (η ⟨(Lib.join ls [59]).toArray⟩)/\Below w.heap.size w Y:=by
 rcases IC aU with⟨rfl,hz⟩|⟨g,cap,rfl,_,hg,hc⟩
 ·obtain rfl:ls=[]:=by unfold strs at hz;simpa using hz
  exact(Tryz.strings_Join_none none 0 ⟨#[59]⟩ w).mono λE Y ⟨G,A⟩=>⟨G,by rw[A];exact κ _ _⟩
 have M4:ls.length<=cap:=by
  obtain⟨_,h|⟨g',amV,cur,hv,_,hh,ID,Cl,bp,ht⟩⟩:=aU
  ·cases h.1
  cases hv;omega
 have e1:(ls.map bU).map (·.data.toList)=ls:=by
  rw[ϧ];conv=>rhs;rw[<-List.map_id ls]
  apply ϟ;intro a _;rfl
 have k:=Tryz.strings_Join g 0 cap (ls.map bU) ⟨#[59]⟩ w (λj x X=>by
  rw[Κ];refine hc j (η x) ?_;rw[ϡ]at X;obtain⟨a,ha,rfl⟩:=Option.map_eq_some_iff.1 X;unfold strs;rw[ϡ,ha];rfl) hg (by rw[Ι];omega) (by rw[Ι];exact M4) (by
   rw[e1];have:=qi [59] 1048600 ls U;rw[show(⟨#[59]⟩:ByteArray).data.toList=[59]from rfl];have A:ls.length*(1048600+[(59:UInt8)].length)<=100*1048601:=Nat.mul_le_mul hn (by simp);omega)
 rw[e1,Ι]at k;exact k
theorem D6 (g:Nat)(F:Nat->Option (List UInt8))(w:ν)(hF:cV w g F)(hs:∀k,((F k).getD []).length<=1048576):
 ο prog 151 #[ζ (some ⟨g,0,none⟩) 9 9] w λE Y=>E=δ (η ⟨(Lib.join (gG F 9) [59]).toArray⟩)/\Below w.heap.size w Y:=by
 have bh:Below w.heap.size w (w.alloc (θ (strs cC).toArray 9)):=(κ _ _).alloc (ι _) _;have MI:=jc w cC 9;have hg:=hF.lt;have bp:(w.alloc (θ (strs cC).toArray 9)).heap.size=w.heap.size+1:=by simp
 go_enter func151,ntmps151;go_wp2_with (go_at_call 140;refine(oA _).mono ?_;rintro e w1 ⟨rfl,rfl⟩);have JC:=hF.on bh;generalize w.alloc (θ (strs cC).toArray 9)=W at *
 go_loopw [3,9] (λv i wr=>∃k:Nat,k<=9/\i=V Z k/\wr.ownsRow W.heap.size 9 1 v (gG F k).length (strs (gG F k))/\Below W.heap.size W wr) (λ_ i _=>9-(intOf i).toNat)
 case atStart=>exact⟨0,by omega,rfl,World.ownsRow_nil _ _ _ _,κ _ _⟩
 case round=>
  obtain⟨k,I,rfl,aU,dJ⟩:=hrel;have hB:=dJ.size;have HT:=H (D5 F k);by_cases aQ:k<9
  case neg=>
   have xk:k=9:=by omega
   subst xk;have CJ:=H (Zr (gG F 9) W.heap.size u3 wr aU (Qx F hs 9) (by have:=HT.out;omega));clear JC hF hs;obtain⟨a3,n3,c3,rfl⟩:=XU aU;go_wp2_with (go_at_call 154;refine(CJ.out).mono ?_;rintro e w2 ⟨rfl,aO⟩);go_ret;exact⟨rfl,bh.trans ((dJ.trans (aO.mono hB)).mono (by omega))⟩
  case pos=>
   have JD:=JC.on dJ;obtain⟨nm,D7⟩:∃nm,nm=cC.getD k []:=⟨_,rfl⟩;have cn:wr.cell? ⟨w.heap.size,k,none⟩=some (η ⟨nm.toArray⟩):=by
    rw[dJ.cell (p:=⟨w.heap.size,k,none⟩) (by show w.heap.size<W.heap.size;omega)];have:=MI k aQ;rw[Κ,<-D7]at this;exact this
   have cv:=JD.val k aQ;have ct:=JD.there k aQ;have Al:(k:Int)<9:=by omega
   have vG:nm.length<=20:=by rw[D7];exact wN k
   have sC:=hs k;obtain⟨val,nS⟩:∃val,val=(F k).getD []:=⟨_,rfl⟩;rw[<-nS]at cv sC;have hc3:=am6 nm val;have o1:¬9223372036854775807<nm.length+1:=by omega
   have o2:¬9223372036854775807<nm.length+1+val.length:=by omega
   obtain⟨t,ht⟩:∃t,t=nm++61::val:=⟨_,rfl⟩;rw[<-ht]at hc3;have H1:Ω (gG F (k+1)=gG F k++Bi F k):=H rfl;cases hf:(F k).isSome with
   |false=>
    rw[hf]at ct;have HN:Ω (gG F (k+1)=gG F k):=H (by rw[H1.out];unfold Bi;rw[Option.isSome_eq_false_iff.1 hf|>Option.isNone_iff_eq_none.1];simp);clear hf JD ht nS D7 H1;cases q1:(t==[73,78,84,69,82,86,65,76,61,49])<;>
     (go_wp2
      go_roundw
      case rel=>exact⟨k+1,by omega,by go_num,by rw[HN.out];exact aU,dJ⟩
      case measure=>simp[intOf];omega)
   |true=>
    rw[hf]at ct;have hFk:F k=some val:=by
     obtain⟨y,hy⟩:=Option.isSome_iff_exists.1 hf;rw[hy]at nS;rw[hy,nS];rfl
    have HX:Ω (Bi F k=if shown t then[t]else[]):=H (by unfold Bi;rw[hFk];simp only[];rw[<-D7,<-ht]);cases q1:(t==[73,78,84,69,82,86,65,76,61,49])with
    |true=>
     have HN:Ω (gG F (k+1)=gG F k):=H (by rw[H1.out,HX.out,VK q1];simp);clear hf JD ht nS D7 H1 hFk HX;go_wp2;go_roundw
     case rel=>exact⟨k+1,by omega,by go_num,by rw[HN.out];exact aU,dJ⟩
     case measure=>simp[intOf];omega
    |false=>
     cases q2:(t==[87,75,83,84,61,77,79])with
     |true=>
      have HN:Ω (gG F (k+1)=gG F k):=H (by rw[H1.out,HX.out,VL q2];simp);clear hf JD ht nS D7 H1 hFk HX;go_wp2;go_roundw
      case rel=>exact⟨k+1,by omega,by go_num,by rw[HN.out];exact aU,dJ⟩
      case measure=>simp[intOf];omega
     |false=>
      have HN:Ω (gG F (k+1)=gG F k++[t]):=H (by rw[H1.out,HX.out,VM q1 q2];simp);clear hf JD ht nS D7 H1 hFk HX;go_wp2_with (at_builtin;refine O7 rfl (.tmp 35) (.tmp 37) 52 9 _ 16 rfl underlying52 pB rfl W.heap.size _ _ _ rfl aU dJ hB (η ⟨t.toArray⟩) rfl rfl (by simp) (by have:=HT.out;omega) (by decide) ?_;intro v' w1 SC am7 xm);go_roundw
      case rel=>exact⟨k+1,by omega,by go_num,by rw[HN.out,TC,ω];exact SC,am7⟩
      case measure=>simp[intOf];omega
def cr (w:ν)(v:Value)(zs:List Int):Prop:=(v=ζ none 0 0/\zs=[])\/∃g,v=ζ (some ⟨g,0,none⟩) zs.length zs.length/\M w g (zs.map (ϛ Z)) 3
def gE (w:ν)(v:Value)(zs:List (Int×Int)):Prop:=(v=ζ none 0 0/\zs=[])\/∃g,v=ζ (some ⟨g,0,none⟩) zs.length zs.length/\M w g (flat zs) 183
theorem cr.form {w:ν}{v:Value}{zs:List Int}(h:cr w v zs):∃a,v=ζ a zs.length zs.length:=by
 rcases h with⟨rfl,rfl⟩|⟨g,rfl,_⟩<;>exact⟨_,rfl⟩
theorem gE.form {w:ν}{v:Value}{zs:List (Int×Int)}(h:gE w v zs):∃a,v=ζ a zs.length zs.length:=by
 rcases h with⟨rfl,rfl⟩|⟨g,rfl,_⟩<;>exact⟨_,rfl⟩
theorem cr.on {w Y:ν}{v:Value}{zs:List Int}(h:cr w v zs)(U:Below w.heap.size w Y):cr Y v zs:=
 h.imp id λ⟨g,G,A⟩=>⟨g,G,A.on U⟩
theorem gE.on {w Y:ν}{v:Value}{zs:List (Int×Int)}(h:gE w v zs)(U:Below w.heap.size w Y):gE Y v zs:=
 h.imp id λ⟨g,G,A⟩=>⟨g,G,A.on U⟩
theorem JF (zs:List (Int×Int))(k:Nat)(q:Int×Int)(h:zs[k]?=some q):(flat zs)[k*2]?=some (V Z q.1):=by
 induction zs generalizing k with
 |nil=>simp at h
 |cons a r ih=>
  cases k with
  |zero=>simp at h;subst h;simp[flat]
  |succ k=>
   have:=ih k (by simpa using h);rw[show(k+1)*2=k*2+2 from by omega];simpa[flat]using this
theorem JG (zs:List (Int×Int))(k:Nat)(q:Int×Int)(h:zs[k]?=some q):(flat zs)[k*2+1]?=some (V Z q.2):=by
 induction zs generalizing k with
 |nil=>simp at h
 |cons a r ih=>
  cases k with
  |zero=>simp at h;subst h;simp[flat]
  |succ k=>
   have:=ih k (by simpa using h);rw[show(k+1)*2+1=k*2+1+2 from by omega];simpa[flat]using this
def ie (zs:List (Int×Int)):Bool:=zs.any λq=>decide (q.1≠0)
def bC (fq iv ct un:Int)(m md wk pl:Value)(ws:Int)(tx:ByteArray):Value:=.agg #[V Z fq,V Z iv,V Z ct,V Z un,m,md,wk,pl,V Z ws,η tx]
theorem Hp (fq iv ct un ws:Int)(m md wk pl:Value)(tx:ByteArray)(zs:List (Int×Int))(w:ν)(hz:zs.length<=20)(h:gE w wk zs)(G:∃a n c,m=ζ a n c)(A:∃a n c,md=ζ a n c)(K:∃a n c,pl=ζ a n c):
 ο prog 211 #[bC fq iv ct un m md wk pl ws tx] w λE Y=>E=δ (.bool (ie zs))/\Below w.heap.size w Y:=by
 unfold bC;obtain⟨a1,n1,c1,rfl⟩:=G;obtain⟨a2,n2,c2,rfl⟩:=A;obtain⟨a3,n3,c3,rfl⟩:=K;rcases h with⟨rfl,rfl⟩|⟨g,rfl,aB⟩
 ·go_enter func211,ntmps211;go_wp2;go_loop [8] (λi=>i=V Z 0) (λ_=>0)
  case atStart=>rfl
  case round=>
   subst hrel;go_wp2;go_ret;exact⟨rfl,(κ _ _).alloc (ι _) _⟩
 have N:=aB.lt;go_enter func211,ntmps211;go_wp2;have bh:Below w.heap.size w (w.alloc (θ #[V Z fq,V Z iv,V Z ct,V Z un,ζ a1 n1 c1,ζ a2 n2 c2,ζ (some ⟨g,0,none⟩) zs.length zs.length,ζ a3 n3 c3,V Z ws,η tx] 76)):=(κ _ _).alloc (ι _) _;generalize w.alloc (θ #[V Z fq,V Z iv,V Z ct,V Z un,ζ a1 n1 c1,ζ a2 n2 c2,ζ (some ⟨g,0,none⟩) zs.length zs.length,ζ a3 n3 c3,V Z ws,η tx] 76)=W at *
 go_loopw [8] (λi wr=>∃k:Nat,k<=zs.length/\i=V Z k/\Below w.heap.size w wr/\Ω (ie zs=ie (zs.drop k))) (λi _=>zs.length-(intOf i).toNat)
 case atStart=>exact⟨0,ώ _,rfl,bh,H (by simp)⟩
 case round=>
  obtain⟨k,I,rfl,dJ,HT⟩:=hrel;by_cases aQ:k<zs.length
  case neg=>
   have ja:k=zs.length:=by omega
   subst ja;have HE:Ω (ie zs=false):=H (by rw[HT.out,Υ];rfl);clear HT;go_wp2;go_ret;exact⟨by rw[HE.out];rfl,dJ⟩
  case pos=>
   obtain⟨q,hq⟩:∃q,zs[k]?=some q:=⟨_,τ aQ⟩;have hr:=aB.on dJ;have d0:=hr.cell (JF zs k q hq);have d1:=hr.cell (JG zs k q hq);have hd:zs.drop k=q::zs.drop (k+1):=by
    obtain⟨cj,he⟩:=List.getElem?_eq_some_iff.1 hq;rw[π cj,he]
   have hB:=dJ.size;by_cases gH:q.1=0
   ·have HE:Ω (ie zs=ie (zs.drop (k+1))):=H (by rw[HT.out,hd];unfold ie;rw[Ϧ];simp[gH]);have g1:(q.1 !=0)=false:=by simp[gH]
    clear HT hd gH hq;go_wp2;go_roundw
    case rel=>exact⟨k+1,by omega,by go_num,dJ.alloc hB _,HE⟩
    case measure=>simp[intOf];omega
   have HE:Ω (ie zs=true):=H (by rw[HT.out,hd];unfold ie;rw[Ϧ];simp[gH]);have g1:(q.1 !=0)=true:=by simpa using gH
   clear HT hd gH hq;go_wp2;go_ret;exact⟨by rw[HE.out];rfl,dJ.alloc hB _⟩
def xL (fq:Int)(nm nd nw np:Nat)(ord:Bool):Bool:=
 let ui:=(decide (fq=2)||decide (fq=3))&&decide (nd=0)
 if !ui&&ord then false else if decide (fq=1)&&decide (0<nd)then false else decide (0<nm)||decide (0<nd)||decide (0<nw)||decide (np=0)
theorem Bj {w w1:ν}{cs:Array Value}{t:Ρ}(U:Below (w.alloc (θ cs t)).heap.size (w.alloc (θ cs t)) w1)(i:Nat)(v:Value)(h:cs[i]?=some v):w1.cell? ⟨w.heap.size,i,none⟩=some v:=by
 rw[U.cell (p:=⟨w.heap.size,i,none⟩) (by simp)];simp[h]
theorem Hq (fq iv ct un ws:Int)(m md pl:Option Addr)(nm nd np cm cd cp:Nat)(wk:Value)(tx:ByteArray)(zs:List (Int×Int))(w:ν)(kD:0<=fq)(VN:fq<=3)(hz:zs.length<=20)(h:gE w wk zs):
 ο prog 152 #[bC fq iv ct un (ζ m nm cm) (ζ md nd cd) wk (ζ pl np cp) ws tx] w λE Y=>E=δ (.bool (xL fq nm nd zs.length np (ie zs)))/\Below w.heap.size w Y:=by
 obtain⟨wa,hwa⟩:=h.form;have co:=λW (U:Below w.heap.size w W)=>Hp fq iv ct un ws (ζ m nm cm) (ζ md nd cd) wk (ζ pl np cp) tx zs W hz (h.on U) ⟨_,_,_,rfl⟩ ⟨_,_,_,rfl⟩ ⟨_,_,_,rfl⟩;rw[hwa]at co⊢;clear h hwa;unfold bC at co⊢;generalize ie zs=ord at co⊢;generalize zs.length=nw at co⊢;obtain⟨cw,IV⟩:∃c,c=nw:=⟨_,rfl⟩;rw[show Value.slice wa nw nw=ζ wa nw cw by rw[IV]]at co⊢;clear IV;have bh:Below w.heap.size w (w.alloc (θ #[V Z fq,V Z iv,V Z ct,V Z un,ζ m nm cm,ζ md nd cd,ζ wa nw cw,ζ pl np cp,V Z ws,η tx] 76)):=(κ _ _).alloc (ι _) _;have CO:=H co;clear co;have hfq:fq=0\/fq=1\/fq=2\/fq=3:=by omega
 clear kD VN;rcases hfq with rfl|rfl|rfl|rfl<;>rcases Nat.eq_zero_or_pos nd with rfl|cK<;>cases ord
 all_goals
  go_enter func152,ntmps152;go_wp2_with (go_at_call 211;refine(CO.out _ bh).mono ?_;rintro e w1 ⟨rfl,au⟩;have q0:=Bj au 0 _ rfl;have q4:=Bj au 4 _ rfl;have q5:=Bj au 5 _ rfl;have q6:=Bj au 6 _ rfl;have q7:=Bj au 7 _ rfl)
 all_goals go_ret
 all_goals
  refine⟨congrArg (λb=>Ending.returned (μ b)) ?_,by first|exact bh.trans (au.mono bh.size)|exact(κ _ _).alloc (ι _) _⟩;clear CO bh
  try clear q0 q4 q5 q6 q7
  unfold xL;simp_all
 all_goals first|omega|(rw[Bool.eq_iff_iff];simp;try omega)
end Go.Proofs.YthpndgcaoeokeaaGreatDoor
