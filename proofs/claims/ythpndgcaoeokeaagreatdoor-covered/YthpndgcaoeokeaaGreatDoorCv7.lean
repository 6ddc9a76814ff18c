import Derived.Test.YthpndgcaoeokeaaGreatDoorCv6
set_option maxRecDepth 100000
set_option maxHeartbeats 8000000
open Go.IntKind renaming i64->Z
open Go.Value renaming int->V,pointer->ε,slice->ζ
open Go.Ending renaming returned->δ
open Go.Obj renaming cells->η
open Bool renaming and_eq_true->θ,false_eq_true->ϋ,false_or->Ϛ
open Nat renaming lt_of_lt_of_le->ι,le_refl->μ,reduceAdd->Ι,reduceSub->Ω,le_trans->ϊ,zero_add->ϛ
open Go renaming World->κ,Calls->Υ,Ending->ϙ
open Go.RowKit.Below renaming refl->ν
open Option.some renaming inj->ξ,injEq->Φ
open List renaming getElem?_eq_getElem->ο,length_append->ρ,nil_append->υ,mem_append->φ,length_cons->ω,mem_cons_of_mem->Α,range->Β,cons_append->Γ,singleton_append->Ε,append_toArray->Θ,mem_singleton->Κ,size_toArray->Μ,push_toArray->Ν,getElem?_map->Ξ,length_nil->Ο,length_map->Ρ,mem_cons->Χ,map_cons->Ψ,take_length->ό,not_mem_nil->ύ,drop_length->ώ,append_nil->Ϗ,drop_zero->ϗ
open Option renaming getD_some->π,map_some->τ
open Go.Lib renaming compactUpTo->χ,hasSuffix->Λ,compact->Τ,trimSuffix->Ϙ
open Ne renaming symm->ψ
open Go.Instr renaming loadAt->Δ
open Array renaming replicate_zero->Ζ,replicate_succ->Η
namespace Go.Proofs.YthpndgcaoeokeaaGreatDoor
open Tryz
open Go.RowKit
section
open Go.Sort
attribute [local go_sem] Oper.semAt_some
attribute [local go_sem] bG aV
attribute [local simp] bG aV
theorem NS (u:ByteArray)(st ln:Int)(hr:Bool)(r:aC)(m md wk pl:Value)(tx:ByteArray)(aI aH:Value)(ex xt:List Int)(tr:Bool)(k:Int)(f to:Int)(w:κ)(N:kt w hr r m md wk pl aI aH ex xt)
 (s0:0<=st)(s1:st<=7258118400)(f0:-1000000000000<=f)(f1:f<=7258118400)(t0:0<=to)(t1:to<=7258118400):
 Υ prog 159 #[.agg (cF u st ln hr r m md wk pl tx aI aH tr k).toArray,V Z f,V Z to] w (dR (rh (tp hr r st f to ex)) (kY m md wk pl aI aH) w):=by
 have my:∀args w,(callFunc 215 args).run prog w=.ok (.enter 215 args) w:=enters_of func215 (by kernel_rfl) rfl;replace my:=H my;have q0:=lL w (cF u st ln hr r m md wk pl tx aI aH tr k) 79 (η #[V Z f] 3) (η #[V Z to] 3);have q1:=lM w (η (cF u st ln hr r m md wk pl tx aI aH tr k).toArray 79) [V Z f] 3 (η #[V Z to] 3);have q2:=lN w (η (cF u st ln hr r m md wk pl tx aI aH tr k).toArray 79) (η #[V Z f] 3) [V Z to] 3;have al:=iD w (η (cF u st ln hr r m md wk pl tx aI aH tr k).toArray 79) (η #[V Z f] 3) (η #[V Z to] 3);have hit:=H (ai6 u st ln hr r m md wk pl tx aI aH ex xt tr k f to w.heap.size (w.heap.size+1) (w.heap.size+1+1) _ (N.on al) s0 s1 f0 f1 t0 t1 q0 q1 q2);have hblk:=H (λk (h:kY m md wk pl aI aH k)=>N.fW h);clear N q0 q1 q2;generalize cF u st ln hr r m md wk pl tx aI aH tr k=E at *
 go_enter func159,ntmps159;go_wp2_with fail;go_ret;refine⟨_,_,_,rfl,hit.out,λk I=>?_,my.out,al⟩;rcases I with rfl|rfl|rfl|h
 ·exact⟨by simp;omega,.inr (μ _)⟩
 ·exact⟨by simp,.inr (by omega)⟩
 ·exact⟨by simp,.inr (by omega)⟩
 exact⟨by have:=hblk.out k h;simp;omega,.inl h⟩
theorem S7 {w:κ}{v:Value}{zs:List Int}(x:Int)(h:dd w v zs)(U:zs.length<=1000):
 Υ prog 218 #[v,V Z x] w λe Y=>e=δ (.bool (zs.contains x))/\Below w.heap.size w Y:=by
 rcases h with⟨rfl,rfl⟩|⟨g,cap,rest,rfl,hr⟩
 ·refine(Tryz.slices_Contains_int_empty none 0 x w).mono ?_;rintro e Y ⟨rfl,rfl⟩;exact⟨rfl,ν _ _⟩
 refine(Tryz.slices_Contains_int g 0 zs.length cap zs x w (μ _) (by omega) (λj hj=>?_)).mono ?_
 ·rw[ϛ];exact hr.cell (by rw[Ξ,List.getElem?_append_left hj,ο hj,List.getD_eq_getElem?_getD,ο hj];rfl)
 rintro e Y ⟨rfl,rfl⟩;exact⟨by rw[ό],ν _ _⟩
def ix (st f to:Int)(ex:List Int)(l:List Int):List Int:=l.filter λt=>decide (max st f<=t)&&decide (t<to)&&!ex.contains t
def ints (l:List Int):List Value:=l.map (Value.int Z)
theorem Xk (l:List Int)(x:Int):ints (l++[x])=ints l++[V Z x]:=by unfold ints;simp
theorem KH (u:ByteArray)(st ln:Int)(hr:Bool)(r:aC)(m md wk pl:Value)(tx:ByteArray)(aI aH:Value)(ex xt:List Int)(tr:Bool)(k:Int)(f to:Int)(w:κ)(N:kt w hr r m md wk pl aI aH ex xt):
 Υ prog 160 #[.agg (cF u st ln hr r m md wk pl tx aI aH tr k).toArray,V Z f,V Z to] w λe Y=>∃v,e=δ v/\Y.ownsRow w.heap.size 3 1 v (ix st f to ex xt).length (ints (ix st f to ex xt))/\Below w.heap.size w Y:=by
 obtain⟨a5,c5,e5⟩:=N.hex.sl;obtain⟨a6,c6,e6⟩:=N.mw.sl;have hC:Hid (∀W' x,Below w.heap.size w W'->Υ prog 218 #[aI,V Z x] W' λe Y=>e=δ (.bool (ex.contains x))/\Below W'.heap.size W' Y):=H λW' x U=>S7 x (N.on U).hex N.exl;have hX:Hid (∀W',Below w.heap.size w W'->dd W' aH xt):=H λW' U=>(N.on U).mw;have hxl:=N.xtl;clear N;have r1:=M.new w (cF u st ln hr r m md wk pl tx aI aH tr k) 79;have al:=(ν w.heap.size w).alloc (μ _) (η (cF u st ln hr r m md wk pl tx aI aH tr k).toArray 79);have hE1:(cF u st ln hr r m md wk pl tx aI aH tr k)[1]?=some (V Z st):=rfl;have anw:(cF u st ln hr r m md wk pl tx aI aH tr k)[14]?=some aI:=rfl;have anx:(cF u st ln hr r m md wk pl tx aI aH tr k)[15]?=some aH:=rfl;generalize cF u st ln hr r m md wk pl tx aI aH tr k=E at *
 subst e5 e6;have hL:Hid (ix st f to ex xt=ix st f to ex (xt.take 0)++ix st f to ex (xt.drop 0)):=H rfl;refine(callsIn_wide (n:=0)).1 ?_;refine callsIn_of_wp func160 rfl trivial ?_ rfl;simp only[ntmps160,Μ,ω,Ο,Ι,Ω,Η,Ζ,Ν,Θ,υ,Γ];gi_upto_region 1 with fail;have bp:w.heap.size<(w.alloc (η E.toArray 79)).heap.size:=by simp
 generalize w.alloc (η E.toArray 79)=W at *
 have g15:=r1.cell anx;gi_wp2_with fail;clear g15;gi_loopg [7,13] xt.length (λq pv cv wr=>∃(i:Nat) (pre:List Int),i+q=xt.length/\cv=V Z i/\Below w.heap.size w wr/\M wr w.heap.size E 79/\wr.ownsRow W.heap.size 3 1 pv pre.length (ints pre)/\pre.length<=i/\W.heap.size<=wr.heap.size/\Hid (ix st f to ex xt=pre++ix st f to ex (xt.drop i)))
 case atStart=>exact⟨0,[],by omega,rfl,al,r1,World.ownsRow_nil _ _ _ _,μ _,μ _,H (by simp)⟩
 case round=>
  clear al r1 hL;obtain⟨i,pre,hiq,rfl,al,r1,aU,qz,zv,HL⟩:=hrel;have A6:=al.size;by_cases S:i=xt.length
  case pos=>
   have HL':Hid (ix st f to ex xt=pre):=H (by rw[HL.out,S,ώ];simp[ix]);clear HL;subst S;gi_wp2_with fail;go_ret;exact⟨u7,rfl,by rw[HL'.out];exact tX aU (by omega),al⟩
  case neg=>
   have wW:i<xt.length:=by omega
   obtain⟨t,ht⟩:∃t,xt[i]?=some t:=⟨_,ο wW⟩;obtain⟨gx,hax,hcx⟩:=(hX.out wr al).cell ht;have iK:=H (show ix st f to ex (xt.drop i)=(if max st f<=t/\t<to/\ex.contains t=false then[t]else[])++ix st f to ex (xt.drop (i+1))from by
    rw[drop_one ht];unfold ix;rw[List.filter_cons];by_cases G:max st f<=t<;>by_cases A:t<to<;>cases K:ex.contains t<;>simp[G,A])
   subst hax;have g1:=r1.cell hE1;have g14:=r1.cell anw;clear ht;by_cases G:max st f<=t
   case neg=>
    have HN:¬(max st f<=t/\t<to/\ex.contains t=false):=λh=>G h.1;have tf:t<max st f:=by omega
    gi_wp2_with fail;gi_roundg (gk-1)
    case measure=>omega
    case rel=>exact⟨i+1,pre,by omega,by go_num,al,r1,aU,by omega,zv,H (by rw[HL.out,iK.out,if_neg HN];rfl)⟩
   case pos=>
    by_cases A:t<to
    case neg=>
     have HN:¬(max st f<=t/\t<to/\ex.contains t=false):=λh=>A h.2.1;have uB:to<=t:=by omega
     gi_wp2_with fail;gi_roundg (gk-1)
     case measure=>omega
     case rel=>exact⟨i+1,pre,by omega,by go_num,al,r1,aU,by omega,zv,H (by rw[HL.out,iK.out,if_neg HN];rfl)⟩
    case pos=>
     gi_wp2_with fail;refine((callsIn_wide.2 (hC.out _ t al)).mono ?_);rintro e W5 ⟨rfl,bJ⟩;have S8:=H (show ∀b,ex.contains t=b->ix st f to ex xt=(pre++(if b then[]else[t]))++ix st f to ex (xt.drop (i+1))from λb U=>by
      rw[HL.out,iK.out,List.append_assoc];cases b
      ·rw[if_pos ⟨G,A,U⟩];rfl
      rw[if_neg (λh=>by rw[h.2.2]at U;cases U)];rfl)
     have ly:=eO aU (Y:=W5) λg hg=>bJ.block g (aU.lt g hg).2;have r5:=r1.on bJ;have El:=H (al.trans (bJ.mono A6));have xh:=bJ.size;clear g1 g14 hcx HL iK aU r1 bJ;generalize hB:ex.contains t=B at *
     replace S8:=H (S8.out B rfl);clear hB;cases B
     case true=>
      gi_wp2_with fail;gi_roundg (gk-1)
      case measure=>omega
      case rel=>exact⟨i+1,pre,by omega,by go_num,El.out,r5,ly,by omega,by omega,H (by simpa using S8.out)⟩
     case false=>
      gi_wp2_with (gi_at_builtin;refine Hid.out ?_);refine H ?_;refine xi rfl (.tmp 35) (.tmp 37) 54 3 _ 1 8 rfl underlying54 O5 rfl (by decide) W.heap.size u7 pre.length (ints pre) rfl (ly.alloc _) (by simp;omega) W5.heap.size [V Z t] rfl rfl (λj u hj=>(M.new W5 [V Z t] 3).cell hj) (by simp[Value.oneCell']) (by omega) (by decide) ?_;intro v' W6 nA ux qL;clear qL;have cG:=H (((El.out.alloc (by omega) _).grown ux (by simp;omega) (λk I=>by have:=(ly.lt k I).1;omega)));have r6:M W6 w.heap.size E 79:=(ux.block _ (by have:=r5.lt;simp;omega) (λe=>by have:=(ly.lt _ e.symm).1;omega)).trans (r5.on ((ν _ _).alloc (μ _) _));have uq:=ux.size;gi_wp2_with fail;gi_roundg (gk-1)
      case measure=>omega
      case rel=>exact⟨i+1,pre++[t],by omega,by go_num,cG.out,r6,by rw[Xk,ρ];exact nA,by simp;omega,by simp at uq;omega,H (by simpa using S8.out)⟩
end
section
structure YJ (s0 y n0:Nat)(a0:Act)(W:κ)(atE:Nat->Value->Prop)(T Fa:κ->Prop)(Bz:Bool->Nat->Value->Prop)(L:Nat->Bool)(a:Act)(w:κ):Prop where
 size:a.tmps.size=a0.tmps.size
 defers:a.defers=a0.defers
 fixed:∀k:Nat,k<s0\/s0+n0<=k->a.eval (.tmp k)=a0.eval (.tmp k)
 pre:L y=false->Below W.heap.size W w/\∀j,y<j->L j=false
 eA:∀j,j<y->L j=true->atE j (a.eval (.tmp (s0+j)))
 post:L y=true->(∀j,j<y->L j=true)/\∃b:Bool,a.eval (.tmp (s0+y))=.bool b/\(b=true->T w)/\(b=false->Fa w)/\∀j,y<j->L j=true->Bz b j (a.eval (.tmp (s0+j)))
section
variable {s0 y n0:Nat} {a0:Act} {W:κ} {atE:Nat->Value->Prop} {T Fa:κ->Prop} {Bz:Bool->Nat->Value->Prop} {L:Nat->Bool} {a:Act} {w:κ}
theorem YJ.start (h4:Below W.heap.size W w):YJ s0 y n0 a0 W atE T Fa Bz (λ_=>false) a0 w:=
 ⟨rfl,rfl,λ_ _=>rfl,λ_=>⟨h4,λ_ _=>rfl⟩,λ_ _ h=>(by cases h),λh=>(by cases h)⟩
theorem YJ.below (h:YJ s0 y n0 a0 W atE T Fa Bz L a w){j:Nat}(hj:j<y)(hL:L j=false):Below W.heap.size W w:=by
 cases hy:L y
 ·exact(h.pre hy).1
 have:=(h.post hy).1 j hj;rw[hL]at this;cases this
theorem YJ.fS (h:YJ s0 y n0 a0 W atE T Fa Bz L a w){j:Nat}(hj:j<y)(hL:L j=false)(hn:y<n0)(bp:s0+n0<=a0.tmps.size){v:Value}{Y:κ}(hv:atE j v)(U:Below w.heap.size w Y){dst:Option Nat}(hd:dst=some (s0+j)):
 YJ s0 y n0 a0 W atE T Fa Bz (λk=>decide (k=j)||L k) (a.put dst v) Y:=by
 subst hd;have hy:L y=false:=by
  cases hy:L y
  ·rfl
  have:=(h.post hy).1 j hj;rw[hL]at this;cases this
 have hs:s0+j<a.tmps.size:=by rw[h.size];omega
 refine⟨by rw[gm];exact h.size,by rw[put_defers];exact h.defers,λp J=>by rw[cZ (by omega)];exact h.fixed p J,λ_=>⟨(h.pre hy).1.trans (U.mono (h.pre hy).1.size),λk I=>?_⟩,λk I N=>?_,λN=>?_⟩
 ·simp only[Bool.or_eq_false_iff,decide_eq_false_iff_not];exact⟨by omega,(h.pre hy).2 k I⟩
 ·by_cases wg:k=j
  ·subst wg;rw[gR hs];exact hv
  rw[cZ (by omega)];exact h.eA k I (by simpa[wg]using N)
 have df:¬y=j:=by omega
 simp only[df,decide_false,Ϛ]at N;rw[hy]at N;cases N
theorem YJ.Gj (h:YJ s0 y n0 a0 W atE T Fa Bz L a w)(bx:∀j,j<y->L j=true)(hL:L y=false)(hn:y<n0)(bp:s0+n0<=a0.tmps.size){b:Bool}{Y:κ}(hT:b=true->T Y)(hF:b=false->Fa Y){dst:Option Nat}(hd:dst=some (s0+y)):
 YJ s0 y n0 a0 W atE T Fa Bz (λk=>decide (k=y)||L k) (a.put dst (.bool b)) Y:=by
 subst hd;have hs:s0+y<a.tmps.size:=by rw[h.size];omega
 refine⟨by rw[gm];exact h.size,by rw[put_defers];exact h.defers,λp J=>by rw[cZ (by omega)];exact h.fixed p J,λN=>by simp at N,λk I N=>?_,λ_=>⟨λk I=>by simp[bx k I],b,gR hs,hT,hF,λk I N=>?_⟩⟩
 ·rw[cZ (by omega)];exact h.eA k I (bx k I)
 have df:¬k=y:=by omega
 simp only[df,decide_false,Ϛ]at N;rw[(h.pre hL).2 k I]at N;cases N
theorem YJ.zc (h:YJ s0 y n0 a0 W atE T Fa Bz L a w){j:Nat}(hj:y<j)(hL:L j=false)(Xa:L y=true)(hn:j<n0)(bp:s0+n0<=a0.tmps.size){v:Value}(hv:∀b,a.eval (.tmp (s0+y))=.bool b->Bz b j v){dst:Option Nat}(hd:dst=some (s0+j)):
 YJ s0 y n0 a0 W atE T Fa Bz (λk=>decide (k=j)||L k) (a.put dst v) w:=by
 subst hd;have hs:s0+j<a.tmps.size:=by rw[h.size];omega
 obtain⟨p1,b,p2,p3,p4,p5⟩:=h.post Xa;refine⟨by rw[gm];exact h.size,by rw[put_defers];exact h.defers,λp J=>by rw[cZ (by omega)];exact h.fixed p J,λN=>?_,λk I N=>?_,λ_=>⟨λk I=>by simp[p1 k I],b,by rw[cZ (by omega)];exact p2,p3,p4,λk I N=>?_⟩⟩
 ·simp[Xa]at N
 ·rw[cZ (by omega)];exact h.eA k I (p1 k I)
 by_cases wg:k=j
 ·subst wg;rw[gR hs];exact hv b p2
 rw[cZ (by omega)];exact p5 k I (by simpa[wg]using N)
end
theorem Z0 (s0:Nat):∀(m:Nat) (a a0:Act),a.tmps.size=a0.tmps.size->a.defers=a0.defers->s0+m<=a0.tmps.size->(∀k:Nat,k<s0\/s0+m<=k->a.eval (.tmp k)=a0.eval (.tmp k))->
 a=(Β m).foldl (λx j=>x.put (some (s0+j)) (a.eval (.tmp (s0+j)))) a0:=by
 intro m a a0 hs hd hm hr;have key:∀(m':Nat),m'<=m->((Β m').foldl (λx j=>x.put (some (s0+j)) (a.eval (.tmp (s0+j)))) a0).tmps.size=a0.tmps.size/\((Β m').foldl (λx j=>x.put (some (s0+j)) (a.eval (.tmp (s0+j)))) a0).defers=a0.defers/\
  ∀k:Nat,((Β m').foldl (λx j=>x.put (some (s0+j)) (a.eval (.tmp (s0+j)))) a0).eval (.tmp k)=if s0<=k/\k<s0+m' then a.eval (.tmp k)else a0.eval (.tmp k):=by
  intro m'
  induction m' with
  |zero=>intro _;exact⟨rfl,rfl,λk=>by rw[if_neg (show¬(s0<=k/\k<s0+0) by omega)];rfl⟩
  |succ m' ih=>
   intro MY;obtain⟨G,A,K⟩:=ih (by omega);rw[List.range_succ,List.foldl_append];simp only[List.foldl_cons,List.foldl_nil];refine⟨by rw[gm];exact G,by rw[put_defers];exact A,λk=>?_⟩;by_cases I:k=s0+m'
   ·subst I;rw[gR (by rw[G];omega),if_pos (show s0<=s0+m'/\s0+m'<s0+(m'+1) by omega)]
   rw[cZ I,K k];by_cases hc:s0<=k/\k<s0+m'
   ·rw[if_pos hc,if_pos (show s0<=k/\k<s0+(m'+1) by omega)]
   rw[if_neg hc,if_neg (show¬(s0<=k/\k<s0+(m'+1)) by omega)]
 obtain⟨G,A,K⟩:=key m (μ _);have ib:∀k:Nat,a.eval (.tmp k)=((Β m).foldl (λx j=>x.put (some (s0+j)) (a.eval (.tmp (s0+j)))) a0).eval (.tmp k):=λk=>by
  rw[K k];by_cases hc:s0<=k/\k<s0+m
  ·rw[if_pos hc]
  rw[if_neg hc];exact hr k (by omega)
 generalize(Β m).foldl (λx j=>x.put (some (s0+j)) (a.eval (.tmp (s0+j)))) a0=b at *
 obtain⟨ta,da⟩:=a;obtain⟨tb,db⟩:=b;simp only[]at hs hd G A;have e1:ta=tb:=by
  apply Array.ext
  ·omega
  intro i S Qg;have:=ib i;have e:ta.getD i undef=tb.getD i undef:=this;simpa[Array.getD,S,Qg]using e
 rw[e1,hd,<-A]
end
section
open Go.Sort
def gJ (t:Int):List Int->List Int
 |[]=>[]
 |x::r=>if x=t then r else x::r
def jn:List Int->List Int->List Int
 |[],ls=>ls
 |t::ts,ls=>ls.takeWhile (λx=>decide (x<t))++t::jn ts (gJ t (ls.dropWhile λx=>decide (x<t)))
def vm (t:Int)(ts ls:List Int):List Int:=ls.takeWhile (λx=>decide (x<t))++t::jn ts (gJ t (ls.dropWhile λx=>decide (x<t)))
theorem adZ {t z:Int}{ts r:List Int}(h:z<t):vm t ts (z::r)=z::vm t ts r:=by
 unfold vm;simp[h]
theorem ad0 {t:Int}{ts r:List Int}:vm t ts (t::r)=t::jn ts r:=by
 unfold vm;simp[gJ]
theorem ad1 {t z:Int}{ts r:List Int}(h:t<z):vm t ts (z::r)=t::jn ts (z::r):=by
 have G:¬z<t:=by omega
 have A:¬z=t:=by omega
 unfold vm;simp[G,gJ,A]
theorem Z1 {t:Int}{ts:List Int}:vm t ts []=t::jn ts []:=by
 unfold vm;simp[gJ]
def LS (w:κ)(v:Value)(ls:List Int):Prop:=∃a c,v=ζ a ls.length c/\ls.length<=c/\c<=9223372036854775807/\∀i z,ls[i]?=some z->∃g j,a=some ⟨g,j,none⟩/\w.cell? ⟨g,j+i,none⟩=some (V Z z)
theorem LS.keep {w Y:κ}{v:Value}{ls:List Int}(h:LS w v ls)(I:∀k,v.ownBlock=some k->Y.heap[k]?=w.heap[k]?):LS Y v ls:=by
 obtain⟨a,c,rfl,hc,hm,hz⟩:=h;refine⟨a,c,rfl,hc,hm,λi z S=>?_⟩;obtain⟨g,j,rfl,iU⟩:=hz i z S;refine⟨g,j,rfl,?_⟩;rw[show Y.cell? ⟨g,j+i,none⟩=w.cell? ⟨g,j+i,none⟩from World.cell?_of_block (I g rfl)];exact iU
theorem LS.ahH {w:κ}{B:Nat}{v:Value}{ls:List Int}(h:w.ownsRow B 3 1 v ls.length (ints ls)):LS w v ls:=by
 rcases h.2 with⟨rfl,h0⟩|⟨g,cap,cur,rfl,_,_,M4,zR,_,_⟩
 ·have:ls=[]:=List.eq_nil_of_length_eq_zero h0;subst this;exact⟨_,_,rfl,μ _,by omega,λi z S=>by simp at S⟩
 refine⟨_,_,rfl,M4,by unfold maxLen at zR;omega,λi z S=>⟨g,0,rfl,?_⟩⟩;have jl:=(List.getElem?_eq_some_iff.1 S).1;rw[ϛ,h.cellAt i (by omega)];unfold ints;rw[Ξ,S];rfl
theorem LS.tail {w:κ}{v:Value}{z:Int}{ls:List Int}(h:LS w v (z::ls)):∃v',(∀Y,(Instr.slice 54 v (some (V Z 1)) none none).run prog Y=.ok v' Y)/\LS w v' ls/\∀k,v'.ownBlock=some k->v.ownBlock=some k:=by
 obtain⟨a,c,rfl,hc,hm,hz⟩:=h;obtain⟨g,j,rfl,_⟩:=hz 0 z rfl;simp only[ω]at hc;have iF:∀Y,(Instr.slice 54 (ζ (some ⟨g,j,none⟩) (ls.length+1) c) (some (V Z 1)) none none).run prog Y=.ok (.slice (if c=1 then some ⟨g,j,none⟩else some ⟨g,j+1,none⟩) ls.length (c-1)) Y:=λY=>by
  have G:(1:Int)<=(ls.length:Int)+1:=by omega
  simp[Instr.slice,Instr.sliceBounds,Instr.sliceBound,go_sem,asIntOf,G,Addr.add]
 refine⟨_,iF,⟨_,_,rfl,by omega,by omega,λi x S=>?_⟩,λk I=>?_⟩
 ·have jl:=(List.getElem?_eq_some_iff.1 S).1;obtain⟨g',j',e,iU⟩:=hz (i+1) x (by simpa using S);cases e;rw[if_neg (by omega)];exact⟨g,j+1,rfl,by rw[Nat.add_assoc,Nat.add_comm 1 i];exact iU⟩
 split at I<;>exact I
def MJ (O:aj)(W0:κ)(b4 n4:Nat)(ov:Value)(atF:Nat->aP)(E:Nat->Nat->List Int->Prop)(i:Nat):aP:=λD W=>
 (D b4/\∀k,D k->(O k\/k=b4)\/n4<=k)/\∃(q:Nat) (D0:aj) (ls:List Int) (v:Value),¬D0 b4/\me O W0 (atF q) D0 D W/\M W b4 [v] 54/\LS W0 v ls/\(∀k,v.ownBlock=some k->ov.ownBlock=some k)/\E q i ls
theorem MJ.cL {O:aj}{W0:κ}{b4 n4:Nat}{ov:Value}{atF:Nat->aP}{E:Nat->Nat->List Int->Prop}{i:Nat}{D:aj}{W:κ}(hD:∀k,D k->k<W.heap.size)(h:MJ O W0 b4 n4 ov atF E i D W):On D (MJ O W0 b4 n4 ov atF E i) W:=by
 obtain⟨G,q,D0,ls,v,A,K,h4,h5⟩:=h;exact⟨hD,λW2 I=>⟨G,q,D0,ls,v,A,K.keep I,h4.keep (I _ G.1),h5⟩⟩
structure MS (O:aj)(W0:κ)(l b3 b4:Nat)(ov:Value)(atD:aP)(D:aj)(W5:κ)(D0:aj)(ls:List Int)(v:Value)(w:κ):Prop where
 bq:me O W0 atD D0 (λk=>D k\/D0 k) w
 nb3:¬D0 b3
 nb:¬D0 b4
 y:M w b3 [.func (.yield l) #[] #[]] 58
 row:M w b4 [v] 54
 ls:LS W0 v ls
 fW:∀k,v.ownBlock=some k->ov.ownBlock=some k
 aL:ak D W5 w
 d0:∀k,D0 k->D k\/W5.heap.size<=k
 ze:ak O W0 w
section
variable {O:aj} {W0:κ} {l b3 b4 n4:Nat} {ov:Value} {atD X':aP} {D:aj} {W5:κ} {D0:aj} {ls sM:List Int} {v v':Value} {w Y:κ}
theorem MS.below (h:MS O W0 l b3 b4 ov atD D W5 D0 ls v w)(U:Below w.heap.size w Y):MS O W0 l b3 b4 ov atD D W5 D0 ls v Y:=
 ⟨h.bq.below U,h.nb3,h.nb,h.y.on U,h.row.on U,h.ls,h.fW,h.aL.aM (ak.ar U),h.d0,h.ze.aM (ak.ar U)⟩
theorem MS.yield (h:MS O W0 l b3 b4 ov atD D W5 D0 ls v w)(h05:W0.heap.size<=W5.heap.size)(J:aN D0 w.heap.size X' w Y):∃nK,MS O W0 l b3 b4 ov X' D W5 nK ls v Y:=by
 have hs:=h.aL.size;obtain⟨nK,NO,d1,X⟩:=h.bq.post (by omega) J;refine⟨nK,⟨⟨λk I=>.inr I,NO.dO,NO.Od,NO.on⟩,λI=>(d1 _ I).elim h.nb3 (by have:=h.y.lt;omega),λI=>(d1 _ I).elim h.nb (by have:=h.row.lt;omega),h.y.aL X h.nb3,h.row.aL X h.nb,h.ls,h.fW,h.aL.trans X (λk I=>h.d0 k I),λk I=>(d1 k I).elim (h.d0 k) (λh'=>.inr (by omega)),h.ze.trans X (λk I=>h.bq.dO k I)⟩⟩
theorem MS.set (h:MS O W0 l b3 b4 ov atD D W5 D0 ls v w)(U:D b4)(bh:W0.heap.size<=b4)(df:b3≠b4)(N:LS W0 v' sM)(I:∀k,v'.ownBlock=some k->v.ownBlock=some k):MS O W0 l b3 b4 ov atD D W5 D0 sM v' (w.setCell ⟨b4,0,none⟩ v'):=
 ⟨h.bq.set h.nb _,h.nb3,h.nb,h.y.other df _,h.row.set (k:=0) v',N,λk e=>h.fW k (I k e),h.aL.setCell (.inl U) _,h.d0,h.ze.setCell (.inr bh) _⟩
theorem MS.head {z:Int}(h:MS O W0 l b3 b4 ov atD D W5 D0 (z::ls) v w)(Xl:∀k,ov.ownBlock=some k->k<W0.heap.size/\¬O k):∃g j c,v=ζ (some ⟨g,j,none⟩) (ls.length+1) c/\ls.length+1<=c/\g<W0.heap.size/\¬O g/\w.cell? ⟨g,j,none⟩=some (V Z z):=by
 have N:=h.ls.keep (Y:=w) λk I=>by
  obtain⟨G,A⟩:=Xl k (h.fW k I);exact h.ze.block k G A
 have Am:=h.fW;obtain⟨a,c,rfl,hc,_,hz⟩:=N;obtain⟨g,j,rfl,iU⟩:=hz 0 z rfl;obtain⟨G,A⟩:=Xl g (Am g rfl);exact⟨g,j,c,rfl,by simpa using hc,G,A,by simpa using iU⟩
theorem MS.nil (h:MS O W0 l b3 b4 ov atD D W5 D0 [] v w):∃a c,v=ζ a 0 c:=by
 obtain⟨a,c,e,_⟩:=h.ls;exact⟨a,c,e⟩
theorem MS.lt (h:MS O W0 l b3 b4 ov atD D W5 D0 ls v w)(hD:∀k,D k->k<W5.heap.size):∀k,D k\/D0 k->k<w.heap.size:=λk I=>I.elim (λhd=>ι (hD k hd) h.aL.size) (λhd=>h.bq.on.1 k hd)
theorem MS.fin {atF:Nat->aP}{E:Nat->Nat->List Int->Prop}{i q:Nat}(h:MS O W0 l b3 b4 ov (atF q) D W5 D0 ls v w)(hD:∀k,D k->k<W5.heap.size)(U:D b4)(hn:∀k,D k->(O k\/k=b4)\/n4<=k)(h5:n4<=W5.heap.size)(hE:E q i ls):aN D W5.heap.size (MJ O W0 b4 n4 ov atF E i) W5 w:=
 ⟨h.aL,λk=>D k\/D0 k,λk I=>I.elim .inl (h.d0 k),λ_ I=>.inl I,MJ.cL (h.lt hD) ⟨⟨.inl U,λk I=>I.elim (hn k) (λhd=>(h.d0 k hd).elim (hn k) (λh'=>.inr (by omega)))⟩,q,D0,ls,v,h.nb,h.bq,h.row,h.ls,h.fW,hE⟩⟩
theorem MS.S9 {atx:aP}(h:MS O W0 l b3 b4 ov atD D W5 D0 ls v w)(hD:∀k,D k->k<W5.heap.size):aN D W5.heap.size (qx O W0 atx atD .ret) W5 w:=
 ⟨h.aL,λk=>D k\/D0 k,λk I=>I.elim .inl (h.d0 k),λ_ I=>.inl I,qx.TQ (DX.cL (h.lt hD) ⟨D0,h.bq⟩)⟩
theorem MS.Ta (h:MS O W0 l b3 b4 ov atD D W5 D0 ls v w)(hD:∀k,D k->k<W5.heap.size):aN D W5.heap.size (DX O W0 atD) W5 w:=
 ⟨h.aL,λk=>D k\/D0 k,λk I=>I.elim .inl (h.d0 k),λ_ I=>.inl I,DX.cL (h.lt hD) ⟨D0,h.bq⟩⟩
end
end
section
open Go.Sort
attribute [local go_sem] Oper.semAt_some
attribute [local go_sem] bG aV
attribute [local simp] bG aV
theorem ahI {F:Fence}{nF:Nat}{ops:Array Oper}{rest:List Oper}{o:Oper}{a:Act}{w:κ}{Q:Exit->Act->κ->Prop}{x:Operand}{v v':Value}(hg:o.guard=none)(ho:o.op=.slice 54 x (some (.const (V Z 1))) none none)(X:a.eval x=v)
 (hr:∀Y,(Instr.slice 54 v (some (V Z 1)) none none).run prog Y=.ok v' Y)(hF:∀f,F.fn f)(hK:wpListIn F nF prog ops Q rest (a.put o.dst v') w):wpListIn F nF prog ops Q (o::rest) a w:=
 wpListIn_plain hg λatH oc=>bw hF (by rw[ho];intro c hc;cases hc) (by
  obtain⟨_,_,_,_,_,_⟩:=o;simp only[]at ho;subst ho;unfold execOp;have h0:a.eval (.const (V Z 1))=V Z 1:=rfl;simp only[X,h0,τ,Option.map_none];exact bj (hr w)) (oc _ _ hK)
theorem St.put {O:aj}{W:κ}{atF:aP}{D:aj}{wr:κ}(h:St O W atF D wr){b:Nat}(U:¬D b)(hW:W.heap.size<=b)(o:Obj):St O W atF D (wr.putObj b o):=⟨h.aL.put (.inr hW) _,h.dO,h.Od,h.on.put U _⟩
def NM (l gz jz:Nat)(v:Value)(z:Int)(j:Nat)(x:Value):Prop:=match j with
 |0=>x=.func (.yield l) #[] #[]
 |1=>x=v
 |2=>x=ε (some ⟨gz,jz,none⟩)
 |_=>x=V Z z
theorem Z2 {p:Addr}{a:Option Addr}{n c:Nat}{w:κ}(h:w.cell? p=some (ζ a n c)):(Δ 54 (ε (some p))).run prog w=.ok (ζ a n c) w:=by
 go_simp
theorem ad2 {o:Oper}{a:Act}{w:κ}{x:Operand}{g j n c:Nat}(ho:o.op=.indexAddr 54 x (.const (V Z 0)))(X:a.eval x=ζ (some ⟨g,j,none⟩) n c)(hn:0<n):(execOp a.eval o).run prog w=.ok (.value (ε (some ⟨g,j,none⟩))) w:=by
 obtain⟨_,_,_,_,_,_⟩:=o;simp only[]at ho;subst ho;unfold execOp;have h0:a.eval (.const (V Z 0))=V Z 0:=rfl;simp only[X,h0];go_simp
theorem Xm (XS OS:List Int)(g:Nat)(lb:Array Value)(R0:aj)(bo bt:Nat)(ov:Value)(w:κ)(hit:kX prog g lb (rh XS) R0 w)(eg:∀args w,(callFunc g args).run prog w=.ok (.enter g args) w)(hR0:∀k,R0 k->k<w.heap.size)
 (q1:M w bo [ov] 54)(q2:M w bt [.func (.func g) #[] lb] 196)(Xl:LS w ov OS)(anz:∀k,ov.ownBlock=some k->k<w.heap.size):
 kX prog 214 #[ε (some ⟨bo,0,none⟩),ε (some ⟨bt,0,none⟩)] (rh (jn XS OS)) (λk=>k=bo\/k=bt\/R0 k\/ov.ownBlock=some k) w:=by
 intro l W O atF Js Jp bp hR hO cJ hY;have ahJ:=Xl.keep λk I=>hR k (.inr (.inr (.inr I)));have anA:∀k,R0 k->W.heap[k]?=w.heap[k]?:=λk I=>hR k (.inr (.inr (.inl I)));replace q1:=q1.keep (hR bo (.inl rfl));replace q2:=q2.keep (hR bt (.inr (.inl rfl)));have nOR:∀k,O k->¬R0 k:=λk h h'=>hO k h (.inr (.inr (.inl h')));have nOv:∀k,O k->¬ov.ownBlock=some k:=λk h h'=>hO k h (.inr (.inr (.inr h')));have FU:prog.follows .mixedOrders=true:=by kernel_rfl
 have Tb:∀k,R0 k->k<W.heap.size:=λk I=>ι (hR0 k I) bp;have acp:∀k,ov.ownBlock=some k->k<W.heap.size:=λk I=>ι (anz k I) bp;clear hR hO Xl;have QS:Hid (jn XS OS=jn (XS.drop 0) OS):=H rfl;have uy:=H (λ(i:Nat) (t:Int) (h:(jn XS OS)[i]?=some t)=>hY i _ (zd h));clear hY;rw[ri];generalize jn XS OS=YS at *
 have anB:=ahJ;obtain⟨ao,co,hoe,_⟩:=anB;refine dr func214 rfl ?_;simp only[ntmps214,Μ,ω,Ο,Ι,Ω,Η,Ζ,Ν,Θ,υ,Γ];refine bK λatH hK=>bQ ?_;gi_wp2_with fail;have r3:M (W.alloc (η #[.func (.yield l) #[] #[]] 58)) W.heap.size [.func (.yield l) #[] #[]] 58:=M.new W [.func (.yield l) #[] #[]] 58;have al:Below W.heap.size W (W.alloc (η #[.func (.yield l) #[] #[]] 58)):=(ν _ _).alloc (μ _) _;have Ag:W.heap.size<(W.alloc (η #[.func (.yield l) #[] #[]] 58)).heap.size:=by simp
 generalize W.alloc (η #[.func (.yield l) #[] #[]] 58)=W1 at *
 refine bK λatH hK=>bQ ?_;rw[hoe]at q1;have c1:=(q1.on al).cell (k:=0) rfl;gi_wp2_with fail;rw[<-hoe]at q1⊢;have r4:M (W1.alloc (η #[ov] 54)) W1.heap.size [ov] 54:=M.new W1 [ov] 54;have cE:Below W1.heap.size W1 (W1.alloc (η #[ov] 54)):=(ν _ _).alloc (μ _) _;replace r3:=r3.on cE;replace al:=al.trans (cE.mono al.size);have oZ:W1.heap.size<(W1.alloc (η #[ov] 54)).heap.size:=by simp
 generalize W1.alloc (η #[ov] 54)=W2 at *
 generalize W1.heap.size=b4 at *
 clear c1 cE;refine bK λK1 eM=>?_;refine bK λatH hK=>bQ ?_;have c2:=(q2.on al).cell (k:=0) rfl;gi_wp2_with fail;clear c2;refine gB ?_;refine lz (gf:=g) (lb:=lb) func214 ?g eg hit (by omega) (λk I=>(al.block k (Tb k I)).trans (anA k I)) (λk I=>by have:=Tb k I;omega)
  (λk=>O k\/k=b4) (λk I cj=>I.elim (λh=>nOR k h cj) (λh=>by have:=Tb k cj;omega)) (MJ O W b4 W2.heap.size ov atF λq i ls=>q<=YS.length/\YS.drop q=jn (XS.drop i) ls) (qx O W (atF YS.length) Js) (λc=>DX O W (Jp c)) ?ps ?start ?round ?done ?stop ?pan
 case g=>rfl
 case ps=>intro x X;obtain⟨d,_,rfl⟩:=List.mem_map.1 X;rfl
 case start=>exact MJ.cL (λk I=>I.elim (λh=>by have:=cJ.1 k h;omega) (λh=>by omega)) ⟨⟨.inr rfl,λk I=>.inl I⟩,0,O,OS,ov,λh=>by have:=cJ.1 _ h;omega,⟨λk I=>.inl I,λk I=>.inl I,λk I=>I,cJ.below al⟩,r4,ahJ,λk I=>I,Nat.zero_le _,by simpa using QS.out⟩
 case stop=>
  rintro c W4 ⟨X,D,cD,_,aG⟩ hs bI;have ef:ak O W (W4.putObj W2.heap.size (.deferred none)):=((ak.ar al).trans X (λk I=>I.imp id λh=>by omega)).put (.inr (by omega)) _;have cK:¬D W2.heap.size:=λh=>(cD _ h).elim (λh=>h.elim (λh=>by have:=cJ.1 _ h;omega) (by omega)) (by omega);obtain⟨rfl,h⟩:=aG.out;have eY:=H (show aN O W.heap.size (atF YS.length) W (W4.putObj W2.heap.size (.deferred none))\/aN O W.heap.size Js W (W4.putObj W2.heap.size (.deferred none))from by
   rcases h with⟨D0,h⟩|⟨D0,h⟩
   ·exact .inl ((h.put cK _).fin ef)
   exact .inr ((h.put cK _).fin ef))
  clear h aG cD;gi_wp2_with fail;refine⟨by simp,.inl ⟨_,_,rfl,run_takeDeferred bI,?_⟩⟩;exact⟨_,results_none rfl _ _ _,.inl ⟨⟨_,rfl⟩,eY.out⟩⟩
 case pan=>
  rintro c W4 ⟨X,D,cD,_,aG⟩ hs bI;have ef:ak O W (W4.putObj W2.heap.size (.deferred none)):=((ak.ar al).trans X (λk I=>I.imp id λh=>by omega)).put (.inr (by omega)) _;have cK:¬D W2.heap.size:=λh=>(cD _ h).elim (λh=>h.elim (λh=>by have:=cJ.1 _ h;omega) (by omega)) (by omega);obtain⟨D0,h⟩:=aG.out;refine⟨by simp,.inl ⟨_,_,rfl,run_takeDeferred bI,?_⟩⟩;exact .inr ⟨c,rfl,(h.put cK _).fin ef⟩
 case done=>
  rw[ri];rintro W4 ⟨X,D,cD,_,aG⟩ hs bI;have ef:ak O W W4:=(ak.ar al).trans X (λk I=>I.imp id λh=>by omega);have cK:¬D W2.heap.size:=λh=>(cD _ h).elim (λh=>h.elim (λh=>by have:=cJ.1 _ h;omega) (by omega)) (by omega);have xy:¬D W.heap.size:=λh=>(cD _ h).elim (λh=>h.elim (λh=>by have:=cJ.1 _ h;omega) (by omega)) (by omega);have y3:=r3.aL X (show¬(O W.heap.size\/W.heap.size=b4)from λh=>h.elim (λh=>by have:=cJ.1 _ h;omega) (by omega));obtain⟨_,q,D0,ls,v,nb,bq,row,tk,hblk,hq,lh⟩:=aG.out;have NT:=H (show YS.drop q=ls from by rw[lh,ώ];rfl);have st:St O W (atF q) D0 W4:=⟨ef,bq.dO,bq.Od,bq.on⟩;have ahK:¬D0 W.heap.size:=λh=>xy (bq.sub _ h);have ahL:¬D0 W2.heap.size:=λh=>cK (bq.sub _ h);have anC:=H (λwr (jj:ak O W wr)=>tk.keep (Y:=wr) λk I=>jj.block k (acp k (hblk k I)) (λh=>nOv k h (hblk k I)));clear aG lh bq nb hit r3 r4 hblk X cD cK xy QS;obtain⟨av,cv,rfl,_⟩:=tk;have c4:=row.cell (k:=0) rfl;simp only[Exit.inBlock,Exit.then];refine eM _ _ (bQ ?_);clear eM;have lR:Hid (q+ls.length=YS.length):=H (by have:=congrArg List.length NT.out;simp at this;omega);have oZ:W.heap.size<=W2.heap.size:=by omega
  generalize W2.heap.size=nd at *
  gi_wp2_with fail;clear c4 row;gi_loopg [47] ls.length (λn c wr=>∃(i:Nat) (D0:aj),i+n=ls.length/\c=V Z i/\St O W (atF (q+i)) D0 wr/\¬D0 W.heap.size/\M wr W.heap.size [.func (.yield l) #[] #[]] 58/\¬D0 nd/\wr.heap[nd]?=some (.deferred (some [])))
  case atStart=>exact⟨0,D0,by omega,rfl,st,ahK,y3,ahL,bI⟩
  case round=>
   clear st ahK y3 ahL bI ef;obtain⟨i,D0,lP,rfl,st,xy,y3,cK,bI⟩:=hrel;have hsw:=st.aL.size;by_cases S:i=ls.length
   case pos=>
    subst S;gi_wp2_with fail;refine⟨by simp,.inl ⟨_,_,rfl,run_takeDeferred bI,?_⟩⟩;refine⟨_,results_none rfl _ _ _,.inl ⟨⟨_,rfl⟩,.inl ?_⟩⟩;rw[<-lR.out];exact(st.put cK oZ _).fin
   case neg=>
    have wW:i<ls.length:=by omega
    obtain⟨z,hz⟩:∃z,ls[i]?=some z:=⟨_,ο wW⟩;have qs:YS[q+i]?=some z:=by
     have G:(YS.drop q)[i]?=some z:=by rw[NT.out];exact hz
     rwa [List.getElem?_drop]at G
    obtain⟨a',c',e',_,_,UE⟩:=anC.out wr st.aL;obtain⟨gz,jz,e2,iU⟩:=UE i z hz;cases e';subst e2;obtain⟨EW,uz,EX,EY,gI,eE⟩:=uy.out (q+i) z qs wr D0 st.aL st.dO st.Od st.on;have c3:=y3.cell (k:=0) rfl;clear qs hz UE;gi_wp2_with fail;refine eE.mono ?_;clear gI eE c3 iU;rintro e WX (⟨rfl,J⟩|⟨rfl,J⟩|⟨ch,rfl,J⟩)
    case inl=>
     obtain⟨D1,st1,d1,bz⟩:=st.post J;have y3':=y3.aL bz xy;have pL:=(bz.block nd (Array.getElem?_eq_some_iff.1 bI).1 cK).trans bI;have o7:=y3.lt;have ahM:=(Array.getElem?_eq_some_iff.1 bI).1;clear J bz;gi_wp2_with fail;gi_roundg (gk-1)
     case measure=>omega
     case rel=>exact⟨i+1,D1,by omega,by go_num,st1,λh=>(d1 _ h).elim xy (by omega),y3',λh=>(d1 _ h).elim cK (by omega),pL⟩
    case inr.inl=>
     obtain⟨D1,st1,d1,bz⟩:=st.post J;have pL:=(bz.block nd (Array.getElem?_eq_some_iff.1 bI).1 cK).trans bI;have ahM:=(Array.getElem?_eq_some_iff.1 bI).1;clear J bz;gi_wp2_with fail;refine⟨by simp,.inl ⟨_,_,rfl,run_takeDeferred pL,?_⟩⟩;exact⟨_,results_none rfl _ _ _,.inl ⟨⟨_,rfl⟩,.inr (st1.put (λh=>(d1 _ h).elim cK (by omega)) oZ _).fin⟩⟩
    case inr.inr=>
     obtain⟨D1,st1,d1,bz⟩:=st.post J;have pL:=(bz.block nd (Array.getElem?_eq_some_iff.1 bI).1 cK).trans bI;have ahM:=(Array.getElem?_eq_some_iff.1 bI).1;clear J bz;gi_wp2_with fail;refine⟨by simp,.inl ⟨_,_,rfl,run_takeDeferred pL,?_⟩⟩;exact .inr ⟨ch,rfl,(st1.put (λh=>(d1 _ h).elim cK (by omega)) oZ _).fin⟩
 case round=>
  intro Ct i x X W4 D zq hs dV aG atH hK;obtain⟨t,hd⟩:∃t,XS[i]?=some t:=⟨_,ο (by have:=(List.getElem?_eq_some_iff.1 X).1;rwa [ri]at this)⟩;rw[zd hd]at X;cases X;have we:=H (drop_one hd);clear hd;gi_wp2_with fail;refine hK _ _ D (ν _ _) (λk I=>.inl I) (λk I=>I) (λk I=>aG.1 k I) ?_;intro l' W5 fG bL xh;have ea:=aG.on (W':=W5) fG;have mN:ak O W W5:=(ak.ar al).trans bL (λk I=>I.imp id λh=>by omega);have y3:=r3.aL bL (show¬(O W.heap.size\/W.heap.size=b4)from λh=>h.elim (λh=>by have:=cJ.1 _ h;omega) (by omega));have dN:∀k,D k->k<W5.heap.size:=ea.1;have pN:W.heap.size<=W5.heap.size:=by omega
  clear hK fG hit aG r3 r4;obtain⟨⟨uI,hDn⟩,q,D0,ls,v,nb,bq,row,tk,hblk,hq,lh⟩:=ea.out;have hD3:¬D W.heap.size:=λh=>(hDn _ h).elim (λh=>h.elim (λh=>by have:=cJ.1 _ h;omega) (by omega)) (by omega);have ms:MS O W l W.heap.size b4 ov (atF q) D W5 D0 ls v W5:=⟨⟨λk I=>.inr I,bq.dO,bq.Od,bq.on⟩,λh=>hD3 (bq.sub _ h),nb,y3,row,tk,hblk,ak.refl _ _,λk I=>.inl (bq.sub k I),mN⟩;have NT:=H (show YS.drop q=vm t (XS.drop (i+1)) ls from by rw[lh,we.out];rfl);clear ea bq row lh we nb tk hblk;have anD:∀k,ov.ownBlock=some k->k<W.heap.size/\¬O k:=λk I=>⟨acp k I,λh=>nOv k h I⟩;have ahN:W.heap.size<=b4:=by omega
  gi_wp2_with fail;gi_loopg [] ls.length (λn wr=>∃(q:Nat) (D0:aj) (ls:List Int) (v:Value),ls.length=n/\q<=YS.length/\Hid (YS.drop q=vm t (XS.drop (i+1)) ls)/\MS O W l W.heap.size b4 ov (atF q) D W5 D0 ls v wr)
  case atStart=>exact⟨q,D0,ls,v,rfl,hq,NT,ms⟩
  case round=>
   clear ms NT hq;obtain⟨q,D0,ls,v,lR,hq,lh,ms⟩:=hrel;have hn5:W2.heap.size<=W5.heap.size:=by omega
   have c3:=ms.y.cell (k:=0) rfl;rcases ls with _|⟨z,r⟩
   case nil=>
    obtain⟨a0,c0,rfl⟩:=ms.nil;have c4:=ms.row.cell (k:=0) rfl;obtain⟨qs,lZ,zK⟩:=po (lh.out.trans Z1);replace lZ:=H lZ;obtain⟨EW,uz,EX,EY,gI,eE⟩:=uy.out q t qs wr D0 ms.ze ms.bq.dO ms.bq.Od ms.bq.on;clear qs lh;gi_wp2_with fail;clear c3 c4;refine(RoundIn.inRound l' eE).mono ?_;clear gI eE;rintro e WX (⟨rfl,J⟩|⟨rfl,J⟩|⟨ch,rfl,J⟩)
    case inl=>
     obtain⟨nK,lg⟩:=ms.yield pN J;clear J;gi_wp2_with fail;exact lg.fin dN uI hDn hn5 ⟨zK,lZ.out⟩
    case inr.inl=>
     obtain⟨nK,lg⟩:=ms.yield pN J;clear J;gi_wp2_with fail;exact lg.S9 dN
    case inr.inr=>
     obtain⟨nK,lg⟩:=ms.yield pN J;clear J;gi_wp2_with fail;exact⟨rfl,lg.Ta dN⟩
   case cons=>
    obtain⟨gz,jz,cz,rfl,hcz,hgz,hgO,iU⟩:=ms.head anD;have c4:=ms.row.cell (k:=0) rfl;have f4:=ms.row.free (k:=0);have xp:((r.length:Int)+1:Int)>0:=by omega
    by_cases hzt:z<t
    case pos=>
     obtain⟨qs,lZ,zK⟩:=po (lh.out.trans (adZ hzt));replace lZ:=H lZ;obtain⟨v',hsl,NU,hvk⟩:=ms.ls.tail;have hY':=H (λY (U:Below wr.heap.size wr Y)=>uy.out q z qs Y D0 (ms.below U).ze ms.bq.dO ms.bq.Od (ms.below U).bq.on);clear qs lh;gi_upto_region 5 with fail;rename_i K5 hK5;have g3:∀Y,Below wr.heap.size wr Y->(Δ 58 (ε (some ⟨W.heap.size,0,none⟩))).run prog Y=.ok (.func (.yield l) #[] #[]) Y:=λY U=>NK ((ms.y.on U).cell (k:=0) rfl);have g4:∀Y,Below wr.heap.size wr Y->(Δ 54 (ε (some ⟨b4,0,none⟩))).run prog Y=.ok (ζ (some ⟨gz,jz,none⟩) (r.length+1) cz) Y:=λY U=>Z2 ((ms.row.on U).cell (k:=0) rfl);have g5:∀Y,Below wr.heap.size wr Y->(Δ 3 (ε (some ⟨gz,jz,none⟩))).run prog Y=.ok (V Z z) Y:=λY U=>dP ((U.cell (p:=⟨gz,jz,none⟩) (ι hgz ms.ze.size)).trans iU);refine ni (YJ 21 4 6 _ wr (NM l gz jz (ζ (some ⟨gz,jz,none⟩) (r.length+1) cz) z) (λW'=>∃Y,Below wr.heap.size wr Y/\aN D0 Y.heap.size (atF (q+1)) Y W') (λW'=>∃Y,Below wr.heap.size wr Y/\aN D0 Y.heap.size Js Y W') BB) FU (by kernel_rfl) ?rops ?rdone (YJ.start (ν _ _).drew)
     case rdone=>
      intro L a WX bx hI;obtain⟨_,b,Gl,hT,hF,hB⟩:=hI.post (bx 4 (by decide));have NP:a.eval (.tmp 26)=.bool (!b):=hB 5 (by decide) (bx 5 (by decide));have Q0:a.eval (.tmp 21)=.func (.yield l) #[] #[]:=hI.eA 0 (by decide) (bx 0 (by decide));have QY:a.eval (.tmp 22)=ζ (some ⟨gz,jz,none⟩) (r.length+1) cz:=hI.eA 1 (by decide) (bx 1 (by decide));have QZ:a.eval (.tmp 23)=ε (some ⟨gz,jz,none⟩):=hI.eA 2 (by decide) (bx 2 (by decide));have Q1:a.eval (.tmp 24)=V Z z:=hI.eA 3 (by decide) (bx 3 (by decide));have ha:=Z0 21 6 a _ hI.size hI.defers (show 27<=56 by decide) hI.fixed;rw[show Β 6=[0,1,2,3,4,5]from rfl]at ha;simp only[List.foldl_cons,List.foldl_nil,Ι,Q0,QY,QZ,Q1,NP]at ha;replace Gl:a.eval (.tmp 25)=.bool b:=Gl;rw[Gl]at ha;clear hI hB Q0 QY QZ Q1 Gl NP;rw[ha];clear ha;simp only[Act.put,List.setIfInBounds_toArray,List.set_cons_zero,List.set_cons_succ];refine hK5 _ _ ?_;clear hK5 g3 g4 g5;cases b
      case true=>
       obtain⟨Y,fk,J⟩:=hT rfl;obtain⟨nK,lg⟩:=(ms.below fk).yield pN J;clear hT hF J;have Dj:=lg.set uI ahN (by omega) NU hvk;have d4:=lg.row.cell (k:=0) rfl;have e4:=lg.row.free (k:=0);have jZ:=NU;obtain⟨av,cv,rfl,_⟩:=jZ;gi_wp2_with (refine ahI rfl rfl rfl hsl (λ_=>trivial) ?_);gi_roundg r.length
       case measure=>simp at lR;omega
       case rel=>exact⟨q+1,nK,r,_,rfl,zK,lZ,Dj⟩
      case false=>
       obtain⟨Y,fk,J⟩:=hF rfl;obtain⟨nK,lg⟩:=(ms.below fk).yield pN J;clear hT hF J;gi_wp2_with fail;exact lg.S9 dN
     case rops=>
      intro L j o a Y ho fI cH hC hI;have hj:j<6:=(Array.getElem?_eq_some_iff.1 ho).1;have s3:a.eval (.tmp 3)=ε (some ⟨W.heap.size,0,none⟩):=hI.fixed 3 (by omega);have s4:a.eval (.tmp 4)=ε (some ⟨b4,0,none⟩):=hI.fixed 4 (by omega);have eQ:j=0\/j=1\/j=2\/j=3\/j=4\/j=5:=by omega
      rcases eQ with rfl|rfl|rfl|rfl|rfl|rfl<;>obtain rfl:=ξ ho
      ·exact de rfl rfl (bw (λ_=>trivial) (λ_ h=>by cases h) (aY rfl s3 (g3 _ (hI.below (by decide) fI))) (hI.fS (by decide) fI (by decide) (show 27<=56 by decide) rfl (ν _ _) rfl))
      ·exact de rfl rfl (bw (λ_=>trivial) (λ_ h=>by cases h) (aY rfl s4 (g4 _ (hI.below (by decide) fI))) (hI.fS (by decide) fI (by decide) (show 27<=56 by decide) rfl (ν _ _) rfl))
      ·have QY:a.eval (.tmp 22)=ζ (some ⟨gz,jz,none⟩) (r.length+1) cz:=hI.eA 1 (by decide) (cH ⟨1,.data⟩ (by simp) rfl);exact de rfl rfl (bw (λ_=>trivial) (λ_ h=>by cases h) (ad2 rfl QY (by omega)) (hI.fS (by decide) fI (by decide) (show 27<=56 by decide) rfl (ν _ _) rfl))
      ·have QZ:a.eval (.tmp 23)=ε (some ⟨gz,jz,none⟩):=hI.eA 2 (by decide) (cH ⟨2,.data⟩ (by simp) rfl);exact de rfl rfl (bw (λ_=>trivial) (λ_ h=>by cases h) (aY rfl QZ (g5 _ (hI.below (by decide) fI))) (hI.fS (by decide) fI (by decide) (show 27<=56 by decide) rfl (ν _ _) rfl))
      ·have bx:∀j,j<4->L j=true:=by
        have l0:=cH ⟨0,.data⟩ (by simp) rfl;have l3:=cH ⟨3,.data⟩ (by simp) rfl;have l2:=hC 3 _ rfl l3 ⟨2,.data⟩ (by simp) rfl;have l1:=hC 2 _ rfl l2 ⟨1,.data⟩ (by simp) rfl;intro j hj;have eQ:j=0\/j=1\/j=2\/j=3:=by omega
        rcases eQ with rfl|rfl|rfl|rfl<;>assumption
       have Q0:a.eval (.tmp 21)=.func (.yield l) #[] #[]:=hI.eA 0 (by decide) (bx 0 (by decide));have Q1:a.eval (.tmp 24)=V Z z:=hI.eA 3 (by decide) (bx 3 (by decide));have fH:=(hI.pre fI).1;obtain⟨EW,uz,EX,EY,gI,eE⟩:=hY'.out Y fH;refine de rfl rfl (Gi (λ_ h=>by cases h) (Xh rfl Q0 Q1 gI) eE ?_ ?_ ?_)
       ·rintro v W' (⟨he,J⟩|⟨he,J⟩|⟨c,he,_⟩)
        ·cases he;exact hI.Gj bx fI (by decide) (show 27<=56 by decide) (λ_=>⟨Y,fH,J⟩) (λh=>by cases h) rfl
        ·cases he;exact hI.Gj bx fI (by decide) (show 27<=56 by decide) (λh=>by cases h) (λ_=>⟨Y,fH,J⟩) rfl
        cases he
       ·rintro c W' (⟨he,_⟩|⟨he,_⟩|⟨c',he,J⟩)
        ·cases he
        ·cases he
        cases he;obtain⟨nK,lg⟩:=(ms.below fH).yield pN J;exact⟨hI.defers,lg.Ta dN⟩
       rintro W' (⟨he,_⟩|⟨he,_⟩|⟨c',he,_⟩)<;>cases he
      have l4:=cH ⟨4,.data⟩ (by simp) rfl;obtain⟨_,b,Gl,_,_,_⟩:=hI.post l4;exact de rfl rfl (bw (λ_=>trivial) (λ_ h=>by cases h) (QX rfl Gl) (hI.zc (by decide) fI l4 (by decide) (show 27<=56 by decide) (λb' fk=>by
       have ahQ:a.eval (.tmp 25)=.bool b':=fk;have ai8:a.eval (.tmp 25)=.bool b:=Gl;rw[ai8]at ahQ;cases ahQ;rfl) rfl))
    case neg=>
     by_cases hze:z=t
     case pos=>
      subst hze;obtain⟨qs,lZ,zK⟩:=po (lh.out.trans ad0);replace lZ:=H lZ;obtain⟨v',hsl,NU,hvk⟩:=ms.ls.tail;have Dj:=ms.set uI ahN (by omega) NU hvk;obtain⟨av,cv,rfl,_⟩:=NU;obtain⟨EW,uz,EX,EY,gI,eE⟩:=uy.out q z qs _ D0 Dj.ze Dj.bq.dO Dj.bq.Od Dj.bq.on;have c3':=Dj.y.cell (k:=0) rfl;clear qs lh;gi_wp2_with (refine ahI rfl rfl rfl hsl (λ_=>trivial) ?_);clear c3 c4 c3' f4 iU hsl;refine(RoundIn.inRound l' eE).mono ?_;clear gI eE;rintro e WX (⟨rfl,J⟩|⟨rfl,J⟩|⟨ch,rfl,J⟩)
      case inl=>
       obtain⟨nK,lg⟩:=Dj.yield pN J;clear J;gi_wp2_with fail;exact lg.fin dN uI hDn hn5 ⟨zK,lZ.out⟩
      case inr.inl=>
       obtain⟨nK,lg⟩:=Dj.yield pN J;clear J;gi_wp2_with fail;exact lg.S9 dN
      case inr.inr=>
       obtain⟨nK,lg⟩:=Dj.yield pN J;clear J;gi_wp2_with fail;exact⟨rfl,lg.Ta dN⟩
     case neg=>
      obtain⟨qs,lZ,zK⟩:=po (lh.out.trans (ad1 (by omega)));replace lZ:=H lZ;obtain⟨EW,uz,EX,EY,gI,eE⟩:=uy.out q t qs wr D0 ms.ze ms.bq.dO ms.bq.Od ms.bq.on;have arz:(z==t)=false:=by simpa using hze
      clear qs lh;gi_wp2_with fail;clear c3 c4 f4 iU;refine(RoundIn.inRound l' eE).mono ?_;clear gI eE;rintro e WX (⟨rfl,J⟩|⟨rfl,J⟩|⟨ch,rfl,J⟩)
      case inl=>
       obtain⟨nK,lg⟩:=ms.yield pN J;clear J;gi_wp2_with fail;exact lg.fin dN uI hDn hn5 ⟨zK,lZ.out⟩
      case inr.inl=>
       obtain⟨nK,lg⟩:=ms.yield pN J;clear J;gi_wp2_with fail;exact lg.S9 dN
      case inr.inr=>
       obtain⟨nK,lg⟩:=ms.yield pN J;clear J;gi_wp2_with fail;exact⟨rfl,lg.Ta dN⟩
end
section
open Go.Sort
attribute [local go_sem] Oper.semAt_some
attribute [local go_sem] bG aV
attribute [local simp] bG aV
theorem Xn (a:Act)(h:a.tmps.size=25)(hd:a.defers=[]):∃f:Nat->Value,a=⟨List.toArray (f 0::f 1::f 2::f 3::f 4::f 5::f 6::f 7::f 8::f 9::f 10::f 11::f 12::f 13::f 14::f 15::f 16::f 17::f 18::f 19::f 20::f 21::f 22::f 23::f 24::[]),[]⟩/\∀k,a.eval (.tmp k)=f k:=gO 25 a h hd
theorem kX.later {P:Program}{g:Nat}{lb:Array Value}{xs:List (Array Value)}{R:aj}{w Y:κ}(h:kX P g lb xs R w)(hR:∀k,R k->k<w.heap.size)(U:Below w.heap.size w Y):kX P g lb xs R Y:=
 λl W O atF Js Jp hs I=>h l W O atF Js Jp (ϊ U.size hs) λk hr=>(I k hr).trans (U.block k (hR k hr))
def ff (hr:Bool)(r:aC)(st f to:Int)(ex xt:List Int):List Int:=jn (tp hr r st f to ex) (ix st f to ex xt)
def pM (ln:Int)(l:List Int):List (Array Value):=l.map λb=>#[.agg #[V Z b,V Z (b+ln)]]
theorem sx (ln:Int)(l:List Int):(pM ln l).length=l.length:=by unfold pM;simp
theorem Ah {ln:Int}{l:List Int}{i:Nat}{b:Int}(h:l[i]?=some b):(pM ln l)[i]?=some #[.agg #[V Z b,V Z (b+ln)]]:=by unfold pM;rw[Ξ,h];rfl
theorem Z3 (g:Nat)(lb:Array Value)(a:Option Addr)(n c:Nat)(w:κ):
 Υ prog 158 #[.func (.func g) #[] lb,ζ a n c] w λe Y=>e=δ (.func (.func 214) #[] #[ε (some ⟨w.heap.size+1,0,none⟩),ε (some ⟨w.heap.size,0,none⟩)])/\Y=(w.alloc (η #[.func (.func g) #[] lb] 196)).alloc (η #[ζ a n c] 54):=by
 go_enter func158,ntmps158;go_wp2_with fail;go_ret;exact⟨rfl,rfl⟩
def NI (W:κ)(u:ByteArray)(st ln:Int)(hr:Bool)(r:aC)(m md wk pl:Value)(tx:ByteArray)(aI aH:Value)(ex xt:List Int)(tr:Bool)(k:Int)(f to:Int)(i:Nat)(v:Value)(w:κ):Prop:=match i with
 |0=>v=.agg (cF u st ln hr r m md wk pl tx aI aH tr k).toArray
 |1=>v=V Z f
 |2=>v=V Z to
 |3=>∃g lb R,v=.func (.func g) #[] lb/\kX prog g lb (rh (tp hr r st f to ex)) R w/\(∀k,R k->k<w.heap.size/\(kY m md wk pl aI aH k\/W.heap.size<=k))/\(∀args w,(callFunc g args).run prog w=.ok (.enter g args) w)
 |4=>v=.agg (cF u st ln hr r m md wk pl tx aI aH tr k).toArray
 |5=>v=V Z f
 |6=>v=V Z to
 |7=>w.ownsRow W.heap.size 3 1 v (ix st f to ex xt).length (ints (ix st f to ex xt))
 |_=>∃g lb R,v=.func (.func g) #[] lb/\kX prog g lb (rh (ff hr r st f to ex xt)) R w/\(∀k,R k->k<w.heap.size/\(kY m md wk pl aI aH k\/W.heap.size<=k))/\(∀args w,(callFunc g args).run prog w=.ok (.enter g args) w)
theorem NI.grow {W:κ}{u:ByteArray}{st ln:Int}{hr:Bool}{r:aC}{m md wk pl:Value}{tx:ByteArray}{aI aH:Value}{ex xt:List Int}{tr:Bool}{k f to:Int}(i:Nat)(v:Value)(w Y:κ)(h:NI W u st ln hr r m md wk pl tx aI aH ex xt tr k f to i v w)(U:Below w.heap.size w Y):NI W u st ln hr r m md wk pl tx aI aH ex xt tr k f to i v Y:=by
 match i,h with
 |0,h|1,h|2,h|4,h|5,h|6,h=>exact h
 |3,h=>
  obtain⟨g,lb,R,G,A,K,h4⟩:=h;exact⟨g,lb,R,G,A.later (λk I=>(K k I).1) U,λk I=>⟨ι (K k I).1 U.size,(K k I).2⟩,h4⟩
 |7,h=>exact eO h λg hg=>U.block g (World.ownsRow.lt h g hg).2
 |n+8,h=>
  obtain⟨g,lb,R,G,A,K,h4⟩:=h;exact⟨g,lb,R,G,A.later (λk I=>(K k I).1) U,λk I=>⟨ι (K k I).1 U.size,(K k I).2⟩,h4⟩
def wX (l be bf bt b4:Nat):List (Nat×Value):=[(0,.func (.yield l) #[] #[]),(1,ε (some ⟨be,0,none⟩)),(2,ε (some ⟨bf,0,none⟩)),(3,ε (some ⟨bt,0,none⟩)),(4,ε (some ⟨b4,0,none⟩))]
theorem Z5 {b:Nat}{w:κ}{u:ByteArray}{st ln:Int}{hr:Bool}{r:aC}{m md wk pl:Value}{tx:ByteArray}{aI aH:Value}{tr:Bool}{k:Int}(h:M w b (cF u st ln hr r m md wk pl tx aI aH tr k) 79):(Δ 79 (ε (some ⟨b,0,none⟩))).run prog w=.ok (.agg (cF u st ln hr r m md wk pl tx aI aH tr k).toArray) w:=
 run_loadAt_mid w b 0 79 _ _ (ia h) underlying79 rfl jk
end
section
open Go.Sort
attribute [local go_sem] Oper.semAt_some
attribute [local go_sem] bG aV
attribute [local simp] bG aV
theorem ahR (l be bf bt b4:Nat)(W:κ)(u:ByteArray)(st ln:Int)(hr:Bool)(r:aC)(m md wk pl:Value)(tx:ByteArray)(aI aH:Value)(ex xt:List Int)(tr:Bool)(k:Int)(f to:Int):rO (λi=>6+i) (wX l be bf bt b4) 25 9 (NI W u st ln hr r m md wk pl tx aI aH ex xt tr k f to):=
 ⟨λi S=>by show 6+i<25;omega,λi j S hj h=>by have h':6+i=6+j:=h;omega,λp J i S=>by
  simp only[wX,Χ,ύ,or_false]at J;show p.1≠6+i;rcases J with rfl|rfl|rfl|rfl|rfl<;>simp<;>omega,NI.grow⟩
theorem ad3 (u:ByteArray)(st ln:Int)(hr:Bool)(r:aC)(m md wk pl:Value)(tx:ByteArray)(aI aH:Value)(ex xt:List Int)(tr:Bool)(k:Int)(f to:Int)(be bf bt:Nat)(w:κ)(N:kt w hr r m md wk pl aI aH ex xt)
 (s0:0<=st)(s1:st<=7258118400)(l0:0<=ln)(l1:ln<=10000000)(f0:-1000000000000<=f)(f1:f<=7258118400)(t0:0<=to)(t1:to<=7258118400)(o4:∀t∈ff hr r st f to ex xt,-100000000000<=t/\t<=100000000000)
 (q1:M w be (cF u st ln hr r m md wk pl tx aI aH tr k) 79)(q2:M w bf [V Z f] 3)(q3:M w bt [V Z to] 3):
 kX prog 157 #[ε (some ⟨be,0,none⟩),ε (some ⟨bf,0,none⟩),ε (some ⟨bt,0,none⟩)] (pM ln (ff hr r st f to ex xt)) (λk=>k=be\/k=bf\/k=bt\/kY m md wk pl aI aH k) w:=by
 intro l W O atF Js Jp bp hR hO cJ hY;have eI:=N.keep λk I=>hR k (.inr (.inr (.inr I)));replace q1:=q1.keep (hR be (.inl rfl));replace q2:=q2.keep (hR bf (.inr (.inl rfl)));replace q3:=q3.keep (hR bt (.inr (.inr (.inl rfl))));have J1:¬O be:=λh=>hO be h (.inl rfl);have Jf:∀k,O k->¬kY m md wk pl aI aH k:=λk h h'=>hO k h (.inr (.inr (.inr h')));have DB:=q1.lt;have hRB:Hid (∀wr,Below W.heap.size W wr->Υ prog 159 #[.agg (cF u st ln hr r m md wk pl tx aI aH tr k).toArray,V Z f,V Z to] wr (dR (rh (tp hr r st f to ex)) (kY m md wk pl aI aH) wr)):=
  H λwr U=>NS u st ln hr r m md wk pl tx aI aH ex xt tr k f to wr (eI.on U) s0 s1 f0 f1 t0 t1
 have hXB:Hid (∀wr,Below W.heap.size W wr->Υ prog 160 #[.agg (cF u st ln hr r m md wk pl tx aI aH tr k).toArray,V Z f,V Z to] wr λe Y=>∃v,e=δ v/\Y.ownsRow wr.heap.size 3 1 v (ix st f to ex xt).length (ints (ix st f to ex xt))/\Below wr.heap.size wr Y):=
  H λwr U=>KH u st ln hr r m md wk pl tx aI aH ex xt tr k f to wr (eI.on U)
 have KO:∀k,kY m md wk pl aI aH k->k<W.heap.size/\¬O k:=λk h=>⟨eI.fW h,λh'=>Jf k h' h⟩;clear hR hO N bp eI Jf;have uy:=H (λ(i:Nat) (t:Int) (h:(ff hr r st f to ex xt)[i]?=some t)=>hY i _ (Ah h));clear hY;rw[sx];have egM:∀args w,(callFunc 214 args).run prog w=.ok (.enter 214 args) w:=enters_of func214 (by kernel_rfl) rfl;refine dr func157 rfl ?_;simp only[ntmps157,Μ,ω,Ο,Ι,Ω,Η,Ζ,Ν,Θ,υ,Γ];refine bK λatH hK=>bQ ?_;gi_wp2_with fail;have r4:M (W.alloc (η #[.func (.yield l) #[] #[]] 194)) W.heap.size [.func (.yield l) #[] #[]] 194:=M.new W [.func (.yield l) #[] #[]] 194;have al:Below W.heap.size W (W.alloc (η #[.func (.yield l) #[] #[]] 194)):=(ν _ _).alloc (μ _) _;have Ag:W.heap.size<(W.alloc (η #[.func (.yield l) #[] #[]] 194)).heap.size:=by simp
 generalize W.alloc (η #[.func (.yield l) #[] #[]] 194)=W2 at *
 refine bK λK1 eM=>bQ (wpIn_wide.2 ?_);have atI:=ahR l be bf bt W.heap.size W2 u st ln hr r m md wk pl tx aI aH ex xt tr k f to;have p1:=H λY (h:Below W2.heap.size W2 Y)=>Z5 ((q1.on al).on h);have p2:=H λY (h:Below W2.heap.size W2 Y)=>dP (((q2.on al).on h).cell (k:=0) rfl);have p3:=H λY (h:Below W2.heap.size W2 Y)=>dP (((q3.on al).on h).cell (k:=0) rfl);refine ir (GV (λi=>6+i) (NI W2 u st ln hr r m md wk pl tx aI aH ex xt tr k f to)) (JV 25 (wX l be bf bt W.heap.size) W2) (by kernel_rfl) (by kernel_rfl) (by kernel_rfl) ?rops ?rdone ⟨rfl,rfl,λp J=>by
  simp only[wX,Χ,ύ,or_false]at J;rcases J with rfl|rfl|rfl|rfl|rfl<;>rfl,(ν _ _).drew⟩
 case rops=>
  intro i o ho a Y hI hG;have S:i<9:=(Array.getElem?_eq_some_iff.1 ho).1;have uz:a.eval (.tmp 1)=ε (some ⟨be,0,none⟩):=hI.fixed (1,_) (by simp[wX]);have t2':a.eval (.tmp 2)=ε (some ⟨bf,0,none⟩):=hI.fixed (2,_) (by simp[wX]);have Uj:a.eval (.tmp 3)=ε (some ⟨bt,0,none⟩):=hI.fixed (3,_) (by simp[wX]);have qE:=al.trans (hI.below.mono al.size);have eQ:i=0\/i=1\/i=2\/i=3\/i=4\/i=5\/i=6\/i=7\/i=8:=by omega
  rcases eQ with rfl|rfl|rfl|rfl|rfl|rfl|rfl|rfl|rfl<;>obtain rfl:=ξ ho
  ·exact ai (aY rfl uz (p1.out _ hI.below)) (aZ atI hI)
  ·exact ai (aY rfl t2' (p2.out _ hI.below)) (aZ atI hI)
  ·exact ai (aY rfl Uj (p3.out _ hI.below)) (aZ atI hI)
  ·have e1:a.eval (.tmp 6)=.agg (cF u st ln hr r m md wk pl tx aI aH tr k).toArray:=aF hG 0;have e2:a.eval (.tmp 7)=V Z f:=aF hG 1;have e3:a.eval (.tmp 8)=V Z to:=aF hG 2;refine cM (f:=159) (args:=#[a.eval (.tmp 6),a.eval (.tmp 7),a.eval (.tmp 8)]) (by kernel_rfl) (by rw[e1,e2,e3];exact hRB.out Y qE) ?_ (by rintro c az ⟨_,_,_,e,_⟩;cases e) (by rintro az ⟨_,_,_,e,_⟩;cases e);rintro v az ⟨g,lb,R,e,A,K,h4,h5⟩;cases e;exact mz atI rfl (by decide) hI h5 ⟨g,lb,R,rfl,A,λk I=>⟨(K k I).1,(K k I).2.imp id λh=>ϊ hI.below.size h⟩,h4⟩
  ·exact ai (aY rfl uz (p1.out _ hI.below)) (aZ atI hI)
  ·exact ai (aY rfl t2' (p2.out _ hI.below)) (aZ atI hI)
  ·exact ai (aY rfl Uj (p3.out _ hI.below)) (aZ atI hI)
  ·have e1:a.eval (.tmp 10)=.agg (cF u st ln hr r m md wk pl tx aI aH tr k).toArray:=aF hG 4;have e2:a.eval (.tmp 11)=V Z f:=aF hG 5;have e3:a.eval (.tmp 12)=V Z to:=aF hG 6;refine cM (f:=160) (args:=#[a.eval (.tmp 10),a.eval (.tmp 11),a.eval (.tmp 12)]) (by kernel_rfl) (by rw[e1,e2,e3];exact hXB.out Y qE) ?_ (by rintro c az ⟨_,e,_⟩;cases e) (by rintro az ⟨_,e,_⟩;cases e);rintro v az ⟨v',e,A,K⟩;cases e;exact mz atI rfl (by decide) hI K (tX A hI.below.size)
  obtain⟨g,lb,R,e1,hit,hR,eg⟩:∃g lb R,a.eval (.tmp 9)=.func (.func g) #[] lb/\kX prog g lb (rh (tp hr r st f to ex)) R Y/\(∀k,R k->k<Y.heap.size/\(kY m md wk pl aI aH k\/W2.heap.size<=k))/\(∀args w,(callFunc g args).run prog w=.ok (.enter g args) w):=aF hG 3;have e2:Y.ownsRow W2.heap.size 3 1 (a.eval (.tmp 13)) (ix st f to ex xt).length (ints (ix st f to ex xt)):=aF hG 7;obtain⟨av,cv,e3⟩:=nZ e2;refine cM (f:=158) (args:=#[a.eval (.tmp 9),a.eval (.tmp 13)]) (by kernel_rfl) (by rw[e1,e3];exact Z3 g lb av _ cv Y) ?_ (by rintro c az ⟨e,_⟩;cases e) (by rintro az ⟨e,_⟩;cases e);rintro v az ⟨e,rfl⟩;cases e;have x0:=kK Y [.func (.func g) #[] lb] 196 (η #[ζ av (ix st f to ex xt).length cv] 54);have x1:=kM Y [ζ av (ix st f to ex xt).length cv] 54 (η #[.func (.func g) #[] lb] 196);have xb:=mP Y (η #[.func (.func g) #[] lb] 196) (η #[ζ av (ix st f to ex xt).length cv] 54);rw[e3]at e2;have tk:=LS.ahH (eO e2 (Y:=(Y.alloc (η #[.func (.func g) #[] lb] 196)).alloc (η #[ζ av (ix st f to ex xt).length cv] 54)) λg hg=>xb.block g (World.ownsRow.lt e2 g hg).2);have amA:((Y.alloc (η #[.func (.func g) #[] lb] 196)).alloc (η #[ζ av (ix st f to ex xt).length cv] 54)).heap.size=Y.heap.size+2:=by simp
  have hmi:=Xm (tp hr r st f to ex) (ix st f to ex xt) g lb R (Y.heap.size+1) Y.heap.size _ _ (hit.later (λk I=>(hR k I).1) xb) eg (λk I=>ι (hR k I).1 xb.size) x1 x0 tk (λk I=>by have:=(World.ownsRow.lt e2 k I).2;omega);have hsI:=hI.below.size;refine mz atI rfl (by decide) hI xb ⟨_,_,_,rfl,hmi,λk I=>?_,egM⟩;rcases I with rfl|rfl|h|h
  ·exact⟨by omega,.inr (by omega)⟩
  ·exact⟨by omega,.inr (by omega)⟩
  ·exact⟨by have:=(hR k h).1;omega,(hR k h).2⟩
  have:=World.ownsRow.lt e2 k h;exact⟨by omega,.inr this.1⟩
 case rdone=>
  intro a w3 hI hG;obtain⟨g,lb,R,xD,hit,mM,eg⟩:∃g lb R,a.eval (.tmp 14)=.func (.func g) #[] lb/\kX prog g lb (rh (ff hr r st f to ex xt)) R w3/\(∀k,R k->k<w3.heap.size/\(kY m md wk pl aI aH k\/W2.heap.size<=k))/\(∀args w,(callFunc g args).run prog w=.ok (.enter g args) w):=hG 8 (by decide);have TW:a.eval (.tmp 0)=.func (.yield l) #[] #[]:=hI.fixed (0,_) (by simp[wX]);have uz:a.eval (.tmp 1)=ε (some ⟨be,0,none⟩):=hI.fixed (1,_) (by simp[wX]);have t4':a.eval (.tmp 4)=ε (some ⟨W.heap.size,0,none⟩):=hI.fixed (4,_) (by simp[wX]);have aR:=hI.below;have gh:=hI.size;have gC:=hI.defers;clear hI hG atI p1 p2 p3 hRB hXB egM;refine eM a w3 ?_;clear eM;obtain⟨fr,rfl,hf⟩:=Xn a gh gC;have g0:=(hf 0).symm.trans TW;have g1:=(hf 1).symm.trans uz;have g4:=(hf 4).symm.trans t4';have g14:=(hf 14).symm.trans xD;rw[g0,g1,g4,g14];clear hf gh gC TW uz t4' xD g0 g1 g4 g14;generalize ff hr r st f to ex xt=XS at *
  replace r4:=r4.on aR;replace al:=al.trans (aR.mono al.size);have su:=aR.size;refine gB ?_;refine lz (gf:=g) (lb:=lb) func157 ?g eg hit (μ _) (λ_ _=>rfl) (λk I=>(mM k I).1)
   O (λk I cj=>by
    rcases(mM k cj).2 with h|h
    ·exact(KO k h).2 I
    have:=cJ.1 k I;omega) (DK O W atF λq i=>q=i) (qx O W (atF XS.length) Js) (λc=>DX O W (Jp c)) ?ps ?start ?round ?done ?stop ?pan
  case g=>rfl
  case ps=>intro x X;obtain⟨d,_,rfl⟩:=List.mem_map.1 X;rfl
  case start=>exact DK.cL (λk I=>by have:=cJ.1 k I;omega) ⟨0,O,⟨λk I=>I,λk I=>.inl I,λk I=>I,cJ.below al⟩,rfl⟩
  case stop=>
   rintro c W4 ⟨X,D,cD,_,aG⟩ hs bI;have ef:ak O W (W4.putObj w3.heap.size (.deferred none)):=((ak.ar al).aM X).put (.inr (by omega)) _;have cK:¬D w3.heap.size:=λh=>(cD _ h).elim (λh=>by have:=cJ.1 _ h;omega) (by omega);obtain⟨rfl,h⟩:=aG.out;have eY:=H (show aN O W.heap.size (atF XS.length) W (W4.putObj w3.heap.size (.deferred none))\/aN O W.heap.size Js W (W4.putObj w3.heap.size (.deferred none))from by
    rcases h with⟨D0,h⟩|⟨D0,h⟩
    ·exact .inl ((h.put cK _).fin ef)
    exact .inr ((h.put cK _).fin ef))
   clear h aG cD;gi_wp2_with fail;refine⟨by simp,.inl ⟨_,_,rfl,run_takeDeferred bI,?_⟩⟩;exact⟨_,results_none rfl _ _ _,.inl ⟨⟨_,rfl⟩,eY.out⟩⟩
  case pan=>
   rintro c W4 ⟨X,D,cD,_,aG⟩ hs bI;have ef:ak O W (W4.putObj w3.heap.size (.deferred none)):=((ak.ar al).aM X).put (.inr (by omega)) _;have cK:¬D w3.heap.size:=λh=>(cD _ h).elim (λh=>by have:=cJ.1 _ h;omega) (by omega);obtain⟨D0,h⟩:=aG.out;refine⟨by simp,.inl ⟨_,_,rfl,run_takeDeferred bI,?_⟩⟩;exact .inr ⟨c,rfl,(h.put cK _).fin ef⟩
  case done=>
   rw[ri];rintro W4 ⟨X,D,cD,_,aG⟩ hs bI;have ef:ak O W (W4.putObj w3.heap.size (.deferred none)):=((ak.ar al).aM X).put (.inr (by omega)) _;have cK:¬D w3.heap.size:=λh=>(cD _ h).elim (λh=>by have:=cJ.1 _ h;omega) (by omega);obtain⟨q,D0,bq,hq⟩:=aG.out;refine⟨by simp,.inl ⟨_,_,rfl,run_takeDeferred bI,?_⟩⟩;exact⟨_,results_none rfl _ _ _,.inl ⟨⟨_,rfl⟩,.inl (by rw[<-hq];exact(bq.put cK _).fin ef)⟩⟩
  case round=>
   intro Ct i x X W4 D zq hs dV aG atH hK;obtain⟨t,hd⟩:∃t,XS[i]?=some t:=⟨_,ο (by have:=(List.getElem?_eq_some_iff.1 X).1;rwa [ri]at this)⟩;rw[zd hd]at X;cases X;have htb:=o4 t (List.mem_of_getElem? hd);gi_wp2_with fail;refine hK _ _ D (ν _ _) (λk I=>.inl I) (λk I=>I) (λk I=>aG.1 k I) ?_;intro l' W5 fG bL xh;have ea:=aG.on (W':=W5) fG;have mN:ak O W W5:=(ak.ar al).aM bL;have y1:=(q1.aL mN J1).cell (k:=2) rfl;have y4:=(r4.aL bL (λh=>by have:=cJ.1 _ h;omega)).cell (k:=0) rfl;have dN:∀k,D k->k<W5.heap.size:=ea.1;have pN:W.heap.size<=W5.heap.size:=by omega
   clear hK fG hit aG mM o4;obtain⟨q,D0,bq,rfl⟩:=ea.out;clear ea;obtain⟨EW,uz,EX,EY,gI,eE⟩:=uy.out q t hd W5 D0 mN bq.dO bq.Od bq.on;clear hd;gi_wp2_with fail;refine(RoundIn.inRound l' eE).mono ?_;clear gI eE y1 y4;rintro e WX (⟨rfl,J⟩|⟨rfl,J⟩|⟨ch,rfl,J⟩)
   case inl=>
    obtain⟨eV,eh,mO,jj⟩:=bq.post pN J;have eP:ak D W5 WX:=jj.mono (λk I=>.inl (bq.sub k I));clear J;gi_wp2_with fail;exact⟨eP,λk=>D k\/eV k,λk I=>I.elim .inl λh=>(mO k h).elim (λh=>.inl (bq.sub k h)) .inr,λ_ I=>.inl I,DK.cL (λk I=>I.elim (λh=>ι (dN k h) eP.size) (λh=>eh.on.1 k h)) ⟨q+1,eV,eh,rfl⟩⟩
   case inr.inl=>
    obtain⟨eV,eh,mO,jj⟩:=bq.post pN J;have eP:ak D W5 WX:=jj.mono (λk I=>.inl (bq.sub k I));clear J;gi_wp2_with fail;exact⟨eP,λk=>D k\/eV k,λk I=>I.elim .inl λh=>(mO k h).elim (λh=>.inl (bq.sub k h)) .inr,λ_ I=>.inl I,qx.TQ (DX.cL (λk I=>I.elim (λh=>ι (dN k h) eP.size) (λh=>eh.on.1 k h)) ⟨eV,eh⟩)⟩
   case inr.inr=>
    obtain⟨eV,eh,mO,jj⟩:=bq.post pN J;have eP:ak D W5 WX:=jj.mono (λk I=>.inl (bq.sub k I));clear J;gi_wp2_with fail;exact⟨rfl,eP,λk=>D k\/eV k,λk I=>I.elim .inl λh=>(mO k h).elim (λh=>.inl (bq.sub k h)) .inr,λ_ I=>.inl I,DX.cL (λk I=>I.elim (λh=>ι (dN k h) eP.size) (λh=>eh.on.1 k h)) ⟨eV,eh⟩⟩
theorem sX (u:ByteArray)(st ln:Int)(hr:Bool)(r:aC)(m md wk pl:Value)(tx:ByteArray)(aI aH:Value)(ex xt:List Int)(tr:Bool)(k:Int)(f to:Int)(w:κ)(N:kt w hr r m md wk pl aI aH ex xt)
 (s0:0<=st)(s1:st<=7258118400)(l0:0<=ln)(l1:ln<=10000000)(f0:-1000000000000<=f)(f1:f<=7258118400)(t0:0<=to)(t1:to<=7258118400)(o4:∀t∈ff hr r st f to ex xt,-100000000000<=t/\t<=100000000000):
 Υ prog 90 #[.agg (cF u st ln hr r m md wk pl tx aI aH tr k).toArray,V Z f,V Z to] w (dR (pM ln (ff hr r st f to ex xt)) (kY m md wk pl aI aH) w):=by
 have my:∀args w,(callFunc 157 args).run prog w=.ok (.enter 157 args) w:=enters_of func157 (by kernel_rfl) rfl;replace my:=H my;have q0:=lL w (cF u st ln hr r m md wk pl tx aI aH tr k) 79 (η #[V Z f] 3) (η #[V Z to] 3);have q1:=lM w (η (cF u st ln hr r m md wk pl tx aI aH tr k).toArray 79) [V Z f] 3 (η #[V Z to] 3);have q2:=lN w (η (cF u st ln hr r m md wk pl tx aI aH tr k).toArray 79) (η #[V Z f] 3) [V Z to] 3;have al:=iD w (η (cF u st ln hr r m md wk pl tx aI aH tr k).toArray 79) (η #[V Z f] 3) (η #[V Z to] 3);have hit:=H (ad3 u st ln hr r m md wk pl tx aI aH ex xt tr k f to w.heap.size (w.heap.size+1) (w.heap.size+1+1) _ (N.on al) s0 s1 l0 l1 f0 f1 t0 t1 o4 q0 q1 q2);have hblk:=H (λk (h:kY m md wk pl aI aH k)=>N.fW h);clear N q0 q1 q2 o4;generalize cF u st ln hr r m md wk pl tx aI aH tr k=E at *
 go_enter func90,ntmps90;go_wp2_with fail;go_ret;refine⟨_,_,_,rfl,hit.out,λk I=>?_,my.out,al⟩;rcases I with rfl|rfl|rfl|h
 ·exact⟨by simp;omega,.inr (μ _)⟩
 ·exact⟨by simp,.inr (by omega)⟩
 ·exact⟨by simp,.inr (by omega)⟩
 exact⟨by have:=hblk.out k h;simp;omega,.inl h⟩
end
section
theorem Q2 (l:ByteArray):ba l.data.toList=l:=by unfold ba;simp
theorem B3 (l:List UInt8):(ba l).data.toList=l:=rfl
theorem wj (v:List UInt8):(jN (ba v) 44).map (·.data.toList)=bY 44 v:=FP (ba v) 44
theorem Tc (s:List UInt8):Pa 59 s=bY 59 s:=FP (ba s) 59
theorem Xo {l:List UInt8}(h:dx l=true):¬l.head?=some 45:=λe=>by
 cases l with
 |nil=>cases e
 |cons a r=>
  simp only[List.head?_cons,Φ]at e;have:=yf h a (by simp);rw[e]at this;exact absurd this (by decide)
theorem ad4 {v:List UInt8}{m:Int}(h:mX v 1 m=true):fF v m=dw v/\0<fF v m:=by
 have A:=h;unfold mX at A;simp only[θ,decide_eq_true_eq]at A;have e:fF v m=dw v:=by
  unfold fF;rw[if_neg (Xo A.1.1),nD,if_pos h]
 rw[e];exact⟨rfl,by omega⟩
theorem ahS {v:List UInt8}{m:Int}(h:mX v 1 m=false):fF v m<=0:=by
 unfold fF;split
 ·split
  ·rename_i A;unfold within at A;simp only[θ,decide_eq_true_eq]at A;omega
  omega
 rw[nD,h];simp
theorem xU (v:List UInt8)(m:Int):qk 1 m v=if 0<fF v m then some (fF v m)else none:=by
 unfold qk;cases h:mX v 1 m
 ·rw[if_neg (by simp),if_neg (by have:=ahS h;omega)]
 have:=ad4 h;rw[if_pos rfl,if_pos this.2,this.1]
theorem Q3 (most:Int)(kE:Bool):∀(P:List ByteArray) (acc:List Int),TD most kE P acc=(fo (λl=>wD most kE (ba l)) (P.map (·.data.toList))).map (acc++·)
 |[],acc=>by simp[TD,fo]
 |l::r,acc=>by
  simp only[TD,Ψ,fo,Q2];cases h:wD most kE l with
  |none=>rfl
  |some z=>
   simp only[];rw[Q3 most kE r (acc++[z])];cases fo (λl=>wD most kE (ba l)) (r.map (·.data.toList))<;>simp
theorem pq (v:List UInt8)(most:Int)(kE:Bool):vy (ba v) most kE=dW (λl=>wD most kE (ba l)) (some v):=by
 have e:=wj v;have N:(jN (ba v) 44).length=(bY 44 v).length:=by rw[<-e,Ρ]
 unfold vy dW;simp only[];rw[N,Q3,e];split
 ·cases fo (λl=>wD most kE (ba l)) (bY 44 v)<;>simp
 rfl
theorem Q5 (m:Int):(λl=>wD m false (ba l))=qk 1 m:=by
 funext l;rw[xU];unfold wD;rw[B3];by_cases h:0<fF l m
 ·rw[if_neg (by omega),if_neg (by omega),if_pos h]
 rw[if_neg h];by_cases h0:fF l m=0
 ·rw[if_pos h0]
 rw[if_neg h0,if_pos ⟨by omega,rfl⟩]
theorem B4 (m:Int):(λl=>wD m true (ba l))=tv m:=by
 funext l;unfold wD tv;rw[B3];by_cases h0:fF l m=0
 ·rw[if_pos h0,if_pos h0]
 rw[if_neg h0,if_neg h0,if_neg (by simp)]
theorem Z6 {v:List UInt8}(h:v.length≠2):idx jO v=none:=by
 refine Dq λj hj e=>h ?_;rw[<-e];have:j=0\/j=1\/j=2\/j=3\/j=4\/j=5\/j=6:=by have:jO.length=7:=rfl;omega
 rcases this with rfl|rfl|rfl|rfl|rfl|rfl|rfl<;>rfl
theorem NV {v:List UInt8}{k:Nat}(h:idx jO v=some k):Ck v=k:=by unfold Ck;rw[h]
theorem NW {v:List UInt8}(h:idx jO v=none):Ck v=-1:=by unfold Ck;rw[h]
theorem ad5 (l:List UInt8):XV (ba l)=(lV l).map λq=>(q.2,q.1):=by
 have hs:(ba l).size=l.length:=by unfold ba;simp[ByteArray.size]
 unfold XV lV;rw[hs];by_cases A:l.length<2
 ·rw[if_pos A,show l.length-2=0 from by omega,ϗ,Z6 (by omega)];rfl
 have c1:cut (ba l) (l.length-2) 2=l.drop (l.length-2):=by
  unfold cut;rw[B3];exact List.take_of_length_le (by rw[List.length_drop];omega)
 have c2:cut (ba l) 0 (l.length-2)=l.take (l.length-2):=by
  unfold cut;rw[B3,ϗ]
 rw[if_neg A,c1,c2];cases S:idx jO (l.drop (l.length-2))with
 |none=>rw[NW S,if_pos (by omega)];rfl
 |some k=>
  rw[NV S,if_neg (by omega)];simp only[];by_cases e2:l.length=2
  ·rw[if_pos e2,if_pos (by omega)];rfl
  rw[if_neg e2,if_neg (show¬l.length<=2 by omega)];split<;>rfl
theorem Q6:∀(P:List ByteArray) (acc:List Int×List Int),TE P acc=(fo lV (P.map (·.data.toList))).map λzs=>(acc.1++zs.map (·.2),acc.2++zs.map (·.1))
 |[],acc=>by simp[TE,fo]
 |l::r,acc=>by
  have e:=ad5 l.data.toList;rw[Q2]at e;simp only[TE,Ψ,fo,e];cases h:lV l.data.toList with
  |none=>rfl
  |some z=>
   simp only[τ];rw[Q6 r];cases fo lV (r.map (·.data.toList))<;>simp
theorem BC (v:List UInt8):Ez (ba v)=(dW lV (some v)).map λzs=>(zs.map (·.2),zs.map (·.1)):=by
 have e:=wj v;have N:(jN (ba v) 44).length=(bY 44 v).length:=by rw[<-e,Ρ]
 unfold Ez dW;simp only[];rw[N,Q6,e];split
 ·cases fo lV (bY 44 v)<;>simp
 rfl
theorem BD (v:List UInt8):qj (some v)=if 0<O8 v then some (O8 v-1)else none:=by
 unfold qj;rw[π];by_cases G:v=[68,65,73,76,89]
 ·subst G;decide
 by_cases A:v=[87,69,69,75,76,89]
 ·subst A;decide
 by_cases K:v=[77,79,78,84,72,76,89]
 ·subst K;decide
 by_cases h4:v=[89,69,65,82,76,89]
 ·subst h4;decide
 have e:idx jd v=none:=Dq λj hj e=>by
  have:j=0\/j=1\/j=2\/j=3:=by have:jd.length=4:=rfl;omega
  rcases this with rfl|rfl|rfl|rfl
  ·exact G e.symm
  ·exact A e.symm
  ·exact K e.symm
  exact h4 e.symm
 rw[e];unfold O8 nI;rw[if_neg h4,if_neg G,if_neg A,if_neg K];rfl
theorem Gm:qj none=none:=by decide
theorem Q7 (v:List UInt8):Bk v=if 0<=Ck v then some (Ck v)else none:=by
 unfold Bk;cases h:idx jO v with
 |none=>rw[NW h];rfl
 |some k=>rw[NV h,if_pos (by omega)];rfl
theorem Td (F:Nat->Option (List UInt8)):EC F=true↔∀k,k<9->∀v,F k=some v->uh k v=true:=by
 unfold EC;rw[List.all_eq_true];constructor
 ·intro h k I v hv;have:=h k (List.mem_range.2 I);rw[hv]at this;exact this
 intro h k I;cases hv:F k with
 |none=>rfl
 |some v=>exact h k (List.mem_range.1 I) v hv
theorem sR {α:Type}{o:Option α}(h:o.isSome=true):∃z,o=some z:=Option.isSome_iff_exists.1 h
theorem J6 (F:Nat->Option (List UInt8)):(∃r,oB F r)↔has F 0=true/\EC F=true:=by
 rw[Td];constructor
 ·rintro⟨r,h⟩;refine⟨?_,λk I v hv=>?_⟩
  ·unfold has;cases h0:F 0 with
   |none=>have:=h.fq;rw[h0,Gm]at this;cases this
   |some v=>rfl
  have:k=0\/k=1\/k=2\/k=3\/k=4\/k=5\/k=6\/k=7\/k=8:=by omega
  rcases this with rfl|rfl|rfl|rfl|rfl|rfl|rfl|rfl|rfl<;>unfold uh<;>simp only[]
  ·have:=h.fq;rw[hv,BD]at this;split at this
   ·simpa using ‹_›
   cases this
  ·have:=h.iv;rw[hv,π,xU]at this;split at this
   ·simpa using ‹_›
   cases this
  ·have:=h.ct;rw[hv]at this;unfold wO at this;simp only[]at this;rw[xU]at this;split at this
   ·simpa using ‹_›
   cases this
  ·have:=h.un;rw[hv]at this;unfold wP at this;simp only[]at this;split at this
   ·rename_i ht;exact ht
   cases this
  ·rw[pq,Q5,<-hv,h.ms];rfl
  ·rw[pq,B4,<-hv,h.mds];rfl
  ·rw[BC,<-hv,h.wks];rfl
  ·rw[pq,B4,<-hv,h.pls];rfl
  have:=h.ws;rw[hv,π,Q7]at this;split at this
  ·simpa using ‹_›
  cases this
 rintro⟨h0,h⟩;obtain⟨v0,Vw⟩:=sR h0;have p0:=h 0 (by decide) v0 Vw;have q1:∃z,qk 1 100 ((F 1).getD [49])=some z:=by
  cases hv:F 1 with
  |none=>exact⟨1,by rw[Option.getD_none];decide⟩
  |some v=>
   have p:=h 1 (by decide) v hv;unfold uh at p;simp only[decide_eq_true_eq]at p;exact⟨_,by rw[π,xU,if_pos p]⟩
 have q2:∃z,wO (F 2)=some z:=by
  cases hv:F 2 with
  |none=>exact⟨0,rfl⟩
  |some v=>
   have p:=h 2 (by decide) v hv;unfold uh at p;simp only[decide_eq_true_eq]at p;exact⟨_,by unfold wO;simp only[];rw[xU,if_pos p]⟩
 have q3:∃z,wP (F 3)=some z:=by
  cases hv:F 3 with
  |none=>exact⟨9223372036854775807,rfl⟩
  |some v=>
   have p:lq (bU v)=true:=h 3 (by decide) v hv;exact⟨_,by unfold wP;simp only[];rw[if_pos p]⟩
 have q4:∃z,dW (qk 1 12) (F 4)=some z:=by
  cases hv:F 4 with
  |none=>exact⟨[],rfl⟩
  |some v=>
   have p:(vy (ba v) 12 false).isSome=true:=h 4 (by decide) v hv;rw[pq,Q5]at p;exact sR p
 have q5:∃z,dW (tv 31) (F 5)=some z:=by
  cases hv:F 5 with
  |none=>exact⟨[],rfl⟩
  |some v=>
   have p:(vy (ba v) 31 true).isSome=true:=h 5 (by decide) v hv;rw[pq,B4]at p;exact sR p
 have q6:∃z,dW lV (F 6)=some z:=by
  cases hv:F 6 with
  |none=>exact⟨[],rfl⟩
  |some v=>
   have p:(Ez (ba v)).isSome=true:=h 6 (by decide) v hv;rw[BC,Option.isSome_map]at p;exact sR p
 have q7:∃z,dW (tv 366) (F 7)=some z:=by
  cases hv:F 7 with
  |none=>exact⟨[],rfl⟩
  |some v=>
   have p:(vy (ba v) 366 true).isSome=true:=h 7 (by decide) v hv;rw[pq,B4]at p;exact sR p
 have q8:∃z,Bk ((F 8).getD [77,79])=some z:=by
  cases hv:F 8 with
  |none=>exact⟨0,by rw[Option.getD_none];decide⟩
  |some v=>
   have p:=h 8 (by decide) v hv;unfold uh at p;simp only[decide_eq_true_eq]at p;exact⟨_,by rw[π,Q7,if_pos p]⟩
 unfold uh at p0;simp only[decide_eq_true_eq]at p0;obtain⟨z1,q1⟩:=q1;obtain⟨z2,q2⟩:=q2;obtain⟨z3,q3⟩:=q3;obtain⟨z4,q4⟩:=q4;obtain⟨z5,q5⟩:=q5;obtain⟨z6,q6⟩:=q6;obtain⟨z7,q7⟩:=q7;obtain⟨z8,q8⟩:=q8;exact⟨⟨O8 v0-1,z1,z2,z3,z4,z5,z6,z7,z8⟩,by rw[Vw,BD,if_pos p0],q1,q2,q3,q4,q5,q6,q7,q8⟩
theorem ad6 {α:Type}{rd:List UInt8->Option α}{v:List UInt8}{zs:List α}(h:dW rd (some v)=some zs):0<zs.length:=by
 unfold dW at h;simp only[]at h;split at h
 ·rw[BY h];have:=Bd 44 v;cases hs:bY 44 v with
  |nil=>exact absurd hs this
  |cons a r=>simp
 cases h
theorem B5 {α:Type}{rd:List UInt8->Option α}{f:Option (List UInt8)}{zs:List α}(h:dW rd f=some zs):f.isSome=decide (0<zs.length):=by
 cases f with
 |none=>
  have:zs=[]:=(ξ h).symm;subst this;rfl
 |some v=>have:=ad6 h;simp[this]
theorem ahT {F:Nat->Option (List UInt8)}{zs:List (Int×Int)}(h:dW lV (F 6)=some zs):ui F=ie zs:=by
 unfold ui;cases hv:F 6 with
 |none=>
  rw[hv]at h;have:zs=[]:=(ξ h).symm;subst this;rfl
 |some v=>
  rw[hv]at h;simp only[];rw[BC,h];simp only[τ];unfold ie;rw[List.any_map];rfl
theorem ad7 {F:Nat->Option (List UInt8)}{z:Int}(h:qj (F 0)=some z):EA F=z+1/\has F 0=true:=by
 unfold EA has;cases hv:F 0 with
 |none=>rw[hv,Gm]at h;cases h
 |some v=>
  rw[hv,BD]at h;split at h
  ·have:=ξ h;exact⟨by simp only[];omega,rfl⟩
  cases h
theorem J7 {F:Nat->Option (List UInt8)}{r:aC}(h:oB F r):agree F=true↔¬((F 2).isSome=true/\(F 3).isSome=true)/\F2 r=true:=by
 obtain⟨hf,h0⟩:=ad7 h.fq;have ho:=ahT h.wks;have b5:has F 5=decide (0<r.mds.length):=B5 h.mds;have b4:has F 4=decide (0<r.ms.length):=B5 h.ms;have b6:has F 6=decide (0<r.wks.length):=B5 h.wks;have b7:has F 7=decide (0<r.pls.length):=B5 h.pls;have uE:=QA h.fq;unfold agree F2 xL;rw[h0,hf,ho,b4,b5,b6,b7];unfold has;generalize(F 2).isSome=x2;generalize(F 3).isSome=x3;generalize ie r.wks=o;generalize r.mds.length=nd at *
 generalize r.ms.length=nm at *
 generalize r.wks.length=nw at *
 generalize r.pls.length=np at *
 have hq:r.fq=0\/r.fq=1\/r.fq=2\/r.fq=3:=by omega
 rcases hq with e|e|e|e<;>rw[e]<;>cases x2<;>cases x3<;>cases o<;>by_cases c1:0<nd<;>by_cases c2:0<nm<;>by_cases c3:0<nw<;>by_cases c4:0<np<;>simp[c1,c2,c3,c4]<;>omega
theorem zf (s:List UInt8)(F:Nat->Option (List UInt8)):rK s=some F↔∃r,na s F r:=by
 unfold rK na partsOf;rw[Tc];cases hf:eH cC 61 (bY 59 s) (λ_=>none)with
 |none=>simp
 |some f=>
  simp only[];constructor
  ·intro h;split at h
   ·rename_i hc;have e:=ξ h;subst e;rw[θ]at hc;have h0:has f 0=true:=by
     have:=hc.2;unfold agree at this;simp only[θ]at this;exact this.1.1.1.1
    obtain⟨r,hr⟩:=(J6 f).2 ⟨h0,hc.1⟩;obtain⟨a1,a2⟩:=(J7 hr).1 hc.2;exact⟨r,rfl,a1,hr,a2⟩
   cases h
  rintro⟨r,G,A,K,h4⟩;have e:=ξ G;subst e;have a:=(J7 K).2 ⟨A,h4⟩;have b:=((J6 f).1 ⟨r,K⟩).2;rw[if_pos (by rw[a,b];rfl)]
def fR (l:List Int):Prop:=l.Pairwise (·<·)
theorem rm (n:Int):∀(zs:List Int) (d:Bool) (x:Int),x∈ug n d zs↔(x=n/\d=false)\/(x∈zs/\x≠n)
 |[],d,x=>by cases d<;>simp[ug]
 |a::r,d,x=>by
  rw[ug,φ,φ,rm n r];cases d
  ·by_cases G:n<=a
   ·by_cases A:a=n
    ·subst A;simp;constructor
     ·rintro(h|⟨h,h'⟩)
      ·exact .inl h
      exact .inr ⟨.inr h,h'⟩
     rintro(h|⟨h|h,h'⟩)
     ·exact .inl h
     ·exact absurd h h'
     exact .inr ⟨h,h'⟩
    simp[G,A];constructor
    ·rintro((h|h)|⟨h,h'⟩)
     ·exact .inl h
     ·exact .inr ⟨.inl h,by rw[h];exact A⟩
     exact .inr ⟨.inr h,h'⟩
    rintro(h|⟨h|h,h'⟩)
    ·exact .inl (.inl h)
    ·exact .inl (.inr h)
    exact .inr ⟨h,h'⟩
   have A:¬a=n:=by omega
   simp[G,A];constructor
   ·rintro(h|h|⟨h,h'⟩)
    ·exact .inr ⟨.inl h,by rw[h];exact A⟩
    ·exact .inl h
    exact .inr ⟨.inr h,h'⟩
   rintro(h|⟨h|h,h'⟩)
   ·exact .inr (.inl h)
   ·exact .inl h
   exact .inr (.inr ⟨h,h'⟩)
  by_cases A:a=n
  ·subst A;simp;exact λh h'=>absurd h' h
  simp[A];constructor
  ·rintro(h|⟨h,h'⟩)
   ·exact⟨.inl h,by rw[h];exact A⟩
   exact⟨.inr h,h'⟩
  rintro⟨h|h,h'⟩
  ·exact .inl h
  exact .inr ⟨h,h'⟩
theorem Ik (n:Int):∀(zs:List Int) (d:Bool),fR zs->fR (ug n d zs)
 |[],d,_=>by cases d<;>simp[ug,fR]
 |a::r,d,h=>by
  obtain⟨ha,hr⟩:=List.pairwise_cons.1 h;have ihT:=Ik n r true hr;have ihF:=Ik n r false hr;rw[ug];cases d
  ·by_cases G:n<=a
   ·by_cases A:a=n
    ·simp only[A,Int.le_refl,and_self,if_true,Ϗ,Ε,decide_true,Bool.or_true];refine List.pairwise_cons.2 ⟨λx X=>?_,ihT⟩;rcases(rm n r true x).1 X with⟨_,h⟩|⟨X,_⟩
     ·cases h
     have:=ha x X;omega
    simp only[G,A,and_self,if_true,if_false,Γ,υ,decide_true,Bool.or_true];refine List.pairwise_cons.2 ⟨λx X=>?_,List.pairwise_cons.2 ⟨λx X=>?_,ihT⟩⟩
    ·rcases List.mem_cons.1 X with rfl|X
     ·omega
     rcases(rm n r true x).1 X with⟨_,h⟩|⟨X,_⟩
     ·cases h
     have:=ha x X;omega
    rcases(rm n r true x).1 X with⟨_,h⟩|⟨X,_⟩
    ·cases h
    exact ha x X
   have A:¬a=n:=by omega
   have K:¬(false=false/\n<=a):=λh=>G h.2;rw[if_neg K,if_neg A,show(false||decide (n<=a))=false from by simp[G]];simp only[υ,Ε];refine List.pairwise_cons.2 ⟨λx X=>?_,ihF⟩;rcases(rm n r false x).1 X with⟨h,_⟩|⟨X,_⟩
   ·omega
   exact ha x X
  by_cases A:a=n
  ·rw[if_neg (λh=>by cases h.1),if_pos A];exact ihT
  rw[if_neg (λh=>by cases h.1),if_neg A];simp only[υ,Ε,Bool.true_or];refine List.pairwise_cons.2 ⟨λx X=>?_,ihT⟩;rcases(rm n r true x).1 X with⟨_,h⟩|⟨X,_⟩
  ·cases h
  exact ha x X
theorem AH:∀{l m:List Int},fR l->fR m->(∀x,x∈l↔x∈m)->l=m
 |[],[],_,_,_=>rfl
 |[],b::m,_,_,h=>absurd ((h b).2 (by simp)) (by simp)
 |a::l,[],_,_,h=>absurd ((h a).1 (by simp)) (by simp)
 |a::l,b::m,N,hm,h=>by
  obtain⟨ha,vJ⟩:=List.pairwise_cons.1 N;obtain⟨U,MY⟩:=List.pairwise_cons.1 hm;have e:a=b:=by
   have G:=(h a).1 (by simp);have A:=(h b).2 (by simp);rcases List.mem_cons.1 G with G|G
   ·exact G
   rcases List.mem_cons.1 A with A|A
   ·exact A.symm
   have:=ha b A;have:=U a G;omega
  subst e;rw[AH vJ MY λx=>?_];constructor
  ·intro X;rcases List.mem_cons.1 ((h x).1 (Α _ X))with e|h'
   ·have:=ha x X;omega
   exact h'
  intro X;rcases List.mem_cons.1 ((h x).2 (Α _ X))with e|h'
  ·have:=U x X;omega
  exact h'
theorem NY (zs:List Int)(hs:zs.Pairwise (·<=·)):∀m,m<=zs.length->fR (χ zs.toArray m)/\∀x,x∈χ zs.toArray m↔x∈zs.take m
 |0,_=>by
  have:χ zs.toArray 0=[]:=by simp[χ]
  rw[this];exact⟨List.Pairwise.nil,by simp⟩
 |m+1,h=>by
  obtain⟨G,A⟩:=NY zs hs m (by omega);have hm:m<zs.length:=by omega
  have hg:zs.toArray[m]! =zs[m]:=by simp[hm]
  rw[Lib.compactUpTo_succ,hg,List.take_succ_eq_append_getElem hm];by_cases I:Lib.keeps zs.toArray m=true
  ·rw[if_pos I];refine⟨?_,λx=>by rw[φ,φ,A]⟩;refine List.pairwise_append.2 ⟨G,List.pairwise_singleton _ _,λx X y hy=>?_⟩;rw[Κ]at hy;subst hy;obtain⟨j,hj,rfl⟩:=List.getElem_of_mem ((A x).1 X);rw[List.length_take]at hj;rw[List.getElem_take];have K:zs[m-1]<zs[m]:=by
    have df:zs[m]≠zs[m-1]:=by
     unfold Lib.keeps at I;have mu:m-1<zs.length:=by omega
     simp only[hg]at I;intro e;have h0:m≠0:=by omega
     simp[h0,mu,e]at I
    have:=List.pairwise_iff_getElem.1 hs (m-1) m (by omega) hm (by omega);omega
   rcases Nat.lt_or_ge j (m-1)with h4|h4
   ·have:=List.pairwise_iff_getElem.1 hs j (m-1) (by omega) (by omega) h4;omega
   have:j=m-1:=by omega
   subst this;exact K
  rw[if_neg I,Ϗ];refine⟨G,λx=>?_⟩;rw[A,φ,Κ];constructor
  ·exact .inl
  rintro(h|h)
  ·exact h
  subst h;have h0:m≠0:=λe=>I (by subst e;exact Lib.keeps_lt_one _ 0 (by omega));have mu:m-1<zs.length:=by omega
  have e:zs[m]=zs[m-1]:=by
   unfold Lib.keeps at I;simp only[hg]at I;by_cases e:zs[m]=zs[m-1]
   ·exact e
   exfalso;apply I;simp[h0,mu,e]
  rw[e];exact List.mem_take_iff_getElem.2 ⟨m-1,by omega,rfl⟩
theorem KZ (zs:List Int):fR (Τ (zs.mergeSort λx y=>decide (x<=y)))/\∀x,x∈Τ (zs.mergeSort λx y=>decide (x<=y))↔x∈zs:=by
 have hs:(zs.mergeSort λx y=>decide (x<=y)).Pairwise (·<=·):=by
  have:=List.pairwise_mergeSort (le:=λx y:Int=>decide (x<=y)) (by simp;omega) (by simp;omega) zs;exact this.imp (by simp)
 obtain⟨G,A⟩:=NY _ hs _ (μ _);refine⟨G,λx=>?_⟩;rw[show Τ (zs.mergeSort λx y=>decide (x<=y))=χ (zs.mergeSort λx y=>decide (x<=y)).toArray (zs.mergeSort λx y=>decide (x<=y)).length from rfl,A,ό];exact List.mem_mergeSort
theorem Q8:∀(P:List ByteArray) (acc:List Int),fR acc->(match fo fU (P.map (·.data.toList))with
 |none=>IE P acc=none
 |some zs=>∃out,IE P acc=some out/\fR out/\∀x,x∈out↔x∈zs\/x∈acc)
 |[],acc,h=>⟨acc,rfl,h,λx=>by simp⟩
 |l::r,acc,h=>by
  rw[Ψ,fo,IE];have e:fU l.data.toList=if lq l=true then some (jA l)else none:=by
   unfold fU bU;simp
  rw[e];by_cases ht:lq l=true
  ·rw[if_pos ht,if_pos ht];have ih:=Q8 r (ug (jA l) false acc) (Ik _ _ _ h);cases hz:fo fU (r.map (·.data.toList))with
   |none=>rw[hz]at ih;exact ih
   |some zs=>
    rw[hz]at ih;obtain⟨out,G,A,K⟩:=ih;refine⟨out,G,A,λx=>?_⟩;rw[K,rm,Χ];simp only[and_true];by_cases X:x=jA l<;>simp[X]
  rw[if_neg ht,if_neg ht]
def swp (k:Nat):Nat:=if k=2 then 3 else if k=3 then 2 else k
def sw (f:Nat->Option (List UInt8)):Nat->Option (List UInt8):=λk=>f (swp k)
theorem Il (k:Nat):swp (swp k)=k:=by
 unfold swp;by_cases A:k=2
 ·subst A;rfl
 by_cases K:k=3
 ·subst K;rfl
 simp[A,K]
theorem ahU (f:Nat->Option (List UInt8))(j:Nat)(v:List UInt8):sw (λi=>if i=j then some v else f i)=λi=>if i=swp j then some v else sw f i:=by
 funext k;unfold sw;by_cases h:k=swp j
 ·subst h;rw[Il];simp
 have:¬swp k=j:=λe=>h (by rw[<-e,Il]);simp[h,this]
theorem ahV (n:List UInt8):idx fp n=(idx cg n).map swp:=by
 by_cases h0:n=[85,73,68]
 ·subst h0;decide
 by_cases G:n=[68,84,83,84,65,82,84]
 ·subst G;decide
 by_cases A:n=[68,84,69,78,68]
 ·subst A;decide
 by_cases K:n=[68,85,82,65,84,73,79,78]
 ·subst K;decide
 by_cases h4:n=[82,82,85,76,69]
 ·subst h4;decide
 by_cases h5:n=[69,88,68,65,84,69]
 ·subst h5;decide
 by_cases h6:n=[82,68,65,84,69]
 ·subst h6;decide
 by_cases h7:n=[84,82,65,78,83,80]
 ·subst h7;decide
 by_cases h8:n=[83,84,65,84,85,83]
 ·subst h8;decide
 unfold fp cg;simp only[idx,if_neg (ψ h0),if_neg (ψ G),if_neg (ψ A),if_neg (ψ K),if_neg (ψ h4),if_neg (ψ h5),if_neg (ψ h6),if_neg (ψ h7),if_neg (ψ h8)];rfl
theorem ahW (l:List UInt8):vx fp 58 l=(vx cg 58 l).map λq=>(swp q.1,q.2):=by
 unfold vx;cases sp 58 l with
 |none=>rfl
 |some q=>
  obtain⟨n,v⟩:=q;simp only[];rw[ahV];cases idx cg n<;>rfl
theorem Im:∀(P:List (List UInt8)) (f:Nat->Option (List UInt8)),eH fp 58 P (sw f)=(eH cg 58 P f).map sw
 |[],f=>rfl
 |l::r,f=>by
  rw[eH,eH,ahW];cases vx cg 58 l with
  |none=>rfl
  |some q=>
   obtain⟨k,v⟩:=q;simp only[τ];have e:sw f (swp k)=f k:=by unfold sw;rw[Il]
   rw[e];cases U:(f k).isSome with
   |true=>rfl
   |false=>
    simp only[ϋ,if_false];rw[<-ahU];exact Im r _
theorem Xp (o:Option (List UInt8)):Bn o=match o with|none=>some 0|some v=>if nI v jF jE jD=0 then none else some (nI v jF jE jD-1):=by
 cases o with
 |none=>decide
 |some v=>
  unfold Bn;simp only[π];by_cases h0:v=jF
  ·subst h0;decide
  by_cases G:v=jE
  ·subst G;decide
  by_cases A:v=jD
  ·subst A;decide
  have hw:nI v jF jE jD=0:=by unfold nI;simp[h0,G,A]
  rw[if_pos hw];unfold nf;simp only[idx];unfold jF at h0;unfold jE at G;unfold jD at A;simp only[if_neg (ψ h0),if_neg (ψ G),if_neg (ψ A)];rfl
theorem Xq (o:Option (List UInt8)):Bm o=match o with|none=>some false|some v=>if nI v tO nG []=0\/v=[]then none else some (decide (v=nG)):=by
 cases o with
 |none=>decide
 |some v=>
  unfold Bm;simp only[π];by_cases h0:v=tO
  ·subst h0;decide
  by_cases G:v=nG
  ·subst G;decide
  have hw:nI v tO nG []=0\/v=[]:=by
   by_cases A:v=[]
   ·exact .inr A
   exact .inl (by unfold nI;simp[h0,G,A])
  rw[if_pos hw];unfold mj;simp only[idx];unfold tO at h0;unfold nG at G;simp only[if_neg (ψ h0),if_neg (ψ G)];rfl
theorem J8 {s:List UInt8}{ls:List (List UInt8)}(A:2<=ls.length):kb s=some ls↔(nX (fM s) []).2=true/\lH s=ls:=by
 unfold kb lH;by_cases X:∃i,fM s=i++[13,10]
 ·obtain⟨i,S⟩:=X;have G:Λ (fM s) crlf=true:=by rw[S];unfold Λ;exact List.isSuffixOf_iff_suffix.2 ⟨i,rfl⟩
  have K:Ϙ (fM s) crlf=i:=by unfold Ϙ;rw[if_pos G,S];simp[crlf]
  rw[if_pos G,K,S,adH];simp
 have G:¬Λ (fM s) crlf=true:=λe=>by
  unfold Λ at e;obtain⟨t,ht⟩:=List.isSuffixOf_iff_suffix.1 e;exact X ⟨t,ht.symm⟩
 rw[if_neg G];constructor
 ·intro h;cases h
 rintro⟨K,h4⟩;by_cases h0:fM s=[]
 ·rw[h0]at h4;simp[nX]at h4;subst h4;simp at A
 rw[agG h0 (λi e=>X ⟨i,e⟩)]at K;cases K
theorem N0 (f:Nat->Option (List UInt8)):must f=true↔(sw f 0).isSome=true/\(sw f 1).isSome=true/\((sw f 2).isSome !=(sw f 3).isSome)=true/\fT (bU ((sw f 0).getD []))=true:=by
 have e0:sw f 0=f 0:=rfl;have e1:sw f 1=f 1:=rfl;have e2:sw f 2=f 3:=rfl;have e3:sw f 3=f 2:=rfl;rw[e0,e1,e2,e3];unfold must has val;rw[θ,θ,θ];have:((f 2).isSome !=(f 3).isSome)=((f 3).isSome !=(f 2).isSome):=by cases(f 2).isSome<;>cases(f 3).isSome<;>rfl
 rw[this];exact⟨λ⟨⟨⟨a,b⟩,c⟩,d⟩=>⟨a,b,c,d⟩,λ⟨a,b,c,d⟩=>⟨⟨⟨a,b⟩,c⟩,d⟩⟩
theorem J9 (f:Nat->Option (List UInt8)):kT f=true↔Bm (sw f 7)=some (gK f)/\Bn (sw f 8)=some (kindOf f-1):=by
 have e7:sw f 7=f 7:=rfl;have e8:sw f 8=f 8:=rfl;rw[e7,e8,Xq,Xp];unfold kT gK kindOf has val;cases f 7 with
 |none=>
  cases f 8 with
  |none=>simp[nG]
  |some v=>by_cases h:nI v jF jE jD=0<;>simp[h,nG]
 |some u=>
  cases f 8 with
  |none=>by_cases h:nI u tO nG []=0<;>by_cases h':u=[]<;>simp[h,h']
  |some v=>by_cases h:nI u tO nG []=0<;>by_cases h':u=[]<;>by_cases A:nI v jF jE jD=0<;>simp[h,h',A]
theorem Te {f:Nat->Option (List UInt8)}{tr:Bool}{k:Int}(h:F6 (sw f) tr k):kT f=true/\tr=gK f/\k=kindOf f-1:=by
 have G:=h.tr;have A:=h.st;have e7:sw f 7=f 7:=rfl;have e8:sw f 8=f 8:=rfl;have hw:kT f=true:=by
  rw[e7,Xq]at G;rw[e8,Xp]at A;unfold kT has val;cases h7:f 7 with
  |none=>
   cases h8:f 8 with
   |none=>rfl
   |some v=>rw[h8]at A;by_cases h:nI v jF jE jD=0<;>simp[h]at A⊢
  |some u=>
   rw[h7]at G;cases h8:f 8 with
   |none=>by_cases h:nI u tO nG []=0<;>by_cases h':u=[]<;>simp[h,h']at G⊢
   |some v=>rw[h8]at A;by_cases h:nI u tO nG []=0<;>by_cases h':u=[]<;>by_cases K:nI v jF jE jD=0<;>simp[h,h',K]at G A⊢
 obtain⟨a,b⟩:=(J9 f).1 hw;rw[G]at a;rw[A]at b;exact⟨hw,ξ a,ξ b⟩
theorem Gn (s:List UInt8):sQ s=true↔s.length<=2000/\(nX (fM s) []).2=true/\2<=(lH s).length/\(lH s).getD 0 []=gq/\(lH s).getD ((lH s).length-1) []=lB:=by
 unfold sQ;simp only[θ,decide_eq_true_eq];exact⟨λ⟨⟨⟨⟨a,b⟩,c⟩,d⟩,e⟩=>⟨b,a,c,d,e⟩,λ⟨b,a,c,d,e⟩=>⟨⟨⟨⟨a,b⟩,c⟩,d⟩,e⟩⟩
theorem rn (s:List UInt8)(F:Nat->Option (List UInt8))(tr:Bool)(k:Int):ng s F tr k↔∃f,iA s=some f/\F=sw f/\tr=gK f/\k=kindOf f-1:=by
 have e0:sw (λ_=>none)=λ_=>none:=rfl;constructor
 ·rintro⟨J,U⟩;obtain⟨ls,G,A,K,h4,h5⟩:=J.lines;obtain⟨N,rfl⟩:=(J8 A).1 G;have hf:sQ s=true:=(Gn s).2 ⟨J.len,N,A,K,h4⟩;have h6:=Im (gu (lH s)) (λ_=>none);rw[e0,h5]at h6;obtain⟨f,JB,rfl⟩:=Option.map_eq_some_iff.1 h6.symm;obtain⟨hw,htr,I⟩:=Te U;have hm:must f=true:=(N0 f).2 ⟨J.uid,J.start,J.one,U.uid⟩;refine⟨f,?_,rfl,htr,I⟩;unfold iA;rw[if_pos hf,JB];simp only[];rw[hm,hw];rfl
 rintro⟨f,hf,rfl,rfl,rfl⟩;unfold iA at hf;by_cases Ra:sQ s=true
 ·rw[if_pos Ra]at hf;obtain⟨G,A,K,h4,h5⟩:=(Gn s).1 Ra;cases h6:eH cg 58 (gu (lH s)) (λ_=>none)with
  |none=>rw[h6]at hf;cases hf
  |some f'=>
   rw[h6]at hf;simp only[]at hf;split at hf
   ·rename_i hc;cases hf;rw[θ]at hc;obtain⟨m1,m2,m3,m4⟩:=(N0 f).1 hc.1;obtain⟨w1,w2⟩:=(J9 f).1 hc.2;have h7:=Im (gu (lH s)) (λ_=>none);rw[e0,h6]at h7;exact⟨⟨G,⟨lH s,(J8 K).2 ⟨A,rfl⟩,K,h4,h5,h7⟩,m1,m2,m3⟩,⟨m4,w1,w2⟩⟩
   cases hf
 rw[if_neg Ra]at hf;cases hf
theorem BE (o:Option (List UInt8)):qF o=tw o:=by
 cases o with
 |none=>unfold qF tw dW;simp[Τ,χ]
 |some v=>
  unfold qF tw Lc dW;simp only[];have N:(jN (ba v) 44).length=(bY 44 v).length:=by rw[<-wj,Ρ]
  rw[N];by_cases xJ:(bY 44 v).length<=20
  ·rw[if_pos xJ,if_pos xJ];have h:=Q8 (jN (ba v) 44) [] List.Pairwise.nil;rw[wj]at h;cases hz:fo fU (bY 44 v)with
   |none=>rw[hz]at h;rw[h];rfl
   |some zs=>
    rw[hz]at h;obtain⟨out,G,A,K⟩:=h;rw[G];obtain⟨s1,s2⟩:=KZ zs;simp only[τ];congr 1;exact AH A s1 λx=>by rw[K,s2];simp
  rw[if_neg xJ,if_neg xJ];rfl
theorem wm {f:Nat->Option (List UInt8)}{st ln:Int}{ex xt:List Int}:lD (sw f) st ln ex xt↔fU (val f 1)=some st/\lY st (f 3) (f 2)=some ln/\qF (f 5)=some ex/\qF (f 6)=some xt:=by
 rw[BE,BE];exact⟨λh=>⟨h.iK,h.lR,h.hex,h.mw⟩,λ⟨a,b,c,d⟩=>⟨a,b,c,d⟩⟩
theorem B6 {s:List UInt8}{f:Nat->Option (List UInt8)}{st ln:Int}{ex xt:List Int}(hf:iA s=some f)(G:fU (val f 1)=some st)(A:lY st (f 3) (f 2)=some ln)(K:qF (f 5)=some ex)(h4:qF (f 6)=some xt):
 iz s=match J5 (f 4)with|none=>.error 3|some rl=>.ok ⟨f,st,ln,ex,xt,rl⟩:=by
 unfold iz;rw[hf];simp only[G,A,K,h4];cases J5 (f 4)<;>rfl
theorem Z7 {s:List UInt8}{f:Nat->Option (List UInt8)}(hf:iA s=some f)(h:¬∃st ln ex xt,lD (sw f) st ln ex xt):iz s=.error 1:=by
 unfold iz;rw[hf];simp only[];cases G:fU (val f 1)with
 |none=>rfl
 |some st=>
  simp only[];cases A:lY st (f 3) (f 2)with
  |none=>rfl
  |some ln=>
   simp only[];cases K:qF (f 5)with
   |none=>rfl
   |some ex=>
    simp only[];cases h4:qF (f 6)with
    |none=>rfl
    |some xt=>exact absurd ⟨st,ln,ex,xt,wm.2 ⟨G,A,K,h4⟩⟩ h
def anE (d:pf)(E:ϙ)(Y:κ):Prop:=
 ∃aI aH,dd Y aI d.ex/\dd Y aH d.xt/\((d.rl=none/\E=δ (zI (bU (val d.f 0)) d.st d.ln false bu aI aH (gK d.f) (kindOf d.f-1)))\/
  ∃(F:Nat->Option (List UInt8)) (r:aC) (m md wk pl:Value),d.rl=some F/\cr Y m r.ms/\cr Y md r.mds/\gE Y wk r.wks/\cr Y pl r.pls/\E=δ (zI (bU (val d.f 0)) d.st d.ln true (bX r.fq r.iv r.ct r.un m md wk pl r.ws (gD F)) aI aH (gK d.f) (kindOf d.f-1)))
theorem Ka {s:List UInt8}{w Y:κ}{E:ϙ}(h:Ng s w E Y):((∃x,iz s=.error x/\E=.panicked (bF x))\/∃d,iz s=.ok d/\anE d E Y)/\Below w.heap.size w Y:=by
 obtain⟨h,U⟩:=h;refine⟨?_,U⟩;rcases h with⟨F,tr,k,st,ln,ex,xt,hH,hT,hE⟩|⟨hn,rfl⟩|⟨⟨F,tr,k,hH,hn⟩,rfl⟩|⟨⟨F,tr,k,st,ln,ex,xt,v,hH,hT,hv,hn⟩,rfl⟩
 ·obtain⟨f,hf,rfl,rfl,rfl⟩:=(rn s F tr k).1 hH;obtain⟨G,A,K,h4⟩:=wm.1 hT;have hr:=B6 hf G A K h4;obtain⟨aI,aH,i1,i2,hE⟩:=hE;right;rcases hE with⟨h0,rfl⟩|⟨v,F',r,m,md,wk,pl,hv,hR,q1,q2,q3,q4,rfl⟩
  ·have e4:f 4=none:=h0;rw[e4]at hr;exact⟨⟨f,st,ln,ex,xt,none⟩,hr,aI,aH,i1,i2,.inl ⟨rfl,rfl⟩⟩
  have e4:f 4=some v:=hv;have e5:J5 (f 4)=some (some F'):=by rw[e4];show(rK v).map some=_;rw[(zf v F').2 ⟨r,hR⟩];rfl
  rw[e5]at hr;exact⟨⟨f,st,ln,ex,xt,some F'⟩,hr,aI,aH,i1,i2,.inr ⟨F',r,m,md,wk,pl,rfl,q1,q2,q3,q4,rfl⟩⟩
 ·left;refine⟨2,?_,rfl⟩;unfold iz;cases hf:iA s with
  |none=>rfl
  |some f=>exact absurd ⟨sw f,_,_,(rn s (sw f) _ _).2 ⟨f,hf,rfl,rfl,rfl⟩⟩ hn
 ·left;obtain⟨f,hf,rfl,_,_⟩:=(rn s F tr k).1 hH;exact⟨1,Z7 hf hn,rfl⟩
 left;obtain⟨f,hf,rfl,_,_⟩:=(rn s F tr k).1 hH;obtain⟨G,A,K,h4⟩:=wm.1 hT;have hr:=B6 hf G A K h4;have e4:f 4=some v:=hv;have e5:J5 (f 4)=none:=by
  rw[e4];show(rK v).map some=none;cases hq:rK v with
  |none=>rfl
  |some F'=>exact absurd ⟨F',(zf v F').1 hq⟩ hn
 rw[e5]at hr;exact⟨3,hr,rfl⟩
theorem Xr (n:Int):∀(zs:List Int) (d:Bool),(ug n d zs).length<=zs.length+1
 |[],d=>by cases d<;>simp[ug]
 |a::r,d=>by
  have G:=Xr n r (d||decide (n<=a));rw[ug,ρ,ρ];by_cases hd:d=false/\n<=a
  ·rw[if_pos hd];have A:∀zs:List Int,(ug n true zs).length<=zs.length:=λzs=>by
    induction zs with
    |nil=>simp[ug]
    |cons b t ih=>
     rw[ug,if_neg (by simp),ρ,ρ,Bool.true_or];split<;>simp<;>omega
   have K:=A r;rw[show(d||decide (n<=a))=true from by simp[hd.2]];split<;>simp<;>omega
  rw[if_neg hd];split<;>simp<;>omega
theorem Rb:∀(P:List ByteArray) (acc out:List Int),IE P acc=some out->out.length<=acc.length+P.length
 |[],acc,out,h=>by rw[IE]at h;cases h;simp
 |l::r,acc,out,h=>by
  rw[IE]at h;split at h
  ·have G:=Rb r _ out h;have A:=Xr (jA l) acc false;simp;omega
  cases h
theorem B7 {o:Option (List UInt8)}{zs:List Int}(h:qF o=some zs):zs.length<=20:=by
 cases o with
 |none=>cases h;simp
 |some v=>
  unfold qF Lc at h;simp only[]at h;split at h
  ·have:=Rb _ _ _ h;simp at this;omega
  cases h
theorem Mi {st ln:Int}{e l:Option (List UInt8)}(h:lY st e l=some ln):1<=ln/\ln<=2678400:=by
 unfold lY at h;split at h
 ·cases h
 split at h
 ·rename_i U;cases h;exact U
 cases h
theorem PY {s:List UInt8}{d:pf}(h:iz s=.ok d):iA s=some d.f/\fU (val d.f 1)=some d.st/\lY d.st (d.f 3) (d.f 2)=some d.ln/\qF (d.f 5)=some d.ex/\qF (d.f 6)=some d.xt/\J5 (d.f 4)=some d.rl:=by
 unfold iz at h;cases hf:iA s with
 |none=>rw[hf]at h;cases h
 |some f=>
  rw[hf]at h;simp only[]at h;cases G:fU (val f 1)with
  |none=>rw[G]at h;cases h
  |some st=>
   rw[G]at h;simp only[]at h;cases A:lY st (f 3) (f 2)with
   |none=>rw[A]at h;cases h
   |some ln=>
    rw[A]at h;simp only[]at h;cases K:qF (f 5)with
    |none=>rw[K]at h;cases h
    |some ex=>
     rw[K]at h;simp only[]at h;cases h4:qF (f 6)with
     |none=>rw[h4]at h;cases h
     |some xt=>
      rw[h4]at h;simp only[]at h;cases h5:J5 (f 4)with
      |none=>rw[h5]at h;cases h
      |some rl=>
       rw[h5]at h;cases h;exact⟨rfl,G,A,K,h4,h5⟩
theorem ad8 {f:Nat->Option (List UInt8)}(h:kT f=true):0<=kindOf f-1/\kindOf f-1<=2:=by
 unfold kT at h;unfold kindOf;cases h8:has f 8 with
 |false=>simp
 |true=>
  rw[h8]at h;simp only[θ,Bool.not_eq_true',Bool.true_and,decide_eq_false_iff_not]at h;have A:=h.2;rw[if_pos rfl];unfold nI at A⊢
  repeat' split at A
  all_goals(repeat' split)
  all_goals first|omega|simp_all
theorem Xs {s:List UInt8}{f:Nat->Option (List UInt8)}(h:iA s=some f):sQ s=true/\eH cg 58 (gu (lH s)) (λ_=>none)=some f/\must f=true/\kT f=true:=by
 unfold iA at h;split at h
 ·rename_i hf;cases h6:eH cg 58 (gu (lH s)) (λ_=>none)with
  |none=>rw[h6]at h;cases h
  |some f'=>
   rw[h6]at h;simp only[]at h;split at h
   ·rename_i hc;cases h;rw[θ]at hc;exact⟨hf,rfl,hc.1,hc.2⟩
   cases h
 cases h
open Go.Sort
theorem Gp {F:Nat->Option (List UInt8)}{B:Nat}(h:∀k,((F k).getD []).length<=B):∀k,∀t∈gG F k,t.length<=B+21
 |0,t,ht=>by simp[gG]at ht
 |k+1,t,ht=>by
  rw[gG,φ]at ht;rcases ht with ht|ht
  ·exact Gp h k t ht
  unfold Bi at ht;have G:=h k;have A:=wN k;cases hf:F k with
  |none=>rw[hf]at ht;simp at ht
  |some v=>
   rw[hf]at ht G;simp only[]at ht;split at ht
   ·rw[Κ]at ht;subst ht;rw[ρ,ω];simp at G;omega
   simp at ht
structure Small (d:pf):Prop where
 u:(val d.f 0).length<=2000
 ex:d.ex.length<=20
 xt:d.xt.length<=20
 l1:1<=d.ln
 l2:d.ln<=2678400
 k1:0<=kindOf d.f-1
 k2:kindOf d.f-1<=2
 tx:∀F,d.rl=some F->(Lib.join (gG F 9) [59]).length<=20000
theorem Sg {s:List UInt8}{d:pf}(h:iz s=.ok d):Small d:=by
 obtain⟨h0,G,A,K,h4,h5⟩:=PY h;obtain⟨g1,g2,g3,g4⟩:=Xs h0;obtain⟨k1,k2⟩:=ad8 g4;obtain⟨q1,q2⟩:=Mi A;have J:dI s (sw d.f):=((rn s (sw d.f) _ _).2 ⟨d.f,h0,rfl,rfl,rfl⟩).1;have hs:∀k,((sw d.f k).getD []).length<=2000:=J.small;refine⟨hs 0,B7 K,B7 h4,q1,q2,k1,k2,λF hF=>?_⟩;rw[hF]at h5;cases h6:d.f 4 with
 |none=>rw[h6]at h5;cases h5
 |some v=>
  rw[h6]at h5;have hv:rK v=some F:=by
   change (rK v).map some=some (some F)at h5;cases hq:rK v with
   |none=>rw[hq]at h5;cases h5
   |some F'=>rw[hq]at h5;cases h5;rfl
  have Pq:v.length<=2000:=by
   have:=hs 4;rw[show sw d.f 4=d.f 4 from rfl,h6]at this;simpa using this
  obtain⟨r,hR⟩:=(zf v F).1 hv;have JD:eH cC 61 (bY 59 v) (λ_=>none)=some F:=hR.1;have U:∀k,((F k).getD []).length<=2000:=tK (λp J=>ϊ (mY 59 v p J) Pq) (λk=>by simp) JD;have h7:=qi [59] 2021 (gG F 9) (Gp U 9);have h8:=D5 F 9;have h9:(gG F 9).length*(2021+[(59:UInt8)].length)<=9*2022:=Nat.mul_le_mul h8 (by simp);omega
def N1 (F:Nat->Option (List UInt8)):aC:=
 ⟨(qj (F 0)).getD 0,(qk 1 100 ((F 1).getD [49])).getD 0,(wO (F 2)).getD 0,(wP (F 3)).getD 0,(dW (qk 1 12) (F 4)).getD [],(dW (tv 31) (F 5)).getD [],(dW lV (F 6)).getD [],(dW (tv 366) (F 7)).getD [],(Bk ((F 8).getD [77,79])).getD 0⟩
def ic:aC:=⟨0,0,0,0,[],[],[],[],0⟩
theorem Jl {F:Nat->Option (List UInt8)}{r:aC}(h:oB F r):N1 F=r:=by
 unfold N1;rw[h.fq,h.iv,h.ct,h.un,h.ms,h.mds,h.wks,h.pls,h.ws];rfl
theorem Xt {lo S z:Int}{v:List UInt8}(h:qk lo S v=some z):lo<=z/\z<=S:=by
 unfold qk at h;split at h
 ·rename_i hw;cases h;unfold mX at hw;simp only[θ,decide_eq_true_eq]at hw;exact⟨hw.1.2,hw.2⟩
 cases h
theorem xx {z:Int}{v:List UInt8}(h:fU v=some z):0<=z/\z<=7258118399:=by
 unfold fU at h;split at h
 ·cases h;exact M7 (by assumption)
 cases h
theorem Rc {α:Type}{rd:List UInt8->Option α}{p:α->Prop}(J:∀v z,rd v=some z->p z):∀{ps:List (List UInt8)} {zs:List α},fo rd ps=some zs->∀z∈zs,p z
 |[],zs,h,z,hz=>by cases h;simp at hz
 |l::r,zs,h,z,hz=>by
  rw[fo]at h;cases G:rd l with
  |none=>rw[G]at h;cases h
  |some a=>
   rw[G]at h;cases A:fo rd r with
   |none=>simp only[A]at h;cases h
   |some b=>
    simp only[A,τ,Φ]at h;subst h;rcases List.mem_cons.1 hz with rfl|hz
    ·exact J l z G
    exact Rc J A z hz
theorem Io {α:Type}{rd:List UInt8->Option α}{p:α->Prop}(J:∀v z,rd v=some z->p z){f:Option (List UInt8)}{zs:List α}(h:dW rd f=some zs):∀z∈zs,p z:=by
 unfold dW at h;split at h
 ·cases h;intro z hz;simp at hz
 split at h
 ·exact Rc J h
 cases h
theorem ad9 (v:List UInt8)(m:Int)(hm:0<=m):-m<=fF v m/\fF v m<=m:=by
 unfold fF within;split
 ·split
  ·rename_i G A;simp only[θ,decide_eq_true_eq]at A;omega
  omega
 split
 ·rename_i G A;simp only[θ,decide_eq_true_eq]at A;omega
 omega
theorem ahX {v:List UInt8}{p:Int×Int}(h:lV v=some p):-53<=p.1/\p.1<=53:=by
 unfold lV at h;split at h
 ·cases h
 split at h
 ·cases h;simp
 split at h
 ·cases h
 cases h;exact ad9 _ 53 (by decide)
theorem Mj {F:Nat->Option (List UInt8)}{r:aC}(h:oB F r):eu r:=by
 have G:=h.fq;have A:=Xt h.iv;have K:=h.ct;have h4:=h.un;have h9:=h.ws;unfold qj at G;unfold Bk at h9;obtain⟨k,I,e1⟩:=Option.map_eq_some_iff.1 G;obtain⟨k9,xk,e9⟩:=Option.map_eq_some_iff.1 h9;have l1:=Bc I;have l9:=Bc xk;have n1:jd.length=4:=rfl;have n9:jO.length=7:=rfl;have c3:0<=r.ct/\r.ct<=1000:=by
  unfold wO at K;split at K
  ·injection K with K;omega
  have:=Xt K;omega
 have c4:0<=r.un/\r.un<=9223372036854775807:=by
  unfold wP at h4;split at h4
  ·injection h4 with h4;omega
  have:=xx h4;omega
 exact⟨by omega,by omega,A.1,A.2,c3.1,c3.2,c4.1,c4.2,by have:=tV h.ms;omega,by have:=tV h.mds;omega,by have:=tV h.wks;omega,by have:=tV h.pls;omega,Io (λv z hz=>ahX hz) h.wks,by omega,by omega⟩
theorem Re {f:Option (List UInt8)}{zs:List Int}(h:tw f=some zs):∀z∈zs,0<=z/\z<=7258118400:=by
 unfold tw at h;obtain⟨ys,hy,rfl⟩:=Option.map_eq_some_iff.1 h;intro z hz;have G:=Io (p:=λz=>0<=z/\z<=7258118399) (λv z hz=>xx hz) hy;have A:z∈ys:=((KZ ys).2 z).1 hz;have:=G z A;omega
def KS (d:pf)(E:ϙ)(Y:κ):Prop:=
 ((0<=d.st/\d.st<=7258118399)/\(1<=d.ln/\d.ln<=2678400)/\(∀t∈d.ex,0<=t/\t<=7258118400)/\(∀t∈d.xt,0<=t/\t<=7258118400)/\d.ex.length<=20/\d.xt.length<=20)/\∃aI aH,dd Y aI d.ex/\dd Y aH d.xt/\((d.rl=none/\E=δ (zI (bU (val d.f 0)) d.st d.ln false bu aI aH (gK d.f) (kindOf d.f-1)))\/
  ∃(F:Nat->Option (List UInt8)) (r:aC) (m md wk pl:Value),d.rl=some F/\oB F r/\cr Y m r.ms/\cr Y md r.mds/\gE Y wk r.wks/\cr Y pl r.pls/\E=δ (zI (bU (val d.f 0)) d.st d.ln true (bX r.fq r.iv r.ct r.un m md wk pl r.ws (gD F)) aI aH (gK d.f) (kindOf d.f-1)))
theorem yD {s:List UInt8}{w Y:κ}{E:ϙ}(h:Ng s w E Y):((∃x,iz s=.error x/\E=.panicked (bF x))\/∃d,iz s=.ok d/\KS d E Y)/\Below w.heap.size w Y:=by
 have h':=Ka h;refine⟨?_,h'.2⟩;rcases h'.1 with X|⟨d,hd,_⟩
 ·exact .inl X
 obtain⟨h,U⟩:=h;rcases h with⟨F,tr,k,st,ln,ex,xt,hH,hT,hE⟩|⟨hn,rfl⟩|⟨⟨F,tr,k,hH,hn⟩,rfl⟩|⟨⟨F,tr,k,st,ln,ex,xt,v,hH,hT,hv,hn⟩,rfl⟩
 ·obtain⟨f,hf,rfl,rfl,rfl⟩:=(rn s F tr k).1 hH;obtain⟨G,A,K,h4⟩:=wm.1 hT;have hr:=B6 hf G A K h4;have mW:(0<=st/\st<=7258118399)/\(1<=ln/\ln<=2678400)/\(∀t∈ex,0<=t/\t<=7258118400)/\(∀t∈xt,0<=t/\t<=7258118400)/\ex.length<=20/\xt.length<=20:=⟨xx G,Mi A,Re hT.hex,Re hT.mw,B7 K,B7 h4⟩;obtain⟨aI,aH,i1,i2,hE⟩:=hE;right;rcases hE with⟨h0,rfl⟩|⟨v,F',r,m,md,wk,pl,hv,hR,q1,q2,q3,q4,rfl⟩
  ·have e4:f 4=none:=h0;rw[e4]at hr;exact⟨⟨f,st,ln,ex,xt,none⟩,hr,mW,aI,aH,i1,i2,.inl ⟨rfl,rfl⟩⟩
  have e4:f 4=some v:=hv;have e5:J5 (f 4)=some (some F'):=by rw[e4];show(rK v).map some=_;rw[(zf v F').2 ⟨r,hR⟩];rfl
  rw[e5]at hr;exact⟨⟨f,st,ln,ex,xt,some F'⟩,hr,mW,aI,aH,i1,i2,.inr ⟨F',r,m,md,wk,pl,rfl,hR.2.2.1,q1,q2,q3,q4,rfl⟩⟩
 ·left;obtain⟨x,bz,bL⟩|⟨d',G,aI,aH,_,_,A⟩:=h'.1
  ·exact⟨x,bz,bL⟩
  rcases A with⟨_,e⟩|⟨_,_,_,_,_,_,_,_,_,_,_,e⟩<;>cases e
 ·left;obtain⟨x,bz,bL⟩|⟨d',G,aI,aH,_,_,A⟩:=h'.1
  ·exact⟨x,bz,bL⟩
  rcases A with⟨_,e⟩|⟨_,_,_,_,_,_,_,_,_,_,_,e⟩<;>cases e
 left;obtain⟨x,bz,bL⟩|⟨d',G,aI,aH,_,_,A⟩:=h'.1
 ·exact⟨x,bz,bL⟩
 rcases A with⟨_,e⟩|⟨_,_,_,_,_,_,_,_,_,_,_,e⟩<;>cases e
def jq (d:pf):Bool:=d.rl.isSome
def jr (d:pf):aC:=match d.rl with|none=>ic|some F=>N1 F
end
open Go.Sort
attribute [local go_sem] Oper.semAt_some
attribute [local go_sem] bG aV
attribute [local simp] bG aV
theorem AQ (n:Int)(w:κ)(ht:jg w):
 Υ prog 97 #[V Z n] w λe Y=>e=δ (.bool (cq n))/\Below w.heap.size w Y:=by
 have hP:=H (jQ n w ht);unfold kG at hP;clear ht;cases hB:cq n
 ·rw[hB]at hP;simp only[ϋ,if_false]at hP;go_enter func97,ntmps97;go_wp2_with (go_at_call 18;refine(hP.out).mono ?_;rintro e w1 ⟨rfl,U⟩);go_ret;exact⟨rfl,U⟩
 rw[hB]at hP;simp only[if_true]at hP;go_enter func97,ntmps97;go_wp2_with (go_at_call 18;refine(hP.out).mono ?_;rintro e w1 ⟨rfl,U⟩);go_ret;exact⟨rfl,U⟩
def pZ (f t:Int):Bool:=cq f&&cq t&&decide (f<t)
theorem AX (f t:Int)(w:κ)(ht:jg w):
 Υ prog 89 #[V Z f,V Z t] w λe Y=>e=(if pZ f t then δ (.tuple #[])else .panicked (bF 7))/\Below w.heap.size w Y:=by
 have G:=H (AQ f w ht);have A:Hid (∀W,Below w.heap.size w W->Υ prog 97 #[V Z t] W λe Y=>e=δ (.bool (cq t))/\Below W.heap.size W Y):=H λW U=>AQ t W (ht.on U);have hu1:=H (fD 7);have hu0:=H (gY 7);have hW:pZ f t=(cq f&&cq t&&decide (f<t)):=rfl;generalize pZ f t=B at *
 generalize cq f=B1 at *
 generalize cq t=B2 at *
 clear ht;cases B1
 ·simp only[Bool.false_and]at hW;subst hW;go_enter func89,ntmps89;go_wp2_with fail;refine(G.out).mono ?_;rintro e w1 ⟨rfl,au⟩;go_wp2_with fail;refine(hu0.out _).mono ?_;rintro e w2 ⟨rfl,rfl⟩;exact⟨rfl,rfl,au⟩
 cases B2
 ·simp only[Bool.and_false,Bool.false_and]at hW;subst hW;go_enter func89,ntmps89;go_wp2_with fail;refine(G.out).mono ?_;rintro e w1 ⟨rfl,au⟩;go_wp2_with fail;refine(A.out _ au).mono ?_;rintro e w2 ⟨rfl,aO⟩;go_wp2_with fail;refine(hu0.out _).mono ?_;rintro e w3 ⟨rfl,rfl⟩;exact⟨rfl,rfl,au.trans (aO.mono au.size)⟩
 by_cases xr:f<t
 ·simp only[Bool.true_and,xr,decide_true]at hW;subst hW;go_enter func89,ntmps89;go_wp2_with fail;refine(G.out).mono ?_;rintro e w1 ⟨rfl,au⟩;go_wp2_with fail;refine(A.out _ au).mono ?_;rintro e w2 ⟨rfl,aO⟩;go_wp2_with fail;refine(hu1.out _).mono ?_;rintro e w3 ⟨rfl,rfl⟩;go_wp2_with fail;go_end0;exact⟨rfl,au.trans (aO.mono au.size)⟩
 simp only[Bool.true_and,xr,decide_false]at hW;subst hW;have arC:t<=f:=by omega
 go_enter func89,ntmps89;go_wp2_with fail;refine(G.out).mono ?_;rintro e w1 ⟨rfl,au⟩;go_wp2_with fail;refine(A.out _ au).mono ?_;rintro e w2 ⟨rfl,aO⟩;go_wp2_with fail;rw[decide_eq_false (show¬f<t by omega)];refine(hu0.out _).mono ?_;rintro e w3 ⟨rfl,rfl⟩;exact⟨rfl,rfl,au.trans (aO.mono au.size)⟩
def pt (d:pf)(to:Int):List Int:=ff (jq d) (jr d) d.st 0 to d.ex d.xt
def oS (d:pf)(from_:Int)(l:List Int):List (Int×Int):=(l.map λb=>(b,b+d.ln)).filter λp=>decide (from_<p.2)
def wK (s:List UInt8)(from_ to:Int):Except Int (List (Int×Int)):=match iz s with
 | .error x=>.error x
 | .ok d=>if pZ from_ to then(if(pt d to).length<=3000 then .ok (oS d from_ (pt d to))else .error 5)else .error 7
def mF (l:List (Int×Int)):List Value:=(l.map λp=>[Value.int Z p.1,V Z p.2]).flatten
theorem N2:∀(ts ls:List Int) (x:Int),x∈jn ts ls->x∈ts\/x∈ls
 |[],ls,x,h=>.inr (by rw[jn]at h;exact h)
 |t::ts,ls,x,h=>by
  rw[jn]at h;rcases List.mem_append.1 h with h|h
  ·exact .inr ((List.takeWhile_sublist _).subset h)
  rcases List.mem_cons.1 h with rfl|h
  ·exact .inl (by simp)
  rcases N2 ts _ x h with h|h
  ·exact .inl (Α _ h)
  right;have hd:∀l:List Int,∀y∈gJ t l,y∈l:=λl y hy=>by
   cases l with
   |nil=>simp[gJ]at hy
   |cons a r=>
    rw[gJ]at hy;split at hy
    ·exact Α _ hy
    exact hy
  exact(List.dropWhile_sublist _).subset (hd _ _ h)
theorem ahZ (hr:Bool)(r:aC)(ho:hr=true->eu r)(st f to:Int)(ex xt:List Int)(s0:0<=st)(s1:st<=7258118400)(f1:f<=7258118400)(t1:to<=7258118400)(X:∀t∈xt,0<=t/\t<=7258118400):∀t∈ff hr r st f to ex xt,-100000000000<=t/\t<=100000000000:=by
 intro t ht;unfold ff at ht;rcases N2 _ _ _ ht with h|h
 ·unfold tp vK at h;obtain⟨h,_⟩:=List.mem_filter.1 h;obtain⟨d,hd,rfl⟩:=List.mem_map.1 h;have:=Xb hr r ho st f to s0 s1 f1 t1 d hd;omega
 unfold ix at h;obtain⟨h,_⟩:=List.mem_filter.1 h;have:=X t h;omega
theorem aea {d:pf}{E:ϙ}{w:κ}(h:KS d E w):∃(u:ByteArray) (m md wk pl:Value) (tx:ByteArray) (aI aH:Value),E=δ (.agg (cF u d.st d.ln (jq d) (jr d) m md wk pl tx aI aH (gK d.f) (kindOf d.f-1)).toArray)/\kt w (jq d) (jr d) m md wk pl aI aH d.ex d.xt/\0<=d.st/\d.st<=7258118400/\0<=d.ln/\d.ln<=10000000:=by
 obtain⟨⟨hs,N,hex,mw,l1,l2⟩,aI,aH,i1,i2,h⟩:=h;rcases h with⟨xp,rfl⟩|⟨F,r,m,md,wk,pl,xp,hP,j1,j2,j3,j4,rfl⟩
 ·have e1:jq d=false:=by unfold jq;rw[xp];rfl
  have e2:jr d=ic:=by unfold jr;rw[xp]
  rw[e1,e2];refine⟨_,ζ none 0 0,ζ none 0 0,ζ none 0 0,ζ none 0 0,⟨#[]⟩,aI,aH,rfl,⟨⟨.inl ⟨rfl,rfl⟩,.inl ⟨rfl,rfl⟩,.inl ⟨rfl,rfl⟩,.inl ⟨rfl,rfl⟩⟩,λh=>(by cases h),i1,i2,by omega,by omega,hex,mw⟩,by omega,by omega,by omega,by omega⟩
 have e1:jq d=true:=by unfold jq;rw[xp];rfl
 have e2:jr d=r:=by unfold jr;rw[xp];exact Jl hP
 rw[e1,e2];exact⟨_,m,md,wk,pl,gD F,aI,aH,rfl,⟨⟨j1,j2,j3,j4⟩,λ_=>Mj hP,i1,i2,by omega,by omega,hex,mw⟩,by omega,by omega,by omega,by omega⟩
end Go.Proofs.YthpndgcaoeokeaaGreatDoor
