import Derived.Test.YtchdfdmjihnhkaaGreatDoorUq6
import Derived.Lib.Builder
import Derived.Lib.AppendStr
import Derived.Lib.UnsafeStr
import Derived.Laws.Externs
set_option maxRecDepth 100000
set_option maxHeartbeats 8000000
open Go.IntKind renaming i64->Z
open Go.Value renaming int->V,pointer->ε,slice->ζ
open Go.Ending renaming returned->δ
open Go.Obj renaming cells->η
open Go.RowKit.Below renaming refl->θ
open Go renaming World->ι,Operand->Α,Calls->Λ,Oper->Μ,Act->Ψ,Ending->ϗ
open Nat renaming lt_of_lt_of_le->κ,le_refl->μ,reduceAdd->Η,reduceSub->Ν,le_trans->Ξ,zero_add->Τ,zero_le->Χ
open List renaming getElem?_eq_getElem->ν,length_append->ξ,length_cons->π,size_toArray->τ,not_mem_nil->υ,append_toArray->ω,range->Β,push_toArray->Δ,getElem?_map->Ε,mem_cons->Ζ,cons_append->Θ,nil_append->Ι,length_nil->Κ,drop_length->Ο,getD_eq_getElem?_getD->Ρ,mem_of_getElem?->Υ,mem_cons_of_mem->Φ,take_length->Ω,filter_cons->ϊ,map_cons->ϋ,toArray->ώ
open Go.Instr renaming loadAt->ο,lookup->ό
open Go.Lib renaming byteCells->ρ
open Bool renaming and_eq_true->φ,false_or->ύ
open Array renaming replicate_zero->χ,replicate_succ->ψ
open Option.some renaming inj->Γ,injEq->Ϗ
namespace Go.Proofs.YtchdfdmjihnhkaaGreatDoor
open Tryz
open Go.RowKit
section
open Go.Sort
attribute [local go_sem] Oper.semAt_some
attribute [local go_sem] bK aU
attribute [local simp] bK aU
theorem Jj (a:Ψ)(h:a.tmps.size=29)(hd:a.defers=[]):∃f:Nat->Value,a=⟨ώ (f 0::f 1::f 2::f 3::f 4::f 5::f 6::f 7::f 8::f 9::f 10::f 11::f 12::f 13::f 14::f 15::f 16::f 17::f 18::f 19::f 20::f 21::f 22::f 23::f 24::f 25::f 26::f 27::f 28::[]),[]⟩/\∀k,a.eval (.tmp k)=f k:=gK 29 a h hd
def qC (l:List Int):List (Array Value):=l.map λn=>#[V Z n]
theorem qD (l:List Int):(qC l).length=l.length:=by unfold qC;simp
theorem yz {l:List Int}{i:Nat}{n:Int}(h:l[i]?=some n):(qC l)[i]?=some #[V Z n]:=by unfold qC;rw[Ε,h];rfl
def vn (st:Int)(ex:List Int)(l:List Int):List Int:=(l.map λd=>d*86400+st%86400).filter λt=>!ex.contains t
def sO (hr:Bool)(r:aE)(st f to:Int)(ex:List Int):List Int:=vn st ex (uv hr r st f to)
theorem Yq (st:Int)(ex:List Int)(d:Int)(l:List Int):vn st ex (d::l)=(if ex.contains (d*86400+st%86400)then[]else[d*86400+st%86400])++vn st ex l:=by
 unfold vn;rw[ϋ,ϊ];cases h:ex.contains (d*86400+st%86400)<;>simp
theorem Du (s f last ct:Int):∀(c:Int) (l:List Int) (d:Int),d∈iV s f last ct c l->d∈l
 |_,[],d,h=>by simp[iV]at h
 |c,x::l,d,h=>by
  rw[iV]at h;split at h
  ·exact Φ _ (Du s f last ct c l d h)
  split at h
  ·simp at h
  rcases List.mem_append.1 h with h|h
  ·split at h
   ·simp at h;subst h;simp
   simp at h
  split at h
  ·simp at h
  exact Φ _ (Du s f last ct (c+1) l d h)
theorem Vy (hr:Bool)(r:aE)(ho:hr=true->ei r)(st f to:Int)(s0:0<=st)(s1:st<=7258118400)(f1:f<=7258118400)(t1:to<=7258118400):∀d∈uv hr r st f to,-400<=d/\d<=300000:=by
 intro d hd;unfold uv at hd;split at hd
 ·rename_i jv;exact(Fw _ (Jc (ho jv) _) st f _ s0 s1 f1 (by unfold iK;omega)).2 d (Du _ _ _ _ _ _ _ hd)
 split at hd
 ·simp at hd;omega
 simp at hd
theorem ab4 {st d:Int}{ex ds:List Int}(h:∀d,d∈ds↔∃t∈ex,t%86400=st%86400/\t/86400=d):(ds.count d=0↔ex.contains (d*86400+st%86400)=false):=by
 rw[List.count_eq_zero,h d];rw[<-Bool.not_eq_true,List.contains_iff_mem];constructor
 ·intro hn hm;exact hn ⟨_,hm,by omega,by omega⟩
 rintro hn ⟨t,ht,G,A⟩;exact hn (by rw[show d*86400+st%86400=t from by omega];exact ht)
def DK (O:ak)(W0:ι)(aqx:Nat->aQ)(E:Nat->Nat->Prop)(i:Nat):aQ:=λD W=>∃(q:Nat) (D0:ak),lH O W0 (aqx q) D0 D W/\E q i
theorem DK.cQ {O:ak}{W0:ι}{aqx:Nat->aQ}{E:Nat->Nat->Prop}{i:Nat}{D:ak}{W:ι}(hD:∀k,D k->k<W.heap.size)(h:DK O W0 aqx E i D W):On D (DK O W0 aqx E i) W:=by
 obtain⟨q,D0,G,A⟩:=h;exact⟨hD,λW2 Y=>⟨q,D0,G.keep Y,A⟩⟩
def qE (be b4 b5 b6:Nat):List (Nat×Value):=[(1,ε (some ⟨be,0,none⟩)),(4,ε (some ⟨b4,0,none⟩)),(5,ε (some ⟨b5,0,none⟩)),(6,ε (some ⟨b6,0,none⟩))]
def NB (l be bm:Nat)(d st:Int)(j:Nat)(v:Value):Prop:=match j with
 |0=>v=.map (some bm)
 |1=>v=aZ d
 |2=>v=V Z 0
 |3=>v=.bool true
 |4=>v=.bool true
 |5=>v=.func (.yield l) #[] #[]
 |6=>v=aZ d
 |7=>v=V Z (d*86400)
 |8=>v=ε (some ⟨be,1,none⟩)
 |9=>v=V Z st
 |10=>v=V Z (st%86400)
 |_=>v=V Z (d*86400+st%86400)
def BB (b:Bool)(_:Nat)(v:Value):Prop:=v=.bool (!b)
end
section
theorem PU:(prog.info? 173).map (·.size)=some 2:=by kernel_rfl
theorem ab5:liesAt prog prog.depth 173 (2/prog.cellsOf 173) 0 173 1=true:=by kernel_rfl
theorem Vz:(prog.info? 5).map (λi=>(i.zero,i.size,i.bytes))=some (some (.int .u8 0),1,1):=by kernel_rfl
theorem G8 (b:Nat)(w:ι)(h0:w.cell? ⟨b,0,none⟩=some (ε (some ⟨b,0,none⟩))):
 Λ prog 164 #[ε (some ⟨b,0,none⟩)] w λe I=>e=δ (.tuple #[])/\I=w:=by
 obtain⟨j,hj,_⟩:=Option.map_eq_some_iff.1 PU;go_enter func164,ntmps164;go_wp2;rw[Lib.run_neq_ptr_same w _ underlying171 hj];go_wp2;go_end0;exact⟨rfl,rfl⟩
theorem FB (b:Nat)(w:ι)(h0:w.cell? ⟨b,0,none⟩=some (ε none))(oZ:w.shape? b=some (173,2))(pP:w.frozen? ⟨b,0,none⟩=false):
 Λ prog 164 #[ε (some ⟨b,0,none⟩)] w λe I=>e=δ (.tuple #[])/\I=w.setCell ⟨b,0,none⟩ (ε (some ⟨b,0,none⟩)):=by
 obtain⟨j,hj,Ux⟩:=Option.map_eq_some_iff.1 PU;go_enter func164,ntmps164;go_wp2;rw[Lib.run_to_unsafe w ⟨b,0,none⟩ underlying171 underlying240 hj (by rw[Ux];decide) oZ (Nat.zero_lt_succ 1)];simp only[Result.andThen];rw[Oper.upon_value];go_wp2;rw[run_callFunc_extern func193 (by kernel_rfl) (by kernel_rfl) (by kernel_rfl) (e:=Extern.AbiNoEscape.same) (by kernel_rfl)];rw[Lib.run_noEscape];simp only[Result.andThen];rw[Oper.upon_value];go_wp2;rw[Lib.run_from_unsafe w ⟨b,0,none⟩ underlying240 underlying171 hj oZ ab5];simp only[Result.andThen];rw[Oper.upon_value];go_wp2;go_end0;exact⟨rfl,rfl⟩
theorem JT (B b:Nat)(bs:List Value)(w:ι)(h:Lib.IsBuilder 173 5 B b bs w):
 Λ prog 164 #[ε (some ⟨b,0,none⟩)] w λe I=>e=δ (.tuple #[])/\(Lib.BuilderAt 173 5 B b (ε (some ⟨b,0,none⟩)) bs I/\Below B w I):=by
 rcases h with h|h
 ·exact(FB b w h.cell0 h.shape h.frozen0).mono λe I ⟨G,A⟩=>by
   subst A;exact⟨G,h.used _,(θ B w).setCell (p:=⟨b,0,none⟩) h.1 _⟩
 exact(G8 b w h.cell0).mono λe I ⟨G,A⟩=>by
  subst A;exact⟨G,h,θ B _⟩
theorem vH (B b:Nat)(bs:List Value)(s:ByteArray)(w:ι)(h:Lib.IsBuilder 173 5 B b bs w)(hlen:bs.length+s.size<=140737488355328)(hBw:B<=w.heap.size):
 Λ prog 115 #[ε (some ⟨b,0,none⟩),.string s] w λe I=>e=δ (.tuple #[V Z s.size,.nilIface])/\(Lib.BuilderAt 173 5 B b (ε (some ⟨b,0,none⟩)) (bs++Lib.strCells s) I/\Below B w I):=by
 obtain⟨i0,hi,iY,wD,gX⟩:=info_parts Vz;go_enter func115,ntmps115;go_wp2_with (go_at_call 164;refine(JT B b bs _ h).mono ?_);rintro e w1 ⟨rfl,G,ay⟩;obtain⟨hB,v,tV,aX,dp⟩:=G;have c0:w1.cell? ⟨b,0,none⟩=some (ε (some ⟨b,0,none⟩)):=by rw[Lib.cell_of_heap tV];rfl
 have c1:w1.cell? ⟨b,1,none⟩=some v:=by rw[Lib.cell_of_heap tV];rfl
 go_wp2_with (at_builtin;refine Lib.wpList_append_own_string _ rfl _ _ 71 9 rfl B 5 i0 underlying71 underlying9 hi iY wD gX _ _ _ rfl aX s rfl ?c3 ?c4 ?c5 ?_)
 case c3=>unfold maxLen;omega
 case c4=>omega
 case c5=>have:=ay.size;omega
 intro v' w2 gU th _;have aR:b<w1.heap.size:=by
  rcases Nat.lt_or_ge b w1.heap.size with h'|h'
  ·exact h'
  simp[Array.getElem?_eq_none h']at tV
 have aN:w2.heap[b]?=some (η #[ε (some ⟨b,0,none⟩),v] 173 (0,0)):=by
  rw[th.block b aR (λe=>dp e.symm)];exact tV
 have d0:w2.cell? ⟨b,0,none⟩=some (ε (some ⟨b,0,none⟩)):=by rw[Lib.cell_of_heap aN];rfl
 have d1:w2.cell? ⟨b,1,none⟩=some v:=by rw[Lib.cell_of_heap aN];rfl
 have f1:w2.frozen? ⟨b,1,none⟩=false:=Lib.frozen_of_heap aN 1;obtain⟨ao,n',cap,rfl⟩:∃ao n' cap,v'=ζ ao n' cap:=by
  rcases gU.2 with⟨hv,_⟩|⟨g,cap,cur,hv,_⟩
  ·exact⟨_,_,_,hv⟩
  exact⟨_,_,_,hv⟩
 go_wp2;go_ret2;refine⟨rfl,?_,?_⟩
 ·exact Lib.BuilderAt.put (T:=173) (e:=5) hB aN (bs':=bs++Lib.strCells s) (by simpa[Lib.strCells_length]using gU) (by decide)
 exact(ay.grown th (by have:=ay.size;omega) (λk Y=>(aX.lt k Y).1)).setCell (p:=⟨b,1,none⟩) hB _
open Go.Sort
def kE (ls:List (List UInt8)):List UInt8:=ls.flatMap (·++[13,10])
theorem Yr (ls:List (List UInt8))(l:List UInt8):kE (ls++[l])=kE ls++l++[13,10]:=by simp[kE]
theorem Ys (ls:List (List UInt8))(k:Nat):(kE (ls.take k)).length<=(kE ls).length:=by
 have:kE ls=kE (ls.take k)++kE (ls.drop k):=by
  conv=>lhs;rw[<-List.take_append_drop k ls]
  unfold kE;rw[List.flatMap_append]
 rw[this,ξ];exact Nat.le_add_right _ _
theorem Dv (a l:List UInt8):ρ a++Lib.strCells ⟨l.toArray⟩=ρ (a++l):=by
 unfold ρ Lib.strCells;rw[List.map_append]
theorem N2 (w:ι):Lib.IsBuilder 173 5 w.heap.size w.heap.size (ρ []) (w.alloc (η #[ε none,ζ none 0 0] 173)):=by
 refine .inl ⟨μ _,ζ none 0 0,X.new w [ε none,ζ none 0 0] 173,World.ownsRow_nil _ _ _ _,by simp[Value.ownBlock]⟩
theorem JD (g cap:Nat)(ls:List (List UInt8))(w:ι)(hg:g<w.heap.size)(hn:jG w g 0 ls)(K:ls.length<=1000000000)(hs:(kE ls).length<=140737488355328):
 Λ prog 104 #[ζ (some ⟨g,0,none⟩) ls.length cap] w λE I=>E=δ (.string ⟨(kE ls).toArray⟩)/\Below w.heap.size w I:=by
 have bj:Below w.heap.size w (w.alloc (η #[ε none,ζ none 0 0] 173)):=(θ _ _).alloc (μ _) _;have HB:=H (N2 w);go_enter func104,ntmps104;go_wp2;generalize w.alloc (η #[ε none,ζ none 0 0] 173)=W at *
 go_loopw [8] (λi wr=>∃k:Nat,k<=ls.length/\i=V Z k/\Hid (Lib.IsBuilder 173 5 w.heap.size w.heap.size (ρ (kE (ls.take k))) wr)/\Hid (Below w.heap.size w wr)) (λi _=>ls.length-(intOf i).toNat)
 case atStart=>exact⟨0,Χ _,rfl,H (by rw[List.take_zero];exact HB.out),H bj⟩
 case round=>
  obtain⟨k,Y,rfl,HI,HX⟩:=hrel;have hB:=HX.out.size;by_cases aR:k<ls.length
  case neg=>
   have ie:k=ls.length:=by omega
   subst ie;have CS:=H (Tryz.Builder_String_any w.heap.size w.heap.size (kE ls) wr (by have:=HI.out;rw[Ω]at this;exact this) hB);go_wp2_with (go_at_call 117;refine(CS.out).mono ?_;rintro e w2 ⟨rfl,aN⟩);go_ret;exact⟨rfl,HX.out.trans aN⟩
  case pos=>
   obtain⟨l,hle⟩:∃l,l=ls[k]:=⟨_,rfl⟩;have iS:wr.cell? ⟨g,k,none⟩=some (.string ⟨l.toArray⟩):=by
    have G:=hn k aR;rw[Τ]at G;rw[HX.out.cell (p:=⟨g,k,none⟩) hg,G,hle,Ρ,ν aR];rfl
   have HTK:Hid (kE (ls.take (k+1))=kE (ls.take k)++l++[13,10]):=H (by rw[List.take_succ_eq_append_getElem aR,Yr,hle]);have ur:(kE (ls.take k)).length+l.length+2<=140737488355328:=by
    have M:=Ys ls (k+1);rw[HTK.out,ξ,ξ]at M;exact Ξ M hs
   have C1:=H (vH w.heap.size w.heap.size (ρ (kE (ls.take k))) ⟨l.toArray⟩ wr HI.out (by rw[Lib.byteCells_length];show _+l.toArray.size<=_;rw[τ];omega) hB);clear hle;go_upto_region 6 with(go_at_call 115;refine(C1.out).mono ?_;rintro e w2 ⟨rfl,hi2,aN⟩);have U0:=(HX.out.trans aN).size;have C2:=H (vH w.heap.size w.heap.size (ρ (kE (ls.take k))++Lib.strCells ⟨l.toArray⟩) ⟨#[13,10]⟩ w2 (.inr hi2) (by rw[Dv,Lib.byteCells_length,ξ];show _+2<=_;omega) U0);have HX2:=H (HX.out.trans aN);clear C1 hi2 aN HI HX;go_wp2_with (go_at_call 115;refine(C2.out).mono ?_;rintro e w3 ⟨rfl,hi3,aP⟩);rw[Dv,show(⟨#[13,10]⟩:ByteArray)=⟨[(13:UInt8),10].toArray⟩from rfl,Dv,<-HTK.out]at hi3;have HI3:=H hi3;have HX3:=H (HX2.out.trans aP);clear hi3 aP;go_wp2;go_roundw
   case rel=>exact⟨k+1,by omega,by go_num,H (.inr HI3.out),HX3⟩
   case measure=>simp[intOf];omega
theorem QR {w:ι}{g B:Nat}{xs:List Value}{e:TypeId}(h:X w g xs e)(hB:B<=g)(K:xs.length<=1000):w.ownsRow B e 1 (ζ (some ⟨g,0,none⟩) xs.length xs.length) xs.length xs:=
 ⟨by omega,.inr ⟨g,xs.length,xs.toArray,rfl,hB,h,μ _,by unfold maxLen;omega,by simp,by simp⟩⟩
def akP:ByteArray:=⟨#[66,69,71,73,78,58,86,69,86,69,78,84]⟩
def akQ:ByteArray:=⟨#[85,73,68,58]⟩
def akR:ByteArray:=⟨#[68,84,83,84,65,82,84,58]⟩
def akS:ByteArray:=⟨#[68,85,82,65,84,73,79,78,58,80,84]⟩
def kS:ByteArray:=⟨#[83]⟩
def GK (aqu T D:ByteArray):List Value:=[.string akP,.string (akQ++aqu),.string (akR++T),.string (akS++D++kS)]
theorem VA (b k off:Nat)(h:(k,off)=(0,0)\/(k,off)=(1,1)\/(k,off)=(2,2))(w:ι):(Instr.fieldAt 99 (ε (some ⟨b,0,none⟩)) k).run prog w=.ok (ε (some ⟨b,off,none⟩)) w:=by
 rcases h with h|h|h<;>cases h<;>go_simp
end
section
open Go.Sort
attribute [local go_sem] Oper.semAt_some
attribute [local go_sem] bK aU
attribute [local simp] bK aU
theorem fT:(prog.info? 99).map (·.size)=some 18:=by kernel_rfl
theorem KJ {F:Fence}{nF:Nat}{ops:Array Μ}{rest:List Μ}{o:Μ}{a:Ψ}{w:ι}{Q:Exit->Ψ->ι->Prop}{x:Α}{b:Nat}{u:ByteArray}{st ln:Int}{hr:Bool}{r:aE}{m md wk pl:Value}{tx:ByteArray}{aI aH:Value}{tr:Bool}{k:Int}(hg:o.guard=none)(ho:o.op=.load 99 x)(N:a.eval x=ε (some ⟨b,0,none⟩))
 (aC:X w b (cE u st ln hr r m md wk pl tx aI aH tr k) 99)(hF:∀f,F.fn f)(hK:wpListIn F nF prog ops Q rest (a.put o.dst (.agg (cE u st ln hr r m md wk pl tx aI aH tr k).toArray)) w):wpListIn F nF prog ops Q (o::rest) a w:=
 wpListIn_plain hg λaqy mv=>bz hF (by rw[ho];intro c hc;cases hc) (aV ho N (run_loadAt_mid w b 0 99 _ _ (gq aC) underlying99 rfl fT)) (mv _ _ hK)
def NC (bm:Nat)(d:Int)(c:Nat)(j:Nat)(v:Value):Prop:=match j with
 |0=>v=.map (some bm)
 |1=>v=aZ d
 |2=>v=V Z c
 |3=>v=.bool false
 |4=>v=.bool false
 |14=>v=.bool false
 |_=>v=undef
theorem MT {p:Addr}{l:Nat}{w:ι}(h:w.cell? p=some (.func (.yield l) #[] #[])):(ο 79 (ε (some p))).run prog w=.ok (.func (.yield l) #[] #[]) w:=by
 go_simp
theorem VB {p:Addr}{b:Nat}{w:ι}(h:w.cell? p=some (.map (some b))):(ο 194 (ε (some p))).run prog w=.ok (.map (some b)) w:=by
 go_simp
theorem VC {b:Nat}{d:Int}{w:ι}(h:X w b (oO d) 88):(ο 88 (ε (some ⟨b,0,none⟩))).run prog w=.ok (aZ d) w:=by
 unfold oO at h;unfold aZ cV;obtain⟨c0,c1,c2,_,_,_⟩:=bW h;go_simp
theorem VD {o:Μ}{a:Ψ}{w:ι}{x y:Α}{T:TypeId}{m k v:Value}(ho:o.op=.lookup T x y false)(N:a.eval x=m)(hy:a.eval y=k)(hr:(ό T m k false).run prog w=.ok v w):(execOp a.eval o).run prog w=.ok (.value v) w:=by
 obtain⟨_,_,_,_,_,_⟩:=o;simp only[]at ho;subst ho;unfold execOp;simp only[N,hy];exact bq hr
theorem PV {o:Μ}{a:Ψ}{w:ι}{x:Α}{z:Int}(ho:o.op=.binOp .eql 3 x (.const (V Z 0)) 3)(N:a.eval x=V Z z):(execOp a.eval o).run prog w=.ok (.value (.bool (z==0))) w:=by
 obtain⟨_,_,_,_,_,_⟩:=o;simp only[]at ho;subst ho;unfold execOp;have h0:a.eval (.const (V Z 0))=V Z 0:=rfl;simp only[N,h0];go_simp
theorem cJ {o:Μ}{a:Ψ}{w:ι}{x:Α}{v:Value}(ho:o.op=.move x)(N:a.eval x=v):(execOp a.eval o).run prog w=.ok (.value v) w:=by
 obtain⟨_,_,_,_,_,_⟩:=o;simp only[]at ho;subst ho;unfold execOp;simp only[N];rfl
theorem ab6 {o:Μ}{a:Ψ}{w:ι}{x y:Α}(ho:o.op=.pick x y (.const (.bool false)))(N:a.eval x=.bool false):(execOp a.eval o).run prog w=.ok (.value (.bool false)) w:=by
 obtain⟨_,_,_,_,_,_⟩:=o;simp only[]at ho;subst ho;unfold execOp;simp only[N];rfl
theorem ab7 {o:Μ}{a:Ψ}{w:ι}{x y:Α}{v:Value}(ho:o.op=.pick x y (.const (.bool false)))(N:a.eval x=.bool true)(hy:a.eval y=v):(execOp a.eval o).run prog w=.ok (.value v) w:=by
 obtain⟨_,_,_,_,_,_⟩:=o;simp only[]at ho;subst ho;unfold execOp;simp only[N,hy];rfl
theorem VE {o:Μ}{a:Ψ}{w:ι}{x y:Α}{T:TypeId}{l:Nat}{v:Value}{r:Next}(ho:o.op=.call {callee:=.value x,args:=#[y],argTypes:=#[T]})(N:a.eval x=.func (.yield l) #[] #[])(hy:a.eval y=v)(hr:(Instr.yield l #[v]).run prog w=.ok r w):(execOp a.eval o).run prog w=.ok r w:=by
 obtain⟨_,_,_,_,_,_⟩:=o;simp only[]at ho;subst ho;unfold execOp;simp only[resolve,List.map_toArray,ϋ,List.map_nil,N,hy];simp[go_sem,invoke,hr]
theorem PW {o:Μ}{a:Ψ}{w:ι}{x:Α}{b:Bool}(ho:o.op=.unOp .not 4 x)(N:a.eval x=.bool b):(execOp a.eval o).run prog w=.ok (.value (.bool (!b))) w:=by
 obtain⟨_,_,_,_,_,_⟩:=o;simp only[]at ho;subst ho;unfold execOp;simp only[N];go_simp
theorem ab8 {o:Μ}{a:Ψ}{w:ι}{x:Α}{z:Int}(ho:o.op=.binOp .rem 3 x (.const (V Z 86400)) 3)(N:a.eval x=V Z z)(h0:0<=z):(execOp a.eval o).run prog w=.ok (.value (V Z (z%86400))) w:=by
 obtain⟨_,_,_,_,_,_⟩:=o;simp only[]at ho;subst ho;unfold execOp;have hc:a.eval (.const (V Z 86400))=V Z 86400:=rfl;have hm:z.tmod 86400=z%86400:=Int.tmod_eq_emod_of_nonneg h0;simp only[N,hc];go_simp
theorem ab9 {o:Μ}{a:Ψ}{w:ι}{x y:Α}{z t:Int}(ho:o.op=.binOp .add 3 x y 3)(N:a.eval x=V Z z)(hy:a.eval y=V Z t)(h0:-9223372036854775808<=z+t)(G:z+t<=9223372036854775807):(execOp a.eval o).run prog w=.ok (.value (V Z (z+t))) w:=by
 obtain⟨_,_,_,_,_,_⟩:=o;simp only[]at ho;subst ho;unfold execOp;have hw:=gI h0 G;simp only[N,hy];go_simp
structure jX (w:ι)(hr:Bool)(r:aE)(m md wk pl aI aH:Value)(ex xt:List Int):Prop where
 cT:eE w r m md wk pl
 ok:hr=true->ei r
 hex:dc w aI ex
 lT:dc w aH xt
 exl:ex.length<=1000
 xtl:xt.length<=1000
 exb:∀t∈ex,0<=t/\t<=7258118400
 xtb:∀t∈xt,0<=t/\t<=7258118400
def kP (m md wk pl aI aH:Value):ak:=λk=>LB m md wk pl k\/aI.ownBlock=some k\/aH.ownBlock=some k
theorem jX.keep {w I:ι}{hr:Bool}{r:aE}{m md wk pl aI aH:Value}{ex xt:List Int}(h:jX w hr r m md wk pl aI aH ex xt)(Y:∀k,kP m md wk pl aI aH k->I.heap[k]?=w.heap[k]?):jX I hr r m md wk pl aI aH ex xt:=
 ⟨h.cT.keep λk e=>Y k (.inl e),h.ok,h.hex.keep λk e=>Y k (.inr (.inl e)),h.lT.keep λk e=>Y k (.inr (.inr e)),h.exl,h.xtl,h.exb,h.xtb⟩
theorem jX.fO {w:ι}{hr:Bool}{r:aE}{m md wk pl aI aH:Value}{ex xt:List Int}(h:jX w hr r m md wk pl aI aH ex xt){k:Nat}(e:kP m md wk pl aI aH k):k<w.heap.size:=by
 rcases e with e|e|e
 ·exact h.cT.fO e
 ·exact h.hex.fO e
 exact h.lT.fO e
theorem jX.on {w I:ι}{hr:Bool}{r:aE}{m md wk pl aI aH:Value}{ex xt:List Int}(h:jX w hr r m md wk pl aI aH ex xt)(U:Below w.heap.size w I):jX I hr r m md wk pl aI aH ex xt:=h.keep λk e=>U.block k (h.fO e)
theorem agK (u:ByteArray)(st ln:Int)(hr:Bool)(r:aE)(m md wk pl:Value)(tx:ByteArray)(aI aH:Value)(ex xt:List Int)(tr:Bool)(k:Int)(f to:Int)(be bf bt:Nat)(w:ι)(K:jX w hr r m md wk pl aI aH ex xt)
 (s0:0<=st)(s1:st<=7258118400)(f0:-1000000000000<=f)(f1:f<=7258118400)(t0:0<=to)(t1:to<=7258118400)
 (q1:X w be (cE u st ln hr r m md wk pl tx aI aH tr k) 99)(q2:X w bf [V Z f] 3)(q3:X w bt [V Z to] 3):
 kO prog 143 #[ε (some ⟨be,0,none⟩),ε (some ⟨bf,0,none⟩),ε (some ⟨bt,0,none⟩)] (qC (sO hr r st f to ex)) (λk=>k=be\/k=bf\/k=bt\/kP m md wk pl aI aH k) w:=by
 intro l W O aqx Js Jp bA hR hO cM hY;have eG:=K.keep λk Y=>hR k (.inr (.inr (.inr Y)));replace q1:=q1.keep (hR be (.inl rfl));replace q2:=q2.keep (hR bf (.inr (.inl rfl)));replace q3:=q3.keep (hR bt (.inr (.inr (.inl rfl))));have Jg:¬O be:=λh=>hO be h (.inl rfl);have Is:∀k,O k->¬kP m md wk pl aI aH k:=λk h h'=>hO k h (.inr (.inr (.inr h')));have Cs:=q1.lt;obtain⟨a1,S⟩:=eG.cT.ms.form;obtain⟨a2,e2⟩:=eG.cT.mds.form;obtain⟨a3,e3⟩:=eG.cT.wks.form;obtain⟨a4,e4⟩:=eG.cT.pls.form;obtain⟨a5,c5,e5⟩:=eG.hex.sl;obtain⟨a6,c6,e6⟩:=eG.lT.sl;have E3:prog.follows .mixedOrders=true:=by kernel_rfl
 have eh:Hid (∀wr,Below W.heap.size W wr->Λ prog 144 #[.agg (cE u st ln hr r m md wk pl tx aI aH tr k).toArray] wr λe I=>∃b n ds,e=δ (.map (some b))/\wr.heap.size<=b/\lQ I b n ds/\(∀d,d∈ds↔∃t∈ex,t%86400=st%86400/\t/86400=d)/\Below wr.heap.size wr I):=
  H λwr U=>Vu u st ln hr r m md wk pl tx aI aH ex tr k wr ⟨_,_,_,S⟩ ⟨_,_,_,e2⟩ ⟨_,_,_,e3⟩ ⟨_,_,_,e4⟩ ⟨_,_,_,e6⟩ (eG.on U).hex eG.exl eG.exb s0
 have hRD:Hid (∀wr,Below W.heap.size W wr->Λ prog 145 #[.agg (cE u st ln hr r m md wk pl tx aI aH tr k).toArray,V Z f,V Z to] wr (dR (uN (uv hr r st f to)) (LB m md wk pl) wr)):=
  H λwr U=>RS u st ln hr r m md wk pl tx aI aH tr k f to wr (eG.on U).cT eG.ok ⟨_,_,_,e5⟩ ⟨_,_,_,e6⟩ s0 s1 f0 f1 t0 t1
 have nM:=H (Vy hr r eG.ok st f to s0 s1 f1 t1);have agL:∀k,LB m md wk pl k->k<W.heap.size/\¬O k:=λk h=>⟨eG.fO (.inl h),λh'=>Is k h' (.inl h)⟩;have PS:Hid (sO hr r st f to ex=vn st ex (uv hr r st f to)):=H rfl;clear hR hO K bA eG Is;clear S e2 e3 e4 e5 e6;have tP:=H (λ(i:Nat) (t:Int) (h:(sO hr r st f to ex)[i]?=some t)=>hY i _ (yz h));clear hY;rw[qD];generalize sO hr r st f to ex=YS at *
 generalize uv hr r st f to=XS at *
 refine di func143 rfl ?_;simp only[ntmps143,τ,π,Κ,Η,Ν,ψ,χ,Δ,ω,Ι,Θ];refine bO λaqy hK=>bQ ?_;gi_wp2_with fail;have r4:X (W.alloc (η #[.func (.yield l) #[] #[]] 79)) W.heap.size [.func (.yield l) #[] #[]] 79:=X.new W [.func (.yield l) #[] #[]] 79;have al:Below W.heap.size W (W.alloc (η #[.func (.yield l) #[] #[]] 79)):=(θ _ _).alloc (μ _) _;have zA:W.heap.size<(W.alloc (η #[.func (.yield l) #[] #[]] 79)).heap.size:=by simp
 generalize W.alloc (η #[.func (.yield l) #[] #[]] 79)=W1 at *
 refine bO λaqy hK=>bQ ?_;have qe:=q1.on al;gi_wp2_with (refine KJ rfl rfl rfl qe (λ_=>trivial) ?_);refine((callsIn_wide.2 (eh.out _ al)).mono ?_);rintro e w2 ⟨bm,nm,ds,rfl,TC,om,Bu,aN⟩;clear eh qe;replace Bu:=H Bu;replace r4:=r4.on aN;replace al:=al.trans (aN.mono al.size);have rB:=aN.size;have r5:X (w2.alloc (η #[.map (some bm)] 194)) w2.heap.size [.map (some bm)] 194:=X.new w2 [.map (some bm)] 194;have cD:Below w2.heap.size w2 (w2.alloc (η #[.map (some bm)] 194)):=(θ _ _).alloc (μ _) _;replace r4:=r4.on cD;have aoK:=om.lt;replace om:=om.keep (cD.block bm om.lt);replace al:=al.trans (cD.mono al.size);have tO:w2.heap.size<(w2.alloc (η #[.map (some bm)] 194)).heap.size:=by simp
 gi_wp2_with fail;generalize w2.alloc (η #[.map (some bm)] 194)=W3 at *
 generalize bB:w2.heap.size=b5 at *
 refine bO λaqy hK=>bQ ?_;have qe:=q1.on al;have p2:=(q2.on al).cell (k:=0) rfl;have p3:=(q3.on al).cell (k:=0) rfl;gi_wp2_with (refine KJ rfl rfl rfl qe (λ_=>trivial) ?_);refine((callsIn_wide.2 (hRD.out _ al)).mono ?_);rintro e w4 ⟨g,lb,R,rfl,hit,mn,eg,cq⟩;clear qe p2 p3 hRD cD aN;replace r4:=r4.on cq;replace r5:=r5.on cq;replace om:=om.keep (cq.block bm om.lt);replace al:=al.trans (cq.mono al.size);have nC:=cq.size;clear cq;gi_wp2_with fail;refine gj ?_;refine kY (gf:=g) (lb:=lb) func143 ?g eg hit (μ _) (λ_ _=>rfl) (λk Y=>(mn k Y).1)
  O (λk Y bV=>by
   rcases(mn k bV).2 with h|h
   ·exact(agL k h).2 Y
   have:=cM.1 k Y;omega) (DK O W aqx λq i=>q<=YS.length/\YS.drop q=vn st ex (XS.drop i)) (pR O W (aqx YS.length) Js) (λc=>DX O W (Jp c)) ?ps ?start ?round ?done ?stop ?pan
 case g=>rfl
 case ps=>intro x N;obtain⟨d,_,rfl⟩:=List.mem_map.1 N;rfl
 case start=>exact DK.cQ (λk Y=>by have:=cM.1 k Y;omega) ⟨0,O,⟨λk Y=>Y,λk Y=>.inl Y,λk Y=>Y,cM.below al⟩,Χ _,by simpa using PS.out⟩
 case stop=>
  rintro c W4 ⟨N,D,cx,_,aG⟩ hs bM;have dY:aj O W (W4.putObj w4.heap.size (.deferred none)):=((aj.aq al).aK N).put (.inr (by omega)) _;have cO:¬D w4.heap.size:=λh=>(cx _ h).elim (λh=>by have:=cM.1 _ h;omega) (by omega);obtain⟨rfl,h⟩:=aG.out;have fG:=H (show aO O W.heap.size (aqx YS.length) W (W4.putObj w4.heap.size (.deferred none))\/aO O W.heap.size Js W (W4.putObj w4.heap.size (.deferred none))from by
   rcases h with⟨D0,h⟩|⟨D0,h⟩
   ·exact .inl ((h.put cO _).fin dY)
   exact .inr ((h.put cO _).fin dY))
  clear h aG cx;gi_wp2_with fail;refine⟨by simp,.inl ⟨_,_,rfl,run_takeDeferred bM,?_⟩⟩;exact⟨_,results_none rfl _ _ _,.inl ⟨⟨_,rfl⟩,fG.out⟩⟩
 case pan=>
  rintro c W4 ⟨N,D,cx,_,aG⟩ hs bM;have dY:aj O W (W4.putObj w4.heap.size (.deferred none)):=((aj.aq al).aK N).put (.inr (by omega)) _;have cO:¬D w4.heap.size:=λh=>(cx _ h).elim (λh=>by have:=cM.1 _ h;omega) (by omega);obtain⟨D0,h⟩:=aG.out;refine⟨by simp,.inl ⟨_,_,rfl,run_takeDeferred bM,?_⟩⟩;exact .inr ⟨c,rfl,(h.put cO _).fin dY⟩
 case done=>
  rw[lj];rintro W4 ⟨N,D,cx,_,aG⟩ hs bM;have dY:aj O W (W4.putObj w4.heap.size (.deferred none)):=((aj.aq al).aK N).put (.inr (by omega)) _;have cO:¬D w4.heap.size:=λh=>(cx _ h).elim (λh=>by have:=cM.1 _ h;omega) (by omega);obtain⟨q,D0,bu,hq,kT⟩:=aG.out;have ze:q=YS.length:=mR (by rw[kT,Ο];rfl) hq;refine⟨by simp,.inl ⟨_,_,rfl,run_takeDeferred bM,?_⟩⟩;exact⟨_,results_none rfl _ _ _,.inl ⟨⟨_,rfl⟩,.inl (by rw[<-ze];exact(bu.put cO _).fin dY)⟩⟩
 case round=>
  intro BA i x N W4 D yM hs dT aG aqy hK;obtain⟨d,hd⟩:∃d,XS[i]?=some d:=⟨_,ν (by have:=(List.getElem?_eq_some_iff.1 N).1;rwa [lj]at this)⟩;rw[qB hd]at N;cases N;have Fv:=nM.out d (Υ hd);have vF:=H (drop_one hd);clear hd nM;unfold aZ cV;gi_wp2_with fail;have sb:Below W4.heap.size W4 (W4.alloc (η #[V Z (ag.au d),V Z (ag.ofM d),V Z (ag.aA d)] 88)):=(θ _ _).alloc (μ _) _;refine hK _ _ (λk=>D k\/k=W4.heap.size) sb (λk Y=>Y.imp id λh=>by omega) (λk Y=>.inl Y) (λk Y=>Y.elim (λh=>by have:=aG.1 k h;simp;omega) (λh=>by simp;omega)) ?_;intro l' W5 fD bN wF;have q6:=(X.new W4 (oO d) 88).keep (fD _ (.inr rfl));have dX:=aG.on (W':=W5) λk Y=>(fD k (.inl Y)).trans (sb.block k (aG.1 k Y));have mq:aj O W W5:=(aj.aq al).aK bN;have y1:=q1.aM mq Jg;have y4:=r4.aM bN (λh=>by have:=cM.1 _ h;omega);have y5:=r5.aM bN (λh=>by have:=cM.1 _ h;omega);have oy:=om.keep (bN.block bm om.lt (λh=>by have:=cM.1 _ h;omega));have dP:∀k,D k\/k=W4.heap.size->k<W5.heap.size:=λk Y=>Y.elim (dX.1 k) (λh=>by have:=q6.lt;omega);have o8:W.heap.size<=W5.heap.size:=by omega
  clear hK sb fD hit aG r4 r5 om mn;obtain⟨q,D0,bu,hq,kT⟩:=dX.out;clear dX;replace bu:=bu.wide (D':=λk=>D k\/k=W4.heap.size) λk Y=>.inl Y;have ga:=H (show YS.drop q=(if ex.contains (d*86400+st%86400)then[]else[d*86400+st%86400])++vn st ex (XS.drop (i+1))from by rw[kT,vF.out,Yq]);clear kT vF;have Yp:=ab4 (d:=d) Bu.out;have akI:0<=st%86400/\st%86400<86400:=by omega
  gi_upto_region 4 with fail;have fx:∀p∈qE be W.heap.size b5 W4.heap.size,p.1<14:=λp J=>by
   simp only[qE,Ζ,υ,or_false]at J;rcases J with rfl|rfl|rfl|rfl<;>simp
  have g1:∀I,Below W5.heap.size W5 I->(ο 3 (ε (some ⟨be,1,none⟩))).run prog I=.ok (V Z st) I:=λI U=>dQ ((y1.on U).cell (k:=1) rfl);have g4:∀I,Below W5.heap.size W5 I->(ο 79 (ε (some ⟨W.heap.size,0,none⟩))).run prog I=.ok (.func (.yield l) #[] #[]) I:=λI U=>MT ((y4.on U).cell (k:=0) rfl);have g5:∀I,Below W5.heap.size W5 I->(ο 194 (ε (some ⟨b5,0,none⟩))).run prog I=.ok (.map (some bm)) I:=λI U=>VB ((y5.on U).cell (k:=0) rfl);have g6:∀I,Below W5.heap.size W5 I->(ο 88 (ε (some ⟨W4.heap.size,0,none⟩))).run prog I=.ok (aZ d) I:=λI U=>VC (q6.on U);have gl:∀I,Below W5.heap.size W5 I->(ό 194 (.map (some bm)) (aZ d) false).run prog I=.ok (V Z (ds.count d)) I:=λI U=>(oy.keep (U.block bm oy.lt)).look d (by omega) (by omega);rename_i K1 fh;by_cases hc:ex.contains (d*86400+st%86400)
  case pos=>
   have dp:ds.count d≠0:=λh=>by rw[Yp.1 h]at hc;cases hc
   have kT:=H (show YS.drop q=vn st ex (XS.drop (i+1))from by rw[ga.out,if_pos hc];rfl);clear ga;refine mS (YP 14 15 29 (qE be W.heap.size b5 W4.heap.size) W5 (NC bm d (ds.count d))) E3 (by kernel_rfl) ?rops ?rdone ⟨rfl,rfl,λp J=>by
    simp only[qE,Ζ,υ,or_false]at J;rcases J with rfl|rfl|rfl|rfl<;>rfl,(θ _ _).drew,λ_ _ h=>by cases h⟩
   case rdone=>
    intro L a I bD hI;have VF:a.eval (.tmp 28)=.bool false:=hI.ew 14 (by decide) (bD 14 (by decide));have fA:=hI.below;obtain⟨fr,rfl,hf⟩:=Jj a hI.size hI.defers;have f28:=(hf 28).symm.trans VF;rw[f28];clear hf VF f28 hI;refine fh _ _ ?_;clear fh;gi_wp2_with fail;have MU:=bu.below fA;exact⟨aj.aq fA,λk=>D k\/k=W4.heap.size,λk Y=>.inl Y,λk Y=>Y,DK.cQ (λk Y=>κ (dP k Y) fA.size) ⟨q,D0,MU,hq,kT.out⟩⟩
   case rops=>
    intro L j o a I ho fF cG hC hI;have hj:j<15:=(Array.getElem?_eq_some_iff.1 ho).1;have s1:a.eval (.tmp 1)=ε (some ⟨be,0,none⟩):=hI.fixed (1,_) (by simp[qE]);have s5:a.eval (.tmp 5)=ε (some ⟨b5,0,none⟩):=hI.fixed (5,_) (by simp[qE]);have s6:a.eval (.tmp 6)=ε (some ⟨W4.heap.size,0,none⟩):=hI.fixed (6,_) (by simp[qE]);have w4:L 4=true->∀{ops:Array Μ} {o':Μ},((ops[4]?).bind (·.dst))=some 18->o'.guard=some (4,true)->Region.wanted o' (yielded ops a.tmps)=false:=λK ops o' hd hg=>by
     rw[Ji hg hd (d:=18) (by rw[hI.size];decide) (c:=false) (hI.ew 4 (by decide) K)];rfl
    have ea:j=0\/j=1\/j=2\/j=3\/j=4\/j=5\/j=6\/j=7\/j=8\/j=9\/j=10\/j=11\/j=12\/j=13\/j=14:=by omega
    rcases ea with rfl|rfl|rfl|rfl|rfl|rfl|rfl|rfl|rfl|rfl|rfl|rfl|rfl|rfl|rfl<;>obtain rfl:=Γ ho
    ·exact dd rfl rfl (bz (λ_=>trivial) (λ_ h=>by cases h) (aV rfl s5 (g5 _ hI.below)) (hI.step (j:=0) (by decide) (by decide) fx rfl (θ _ _) rfl))
    ·exact dd rfl rfl (bz (λ_=>trivial) (λ_ h=>by cases h) (aV rfl s6 (g6 _ hI.below)) (hI.step (j:=1) (by decide) (by decide) fx rfl (θ _ _) rfl))
    ·have S:a.eval (.tmp 14)=.map (some bm):=hI.ew 0 (by decide) (cG ⟨0,.data⟩ (by simp) rfl);have e2:a.eval (.tmp 15)=aZ d:=hI.ew 1 (by decide) (cG ⟨1,.data⟩ (by simp) rfl);exact dd rfl rfl (bz (λ_=>trivial) (λ_ h=>by cases h) (VD rfl S e2 (gl _ hI.below)) (hI.step (j:=2) (by decide) (by decide) fx rfl (θ _ _) rfl))
    ·have e:a.eval (.tmp 16)=V Z (ds.count d):=hI.ew 2 (by decide) (cG ⟨2,.data⟩ (by simp) rfl);exact dd rfl rfl (bz (λ_=>trivial) (λ_ h=>by cases h) (PV rfl e) (hI.step (j:=3) (by decide) (by decide) fx (show Value.bool (((ds.count d:Nat):Int)==0)=.bool false by congr 1;simpa using dp) (θ _ _) rfl))
    ·have e:a.eval (.tmp 17)=.bool false:=hI.ew 3 (by decide) (cG ⟨3,.data⟩ (by simp) rfl);exact dd rfl rfl (bz (λ_=>trivial) (λ_ h=>by cases h) (cJ rfl e) (hI.step (j:=4) (by decide) (by decide) fx rfl (θ _ _) rfl))
    ·exact jT rfl (w4 (cG ⟨4,.guard⟩ (by simp) rfl) rfl rfl) (λ_=>trivial) (hI.step (j:=5) (by decide) (by decide) fx (show NC bm d (ds.count d) 5 undef from rfl) (θ _ _) rfl)
    ·exact jT rfl (w4 (cG ⟨4,.guard⟩ (by simp) rfl) rfl rfl) (λ_=>trivial) (hI.step (j:=6) (by decide) (by decide) fx (show NC bm d (ds.count d) 6 undef from rfl) (θ _ _) rfl)
    ·exact jT rfl (w4 (cG ⟨4,.guard⟩ (by simp) rfl) rfl rfl) (λ_=>trivial) (hI.step (j:=7) (by decide) (by decide) fx (show NC bm d (ds.count d) 7 undef from rfl) (θ _ _) rfl)
    ·exact jT rfl (w4 (cG ⟨4,.guard⟩ (by simp) rfl) rfl rfl) (λ_=>trivial) (hI.step (j:=8) (by decide) (by decide) fx (show NC bm d (ds.count d) 8 undef from rfl) (θ _ _) rfl)
    ·exact jT rfl (w4 (cG ⟨4,.guard⟩ (by simp) rfl) rfl rfl) (λ_=>trivial) (hI.step (j:=9) (by decide) (by decide) fx (show NC bm d (ds.count d) 9 undef from rfl) (θ _ _) rfl)
    ·exact jT rfl (w4 (cG ⟨4,.guard⟩ (by simp) rfl) rfl rfl) (λ_=>trivial) (hI.step (j:=10) (by decide) (by decide) fx (show NC bm d (ds.count d) 10 undef from rfl) (θ _ _) rfl)
    ·exact jT rfl (w4 (cG ⟨4,.guard⟩ (by simp) rfl) rfl rfl) (λ_=>trivial) (hI.step (j:=11) (by decide) (by decide) fx (show NC bm d (ds.count d) 11 undef from rfl) (θ _ _) rfl)
    ·exact jT rfl (w4 (cG ⟨4,.guard⟩ (by simp) rfl) rfl rfl) (λ_=>trivial) (hI.step (j:=12) (by decide) (by decide) fx (show NC bm d (ds.count d) 12 undef from rfl) (θ _ _) rfl)
    ·exact jT rfl (w4 (cG ⟨4,.guard⟩ (by simp) rfl) rfl rfl) (λ_=>trivial) (hI.step (j:=13) (by decide) (by decide) fx (show NC bm d (ds.count d) 13 undef from rfl) (θ _ _) rfl)
    have S:a.eval (.tmp 18)=.bool false:=hI.ew 4 (by decide) (cG ⟨4,.data⟩ (by simp) rfl);exact dd rfl rfl (bz (λ_=>trivial) (λ_ h=>by cases h) (ab6 rfl S) (hI.step (j:=14) (by decide) (by decide) fx rfl (θ _ _) rfl))
  case neg=>
   have hcz:ds.count d=0:=Yp.2 (by simpa using hc);have iI:=H (show YS.drop q=(d*86400+st%86400)::vn st ex (XS.drop (i+1))from by rw[ga.out,if_neg hc];rfl);clear ga;obtain⟨pM,lG,zf⟩:=oP iI.out;replace lG:=H lG;clear iI;rw[hcz]at gl;have hY':=H (λI (U:Below W5.heap.size W5 I)=>tP.out q _ pM I D0 (mq.aK (aj.aq U)) bu.dO bu.Od (bu.below U).on);have hBG:=H (λI=>GR d I (by omega) (by omega));refine mS (YI 14 12 29 (qE be W.heap.size b5 W4.heap.size) W5 (NB l be bm d st) (λW'=>∃I,Below W5.heap.size W5 I/\aO D0 I.heap.size (aqx (q+1)) I W') (λW'=>∃I,Below W5.heap.size W5 I/\aO D0 I.heap.size Js I W') BB) E3 (by kernel_rfl) ?rops ?rdone (YI.start rfl rfl (λp J=>by
    simp only[qE,Ζ,υ,or_false]at J;rcases J with rfl|rfl|rfl|rfl<;>rfl) (θ _ _).drew)
   case rdone=>
    intro L a WX bD hI;obtain⟨_,b,_,hT,hF,hB⟩:=hI.post (bD 12 (by decide));have VF:a.eval (.tmp 28)=.bool (!b):=hB 14 (by decide) (bD 14 (by decide));obtain⟨fr,rfl,hf⟩:=Jj a hI.size hI.defers;have f28:=(hf 28).symm.trans VF;rw[f28];clear hf VF f28 hI hB;refine fh _ _ ?_;clear fh;cases b
    case true=>
     obtain⟨I,fA,J⟩:=hT rfl;obtain⟨eQ,dZ,mr,je⟩:=(bu.below fA).post (by have:=fA.size;omega) J;have eL:aj (λk=>D k\/k=W4.heap.size) W5 WX:=(aj.aq fA).trans je (λk Y=>.inl (bu.sub k Y));have An:=fA.size;clear hT hF;gi_wp2_with fail;exact⟨eL,λk=>(D k\/k=W4.heap.size)\/eQ k,λk Y=>Y.elim .inl λh=>(mr k h).elim (λh=>.inl (bu.sub k h)) (λh=>.inr (by omega)),λk Y=>.inl Y,DK.cQ (λk Y=>Y.elim (λh=>κ (dP k h) eL.size) (λh=>dZ.on.1 k h)) ⟨q+1,eQ,dZ,zf,lG.out⟩⟩
    case false=>
     obtain⟨I,fA,J⟩:=hF rfl;obtain⟨eQ,dZ,mr,je⟩:=(bu.below fA).post (by have:=fA.size;omega) J;have eL:aj (λk=>D k\/k=W4.heap.size) W5 WX:=(aj.aq fA).trans je (λk Y=>.inl (bu.sub k Y));have An:=fA.size;clear hT hF;gi_wp2_with fail;exact⟨eL,λk=>(D k\/k=W4.heap.size)\/eQ k,λk Y=>Y.elim .inl λh=>(mr k h).elim (λh=>.inl (bu.sub k h)) (λh=>.inr (by omega)),λk Y=>.inl Y,pR.Sv (DX.cQ (λk Y=>Y.elim (λh=>κ (dP k h) eL.size) (λh=>dZ.on.1 k h)) ⟨eQ,dZ⟩)⟩
   case rops=>
    intro L j o a I ho fF cG hC hI;have hj:j<15:=(Array.getElem?_eq_some_iff.1 ho).1;have s1:a.eval (.tmp 1)=ε (some ⟨be,0,none⟩):=hI.fixed (1,_) (by simp[qE]);have s4:a.eval (.tmp 4)=ε (some ⟨W.heap.size,0,none⟩):=hI.fixed (4,_) (by simp[qE]);have s5:a.eval (.tmp 5)=ε (some ⟨b5,0,none⟩):=hI.fixed (5,_) (by simp[qE]);have s6:a.eval (.tmp 6)=ε (some ⟨W4.heap.size,0,none⟩):=hI.fixed (6,_) (by simp[qE]);have w4:L 4=true->∀{ops:Array Μ} {o':Μ},((ops[4]?).bind (·.dst))=some 18->o'.guard=some (4,true)->Region.wanted o' (yielded ops a.tmps)=true:=λK ops o' hd hg=>by
     rw[Ji hg hd (d:=18) (by rw[hI.size];decide) (c:=true) (hI.ew 4 (by decide) K)];rfl
    have ea:j=0\/j=1\/j=2\/j=3\/j=4\/j=5\/j=6\/j=7\/j=8\/j=9\/j=10\/j=11\/j=12\/j=13\/j=14:=by omega
    rcases ea with rfl|rfl|rfl|rfl|rfl|rfl|rfl|rfl|rfl|rfl|rfl|rfl|rfl|rfl|rfl<;>obtain rfl:=Γ ho
    ·exact dd rfl rfl (bz (λ_=>trivial) (λ_ h=>by cases h) (aV rfl s5 (g5 _ (hI.below (by decide) fF))) (hI.fM (by decide) fF (by decide) fx rfl (θ _ _) rfl))
    ·exact dd rfl rfl (bz (λ_=>trivial) (λ_ h=>by cases h) (aV rfl s6 (g6 _ (hI.below (by decide) fF))) (hI.fM (by decide) fF (by decide) fx rfl (θ _ _) rfl))
    ·have e14:a.eval (.tmp 14)=.map (some bm):=hI.ew 0 (by decide) (cG ⟨0,.data⟩ (by simp) rfl);have DO:a.eval (.tmp 15)=aZ d:=hI.ew 1 (by decide) (cG ⟨1,.data⟩ (by simp) rfl);exact dd rfl rfl (bz (λ_=>trivial) (λ_ h=>by cases h) (VD rfl e14 DO (gl _ (hI.below (by decide) fF))) (hI.fM (by decide) fF (by decide) fx rfl (θ _ _) rfl))
    ·have OX:a.eval (.tmp 16)=V Z 0:=hI.ew 2 (by decide) (cG ⟨2,.data⟩ (by simp) rfl);exact dd rfl rfl (bz (λ_=>trivial) (λ_ h=>by cases h) (PV rfl OX) (hI.fM (by decide) fF (by decide) fx rfl (θ _ _) rfl))
    ·have Eu:a.eval (.tmp 17)=.bool true:=hI.ew 3 (by decide) (cG ⟨3,.data⟩ (by simp) rfl);exact dd rfl rfl (bz (λ_=>trivial) (λ_ h=>by cases h) (cJ rfl Eu) (hI.fM (by decide) fF (by decide) fx rfl (θ _ _) rfl))
    ·exact jb rfl (w4 (cG ⟨4,.guard⟩ (by simp) rfl) rfl rfl) (bz (λ_=>trivial) (λ_ h=>by cases h) (aV rfl s4 (g4 _ (hI.below (by decide) fF))) (hI.fM (by decide) fF (by decide) fx rfl (θ _ _) rfl))
    ·exact jb rfl (w4 (cG ⟨4,.guard⟩ (by simp) rfl) rfl rfl) (bz (λ_=>trivial) (λ_ h=>by cases h) (aV rfl s6 (g6 _ (hI.below (by decide) fF))) (hI.fM (by decide) fF (by decide) fx rfl (θ _ _) rfl))
    ·have Zq:a.eval (.tmp 20)=aZ d:=hI.ew 6 (by decide) (cG ⟨6,.data⟩ (by simp) rfl);exact jb rfl (w4 (cG ⟨4,.guard⟩ (by simp) rfl) rfl rfl) (Vw (f:=48) (args:=#[a.eval (.tmp 20)]) (λ_ h=>by cases h) (by kernel_rfl) (by rw[Zq];exact hBG.out I) (λaz U=>hI.fM (by decide) fF (by decide) fx rfl U rfl))
    ·exact jb rfl (w4 (cG ⟨4,.guard⟩ (by simp) rfl) rfl rfl) (bz (λ_=>trivial) (λ_ h=>by cases h) (cH rfl s1 (VA be 1 1 (.inr (.inl rfl)) _)) (hI.fM (by decide) fF (by decide) fx rfl (θ _ _) rfl))
    ·have PX:a.eval (.tmp 22)=ε (some ⟨be,1,none⟩):=hI.ew 8 (by decide) (cG ⟨8,.data⟩ (by simp) rfl);exact jb rfl (w4 (cG ⟨4,.guard⟩ (by simp) rfl) rfl rfl) (bz (λ_=>trivial) (λ_ h=>by cases h) (aV rfl PX (g1 _ (hI.below (by decide) fF))) (hI.fM (by decide) fF (by decide) fx rfl (θ _ _) rfl))
    ·have PY:a.eval (.tmp 23)=V Z st:=hI.ew 9 (by decide) (cG ⟨9,.data⟩ (by simp) rfl);exact jb rfl (w4 (cG ⟨4,.guard⟩ (by simp) rfl) rfl rfl) (bz (λ_=>trivial) (λ_ h=>by cases h) (ab8 rfl PY s0) (hI.fM (by decide) fF (by decide) fx rfl (θ _ _) rfl))
    ·have PZ:a.eval (.tmp 21)=V Z (d*86400):=hI.ew 7 (by decide) (cG ⟨7,.data⟩ (by simp) rfl);have P0:a.eval (.tmp 24)=V Z (st%86400):=hI.ew 10 (by decide) (cG ⟨10,.data⟩ (by simp) rfl);exact jb rfl (w4 (cG ⟨4,.guard⟩ (by simp) rfl) rfl rfl) (bz (λ_=>trivial) (λ_ h=>by cases h) (ab9 rfl PZ P0 (by omega) (by omega)) (hI.fM (by decide) fF (by decide) fx rfl (θ _ _) rfl))
    ·
     have bD:∀j,j<12->L j=true:=by
      have l5:=cG ⟨5,.data⟩ (by simp) rfl;have l11:=cG ⟨11,.data⟩ (by simp) rfl;have l4:=cG ⟨4,.guard⟩ (by simp) rfl;have l7:=hC 11 _ rfl l11 ⟨7,.data⟩ (by simp) rfl;have l10:=hC 11 _ rfl l11 ⟨10,.data⟩ (by simp) rfl;have l9:=hC 10 _ rfl l10 ⟨9,.data⟩ (by simp) rfl;have l8:=hC 9 _ rfl l9 ⟨8,.data⟩ (by simp) rfl;have l6:=hC 7 _ rfl l7 ⟨6,.data⟩ (by simp) rfl;have l3:=hC 4 _ rfl l4 ⟨3,.data⟩ (by simp) rfl;have l2:=hC 3 _ rfl l3 ⟨2,.data⟩ (by simp) rfl;have l0:=hC 2 _ rfl l2 ⟨0,.data⟩ (by simp) rfl;have l1:=hC 2 _ rfl l2 ⟨1,.data⟩ (by simp) rfl;intro j hj;have ea:j=0\/j=1\/j=2\/j=3\/j=4\/j=5\/j=6\/j=7\/j=8\/j=9\/j=10\/j=11:=by omega
      rcases ea with rfl|rfl|rfl|rfl|rfl|rfl|rfl|rfl|rfl|rfl|rfl|rfl<;>assumption
     have e19:a.eval (.tmp 19)=.func (.yield l) #[] #[]:=hI.ew 5 (by decide) (bD 5 (by decide));have FC:a.eval (.tmp 25)=V Z (d*86400+st%86400):=hI.ew 11 (by decide) (bD 11 (by decide));have gQ:=(hI.pre fF).1;obtain⟨D6,tR,D7,D8,gC,eB⟩:=hY'.out I gQ;refine jb rfl (w4 (bD 4 (by decide)) rfl rfl) (Fz (λ_ h=>by cases h) (VE rfl e19 FC gC) eB ?_ ?_ ?_)
     ·rintro v W' (⟨he,J⟩|⟨he,J⟩|⟨c,he,_⟩)
      ·cases he;exact hI.FA bD fF (by decide) fx (λ_=>⟨I,gQ,J⟩) (λh=>by cases h) rfl
      ·cases he;exact hI.FA bD fF (by decide) fx (λh=>by cases h) (λ_=>⟨I,gQ,J⟩) rfl
      cases he
     ·rintro c W' (⟨he,_⟩|⟨he,_⟩|⟨c',he,J⟩)
      ·cases he
      ·cases he
      cases he;obtain⟨eQ,dZ,mr,je⟩:=(bu.below gQ).post (by have:=gQ.size;omega) J;have eL:aj (λk=>D k\/k=W4.heap.size) W5 W':=(aj.aq gQ).trans je (λk Y=>.inl (bu.sub k Y));have An:=gQ.size;exact⟨hI.defers,eL,λk=>(D k\/k=W4.heap.size)\/eQ k,λk Y=>Y.elim .inl λh=>(mr k h).elim (λh=>.inl (bu.sub k h)) (λh=>.inr (by omega)),λk Y=>.inl Y,DX.cQ (λk Y=>Y.elim (λh=>κ (dP k h) eL.size) (λh=>dZ.on.1 k h)) ⟨eQ,dZ⟩⟩
     rintro W' (⟨he,_⟩|⟨he,_⟩|⟨c',he,_⟩)<;>cases he
    ·have VG:=cG ⟨12,.data⟩ (by simp) rfl;have l4:=cG ⟨4,.guard⟩ (by simp) rfl;obtain⟨_,b,MV,_,_,_⟩:=hI.post VG;exact jb rfl (w4 l4 rfl rfl) (bz (λ_=>trivial) (λ_ h=>by cases h) (PW rfl MV) (hI.yy (by decide) fF VG (by decide) fx (λb' fA=>by
      have MW:a.eval (.tmp 26)=.bool b':=fA;rw[MV]at MW;cases MW;rfl) rfl))
    have l13:=cG ⟨13,.data⟩ (by simp) rfl;have VG:=hC 13 _ rfl l13 ⟨12,.data⟩ (by simp) rfl;have e18:a.eval (.tmp 18)=.bool true:=hI.ew 4 (by decide) (cG ⟨4,.data⟩ (by simp) rfl);obtain⟨_,b,MV,_,_,hB⟩:=hI.post VG;have e27:a.eval (.tmp 27)=.bool (!b):=hB 13 (by decide) l13;exact dd rfl rfl (bz (λ_=>trivial) (λ_ h=>by cases h) (ab7 rfl e18 e27) (hI.yy (by decide) fF VG (by decide) fx (λb' fA=>by
     have MW:a.eval (.tmp 26)=.bool b':=fA;rw[MV]at MW;cases MW;rfl) rfl))
end
section
open Go.Sort
attribute [local go_sem] Oper.semAt_some
attribute [local go_sem] bK aU
attribute [local simp] bK aU
theorem MX (u:ByteArray)(st ln:Int)(hr:Bool)(r:aE)(m md wk pl:Value)(tx:ByteArray)(aI aH:Value)(ex xt:List Int)(tr:Bool)(k:Int)(f to:Int)(w:ι)(K:jX w hr r m md wk pl aI aH ex xt)
 (s0:0<=st)(s1:st<=7258118400)(f0:-1000000000000<=f)(f1:f<=7258118400)(t0:0<=to)(t1:to<=7258118400):
 Λ prog 88 #[.agg (cE u st ln hr r m md wk pl tx aI aH tr k).toArray,V Z f,V Z to] w (dR (qC (sO hr r st f to ex)) (kP m md wk pl aI aH) w):=by
 have lU:∀args w,(callFunc 143 args).run prog w=.ok (.enter 143 args) w:=enters_of func143 (by kernel_rfl) rfl;replace lU:=H lU;have q0:=kx w (cE u st ln hr r m md wk pl tx aI aH tr k) 99 (η #[V Z f] 3) (η #[V Z to] 3);have q1:=ky w (η (cE u st ln hr r m md wk pl tx aI aH tr k).toArray 99) [V Z f] 3 (η #[V Z to] 3);have q2:=kz w (η (cE u st ln hr r m md wk pl tx aI aH tr k).toArray 99) (η #[V Z f] 3) [V Z to] 3;have al:=gJ w (η (cE u st ln hr r m md wk pl tx aI aH tr k).toArray 99) (η #[V Z f] 3) (η #[V Z to] 3);have hit:=H (agK u st ln hr r m md wk pl tx aI aH ex xt tr k f to w.heap.size (w.heap.size+1) (w.heap.size+1+1) _ (K.on al) s0 s1 f0 f1 t0 t1 q0 q1 q2);have hblk:=H (λk (h:kP m md wk pl aI aH k)=>K.fO h);clear K q0 q1 q2;generalize cE u st ln hr r m md wk pl tx aI aH tr k=E at *
 go_enter func88,ntmps88;go_wp2_with fail;go_ret;refine⟨_,_,_,rfl,hit.out,λk Y=>?_,lU.out,al⟩;rcases Y with rfl|rfl|rfl|h
 ·exact⟨by simp;omega,.inr (μ _)⟩
 ·exact⟨by simp,.inr (by omega)⟩
 ·exact⟨by simp,.inr (by omega)⟩
 exact⟨by have:=hblk.out k h;simp;omega,.inl h⟩
theorem RT {w:ι}{v:Value}{zs:List Int}(x:Int)(h:dc w v zs)(U:zs.length<=1000):
 Λ prog 146 #[v,V Z x] w λe I=>e=δ (.bool (zs.contains x))/\Below w.heap.size w I:=by
 rcases h with⟨rfl,rfl⟩|⟨g,cap,rest,rfl,hr⟩
 ·refine(Tryz.slices_Contains_int_empty none 0 x w).mono ?_;rintro e I ⟨rfl,rfl⟩;exact⟨rfl,θ _ _⟩
 refine(Tryz.slices_Contains_int g 0 zs.length cap zs x w (μ _) (by omega) (λj hj=>?_)).mono ?_
 ·rw[Τ];exact hr.cell (by rw[Ε,List.getElem?_append_left hj,ν hj,Ρ,ν hj];rfl)
 rintro e I ⟨rfl,rfl⟩;exact⟨by rw[Ω],θ _ _⟩
def iz (st f to:Int)(ex:List Int)(l:List Int):List Int:=l.filter λt=>decide (max st f<=t)&&decide (t<to)&&!ex.contains t
def ints (l:List Int):List Value:=l.map (Value.int Z)
theorem VH (l:List Int)(x:Int):ints (l++[x])=ints l++[V Z x]:=by unfold ints;simp
theorem JU (u:ByteArray)(st ln:Int)(hr:Bool)(r:aE)(m md wk pl:Value)(tx:ByteArray)(aI aH:Value)(ex xt:List Int)(tr:Bool)(k:Int)(f to:Int)(w:ι)(K:jX w hr r m md wk pl aI aH ex xt):
 Λ prog 89 #[.agg (cE u st ln hr r m md wk pl tx aI aH tr k).toArray,V Z f,V Z to] w λe I=>∃v,e=δ v/\I.ownsRow w.heap.size 3 1 v (iz st f to ex xt).length (ints (iz st f to ex xt))/\Below w.heap.size w I:=by
 obtain⟨a5,c5,e5⟩:=K.hex.sl;obtain⟨a6,c6,e6⟩:=K.lT.sl;have hC:Hid (∀W' x,Below w.heap.size w W'->Λ prog 146 #[aI,V Z x] W' λe I=>e=δ (.bool (ex.contains x))/\Below W'.heap.size W' I):=H λW' x U=>RT x (K.on U).hex K.exl;have hX:Hid (∀W',Below w.heap.size w W'->dc W' aH xt):=H λW' U=>(K.on U).lT;have hxl:=K.xtl;clear K;have r1:=X.new w (cE u st ln hr r m md wk pl tx aI aH tr k) 99;have al:=(θ w.heap.size w).alloc (μ _) (η (cE u st ln hr r m md wk pl tx aI aH tr k).toArray 99);have hE1:(cE u st ln hr r m md wk pl tx aI aH tr k)[1]?=some (V Z st):=rfl;have akT:(cE u st ln hr r m md wk pl tx aI aH tr k)[14]?=some aI:=rfl;have akU:(cE u st ln hr r m md wk pl tx aI aH tr k)[15]?=some aH:=rfl;generalize cE u st ln hr r m md wk pl tx aI aH tr k=E at *
 subst e5 e6;have hL:Hid (iz st f to ex xt=iz st f to ex (xt.take 0)++iz st f to ex (xt.drop 0)):=H rfl;refine(callsIn_wide (n:=0)).1 ?_;refine callsIn_of_wp func89 rfl trivial ?_ rfl;simp only[ntmps89,τ,π,Κ,Η,Ν,ψ,χ,Δ,ω,Ι,Θ];gi_upto_region 1 with fail;have bA:w.heap.size<(w.alloc (η E.toArray 99)).heap.size:=by simp
 generalize w.alloc (η E.toArray 99)=W at *
 have g15:=r1.cell akU;gi_wp2_with fail;clear g15;gi_loopg [7,13] xt.length (λq pv cv wr=>∃(i:Nat) (pre:List Int),i+q=xt.length/\cv=V Z i/\Below w.heap.size w wr/\X wr w.heap.size E 99/\wr.ownsRow W.heap.size 3 1 pv pre.length (ints pre)/\pre.length<=i/\W.heap.size<=wr.heap.size/\Hid (iz st f to ex xt=pre++iz st f to ex (xt.drop i)))
 case atStart=>exact⟨0,[],by omega,rfl,al,r1,World.ownsRow_nil _ _ _ _,μ _,μ _,H (by simp)⟩
 case round=>
  clear al r1 hL;obtain⟨i,pre,Zk,rfl,al,r1,aX,pT,yQ,HL⟩:=hrel;have hsr:=al.size;by_cases hi:i=xt.length
  case pos=>
   have HL':Hid (iz st f to ex xt=pre):=H (by rw[HL.out,hi,Ο];simp[iz]);clear HL;subst hi;gi_wp2_with fail;go_ret;exact⟨u7,rfl,by rw[HL'.out];exact tD aX (by omega),al⟩
  case neg=>
   have wm:i<xt.length:=by omega
   obtain⟨t,ht⟩:∃t,xt[i]?=some t:=⟨_,ν wm⟩;obtain⟨gx,hax,hcx⟩:=(hX.out wr al).cell ht;have iI:=H (show iz st f to ex (xt.drop i)=(if max st f<=t/\t<to/\ex.contains t=false then[t]else[])++iz st f to ex (xt.drop (i+1))from by
    rw[drop_one ht];unfold iz;rw[ϊ];by_cases G:max st f<=t<;>by_cases A:t<to<;>cases M:ex.contains t<;>simp[G,A])
   subst hax;have g1:=r1.cell hE1;have g14:=r1.cell akT;clear ht;by_cases G:max st f<=t
   case neg=>
    have HN:¬(max st f<=t/\t<to/\ex.contains t=false):=λh=>G h.1;have wx:t<max st f:=by omega
    gi_wp2_with fail;gi_roundg (gk-1)
    case measure=>omega
    case rel=>exact⟨i+1,pre,by omega,by go_num,al,r1,aX,by omega,yQ,H (by rw[HL.out,iI.out,if_neg HN];rfl)⟩
   case pos=>
    by_cases A:t<to
    case neg=>
     have HN:¬(max st f<=t/\t<to/\ex.contains t=false):=λh=>A h.2.1;have vf:to<=t:=by omega
     gi_wp2_with fail;gi_roundg (gk-1)
     case measure=>omega
     case rel=>exact⟨i+1,pre,by omega,by go_num,al,r1,aX,by omega,yQ,H (by rw[HL.out,iI.out,if_neg HN];rfl)⟩
    case pos=>
     gi_wp2_with fail;refine((callsIn_wide.2 (hC.out _ t al)).mono ?_);rintro e W5 ⟨rfl,bB⟩;have RU:=H (show ∀b,ex.contains t=b->iz st f to ex xt=(pre++(if b then[]else[t]))++iz st f to ex (xt.drop (i+1))from λb U=>by
      rw[HL.out,iI.out,List.append_assoc];cases b
      ·rw[if_pos ⟨G,A,U⟩];rfl
      rw[if_neg (λh=>by rw[h.2.2]at U;cases U)];rfl)
     have mX:=eK aX (I:=W5) λg hg=>bB.block g (aX.lt g hg).2;have r5:=r1.on bB;have Ds:=H (al.trans (bB.mono hsr));have wF:=bB.size;clear g1 g14 hcx HL iI aX r1 bB;generalize hB:ex.contains t=B at *
     replace RU:=H (RU.out B rfl);clear hB;cases B
     case true=>
      gi_wp2_with fail;gi_roundg (gk-1)
      case measure=>omega
      case rel=>exact⟨i+1,pre,by omega,by go_num,Ds.out,r5,mX,by omega,by omega,H (by simpa using RU.out)⟩
     case false=>
      gi_wp2_with (gi_at_builtin;refine Hid.out ?_);refine H ?_;refine wE rfl (.tmp 35) (.tmp 37) 23 3 _ 1 8 rfl underlying23 Pb rfl (by decide) W.heap.size u7 pre.length (ints pre) rfl (mX.alloc _) (by simp;omega) W5.heap.size [V Z t] rfl rfl (λj u hj=>(X.new W5 [V Z t] 3).cell hj) (by simp[Value.oneCell']) (by omega) (by decide) ?_;intro v' W6 o6 tN qh;clear qh;have cL:=H (((Ds.out.alloc (by omega) _).grown tN (by simp;omega) (λk Y=>by have:=(mX.lt k Y).1;omega)));have r6:X W6 w.heap.size E 99:=(tN.block _ (by have:=r5.lt;simp;omega) (λe=>by have:=(mX.lt _ e.symm).1;omega)).trans (r5.on ((θ _ _).alloc (μ _) _));have tQ:=tN.size;gi_wp2_with fail;gi_roundg (gk-1)
      case measure=>omega
      case rel=>exact⟨i+1,pre++[t],by omega,by go_num,cL.out,r6,by rw[VH,ξ];exact o6,by simp;omega,by simp at tQ;omega,H (by simpa using RU.out)⟩
end
section
structure YJ (s0 y n0:Nat)(a0:Ψ)(W:ι)(aqv:Nat->Value->Prop)(T Fa:ι->Prop)(Bz:Bool->Nat->Value->Prop)(L:Nat->Bool)(a:Ψ)(w:ι):Prop where
 size:a.tmps.size=a0.tmps.size
 defers:a.defers=a0.defers
 fixed:∀k:Nat,k<s0\/s0+n0<=k->a.eval (.tmp k)=a0.eval (.tmp k)
 pre:L y=false->Below W.heap.size W w/\∀j,y<j->L j=false
 ew:∀j,j<y->L j=true->aqv j (a.eval (.tmp (s0+j)))
 post:L y=true->(∀j,j<y->L j=true)/\∃b:Bool,a.eval (.tmp (s0+y))=.bool b/\(b=true->T w)/\(b=false->Fa w)/\∀j,y<j->L j=true->Bz b j (a.eval (.tmp (s0+j)))
section
variable {s0 y n0:Nat} {a0:Ψ} {W:ι} {aqv:Nat->Value->Prop} {T Fa:ι->Prop} {Bz:Bool->Nat->Value->Prop} {L:Nat->Bool} {a:Ψ} {w:ι}
theorem YJ.start (h4:Below W.heap.size W w):YJ s0 y n0 a0 W aqv T Fa Bz (λ_=>false) a0 w:=
 ⟨rfl,rfl,λ_ _=>rfl,λ_=>⟨h4,λ_ _=>rfl⟩,λ_ _ h=>(by cases h),λh=>(by cases h)⟩
theorem YJ.below (h:YJ s0 y n0 a0 W aqv T Fa Bz L a w){j:Nat}(hj:j<y)(hL:L j=false):Below W.heap.size W w:=by
 cases hy:L y
 ·exact(h.pre hy).1
 have:=(h.post hy).1 j hj;rw[hL]at this;cases this
theorem YJ.fM (h:YJ s0 y n0 a0 W aqv T Fa Bz L a w){j:Nat}(hj:j<y)(hL:L j=false)(hn:y<n0)(bA:s0+n0<=a0.tmps.size){v:Value}{I:ι}(hv:aqv j v)(U:Below w.heap.size w I){dst:Option Nat}(hd:dst=some (s0+j)):
 YJ s0 y n0 a0 W aqv T Fa Bz (λk=>decide (k=j)||L k) (a.put dst v) I:=by
 subst hd;have hy:L y=false:=by
  cases hy:L y
  ·rfl
  have:=(h.post hy).1 j hj;rw[hL]at this;cases this
 have hs:s0+j<a.tmps.size:=by rw[h.size];omega
 refine⟨by rw[fW];exact h.size,by rw[put_defers];exact h.defers,λp J=>by rw[cY (by omega)];exact h.fixed p J,λ_=>⟨(h.pre hy).1.trans (U.mono (h.pre hy).1.size),λk Y=>?_⟩,λk Y K=>?_,λK=>?_⟩
 ·simp only[Bool.or_eq_false_iff,decide_eq_false_iff_not];exact⟨by omega,(h.pre hy).2 k Y⟩
 ·by_cases vG:k=j
  ·subst vG;rw[gO hs];exact hv
  rw[cY (by omega)];exact h.ew k Y (by simpa[vG]using K)
 have dp:¬y=j:=by omega
 simp only[dp,decide_false,ύ]at K;rw[hy]at K;cases K
theorem YJ.FA (h:YJ s0 y n0 a0 W aqv T Fa Bz L a w)(bD:∀j,j<y->L j=true)(hL:L y=false)(hn:y<n0)(bA:s0+n0<=a0.tmps.size){b:Bool}{I:ι}(hT:b=true->T I)(hF:b=false->Fa I){dst:Option Nat}(hd:dst=some (s0+y)):
 YJ s0 y n0 a0 W aqv T Fa Bz (λk=>decide (k=y)||L k) (a.put dst (.bool b)) I:=by
 subst hd;have hs:s0+y<a.tmps.size:=by rw[h.size];omega
 refine⟨by rw[fW];exact h.size,by rw[put_defers];exact h.defers,λp J=>by rw[cY (by omega)];exact h.fixed p J,λK=>by simp at K,λk Y K=>?_,λ_=>⟨λk Y=>by simp[bD k Y],b,gO hs,hT,hF,λk Y K=>?_⟩⟩
 ·rw[cY (by omega)];exact h.ew k Y (bD k Y)
 have dp:¬k=y:=by omega
 simp only[dp,decide_false,ύ]at K;rw[(h.pre hL).2 k Y]at K;cases K
theorem YJ.yy (h:YJ s0 y n0 a0 W aqv T Fa Bz L a w){j:Nat}(hj:y<j)(hL:L j=false)(Vx:L y=true)(hn:j<n0)(bA:s0+n0<=a0.tmps.size){v:Value}(hv:∀b,a.eval (.tmp (s0+y))=.bool b->Bz b j v){dst:Option Nat}(hd:dst=some (s0+j)):
 YJ s0 y n0 a0 W aqv T Fa Bz (λk=>decide (k=j)||L k) (a.put dst v) w:=by
 subst hd;have hs:s0+j<a.tmps.size:=by rw[h.size];omega
 obtain⟨p1,b,p2,p3,p4,p5⟩:=h.post Vx;refine⟨by rw[fW];exact h.size,by rw[put_defers];exact h.defers,λp J=>by rw[cY (by omega)];exact h.fixed p J,λK=>?_,λk Y K=>?_,λ_=>⟨λk Y=>by simp[p1 k Y],b,by rw[cY (by omega)];exact p2,p3,p4,λk Y K=>?_⟩⟩
 ·simp[Vx]at K
 ·rw[cY (by omega)];exact h.ew k Y (p1 k Y)
 by_cases vG:k=j
 ·subst vG;rw[gO hs];exact hv b p2
 rw[cY (by omega)];exact p5 k Y (by simpa[vG]using K)
end
theorem Yt (s0:Nat):∀(m:Nat) (a a0:Ψ),a.tmps.size=a0.tmps.size->a.defers=a0.defers->s0+m<=a0.tmps.size->(∀k:Nat,k<s0\/s0+m<=k->a.eval (.tmp k)=a0.eval (.tmp k))->
 a=(Β m).foldl (λx j=>x.put (some (s0+j)) (a.eval (.tmp (s0+j)))) a0:=by
 intro m a a0 hs hd hm hr;have key:∀(m':Nat),m'<=m->((Β m').foldl (λx j=>x.put (some (s0+j)) (a.eval (.tmp (s0+j)))) a0).tmps.size=a0.tmps.size/\((Β m').foldl (λx j=>x.put (some (s0+j)) (a.eval (.tmp (s0+j)))) a0).defers=a0.defers/\
  ∀k:Nat,((Β m').foldl (λx j=>x.put (some (s0+j)) (a.eval (.tmp (s0+j)))) a0).eval (.tmp k)=if s0<=k/\k<s0+m' then a.eval (.tmp k)else a0.eval (.tmp k):=by
  intro m'
  induction m' with
  |zero=>intro _;exact⟨rfl,rfl,λk=>by rw[if_neg (show¬(s0<=k/\k<s0+0) by omega)];rfl⟩
  |succ m' ih=>
   intro L7;obtain⟨G,A,M⟩:=ih (by omega);rw[List.range_succ,List.foldl_append];simp only[List.foldl_cons,List.foldl_nil];refine⟨by rw[fW];exact G,by rw[put_defers];exact A,λk=>?_⟩;by_cases Y:k=s0+m'
   ·subst Y;rw[gO (by rw[G];omega),if_pos (show s0<=s0+m'/\s0+m'<s0+(m'+1) by omega)]
   rw[cY Y,M k];by_cases hc:s0<=k/\k<s0+m'
   ·rw[if_pos hc,if_pos (show s0<=k/\k<s0+(m'+1) by omega)]
   rw[if_neg hc,if_neg (show¬(s0<=k/\k<s0+(m'+1)) by omega)]
 obtain⟨G,A,M⟩:=key m (μ _);have gu:∀k:Nat,a.eval (.tmp k)=((Β m).foldl (λx j=>x.put (some (s0+j)) (a.eval (.tmp (s0+j)))) a0).eval (.tmp k):=λk=>by
  rw[M k];by_cases hc:s0<=k/\k<s0+m
  ·rw[if_pos hc]
  rw[if_neg hc];exact hr k (by omega)
 generalize(Β m).foldl (λx j=>x.put (some (s0+j)) (a.eval (.tmp (s0+j)))) a0=b at *
 obtain⟨ta,da⟩:=a;obtain⟨tb,db⟩:=b;simp only[]at hs hd G A;have S:ta=tb:=by
  apply Array.ext
  ·omega
  intro i hi O6;have:=gu i;have e:ta.getD i undef=tb.getD i undef:=this;simpa[Array.getD,hi,O6]using e
 rw[S,hd,<-A]
end
section
open Go.Sort
def gD (t:Int):List Int->List Int
 |[]=>[]
 |x::r=>if x=t then r else x::r
def ji:List Int->List Int->List Int
 |[],ls=>ls
 |t::ts,ls=>ls.takeWhile (λx=>decide (x<t))++t::ji ts (gD t (ls.dropWhile λx=>decide (x<t)))
def uP (t:Int)(ts ls:List Int):List Int:=ls.takeWhile (λx=>decide (x<t))++t::ji ts (gD t (ls.dropWhile λx=>decide (x<t)))
theorem aca {t z:Int}{ts r:List Int}(h:z<t):uP t ts (z::r)=z::uP t ts r:=by
 unfold uP;simp[h]
theorem acb {t:Int}{ts r:List Int}:uP t ts (t::r)=t::ji ts r:=by
 unfold uP;simp[gD]
theorem acd {t z:Int}{ts r:List Int}(h:t<z):uP t ts (z::r)=t::ji ts (z::r):=by
 have G:¬z<t:=by omega
 have A:¬z=t:=by omega
 unfold uP;simp[G,gD,A]
theorem Yu {t:Int}{ts:List Int}:uP t ts []=t::ji ts []:=by
 unfold uP;simp[gD]
def LS (w:ι)(v:Value)(ls:List Int):Prop:=∃a c,v=ζ a ls.length c/\ls.length<=c/\c<=9223372036854775807/\∀i z,ls[i]?=some z->∃g j,a=some ⟨g,j,none⟩/\w.cell? ⟨g,j+i,none⟩=some (V Z z)
theorem LS.keep {w I:ι}{v:Value}{ls:List Int}(h:LS w v ls)(Y:∀k,v.ownBlock=some k->I.heap[k]?=w.heap[k]?):LS I v ls:=by
 obtain⟨a,c,rfl,hc,hm,hz⟩:=h;refine⟨a,c,rfl,hc,hm,λi z hi=>?_⟩;obtain⟨g,j,rfl,iS⟩:=hz i z hi;refine⟨g,j,rfl,?_⟩;rw[show I.cell? ⟨g,j+i,none⟩=w.cell? ⟨g,j+i,none⟩from World.cell?_of_block (Y g rfl)];exact iS
theorem LS.afx {w:ι}{B:Nat}{v:Value}{ls:List Int}(h:w.ownsRow B 3 1 v ls.length (ints ls)):LS w v ls:=by
 rcases h.2 with⟨rfl,h0⟩|⟨g,cap,cur,rfl,_,_,L9,zv,_,_⟩
 ·have:ls=[]:=List.eq_nil_of_length_eq_zero h0;subst this;exact⟨_,_,rfl,μ _,by omega,λi z hi=>by simp at hi⟩
 refine⟨_,_,rfl,L9,by unfold maxLen at zv;omega,λi z hi=>⟨g,0,rfl,?_⟩⟩;have jw:=(List.getElem?_eq_some_iff.1 hi).1;rw[Τ,h.cellAt i (by omega)];unfold ints;rw[Ε,hi];rfl
theorem LS.tail {w:ι}{v:Value}{z:Int}{ls:List Int}(h:LS w v (z::ls)):∃v',(∀I,(Instr.slice 23 v (some (V Z 1)) none none).run prog I=.ok v' I)/\LS w v' ls/\∀k,v'.ownBlock=some k->v.ownBlock=some k:=by
 obtain⟨a,c,rfl,hc,hm,hz⟩:=h;obtain⟨g,j,rfl,_⟩:=hz 0 z rfl;simp only[π]at hc;have jy:∀I,(Instr.slice 23 (ζ (some ⟨g,j,none⟩) (ls.length+1) c) (some (V Z 1)) none none).run prog I=.ok (.slice (if c=1 then some ⟨g,j,none⟩else some ⟨g,j+1,none⟩) ls.length (c-1)) I:=λI=>by
  have G:(1:Int)<=(ls.length:Int)+1:=by omega
  simp[Instr.slice,Instr.sliceBounds,Instr.sliceBound,go_sem,asIntOf,G,Addr.add]
 refine⟨_,jy,⟨_,_,rfl,by omega,by omega,λi x hi=>?_⟩,λk Y=>?_⟩
 ·have jw:=(List.getElem?_eq_some_iff.1 hi).1;obtain⟨g',j',e,iS⟩:=hz (i+1) x (by simpa using hi);cases e;rw[if_neg (by omega)];exact⟨g,j+1,rfl,by rw[Nat.add_assoc,Nat.add_comm 1 i];exact iS⟩
 split at Y<;>exact Y
def MJ (O:ak)(W0:ι)(b4 n4:Nat)(ov:Value)(aqx:Nat->aQ)(E:Nat->Nat->List Int->Prop)(i:Nat):aQ:=λD W=>
 (D b4/\∀k,D k->(O k\/k=b4)\/n4<=k)/\∃(q:Nat) (D0:ak) (ls:List Int) (v:Value),¬D0 b4/\lH O W0 (aqx q) D0 D W/\X W b4 [v] 23/\LS W0 v ls/\(∀k,v.ownBlock=some k->ov.ownBlock=some k)/\E q i ls
theorem MJ.cQ {O:ak}{W0:ι}{b4 n4:Nat}{ov:Value}{aqx:Nat->aQ}{E:Nat->Nat->List Int->Prop}{i:Nat}{D:ak}{W:ι}(hD:∀k,D k->k<W.heap.size)(h:MJ O W0 b4 n4 ov aqx E i D W):On D (MJ O W0 b4 n4 ov aqx E i) W:=by
 obtain⟨G,q,D0,ls,v,A,M,h4,h5⟩:=h;exact⟨hD,λW2 Y=>⟨G,q,D0,ls,v,A,M.keep Y,h4.keep (Y _ G.1),h5⟩⟩
structure MS (O:ak)(W0:ι)(l b3 b4:Nat)(ov:Value)(aqw:aQ)(D:ak)(W5:ι)(D0:ak)(ls:List Int)(v:Value)(w:ι):Prop where
 bu:lH O W0 aqw D0 (λk=>D k\/D0 k) w
 nb3:¬D0 b3
 nb:¬D0 b4
 y:X w b3 [.func (.yield l) #[] #[]] 79
 row:X w b4 [v] 23
 ls:LS W0 v ls
 fO:∀k,v.ownBlock=some k->ov.ownBlock=some k
 aM:aj D W5 w
 d0:∀k,D0 k->D k\/W5.heap.size<=k
 yA:aj O W0 w
section
variable {O:ak} {W0:ι} {l b3 b4 n4:Nat} {ov:Value} {aqw X':aQ} {D:ak} {W5:ι} {D0:ak} {ls rZ:List Int} {v v':Value} {w I:ι}
theorem MS.below (h:MS O W0 l b3 b4 ov aqw D W5 D0 ls v w)(U:Below w.heap.size w I):MS O W0 l b3 b4 ov aqw D W5 D0 ls v I:=
 ⟨h.bu.below U,h.nb3,h.nb,h.y.on U,h.row.on U,h.ls,h.fO,h.aM.aK (aj.aq U),h.d0,h.yA.aK (aj.aq U)⟩
theorem MS.yield (h:MS O W0 l b3 b4 ov aqw D W5 D0 ls v w)(h05:W0.heap.size<=W5.heap.size)(J:aO D0 w.heap.size X' w I):∃ni,MS O W0 l b3 b4 ov X' D W5 ni ls v I:=by
 have hs:=h.aM.size;obtain⟨ni,MU,d1,N⟩:=h.bu.post (by omega) J;refine⟨ni,⟨⟨λk Y=>.inr Y,MU.dO,MU.Od,MU.on⟩,λY=>(d1 _ Y).elim h.nb3 (by have:=h.y.lt;omega),λY=>(d1 _ Y).elim h.nb (by have:=h.row.lt;omega),h.y.aM N h.nb3,h.row.aM N h.nb,h.ls,h.fO,h.aM.trans N (λk Y=>h.d0 k Y),λk Y=>(d1 k Y).elim (h.d0 k) (λh'=>.inr (by omega)),h.yA.trans N (λk Y=>h.bu.dO k Y)⟩⟩
theorem MS.set (h:MS O W0 l b3 b4 ov aqw D W5 D0 ls v w)(U:D b4)(bj:W0.heap.size<=b4)(dp:b3≠b4)(K:LS W0 v' rZ)(Y:∀k,v'.ownBlock=some k->v.ownBlock=some k):MS O W0 l b3 b4 ov aqw D W5 D0 rZ v' (w.setCell ⟨b4,0,none⟩ v'):=
 ⟨h.bu.set h.nb _,h.nb3,h.nb,h.y.other dp _,h.row.set (k:=0) v',K,λk e=>h.fO k (Y k e),h.aM.setCell (.inl U) _,h.d0,h.yA.setCell (.inr bj) _⟩
theorem MS.head {z:Int}(h:MS O W0 l b3 b4 ov aqw D W5 D0 (z::ls) v w)(VI:∀k,ov.ownBlock=some k->k<W0.heap.size/\¬O k):∃g j c,v=ζ (some ⟨g,j,none⟩) (ls.length+1) c/\ls.length+1<=c/\g<W0.heap.size/\¬O g/\w.cell? ⟨g,j,none⟩=some (V Z z):=by
 have K:=h.ls.keep (I:=w) λk Y=>by
  obtain⟨G,A⟩:=VI k (h.fO k Y);exact h.yA.block k G A
 have tV:=h.fO;obtain⟨a,c,rfl,hc,_,hz⟩:=K;obtain⟨g,j,rfl,iS⟩:=hz 0 z rfl;obtain⟨G,A⟩:=VI g (tV g rfl);exact⟨g,j,c,rfl,by simpa using hc,G,A,by simpa using iS⟩
theorem MS.nil (h:MS O W0 l b3 b4 ov aqw D W5 D0 [] v w):∃a c,v=ζ a 0 c:=by
 obtain⟨a,c,e,_⟩:=h.ls;exact⟨a,c,e⟩
theorem MS.lt (h:MS O W0 l b3 b4 ov aqw D W5 D0 ls v w)(hD:∀k,D k->k<W5.heap.size):∀k,D k\/D0 k->k<w.heap.size:=λk Y=>Y.elim (λhd=>κ (hD k hd) h.aM.size) (λhd=>h.bu.on.1 k hd)
theorem MS.fin {aqx:Nat->aQ}{E:Nat->Nat->List Int->Prop}{i q:Nat}(h:MS O W0 l b3 b4 ov (aqx q) D W5 D0 ls v w)(hD:∀k,D k->k<W5.heap.size)(U:D b4)(hn:∀k,D k->(O k\/k=b4)\/n4<=k)(h5:n4<=W5.heap.size)(hE:E q i ls):aO D W5.heap.size (MJ O W0 b4 n4 ov aqx E i) W5 w:=
 ⟨h.aM,λk=>D k\/D0 k,λk Y=>Y.elim .inl (h.d0 k),λ_ Y=>.inl Y,MJ.cQ (h.lt hD) ⟨⟨.inl U,λk Y=>Y.elim (hn k) (λhd=>(h.d0 k hd).elim (hn k) (λh'=>.inr (by omega)))⟩,q,D0,ls,v,h.nb,h.bu,h.row,h.ls,h.fO,hE⟩⟩
theorem MS.RW {aqp:aQ}(h:MS O W0 l b3 b4 ov aqw D W5 D0 ls v w)(hD:∀k,D k->k<W5.heap.size):aO D W5.heap.size (pR O W0 aqp aqw .ret) W5 w:=
 ⟨h.aM,λk=>D k\/D0 k,λk Y=>Y.elim .inl (h.d0 k),λ_ Y=>.inl Y,pR.Sv (DX.cQ (h.lt hD) ⟨D0,h.bu⟩)⟩
theorem MS.RX (h:MS O W0 l b3 b4 ov aqw D W5 D0 ls v w)(hD:∀k,D k->k<W5.heap.size):aO D W5.heap.size (DX O W0 aqw) W5 w:=
 ⟨h.aM,λk=>D k\/D0 k,λk Y=>Y.elim .inl (h.d0 k),λ_ Y=>.inl Y,DX.cQ (h.lt hD) ⟨D0,h.bu⟩⟩
end
end
section
open Go.Sort
attribute [local go_sem] Oper.semAt_some
attribute [local go_sem] bK aU
attribute [local simp] bK aU
theorem afy {F:Fence}{nF:Nat}{ops:Array Μ}{rest:List Μ}{o:Μ}{a:Ψ}{w:ι}{Q:Exit->Ψ->ι->Prop}{x:Α}{v v':Value}(hg:o.guard=none)(ho:o.op=.slice 23 x (some (.const (V Z 1))) none none)(N:a.eval x=v)
 (hr:∀I,(Instr.slice 23 v (some (V Z 1)) none none).run prog I=.ok v' I)(hF:∀f,F.fn f)(hK:wpListIn F nF prog ops Q rest (a.put o.dst v') w):wpListIn F nF prog ops Q (o::rest) a w:=
 wpListIn_plain hg λaqy mv=>bz hF (by rw[ho];intro c hc;cases hc) (by
  obtain⟨_,_,_,_,_,_⟩:=o;simp only[]at ho;subst ho;unfold execOp;have h0:a.eval (.const (V Z 1))=V Z 1:=rfl;simp only[N,h0,Option.map_some,Option.map_none];exact bq (hr w)) (mv _ _ hK)
theorem St.put {O:ak}{W:ι}{aqx:aQ}{D:ak}{wr:ι}(h:St O W aqx D wr){b:Nat}(U:¬D b)(hW:W.heap.size<=b)(o:Obj):St O W aqx D (wr.putObj b o):=⟨h.aM.put (.inr hW) _,h.dO,h.Od,h.on.put U _⟩
def NM (l gz jz:Nat)(v:Value)(z:Int)(j:Nat)(x:Value):Prop:=match j with
 |0=>x=.func (.yield l) #[] #[]
 |1=>x=v
 |2=>x=ε (some ⟨gz,jz,none⟩)
 |_=>x=V Z z
theorem Yv {p:Addr}{a:Option Addr}{n c:Nat}{w:ι}(h:w.cell? p=some (ζ a n c)):(ο 23 (ε (some p))).run prog w=.ok (ζ a n c) w:=by
 go_simp
theorem ace {o:Μ}{a:Ψ}{w:ι}{x:Α}{g j n c:Nat}(ho:o.op=.indexAddr 23 x (.const (V Z 0)))(N:a.eval x=ζ (some ⟨g,j,none⟩) n c)(hn:0<n):(execOp a.eval o).run prog w=.ok (.value (ε (some ⟨g,j,none⟩))) w:=by
 obtain⟨_,_,_,_,_,_⟩:=o;simp only[]at ho;subst ho;unfold execOp;have h0:a.eval (.const (V Z 0))=V Z 0:=rfl;simp only[N,h0];go_simp
theorem VJ (XS OS:List Int)(g:Nat)(lb:Array Value)(R0:ak)(bo bt:Nat)(ov:Value)(w:ι)(hit:kO prog g lb (qC XS) R0 w)(eg:∀args w,(callFunc g args).run prog w=.ok (.enter g args) w)(hR0:∀k,R0 k->k<w.heap.size)
 (q1:X w bo [ov] 23)(q2:X w bt [.func (.func g) #[] lb] 134)(VI:LS w ov OS)(akV:∀k,ov.ownBlock=some k->k<w.heap.size):
 kO prog 142 #[ε (some ⟨bo,0,none⟩),ε (some ⟨bt,0,none⟩)] (qC (ji XS OS)) (λk=>k=bo\/k=bt\/R0 k\/ov.ownBlock=some k) w:=by
 intro l W O aqx Js Jp bA hR hO cM hY;have afz:=VI.keep λk Y=>hR k (.inr (.inr (.inr Y)));have akW:∀k,R0 k->W.heap[k]?=w.heap[k]?:=λk Y=>hR k (.inr (.inr (.inl Y)));replace q1:=q1.keep (hR bo (.inl rfl));replace q2:=q2.keep (hR bt (.inr (.inl rfl)));have nOR:∀k,O k->¬R0 k:=λk h h'=>hO k h (.inr (.inr (.inl h')));have Zy:∀k,O k->¬ov.ownBlock=some k:=λk h h'=>hO k h (.inr (.inr (.inr h')));have E3:prog.follows .mixedOrders=true:=by kernel_rfl
 have RY:∀k,R0 k->k<W.heap.size:=λk Y=>κ (hR0 k Y) bA;have aaD:∀k,ov.ownBlock=some k->k<W.heap.size:=λk Y=>κ (akV k Y) bA;clear hR hO VI;have PS:Hid (ji XS OS=ji (XS.drop 0) OS):=H rfl;have tP:=H (λ(i:Nat) (t:Int) (h:(ji XS OS)[i]?=some t)=>hY i _ (yz h));clear hY;rw[qD];generalize ji XS OS=YS at *
 have akX:=afz;obtain⟨ao,co,hoe,_⟩:=akX;refine di func142 rfl ?_;simp only[ntmps142,τ,π,Κ,Η,Ν,ψ,χ,Δ,ω,Ι,Θ];refine bO λaqy hK=>bQ ?_;gi_wp2_with fail;have r3:X (W.alloc (η #[.func (.yield l) #[] #[]] 79)) W.heap.size [.func (.yield l) #[] #[]] 79:=X.new W [.func (.yield l) #[] #[]] 79;have al:Below W.heap.size W (W.alloc (η #[.func (.yield l) #[] #[]] 79)):=(θ _ _).alloc (μ _) _;have zA:W.heap.size<(W.alloc (η #[.func (.yield l) #[] #[]] 79)).heap.size:=by simp
 generalize W.alloc (η #[.func (.yield l) #[] #[]] 79)=W1 at *
 refine bO λaqy hK=>bQ ?_;rw[hoe]at q1;have c1:=(q1.on al).cell (k:=0) rfl;gi_wp2_with fail;rw[<-hoe]at q1⊢;have r4:X (W1.alloc (η #[ov] 23)) W1.heap.size [ov] 23:=X.new W1 [ov] 23;have cD:Below W1.heap.size W1 (W1.alloc (η #[ov] 23)):=(θ _ _).alloc (μ _) _;replace r3:=r3.on cD;replace al:=al.trans (cD.mono al.size);have rB:W1.heap.size<(W1.alloc (η #[ov] 23)).heap.size:=by simp
 generalize W1.alloc (η #[ov] 23)=W2 at *
 generalize W1.heap.size=b4 at *
 clear c1 cD;refine bO λK1 fh=>?_;refine bO λaqy hK=>bQ ?_;have c2:=(q2.on al).cell (k:=0) rfl;gi_wp2_with fail;clear c2;refine gj ?_;refine kY (gf:=g) (lb:=lb) func142 ?g eg hit (by omega) (λk Y=>(al.block k (RY k Y)).trans (akW k Y)) (λk Y=>by have:=RY k Y;omega)
  (λk=>O k\/k=b4) (λk Y bV=>Y.elim (λh=>nOR k h bV) (λh=>by have:=RY k bV;omega)) (MJ O W b4 W2.heap.size ov aqx λq i ls=>q<=YS.length/\YS.drop q=ji (XS.drop i) ls) (pR O W (aqx YS.length) Js) (λc=>DX O W (Jp c)) ?ps ?start ?round ?done ?stop ?pan
 case g=>rfl
 case ps=>intro x N;obtain⟨d,_,rfl⟩:=List.mem_map.1 N;rfl
 case start=>exact MJ.cQ (λk Y=>Y.elim (λh=>by have:=cM.1 k h;omega) (λh=>by omega)) ⟨⟨.inr rfl,λk Y=>.inl Y⟩,0,O,OS,ov,λh=>by have:=cM.1 _ h;omega,⟨λk Y=>.inl Y,λk Y=>.inl Y,λk Y=>Y,cM.below al⟩,r4,afz,λk Y=>Y,Χ _,by simpa using PS.out⟩
 case stop=>
  rintro c W4 ⟨N,D,cx,_,aG⟩ hs bM;have dY:aj O W (W4.putObj W2.heap.size (.deferred none)):=((aj.aq al).trans N (λk Y=>Y.imp id λh=>by omega)).put (.inr (by omega)) _;have cO:¬D W2.heap.size:=λh=>(cx _ h).elim (λh=>h.elim (λh=>by have:=cM.1 _ h;omega) (by omega)) (by omega);obtain⟨rfl,h⟩:=aG.out;have fG:=H (show aO O W.heap.size (aqx YS.length) W (W4.putObj W2.heap.size (.deferred none))\/aO O W.heap.size Js W (W4.putObj W2.heap.size (.deferred none))from by
   rcases h with⟨D0,h⟩|⟨D0,h⟩
   ·exact .inl ((h.put cO _).fin dY)
   exact .inr ((h.put cO _).fin dY))
  clear h aG cx;gi_wp2_with fail;refine⟨by simp,.inl ⟨_,_,rfl,run_takeDeferred bM,?_⟩⟩;exact⟨_,results_none rfl _ _ _,.inl ⟨⟨_,rfl⟩,fG.out⟩⟩
 case pan=>
  rintro c W4 ⟨N,D,cx,_,aG⟩ hs bM;have dY:aj O W (W4.putObj W2.heap.size (.deferred none)):=((aj.aq al).trans N (λk Y=>Y.imp id λh=>by omega)).put (.inr (by omega)) _;have cO:¬D W2.heap.size:=λh=>(cx _ h).elim (λh=>h.elim (λh=>by have:=cM.1 _ h;omega) (by omega)) (by omega);obtain⟨D0,h⟩:=aG.out;refine⟨by simp,.inl ⟨_,_,rfl,run_takeDeferred bM,?_⟩⟩;exact .inr ⟨c,rfl,(h.put cO _).fin dY⟩
 case done=>
  rw[qD];rintro W4 ⟨N,D,cx,_,aG⟩ hs bM;have dY:aj O W W4:=(aj.aq al).trans N (λk Y=>Y.imp id λh=>by omega);have cO:¬D W2.heap.size:=λh=>(cx _ h).elim (λh=>h.elim (λh=>by have:=cM.1 _ h;omega) (by omega)) (by omega);have wU:¬D W.heap.size:=λh=>(cx _ h).elim (λh=>h.elim (λh=>by have:=cM.1 _ h;omega) (by omega)) (by omega);have y3:=r3.aM N (show¬(O W.heap.size\/W.heap.size=b4)from λh=>h.elim (λh=>by have:=cM.1 _ h;omega) (by omega));obtain⟨_,q,D0,ls,v,nb,bu,row,vm,hblk,hq,kT⟩:=aG.out;have MY:=H (show YS.drop q=ls from by rw[kT,Ο];rfl);have st:St O W (aqx q) D0 W4:=⟨dY,bu.dO,bu.Od,bu.on⟩;have afA:¬D0 W.heap.size:=λh=>wU (bu.sub _ h);have afB:¬D0 W2.heap.size:=λh=>cO (bu.sub _ h);have akY:=H (λwr (je:aj O W wr)=>vm.keep (I:=wr) λk Y=>je.block k (aaD k (hblk k Y)) (λh=>Zy k h (hblk k Y)));clear aG kT bu nb hit r3 r4 hblk N cx cO wU PS;obtain⟨av,cv,rfl,_⟩:=vm;have c4:=row.cell (k:=0) rfl;simp only[Exit.inBlock,Exit.then];refine fh _ _ (bQ ?_);clear fh;have lA:Hid (q+ls.length=YS.length):=H (by have:=congrArg List.length MY.out;simp at this;omega);have rB:W.heap.size<=W2.heap.size:=by omega
  generalize W2.heap.size=nd at *
  gi_wp2_with fail;clear c4 row;gi_loopg [47] ls.length (λn c wr=>∃(i:Nat) (D0:ak),i+n=ls.length/\c=V Z i/\St O W (aqx (q+i)) D0 wr/\¬D0 W.heap.size/\X wr W.heap.size [.func (.yield l) #[] #[]] 79/\¬D0 nd/\wr.heap[nd]?=some (.deferred (some [])))
  case atStart=>exact⟨0,D0,by omega,rfl,st,afA,y3,afB,bM⟩
  case round=>
   clear st afA y3 afB bM dY;obtain⟨i,D0,mw,rfl,st,wU,y3,cO,bM⟩:=hrel;have hsw:=st.aM.size;by_cases hi:i=ls.length
   case pos=>
    subst hi;gi_wp2_with fail;refine⟨by simp,.inl ⟨_,_,rfl,run_takeDeferred bM,?_⟩⟩;refine⟨_,results_none rfl _ _ _,.inl ⟨⟨_,rfl⟩,.inl ?_⟩⟩;rw[<-lA.out];exact(st.put cO rB _).fin
   case neg=>
    have wm:i<ls.length:=by omega
    obtain⟨z,hz⟩:∃z,ls[i]?=some z:=⟨_,ν wm⟩;have pM:YS[q+i]?=some z:=by
     have G:(YS.drop q)[i]?=some z:=by rw[MY.out];exact hz
     rwa [List.getElem?_drop]at G
    obtain⟨a',c',e',_,_,Tm⟩:=akY.out wr st.aM;obtain⟨gz,jz,e2,iS⟩:=Tm i z hz;cases e';subst e2;obtain⟨D6,tR,D7,D8,gC,eB⟩:=tP.out (q+i) z pM wr D0 st.aM st.dO st.Od st.on;have c3:=y3.cell (k:=0) rfl;clear pM hz Tm;gi_wp2_with fail;refine eB.mono ?_;clear gC eB c3 iS;rintro e WX (⟨rfl,J⟩|⟨rfl,J⟩|⟨ch,rfl,J⟩)
    case inl=>
     obtain⟨D1,st1,d1,bC⟩:=st.post J;have y3':=y3.aM bC wU;have o5:=(bC.block nd (Array.getElem?_eq_some_iff.1 bM).1 cO).trans bM;have oD:=y3.lt;have afC:=(Array.getElem?_eq_some_iff.1 bM).1;clear J bC;gi_wp2_with fail;gi_roundg (gk-1)
     case measure=>omega
     case rel=>exact⟨i+1,D1,by omega,by go_num,st1,λh=>(d1 _ h).elim wU (by omega),y3',λh=>(d1 _ h).elim cO (by omega),o5⟩
    case inr.inl=>
     obtain⟨D1,st1,d1,bC⟩:=st.post J;have o5:=(bC.block nd (Array.getElem?_eq_some_iff.1 bM).1 cO).trans bM;have afC:=(Array.getElem?_eq_some_iff.1 bM).1;clear J bC;gi_wp2_with fail;refine⟨by simp,.inl ⟨_,_,rfl,run_takeDeferred o5,?_⟩⟩;exact⟨_,results_none rfl _ _ _,.inl ⟨⟨_,rfl⟩,.inr (st1.put (λh=>(d1 _ h).elim cO (by omega)) rB _).fin⟩⟩
    case inr.inr=>
     obtain⟨D1,st1,d1,bC⟩:=st.post J;have o5:=(bC.block nd (Array.getElem?_eq_some_iff.1 bM).1 cO).trans bM;have afC:=(Array.getElem?_eq_some_iff.1 bM).1;clear J bC;gi_wp2_with fail;refine⟨by simp,.inl ⟨_,_,rfl,run_takeDeferred o5,?_⟩⟩;exact .inr ⟨ch,rfl,(st1.put (λh=>(d1 _ h).elim cO (by omega)) rB _).fin⟩
 case round=>
  intro BA i x N W4 D yM hs dT aG aqy hK;obtain⟨t,hd⟩:∃t,XS[i]?=some t:=⟨_,ν (by have:=(List.getElem?_eq_some_iff.1 N).1;rwa [qD]at this)⟩;rw[yz hd]at N;cases N;have vF:=H (drop_one hd);clear hd;gi_wp2_with fail;refine hK _ _ D (θ _ _) (λk Y=>.inl Y) (λk Y=>Y) (λk Y=>aG.1 k Y) ?_;intro l' W5 fD bN wF;have dX:=aG.on (W':=W5) fD;have mq:aj O W W5:=(aj.aq al).trans bN (λk Y=>Y.imp id λh=>by omega);have y3:=r3.aM bN (show¬(O W.heap.size\/W.heap.size=b4)from λh=>h.elim (λh=>by have:=cM.1 _ h;omega) (by omega));have dP:∀k,D k->k<W5.heap.size:=dX.1;have o8:W.heap.size<=W5.heap.size:=by omega
  clear hK fD hit aG r3 r4;obtain⟨⟨uh,hDn⟩,q,D0,ls,v,nb,bu,row,vm,hblk,hq,kT⟩:=dX.out;have hD3:¬D W.heap.size:=λh=>(hDn _ h).elim (λh=>h.elim (λh=>by have:=cM.1 _ h;omega) (by omega)) (by omega);have ms:MS O W l W.heap.size b4 ov (aqx q) D W5 D0 ls v W5:=⟨⟨λk Y=>.inr Y,bu.dO,bu.Od,bu.on⟩,λh=>hD3 (bu.sub _ h),nb,y3,row,vm,hblk,aj.refl _ _,λk Y=>.inl (bu.sub k Y),mq⟩;have MY:=H (show YS.drop q=uP t (XS.drop (i+1)) ls from by rw[kT,vF.out];rfl);clear dX bu row kT vF nb vm hblk;have akZ:∀k,ov.ownBlock=some k->k<W.heap.size/\¬O k:=λk Y=>⟨aaD k Y,λh=>Zy k h Y⟩;have afD:W.heap.size<=b4:=by omega
  gi_wp2_with fail;gi_loopg [] ls.length (λn wr=>∃(q:Nat) (D0:ak) (ls:List Int) (v:Value),ls.length=n/\q<=YS.length/\Hid (YS.drop q=uP t (XS.drop (i+1)) ls)/\MS O W l W.heap.size b4 ov (aqx q) D W5 D0 ls v wr)
  case atStart=>exact⟨q,D0,ls,v,rfl,hq,MY,ms⟩
  case round=>
   clear ms MY hq;obtain⟨q,D0,ls,v,lA,hq,kT,ms⟩:=hrel;have hn5:W2.heap.size<=W5.heap.size:=by omega
   have c3:=ms.y.cell (k:=0) rfl;rcases ls with _|⟨z,r⟩
   case nil=>
    obtain⟨a0,c0,rfl⟩:=ms.nil;have c4:=ms.row.cell (k:=0) rfl;obtain⟨pM,lG,zf⟩:=oP (kT.out.trans Yu);replace lG:=H lG;obtain⟨D6,tR,D7,D8,gC,eB⟩:=tP.out q t pM wr D0 ms.yA ms.bu.dO ms.bu.Od ms.bu.on;clear pM kT;gi_wp2_with fail;clear c3 c4;refine(RoundIn.inRound l' eB).mono ?_;clear gC eB;rintro e WX (⟨rfl,J⟩|⟨rfl,J⟩|⟨ch,rfl,J⟩)
    case inl=>
     obtain⟨ni,kR⟩:=ms.yield o8 J;clear J;gi_wp2_with fail;exact kR.fin dP uh hDn hn5 ⟨zf,lG.out⟩
    case inr.inl=>
     obtain⟨ni,kR⟩:=ms.yield o8 J;clear J;gi_wp2_with fail;exact kR.RW dP
    case inr.inr=>
     obtain⟨ni,kR⟩:=ms.yield o8 J;clear J;gi_wp2_with fail;exact⟨rfl,kR.RX dP⟩
   case cons=>
    obtain⟨gz,jz,cz,rfl,hcz,hgz,hgO,iS⟩:=ms.head akZ;have c4:=ms.row.cell (k:=0) rfl;have f4:=ms.row.free (k:=0);have wO:((r.length:Int)+1:Int)>0:=by omega
    by_cases hzt:z<t
    case pos=>
     obtain⟨pM,lG,zf⟩:=oP (kT.out.trans (aca hzt));replace lG:=H lG;obtain⟨v',hsl,MZ,hvk⟩:=ms.ls.tail;have hY':=H (λI (U:Below wr.heap.size wr I)=>tP.out q z pM I D0 (ms.below U).yA ms.bu.dO ms.bu.Od (ms.below U).bu.on);clear pM kT;gi_upto_region 5 with fail;rename_i K5 ZB;have g3:∀I,Below wr.heap.size wr I->(ο 79 (ε (some ⟨W.heap.size,0,none⟩))).run prog I=.ok (.func (.yield l) #[] #[]) I:=λI U=>MT ((ms.y.on U).cell (k:=0) rfl);have g4:∀I,Below wr.heap.size wr I->(ο 23 (ε (some ⟨b4,0,none⟩))).run prog I=.ok (ζ (some ⟨gz,jz,none⟩) (r.length+1) cz) I:=λI U=>Yv ((ms.row.on U).cell (k:=0) rfl);have g5:∀I,Below wr.heap.size wr I->(ο 3 (ε (some ⟨gz,jz,none⟩))).run prog I=.ok (V Z z) I:=λI U=>dQ ((U.cell (p:=⟨gz,jz,none⟩) (κ hgz ms.yA.size)).trans iS);refine mS (YJ 21 4 6 _ wr (NM l gz jz (ζ (some ⟨gz,jz,none⟩) (r.length+1) cz) z) (λW'=>∃I,Below wr.heap.size wr I/\aO D0 I.heap.size (aqx (q+1)) I W') (λW'=>∃I,Below wr.heap.size wr I/\aO D0 I.heap.size Js I W') BB) E3 (by kernel_rfl) ?rops ?rdone (YJ.start (θ _ _).drew)
     case rdone=>
      intro L a WX bD hI;obtain⟨_,b,FC,hT,hF,hB⟩:=hI.post (bD 4 (by decide));have MV:a.eval (.tmp 26)=.bool (!b):=hB 5 (by decide) (bD 5 (by decide));have PZ:a.eval (.tmp 21)=.func (.yield l) #[] #[]:=hI.ew 0 (by decide) (bD 0 (by decide));have PX:a.eval (.tmp 22)=ζ (some ⟨gz,jz,none⟩) (r.length+1) cz:=hI.ew 1 (by decide) (bD 1 (by decide));have PY:a.eval (.tmp 23)=ε (some ⟨gz,jz,none⟩):=hI.ew 2 (by decide) (bD 2 (by decide));have P0:a.eval (.tmp 24)=V Z z:=hI.ew 3 (by decide) (bD 3 (by decide));have ha:=Yt 21 6 a _ hI.size hI.defers (show 27<=56 by decide) hI.fixed;rw[show Β 6=[0,1,2,3,4,5]from rfl]at ha;simp only[List.foldl_cons,List.foldl_nil,Η,PZ,PX,PY,P0,MV]at ha;replace FC:a.eval (.tmp 25)=.bool b:=FC;rw[FC]at ha;clear hI hB PZ PX PY P0 FC MV;rw[ha];clear ha;simp only[Act.put,List.setIfInBounds_toArray,List.set_cons_zero,List.set_cons_succ];refine ZB _ _ ?_;clear ZB g3 g4 g5;cases b
      case true=>
       obtain⟨I,fA,J⟩:=hT rfl;obtain⟨ni,kR⟩:=(ms.below fA).yield o8 J;clear hT hF J;have Cb:=kR.set uh afD (by omega) MZ hvk;have d4:=kR.row.cell (k:=0) rfl;have e4:=kR.row.free (k:=0);have mG:=MZ;obtain⟨av,cv,rfl,_⟩:=mG;gi_wp2_with (refine afy rfl rfl rfl hsl (λ_=>trivial) ?_);gi_roundg r.length
       case measure=>simp at lA;omega
       case rel=>exact⟨q+1,ni,r,_,rfl,zf,lG,Cb⟩
      case false=>
       obtain⟨I,fA,J⟩:=hF rfl;obtain⟨ni,kR⟩:=(ms.below fA).yield o8 J;clear hT hF J;gi_wp2_with fail;exact kR.RW dP
     case rops=>
      intro L j o a I ho fF cG hC hI;have hj:j<6:=(Array.getElem?_eq_some_iff.1 ho).1;have s3:a.eval (.tmp 3)=ε (some ⟨W.heap.size,0,none⟩):=hI.fixed 3 (by omega);have s4:a.eval (.tmp 4)=ε (some ⟨b4,0,none⟩):=hI.fixed 4 (by omega);have ea:j=0\/j=1\/j=2\/j=3\/j=4\/j=5:=by omega
      rcases ea with rfl|rfl|rfl|rfl|rfl|rfl<;>obtain rfl:=Γ ho
      ·exact dd rfl rfl (bz (λ_=>trivial) (λ_ h=>by cases h) (aV rfl s3 (g3 _ (hI.below (by decide) fF))) (hI.fM (by decide) fF (by decide) (show 27<=56 by decide) rfl (θ _ _) rfl))
      ·exact dd rfl rfl (bz (λ_=>trivial) (λ_ h=>by cases h) (aV rfl s4 (g4 _ (hI.below (by decide) fF))) (hI.fM (by decide) fF (by decide) (show 27<=56 by decide) rfl (θ _ _) rfl))
      ·have PX:a.eval (.tmp 22)=ζ (some ⟨gz,jz,none⟩) (r.length+1) cz:=hI.ew 1 (by decide) (cG ⟨1,.data⟩ (by simp) rfl);exact dd rfl rfl (bz (λ_=>trivial) (λ_ h=>by cases h) (ace rfl PX (by omega)) (hI.fM (by decide) fF (by decide) (show 27<=56 by decide) rfl (θ _ _) rfl))
      ·have PY:a.eval (.tmp 23)=ε (some ⟨gz,jz,none⟩):=hI.ew 2 (by decide) (cG ⟨2,.data⟩ (by simp) rfl);exact dd rfl rfl (bz (λ_=>trivial) (λ_ h=>by cases h) (aV rfl PY (g5 _ (hI.below (by decide) fF))) (hI.fM (by decide) fF (by decide) (show 27<=56 by decide) rfl (θ _ _) rfl))
      ·have bD:∀j,j<4->L j=true:=by
        have l0:=cG ⟨0,.data⟩ (by simp) rfl;have l3:=cG ⟨3,.data⟩ (by simp) rfl;have l2:=hC 3 _ rfl l3 ⟨2,.data⟩ (by simp) rfl;have l1:=hC 2 _ rfl l2 ⟨1,.data⟩ (by simp) rfl;intro j hj;have ea:j=0\/j=1\/j=2\/j=3:=by omega
        rcases ea with rfl|rfl|rfl|rfl<;>assumption
       have PZ:a.eval (.tmp 21)=.func (.yield l) #[] #[]:=hI.ew 0 (by decide) (bD 0 (by decide));have P0:a.eval (.tmp 24)=V Z z:=hI.ew 3 (by decide) (bD 3 (by decide));have gQ:=(hI.pre fF).1;obtain⟨D6,tR,D7,D8,gC,eB⟩:=hY'.out I gQ;refine dd rfl rfl (Fz (λ_ h=>by cases h) (VE rfl PZ P0 gC) eB ?_ ?_ ?_)
       ·rintro v W' (⟨he,J⟩|⟨he,J⟩|⟨c,he,_⟩)
        ·cases he;exact hI.FA bD fF (by decide) (show 27<=56 by decide) (λ_=>⟨I,gQ,J⟩) (λh=>by cases h) rfl
        ·cases he;exact hI.FA bD fF (by decide) (show 27<=56 by decide) (λh=>by cases h) (λ_=>⟨I,gQ,J⟩) rfl
        cases he
       ·rintro c W' (⟨he,_⟩|⟨he,_⟩|⟨c',he,J⟩)
        ·cases he
        ·cases he
        cases he;obtain⟨ni,kR⟩:=(ms.below gQ).yield o8 J;exact⟨hI.defers,kR.RX dP⟩
       rintro W' (⟨he,_⟩|⟨he,_⟩|⟨c',he,_⟩)<;>cases he
      have l4:=cG ⟨4,.data⟩ (by simp) rfl;obtain⟨_,b,FC,_,_,_⟩:=hI.post l4;exact dd rfl rfl (bz (λ_=>trivial) (λ_ h=>by cases h) (PW rfl FC) (hI.yy (by decide) fF l4 (by decide) (show 27<=56 by decide) (λb' fA=>by
       have afG:a.eval (.tmp 25)=.bool b':=fA;have agM:a.eval (.tmp 25)=.bool b:=FC;rw[agM]at afG;cases afG;rfl) rfl))
    case neg=>
     by_cases hze:z=t
     case pos=>
      subst hze;obtain⟨pM,lG,zf⟩:=oP (kT.out.trans acb);replace lG:=H lG;obtain⟨v',hsl,MZ,hvk⟩:=ms.ls.tail;have Cb:=ms.set uh afD (by omega) MZ hvk;obtain⟨av,cv,rfl,_⟩:=MZ;obtain⟨D6,tR,D7,D8,gC,eB⟩:=tP.out q z pM _ D0 Cb.yA Cb.bu.dO Cb.bu.Od Cb.bu.on;have c3':=Cb.y.cell (k:=0) rfl;clear pM kT;gi_wp2_with (refine afy rfl rfl rfl hsl (λ_=>trivial) ?_);clear c3 c4 c3' f4 iS hsl;refine(RoundIn.inRound l' eB).mono ?_;clear gC eB;rintro e WX (⟨rfl,J⟩|⟨rfl,J⟩|⟨ch,rfl,J⟩)
      case inl=>
       obtain⟨ni,kR⟩:=Cb.yield o8 J;clear J;gi_wp2_with fail;exact kR.fin dP uh hDn hn5 ⟨zf,lG.out⟩
      case inr.inl=>
       obtain⟨ni,kR⟩:=Cb.yield o8 J;clear J;gi_wp2_with fail;exact kR.RW dP
      case inr.inr=>
       obtain⟨ni,kR⟩:=Cb.yield o8 J;clear J;gi_wp2_with fail;exact⟨rfl,kR.RX dP⟩
     case neg=>
      obtain⟨pM,lG,zf⟩:=oP (kT.out.trans (acd (by omega)));replace lG:=H lG;obtain⟨D6,tR,D7,D8,gC,eB⟩:=tP.out q t pM wr D0 ms.yA ms.bu.dO ms.bu.Od ms.bu.on;have aoL:(z==t)=false:=by simpa using hze
      clear pM kT;gi_wp2_with fail;clear c3 c4 f4 iS;refine(RoundIn.inRound l' eB).mono ?_;clear gC eB;rintro e WX (⟨rfl,J⟩|⟨rfl,J⟩|⟨ch,rfl,J⟩)
      case inl=>
       obtain⟨ni,kR⟩:=ms.yield o8 J;clear J;gi_wp2_with fail;exact kR.fin dP uh hDn hn5 ⟨zf,lG.out⟩
      case inr.inl=>
       obtain⟨ni,kR⟩:=ms.yield o8 J;clear J;gi_wp2_with fail;exact kR.RW dP
      case inr.inr=>
       obtain⟨ni,kR⟩:=ms.yield o8 J;clear J;gi_wp2_with fail;exact⟨rfl,kR.RX dP⟩
end
section
open Go.Sort
attribute [local go_sem] Oper.semAt_some
attribute [local go_sem] bK aU
attribute [local simp] bK aU
theorem VK (a:Ψ)(h:a.tmps.size=25)(hd:a.defers=[]):∃f:Nat->Value,a=⟨ώ (f 0::f 1::f 2::f 3::f 4::f 5::f 6::f 7::f 8::f 9::f 10::f 11::f 12::f 13::f 14::f 15::f 16::f 17::f 18::f 19::f 20::f 21::f 22::f 23::f 24::[]),[]⟩/\∀k,a.eval (.tmp k)=f k:=gK 25 a h hd
theorem kO.later {P:Program}{g:Nat}{lb:Array Value}{xs:List (Array Value)}{R:ak}{w I:ι}(h:kO P g lb xs R w)(hR:∀k,R k->k<w.heap.size)(U:Below w.heap.size w I):kO P g lb xs R I:=
 λl W O aqx Js Jp hs Y=>h l W O aqx Js Jp (Ξ U.size hs) λk hr=>(Y k hr).trans (U.block k (hR k hr))
def fb (hr:Bool)(r:aE)(st f to:Int)(ex xt:List Int):List Int:=ji (sO hr r st f to ex) (iz st f to ex xt)
def o7 (ln:Int)(l:List Int):List (Array Value):=l.map λb=>#[.agg #[V Z b,V Z (b+ln)]]
theorem rE (ln:Int)(l:List Int):(o7 ln l).length=l.length:=by unfold o7;simp
theorem zB {ln:Int}{l:List Int}{i:Nat}{b:Int}(h:l[i]?=some b):(o7 ln l)[i]?=some #[.agg #[V Z b,V Z (b+ln)]]:=by unfold o7;rw[Ε,h];rfl
theorem Yw (g:Nat)(lb:Array Value)(a:Option Addr)(n c:Nat)(w:ι):
 Λ prog 87 #[.func (.func g) #[] lb,ζ a n c] w λe I=>e=δ (.func (.func 142) #[] #[ε (some ⟨w.heap.size+1,0,none⟩),ε (some ⟨w.heap.size,0,none⟩)])/\I=(w.alloc (η #[.func (.func g) #[] lb] 134)).alloc (η #[ζ a n c] 23):=by
 go_enter func87,ntmps87;go_wp2_with fail;go_ret;exact⟨rfl,rfl⟩
def NI (W:ι)(u:ByteArray)(st ln:Int)(hr:Bool)(r:aE)(m md wk pl:Value)(tx:ByteArray)(aI aH:Value)(ex xt:List Int)(tr:Bool)(k:Int)(f to:Int)(i:Nat)(v:Value)(w:ι):Prop:=match i with
 |0=>v=.agg (cE u st ln hr r m md wk pl tx aI aH tr k).toArray
 |1=>v=V Z f
 |2=>v=V Z to
 |3=>∃g lb R,v=.func (.func g) #[] lb/\kO prog g lb (qC (sO hr r st f to ex)) R w/\(∀k,R k->k<w.heap.size/\(kP m md wk pl aI aH k\/W.heap.size<=k))/\(∀args w,(callFunc g args).run prog w=.ok (.enter g args) w)
 |4=>v=.agg (cE u st ln hr r m md wk pl tx aI aH tr k).toArray
 |5=>v=V Z f
 |6=>v=V Z to
 |7=>w.ownsRow W.heap.size 3 1 v (iz st f to ex xt).length (ints (iz st f to ex xt))
 |_=>∃g lb R,v=.func (.func g) #[] lb/\kO prog g lb (qC (fb hr r st f to ex xt)) R w/\(∀k,R k->k<w.heap.size/\(kP m md wk pl aI aH k\/W.heap.size<=k))/\(∀args w,(callFunc g args).run prog w=.ok (.enter g args) w)
theorem NI.grow {W:ι}{u:ByteArray}{st ln:Int}{hr:Bool}{r:aE}{m md wk pl:Value}{tx:ByteArray}{aI aH:Value}{ex xt:List Int}{tr:Bool}{k f to:Int}(i:Nat)(v:Value)(w I:ι)(h:NI W u st ln hr r m md wk pl tx aI aH ex xt tr k f to i v w)(U:Below w.heap.size w I):NI W u st ln hr r m md wk pl tx aI aH ex xt tr k f to i v I:=by
 match i,h with
 |0,h|1,h|2,h|4,h|5,h|6,h=>exact h
 |3,h=>
  obtain⟨g,lb,R,G,A,M,h4⟩:=h;exact⟨g,lb,R,G,A.later (λk Y=>(M k Y).1) U,λk Y=>⟨κ (M k Y).1 U.size,(M k Y).2⟩,h4⟩
 |7,h=>exact eK h λg hg=>U.block g (World.ownsRow.lt h g hg).2
 |n+8,h=>
  obtain⟨g,lb,R,G,A,M,h4⟩:=h;exact⟨g,lb,R,G,A.later (λk Y=>(M k Y).1) U,λk Y=>⟨κ (M k Y).1 U.size,(M k Y).2⟩,h4⟩
def wo (l be bf bt b4:Nat):List (Nat×Value):=[(0,.func (.yield l) #[] #[]),(1,ε (some ⟨be,0,none⟩)),(2,ε (some ⟨bf,0,none⟩)),(3,ε (some ⟨bt,0,none⟩)),(4,ε (some ⟨b4,0,none⟩))]
theorem Yx {b:Nat}{w:ι}{u:ByteArray}{st ln:Int}{hr:Bool}{r:aE}{m md wk pl:Value}{tx:ByteArray}{aI aH:Value}{tr:Bool}{k:Int}(h:X w b (cE u st ln hr r m md wk pl tx aI aH tr k) 99):(ο 99 (ε (some ⟨b,0,none⟩))).run prog w=.ok (.agg (cE u st ln hr r m md wk pl tx aI aH tr k).toArray) w:=
 run_loadAt_mid w b 0 99 _ _ (gq h) underlying99 rfl fT
end
section
open Go.Sort
attribute [local go_sem] Oper.semAt_some
attribute [local go_sem] bK aU
attribute [local simp] bK aU
theorem afH (l be bf bt b4:Nat)(W:ι)(u:ByteArray)(st ln:Int)(hr:Bool)(r:aE)(m md wk pl:Value)(tx:ByteArray)(aI aH:Value)(ex xt:List Int)(tr:Bool)(k:Int)(f to:Int):qQ (λi=>6+i) (wo l be bf bt b4) 25 9 (NI W u st ln hr r m md wk pl tx aI aH ex xt tr k f to):=
 ⟨λi hi=>by show 6+i<25;omega,λi j hi hj h=>by have h':6+i=6+j:=h;omega,λp J i hi=>by
  simp only[wo,Ζ,υ,or_false]at J;show p.1≠6+i;rcases J with rfl|rfl|rfl|rfl|rfl<;>simp<;>omega,NI.grow⟩
theorem acf (u:ByteArray)(st ln:Int)(hr:Bool)(r:aE)(m md wk pl:Value)(tx:ByteArray)(aI aH:Value)(ex xt:List Int)(tr:Bool)(k:Int)(f to:Int)(be bf bt:Nat)(w:ι)(K:jX w hr r m md wk pl aI aH ex xt)
 (s0:0<=st)(s1:st<=7258118400)(l0:0<=ln)(l1:ln<=10000000)(f0:-1000000000000<=f)(f1:f<=7258118400)(t0:0<=to)(t1:to<=7258118400)(ox:∀t∈fb hr r st f to ex xt,-100000000000<=t/\t<=100000000000)
 (q1:X w be (cE u st ln hr r m md wk pl tx aI aH tr k) 99)(q2:X w bf [V Z f] 3)(q3:X w bt [V Z to] 3):
 kO prog 86 #[ε (some ⟨be,0,none⟩),ε (some ⟨bf,0,none⟩),ε (some ⟨bt,0,none⟩)] (o7 ln (fb hr r st f to ex xt)) (λk=>k=be\/k=bf\/k=bt\/kP m md wk pl aI aH k) w:=by
 intro l W O aqx Js Jp bA hR hO cM hY;have eG:=K.keep λk Y=>hR k (.inr (.inr (.inr Y)));replace q1:=q1.keep (hR be (.inl rfl));replace q2:=q2.keep (hR bf (.inr (.inl rfl)));replace q3:=q3.keep (hR bt (.inr (.inr (.inl rfl))));have Jg:¬O be:=λh=>hO be h (.inl rfl);have Is:∀k,O k->¬kP m md wk pl aI aH k:=λk h h'=>hO k h (.inr (.inr (.inr h')));have Cs:=q1.lt;have hRB:Hid (∀wr,Below W.heap.size W wr->Λ prog 88 #[.agg (cE u st ln hr r m md wk pl tx aI aH tr k).toArray,V Z f,V Z to] wr (dR (qC (sO hr r st f to ex)) (kP m md wk pl aI aH) wr)):=
  H λwr U=>MX u st ln hr r m md wk pl tx aI aH ex xt tr k f to wr (eG.on U) s0 s1 f0 f1 t0 t1
 have hXB:Hid (∀wr,Below W.heap.size W wr->Λ prog 89 #[.agg (cE u st ln hr r m md wk pl tx aI aH tr k).toArray,V Z f,V Z to] wr λe I=>∃v,e=δ v/\I.ownsRow wr.heap.size 3 1 v (iz st f to ex xt).length (ints (iz st f to ex xt))/\Below wr.heap.size wr I):=
  H λwr U=>JU u st ln hr r m md wk pl tx aI aH ex xt tr k f to wr (eG.on U)
 have J1:∀k,kP m md wk pl aI aH k->k<W.heap.size/\¬O k:=λk h=>⟨eG.fO h,λh'=>Is k h' h⟩;clear hR hO K bA eG Is;have tP:=H (λ(i:Nat) (t:Int) (h:(fb hr r st f to ex xt)[i]?=some t)=>hY i _ (zB h));clear hY;rw[rE];have egM:∀args w,(callFunc 142 args).run prog w=.ok (.enter 142 args) w:=enters_of func142 (by kernel_rfl) rfl;refine di func86 rfl ?_;simp only[ntmps86,τ,π,Κ,Η,Ν,ψ,χ,Δ,ω,Ι,Θ];refine bO λaqy hK=>bQ ?_;gi_wp2_with fail;have r4:X (W.alloc (η #[.func (.yield l) #[] #[]] 132)) W.heap.size [.func (.yield l) #[] #[]] 132:=X.new W [.func (.yield l) #[] #[]] 132;have al:Below W.heap.size W (W.alloc (η #[.func (.yield l) #[] #[]] 132)):=(θ _ _).alloc (μ _) _;have zA:W.heap.size<(W.alloc (η #[.func (.yield l) #[] #[]] 132)).heap.size:=by simp
 generalize W.alloc (η #[.func (.yield l) #[] #[]] 132)=W2 at *
 refine bO λK1 fh=>bQ (wpIn_wide.2 ?_);have aqA:=afH l be bf bt W.heap.size W2 u st ln hr r m md wk pl tx aI aH ex xt tr k f to;have p1:=H λI (h:Below W2.heap.size W2 I)=>Yx ((q1.on al).on h);have p2:=H λI (h:Below W2.heap.size W2 I)=>dQ (((q2.on al).on h).cell (k:=0) rfl);have p3:=H λI (h:Below W2.heap.size W2 I)=>dQ (((q3.on al).on h).cell (k:=0) rfl);refine iw (GV (λi=>6+i) (NI W2 u st ln hr r m md wk pl tx aI aH ex xt tr k f to)) (JV 25 (wo l be bf bt W.heap.size) W2) (by kernel_rfl) (by kernel_rfl) (by kernel_rfl) ?rops ?rdone ⟨rfl,rfl,λp J=>by
  simp only[wo,Ζ,υ,or_false]at J;rcases J with rfl|rfl|rfl|rfl|rfl<;>rfl,(θ _ _).drew⟩
 case rops=>
  intro i o ho a I hI hG;have hi:i<9:=(Array.getElem?_eq_some_iff.1 ho).1;have tR:a.eval (.tmp 1)=ε (some ⟨be,0,none⟩):=hI.fixed (1,_) (by simp[wo]);have t2':a.eval (.tmp 2)=ε (some ⟨bf,0,none⟩):=hI.fixed (2,_) (by simp[wo]);have SZ:a.eval (.tmp 3)=ε (some ⟨bt,0,none⟩):=hI.fixed (3,_) (by simp[wo]);have p7:=al.trans (hI.below.mono al.size);have ea:i=0\/i=1\/i=2\/i=3\/i=4\/i=5\/i=6\/i=7\/i=8:=by omega
  rcases ea with rfl|rfl|rfl|rfl|rfl|rfl|rfl|rfl|rfl<;>obtain rfl:=Γ ho
  ·exact ai (aV rfl tR (p1.out _ hI.below)) (bp aqA hI)
  ·exact ai (aV rfl t2' (p2.out _ hI.below)) (bp aqA hI)
  ·exact ai (aV rfl SZ (p3.out _ hI.below)) (bp aqA hI)
  ·have S:a.eval (.tmp 6)=.agg (cE u st ln hr r m md wk pl tx aI aH tr k).toArray:=aB hG 0;have e2:a.eval (.tmp 7)=V Z f:=aB hG 1;have e3:a.eval (.tmp 8)=V Z to:=aB hG 2;refine cI (f:=88) (args:=#[a.eval (.tmp 6),a.eval (.tmp 7),a.eval (.tmp 8)]) (by kernel_rfl) (by rw[S,e2,e3];exact hRB.out I p7) ?_ (by rintro c az ⟨_,_,_,e,_⟩;cases e) (by rintro az ⟨_,_,_,e,_⟩;cases e);rintro v az ⟨g,lb,R,e,A,M,h4,h5⟩;cases e;exact lV aqA rfl (by decide) hI h5 ⟨g,lb,R,rfl,A,λk Y=>⟨(M k Y).1,(M k Y).2.imp id λh=>Ξ hI.below.size h⟩,h4⟩
  ·exact ai (aV rfl tR (p1.out _ hI.below)) (bp aqA hI)
  ·exact ai (aV rfl t2' (p2.out _ hI.below)) (bp aqA hI)
  ·exact ai (aV rfl SZ (p3.out _ hI.below)) (bp aqA hI)
  ·have S:a.eval (.tmp 10)=.agg (cE u st ln hr r m md wk pl tx aI aH tr k).toArray:=aB hG 4;have e2:a.eval (.tmp 11)=V Z f:=aB hG 5;have e3:a.eval (.tmp 12)=V Z to:=aB hG 6;refine cI (f:=89) (args:=#[a.eval (.tmp 10),a.eval (.tmp 11),a.eval (.tmp 12)]) (by kernel_rfl) (by rw[S,e2,e3];exact hXB.out I p7) ?_ (by rintro c az ⟨_,e,_⟩;cases e) (by rintro az ⟨_,e,_⟩;cases e);rintro v az ⟨v',e,A,M⟩;cases e;exact lV aqA rfl (by decide) hI M (tD A hI.below.size)
  obtain⟨g,lb,R,S,hit,hR,eg⟩:∃g lb R,a.eval (.tmp 9)=.func (.func g) #[] lb/\kO prog g lb (qC (sO hr r st f to ex)) R I/\(∀k,R k->k<I.heap.size/\(kP m md wk pl aI aH k\/W2.heap.size<=k))/\(∀args w,(callFunc g args).run prog w=.ok (.enter g args) w):=aB hG 3;have e2:I.ownsRow W2.heap.size 3 1 (a.eval (.tmp 13)) (iz st f to ex xt).length (ints (iz st f to ex xt)):=aB hG 7;obtain⟨av,cv,e3⟩:=nD e2;refine cI (f:=87) (args:=#[a.eval (.tmp 9),a.eval (.tmp 13)]) (by kernel_rfl) (by rw[S,e3];exact Yw g lb av _ cv I) ?_ (by rintro c az ⟨e,_⟩;cases e) (by rintro az ⟨e,_⟩;cases e);rintro v az ⟨e,rfl⟩;cases e;have x0:=kC I [.func (.func g) #[] lb] 134 (η #[ζ av (iz st f to ex xt).length cv] 23);have x1:=kD I [ζ av (iz st f to ex xt).length cv] 23 (η #[.func (.func g) #[] lb] 134);have xb:=mu I (η #[.func (.func g) #[] lb] 134) (η #[ζ av (iz st f to ex xt).length cv] 23);rw[e3]at e2;have vm:=LS.afx (eK e2 (I:=(I.alloc (η #[.func (.func g) #[] lb] 134)).alloc (η #[ζ av (iz st f to ex xt).length cv] 23)) λg hg=>xb.block g (World.ownsRow.lt e2 g hg).2);have ak0:((I.alloc (η #[.func (.func g) #[] lb] 134)).alloc (η #[ζ av (iz st f to ex xt).length cv] 23)).heap.size=I.heap.size+2:=by simp
  have hmi:=VJ (sO hr r st f to ex) (iz st f to ex xt) g lb R (I.heap.size+1) I.heap.size _ _ (hit.later (λk Y=>(hR k Y).1) xb) eg (λk Y=>κ (hR k Y).1 xb.size) x1 x0 vm (λk Y=>by have:=(World.ownsRow.lt e2 k Y).2;omega);have hsI:=hI.below.size;refine lV aqA rfl (by decide) hI xb ⟨_,_,_,rfl,hmi,λk Y=>?_,egM⟩;rcases Y with rfl|rfl|h|h
  ·exact⟨by omega,.inr (by omega)⟩
  ·exact⟨by omega,.inr (by omega)⟩
  ·exact⟨by have:=(hR k h).1;omega,(hR k h).2⟩
  have:=World.ownsRow.lt e2 k h;exact⟨by omega,.inr this.1⟩
 case rdone=>
  intro a w3 hI hG;obtain⟨g,lb,R,e14,hit,mn,eg⟩:∃g lb R,a.eval (.tmp 14)=.func (.func g) #[] lb/\kO prog g lb (qC (fb hr r st f to ex xt)) R w3/\(∀k,R k->k<w3.heap.size/\(kP m md wk pl aI aH k\/W2.heap.size<=k))/\(∀args w,(callFunc g args).run prog w=.ok (.enter g args) w):=hG 8 (by decide);have SB:a.eval (.tmp 0)=.func (.yield l) #[] #[]:=hI.fixed (0,_) (by simp[wo]);have tR:a.eval (.tmp 1)=ε (some ⟨be,0,none⟩):=hI.fixed (1,_) (by simp[wo]);have t4':a.eval (.tmp 4)=ε (some ⟨W.heap.size,0,none⟩):=hI.fixed (4,_) (by simp[wo]);have aP:=hI.below;have fc:=hI.size;have fi:=hI.defers;clear hI hG aqA p1 p2 p3 hRB hXB egM;refine fh a w3 ?_;clear fh;obtain⟨fr,rfl,hf⟩:=VK a fc fi;have g0:=(hf 0).symm.trans SB;have g1:=(hf 1).symm.trans tR;have g4:=(hf 4).symm.trans t4';have g14:=(hf 14).symm.trans e14;rw[g0,g1,g4,g14];clear hf fc fi SB tR t4' e14 g0 g1 g4 g14;generalize fb hr r st f to ex xt=XS at *
  replace r4:=r4.on aP;replace al:=al.trans (aP.mono al.size);have tO:=aP.size;refine gj ?_;refine kY (gf:=g) (lb:=lb) func86 ?g eg hit (μ _) (λ_ _=>rfl) (λk Y=>(mn k Y).1)
   O (λk Y bV=>by
    rcases(mn k bV).2 with h|h
    ·exact(J1 k h).2 Y
    have:=cM.1 k Y;omega) (DK O W aqx λq i=>q=i) (pR O W (aqx XS.length) Js) (λc=>DX O W (Jp c)) ?ps ?start ?round ?done ?stop ?pan
  case g=>rfl
  case ps=>intro x N;obtain⟨d,_,rfl⟩:=List.mem_map.1 N;rfl
  case start=>exact DK.cQ (λk Y=>by have:=cM.1 k Y;omega) ⟨0,O,⟨λk Y=>Y,λk Y=>.inl Y,λk Y=>Y,cM.below al⟩,rfl⟩
  case stop=>
   rintro c W4 ⟨N,D,cx,_,aG⟩ hs bM;have dY:aj O W (W4.putObj w3.heap.size (.deferred none)):=((aj.aq al).aK N).put (.inr (by omega)) _;have cO:¬D w3.heap.size:=λh=>(cx _ h).elim (λh=>by have:=cM.1 _ h;omega) (by omega);obtain⟨rfl,h⟩:=aG.out;have fG:=H (show aO O W.heap.size (aqx XS.length) W (W4.putObj w3.heap.size (.deferred none))\/aO O W.heap.size Js W (W4.putObj w3.heap.size (.deferred none))from by
    rcases h with⟨D0,h⟩|⟨D0,h⟩
    ·exact .inl ((h.put cO _).fin dY)
    exact .inr ((h.put cO _).fin dY))
   clear h aG cx;gi_wp2_with fail;refine⟨by simp,.inl ⟨_,_,rfl,run_takeDeferred bM,?_⟩⟩;exact⟨_,results_none rfl _ _ _,.inl ⟨⟨_,rfl⟩,fG.out⟩⟩
  case pan=>
   rintro c W4 ⟨N,D,cx,_,aG⟩ hs bM;have dY:aj O W (W4.putObj w3.heap.size (.deferred none)):=((aj.aq al).aK N).put (.inr (by omega)) _;have cO:¬D w3.heap.size:=λh=>(cx _ h).elim (λh=>by have:=cM.1 _ h;omega) (by omega);obtain⟨D0,h⟩:=aG.out;refine⟨by simp,.inl ⟨_,_,rfl,run_takeDeferred bM,?_⟩⟩;exact .inr ⟨c,rfl,(h.put cO _).fin dY⟩
  case done=>
   rw[qD];rintro W4 ⟨N,D,cx,_,aG⟩ hs bM;have dY:aj O W (W4.putObj w3.heap.size (.deferred none)):=((aj.aq al).aK N).put (.inr (by omega)) _;have cO:¬D w3.heap.size:=λh=>(cx _ h).elim (λh=>by have:=cM.1 _ h;omega) (by omega);obtain⟨q,D0,bu,hq⟩:=aG.out;refine⟨by simp,.inl ⟨_,_,rfl,run_takeDeferred bM,?_⟩⟩;exact⟨_,results_none rfl _ _ _,.inl ⟨⟨_,rfl⟩,.inl (by rw[<-hq];exact(bu.put cO _).fin dY)⟩⟩
  case round=>
   intro BA i x N W4 D yM hs dT aG aqy hK;obtain⟨t,hd⟩:∃t,XS[i]?=some t:=⟨_,ν (by have:=(List.getElem?_eq_some_iff.1 N).1;rwa [qD]at this)⟩;rw[yz hd]at N;cases N;have htb:=ox t (Υ hd);gi_wp2_with fail;refine hK _ _ D (θ _ _) (λk Y=>.inl Y) (λk Y=>Y) (λk Y=>aG.1 k Y) ?_;intro l' W5 fD bN wF;have dX:=aG.on (W':=W5) fD;have mq:aj O W W5:=(aj.aq al).aK bN;have y1:=(q1.aM mq Jg).cell (k:=2) rfl;have y4:=(r4.aM bN (λh=>by have:=cM.1 _ h;omega)).cell (k:=0) rfl;have dP:∀k,D k->k<W5.heap.size:=dX.1;have o8:W.heap.size<=W5.heap.size:=by omega
   clear hK fD hit aG mn ox;obtain⟨q,D0,bu,rfl⟩:=dX.out;clear dX;obtain⟨D6,tR,D7,D8,gC,eB⟩:=tP.out q t hd W5 D0 mq bu.dO bu.Od bu.on;clear hd;gi_wp2_with fail;refine(RoundIn.inRound l' eB).mono ?_;clear gC eB y1 y4;rintro e WX (⟨rfl,J⟩|⟨rfl,J⟩|⟨ch,rfl,J⟩)
   case inl=>
    obtain⟨eQ,dZ,mr,je⟩:=bu.post o8 J;have eL:aj D W5 WX:=je.mono (λk Y=>.inl (bu.sub k Y));clear J;gi_wp2_with fail;exact⟨eL,λk=>D k\/eQ k,λk Y=>Y.elim .inl λh=>(mr k h).elim (λh=>.inl (bu.sub k h)) .inr,λ_ Y=>.inl Y,DK.cQ (λk Y=>Y.elim (λh=>κ (dP k h) eL.size) (λh=>dZ.on.1 k h)) ⟨q+1,eQ,dZ,rfl⟩⟩
   case inr.inl=>
    obtain⟨eQ,dZ,mr,je⟩:=bu.post o8 J;have eL:aj D W5 WX:=je.mono (λk Y=>.inl (bu.sub k Y));clear J;gi_wp2_with fail;exact⟨eL,λk=>D k\/eQ k,λk Y=>Y.elim .inl λh=>(mr k h).elim (λh=>.inl (bu.sub k h)) .inr,λ_ Y=>.inl Y,pR.Sv (DX.cQ (λk Y=>Y.elim (λh=>κ (dP k h) eL.size) (λh=>dZ.on.1 k h)) ⟨eQ,dZ⟩)⟩
   case inr.inr=>
    obtain⟨eQ,dZ,mr,je⟩:=bu.post o8 J;have eL:aj D W5 WX:=je.mono (λk Y=>.inl (bu.sub k Y));clear J;gi_wp2_with fail;exact⟨rfl,eL,λk=>D k\/eQ k,λk Y=>Y.elim .inl λh=>(mr k h).elim (λh=>.inl (bu.sub k h)) .inr,λ_ Y=>.inl Y,DX.cQ (λk Y=>Y.elim (λh=>κ (dP k h) eL.size) (λh=>dZ.on.1 k h)) ⟨eQ,dZ⟩⟩
theorem sA (u:ByteArray)(st ln:Int)(hr:Bool)(r:aE)(m md wk pl:Value)(tx:ByteArray)(aI aH:Value)(ex xt:List Int)(tr:Bool)(k:Int)(f to:Int)(w:ι)(K:jX w hr r m md wk pl aI aH ex xt)
 (s0:0<=st)(s1:st<=7258118400)(l0:0<=ln)(l1:ln<=10000000)(f0:-1000000000000<=f)(f1:f<=7258118400)(t0:0<=to)(t1:to<=7258118400)(ox:∀t∈fb hr r st f to ex xt,-100000000000<=t/\t<=100000000000):
 Λ prog 56 #[.agg (cE u st ln hr r m md wk pl tx aI aH tr k).toArray,V Z f,V Z to] w (dR (o7 ln (fb hr r st f to ex xt)) (kP m md wk pl aI aH) w):=by
 have lU:∀args w,(callFunc 86 args).run prog w=.ok (.enter 86 args) w:=enters_of func86 (by kernel_rfl) rfl;replace lU:=H lU;have q0:=kx w (cE u st ln hr r m md wk pl tx aI aH tr k) 99 (η #[V Z f] 3) (η #[V Z to] 3);have q1:=ky w (η (cE u st ln hr r m md wk pl tx aI aH tr k).toArray 99) [V Z f] 3 (η #[V Z to] 3);have q2:=kz w (η (cE u st ln hr r m md wk pl tx aI aH tr k).toArray 99) (η #[V Z f] 3) [V Z to] 3;have al:=gJ w (η (cE u st ln hr r m md wk pl tx aI aH tr k).toArray 99) (η #[V Z f] 3) (η #[V Z to] 3);have hit:=H (acf u st ln hr r m md wk pl tx aI aH ex xt tr k f to w.heap.size (w.heap.size+1) (w.heap.size+1+1) _ (K.on al) s0 s1 l0 l1 f0 f1 t0 t1 ox q0 q1 q2);have hblk:=H (λk (h:kP m md wk pl aI aH k)=>K.fO h);clear K q0 q1 q2 ox;generalize cE u st ln hr r m md wk pl tx aI aH tr k=E at *
 go_enter func56,ntmps56;go_wp2_with fail;go_ret;refine⟨_,_,_,rfl,hit.out,λk Y=>?_,lU.out,al⟩;rcases Y with rfl|rfl|rfl|h
 ·exact⟨by simp;omega,.inr (μ _)⟩
 ·exact⟨by simp,.inr (by omega)⟩
 ·exact⟨by simp,.inr (by omega)⟩
 exact⟨by have:=hblk.out k h;simp;omega,.inl h⟩
end
theorem G9 {s:List UInt8}{f:Nat->Option (List UInt8)}{st ln:Int}{ex xt:List Int}(hf:jI s=some f)(G:il (val f 1)=some st)(A:mO st (f 3) (f 2)=some ln)(M:pZ (f 5)=some ex)(h4:pZ (f 6)=some xt):
 iA s=match I4 (f 4)with|none=>.error 3|some rl=>.ok ⟨f,st,ln,ex,xt,rl⟩:=by
 unfold iA;rw[hf];simp only[G,A,M,h4];cases I4 (f 4)<;>rfl
theorem Yy {s:List UInt8}{f:Nat->Option (List UInt8)}(hf:jI s=some f)(h:¬∃st ln ex xt,lg (sw f) st ln ex xt):iA s=.error 1:=by
 unfold iA;rw[hf];simp only[];cases G:il (val f 1)with
 |none=>rfl
 |some st=>
  simp only[];cases A:mO st (f 3) (f 2)with
  |none=>rfl
  |some ln=>
   simp only[];cases M:pZ (f 5)with
   |none=>rfl
   |some ex=>
    simp only[];cases h4:pZ (f 6)with
    |none=>rfl
    |some xt=>exact absurd ⟨st,ln,ex,xt,vC.2 ⟨G,A,M,h4⟩⟩ h
def ak1 (d:oJ)(E:ϗ)(I:ι):Prop:=
 ∃aI aH,dc I aI d.ex/\dc I aH d.xt/\((d.rl=none/\E=δ (zb (bJ (val d.f 0)) d.st d.ln false bw aI aH (iL d.f) (kindOf d.f-1)))\/
  ∃(F:Nat->Option (List UInt8)) (r:aE) (m md wk pl:Value),d.rl=some F/\cr I m r.ms/\cr I md r.mds/\gy I wk r.wks/\cr I pl r.pls/\E=δ (zb (bJ (val d.f 0)) d.st d.ln true (bX r.fq r.iv r.ct r.un m md wk pl r.ws (gw F)) aI aH (iL d.f) (kindOf d.f-1)))
theorem Jk {s:List UInt8}{w I:ι}{E:ϗ}(h:Fh s w E I):((∃x,iA s=.error x/\E=.panicked (bx x))\/∃d,iA s=.ok d/\ak1 d E I)/\Below w.heap.size w I:=by
 obtain⟨h,U⟩:=h;refine⟨?_,U⟩;rcases h with⟨F,tr,k,st,ln,ex,xt,hH,hT,hE⟩|⟨hn,rfl⟩|⟨⟨F,tr,k,hH,hn⟩,rfl⟩|⟨⟨F,tr,k,st,ln,ex,xt,v,hH,hT,hv,hn⟩,rfl⟩
 ·obtain⟨f,hf,rfl,rfl,rfl⟩:=(oh s F tr k).1 hH;obtain⟨G,A,M,h4⟩:=vC.1 hT;have hr:=G9 hf G A M h4;obtain⟨aI,aH,i1,i2,hE⟩:=hE;right;rcases hE with⟨h0,rfl⟩|⟨v,F',r,m,md,wk,pl,hv,hR,q1,q2,q3,q4,rfl⟩
  ·have e4:f 4=none:=h0;rw[e4]at hr;exact⟨⟨f,st,ln,ex,xt,none⟩,hr,aI,aH,i1,i2,.inl ⟨rfl,rfl⟩⟩
  have e4:f 4=some v:=hv;have e5:I4 (f 4)=some (some F'):=by rw[e4];show(ri v).map some=_;rw[(yo v F').2 ⟨r,hR⟩];rfl
  rw[e5]at hr;exact⟨⟨f,st,ln,ex,xt,some F'⟩,hr,aI,aH,i1,i2,.inr ⟨F',r,m,md,wk,pl,rfl,q1,q2,q3,q4,rfl⟩⟩
 ·left;refine⟨2,?_,rfl⟩;unfold iA;cases hf:jI s with
  |none=>rfl
  |some f=>exact absurd ⟨sw f,_,_,(oh s (sw f) _ _).2 ⟨f,hf,rfl,rfl,rfl⟩⟩ hn
 ·left;obtain⟨f,hf,rfl,_,_⟩:=(oh s F tr k).1 hH;exact⟨1,Yy hf hn,rfl⟩
 left;obtain⟨f,hf,rfl,_,_⟩:=(oh s F tr k).1 hH;obtain⟨G,A,M,h4⟩:=vC.1 hT;have hr:=G9 hf G A M h4;have e4:f 4=some v:=hv;have e5:I4 (f 4)=none:=by
  rw[e4];show(ri v).map some=none;cases hq:ri v with
  |none=>rfl
  |some F'=>exact absurd ⟨F',(yo v F').1 hq⟩ hn
 rw[e5]at hr;exact⟨3,hr,rfl⟩
theorem VL (n:Int):∀(zs:List Int) (d:Bool),(uE n d zs).length<=zs.length+1
 |[],d=>by cases d<;>simp[uE]
 |a::r,d=>by
  have G:=VL n r (d||decide (n<=a));rw[uE,ξ,ξ];by_cases hd:d=false/\n<=a
  ·rw[if_pos hd];have A:∀zs:List Int,(uE n true zs).length<=zs.length:=λzs=>by
    induction zs with
    |nil=>simp[uE]
    |cons b t ih=>
     rw[uE,if_neg (by simp),ξ,ξ,Bool.true_or];split<;>simp<;>omega
   have M:=A r;rw[show(d||decide (n<=a))=true from by simp[hd.2]];split<;>simp<;>omega
  rw[if_neg hd];split<;>simp<;>omega
theorem P6:∀(P:List ByteArray) (acc out:List Int),IQ P acc=some out->out.length<=acc.length+P.length
 |[],acc,out,h=>by rw[IQ]at h;cases h;simp
 |l::r,acc,out,h=>by
  rw[IQ]at h;split at h
  ·have G:=P6 r _ out h;have A:=VL (kj l) acc false;simp;omega
  cases h
theorem Bj {o:Option (List UInt8)}{zs:List Int}(h:pZ o=some zs):zs.length<=20:=by
 cases o with
 |none=>cases h;simp
 |some v=>
  unfold pZ LY at h;simp only[]at h;split at h
  ·have:=P6 _ _ _ h;simp at this;omega
  cases h
theorem Lv {st ln:Int}{e l:Option (List UInt8)}(h:mO st e l=some ln):1<=ln/\ln<=2678400:=by
 unfold mO at h;split at h
 ·cases h
 split at h
 ·rename_i U;cases h;exact U
 cases h
theorem OY {s:List UInt8}{d:oJ}(h:iA s=.ok d):jI s=some d.f/\il (val d.f 1)=some d.st/\mO d.st (d.f 3) (d.f 2)=some d.ln/\pZ (d.f 5)=some d.ex/\pZ (d.f 6)=some d.xt/\I4 (d.f 4)=some d.rl:=by
 unfold iA at h;cases hf:jI s with
 |none=>rw[hf]at h;cases h
 |some f=>
  rw[hf]at h;simp only[]at h;cases G:il (val f 1)with
  |none=>rw[G]at h;cases h
  |some st=>
   rw[G]at h;simp only[]at h;cases A:mO st (f 3) (f 2)with
   |none=>rw[A]at h;cases h
   |some ln=>
    rw[A]at h;simp only[]at h;cases M:pZ (f 5)with
    |none=>rw[M]at h;cases h
    |some ex=>
     rw[M]at h;simp only[]at h;cases h4:pZ (f 6)with
     |none=>rw[h4]at h;cases h
     |some xt=>
      rw[h4]at h;simp only[]at h;cases h5:I4 (f 4)with
      |none=>rw[h5]at h;cases h
      |some rl=>
       rw[h5]at h;cases h;exact⟨rfl,G,A,M,h4,h5⟩
theorem acg {f:Nat->Option (List UInt8)}(h:pL f=true):0<=kindOf f-1/\kindOf f-1<=2:=by
 unfold pL at h;unfold kindOf;cases h8:has f 8 with
 |false=>simp
 |true=>
  rw[h8]at h;simp only[φ,Bool.not_eq_true',Bool.true_and,decide_eq_false_iff_not]at h;have A:=h.2;rw[if_pos rfl];unfold nK at A⊢
  repeat' split at A
  all_goals(repeat' split)
  all_goals first|omega|simp_all
theorem VM {s:List UInt8}{f:Nat->Option (List UInt8)}(h:jI s=some f):uL s=true/\ff iZ 58 (im (mQ s)) (λ_=>none)=some f/\must f=true/\pL f=true:=by
 unfold jI at h;split at h
 ·rename_i hf;cases h6:ff iZ 58 (im (mQ s)) (λ_=>none)with
  |none=>rw[h6]at h;cases h
  |some f'=>
   rw[h6]at h;simp only[]at h;split at h
   ·rename_i hc;cases h;rw[φ]at hc;exact⟨hf,rfl,hc.1,hc.2⟩
   cases h
 cases h
open Go.Sort
theorem FE {F:Nat->Option (List UInt8)}{B:Nat}(h:∀k,((F k).getD []).length<=B):∀k,∀t∈gA F k,t.length<=B+21
 |0,t,ht=>by simp[gA]at ht
 |k+1,t,ht=>by
  rw[gA,List.mem_append]at ht;rcases ht with ht|ht
  ·exact FE h k t ht
  unfold Av at ht;have G:=h k;have A:=vY k;cases hf:F k with
  |none=>rw[hf]at ht;simp at ht
  |some v=>
   rw[hf]at ht G;simp only[]at ht;split at ht
   ·rw[List.mem_singleton]at ht;subst ht;rw[ξ,π];simp at G;omega
   simp at ht
structure Small (d:oJ):Prop where
 u:(val d.f 0).length<=2000
 ex:d.ex.length<=20
 xt:d.xt.length<=20
 l1:1<=d.ln
 l2:d.ln<=2678400
 k1:0<=kindOf d.f-1
 k2:kindOf d.f-1<=2
 tx:∀F,d.rl=some F->(Lib.join (gA F 9) [59]).length<=20000
theorem Q7 {s:List UInt8}{d:oJ}(h:iA s=.ok d):Small d:=by
 obtain⟨h0,G,A,M,h4,h5⟩:=OY h;obtain⟨g1,g2,g3,g4⟩:=VM h0;obtain⟨k1,k2⟩:=acg g4;obtain⟨q1,q2⟩:=Lv A;have J:dG s (sw d.f):=((oh s (sw d.f) _ _).2 ⟨d.f,h0,rfl,rfl,rfl⟩).1;have hs:∀k,((sw d.f k).getD []).length<=2000:=J.small;refine⟨hs 0,Bj M,Bj h4,q1,q2,k1,k2,λF hF=>?_⟩;rw[hF]at h5;cases h6:d.f 4 with
 |none=>rw[h6]at h5;cases h5
 |some v=>
  rw[h6]at h5;have hv:ri v=some F:=by
   change (ri v).map some=some (some F)at h5;cases hq:ri v with
   |none=>rw[hq]at h5;cases h5
   |some F'=>rw[hq]at h5;cases h5;rfl
  have Ol:v.length<=2000:=by
   have:=hs 4;rw[show sw d.f 4=d.f 4 from rfl,h6]at this;simpa using this
  obtain⟨r,hR⟩:=(yo v F).1 hv;have IU:ff cF 61 (bY 59 v) (λ_=>none)=some F:=hR.1;have U:∀k,((F k).getD []).length<=2000:=ti (λp J=>Ξ (mK 59 v p J) Ol) (λk=>by simp) IU;have h7:=pB [59] 2021 (gA F 9) (FE U 9);have h8:=Db F 9;have h9:(gA F 9).length*(2021+[(59:UInt8)].length)<=9*2022:=Nat.mul_le_mul h8 (by simp);omega
def M0 (F:Nat->Option (List UInt8)):aE:=
 ⟨(pC (F 0)).getD 0,(pD 1 100 ((F 1).getD [49])).getD 0,(vZ (F 2)).getD 0,(wb (F 3)).getD 0,(dV (pD 1 12) (F 4)).getD [],(dV (sR 31) (F 5)).getD [],(dV lD (F 6)).getD [],(dV (sR 366) (F 7)).getD [],(Ax ((F 8).getD [77,79])).getD 0⟩
def EF:aE:=⟨0,0,0,0,[],[],[],[],0⟩
theorem Iz {F:Nat->Option (List UInt8)}{r:aE}(h:nT F r):M0 F=r:=by
 unfold M0;rw[h.fq,h.iv,h.ct,h.un,h.ms,h.mds,h.wks,h.pls,h.ws];rfl
theorem VN {lo hi z:Int}{v:List UInt8}(h:pD lo hi v=some z):lo<=z/\z<=hi:=by
 unfold pD at h;split at h
 ·rename_i hw;cases h;unfold mJ at hw;simp only[φ,decide_eq_true_eq]at hw;exact⟨hw.1.2,hw.2⟩
 cases h
theorem wT {z:Int}{v:List UInt8}(h:il v=some z):0<=z/\z<=7258118399:=by
 unfold il at h;split at h
 ·cases h;exact Mc (by assumption)
 cases h
theorem P7 {α:Type}{rd:List UInt8->Option α}{p:α->Prop}(J:∀v z,rd v=some z->p z):∀{ps:List (List UInt8)} {zs:List α},fo rd ps=some zs->∀z∈zs,p z
 |[],zs,h,z,hz=>by cases h;simp at hz
 |l::r,zs,h,z,hz=>by
  rw[fo]at h;cases G:rd l with
  |none=>rw[G]at h;cases h
  |some a=>
   rw[G]at h;cases A:fo rd r with
   |none=>simp only[A]at h;cases h
   |some b=>
    simp only[A,Option.map_some,Ϗ]at h;subst h;rcases List.mem_cons.1 hz with rfl|hz
    ·exact J l z G
    exact P7 J A z hz
theorem Ha {α:Type}{rd:List UInt8->Option α}{p:α->Prop}(J:∀v z,rd v=some z->p z){f:Option (List UInt8)}{zs:List α}(h:dV rd f=some zs):∀z∈zs,p z:=by
 unfold dV at h;split at h
 ·cases h;intro z hz;simp at hz
 split at h
 ·exact P7 J h
 cases h
theorem ach (v:List UInt8)(m:Int)(hm:0<=m):-m<=fE v m/\fE v m<=m:=by
 unfold fE within;split
 ·split
  ·rename_i G A;simp only[φ,decide_eq_true_eq]at A;omega
  omega
 split
 ·rename_i G A;simp only[φ,decide_eq_true_eq]at A;omega
 omega
theorem afI {v:List UInt8}{p:Int×Int}(h:lD v=some p):-53<=p.1/\p.1<=53:=by
 unfold lD at h;split at h
 ·cases h
 split at h
 ·cases h;simp
 split at h
 ·cases h
 cases h;exact ach _ 53 (by decide)
theorem Lw {F:Nat->Option (List UInt8)}{r:aE}(h:nT F r):ei r:=by
 have G:=h.fq;have A:=VN h.iv;have M:=h.ct;have h4:=h.un;have h9:=h.ws;unfold pC at G;unfold Ax at h9;obtain⟨k,Y,S⟩:=Option.map_eq_some_iff.1 G;obtain⟨k9,wH,e9⟩:=Option.map_eq_some_iff.1 h9;have l1:=Ao Y;have l9:=Ao wH;have n1:ja.length=4:=rfl;have n9:jP.length=7:=rfl;have c3:0<=r.ct/\r.ct<=1000:=by
  unfold vZ at M;split at M
  ·injection M with M;omega
  have:=VN M;omega
 have c4:0<=r.un/\r.un<=9223372036854775807:=by
  unfold wb at h4;split at h4
  ·injection h4 with h4;omega
  have:=wT h4;omega
 exact⟨by omega,by omega,A.1,A.2,c3.1,c3.2,c4.1,c4.2,by have:=tB h.ms;omega,by have:=tB h.mds;omega,by have:=tB h.wks;omega,by have:=tB h.pls;omega,Ha (λv z hz=>afI hz) h.wks,by omega,by omega⟩
theorem P8 {f:Option (List UInt8)}{zs:List Int}(h:sS f=some zs):∀z∈zs,0<=z/\z<=7258118400:=by
 unfold sS at h;obtain⟨ys,hy,rfl⟩:=Option.map_eq_some_iff.1 h;intro z hz;have G:=Ha (p:=λz=>0<=z/\z<=7258118399) (λv z hz=>wT hz) hy;have A:z∈ys:=((Kd ys).2 z).1 hz;have:=G z A;omega
def J5 (d:oJ)(E:ϗ)(I:ι):Prop:=
 ((0<=d.st/\d.st<=7258118399)/\(1<=d.ln/\d.ln<=2678400)/\(∀t∈d.ex,0<=t/\t<=7258118400)/\(∀t∈d.xt,0<=t/\t<=7258118400)/\d.ex.length<=20/\d.xt.length<=20)/\∃aI aH,dc I aI d.ex/\dc I aH d.xt/\((d.rl=none/\E=δ (zb (bJ (val d.f 0)) d.st d.ln false bw aI aH (iL d.f) (kindOf d.f-1)))\/
  ∃(F:Nat->Option (List UInt8)) (r:aE) (m md wk pl:Value),d.rl=some F/\nT F r/\cr I m r.ms/\cr I md r.mds/\gy I wk r.wks/\cr I pl r.pls/\E=δ (zb (bJ (val d.f 0)) d.st d.ln true (bX r.fq r.iv r.ct r.un m md wk pl r.ws (gw F)) aI aH (iL d.f) (kindOf d.f-1)))
theorem xS {s:List UInt8}{w I:ι}{E:ϗ}(h:Fh s w E I):((∃x,iA s=.error x/\E=.panicked (bx x))\/∃d,iA s=.ok d/\J5 d E I)/\Below w.heap.size w I:=by
 have h':=Jk h;refine⟨?_,h'.2⟩;rcases h'.1 with N|⟨d,hd,_⟩
 ·exact .inl N
 obtain⟨h,U⟩:=h;rcases h with⟨F,tr,k,st,ln,ex,xt,hH,hT,hE⟩|⟨hn,rfl⟩|⟨⟨F,tr,k,hH,hn⟩,rfl⟩|⟨⟨F,tr,k,st,ln,ex,xt,v,hH,hT,hv,hn⟩,rfl⟩
 ·obtain⟨f,hf,rfl,rfl,rfl⟩:=(oh s F tr k).1 hH;obtain⟨G,A,M,h4⟩:=vC.1 hT;have hr:=G9 hf G A M h4;have nM:(0<=st/\st<=7258118399)/\(1<=ln/\ln<=2678400)/\(∀t∈ex,0<=t/\t<=7258118400)/\(∀t∈xt,0<=t/\t<=7258118400)/\ex.length<=20/\xt.length<=20:=⟨wT G,Lv A,P8 hT.hex,P8 hT.lT,Bj M,Bj h4⟩;obtain⟨aI,aH,i1,i2,hE⟩:=hE;right;rcases hE with⟨h0,rfl⟩|⟨v,F',r,m,md,wk,pl,hv,hR,q1,q2,q3,q4,rfl⟩
  ·have e4:f 4=none:=h0;rw[e4]at hr;exact⟨⟨f,st,ln,ex,xt,none⟩,hr,nM,aI,aH,i1,i2,.inl ⟨rfl,rfl⟩⟩
  have e4:f 4=some v:=hv;have e5:I4 (f 4)=some (some F'):=by rw[e4];show(ri v).map some=_;rw[(yo v F').2 ⟨r,hR⟩];rfl
  rw[e5]at hr;exact⟨⟨f,st,ln,ex,xt,some F'⟩,hr,nM,aI,aH,i1,i2,.inr ⟨F',r,m,md,wk,pl,rfl,hR.2.2.1,q1,q2,q3,q4,rfl⟩⟩
 ·left;obtain⟨x,bC,bN⟩|⟨d',G,aI,aH,_,_,A⟩:=h'.1
  ·exact⟨x,bC,bN⟩
  rcases A with⟨_,e⟩|⟨_,_,_,_,_,_,_,_,_,_,_,e⟩<;>cases e
 ·left;obtain⟨x,bC,bN⟩|⟨d',G,aI,aH,_,_,A⟩:=h'.1
  ·exact⟨x,bC,bN⟩
  rcases A with⟨_,e⟩|⟨_,_,_,_,_,_,_,_,_,_,_,e⟩<;>cases e
 left;obtain⟨x,bC,bN⟩|⟨d',G,aI,aH,_,_,A⟩:=h'.1
 ·exact⟨x,bC,bN⟩
 rcases A with⟨_,e⟩|⟨_,_,_,_,_,_,_,_,_,_,_,e⟩<;>cases e
def jC (d:oJ):Bool:=d.rl.isSome
def jD (d:oJ):aE:=match d.rl with|none=>EF|some F=>M0 F
end Go.Proofs.YtchdfdmjihnhkaaGreatDoor
