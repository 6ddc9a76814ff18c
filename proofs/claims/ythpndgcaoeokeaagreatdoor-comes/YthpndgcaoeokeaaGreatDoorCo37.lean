import Derived.Test.YthpndgcaoeokeaaGreatDoorCo36
import Derived.Test.YthpndgcaoeokeaaGreatDoorRows
import Derived.Test.YthpndgcaoeokeaaGreatDoorCards
import Derived.Test.YthpndgcaoeokeaaGreatDoorTie
import Derived.Deep.Slices
import Derived.Lib.SmallJoins
import Derived.Lib.LaidTab
import Derived.Stop.LaidErr
import Derived.MakeChecks
import Derived.ProofKit
import Derived.OpenShut
import Derived.LaidMore
import Derived.Lay
import Derived.SevenTiedAt
import Derived.Stop.Joined
import Derived.Carry
import Derived.Deep.DeepHandedRow
import Derived.Shelf.LaysM
set_option maxRecDepth 100000
set_option maxHeartbeats 8000000
open Go.IntKind renaming i64→Z
open Go.Ending renaming returned→δ
open Go.Proofs.YthpndgcaoeokeaaGreatDoor.Rows renaming uptoBulk→ε,uptoBulkAll→ω
open List renaming getElem?_eq_getElem→ζ,map_cons→ν,getElem?_append_right→ο,getElem?_append_left→π,getElem?_take→χ,getElem?_map→ψ,getElem_mem→Α
open Go.DataW renaming trod→η
open Go renaming World→θ,Calls→κ,TypeId→Δ
open Option.some renaming inj→ι
open Go.RowKit.Below renaming refl→μ
open Nat renaming le_refl→ξ,le_trans→τ,zero_le→υ,zero_add→Β,le_of_lt→Γ
open Go.World renaming block_lt_of_cell?→ρ,ownsRow_nil→φ
namespace Go.Proofs.YthpndgcaoeokeaaGreatDoor
open _root_.Go.Proofs.Tryz
open Go.RowKit Go.Sort
def jW (M:Nat)(p:Nat)(w:θ):Prop:=∃(N:Int) (kv:Value) (items:List (Int×Value×Nat)),0≤N∧N≤M∧items.length≤4 * M∧af w p [.slice none 0 0, .int Z N,kv] 63∧w.ownsRow p 100 3 kv items.length (jf items)∧∀it∈items,mv w it.2.1 it.2.2 it.1∧0≤it.1∧it.1≤100000000∧it.2.2≤4000
theorem jW.on {M p:Nat}{w w':θ}(h:jW M p w)(hb:Below w.heap.size w w'):jW M p w':=by
 obtain⟨N,kv,items,a,b,c,d,e,f⟩:=h;exact⟨N,kv,items,a,b,c,d.on hb,eN e fun g _ hg=>hb.block g hg,fun it hit=>⟨(f it hit).1.on fun g _ hg=>hb.block g hg,(f it hit).2⟩⟩
theorem jW.up {M M' p:Nat}{w:θ}(h:jW M p w)(hM:M≤M'):jW M' p w:=by
 obtain⟨N,kv,items,a,b,c,d⟩:=h;exact⟨N,kv,items,a,by omega,by omega,d⟩
theorem Jw:∀(l:List (Int×Value×Nat)) (i:Nat) (h:i<l.length),∀j v,[Value.int Z (l[i]).1,(l[i]).2.1, .slice none 0 0][j]?=some v→(jf l)[i * 3+j]?=some v
 |a::l,0,_,j,v,hv=>by
  have hj:j<3:=(List.getElem?_eq_some_iff.1 hv).1;unfold jf;rw[ν,List.flatten_cons,Nat.zero_mul,Β,π (by exact hj)];exact hv
 |a::l,i+1,h,j,v,hv=>by
  have:=Jw l i (by simpa using h) j v (by simpa using hv);unfold jf at this⊢;rw[ν,List.flatten_cons,ο (by simp;omega)];rw[show(i+1) * 3+j - [Value.int Z a.1,a.2.1, .slice none 0 0].length=i * 3+j by simp;omega];exact this
theorem wx {w:θ}{B sz:Nat}{e:Δ}{v:Value}{n:Nat}{xs:List Value}(h:w.ownsRow B e sz v n xs)(hn:0<n):∃g cap,v= .slice (some ⟨g,0,none⟩) n cap∧g<w.heap.size∧∀j u,xs[j]?=some u→w.cell? ⟨g,j,none⟩=some u:=by
 rcases h.2 with⟨_,q⟩|⟨g,cap,cur,q1,_,q2,_,_,_,q3⟩
 ·omega
 ·refine⟨g,cap,q1,(Array.getElem?_eq_some_iff.1 q2).1,fun j u hj=>?_⟩;rw[←q3,χ]at hj;split at hj
  ·exact af.cell (cs:=cur.toList) (t:=e) q2 hj
  ·cases hj
theorem WB {w:θ}{v:Value}{j:Nat}{N:Int}(h:mv w v j N):∃a c,v= .slice a j c∧∀i,i<j→∃g,a=some ⟨g,0,none⟩∧g<w.heap.size∧w.rangeAt g (i * 2) [.int Z (-N), .int Z (-N)]:=by
 rcases h with⟨rfl,rfl⟩|⟨g,cap,cur,q1,q2,q3⟩
 ·exact⟨none,0,rfl,fun i hi=>by omega⟩
 ·refine⟨some ⟨g,0,none⟩,cap,q1,fun i hi=>⟨g,rfl,(Array.getElem?_eq_some_iff.1 q2).1,fun m u hm=>?_⟩⟩;have sH:m<2:=(List.getElem?_eq_some_iff.1 hm).1;have hu:u= .int Z (-N):=by
   match m,hm with
   |0,hm=>exact(ι hm).symm
   |1,hm=>exact(ι hm).symm
  subst hu;refine af.cell (cs:=cur.toList) (t:=39) q2 ?_;have:=congrArg (fun l=>l[i * 2+m]?) q3;unfold mu at this;simp only[χ,List.getElem?_replicate]at this;rw[if_pos (by omega),if_pos (by omega)]at this;exact this
theorem GW {o:Oper}(ho:o.op= .alloc 100)(a:Act)(w:θ):(execOp a.eval o).run prog w= .ok (.value (.pointer (some ⟨w.heap.size,0,none⟩))) (w.alloc (.cells ([.int Z 0, .slice none 0 0, .slice none 0 0]:List Value).toArray 100)):=by
 obtain⟨_,_,_,_,_,_⟩:=o;simp only[]at ho;subst ho;kernel_rfl
theorem Jy:(prog.info? 100).map (·.size)=some 3:=by kernel_rfl
theorem Bj (M p:Nat)(w:θ)(hM:M≤2000000)(h:jW M p w):
 κ prog 33 #[.pointer (some ⟨p,0,none⟩)] w fun e w'=>e= δ (.bool true)∧Below w.heap.size w w':=by
 obtain⟨N,kv,items,_,_,lF,ax,wv,D8⟩:=h;have HR:=ad ax;have HK:=ad wv;have HI:=ad D8;obtain⟨ak,nk,ck,rfl⟩:=wu wv;have hnk:nk=items.length:=ur wv;subst hnk;clear ax wv D8;go_enter func33,ntmps33;go_wp2_with fail;go_loopw [3] (fun t wr=>∃i:Nat,i≤items.length∧t= .int Z i∧Below w.heap.size w wr) (fun t _=>items.length - (intOf t).toNat)
 case atStart=>exact⟨0,υ _,rfl,μ _ _⟩
 case round=>
  obtain⟨i,hi,rfl,hb⟩:=hrel;have c2:=(HR.out.on hb).cell (k:=2) rfl;by_cases ay:i<items.length
  case neg=>
   go_wp2_with fail;go_ret;exact⟨rfl,hb⟩
  case pos=>
   obtain⟨gk,alP,ek,hgk,hck⟩:=wx HK.out (by omega);cases ek;have zE:wr.rangeAt gk (i * 3) [.int Z (items[i]).1,(items[i]).2.1, .slice none 0 0]:=fun j v hj=>(hb.cell (p:=⟨gk,i * 3+j,none⟩) hgk).trans (hck _ _ (Jw items i ay j v hj));have Ke:=HI.out (items[i]) (Α ay);obtain⟨it,hit⟩:∃it,it=items[i]:=⟨_,rfl⟩;rw[←hit]at zE Ke;clear hit;obtain⟨av,cv,ev,qi⟩:=WB Ke.1;rw[ev]at zE;have HG:=ad zE;have HS:=ad qi;obtain⟨q1,q2,q3⟩:=Ke.2;obtain⟨n,sv,jn⟩:=it;simp only[]at q1 q2 q3 HG HS;clear zE qi Ke ev hck;have CS:=ad (fun W=>MG n W q1 (by omega));have QQ:∀x∈([.int Z n, .slice av jn cv, .slice none 0 0]:List Value),x.oneCell'=true:=by simp[Value.oneCell']
   go_upto_region 5 with(first
    |(refine wpList_load_mid rfl 100 _ rfl gk (i * 3) (by first|rfl|simp) _ _ HG.out underlying100 rfl Jy ?_)
    |(refine aW rfl (GW rfl _ _) ?_;intro w4 r4 z4 b4)
    |(refine aN (vs:=[.int Z n, .slice av jn cv, .slice none 0 0]) rfl rfl rfl rfl r4 rfl Jy QQ ?_;intro w5 r5 x5))
   have bk:Below w.heap.size w w5:=(hb.trans (b4.mono hb.size)).trans (x5.below (by have:=hb.size;omega) (fun k hk=>by have:=hb.size;omega));obtain⟨G,hG⟩:∃G,G=wr.heap.size:=⟨_,rfl⟩;rw[←hG]at r5;rw[←hG];have hGl:w.heap.size≤G:=by have:=hb.size;omega
   have Tl:i<items.length:=ay;clear z4 b4 x5 r4 hG c2 HG;go_wp2_with fail;go_loopw [5] (fun t wr=>∃j:Nat,j≤jn∧t= .int Z j∧Below w5.heap.size w5 wr) (fun t _=>jn - (intOf t).toNat)
   case atStart=>exact⟨0,υ _,rfl,μ _ _⟩
   case round=>
    obtain⟨j,hj,rfl,Zu⟩:=hrel;have r6:=r5.on Zu;have k0:=r6.cell (k:=0) rfl;have k1:=r6.cell (k:=1) rfl;have k2:=r6.cell (k:=2) rfl;have dr:Below w.heap.size w wr:=bk.trans (Zu.mono bk.size);by_cases VU:j<jn
    case neg=>
     go_wp2_with fail;go_loopw [6] (fun t gY=>t= .int Z 0∧gY=wr) (fun _ _=>0)
     case atStart=>exact⟨rfl,rfl⟩
     case round=>
      obtain⟨rfl,rfl⟩:=hrel;go_wp2_with fail;exact⟨⟨i+1,by omega,by go_num,dr⟩,by simp[intOf];omega⟩
    case pos=>
     obtain⟨g,rfl,OH,zE⟩:=HS.out j VU;have hx:Hid (∀Dq os,κ prog 61 #[.int Z n] (grow (redrawn wr Dq) os) fun e aA=>e= δ (.agg #[.int Z (-n), .int Z (-n)])∧∃p:Regrown,aA=grow (redrawn wr p.d) p.os):=ad fun Dq os=>Calls.regrown_of (CS.out _);have HL:Hid (∀w':θ,(∃p:Regrown,w'=grow (redrawn wr p.d) p.os)→(Instr.loadAt 39 (.pointer (some ⟨g,j * 2,none⟩))).run prog w'= .ok (.agg ([.int Z (-n), .int Z (-n)]:List Value).toArray) w'):=ad fun w' hc=>by
      obtain⟨q,rfl⟩:=hc;exact run_loadAt_mid _ g (j * 2) 39 _ _ (fun m u hm=>((dr.trans ((below_regrown wr q.d q.os).mono dr.size)).cell (p:=⟨g,j * 2+m,none⟩) OH).trans (zE m u hm)) underlying39 rfl wm
     have y0:=cell_regrown k0;have y1:=cell_regrown k1;go_upto_region 8 with fail;clear k0 k1 k2;refine wp_region_quiet_below (by kernel_rfl) (by kernel_rfl) ?_
     repeat(go_big_quiet_step (fail))
     refine Dc rfl rfl (by first|rfl|simp) HL.out rfl ?_;simp only[Act.put,List.setIfInBounds_toArray,List.set_cons_zero,List.set_cons_succ]
     repeat(go_big_quiet_step (fail))
     go_big_quiet_step (exact hx.out _ _)
     repeat(go_big_quiet_step (fail))
     refine wpQuiet_nil ?_;intro _ fF;obtain⟨⟨dq,gj⟩,eU⟩:=fF;subst eU;have mW:=Zu.trans ((below_regrown wr dq gj).mono Zu.size);go_wp2_with fail;exact⟨⟨j+1,by omega,by go_num,mW⟩,by simp[intOf];omega⟩
theorem MK {M p:Nat}{w w2 w':θ}{N:Int}{items:List (Int×Value×Nat)}(h:SpP w2 p (N+1) items w')(n0:0≤N)(n1:N≤M)(hi:items.length≤4 * M)(hb:Below w.heap.size w w2)(hp:p<w.heap.size):Below p w w'∧jW (M+1) p w'∧w.heap.size≤w'.heap.size:=by
 obtain⟨h1,kv,rf,h2,h3,h4,h5⟩:=h;exact⟨(hb.mono (Γ hp)).trans h1,⟨N+1,kv,rf,by omega,by omega,by omega,h2,h3,h5⟩,τ hb.size h1.size⟩
theorem Zv {w:θ}{v:Value}{j:Nat}{N:Int}(h:mv w v j N):∀g,v.ownBlock=some g→g<w.heap.size:=by
 intro g q;rcases h with⟨a,_⟩|⟨g',cap,cur,a,b,_⟩
 ·rw[a]at q;cases q
 ·rw[a]at q;cases q;exact(Array.getElem?_eq_some_iff.1 b).1
theorem uu:∀(l:List (Int×Int)) (i:Nat) (h:i<l.length),∀j v,[Value.int Z (l[i]).1, .int Z (l[i]).2][j]?=some v→(eo l)[i * 2+j]?=some v
 |a::l,0,_,j,v,hv=>by
  have hj:j<2:=(List.getElem?_eq_some_iff.1 hv).1;unfold eo;rw[ν,List.flatten_cons,Nat.zero_mul,Β,π (by exact hj)];exact hv
 |a::l,i+1,h,j,v,hv=>by
  have:=uu l i (by simpa using h) j v (by simpa using hv);unfold eo at this⊢;rw[ν,List.flatten_cons,ο (by simp;omega)];rw[show(i+1) * 2+j - [Value.int Z a.1, .int Z a.2].length=i * 2+j by simp;omega];exact this
theorem aaJ {s:List UInt8}{f t:Int}{l:List (Int×Int)}(h:kY s f t= .ok l):l.length≤3000:=by
 unfold kY at h;split at h
 ·cases h
 ·split at h
  ·split at h
   ·cases h;exact τ (DV _ _ _) (by assumption)
   ·cases h
  ·cases h
theorem Uo (p M:Nat)(k a n m:Int)(S T:ByteArray)(sa:Option Addr)(sl sc:Nat)(w:θ)(hS:S.size≤1048575)(hR:fu w)(hM:M≤1900000)(hp:p<w.heap.size)(h:jW M p w):
 κ prog 58 #[.pointer (some ⟨p,0,none⟩), .agg #[.int Z k, .int Z a, .int Z n, .int Z m, .string S, .string T, .slice sa sl sc]] w fun E w'=>E= δ (.bool true)∧Below p w w'∧jW (M+1) p w'∧w.heap.size≤w'.heap.size:=by
 have XC:S.data.toList.length≤1048575:=by rw[Array.length_toList];exact hS
 have C1:=fun W (hW:fu W)=>Ji S.data.toList n m W hW.ml hW.Lt (by omega);have C2:=fun W (hW:fu W)=>NP S.data.toList n m W XC hW.n1 hW.g1 hW.n2 hW.g2;rw[show(⟨S.data.toList.toArray⟩:ByteArray)=S from by simp]at C1;unfold ba at C2;rw[show(⟨S.data.toList.toArray⟩:ByteArray)=S from by simp]at C2;obtain⟨w0,zA⟩:∃w0,w0=w.alloc (.cells #[.int Z k, .int Z a, .int Z n, .int Z m, .string S, .string T, .slice sa sl sc] 65):=⟨_,rfl⟩;have bz:Below w.heap.size w w0:=by rw[zA];exact(μ _ _).alloc (ξ _) _
 cases he:kY S.data.toList n m with
 |error x=>
  have D1:Hid (∀W,fu W→κ prog 23 #[.string S, .int Z n, .int Z m] W fun e w'=>e= δ (.tuple #[.slice none 0 0, .int Z x])∧Below W.heap.size W w'):=ad fun W hW=>(C1 W hW).mono fun e w' q=>by unfold vh at q;rw[he]at q;exact q
  have D2:Hid (∀W,fu W→κ prog 112 #[.string S, .int Z n, .int Z m] W fun e w'=>e= δ (.tuple #[.slice none 0 0, .int Z x])∧Below W.heap.size W w'):=ad fun W hW=>(C2 W hW).mono fun e w' q=>by unfold Uj at q;rw[he]at q;exact q
  have HR:=ad (hR.on bz);have HK:=ad (h.on bz);have jT:(x==x)=true:=by simp
  clear C1 C2 hR h he;go_enter func58,ntmps58;have rS:af w0 w.heap.size [.int Z k, .int Z a, .int Z n, .int Z m, .string S, .string T, .slice sa sl sc] 65:=by rw[zA];exact af.new _ _ _
  go_upto_region 1 with fail;rw[←zA];have t2:=rS.cell (k:=2) rfl;have t3:=rS.cell (k:=3) rfl;have t4:=rS.cell (k:=4) rfl;replace zA:=ad zA;go_upto_region 2 with(go_at_call 23;refine(D1.out _ HR.out).mono ?_;rintro e w1 ⟨rfl,ai⟩);clear t2 t3 t4;have FE:=rS.on ai;have t2:=FE.cell (k:=2) rfl;have t3:=FE.cell (k:=3) rfl;have t4:=FE.cell (k:=4) rfl;go_upto_region 3 with(go_at_call 112;refine(D2.out _ (HR.out.on ai)).mono ?_;rintro e w2 ⟨rfl,az⟩);have GX:Below w0.heap.size w0 w2:=ai.trans (az.mono ai.size);have hb:Below w.heap.size w w2:=bz.trans (GX.mono bz.size);have Cj:=ad (HK.out.on GX);clear t2 t3 t4 rS FE;go_wp2_with (go_at_call 108;refine(so x _).mono ?_;rintro e w3 ⟨rfl,rfl⟩);go_loopw [9,10] (fun ok t wr=>ok= .bool true∧t= .int Z 0∧wr=w2) (fun _ _ _=>0)
  case atStart=>exact⟨rfl,rfl,rfl⟩
  case round=>
   obtain⟨rfl,rfl,rfl⟩:=hrel;obtain⟨N,kv,items,z1,z2,z3,z4,z5,z6⟩:=Cj.out;have C9:=hb.size;have CS:=ad (Jv p wr.heap.size N kv (.slice none 0 0) 0 [] items wr z1 (by omega) (by omega) (by omega) (by omega) (ξ _) (fun it h=>(z6 it h).2) z4 (φ _ _ _ _) z5 (fun it h=>⟨(z6 it h).1,Zv (z6 it h).1⟩));clear z4 z5 z6 HK Cj;go_wp2_with (go_at_call 113;refine(CS.out).mono ?_;rintro e w4 ⟨rfl,hP⟩);go_ret;exact⟨rfl,MK hP z1 z2 z3 hb hp⟩
 |ok L=>
  have D1:Hid (∀W,fu W→κ prog 23 #[.string S, .int Z n, .int Z m] W fun e w'=>(∃v,e= δ (.tuple #[v, .int Z 0])∧w'.ownsRow W.heap.size 39 2 v L.length (eo L))∧Below W.heap.size W w'):=ad fun W hW=>(C1 W hW).mono fun e w' q=>by unfold vh at q;rw[he]at q;exact q
  have D2:Hid (∀W,fu W→κ prog 112 #[.string S, .int Z n, .int Z m] W fun e w'=>(∃v,e= δ (.tuple #[v, .int Z 0])∧w'.ownsRow W.heap.size 163 2 v L.length (eo L))∧Below W.heap.size W w'):=ad fun W hW=>(C2 W hW).mono fun e w' q=>by unfold Uj at q;rw[he]at q;exact q
  have hLl:=aaJ he;have HR:=ad (hR.on bz);have HK:=ad (h.on bz);clear C1 C2 hR h he;go_enter func58,ntmps58;have rS:af w0 w.heap.size [.int Z k, .int Z a, .int Z n, .int Z m, .string S, .string T, .slice sa sl sc] 65:=by rw[zA];exact af.new _ _ _
  go_upto_region 1 with fail;rw[←zA];have t2:=rS.cell (k:=2) rfl;have t3:=rS.cell (k:=3) rfl;have t4:=rS.cell (k:=4) rfl;replace zA:=ad zA;go_upto_region 2 with(go_at_call 23;refine(D1.out _ HR.out).mono ?_;rintro e w1 ⟨⟨v1,rfl,o1⟩,ai⟩;have O1:=ad o1;obtain⟨a1,k1,c1,rfl⟩:=wu o1;have e1:=ur o1;subst e1);clear t2 t3 t4 o1;have FE:=rS.on ai;have t2:=FE.cell (k:=2) rfl;have t3:=FE.cell (k:=3) rfl;have t4:=FE.cell (k:=4) rfl;go_upto_region 3 with(go_at_call 112;refine(D2.out _ (HR.out.on ai)).mono ?_;rintro e w2 ⟨⟨v2,rfl,o2⟩,az⟩;have O2:=ad o2;obtain⟨a2,k2,c2,rfl⟩:=wu o2;have e2:=ur o2;subst e2);have GX:Below w0.heap.size w0 w2:=ai.trans (az.mono ai.size);have hb:Below w.heap.size w w2:=bz.trans (GX.mono bz.size);have P1:Hid (w2.ownsRow w0.heap.size 39 2 (.slice a1 L.length c1) L.length (eo L)):=ad (eN O1.out fun g _ hg=>az.block g hg);have zY:((L.length:Int)==(L.length:Int))=true:=by simp
  clear t2 t3 t4 rS FE o2 O1;go_wp2_with (go_at_call 108;refine(so 0 _).mono ?_;rintro e w3 ⟨rfl,rfl⟩);go_loopw [9,10] (fun ok t wr=>∃i:Nat,i≤L.length∧ok= .bool true∧t= .int Z i∧Below w2.heap.size w2 wr) (fun _ t _=>L.length - (intOf t).toNat)
  case atStart=>exact⟨0,υ _,rfl,rfl,μ _ _⟩
  case round=>
   obtain⟨i,hi,rfl,rfl,dG⟩:=hrel;by_cases ay:i<L.length
   case neg=>
    have Q3:Below w0.heap.size w0 wr:=GX.trans (dG.mono GX.size);have ah:Below w.heap.size w wr:=hb.trans (dG.mono hb.size);obtain⟨N,kv,items,z1,z2,z3,z4,z5,z6⟩:=HK.out;have fH:=bz.size;have CS:=ad (Jv p w0.heap.size N kv (.slice a1 L.length c1) L.length (eo L) items wr z1 (by omega) hLl (by omega) (by omega) Q3.size (fun it h=>(z6 it h).2) (z4.on Q3) (eN P1.out fun g _ hg=>dG.block g hg) (eN z5 fun g _ hg=>Q3.block g hg) (fun it h=>⟨(z6 it h).1.on fun g _ hg=>Q3.block g hg,Zv (z6 it h).1⟩));clear z4 z5 z6 HK;go_wp2_with (go_at_call 113;refine(CS.out).mono ?_;rintro e w4 ⟨rfl,hP⟩);go_ret;exact⟨rfl,MK hP z1 z2 z3 ah hp⟩
   case pos=>
    obtain⟨g1,d1,q1,l1,f1⟩:=wx P1.out (by omega);obtain⟨g2,d2,q2,l2,f2⟩:=wx O2.out (by omega);cases q1;cases q2;have x0:=(dG.cell (p:=⟨g1,i * 2,none⟩) l1).trans (f1 _ _ (uu L i ay 0 _ rfl));have x1:=(dG.cell (p:=⟨g1,i * 2+1,none⟩) l1).trans (f1 _ _ (uu L i ay 1 _ rfl));have y0:=(dG.cell (p:=⟨g2,i * 2,none⟩) l2).trans (f2 _ _ (uu L i ay 0 _ rfl));have y1:=(dG.cell (p:=⟨g2,i * 2+1,none⟩) l2).trans (f2 _ _ (uu L i ay 1 _ rfl));generalize(L[i]).1=b at *
    generalize(L[i]).2=e at *
    have I3:(b==b)=true:=by simp
    have hee:(e==e)=true:=by simp
    clear f1 f2;go_upto_region 7 with fail;go_big_quiet (fail);have mW:=below_drewN dG nq;go_wp2_with fail;exact⟨⟨i+1,by omega,rfl,by go_num,mW⟩,by simp[intOf];omega⟩
def Zw:Bool:=match kY td 1704153600 1704758400 with
 | .error _=>false
 | .ok l=>decide (l=[(1704153600,1704157200),(1704326400,1704330000)])
theorem WC:Zw=true:=by decide+kernel
theorem Up:kY td 1704153600 1704758400= .ok [(1704153600,1704157200),(1704326400,1704330000)]:=by
 have h:=WC;unfold Zw at h;cases hr:kY td 1704153600 1704758400 with
 |error x=>rw[hr]at h;cases h
 |ok l=>
  rw[hr]at h;simp only[decide_eq_true_eq]at h;rw[h]
theorem Uq (p M:Nat)(a n m:Int)(S T:ByteArray)(sa:Option Addr)(sl sc:Nat)(w:θ)(hS:S.size≤1048575)(hR:fu w)(hM:M≤1900000)(hp:p<w.heap.size)(h:jW M p w):
 κ prog 32 #[.pointer (some ⟨p,0,none⟩), .agg #[.int Z 5, .int Z a, .int Z n, .int Z m, .string S, .string T, .slice sa sl sc]] w fun E w'=>E= δ (.bool true)∧Below p w w'∧jW (M+1) p w'∧w.heap.size≤w'.heap.size:=by
 have bz:∀o,Below w.heap.size w (w.alloc o):=fun o=>(μ _ _).alloc (ξ _) _;have C:=ad (fun o=>Uo p M 5 a n m S T sa sl sc (w.alloc o) hS (hR.on (bz o)) hM (Nat.lt_of_lt_of_le hp (bz o).size) (h.on (bz o)));clear hR h;go_enter func32,ntmps32;go_wp2_with (go_at_call 58;refine(C.out _).mono ?_;rintro e w1 ⟨rfl,ai,jx,eP⟩);go_ret;exact⟨rfl,((bz _).mono (Γ hp)).trans ai,jx,τ (bz _).size eP⟩
theorem Q4 (p:Nat)(k a n m:Int)(S T:ByteArray)(sa:Option Addr)(sl sc:Nat)(w:θ)(c0:w.cell? ⟨p,0,none⟩=some (.slice none 0 0))(hp:p<w.heap.size)(h1:k<1):
 κ prog 32 #[.pointer (some ⟨p,0,none⟩), .agg #[.int Z k, .int Z a, .int Z n, .int Z m, .string S, .string T, .slice sa sl sc]] w fun E w'=>E= δ (.bool true)∧Below w.heap.size w w':=by
 have d0:∀o,(w.alloc o).cell? ⟨p,0,none⟩=some (.slice none 0 0):=fun o=>by rw[World.cell?_alloc_past _ _ _ hp];exact c0
 have e1:decide (1≤k)=false:=by simp;omega
 have e5:(k==5)=false:=by rw[beq_eq_false_iff_ne];omega
 have e6:(k==6)=false:=by rw[beq_eq_false_iff_ne];omega
 go_enter func32,ntmps32;go_wp2;go_ret;exact⟨rfl,(μ w.heap.size w).alloc (ξ _) _⟩
theorem aen (b off len cap:Nat)(w:θ)(hR:fu w)(hb:b<w.heap.size)(hlen:len≤1048576)(cM:∀i,i<len→Qv w b (off+i * 7))
 (hH:κ prog 31 #[.int Z 5] w fun E w'=>E= δ (.bool true)∧Below w.heap.size w w'):
 κ prog 15 #[.slice (some ⟨b,off,none⟩) len cap, .int Z 5] w fun E w'=>E= δ (.int Z (-1))∧Below w.heap.size w w':=by
 have CH:=ad hH;have HR:=ad hR;have HS:=ad cM;clear hR cM hH;go_enter func15,ntmps15;go_wp2_with (go_at_call 31;refine(CH.out).mono ?_;rintro e w1 ⟨rfl,ai⟩);have hz:=ai.size;go_loopw [7] (fun t wr=>∃i:Nat,i≤len∧t= .int Z i∧Below w.heap.size w wr∧w1.heap.size<wr.heap.size∧jW i w1.heap.size wr) (fun t _=>len - (intOf t).toNat)
 case atStart=>
  refine⟨0,by omega,rfl,ai.alloc ai.size _,by simp,0, .slice none 0 0,[],by omega,by omega,by simp,af.new _ _ _,φ _ _ _ _,by simp⟩
 case round=>
  obtain⟨i,hi,rfl,dG,ay,KO⟩:=hrel;have Px:=ad KO;by_cases lF:i<len
  case neg=>
   clear KO;go_wp2;go_ret;exact⟨rfl,dG⟩
  case pos=>
   obtain⟨k,a,n,m,S,T,sa,sl,sc,hS,q0,q1,q2,q3,q4,q5,q6⟩:=HS.out i lF;have r0:wr.cell? ⟨b,off+i * 7,none⟩=some (.int Z k):=by rw[dG.cell (p:=⟨b,off+i * 7,none⟩) hb];exact q0
   have r1:wr.cell? ⟨b,off+i * 7+1,none⟩=some (.int Z a):=by rw[dG.cell (p:=⟨b,off+i * 7+1,none⟩) hb];exact q1
   have r2:wr.cell? ⟨b,off+i * 7+2,none⟩=some (.int Z n):=by rw[dG.cell (p:=⟨b,off+i * 7+2,none⟩) hb];exact q2
   have r3:wr.cell? ⟨b,off+i * 7+3,none⟩=some (.int Z m):=by rw[dG.cell (p:=⟨b,off+i * 7+3,none⟩) hb];exact q3
   have r4:wr.cell? ⟨b,off+i * 7+4,none⟩=some (.string S):=by rw[dG.cell (p:=⟨b,off+i * 7+4,none⟩) hb];exact q4
   have r5:wr.cell? ⟨b,off+i * 7+5,none⟩=some (.string T):=by rw[dG.cell (p:=⟨b,off+i * 7+5,none⟩) hb];exact q5
   have r6:wr.cell? ⟨b,off+i * 7+6,none⟩=some (.slice sa sl sc):=by rw[dG.cell (p:=⟨b,off+i * 7+6,none⟩) hb];exact q6
   obtain⟨N,kv,items,_,_,_,iV,_⟩:=KO;have c0:=ad (iV.cell (k:=0) rfl);clear q0 q1 q2 q3 q4 q5 q6 iV;by_cases hk:5<k
   case pos=>
    go_wp2;exact⟨⟨i+1,by omega,by go_num,dG,ay,Px.out.up (by omega)⟩,by simp[intOf];omega⟩
   case neg=>
    by_cases h5:k=5
    case pos=>
     subst h5;have CS:=ad (Uq w1.heap.size i a n m S T sa sl sc wr hS (HR.out.on dG) (by omega) ay Px.out);have CT:=ad (fun W (h:jW (i+1) w1.heap.size W)=>Bj (i+1) w1.heap.size W (by omega) h);go_wp2_with (first
      |(go_at_call 32;refine(CS.out).mono ?_;rintro e w2 ⟨rfl,az,gm,fb⟩)
      |(go_at_call 33;refine(CT.out _ gm).mono ?_;rintro e w3 ⟨rfl,bw⟩))
     exact⟨⟨i+1,by omega,by go_num,(dG.trans (az.mono ai.size)).trans (bw.mono (by have:=dG.size;omega)),by have:=bw.size;omega,gm.on bw⟩,by simp[intOf];omega⟩
    case neg=>
    by_cases h1:1≤k
    case pos=>
     have CS:=ad (Z3 w1.heap.size k a n m S T sa sl sc wr hS (HR.out.on dG) h1 (by omega));have CT:=ad (fun W (h:jW i w1.heap.size W)=>Bj i w1.heap.size W (by omega) h);go_wp2_with (first
      |(go_at_call 32;refine(CS.out).mono ?_;rintro e w2 ⟨rfl,az⟩)
      |(go_at_call 33;refine(CT.out _ (Px.out.on az)).mono ?_;rintro e w3 ⟨rfl,bw⟩))
     exact⟨⟨i+1,by omega,by go_num,(dG.trans (az.mono dG.size)).trans (bw.mono (by have:=dG.size;have:=az.size;omega)),by have:=az.size;have:=bw.size;omega,((Px.out.on az).on bw).up (by omega)⟩,by simp[intOf];omega⟩
    case neg=>
     have CS:=ad (Q4 w1.heap.size k a n m S T sa sl sc wr c0.out ay (by omega));have CT:=ad (fun W (h:jW i w1.heap.size W)=>Bj i w1.heap.size W (by omega) h);go_wp2_with (first
      |(go_at_call 32;refine(CS.out).mono ?_;rintro e w2 ⟨rfl,az⟩)
      |(go_at_call 33;refine(CT.out _ (Px.out.on az)).mono ?_;rintro e w3 ⟨rfl,bw⟩))
     exact⟨⟨i+1,by omega,by go_num,(dG.trans (az.mono dG.size)).trans (bw.mono (by have:=dG.size;have:=az.size;omega)),by have:=az.size;have:=bw.size;omega,((Px.out.on az).on bw).up (by omega)⟩,by simp[intOf];omega⟩
theorem Py (w:θ)(hR:fu w):
 κ prog 31 #[.int Z 5] w fun E w'=>E= δ (.bool true)∧Below w.heap.size w w':=by
 have c1:=fun W=>wy ⟨#[50,48,50,52,48,50,50,57,84,48,48,48,48,48,48,90]⟩ W;have c2:=fun W=>xY ⟨#[80,49,68,84,49,72]⟩ W (by show 6≤maxLen;unfold maxLen;omega);have c3:=fun W (h:iU W)=>vg 1 W h;have c4:=fun W (h:fu W)=>Ii td W h.ml h.Lt (by decide);have c5:∀W,fu W→κ prog 23 #[.string ⟨td.toArray⟩, .int Z 1704153600, .int Z 1704758400] W fun e w'=>(∃g cap,e= δ (.tuple #[.slice (some ⟨g,0,none⟩) 2 cap, .int Z 0])∧w'.cell? ⟨g,0,none⟩=some (.int Z 1704153600)∧w'.cell? ⟨g,1,none⟩=some (.int Z 1704157200)∧w'.cell? ⟨g,2,none⟩=some (.int Z 1704326400)∧w'.cell? ⟨g,3,none⟩=some (.int Z 1704330000))∧Below W.heap.size W w':=fun W h=>(Ji td 1704153600 1704758400 W h.ml h.Lt (by decide)).mono fun e w' q=>by
  unfold vh at q;rw[Up]at q;obtain⟨⟨v,rfl,ho⟩,hb⟩:=q;obtain⟨g,cap,rfl,_,hc⟩:=wx ho (by decide);exact⟨⟨g,cap,rfl,hc 0 _ rfl,hc 1 _ rfl,hc 2 _ rfl,hc 3 _ rfl⟩,hb⟩
 rw[Q5]at c1;rw[NQ]at c2;rw[Q6]at c3;rw[Qu]at c4;unfold td Qt at c4;unfold td at c5;have C1:=ad c1;have C2:=ad c2;have C3:=ad c3;have C4:=ad c4;have C5:=ad c5;have HR:=ad hR;clear c1 c2 c3 c4 c5 hR;go_enter func31,ntmps31;go_wp2_with (first
  |(go_at_call 19;refine(C1.out _).mono ?_;rintro e w1 ⟨rfl,ai⟩)
  |(go_at_call 20;refine(C2.out _).mono ?_;rintro e w2 ⟨rfl,az⟩;have tc:=ai.trans (az.mono ai.size))
  |(go_at_call 18;refine(C3.out _ (HR.out.Lt.on tc)).mono ?_;rintro e w3 ⟨rfl,bw⟩;have h13:=tc.trans (bw.mono tc.size))
  |(go_at_call 22;refine(C4.out _ (HR.out.on h13)).mono ?_;rintro e w4 ⟨rfl,dN⟩;have h14:=h13.trans (dN.mono h13.size))
  |(go_at_call 23;refine(C5.out _ (HR.out.on h14)).mono ?_;rintro e w5 ⟨⟨g,cap,rfl,k0,k1,k2,k3⟩,bk⟩))
 go_ret;exact⟨rfl,h14.trans (bk.mono h14.size)⟩
theorem Ur (sa:Option Addr)(cap:Nat)(w:θ)(hR:fu w):
 κ prog 15 #[.slice sa 0 cap, .int Z 5] w fun E w'=>E= δ (.int Z (-1))∧Below w.heap.size w w':=by
 have CH:=ad (Py w hR);clear hR;go_enter func15,ntmps15;go_wp2_with (go_at_call 31;refine(CH.out).mono ?_;rintro e w1 ⟨rfl,ai⟩);have hz:=ai.size;go_loopw [7] (fun t wr=>t= .int Z 0∧Below w.heap.size w wr) (fun _ _=>0)
 case atStart=>exact⟨rfl,ai.alloc ai.size _⟩
 case round=>
  obtain⟨rfl,dG⟩:=hrel;go_wp2;go_ret;exact⟨rfl,dG⟩
theorem Us (b off len cap:Nat)(w:θ)(hR:fu w)(hb:b<w.heap.size)(hlen:len≤1048576)(cM:∀i,i<len→Qv w b (off+i * 7)):
 κ prog 15 #[.slice (some ⟨b,off,none⟩) len cap, .int Z 5] w fun E w'=>E= δ (.int Z (-1))∧Below w.heap.size w w':=aen b off len cap w hR hb hlen cM (Py w hR)
theorem WD (v:Value)(w:θ)(h:κ prog 15 #[v, .int Z 5] w fun E w'=>E= δ (.int Z (-1))∧Below w.heap.size w w'):
 κ prog 6 #[v] w fun E w'=>E= δ (.bool true)∧Below w.heap.size w w':=by
 have CH:=ad h;clear h;go_enter func6,ntmps6;go_wp2_with (go_at_call 15;refine(CH.out).mono ?_;rintro e w1 ⟨rfl,ai⟩)
 all_goals go_ret
 all_goals exact⟨rfl,ai⟩
open Go.ChangeShapes Go.WideShapes Go.ChangeAt Go.RowKit
theorem Ut:prog.cellsOf 65=7:=by kernel_rfl
theorem WE:prog.cellsOf 3=1:=by kernel_rfl
theorem qc:prog.cellsOf 9=1:=by kernel_rfl
theorem MN:prog.cellsOf 52=1:=by kernel_rfl
theorem WG {w:θ}{a:Addr}{v:Value}(h:w.cell? a=some v):a.spot=none:=by
 unfold World.cell? at h;split at h
 ·split at h
  ·cases h
  ·rename_i hn;cases hs:a.spot with
   |none=>rfl
   |some x=>rw[hs]at hn;simp at hn
 ·cases h
theorem rJ {α:Type}{l:List α}{k:Nat}{c:α}(h:(l.drop k).take 1=[c]):l[k]?=some c:=by
 have:=congrArg (·[0]?) h;simpa using this
section
variable {H:Type} {enc:Δ×Value→H} {w:θ} {spare:Nat→Bool} {held:Bool}
theorem Uu {n:Nat}{cs:List Value}{x:DataW H×List MemPlace}(h:η enc prog w 0 spare held n 65 cs=some x):
 ∃(k a n m:Int) (S T:ByteArray) (sa:Option Addr) (sl sc:Nat),S.size≤maxLen∧cs[0]?=some (.int Z k)∧cs[1]?=some (.int Z a)∧cs[2]?=some (.int Z n)∧cs[3]?=some (.int Z m)∧
  cs[4]?=some (.string S)∧cs[5]?=some (.string T)∧cs[6]?=some (.slice sa sl sc):=by
 obtain⟨xs,n',_,_,hl,hx,hf⟩:=DataW.trod_struct underlying65 h;have uQ:xs.length=7:=hx;have f0:η enc prog w 0 spare held n' 3 ((cs.drop 0).take (prog.cellsOf 3))=xs[0]?:=hf 0 _ rfl;have f1:η enc prog w 0 spare held n' 3 ((cs.drop 1).take (prog.cellsOf 3))=xs[1]?:=hf 1 _ rfl;have f2:η enc prog w 0 spare held n' 3 ((cs.drop 2).take (prog.cellsOf 3))=xs[2]?:=hf 2 _ rfl;have f3:η enc prog w 0 spare held n' 3 ((cs.drop 3).take (prog.cellsOf 3))=xs[3]?:=hf 3 _ rfl;have f4:η enc prog w 0 spare held n' 9 ((cs.drop 4).take (prog.cellsOf 9))=xs[4]?:=hf 4 _ rfl;have f5:η enc prog w 0 spare held n' 9 ((cs.drop 5).take (prog.cellsOf 9))=xs[5]?:=hf 5 _ rfl;have f6:η enc prog w 0 spare held n' 52 ((cs.drop 6).take (prog.cellsOf 52))=xs[6]?:=hf 6 _ rfl;rw[WE]at f0 f1 f2 f3;rw[qc]at f4 f5;rw[MN]at f6;rw[ζ (by omega)]at f0 f1 f2 f3 f4 f5 f6;obtain⟨k,e0,_⟩:=DataW.trod_int underlying3 f0;obtain⟨a,e1,_⟩:=DataW.trod_int underlying3 f1;obtain⟨n,e2,_⟩:=DataW.trod_int underlying3 f2;obtain⟨m,e3,_⟩:=DataW.trod_int underlying3 f3;obtain⟨S,e4,_,hS⟩:=DataW.trod_string underlying9 f4;obtain⟨T,e5,_⟩:=DataW.trod_string underlying9 f5;obtain⟨sa,sl,sc,e6⟩:=Joins.slice_form underlying52 f6;exact⟨k,a,n,m,S,T,sa,sl,sc,hS,rJ e0,rJ e1,rJ e2,rJ e3,rJ e4,rJ e5,rJ e6⟩
end
theorem aif:prog.globalNamed "internal/strconv.uint64pow10" =some 3:=by kernel_rfl
theorem WH:(prog.globals[3]?).map (·.type)=some 354:=by kernel_rfl
theorem WI:prog.cellsOf 354=20:=by kernel_rfl
theorem WJ:prog.cellsOf 309=1:=by kernel_rfl
theorem aeq {W:θ}{a b c d:String×DataW Unit}{r:List (String×DataW Unit)}(h:laidMet prog (a::b::c::d::("internal/strconv.uint64pow10",Rows.laid_internal_strconv_uint64pow10)::r) W):iU W:=
 Lib.tabIs_of_head aif WH underlying354 underlying309 WJ WI (show laidMet prog (("internal/strconv.uint64pow10",Lib.tabData .u64 Lib.pow10Tab)::r) W from h.tail.tail.tail.tail)
end Go.Proofs.YthpndgcaoeokeaaGreatDoor
namespace Go.Proofs.YthpndgcaoeokeaaGreatDoor
open _root_.Go.Proofs.Tryz
open Go.ChangeShapes Go.WideShapes Go.ChangeAt Go.RowKit
theorem Bk {P:Program}{W:θ}{name:String}{ns:List (List UInt8)}{rest:List (String×DataW Unit)}{g:Nat}{t e:Δ}{n:Nat}
 (hg:P.globalNamed name=some g)(hty:(P.globals[g]?).map (·.type)=some t)(ht:P.underlying t=some (.array n e))(he:P.underlying e=some .string)(AJ:P.cellsOf e=1)(hn:ns.length=n)
 (h:laidMet P ((name, .agg (ns.map fun l=> .lit (.string l)))::rest) W):∀j,j<ns.length→W.cell? ⟨g,j,none⟩=some (.string ⟨(ns.getD j []).toArray⟩):=by
 obtain⟨ps,⟨g',t',cs,fuel,p,q,uV,XO,hv,hd,_,_⟩,_⟩:=h;obtain rfl:=ι (hg.symm.trans uV);obtain rfl:=ι (hty.symm.trans XO);obtain⟨xs,m,_,ex,_,hl,hel⟩:=DataW.trod_array ht hd;intro r hr;have hE:=hel r (by omega);rw[AJ,Nat.mul_one,ζ (by omega)]at hE;obtain⟨z,e1,e2,_⟩:=DataW.trod_string he hE;have e3:(xs.map (·.1))=ns.map fun l=> .lit (.string l):=(DataW.agg.inj (Prod.mk.inj ex).1).symm;have e4:(xs.map (·.1))[r]?=(ns.map fun l=>(DataW.lit (.string l):DataW Unit))[r]?:=by rw[e3]
 rw[ψ,ψ,ζ (by omega:r<xs.length),ζ hr,e2]at e4;have hz:z=⟨(ns.getD r []).toArray⟩:=by
  simp only[Option.map_some,Option.some.injEq,DataW.lit.injEq,Lit.string.injEq]at e4;apply ByteArray.ext;apply Array.toList_inj.1;rw[e4];simp[List.getD,hr]
 rw[World.var?_cell hg hv r,←hz];have:cs.toList[r]?=some (.string z):=rJ e1;simpa using this
theorem aer:prog.globalNamed "fallow/fallowref.properties" =some 1:=by kernel_rfl
theorem aes:prog.globalNamed "fallow/fallowref.parts" =some 2:=by kernel_rfl
theorem Q7:(prog.globals[1]?).map (·.type)=some 241:=by kernel_rfl
theorem Q8:(prog.globals[2]?).map (·.type)=some 241:=by kernel_rfl
def Names (w:θ):Prop:=(∀j,j<bJ.length→w.cell? ⟨1,j,none⟩=some (.string ⟨(bJ.getD j []).toArray⟩))∧(∀j,j<aC.length→w.cell? ⟨2,j,none⟩=some (.string ⟨(aC.getD j []).toArray⟩))
theorem WK {W:θ}{r:List (String×DataW Unit)}(h:laidMet prog (("fallow/fallowref.properties",Rows.laid_fallow_fallowref_properties)::("fallow/fallowref.parts",Rows.laid_fallow_fallowref_parts)::r) W):Names W:=
 ⟨Bk aer Q7 underlying241 underlying9 qc rfl (show laidMet prog (("fallow/fallowref.properties", .agg (bJ.map fun l=> .lit (.string l)))::_) W from h),
  Bk aes Q8 underlying241 underlying9 qc rfl (show laidMet prog (("fallow/fallowref.parts", .agg (aC.map fun l=> .lit (.string l)))::_) W from h.tail)⟩
theorem own:ownKnob prog.godebug=none:=by kernel_rfl
theorem laidOut:laidOutB prog=true:=by kernel_rfl
theorem WL {H:Type}(d:DataW H):1≤ε d:=by
 cases d with
 |lit l=>cases l<;>simp[ε]
 |nil=>simp[ε]
 |ptr d=>simp[ε]
 |slice elems spare=>simp[ε]
 |agg parts=>simp[ε]
 |iface t d=>simp[ε]
 |map entries=>simp[ε]
 |held h=>simp[ε]
theorem Bm {H:Type}{d:DataW H}:∀{l:List (DataW H)},d∈l→ε d≤ω l
 |x::r,h=>by
  simp only[ω];rcases List.mem_cons.1 h with e|e
  ·subst e;omega
  ·have:=Bm e;omega
section
variable {H:Type} {enc:Δ×Value→H} {w:θ} {spare:Nat→Bool} {held:Bool}
theorem Uv {n:Nat}{cs:List Value}{x:DataW H×List MemPlace}(h:η enc prog w 0 spare held n 65 cs=some x){S:ByteArray}(hc:cs[4]?=some (.string S)):S.size+2≤ε x.1:=by
 obtain⟨xs,n',_,Uw,hl,hx,hf⟩:=DataW.trod_struct underlying65 h;have uQ:xs.length=7:=hx;have f4:η enc prog w 0 spare held n' 9 ((cs.drop 4).take (prog.cellsOf 9))=xs[4]?:=hf 4 _ rfl;rw[qc,ζ (by omega)]at f4;obtain⟨S',e4,e5,_⟩:=DataW.trod_string underlying9 f4;have hS:S'=S:=by have:=(rJ e4).symm.trans hc;simpa using this
 subst hS;have hm:DataW.lit (.string S'.data.toList)∈xs.map (·.1):=List.mem_map.2 ⟨xs[4],Α _,by rw[e5]⟩;have h1:=Bm hm;rw[Uw];simp only[ε]at h1⊢;have h2:S'.data.toList.length=S'.size:=by rw[Array.length_toList];rfl
 omega
theorem Q9 {n:Nat}{v:Value}{x:DataW H×List MemPlace}(h:η enc prog w 0 spare held n 22 [v]=some x)(hb:ε x.1≤1048576):
 (∃sa cap,v= .slice sa 0 cap)∨∃b off len cap,v= .slice (some ⟨b,off,none⟩) len cap∧b<w.heap.size∧len≤maxLen∧∀i,i<len→Qv w b (off+i * 7):=by
 rcases Go.Deep.open_slice underlying22 h with⟨hv,_⟩|⟨a,len,cap,m,n,D,Pl,hv,_,MB,I8,hm,Uw,hx⟩
 ·exact Or.inl ⟨none,0,by simpa using hv⟩
 obtain rfl:v= .slice (some a) len cap:=by simpa using hv
 rcases Nat.eq_zero_or_pos len with rfl|hp
 ·exact Or.inl ⟨some a,cap,rfl⟩
 right;have hle:len≤m:=by rw[hm];split<;>omega
 have hD:∀i,i<len→ε (D i)≤1048576:=fun i hi=>by
  have:=Bm (d:=D i) (l:=(List.range len).map D) (List.mem_map.2 ⟨i,List.mem_range.2 hi,rfl⟩);rw[Uw]at hb;simp only[ε]at hb;omega
 rw[Ut]at hx;have cell:∀i,i<len→∃lS,lS.length=7∧(∀j,j<7→w.cell? ((a.add (i * 7)).add j)=lS[j]?)∧η enc prog w 0 spare held n 65 lS=some (D i,Pl i):=fun i hi=>by
  obtain⟨lS,h1,h2⟩:=hx i (by omega);obtain⟨_,hl,hc⟩:=World.cells?_some h1;exact⟨lS,hl,hc,h2⟩
 obtain⟨c0,l0,g0,_⟩:=cell 0 hp;have q0:w.cell? a=some c0[0]:=by
  have:=g0 0 (by omega);rw[ζ (by omega)]at this;simpa[Addr.add]using this
 have hs:=WG q0;have AN:=ρ w a q0;obtain⟨b,off,sp⟩:=a;obtain rfl:sp=none:=hs;have at_:∀i j,(Addr.add (Addr.add ⟨b,off,none⟩ i) j)=⟨b,off+i+j,none⟩:=fun i j=>by
  unfold Addr.add;by_cases hi:i=0<;>by_cases hj:j=0<;>simp[hi,hj]
 refine⟨b,off,len,cap,rfl,AN,by omega,fun i hi=>?_⟩;obtain⟨cs,hl,hc,ht⟩:=cell i hi;obtain⟨k,a,n,m,S,T,sa,sl,sc,hS,e0,e1,e2,e3,e4,e5,e6⟩:=Uu ht;have h5:=Uv ht e4;have h6:=hD i hi;have c:∀j,j<7→w.cell? ⟨b,off+i * 7+j,none⟩=cs[j]?:=fun j hj=>by rw[←at_];exact hc j hj
 exact⟨k,a,n,m,S,T,sa,sl,sc,by simp only[]at h5;omega,(c 0 (by omega)).trans e0,(c 1 (by omega)).trans e1,(c 2 (by omega)).trans e2,(c 3 (by omega)).trans e3,(c 4 (by omega)).trans e4,(c 5 (by omega)).trans e5,(c 6 (by omega)).trans e6⟩
end
theorem ae8 {W:θ}(h:W.ShapedOpen prog):ML W:=by
 obtain⟨m,hm⟩:=cell_of_shapedOpen_int (g:=0) (zero:=#[.int Z 0]) (t:=3) h (of_decide_eq_true (by kernel_rfl)) (by kernel_rfl) rfl (by kernel_rfl) (by kernel_rfl) underlying3;exact⟨ρ W _ hm,m,hm⟩
end Go.Proofs.YthpndgcaoeokeaaGreatDoor
namespace Go.Proofs.YthpndgcaoeokeaaGreatDoor
open _root_.Go.Proofs.Tryz
open Go.ChangeShapes Go.WideShapes Go.ChangeAt Go.RowKit
theorem both {a b:Bool}(h:a=true)(k:b=true):(a&&b)=true:=by rw[h,k];rfl
end Go.Proofs.YthpndgcaoeokeaaGreatDoor
