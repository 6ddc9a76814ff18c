import Derived.Test.YthpndgcaoeokeaaGreatDoorCo30
set_option maxRecDepth 100000
set_option maxHeartbeats 8000000
open Go.IntKind renaming i64→Z
open Go.Value renaming int→V,pointer→ε,slice→ζ,string→η
open Go.Ending renaming returned→δ
open Go.Obj renaming cells→θ
open Go renaming World→ι,Calls→ρ
open Nat renaming le_refl→κ
open List renaming setIfInBounds_toArray→μ,set_cons_zero→ο,set_cons_succ→π,getD_eq_getElem?_getD→υ,getElem?_eq_getElem→φ,contains_iff_mem→χ,takeWhile_cons→ψ,filter_cons→Α
open Go.Instr renaming loadAt→ν,makeFunc→τ
open Go.RowKit.Below renaming refl→ξ,heap_setCell→ω
namespace Go.Proofs.YthpndgcaoeokeaaGreatDoor
open Tryz
open Go.RowKit Go.Sort
theorem getD_take {l:List Int}{k:Nat}(h:k<l.length):l.take (k+1)=l.take k++[l.getD k 0]:=by
 rw[List.take_succ_eq_append_getElem h,υ,φ h];rfl
theorem xL (v:Value)(l:List Int)(n:Int)(w:ι)(hv:cF w v l):
 ρ prog 247 #[v, V Z n] w fun e w'=>e= δ (.bool (l.contains n))∧w=w':=by
 obtain⟨b,hb⟩:∃b,b=l.contains n:=⟨_,rfl⟩;rw[←hb];have HB:=ad hb;clear hb;obtain⟨hl,⟨rfl,rfl⟩|⟨g,off,cap,rfl,hg,hc⟩⟩:=hv
 ·go_enter func247,ntmps247;go_wp2;go_loop [5] (fun i=>i= V Z 0) (fun _=>0)
  case atStart=>rfl
  case round=>
   subst hrel;have e:b=false:=HB.out;subst e;clear HB;go_wp2;go_ret;exact⟨rfl,rfl⟩
 ·have HC:=ad hc;clear hc;go_enter func247,ntmps247;go_wp2;go_loop [5] (fun i=>∃k:Nat,k≤l.length∧i= V Z k∧Hid ((l.take k).contains n=false)) (fun i=>l.length - (intOf i).toNat)
  case atStart=>exact⟨0,Nat.zero_le _,rfl,ad rfl⟩
  case round=>
   obtain⟨k,hk,rfl,hn⟩:=hrel;by_cases ay:k<l.length
   case neg=>
    have e:l.contains n=false:=by have:=hn.out;rwa [List.take_of_length_le (by omega)]at this
    have e2:b=false:=HB.out.trans e;subst e2;clear e HB;go_wp2;go_ret;exact⟨rfl,rfl⟩
   case pos=>
    have cR:=HC.out k ay;have ht:=getD_take ay;by_cases he:l.getD k 0=n
    ·have e:l.contains n=true:=by
      rw[χ,←he,υ,φ ay];exact List.getElem_mem ay
     have e2:b=true:=HB.out.trans e;subst e2;rw[he]at cR;have Sm:(n==n)=true:=by simp
     clear ht he e hn HB;go_wp2;go_ret;exact⟨rfl,rfl⟩
    ·have hs:Hid ((l.take (k+1)).contains n=false):=ad (by
      rw[ht];have h1:=hn.out;cases h2:(l.take k++[l.getD k 0]).contains n with
      |false=>rfl
      |true=>
       rw[χ,List.mem_append,List.mem_singleton]at h2;rcases h2 with h2|h2
       ·rw[List.contains_iff_mem.2 h2]at h1;cases h1
       ·exact absurd h2.symm he)
     generalize l.getD k 0=z at *
     have hz:(z==n)=false:=by simp[he]
     clear ht hn he;go_wp2;exact⟨⟨k+1,by omega,by go_num,hs⟩,by simp[intOf];omega⟩
def TN (fq iv ct un:Int)(m md sp wk od:Value)(ws:Int)(t0 t1 t2 t3 t4 t5 t6 t7 t8:ByteArray):Value:=
 .agg #[V Z fq, V Z iv, V Z ct, V Z un,m,md,sp,wk,od, V Z ws, η t0, η t1, η t2, η t3, η t4, η t5, η t6, η t7, η t8]
def yR (v:Value):Prop:=∃a n c,v= ζ a n c
def lr (fq ws n:Int):Int:=if fq=2 then n - ((n+3)%7 - ws)%7 else if fq=3 then n - ae.ar n+1 else if fq=4 then ae.num (ae.ag n) 1 1 else n
theorem Fu {n:Int}(h0:0≤n)(h1:n<84100):1970≤ae.ag n∧ae.ag n≤2200:=by
 have h:=iJ n (by omega);have e1:=ae.nD;have e2:ae.num 2201 1 1=84371:=by decide
 constructor
 ·by_cases q:1970≤ae.ag n
  ·exact q
  ·obtain⟨k,hk⟩:∃k:Nat,(1970:Int)=ae.ag n+1+k:=⟨(1970 - (ae.ag n+1)).toNat,by omega⟩;have:=ae.fp (ae.ag n+1) k;rw[←hk]at this;omega
 ·by_cases q:ae.ag n≤2200
  ·exact q
  ·obtain⟨k,hk⟩:∃k:Nat,ae.ag n=2201+k:=⟨(ae.ag n - 2201).toNat,by omega⟩;have:=ae.fp 2201 k;rw[←hk]at this;omega
theorem AT (fq iv ct un:Int)(m md sp wk od:Value)(ws:Int)(t0 t1 t2 t3 t4 t5 t6 t7 t8:ByteArray)(n:Int)(w:ι)(h0:0≤n)(h1:n<84100)(w0:0≤ws)(w6:ws≤6):
 ρ prog 243 #[TN fq iv ct un m md sp wk od ws t0 t1 t2 t3 t4 t5 t6 t7 t8,nf n] w fun e w'=>e= δ (V Z (lr fq ws n))∧Below w.heap.size w w':=by
 have hy:=Fu h0 h1;have hr:=gL n (by omega) (by omega);unfold TN nf lr;have C:=ad (fun W=>oc (ae.ag n) 1 1 W (by omega) (by omega) (by omega) (by omega) (by omega) (by omega));generalize ae.ar n=D at *
 generalize ae.ofM n=M at *
 generalize ae.num (ae.ag n) 1 1=J at *
 generalize ae.ag n=Y at *
 have hq:0≤(n+3)%7∧(n+3)%7<7:=by omega
 generalize(n+3)%7=q at *
 by_cases f2:fq=2
 ·subst f2;simp only[if_true];go_enter func243,ntmps243;go_wp2_with fail;go_ret;exact⟨rfl,mh w _ _⟩
 rw[if_neg f2];have g2:(fq==2)=false:=by simp[f2]
 by_cases f3:fq=3
 ·subst f3;simp only[if_true];go_enter func243,ntmps243;go_wp2_with fail;go_ret;exact⟨rfl,mh w _ _⟩
 rw[if_neg f3];have g3:(fq==3)=false:=by simp[f3]
 by_cases f4:fq=4
 ·subst f4;simp only[if_true];go_enter func243,ntmps243;go_wp2_with fail;refine(C.out _).mono ?_;rintro e w1 ⟨rfl,rfl⟩;go_wp2_with fail;go_ret;exact⟨rfl,mh w _ _⟩
 rw[if_neg f4];have g4:(fq==4)=false:=by simp[f4]
 go_enter func243,ntmps243;go_wp2_with fail;go_ret;exact⟨rfl,mh w _ _⟩
theorem Fv {w:ι}{g:Nat}{x0 x1 x2 x3 x4 x5 x6 x7 x8 x9 Hk Hl Hm pd Hn Ho Hp Hq Mj:Value}{T:TypeId}(h:af w g [x0,x1,x2,x3,x4,x5,x6,x7,x8,x9,Hk,Hl,Hm,pd,Hn,Ho,Hp,Hq,Mj] T):
 w.cell? ⟨g,0,none⟩=some x0∧w.cell? ⟨g,1,none⟩=some x1∧w.cell? ⟨g,2,none⟩=some x2∧w.cell? ⟨g,3,none⟩=some x3∧w.cell? ⟨g,4,none⟩=some x4∧w.cell? ⟨g,5,none⟩=some x5∧w.cell? ⟨g,6,none⟩=some x6∧w.cell? ⟨g,7,none⟩=some x7∧w.cell? ⟨g,8,none⟩=some x8∧w.cell? ⟨g,9,none⟩=some x9∧w.cell? ⟨g,10,none⟩=some Hk∧w.cell? ⟨g,11,none⟩=some Hl∧w.cell? ⟨g,12,none⟩=some Hm∧w.cell? ⟨g,13,none⟩=some pd∧w.cell? ⟨g,14,none⟩=some Hn∧w.cell? ⟨g,15,none⟩=some Ho∧w.cell? ⟨g,16,none⟩=some Hp∧w.cell? ⟨g,17,none⟩=some Hq∧w.cell? ⟨g,18,none⟩=some Mj:=
 ⟨h.cell rfl,h.cell rfl,h.cell rfl,h.cell rfl,h.cell rfl,h.cell rfl,h.cell rfl,h.cell rfl,h.cell rfl,h.cell rfl,h.cell rfl,h.cell rfl,h.cell rfl,h.cell rfl,h.cell rfl,h.cell rfl,h.cell rfl,h.cell rfl,h.cell rfl⟩
theorem c5 {w:ι}{g:Nat}{x0 x1 x2 x3 x4:Value}{T:TypeId}(h:af w g [x0,x1,x2,x3,x4] T):
 w.cell? ⟨g,0,none⟩=some x0∧w.cell? ⟨g,1,none⟩=some x1∧w.cell? ⟨g,2,none⟩=some x2∧w.cell? ⟨g,3,none⟩=some x3∧w.cell? ⟨g,4,none⟩=some x4:=
 ⟨h.cell rfl,h.cell rfl,h.cell rfl,h.cell rfl,h.cell rfl⟩
theorem gM {ops:Array Oper}{C:ι→Prop}{Q:Act→Prop}{rest:List Oper}{o:Oper}{a a':Act}{x:Operand}{g:Nat}{cs:List Value}{T:TypeId}(hw:Region.wanted o (yielded ops a.tmps)=true)(ho:o.op= .load T x)(hx:a.eval x= ε (some ⟨g,0,none⟩))
 (hr:∀w,C w→(ν T (ε (some ⟨g,0,none⟩))).run prog w= .ok (.agg cs.toArray) w)(ha:a.put o.dst (.agg cs.toArray)=a')(h:wpQuiet prog ops C Q rest a'):wpQuiet prog ops C Q (o::rest) a:=
 BigFrame.wpQuiet_want hw fun K hK=>⟨.agg cs.toArray,fun w hc=>by unfold Oper.quietAt;rw[dp ho hx (hr w hc)];exact⟨rfl,rfl⟩,hK _ (by rw[ha];exact h)⟩
theorem Mk {w:ι}{g:Nat}{cs:List Value}(h:af w g cs 243)(hl:cs.length=19):(ν 243 (ε (some ⟨g,0,none⟩))).run prog w= .ok (.agg cs.toArray) w:=
 run_loadAt_mid w g 0 243 cs _ (dc h) underlying243 rfl (by rw[hl];exact fk)
theorem aS:(prog.info? 236).map (·.size)=some 5:=by kernel_rfl
theorem jQ {w:ι}{g:Nat}{cs:List Value}(h:af w g cs 236)(hl:cs.length=5):(ν 236 (ε (some ⟨g,0,none⟩))).run prog w= .ok (.agg cs.toArray) w:=
 run_loadAt_mid w g 0 236 cs _ (dc h) underlying236 rfl (by rw[hl];exact aS)
def Jg (fq ws a b:Int):Int:=if fq=2 then(lr 2 ws b - lr 2 ws a)/7 else if fq=3 then 12 * (ae.ag b - ae.ag a)+ae.ofM b - ae.ofM a else if fq=4 then ae.ag b - ae.ag a else b - a
theorem GK (ws n:Int):lr 2 ws n=n - ((n+3)%7 - ws)%7:=by unfold lr;rw[if_pos rfl]
theorem AU (w:ι)(a b c:Obj):Below w.heap.size w (((w.alloc a).alloc b).alloc c):=(((ξ _ _).alloc (κ _) _).alloc (by simp) _).alloc (by simp;omega) _
theorem Ml (fq iv ct un:Int)(m md sp wk od:Value)(ws:Int)(t0 t1 t2 t3 t4 t5 t6 t7 t8:ByteArray)(a b:Int)(w:ι)(i1:yR m)(i2:yR md)(i3:yR sp)(i4:yR wk)(i5:yR od)(h0:0≤a)(XE:a≤b)(h1:b<84100)(w0:0≤ws)(w6:ws≤6):
 ρ prog 241 #[TN fq iv ct un m md sp wk od ws t0 t1 t2 t3 t4 t5 t6 t7 t8,nf a,nf b] w fun e w'=>e= δ (V Z (Jg fq ws a b))∧Below w.heap.size w w':=by
 have hya:=gL a (by omega) (by omega);have hyb:=gL b (by omega) (by omega);by_cases f2:fq=2
 ·subst f2;have ha:0≤a - lr 2 ws a∧a - lr 2 ws a≤6:=by rw[GK];omega
  have hb:0≤b - lr 2 ws b∧b - lr 2 ws b≤6:=by rw[GK];omega
  have hd:lr 2 ws a≤lr 2 ws b:=by rw[GK,GK];omega
  have CA:=fun W=>AT 2 iv ct un m md sp wk od ws t0 t1 t2 t3 t4 t5 t6 t7 t8 a W h0 (by omega) w0 w6;have CB:=fun W=>AT 2 iv ct un m md sp wk od ws t0 t1 t2 t3 t4 t5 t6 t7 t8 b W (by omega) (by omega) w0 w6;obtain⟨a1,n1,k1,rfl⟩:=i1;obtain⟨a2,n2,k2,rfl⟩:=i2;obtain⟨a3,n3,k3,rfl⟩:=i3;obtain⟨a4,n4,k4,rfl⟩:=i4;obtain⟨a5,n5,k5,rfl⟩:=i5;unfold Jg;simp only[if_true];generalize lr 2 ws a=x at *
  generalize lr 2 ws b=y at *
  unfold TN nf at *
  generalize ae.ar a=Da at *
  generalize ae.ofM a=Ma at *
  generalize ae.ag a=Ya at *
  generalize ae.ar b=Db at *
  generalize ae.ofM b=Mb at *
  generalize ae.ag b=Yb at *
  generalize(a+3)%7=qa at *
  generalize(b+3)%7=qb at *
  have HA:=ad CA;have HB:=ad CB;clear CA CB;have r0:=qs w [V Z 2, V Z iv, V Z ct, V Z un, ζ a1 n1 k1, ζ a2 n2 k2, ζ a3 n3 k3, ζ a4 n4 k4, ζ a5 n5 k5, V Z ws, η t0, η t1, η t2, η t3, η t4, η t5, η t6, η t7, η t8] 243 (θ #[V Z Ya, V Z Ma, V Z Da, V Z a, V Z qa] 236) (θ #[V Z Yb, V Z Mb, V Z Db, V Z b, V Z qb] 236);have r1:=qt w (θ #[V Z 2, V Z iv, V Z ct, V Z un, ζ a1 n1 k1, ζ a2 n2 k2, ζ a3 n3 k3, ζ a4 n4 k4, ζ a5 n5 k5, V Z ws, η t0, η t1, η t2, η t3, η t4, η t5, η t6, η t7, η t8] 243) [V Z Ya, V Z Ma, V Z Da, V Z a, V Z qa] 236 (θ #[V Z Yb, V Z Mb, V Z Db, V Z b, V Z qb] 236);have r2:=qu w (θ #[V Z 2, V Z iv, V Z ct, V Z un, ζ a1 n1 k1, ζ a2 n2 k2, ζ a3 n3 k3, ζ a4 n4 k4, ζ a5 n5 k5, V Z ws, η t0, η t1, η t2, η t3, η t4, η t5, η t6, η t7, η t8] 243) (θ #[V Z Ya, V Z Ma, V Z Da, V Z a, V Z qa] 236) [V Z Yb, V Z Mb, V Z Db, V Z b, V Z qb] 236;have ah:=mi w (θ #[V Z 2, V Z iv, V Z ct, V Z un, ζ a1 n1 k1, ζ a2 n2 k2, ζ a3 n3 k3, ζ a4 n4 k4, ζ a5 n5 k5, V Z ws, η t0, η t1, η t2, η t3, η t4, η t5, η t6, η t7, η t8] 243) (θ #[V Z Ya, V Z Ma, V Z Da, V Z a, V Z qa] 236) (θ #[V Z Yb, V Z Mb, V Z Db, V Z b, V Z qb] 236);go_enter func241,ntmps241;go_upto_region 1 with fail;generalize((w.alloc (θ #[V Z 2, V Z iv, V Z ct, V Z un, ζ a1 n1 k1, ζ a2 n2 k2, ζ a3 n3 k3, ζ a4 n4 k4, ζ a5 n5 k5, V Z ws, η t0, η t1, η t2, η t3, η t4, η t5, η t6, η t7, η t8] 243)).alloc (θ #[V Z Ya, V Z Ma, V Z Da, V Z a, V Z qa] 236)).alloc (θ #[V Z Yb, V Z Mb, V Z Db, V Z b, V Z qb] 236)=W at *
  obtain⟨g0,g1,g2,g3,g4,g5,g6,g7,g8,g9,g10,g11,g12,g13,g14,g15,g16,g17,g18⟩:=Fv r0;obtain⟨d0,d1,d2,d3,d4⟩:=c5 r1;obtain⟨e0,e1,e2,e3,e4⟩:=c5 r2;have HL:Hid (∀w':ι,(∃p:Regrown,w'=grow (redrawn W p.d) p.os)→(ν 243 (ε (some ⟨w.heap.size,0,none⟩))).run prog w'= .ok (.agg ([V Z 2, V Z iv, V Z ct, V Z un, ζ a1 n1 k1, ζ a2 n2 k2, ζ a3 n3 k3, ζ a4 n4 k4, ζ a5 n5 k5, V Z ws, η t0, η t1, η t2, η t3, η t4, η t5, η t6, η t7, η t8]:List Value).toArray) w'):=ad fun w' hc=>by
   obtain⟨p,rfl⟩:=hc;exact Mk (r0.on (below_regrown W p.d p.os)) rfl
  have HDA:Hid (∀w':ι,(∃p:Regrown,w'=grow (redrawn W p.d) p.os)→(ν 236 (ε (some ⟨w.heap.size+1,0,none⟩))).run prog w'= .ok (.agg ([V Z Ya, V Z Ma, V Z Da, V Z a, V Z qa]:List Value).toArray) w'):=ad fun w' hc=>by
   obtain⟨p,rfl⟩:=hc;exact jQ (r1.on (below_regrown W p.d p.os)) rfl
  have HDB:Hid (∀w':ι,(∃p:Regrown,w'=grow (redrawn W p.d) p.os)→(ν 236 (ε (some ⟨w.heap.size+1+1,0,none⟩))).run prog w'= .ok (.agg ([V Z Yb, V Z Mb, V Z Db, V Z b, V Z qb]:List Value).toArray) w'):=ad fun w' hc=>by
   obtain⟨p,rfl⟩:=hc;exact jQ (r2.on (below_regrown W p.d p.os)) rfl
  clear r0 r1 r2;go_upto_region 3 with fail;refine wp_region_quiet_below (by kernel_rfl) (by kernel_rfl) ?_;refine gM rfl rfl rfl HL.out rfl ?_;simp only[Act.put,μ,ο,π];refine gM rfl rfl rfl HDB.out rfl ?_;simp only[Act.put,μ,ο,π];go_big_quiet_step (exact Calls.regrown_of (HB.out _));refine gM rfl rfl rfl HL.out rfl ?_;simp only[Act.put,μ,ο,π];refine gM rfl rfl rfl HDA.out rfl ?_;simp only[Act.put,μ,ο,π];go_big_quiet_step (exact Calls.regrown_of (HA.out _))
  repeat(go_big_quiet_step (fail))
  refine wpQuiet_nil ?_;intro _ fF;obtain⟨⟨dq,gj⟩,eU⟩:=fF;subst eU;go_wp2_with fail;go_ret;exact⟨rfl,ah.trans ((below_regrown W dq gj).mono ah.size)⟩
 unfold Jg;rw[if_neg f2];unfold TN nf;generalize ae.ar a=Da at *
 generalize ae.ofM a=Ma at *
 generalize ae.ag a=Ya at *
 generalize ae.ar b=Db at *
 generalize ae.ofM b=Mb at *
 generalize ae.ag b=Yb at *
 generalize(a+3)%7=qa at *
 generalize(b+3)%7=qb at *
 have g2:(fq==2)=false:=by simp[f2]
 by_cases f3:fq=3
 ·subst f3;simp only[if_true];go_enter func241,ntmps241;go_wp2_with fail;go_ret;exact⟨rfl,AU w _ _ _⟩
 rw[if_neg f3];have g3:(fq==3)=false:=by simp[f3]
 by_cases f4:fq=4
 ·subst f4;simp only[if_true];go_enter func241,ntmps241;go_wp2_with fail;go_ret;exact⟨rfl,AU w _ _ _⟩
 rw[if_neg f4];have g4:(fq==4)=false:=by simp[f4]
 go_enter func241,ntmps241;go_wp2_with fail;go_ret;exact⟨rfl,AU w _ _ _⟩
def DW (n:Int)(yr:Bool):Int:=if yr then n - ae.num (ae.ag n) 1 1+1 else ae.ar n
def GM (n:Int)(yr:Bool):Int:=if yr then ae.yd (ae.ag n)else ae.md (ae.ag n) (ae.ofM n)
def Mm (n o:Int)(yr:Bool):Bool:=if o<0 then(GM n yr - DW n yr)/7+1==-o else(DW n yr - 1)/7+1==o
theorem aat {n:Int}(h0:0≤n)(yr:Bool):1≤DW n yr∧DW n yr≤GM n yr∧GM n yr≤366:=by
 obtain⟨a,b,c,d⟩:=ae.eT n (by omega);have e:=ae.gP n (by omega);have h:=iJ n (by omega);have h2:=ae.iN (ae.ag n);have h3:=ae.xV (ae.ag n);have h4:=ae.fS (ae.ag n) (ae.ofM n);unfold DW GM;cases yr with
 |true=>simp only[if_true];omega
 |false=>simp only[Bool.false_eq_true,if_false];omega
theorem NK (n o:Int)(yr:Bool)(w:ι)(h0:0≤n)(h1:n<84100)(o0:-1000≤o)(o1:o≤1000):
 ρ prog 294 #[nf n, V Z o, .bool yr] w fun e w'=>e= δ (.bool (Mm n o yr))∧Below w.heap.size w w':=by
 have hy:=Fu h0 h1;have hr:=gL n (by omega) (by omega);have hb:=aat h0 yr;have C1:=ad (fun W=>ij (ae.ag n) (ae.ofM n) W (by omega) (by omega));have C2:=ad (fun W=>oc (ae.ag n) 1 1 W (by omega) (by omega) (by omega) (by omega) (by omega) (by omega));have C3:=ad (fun W=>oa (ae.ag n) W (by omega) (by omega));have hj:=ae.pt (ae.ag n) (by omega) (by omega);have ai:∀os,Below w.heap.size w (w.alloc os):=fun os=>(ξ _ _).alloc (κ _) _;unfold Mm DW GM at *
 unfold nf;generalize ae.md (ae.ag n) (ae.ofM n)=MD at *
 generalize ae.yd (ae.ag n)=YD at *
 generalize ae.num (ae.ag n) 1 1=J at *
 generalize ae.ar n=D at *
 generalize ae.ofM n=M at *
 generalize ae.ag n=Y at *
 generalize(n+3)%7=q at *
 cases yr with
 |false=>
  simp only[Bool.false_eq_true,if_false]at hb⊢;by_cases ho:o<0
  ·rw[if_pos ho];go_enter func294,ntmps294;go_wp2_with fail;refine(C1.out _).mono ?_;rintro e w1 ⟨rfl,rfl⟩;go_wp2_with fail;go_ret;exact⟨rfl,ai _⟩
  ·rw[if_neg ho];go_enter func294,ntmps294;go_wp2_with fail;refine(C1.out _).mono ?_;rintro e w1 ⟨rfl,rfl⟩;go_wp2_with fail;go_ret;exact⟨rfl,ai _⟩
 |true=>
  simp only[if_true]at hb⊢;by_cases ho:o<0
  ·rw[if_pos ho];go_enter func294,ntmps294;go_wp2_with fail;refine(C1.out _).mono ?_;rintro e w1 ⟨rfl,rfl⟩;go_upto_region 4 with fail;go_big_quiet (exact fK (C2.out _));go_wp2_with fail;refine(C3.out _).mono ?_;rintro e w1 ⟨rfl,rfl⟩;go_wp2_with fail;go_ret;exact⟨rfl,below_drewN (ai _) _⟩
  ·rw[if_neg ho];go_enter func294,ntmps294;go_wp2_with fail;refine(C1.out _).mono ?_;rintro e w1 ⟨rfl,rfl⟩;go_upto_region 4 with fail;go_big_quiet (exact fK (C2.out _));go_wp2_with fail;refine(C3.out _).mono ?_;rintro e w1 ⟨rfl,rfl⟩;go_wp2_with fail;go_ret;exact⟨by rw[show n - J+1 - 1=n - J by omega];rfl,below_drewN (ai _) _⟩
theorem V9 {n:Int}(h0:0≤n):(ae.ar n<ae.md (ae.ag n) (ae.ofM n)∧ae.ag (n+1)=ae.ag n∧ae.ofM (n+1)=ae.ofM n∧ae.ar (n+1)=ae.ar n+1)∨
 (ae.ar n=ae.md (ae.ag n) (ae.ofM n)∧ae.ofM n<12∧ae.ag (n+1)=ae.ag n∧ae.ofM (n+1)=ae.ofM n+1∧ae.ar (n+1)=1)∨
 (ae.ar n=ae.md (ae.ag n) (ae.ofM n)∧ae.ofM n=12∧ae.ag (n+1)=ae.ag n+1∧ae.ofM (n+1)=1∧ae.ar (n+1)=1):=by
 obtain⟨a,b,c,d⟩:=ae.eT n (by omega);have e:=ae.gP n (by omega);have e1:=ae.fg (ae.ag n) (ae.ofM n) (ae.ar n);by_cases q:ae.ar n<ae.md (ae.ag n) (ae.ofM n)
 ·left;exact⟨q,ae.Eh (by omega) ⟨a,b,by omega,by omega⟩ (by rw[ae.fg];omega)⟩
 ·right;have hd:ae.ar n=ae.md (ae.ag n) (ae.ofM n):=by omega
  by_cases q2:ae.ofM n<12
  ·left;have e2:=ae.ks (ae.ag n) (ae.ofM n) a (by omega);have m:=ae.fS (ae.ag n) (ae.ofM n+1);exact⟨hd,q2,ae.Eh (by omega) ⟨by omega,by omega,by omega,by omega⟩ (by rw[e2];omega)⟩
  ·right;have hm:ae.ofM n=12:=by omega
   have e2:=ae.rP (ae.ag n);have m:=ae.fS (ae.ag n+1) 1;have m12:=ae.Kg (ae.ag n);rw[hm]at e1 hd;exact⟨by rw[hm];exact hd,hm,ae.Eh (by omega) ⟨by omega,by omega,by omega,by omega⟩ (by rw[e2];rw[hm]at e;omega)⟩
theorem qC {P:Program}{c:Code}{Q:Exit→Act→ι→Prop}{a:Act}{W:ι}(J:ι→Prop)(hJ:J W)(h:∀X,J X→Code.wp P c Q a X):Code.wp P c Q a W:=h W hJ
theorem TO {B:Nat}{a w:ι}(h:Below B a w){b k:Nat}(hb:B≤b)(v:Value):Below B a (w.setCell ⟨b,k,none⟩ v):=
 ⟨h.os,h.tape,h.output,by simpa[World.setCell]using h.size,fun j hj=>(ω _ _ _ _ (show j≠b by omega)).trans (h.block j hj)⟩
def tu (w:ι)(cs:List Value)(X:ι):Prop:=af X w.heap.size cs 236∧af X (w.heap.size+1) [V Z 0, V Z 0, V Z 0, V Z 0, V Z 0] 236∧Below w.heap.size w X
theorem tu.set {w X:ι}{cs:List Value}(h:tu w cs X)(k:Nat)(v:Value):tu w (cs.set k v) (X.setCell ⟨w.heap.size,k,none⟩ v):=
 ⟨h.1.set v,h.2.1.other (by omega) v,TO h.2.2 (κ _) v⟩
theorem tu.drew {w X:ι}{cs:List Value}(h:tu w cs X)(n:Nat):tu w cs (X.drewN n):=⟨h.1,h.2.1,below_drewN h.2.2 n⟩
theorem tu.cells {w X:ι}{x0 x1 x2 x3 x4:Value}(h:tu w [x0,x1,x2,x3,x4] X):X.cell? ⟨w.heap.size,0,none⟩=some x0∧X.cell? ⟨w.heap.size,1,none⟩=some x1∧X.cell? ⟨w.heap.size,2,none⟩=some x2∧X.cell? ⟨w.heap.size,3,none⟩=some x3∧X.cell? ⟨w.heap.size,4,none⟩=some x4∧∀k,X.frozen? ⟨w.heap.size,k,none⟩=false:=
 ⟨h.1.cell rfl,h.1.cell rfl,h.1.cell rfl,h.1.cell rfl,h.1.cell rfl,fun _=>h.1.free⟩
theorem aau (Y M D n q MD Y' M' D':Int)(w:ι)(C:Hid (∀W,ρ prog 180 #[V Z Y, V Z M] W fun e w'=>e= δ (V Z MD)∧W=w'))(y0:0≤Y)(y1:Y≤5000)(m0:1≤M)(m1:M≤12)(d0:1≤D)(d1:D≤MD)(d2:MD≤31)(n0:0≤n)(n1:n≤100000)(q0:0≤q)(q1:q<7)
 (h:(D<MD∧Y'=Y∧M'=M∧D'=D+1)∨(D=MD∧M<12∧Y'=Y∧M'=M+1∧D'=1)∨(D=MD∧M=12∧Y'=Y+1∧M'=1∧D'=1)):
 ρ prog 246 #[.agg #[V Z Y, V Z M, V Z D, V Z n, V Z q]] w fun e w'=>e= δ (.agg #[V Z Y', V Z M', V Z D', V Z (n+1), V Z ((q+1)%7)])∧Below w.heap.size w w':=by
 go_enter func246,ntmps246;go_upto_region 1 with fail;refine qC (tu w [V Z Y, V Z M, V Z D, V Z n, V Z q]) ⟨pH w _ _ _,pI w _ _ _,mh w _ _⟩ ?_;intro X1 j1;obtain⟨c0,c1,c2,c3,c4,cf⟩:=j1.cells;have f3:=cf 3;have f4:=cf 4;have f2:=cf 2;clear cf;go_upto_region 4 with fail;refine qC (tu w [V Z Y, V Z M, V Z (D+1), V Z (n+1), V Z ((q+1)%7)]) (((j1.set 3 _).set 4 _).set 2 _) ?_;clear c0 c1 c2 c3 c4 f2 f3 f4 j1;intro X2 j2;obtain⟨c0,c1,c2,c3,c4,cf⟩:=j2.cells;clear cf;rcases h with⟨h,rfl,rfl,rfl⟩|⟨rfl,h,rfl,rfl,rfl⟩|⟨rfl,rfl,rfl,rfl,rfl⟩
 ·have f1:decide (MD<D+1)=false:=by simp;omega
  go_big_quiet (exact fK (C.out _));replace j2:=j2.drew nq;generalize X2.drewN nq=X3 at *
  clear c0 c1 c2 c3 c4;obtain⟨c0,c1,c2,c3,c4,cf⟩:=j2.cells;clear cf;go_upto_region 10 with fail;refine qC (tu w [V Z Y', V Z M', V Z (D+1), V Z (n+1), V Z ((q+1)%7)]) j2 ?_;intro X9 j9;obtain⟨r0,r1,iI⟩:=j9;go_wp2_with (first
   |(refine aR rfl rfl rfl r0 underlying236 rfl aS ?_)
   |(refine aN rfl rfl rfl rfl r1 rfl aS (by simp[Value.oneCell']) ?_;intro W9 r9 x9))
  exact bodyPost_ret (v:= .agg #[V Z Y', V Z M', V Z (D+1), V Z (n+1), V Z ((q+1)%7)]) (ke results246 rfl (run_loadVar_mid _ (w.heap.size+1) 0 236 _ _ (dc r9) underlying236 rfl aS)) rfl ⟨rfl,iI.trans (x9.below iI.size (fun k hk=>by omega))⟩
 ·have f1:decide (D<D+1)=true:=by simp;omega
  go_big_quiet (exact fK (C.out _));replace j2:=j2.drew nq;generalize X2.drewN nq=X3 at *
  clear c0 c1 c2 c3 c4;obtain⟨c0,c1,c2,c3,c4,cf⟩:=j2.cells;have f2:=cf 2;have f3:=cf 1;clear cf;go_upto_region 7 with fail;refine qC (tu w [V Z Y', V Z (M+1), V Z 1, V Z (n+1), V Z ((q+1)%7)]) ((j2.set 2 _).set 1 _) ?_;intro X4 j4;clear c0 c1 c2 c3 c4 f2 f3 j2;obtain⟨c0,c1,c2,c3,c4,cf⟩:=j4.cells;clear cf;go_upto_region 10 with fail;refine qC (tu w [V Z Y', V Z (M+1), V Z 1, V Z (n+1), V Z ((q+1)%7)]) j4 ?_;intro X9 j9;obtain⟨r0,r1,iI⟩:=j9;go_wp2_with (first
   |(refine aR rfl rfl rfl r0 underlying236 rfl aS ?_)
   |(refine aN rfl rfl rfl rfl r1 rfl aS (by simp[Value.oneCell']) ?_;intro W9 r9 x9))
  exact bodyPost_ret (v:= .agg #[V Z Y', V Z (M+1), V Z 1, V Z (n+1), V Z ((q+1)%7)]) (ke results246 rfl (run_loadVar_mid _ (w.heap.size+1) 0 236 _ _ (dc r9) underlying236 rfl aS)) rfl ⟨rfl,iI.trans (x9.below iI.size (fun k hk=>by omega))⟩
 ·have f1:decide (D<D+1)=true:=by simp;omega
  go_big_quiet (exact fK (C.out _));replace j2:=j2.drew nq;generalize X2.drewN nq=X3 at *
  clear c0 c1 c2 c3 c4;obtain⟨c0,c1,c2,c3,c4,cf⟩:=j2.cells;have f2:=cf 2;have f3:=cf 1;clear cf;go_upto_region 7 with fail;refine qC (tu w [V Z Y, V Z 13, V Z 1, V Z (n+1), V Z ((q+1)%7)]) ((j2.set 2 _).set 1 _) ?_;intro X4 j4;clear c0 c1 c2 c3 c4 f2 f3 j2;obtain⟨c0,c1,c2,c3,c4,cf⟩:=j4.cells;have f2:=cf 0;have f3:=cf 1;clear cf;go_upto_region 10 with fail;refine qC (tu w [V Z (Y+1), V Z 1, V Z 1, V Z (n+1), V Z ((q+1)%7)]) ((j4.set 1 _).set 0 _) ?_;intro X9 j9;obtain⟨r0,r1,iI⟩:=j9;go_wp2_with (first
   |(refine aR rfl rfl rfl r0 underlying236 rfl aS ?_)
   |(refine aN rfl rfl rfl rfl r1 rfl aS (by simp[Value.oneCell']) ?_;intro W9 r9 x9))
  exact bodyPost_ret (v:= .agg #[V Z (Y+1), V Z 1, V Z 1, V Z (n+1), V Z ((q+1)%7)]) (ke results246 rfl (run_loadVar_mid _ (w.heap.size+1) 0 236 _ _ (dc r9) underlying236 rfl aS)) rfl ⟨rfl,iI.trans (x9.below iI.size (fun k hk=>by omega))⟩
theorem Jh (n:Int)(w:ι)(h0:0≤n)(h1:n≤84090):
 ρ prog 246 #[nf n] w fun e w'=>e= δ (nf (n+1))∧Below w.heap.size w w':=by
 have hy:=gL n (by omega) (by omega);obtain⟨_,_,_,v4⟩:=ae.eT n (by omega);have vm:=ae.fS (ae.ag n) (ae.ofM n);have:=aau (ae.ag n) (ae.ofM n) (ae.ar n) n ((n+3)%7) (ae.md (ae.ag n) (ae.ofM n)) (ae.ag (n+1)) (ae.ofM (n+1)) (ae.ar (n+1)) w (ad fun W=>ij (ae.ag n) (ae.ofM n) W (by omega) (by omega)) (by omega) (by have:=Fu h0 (by omega);omega) (by omega) (by omega) (by omega) v4 (by omega) h0 (by omega) (by omega) (by omega) (V9 h0);unfold nf;rwa [show((n+3)%7+1)%7=(n+1+3)%7 by omega]at this
theorem GN (p:Addr)(w:ι):
 CallsD prog 88 #[ε (some p)] .returning w fun e u' w'=>e= δ (.tuple #[])∧u'= .returning∧w'=w:=by
 have hf:=nY p .nilIface;refine callsD_of_wpS func88 rfl fun c₀ cs hu=>?_;refine pQ fun K hK=>?_;refine wpS_region ?_;simp[wpOpsS,go_sem,recoverD,hu,ntmps88,Exit.thenS];rw[hf];refine hK _ _ _ ?_;clear hK K hf;refine wpS_of_wp ?_;go_wp2;cases c₀;simp_all[bodyPostS,results,results88]
theorem zI (p:Addr)(e:Int)(x:Value)(vf:List PanicEntry)(w:ι)(hc:w.cell? p=some x)(hz:w.frozen? p=false)(hp:p.block<w.heap.size):
 CallsD prog 88 #[ε (some p)] (.panicking ({v:= .iface 103 (.agg #[V Z e]),recovered:=false}::vf)) w fun E u' w'=>
  E= δ (.tuple #[])∧u'= .panicking ({v:= .iface 103 (.agg #[V Z e]),recovered:=true}::vf)∧w'=(w.alloc (θ #[V Z e] 103)).setCell p (V Z e):=by
 have hta:=yO;have fb:∀o,(w.alloc o).frozen? p=false:=fun o=>by rw[World.frozen?_alloc_old w o p (by omega)];exact hz
 have hf:=nY p (.iface 103 (.agg #[V Z e]));refine callsD_of_wpS func88 rfl fun c₀ cs hu=>?_;refine pQ fun K hK=>?_;refine wpS_region ?_;simp[wpOpsS,go_sem,recoverD,hu,ntmps88,Exit.thenS];rw[hf];refine hK _ _ _ ?_;clear hK K hf;refine wpS_of_wp ?_;go_wp2;exact⟨rfl,_,rfl, .tuple #[],by simp[results,results88],rfl,rfl,rfl⟩
theorem GO (p q r:Addr)(l:List (Int×Int))(w:ι)
 (hf:∀W,Below w.heap.size w W→ρ prog 46 #[ε (some p), ε (some q), ε (some r)] W fun E w'=>(∃v,E= δ v∧w'.ownsRow W.heap.size 39 2 v l.length (eo l))∧Below W.heap.size W w'):
 ρ prog 45 #[.func (.func 46) #[] #[ε (some p), ε (some q), ε (some r)]] w fun E w'=>(∃v,E= δ (.tuple #[v, V Z 0])∧w'.ownsRow w.heap.size 39 2 v l.length (eo l))∧Below w.heap.size w w':=by
 have Cf:∀(fn:Fn) (first cap:Array Value) (w:ι),(τ fn first cap).run prog w= .ok (.func fn first cap) w:=fun _ _ _ _=>rfl;have HF:=ad hf;clear hf;go_enter_defers func45,ntmps45;go_wp2_with fail;refine(HF.out _ ((ξ _ _).alloc (κ _) _)).mono ?_;rintro e w1 ⟨⟨v,rfl,aw⟩,ai⟩;obtain⟨hc,po⟩:=lI ai;have hz:=ai.size;have h0:w1.cell? ⟨w.heap.size,0,none⟩=some (V Z 0):=by rw[hc _ _ (by simp)];simp[go_sem]
 have h1:w1.frozen? ⟨w.heap.size,0,none⟩=false:=by rw[po _ _ (by simp)];simp[go_sem]
 have ay:w.heap.size<w1.heap.size:=by simp at hz;omega
 have hb:Below w.heap.size w w1:=((ξ _ _).alloc (κ _) _).trans (ai.mono (by simp));clear hc po ai hz;have di:∀k,v.ownBlock=some k→k≠w.heap.size:=fun k hk=>by have:=(aw.lt k hk).1;simp at this;omega
 have dj:=fa aw (w':=w1.setCell ⟨w.heap.size,0,none⟩ (V Z 0)) fun g hg=>ω _ _ _ _ (di g hg);replace dj:=sr dj (show w.heap.size≤_ by simp);obtain⟨a5,c5,rfl⟩:=th aw;clear aw di;go_wp2;refine leaves_cons (f:=88) (args:=#[ε (some ⟨w.heap.size,0,none⟩)]) (by simp) (by simp[go_sem]) ?_;refine(GN _ _).mono ?_;rintro e u' aA ⟨rfl,rfl,rfl⟩;refine⟨.tuple #[ζ a5 l.length c5, V Z 0],?_,⟨_,rfl,dj⟩,hb.setCell (κ _) _⟩;simp[results,results45,go_sem,h0]
theorem JZ (p q r:Addr)(x:Int)(w:ι)
 (hf:∀W,Below w.heap.size w W→ρ prog 46 #[ε (some p), ε (some q), ε (some r)] W fun E w'=>E= .panicked (bN x)∧Below W.heap.size W w'):
 ρ prog 45 #[.func (.func 46) #[] #[ε (some p), ε (some q), ε (some r)]] w fun E w'=>E= δ (.tuple #[ζ none 0 0, V Z x])∧Below w.heap.size w w':=by
 have Cf:∀(fn:Fn) (first cap:Array Value) (w:ι),(τ fn first cap).run prog w= .ok (.func fn first cap) w:=fun _ _ _ _=>rfl;have HF:=ad hf;clear hf;go_enter_defers func45,ntmps45;go_wp2_with fail;refine(HF.out _ ((ξ _ _).alloc (κ _) _)).mono ?_;rintro e w1 ⟨rfl,ai⟩;obtain⟨hc,po⟩:=lI ai;have hz:=ai.size;have h0:w1.cell? ⟨w.heap.size,0,none⟩=some (V Z 0):=by rw[hc _ _ (by simp)];simp[go_sem]
 have h1:w1.frozen? ⟨w.heap.size,0,none⟩=false:=by rw[po _ _ (by simp)];simp[go_sem]
 have ay:w.heap.size<w1.heap.size:=by simp at hz;omega
 have hb:Below w.heap.size w w1:=((ξ _ _).alloc (κ _) _).trans (ai.mono (by simp));clear hc po ai hz;refine leaves_cons (f:=88) (args:=#[ε (some ⟨w.heap.size,0,none⟩)]) (by simp) (by simp[go_sem]) ?_;refine(zI ⟨w.heap.size,0,none⟩ x (V Z 0) [] _ h0 h1 ay).mono ?_;rintro e u' aA ⟨rfl,rfl,rfl⟩;refine⟨.tuple #[ζ none 0 0, V Z x],?_,rfl,(hb.alloc (Nat.le_of_lt ay) _).setCell (κ _) _⟩;have h2:((w1.alloc (θ #[V Z x] 103)).cell? ⟨w.heap.size,0,none⟩).isSome=true:=by
  rw[World.cell?_alloc_past _ _ _ ay,h0];rfl
 simp[results,results45,go_sem,h2]
theorem Wa (s:List UInt8)(f t:Int)(p q r:Addr)(w:ι)(hm:ML w)(ht:iU w)(hs:s.length≤1048576)(c0:w.cell? p=some (η ⟨s.toArray⟩))(c1:w.cell? q=some (V Z f))(c2:w.cell? r=some (V Z t))(x:Int)(h:kY s f t= .error x):
 ρ prog 46 #[ε (some p), ε (some q), ε (some r)] w fun E w'=>E= .panicked (bN x)∧Below w.heap.size w w':=by
 have C:Hid (ρ prog 47 #[η ⟨s.toArray⟩, V Z f, V Z t] w fun E w'=>E= .panicked (bN x)∧Below w.heap.size w w'):=ad ((C6 s f t w hm ht hs).mono fun E w' hp=>by
  unfold tq at hp;rw[h]at hp;exact hp)
 clear hm ht h;go_enter func46,ntmps46;go_wp2_with fail;refine(C.out).mono ?_;rintro e w1 ⟨rfl,hb⟩;exact⟨rfl,rfl,hb⟩
theorem TP (s:List UInt8)(f t:Int)(p q r:Addr)(w:ι)(hm:ML w)(ht:iU w)(hs:s.length≤1048576)(c0:w.cell? p=some (η ⟨s.toArray⟩))(c1:w.cell? q=some (V Z f))(c2:w.cell? r=some (V Z t))(l:List (Int×Int))(h:kY s f t= .ok l):
 ρ prog 46 #[ε (some p), ε (some q), ε (some r)] w fun E w'=>(∃v,E= δ v∧w'.ownsRow w.heap.size 39 2 v l.length (eo l))∧Below w.heap.size w w':=by
 have C:Hid (ρ prog 47 #[η ⟨s.toArray⟩, V Z f, V Z t] w fun E w'=>(∃v,E= δ v∧w'.ownsRow w.heap.size 39 2 v l.length (eo l))∧Below w.heap.size w w'):=ad ((C6 s f t w hm ht hs).mono fun E w' hp=>by
  unfold tq at hp;rw[h]at hp;exact hp)
 clear hm ht h;go_enter func46,ntmps46;go_wp2_with fail;refine(C.out).mono ?_;rintro e w1 ⟨⟨v,rfl,aw⟩,hb⟩;go_wp2_with fail;go_ret;exact⟨⟨v,rfl,aw⟩,hb⟩
def vh (s:List UInt8)(f t:Int)(w:ι):Ending→ι→Prop:=fun e w'=>
 (match kY s f t with
  | .error x=>e= δ (.tuple #[ζ none 0 0, V Z x])
  | .ok l=>∃v,e= δ (.tuple #[v, V Z 0])∧w'.ownsRow w.heap.size 39 2 v l.length (eo l))∧Below w.heap.size w w'
theorem Ji (s:List UInt8)(f t:Int)(w:ι)(hm:ML w)(ht:iU w)(hs:s.length≤1048576):
 ρ prog 23 #[η ⟨s.toArray⟩, V Z f, V Z t] w (vh s f t w):=by
 have Cf:∀(fn:Fn) (first cap:Array Value) (w:ι),(τ fn first cap).run prog w= .ok (.func fn first cap) w:=fun _ _ _ _=>rfl;obtain⟨W0,Jj⟩:∃W0,W0=((w.alloc (θ #[η ⟨s.toArray⟩] 9)).alloc (θ #[V Z f] 3)).alloc (θ #[V Z t] 3):=⟨_,rfl⟩;have GP:Below w.heap.size w W0:=by
  subst Jj;exact(((ξ _ _).alloc (κ _) _).alloc (by simp) _).alloc (by simp;omega) _
 have bz:∀W,Below W0.heap.size W0 W→Below w.heap.size w W:=fun W hb=>GP.trans (hb.mono GP.size);have k0:W0.cell? ⟨w.heap.size,0,none⟩=some (η ⟨s.toArray⟩)∧W0.cell? ⟨w.heap.size+1,0,none⟩=some (V Z f)∧W0.cell? ⟨w.heap.size+1+1,0,none⟩=some (V Z t)∧W0.heap.size=w.heap.size+3:=by
  subst Jj;refine⟨?_,?_,?_,by simp⟩<;>simp[go_sem]
 obtain⟨k0,k1,k2,k3⟩:=k0;have dP:∀W,Below W0.heap.size W0 W→W.cell? ⟨w.heap.size,0,none⟩=some (η ⟨s.toArray⟩)∧W.cell? ⟨w.heap.size+1,0,none⟩=some (V Z f)∧W.cell? ⟨w.heap.size+1+1,0,none⟩=some (V Z t):=fun W hb=>
  ⟨(hb.cell (by simp;omega)).trans k0,(hb.cell (by simp;omega)).trans k1,(hb.cell (by simp;omega)).trans k2⟩
 cases h:kY s f t with
 |error x=>
  have hv:vh s f t w=fun e w'=>e= δ (.tuple #[ζ none 0 0, V Z x])∧Below w.heap.size w w':=by unfold vh;rw[h]
  rw[hv];have C:=ad (JZ ⟨w.heap.size,0,none⟩ ⟨w.heap.size+1,0,none⟩ ⟨w.heap.size+1+1,0,none⟩ x W0 (fun W hb=>Wa s f t _ _ _ W (hm.on (bz W hb)) (ht.on (bz W hb)) hs (dP W hb).1 (dP W hb).2.1 (dP W hb).2.2 x h));replace Jj:=ad Jj;clear dP bz hm ht hv h k0 k1 k2 k3;go_enter func23,ntmps23;go_wp2_with fail;rw[←Jj.out];refine(C.out).mono ?_;rintro e w1 ⟨rfl,hb⟩;go_wp2_with fail;go_ret2;exact⟨rfl,GP.trans (hb.mono GP.size)⟩
 |ok l=>
  have hv:vh s f t w=fun e w'=>(∃v,e= δ (.tuple #[v, V Z 0])∧w'.ownsRow w.heap.size 39 2 v l.length (eo l))∧Below w.heap.size w w':=by unfold vh;rw[h]
  rw[hv];have C:=ad (GO ⟨w.heap.size,0,none⟩ ⟨w.heap.size+1,0,none⟩ ⟨w.heap.size+1+1,0,none⟩ l W0 (fun W hb=>TP s f t _ _ _ W (hm.on (bz W hb)) (ht.on (bz W hb)) hs (dP W hb).1 (dP W hb).2.1 (dP W hb).2.2 l h));replace Jj:=ad Jj;replace k3:=ad k3;clear dP bz hm ht hv h k0 k1 k2;go_enter func23,ntmps23;go_wp2_with fail;rw[←Jj.out];refine(C.out).mono ?_;rintro e w1 ⟨⟨v,rfl,aw⟩,hb⟩;obtain⟨a5,c5,rfl⟩:=th aw;go_wp2_with fail;go_ret2;exact⟨⟨_,rfl,sr aw (by have:=k3.out;omega)⟩,GP.trans (hb.mono GP.size)⟩
theorem AV {o:Option (List UInt8)}{ex:List Int}(h:lX o=some ex):dZ ex∧ex.length≤20∧(∀t∈ex,0≤t∧t≤7258118399):=by
 rw[Af]at h;unfold qR at h;obtain⟨ys,hy,rfl⟩:=Option.map_eq_some_iff.1 h;have h1:=GJ (p:=fun z=>0≤z∧z≤7258118399) (fun v z hz=>xK hz) hy;refine⟨(J7 ys).1,?_,fun t ht=>h1 t (((J7 ys).2 t).1 ht)⟩;have h2:ys.length≤20:=by
  unfold dJ at hy;split at hy
  ·cases hy;simp
  ·split at hy
   ·rename_i h5;rw[Bx hy];exact h5
   ·cases hy
 have h3:(Lib.compact (ys.mergeSort fun x y=>decide (x≤y))).length≤(ys.mergeSort fun x y=>decide (x≤y)).length:=xZ _;rw[List.length_mergeSort]at h3;omega
theorem mq (a:Int)(m n:Nat):aV a (m+n)=aV a m++aV (a+m) n:=by
 unfold aV;rw[List.range_add,List.map_append,List.map_map];congr 1;apply List.map_congr_left;intro i _;simp only[Function.comp];omega
theorem jb {a x:Int}{n:Nat}:x∈aV a n↔a≤x∧x<a+n:=by
 unfold aV;rw[List.mem_map];constructor
 ·rintro⟨i,hi,rfl⟩;have:=List.mem_range.1 hi;omega
 ·rintro⟨h0,h1⟩;exact⟨(x - a).toNat,List.mem_range.2 (by omega),by omega⟩
theorem mr (r:au)(s k:Int):gq r s k=aE r s (k+1):=by
 unfold aE gq;by_cases h0:r.fq=0
 ·rw[if_pos h0,if_pos h0];omega
 rw[if_neg h0,if_neg h0];by_cases h1:r.fq=1
 ·rw[if_pos h1,if_pos h1];have:dV (s+(k+1) * 7) r.ws=dV (s+k * 7) r.ws:=by unfold dV;omega
  rw[this];omega
 rw[if_neg h1,if_neg h1];by_cases h2:r.fq=2
 ·rw[if_pos h2,if_pos h2,Int.add_assoc]
 rw[if_neg h2,if_neg h2,Int.add_assoc]
def iu (r:au):Int:=if r.fq=0 then 1 else if r.fq=1 then 7 else if r.fq=2 then 28 else 365
theorem xM (r:au)(s k:Int):aE r s k+iu r≤aE r s (k+1):=by
 rw[←mr];unfold aE gq iu;by_cases h0:r.fq=0
 ·simp only[if_pos h0];omega
 simp only[if_neg h0];by_cases h1:r.fq=1
 ·simp only[if_pos h1];omega
 simp only[if_neg h1];by_cases h2:r.fq=2
 ·simp only[if_pos h2];have:=(qv (ae.ag s) (ae.ofM s+k)).1;omega
 simp only[if_neg h2];rw[ae.iN];have:=ae.xV (ae.ag s+k);omega
theorem DY (r:au):1≤iu r:=by unfold iu;repeat' split<;>omega
def Jk (ct:Int)(l:List Int):List Int:=if ct=0 then l else l.take ct.toNat
theorem Fw (st last ct:Int)(s0:0≤st):∀(l:List Int) (c:Int),0≤c→(ct=0∨c<ct)→
 kX st 0 last ct c l=(if ct=0 then id else List.take (ct - c).toNat) ((l.filter fun d=>decide (st/86400≤d)).takeWhile fun d=>decide (d * 86400≤last))
 |[],c,_,_=>by rw[kX];split<;>simp
 |d::l,c,hc,hh=>by
  rw[kX];by_cases h1:d * 86400<st - st%86400
  ·have e:(d::l).filter (fun d=>decide (st/86400≤d))=l.filter fun d=>decide (st/86400≤d):=by rw[Α,if_neg (by simp;omega)]
   rw[if_pos h1,Fw st last ct s0 l c hc hh,e]
  have e:(d::l).filter (fun d=>decide (st/86400≤d))=d::l.filter fun d=>decide (st/86400≤d):=by rw[Α,if_pos (by simp;omega)]
  rw[if_neg h1,e];by_cases h2:last<d * 86400
  ·have e2:(d::l.filter fun d=>decide (st/86400≤d)).takeWhile (fun d=>decide (d * 86400≤last))=[]:=by rw[ψ,if_neg (by simp;omega)]
   rw[if_pos h2,e2];split<;>simp
  have e2:(d::l.filter fun d=>decide (st/86400≤d)).takeWhile (fun d=>decide (d * 86400≤last))=d::(l.filter fun d=>decide (st/86400≤d)).takeWhile fun d=>decide (d * 86400≤last):=by rw[ψ,if_pos (by simp;omega)]
  rw[if_neg h2,if_pos (show 0 - st%86400≤d * 86400 by omega),e2,List.singleton_append];by_cases h3:ct=0
  ·rw[if_neg (show¬c+1=ct by omega),Fw st last ct s0 l (c+1) (by omega) (.inl h3),if_pos h3,if_pos h3];rfl
  ·rw[if_neg h3];by_cases h4:c+1=ct
   ·rw[if_pos h4,show(ct - c).toNat=1 by omega];simp
   ·rw[if_neg h4,Fw st last ct s0 l (c+1) (by omega) (.inr (by omega)),if_neg h3,show(ct - c).toNat=(ct - (c+1)).toNat+1 by omega,List.take_succ_cons]
theorem TQ (y:Int):365≤ae.ty (y+1) - ae.ty y∧ae.ty (y+1) - ae.ty y≤366:=by
 rw[ae.Bw];split<;>omega
theorem aav (y m d:Int):365≤ae.num (y+1) m d - ae.num y m d∧ae.num (y+1) m d - ae.num y m d≤366:=by
 unfold ae.num;split
 ·have:=TQ (y - 1);rw[show y - 1+1=y+1 - 1 by omega]at this;omega
 ·have:=TQ y;omega
theorem TS (y m d:Int):∀k:Nat,ae.num y m d+365 * k≤ae.num (y+k) m d∧ae.num (y+k) m d≤ae.num y m d+366 * k
 |0=>by simp
 |k+1=>by
  have h1:=TS y m d k;have h2:=aav (y+k) m d;rw[show y+((k+1:Nat):Int)=y+k+1 by omega];omega
theorem TT {y y' m d:Int}(h:ae.num y m d<ae.num y' m d):y<y':=by
 by_cases q:y<y'
 ·exact q
 ·obtain⟨k,hk⟩:∃k:Nat,y=y'+k:=⟨(y - y').toNat,by omega⟩;have:=(TS y' m d k).1;rw[←hk]at this;omega
end Go.Proofs.YthpndgcaoeokeaaGreatDoor
