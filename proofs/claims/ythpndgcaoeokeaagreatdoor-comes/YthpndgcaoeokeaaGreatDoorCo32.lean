import Derived.Test.YthpndgcaoeokeaaGreatDoorCo31
import Derived.Maps.AppendAt
set_option maxRecDepth 100000
set_option maxHeartbeats 8000000
open Go.IntKind renaming i64→Z
open Go.Value renaming int→V,int→κ
open Go.Ending renaming returned→δ
open List renaming filter_append→ε,contains_iff_mem→θ,eq_nil_of_length_eq_zero→ι,pairwise_cons→μ,nil_append→ν,mem_cons_of_mem→π,filter_congr→ρ,filter_cons→τ,any_eq_true→υ
open Bool renaming and_true→ζ,eq_iff_iff→η,true_or→φ
open Go renaming Calls→ξ,World→ο
namespace Go.Proofs.YthpndgcaoeokeaaGreatDoor
open Tryz
open Go.RowKit
theorem xN (r:au){s d k:Int}(d0:-10000≤d)(h0:aE r s k≤d)(h1:d<aE r s (k+1)):aH r s d=k:=by
 unfold aE at h0 h1;unfold aH;by_cases q0:r.fq=0
 ·rw[if_pos q0]at h0 h1⊢;omega
 rw[if_neg q0]at h0 h1⊢;by_cases q1:r.fq=1
 ·rw[if_pos q1]at h0 h1⊢;have e1:dV (s+k * 7) r.ws=dV s r.ws:=by unfold dV;omega
  have e2:dV (s+(k+1) * 7) r.ws=dV s r.ws:=by unfold dV;omega
  rw[e1]at h0;rw[e2]at h1;omega
 rw[if_neg q1]at h0 h1⊢;by_cases q2:r.fq=2
 ·rw[if_pos q2]at h0 h1⊢;have ha:=gU d d0;have b1:12 * ae.ag s+(ae.ofM s+k)<12 * ae.ag d+(ae.ofM d+1):=by
   by_cases q:12 * ae.ag s+(ae.ofM s+k)<12 * ae.ag d+(ae.ofM d+1)
   ·exact q
   ·have:=Gy (y:=ae.ag d) (m:=ae.ofM d+1) (y':=ae.ag s) (m':=ae.ofM s+k) (by omega);omega
  have b2:12 * ae.ag d+ae.ofM d<12 * ae.ag s+(ae.ofM s+(k+1)):=by
   by_cases q:12 * ae.ag d+ae.ofM d<12 * ae.ag s+(ae.ofM s+(k+1))
   ·exact q
   ·have:=Gy (y:=ae.ag s) (m:=ae.ofM s+(k+1)) (y':=ae.ag d) (m':=ae.ofM d) (by omega);omega
  omega
 rw[if_neg q2]at h0 h1⊢;have ha:=iJ d d0;have b1:=TT (show ae.num (ae.ag s+k) 1 1<ae.num (ae.ag d+1) 1 1 by omega);have b2:=TT (show ae.num (ae.ag d) 1 1<ae.num (ae.ag s+(k+1)) 1 1 by omega);omega
theorem DZ (pls:List Int)(len:Int):∀(i:Int) (l:List Int),(ko pls len i l).Sublist l
 |_,[]=>by simp[ko]
 |i,d::l=>by
  rw[ko];split
  ·exact(DZ pls len (i+1) l).cons_cons d
  ·exact(DZ pls len (i+1) l).cons d
theorem QR (r:au)(a:Int)(n:Nat):(dh r a n).Sublist (aV a n):=by
 unfold dh;split
 ·exact List.filter_sublist
 ·exact(DZ _ _ _ _).trans List.filter_sublist
theorem pZ (a:Int):∀n:Nat,(aV a n).Pairwise (·<·):=by
 intro n;unfold aV;rw[List.pairwise_map];exact List.pairwise_lt_range.imp (fun h=>by omega)
theorem yS:∀{l m:List Int},l.Sublist m→m.Pairwise (·<·)→l=m.filter fun d=>l.contains d
 |_,_, .slnil,_=>rfl
 |l,x::m, .cons _ h,hp=>by
  rw[μ]at hp;have hx:l.contains x=false:=by
   cases hc:l.contains x with
   |false=>rfl
   |true=>
    have:=hp.1 x (h.subset (List.contains_iff_mem.1 hc));omega
  rw[τ,if_neg (by rw[hx];exact Bool.false_ne_true)];exact yS h hp.2
 |x::l,_::m, .cons_cons _ h,hp=>by
  rw[μ]at hp;rw[τ,if_pos (by simp)];congr 1;have e:=yS h hp.2;rw[e];apply ρ;intro d hd;rw[←e];have:d≠x:=fun q=>by subst q;have:=hp.1 d hd;omega
  cases hc:l.contains d with
  |true=>rw[θ]at hc;exact(List.contains_iff_mem.2 (π _ hc)).symm
  |false=>
   cases mS:(x::l).contains d with
   |false=>rfl
   |true=>
    rw[θ]at mS;rcases List.mem_cons.1 mS with h1|h1
    ·exact absurd h1 this
    ·rw[List.contains_iff_mem.2 h1]at hc;cases hc
theorem J0 (r:au)(a:Int)(n:Nat):dh r a n=(aV a n).filter fun d=>(dh r a n).contains d:=yS (QR r a n) (pZ a n)
def nA (r:au)(s d:Int):Bool:=decide (aH r s d%r.iv=0)&&(dh r (aE r s (aH r s d)) (ed r s (aH r s d))).contains d
theorem xO (r:au)(s:Int):∀(k:Int) (j:Nat),aE r s k+j * iu r≤aE r s (k+j)
 |k,0=>by simp
 |k,j+1=>by
  have h1:=xO r s k j;have h2:=xM r s (k+j);rw[show k+((j+1:Nat):Int)=k+j+1 by omega,Int.natCast_add,Int.add_mul];simp only[Int.natCast_one,Int.one_mul];omega
theorem skip_none (r:au)(s:Int)(k:Int)(hk:k%r.iv=0)(hA:-10000≤aE r s k):∀j:Nat,(j:Int)<r.iv→(aV (aE r s (k+1)) (aE r s (k+1+j) - aE r s (k+1)).toNat).filter (nA r s)=[]
 |0,_=>by simp[aV]
 |j+1,hj=>by
  have ih:=skip_none r s k hk hA j (by omega);have u0:=xO r s k 1;have u1:=xO r s (k+1) j;have u2:=xM r s (k+1+j);have hE:=DY r;have hjE:0≤(j:Int) * iu r:=Int.mul_nonneg (by omega) (by omega);simp only[Int.natCast_one,Int.one_mul]at u0;rw[show k+1+((j+1:Nat):Int)=k+1+j+1 by omega];obtain⟨m,hm⟩:∃m:Nat,aE r s (k+1+j)=aE r s (k+1)+m:=⟨(aE r s (k+1+j) - aE r s (k+1)).toNat,by omega⟩;obtain⟨p,hp⟩:∃p:Nat,aE r s (k+1+j+1)=aE r s (k+1+j)+p:=⟨(aE r s (k+1+j+1) - aE r s (k+1+j)).toNat,by omega⟩;rw[hm,show(aE r s (k+1)+(m:Int) - aE r s (k+1)).toNat=m by omega]at ih;rw[hp,hm,show(aE r s (k+1)+(m:Int)+p - aE r s (k+1)).toNat=m+p by omega,mq,ε,ih,ν,List.filter_eq_nil_iff];intro d hd;have hd:=jb.1 hd;have e:=xN r (s:=s) (d:=d) (k:=k+1+j) (by omega) (by omega) (by omega);unfold nA;rw[e];have:¬(k+1+j)%r.iv=0:=by
   intro hz;have h1:(k+1+j - k)%r.iv=0:=by rw[Int.sub_emod,hz,hk];simp
   rw[show k+1+(j:Int) - k=1+j by omega]at h1;rw[Int.emod_eq_of_lt (by omega) (by omega)]at h1;omega
  simp[this]
theorem Wb (r:au)(s:Int)(k:Int)(hk:k%r.iv=0)(hA:-10000≤aE r s k):dh r (aE r s k) (ed r s k)=(aV (aE r s k) (ed r s k)).filter (nA r s):=by
 rw[J0];apply ρ;intro d hd;have hd:=jb.1 hd;have hN:(ed r s k:Int)=aE r s (k+1) - aE r s k:=by
  have:=xM r s k;have:=DY r;unfold ed;rw[mr];omega
 have e:=xN r (s:=s) (d:=d) (k:=k) (by omega) (by omega) (by omega);unfold nA;rw[e];simp[hk]
theorem Mn (r:au)(s last:Int)(hi:1≤r.iv):∀(g:Nat) (k:Int),k%r.iv=0→-10000≤aE r s k→last<(aE r s k+g * iu r) * 86400→∃m:Nat,qw r s last g k=(aV (aE r s k) m).filter (nA r s)∧last<(aE r s k+m) * 86400
 |0,k,_,_,h=>⟨0,rfl,by simpa using h⟩
 |g+1,k,hk,hA,h=>by
  by_cases hl:last<aE r s k * 86400
  ·exact⟨0,by rw[O8 _ _ _ _ _ hl];rfl,by simpa using hl⟩
  ·have h2:=DY r;obtain⟨i,hiv⟩:∃i:Nat,r.iv=1+i:=⟨(r.iv - 1).toNat,by omega⟩;have u0:=xM r s k;have u1:=xO r s (k+1) i;have hiE:0≤(i:Int) * iu r:=Int.mul_nonneg (by omega) (by omega);have ek:k+r.iv=k+1+i:=by omega
   have eg:((g+1:Nat):Int) * iu r=g * iu r+iu r:=by rw[Int.natCast_add,Int.add_mul];simp
   rw[eg]at h;obtain⟨m,e,hm⟩:=Mn r s last hi g (k+r.iv) (by rw[Int.add_emod,hk];simp) (by rw[ek];omega) (by rw[ek];omega);have sk:=skip_none r s k hk hA i (by omega);have hN:aE r s (k+1)=aE r s k+(ed r s k:Nat):=by unfold ed;rw[mr];omega
   obtain⟨p,hp⟩:∃p:Nat,aE r s (k+1+i)=aE r s (k+1)+p:=⟨(aE r s (k+1+i) - aE r s (k+1)).toNat,by omega⟩;rw[hp,show(aE r s (k+1)+(p:Int) - aE r s (k+1)).toNat=p by omega]at sk;refine⟨ed r s k+(p+m),?_,?_⟩
   ·rw[S1 _ _ _ _ _ hl,Wb r s k hk hA,e,mq,ε,←hN,mq,ε,sk,ν,ek,hp]
   ·rw[ek,hp,hN]at hm;rw[Int.natCast_add,Int.natCast_add];omega
theorem Wc (p:Int→Bool)(a s last:Int)(m N:Nat)(ha:a≤s)(hm:last<(a+m) * 86400)(YW:last<(s+N) * 86400)(Mo:0<N→(s+N - 1) * 86400≤last):
 ((((aV a m).filter p).filter fun d=>decide (s≤d)).takeWhile fun d=>decide (d * 86400≤last))=(aV s N).filter p:=by
 by_cases hs:s≤a+m
 ·obtain⟨u,hu⟩:∃u:Nat,s=a+u:=⟨(s - a).toNat,by omega⟩;have hb:s+N≤a+m:=by
   by_cases h0:0<N
   ·have:=Mo h0;omega
   ·omega
  obtain⟨v,hv⟩:∃v:Nat,m=u+(N+v):=⟨m - (u+N),by omega⟩;rw[hv,mq,mq,←hu,ε,ε,ε,ε];have p1:((aV a u).filter p).filter (fun d=>decide (s≤d))=[]:=by
   rw[List.filter_eq_nil_iff];intro d hd;have:=jb.1 (List.mem_filter.1 hd).1;simp;omega
  have p2:((aV s N).filter p).filter (fun d=>decide (s≤d))=(aV s N).filter p:=by
   rw[List.filter_eq_self];intro d hd;have:=jb.1 (List.mem_filter.1 hd).1;simp;omega
  rw[p1,ν,p2,List.takeWhile_append_of_pos]
  ·have p3:∀L:List Int,(∀d∈L,¬d * 86400≤last)→L.takeWhile (fun d=>decide (d * 86400≤last))=[]:=by
    intro L h;cases L with
    |nil=>rfl
    |cons d r=>rw[List.takeWhile_cons,if_neg (by simpa using h d (by simp))]
   rw[p3 _ (fun d hd=>by
    have sH:=(List.mem_filter.1 hd).1;have:=jb.1 (List.mem_filter.1 sH).1;omega),List.append_nil]
  ·intro d hd;have:=jb.1 (List.mem_filter.1 hd).1;simp only[decide_eq_true_eq];have:=Mo (by omega);omega
 ·have hN:N=0:=by
   by_cases h0:0<N
   ·have:=Mo h0;omega
   ·omega
  subst hN;have e:((aV a m).filter p).filter (fun d=>decide (s≤d))=[]:=by
   rw[List.filter_eq_nil_iff];intro d hd;have:=jb.1 (List.mem_filter.1 hd).1;simp;omega
  rw[e];rfl
theorem Wd (r:au)(st last:Int)(N:Nat)(s0:0≤st)(hi:1≤r.iv)(hc:0≤r.ct)(hA:aE (aJ r (st/86400)) (st/86400) 0≤st/86400)(xy:-10000≤aE (aJ r (st/86400)) (st/86400) 0)(hg:last<(aE (aJ r (st/86400)) (st/86400) 0+(dW r).toNat * iu r) * 86400)(YW:last<(st/86400+N) * 86400)(Mo:0<N→(st/86400+N - 1) * 86400≤last):
 oQ r st 0 last=Jk r.ct ((aV (st/86400) N).filter (nA (aJ r (st/86400)) (st/86400))):=by
 obtain⟨r',hr⟩:∃r',r'=aJ r (st/86400):=⟨_,rfl⟩;have e1:r'.iv=r.iv∧r'.fq=r.fq:=by
  rw[hr];unfold aJ
  repeat' split
  all_goals exact⟨rfl,rfl⟩
 obtain⟨i1,i3⟩:=e1;have e2:dW r'=dW r:=by unfold dW;rw[i3]
 have e3:iu r'=iu r:=by unfold iu;rw[i3]
 have e4:iz r' st 0=0:=by unfold iz;rw[if_pos (.inr s0)]
 unfold oQ kq;rw[←hr]at hA xy hg⊢;rw[e4,e2];obtain⟨m,em,hm⟩:=Mn r' (st/86400) last (by omega) (dW r).toNat 0 (by simp) xy (by rw[e3];exact hg);rw[em,Fw st last r.ct s0 _ 0 (by omega) (by omega),Wc (nA r' (st/86400)) _ _ _ m N hA hm YW Mo];unfold Jk;split
 ·rfl
 ·rw[Int.sub_zero]
theorem D3 {r:au}{D:Int}(h:r.mds=[D])(hD:1≤D){n:Int}(hn:0≤n):te r n=decide (ae.ar n=D):=by
 unfold te;rw[h];have:kT n≥1:=by unfold kT;have:=gU n (by omega);omega
 have h1:¬(-(kT n)=D):=by omega
 simp[h1]
theorem We {r:au}{M D:Int}(h:r.mds=[D])(hm:r.ms=[M])(hw:r.wks=[])(hD:1≤D){n:Int}(hn:0≤n):kU r n=decide (ae.ofM n=M∧ae.ar n=D):=by
 unfold kU;rw[D3 h hD hn];unfold Aw nx;rw[hm,hw];simp[Bool.decide_and]
theorem yT (n ws:Int):dV n ws=((n+3)%7 - ws)%7:=by unfold dV;omega
theorem YX (r:au)(hf:0≤r.fq∧r.fq≤3){s d:Int}:Jg (r.fq+1) r.ws s d=aH r s d:=by
 unfold Jg aH;have hq:r.fq=0∨r.fq=1∨r.fq=2∨r.fq=3:=by omega
 rcases hq with h|h|h|h
 ·simp[h]
 ·rw[h,if_pos (by omega),if_neg (by omega),if_pos rfl,GK,GK,yT];omega
 ·rw[h,if_neg (by omega),if_pos (by omega),if_neg (by omega),if_neg (by omega),if_pos rfl];omega
 ·rw[h,if_neg (by omega),if_neg (by omega),if_pos (by omega),if_neg (by omega),if_neg (by omega),if_neg (by omega)]
theorem BR (r:au)(hf:0≤r.fq∧r.fq≤3){s d:Int}(hd:0≤d):lr (r.fq+1) r.ws d=aE r s (aH r s d):=by
 unfold lr aE aH;have hq:r.fq=0∨r.fq=1∨r.fq=2∨r.fq=3:=by omega
 rcases hq with h|h|h|h
 ·rw[if_neg (show¬r.fq+1=2 by omega),if_neg (show¬r.fq+1=3 by omega),if_neg (show¬r.fq+1=4 by omega),if_pos (show r.fq=0 by omega),if_pos (show r.fq=0 by omega)];omega
 ·rw[if_pos (show r.fq+1=2 by omega),if_neg (show¬r.fq=0 by omega),if_pos (show r.fq=1 by omega),yT,yT,if_neg (show¬r.fq=0 by omega),if_pos (show r.fq=1 by omega)];omega
 ·rw[if_neg (show¬r.fq+1=2 by omega),if_pos (show r.fq+1=3 by omega),if_neg (show¬r.fq=0 by omega),if_neg (show¬r.fq=1 by omega),if_pos (show r.fq=2 by omega),if_neg (show¬r.fq=0 by omega),if_neg (show¬r.fq=1 by omega),if_pos (show r.fq=2 by omega)];rw[nV (y:=ae.ag s) (m:=ae.ofM s+((ae.ag d - ae.ag s) * 12+ae.ofM d - ae.ofM s)) (y':=ae.ag d) (m':=ae.ofM d) (by omega),DL d (by omega)];have e:=ae.gP d (by omega);rw[ae.fg]at e;omega
 ·rw[if_neg (show¬r.fq+1=2 by omega),if_neg (show¬r.fq+1=3 by omega),if_pos (show r.fq+1=4 by omega),if_neg (show¬r.fq=0 by omega),if_neg (show¬r.fq=1 by omega),if_neg (show¬r.fq=2 by omega),if_neg (show¬r.fq=0 by omega),if_neg (show¬r.fq=1 by omega),if_neg (show¬r.fq=2 by omega)];rw[show ae.ag s+(ae.ag d - ae.ag s)=ae.ag d by omega]
def ftS (fq:Int)(lm ld lw:Nat)(n s:Int):Bool:=
 if 0<ld∨0<lw then true else if fq=2 then(n+3)%7==(s+3)%7 else if fq=3 then ae.ar n==ae.ar s else if fq=4 then ae.ar n==ae.ar s&&(decide (0<lm)||ae.ofM n==ae.ofM s)else true
def YY (bm:List Int)(n:Int):Bool:=decide (bm.length=0)||bm.contains (ae.ofM n)
def TU (bd:List Int)(n:Int):Bool:=decide (bd.length=0)||bd.contains (ae.ar n)||bd.contains (ae.ar n - ae.md (ae.ag n) (ae.ofM n) - 1)
def Mp (fq:Int)(lm:Nat)(wk:List (Int×Int))(n:Int):Bool:=decide (wk.length=0)||wk.any fun p=>p.2==(n+3)%7&&(p.1==0||Mm n p.1 (decide (fq=4∧lm=0)))
def Mq (fq:Int)(bm bd:List Int)(wk:List (Int×Int))(n s:Int):Bool:=YY bm n&&TU bd n&&Mp fq bm.length wk n&&ftS fq bm.length bd.length wk.length n s
theorem aaw {n:Int}(hn:-10000≤n):-(kT n)=ae.ar n - ae.md (ae.ag n) (ae.ofM n) - 1:=by
 unfold kT;rw[Ax n (by omega)];have e:=ae.gP n (by omega);rw[ae.fg]at e;omega
theorem Mr (r:au){n o:Int}(hn:-10000≤n)(ho:o≠0):fL r n o=Mm n o (decide (r.fq+1=4∧r.ms.length=0)):=by
 have e:=ae.gP n (by omega);rw[ae.fg]at e;unfold fL Mm DW GM IH IK;by_cases h:r.fq=3∧r.ms.length=0
 ·rw[if_pos h,if_pos h,decide_eq_true (show r.fq+1=4∧r.ms.length=0 from⟨by omega,h.2⟩)];simp only[if_true];have h2:=ae.iN (ae.ag n);by_cases q:0<o
  ·rw[if_pos q,if_neg (by omega),η,beq_iff_eq,beq_iff_eq,show n - ae.num (ae.ag n) 1 1+1 - 1=n - ae.num (ae.ag n) 1 1 by omega];omega
  ·rw[if_neg q,if_pos (by omega),η,beq_iff_eq,beq_iff_eq,show ae.num (ae.ag n+1) 1 1 - 1 - n=ae.yd (ae.ag n) - (n - ae.num (ae.ag n) 1 1+1) by omega];omega
 ·rw[if_neg h,if_neg h,decide_eq_false (show¬(r.fq+1=4∧r.ms.length=0)from fun q=>h ⟨by omega,q.2⟩)];simp only[Bool.false_eq_true,if_false];rw[DL n (by omega),Ax n (by omega)];by_cases q:0<o
  ·rw[if_pos q,if_neg (by omega),η,beq_iff_eq,beq_iff_eq,show n - ae.num (ae.ag n) (ae.ofM n) 1=ae.ar n - 1 by omega];omega
  ·rw[if_neg q,if_pos (by omega),η,beq_iff_eq,beq_iff_eq,show ae.num (ae.ag n) (ae.ofM n) 1+ae.md (ae.ag n) (ae.ofM n) - 1 - n=ae.md (ae.ag n) (ae.ofM n) - ae.ar n by omega];omega
theorem BS (r:au){n:Int}(hn:-10000≤n):nx r n=Mp (r.fq+1) r.ms.length r.wks n:=by
 unfold nx Mp;congr 1;rw[η,υ,υ];have e:(n+719470)%7=(n+3)%7:=by omega
 constructor
 ·rintro⟨p,hp,h⟩;refine⟨p,hp,?_⟩;rw[e]at h;by_cases q:p.1=0
  ·simp[q]at h⊢;exact h
  ·rwa [Mr r hn q]at h
 ·rintro⟨p,hp,h⟩;refine⟨p,hp,?_⟩;rw[e];by_cases q:p.1=0
  ·simp[q]at h⊢;exact h
  ·rwa [Mr r hn q]
theorem GQ (r:au){n:Int}(hn:-10000≤n):te r n=TU r.mds n:=by
 unfold te TU;rw[aaw hn]
theorem Pn (r:au)(hf:0≤r.fq∧r.fq≤3){n s:Int}(hn:-10000≤n)(h9:0≤n∨r.fq=1)(hs:0≤s):kU (aJ r s) n=Mq (r.fq+1) r.ms r.mds r.wks n s:=by
 obtain⟨_,_,v3,_⟩:=ae.eT s (by omega);unfold Mq ftS aJ;by_cases h0:0<r.mds.length∨0<r.wks.length
 ·rw[if_pos h0,if_pos h0,ζ];unfold kU;rw[GQ r hn,BS r hn];rfl
 rw[if_neg h0,if_neg h0];have hd:r.mds=[]:=ι (by omega);have hw:r.wks=[]:=ι (by omega);have eD:TU r.mds n=true:=by rw[hd];rfl
 have eW:Mp (r.fq+1) r.ms.length r.wks n=true:=by rw[hw];rfl
 have eM:∀r':au,Aw r' n=YY r'.ms n:=fun _=>rfl;rw[eD,eW,ζ,ζ];have hq:r.fq=0∨r.fq=1∨r.fq=2∨r.fq=3:=by omega
 rcases hq with h|h|h|h
 ·rw[if_neg (show¬r.fq=1 by omega),if_neg (show¬r.fq=2 by omega),if_neg (show¬r.fq=3 by omega),if_neg (show¬r.fq+1=2 by omega),if_neg (show¬r.fq+1=3 by omega),if_neg (show¬r.fq+1=4 by omega),ζ];unfold kU;rw[GQ r hn,BS r hn,eD,eW,ζ,ζ];rfl
 ·rw[if_pos (show r.fq=1 by omega),if_pos (show r.fq+1=2 by omega)];unfold kU;have e1:te {r with wks:=[(0,(s+719470)%7)]} n=true:=by rw[GQ _ hn];exact eD
  have e2:nx {r with wks:=[(0,(s+719470)%7)]} n=((n+3)%7==(s+3)%7):=by
   unfold nx;rw[η];simp;omega
  rw[e1,e2,ζ];rfl
 ·rw[if_neg (show¬r.fq=1 by omega),if_pos (show r.fq=2 by omega),if_neg (show¬r.fq+1=2 by omega),if_pos (show r.fq+1=3 by omega)];unfold kU;rw[D3 (r:={r with mds:=[ae.ar s]}) rfl v3 (by omega),BS _ hn];have e2:Mp (({r with mds:=[ae.ar s]}:au).fq+1) ({r with mds:=[ae.ar s]}:au).ms.length ({r with mds:=[ae.ar s]}:au).wks n=true:=eW;rw[e2,ζ];rfl
 ·rw[if_neg (show¬r.fq=1 by omega),if_neg (show¬r.fq=2 by omega),if_pos (show r.fq=3 by omega),if_neg (show¬r.fq+1=2 by omega),if_neg (show¬r.fq+1=3 by omega),if_pos (show r.fq+1=4 by omega)];by_cases hm:r.ms.length=0
  ·rw[if_pos hm];have qS:r.ms=[]:=ι hm;rw[We (r:={r with mds:=[ae.ar s],ms:=[ae.ofM s]}) rfl rfl hw v3 (by omega),qS];rw[η];simp[YY];constructor
   ·rintro⟨a,b⟩;exact⟨b,a⟩
   ·rintro⟨a,b⟩;exact⟨b,a⟩
  ·rw[if_neg hm];unfold kU;rw[D3 (r:={r with mds:=[ae.ar s]}) rfl v3 (by omega),BS _ hn];have e2:Mp (({r with mds:=[ae.ar s]}:au).fq+1) ({r with mds:=[ae.ar s]}:au).ms.length ({r with mds:=[ae.ar s]}:au).wks n=true:=eW;rw[e2,ζ,decide_eq_true (show 0<r.ms.length by omega),φ,ζ];rfl
theorem rG (r:au)(hf:0≤r.fq∧r.fq≤3){s d:Int}(hd:-10000≤d):aE r s (aH r s d)≤d∧d<aE r s (aH r s d+1):=by
 unfold aE aH;have hq:r.fq=0∨r.fq=1∨r.fq=2∨r.fq=3:=by omega
 rcases hq with h|h|h|h
 ·simp only[h,if_true];omega
 ·simp only[h,if_true,show¬((1:Int)=0) by omega,if_false];simp only[yT];omega
 ·simp only[h,if_true,show¬((2:Int)=0) by omega,show¬((2:Int)=1) by omega,if_false];have ha:=gU d hd;rw[nV (y:=ae.ag s) (m:=ae.ofM s+((ae.ag d - ae.ag s) * 12+ae.ofM d - ae.ofM s)) (y':=ae.ag d) (m':=ae.ofM d) (by omega),nV (y:=ae.ag s) (m:=ae.ofM s+((ae.ag d - ae.ag s) * 12+ae.ofM d - ae.ofM s+1)) (y':=ae.ag d) (m':=ae.ofM d+1) (by omega)];omega
 ·simp only[h,show¬((3:Int)=0) by omega,show¬((3:Int)=1) by omega,show¬((3:Int)=2) by omega,if_false];have ha:=iJ d hd;rw[show ae.ag s+(ae.ag d - ae.ag s)=ae.ag d by omega,show ae.ag s+(ae.ag d - ae.ag s+1)=ae.ag d+1 by omega];omega
def re (pls:List Int)(len:Int):Int→List Int→Int→Bool
 |_,[],_=>false
 |i,x::l,d=>if x=d then pls.contains (i+1)||pls.contains (i - len)else re pls len (i+1) l d
theorem Ms (pls:List Int)(len:Int):∀(i:Int) (l:List Int) (d:Int),l.Pairwise (·<·)→(ko pls len i l).contains d=re pls len i l d
 |_,[],_,_=>rfl
 |i,x::l,d,hp=>by
  rw[μ]at hp;have ih:=Ms pls len (i+1) l d hp.2;rw[ko,re];by_cases h:x=d
  ·subst h;rw[if_pos rfl];have hn:(ko pls len (i+1) l).contains x=false:=by
    cases hc:(ko pls len (i+1) l).contains x with
    |false=>rfl
    |true=>
     have:=hp.1 x (DR _ _ _ _ _ (List.contains_iff_mem.1 hc));omega
   cases hb:(pls.contains (i+1)||pls.contains (i - len))with
   |true=>simp
   |false=>simpa using hn
  ·rw[if_neg h,←ih];split
   ·rw[η,θ,θ];simp only[List.singleton_append,List.mem_cons];constructor
    ·rintro(q|q)
     ·exact absurd q.symm h
     ·exact q
    ·exact .inr
   ·rfl
theorem yU (r:au)(s:Int):(aJ r s).fq=r.fq∧(aJ r s).iv=r.iv∧(aJ r s).ws=r.ws∧(aJ r s).pls=r.pls:=by
 unfold aJ
 repeat' split
 all_goals exact⟨rfl,rfl,rfl,rfl⟩
theorem AW (r:au)(s s' k:Int):aE (aJ r s) s' k=aE r s' k∧ed (aJ r s) s' k=ed r s' k∧aH (aJ r s) s' k=aH r s' k:=by
 obtain⟨a,_,c,_⟩:=yU r s;unfold ed aE gq aH;rw[a,c];exact⟨rfl,rfl,rfl⟩
def qD (r:au)(s d:Int):List Int:=im (aJ r s) (aE r s (aH r s d)) (ed r s (aH r s d))
theorem aax (r:au)(hf:0≤r.fq∧r.fq≤3){s d:Int}(hs:0≤s)(hd:s≤d):
 nA (aJ r s) s d=(decide (Jg (r.fq+1) r.ws s d%r.iv=0)&&(Mq (r.fq+1) r.ms r.mds r.wks d s&&(decide (r.pls.length=0)||re r.pls (qD r s d).length 0 (qD r s d) d))):=by
 obtain⟨a,b,c,e⟩:=yU r s;obtain⟨p1,p2⟩:=rG r hf (s:=s) (d:=d) (by omega);have hN:(ed r s (aH r s d):Int)=aE r s (aH r s d+1) - aE r s (aH r s d):=by
  unfold ed;rw[mr];omega
 have AA:=Pn r hf (n:=d) (s:=s) (by omega) (.inl (by omega)) hs;have D4:d∈aV (aE r s (aH r s d)) (ed r s (aH r s d)):=jb.2 ⟨p1,by omega⟩;unfold nA;rw[b,(AW r s s d).2.2,(AW r s s (aH r s d)).1,(AW r s s (aH r s d)).2.1,YX r hf];congr 1;rw[←AA];unfold dh;rw[e];by_cases h0:r.pls.length=0
 ·rw[if_pos h0,decide_eq_true h0,φ,ζ];rw[η,θ];unfold im;rw[List.mem_filter];exact⟨fun h=>h.2,fun h=>⟨D4,h⟩⟩
 ·rw[if_neg h0,decide_eq_false h0,Bool.false_or];have hp:(im (aJ r s) (aE r s (aH r s d)) (ed r s (aH r s d))).Pairwise (·<·):=(pZ _ _).sublist List.filter_sublist;rw[Ms _ _ _ _ _ hp];show re r.pls (qD r s d).length 0 (qD r s d) d=_;cases hA:kU (aJ r s) d with
  |true=>rw[Bool.true_and]
  |false=>
   rw[Bool.false_and];have fG:∀(i:Int) (l:List Int),d∉l→re r.pls (qD r s d).length i l d=false:=by
    intro i l
    induction l generalizing i with
    |nil=>intro _;rfl
    |cons x l ih=>
     intro h;rw[re,if_neg (fun q=>h (by simp[q])),ih (i+1) (fun q=>h (π _ q))]
   refine fG 0 _ (fun hm=>?_);have:=(List.mem_filter.1 hm).2;rw[hA]at this;cases this
open Go.RowKit Go.Sort
def dC (n:Int):List Value:=[V Z (ae.ag n), V Z (ae.ofM n), V Z (ae.ar n), V Z n, V Z ((n+3)%7)]
theorem Fx (n:Int):nf n= .agg (dC n).toArray:=rfl
theorem TV (n:Int):(dC n).length=5:=rfl
theorem BU (n m:Int):(dC n).length=(dC m).length:=(TV n).trans (TV m).symm
theorem qE (n:Int):∀x∈dC n,x.oneCell'=true:=by unfold dC;simp[Value.oneCell']
def ae3:List Value:=[V Z 0, V Z 0, V Z 0, V Z 0, V Z 0]
theorem nc {o:Oper}(ho:o.op= .alloc 236)(a:Act)(w:ο):(execOp a.eval o).run prog w= .ok (.value (.pointer (some ⟨w.heap.size,0,none⟩))) (w.alloc (.cells ae3.toArray 236)):=by
 obtain⟨_,_,_,_,_,_⟩:=o;simp only[]at ho;subst ho;kernel_rfl
theorem Wf {pls:List Int}{len:Int}{l:List Int}{k:Nat}{n:Int}(h:k<l.length):re pls len k (l.drop k) n=if l.getD k 0=n then pls.contains ((k:Int)+1)||pls.contains ((k:Int) - len)else re pls len ((k+1:Nat):Int) (l.drop (k+1)) n:=by
 rw[List.drop_eq_getElem_cons h,re];simp[List.getD,h]
theorem Wg (R:List Value)(a3:Option Addr)(n3 k3:Nat)(pls:List Int)(v:Value)(l:List Int)(n:Int)(w:ο)(h6:R[6]?=some (.slice a3 n3 k3))(hv:cF w v l)
 (C:Hid (∀j W,Below w.heap.size w W→ξ prog 247 #[.slice a3 n3 k3, V Z j] W fun e w'=>e= δ (.bool (pls.contains j))∧W=w')):
 ξ prog 245 #[.agg R.toArray,v, V Z n] w fun e w'=>e= δ (.bool (re pls l.length 0 l n))∧Below w.heap.size w w':=by
 obtain⟨b,hb⟩:∃b,b=re pls l.length 0 l n:=⟨_,rfl⟩;rw[←hb];have HB:=ad hb;clear hb;obtain⟨hl,⟨rfl,rfl⟩|⟨g,off,cap,rfl,hg,hc⟩⟩:=hv
 ·go_enter func245,ntmps245;go_wp2_with (refine aW rfl (mD rfl rfl) ?_;intro W ax KG jD);go_loop [7] (fun i=>i= V Z 0) (fun _=>0)
  case atStart=>rfl
  case round=>
   subst hrel;have e:b=false:=HB.out;subst e;clear HB;go_wp2;go_ret;exact⟨rfl,jD⟩
 ·have HC:=ad hc;clear hc;go_enter func245,ntmps245;go_wp2_with (refine aW rfl (mD rfl rfl) ?_;intro W ax KG jD);have c6:=ax.cell h6;clear ax;go_loop [7] (fun i=>∃k:Nat,k≤l.length∧i= V Z k∧Hid (b=re pls l.length k (l.drop k) n)) (fun i=>l.length - (intOf i).toNat)
  case atStart=>exact⟨0,Nat.zero_le _,rfl,HB⟩
  case round=>
   obtain⟨k,hk,rfl,hn⟩:=hrel;by_cases ay:k<l.length
   case neg=>
    have e:b=false:=by have:=hn.out;rw[List.drop_eq_nil_of_le (by omega)]at this;exact this
    subst e;clear HB hn;go_wp2;go_ret;exact⟨rfl,jD⟩
   case pos=>
    have cR:W.cell? ⟨g,off+k,none⟩=some (V Z (l.getD k 0)):=(jD.cell (p:=⟨g,off+k,none⟩) hg).trans (HC.out k ay);have ht:=Wf (pls:=pls) (len:=l.length) (n:=n) ay;by_cases he:l.getD k 0=n
    ·rw[if_pos he]at ht;have e2:=hn.out.trans ht;rw[he]at cR;have Sm:(n==n)=true:=by simp
     clear ht he hn HB;generalize fR:pls.contains ((k:Int)+1)=x1 at *
     generalize fZ:pls.contains ((k:Int) - (l.length:Int))=x2 at *
     have D1:Hid (ξ prog 247 #[.slice a3 n3 k3, V Z ((k:Int)+1)] W fun e w'=>e= δ (.bool x1)∧W=w'):=ad (by rw[←fR];exact C.out _ W jD);have D2:Hid (∀W',Below w.heap.size w W'→ξ prog 247 #[.slice a3 n3 k3, V Z ((k:Int) - (l.length:Int))] W' fun e w'=>e= δ (.bool x2)∧W'=w'):=ad (fun W' h=>by rw[←fZ];exact C.out _ W' h);clear fR fZ;subst e2;go_upto_region 6 with(go_at_call 247;refine(D1.out).mono ?_;rintro e w1 ⟨rfl,rfl⟩);go_upto_region 7 with(go_at_call 247;refine(D2.out _ jD).mono ?_;rintro e w1 ⟨rfl,rfl⟩);cases x1 with
     |true=>
      go_wp2;go_ret;exact⟨rfl,jD⟩
     |false=>
      go_wp2;go_ret;exact⟨rfl,jD⟩
    ·rw[if_neg he]at ht;have hs:Hid (b=re pls l.length ((k+1:Nat):Int) (l.drop (k+1)) n):=ad (hn.out.trans ht);generalize l.getD k 0=z at *
     have hz:(z==n)=false:=by simp[he]
     clear ht hn he;go_wp2;exact⟨⟨k+1,by omega,by go_num,hs⟩,by simp[intOf];omega⟩
theorem YZ {P:Program}{ops:Array Oper}{rest:List Oper}{o:Oper}{a:Act}{Q:Exit→Act→ο→Prop}{w wr:ο}{obj:Obj}(ix:o.guard=none)(s x:Operand)(t e:TypeId)(z:Value)(bytes:Nat)
 (ho:o.op= .call {callee:= .builtin .append,args:=#[s,x],argTypes:=#[t,t]})(hu:P.underlying t=some (.slice e))
 (kN:(P.info? e).map (fun i=>(i.zero,i.size,i.bytes))=some (some z,1,bytes))(hz:z.cells.size=1)(B:Nat)(v:Value)(n:Nat)(xs:List Value)(hs:a.eval s=v)
 (aw:wr.ownsRow B e 1 v n xs)(aX:Below B w wr)(hB:B≤wr.heap.size)(y:Value)(hy:y.oneCell'=true)(hx:a.eval x= .slice (some ⟨wr.heap.size,0,none⟩) 1 1)
 (hc:(wr.alloc obj).cell? ⟨wr.heap.size,0,none⟩=some y)(hn:n≤4194304)(gC:bytes≤64)
 (h:∀v' w1,w1.ownsRow B e 1 v' (n+1) (xs++[y])→Below B w w1→wr.heap.size≤w1.heap.size→(∀g,g<wr.heap.size→v.ownBlock≠some g→w1.heap[g]?=wr.heap[g]?)→(v'.ownBlock=v.ownBlock∨∃g,v'.ownBlock=some g∧wr.heap.size≤g)→wpList P ops Q rest (a.put o.dst v') w1):wpList P ops Q (o::rest) a (wr.alloc obj):=by
 obtain⟨i0,hi,fH,eP,fb⟩:=info_parts kN;refine wpList_append_own_at _ ix s x t ho B e i0 z 1 bytes hu hi fH eP fb hz (by decide) v n xs hs (aw.alloc _) ⟨wr.heap.size,0,none⟩ 1 1 [y] hx rfl ?_ ?_ ?_ ?_ ?_ ?_
 ·intro j u hj
  match j,hj with
  |0,hj=>simp at hj;subst hj;exact hc
 ·intro u hu;simp at hu;subst hu;exact hy
 ·unfold maxLen;omega
 ·have:(n+1) * bytes≤4194305 * 64:=Nat.mul_le_mul (by omega) gC;omega
 ·simp;omega
 ·intro v' w1 dj eJ _ gE;have R:=oT hB aw aX dj eJ;have hz:=eJ.size;simp at hz;refine h v' w1 R.1 R.2 (by omega) (fun g hg di=>?_) (gE.imp id fun q=>⟨_,q,by simp⟩);rw[eJ.block g (by simp;omega) (fun q=>di q.symm)];exact heap_alloc_old wr _ hg
theorem D5 {w w1:ο}{B:Nat}{e T:TypeId}{v:Value}{n g:Nat}{xs cs:List Value}(hT:T≠e)(ho:w.ownsRow B e 1 v n xs)(hr:af w g cs T)(hk:∀g,g<w.heap.size→v.ownBlock≠some g→w1.heap[g]?=w.heap[g]?):af w1 g cs T:=by
 have di:v.ownBlock≠some g:=by
  intro q;rcases ho.2 with⟨rfl,_⟩|⟨g',cap,cur,rfl,_,hh,_⟩
  ·cases q
  ·cases q;unfold af at hr;rw[hr]at hh;cases hh;exact hT rfl
 unfold af;rw[hk g hr.lt di];exact hr
theorem ss {w w1:ο}{B:Nat}{e T:TypeId}{v:Value}{n g:Nat}{xs cs:List Value}(hT:T≠e)(ho:w.ownsRow B e 1 v n xs)(hr:af w g cs T)(hx:aK (fun k=>k=g) w w1):w1.ownsRow B e 1 v n xs:=by
 refine⟨ho.1,ho.2.imp id ?_⟩;rintro⟨g',cap,cur,h1,h2,h3,h4⟩;refine⟨g',cap,cur,h1,h2,?_,h4⟩;have di:¬g'=g:=by
  rintro rfl;unfold af at hr;rw[hr]at h3;cases h3;exact hT rfl
 rw[hx.block g' (Array.getElem?_eq_some_iff.1 h3).1 di];exact h3
theorem TX {i:Int}(h0:-6≤i)(h1:i<0):dC i=[V Z 1969, V Z 12, V Z (32+i), V Z i, V Z ((i+3)%7)]:=by
 have e:ae.num 1969 12 1=-31:=by decide
 have e2:=ae.fg 1969 12 (32+i);obtain⟨a,b,c⟩:=ae.Eh (n:=i) (y:=1969) (m:=12) (d:=32+i) (by omega) ⟨by omega,by omega,by omega,by rw[ae.Kg];omega⟩ (by omega);unfold dC;rw[a,b,c]
theorem TY (a:Int)(n:Nat):aV a (n+1)=aV a n++[a+n]:=by
 rw[mq];congr 1;simp[aV]
theorem D6 (F:Int→Bool)(a:Int)(n:Nat):(aV a (n+1)).filter F=(aV a n).filter F++if F (a+n)then[a+n]else[]:=by
 rw[TY,ε];congr 1;cases h:F (a+n)<;>simp[h]
theorem GR (F:Int→Bool)(a:Int)(n:Nat):((aV a n).filter F).length≤n:=by
 refine Nat.le_trans (List.length_filter_le _ _) ?_;simp[aV]
theorem aay (R:List Value)(s f0:Int)(F:Int→Bool)(w:ο)(hR:R.length=19)(h6:-6≤f0)(hf:f0≤0)
 (C:Hid (∀i,f0≤i→i<0→∀W,Below w.heap.size w W→ξ prog 242 #[.agg R.toArray, .agg (dC i).toArray, .agg (dC s).toArray] W fun e w'=>e= δ (.bool (F i))∧Below W.heap.size W w')):
 ξ prog 295 #[.agg R.toArray, V Z f0, .agg (dC s).toArray] w fun e w'=>∃v,e= δ v∧w'.ownsRow w.heap.size 3 1 v ((aV f0 (-f0).toNat).filter F).length (((aV f0 (-f0).toNat).filter F).map (κ Z))∧Below w.heap.size w w':=by
 go_enter func295,ntmps295;go_upto_region 2 with(first
  |(refine aW rfl (mD (cs:=R) rfl rfl) ?_;intro W1 r1 z1 b1)
  |(refine aW rfl (mD (cs:=dC s) rfl rfl) ?_;intro W2 r2 z2 b2))
 have Rx:=r1.on b2;have az:Below w.heap.size w W2:=b1.trans (b2.mono (by omega));have hI:Hid ((prog.info? 243).map (·.size)=some R.length):=ad (by rw[hR];exact fk);obtain⟨p5,Mt⟩:∃p5,p5=w.heap.size+1:=⟨_,rfl⟩;rw[z1,←Mt]at r2;rw[←Mt];have hpp:w.heap.size<p5∧p5<W2.heap.size:=by omega
 clear r1 b1 b2 z1 z2 Mt;go_wp2_with fail;go_loopw [7,8] (fun v t wr=>∃k:Nat,(k:Int)≤-f0∧t= V Z (f0+k)∧Below W2.heap.size W2 wr∧wr.ownsRow W2.heap.size 3 1 v ((aV f0 k).filter F).length (((aV f0 k).filter F).map (κ Z))) (fun _ t _=>(- intOf t).toNat)
 case atStart=>exact⟨0,by omega,by simp,Below.refl _ _,World.ownsRow_nil _ _ _ _⟩
 case round=>
  obtain⟨k,hk,rfl,hb,aw⟩:=hrel;have hz:=hb.size;have ah:=az.trans (hb.mono az.size);by_cases ay:f0+k<0
  case neg=>
   have e:Hid ((-f0).toNat=k):=ad (by omega);have HO:=ad aw;obtain⟨aq,nq,cq,rfl⟩:=dF aw;clear aw;go_wp2_with fail;go_ret;exact⟨_,rfl,by rw[e.out];exact eV HO.out az.size,ah⟩
  case pos=>
   have hE:=ad (TX (i:=f0+k) (by omega) ay);have hC:=ad (C.out (f0+k) (by omega) ay);have zV:=GR F f0 k;have hn:=D6 F f0 k;generalize(aV f0 k).filter F=L at *
   obtain⟨L2,gS⟩:∃L2,L2=(aV f0 (k+1)).filter F:=⟨_,rfl⟩;rw[←gS]at hn;have xo:=ad gS;clear gS;obtain⟨i,hi⟩:∃i,i=f0+k:=⟨_,rfl⟩;rw[←hi]at hE hC hn ay⊢;have hi6:-6≤i:=by omega
   have jx:((k+1:Nat):Int)≤-f0:=by omega
   have HI:=ad hi;clear hi;have q1:=Rx.on hb;have q2:=r2.on hb;go_upto_region 7 with(first
    |(refine aW rfl (nc rfl _ _) ?_;intro W3 r3 z3 b3;have K4:=q1.on b3;have S9:=q2.on b3)
    |(refine aN (vs:=dC i) rfl rfl rfl (by rw[hE.out];rfl) r3 rfl aS (qE i) ?_;intro W4 r4 x4;have q14:=K4.aQ x4 (by omega);have q24:=S9.aQ x4 (by omega);have b4:Below w.heap.size w W4:=(ah.trans (b3.mono ah.size)).trans (x4.below (by omega) (fun k hk=>by omega));have z4:=x4.size;have o4:W4.ownsRow W2.heap.size 3 1 _ L.length (L.map (κ Z)):=ss (by decide) (dY aw fun g hg _=>b3.block g hg) r3 x4;have bb4:Below W2.heap.size W2 W4:=(hb.trans (b3.mono hz)).trans (x4.below (by omega) (fun k hk=>by omega)))
    |(refine aR rfl rfl rfl q14 underlying243 rfl hI.out ?_)
    |(refine aR rfl rfl rfl r4 underlying236 rfl aS ?_)
    |(refine aR rfl rfl rfl q24 underlying236 rfl aS ?_)
    |(go_at_call 242;refine(hC.out _ b4).mono ?_;rintro e w5 ⟨rfl,bk⟩;have o5:=dY o4 (w':=w5) fun g hg _=>bk.block g hg;have bb5:=bb4.trans (bk.mono bb4.size);have z5:=bb5.size))
   cases hF:F i with
   |true=>
    rw[hF,if_pos rfl]at hn;go_wp2_with (at_builtin;refine fj rfl (.tmp 29) (.tmp 31) 54 3 _ 8 rfl underlying54 eu rfl W2.heap.size _ _ _ rfl o5 bb5 z5 (V Z i) rfl rfl (by simp) (by omega) (by decide) ?_;intro v' w6 dx dr _);exact⟨⟨k+1,jx,by rw[show f0+((k+1:Nat):Int)=i+1 by have:=HI.out;omega],dr,by rw[←xo.out,hn];simpa using dx⟩,by simp[intOf];omega⟩
   |false=>
    rw[hF]at hn;have Jb:L2=L:=by simpa using hn
    subst Jb;go_wp2_with fail;exact⟨⟨k+1,jx,by rw[show f0+((k+1:Nat):Int)=i+1 by have:=HI.out;omega],bb5,by rw[←xo.out];exact o5⟩,by simp[intOf];omega⟩
theorem T0 (a:Act)(h:a.tmps.size=51)(hd:a.defers=[]):∃f:Nat→Value,a=⟨List.toArray (f 0::f 1::f 2::f 3::f 4::f 5::f 6::f 7::f 8::f 9::f 10::f 11::f 12::f 13::f 14::f 15::f 16::f 17::f 18::f 19::f 20::f 21::f 22::f 23::f 24::f 25::f 26::f 27::f 28::f 29::f 30::f 31::f 32::f 33::f 34::f 35::f 36::f 37::f 38::f 39::f 40::f 41::f 42::f 43::f 44::f 45::f 46::f 47::f 48::f 49::f 50::[]),[]⟩∧∀k,a.eval (.tmp k)=f k:=jo 51 a h hd
theorem Wh (R:List Value)(d s f0 hi bh:Int)(F:Int→Bool)(w:ο)(hR:R.length=19)(h6:-6≤f0)(hp:0<hi)(hf:f0<hi)(alH:hi≤f0+366)(hm:hi≤84090)(SJ:f0<84006)(hbh:bh≠f0)
 (CB:Hid (∀W,Below w.heap.size w W→ξ prog 243 #[.agg R.toArray, .agg (dC d).toArray] W fun e w'=>e= δ (V Z f0)∧Below W.heap.size W w'))
 (CX:Hid (∀i,0≤i→f0≤i→i<hi→∀W,Below w.heap.size w W→ξ prog 243 #[.agg R.toArray, .agg (dC i).toArray] W fun e w'=>e= δ (V Z f0)∧Below W.heap.size W w'))
 (CH:Hid (∀W,Below w.heap.size w W→ξ prog 243 #[.agg R.toArray, .agg (dC hi).toArray] W fun e w'=>e= δ (V Z bh)∧Below W.heap.size W w'))
 (C:Hid (∀i,f0≤i→i<hi→∀W,Below w.heap.size w W→ξ prog 242 #[.agg R.toArray, .agg (dC i).toArray, .agg (dC s).toArray] W fun e w'=>e= δ (.bool (F i))∧Below W.heap.size W w')):
 ξ prog 244 #[.agg R.toArray, .agg (dC d).toArray, .agg (dC s).toArray] w fun e w'=>∃v,e= δ v∧w'.ownsRow w.heap.size 3 1 v ((aV f0 (hi - f0).toNat).filter F).length (((aV f0 (hi - f0).toNat).filter F).map (κ Z))∧Below w.heap.size w w':=by
 have hI:Hid ((prog.info? 243).map (·.size)=some R.length):=ad (by rw[hR];exact fk);go_enter func244,ntmps244;go_upto_region 1 with(first
  |(refine aW rfl (mD (cs:=R) rfl rfl) ?_;intro W1 r1 z1 b1)
  |(refine aW rfl (mD (cs:=dC d) rfl rfl) ?_;intro W2 r2 z2 b2)
  |(refine aW rfl (mD (cs:=dC s) rfl rfl) ?_;intro W3 r3 z3 b3))
 have B8:=(r1.on b2).on b3;have r23:=r2.on b3;have bw:Below w.heap.size w W3:=(b1.trans (b2.mono (by omega))).trans (b3.mono (by omega));obtain⟨p4,Y1⟩:∃p4,p4=w.heap.size+1:=⟨_,rfl⟩;obtain⟨p5,Mt⟩:∃p5,p5=p4+1:=⟨_,rfl⟩;rw[z1,←Y1]at r23;rw[z2,z1,←Y1,←Mt]at r3;rw[←Y1,←Mt];have hpp:w.heap.size<p4∧p4<p5∧p5<W3.heap.size:=by omega
 clear r1 r2 b1 b2 b3 z1 z2 z3 Y1 Mt;go_upto_region 4 with(first
  |(refine aR rfl rfl rfl B8 underlying243 rfl hI.out ?_)
  |(refine aR rfl rfl rfl r23 underlying236 rfl aS ?_)
  |(go_at_call 243;refine(CB.out _ bw).mono ?_;rintro e w4 ⟨rfl,dN⟩))
 have q1:=B8.on dN;have q3:=r3.on dN;have oF:=bw.trans (dN.mono bw.size);clear CB;rename_i K1 aP K2 dI;have r7:∀(f1:Int) (v:Value) (W5:ο),0≤f1→f0≤f1→f1<hi→f1<84006→Below w4.heap.size w4 W5→W5.ownsRow w4.heap.size 3 1 v ((aV f0 (f1 - f0).toNat).filter F).length (((aV f0 (f1 - f0).toNat).filter F).map (κ Z))→
  ∀a,a.tmps.size=51→a.defers=[]→a.eval (.tmp 3)= .pointer (some ⟨w.heap.size,0,none⟩)→a.eval (.tmp 5)= .pointer (some ⟨p5,0,none⟩)→a.eval (.tmp 7)= V Z f0→a.eval (.tmp 8)=v→a.eval (.tmp 9)= V Z f1→K1 a W5:=by
  intro f1 v W5 p0 p1 p2 p3 bk lK a bu nM s3 s5 s7 s8 s9;refine aP a W5 ?_;clear aP dI K2;obtain⟨f,rfl,hf⟩:=T0 a bu nM;have f3:=(hf 3).symm.trans s3;have f5:=(hf 5).symm.trans s5;have f7:=(hf 7).symm.trans s7;have f8:=(hf 8).symm.trans s8;have f9:=(hf 9).symm.trans s9;rw[f3,f5,f7,f8,f9];clear hf bu nM s3 s5 s7 s8 s9 f3 f5 f7 f8 f9;have E5:=bk.size;have Ib:=dN.size;have u1:=q1.on bk;have u3:=q3.on bk;have ah4:=oF.trans (bk.mono oF.size);have CO:=ad (fun W=>zJ f1 W p0 p3);have CA:=ad (fun i (i0:0≤i) (i1:i≤84090) W=>Jh i W i0 i1);rw[Fx]at CO;simp only[Fx]at CA;go_upto_region 8 with(first
   |(go_at_call 183;refine(CO.out _).mono ?_;rintro e w6 ⟨rfl,dr⟩;have v1:=u1.on dr;have v3:=u3.on dr;have o6:=dY lK (w':=w6) fun g hg _=>dr.block g hg;have Ll:=dr.size)
   |(refine aW rfl (nc rfl _ _) ?_;intro W7 r7 z7 b7;have v17:=v1.on b7;have v37:=v3.on b7;have o7:=dY o6 (w':=W7) fun g hg _=>b7.block g hg)
   |(refine aN (vs:=dC f1) rfl rfl rfl rfl r7 rfl aS (qE f1) ?_;intro W8 r8 x8;have v18:=v17.aQ x8 (by omega);have v38:=v37.aQ x8 (by omega);have o8:=ss (by decide) o7 r7 x8;have z8:=x8.size))
  have iy:Below w4.heap.size w4 W8:=((bk.trans (dr.mono E5)).trans (b7.mono (by omega))).trans (x8.below (by omega) (fun k hk=>by omega));clear bk dr b7 x8 r7 v17 v37 v1 v3 u1 u3 o6 o7 lK CO;obtain⟨G,hG⟩:∃G,G=w6.heap.size:=⟨_,rfl⟩;rw[←hG]at r8⊢;have hGw:w4.heap.size≤G:=by omega
  clear hG E5 Ll z7 z8 ah4;go_wp2_with fail;go_loopw [8,11] (fun v t wr=>∃m:Nat,f1≤f0+m∧f0+m≤hi∧t= V Z (f0+m)∧Below w4.heap.size w4 wr∧af wr G (dC (f0+m)) 236∧wr.ownsRow w4.heap.size 3 1 v ((aV f0 m).filter F).length (((aV f0 m).filter F).map (κ Z))) (fun _ t _=>(hi - intOf t).toNat)
  case atStart=>exact⟨(f1 - f0).toNat,by omega,by omega,by rw[show f0+((f1 - f0).toNat:Int)=f1 by omega],iy,by rw[show f0+((f1 - f0).toNat:Int)=f1 by omega];exact r8,o8⟩
  case round=>
   clear o8 r8 iy v18 v38;obtain⟨m,m0,m1,rfl,hb,hx,aw⟩:=hrel;have hz:=hb.size;have ah:=oF.trans (hb.mono oF.size);have t1:=q1.on hb;have t3:=q3.on hb;obtain⟨i,Hh⟩:∃i,i=f0+m:=⟨_,rfl⟩;by_cases ay:f0+m<hi
   case neg=>
    have e:Hid ((hi - f0).toNat=m):=ad (by omega);have HO:=ad aw;rw[←Hh]at hx⊢;have hih:i=hi:=by omega
    clear Hh;obtain⟨aq,nq,cq,rfl⟩:=dF aw;clear aw;by_cases h3:i<f0+366
    ·have di:(bh==f0)=false:=by simp[hbh]
     rw[hih]at hx;go_wp2_with (first
      |(refine aR rfl rfl rfl t1 underlying243 rfl hI.out ?_)
      |(refine aR rfl rfl rfl hx underlying236 rfl aS ?_)
      |(go_at_call 243;refine(CH.out _ ah).mono ?_;rintro e w9 ⟨rfl,iI⟩))
     go_ret;exact⟨_,rfl,by rw[e.out];exact eV (dY HO.out (w':=w9) fun g hg _=>iI.block g hg) oF.size,ah.trans (iI.mono ah.size)⟩
    ·go_wp2_with fail;go_ret;exact⟨_,rfl,by rw[e.out];exact eV HO.out oF.size,ah⟩
   case pos=>
    have hCX:=ad (CX.out (f0+m) (by omega) (by omega) ay);have hCF:=ad (C.out (f0+m) (by omega) ay);have hCA:=ad (CA.out (f0+m) (by omega) (by omega));have zV:=GR F f0 m;have hn:=D6 F f0 m;have e1:f0+((m+1:Nat):Int)=i+1:=by omega
    generalize(aV f0 m).filter F=L at *
    obtain⟨L2,gS⟩:∃L2,L2=(aV f0 (m+1)).filter F:=⟨_,rfl⟩;rw[←gS]at hn;replace gS:=ad gS;rw[←Hh]at hCX hCF hCA hx hn ay m0 m1⊢;have hi0:0≤i:=by omega
    have EU:f0≤i:=by omega
    clear Hh;have h3:i<f0+366:=by omega
    have hff:(f0==f0)=true:=by simp
    go_upto_region 14 with(first
     |(refine aR rfl rfl rfl t1 underlying243 rfl hI.out ?_)
     |(refine aR rfl rfl rfl tj underlying243 rfl hI.out ?_)
     |(refine aR (b:=G) rfl rfl rfl hx underlying236 rfl aS ?_)
     |(refine aR (b:=G) rfl rfl rfl iA underlying236 rfl aS ?_)
     |(refine aR (b:=p5) rfl rfl rfl YU underlying236 rfl aS ?_)
     |(go_at_call 243;refine(hCX.out _ ah).mono ?_;rintro e w9 ⟨rfl,iI⟩;have tj:=t1.on iI;have YU:=t3.on iI;have iA:=hx.on iI;have o9:=dY aw (w':=w9) (fun g hg _=>iI.block g hg);have yn:=ah.trans (iI.mono ah.size);have adP:=hb.trans (iI.mono hz);clear t1 t3 hx aw)
     |(go_at_call 242;refine(hCF.out _ yn).mono ?_;rintro e pg ⟨rfl,kM⟩;have Lm:=iA.on kM;have o10:=dY o9 (w':=pg) (fun g hg _=>kM.block g hg);have Kd:=adP.trans (kM.mono adP.size)))
    have ah5:=Kd.size;cases hF:F i with
    |true=>
     rw[hF,if_pos rfl]at hn;go_wp2_with (first
      |(at_builtin;refine YZ rfl (.tmp 44) (.tmp 46) 54 3 _ 8 rfl underlying54 eu rfl w4.heap.size _ _ _ rfl o10 Kd ah5 (V Z i) rfl rfl (by simp) (by omega) (by decide) ?_;intro v' w11 o11 QS adS Wi _;have adT:=D5 (by decide) o10 Lm Wi)
      |(refine aR (b:=G) rfl rfl rfl adT underlying236 rfl aS ?_)
      |(go_at_call 246;refine(hCA.out _).mono ?_;rintro e KE ⟨rfl,nj⟩;have Mu:=adT.on nj;have o12:=dY o11 (w':=KE) (fun g hg _=>nj.block g hg);have Fy:=QS.trans (nj.mono QS.size))
      |(refine aN (vs:=dC (i+1)) rfl rfl rfl rfl Mu (BU _ _) aS (qE (i+1)) ?_;intro W13 Wj pd;have Oo:=ss (by decide) o12 Mu pd))
     exact⟨⟨m+1,by omega,by omega,by rw[e1],Fy.trans (pd.below Fy.size (fun k hk=>by omega)),by rw[e1];exact Wj,by rw[←gS.out,hn];simpa using Oo⟩,by simp[intOf];omega⟩
    |false=>
     rw[hF]at hn;have Jb:L2=L:=by simpa using hn
     subst Jb;go_wp2_with (first
      |(refine aR (b:=G) rfl rfl rfl Lm underlying236 rfl aS ?_)
      |(go_at_call 246;refine(hCA.out _).mono ?_;rintro e KE ⟨rfl,nj⟩;have Mu:=Lm.on nj;have o12:=dY o10 (w':=KE) (fun g hg _=>nj.block g hg);have Fy:=Kd.trans (nj.mono Kd.size))
      |(refine aN (vs:=dC (i+1)) rfl rfl rfl rfl Mu (BU _ _) aS (qE (i+1)) ?_;intro W13 Wj pd;have Oo:=ss (by decide) o12 Mu pd))
     exact⟨⟨m+1,by omega,by omega,by rw[e1],Fy.trans (pd.below Fy.size (fun k hk=>by omega)),by rw[e1];exact Wj,by rw[←gS.out];exact Oo⟩,by simp[intOf];omega⟩
 clear aP;by_cases alI:f0<0
 case neg=>
  clear CX CH C;go_wp2_with fail;exact r7 f0 (.slice none 0 0) w4 (by omega) (by omega) hf SJ (Below.refl _ _) (by rw[show(f0 - f0).toNat=0 by omega];exact World.ownsRow_nil _ _ _ _) _ rfl rfl rfl rfl rfl rfl rfl
 case pos=>
  have CE:=ad (aay R s f0 F w4 hR h6 (by omega) (ad fun i i0 i1 W hW=>C.out i i0 (by omega) W (oF.trans (hW.mono oF.size))));clear CX CH C;go_wp2_with (first
   |(refine aR rfl rfl rfl q1 underlying243 rfl hI.out ?_)
   |(refine aR rfl rfl rfl q3 underlying236 rfl aS ?_)
   |(go_at_call 295;refine(CE.out).mono ?_;rintro e w5 ⟨v5,rfl,lK,bk⟩))
  exact r7 0 v5 w5 (by omega) (by omega) hp (by omega) bk (by rw[show(0 - f0).toNat=(-f0).toNat by omega];exact lK) _ rfl rfl rfl rfl rfl rfl rfl
end Go.Proofs.YthpndgcaoeokeaaGreatDoor
