import Derived.Test.YthpndgcaoeokeaaGreatDoorProg
import Derived.WalkKit
import Derived.WalkSpells
import Derived.WalkLawsBesides
import Derived.Deep.QuietTactic
import Derived.BigQuiet
import Derived.Lib.QuietBelow
set_option maxRecDepth 100000
set_option maxHeartbeats 8000000
namespace Go.Proofs.YthpndgcaoeokeaaGreatDoor.ae
def lp (y:Int):Bool:=y%4==0&&(y%100 !=0||y%400==0)
def md (y m:Int):Int:=
 if m=4∨m=6∨m=9∨m=11 then 30 else if m=2 then(if lp y then 29 else 28)else 31
def yd (y:Int):Int:=if lp y then 366 else 365
def ty (y:Int):Int:=y * 365+y/4 - y/100+y/400
def tm (m:Int):Int:=(m * 153+2)/5
def num (y m d:Int):Int:=
 if m - 3<0 then ty (y - 1)+tm (m - 3+12)+d - 1 - 719468 else ty y+tm (m - 3)+d - 1 - 719468
def yr (l:Int):Int:=if ty (l * 400/146097+1)≤l then l * 400/146097+1 else l * 400/146097
def mo (r:Int):Int:=(r * 5+2)/153
def ag (n:Int):Int:=
 if mo (n+719468 - ty (yr (n+719468)))+3>12 then yr (n+719468)+1 else yr (n+719468)
def ofM (n:Int):Int:=
 if mo (n+719468 - ty (yr (n+719468)))+3>12 then mo (n+719468 - ty (yr (n+719468)))+3 - 12 else mo (n+719468 - ty (yr (n+719468)))+3
def ar (n:Int):Int:=
 n+719468 - ty (yr (n+719468)) - tm (mo (n+719468 - ty (yr (n+719468))))+1
def Valid (y m d:Int):Prop:=1≤m∧m≤12∧1≤d∧d≤md y m
theorem Rj (y:Int):lp y=true↔(y%4=0∧(y%100≠0∨y%400=0)):=by
 simp[lp]
theorem Bw (y:Int):ty (y+1)=ty y+365+(if lp (y+1)then 1 else 0):=by
 by_cases h:lp (y+1)=true
 ·have h':=(Rj (y+1)).1 h;simp only[h,if_true];unfold ty;omega
 ·have h':¬((y+1)%4=0∧((y+1)%100≠0∨(y+1)%400=0)):=fun k=>h ((Rj (y+1)).2 k);simp only[h];unfold ty;simp;omega
theorem aez (l:Int)(_h:0≤l):ty (yr l)≤l:=by
 unfold yr;split
 ·assumption
 ·unfold ty;omega
theorem aeA (l:Int)(_h:0≤l):l<ty (yr l+1):=by
 unfold yr;split
 ·unfold ty;omega
 ·omega
theorem aeB (l:Int)(h:0≤l)(h2:l≤3000000):0≤yr l∧yr l≤8300:=by
 unfold yr;split<;>omega
theorem Kf (l:Int)(h:0≤l):0≤l - ty (yr l)∧l - ty (yr l)≤365∧(l - ty (yr l)=365→lp (yr l+1)=true):=by
 have a:=aez l h;have b:=aeA l h;have c:=Bw (yr l);by_cases e:lp (yr l+1)=true
 ·simp only[e,if_true]at c;exact⟨by omega,by omega,fun _=>e⟩
 ·simp only[e]at c;simp at c;refine⟨by omega,by omega,fun q=>by omega⟩
theorem PM (r:Int)(h:0≤r)(h2:r≤365):0≤mo r∧mo r≤11∧tm (mo r)≤r∧r<tm (mo r+1):=by
 unfold mo tm;omega
theorem eT (n:Int)(h:0≤n+719468):Valid (ag n) (ofM n) (ar n):=by
 have hr:=Kf _ h;unfold ag ofM ar Valid;generalize hl:n+719468 - ty (yr (n+719468))=r at *
 have hm:=PM r hr.1 hr.2.1;obtain⟨m0,m1,m2,m3⟩:=hm;have hk:mo r=0∨mo r=1∨mo r=2∨mo r=3∨mo r=4∨mo r=5∨mo r=6∨mo r=7∨mo r=8∨mo r=9∨mo r=10∨mo r=11:=by omega
 rcases hk with k|k|k|k|k|k|k|k|k|k|k|k<;>rw[k]at m2 m3⊢<;>simp[tm]at m2 m3⊢<;>simp[md]<;>try omega
 by_cases e:lp (yr (n+719468)+1)=true
 ·simp only[e];simp;omega
 ·simp only[e];simp;have:r≠365:=fun q=>e (hr.2.2 q);omega
theorem gP (n:Int)(h:0≤n+719468):num (ag n) (ofM n) (ar n)=n:=by
 have hr:=Kf _ h;unfold ag ofM ar num;have hm:=PM _ hr.1 hr.2.1;generalize hl:n+719468 - ty (yr (n+719468))=r at *
 obtain⟨m0,m1,m2,m3⟩:=hm;by_cases c:mo r+3>12
 ·simp only[c,if_true];rw[if_pos (by omega)];rw[show yr (n+719468)+1 - 1=yr (n+719468)from by omega,show mo r+3 - 12 - 3+12=mo r from by omega];omega
 ·simp only[c,if_false];rw[if_neg (by omega)];rw[show mo r+3 - 3=mo r from by omega];omega
theorem iN (y:Int):num (y+1) 1 1=num y 1 1+yd y:=by
 have:=Bw (y - 1);rw[show y - 1+1=y from by omega]at this;unfold num yd;simp only[show(1:Int) - 3<0 from by omega,if_true];rw[show y+1 - 1=y from by omega,this];by_cases e:lp y=true
 ·simp only[e];simp;omega
 ·simp only[e];simp;omega
theorem ks (y m:Int)(h1:1≤m)(h2:m≤11):num y (m+1) 1=num y m 1+md y m:=by
 have:=Bw (y - 1);rw[show y - 1+1=y from by omega]at this;have hk:m=1∨m=2∨m=3∨m=4∨m=5∨m=6∨m=7∨m=8∨m=9∨m=10∨m=11:=by omega
 rcases hk with k|k|k|k|k|k|k|k|k|k|k<;>subst k<;>simp[num,md,tm]<;>try omega
 rw[this];by_cases e:lp y=true
 ·simp only[e];simp;omega
 ·simp only[e];simp;omega
theorem fg (y m d:Int):num y m d=num y m 1+d - 1:=by
 unfold num;split<;>omega
theorem fS (y m:Int):28≤md y m∧md y m≤31:=by
 unfold md;split
 ·omega
 ·split
  ·split<;>omega
  ·omega
theorem fp (y:Int)(k:Nat):num y 1 1+365 * k≤num (y+k) 1 1:=by
 induction k with
 |zero=>simp
 |succ k ih=>
  have:=iN (y+k);have hy:365≤yd (y+k):=by unfold yd;split<;>omega
  rw[show y+((k+1:Nat):Int)=y+k+1 from by omega];omega
theorem Kg (y:Int):md y 12=31:=by simp[md]
theorem rP (y:Int):num (y+1) 1 1=num y 12 1+31:=by
 simp[num,tm];omega
theorem pq (y m:Int)(k:Nat)(h1:1≤m)(h2:m+k≤12):num y m 1+28 * k≤num y (m+k) 1:=by
 induction k with
 |zero=>simp
 |succ k ih=>
  have:=ks y (m+k) (by omega) (by omega);have hb:=fS y (m+k);have:=ih (by omega);rw[show m+((k+1:Nat):Int)=m+k+1 from by omega];omega
theorem rQ {y m d:Int}(v:Valid y m d):num y 1 1≤num y m d∧num y m d<num (y+1) 1 1:=by
 obtain⟨a,b,c,e⟩:=v;have h1:=fg y m d;constructor
 ·have:=pq y 1 (m - 1).toNat (by omega) (by omega);rw[show(1:Int)+((m - 1).toNat:Int)=m from by omega]at this;omega
 ·by_cases q:m=12
  ·subst q;rw[rP,h1];have:=Kg y;omega
  ·have h2:=ks y m a (by omega);have:=pq y (m+1) (11 - m).toNat (by omega) (by omega);rw[show m+1+((11 - m).toNat:Int)=12 from by omega]at this;have:=rP y;omega
theorem Kh {y m m' d d':Int}(v:Valid y m d)(v':Valid y m' d')(h:m<m'):num y m d<num y m' d':=by
 obtain⟨a,b,c,e⟩:=v;obtain⟨a',b',c',e'⟩:=v';have h1:=fg y m d;have zc:=fg y m' d';have h2:=ks y m a (by omega);have:=pq y (m+1) (m' - m - 1).toNat (by omega) (by omega);rw[show m+1+((m' - m - 1).toNat:Int)=m' from by omega]at this;omega
theorem Xx {y y' m m' d d':Int}(v:Valid y m d)(v':Valid y' m' d')(h:num y m d=num y' m' d'):¬y<y':=by
 intro q;have a:=rQ v;have b:=rQ v';have:=fp (y+1) (y' - y - 1).toNat;rw[show y+1+((y' - y - 1).toNat:Int)=y' from by omega]at this;omega
theorem inj {y y' m m' d d':Int}(v:Valid y m d)(v':Valid y' m' d')(h:num y m d=num y' m' d'):y=y'∧m=m'∧d=d':=by
 have hy:y=y':=by
  have:=Xx v v' h;have:=Xx v' v h.symm;omega
 subst hy;have hm:m=m':=by
  by_cases a:m<m'
  ·have:=Kh v v' a;omega
  ·by_cases b:m'<m
   ·have:=Kh v' v b;omega
   ·omega
 subst hm;have h1:=fg y m d;have h2:=fg y m d';exact⟨rfl,rfl,by omega⟩
theorem G6 {y m d:Int}(hy:1≤y)(hm:0≤m)(hd:0≤d):
 (ag (num y m d)=y∧ofM (num y m d)=m∧ar (num y m d)=d)↔Valid y m d:=by
 have h:0≤num y m d+719468:=by
  unfold num ty tm;split<;>omega
 have v:=eT _ h;constructor
 ·rintro⟨a,b,c⟩;rw[a,b,c]at v;exact v
 ·intro w;exact inj v w (gP _ h)
theorem Eh {n y m d:Int}(h:0≤n+719468)(v:Valid y m d)(e:num y m d=n):ag n=y∧ofM n=m∧ar n=d:=
 inj (eT n h) v (by rw[gP n h,e])
theorem nD:num 1970 1 1=0:=by decide
theorem pr:num 2200 1 1=84006:=by decide
theorem xV (y:Int):365≤yd y∧yd y≤366:=by unfold yd;split<;>omega
theorem Np (y:Int)(k:Nat):num (y+k) 1 1≤num y 1 1+366 * k:=by
 induction k with
 |zero=>simp
 |succ k ih=>
  have:=iN (y+k);have hy:=xV (y+k);rw[show y+((k+1:Nat):Int)=y+k+1 from by omega];omega
theorem pt (y:Int)(h0:1970≤y)(h1:y≤2200):0≤num y 1 1∧num y 1 1≤84180:=by
 have a:=fp 1970 (y - 1970).toNat;have b:=Np 1970 (y - 1970).toNat;rw[show(1970:Int)+((y - 1970).toNat:Int)=y from by omega,nD]at a b;omega
theorem uB (y m:Int)(h0:1970≤y)(h1:y≤2200)(a:1≤m)(b:m≤12):0≤num y m 1∧num y m 1≤84600:=by
 have h:=pt y h0 h1;have v:Valid y m 1:=⟨a,b,by omega,by have:=fS y m;omega⟩;have i:=rQ v;have s:=iN y;have:=xV y;omega
theorem N5 {y n:Int}(a:num y 1 1≤n)(b:n<84006):y<2200:=by
 by_cases q:y<2200
 ·exact q
 ·have:=fp 2200 (y - 2200).toNat;rw[show(2200:Int)+((y - 2200).toNat:Int)=y from by omega,pr]at this;omega
theorem UX {y m n:Int}(h1:1≤m)(h2:m≤12)(a:n - num y 1 1<yd y)(b:md y m≤n - num y m 1):m<12:=by
 by_cases q:m<12
 ·exact q
 ·have e:m=12:=by omega
  subst e;have h1:=rP y;have h2:=iN y;have h3:=Kg y;omega
theorem UY {y m n:Int}(h1:1≤m)(h2:m≤12)(h0:0≤n)(a:0≤n - num y m 1)(b:n - num y m 1<md y m):
 ag n=y∧ofM n=m∧ar n=n - num y m 1+1:=by
 have v:Valid y m (n - num y m 1+1):=⟨h1,h2,by omega,by omega⟩;exact Eh (by omega) v (by rw[fg];omega)
end Go.Proofs.YthpndgcaoeokeaaGreatDoor.ae
open Go.IntKind renaming i64→Z
open Go.Value renaming int→V,string→ε
open Go.Ending renaming returned→δ
open Go.Obj renaming cells→ζ
open Array renaming getElem?_eq_getElem→η,getElem?_toList→ξ,length_toList→ο
open Int renaming eq_ofNat_of_zero_le→θ
open Go renaming World→ι,Calls→μ
open Bool renaming true_and→κ,false_and→π
open UInt8 renaming ofNat→ν
namespace Go.Proofs.YthpndgcaoeokeaaGreatDoor
open Tryz
open Go.RowKit
theorem ad {p:Prop}(h:p):Hid p:=h
theorem nE {k:IntKind}{a b:Int}(h:a=b):Ending.returned (.int k a)= δ (.int k b):=by rw[h]
theorem Ki (y:Int)(w:ι)(h0:0≤y)(h1:y≤100000):
 μ prog 232 #[V Z y] w fun e w'=>e= δ (.bool (ae.lp y))∧w=w':=by
 unfold ae.lp;by_cases a:y%4=0<;>by_cases b:y%100=0<;>by_cases c:y%400=0
 all_goals
  go_enter func232,ntmps232;go_wp2;go_ret;exact⟨by simp[a,b,c],rfl⟩
theorem oa (y:Int)(w:ι)(h0:0≤y)(h1:y≤100000):
 μ prog 233 #[V Z y] w fun e w'=>e= δ (V Z (ae.yd y))∧w=w':=by
 unfold ae.yd;cases h:ae.lp y
 all_goals
  go_enter func233,ntmps233;go_wp2_with (go_at_call 232;refine(Ki _ _ h0 h1).mono ?_;rintro e w' ⟨rfl,rfl⟩);go_ret;exact⟨by simp,rfl⟩
theorem ij (y m:Int)(w:ι)(h0:0≤y)(h1:y≤100000):
 μ prog 180 #[V Z y, V Z m] w fun e w'=>e= δ (V Z (ae.md y m))∧w=w':=by
 unfold ae.md;by_cases a:m=4
 ·subst a;go_enter func180,ntmps180;go_wp2;go_ret;exact⟨by simp,rfl⟩
 by_cases b:m=6
 ·subst b;go_enter func180,ntmps180;go_wp2;go_ret;exact⟨by simp,rfl⟩
 by_cases c:m=9
 ·subst c;go_enter func180,ntmps180;go_wp2;go_ret;exact⟨by simp,rfl⟩
 by_cases d:m=11
 ·subst d;go_enter func180,ntmps180;go_wp2;go_ret;exact⟨by simp,rfl⟩
 by_cases f:m=2
 ·subst f;cases h:ae.lp y
  all_goals
   go_enter func180,ntmps180;go_wp2_with (go_at_call 232;refine(Ki _ _ h0 h1).mono ?_;rintro e w' ⟨rfl,rfl⟩);go_ret;exact⟨by simp,rfl⟩
 have a':(m==4)=false:=by simp[a]
 have b':(m==6)=false:=by simp[b]
 have c':(m==9)=false:=by simp[c]
 have d':(m==11)=false:=by simp[d]
 have f':(m==2)=false:=by simp[f]
 go_enter func180,ntmps180;go_wp2;go_ret;exact⟨by simp,rfl⟩
theorem oc (y m d:Int)(w:ι)(h0:1970≤y)(h1:y≤2200)(a:1≤m)(b:m≤12)(c:0≤d)(e:d≤1000):
 μ prog 181 #[V Z y, V Z m, V Z d] w fun e w'=>e= δ (V Z (ae.num y m d))∧w=w':=by
 go_enter func181,ntmps181;go_wp2;go_loop [7,8] (fun n i=>∃k:Int,1970≤k∧k≤y∧i= V Z k∧n= V Z (d - 1+ae.num k 1 1)) (fun _ i=>(y - intOf i).toNat)
 case atStart=>exact⟨1970,by omega,by omega,rfl,by rw[ae.nD];simp⟩
 case round=>
  obtain⟨k,k0,k1,rfl,rfl⟩:=hrel;have hj:=ae.pt k k0 (by omega);by_cases ay:k<y
  ·have hs:=ae.iN k;have hy:=ae.xV k;have HS:=ad hs;clear hs;go_wp2_with (go_at_call 233;refine(oa _ _ (by omega) (by omega)).mono ?_;rintro e w' ⟨rfl,rfl⟩);go_round
   case rel=>exact⟨k+1,by omega,by omega,rfl,by rw[HS.out];go_num⟩
   case measure=>simp[intOf];omega
  ·have hk:k=y:=by omega
   subst hk;go_wp2;go_loop [7,9] (fun n i=>∃q:Int,1≤q∧q≤m∧i= V Z q∧n= V Z (d - 1+ae.num k q 1)) (fun _ i=>(m - intOf i).toNat)
   case atStart=>exact⟨1,by omega,by omega,rfl,rfl⟩
   case round=>
    obtain⟨q,q0,q1,rfl,rfl⟩:=hrel;have hq:=ae.uB k q k0 h1 q0 (by omega);by_cases hm:q<m
    ·have hs:=ae.ks k q q0 (by omega);have hy:=ae.fS k q;have HS:=ad hs;clear hs;go_wp2_with (go_at_call 180;refine(ij _ _ _ (by omega) (by omega)).mono ?_;rintro e w' ⟨rfl,rfl⟩);go_round
     case rel=>exact⟨q+1,by omega,by omega,rfl,by rw[HS.out];go_num⟩
     case measure=>simp[intOf];omega
    ·have hk:q=m:=by omega
     subst hk;go_wp2;go_ret;exact⟨nE (by rw[ae.fg k q d];omega),rfl⟩
theorem G7 (w:ι):μ prog 234 #[] w fun e w'=>e= δ (V Z 84006)∧w=w':=by
 go_enter func234,ntmps234;go_wp2_with (go_at_call 181;refine(oc _ _ _ _ (by omega) (by omega) (by omega) (by omega) (by omega) (by omega)).mono ?_;rintro e w' ⟨rfl,rfl⟩);go_ret;exact⟨nE ae.pr,rfl⟩
def cD (n:Int):Bool:=decide (0≤n)&&decide (n<7258118400)
theorem ri (n:Int)(w:ι):μ prog 182 #[V Z n] w fun e w'=>e= δ (.bool (cD n))∧w=w':=by
 unfold cD;by_cases h:0≤n
 ·go_enter func182,ntmps182;go_wp2_with (go_at_call 234;refine(G7 _).mono ?_;rintro e w' ⟨rfl,rfl⟩);go_ret;exact⟨by simp[h],rfl⟩
 ·have h':decide (0≤n)=false:=by simpa using h
  rw[h'];go_enter func182,ntmps182;go_wp2;go_ret;exact⟨rfl,rfl⟩
def nf (n:Int):Value:= .agg #[V Z (ae.ag n), V Z (ae.ofM n), V Z (ae.ar n), V Z n, V Z ((n+3)%7)]
theorem zJ (n:Int)(w:ι)(h0:0≤n)(h1:n<84006):
 μ prog 183 #[V Z n] w fun e w'=>e= δ (nf n)∧Below w.heap.size w w':=by
 go_enter func183,ntmps183;go_wp2;go_loopw [0] (fun t wr=>∃y:Int,1970≤y∧ae.num y 1 1≤n∧t= V Z (n - ae.num y 1 1)∧wr=(w.alloc (ζ #[V Z 0, V Z 0, V Z 0, V Z 0, V Z 0] 236)).alloc (ζ #[V Z y, V Z 1, V Z 0, V Z n, V Z ((n+3)%7)] 236)) (fun t _=>(intOf t).toNat)
 case atStart=>exact⟨1970,by omega,by rw[ae.nD];exact h0,by rw[ae.nD];simp,rfl⟩
 case round=>
  obtain⟨y,y0,y1,rfl,rfl⟩:=hrel;have hy:=ae.N5 y1 h1;have kt:=ae.xV y;have hj:=ae.pt y y0 (by omega);by_cases hc:ae.yd y≤n - ae.num y 1 1
  ·have hs:=ae.iN y;have HS:=ad hs;clear hs;go_wp2_with (go_at_call 233;refine(oa _ _ (by omega) (by omega)).mono ?_;rintro e w' ⟨rfl,rfl⟩);go_roundw
   case rel=>exact⟨y+1,by omega,by rw[HS.out];omega,by rw[HS.out];go_num,rfl⟩
   case measure=>simp[intOf];omega
  ·go_wp2_with (go_at_call 233;refine(oa _ _ (by omega) (by omega)).mono ?_;rintro e w' ⟨rfl,rfl⟩);go_loopw [0] (fun t wr=>∃m:Int,1≤m∧m≤12∧ae.num y m 1≤n∧t= V Z (n - ae.num y m 1)∧wr=(w.alloc (ζ #[V Z 0, V Z 0, V Z 0, V Z 0, V Z 0] 236)).alloc (ζ #[V Z y, V Z m, V Z 0, V Z n, V Z ((n+3)%7)] 236)) (fun t _=>(intOf t).toNat)
   case atStart=>exact⟨1,by omega,by omega,y1,rfl,rfl⟩
   case round=>
    obtain⟨m,m0,m1,m2,rfl,rfl⟩:=hrel;have N6:=ae.fS y m;have hmj:=ae.uB y m y0 (by omega) m0 m1;by_cases hm:ae.md y m≤n - ae.num y m 1
    ·have ay:=ae.UX m0 m1 (by omega) hm;have hs:=ae.ks y m m0 (by omega);have HS:=ad hs;clear hs;go_wp2_with (go_at_call 180;refine(ij _ _ _ (by omega) (by omega)).mono ?_;rintro e w' ⟨rfl,rfl⟩);go_roundw
     case rel=>exact⟨m+1,by omega,by omega,by rw[HS.out];omega,by rw[HS.out];go_num,rfl⟩
     case measure=>simp[intOf];omega
    ·have ho:=ae.UY (y:=y) m0 m1 h0 (by omega) (by omega);have HO:=ad ho;clear ho;go_wp2_with (go_at_call 180;refine(ij _ _ _ (by omega) (by omega)).mono ?_;rintro e w' ⟨rfl,rfl⟩);exact bodyPost_ret (v:= .agg #[V Z y, V Z m, V Z (n - ae.num y m 1+1), V Z n, V Z ((n+3)%7)]) (by simp[results,results183,go_sem]) rfl ⟨by unfold nf;rw[HO.out.1,HO.out.2.1,HO.out.2.2],((Below.refl _ _).alloc (Nat.le_refl _) _).alloc (by simp) _⟩
theorem UZ (w:ι)(x:Int):
 (convert 72 9 (.slice (some ⟨w.heap.size,0,none⟩) 1 1)).run prog (w.alloc (ζ #[.int .u8 x] 5))= .ok (ε ⟨#[ν x.toNat]⟩) (w.alloc (ζ #[.int .u8 x] 5)):=by
 rw[run_convert_bytes_string _ _ _ 5 _ _ _ underlying72 underlying5 underlying9];rw[run_bytesToString _ _ _ _ [x] (by simp[loadCells,go_sem])];rfl
def pad:Nat→Int→List UInt8
 |0,_=>[]
 |k+1,n=>pad k (n/10)++[ν (48+n%10).toNat]
theorem oe (k:Nat):∀n,(pad k n).length=k:=by
 induction k with
 |zero=>intro n;rfl
 |succ k ih=>intro n;simp[pad,ih]
theorem og (a b:List UInt8):(⟨a.toArray⟩:ByteArray)++⟨b.toArray⟩=⟨(a++b).toArray⟩:=by
 apply ByteArray.ext;simp
theorem qf {a b:ByteArray}(h:a=b):Value.string a=Value.string b:=by rw[h]
theorem nG {a b:ByteArray}(h:a=b):Ending.returned (ε a)= δ (ε b):=by rw[h]
theorem U0 (size k:Nat)(q:Int)(l r:List UInt8)(hk:k<size)(h:pad (size - k) q++l=r):
 pad (size - (k+1)) (q/10)++(ν (48+q%10).toNat::l)=r:=by
 rw[←h,show size - k=(size - (k+1))+1 from by omega];simp[pad]
theorem Ei (n:Int)(size:Nat)(w:ι)(h0:0≤n)(h1:n≤10000000)(h2:size≤10):
 μ prog 184 #[V Z n, V Z size] w fun e w'=>e= δ (ε ⟨(pad size n).toArray⟩)∧Below w.heap.size w w':=by
 have hcv:=UZ;go_enter func184,ntmps184;go_wp2;go_loopw [0,5,6] (fun t s i wr=>∃(k:Nat) (q:Int) (l:List UInt8),k≤size∧0≤q∧q≤10000000∧t= V Z q∧i= V Z k∧s= ε ⟨l.toArray⟩∧l.length≤k∧Hid (pad (size - k) q++l=pad size n)∧Below w.heap.size w wr) (fun _ _ i _=>size - (intOf i).toNat)
 case atStart=>exact⟨0,n,[],by omega,h0,h1,rfl,rfl,rfl,by simp,by simp[Hid],Below.refl _ _⟩
 case round=>
  obtain⟨k,q,l,k0,q0,q1,rfl,rfl,rfl,hl,HP,hb⟩:=hrel;by_cases ay:k<size
  ·go_wp2;refine⟨⟨k+1,q/10,ν (48+q%10).toNat::l,by omega,by omega,by omega,rfl,by go_num,qf (og [_] l),by simp;omega,U0 size k q l _ ay HP.out,?_⟩,by simp[intOf];omega⟩;exact hb.alloc hb.size _
  ·have hk:size - k=0:=by omega
   have HP':pad (size - k) q++l=pad size n:=HP.out;rw[hk]at HP';have HQ:Hid (l=pad size n):=HP';clear hk HP HP';go_wp2;go_ret;exact⟨nG (by rw[HQ.out]),hb⟩
def ez (c:UInt8):Bool:=decide (48≤(c.toNat:Int))&&decide ((c.toNat:Int)≤57)
def iO (l:List UInt8):Int:=l.foldl (fun v c=>10 * v+((c.toNat:Int) - 48)) 0
def bF (l:List UInt8):Int:=if l.all ez then iO l else -1
def cut (s:ByteArray)(at_ n:Nat):List UInt8:=(s.data.toList.drop at_).take n
theorem G8 (l:List UInt8)(c:UInt8):iO (l++[c])=10 * iO l+((c.toNat:Int) - 48):=by
 simp[iO,List.foldl_append]
theorem pw (c:UInt8):ez c=true↔(48≤(c.toNat:Int)∧(c.toNat:Int)≤57):=by simp[ez]
theorem ZH (l:List UInt8):∀v:Int,0≤v→l.all ez=true→
 0≤l.foldl (fun v c=>10 * v+((c.toNat:Int) - 48)) v∧l.foldl (fun v c=>10 * v+((c.toNat:Int) - 48)) v<(v+1) * 10^l.length:=by
 induction l with
 |nil=>intro v h _;simp;exact⟨h,by omega⟩
 |cons c l ih=>
  intro v h hd;simp only[List.all_cons,Bool.and_eq_true]at hd;have hc:=(pw c).1 hd.1;have:=ih (10 * v+((c.toNat:Int) - 48)) (by omega) hd.2;simp only[List.foldl_cons,List.length_cons];refine⟨this.1,Int.lt_of_lt_of_le this.2 ?_⟩;rw[Int.pow_succ,Int.mul_comm (10^l.length) 10,←Int.mul_assoc];exact Int.mul_le_mul_of_nonneg_right (by omega) (Int.pow_nonneg (by omega))
theorem ZI (l:List UInt8)(h:l.all ez=true):0≤iO l∧iO l<10^l.length:=by
 have:=ZH l 0 (by omega) h;simpa[iO]using this
theorem nH (l:List UInt8)(k:Nat)(hk:l.length≤k)(h:l.all ez=true):0≤iO l∧iO l<10^k:=by
 have:=ZI l h;refine⟨this.1,Int.lt_of_lt_of_le this.2 ?_⟩;have:(10:Nat)^l.length≤10^k:=Nat.pow_le_pow_right (by omega) hk;have:=Int.ofNat_le.2 this;simpa using this
theorem px (s:ByteArray)(a k:Nat)(h:a+k<s.size):cut s a (k+1)=cut s a k++[s[a+k]]:=by
 unfold cut;rw[List.take_succ_eq_append_getElem (by simp;omega)];simp;rfl
theorem kF (s:ByteArray)(a k:Nat)(h:a+k≤s.size):(cut s a k).length=k:=by
 unfold cut;simp;have:s.data.size=s.size:=rfl;omega
theorem N7 (s:ByteArray)(a n k:Nat)(hk:k<n)(h:a+n≤s.size):(cut s a n)[k]?=some (s[a+k]'(by omega)):=by
 have e:s.data.size=s.size:=rfl;unfold cut;rw[List.getElem?_take_of_lt hk,List.getElem?_drop,ξ,η (by omega)];rfl
theorem U4 (s:ByteArray)(a n k:Nat)(hk:k<n)(h:a+n≤s.size)(hd:ez (s[a+k]'(by omega))=false):bF (cut s a n)=-1:=by
 have hm:=List.mem_of_getElem? (N7 s a n k hk h);unfold bF;rw[if_neg];intro q;have:=List.all_eq_true.1 q _ hm;rw[hd]at this;cases this
theorem xW (s:ByteArray)(at_ n:Int)(w:ι)(hs:s.size≤maxLen)(h0:0≤at_)(h1:0≤n)(h2:n≤7)(h3:at_+n≤s.size):
 μ prog 179 #[ε s, V Z at_, V Z n] w fun e w'=>e= δ (V Z (bF (cut s at_.toNat n.toNat)))∧w=w':=by
 unfold maxLen at hs;obtain⟨a,rfl⟩:=θ h0;obtain⟨m,rfl⟩:=θ h1;rw[Int.toNat_natCast,Int.toNat_natCast];go_enter func179,ntmps179;go_wp2;go_loop [7,8] (fun v i=>∃k:Nat,k≤m∧i= V Z ((a+k:Nat):Int)∧v= V Z (iO (cut s a k))∧Hid ((cut s a k).all ez=true)) (fun _ i=>a+m - (intOf i).toNat)
 case atStart=>exact⟨0,by omega,rfl,rfl,rfl⟩
 case round=>
  obtain⟨k,k0,rfl,rfl,HD⟩:=hrel;have hb:=nH (cut s a k) 7 (by rw[kF s a k (by omega)];omega) HD.out;by_cases ay:k<m
  ·have bu:a+k<s.size:=by omega
   have B3:=px s a k bu;by_cases hd:ez s[a+k]=true
   ·have Kj:=(pw _).1 hd;have HD2:Hid ((cut s a (k+1)).all ez=true):=by
     rw[B3];simp[HD.out,hd,Hid]
    have HV:Hid (iO (cut s a (k+1))=10 * iO (cut s a k)+((s[a+k].toNat:Int) - 48)):=by
     rw[B3];exact G8 _ _
    clear hd B3;go_wp2;exact⟨⟨k+1,by omega,by go_num,by rw[HV.out],HD2⟩,by simp[intOf];omega⟩
   ·have zK:ez s[a+k]=false:=by simpa using hd
    have HB:=ad (U4 s a m k ay (by omega) zK);clear zK B3 HD;have hc:(s[a+k].toNat:Int)<48∨57<(s[a+k].toNat:Int):=by
     have:=mt (pw s[a+k]).2 hd;omega
    clear hd;rcases hc with hc|hc
    ·go_wp2;go_ret;exact⟨nE (by rw[HB.out]),rfl⟩
    ·have N8:¬(s[a+k].toNat:Int)<48:=by omega
     go_wp2;go_ret;exact⟨nE (by rw[HB.out]),rfl⟩
  ·have hk:k=m:=by omega
   subst hk;go_wp2;go_ret;exact⟨nE (by unfold bF;rw[if_pos HD.out]),rfl⟩
def fQ (s:ByteArray)(i:Nat):Int:=((s.data[i]?.getD 0).toNat:Int)
theorem bb (s:ByteArray)(i:Nat)(h:i<s.size):((s[i]'h).toNat:Int)=fQ s i:=by
 have e:s.data.size=s.size:=rfl;unfold fQ;rw[η (by omega)];rfl
def la (s:ByteArray):Prop:=
 s.size=16∧fQ s 8=84∧fQ s 15=90∧1970≤bF (cut s 0 4)∧bF (cut s 0 4)≤2199∧
 ae.Valid (bF (cut s 0 4)) (bF (cut s 4 2)) (bF (cut s 6 2))∧
 0≤bF (cut s 9 2)∧bF (cut s 9 2)≤23∧0≤bF (cut s 11 2)∧bF (cut s 11 2)≤59∧0≤bF (cut s 13 2)∧bF (cut s 13 2)≤59
def eI (s:ByteArray):Int:=
 ae.num (bF (cut s 0 4)) (bF (cut s 4 2)) (bF (cut s 6 2)) * 86400+bF (cut s 9 2) * 3600+bF (cut s 11 2) * 60+bF (cut s 13 2)
def fs (s:ByteArray):Bool:=decide (
 s.size=16∧fQ s 8=84∧fQ s 15=90∧1970≤bF (cut s 0 4)∧bF (cut s 0 4)≤2199∧
 (1≤bF (cut s 4 2)∧bF (cut s 4 2)≤12∧1≤bF (cut s 6 2)∧bF (cut s 6 2)≤ae.md (bF (cut s 0 4)) (bF (cut s 4 2)))∧
 0≤bF (cut s 9 2)∧bF (cut s 9 2)≤23∧0≤bF (cut s 11 2)∧bF (cut s 11 2)≤59∧0≤bF (cut s 13 2)∧bF (cut s 13 2)≤59)
theorem eA {s:ByteArray}:fs s=true↔la s:=by
 unfold fs la ae.Valid;exact decide_eq_true_iff
def lM (s:ByteArray):Value:=if fs s=true then .tuple #[V Z (eI s), V Z 0]else .tuple #[V Z 0, V Z 1]
theorem ju {s:ByteArray}(h:la s):lM s= .tuple #[V Z (eI s), V Z 0]:=by unfold lM;rw[if_pos (eA.2 h)]
theorem iC {s:ByteArray}(h:¬la s):lM s= .tuple #[V Z 0, V Z 1]:=by unfold lM;rw[if_neg (fun e=>h (eA.1 e))]
theorem N9 (l:List UInt8)(k:Nat)(hk:l.length≤k):-1≤bF l∧bF l<10^k:=by
 unfold bF;split
 ·have:=nH l k hk ‹_›;omega
 ·have:(0:Int)<10^k:=Int.pow_pos (by omega);omega
theorem wO {y m d:Int}(h0:1970≤y)(h1:y≤2199)(v:ae.Valid y m d):0≤ae.num y m d∧ae.num y m d<84006:=by
 have a:=ae.rQ v;have b:=ae.pt y h0 (by omega);have c:=ae.fp (y+1) (2199 - y).toNat;rw[show y+1+((2199 - y).toNat:Int)=2200 from by omega,ae.pr]at c;omega
theorem lN (s:ByteArray)(w:ι)(hs:s.size≤maxLen):
 μ prog 107 #[ε s] w fun e w'=>e= δ (lM s)∧w=w':=by
 by_cases hz:s.size=16
 case neg=>
  have hv:=iC (s:=s) (fun h=>hz h.1);rw[hv];have Kk:((s.size:Int)!=16)=true:=by rw[bne_iff_ne];omega
  clear hz hv;go_enter func107,ntmps107;go_wp2;go_ret2;exact⟨rfl,rfl⟩
 case pos=>
  have Kk:((s.size:Int)!=16)=false:=by simp[hz]
  have z1:15<s.size:=by omega
  have HZ:=ad hz;clear hz;have e8:=bb s 8 (by omega);have zd:=bb s 15 (by omega);by_cases h8:fQ s 8=84
  case neg=>
   have hv:=iC (s:=s) (fun h=>h8 h.2.1);rw[hv];have G9:(((s[8]'(by omega)).toNat:Int)!=84)=true:=by rw[bne_iff_ne,e8];exact h8
   clear hv h8 e8 zd;go_enter func107,ntmps107;go_wp2;go_ret2;exact⟨rfl,rfl⟩
  case pos=>
   have G9:(((s[8]'(by omega)).toNat:Int)!=84)=false:=by rw[e8,h8];rfl
   by_cases iP:fQ s 15=90
   case neg=>
    have hv:=iC (s:=s) (fun h=>iP h.2.2.1);rw[hv];have Dm:(((s[15]'(by omega)).toNat:Int)!=90)=true:=by rw[bne_iff_ne,zd];exact iP
    clear hv h8 iP e8 zd;go_enter func107,ntmps107;go_wp2;go_ret2;exact⟨rfl,rfl⟩
   case pos=>
    have Dm:(((s[15]'(by omega)).toNat:Int)!=90)=false:=by rw[zd,iP];rfl
    have H8:=ad h8;have H15:=ad iP;clear h8 iP e8 zd;go_enter func107,ntmps107;have N6:=ae.fS (bF (cut s 0 4)) (bF (cut s 4 2));go_wp2_with (first
     |(go_at_call 179;refine(xW s _ _ _ hs (by omega) (by omega) (by omega) (by omega)).mono ?_;rintro e w' ⟨rfl,rfl⟩)
     |(go_at_call 180;refine(ij _ _ _ (by omega) (by omega)).mono ?_;rintro e w' ⟨rfl,rfl⟩)
     |(go_at_call 181;refine(oc _ _ _ _ (by omega) (by omega) (by omega) (by omega) (by omega) (by omega)).mono ?_;rintro e w' ⟨rfl,rfl⟩;have hn:=wO (y:=bF (cut s 0 4)) (m:=bF (cut s 4 2)) (d:=bF (cut s 6 2)) (by omega) (by omega) ⟨by omega,by omega,by omega,by omega⟩))
    all_goals go_ret2
    all_goals refine⟨?_,rfl⟩
    all_goals by_cases hT:la s
    all_goals first|rw[ju hT]|rw[iC hT]
    all_goals first
     |rfl
     |(exfalso;obtain⟨_,_,_,a1,a2,⟨a3,a4,a5,a6⟩,a7,a8,a9,a10,a11,a12⟩:=hT;omega)
     |(exfalso;exact hT ⟨HZ.out,H8.out,H15.out,by omega,by omega,⟨by omega,by omega,by omega,by omega⟩,by omega,by omega,by omega,by omega,by omega,by omega⟩)
open Go.RowKit Go.Sort
theorem Rk {n:Int}(h0:0≤n)(h1:n<84006):1970≤ae.ag n∧ae.ag n≤2199∧ae.Valid (ae.ag n) (ae.ofM n) (ae.ar n):=by
 have v:=ae.eT n (by omega);have e:=ae.gP n (by omega);have i:=ae.rQ v;refine⟨?_,?_,v⟩
 ·by_cases q:1970≤ae.ag n
  ·exact q
  ·have:=ae.fp (ae.ag n+1) (1970 - ae.ag n - 1).toNat;rw[show ae.ag n+1+((1970 - ae.ag n - 1).toNat:Int)=1970 from by omega,ae.nD]at this;omega
 ·by_cases q:ae.ag n≤2199
  ·exact q
  ·have:=ae.fp 2200 (ae.ag n - 2200).toNat;rw[show 2200+((ae.ag n - 2200).toNat:Int)=ae.ag n from by omega,ae.pr]at this;omega
def lf (n:Int):List UInt8:=
 pad 4 (ae.ag (n/86400))++pad 2 (ae.ofM (n/86400))++pad 2 (ae.ar (n/86400))++[84]++pad 2 (n%86400/3600)++pad 2 (n%86400/60%60)++pad 2 (n%86400%60)++[90]
def gQ (n:Int):Value:=if cD n then .tuple #[ε ⟨(lf n).toArray⟩, V Z 0]else .tuple #[ε ⟨#[]⟩, V Z 1]
theorem Ha (n:Int):(⟨(pad 4 (ae.ag (n/86400))).toArray⟩:ByteArray)++⟨(pad 2 (ae.ofM (n/86400))).toArray⟩++⟨(pad 2 (ae.ar (n/86400))).toArray⟩++⟨#[84]⟩++
 ⟨(pad 2 (n%86400/3600)).toArray⟩++⟨(pad 2 (n%86400/60%60)).toArray⟩++⟨(pad 2 (n%60)).toArray⟩++⟨#[90]⟩=⟨(lf n).toArray⟩:=by
 unfold lf;rw[show n%86400%60=n%60 from by omega];simp only[og]
theorem Rl (W:ι)(n size:Int)(d:Nat)(os:Array Obj)(h0:0≤n)(h1:n≤10000000)(h2:0≤size)(h3:size≤10):
 μ prog 184 #[V Z n, V Z size] (grow (redrawn W d) os) fun e aA=>e= δ (ε ⟨(pad size.toNat n).toArray⟩)∧∃p:Regrown,aA=grow (redrawn W p.d) p.os:=by
 obtain⟨k,rfl⟩:=θ h2;exact Calls.regrown_of (Ei n k _ h0 h1 (by omega))
theorem sx (n:Int)(w:ι):
 μ prog 109 #[V Z n] w fun e w'=>e= δ (gQ n)∧Below w.heap.size w w':=by
 cases ht:cD n
 ·have hv:gQ n= .tuple #[ε ⟨#[]⟩, V Z 1]:=by unfold gQ;rw[ht];rfl
  rw[hv];clear hv;go_enter func109,ntmps109;go_wp2_with (go_at_call 182;refine(ri _ _).mono ?_;rintro e w' ⟨rfl,rfl⟩);go_ret2;exact⟨rfl,Below.refl _ _⟩
 ·have hv:gQ n= .tuple #[ε ⟨(lf n).toArray⟩, V Z 0]:=by unfold gQ;rw[ht];rfl
  rw[hv];have hb:0≤n∧n<7258118400:=by simpa[cD]using ht
  have hd:=Rk (n:=n/86400) (by omega) (by omega);obtain⟨d1,d2,d3,d4,d5,d6⟩:=hd;have hm:=ae.fS (ae.ag (n/86400)) (ae.ofM (n/86400));clear hv;go_enter func109,ntmps109;go_wp2_with (first
   |(go_at_call 182;refine(ri _ _).mono ?_;rintro e w' ⟨rfl,rfl⟩)
   |(go_at_call 183;refine(zJ _ _ (by omega) (by omega)).mono ?_;rintro e w1 ⟨rfl,ai⟩;unfold nf))
  have bu:=ai.size;have ah:Below w.heap.size w (w1.alloc (ζ #[V Z (ae.ag (n/86400)), V Z (ae.ofM (n/86400)), V Z (ae.ar (n/86400)), V Z (n/86400), V Z ((n/86400+3)%7)] 236)):=ai.alloc ai.size _;have c0:(w1.alloc (ζ #[V Z (ae.ag (n/86400)), V Z (ae.ofM (n/86400)), V Z (ae.ar (n/86400)), V Z (n/86400), V Z ((n/86400+3)%7)] 236)).cell? ⟨w1.heap.size,0,none⟩=some (V Z (ae.ag (n/86400))):=by simp[go_sem]
  have c1:(w1.alloc (ζ #[V Z (ae.ag (n/86400)), V Z (ae.ofM (n/86400)), V Z (ae.ar (n/86400)), V Z (n/86400), V Z ((n/86400+3)%7)] 236)).cell? ⟨w1.heap.size,1,none⟩=some (V Z (ae.ofM (n/86400))):=by simp[go_sem]
  have c2:(w1.alloc (ζ #[V Z (ae.ag (n/86400)), V Z (ae.ofM (n/86400)), V Z (ae.ar (n/86400)), V Z (n/86400), V Z ((n/86400+3)%7)] 236)).cell? ⟨w1.heap.size,2,none⟩=some (V Z (ae.ar (n/86400))):=by simp[go_sem]
  generalize(w1.alloc (ζ #[V Z (ae.ag (n/86400)), V Z (ae.ofM (n/86400)), V Z (ae.ar (n/86400)), V Z (n/86400), V Z ((n/86400+3)%7)] 236))=W at *
  have k0:=cell_regrown c0;have k1:=cell_regrown c1;have k2:=cell_regrown c2;clear c0 c1 c2 ai bu;have hl:=oe;refine wp_region_quiet_below (by kernel_rfl) (by kernel_rfl) ?_
  repeat(go_big_quiet_step (first|exact Rl W _ _ _ _ (by omega) (by omega) (by omega) (by omega)))
  refine wpQuiet_nil ?_;intro _ fF;obtain⟨⟨dq,gj⟩,eU⟩:=fF;subst eU;go_wp2;go_ret2;refine⟨?_,ah.trans ((below_regrown W dq gj).mono ah.size)⟩;exact congrArg (fun s=>Ending.returned (.tuple #[ε s, V Z 0])) (Ha n)
def kG (l:List UInt8):Bool:=decide (1≤l.length)&&decide (l.length≤7)&&!(l.head?==some 48&&decide (1<l.length))
def bU (l:List UInt8):Int:=if kG l then bF l else 0
def cO (l:List UInt8):Bool:=kG l&&decide (0≤bF l)
theorem FR (s:ByteArray):cut s 0 s.size=s.data.toList:=by
 unfold cut;have e:s.data.size=s.size:=rfl;rw[List.drop_zero,List.take_of_length_le (by rw[ο];omega)]
theorem U5 (s:ByteArray)(h:0<s.size):(s.data.toList.head?=some 48)↔((s[0]'h).toNat:Int)=48:=by
 have e:s.data.size=s.size:=rfl;have:s.data.toList.head?=some (s[0]'h):=by
  rw[List.head?_eq_getElem?,ξ,η (by omega)];rfl
 rw[this];constructor
 ·intro q;have:=Option.some.inj q;rw[this];rfl
 ·intro q;congr 1;apply UInt8.toNat_inj.1;show _=48;omega
theorem qG (s:ByteArray)(w:ι)(hs:s.size≤maxLen):
 μ prog 185 #[ε s, V Z 7] w fun e w'=>e= δ (.tuple #[V Z (bU s.data.toList), .bool (cO s.data.toList)])∧w=w':=by
 have hl:s.data.toList.length=s.size:=by rw[ο];rfl
 unfold bU cO kG;by_cases h1:s.size<1
 ·have e:(decide (1≤s.data.toList.length))=false:=by rw[hl];exact decide_eq_false (by omega)
  simp only[e,π];have zc:(s.size:Int)<1:=by omega
  clear e hl;go_enter func185,ntmps185;go_wp2;go_ret2;exact⟨rfl,rfl⟩
 have e1:(decide (1≤s.data.toList.length))=true:=by rw[hl];exact decide_eq_true (by omega)
 by_cases h7:7<s.size
 ·have e:(decide (s.data.toList.length≤7))=false:=by rw[hl];exact decide_eq_false (by omega)
  simp only[e,e1,π,κ];have zc:¬(s.size:Int)<1:=by omega
  have Oa:7<(s.size:Int):=by omega
  clear e e1 hl;go_enter func185,ntmps185;go_wp2;go_ret2;exact⟨rfl,rfl⟩
 have e7:(decide (s.data.toList.length≤7))=true:=by rw[hl];exact decide_eq_true (by omega)
 have z0:0<s.size:=by omega
 have hh:=U5 s z0;have zc:¬(s.size:Int)<1:=by omega
 have Oa:¬7<(s.size:Int):=by omega
 have hc:=FR s;by_cases h0:((s[0]'z0).toNat:Int)=48
 ·by_cases h2:1<s.size
  ·have e:(s.data.toList.head?==some 48&&decide (1<s.data.toList.length))=true:=by rw[hl];simp[hh.2 h0,h2]
   simp only[e,e1,e7,κ,Bool.not_true];have B4:1<(s.size:Int):=by omega
   have Xy:(((s[0]'z0).toNat:Int)==48)=true:=by simp[h0]
   clear e e1 e7 hl hh h0 hc;go_enter func185,ntmps185;go_wp2;go_ret2;exact⟨rfl,rfl⟩
  ·have e:(s.data.toList.head?==some 48&&decide (1<s.data.toList.length))=false:=by rw[hl];simp[h2]
   simp only[e,e1,e7,κ,Bool.not_false];have B4:¬1<(s.size:Int):=by omega
   have Xy:(((s[0]'z0).toNat:Int)==48)=true:=by simp[h0]
   rw[←hc];clear e e1 e7 hl hh h0 hc;go_enter func185,ntmps185;go_wp2_with (go_at_call 179;refine(xW s _ _ _ hs (by omega) (by omega) (by omega) (by omega)).mono ?_;rintro e w' ⟨rfl,rfl⟩);go_ret2;exact⟨rfl,rfl⟩
 ·have e:(s.data.toList.head?==some 48&&decide (1<s.data.toList.length))=false:=by
   have:¬s.data.toList.head?=some 48:=fun q=>h0 (hh.1 q);simp[this]
  simp only[e,e1,e7,κ,Bool.not_false];have Xy:(((s[0]'z0).toNat:Int)==48)=false:=by simp[h0]
  rw[←hc];clear e e1 e7 hl hh h0 hc;go_enter func185,ntmps185;go_wp2_with (go_at_call 179;refine(xW s _ _ _ hs (by omega) (by omega) (by omega) (by omega)).mono ?_;rintro e w' ⟨rfl,rfl⟩);go_ret2;exact⟨rfl,rfl⟩
end Go.Proofs.YthpndgcaoeokeaaGreatDoor
