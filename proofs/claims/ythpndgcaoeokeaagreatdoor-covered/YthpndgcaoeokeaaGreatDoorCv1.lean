import Derived.Test.YthpndgcaoeokeaaGreatDoorProg
import Derived.Test.YthpndgcaoeokeaaGreatDoorShelf
import Derived.WalkKit
import Derived.WalkSpells
import Derived.WalkLawsBesides
import Derived.Deep.QuietTactic
import Derived.BigQuiet
import Derived.Lib.QuietBelow
import Derived.Lib.SlicesS
import Derived.Deep.AppendLies
import Derived.RangeFuncNested
import Derived.RangeFuncBound
import Derived.Laws.Panics
import Derived.ChangeKeysEq
import Derived.Deep.RegionHeld3
import Derived.Deep.DrawnRows
import Derived.Defers
import Derived.Recover
import Derived.Lib.AppendIntMem
set_option maxRecDepth 100000
set_option maxHeartbeats 8000000
namespace Go.Proofs.YthpndgcaoeokeaaGreatDoor.ag
def lp (y:Int):Bool:=y%4==0&&(y%100 !=0||y%400==0)
def md (y m:Int):Int:=
 if m=4\/m=6\/m=9\/m=11 then 30 else if m=2 then(if lp y then 29 else 28)else 31
def yd (y:Int):Int:=if lp y then 366 else 365
def ty (y:Int):Int:=y*365+y/4-y/100+y/400
def tm (m:Int):Int:=(m*153+2)/5
def num (y m d:Int):Int:=
 if m-3<0 then ty (y-1)+tm (m-3+12)+d-1-719468 else ty y+tm (m-3)+d-1-719468
def yr (l:Int):Int:=if ty (l*400/146097+1)<=l then l*400/146097+1 else l*400/146097
def mo (r:Int):Int:=(r*5+2)/153
def aq (n:Int):Int:=
 if mo (n+719468-ty (yr (n+719468)))+3>12 then yr (n+719468)+1 else yr (n+719468)
def ofM (n:Int):Int:=
 if mo (n+719468-ty (yr (n+719468)))+3>12 then mo (n+719468-ty (yr (n+719468)))+3-12 else mo (n+719468-ty (yr (n+719468)))+3
def aA (n:Int):Int:=
 n+719468-ty (yr (n+719468))-tm (mo (n+719468-ty (yr (n+719468))))+1
def Valid (y m d:Int):Prop:=1<=m/\m<=12/\1<=d/\d<=md y m
theorem Tw (y:Int):lp y=true↔(y%4=0/\(y%100≠0\/y%400=0)):=by
 simp[lp]
theorem BH (y:Int):ty (y+1)=ty y+365+(if lp (y+1)then 1 else 0):=by
 by_cases h:lp (y+1)=true
 ·have h':=(Tw (y+1)).1 h;simp only[h,if_true];unfold ty;omega
 have h':¬((y+1)%4=0/\((y+1)%100≠0\/(y+1)%400=0)):=λk=>h ((Tw (y+1)).2 k);simp only[h];unfold ty;simp;omega
theorem aiz (l:Int)(_h:0<=l):ty (yr l)<=l:=by
 unfold yr;split
 ·assumption
 unfold ty;omega
theorem aiA (l:Int)(_h:0<=l):l<ty (yr l+1):=by
 unfold yr;split
 ·unfold ty;omega
 omega
theorem aiB (l:Int)(h:0<=l)(A:l<=3000000):0<=yr l/\yr l<=8300:=by
 unfold yr;split<;>omega
theorem K3 (l:Int)(h:0<=l):0<=l-ty (yr l)/\l-ty (yr l)<=365/\(l-ty (yr l)=365->lp (yr l+1)=true):=by
 have a:=aiz l h;have b:=aiA l h;have c:=BH (yr l);by_cases e:lp (yr l+1)=true
 ·simp only[e,if_true]at c;exact⟨by omega,by omega,λ_=>e⟩
 simp only[e]at c;simp at c;refine⟨by omega,by omega,λq=>by omega⟩
theorem Rx (r:Int)(h:0<=r)(A:r<=365):0<=mo r/\mo r<=11/\tm (mo r)<=r/\r<tm (mo r+1):=by
 unfold mo tm;omega
theorem lj (n:Int)(h:0<=n+719468):Valid (aq n) (ofM n) (aA n):=by
 have hr:=K3 _ h;unfold aq ofM aA Valid;generalize N:n+719468-ty (yr (n+719468))=r at *
 have hm:=Rx r hr.1 hr.2.1;obtain⟨m0,m1,m2,m3⟩:=hm;have I:mo r=0\/mo r=1\/mo r=2\/mo r=3\/mo r=4\/mo r=5\/mo r=6\/mo r=7\/mo r=8\/mo r=9\/mo r=10\/mo r=11:=by omega
 rcases I with k|k|k|k|k|k|k|k|k|k|k|k<;>rw[k]at m2 m3⊢<;>simp[tm]at m2 m3⊢<;>simp[md]<;>try omega
 by_cases e:lp (yr (n+719468)+1)=true
 ·simp only[e];simp;omega
 simp only[e];simp;have:r≠365:=λq=>e (hr.2.2 q);omega
theorem nV (n:Int)(h:0<=n+719468):num (aq n) (ofM n) (aA n)=n:=by
 have hr:=K3 _ h;unfold aq ofM aA num;have hm:=Rx _ hr.1 hr.2.1;generalize N:n+719468-ty (yr (n+719468))=r at *
 obtain⟨m0,m1,m2,m3⟩:=hm;by_cases c:mo r+3>12
 ·simp only[c,if_true];rw[if_pos (by omega)];rw[show yr (n+719468)+1-1=yr (n+719468)from by omega,show mo r+3-12-3+12=mo r from by omega];omega
 simp only[c,if_false];rw[if_neg (by omega)];rw[show mo r+3-3=mo r from by omega];omega
theorem ua (y:Int):num (y+1) 1 1=num y 1 1+yd y:=by
 have:=BH (y-1);rw[show y-1+1=y from by omega]at this;unfold num yd;simp only[show(1:Int)-3<0 from by omega,if_true];rw[show y+1-1=y from by omega,this];by_cases e:lp y=true
 ·simp only[e];simp;omega
 simp only[e];simp;omega
theorem sh (y m:Int)(G:1<=m)(A:m<=11):num y (m+1) 1=num y m 1+md y m:=by
 have:=BH (y-1);rw[show y-1+1=y from by omega]at this;have I:m=1\/m=2\/m=3\/m=4\/m=5\/m=6\/m=7\/m=8\/m=9\/m=10\/m=11:=by omega
 rcases I with k|k|k|k|k|k|k|k|k|k|k<;>subst k<;>simp[num,md,tm]<;>try omega
 rw[this];by_cases e:lp y=true
 ·simp only[e];simp;omega
 simp only[e];simp;omega
theorem oU (y m d:Int):num y m d=num y m 1+d-1:=by
 unfold num;split<;>omega
theorem rJ (y m:Int):28<=md y m/\md y m<=31:=by
 unfold md;split
 ·omega
 split
 ·split<;>omega
 omega
theorem lI (y:Int)(k:Nat):num y 1 1+365*k<=num (y+k) 1 1:=by
 induction k with
 |zero=>simp
 |succ k ih=>
  have:=ua (y+k);have hy:365<=yd (y+k):=by unfold yd;split<;>omega
  rw[show y+((k+1:Nat):Int)=y+k+1 from by omega];omega
theorem aep (y:Int):md y 12=31:=by simp[md]
theorem BI (y:Int):num (y+1) 1 1=num y 12 1+31:=by
 simp[num,tm];omega
theorem qH (y m:Int)(k:Nat)(G:1<=m)(A:m+k<=12):num y m 1+28*k<=num y (m+k) 1:=by
 induction k with
 |zero=>simp
 |succ k ih=>
  have:=sh y (m+k) (by omega) (by omega);have U:=rJ y (m+k);have:=ih (by omega);rw[show m+((k+1:Nat):Int)=m+k+1 from by omega];omega
theorem wZ {y m d:Int}(v:Valid y m d):num y 1 1<=num y m d/\num y m d<num (y+1) 1 1:=by
 obtain⟨a,b,c,e⟩:=v;have G:=oU y m d;constructor
 ·have:=qH y 1 (m-1).toNat (by omega) (by omega);rw[show(1:Int)+((m-1).toNat:Int)=m from by omega]at this;omega
 by_cases q:m=12
 ·subst q;rw[BI,G];have:=aep y;omega
 have A:=sh y m a (by omega);have:=qH y (m+1) (11-m).toNat (by omega) (by omega);rw[show m+1+((11-m).toNat:Int)=12 from by omega]at this;have:=BI y;omega
theorem K6 {y m m' d d':Int}(v:Valid y m d)(v':Valid y m' d')(h:m<m'):num y m d<num y m' d':=by
 obtain⟨a,b,c,e⟩:=v;obtain⟨a',b',c',e'⟩:=v';have G:=oU y m d;have tf:=oU y m' d';have A:=sh y m a (by omega);have:=qH y (m+1) (m'-m-1).toNat (by omega) (by omega);rw[show m+1+((m'-m-1).toNat:Int)=m' from by omega]at this;omega
theorem aaD {y y' m m' d d':Int}(v:Valid y m d)(v':Valid y' m' d')(h:num y m d=num y' m' d'):¬y<y':=by
 intro q;have a:=wZ v;have b:=wZ v';have:=lI (y+1) (y'-y-1).toNat;rw[show y+1+((y'-y-1).toNat:Int)=y' from by omega]at this;omega
theorem inj {y y' m m' d d':Int}(v:Valid y m d)(v':Valid y' m' d')(h:num y m d=num y' m' d'):y=y'/\m=m'/\d=d':=by
 have hy:y=y':=by
  have:=aaD v v' h;have:=aaD v' v h.symm;omega
 subst hy;have hm:m=m':=by
  by_cases a:m<m'
  ·have:=K6 v v' a;omega
  by_cases b:m'<m
  ·have:=K6 v' v b;omega
  omega
 subst hm;have G:=oU y m d;have A:=oU y m d';exact⟨rfl,rfl,by omega⟩
theorem IA {y m d:Int}(hy:1<=y)(hm:0<=m)(hd:0<=d):
 (aq (num y m d)=y/\ofM (num y m d)=m/\aA (num y m d)=d)↔Valid y m d:=by
 have h:0<=num y m d+719468:=by
  unfold num ty tm;split<;>omega
 have v:=lj _ h;constructor
 ·rintro⟨a,b,c⟩;rw[a,b,c]at v;exact v
 intro w;exact inj v w (nV _ h)
theorem IB:num 1970 1 1=0:=by decide
theorem BJ:num 2200 1 1=84006:=by decide
theorem Ry (y:Int):365<=yd y/\yd y<=366:=by unfold yd;split<;>omega
theorem Ow (y:Int)(k:Nat):num (y+k) 1 1<=num y 1 1+366*k:=by
 induction k with
 |zero=>simp
 |succ k ih=>
  have:=ua (y+k);have hy:=Ry (y+k);rw[show y+((k+1:Nat):Int)=y+k+1 from by omega];omega
theorem acA (y:Int)(h0:1970<=y)(G:y<=2200):0<=num y 1 1/\num y 1 1<=84180:=by
 have a:=lI 1970 (y-1970).toNat;have b:=Ow 1970 (y-1970).toNat;rw[show(1970:Int)+((y-1970).toNat:Int)=y from by omega,IB]at a b;omega
end Go.Proofs.YthpndgcaoeokeaaGreatDoor.ag
open Go.IntKind renaming i64->Z
open Go.Value renaming int->V,pointer->ζ,string->η,bool->ρ,string->ω
open Go.Ending renaming returned->δ,panicked->ε
open Go.Obj renaming cells->θ
open Nat renaming le_refl->ι,zero_add->Χ
open Go renaming World->κ,Calls->ξ,Addr->Ε,Ending->Ο,Program->Ρ,PanicEntry->Φ,Act->Ω,TypeId->ϊ,Oper->ϋ
open Go.RowKit.Below renaming refl->μ
open ByteArray renaming size_extract->ν
open Go.AllReady renaming cons->ο,nil->ψ
open Go.Lib renaming decDigits->π
open List renaming mem_cons_of_mem->τ,nil_append->φ,mem_cons_self->Γ,take_succ_eq_append_getElem->Η,eq_nil_of_length_eq_zero->Ι,take_of_length_le->Ν,singleton_append->Ξ,cons_append->Τ,range->Ψ
open Array renaming getElem?_eq_getElem->υ,length_toList->Β
open Bool renaming false_ne_true->χ,and_eq_true->Δ
open Go.Instr renaming makeFunc->Α
open Go.Exit renaming thenS->Ζ
open UInt8 renaming ofNat->Θ
open Go.World renaming drew->Κ,frozen?_alloc_old->Λ,cell?_alloc_past->Μ,setCell->Υ
namespace Go.Proofs.YthpndgcaoeokeaaGreatDoor
open Tryz
open Go.RowKit
theorem H {p:Prop}(h:p):Hid p:=h
theorem acB {k:IntKind}{a b:Int}(h:a=b):Ending.returned (.int k a)=δ (.int k b):=by rw[h]
def cq (n:Int):Bool:=decide (0<=n)&&decide (n<7258118400)
theorem XQ (w:κ)(x:Int):
 (convert 72 9 (.slice (some ⟨w.heap.size,0,none⟩) 1 1)).run prog (w.alloc (θ #[.int .u8 x] 5))=.ok (η ⟨#[Θ x.toNat]⟩) (w.alloc (θ #[.int .u8 x] 5)):=by
 rw[run_convert_bytes_string _ _ _ 5 _ _ _ underlying72 underlying5 underlying9];rw[run_bytesToString _ _ _ _ [x] (by simp[loadCells,go_sem])];rfl
def pad:Nat->Int->List UInt8
 |0,_=>[]
 |k+1,n=>pad k (n/10)++[Θ (48+n%10).toNat]
theorem lk (k:Nat):∀n,(pad k n).length=k:=by
 induction k with
 |zero=>intro n;rfl
 |succ k ih=>intro n;simp[pad,ih]
theorem pz (a b:List UInt8):(⟨a.toArray⟩:ByteArray)++⟨b.toArray⟩=⟨(a++b).toArray⟩:=by
 apply ByteArray.ext;simp
theorem aeq {a b:ByteArray}(h:a=b):ω a=ω b:=by rw[h]
theorem nk {a b:ByteArray}(h:a=b):Ending.returned (η a)=δ (η b):=by rw[h]
def fg (c:UInt8):Bool:=decide (48<=(c.toNat:Int))&&decide ((c.toNat:Int)<=57)
def iC (l:List UInt8):Int:=l.foldl (λv c=>10*v+((c.toNat:Int)-48)) 0
def bP (l:List UInt8):Int:=if l.all fg then iC l else -1
def cut (s:ByteArray)(at_ n:Nat):List UInt8:=(s.data.toList.drop at_).take n
theorem zP (l:List UInt8)(c:UInt8):iC (l++[c])=10*iC l+((c.toNat:Int)-48):=by
 simp[iC,List.foldl_append]
theorem xa (c:UInt8):fg c=true↔(48<=(c.toNat:Int)/\(c.toNat:Int)<=57):=by simp[fg]
theorem acC (l:List UInt8):∀v:Int,0<=v->l.all fg=true->
 0<=l.foldl (λv c=>10*v+((c.toNat:Int)-48)) v/\l.foldl (λv c=>10*v+((c.toNat:Int)-48)) v<(v+1)*10^l.length:=by
 induction l with
 |nil=>intro v h _;simp;exact⟨h,by omega⟩
 |cons c l ih=>
  intro v h hd;simp only[List.all_cons,Δ]at hd;have hc:=(xa c).1 hd.1;have:=ih (10*v+((c.toNat:Int)-48)) (by omega) hd.2;simp only[List.foldl_cons,List.length_cons];refine⟨this.1,Int.lt_of_lt_of_le this.2 ?_⟩;rw[Int.pow_succ,Int.mul_comm (10^l.length) 10,<-Int.mul_assoc];exact Int.mul_le_mul_of_nonneg_right (by omega) (Int.pow_nonneg (by omega))
theorem acD (l:List UInt8)(h:l.all fg=true):0<=iC l/\iC l<10^l.length:=by
 have:=acC l 0 (by omega) h;simpa[iC]using this
theorem qI (l:List UInt8)(k:Nat)(I:l.length<=k)(h:l.all fg=true):0<=iC l/\iC l<10^k:=by
 have:=acD l h;refine⟨this.1,Int.lt_of_lt_of_le this.2 ?_⟩;have:(10:Nat)^l.length<=10^k:=Nat.pow_le_pow_right (by omega) I;have:=Int.ofNat_le.2 this;simpa using this
theorem K8 (s:ByteArray)(a k:Nat)(h:a+k<s.size):cut s a (k+1)=cut s a k++[s[a+k]]:=by
 unfold cut;rw[Η (by simp;omega)];simp;rfl
theorem tB (s:ByteArray)(a k:Nat)(h:a+k<=s.size):(cut s a k).length=k:=by
 unfold cut;simp;have:s.data.size=s.size:=rfl;omega
theorem acE (s:ByteArray)(a n k:Nat)(I:k<n)(h:a+n<=s.size):(cut s a n)[k]?=some (s[a+k]'(by omega)):=by
 have e:s.data.size=s.size:=rfl;unfold cut;rw[List.getElem?_take_of_lt I,List.getElem?_drop,Array.getElem?_toList,υ (by omega)];rfl
def pA (s:ByteArray)(i:Nat):Int:=((s.data[i]?.getD 0).toNat:Int)
theorem tP (s:ByteArray)(i:Nat)(h:i<s.size):((s[i]'h).toNat:Int)=pA s i:=by
 have e:s.data.size=s.size:=rfl;unfold pA;rw[υ (by omega)];rfl
def nW (s:ByteArray):Prop:=
 s.size=16/\pA s 8=84/\pA s 15=90/\1970<=bP (cut s 0 4)/\bP (cut s 0 4)<=2199/\
 ag.Valid (bP (cut s 0 4)) (bP (cut s 4 2)) (bP (cut s 6 2))/\
 0<=bP (cut s 9 2)/\bP (cut s 9 2)<=23/\0<=bP (cut s 11 2)/\bP (cut s 11 2)<=59/\0<=bP (cut s 13 2)/\bP (cut s 13 2)<=59
def jA (s:ByteArray):Int:=
 ag.num (bP (cut s 0 4)) (bP (cut s 4 2)) (bP (cut s 6 2))*86400+bP (cut s 9 2)*3600+bP (cut s 11 2)*60+bP (cut s 13 2)
def lq (s:ByteArray):Bool:=decide (
 s.size=16/\pA s 8=84/\pA s 15=90/\1970<=bP (cut s 0 4)/\bP (cut s 0 4)<=2199/\
 (1<=bP (cut s 4 2)/\bP (cut s 4 2)<=12/\1<=bP (cut s 6 2)/\bP (cut s 6 2)<=ag.md (bP (cut s 0 4)) (bP (cut s 4 2)))/\
 0<=bP (cut s 9 2)/\bP (cut s 9 2)<=23/\0<=bP (cut s 11 2)/\bP (cut s 11 2)<=59/\0<=bP (cut s 13 2)/\bP (cut s 13 2)<=59)
theorem gw {s:ByteArray}:lq s=true↔nW s:=by
 unfold lq nW ag.Valid;exact decide_eq_true_iff
def xc (s:ByteArray):Value:=if lq s=true then .tuple #[V Z (jA s),V Z 0]else .tuple #[V Z 0,V Z 1]
theorem ye {s:ByteArray}(h:nW s):xc s=.tuple #[V Z (jA s),V Z 0]:=by unfold xc;rw[if_pos (gw.2 h)]
theorem zQ {s:ByteArray}(h:¬nW s):xc s=.tuple #[V Z 0,V Z 1]:=by unfold xc;rw[if_neg (λe=>h (gw.1 e))]
theorem acF (l:List UInt8)(k:Nat)(I:l.length<=k):-1<=bP l/\bP l<10^k:=by
 unfold bP;split
 ·have:=qI l k I ‹_›;omega
 have:(0:Int)<10^k:=Int.pow_pos (by omega);omega
theorem Tx {y m d:Int}(h0:1970<=y)(G:y<=2199)(v:ag.Valid y m d):0<=ag.num y m d/\ag.num y m d<84006:=by
 have a:=ag.wZ v;have b:=ag.acA y h0 (by omega);have c:=ag.lI (y+1) (2199-y).toNat;rw[show y+1+((2199-y).toNat:Int)=2200 from by omega,ag.BJ]at c;omega
open Go.RowKit Go.Sort
theorem Ty {n:Int}(h0:0<=n)(G:n<84006):1970<=ag.aq n/\ag.aq n<=2199/\ag.Valid (ag.aq n) (ag.ofM n) (ag.aA n):=by
 have v:=ag.lj n (by omega);have e:=ag.nV n (by omega);have i:=ag.wZ v;refine⟨?_,?_,v⟩
 ·by_cases q:1970<=ag.aq n
  ·exact q
  have:=ag.lI (ag.aq n+1) (1970-ag.aq n-1).toNat;rw[show ag.aq n+1+((1970-ag.aq n-1).toNat:Int)=1970 from by omega,ag.IB]at this;omega
 by_cases q:ag.aq n<=2199
 ·exact q
 have:=ag.lI 2200 (ag.aq n-2200).toNat;rw[show 2200+((ag.aq n-2200).toNat:Int)=ag.aq n from by omega,ag.BJ]at this;omega
def dv (n:Int):List UInt8:=
 pad 4 (ag.aq (n/86400))++pad 2 (ag.ofM (n/86400))++pad 2 (ag.aA (n/86400))++[84]++pad 2 (n%86400/3600)++pad 2 (n%86400/60%60)++pad 2 (n%86400%60)++[90]
def kG (n:Int):Value:=if cq n then .tuple #[η ⟨(dv n).toArray⟩,V Z 0]else .tuple #[η ⟨#[]⟩,V Z 1]
theorem Tz (n:Int):(⟨(pad 4 (ag.aq (n/86400))).toArray⟩:ByteArray)++⟨(pad 2 (ag.ofM (n/86400))).toArray⟩++⟨(pad 2 (ag.aA (n/86400))).toArray⟩++⟨#[84]⟩++
 ⟨(pad 2 (n%86400/3600)).toArray⟩++⟨(pad 2 (n%86400/60%60)).toArray⟩++⟨(pad 2 (n%60)).toArray⟩++⟨#[90]⟩=⟨(dv n).toArray⟩:=by
 unfold dv;rw[show n%86400%60=n%60 from by omega];simp only[pz]
def kk (l:List UInt8):Bool:=decide (1<=l.length)&&decide (l.length<=7)&&!(l.head?==some 48&&decide (1<l.length))
def dw (l:List UInt8):Int:=if kk l then bP l else 0
def dx (l:List UInt8):Bool:=kk l&&decide (0<=bP l)
theorem O4 (s:ByteArray):cut s 0 s.size=s.data.toList:=by
 unfold cut;have e:s.data.size=s.size:=rfl;rw[List.drop_zero,Ν (by rw[Β];omega)]
def ou (u:Nat):Int:=match u with|0=>86400|1=>3600|2=>60|_=>1
def ik (u:Nat)(c:UInt8):Nat:=
 if u<=0/\c.toNat=68 then 0 else if u<=1/\c.toNat=72 then 1 else if u<=2/\c.toNat=77 then 2 else if u<=3/\c.toNat=83 then 3 else 4
def eC:List UInt8->List UInt8->Nat->Bool->Int->Nat->Option Int
 |[],cur,_,_,sum,parts=>if parts=0\/cur≠[]then none else some sum
 |c::rest,cur,u,times,sum,parts=>
  if fg c=true then eC rest (cur++[c]) u times sum parts
  else if c.toNat=84 then(if times=true\/cur≠[]\/rest=[]then none else eC rest [] 1 true sum parts)
  else if dx cur=false\/ik u c=4\/decide (0<ik u c)≠times then none
  else eC rest [] (ik u c+1) times (sum+dw cur*ou (ik u c)) (parts+1)
def oC:List UInt8->Option Int
 |c::rest=>if c.toNat=80 then eC rest [] 0 false 0 0 else none
 |[]=>none
def XR (o:Option Int):Value:=match o with|some n=>.tuple #[V Z n,V Z 0]|none=>.tuple #[V Z 0,V Z 1]
theorem GH (l:List UInt8)(h:dx l=true):0<=dw l/\dw l<=9999999:=by
 simp only[dx,Δ,decide_eq_true_eq]at h;have hs:=h.1;unfold dw;rw[if_pos hs];simp only[kk,Δ,decide_eq_true_eq]at hs;have:=acF l 7 hs.1.2;exact⟨h.2,by omega⟩
theorem gU (s:ByteArray)(a b:Nat):(s.extract a b).data.toList=cut s a (b-a):=by
 unfold cut;simp[ByteArray.data_extract]
theorem drop_cons (s:ByteArray)(i:Nat)(h:i<s.size):s.data.toList.drop i=(s[i]'h)::s.data.toList.drop (i+1):=by
 have e:s.data.size=s.size:=rfl;rw[List.drop_eq_getElem_cons (by rw[Β];omega)];rfl
theorem La (u:Nat)(c:UInt8)(h:u<=4):u<=ik u c/\ik u c<=4:=by
 unfold ik;repeat' split
 all_goals omega
theorem Ch (w:κ)(o:Obj)(q:Nat):Below w.heap.size w ((w.alloc o).drewN q):=by
 have h:=(μ w.heap.size w).alloc (ι _) o;exact⟨h.os,h.tape,h.output,h.size,h.block⟩
theorem pB:(prog.info? 9).map (λi=>(i.zero,i.size,i.bytes))=some (some (η ⟨#[]⟩),1,16):=by kernel_rfl
theorem O5:(prog.info? 3).map (λi=>(i.zero,i.size,i.bytes))=some (some (V Z 0),1,8):=by kernel_rfl
def mG (s:ByteArray)(c:Int):Nat->Nat×List ByteArray
 |0=>(0,[])
 |k+1=>if pA s k=c then(k+1,(mG s c k).2++[s.extract (mG s c k).1 k])else mG s c k
def jN (s:ByteArray)(c:Int):List ByteArray:=(mG s c s.size).2++[s.extract (mG s c s.size).1 s.size]
theorem O6 {s:ByteArray}{c:Int}{k:Nat}(h:pA s k=c):mG s c (k+1)=(k+1,(mG s c k).2++[s.extract (mG s c k).1 k]):=by rw[mG,if_pos h]
theorem Lb {s:ByteArray}{c:Int}{k:Nat}(h:¬pA s k=c):mG s c (k+1)=mG s c k:=by rw[mG,if_neg h]
theorem aer (s:ByteArray)(c:Int)(k:Nat):(mG s c k).1<=k/\(mG s c k).2.length<=k:=by
 induction k with
 |zero=>simp[mG]
 |succ k ih=>
  by_cases h:pA s k=c
  ·rw[O6 h];simp;omega
  rw[Lb h];omega
theorem Rz {B:Nat}{e:ϊ}{w wr w1:κ}{v v':Value}{n:Nat}{xs:List Value}{x:Value}{o:Obj}(hB:B<=wr.heap.size)
 (aU:wr.ownsRow B e 1 v n xs)(U:Below B w wr)(gV:w1.ownsRow B e 1 v' (n+1) (xs++[x]))(tC:(wr.alloc o).grownBy w1 v.ownBlock):
 w1.ownsRow B e 1 v' (n+1) (xs++[x])/\Below B w w1:=
 ⟨gV,(U.alloc hB o).grown tC (by simp;omega) (λj hj=>(aU.lt j hj).1)⟩
def BK (c:UInt8):Bool:=(decide (97<=(c.toNat:Int))&&decide ((c.toNat:Int)<=122))||(decide (48<=(c.toNat:Int))&&decide ((c.toNat:Int)<=57))
def fT (s:ByteArray):Bool:=s.data.toList.all BK&&decide (1<=s.size)&&decide (s.size<=12)
theorem TA (s:ByteArray)(k:Nat)(h:k<s.size):s.data.toList.take (k+1)=s.data.toList.take k++[s[k]]:=by
 rw[Η (by simpa using h)];rfl
theorem XT (s:ByteArray):s.data.toList.take s.size=s.data.toList:=Ν (Nat.le_of_eq (show s.data.toList.length=s.size by simp))
theorem TB (s:ByteArray)(k:Nat)(h:k<s.size):s[k]∈s.data.toList:=by
 have:s[k]=s.data[k]:=rfl;rw[this];exact Array.mem_def.1 (Array.getElem_mem _)
def fM:List UInt8->List UInt8
 |[]=>[]
 |[a]=>[a]
 |[a,b]=>[a,b]
 |a::b::c::r=>if a=13/\b=10/\c=32 then fM r else a::fM (b::c::r)
theorem aiC (s:ByteArray):s.data.toList.drop s.size=[]:=List.drop_of_length_le (Nat.le_of_eq (show s.data.toList.length=s.size by simp))
def strs (ls:List (List UInt8)):List Value:=ls.map λl=>ω ⟨l.toArray⟩
theorem Ci (ls:List (List UInt8)):(strs ls).length=ls.length:=List.length_map _
theorem TC (ls:List (List UInt8))(l:List UInt8):strs (ls++[l])=strs ls++[ω ⟨l.toArray⟩]:=by simp[strs]
def nX:List UInt8->List UInt8->List (List UInt8)×Bool
 |[],acc=>([],acc.isEmpty)
 |[_],_=>([],false)
 |a::b::r,acc=>if a=13/\b=10 then(acc::(nX r []).1,(nX r []).2)else nX (b::r) (acc++[a])
def sp (c:UInt8):List UInt8->Option (List UInt8×List UInt8)
 |[]=>none
 |x::r=>if x=c then some ([],r)else(sp c r).map λq=>(x::q.1,q.2)
theorem nt {c:UInt8}:∀{l:List UInt8},c∉l->sp c l=none
 |[],_=>rfl
 |x::r,h=>by
  unfold sp;rw[if_neg (λe=>h (by rw[e];exact Γ)),nt (λq=>h (τ _ q))];rfl
theorem pC {c:UInt8}:∀{a b:List UInt8},c∉a->sp c (a++c::b)=some (a,b)
 |[],b,_=>by simp[sp]
 |x::r,b,h=>by
  simp only[Τ];unfold sp;rw[if_neg (λe=>h (by rw[e];exact Γ)),pC (λq=>h (τ _ q))];rfl
theorem kH {c:UInt8}:∀{l a b:List UInt8},sp c l=some (a,b)->l=a++c::b/\c∉a
 |[],_,_,h=>by cases h
 |x::r,a,b,h=>by
  unfold sp at h;by_cases e:x=c
  ·rw[if_pos e]at h;cases h;subst e;simp
  rw[if_neg e]at h;cases q:sp c r with
  |none=>rw[q]at h;cases h
  |some y=>
   rw[q]at h;obtain⟨a',b'⟩:=y;cases h;obtain⟨G,A⟩:=kH q;refine⟨by rw[G];rfl,?_⟩;intro m;rcases List.mem_cons.1 m with m|m
   ·exact e m.symm
   exact A m
theorem yf {l:List UInt8}(h:dx l=true):∀x∈l,fg x=true:=by
 simp only[dx,Δ,decide_eq_true_eq]at h;have:l.all fg=true:=by
  cases q:l.all fg
  ·have:=h.2;unfold bP at this;rw[if_neg (by rw[q];exact χ)]at this;omega
  rfl
 exact List.all_eq_true.1 this
def fh (mark:UInt8)(nL:Int)(l:List UInt8):Option (Int×List UInt8):=
 match sp mark l with
 |none=>some (0,l)
 |some (a,b)=>if dx a=true then some (dw a*nL,b)else none
def chain:List (UInt8×Int)->List UInt8->Option Int
 |[],l=>if l=[]then some 0 else none
 |(m,s)::ms,l=>match fh m s l with
  |none=>none
  |some (v,r)=>(chain ms r).map (v+·)
theorem fu {m:UInt8}{s:Int}{ms:List (UInt8×Int)}{l:List UInt8}(h:m∉l):chain ((m,s)::ms) l=chain ms l:=by
 simp only[chain,fh,nt h];cases chain ms l with
 |none=>rfl
 |some v=>simp
theorem vv (ms:List (UInt8×Int)):chain ms []=some 0:=by
 induction ms with
 |nil=>rfl
 |cons m ms ih=>obtain⟨m,s⟩:=m;rw[fu (by simp),ih]
theorem gW {x:UInt8}(X:fg x=false):∀(ms:List (UInt8×Int)) (l:List UInt8),(∀m∈ms,m.1≠x)->x∈l->chain ms l=none
 |[],l,_,h=>by
  unfold chain;rw[if_neg];intro e;rw[e]at h;cases h
 |(m,s)::ms,l,hm,h=>by
  cases q:sp m l with
  |none=>
   have:chain ((m,s)::ms) l=(chain ms l).map (0+·):=by simp only[chain,fh,q]
   rw[this,gW X ms l (λy hy=>hm y (τ _ hy)) h];rfl
  |some y=>
   obtain⟨a,b⟩:=y;obtain⟨e,_⟩:=kH q;simp only[chain,fh,q];by_cases hn:dx a=true
   ·rw[if_pos hn];have U:x∈b:=by
     rw[e]at h;rcases List.mem_append.1 h with h|h
     ·have:=yf hn x h;rw[X]at this;cases this
     rcases List.mem_cons.1 h with h|h
     ·exact absurd h.symm (hm (m,s) Γ)
     exact h
    simp only[gW X ms b (λy hy=>hm y (τ _ hy)) U];rfl
   rw[if_neg hn]
theorem ub {m c:UInt8}{s:Int}{ms:List (UInt8×Int)}{ds r:List UInt8}(Cj:m∉ds)(hc:fg c=false)(zR:c≠m)(hm:m∈r):
 chain ((m,s)::ms) (ds++c::r)=none:=by
 have:m∈ds++c::r:=by simp[hm]
 cases q:sp m (ds++c::r)with
 |none=>
  exfalso;clear Cj hm;have:∀l:List UInt8,m∈l->sp m l≠none:=by
   intro l
   induction l with
   |nil=>intro h;cases h
   |cons x l ih=>
    intro h;unfold sp;by_cases e:x=m
    ·rw[if_pos e];simp
    rw[if_neg e];rcases List.mem_cons.1 h with h|h
    ·exact absurd h.symm e
    have:=ih h;cases q:sp m l with
    |none=>exact absurd q this
    |some y=>simp
  exact this _ ‹_› q
 |some y=>
  obtain⟨a,b⟩:=y;obtain⟨e,ha⟩:=kH q;have hca:c∈a:=by
   rcases List.append_eq_append_iff.1 e with⟨t,e1,e2⟩|⟨t,e1,e2⟩
   ·cases t with
    |nil=>simp at e2;exact absurd e2.1 zR
    |cons y t=>simp at e2;rw[e1,<-e2.1];simp
   cases t with
   |nil=>simp at e2;exact absurd e2.1.symm zR
   |cons y t=>simp at e2;exfalso;apply Cj;rw[e1,<-e2.1];simp
  simp only[chain,fh,q];rw[if_neg];intro hn;have:=yf hn c hca;rw[hc]at this;cases this
theorem yg {m:UInt8}{s:Int}{ms:List (UInt8×Int)}{ds r:List UInt8}(Cj:m∉ds)(hn:dx ds=true):
 chain ((m,s)::ms) (ds++m::r)=(chain ms r).map (dw ds*s+·):=by
 simp only[chain,fh,pC Cj,hn,if_true]
theorem sU {m:UInt8}{s:Int}{ms:List (UInt8×Int)}{ds r:List UInt8}(Cj:m∉ds)(hn:dx ds=false):
 chain ((m,s)::ms) (ds++m::r)=none:=by
 simp only[chain,fh,pC Cj];rw[if_neg (by rw[hn];exact χ)]
theorem vw:∀(ds rest cur:List UInt8) (u:Nat) (t:Bool) (s:Int) (p:Nat),(∀x∈ds,fg x=true)->eC (ds++rest) cur u t s p=eC rest (cur++ds) u t s p
 |[],_,_,_,_,_,_,_=>by simp
 |x::ds,rest,cur,u,t,s,p,h=>by
  simp only[Τ]
  conv=>lhs;unfold eC
  rw[if_pos (h x Γ),vw ds rest (cur++[x]) u t s p (λy hy=>h y (τ _ hy))];simp
theorem ud (l:List UInt8):∃ds rest,l=ds++rest/\(∀x∈ds,fg x=true)/\(rest=[]\/∃c r,rest=c::r/\fg c=false):=by
 induction l with
 |nil=>exact⟨[],[],rfl,by simp,.inl rfl⟩
 |cons x l ih=>
  cases h:fg x
  ·exact⟨[],x::l,rfl,by simp,.inr ⟨x,l,rfl,h⟩⟩
  obtain⟨ds,rest,e,hd,hr⟩:=ih;refine⟨x::ds,rest,by rw[e];rfl,?_,hr⟩;intro y hy;rcases List.mem_cons.1 hy with rfl|hy
  ·exact h
  exact hd y hy
def idx:List (List UInt8)->List UInt8->Option Nat
 |[],_=>none
 |a::r,n=>if a=n then some 0 else(idx r n).map (·+1)
theorem Dq {n:List UInt8}:∀{ns:List (List UInt8)},(∀j,j<ns.length->ns.getD j []≠n)->idx ns n=none
 |[],_=>rfl
 |a::r,h=>by
  have h0:a≠n:=h 0 (by simp);have hr:idx r n=none:=Dq λj hj=>h (j+1) (by simpa using hj);rw[idx,if_neg h0,hr];rfl
def vx (ns:List (List UInt8))(c:UInt8)(l:List UInt8):Option (Nat×List UInt8):=
 match sp c l with
 |none=>none
 |some (n,v)=>(idx ns n).map λk=>(k,v)
def nI (s a b c:List UInt8):Int:=if s=a then 1 else if s=b then 2 else if s=c then 3 else 0
theorem aeu (a b:List UInt8):((⟨a.toArray⟩:ByteArray).toList==(⟨b.toArray⟩:ByteArray).toList)=true↔a=b:=by
 rw[Lib.bytes_beq_iff];exact⟨λh=>by have:=congrArg (λx=>x.data.toList) h;simpa using this,λh=>by rw[h]⟩
theorem aev (a b:List UInt8):(⟨a.toArray⟩:ByteArray)=⟨b.toArray⟩↔a=b:=
 ⟨λh=>by have:=congrArg (λx=>x.data.toList) h;simpa using this,λh=>by rw[h]⟩
def jO:List (List UInt8):=[[77,79],[84,85],[87,69],[84,72],[70,82],[83,65],[83,85]]
def Ck (l:List UInt8):Int:=match idx jO l with|some k=>k|none=> -1
def within (l:List UInt8)(most:Int):Bool:=dx l&&decide (1<=dw l)&&decide (dw l<=most)
def fF (l:List UInt8)(most:Int):Int:=if l.head?=some 45 then(if within l.tail most then -(dw l.tail)else 0)else(if within l most then dw l else 0)
theorem O7 {P:Ρ}{ops:Array ϋ}{rest:List ϋ}{o:ϋ}{a:Ω}{Q:Exit->Ω->κ->Prop}{w wr:κ}{obj:Obj}(pD:o.guard=none)(s x:Operand)(t e:ϊ)(z:Value)(bytes:Nat)
 (ho:o.op=.call {callee:=.builtin .append,args:=#[s,x],argTypes:=#[t,t]})(hu:P.underlying t=some (.slice e))
 (yh:(P.info? e).map (λi=>(i.zero,i.size,i.bytes))=some (some z,1,bytes))(hz:z.cells.size=1)(B:Nat)(v:Value)(n:Nat)(xs:List Value)(hs:a.eval s=v)
 (aU:wr.ownsRow B e 1 v n xs)(dJ:Below B w wr)(hB:B<=wr.heap.size)(y:Value)(hy:y.oneCell'=true)(X:a.eval x=.slice (some ⟨wr.heap.size,0,none⟩) 1 1)
 (hc:(wr.alloc obj).cell? ⟨wr.heap.size,0,none⟩=some y)(hn:n<=4194304)(uf:bytes<=64)
 (h:∀v' w1,w1.ownsRow B e 1 v' (n+1) (xs++[y])->Below B w w1->B<=w1.heap.size->wpList P ops Q rest (a.put o.dst v') w1):wpList P ops Q (o::rest) a (wr.alloc obj):=by
 obtain⟨i0,S,gH,oV,fN⟩:=info_parts yh;refine wpList_append_own _ pD s x t ho B e i0 z 1 bytes hu S gH oV fN hz (by decide) v n xs hs (aU.alloc _) ⟨wr.heap.size,0,none⟩ 1 1 [y] X rfl ?_ ?_ ?_ ?_ ?_ ?_
 ·intro j u hj
  match j,hj with
  |0,hj=>simp at hj;subst hj;exact hc
 ·intro u hu;simp at hu;subst hu;exact hy
 ·unfold maxLen;omega
 ·have:(n+1)*bytes<=4194305*64:=Nat.mul_le_mul (by omega) uf;omega
 ·simp;omega
 intro v' w1 gV tC _;have R:=Rz hB aU dJ gV tC;exact h v' w1 R.1 R.2 (by have:=tC.size;simp at this;omega)
def ug (n:Int):Bool->List Int->List Int
 |d,[]=>if d=true then[]else[n]
 |d,a::r=>(if d=false/\n<=a then[n]else[])++(if a=n then[]else[a])++ug n (d||decide (n<=a)) r
theorem IC {w:κ}{B:Nat}{e:ϊ}{v:Value}{n:Nat}{xs:List Value}(h:w.ownsRow B e 1 v n xs):
 (v=.slice none 0 0/\xs=[])\/∃g cap,v=.slice (some ⟨g,0,none⟩) n cap/\B<=g/\g<w.heap.size/\∀j y,xs[j]?=some y->w.cell? ⟨g,j,none⟩=some y:=by
 obtain⟨N,h|⟨g,cap,cur,hv,U,hh,ID,Cl,bp,ht⟩⟩:=h
 ·exact .inl ⟨h.1,Ι (by rw[N,h.2])⟩
 refine .inr ⟨g,cap,hv,U,?_,λj y hj=>?_⟩
 ·exact(Array.getElem?_eq_some_iff.1 hh).1
 rw[<-ht]at hj;have A:=List.getElem?_eq_some_iff.1 hj;obtain⟨aQ,he⟩:=A;rw[List.length_take]at aQ;rw[List.getElem_take]at he;unfold World.cell?;rw[hh];simp only[Option.isSome_none,Bool.false_eq_true,if_false];rw[υ (by have:=Nat.min_le_right (n*1) cur.toList.length;rw[Β]at this;omega)];rw[<-he];rfl
def IE:List ByteArray->List Int->Option (List Int)
 |[],acc=>some acc
 |l::r,acc=>if lq l=true then IE r (ug (jA l) false acc)else none
def Lc (s:ByteArray):Option (List Int):=if(jN s 44).length<=20 then IE (jN s 44) []else none
theorem XU {w:κ}{B:Nat}{e:ϊ}{v:Value}{n:Nat}{xs:List Value}(h:w.ownsRow B e 1 v n xs):∃a n c,v=.slice a n c:=by
 rcases IC h with⟨h,_⟩|⟨g,cap,h,_⟩
 ·exact⟨_,_,_,h⟩
 exact⟨_,_,_,h⟩
def wD (most:Int)(kE:Bool)(l:ByteArray):Option Int:=
 if fF l.data.toList most=0 then none else if fF l.data.toList most<0/\kE=false then none else some (fF l.data.toList most)
def TD (most:Int)(kE:Bool):List ByteArray->List Int->Option (List Int)
 |[],acc=>some acc
 |l::r,acc=>match wD most kE l with|none=>none|some z=>TD most kE r (acc++[z])
def vy (s:ByteArray)(most:Int)(kE:Bool):Option (List Int):=if(jN s 44).length<=20 then TD most kE (jN s 44) []else none
def vz (z:Int):List UInt8:=if cq z=true then dv z else[]
theorem acG (z:Int):(vz z).length<=16:=by
 unfold vz;split
 ·unfold dv;simp[lk]
 simp
theorem pE (z:Int):∃x,kG z=.tuple #[η ⟨(vz z).toArray⟩,V Z x]:=by
 unfold kG vz;cases cq z
 ·exact⟨1,rfl⟩
 exact⟨0,rfl⟩
def XV (l:ByteArray):Option (Int×Int):=
 if l.size<2 then none
 else if Ck (cut l (l.size-2) 2)<0 then none
 else if l.size=2 then some (Ck (cut l (l.size-2) 2),0)
 else if fF (cut l 0 (l.size-2)) 53=0 then none
 else some (Ck (cut l (l.size-2) 2),fF (cut l 0 (l.size-2)) 53)
def TE:List ByteArray->List Int×List Int->Option (List Int×List Int)
 |[],acc=>some acc
 |l::r,acc=>match XV l with|none=>none|some q=>TE r (acc.1++[q.1],acc.2++[q.2])
def Ez (s:ByteArray):Option (List Int×List Int):=if(jN s 44).length<=20 then TE (jN s 44) ([],[])else none
theorem fZ (w:κ)(a:Ε)(v:Value):(w.setCell a v).heap.size=w.heap.size:=by simp[Υ]
def O8 (l:List UInt8):Int:=if l=[89,69,65,82,76,89]then 4 else nI l [68,65,73,76,89] [87,69,69,75,76,89] [77,79,78,84,72,76,89]
def cg:List (List UInt8):=[[85,73,68],[68,84,83,84,65,82,84],[68,85,82,65,84,73,79,78],[68,84,69,78,68],[82,82,85,76,69],[69,88,68,65,84,69],[82,68,65,84,69],[84,82,65,78,83,80],[83,84,65,84,85,83]]
def cC:List (List UInt8):=[[70,82,69,81],[73,78,84,69,82,86,65,76],[67,79,85,78,84],[85,78,84,73,76],[66,89,77,79,78,84,72],[66,89,77,79,78,84,72,68,65,89],[66,89,68,65,89],[66,89,83,69,84,80,79,83],[87,75,83,84]]
def eH (ns:List (List UInt8))(c:UInt8):List (List UInt8)->(Nat->Option (List UInt8))->Option (Nat->Option (List UInt8))
 |[],f=>some f
 |l::r,f=>match vx ns c l with
  |none=>none
  |some (k,v)=>if(f k).isSome then none else eH ns c r (λj=>if j=k then some v else f j)
def ba (l:List UInt8):ByteArray:=⟨l.toArray⟩
def uh (k:Nat)(v:List UInt8):Bool:=match k with
 |0=>decide (0<O8 v)
 |1=>decide (0<fF v 100)
 |2=>decide (0<fF v 1000)
 |3=>lq (ba v)
 |4=>(vy (ba v) 12 false).isSome
 |5=>(vy (ba v) 31 true).isSome
 |6=>(Ez (ba v)).isSome
 |7=>(vy (ba v) 366 true).isSome
 |8=>decide (0<=Ck v)
 |_=>false
def has (f:Nat->Option (List UInt8))(k:Nat):Bool:=(f k).isSome
def ui (f:Nat->Option (List UInt8)):Bool:=match f 6 with
 |none=>false
 |some v=>match Ez (ba v)with
  |none=>false
  |some q=>q.2.any λo=>decide (o≠0)
def EA (f:Nat->Option (List UInt8)):Int:=match f 0 with|none=>0|some v=>O8 v
def agree (f:Nat->Option (List UInt8)):Bool:=
 has f 0&&!(has f 2&&has f 3)&&!(has f 5&&decide (EA f=2))&&!(ui f&&(decide (EA f<3)||has f 5))&&(!has f 7||has f 4||has f 5||has f 6)
def EC (f:Nat->Option (List UInt8)):Bool:=(Ψ 9).all λk=>match f k with|none=>true|some v=>uh k v
def Pa (c:UInt8)(s:List UInt8):List (List UInt8):=(jN (ba s) c.toNat).map (·.data.toList)
def rK (s:List UInt8):Option (Nat->Option (List UInt8)):=match eH cC 61 (Pa 59 s) (λ_=>none)with
 |none=>none
 |some f=>if EC f&&agree f then some f else none
structure ak (O:Nat->Prop)(W W':κ):Prop where
 os:W'.os=W.os
 tape:W'.tape=W.tape
 output:W'.output=W.output
 size:W.heap.size<=W'.heap.size
 block:∀k,k<W.heap.size->¬O k->W'.heap[k]?=W.heap[k]?
theorem ak.refl (O:Nat->Prop)(W:κ):ak O W W:=⟨rfl,rfl,rfl,ι _,λ_ _ _=>rfl⟩
theorem ak.trans {O O':Nat->Prop}{atB B C:κ}(h:ak O atB B)(k:ak O' B C)(hO:∀i,O' i->O i\/atB.heap.size<=i):ak O atB C:=
 ⟨k.os.trans h.os,k.tape.trans h.tape,k.output.trans h.output,Nat.le_trans h.size k.size,λi S hn=>(k.block i (Nat.lt_of_lt_of_le S h.size) (λho=>(hO i ho).elim hn (by omega))).trans (h.block i S hn)⟩
theorem ak.aM {O:Nat->Prop}{atB B C:κ}(h:ak O atB B)(k:ak O B C):ak O atB C:=h.trans k (λ_ h=>.inl h)
theorem ak.ar {O:Nat->Prop}{W W':κ}(h:Below W.heap.size W W'):ak O W W':=⟨h.os,h.tape,h.output,h.size,λk I _=>h.block k I⟩
theorem ak.below {O:Nat->Prop}{W W':κ}{B:Nat}(h:ak O W W')(hB:B<=W.heap.size)(hO:∀k,O k->B<=k):Below B W W':=
 ⟨h.os,h.tape,h.output,h.size,λk I=>h.block k (by omega) (λho=>by have:=hO k ho;omega)⟩
theorem ak.mono {O O':Nat->Prop}{W W':κ}(h:ak O W W')(hO:∀k,O k->O' k\/W.heap.size<=k):ak O' W W':=
 ⟨h.os,h.tape,h.output,h.size,λk I hn=>h.block k I (λho=>(hO k ho).elim hn (by omega))⟩
theorem ak.setCell {O:Nat->Prop}{W W':κ}(h:ak O W W'){p:Ε}(J:O p.block\/W.heap.size<=p.block)(v:Value):ak O W (W'.setCell p v):=
 ⟨h.os,h.tape,h.output,by simpa[Υ]using h.size,λk I hn=>(Below.heap_setCell _ _ _ _ (λe=>by subst e;exact J.elim hn (by omega))).trans (h.block k I hn)⟩
theorem ak.alloc {O:Nat->Prop}{W W':κ}(h:ak O W W')(o:Obj):ak O W (W'.alloc o):=
 ⟨h.os,h.tape,h.output,by have:=h.size;simp;omega,λk I hn=>(Below.heap_alloc _ _ _ (by have:=h.size;omega)).trans (h.block k I hn)⟩
theorem ak.drew {O:Nat->Prop}{W W':κ}(h:ak O W W'):ak O W W'.drew:=⟨h.os,h.tape,h.output,h.size,h.block⟩
theorem ak.put {O:Nat->Prop}{W W':κ}(h:ak O W W'){r:Nat}(hr:O r\/W.heap.size<=r)(o:Obj):ak O W (W'.putObj r o):=
 ⟨h.os,h.tape,h.output,by simpa using h.size,λk I hn=>(World.putObj_heap_other (λe=>by subst e;exact hr.elim hn (by omega))).trans (h.block k I hn)⟩
def xd (D:Nat->Prop)(atF:κ->Prop)(W:κ):Prop:=∀W2:κ,(∀k,D k->W2.heap[k]?=W.heap[k]?)->atF W2
theorem xd.out {D:Nat->Prop}{atF:κ->Prop}{W:κ}(h:xd D atF W):atF W:=h W (λ_ _=>rfl)
theorem xd.on {D:Nat->Prop}{atF:κ->Prop}{W W':κ}(h:xd D atF W)(I:∀k,D k->W'.heap[k]?=W.heap[k]?):xd D atF W':=
 λW2 A=>h W2 (λk hd=>(A k hd).trans (I k hd))
theorem ED {W W':κ}{k:Nat}(I:k<W.heap.size)(e:W'.heap[k]?=W.heap[k]?):k<W'.heap.size:=by
 rw[υ I]at e;exact(Array.getElem?_eq_some_iff.1 e).1
def bF (e:Int):List Φ:=[{v:=.iface 103 (.agg #[V Z e]),recovered:=false}]
theorem fD (e:Int)(w:κ):ξ prog 65 #[.bool true,V Z e] w λE Y=>E=δ (.tuple #[])/\w=Y:=by
 go_enter func65,ntmps65;go_wp2;go_end0;exact⟨rfl,rfl⟩
theorem gY (e:Int)(w:κ):ξ prog 65 #[.bool false,V Z e] w λE Y=>E=ε (bF e)/\w=Y:=by
 go_enter func65,ntmps65;go_wp2;exact⟨rfl,rfl,rfl⟩
theorem dp {e:Int}{w:κ}{Q:Ο->κ->Prop}(q:Q (δ (.tuple #[])) w):ξ prog 65 #[.bool true,V Z e] w Q:=(fD e w).mono λ_ _ ⟨a,b⟩=>by subst a b;exact q
theorem eT {e:Int}{w:κ}{Q:Ο->κ->Prop}(q:Q (ε (bF e)) w):ξ prog 65 #[.bool false,V Z e] w Q:=(gY e w).mono λ_ _ ⟨a,b⟩=>by subst a b;exact q
theorem mg (c:Int)(w:κ):ξ prog 131 #[.int .u8 c] w λE Y=>E=δ (.bool (decide (48<=c)&&decide (c<=57)))/\w=Y:=by
 by_cases h:48<=c
 ·go_enter func131,ntmps131;go_wp2;go_ret;exact⟨by simp[h],rfl⟩
 have h':decide (48<=c)=false:=by simpa using h
 rw[h'];go_enter func131,ntmps131;go_wp2;go_ret;exact⟨rfl,rfl⟩
def dX (s:ByteArray):Bool:=s.data.toList.all fg
theorem zS (s:ByteArray)(e:Int)(w:κ)(h7:s.size<=7):
 ξ prog 123 #[η s,V Z e] w λE Y=>((dX s=true/\E=δ (V Z (iC s.data.toList)))\/(dX s=false/\E=ε (bF e)))/\w=Y:=by
 go_enter func123,ntmps123;go_wp2;go_loop [5,9] (λv i=>∃k:Nat,k<=s.size/\i=V Z (k:Int)/\v=V Z (iC (cut s 0 k))/\Hid ((cut s 0 k).all fg=true)) (λ_ i=>s.size-(intOf i).toNat)
 case atStart=>exact⟨0,by omega,rfl,rfl,rfl⟩
 case round=>
  obtain⟨k,k0,rfl,rfl,HD⟩:=hrel;have U:=qI (cut s 0 k) 7 (by rw[tB s 0 k (by omega)];omega) HD.out;by_cases aQ:k<s.size
  ·have TF:=K8 s 0 k (by omega);simp only[Χ]at TF;by_cases hd:fg s[k]=true
   ·have uj:=(xa _).1 hd;have HD2:Hid ((cut s 0 (k+1)).all fg=true):=by
     rw[TF];simp[HD.out,hd,Hid]
    have HV:Hid (iC (cut s 0 (k+1))=10*iC (cut s 0 k)+((s[k].toNat:Int)-48)):=by
     rw[TF];exact zP _ _
    have hu:(decide (48<=(s[k].toNat:Int))&&decide ((s[k].toNat:Int)<=57))=true:=hd;clear hd TF;go_wp2_with (first
     |(go_at_call 131;refine(mg _ _).mono ?_;rintro e Y ⟨rfl,rfl⟩)
     |(go_at_call 65;refine dp ?_))
    exact⟨⟨k+1,by omega,by go_num,by rw[HV.out,Int.mul_comm],HD2⟩,by simp[intOf];omega⟩
   have hd':fg s[k]=false:=by simpa using hd
   have bx:dX s=false:=by
    show s.data.toList.all fg=false;have hm:s[k]∈s.data.toList:=by
     have:=acE s 0 s.size k aQ (by omega);rw[O4]at this;simp only[Χ]at this;exact List.mem_of_getElem? this
    rw[List.all_eq_false];exact⟨_,hm,by rw[hd'];exact χ⟩
   have HA:=H bx;have hu:(decide (48<=(s[k].toNat:Int))&&decide ((s[k].toNat:Int)<=57))=false:=hd';clear hd' TF HD hd bx;go_wp2_with (first
    |(go_at_call 131;refine(mg _ _).mono ?_;rintro e Y ⟨rfl,rfl⟩)
    |(go_at_call 65;refine eT ?_))
   exact⟨rfl,.inr ⟨HA.out,rfl⟩,rfl⟩
  have I:k=s.size:=by omega
  subst I;have ha:=HD.out;rw[O4]at ha⊢;have HA:Hid (dX s=true):=ha;clear ha;go_wp2;go_ret;exact⟨.inl ⟨HA.out,rfl⟩,rfl⟩
theorem eL (s:ByteArray)(e:Int)(w:κ)(h7:s.size<=7)(h:dX s=true):
 ξ prog 123 #[η s,V Z e] w λE Y=>E=δ (V Z (iC s.data.toList))/\w=Y:=
 (zS s e w h7).mono λE Y ⟨G,A⟩=>⟨G.elim (λq=>q.2) (λq=>by rw[h]at q;exact absurd q.1 (by decide)),A⟩
theorem jP (s:ByteArray)(e:Int)(w:κ)(h7:s.size<=7)(h:dX s=false):
 ξ prog 123 #[η s,V Z e] w λE Y=>E=ε (bF e)/\w=Y:=
 (zS s e w h7).mono λE Y ⟨G,A⟩=>⟨G.elim (λq=>by rw[h]at q;exact absurd q.1 (by decide)) (λq=>q.2),A⟩
theorem nx (y:Int)(w:κ)(h0:0<=y)(G:y<=100000):
 ξ prog 195 #[V Z y] w λe Y=>e=δ (V Z (ag.ty y))/\w=Y:=by
 go_enter func195,ntmps195;go_wp2;go_ret;exact⟨rfl,rfl⟩
theorem mh (m:Int)(w:κ)(h0:0<=m)(G:m<=1000):
 ξ prog 196 #[V Z m] w λe Y=>e=δ (V Z (ag.tm m))/\w=Y:=by
 go_enter func196,ntmps196;go_wp2;go_ret;exact⟨rfl,rfl⟩
theorem gy {P:Ρ}{f:FuncId}{args:Array Value}{w:κ}{n:Nat}{v:Value}
 (h:ξ P f args (w.drewN n) λe Y=>e=δ v/\w.drewN n=Y):ξ P f args (w.drewN n) λe az=>e=δ v/\∃m,az=w.drewN m:=
 h.mono λ_ _ ⟨he,hm⟩=>⟨he,n,hm.symm⟩
theorem below_drewN {B:Nat}{a w:κ}(h:Below B a w)(n:Nat):Below B a (w.drewN n):=⟨h.os,h.tape,h.output,h.size,h.block⟩
theorem KN (y:Int)(h0:0<=y)(G:y<=100000):0<=ag.ty y/\ag.ty y<=40000000:=by unfold ag.ty;omega
theorem vA (m:Int)(h0:0<=m)(G:m<=1000):0<=ag.tm m/\ag.tm m<=40000:=by unfold ag.tm;omega
theorem sV (y m d:Int)(w:κ)(h0:1<=y)(G:y<=10000)(A:0<=m)(K:m<=100)(h4:0<=d)(h5:d<=100):
 ξ prog 120 #[.agg #[V Z y,V Z m,V Z d]] w λe Y=>e=δ (V Z (ag.num y m d))/\Below w.heap.size w Y:=by
 unfold ag.num;by_cases hm:m-3<0
 case pos=>
  have t1:=KN (y-1) (by omega) (by omega);have t2:=vA (m-3+12) (by omega) (by omega);rw[if_pos hm];go_enter func120,ntmps120;go_wp2;go_quiet (fail);go_wp2;have al:=Ch w (θ #[V Z y,V Z m,V Z d] 106) nq;have c2:((w.alloc (θ #[V Z y,V Z m,V Z d] 106)).drewN nq).cell? ⟨w.heap.size,2,none⟩=some (V Z d):=by simp[go_sem]
  generalize(w.alloc (θ #[V Z y,V Z m,V Z d] 106)).drewN nq=W at *
  go_quiet (first
   |(go_at_call 195;exact gy (nx _ _ (by omega) (by omega)))
   |(go_at_call 196;exact gy (mh _ _ (by omega) (by omega))))
  go_wp2;go_ret;exact⟨rfl,below_drewN al _⟩
 case neg=>
  have t1:=KN y (by omega) (by omega);have t2:=vA (m-3) (by omega) (by omega);rw[if_neg hm];go_enter func120,ntmps120;go_wp2;go_quiet (fail);go_wp2;have al:=Ch w (θ #[V Z y,V Z m,V Z d] 106) nq;have c2:((w.alloc (θ #[V Z y,V Z m,V Z d] 106)).drewN nq).cell? ⟨w.heap.size,2,none⟩=some (V Z d):=by simp[go_sem]
  generalize(w.alloc (θ #[V Z y,V Z m,V Z d] 106)).drewN nq=W at *
  go_quiet (first
   |(go_at_call 195;exact gy (nx _ _ (by omega) (by omega)))
   |(go_at_call 196;exact gy (mh _ _ (by omega) (by omega))))
  go_wp2;go_ret;exact⟨rfl,below_drewN al _⟩
def cS (y m d:Int):Value:=.agg #[V Z y,V Z m,V Z d]
theorem yi (n:Int)(w:κ)(h0:-719468<=n)(G:n<=1000000):
 ξ prog 121 #[V Z n] w λe Y=>e=δ (cS (ag.aq n) (ag.ofM n) (ag.aA n))/\Below w.heap.size w Y:=by
 have hy:=ag.aiB (n+719468) (by omega) (by omega);have hr:=ag.K3 (n+719468) (by omega);have hm:=ag.Rx _ hr.1 hr.2.1;have dH:=hr.1;have EE:=hr.2.1;have mu:=hm.1;have nJ:=hm.2.1;have t:=vA _ hm.1 (by omega);clear hr hm;unfold cS ag.aq ag.ofM ag.aA;by_cases hc:ag.ty ((n+719468)*400/146097+1)<=n+719468
 case pos=>
  have ey:ag.yr (n+719468)=(n+719468)*400/146097+1:=by unfold ag.yr;rw[if_pos hc]
  rw[ey]at hy dH EE mu nJ t⊢;unfold ag.mo at mu nJ t⊢;clear ey;by_cases vB:((n+719468-ag.ty ((n+719468)*400/146097+1))*5+2)/153+3>12
  case pos=>
   rw[if_pos vB,if_pos vB];go_enter func121,ntmps121;go_wp2_with (first
    |(go_at_call 195;refine(nx _ _ (by omega) (by omega)).mono ?_;rintro e Y ⟨rfl,rfl⟩)
    |(go_at_call 196;refine(mh _ _ (by omega) (by omega)).mono ?_;rintro e Y ⟨rfl,rfl⟩))
   exact bodyPost_ret (v:=.agg #[V Z ((n+719468)*400/146097+1+1),V Z (((n+719468-ag.ty ((n+719468)*400/146097+1))*5+2)/153+3-12),V Z (n+719468-ag.ty ((n+719468)*400/146097+1)-ag.tm (((n+719468-ag.ty ((n+719468)*400/146097+1))*5+2)/153)+1)]) (by simp[results,results121,go_sem]) rfl ⟨rfl,(μ _ _).alloc (ι _) _⟩
  case neg=>
   rw[if_neg vB,if_neg vB];go_enter func121,ntmps121;go_wp2_with (first
    |(go_at_call 195;refine(nx _ _ (by omega) (by omega)).mono ?_;rintro e Y ⟨rfl,rfl⟩)
    |(go_at_call 196;refine(mh _ _ (by omega) (by omega)).mono ?_;rintro e Y ⟨rfl,rfl⟩))
   exact bodyPost_ret (v:=.agg #[V Z ((n+719468)*400/146097+1),V Z (((n+719468-ag.ty ((n+719468)*400/146097+1))*5+2)/153+3),V Z (n+719468-ag.ty ((n+719468)*400/146097+1)-ag.tm (((n+719468-ag.ty ((n+719468)*400/146097+1))*5+2)/153)+1)]) (by simp[results,results121,go_sem]) rfl ⟨rfl,(μ _ _).alloc (ι _) _⟩
 case neg=>
  have ey:ag.yr (n+719468)=(n+719468)*400/146097:=by unfold ag.yr;rw[if_neg hc]
  rw[ey]at hy dH EE mu nJ t⊢;unfold ag.mo at mu nJ t⊢;clear ey;by_cases vB:((n+719468-ag.ty ((n+719468)*400/146097))*5+2)/153+3>12
  case pos=>
   rw[if_pos vB,if_pos vB];go_enter func121,ntmps121;go_wp2_with (first
    |(go_at_call 195;refine(nx _ _ (by omega) (by omega)).mono ?_;rintro e Y ⟨rfl,rfl⟩)
    |(go_at_call 196;refine(mh _ _ (by omega) (by omega)).mono ?_;rintro e Y ⟨rfl,rfl⟩))
   exact bodyPost_ret (v:=.agg #[V Z ((n+719468)*400/146097+1),V Z (((n+719468-ag.ty ((n+719468)*400/146097))*5+2)/153+3-12),V Z (n+719468-ag.ty ((n+719468)*400/146097)-ag.tm (((n+719468-ag.ty ((n+719468)*400/146097))*5+2)/153)+1)]) (by simp[results,results121,go_sem]) rfl ⟨rfl,(μ _ _).alloc (ι _) _⟩
  case neg=>
   rw[if_neg vB,if_neg vB];go_enter func121,ntmps121;go_wp2_with (first
    |(go_at_call 195;refine(nx _ _ (by omega) (by omega)).mono ?_;rintro e Y ⟨rfl,rfl⟩)
    |(go_at_call 196;refine(mh _ _ (by omega) (by omega)).mono ?_;rintro e Y ⟨rfl,rfl⟩))
   exact bodyPost_ret (v:=.agg #[V Z ((n+719468)*400/146097),V Z (((n+719468-ag.ty ((n+719468)*400/146097))*5+2)/153+3),V Z (n+719468-ag.ty ((n+719468)*400/146097)-ag.tm (((n+719468-ag.ty ((n+719468)*400/146097))*5+2)/153)+1)]) (by simp[results,results121,go_sem]) rfl ⟨rfl,(μ _ _).alloc (ι _) _⟩
end Go.Proofs.YthpndgcaoeokeaaGreatDoor
namespace Go.Proofs.YthpndgcaoeokeaaGreatDoor
open Tryz
open Go.RowKit Go.Sort
def pF (y m d:Int):Bool:=decide (1<=m)&&decide (m<=12)&&decide (1<=d)&&decide (d<=ag.md y m)
theorem tD (y m d:Int):pF y m d=true↔ag.Valid y m d:=by
 simp[pF,ag.Valid,and_assoc]
theorem Pb (a b c x y z:Int)(w:κ):
 (Op.equalIn 10000 106 (.agg #[V Z a,V Z b,V Z c]) (.agg #[V Z x,V Z y,V Z z])).run prog w=.ok ((a==x)&&(b==y)&&(c==z)) w:=by
 have hs:(prog.info? 3).isSome=true:=by kernel_rfl
 obtain⟨i,S⟩:=Option.isSome_iff_exists.1 hs;have hc:prog.cellsOf 3=1:=by kernel_rfl
 rw[run_equalIn_array w 9999 _ _ underlying106 S,hc];rw[show Ψ 3=[0,1,2]from rfl];by_cases G:a=x<;>by_cases A:b=y<;>by_cases K:c=z<;>simp[Op.eqItems,part,go_sem,G,A,K]
theorem aex {y m d:Int}(hy:1<=y)(hm:0<=m)(hd:0<=d):
 (ag.aq (ag.num y m d)==y&&ag.ofM (ag.num y m d)==m&&ag.aA (ag.num y m d)==d)=pF y m d:=by
 rw[Bool.eq_iff_iff,tD,<-ag.IA hy hm hd];simp[and_assoc]
theorem Ld (W:κ)(y m d:Int)(D:Nat)(os:Array Obj)(h0:1<=y)(G:y<=10000)(A:0<=m)(K:m<=100)(h4:0<=d)(h5:d<=100):
 ξ prog 120 #[.agg #[V Z y,V Z m,V Z d]] (grow (redrawn W D) os) λe az=>e=δ (V Z (ag.num y m d))/\∃p:Regrown,az=grow (redrawn W p.d) p.os:=
 Calls.regrown_of (sV y m d _ h0 G A K h4 h5)
theorem TG (W:κ)(n:Int)(D:Nat)(os:Array Obj)(h0:-719468<=n)(G:n<=1000000):
 ξ prog 121 #[V Z n] (grow (redrawn W D) os) λe az=>e=δ (.agg #[V Z (ag.aq n),V Z (ag.ofM n),V Z (ag.aA n)])/\∃p:Regrown,az=grow (redrawn W p.d) p.os:=
 Calls.regrown_of (yi n _ h0 G)
theorem IF (y m d:Int)(w:κ)(h0:1<=y)(G:y<=2199)(A:0<=m)(K:m<=99)(h4:0<=d)(h5:d<=99):
 ξ prog 124 #[.agg #[V Z y,V Z m,V Z d]] w λe Y=>e=δ (.bool (pF y m d))/\Below w.heap.size w Y:=by
 have hn:-719468<=ag.num y m d/\ag.num y m d<=1000000:=by
  unfold ag.num ag.ty ag.tm;split<;>omega
 go_enter func124,ntmps124;go_wp2;have al:Below w.heap.size w (w.alloc (θ #[V Z y,V Z m,V Z d] 106)):=(μ _ _).alloc (ι _) _;have c0:(w.alloc (θ #[V Z y,V Z m,V Z d] 106)).cell? ⟨w.heap.size,0,none⟩=some (V Z y):=by simp[go_sem]
 have c1:(w.alloc (θ #[V Z y,V Z m,V Z d] 106)).cell? ⟨w.heap.size,1,none⟩=some (V Z m):=by simp[go_sem]
 have c2:(w.alloc (θ #[V Z y,V Z m,V Z d] 106)).cell? ⟨w.heap.size,2,none⟩=some (V Z d):=by simp[go_sem]
 generalize(w.alloc (θ #[V Z y,V Z m,V Z d] 106))=W at *
 have heq:=Pb;have k0:=cell_regrown c0;have k1:=cell_regrown c1;have k2:=cell_regrown c2;clear c0 c1 c2;refine wp_region_quiet_below (by kernel_rfl) (by kernel_rfl) ?_
 repeat(go_big_quiet_step (first|exact Ld W _ _ _ _ _ (by omega) (by omega) (by omega) (by omega) (by omega) (by omega)|exact TG W _ _ _ (by omega) (by omega)))
 refine wpQuiet_nil ?_;intro _ dD;obtain⟨⟨dq,gT⟩,ga⟩:=dD;subst ga;go_wp2;go_ret;exact⟨congrArg (λb=>Ending.returned (.bool b)) (aex h0 A h4),al.trans ((below_regrown W dq gT).mono al.size)⟩
theorem rL {W w1:κ}(U:Below W.heap.size W w1):(∀b o,b<W.heap.size->w1.cell? ⟨b,o,none⟩=W.cell? ⟨b,o,none⟩)/\(∀b o,b<W.heap.size->w1.frozen? ⟨b,o,none⟩=W.frozen? ⟨b,o,none⟩):=
 ⟨λb o h=>U.cell (p:=⟨b,o,none⟩) h,λb o h=>U.frozen (p:=⟨b,o,none⟩) h⟩
theorem yj (t:ByteArray)(a b:Nat):dX (t.extract a b)=(cut t a (b-a)).all fg:=by
 unfold dX;rw[gU]
theorem qJ {l:List UInt8}(h:l.all fg=true):bP l=iC l:=by unfold bP;rw[if_pos h]
theorem xe {l:List UInt8}(h:l.all fg=false):bP l=-1:=by unfold bP;rw[if_neg (by rw[h];exact χ)]
def zT (y m d:Int):Ο:=if 1970<=y/\y<=2199/\pF y m d=true then δ (cS y m d)else ε (bF 1)
theorem Le {y m d:Int}(h:1970<=y/\y<=2199/\pF y m d=true):zT y m d=δ (cS y m d):=by unfold zT;rw[if_pos h]
theorem xf {y m d:Int}(h:¬(1970<=y/\y<=2199/\pF y m d=true)):zT y m d=ε (bF 1):=by unfold zT;rw[if_neg h]
attribute [local go_sem] Go.wp_at_zero Go.wp_at_succ
theorem GI (t:ByteArray)(w:κ)(y m d:Int)(h8:t.size=8)(d1:dX (t.extract 0 4)=true)(d2:dX (t.extract 4 6)=true)(d3:dX (t.extract 6 t.size)=true)
 (e1:iC (t.extract 0 4).data.toList=y)(e2:iC (t.extract 4 6).data.toList=m)(e3:iC (t.extract 6 t.size).data.toList=d)
 (y0:0<=y)(y1:y<=9999)(m0:0<=m)(m1:m<=99)(d0:0<=d)(d9:d<=99):
 ξ prog 69 #[η t] w λE Y=>E=zT y m d/\Below w.heap.size w Y:=by
 have z1:(4:Int)<=t.size:=by omega
 have z2:(6:Int)<=t.size:=by omega
 have z3:(8:Int)<=t.size:=by omega
 have z4:(t.size:Int)<=8:=by omega
 have s1:(t.extract 0 4).size<=7:=by simp[ν];omega
 have s2:(t.extract 4 6).size<=7:=by simp[ν];omega
 have s3:(t.extract 6 t.size).size<=7:=by simp[ν];omega
 have H8:=H h8;have c1:=λW=>eL (t.extract 0 4) 1 W s1 d1;have c2:=λW=>eL (t.extract 4 6) 1 W s2 d2;have c3:=λW=>eL (t.extract 6 t.size) 1 W s3 d3;rw[e1]at c1;rw[e2]at c2;rw[e3]at c3;have C1:=H c1;have C2:=H c2;have C3:=H c3;clear h8 c1 c2 c3 e1 e2 e3 d1 d2 d3 s1 s2 s3;go_enter func69,ntmps69;go_wp2;go_region_held3 (λY=>True) (trivial)
  (first
   |(go_at_call_of 123 (ω (t.extract 0 4));refine(C1.out _).mono ?_;rintro e Y ⟨rfl,rfl⟩)
   |(go_at_call_of 123 (ω (t.extract 4 6));refine(C2.out _).mono ?_;rintro e Y ⟨rfl,rfl⟩)
   |(go_at_call_of 123 (ω (t.extract 6 t.size));refine(C3.out _).mono ?_;rintro e Y ⟨rfl,rfl⟩))
 all_goals
  by_cases ya:1970<=y
  case neg=>
   have ya':decide (1970<=y)=false:=by simpa using ya
   go_wp2_with (go_at_call 65;refine eT ?_);exact⟨rfl,by rw[xf (by omega)],(((μ _ _).alloc (ι _) _).alloc (by simp) _).drew⟩
  case pos=>
   by_cases yb:y<=2199
   case neg=>
    have yb':decide (y<=2199)=false:=by simpa using yb
    go_wp2_with (go_at_call 65;refine eT ?_);exact⟨rfl,by rw[xf (by omega)],(((μ _ _).alloc (ι _) _).alloc (by simp) _).drew⟩
   case pos=>
    have al:Below w.heap.size w (((w.alloc (θ #[V Z 0,V Z 0,V Z 0] 106)).alloc (θ #[V Z y,V Z m,V Z d] 106)).drew):=(((μ _ _).alloc (ι _) _).alloc (by simp) _).drew;cases hv:pF y m d
    case false=>
     go_wp2_with (first
      |(go_at_call_of 65 (ρ true);refine dp ?_)
      |(go_at_call_of 65 (ρ false);refine eT ?_)
      |(go_at_call 124;refine(IF _ _ _ _ (by omega) (by omega) (by omega) (by omega) (by omega) (by omega)).mono ?_;rintro e w1 ⟨rfl,au⟩;rw[hv]))
     exact⟨rfl,by rw[xf (by simp[hv])],al.trans (au.mono al.size)⟩
    case true=>
     go_wp2_with (first
      |(go_at_call 65;refine dp ?_)
      |(go_at_call 124;refine(IF _ _ _ _ (by omega) (by omega) (by omega) (by omega) (by omega) (by omega)).mono ?_;rintro e w1 ⟨rfl,au⟩;rw[hv];obtain⟨hc,hf⟩:=rL au;have hz:=au.size))
     have i0:(w1.cell? ⟨w.heap.size,0,none⟩).isSome=true:=by rw[hc _ _ (by simp;omega)];simp[go_sem]
     have i1:(w1.cell? ⟨w.heap.size,1,none⟩).isSome=true:=by rw[hc _ _ (by simp;omega)];simp[go_sem]
     have i2:(w1.cell? ⟨w.heap.size,2,none⟩).isSome=true:=by rw[hc _ _ (by simp;omega)];simp[go_sem]
     exact bodyPost_ret (v:=.agg #[V Z y,V Z m,V Z d]) (by simp[results,results69,go_sem,i0,i1,i2]) rfl
      ⟨by rw[Le ⟨ya,yb,hv⟩];rfl,(((al.trans (au.mono al.size)).setCell (ι _) _).setCell (ι _) _).setCell (ι _) _⟩
end Go.Proofs.YthpndgcaoeokeaaGreatDoor
namespace Go.Proofs.YthpndgcaoeokeaaGreatDoor
open Tryz
open Go.RowKit Go.Sort
theorem cT (i:Nat){P:Ρ}{md:Region.Mode}{ops:Array ϋ}{Q:Exit->Ω->κ->Prop}{fuel:Nat}{listed:Array Bool}{a:Ω}{w:κ}{oi:ϋ}{v:Value}
 (h:wpAny P md ops Q fuel (listed.setIfInBounds i true) (a.put oi.dst v) w)
 (S:ops[i]?=some oi:=by rfl)(hs:Region.noSelect ops=true:=by kernel_rfl)(hf:Region.free md ops listed i=true:=by kernel_rfl)
 (hr:(Region.ready md ops listed).contains i=true:=by kernel_rfl)
 (hw:Region.wanted oi (yielded ops a.tmps)=true:=by rfl)
 (hy:∀w,(execOp a.eval oi).run P w=.ok (.value v) w:=by intro w;go_simp<;>with_reducible rfl)
 (hQ:∀c a w,Q (.panic c) (a.put oi.dst v) w->Q (.panic c) a w:=by exact λ_ _ _ h=>h):
 wpAny P md ops Q (fuel+1) listed a w:=wpAny_take S hs hf hr hQ (.inl ⟨hw,hy⟩) h
theorem lu (i:Nat){P:Ρ}{md:Region.Mode}{ops:Array ϋ}{Q:Exit->Ω->κ->Prop}{fuel:Nat}{listed:Array Bool}{a:Ω}{w:κ}{o:ϋ}
 (h:∀K':Ω->κ->Prop,(∀a w,wpAny P md ops Q fuel (listed.setIfInBounds i true) a w->K' a w)->if Region.wanted o (yielded ops a.tmps)=true then Oper.wp P o a w K' Q else K' (a.put o.dst undef) w)
 (ho:ops[i]?=some o:=by rfl)(hr:Region.ready md ops listed=[i]:=by kernel_rfl):
 wpAny P md ops Q (fuel+1) listed a w:=wpAny_ready hr (by simp) (ο ho h ψ)
theorem aF {l:Array Edge}{atz:Nat->Ω->κ->Prop}{a:Ω}{w:κ}(h:∀e∈l,Region.binds .any e=true->atz e.on a w)(i:Nat)(m:(⟨i,.data⟩:Edge)∈l:=by simp):atz i a w:=h _ m rfl
theorem gua {l:Array Edge}{atz:Nat->Ω->κ->Prop}{a:Ω}{w:κ}(h:∀e∈l,Region.binds .any e=true->atz e.on a w)(i:Nat)(m:(⟨i,.guard⟩:Edge)∈l:=by simp):atz i a w:=h _ m rfl
theorem Lf (t:ByteArray)(w:κ)(h8:t.size=8)(d1:dX (t.extract 0 4)=false):
 ξ prog 69 #[η t] w λE Y=>E=ε (bF 1)/\Below w.heap.size w Y:=by
 have z1:(4:Int)<=t.size:=by omega
 have z2:(6:Int)<=t.size:=by omega
 have z3:(8:Int)<=t.size:=by omega
 have z4:(t.size:Int)<=8:=by omega
 have s1:(t.extract 0 4).size<=7:=by simp[ν];omega
 have c1:=λW=>jP (t.extract 0 4) 1 W s1 d1;have C1:=H c1;have H8:=H h8;clear h8 c1 d1 s1;go_enter func69,ntmps69;go_wp2;refine wp_region_any (by kernel_rfl) ?_;change wpAny _ _ _ _ _ _ _ (Κ _);refine cT 0 ?_;refine cT 1 ?_;refine cT 3 ?_;refine cT 4 ?_;refine cT 6 ?_;refine cT 7 ?_;refine wpAny_ready (rs:=[2,10]) (by kernel_rfl) (by simp) ?_;refine ο rfl (λatH hK=>?_) (ο rfl (λatH hK=>?_) ψ)
 ·go_simp;go_wp2_with (go_at_call 123;refine(C1.out _).mono ?_;rintro e Y ⟨rfl,rfl⟩);exact⟨rfl,rfl,((μ _ _).alloc (ι _) _).drew⟩
 go_simp;refine hK _ _ ?_;clear hK atH;refine lu 2 λatH hK=>?_;go_simp;go_wp2_with (go_at_call 123;refine(C1.out _).mono ?_;rintro e Y ⟨rfl,rfl⟩);exact⟨rfl,rfl,(((μ _ _).alloc (ι _) _).alloc (by simp) _).drew⟩
theorem Lg (t:ByteArray)(w:κ)(h8:t.size=8)(d1:dX (t.extract 0 4)=true)(d2:dX (t.extract 4 6)=false):
 ξ prog 69 #[η t] w λE Y=>E=ε (bF 1)/\Below w.heap.size w Y:=by
 have z1:(4:Int)<=t.size:=by omega
 have z2:(6:Int)<=t.size:=by omega
 have z3:(8:Int)<=t.size:=by omega
 have z4:(t.size:Int)<=8:=by omega
 have s1:(t.extract 0 4).size<=7:=by simp[ν];omega
 have c1:=λW=>eL (t.extract 0 4) 1 W s1 d1;have C1:=H c1;have s2:(t.extract 4 6).size<=7:=by simp[ν];omega
 have c2:=λW=>jP (t.extract 4 6) 1 W s2 d2;have C2:=H c2;have H8:=H h8;clear h8 c1 d1 s1 c2 d2 s2;go_enter func69,ntmps69;go_wp2;refine wp_region_any (by kernel_rfl) ?_;change wpAny _ _ _ _ _ _ _ (Κ _);refine cT 0 ?_;refine cT 1 ?_;refine cT 3 ?_;refine cT 4 ?_;refine cT 6 ?_;refine cT 7 ?_;refine wpAny_ready (rs:=[2,10]) (by kernel_rfl) (by simp) ?_;refine ο rfl (λatH hK=>?_) (ο rfl (λatH hK=>?_) ψ)
 ·go_simp;go_wp2_with (go_at_call 123;refine(C1.out _).mono ?_;rintro e Y ⟨rfl,rfl⟩)
  try(refine hK _ _ ?_;clear hK atH)
  refine wpAny_ready (rs:=[5,10]) (by kernel_rfl) (by simp) ?_;refine ο rfl (λatH hK=>?_) (ο rfl (λatH hK=>?_) ψ)
  ·go_simp;go_wp2_with (go_at_call 123;refine(C2.out _).mono ?_;rintro e Y ⟨rfl,rfl⟩);exact⟨rfl,rfl,((μ _ _).alloc (ι _) _).drew⟩
  go_simp;refine hK _ _ ?_;clear hK atH;refine lu 5 λatH hK=>?_;go_simp;go_wp2_with (go_at_call 123;refine(C2.out _).mono ?_;rintro e Y ⟨rfl,rfl⟩);exact⟨rfl,rfl,(((μ _ _).alloc (ι _) _).alloc (by simp) _).drew⟩
 go_simp;refine hK _ _ ?_;clear hK atH;refine lu 2 λatH hK=>?_;go_simp;go_wp2_with (go_at_call 123;refine(C1.out _).mono ?_;rintro e Y ⟨rfl,rfl⟩)
 try(refine hK _ _ ?_;clear hK atH)
 refine lu 5 λatH hK=>?_;go_simp;go_wp2_with (go_at_call 123;refine(C2.out _).mono ?_;rintro e Y ⟨rfl,rfl⟩);exact⟨rfl,rfl,(((μ _ _).alloc (ι _) _).alloc (by simp) _).drew⟩
theorem Lh (t:ByteArray)(w:κ)(h8:t.size=8)(d1:dX (t.extract 0 4)=true)(d2:dX (t.extract 4 6)=true)(d3:dX (t.extract 6 t.size)=false):
 ξ prog 69 #[η t] w λE Y=>E=ε (bF 1)/\Below w.heap.size w Y:=by
 have z1:(4:Int)<=t.size:=by omega
 have z2:(6:Int)<=t.size:=by omega
 have z3:(8:Int)<=t.size:=by omega
 have z4:(t.size:Int)<=8:=by omega
 have s1:(t.extract 0 4).size<=7:=by simp[ν];omega
 have c1:=λW=>eL (t.extract 0 4) 1 W s1 d1;have C1:=H c1;have s2:(t.extract 4 6).size<=7:=by simp[ν];omega
 have c2:=λW=>eL (t.extract 4 6) 1 W s2 d2;have C2:=H c2;have s3:(t.extract 6 t.size).size<=7:=by simp[ν];omega
 have c3:=λW=>jP (t.extract 6 t.size) 1 W s3 d3;have C3:=H c3;have H8:=H h8;clear h8 c1 d1 s1 c2 d2 s2 c3 d3 s3;go_enter func69,ntmps69;go_wp2;refine wp_region_any (by kernel_rfl) ?_;change wpAny _ _ _ _ _ _ _ (Κ _);refine cT 0 ?_;refine cT 1 ?_;refine cT 3 ?_;refine cT 4 ?_;refine cT 6 ?_;refine cT 7 ?_;refine wpAny_ready (rs:=[2,10]) (by kernel_rfl) (by simp) ?_;refine ο rfl (λatH hK=>?_) (ο rfl (λatH hK=>?_) ψ)
 ·go_simp;go_wp2_with (go_at_call 123;refine(C1.out _).mono ?_;rintro e Y ⟨rfl,rfl⟩)
  try(refine hK _ _ ?_;clear hK atH)
  refine wpAny_ready (rs:=[5,10]) (by kernel_rfl) (by simp) ?_;refine ο rfl (λatH hK=>?_) (ο rfl (λatH hK=>?_) ψ)
  ·go_simp;go_wp2_with (go_at_call 123;refine(C2.out _).mono ?_;rintro e Y ⟨rfl,rfl⟩)
   try(refine hK _ _ ?_;clear hK atH)
   refine wpAny_ready (rs:=[8,10]) (by kernel_rfl) (by simp) ?_;refine ο rfl (λatH hK=>?_) (ο rfl (λatH hK=>?_) ψ)
   ·go_simp;go_wp2_with (go_at_call 123;refine(C3.out _).mono ?_;rintro e Y ⟨rfl,rfl⟩);exact⟨rfl,rfl,((μ _ _).alloc (ι _) _).drew⟩
   go_simp;refine hK _ _ ?_;clear hK atH;refine lu 8 λatH hK=>?_;go_simp;go_wp2_with (go_at_call 123;refine(C3.out _).mono ?_;rintro e Y ⟨rfl,rfl⟩);exact⟨rfl,rfl,(((μ _ _).alloc (ι _) _).alloc (by simp) _).drew⟩
  go_simp;refine hK _ _ ?_;clear hK atH;refine lu 5 λatH hK=>?_;go_simp;go_wp2_with (go_at_call 123;refine(C2.out _).mono ?_;rintro e Y ⟨rfl,rfl⟩)
  try(refine hK _ _ ?_;clear hK atH)
  refine lu 8 λatH hK=>?_;go_simp;go_wp2_with (go_at_call 123;refine(C3.out _).mono ?_;rintro e Y ⟨rfl,rfl⟩);exact⟨rfl,rfl,(((μ _ _).alloc (ι _) _).alloc (by simp) _).drew⟩
 go_simp;refine hK _ _ ?_;clear hK atH;refine lu 2 λatH hK=>?_;go_simp;go_wp2_with (go_at_call 123;refine(C1.out _).mono ?_;rintro e Y ⟨rfl,rfl⟩)
 try(refine hK _ _ ?_;clear hK atH)
 refine lu 5 λatH hK=>?_;go_simp;go_wp2_with (go_at_call 123;refine(C2.out _).mono ?_;rintro e Y ⟨rfl,rfl⟩)
 try(refine hK _ _ ?_;clear hK atH)
 refine lu 8 λatH hK=>?_;go_simp;go_wp2_with (go_at_call 123;refine(C3.out _).mono ?_;rintro e Y ⟨rfl,rfl⟩);exact⟨rfl,rfl,(((μ _ _).alloc (ι _) _).alloc (by simp) _).drew⟩
theorem Ox (t:ByteArray)(w:κ)(h8:t.size=8):
 ξ prog 69 #[η t] w λE Y=>E=zT (bP (cut t 0 4)) (bP (cut t 4 2)) (bP (cut t 6 2))/\Below w.heap.size w Y:=by
 have a1:dX (t.extract 0 4)=(cut t 0 4).all fg:=yj t 0 4;have a2:dX (t.extract 4 6)=(cut t 4 2).all fg:=yj t 4 6;have a3:dX (t.extract 6 t.size)=(cut t 6 2).all fg:=by rw[yj,h8]
 have no:∀{y m d:Int},(y=-1\/m=-1\/d=-1)->zT y m d=ε (bF 1):=by
  intro y m d h;refine xf ?_;rintro⟨q1,q2,q3⟩;obtain⟨q4,q5,q6,q7⟩:=(tD y m d).1 q3;omega
 cases d1:dX (t.extract 0 4)
 ·rw[no (.inl (xe (by rw[<-a1];exact d1)))];exact Lf t w h8 d1
 cases d2:dX (t.extract 4 6)
 ·rw[no (.inr (.inl (xe (by rw[<-a2];exact d2))))];exact Lg t w h8 d1 d2
 cases d3:dX (t.extract 6 t.size)
 ·rw[no (.inr (.inr (xe (by rw[<-a3];exact d3))))];exact Lh t w h8 d1 d2 d3
 have b1:=qJ (l:=cut t 0 4) (by rw[<-a1];exact d1);have b2:=qJ (l:=cut t 4 2) (by rw[<-a2];exact d2);have b3:=qJ (l:=cut t 6 2) (by rw[<-a3];exact d3);have r1:=qI (cut t 0 4) 4 (by rw[tB t 0 4 (by omega)];omega) (by rw[<-a1];exact d1);have r2:=qI (cut t 4 2) 2 (by rw[tB t 4 2 (by omega)];omega) (by rw[<-a2];exact d2);have r3:=qI (cut t 6 2) 2 (by rw[tB t 6 2 (by omega)];omega) (by rw[<-a3];exact d3);rw[b1,b2,b3];exact GI t w _ _ _ h8 d1 d2 d3 (by rw[gU]) (by rw[gU]) (by rw[gU,h8]) r1.1 (by omega) r2.1 (by omega) r3.1 (by omega)
def xg (n last:Int):Ο:=if 0<=n/\n<=last then δ (V Z n)else ε (bF 1)
theorem tE {n last:Int}(h:0<=n/\n<=last):xg n last=δ (V Z n):=by unfold xg;rw[if_pos h]
theorem si {n last:Int}(h:¬(0<=n/\n<=last)):xg n last=ε (bF 1):=by unfold xg;rw[if_neg h]
theorem Ki (t:ByteArray)(last:Int)(w:κ)(A:t.size=2):
 ξ prog 70 #[η t,V Z last] w λE Y=>E=xg (bP t.data.toList) last/\w=Y:=by
 cases hd:dX t
 case false=>
  rw[xe hd,si (by omega)];have c:=jP t 1 w (by omega) hd;have C:=H c;clear c hd;go_enter func70,ntmps70;go_wp2_with (go_at_call 123;refine(C.out).mono ?_;rintro e Y ⟨rfl,rfl⟩);exact⟨rfl,rfl,rfl⟩
 case true=>
  have N:t.data.toList.length=2:=by rw[Β];exact A
  have U:=qI t.data.toList 2 (by omega) hd;rw[qJ hd];have c:=eL t 1 w (by omega) hd;generalize iC t.data.toList=n at *
  have C:=H c;clear c hd N;by_cases hn:n<=last
  case pos=>
   rw[tE ⟨U.1,hn⟩];go_enter func70,ntmps70;go_wp2_with (first
    |(go_at_call 123;refine(C.out).mono ?_;rintro e Y ⟨rfl,rfl⟩)
    |(go_at_call_of 65 (ρ true);refine dp ?_))
   go_ret;exact⟨rfl,rfl⟩
  case neg=>
   rw[si (by omega)];have TH:decide (n<=last)=false:=by simpa using hn
   go_enter func70,ntmps70;go_wp2_with (first
    |(go_at_call 123;refine(C.out).mono ?_;rintro e Y ⟨rfl,rfl⟩)
    |(go_at_call_of 65 (ρ false);refine eT ?_))
   exact⟨rfl,rfl,rfl⟩
theorem gN {x:Int}(h0:-9223372036854775808<=x)(G:x<=9223372036854775807):IntKind.i64.wrap x=x:=by
 rw[IntKind.wrap_i64];omega
theorem acH (y m d:Int)(h0:1<=y)(G:y<=10000)(A:0<=m)(K:m<=100)(h4:0<=d)(h5:d<=100):-1000000000<=ag.num y m d/\ag.num y m d<=1000000000:=by
 unfold ag.num;by_cases hm:m-3<0
 ·have t1:=KN (y-1) (by omega) (by omega);have t2:=vA (m-3+12) (by omega) (by omega);rw[if_pos hm];omega
 have t1:=KN y (by omega) (by omega);have t2:=vA (m-3) (by omega) (by omega);rw[if_neg hm];omega
theorem mH (y m d:Int)(w:κ)(h0:1<=y)(G:y<=10000)(A:0<=m)(K:m<=100)(h4:0<=d)(h5:d<=100):
 ξ prog 64 #[.agg #[V Z y,V Z m,V Z d]] w λe Y=>e=δ (V Z (ag.num y m d*86400))/\Below w.heap.size w Y:=by
 have N:=acH y m d h0 G A K h4 h5;go_enter func64,ntmps64;go_wp2_with (go_at_call 120;refine(sV _ _ _ _ (by omega) (by omega) (by omega) (by omega) (by omega) (by omega)).mono ?_;rintro e w1 ⟨rfl,U⟩);go_ret;exact⟨rfl,((μ _ _).alloc (ι _) _).trans (U.mono (by simp))⟩
theorem EF (n:Int)(w:κ)(h0:0<=n)(G:n<=7258118400):
 ξ prog 66 #[V Z n] w λe Y=>e=δ (cS (ag.aq (n/86400)) (ag.ofM (n/86400)) (ag.aA (n/86400)))/\Below w.heap.size w Y:=by
 have hn:∀o,(w.alloc (θ #[V Z 0,V Z 0,V Z 0] 106)).frozen? ⟨w.heap.size,o,none⟩=false:=λo=>by simp[go_sem]
 go_enter func66,ntmps66;go_wp2_with (go_at_call 121;refine(yi _ _ (by omega) (by omega)).mono ?_;rintro e w2 ⟨rfl,aO⟩;unfold cS;have c0:w2.cell? ⟨w.heap.size,0,none⟩=some (V Z 0):=(by rw[aO.cell (p:=⟨w.heap.size,0,none⟩) (by simp)];simp[go_sem]);have c1:w2.cell? ⟨w.heap.size,1,none⟩=some (V Z 0):=(by rw[aO.cell (p:=⟨w.heap.size,1,none⟩) (by simp)];simp[go_sem]);have c2:w2.cell? ⟨w.heap.size,2,none⟩=some (V Z 0):=(by rw[aO.cell (p:=⟨w.heap.size,2,none⟩) (by simp)];simp[go_sem]);have f0:w2.frozen? ⟨w.heap.size,0,none⟩=false:=((rL aO).2 w.heap.size 0 (by simp)).trans (hn 0);have f1:w2.frozen? ⟨w.heap.size,1,none⟩=false:=((rL aO).2 w.heap.size 1 (by simp)).trans (hn 1);have f2:w2.frozen? ⟨w.heap.size,2,none⟩=false:=((rL aO).2 w.heap.size 2 (by simp)).trans (hn 2));have al:Below w.heap.size w w2:=((μ _ _).alloc (ι _) _).trans (aO.mono (by simp));exact bodyPost_ret (v:=cS (ag.aq (n/86400)) (ag.ofM (n/86400)) (ag.aA (n/86400))) (by simp[results,results66,go_sem,c0,c1,c2,cS]) rfl ⟨rfl,((al.setCell (ι _) _).setCell (ι _) _).setCell (ι _) _⟩
def XX (s:ByteArray)(a b:Nat)(t:Int)(atD:Ο)(atH:Int->Prop):Prop:=
 ((∀W,ξ prog 70 #[η (s.extract a b),V Z t] W λE Y=>E=ε (bF 1)/\Below W.heap.size W Y)/\atD=ε (bF 1))\/
 ∃h:Int,0<=h/\h<=59/\(∀W,ξ prog 70 #[η (s.extract a b),V Z t] W λE Y=>E=δ (V Z h)/\Below W.heap.size W Y)/\atH h
theorem nY (s:ByteArray)(w:κ)(atD:Ο)(hz:s.size=16)(h8:pA s 8=84)(zm:pA s 15=90)
 (atA:((∀W,ξ prog 69 #[η (s.extract 0 8)] W λE Y=>E=ε (bF 1)/\Below W.heap.size W Y)/\atD=ε (bF 1))\/
  ∃y m d:Int,1970<=y/\y<=2199/\ag.Valid y m d/\(∀W,ξ prog 69 #[η (s.extract 0 8)] W λE Y=>E=δ (.agg #[V Z y,V Z m,V Z d])/\Below W.heap.size W Y)/\
   XX s 9 11 23 atD λh=>XX s 11 13 59 atD λi=>XX s 13 15 59 atD λc=>atD=δ (V Z (ag.num y m d*86400+h*3600+i*60+c))):
 ξ prog 39 #[η s] w λE Y=>E=atD/\Below w.heap.size w Y:=by
 have z0:((s.size:Int)==16)=true:=by simp[hz]
 have z1:(15:Int)<s.size:=by omega
 have z15:15<s.size:=by omega
 have z8:(8:Int)<=s.size:=by omega
 have z11:(11:Int)<=s.size:=by omega
 have z13:(13:Int)<=s.size:=by omega
 have z16:(15:Int)<=s.size:=by omega
 clear hz;have Pc:(((s[8]'(by omega)).toNat:Int)==84)=true:=by rw[tP s 8 (by omega),h8];rfl
 have amz:(((s[15]'(by omega)).toNat:Int)==90)=true:=by rw[tP s 15 (by omega),zm];rfl
 have HH:=H atA;clear h8 zm atA;go_enter func39,ntmps39;go_wp2_with (first
  |(go_at_call_of 65 (ρ true);refine dp ?_))
 refine wp_region_any (by kernel_rfl) ?_;change wpAny _ _ _ _ _ _ _ (Κ _);refine cT 0 ?_;refine cT 1 ?_;refine cT 4 ?_;refine cT 5 ?_;refine cT 9 ?_;refine cT 10 ?_;refine cT 14 ?_;refine cT 15 ?_;refine lu 2 λatH hK=>?_;rcases HH.out with⟨cc,rfl⟩|⟨y,m,d,y0,y1,vd,cc,atA⟩
 ·have C0:=H cc;clear cc HH;go_simp;go_wp2_with (go_at_call 69;refine(C0.out _).mono ?_;rintro e u0 ⟨rfl,bh⟩);exact⟨rfl,rfl,(μ _ _).drew.trans bh⟩
 have C0:=H cc;have nb:=Tx y0 y1 vd;obtain⟨v1,v2,v3,v4⟩:=vd;have md:=ag.rJ y m;have H1:=H atA;clear cc HH atA;go_simp;go_wp2_with (go_at_call 69;refine(C0.out _).mono ?_;rintro e u0 ⟨rfl,bh⟩)
 try(refine hK _ _ ?_;clear hK atH)
 refine lu 3 λatH hK=>?_;go_simp;go_wp2_with (go_at_call 64;refine(mH _ _ _ _ (by omega) (by omega) (by omega) (by omega) (by omega) (by omega)).mono ?_;rintro e un ⟨rfl,zU⟩)
 try(refine hK _ _ ?_;clear hK atH)
 have bn:Below w.heap.size w un:=((μ _ _).drew.trans bh).trans (zU.mono bh.size);clear bh zU C0;refine lu 6 λatH hK=>?_;rcases H1.out with⟨cc,rfl⟩|⟨h,h0,G,cc,atA⟩
 ·have C1:=H cc;clear cc H1;go_simp;go_wp2_with (go_at_call 70;refine(C1.out _).mono ?_;rintro e u1 ⟨rfl,au⟩);exact⟨rfl,rfl,bn.trans (au.mono bn.size)⟩
 have C1:=H cc;have H2:=H atA;clear cc atA H1;go_simp;go_wp2_with (go_at_call 70;refine(C1.out _).mono ?_;rintro e u1 ⟨rfl,au⟩)
 try(refine hK _ _ ?_;clear hK atH)
 have b1:Below w.heap.size w u1:=bn.trans (au.mono bn.size);clear bn au C1;have e1m:IntKind.i64.wrap (h*3600)=h*3600:=gN (by omega) (by omega);refine cT 7 ?_;have e1a:IntKind.i64.wrap (ag.num y m d*86400+h*3600)=ag.num y m d*86400+h*3600:=gN (by omega) (by omega);refine cT 8 ?_;refine lu 11 λatH hK=>?_;rcases H2.out with⟨cc,rfl⟩|⟨i,i0,i1,cc,atA⟩
 ·have C2:=H cc;clear cc H2;go_simp;go_wp2_with (go_at_call 70;refine(C2.out _).mono ?_;rintro e u2 ⟨rfl,aO⟩);exact⟨rfl,rfl,b1.trans (aO.mono b1.size)⟩
 have C2:=H cc;have H3:=H atA;clear cc atA H2;go_simp;go_wp2_with (go_at_call 70;refine(C2.out _).mono ?_;rintro e u2 ⟨rfl,aO⟩)
 try(refine hK _ _ ?_;clear hK atH)
 have b2:Below w.heap.size w u2:=b1.trans (aO.mono b1.size);clear b1 aO C2;have e2m:IntKind.i64.wrap (i*60)=i*60:=gN (by omega) (by omega);refine cT 12 ?_;have e2a:IntKind.i64.wrap (ag.num y m d*86400+h*3600+i*60)=ag.num y m d*86400+h*3600+i*60:=gN (by omega) (by omega);refine cT 13 ?_;refine lu 16 λatH hK=>?_;rcases H3.out with⟨cc,rfl⟩|⟨c,c0,c1,cc,rfl⟩
 ·have C3:=H cc;clear cc H3;go_simp;go_wp2_with (go_at_call 70;refine(C3.out _).mono ?_;rintro e u3 ⟨rfl,aR⟩);exact⟨rfl,rfl,b2.trans (aR.mono b2.size)⟩
 have C3:=H cc;clear cc H3;go_simp;go_wp2_with (go_at_call 70;refine(C3.out _).mono ?_;rintro e u3 ⟨rfl,aR⟩)
 try(refine hK _ _ ?_;clear hK atH)
 have b3:Below w.heap.size w u3:=b2.trans (aR.mono b2.size);have e3a:IntKind.i64.wrap (ag.num y m d*86400+h*3600+i*60+c)=ag.num y m d*86400+h*3600+i*60+c:=gN (by omega) (by omega);refine cT 17 ?_;refine cT 18 ?_;refine wpAny_done (by kernel_rfl) ?_ _;go_wp2;go_ret;exact⟨rfl,b3⟩
def tF (s:ByteArray):Ο:=if lq s=true then δ (V Z (jA s))else ε (bF 1)
theorem vC {s:ByteArray}(h:nW s):tF s=δ (V Z (jA s)):=by unfold tF;rw[if_pos (gw.2 h)]
theorem ko {s:ByteArray}(h:¬nW s):tF s=ε (bF 1):=by unfold tF;rw[if_neg (λe=>h (gw.1 e))]
theorem GJ (s:ByteArray)(a b c d:Nat)(h:c+d<=b-a):cut (s.extract a b) c d=cut s (a+c) d:=by
 unfold cut;have:(s.extract a b).data.toList=cut s a (b-a):=gU s a b;rw[this];unfold cut;rw[List.drop_take,List.take_take,List.drop_drop,Nat.min_eq_left (by omega)]
theorem zV (s:ByteArray)(w:κ):
 ξ prog 39 #[η s] w λE Y=>E=tF s/\Below w.heap.size w Y:=by
 by_cases hz:s.size=16
 case neg=>
  rw[ko (λh=>hz h.1)];have IG:((s.size:Int)==16)=false:=by rw[beq_eq_false_iff_ne];omega
  clear hz;go_enter func39,ntmps39;go_wp2_with (go_at_call_of 65 (ρ false);refine eT ?_);exact⟨rfl,rfl,μ _ _⟩
 have z0:((s.size:Int)==16)=true:=by simp[hz]
 have z15:15<s.size:=by omega
 have e8:=tP s 8 (by omega);have uk:=tP s 15 (by omega);by_cases h8:pA s 8=84
 case neg=>
  rw[ko (λh=>h8 h.2.1)];have Pc:(((s[8]'(by omega)).toNat:Int)==84)=false:=by rw[beq_eq_false_iff_ne,e8];exact h8
  clear h8 e8 uk;go_enter func39,ntmps39;go_wp2_with (first
   |(go_at_call_of 65 (ρ true);refine dp ?_)
   |(go_at_call_of 65 (ρ false);refine eT ?_))
  exact⟨rfl,rfl,μ _ _⟩
 by_cases zm:pA s 15=90
 case neg=>
  rw[ko (λh=>zm h.2.2.1)];have Pc:(((s[8]'(by omega)).toNat:Int)==84)=true:=by rw[e8,h8];rfl
  have amz:(((s[15]'(by omega)).toNat:Int)==90)=false:=by rw[beq_eq_false_iff_ne,uk];exact zm
  clear h8 e8 uk zm;go_enter func39,ntmps39;go_wp2_with (first
   |(go_at_call_of 65 (ρ true);refine dp ?_)
   |(go_at_call_of 65 (ρ false);refine eT ?_))
  exact⟨rfl,rfl,μ _ _⟩
 clear e8 uk z0;have k0:∀W,ξ prog 69 #[η (s.extract 0 8)] W λE Y=>E=zT (bP (cut s 0 4)) (bP (cut s 4 2)) (bP (cut s 6 2))/\Below W.heap.size W Y:=λW=>by
  have:=Ox (s.extract 0 8) W (by simp[ν];omega);rw[GJ s 0 8 0 4 (by omega),GJ s 0 8 4 2 (by omega),GJ s 0 8 6 2 (by omega)]at this;exact this
 have kc:∀(a b:Nat) (last:Int) (W:κ),b-a=2->b<=s.size->ξ prog 70 #[η (s.extract a b),V Z last] W λE Y=>E=xg (bP (cut s a 2)) last/\Below W.heap.size W Y:=λa b last W TI U=>by
  have:=Ki (s.extract a b) last W (by simp[ν];omega);rw[gU,TI]at this;exact this.mono λE Y ⟨q1,q2⟩=>⟨q1,by rw[<-q2];exact μ _ _⟩
 have k1:=λW=>kc 9 11 23 W rfl (by omega);have k2:=λW=>kc 11 13 59 W rfl (by omega);have k3:=λW=>kc 13 15 59 W rfl (by omega);by_cases hd:1970<=bP (cut s 0 4)/\bP (cut s 0 4)<=2199/\pF (bP (cut s 0 4)) (bP (cut s 4 2)) (bP (cut s 6 2))=true
 case neg=>
  rw[ko (λh=>hd ⟨h.2.2.2.1,h.2.2.2.2.1,(tD _ _ _).2 h.2.2.2.2.2.1⟩)];rw[xf hd]at k0;exact nY s w _ hz h8 zm (.inl ⟨k0,rfl⟩)
 rw[Le hd]at k0;have hv:=(tD _ _ _).1 hd.2.2;by_cases hh:0<=bP (cut s 9 2)/\bP (cut s 9 2)<=23
 case neg=>
  rw[ko (λh=>hh ⟨h.2.2.2.2.2.2.1,h.2.2.2.2.2.2.2.1⟩)];rw[si hh]at k1;exact nY s w _ hz h8 zm (.inr ⟨_,_,_,hd.1,hd.2.1,hv,k0,.inl ⟨k1,rfl⟩⟩)
 rw[tE hh]at k1;by_cases S:0<=bP (cut s 11 2)/\bP (cut s 11 2)<=59
 case neg=>
  rw[ko (λh=>S ⟨h.2.2.2.2.2.2.2.2.1,h.2.2.2.2.2.2.2.2.2.1⟩)];rw[si S]at k2;exact nY s w _ hz h8 zm (.inr ⟨_,_,_,hd.1,hd.2.1,hv,k0,.inr ⟨_,hh.1,by omega,k1,.inl ⟨k2,rfl⟩⟩⟩)
 rw[tE S]at k2;by_cases hc:0<=bP (cut s 13 2)/\bP (cut s 13 2)<=59
 case neg=>
  rw[ko (λh=>hc ⟨h.2.2.2.2.2.2.2.2.2.2.1,h.2.2.2.2.2.2.2.2.2.2.2⟩)];rw[si hc]at k3;exact nY s w _ hz h8 zm (.inr ⟨_,_,_,hd.1,hd.2.1,hv,k0,.inr ⟨_,hh.1,by omega,k1,.inr ⟨_,S.1,S.2,k2,.inl ⟨k3,rfl⟩⟩⟩⟩)
 rw[tE hc]at k3;rw[vC ⟨hz,h8,zm,hd.1,hd.2.1,hv,hh.1,hh.2,S.1,S.2,hc.1,hc.2⟩];exact nY s w _ hz h8 zm (.inr ⟨_,_,_,hd.1,hd.2.1,hv,k0,.inr ⟨_,hh.1,by omega,k1,.inr ⟨_,S.1,S.2,k2,.inr ⟨_,hc.1,hc.2,k3,rfl⟩⟩⟩⟩)
theorem mI {P:Ρ}{Q:Exit->Ω->List Frame->κ->Prop}{a:Ω}{cs:List Frame}{w:κ}{x y:Code}
 (h:∀atH:Ω->List Frame->κ->Prop,(∀a cs w,y.wpS P Q a cs w->atH a cs w)->x.wpS P (Ζ atH Q) a cs w):(Code.seq x y).wpS P Q a cs w:=
 wpS_seq (h _ (λ_ _ _ h=>h))
theorem kW (p:Ε)(v:Value):#[Value.pointer (some p)]++((Array.replicate 16 undef).setIfInBounds 3 v).setIfInBounds 0 v=#[ζ (some p),v,undef,undef,v,undef,undef,undef,undef,undef,undef,undef,undef,undef,undef,undef,undef]:=rfl
theorem tG (e:Int)(w:κ):(Instr.typeAssert (.iface 103 (.agg #[V Z e])) 20 103 true).run prog w=.ok (.tuple #[.agg #[V Z e],.bool true]) w:=by
 kernel_rfl
theorem Kj (p:Ε)(w:κ):
 CallsD prog 68 #[ζ (some p)] .returning w λe u' Y=>e=δ (.tuple #[])/\u'=.returning/\Y=w:=by
 have hf:=kW p .nilIface;refine callsD_of_wpS func68 rfl λc₀ cs hu=>?_;refine mI λatH hK=>?_;refine wpS_region ?_;simp[wpOpsS,go_sem,recoverD,hu,ntmps68,Ζ];rw[hf];refine hK _ _ _ ?_;clear hK atH hf;refine wpS_of_wp ?_;go_wp2;cases c₀;simp_all[bodyPostS,results,results68]
theorem zW (p:Ε)(e:Int)(x:Value)(pG:List Φ)(w:κ)(hc:w.cell? p=some x)(hz:w.frozen? p=false)(J:p.block<w.heap.size):
 CallsD prog 68 #[ζ (some p)] (.panicking ({v:=.iface 103 (.agg #[V Z e]),recovered:=false}::pG)) w λE u' Y=>
  E=δ (.tuple #[])/\u'=.panicking ({v:=.iface 103 (.agg #[V Z e]),recovered:=true}::pG)/\Y=(w.alloc (θ #[V Z e] 103)).setCell p (V Z e):=by
 have hta:=tG;have fN:∀o,(w.alloc o).frozen? p=false:=λo=>by rw[Λ w o p (by omega)];exact hz
 have hf:=kW p (.iface 103 (.agg #[V Z e]));refine callsD_of_wpS func68 rfl λc₀ cs hu=>?_;refine mI λatH hK=>?_;refine wpS_region ?_;simp[wpOpsS,go_sem,recoverD,hu,ntmps68,Ζ];rw[hf];refine hK _ _ _ ?_;clear hK atH hf;refine wpS_of_wp ?_;go_wp2;exact⟨rfl,_,rfl,.tuple #[],by simp[results,results68],rfl,rfl,rfl⟩
theorem um (p:Ε)(w:κ):
 CallsD prog 63 #[ζ (some p)] .returning w λe u' Y=>e=δ (.tuple #[])/\u'=.returning/\Y=w:=by
 have hf:=kW p .nilIface;refine callsD_of_wpS func63 rfl λc₀ cs hu=>?_;refine mI λatH hK=>?_;refine wpS_region ?_;simp[wpOpsS,go_sem,recoverD,hu,ntmps63,Ζ];rw[hf];refine hK _ _ _ ?_;clear hK atH hf;refine wpS_of_wp ?_;go_wp2;cases c₀;simp_all[bodyPostS,results,results63]
theorem oW (p:Ε)(e:Int)(x:Value)(pG:List Φ)(w:κ)(hc:w.cell? p=some x)(hz:w.frozen? p=false)(J:p.block<w.heap.size):
 CallsD prog 63 #[ζ (some p)] (.panicking ({v:=.iface 103 (.agg #[V Z e]),recovered:=false}::pG)) w λE u' Y=>
  E=δ (.tuple #[])/\u'=.panicking ({v:=.iface 103 (.agg #[V Z e]),recovered:=true}::pG)/\Y=(w.alloc (θ #[V Z e] 103)).setCell p (V Z e):=by
 have hta:=tG;have fN:∀o,(w.alloc o).frozen? p=false:=λo=>by rw[Λ w o p (by omega)];exact hz
 have hf:=kW p (.iface 103 (.agg #[V Z e]));refine callsD_of_wpS func63 rfl λc₀ cs hu=>?_;refine mI λatH hK=>?_;refine wpS_region ?_;simp[wpOpsS,go_sem,recoverD,hu,ntmps63,Ζ];rw[hf];refine hK _ _ _ ?_;clear hK atH hf;refine wpS_of_wp ?_;go_wp2;exact⟨rfl,_,rfl,.tuple #[],by simp[results,results63],rfl,rfl,rfl⟩
theorem zn (g:Nat)(eg:∀args w,(callFunc g args).run prog w=.ok (.enter g args) w)(p:Ε)(n:Int)(w:κ)
 (hf:∀W,Below w.heap.size w W->ξ prog g #[ζ (some p)] W λE Y=>E=δ (V Z n)/\Below W.heap.size W Y):
 ξ prog 37 #[.func (.func g) #[] #[ζ (some p)]] w λE Y=>E=δ (.tuple #[V Z n,V Z 0])/\Below w.heap.size w Y:=by
 have uo:∀(fn:Fn) (first cap:Array Value) (w:κ),(Α fn first cap).run prog w=.ok (.func fn first cap) w:=λ_ _ _ _=>rfl;have HF:=H hf;clear hf;go_enter_defers func37,ntmps37;go_wp2_with fail;refine(HF.out _ ((μ _ _).alloc (ι _) _)).mono ?_;rintro e w1 ⟨rfl,au⟩;obtain⟨hc,qv⟩:=rL au;have hz:=au.size;have h0:w1.cell? ⟨w.heap.size,0,none⟩=some (V Z 0):=by rw[hc _ _ (by simp)];simp[go_sem]
 have G:w1.frozen? ⟨w.heap.size,0,none⟩=false:=by rw[qv _ _ (by simp)];simp[go_sem]
 have aQ:w.heap.size<w1.heap.size:=by simp at hz;omega
 have U:Below w.heap.size w w1:=((μ _ _).alloc (ι _) _).trans (au.mono (by simp));clear hc qv au hz;go_wp2;refine leaves_cons (f:=68) (args:=#[ζ (some ⟨w.heap.size,0,none⟩)]) (by simp) (by simp[go_sem]) ?_;refine(Kj _ _).mono ?_;rintro e u' az ⟨rfl,rfl,rfl⟩;refine⟨.tuple #[V Z n,V Z 0],?_,rfl,U.setCell (ι _) _⟩;simp[results,results37,go_sem,h0]
theorem zX (g:Nat)(eg:∀args w,(callFunc g args).run prog w=.ok (.enter g args) w)(p:Ε)(x:Int)(w:κ)
 (hf:∀W,Below w.heap.size w W->ξ prog g #[ζ (some p)] W λE Y=>E=ε (bF x)/\Below W.heap.size W Y):
 ξ prog 37 #[.func (.func g) #[] #[ζ (some p)]] w λE Y=>E=δ (.tuple #[V Z 0,V Z x])/\Below w.heap.size w Y:=by
 have uo:∀(fn:Fn) (first cap:Array Value) (w:κ),(Α fn first cap).run prog w=.ok (.func fn first cap) w:=λ_ _ _ _=>rfl;have HF:=H hf;clear hf;go_enter_defers func37,ntmps37;go_wp2_with fail;refine(HF.out _ ((μ _ _).alloc (ι _) _)).mono ?_;rintro e w1 ⟨rfl,au⟩;obtain⟨hc,qv⟩:=rL au;have hz:=au.size;have h0:w1.cell? ⟨w.heap.size,0,none⟩=some (V Z 0):=by rw[hc _ _ (by simp)];simp[go_sem]
 have G:w1.frozen? ⟨w.heap.size,0,none⟩=false:=by rw[qv _ _ (by simp)];simp[go_sem]
 have aQ:w.heap.size<w1.heap.size:=by simp at hz;omega
 have U:Below w.heap.size w w1:=((μ _ _).alloc (ι _) _).trans (au.mono (by simp));clear hc qv au hz;refine leaves_cons (f:=68) (args:=#[ζ (some ⟨w.heap.size,0,none⟩)]) (by simp) (by simp[go_sem]) ?_;refine(zW ⟨w.heap.size,0,none⟩ x (V Z 0) [] _ h0 G aQ).mono ?_;rintro e u' az ⟨rfl,rfl,rfl⟩;refine⟨.tuple #[V Z 0,V Z x],?_,rfl,(U.alloc (Nat.le_of_lt aQ) _).setCell (ι _) _⟩;have A:((w1.alloc (θ #[V Z x] 103)).cell? ⟨w.heap.size,0,none⟩).isSome=true:=by
  rw[Μ _ _ _ aQ,h0];rfl
 simp[results,results37,go_sem,A]
theorem Kk (g:Nat)(eg:∀args w,(callFunc g args).run prog w=.ok (.enter g args) w)(p:Ε)(n:ByteArray)(w:κ)
 (hf:∀W,Below w.heap.size w W->ξ prog g #[ζ (some p)] W λE Y=>E=δ (η n)/\Below W.heap.size W Y):
 ξ prog 34 #[.func (.func g) #[] #[ζ (some p)]] w λE Y=>E=δ (.tuple #[η n,V Z 0])/\Below w.heap.size w Y:=by
 have uo:∀(fn:Fn) (first cap:Array Value) (w:κ),(Α fn first cap).run prog w=.ok (.func fn first cap) w:=λ_ _ _ _=>rfl;have HF:=H hf;clear hf;go_enter_defers func34,ntmps34;go_wp2_with fail;refine(HF.out _ ((μ _ _).alloc (ι _) _)).mono ?_;rintro e w1 ⟨rfl,au⟩;obtain⟨hc,qv⟩:=rL au;have hz:=au.size;have h0:w1.cell? ⟨w.heap.size,0,none⟩=some (V Z 0):=by rw[hc _ _ (by simp)];simp[go_sem]
 have G:w1.frozen? ⟨w.heap.size,0,none⟩=false:=by rw[qv _ _ (by simp)];simp[go_sem]
 have aQ:w.heap.size<w1.heap.size:=by simp at hz;omega
 have U:Below w.heap.size w w1:=((μ _ _).alloc (ι _) _).trans (au.mono (by simp));clear hc qv au hz;go_wp2;refine leaves_cons (f:=63) (args:=#[ζ (some ⟨w.heap.size,0,none⟩)]) (by simp) (by simp[go_sem]) ?_;refine(um _ _).mono ?_;rintro e u' az ⟨rfl,rfl,rfl⟩;refine⟨.tuple #[η n,V Z 0],?_,rfl,U.setCell (ι _) _⟩;simp[results,results34,go_sem,h0]
theorem Li (g:Nat)(eg:∀args w,(callFunc g args).run prog w=.ok (.enter g args) w)(p:Ε)(x:Int)(w:κ)
 (hf:∀W,Below w.heap.size w W->ξ prog g #[ζ (some p)] W λE Y=>E=ε (bF x)/\Below W.heap.size W Y):
 ξ prog 34 #[.func (.func g) #[] #[ζ (some p)]] w λE Y=>E=δ (.tuple #[η ⟨#[]⟩,V Z x])/\Below w.heap.size w Y:=by
 have uo:∀(fn:Fn) (first cap:Array Value) (w:κ),(Α fn first cap).run prog w=.ok (.func fn first cap) w:=λ_ _ _ _=>rfl;have HF:=H hf;clear hf;go_enter_defers func34,ntmps34;go_wp2_with fail;refine(HF.out _ ((μ _ _).alloc (ι _) _)).mono ?_;rintro e w1 ⟨rfl,au⟩;obtain⟨hc,qv⟩:=rL au;have hz:=au.size;have h0:w1.cell? ⟨w.heap.size,0,none⟩=some (V Z 0):=by rw[hc _ _ (by simp)];simp[go_sem]
 have G:w1.frozen? ⟨w.heap.size,0,none⟩=false:=by rw[qv _ _ (by simp)];simp[go_sem]
 have aQ:w.heap.size<w1.heap.size:=by simp at hz;omega
 have U:Below w.heap.size w w1:=((μ _ _).alloc (ι _) _).trans (au.mono (by simp));clear hc qv au hz;refine leaves_cons (f:=63) (args:=#[ζ (some ⟨w.heap.size,0,none⟩)]) (by simp) (by simp[go_sem]) ?_;refine(oW ⟨w.heap.size,0,none⟩ x (V Z 0) [] _ h0 G aQ).mono ?_;rintro e u' az ⟨rfl,rfl,rfl⟩;refine⟨.tuple #[η ⟨#[]⟩,V Z x],?_,rfl,(U.alloc (Nat.le_of_lt aQ) _).setCell (ι _) _⟩;have A:((w1.alloc (θ #[V Z x] 103)).cell? ⟨w.heap.size,0,none⟩).isSome=true:=by
  rw[Μ _ _ _ aQ,h0];rfl
 simp[results,results34,go_sem,A]
theorem EG (args:Array Value)(w:κ):(callFunc 38 args).run prog w=.ok (.enter 38 args) w:=by simp[go_sem]
theorem EH (p:Ε)(n:Int)(w:κ)
 (hf:∀W,Below w.heap.size w W->ξ prog 38 #[ζ (some p)] W λE Y=>E=δ (V Z n)/\Below W.heap.size W Y):
 ξ prog 37 #[.func (.func 38) #[] #[ζ (some p)]] w λE Y=>E=δ (.tuple #[V Z n,V Z 0])/\Below w.heap.size w Y:=zn _ EG p n w hf
theorem GK (p:Ε)(x:Int)(w:κ)
 (hf:∀W,Below w.heap.size w W->ξ prog 38 #[ζ (some p)] W λE Y=>E=ε (bF x)/\Below W.heap.size W Y):
 ξ prog 37 #[.func (.func 38) #[] #[ζ (some p)]] w λE Y=>E=δ (.tuple #[V Z 0,V Z x])/\Below w.heap.size w Y:=zX _ EG p x w hf
theorem Cm (args:Array Value)(w:κ):(callFunc 40 args).run prog w=.ok (.enter 40 args) w:=by simp[go_sem]
theorem Dr (p:Ε)(n:Int)(w:κ)
 (hf:∀W,Below w.heap.size w W->ξ prog 40 #[ζ (some p)] W λE Y=>E=δ (V Z n)/\Below W.heap.size W Y):
 ξ prog 37 #[.func (.func 40) #[] #[ζ (some p)]] w λE Y=>E=δ (.tuple #[V Z n,V Z 0])/\Below w.heap.size w Y:=zn _ Cm p n w hf
theorem EI (p:Ε)(x:Int)(w:κ)
 (hf:∀W,Below w.heap.size w W->ξ prog 40 #[ζ (some p)] W λE Y=>E=ε (bF x)/\Below W.heap.size W Y):
 ξ prog 37 #[.func (.func 40) #[] #[ζ (some p)]] w λE Y=>E=δ (.tuple #[V Z 0,V Z x])/\Below w.heap.size w Y:=zX _ Cm p x w hf
theorem EJ (args:Array Value)(w:κ):(callFunc 35 args).run prog w=.ok (.enter 35 args) w:=by simp[go_sem]
theorem EK (p:Ε)(n:ByteArray)(w:κ)
 (hf:∀W,Below w.heap.size w W->ξ prog 35 #[ζ (some p)] W λE Y=>E=δ (η n)/\Below W.heap.size W Y):
 ξ prog 34 #[.func (.func 35) #[] #[ζ (some p)]] w λE Y=>E=δ (.tuple #[η n,V Z 0])/\Below w.heap.size w Y:=Kk _ EJ p n w hf
theorem GM (p:Ε)(x:Int)(w:κ)
 (hf:∀W,Below w.heap.size w W->ξ prog 35 #[ζ (some p)] W λE Y=>E=ε (bF x)/\Below W.heap.size W Y):
 ξ prog 34 #[.func (.func 35) #[] #[ζ (some p)]] w λE Y=>E=δ (.tuple #[η ⟨#[]⟩,V Z x])/\Below w.heap.size w Y:=Li _ EJ p x w hf
theorem EL (s:ByteArray)(p:Ε)(W:κ)(hc:W.cell? p=some (η s)):
 ξ prog 38 #[ζ (some p)] W λE Y=>E=tF s/\Below W.heap.size W Y:=by
 by_cases h:nW s
 ·have c:=λW=>zV s W;rw[vC h]at c⊢;have C:=H c;clear c h;go_enter func38,ntmps38;go_wp2_with (go_at_call 39;refine(C.out _).mono ?_;rintro e w1 ⟨rfl,U⟩);go_ret;exact⟨rfl,U⟩
 have c:=λW=>zV s W;rw[ko h]at c⊢;have C:=H c;clear c h;go_enter func38,ntmps38;go_wp2_with (go_at_call 39;refine(C.out _).mono ?_;rintro e w1 ⟨rfl,U⟩);exact⟨rfl,rfl,U⟩
theorem zY (s:ByteArray)(w:κ):
 ξ prog 19 #[η s] w λE Y=>E=δ (xc s)/\Below w.heap.size w Y:=by
 have uo:∀(fn:Fn) (first cap:Array Value) (w:κ),(Α fn first cap).run prog w=.ok (.func fn first cap) w:=λ_ _ _ _=>rfl;have dY:∀W,Below (w.alloc (θ #[η s] 9)).heap.size (w.alloc (θ #[η s] 9)) W->W.cell? ⟨w.heap.size,0,none⟩=some (η s):=λW U=>by
  rw[U.cell (p:=⟨w.heap.size,0,none⟩) (by simp)];simp[go_sem]
 by_cases h:nW s
 ·rw[ye h];have c:=EH ⟨w.heap.size,0,none⟩ (jA s) (w.alloc (θ #[η s] 9)) (λW U=>by
   have:=EL s ⟨w.heap.size,0,none⟩ W (dY W U);rw[vC h]at this;exact this)
  have C:=H c;clear c dY h;go_enter func19,ntmps19;go_wp2_with (go_at_call 37;refine(C.out).mono ?_;rintro e w1 ⟨rfl,U⟩);go_ret2;exact⟨rfl,((μ _ _).alloc (ι _) _).trans (U.mono (by simp))⟩
 rw[zQ h];have c:=GK ⟨w.heap.size,0,none⟩ 1 (w.alloc (θ #[η s] 9)) (λW U=>by
  have:=EL s ⟨w.heap.size,0,none⟩ W (dY W U);rw[ko h]at this;exact this)
 have C:=H c;clear c dY h;go_enter func19,ntmps19;go_wp2_with (go_at_call 37;refine(C.out).mono ?_;rintro e w1 ⟨rfl,U⟩);go_ret2;exact⟨rfl,((μ _ _).alloc (ι _) _).trans (U.mono (by simp))⟩
def jg (w:κ):Prop:=Lib.TabIs prog w "internal/strconv.uint64pow10" .u64 Lib.pow10Tab
theorem jg.on {w Y:κ}(h:jg w)(U:Below w.heap.size w Y):jg Y:=Lib.tabBelow_of_tabIs h Y U
theorem Pd (s:ByteArray)(w:κ):ξ prog 122 #[η s,V Z 0] w λe Y=>e=δ (η ⟨#[]⟩)/\w=Y:=by
 go_enter func122,ntmps122;go_wp2;go_ret;exact⟨rfl,rfl⟩
theorem acI (s:ByteArray)(w:κ):ξ prog 122 #[η s,V Z 1] w λe Y=>e=δ (η s)/\w=Y:=by
 go_enter func122,ntmps122;go_wp2;go_ret;exact⟨rfl,rfl⟩
theorem yl {u:Nat}(h:¬u<10):π u=π (u/10)++[Θ (48+u%10)]:=by
 rw[π,dif_neg h]
theorem Lj (u:Nat)(h:¬u<10)(A:u<100):π u=pad 2 u:=by
 rw[yl h,Lib.decDigits_one (by omega)];simp only[pad,φ,Ξ];congr 1;congr 1;omega
theorem XY (u:Nat)(h:u<10):[48]++π u=pad 2 u:=by
 rw[Lib.decDigits_one h];simp only[pad,φ,Ξ];congr 1
 ·have:(48+(u:Int)/10%10).toNat=48:=by omega
  rw[this];rfl
 congr 1;congr 1;omega
theorem Lk (u:Nat)(h:1000<=u)(A:u<10000):π u=pad 4 u:=by
 rw[yl (by omega),yl (u:=u/10) (by omega),yl (u:=u/10/10) (by omega),Lib.decDigits_one (by omega)];have a1:(48+(u:Int)/10/10/10%10).toNat=48+u/10/10/10:=by omega
 have a2:(48+(u:Int)/10/10%10).toNat=48+u/10/10%10:=by omega
 have a3:(48+(u:Int)/10%10).toNat=48+u/10%10:=by omega
 have a4:(48+(u:Int)%10).toNat=48+u%10:=by omega
 simp only[pad,φ,a1,a2,a3,a4]
theorem XZ (u:Nat)(w:κ)(h:u<=10000000)(ht:jg w):
 ξ prog 83 #[V Z u] w λe Y=>e=δ (η ⟨(π u).toArray⟩)/\Below w.heap.size w Y:=
 (Tryz.strconv_Itoa (u:Int) (by omega) (by omega) w ht).mono λe Y ⟨G,k,os,A⟩=>by
  rw[Lib.itoa_nonneg]at G;refine⟨G,?_⟩;rw[A];refine⟨rfl,rfl,rfl,by simp[grow,World.drewN],λj hj=>?_⟩;simp[grow,World.drewN,Array.getElem?_append,hj]
theorem GN (u width:Nat)(w:κ)(ht:jg w)(h:(width=2/\u<100)\/(width=4/\1000<=u/\u<10000)):
 ξ prog 67 #[V Z u,V Z width] w λe Y=>e=δ (η ⟨(pad width u).toArray⟩)/\Below w.heap.size w Y:=by
 have c:=XZ u w (by omega) ht;have N:(π u).length=Lib.nDigits u:=Lib.decDigits_length u;have C:=H c;clear c;rcases h with⟨rfl,A⟩|⟨rfl,h4,h5⟩
 ·by_cases G:u<10
  ·have e1:(π u).length=1:=by rw[Lib.decDigits_one G];rfl
   have E:=H (XY u G);clear N;go_enter func67,ntmps67;go_wp2_with (first
    |(go_at_call 83;refine(C.out).mono ?_;rintro e w1 ⟨rfl,U⟩)
    |(go_at_call 122;refine(acI _ _).mono ?_;rintro e Y ⟨rfl,rfl⟩))
   go_ret;exact⟨nk ((pz [48] _).trans (by rw[E.out])),U⟩
  have e1:(π u).length=2:=by rw[Lj u G A,lk]
  have E:=H (Lj u G A);clear N;go_enter func67,ntmps67;go_wp2_with (first
   |(go_at_call 83;refine(C.out).mono ?_;rintro e w1 ⟨rfl,U⟩)
   |(go_at_call 122;refine(Pd _ _).mono ?_;rintro e Y ⟨rfl,rfl⟩))
  go_ret;exact⟨nk ((pz [] _).trans (by rw[E.out,φ])),U⟩
 have e1:(π u).length=4:=by rw[Lk u h4 h5,lk]
 have E:=H (Lk u h4 h5);clear N;go_enter func67,ntmps67;go_wp2_with (first
  |(go_at_call 83;refine(C.out).mono ?_;rintro e w1 ⟨rfl,U⟩)
  |(go_at_call 122;refine(Pd _ _).mono ?_;rintro e Y ⟨rfl,rfl⟩))
 go_ret;exact⟨nk ((pz [] _).trans (by rw[E.out,φ])),U⟩
theorem RA (n:Int):(⟨(pad 4 (ag.aq (n/86400))).toArray⟩:ByteArray)++⟨(pad 2 (ag.ofM (n/86400))).toArray⟩++⟨(pad 2 (ag.aA (n/86400))).toArray⟩++⟨#[84]⟩++
 ⟨(pad 2 (n%86400/3600)).toArray⟩++⟨(pad 2 (n%3600/60)).toArray⟩++⟨(pad 2 (n%60)).toArray⟩++⟨#[90]⟩=⟨(dv n).toArray⟩:=by
 rw[show n%3600/60=n%86400/60%60 from by omega];exact Tz n
theorem Kl (W:κ)(n width:Int)(D:Nat)(os:Array Obj)(ht:jg W)(h0:0<=n)(G:0<=width)(h:(width=2/\n<100)\/(width=4/\1000<=n/\n<10000)):
 ξ prog 67 #[V Z n,V Z width] (grow (redrawn W D) os) λe az=>e=δ (η ⟨(pad width.toNat n).toArray⟩)/\∃p:Regrown,az=grow (redrawn W p.d) p.os:=by
 obtain⟨k,rfl⟩:=Int.eq_ofNat_of_zero_le G;obtain⟨u,rfl⟩:=Int.eq_ofNat_of_zero_le h0;exact Calls.regrown_of (GN u k _ (ht.on (below_regrown W D os)) (by omega))
theorem Ll (n:Int)(w:κ)(h:cq n=false):
 ξ prog 36 #[V Z n] w λe Y=>e=ε (bF 1)/\Below w.heap.size w Y:=by
 have e1:ag.num 2200 1 1*86400=7258118400:=by rw[ag.BJ];rfl
 have E1:=H e1;clear e1;by_cases h0:0<=n
 ·have G:¬n<7258118400:=by simp[cq,h0]at h;omega
  have tf:decide (n<7258118400)=false:=by simpa using G
  clear h;go_enter func36,ntmps36;go_wp2_with (first
   |(go_at_call 64;refine(mH _ _ _ _ (by omega) (by omega) (by omega) (by omega) (by omega) (by omega)).mono ?_;rintro e w1 ⟨rfl,U⟩;rw[E1.out])
   |(go_at_call_of 65 (ρ false);refine eT ?_))
  exact⟨rfl,rfl,U⟩
 have h0':decide (0<=n)=false:=by simpa using h0
 clear h;go_enter func36,ntmps36;go_wp2_with (first
  |(go_at_call 64;refine(mH _ _ _ _ (by omega) (by omega) (by omega) (by omega) (by omega) (by omega)).mono ?_;rintro e w1 ⟨rfl,U⟩;rw[E1.out])
  |(go_at_call_of 65 (ρ false);refine eT ?_))
 exact⟨rfl,rfl,U⟩
theorem Km (n:Int)(w:κ)(ht:jg w)(h:cq n=true):
 ξ prog 36 #[V Z n] w λe Y=>e=δ (η ⟨(dv n).toArray⟩)/\Below w.heap.size w Y:=by
 have E1:Hid (ag.num 2200 1 1*86400=7258118400):=H (by rw[ag.BJ];rfl);have U:0<=n/\n<7258118400:=by simpa[cq]using h
 have hd:=Ty (n:=n/86400) (by omega) (by omega);obtain⟨d1,d2,d3,d4,d5,d6⟩:=hd;have hm:=ag.rJ (ag.aq (n/86400)) (ag.ofM (n/86400));clear h;go_enter func36,ntmps36;go_wp2_with (first
  |(go_at_call 64;refine(mH _ _ _ _ (by omega) (by omega) (by omega) (by omega) (by omega) (by omega)).mono ?_;rintro e w1 ⟨rfl,au⟩;rw[E1.out])
  |(go_at_call_of 65 (ρ true);refine dp ?_)
  |(go_at_call 66;refine(EF _ _ (by omega) (by omega)).mono ?_;rintro e w2 ⟨rfl,aO⟩;unfold cS))
 have EM:Below w.heap.size w w2:=au.trans (aO.mono au.size);have al:Below w.heap.size w (w2.alloc (θ #[V Z (ag.aq (n/86400)),V Z (ag.ofM (n/86400)),V Z (ag.aA (n/86400))] 106)):=EM.alloc EM.size _;have c0:(w2.alloc (θ #[V Z (ag.aq (n/86400)),V Z (ag.ofM (n/86400)),V Z (ag.aA (n/86400))] 106)).cell? ⟨w2.heap.size,0,none⟩=some (V Z (ag.aq (n/86400))):=by simp[go_sem]
 have c1:(w2.alloc (θ #[V Z (ag.aq (n/86400)),V Z (ag.ofM (n/86400)),V Z (ag.aA (n/86400))] 106)).cell? ⟨w2.heap.size,1,none⟩=some (V Z (ag.ofM (n/86400))):=by simp[go_sem]
 have c2:(w2.alloc (θ #[V Z (ag.aq (n/86400)),V Z (ag.ofM (n/86400)),V Z (ag.aA (n/86400))] 106)).cell? ⟨w2.heap.size,2,none⟩=some (V Z (ag.aA (n/86400))):=by simp[go_sem]
 generalize(w2.alloc (θ #[V Z (ag.aq (n/86400)),V Z (ag.ofM (n/86400)),V Z (ag.aA (n/86400))] 106))=W at *
 have k0:=cell_regrown c0;have k1:=cell_regrown c1;have k2:=cell_regrown c2;have hT:=H (ht.on al);clear c0 c1 c2 au aO EM ht;have N:=lk;refine wp_region_quiet_below (by kernel_rfl) (by kernel_rfl) ?_
 repeat(go_big_quiet_step (first|exact Kl W _ _ _ _ hT.out (by omega) (by omega) (by omega)))
 refine wpQuiet_nil ?_;intro _ dD;obtain⟨⟨dq,gT⟩,ga⟩:=dD;subst ga;go_wp2;go_ret;exact⟨nk (RA n),al.trans ((below_regrown W dq gT).mono al.size)⟩
theorem RC (n:Int)(p:Ε)(W:κ)(ht:jg W)(hc:W.cell? p=some (V Z n))(h:cq n=true):
 ξ prog 35 #[ζ (some p)] W λE Y=>E=δ (η ⟨(dv n).toArray⟩)/\Below W.heap.size W Y:=by
 have C:=H (Km n W ht h);clear h ht;go_enter func35,ntmps35;go_wp2_with (go_at_call 36;refine(C.out).mono ?_;rintro e w1 ⟨rfl,U⟩);go_ret;exact⟨rfl,U⟩
theorem TJ (n:Int)(p:Ε)(W:κ)(hc:W.cell? p=some (V Z n))(h:cq n=false):
 ξ prog 35 #[ζ (some p)] W λE Y=>E=ε (bF 1)/\Below W.heap.size W Y:=by
 have C:=H (Ll n W h);clear h;go_enter func35,ntmps35;go_wp2_with (go_at_call 36;refine(C.out).mono ?_;rintro e w1 ⟨rfl,U⟩);exact⟨rfl,rfl,U⟩
theorem jQ (n:Int)(w:κ)(ht:jg w):
 ξ prog 18 #[V Z n] w λE Y=>E=δ (kG n)/\Below w.heap.size w Y:=by
 have uo:∀(fn:Fn) (first cap:Array Value) (w:κ),(Α fn first cap).run prog w=.ok (.func fn first cap) w:=λ_ _ _ _=>rfl;have dY:∀W,Below (w.alloc (θ #[V Z n] 3)).heap.size (w.alloc (θ #[V Z n] 3)) W->W.cell? ⟨w.heap.size,0,none⟩=some (V Z n):=λW U=>by
  rw[U.cell (p:=⟨w.heap.size,0,none⟩) (by simp)];simp[go_sem]
 have hT:∀W,Below (w.alloc (θ #[V Z n] 3)).heap.size (w.alloc (θ #[V Z n] 3)) W->jg W:=λW U=>
  ht.on (((μ _ _).alloc (ι _) _).trans (U.mono (by simp)))
 cases h:cq n
 ·have hv:kG n=.tuple #[η ⟨#[]⟩,V Z 1]:=by unfold kG;rw[h];rfl
  rw[hv];have C:=H (GM ⟨w.heap.size,0,none⟩ 1 (w.alloc (θ #[V Z n] 3)) (λW U=>TJ n _ W (dY W U) h));clear dY hT ht hv h;go_enter func18,ntmps18;go_wp2_with (go_at_call 34;refine(C.out).mono ?_;rintro e w1 ⟨rfl,U⟩);go_ret2;exact⟨rfl,((μ _ _).alloc (ι _) _).trans (U.mono (by simp))⟩
 have hv:kG n=.tuple #[η ⟨(dv n).toArray⟩,V Z 0]:=by unfold kG;rw[h];rfl
 rw[hv];have C:=H (EK ⟨w.heap.size,0,none⟩ ⟨(dv n).toArray⟩ (w.alloc (θ #[V Z n] 3)) (λW U=>RC n _ W (hT W U) (dY W U) h));clear dY hT ht hv h;go_enter func18,ntmps18;go_wp2_with (go_at_call 34;refine(C.out).mono ?_;rintro e w1 ⟨rfl,U⟩);go_ret2;exact⟨rfl,((μ _ _).alloc (ι _) _).trans (U.mono (by simp))⟩
def atC:Nat->List (UInt8×Int)
 |1=>[(72,3600),(77,60),(83,1)]
 |2=>[(77,60),(83,1)]
 |3=>[(83,1)]
 |_=>[]
theorem nd {c:UInt8}{n:Nat}(h:c.toNat=n)(hn:57<n):fg c=false:=by
 cases q:fg c
 ·rfl
 have:=(xa c).1 q;omega
theorem jR {c:UInt8}{ds:List UInt8}(h:fg c=false)(hd:∀x∈ds,fg x=true):c∉ds:=by
 intro m;have:=hd c m;rw[h]at this;cases this
theorem u8 {c:UInt8}{n:Nat}(h:c.toNat=n):c=Θ n:=by rw[<-h];simp
theorem oD:∀(k:Nat) (l:List UInt8),l.length<=k->∀(u:Nat),1<=u->u<=4->∀(sum:Int) (parts:Nat),l≠[]\/0<parts->
 eC l [] u true sum parts=(chain (atC u) l).map (sum+·)
 |0,l,I,u,_,_,sum,parts,J=>by
  have:l=[]:=Ι (by omega);subst this;have Aa:0<parts:=by rcases J with h|h;exact absurd rfl h;exact h
  rw[vv];unfold eC;rw[if_neg (by simp;omega)];simp
 |k+1,l,I,u,u1,u4,sum,parts,J=>by
  obtain⟨ds,rest,rfl,hd,hr⟩:=ud l;rw[vw ds rest [] u true sum parts hd,φ];rcases hr with rfl|⟨c,r,rfl,hc⟩
  ·
   rw[List.append_nil]at *
   unfold eC;by_cases e:ds=[]
   ·subst e;have Aa:0<parts:=by rcases J with h|h;exact absurd rfl h;exact h
    rw[vv,if_neg (by simp;omega)];simp
   rw[if_pos (.inr e)];have a72:(72:UInt8)∉ds:=jR (nd (n:=72) rfl (by omega)) hd;have a77:(77:UInt8)∉ds:=jR (nd (n:=77) rfl (by omega)) hd;have Pe:(83:UInt8)∉ds:=jR (nd (n:=83) rfl (by omega)) hd;have jh:chain [] ds=none:=by unfold chain;rw[if_neg e]
   have:u=1\/u=2\/u=3\/u=4:=by omega
   rcases this with rfl|rfl|rfl|rfl
   ·rw[show atC 1=[(72,3600),(77,60),(83,1)]from rfl,fu a72,fu a77,fu Pe,jh];rfl
   ·rw[show atC 2=[(77,60),(83,1)]from rfl,fu a77,fu Pe,jh];rfl
   ·rw[show atC 3=[(83,1)]from rfl,fu Pe,jh];rfl
   rw[show atC 4=[]from rfl,jh];rfl
  have wE:c∈ds++c::r:=by simp
  have TK:r.length<=k:=by simp at I;omega
  have a72:(72:UInt8)∉ds:=jR (nd (n:=72) rfl (by omega)) hd;have a77:(77:UInt8)∉ds:=jR (nd (n:=77) rfl (by omega)) hd;have Pe:(83:UInt8)∉ds:=jR (nd (n:=83) rfl (by omega)) hd
  conv=>lhs;unfold eC
  rw[if_neg (by rw[hc];exact χ)];by_cases hT:c.toNat=84
  ·rw[if_pos hT,if_pos (.inl rfl)];have df:∀m∈atC u,m.1≠c:=by
    rw[u8 hT];have:u=1\/u=2\/u=3\/u=4:=by omega
    rcases this with rfl|rfl|rfl|rfl<;>simp[atC]
   rw[gW hc (atC u) _ df wE];rfl
  rw[if_neg hT];have hu:u=1\/u=2\/u=3\/u=4:=by omega
  by_cases hH:c.toNat=72
  ·have ec:c=72:=u8 hH;subst ec;by_cases G:u<=1
   ·obtain rfl:u=1:=by omega
    have hj:ik 1 72=1:=by decide
    rw[hj];cases hn:dx ds
    ·rw[if_pos (.inl rfl),show atC 1=[(72,3600),(77,60),(83,1)]from rfl,sU a72 hn];rfl
    rw[if_neg (by simp),oD k r TK 2 (by omega) (by omega) _ _ (.inr (by omega)),show atC 1=[(72,3600),(77,60),(83,1)]from rfl,yg a72 hn,Option.map_map];congr 1;funext x;simp[ou];omega
   have hj:ik u 72=4:=by rcases hu with rfl|rfl|rfl|rfl<;>first|omega|decide
   rw[if_pos (.inr (.inl hj)),gW hc (atC u) _ (by rcases hu with rfl|rfl|rfl|rfl<;>first|omega|simp[atC]) wE];rfl
  by_cases hM:c.toNat=77
  ·have ec:c=77:=u8 hM;subst ec;by_cases A:u<=2
   ·have hj:ik u 77=2:=by rcases hu with rfl|rfl|rfl|rfl<;>first|omega|decide
    rw[hj];have main:(if dx ds=false\/(2:Nat)=4\/decide (0<2)≠true then none else eC r [] (2+1) true (sum+dw ds*ou 2) (parts+1))=(chain (atC 2) (ds++77::r)).map (sum+·):=by
     cases hn:dx ds
     ·rw[if_pos (.inl rfl),show atC 2=[(77,60),(83,1)]from rfl,sU a77 hn];rfl
     rw[if_neg (by simp),oD k r TK 3 (by omega) (by omega) _ _ (.inr (by omega)),show atC 2=[(77,60),(83,1)]from rfl,yg a77 hn,Option.map_map];congr 1;funext x;simp[ou];omega
    have:u=1\/u=2:=by omega
    rcases this with rfl|rfl
    ·by_cases U:(72:UInt8)∈r
     ·rw[show atC 1=(72,3600)::atC 2 from rfl,ub a72 hc (by decide) U];cases hn:dx ds
      ·rw[if_pos (.inl rfl)];rfl
      rw[if_neg (by simp),oD k r TK 3 (by omega) (by omega) _ _ (.inr (by omega)),gW (nd (c:=72) (n:=72) rfl (by omega)) (atC 3) r (by simp[atC]) U];rfl
     rw[show atC 1=(72,3600)::atC 2 from rfl,fu (by simp[a72,U]),<-main]
    exact main
   have hj:ik u 77=4:=by rcases hu with rfl|rfl|rfl|rfl<;>first|omega|decide
   rw[if_pos (.inr (.inl hj)),gW hc (atC u) _ (by rcases hu with rfl|rfl|rfl|rfl<;>first|omega|simp[atC]) wE];rfl
  by_cases hS:c.toNat=83
  ·have ec:c=83:=u8 hS;subst ec;by_cases K:u<=3
   ·have hj:ik u 83=3:=by rcases hu with rfl|rfl|rfl|rfl<;>first|omega|decide
    rw[hj];have main:(if dx ds=false\/(3:Nat)=4\/decide (0<3)≠true then none else eC r [] (3+1) true (sum+dw ds*ou 3) (parts+1))=(chain (atC 3) (ds++83::r)).map (sum+·):=by
     cases hn:dx ds
     ·rw[if_pos (.inl rfl),show atC 3=[(83,1)]from rfl,sU Pe hn];rfl
     rw[if_neg (by simp),oD k r TK 4 (by omega) (by omega) _ _ (.inr (by omega)),show atC 3=[(83,1)]from rfl,yg Pe hn,Option.map_map];congr 1;funext x;simp[ou];omega
    have bad:∀(x:UInt8),fg x=false->x∈r->(if dx ds=false\/(3:Nat)=4\/decide (0<3)≠true then none else eC r [] (3+1) true (sum+dw ds*ou 3) (parts+1))=none:=by
     intro x X U;cases hn:dx ds
     ·rw[if_pos (.inl rfl)]
     rw[if_neg (by simp),oD k r TK 4 (by omega) (by omega) _ _ (.inr (by omega)),gW X (atC 4) r (by simp[atC]) U];rfl
    have two:(if dx ds=false\/(3:Nat)=4\/decide (0<3)≠true then none else eC r [] (3+1) true (sum+dw ds*ou 3) (parts+1))=(chain (atC 2) (ds++83::r)).map (sum+·):=by
     by_cases U:(77:UInt8)∈r
     ·rw[show atC 2=(77,60)::atC 3 from rfl,ub a77 hc (by decide) U,bad 77 (nd (n:=77) rfl (by omega)) U];rfl
     rw[show atC 2=(77,60)::atC 3 from rfl,fu (by simp[a77,U]),<-main]
    have:u=1\/u=2\/u=3:=by omega
    rcases this with rfl|rfl|rfl
    ·by_cases U:(72:UInt8)∈r
     ·rw[show atC 1=(72,3600)::atC 2 from rfl,ub a72 hc (by decide) U,bad 72 (nd (n:=72) rfl (by omega)) U];rfl
     rw[show atC 1=(72,3600)::atC 2 from rfl,fu (by simp[a72,U]),<-two]
    ·exact two
    exact main
   have hj:ik u 83=4:=by rcases hu with rfl|rfl|rfl|rfl<;>first|omega|decide
   rw[if_pos (.inr (.inl hj)),gW hc (atC u) _ (by rcases hu with rfl|rfl|rfl|rfl<;>first|omega|simp[atC]) wE];rfl
  have hj:ik u c=4:=by
   unfold ik;rw[if_neg (by omega),if_neg (by omega),if_neg (by omega),if_neg (by omega)]
  have df:∀m∈atC u,m.1≠c:=by
   have b1:(72:UInt8)≠c:=λe=>hH (by rw[<-e];rfl);have b2:(77:UInt8)≠c:=λe=>hM (by rw[<-e];rfl);have b3:(83:UInt8)≠c:=λe=>hS (by rw[<-e];rfl);rcases hu with rfl|rfl|rfl|rfl<;>simp[atC,b1,b2,b3]
  rw[if_pos (.inr (.inl hj)),gW hc (atC u) _ df wE];rfl
end Go.Proofs.YthpndgcaoeokeaaGreatDoor
