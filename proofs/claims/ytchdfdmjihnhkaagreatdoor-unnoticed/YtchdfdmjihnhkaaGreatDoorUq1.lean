import Derived.Test.YtchdfdmjihnhkaaGreatDoorProg
import Derived.Test.YtchdfdmjihnhkaaGreatDoorShelf
import Derived.WalkKit
import Derived.WalkSpells
import Derived.WalkLawsBesides
import Derived.Deep.QuietTactic
import Derived.BigQuiet
import Derived.Lib.QuietBelow
import Derived.Laws.Panics
import Derived.ChangeKeysEq
import Derived.Deep.RegionHeld3
import Derived.Deep.DrawnRows
import Derived.Defers
import Derived.Recover
import Derived.Lib.AppendIntMem
import Derived.Lib.IndexLaws
set_option maxRecDepth 100000
set_option maxHeartbeats 8000000
namespace Go.Proofs.YtchdfdmjihnhkaaGreatDoor.ag
def lp (y:Int):Bool:=y%4==0&&(y%100 !=0||y%400==0)
def md (y m:Int):Int:=
 if m=4\/m=6\/m=9\/m=11 then 30 else if m=2 then(if lp y then 29 else 28)else 31
def yd (y:Int):Int:=if lp y then 366 else 365
def ty (y:Int):Int:=y*365+y/4-y/100+y/400
def tm (m:Int):Int:=(m*153+2)/5
def num (y m d:Int):Int:=
 if m-3<0 then ty (y-1)+tm (m-3+12)+d-1-719468 else ty y+tm (m-3)+d-1-719468
def yr (l:Int):Int:=if ty (l*400/146097+1)<=l then l*400/146097+1 else l*400/146097
def mo (r:Int):Int:=(r*5+2)/153
def au (n:Int):Int:=
 if mo (n+719468-ty (yr (n+719468)))+3>12 then yr (n+719468)+1 else yr (n+719468)
def ofM (n:Int):Int:=
 if mo (n+719468-ty (yr (n+719468)))+3>12 then mo (n+719468-ty (yr (n+719468)))+3-12 else mo (n+719468-ty (yr (n+719468)))+3
def aA (n:Int):Int:=
 n+719468-ty (yr (n+719468))-tm (mo (n+719468-ty (yr (n+719468))))+1
def Valid (y m d:Int):Prop:=1<=m/\m<=12/\1<=d/\d<=md y m
theorem Si (y:Int):lp y=true↔(y%4=0/\(y%100≠0\/y%400=0)):=by
 simp[lp]
theorem AV (y:Int):ty (y+1)=ty y+365+(if lp (y+1)then 1 else 0):=by
 by_cases h:lp (y+1)=true
 ·have h':=(Si (y+1)).1 h;simp only[h,if_true];unfold ty;omega
 have h':¬((y+1)%4=0/\((y+1)%100≠0\/(y+1)%400=0)):=λk=>h ((Si (y+1)).2 k);simp only[h];unfold ty;simp;omega
theorem agh (l:Int)(_h:0<=l):ty (yr l)<=l:=by
 unfold yr;split
 ·assumption
 unfold ty;omega
theorem agi (l:Int)(_h:0<=l):l<ty (yr l+1):=by
 unfold yr;split
 ·unfold ty;omega
 omega
theorem agj (l:Int)(h:0<=l)(A:l<=3000000):0<=yr l/\yr l<=8300:=by
 unfold yr;split<;>omega
theorem Kg (l:Int)(h:0<=l):0<=l-ty (yr l)/\l-ty (yr l)<=365/\(l-ty (yr l)=365->lp (yr l+1)=true):=by
 have a:=agh l h;have b:=agi l h;have c:=AV (yr l);by_cases e:lp (yr l+1)=true
 ·simp only[e,if_true]at c;exact⟨by omega,by omega,λ_=>e⟩
 simp only[e]at c;simp at c;refine⟨by omega,by omega,λq=>by omega⟩
theorem Qr (r:Int)(h:0<=r)(A:r<=365):0<=mo r/\mo r<=11/\tm (mo r)<=r/\r<tm (mo r+1):=by
 unfold mo tm;omega
theorem kU (n:Int)(h:0<=n+719468):Valid (au n) (ofM n) (aA n):=by
 have hr:=Kg _ h;unfold au ofM aA Valid;generalize K:n+719468-ty (yr (n+719468))=r at *
 have hm:=Qr r hr.1 hr.2.1;obtain⟨m0,m1,m2,m3⟩:=hm;have Y:mo r=0\/mo r=1\/mo r=2\/mo r=3\/mo r=4\/mo r=5\/mo r=6\/mo r=7\/mo r=8\/mo r=9\/mo r=10\/mo r=11:=by omega
 rcases Y with k|k|k|k|k|k|k|k|k|k|k|k<;>rw[k]at m2 m3⊢<;>simp[tm]at m2 m3⊢<;>simp[md]<;>try omega
 by_cases e:lp (yr (n+719468)+1)=true
 ·simp only[e];simp;omega
 simp only[e];simp;have:r≠365:=λq=>e (hr.2.2 q);omega
theorem oU (n:Int)(h:0<=n+719468):num (au n) (ofM n) (aA n)=n:=by
 have hr:=Kg _ h;unfold au ofM aA num;have hm:=Qr _ hr.1 hr.2.1;generalize K:n+719468-ty (yr (n+719468))=r at *
 obtain⟨m0,m1,m2,m3⟩:=hm;by_cases c:mo r+3>12
 ·simp only[c,if_true];rw[if_pos (by omega)];rw[show yr (n+719468)+1-1=yr (n+719468)from by omega,show mo r+3-12-3+12=mo r from by omega];omega
 simp only[c,if_false];rw[if_neg (by omega)];rw[show mo r+3-3=mo r from by omega];omega
theorem tF (y:Int):num (y+1) 1 1=num y 1 1+yd y:=by
 have:=AV (y-1);rw[show y-1+1=y from by omega]at this;unfold num yd;simp only[show(1:Int)-3<0 from by omega,if_true];rw[show y+1-1=y from by omega,this];by_cases e:lp y=true
 ·simp only[e];simp;omega
 simp only[e];simp;omega
theorem rn (y m:Int)(G:1<=m)(A:m<=11):num y (m+1) 1=num y m 1+md y m:=by
 have:=AV (y-1);rw[show y-1+1=y from by omega]at this;have Y:m=1\/m=2\/m=3\/m=4\/m=5\/m=6\/m=7\/m=8\/m=9\/m=10\/m=11:=by omega
 rcases Y with k|k|k|k|k|k|k|k|k|k|k<;>subst k<;>simp[num,md,tm]<;>try omega
 rw[this];by_cases e:lp y=true
 ·simp only[e];simp;omega
 simp only[e];simp;omega
theorem ot (y m d:Int):num y m d=num y m 1+d-1:=by
 unfold num;split<;>omega
theorem sU (y m:Int):28<=md y m/\md y m<=31:=by
 unfold md;split
 ·omega
 split
 ·split<;>omega
 omega
theorem lq (y:Int)(k:Nat):num y 1 1+365*k<=num (y+k) 1 1:=by
 induction k with
 |zero=>simp
 |succ k ih=>
  have:=tF (y+k);have hy:365<=yd (y+k):=by unfold yd;split<;>omega
  rw[show y+((k+1:Nat):Int)=y+k+1 from by omega];omega
theorem acw (y:Int):md y 12=31:=by simp[md]
theorem AW (y:Int):num (y+1) 1 1=num y 12 1+31:=by
 simp[num,tm];omega
theorem p9 (y m:Int)(k:Nat)(G:1<=m)(A:m+k<=12):num y m 1+28*k<=num y (m+k) 1:=by
 induction k with
 |zero=>simp
 |succ k ih=>
  have:=rn y (m+k) (by omega) (by omega);have U:=sU y (m+k);have:=ih (by omega);rw[show m+((k+1:Nat):Int)=m+k+1 from by omega];omega
theorem wv {y m d:Int}(v:Valid y m d):num y 1 1<=num y m d/\num y m d<num (y+1) 1 1:=by
 obtain⟨a,b,c,e⟩:=v;have G:=ot y m d;constructor
 ·have:=p9 y 1 (m-1).toNat (by omega) (by omega);rw[show(1:Int)+((m-1).toNat:Int)=m from by omega]at this;omega
 by_cases q:m=12
 ·subst q;rw[AW,G];have:=acw y;omega
 have A:=rn y m a (by omega);have:=p9 y (m+1) (11-m).toNat (by omega) (by omega);rw[show m+1+((11-m).toNat:Int)=12 from by omega]at this;have:=AW y;omega
theorem Kh {y m m' d d':Int}(v:Valid y m d)(v':Valid y m' d')(h:m<m'):num y m d<num y m' d':=by
 obtain⟨a,b,c,e⟩:=v;obtain⟨a',b',c',e'⟩:=v';have G:=ot y m d;have wx:=ot y m' d';have A:=rn y m a (by omega);have:=p9 y (m+1) (m'-m-1).toNat (by omega) (by omega);rw[show m+1+((m'-m-1).toNat:Int)=m' from by omega]at this;omega
theorem Y0 {y y' m m' d d':Int}(v:Valid y m d)(v':Valid y' m' d')(h:num y m d=num y' m' d'):¬y<y':=by
 intro q;have a:=wv v;have b:=wv v';have:=lq (y+1) (y'-y-1).toNat;rw[show y+1+((y'-y-1).toNat:Int)=y' from by omega]at this;omega
theorem inj {y y' m m' d d':Int}(v:Valid y m d)(v':Valid y' m' d')(h:num y m d=num y' m' d'):y=y'/\m=m'/\d=d':=by
 have hy:y=y':=by
  have:=Y0 v v' h;have:=Y0 v' v h.symm;omega
 subst hy;have hm:m=m':=by
  by_cases a:m<m'
  ·have:=Kh v v' a;omega
  by_cases b:m'<m
  ·have:=Kh v' v b;omega
  omega
 subst hm;have G:=ot y m d;have A:=ot y m d';exact⟨rfl,rfl,by omega⟩
theorem Hk {y m d:Int}(hy:1<=y)(hm:0<=m)(hd:0<=d):
 (au (num y m d)=y/\ofM (num y m d)=m/\aA (num y m d)=d)↔Valid y m d:=by
 have h:0<=num y m d+719468:=by
  unfold num ty tm;split<;>omega
 have v:=kU _ h;constructor
 ·rintro⟨a,b,c⟩;rw[a,b,c]at v;exact v
 intro w;exact inj v w (oU _ h)
theorem Hl:num 1970 1 1=0:=by decide
theorem AX:num 2200 1 1=84006:=by decide
theorem Qs (y:Int):365<=yd y/\yd y<=366:=by unfold yd;split<;>omega
theorem Nr (y:Int)(k:Nat):num (y+k) 1 1<=num y 1 1+366*k:=by
 induction k with
 |zero=>simp
 |succ k ih=>
  have:=tF (y+k);have hy:=Qs (y+k);rw[show y+((k+1:Nat):Int)=y+k+1 from by omega];omega
theorem aaM (y:Int)(h0:1970<=y)(G:y<=2200):0<=num y 1 1/\num y 1 1<=84180:=by
 have a:=lq 1970 (y-1970).toNat;have b:=Nr 1970 (y-1970).toNat;rw[show(1970:Int)+((y-1970).toNat:Int)=y from by omega,Hl]at a b;omega
end Go.Proofs.YtchdfdmjihnhkaaGreatDoor.ag
open Go.IntKind renaming i64->Z
open Go.Value renaming int->V,pointer->ζ,string->η,bool->ο,string->Β
open Go.Ending renaming returned->δ,panicked->ε,returned->Δ
open Go.Obj renaming cells->θ
open Nat renaming le_refl->ι,zero_add->Ω
open Go.RowKit.Below renaming refl->κ
open Go renaming World->μ,Calls->ν,Addr->Η,Ending->Ι,PanicEntry->Χ,Program->Ψ
open ByteArray renaming size_extract->ξ
open Go.AllReady renaming cons->π,nil->ψ
open Bool renaming false_ne_true->ρ,and_eq_true->Α
open Go.Lib renaming decDigits->τ
open List renaming nil_append->υ,mem_cons_of_mem->φ,mem_cons_self->χ,append_nil->Κ,drop_eq_getElem_cons->Ν,take_of_length_le->Ρ,singleton_append->Τ,getElem?_of_mem->Υ,cons_append->Φ
open Go.Instr renaming makeFunc->ω
open Int renaming eq_ofNat_of_zero_le->Γ
open Array renaming length_toList->Ε,getElem?_eq_getElem->Μ
open Go.Exit renaming thenS->Ζ
open UInt8 renaming ofNat->Θ
open Go.World renaming drew->Λ,frozen?_alloc_old->Ξ,cell?_alloc_past->Ο
namespace Go.Proofs.YtchdfdmjihnhkaaGreatDoor
open Tryz
open Go.RowKit
theorem H {p:Prop}(h:p):Hid p:=h
theorem aaN {k:IntKind}{a b:Int}(h:a=b):Δ (.int k a)=δ (.int k b):=by rw[h]
def cU (n:Int):Bool:=decide (0<=n)&&decide (n<7258118400)
theorem Wb (w:μ)(x:Int):
 (convert 71 9 (.slice (some ⟨w.heap.size,0,none⟩) 1 1)).run prog (w.alloc (θ #[.int .u8 x] 5))=.ok (η ⟨#[Θ x.toNat]⟩) (w.alloc (θ #[.int .u8 x] 5)):=by
 rw[run_convert_bytes_string _ _ _ 5 _ _ _ underlying71 underlying5 underlying9];rw[run_bytesToString _ _ _ _ [x] (by simp[loadCells,go_sem])];rfl
def pad:Nat->Int->List UInt8
 |0,_=>[]
 |k+1,n=>pad k (n/10)++[Θ (48+n%10).toNat]
theorem oV (k:Nat):∀n,(pad k n).length=k:=by
 induction k with
 |zero=>intro n;rfl
 |succ k ih=>intro n;simp[pad,ih]
theorem oW (a b:List UInt8):(⟨a.toArray⟩:ByteArray)++⟨b.toArray⟩=⟨(a++b).toArray⟩:=by
 apply ByteArray.ext;simp
theorem acx {a b:ByteArray}(h:a=b):Β a=Β b:=by rw[h]
theorem mU {a b:ByteArray}(h:a=b):Δ (η a)=δ (η b):=by rw[h]
def fN (c:UInt8):Bool:=decide (48<=(c.toNat:Int))&&decide ((c.toNat:Int)<=57)
def jd (l:List UInt8):Int:=l.foldl (λv c=>10*v+((c.toNat:Int)-48)) 0
def bU (l:List UInt8):Int:=if l.all fN then jd l else -1
def cut (s:ByteArray)(at_ n:Nat):List UInt8:=(s.data.toList.drop at_).take n
theorem Hm (l:List UInt8)(c:UInt8):jd (l++[c])=10*jd l+((c.toNat:Int)-48):=by
 simp[jd,List.foldl_append]
theorem AY (c:UInt8):fN c=true↔(48<=(c.toNat:Int)/\(c.toNat:Int)<=57):=by simp[fN]
theorem aaO (l:List UInt8):∀v:Int,0<=v->l.all fN=true->
 0<=l.foldl (λv c=>10*v+((c.toNat:Int)-48)) v/\l.foldl (λv c=>10*v+((c.toNat:Int)-48)) v<(v+1)*10^l.length:=by
 induction l with
 |nil=>intro v h _;simp;exact⟨h,by omega⟩
 |cons c l ih=>
  intro v h hd;simp only[List.all_cons,Α]at hd;have hc:=(AY c).1 hd.1;have:=ih (10*v+((c.toNat:Int)-48)) (by omega) hd.2;simp only[List.foldl_cons,List.length_cons];refine⟨this.1,Int.lt_of_lt_of_le this.2 ?_⟩;rw[Int.pow_succ,Int.mul_comm (10^l.length) 10,<-Int.mul_assoc];exact Int.mul_le_mul_of_nonneg_right (by omega) (Int.pow_nonneg (by omega))
theorem aaP (l:List UInt8)(h:l.all fN=true):0<=jd l/\jd l<10^l.length:=by
 have:=aaO l 0 (by omega) h;simpa[jd]using this
theorem qd (l:List UInt8)(k:Nat)(Y:l.length<=k)(h:l.all fN=true):0<=jd l/\jd l<10^k:=by
 have:=aaP l h;refine⟨this.1,Int.lt_of_lt_of_le this.2 ?_⟩;have:(10:Nat)^l.length<=10^k:=Nat.pow_le_pow_right (by omega) Y;have:=Int.ofNat_le.2 this;simpa using this
theorem Ki (s:ByteArray)(a k:Nat)(h:a+k<s.size):cut s a (k+1)=cut s a k++[s[a+k]]:=by
 unfold cut;rw[List.take_succ_eq_append_getElem (by simp;omega)];simp;rfl
theorem sV (s:ByteArray)(a k:Nat)(h:a+k<=s.size):(cut s a k).length=k:=by
 unfold cut;simp;have:s.data.size=s.size:=rfl;omega
theorem aaQ (s:ByteArray)(a n k:Nat)(Y:k<n)(h:a+n<=s.size):(cut s a n)[k]?=some (s[a+k]'(by omega)):=by
 have e:s.data.size=s.size:=rfl;unfold cut;rw[List.getElem?_take_of_lt Y,List.getElem?_drop,Array.getElem?_toList,Μ (by omega)];rfl
def sH (s:ByteArray)(i:Nat):Int:=((s.data[i]?.getD 0).toNat:Int)
theorem tu (s:ByteArray)(i:Nat)(h:i<s.size):((s[i]'h).toNat:Int)=sH s i:=by
 have e:s.data.size=s.size:=rfl;unfold sH;rw[Μ (by omega)];rfl
def rq (s:ByteArray):Prop:=
 s.size=16/\sH s 8=84/\sH s 15=90/\1970<=bU (cut s 0 4)/\bU (cut s 0 4)<=2199/\
 ag.Valid (bU (cut s 0 4)) (bU (cut s 4 2)) (bU (cut s 6 2))/\
 0<=bU (cut s 9 2)/\bU (cut s 9 2)<=23/\0<=bU (cut s 11 2)/\bU (cut s 11 2)<=59/\0<=bU (cut s 13 2)/\bU (cut s 13 2)<=59
def kj (s:ByteArray):Int:=
 ag.num (bU (cut s 0 4)) (bU (cut s 4 2)) (bU (cut s 6 2))*86400+bU (cut s 9 2)*3600+bU (cut s 11 2)*60+bU (cut s 13 2)
def kV (s:ByteArray):Bool:=decide (
 s.size=16/\sH s 8=84/\sH s 15=90/\1970<=bU (cut s 0 4)/\bU (cut s 0 4)<=2199/\
 (1<=bU (cut s 4 2)/\bU (cut s 4 2)<=12/\1<=bU (cut s 6 2)/\bU (cut s 6 2)<=ag.md (bU (cut s 0 4)) (bU (cut s 4 2)))/\
 0<=bU (cut s 9 2)/\bU (cut s 9 2)<=23/\0<=bU (cut s 11 2)/\bU (cut s 11 2)<=59/\0<=bU (cut s 13 2)/\bU (cut s 13 2)<=59)
theorem gW {s:ByteArray}:kV s=true↔rq s:=by
 unfold kV rq ag.Valid;exact decide_eq_true_iff
def wy (s:ByteArray):Value:=if kV s=true then .tuple #[V Z (kj s),V Z 0]else .tuple #[V Z 0,V Z 1]
theorem xv {s:ByteArray}(h:rq s):wy s=.tuple #[V Z (kj s),V Z 0]:=by unfold wy;rw[if_pos (gW.2 h)]
theorem zk {s:ByteArray}(h:¬rq s):wy s=.tuple #[V Z 0,V Z 1]:=by unfold wy;rw[if_neg (λe=>h (gW.1 e))]
theorem aaR (l:List UInt8)(k:Nat)(Y:l.length<=k):-1<=bU l/\bU l<10^k:=by
 unfold bU;split
 ·have:=qd l k Y ‹_›;omega
 have:(0:Int)<10^k:=Int.pow_pos (by omega);omega
theorem Sj {y m d:Int}(h0:1970<=y)(G:y<=2199)(v:ag.Valid y m d):0<=ag.num y m d/\ag.num y m d<84006:=by
 have a:=ag.wv v;have b:=ag.aaM y h0 (by omega);have c:=ag.lq (y+1) (2199-y).toNat;rw[show y+1+((2199-y).toNat:Int)=2200 from by omega,ag.AX]at c;omega
open Go.RowKit Go.Sort
theorem acy {n:Int}(h0:0<=n)(G:n<84006):1970<=ag.au n/\ag.au n<=2199/\ag.Valid (ag.au n) (ag.ofM n) (ag.aA n):=by
 have v:=ag.kU n (by omega);have e:=ag.oU n (by omega);have i:=ag.wv v;refine⟨?_,?_,v⟩
 ·by_cases q:1970<=ag.au n
  ·exact q
  have:=ag.lq (ag.au n+1) (1970-ag.au n-1).toNat;rw[show ag.au n+1+((1970-ag.au n-1).toNat:Int)=1970 from by omega,ag.Hl]at this;omega
 by_cases q:ag.au n<=2199
 ·exact q
 have:=ag.lq 2200 (ag.au n-2200).toNat;rw[show 2200+((ag.au n-2200).toNat:Int)=ag.au n from by omega,ag.AX]at this;omega
def kq (n:Int):List UInt8:=
 pad 4 (ag.au (n/86400))++pad 2 (ag.ofM (n/86400))++pad 2 (ag.aA (n/86400))++[84]++pad 2 (n%86400/3600)++pad 2 (n%86400/60%60)++pad 2 (n%86400%60)++[90]
def kr (n:Int):Value:=if cU n then .tuple #[η ⟨(kq n).toArray⟩,V Z 0]else .tuple #[η ⟨#[]⟩,V Z 1]
theorem Sk (n:Int):(⟨(pad 4 (ag.au (n/86400))).toArray⟩:ByteArray)++⟨(pad 2 (ag.ofM (n/86400))).toArray⟩++⟨(pad 2 (ag.aA (n/86400))).toArray⟩++⟨#[84]⟩++
 ⟨(pad 2 (n%86400/3600)).toArray⟩++⟨(pad 2 (n%86400/60%60)).toArray⟩++⟨(pad 2 (n%60)).toArray⟩++⟨#[90]⟩=⟨(kq n).toArray⟩:=by
 unfold kq;rw[show n%86400%60=n%60 from by omega];simp only[oW]
def kW (l:List UInt8):Bool:=decide (1<=l.length)&&decide (l.length<=7)&&!(l.head?==some 48&&decide (1<l.length))
def dv (l:List UInt8):Int:=if kW l then bU l else 0
def dD (l:List UInt8):Bool:=kW l&&decide (0<=bU l)
theorem N5 (s:ByteArray):cut s 0 s.size=s.data.toList:=by
 unfold cut;have e:s.data.size=s.size:=rfl;rw[List.drop_zero,Ρ (by rw[Ε];omega)]
def qM (u:Nat):Int:=match u with|0=>86400|1=>3600|2=>60|_=>1
def iO (u:Nat)(c:UInt8):Nat:=
 if u<=0/\c.toNat=68 then 0 else if u<=1/\c.toNat=72 then 1 else if u<=2/\c.toNat=77 then 2 else if u<=3/\c.toNat=83 then 3 else 4
def gB:List UInt8->List UInt8->Nat->Bool->Int->Nat->Option Int
 |[],cur,_,_,sum,parts=>if parts=0\/cur≠[]then none else some sum
 |c::rest,cur,u,times,sum,parts=>
  if fN c=true then gB rest (cur++[c]) u times sum parts
  else if c.toNat=84 then(if times=true\/cur≠[]\/rest=[]then none else gB rest [] 1 true sum parts)
  else if dD cur=false\/iO u c=4\/decide (0<iO u c)≠times then none
  else gB rest [] (iO u c+1) times (sum+dv cur*qM (iO u c)) (parts+1)
def qf:List UInt8->Option Int
 |c::rest=>if c.toNat=80 then gB rest [] 0 false 0 0 else none
 |[]=>none
def Wc (o:Option Int):Value:=match o with|some n=>.tuple #[V Z n,V Z 0]|none=>.tuple #[V Z 0,V Z 1]
theorem FY (l:List UInt8)(h:dD l=true):0<=dv l/\dv l<=9999999:=by
 simp only[dD,Α,decide_eq_true_eq]at h;have hs:=h.1;unfold dv;rw[if_pos hs];simp only[kW,Α,decide_eq_true_eq]at hs;have:=aaR l 7 hs.1.2;exact⟨h.2,by omega⟩
theorem gR (s:ByteArray)(a b:Nat):(s.extract a b).data.toList=cut s a (b-a):=by
 unfold cut;simp[ByteArray.data_extract]
theorem drop_cons (s:ByteArray)(i:Nat)(h:i<s.size):s.data.toList.drop i=(s[i]'h)::s.data.toList.drop (i+1):=by
 have e:s.data.size=s.size:=rfl;rw[Ν (by rw[Ε];omega)];rfl
theorem Kj (u:Nat)(c:UInt8)(h:u<=4):u<=iO u c/\iO u c<=4:=by
 unfold iO;repeat' split
 all_goals omega
theorem Bs (w:μ)(o:Obj)(q:Nat):Below w.heap.size w ((w.alloc o).drewN q):=by
 have h:=(κ w.heap.size w).alloc (ι _) o;exact⟨h.os,h.tape,h.output,h.size,h.block⟩
def bx (e:Int):List Χ:=[{v:=.iface 85 (.agg #[V Z e]),recovered:=false}]
theorem eS (e:Int)(w:μ):ν prog 42 #[.bool true,V Z e] w λE I=>E=δ (.tuple #[])/\w=I:=by
 go_enter func42,ntmps42;go_wp2;go_end0;exact⟨rfl,rfl⟩
theorem gg (e:Int)(w:μ):ν prog 42 #[.bool false,V Z e] w λE I=>E=ε (bx e)/\w=I:=by
 go_enter func42,ntmps42;go_wp2;exact⟨rfl,rfl,rfl⟩
theorem dh {e:Int}{w:μ}{Q:Ι->μ->Prop}(q:Q (δ (.tuple #[])) w):ν prog 42 #[.bool true,V Z e] w Q:=(eS e w).mono λ_ _ ⟨a,b⟩=>by subst a b;exact q
theorem eI {e:Int}{w:μ}{Q:Ι->μ->Prop}(q:Q (ε (bx e)) w):ν prog 42 #[.bool false,V Z e] w Q:=(gg e w).mono λ_ _ ⟨a,b⟩=>by subst a b;exact q
theorem lJ (c:Int)(w:μ):ν prog 90 #[.int .u8 c] w λE I=>E=δ (.bool (decide (48<=c)&&decide (c<=57)))/\w=I:=by
 by_cases h:48<=c
 ·go_enter func90,ntmps90;go_wp2;go_ret;exact⟨by simp[h],rfl⟩
 have h':decide (48<=c)=false:=by simpa using h
 rw[h'];go_enter func90,ntmps90;go_wp2;go_ret;exact⟨rfl,rfl⟩
def dW (s:ByteArray):Bool:=s.data.toList.all fN
theorem zl (s:ByteArray)(e:Int)(w:μ)(h7:s.size<=7):
 ν prog 73 #[η s,V Z e] w λE I=>((dW s=true/\E=δ (V Z (jd s.data.toList)))\/(dW s=false/\E=ε (bx e)))/\w=I:=by
 go_enter func73,ntmps73;go_wp2;go_loop [5,9] (λv i=>∃k:Nat,k<=s.size/\i=V Z (k:Int)/\v=V Z (jd (cut s 0 k))/\Hid ((cut s 0 k).all fN=true)) (λ_ i=>s.size-(intOf i).toNat)
 case atStart=>exact⟨0,by omega,rfl,rfl,rfl⟩
 case round=>
  obtain⟨k,k0,rfl,rfl,HD⟩:=hrel;have U:=qd (cut s 0 k) 7 (by rw[sV s 0 k (by omega)];omega) HD.out;by_cases aR:k<s.size
  ·have Sl:=Ki s 0 k (by omega);simp only[Ω]at Sl;by_cases hd:fN s[k]=true
   ·have tG:=(AY _).1 hd;have HD2:Hid ((cut s 0 (k+1)).all fN=true):=by
     rw[Sl];simp[HD.out,hd,Hid]
    have HV:Hid (jd (cut s 0 (k+1))=10*jd (cut s 0 k)+((s[k].toNat:Int)-48)):=by
     rw[Sl];exact Hm _ _
    have hu:(decide (48<=(s[k].toNat:Int))&&decide ((s[k].toNat:Int)<=57))=true:=hd;clear hd Sl;go_wp2_with (first
     |(go_at_call 90;refine(lJ _ _).mono ?_;rintro e I ⟨rfl,rfl⟩)
     |(go_at_call 42;refine dh ?_))
    exact⟨⟨k+1,by omega,by go_num,by rw[HV.out,Int.mul_comm],HD2⟩,by simp[intOf];omega⟩
   have hd':fN s[k]=false:=by simpa using hd
   have bD:dW s=false:=by
    show s.data.toList.all fN=false;have hm:s[k]∈s.data.toList:=by
     have:=aaQ s 0 s.size k aR (by omega);rw[N5]at this;simp only[Ω]at this;exact List.mem_of_getElem? this
    rw[List.all_eq_false];exact⟨_,hm,by rw[hd'];exact ρ⟩
   have HA:=H bD;have hu:(decide (48<=(s[k].toNat:Int))&&decide ((s[k].toNat:Int)<=57))=false:=hd';clear hd' Sl HD hd bD;go_wp2_with (first
    |(go_at_call 90;refine(lJ _ _).mono ?_;rintro e I ⟨rfl,rfl⟩)
    |(go_at_call 42;refine eI ?_))
   exact⟨rfl,.inr ⟨HA.out,rfl⟩,rfl⟩
  have Y:k=s.size:=by omega
  subst Y;have ha:=HD.out;rw[N5]at ha⊢;have HA:Hid (dW s=true):=ha;clear ha;go_wp2;go_ret;exact⟨.inl ⟨HA.out,rfl⟩,rfl⟩
theorem eJ (s:ByteArray)(e:Int)(w:μ)(h7:s.size<=7)(h:dW s=true):
 ν prog 73 #[η s,V Z e] w λE I=>E=δ (V Z (jd s.data.toList))/\w=I:=
 (zl s e w h7).mono λE I ⟨G,A⟩=>⟨G.elim (λq=>q.2) (λq=>by rw[h]at q;exact absurd q.1 (by decide)),A⟩
theorem jJ (s:ByteArray)(e:Int)(w:μ)(h7:s.size<=7)(h:dW s=false):
 ν prog 73 #[η s,V Z e] w λE I=>E=ε (bx e)/\w=I:=
 (zl s e w h7).mono λE I ⟨G,A⟩=>⟨G.elim (λq=>by rw[h]at q;exact absurd q.1 (by decide)) (λq=>q.2),A⟩
theorem mV (y:Int)(w:μ)(h0:0<=y)(G:y<=100000):
 ν prog 109 #[V Z y] w λe I=>e=δ (V Z (ag.ty y))/\w=I:=by
 go_enter func109,ntmps109;go_wp2;go_ret;exact⟨rfl,rfl⟩
theorem lK (m:Int)(w:μ)(h0:0<=m)(G:m<=1000):
 ν prog 110 #[V Z m] w λe I=>e=δ (V Z (ag.tm m))/\w=I:=by
 go_enter func110,ntmps110;go_wp2;go_ret;exact⟨rfl,rfl⟩
theorem gh {P:Ψ}{f:FuncId}{args:Array Value}{w:μ}{n:Nat}{v:Value}
 (h:ν P f args (w.drewN n) λe I=>e=δ v/\w.drewN n=I):ν P f args (w.drewN n) λe az=>e=δ v/\∃m,az=w.drewN m:=
 h.mono λ_ _ ⟨he,hm⟩=>⟨he,n,hm.symm⟩
theorem below_drewN {B:Nat}{a w:μ}(h:Below B a w)(n:Nat):Below B a (w.drewN n):=⟨h.os,h.tape,h.output,h.size,h.block⟩
theorem J0 (y:Int)(h0:0<=y)(G:y<=100000):0<=ag.ty y/\ag.ty y<=40000000:=by unfold ag.ty;omega
theorem uV (m:Int)(h0:0<=m)(G:m<=1000):0<=ag.tm m/\ag.tm m<=40000:=by unfold ag.tm;omega
theorem sq (y m d:Int)(w:μ)(h0:1<=y)(G:y<=10000)(A:0<=m)(M:m<=100)(h4:0<=d)(h5:d<=100):
 ν prog 75 #[.agg #[V Z y,V Z m,V Z d]] w λe I=>e=δ (V Z (ag.num y m d))/\Below w.heap.size w I:=by
 unfold ag.num;by_cases hm:m-3<0
 case pos=>
  have t1:=J0 (y-1) (by omega) (by omega);have t2:=uV (m-3+12) (by omega) (by omega);rw[if_pos hm];go_enter func75,ntmps75;go_wp2;go_quiet (fail);go_wp2;have al:=Bs w (θ #[V Z y,V Z m,V Z d] 88) nq;have c2:((w.alloc (θ #[V Z y,V Z m,V Z d] 88)).drewN nq).cell? ⟨w.heap.size,2,none⟩=some (V Z d):=by simp[go_sem]
  generalize(w.alloc (θ #[V Z y,V Z m,V Z d] 88)).drewN nq=W at *
  go_quiet (first
   |(go_at_call 109;exact gh (mV _ _ (by omega) (by omega)))
   |(go_at_call 110;exact gh (lK _ _ (by omega) (by omega))))
  go_wp2;go_ret;exact⟨rfl,below_drewN al _⟩
 case neg=>
  have t1:=J0 y (by omega) (by omega);have t2:=uV (m-3) (by omega) (by omega);rw[if_neg hm];go_enter func75,ntmps75;go_wp2;go_quiet (fail);go_wp2;have al:=Bs w (θ #[V Z y,V Z m,V Z d] 88) nq;have c2:((w.alloc (θ #[V Z y,V Z m,V Z d] 88)).drewN nq).cell? ⟨w.heap.size,2,none⟩=some (V Z d):=by simp[go_sem]
  generalize(w.alloc (θ #[V Z y,V Z m,V Z d] 88)).drewN nq=W at *
  go_quiet (first
   |(go_at_call 109;exact gh (mV _ _ (by omega) (by omega)))
   |(go_at_call 110;exact gh (lK _ _ (by omega) (by omega))))
  go_wp2;go_ret;exact⟨rfl,below_drewN al _⟩
def cV (y m d:Int):Value:=.agg #[V Z y,V Z m,V Z d]
theorem xw (n:Int)(w:μ)(h0:-719468<=n)(G:n<=1000000):
 ν prog 76 #[V Z n] w λe I=>e=δ (cV (ag.au n) (ag.ofM n) (ag.aA n))/\Below w.heap.size w I:=by
 have hy:=ag.agj (n+719468) (by omega) (by omega);have hr:=ag.Kg (n+719468) (by omega);have hm:=ag.Qr _ hr.1 hr.2.1;have ez:=hr.1;have tH:=hr.2.1;have kM:=hm.1;have lR:=hm.2.1;have t:=uV _ hm.1 (by omega);clear hr hm;unfold cV ag.au ag.ofM ag.aA;by_cases hc:ag.ty ((n+719468)*400/146097+1)<=n+719468
 case pos=>
  have ey:ag.yr (n+719468)=(n+719468)*400/146097+1:=by unfold ag.yr;rw[if_pos hc]
  rw[ey]at hy ez tH kM lR t⊢;unfold ag.mo at kM lR t⊢;clear ey;by_cases zm:((n+719468-ag.ty ((n+719468)*400/146097+1))*5+2)/153+3>12
  case pos=>
   rw[if_pos zm,if_pos zm];go_enter func76,ntmps76;go_wp2_with (first
    |(go_at_call 109;refine(mV _ _ (by omega) (by omega)).mono ?_;rintro e I ⟨rfl,rfl⟩)
    |(go_at_call 110;refine(lK _ _ (by omega) (by omega)).mono ?_;rintro e I ⟨rfl,rfl⟩))
   exact bodyPost_ret (v:=.agg #[V Z ((n+719468)*400/146097+1+1),V Z (((n+719468-ag.ty ((n+719468)*400/146097+1))*5+2)/153+3-12),V Z (n+719468-ag.ty ((n+719468)*400/146097+1)-ag.tm (((n+719468-ag.ty ((n+719468)*400/146097+1))*5+2)/153)+1)]) (by simp[results,results76,go_sem]) rfl ⟨rfl,(κ _ _).alloc (ι _) _⟩
  case neg=>
   rw[if_neg zm,if_neg zm];go_enter func76,ntmps76;go_wp2_with (first
    |(go_at_call 109;refine(mV _ _ (by omega) (by omega)).mono ?_;rintro e I ⟨rfl,rfl⟩)
    |(go_at_call 110;refine(lK _ _ (by omega) (by omega)).mono ?_;rintro e I ⟨rfl,rfl⟩))
   exact bodyPost_ret (v:=.agg #[V Z ((n+719468)*400/146097+1),V Z (((n+719468-ag.ty ((n+719468)*400/146097+1))*5+2)/153+3),V Z (n+719468-ag.ty ((n+719468)*400/146097+1)-ag.tm (((n+719468-ag.ty ((n+719468)*400/146097+1))*5+2)/153)+1)]) (by simp[results,results76,go_sem]) rfl ⟨rfl,(κ _ _).alloc (ι _) _⟩
 case neg=>
  have ey:ag.yr (n+719468)=(n+719468)*400/146097:=by unfold ag.yr;rw[if_neg hc]
  rw[ey]at hy ez tH kM lR t⊢;unfold ag.mo at kM lR t⊢;clear ey;by_cases zm:((n+719468-ag.ty ((n+719468)*400/146097))*5+2)/153+3>12
  case pos=>
   rw[if_pos zm,if_pos zm];go_enter func76,ntmps76;go_wp2_with (first
    |(go_at_call 109;refine(mV _ _ (by omega) (by omega)).mono ?_;rintro e I ⟨rfl,rfl⟩)
    |(go_at_call 110;refine(lK _ _ (by omega) (by omega)).mono ?_;rintro e I ⟨rfl,rfl⟩))
   exact bodyPost_ret (v:=.agg #[V Z ((n+719468)*400/146097+1),V Z (((n+719468-ag.ty ((n+719468)*400/146097))*5+2)/153+3-12),V Z (n+719468-ag.ty ((n+719468)*400/146097)-ag.tm (((n+719468-ag.ty ((n+719468)*400/146097))*5+2)/153)+1)]) (by simp[results,results76,go_sem]) rfl ⟨rfl,(κ _ _).alloc (ι _) _⟩
  case neg=>
   rw[if_neg zm,if_neg zm];go_enter func76,ntmps76;go_wp2_with (first
    |(go_at_call 109;refine(mV _ _ (by omega) (by omega)).mono ?_;rintro e I ⟨rfl,rfl⟩)
    |(go_at_call 110;refine(lK _ _ (by omega) (by omega)).mono ?_;rintro e I ⟨rfl,rfl⟩))
   exact bodyPost_ret (v:=.agg #[V Z ((n+719468)*400/146097),V Z (((n+719468-ag.ty ((n+719468)*400/146097))*5+2)/153+3),V Z (n+719468-ag.ty ((n+719468)*400/146097)-ag.tm (((n+719468-ag.ty ((n+719468)*400/146097))*5+2)/153)+1)]) (by simp[results,results76,go_sem]) rfl ⟨rfl,(κ _ _).alloc (ι _) _⟩
end Go.Proofs.YtchdfdmjihnhkaaGreatDoor
namespace Go.Proofs.YtchdfdmjihnhkaaGreatDoor
open Tryz
open Go.RowKit Go.Sort
def oX (y m d:Int):Bool:=decide (1<=m)&&decide (m<=12)&&decide (1<=d)&&decide (d<=ag.md y m)
theorem sW (y m d:Int):oX y m d=true↔ag.Valid y m d:=by
 simp[oX,ag.Valid,and_assoc]
theorem N6 (a b c x y z:Int)(w:μ):
 (Op.equalIn 10000 88 (.agg #[V Z a,V Z b,V Z c]) (.agg #[V Z x,V Z y,V Z z])).run prog w=.ok ((a==x)&&(b==y)&&(c==z)) w:=by
 have hs:(prog.info? 3).isSome=true:=by kernel_rfl
 obtain⟨i,hi⟩:=Option.isSome_iff_exists.1 hs;have hc:prog.cellsOf 3=1:=by kernel_rfl
 rw[run_equalIn_array w 9999 _ _ underlying88 hi,hc];rw[show List.range 3=[0,1,2]from rfl];by_cases G:a=x<;>by_cases A:b=y<;>by_cases M:c=z<;>simp[Op.eqItems,part,go_sem,G,A,M]
theorem acA {y m d:Int}(hy:1<=y)(hm:0<=m)(hd:0<=d):
 (ag.au (ag.num y m d)==y&&ag.ofM (ag.num y m d)==m&&ag.aA (ag.num y m d)==d)=oX y m d:=by
 rw[Bool.eq_iff_iff,sW,<-ag.Hk hy hm hd];simp[and_assoc]
theorem Kk (W:μ)(y m d:Int)(D:Nat)(os:Array Obj)(h0:1<=y)(G:y<=10000)(A:0<=m)(M:m<=100)(h4:0<=d)(h5:d<=100):
 ν prog 75 #[.agg #[V Z y,V Z m,V Z d]] (grow (redrawn W D) os) λe az=>e=δ (V Z (ag.num y m d))/\∃p:Regrown,az=grow (redrawn W p.d) p.os:=
 Calls.regrown_of (sq y m d _ h0 G A M h4 h5)
theorem Sm (W:μ)(n:Int)(D:Nat)(os:Array Obj)(h0:-719468<=n)(G:n<=1000000):
 ν prog 76 #[V Z n] (grow (redrawn W D) os) λe az=>e=δ (.agg #[V Z (ag.au n),V Z (ag.ofM n),V Z (ag.aA n)])/\∃p:Regrown,az=grow (redrawn W p.d) p.os:=
 Calls.regrown_of (xw n _ h0 G)
theorem Hn (y m d:Int)(w:μ)(h0:1<=y)(G:y<=2199)(A:0<=m)(M:m<=99)(h4:0<=d)(h5:d<=99):
 ν prog 74 #[.agg #[V Z y,V Z m,V Z d]] w λe I=>e=δ (.bool (oX y m d))/\Below w.heap.size w I:=by
 have hn:-719468<=ag.num y m d/\ag.num y m d<=1000000:=by
  unfold ag.num ag.ty ag.tm;split<;>omega
 go_enter func74,ntmps74;go_wp2;have al:Below w.heap.size w (w.alloc (θ #[V Z y,V Z m,V Z d] 88)):=(κ _ _).alloc (ι _) _;have c0:(w.alloc (θ #[V Z y,V Z m,V Z d] 88)).cell? ⟨w.heap.size,0,none⟩=some (V Z y):=by simp[go_sem]
 have c1:(w.alloc (θ #[V Z y,V Z m,V Z d] 88)).cell? ⟨w.heap.size,1,none⟩=some (V Z m):=by simp[go_sem]
 have c2:(w.alloc (θ #[V Z y,V Z m,V Z d] 88)).cell? ⟨w.heap.size,2,none⟩=some (V Z d):=by simp[go_sem]
 generalize(w.alloc (θ #[V Z y,V Z m,V Z d] 88))=W at *
 have heq:=N6;have k0:=cell_regrown c0;have k1:=cell_regrown c1;have k2:=cell_regrown c2;clear c0 c1 c2;refine wp_region_quiet_below (by kernel_rfl) (by kernel_rfl) ?_
 repeat(go_big_quiet_step (first|exact Kk W _ _ _ _ _ (by omega) (by omega) (by omega) (by omega) (by omega) (by omega)|exact Sm W _ _ _ (by omega) (by omega)))
 refine wpQuiet_nil ?_;intro _ dN;obtain⟨⟨dq,ju⟩,iE⟩:=dN;subst iE;go_wp2;go_ret;exact⟨congrArg (λb=>Δ (.bool b)) (acA h0 A h4),al.trans ((below_regrown W dq ju).mono al.size)⟩
theorem qN {W w1:μ}(U:Below W.heap.size W w1):(∀b o,b<W.heap.size->w1.cell? ⟨b,o,none⟩=W.cell? ⟨b,o,none⟩)/\(∀b o,b<W.heap.size->w1.frozen? ⟨b,o,none⟩=W.frozen? ⟨b,o,none⟩):=
 ⟨λb o h=>U.cell (p:=⟨b,o,none⟩) h,λb o h=>U.frozen (p:=⟨b,o,none⟩) h⟩
theorem xx (t:ByteArray)(a b:Nat):dW (t.extract a b)=(cut t a (b-a)).all fN:=by
 unfold dW;rw[gR]
theorem qg {l:List UInt8}(h:l.all fN=true):bU l=jd l:=by unfold bU;rw[if_pos h]
theorem wz {l:List UInt8}(h:l.all fN=false):bU l=-1:=by unfold bU;rw[if_neg (by rw[h];exact ρ)]
def zn (y m d:Int):Ι:=if 1970<=y/\y<=2199/\oX y m d=true then δ (cV y m d)else ε (bx 1)
theorem Kl {y m d:Int}(h:1970<=y/\y<=2199/\oX y m d=true):zn y m d=δ (cV y m d):=by unfold zn;rw[if_pos h]
theorem wA {y m d:Int}(h:¬(1970<=y/\y<=2199/\oX y m d=true)):zn y m d=ε (bx 1):=by unfold zn;rw[if_neg h]
attribute [local go_sem] Go.wp_at_zero Go.wp_at_succ
theorem FZ (t:ByteArray)(w:μ)(y m d:Int)(h8:t.size=8)(d1:dW (t.extract 0 4)=true)(d2:dW (t.extract 4 6)=true)(d3:dW (t.extract 6 t.size)=true)
 (S:jd (t.extract 0 4).data.toList=y)(e2:jd (t.extract 4 6).data.toList=m)(e3:jd (t.extract 6 t.size).data.toList=d)
 (y0:0<=y)(y1:y<=9999)(m0:0<=m)(m1:m<=99)(d0:0<=d)(d9:d<=99):
 ν prog 47 #[η t] w λE I=>E=zn y m d/\Below w.heap.size w I:=by
 have z1:(4:Int)<=t.size:=by omega
 have z2:(6:Int)<=t.size:=by omega
 have z3:(8:Int)<=t.size:=by omega
 have z4:(t.size:Int)<=8:=by omega
 have s1:(t.extract 0 4).size<=7:=by simp[ξ];omega
 have s2:(t.extract 4 6).size<=7:=by simp[ξ];omega
 have s3:(t.extract 6 t.size).size<=7:=by simp[ξ];omega
 have H8:=H h8;have c1:=λW=>eJ (t.extract 0 4) 1 W s1 d1;have c2:=λW=>eJ (t.extract 4 6) 1 W s2 d2;have c3:=λW=>eJ (t.extract 6 t.size) 1 W s3 d3;rw[S]at c1;rw[e2]at c2;rw[e3]at c3;have C1:=H c1;have C2:=H c2;have C3:=H c3;clear h8 c1 c2 c3 S e2 e3 d1 d2 d3 s1 s2 s3;go_enter func47,ntmps47;go_wp2;go_region_held3 (λI=>True) (trivial)
  (first
   |(go_at_call_of 73 (Β (t.extract 0 4));refine(C1.out _).mono ?_;rintro e I ⟨rfl,rfl⟩)
   |(go_at_call_of 73 (Β (t.extract 4 6));refine(C2.out _).mono ?_;rintro e I ⟨rfl,rfl⟩)
   |(go_at_call_of 73 (Β (t.extract 6 t.size));refine(C3.out _).mono ?_;rintro e I ⟨rfl,rfl⟩))
 all_goals
  by_cases ya:1970<=y
  case neg=>
   have ya':decide (1970<=y)=false:=by simpa using ya
   go_wp2_with (go_at_call 42;refine eI ?_);exact⟨rfl,by rw[wA (by omega)],(((κ _ _).alloc (ι _) _).alloc (by simp) _).drew⟩
  case pos=>
   by_cases yb:y<=2199
   case neg=>
    have yb':decide (y<=2199)=false:=by simpa using yb
    go_wp2_with (go_at_call 42;refine eI ?_);exact⟨rfl,by rw[wA (by omega)],(((κ _ _).alloc (ι _) _).alloc (by simp) _).drew⟩
   case pos=>
    have al:Below w.heap.size w (((w.alloc (θ #[V Z 0,V Z 0,V Z 0] 88)).alloc (θ #[V Z y,V Z m,V Z d] 88)).drew):=(((κ _ _).alloc (ι _) _).alloc (by simp) _).drew;cases hv:oX y m d
    case false=>
     go_wp2_with (first
      |(go_at_call_of 42 (ο true);refine dh ?_)
      |(go_at_call_of 42 (ο false);refine eI ?_)
      |(go_at_call 74;refine(Hn _ _ _ _ (by omega) (by omega) (by omega) (by omega) (by omega) (by omega)).mono ?_;rintro e w1 ⟨rfl,ay⟩;rw[hv]))
     exact⟨rfl,by rw[wA (by simp[hv])],al.trans (ay.mono al.size)⟩
    case true=>
     go_wp2_with (first
      |(go_at_call 42;refine dh ?_)
      |(go_at_call 74;refine(Hn _ _ _ _ (by omega) (by omega) (by omega) (by omega) (by omega) (by omega)).mono ?_;rintro e w1 ⟨rfl,ay⟩;rw[hv];obtain⟨hc,hf⟩:=qN ay;have hz:=ay.size))
     have i0:(w1.cell? ⟨w.heap.size,0,none⟩).isSome=true:=by rw[hc _ _ (by simp;omega)];simp[go_sem]
     have i1:(w1.cell? ⟨w.heap.size,1,none⟩).isSome=true:=by rw[hc _ _ (by simp;omega)];simp[go_sem]
     have i2:(w1.cell? ⟨w.heap.size,2,none⟩).isSome=true:=by rw[hc _ _ (by simp;omega)];simp[go_sem]
     exact bodyPost_ret (v:=.agg #[V Z y,V Z m,V Z d]) (by simp[results,results47,go_sem,i0,i1,i2]) rfl
      ⟨by rw[Kl ⟨ya,yb,hv⟩];rfl,(((al.trans (ay.mono al.size)).setCell (ι _) _).setCell (ι _) _).setCell (ι _) _⟩
end Go.Proofs.YtchdfdmjihnhkaaGreatDoor
namespace Go.Proofs.YtchdfdmjihnhkaaGreatDoor
open Tryz
open Go.RowKit Go.Sort
theorem cW (i:Nat){P:Ψ}{md:Region.Mode}{ops:Array Oper}{Q:Exit->Act->μ->Prop}{fuel:Nat}{listed:Array Bool}{a:Act}{w:μ}{oi:Oper}{v:Value}
 (h:wpAny P md ops Q fuel (listed.setIfInBounds i true) (a.put oi.dst v) w)
 (hi:ops[i]?=some oi:=by rfl)(hs:Region.noSelect ops=true:=by kernel_rfl)(hf:Region.free md ops listed i=true:=by kernel_rfl)
 (hr:(Region.ready md ops listed).contains i=true:=by kernel_rfl)
 (hw:Region.wanted oi (yielded ops a.tmps)=true:=by rfl)
 (hy:∀w,(execOp a.eval oi).run P w=.ok (.value v) w:=by intro w;go_simp<;>with_reducible rfl)
 (hQ:∀c a w,Q (.panic c) (a.put oi.dst v) w->Q (.panic c) a w:=by exact λ_ _ _ h=>h):
 wpAny P md ops Q (fuel+1) listed a w:=wpAny_take hi hs hf hr hQ (.inl ⟨hw,hy⟩) h
theorem kX (i:Nat){P:Ψ}{md:Region.Mode}{ops:Array Oper}{Q:Exit->Act->μ->Prop}{fuel:Nat}{listed:Array Bool}{a:Act}{w:μ}{o:Oper}
 (h:∀K':Act->μ->Prop,(∀a w,wpAny P md ops Q fuel (listed.setIfInBounds i true) a w->K' a w)->if Region.wanted o (yielded ops a.tmps)=true then Oper.wp P o a w K' Q else K' (a.put o.dst undef) w)
 (ho:ops[i]?=some o:=by rfl)(hr:Region.ready md ops listed=[i]:=by kernel_rfl):
 wpAny P md ops Q (fuel+1) listed a w:=wpAny_ready hr (by simp) (π ho h ψ)
theorem aB {l:Array Edge}{aqr:Nat->Act->μ->Prop}{a:Act}{w:μ}(h:∀e∈l,Region.binds .any e=true->aqr e.on a w)(i:Nat)(m:(⟨i,.data⟩:Edge)∈l:=by simp):aqr i a w:=h _ m rfl
theorem Km (t:ByteArray)(w:μ)(h8:t.size=8)(d1:dW (t.extract 0 4)=false):
 ν prog 47 #[η t] w λE I=>E=ε (bx 1)/\Below w.heap.size w I:=by
 have z1:(4:Int)<=t.size:=by omega
 have z2:(6:Int)<=t.size:=by omega
 have z3:(8:Int)<=t.size:=by omega
 have z4:(t.size:Int)<=8:=by omega
 have s1:(t.extract 0 4).size<=7:=by simp[ξ];omega
 have c1:=λW=>jJ (t.extract 0 4) 1 W s1 d1;have C1:=H c1;have H8:=H h8;clear h8 c1 d1 s1;go_enter func47,ntmps47;go_wp2;refine wp_region_any (by kernel_rfl) ?_;change wpAny _ _ _ _ _ _ _ (Λ _);refine cW 0 ?_;refine cW 1 ?_;refine cW 3 ?_;refine cW 4 ?_;refine cW 6 ?_;refine cW 7 ?_;refine wpAny_ready (rs:=[2,10]) (by kernel_rfl) (by simp) ?_;refine π rfl (λaqy hK=>?_) (π rfl (λaqy hK=>?_) ψ)
 ·go_simp;go_wp2_with (go_at_call 73;refine(C1.out _).mono ?_;rintro e I ⟨rfl,rfl⟩);exact⟨rfl,rfl,((κ _ _).alloc (ι _) _).drew⟩
 go_simp;refine hK _ _ ?_;clear hK aqy;refine kX 2 λaqy hK=>?_;go_simp;go_wp2_with (go_at_call 73;refine(C1.out _).mono ?_;rintro e I ⟨rfl,rfl⟩);exact⟨rfl,rfl,(((κ _ _).alloc (ι _) _).alloc (by simp) _).drew⟩
theorem Kn (t:ByteArray)(w:μ)(h8:t.size=8)(d1:dW (t.extract 0 4)=true)(d2:dW (t.extract 4 6)=false):
 ν prog 47 #[η t] w λE I=>E=ε (bx 1)/\Below w.heap.size w I:=by
 have z1:(4:Int)<=t.size:=by omega
 have z2:(6:Int)<=t.size:=by omega
 have z3:(8:Int)<=t.size:=by omega
 have z4:(t.size:Int)<=8:=by omega
 have s1:(t.extract 0 4).size<=7:=by simp[ξ];omega
 have c1:=λW=>eJ (t.extract 0 4) 1 W s1 d1;have C1:=H c1;have s2:(t.extract 4 6).size<=7:=by simp[ξ];omega
 have c2:=λW=>jJ (t.extract 4 6) 1 W s2 d2;have C2:=H c2;have H8:=H h8;clear h8 c1 d1 s1 c2 d2 s2;go_enter func47,ntmps47;go_wp2;refine wp_region_any (by kernel_rfl) ?_;change wpAny _ _ _ _ _ _ _ (Λ _);refine cW 0 ?_;refine cW 1 ?_;refine cW 3 ?_;refine cW 4 ?_;refine cW 6 ?_;refine cW 7 ?_;refine wpAny_ready (rs:=[2,10]) (by kernel_rfl) (by simp) ?_;refine π rfl (λaqy hK=>?_) (π rfl (λaqy hK=>?_) ψ)
 ·go_simp;go_wp2_with (go_at_call 73;refine(C1.out _).mono ?_;rintro e I ⟨rfl,rfl⟩)
  try(refine hK _ _ ?_;clear hK aqy)
  refine wpAny_ready (rs:=[5,10]) (by kernel_rfl) (by simp) ?_;refine π rfl (λaqy hK=>?_) (π rfl (λaqy hK=>?_) ψ)
  ·go_simp;go_wp2_with (go_at_call 73;refine(C2.out _).mono ?_;rintro e I ⟨rfl,rfl⟩);exact⟨rfl,rfl,((κ _ _).alloc (ι _) _).drew⟩
  go_simp;refine hK _ _ ?_;clear hK aqy;refine kX 5 λaqy hK=>?_;go_simp;go_wp2_with (go_at_call 73;refine(C2.out _).mono ?_;rintro e I ⟨rfl,rfl⟩);exact⟨rfl,rfl,(((κ _ _).alloc (ι _) _).alloc (by simp) _).drew⟩
 go_simp;refine hK _ _ ?_;clear hK aqy;refine kX 2 λaqy hK=>?_;go_simp;go_wp2_with (go_at_call 73;refine(C1.out _).mono ?_;rintro e I ⟨rfl,rfl⟩)
 try(refine hK _ _ ?_;clear hK aqy)
 refine kX 5 λaqy hK=>?_;go_simp;go_wp2_with (go_at_call 73;refine(C2.out _).mono ?_;rintro e I ⟨rfl,rfl⟩);exact⟨rfl,rfl,(((κ _ _).alloc (ι _) _).alloc (by simp) _).drew⟩
theorem Ko (t:ByteArray)(w:μ)(h8:t.size=8)(d1:dW (t.extract 0 4)=true)(d2:dW (t.extract 4 6)=true)(d3:dW (t.extract 6 t.size)=false):
 ν prog 47 #[η t] w λE I=>E=ε (bx 1)/\Below w.heap.size w I:=by
 have z1:(4:Int)<=t.size:=by omega
 have z2:(6:Int)<=t.size:=by omega
 have z3:(8:Int)<=t.size:=by omega
 have z4:(t.size:Int)<=8:=by omega
 have s1:(t.extract 0 4).size<=7:=by simp[ξ];omega
 have c1:=λW=>eJ (t.extract 0 4) 1 W s1 d1;have C1:=H c1;have s2:(t.extract 4 6).size<=7:=by simp[ξ];omega
 have c2:=λW=>eJ (t.extract 4 6) 1 W s2 d2;have C2:=H c2;have s3:(t.extract 6 t.size).size<=7:=by simp[ξ];omega
 have c3:=λW=>jJ (t.extract 6 t.size) 1 W s3 d3;have C3:=H c3;have H8:=H h8;clear h8 c1 d1 s1 c2 d2 s2 c3 d3 s3;go_enter func47,ntmps47;go_wp2;refine wp_region_any (by kernel_rfl) ?_;change wpAny _ _ _ _ _ _ _ (Λ _);refine cW 0 ?_;refine cW 1 ?_;refine cW 3 ?_;refine cW 4 ?_;refine cW 6 ?_;refine cW 7 ?_;refine wpAny_ready (rs:=[2,10]) (by kernel_rfl) (by simp) ?_;refine π rfl (λaqy hK=>?_) (π rfl (λaqy hK=>?_) ψ)
 ·go_simp;go_wp2_with (go_at_call 73;refine(C1.out _).mono ?_;rintro e I ⟨rfl,rfl⟩)
  try(refine hK _ _ ?_;clear hK aqy)
  refine wpAny_ready (rs:=[5,10]) (by kernel_rfl) (by simp) ?_;refine π rfl (λaqy hK=>?_) (π rfl (λaqy hK=>?_) ψ)
  ·go_simp;go_wp2_with (go_at_call 73;refine(C2.out _).mono ?_;rintro e I ⟨rfl,rfl⟩)
   try(refine hK _ _ ?_;clear hK aqy)
   refine wpAny_ready (rs:=[8,10]) (by kernel_rfl) (by simp) ?_;refine π rfl (λaqy hK=>?_) (π rfl (λaqy hK=>?_) ψ)
   ·go_simp;go_wp2_with (go_at_call 73;refine(C3.out _).mono ?_;rintro e I ⟨rfl,rfl⟩);exact⟨rfl,rfl,((κ _ _).alloc (ι _) _).drew⟩
   go_simp;refine hK _ _ ?_;clear hK aqy;refine kX 8 λaqy hK=>?_;go_simp;go_wp2_with (go_at_call 73;refine(C3.out _).mono ?_;rintro e I ⟨rfl,rfl⟩);exact⟨rfl,rfl,(((κ _ _).alloc (ι _) _).alloc (by simp) _).drew⟩
  go_simp;refine hK _ _ ?_;clear hK aqy;refine kX 5 λaqy hK=>?_;go_simp;go_wp2_with (go_at_call 73;refine(C2.out _).mono ?_;rintro e I ⟨rfl,rfl⟩)
  try(refine hK _ _ ?_;clear hK aqy)
  refine kX 8 λaqy hK=>?_;go_simp;go_wp2_with (go_at_call 73;refine(C3.out _).mono ?_;rintro e I ⟨rfl,rfl⟩);exact⟨rfl,rfl,(((κ _ _).alloc (ι _) _).alloc (by simp) _).drew⟩
 go_simp;refine hK _ _ ?_;clear hK aqy;refine kX 2 λaqy hK=>?_;go_simp;go_wp2_with (go_at_call 73;refine(C1.out _).mono ?_;rintro e I ⟨rfl,rfl⟩)
 try(refine hK _ _ ?_;clear hK aqy)
 refine kX 5 λaqy hK=>?_;go_simp;go_wp2_with (go_at_call 73;refine(C2.out _).mono ?_;rintro e I ⟨rfl,rfl⟩)
 try(refine hK _ _ ?_;clear hK aqy)
 refine kX 8 λaqy hK=>?_;go_simp;go_wp2_with (go_at_call 73;refine(C3.out _).mono ?_;rintro e I ⟨rfl,rfl⟩);exact⟨rfl,rfl,(((κ _ _).alloc (ι _) _).alloc (by simp) _).drew⟩
theorem Ns (t:ByteArray)(w:μ)(h8:t.size=8):
 ν prog 47 #[η t] w λE I=>E=zn (bU (cut t 0 4)) (bU (cut t 4 2)) (bU (cut t 6 2))/\Below w.heap.size w I:=by
 have a1:dW (t.extract 0 4)=(cut t 0 4).all fN:=xx t 0 4;have a2:dW (t.extract 4 6)=(cut t 4 2).all fN:=xx t 4 6;have a3:dW (t.extract 6 t.size)=(cut t 6 2).all fN:=by rw[xx,h8]
 have no:∀{y m d:Int},(y=-1\/m=-1\/d=-1)->zn y m d=ε (bx 1):=by
  intro y m d h;refine wA ?_;rintro⟨q1,q2,q3⟩;obtain⟨q4,q5,q6,q7⟩:=(sW y m d).1 q3;omega
 cases d1:dW (t.extract 0 4)
 ·rw[no (.inl (wz (by rw[<-a1];exact d1)))];exact Km t w h8 d1
 cases d2:dW (t.extract 4 6)
 ·rw[no (.inr (.inl (wz (by rw[<-a2];exact d2))))];exact Kn t w h8 d1 d2
 cases d3:dW (t.extract 6 t.size)
 ·rw[no (.inr (.inr (wz (by rw[<-a3];exact d3))))];exact Ko t w h8 d1 d2 d3
 have b1:=qg (l:=cut t 0 4) (by rw[<-a1];exact d1);have b2:=qg (l:=cut t 4 2) (by rw[<-a2];exact d2);have b3:=qg (l:=cut t 6 2) (by rw[<-a3];exact d3);have r1:=qd (cut t 0 4) 4 (by rw[sV t 0 4 (by omega)];omega) (by rw[<-a1];exact d1);have r2:=qd (cut t 4 2) 2 (by rw[sV t 4 2 (by omega)];omega) (by rw[<-a2];exact d2);have r3:=qd (cut t 6 2) 2 (by rw[sV t 6 2 (by omega)];omega) (by rw[<-a3];exact d3);rw[b1,b2,b3];exact FZ t w _ _ _ h8 d1 d2 d3 (by rw[gR]) (by rw[gR]) (by rw[gR,h8]) r1.1 (by omega) r2.1 (by omega) r3.1 (by omega)
def wB (n last:Int):Ι:=if 0<=n/\n<=last then δ (V Z n)else ε (bx 1)
theorem sX {n last:Int}(h:0<=n/\n<=last):wB n last=δ (V Z n):=by unfold wB;rw[if_pos h]
theorem ru {n last:Int}(h:¬(0<=n/\n<=last)):wB n last=ε (bx 1):=by unfold wB;rw[if_neg h]
theorem Jr (t:ByteArray)(last:Int)(w:μ)(A:t.size=2):
 ν prog 49 #[η t,V Z last] w λE I=>E=wB (bU t.data.toList) last/\w=I:=by
 cases hd:dW t
 case false=>
  rw[wz hd,ru (by omega)];have c:=jJ t 1 w (by omega) hd;have C:=H c;clear c hd;go_enter func49,ntmps49;go_wp2_with (go_at_call 73;refine(C.out).mono ?_;rintro e I ⟨rfl,rfl⟩);exact⟨rfl,rfl,rfl⟩
 case true=>
  have K:t.data.toList.length=2:=by rw[Ε];exact A
  have U:=qd t.data.toList 2 (by omega) hd;rw[qg hd];have c:=eJ t 1 w (by omega) hd;generalize jd t.data.toList=n at *
  have C:=H c;clear c hd K;by_cases hn:n<=last
  case pos=>
   rw[sX ⟨U.1,hn⟩];go_enter func49,ntmps49;go_wp2_with (first
    |(go_at_call 73;refine(C.out).mono ?_;rintro e I ⟨rfl,rfl⟩)
    |(go_at_call_of 42 (ο true);refine dh ?_))
   go_ret;exact⟨rfl,rfl⟩
  case neg=>
   rw[ru (by omega)];have Y1:decide (n<=last)=false:=by simpa using hn
   go_enter func49,ntmps49;go_wp2_with (first
    |(go_at_call 73;refine(C.out).mono ?_;rintro e I ⟨rfl,rfl⟩)
    |(go_at_call_of 42 (ο false);refine eI ?_))
   exact⟨rfl,rfl,rfl⟩
theorem gI {x:Int}(h0:-9223372036854775808<=x)(G:x<=9223372036854775807):IntKind.i64.wrap x=x:=by
 rw[IntKind.wrap_i64];omega
theorem aaS (y m d:Int)(h0:1<=y)(G:y<=10000)(A:0<=m)(M:m<=100)(h4:0<=d)(h5:d<=100):-1000000000<=ag.num y m d/\ag.num y m d<=1000000000:=by
 unfold ag.num;by_cases hm:m-3<0
 ·have t1:=J0 (y-1) (by omega) (by omega);have t2:=uV (m-3+12) (by omega) (by omega);rw[if_pos hm];omega
 have t1:=J0 y (by omega) (by omega);have t2:=uV (m-3) (by omega) (by omega);rw[if_neg hm];omega
theorem mg (y m d:Int)(w:μ)(h0:1<=y)(G:y<=10000)(A:0<=m)(M:m<=100)(h4:0<=d)(h5:d<=100):
 ν prog 48 #[.agg #[V Z y,V Z m,V Z d]] w λe I=>e=δ (V Z (ag.num y m d*86400))/\Below w.heap.size w I:=by
 have K:=aaS y m d h0 G A M h4 h5;go_enter func48,ntmps48;go_wp2_with (go_at_call 75;refine(sq _ _ _ _ (by omega) (by omega) (by omega) (by omega) (by omega) (by omega)).mono ?_;rintro e w1 ⟨rfl,U⟩);go_ret;exact⟨rfl,((κ _ _).alloc (ι _) _).trans (U.mono (by simp))⟩
theorem DN (n:Int)(w:μ)(h0:0<=n)(G:n<=7258118400):
 ν prog 51 #[V Z n] w λe I=>e=δ (cV (ag.au (n/86400)) (ag.ofM (n/86400)) (ag.aA (n/86400)))/\Below w.heap.size w I:=by
 have hn:∀o,(w.alloc (θ #[V Z 0,V Z 0,V Z 0] 88)).frozen? ⟨w.heap.size,o,none⟩=false:=λo=>by simp[go_sem]
 go_enter func51,ntmps51;go_wp2_with (go_at_call 76;refine(xw _ _ (by omega) (by omega)).mono ?_;rintro e w2 ⟨rfl,aN⟩;unfold cV;have c0:w2.cell? ⟨w.heap.size,0,none⟩=some (V Z 0):=(by rw[aN.cell (p:=⟨w.heap.size,0,none⟩) (by simp)];simp[go_sem]);have c1:w2.cell? ⟨w.heap.size,1,none⟩=some (V Z 0):=(by rw[aN.cell (p:=⟨w.heap.size,1,none⟩) (by simp)];simp[go_sem]);have c2:w2.cell? ⟨w.heap.size,2,none⟩=some (V Z 0):=(by rw[aN.cell (p:=⟨w.heap.size,2,none⟩) (by simp)];simp[go_sem]);have f0:w2.frozen? ⟨w.heap.size,0,none⟩=false:=((qN aN).2 w.heap.size 0 (by simp)).trans (hn 0);have f1:w2.frozen? ⟨w.heap.size,1,none⟩=false:=((qN aN).2 w.heap.size 1 (by simp)).trans (hn 1);have f2:w2.frozen? ⟨w.heap.size,2,none⟩=false:=((qN aN).2 w.heap.size 2 (by simp)).trans (hn 2));have al:Below w.heap.size w w2:=((κ _ _).alloc (ι _) _).trans (aN.mono (by simp));exact bodyPost_ret (v:=cV (ag.au (n/86400)) (ag.ofM (n/86400)) (ag.aA (n/86400))) (by simp[results,results51,go_sem,c0,c1,c2,cV]) rfl ⟨rfl,((al.setCell (ι _) _).setCell (ι _) _).setCell (ι _) _⟩
def Wd (s:ByteArray)(a b:Nat)(t:Int)(aqw:Ι)(aqy:Int->Prop):Prop:=
 ((∀W,ν prog 49 #[η (s.extract a b),V Z t] W λE I=>E=ε (bx 1)/\Below W.heap.size W I)/\aqw=ε (bx 1))\/
 ∃h:Int,0<=h/\h<=59/\(∀W,ν prog 49 #[η (s.extract a b),V Z t] W λE I=>E=δ (V Z h)/\Below W.heap.size W I)/\aqy h
theorem nB (s:ByteArray)(w:μ)(aqw:Ι)(hz:s.size=16)(h8:sH s 8=84)(yI:sH s 15=90)
 (aqs:((∀W,ν prog 47 #[η (s.extract 0 8)] W λE I=>E=ε (bx 1)/\Below W.heap.size W I)/\aqw=ε (bx 1))\/
  ∃y m d:Int,1970<=y/\y<=2199/\ag.Valid y m d/\(∀W,ν prog 47 #[η (s.extract 0 8)] W λE I=>E=δ (.agg #[V Z y,V Z m,V Z d])/\Below W.heap.size W I)/\
   Wd s 9 11 23 aqw λh=>Wd s 11 13 59 aqw λi=>Wd s 13 15 59 aqw λc=>aqw=δ (V Z (ag.num y m d*86400+h*3600+i*60+c))):
 ν prog 27 #[η s] w λE I=>E=aqw/\Below w.heap.size w I:=by
 have z0:((s.size:Int)==16)=true:=by simp[hz]
 have z1:(15:Int)<s.size:=by omega
 have Y2:15<s.size:=by omega
 have z8:(8:Int)<=s.size:=by omega
 have z11:(11:Int)<=s.size:=by omega
 have z13:(13:Int)<=s.size:=by omega
 have z16:(15:Int)<=s.size:=by omega
 clear hz;have N7:(((s[8]'(by omega)).toNat:Int)==84)=true:=by rw[tu s 8 (by omega),h8];rfl
 have ajY:(((s[15]'(by omega)).toNat:Int)==90)=true:=by rw[tu s 15 (by omega),yI];rfl
 have HH:=H aqs;clear h8 yI aqs;go_enter func27,ntmps27;go_wp2_with (first
  |(go_at_call_of 42 (ο true);refine dh ?_))
 refine wp_region_any (by kernel_rfl) ?_;change wpAny _ _ _ _ _ _ _ (Λ _);refine cW 0 ?_;refine cW 1 ?_;refine cW 4 ?_;refine cW 5 ?_;refine cW 9 ?_;refine cW 10 ?_;refine cW 14 ?_;refine cW 15 ?_;refine kX 2 λaqy hK=>?_;rcases HH.out with⟨cc,rfl⟩|⟨y,m,d,y0,y1,vd,cc,aqs⟩
 ·have C0:=H cc;clear cc HH;go_simp;go_wp2_with (go_at_call 47;refine(C0.out _).mono ?_;rintro e u0 ⟨rfl,bj⟩);exact⟨rfl,rfl,(κ _ _).drew.trans bj⟩
 have C0:=H cc;have nb:=Sj y0 y1 vd;obtain⟨v1,v2,v3,v4⟩:=vd;have md:=ag.sU y m;have H1:=H aqs;clear cc HH aqs;go_simp;go_wp2_with (go_at_call 47;refine(C0.out _).mono ?_;rintro e u0 ⟨rfl,bj⟩)
 try(refine hK _ _ ?_;clear hK aqy)
 refine kX 3 λaqy hK=>?_;go_simp;go_wp2_with (go_at_call 48;refine(mg _ _ _ _ (by omega) (by omega) (by omega) (by omega) (by omega) (by omega)).mono ?_;rintro e un ⟨rfl,zo⟩)
 try(refine hK _ _ ?_;clear hK aqy)
 have bn:Below w.heap.size w un:=((κ _ _).drew.trans bj).trans (zo.mono bj.size);clear bj zo C0;refine kX 6 λaqy hK=>?_;rcases H1.out with⟨cc,rfl⟩|⟨h,h0,G,cc,aqs⟩
 ·have C1:=H cc;clear cc H1;go_simp;go_wp2_with (go_at_call 49;refine(C1.out _).mono ?_;rintro e u1 ⟨rfl,ay⟩);exact⟨rfl,rfl,bn.trans (ay.mono bn.size)⟩
 have C1:=H cc;have H2:=H aqs;clear cc aqs H1;go_simp;go_wp2_with (go_at_call 49;refine(C1.out _).mono ?_;rintro e u1 ⟨rfl,ay⟩)
 try(refine hK _ _ ?_;clear hK aqy)
 have b1:Below w.heap.size w u1:=bn.trans (ay.mono bn.size);clear bn ay C1;have e1m:IntKind.i64.wrap (h*3600)=h*3600:=gI (by omega) (by omega);refine cW 7 ?_;have e1a:IntKind.i64.wrap (ag.num y m d*86400+h*3600)=ag.num y m d*86400+h*3600:=gI (by omega) (by omega);refine cW 8 ?_;refine kX 11 λaqy hK=>?_;rcases H2.out with⟨cc,rfl⟩|⟨i,i0,i1,cc,aqs⟩
 ·have C2:=H cc;clear cc H2;go_simp;go_wp2_with (go_at_call 49;refine(C2.out _).mono ?_;rintro e u2 ⟨rfl,aN⟩);exact⟨rfl,rfl,b1.trans (aN.mono b1.size)⟩
 have C2:=H cc;have H3:=H aqs;clear cc aqs H2;go_simp;go_wp2_with (go_at_call 49;refine(C2.out _).mono ?_;rintro e u2 ⟨rfl,aN⟩)
 try(refine hK _ _ ?_;clear hK aqy)
 have b2:Below w.heap.size w u2:=b1.trans (aN.mono b1.size);clear b1 aN C2;have e2m:IntKind.i64.wrap (i*60)=i*60:=gI (by omega) (by omega);refine cW 12 ?_;have e2a:IntKind.i64.wrap (ag.num y m d*86400+h*3600+i*60)=ag.num y m d*86400+h*3600+i*60:=gI (by omega) (by omega);refine cW 13 ?_;refine kX 16 λaqy hK=>?_;rcases H3.out with⟨cc,rfl⟩|⟨c,c0,c1,cc,rfl⟩
 ·have C3:=H cc;clear cc H3;go_simp;go_wp2_with (go_at_call 49;refine(C3.out _).mono ?_;rintro e u3 ⟨rfl,aP⟩);exact⟨rfl,rfl,b2.trans (aP.mono b2.size)⟩
 have C3:=H cc;clear cc H3;go_simp;go_wp2_with (go_at_call 49;refine(C3.out _).mono ?_;rintro e u3 ⟨rfl,aP⟩)
 try(refine hK _ _ ?_;clear hK aqy)
 have b3:Below w.heap.size w u3:=b2.trans (aP.mono b2.size);have e3a:IntKind.i64.wrap (ag.num y m d*86400+h*3600+i*60+c)=ag.num y m d*86400+h*3600+i*60+c:=gI (by omega) (by omega);refine cW 17 ?_;refine cW 18 ?_;refine wpAny_done (by kernel_rfl) ?_ _;go_wp2;go_ret;exact⟨rfl,b3⟩
def sY (s:ByteArray):Ι:=if kV s=true then δ (V Z (kj s))else ε (bx 1)
theorem uW {s:ByteArray}(h:rq s):sY s=δ (V Z (kj s)):=by unfold sY;rw[if_pos (gW.2 h)]
theorem jV {s:ByteArray}(h:¬rq s):sY s=ε (bx 1):=by unfold sY;rw[if_neg (λe=>h (gW.1 e))]
theorem F0 (s:ByteArray)(a b c d:Nat)(h:c+d<=b-a):cut (s.extract a b) c d=cut s (a+c) d:=by
 unfold cut;have:(s.extract a b).data.toList=cut s a (b-a):=gR s a b;rw[this];unfold cut;rw[List.drop_take,List.take_take,List.drop_drop,Nat.min_eq_left (by omega)]
theorem zp (s:ByteArray)(w:μ):
 ν prog 27 #[η s] w λE I=>E=sY s/\Below w.heap.size w I:=by
 by_cases hz:s.size=16
 case neg=>
  rw[jV (λh=>hz h.1)];have Ho:((s.size:Int)==16)=false:=by rw[beq_eq_false_iff_ne];omega
  clear hz;go_enter func27,ntmps27;go_wp2_with (go_at_call_of 42 (ο false);refine eI ?_);exact⟨rfl,rfl,κ _ _⟩
 have z0:((s.size:Int)==16)=true:=by simp[hz]
 have Y2:15<s.size:=by omega
 have e8:=tu s 8 (by omega);have DO:=tu s 15 (by omega);by_cases h8:sH s 8=84
 case neg=>
  rw[jV (λh=>h8 h.2.1)];have N7:(((s[8]'(by omega)).toNat:Int)==84)=false:=by rw[beq_eq_false_iff_ne,e8];exact h8
  clear h8 e8 DO;go_enter func27,ntmps27;go_wp2_with (first
   |(go_at_call_of 42 (ο true);refine dh ?_)
   |(go_at_call_of 42 (ο false);refine eI ?_))
  exact⟨rfl,rfl,κ _ _⟩
 by_cases yI:sH s 15=90
 case neg=>
  rw[jV (λh=>yI h.2.2.1)];have N7:(((s[8]'(by omega)).toNat:Int)==84)=true:=by rw[e8,h8];rfl
  have ajY:(((s[15]'(by omega)).toNat:Int)==90)=false:=by rw[beq_eq_false_iff_ne,DO];exact yI
  clear h8 e8 DO yI;go_enter func27,ntmps27;go_wp2_with (first
   |(go_at_call_of 42 (ο true);refine dh ?_)
   |(go_at_call_of 42 (ο false);refine eI ?_))
  exact⟨rfl,rfl,κ _ _⟩
 clear e8 DO z0;have k0:∀W,ν prog 47 #[η (s.extract 0 8)] W λE I=>E=zn (bU (cut s 0 4)) (bU (cut s 4 2)) (bU (cut s 6 2))/\Below W.heap.size W I:=λW=>by
  have:=Ns (s.extract 0 8) W (by simp[ξ];omega);rw[F0 s 0 8 0 4 (by omega),F0 s 0 8 4 2 (by omega),F0 s 0 8 6 2 (by omega)]at this;exact this
 have kc:∀(a b:Nat) (last:Int) (W:μ),b-a=2->b<=s.size->ν prog 49 #[η (s.extract a b),V Z last] W λE I=>E=wB (bU (cut s a 2)) last/\Below W.heap.size W I:=λa b last W Y3 U=>by
  have:=Jr (s.extract a b) last W (by simp[ξ];omega);rw[gR,Y3]at this;exact this.mono λE I ⟨q1,q2⟩=>⟨q1,by rw[<-q2];exact κ _ _⟩
 have k1:=λW=>kc 9 11 23 W rfl (by omega);have k2:=λW=>kc 11 13 59 W rfl (by omega);have k3:=λW=>kc 13 15 59 W rfl (by omega);by_cases hd:1970<=bU (cut s 0 4)/\bU (cut s 0 4)<=2199/\oX (bU (cut s 0 4)) (bU (cut s 4 2)) (bU (cut s 6 2))=true
 case neg=>
  rw[jV (λh=>hd ⟨h.2.2.2.1,h.2.2.2.2.1,(sW _ _ _).2 h.2.2.2.2.2.1⟩)];rw[wA hd]at k0;exact nB s w _ hz h8 yI (.inl ⟨k0,rfl⟩)
 rw[Kl hd]at k0;have hv:=(sW _ _ _).1 hd.2.2;by_cases hh:0<=bU (cut s 9 2)/\bU (cut s 9 2)<=23
 case neg=>
  rw[jV (λh=>hh ⟨h.2.2.2.2.2.2.1,h.2.2.2.2.2.2.2.1⟩)];rw[ru hh]at k1;exact nB s w _ hz h8 yI (.inr ⟨_,_,_,hd.1,hd.2.1,hv,k0,.inl ⟨k1,rfl⟩⟩)
 rw[sX hh]at k1;by_cases hi:0<=bU (cut s 11 2)/\bU (cut s 11 2)<=59
 case neg=>
  rw[jV (λh=>hi ⟨h.2.2.2.2.2.2.2.2.1,h.2.2.2.2.2.2.2.2.2.1⟩)];rw[ru hi]at k2;exact nB s w _ hz h8 yI (.inr ⟨_,_,_,hd.1,hd.2.1,hv,k0,.inr ⟨_,hh.1,by omega,k1,.inl ⟨k2,rfl⟩⟩⟩)
 rw[sX hi]at k2;by_cases hc:0<=bU (cut s 13 2)/\bU (cut s 13 2)<=59
 case neg=>
  rw[jV (λh=>hc ⟨h.2.2.2.2.2.2.2.2.2.2.1,h.2.2.2.2.2.2.2.2.2.2.2⟩)];rw[ru hc]at k3;exact nB s w _ hz h8 yI (.inr ⟨_,_,_,hd.1,hd.2.1,hv,k0,.inr ⟨_,hh.1,by omega,k1,.inr ⟨_,hi.1,hi.2,k2,.inl ⟨k3,rfl⟩⟩⟩⟩)
 rw[sX hc]at k3;rw[uW ⟨hz,h8,yI,hd.1,hd.2.1,hv,hh.1,hh.2,hi.1,hi.2,hc.1,hc.2⟩];exact nB s w _ hz h8 yI (.inr ⟨_,_,_,hd.1,hd.2.1,hv,k0,.inr ⟨_,hh.1,by omega,k1,.inr ⟨_,hi.1,hi.2,k2,.inr ⟨_,hc.1,hc.2,k3,rfl⟩⟩⟩⟩)
theorem mh {P:Ψ}{Q:Exit->Act->List Frame->μ->Prop}{a:Act}{cs:List Frame}{w:μ}{x y:Code}
 (h:∀aqy:Act->List Frame->μ->Prop,(∀a cs w,y.wpS P Q a cs w->aqy a cs w)->x.wpS P (Ζ aqy Q) a cs w):(Code.seq x y).wpS P Q a cs w:=
 wpS_seq (h _ (λ_ _ _ h=>h))
theorem kN (p:Η)(v:Value):#[Value.pointer (some p)]++((Array.replicate 16 undef).setIfInBounds 3 v).setIfInBounds 0 v=#[ζ (some p),v,undef,undef,v,undef,undef,undef,undef,undef,undef,undef,undef,undef,undef,undef,undef]:=rfl
theorem sZ (e:Int)(w:μ):(Instr.typeAssert (.iface 85 (.agg #[V Z e])) 20 85 true).run prog w=.ok (.tuple #[.agg #[V Z e],.bool true]) w:=by
 kernel_rfl
theorem Jt (p:Η)(w:μ):
 CallsD prog 46 #[ζ (some p)] .returning w λe u' I=>e=δ (.tuple #[])/\u'=.returning/\I=w:=by
 have hf:=kN p .nilIface;refine callsD_of_wpS func46 rfl λc₀ cs hu=>?_;refine mh λaqy hK=>?_;refine wpS_region ?_;simp[wpOpsS,go_sem,recoverD,hu,ntmps46,Ζ];rw[hf];refine hK _ _ _ ?_;clear hK aqy hf;refine wpS_of_wp ?_;go_wp2;cases c₀;simp_all[bodyPostS,results,results46]
theorem zq (p:Η)(e:Int)(x:Value)(oY:List Χ)(w:μ)(hc:w.cell? p=some x)(hz:w.frozen? p=false)(J:p.block<w.heap.size):
 CallsD prog 46 #[ζ (some p)] (.panicking ({v:=.iface 85 (.agg #[V Z e]),recovered:=false}::oY)) w λE u' I=>
  E=δ (.tuple #[])/\u'=.panicking ({v:=.iface 85 (.agg #[V Z e]),recovered:=true}::oY)/\I=(w.alloc (θ #[V Z e] 85)).setCell p (V Z e):=by
 have hta:=sZ;have gX:∀o,(w.alloc o).frozen? p=false:=λo=>by rw[Ξ w o p (by omega)];exact hz
 have hf:=kN p (.iface 85 (.agg #[V Z e]));refine callsD_of_wpS func46 rfl λc₀ cs hu=>?_;refine mh λaqy hK=>?_;refine wpS_region ?_;simp[wpOpsS,go_sem,recoverD,hu,ntmps46,Ζ];rw[hf];refine hK _ _ _ ?_;clear hK aqy hf;refine wpS_of_wp ?_;go_wp2;exact⟨rfl,_,rfl,.tuple #[],by simp[results,results46],rfl,rfl,rfl⟩
theorem tI (p:Η)(w:μ):
 CallsD prog 50 #[ζ (some p)] .returning w λe u' I=>e=δ (.tuple #[])/\u'=.returning/\I=w:=by
 have hf:=kN p .nilIface;refine callsD_of_wpS func50 rfl λc₀ cs hu=>?_;refine mh λaqy hK=>?_;refine wpS_region ?_;simp[wpOpsS,go_sem,recoverD,hu,ntmps50,Ζ];rw[hf];refine hK _ _ _ ?_;clear hK aqy hf;refine wpS_of_wp ?_;go_wp2;cases c₀;simp_all[bodyPostS,results,results50]
theorem ou (p:Η)(e:Int)(x:Value)(oY:List Χ)(w:μ)(hc:w.cell? p=some x)(hz:w.frozen? p=false)(J:p.block<w.heap.size):
 CallsD prog 50 #[ζ (some p)] (.panicking ({v:=.iface 85 (.agg #[V Z e]),recovered:=false}::oY)) w λE u' I=>
  E=δ (.tuple #[])/\u'=.panicking ({v:=.iface 85 (.agg #[V Z e]),recovered:=true}::oY)/\I=(w.alloc (θ #[V Z e] 85)).setCell p (V Z e):=by
 have hta:=sZ;have gX:∀o,(w.alloc o).frozen? p=false:=λo=>by rw[Ξ w o p (by omega)];exact hz
 have hf:=kN p (.iface 85 (.agg #[V Z e]));refine callsD_of_wpS func50 rfl λc₀ cs hu=>?_;refine mh λaqy hK=>?_;refine wpS_region ?_;simp[wpOpsS,go_sem,recoverD,hu,ntmps50,Ζ];rw[hf];refine hK _ _ _ ?_;clear hK aqy hf;refine wpS_of_wp ?_;go_wp2;exact⟨rfl,_,rfl,.tuple #[],by simp[results,results50],rfl,rfl,rfl⟩
theorem yJ (g:Nat)(eg:∀args w,(callFunc g args).run prog w=.ok (.enter g args) w)(p:Η)(n:Int)(w:μ)
 (hf:∀W,Below w.heap.size w W->ν prog g #[ζ (some p)] W λE I=>E=δ (V Z n)/\Below W.heap.size W I):
 ν prog 25 #[.func (.func g) #[] #[ζ (some p)]] w λE I=>E=δ (.tuple #[V Z n,V Z 0])/\Below w.heap.size w I:=by
 have sI:∀(fn:Fn) (first cap:Array Value) (w:μ),(ω fn first cap).run prog w=.ok (.func fn first cap) w:=λ_ _ _ _=>rfl;have HF:=H hf;clear hf;go_enter_defers func25,ntmps25;go_wp2_with fail;refine(HF.out _ ((κ _ _).alloc (ι _) _)).mono ?_;rintro e w1 ⟨rfl,ay⟩;obtain⟨hc,pP⟩:=qN ay;have hz:=ay.size;have h0:w1.cell? ⟨w.heap.size,0,none⟩=some (V Z 0):=by rw[hc _ _ (by simp)];simp[go_sem]
 have G:w1.frozen? ⟨w.heap.size,0,none⟩=false:=by rw[pP _ _ (by simp)];simp[go_sem]
 have aR:w.heap.size<w1.heap.size:=by simp at hz;omega
 have U:Below w.heap.size w w1:=((κ _ _).alloc (ι _) _).trans (ay.mono (by simp));clear hc pP ay hz;go_wp2;refine leaves_cons (f:=46) (args:=#[ζ (some ⟨w.heap.size,0,none⟩)]) (by simp) (by simp[go_sem]) ?_;refine(Jt _ _).mono ?_;rintro e u' az ⟨rfl,rfl,rfl⟩;refine⟨.tuple #[V Z n,V Z 0],?_,rfl,U.setCell (ι _) _⟩;simp[results,results25,go_sem,h0]
theorem zr (g:Nat)(eg:∀args w,(callFunc g args).run prog w=.ok (.enter g args) w)(p:Η)(x:Int)(w:μ)
 (hf:∀W,Below w.heap.size w W->ν prog g #[ζ (some p)] W λE I=>E=ε (bx x)/\Below W.heap.size W I):
 ν prog 25 #[.func (.func g) #[] #[ζ (some p)]] w λE I=>E=δ (.tuple #[V Z 0,V Z x])/\Below w.heap.size w I:=by
 have sI:∀(fn:Fn) (first cap:Array Value) (w:μ),(ω fn first cap).run prog w=.ok (.func fn first cap) w:=λ_ _ _ _=>rfl;have HF:=H hf;clear hf;go_enter_defers func25,ntmps25;go_wp2_with fail;refine(HF.out _ ((κ _ _).alloc (ι _) _)).mono ?_;rintro e w1 ⟨rfl,ay⟩;obtain⟨hc,pP⟩:=qN ay;have hz:=ay.size;have h0:w1.cell? ⟨w.heap.size,0,none⟩=some (V Z 0):=by rw[hc _ _ (by simp)];simp[go_sem]
 have G:w1.frozen? ⟨w.heap.size,0,none⟩=false:=by rw[pP _ _ (by simp)];simp[go_sem]
 have aR:w.heap.size<w1.heap.size:=by simp at hz;omega
 have U:Below w.heap.size w w1:=((κ _ _).alloc (ι _) _).trans (ay.mono (by simp));clear hc pP ay hz;refine leaves_cons (f:=46) (args:=#[ζ (some ⟨w.heap.size,0,none⟩)]) (by simp) (by simp[go_sem]) ?_;refine(zq ⟨w.heap.size,0,none⟩ x (V Z 0) [] _ h0 G aR).mono ?_;rintro e u' az ⟨rfl,rfl,rfl⟩;refine⟨.tuple #[V Z 0,V Z x],?_,rfl,(U.alloc (Nat.le_of_lt aR) _).setCell (ι _) _⟩;have A:((w1.alloc (θ #[V Z x] 85)).cell? ⟨w.heap.size,0,none⟩).isSome=true:=by
  rw[Ο _ _ _ aR,h0];rfl
 simp[results,results25,go_sem,A]
theorem Ju (g:Nat)(eg:∀args w,(callFunc g args).run prog w=.ok (.enter g args) w)(p:Η)(n:ByteArray)(w:μ)
 (hf:∀W,Below w.heap.size w W->ν prog g #[ζ (some p)] W λE I=>E=δ (η n)/\Below W.heap.size W I):
 ν prog 28 #[.func (.func g) #[] #[ζ (some p)]] w λE I=>E=δ (.tuple #[η n,V Z 0])/\Below w.heap.size w I:=by
 have sI:∀(fn:Fn) (first cap:Array Value) (w:μ),(ω fn first cap).run prog w=.ok (.func fn first cap) w:=λ_ _ _ _=>rfl;have HF:=H hf;clear hf;go_enter_defers func28,ntmps28;go_wp2_with fail;refine(HF.out _ ((κ _ _).alloc (ι _) _)).mono ?_;rintro e w1 ⟨rfl,ay⟩;obtain⟨hc,pP⟩:=qN ay;have hz:=ay.size;have h0:w1.cell? ⟨w.heap.size,0,none⟩=some (V Z 0):=by rw[hc _ _ (by simp)];simp[go_sem]
 have G:w1.frozen? ⟨w.heap.size,0,none⟩=false:=by rw[pP _ _ (by simp)];simp[go_sem]
 have aR:w.heap.size<w1.heap.size:=by simp at hz;omega
 have U:Below w.heap.size w w1:=((κ _ _).alloc (ι _) _).trans (ay.mono (by simp));clear hc pP ay hz;go_wp2;refine leaves_cons (f:=50) (args:=#[ζ (some ⟨w.heap.size,0,none⟩)]) (by simp) (by simp[go_sem]) ?_;refine(tI _ _).mono ?_;rintro e u' az ⟨rfl,rfl,rfl⟩;refine⟨.tuple #[η n,V Z 0],?_,rfl,U.setCell (ι _) _⟩;simp[results,results28,go_sem,h0]
theorem Kp (g:Nat)(eg:∀args w,(callFunc g args).run prog w=.ok (.enter g args) w)(p:Η)(x:Int)(w:μ)
 (hf:∀W,Below w.heap.size w W->ν prog g #[ζ (some p)] W λE I=>E=ε (bx x)/\Below W.heap.size W I):
 ν prog 28 #[.func (.func g) #[] #[ζ (some p)]] w λE I=>E=δ (.tuple #[η ⟨#[]⟩,V Z x])/\Below w.heap.size w I:=by
 have sI:∀(fn:Fn) (first cap:Array Value) (w:μ),(ω fn first cap).run prog w=.ok (.func fn first cap) w:=λ_ _ _ _=>rfl;have HF:=H hf;clear hf;go_enter_defers func28,ntmps28;go_wp2_with fail;refine(HF.out _ ((κ _ _).alloc (ι _) _)).mono ?_;rintro e w1 ⟨rfl,ay⟩;obtain⟨hc,pP⟩:=qN ay;have hz:=ay.size;have h0:w1.cell? ⟨w.heap.size,0,none⟩=some (V Z 0):=by rw[hc _ _ (by simp)];simp[go_sem]
 have G:w1.frozen? ⟨w.heap.size,0,none⟩=false:=by rw[pP _ _ (by simp)];simp[go_sem]
 have aR:w.heap.size<w1.heap.size:=by simp at hz;omega
 have U:Below w.heap.size w w1:=((κ _ _).alloc (ι _) _).trans (ay.mono (by simp));clear hc pP ay hz;refine leaves_cons (f:=50) (args:=#[ζ (some ⟨w.heap.size,0,none⟩)]) (by simp) (by simp[go_sem]) ?_;refine(ou ⟨w.heap.size,0,none⟩ x (V Z 0) [] _ h0 G aR).mono ?_;rintro e u' az ⟨rfl,rfl,rfl⟩;refine⟨.tuple #[η ⟨#[]⟩,V Z x],?_,rfl,(U.alloc (Nat.le_of_lt aR) _).setCell (ι _) _⟩;have A:((w1.alloc (θ #[V Z x] 85)).cell? ⟨w.heap.size,0,none⟩).isSome=true:=by
  rw[Ο _ _ _ aR,h0];rfl
 simp[results,results28,go_sem,A]
theorem DP (args:Array Value)(w:μ):(callFunc 26 args).run prog w=.ok (.enter 26 args) w:=by simp[go_sem]
theorem DQ (p:Η)(n:Int)(w:μ)
 (hf:∀W,Below w.heap.size w W->ν prog 26 #[ζ (some p)] W λE I=>E=δ (V Z n)/\Below W.heap.size W I):
 ν prog 25 #[.func (.func 26) #[] #[ζ (some p)]] w λE I=>E=δ (.tuple #[V Z n,V Z 0])/\Below w.heap.size w I:=yJ _ DP p n w hf
theorem F1 (p:Η)(x:Int)(w:μ)
 (hf:∀W,Below w.heap.size w W->ν prog 26 #[ζ (some p)] W λE I=>E=ε (bx x)/\Below W.heap.size W I):
 ν prog 25 #[.func (.func 26) #[] #[ζ (some p)]] w λE I=>E=δ (.tuple #[V Z 0,V Z x])/\Below w.heap.size w I:=zr _ DP p x w hf
theorem Bt (args:Array Value)(w:μ):(callFunc 198 args).run prog w=.ok (.enter 198 args) w:=by simp[go_sem]
theorem Cj (p:Η)(n:Int)(w:μ)
 (hf:∀W,Below w.heap.size w W->ν prog 198 #[ζ (some p)] W λE I=>E=δ (V Z n)/\Below W.heap.size W I):
 ν prog 25 #[.func (.func 198) #[] #[ζ (some p)]] w λE I=>E=δ (.tuple #[V Z n,V Z 0])/\Below w.heap.size w I:=yJ _ Bt p n w hf
theorem DR (p:Η)(x:Int)(w:μ)
 (hf:∀W,Below w.heap.size w W->ν prog 198 #[ζ (some p)] W λE I=>E=ε (bx x)/\Below W.heap.size W I):
 ν prog 25 #[.func (.func 198) #[] #[ζ (some p)]] w λE I=>E=δ (.tuple #[V Z 0,V Z x])/\Below w.heap.size w I:=zr _ Bt p x w hf
theorem DS (args:Array Value)(w:μ):(callFunc 29 args).run prog w=.ok (.enter 29 args) w:=by simp[go_sem]
theorem DT (p:Η)(n:ByteArray)(w:μ)
 (hf:∀W,Below w.heap.size w W->ν prog 29 #[ζ (some p)] W λE I=>E=δ (η n)/\Below W.heap.size W I):
 ν prog 28 #[.func (.func 29) #[] #[ζ (some p)]] w λE I=>E=δ (.tuple #[η n,V Z 0])/\Below w.heap.size w I:=Ju _ DS p n w hf
theorem F2 (p:Η)(x:Int)(w:μ)
 (hf:∀W,Below w.heap.size w W->ν prog 29 #[ζ (some p)] W λE I=>E=ε (bx x)/\Below W.heap.size W I):
 ν prog 28 #[.func (.func 29) #[] #[ζ (some p)]] w λE I=>E=δ (.tuple #[η ⟨#[]⟩,V Z x])/\Below w.heap.size w I:=Kp _ DS p x w hf
theorem DU (s:ByteArray)(p:Η)(W:μ)(hc:W.cell? p=some (η s)):
 ν prog 26 #[ζ (some p)] W λE I=>E=sY s/\Below W.heap.size W I:=by
 by_cases h:rq s
 ·have c:=λW=>zp s W;rw[uW h]at c⊢;have C:=H c;clear c h;go_enter func26,ntmps26;go_wp2_with (go_at_call 27;refine(C.out _).mono ?_;rintro e w1 ⟨rfl,U⟩);go_ret;exact⟨rfl,U⟩
 have c:=λW=>zp s W;rw[jV h]at c⊢;have C:=H c;clear c h;go_enter func26,ntmps26;go_wp2_with (go_at_call 27;refine(C.out _).mono ?_;rintro e w1 ⟨rfl,U⟩);exact⟨rfl,rfl,U⟩
theorem zt (s:ByteArray)(w:μ):
 ν prog 9 #[η s] w λE I=>E=δ (wy s)/\Below w.heap.size w I:=by
 have sI:∀(fn:Fn) (first cap:Array Value) (w:μ),(ω fn first cap).run prog w=.ok (.func fn first cap) w:=λ_ _ _ _=>rfl;have dE:∀W,Below (w.alloc (θ #[η s] 9)).heap.size (w.alloc (θ #[η s] 9)) W->W.cell? ⟨w.heap.size,0,none⟩=some (η s):=λW U=>by
  rw[U.cell (p:=⟨w.heap.size,0,none⟩) (by simp)];simp[go_sem]
 by_cases h:rq s
 ·rw[xv h];have c:=DQ ⟨w.heap.size,0,none⟩ (kj s) (w.alloc (θ #[η s] 9)) (λW U=>by
   have:=DU s ⟨w.heap.size,0,none⟩ W (dE W U);rw[uW h]at this;exact this)
  have C:=H c;clear c dE h;go_enter func9,ntmps9;go_wp2_with (go_at_call 25;refine(C.out).mono ?_;rintro e w1 ⟨rfl,U⟩);go_ret2;exact⟨rfl,((κ _ _).alloc (ι _) _).trans (U.mono (by simp))⟩
 rw[zk h];have c:=F1 ⟨w.heap.size,0,none⟩ 1 (w.alloc (θ #[η s] 9)) (λW U=>by
  have:=DU s ⟨w.heap.size,0,none⟩ W (dE W U);rw[jV h]at this;exact this)
 have C:=H c;clear c dE h;go_enter func9,ntmps9;go_wp2_with (go_at_call 25;refine(C.out).mono ?_;rintro e w1 ⟨rfl,U⟩);go_ret2;exact⟨rfl,((κ _ _).alloc (ι _) _).trans (U.mono (by simp))⟩
def iX (w:μ):Prop:=Lib.TabIs prog w "internal/strconv.uint64pow10" .u64 Lib.pow10Tab
theorem iX.on {w I:μ}(h:iX w)(U:Below w.heap.size w I):iX I:=Lib.tabBelow_of_tabIs h I U
theorem N8 (s:ByteArray)(w:μ):ν prog 78 #[η s,V Z 0] w λe I=>e=δ (η ⟨#[]⟩)/\w=I:=by
 go_enter func78,ntmps78;go_wp2;go_ret;exact⟨rfl,rfl⟩
theorem aaT (s:ByteArray)(w:μ):ν prog 78 #[η s,V Z 1] w λe I=>e=δ (η s)/\w=I:=by
 go_enter func78,ntmps78;go_wp2;go_ret;exact⟨rfl,rfl⟩
theorem xy {u:Nat}(h:¬u<10):τ u=τ (u/10)++[Θ (48+u%10)]:=by
 rw[τ,dif_neg h]
theorem Kq (u:Nat)(h:¬u<10)(A:u<100):τ u=pad 2 u:=by
 rw[xy h,Lib.decDigits_one (by omega)];simp only[pad,υ,Τ];congr 1;congr 1;omega
theorem We (u:Nat)(h:u<10):[48]++τ u=pad 2 u:=by
 rw[Lib.decDigits_one h];simp only[pad,υ,Τ];congr 1
 ·have:(48+(u:Int)/10%10).toNat=48:=by omega
  rw[this];rfl
 congr 1;congr 1;omega
theorem Kr (u:Nat)(h:1000<=u)(A:u<10000):τ u=pad 4 u:=by
 rw[xy (by omega),xy (u:=u/10) (by omega),xy (u:=u/10/10) (by omega),Lib.decDigits_one (by omega)];have a1:(48+(u:Int)/10/10/10%10).toNat=48+u/10/10/10:=by omega
 have a2:(48+(u:Int)/10/10%10).toNat=48+u/10/10%10:=by omega
 have a3:(48+(u:Int)/10%10).toNat=48+u/10%10:=by omega
 have a4:(48+(u:Int)%10).toNat=48+u%10:=by omega
 simp only[pad,υ,a1,a2,a3,a4]
theorem Wf (u:Nat)(w:μ)(h:u<=10000000)(ht:iX w):
 ν prog 77 #[V Z u] w λe I=>e=δ (η ⟨(τ u).toArray⟩)/\Below w.heap.size w I:=
 (Tryz.strconv_Itoa (u:Int) (by omega) (by omega) w ht).mono λe I ⟨G,k,os,A⟩=>by
  rw[Lib.itoa_nonneg]at G;refine⟨G,?_⟩;rw[A];refine⟨rfl,rfl,rfl,by simp[grow,World.drewN],λj hj=>?_⟩;simp[grow,World.drewN,Array.getElem?_append,hj]
theorem F3 (u width:Nat)(w:μ)(ht:iX w)(h:(width=2/\u<100)\/(width=4/\1000<=u/\u<10000)):
 ν prog 52 #[V Z u,V Z width] w λe I=>e=δ (η ⟨(pad width u).toArray⟩)/\Below w.heap.size w I:=by
 have c:=Wf u w (by omega) ht;have K:(τ u).length=Lib.nDigits u:=Lib.decDigits_length u;have C:=H c;clear c;rcases h with⟨rfl,A⟩|⟨rfl,h4,h5⟩
 ·by_cases G:u<10
  ·have S:(τ u).length=1:=by rw[Lib.decDigits_one G];rfl
   have E:=H (We u G);clear K;go_enter func52,ntmps52;go_wp2_with (first
    |(go_at_call 77;refine(C.out).mono ?_;rintro e w1 ⟨rfl,U⟩)
    |(go_at_call 78;refine(aaT _ _).mono ?_;rintro e I ⟨rfl,rfl⟩))
   go_ret;exact⟨mU ((oW [48] _).trans (by rw[E.out])),U⟩
  have S:(τ u).length=2:=by rw[Kq u G A,oV]
  have E:=H (Kq u G A);clear K;go_enter func52,ntmps52;go_wp2_with (first
   |(go_at_call 77;refine(C.out).mono ?_;rintro e w1 ⟨rfl,U⟩)
   |(go_at_call 78;refine(N8 _ _).mono ?_;rintro e I ⟨rfl,rfl⟩))
  go_ret;exact⟨mU ((oW [] _).trans (by rw[E.out,υ])),U⟩
 have S:(τ u).length=4:=by rw[Kr u h4 h5,oV]
 have E:=H (Kr u h4 h5);clear K;go_enter func52,ntmps52;go_wp2_with (first
  |(go_at_call 77;refine(C.out).mono ?_;rintro e w1 ⟨rfl,U⟩)
  |(go_at_call 78;refine(N8 _ _).mono ?_;rintro e I ⟨rfl,rfl⟩))
 go_ret;exact⟨mU ((oW [] _).trans (by rw[E.out,υ])),U⟩
theorem Qt (n:Int):(⟨(pad 4 (ag.au (n/86400))).toArray⟩:ByteArray)++⟨(pad 2 (ag.ofM (n/86400))).toArray⟩++⟨(pad 2 (ag.aA (n/86400))).toArray⟩++⟨#[84]⟩++
 ⟨(pad 2 (n%86400/3600)).toArray⟩++⟨(pad 2 (n%3600/60)).toArray⟩++⟨(pad 2 (n%60)).toArray⟩++⟨#[90]⟩=⟨(kq n).toArray⟩:=by
 rw[show n%3600/60=n%86400/60%60 from by omega];exact Sk n
theorem Jv (W:μ)(n width:Int)(D:Nat)(os:Array Obj)(ht:iX W)(h0:0<=n)(G:0<=width)(h:(width=2/\n<100)\/(width=4/\1000<=n/\n<10000)):
 ν prog 52 #[V Z n,V Z width] (grow (redrawn W D) os) λe az=>e=δ (η ⟨(pad width.toNat n).toArray⟩)/\∃p:Regrown,az=grow (redrawn W p.d) p.os:=by
 obtain⟨k,rfl⟩:=Γ G;obtain⟨u,rfl⟩:=Γ h0;exact Calls.regrown_of (F3 u k _ (ht.on (below_regrown W D os)) (by omega))
theorem Ks (n:Int)(w:μ)(h:cU n=false):
 ν prog 30 #[V Z n] w λe I=>e=ε (bx 1)/\Below w.heap.size w I:=by
 have S:ag.num 2200 1 1*86400=7258118400:=by rw[ag.AX];rfl
 have E1:=H S;clear S;by_cases h0:0<=n
 ·have G:¬n<7258118400:=by simp[cU,h0]at h;omega
  have wx:decide (n<7258118400)=false:=by simpa using G
  clear h;go_enter func30,ntmps30;go_wp2_with (first
   |(go_at_call 48;refine(mg _ _ _ _ (by omega) (by omega) (by omega) (by omega) (by omega) (by omega)).mono ?_;rintro e w1 ⟨rfl,U⟩;rw[E1.out])
   |(go_at_call_of 42 (ο false);refine eI ?_))
  exact⟨rfl,rfl,U⟩
 have h0':decide (0<=n)=false:=by simpa using h0
 clear h;go_enter func30,ntmps30;go_wp2_with (first
  |(go_at_call 48;refine(mg _ _ _ _ (by omega) (by omega) (by omega) (by omega) (by omega) (by omega)).mono ?_;rintro e w1 ⟨rfl,U⟩;rw[E1.out])
  |(go_at_call_of 42 (ο false);refine eI ?_))
 exact⟨rfl,rfl,U⟩
theorem Jw (n:Int)(w:μ)(ht:iX w)(h:cU n=true):
 ν prog 30 #[V Z n] w λe I=>e=δ (η ⟨(kq n).toArray⟩)/\Below w.heap.size w I:=by
 have E1:Hid (ag.num 2200 1 1*86400=7258118400):=H (by rw[ag.AX];rfl);have U:0<=n/\n<7258118400:=by simpa[cU]using h
 have hd:=acy (n:=n/86400) (by omega) (by omega);obtain⟨d1,d2,d3,d4,d5,d6⟩:=hd;have hm:=ag.sU (ag.au (n/86400)) (ag.ofM (n/86400));clear h;go_enter func30,ntmps30;go_wp2_with (first
  |(go_at_call 48;refine(mg _ _ _ _ (by omega) (by omega) (by omega) (by omega) (by omega) (by omega)).mono ?_;rintro e w1 ⟨rfl,ay⟩;rw[E1.out])
  |(go_at_call_of 42 (ο true);refine dh ?_)
  |(go_at_call 51;refine(DN _ _ (by omega) (by omega)).mono ?_;rintro e w2 ⟨rfl,aN⟩;unfold cV))
 have DV:Below w.heap.size w w2:=ay.trans (aN.mono ay.size);have al:Below w.heap.size w (w2.alloc (θ #[V Z (ag.au (n/86400)),V Z (ag.ofM (n/86400)),V Z (ag.aA (n/86400))] 88)):=DV.alloc DV.size _;have c0:(w2.alloc (θ #[V Z (ag.au (n/86400)),V Z (ag.ofM (n/86400)),V Z (ag.aA (n/86400))] 88)).cell? ⟨w2.heap.size,0,none⟩=some (V Z (ag.au (n/86400))):=by simp[go_sem]
 have c1:(w2.alloc (θ #[V Z (ag.au (n/86400)),V Z (ag.ofM (n/86400)),V Z (ag.aA (n/86400))] 88)).cell? ⟨w2.heap.size,1,none⟩=some (V Z (ag.ofM (n/86400))):=by simp[go_sem]
 have c2:(w2.alloc (θ #[V Z (ag.au (n/86400)),V Z (ag.ofM (n/86400)),V Z (ag.aA (n/86400))] 88)).cell? ⟨w2.heap.size,2,none⟩=some (V Z (ag.aA (n/86400))):=by simp[go_sem]
 generalize(w2.alloc (θ #[V Z (ag.au (n/86400)),V Z (ag.ofM (n/86400)),V Z (ag.aA (n/86400))] 88))=W at *
 have k0:=cell_regrown c0;have k1:=cell_regrown c1;have k2:=cell_regrown c2;have hT:=H (ht.on al);clear c0 c1 c2 ay aN DV ht;have K:=oV;refine wp_region_quiet_below (by kernel_rfl) (by kernel_rfl) ?_
 repeat(go_big_quiet_step (first|exact Jv W _ _ _ _ hT.out (by omega) (by omega) (by omega)))
 refine wpQuiet_nil ?_;intro _ dN;obtain⟨⟨dq,ju⟩,iE⟩:=dN;subst iE;go_wp2;go_ret;exact⟨mU (Qt n),al.trans ((below_regrown W dq ju).mono al.size)⟩
theorem Qu (n:Int)(p:Η)(W:μ)(ht:iX W)(hc:W.cell? p=some (V Z n))(h:cU n=true):
 ν prog 29 #[ζ (some p)] W λE I=>E=δ (η ⟨(kq n).toArray⟩)/\Below W.heap.size W I:=by
 have C:=H (Jw n W ht h);clear h ht;go_enter func29,ntmps29;go_wp2_with (go_at_call 30;refine(C.out).mono ?_;rintro e w1 ⟨rfl,U⟩);go_ret;exact⟨rfl,U⟩
theorem Sn (n:Int)(p:Η)(W:μ)(hc:W.cell? p=some (V Z n))(h:cU n=false):
 ν prog 29 #[ζ (some p)] W λE I=>E=ε (bx 1)/\Below W.heap.size W I:=by
 have C:=H (Ks n W h);clear h;go_enter func29,ntmps29;go_wp2_with (go_at_call 30;refine(C.out).mono ?_;rintro e w1 ⟨rfl,U⟩);exact⟨rfl,rfl,U⟩
theorem ry (n:Int)(w:μ)(ht:iX w):
 ν prog 10 #[V Z n] w λE I=>E=δ (kr n)/\Below w.heap.size w I:=by
 have sI:∀(fn:Fn) (first cap:Array Value) (w:μ),(ω fn first cap).run prog w=.ok (.func fn first cap) w:=λ_ _ _ _=>rfl;have dE:∀W,Below (w.alloc (θ #[V Z n] 3)).heap.size (w.alloc (θ #[V Z n] 3)) W->W.cell? ⟨w.heap.size,0,none⟩=some (V Z n):=λW U=>by
  rw[U.cell (p:=⟨w.heap.size,0,none⟩) (by simp)];simp[go_sem]
 have hT:∀W,Below (w.alloc (θ #[V Z n] 3)).heap.size (w.alloc (θ #[V Z n] 3)) W->iX W:=λW U=>
  ht.on (((κ _ _).alloc (ι _) _).trans (U.mono (by simp)))
 cases h:cU n
 ·have hv:kr n=.tuple #[η ⟨#[]⟩,V Z 1]:=by unfold kr;rw[h];rfl
  rw[hv];have C:=H (F2 ⟨w.heap.size,0,none⟩ 1 (w.alloc (θ #[V Z n] 3)) (λW U=>Sn n _ W (dE W U) h));clear dE hT ht hv h;go_enter func10,ntmps10;go_wp2_with (go_at_call 28;refine(C.out).mono ?_;rintro e w1 ⟨rfl,U⟩);go_ret2;exact⟨rfl,((κ _ _).alloc (ι _) _).trans (U.mono (by simp))⟩
 have hv:kr n=.tuple #[η ⟨(kq n).toArray⟩,V Z 0]:=by unfold kr;rw[h];rfl
 rw[hv];have C:=H (DT ⟨w.heap.size,0,none⟩ ⟨(kq n).toArray⟩ (w.alloc (θ #[V Z n] 3)) (λW U=>Qu n _ W (hT W U) (dE W U) h));clear dE hT ht hv h;go_enter func10,ntmps10;go_wp2_with (go_at_call 28;refine(C.out).mono ?_;rintro e w1 ⟨rfl,U⟩);go_ret2;exact⟨rfl,((κ _ _).alloc (ι _) _).trans (U.mono (by simp))⟩
def sp (c:UInt8):List UInt8->Option (List UInt8×List UInt8)
 |[]=>none
 |x::r=>if x=c then some ([],r)else(sp c r).map λq=>(x::q.1,q.2)
theorem mW {c:UInt8}:∀{l:List UInt8},c∉l->sp c l=none
 |[],_=>rfl
 |x::r,h=>by
  unfold sp;rw[if_neg (λe=>h (by rw[e];exact χ)),mW (λq=>h (φ _ q))];rfl
theorem qO {c:UInt8}:∀{a b:List UInt8},c∉a->sp c (a++c::b)=some (a,b)
 |[],b,_=>by simp[sp]
 |x::r,b,h=>by
  simp only[Φ];unfold sp;rw[if_neg (λe=>h (by rw[e];exact χ)),qO (λq=>h (φ _ q))];rfl
theorem kt {c:UInt8}:∀{l a b:List UInt8},sp c l=some (a,b)->l=a++c::b/\c∉a
 |[],_,_,h=>by cases h
 |x::r,a,b,h=>by
  unfold sp at h;by_cases e:x=c
  ·rw[if_pos e]at h;cases h;subst e;simp
  rw[if_neg e]at h;cases q:sp c r with
  |none=>rw[q]at h;cases h
  |some y=>
   rw[q]at h;obtain⟨a',b'⟩:=y;cases h;obtain⟨G,A⟩:=kt q;refine⟨by rw[G];rfl,?_⟩;intro m;rcases List.mem_cons.1 m with m|m
   ·exact e m.symm
   exact A m
theorem xA {l:List UInt8}(h:dD l=true):∀x∈l,fN x=true:=by
 simp only[dD,Α,decide_eq_true_eq]at h;have:l.all fN=true:=by
  cases q:l.all fN
  ·have:=h.2;unfold bU at this;rw[if_neg (by rw[q];exact ρ)]at this;omega
  rfl
 exact List.all_eq_true.1 this
def fg (mark:UInt8)(nj:Int)(l:List UInt8):Option (Int×List UInt8):=
 match sp mark l with
 |none=>some (0,l)
 |some (a,b)=>if dD a=true then some (dv a*nj,b)else none
def chain:List (UInt8×Int)->List UInt8->Option Int
 |[],l=>if l=[]then some 0 else none
 |(m,s)::ms,l=>match fg m s l with
  |none=>none
  |some (v,r)=>(chain ms r).map (v+·)
theorem fu {m:UInt8}{s:Int}{ms:List (UInt8×Int)}{l:List UInt8}(h:m∉l):chain ((m,s)::ms) l=chain ms l:=by
 simp only[chain,fg,mW h];cases chain ms l with
 |none=>rfl
 |some v=>simp
theorem uX (ms:List (UInt8×Int)):chain ms []=some 0:=by
 induction ms with
 |nil=>rfl
 |cons m ms ih=>obtain⟨m,s⟩:=m;rw[fu (by simp),ih]
theorem gS {x:UInt8}(N:fN x=false):∀(ms:List (UInt8×Int)) (l:List UInt8),(∀m∈ms,m.1≠x)->x∈l->chain ms l=none
 |[],l,_,h=>by
  unfold chain;rw[if_neg];intro e;rw[e]at h;cases h
 |(m,s)::ms,l,hm,h=>by
  cases q:sp m l with
  |none=>
   have:chain ((m,s)::ms) l=(chain ms l).map (0+·):=by simp only[chain,fg,q]
   rw[this,gS N ms l (λy hy=>hm y (φ _ hy)) h];rfl
  |some y=>
   obtain⟨a,b⟩:=y;obtain⟨e,_⟩:=kt q;simp only[chain,fg,q];by_cases hn:dD a=true
   ·rw[if_pos hn];have U:x∈b:=by
     rw[e]at h;rcases List.mem_append.1 h with h|h
     ·have:=xA hn x h;rw[N]at this;cases this
     rcases List.mem_cons.1 h with h|h
     ·exact absurd h.symm (hm (m,s) χ)
     exact h
    simp only[gS N ms b (λy hy=>hm y (φ _ hy)) U];rfl
   rw[if_neg hn]
theorem tJ {m c:UInt8}{s:Int}{ms:List (UInt8×Int)}{ds r:List UInt8}(Bu:m∉ds)(hc:fN c=false)(zv:c≠m)(hm:m∈r):
 chain ((m,s)::ms) (ds++c::r)=none:=by
 have:m∈ds++c::r:=by simp[hm]
 cases q:sp m (ds++c::r)with
 |none=>
  exfalso;clear Bu hm;have:∀l:List UInt8,m∈l->sp m l≠none:=by
   intro l
   induction l with
   |nil=>intro h;cases h
   |cons x l ih=>
    intro h;unfold sp;by_cases e:x=m
    ·rw[if_pos e];simp
    rw[if_neg e];rcases List.mem_cons.1 h with h|h
    ·exact absurd h.symm e
    have:=ih h;cases q:sp m l with
    |none=>exact absurd q this
    |some y=>simp
  exact this _ ‹_› q
 |some y=>
  obtain⟨a,b⟩:=y;obtain⟨e,ha⟩:=kt q;have hca:c∈a:=by
   rcases List.append_eq_append_iff.1 e with⟨t,S,e2⟩|⟨t,S,e2⟩
   ·cases t with
    |nil=>simp at e2;exact absurd e2.1 zv
    |cons y t=>simp at e2;rw[S,<-e2.1];simp
   cases t with
   |nil=>simp at e2;exact absurd e2.1.symm zv
   |cons y t=>simp at e2;exfalso;apply Bu;rw[S,<-e2.1];simp
  simp only[chain,fg,q];rw[if_neg];intro hn;have:=xA hn c hca;rw[hc]at this;cases this
theorem xB {m:UInt8}{s:Int}{ms:List (UInt8×Int)}{ds r:List UInt8}(Bu:m∉ds)(hn:dD ds=true):
 chain ((m,s)::ms) (ds++m::r)=(chain ms r).map (dv ds*s+·):=by
 simp only[chain,fg,qO Bu,hn,if_true]
theorem su {m:UInt8}{s:Int}{ms:List (UInt8×Int)}{ds r:List UInt8}(Bu:m∉ds)(hn:dD ds=false):
 chain ((m,s)::ms) (ds++m::r)=none:=by
 simp only[chain,fg,qO Bu];rw[if_neg (by rw[hn];exact ρ)]
theorem uY:∀(ds rest cur:List UInt8) (u:Nat) (t:Bool) (s:Int) (p:Nat),(∀x∈ds,fN x=true)->gB (ds++rest) cur u t s p=gB rest (cur++ds) u t s p
 |[],_,_,_,_,_,_,_=>by simp
 |x::ds,rest,cur,u,t,s,p,h=>by
  simp only[Φ]
  conv=>lhs;unfold gB
  rw[if_pos (h x χ),uY ds rest (cur++[x]) u t s p (λy hy=>h y (φ _ hy))];simp
theorem tK (l:List UInt8):∃ds rest,l=ds++rest/\(∀x∈ds,fN x=true)/\(rest=[]\/∃c r,rest=c::r/\fN c=false):=by
 induction l with
 |nil=>exact⟨[],[],rfl,by simp,.inl rfl⟩
 |cons x l ih=>
  cases h:fN x
  ·exact⟨[],x::l,rfl,by simp,.inr ⟨x,l,rfl,h⟩⟩
  obtain⟨ds,rest,e,hd,hr⟩:=ih;refine⟨x::ds,rest,by rw[e];rfl,?_,hr⟩;intro y hy;rcases List.mem_cons.1 hy with rfl|hy
  ·exact h
  exact hd y hy
def aqu:Nat->List (UInt8×Int)
 |1=>[(72,3600),(77,60),(83,1)]
 |2=>[(77,60),(83,1)]
 |3=>[(83,1)]
 |_=>[]
theorem nd {c:UInt8}{n:Nat}(h:c.toNat=n)(hn:57<n):fN c=false:=by
 cases q:fN c
 ·rfl
 have:=(AY c).1 q;omega
theorem jK {c:UInt8}{ds:List UInt8}(h:fN c=false)(hd:∀x∈ds,fN x=true):c∉ds:=by
 intro m;have:=hd c m;rw[h]at this;cases this
theorem u8 {c:UInt8}{n:Nat}(h:c.toNat=n):c=Θ n:=by rw[<-h];simp
theorem nU:∀(k:Nat) (l:List UInt8),l.length<=k->∀(u:Nat),1<=u->u<=4->∀(sum:Int) (parts:Nat),l≠[]\/0<parts->
 gB l [] u true sum parts=(chain (aqu u) l).map (sum+·)
 |0,l,Y,u,_,_,sum,parts,J=>by
  have:l=[]:=List.eq_nil_of_length_eq_zero (by omega);subst this;have uZ:0<parts:=by rcases J with h|h;exact absurd rfl h;exact h
  rw[uX];unfold gB;rw[if_neg (by simp;omega)];simp
 |k+1,l,Y,u,u1,u4,sum,parts,J=>by
  obtain⟨ds,rest,rfl,hd,hr⟩:=tK l;rw[uY ds rest [] u true sum parts hd,υ];rcases hr with rfl|⟨c,r,rfl,hc⟩
  ·
   rw[Κ]at *
   unfold gB;by_cases e:ds=[]
   ·subst e;have uZ:0<parts:=by rcases J with h|h;exact absurd rfl h;exact h
    rw[uX,if_neg (by simp;omega)];simp
   rw[if_pos (.inr e)];have a72:(72:UInt8)∉ds:=jK (nd (n:=72) rfl (by omega)) hd;have a77:(77:UInt8)∉ds:=jK (nd (n:=77) rfl (by omega)) hd;have N9:(83:UInt8)∉ds:=jK (nd (n:=83) rfl (by omega)) hd;have jW:chain [] ds=none:=by unfold chain;rw[if_neg e]
   have:u=1\/u=2\/u=3\/u=4:=by omega
   rcases this with rfl|rfl|rfl|rfl
   ·rw[show aqu 1=[(72,3600),(77,60),(83,1)]from rfl,fu a72,fu a77,fu N9,jW];rfl
   ·rw[show aqu 2=[(77,60),(83,1)]from rfl,fu a77,fu N9,jW];rfl
   ·rw[show aqu 3=[(83,1)]from rfl,fu N9,jW];rfl
   rw[show aqu 4=[]from rfl,jW];rfl
  have vP:c∈ds++c::r:=by simp
  have Sp:r.length<=k:=by simp at Y;omega
  have a72:(72:UInt8)∉ds:=jK (nd (n:=72) rfl (by omega)) hd;have a77:(77:UInt8)∉ds:=jK (nd (n:=77) rfl (by omega)) hd;have N9:(83:UInt8)∉ds:=jK (nd (n:=83) rfl (by omega)) hd
  conv=>lhs;unfold gB
  rw[if_neg (by rw[hc];exact ρ)];by_cases hT:c.toNat=84
  ·rw[if_pos hT,if_pos (.inl rfl)];have dp:∀m∈aqu u,m.1≠c:=by
    rw[u8 hT];have:u=1\/u=2\/u=3\/u=4:=by omega
    rcases this with rfl|rfl|rfl|rfl<;>simp[aqu]
   rw[gS hc (aqu u) _ dp vP];rfl
  rw[if_neg hT];have hu:u=1\/u=2\/u=3\/u=4:=by omega
  by_cases hH:c.toNat=72
  ·have ec:c=72:=u8 hH;subst ec;by_cases G:u<=1
   ·obtain rfl:u=1:=by omega
    have hj:iO 1 72=1:=by decide
    rw[hj];cases hn:dD ds
    ·rw[if_pos (.inl rfl),show aqu 1=[(72,3600),(77,60),(83,1)]from rfl,su a72 hn];rfl
    rw[if_neg (by simp),nU k r Sp 2 (by omega) (by omega) _ _ (.inr (by omega)),show aqu 1=[(72,3600),(77,60),(83,1)]from rfl,xB a72 hn,Option.map_map];congr 1;funext x;simp[qM];omega
   have hj:iO u 72=4:=by rcases hu with rfl|rfl|rfl|rfl<;>first|omega|decide
   rw[if_pos (.inr (.inl hj)),gS hc (aqu u) _ (by rcases hu with rfl|rfl|rfl|rfl<;>first|omega|simp[aqu]) vP];rfl
  by_cases hM:c.toNat=77
  ·have ec:c=77:=u8 hM;subst ec;by_cases A:u<=2
   ·have hj:iO u 77=2:=by rcases hu with rfl|rfl|rfl|rfl<;>first|omega|decide
    rw[hj];have main:(if dD ds=false\/(2:Nat)=4\/decide (0<2)≠true then none else gB r [] (2+1) true (sum+dv ds*qM 2) (parts+1))=(chain (aqu 2) (ds++77::r)).map (sum+·):=by
     cases hn:dD ds
     ·rw[if_pos (.inl rfl),show aqu 2=[(77,60),(83,1)]from rfl,su a77 hn];rfl
     rw[if_neg (by simp),nU k r Sp 3 (by omega) (by omega) _ _ (.inr (by omega)),show aqu 2=[(77,60),(83,1)]from rfl,xB a77 hn,Option.map_map];congr 1;funext x;simp[qM];omega
    have:u=1\/u=2:=by omega
    rcases this with rfl|rfl
    ·by_cases U:(72:UInt8)∈r
     ·rw[show aqu 1=(72,3600)::aqu 2 from rfl,tJ a72 hc (by decide) U];cases hn:dD ds
      ·rw[if_pos (.inl rfl)];rfl
      rw[if_neg (by simp),nU k r Sp 3 (by omega) (by omega) _ _ (.inr (by omega)),gS (nd (c:=72) (n:=72) rfl (by omega)) (aqu 3) r (by simp[aqu]) U];rfl
     rw[show aqu 1=(72,3600)::aqu 2 from rfl,fu (by simp[a72,U]),<-main]
    exact main
   have hj:iO u 77=4:=by rcases hu with rfl|rfl|rfl|rfl<;>first|omega|decide
   rw[if_pos (.inr (.inl hj)),gS hc (aqu u) _ (by rcases hu with rfl|rfl|rfl|rfl<;>first|omega|simp[aqu]) vP];rfl
  by_cases hS:c.toNat=83
  ·have ec:c=83:=u8 hS;subst ec;by_cases M:u<=3
   ·have hj:iO u 83=3:=by rcases hu with rfl|rfl|rfl|rfl<;>first|omega|decide
    rw[hj];have main:(if dD ds=false\/(3:Nat)=4\/decide (0<3)≠true then none else gB r [] (3+1) true (sum+dv ds*qM 3) (parts+1))=(chain (aqu 3) (ds++83::r)).map (sum+·):=by
     cases hn:dD ds
     ·rw[if_pos (.inl rfl),show aqu 3=[(83,1)]from rfl,su N9 hn];rfl
     rw[if_neg (by simp),nU k r Sp 4 (by omega) (by omega) _ _ (.inr (by omega)),show aqu 3=[(83,1)]from rfl,xB N9 hn,Option.map_map];congr 1;funext x;simp[qM];omega
    have bad:∀(x:UInt8),fN x=false->x∈r->(if dD ds=false\/(3:Nat)=4\/decide (0<3)≠true then none else gB r [] (3+1) true (sum+dv ds*qM 3) (parts+1))=none:=by
     intro x N U;cases hn:dD ds
     ·rw[if_pos (.inl rfl)]
     rw[if_neg (by simp),nU k r Sp 4 (by omega) (by omega) _ _ (.inr (by omega)),gS N (aqu 4) r (by simp[aqu]) U];rfl
    have two:(if dD ds=false\/(3:Nat)=4\/decide (0<3)≠true then none else gB r [] (3+1) true (sum+dv ds*qM 3) (parts+1))=(chain (aqu 2) (ds++83::r)).map (sum+·):=by
     by_cases U:(77:UInt8)∈r
     ·rw[show aqu 2=(77,60)::aqu 3 from rfl,tJ a77 hc (by decide) U,bad 77 (nd (n:=77) rfl (by omega)) U];rfl
     rw[show aqu 2=(77,60)::aqu 3 from rfl,fu (by simp[a77,U]),<-main]
    have:u=1\/u=2\/u=3:=by omega
    rcases this with rfl|rfl|rfl
    ·by_cases U:(72:UInt8)∈r
     ·rw[show aqu 1=(72,3600)::aqu 2 from rfl,tJ a72 hc (by decide) U,bad 72 (nd (n:=72) rfl (by omega)) U];rfl
     rw[show aqu 1=(72,3600)::aqu 2 from rfl,fu (by simp[a72,U]),<-two]
    ·exact two
    exact main
   have hj:iO u 83=4:=by rcases hu with rfl|rfl|rfl|rfl<;>first|omega|decide
   rw[if_pos (.inr (.inl hj)),gS hc (aqu u) _ (by rcases hu with rfl|rfl|rfl|rfl<;>first|omega|simp[aqu]) vP];rfl
  have hj:iO u c=4:=by
   unfold iO;rw[if_neg (by omega),if_neg (by omega),if_neg (by omega),if_neg (by omega)]
  have dp:∀m∈aqu u,m.1≠c:=by
   have b1:(72:UInt8)≠c:=λe=>hH (by rw[<-e];rfl);have b2:(77:UInt8)≠c:=λe=>hM (by rw[<-e];rfl);have b3:(83:UInt8)≠c:=λe=>hS (by rw[<-e];rfl);rcases hu with rfl|rfl|rfl|rfl<;>simp[aqu,b1,b2,b3]
  rw[if_pos (.inr (.inl hj)),gS hc (aqu u) _ dp vP];rfl
theorem Nt {c:UInt8}{l:List UInt8}(h:Lib.indexByte l c=-1):sp c l=none:=by
 refine mW λm=>?_;obtain⟨k,Y⟩:=Υ m;exact Lib.indexByte_none h k Y
theorem Kt {c:UInt8}{l:List UInt8}{o:Nat}(h:Lib.indexByte l c=o):sp c l=some (l.take o,l.drop (o+1))/\o<l.length:=by
 obtain⟨G,A⟩:=Lib.indexByte_some h;have aR:o<l.length:=by
  rw[List.getElem?_eq_some_iff]at G;exact G.1
 have e:l=l.take o++c::l.drop (o+1):=by
  conv=>lhs;rw[<-List.take_append_drop o l]
  rw[Ν aR];rw[List.getElem?_eq_getElem aR]at G;rw[Option.some.inj G]
 have hn:c∉l.take o:=by
  intro m;obtain⟨k,Y⟩:=Υ m;rw[List.getElem?_take]at Y;by_cases q:k<o
  ·rw[if_pos q]at Y;exact A k q Y
  rw[if_neg q]at Y;cases Y
 refine⟨?_,aR⟩
 conv=>lhs;rw[e]
 exact qO hn
def sx (c:UInt8)(l:List UInt8):Value:=match sp c l with
 |none=>.tuple #[η ⟨l.toArray⟩,η ⟨#[]⟩,.bool false]
 |some (a,b)=>.tuple #[η ⟨a.toArray⟩,η ⟨b.toArray⟩,.bool true]
theorem Sq (s:ByteArray)(l:List UInt8)(h:s.data.toList=l):s=⟨l.toArray⟩:=by
 cases s with|mk d=>subst h;simp
theorem zw (l:List UInt8)(o:Nat):(⟨l.toArray⟩:ByteArray).extract 0 o=⟨(l.take o).toArray⟩:=by
 apply Sq;rw[gR];simp[cut]
theorem tL (l:List UInt8)(o:Nat):(⟨l.toArray⟩:ByteArray).extract o l.length=⟨(l.drop o).toArray⟩:=by
 apply Sq;rw[gR];simp[cut];exact Ρ (by simp)
theorem aaU {a a' b b':ByteArray}{f:Bool}(G:a=a')(A:b=b'):Δ (.tuple #[η a,η b,.bool f])=δ (.tuple #[η a',η b',.bool f]):=by rw[G,A]
theorem Wg (l:List UInt8)(c:UInt8)(w:μ)(K:l.length<=maxLen):
 ν prog 197 #[η ⟨l.toArray⟩,η ⟨#[c]⟩] w λe I=>e=δ (sx c l)/\Below w.heap.size w I:=by
 have ci:=Tryz.stringslite_Index_one ⟨l.toArray⟩ c w;have CI:=H ci;have Ku:=Lib.indexByte_ge l c;unfold maxLen at K;clear ci;by_cases h:Lib.indexByte l c=-1
 ·have hv:sx c l=.tuple #[η ⟨l.toArray⟩,η ⟨#[]⟩,.bool false]:=by unfold sx;rw[Nt h]
  rw[hv];have CJ:Hid (ν prog 234 #[η ⟨l.toArray⟩,η ⟨#[c]⟩] w λe I=>e=δ (V Z (-1))/\I=w):=by
   have:=CI.out;rw[show(⟨l.toArray⟩:ByteArray).data.toList=l from rfl,h]at this;exact this
  clear h hv CI Ku;go_enter func197,ntmps197;go_wp2_with (go_at_call 234;refine(CJ.out).mono ?_;rintro e I ⟨rfl,rfl⟩);go_ret3;exact⟨rfl,κ _ _⟩
 obtain⟨o,ho⟩:=Γ (show 0<=Lib.indexByte l c by omega);obtain⟨hs,aR⟩:=Kt ho;have hv:sx c l=.tuple #[η ⟨(l.take o).toArray⟩,η ⟨(l.drop (o+1)).toArray⟩,.bool true]:=by unfold sx;rw[hs]
 rw[hv];have CJ:Hid (ν prog 234 #[η ⟨l.toArray⟩,η ⟨#[c]⟩] w λe I=>e=δ (V Z (o:Int))/\I=w):=by
  have:=CI.out;rw[show(⟨l.toArray⟩:ByteArray).data.toList=l from rfl,ho]at this;exact this
 have E1:=H (zw l o);have E2:=H (tL l (o+1));clear h hv CI Ku ho hs;go_enter func197,ntmps197;go_wp2_with (go_at_call 234;refine(CJ.out).mono ?_;rintro e I ⟨rfl,rfl⟩);go_quiet (fail);go_wp2;go_ret3;exact⟨aaU E1.out E2.out,below_drewN (κ _ _) _⟩
theorem Sr (c:UInt8)(l:List UInt8):∃a b f,sx c l=.tuple #[η a,η b,.bool f]:=by
 unfold sx;cases sp c l with
 |none=>exact⟨_,_,_,rfl⟩
 |some y=>exact⟨_,_,_,rfl⟩
theorem xC (l:List UInt8)(c:UInt8)(w:μ)(K:l.length<=maxLen):
 ν prog 168 #[η ⟨l.toArray⟩,η ⟨#[c]⟩] w λe I=>e=δ (sx c l)/\Below w.heap.size w I:=by
 have k:=Wg l c w K;obtain⟨a,b,f,hf⟩:=Sr c l;rw[hf]at k⊢;have C:=H k;clear k hf K;go_enter func168,ntmps168;go_wp2_with (go_at_call 197;refine(C.out).mono ?_;rintro e w1 ⟨rfl,U⟩);go_ret3;exact⟨rfl,U⟩
def Kv (l:List UInt8)(x:Int):Ι:=if dD l=true then δ (V Z (dv l))else ε (bx x)
theorem Ck {l:List UInt8}{x:Int}(h:dD l=true):Kv l x=δ (V Z (dv l)):=by unfold Kv;rw[if_pos h]
theorem tw {l:List UInt8}{x:Int}(h:dD l=false):Kv l x=ε (bx x):=by unfold Kv;rw[if_neg (by rw[h];exact ρ)]
theorem Kw (c:UInt8)(r:List UInt8):0<(⟨(c::r).toArray⟩:ByteArray).size:=by show 0<(c::r).length;simp
theorem head_ne {c:UInt8}(r:List UInt8)(q:¬c=48):((((⟨(c::r).toArray⟩:ByteArray)[0]'(Kw c r)).toNat:Int)!=48)=true:=by
 show((c.toNat:Int)!=48)=true;rw[bne_iff_ne];intro e;apply q;apply UInt8.toNat_inj.1;show _=48;omega
theorem head_eq (r:List UInt8):((((⟨((48:UInt8)::r).toArray⟩:ByteArray)[0]'(Kw 48 r)).toNat:Int)!=48)=false:=rfl
theorem vb (l:List UInt8)(x:Int)(w:μ)(K:l.length<=maxLen):
 ν prog 173 #[η ⟨l.toArray⟩,V Z x] w λE I=>E=Kv l x/\w=I:=by
 unfold maxLen at K
 match l with
 |[]=>
  rw[tw (by rfl)];go_enter func173,ntmps173;go_wp2_with (go_at_call_of 42 (ο false);refine eI ?_);exact⟨rfl,rfl,rfl⟩
 |c::r=>
  by_cases h7:r.length+1<=7
  case neg=>
   rw[tw (by simp[dD,kW];intro q;omega)];have Y4:decide ((r.length:Int)+1<=7)=false:=by simp;omega
   go_enter func173,ntmps173;go_wp2_with (go_at_call_of 42 (ο false);refine eI ?_);exact⟨rfl,rfl,rfl⟩
  case pos=>
   have Y4:(r.length:Int)+1<=7:=by omega
   have cy:=eJ ⟨(c::r).toArray⟩ x w (by show(c::r).length<=7;simp;omega);have cn:=jJ ⟨(c::r).toArray⟩ x w (by show(c::r).length<=7;simp;omega);by_cases hs:c=48/\r≠[]
   case pos=>
    obtain⟨rfl,hr⟩:=hs;obtain⟨r0,r1,rfl⟩:=List.exists_cons_of_ne_nil hr;rw[tw (by simp[dD,kW])];have h9:(r1.length:Int)+1+1<=7:=by simp at h7;omega
    have q2:=head_eq (r0::r1);clear cy cn hr h7 Y4;go_enter func173,ntmps173;go_wp2_with (first
     |(go_at_call_of 42 (ο true);refine dh ?_)
     |(go_at_call_of 42 (ο false);refine eI ?_))
    exact⟨rfl,rfl,rfl⟩
   case neg=>
    have oZ:kW (c::r)=true:=by
     simp[kW];refine⟨by omega,?_⟩;by_cases q:c=48
     ·right;by_cases e:r=[]
      ·rw[e]
      exact absurd ⟨q,e⟩ hs
     exact .inl q
    have hlen:(c::r).length<=7:=by simp;omega
    cases ha:dW ⟨(c::r).toArray⟩
    case false=>
     have U:dD (c::r)=false:=by
      unfold dD;rw[wz (l:=c::r) ha];simp
     rw[tw U];have C:=H (cn ha);clear cy cn ha U oZ hlen;rcases r with _|⟨r0,r1⟩
     case nil=>
      by_cases q:c=48
      ·subst q;go_enter func173,ntmps173;go_wp2_with (first
        |(go_at_call_of 42 (ο true);refine dh ?_)
        |(go_at_call 73;refine(C.out).mono ?_;rintro e I ⟨rfl,rfl⟩))
       exact⟨rfl,rfl,rfl⟩
      have q':(c==48)=false:=by simp[q]
      have q2:=head_ne [] q;go_enter func173,ntmps173;go_wp2_with (first
       |(go_at_call_of 42 (ο true);refine dh ?_)
       |(go_at_call 73;refine(C.out).mono ?_;rintro e I ⟨rfl,rfl⟩))
      exact⟨rfl,rfl,rfl⟩
     case cons=>
      have q:¬c=48:=λe=>hs ⟨e,by simp⟩;have q2:=head_ne (r0::r1) q;have h9:(r1.length:Int)+1+1<=7:=by simp at h7;omega
      clear h7 Y4 hs;go_enter func173,ntmps173;go_wp2_with (first
       |(go_at_call_of 42 (ο true);refine dh ?_)
       |(go_at_call 73;refine(C.out).mono ?_;rintro e I ⟨rfl,rfl⟩))
      exact⟨rfl,rfl,rfl⟩
    case true=>
     have hd:=qd (c::r) 7 hlen ha;have U:dD (c::r)=true:=by
      unfold dD;rw[oZ,qg (l:=c::r) ha];simp;exact hd.1
     have hN:dv (c::r)=jd (c::r):=by
      unfold dv;rw[if_pos oZ,qg (l:=c::r) ha]
     rw[Ck U,hN];have C:=H (cy ha);clear cy cn ha U oZ hlen hd hN;rcases r with _|⟨r0,r1⟩
     case nil=>
      by_cases q:c=48
      ·subst q;go_enter func173,ntmps173;go_wp2_with (first
        |(go_at_call_of 42 (ο true);refine dh ?_)
        |(go_at_call 73;refine(C.out).mono ?_;rintro e I ⟨rfl,rfl⟩))
       go_ret;exact⟨rfl,rfl⟩
      have q':(c==48)=false:=by simp[q]
      have q2:=head_ne [] q;go_enter func173,ntmps173;go_wp2_with (first
       |(go_at_call_of 42 (ο true);refine dh ?_)
       |(go_at_call 73;refine(C.out).mono ?_;rintro e I ⟨rfl,rfl⟩))
      go_ret;exact⟨rfl,rfl⟩
     case cons=>
      have q:¬c=48:=λe=>hs ⟨e,by simp⟩;have q2:=head_ne (r0::r1) q;have h9:(r1.length:Int)+1+1<=7:=by simp at h7;omega
      clear h7 Y4 hs;go_enter func173,ntmps173;go_wp2_with (first
       |(go_at_call_of 42 (ο true);refine dh ?_)
       |(go_at_call 73;refine(C.out).mono ?_;rintro e I ⟨rfl,rfl⟩))
      go_ret;exact⟨rfl,rfl⟩
theorem Wh:fN (84:UInt8)=false:=nd (n:=84) rfl (by omega)
theorem ajZ:fN (68:UInt8)=false:=nd (n:=68) rfl (by omega)
theorem aaV {c:UInt8}{ds r b:List UInt8}{x:UInt8}(hd:∀y∈ds,fN y=true)(hc:fN c=false)(N:x≠c):sp c (ds++x::r)≠some ([],b):=by
 intro h;have e:=(kt h).1;cases ds with
 |nil=>simp at e;exact N e.1
 |cons y ds=>simp at e;have:=hd y χ;rw[e.1,hc]at this;cases this
theorem Oa (r:List UInt8)(sum:Int)(parts:Nat)(J:0<parts):gB r [] 1 false sum parts=
 if r=[]then some sum else match sp 84 r with
  |some ([],b)=>if b=[]then none else(chain (aqu 1) b).map (sum+·)
  |_=>none:=by
 obtain⟨ds,rest,rfl,hd,hr⟩:=tK r;rw[uY ds rest [] 1 false sum parts hd,υ];have aT:(84:UInt8)∉ds:=jK Wh hd;rcases hr with rfl|⟨c,r,rfl,hc⟩
 ·rw[Κ];unfold gB;by_cases e:ds=[]
  ·rw[if_neg (by simp[e];omega),if_pos e]
  rw[if_pos (.inr e),if_neg e,mW aT]
 rw[if_neg (by simp)]
 conv=>lhs;unfold gB
 rw[if_neg (by rw[hc];exact ρ)];by_cases hT:c.toNat=84
 ·obtain rfl:c=84:=u8 hT;rw[if_pos hT,qO aT];by_cases e:ds=[]
  ·subst e;by_cases e2:r=[]
   ·rw[if_pos (.inr (.inr e2))];simp[e2]
   rw[if_neg (by simp[e2]),nU r.length r (ι _) 1 (by omega) (by omega) _ _ (.inl e2)];simp[e2]
  rw[if_pos (.inr (.inl e))];cases ds with
  |nil=>exact absurd rfl e
  |cons y ds=>rfl
 rw[if_neg hT];have hn:=Kj 1 c (by omega);rw[if_pos (by
  by_cases q:iO 1 c=4
  ·exact .inr (.inl q)
  right;right;rw[decide_eq_true (by omega)];simp)]
 have N:c≠84:=λe=>hT (by rw[e];rfl);have:=λb=>aaV (b:=b) (r:=r) hd Wh N;cases q:sp 84 (ds++c::r)with
 |none=>rfl
 |some y=>
  obtain⟨a,b⟩:=y;cases a with
  |nil=>exact absurd q (this b)
  |cons y a=>rfl
def s9 (body:List UInt8):Option Int:=
 match fg 68 86400 ((sp 84 body).elim body Prod.fst),chain (aqu 1) ((sp 84 body).elim [] Prod.snd)with
 |some (v,[]),some n=>some (v+n)
 |_,_=>none
theorem Wi (o:Option Int):o.map (0+·)=o:=by cases o<;>simp
theorem aaW (body:List UInt8)(dp:body≠[]):gB body [] 0 false 0 0=match sp 84 body with
 |some (_,[])=>none
 |_=>s9 body:=by
 obtain⟨ds,rest,rfl,hd,hr⟩:=tK body;rw[uY ds rest [] 0 false 0 0 hd,υ];have aT:(84:UInt8)∉ds:=jK Wh hd;have aD:(68:UInt8)∉ds:=jK ajZ hd;rcases hr with rfl|⟨c,r,rfl,hc⟩
 ·rw[Κ]at *
  unfold gB;rw[if_pos (.inl rfl),mW aT];unfold s9;rw[mW aT];simp only[Option.elim_none,fg,mW aD,uX];cases ds with
  |nil=>exact absurd rfl dp
  |cons y ds=>rfl
 conv=>lhs;unfold gB
 rw[if_neg (by rw[hc];exact ρ)];by_cases hT:c.toNat=84
 ·obtain rfl:c=84:=u8 hT;rw[if_pos hT,qO aT];cases r with
  |nil=>rw[if_pos (.inr (.inr rfl))]
  |cons z r=>
   unfold s9;rw[qO aT];simp only[Option.elim_some,fg,mW aD];cases ds with
   |nil=>
    rw[if_neg (by simp),nU (z::r).length (z::r) (ι _) 1 (by omega) (by omega) _ _ (.inl (by simp)),Wi];cases chain (aqu 1) (z::r)<;>simp
   |cons y ds=>rw[if_pos (.inr (.inl (by simp)))]
 rw[if_neg hT];have N:c≠84:=λe=>hT (by rw[e];rfl);by_cases hD:c.toNat=68
 ·obtain rfl:c=68:=u8 hD;have hj:iO 0 68=0:=by decide
  rw[hj];cases q:sp 84 r with
  |none=>
   have qr:(84:UInt8)∉r:=by
    intro m;have:∀l:List UInt8,(84:UInt8)∈l->sp 84 l≠none:=by
     intro l
     induction l with
     |nil=>intro h;cases h
     |cons x l ih=>
      intro h;unfold sp;by_cases e:x=84
      ·rw[if_pos e];simp
      rw[if_neg e];rcases List.mem_cons.1 h with h|h
      ·exact absurd h.symm e
      have:=ih h;cases w:sp 84 l with
      |none=>exact absurd w this
      |some y=>simp
    exact this r m q
   have qb:sp 84 (ds++68::r)=none:=mW (by simp[aT,qr]);unfold s9;rw[qb];simp only[Option.elim_none,fg,qO aD,uX];cases hn:dD ds
   ·rw[if_pos (.inl rfl)];simp
   rw[if_neg (by simp),Oa r _ _ (by omega),q];cases r with
   |nil=>simp[qM]
   |cons y r=>simp
  |some y=>
   obtain⟨a,b⟩:=y;obtain⟨e,ha⟩:=kt q;have qb:sp 84 (ds++68::r)=some (ds++68::a,b):=by
    rw[e,show ds++(68:UInt8)::(a++84::b)=(ds++68::a)++84::b from by simp];exact qO (by simp[aT,ha])
   unfold s9;rw[qb];have wC:r≠[]:=by rw[e];simp
   simp only[Option.elim_some,fg,qO aD];cases hn:dD ds
   ·rw[if_pos (.inl rfl)];cases b<;>simp
   rw[if_neg (by simp),Oa r _ _ (by omega),if_neg wC,q];cases a with
   |nil=>
    cases b with
    |nil=>simp
    |cons z b=>
     simp only[if_true];rw[if_neg (by simp)];cases chain (aqu 1) (z::b)<;>simp[qM]
   |cons y a=>
    cases b with
    |nil=>rfl
    |cons z b=>simp
 have hn:=Kj 0 c (by omega);have hj:iO 0 c≠0:=by
  intro e;unfold iO at e;rw[if_neg (by omega)]at e;split at e
  ·omega
  split at e
  ·omega
  split at e<;>omega
 rw[if_pos (by right;right;rw[decide_eq_true (by omega)];simp)];have Hp:c≠68:=λe=>hD (by rw[e];rfl);have key:∀t:List UInt8,∀v,fg 68 86400 (ds++c::t)≠some (v,[]):=by
  intro t v h;unfold fg at h;cases q:sp 68 (ds++c::t)with
  |none=>rw[q]at h;simp at h
  |some y=>
   obtain⟨a,b⟩:=y;rw[q]at h;simp only at h;obtain⟨e,ha⟩:=kt q;have hca:c∈a:=by
    rcases List.append_eq_append_iff.1 e with⟨t,S,e2⟩|⟨t,S,e2⟩
    ·cases t with
     |nil=>simp at e2;exact absurd e2.1 Hp
     |cons y t=>simp at e2;rw[S,<-e2.1];simp
    cases t with
    |nil=>simp at e2;exact absurd e2.1.symm Hp
    |cons y t=>simp at e2;exfalso;apply aD;rw[S,<-e2.1];simp
   by_cases hn:dD a=true
   ·have:=xA hn c hca;rw[hc]at this;cases this
   rw[if_neg hn]at h;cases h
 have Ob:∀(t:List UInt8) (o:Option Int),(match fg 68 86400 (ds++c::t),o with
  |some (v,[]),some n=>some (v+n)
  |_,_=>none)=none:=by
  intro t o;cases q:fg 68 86400 (ds++c::t)with
  |none=>rfl
  |some y=>
   obtain⟨v,b⟩:=y;cases b with
   |nil=>exact absurd q (key t v)
   |cons z b=>rfl
 unfold s9;cases q:sp 84 (ds++c::r)with
 |none=>simp only[Option.elim_none];exact(Ob r _).symm
 |some y=>
  obtain⟨a,b⟩:=y;obtain⟨e,ha⟩:=kt q;obtain⟨t,ht⟩:∃t,a=ds++c::t:=by
   rcases List.append_eq_append_iff.1 e with⟨t,S,e2⟩|⟨t,S,e2⟩
   ·cases t with
    |nil=>simp at e2;exact absurd e2.1 N
    |cons y t=>simp at e2;exact⟨t,by rw[S,<-e2.1]⟩
   cases t with
   |nil=>simp at e2;exact absurd e2.1.symm N
   |cons y t=>simp at e2;exfalso;apply aT;rw[S,<-e2.1];simp
  subst ht;cases b with
  |nil=>rfl
  |cons z b=>simp only[Option.elim_some];exact(Ob t _).symm
def DW (mark:UInt8)(nj:Int)(l:List UInt8):Ι:=match fg mark nj l with
 |some (v,r)=> δ (.tuple #[V Z v,η ⟨r.toArray⟩])
 |none=> ε (bx 1)
theorem qP (l:List UInt8)(mark:UInt8)(nj:Int)(w:μ)(K:l.length<=maxLen)(h0:0<=nj)(G:nj<=86400):
 ν prog 235 #[η ⟨l.toArray⟩,η ⟨#[mark]⟩,V Z nj] w λE I=>E=DW mark nj l/\Below w.heap.size w I:=by
 have k:=xC l mark w K;unfold DW fg;unfold sx at k;cases q:sp mark l with
 |none=>
  rw[q]at k;have C:=H k;clear k q;go_enter func235,ntmps235;go_wp2_with (go_at_call 168;refine(C.out).mono ?_;rintro e w1 ⟨rfl,U⟩);go_ret2;exact⟨rfl,U⟩
 |some y=>
  obtain⟨a,b⟩:=y;rw[q]at k;have ha:a.length<=maxLen:=by
   have e:=(kt q).1;have:a.length<=l.length:=by rw[e];simp
   omega
  have kn:=λW=>vb a 1 W ha;have C:=H k;simp only[];cases hn:dD a
  ·rw[if_neg ρ];rw[tw hn]at kn;have D:=H kn;clear k q kn ha hn;go_enter func235,ntmps235;go_wp2_with (first
    |(go_at_call 168;refine(C.out).mono ?_;rintro e w1 ⟨rfl,U⟩)
    |(go_at_call 173;refine(D.out _).mono ?_;rintro e I ⟨rfl,rfl⟩))
   exact⟨rfl,rfl,U⟩
  rw[if_pos rfl];rw[Ck hn]at kn;have U:=FY a hn;have hm:dv a*nj<=9999999*86400:=Int.mul_le_mul U.2 G h0 (by omega);have hm0:0<=dv a*nj:=Int.mul_nonneg U.1 h0;have D:=H kn;clear k q kn ha hn;go_enter func235,ntmps235;go_wp2_with (first
   |(go_at_call 168;refine(C.out).mono ?_;rintro e w1 ⟨rfl,U⟩)
   |(go_at_call 173;refine(D.out _).mono ?_;rintro e I ⟨rfl,rfl⟩))
  go_ret2;exact⟨rfl,‹Below _ _ _›⟩
end Go.Proofs.YtchdfdmjihnhkaaGreatDoor
