import Derived.Test.YtchdfdmjihnhkaaGreatDoorUq13
set_option maxRecDepth 100000
set_option maxHeartbeats 8000000
open Go.IntKind renaming i64->Z
open Go.Value renaming int->V
open Go renaming World->δ,Calls->ε
namespace Go.Proofs.YtchdfdmjihnhkaaGreatDoor
open Tryz
open Go.RowKit Go.Sort
def ad8 (w:δ)(sa:Option Addr)(l:List (Int×Int×Int×List UInt8)):Prop:=l.length<=9223372036854775807/\∀i x,l[i]?=some x->∃b off,sa=some ⟨b,off,none⟩/\b<w.heap.size/\w.rangeAt b (off+i*4) [V Z x.1,V Z x.2.1,V Z x.2.2.1,.string ⟨x.2.2.2.toArray⟩]/\
 (-9223372036854775808<=x.1/\x.1<=9223372036854775807)/\(-9223372036854775808<=x.2.1/\x.2.1<=9223372036854775807)/\(-9223372036854775808<=x.2.2.1/\x.2.2.1<=9223372036854775807)
def TmV (w:δ)(sa:Option Addr)(l:List Int):Prop:=l.length<=9223372036854775807/\∀i x,l[i]?=some x->∃b off,sa=some ⟨b,off,none⟩/\b<w.heap.size/\w.cell? ⟨b,off+i,none⟩=some (V Z x)
theorem xX:(prog.info? 29).map (·.size)=some 4:=by kernel_rfl
def lP (w wr:δ)(x y:Nat)(a b:fl):Prop:=∃Mx Ex My Ey:ak,cg wr x Mx Ex a.ns a.ds a.h/\cg wr y My Ey b.ns b.ds b.h/\(∀k,Mx k->w.heap.size<=k)/\(∀k,My k->w.heap.size<=k)/\∀k,Mx k->¬My k
theorem lP.swap {w wr:δ}{x y:Nat}{a b:fl}(h:lP w wr x y a b):lP w wr y x b a:=by
 obtain⟨Mx,Ex,My,Ey,G,A,M,h4,h5⟩:=h;exact⟨My,Ey,Mx,Ex,A,G,h4,M,λk Y bV=>h5 k bV Y⟩
theorem lP.fst {w wr:δ}{x y:Nat}{a b:fl}(h:lP w wr x y a b)(U:Below w.heap.size w wr):∃aqz E:ak,cg wr x aqz E a.ns a.ds a.h/\(∀k,aqz k->w.heap.size<=k)/\∀a' I,gG x aqz a' wr.heap.size I->aj aqz wr I->lP w I x y a' b/\Below w.heap.size w I:=by
 obtain⟨Mx,Ex,My,Ey,G,A,M,h4,h5⟩:=h;refine⟨Mx,Ex,G,M,λa' I ⟨M',E',g1,g2⟩ N=>⟨⟨M',E',My,Ey,g1,A.aM N λk Y=>Y.elim (λq q'=>h5 k q' q) (G.apart A),λk Y=>(g2 k Y).elim (M k) (Nat.le_trans U.size),h4,λk Y q=>(g2 k Y).elim (λg=>h5 k g q) λg=>?_⟩,U.trans (N.below U.size M)⟩⟩;have:=A.lt (.inl q);omega
theorem Xr {w:δ}{s:Nat}{aqz E:ak}{ns:List ByteArray}{ds:List aL}{h:Int}(x:cg w s aqz E ns ds h):eU ds h<=500:=by
 obtain⟨cp,b,ip,nv,ps,T,x⟩:=x;rw[<-x.QZ];exact x.sz
theorem xY {w wr:δ}{x y:Nat}{p q:fl}(h:lP w wr x y p q)(U:Below w.heap.size w wr)(hm:ML w)(ht:iX w)(k a b:Int)(t:List UInt8)(Y:-9223372036854775808<=k/\k<=9223372036854775807)(ha:-9223372036854775808<=a/\a<=9223372036854775807)(fA:-9223372036854775808<=b/\b<=9223372036854775807):
 ε prog 6 #[.pointer (some ⟨x,0,none⟩),.agg #[V Z k,V Z a,V Z b,.string ⟨t.toArray⟩]] wr λe I=>∃aqA,e=.returned (.string aqA)/\Hid (∃p',C5 k a b t p aqA p'/\lP w I x y p' q)/\Below w.heap.size w I:=by
 obtain⟨aqz,E,G,A,M⟩:=h.fst U;refine(agv (w0:=w) G k a b t Y ha fA (hm.on U) ht U A).mono ?_;rintro e I ⟨aqA,y,g1,g2,g3,g4⟩;obtain⟨g5,g6⟩:=M y I g3 g4;exact⟨aqA,g1,H ⟨y,g2,g5⟩,g6⟩
theorem Xs {w wr:δ}{x y:Nat}{p q:fl}(h:lP w wr x y p q)(U:Below w.heap.size w wr)(ht:iX w)(t:Int):
 ε prog 8 #[.pointer (some ⟨x,0,none⟩),V Z t] wr λe I=>e=.returned (V Z (fY t p).1)/\lP w I x y (fY t p).2 q/\Below w.heap.size w I:=by
 obtain⟨aqz,E,G,A,M⟩:=h.fst U;refine(Xk G t (ht.on U)).mono ?_;rintro e I ⟨g1,g3,g4⟩;exact⟨g1,M _ I g3 g4⟩
theorem BW {w wr:δ}{x y:Nat}{p q:fl}(h:lP w wr x y p q):
 ε prog 7 #[.pointer (some ⟨x,0,none⟩)] wr λe I=>e=.returned (V Z (eU p.ds p.h))/\wr=I:=by
 obtain⟨Mx,Ex,My,Ey,G,_⟩:=h;exact JF G
theorem Xt {w wr:δ}{x y:Nat}{p q:fl}(h:lP w wr x y p q):eU p.ds p.h<=500:=by
 obtain⟨Mx,Ex,My,Ey,G,_⟩:=h;exact Xr G
theorem NH (sa:Option Addr)(cap:Nat)(l:List (Int×Int×Int×List UInt8))(sh:Option Addr)(akr:Nat)(hs:List Int)(w:δ)(K:ad8 w sa l)(hh:TmV w sh hs)(hm:ML w)(ht:iX w):
 ε prog 3 #[.slice sa l.length cap,.slice sh hs.length akr] w λe I=>e=.returned (.bool true)/\Below w.heap.size w I:=by
 obtain⟨aqv,hN⟩:∃aqv,aqv=min l.length 40:=⟨_,rfl⟩;have hlen:=K.1;have hhl:=hh.1;have hNl:aqv<=l.length/\aqv<=40/\(aqv<l.length->aqv=40):=by omega
 have CW:=H (aby w hm ht);have CN:=H λW=>Q1 W;have HL:=H K;have HH:=H hh;have HM:=H hm;have HT:=H ht;clear K hh hm ht hN;go_enter func3,ntmps3;go_upto_region 2 with(go_at_call 4;refine(CW.out).mono ?_;rintro e w1 ⟨rfl,ay⟩);clear CW;go_upto_region 3 with(go_at_call 5;refine(CN.out _).mono ?_;rintro e w2 ⟨x,aqz,rfl,x2,O8,aN⟩);replace x2:=H x2;replace O8:=H O8;go_upto_region 4 with(go_at_call 5;refine(CN.out _).mono ?_;rintro e w3 ⟨y,M',rfl,x3,hM3,aP⟩);have lO:Below w.heap.size w w2:=ay.trans (aN.mono ay.size);have eM:Below w.heap.size w w3:=lO.trans (aP.mono lO.size);have hB:Hid (∃a b:fl,a.like b/\lP w w3 x y a b):=H ⟨⟨[],[],0⟩,⟨[],[],0⟩,⟨rfl,rfl⟩,aqz,_,M',_,x2.out.on aP,x3,λk Y=>Nat.le_trans ay.size (O8.out k Y),λk Y=>Nat.le_trans lO.size (hM3 k Y),λk Y bV=>by
  have:=x2.out.lt (.inl Y);have:=hM3 k bV;omega⟩
 clear CN x2 x3 O8 hM3 ay aN aP lO;go_wp2_with fail;go_loopw [8] (λt wr=>∃i:Nat,i<=aqv/\t=V Z i/\Below w.heap.size w wr/\Hid (∃a b:fl,a.like b/\lP w wr x y a b)) (λt _=>aqv-(intOf t).toNat)
 case atStart=>exact⟨0,by omega,rfl,eM,hB⟩
 case round=>
  obtain⟨i,hi,rfl,jx,Ez⟩:=hrel;clear hB eM;by_cases jw:i<aqv
  case neg=>
   have Z0:i<l.length->¬(i:Int)<40:=λh=>by omega
   clear Ez HM HT HL HH;by_cases G:i<l.length
   all_goals
    first
     |have aea:¬(i:Int)<40:=Z0 G
     |skip
    clear Z0;go_wp2_with fail;go_ret;exact⟨rfl,jx⟩
  case pos=>
   have OG:i<l.length:=by omega
   have aot:i<40:=by omega
   have h40:(i:Int)<40:=by omega
   obtain⟨z,hz⟩:∃z,l[i]?=some z:=⟨_,List.getElem?_eq_getElem OG⟩;obtain⟨b,off,hsa,gQ,q0,z0,z1,z2⟩:=HL.out.2 i z hz;subst hsa;obtain⟨k,a,c,t⟩:=z;simp only[]at q0 z0 z1 z2;have HG:Hid (∀W,Below w.heap.size w W->W.rangeAt b (off+i*4) [V Z k,V Z a,V Z c,.string ⟨t.toArray⟩]):=H λW hW j v hj=>(hW.cell (p:=⟨b,off+i*4+j,none⟩) gQ).trans (q0 j v hj);obtain⟨p,q,hpq,hBo⟩:=Ez.out;have CA:=H (xY hBo jx HM.out HT.out k a c t z0 z1 z2);have Z1:=H hpq;clear Ez hBo hpq q0 hz HL;go_upto_region 10 with(first
    |(refine wpList_load_mid rfl 29 _ rfl b (off+i*4) (by first|rfl|simp) _ _ (HG.out _ jx) underlying29 rfl xX ?_)
    |(go_at_call 6;refine(CA.out).mono ?_;rintro e w4 ⟨aqA,rfl,hA,cq⟩))
   obtain⟨p',pX,EO⟩:=hA.out;replace pX:=H pX;clear CA hA;by_cases hih:i<hs.length
   case pos=>
    obtain⟨u,hu⟩:∃u,hs[i]?=some u:=⟨_,List.getElem?_eq_getElem hih⟩;obtain⟨b',aec,oZ,aks,c0⟩:=HH.out.2 i u hu;subst oZ;have C1:=H (BW EO.swap);have C2:=H (Xs EO.swap cq HT.out u);have c4:w4.cell? ⟨b',aec+i,none⟩=some (V Z u):=by rw[cq.cell (p:=⟨b',aec+i,none⟩) aks];exact c0
    have C3:Hid (∀W,lP w W y x (fY u q).2 p'->ε prog 7 #[.pointer (some ⟨y,0,none⟩)] W λe I=>e=.returned (V Z (eU (fY u q).2.ds (fY u q).2.h))/\W=I):=H λW h=>BW h;have hQ:Hid (p.like (fY u q).2):=H (by
     obtain⟨g1,g2⟩:=Z1.out;obtain⟨g3,g4⟩:=T0 q u;exact⟨g1.trans g3.symm,g2.trans g4.symm⟩)
    have hE:(fY u q).1≠0->eU (fY u q).2.ds (fY u q).2.h=eU q.ds q.h:=λh=>by rw[Xm h]
    clear hu c0 Z1 EO;go_upto_region 13 with(first
     |(go_at_call 7;refine(C1.out).mono ?_;rintro e I ⟨rfl,rfl⟩)
     |(go_at_call 8;refine(C2.out).mono ?_;rintro e w5 ⟨rfl,EP,bB⟩))
    have C4:=H (C3.out _ EP);have akt:=Xt EP;replace EP:=H EP.swap;clear C1 C2 C3 c4 cq;generalize(fY u q).1=n at *
    obtain⟨q',Z2⟩:∃q',q'=(fY u q).2:=⟨_,rfl⟩;rw[<-Z2]at C4 akt EP hQ hE;clear Z2;generalize eU q'.ds q'.h=n2 at *
    generalize eU q.ds q.h=n1 at *
    by_cases hn:n=0
    case pos=>
     subst hn;clear hE;go_upto_region 16 with(go_at_call 7;refine(C4.out).mono ?_;rintro e I ⟨rfl,rfl⟩);clear C4;have CB:=H (xY EP.out.swap bB HM.out HT.out k a c t z0 z1 z2);clear EP;go_upto_region 17 with(first
      |(refine wpList_load_mid rfl 29 _ rfl b (off+i*4) (by first|rfl|simp) _ _ (HG.out _ bB) underlying29 rfl xX ?_)
      |(go_at_call 6;refine(CB.out).mono ?_;rintro e w6 ⟨S',rfl,mH,cL⟩))
     obtain⟨q2,mH,IN⟩:=mH.out;obtain⟨rfl,me⟩:=pX.out.one hQ.out mH;have T6:Hid (∃a b:fl,a.like b/\lP w w6 x y a b):=H ⟨_,_,me,IN.swap⟩;clear mH IN me pX hQ CB;go_wp2_with fail;exact⟨⟨i+1,by omega,by go_num,cL,T6⟩,by simp[intOf];omega⟩
    case neg=>
     obtain rfl:=hE hn;go_upto_region 16 with(go_at_call 7;refine(C4.out).mono ?_;rintro e I ⟨rfl,rfl⟩);clear C4;have CB:=H (xY EP.out.swap bB HM.out HT.out k a c t z0 z1 z2);clear EP;go_upto_region 17 with(first
      |(refine wpList_load_mid rfl 29 _ rfl b (off+i*4) (by first|rfl|simp) _ _ (HG.out _ bB) underlying29 rfl xX ?_)
      |(go_at_call 6;refine(CB.out).mono ?_;rintro e w6 ⟨S',rfl,mH,cL⟩))
     obtain⟨q2,mH,IN⟩:=mH.out;obtain⟨rfl,me⟩:=pX.out.one hQ.out mH;have T6:Hid (∃a b:fl,a.like b/\lP w w6 x y a b):=H ⟨_,_,me,IN.swap⟩;clear mH IN me pX hQ CB;go_wp2_with fail;exact⟨⟨i+1,by omega,by go_num,cL,T6⟩,by simp[intOf];omega⟩
   case neg=>
    have CB:=H (xY EO.swap cq HM.out HT.out k a c t z0 z1 z2);clear EO;go_upto_region 17 with(first
     |(refine wpList_load_mid rfl 29 _ rfl b (off+i*4) (by first|rfl|simp) _ _ (HG.out _ cq) underlying29 rfl xX ?_)
     |(go_at_call 6;refine(CB.out).mono ?_;rintro e w6 ⟨S',rfl,mH,cL⟩))
    obtain⟨q2,mH,IN⟩:=mH.out;obtain⟨rfl,me⟩:=pX.out.one Z1.out mH;have T6:Hid (∃a b:fl,a.like b/\lP w w6 x y a b):=H ⟨_,_,me,IN.swap⟩;clear mH IN me pX Z1 CB;go_wp2_with fail;exact⟨⟨i+1,by omega,by go_num,cL,T6⟩,by simp[intOf];omega⟩
end Go.Proofs.YtchdfdmjihnhkaaGreatDoor
