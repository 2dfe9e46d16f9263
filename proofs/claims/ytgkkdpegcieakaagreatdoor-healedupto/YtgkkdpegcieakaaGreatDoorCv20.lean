import Derived.Test.YtgkkdpegcieakaaGreatDoorCv03
set_option linter.all false
set_option maxRecDepth 100000
set_option maxHeartbeats 0
namespace Go.Proofs.YtgkkdpegcieakaaGreatDoor
open Go.Proofs.Tryz
open Value renaming int→Z,slice→J
open Option renaming none→U,some→S
open IntKind renaming i64→Y
open Go renaming World→V5,Value→V6,Calls→V7
section
open Go.RowKit
theorem Jd{X:List Sp.Ed}{a m b:Nat}(h1:a<=m)(h2:m<=b)(l:b<=X.length)(h:¬(a<m/\m<b)):sA X a m b=X:=by
 apply List.ext_getElem?;intro t;rw[ED X a m b h1 h2 l t];by_cases e:a<=t/\t<a+(b-m)
 .rw[Tg e];congr 1;omega
 .rw[Tf e];by_cases j:a+(b-m)<=t/\t<b
  .rw[Tg j];congr 1;omega
  .rw[Tf j]
def Ia(g cap B N n:Nat):Prop := ∀(a m b:Nat) (X:List Sp.Ed) (w:V5),b-a<=n->X.length=N->w.ownsRow B 162 3 (J (S ⟨g,0,U⟩) N cap) N (dq X)->a<m->m<b->b<=N->Ord X a m->Ord X m b->
  V7 prog 223 #[J (S ⟨g,0,U⟩) N cap,Z Y a,Z Y m,Z Y b,.func (.func 106) #[] #[]] w (ri g cap B N a b X w)
theorem CL(g cap B a m b N n:Nat)(X:List Sp.Ed)(w:V5)(ih:Ia g cap B N n)(hn:b-a<=n+1)(hX:X.length=N)(h:w.ownsRow B 162 3 (J (S ⟨g,0,U⟩) N cap) N (dq X))(aW:a+1<m)(aX:m+1<b)(hb:b<=N)(hl:N<=5000)(aM:Hid (Ord X a m))(aN:Hid (Ord X m b)):V7 prog 223 #[J (S ⟨g,0,U⟩) N cap,Z Y a,Z Y m,Z Y b,.func (.func 106) #[] #[]] w (ri g cap B N a b X w):=by
 have HX:=cU hX;have aG:=cU ih;have aY:IntKind.i64.wrap ((m:Int)-(a:Int))=(m:Int)-(a:Int):=by rw[TJ];omega
 have aS:((m:Int)-(a:Int) == 1)=false:=by rw[Tt];omega
 have aZ:IntKind.i64.wrap ((b:Int)-(m:Int))=(b:Int)-(m:Int):=by rw[TJ];omega
 have aT:((b:Int)-(m:Int) == 1)=false:=by rw[Tt];omega
 obtain⟨A,M⟩:∃A,Hid (A=(a+b)/2):=⟨_,rfl⟩
 obtain⟨nn,ak⟩:∃nn,Hid (nn=A+m):=⟨_,rfl⟩
 obtain⟨p,HP⟩:∃p,Hid (p=A+m-1):=⟨_,rfl⟩
 obtain⟨W,an⟩:∃W,Hid (W=if A<m then A+m-b else a):=⟨_,rfl⟩
 obtain⟨q,ao⟩:∃q,Hid (q=if A<m then A else m):=⟨_,rfl⟩
 have aU:((a:Int)+(b:Int))/2=(A:Int):=by have:=cT M;omega
 have a1:IntKind.i64.wrap ((A:Int)+(m:Int))=(nn:Int):=by have:=cT M;have:=cT ak;rw[TJ];omega
 have hp:IntKind.i64.wrap ((nn:Int)-1)=(p:Int):=by have:=cT M;have:=cT ak;have:=cT HP;rw[TJ];omega
 have ay:W<=q/\a<=W/\q<=m/\p<b+W/\q+m<=p+1/\A<b/\a<A:=by
  have e1:=cT M;have e2:=cT HP;have e3:=cT an;have e4:=cT ao;by_cases c:A<m
  .rw[Tg c] at e3 e4;omega
  .rw[Tf c] at e3 e4;omega
 obtain⟨k1,k2,k3,k4,k5,k6,k7⟩:=ay;clear hX ih;go_enter func223,ntmps223
 go_upto_if 140 with fail
 go_cut [20,21] (λu v P=>u=Z Y W/\v=Z Y q/\P=w)
 case first =>
  as_aux_lemma =>
   by_cases c:A<m
   .have cz:(A:Int)<(m:Int):=by omega
    have aH:IntKind.i64.wrap ((nn:Int)-(b:Int))=(W:Int):=by have:=cT M;have:=cT ak;have e3:=cT an;rw[Tg c] at e3;rw[TJ];omega
    have az:q=A:=by have e4:=cT ao;rw[Tg c] at e4;exact e4
    subst az;go_wp2
    go_meet
    exact⟨O,O,O⟩
   .have cz:¬(A:Int)<(m:Int):=by omega
    have az:q=m:=by have e4:=cT ao;rw[Tf c] at e4;exact e4
    have aH:W=a:=by have e4:=cT an;rw[Tf c] at e4;exact e4
    subst az aH;go_wp2
    go_meet
    exact⟨O,O,O⟩
 case rest =>
 obtain⟨rfl,rfl,L⟩:=hcut;obtain rfl:=L.symm;go_wp2
 go_loopw [20,21] (λu v wr=>∃(s r:Nat),u=Z Y s/\v=Z Y r/\W<=s/\s<=r/\r<=q/\wr.ownsRow B 162 3 (J (S ⟨g,0,U⟩) N cap) N (dq X)/\w.grownBy wr (S g)/\Hid (∀x y,W<s->X[s-1]?=S x->X[p-(s-1)]?=S y->¬ou y x)/\Hid (∀x y,r<q->X[r]?=S x->X[p-r]?=S y->ou y x)) (λu v _=>(intOf v-intOf u).toNat)
 case atStart=>exact⟨W,q,rfl,rfl,Te _,k1,Te _,h,ig _ _,λx y h1=>by omega,λx y h1=>by omega⟩
 case round =>
  obtain⟨s,r,rfl,rfl,aI,ay,aJ,ho,aa,aA,aB⟩:=hrel;by_cases a6:s<r
  .have aV:(s:Int)<(r:Int):=by omega
   obtain⟨c,aC⟩:∃c,Hid (c=(s+r)/2):=⟨_,rfl⟩
   obtain⟨Q,ab⟩:∃Q,Hid (Q=p-c):=⟨_,rfl⟩
   have q1:s<=c:=by have:=cT aC;omega
   have q2:c<r:=by have:=cT aC;omega
   have q3:Q<b:=by have:=cT ab;omega
   have q4:m<=Q:=by have:=cT ab;omega
   have hc:((s:Int)+(r:Int))/2=(c:Int):=by have:=cT aC;omega
   have a7:IntKind.i64.wrap ((p:Int)-(c:Int))=(Q:Int):=by have:=cT ab;rw[TJ];omega
   have a8:(c:Int)<(N:Int):=by omega
   have ba:(Q:Int)<(N:Int):=by omega
   obtain⟨x1,x0,⟨c0,c1,c2⟩,⟨d0,d1,d2⟩,_,aq⟩:=oz (cT HX) ho Q c (by omega) (by omega);obtain⟨cc,aD⟩:∃cc,zi x1 x0=cc:=⟨_,rfl⟩
   have HC:=cU aD;have aE:=cU (uo x1 x0);rw[aD] at aE;clear aD;have I:g<wr.heap.size:=Tu _ _ c0;by_cases aw:cc<0
   .as_aux_lemma =>
     go_wp2_with fail
     go_region_held3 (λT=>(T.cell? ⟨g,Q*3,U⟩=S (Z Y (x1.dp:Int))/\T.cell? ⟨g,Q*3+1,U⟩=S (Z Y (x1.cS:Int))/\T.cell? ⟨g,Q*3+2,U⟩=S (Z Y x1.n))/\(T.cell? ⟨g,c*3,U⟩=S (Z Y (x0.dp:Int))/\T.cell? ⟨g,c*3+1,U⟩=S (Z Y (x0.cS:Int))/\T.cell? ⟨g,c*3+2,U⟩=S (Z Y x0.n)))
      (first|(go_keep;done)|(exact⟨⟨(G.cell (p:=⟨g,_,U⟩) I).trans c0,(G.cell (p:=⟨g,_,U⟩) I).trans c1,(G.cell (p:=⟨g,_,U⟩) I).trans c2⟩,⟨(G.cell (p:=⟨g,_,U⟩) I).trans d0,(G.cell (p:=⟨g,_,U⟩) I).trans d1,(G.cell (p:=⟨g,_,U⟩) I).trans d2⟩⟩))
      (first|(go_at_call 106;refine(gD x1 x0 _).mono ?_;rintro e w2 ⟨rfl,G⟩;rw[cT HC]))
     have ad:V4 wr w2:=V3.drew.trans G;go_wp2;go_roundw
     case rel =>
      refine⟨s,c,O,O,aI,by omega,by omega,de ho ad,dC aa (fI ad),aA,?_⟩;intro x y h1 o hy;rw[(cT aq).2] at o;rw[<-cT ab,(cT aq).1] at hy;injection o with o;injection hy with hy;subst o hy;exact(cT aE).1 aw
     case measure=>simp[intOf];omega
   .as_aux_lemma =>
     go_wp2_with fail
     go_region_held3 (λT=>(T.cell? ⟨g,Q*3,U⟩=S (Z Y (x1.dp:Int))/\T.cell? ⟨g,Q*3+1,U⟩=S (Z Y (x1.cS:Int))/\T.cell? ⟨g,Q*3+2,U⟩=S (Z Y x1.n))/\(T.cell? ⟨g,c*3,U⟩=S (Z Y (x0.dp:Int))/\T.cell? ⟨g,c*3+1,U⟩=S (Z Y (x0.cS:Int))/\T.cell? ⟨g,c*3+2,U⟩=S (Z Y x0.n)))
      (first|(go_keep;done)|(exact⟨⟨(G.cell (p:=⟨g,_,U⟩) I).trans c0,(G.cell (p:=⟨g,_,U⟩) I).trans c1,(G.cell (p:=⟨g,_,U⟩) I).trans c2⟩,⟨(G.cell (p:=⟨g,_,U⟩) I).trans d0,(G.cell (p:=⟨g,_,U⟩) I).trans d1,(G.cell (p:=⟨g,_,U⟩) I).trans d2⟩⟩))
      (first|(go_at_call 106;refine(gD x1 x0 _).mono ?_;rintro e w2 ⟨rfl,G⟩;rw[cT HC]))
     have ad:V4 wr w2:=V3.drew.trans G;go_wp2
     rotate_left
     .rename_i o;exfalso;simp at o;omega
     go_roundw
     case rel =>
      refine⟨c+1,r,by go_num,O,by omega,by omega,aJ,de ho ad,dC aa (fI ad),?_,aB⟩;intro x y h1 o hy;rw[show c+1-1=c by omega] at o hy;rw[(cT aq).2] at o;rw[<-cT ab,(cT aq).1] at hy;injection o with o;injection hy with hy;subst o hy;exact λhq=>(Int.not_lt.2 aw) ((cT aE).2 hq)
     case measure=>simp[intOf];omega
  .as_aux_lemma =>
    obtain rfl:s=r:=by omega
    clear ay;obtain⟨F,aK⟩:∃F,Hid (F=A+m-s):=⟨_,rfl⟩
    have bc:IntKind.i64.wrap ((nn:Int)-(s:Int))=(F:Int):=by have:=cT aK;have:=cT ak;rw[TJ];omega
    have ax:Hid (Cut X (A+m-1) W q s):=⟨aI,aJ,λx y e1 e2 e3=>(cT aA) x y e1 e2 (by rw[cT HP];exact e3),λx y e1 e2 e3=>(cT aB) x y e1 e2 (by rw[cT HP];exact e3)⟩
    obtain⟨R,HR⟩:∃R,Hid (R=sA X s m F):=⟨_,rfl⟩
    have C:=cU (Hh (by omega) (by omega) (by rw[cT HX];exact hb) (cT M) (cT an) (cT ao) (cT aM) (cT aN) (cT ax));rw[<-cT aK,<-cT HR] at C;have aF:Hid (R.length=N):=by show _=_;rw[(cT C).2.2.2.2.2.2.1.1];exact cT HX
    have b1:=(cT C).1;have b2:=(cT C).2.1;have b3:=(cT C).2.2.1;have b4:=(cT C).2.2.2.1;have b5:=(cT C).2.2.2.2.1;have b6:=(cT C).2.2.2.2.2.1;clear aA aB ax h;obtain⟨z1,ae⟩:∃z:Bool,Hid (z=decide (s<m/\m<F)):=⟨_,rfl⟩
    go_upto_region 39 with fail
    go_cut [185] (λt P=>t=.bool z1/\P=wr)
    case first =>
     as_aux_lemma =>
      by_cases y1:s<m
      .have af:(s:Int)<(m:Int):=by omega
       by_cases y2:m<F
       .have ag:(m:Int)<(F:Int):=by omega
        go_wp2
        go_meet
        exact⟨by rw[cT ae,TU (⟨y1,y2⟩:s<m/\m<F)],O⟩
       .have ag:¬(m:Int)<(F:Int):=by omega
        go_wp2
        go_meet
        exact⟨by rw[cT ae,TE (λK:s<m/\m<F=>y2 K.2)],O⟩
      .have af:¬(s:Int)<(m:Int):=by omega
       go_wp2
       go_meet
       exact⟨by rw[cT ae,TE (λK:s<m/\m<F=>y1 K.1)],O⟩
    case rest =>
    obtain⟨rfl,L⟩:=hcut;obtain rfl:=L.symm;clear L
    go_upto_if 185 with fail
    go_cut [] (λP=>P.ownsRow B 162 3 (J (S ⟨g,0,U⟩) N cap) N (dq R)/\w.grownBy P (S g))
    case first =>
     as_aux_lemma =>
      cases z1 with
      |true =>
       have K:s<m/\m<F:=Vm (cT ae).symm;go_wp2_with (go_at_call 241;refine(Dz g cap B s m F N X _ _ (cT HX) ho K.1 K.2 (by omega) hl).mono ?_;rintro e w2 ⟨rfl,V,ah⟩;rw[<-cT HR] at V)
       go_meet
       exact⟨V,dC aa ah⟩
      |false =>
       have K:¬(s<m/\m<F):=of_decide_eq_false (cT ae).symm;go_wp2
       go_meet
       exact⟨by rw[cT HR,Jd b2 b3 (by rw[cT HX];omega) K];exact ho,aa⟩
    case rest =>
    as_aux_lemma =>
     obtain⟨V,ah⟩:=hcut;clear ho aa;obtain⟨z2,ai⟩:∃z:Bool,Hid (z=decide (a<s/\s<A)):=⟨_,rfl⟩
     go_upto_region 41 with fail
     go_cut [199] (λt P=>t=.bool z2/\P=wc)
     case first =>
      as_aux_lemma =>
       by_cases y1:a<s
       .have af:(a:Int)<(s:Int):=by omega
        by_cases y2:s<A
        .have ag:(s:Int)<(A:Int):=by omega
         go_wp2
         go_meet
         exact⟨by rw[cT ai,TU (⟨y1,y2⟩:a<s/\s<A)],O⟩
        .have ag:¬(s:Int)<(A:Int):=by omega
         go_wp2
         go_meet
         exact⟨by rw[cT ai,TE (λK:a<s/\s<A=>y2 K.2)],O⟩
       .have af:¬(a:Int)<(s:Int):=by omega
        go_wp2
        go_meet
        exact⟨by rw[cT ai,TE (λK:a<s/\s<A=>y1 K.1)],O⟩
     case rest =>
     obtain⟨rfl,L⟩:=hcut;obtain rfl:=L.symm;clear L
     go_upto_if 199 with fail
     go_cut [] (λP=>∃j,P.ownsRow B 162 3 (J (S ⟨g,0,U⟩) N cap) N (dq j)/\w.grownBy P (S g)/\Hid (j.length=N)/\Hid (Ju R j a A))
     case first =>
      as_aux_lemma =>
       cases z2 with
       |true =>
        have K:a<s/\s<A:=Vm (cT ai).symm;go_wp2_with (go_at_call 223;refine((cT aG) a s A R _ (by omega) (cT aF) V K.1 K.2 (by omega) (cT C).2.2.2.2.2.2.2.1 (cT C).2.2.2.2.2.2.2.2.1).mono ?_;rintro e w3 ⟨rfl,j,ar,au,aL⟩)
        go_meet
        exact⟨j,ar,dC ah au,aL.1.1.trans (cT aF),aL⟩
       |false =>
        have K:¬(a<s/\s<A):=of_decide_eq_false (cT ai).symm;go_wp2
        go_meet
        exact⟨R,V,ah,aF,Ju.refl (BU (by omega) (cT C).2.2.2.2.2.2.2.1 (cT C).2.2.2.2.2.2.2.2.1)⟩
     case rest =>
     as_aux_lemma =>
      obtain⟨j,ar,au,aO,av⟩:=hcut;clear V ah;obtain⟨z3,aj⟩:∃z:Bool,Hid (z=decide (A<F/\F<b)):=⟨_,rfl⟩
      go_upto_region 43 with fail
      go_cut [213] (λt P=>t=.bool z3/\P=wc)
      case first =>
       as_aux_lemma =>
        by_cases y1:A<F
        .have af:(A:Int)<(F:Int):=by omega
         by_cases y2:F<b
         .have ag:(F:Int)<(b:Int):=by omega
          go_wp2
          go_meet
          exact⟨by rw[cT aj,TU (⟨y1,y2⟩:A<F/\F<b)],O⟩
         .have ag:¬(F:Int)<(b:Int):=by omega
          go_wp2
          go_meet
          exact⟨by rw[cT aj,TE (λK:A<F/\F<b=>y2 K.2)],O⟩
        .have af:¬(A:Int)<(F:Int):=by omega
         go_wp2
         go_meet
         exact⟨by rw[cT aj,TE (λK:A<F/\F<b=>y1 K.1)],O⟩
      case rest =>
      obtain⟨rfl,L⟩:=hcut;obtain rfl:=L.symm;clear L;have o3:=cU (uV (cT av).2.2.1 (cT C).2.2.2.2.2.2.2.2.2.1 (Or.inr V2));have o4:=cU (uV (cT av).2.2.1 (cT C).2.2.2.2.2.2.2.2.2.2.1 (Or.inr b6));cases z3 with
      |true =>
       have K:A<F/\F<b:=Vm (cT aj).symm;go_wp2_with (go_at_call 223;refine((cT aG) A F b j _ (by omega) (cT aO) ar K.1 K.2 hb (cT o3) (cT o4)).mono ?_;rintro e w4 ⟨rfl,l,aP,aQ,aR⟩)
       go_end0
       exact⟨O,l,aP,dC au aQ,xo (by omega) (by omega) (cT C).2.2.2.2.2.2.1 (cT C).2.2.2.2.2.2.2.2.2.2.2.2.1 (cT C).2.2.2.2.2.2.2.2.2.2.2.2.2 (cT C).2.2.2.2.2.2.2.2.2.2.2.1 (cT av) aR⟩
      |false =>
       have K:¬(A<F/\F<b):=of_decide_eq_false (cT aj).symm;go_wp2
       go_end0
       exact⟨O,j,ar,au,xo (by omega) (by omega) (cT C).2.2.2.2.2.2.1 (cT C).2.2.2.2.2.2.2.2.2.2.2.2.1 (cT C).2.2.2.2.2.2.2.2.2.2.2.2.2 (cT C).2.2.2.2.2.2.2.2.2.2.2.1 (cT av) (Ju.refl (BU (by omega) (cT o3) (cT o4)))⟩
theorem qR(g cap B N:Nat)(j:N<=5000):∀n,Ia g cap B N n
 |0=>λa m b X w A l h u e r y z=>by omega
 |n+1=>λa m b X w A l h u e r y z=>by
  by_cases C:m=a+1
  .exact CX g cap B a m b N X w l h C e r j z
  .by_cases F:b=m+1
   .exact AG g cap B a m b N X w l h (by omega) F r j y
   .exact CL g cap B a m b N n X w (qR g cap B N j n) A l h (by omega) (by omega) r j y z
end
end Go.Proofs.YtgkkdpegcieakaaGreatDoor
