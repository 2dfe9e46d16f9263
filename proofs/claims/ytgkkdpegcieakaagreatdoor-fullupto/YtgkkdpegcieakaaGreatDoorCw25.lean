import Derived.Test.YtgkkdpegcieakaaGreatDoorCw24
set_option linter.all false
set_option maxRecDepth 100000
set_option maxHeartbeats 16000000
namespace Go.Proofs.YtgkkdpegcieakaaGreatDoor
open Go.Proofs.Tryz
open Value renaming int→Z,slice→J
open Option renaming none→U,some→S
open IntKind renaming i64→Y
open Go renaming World→WR,Value→WS,Calls→WT
section
open Go.RowKit
theorem Jl{X:List Sp.Ed}{a m b:Nat}(h1:a<=m)(h2:m<=b)(l:b<=X.length)(h:¬(a<m/\m<b)):sQ X a m b=X:=by
 apply List.ext_getElem?;intro t;rw[FQ X a m b h1 h2 l t];by_cases e:a<=t/\t<a+(b-m)
 .rw[T0 e];congr 1;omega
 .rw[TZ e];by_cases j:a+(b-m)<=t/\t<b
  .rw[T0 j];congr 1;omega
  .rw[TZ j]
def LS(g cap B N n:Nat):Prop := ∀(a m b:Nat) (X:List Sp.Ed) (w:WR),b-a<=n->X.length=N->w.ownsRow B 162 3 (J (S ⟨g,0,U⟩) N cap) N (dp X)->a<m->m<b->b<=N->Ord X a m->Ord X m b->
  WT prog 223 #[J (S ⟨g,0,U⟩) N cap,Z Y a,Z Y m,Z Y b,.func (.func 106) #[] #[]] w (qZ g cap B N a b X w)
theorem Ec(g cap B a m b N n:Nat)(X:List Sp.Ed)(w:WR)(ih:LS g cap B N n)(hn:b-a<=n+1)(hX:X.length=N)(h:w.ownsRow B 162 3 (J (S ⟨g,0,U⟩) N cap) N (dp X))(aW:a+1<m)(aX:m+1<b)(hb:b<=N)(hl:N<=5000)(aM:Hid (Ord X a m))(aN:Hid (Ord X m b)):WT prog 223 #[J (S ⟨g,0,U⟩) N cap,Z Y a,Z Y m,Z Y b,.func (.func 106) #[] #[]] w (qZ g cap B N a b X w):=by
 have HX:=cT hX;have aG:=cT ih;have aY:IntKind.i64.wrap ((m:Int)-(a:Int))=(m:Int)-(a:Int):=by rw[Uy];omega
 have aS:((m:Int)-(a:Int) == 1)=false:=by rw[Uh];omega
 have aZ:IntKind.i64.wrap ((b:Int)-(m:Int))=(b:Int)-(m:Int):=by rw[Uy];omega
 have aT:((b:Int)-(m:Int) == 1)=false:=by rw[Uh];omega
 obtain⟨A,P⟩:∃A,Hid (A=(a+b)/2):=⟨_,rfl⟩
 obtain⟨nn,ak⟩:∃nn,Hid (nn=A+m):=⟨_,rfl⟩
 obtain⟨p,HP⟩:∃p,Hid (p=A+m-1):=⟨_,rfl⟩
 obtain⟨q,an⟩:∃q,Hid (q=if A<m then A+m-b else a):=⟨_,rfl⟩
 obtain⟨o,ao⟩:∃o,Hid (o=if A<m then A else m):=⟨_,rfl⟩
 have aU:((a:Int)+(b:Int))/2=(A:Int):=by have:=cS P;omega
 have a1:IntKind.i64.wrap ((A:Int)+(m:Int))=(nn:Int):=by have:=cS P;have:=cS ak;rw[Uy];omega
 have hp:IntKind.i64.wrap ((nn:Int)-1)=(p:Int):=by have:=cS P;have:=cS ak;have:=cS HP;rw[Uy];omega
 have ay:q<=o/\a<=q/\o<=m/\p<b+q/\o+m<=p+1/\A<b/\a<A:=by
  have e1:=cS P;have e2:=cS HP;have e3:=cS an;have e4:=cS ao;by_cases c:A<m
  .rw[T0 c] at e3 e4;omega
  .rw[TZ c] at e3 e4;omega
 obtain⟨k1,k2,k3,k4,k5,k6,k7⟩:=ay;clear hX ih;go_enter func223,ntmps223
 go_upto_if 140 with fail
 go_cut [20,21] (λu v Q=>u=Z Y q/\v=Z Y o/\Q=w)
 case first =>
  as_aux_lemma =>
   by_cases c:A<m
   .have cz:(A:Int)<(m:Int):=by omega
    have aH:IntKind.i64.wrap ((nn:Int)-(b:Int))=(q:Int):=by have:=cS P;have:=cS ak;have e3:=cS an;rw[T0 c] at e3;rw[Uy];omega
    have az:o=A:=by have e4:=cS ao;rw[T0 c] at e4;exact e4
    subst az;go_wp2
    go_meet
    exact⟨O,O,O⟩
   .have cz:¬(A:Int)<(m:Int):=by omega
    have az:o=m:=by have e4:=cS ao;rw[TZ c] at e4;exact e4
    have aH:q=a:=by have e4:=cS an;rw[TZ c] at e4;exact e4
    subst az aH;go_wp2
    go_meet
    exact⟨O,O,O⟩
 case rest =>
 obtain⟨rfl,rfl,M⟩:=hcut;obtain rfl:=M.symm;go_wp2
 go_loopw [20,21] (λu v wr=>∃(s r:Nat),u=Z Y s/\v=Z Y r/\q<=s/\s<=r/\r<=o/\wr.ownsRow B 162 3 (J (S ⟨g,0,U⟩) N cap) N (dp X)/\w.grownBy wr (S g)/\Hid (∀x y,q<s->X[s-1]?=S x->X[p-(s-1)]?=S y->¬ot y x)/\Hid (∀x y,r<o->X[r]?=S x->X[p-r]?=S y->ot y x)) (λu v _=>(intOf v-intOf u).toNat)
 case atStart=>exact⟨q,o,rfl,rfl,TY _,k1,TY _,h,iv _ _,λx y h1=>by omega,λx y h1=>by omega⟩
 case round =>
  obtain⟨s,r,rfl,rfl,aI,ay,aJ,ho,aa,aA,aB⟩:=hrel;by_cases a6:s<r
  .have aV:(s:Int)<(r:Int):=by omega
   obtain⟨c,aC⟩:∃c,Hid (c=(s+r)/2):=⟨_,rfl⟩
   obtain⟨T,ab⟩:∃T,Hid (T=p-c):=⟨_,rfl⟩
   have q1:s<=c:=by have:=cS aC;omega
   have q2:c<r:=by have:=cS aC;omega
   have q3:T<b:=by have:=cS ab;omega
   have q4:m<=T:=by have:=cS ab;omega
   have hc:((s:Int)+(r:Int))/2=(c:Int):=by have:=cS aC;omega
   have a7:IntKind.i64.wrap ((p:Int)-(c:Int))=(T:Int):=by have:=cS ab;rw[Uy];omega
   have a8:(c:Int)<(N:Int):=by omega
   have ba:(T:Int)<(N:Int):=by omega
   obtain⟨x1,x0,⟨c0,c1,c2⟩,⟨d0,d1,d2⟩,_,aq⟩:=oV (cS HX) ho T c (by omega) (by omega);obtain⟨cc,aD⟩:∃cc,zr x1 x0=cc:=⟨_,rfl⟩
   have HC:=cT aD;have aE:=cT (uy x1 x0);rw[aD] at aE;clear aD;have I:g<wr.heap.size:=Ui _ _ c0;by_cases aw:cc<0
   .as_aux_lemma =>
     go_wp2_with fail
     go_region_held3 (λV=>(V.cell? ⟨g,T*3,U⟩=S (Z Y (x1.dj:Int))/\V.cell? ⟨g,T*3+1,U⟩=S (Z Y (x1.cR:Int))/\V.cell? ⟨g,T*3+2,U⟩=S (Z Y x1.n))/\(V.cell? ⟨g,c*3,U⟩=S (Z Y (x0.dj:Int))/\V.cell? ⟨g,c*3+1,U⟩=S (Z Y (x0.cR:Int))/\V.cell? ⟨g,c*3+2,U⟩=S (Z Y x0.n)))
      (first|(go_keep;done)|(exact⟨⟨(G.cell (p:=⟨g,_,U⟩) I).trans c0,(G.cell (p:=⟨g,_,U⟩) I).trans c1,(G.cell (p:=⟨g,_,U⟩) I).trans c2⟩,⟨(G.cell (p:=⟨g,_,U⟩) I).trans d0,(G.cell (p:=⟨g,_,U⟩) I).trans d1,(G.cell (p:=⟨g,_,U⟩) I).trans d2⟩⟩))
      (first|(go_at_call 106;refine(gF x1 x0 _).mono ?_;rintro e w2 ⟨rfl,G⟩;rw[cS HC]))
     have ad:WQ wr w2:=WO.drew.trans G;go_wp2;go_roundw
     case rel =>
      refine⟨s,c,O,O,aI,by omega,by omega,dd ho ad,dD aa (fH ad),aA,?_⟩;intro x y h1 hx hy;rw[(cS aq).2] at hx;rw[<-cS ab,(cS aq).1] at hy;injection hx with hx;injection hy with hy;subst hx hy;exact(cS aE).1 aw
     case measure=>simp[intOf];omega
   .as_aux_lemma =>
     go_wp2_with fail
     go_region_held3 (λV=>(V.cell? ⟨g,T*3,U⟩=S (Z Y (x1.dj:Int))/\V.cell? ⟨g,T*3+1,U⟩=S (Z Y (x1.cR:Int))/\V.cell? ⟨g,T*3+2,U⟩=S (Z Y x1.n))/\(V.cell? ⟨g,c*3,U⟩=S (Z Y (x0.dj:Int))/\V.cell? ⟨g,c*3+1,U⟩=S (Z Y (x0.cR:Int))/\V.cell? ⟨g,c*3+2,U⟩=S (Z Y x0.n)))
      (first|(go_keep;done)|(exact⟨⟨(G.cell (p:=⟨g,_,U⟩) I).trans c0,(G.cell (p:=⟨g,_,U⟩) I).trans c1,(G.cell (p:=⟨g,_,U⟩) I).trans c2⟩,⟨(G.cell (p:=⟨g,_,U⟩) I).trans d0,(G.cell (p:=⟨g,_,U⟩) I).trans d1,(G.cell (p:=⟨g,_,U⟩) I).trans d2⟩⟩))
      (first|(go_at_call 106;refine(gF x1 x0 _).mono ?_;rintro e w2 ⟨rfl,G⟩;rw[cS HC]))
     have ad:WQ wr w2:=WO.drew.trans G;go_wp2
     rotate_left
     .rename_i hx;exfalso;simp at hx;omega
     go_roundw
     case rel =>
      refine⟨c+1,r,by go_num,O,by omega,by omega,aJ,dd ho ad,dD aa (fH ad),?_,aB⟩;intro x y h1 hx hy;rw[show c+1-1=c by omega] at hx hy;rw[(cS aq).2] at hx;rw[<-cS ab,(cS aq).1] at hy;injection hx with hx;injection hy with hy;subst hx hy;exact λhq=>(Int.not_lt.2 aw) ((cS aE).2 hq)
     case measure=>simp[intOf];omega
  .as_aux_lemma =>
    obtain rfl:s=r:=by omega
    clear ay;obtain⟨F,aK⟩:∃F,Hid (F=A+m-s):=⟨_,rfl⟩
    have bc:IntKind.i64.wrap ((nn:Int)-(s:Int))=(F:Int):=by have:=cS aK;have:=cS ak;rw[Uy];omega
    have ax:Hid (Cut X (A+m-1) q o s):=⟨aI,aJ,λx y e1 e2 e3=>(cS aA) x y e1 e2 (by rw[cS HP];exact e3),λx y e1 e2 e3=>(cS aB) x y e1 e2 (by rw[cS HP];exact e3)⟩
    obtain⟨R,HR⟩:∃R,Hid (R=sQ X s m F):=⟨_,rfl⟩
    have C:=cT (Hs (by omega) (by omega) (by rw[cS HX];exact hb) (cS P) (cS an) (cS ao) (cS aM) (cS aN) (cS ax));rw[<-cS aK,<-cS HR] at C;have aF:Hid (R.length=N):=by show _=_;rw[(cS C).2.2.2.2.2.2.1.1];exact cS HX
    have b1:=(cS C).1;have b2:=(cS C).2.1;have b3:=(cS C).2.2.1;have b4:=(cS C).2.2.2.1;have b5:=(cS C).2.2.2.2.1;have b6:=(cS C).2.2.2.2.2.1;clear aA aB ax h;obtain⟨z1,ae⟩:∃z:Bool,Hid (z=decide (s<m/\m<F)):=⟨_,rfl⟩
    go_upto_region 39 with fail
    go_cut [185] (λt Q=>t=.bool z1/\Q=wr)
    case first =>
     as_aux_lemma =>
      by_cases y1:s<m
      .have af:(s:Int)<(m:Int):=by omega
       by_cases y2:m<F
       .have ag:(m:Int)<(F:Int):=by omega
        go_wp2
        go_meet
        exact⟨by rw[cS ae,UH (⟨y1,y2⟩:s<m/\m<F)],O⟩
       .have ag:¬(m:Int)<(F:Int):=by omega
        go_wp2
        go_meet
        exact⟨by rw[cS ae,Uu (λL:s<m/\m<F=>y2 L.2)],O⟩
      .have af:¬(s:Int)<(m:Int):=by omega
       go_wp2
       go_meet
       exact⟨by rw[cS ae,Uu (λL:s<m/\m<F=>y1 L.1)],O⟩
    case rest =>
    obtain⟨rfl,M⟩:=hcut;obtain rfl:=M.symm;clear M
    go_upto_if 185 with fail
    go_cut [] (λQ=>Q.ownsRow B 162 3 (J (S ⟨g,0,U⟩) N cap) N (dp R)/\w.grownBy Q (S g))
    case first =>
     as_aux_lemma =>
      cases z1 with
      |true =>
       have L:s<m/\m<F:=VI (cS ae).symm;go_wp2_with (go_at_call 241;refine(D3 g cap B s m F N X _ _ (cS HX) ho L.1 L.2 (by omega) hl).mono ?_;rintro e w2 ⟨rfl,W,ah⟩;rw[<-cS HR] at W)
       go_meet
       exact⟨W,dD aa ah⟩
      |false =>
       have L:¬(s<m/\m<F):=of_decide_eq_false (cS ae).symm;go_wp2
       go_meet
       exact⟨by rw[cS HR,Jl b2 b3 (by rw[cS HX];omega) L];exact ho,aa⟩
    case rest =>
    as_aux_lemma =>
     obtain⟨W,ah⟩:=hcut;clear ho aa;obtain⟨z2,ai⟩:∃z:Bool,Hid (z=decide (a<s/\s<A)):=⟨_,rfl⟩
     go_upto_region 41 with fail
     go_cut [199] (λt Q=>t=.bool z2/\Q=wc)
     case first =>
      as_aux_lemma =>
       by_cases y1:a<s
       .have af:(a:Int)<(s:Int):=by omega
        by_cases y2:s<A
        .have ag:(s:Int)<(A:Int):=by omega
         go_wp2
         go_meet
         exact⟨by rw[cS ai,UH (⟨y1,y2⟩:a<s/\s<A)],O⟩
        .have ag:¬(s:Int)<(A:Int):=by omega
         go_wp2
         go_meet
         exact⟨by rw[cS ai,Uu (λL:a<s/\s<A=>y2 L.2)],O⟩
       .have af:¬(a:Int)<(s:Int):=by omega
        go_wp2
        go_meet
        exact⟨by rw[cS ai,Uu (λL:a<s/\s<A=>y1 L.1)],O⟩
     case rest =>
     obtain⟨rfl,M⟩:=hcut;obtain rfl:=M.symm;clear M
     go_upto_if 199 with fail
     go_cut [] (λQ=>∃j,Q.ownsRow B 162 3 (J (S ⟨g,0,U⟩) N cap) N (dp j)/\w.grownBy Q (S g)/\Hid (j.length=N)/\Hid (Kz R j a A))
     case first =>
      as_aux_lemma =>
       cases z2 with
       |true =>
        have L:a<s/\s<A:=VI (cS ai).symm;go_wp2_with (go_at_call 223;refine((cS aG) a s A R _ (by omega) (cS aF) W L.1 L.2 (by omega) (cS C).2.2.2.2.2.2.2.1 (cS C).2.2.2.2.2.2.2.2.1).mono ?_;rintro e w3 ⟨rfl,j,ar,au,aL⟩)
        go_meet
        exact⟨j,ar,dD ah au,aL.1.1.trans (cS aF),aL⟩
       |false =>
        have L:¬(a<s/\s<A):=of_decide_eq_false (cS ai).symm;go_wp2
        go_meet
        exact⟨R,W,ah,aF,Kz.refl (CG (by omega) (cS C).2.2.2.2.2.2.2.1 (cS C).2.2.2.2.2.2.2.2.1)⟩
     case rest =>
     as_aux_lemma =>
      obtain⟨j,ar,au,aO,av⟩:=hcut;clear W ah;obtain⟨z3,aj⟩:∃z:Bool,Hid (z=decide (A<F/\F<b)):=⟨_,rfl⟩
      go_upto_region 43 with fail
      go_cut [213] (λt Q=>t=.bool z3/\Q=wc)
      case first =>
       as_aux_lemma =>
        by_cases y1:A<F
        .have af:(A:Int)<(F:Int):=by omega
         by_cases y2:F<b
         .have ag:(F:Int)<(b:Int):=by omega
          go_wp2
          go_meet
          exact⟨by rw[cS aj,UH (⟨y1,y2⟩:A<F/\F<b)],O⟩
         .have ag:¬(F:Int)<(b:Int):=by omega
          go_wp2
          go_meet
          exact⟨by rw[cS aj,Uu (λL:A<F/\F<b=>y2 L.2)],O⟩
        .have af:¬(A:Int)<(F:Int):=by omega
         go_wp2
         go_meet
         exact⟨by rw[cS aj,Uu (λL:A<F/\F<b=>y1 L.1)],O⟩
      case rest =>
      obtain⟨rfl,M⟩:=hcut;obtain rfl:=M.symm;clear M;have o3:=cT (wg (cS av).2.2.1 (cS C).2.2.2.2.2.2.2.2.2.1 (Or.inr WN));have o4:=cT (wg (cS av).2.2.1 (cS C).2.2.2.2.2.2.2.2.2.2.1 (Or.inr b6));cases z3 with
      |true =>
       have L:A<F/\F<b:=VI (cS aj).symm;go_wp2_with (go_at_call 223;refine((cS aG) A F b j _ (by omega) (cS aO) ar L.1 L.2 hb (cS o3) (cS o4)).mono ?_;rintro e w4 ⟨rfl,l,aP,aQ,aR⟩)
       go_end0
       exact⟨O,l,aP,dD au aQ,yc (by omega) (by omega) (cS C).2.2.2.2.2.2.1 (cS C).2.2.2.2.2.2.2.2.2.2.2.2.1 (cS C).2.2.2.2.2.2.2.2.2.2.2.2.2 (cS C).2.2.2.2.2.2.2.2.2.2.2.1 (cS av) aR⟩
      |false =>
       have L:¬(A<F/\F<b):=of_decide_eq_false (cS aj).symm;go_wp2
       go_end0
       exact⟨O,j,ar,au,yc (by omega) (by omega) (cS C).2.2.2.2.2.2.1 (cS C).2.2.2.2.2.2.2.2.2.2.2.2.1 (cS C).2.2.2.2.2.2.2.2.2.2.2.2.2 (cS C).2.2.2.2.2.2.2.2.2.2.2.1 (cS av) (Kz.refl (CG (by omega) (cS o3) (cS o4)))⟩
theorem sd(g cap B N:Nat)(j:N<=5000):∀n,LS g cap B N n
 |0=>λa m b X w A l h u e r y z=>by omega
 |n+1=>λa m b X w A l h u e r y z=>by
  by_cases C:m=a+1
  .exact CS g cap B a m b N X w l h C e r j z
  .by_cases F:b=m+1
   .exact Bo g cap B a m b N X w l h (by omega) F r j y
   .exact Ec g cap B a m b N n X w (sd g cap B N j n) A l h (by omega) (by omega) r j y z
end
end Go.Proofs.YtgkkdpegcieakaaGreatDoor
