import Derived.Test.YtgkkdpegcieakaaGreatDoorCz22
set_option linter.unusedVariables false
set_option linter.unusedSimpArgs false
set_option maxRecDepth 100000
set_option maxHeartbeats 16000000
namespace Go.Proofs.YtgkkdpegcieakaaGreatDoor
open Go.Proofs.Tryz
open Value renaming int→Z
open IntKind renaming i64→Y
open Go renaming World→TJ,Value→TK,Calls→TL
section
open Go.RowKit
theorem Hs{X:List Sp.Ed}{a m b:Nat}(h1:a<=m)(h2:m<=b)(l:b<=X.length)(h:¬(a<m/\m<b)):sL X a m b=X:=by
 apply List.ext_getElem?;intro t;rw[Dp X a m b h1 h2 l t];by_cases e:a<=t/\t<a+(b-m)
 .rw[cg e];congr 1;omega
 .rw[cd e];by_cases j:a+(b-m)<=t/\t<b
  .rw[cg j];congr 1;omega
  .rw[cd j]
def JZ(g cap B N n:Nat):Prop := ∀(a m b:Nat) (X:List Sp.Ed) (w:TJ),b-a<=n->X.length=N->w.ownsRow B 162 3 (.slice (some ⟨g,0,none⟩) N cap) N (dh X)->a<m->m<b->b<=N->Ord X a m->Ord X m b->
  TL prog 223 #[.slice (some ⟨g,0,none⟩) N cap,Z Y a,Z Y m,Z Y b,.func (.func 106) #[] #[]] w (qS g cap B N a b X w)
theorem B8(g cap B a m b N n:Nat)(X:List Sp.Ed)(w:TJ)(ih:JZ g cap B N n)(hn:b-a<=n+1)(hX:X.length=N)(h:w.ownsRow B 162 3 (.slice (some ⟨g,0,none⟩) N cap) N (dh X))(aQ:a+1<m)(aR:m+1<b)(hb:b<=N)(hl:N<=5000)(aG:Hid (Ord X a m))(aH:Hid (Ord X m b)):TL prog 223 #[.slice (some ⟨g,0,none⟩) N cap,Z Y a,Z Y m,Z Y b,.func (.func 106) #[] #[]] w (qS g cap B N a b X w):=by
 have HX:=cP hX;have aA:=cP ih;have aS:IntKind.i64.wrap ((m:Int)-(a:Int))=(m:Int)-(a:Int):=by rw[fp];omega
 have aM:((m:Int)-(a:Int) == 1)=false:=by rw[cC];omega
 have aT:IntKind.i64.wrap ((b:Int)-(m:Int))=(b:Int)-(m:Int):=by rw[fp];omega
 have aN:((b:Int)-(m:Int) == 1)=false:=by rw[cC];omega
 obtain⟨A,I⟩:∃A,Hid (A=(a+b)/2):=⟨_,rfl⟩
 obtain⟨nn,ae⟩:∃nn,Hid (nn=A+m):=⟨_,rfl⟩
 obtain⟨p,HP⟩:∃p,Hid (p=A+m-1):=⟨_,rfl⟩
 obtain⟨O,af⟩:∃O,Hid (O=if A<m then A+m-b else a):=⟨_,rfl⟩
 obtain⟨P,ag⟩:∃P,Hid (P=if A<m then A else m):=⟨_,rfl⟩
 have aO:((a:Int)+(b:Int))/2=(A:Int):=by have:=cO I;omega
 have aU:IntKind.i64.wrap ((A:Int)+(m:Int))=(nn:Int):=by have:=cO I;have:=cO ae;rw[fp];omega
 have hp:IntKind.i64.wrap ((nn:Int)-1)=(p:Int):=by have:=cO I;have:=cO ae;have:=cO HP;rw[fp];omega
 have aq:O<=P/\a<=O/\P<=m/\p<b+O/\P+m<=p+1/\A<b/\a<A:=by
  have e1:=cO I;have e2:=cO HP;have e3:=cO af;have S:=cO ag;by_cases c:A<m
  .rw[cg c] at e3 S;omega
  .rw[cd c] at e3 S;omega
 obtain⟨k1,k2,k3,k4,k5,k6,k7⟩:=aq;clear hX ih;go_enter func223,ntmps223
 go_upto_if 140 with fail
 go_cut [20,21] (λu v J=>u=Z Y O/\v=Z Y P/\J=w)
 case first =>
  as_aux_lemma =>
   by_cases c:A<m
   .have cz:(A:Int)<(m:Int):=by omega
    have aB:IntKind.i64.wrap ((nn:Int)-(b:Int))=(O:Int):=by have:=cO I;have:=cO ae;have e3:=cO af;rw[cg c] at e3;rw[fp];omega
    have ar:P=A:=by have S:=cO ag;rw[cg c] at S;exact S
    subst ar;go_wp2
    go_meet
    exact⟨rfl,rfl,rfl⟩
   .have cz:¬(A:Int)<(m:Int):=by omega
    have ar:P=m:=by have S:=cO ag;rw[cd c] at S;exact S
    have aB:O=a:=by have S:=cO af;rw[cd c] at S;exact S
    subst ar aB;go_wp2
    go_meet
    exact⟨rfl,rfl,rfl⟩
 case rest =>
 obtain⟨rfl,rfl,H⟩:=hcut;obtain rfl:=H.symm;go_wp2
 go_loopw [20,21] (λu v wr=>∃(s r:Nat),u=Z Y s/\v=Z Y r/\O<=s/\s<=r/\r<=P/\wr.ownsRow B 162 3 (.slice (some ⟨g,0,none⟩) N cap) N (dh X)/\w.grownBy wr (some g)/\Hid (∀x y,O<s->X[s-1]?=some x->X[p-(s-1)]?=some y->¬ou y x)/\Hid (∀x y,r<P->X[r]?=some x->X[p-r]?=some y->ou y x)) (λu v _=>(intOf v-intOf u).toNat)
 case atStart=>exact⟨O,P,rfl,rfl,b7 _,k1,b7 _,h,iv _ _,λx y h1=>by omega,λx y h1=>by omega⟩
 case round =>
  obtain⟨s,r,rfl,rfl,aC,aq,aD,ho,T,au,av⟩:=hrel;by_cases aV:s<r
  .have aP:(s:Int)<(r:Int):=by omega
   obtain⟨c,aw⟩:∃c,Hid (c=(s+r)/2):=⟨_,rfl⟩
   obtain⟨K,U⟩:∃K,Hid (K=p-c):=⟨_,rfl⟩
   have q1:s<=c:=by have:=cO aw;omega
   have q2:c<r:=by have:=cO aw;omega
   have q3:K<b:=by have:=cO U;omega
   have q4:m<=K:=by have:=cO U;omega
   have hc:((s:Int)+(r:Int))/2=(c:Int):=by have:=cO aw;omega
   have aW:IntKind.i64.wrap ((p:Int)-(c:Int))=(K:Int):=by have:=cO U;rw[fp];omega
   have aX:(c:Int)<(N:Int):=by omega
   have aY:(K:Int)<(N:Int):=by omega
   obtain⟨x1,x0,⟨c0,c1,c2⟩,⟨d0,d1,d2⟩,_,ah⟩:=o7 (cO HX) ho K c (by omega) (by omega);obtain⟨cc,ax⟩:∃cc,yk x1 x0=cc:=⟨_,rfl⟩
   have HC:=cP ax;have ay:=cP (uc x1 x0);rw[ax] at ay;clear ax;have F:g<wr.heap.size:=cE _ _ c0;by_cases an:cc<0
   .as_aux_lemma =>
     go_wp2_with fail
     go_region_held3 (λL=>(L.cell? ⟨g,K*3,none⟩=some (Z Y (x1.de:Int))/\L.cell? ⟨g,K*3+1,none⟩=some (Z Y (x1.vo:Int))/\L.cell? ⟨g,K*3+2,none⟩=some (Z Y x1.n))/\(L.cell? ⟨g,c*3,none⟩=some (Z Y (x0.de:Int))/\L.cell? ⟨g,c*3+1,none⟩=some (Z Y (x0.vo:Int))/\L.cell? ⟨g,c*3+2,none⟩=some (Z Y x0.n)))
      (first|(go_keep;done)|(exact⟨⟨(E.cell (p:=⟨g,_,none⟩) F).trans c0,(E.cell (p:=⟨g,_,none⟩) F).trans c1,(E.cell (p:=⟨g,_,none⟩) F).trans c2⟩,⟨(E.cell (p:=⟨g,_,none⟩) F).trans d0,(E.cell (p:=⟨g,_,none⟩) F).trans d1,(E.cell (p:=⟨g,_,none⟩) F).trans d2⟩⟩))
      (first|(go_at_call 106;refine(gA x1 x0 _).mono ?_;rintro e w2 ⟨rfl,E⟩;rw[cO HC]))
     have V:TI wr w2:=TH.drew.trans E;go_wp2;go_roundw
     case rel =>
      refine⟨s,c,rfl,rfl,aC,by omega,by omega,cW ho V,dv T (fG V),au,?_⟩;intro x y h1 Q hy;rw[(cO ah).2] at Q;rw[<-cO U,(cO ah).1] at hy;injection Q with Q;injection hy with hy;subst Q hy;exact(cO ay).1 an
     case measure=>simp[intOf];omega
   .as_aux_lemma =>
     go_wp2_with fail
     go_region_held3 (λL=>(L.cell? ⟨g,K*3,none⟩=some (Z Y (x1.de:Int))/\L.cell? ⟨g,K*3+1,none⟩=some (Z Y (x1.vo:Int))/\L.cell? ⟨g,K*3+2,none⟩=some (Z Y x1.n))/\(L.cell? ⟨g,c*3,none⟩=some (Z Y (x0.de:Int))/\L.cell? ⟨g,c*3+1,none⟩=some (Z Y (x0.vo:Int))/\L.cell? ⟨g,c*3+2,none⟩=some (Z Y x0.n)))
      (first|(go_keep;done)|(exact⟨⟨(E.cell (p:=⟨g,_,none⟩) F).trans c0,(E.cell (p:=⟨g,_,none⟩) F).trans c1,(E.cell (p:=⟨g,_,none⟩) F).trans c2⟩,⟨(E.cell (p:=⟨g,_,none⟩) F).trans d0,(E.cell (p:=⟨g,_,none⟩) F).trans d1,(E.cell (p:=⟨g,_,none⟩) F).trans d2⟩⟩))
      (first|(go_at_call 106;refine(gA x1 x0 _).mono ?_;rintro e w2 ⟨rfl,E⟩;rw[cO HC]))
     have V:TI wr w2:=TH.drew.trans E;go_wp2
     rotate_left
     .rename_i Q;exfalso;simp at Q;omega
     go_roundw
     case rel =>
      refine⟨c+1,r,by go_num,rfl,by omega,by omega,aD,cW ho V,dv T (fG V),?_,av⟩;intro x y h1 Q hy;rw[show c+1-1=c by omega] at Q hy;rw[(cO ah).2] at Q;rw[<-cO U,(cO ah).1] at hy;injection Q with Q;injection hy with hy;subst Q hy;exact λhq=>(Int.not_lt.2 an) ((cO ay).2 hq)
     case measure=>simp[intOf];omega
  .as_aux_lemma =>
    obtain rfl:s=r:=by omega
    clear aq;obtain⟨D,aE⟩:∃D,Hid (D=A+m-s):=⟨_,rfl⟩
    have aZ:IntKind.i64.wrap ((nn:Int)-(s:Int))=(D:Int):=by have:=cO aE;have:=cO ae;rw[fp];omega
    have ao:Hid (Cut X (A+m-1) O P s):=⟨aC,aD,λx y e1 e2 e3=>(cO au) x y e1 e2 (by rw[cO HP];exact e3),λx y e1 e2 e3=>(cO av) x y e1 e2 (by rw[cO HP];exact e3)⟩
    obtain⟨R,HR⟩:∃R,Hid (R=sL X s m D):=⟨_,rfl⟩
    have C:=cP (Fh (by omega) (by omega) (by rw[cO HX];exact hb) (cO I) (cO af) (cO ag) (cO aG) (cO aH) (cO ao));rw[<-cO aE,<-cO HR] at C;have az:Hid (R.length=N):=by show _=_;rw[(cO C).2.2.2.2.2.2.1.1];exact cO HX
    have b1:=(cO C).1;have b2:=(cO C).2.1;have b3:=(cO C).2.2.1;have b4:=(cO C).2.2.2.1;have b5:=(cO C).2.2.2.2.1;have b6:=(cO C).2.2.2.2.2.1;clear au av ao h;obtain⟨z1,W⟩:∃z:Bool,Hid (z=decide (s<m/\m<D)):=⟨_,rfl⟩
    go_upto_region 39 with fail
    go_cut [185] (λt J=>t=.bool z1/\J=wr)
    case first =>
     as_aux_lemma =>
      by_cases y1:s<m
      .have q:(s:Int)<(m:Int):=by omega
       by_cases y2:m<D
       .have o:(m:Int)<(D:Int):=by omega
        go_wp2
        go_meet
        exact⟨by rw[cO W,kH (⟨y1,y2⟩:s<m/\m<D)],rfl⟩
       .have o:¬(m:Int)<(D:Int):=by omega
        go_wp2
        go_meet
        exact⟨by rw[cO W,df (λG:s<m/\m<D=>y2 G.2)],rfl⟩
      .have q:¬(s:Int)<(m:Int):=by omega
       go_wp2
       go_meet
       exact⟨by rw[cO W,df (λG:s<m/\m<D=>y1 G.1)],rfl⟩
    case rest =>
    obtain⟨rfl,H⟩:=hcut;obtain rfl:=H.symm;clear H
    go_upto_if 185 with fail
    go_cut [] (λJ=>J.ownsRow B 162 3 (.slice (some ⟨g,0,none⟩) N cap) N (dh R)/\w.grownBy J (some g))
    case first =>
     as_aux_lemma =>
      cases z1 with
      |true =>
       have G:s<m/\m<D:=Oh (cO W).symm;go_wp2_with (go_at_call 241;refine(Cn g cap B s m D N X _ _ (cO HX) ho G.1 G.2 (by omega) hl).mono ?_;rintro e w2 ⟨rfl,M,aa⟩;rw[<-cO HR] at M)
       go_meet
       exact⟨M,dv T aa⟩
      |false =>
       have G:¬(s<m/\m<D):=of_decide_eq_false (cO W).symm;go_wp2
       go_meet
       exact⟨by rw[cO HR,Hs b2 b3 (by rw[cO HX];omega) G];exact ho,T⟩
    case rest =>
    as_aux_lemma =>
     obtain⟨M,aa⟩:=hcut;clear ho T;obtain⟨z2,ab⟩:∃z:Bool,Hid (z=decide (a<s/\s<A)):=⟨_,rfl⟩
     go_upto_region 41 with fail
     go_cut [199] (λt J=>t=.bool z2/\J=wc)
     case first =>
      as_aux_lemma =>
       by_cases y1:a<s
       .have q:(a:Int)<(s:Int):=by omega
        by_cases y2:s<A
        .have o:(s:Int)<(A:Int):=by omega
         go_wp2
         go_meet
         exact⟨by rw[cO ab,kH (⟨y1,y2⟩:a<s/\s<A)],rfl⟩
        .have o:¬(s:Int)<(A:Int):=by omega
         go_wp2
         go_meet
         exact⟨by rw[cO ab,df (λG:a<s/\s<A=>y2 G.2)],rfl⟩
       .have q:¬(a:Int)<(s:Int):=by omega
        go_wp2
        go_meet
        exact⟨by rw[cO ab,df (λG:a<s/\s<A=>y1 G.1)],rfl⟩
     case rest =>
     obtain⟨rfl,H⟩:=hcut;obtain rfl:=H.symm;clear H
     go_upto_if 199 with fail
     go_cut [] (λJ=>∃j,J.ownsRow B 162 3 (.slice (some ⟨g,0,none⟩) N cap) N (dh j)/\w.grownBy J (some g)/\Hid (j.length=N)/\Hid (JB R j a A))
     case first =>
      as_aux_lemma =>
       cases z2 with
       |true =>
        have G:a<s/\s<A:=Oh (cO ab).symm;go_wp2_with (go_at_call 223;refine((cO aA) a s A R _ (by omega) (cO az) M G.1 G.2 (by omega) (cO C).2.2.2.2.2.2.2.1 (cO C).2.2.2.2.2.2.2.2.1).mono ?_;rintro e w3 ⟨rfl,j,ai,aj,aF⟩)
        go_meet
        exact⟨j,ai,dv aa aj,aF.1.1.trans (cO az),aF⟩
       |false =>
        have G:¬(a<s/\s<A):=of_decide_eq_false (cO ab).symm;go_wp2
        go_meet
        exact⟨R,M,aa,az,JB.refl (AL (by omega) (cO C).2.2.2.2.2.2.2.1 (cO C).2.2.2.2.2.2.2.2.1)⟩
     case rest =>
     as_aux_lemma =>
      obtain⟨j,ai,aj,aI,ak⟩:=hcut;clear M aa;obtain⟨z3,ad⟩:∃z:Bool,Hid (z=decide (A<D/\D<b)):=⟨_,rfl⟩
      go_upto_region 43 with fail
      go_cut [213] (λt J=>t=.bool z3/\J=wc)
      case first =>
       as_aux_lemma =>
        by_cases y1:A<D
        .have q:(A:Int)<(D:Int):=by omega
         by_cases y2:D<b
         .have o:(D:Int)<(b:Int):=by omega
          go_wp2
          go_meet
          exact⟨by rw[cO ad,kH (⟨y1,y2⟩:A<D/\D<b)],rfl⟩
         .have o:¬(D:Int)<(b:Int):=by omega
          go_wp2
          go_meet
          exact⟨by rw[cO ad,df (λG:A<D/\D<b=>y2 G.2)],rfl⟩
        .have q:¬(A:Int)<(D:Int):=by omega
         go_wp2
         go_meet
         exact⟨by rw[cO ad,df (λG:A<D/\D<b=>y1 G.1)],rfl⟩
      case rest =>
      obtain⟨rfl,H⟩:=hcut;obtain rfl:=H.symm;clear H;have o3:=cP (vO (cO ak).2.2.1 (cO C).2.2.2.2.2.2.2.2.2.1 (Or.inr TG));have o4:=cP (vO (cO ak).2.2.1 (cO C).2.2.2.2.2.2.2.2.2.2.1 (Or.inr b6));cases z3 with
      |true =>
       have G:A<D/\D<b:=Oh (cO ad).symm;go_wp2_with (go_at_call 223;refine((cO aA) A D b j _ (by omega) (cO aI) ai G.1 G.2 hb (cO o3) (cO o4)).mono ?_;rintro e w4 ⟨rfl,l,aJ,aK,aL⟩)
       go_end0
       exact⟨rfl,l,aJ,dv aj aK,xf (by omega) (by omega) (cO C).2.2.2.2.2.2.1 (cO C).2.2.2.2.2.2.2.2.2.2.2.2.1 (cO C).2.2.2.2.2.2.2.2.2.2.2.2.2 (cO C).2.2.2.2.2.2.2.2.2.2.2.1 (cO ak) aL⟩
      |false =>
       have G:¬(A<D/\D<b):=of_decide_eq_false (cO ad).symm;go_wp2
       go_end0
       exact⟨rfl,j,ai,aj,xf (by omega) (by omega) (cO C).2.2.2.2.2.2.1 (cO C).2.2.2.2.2.2.2.2.2.2.2.2.1 (cO C).2.2.2.2.2.2.2.2.2.2.2.2.2 (cO C).2.2.2.2.2.2.2.2.2.2.2.1 (cO ak) (JB.refl (AL (by omega) (cO o3) (cO o4)))⟩
theorem rI(g cap B N:Nat)(j:N<=5000):∀n,JZ g cap B N n
 |0=>λa m b X w A l h u e r y z=>by omega
 |n+1=>λa m b X w A l h u e r y z=>by
  by_cases C:m=a+1
  .exact CQ g cap B a m b N X w l h C e r j z
  .by_cases D:b=m+1
   .exact AZ g cap B a m b N X w l h (by omega) D r j y
   .exact B8 g cap B a m b N n X w (rI g cap B N j n) A l h (by omega) (by omega) r j y z
end
end Go.Proofs.YtgkkdpegcieakaaGreatDoor
