import Derived.Test.YtgkkdpegcieakaaGreatDoorCz04
set_option linter.unusedVariables false
set_option linter.unusedSimpArgs false
set_option maxRecDepth 100000
set_option maxHeartbeats 16000000
namespace Go.Proofs.YtgkkdpegcieakaaGreatDoor
open Go.Proofs.Tryz
open Value renaming int→Z
open IntKind renaming i64→Y
open Go renaming World→TJ,Value→TK,Calls→TL
section
open Go.RowKit
theorem AZ(g cap B a m b N:Nat)(X:List Sp.Ed)(w:TJ)(hX:X.length=N)(h:w.ownsRow B 162 3 (.slice (some ⟨g,0,none⟩) N cap) N (dh X))(ai:a+1<m)(hm:b=m+1)(hb:b<=N)(hl:N<=5000)(hO:Hid (Ord X a m)):TL prog 223 #[.slice (some ⟨g,0,none⟩) N cap,Z Y a,Z Y m,Z Y b,.func (.func 106) #[] #[]] w (qS g cap B N a b X w):=by
 have s:=cP hX;have HM:=cP hm;have aj:IntKind.i64.wrap ((m:Int)-(a:Int))=(m:Int)-(a:Int):=by rw[fp];omega
 have af:((m:Int)-(a:Int) == 1)=false:=by rw[cC];omega
 have ak:IntKind.i64.wrap ((b:Int)-(m:Int))=1:=by rw[fp];omega
 have an:m<b:=by omega
 have ao:(m:Int)<(N:Int):=by omega
 have aq:(0:Int)<=(m:Int):=by omega
 clear hX hm;go_enter func223,ntmps223;go_wp2
 go_loopw [14,15] (λu v wr=>∃(i j:Nat),u=Z Y i/\v=Z Y j/\a<=i/\i<=j/\j<=m/\wr.ownsRow B 162 3 (.slice (some ⟨g,0,none⟩) N cap) N (dh X)/\w.grownBy wr (some g)/\Hid (∀t x y,a<=t->t<i->X[m]?=some x->X[t]?=some y->¬ou x y)/\Hid (∀t x y,j<=t->t<m->X[m]?=some x->X[t]?=some y->ou x y)) (λu v _=>(intOf v-intOf u).toNat)
 case atStart=>exact⟨a,m,rfl,rfl,b7 _,by omega,b7 _,h,iv _ _,λt x y O o=>by omega,λt x y O o=>by omega⟩
 case round =>
  obtain⟨i,j,rfl,rfl,P,aa,Q,R,I,S,L⟩:=hrel;by_cases ar:i<j
  .have ag:(i:Int)<(j:Int):=by omega
   have au:i<=(i+j)/2:=by omega
   have av:(i+j)/2<j:=by omega
   have aw:(i+j)/2<N:=by omega
   have ax:(((i+j)/2:Nat):Int)<(N:Int):=by omega
   have ay:((i:Int)+(j:Int))/2<(N:Int):=by omega
   have az:0<=((i:Int)+(j:Int))/2:=by omega
   have aA:(((i:Int)+(j:Int))/2).toNat=(i+j)/2:=by omega
   obtain⟨G,H,⟨c0,c1,c2⟩,⟨d0,d1,d2⟩,_,J⟩:=o7 (cO s) R m ((i+j)/2) (by omega) (by omega);obtain⟨c,hc⟩:∃c,yk G H=c:=⟨_,rfl⟩
   have HC:=cP hc;have M:=cP (uc G H);rw[hc] at M;clear hc;have z:g<wr.heap.size:=cE _ _ c0;by_cases K:c<0
   .go_wp2_with fail
    go_region_held3 (λC=>(C.cell? ⟨g,m*3,none⟩=some (Z Y (G.de:Int))/\C.cell? ⟨g,m*3+1,none⟩=some (Z Y (G.vo:Int))/\C.cell? ⟨g,m*3+2,none⟩=some (Z Y G.n))/\(C.cell? ⟨g,(i+j)/2*3,none⟩=some (Z Y (H.de:Int))/\C.cell? ⟨g,(i+j)/2*3+1,none⟩=some (Z Y (H.vo:Int))/\C.cell? ⟨g,(i+j)/2*3+2,none⟩=some (Z Y H.n)))
     (first|(go_keep;done)|(exact⟨⟨(r.cell (p:=⟨g,_,none⟩) z).trans c0,(r.cell (p:=⟨g,_,none⟩) z).trans c1,(r.cell (p:=⟨g,_,none⟩) z).trans c2⟩,⟨(r.cell (p:=⟨g,_,none⟩) z).trans d0,(r.cell (p:=⟨g,_,none⟩) z).trans d1,(r.cell (p:=⟨g,_,none⟩) z).trans d2⟩⟩))
     (first|(go_at_call 106;refine(gA G H _).mono ?_;rintro e w2 ⟨rfl,r⟩;rw[cO HC]))
    have E:TI wr w2:=TH.drew.trans r;go_wp2;go_roundw
    case rel =>
     refine⟨i,(i+j)/2,rfl,by go_num,P,by omega,by omega,cW R E,dv I (fG E),S,?_⟩;intro t x y O o D T;have U:=(cO M).1 K;rw[(cO J).1] at D;injection D with D;subst D;exact lC U (nR (cO hO) (by omega) O o (cO J).2 T)
    case measure=>simp[intOf];omega
   .go_wp2_with fail
    go_region_held3 (λC=>(C.cell? ⟨g,m*3,none⟩=some (Z Y (G.de:Int))/\C.cell? ⟨g,m*3+1,none⟩=some (Z Y (G.vo:Int))/\C.cell? ⟨g,m*3+2,none⟩=some (Z Y G.n))/\(C.cell? ⟨g,(i+j)/2*3,none⟩=some (Z Y (H.de:Int))/\C.cell? ⟨g,(i+j)/2*3+1,none⟩=some (Z Y (H.vo:Int))/\C.cell? ⟨g,(i+j)/2*3+2,none⟩=some (Z Y H.n)))
     (first|(go_keep;done)|(exact⟨⟨(r.cell (p:=⟨g,_,none⟩) z).trans c0,(r.cell (p:=⟨g,_,none⟩) z).trans c1,(r.cell (p:=⟨g,_,none⟩) z).trans c2⟩,⟨(r.cell (p:=⟨g,_,none⟩) z).trans d0,(r.cell (p:=⟨g,_,none⟩) z).trans d1,(r.cell (p:=⟨g,_,none⟩) z).trans d2⟩⟩))
     (first|(go_at_call 106;refine(gA G H _).mono ?_;rintro e w2 ⟨rfl,r⟩;rw[cO HC]))
    have E:TI wr w2:=TH.drew.trans r;go_wp2
    rotate_left
    .rename_i D;exfalso;simp at D;omega
    go_roundw
    case rel =>
     refine⟨(i+j)/2+1,j,by go_num,rfl,by omega,by omega,Q,cW R E,dv I (fG E),?_,L⟩;intro t x y O o D T hn;rw[(cO J).1] at D;injection D with D;subst D;exact(Int.not_lt.2 K) ((cO M).2 (lC hn (nR (cO hO) O (by omega) (by omega) T (cO J).2)))
    case measure=>simp[intOf];omega
  .obtain rfl:i=j:=by omega
   clear aa;go_wp2
   go_loopw [17] (λu V=>∃(k:Nat) (l:List Sp.Ed),u=Z Y k/\i<=k/\k<=m/\V.ownsRow B 162 3 (.slice (some ⟨g,0,none⟩) N cap) N (dh l)/\w.grownBy V (some g)/\Hid (l.length=N)/\Hid (Up X l k m)) (λu _=>(intOf u).toNat)
   case atStart=>exact⟨m,X,rfl,by omega,b7 _,R,I,s,Up.refl _ _⟩
   case round =>
    obtain⟨k,l,rfl,aB,aC,A,F,HY,HD⟩:=hrel;clear R I h;by_cases ah:i<k
    .obtain⟨q,HQ⟩:∃q,Hid (k=q+1):=⟨k-1,by show _=_;omega⟩
     have aD:q<k:=by have:=cO HQ;omega
     have ab:(i:Int)<(k:Int):=by omega
     have aE:(k:Int)<(N:Int):=by omega
     have aF:(q:Int)<(N:Int):=by omega
     have aG:(0:Int)<=(q:Int):=by omega
     have aH:IntKind.i64.wrap ((k:Int)-1)=(q:Int):=by have:=cO HQ;rw[fp];omega
     have f0:=dI A (k*3);have f1:=dI A (k*3+1);have f2:=dI A (k*3+2);have f3:=dI A (q*3);have f4:=dI A (q*3+1);have f5:=dI A (q*3+2);obtain⟨z0,z1,⟨r0,r1,r2⟩,⟨s0,s1,s2⟩,W,aI⟩:=o7 (cO HY) A k q (by omega) (by omega);have ad:=cP F;clear A F;go_wp2_with fail
     go_region
     go_wp2;go_roundw
     case rel =>
      have ae:=cO HQ;subst ae;refine⟨q,sw l (q+1) q,by go_num,by omega,by omega,(cO W).1,dv (cO ad) (cO W).2,by show _=_;rw[zl];exact cO HY,(cO HD).step (by omega) (by rw[cO s];omega) (λx y D T=>(cO L) q x y (by omega) (by omega) D T)⟩
     case measure=>have:=cO HQ;simp[intOf];omega
    .have ab:¬(i:Int)<(k:Int):=by omega
     obtain rfl:i=k:=by omega
     go_wp2
     go_end0
     exact⟨rfl,l,A,F,(cO HD).close (cO HM) P Q (by rw[cO s];exact hb) (cO hO) (cO S) (cO L)⟩
end
end Go.Proofs.YtgkkdpegcieakaaGreatDoor
