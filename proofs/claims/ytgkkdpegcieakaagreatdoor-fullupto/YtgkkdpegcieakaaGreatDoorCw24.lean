import Derived.Test.YtgkkdpegcieakaaGreatDoorCw04
set_option linter.all false
set_option maxRecDepth 100000
set_option maxHeartbeats 16000000
namespace Go.Proofs.YtgkkdpegcieakaaGreatDoor
open Go.Proofs.Tryz
open Value renaming int→Z,slice→J
open Option renaming none→U,some→S
open IntKind renaming i64→Y
open Go renaming World→WR,Value→WS,Calls→WT
section
open Go.RowKit
theorem Bo(g cap B a m b N:Nat)(X:List Sp.Ed)(w:WR)(hX:X.length=N)(h:w.ownsRow B 162 3 (J (S ⟨g,0,U⟩) N cap) N (dp X))(ao:a+1<m)(hm:b=m+1)(hb:b<=N)(hl:N<=5000)(hO:Hid (Ord X a m)):WT prog 223 #[J (S ⟨g,0,U⟩) N cap,Z Y a,Z Y m,Z Y b,.func (.func 106) #[] #[]] w (qZ g cap B N a b X w):=by
 have HX:=cT hX;have HM:=cT hm;have aq:IntKind.i64.wrap ((m:Int)-(a:Int))=(m:Int)-(a:Int):=by rw[Uy];omega
 have aj:((m:Int)-(a:Int) == 1)=false:=by rw[Uh];omega
 have ar:IntKind.i64.wrap ((b:Int)-(m:Int))=1:=by rw[Uy];omega
 have au:m<b:=by omega
 have av:(m:Int)<(N:Int):=by omega
 have aw:(0:Int)<=(m:Int):=by omega
 clear hX hm;go_enter func223,ntmps223;go_wp2
 go_loopw [14,15] (λu v wr=>∃(i j:Nat),u=Z Y i/\v=Z Y j/\a<=i/\i<=j/\j<=m/\wr.ownsRow B 162 3 (J (S ⟨g,0,U⟩) N cap) N (dp X)/\w.grownBy wr (S g)/\Hid (∀t x y,a<=t->t<i->X[m]?=S x->X[t]?=S y->¬ot x y)/\Hid (∀t x y,j<=t->t<m->X[m]?=S x->X[t]?=S y->ot x y)) (λu v _=>(intOf v-intOf u).toNat)
 case atStart=>exact⟨a,m,rfl,rfl,TY _,by omega,TY _,h,iv _ _,λt x y W h2=>by omega,λt x y W h2=>by omega⟩
 case round =>
  obtain⟨i,j,rfl,rfl,s,af,o,ho,P,aa,T⟩:=hrel;by_cases ax:i<j
  .have ak:(i:Int)<(j:Int):=by omega
   have ay:i<=(i+j)/2:=by omega
   have az:(i+j)/2<j:=by omega
   have aA:(i+j)/2<N:=by omega
   have aB:(((i+j)/2:Nat):Int)<(N:Int):=by omega
   have aC:((i:Int)+(j:Int))/2<(N:Int):=by omega
   have aD:0<=((i:Int)+(j:Int))/2:=by omega
   have aE:(((i:Int)+(j:Int))/2).toNat=(i+j)/2:=by omega
   obtain⟨L,M,⟨c0,c1,c2⟩,⟨d0,d1,d2⟩,_,Q⟩:=oV (cS HX) ho m ((i+j)/2) (by omega) (by omega);obtain⟨c,hc⟩:∃c,zr L M=c:=⟨_,rfl⟩
   have HC:=cT hc;have V:=cT (uy L M);rw[hc] at V;clear hc;have z:g<wr.heap.size:=Ui _ _ c0;by_cases R:c<0
   .go_wp2_with fail
    go_region_held3 (λC=>(C.cell? ⟨g,m*3,U⟩=S (Z Y (L.dj:Int))/\C.cell? ⟨g,m*3+1,U⟩=S (Z Y (L.cR:Int))/\C.cell? ⟨g,m*3+2,U⟩=S (Z Y L.n))/\(C.cell? ⟨g,(i+j)/2*3,U⟩=S (Z Y (M.dj:Int))/\C.cell? ⟨g,(i+j)/2*3+1,U⟩=S (Z Y (M.cR:Int))/\C.cell? ⟨g,(i+j)/2*3+2,U⟩=S (Z Y M.n)))
     (first|(go_keep;done)|(exact⟨⟨(r.cell (p:=⟨g,_,U⟩) z).trans c0,(r.cell (p:=⟨g,_,U⟩) z).trans c1,(r.cell (p:=⟨g,_,U⟩) z).trans c2⟩,⟨(r.cell (p:=⟨g,_,U⟩) z).trans d0,(r.cell (p:=⟨g,_,U⟩) z).trans d1,(r.cell (p:=⟨g,_,U⟩) z).trans d2⟩⟩))
     (first|(go_at_call 106;refine(gF L M _).mono ?_;rintro e w2 ⟨rfl,r⟩;rw[cS HC]))
    have G:WQ wr w2:=WO.drew.trans r;go_wp2;go_roundw
    case rel =>
     refine⟨i,(i+j)/2,O,by go_num,s,by omega,by omega,dd ho G,dD P (fH G),aa,?_⟩;intro t x y W h2 F hy;have ab:=(cS V).1 R;rw[(cS Q).1] at F;injection F with F;subst F;exact lF ab (nL (cS hO) (by omega) W h2 (cS Q).2 hy)
    case measure=>simp[intOf];omega
   .go_wp2_with fail
    go_region_held3 (λC=>(C.cell? ⟨g,m*3,U⟩=S (Z Y (L.dj:Int))/\C.cell? ⟨g,m*3+1,U⟩=S (Z Y (L.cR:Int))/\C.cell? ⟨g,m*3+2,U⟩=S (Z Y L.n))/\(C.cell? ⟨g,(i+j)/2*3,U⟩=S (Z Y (M.dj:Int))/\C.cell? ⟨g,(i+j)/2*3+1,U⟩=S (Z Y (M.cR:Int))/\C.cell? ⟨g,(i+j)/2*3+2,U⟩=S (Z Y M.n)))
     (first|(go_keep;done)|(exact⟨⟨(r.cell (p:=⟨g,_,U⟩) z).trans c0,(r.cell (p:=⟨g,_,U⟩) z).trans c1,(r.cell (p:=⟨g,_,U⟩) z).trans c2⟩,⟨(r.cell (p:=⟨g,_,U⟩) z).trans d0,(r.cell (p:=⟨g,_,U⟩) z).trans d1,(r.cell (p:=⟨g,_,U⟩) z).trans d2⟩⟩))
     (first|(go_at_call 106;refine(gF L M _).mono ?_;rintro e w2 ⟨rfl,r⟩;rw[cS HC]))
    have G:WQ wr w2:=WO.drew.trans r;go_wp2
    rotate_left
    .rename_i F;exfalso;simp at F;omega
    go_roundw
    case rel =>
     refine⟨(i+j)/2+1,j,by go_num,O,by omega,by omega,o,dd ho G,dD P (fH G),?_,T⟩;intro t x y W h2 F hy hn;rw[(cS Q).1] at F;injection F with F;subst F;exact(Int.not_lt.2 R) ((cS V).2 (lF hn (nL (cS hO) W (by omega) (by omega) hy (cS Q).2)))
    case measure=>simp[intOf];omega
  .obtain rfl:i=j:=by omega
   clear af;go_wp2
   go_loopw [17] (λu ad=>∃(k:Nat) (l:List Sp.Ed),u=Z Y k/\i<=k/\k<=m/\ad.ownsRow B 162 3 (J (S ⟨g,0,U⟩) N cap) N (dp l)/\w.grownBy ad (S g)/\Hid (l.length=N)/\Hid (Up X l k m)) (λu _=>(intOf u).toNat)
   case atStart=>exact⟨m,X,rfl,by omega,TY _,ho,P,HX,Up.refl _ _⟩
   case round =>
    obtain⟨k,l,rfl,aF,aG,A,I,HY,HD⟩:=hrel;clear ho P h;by_cases an:i<k
    .obtain⟨q,HQ⟩:∃q,Hid (k=q+1):=⟨k-1,by show _=_;omega⟩
     have aH:q<k:=by have:=cS HQ;omega
     have ag:(i:Int)<(k:Int):=by omega
     have aI:(k:Int)<(N:Int):=by omega
     have aJ:(q:Int)<(N:Int):=by omega
     have aK:(0:Int)<=(q:Int):=by omega
     have aL:IntKind.i64.wrap ((k:Int)-1)=(q:Int):=by have:=cS HQ;rw[Uy];omega
     have f0:=dL A (k*3);have f1:=dL A (k*3+1);have f2:=dL A (k*3+2);have f3:=dL A (q*3);have f4:=dL A (q*3+1);have f5:=dL A (q*3+2);obtain⟨z0,z1,⟨r0,r1,r2⟩,⟨s0,s1,s2⟩,ae,aM⟩:=oV (cS HY) A k q (by omega) (by omega);have ah:=cT I;clear A I;go_wp2_with fail
     go_region
     go_wp2;go_roundw
     case rel =>
      have ai:=cS HQ;subst ai;refine⟨q,sw l (q+1) q,by go_num,by omega,by omega,(cS ae).1,dD (cS ah) (cS ae).2,by show _=_;rw[zP];exact cS HY,(cS HD).step (by omega) (by rw[cS HX];omega) (λx y F hy=>(cS T) q x y (by omega) (by omega) F hy)⟩
     case measure=>have:=cS HQ;simp[intOf];omega
    .have ag:¬(i:Int)<(k:Int):=by omega
     obtain rfl:i=k:=by omega
     go_wp2
     go_end0
     exact⟨O,l,A,I,(cS HD).close (cS HM) s o (by rw[cS HX];exact hb) (cS hO) (cS aa) (cS T)⟩
end
end Go.Proofs.YtgkkdpegcieakaaGreatDoor
