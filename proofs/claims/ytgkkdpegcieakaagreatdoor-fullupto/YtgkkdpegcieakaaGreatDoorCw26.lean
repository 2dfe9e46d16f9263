import Derived.Test.YtgkkdpegcieakaaGreatDoorCw25
set_option linter.all false
set_option maxRecDepth 100000
set_option maxHeartbeats 16000000
namespace Go.Proofs.YtgkkdpegcieakaaGreatDoor
open Go.Proofs.Tryz
open Value renaming int→Z,slice→J,tuple→WX
open Option renaming none→U,some→S
open List renaming length→Xg
open IntKind renaming i64→Y
open Go renaming World→WR,Value→WS,Calls→WT
section
open Go.RowKit
def tc(b:List Sp.Ed)(s p:Nat):Prop := ∀C:Nat->Prop,C 0->(∀q,C q->Ord b q (q+s)->C (q+s))->C p
variable {s:Nat}
theorem tc.zero{b:List Sp.Ed}: tc b s 0:=λ_ h _=>h
variable {p:Nat}
theorem tc.step{b:List Sp.Ed}(h:tc b s p)(o:Ord b p (p+s)): tc b s (p+s):=λC j e=>e p (h C j e) o
def Bl(b:List Sp.Ed)(s n p:Nat):Prop := ∀C:Nat->Prop,(∀q,n<=q+s->Ord b q n->C q)->(∀q,q+s<=n->Ord b q (q+s)->C (q+s)->C q)->C p
variable {n:Nat}
theorem Bl.last{b:List Sp.Ed}(h:n<=p+s)(o:Ord b p n): Bl b s n p:=λ_ e _=>e p h o
theorem Bl.more{e:List Sp.Ed}(h:p+s<=n)(o:Ord e p (p+s))(b:Bl e s n (p+s)): Bl e s n p:=λC l j=>j p h o (b C l j)
theorem Bl.inv{b:List Sp.Ed}(h:Bl b s n p): (n<=p+s/\Ord b p n)\/(p+s<=n/\Ord b p (p+s)/\Bl b s n (p+s)):=h (λp=>(n<=p+s/\Ord b p n)\/(p+s<=n/\Ord b p (p+s)/\Bl b s n (p+s))) (λq j l=>Or.inl ⟨j,l⟩) λq j l m=>Or.inr ⟨j,l,m.elim (λe=>.last e.1 e.2) (λe=>.more e.1 e.2.1 e.2.2)⟩
theorem wu{e j:List Sp.Ed}{a b:Nat}(h:Ord e a b)(k:∀t,a<=t->t<b->j[t]?=e[t]?):Ord j a b:=by
 intro s t x y r u z l m;rw[k s (by omega) (by omega)] at l;rw[k t (by omega) (by omega)] at m;exact h _ _ _ _ r u z l m
theorem tc.same{b e:List Sp.Ed}(h:tc b s p)(k:∀t,t<p->e[t]?=b[t]?): tc e s p:=h (λp=>(∀t,t<p->e[t]?=b[t]?)->tc e s p) (λ_=>.zero) (λq l o k=>.step (l (λt j=>k t (by omega))) (wu o (λt _ j=>k t j))) k
theorem Bl.same{b e:List Sp.Ed}(h:Bl b s n p)(k:∀t,p<=t->e[t]?=b[t]?): Bl e s n p:=h (λp=>(∀t,p<=t->e[t]?=b[t]?)->Bl e s n p) (λq l m k=>.last l (wu m (λt j _=>k t j))) (λq l m r k=>.more l (wu m (λt j _=>k t j)) (r (λt j=>k t (by omega)))) k
theorem tc.bl{b:List Sp.Ed}(h:tc b s p)(e:p<=n)(k:Bl b s n p): Bl b s n 0:=h (λp=>p<=n->Bl b s n p->Bl b s n 0) (λ_ k=>k) (λq j o e k=>j (by omega) (.more e o k)) e k
theorem Bl.fin{b:List Sp.Ed}(h:Bl b s n p)(l:n<=p+s): Ord b p n:=by
 rcases h.inv with ⟨j,e⟩|⟨j,e,m⟩
 .exact e
 .rw[show n=p+s by omega];exact e
theorem Bl.two{e:List Sp.Ed}(h:Bl e s n p)(A:0<s)(B:p+2*s<=n): Ord e p (p+s)/\Ord e (p+s) (p+2*s)/\Bl e s n (p+2*s):=by
 rcases h.inv with ⟨r,l⟩|⟨r,l,u⟩
 .omega
 .refine⟨l,?_⟩;rcases u.inv with ⟨z,j⟩|⟨z,j,m⟩
  .obtain rfl:n=p+2*s:=by omega
   exact⟨j,.last (by omega) (λa b x y C F G=>by omega)⟩
  .rw[show p+s+s=p+2*s by omega] at j m;exact⟨j,m⟩
theorem Bl.one{b:List Sp.Ed}(h:Bl b s n p)(r:p+s<n)(j:n<p+2*s): Ord b p (p+s)/\Ord b (p+s) n:=by
 rcases h.inv with ⟨l,e⟩|⟨l,e,m⟩
 .omega
 .exact⟨e,m.fin (by omega)⟩
theorem sa(g cap B a b N:Nat)(l m:Int)(X:List Sp.Ed)(w:WR)(ha:l=(a:Int))(e:m=(b:Int))(r:Xg X=N)(h:w.ownsRow B 162 3 (J (S ⟨g,0,U⟩) N cap) N (dp X))(j:a<=b)(hb:b<=N)(u:N<=5000):WT prog 222 #[J (S ⟨g,0,U⟩) N cap,Z Y l,Z Y m,.func (.func 106) #[] #[]] w (Fj g cap B N a b X w):=by
 subst ha e;exact wI g cap B a b N X w r h j hb u
theorem tS(g cap B a m b N:Nat)(r u y:Int)(X:List Sp.Ed)(w:WR)(ha:r=(a:Int))(z:u=(m:Int))(e:y=(b:Int))(A:Xg X=N)(h:w.ownsRow B 162 3 (J (S ⟨g,0,U⟩) N cap) N (dp X))(j:a<m)(l:m<b)(hb:b<=N)(C:N<=5000)(h1:Ord X a m)(h2:Ord X m b):WT prog 223 #[J (S ⟨g,0,U⟩) N cap,Z Y r,Z Y u,Z Y y,.func (.func 106) #[] #[]] w (qZ g cap B N a b X w):=by
 subst ha z e;exact sd g cap B N C _ a m b X w WN A h j l hb h1 h2
def LQ(g cap B N:Nat)(X:List Sp.Ed)(w:WR)(e:Ending)(w':WR):Prop:=e=.returned (WX #[])/\∃b,w'.ownsRow B 162 3 (J (S ⟨g,0,U⟩) N cap) N (dp b)/\w.grownBy w' (S g)/\St X b/\Ord b 0 N
theorem D6(g cap B N:Nat)(X:List Sp.Ed)(w:WR)(hX:Xg X=N)(h:w.ownsRow B 162 3 (J (S ⟨g,0,U⟩) N cap) N (dp X))(hl:N<=5000):WT prog 159 #[J (S ⟨g,0,U⟩) N cap,Z Y N,.func (.func 106) #[] #[]] w (LQ g cap B N X w):=by
 have HX:=cT hX;clear hX;go_enter func159,ntmps159;go_wp2
 go_loopw [7,8] (λu v wr=>∃(a:Nat) (b:List Sp.Ed),u=Z Y a/\v=Z Y ((a+20:Nat):Int)/\a<=N/\wr.ownsRow B 162 3 (J (S ⟨g,0,U⟩) N cap) N (dp b)/\w.grownBy wr (S g)/\Hid (Xg b=N)/\Hid (St X b)/\Hid (tc b 20 a)) (λu _ _=>N-(intOf u).toNat)
 case atStart=>exact⟨0,X,rfl,rfl,Ud _,h,iv _ _,HX,St.refl _,.zero⟩
 case round =>
  obtain⟨a,b,rfl,rfl,F,V,y,W,A,q⟩:=hrel;clear h;by_cases af:a+20<=N
  .have z:(a:Int)+20<=(N:Int):=by omega
   go_wp2_with (go_at_call 222;refine(sa g cap B a (a+20) N _ _ b _ (by omega) (by omega) (cS W) V (by omega) (by omega) hl).mono ?_;rintro e w2 ⟨rfl,j,m,r,G,I,L⟩;have C:=cT G;have Q:=cT I;have R:=cT L;clear G I L);go_roundw
   case rel=>exact⟨a+20,j,by go_num,by go_num,by omega,m,dD y r,(cS C).1.trans (cS W),(cS A).trans (cS C),.step ((cS q).same (λt T=>(cS R) t (Or.inl T))) (cS Q)⟩
   case measure=>simp[intOf];omega
  .have z:¬(a:Int)+20<=(N:Int):=by omega
   go_wp2_with (go_at_call 222;refine(sa g cap B a N N _ _ b _ (by omega) (by omega) (cS W) V (by omega) (by omega) hl).mono ?_;rintro e w2 ⟨rfl,j,m,r,G,I,L⟩;have C:=cT G;have Q:=cT I;have R:=cT L;clear G I L);have HB:Hid (Bl j 20 N 0):=((cS q).same (λt T=>(cS R) t (Or.inl T))).bl F (.last (by omega) (cS Q));have ag:=cT ((cS A).trans (cS C));have ah:Hid (Xg j=N):=(cS C).1.trans (cS W);have ai:=dD y r;clear Q R C q V y W A z af F r
   go_loopw [6] (λu wr=>∃(s:Nat) (b:List Sp.Ed),u=Z Y s/\20<=s/\s<=20000/\wr.ownsRow B 162 3 (J (S ⟨g,0,U⟩) N cap) N (dp b)/\w.grownBy wr (S g)/\Hid (Xg b=N)/\Hid (St X b)/\Hid (Bl b s N 0)) (λu _=>20000-(intOf u).toNat)
   case atStart=>exact⟨20,j,rfl,TY _,by omega,m,ai,ah,ag,HB⟩
   case round =>
    obtain⟨s,b,rfl,ao,aq,V,y,W,A,HB⟩:=hrel;clear m ai ah ag;by_cases af:s<N
    .have z:(s:Int)<(N:Int):=by omega
     have ar:IntKind.i64.wrap (2*(s:Int))=2*(s:Int):=by rw[Uy];omega
     have au:IntKind.i64.wrap ((s:Int)*2)=(s:Int)*2:=by rw[Uy];omega
     go_wp2
     go_loopw [7,8] (λu v aj=>∃(a:Nat) (j:List Sp.Ed),u=Z Y a/\v=Z Y ((a+2*s:Nat):Int)/\a<=N/\aj.ownsRow B 162 3 (J (S ⟨g,0,U⟩) N cap) N (dp j)/\w.grownBy aj (S g)/\Hid (Xg j=N)/\Hid (St X j)/\Hid (tc j (2*s) a)/\Hid (Bl j s N a)) (λu _ _=>N-(intOf u).toNat)
     case atStart=>exact⟨0,b,rfl,by go_num,Ud _,V,y,W,A,.zero,HB⟩
     case round =>
      obtain⟨a,j,rfl,rfl,F,m,r,HZ,M,q,o⟩:=hrel;clear V y;have av:IntKind.i64.wrap ((a:Int)+(s:Int))=(a:Int)+(s:Int):=by rw[Uy];omega
      by_cases ak:a+2*s<=N
      .have aa:(a:Int)+2*(s:Int)<=(N:Int):=by omega
       have HT:=cT ((cS o).two (by omega) ak);go_wp2_with (go_at_call 223;refine(tS g cap B a (a+s) (a+2*s) N _ _ _ j _ (by omega) (by omega) (by omega) (cS HZ) m (by omega) (by omega) (by omega) hl (cS HT).1 (cS HT).2.1).mono ?_;rintro e w3 ⟨rfl,Z',ab,ad,P⟩;have l:=cT P;clear P);go_roundw
       case rel=>exact⟨a+2*s,Z',by go_num,by go_num,by omega,ab,dD r ad,(cS l).1.1.trans (cS HZ),(cS M).trans (cS l).1,.step ((cS q).same (λt T=>(cS l).2.2.1 t (Or.inl T))) (cS l).2.1,(cS HT).2.2.same (λt T=>(cS l).2.2.1 t (Or.inr T))⟩
       case measure=>simp[intOf];omega
      .have aa:¬(a:Int)+2*(s:Int)<=(N:Int):=by omega
       by_cases an:a+s<N
       .have ae:(a:Int)+(s:Int)<(N:Int):=by omega
        have HT:=cT ((cS o).one an (by omega));go_wp2_with (go_at_call 223;refine(tS g cap B a (a+s) N N _ _ _ j _ (by omega) (by omega) (by omega) (cS HZ) m (by omega) (by omega) (by omega) hl (cS HT).1 (cS HT).2).mono ?_;rintro e w3 ⟨rfl,Z',ab,ad,P⟩;have l:=cT P;clear P);go_roundw
        case rel=>exact⟨2*s,Z',by go_num,by omega,by omega,ab,dD r ad,(cS l).1.1.trans (cS HZ),(cS M).trans (cS l).1,((cS q).same (λt T=>(cS l).2.2.1 t (Or.inl T))).bl F (.last (by omega) (cS l).2.1)⟩
        case measure=>simp[intOf];omega
       .have ae:¬(a:Int)+(s:Int)<(N:Int):=by omega
        go_wp2;go_roundw
        case rel=>exact⟨2*s,j,by go_num,by omega,by omega,m,r,HZ,M,(cS q).bl F (.last (by omega) ((cS o).fin (by omega)))⟩
        case measure=>simp[intOf];omega
    .have z:¬(s:Int)<(N:Int):=by omega
     go_wp2
     go_end0
     exact⟨O,b,V,y,cS A,(cS HB).fin (by omega)⟩
theorem vV(g cap B N:Nat)(X:List Sp.Ed)(w:WR)(b:Xg X=N)(h:w.ownsRow B 162 3 (J (S ⟨g,0,U⟩) N cap) N (dp X))(j:N<=5000):WT prog 105 #[J (S ⟨g,0,U⟩) N cap,.func (.func 106) #[] #[]] w (LQ g cap B N X w):=by
 have l:=cT b;clear b;go_enter func105,ntmps105;go_wp2_with (go_at_call 159;refine(D6 g cap B N X _ (cS l) h j).mono ?_;rintro e r ⟨rfl,m⟩)
 go_end0
 exact⟨O,m⟩
theorem xf(b:WS)(w:WR):WT prog 222 #[J U 0 0,Z Y 0,Z Y 0,b] w λe j=>e=.returned (WX #[])/\j=w:=by
 go_enter func222,ntmps222;go_wp2;refine wp_loop_rounds 1 ?_;rw[rounds_succ];go_wp2
 go_end0
 exact⟨O,O⟩
theorem Dm(b:WS)(w:WR):WT prog 159 #[J U 0 0,Z Y 0,b] w λe j=>e=.returned (WX #[])/\j=w:=by
 go_enter func159,ntmps159;go_wp2;refine wp_loop_rounds 1 ?_;rw[rounds_succ];go_wp2_with (go_at_call 222;refine(xf _ _).mono ?_;rintro e m ⟨rfl,l⟩;obtain rfl:=l.symm);refine wp_loop_rounds 1 ?_;rw[rounds_succ];go_wp2
 go_end0
 exact⟨O,O⟩
theorem vq(b:WS)(w:WR):WT prog 105 #[J U 0 0,b] w λe j=>e=.returned (WX #[])/\j=w:=by
 go_enter func105,ntmps105;go_wp2_with (go_at_call 159;refine(Dm _ _).mono ?_;rintro e m ⟨rfl,l⟩;obtain rfl:=l.symm)
 go_end0
 exact⟨O,O⟩
theorem Iv(B N:Nat)(v:WS)(X:List Sp.Ed)(w:WR)(r:Xg X=N)(h:w.ownsRow B 162 3 v N (dp X))(u:N<=5000):WT prog 105 #[v,.func (.func 106) #[] #[]] w λe j=>e=.returned (WX #[])/\∃b,j.ownsRow B 162 3 v N (dp b)/\w.grownBy j v.ownBlock/\St X b/\Ord b 0 N:=by
 rcases h.2 with ⟨l,z⟩|⟨g,m,A,l,_⟩
 .subst l z;refine(vq _ w).mono ?_;rintro e j ⟨rfl,rfl⟩;exact⟨O,X,h,iv _ _,St.refl _,λs t x y C F G=>by omega⟩
 .subst l;exact vV g m B N X w r h u
end
end Go.Proofs.YtgkkdpegcieakaaGreatDoor
