import Derived.Test.YtgkkdpegcieakaaGreatDoorCv20
set_option linter.all false
set_option maxRecDepth 100000
set_option maxHeartbeats 0
namespace Go.Proofs.YtgkkdpegcieakaaGreatDoor
open Go.Proofs.Tryz
open Value renaming int→Z,slice→J,tuple→Wb
open Option renaming none→U,some→S
open List renaming length→Wn
open IntKind renaming i64→Y
open Go renaming World→V5,Value→V6,Calls→V7
section
open Go.RowKit
def sR(b:List Sp.Ed)(s p:Nat):Prop := ∀C:Nat->Prop,C 0->(∀q,C q->Ord b q (q+s)->C (q+s))->C p
variable {s:Nat}
theorem sR.zero{b:List Sp.Ed}: sR b s 0:=λ_ h _=>h
variable {p:Nat}
theorem sR.step{b:List Sp.Ed}(h:sR b s p)(o:Ord b p (p+s)): sR b s (p+s):=λC j e=>e p (h C j e) o
def Bl(b:List Sp.Ed)(s n p:Nat):Prop := ∀C:Nat->Prop,(∀q,n<=q+s->Ord b q n->C q)->(∀q,q+s<=n->Ord b q (q+s)->C (q+s)->C q)->C p
variable {n:Nat}
theorem Bl.last{b:List Sp.Ed}(h:n<=p+s)(o:Ord b p n): Bl b s n p:=λ_ e _=>e p h o
theorem Bl.more{e:List Sp.Ed}(h:p+s<=n)(o:Ord e p (p+s))(b:Bl e s n (p+s)): Bl e s n p:=λC l j=>j p h o (b C l j)
theorem Bl.inv{b:List Sp.Ed}(h:Bl b s n p): (n<=p+s/\Ord b p n)\/(p+s<=n/\Ord b p (p+s)/\Bl b s n (p+s)):=h (λp=>(n<=p+s/\Ord b p n)\/(p+s<=n/\Ord b p (p+s)/\Bl b s n (p+s))) (λq j l=>Or.inl ⟨j,l⟩) λq j l m=>Or.inr ⟨j,l,m.elim (λe=>.last e.1 e.2) (λe=>.more e.1 e.2.1 e.2.2)⟩
theorem uZ{e j:List Sp.Ed}{a b:Nat}(h:Ord e a b)(k:∀t,a<=t->t<b->j[t]?=e[t]?):Ord j a b:=by
 intro s t x y r u z l m;rw[k s (by omega) (by omega)] at l;rw[k t (by omega) (by omega)] at m;exact h _ _ _ _ r u z l m
theorem sR.same{b e:List Sp.Ed}(h:sR b s p)(k:∀t,t<p->e[t]?=b[t]?): sR e s p:=h (λp=>(∀t,t<p->e[t]?=b[t]?)->sR e s p) (λ_=>.zero) (λq l o k=>.step (l (λt j=>k t (by omega))) (uZ o (λt _ j=>k t j))) k
theorem Bl.same{b e:List Sp.Ed}(h:Bl b s n p)(k:∀t,p<=t->e[t]?=b[t]?): Bl e s n p:=h (λp=>(∀t,p<=t->e[t]?=b[t]?)->Bl e s n p) (λq l m k=>.last l (uZ m (λt j _=>k t j))) (λq l m r k=>.more l (uZ m (λt j _=>k t j)) (r (λt j=>k t (by omega)))) k
theorem sR.bl{b:List Sp.Ed}(h:sR b s p)(e:p<=n)(k:Bl b s n p): Bl b s n 0:=h (λp=>p<=n->Bl b s n p->Bl b s n 0) (λ_ k=>k) (λq j o e k=>j (by omega) (.more e o k)) e k
theorem Bl.fin{b:List Sp.Ed}(h:Bl b s n p)(l:n<=p+s): Ord b p n:=by
 rcases h.inv with ⟨j,e⟩|⟨j,e,m⟩
 .exact e
 .rw[show n=p+s by omega];exact e
theorem Bl.two{e:List Sp.Ed}(h:Bl e s n p)(A:0<s)(B:p+2*s<=n): Ord e p (p+s)/\Ord e (p+s) (p+2*s)/\Bl e s n (p+2*s):=by
 rcases h.inv with ⟨r,l⟩|⟨r,l,u⟩
 .omega
 .refine⟨l,?_⟩;rcases u.inv with ⟨z,j⟩|⟨z,j,m⟩
  .obtain rfl:n=p+2*s:=by omega
   exact⟨j,.last (by omega) (λa b x y C F G=>by omega)⟩
  .rw[show p+s+s=p+2*s by omega] at j m;exact⟨j,m⟩
theorem Bl.one{b:List Sp.Ed}(h:Bl b s n p)(r:p+s<n)(j:n<p+2*s): Ord b p (p+s)/\Ord b (p+s) n:=by
 rcases h.inv with ⟨l,e⟩|⟨l,e,m⟩
 .omega
 .exact⟨e,m.fin (by omega)⟩
theorem rA(g cap B a b N:Nat)(l m:Int)(X:List Sp.Ed)(w:V5)(ha:l=(a:Int))(e:m=(b:Int))(r:Wn X=N)(h:w.ownsRow B 162 3 (J (S ⟨g,0,U⟩) N cap) N (dq X))(j:a<=b)(hb:b<=N)(u:N<=5000):V7 prog 222 #[J (S ⟨g,0,U⟩) N cap,Z Y l,Z Y m,.func (.func 106) #[] #[]] w (FK g cap B N a b X w):=by
 subst ha e;exact wH g cap B a b N X w r h j hb u
theorem tH(g cap B a m b N:Nat)(r u y:Int)(X:List Sp.Ed)(w:V5)(ha:r=(a:Int))(z:u=(m:Int))(e:y=(b:Int))(A:Wn X=N)(h:w.ownsRow B 162 3 (J (S ⟨g,0,U⟩) N cap) N (dq X))(j:a<m)(l:m<b)(hb:b<=N)(C:N<=5000)(h1:Ord X a m)(h2:Ord X m b):V7 prog 223 #[J (S ⟨g,0,U⟩) N cap,Z Y r,Z Y u,Z Y y,.func (.func 106) #[] #[]] w (ri g cap B N a b X w):=by
 subst ha z e;exact qR g cap B N C _ a m b X w V2 A h j l hb h1 h2
def Ld(g cap B N:Nat)(X:List Sp.Ed)(w:V5)(e:Ending)(w':V5):Prop:=e=.returned (Wb #[])/\∃b,w'.ownsRow B 162 3 (J (S ⟨g,0,U⟩) N cap) N (dq b)/\w.grownBy w' (S g)/\St X b/\Ord b 0 N
theorem D8(g cap B N:Nat)(X:List Sp.Ed)(w:V5)(hX:Wn X=N)(h:w.ownsRow B 162 3 (J (S ⟨g,0,U⟩) N cap) N (dq X))(hl:N<=5000):V7 prog 159 #[J (S ⟨g,0,U⟩) N cap,Z Y N,.func (.func 106) #[] #[]] w (Ld g cap B N X w):=by
 have HX:=cU hX;clear hX;go_enter func159,ntmps159;go_wp2
 go_loopw [7,8] (λu v wr=>∃(a:Nat) (b:List Sp.Ed),u=Z Y a/\v=Z Y ((a+20:Nat):Int)/\a<=N/\wr.ownsRow B 162 3 (J (S ⟨g,0,U⟩) N cap) N (dq b)/\w.grownBy wr (S g)/\Hid (Wn b=N)/\Hid (St X b)/\Hid (sR b 20 a)) (λu _ _=>N-(intOf u).toNat)
 case atStart=>exact⟨0,X,rfl,rfl,Tp _,h,ig _ _,HX,St.refl _,.zero⟩
 case round =>
  obtain⟨a,b,rfl,rfl,F,T,y,V,A,W⟩:=hrel;clear h;by_cases ae:a+20<=N
  .have z:(a:Int)+20<=(N:Int):=by omega
   go_wp2_with (go_at_call 222;refine(rA g cap B a (a+20) N _ _ b _ (by omega) (by omega) (cT V) T (by omega) (by omega) hl).mono ?_;rintro e w2 ⟨rfl,j,m,r,G,I,K⟩;have C:=cU G;have P:=cU I;have Q:=cU K;clear G I K);go_roundw
   case rel=>exact⟨a+20,j,by go_num,by go_num,by omega,m,dC y r,(cT C).1.trans (cT V),(cT A).trans (cT C),.step ((cT W).same (λt R=>(cT Q) t (Or.inl R))) (cT P)⟩
   case measure=>simp[intOf];omega
  .have z:¬(a:Int)+20<=(N:Int):=by omega
   go_wp2_with (go_at_call 222;refine(rA g cap B a N N _ _ b _ (by omega) (by omega) (cT V) T (by omega) (by omega) hl).mono ?_;rintro e w2 ⟨rfl,j,m,r,G,I,K⟩;have C:=cU G;have P:=cU I;have Q:=cU K;clear G I K);have HB:Hid (Bl j 20 N 0):=((cT W).same (λt R=>(cT Q) t (Or.inl R))).bl F (.last (by omega) (cT P));have af:=cU ((cT A).trans (cT C));have ag:Hid (Wn j=N):=(cT C).1.trans (cT V);have ah:=dC y r;clear P Q C W T y V A z ae F r
   go_loopw [6] (λu wr=>∃(s:Nat) (b:List Sp.Ed),u=Z Y s/\20<=s/\s<=20000/\wr.ownsRow B 162 3 (J (S ⟨g,0,U⟩) N cap) N (dq b)/\w.grownBy wr (S g)/\Hid (Wn b=N)/\Hid (St X b)/\Hid (Bl b s N 0)) (λu _=>20000-(intOf u).toNat)
   case atStart=>exact⟨20,j,rfl,Te _,by omega,m,ah,ag,af,HB⟩
   case round =>
    obtain⟨s,b,rfl,an,ao,T,y,V,A,HB⟩:=hrel;clear m ah ag af;by_cases ae:s<N
    .have z:(s:Int)<(N:Int):=by omega
     have aq:IntKind.i64.wrap (2*(s:Int))=2*(s:Int):=by rw[TJ];omega
     have ar:IntKind.i64.wrap ((s:Int)*2)=(s:Int)*2:=by rw[TJ];omega
     go_wp2
     go_loopw [7,8] (λu v ai=>∃(a:Nat) (j:List Sp.Ed),u=Z Y a/\v=Z Y ((a+2*s:Nat):Int)/\a<=N/\ai.ownsRow B 162 3 (J (S ⟨g,0,U⟩) N cap) N (dq j)/\w.grownBy ai (S g)/\Hid (Wn j=N)/\Hid (St X j)/\Hid (sR j (2*s) a)/\Hid (Bl j s N a)) (λu _ _=>N-(intOf u).toNat)
     case atStart=>exact⟨0,b,rfl,by go_num,Tp _,T,y,V,A,.zero,HB⟩
     case round =>
      obtain⟨a,j,rfl,rfl,F,m,r,HZ,L,W,q⟩:=hrel;clear T y;have au:IntKind.i64.wrap ((a:Int)+(s:Int))=(a:Int)+(s:Int):=by rw[TJ];omega
      by_cases aj:a+2*s<=N
      .have o:(a:Int)+2*(s:Int)<=(N:Int):=by omega
       have HT:=cU ((cT q).two (by omega) aj);go_wp2_with (go_at_call 223;refine(tH g cap B a (a+s) (a+2*s) N _ _ _ j _ (by omega) (by omega) (by omega) (cT HZ) m (by omega) (by omega) (by omega) hl (cT HT).1 (cT HT).2.1).mono ?_;rintro e w3 ⟨rfl,Z',aa,ab,M⟩;have l:=cU M;clear M);go_roundw
       case rel=>exact⟨a+2*s,Z',by go_num,by go_num,by omega,aa,dC r ab,(cT l).1.1.trans (cT HZ),(cT L).trans (cT l).1,.step ((cT W).same (λt R=>(cT l).2.2.1 t (Or.inl R))) (cT l).2.1,(cT HT).2.2.same (λt R=>(cT l).2.2.1 t (Or.inr R))⟩
       case measure=>simp[intOf];omega
      .have o:¬(a:Int)+2*(s:Int)<=(N:Int):=by omega
       by_cases ak:a+s<N
       .have ad:(a:Int)+(s:Int)<(N:Int):=by omega
        have HT:=cU ((cT q).one ak (by omega));go_wp2_with (go_at_call 223;refine(tH g cap B a (a+s) N N _ _ _ j _ (by omega) (by omega) (by omega) (cT HZ) m (by omega) (by omega) (by omega) hl (cT HT).1 (cT HT).2).mono ?_;rintro e w3 ⟨rfl,Z',aa,ab,M⟩;have l:=cU M;clear M);go_roundw
        case rel=>exact⟨2*s,Z',by go_num,by omega,by omega,aa,dC r ab,(cT l).1.1.trans (cT HZ),(cT L).trans (cT l).1,((cT W).same (λt R=>(cT l).2.2.1 t (Or.inl R))).bl F (.last (by omega) (cT l).2.1)⟩
        case measure=>simp[intOf];omega
       .have ad:¬(a:Int)+(s:Int)<(N:Int):=by omega
        go_wp2;go_roundw
        case rel=>exact⟨2*s,j,by go_num,by omega,by omega,m,r,HZ,L,(cT W).bl F (.last (by omega) ((cT q).fin (by omega)))⟩
        case measure=>simp[intOf];omega
    .have z:¬(s:Int)<(N:Int):=by omega
     go_wp2
     go_end0
     exact⟨O,b,T,y,cT A,(cT HB).fin (by omega)⟩
theorem v8(g cap B N:Nat)(X:List Sp.Ed)(w:V5)(b:Wn X=N)(h:w.ownsRow B 162 3 (J (S ⟨g,0,U⟩) N cap) N (dq X))(j:N<=5000):V7 prog 105 #[J (S ⟨g,0,U⟩) N cap,.func (.func 106) #[] #[]] w (Ld g cap B N X w):=by
 have l:=cU b;clear b;go_enter func105,ntmps105;go_wp2_with (go_at_call 159;refine(D8 g cap B N X _ (cT l) h j).mono ?_;rintro e r ⟨rfl,m⟩)
 go_end0
 exact⟨O,m⟩
theorem wT(b:V6)(w:V5):V7 prog 222 #[J U 0 0,Z Y 0,Z Y 0,b] w λe j=>e=.returned (Wb #[])/\j=w:=by
 go_enter func222,ntmps222;go_wp2;refine wp_loop_rounds 1 ?_;rw[rounds_succ];go_wp2
 go_end0
 exact⟨O,O⟩
theorem C5(b:V6)(w:V5):V7 prog 159 #[J U 0 0,Z Y 0,b] w λe j=>e=.returned (Wb #[])/\j=w:=by
 go_enter func159,ntmps159;go_wp2;refine wp_loop_rounds 1 ?_;rw[rounds_succ];go_wp2_with (go_at_call 222;refine(wT _ _).mono ?_;rintro e m ⟨rfl,l⟩;obtain rfl:=l.symm);refine wp_loop_rounds 1 ?_;rw[rounds_succ];go_wp2
 go_end0
 exact⟨O,O⟩
theorem vK(b:V6)(w:V5):V7 prog 105 #[J U 0 0,b] w λe j=>e=.returned (Wb #[])/\j=w:=by
 go_enter func105,ntmps105;go_wp2_with (go_at_call 159;refine(C5 _ _).mono ?_;rintro e m ⟨rfl,l⟩;obtain rfl:=l.symm)
 go_end0
 exact⟨O,O⟩
theorem GA(B N:Nat)(v:V6)(X:List Sp.Ed)(w:V5)(r:Wn X=N)(h:w.ownsRow B 162 3 v N (dq X))(u:N<=5000):V7 prog 105 #[v,.func (.func 106) #[] #[]] w λe j=>e=.returned (Wb #[])/\∃b,j.ownsRow B 162 3 v N (dq b)/\w.grownBy j v.ownBlock/\St X b/\Ord b 0 N:=by
 rcases h.2 with ⟨l,z⟩|⟨g,m,A,l,_⟩
 .subst l z;refine(vK _ w).mono ?_;rintro e j ⟨rfl,rfl⟩;exact⟨O,X,h,ig _ _,St.refl _,λs t x y C F G=>by omega⟩
 .subst l;exact v8 g m B N X w r h u
end
end Go.Proofs.YtgkkdpegcieakaaGreatDoor
