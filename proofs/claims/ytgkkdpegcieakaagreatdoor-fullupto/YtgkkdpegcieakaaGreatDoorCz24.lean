import Derived.Test.YtgkkdpegcieakaaGreatDoorCz23
set_option linter.unusedVariables false
set_option linter.unusedSimpArgs false
set_option maxRecDepth 100000
set_option maxHeartbeats 16000000
namespace Go.Proofs.YtgkkdpegcieakaaGreatDoor
open Go.Proofs.Tryz
open Value renaming int→Z
open IntKind renaming i64→Y
open Go renaming World→TJ,Value→TK,Calls→TL
section
open Go.RowKit
inductive wK (Y:List Sp.Ed) (s:Nat):Nat->Prop
 |zero:wK Y s 0
 |step {p:Nat}:wK Y s p->Ord Y p (p+s)->wK Y s (p+s)
inductive Bl (Y:List Sp.Ed) (s n:Nat):Nat->Prop
 |last {p:Nat}:n<=p+s->Ord Y p n->Bl Y s n p
 |more {p:Nat}:p+s<=n->Ord Y p (p+s)->Bl Y s n (p+s)->Bl Y s n p
theorem ve{e j:List Sp.Ed}{a b:Nat}(h:Ord e a b)(k:∀t,a<=t->t<b->j[t]?=e[t]?):Ord j a b:=by
 intro s t x y r u z l m;rw[k s (by omega) (by omega)] at l;rw[k t (by omega) (by omega)] at m;exact h _ _ _ _ r u z l m
variable {s p:Nat}
theorem wK.same{b e:List Sp.Ed}(h:wK b s p)(k:∀t,t<p->e[t]?=b[t]?): wK e s p:=by
 induction h with
 |zero=>exact .zero
 |step r l m=>exact .step (m (λt j=>k t (by omega))) (ve l (λt _ j=>k t j))
variable {n:Nat}
theorem Bl.same{b e:List Sp.Ed}(h:Bl b s n p)(k:∀t,p<=t->e[t]?=b[t]?): Bl e s n p:=by
 induction h with
 |last l m=>exact .last l (ve m (λt j _=>k t j))
 |more l m u r=>exact .more l (ve m (λt j _=>k t j)) (r (λt j=>k t (by omega)))
theorem wK.bl{b:List Sp.Ed}(h:wK b s p)(e:p<=n)(k:Bl b s n p): Bl b s n 0:=by
 induction h with
 |zero=>exact k
 |step m j l=>exact l (by omega) (.more e j k)
theorem Bl.fin{b:List Sp.Ed}(h:Bl b s n p)(l:n<=p+s): Ord b p n:=by
 cases h with
 |last j e=>exact e
 |more j e m=>rw[show n=p+s by omega];exact e
theorem Bl.two{e:List Sp.Ed}(h:Bl e s n p)(u:0<s)(z:p+2*s<=n): Ord e p (p+s)/\Ord e (p+s) (p+2*s)/\Bl e s n (p+2*s):=by
 cases h with
 |last m j=>omega
 |more m j r =>
  refine⟨j,?_⟩;cases r with
  |last k1 k2 =>
   obtain rfl:n=p+2*s:=by omega
   exact⟨k2,.last (by omega) (λa b x y A B C=>by omega)⟩
  |more k1 k2 l =>
   rw[show p+s+s=p+2*s by omega] at k2 l;exact⟨k2,l⟩
theorem Bl.one{b:List Sp.Ed}(h:Bl b s n p)(r:p+s<n)(j:n<p+2*s): Ord b p (p+s)/\Ord b (p+s) n:=by
 cases h with
 |last l e=>omega
 |more l e m=>exact⟨e,m.fin (by omega)⟩
theorem rK(g cap B a b N:Nat)(l m:Int)(X:List Sp.Ed)(w:TJ)(ha:l=(a:Int))(e:m=(b:Int))(r:X.length=N)(h:w.ownsRow B 162 3 (.slice (some ⟨g,0,none⟩) N cap) N (dh X))(j:a<=b)(hb:b<=N)(u:N<=5000):TL prog 222 #[.slice (some ⟨g,0,none⟩) N cap,Z Y l,Z Y m,.func (.func 106) #[] #[]] w (DQ g cap B N a b X w):=by
 subst ha e;exact wN g cap B a b N X w r h j hb u
theorem tE(g cap B a m b N:Nat)(r u y:Int)(X:List Sp.Ed)(w:TJ)(ha:r=(a:Int))(z:u=(m:Int))(e:y=(b:Int))(A:X.length=N)(h:w.ownsRow B 162 3 (.slice (some ⟨g,0,none⟩) N cap) N (dh X))(j:a<m)(l:m<b)(hb:b<=N)(C:N<=5000)(h1:Ord X a m)(h2:Ord X m b):TL prog 223 #[.slice (some ⟨g,0,none⟩) N cap,Z Y r,Z Y u,Z Y y,.func (.func 106) #[] #[]] w (qS g cap B N a b X w):=by
 subst ha z e;exact rI g cap B N C _ a m b X w TG A h j l hb h1 h2
def GL(g cap B N:Nat)(X:List Sp.Ed)(w:TJ)(e:Ending)(w':TJ):Prop:=e=.returned (.tuple #[])/\∃b,w'.ownsRow B 162 3 (.slice (some ⟨g,0,none⟩) N cap) N (dh b)/\w.grownBy w' (some g)/\St X b/\Ord b 0 N
theorem Cz(g cap B N:Nat)(X:List Sp.Ed)(w:TJ)(hX:X.length=N)(h:w.ownsRow B 162 3 (.slice (some ⟨g,0,none⟩) N cap) N (dh X))(hl:N<=5000):TL prog 159 #[.slice (some ⟨g,0,none⟩) N cap,Z Y N,.func (.func 106) #[] #[]] w (GL g cap B N X w):=by
 have HX:=cP hX;clear hX;go_enter func159,ntmps159;go_wp2
 go_loopw [7,8] (λu v wr=>∃(a:Nat) (b:List Sp.Ed),u=Z Y a/\v=Z Y ((a+20:Nat):Int)/\a<=N/\wr.ownsRow B 162 3 (.slice (some ⟨g,0,none⟩) N cap) N (dh b)/\w.grownBy wr (some g)/\Hid (b.length=N)/\Hid (St X b)/\Hid (wK b 20 a)) (λu _ _=>N-(intOf u).toNat)
 case atStart=>exact⟨0,X,rfl,rfl,cy _,h,iv _ _,HX,St.refl _,.zero⟩
 case round =>
  obtain⟨a,b,rfl,rfl,D,M,y,O,A,P⟩:=hrel;clear h;by_cases W:a+20<=N
  .have z:(a:Int)+20<=(N:Int):=by omega
   go_wp2_with (go_at_call 222;refine(rK g cap B a (a+20) N _ _ b _ (by omega) (by omega) (cO O) M (by omega) (by omega) hl).mono ?_;rintro e w2 ⟨rfl,j,m,r,E,F,G⟩;have C:=cP E;have J:=cP F;have K:=cP G;clear E F G);go_roundw
   case rel=>exact⟨a+20,j,by go_num,by go_num,by omega,m,dv y r,(cO C).1.trans (cO O),(cO A).trans (cO C),.step ((cO P).same (λt L=>(cO K) t (Or.inl L))) (cO J)⟩
   case measure=>simp[intOf];omega
  .have z:¬(a:Int)+20<=(N:Int):=by omega
   go_wp2_with (go_at_call 222;refine(rK g cap B a N N _ _ b _ (by omega) (by omega) (cO O) M (by omega) (by omega) hl).mono ?_;rintro e w2 ⟨rfl,j,m,r,E,F,G⟩;have C:=cP E;have J:=cP F;have K:=cP G;clear E F G);have HB:Hid (Bl j 20 N 0):=((cO P).same (λt L=>(cO K) t (Or.inl L))).bl D (.last (by omega) (cO J));have q:=cP ((cO A).trans (cO C));have o:Hid (j.length=N):=(cO C).1.trans (cO O);have aa:=dv y r;clear J K C P M y O A z W D r
   go_loopw [6] (λu wr=>∃(s:Nat) (b:List Sp.Ed),u=Z Y s/\20<=s/\s<=20000/\wr.ownsRow B 162 3 (.slice (some ⟨g,0,none⟩) N cap) N (dh b)/\w.grownBy wr (some g)/\Hid (b.length=N)/\Hid (St X b)/\Hid (Bl b s N 0)) (λu _=>20000-(intOf u).toNat)
   case atStart=>exact⟨20,j,rfl,b7 _,by omega,m,aa,o,q,HB⟩
   case round =>
    obtain⟨s,b,rfl,af,ag,M,y,O,A,HB⟩:=hrel;clear m aa o q;by_cases W:s<N
    .have z:(s:Int)<(N:Int):=by omega
     have ah:IntKind.i64.wrap (2*(s:Int))=2*(s:Int):=by rw[fp];omega
     have ai:IntKind.i64.wrap ((s:Int)*2)=(s:Int)*2:=by rw[fp];omega
     go_wp2
     go_loopw [7,8] (λu v ab=>∃(a:Nat) (j:List Sp.Ed),u=Z Y a/\v=Z Y ((a+2*s:Nat):Int)/\a<=N/\ab.ownsRow B 162 3 (.slice (some ⟨g,0,none⟩) N cap) N (dh j)/\w.grownBy ab (some g)/\Hid (j.length=N)/\Hid (St X j)/\Hid (wK j (2*s) a)/\Hid (Bl j s N a)) (λu _ _=>N-(intOf u).toNat)
     case atStart=>exact⟨0,b,rfl,by go_num,cy _,M,y,O,A,.zero,HB⟩
     case round =>
      obtain⟨a,j,rfl,rfl,D,m,r,HZ,H,P,Q⟩:=hrel;clear M y;have aj:IntKind.i64.wrap ((a:Int)+(s:Int))=(a:Int)+(s:Int):=by rw[fp];omega
      by_cases ad:a+2*s<=N
      .have R:(a:Int)+2*(s:Int)<=(N:Int):=by omega
       have V:=cP ((cO Q).two (by omega) ad);go_wp2_with (go_at_call 223;refine(tE g cap B a (a+s) (a+2*s) N _ _ _ j _ (by omega) (by omega) (by omega) (cO HZ) m (by omega) (by omega) (by omega) hl (cO V).1 (cO V).2.1).mono ?_;rintro e w3 ⟨rfl,Z',S,T,I⟩;have l:=cP I;clear I);go_roundw
       case rel=>exact⟨a+2*s,Z',by go_num,by go_num,by omega,S,dv r T,(cO l).1.1.trans (cO HZ),(cO H).trans (cO l).1,.step ((cO P).same (λt L=>(cO l).2.2.1 t (Or.inl L))) (cO l).2.1,(cO V).2.2.same (λt L=>(cO l).2.2.1 t (Or.inr L))⟩
       case measure=>simp[intOf];omega
      .have R:¬(a:Int)+2*(s:Int)<=(N:Int):=by omega
       by_cases ae:a+s<N
       .have U:(a:Int)+(s:Int)<(N:Int):=by omega
        have V:=cP ((cO Q).one ae (by omega));go_wp2_with (go_at_call 223;refine(tE g cap B a (a+s) N N _ _ _ j _ (by omega) (by omega) (by omega) (cO HZ) m (by omega) (by omega) (by omega) hl (cO V).1 (cO V).2).mono ?_;rintro e w3 ⟨rfl,Z',S,T,I⟩;have l:=cP I;clear I);go_roundw
        case rel=>exact⟨2*s,Z',by go_num,by omega,by omega,S,dv r T,(cO l).1.1.trans (cO HZ),(cO H).trans (cO l).1,((cO P).same (λt L=>(cO l).2.2.1 t (Or.inl L))).bl D (.last (by omega) (cO l).2.1)⟩
        case measure=>simp[intOf];omega
       .have U:¬(a:Int)+(s:Int)<(N:Int):=by omega
        go_wp2;go_roundw
        case rel=>exact⟨2*s,j,by go_num,by omega,by omega,m,r,HZ,H,(cO P).bl D (.last (by omega) ((cO Q).fin (by omega)))⟩
        case measure=>simp[intOf];omega
    .have z:¬(s:Int)<(N:Int):=by omega
     go_wp2
     go_end0
     exact⟨rfl,b,M,y,cO A,(cO HB).fin (by omega)⟩
theorem vN(g cap B N:Nat)(X:List Sp.Ed)(w:TJ)(b:X.length=N)(h:w.ownsRow B 162 3 (.slice (some ⟨g,0,none⟩) N cap) N (dh X))(j:N<=5000):TL prog 105 #[.slice (some ⟨g,0,none⟩) N cap,.func (.func 106) #[] #[]] w (GL g cap B N X w):=by
 have l:=cP b;clear b;go_enter func105,ntmps105;go_wp2_with (go_at_call 159;refine(Cz g cap B N X _ (cO l) h j).mono ?_;rintro e r ⟨rfl,m⟩)
 go_end0
 exact⟨rfl,m⟩
theorem wQ(b:TK)(w:TJ):TL prog 222 #[.slice none 0 0,Z Y 0,Z Y 0,b] w λe j=>e=.returned (.tuple #[])/\j=w:=by
 go_enter func222,ntmps222;go_wp2;refine wp_loop_rounds 1 ?_;rw[rounds_succ];go_wp2
 go_end0
 exact⟨rfl,rfl⟩
theorem B1(b:TK)(w:TJ):TL prog 159 #[.slice none 0 0,Z Y 0,b] w λe j=>e=.returned (.tuple #[])/\j=w:=by
 go_enter func159,ntmps159;go_wp2;refine wp_loop_rounds 1 ?_;rw[rounds_succ];go_wp2_with (go_at_call 222;refine(wQ _ _).mono ?_;rintro e m ⟨rfl,l⟩;obtain rfl:=l.symm);refine wp_loop_rounds 1 ?_;rw[rounds_succ];go_wp2
 go_end0
 exact⟨rfl,rfl⟩
theorem vA(b:TK)(w:TJ):TL prog 105 #[.slice none 0 0,b] w λe j=>e=.returned (.tuple #[])/\j=w:=by
 go_enter func105,ntmps105;go_wp2_with (go_at_call 159;refine(B1 _ _).mono ?_;rintro e m ⟨rfl,l⟩;obtain rfl:=l.symm)
 go_end0
 exact⟨rfl,rfl⟩
theorem Fa(B N:Nat)(v:TK)(X:List Sp.Ed)(w:TJ)(r:X.length=N)(h:w.ownsRow B 162 3 v N (dh X))(u:N<=5000):TL prog 105 #[v,.func (.func 106) #[] #[]] w λe j=>e=.returned (.tuple #[])/\∃b,j.ownsRow B 162 3 v N (dh b)/\w.grownBy j v.ownBlock/\St X b/\Ord b 0 N:=by
 rcases h.2 with ⟨l,z⟩|⟨g,m,A,l,_⟩
 .subst l z;refine(vA _ w).mono ?_;rintro e j ⟨rfl,rfl⟩;exact⟨rfl,X,h,iv _ _,St.refl _,λs t x y C D E=>by omega⟩
 .subst l;exact vN g m B N X w r h u
end
end Go.Proofs.YtgkkdpegcieakaaGreatDoor
