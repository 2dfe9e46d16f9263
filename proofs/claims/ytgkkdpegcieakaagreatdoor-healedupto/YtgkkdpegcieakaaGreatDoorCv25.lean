import Derived.Test.YtgkkdpegcieakaaGreatDoorCv14
import Derived.Test.YtgkkdpegcieakaaGreatDoorCv08
set_option linter.all false
set_option maxRecDepth 100000
set_option maxHeartbeats 0
namespace Go.Proofs.YtgkkdpegcieakaaGreatDoor
open Go.Proofs.Tryz
open Value renaming int→Z,slice→J,pointer→V9,bool→Wa,tuple→Wb,agg→Wc
open Ending renaming returned→Wd
open Obj renaming cells→D
open Option renaming none→U,some→S
open Bool renaming true→We,false→Wg
open Or renaming inl→Wh,inr→Wi
open List renaming length→Wn
open _root_.Array renaming size→N
open World renaming alloc→Wl,heap→E
open IntKind renaming i64→Y
open Go renaming World→V5,Value→V6,Calls→V7
namespace Rt
open Go.RowKit Dk
def su(k:Nat)(e:Sn.Ce):List V6:=[Z Y (k:Int),Z Y (k:Int),J e.p e.n e.c,Z Y e.al]
def kU(k:Nat)(e:Sn.Ce):V6 := Wc #[Z Y (k:Int),J e.p e.n e.c,Z Y e.al]
def kE(x y:Nat):Int:=if Sn.lt x y=We then -1 else if Sn.lt y x=We then 1 else 0
theorem ky(x:Int)(w:V5):V7 prog 160 #[Z Y x] w λe b=>e=Wd (Wa Wg)/\b=w:=by
 go_enter func160,ntmps160;go_wp2;go_ret;exact⟨by simp,O⟩
theorem oL(x y:Nat)(w:V5):V7 prog 108 #[Z Y (x:Int),Z Y (y:Int)] w λe j=>e=Wd (Z Y (kE x y))/\j=w:=by
 rcases Nat.lt_trichotomy x y with h|h|h
 .have b:kE x y = -1:=Tg (by simpa [Sn.lt] using h);have l:(x:Int)<(y:Int):=by omega
  rw[b];clear b h;go_enter func108,ntmps108;go_wp2_with (go_at_call 160;refine(ky _ _).mono ?_;rintro e j ⟨rfl,rfl⟩);go_ret;exact⟨O,O⟩
 .subst h;have b:kE x x=0:=by simp[kE,Sn.lt_irrefl]
  rw[b];clear b;go_enter func108,ntmps108;go_wp2_with (go_at_call 160;refine(ky _ _).mono ?_;rintro e j ⟨rfl,rfl⟩);go_ret;exact⟨O,O⟩
 .have b:kE x y=1:=by simp[kE,Sn.lt];omega
  have l:¬(x:Int)<(y:Int):=by omega
  have m:¬(x:Int)=(y:Int):=by omega
  have r:(y:Int)<(x:Int):=by omega
  rw[b];clear b h;go_enter func108,ntmps108;go_wp2_with (go_at_call 160;refine(ky _ _).mono ?_;rintro e j ⟨rfl,rfl⟩);go_ret;exact⟨O,O⟩
theorem iy(a s:Nat)(q:Option Addr)(j l:Nat)(m:Int)(y:Nat)(w:V5):V7 prog 125 #[Wc #[Z Y (a:Int),Z Y (s:Int),J q j l,Z Y m],Z Y (y:Int)] w λe b=>e=Wd (Z Y (kE a y))/\V4 w b:=by
 go_enter func125,ntmps125;go_wp2_with (go_at_call 108;refine(oL _ _ _).mono ?_;rintro e b ⟨rfl,rfl⟩);go_ret;exact⟨O,V3.alloc V2 _⟩
def ik(w:V5)(p:Option Addr)(T:Sn.Tb):Prop := ∀j (h:j<Wn T),∃g,p=S ⟨g,0,U⟩/\w.cell? ⟨g,j*4,U⟩=S (Z Y ((T[j]).1:Int))/\w.cell? ⟨g,j*4+1,U⟩=S (Z Y ((T[j]).1:Int))/\w.cell? ⟨g,j*4+2,U⟩=S (J (T[j]).2.p (T[j]).2.n (T[j]).2.c)/\w.cell? ⟨g,j*4+3,U⟩=S (Z Y (T[j]).2.al)
theorem ik.below{w w':V5}{p:Option Addr}{T:Sn.Tb}(h:ik w p T)(hb:V4 w w'):ik w' p T:=λj u=>by
 obtain⟨g,e,b,l,m,r⟩:=h j u;exact⟨g,e,(hb.cell (Tu w _ b)).trans b,(hb.cell (Tu w _ l)).trans l,(hb.cell (Tu w _ m)).trans m,(hb.cell (Tu w _ r)).trans r⟩
theorem my(p:Option Addr)(cap:Nat)(T:Sn.Tb)(y:Nat)(w:V5)(h:ik w p T)(t:Sn.dj T)(hl:Wn T<=1000000000):V7 prog 124 #[J p (Wn T) cap,Z Y (y:Int),.func (.func 125) #[] #[]] w λe s=>e=Wd (Wb #[Z Y (Sn.dv T y:Nat),Wa (Sn.dD T y)])/\V4 w s:=by
 go_enter func124,ntmps124;go_wp2
 go_loopw [9,10] (λa b wr=>∃i j:Nat,i<=j/\j<=Wn T/\a=Z Y i/\b=Z Y j/\V4 w wr/\(∀k (I:k<Wn T),k<i->Sn.lt (T[k]).1 y=We)/\(∀k (I:k<Wn T),j<=k->Sn.lt (T[k]).1 y=Wg)) (λa b _=>(intOf b-intOf a).toNat)
 case atStart=>exact⟨0,Wn T,Tp _,Te _,rfl,rfl,Th _ _,λk I h=>by omega,λk I h=>by omega⟩
 case round =>
  obtain⟨i,j,af,hj,rfl,rfl,r,K,L⟩:=hrel;have M:=cU K;have P:=cU L;clear K L;by_cases ag:i<j
  .have aa:(i+j)/2<Wn T:=by omega
   have ah:i<=(i+j)/2:=by omega
   have ai:(i+j)/2<j:=by omega
   have ae:(i:Int)<(j:Int):=by omega
   obtain⟨g,hp,c0,c1,Q,R⟩:=(h.below r) ((i+j)/2) (by omega)
   subst hp;obtain⟨x,z⟩:∃x,(T[(i+j)/2]).1=x:=⟨_,rfl⟩
   obtain⟨⟨q,o,qc,qa⟩,V⟩:∃x,(T[(i+j)/2]).2=x:=⟨_,rfl⟩
   rw[z] at c0 c1;rw[V] at Q R;dsimp only at Q R;have W:=cU z;clear z V;cases l:Sn.lt x y with
   |true =>
    have A:=cU l;have HC:Hid (kE x y = -1):=Tg l;clear l;go_wp2_with (go_at_call 125;refine(iy x x q o qc qa y _).mono ?_;rintro e s ⟨rfl,m⟩;rw[cT HC]);go_roundw
    case rel =>
     refine⟨(i+j)/2+1,j,by omega,hj,by go_num,O,r.trans (m.mono r.size),λk I ab=>?_,cT P⟩;have u:=Sn.fg t (i:=k) (j:=(i+j)/2) (by omega) aa;rw[cT W] at u;exact Sn.oW u (cT A)
    case measure=>simp[intOf];omega
   |false =>
    have HC:Hid (0<=kE x y):=by show _<=_;unfold kE;rw[l];simp;split <;> omega
    have A:=cU l;clear l;obtain⟨c,B⟩:∃c,kE x y=c:=⟨_,rfl⟩
    rw[B] at HC;have C:=cU B;have aj:0<=c:=cT HC;clear B;go_wp2_with (go_at_call 125;refine(iy x x q o qc qa y _).mono ?_;rintro e s ⟨rfl,m⟩;rw[cT C]);go_roundw
    case rel =>
     refine⟨i,(i+j)/2,by omega,by omega,O,by go_num,r.trans (m.mono r.size),cT M,λk I ab=>?_⟩;have u:=Sn.fg t (i:=(i+j)/2) (j:=k) (by omega) I;rw[cT W] at u;cases h2:Sn.lt (T[k]).1 y with
     |false=>rfl
     |true=>have:=Sn.oW u h2;rw[cT A] at this;cases this
    case measure=>simp[intOf];omega
  .have ad:j=i:=by omega
   subst ad;have F:Hid (Sn.dv T y=j):=Sn.jM hj (cT M) (cT P);by_cases G:j<Wn T
   .have X:(j:Int)<(Wn T:Int):=by omega
    obtain⟨g,hp,c0,c1,Q,R⟩:=(h.below r) j G;subst hp;have HH:=cU (Sn.iV t y);obtain⟨x,z⟩:∃x,(T[j]).1=x:=⟨_,rfl⟩
    obtain⟨⟨q,o,qc,qa⟩,V⟩:∃x,(T[j]).2=x:=⟨_,rfl⟩
    rw[z] at c0 c1;rw[V] at Q R;dsimp only at Q R;have W:=cU z;clear z V;obtain⟨c,B⟩:∃c,kE x y=c:=⟨_,rfl⟩
    have C:=cU B;have HE:Hid (Sn.dD T y=(c == 0)):=by
     show _=_
     have u:(c == 0)=decide (x=y):=by
      rw[<-B];unfold kE;rcases Sn.qz x y with h|h|h
      .rw[Tg h,TE (Sn.sd h)];rfl
      .subst h;simp[Sn.lt_irrefl]
      .rw[Sn.lt_asymm h,Tf (by decide),Tg h,TE (λe=>Sn.sd h e.symm)];rfl
     rw[u];apply Bool.eq_iff_iff.2;rw[cT HH,decide_eq_true_iff];constructor
     .rintro⟨hq,e⟩;have e2:T[Sn.dv T y]=T[j]:=by congr 1 <;> exact cT F
      rw[e2] at e;rw[<-e];exact(cT W).symm
     .intro e;have e2:T[Sn.dv T y]'(by rw[cT F];exact G)=T[j]:=by congr 1 <;> exact cT F
      exact⟨by rw[cT F];exact G,by rw[e2];exact(cT W).trans e⟩
    clear B;go_wp2_with (go_at_call 125;refine(iy x x q o qc qa y _).mono ?_;rintro e s ⟨rfl,m⟩;rw[cT C]);exact Tj (v := Wb #[Z Y j,Wa (c == 0)]) (by simp[results,results124,go_sem]) O ⟨by rw[cT F,cT HE],r.trans (m.mono r.size)⟩
   .have X:¬(j:Int)<(Wn T:Int):=by omega
    have ak:(Wn T:Int)<=(j:Int):=by omega
    have HE:Hid (Sn.dD T y=Wg):=by
     show _=_
     cases hq:Sn.dD T y with
     |false=>rfl
     |true=>obtain⟨u,_⟩:=(Sn.iV t y).1 hq;rw[cT F] at u;omega
    go_wp2;exact Tj (v := Wb #[Z Y j,Wa Wg]) (by simp[results,results124,go_sem]) O ⟨by rw[cT F,cT HE],r⟩
end Rt
namespace Rt
open Go.RowKit Dk
def cV(T:Sn.Tb):List V6:=T.flatMap λp=>su p.1 p.2
theorem pH(p:Nat × Sn.Ce)(t:Sn.Tb):cV (p::t)=Z Y (p.1:Int)::Z Y (p.1:Int)::J p.2.p p.2.n p.2.c::Z Y p.2.al::cV t:=by simp[cV,su]
theorem eJ(T:Sn.Tb):(cV T).length=Wn T*4:=by
 induction T with
 |nil=>rfl
 |cons p t b=>rw[pH];simp;omega
theorem kC(A B:Sn.Tb):cV (A++B)=cV A++cV B:=by simp[cV]
theorem mW(T:Sn.Tb):∀j (h:j<Wn T),(cV T)[j*4]?=S (Z Y ((T[j]).1:Int))/\(cV T)[j*4+1]?=S (Z Y ((T[j]).1:Int))/\(cV T)[j*4+2]?=S (J (T[j]).2.p (T[j]).2.n (T[j]).2.c)/\(cV T)[j*4+3]?=S (Z Y (T[j]).2.al):=by
 induction T with
 |nil=>intro j h;simp at h
 |cons p t b =>
  intro j h;rw[pH];cases j with
  |zero=>simp
  |succ j =>
   have:=b j (by simpa using h);rw[show (j+1)*4=j*4+1+1+1+1 by omega];simpa using this
theorem BV(k:Nat)(e:Sn.Ce):∀u∈su k e,u.oneCell'=We:=by
 intro u hu;simp[su] at hu;rcases hu with rfl|rfl|rfl <;> rfl
theorem mA(T:Sn.Tb):∀u∈cV T,u.oneCell'=We:=by
 intro u hu;obtain⟨p,_,b⟩:=UM.1 hu;exact BV _ _ u b
theorem dS{w:V5}{B:Nat}{v:V6}{T:Sn.Tb}(h:w.ownsRow B 181 4 v (Wn T) (cV T)):∃p b,v=J p (Wn T) b/\ik w p T:=by
 have l:=h;rcases h.2 with ⟨m,r⟩|⟨g,b,u,m,_⟩
 .subst m;refine⟨U,0,by rw[r],λj e=>by omega⟩
 .subst m;refine⟨S ⟨g,0,U⟩,b,O,λj e=>⟨g,O,?_,?_,?_,?_⟩⟩
  .rw[l.cellAt _ (by omega)];exact(mW T j e).1
  .rw[l.cellAt _ (by omega)];exact(mW T j e).2.1
  .rw[l.cellAt _ (by omega)];exact(mW T j e).2.2.1
  .rw[l.cellAt _ (by omega)];exact(mW T j e).2.2.2
theorem info_centry:(prog.info? 181).map (λi=>(i.zero,i.size,i.bytes))=S (S (Wc #[Z Y 0,Z Y 0,J U 0 0,Z Y 0]),4,48):=by kernel_rfl
theorem nY(T:Sn.Tb)(i:Nat):(cV T).take (i*4)=cV (T.take i):=by
 induction T generalizing i with
 |nil=>simp[cV]
 |cons p t b =>
  cases i with
  |zero=>simp[cV]
  |succ i =>
   rw[pH,show (i+1)*4=i*4+1+1+1+1 by omega,UW,UW,UW,UW,b,UW,pH]
theorem od(T:Sn.Tb)(i:Nat):(cV T).drop (i*4)=cV (T.drop i):=by
 induction T generalizing i with
 |nil=>simp[cV]
 |cons p t b =>
  cases i with
  |zero=>simp
  |succ i =>
   rw[pH,show (i+1)*4=i*4+1+1+1+1 by omega,Vi,Vi,Vi,Vi,b,Vi]
theorem oO(T:Sn.Tb)(i:Nat)(a:Nat)(b:Sn.Ce):(cV T).take (i*4)++[Z Y (a:Int),Z Y (a:Int),J b.p b.n b.c,Z Y b.al]++(cV T).drop (i*4)=cV (T.take i++(a,b)::T.drop i):=by
 rw[nY,od,kC,pH];simp
def ib(w:V5)(B:Nat)(v:V6)(T:Sn.Tb)(i:Nat)(a:Nat)(b:Sn.Ce)(e:Ending)(w':V5):Prop :=
 ∃j,e=Wd j/\w'.ownsRow B 181 4 j (Wn T+1) (cV (T.take i++(a,b)::T.drop i))/\w.grownBy w' v.ownBlock/\(j.ownBlock=v.ownBlock\/j.ownBlock=S (N (E w)))
theorem mn(B x:Nat)(v:V6)(T:Sn.Tb)(a:Nat)(b:Sn.Ce)(w:V5)(P:B<=N (E w))(h:w.ownsRow B 181 4 v (Wn T) (cV T))(hl:Wn T<=1000000000)(I:w.heap[x]?=S (D #[Z Y (a:Int),Z Y (a:Int),J b.p b.n b.c,Z Y b.al] 181 (0,0))):V7 prog 84 #[v,Z Y (Wn T),J (S ⟨x,0,U⟩) 1 1] w (ib w B v T (Wn T) a b):=by
 obtain⟨Q,hi,z,A,C⟩:=TN info_centry;obtain⟨p,m,rfl,F⟩:=Dk.dm h;have R:Wn T<=m:=F;have s:m<=9223372036854775807:=by
  rcases h.2 with ⟨G,o⟩|⟨g,V,aa,G,_,_,o,hm,_⟩
  .injection G with _ _ G;omega
  .injection G with _ _ G;unfold maxLen at hm;omega
 clear F;have W:w.cell? ⟨x,0,U⟩=S (Z Y (a:Int)):=by rw[Ti w x 0 _ _ _ I];rfl
 have X:w.cell? ⟨x,1,U⟩=S (Z Y (a:Int)):=by rw[Ti w x 1 _ _ _ I];rfl
 have q:w.cell? ⟨x,2,U⟩=S (J b.p b.n b.c):=by rw[Ti w x 2 _ _ _ I];rfl
 have t:w.cell? ⟨x,3,U⟩=S (Z Y b.al):=by rw[Ti w x 3 _ _ _ I];rfl
 by_cases K:m=Wn T
 .subst K;go_enter func84,ntmps84;go_wp2_with (first
   | (at_builtin;go_must (refine eV _ O (.tmp 23) (.tmp 24) 109 O B 181 Q _ 4 48 underlying109 hi z A C O (by decide) _ _ _ O h ⟨x,0,U⟩ 1 1 (by decide) [Z Y (a:Int),Z Y (a:Int),J b.p b.n b.c,Z Y b.al] O O ?c1 ?c2 ?c3 ?c4 ?c5 ?_))
   |go_in)
  case c1 =>
   intro j u l
   match j,l with
   |0,l=>simp at l;subst l;simpa [Addr.add] using W
   |1,l=>simp at l;subst l;simpa [Addr.add] using X
   |2,l=>simp at l;subst l;simpa [Addr.add] using q
   |3,l=>simp at l;subst l;simpa [Addr.add] using t
  case c2=>exact BV a b
  case c3=>unfold maxLen;omega
  case c4=>omega
  case c5=>exact P
  intro L w3 M r y _;go_wp2;go_ret;refine⟨L,O,?_,r,y⟩;have e:cV (T.take (Wn T)++(a,b)::T.drop (Wn T))=cV T++[Z Y (a:Int),Z Y (a:Int),J b.p b.n b.c,Z Y b.al]:=by simp[cV,su]
  rw[e];exact M
 .have ab:Wn T<m:=by omega
  go_enter func84,ntmps84;go_wp2_with (first
   | (at_builtin;go_must (refine eV _ O (.tmp 23) (.tmp 24) 109 O B 181 Q _ 4 48 underlying109 hi z A C O (by decide) _ _ _ O h ⟨x,0,U⟩ 1 1 (by decide) [Z Y (a:Int),Z Y (a:Int),J b.p b.n b.c,Z Y b.al] O O ?c1 ?c2 ?c3 ?c4 ?c5 ?_))
   |go_in)
  case c1 =>
   intro j u l
   match j,l with
   |0,l=>simp at l;subst l;simpa [Addr.add] using W
   |1,l=>simp at l;subst l;simpa [Addr.add] using X
   |2,l=>simp at l;subst l;simpa [Addr.add] using q
   |3,l=>simp at l;subst l;simpa [Addr.add] using t
  case c2=>exact BV a b
  case c3=>unfold maxLen;omega
  case c4=>omega
  case c5=>exact P
  intro L w3 M r y _;go_wp2;go_ret;refine⟨L,O,?_,r,y⟩;have e:cV (T.take (Wn T)++(a,b)::T.drop (Wn T))=cV T++[Z Y (a:Int),Z Y (a:Int),J b.p b.n b.c,Z Y b.al]:=by simp[cV,su]
  rw[e];exact M
end Rt
namespace Rt
open Go.RowKit Dk
theorem mT:(prog.info? 181).map (·.size)=S 4:=by
 obtain⟨l,hi,e,b,j⟩:=TN info_centry;rw[hi];simp[b]
theorem wN(w:V5):(Go.sizeOf 181).run prog w=.ok 4 w:=by
 obtain⟨l,hi,e,b,j⟩:=TN info_centry;simp[sizeOf,typeInfo,hi,b]
theorem yS(w:V5)(x g o lb r:Nat)(a:Nat)(b:Sn.Ce)(j:Array V6)(l:x≠g)(m:w.heap[x]?=S (D #[Z Y (a:Int),Z Y (a:Int),J b.p b.n b.c,Z Y b.al] 181 (0,0)))(u:w.heap[g]?=S (D j 181 (0,0)))(y:j.size≠0):(callFunc 126 #[J (S ⟨x,0,U⟩) 1 1,J (S ⟨g,o,U⟩) lb r]).run prog w=.ok (.value (Wa Wg)) w:=by
 rw[run_callFunc_extern func126 (by kernel_rfl) (by kernel_rfl) (by kernel_rfl) (e:=Extern.SlicesOverlaps.overlaps #[109,109] #[4]) (by kernel_rfl),
  Lib.run_overlaps_apart w 109 4 181 underlying109 4 wN ⟨x,0,U⟩ ⟨g,o,U⟩ 1 1 lb r l 181 181 4 j.size (by simp[World.shape?,m]) (by simp[World.shape?,u]) y (by simp[World.frozen?,m]) (by simp[World.frozen?,m])]
 rfl
theorem lq(B x g cap i:Nat)(m:Array V6)(T:Sn.Tb)(a:Nat)(b:Sn.Ce)(w:V5)(hi:i<Wn T)(hB:B<=g)(q:Wn T+1<=cap)(ab:cap<=maxLen)(hl:Wn T<=1000000000)(ad:x≠g)(hg:w.heap[g]?=S (D m 181 (0,0)))(ae:m.size=cap*4)(r:m.toList.take (Wn T*4)=cV T)(hx:w.heap[x]?=S (D #[Z Y (a:Int),Z Y (a:Int),J b.p b.n b.c,Z Y b.al] 181 (0,0))):V7 prog 84 #[J (S ⟨g,0,U⟩) (Wn T) cap,Z Y i,J (S ⟨x,0,U⟩) 1 1] w (ib w B (J (S ⟨g,0,U⟩) (Wn T) cap) T i a b):=by
 have ak:∀o lb cb,(callFunc 126 #[J (S ⟨x,0,U⟩) 1 1,J (S ⟨g,o,U⟩) lb cb]).run prog w=.ok (.value (Wa Wg)) w:=λo lb cb=>yS w x g o lb cb a b m ad hx hg (by omega)
 obtain⟨l,hD⟩:∃l,l=(cV T).drop (i*4):=⟨_,rfl⟩
 obtain⟨V,y⟩:∃V:List V6,V=[Z Y (a:Int),Z Y (a:Int),J b.p b.n b.c,Z Y b.al]:=⟨_,rfl⟩
 have af:Wn l=(Wn T-i)*4:=by rw[hD,Us,eJ];omega
 have an:Wn V=4:=by rw[y];rfl
 have ag:Wn m.toList=cap*4:=by simpa using ae
 obtain⟨A,C⟩:∃A,A=Dk.kj m.toList (i*4+Wn V) l:=⟨_,rfl⟩
 obtain⟨t,F⟩:∃t,t=Dk.kj A (i*4) V:=⟨_,rfl⟩
 have I:Wn A=cap*4:=by rw[C,Dk.fZ _ _ _ (by omega)];exact ag
 have K:Wn t=cap*4:=by rw[F,Dk.fZ _ _ _ (by omega)];exact I
 have L:t.take ((Wn T+1)*4)=cV (T.take i++(a,b)::T.drop i):=by
  have e:=Dk.qT m.toList (i*4) V l 0 (by omega);rw[<-C,<-F] at e;have e2:i*4+Wn V+Wn l=(Wn T+1)*4:=by omega
  rw[e2] at e;rw[e,<-oO,<-y,<-hD]
  congr 2
  rw[<-r,UN,Vh (by omega)]
 have z:∀j v,l[j]?=S v->w.cell? ⟨g,i*4+j,U⟩=S v:=λj v M=>by
  have ar:j<Wn l:=(Vb.1 M).1;rw[Ti w g _ _ _ _ hg];rw[hD,<-r,UX,U8,Tg (by omega)] at M;simpa using M
 have ah:∀v∈l,v.oneCell'=We:=λv hv=>mA T v (by rw[hD] at hv;exact UR hv)
 have Q:∀s dc sc,(Builtin.copy_ #[109,109] s #[J (S ⟨g,(i+1)*4,U⟩) (Wn T+1-(i+1)) dc,J (S ⟨g,i*4,U⟩) (Wn T+1-i) sc]).run prog w.drew=.ok (goInt ((Wn T-i:Nat):Int)) (w.drew.setRow g A.toArray):=λs dc sc=>by
  have h:=eC (P:=prog) w.drew 109 109 s 181 4 g ((i+1)*4) (Wn T+1-(i+1)) dc ⟨g,i*4,U⟩ (Wn T+1-i) sc m 181 l underlying109 mT hg (Wn T-i) (by simp only[UY];split <;> omega) af
   (λj v M=>by rw[UE];exact z j v M) (by omega) ah
  rw[h,C];unfold Dk.kj;rw[show i*4+Wn V=(i+1)*4 by omega]
 have G:(w.drew.setRow g A.toArray).heap[g]?=S (D A.toArray 181 (0,0)):=Uq w.drew g m _ _ _ hg;have aa:(w.drew.setRow g A.toArray).heap[x]?=S (D #[Z Y (a:Int),Z Y (a:Int),J b.p b.n b.c,Z Y b.al] 181 (0,0)):=by
  rw[Uk w.drew g x _ ad];exact hx
 obtain⟨W1,u⟩:∃W1,W1=w.drew.setRow g A.toArray:=⟨_,rfl⟩
 rw[<-u] at Q G aa;have ai:∀(W:V5),W=W1->∀s dc,(Builtin.copy_ #[109,109] s #[J (S ⟨g,i*4,U⟩) (Wn T+1-i) dc,J (S ⟨x,0,U⟩) 1 1]).run prog W=.ok (goInt 1) (W1.setRow g t.toArray):=λW hW s dc=>by
  subst hW;have h:=eC (P:=prog) W 109 109 s 181 4 g (i*4) (Wn T+1-i) dc ⟨x,0,U⟩ 1 1 A.toArray 181 V underlying109 mT G 1 (by simp only[UY];split <;> omega) (by omega)
   (λj v M=>by
     rw[UE,Ti W x _ _ _ _ aa];rw[y] at M;simpa using M) (by simp;omega) (by rw[y];exact BV a b)
  rw[h,F]
  rfl
 have R:∀W,W=W1.setRow g t.toArray->W.ownsRow B 181 4 (J (S ⟨g,0,U⟩) (Wn T+1) cap) (Wn T+1) (cV (T.take i++(a,b)::T.drop i))/\w.grownBy W (Value.ownBlock (J (S ⟨g,0,U⟩) (Wn T) cap)):=λW hW=>by
  rw[hW];refine⟨⟨by rw[eJ];simp;omega,.inr ⟨g,cap,t.toArray,O,hB,Uq W1 g _ _ _ _ G,q,ab,by simpa using K,by simpa using L⟩⟩,?_⟩;refine⟨by rw[u];rfl,by rw[u];rfl,by rw[u];rfl,by rw[u];simp[World.setRow],λk hk ao=>?_⟩;have X:k≠g:=λe=>ao (by rw[e];rfl)
  rw[Uk W1 g k _ X,u,Uk w.drew g k _ X];rfl
 have aj:=cU R;unfold maxLen at ab;have au:IntKind.i64.wrap ((i:Int)+1)=(i:Int)+1:=by rw[TJ];omega
 have av:(0:Int)<=(i:Int)+1:=by omega
 have aw:i<=Wn T:=by omega
 have aq:(i:Int)<=(Wn T:Int):=by omega
 have ax:((i:Int)+1).toNat=i+1:=by omega
 have ay:(i:Int)<=(Wn T:Int)+1:=by omega
 have az:¬((i:Int)=(Wn T:Int)):=by omega
 have aA:¬((cap:Int)<(Wn T:Int)+1):=by omega
 have aB:¬(cap=i+1):=by omega
 have aC:¬(cap=i):=by omega
 clear R L z ah hD y af an ag C F I K hg hx ae r G aa u;go_enter func84,ntmps84;go_wp2_with (simp only[ak])
 go_region_law (refine step_copy_runI O (.tmp 73) (.tmp 76) 109 109 O _ _ (by simp[Act.eval,Act.put];rfl) (by simp[Act.eval,Act.put];rfl) (Q _ _ _) ?_)
 go_wp2_with (first|(at_builtin;go_must (refine wpList_copy_runI _ rfl (.tmp 80) (.tmp 81) 109 109 rfl _ _ rfl rfl (ai _ rfl _ _) ?_))|go_in);go_wp2;go_ret;obtain⟨q1,q2⟩:=(cT aj) _ rfl;exact⟨_,rfl,q1,q2,by first|exact Wh rfl|exact Wi rfl⟩
theorem kS(B x g cap i:Nat)(F:Array V6)(T:Sn.Tb)(a:Nat)(b:Sn.Ce)(w:V5)(hi:i<Wn T)(hB:B<=N (E w))(ag:cap=Wn T)(hl:Wn T<=1000000000)(hg:w.heap[g]?=S (D F 181 (0,0)))(I:F.toList.take (Wn T*4)=cV T)(aw:Wn T*4<=F.size)(hx:w.heap[x]?=S (D #[Z Y (a:Int),Z Y (a:Int),J b.p b.n b.c,Z Y b.al] 181 (0,0))):V7 prog 84 #[J (S ⟨g,0,U⟩) (Wn T) cap,Z Y i,J (S ⟨x,0,U⟩) 1 1] w (ib w B (J (S ⟨g,0,U⟩) (Wn T) cap) T i a b):=by
 subst ag;obtain⟨i0,ax,ay,az,ah⟩:=TN info_centry;obtain⟨l,hD⟩:∃l,l=(cV T).drop (i*4):=⟨_,rfl⟩
 obtain⟨V,K⟩:∃V:List V6,V=[Z Y (a:Int),Z Y (a:Int),J b.p b.n b.c,Z Y b.al]:=⟨_,rfl⟩
 have ai:Wn l=(Wn T-i)*4:=by rw[hD,Us,eJ];omega
 have aA:Wn V=4:=by rw[K];rfl
 have y:∀j v,(cV T)[j]?=S v->w.cell? ⟨g,j,U⟩=S v:=λj v z=>by
  have aB:j<(cV T).length:=(Vb.1 z).1;rw[eJ] at aB;rw[Ti w g _ _ _ _ hg];rw[<-I,U8,Tg (by omega)] at z;simpa using z
 have ad:i+(Wn T+1-i)=Wn T+1:=by omega
 have hold:(Builtin.firstCells i0.size i (J (S ⟨g,0,U⟩) i (Wn T))).run prog w.drew=.ok ((cV T).take (i*4)).toArray w.drew:=by
  rw[az];exact run_firstCells_some w.drew 4 i ⟨g,0,U⟩ i (Wn T) ((cV T).take (i*4)) (by rw[Uz,eJ];omega) (λj v z=>by
   rw[UE];rw[U8] at z;split at z
   .simpa using y j v z
   .cases z)
 obtain⟨G,hG⟩:∃G,G=grownCap w (Wn T+1) (Wn T) 181:=⟨_,rfl⟩
 have aC:Wn T+1<=G:=by rw[hG];exact grownCap_ge w _ _ _
 have aj:G<=maxLen:=by rw[hG];exact grownCap_le_maxLen w _ _ _ (by unfold maxLen;omega)
 obtain⟨m,A⟩:∃m:Array V6,m=((cV T).take (i*4)).toArray++Builtin.zeroCells (Value.agg #[Z Y 0,Z Y 0,J U 0 0,Z Y 0]).cells (Wn T+1-i)++Builtin.zeroCells (Value.agg #[Z Y 0,Z Y 0,J U 0 0,Z Y 0]).cells (G-(Wn T+1)):=⟨_,rfl⟩
 have ak:∀L,(Builtin.append_ #[109,3] L #[J (S ⟨g,0,U⟩) i (Wn T),Z Y ((Wn T:Int)+1-(i:Int))]).run prog w =
   .ok (J (S ⟨N (E w),0,U⟩) (Wn T+1) G) (w.drew.alloc (D m 181)):=λL=>by
  have h:=Lib.run_append_grow_zeros w 109 3 L 181 i0 _ Y Y underlying109 underlying3 ax ay (S ⟨g,0,U⟩) i (Wn T) ((cV T).take (i*4)) hold (Wn T+1-i) (by omega) (by omega) (by omega) (by omega) (by rw[ah];omega) (by rw[ah,ad];exact growslice_fits (by omega) (by omega));rw[ad] at h;rw[show (Wn T:Int)+1-(i:Int)=((Wn T+1-i:Nat):Int) by omega,A,hG];exact h
 have ae:Wn m.toList=G*4:=by
  rw[A];simp[Builtin.zeroCells,Value.cells,eJ];omega
 have an:m.toList.take (i*4)=(cV T).take (i*4):=by
  rw[A];simp only[Vu,T4];rw[UA (by simp[eJ];omega)];exact(UN ..).trans (by rw[Nat.min_self])
 obtain⟨q,R⟩:∃q,q=Dk.kj m.toList (i*4) V:=⟨_,rfl⟩
 obtain⟨c2,X⟩:∃c2,c2=Dk.kj q (i*4+Wn V) l:=⟨_,rfl⟩
 have t:Wn q=G*4:=by rw[R,Dk.fZ _ _ _ (by omega)];exact ae
 have s:Wn c2=G*4:=by rw[X,Dk.fZ _ _ _ (by omega)];exact t
 have o:c2.take ((Wn T+1)*4)=cV (T.take i++(a,b)::T.drop i):=by
  have e:=Dk.rL m.toList (i*4) V l (by omega);rw[<-R,<-X] at e;have e2:i*4+Wn V+Wn l=(Wn T+1)*4:=by omega
  rw[e2] at e;rw[e,<-oO,<-K,<-hD,an]
 have aD:g<N (E w):=Ud hg;have aE:x<N (E w):=Ud hx;obtain⟨M,r⟩:∃M,M=w.drew.alloc (D m 181):=⟨_,rfl⟩
 have af:M.heap[N (E w)]?=S (D m 181 (0,0)):=by rw[r];exact Tk w.drew _
 have ao:M.heap[x]?=S (D #[Z Y (a:Int),Z Y (a:Int),J b.p b.n b.c,Z Y b.al] 181 (0,0)):=by rw[r,TD w.drew _ x aE];exact hx
 have aq:M.heap[g]?=S (D F 181 (0,0)):=by rw[r,TD w.drew _ g aD];exact hg
 rw[<-r] at ak;have aa:∀W,W=M->∀L dc,(Builtin.copy_ #[109,109] L #[J (S ⟨N (E w),i*4,U⟩) (Wn T+1-i) dc,J (S ⟨x,0,U⟩) 1 1]).run prog W=.ok (goInt 1) (M.setRow (N (E w)) q.toArray):=λW hW L dc=>by
  subst hW;have h:=eC (P:=prog) W 109 109 L 181 4 (N (E w)) (i*4) (Wn T+1-i) dc ⟨x,0,U⟩ 1 1 m 181 V underlying109 mT af 1 (by simp only[UY];split <;> omega) (by omega)
   (λj v z=>by
     rw[UE,Ti W x _ _ _ _ ao];rw[K] at z;simpa using z) (by rw[<-Uv,ae];omega) (by rw[K];exact BV a b)
  rw[h,R]
  rfl
 obtain⟨C,u⟩:∃C,C=M.setRow (N (E w)) q.toArray:=⟨_,rfl⟩
 have Q:C.heap[N (E w)]?=S (D q.toArray 181 (0,0)):=by rw[u];exact Uq M _ _ _ _ _ af
 have ar:C.heap[g]?=S (D F 181 (0,0)):=by rw[u,Uk M _ g _ (by omega)];exact aq
 rw[<-u] at aa;have au:∀W,W=C.drew->∀L dc sc,(Builtin.copy_ #[109,109] L #[J (S ⟨N (E w),(i+1)*4,U⟩) (Wn T+1-(i+1)) dc,J (S ⟨g,i*4,U⟩) (Wn T-i) sc]).run prog W=.ok (goInt ((Wn T-i:Nat):Int)) (C.drew.setRow (N (E w)) c2.toArray):=λW hW L dc sc=>by
  subst hW;have h:=eC (P:=prog) C.drew 109 109 L 181 4 (N (E w)) ((i+1)*4) (Wn T+1-(i+1)) dc ⟨g,i*4,U⟩ (Wn T-i) sc q.toArray 181 l underlying109 mT Q (Wn T-i) (by simp only[UY];split <;> omega) ai
   (λj v z=>by
     rw[UE];refine(Ti C.drew g _ _ _ _ ar).trans ?_;rw[<-Ti w g _ _ _ _ hg];exact y _ v (by rw[hD,UX] at z;exact z)) (by simp;omega) (λv hv=>mA T v (by rw[hD] at hv;exact UR hv))
  rw[h,X];unfold Dk.kj;rw[show i*4+Wn V=(i+1)*4 by omega]
 have ab:∀W,W=C.drew.setRow (N (E w)) c2.toArray->W.ownsRow B 181 4 (J (S ⟨N (E w),0,U⟩) (Wn T+1) G) (Wn T+1) (cV (T.take i++(a,b)::T.drop i))/\w.grownBy W (Value.ownBlock (J (S ⟨g,0,U⟩) (Wn T) (Wn T))):=λW hW=>by
  rw[hW];refine⟨⟨by rw[eJ];simp;omega,.inr ⟨N (E w),G,c2.toArray,O,hB,Uq C.drew _ _ _ _ _ Q,aC,aj,by simpa using s,by simpa using o⟩⟩,?_⟩;refine⟨by rw[u,r];rfl,by rw[u,r];rfl,by rw[u,r];rfl,by rw[u,r];simp[World.setRow],λk hk aH=>?_⟩;rw[Uk C.drew _ k _ (by omega)]
  show C.heap[k]?=_
  rw[u,Uk M _ k _ (by omega),r,TD w.drew _ k hk];rfl
 have av:=cU ab;unfold maxLen at aj;have aI:IntKind.i64.wrap ((i:Int)+1)=(i:Int)+1:=by rw[TJ];omega
 have aJ:(0:Int)<=(i:Int)+1:=by omega
 have aK:i<=Wn T:=by omega
 have aF:(i:Int)<=(Wn T:Int):=by omega
 have aL:((i:Int)+1).toNat=i+1:=by omega
 have aM:(i:Int)<=(Wn T:Int)+1:=by omega
 have aN:¬((i:Int)=(Wn T:Int)):=by omega
 have aO:¬(G=i):=by omega
 have aG:¬(G=i+1):=by omega
 have aP:¬(Wn T=i):=by omega
 clear ab o y hD K ai aA R X t s hg hx aw I aq ao r u af Q ar ae an A hG hold ad;go_enter func84,ntmps84;go_wp2_with (first
  | (at_builtin;refine Lib.wpList_append_run _ O (.tmp 34) (.tmp 39) _ _ O _ _ O O _ _ (ak _) ?_)
  | (at_builtin;refine wpList_copy_runI _ O (.tmp 43) (.tmp 44) 109 109 O _ _ O O (aa _ O _ _) ?_))
 go_region_law (refine step_copy_runI O (.tmp 50) (.tmp 53) 109 109 O _ _ (by simp[Act.eval,Act.put];rfl) (by simp[Act.eval,Act.put];rfl) (au _ O _ _ _) ?_)
 go_wp2;go_ret;obtain⟨q1,q2⟩:=(cT av) _ rfl;exact⟨_,rfl,q1,q2,by first|exact Wh rfl|exact Wi rfl⟩
theorem mz(B x:Nat)(v:V6)(T:Sn.Tb)(i:Nat)(a:Nat)(b:Sn.Ce)(w:V5)(hi:i<=Wn T)(G:B<=N (E w))(h:w.ownsRow B 181 4 v (Wn T) (cV T))(u:Wn T<=1000000000)(y:v.ownBlock≠S x)(z:w.heap[x]?=S (D #[Z Y (a:Int),Z Y (a:Int),J b.p b.n b.c,Z Y b.al] 181 (0,0))):V7 prog 84 #[v,Z Y i,J (S ⟨x,0,U⟩) 1 1] w (ib w B v T i a b):=by
 by_cases K:i=Wn T
 .subst K;exact mn B x v T a b w G h u z
 .rcases h.2 with ⟨I,P⟩|⟨g,l,m,I,A,r,L,C,F,j⟩
  .omega
  .subst I;by_cases M:Wn T+1<=l
   .exact lq B x g l i m T a b w (by omega) A M C u (λe=>y (by rw[e];rfl)) r F j z
   .exact kS B x g l i m T a b w (by omega) G (by omega) u r j (by omega) z
end Rt
namespace Rt
open Go.RowKit Dk
structure eW (w:V5) (D o:Nat) (C:Array V6) (tD:TypeId) (v:V6) (T:Sn.Tb):Prop where
 blk:w.heap[D]?=S (.cells C tD (0,0))
 at_:C[o]?=S v
 row:w.ownsRow 0 181 4 v (Wn T) (cV T)
 me:Sn.dj T
 len:Wn T<=1000000000
theorem eW.cell{w:V5}{b o:Nat}{C:Array V6}{e:TypeId}{v:V6}{T:Sn.Tb}(h:eW w b o C e v T):w.cell? ⟨b,o,U⟩=S v:=by
 rw[Ti w b o _ _ _ h.blk];exact h.at_
theorem eW.below{w w':V5}{b o:Nat}{C:Array V6}{e:TypeId}{v:V6}{T:Sn.Tb}(h:eW w b o C e v T)(hb:V4 w w'):eW w' b o C e v T:=⟨(hb.block b (Ud h.blk)).trans h.blk,h.at_,de h.row hb,h.me,h.len⟩
theorem fY(b o:Nat)(C:Array V6)(m:TypeId)(v:V6)(T:Sn.Tb)(y:Nat)(w:V5)(h:eW w b o C m v T):V7 prog 83 #[V9 (S ⟨b,o,U⟩),Z Y (y:Int)] w λe l=>e=Wd (Wb #[Z Y (Sn.dv T y:Nat),Wa (Sn.dD T y)])/\V4 w l:=by
 obtain⟨p,j,rfl,r⟩:=dS h.row;have B:=h.cell;have u:=h.me;have z:=h.len;clear h;go_enter func83,ntmps83;go_wp2_with fail;refine(my p j T y w r u z).mono ?_;rintro e l ⟨rfl,A⟩;go_wp2;exact Tj (v := Wb #[Z Y (Sn.dv T y:Nat),Wa (Sn.dD T y)]) (by simp[results,results83,go_sem]) O ⟨O,A⟩
end Rt
namespace Rt
open Go.RowKit Dk
structure dO (w w':V5) (D o:Nat) (C:Array V6) (tD:TypeId) (v v':V6) (T':Sn.Tb):Prop where
 blk:w'.heap[D]?=S (.cells (C.setIfInBounds o v') tD (0,0))
 row:w'.ownsRow 0 181 4 v' (Wn T') (cV T')
 kept:Kept w w' (λk=>k≠D/\v.ownBlock≠S k)
 new:v'.ownBlock=v.ownBlock\/∃g,v'.ownBlock=S g/\(N (E w))<=g
theorem nL(b o:Nat)(C:Array V6)(q:TypeId)(v:V6)(T:Sn.Tb)(y:Nat)(f:Sn.Ce)(w:V5)(h:eW w b o C q v T)(t:v.ownBlock≠S b):V7 prog 46 #[V9 (S ⟨b,o,U⟩),Z Y (y:Int),kU y f] w λe w'=>e=Wd (Wa (!Sn.dD T y))/\∃v',dO w w' b o C q v v' (if Sn.dD T y=We then T else Sn.gJ T y f):=by
 have aj:o<C.size:=(Ts.1 h.at_).1;obtain⟨P,Q,R,V⟩:=f;unfold kU;dsimp only;have F:Hid (∀W,W=w.alloc (D #[Z Y (y:Int),J P Q R,Z Y V] 80)->W.heap[N (E w)]?=S (D #[Z Y (y:Int),J P Q R,Z Y V] 80 (0,0))/\V4 w W):=by
  show ∀W,_
  rintro W rfl;exact⟨Tk w _,(Th _ w).alloc V2 _⟩
 cases hh:Sn.dD T y with
 |true =>
  have HH:=cU hh;have l:=cU h;clear hh h;go_enter func46,ntmps46;go_wp2_with fail;generalize I:Wl _ _=s;obtain⟨G,m⟩:=cT F s I.symm;clear I F;refine(fY b o C q v T y s ((cT l).below m)).mono ?_;rintro e w' ⟨rfl,hb⟩;rw[cT HH];go_wp2;go_ret;have z:=m.trans (hb.mono m.size);have K:=(cT l).below z;refine⟨O,v,?_,?_,Kept.below z _,Wh O⟩
  .rw[K.blk];have:C.setIfInBounds o v=C:=by
    have hv:=(Ts.1 K.at_).2;rw[<-hv];simp[Array.setIfInBounds,aj]
   rw[this]
  .exact K.row
 |false =>
  have HH:=cU hh;have l:=cU h;have hl:=h.len;clear hh h;go_enter func46,ntmps46;go_wp2_with fail;generalize I:Wl _ _=s;obtain⟨G,m⟩:=cT F s I.symm;clear I F;refine(fY b o C q v T y s ((cT l).below m)).mono ?_;rintro e r ⟨rfl,hb⟩;rw[cT HH];have E1:=(hb.block _ (Ud G)).trans G;have z:=m.trans (hb.mono m.size);clear hb m G;have K:=(cT l).below z;have hu:=K.blk;have ho:=K.row;have hc:=K.cell;have ak:b<N (E r):=Ud hu;have x0:r.cell? ⟨N (E w),0,U⟩=S (Z Y (y:Int)):=by rw[Ti r _ 0 _ _ _ E1];rfl
  have x1:r.cell? ⟨N (E w),1,U⟩=S (J P Q R):=by rw[Ti r _ 1 _ _ _ E1];rfl
  have x2:r.cell? ⟨N (E w),2,U⟩=S (Z Y V):=by rw[Ti r _ 2 _ _ _ E1];rfl
  have au:N (E w)<N (E r):=Ud E1;obtain⟨p,u,rfl,_⟩:=Dk.dm ho;have aa:=Sn.lW T y;have ab:Hid (∀W,W=(r.alloc (D #[Z Y (y:Int),Z Y (y:Int),J P Q R,Z Y V] 181)).drew->
    V7 prog 84 #[J p (Wn T) u,Z Y (Sn.dv T y:Nat),J (S ⟨N (E r),0,U⟩) 1 1] W λe A=>∃L j,e=Wd (J L (Wn T+1) j)/\A.cell? ⟨b,o,U⟩=S (J p (Wn T) u)/\A.frozen? ⟨b,o,U⟩=Wg/\
     Hid (dO w (A.setCell ⟨b,o,U⟩ (J L (Wn T+1) j)) b o C q (J p (Wn T) u) (J L (Wn T+1) j) (Sn.gJ T y ⟨P,Q,R,V⟩))):=by
   show ∀W,_
   intro W I;have B:V4 r W:=by rw[I];exact(V3.alloc V2 _).drew
   have an:W.heap[N (E r)]?=S (D #[Z Y (y:Int),Z Y (y:Int),J P Q R,Z Y V] 181 (0,0)):=by rw[I];exact Tk r _
   have ao:=de ho B;refine(mz 0 (N (E r)) (J p (Wn T) u) T (Sn.dv T y) y ⟨P,Q,R,V⟩ W aa (Tp _) ao hl (λM=>by have:=(ho.lt _ M).2;omega) an).mono ?_;rintro e A ⟨v',rfl,ad,ae,af⟩;have X:A.heap[b]?=S (D C q (0,0)):=by
    rw[ae.block b (by have:=B.size;omega) (λM=>t M.symm),B.block b ak];exact hu
   have ag:A.cell? ⟨b,o,U⟩=S (J p (Wn T) u):=by rw[Ti A b o _ _ _ X];exact(cT l).at_
   have ah:A.frozen? ⟨b,o,U⟩=Wg:=by simp[World.frozen?,X]
   obtain⟨L,j,rfl,_⟩:=Dk.dm ad;refine⟨L,j,O,ag,ah,?_⟩
   show dO _ _ _ _ _ _ _ _ _
   have aq:Kept w A (λk=>k≠b/\(Value.slice p (Wn T) u).ownBlock≠S k):=(Kept.below z _).trans ((Kept.below B _).trans (Kept.grown ae (λk hk=>hk.2)));have av:N (E r)<=N (E W):=B.size;have ai:(Value.slice L (Wn T+1) j).ownBlock=(Value.slice p (Wn T) u).ownBlock\/∃g,(Value.slice L (Wn T+1) j).ownBlock=S g/\(N (E w))<=g:=by
    rcases af with e|e
    .exact Wh e
    .exact Wi ⟨_,e,by omega⟩
   refine⟨?_,?_,aq.setCell (λhk=>hk.1 O) _,ai⟩
   .rw[Tq A b o _ _ _ X]
   .rw[Sn.iN];refine Ui ad (λM=>?_) _;rcases af with e|e
    .rw[e] at M;exact t M
    .rw[e] at M;have:N (E W)=b:=TG M;omega
  have ar:Hid (∀(args:Array V6) (w:V5),(callFunc 84 args).run prog w=.ok (.enter 84 args) w):=da func84 (by kernel_rfl) (by kernel_rfl);clear hu ho K E1 l z;go_upto_region 4 with fail
  go_region_law (refine du (by rfl) _ _ _ (by rfl) 84 (by rfl) _ (by rfl) (cT ar) ((cT ab) _ O) ?_;rintro e A ⟨L,j,rfl,ag,ah,HT⟩;dsimp only)
  all_goals
   go_wp2;go_ret;exact⟨O,_,cT HT⟩
end Rt
namespace Rt
open Go.RowKit Dk
theorem qu(w:V5)(g o c:Nat)(b:Array V6)(u:TypeId)(y:w.heap[g]?=S (D b 181 (0,0)))(e:o+4<=b.size):(Builtin.clear_ #[109] u #[J (S ⟨g,o,U⟩) 1 c]).run prog w=.ok (Wb #[]) (w.setRow g (Dk.kj b.toList o [Z Y 0,Z Y 0,J U 0 0,Z Y 0]).toArray):=by
 obtain⟨B,hi,l,z,A⟩:=TN info_centry;have j:=run_storeCells_at prog g o 181 [Z Y 0,Z Y 0,J U 0 0,Z Y 0] 0 b w y (by simpa using e) (by intro v r;simp at r;rcases r with rfl|rfl|rfl <;> rfl);have m:(Builtin.zeroCells (Value.agg #[Z Y 0,Z Y 0,J U 0 0,Z Y 0]).cells 1).toList=[Z Y 0,Z Y 0,J U 0 0,Z Y 0]:=by simp[Builtin.zeroCells,Value.cells];rfl
 simp only[Uo] at j;simp[Builtin.clear_,run_underlying underlying109,zeroValue,typeInfo,hi,l,m,j,Dk.kj]
theorem vI(T:Sn.Tb)(i:Nat):cV (T.eraseIdx i)=(cV T).take (i*4)++cV (T.drop (i+1)):=by
 rw[List.eraseIdx_eq_take_drop_succ,kC,nY]
theorem qF(g cap i:Nat)(b:Array V6)(T:Sn.Tb)(w:V5)(hi:i<Wn T)(au:Wn T<=cap)(ab:cap<=maxLen)(hl:Wn T<=1000000000)(hg:w.heap[g]?=S (D b 181 (0,0)))(ad:b.size=cap*4)(r:b.toList.take (Wn T*4)=cV T):V7 prog 207 #[J (S ⟨g,0,U⟩) (Wn T) cap,Z Y i,Z Y ((i:Int)+1)] w λe w'=>e=Wd (J (S ⟨g,0,U⟩) (Wn T-1) cap)/\
   w'.ownsRow 0 181 4 (J (S ⟨g,0,U⟩) (Wn T-1) cap) (Wn T-1) (cV (T.eraseIdx i))/\w.grownBy w' (S g):=by
 obtain⟨i0,aj,av,p,aw⟩:=TN info_centry;obtain⟨B,z⟩:∃B,B=cV (T.drop (i+1)):=⟨_,rfl⟩
 have ae:Wn B=(Wn T-(i+1))*4:=by rw[z,eJ,Us]
 have af:Wn b.toList=cap*4:=by simpa using ad
 obtain⟨C,G⟩:∃C,C=Dk.kj b.toList (i*4) B:=⟨_,rfl⟩
 have L:Wn C=cap*4:=by rw[G,Dk.fZ _ _ _ (by omega)];exact af
 have ag:∀v∈B,v.oneCell'=We:=λv hv=>mA (T.drop (i+1)) v (by rw[<-z];exact hv)
 have A:∀j v,B[j]?=S v->w.cell? ⟨g,(i+1)*4+j,U⟩=S v:=λj v hj=>by
  have ak:j<Wn B:=(Vb.1 hj).1;rw[Ti w g _ _ _ _ hg];rw[z,<-od,<-r,UX,U8,Tg (by omega)] at hj;simpa using hj
 have o:∀l M m,(M=(i+1)*4\/Wn T-(i+1)=0)->(Builtin.append_ #[109,109] l #[J (S ⟨g,0,U⟩) i cap,J (S ⟨g,M,U⟩) (Wn T-(i+1)) m]).run prog w.drew=.ok (J (S ⟨g,0,U⟩) (Wn T-1) cap) (w.drew.setRow g C.toArray):=λl M m ho=>by
  have h:=run_append_room (P:=prog) w.drew 109 l 181 i0 underlying109 aj g i cap b hg ⟨g,M,U⟩ (Wn T-(i+1)) m B (by rw[p];exact ae)
   (λj v hj=>by
     rcases ho with rfl|h0
     .rw[UE];exact A j v hj
     .have ak:j<Wn B:=(Vb.1 hj).1;omega) ag (by omega) (by rw[p];omega)
  rw[h,p,G];have e:i+(Wn T-(i+1))=Wn T-1:=by omega
  rw[e]
  rfl
 have I:(w.drew.setRow g C.toArray).heap[g]?=S (D C.toArray 181 (0,0)):=Uq w.drew g b _ _ _ hg;obtain⟨y,u⟩:∃y,y=w.drew.setRow g C.toArray:=⟨_,rfl⟩
 rw[<-u] at o I;obtain⟨F,K⟩:∃F,F=Dk.kj C ((Wn T-1)*4) [Z Y 0,Z Y 0,J U 0 0,Z Y 0]:=⟨_,rfl⟩
 have Q:Wn F=cap*4:=by rw[K,Dk.fZ _ _ _ (by simp;omega)];exact L
 have R:∀(W:V5),W=y->∀l m,(Builtin.clear_ #[109] l #[J (S ⟨g,(Wn T-1)*4,U⟩) 1 m]).run prog W=.ok (Wb #[]) (y.setRow g F.toArray):=λW hW l m=>by
  subst hW;have h:=qu W g ((Wn T-1)*4) m C.toArray l I (by simp;omega);rw[h,K]
 have V:F.take ((Wn T-1)*4)=cV (T.eraseIdx i):=by
  have e1:F.take ((Wn T-1)*4)=C.take ((Wn T-1)*4):=by
   rw[K];unfold Dk.kj;rw[T4,UA (by simp;omega),UN,Nat.min_self]
  rw[e1,vI,<-z,G];unfold Dk.kj;have e2:b.toList.take (i*4)=(cV T).take (i*4):=by rw[<-r,UN,Vh (by omega)]
  have e3:(Wn T-1)*4=(b.toList.take (i*4)++B).length:=by simp;omega
  rw[e3,List.take_left,e2]
 have X:∀W,W=y.setRow g F.toArray->W.ownsRow 0 181 4 (J (S ⟨g,0,U⟩) (Wn T-1) cap) (Wn T-1) (cV (T.eraseIdx i))/\w.grownBy W (S g):=λW hW=>by
  rw[hW];refine⟨⟨by rw[eJ,List.length_eraseIdx,Tg hi],.inr ⟨g,cap,F.toArray,O,Tp _,Uq y g _ _ _ _ I,by omega,ab,by simpa using Q,by simpa using V⟩⟩,?_⟩;refine⟨by rw[u];rfl,by rw[u];rfl,by rw[u];rfl,by rw[u];simp[World.setRow],λk hk an=>?_⟩;have q:k≠g:=λe=>an (by rw[e])
  rw[Uk y g k _ q,u,Uk w.drew g k _ q];rfl
 have t:=cU X;have ah:=cU o;have s:=cU R;unfold maxLen at ab;have ax:(i:Int)<(Wn T:Int):=by omega
 clear X o R V A z ae G K L Q hg ad r I u ag af;by_cases ao:i+1=cap
 .subst ao;have q3:i+1<=Wn T:=by omega
  have q4:(i:Int)+1<=(Wn T:Int):=by omega
  have q5:((i:Int)+1).toNat=i+1:=by omega
  have q6:(0:Int)<=(i:Int)+1:=by omega
  have q7:(Wn T:Int)<=((i+1:Nat):Int):=by omega
  have q8:¬(i+1=Wn T-1):=by omega
  have q9:(i:Int)<=(i:Int)+1:=by omega
  have ai:∀l M m,(Builtin.append_ #[109,109] l #[J (S ⟨g,0,U⟩) i (i+1),J (S ⟨g,M,U⟩) 0 m]).run prog w.drew=.ok (J (S ⟨g,0,U⟩) (Wn T-1) (i+1)) y:=λl M m=>by
   have h:=(cT ah) l M m (Wi (by omega));rw[show (Wn T)-(i+1)=0 by omega] at h;exact h
  have aq:=cU ai;clear ai;go_enter func207,ntmps207;go_wp2_with fail
  go_region_law (refine iR rfl (.tmp 22) (.tmp 25) 109 109 rfl _ _ (by first|rfl|(simp[Act.eval,Act.put];done)|(simp[Act.eval,Act.put];rfl)) (by first|rfl|(simp[Act.eval,Act.put];done)|(simp[Act.eval,Act.put];rfl)) ((cT aq) _ _ _) ?_)
  all_goals
   have aa:∀l m,(Builtin.clear_ #[109] l #[J (S ⟨g,(Wn T-1)*4,U⟩) (Wn T-(Wn T-1)) m]).run prog y=.ok (Wb #[]) (y.setRow g F.toArray):=λl m=>by
    rw[show (Wn T)-(Wn T-1)=1 by omega];exact(cT s) y O l m
   go_wp2;go_ret;exact⟨O,(cT t) _ O⟩
 .have ar:¬(cap=i+1):=by omega
  have q0:¬(cap=i):=by omega
  have q1:i<=cap:=by omega
  have q2:(i:Int)<=(cap:Int):=by omega
  have q3:i+1<=Wn T:=by omega
  have q4:(i:Int)+1<=(Wn T:Int):=by omega
  have q5:((i:Int)+1).toNat=i+1:=by omega
  have q6:(0:Int)<=(i:Int)+1:=by omega
  have q7:(Wn T:Int)<=(cap:Int):=by omega
  have q8:¬(cap=Wn T-1):=by omega
  go_enter func207,ntmps207;go_wp2_with fail
  go_region_law (refine iR rfl (.tmp 22) (.tmp 25) 109 109 rfl _ _ (by first|rfl|(simp[Act.eval,Act.put];done)|(simp[Act.eval,Act.put];rfl)) (by first|rfl|(simp[Act.eval,Act.put];done)|(simp[Act.eval,Act.put];rfl)) ((cT ah) _ _ _ (Wh O)) ?_)
  all_goals
   have aa:∀l m,(Builtin.clear_ #[109] l #[J (S ⟨g,(Wn T-1)*4,U⟩) (Wn T-(Wn T-1)) m]).run prog y=.ok (Wb #[]) (y.setRow g F.toArray):=λl m=>by
    rw[show (Wn T)-(Wn T-1)=1 by omega];exact(cT s) y O l m
   go_wp2;go_ret;exact⟨O,(cT t) _ O⟩
end Rt
namespace Rt
open Go.RowKit Dk
theorem kG(b o:Nat)(C:Array V6)(G:TypeId)(v:V6)(T:Sn.Tb)(y:Nat)(w:V5)(h:eW w b o C G v T)(R:v.ownBlock≠S b):V7 prog 131 #[V9 (S ⟨b,o,U⟩),Z Y (y:Int)] w λe w'=>e=Wd (Wb #[])/\∃v',dO w w' b o C G v v' (Sn.gN T y):=by
 have V:o<C.size:=(Ts.1 h.at_).1;cases hh:Sn.dD T y with
 |false =>
  have I:Sn.gN T y=T:=by unfold Sn.gN;rw[hh];rfl
  rw[I];have W:=cU hh;have l:=cU h;clear hh h I;go_enter func131,ntmps131;go_wp2_with fail;refine(fY b o C G v T y w (cT l)).mono ?_;rintro e w' ⟨rfl,F⟩;rw[cT W];go_wp2;have u:=(cT l).below F;refine Tm (Tl O _ _ _) O ⟨O,v,?_,u.row,Kept.below F _,Wh O⟩;rw[u.blk];have:C.setIfInBounds o v=C:=by
   have hv:=(Ts.1 u.at_).2;rw[<-hv];simp[Array.setIfInBounds,V]
  rw[this]
 |true =>
  obtain⟨X,_,_⟩:=Sn.gu h.me hh;have I:Sn.gN T y=T.eraseIdx (Sn.dv T y):=by unfold Sn.gN;rw[hh];rfl
  rw[I];have W:=cU hh;have l:=cU h;have hl:=h.len;clear hh h I;go_enter func131,ntmps131;go_wp2_with fail;refine(fY b o C G v T y w (cT l)).mono ?_;rintro e w1 ⟨rfl,F⟩;rw[cT W];have u:=(cT l).below F;have hc:=u.cell;rcases u.row.2 with ⟨_,h0⟩|⟨g,z,q,rfl,_,K,t,s,L,M⟩
  .omega
  .have P:S b≠(Value.slice (S ⟨g,0,U⟩) (Wn T) z).ownBlock:=λe=>R e.symm
   generalize hI:Sn.dv T y=i at X ⊢;have B:=qF g z i q T w1 X t s hl K L M;have HB:=cU u.blk;have p:=cU F;have aa:b<N (E w1):=Ud u.blk;have HI:=cU hI;clear u K L M hI F;go_wp2_with fail;refine B.mono ?_;rintro e Q ⟨rfl,A,r⟩;have m:Q.heap[b]?=S (D C G (0,0)):=(r.block b aa (λe=>P e)).trans (cT HB);have ab:Q.cell? ⟨b,o,U⟩=S (J (S ⟨g,0,U⟩) (Wn T) z):=by rw[Ti Q b o _ _ _ m];exact(cT l).at_
   have ad:Q.frozen? ⟨b,o,U⟩=Wg:=by simp[World.frozen?,m]
   have j:=cU (And.intro A (And.intro r m));clear A r m B hc;go_wp2;obtain⟨A,r,m⟩:=cT j;refine Tm (Tl O _ _ _) O ⟨O,J (S ⟨g,0,U⟩) (Wn T-1) z,?_,?_,?_,Wh O⟩
   .rw[Tq Q b o _ _ _ m]
   .rw[cT HI,List.length_eraseIdx,Tg X];exact Ui A (λe=>P e.symm) _
   .exact((Kept.below (cT p) _).trans (Kept.grown r (λk hk=>hk.2))).setCell (λhk=>hk.1 O) _
end Rt
namespace Rt
open Go.RowKit Dk
theorem FF(b o:Nat)(C:Array V6)(j:TypeId)(v:V6)(T:Sn.Tb)(w:V5)(h:eW w b o C j v T):V7 prog 87 #[V9 (S ⟨b,o,U⟩)] w λe l=>e=Wd (Z Y (Wn T))/\l=w:=by
 obtain⟨p,m,rfl,r⟩:=dS h.row;have u:=h.cell;clear h r;go_enter func87,ntmps87;go_wp2;go_ret;exact⟨O,O⟩
def vl:V6 := Wc #[Z Y 0,J U 0 0,Z Y 0]
theorem iC{W:V5}{B b j:Nat}{x y z:V6}(h:b≠B):(((W.setCell ⟨B,0,U⟩ x).setCell ⟨B,1,U⟩ y).setCell ⟨B,2,U⟩ z).drew.cell? ⟨b,j,U⟩=W.cell? ⟨b,j,U⟩:=by
 refine UI (w:=W) (a:=⟨b,j,U⟩) ?_
 show (((W.setCell ⟨B,0,U⟩ x).setCell ⟨B,1,U⟩ y).setCell ⟨B,2,U⟩ z).heap[b]?=W.heap[b]?
 rw[Tv _ _ _ b h,Tv _ _ _ b h,Tv _ _ _ b h]
theorem Fg(l o:Nat)(C:Array V6)(tD:TypeId)(v:V6)(T:Sn.Tb)(i k:Nat)(x:Sn.Ce)(w:V5)(h:eW w l o C tD v T)(hi:T[i]?=S (k,x)):V7 prog 129 #[V9 (S ⟨l,o,U⟩),Z Y i] w λe y=>e=Wd (Wb #[Z Y (k:Int),kU k x,Wa We])/\V4 w y:=by
 obtain⟨p,M,rfl,t⟩:=dS h.row;have s:=h.cell;have hD:l≠(N (E w)):=Nat.ne_of_lt (Ud h.blk);have hl:=h.len;obtain⟨P,B⟩:=Vb.1 hi;obtain⟨g,rfl,A,G,I,K⟩:=t i P;rw[B] at A G I K;obtain⟨q,Q,R,V⟩:=x;dsimp only at A G I K;have L:g≠(N (E w)):=Nat.ne_of_lt (Tu w _ A);have F:Hid (∀W,W=w.alloc (D #[Z Y 0,J U 0 0,Z Y 0] 80)->W.heap[N (E w)]?=S (D #[Z Y 0,J U 0 0,Z Y 0] 80 (0,0))/\V4 w W):=by
  show ∀W,_
  rintro W rfl;exact⟨Tk w _,(Th _ w).alloc V2 _⟩
 have X:=Ud h.blk;have u:=Tu w _ A;clear h t B hi;unfold kU;dsimp only;have aa:(0:Int)<=(i:Int):=by omega
 have ab:¬(i:Int)<0:=by omega
 have ad:¬(Wn T:Int)<=(i:Int):=by omega
 have ae:(i:Int)<(Wn T:Int):=by omega
 go_enter func129,ntmps129;go_upto_region 4 with fail;generalize hW:Wl _ _=r;obtain⟨m,z⟩:=cT F r hW.symm;clear hW F;have f:∀{j:Nat} {b:Nat} {x:V6},b<N (E w)->w.cell? ⟨b,j,U⟩=S x->r.cell? ⟨b,j,U⟩=S x:=λ{j b x} hb h=>(z.cell (p:=⟨b,j,U⟩) hb).trans h
 replace s:=f X s;replace A:=f u A;replace G:=f u G;replace I:=f u I;replace K:=f u K;have r0:r.cell? ⟨N (E w),0,U⟩=S (Z Y 0):=by rw[Ti r _ 0 _ _ _ m];rfl
 have r1:r.cell? ⟨N (E w),1,U⟩=S (J U 0 0):=by rw[Ti r _ 1 _ _ _ m];rfl
 have r2:r.cell? ⟨N (E w),2,U⟩=S (Z Y 0):=by rw[Ti r _ 2 _ _ _ m];rfl
 have g0:r.frozen? ⟨N (E w),0,U⟩=Wg:=by simp[World.frozen?,m]
 have g1:r.frozen? ⟨N (E w),1,U⟩=Wg:=by simp[World.frozen?,m]
 have g2:r.frozen? ⟨N (E w),2,U⟩=Wg:=by simp[World.frozen?,m]
 have HF:Hid (V4 w (((r.drew.setCell ⟨N (E w),0,U⟩ (Z Y (k:Int))).setCell ⟨N (E w),1,U⟩ (J q Q R)).setCell ⟨N (E w),2,U⟩ (Z Y V))):=((z.drew.setCell (p:=⟨N (E w),0,U⟩) V2 _).setCell (p:=⟨N (E w),1,U⟩) V2 _).setCell (p:=⟨N (E w),2,U⟩) V2 _;clear f z m
 go_region_held3 (λy=>y.cell? ⟨l,o,U⟩=S (J (S ⟨g,0,U⟩) (Wn T) M)/\y.cell? ⟨g,i*4,U⟩=S (Z Y (k:Int))/\y.cell? ⟨g,i*4+1,U⟩=S (Z Y (k:Int))/\y.cell? ⟨g,i*4+2,U⟩=S (J q Q R)/\y.cell? ⟨g,i*4+3,U⟩=S (Z Y V))
  (first|(exact⟨by assumption,by assumption,by assumption,by assumption,by assumption⟩)|(exact⟨(iC hD).trans (by assumption),(iC L).trans (by assumption),(iC L).trans (by assumption),(iC L).trans (by assumption),(iC L).trans (by assumption)⟩)|(go_keep;done))
  (first|fail)
 all_goals
  go_wp2;exact Tj (v := Wb #[Z Y (k:Int),Wc #[Z Y (k:Int),J q Q R,Z Y V],Wa We]) (by simp[results,results129,go_sem,r0,r1,r2]) O ⟨O,cT HF⟩
theorem L0(b o:Nat)(C:Array V6)(F:TypeId)(v:V6)(w:V5)(h:eW w b o C F v []):V7 prog 129 #[V9 (S ⟨b,o,U⟩),Z Y (-1)] w λe r=>e=Wd (Wb #[Z Y 0,vl,Wa Wg])/\V4 w r:=by
 clear h;have y:Hid (∀W u,W=w.alloc (D #[Z Y 0,J U 0 0,Z Y 0] 80)->u=W.alloc (D #[Z Y 0,Z Y 0,J U 0 0,Z Y 0] 181)->u.heap[N (E w)]?=S (D #[Z Y 0,J U 0 0,Z Y 0] 80 (0,0))/\u.heap[N (E w)+1]?=S (D #[Z Y 0,Z Y 0,J U 0 0,Z Y 0] 181 (0,0))/\V4 w u):=by
  show ∀W u,_
  rintro W u rfl rfl;refine⟨?_,?_,?_⟩
  .rw[TD _ _ _ (by simp)];exact Tk w _
  .rw[<-TK w (D #[Z Y 0,J U 0 0,Z Y 0] 80)];exact Tk _ _
  .exact((Th _ w).alloc V2 _).alloc (by simp) _
 unfold vl;have A:N (E w)+1≠(N (E w)):=by omega
 go_enter func129,ntmps129;go_upto_region 3 with fail;generalize B:Wl (Wl _ _) _=j;obtain⟨l,m,z⟩:=cT y _ j rfl B.symm;clear B y;have G:j.cell? ⟨N (E w),0,U⟩=S (Z Y 0):=by rw[Ti j _ 0 _ _ _ l];rfl
 have I:j.cell? ⟨N (E w),1,U⟩=S (J U 0 0):=by rw[Ti j _ 1 _ _ _ l];rfl
 have K:j.cell? ⟨N (E w),2,U⟩=S (Z Y 0):=by rw[Ti j _ 2 _ _ _ l];rfl
 have M:j.frozen? ⟨N (E w),0,U⟩=Wg:=by simp[World.frozen?,l]
 have P:j.frozen? ⟨N (E w),1,U⟩=Wg:=by simp[World.frozen?,l]
 have Q:j.frozen? ⟨N (E w),2,U⟩=Wg:=by simp[World.frozen?,l]
 have R:j.cell? ⟨N (E w)+1,0,U⟩=S (Z Y 0):=by rw[Ti j _ 0 _ _ _ m];rfl
 have T:j.cell? ⟨N (E w)+1,1,U⟩=S (Z Y 0):=by rw[Ti j _ 1 _ _ _ m];rfl
 have V:j.cell? ⟨N (E w)+1,2,U⟩=S (J U 0 0):=by rw[Ti j _ 2 _ _ _ m];rfl
 have X:j.cell? ⟨N (E w)+1,3,U⟩=S (Z Y 0):=by rw[Ti j _ 3 _ _ _ m];rfl
 have L:Hid (V4 w (((j.drew.setCell ⟨N (E w),0,U⟩ (Z Y 0)).setCell ⟨N (E w),1,U⟩ (J U 0 0)).setCell ⟨N (E w),2,U⟩ (Z Y 0))):=((z.drew.setCell (p:=⟨N (E w),0,U⟩) V2 _).setCell (p:=⟨N (E w),1,U⟩) V2 _).setCell (p:=⟨N (E w),2,U⟩) V2 _;clear z l m
 go_region_held3 (λr=>r.cell? ⟨N (E w)+1,0,U⟩=S (Z Y 0)/\r.cell? ⟨N (E w)+1,1,U⟩=S (Z Y 0)/\r.cell? ⟨N (E w)+1,2,U⟩=S (J U 0 0)/\r.cell? ⟨N (E w)+1,3,U⟩=S (Z Y 0))
  (first|(exact⟨by assumption,by assumption,by assumption,by assumption⟩)|(exact⟨(iC A).trans (by assumption),(iC A).trans (by assumption),(iC A).trans (by assumption),(iC A).trans (by assumption)⟩)|(go_keep;done))
  (first|fail)
 all_goals
  go_wp2;exact Tj (v := Wb #[Z Y 0,Wc #[Z Y 0,J U 0 0,Z Y 0],Wa Wg]) (by simp[results,results129,go_sem,G,I,K]) O ⟨O,cT L⟩
theorem Hm(b o:Nat)(C:Array V6)(G:TypeId)(v:V6)(T:Sn.Tb)(k:Nat)(x:Sn.Ce)(w:V5)(h:eW w b o C G v ((k,x)::T)):V7 prog 130 #[V9 (S ⟨b,o,U⟩)] w λe L=>e=Wd (Wb #[Z Y (k:Int),kU k x,Wa We])/\V4 w L:=by
 have m:=cU h;have B:Hid (∀W,W=w.alloc (D #[Z Y 0,J U 0 0,Z Y 0] 80)->W.heap[N (E w)]?=S (D #[Z Y 0,J U 0 0,Z Y 0] 80 (0,0))/\V4 w W):=by
  show ∀W,_
  rintro W rfl;exact⟨Tk w _,(Th _ w).alloc V2 _⟩
 clear h;go_enter func130,ntmps130;go_wp2_with fail;generalize I:Wl _ _=K;obtain⟨r,l⟩:=cT B K I.symm;clear I B;refine(Fg b o C G v ((k,x)::T) 0 k x K ((cT m).below l) O).mono ?_;rintro e j ⟨rfl,u⟩;have A:=(u.block _ (Ud r)).trans r;have M:j.cell? ⟨N (E w),0,U⟩=S (Z Y 0):=by rw[Ti j _ 0 _ _ _ A];rfl
 have P:j.cell? ⟨N (E w),1,U⟩=S (J U 0 0):=by rw[Ti j _ 1 _ _ _ A];rfl
 have Q:j.cell? ⟨N (E w),2,U⟩=S (Z Y 0):=by rw[Ti j _ 2 _ _ _ A];rfl
 have s:j.frozen? ⟨N (E w),0,U⟩=Wg:=by simp[World.frozen?,A]
 have g:j.frozen? ⟨N (E w),1,U⟩=Wg:=by simp[World.frozen?,A]
 have g2:j.frozen? ⟨N (E w),2,U⟩=Wg:=by simp[World.frozen?,A]
 have F:=l.trans (u.mono l.size);have R:Hid (∀x y z:V6,V4 w (((j.setCell ⟨N (E w),0,U⟩ x).setCell ⟨N (E w),1,U⟩ y).setCell ⟨N (E w),2,U⟩ z)):=λx y z =>
  ((F.setCell (p:=⟨N (E w),0,U⟩) V2 _).setCell (p:=⟨N (E w),1,U⟩) V2 _).setCell (p:=⟨N (E w),2,U⟩) V2 _
 clear u l r A F m;obtain⟨q,V,X,t⟩:=x;unfold kU;dsimp only;go_wp2;exact Tj (v := Wb #[Z Y (k:Int),Wc #[Z Y (k:Int),J q V X,Z Y t],Wa We]) (by simp[results,results130,go_sem,M,P,Q]) O ⟨O,cT R _ _ _⟩
theorem GM(b o:Nat)(C:Array V6)(G:TypeId)(v:V6)(w:V5)(h:eW w b o C G v []):V7 prog 86 #[V9 (S ⟨b,o,U⟩)] w λe L=>e=Wd (Wb #[Z Y 0,vl,Wa Wg])/\V4 w L:=by
 have m:=cU h;obtain⟨p,M,rfl,P⟩:=dS h.row;have q:=h.cell;have Q:=Ud h.blk;clear P;have B:Hid (∀W,W=w.alloc (D #[Z Y 0,J U 0 0,Z Y 0] 80)->W.heap[N (E w)]?=S (D #[Z Y 0,J U 0 0,Z Y 0] 80 (0,0))/\V4 w W):=by
  show ∀W,_
  rintro W rfl;exact⟨Tk w _,(Th _ w).alloc V2 _⟩
 clear h;go_enter func86,ntmps86;go_wp2_with fail;generalize I:Wl _ _=K;obtain⟨r,l⟩:=cT B K I.symm;clear I B;refine(L0 b o C G _ K ((cT m).below l)).mono ?_;rintro e j ⟨rfl,u⟩;have A:=(u.block _ (Ud r)).trans r;have R:j.cell? ⟨N (E w),0,U⟩=S (Z Y 0):=by rw[Ti j _ 0 _ _ _ A];rfl
 have T:j.cell? ⟨N (E w),1,U⟩=S (J U 0 0):=by rw[Ti j _ 1 _ _ _ A];rfl
 have V:j.cell? ⟨N (E w),2,U⟩=S (Z Y 0):=by rw[Ti j _ 2 _ _ _ A];rfl
 have t:j.frozen? ⟨N (E w),0,U⟩=Wg:=by simp[World.frozen?,A]
 have s:j.frozen? ⟨N (E w),1,U⟩=Wg:=by simp[World.frozen?,A]
 have g:j.frozen? ⟨N (E w),2,U⟩=Wg:=by simp[World.frozen?,A]
 have F:=l.trans (u.mono l.size);have X:Hid (∀x y z:V6,V4 w (((j.setCell ⟨N (E w),0,U⟩ x).setCell ⟨N (E w),1,U⟩ y).setCell ⟨N (E w),2,U⟩ z)):=λx y z =>
  ((F.setCell (p:=⟨N (E w),0,U⟩) V2 _).setCell (p:=⟨N (E w),1,U⟩) V2 _).setCell (p:=⟨N (E w),2,U⟩) V2 _
 clear u l r A F m;unfold vl;go_wp2;exact Tj (v := Wb #[Z Y 0,Wc #[Z Y 0,J U 0 0,Z Y 0],Wa Wg]) (by simp[results,results86,go_sem,R,T,V]) O ⟨O,cT X _ _ _⟩
theorem Ha(b o:Nat)(C:Array V6)(I:TypeId)(v:V6)(T:Sn.Tb)(k:Nat)(x:Sn.Ce)(w:V5)(h:eW w b o C I v (T++[(k,x)])):V7 prog 86 #[V9 (S ⟨b,o,U⟩)] w λe M=>e=Wd (Wb #[Z Y (k:Int),kU k x,Wa We])/\V4 w M:=by
 have m:=cU h;obtain⟨p,P,rfl,Q⟩:=dS h.row;have R:=h.cell;have V:=h.len;have X:=Ud h.blk;have B:(T++[(k,x)]).length=Wn T+1:=by simp
 rw[B] at R V;clear Q;have F:Hid (∀W,W=w.alloc (D #[Z Y 0,J U 0 0,Z Y 0] 80)->W.heap[N (E w)]?=S (D #[Z Y 0,J U 0 0,Z Y 0] 80 (0,0))/\V4 w W):=by
  show ∀W,_
  rintro W rfl;exact⟨Tk w _,(Th _ w).alloc V2 _⟩
 clear h;go_enter func86,ntmps86;go_wp2_with fail;generalize K:Wl _ _=L;obtain⟨r,l⟩:=cT F L K.symm;clear K F;refine(Fg b o C I _ (T++[(k,x)]) (Wn T) k x L ((cT m).below l) (by simp)).mono ?_;rintro e j ⟨rfl,u⟩;have A:=(u.block _ (Ud r)).trans r;have t:j.cell? ⟨N (E w),0,U⟩=S (Z Y 0):=by rw[Ti j _ 0 _ _ _ A];rfl
 have s:j.cell? ⟨N (E w),1,U⟩=S (J U 0 0):=by rw[Ti j _ 1 _ _ _ A];rfl
 have g:j.cell? ⟨N (E w),2,U⟩=S (Z Y 0):=by rw[Ti j _ 2 _ _ _ A];rfl
 have g0:j.frozen? ⟨N (E w),0,U⟩=Wg:=by simp[World.frozen?,A]
 have g1:j.frozen? ⟨N (E w),1,U⟩=Wg:=by simp[World.frozen?,A]
 have g2:j.frozen? ⟨N (E w),2,U⟩=Wg:=by simp[World.frozen?,A]
 have G:=l.trans (u.mono l.size);have HF:Hid (∀x y z:V6,V4 w (((j.setCell ⟨N (E w),0,U⟩ x).setCell ⟨N (E w),1,U⟩ y).setCell ⟨N (E w),2,U⟩ z)):=λx y z =>
  ((G.setCell (p:=⟨N (E w),0,U⟩) V2 _).setCell (p:=⟨N (E w),1,U⟩) V2 _).setCell (p:=⟨N (E w),2,U⟩) V2 _
 clear u l r A G m;obtain⟨q,qn,qc,al⟩:=x;unfold kU;dsimp only;go_wp2;exact Tj (v := Wb #[Z Y (k:Int),Wc #[Z Y (k:Int),J q qn qc,Z Y al],Wa We]) (by simp[results,results86,go_sem,t,s,g]) O ⟨O,cT HF _ _ _⟩
end Rt
namespace Rt
open Go.RowKit Dk Go.Shelf
attribute [local go_sem] Oper.semAt_some
theorem qC(F:Fence)(n:Nat)(j:F.fn 132)(b:F.round=U)(p0:Option Addr)(w:V5):CallsIn F n prog 132 #[V9 p0] w λe l=>e=Wd (.func (.func 208) #[] #[V9 (S ⟨N (E w),0,U⟩)])/\l=w.alloc (D #[V9 p0] 177):=by
 refine callsIn_of_wp func132 O j ?_ b;simp only[ntmps132,US,Tr,UB,Nat.reduceAdd,Nat.reduceSub,U1,U2,U4,U5,Ul,TZ]
 gi_wp2
 go_ret;exact⟨O,O⟩
theorem rV(F:Fence)(n:Nat)(h8:F.fn 208)(Q:F.round=U)(hn:1<=n)(l t b o N:Nat)(M:Nat->Prop)(p:Option Addr)(cap:Nat)(T:Sn.Tb)(hl:Wn T<=1000000000)(m s:List { x:Nat × Sn.Ce // x∈T }->V5->Prop)(hY:∀u x W,m u W->Wn u<Wn T->YieldAt F (n-1) prog l #[Z Y (x.1.1:Int),kU x.1.1 x.1.2] W λe C => (e=Wd (Wa We)/\m (u++[x]) C/\fV N M W C)\/(e=Wd (Wa Wg)/\s (u++[x]) C))(W:V5)(hN:N<=W.heap.size)(R:AbidesFrom W.heap.size m)(ab:W.cell? ⟨t,0,U⟩=S (V9 (S ⟨b,o,U⟩)))(ht:W.cell? ⟨b,o,U⟩=S (J p (Wn T) cap))(hc:∀j (hj:j<Wn T),∃g,p=S ⟨g,0,U⟩/\g<N/\M g/\W.cell? ⟨g,j*4,U⟩=S (Z Y (T[j].1:Int))/\W.cell? ⟨g,j*4+1,U⟩=S (Z Y (T[j].1:Int))/\W.cell? ⟨g,j*4+2,U⟩=S (J T[j].2.p T[j].2.n T[j].2.c)/\W.cell? ⟨g,j*4+3,U⟩=S (Z Y T[j].2.al))(h0:m [] W):CallsIn F n prog 208 #[.func (.yield l) #[] #[],V9 (S ⟨t,0,U⟩)] W λe C=>(∃v,e=Wd v)/\
   ((∃ys,ys=T.attach/\m ys C)\/(∃u,u <+: T.attach/\s u C)):=by
 refine callsIn_of_wp func208 O h8 ?_ Q;simp only[ntmps208,US,Tr,UB,Nat.reduceAdd,Nat.reduceSub,U1,U2,U4,U5,Ul,TZ]
 gi_wp2
 gi_loopw [10] (λi wr=>∃k:Nat,k<=Wn T/\i=Z Y k/\Hid (m (T.attach.take k) wr)/\fV N M W wr)
  (λi _=>Wn T-(intOf i).toNat)
 case atStart=>exact⟨0,Tp _,rfl,h0,fV.refl _ _ _⟩
 case round =>
  obtain⟨k,hk,rfl,HJ,y⟩:=hrel;by_cases V:k<Wn T
  .obtain⟨g,rfl,P,z,c0,c1,c2,c3⟩:=hc k V;have d0:=(y.cell (p:=⟨g,k*4,U⟩) P z).trans c0;have d1:=(y.cell (p:=⟨g,k*4+1,U⟩) P z).trans c1;have d2:=(y.cell (p:=⟨g,k*4+2,U⟩) P z).trans c2;have d3:=(y.cell (p:=⟨g,k*4+3,U⟩) P z).trans c3;have G:(k:Int)<(Wn T:Int):=by omega
   have ad:Wn T.attach=Wn T:=List.length_attach;obtain⟨x,X⟩:∃x,T.attach[k]'(by omega)=x:=⟨_,rfl⟩
   have I:T[k]=x.1:=by rw[<-X];simp
   rw[I] at d0 d1 d2 d3;have HX:=cU X;clear X c0 c1 c2 c3 I;have K:m (T.attach.take k) (wr.alloc (D #[Z Y (x.1.1:Int),Z Y (x.1.1:Int),J x.1.2.p x.1.2.n x.1.2.c,Z Y x.1.2.al] 181)):=R _ _ _ U (cT HJ) (World.grownBy_alloc _ _ U) (λr e=>by cases e);obtain⟨fn,aa,assign,body,hy,hR⟩:=hY _ x _ K (by rw[Uz];omega);clear K;unfold kU at hy
   gi_wp2
   refine hR.mono ?_;rintro e W3 (⟨rfl,L,q⟩|⟨rfl,A⟩)
   .have B:=cU L;clear L
    gi_wp2
    go_roundw
    case rel=>exact⟨k+1,by omega,by go_num,by show m _ _;rw[Uw (by omega),cT HX];exact cT B,y.trans (((fV.refl N M _).alloc (To hN y.size) _).trans q)⟩
    case measure=>simp[intOf];omega
   .have B:=cU A;clear A
    gi_wp2
    refine Tj (Tl O _ _ _) O ?_;exact⟨⟨_,O⟩,.inr ⟨_,⟨T.attach.drop (k+1),by rw[<-cT HX,<-Uw (by omega),Un]⟩,cT B⟩⟩
  .have G:¬(k:Int)<(Wn T:Int):=by omega
   obtain rfl:k=Wn T:=by omega
   gi_wp2
   go_end0
   exact⟨⟨_,O⟩,.inl (by have h:=cT HJ;rw[Ur (by rw[List.length_attach];omega)] at h;first|exact h|exact⟨_,rfl,h⟩)⟩
theorem kK(F:Fence)(n:Nat)(P:F.fn 208)(B:F.round=U)(Q:1<=n)(u b o N:Nat)(C:Nat->Prop)(p:Option Addr)(cap:Nat)(T:Sn.Tb)(R:Wn T<=1000000000)(w:V5)(y:u<w.heap.size)(z:N<=w.heap.size)(G:b<w.heap.size)(I:w.cell? ⟨u,0,U⟩=S (V9 (S ⟨b,o,U⟩)))(ht:w.cell? ⟨b,o,U⟩=S (J p (Wn T) cap))(V:∀j (M:j<Wn T),∃g,p=S ⟨g,0,U⟩/\g<N/\C g/\w.cell? ⟨g,j*4,U⟩=S (Z Y (T[j].1:Int))/\w.cell? ⟨g,j*4+1,U⟩=S (Z Y (T[j].1:Int))/\w.cell? ⟨g,j*4+2,U⟩=S (J T[j].2.p T[j].2.n T[j].2.c)/\w.cell? ⟨g,j*4+3,U⟩=S (Z Y T[j].2.al)):SeqStopsK F n prog 208 #[V9 (S ⟨u,0,U⟩)] (λx:{ x:Nat × Sn.Ce // x∈T }=>#[Z Y (x.1.1:Int),kU x.1.1 x.1.2]) (fV N C) (λX=>X=T.attach) (λK=>K <+: T.attach) (Wn T) w:=λl m k W r q _ i h =>
 rV F n P B Q l u b o N C p cap T R m k i W (To z r.size) q ((r.cell (p:=⟨u,0,U⟩) y).trans I) ((r.cell (p:=⟨b,o,U⟩) G).trans ht)
  (λj M=>by obtain⟨g,e,A,L,f,t,s,c3⟩:=V j M;exact⟨g,e,A,L,(r.cell (p:=⟨g,j*4,U⟩) (TI A z)).trans f,(r.cell (p:=⟨g,j*4+1,U⟩) (TI A z)).trans t,(r.cell (p:=⟨g,j*4+2,U⟩) (TI A z)).trans s,(r.cell (p:=⟨g,j*4+3,U⟩) (TI A z)).trans c3⟩) h
end Rt
end Go.Proofs.YtgkkdpegcieakaaGreatDoor
