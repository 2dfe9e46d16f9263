import Derived.Test.YtgkkdpegcieakaaGreatDoorCv11
import Derived.Test.YtgkkdpegcieakaaGreatDoorCv06
set_option linter.all false
set_option maxRecDepth 100000
set_option maxHeartbeats 0
namespace Go.Proofs.YtgkkdpegcieakaaGreatDoor
open Go.Proofs.Tryz
open Value renaming int→Z,slice→J,string→H,pointer→V9,bool→Wa,tuple→Wb
open Ending renaming returned→Wd
open Obj renaming cells→D
open Option renaming none→U,some→S
open Bool renaming true→We,false→Wg
open Or renaming inl→Wh,inr→Wi
open List renaming length→Wn
open _root_.Array renaming size→N
open World renaming heap→E
open IntKind renaming i64→Y
open Go renaming World→V5,Value→V6,Calls→V7
open Go.RowKit
namespace Dk
theorem tm(x:V8)(w:V5):V7 prog 236 #[H x] w λe b=>e=Wd (Wa Wg)/\b=w:=by
 have h:(x.toList == x.toList)=We:=by simp
 go_enter func236,ntmps236;go_wp2;go_ret;exact⟨O,O⟩
def eH(f:Nat):V6 := V9 (S ⟨f,0,U⟩)
def kE(x y:V8):Int:=if Sd.lt x y=We then -1 else if Sd.lt y x=We then 1 else 0
theorem Bm(x y:V8)(w:V5):V7 prog 214 #[H x,H y] w λe j=>e=Wd (Z Y (kE x y))/\j=w:=by
 rcases Sd.qz x y with h|h|h
 .have b:kE x y = -1:=Tg h;have l:Op.bytesLess x.toList y.toList=We:=h;rw[b];clear b h;go_enter func214,ntmps214;go_wp2_with (go_at_call 236;refine(tm _ _).mono ?_;rintro e j ⟨rfl,rfl⟩);go_ret;exact⟨O,O⟩
 .subst h;have b:kE x x=0:=by simp[kE,Sd.lt_irrefl]
  have l:Op.bytesLess x.toList x.toList=Wg:=Sd.lt_irrefl x;have m:(x.toList == x.toList)=We:=by simp
  rw[b];clear b;go_enter func214,ntmps214;go_wp2_with (go_at_call 236;refine(tm _ _).mono ?_;rintro e j ⟨rfl,rfl⟩);go_ret;exact⟨O,O⟩
 .have b:kE x y=1:=by unfold kE;rw[Sd.lt_asymm h,Tf (by decide),Tg h]
  have l:Op.bytesLess x.toList y.toList=Wg:=Sd.lt_asymm h;have m:(x.toList == y.toList)=Wg:=by
   apply VR.2;intro r;exact Sd.sd h (Sd.toList_inj (eq_of_beq r)).symm
  rw[b];clear b h;go_enter func214,ntmps214;go_wp2_with (go_at_call 236;refine(tm _ _).mono ?_;rintro e j ⟨rfl,rfl⟩);go_ret;exact⟨O,O⟩
theorem iy(a:V8)(v:V6)(y:V8)(w:V5):V7 prog 213 #[.agg #[H a,v],H y] w λe b=>e=Wd (Z Y (kE a y))/\V4 w b:=by
 go_enter func213,ntmps213;go_wp2_with (go_at_call 214;refine(Bm _ _ _).mono ?_;rintro e b ⟨rfl,rfl⟩);go_ret;exact⟨O,V3.alloc V2 _⟩
def ik(w:V5)(p:Option Addr)(T:Sd.Tb):Prop := ∀j (h:j<Wn T),∃g,p=S ⟨g,0,U⟩/\w.cell? ⟨g,j*2,U⟩=S (H (T[j]).1)/\w.cell? ⟨g,j*2+1,U⟩=S (eH (T[j]).2)
theorem ik.below{w w':V5}{p:Option Addr}{T:Sd.Tb}(h:ik w p T)(hb:V4 w w'):ik w' p T:=λj m=>by
 obtain⟨g,e,b,l⟩:=h j m;exact⟨g,e,(hb.cell (Tu w _ b)).trans b,(hb.cell (Tu w _ l)).trans l⟩
theorem my(p:Option Addr)(cap:Nat)(T:Sd.Tb)(y:V8)(w:V5)(h:ik w p T)(W:Sd.dj T)(hl:Wn T<=1000000000):V7 prog 212 #[J p (Wn T) cap,H y,.func (.func 213) #[] #[]] w λe X=>e=Wd (Wb #[Z Y (Sd.dv T y:Nat),Wa (Sd.dD T y)])/\V4 w X:=by
 go_enter func212,ntmps212;go_wp2
 go_loopw [9,10] (λa b wr=>∃i j:Nat,i<=j/\j<=Wn T/\a=Z Y i/\b=Z Y j/\V4 w wr/\(∀k (I:k<Wn T),k<i->Sd.lt (T[k]).1 y=We)/\(∀k (I:k<Wn T),j<=k->Sd.lt (T[k]).1 y=Wg)) (λa b _=>(intOf b-intOf a).toNat)
 case atStart=>exact⟨0,Wn T,Tp _,Te _,rfl,rfl,Th _ _,λk I h=>by omega,λk I h=>by omega⟩
 case round =>
  obtain⟨i,j,ae,hj,rfl,rfl,r,K,L⟩:=hrel;have M:=cU K;have P:=cU L;clear K L;by_cases af:i<j
  .have t:(i+j)/2<Wn T:=by omega
   have ag:i<=(i+j)/2:=by omega
   have ah:(i+j)/2<j:=by omega
   have ad:(i:Int)<(j:Int):=by omega
   obtain⟨g,s,o,c1⟩:=(h.below r) ((i+j)/2) (by omega)
   subst s;obtain⟨x,z⟩:∃x,(T[(i+j)/2]).1=x:=⟨_,rfl⟩
   obtain⟨v,Q⟩:∃x,(T[(i+j)/2]).2=x:=⟨_,rfl⟩
   rw[z] at o;rw[Q] at c1;have R:=cU z;clear z Q;cases l:Sd.lt x y with
   |true =>
    have A:=cU l;have q:Hid (kE x y = -1):=Tg l;clear l;go_wp2_with (go_at_call 213;refine(iy _ _ _ _).mono ?_;rintro e X ⟨rfl,m⟩;rw[cT q]);go_roundw
    case rel =>
     refine⟨(i+j)/2+1,j,by omega,hj,by go_num,O,r.trans (m.mono r.size),λk I aa=>?_,cT P⟩;have u:=Sd.fg W (i:=k) (j:=(i+j)/2) (by omega) t;rw[cT R] at u;exact Sd.oW u (cT A)
    case measure=>simp[intOf];omega
   |false =>
    have q:Hid (0<=kE x y):=by show _<=_;unfold kE;rw[l];simp;split <;> omega
    have A:=cU l;clear l;obtain⟨c,B⟩:∃c,kE x y=c:=⟨_,rfl⟩
    rw[B] at q;have C:=cU B;have ai:0<=c:=cT q;clear B;go_wp2_with (go_at_call 213;refine(iy _ _ _ _).mono ?_;rintro e X ⟨rfl,m⟩;rw[cT C]);go_roundw
    case rel =>
     refine⟨i,(i+j)/2,by omega,by omega,O,by go_num,r.trans (m.mono r.size),cT M,λk I aa=>?_⟩;have u:=Sd.fg W (i:=(i+j)/2) (j:=k) (by omega) I;rw[cT R] at u;cases h2:Sd.lt (T[k]).1 y with
     |false=>rfl
     |true=>have:=Sd.oW u h2;rw[cT A] at this;cases this
    case measure=>simp[intOf];omega
  .have ab:j=i:=by omega
   subst ab;have F:Hid (Sd.dv T y=j):=Sd.jM hj (cT M) (cT P);by_cases G:j<Wn T
   .have V:(j:Int)<(Wn T:Int):=by omega
    obtain⟨g,s,o,c1⟩:=(h.below r) j G;subst s;have HH:=cU (Sd.iV W y);obtain⟨x,z⟩:∃x,(T[j]).1=x:=⟨_,rfl⟩
    obtain⟨v,Q⟩:∃x,(T[j]).2=x:=⟨_,rfl⟩
    rw[z] at o;rw[Q] at c1;have R:=cU z;clear z Q;obtain⟨c,B⟩:∃c,kE x y=c:=⟨_,rfl⟩
    have C:=cU B;have HE:Hid (Sd.dD T y=(c == 0)):=by
     show _=_
     have u:(c == 0)=decide (x=y):=by
      rw[<-B];unfold kE;rcases Sd.qz x y with h|h|h
      .rw[Tg h,TE (Sd.sd h)];rfl
      .subst h;simp[Sd.lt_irrefl]
      .rw[Sd.lt_asymm h,Tf (by decide),Tg h,TE (λe=>Sd.sd h e.symm)];rfl
     rw[u];apply Bool.eq_iff_iff.2;rw[cT HH,decide_eq_true_iff];constructor
     .rintro⟨hq,e⟩;have e2:T[Sd.dv T y]=T[j]:=by congr 1 <;> exact cT F
      rw[e2] at e;rw[<-e];exact(cT R).symm
     .intro e;have e2:T[Sd.dv T y]'(by rw[cT F];exact G)=T[j]:=by congr 1 <;> exact cT F
      exact⟨by rw[cT F];exact G,by rw[e2];exact(cT R).trans e⟩
    clear B;go_wp2_with (go_at_call 213;refine(iy _ _ _ _).mono ?_;rintro e X ⟨rfl,m⟩;rw[cT C]);exact Tj (v := Wb #[Z Y j,Wa (c == 0)]) (by simp[results,results212,go_sem]) O ⟨by rw[cT F,cT HE],r.trans (m.mono r.size)⟩
   .have V:¬(j:Int)<(Wn T:Int):=by omega
    have aj:(Wn T:Int)<=(j:Int):=by omega
    have HE:Hid (Sd.dD T y=Wg):=by
     show _=_
     cases hq:Sd.dD T y with
     |false=>rfl
     |true=>obtain⟨u,_⟩:=(Sd.iV W y).1 hq;rw[cT F] at u;omega
    go_wp2;exact Tj (v := Wb #[Z Y j,Wa Wg]) (by simp[results,results212,go_sem]) O ⟨by rw[cT F,cT HE],r⟩
end Dk
namespace Dk
def cV(T:Sd.Tb):List V6:=T.flatMap λp=>[H p.1,eH p.2]
theorem eJ(T:Sd.Tb):(cV T).length=Wn T*2:=by
 induction T with
 |nil=>rfl
 |cons p t b=>simp[cV] at b ⊢;omega
theorem kC(A B:Sd.Tb):cV (A++B)=cV A++cV B:=by simp[cV]
theorem mW(T:Sd.Tb):∀j (h:j<Wn T),(cV T)[j*2]?=S (H (T[j]).1)/\(cV T)[j*2+1]?=S (eH (T[j]).2):=by
 induction T with
 |nil=>intro j h;simp at h
 |cons p t b =>
  intro j h;have e:cV (p::t)=H p.1::eH p.2::cV t:=by simp[cV]
  rw[e];cases j with
  |zero=>simp
  |succ j =>
   have:=b j (by simpa using h);rw[show (j+1)*2=j*2+1+1 by omega];simpa using this
theorem mA(T:Sd.Tb):∀u∈cV T,u.oneCell'=We:=by
 intro u hu;obtain⟨p,_,b⟩:=UM.1 hu;simp at b;rcases b with rfl|rfl <;> rfl
theorem dS{w:V5}{B:Nat}{v:V6}{T:Sd.Tb}(h:w.ownsRow B 194 2 v (Wn T) (cV T)):∃p b,v=J p (Wn T) b/\ik w p T:=by
 have m:=h;rcases h.2 with ⟨e,r⟩|⟨g,b,u,e,_⟩
 .subst e;refine⟨U,0,by rw[r],λj l=>by omega⟩
 .subst e;refine⟨S ⟨g,0,U⟩,b,O,λj l=>⟨g,O,?_,?_⟩⟩
  .rw[m.cellAt _ (by omega)];exact(mW T j l).1
  .rw[m.cellAt _ (by omega)];exact(mW T j l).2
theorem dm{w:V5}{B e size n:Nat}{v:V6}{l:List V6}(h:w.ownsRow B e size v n l):∃p b,v=J p n b/\n<=b:=by
 rcases h.2 with ⟨rfl,j⟩|⟨g,b,m,rfl,_,_,j,_⟩
 .exact⟨U,0,by rw[j],by omega⟩
 .exact⟨_,b,O,j⟩
theorem info_entry:(prog.info? 194).map (λi=>(i.zero,i.size,i.bytes))=S (S (.agg #[H ⟨#[]⟩,V9 U]),2,24):=by kernel_rfl
section
variable {α : Type}
def kj(L:List α)(o:Nat)(c:List α):List α:=L.take o++c++L.drop (o+Wn c)
theorem fZ(L:List α)(o:Nat)(c:List α)(h:o+Wn c<=Wn L):(kj L o c).length=Wn L:=by simp[kj];omega
theorem qT(L:List α)(o:Nat)(V b:List α)(n:Nat)(h1:o+Wn V+Wn b<=Wn L):(kj (kj L (o+Wn V) b) o V).take (o+Wn V+Wn b)=L.take o++V++b:=by
 have e:(kj L (o+Wn V) b).take o=L.take o:=by
  unfold kj;rw[T4,UA (by simp;omega),UN,Vh (by omega)]
 have j:(kj L (o+Wn V) b).drop (o+Wn V)=b++L.drop (o+Wn V+Wn b):=by
  unfold kj;rw[T4,VN (by simp;omega),UP (by simp;omega),Ul]
 show (List.take o _++V++List.drop (o+Wn V) _).take _=_
 rw[e,j,<-T4,UA (by simp;omega),Ur (by simp;omega)]
theorem rL(L:List α)(o:Nat)(V b:List α)(h1:o+Wn V+Wn b<=Wn L):(kj (kj L o V) (o+Wn V) b).take (o+Wn V+Wn b)=L.take o++V++b:=by
 have e:(kj L o V).take (o+Wn V)=L.take o++V:=by
  unfold kj;rw[UA (by simp;omega),Ur (by simp;omega)]
 show (List.take _ _++b++List.drop _ _).take _=_
 rw[e,UA (by simp;omega),Ur (by simp;omega)]
end
theorem nY(T:Sd.Tb)(i:Nat):(cV T).take (i*2)=cV (T.take i):=by
 induction T generalizing i with
 |nil=>simp[cV]
 |cons p t b =>
  cases i with
  |zero=>simp[cV]
  |succ i =>
   have e:cV (p::t)=H p.1::eH p.2::cV t:=by simp[cV]
   rw[e,show (i+1)*2=i*2+1+1 by omega,UW,UW,b];simp[cV]
theorem od(T:Sd.Tb)(i:Nat):(cV T).drop (i*2)=cV (T.drop i):=by
 induction T generalizing i with
 |nil=>simp[cV]
 |cons p t b =>
  cases i with
  |zero=>simp
  |succ i =>
   have e:cV (p::t)=H p.1::eH p.2::cV t:=by simp[cV]
   rw[e,show (i+1)*2=i*2+1+1 by omega,Vi,Vi,b];simp
theorem oO(T:Sd.Tb)(i:Nat)(a:V8)(b:Nat):(cV T).take (i*2)++[H a,eH b]++(cV T).drop (i*2)=cV (T.take i++(a,b)::T.drop i):=by
 rw[nY,od,kC];simp[cV]
def ib(w:V5)(B:Nat)(v:V6)(T:Sd.Tb)(i:Nat)(a:V8)(b:Nat)(e:Ending)(w':V5):Prop :=
 ∃j,e=Wd j/\w'.ownsRow B 194 2 j (Wn T+1) (cV (T.take i++(a,b)::T.drop i))/\w.grownBy w' v.ownBlock/\(j.ownBlock=v.ownBlock\/j.ownBlock=S (N (E w)))
theorem mn(B x:Nat)(v:V6)(T:Sd.Tb)(a:V8)(b:Nat)(w:V5)(M:B<=N (E w))(h:w.ownsRow B 194 2 v (Wn T) (cV T))(hl:Wn T<=1000000000)(P:w.heap[x]?=S (D #[H a,eH b] 194 (0,0))):V7 prog 215 #[v,Z Y (Wn T),J (S ⟨x,0,U⟩) 1 1] w (ib w B v T (Wn T) a b):=by
 obtain⟨Q,hi,z,A,C⟩:=TN info_entry;obtain⟨p,m,rfl,F⟩:=dm h;have R:Wn T<=m:=F;have q:m<=9223372036854775807:=by
  rcases h.2 with ⟨G,t⟩|⟨g,V,s,G,_,_,t,o,_⟩
  .injection G with _ _ G;omega
  .injection G with _ _ G;unfold maxLen at o;omega
 clear F;have W:w.cell? ⟨x,0,U⟩=S (H a):=by rw[Ti w x 0 _ _ _ P];rfl
 have X:w.cell? ⟨x,1,U⟩=S (eH b):=by rw[Ti w x 1 _ _ _ P];rfl
 by_cases I:m=Wn T
 .subst I;go_enter func215,ntmps215;go_wp2_with (first
   | (at_builtin;go_must (refine eV _ O (.tmp 23) (.tmp 24) 56 O B 194 Q _ 2 24 underlying56 hi z A C O (by decide) _ _ _ O h ⟨x,0,U⟩ 1 1 (by decide) [H a,eH b] O O ?c1 ?c2 ?c3 ?c4 ?c5 ?_))
   |go_in)
  case c1 =>
   intro j u l
   match j,l with
   |0,l=>simp at l;subst l;simpa [Addr.add] using W
   |1,l=>simp at l;subst l;simpa [Addr.add] using X
  case c2=>intro u hu;simp at hu;rcases hu with rfl | rfl <;> rfl
  case c3=>unfold maxLen;omega
  case c4=>omega
  case c5=>exact M
  intro K w3 L r y _;go_wp2;go_ret;refine⟨K,O,?_,r,y⟩;have e:cV (T.take (Wn T)++(a,b)::T.drop (Wn T))=cV T++[H a,eH b]:=by simp[cV]
  rw[e];exact L
 .have aa:Wn T<m:=by omega
  go_enter func215,ntmps215;go_wp2_with (first
   | (at_builtin;go_must (refine eV _ O (.tmp 23) (.tmp 24) 56 O B 194 Q _ 2 24 underlying56 hi z A C O (by decide) _ _ _ O h ⟨x,0,U⟩ 1 1 (by decide) [H a,eH b] O O ?c1 ?c2 ?c3 ?c4 ?c5 ?_))
   |go_in)
  case c1 =>
   intro j u l
   match j,l with
   |0,l=>simp at l;subst l;simpa [Addr.add] using W
   |1,l=>simp at l;subst l;simpa [Addr.add] using X
  case c2=>intro u hu;simp at hu;rcases hu with rfl | rfl <;> rfl
  case c3=>unfold maxLen;omega
  case c4=>omega
  case c5=>exact M
  intro K w3 L r y _;go_wp2;go_ret;refine⟨K,O,?_,r,y⟩;have e:cV (T.take (Wn T)++(a,b)::T.drop (Wn T))=cV T++[H a,eH b]:=by simp[cV]
  rw[e];exact L
end Dk
namespace Dk
theorem gI:(prog.info? 194).map (·.size)=S 2:=by
 obtain⟨l,hi,e,b,j⟩:=TN info_entry;rw[hi];simp[b]
theorem nR(w:V5):(Go.sizeOf 194).run prog w=.ok 2 w:=by
 obtain⟨l,hi,e,b,j⟩:=TN info_entry;simp[sizeOf,typeInfo,hi,b]
theorem oU(w:V5)(x g o lb r:Nat)(a:V8)(b:Nat)(j:Array V6)(l:x≠g)(m:w.heap[x]?=S (D #[H a,eH b] 194 (0,0)))(u:w.heap[g]?=S (D j 194 (0,0)))(y:j.size≠0):(callFunc 237 #[J (S ⟨x,0,U⟩) 1 1,J (S ⟨g,o,U⟩) lb r]).run prog w=.ok (.value (Wa Wg)) w:=by
 rw[run_callFunc_extern func237 (by kernel_rfl) (by kernel_rfl) (by kernel_rfl) (e:=Extern.SlicesOverlaps.overlaps #[56,56] #[4]) (by kernel_rfl),
  Lib.run_overlaps_apart w 56 4 194 underlying56 2 nR ⟨x,0,U⟩ ⟨g,o,U⟩ 1 1 lb r l 194 194 2 j.size (by simp[World.shape?,m]) (by simp[World.shape?,u]) y (by simp[World.frozen?,m]) (by simp[World.frozen?,m])]
 rfl
theorem lq(B x g cap i:Nat)(m:Array V6)(T:Sd.Tb)(a:V8)(b:Nat)(w:V5)(hi:i<Wn T)(hB:B<=g)(q:Wn T+1<=cap)(ab:cap<=maxLen)(hl:Wn T<=1000000000)(ad:x≠g)(hg:w.heap[g]?=S (D m 194 (0,0)))(ae:m.size=cap*2)(r:m.toList.take (Wn T*2)=cV T)(hx:w.heap[x]?=S (D #[H a,eH b] 194 (0,0))):V7 prog 215 #[J (S ⟨g,0,U⟩) (Wn T) cap,Z Y i,J (S ⟨x,0,U⟩) 1 1] w (ib w B (J (S ⟨g,0,U⟩) (Wn T) cap) T i a b):=by
 have ak:∀o lb cb,(callFunc 237 #[J (S ⟨x,0,U⟩) 1 1,J (S ⟨g,o,U⟩) lb cb]).run prog w=.ok (.value (Wa Wg)) w:=λo lb cb=>oU w x g o lb cb a b m ad hx hg (by omega)
 obtain⟨l,hD⟩:∃l,l=(cV T).drop (i*2):=⟨_,rfl⟩
 obtain⟨V,y⟩:∃V:List V6,V=[H a,eH b]:=⟨_,rfl⟩
 have af:Wn l=(Wn T-i)*2:=by rw[hD,Us,eJ];omega
 have an:Wn V=2:=by rw[y];rfl
 have ag:Wn m.toList=cap*2:=by simpa using ae
 obtain⟨A,C⟩:∃A,A=kj m.toList (i*2+Wn V) l:=⟨_,rfl⟩
 obtain⟨t,F⟩:∃t,t=kj A (i*2) V:=⟨_,rfl⟩
 have I:Wn A=cap*2:=by rw[C,fZ _ _ _ (by omega)];exact ag
 have K:Wn t=cap*2:=by rw[F,fZ _ _ _ (by omega)];exact I
 have L:t.take ((Wn T+1)*2)=cV (T.take i++(a,b)::T.drop i):=by
  have e:=qT m.toList (i*2) V l 0 (by omega);rw[<-C,<-F] at e;have e2:i*2+Wn V+Wn l=(Wn T+1)*2:=by omega
  rw[e2] at e;rw[e,<-oO,<-y,<-hD]
  congr 2
  rw[<-r,UN,Vh (by omega)]
 have z:∀j v,l[j]?=S v->w.cell? ⟨g,i*2+j,U⟩=S v:=λj v M=>by
  have ar:j<Wn l:=(Vb.1 M).1;rw[Ti w g _ _ _ _ hg];rw[hD,<-r,UX,U8,Tg (by omega)] at M;simpa using M
 have ah:∀v∈l,v.oneCell'=We:=λv hv=>mA T v (by rw[hD] at hv;exact UR hv)
 have Q:∀s p sc,(Builtin.copy_ #[56,56] s #[J (S ⟨g,(i+1)*2,U⟩) (Wn T+1-(i+1)) p,J (S ⟨g,i*2,U⟩) (Wn T+1-i) sc]).run prog w.drew=.ok (goInt ((Wn T-i:Nat):Int)) (w.drew.setRow g A.toArray):=λs p sc=>by
  have h:=eC (P:=prog) w.drew 56 56 s 194 2 g ((i+1)*2) (Wn T+1-(i+1)) p ⟨g,i*2,U⟩ (Wn T+1-i) sc m 194 l underlying56 gI hg (Wn T-i) (by simp only[UY];split <;> omega) af
   (λj v M=>by rw[UE];exact z j v M) (by omega) ah
  rw[h,C];unfold kj;rw[show i*2+Wn V=(i+1)*2 by omega]
 have G:(w.drew.setRow g A.toArray).heap[g]?=S (D A.toArray 194 (0,0)):=Uq w.drew g m _ _ _ hg;have aa:(w.drew.setRow g A.toArray).heap[x]?=S (D #[H a,eH b] 194 (0,0)):=by
  rw[Uk w.drew g x _ ad];exact hx
 obtain⟨W1,u⟩:∃W1,W1=w.drew.setRow g A.toArray:=⟨_,rfl⟩
 rw[<-u] at Q G aa;have ai:∀(W:V5),W=W1->∀s p,(Builtin.copy_ #[56,56] s #[J (S ⟨g,i*2,U⟩) (Wn T+1-i) p,J (S ⟨x,0,U⟩) 1 1]).run prog W=.ok (goInt 1) (W1.setRow g t.toArray):=λW hW s p=>by
  subst hW;have h:=eC (P:=prog) W 56 56 s 194 2 g (i*2) (Wn T+1-i) p ⟨x,0,U⟩ 1 1 A.toArray 194 V underlying56 gI G 1 (by simp only[UY];split <;> omega) (by omega)
   (λj v M=>by
     rw[UE,Ti W x _ _ _ _ aa];rw[y] at M;simpa using M) (by simp;omega) (by rw[y];intro v hv;simp at hv;rcases hv with rfl|rfl <;> rfl)
  rw[h,F]
  rfl
 have R:∀W,W=W1.setRow g t.toArray->W.ownsRow B 194 2 (J (S ⟨g,0,U⟩) (Wn T+1) cap) (Wn T+1) (cV (T.take i++(a,b)::T.drop i))/\w.grownBy W (Value.ownBlock (J (S ⟨g,0,U⟩) (Wn T) cap)):=λW hW=>by
  rw[hW];refine⟨⟨by rw[eJ];simp;omega,.inr ⟨g,cap,t.toArray,O,hB,Uq W1 g _ _ _ _ G,q,ab,by simpa using K,by simpa using L⟩⟩,?_⟩;refine⟨by rw[u];rfl,by rw[u];rfl,by rw[u];rfl,by rw[u];simp[World.setRow],λk hk ao=>?_⟩;have X:k≠g:=λe=>ao (by rw[e];rfl)
  rw[Uk W1 g k _ X,u,Uk w.drew g k _ X];rfl
 have aj:=cU R;unfold maxLen at ab;have au:IntKind.i64.wrap ((i:Int)+1)=(i:Int)+1:=by rw[TJ];omega
 have av:(0:Int)<=(i:Int)+1:=by omega
 have aw:i<=Wn T:=by omega
 have aq:(i:Int)<=(Wn T:Int):=by omega
 have ax:((i:Int)+1).toNat=i+1:=by omega
 have ay:(i:Int)<=(Wn T:Int)+1:=by omega
 have az:¬((i:Int)=(Wn T:Int)):=by omega
 have aA:¬((cap:Int)<(Wn T:Int)+1):=by omega
 have aB:¬(cap=i+1):=by omega
 have aC:¬(cap=i):=by omega
 clear R L z ah hD y af an ag C F I K hg hx ae r G aa u;go_enter func215,ntmps215;go_wp2_with (simp only[ak])
 go_region_law (refine step_copy_runI O (.tmp 73) (.tmp 76) 56 56 O _ _ (by simp[Act.eval,Act.put];rfl) (by simp[Act.eval,Act.put];rfl) (Q _ _ _) ?_)
 go_wp2_with (first|(at_builtin;go_must (refine wpList_copy_runI _ rfl (.tmp 80) (.tmp 81) 56 56 rfl _ _ rfl rfl (ai _ rfl _ _) ?_))|go_in);go_wp2;go_ret;obtain⟨q1,q2⟩:=(cT aj) _ rfl;exact⟨_,rfl,q1,q2,by first|exact Wh rfl|exact Wi rfl⟩
theorem kS(B x g cap i:Nat)(F:Array V6)(T:Sd.Tb)(a:V8)(b:Nat)(w:V5)(hi:i<Wn T)(hB:B<=N (E w))(af:cap=Wn T)(hl:Wn T<=1000000000)(hg:w.heap[g]?=S (D F 194 (0,0)))(I:F.toList.take (Wn T*2)=cV T)(av:Wn T*2<=F.size)(hx:w.heap[x]?=S (D #[H a,eH b] 194 (0,0))):V7 prog 215 #[J (S ⟨g,0,U⟩) (Wn T) cap,Z Y i,J (S ⟨x,0,U⟩) 1 1] w (ib w B (J (S ⟨g,0,U⟩) (Wn T) cap) T i a b):=by
 subst af;obtain⟨i0,aw,ax,ay,ag⟩:=TN info_entry;obtain⟨l,hD⟩:∃l,l=(cV T).drop (i*2):=⟨_,rfl⟩
 obtain⟨V,K⟩:∃V:List V6,V=[H a,eH b]:=⟨_,rfl⟩
 have ah:Wn l=(Wn T-i)*2:=by rw[hD,Us,eJ];omega
 have az:Wn V=2:=by rw[K];rfl
 have y:∀j v,(cV T)[j]?=S v->w.cell? ⟨g,j,U⟩=S v:=λj v z=>by
  have aA:j<(cV T).length:=(Vb.1 z).1;rw[eJ] at aA;rw[Ti w g _ _ _ _ hg];rw[<-I,U8,Tg (by omega)] at z;simpa using z
 have ab:i+(Wn T+1-i)=Wn T+1:=by omega
 have hold:(Builtin.firstCells i0.size i (J (S ⟨g,0,U⟩) i (Wn T))).run prog w.drew=.ok ((cV T).take (i*2)).toArray w.drew:=by
  rw[ay];exact run_firstCells_some w.drew 2 i ⟨g,0,U⟩ i (Wn T) ((cV T).take (i*2)) (by rw[Uz,eJ];omega) (λj v z=>by
   rw[UE];rw[U8] at z;split at z
   .simpa using y j v z
   .cases z)
 obtain⟨G,hG⟩:∃G,G=grownCap w (Wn T+1) (Wn T) 194:=⟨_,rfl⟩
 have aB:Wn T+1<=G:=by rw[hG];exact grownCap_ge w _ _ _
 have ai:G<=maxLen:=by rw[hG];exact grownCap_le_maxLen w _ _ _ (by unfold maxLen;omega)
 obtain⟨m,A⟩:∃m:Array V6,m=((cV T).take (i*2)).toArray++Builtin.zeroCells (Value.agg #[H ⟨#[]⟩,V9 U]).cells (Wn T+1-i)++Builtin.zeroCells (Value.agg #[H ⟨#[]⟩,V9 U]).cells (G-(Wn T+1)):=⟨_,rfl⟩
 have aj:∀L,(Builtin.append_ #[56,3] L #[J (S ⟨g,0,U⟩) i (Wn T),Z Y ((Wn T:Int)+1-(i:Int))]).run prog w =
   .ok (J (S ⟨N (E w),0,U⟩) (Wn T+1) G) (w.drew.alloc (D m 194)):=λL=>by
  have h:=Lib.run_append_grow_zeros w 56 3 L 194 i0 _ Y Y underlying56 underlying3 aw ax (S ⟨g,0,U⟩) i (Wn T) ((cV T).take (i*2)) hold (Wn T+1-i) (by omega) (by omega) (by omega) (by omega) (by rw[ag];omega) (by rw[ag,ab];exact growslice_fits (by omega) (by omega));rw[ab] at h;rw[show (Wn T:Int)+1-(i:Int)=((Wn T+1-i:Nat):Int) by omega,A,hG];exact h
 have ad:Wn m.toList=G*2:=by
  rw[A];simp[Builtin.zeroCells,Value.cells,eJ];omega
 have ak:m.toList.take (i*2)=(cV T).take (i*2):=by
  rw[A];simp only[Vu,T4];rw[UA (by simp[eJ];omega)];exact(UN ..).trans (by rw[Nat.min_self])
 obtain⟨q,R⟩:∃q,q=kj m.toList (i*2) V:=⟨_,rfl⟩
 obtain⟨c2,X⟩:∃c2,c2=kj q (i*2+Wn V) l:=⟨_,rfl⟩
 have t:Wn q=G*2:=by rw[R,fZ _ _ _ (by omega)];exact ad
 have s:Wn c2=G*2:=by rw[X,fZ _ _ _ (by omega)];exact t
 have p:c2.take ((Wn T+1)*2)=cV (T.take i++(a,b)::T.drop i):=by
  have e:=rL m.toList (i*2) V l (by omega);rw[<-R,<-X] at e;have e2:i*2+Wn V+Wn l=(Wn T+1)*2:=by omega
  rw[e2] at e;rw[e,<-oO,<-K,<-hD,ak]
 have aC:g<N (E w):=Ud hg;have aD:x<N (E w):=Ud hx;obtain⟨M,r⟩:∃M,M=w.drew.alloc (D m 194):=⟨_,rfl⟩
 have ae:M.heap[N (E w)]?=S (D m 194 (0,0)):=by rw[r];exact Tk w.drew _
 have an:M.heap[x]?=S (D #[H a,eH b] 194 (0,0)):=by rw[r,TD w.drew _ x aD];exact hx
 have ao:M.heap[g]?=S (D F 194 (0,0)):=by rw[r,TD w.drew _ g aC];exact hg
 rw[<-r] at aj;have o:∀W,W=M->∀L dc,(Builtin.copy_ #[56,56] L #[J (S ⟨N (E w),i*2,U⟩) (Wn T+1-i) dc,J (S ⟨x,0,U⟩) 1 1]).run prog W=.ok (goInt 1) (M.setRow (N (E w)) q.toArray):=λW hW L dc=>by
  subst hW;have h:=eC (P:=prog) W 56 56 L 194 2 (N (E w)) (i*2) (Wn T+1-i) dc ⟨x,0,U⟩ 1 1 m 194 V underlying56 gI ae 1 (by simp only[UY];split <;> omega) (by omega)
   (λj v z=>by
     rw[UE,Ti W x _ _ _ _ an];rw[K] at z;simpa using z) (by rw[<-Uv,ad];omega) (by rw[K];intro v hv;simp at hv;rcases hv with rfl|rfl <;> rfl)
  rw[h,R]
  rfl
 obtain⟨C,u⟩:∃C,C=M.setRow (N (E w)) q.toArray:=⟨_,rfl⟩
 have Q:C.heap[N (E w)]?=S (D q.toArray 194 (0,0)):=by rw[u];exact Uq M _ _ _ _ _ ae
 have aq:C.heap[g]?=S (D F 194 (0,0)):=by rw[u,Uk M _ g _ (by omega)];exact ao
 rw[<-u] at o;have ar:∀W,W=C.drew->∀L dc sc,(Builtin.copy_ #[56,56] L #[J (S ⟨N (E w),(i+1)*2,U⟩) (Wn T+1-(i+1)) dc,J (S ⟨g,i*2,U⟩) (Wn T-i) sc]).run prog W=.ok (goInt ((Wn T-i:Nat):Int)) (C.drew.setRow (N (E w)) c2.toArray):=λW hW L dc sc=>by
  subst hW;have h:=eC (P:=prog) C.drew 56 56 L 194 2 (N (E w)) ((i+1)*2) (Wn T+1-(i+1)) dc ⟨g,i*2,U⟩ (Wn T-i) sc q.toArray 194 l underlying56 gI Q (Wn T-i) (by simp only[UY];split <;> omega) ah
   (λj v z=>by
     rw[UE];refine(Ti C.drew g _ _ _ _ aq).trans ?_;rw[<-Ti w g _ _ _ _ hg];exact y _ v (by rw[hD,UX] at z;exact z)) (by simp;omega) (λv hv=>mA T v (by rw[hD] at hv;exact UR hv))
  rw[h,X];unfold kj;rw[show i*2+Wn V=(i+1)*2 by omega]
 have aa:∀W,W=C.drew.setRow (N (E w)) c2.toArray->W.ownsRow B 194 2 (J (S ⟨N (E w),0,U⟩) (Wn T+1) G) (Wn T+1) (cV (T.take i++(a,b)::T.drop i))/\w.grownBy W (Value.ownBlock (J (S ⟨g,0,U⟩) (Wn T) (Wn T))):=λW hW=>by
  rw[hW];refine⟨⟨by rw[eJ];simp;omega,.inr ⟨N (E w),G,c2.toArray,O,hB,Uq C.drew _ _ _ _ _ Q,aB,ai,by simpa using s,by simpa using p⟩⟩,?_⟩;refine⟨by rw[u,r];rfl,by rw[u,r];rfl,by rw[u,r];rfl,by rw[u,r];simp[World.setRow],λk hk aG=>?_⟩;rw[Uk C.drew _ k _ (by omega)]
  show C.heap[k]?=_
  rw[u,Uk M _ k _ (by omega),r,TD w.drew _ k hk];rfl
 have au:=cU aa;unfold maxLen at ai;have aH:IntKind.i64.wrap ((i:Int)+1)=(i:Int)+1:=by rw[TJ];omega
 have aI:(0:Int)<=(i:Int)+1:=by omega
 have aJ:i<=Wn T:=by omega
 have aE:(i:Int)<=(Wn T:Int):=by omega
 have aK:((i:Int)+1).toNat=i+1:=by omega
 have aL:(i:Int)<=(Wn T:Int)+1:=by omega
 have aM:¬((i:Int)=(Wn T:Int)):=by omega
 have aN:¬(G=i):=by omega
 have aF:¬(G=i+1):=by omega
 have aO:¬(Wn T=i):=by omega
 clear aa p y hD K ah az R X t s hg hx av I ao an r u ae Q aq ad ak A hG hold ab;go_enter func215,ntmps215;go_wp2_with (first
  | (at_builtin;refine Lib.wpList_append_run _ O (.tmp 34) (.tmp 39) _ _ O _ _ O O _ _ (aj _) ?_)
  | (at_builtin;refine wpList_copy_runI _ O (.tmp 43) (.tmp 44) 56 56 O _ _ O O (o _ O _ _) ?_))
 go_region_law (refine step_copy_runI O (.tmp 50) (.tmp 53) 56 56 O _ _ (by simp[Act.eval,Act.put];rfl) (by simp[Act.eval,Act.put];rfl) (ar _ O _ _ _) ?_)
 go_wp2;go_ret;obtain⟨q1,q2⟩:=(cT au) _ rfl;exact⟨_,rfl,q1,q2,by first|exact Wh rfl|exact Wi rfl⟩
theorem mz(B x:Nat)(v:V6)(T:Sd.Tb)(i:Nat)(a:V8)(b:Nat)(w:V5)(hi:i<=Wn T)(G:B<=N (E w))(h:w.ownsRow B 194 2 v (Wn T) (cV T))(u:Wn T<=1000000000)(y:v.ownBlock≠S x)(z:w.heap[x]?=S (D #[H a,eH b] 194 (0,0))):V7 prog 215 #[v,Z Y i,J (S ⟨x,0,U⟩) 1 1] w (ib w B v T i a b):=by
 by_cases K:i=Wn T
 .subst K;exact mn B x v T a b w G h u z
 .rcases h.2 with ⟨I,P⟩|⟨g,l,m,I,A,r,L,C,F,j⟩
  .omega
  .subst I;by_cases M:Wn T+1<=l
   .exact lq B x g l i m T a b w (by omega) A M C u (λe=>y (by rw[e];rfl)) r F j z
   .exact kS B x g l i m T a b w (by omega) G (by omega) u r j (by omega) z
end Dk
namespace Dk
structure eW (w:V5) (D o:Nat) (C:Array V6) (tD:TypeId) (v:V6) (T:Sd.Tb):Prop where
 blk:w.heap[D]?=S (.cells C tD (0,0))
 at_:C[o]?=S v
 row:w.ownsRow 0 194 2 v (Wn T) (cV T)
 me:Sd.dj T
 len:Wn T<=1000000000
theorem eW.cell{w:V5}{b o:Nat}{C:Array V6}{e:TypeId}{v:V6}{T:Sd.Tb}(h:eW w b o C e v T):w.cell? ⟨b,o,U⟩=S v:=by
 rw[Ti w b o _ _ _ h.blk];exact h.at_
theorem eW.below{w w':V5}{b o:Nat}{C:Array V6}{e:TypeId}{v:V6}{T:Sd.Tb}(h:eW w b o C e v T)(hb:V4 w w'):eW w' b o C e v T:=⟨(hb.block b (Ud h.blk)).trans h.blk,h.at_,de h.row hb,h.me,h.len⟩
theorem fY(b o:Nat)(C:Array V6)(m:TypeId)(v:V6)(T:Sd.Tb)(y:V8)(w:V5)(h:eW w b o C m v T):V7 prog 146 #[V9 (S ⟨b,o,U⟩),H y] w λe l=>e=Wd (Wb #[Z Y (Sd.dv T y:Nat),Wa (Sd.dD T y)])/\V4 w l:=by
 obtain⟨p,j,rfl,r⟩:=dS h.row;have B:=h.cell;have u:=h.me;have z:=h.len;clear h;go_enter func146,ntmps146;go_wp2_with fail;refine(my p j T y w r u z).mono ?_;rintro e l ⟨rfl,A⟩;go_wp2;exact Tj (v := Wb #[Z Y (Sd.dv T y:Nat),Wa (Sd.dD T y)]) (by simp[results,results146,go_sem]) O ⟨O,A⟩
def eZ:Option Nat->V6
 |some f=>eH f
 |none=>V9 U
theorem yv(b o:Nat)(C:Array V6)(m:TypeId)(v:V6)(T:Sd.Tb)(y:V8)(w:V5)(h:eW w b o C m v T):V7 prog 144 #[V9 (S ⟨b,o,U⟩),H y] w λe K=>e=Wd (Wb #[eZ (Sd.jy T y),Wa (Sd.dD T y)])/\V4 w K:=by
 have j:=cU h;cases hh:Sd.dD T y with
 |false =>
  rw[Sd.ma hh];have r:=cU hh;clear hh h;go_enter func144,ntmps144;go_wp2_with fail;refine(fY b o C m v T y w (cT j)).mono ?_;rintro e L ⟨rfl,l⟩;rw[cT r];go_wp2;go_ret2;exact⟨O,l⟩
 |true =>
  obtain⟨B,M,F⟩:=Sd.gu h.me hh;rw[F];have u:=Sd.lW T y;have V:=h.len;have r:=cU hh;clear hh h M F;go_enter func144,ntmps144;go_wp2_with fail;refine(fY b o C m v T y w (cT j)).mono ?_;rintro e L ⟨rfl,l⟩;rw[cT r];have W:=((cT j).below l).cell;obtain⟨p,P,rfl,G⟩:=dS ((cT j).below l).row;obtain⟨g,Q,R,z⟩:=G (Sd.dv T y) B;subst Q;obtain⟨f,A⟩:∃f,(T[Sd.dv T y]).2=f:=⟨_,rfl⟩
  rw[A] at z;have I:=cU A;generalize Sd.dv T y=i at B u R z I;clear G A;unfold eH at z;go_wp2;go_ret2;exact⟨by rw[cT I];rfl,l⟩
end Dk
namespace Dk
structure dO (w w':V5) (D o:Nat) (C:Array V6) (tD:TypeId) (v v':V6) (T':Sd.Tb):Prop where
 blk:w'.heap[D]?=S (.cells (C.setIfInBounds o v') tD (0,0))
 row:w'.ownsRow 0 194 2 v' (Wn T') (cV T')
 kept:Kept w w' (λk=>k≠D/\v.ownBlock≠S k)
 new:v'.ownBlock=v.ownBlock\/∃g,v'.ownBlock=S g/\(N (E w))<=g
theorem nL(b o:Nat)(C:Array V6)(A:TypeId)(v:V6)(T:Sd.Tb)(y:V8)(f:Nat)(w:V5)(h:eW w b o C A v T)(G:v.ownBlock≠S b):V7 prog 148 #[V9 (S ⟨b,o,U⟩),H y,eH f] w λe w'=>e=Wd (Wa (!Sd.dD T y))/\∃v',dO w w' b o C A v v' (if Sd.dD T y=We then T else Sd.gJ T y f):=by
 have W:o<C.size:=(Ts.1 h.at_).1;cases hh:Sd.dD T y with
 |true =>
  have X:=cU hh;have j:=cU h;clear hh h;go_enter func148,ntmps148;go_wp2_with fail;refine(fY b o C A v T y w (cT j)).mono ?_;rintro e w' ⟨rfl,B⟩;rw[cT X];go_wp2;go_ret;have u:=(cT j).below B;refine⟨O,v,?_,?_,Kept.below B _,Wh O⟩
  .rw[u.blk];have:C.setIfInBounds o v=C:=by
    have hv:=(Ts.1 u.at_).2;rw[<-hv];simp[Array.setIfInBounds,W]
   rw[this]
  .exact u.row
 |false =>
  have X:=cU hh;have j:=cU h;have hl:=h.len;clear hh h;go_enter func148,ntmps148;go_wp2_with fail;refine(fY b o C A v T y w (cT j)).mono ?_;rintro e I ⟨rfl,B⟩;rw[cT X];have u:=(cT j).below B;have hu:=u.blk;have q:=u.row;have hc:=u.cell;have t:b<N (E I):=Ud hu;have K:(I.alloc (D #[H y,eH f] 194)).heap[b]?=S (D C A (0,0)):=by rw[TD _ _ _ t];exact hu
  have s:=cU K;have HO:=cU q;obtain⟨p,m,rfl,_⟩:=dm q;have L:=Sd.lW T y;clear hu q K u;unfold eH;go_wp2_with fail;refine(mz 0 (N (E I)) (J p (Wn T) m) T (Sd.dv T y) y f _ L (by simp) ((cT HO).alloc _) hl (λz=>by have:=((cT HO).lt _ z).2;omega) (Tk I _)).mono ?_;rintro e F ⟨v',rfl,M,P,Q⟩;have r:F.heap[b]?=S (D C A (0,0)):=by
   rw[P.block b (by simp;omega) (λz=>G z.symm)];exact cT s
  have ad:F.cell? ⟨b,o,U⟩=S (J p (Wn T) m):=by rw[Ti F b o _ _ _ r];exact(cT j).at_
  have ae:F.frozen? ⟨b,o,U⟩=Wg:=by simp[World.frozen?,r]
  obtain⟨p',l,rfl,_⟩:=dm M;have aa:=cU r;have R:=cU Q;clear r hc Q;go_wp2;go_ret;have ab:Kept w F (λk=>k≠b/\(Value.slice p (Wn T) m).ownBlock≠S k):=(Kept.below B _).trans (((Kept.refl I _).alloc _).trans (Kept.grown P (λk hk=>hk.2)));have V:(Value.slice p' (Wn T+1) l).ownBlock=(Value.slice p (Wn T) m).ownBlock\/∃g,(Value.slice p' (Wn T+1) l).ownBlock=S g/\(N (E w))<=g:=by
   rcases cT R with e|e
   .exact Wh e
   .exact Wi ⟨_,e,by have:=B.size;simp;omega⟩
  refine⟨O,J p' (Wn T+1) l,?_,?_,ab.setCell (λhk=>hk.1 O) _,V⟩
  .rw[Tq F b o _ _ _ (cT aa)]
  .rw[Sd.iN];refine Ui M (λz=>?_) _;rcases cT R with e|e
   .rw[e] at z;exact G z
   .rw[e] at z;simp at z;omega
theorem Nf{w:V5}{B e size n g j cap:Nat}{p:Option Addr}{l:List V6}(u:V6)(h:w.ownsRow B e size (J (S ⟨g,0,U⟩) n cap) n l)(Q:j<Wn l):(w.setCell ⟨g,j,U⟩ u).ownsRow B e size (J (S ⟨g,0,U⟩) n cap) n (l.set j u):=by
 obtain⟨z,m⟩:=h;refine⟨by rw[U0];exact z,?_⟩;rcases m with ⟨m,_⟩|⟨R,y,A,C,F,G,I,K,L,M⟩
 .cases m
 .injection C with b P r;injection b with b;injection b with b;subst b r;refine .inr ⟨g,cap,_,O,F,Tq w g j _ _ u G,I,K,by rw[Array.size_setIfInBounds];exact L,?_⟩;rw[Array.toList_setIfInBounds,List.take_set,M]
theorem PG(T:Sd.Tb):∀(i:Nat) (hi:i<Wn T) (y:V8) (f:Nat),(T[i]).1=y->(cV T).set (i*2+1) (eH f)=cV (T.set i (y,f)):=by
 induction T with
 |nil=>intro i hi;simp at hi
 |cons p t j =>
  intro i hi y f b;have e:cV (p::t)=H p.1::eH p.2::cV t:=by simp[cV]
  rw[e];cases i with
  |zero =>
   have b:p.1=y:=b;subst b;simp[cV]
  |succ i =>
   have l:=j i (by simpa using hi) y f (by simpa using b);rw[show (i+1)*2+1=i*2+1+1+1 by omega,List.set_cons_succ,List.set_cons_succ,l];simp[cV]
theorem FL(b o:Nat)(C:Array V6)(I:TypeId)(v:V6)(T:Sd.Tb)(y:V8)(f:Nat)(w:V5)(h:eW w b o C I v T)(K:v.ownBlock≠S b):V7 prog 98 #[V9 (S ⟨b,o,U⟩),H y,eH f] w λe w'=>e=Wd (Wb #[])/\∃z,dO w w' b o C I v z (Sd.jZ T y f):=by
 have aa:o<C.size:=(Ts.1 h.at_).1;have j:=nL b o C I v T y f w h K;unfold eH at j ⊢;cases hh:Sd.dD T y with
 |false =>
  have L:Sd.jZ T y f=Sd.gJ T y f:=by unfold Sd.jZ;rw[hh];rfl
  rw[L];rw[hh] at j;clear hh h L;go_enter func98,ntmps98;go_wp2_with fail;refine j.mono ?_;rintro e w1 ⟨rfl,z,r⟩;clear j;go_wp2;exact Tj (v := Wb #[]) (Tl O _ _ _) O ⟨O,z,r⟩
 |true =>
  obtain⟨hj,e1,e2⟩:=Sd.gu h.me hh;have L:Sd.jZ T y f=T.set (Sd.dv T y) (y,f):=by unfold Sd.jZ;rw[hh];rfl
  rw[L];rw[hh] at j;have HH:=cU hh;have A:=cU h;have hl:=h.len;clear hh h L e2;go_enter func98,ntmps98;go_wp2_with fail;refine j.mono ?_;rintro e w1 ⟨rfl,z,r⟩;clear j;have M:eW w1 b o (C.setIfInBounds o z) I z T:=⟨r.blk,by simp[aa],r.row,(cT A).me,hl⟩
  have P:z.ownBlock≠S b:=λQ=>by
   rcases r.new with e|⟨g,e,hg⟩
   .rw[e] at Q;exact K Q
   .rw[e] at Q;have Q:g=b:=TG Q;have:=Ud (cT A).blk;omega
  have HN:=cU r;have R:=cU M;clear r M;go_wp2_with fail;refine(fY b o _ I z T y w1 (cT R)).mono ?_;rintro e w2 ⟨rfl,hb⟩;rw[cT HH];have l:=(cT R).below hb;have hc:=l.cell;have m:=l.row;have B:=l.blk;have V:=cU m;have W:=cU B;obtain⟨p,X,rfl,he⟩:=dS m;obtain⟨g,hp,c0,c1⟩:=he (Sd.dv T y) hj;subst hp;have ab:w2.frozen? ⟨g,Sd.dv T y*2+1,U⟩=Wg:=by
   rcases m.2 with ⟨u,_⟩|⟨g',af,ag,u,_,ad,_⟩
   .cases u
   .injection u with u _ _;injection u with u;injection u with u;subst u;simp[World.frozen?,ad]
  have q:=cU e1;have ae:g≠b:=λe=>P (by rw[e];rfl)
  generalize t:Sd.dv T y=i at hj c0 c1 ab q ⊢;clear he m B l e1;have HI:=cU t;clear t;unfold eH at c1;go_wp2;have F:dO w (w2.setCell ⟨g,i*2+1,U⟩ (V9 (S ⟨f,0,U⟩))) b o C I v (J (S ⟨g,0,U⟩) (Wn T) X) (T.set i (y,f)):=by
   have r:=cT HN;refine⟨?_,?_,?_,r.new⟩
   .rw[Tv w2 _ _ b (λe=>ae e.symm)];exact cT W
   .rw[U0,<-PG T i hj y f (cT q)];exact Nf (p:=none) _ (cT V) (by rw[eJ];omega)
   .refine(r.kept.trans (Kept.below hb _)).Jv (λk hk ho G=>?_) _;rcases r.new with e|⟨g',e,ah⟩
    .exact ho.2 (by rw[<-e,G];rfl)
    .have:g=g':=TG e;have G:k=g:=G;omega
  have s:=cU F;clear F;exact Tm (Tl O _ _ _) O ⟨O,J (S ⟨g,0,U⟩) (Wn T) X,by rw[cT HI];exact cT s⟩
end Dk
namespace Dk
def Gq(T:Sd.Tb)(w:V5)(e:Ending)(w':V5):Prop :=
 ∃b,e=Wd b/\w'.ownsRow 0 194 2 b (Wn T) (cV T)/\V4 w w'/\∀g,b.ownBlock=S g->N (E w)<=g
theorem DJ(v:V6)(T:Sd.Tb)(w:V5)(h:w.ownsRow 0 194 2 v (Wn T) (cV T))(hl:Wn T<=1000000000):V7 prog 149 #[v] w (Gq T w):=by
 rcases h.2 with ⟨rfl,hn⟩|⟨g,y,p,rfl,_,K,L,M,z,A⟩
 .have j:=Lib.run_eql_slice_nil (P:=prog) w 56 194 U 0 0 0 0 underlying56;simp only[Option.isNone_none] at j;go_enter func149,ntmps149;go_wp2;go_ret;exact⟨_,O,h,Th _ _,λg K=>by simp[Value.ownBlock] at K⟩
 .have j:=Lib.run_eql_slice_nil (P:=prog) w 56 194 (S ⟨g,0,U⟩) (Wn T) y 0 0 underlying56;simp only[Option.isNone_some] at j;by_cases X:T=[]
  .subst X;simp only[UB] at j;clear h K z A;go_enter func149,ntmps149;go_wp2;go_ret;refine⟨_,O,⟨O,.inr ⟨N (E w),0,#[],O,Tp _,Tk w _,Te _,by unfold maxLen;omega,O,O⟩⟩,(Th _ w).alloc V2 _,λq u=>?_⟩;simp[Value.ownBlock] at u;omega
  .obtain⟨o,hi,Q,R,V⟩:=TN info_entry;have B:0<Wn T:=by
    rcases T with _|⟨a,b⟩
    .exact absurd O X
    .simp
   have l:=World.ownsRow_lit (base:=N (E w)) (e:=194) (size:=2) w #[] 0 V2 (by unfold maxLen;omega) (by rfl);have m:=(h.alloc (D #[] 194)).cells (g:=g) O;have C:=cU m;have F:=cU l;clear m l K L M z A h;go_enter func149,ntmps149;go_wp2_with (first
    | (at_builtin;go_must (refine eV _ O (.tmp 5) (.tmp 6) 56 O (N (E w)) 194 o _ 2 24 underlying56 hi Q R V O (by decide) _ 0 [] O (cT F) ⟨g,0,U⟩ (Wn T) y B (cV T) O (eJ T) (cT C) (mA T) (by unfold maxLen;omega) (by omega) (by simp) ?_))
    |go_in)
   intro t w3 s G W _;have r:w3.ownsRow (N (E w)) 194 2 t (Wn T) (cV T):=by simpa using s
   have I:V4 w w3:=((Th _ w).alloc V2 _).grown G (by simp) (λk hk=>by simp[Value.ownBlock] at hk;omega);clear s G W;go_wp2;go_ret;exact⟨t,O,qQ r,I,λq u=>(r.lt q u).1⟩
def DK(T:Sd.Tb)(w:V5)(e:Ending)(w':V5):Prop :=
 ∃b,e=Wd (.agg #[b])/\w'.ownsRow 0 194 2 b (Wn T) (cV T)/\V4 w w'/\∀g,b.ownBlock=S g->N (E w)<=g
theorem Db(b o:Nat)(C:Array V6)(I:TypeId)(v:V6)(T:Sd.Tb)(w:V5)(h:eW w b o C I v T):V7 prog 99 #[V9 (S ⟨b,o,U⟩)] w (DK T w):=by
 have Q:=h.cell;have R:b<N (E w):=Ud h.blk;have G:=λo=>DJ v T (w.alloc o) (h.row.alloc o) h.len
 obtain⟨p,K,rfl,_⟩:=dm h.row;clear h;go_enter func99,ntmps99;go_wp2_with fail;refine(G _).mono ?_;rintro e u ⟨V,rfl,y,z,A⟩;have j:=cU (And.intro y (And.intro z A));have m:u.heap[N (E w)]?=S (D #[J U 0 0] 58 (0,0)):=(z.block (N (E w)) (by simp)).trans (Tk w _);have B:u.cell? ⟨N (E w),0,U⟩=S (J U 0 0):=by rw[Ti u _ 0 _ _ _ m];rfl
 have L:u.frozen? ⟨N (E w),0,U⟩=Wg:=by simp[World.frozen?,m]
 obtain⟨F,l,rfl,_⟩:=dm y;clear y z A G m;go_wp2;have r:(u.setCell ⟨N (E w),0,U⟩ (J F (Wn T) l)).cell? ⟨N (E w),0,U⟩=S (J F (Wn T) l):=T0 _ _ _ B;obtain⟨y,z,A⟩:=cT j;refine Tj (v := .agg #[J F (Wn T) l]) (by simp[results,results99,go_sem,r]) O ⟨_,O,?_,?_,λg M=>?_⟩
 .refine Ui y (λP=>?_) _;have:=A _ P;simp at this;omega
 .exact(((Th _ w).alloc V2 _).trans (z.mono (by simp))).setCell V2 _
 .have:=A g M;simp at this;omega
end Dk
namespace Dk
open Go.RowKit Go.Shelf
attribute [local go_sem] Oper.semAt_some
structure fV (N:Nat) (ok:Nat->Prop) (w w':V5):Prop where
 os:w'.os=w.os
 tape:w'.tape=w.tape
 output:w'.output=w.output
 size:w.heap.size<=w'.heap.size
 block:∀k,k<N->ok k->w'.heap[k]?=w.heap[k]?
theorem fV.refl(N:Nat)(ok:Nat->Prop)(w:V5):fV N ok w w:=⟨O,O,O,Te _,λ_ _ _=>O⟩
variable {ok:Nat->Prop}
theorem fV.trans{N:Nat}{a b c:V5}(h:fV N ok a b)(k:fV N ok b c): fV N ok a c:=⟨k.os.trans h.os,k.tape.trans h.tape,k.output.trans h.output,To h.size k.size,λi hi e=>(k.block i hi e).trans (h.block i hi e)⟩
theorem fV.alloc{N:Nat}{a w:V5}(h:fV N ok a w)(j:N<=w.heap.size)(o:Obj): fV N ok a (w.alloc o):=⟨h.os,h.tape,h.output,by have:=h.size;simp;omega,λk b e=>(TD w o k (by omega)).trans (h.block k b e)⟩
theorem fV.cell{N:Nat}{w w':V5}(h:fV N ok w w'){p:Addr}(b:p.block<N)(e:ok p.block): w'.cell? p=w.cell? p:=UI (w:=w) (h.block p.block b e)
theorem fV.putObj{N:Nat}(W:V5)(l:Nat)(o e:Obj)(j:N<=l)(h:W.heap[l]?=S o): fV N ok W (W.putObj l e):=by
 have b:=Vy W l e;exact⟨b.os,b.tape,b.output,b.size,λk m _=>b.block k (by have:=(Ts.1 h).1;omega) (by simp;omega)⟩
theorem qC(F:Fence)(n:Nat)(j:F.fn 55)(b:F.round=U)(p0:Option Addr)(w:V5):CallsIn F n prog 55 #[V9 p0] w λe l=>e=Wd (.func (.func 96) #[] #[V9 (S ⟨N (E w),0,U⟩)])/\l=w.alloc (D #[V9 p0] 131):=by
 refine callsIn_of_wp func55 O j ?_ b;simp only[ntmps55,US,Tr,UB,Nat.reduceAdd,Nat.reduceSub,U1,U2,U4,U5,Ul,TZ]
 gi_wp2
 go_ret;exact⟨O,O⟩
theorem rV(F:Fence)(n:Nat)(h8:F.fn 96)(M:F.round=U)(hn:1<=n)(l X b o N:Nat)(ok:Nat->Prop)(p:Option Addr)(cap:Nat)(T:Sd.Tb)(hl:Wn T<=1000000000)(m q:List { x:V8 × Nat // x∈T }->V5->Prop)(hY:∀u x W,m u W->Wn u<Wn T->YieldAt F (n-1) prog l #[H x.1.1,eH x.1.2] W λe B => (e=Wd (Wa We)/\m (u++[x]) B/\fV N ok W B)\/(e=Wd (Wa Wg)/\q (u++[x]) B))(W:V5)(hN:N<=W.heap.size)(P:AbidesFrom W.heap.size m)(ab:W.cell? ⟨X,0,U⟩=S (V9 (S ⟨b,o,U⟩)))(ht:W.cell? ⟨b,o,U⟩=S (J p (Wn T) cap))(hc:∀j (hj:j<Wn T),∃g,p=S ⟨g,0,U⟩/\g<N/\ok g/\W.cell? ⟨g,j*2,U⟩=S (H T[j].1)/\W.cell? ⟨g,j*2+1,U⟩=S (eH T[j].2))(h0:m [] W):CallsIn F n prog 96 #[.func (.yield l) #[] #[],V9 (S ⟨X,0,U⟩)] W λe B=>(∃v,e=Wd v)/\
   ((∃t,t=T.attach/\m t B)\/(∃u,u <+: T.attach/\q u B)):=by
 refine callsIn_of_wp func96 O h8 ?_ M;simp only[ntmps96,US,Tr,UB,Nat.reduceAdd,Nat.reduceSub,U1,U2,U4,U5,Ul,TZ]
 gi_wp2
 gi_loopw [10] (λi wr=>∃k:Nat,k<=Wn T/\i=Z Y k/\Hid (m (T.attach.take k) wr)/\fV N ok W wr)
  (λi _=>Wn T-(intOf i).toNat)
 case atStart=>exact⟨0,Tp _,rfl,h0,fV.refl _ _ _⟩
 case round =>
  obtain⟨k,hk,rfl,s,y⟩:=hrel;by_cases Q:k<Wn T
  .obtain⟨g,rfl,hg,C,c0,c1⟩:=hc k Q;have d0:=(y.cell (p:=⟨g,k*2,U⟩) hg C).trans c0;have d1:=(y.cell (p:=⟨g,k*2+1,U⟩) hg C).trans c1;have G:(k:Int)<(Wn T:Int):=by omega
   have ad:Wn T.attach=Wn T:=List.length_attach;obtain⟨x,R⟩:∃x,T.attach[k]'(by omega)=x:=⟨_,rfl⟩
   have I:T[k]=x.1:=by rw[<-R];simp
   rw[I] at d0 d1;have HX:=cU R;clear R c0 c1 I;have K:m (T.attach.take k) (wr.alloc (D #[H x.1.1,eH x.1.2] 194)):=P _ _ _ U (cT s) (World.grownBy_alloc _ _ U) (λr e=>by cases e);obtain⟨fn,aa,assign,body,hy,hR⟩:=hY _ x _ K (by rw[Uz];omega);clear K;unfold eH at d1 hy hR
   gi_wp2
   refine hR.mono ?_;rintro e W3 (⟨rfl,L,V⟩|⟨rfl,z⟩)
   .have A:=cU L;clear L
    gi_wp2
    go_roundw
    case rel=>exact⟨k+1,by omega,by go_num,by show m _ _;rw[Uw (by omega),cT HX];exact cT A,y.trans (((fV.refl N ok _).alloc (To hN y.size) _).trans V)⟩
    case measure=>simp[intOf];omega
   .have A:=cU z;clear z
    gi_wp2
    refine Tj (Tl O _ _ _) O ?_;exact⟨⟨_,O⟩,.inr ⟨_,⟨T.attach.drop (k+1),by rw[<-cT HX,<-Uw (by omega),Un]⟩,cT A⟩⟩
  .have G:¬(k:Int)<(Wn T:Int):=by omega
   obtain rfl:k=Wn T:=by omega
   gi_wp2
   go_end0
   exact⟨⟨_,O⟩,.inl (by have h:=cT s;rw[Ur (by rw[List.length_attach];omega)] at h;first|exact h|exact⟨_,rfl,h⟩)⟩
theorem kK(F:Fence)(n:Nat)(M:F.fn 96)(z:F.round=U)(P:1<=n)(r b o N:Nat)(ok:Nat->Prop)(p:Option Addr)(cap:Nat)(T:Sd.Tb)(Q:Wn T<=1000000000)(w:V5)(u:r<w.heap.size)(A:N<=w.heap.size)(B:b<w.heap.size)(C:w.cell? ⟨r,0,U⟩=S (V9 (S ⟨b,o,U⟩)))(ht:w.cell? ⟨b,o,U⟩=S (J p (Wn T) cap))(R:∀j (L:j<Wn T),∃g,p=S ⟨g,0,U⟩/\g<N/\ok g/\w.cell? ⟨g,j*2,U⟩=S (H T[j].1)/\w.cell? ⟨g,j*2+1,U⟩=S (eH T[j].2)):SeqStopsK F n prog 96 #[V9 (S ⟨r,0,U⟩)] (λx:{ x:V8 × Nat // x∈T }=>#[Value.string x.1.1,eH x.1.2]) (fV N ok) (λV=>V=T.attach) (λG=>G <+: T.attach) (Wn T) w:=λl m X W y k _ q i =>
 rV F n M z P l r b o N ok p cap T Q m X q W (To A y.size) k ((y.cell (p:=⟨r,0,U⟩) u).trans C) ((y.cell (p:=⟨b,o,U⟩) B).trans ht)
  (λj L=>by obtain⟨g,e,I,K,h,f⟩:=R j L;exact⟨g,e,I,K,(y.cell (p:=⟨g,j*2,U⟩) (TI I A)).trans h,(y.cell (p:=⟨g,j*2+1,U⟩) (TI I A)).trans f⟩) i
end Dk
namespace Dk
theorem qu(w:V5)(g o c:Nat)(b:Array V6)(u:TypeId)(y:w.heap[g]?=S (D b 194 (0,0)))(e:o+2<=b.size):(Builtin.clear_ #[56] u #[J (S ⟨g,o,U⟩) 1 c]).run prog w=.ok (Wb #[]) (w.setRow g (kj b.toList o [H ⟨#[]⟩,V9 U]).toArray):=by
 obtain⟨B,hi,l,z,A⟩:=TN info_entry;have j:=run_storeCells_at prog g o 194 [H ⟨#[]⟩,V9 U] 0 b w y (by simpa using e) (by intro v r;simp at r;rcases r with rfl|rfl <;> rfl);have m:(Builtin.zeroCells (Value.agg #[H ⟨#[]⟩,V9 U]).cells 1).toList=[H ⟨#[]⟩,V9 U]:=by simp[Builtin.zeroCells,Value.cells];rfl
 simp only[Uo] at j;simp[Builtin.clear_,run_underlying underlying56,zeroValue,typeInfo,hi,l,m,j,kj]
theorem iR{P:Program}{b:Array Oper}{o:Oper}{a:Act}{w w':V5}{K:Act->V5->Prop}{Q:Exit->Act->V5->Prop}{E:Prop}{v':V6}(m:o.guard=U)(s x:Operand)(t u:TypeId)(e:o.op=Op.call { callee:=Callee.builtin Builtin.append,args := #[s,x],argTypes := #[t,u] })(j l:V6)(r:a.eval s=j)(y:a.eval x=l)(z:(Builtin.append_ #[t,u] o.type #[j,l]).run P w=.ok v' w')(A:K (a.put o.dst v') w'):if Region.wanted o (yielded b a.tmps)=We then Oper.wp P o a w K Q else E:=by
 have B:Region.wanted o (yielded b a.tmps)=We:=by simp[Region.wanted,m]
 rw[Tg B];unfold Oper.wp;simp[execOp,e,resolve,invoke,builtin,r,y,z,Result.andThen];exact A
theorem vI(T:Sd.Tb)(i:Nat):cV (T.eraseIdx i)=(cV T).take (i*2)++cV (T.drop (i+1)):=by
 rw[List.eraseIdx_eq_take_drop_succ,kC,nY]
theorem qF(g cap i:Nat)(b:Array V6)(T:Sd.Tb)(w:V5)(hi:i<Wn T)(au:Wn T<=cap)(ab:cap<=maxLen)(hl:Wn T<=1000000000)(hg:w.heap[g]?=S (D b 194 (0,0)))(ad:b.size=cap*2)(r:b.toList.take (Wn T*2)=cV T):V7 prog 147 #[J (S ⟨g,0,U⟩) (Wn T) cap,Z Y i,Z Y ((i:Int)+1)] w λe w'=>e=Wd (J (S ⟨g,0,U⟩) (Wn T-1) cap)/\
   w'.ownsRow 0 194 2 (J (S ⟨g,0,U⟩) (Wn T-1) cap) (Wn T-1) (cV (T.eraseIdx i))/\w.grownBy w' (S g):=by
 obtain⟨i0,aj,av,p,aw⟩:=TN info_entry;obtain⟨B,z⟩:∃B,B=cV (T.drop (i+1)):=⟨_,rfl⟩
 have ae:Wn B=(Wn T-(i+1))*2:=by rw[z,eJ,Us]
 have af:Wn b.toList=cap*2:=by simpa using ad
 obtain⟨C,G⟩:∃C,C=kj b.toList (i*2) B:=⟨_,rfl⟩
 have L:Wn C=cap*2:=by rw[G,fZ _ _ _ (by omega)];exact af
 have ag:∀v∈B,v.oneCell'=We:=λv hv=>mA (T.drop (i+1)) v (by rw[<-z];exact hv)
 have A:∀j v,B[j]?=S v->w.cell? ⟨g,(i+1)*2+j,U⟩=S v:=λj v hj=>by
  have ak:j<Wn B:=(Vb.1 hj).1;rw[Ti w g _ _ _ _ hg];rw[z,<-od,<-r,UX,U8,Tg (by omega)] at hj;simpa using hj
 have o:∀l M m,(M=(i+1)*2\/Wn T-(i+1)=0)->(Builtin.append_ #[56,56] l #[J (S ⟨g,0,U⟩) i cap,J (S ⟨g,M,U⟩) (Wn T-(i+1)) m]).run prog w.drew=.ok (J (S ⟨g,0,U⟩) (Wn T-1) cap) (w.drew.setRow g C.toArray):=λl M m ho=>by
  have h:=run_append_room (P:=prog) w.drew 56 l 194 i0 underlying56 aj g i cap b hg ⟨g,M,U⟩ (Wn T-(i+1)) m B (by rw[p];exact ae)
   (λj v hj=>by
     rcases ho with rfl|h0
     .rw[UE];exact A j v hj
     .have ak:j<Wn B:=(Vb.1 hj).1;omega) ag (by omega) (by rw[p];omega)
  rw[h,p,G];have e:i+(Wn T-(i+1))=Wn T-1:=by omega
  rw[e]
  rfl
 have I:(w.drew.setRow g C.toArray).heap[g]?=S (D C.toArray 194 (0,0)):=Uq w.drew g b _ _ _ hg;obtain⟨y,u⟩:∃y,y=w.drew.setRow g C.toArray:=⟨_,rfl⟩
 rw[<-u] at o I;obtain⟨F,K⟩:∃F,F=kj C ((Wn T-1)*2) [H ⟨#[]⟩,V9 U]:=⟨_,rfl⟩
 have Q:Wn F=cap*2:=by rw[K,fZ _ _ _ (by simp;omega)];exact L
 have R:∀(W:V5),W=y->∀l m,(Builtin.clear_ #[56] l #[J (S ⟨g,(Wn T-1)*2,U⟩) 1 m]).run prog W=.ok (Wb #[]) (y.setRow g F.toArray):=λW hW l m=>by
  subst hW;have h:=qu W g ((Wn T-1)*2) m C.toArray l I (by simp;omega);rw[h,K]
 have V:F.take ((Wn T-1)*2)=cV (T.eraseIdx i):=by
  have e1:F.take ((Wn T-1)*2)=C.take ((Wn T-1)*2):=by
   rw[K];unfold kj;rw[T4,UA (by simp;omega),UN,Nat.min_self]
  rw[e1,vI,<-z,G];unfold kj;have e2:b.toList.take (i*2)=(cV T).take (i*2):=by rw[<-r,UN,Vh (by omega)]
  have e3:(Wn T-1)*2=(b.toList.take (i*2)++B).length:=by simp;omega
  rw[e3,List.take_left,e2]
 have X:∀W,W=y.setRow g F.toArray->W.ownsRow 0 194 2 (J (S ⟨g,0,U⟩) (Wn T-1) cap) (Wn T-1) (cV (T.eraseIdx i))/\w.grownBy W (S g):=λW hW=>by
  rw[hW];refine⟨⟨by rw[eJ,List.length_eraseIdx,Tg hi],.inr ⟨g,cap,F.toArray,O,Tp _,Uq y g _ _ _ _ I,by omega,ab,by simpa using Q,by simpa using V⟩⟩,?_⟩;refine⟨by rw[u];rfl,by rw[u];rfl,by rw[u];rfl,by rw[u];simp[World.setRow],λk hk an=>?_⟩;have q:k≠g:=λe=>an (by rw[e])
  rw[Uk y g k _ q,u,Uk w.drew g k _ q];rfl
 have t:=cU X;have ah:=cU o;have s:=cU R;unfold maxLen at ab;have ax:(i:Int)<(Wn T:Int):=by omega
 clear X o R V A z ae G K L Q hg ad r I u ag af;by_cases ao:i+1=cap
 .subst ao;have q3:i+1<=Wn T:=by omega
  have q4:(i:Int)+1<=(Wn T:Int):=by omega
  have q5:((i:Int)+1).toNat=i+1:=by omega
  have q6:(0:Int)<=(i:Int)+1:=by omega
  have q7:(Wn T:Int)<=((i+1:Nat):Int):=by omega
  have q8:¬(i+1=Wn T-1):=by omega
  have q9:(i:Int)<=(i:Int)+1:=by omega
  have ai:∀l M m,(Builtin.append_ #[56,56] l #[J (S ⟨g,0,U⟩) i (i+1),J (S ⟨g,M,U⟩) 0 m]).run prog w.drew=.ok (J (S ⟨g,0,U⟩) (Wn T-1) (i+1)) y:=λl M m=>by
   have h:=(cT ah) l M m (Wi (by omega));rw[show (Wn T)-(i+1)=0 by omega] at h;exact h
  have aq:=cU ai;clear ai;go_enter func147,ntmps147;go_wp2_with fail
  go_region_law (refine iR rfl (.tmp 22) (.tmp 25) 56 56 rfl _ _ (by first|rfl|(simp[Act.eval,Act.put];done)|(simp[Act.eval,Act.put];rfl)) (by first|rfl|(simp[Act.eval,Act.put];done)|(simp[Act.eval,Act.put];rfl)) ((cT aq) _ _ _) ?_)
  all_goals
   have aa:∀l m,(Builtin.clear_ #[56] l #[J (S ⟨g,(Wn T-1)*2,U⟩) (Wn T-(Wn T-1)) m]).run prog y=.ok (Wb #[]) (y.setRow g F.toArray):=λl m=>by
    rw[show (Wn T)-(Wn T-1)=1 by omega];exact(cT s) y O l m
   go_wp2;go_ret;exact⟨O,(cT t) _ O⟩
 .have ar:¬(cap=i+1):=by omega
  have q0:¬(cap=i):=by omega
  have q1:i<=cap:=by omega
  have q2:(i:Int)<=(cap:Int):=by omega
  have q3:i+1<=Wn T:=by omega
  have q4:(i:Int)+1<=(Wn T:Int):=by omega
  have q5:((i:Int)+1).toNat=i+1:=by omega
  have q6:(0:Int)<=(i:Int)+1:=by omega
  have q7:(Wn T:Int)<=(cap:Int):=by omega
  have q8:¬(cap=Wn T-1):=by omega
  go_enter func147,ntmps147;go_wp2_with fail
  go_region_law (refine iR rfl (.tmp 22) (.tmp 25) 56 56 rfl _ _ (by first|rfl|(simp[Act.eval,Act.put];done)|(simp[Act.eval,Act.put];rfl)) (by first|rfl|(simp[Act.eval,Act.put];done)|(simp[Act.eval,Act.put];rfl)) ((cT ah) _ _ _ (Wh O)) ?_)
  all_goals
   have aa:∀l m,(Builtin.clear_ #[56] l #[J (S ⟨g,(Wn T-1)*2,U⟩) (Wn T-(Wn T-1)) m]).run prog y=.ok (Wb #[]) (y.setRow g F.toArray):=λl m=>by
    rw[show (Wn T)-(Wn T-1)=1 by omega];exact(cT s) y O l m
   go_wp2;go_ret;exact⟨O,(cT t) _ O⟩
end Dk
namespace Dk
theorem kG(b o:Nat)(C:Array V6)(G:TypeId)(v:V6)(T:Sd.Tb)(y:V8)(w:V5)(h:eW w b o C G v T)(R:v.ownBlock≠S b):V7 prog 97 #[V9 (S ⟨b,o,U⟩),H y] w λe w'=>e=Wd (Wb #[])/\∃v',dO w w' b o C G v v' (Sd.gN T y):=by
 have V:o<C.size:=(Ts.1 h.at_).1;cases hh:Sd.dD T y with
 |false =>
  have I:Sd.gN T y=T:=by unfold Sd.gN;rw[hh];rfl
  rw[I];have W:=cU hh;have l:=cU h;clear hh h I;go_enter func97,ntmps97;go_wp2_with fail;refine(fY b o C G v T y w (cT l)).mono ?_;rintro e w' ⟨rfl,F⟩;rw[cT W];go_wp2;have u:=(cT l).below F;refine Tm (Tl O _ _ _) O ⟨O,v,?_,u.row,Kept.below F _,Wh O⟩;rw[u.blk];have:C.setIfInBounds o v=C:=by
   have hv:=(Ts.1 u.at_).2;rw[<-hv];simp[Array.setIfInBounds,V]
  rw[this]
 |true =>
  obtain⟨X,_,_⟩:=Sd.gu h.me hh;have I:Sd.gN T y=T.eraseIdx (Sd.dv T y):=by unfold Sd.gN;rw[hh];rfl
  rw[I];have W:=cU hh;have l:=cU h;have hl:=h.len;clear hh h I;go_enter func97,ntmps97;go_wp2_with fail;refine(fY b o C G v T y w (cT l)).mono ?_;rintro e w1 ⟨rfl,F⟩;rw[cT W];have u:=(cT l).below F;have hc:=u.cell;rcases u.row.2 with ⟨_,h0⟩|⟨g,z,q,rfl,_,K,t,s,L,M⟩
  .omega
  .have P:S b≠(Value.slice (S ⟨g,0,U⟩) (Wn T) z).ownBlock:=λe=>R e.symm
   generalize hI:Sd.dv T y=i at X ⊢;have B:=qF g z i q T w1 X t s hl K L M;have HB:=cU u.blk;have p:=cU F;have aa:b<N (E w1):=Ud u.blk;have HI:=cU hI;clear u K L M hI F;go_wp2_with fail;refine B.mono ?_;rintro e Q ⟨rfl,A,r⟩;have m:Q.heap[b]?=S (D C G (0,0)):=(r.block b aa (λe=>P e)).trans (cT HB);have ab:Q.cell? ⟨b,o,U⟩=S (J (S ⟨g,0,U⟩) (Wn T) z):=by rw[Ti Q b o _ _ _ m];exact(cT l).at_
   have ad:Q.frozen? ⟨b,o,U⟩=Wg:=by simp[World.frozen?,m]
   have j:=cU (And.intro A (And.intro r m));clear A r m B hc;go_wp2;obtain⟨A,r,m⟩:=cT j;refine Tm (Tl O _ _ _) O ⟨O,J (S ⟨g,0,U⟩) (Wn T-1) z,?_,?_,?_,Wh O⟩
   .rw[Tq Q b o _ _ _ m]
   .rw[cT HI,List.length_eraseIdx,Tg X];exact Ui A (λe=>P e.symm) _
   .exact((Kept.below (cT p) _).trans (Kept.grown r (λk hk=>hk.2))).setCell (λhk=>hk.1 O) _
end Dk
end Go.Proofs.YtgkkdpegcieakaaGreatDoor
