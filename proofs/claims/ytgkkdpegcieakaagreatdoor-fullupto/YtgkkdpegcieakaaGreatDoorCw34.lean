import Derived.Test.YtgkkdpegcieakaaGreatDoorCw16
import Derived.Test.YtgkkdpegcieakaaGreatDoorCw09
set_option linter.all false
set_option maxRecDepth 100000
set_option maxHeartbeats 16000000
namespace Go.Proofs.YtgkkdpegcieakaaGreatDoor
open Go.Proofs.Tryz
open Value renaming int→Z,slice→J,pointer→WV,bool→WW,tuple→WX,agg→WY
open Ending renaming returned→WZ
open Obj renaming cells→D
open Option renaming none→U,some→S
open Bool renaming true→W8,false→W9
open Or renaming inl→Xa,inr→Xb
open List renaming length→Xg
open _root_.Array renaming size→K
open World renaming alloc→Xe,heap→E
open IntKind renaming i64→Y
open Go renaming World→WR,Value→WS,Calls→WT
namespace Rt
open Go.RowKit Dk
def su(k:Nat)(e:Sn.Ce):List WS:=[Z Y (k:Int),Z Y (k:Int),J e.p e.n e.c,Z Y e.al]
def lj(k:Nat)(e:Sn.Ce):WS := WY #[Z Y (k:Int),J e.p e.n e.c,Z Y e.al]
def ks(x y:Nat):Int:=if Sn.lt x y=W8 then -1 else if Sn.lt y x=W8 then 1 else 0
theorem j9(x:Int)(w:WR):WT prog 160 #[Z Y x] w λe b=>e=WZ (WW W9)/\b=w:=by
 go_enter func160,ntmps160;go_wp2;go_ret;exact⟨by simp,O⟩
theorem oA(x y:Nat)(w:WR):WT prog 108 #[Z Y (x:Int),Z Y (y:Int)] w λe j=>e=WZ (Z Y (ks x y))/\j=w:=by
 rcases Nat.lt_trichotomy x y with h|h|h
 .have b:ks x y = -1:=T0 (by simpa [Sn.lt] using h);have l:(x:Int)<(y:Int):=by omega
  rw[b];clear b h;go_enter func108,ntmps108;go_wp2_with (go_at_call 160;refine(j9 _ _).mono ?_;rintro e j ⟨rfl,rfl⟩);go_ret;exact⟨O,O⟩
 .subst h;have b:ks x x=0:=by simp[ks,Sn.lt_irrefl]
  rw[b];clear b;go_enter func108,ntmps108;go_wp2_with (go_at_call 160;refine(j9 _ _).mono ?_;rintro e j ⟨rfl,rfl⟩);go_ret;exact⟨O,O⟩
 .have b:ks x y=1:=by simp[ks,Sn.lt];omega
  have l:¬(x:Int)<(y:Int):=by omega
  have m:¬(x:Int)=(y:Int):=by omega
  have r:(y:Int)<(x:Int):=by omega
  rw[b];clear b h;go_enter func108,ntmps108;go_wp2_with (go_at_call 160;refine(j9 _ _).mono ?_;rintro e j ⟨rfl,rfl⟩);go_ret;exact⟨O,O⟩
theorem ij(a s:Nat)(q:Option Addr)(j l:Nat)(m:Int)(y:Nat)(w:WR):WT prog 125 #[WY #[Z Y (a:Int),Z Y (s:Int),J q j l,Z Y m],Z Y (y:Int)] w λe b=>e=WZ (Z Y (ks a y))/\WQ w b:=by
 go_enter func125,ntmps125;go_wp2_with (go_at_call 108;refine(oA _ _ _).mono ?_;rintro e b ⟨rfl,rfl⟩);go_ret;exact⟨O,WO.alloc WN _⟩
def iu(w:WR)(p:Option Addr)(T:Sn.Tb):Prop := ∀j (h:j<Xg T),∃g,p=S ⟨g,0,U⟩/\w.cell? ⟨g,j*4,U⟩=S (Z Y ((T[j]).1:Int))/\w.cell? ⟨g,j*4+1,U⟩=S (Z Y ((T[j]).1:Int))/\w.cell? ⟨g,j*4+2,U⟩=S (J (T[j]).2.p (T[j]).2.n (T[j]).2.c)/\w.cell? ⟨g,j*4+3,U⟩=S (Z Y (T[j]).2.al)
theorem iu.below{w w':WR}{p:Option Addr}{T:Sn.Tb}(h:iu w p T)(hb:WQ w w'):iu w' p T:=λj u=>by
 obtain⟨g,e,b,l,m,r⟩:=h j u;exact⟨g,e,(hb.cell (Ui w _ b)).trans b,(hb.cell (Ui w _ l)).trans l,(hb.cell (Ui w _ m)).trans m,(hb.cell (Ui w _ r)).trans r⟩
theorem mu(p:Option Addr)(cap:Nat)(T:Sn.Tb)(y:Nat)(w:WR)(h:iu w p T)(t:Sn.di T)(hl:Xg T<=1000000000):WT prog 124 #[J p (Xg T) cap,Z Y (y:Int),.func (.func 125) #[] #[]] w λe s=>e=WZ (WX #[Z Y (Sn.dw T y:Nat),WW (Sn.dF T y)])/\WQ w s:=by
 go_enter func124,ntmps124;go_wp2
 go_loopw [9,10] (λa b wr=>∃i j:Nat,i<=j/\j<=Xg T/\a=Z Y i/\b=Z Y j/\WQ w wr/\(∀k (I:k<Xg T),k<i->Sn.lt (T[k]).1 y=W8)/\(∀k (I:k<Xg T),j<=k->Sn.lt (T[k]).1 y=W9)) (λa b _=>(intOf b-intOf a).toNat)
 case atStart=>exact⟨0,Xg T,Ud _,TY _,rfl,rfl,T4 _ _,λk I h=>by omega,λk I h=>by omega⟩
 case round =>
  obtain⟨i,j,af,hj,rfl,rfl,r,L,M⟩:=hrel;have N:=cT L;have P:=cT M;clear L M;by_cases ag:i<j
  .have aa:(i+j)/2<Xg T:=by omega
   have ah:i<=(i+j)/2:=by omega
   have ai:(i+j)/2<j:=by omega
   have ae:(i:Int)<(j:Int):=by omega
   obtain⟨g,hp,c0,c1,Q,R⟩:=(h.below r) ((i+j)/2) (by omega)
   subst hp;obtain⟨x,z⟩:∃x,(T[(i+j)/2]).1=x:=⟨_,rfl⟩
   obtain⟨⟨q,o,qc,qa⟩,V⟩:∃x,(T[(i+j)/2]).2=x:=⟨_,rfl⟩
   rw[z] at c0 c1;rw[V] at Q R;dsimp only at Q R;have W:=cT z;clear z V;cases l:Sn.lt x y with
   |true =>
    have A:=cT l;have HC:Hid (ks x y = -1):=T0 l;clear l;go_wp2_with (go_at_call 125;refine(ij x x q o qc qa y _).mono ?_;rintro e s ⟨rfl,m⟩;rw[cS HC]);go_roundw
    case rel =>
     refine⟨(i+j)/2+1,j,by omega,hj,by go_num,O,r.trans (m.mono r.size),λk I ab=>?_,cS P⟩;have u:=Sn.fe t (i:=k) (j:=(i+j)/2) (by omega) aa;rw[cS W] at u;exact Sn.oY u (cS A)
    case measure=>simp[intOf];omega
   |false =>
    have HC:Hid (0<=ks x y):=by show _<=_;unfold ks;rw[l];simp;split <;> omega
    have A:=cT l;clear l;obtain⟨c,B⟩:∃c,ks x y=c:=⟨_,rfl⟩
    rw[B] at HC;have C:=cT B;have aj:0<=c:=cS HC;clear B;go_wp2_with (go_at_call 125;refine(ij x x q o qc qa y _).mono ?_;rintro e s ⟨rfl,m⟩;rw[cS C]);go_roundw
    case rel =>
     refine⟨i,(i+j)/2,by omega,by omega,O,by go_num,r.trans (m.mono r.size),cS N,λk I ab=>?_⟩;have u:=Sn.fe t (i:=(i+j)/2) (j:=k) (by omega) I;rw[cS W] at u;cases h2:Sn.lt (T[k]).1 y with
     |false=>rfl
     |true=>have:=Sn.oY u h2;rw[cS A] at this;cases this
    case measure=>simp[intOf];omega
  .have ad:j=i:=by omega
   subst ad;have F:Hid (Sn.dw T y=j):=Sn.jO hj (cS N) (cS P);by_cases G:j<Xg T
   .have X:(j:Int)<(Xg T:Int):=by omega
    obtain⟨g,hp,c0,c1,Q,R⟩:=(h.below r) j G;subst hp;have HH:=cT (Sn.iR t y);obtain⟨x,z⟩:∃x,(T[j]).1=x:=⟨_,rfl⟩
    obtain⟨⟨q,o,qc,qa⟩,V⟩:∃x,(T[j]).2=x:=⟨_,rfl⟩
    rw[z] at c0 c1;rw[V] at Q R;dsimp only at Q R;have W:=cT z;clear z V;obtain⟨c,B⟩:∃c,ks x y=c:=⟨_,rfl⟩
    have C:=cT B;have HE:Hid (Sn.dF T y=(c == 0)):=by
     show _=_
     have u:(c == 0)=decide (x=y):=by
      rw[<-B];unfold ks;rcases Sn.qt x y with h|h|h
      .rw[T0 h,Uu (Sn.qW h)];rfl
      .subst h;simp[Sn.lt_irrefl]
      .rw[Sn.lt_asymm h,TZ (by decide),T0 h,Uu (λe=>Sn.qW h e.symm)];rfl
     rw[u];apply Bool.eq_iff_iff.2;rw[cS HH,decide_eq_true_iff];constructor
     .rintro⟨hq,e⟩;have e2:T[Sn.dw T y]=T[j]:=by congr 1 <;> exact cS F
      rw[e2] at e;rw[<-e];exact(cS W).symm
     .intro e;have e2:T[Sn.dw T y]'(by rw[cS F];exact G)=T[j]:=by congr 1 <;> exact cS F
      exact⟨by rw[cS F];exact G,by rw[e2];exact(cS W).trans e⟩
    clear B;go_wp2_with (go_at_call 125;refine(ij x x q o qc qa y _).mono ?_;rintro e s ⟨rfl,m⟩;rw[cS C]);exact T8 (v := WX #[Z Y j,WW (c == 0)]) (by simp[results,results124,go_sem]) O ⟨by rw[cS F,cS HE],r.trans (m.mono r.size)⟩
   .have X:¬(j:Int)<(Xg T:Int):=by omega
    have ak:(Xg T:Int)<=(j:Int):=by omega
    have HE:Hid (Sn.dF T y=W9):=by
     show _=_
     cases hq:Sn.dF T y with
     |false=>rfl
     |true=>obtain⟨u,_⟩:=(Sn.iR t y).1 hq;rw[cS F] at u;omega
    go_wp2;exact T8 (v := WX #[Z Y j,WW W9]) (by simp[results,results124,go_sem]) O ⟨by rw[cS F,cS HE],r⟩
end Rt
namespace Rt
open Go.RowKit Dk
def cU(T:Sn.Tb):List WS:=T.flatMap λp=>su p.1 p.2
theorem pL(p:Nat × Sn.Ce)(t:Sn.Tb):cU (p::t)=Z Y (p.1:Int)::Z Y (p.1:Int)::J p.2.p p.2.n p.2.c::Z Y p.2.al::cU t:=by simp[cU,su]
theorem eJ(T:Sn.Tb):(cU T).length=Xg T*4:=by
 induction T with
 |nil=>rfl
 |cons p t b=>rw[pL];simp;omega
theorem ki(A B:Sn.Tb):cU (A++B)=cU A++cU B:=by simp[cU]
theorem mX(T:Sn.Tb):∀j (h:j<Xg T),(cU T)[j*4]?=S (Z Y ((T[j]).1:Int))/\(cU T)[j*4+1]?=S (Z Y ((T[j]).1:Int))/\(cU T)[j*4+2]?=S (J (T[j]).2.p (T[j]).2.n (T[j]).2.c)/\(cU T)[j*4+3]?=S (Z Y (T[j]).2.al):=by
 induction T with
 |nil=>intro j h;simp at h
 |cons p t b =>
  intro j h;rw[pL];cases j with
  |zero=>simp
  |succ j =>
   have:=b j (by simpa using h);rw[show (j+1)*4=j*4+1+1+1+1 by omega];simpa using this
theorem Bu(k:Nat)(e:Sn.Ce):∀u∈su k e,u.oneCell'=W8:=by
 intro u hu;simp[su] at hu;rcases hu with rfl|rfl|rfl <;> rfl
theorem my(T:Sn.Tb):∀u∈cU T,u.oneCell'=W8:=by
 intro u hu;obtain⟨p,_,b⟩:=Vv.1 hu;exact Bu _ _ u b
theorem dS{w:WR}{B:Nat}{v:WS}{T:Sn.Tb}(h:w.ownsRow B 181 4 v (Xg T) (cU T)):∃p b,v=J p (Xg T) b/\iu w p T:=by
 have l:=h;rcases h.2 with ⟨m,r⟩|⟨g,b,u,m,_⟩
 .subst m;refine⟨U,0,by rw[r],λj e=>by omega⟩
 .subst m;refine⟨S ⟨g,0,U⟩,b,O,λj e=>⟨g,O,?_,?_,?_,?_⟩⟩
  .rw[l.cellAt _ (by omega)];exact(mX T j e).1
  .rw[l.cellAt _ (by omega)];exact(mX T j e).2.1
  .rw[l.cellAt _ (by omega)];exact(mX T j e).2.2.1
  .rw[l.cellAt _ (by omega)];exact(mX T j e).2.2.2
theorem info_centry:(prog.info? 181).map (λi=>(i.zero,i.size,i.bytes))=S (S (WY #[Z Y 0,Z Y 0,J U 0 0,Z Y 0]),4,48):=by kernel_rfl
theorem oa(T:Sn.Tb)(i:Nat):(cU T).take (i*4)=cU (T.take i):=by
 induction T generalizing i with
 |nil=>simp[cU]
 |cons p t b =>
  cases i with
  |zero=>simp[cU]
  |succ i =>
   rw[pL,show (i+1)*4=i*4+1+1+1+1 by omega,VF,VF,VF,VF,b,VF,pL]
theorem od(T:Sn.Tb)(i:Nat):(cU T).drop (i*4)=cU (T.drop i):=by
 induction T generalizing i with
 |nil=>simp[cU]
 |cons p t b =>
  cases i with
  |zero=>simp
  |succ i =>
   rw[pL,show (i+1)*4=i*4+1+1+1+1 by omega,V3,V3,V3,V3,b,V3]
theorem oP(T:Sn.Tb)(i:Nat)(a:Nat)(b:Sn.Ce):(cU T).take (i*4)++[Z Y (a:Int),Z Y (a:Int),J b.p b.n b.c,Z Y b.al]++(cU T).drop (i*4)=cU (T.take i++(a,b)::T.drop i):=by
 rw[oa,od,ki,pL];simp
def ie(w:WR)(B:Nat)(v:WS)(T:Sn.Tb)(i:Nat)(a:Nat)(b:Sn.Ce)(e:Ending)(w':WR):Prop :=
 ∃j,e=WZ j/\w'.ownsRow B 181 4 j (Xg T+1) (cU (T.take i++(a,b)::T.drop i))/\w.grownBy w' v.ownBlock/\(j.ownBlock=v.ownBlock\/j.ownBlock=S (K (E w)))
theorem mn(B x:Nat)(v:WS)(T:Sn.Tb)(a:Nat)(b:Sn.Ce)(w:WR)(P:B<=K (E w))(h:w.ownsRow B 181 4 v (Xg T) (cU T))(hl:Xg T<=1000000000)(I:w.heap[x]?=S (D #[Z Y (a:Int),Z Y (a:Int),J b.p b.n b.c,Z Y b.al] 181 (0,0))):WT prog 84 #[v,Z Y (Xg T),J (S ⟨x,0,U⟩) 1 1] w (ie w B v T (Xg T) a b):=by
 obtain⟨Q,hi,z,A,C⟩:=UB info_centry;obtain⟨p,m,rfl,F⟩:=Dk.dm h;have R:Xg T<=m:=F;have s:m<=9223372036854775807:=by
  rcases h.2 with ⟨G,o⟩|⟨g,V,aa,G,_,_,o,hm,_⟩
  .injection G with _ _ G;omega
  .injection G with _ _ G;unfold maxLen at hm;omega
 clear F;have W:w.cell? ⟨x,0,U⟩=S (Z Y (a:Int)):=by rw[T5 w x 0 _ _ _ I];rfl
 have X:w.cell? ⟨x,1,U⟩=S (Z Y (a:Int)):=by rw[T5 w x 1 _ _ _ I];rfl
 have q:w.cell? ⟨x,2,U⟩=S (J b.p b.n b.c):=by rw[T5 w x 2 _ _ _ I];rfl
 have t:w.cell? ⟨x,3,U⟩=S (Z Y b.al):=by rw[T5 w x 3 _ _ _ I];rfl
 by_cases L:m=Xg T
 .subst L;go_enter func84,ntmps84;go_wp2_with (first
   | (at_builtin;go_must (refine eW _ O (.tmp 23) (.tmp 24) 109 O B 181 Q _ 4 48 underlying109 hi z A C O (by decide) _ _ _ O h ⟨x,0,U⟩ 1 1 (by decide) [Z Y (a:Int),Z Y (a:Int),J b.p b.n b.c,Z Y b.al] O O ?c1 ?c2 ?c3 ?c4 ?c5 ?_))
   |go_in)
  case c1 =>
   intro j u l
   match j,l with
   |0,l=>simp at l;subst l;simpa [Addr.add] using W
   |1,l=>simp at l;subst l;simpa [Addr.add] using X
   |2,l=>simp at l;subst l;simpa [Addr.add] using q
   |3,l=>simp at l;subst l;simpa [Addr.add] using t
  case c2=>exact Bu a b
  case c3=>unfold maxLen;omega
  case c4=>omega
  case c5=>exact P
  intro M w3 N r y _;go_wp2;go_ret;refine⟨M,O,?_,r,y⟩;have e:cU (T.take (Xg T)++(a,b)::T.drop (Xg T))=cU T++[Z Y (a:Int),Z Y (a:Int),J b.p b.n b.c,Z Y b.al]:=by simp[cU,su]
  rw[e];exact N
 .have ab:Xg T<m:=by omega
  go_enter func84,ntmps84;go_wp2_with (first
   | (at_builtin;go_must (refine eW _ O (.tmp 23) (.tmp 24) 109 O B 181 Q _ 4 48 underlying109 hi z A C O (by decide) _ _ _ O h ⟨x,0,U⟩ 1 1 (by decide) [Z Y (a:Int),Z Y (a:Int),J b.p b.n b.c,Z Y b.al] O O ?c1 ?c2 ?c3 ?c4 ?c5 ?_))
   |go_in)
  case c1 =>
   intro j u l
   match j,l with
   |0,l=>simp at l;subst l;simpa [Addr.add] using W
   |1,l=>simp at l;subst l;simpa [Addr.add] using X
   |2,l=>simp at l;subst l;simpa [Addr.add] using q
   |3,l=>simp at l;subst l;simpa [Addr.add] using t
  case c2=>exact Bu a b
  case c3=>unfold maxLen;omega
  case c4=>omega
  case c5=>exact P
  intro M w3 N r y _;go_wp2;go_ret;refine⟨M,O,?_,r,y⟩;have e:cU (T.take (Xg T)++(a,b)::T.drop (Xg T))=cU T++[Z Y (a:Int),Z Y (a:Int),J b.p b.n b.c,Z Y b.al]:=by simp[cU,su]
  rw[e];exact N
end Rt
namespace Rt
open Go.RowKit Dk
theorem mK:(prog.info? 181).map (·.size)=S 4:=by
 obtain⟨l,hi,e,b,j⟩:=UB info_centry;rw[hi];simp[b]
theorem wM(w:WR):(Go.sizeOf 181).run prog w=.ok 4 w:=by
 obtain⟨l,hi,e,b,j⟩:=UB info_centry;simp[sizeOf,typeInfo,hi,b]
theorem yZ(w:WR)(x g o lb r:Nat)(a:Nat)(b:Sn.Ce)(j:Array WS)(l:x≠g)(m:w.heap[x]?=S (D #[Z Y (a:Int),Z Y (a:Int),J b.p b.n b.c,Z Y b.al] 181 (0,0)))(u:w.heap[g]?=S (D j 181 (0,0)))(y:j.size≠0):(callFunc 126 #[J (S ⟨x,0,U⟩) 1 1,J (S ⟨g,o,U⟩) lb r]).run prog w=.ok (.value (WW W9)) w:=by
 rw[run_callFunc_extern func126 (by kernel_rfl) (by kernel_rfl) (by kernel_rfl) (e:=Extern.SlicesOverlaps.overlaps #[109,109] #[4]) (by kernel_rfl),
  Lib.run_overlaps_apart w 109 4 181 underlying109 4 wM ⟨x,0,U⟩ ⟨g,o,U⟩ 1 1 lb r l 181 181 4 j.size (by simp[World.shape?,m]) (by simp[World.shape?,u]) y (by simp[World.frozen?,m]) (by simp[World.frozen?,m])]
 rfl
theorem kP(B x g cap i:Nat)(m:Array WS)(T:Sn.Tb)(a:Nat)(b:Sn.Ce)(w:WR)(hi:i<Xg T)(hB:B<=g)(q:Xg T+1<=cap)(ab:cap<=maxLen)(hl:Xg T<=1000000000)(ad:x≠g)(hg:w.heap[g]?=S (D m 181 (0,0)))(ae:m.size=cap*4)(r:m.toList.take (Xg T*4)=cU T)(hx:w.heap[x]?=S (D #[Z Y (a:Int),Z Y (a:Int),J b.p b.n b.c,Z Y b.al] 181 (0,0))):WT prog 84 #[J (S ⟨g,0,U⟩) (Xg T) cap,Z Y i,J (S ⟨x,0,U⟩) 1 1] w (ie w B (J (S ⟨g,0,U⟩) (Xg T) cap) T i a b):=by
 have ak:∀o lb cb,(callFunc 126 #[J (S ⟨x,0,U⟩) 1 1,J (S ⟨g,o,U⟩) lb cb]).run prog w=.ok (.value (WW W9)) w:=λo lb cb=>yZ w x g o lb cb a b m ad hx hg (by omega)
 obtain⟨l,hD⟩:∃l,l=(cU T).drop (i*4):=⟨_,rfl⟩
 obtain⟨V,y⟩:∃V:List WS,V=[Z Y (a:Int),Z Y (a:Int),J b.p b.n b.c,Z Y b.al]:=⟨_,rfl⟩
 have af:Xg l=(Xg T-i)*4:=by rw[hD,Vb,eJ];omega
 have an:Xg V=4:=by rw[y];rfl
 have ag:Xg m.toList=cap*4:=by simpa using ae
 obtain⟨A,C⟩:∃A,A=Dk.kA m.toList (i*4+Xg V) l:=⟨_,rfl⟩
 obtain⟨t,F⟩:∃t,t=Dk.kA A (i*4) V:=⟨_,rfl⟩
 have I:Xg A=cap*4:=by rw[C,Dk.fZ _ _ _ (by omega)];exact ag
 have L:Xg t=cap*4:=by rw[F,Dk.fZ _ _ _ (by omega)];exact I
 have M:t.take ((Xg T+1)*4)=cU (T.take i++(a,b)::T.drop i):=by
  have e:=Dk.rP m.toList (i*4) V l 0 (by omega);rw[<-C,<-F] at e;have e2:i*4+Xg V+Xg l=(Xg T+1)*4:=by omega
  rw[e2] at e;rw[e,<-oP,<-y,<-hD]
  congr 2
  rw[<-r,Vx,V2 (by omega)]
 have z:∀j v,l[j]?=S v->w.cell? ⟨g,i*4+j,U⟩=S v:=λj v N=>by
  have ar:j<Xg l:=(VU.1 N).1;rw[T5 w g _ _ _ _ hg];rw[hD,<-r,VG,VP,T0 (by omega)] at N;simpa using N
 have ah:∀v∈l,v.oneCell'=W8:=λv hv=>my T v (by rw[hD] at hv;exact VC hv)
 have Q:∀s dc sc,(Builtin.copy_ #[109,109] s #[J (S ⟨g,(i+1)*4,U⟩) (Xg T+1-(i+1)) dc,J (S ⟨g,i*4,U⟩) (Xg T+1-i) sc]).run prog w.drew=.ok (goInt ((Xg T-i:Nat):Int)) (w.drew.setRow g A.toArray):=λs dc sc=>by
  have h:=ez (P:=prog) w.drew 109 109 s 181 4 g ((i+1)*4) (Xg T+1-(i+1)) dc ⟨g,i*4,U⟩ (Xg T+1-i) sc m 181 l underlying109 mK hg (Xg T-i) (by simp only[VQ];split <;> omega) af
   (λj v N=>by rw[Vo];exact z j v N) (by omega) ah
  rw[h,C];unfold Dk.kA;rw[show i*4+Xg V=(i+1)*4 by omega]
 have G:(w.drew.setRow g A.toArray).heap[g]?=S (D A.toArray 181 (0,0)):=U8 w.drew g m _ _ _ hg;have aa:(w.drew.setRow g A.toArray).heap[x]?=S (D #[Z Y (a:Int),Z Y (a:Int),J b.p b.n b.c,Z Y b.al] 181 (0,0)):=by
  rw[U5 w.drew g x _ ad];exact hx
 obtain⟨W1,u⟩:∃W1,W1=w.drew.setRow g A.toArray:=⟨_,rfl⟩
 rw[<-u] at Q G aa;have ai:∀(W:WR),W=W1->∀s dc,(Builtin.copy_ #[109,109] s #[J (S ⟨g,i*4,U⟩) (Xg T+1-i) dc,J (S ⟨x,0,U⟩) 1 1]).run prog W=.ok (goInt 1) (W1.setRow g t.toArray):=λW hW s dc=>by
  subst hW;have h:=ez (P:=prog) W 109 109 s 181 4 g (i*4) (Xg T+1-i) dc ⟨x,0,U⟩ 1 1 A.toArray 181 V underlying109 mK G 1 (by simp only[VQ];split <;> omega) (by omega)
   (λj v N=>by
     rw[Vo,T5 W x _ _ _ _ aa];rw[y] at N;simpa using N) (by simp;omega) (by rw[y];exact Bu a b)
  rw[h,F]
  rfl
 have R:∀W,W=W1.setRow g t.toArray->W.ownsRow B 181 4 (J (S ⟨g,0,U⟩) (Xg T+1) cap) (Xg T+1) (cU (T.take i++(a,b)::T.drop i))/\w.grownBy W (Value.ownBlock (J (S ⟨g,0,U⟩) (Xg T) cap)):=λW hW=>by
  rw[hW];refine⟨⟨by rw[eJ];simp;omega,.inr ⟨g,cap,t.toArray,O,hB,U8 W1 g _ _ _ _ G,q,ab,by simpa using L,by simpa using M⟩⟩,?_⟩;refine⟨by rw[u];rfl,by rw[u];rfl,by rw[u];rfl,by rw[u];simp[World.setRow],λk hk ao=>?_⟩;have X:k≠g:=λe=>ao (by rw[e];rfl)
  rw[U5 W1 g k _ X,u,U5 w.drew g k _ X];rfl
 have aj:=cT R;unfold maxLen at ab;have au:IntKind.i64.wrap ((i:Int)+1)=(i:Int)+1:=by rw[Uy];omega
 have av:(0:Int)<=(i:Int)+1:=by omega
 have aw:i<=Xg T:=by omega
 have aq:(i:Int)<=(Xg T:Int):=by omega
 have ax:((i:Int)+1).toNat=i+1:=by omega
 have ay:(i:Int)<=(Xg T:Int)+1:=by omega
 have az:¬((i:Int)=(Xg T:Int)):=by omega
 have aA:¬((cap:Int)<(Xg T:Int)+1):=by omega
 have aB:¬(cap=i+1):=by omega
 have aC:¬(cap=i):=by omega
 clear R M z ah hD y af an ag C F I L hg hx ae r G aa u;go_enter func84,ntmps84;go_wp2_with (simp only[ak])
 go_region_law (refine step_copy_runI O (.tmp 73) (.tmp 76) 109 109 O _ _ (by simp[Act.eval,Act.put];rfl) (by simp[Act.eval,Act.put];rfl) (Q _ _ _) ?_)
 go_wp2_with (first|(at_builtin;go_must (refine wpList_copy_runI _ rfl (.tmp 80) (.tmp 81) 109 109 rfl _ _ rfl rfl (ai _ rfl _ _) ?_))|go_in);go_wp2;go_ret;obtain⟨q1,q2⟩:=(cS aj) _ rfl;exact⟨_,rfl,q1,q2,by first|exact Xa rfl|exact Xb rfl⟩
theorem lk(B x g cap i:Nat)(F:Array WS)(T:Sn.Tb)(a:Nat)(b:Sn.Ce)(w:WR)(hi:i<Xg T)(hB:B<=K (E w))(ag:cap=Xg T)(hl:Xg T<=1000000000)(hg:w.heap[g]?=S (D F 181 (0,0)))(I:F.toList.take (Xg T*4)=cU T)(aw:Xg T*4<=F.size)(hx:w.heap[x]?=S (D #[Z Y (a:Int),Z Y (a:Int),J b.p b.n b.c,Z Y b.al] 181 (0,0))):WT prog 84 #[J (S ⟨g,0,U⟩) (Xg T) cap,Z Y i,J (S ⟨x,0,U⟩) 1 1] w (ie w B (J (S ⟨g,0,U⟩) (Xg T) cap) T i a b):=by
 subst ag;obtain⟨i0,ax,ay,az,ah⟩:=UB info_centry;obtain⟨l,hD⟩:∃l,l=(cU T).drop (i*4):=⟨_,rfl⟩
 obtain⟨V,L⟩:∃V:List WS,V=[Z Y (a:Int),Z Y (a:Int),J b.p b.n b.c,Z Y b.al]:=⟨_,rfl⟩
 have ai:Xg l=(Xg T-i)*4:=by rw[hD,Vb,eJ];omega
 have aA:Xg V=4:=by rw[L];rfl
 have y:∀j v,(cU T)[j]?=S v->w.cell? ⟨g,j,U⟩=S v:=λj v z=>by
  have aB:j<(cU T).length:=(VU.1 z).1;rw[eJ] at aB;rw[T5 w g _ _ _ _ hg];rw[<-I,VP,T0 (by omega)] at z;simpa using z
 have ad:i+(Xg T+1-i)=Xg T+1:=by omega
 have hold:(Builtin.firstCells i0.size i (J (S ⟨g,0,U⟩) i (Xg T))).run prog w.drew=.ok ((cU T).take (i*4)).toArray w.drew:=by
  rw[az];exact run_firstCells_some w.drew 4 i ⟨g,0,U⟩ i (Xg T) ((cU T).take (i*4)) (by rw[Vj,eJ];omega) (λj v z=>by
   rw[Vo];rw[VP] at z;split at z
   .simpa using y j v z
   .cases z)
 obtain⟨G,hG⟩:∃G,G=grownCap w (Xg T+1) (Xg T) 181:=⟨_,rfl⟩
 have aC:Xg T+1<=G:=by rw[hG];exact grownCap_ge w _ _ _
 have aj:G<=maxLen:=by rw[hG];exact grownCap_le_maxLen w _ _ _ (by unfold maxLen;omega)
 obtain⟨m,A⟩:∃m:Array WS,m=((cU T).take (i*4)).toArray++Builtin.zeroCells (Value.agg #[Z Y 0,Z Y 0,J U 0 0,Z Y 0]).cells (Xg T+1-i)++Builtin.zeroCells (Value.agg #[Z Y 0,Z Y 0,J U 0 0,Z Y 0]).cells (G-(Xg T+1)):=⟨_,rfl⟩
 have ak:∀M,(Builtin.append_ #[109,3] M #[J (S ⟨g,0,U⟩) i (Xg T),Z Y ((Xg T:Int)+1-(i:Int))]).run prog w =
   .ok (J (S ⟨K (E w),0,U⟩) (Xg T+1) G) (w.drew.alloc (D m 181)):=λM=>by
  have h:=Lib.run_append_grow_zeros w 109 3 M 181 i0 _ Y Y underlying109 underlying3 ax ay (S ⟨g,0,U⟩) i (Xg T) ((cU T).take (i*4)) hold (Xg T+1-i) (by omega) (by omega) (by omega) (by omega) (by rw[ah];omega) (by rw[ah,ad];exact growslice_fits (by omega) (by omega));rw[ad] at h;rw[show (Xg T:Int)+1-(i:Int)=((Xg T+1-i:Nat):Int) by omega,A,hG];exact h
 have ae:Xg m.toList=G*4:=by
  rw[A];simp[Builtin.zeroCells,Value.cells,eJ];omega
 have an:m.toList.take (i*4)=(cU T).take (i*4):=by
  rw[A];simp only[Wd,UO];rw[Vk (by simp[eJ];omega)];exact(Vx ..).trans (by rw[Nat.min_self])
 obtain⟨q,R⟩:∃q,q=Dk.kA m.toList (i*4) V:=⟨_,rfl⟩
 obtain⟨c2,X⟩:∃c2,c2=Dk.kA q (i*4+Xg V) l:=⟨_,rfl⟩
 have t:Xg q=G*4:=by rw[R,Dk.fZ _ _ _ (by omega)];exact ae
 have s:Xg c2=G*4:=by rw[X,Dk.fZ _ _ _ (by omega)];exact t
 have o:c2.take ((Xg T+1)*4)=cU (T.take i++(a,b)::T.drop i):=by
  have e:=Dk.r7 m.toList (i*4) V l (by omega);rw[<-R,<-X] at e;have e2:i*4+Xg V+Xg l=(Xg T+1)*4:=by omega
  rw[e2] at e;rw[e,<-oP,<-L,<-hD,an]
 have aD:g<K (E w):=UW hg;have aE:x<K (E w):=UW hx;obtain⟨N,r⟩:∃N,N=w.drew.alloc (D m 181):=⟨_,rfl⟩
 have af:N.heap[K (E w)]?=S (D m 181 (0,0)):=by rw[r];exact T9 w.drew _
 have ao:N.heap[x]?=S (D #[Z Y (a:Int),Z Y (a:Int),J b.p b.n b.c,Z Y b.al] 181 (0,0)):=by rw[r,Ur w.drew _ x aE];exact hx
 have aq:N.heap[g]?=S (D F 181 (0,0)):=by rw[r,Ur w.drew _ g aD];exact hg
 rw[<-r] at ak;have aa:∀W,W=N->∀M dc,(Builtin.copy_ #[109,109] M #[J (S ⟨K (E w),i*4,U⟩) (Xg T+1-i) dc,J (S ⟨x,0,U⟩) 1 1]).run prog W=.ok (goInt 1) (N.setRow (K (E w)) q.toArray):=λW hW M dc=>by
  subst hW;have h:=ez (P:=prog) W 109 109 M 181 4 (K (E w)) (i*4) (Xg T+1-i) dc ⟨x,0,U⟩ 1 1 m 181 V underlying109 mK af 1 (by simp only[VQ];split <;> omega) (by omega)
   (λj v z=>by
     rw[Vo,T5 W x _ _ _ _ ao];rw[L] at z;simpa using z) (by rw[<-Va,ae];omega) (by rw[L];exact Bu a b)
  rw[h,R]
  rfl
 obtain⟨C,u⟩:∃C,C=N.setRow (K (E w)) q.toArray:=⟨_,rfl⟩
 have Q:C.heap[K (E w)]?=S (D q.toArray 181 (0,0)):=by rw[u];exact U8 N _ _ _ _ _ af
 have ar:C.heap[g]?=S (D F 181 (0,0)):=by rw[u,U5 N _ g _ (by omega)];exact aq
 rw[<-u] at aa;have au:∀W,W=C.drew->∀M dc sc,(Builtin.copy_ #[109,109] M #[J (S ⟨K (E w),(i+1)*4,U⟩) (Xg T+1-(i+1)) dc,J (S ⟨g,i*4,U⟩) (Xg T-i) sc]).run prog W=.ok (goInt ((Xg T-i:Nat):Int)) (C.drew.setRow (K (E w)) c2.toArray):=λW hW M dc sc=>by
  subst hW;have h:=ez (P:=prog) C.drew 109 109 M 181 4 (K (E w)) ((i+1)*4) (Xg T+1-(i+1)) dc ⟨g,i*4,U⟩ (Xg T-i) sc q.toArray 181 l underlying109 mK Q (Xg T-i) (by simp only[VQ];split <;> omega) ai
   (λj v z=>by
     rw[Vo];refine(T5 C.drew g _ _ _ _ ar).trans ?_;rw[<-T5 w g _ _ _ _ hg];exact y _ v (by rw[hD,VG] at z;exact z)) (by simp;omega) (λv hv=>my T v (by rw[hD] at hv;exact VC hv))
  rw[h,X];unfold Dk.kA;rw[show i*4+Xg V=(i+1)*4 by omega]
 have ab:∀W,W=C.drew.setRow (K (E w)) c2.toArray->W.ownsRow B 181 4 (J (S ⟨K (E w),0,U⟩) (Xg T+1) G) (Xg T+1) (cU (T.take i++(a,b)::T.drop i))/\w.grownBy W (Value.ownBlock (J (S ⟨g,0,U⟩) (Xg T) (Xg T))):=λW hW=>by
  rw[hW];refine⟨⟨by rw[eJ];simp;omega,.inr ⟨K (E w),G,c2.toArray,O,hB,U8 C.drew _ _ _ _ _ Q,aC,aj,by simpa using s,by simpa using o⟩⟩,?_⟩;refine⟨by rw[u,r];rfl,by rw[u,r];rfl,by rw[u,r];rfl,by rw[u,r];simp[World.setRow],λk hk aH=>?_⟩;rw[U5 C.drew _ k _ (by omega)]
  show C.heap[k]?=_
  rw[u,U5 N _ k _ (by omega),r,Ur w.drew _ k hk];rfl
 have av:=cT ab;unfold maxLen at aj;have aI:IntKind.i64.wrap ((i:Int)+1)=(i:Int)+1:=by rw[Uy];omega
 have aJ:(0:Int)<=(i:Int)+1:=by omega
 have aK:i<=Xg T:=by omega
 have aF:(i:Int)<=(Xg T:Int):=by omega
 have aL:((i:Int)+1).toNat=i+1:=by omega
 have aM:(i:Int)<=(Xg T:Int)+1:=by omega
 have aN:¬((i:Int)=(Xg T:Int)):=by omega
 have aO:¬(G=i):=by omega
 have aG:¬(G=i+1):=by omega
 have aP:¬(Xg T=i):=by omega
 clear ab o y hD L ai aA R X t s hg hx aw I aq ao r u af Q ar ae an A hG hold ad;go_enter func84,ntmps84;go_wp2_with (first
  | (at_builtin;refine Lib.wpList_append_run _ O (.tmp 34) (.tmp 39) _ _ O _ _ O O _ _ (ak _) ?_)
  | (at_builtin;refine wpList_copy_runI _ O (.tmp 43) (.tmp 44) 109 109 O _ _ O O (aa _ O _ _) ?_))
 go_region_law (refine step_copy_runI O (.tmp 50) (.tmp 53) 109 109 O _ _ (by simp[Act.eval,Act.put];rfl) (by simp[Act.eval,Act.put];rfl) (au _ O _ _ _) ?_)
 go_wp2;go_ret;obtain⟨q1,q2⟩:=(cS av) _ rfl;exact⟨_,rfl,q1,q2,by first|exact Xa rfl|exact Xb rfl⟩
theorem mz(B x:Nat)(v:WS)(T:Sn.Tb)(i:Nat)(a:Nat)(b:Sn.Ce)(w:WR)(hi:i<=Xg T)(G:B<=K (E w))(h:w.ownsRow B 181 4 v (Xg T) (cU T))(u:Xg T<=1000000000)(y:v.ownBlock≠S x)(z:w.heap[x]?=S (D #[Z Y (a:Int),Z Y (a:Int),J b.p b.n b.c,Z Y b.al] 181 (0,0))):WT prog 84 #[v,Z Y i,J (S ⟨x,0,U⟩) 1 1] w (ie w B v T i a b):=by
 by_cases L:i=Xg T
 .subst L;exact mn B x v T a b w G h u z
 .rcases h.2 with ⟨I,P⟩|⟨g,l,m,I,A,r,M,C,F,j⟩
  .omega
  .subst I;by_cases N:Xg T+1<=l
   .exact kP B x g l i m T a b w (by omega) A N C u (λe=>y (by rw[e];rfl)) r F j z
   .exact lk B x g l i m T a b w (by omega) G (by omega) u r j (by omega) z
end Rt
namespace Rt
open Go.RowKit Dk
structure eT (w:WR) (D o:Nat) (C:Array WS) (tD:TypeId) (v:WS) (T:Sn.Tb):Prop where
 blk:w.heap[D]?=S (.cells C tD (0,0))
 at_:C[o]?=S v
 row:w.ownsRow 0 181 4 v (Xg T) (cU T)
 me:Sn.di T
 len:Xg T<=1000000000
theorem eT.cell{w:WR}{b o:Nat}{C:Array WS}{e:TypeId}{v:WS}{T:Sn.Tb}(h:eT w b o C e v T):w.cell? ⟨b,o,U⟩=S v:=by
 rw[T5 w b o _ _ _ h.blk];exact h.at_
theorem eT.below{w w':WR}{b o:Nat}{C:Array WS}{e:TypeId}{v:WS}{T:Sn.Tb}(h:eT w b o C e v T)(hb:WQ w w'):eT w' b o C e v T:=⟨(hb.block b (UW h.blk)).trans h.blk,h.at_,dd h.row hb,h.me,h.len⟩
theorem fY(b o:Nat)(C:Array WS)(m:TypeId)(v:WS)(T:Sn.Tb)(y:Nat)(w:WR)(h:eT w b o C m v T):WT prog 83 #[WV (S ⟨b,o,U⟩),Z Y (y:Int)] w λe l=>e=WZ (WX #[Z Y (Sn.dw T y:Nat),WW (Sn.dF T y)])/\WQ w l:=by
 obtain⟨p,j,rfl,r⟩:=dS h.row;have B:=h.cell;have u:=h.me;have z:=h.len;clear h;go_enter func83,ntmps83;go_wp2_with fail;refine(mu p j T y w r u z).mono ?_;rintro e l ⟨rfl,A⟩;go_wp2;exact T8 (v := WX #[Z Y (Sn.dw T y:Nat),WW (Sn.dF T y)]) (by simp[results,results83,go_sem]) O ⟨O,A⟩
end Rt
namespace Rt
open Go.RowKit Dk
structure dN (w w':WR) (D o:Nat) (C:Array WS) (tD:TypeId) (v v':WS) (T':Sn.Tb):Prop where
 blk:w'.heap[D]?=S (.cells (C.setIfInBounds o v') tD (0,0))
 row:w'.ownsRow 0 181 4 v' (Xg T') (cU T')
 kept:Kept w w' (λk=>k≠D/\v.ownBlock≠S k)
 new:v'.ownBlock=v.ownBlock\/∃g,v'.ownBlock=S g/\(K (E w))<=g
theorem n8(b o:Nat)(C:Array WS)(q:TypeId)(v:WS)(T:Sn.Tb)(y:Nat)(f:Sn.Ce)(w:WR)(h:eT w b o C q v T)(t:v.ownBlock≠S b):WT prog 46 #[WV (S ⟨b,o,U⟩),Z Y (y:Int),lj y f] w λe w'=>e=WZ (WW (!Sn.dF T y))/\∃v',dN w w' b o C q v v' (if Sn.dF T y=W8 then T else Sn.gJ T y f):=by
 have aj:o<C.size:=(Ug.1 h.at_).1;obtain⟨P,Q,R,V⟩:=f;unfold lj;dsimp only;have F:Hid (∀W,W=w.alloc (D #[Z Y (y:Int),J P Q R,Z Y V] 80)->W.heap[K (E w)]?=S (D #[Z Y (y:Int),J P Q R,Z Y V] 80 (0,0))/\WQ w W):=by
  show ∀W,_
  rintro W rfl;exact⟨T9 w _,(T4 _ w).alloc WN _⟩
 cases hh:Sn.dF T y with
 |true =>
  have HH:=cT hh;have l:=cT h;clear hh h;go_enter func46,ntmps46;go_wp2_with fail;generalize I:Xe _ _=s;obtain⟨G,m⟩:=cS F s I.symm;clear I F;refine(fY b o C q v T y s ((cS l).below m)).mono ?_;rintro e w' ⟨rfl,hb⟩;rw[cS HH];go_wp2;go_ret;have z:=m.trans (hb.mono m.size);have L:=(cS l).below z;refine⟨O,v,?_,?_,Kept.below z _,Xa O⟩
  .rw[L.blk];have:C.setIfInBounds o v=C:=by
    have hv:=(Ug.1 L.at_).2;rw[<-hv];simp[Array.setIfInBounds,aj]
   rw[this]
  .exact L.row
 |false =>
  have HH:=cT hh;have l:=cT h;have hl:=h.len;clear hh h;go_enter func46,ntmps46;go_wp2_with fail;generalize I:Xe _ _=s;obtain⟨G,m⟩:=cS F s I.symm;clear I F;refine(fY b o C q v T y s ((cS l).below m)).mono ?_;rintro e r ⟨rfl,hb⟩;rw[cS HH];have E1:=(hb.block _ (UW G)).trans G;have z:=m.trans (hb.mono m.size);clear hb m G;have L:=(cS l).below z;have hu:=L.blk;have ho:=L.row;have hc:=L.cell;have ak:b<K (E r):=UW hu;have x0:r.cell? ⟨K (E w),0,U⟩=S (Z Y (y:Int)):=by rw[T5 r _ 0 _ _ _ E1];rfl
  have x1:r.cell? ⟨K (E w),1,U⟩=S (J P Q R):=by rw[T5 r _ 1 _ _ _ E1];rfl
  have x2:r.cell? ⟨K (E w),2,U⟩=S (Z Y V):=by rw[T5 r _ 2 _ _ _ E1];rfl
  have au:K (E w)<K (E r):=UW E1;obtain⟨p,u,rfl,_⟩:=Dk.dm ho;have aa:=Sn.lT T y;have ab:Hid (∀W,W=(r.alloc (D #[Z Y (y:Int),Z Y (y:Int),J P Q R,Z Y V] 181)).drew->
    WT prog 84 #[J p (Xg T) u,Z Y (Sn.dw T y:Nat),J (S ⟨K (E r),0,U⟩) 1 1] W λe A=>∃M j,e=WZ (J M (Xg T+1) j)/\A.cell? ⟨b,o,U⟩=S (J p (Xg T) u)/\A.frozen? ⟨b,o,U⟩=W9/\
     Hid (dN w (A.setCell ⟨b,o,U⟩ (J M (Xg T+1) j)) b o C q (J p (Xg T) u) (J M (Xg T+1) j) (Sn.gJ T y ⟨P,Q,R,V⟩))):=by
   show ∀W,_
   intro W I;have B:WQ r W:=by rw[I];exact(WO.alloc WN _).drew
   have an:W.heap[K (E r)]?=S (D #[Z Y (y:Int),Z Y (y:Int),J P Q R,Z Y V] 181 (0,0)):=by rw[I];exact T9 r _
   have ao:=dd ho B;refine(mz 0 (K (E r)) (J p (Xg T) u) T (Sn.dw T y) y ⟨P,Q,R,V⟩ W aa (Ud _) ao hl (λN=>by have:=(ho.lt _ N).2;omega) an).mono ?_;rintro e A ⟨v',rfl,ad,ae,af⟩;have X:A.heap[b]?=S (D C q (0,0)):=by
    rw[ae.block b (by have:=B.size;omega) (λN=>t N.symm),B.block b ak];exact hu
   have ag:A.cell? ⟨b,o,U⟩=S (J p (Xg T) u):=by rw[T5 A b o _ _ _ X];exact(cS l).at_
   have ah:A.frozen? ⟨b,o,U⟩=W9:=by simp[World.frozen?,X]
   obtain⟨M,j,rfl,_⟩:=Dk.dm ad;refine⟨M,j,O,ag,ah,?_⟩
   show dN _ _ _ _ _ _ _ _ _
   have aq:Kept w A (λk=>k≠b/\(Value.slice p (Xg T) u).ownBlock≠S k):=(Kept.below z _).trans ((Kept.below B _).trans (Kept.grown ae (λk hk=>hk.2)));have av:K (E r)<=K (E W):=B.size;have ai:(Value.slice M (Xg T+1) j).ownBlock=(Value.slice p (Xg T) u).ownBlock\/∃g,(Value.slice M (Xg T+1) j).ownBlock=S g/\(K (E w))<=g:=by
    rcases af with e|e
    .exact Xa e
    .exact Xb ⟨_,e,by omega⟩
   refine⟨?_,?_,aq.setCell (λhk=>hk.1 O) _,ai⟩
   .rw[Ue A b o _ _ _ X]
   .rw[Sn.iP];refine U1 ad (λN=>?_) _;rcases af with e|e
    .rw[e] at N;exact t N
    .rw[e] at N;have:K (E W)=b:=Ut N;omega
  have ar:Hid (∀(args:Array WS) (w:WR),(callFunc 84 args).run prog w=.ok (.enter 84 args) w):=cZ func84 (by kernel_rfl) (by kernel_rfl);clear hu ho L E1 l z;go_upto_region 4 with fail
  go_region_law (refine du (by rfl) _ _ _ (by rfl) 84 (by rfl) _ (by rfl) (cS ar) ((cS ab) _ O) ?_;rintro e A ⟨M,j,rfl,ag,ah,HT⟩;dsimp only)
  all_goals
   go_wp2;go_ret;exact⟨O,_,cS HT⟩
end Rt
namespace Rt
open Go.RowKit Dk
theorem qq(w:WR)(g o c:Nat)(b:Array WS)(u:TypeId)(y:w.heap[g]?=S (D b 181 (0,0)))(e:o+4<=b.size):(Builtin.clear_ #[109] u #[J (S ⟨g,o,U⟩) 1 c]).run prog w=.ok (WX #[]) (w.setRow g (Dk.kA b.toList o [Z Y 0,Z Y 0,J U 0 0,Z Y 0]).toArray):=by
 obtain⟨B,hi,l,z,A⟩:=UB info_centry;have j:=run_storeCells_at prog g o 181 [Z Y 0,Z Y 0,J U 0 0,Z Y 0] 0 b w y (by simpa using e) (by intro v r;simp at r;rcases r with rfl|rfl|rfl <;> rfl);have m:(Builtin.zeroCells (Value.agg #[Z Y 0,Z Y 0,J U 0 0,Z Y 0]).cells 1).toList=[Z Y 0,Z Y 0,J U 0 0,Z Y 0]:=by simp[Builtin.zeroCells,Value.cells];rfl
 simp only[U9] at j;simp[Builtin.clear_,run_underlying underlying109,zeroValue,typeInfo,hi,l,m,j,Dk.kA]
theorem uU(T:Sn.Tb)(i:Nat):cU (T.eraseIdx i)=(cU T).take (i*4)++cU (T.drop (i+1)):=by
 rw[List.eraseIdx_eq_take_drop_succ,ki,oa]
theorem qA(g cap i:Nat)(b:Array WS)(T:Sn.Tb)(w:WR)(hi:i<Xg T)(au:Xg T<=cap)(ab:cap<=maxLen)(hl:Xg T<=1000000000)(hg:w.heap[g]?=S (D b 181 (0,0)))(ad:b.size=cap*4)(r:b.toList.take (Xg T*4)=cU T):WT prog 207 #[J (S ⟨g,0,U⟩) (Xg T) cap,Z Y i,Z Y ((i:Int)+1)] w λe w'=>e=WZ (J (S ⟨g,0,U⟩) (Xg T-1) cap)/\
   w'.ownsRow 0 181 4 (J (S ⟨g,0,U⟩) (Xg T-1) cap) (Xg T-1) (cU (T.eraseIdx i))/\w.grownBy w' (S g):=by
 obtain⟨i0,aj,av,p,aw⟩:=UB info_centry;obtain⟨B,z⟩:∃B,B=cU (T.drop (i+1)):=⟨_,rfl⟩
 have ae:Xg B=(Xg T-(i+1))*4:=by rw[z,eJ,Vb]
 have af:Xg b.toList=cap*4:=by simpa using ad
 obtain⟨C,G⟩:∃C,C=Dk.kA b.toList (i*4) B:=⟨_,rfl⟩
 have M:Xg C=cap*4:=by rw[G,Dk.fZ _ _ _ (by omega)];exact af
 have ag:∀v∈B,v.oneCell'=W8:=λv hv=>my (T.drop (i+1)) v (by rw[<-z];exact hv)
 have A:∀j v,B[j]?=S v->w.cell? ⟨g,(i+1)*4+j,U⟩=S v:=λj v hj=>by
  have ak:j<Xg B:=(VU.1 hj).1;rw[T5 w g _ _ _ _ hg];rw[z,<-od,<-r,VG,VP,T0 (by omega)] at hj;simpa using hj
 have o:∀l N m,(N=(i+1)*4\/Xg T-(i+1)=0)->(Builtin.append_ #[109,109] l #[J (S ⟨g,0,U⟩) i cap,J (S ⟨g,N,U⟩) (Xg T-(i+1)) m]).run prog w.drew=.ok (J (S ⟨g,0,U⟩) (Xg T-1) cap) (w.drew.setRow g C.toArray):=λl N m ho=>by
  have h:=run_append_room (P:=prog) w.drew 109 l 181 i0 underlying109 aj g i cap b hg ⟨g,N,U⟩ (Xg T-(i+1)) m B (by rw[p];exact ae)
   (λj v hj=>by
     rcases ho with rfl|h0
     .rw[Vo];exact A j v hj
     .have ak:j<Xg B:=(VU.1 hj).1;omega) ag (by omega) (by rw[p];omega)
  rw[h,p,G];have e:i+(Xg T-(i+1))=Xg T-1:=by omega
  rw[e]
  rfl
 have I:(w.drew.setRow g C.toArray).heap[g]?=S (D C.toArray 181 (0,0)):=U8 w.drew g b _ _ _ hg;obtain⟨y,u⟩:∃y,y=w.drew.setRow g C.toArray:=⟨_,rfl⟩
 rw[<-u] at o I;obtain⟨F,L⟩:∃F,F=Dk.kA C ((Xg T-1)*4) [Z Y 0,Z Y 0,J U 0 0,Z Y 0]:=⟨_,rfl⟩
 have Q:Xg F=cap*4:=by rw[L,Dk.fZ _ _ _ (by simp;omega)];exact M
 have R:∀(W:WR),W=y->∀l m,(Builtin.clear_ #[109] l #[J (S ⟨g,(Xg T-1)*4,U⟩) 1 m]).run prog W=.ok (WX #[]) (y.setRow g F.toArray):=λW hW l m=>by
  subst hW;have h:=qq W g ((Xg T-1)*4) m C.toArray l I (by simp;omega);rw[h,L]
 have V:F.take ((Xg T-1)*4)=cU (T.eraseIdx i):=by
  have e1:F.take ((Xg T-1)*4)=C.take ((Xg T-1)*4):=by
   rw[L];unfold Dk.kA;rw[UO,Vk (by simp;omega),Vx,Nat.min_self]
  rw[e1,uU,<-z,G];unfold Dk.kA;have e2:b.toList.take (i*4)=(cU T).take (i*4):=by rw[<-r,Vx,V2 (by omega)]
  have e3:(Xg T-1)*4=(b.toList.take (i*4)++B).length:=by simp;omega
  rw[e3,List.take_left,e2]
 have X:∀W,W=y.setRow g F.toArray->W.ownsRow 0 181 4 (J (S ⟨g,0,U⟩) (Xg T-1) cap) (Xg T-1) (cU (T.eraseIdx i))/\w.grownBy W (S g):=λW hW=>by
  rw[hW];refine⟨⟨by rw[eJ,List.length_eraseIdx,T0 hi],.inr ⟨g,cap,F.toArray,O,Ud _,U8 y g _ _ _ _ I,by omega,ab,by simpa using Q,by simpa using V⟩⟩,?_⟩;refine⟨by rw[u];rfl,by rw[u];rfl,by rw[u];rfl,by rw[u];simp[World.setRow],λk hk an=>?_⟩;have q:k≠g:=λe=>an (by rw[e])
  rw[U5 y g k _ q,u,U5 w.drew g k _ q];rfl
 have t:=cT X;have ah:=cT o;have s:=cT R;unfold maxLen at ab;have ax:(i:Int)<(Xg T:Int):=by omega
 clear X o R V A z ae G L M Q hg ad r I u ag af;by_cases ao:i+1=cap
 .subst ao;have q3:i+1<=Xg T:=by omega
  have q4:(i:Int)+1<=(Xg T:Int):=by omega
  have q5:((i:Int)+1).toNat=i+1:=by omega
  have q6:(0:Int)<=(i:Int)+1:=by omega
  have q7:(Xg T:Int)<=((i+1:Nat):Int):=by omega
  have q8:¬(i+1=Xg T-1):=by omega
  have q9:(i:Int)<=(i:Int)+1:=by omega
  have ai:∀l N m,(Builtin.append_ #[109,109] l #[J (S ⟨g,0,U⟩) i (i+1),J (S ⟨g,N,U⟩) 0 m]).run prog w.drew=.ok (J (S ⟨g,0,U⟩) (Xg T-1) (i+1)) y:=λl N m=>by
   have h:=(cS ah) l N m (Xb (by omega));rw[show (Xg T)-(i+1)=0 by omega] at h;exact h
  have aq:=cT ai;clear ai;go_enter func207,ntmps207;go_wp2_with fail
  go_region_law (refine iS rfl (.tmp 22) (.tmp 25) 109 109 rfl _ _ (by first|rfl|(simp[Act.eval,Act.put];done)|(simp[Act.eval,Act.put];rfl)) (by first|rfl|(simp[Act.eval,Act.put];done)|(simp[Act.eval,Act.put];rfl)) ((cS aq) _ _ _) ?_)
  all_goals
   have aa:∀l m,(Builtin.clear_ #[109] l #[J (S ⟨g,(Xg T-1)*4,U⟩) (Xg T-(Xg T-1)) m]).run prog y=.ok (WX #[]) (y.setRow g F.toArray):=λl m=>by
    rw[show (Xg T)-(Xg T-1)=1 by omega];exact(cS s) y O l m
   go_wp2;go_ret;exact⟨O,(cS t) _ O⟩
 .have ar:¬(cap=i+1):=by omega
  have q0:¬(cap=i):=by omega
  have q1:i<=cap:=by omega
  have q2:(i:Int)<=(cap:Int):=by omega
  have q3:i+1<=Xg T:=by omega
  have q4:(i:Int)+1<=(Xg T:Int):=by omega
  have q5:((i:Int)+1).toNat=i+1:=by omega
  have q6:(0:Int)<=(i:Int)+1:=by omega
  have q7:(Xg T:Int)<=(cap:Int):=by omega
  have q8:¬(cap=Xg T-1):=by omega
  go_enter func207,ntmps207;go_wp2_with fail
  go_region_law (refine iS rfl (.tmp 22) (.tmp 25) 109 109 rfl _ _ (by first|rfl|(simp[Act.eval,Act.put];done)|(simp[Act.eval,Act.put];rfl)) (by first|rfl|(simp[Act.eval,Act.put];done)|(simp[Act.eval,Act.put];rfl)) ((cS ah) _ _ _ (Xa O)) ?_)
  all_goals
   have aa:∀l m,(Builtin.clear_ #[109] l #[J (S ⟨g,(Xg T-1)*4,U⟩) (Xg T-(Xg T-1)) m]).run prog y=.ok (WX #[]) (y.setRow g F.toArray):=λl m=>by
    rw[show (Xg T)-(Xg T-1)=1 by omega];exact(cS s) y O l m
   go_wp2;go_ret;exact⟨O,(cS t) _ O⟩
end Rt
namespace Rt
open Go.RowKit Dk
theorem kt(b o:Nat)(C:Array WS)(G:TypeId)(v:WS)(T:Sn.Tb)(y:Nat)(w:WR)(h:eT w b o C G v T)(R:v.ownBlock≠S b):WT prog 131 #[WV (S ⟨b,o,U⟩),Z Y (y:Int)] w λe w'=>e=WZ (WX #[])/\∃v',dN w w' b o C G v v' (Sn.gM T y):=by
 have V:o<C.size:=(Ug.1 h.at_).1;cases hh:Sn.dF T y with
 |false =>
  have I:Sn.gM T y=T:=by unfold Sn.gM;rw[hh];rfl
  rw[I];have W:=cT hh;have l:=cT h;clear hh h I;go_enter func131,ntmps131;go_wp2_with fail;refine(fY b o C G v T y w (cS l)).mono ?_;rintro e w' ⟨rfl,F⟩;rw[cS W];go_wp2;have u:=(cS l).below F;refine Ub (Ua O _ _ _) O ⟨O,v,?_,u.row,Kept.below F _,Xa O⟩;rw[u.blk];have:C.setIfInBounds o v=C:=by
   have hv:=(Ug.1 u.at_).2;rw[<-hv];simp[Array.setIfInBounds,V]
  rw[this]
 |true =>
  obtain⟨X,_,_⟩:=Sn.gn h.me hh;have I:Sn.gM T y=T.eraseIdx (Sn.dw T y):=by unfold Sn.gM;rw[hh];rfl
  rw[I];have W:=cT hh;have l:=cT h;have hl:=h.len;clear hh h I;go_enter func131,ntmps131;go_wp2_with fail;refine(fY b o C G v T y w (cS l)).mono ?_;rintro e w1 ⟨rfl,F⟩;rw[cS W];have u:=(cS l).below F;have hc:=u.cell;rcases u.row.2 with ⟨_,h0⟩|⟨g,z,q,rfl,_,L,t,s,M,N⟩
  .omega
  .have P:S b≠(Value.slice (S ⟨g,0,U⟩) (Xg T) z).ownBlock:=λe=>R e.symm
   generalize hI:Sn.dw T y=i at X ⊢;have B:=qA g z i q T w1 X t s hl L M N;have HB:=cT u.blk;have p:=cT F;have aa:b<K (E w1):=UW u.blk;have HI:=cT hI;clear u L M N hI F;go_wp2_with fail;refine B.mono ?_;rintro e Q ⟨rfl,A,r⟩;have m:Q.heap[b]?=S (D C G (0,0)):=(r.block b aa (λe=>P e)).trans (cS HB);have ab:Q.cell? ⟨b,o,U⟩=S (J (S ⟨g,0,U⟩) (Xg T) z):=by rw[T5 Q b o _ _ _ m];exact(cS l).at_
   have ad:Q.frozen? ⟨b,o,U⟩=W9:=by simp[World.frozen?,m]
   have j:=cT (And.intro A (And.intro r m));clear A r m B hc;go_wp2;obtain⟨A,r,m⟩:=cS j;refine Ub (Ua O _ _ _) O ⟨O,J (S ⟨g,0,U⟩) (Xg T-1) z,?_,?_,?_,Xa O⟩
   .rw[Ue Q b o _ _ _ m]
   .rw[cS HI,List.length_eraseIdx,T0 X];exact U1 A (λe=>P e.symm) _
   .exact((Kept.below (cS p) _).trans (Kept.grown r (λk hk=>hk.2))).setCell (λhk=>hk.1 O) _
end Rt
namespace Rt
open Go.RowKit Dk
theorem Fv(b o:Nat)(C:Array WS)(j:TypeId)(v:WS)(T:Sn.Tb)(w:WR)(h:eT w b o C j v T):WT prog 87 #[WV (S ⟨b,o,U⟩)] w λe l=>e=WZ (Z Y (Xg T))/\l=w:=by
 obtain⟨p,m,rfl,r⟩:=dS h.row;have u:=h.cell;clear h r;go_enter func87,ntmps87;go_wp2;go_ret;exact⟨O,O⟩
def vT:WS := WY #[Z Y 0,J U 0 0,Z Y 0]
theorem iD{W:WR}{B b j:Nat}{x y z:WS}(h:b≠B):(((W.setCell ⟨B,0,U⟩ x).setCell ⟨B,1,U⟩ y).setCell ⟨B,2,U⟩ z).drew.cell? ⟨b,j,U⟩=W.cell? ⟨b,j,U⟩:=by
 refine Vs (w:=W) (a:=⟨b,j,U⟩) ?_
 show (((W.setCell ⟨B,0,U⟩ x).setCell ⟨B,1,U⟩ y).setCell ⟨B,2,U⟩ z).heap[b]?=W.heap[b]?
 rw[Uj _ _ _ b h,Uj _ _ _ b h,Uj _ _ _ b h]
theorem FF(l o:Nat)(C:Array WS)(tD:TypeId)(v:WS)(T:Sn.Tb)(i k:Nat)(x:Sn.Ce)(w:WR)(h:eT w l o C tD v T)(hi:T[i]?=S (k,x)):WT prog 129 #[WV (S ⟨l,o,U⟩),Z Y i] w λe y=>e=WZ (WX #[Z Y (k:Int),lj k x,WW W8])/\WQ w y:=by
 obtain⟨p,N,rfl,t⟩:=dS h.row;have s:=h.cell;have hD:l≠(K (E w)):=Nat.ne_of_lt (UW h.blk);have hl:=h.len;obtain⟨P,B⟩:=VU.1 hi;obtain⟨g,rfl,A,G,I,L⟩:=t i P;rw[B] at A G I L;obtain⟨q,Q,R,V⟩:=x;dsimp only at A G I L;have M:g≠(K (E w)):=Nat.ne_of_lt (Ui w _ A);have F:Hid (∀W,W=w.alloc (D #[Z Y 0,J U 0 0,Z Y 0] 80)->W.heap[K (E w)]?=S (D #[Z Y 0,J U 0 0,Z Y 0] 80 (0,0))/\WQ w W):=by
  show ∀W,_
  rintro W rfl;exact⟨T9 w _,(T4 _ w).alloc WN _⟩
 have X:=UW h.blk;have u:=Ui w _ A;clear h t B hi;unfold lj;dsimp only;have aa:(0:Int)<=(i:Int):=by omega
 have ab:¬(i:Int)<0:=by omega
 have ad:¬(Xg T:Int)<=(i:Int):=by omega
 have ae:(i:Int)<(Xg T:Int):=by omega
 go_enter func129,ntmps129;go_upto_region 4 with fail;generalize hW:Xe _ _=r;obtain⟨m,z⟩:=cS F r hW.symm;clear hW F;have f:∀{j:Nat} {b:Nat} {x:WS},b<K (E w)->w.cell? ⟨b,j,U⟩=S x->r.cell? ⟨b,j,U⟩=S x:=λ{j b x} hb h=>(z.cell (p:=⟨b,j,U⟩) hb).trans h
 replace s:=f X s;replace A:=f u A;replace G:=f u G;replace I:=f u I;replace L:=f u L;have r0:r.cell? ⟨K (E w),0,U⟩=S (Z Y 0):=by rw[T5 r _ 0 _ _ _ m];rfl
 have r1:r.cell? ⟨K (E w),1,U⟩=S (J U 0 0):=by rw[T5 r _ 1 _ _ _ m];rfl
 have r2:r.cell? ⟨K (E w),2,U⟩=S (Z Y 0):=by rw[T5 r _ 2 _ _ _ m];rfl
 have g0:r.frozen? ⟨K (E w),0,U⟩=W9:=by simp[World.frozen?,m]
 have g1:r.frozen? ⟨K (E w),1,U⟩=W9:=by simp[World.frozen?,m]
 have g2:r.frozen? ⟨K (E w),2,U⟩=W9:=by simp[World.frozen?,m]
 have HF:Hid (WQ w (((r.drew.setCell ⟨K (E w),0,U⟩ (Z Y (k:Int))).setCell ⟨K (E w),1,U⟩ (J q Q R)).setCell ⟨K (E w),2,U⟩ (Z Y V))):=((z.drew.setCell (p:=⟨K (E w),0,U⟩) WN _).setCell (p:=⟨K (E w),1,U⟩) WN _).setCell (p:=⟨K (E w),2,U⟩) WN _;clear f z m
 go_region_held3 (λy=>y.cell? ⟨l,o,U⟩=S (J (S ⟨g,0,U⟩) (Xg T) N)/\y.cell? ⟨g,i*4,U⟩=S (Z Y (k:Int))/\y.cell? ⟨g,i*4+1,U⟩=S (Z Y (k:Int))/\y.cell? ⟨g,i*4+2,U⟩=S (J q Q R)/\y.cell? ⟨g,i*4+3,U⟩=S (Z Y V))
  (first|(exact⟨by assumption,by assumption,by assumption,by assumption,by assumption⟩)|(exact⟨(iD hD).trans (by assumption),(iD M).trans (by assumption),(iD M).trans (by assumption),(iD M).trans (by assumption),(iD M).trans (by assumption)⟩)|(go_keep;done))
  (first|fail)
 all_goals
  go_wp2;exact T8 (v := WX #[Z Y (k:Int),WY #[Z Y (k:Int),J q Q R,Z Y V],WW W8]) (by simp[results,results129,go_sem,r0,r1,r2]) O ⟨O,cS HF⟩
theorem Nr(b o:Nat)(C:Array WS)(F:TypeId)(v:WS)(w:WR)(h:eT w b o C F v []):WT prog 129 #[WV (S ⟨b,o,U⟩),Z Y (-1)] w λe r=>e=WZ (WX #[Z Y 0,vT,WW W9])/\WQ w r:=by
 clear h;have y:Hid (∀W u,W=w.alloc (D #[Z Y 0,J U 0 0,Z Y 0] 80)->u=W.alloc (D #[Z Y 0,Z Y 0,J U 0 0,Z Y 0] 181)->u.heap[K (E w)]?=S (D #[Z Y 0,J U 0 0,Z Y 0] 80 (0,0))/\u.heap[K (E w)+1]?=S (D #[Z Y 0,Z Y 0,J U 0 0,Z Y 0] 181 (0,0))/\WQ w u):=by
  show ∀W u,_
  rintro W u rfl rfl;refine⟨?_,?_,?_⟩
  .rw[Ur _ _ _ (by simp)];exact T9 w _
  .rw[<-Uv w (D #[Z Y 0,J U 0 0,Z Y 0] 80)];exact T9 _ _
  .exact((T4 _ w).alloc WN _).alloc (by simp) _
 unfold vT;have A:K (E w)+1≠(K (E w)):=by omega
 go_enter func129,ntmps129;go_upto_region 3 with fail;generalize B:Xe (Xe _ _) _=j;obtain⟨l,m,z⟩:=cS y _ j rfl B.symm;clear B y;have G:j.cell? ⟨K (E w),0,U⟩=S (Z Y 0):=by rw[T5 j _ 0 _ _ _ l];rfl
 have I:j.cell? ⟨K (E w),1,U⟩=S (J U 0 0):=by rw[T5 j _ 1 _ _ _ l];rfl
 have L:j.cell? ⟨K (E w),2,U⟩=S (Z Y 0):=by rw[T5 j _ 2 _ _ _ l];rfl
 have N:j.frozen? ⟨K (E w),0,U⟩=W9:=by simp[World.frozen?,l]
 have P:j.frozen? ⟨K (E w),1,U⟩=W9:=by simp[World.frozen?,l]
 have Q:j.frozen? ⟨K (E w),2,U⟩=W9:=by simp[World.frozen?,l]
 have R:j.cell? ⟨K (E w)+1,0,U⟩=S (Z Y 0):=by rw[T5 j _ 0 _ _ _ m];rfl
 have T:j.cell? ⟨K (E w)+1,1,U⟩=S (Z Y 0):=by rw[T5 j _ 1 _ _ _ m];rfl
 have V:j.cell? ⟨K (E w)+1,2,U⟩=S (J U 0 0):=by rw[T5 j _ 2 _ _ _ m];rfl
 have X:j.cell? ⟨K (E w)+1,3,U⟩=S (Z Y 0):=by rw[T5 j _ 3 _ _ _ m];rfl
 have M:Hid (WQ w (((j.drew.setCell ⟨K (E w),0,U⟩ (Z Y 0)).setCell ⟨K (E w),1,U⟩ (J U 0 0)).setCell ⟨K (E w),2,U⟩ (Z Y 0))):=((z.drew.setCell (p:=⟨K (E w),0,U⟩) WN _).setCell (p:=⟨K (E w),1,U⟩) WN _).setCell (p:=⟨K (E w),2,U⟩) WN _;clear z l m
 go_region_held3 (λr=>r.cell? ⟨K (E w)+1,0,U⟩=S (Z Y 0)/\r.cell? ⟨K (E w)+1,1,U⟩=S (Z Y 0)/\r.cell? ⟨K (E w)+1,2,U⟩=S (J U 0 0)/\r.cell? ⟨K (E w)+1,3,U⟩=S (Z Y 0))
  (first|(exact⟨by assumption,by assumption,by assumption,by assumption⟩)|(exact⟨(iD A).trans (by assumption),(iD A).trans (by assumption),(iD A).trans (by assumption),(iD A).trans (by assumption)⟩)|(go_keep;done))
  (first|fail)
 all_goals
  go_wp2;exact T8 (v := WX #[Z Y 0,WY #[Z Y 0,J U 0 0,Z Y 0],WW W9]) (by simp[results,results129,go_sem,G,I,L]) O ⟨O,cS M⟩
theorem Gj(b o:Nat)(C:Array WS)(G:TypeId)(v:WS)(T:Sn.Tb)(k:Nat)(x:Sn.Ce)(w:WR)(h:eT w b o C G v ((k,x)::T)):WT prog 130 #[WV (S ⟨b,o,U⟩)] w λe M=>e=WZ (WX #[Z Y (k:Int),lj k x,WW W8])/\WQ w M:=by
 have m:=cT h;have B:Hid (∀W,W=w.alloc (D #[Z Y 0,J U 0 0,Z Y 0] 80)->W.heap[K (E w)]?=S (D #[Z Y 0,J U 0 0,Z Y 0] 80 (0,0))/\WQ w W):=by
  show ∀W,_
  rintro W rfl;exact⟨T9 w _,(T4 _ w).alloc WN _⟩
 clear h;go_enter func130,ntmps130;go_wp2_with fail;generalize I:Xe _ _=L;obtain⟨r,l⟩:=cS B L I.symm;clear I B;refine(FF b o C G v ((k,x)::T) 0 k x L ((cS m).below l) O).mono ?_;rintro e j ⟨rfl,u⟩;have A:=(u.block _ (UW r)).trans r;have N:j.cell? ⟨K (E w),0,U⟩=S (Z Y 0):=by rw[T5 j _ 0 _ _ _ A];rfl
 have P:j.cell? ⟨K (E w),1,U⟩=S (J U 0 0):=by rw[T5 j _ 1 _ _ _ A];rfl
 have Q:j.cell? ⟨K (E w),2,U⟩=S (Z Y 0):=by rw[T5 j _ 2 _ _ _ A];rfl
 have s:j.frozen? ⟨K (E w),0,U⟩=W9:=by simp[World.frozen?,A]
 have g:j.frozen? ⟨K (E w),1,U⟩=W9:=by simp[World.frozen?,A]
 have g2:j.frozen? ⟨K (E w),2,U⟩=W9:=by simp[World.frozen?,A]
 have F:=l.trans (u.mono l.size);have R:Hid (∀x y z:WS,WQ w (((j.setCell ⟨K (E w),0,U⟩ x).setCell ⟨K (E w),1,U⟩ y).setCell ⟨K (E w),2,U⟩ z)):=λx y z =>
  ((F.setCell (p:=⟨K (E w),0,U⟩) WN _).setCell (p:=⟨K (E w),1,U⟩) WN _).setCell (p:=⟨K (E w),2,U⟩) WN _
 clear u l r A F m;obtain⟨q,V,X,t⟩:=x;unfold lj;dsimp only;go_wp2;exact T8 (v := WX #[Z Y (k:Int),WY #[Z Y (k:Int),J q V X,Z Y t],WW W8]) (by simp[results,results130,go_sem,N,P,Q]) O ⟨O,cS R _ _ _⟩
theorem GN(b o:Nat)(C:Array WS)(G:TypeId)(v:WS)(w:WR)(h:eT w b o C G v []):WT prog 86 #[WV (S ⟨b,o,U⟩)] w λe M=>e=WZ (WX #[Z Y 0,vT,WW W9])/\WQ w M:=by
 have m:=cT h;obtain⟨p,N,rfl,P⟩:=dS h.row;have q:=h.cell;have Q:=UW h.blk;clear P;have B:Hid (∀W,W=w.alloc (D #[Z Y 0,J U 0 0,Z Y 0] 80)->W.heap[K (E w)]?=S (D #[Z Y 0,J U 0 0,Z Y 0] 80 (0,0))/\WQ w W):=by
  show ∀W,_
  rintro W rfl;exact⟨T9 w _,(T4 _ w).alloc WN _⟩
 clear h;go_enter func86,ntmps86;go_wp2_with fail;generalize I:Xe _ _=L;obtain⟨r,l⟩:=cS B L I.symm;clear I B;refine(Nr b o C G _ L ((cS m).below l)).mono ?_;rintro e j ⟨rfl,u⟩;have A:=(u.block _ (UW r)).trans r;have R:j.cell? ⟨K (E w),0,U⟩=S (Z Y 0):=by rw[T5 j _ 0 _ _ _ A];rfl
 have T:j.cell? ⟨K (E w),1,U⟩=S (J U 0 0):=by rw[T5 j _ 1 _ _ _ A];rfl
 have V:j.cell? ⟨K (E w),2,U⟩=S (Z Y 0):=by rw[T5 j _ 2 _ _ _ A];rfl
 have t:j.frozen? ⟨K (E w),0,U⟩=W9:=by simp[World.frozen?,A]
 have s:j.frozen? ⟨K (E w),1,U⟩=W9:=by simp[World.frozen?,A]
 have g:j.frozen? ⟨K (E w),2,U⟩=W9:=by simp[World.frozen?,A]
 have F:=l.trans (u.mono l.size);have X:Hid (∀x y z:WS,WQ w (((j.setCell ⟨K (E w),0,U⟩ x).setCell ⟨K (E w),1,U⟩ y).setCell ⟨K (E w),2,U⟩ z)):=λx y z =>
  ((F.setCell (p:=⟨K (E w),0,U⟩) WN _).setCell (p:=⟨K (E w),1,U⟩) WN _).setCell (p:=⟨K (E w),2,U⟩) WN _
 clear u l r A F m;unfold vT;go_wp2;exact T8 (v := WX #[Z Y 0,WY #[Z Y 0,J U 0 0,Z Y 0],WW W9]) (by simp[results,results86,go_sem,R,T,V]) O ⟨O,cS X _ _ _⟩
theorem Hd(b o:Nat)(C:Array WS)(I:TypeId)(v:WS)(T:Sn.Tb)(k:Nat)(x:Sn.Ce)(w:WR)(h:eT w b o C I v (T++[(k,x)])):WT prog 86 #[WV (S ⟨b,o,U⟩)] w λe N=>e=WZ (WX #[Z Y (k:Int),lj k x,WW W8])/\WQ w N:=by
 have m:=cT h;obtain⟨p,P,rfl,Q⟩:=dS h.row;have R:=h.cell;have V:=h.len;have X:=UW h.blk;have B:(T++[(k,x)]).length=Xg T+1:=by simp
 rw[B] at R V;clear Q;have F:Hid (∀W,W=w.alloc (D #[Z Y 0,J U 0 0,Z Y 0] 80)->W.heap[K (E w)]?=S (D #[Z Y 0,J U 0 0,Z Y 0] 80 (0,0))/\WQ w W):=by
  show ∀W,_
  rintro W rfl;exact⟨T9 w _,(T4 _ w).alloc WN _⟩
 clear h;go_enter func86,ntmps86;go_wp2_with fail;generalize L:Xe _ _=M;obtain⟨r,l⟩:=cS F M L.symm;clear L F;refine(FF b o C I _ (T++[(k,x)]) (Xg T) k x M ((cS m).below l) (by simp)).mono ?_;rintro e j ⟨rfl,u⟩;have A:=(u.block _ (UW r)).trans r;have t:j.cell? ⟨K (E w),0,U⟩=S (Z Y 0):=by rw[T5 j _ 0 _ _ _ A];rfl
 have s:j.cell? ⟨K (E w),1,U⟩=S (J U 0 0):=by rw[T5 j _ 1 _ _ _ A];rfl
 have g:j.cell? ⟨K (E w),2,U⟩=S (Z Y 0):=by rw[T5 j _ 2 _ _ _ A];rfl
 have g0:j.frozen? ⟨K (E w),0,U⟩=W9:=by simp[World.frozen?,A]
 have g1:j.frozen? ⟨K (E w),1,U⟩=W9:=by simp[World.frozen?,A]
 have g2:j.frozen? ⟨K (E w),2,U⟩=W9:=by simp[World.frozen?,A]
 have G:=l.trans (u.mono l.size);have HF:Hid (∀x y z:WS,WQ w (((j.setCell ⟨K (E w),0,U⟩ x).setCell ⟨K (E w),1,U⟩ y).setCell ⟨K (E w),2,U⟩ z)):=λx y z =>
  ((G.setCell (p:=⟨K (E w),0,U⟩) WN _).setCell (p:=⟨K (E w),1,U⟩) WN _).setCell (p:=⟨K (E w),2,U⟩) WN _
 clear u l r A G m;obtain⟨q,qn,qc,al⟩:=x;unfold lj;dsimp only;go_wp2;exact T8 (v := WX #[Z Y (k:Int),WY #[Z Y (k:Int),J q qn qc,Z Y al],WW W8]) (by simp[results,results86,go_sem,t,s,g]) O ⟨O,cS HF _ _ _⟩
end Rt
namespace Rt
open Go.RowKit Dk Go.Shelf
attribute [local go_sem] Oper.semAt_some
theorem qw(F:Fence)(n:Nat)(j:F.fn 132)(b:F.round=U)(p0:Option Addr)(w:WR):CallsIn F n prog 132 #[WV p0] w λe l=>e=WZ (.func (.func 208) #[] #[WV (S ⟨K (E w),0,U⟩)])/\l=w.alloc (D #[WV p0] 177):=by
 refine callsIn_of_wp func132 O j ?_ b;simp only[ntmps132,VD,Uf,Vl,Nat.reduceAdd,Nat.reduceSub,VJ,VK,VL,VM,U2,UM]
 gi_wp2
 go_ret;exact⟨O,O⟩
theorem rC(F:Fence)(n:Nat)(h8:F.fn 208)(R:F.round=U)(hn:1<=n)(l s b o N:Nat)(P:Nat->Prop)(p:Option Addr)(cap:Nat)(T:Sn.Tb)(hl:Xg T<=1000000000)(m Jx:List { x:Nat × Sn.Ce // x∈T }->WR->Prop)(hY:∀u x W,m u W->Xg u<Xg T->YieldAt F (n-1) prog l #[Z Y (x.1.1:Int),lj x.1.1 x.1.2] W λe C => (e=WZ (WW W8)/\m (u++[x]) C/\fU N P W C)\/(e=WZ (WW W9)/\Jx (u++[x]) C))(W:WR)(hN:N<=K (E W))(V:AbidesFrom (K (E W)) m)(ab:W.cell? ⟨s,0,U⟩=S (WV (S ⟨b,o,U⟩)))(ht:W.cell? ⟨b,o,U⟩=S (J p (Xg T) cap))(hc:∀j (hj:j<Xg T),∃g,p=S ⟨g,0,U⟩/\g<N/\P g/\W.cell? ⟨g,j*4,U⟩=S (Z Y (T[j].1:Int))/\W.cell? ⟨g,j*4+1,U⟩=S (Z Y (T[j].1:Int))/\W.cell? ⟨g,j*4+2,U⟩=S (J T[j].2.p T[j].2.n T[j].2.c)/\W.cell? ⟨g,j*4+3,U⟩=S (Z Y T[j].2.al))(h0:m [] W):CallsIn F n prog 208 #[.func (.yield l) #[] #[],WV (S ⟨s,0,U⟩)] W λe C=>(∃v,e=WZ v)/\
   ((∃ys,ys=T.attach/\m ys C)\/(∃u,u <+: T.attach/\Jx u C)):=by
 refine callsIn_of_wp func208 O h8 ?_ R;simp only[ntmps208,VD,Uf,Vl,Nat.reduceAdd,Nat.reduceSub,VJ,VK,VL,VM,U2,UM]
 gi_wp2
 gi_loopw [10] (λi wr=>∃k:Nat,k<=Xg T/\i=Z Y k/\Hid (m (T.attach.take k) wr)/\fU N P W wr)
  (λi _=>Xg T-(intOf i).toNat)
 case atStart=>exact⟨0,Ud _,rfl,h0,fU.refl _ _ _⟩
 case round =>
  obtain⟨k,hk,rfl,HJ,y⟩:=hrel;by_cases X:k<Xg T
  .obtain⟨g,rfl,Q,z,c0,c1,c2,c3⟩:=hc k X;have d0:=(y.cell (p:=⟨g,k*4,U⟩) Q z).trans c0;have d1:=(y.cell (p:=⟨g,k*4+1,U⟩) Q z).trans c1;have d2:=(y.cell (p:=⟨g,k*4+2,U⟩) Q z).trans c2;have d3:=(y.cell (p:=⟨g,k*4+3,U⟩) Q z).trans c3;have G:(k:Int)<(Xg T:Int):=by omega
   have ad:Xg T.attach=Xg T:=List.length_attach;obtain⟨x,q⟩:∃x,T.attach[k]'(by omega)=x:=⟨_,rfl⟩
   have I:T[k]=x.1:=by rw[<-q];simp
   rw[I] at d0 d1 d2 d3;have HX:=cT q;clear q c0 c1 c2 c3 I;have L:m (T.attach.take k) (wr.alloc (D #[Z Y (x.1.1:Int),Z Y (x.1.1:Int),J x.1.2.p x.1.2.n x.1.2.c,Z Y x.1.2.al] 181)):=V _ _ _ U (cS HJ) (World.grownBy_alloc _ _ U) (λr e=>by cases e);obtain⟨fn,aa,assign,body,hy,hR⟩:=hY _ x _ L (by rw[Vj];omega);clear L;unfold lj at hy
   gi_wp2
   refine hR.mono ?_;rintro e W3 (⟨rfl,M,t⟩|⟨rfl,A⟩)
   .have B:=cT M;clear M
    gi_wp2
    go_roundw
    case rel=>exact⟨k+1,by omega,by go_num,by show m _ _;rw[Vf (by omega),cS HX];exact cS B,y.trans (((fU.refl N P _).alloc (Uc hN y.size) _).trans t)⟩
    case measure=>simp[intOf];omega
   .have B:=cT A;clear A
    gi_wp2
    refine T8 (Ua O _ _ _) O ?_;exact⟨⟨_,O⟩,.inr ⟨_,⟨T.attach.drop (k+1),by rw[<-cS HX,<-Vf (by omega),U7]⟩,cS B⟩⟩
  .have G:¬(k:Int)<(Xg T:Int):=by omega
   obtain rfl:k=Xg T:=by omega
   gi_wp2
   go_end0
   exact⟨⟨_,O⟩,.inl (by have h:=cS HJ;rw[Vc (by rw[List.length_attach];omega)] at h;first|exact h|exact⟨_,rfl,h⟩)⟩
theorem kI(F:Fence)(n:Nat)(Q:F.fn 208)(B:F.round=U)(R:1<=n)(u b o N:Nat)(C:Nat->Prop)(p:Option Addr)(cap:Nat)(T:Sn.Tb)(V:Xg T<=1000000000)(w:WR)(y:u<K (E w))(z:N<=K (E w))(G:b<K (E w))(I:w.cell? ⟨u,0,U⟩=S (WV (S ⟨b,o,U⟩)))(ht:w.cell? ⟨b,o,U⟩=S (J p (Xg T) cap))(X:∀j (P:j<Xg T),∃g,p=S ⟨g,0,U⟩/\g<N/\C g/\w.cell? ⟨g,j*4,U⟩=S (Z Y (T[j].1:Int))/\w.cell? ⟨g,j*4+1,U⟩=S (Z Y (T[j].1:Int))/\w.cell? ⟨g,j*4+2,U⟩=S (J T[j].2.p T[j].2.n T[j].2.c)/\w.cell? ⟨g,j*4+3,U⟩=S (Z Y T[j].2.al)):SeqStopsK F n prog 208 #[WV (S ⟨u,0,U⟩)] (λx:{ x:Nat × Sn.Ce // x∈T }=>#[Z Y (x.1.1:Int),lj x.1.1 x.1.2]) (fU N C) (λk=>k=T.attach) (λL=>L <+: T.attach) (Xg T) w:=λl m q W r i _ h f =>
 rC F n Q B R l u b o N C p cap T V m q h W (Uc z r.size) i ((r.cell (p:=⟨u,0,U⟩) y).trans I) ((r.cell (p:=⟨b,o,U⟩) G).trans ht)
  (λj P=>by obtain⟨g,e,A,M,t,s,c2,c3⟩:=X j P;exact⟨g,e,A,M,(r.cell (p:=⟨g,j*4,U⟩) (Ux A z)).trans t,(r.cell (p:=⟨g,j*4+1,U⟩) (Ux A z)).trans s,(r.cell (p:=⟨g,j*4+2,U⟩) (Ux A z)).trans c2,(r.cell (p:=⟨g,j*4+3,U⟩) (Ux A z)).trans c3⟩) f
end Rt
end Go.Proofs.YtgkkdpegcieakaaGreatDoor
