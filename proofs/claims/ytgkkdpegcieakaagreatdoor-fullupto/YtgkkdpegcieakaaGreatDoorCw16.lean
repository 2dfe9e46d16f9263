import Derived.Test.YtgkkdpegcieakaaGreatDoorCw13
import Derived.Test.YtgkkdpegcieakaaGreatDoorCw07
set_option linter.all false
set_option maxRecDepth 100000
set_option maxHeartbeats 16000000
namespace Go.Proofs.YtgkkdpegcieakaaGreatDoor
open Go.Proofs.Tryz
open Value renaming int→Z,slice→J,string→H,pointer→WV,bool→WW,tuple→WX
open Ending renaming returned→WZ
open Obj renaming cells→D
open Option renaming none→U,some→S
open Bool renaming true→W8,false→W9
open Or renaming inl→Xa,inr→Xb
open List renaming length→Xg
open _root_.Array renaming size→K
open World renaming heap→E
open IntKind renaming i64→Y
open Go renaming World→WR,Value→WS,Calls→WT
open Go.RowKit
namespace Dk
theorem ts(x:WU)(w:WR):WT prog 236 #[H x] w λe b=>e=WZ (WW W9)/\b=w:=by
 have h:(x.toList == x.toList)=W8:=by simp
 go_enter func236,ntmps236;go_wp2;go_ret;exact⟨O,O⟩
def eD(f:Nat):WS := WV (S ⟨f,0,U⟩)
def ks(x y:WU):Int:=if Sd.lt x y=W8 then -1 else if Sd.lt y x=W8 then 1 else 0
theorem B5(x y:WU)(w:WR):WT prog 214 #[H x,H y] w λe j=>e=WZ (Z Y (ks x y))/\j=w:=by
 rcases Sd.qt x y with h|h|h
 .have b:ks x y = -1:=T0 h;have l:Op.bytesLess x.toList y.toList=W8:=h;rw[b];clear b h;go_enter func214,ntmps214;go_wp2_with (go_at_call 236;refine(ts _ _).mono ?_;rintro e j ⟨rfl,rfl⟩);go_ret;exact⟨O,O⟩
 .subst h;have b:ks x x=0:=by simp[ks,Sd.lt_irrefl]
  have l:Op.bytesLess x.toList x.toList=W9:=Sd.lt_irrefl x;have m:(x.toList == x.toList)=W8:=by simp
  rw[b];clear b;go_enter func214,ntmps214;go_wp2_with (go_at_call 236;refine(ts _ _).mono ?_;rintro e j ⟨rfl,rfl⟩);go_ret;exact⟨O,O⟩
 .have b:ks x y=1:=by unfold ks;rw[Sd.lt_asymm h,TZ (by decide),T0 h]
  have l:Op.bytesLess x.toList y.toList=W9:=Sd.lt_asymm h;have m:(x.toList == y.toList)=W9:=by
   apply WC.2;intro r;exact Sd.qW h (Sd.toList_inj (eq_of_beq r)).symm
  rw[b];clear b h;go_enter func214,ntmps214;go_wp2_with (go_at_call 236;refine(ts _ _).mono ?_;rintro e j ⟨rfl,rfl⟩);go_ret;exact⟨O,O⟩
theorem ij(a:WU)(v:WS)(y:WU)(w:WR):WT prog 213 #[.agg #[H a,v],H y] w λe b=>e=WZ (Z Y (ks a y))/\WQ w b:=by
 go_enter func213,ntmps213;go_wp2_with (go_at_call 214;refine(B5 _ _ _).mono ?_;rintro e b ⟨rfl,rfl⟩);go_ret;exact⟨O,WO.alloc WN _⟩
def iu(w:WR)(p:Option Addr)(T:Sd.Tb):Prop := ∀j (h:j<Xg T),∃g,p=S ⟨g,0,U⟩/\w.cell? ⟨g,j*2,U⟩=S (H (T[j]).1)/\w.cell? ⟨g,j*2+1,U⟩=S (eD (T[j]).2)
theorem iu.below{w w':WR}{p:Option Addr}{T:Sd.Tb}(h:iu w p T)(hb:WQ w w'):iu w' p T:=λj m=>by
 obtain⟨g,e,b,l⟩:=h j m;exact⟨g,e,(hb.cell (Ui w _ b)).trans b,(hb.cell (Ui w _ l)).trans l⟩
theorem mu(p:Option Addr)(cap:Nat)(T:Sd.Tb)(y:WU)(w:WR)(h:iu w p T)(W:Sd.di T)(hl:Xg T<=1000000000):WT prog 212 #[J p (Xg T) cap,H y,.func (.func 213) #[] #[]] w λe X=>e=WZ (WX #[Z Y (Sd.dw T y:Nat),WW (Sd.dF T y)])/\WQ w X:=by
 go_enter func212,ntmps212;go_wp2
 go_loopw [9,10] (λa b wr=>∃i j:Nat,i<=j/\j<=Xg T/\a=Z Y i/\b=Z Y j/\WQ w wr/\(∀k (I:k<Xg T),k<i->Sd.lt (T[k]).1 y=W8)/\(∀k (I:k<Xg T),j<=k->Sd.lt (T[k]).1 y=W9)) (λa b _=>(intOf b-intOf a).toNat)
 case atStart=>exact⟨0,Xg T,Ud _,TY _,rfl,rfl,T4 _ _,λk I h=>by omega,λk I h=>by omega⟩
 case round =>
  obtain⟨i,j,ae,hj,rfl,rfl,r,L,M⟩:=hrel;have N:=cT L;have P:=cT M;clear L M;by_cases af:i<j
  .have t:(i+j)/2<Xg T:=by omega
   have ag:i<=(i+j)/2:=by omega
   have ah:(i+j)/2<j:=by omega
   have ad:(i:Int)<(j:Int):=by omega
   obtain⟨g,s,o,c1⟩:=(h.below r) ((i+j)/2) (by omega)
   subst s;obtain⟨x,z⟩:∃x,(T[(i+j)/2]).1=x:=⟨_,rfl⟩
   obtain⟨v,Q⟩:∃x,(T[(i+j)/2]).2=x:=⟨_,rfl⟩
   rw[z] at o;rw[Q] at c1;have R:=cT z;clear z Q;cases l:Sd.lt x y with
   |true =>
    have A:=cT l;have q:Hid (ks x y = -1):=T0 l;clear l;go_wp2_with (go_at_call 213;refine(ij _ _ _ _).mono ?_;rintro e X ⟨rfl,m⟩;rw[cS q]);go_roundw
    case rel =>
     refine⟨(i+j)/2+1,j,by omega,hj,by go_num,O,r.trans (m.mono r.size),λk I aa=>?_,cS P⟩;have u:=Sd.fe W (i:=k) (j:=(i+j)/2) (by omega) t;rw[cS R] at u;exact Sd.oY u (cS A)
    case measure=>simp[intOf];omega
   |false =>
    have q:Hid (0<=ks x y):=by show _<=_;unfold ks;rw[l];simp;split <;> omega
    have A:=cT l;clear l;obtain⟨c,B⟩:∃c,ks x y=c:=⟨_,rfl⟩
    rw[B] at q;have C:=cT B;have ai:0<=c:=cS q;clear B;go_wp2_with (go_at_call 213;refine(ij _ _ _ _).mono ?_;rintro e X ⟨rfl,m⟩;rw[cS C]);go_roundw
    case rel =>
     refine⟨i,(i+j)/2,by omega,by omega,O,by go_num,r.trans (m.mono r.size),cS N,λk I aa=>?_⟩;have u:=Sd.fe W (i:=(i+j)/2) (j:=k) (by omega) I;rw[cS R] at u;cases h2:Sd.lt (T[k]).1 y with
     |false=>rfl
     |true=>have:=Sd.oY u h2;rw[cS A] at this;cases this
    case measure=>simp[intOf];omega
  .have ab:j=i:=by omega
   subst ab;have F:Hid (Sd.dw T y=j):=Sd.jO hj (cS N) (cS P);by_cases G:j<Xg T
   .have V:(j:Int)<(Xg T:Int):=by omega
    obtain⟨g,s,o,c1⟩:=(h.below r) j G;subst s;have HH:=cT (Sd.iR W y);obtain⟨x,z⟩:∃x,(T[j]).1=x:=⟨_,rfl⟩
    obtain⟨v,Q⟩:∃x,(T[j]).2=x:=⟨_,rfl⟩
    rw[z] at o;rw[Q] at c1;have R:=cT z;clear z Q;obtain⟨c,B⟩:∃c,ks x y=c:=⟨_,rfl⟩
    have C:=cT B;have HE:Hid (Sd.dF T y=(c == 0)):=by
     show _=_
     have u:(c == 0)=decide (x=y):=by
      rw[<-B];unfold ks;rcases Sd.qt x y with h|h|h
      .rw[T0 h,Uu (Sd.qW h)];rfl
      .subst h;simp[Sd.lt_irrefl]
      .rw[Sd.lt_asymm h,TZ (by decide),T0 h,Uu (λe=>Sd.qW h e.symm)];rfl
     rw[u];apply Bool.eq_iff_iff.2;rw[cS HH,decide_eq_true_iff];constructor
     .rintro⟨hq,e⟩;have e2:T[Sd.dw T y]=T[j]:=by congr 1 <;> exact cS F
      rw[e2] at e;rw[<-e];exact(cS R).symm
     .intro e;have e2:T[Sd.dw T y]'(by rw[cS F];exact G)=T[j]:=by congr 1 <;> exact cS F
      exact⟨by rw[cS F];exact G,by rw[e2];exact(cS R).trans e⟩
    clear B;go_wp2_with (go_at_call 213;refine(ij _ _ _ _).mono ?_;rintro e X ⟨rfl,m⟩;rw[cS C]);exact T8 (v := WX #[Z Y j,WW (c == 0)]) (by simp[results,results212,go_sem]) O ⟨by rw[cS F,cS HE],r.trans (m.mono r.size)⟩
   .have V:¬(j:Int)<(Xg T:Int):=by omega
    have aj:(Xg T:Int)<=(j:Int):=by omega
    have HE:Hid (Sd.dF T y=W9):=by
     show _=_
     cases hq:Sd.dF T y with
     |false=>rfl
     |true=>obtain⟨u,_⟩:=(Sd.iR W y).1 hq;rw[cS F] at u;omega
    go_wp2;exact T8 (v := WX #[Z Y j,WW W9]) (by simp[results,results212,go_sem]) O ⟨by rw[cS F,cS HE],r⟩
end Dk
namespace Dk
def cU(T:Sd.Tb):List WS:=T.flatMap λp=>[H p.1,eD p.2]
theorem eJ(T:Sd.Tb):(cU T).length=Xg T*2:=by
 induction T with
 |nil=>rfl
 |cons p t b=>simp[cU] at b ⊢;omega
theorem ki(A B:Sd.Tb):cU (A++B)=cU A++cU B:=by simp[cU]
theorem mX(T:Sd.Tb):∀j (h:j<Xg T),(cU T)[j*2]?=S (H (T[j]).1)/\(cU T)[j*2+1]?=S (eD (T[j]).2):=by
 induction T with
 |nil=>intro j h;simp at h
 |cons p t b =>
  intro j h;have e:cU (p::t)=H p.1::eD p.2::cU t:=by simp[cU]
  rw[e];cases j with
  |zero=>simp
  |succ j =>
   have:=b j (by simpa using h);rw[show (j+1)*2=j*2+1+1 by omega];simpa using this
theorem my(T:Sd.Tb):∀u∈cU T,u.oneCell'=W8:=by
 intro u hu;obtain⟨p,_,b⟩:=Vv.1 hu;simp at b;rcases b with rfl|rfl <;> rfl
theorem dS{w:WR}{B:Nat}{v:WS}{T:Sd.Tb}(h:w.ownsRow B 194 2 v (Xg T) (cU T)):∃p b,v=J p (Xg T) b/\iu w p T:=by
 have m:=h;rcases h.2 with ⟨e,r⟩|⟨g,b,u,e,_⟩
 .subst e;refine⟨U,0,by rw[r],λj l=>by omega⟩
 .subst e;refine⟨S ⟨g,0,U⟩,b,O,λj l=>⟨g,O,?_,?_⟩⟩
  .rw[m.cellAt _ (by omega)];exact(mX T j l).1
  .rw[m.cellAt _ (by omega)];exact(mX T j l).2
theorem dm{w:WR}{B e size n:Nat}{v:WS}{l:List WS}(h:w.ownsRow B e size v n l):∃p b,v=J p n b/\n<=b:=by
 rcases h.2 with ⟨rfl,j⟩|⟨g,b,m,rfl,_,_,j,_⟩
 .exact⟨U,0,by rw[j],by omega⟩
 .exact⟨_,b,O,j⟩
theorem info_entry:(prog.info? 194).map (λi=>(i.zero,i.size,i.bytes))=S (S (.agg #[H ⟨#[]⟩,WV U]),2,24):=by kernel_rfl
section
variable {α : Type}
def kA(L:List α)(o:Nat)(c:List α):List α:=L.take o++c++L.drop (o+Xg c)
theorem fZ(L:List α)(o:Nat)(c:List α)(h:o+Xg c<=Xg L):(kA L o c).length=Xg L:=by simp[kA];omega
theorem rP(L:List α)(o:Nat)(V b:List α)(n:Nat)(h1:o+Xg V+Xg b<=Xg L):(kA (kA L (o+Xg V) b) o V).take (o+Xg V+Xg b)=L.take o++V++b:=by
 have e:(kA L (o+Xg V) b).take o=L.take o:=by
  unfold kA;rw[UO,Vk (by simp;omega),Vx,V2 (by omega)]
 have j:(kA L (o+Xg V) b).drop (o+Xg V)=b++L.drop (o+Xg V+Xg b):=by
  unfold kA;rw[UO,Wx (by simp;omega),VA (by simp;omega),U2]
 show (List.take o _++V++List.drop (o+Xg V) _).take _=_
 rw[e,j,<-UO,Vk (by simp;omega),Vc (by simp;omega)]
theorem r7(L:List α)(o:Nat)(V b:List α)(h1:o+Xg V+Xg b<=Xg L):(kA (kA L o V) (o+Xg V) b).take (o+Xg V+Xg b)=L.take o++V++b:=by
 have e:(kA L o V).take (o+Xg V)=L.take o++V:=by
  unfold kA;rw[Vk (by simp;omega),Vc (by simp;omega)]
 show (List.take _ _++b++List.drop _ _).take _=_
 rw[e,Vk (by simp;omega),Vc (by simp;omega)]
end
theorem oa(T:Sd.Tb)(i:Nat):(cU T).take (i*2)=cU (T.take i):=by
 induction T generalizing i with
 |nil=>simp[cU]
 |cons p t b =>
  cases i with
  |zero=>simp[cU]
  |succ i =>
   have e:cU (p::t)=H p.1::eD p.2::cU t:=by simp[cU]
   rw[e,show (i+1)*2=i*2+1+1 by omega,VF,VF,b];simp[cU]
theorem od(T:Sd.Tb)(i:Nat):(cU T).drop (i*2)=cU (T.drop i):=by
 induction T generalizing i with
 |nil=>simp[cU]
 |cons p t b =>
  cases i with
  |zero=>simp
  |succ i =>
   have e:cU (p::t)=H p.1::eD p.2::cU t:=by simp[cU]
   rw[e,show (i+1)*2=i*2+1+1 by omega,V3,V3,b];simp
theorem oP(T:Sd.Tb)(i:Nat)(a:WU)(b:Nat):(cU T).take (i*2)++[H a,eD b]++(cU T).drop (i*2)=cU (T.take i++(a,b)::T.drop i):=by
 rw[oa,od,ki];simp[cU]
def ie(w:WR)(B:Nat)(v:WS)(T:Sd.Tb)(i:Nat)(a:WU)(b:Nat)(e:Ending)(w':WR):Prop :=
 ∃j,e=WZ j/\w'.ownsRow B 194 2 j (Xg T+1) (cU (T.take i++(a,b)::T.drop i))/\w.grownBy w' v.ownBlock/\(j.ownBlock=v.ownBlock\/j.ownBlock=S (K (E w)))
theorem mn(B x:Nat)(v:WS)(T:Sd.Tb)(a:WU)(b:Nat)(w:WR)(N:B<=K (E w))(h:w.ownsRow B 194 2 v (Xg T) (cU T))(hl:Xg T<=1000000000)(P:w.heap[x]?=S (D #[H a,eD b] 194 (0,0))):WT prog 215 #[v,Z Y (Xg T),J (S ⟨x,0,U⟩) 1 1] w (ie w B v T (Xg T) a b):=by
 obtain⟨Q,hi,z,A,C⟩:=UB info_entry;obtain⟨p,m,rfl,F⟩:=dm h;have R:Xg T<=m:=F;have q:m<=9223372036854775807:=by
  rcases h.2 with ⟨G,t⟩|⟨g,V,s,G,_,_,t,o,_⟩
  .injection G with _ _ G;omega
  .injection G with _ _ G;unfold maxLen at o;omega
 clear F;have W:w.cell? ⟨x,0,U⟩=S (H a):=by rw[T5 w x 0 _ _ _ P];rfl
 have X:w.cell? ⟨x,1,U⟩=S (eD b):=by rw[T5 w x 1 _ _ _ P];rfl
 by_cases I:m=Xg T
 .subst I;go_enter func215,ntmps215;go_wp2_with (first
   | (at_builtin;go_must (refine eW _ O (.tmp 23) (.tmp 24) 56 O B 194 Q _ 2 24 underlying56 hi z A C O (by decide) _ _ _ O h ⟨x,0,U⟩ 1 1 (by decide) [H a,eD b] O O ?c1 ?c2 ?c3 ?c4 ?c5 ?_))
   |go_in)
  case c1 =>
   intro j u l
   match j,l with
   |0,l=>simp at l;subst l;simpa [Addr.add] using W
   |1,l=>simp at l;subst l;simpa [Addr.add] using X
  case c2=>intro u hu;simp at hu;rcases hu with rfl | rfl <;> rfl
  case c3=>unfold maxLen;omega
  case c4=>omega
  case c5=>exact N
  intro L w3 M r y _;go_wp2;go_ret;refine⟨L,O,?_,r,y⟩;have e:cU (T.take (Xg T)++(a,b)::T.drop (Xg T))=cU T++[H a,eD b]:=by simp[cU]
  rw[e];exact M
 .have aa:Xg T<m:=by omega
  go_enter func215,ntmps215;go_wp2_with (first
   | (at_builtin;go_must (refine eW _ O (.tmp 23) (.tmp 24) 56 O B 194 Q _ 2 24 underlying56 hi z A C O (by decide) _ _ _ O h ⟨x,0,U⟩ 1 1 (by decide) [H a,eD b] O O ?c1 ?c2 ?c3 ?c4 ?c5 ?_))
   |go_in)
  case c1 =>
   intro j u l
   match j,l with
   |0,l=>simp at l;subst l;simpa [Addr.add] using W
   |1,l=>simp at l;subst l;simpa [Addr.add] using X
  case c2=>intro u hu;simp at hu;rcases hu with rfl | rfl <;> rfl
  case c3=>unfold maxLen;omega
  case c4=>omega
  case c5=>exact N
  intro L w3 M r y _;go_wp2;go_ret;refine⟨L,O,?_,r,y⟩;have e:cU (T.take (Xg T)++(a,b)::T.drop (Xg T))=cU T++[H a,eD b]:=by simp[cU]
  rw[e];exact M
end Dk
namespace Dk
theorem gK:(prog.info? 194).map (·.size)=S 2:=by
 obtain⟨l,hi,e,b,j⟩:=UB info_entry;rw[hi];simp[b]
theorem nW(w:WR):(Go.sizeOf 194).run prog w=.ok 2 w:=by
 obtain⟨l,hi,e,b,j⟩:=UB info_entry;simp[sizeOf,typeInfo,hi,b]
theorem oC(w:WR)(x g o lb r:Nat)(a:WU)(b:Nat)(j:Array WS)(l:x≠g)(m:w.heap[x]?=S (D #[H a,eD b] 194 (0,0)))(u:w.heap[g]?=S (D j 194 (0,0)))(y:j.size≠0):(callFunc 237 #[J (S ⟨x,0,U⟩) 1 1,J (S ⟨g,o,U⟩) lb r]).run prog w=.ok (.value (WW W9)) w:=by
 rw[run_callFunc_extern func237 (by kernel_rfl) (by kernel_rfl) (by kernel_rfl) (e:=Extern.SlicesOverlaps.overlaps #[56,56] #[4]) (by kernel_rfl),
  Lib.run_overlaps_apart w 56 4 194 underlying56 2 nW ⟨x,0,U⟩ ⟨g,o,U⟩ 1 1 lb r l 194 194 2 j.size (by simp[World.shape?,m]) (by simp[World.shape?,u]) y (by simp[World.frozen?,m]) (by simp[World.frozen?,m])]
 rfl
theorem kP(B x g cap i:Nat)(m:Array WS)(T:Sd.Tb)(a:WU)(b:Nat)(w:WR)(hi:i<Xg T)(hB:B<=g)(q:Xg T+1<=cap)(ab:cap<=maxLen)(hl:Xg T<=1000000000)(ad:x≠g)(hg:w.heap[g]?=S (D m 194 (0,0)))(ae:m.size=cap*2)(r:m.toList.take (Xg T*2)=cU T)(hx:w.heap[x]?=S (D #[H a,eD b] 194 (0,0))):WT prog 215 #[J (S ⟨g,0,U⟩) (Xg T) cap,Z Y i,J (S ⟨x,0,U⟩) 1 1] w (ie w B (J (S ⟨g,0,U⟩) (Xg T) cap) T i a b):=by
 have ak:∀o lb cb,(callFunc 237 #[J (S ⟨x,0,U⟩) 1 1,J (S ⟨g,o,U⟩) lb cb]).run prog w=.ok (.value (WW W9)) w:=λo lb cb=>oC w x g o lb cb a b m ad hx hg (by omega)
 obtain⟨l,hD⟩:∃l,l=(cU T).drop (i*2):=⟨_,rfl⟩
 obtain⟨V,y⟩:∃V:List WS,V=[H a,eD b]:=⟨_,rfl⟩
 have af:Xg l=(Xg T-i)*2:=by rw[hD,Vb,eJ];omega
 have an:Xg V=2:=by rw[y];rfl
 have ag:Xg m.toList=cap*2:=by simpa using ae
 obtain⟨A,C⟩:∃A,A=kA m.toList (i*2+Xg V) l:=⟨_,rfl⟩
 obtain⟨t,F⟩:∃t,t=kA A (i*2) V:=⟨_,rfl⟩
 have I:Xg A=cap*2:=by rw[C,fZ _ _ _ (by omega)];exact ag
 have L:Xg t=cap*2:=by rw[F,fZ _ _ _ (by omega)];exact I
 have M:t.take ((Xg T+1)*2)=cU (T.take i++(a,b)::T.drop i):=by
  have e:=rP m.toList (i*2) V l 0 (by omega);rw[<-C,<-F] at e;have e2:i*2+Xg V+Xg l=(Xg T+1)*2:=by omega
  rw[e2] at e;rw[e,<-oP,<-y,<-hD]
  congr 2
  rw[<-r,Vx,V2 (by omega)]
 have z:∀j v,l[j]?=S v->w.cell? ⟨g,i*2+j,U⟩=S v:=λj v N=>by
  have ar:j<Xg l:=(VU.1 N).1;rw[T5 w g _ _ _ _ hg];rw[hD,<-r,VG,VP,T0 (by omega)] at N;simpa using N
 have ah:∀v∈l,v.oneCell'=W8:=λv hv=>my T v (by rw[hD] at hv;exact VC hv)
 have Q:∀s p sc,(Builtin.copy_ #[56,56] s #[J (S ⟨g,(i+1)*2,U⟩) (Xg T+1-(i+1)) p,J (S ⟨g,i*2,U⟩) (Xg T+1-i) sc]).run prog w.drew=.ok (goInt ((Xg T-i:Nat):Int)) (w.drew.setRow g A.toArray):=λs p sc=>by
  have h:=ez (P:=prog) w.drew 56 56 s 194 2 g ((i+1)*2) (Xg T+1-(i+1)) p ⟨g,i*2,U⟩ (Xg T+1-i) sc m 194 l underlying56 gK hg (Xg T-i) (by simp only[VQ];split <;> omega) af
   (λj v N=>by rw[Vo];exact z j v N) (by omega) ah
  rw[h,C];unfold kA;rw[show i*2+Xg V=(i+1)*2 by omega]
 have G:(w.drew.setRow g A.toArray).heap[g]?=S (D A.toArray 194 (0,0)):=U8 w.drew g m _ _ _ hg;have aa:(w.drew.setRow g A.toArray).heap[x]?=S (D #[H a,eD b] 194 (0,0)):=by
  rw[U5 w.drew g x _ ad];exact hx
 obtain⟨W1,u⟩:∃W1,W1=w.drew.setRow g A.toArray:=⟨_,rfl⟩
 rw[<-u] at Q G aa;have ai:∀(W:WR),W=W1->∀s p,(Builtin.copy_ #[56,56] s #[J (S ⟨g,i*2,U⟩) (Xg T+1-i) p,J (S ⟨x,0,U⟩) 1 1]).run prog W=.ok (goInt 1) (W1.setRow g t.toArray):=λW hW s p=>by
  subst hW;have h:=ez (P:=prog) W 56 56 s 194 2 g (i*2) (Xg T+1-i) p ⟨x,0,U⟩ 1 1 A.toArray 194 V underlying56 gK G 1 (by simp only[VQ];split <;> omega) (by omega)
   (λj v N=>by
     rw[Vo,T5 W x _ _ _ _ aa];rw[y] at N;simpa using N) (by simp;omega) (by rw[y];intro v hv;simp at hv;rcases hv with rfl|rfl <;> rfl)
  rw[h,F]
  rfl
 have R:∀W,W=W1.setRow g t.toArray->W.ownsRow B 194 2 (J (S ⟨g,0,U⟩) (Xg T+1) cap) (Xg T+1) (cU (T.take i++(a,b)::T.drop i))/\w.grownBy W (Value.ownBlock (J (S ⟨g,0,U⟩) (Xg T) cap)):=λW hW=>by
  rw[hW];refine⟨⟨by rw[eJ];simp;omega,.inr ⟨g,cap,t.toArray,O,hB,U8 W1 g _ _ _ _ G,q,ab,by simpa using L,by simpa using M⟩⟩,?_⟩;refine⟨by rw[u];rfl,by rw[u];rfl,by rw[u];rfl,by rw[u];simp[World.setRow],λk hk ao=>?_⟩;have X:k≠g:=λe=>ao (by rw[e];rfl)
  rw[U5 W1 g k _ X,u,U5 w.drew g k _ X];rfl
 have aj:=cT R;unfold maxLen at ab;have au:IntKind.i64.wrap ((i:Int)+1)=(i:Int)+1:=by rw[Uy];omega
 have av:(0:Int)<=(i:Int)+1:=by omega
 have aw:i<=Xg T:=by omega
 have aq:(i:Int)<=(Xg T:Int):=by omega
 have ax:((i:Int)+1).toNat=i+1:=by omega
 have ay:(i:Int)<=(Xg T:Int)+1:=by omega
 have az:¬((i:Int)=(Xg T:Int)):=by omega
 have aA:¬((cap:Int)<(Xg T:Int)+1):=by omega
 have aB:¬(cap=i+1):=by omega
 have aC:¬(cap=i):=by omega
 clear R M z ah hD y af an ag C F I L hg hx ae r G aa u;go_enter func215,ntmps215;go_wp2_with (simp only[ak])
 go_region_law (refine step_copy_runI O (.tmp 73) (.tmp 76) 56 56 O _ _ (by simp[Act.eval,Act.put];rfl) (by simp[Act.eval,Act.put];rfl) (Q _ _ _) ?_)
 go_wp2_with (first|(at_builtin;go_must (refine wpList_copy_runI _ rfl (.tmp 80) (.tmp 81) 56 56 rfl _ _ rfl rfl (ai _ rfl _ _) ?_))|go_in);go_wp2;go_ret;obtain⟨q1,q2⟩:=(cS aj) _ rfl;exact⟨_,rfl,q1,q2,by first|exact Xa rfl|exact Xb rfl⟩
theorem lk(B x g cap i:Nat)(F:Array WS)(T:Sd.Tb)(a:WU)(b:Nat)(w:WR)(hi:i<Xg T)(hB:B<=K (E w))(af:cap=Xg T)(hl:Xg T<=1000000000)(hg:w.heap[g]?=S (D F 194 (0,0)))(I:F.toList.take (Xg T*2)=cU T)(av:Xg T*2<=F.size)(hx:w.heap[x]?=S (D #[H a,eD b] 194 (0,0))):WT prog 215 #[J (S ⟨g,0,U⟩) (Xg T) cap,Z Y i,J (S ⟨x,0,U⟩) 1 1] w (ie w B (J (S ⟨g,0,U⟩) (Xg T) cap) T i a b):=by
 subst af;obtain⟨i0,aw,ax,ay,ag⟩:=UB info_entry;obtain⟨l,hD⟩:∃l,l=(cU T).drop (i*2):=⟨_,rfl⟩
 obtain⟨V,L⟩:∃V:List WS,V=[H a,eD b]:=⟨_,rfl⟩
 have ah:Xg l=(Xg T-i)*2:=by rw[hD,Vb,eJ];omega
 have az:Xg V=2:=by rw[L];rfl
 have y:∀j v,(cU T)[j]?=S v->w.cell? ⟨g,j,U⟩=S v:=λj v z=>by
  have aA:j<(cU T).length:=(VU.1 z).1;rw[eJ] at aA;rw[T5 w g _ _ _ _ hg];rw[<-I,VP,T0 (by omega)] at z;simpa using z
 have ab:i+(Xg T+1-i)=Xg T+1:=by omega
 have hold:(Builtin.firstCells i0.size i (J (S ⟨g,0,U⟩) i (Xg T))).run prog w.drew=.ok ((cU T).take (i*2)).toArray w.drew:=by
  rw[ay];exact run_firstCells_some w.drew 2 i ⟨g,0,U⟩ i (Xg T) ((cU T).take (i*2)) (by rw[Vj,eJ];omega) (λj v z=>by
   rw[Vo];rw[VP] at z;split at z
   .simpa using y j v z
   .cases z)
 obtain⟨G,hG⟩:∃G,G=grownCap w (Xg T+1) (Xg T) 194:=⟨_,rfl⟩
 have aB:Xg T+1<=G:=by rw[hG];exact grownCap_ge w _ _ _
 have ai:G<=maxLen:=by rw[hG];exact grownCap_le_maxLen w _ _ _ (by unfold maxLen;omega)
 obtain⟨m,A⟩:∃m:Array WS,m=((cU T).take (i*2)).toArray++Builtin.zeroCells (Value.agg #[H ⟨#[]⟩,WV U]).cells (Xg T+1-i)++Builtin.zeroCells (Value.agg #[H ⟨#[]⟩,WV U]).cells (G-(Xg T+1)):=⟨_,rfl⟩
 have aj:∀M,(Builtin.append_ #[56,3] M #[J (S ⟨g,0,U⟩) i (Xg T),Z Y ((Xg T:Int)+1-(i:Int))]).run prog w =
   .ok (J (S ⟨K (E w),0,U⟩) (Xg T+1) G) (w.drew.alloc (D m 194)):=λM=>by
  have h:=Lib.run_append_grow_zeros w 56 3 M 194 i0 _ Y Y underlying56 underlying3 aw ax (S ⟨g,0,U⟩) i (Xg T) ((cU T).take (i*2)) hold (Xg T+1-i) (by omega) (by omega) (by omega) (by omega) (by rw[ag];omega) (by rw[ag,ab];exact growslice_fits (by omega) (by omega));rw[ab] at h;rw[show (Xg T:Int)+1-(i:Int)=((Xg T+1-i:Nat):Int) by omega,A,hG];exact h
 have ad:Xg m.toList=G*2:=by
  rw[A];simp[Builtin.zeroCells,Value.cells,eJ];omega
 have ak:m.toList.take (i*2)=(cU T).take (i*2):=by
  rw[A];simp only[Wd,UO];rw[Vk (by simp[eJ];omega)];exact(Vx ..).trans (by rw[Nat.min_self])
 obtain⟨q,R⟩:∃q,q=kA m.toList (i*2) V:=⟨_,rfl⟩
 obtain⟨c2,X⟩:∃c2,c2=kA q (i*2+Xg V) l:=⟨_,rfl⟩
 have t:Xg q=G*2:=by rw[R,fZ _ _ _ (by omega)];exact ad
 have s:Xg c2=G*2:=by rw[X,fZ _ _ _ (by omega)];exact t
 have p:c2.take ((Xg T+1)*2)=cU (T.take i++(a,b)::T.drop i):=by
  have e:=r7 m.toList (i*2) V l (by omega);rw[<-R,<-X] at e;have e2:i*2+Xg V+Xg l=(Xg T+1)*2:=by omega
  rw[e2] at e;rw[e,<-oP,<-L,<-hD,ak]
 have aC:g<K (E w):=UW hg;have aD:x<K (E w):=UW hx;obtain⟨N,r⟩:∃N,N=w.drew.alloc (D m 194):=⟨_,rfl⟩
 have ae:N.heap[K (E w)]?=S (D m 194 (0,0)):=by rw[r];exact T9 w.drew _
 have an:N.heap[x]?=S (D #[H a,eD b] 194 (0,0)):=by rw[r,Ur w.drew _ x aD];exact hx
 have ao:N.heap[g]?=S (D F 194 (0,0)):=by rw[r,Ur w.drew _ g aC];exact hg
 rw[<-r] at aj;have o:∀W,W=N->∀M dc,(Builtin.copy_ #[56,56] M #[J (S ⟨K (E w),i*2,U⟩) (Xg T+1-i) dc,J (S ⟨x,0,U⟩) 1 1]).run prog W=.ok (goInt 1) (N.setRow (K (E w)) q.toArray):=λW hW M dc=>by
  subst hW;have h:=ez (P:=prog) W 56 56 M 194 2 (K (E w)) (i*2) (Xg T+1-i) dc ⟨x,0,U⟩ 1 1 m 194 V underlying56 gK ae 1 (by simp only[VQ];split <;> omega) (by omega)
   (λj v z=>by
     rw[Vo,T5 W x _ _ _ _ an];rw[L] at z;simpa using z) (by rw[<-Va,ad];omega) (by rw[L];intro v hv;simp at hv;rcases hv with rfl|rfl <;> rfl)
  rw[h,R]
  rfl
 obtain⟨C,u⟩:∃C,C=N.setRow (K (E w)) q.toArray:=⟨_,rfl⟩
 have Q:C.heap[K (E w)]?=S (D q.toArray 194 (0,0)):=by rw[u];exact U8 N _ _ _ _ _ ae
 have aq:C.heap[g]?=S (D F 194 (0,0)):=by rw[u,U5 N _ g _ (by omega)];exact ao
 rw[<-u] at o;have ar:∀W,W=C.drew->∀M dc sc,(Builtin.copy_ #[56,56] M #[J (S ⟨K (E w),(i+1)*2,U⟩) (Xg T+1-(i+1)) dc,J (S ⟨g,i*2,U⟩) (Xg T-i) sc]).run prog W=.ok (goInt ((Xg T-i:Nat):Int)) (C.drew.setRow (K (E w)) c2.toArray):=λW hW M dc sc=>by
  subst hW;have h:=ez (P:=prog) C.drew 56 56 M 194 2 (K (E w)) ((i+1)*2) (Xg T+1-(i+1)) dc ⟨g,i*2,U⟩ (Xg T-i) sc q.toArray 194 l underlying56 gK Q (Xg T-i) (by simp only[VQ];split <;> omega) ah
   (λj v z=>by
     rw[Vo];refine(T5 C.drew g _ _ _ _ aq).trans ?_;rw[<-T5 w g _ _ _ _ hg];exact y _ v (by rw[hD,VG] at z;exact z)) (by simp;omega) (λv hv=>my T v (by rw[hD] at hv;exact VC hv))
  rw[h,X];unfold kA;rw[show i*2+Xg V=(i+1)*2 by omega]
 have aa:∀W,W=C.drew.setRow (K (E w)) c2.toArray->W.ownsRow B 194 2 (J (S ⟨K (E w),0,U⟩) (Xg T+1) G) (Xg T+1) (cU (T.take i++(a,b)::T.drop i))/\w.grownBy W (Value.ownBlock (J (S ⟨g,0,U⟩) (Xg T) (Xg T))):=λW hW=>by
  rw[hW];refine⟨⟨by rw[eJ];simp;omega,.inr ⟨K (E w),G,c2.toArray,O,hB,U8 C.drew _ _ _ _ _ Q,aB,ai,by simpa using s,by simpa using p⟩⟩,?_⟩;refine⟨by rw[u,r];rfl,by rw[u,r];rfl,by rw[u,r];rfl,by rw[u,r];simp[World.setRow],λk hk aG=>?_⟩;rw[U5 C.drew _ k _ (by omega)]
  show C.heap[k]?=_
  rw[u,U5 N _ k _ (by omega),r,Ur w.drew _ k hk];rfl
 have au:=cT aa;unfold maxLen at ai;have aH:IntKind.i64.wrap ((i:Int)+1)=(i:Int)+1:=by rw[Uy];omega
 have aI:(0:Int)<=(i:Int)+1:=by omega
 have aJ:i<=Xg T:=by omega
 have aE:(i:Int)<=(Xg T:Int):=by omega
 have aK:((i:Int)+1).toNat=i+1:=by omega
 have aL:(i:Int)<=(Xg T:Int)+1:=by omega
 have aM:¬((i:Int)=(Xg T:Int)):=by omega
 have aN:¬(G=i):=by omega
 have aF:¬(G=i+1):=by omega
 have aO:¬(Xg T=i):=by omega
 clear aa p y hD L ah az R X t s hg hx av I ao an r u ae Q aq ad ak A hG hold ab;go_enter func215,ntmps215;go_wp2_with (first
  | (at_builtin;refine Lib.wpList_append_run _ O (.tmp 34) (.tmp 39) _ _ O _ _ O O _ _ (aj _) ?_)
  | (at_builtin;refine wpList_copy_runI _ O (.tmp 43) (.tmp 44) 56 56 O _ _ O O (o _ O _ _) ?_))
 go_region_law (refine step_copy_runI O (.tmp 50) (.tmp 53) 56 56 O _ _ (by simp[Act.eval,Act.put];rfl) (by simp[Act.eval,Act.put];rfl) (ar _ O _ _ _) ?_)
 go_wp2;go_ret;obtain⟨q1,q2⟩:=(cS au) _ rfl;exact⟨_,rfl,q1,q2,by first|exact Xa rfl|exact Xb rfl⟩
theorem mz(B x:Nat)(v:WS)(T:Sd.Tb)(i:Nat)(a:WU)(b:Nat)(w:WR)(hi:i<=Xg T)(G:B<=K (E w))(h:w.ownsRow B 194 2 v (Xg T) (cU T))(u:Xg T<=1000000000)(y:v.ownBlock≠S x)(z:w.heap[x]?=S (D #[H a,eD b] 194 (0,0))):WT prog 215 #[v,Z Y i,J (S ⟨x,0,U⟩) 1 1] w (ie w B v T i a b):=by
 by_cases L:i=Xg T
 .subst L;exact mn B x v T a b w G h u z
 .rcases h.2 with ⟨I,P⟩|⟨g,l,m,I,A,r,M,C,F,j⟩
  .omega
  .subst I;by_cases N:Xg T+1<=l
   .exact kP B x g l i m T a b w (by omega) A N C u (λe=>y (by rw[e];rfl)) r F j z
   .exact lk B x g l i m T a b w (by omega) G (by omega) u r j (by omega) z
end Dk
namespace Dk
structure eT (w:WR) (D o:Nat) (C:Array WS) (tD:TypeId) (v:WS) (T:Sd.Tb):Prop where
 blk:w.heap[D]?=S (.cells C tD (0,0))
 at_:C[o]?=S v
 row:w.ownsRow 0 194 2 v (Xg T) (cU T)
 me:Sd.di T
 len:Xg T<=1000000000
theorem eT.cell{w:WR}{b o:Nat}{C:Array WS}{e:TypeId}{v:WS}{T:Sd.Tb}(h:eT w b o C e v T):w.cell? ⟨b,o,U⟩=S v:=by
 rw[T5 w b o _ _ _ h.blk];exact h.at_
theorem eT.below{w w':WR}{b o:Nat}{C:Array WS}{e:TypeId}{v:WS}{T:Sd.Tb}(h:eT w b o C e v T)(hb:WQ w w'):eT w' b o C e v T:=⟨(hb.block b (UW h.blk)).trans h.blk,h.at_,dd h.row hb,h.me,h.len⟩
theorem fY(b o:Nat)(C:Array WS)(m:TypeId)(v:WS)(T:Sd.Tb)(y:WU)(w:WR)(h:eT w b o C m v T):WT prog 146 #[WV (S ⟨b,o,U⟩),H y] w λe l=>e=WZ (WX #[Z Y (Sd.dw T y:Nat),WW (Sd.dF T y)])/\WQ w l:=by
 obtain⟨p,j,rfl,r⟩:=dS h.row;have B:=h.cell;have u:=h.me;have z:=h.len;clear h;go_enter func146,ntmps146;go_wp2_with fail;refine(mu p j T y w r u z).mono ?_;rintro e l ⟨rfl,A⟩;go_wp2;exact T8 (v := WX #[Z Y (Sd.dw T y:Nat),WW (Sd.dF T y)]) (by simp[results,results146,go_sem]) O ⟨O,A⟩
def eV:Option Nat->WS
 |some f=>eD f
 |none=>WV U
theorem yU(b o:Nat)(C:Array WS)(m:TypeId)(v:WS)(T:Sd.Tb)(y:WU)(w:WR)(h:eT w b o C m v T):WT prog 144 #[WV (S ⟨b,o,U⟩),H y] w λe L=>e=WZ (WX #[eV (Sd.jy T y),WW (Sd.dF T y)])/\WQ w L:=by
 have j:=cT h;cases hh:Sd.dF T y with
 |false =>
  rw[Sd.mf hh];have r:=cT hh;clear hh h;go_enter func144,ntmps144;go_wp2_with fail;refine(fY b o C m v T y w (cS j)).mono ?_;rintro e M ⟨rfl,l⟩;rw[cS r];go_wp2;go_ret2;exact⟨O,l⟩
 |true =>
  obtain⟨B,N,F⟩:=Sd.gn h.me hh;rw[F];have u:=Sd.lT T y;have V:=h.len;have r:=cT hh;clear hh h N F;go_enter func144,ntmps144;go_wp2_with fail;refine(fY b o C m v T y w (cS j)).mono ?_;rintro e M ⟨rfl,l⟩;rw[cS r];have W:=((cS j).below l).cell;obtain⟨p,P,rfl,G⟩:=dS ((cS j).below l).row;obtain⟨g,Q,R,z⟩:=G (Sd.dw T y) B;subst Q;obtain⟨f,A⟩:∃f,(T[Sd.dw T y]).2=f:=⟨_,rfl⟩
  rw[A] at z;have I:=cT A;generalize Sd.dw T y=i at B u R z I;clear G A;unfold eD at z;go_wp2;go_ret2;exact⟨by rw[cS I];rfl,l⟩
end Dk
namespace Dk
structure dN (w w':WR) (D o:Nat) (C:Array WS) (tD:TypeId) (v v':WS) (T':Sd.Tb):Prop where
 blk:w'.heap[D]?=S (.cells (C.setIfInBounds o v') tD (0,0))
 row:w'.ownsRow 0 194 2 v' (Xg T') (cU T')
 kept:Kept w w' (λk=>k≠D/\v.ownBlock≠S k)
 new:v'.ownBlock=v.ownBlock\/∃g,v'.ownBlock=S g/\(K (E w))<=g
theorem n8(b o:Nat)(C:Array WS)(A:TypeId)(v:WS)(T:Sd.Tb)(y:WU)(f:Nat)(w:WR)(h:eT w b o C A v T)(G:v.ownBlock≠S b):WT prog 148 #[WV (S ⟨b,o,U⟩),H y,eD f] w λe w'=>e=WZ (WW (!Sd.dF T y))/\∃v',dN w w' b o C A v v' (if Sd.dF T y=W8 then T else Sd.gJ T y f):=by
 have W:o<C.size:=(Ug.1 h.at_).1;cases hh:Sd.dF T y with
 |true =>
  have X:=cT hh;have j:=cT h;clear hh h;go_enter func148,ntmps148;go_wp2_with fail;refine(fY b o C A v T y w (cS j)).mono ?_;rintro e w' ⟨rfl,B⟩;rw[cS X];go_wp2;go_ret;have u:=(cS j).below B;refine⟨O,v,?_,?_,Kept.below B _,Xa O⟩
  .rw[u.blk];have:C.setIfInBounds o v=C:=by
    have hv:=(Ug.1 u.at_).2;rw[<-hv];simp[Array.setIfInBounds,W]
   rw[this]
  .exact u.row
 |false =>
  have X:=cT hh;have j:=cT h;have hl:=h.len;clear hh h;go_enter func148,ntmps148;go_wp2_with fail;refine(fY b o C A v T y w (cS j)).mono ?_;rintro e I ⟨rfl,B⟩;rw[cS X];have u:=(cS j).below B;have hu:=u.blk;have q:=u.row;have hc:=u.cell;have t:b<K (E I):=UW hu;have L:(I.alloc (D #[H y,eD f] 194)).heap[b]?=S (D C A (0,0)):=by rw[Ur _ _ _ t];exact hu
  have s:=cT L;have HO:=cT q;obtain⟨p,m,rfl,_⟩:=dm q;have M:=Sd.lT T y;clear hu q L u;unfold eD;go_wp2_with fail;refine(mz 0 (K (E I)) (J p (Xg T) m) T (Sd.dw T y) y f _ M (by simp) ((cS HO).alloc _) hl (λz=>by have:=((cS HO).lt _ z).2;omega) (T9 I _)).mono ?_;rintro e F ⟨v',rfl,N,P,Q⟩;have r:F.heap[b]?=S (D C A (0,0)):=by
   rw[P.block b (by simp;omega) (λz=>G z.symm)];exact cS s
  have ad:F.cell? ⟨b,o,U⟩=S (J p (Xg T) m):=by rw[T5 F b o _ _ _ r];exact(cS j).at_
  have ae:F.frozen? ⟨b,o,U⟩=W9:=by simp[World.frozen?,r]
  obtain⟨p',l,rfl,_⟩:=dm N;have aa:=cT r;have R:=cT Q;clear r hc Q;go_wp2;go_ret;have ab:Kept w F (λk=>k≠b/\(Value.slice p (Xg T) m).ownBlock≠S k):=(Kept.below B _).trans (((Kept.refl I _).alloc _).trans (Kept.grown P (λk hk=>hk.2)));have V:(Value.slice p' (Xg T+1) l).ownBlock=(Value.slice p (Xg T) m).ownBlock\/∃g,(Value.slice p' (Xg T+1) l).ownBlock=S g/\(K (E w))<=g:=by
   rcases cS R with e|e
   .exact Xa e
   .exact Xb ⟨_,e,by have:=B.size;simp;omega⟩
  refine⟨O,J p' (Xg T+1) l,?_,?_,ab.setCell (λhk=>hk.1 O) _,V⟩
  .rw[Ue F b o _ _ _ (cS aa)]
  .rw[Sd.iP];refine U1 N (λz=>?_) _;rcases cS R with e|e
   .rw[e] at z;exact G z
   .rw[e] at z;simp at z;omega
theorem MT{w:WR}{B e size n g j cap:Nat}{p:Option Addr}{l:List WS}(u:WS)(h:w.ownsRow B e size (J (S ⟨g,0,U⟩) n cap) n l)(Q:j<Xg l):(w.setCell ⟨g,j,U⟩ u).ownsRow B e size (J (S ⟨g,0,U⟩) n cap) n (l.set j u):=by
 obtain⟨z,m⟩:=h;refine⟨by rw[VR];exact z,?_⟩;rcases m with ⟨m,_⟩|⟨R,y,A,C,F,G,I,L,M,N⟩
 .cases m
 .injection C with b P r;injection b with b;injection b with b;subst b r;refine .inr ⟨g,cap,_,O,F,Ue w g j _ _ u G,I,L,by rw[Array.size_setIfInBounds];exact M,?_⟩;rw[Array.toList_setIfInBounds,List.take_set,N]
theorem Qk(T:Sd.Tb):∀(i:Nat) (hi:i<Xg T) (y:WU) (f:Nat),(T[i]).1=y->(cU T).set (i*2+1) (eD f)=cU (T.set i (y,f)):=by
 induction T with
 |nil=>intro i hi;simp at hi
 |cons p t j =>
  intro i hi y f b;have e:cU (p::t)=H p.1::eD p.2::cU t:=by simp[cU]
  rw[e];cases i with
  |zero =>
   have b:p.1=y:=b;subst b;simp[cU]
  |succ i =>
   have l:=j i (by simpa using hi) y f (by simpa using b);rw[show (i+1)*2+1=i*2+1+1+1 by omega,List.set_cons_succ,List.set_cons_succ,l];simp[cU]
theorem F7(b o:Nat)(C:Array WS)(I:TypeId)(v:WS)(T:Sd.Tb)(y:WU)(f:Nat)(w:WR)(h:eT w b o C I v T)(L:v.ownBlock≠S b):WT prog 98 #[WV (S ⟨b,o,U⟩),H y,eD f] w λe w'=>e=WZ (WX #[])/\∃z,dN w w' b o C I v z (Sd.jZ T y f):=by
 have aa:o<C.size:=(Ug.1 h.at_).1;have j:=n8 b o C I v T y f w h L;unfold eD at j ⊢;cases hh:Sd.dF T y with
 |false =>
  have M:Sd.jZ T y f=Sd.gJ T y f:=by unfold Sd.jZ;rw[hh];rfl
  rw[M];rw[hh] at j;clear hh h M;go_enter func98,ntmps98;go_wp2_with fail;refine j.mono ?_;rintro e w1 ⟨rfl,z,r⟩;clear j;go_wp2;exact T8 (v := WX #[]) (Ua O _ _ _) O ⟨O,z,r⟩
 |true =>
  obtain⟨hj,e1,e2⟩:=Sd.gn h.me hh;have M:Sd.jZ T y f=T.set (Sd.dw T y) (y,f):=by unfold Sd.jZ;rw[hh];rfl
  rw[M];rw[hh] at j;have HH:=cT hh;have A:=cT h;have hl:=h.len;clear hh h M e2;go_enter func98,ntmps98;go_wp2_with fail;refine j.mono ?_;rintro e w1 ⟨rfl,z,r⟩;clear j;have N:eT w1 b o (C.setIfInBounds o z) I z T:=⟨r.blk,by simp[aa],r.row,(cS A).me,hl⟩
  have P:z.ownBlock≠S b:=λQ=>by
   rcases r.new with e|⟨g,e,hg⟩
   .rw[e] at Q;exact L Q
   .rw[e] at Q;have Q:g=b:=Ut Q;have:=UW (cS A).blk;omega
  have HN:=cT r;have R:=cT N;clear r N;go_wp2_with fail;refine(fY b o _ I z T y w1 (cS R)).mono ?_;rintro e w2 ⟨rfl,hb⟩;rw[cS HH];have l:=(cS R).below hb;have hc:=l.cell;have m:=l.row;have B:=l.blk;have V:=cT m;have W:=cT B;obtain⟨p,X,rfl,he⟩:=dS m;obtain⟨g,hp,c0,c1⟩:=he (Sd.dw T y) hj;subst hp;have ab:w2.frozen? ⟨g,Sd.dw T y*2+1,U⟩=W9:=by
   rcases m.2 with ⟨u,_⟩|⟨g',af,ag,u,_,ad,_⟩
   .cases u
   .injection u with u _ _;injection u with u;injection u with u;subst u;simp[World.frozen?,ad]
  have q:=cT e1;have ae:g≠b:=λe=>P (by rw[e];rfl)
  generalize t:Sd.dw T y=i at hj c0 c1 ab q ⊢;clear he m B l e1;have HI:=cT t;clear t;unfold eD at c1;go_wp2;have F:dN w (w2.setCell ⟨g,i*2+1,U⟩ (WV (S ⟨f,0,U⟩))) b o C I v (J (S ⟨g,0,U⟩) (Xg T) X) (T.set i (y,f)):=by
   have r:=cS HN;refine⟨?_,?_,?_,r.new⟩
   .rw[Uj w2 _ _ b (λe=>ae e.symm)];exact cS W
   .rw[VR,<-Qk T i hj y f (cS q)];exact MT (p:=none) _ (cS V) (by rw[eJ];omega)
   .refine(r.kept.trans (Kept.below hb _)).JB (λk hk ho G=>?_) _;rcases r.new with e|⟨g',e,ah⟩
    .exact ho.2 (by rw[<-e,G];rfl)
    .have:g=g':=Ut e;have G:k=g:=G;omega
  have s:=cT F;clear F;exact Ub (Ua O _ _ _) O ⟨O,J (S ⟨g,0,U⟩) (Xg T) X,by rw[cS HI];exact cS s⟩
end Dk
namespace Dk
def GG(T:Sd.Tb)(w:WR)(e:Ending)(w':WR):Prop :=
 ∃b,e=WZ b/\w'.ownsRow 0 194 2 b (Xg T) (cU T)/\WQ w w'/\∀g,b.ownBlock=S g->K (E w)<=g
theorem Ef(v:WS)(T:Sd.Tb)(w:WR)(h:w.ownsRow 0 194 2 v (Xg T) (cU T))(hl:Xg T<=1000000000):WT prog 149 #[v] w (GG T w):=by
 rcases h.2 with ⟨rfl,hn⟩|⟨g,y,p,rfl,_,L,M,N,z,A⟩
 .have j:=Lib.run_eql_slice_nil (P:=prog) w 56 194 U 0 0 0 0 underlying56;simp only[Option.isNone_none] at j;go_enter func149,ntmps149;go_wp2;go_ret;exact⟨_,O,h,T4 _ _,λg L=>by simp[Value.ownBlock] at L⟩
 .have j:=Lib.run_eql_slice_nil (P:=prog) w 56 194 (S ⟨g,0,U⟩) (Xg T) y 0 0 underlying56;simp only[Option.isNone_some] at j;by_cases X:T=[]
  .subst X;simp only[Vl] at j;clear h L z A;go_enter func149,ntmps149;go_wp2;go_ret;refine⟨_,O,⟨O,.inr ⟨K (E w),0,#[],O,Ud _,T9 w _,TY _,by unfold maxLen;omega,O,O⟩⟩,(T4 _ w).alloc WN _,λq u=>?_⟩;simp[Value.ownBlock] at u;omega
  .obtain⟨o,hi,Q,R,V⟩:=UB info_entry;have B:0<Xg T:=by
    rcases T with _|⟨a,b⟩
    .exact absurd O X
    .simp
   have l:=World.ownsRow_lit (base:=K (E w)) (e:=194) (size:=2) w #[] 0 WN (by unfold maxLen;omega) (by rfl);have m:=(h.alloc (D #[] 194)).cells (g:=g) O;have C:=cT m;have F:=cT l;clear m l L M N z A h;go_enter func149,ntmps149;go_wp2_with (first
    | (at_builtin;go_must (refine eW _ O (.tmp 5) (.tmp 6) 56 O (K (E w)) 194 o _ 2 24 underlying56 hi Q R V O (by decide) _ 0 [] O (cS F) ⟨g,0,U⟩ (Xg T) y B (cU T) O (eJ T) (cS C) (my T) (by unfold maxLen;omega) (by omega) (by simp) ?_))
    |go_in)
   intro t w3 s G W _;have r:w3.ownsRow (K (E w)) 194 2 t (Xg T) (cU T):=by simpa using s
   have I:WQ w w3:=((T4 _ w).alloc WN _).grown G (by simp) (λk hk=>by simp[Value.ownBlock] at hk;omega);clear s G W;go_wp2;go_ret;exact⟨t,O,rJ r,I,λq u=>(r.lt q u).1⟩
def Dt(T:Sd.Tb)(w:WR)(e:Ending)(w':WR):Prop :=
 ∃b,e=WZ (.agg #[b])/\w'.ownsRow 0 194 2 b (Xg T) (cU T)/\WQ w w'/\∀g,b.ownBlock=S g->K (E w)<=g
theorem CX(b o:Nat)(C:Array WS)(I:TypeId)(v:WS)(T:Sd.Tb)(w:WR)(h:eT w b o C I v T):WT prog 99 #[WV (S ⟨b,o,U⟩)] w (Dt T w):=by
 have Q:=h.cell;have R:b<K (E w):=UW h.blk;have G:=λo=>Ef v T (w.alloc o) (h.row.alloc o) h.len
 obtain⟨p,L,rfl,_⟩:=dm h.row;clear h;go_enter func99,ntmps99;go_wp2_with fail;refine(G _).mono ?_;rintro e u ⟨V,rfl,y,z,A⟩;have j:=cT (And.intro y (And.intro z A));have m:u.heap[K (E w)]?=S (D #[J U 0 0] 58 (0,0)):=(z.block (K (E w)) (by simp)).trans (T9 w _);have B:u.cell? ⟨K (E w),0,U⟩=S (J U 0 0):=by rw[T5 u _ 0 _ _ _ m];rfl
 have M:u.frozen? ⟨K (E w),0,U⟩=W9:=by simp[World.frozen?,m]
 obtain⟨F,l,rfl,_⟩:=dm y;clear y z A G m;go_wp2;have r:(u.setCell ⟨K (E w),0,U⟩ (J F (Xg T) l)).cell? ⟨K (E w),0,U⟩=S (J F (Xg T) l):=UN _ _ _ B;obtain⟨y,z,A⟩:=cS j;refine T8 (v := .agg #[J F (Xg T) l]) (by simp[results,results99,go_sem,r]) O ⟨_,O,?_,?_,λg N=>?_⟩
 .refine U1 y (λP=>?_) _;have:=A _ P;simp at this;omega
 .exact(((T4 _ w).alloc WN _).trans (z.mono (by simp))).setCell WN _
 .have:=A g N;simp at this;omega
end Dk
namespace Dk
open Go.RowKit Go.Shelf
attribute [local go_sem] Oper.semAt_some
structure fU (N:Nat) (ok:Nat->Prop) (w w':WR):Prop where
 os:w'.os=w.os
 tape:w'.tape=w.tape
 output:w'.output=w.output
 size:K (E w)<=K (E w')
 block:∀k,k<N->ok k->w'.heap[k]?=w.heap[k]?
theorem fU.refl(N:Nat)(ok:Nat->Prop)(w:WR):fU N ok w w:=⟨O,O,O,TY _,λ_ _ _=>O⟩
variable {ok:Nat->Prop}{N:Nat}
theorem fU.trans{a b c:WR}(h:fU N ok a b)(k:fU N ok b c): fU N ok a c:=⟨k.os.trans h.os,k.tape.trans h.tape,k.output.trans h.output,Uc h.size k.size,λi hi e=>(k.block i hi e).trans (h.block i hi e)⟩
theorem fU.alloc{a w:WR}(h:fU N ok a w)(j:N<=K (E w))(o:Obj): fU N ok a (w.alloc o):=⟨h.os,h.tape,h.output,by have:=h.size;simp;omega,λk b e=>(Ur w o k (by omega)).trans (h.block k b e)⟩
theorem fU.cell{w w':WR}(h:fU N ok w w'){p:Addr}(b:p.block<N)(e:ok p.block): w'.cell? p=w.cell? p:=Vs (w:=w) (h.block p.block b e)
theorem fU.putObj(W:WR)(l:Nat)(o e:Obj)(j:N<=l)(h:W.heap[l]?=S o): fU N ok W (W.putObj l e):=by
 have b:=Wh W l e;exact⟨b.os,b.tape,b.output,b.size,λk m _=>b.block k (by have:=(Ug.1 h).1;omega) (by simp;omega)⟩
theorem qw(F:Fence)(n:Nat)(j:F.fn 55)(b:F.round=U)(p0:Option Addr)(w:WR):CallsIn F n prog 55 #[WV p0] w λe l=>e=WZ (.func (.func 96) #[] #[WV (S ⟨K (E w),0,U⟩)])/\l=w.alloc (D #[WV p0] 131):=by
 refine callsIn_of_wp func55 O j ?_ b;simp only[ntmps55,VD,Uf,Vl,Nat.reduceAdd,Nat.reduceSub,VJ,VK,VL,VM,U2,UM]
 gi_wp2
 go_ret;exact⟨O,O⟩
theorem rC(F:Fence)(n:Nat)(h8:F.fn 96)(P:F.round=U)(hn:1<=n)(l q b o N:Nat)(ok:Nat->Prop)(p:Option Addr)(cap:Nat)(T:Sd.Tb)(hl:Xg T<=1000000000)(m t:List { x:WU × Nat // x∈T }->WR->Prop)(hY:∀u x W,m u W->Xg u<Xg T->YieldAt F (n-1) prog l #[H x.1.1,eD x.1.2] W λe B => (e=WZ (WW W8)/\m (u++[x]) B/\fU N ok W B)\/(e=WZ (WW W9)/\t (u++[x]) B))(W:WR)(hN:N<=K (E W))(Q:AbidesFrom (K (E W)) m)(ab:W.cell? ⟨q,0,U⟩=S (WV (S ⟨b,o,U⟩)))(ht:W.cell? ⟨b,o,U⟩=S (J p (Xg T) cap))(hc:∀j (hj:j<Xg T),∃g,p=S ⟨g,0,U⟩/\g<N/\ok g/\W.cell? ⟨g,j*2,U⟩=S (H T[j].1)/\W.cell? ⟨g,j*2+1,U⟩=S (eD T[j].2))(h0:m [] W):CallsIn F n prog 96 #[.func (.yield l) #[] #[],WV (S ⟨q,0,U⟩)] W λe B=>(∃v,e=WZ v)/\
   ((∃s,s=T.attach/\m s B)\/(∃u,u <+: T.attach/\t u B)):=by
 refine callsIn_of_wp func96 O h8 ?_ P;simp only[ntmps96,VD,Uf,Vl,Nat.reduceAdd,Nat.reduceSub,VJ,VK,VL,VM,U2,UM]
 gi_wp2
 gi_loopw [10] (λi wr=>∃k:Nat,k<=Xg T/\i=Z Y k/\Hid (m (T.attach.take k) wr)/\fU N ok W wr)
  (λi _=>Xg T-(intOf i).toNat)
 case atStart=>exact⟨0,Ud _,rfl,h0,fU.refl _ _ _⟩
 case round =>
  obtain⟨k,hk,rfl,HJ,y⟩:=hrel;by_cases R:k<Xg T
  .obtain⟨g,rfl,hg,C,c0,c1⟩:=hc k R;have d0:=(y.cell (p:=⟨g,k*2,U⟩) hg C).trans c0;have d1:=(y.cell (p:=⟨g,k*2+1,U⟩) hg C).trans c1;have G:(k:Int)<(Xg T:Int):=by omega
   have ad:Xg T.attach=Xg T:=List.length_attach;obtain⟨x,V⟩:∃x,T.attach[k]'(by omega)=x:=⟨_,rfl⟩
   have I:T[k]=x.1:=by rw[<-V];simp
   rw[I] at d0 d1;have HX:=cT V;clear V c0 c1 I;have L:m (T.attach.take k) (wr.alloc (D #[H x.1.1,eD x.1.2] 194)):=Q _ _ _ U (cS HJ) (World.grownBy_alloc _ _ U) (λr e=>by cases e);obtain⟨fn,aa,assign,body,hy,hR⟩:=hY _ x _ L (by rw[Vj];omega);clear L;unfold eD at d1 hy hR
   gi_wp2
   refine hR.mono ?_;rintro e W3 (⟨rfl,M,X⟩|⟨rfl,z⟩)
   .have A:=cT M;clear M
    gi_wp2
    go_roundw
    case rel=>exact⟨k+1,by omega,by go_num,by show m _ _;rw[Vf (by omega),cS HX];exact cS A,y.trans (((fU.refl N ok _).alloc (Uc hN y.size) _).trans X)⟩
    case measure=>simp[intOf];omega
   .have A:=cT z;clear z
    gi_wp2
    refine T8 (Ua O _ _ _) O ?_;exact⟨⟨_,O⟩,.inr ⟨_,⟨T.attach.drop (k+1),by rw[<-cS HX,<-Vf (by omega),U7]⟩,cS A⟩⟩
  .have G:¬(k:Int)<(Xg T:Int):=by omega
   obtain rfl:k=Xg T:=by omega
   gi_wp2
   go_end0
   exact⟨⟨_,O⟩,.inl (by have h:=cS HJ;rw[Vc (by rw[List.length_attach];omega)] at h;first|exact h|exact⟨_,rfl,h⟩)⟩
theorem kI(F:Fence)(n:Nat)(P:F.fn 96)(z:F.round=U)(Q:1<=n)(r b o N:Nat)(ok:Nat->Prop)(p:Option Addr)(cap:Nat)(T:Sd.Tb)(R:Xg T<=1000000000)(w:WR)(u:r<K (E w))(A:N<=K (E w))(B:b<K (E w))(C:w.cell? ⟨r,0,U⟩=S (WV (S ⟨b,o,U⟩)))(ht:w.cell? ⟨b,o,U⟩=S (J p (Xg T) cap))(V:∀j (M:j<Xg T),∃g,p=S ⟨g,0,U⟩/\g<N/\ok g/\w.cell? ⟨g,j*2,U⟩=S (H T[j].1)/\w.cell? ⟨g,j*2+1,U⟩=S (eD T[j].2)):SeqStopsK F n prog 96 #[WV (S ⟨r,0,U⟩)] (λx:{ x:WU × Nat // x∈T }=>#[Value.string x.1.1,eD x.1.2]) (fU N ok) (λX=>X=T.attach) (λG=>G <+: T.attach) (Xg T) w:=λl m k W y q _ i h =>
 rC F n P z Q l r b o N ok p cap T R m k i W (Uc A y.size) q ((y.cell (p:=⟨r,0,U⟩) u).trans C) ((y.cell (p:=⟨b,o,U⟩) B).trans ht)
  (λj M=>by obtain⟨g,e,I,L,f,t⟩:=V j M;exact⟨g,e,I,L,(y.cell (p:=⟨g,j*2,U⟩) (Ux I A)).trans f,(y.cell (p:=⟨g,j*2+1,U⟩) (Ux I A)).trans t⟩) h
end Dk
namespace Dk
theorem qq(w:WR)(g o c:Nat)(b:Array WS)(u:TypeId)(y:w.heap[g]?=S (D b 194 (0,0)))(e:o+2<=b.size):(Builtin.clear_ #[56] u #[J (S ⟨g,o,U⟩) 1 c]).run prog w=.ok (WX #[]) (w.setRow g (kA b.toList o [H ⟨#[]⟩,WV U]).toArray):=by
 obtain⟨B,hi,l,z,A⟩:=UB info_entry;have j:=run_storeCells_at prog g o 194 [H ⟨#[]⟩,WV U] 0 b w y (by simpa using e) (by intro v r;simp at r;rcases r with rfl|rfl <;> rfl);have m:(Builtin.zeroCells (Value.agg #[H ⟨#[]⟩,WV U]).cells 1).toList=[H ⟨#[]⟩,WV U]:=by simp[Builtin.zeroCells,Value.cells];rfl
 simp only[U9] at j;simp[Builtin.clear_,run_underlying underlying56,zeroValue,typeInfo,hi,l,m,j,kA]
theorem iS{P:Program}{b:Array Oper}{o:Oper}{a:Act}{w w':WR}{K:Act->WR->Prop}{Q:Exit->Act->WR->Prop}{E:Prop}{v':WS}(m:o.guard=U)(s x:Operand)(t u:TypeId)(e:o.op=Op.call { callee:=Callee.builtin Builtin.append,args := #[s,x],argTypes := #[t,u] })(j l:WS)(r:a.eval s=j)(y:a.eval x=l)(z:(Builtin.append_ #[t,u] o.type #[j,l]).run P w=.ok v' w')(A:K (a.put o.dst v') w'):if Region.wanted o (yielded b a.tmps)=W8 then Oper.wp P o a w K Q else E:=by
 have B:Region.wanted o (yielded b a.tmps)=W8:=by simp[Region.wanted,m]
 rw[T0 B];unfold Oper.wp;simp[execOp,e,resolve,invoke,builtin,r,y,z,Result.andThen];exact A
theorem uU(T:Sd.Tb)(i:Nat):cU (T.eraseIdx i)=(cU T).take (i*2)++cU (T.drop (i+1)):=by
 rw[List.eraseIdx_eq_take_drop_succ,ki,oa]
theorem qA(g cap i:Nat)(b:Array WS)(T:Sd.Tb)(w:WR)(hi:i<Xg T)(au:Xg T<=cap)(ab:cap<=maxLen)(hl:Xg T<=1000000000)(hg:w.heap[g]?=S (D b 194 (0,0)))(ad:b.size=cap*2)(r:b.toList.take (Xg T*2)=cU T):WT prog 147 #[J (S ⟨g,0,U⟩) (Xg T) cap,Z Y i,Z Y ((i:Int)+1)] w λe w'=>e=WZ (J (S ⟨g,0,U⟩) (Xg T-1) cap)/\
   w'.ownsRow 0 194 2 (J (S ⟨g,0,U⟩) (Xg T-1) cap) (Xg T-1) (cU (T.eraseIdx i))/\w.grownBy w' (S g):=by
 obtain⟨i0,aj,av,p,aw⟩:=UB info_entry;obtain⟨B,z⟩:∃B,B=cU (T.drop (i+1)):=⟨_,rfl⟩
 have ae:Xg B=(Xg T-(i+1))*2:=by rw[z,eJ,Vb]
 have af:Xg b.toList=cap*2:=by simpa using ad
 obtain⟨C,G⟩:∃C,C=kA b.toList (i*2) B:=⟨_,rfl⟩
 have M:Xg C=cap*2:=by rw[G,fZ _ _ _ (by omega)];exact af
 have ag:∀v∈B,v.oneCell'=W8:=λv hv=>my (T.drop (i+1)) v (by rw[<-z];exact hv)
 have A:∀j v,B[j]?=S v->w.cell? ⟨g,(i+1)*2+j,U⟩=S v:=λj v hj=>by
  have ak:j<Xg B:=(VU.1 hj).1;rw[T5 w g _ _ _ _ hg];rw[z,<-od,<-r,VG,VP,T0 (by omega)] at hj;simpa using hj
 have o:∀l N m,(N=(i+1)*2\/Xg T-(i+1)=0)->(Builtin.append_ #[56,56] l #[J (S ⟨g,0,U⟩) i cap,J (S ⟨g,N,U⟩) (Xg T-(i+1)) m]).run prog w.drew=.ok (J (S ⟨g,0,U⟩) (Xg T-1) cap) (w.drew.setRow g C.toArray):=λl N m ho=>by
  have h:=run_append_room (P:=prog) w.drew 56 l 194 i0 underlying56 aj g i cap b hg ⟨g,N,U⟩ (Xg T-(i+1)) m B (by rw[p];exact ae)
   (λj v hj=>by
     rcases ho with rfl|h0
     .rw[Vo];exact A j v hj
     .have ak:j<Xg B:=(VU.1 hj).1;omega) ag (by omega) (by rw[p];omega)
  rw[h,p,G];have e:i+(Xg T-(i+1))=Xg T-1:=by omega
  rw[e]
  rfl
 have I:(w.drew.setRow g C.toArray).heap[g]?=S (D C.toArray 194 (0,0)):=U8 w.drew g b _ _ _ hg;obtain⟨y,u⟩:∃y,y=w.drew.setRow g C.toArray:=⟨_,rfl⟩
 rw[<-u] at o I;obtain⟨F,L⟩:∃F,F=kA C ((Xg T-1)*2) [H ⟨#[]⟩,WV U]:=⟨_,rfl⟩
 have Q:Xg F=cap*2:=by rw[L,fZ _ _ _ (by simp;omega)];exact M
 have R:∀(W:WR),W=y->∀l m,(Builtin.clear_ #[56] l #[J (S ⟨g,(Xg T-1)*2,U⟩) 1 m]).run prog W=.ok (WX #[]) (y.setRow g F.toArray):=λW hW l m=>by
  subst hW;have h:=qq W g ((Xg T-1)*2) m C.toArray l I (by simp;omega);rw[h,L]
 have V:F.take ((Xg T-1)*2)=cU (T.eraseIdx i):=by
  have e1:F.take ((Xg T-1)*2)=C.take ((Xg T-1)*2):=by
   rw[L];unfold kA;rw[UO,Vk (by simp;omega),Vx,Nat.min_self]
  rw[e1,uU,<-z,G];unfold kA;have e2:b.toList.take (i*2)=(cU T).take (i*2):=by rw[<-r,Vx,V2 (by omega)]
  have e3:(Xg T-1)*2=(b.toList.take (i*2)++B).length:=by simp;omega
  rw[e3,List.take_left,e2]
 have X:∀W,W=y.setRow g F.toArray->W.ownsRow 0 194 2 (J (S ⟨g,0,U⟩) (Xg T-1) cap) (Xg T-1) (cU (T.eraseIdx i))/\w.grownBy W (S g):=λW hW=>by
  rw[hW];refine⟨⟨by rw[eJ,List.length_eraseIdx,T0 hi],.inr ⟨g,cap,F.toArray,O,Ud _,U8 y g _ _ _ _ I,by omega,ab,by simpa using Q,by simpa using V⟩⟩,?_⟩;refine⟨by rw[u];rfl,by rw[u];rfl,by rw[u];rfl,by rw[u];simp[World.setRow],λk hk an=>?_⟩;have q:k≠g:=λe=>an (by rw[e])
  rw[U5 y g k _ q,u,U5 w.drew g k _ q];rfl
 have t:=cT X;have ah:=cT o;have s:=cT R;unfold maxLen at ab;have ax:(i:Int)<(Xg T:Int):=by omega
 clear X o R V A z ae G L M Q hg ad r I u ag af;by_cases ao:i+1=cap
 .subst ao;have q3:i+1<=Xg T:=by omega
  have q4:(i:Int)+1<=(Xg T:Int):=by omega
  have q5:((i:Int)+1).toNat=i+1:=by omega
  have q6:(0:Int)<=(i:Int)+1:=by omega
  have q7:(Xg T:Int)<=((i+1:Nat):Int):=by omega
  have q8:¬(i+1=Xg T-1):=by omega
  have q9:(i:Int)<=(i:Int)+1:=by omega
  have ai:∀l N m,(Builtin.append_ #[56,56] l #[J (S ⟨g,0,U⟩) i (i+1),J (S ⟨g,N,U⟩) 0 m]).run prog w.drew=.ok (J (S ⟨g,0,U⟩) (Xg T-1) (i+1)) y:=λl N m=>by
   have h:=(cS ah) l N m (Xb (by omega));rw[show (Xg T)-(i+1)=0 by omega] at h;exact h
  have aq:=cT ai;clear ai;go_enter func147,ntmps147;go_wp2_with fail
  go_region_law (refine iS rfl (.tmp 22) (.tmp 25) 56 56 rfl _ _ (by first|rfl|(simp[Act.eval,Act.put];done)|(simp[Act.eval,Act.put];rfl)) (by first|rfl|(simp[Act.eval,Act.put];done)|(simp[Act.eval,Act.put];rfl)) ((cS aq) _ _ _) ?_)
  all_goals
   have aa:∀l m,(Builtin.clear_ #[56] l #[J (S ⟨g,(Xg T-1)*2,U⟩) (Xg T-(Xg T-1)) m]).run prog y=.ok (WX #[]) (y.setRow g F.toArray):=λl m=>by
    rw[show (Xg T)-(Xg T-1)=1 by omega];exact(cS s) y O l m
   go_wp2;go_ret;exact⟨O,(cS t) _ O⟩
 .have ar:¬(cap=i+1):=by omega
  have q0:¬(cap=i):=by omega
  have q1:i<=cap:=by omega
  have q2:(i:Int)<=(cap:Int):=by omega
  have q3:i+1<=Xg T:=by omega
  have q4:(i:Int)+1<=(Xg T:Int):=by omega
  have q5:((i:Int)+1).toNat=i+1:=by omega
  have q6:(0:Int)<=(i:Int)+1:=by omega
  have q7:(Xg T:Int)<=(cap:Int):=by omega
  have q8:¬(cap=Xg T-1):=by omega
  go_enter func147,ntmps147;go_wp2_with fail
  go_region_law (refine iS rfl (.tmp 22) (.tmp 25) 56 56 rfl _ _ (by first|rfl|(simp[Act.eval,Act.put];done)|(simp[Act.eval,Act.put];rfl)) (by first|rfl|(simp[Act.eval,Act.put];done)|(simp[Act.eval,Act.put];rfl)) ((cS ah) _ _ _ (Xa O)) ?_)
  all_goals
   have aa:∀l m,(Builtin.clear_ #[56] l #[J (S ⟨g,(Xg T-1)*2,U⟩) (Xg T-(Xg T-1)) m]).run prog y=.ok (WX #[]) (y.setRow g F.toArray):=λl m=>by
    rw[show (Xg T)-(Xg T-1)=1 by omega];exact(cS s) y O l m
   go_wp2;go_ret;exact⟨O,(cS t) _ O⟩
end Dk
namespace Dk
theorem kt(b o:Nat)(C:Array WS)(G:TypeId)(v:WS)(T:Sd.Tb)(y:WU)(w:WR)(h:eT w b o C G v T)(R:v.ownBlock≠S b):WT prog 97 #[WV (S ⟨b,o,U⟩),H y] w λe w'=>e=WZ (WX #[])/\∃v',dN w w' b o C G v v' (Sd.gM T y):=by
 have V:o<C.size:=(Ug.1 h.at_).1;cases hh:Sd.dF T y with
 |false =>
  have I:Sd.gM T y=T:=by unfold Sd.gM;rw[hh];rfl
  rw[I];have W:=cT hh;have l:=cT h;clear hh h I;go_enter func97,ntmps97;go_wp2_with fail;refine(fY b o C G v T y w (cS l)).mono ?_;rintro e w' ⟨rfl,F⟩;rw[cS W];go_wp2;have u:=(cS l).below F;refine Ub (Ua O _ _ _) O ⟨O,v,?_,u.row,Kept.below F _,Xa O⟩;rw[u.blk];have:C.setIfInBounds o v=C:=by
   have hv:=(Ug.1 u.at_).2;rw[<-hv];simp[Array.setIfInBounds,V]
  rw[this]
 |true =>
  obtain⟨X,_,_⟩:=Sd.gn h.me hh;have I:Sd.gM T y=T.eraseIdx (Sd.dw T y):=by unfold Sd.gM;rw[hh];rfl
  rw[I];have W:=cT hh;have l:=cT h;have hl:=h.len;clear hh h I;go_enter func97,ntmps97;go_wp2_with fail;refine(fY b o C G v T y w (cS l)).mono ?_;rintro e w1 ⟨rfl,F⟩;rw[cS W];have u:=(cS l).below F;have hc:=u.cell;rcases u.row.2 with ⟨_,h0⟩|⟨g,z,q,rfl,_,L,t,s,M,N⟩
  .omega
  .have P:S b≠(Value.slice (S ⟨g,0,U⟩) (Xg T) z).ownBlock:=λe=>R e.symm
   generalize hI:Sd.dw T y=i at X ⊢;have B:=qA g z i q T w1 X t s hl L M N;have HB:=cT u.blk;have p:=cT F;have aa:b<K (E w1):=UW u.blk;have HI:=cT hI;clear u L M N hI F;go_wp2_with fail;refine B.mono ?_;rintro e Q ⟨rfl,A,r⟩;have m:Q.heap[b]?=S (D C G (0,0)):=(r.block b aa (λe=>P e)).trans (cS HB);have ab:Q.cell? ⟨b,o,U⟩=S (J (S ⟨g,0,U⟩) (Xg T) z):=by rw[T5 Q b o _ _ _ m];exact(cS l).at_
   have ad:Q.frozen? ⟨b,o,U⟩=W9:=by simp[World.frozen?,m]
   have j:=cT (And.intro A (And.intro r m));clear A r m B hc;go_wp2;obtain⟨A,r,m⟩:=cS j;refine Ub (Ua O _ _ _) O ⟨O,J (S ⟨g,0,U⟩) (Xg T-1) z,?_,?_,?_,Xa O⟩
   .rw[Ue Q b o _ _ _ m]
   .rw[cS HI,List.length_eraseIdx,T0 X];exact U1 A (λe=>P e.symm) _
   .exact((Kept.below (cS p) _).trans (Kept.grown r (λk hk=>hk.2))).setCell (λhk=>hk.1 O) _
end Dk
end Go.Proofs.YtgkkdpegcieakaaGreatDoor
