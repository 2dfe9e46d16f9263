import Derived.Test.YtgkkdpegcieakaaGreatDoorCz16
import Derived.Test.YtgkkdpegcieakaaGreatDoorCz09
set_option linter.unusedVariables false
set_option linter.unusedSimpArgs false
set_option maxRecDepth 100000
set_option maxHeartbeats 16000000
namespace Go.Proofs.YtgkkdpegcieakaaGreatDoor
open Go.Proofs.Tryz
open Value renaming int→Z
open IntKind renaming i64→Y
open Go renaming World→TJ,Value→TK,Calls→TL
namespace Rt
open Go.RowKit Dk
def sE(k:Nat)(e:Sn.Ce):List TK:=[Z Y (k:Int),Z Y (k:Int),.slice e.p e.n e.c,Z Y e.al]
def kQ(k:Nat)(e:Sn.Ce):TK := .agg #[Z Y (k:Int),.slice e.p e.n e.c,Z Y e.al]
def kI(x y:Nat):Int:=if Sn.lt x y=true then -1 else if Sn.lt y x=true then 1 else 0
theorem kt(x:Int)(w:TJ):TL prog 160 #[Z Y x] w λe b=>e=.returned (.bool false)/\b=w:=by
 go_enter func160,ntmps160;go_wp2;go_ret;exact⟨by simp,rfl⟩
theorem oX(x y:Nat)(w:TJ):TL prog 108 #[Z Y (x:Int),Z Y (y:Int)] w λe j=>e=.returned (Z Y (kI x y))/\j=w:=by
 rcases Nat.lt_trichotomy x y with h|h|h
 .have b:kI x y = -1:=cg (by simpa [Sn.lt] using h);have l:(x:Int)<(y:Int):=by omega
  rw[b];clear b h;go_enter func108,ntmps108;go_wp2_with (go_at_call 160;refine(kt _ _).mono ?_;rintro e j ⟨rfl,rfl⟩);go_ret;exact⟨rfl,rfl⟩
 .subst h;have b:kI x x=0:=by simp[kI,Sn.lt_irrefl]
  rw[b];clear b;go_enter func108,ntmps108;go_wp2_with (go_at_call 160;refine(kt _ _).mono ?_;rintro e j ⟨rfl,rfl⟩);go_ret;exact⟨rfl,rfl⟩
 .have b:kI x y=1:=by simp[kI,Sn.lt];omega
  have l:¬(x:Int)<(y:Int):=by omega
  have m:¬(x:Int)=(y:Int):=by omega
  have r:(y:Int)<(x:Int):=by omega
  rw[b];clear b h;go_enter func108,ntmps108;go_wp2_with (go_at_call 160;refine(kt _ _).mono ?_;rintro e j ⟨rfl,rfl⟩);go_ret;exact⟨rfl,rfl⟩
theorem iu(a s:Nat)(q:Option Addr)(j l:Nat)(m:Int)(y:Nat)(w:TJ):TL prog 125 #[.agg #[Z Y (a:Int),Z Y (s:Int),.slice q j l,Z Y m],Z Y (y:Int)] w λe b=>e=.returned (Z Y (kI a y))/\TI w b:=by
 go_enter func125,ntmps125;go_wp2_with (go_at_call 108;refine(oX _ _ _).mono ?_;rintro e b ⟨rfl,rfl⟩);go_ret;exact⟨rfl,TH.alloc TG _⟩
def iB(w:TJ)(p:Option Addr)(T:Sn.Tb):Prop := ∀j (h:j<T.length),∃g,p=some ⟨g,0,none⟩/\w.cell? ⟨g,j*4,none⟩=some (Z Y ((T[j]).1:Int))/\w.cell? ⟨g,j*4+1,none⟩=some (Z Y ((T[j]).1:Int))/\w.cell? ⟨g,j*4+2,none⟩=some (.slice (T[j]).2.p (T[j]).2.n (T[j]).2.c)/\w.cell? ⟨g,j*4+3,none⟩=some (Z Y (T[j]).2.al)
theorem iB.below{w w':TJ}{p:Option Addr}{T:Sn.Tb}(h:iB w p T)(hb:TI w w'):iB w' p T:=λj u=>by
 obtain⟨g,e,b,l,m,r⟩:=h j u;exact⟨g,e,(hb.cell (cE w _ b)).trans b,(hb.cell (cE w _ l)).trans l,(hb.cell (cE w _ m)).trans m,(hb.cell (cE w _ r)).trans r⟩
theorem mx(p:Option Addr)(cap:Nat)(T:Sn.Tb)(y:Nat)(w:TJ)(h:iB w p T)(P:Sn.da T)(hl:T.length<=1000000000):TL prog 124 #[.slice p T.length cap,Z Y (y:Int),.func (.func 125) #[] #[]] w λe Q=>e=.returned (.tuple #[Z Y (Sn.dm T y:Nat),.bool (Sn.dw T y)])/\TI w Q:=by
 go_enter func124,ntmps124;go_wp2
 go_loopw [9,10] (λa b wr=>∃i j:Nat,i<=j/\j<=T.length/\a=Z Y i/\b=Z Y j/\TI w wr/\(∀k (F:k<T.length),k<i->Sn.lt (T[k]).1 y=true)/\(∀k (F:k<T.length),j<=k->Sn.lt (T[k]).1 y=false)) (λa b _=>(intOf b-intOf a).toNat)
 case atStart=>exact⟨0,T.length,cy _,b7 _,rfl,rfl,cj _ _,λk F h=>by omega,λk F h=>by omega⟩
 case round =>
  obtain⟨i,j,ad,hj,rfl,rfl,r,G,H⟩:=hrel;have I:=cP G;have J:=cP H;clear G H;by_cases ae:i<j
  .have W:(i+j)/2<T.length:=by omega
   have af:i<=(i+j)/2:=by omega
   have ag:(i+j)/2<j:=by omega
   have ab:(i:Int)<(j:Int):=by omega
   obtain⟨g,X,t,s,K,L⟩:=(h.below r) ((i+j)/2) (by omega)
   subst X;obtain⟨x,z⟩:∃x,(T[(i+j)/2]).1=x:=⟨_,rfl⟩
   obtain⟨⟨q,R,S,U⟩,M⟩:∃x,(T[(i+j)/2]).2=x:=⟨_,rfl⟩
   rw[z] at t s;rw[M] at K L;dsimp only at K L;have N:=cP z;clear z M;cases l:Sn.lt x y with
   |true =>
    have A:=cP l;have V:Hid (kI x y = -1):=cg l;clear l;go_wp2_with (go_at_call 125;refine(iu x x q R S U y _).mono ?_;rintro e Q ⟨rfl,m⟩;rw[cO V]);go_roundw
    case rel =>
     refine⟨(i+j)/2+1,j,by omega,hj,by go_num,rfl,r.trans (m.mono r.size),λk F o=>?_,cO J⟩;have u:=Sn.fg P (i:=k) (j:=(i+j)/2) (by omega) W;rw[cO N] at u;exact Sn.oV u (cO A)
    case measure=>simp[intOf];omega
   |false =>
    have V:Hid (0<=kI x y):=by show _<=_;unfold kI;rw[l];simp;split <;> omega
    have A:=cP l;clear l;obtain⟨c,B⟩:∃c,kI x y=c:=⟨_,rfl⟩
    rw[B] at V;have C:=cP B;have ah:0<=c:=cO V;clear B;go_wp2_with (go_at_call 125;refine(iu x x q R S U y _).mono ?_;rintro e Q ⟨rfl,m⟩;rw[cO C]);go_roundw
    case rel =>
     refine⟨i,(i+j)/2,by omega,by omega,rfl,by go_num,r.trans (m.mono r.size),cO I,λk F o=>?_⟩;have u:=Sn.fg P (i:=(i+j)/2) (j:=k) (by omega) F;rw[cO N] at u;cases h2:Sn.lt (T[k]).1 y with
     |false=>rfl
     |true=>have:=Sn.oV u h2;rw[cO A] at this;cases this
    case measure=>simp[intOf];omega
  .have aa:j=i:=by omega
   subst aa;have D:Hid (Sn.dm T y=j):=Sn.jN hj (cO I) (cO J);by_cases E:j<T.length
   .have O:(j:Int)<(T.length:Int):=by omega
    obtain⟨g,X,t,s,K,L⟩:=(h.below r) j E;subst X;have HH:=cP (Sn.iU P y);obtain⟨x,z⟩:∃x,(T[j]).1=x:=⟨_,rfl⟩
    obtain⟨⟨q,R,S,U⟩,M⟩:∃x,(T[j]).2=x:=⟨_,rfl⟩
    rw[z] at t s;rw[M] at K L;dsimp only at K L;have N:=cP z;clear z M;obtain⟨c,B⟩:∃c,kI x y=c:=⟨_,rfl⟩
    have C:=cP B;have HE:Hid (Sn.dw T y=(c == 0)):=by
     show _=_
     have u:(c == 0)=decide (x=y):=by
      rw[<-B];unfold kI;rcases Sn.qv x y with h|h|h
      .rw[cg h,df (Sn.qL h)];rfl
      .subst h;simp[Sn.lt_irrefl]
      .rw[Sn.lt_asymm h,cd (by decide),cg h,df (λe=>Sn.qL h e.symm)];rfl
     rw[u];apply Bool.eq_iff_iff.2;rw[cO HH,decide_eq_true_iff];constructor
     .rintro⟨hq,e⟩;have e2:T[Sn.dm T y]=T[j]:=by congr 1 <;> exact cO D
      rw[e2] at e;rw[<-e];exact(cO N).symm
     .intro e;have e2:T[Sn.dm T y]'(by rw[cO D];exact E)=T[j]:=by congr 1 <;> exact cO D
      exact⟨by rw[cO D];exact E,by rw[e2];exact(cO N).trans e⟩
    clear B;go_wp2_with (go_at_call 125;refine(iu x x q R S U y _).mono ?_;rintro e Q ⟨rfl,m⟩;rw[cO C]);exact cr (v := .tuple #[Z Y j,.bool (c == 0)]) (by simp[results,results124,go_sem]) rfl ⟨by rw[cO D,cO HE],r.trans (m.mono r.size)⟩
   .have O:¬(j:Int)<(T.length:Int):=by omega
    have ai:(T.length:Int)<=(j:Int):=by omega
    have HE:Hid (Sn.dw T y=false):=by
     show _=_
     cases hq:Sn.dw T y with
     |false=>rfl
     |true=>obtain⟨u,_⟩:=(Sn.iU P y).1 hq;rw[cO D] at u;omega
    go_wp2;exact cr (v := .tuple #[Z Y j,.bool false]) (by simp[results,results124,go_sem]) rfl ⟨by rw[cO D,cO HE],r⟩
end Rt
namespace Rt
open Go.RowKit Dk
def cQ(T:Sn.Tb):List TK:=T.flatMap λp=>sE p.1 p.2
theorem pd(p:Nat × Sn.Ce)(t:Sn.Tb):cQ (p::t)=Z Y (p.1:Int)::Z Y (p.1:Int)::.slice p.2.p p.2.n p.2.c::Z Y p.2.al::cQ t:=by simp[cQ,sE]
theorem eH(T:Sn.Tb):(cQ T).length=T.length*4:=by
 induction T with
 |nil=>rfl
 |cons p t b=>rw[pd];simp;omega
theorem kE(A B:Sn.Tb):cQ (A++B)=cQ A++cQ B:=by simp[cQ]
theorem mY(T:Sn.Tb):∀j (h:j<T.length),(cQ T)[j*4]?=some (Z Y ((T[j]).1:Int))/\(cQ T)[j*4+1]?=some (Z Y ((T[j]).1:Int))/\(cQ T)[j*4+2]?=some (.slice (T[j]).2.p (T[j]).2.n (T[j]).2.c)/\(cQ T)[j*4+3]?=some (Z Y (T[j]).2.al):=by
 induction T with
 |nil=>intro j h;simp at h
 |cons p t b =>
  intro j h;rw[pd];cases j with
  |zero=>simp
  |succ j =>
   have:=b j (by simpa using h);rw[show (j+1)*4=j*4+1+1+1+1 by omega];simpa using this
theorem BF(k:Nat)(e:Sn.Ce):∀u∈sE k e,u.oneCell'=true:=by
 intro u hu;simp[sE] at hu;rcases hu with rfl|rfl|rfl <;> rfl
theorem mn(T:Sn.Tb):∀u∈cQ T,u.oneCell'=true:=by
 intro u hu;obtain⟨p,_,b⟩:=CC.1 hu;exact BF _ _ u b
theorem dM{w:TJ}{B:Nat}{v:TK}{T:Sn.Tb}(h:w.ownsRow B 181 4 v T.length (cQ T)):∃p b,v=.slice p T.length b/\iB w p T:=by
 have l:=h;rcases h.2 with ⟨m,r⟩|⟨g,b,u,m,_⟩
 .subst m;refine⟨none,0,by rw[r],λj e=>by omega⟩
 .subst m;refine⟨some ⟨g,0,none⟩,b,rfl,λj e=>⟨g,rfl,?_,?_,?_,?_⟩⟩
  .rw[l.cellAt _ (by omega)];exact(mY T j e).1
  .rw[l.cellAt _ (by omega)];exact(mY T j e).2.1
  .rw[l.cellAt _ (by omega)];exact(mY T j e).2.2.1
  .rw[l.cellAt _ (by omega)];exact(mY T j e).2.2.2
theorem info_centry:(prog.info? 181).map (λi=>(i.zero,i.size,i.bytes))=some (some (.agg #[Z Y 0,Z Y 0,.slice none 0 0,Z Y 0]),4,48):=by kernel_rfl
theorem nM(T:Sn.Tb)(i:Nat):(cQ T).take (i*4)=cQ (T.take i):=by
 induction T generalizing i with
 |nil=>simp[cQ]
 |cons p t b =>
  cases i with
  |zero=>simp[cQ]
  |succ i =>
   rw[pd,show (i+1)*4=i*4+1+1+1+1 by omega,Gk,Gk,Gk,Gk,b,Gk,pd]
theorem oe(T:Sn.Tb)(i:Nat):(cQ T).drop (i*4)=cQ (T.drop i):=by
 induction T generalizing i with
 |nil=>simp[cQ]
 |cons p t b =>
  cases i with
  |zero=>simp
  |succ i =>
   rw[pd,show (i+1)*4=i*4+1+1+1+1 by omega,MC,MC,MC,MC,b,MC]
theorem oF(T:Sn.Tb)(i:Nat)(a:Nat)(b:Sn.Ce):(cQ T).take (i*4)++[Z Y (a:Int),Z Y (a:Int),.slice b.p b.n b.c,Z Y b.al]++(cQ T).drop (i*4)=cQ (T.take i++(a,b)::T.drop i):=by
 rw[nM,oe,kE,pd];simp
def gY(w:TJ)(B:Nat)(v:TK)(T:Sn.Tb)(i:Nat)(a:Nat)(b:Sn.Ce)(e:Ending)(w':TJ):Prop :=
 ∃j,e=.returned j/\w'.ownsRow B 181 4 j (T.length+1) (cQ (T.take i++(a,b)::T.drop i))/\w.grownBy w' v.ownBlock/\(j.ownBlock=v.ownBlock\/j.ownBlock=some w.heap.size)
theorem mh(B x:Nat)(v:TK)(T:Sn.Tb)(a:Nat)(b:Sn.Ce)(w:TJ)(J:B<=w.heap.size)(h:w.ownsRow B 181 4 v T.length (cQ T))(X:T.length<=1000000000)(F:w.heap[x]?=some (.cells #[Z Y (a:Int),Z Y (a:Int),.slice b.p b.n b.c,Z Y b.al] 181 (0,0))):TL prog 84 #[v,Z Y T.length,.slice (some ⟨x,0,none⟩) 1 1] w (gY w B v T T.length a b):=by
 obtain⟨K,hi,z,A,C⟩:=fa info_centry;obtain⟨p,m,rfl,D⟩:=Dk.dd h;have L:T.length<=m:=D;have R:m<=9223372036854775807:=by
  rcases h.2 with ⟨E,S⟩|⟨g,M,U,E,_,_,S,V,_⟩
  .injection E with _ _ E;omega
  .injection E with _ _ E;unfold maxLen at V;omega
 clear D;have N:w.cell? ⟨x,0,none⟩=some (Z Y (a:Int)):=by rw[cn w x 0 _ _ _ F];rfl
 have O:w.cell? ⟨x,1,none⟩=some (Z Y (a:Int)):=by rw[cn w x 1 _ _ _ F];rfl
 have P:w.cell? ⟨x,2,none⟩=some (.slice b.p b.n b.c):=by rw[cn w x 2 _ _ _ F];rfl
 have Q:w.cell? ⟨x,3,none⟩=some (Z Y b.al):=by rw[cn w x 3 _ _ _ F];rfl
 by_cases G:m=T.length
 .subst G;go_enter func84,ntmps84;go_wp2_with (first
   |(at_builtin;go_must (refine eR _ rfl (.tmp 23) (.tmp 24) 109 rfl B 181 K _ 4 48 underlying109 hi z A C rfl (by decide) _ _ _ rfl h ⟨x,0,none⟩ 1 1 (by decide) [Z Y (a:Int),Z Y (a:Int),.slice b.p b.n b.c,Z Y b.al] rfl rfl ?c1 ?c2 ?c3 ?c4 ?c5 ?_))
   |go_in)
  case c1 =>
   intro j u l
   match j,l with
   |0,l=>simp at l;subst l;simpa [Addr.add] using N
   |1,l=>simp at l;subst l;simpa [Addr.add] using O
   |2,l=>simp at l;subst l;simpa [Addr.add] using P
   |3,l=>simp at l;subst l;simpa [Addr.add] using Q
  case c2=>exact BF a b
  case c3=>unfold maxLen;omega
  case c4=>omega
  case c5=>exact J
  intro H w3 I r y _;go_wp2;go_ret;refine⟨H,rfl,?_,r,y⟩;have e:cQ (T.take T.length++(a,b)::T.drop T.length)=cQ T++[Z Y (a:Int),Z Y (a:Int),.slice b.p b.n b.c,Z Y b.al]:=by simp[cQ,sE]
  rw[e];exact I
 .have W:T.length<m:=by omega
  go_enter func84,ntmps84;go_wp2_with (first
   |(at_builtin;go_must (refine eR _ rfl (.tmp 23) (.tmp 24) 109 rfl B 181 K _ 4 48 underlying109 hi z A C rfl (by decide) _ _ _ rfl h ⟨x,0,none⟩ 1 1 (by decide) [Z Y (a:Int),Z Y (a:Int),.slice b.p b.n b.c,Z Y b.al] rfl rfl ?c1 ?c2 ?c3 ?c4 ?c5 ?_))
   |go_in)
  case c1 =>
   intro j u l
   match j,l with
   |0,l=>simp at l;subst l;simpa [Addr.add] using N
   |1,l=>simp at l;subst l;simpa [Addr.add] using O
   |2,l=>simp at l;subst l;simpa [Addr.add] using P
   |3,l=>simp at l;subst l;simpa [Addr.add] using Q
  case c2=>exact BF a b
  case c3=>unfold maxLen;omega
  case c4=>omega
  case c5=>exact J
  intro H w3 I r y _;go_wp2;go_ret;refine⟨H,rfl,?_,r,y⟩;have e:cQ (T.take T.length++(a,b)::T.drop T.length)=cQ T++[Z Y (a:Int),Z Y (a:Int),.slice b.p b.n b.c,Z Y b.al]:=by simp[cQ,sE]
  rw[e];exact I
end Rt
namespace Rt
open Go.RowKit Dk
theorem mS:(prog.info? 181).map (·.size)=some 4:=by
 obtain⟨l,hi,e,b,j⟩:=fa info_centry;rw[hi];simp[b]
theorem wu(w:TJ):(Go.sizeOf 181).run prog w=.ok 4 w:=by
 obtain⟨l,hi,e,b,j⟩:=fa info_centry;simp[sizeOf,typeInfo,hi,b]
theorem yp(w:TJ)(x g o lb r:Nat)(a:Nat)(b:Sn.Ce)(j:Array TK)(l:x≠g)(m:w.heap[x]?=some (.cells #[Z Y (a:Int),Z Y (a:Int),.slice b.p b.n b.c,Z Y b.al] 181 (0,0)))(u:w.heap[g]?=some (.cells j 181 (0,0)))(y:j.size≠0):(callFunc 126 #[.slice (some ⟨x,0,none⟩) 1 1,.slice (some ⟨g,o,none⟩) lb r]).run prog w=.ok (.value (.bool false)) w:=by
 rw[run_callFunc_extern func126 (by kernel_rfl) (by kernel_rfl) (by kernel_rfl) (e:=Extern.SlicesOverlaps.overlaps #[109,109] #[4]) (by kernel_rfl),
  Lib.run_overlaps_apart w 109 4 181 underlying109 4 wu ⟨x,0,none⟩ ⟨g,o,none⟩ 1 1 lb r l 181 181 4 j.size (by simp[World.shape?,m]) (by simp[World.shape?,u]) y (by simp[World.frozen?,m]) (by simp[World.frozen?,m])]
 rfl
theorem kS(B x g cap i:Nat)(l:Array TK)(T:Sn.Tb)(a:Nat)(b:Sn.Ce)(w:TJ)(hi:i<T.length)(hB:B<=g)(M:T.length+1<=cap)(U:cap<=maxLen)(hl:T.length<=1000000000)(X:x≠g)(q:w.heap[g]?=some (.cells l 181 (0,0)))(t:l.size=cap*4)(m:l.toList.take (T.length*4)=cQ T)(hx:w.heap[x]?=some (.cells #[Z Y (a:Int),Z Y (a:Int),.slice b.p b.n b.c,Z Y b.al] 181 (0,0))):TL prog 84 #[.slice (some ⟨g,0,none⟩) T.length cap,Z Y i,.slice (some ⟨x,0,none⟩) 1 1] w (gY w B (.slice (some ⟨g,0,none⟩) T.length cap) T i a b):=by
 have ag:∀o lb cb,(callFunc 126 #[.slice (some ⟨x,0,none⟩) 1 1,.slice (some ⟨g,o,none⟩) lb cb]).run prog w=.ok (.value (.bool false)) w:=λo lb cb=>yp w x g o lb cb a b l X hx q (by omega)
 obtain⟨D,s⟩:∃D,D=(cQ T).drop (i*4):=⟨_,rfl⟩
 obtain⟨V,u⟩:∃V:List TK,V=[Z Y (a:Int),Z Y (a:Int),.slice b.p b.n b.c,Z Y b.al]:=⟨_,rfl⟩
 have aa:D.length=(T.length-i)*4:=by rw[s,uT,eH];omega
 have ah:V.length=4:=by rw[u];rfl
 have ab:l.toList.length=cap*4:=by simpa using t
 obtain⟨z,A⟩:∃z,z=kr l.toList (i*4+V.length) D:=⟨_,rfl⟩
 obtain⟨N,C⟩:∃N,N=kr z (i*4) V:=⟨_,rfl⟩
 have F:z.length=cap*4:=by rw[A,fZ _ _ _ (by omega)];exact ab
 have G:N.length=cap*4:=by rw[C,fZ _ _ _ (by omega)];exact F
 have H:N.take ((T.length+1)*4)=cQ (T.take i++(a,b)::T.drop i):=by
  have e:=re l.toList (i*4) V D 0 (by omega);rw[<-A,<-C] at e;have e2:i*4+V.length+D.length=(T.length+1)*4:=by omega
  rw[e2] at e;rw[e,<-oF,<-u,<-s]
  congr 2
  rw[<-m,DB,QD (by omega)]
 have y:∀j v,D[j]?=some v->w.cell? ⟨g,i*4+j,none⟩=some v:=λj v I=>by
  have ak:j<D.length:=(KK.1 I).1;rw[cn w g _ _ _ _ q];rw[s,<-m,Gt,Hj,cg (by omega)] at I;simpa using I
 have ad:∀v∈D,v.oneCell'=true:=λv hv=>mn T v (by rw[s] at hv;exact Ep hv)
 have J:∀O Q sc,(Builtin.copy_ #[109,109] O #[.slice (some ⟨g,(i+1)*4,none⟩) (T.length+1-(i+1)) Q,.slice (some ⟨g,i*4,none⟩) (T.length+1-i) sc]).run prog w.drew=.ok (goInt ((T.length-i:Nat):Int)) (w.drew.setRow g z.toArray):=λO Q sc=>by
  have h:=eu (P:=prog) w.drew 109 109 O 181 4 g ((i+1)*4) (T.length+1-(i+1)) Q ⟨g,i*4,none⟩ (T.length+1-i) sc l 181 D underlying109 mS q (T.length-i) (by simp only[Ho];split <;> omega) aa
   (λj v I=>by rw[Ax];exact y j v I) (by omega) ad
  rw[h,A];unfold kr;rw[show i*4+V.length=(i+1)*4 by omega]
 have E:(w.drew.setRow g z.toArray).heap[g]?=some (.cells z.toArray 181 (0,0)):=sT w.drew g l _ _ _ q;have R:(w.drew.setRow g z.toArray).heap[x]?=some (.cells #[Z Y (a:Int),Z Y (a:Int),.slice b.p b.n b.c,Z Y b.al] 181 (0,0)):=by
  rw[qk w.drew g x _ X];exact hx
 obtain⟨S,r⟩:∃S,S=w.drew.setRow g z.toArray:=⟨_,rfl⟩
 rw[<-r] at J E R;have ae:∀(W:TJ),W=S->∀O Q,(Builtin.copy_ #[109,109] O #[.slice (some ⟨g,i*4,none⟩) (T.length+1-i) Q,.slice (some ⟨x,0,none⟩) 1 1]).run prog W=.ok (goInt 1) (S.setRow g N.toArray):=λW hW O Q=>by
  subst hW;have h:=eu (P:=prog) W 109 109 O 181 4 g (i*4) (T.length+1-i) Q ⟨x,0,none⟩ 1 1 z.toArray 181 V underlying109 mS E 1 (by simp only[Ho];split <;> omega) (by omega)
   (λj v I=>by
     rw[Ax,cn W x _ _ _ _ R];rw[u] at I;simpa using I) (by simp;omega) (by rw[u];exact BF a b)
  rw[h,C]
  rfl
 have K:∀W,W=S.setRow g N.toArray->W.ownsRow B 181 4 (.slice (some ⟨g,0,none⟩) (T.length+1) cap) (T.length+1) (cQ (T.take i++(a,b)::T.drop i))/\w.grownBy W (Value.ownBlock (.slice (some ⟨g,0,none⟩) T.length cap)):=λW hW=>by
  rw[hW];refine⟨⟨by rw[eH];simp;omega,.inr ⟨g,cap,N.toArray,rfl,hB,sT S g _ _ _ _ E,M,U,by simpa using G,by simpa using H⟩⟩,?_⟩;refine⟨by rw[r];rfl,by rw[r];rfl,by rw[r];rfl,by rw[r];simp[World.setRow],λk hk ai=>?_⟩;have L:k≠g:=λe=>ai (by rw[e];rfl)
  rw[qk S g k _ L,r,qk w.drew g k _ L];rfl
 have af:=cP K;unfold maxLen at U;have an:IntKind.i64.wrap ((i:Int)+1)=(i:Int)+1:=by rw[fp];omega
 have ao:(0:Int)<=(i:Int)+1:=by omega
 have aq:i<=T.length:=by omega
 have aj:(i:Int)<=(T.length:Int):=by omega
 have ar:((i:Int)+1).toNat=i+1:=by omega
 have au:(i:Int)<=(T.length:Int)+1:=by omega
 have av:¬((i:Int)=(T.length:Int)):=by omega
 have aw:¬((cap:Int)<(T.length:Int)+1):=by omega
 have ax:¬(cap=i+1):=by omega
 have ay:¬(cap=i):=by omega
 clear K H y ad s u aa ah ab A C F G q hx t m E R r;go_enter func84,ntmps84;go_wp2_with (simp only[ag])
 go_region_law (refine step_copy_runI rfl (.tmp 73) (.tmp 76) 109 109 rfl _ _ (by simp[Act.eval,Act.put];rfl) (by simp[Act.eval,Act.put];rfl) (J _ _ _) ?_)
 go_wp2_with (first|(at_builtin;go_must (refine wpList_copy_runI _ rfl (.tmp 80) (.tmp 81) 109 109 rfl _ _ rfl rfl (ae _ rfl _ _) ?_))|go_in);go_wp2;go_ret;obtain⟨q1,q2⟩:=(cO af) _ rfl;exact⟨_,rfl,q1,q2,by first|exact Or.inl rfl|exact Or.inr rfl⟩
theorem lk(B x g cap i:Nat)(C:Array TK)(T:Sn.Tb)(a:Nat)(b:Sn.Ce)(w:TJ)(hi:i<T.length)(hB:B<=w.heap.size)(o:cap=T.length)(hl:T.length<=1000000000)(hg:w.heap[g]?=some (.cells C 181 (0,0)))(E:C.toList.take (T.length*4)=cQ T)(an:T.length*4<=C.size)(hx:w.heap[x]?=some (.cells #[Z Y (a:Int),Z Y (a:Int),.slice b.p b.n b.c,Z Y b.al] 181 (0,0))):TL prog 84 #[.slice (some ⟨g,0,none⟩) T.length cap,Z Y i,.slice (some ⟨x,0,none⟩) 1 1] w (gY w B (.slice (some ⟨g,0,none⟩) T.length cap) T i a b):=by
 subst o;obtain⟨i0,ao,aq,ar,aa⟩:=fa info_centry;obtain⟨D,hD⟩:∃D,D=(cQ T).drop (i*4):=⟨_,rfl⟩
 obtain⟨V,F⟩:∃V:List TK,V=[Z Y (a:Int),Z Y (a:Int),.slice b.p b.n b.c,Z Y b.al]:=⟨_,rfl⟩
 have ab:D.length=(T.length-i)*4:=by rw[hD,uT,eH];omega
 have au:V.length=4:=by rw[F];rfl
 have u:∀j v,(cQ T)[j]?=some v->w.cell? ⟨g,j,none⟩=some v:=λj v y=>by
  have av:j<(cQ T).length:=(KK.1 y).1;rw[eH] at av;rw[cn w g _ _ _ _ hg];rw[<-E,Hj,cg (by omega)] at y;simpa using y
 have U:i+(T.length+1-i)=T.length+1:=by omega
 have hold:(Builtin.firstCells i0.size i (.slice (some ⟨g,0,none⟩) i T.length)).run prog w.drew=.ok ((cQ T).take (i*4)).toArray w.drew:=by
  rw[ar];exact run_firstCells_some w.drew 4 i ⟨g,0,none⟩ i T.length ((cQ T).take (i*4)) (by rw[A3,eH];omega) (λj v y=>by
   rw[Ax];rw[Hj] at y;split at y
   .simpa using u j v y
   .cases y)
 obtain⟨G,hG⟩:∃G,G=grownCap w (T.length+1) T.length 181:=⟨_,rfl⟩
 have aw:T.length+1<=G:=by rw[hG];exact grownCap_ge w _ _ _
 have ad:G<=maxLen:=by rw[hG];exact grownCap_le_maxLen w _ _ _ (by unfold maxLen;omega)
 obtain⟨l,z⟩:∃l:Array TK,l=((cQ T).take (i*4)).toArray++Builtin.zeroCells (Value.agg #[Z Y 0,Z Y 0,.slice none 0 0,Z Y 0]).cells (T.length+1-i)++Builtin.zeroCells (Value.agg #[Z Y 0,Z Y 0,.slice none 0 0,Z Y 0]).cells (G-(T.length+1)):=⟨_,rfl⟩
 have ae:∀H,(Builtin.append_ #[109,3] H #[.slice (some ⟨g,0,none⟩) i T.length,Z Y ((T.length:Int)+1-(i:Int))]).run prog w =
   .ok (.slice (some ⟨w.heap.size,0,none⟩) (T.length+1) G) (w.drew.alloc (.cells l 181)):=λH=>by
  have h:=Lib.run_append_grow_zeros w 109 3 H 181 i0 _ Y Y underlying109 underlying3 ao aq (some ⟨g,0,none⟩) i T.length ((cQ T).take (i*4)) hold (T.length+1-i) (by omega) (by omega) (by omega) (by omega) (by rw[aa];omega) (by rw[aa,U];exact growslice_fits (by omega) (by omega));rw[U] at h;rw[show (T.length:Int)+1-(i:Int)=((T.length+1-i:Nat):Int) by omega,z,hG];exact h
 have X:l.toList.length=G*4:=by
  rw[z];simp[Builtin.zeroCells,Value.cells,eH];omega
 have af:l.toList.take (i*4)=(cQ T).take (i*4):=by
  rw[z];simp only[QU,mR];rw[zs (by simp[eH];omega)];exact(DB ..).trans (by rw[Nat.min_self])
 obtain⟨M,K⟩:∃M,M=kr l.toList (i*4) V:=⟨_,rfl⟩
 obtain⟨q,L⟩:∃q,q=kr M (i*4+V.length) D:=⟨_,rfl⟩
 have N:M.length=G*4:=by rw[K,fZ _ _ _ (by omega)];exact X
 have O:q.length=G*4:=by rw[L,fZ _ _ _ (by omega)];exact N
 have Q:q.take ((T.length+1)*4)=cQ (T.take i++(a,b)::T.drop i):=by
  have e:=rF l.toList (i*4) V D (by omega);rw[<-K,<-L] at e;have e2:i*4+V.length+D.length=(T.length+1)*4:=by omega
  rw[e2] at e;rw[e,<-oF,<-F,<-hD,af]
 have ax:g<w.heap.size:=ps hg;have ay:x<w.heap.size:=ps hx;obtain⟨I,m⟩:∃I,I=w.drew.alloc (.cells l 181):=⟨_,rfl⟩
 have t:I.heap[w.heap.size]?=some (.cells l 181 (0,0)):=by rw[m];exact ct w.drew _
 have ag:I.heap[x]?=some (.cells #[Z Y (a:Int),Z Y (a:Int),.slice b.p b.n b.c,Z Y b.al] 181 (0,0)):=by rw[m,cN w.drew _ x ay];exact hx
 have ah:I.heap[g]?=some (.cells C 181 (0,0)):=by rw[m,cN w.drew _ g ax];exact hg
 rw[<-m] at ae;have R:∀W,W=I->∀H s,(Builtin.copy_ #[109,109] H #[.slice (some ⟨w.heap.size,i*4,none⟩) (T.length+1-i) s,.slice (some ⟨x,0,none⟩) 1 1]).run prog W=.ok (goInt 1) (I.setRow w.heap.size M.toArray):=λW hW H s=>by
  subst hW;have h:=eu (P:=prog) W 109 109 H 181 4 w.heap.size (i*4) (T.length+1-i) s ⟨x,0,none⟩ 1 1 l 181 V underlying109 mS t 1 (by simp only[Ho];split <;> omega) (by omega)
   (λj v y=>by
     rw[Ax,cn W x _ _ _ _ ag];rw[F] at y;simpa using y) (by rw[<-zh,X];omega) (by rw[F];exact BF a b)
  rw[h,K]
  rfl
 obtain⟨A,r⟩:∃A,A=I.setRow w.heap.size M.toArray:=⟨_,rfl⟩
 have J:A.heap[w.heap.size]?=some (.cells M.toArray 181 (0,0)):=by rw[r];exact sT I _ _ _ _ _ t
 have ai:A.heap[g]?=some (.cells C 181 (0,0)):=by rw[r,qk I _ g _ (by omega)];exact ah
 rw[<-r] at R;have aj:∀W,W=A.drew->∀H s sc,(Builtin.copy_ #[109,109] H #[.slice (some ⟨w.heap.size,(i+1)*4,none⟩) (T.length+1-(i+1)) s,.slice (some ⟨g,i*4,none⟩) (T.length-i) sc]).run prog W=.ok (goInt ((T.length-i:Nat):Int)) (A.drew.setRow w.heap.size q.toArray):=λW hW H s sc=>by
  subst hW;have h:=eu (P:=prog) A.drew 109 109 H 181 4 w.heap.size ((i+1)*4) (T.length+1-(i+1)) s ⟨g,i*4,none⟩ (T.length-i) sc M.toArray 181 D underlying109 mS J (T.length-i) (by simp only[Ho];split <;> omega) ab
   (λj v y=>by
     rw[Ax];refine(cn A.drew g _ _ _ _ ai).trans ?_;rw[<-cn w g _ _ _ _ hg];exact u _ v (by rw[hD,Gt] at y;exact y)) (by simp;omega) (λv hv=>mn T v (by rw[hD] at hv;exact Ep hv))
  rw[h,L];unfold kr;rw[show i*4+V.length=(i+1)*4 by omega]
 have S:∀W,W=A.drew.setRow w.heap.size q.toArray->W.ownsRow B 181 4 (.slice (some ⟨w.heap.size,0,none⟩) (T.length+1) G) (T.length+1) (cQ (T.take i++(a,b)::T.drop i))/\w.grownBy W (Value.ownBlock (.slice (some ⟨g,0,none⟩) T.length T.length)):=λW hW=>by
  rw[hW];refine⟨⟨by rw[eH];simp;omega,.inr ⟨w.heap.size,G,q.toArray,rfl,hB,sT A.drew _ _ _ _ _ J,aw,ad,by simpa using O,by simpa using Q⟩⟩,?_⟩;refine⟨by rw[r,m];rfl,by rw[r,m];rfl,by rw[r,m];rfl,by rw[r,m];simp[World.setRow],λk hk aB=>?_⟩;rw[qk A.drew _ k _ (by omega)]
  show A.heap[k]?=_
  rw[r,qk I _ k _ (by omega),m,cN w.drew _ k hk];rfl
 have ak:=cP S;unfold maxLen at ad;have aC:IntKind.i64.wrap ((i:Int)+1)=(i:Int)+1:=by rw[fp];omega
 have aD:(0:Int)<=(i:Int)+1:=by omega
 have aE:i<=T.length:=by omega
 have az:(i:Int)<=(T.length:Int):=by omega
 have aF:((i:Int)+1).toNat=i+1:=by omega
 have aG:(i:Int)<=(T.length:Int)+1:=by omega
 have aH:¬((i:Int)=(T.length:Int)):=by omega
 have aI:¬(G=i):=by omega
 have aA:¬(G=i+1):=by omega
 have aJ:¬(T.length=i):=by omega
 clear S Q u hD F ab au K L N O hg hx an E ah ag m r t J ai X af z hG hold U;go_enter func84,ntmps84;go_wp2_with (first
  |(at_builtin;refine Lib.wpList_append_run _ rfl (.tmp 34) (.tmp 39) _ _ rfl _ _ rfl rfl _ _ (ae _) ?_)
  |(at_builtin;refine wpList_copy_runI _ rfl (.tmp 43) (.tmp 44) 109 109 rfl _ _ rfl rfl (R _ rfl _ _) ?_))
 go_region_law (refine step_copy_runI rfl (.tmp 50) (.tmp 53) 109 109 rfl _ _ (by simp[Act.eval,Act.put];rfl) (by simp[Act.eval,Act.put];rfl) (aj _ rfl _ _ _) ?_)
 go_wp2;go_ret;obtain⟨q1,q2⟩:=(cO ak) _ rfl;exact⟨_,rfl,q1,q2,by first|exact Or.inl rfl|exact Or.inr rfl⟩
theorem mu(B x:Nat)(v:TK)(T:Sn.Tb)(i:Nat)(a:Nat)(b:Sn.Ce)(w:TJ)(hi:i<=T.length)(E:B<=w.heap.size)(h:w.ownsRow B 181 4 v T.length (cQ T))(u:T.length<=1000000000)(y:v.ownBlock≠some x)(z:w.heap[x]?=some (.cells #[Z Y (a:Int),Z Y (a:Int),.slice b.p b.n b.c,Z Y b.al] 181 (0,0))):TL prog 84 #[v,Z Y i,.slice (some ⟨x,0,none⟩) 1 1] w (gY w B v T i a b):=by
 by_cases G:i=T.length
 .subst G;exact mh B x v T a b w E h u z
 .rcases h.2 with ⟨F,J⟩|⟨g,l,m,F,A,r,H,C,D,j⟩
  .omega
  .subst F;by_cases I:T.length+1<=l
   .exact kS B x g l i m T a b w (by omega) A I C u (λe=>y (by rw[e];rfl)) r D j z
   .exact lk B x g l i m T a b w (by omega) E (by omega) u r j (by omega) z
end Rt
namespace Rt
open Go.RowKit Dk
structure eV (w:TJ) (D o:Nat) (C:Array TK) (tD:TypeId) (v:TK) (T:Sn.Tb):Prop where
 blk:w.heap[D]?=some (.cells C tD (0,0))
 at_:C[o]?=some v
 row:w.ownsRow 0 181 4 v T.length (cQ T)
 mg:Sn.da T
 len:T.length<=1000000000
theorem eV.cell{w:TJ}{D o:Nat}{C:Array TK}{b:TypeId}{v:TK}{T:Sn.Tb}(h:eV w D o C b v T):w.cell? ⟨D,o,none⟩=some v:=by
 rw[cn w D o _ _ _ h.blk];exact h.at_
theorem eV.below{w w':TJ}{D o:Nat}{C:Array TK}{b:TypeId}{v:TK}{T:Sn.Tb}(h:eV w D o C b v T)(hb:TI w w'):eV w' D o C b v T:=⟨(hb.block D (ps h.blk)).trans h.blk,h.at_,cW h.row hb,h.mg,h.len⟩
theorem fW(D o:Nat)(C:Array TK)(l:TypeId)(v:TK)(T:Sn.Tb)(y:Nat)(w:TJ)(h:eV w D o C l v T):TL prog 83 #[.pointer (some ⟨D,o,none⟩),Z Y (y:Int)] w λe j=>e=.returned (.tuple #[Z Y (Sn.dm T y:Nat),.bool (Sn.dw T y)])/\TI w j:=by
 obtain⟨p,b,rfl,m⟩:=dM h.row;have A:=h.cell;have r:=h.mg;have u:=h.len;clear h;go_enter func83,ntmps83;go_wp2_with fail;refine(mx p b T y w m r u).mono ?_;rintro e j ⟨rfl,z⟩;go_wp2;exact cr (v := .tuple #[Z Y (Sn.dm T y:Nat),.bool (Sn.dw T y)]) (by simp[results,results83,go_sem]) rfl ⟨rfl,z⟩
end Rt
namespace Rt
open Go.RowKit Dk
structure dK (w w':TJ) (D o:Nat) (C:Array TK) (tD:TypeId) (v v':TK) (T':Sn.Tb):Prop where
 blk:w'.heap[D]?=some (.cells (C.setIfInBounds o v') tD (0,0))
 row:w'.ownsRow 0 181 4 v' T'.length (cQ T')
 kept:Kept w w' (λk=>k≠D/\v.ownBlock≠some k)
 new:v'.ownBlock=v.ownBlock\/∃g,v'.ownBlock=some g/\w.heap.size<=g
theorem n5(D o:Nat)(C:Array TK)(O:TypeId)(v:TK)(T:Sn.Tb)(y:Nat)(f:Sn.Ce)(w:TJ)(h:eV w D o C O v T)(P:v.ownBlock≠some D):TL prog 46 #[.pointer (some ⟨D,o,none⟩),Z Y (y:Int),kQ y f] w λe w'=>e=.returned (.bool (!Sn.dw T y))/\∃v',dK w w' D o C O v v' (if Sn.dw T y=true then T else Sn.gI T y f):=by
 have ad:o<C.size:=(cB.1 h.at_).1;obtain⟨J,K,L,M⟩:=f;unfold kQ;dsimp only;have B:Hid (∀W,W=w.alloc (.cells #[Z Y (y:Int),.slice J K L,Z Y M] 80)->W.heap[w.heap.size]?=some (.cells #[Z Y (y:Int),.slice J K L,Z Y M] 80 (0,0))/\TI w W):=by
  show ∀W,_
  rintro W rfl;exact⟨ct w _,(cj _ w).alloc TG _⟩
 cases hh:Sn.dw T y with
 |true =>
  have HH:=cP hh;have j:=cP h;clear hh h;go_enter func46,ntmps46;go_wp2_with fail;generalize F:World.alloc _ _=Q;obtain⟨E,l⟩:=cO B Q F.symm;clear F B;refine(fW D o C O v T y Q ((cO j).below l)).mono ?_;rintro e w' ⟨rfl,R⟩;rw[cO HH];go_wp2;go_ret;have u:=l.trans (R.mono l.size);have G:=(cO j).below u;refine⟨rfl,v,?_,?_,Kept.below u _,Or.inl rfl⟩
  .rw[G.blk];have:C.setIfInBounds o v=C:=by
    have hv:=(cB.1 G.at_).2;rw[<-hv];simp[Array.setIfInBounds,ad]
   rw[this]
  .exact G.row
 |false =>
  have HH:=cP hh;have j:=cP h;have hl:=h.len;clear hh h;go_enter func46,ntmps46;go_wp2_with fail;generalize F:World.alloc _ _=Q;obtain⟨E,l⟩:=cO B Q F.symm;clear F B;refine(fW D o C O v T y Q ((cO j).below l)).mono ?_;rintro e m ⟨rfl,R⟩;rw[cO HH];have S:=(R.block _ (ps E)).trans E;have u:=l.trans (R.mono l.size);clear R l E;have G:=(cO j).below u;have hu:=G.blk;have ho:=G.row;have hc:=G.cell;have ae:D<m.heap.size:=ps hu;have x0:m.cell? ⟨w.heap.size,0,none⟩=some (Z Y (y:Int)):=by rw[cn m _ 0 _ _ _ S];rfl
  have x1:m.cell? ⟨w.heap.size,1,none⟩=some (.slice J K L):=by rw[cn m _ 1 _ _ _ S];rfl
  have x2:m.cell? ⟨w.heap.size,2,none⟩=some (Z Y M):=by rw[cn m _ 2 _ _ _ S];rfl
  have aj:w.heap.size<m.heap.size:=ps S;obtain⟨p,r,rfl,_⟩:=Dk.dd ho;have U:=Sn.lY T y;have V:Hid (∀W,W=(m.alloc (.cells #[Z Y (y:Int),Z Y (y:Int),.slice J K L,Z Y M] 181)).drew->
    TL prog 84 #[.slice p T.length r,Z Y (Sn.dm T y:Nat),.slice (some ⟨m.heap.size,0,none⟩) 1 1] W λe z=>∃H b,e=.returned (.slice H (T.length+1) b)/\z.cell? ⟨D,o,none⟩=some (.slice p T.length r)/\z.frozen? ⟨D,o,none⟩=false/\
     Hid (dK w (z.setCell ⟨D,o,none⟩ (.slice H (T.length+1) b)) D o C O (.slice p T.length r) (.slice H (T.length+1) b) (Sn.gI T y ⟨J,K,L,M⟩))):=by
   show ∀W,_
   intro W F;have A:TI m W:=by rw[F];exact(TH.alloc TG _).drew
   have af:W.heap[m.heap.size]?=some (.cells #[Z Y (y:Int),Z Y (y:Int),.slice J K L,Z Y M] 181 (0,0)):=by rw[F];exact ct m _
   have ag:=cW ho A;refine(mu 0 m.heap.size (.slice p T.length r) T (Sn.dm T y) y ⟨J,K,L,M⟩ W U (cy _) ag hl (λI=>by have:=(ho.lt _ I).2;omega) af).mono ?_;rintro e z ⟨v',rfl,X,q,t⟩;have N:z.heap[D]?=some (.cells C O (0,0)):=by
    rw[q.block D (by have:=A.size;omega) (λI=>P I.symm),A.block D ae];exact hu
   have s:z.cell? ⟨D,o,none⟩=some (.slice p T.length r):=by rw[cn z D o _ _ _ N];exact(cO j).at_
   have aa:z.frozen? ⟨D,o,none⟩=false:=by simp[World.frozen?,N]
   obtain⟨H,b,rfl,_⟩:=Dk.dd X;refine⟨H,b,rfl,s,aa,?_⟩
   show dK _ _ _ _ _ _ _ _ _
   have ah:Kept w z (λk=>k≠D/\(Value.slice p T.length r).ownBlock≠some k):=(Kept.below u _).trans ((Kept.below A _).trans (Kept.grown q (λk hk=>hk.2)));have ak:m.heap.size<=W.heap.size:=A.size;have ab:(Value.slice H (T.length+1) b).ownBlock=(Value.slice p T.length r).ownBlock\/∃g,(Value.slice H (T.length+1) b).ownBlock=some g/\w.heap.size<=g:=by
    rcases t with e|e
    .exact Or.inl e
    .exact Or.inr ⟨_,e,by omega⟩
   refine⟨?_,?_,ah.setCell (λhk=>hk.1 rfl) _,ab⟩
   .rw[cA z D o _ _ _ N]
   .rw[Sn.iS];refine v8 X (λI=>?_) _;rcases t with e|e
    .rw[e] at I;exact P I
    .rw[e] at I;have:W.heap.size=D:=iP I;omega
  have ai:Hid (∀(args:Array TK) (w:TJ),(callFunc 84 args).run prog w=.ok (.enter 84 args) w):=cV func84 (by kernel_rfl) (by kernel_rfl);clear hu ho G S j u;go_upto_region 4 with fail
  go_region_law (refine di (by rfl) _ _ _ (by rfl) 84 (by rfl) _ (by rfl) (cO ai) ((cO V) _ rfl) ?_;rintro e z ⟨H,b,rfl,s,aa,HT⟩;dsimp only)
  all_goals
   go_wp2;go_ret;exact⟨rfl,_,cO HT⟩
end Rt
namespace Rt
open Go.RowKit Dk
theorem qE(w:TJ)(g o c:Nat)(b:Array TK)(u:TypeId)(y:w.heap[g]?=some (.cells b 181 (0,0)))(e:o+4<=b.size):(Builtin.clear_ #[109] u #[.slice (some ⟨g,o,none⟩) 1 c]).run prog w=.ok (.tuple #[]) (w.setRow g (kr b.toList o [Z Y 0,Z Y 0,.slice none 0 0,Z Y 0]).toArray):=by
 obtain⟨B,hi,l,z,A⟩:=fa info_centry;have j:=run_storeCells_at prog g o 181 [Z Y 0,Z Y 0,.slice none 0 0,Z Y 0] 0 b w y (by simpa using e) (by intro v r;simp at r;rcases r with rfl|rfl|rfl <;> rfl);have m:(Builtin.zeroCells (Value.agg #[Z Y 0,Z Y 0,.slice none 0 0,Z Y 0]).cells 1).toList=[Z Y 0,Z Y 0,.slice none 0 0,Z Y 0]:=by simp[Builtin.zeroCells,Value.cells];rfl
 simp only[ub] at j;simp[Builtin.clear_,run_underlying underlying109,zeroValue,typeInfo,hi,l,m,j,kr]
theorem uN(T:Sn.Tb)(i:Nat):cQ (T.eraseIdx i)=(cQ T).take (i*4)++cQ (T.drop (i+1)):=by
 rw[List.eraseIdx_eq_take_drop_succ,kE,nM]
theorem qh(g cap i:Nat)(b:Array TK)(T:Sn.Tb)(w:TJ)(hi:i<T.length)(ai:T.length<=cap)(X:cap<=maxLen)(hl:T.length<=1000000000)(hg:w.heap[g]?=some (.cells b 181 (0,0)))(q:b.size=cap*4)(r:b.toList.take (T.length*4)=cQ T):TL prog 207 #[.slice (some ⟨g,0,none⟩) T.length cap,Z Y i,Z Y ((i:Int)+1)] w λe w'=>e=.returned (.slice (some ⟨g,0,none⟩) (T.length-1) cap)/\
   w'.ownsRow 0 181 4 (.slice (some ⟨g,0,none⟩) (T.length-1) cap) (T.length-1) (cQ (T.eraseIdx i))/\w.grownBy w' (some g):=by
 obtain⟨i0,ab,aj,R,ak⟩:=fa info_centry;obtain⟨B,z⟩:∃B,B=cQ (T.drop (i+1)):=⟨_,rfl⟩
 have t:B.length=(T.length-(i+1))*4:=by rw[z,eH,uT]
 have s:b.toList.length=cap*4:=by simpa using q
 obtain⟨C,E⟩:∃C,C=kr b.toList (i*4) B:=⟨_,rfl⟩
 have H:C.length=cap*4:=by rw[E,fZ _ _ _ (by omega)];exact s
 have p:∀v∈B,v.oneCell'=true:=λv hv=>mn (T.drop (i+1)) v (by rw[<-z];exact hv)
 have A:∀j v,B[j]?=some v->w.cell? ⟨g,(i+1)*4+j,none⟩=some v:=λj v V=>by
  have ad:j<B.length:=(KK.1 V).1;rw[cn w g _ _ _ _ hg];rw[z,<-oe,<-r,Gt,Hj,cg (by omega)] at V;simpa using V
 have S:∀l I m,(I=(i+1)*4\/T.length-(i+1)=0)->(Builtin.append_ #[109,109] l #[.slice (some ⟨g,0,none⟩) i cap,.slice (some ⟨g,I,none⟩) (T.length-(i+1)) m]).run prog w.drew=.ok (.slice (some ⟨g,0,none⟩) (T.length-1) cap) (w.drew.setRow g C.toArray):=λl I m ho=>by
  have h:=run_append_room (P:=prog) w.drew 109 l 181 i0 underlying109 ab g i cap b hg ⟨g,I,none⟩ (T.length-(i+1)) m B (by rw[R];exact t)
   (λj v V=>by
     rcases ho with rfl|h0
     .rw[Ax];exact A j v V
     .have ad:j<B.length:=(KK.1 V).1;omega) p (by omega) (by rw[R];omega)
  rw[h,R,E];have e:i+(T.length-(i+1))=T.length-1:=by omega
  rw[e]
  rfl
 have F:(w.drew.setRow g C.toArray).heap[g]?=some (.cells C.toArray 181 (0,0)):=sT w.drew g b _ _ _ hg;obtain⟨y,u⟩:∃y,y=w.drew.setRow g C.toArray:=⟨_,rfl⟩
 rw[<-u] at S F;obtain⟨D,G⟩:∃D,D=kr C ((T.length-1)*4) [Z Y 0,Z Y 0,.slice none 0 0,Z Y 0]:=⟨_,rfl⟩
 have J:D.length=cap*4:=by rw[G,fZ _ _ _ (by simp;omega)];exact H
 have K:∀(W:TJ),W=y->∀l m,(Builtin.clear_ #[109] l #[.slice (some ⟨g,(T.length-1)*4,none⟩) 1 m]).run prog W=.ok (.tuple #[]) (y.setRow g D.toArray):=λW hW l m=>by
  subst hW;have h:=qE W g ((T.length-1)*4) m C.toArray l F (by simp;omega);rw[h,G]
 have L:D.take ((T.length-1)*4)=cQ (T.eraseIdx i):=by
  have e1:D.take ((T.length-1)*4)=C.take ((T.length-1)*4):=by
   rw[G];unfold kr;rw[mR,zs (by simp;omega),DB,Nat.min_self]
  rw[e1,uN,<-z,E];unfold kr;have e2:b.toList.take (i*4)=(cQ T).take (i*4):=by rw[<-r,DB,QD (by omega)]
  have e3:(T.length-1)*4=(b.toList.take (i*4)++B).length:=by simp;omega
  rw[e3,List.take_left,e2]
 have M:∀W,W=y.setRow g D.toArray->W.ownsRow 0 181 4 (.slice (some ⟨g,0,none⟩) (T.length-1) cap) (T.length-1) (cQ (T.eraseIdx i))/\w.grownBy W (some g):=λW hW=>by
  rw[hW];refine⟨⟨by rw[eH,List.length_eraseIdx,cg hi],.inr ⟨g,cap,D.toArray,rfl,cy _,sT y g _ _ _ _ F,by omega,X,by simpa using J,by simpa using L⟩⟩,?_⟩;refine⟨by rw[u];rfl,by rw[u];rfl,by rw[u];rfl,by rw[u];simp[World.setRow],λk hk ae=>?_⟩;have N:k≠g:=λe=>ae (by rw[e])
  rw[qk y g k _ N,u,qk w.drew g k _ N];rfl
 have O:=cP M;have o:=cP S;have Q:=cP K;unfold maxLen at X;have an:(i:Int)<(T.length:Int):=by omega
 clear M S K L A z t E G H J hg q r F u p s;by_cases af:i+1=cap
 .subst af;have q3:i+1<=T.length:=by omega
  have q4:(i:Int)+1<=(T.length:Int):=by omega
  have q5:((i:Int)+1).toNat=i+1:=by omega
  have q6:(0:Int)<=(i:Int)+1:=by omega
  have q7:(T.length:Int)<=((i+1:Nat):Int):=by omega
  have q8:¬(i+1=T.length-1):=by omega
  have q9:(i:Int)<=(i:Int)+1:=by omega
  have aa:∀l I m,(Builtin.append_ #[109,109] l #[.slice (some ⟨g,0,none⟩) i (i+1),.slice (some ⟨g,I,none⟩) 0 m]).run prog w.drew=.ok (.slice (some ⟨g,0,none⟩) (T.length-1) (i+1)) y:=λl I m=>by
   have h:=(cO o) l I m (Or.inr (by omega));rw[show T.length-(i+1)=0 by omega] at h;exact h
  have ag:=cP aa;clear aa;go_enter func207,ntmps207;go_wp2_with fail
  go_region_law (refine iV rfl (.tmp 22) (.tmp 25) 109 109 rfl _ _ (by first|rfl|(simp[Act.eval,Act.put];done)|(simp[Act.eval,Act.put];rfl)) (by first|rfl|(simp[Act.eval,Act.put];done)|(simp[Act.eval,Act.put];rfl)) ((cO ag) _ _ _) ?_)
  all_goals
   have U:∀l m,(Builtin.clear_ #[109] l #[.slice (some ⟨g,(T.length-1)*4,none⟩) (T.length-(T.length-1)) m]).run prog y=.ok (.tuple #[]) (y.setRow g D.toArray):=λl m=>by
    rw[show T.length-(T.length-1)=1 by omega];exact(cO Q) y rfl l m
   go_wp2;go_ret;exact⟨rfl,(cO O) _ rfl⟩
 .have ah:¬(cap=i+1):=by omega
  have q0:¬(cap=i):=by omega
  have q1:i<=cap:=by omega
  have q2:(i:Int)<=(cap:Int):=by omega
  have q3:i+1<=T.length:=by omega
  have q4:(i:Int)+1<=(T.length:Int):=by omega
  have q5:((i:Int)+1).toNat=i+1:=by omega
  have q6:(0:Int)<=(i:Int)+1:=by omega
  have q7:(T.length:Int)<=(cap:Int):=by omega
  have q8:¬(cap=T.length-1):=by omega
  go_enter func207,ntmps207;go_wp2_with fail
  go_region_law (refine iV rfl (.tmp 22) (.tmp 25) 109 109 rfl _ _ (by first|rfl|(simp[Act.eval,Act.put];done)|(simp[Act.eval,Act.put];rfl)) (by first|rfl|(simp[Act.eval,Act.put];done)|(simp[Act.eval,Act.put];rfl)) ((cO o) _ _ _ (Or.inl rfl)) ?_)
  all_goals
   have U:∀l m,(Builtin.clear_ #[109] l #[.slice (some ⟨g,(T.length-1)*4,none⟩) (T.length-(T.length-1)) m]).run prog y=.ok (.tuple #[]) (y.setRow g D.toArray):=λl m=>by
    rw[show T.length-(T.length-1)=1 by omega];exact(cO Q) y rfl l m
   go_wp2;go_ret;exact⟨rfl,(cO O) _ rfl⟩
end Rt
namespace Rt
open Go.RowKit Dk
theorem kd(D o:Nat)(C:Array TK)(B:TypeId)(v:TK)(T:Sn.Tb)(y:Nat)(w:TJ)(h:eV w D o C B v T)(L:v.ownBlock≠some D):TL prog 131 #[.pointer (some ⟨D,o,none⟩),Z Y (y:Int)] w λe W=>e=.returned (.tuple #[])/\∃t,dK w W D o C B v t (Sn.gM T y):=by
 have M:o<C.size:=(cB.1 h.at_).1;cases hh:Sn.dw T y with
 |false =>
  have E:Sn.gM T y=T:=by unfold Sn.gM;rw[hh];rfl
  rw[E];have N:=cP hh;have b:=cP h;clear hh h E;go_enter func131,ntmps131;go_wp2_with fail;refine(fW D o C B v T y w (cO b)).mono ?_;rintro e W ⟨rfl,A⟩;rw[cO N];go_wp2;have m:=(cO b).below A;refine cw (cu rfl _ _ _) rfl ⟨rfl,v,?_,m.row,Kept.below A _,Or.inl rfl⟩;rw[m.blk];have:C.setIfInBounds o v=C:=by
   have s:=(cB.1 m.at_).2;rw[<-s];simp[Array.setIfInBounds,M]
  rw[this]
 |true =>
  obtain⟨O,_,_⟩:=Sn.gn h.mg hh;have E:Sn.gM T y=T.eraseIdx (Sn.dm T y):=by unfold Sn.gM;rw[hh];rfl
  rw[E];have N:=cP hh;have b:=cP h;have p:=h.len;clear hh h E;go_enter func131,ntmps131;go_wp2_with fail;refine(fW D o C B v T y w (cO b)).mono ?_;rintro e X ⟨rfl,A⟩;rw[cO N];have m:=(cO b).below A;have hc:=m.cell;rcases m.row.2 with ⟨_,h0⟩|⟨g,r,P,rfl,_,F,Q,R,G,I⟩
  .omega
  .have J:some D≠(Value.slice (some ⟨g,0,none⟩) T.length r).ownBlock:=λe=>L e.symm
   generalize q:Sn.dm T y=i at O ⊢;have z:=qh g r i P T X O Q R p F G I;have HB:=cP m.blk;have S:=cP A;have U:D<X.heap.size:=ps m.blk;have HI:=cP q;clear m F G I q A;go_wp2_with fail;refine z.mono ?_;rintro e K ⟨rfl,u,l⟩;have j:K.heap[D]?=some (.cells C B (0,0)):=(l.block D U (λe=>J e)).trans (cO HB);have aa:K.cell? ⟨D,o,none⟩=some (.slice (some ⟨g,0,none⟩) T.length r):=by rw[cn K D o _ _ _ j];exact(cO b).at_
   have ab:K.frozen? ⟨D,o,none⟩=false:=by simp[World.frozen?,j]
   have H:=cP (And.intro u (And.intro l j));clear u l j z hc;go_wp2;obtain⟨u,l,j⟩:=cO H;refine cw (cu rfl _ _ _) rfl ⟨rfl,.slice (some ⟨g,0,none⟩) (T.length-1) r,?_,?_,?_,Or.inl rfl⟩
   .rw[cA K D o _ _ _ j]
   .rw[cO HI,List.length_eraseIdx,cg O];exact v8 u (λe=>J e.symm) _
   .exact((Kept.below (cO S) _).trans (Kept.grown l (λk V=>V.2))).setCell (λV=>V.1 rfl) _
end Rt
namespace Rt
open Go.RowKit Dk
theorem DN(D o:Nat)(C:Array TK)(b:TypeId)(v:TK)(T:Sn.Tb)(w:TJ)(h:eV w D o C b v T):TL prog 87 #[.pointer (some ⟨D,o,none⟩)] w λe j=>e=.returned (Z Y T.length)/\j=w:=by
 obtain⟨p,l,rfl,m⟩:=dM h.row;have r:=h.cell;clear h m;go_enter func87,ntmps87;go_wp2;go_ret;exact⟨rfl,rfl⟩
def vR:TK := .agg #[Z Y 0,.slice none 0 0,Z Y 0]
theorem iD{W:TJ}{B b j:Nat}{x y z:TK}(h:b≠B):(((W.setCell ⟨B,0,none⟩ x).setCell ⟨B,1,none⟩ y).setCell ⟨B,2,none⟩ z).drew.cell? ⟨b,j,none⟩=W.cell? ⟨b,j,none⟩:=by
 refine CN (w:=W) (a:=⟨b,j,none⟩) ?_
 show (((W.setCell ⟨B,0,none⟩ x).setCell ⟨B,1,none⟩ y).setCell ⟨B,2,none⟩ z).heap[b]?=W.heap[b]?
 rw[cG _ _ _ b h,cG _ _ _ b h,cG _ _ _ b h]
theorem DD(D o:Nat)(C:Array TK)(R:TypeId)(v:TK)(T:Sn.Tb)(i k:Nat)(x:Sn.Ce)(w:TJ)(h:eV w D o C R v T)(hi:T[i]?=some (k,x)):TL prog 129 #[.pointer (some ⟨D,o,none⟩),Z Y i] w λe u=>e=.returned (.tuple #[Z Y (k:Int),kQ k x,.bool true])/\TI w u:=by
 obtain⟨p,I,rfl,O⟩:=dM h.row;have P:=h.cell;have S:D≠w.heap.size:=Nat.ne_of_lt (ps h.blk);have hl:=h.len;obtain⟨J,A⟩:=KK.1 hi;obtain⟨g,rfl,z,E,F,G⟩:=O i J;rw[A] at z E F G;obtain⟨q,K,L,M⟩:=x;dsimp only at z E F G;have H:g≠w.heap.size:=Nat.ne_of_lt (cE w _ z);have B:Hid (∀W,W=w.alloc (.cells #[Z Y 0,.slice none 0 0,Z Y 0] 80)->W.heap[w.heap.size]?=some (.cells #[Z Y 0,.slice none 0 0,Z Y 0] 80 (0,0))/\TI w W):=by
  show ∀W,_
  rintro W rfl;exact⟨ct w _,(cj _ w).alloc TG _⟩
 have N:=ps h.blk;have r:=cE w _ z;clear h O A hi;unfold kQ;dsimp only;have U:(0:Int)<=(i:Int):=by omega
 have V:¬(i:Int)<0:=by omega
 have X:¬(T.length:Int)<=(i:Int):=by omega
 have t:(i:Int)<(T.length:Int):=by omega
 go_enter func129,ntmps129;go_upto_region 4 with fail;generalize Q:World.alloc _ _=m;obtain⟨l,y⟩:=cO B m Q.symm;clear Q B;have f:∀{j:Nat} {b:Nat} {x:TK},b<w.heap.size->w.cell? ⟨b,j,none⟩=some x->m.cell? ⟨b,j,none⟩=some x:=λ{j b x} hb h=>(y.cell (p:=⟨b,j,none⟩) hb).trans h
 replace P:=f N P;replace z:=f r z;replace E:=f r E;replace F:=f r F;replace G:=f r G;have s:m.cell? ⟨w.heap.size,0,none⟩=some (Z Y 0):=by rw[cn m _ 0 _ _ _ l];rfl
 have r1:m.cell? ⟨w.heap.size,1,none⟩=some (.slice none 0 0):=by rw[cn m _ 1 _ _ _ l];rfl
 have r2:m.cell? ⟨w.heap.size,2,none⟩=some (Z Y 0):=by rw[cn m _ 2 _ _ _ l];rfl
 have g0:m.frozen? ⟨w.heap.size,0,none⟩=false:=by simp[World.frozen?,l]
 have g1:m.frozen? ⟨w.heap.size,1,none⟩=false:=by simp[World.frozen?,l]
 have g2:m.frozen? ⟨w.heap.size,2,none⟩=false:=by simp[World.frozen?,l]
 have HF:Hid (TI w (((m.drew.setCell ⟨w.heap.size,0,none⟩ (Z Y (k:Int))).setCell ⟨w.heap.size,1,none⟩ (.slice q K L)).setCell ⟨w.heap.size,2,none⟩ (Z Y M))):=((y.drew.setCell (p:=⟨w.heap.size,0,none⟩) TG _).setCell (p:=⟨w.heap.size,1,none⟩) TG _).setCell (p:=⟨w.heap.size,2,none⟩) TG _;clear f y l
 go_region_held3 (λu=>u.cell? ⟨D,o,none⟩=some (.slice (some ⟨g,0,none⟩) T.length I)/\u.cell? ⟨g,i*4,none⟩=some (Z Y (k:Int))/\u.cell? ⟨g,i*4+1,none⟩=some (Z Y (k:Int))/\u.cell? ⟨g,i*4+2,none⟩=some (.slice q K L)/\u.cell? ⟨g,i*4+3,none⟩=some (Z Y M))
  (first|(exact⟨by assumption,by assumption,by assumption,by assumption,by assumption⟩)|(exact⟨(iD S).trans (by assumption),(iD H).trans (by assumption),(iD H).trans (by assumption),(iD H).trans (by assumption),(iD H).trans (by assumption)⟩)|(go_keep;done))
  (first|fail)
 all_goals
  go_wp2;exact cr (v := .tuple #[Z Y (k:Int),.agg #[Z Y (k:Int),.slice q K L,Z Y M],.bool true]) (by simp[results,results129,go_sem,s,r1,r2]) rfl ⟨rfl,cO HF⟩
theorem K5(D o:Nat)(C:Array TK)(B:TypeId)(v:TK)(w:TJ)(h:eV w D o C B v []):TL prog 129 #[.pointer (some ⟨D,o,none⟩),Z Y (-1)] w λe m=>e=.returned (.tuple #[Z Y 0,vR,.bool false])/\TI w m:=by
 clear h;have u:Hid (∀W r,W=w.alloc (.cells #[Z Y 0,.slice none 0 0,Z Y 0] 80)->r=W.alloc (.cells #[Z Y 0,Z Y 0,.slice none 0 0,Z Y 0] 181)->r.heap[w.heap.size]?=some (.cells #[Z Y 0,.slice none 0 0,Z Y 0] 80 (0,0))/\r.heap[w.heap.size+1]?=some (.cells #[Z Y 0,Z Y 0,.slice none 0 0,Z Y 0] 181 (0,0))/\TI w r):=by
  show ∀W r,_
  rintro W r rfl rfl;refine⟨?_,?_,?_⟩
  .rw[cN _ _ _ (by simp)];exact ct w _
  .rw[<-ee w (.cells #[Z Y 0,.slice none 0 0,Z Y 0] 80)];exact ct _ _
  .exact((cj _ w).alloc TG _).alloc (by simp) _
 unfold vR;have z:w.heap.size+1≠w.heap.size:=by omega
 go_enter func129,ntmps129;go_upto_region 3 with fail;generalize A:World.alloc (World.alloc _ _) _=b;obtain⟨j,l,y⟩:=cO u _ b rfl A.symm;clear A u;have E:b.cell? ⟨w.heap.size,0,none⟩=some (Z Y 0):=by rw[cn b _ 0 _ _ _ j];rfl
 have F:b.cell? ⟨w.heap.size,1,none⟩=some (.slice none 0 0):=by rw[cn b _ 1 _ _ _ j];rfl
 have G:b.cell? ⟨w.heap.size,2,none⟩=some (Z Y 0):=by rw[cn b _ 2 _ _ _ j];rfl
 have I:b.frozen? ⟨w.heap.size,0,none⟩=false:=by simp[World.frozen?,j]
 have J:b.frozen? ⟨w.heap.size,1,none⟩=false:=by simp[World.frozen?,j]
 have K:b.frozen? ⟨w.heap.size,2,none⟩=false:=by simp[World.frozen?,j]
 have L:b.cell? ⟨w.heap.size+1,0,none⟩=some (Z Y 0):=by rw[cn b _ 0 _ _ _ l];rfl
 have M:b.cell? ⟨w.heap.size+1,1,none⟩=some (Z Y 0):=by rw[cn b _ 1 _ _ _ l];rfl
 have N:b.cell? ⟨w.heap.size+1,2,none⟩=some (.slice none 0 0):=by rw[cn b _ 2 _ _ _ l];rfl
 have O:b.cell? ⟨w.heap.size+1,3,none⟩=some (Z Y 0):=by rw[cn b _ 3 _ _ _ l];rfl
 have H:Hid (TI w (((b.drew.setCell ⟨w.heap.size,0,none⟩ (Z Y 0)).setCell ⟨w.heap.size,1,none⟩ (.slice none 0 0)).setCell ⟨w.heap.size,2,none⟩ (Z Y 0))):=((y.drew.setCell (p:=⟨w.heap.size,0,none⟩) TG _).setCell (p:=⟨w.heap.size,1,none⟩) TG _).setCell (p:=⟨w.heap.size,2,none⟩) TG _;clear y j l
 go_region_held3 (λm=>m.cell? ⟨w.heap.size+1,0,none⟩=some (Z Y 0)/\m.cell? ⟨w.heap.size+1,1,none⟩=some (Z Y 0)/\m.cell? ⟨w.heap.size+1,2,none⟩=some (.slice none 0 0)/\m.cell? ⟨w.heap.size+1,3,none⟩=some (Z Y 0))
  (first|(exact⟨by assumption,by assumption,by assumption,by assumption⟩)|(exact⟨(iD z).trans (by assumption),(iD z).trans (by assumption),(iD z).trans (by assumption),(iD z).trans (by assumption)⟩)|(go_keep;done))
  (first|fail)
 all_goals
  go_wp2;exact cr (v := .tuple #[Z Y 0,.agg #[Z Y 0,.slice none 0 0,Z Y 0],.bool false]) (by simp[results,results129,go_sem,E,F,G]) rfl ⟨rfl,cO H⟩
theorem FP(D o:Nat)(C:Array TK)(E:TypeId)(v:TK)(T:Sn.Tb)(k:Nat)(x:Sn.Ce)(w:TJ)(h:eV w D o C E v ((k,x)::T)):TL prog 130 #[.pointer (some ⟨D,o,none⟩)] w λe H=>e=.returned (.tuple #[Z Y (k:Int),kQ k x,.bool true])/\TI w H:=by
 have l:=cP h;have A:Hid (∀W,W=w.alloc (.cells #[Z Y 0,.slice none 0 0,Z Y 0] 80)->W.heap[w.heap.size]?=some (.cells #[Z Y 0,.slice none 0 0,Z Y 0] 80 (0,0))/\TI w W):=by
  show ∀W,_
  rintro W rfl;exact⟨ct w _,(cj _ w).alloc TG _⟩
 clear h;go_enter func130,ntmps130;go_wp2_with fail;generalize F:World.alloc _ _=G;obtain⟨m,j⟩:=cO A G F.symm;clear F A;refine(DD D o C E v ((k,x)::T) 0 k x G ((cO l).below j) rfl).mono ?_;rintro e b ⟨rfl,r⟩;have u:=(r.block _ (ps m)).trans m;have I:b.cell? ⟨w.heap.size,0,none⟩=some (Z Y 0):=by rw[cn b _ 0 _ _ _ u];rfl
 have J:b.cell? ⟨w.heap.size,1,none⟩=some (.slice none 0 0):=by rw[cn b _ 1 _ _ _ u];rfl
 have K:b.cell? ⟨w.heap.size,2,none⟩=some (Z Y 0):=by rw[cn b _ 2 _ _ _ u];rfl
 have P:b.frozen? ⟨w.heap.size,0,none⟩=false:=by simp[World.frozen?,u]
 have Q:b.frozen? ⟨w.heap.size,1,none⟩=false:=by simp[World.frozen?,u]
 have R:b.frozen? ⟨w.heap.size,2,none⟩=false:=by simp[World.frozen?,u]
 have B:=j.trans (r.mono j.size);have L:Hid (∀x y z:TK,TI w (((b.setCell ⟨w.heap.size,0,none⟩ x).setCell ⟨w.heap.size,1,none⟩ y).setCell ⟨w.heap.size,2,none⟩ z)):=λx y z =>
  ((B.setCell (p:=⟨w.heap.size,0,none⟩) TG _).setCell (p:=⟨w.heap.size,1,none⟩) TG _).setCell (p:=⟨w.heap.size,2,none⟩) TG _
 clear r j m u B l;obtain⟨q,M,N,O⟩:=x;unfold kQ;dsimp only;go_wp2;exact cr (v := .tuple #[Z Y (k:Int),.agg #[Z Y (k:Int),.slice q M N,Z Y O],.bool true]) (by simp[results,results130,go_sem,I,J,K]) rfl ⟨rfl,cO L _ _ _⟩
theorem F1(D o:Nat)(C:Array TK)(E:TypeId)(v:TK)(w:TJ)(h:eV w D o C E v []):TL prog 86 #[.pointer (some ⟨D,o,none⟩)] w λe H=>e=.returned (.tuple #[Z Y 0,vR,.bool false])/\TI w H:=by
 have l:=cP h;obtain⟨p,I,rfl,J⟩:=dM h.row;have P:=h.cell;have K:=ps h.blk;clear J;have A:Hid (∀W,W=w.alloc (.cells #[Z Y 0,.slice none 0 0,Z Y 0] 80)->W.heap[w.heap.size]?=some (.cells #[Z Y 0,.slice none 0 0,Z Y 0] 80 (0,0))/\TI w W):=by
  show ∀W,_
  rintro W rfl;exact⟨ct w _,(cj _ w).alloc TG _⟩
 clear h;go_enter func86,ntmps86;go_wp2_with fail;generalize F:World.alloc _ _=G;obtain⟨m,j⟩:=cO A G F.symm;clear F A;refine(K5 D o C E _ G ((cO l).below j)).mono ?_;rintro e b ⟨rfl,r⟩;have u:=(r.block _ (ps m)).trans m;have L:b.cell? ⟨w.heap.size,0,none⟩=some (Z Y 0):=by rw[cn b _ 0 _ _ _ u];rfl
 have M:b.cell? ⟨w.heap.size,1,none⟩=some (.slice none 0 0):=by rw[cn b _ 1 _ _ _ u];rfl
 have N:b.cell? ⟨w.heap.size,2,none⟩=some (Z Y 0):=by rw[cn b _ 2 _ _ _ u];rfl
 have Q:b.frozen? ⟨w.heap.size,0,none⟩=false:=by simp[World.frozen?,u]
 have R:b.frozen? ⟨w.heap.size,1,none⟩=false:=by simp[World.frozen?,u]
 have S:b.frozen? ⟨w.heap.size,2,none⟩=false:=by simp[World.frozen?,u]
 have B:=j.trans (r.mono j.size);have O:Hid (∀x y z:TK,TI w (((b.setCell ⟨w.heap.size,0,none⟩ x).setCell ⟨w.heap.size,1,none⟩ y).setCell ⟨w.heap.size,2,none⟩ z)):=λx y z =>
  ((B.setCell (p:=⟨w.heap.size,0,none⟩) TG _).setCell (p:=⟨w.heap.size,1,none⟩) TG _).setCell (p:=⟨w.heap.size,2,none⟩) TG _
 clear r j m u B l;unfold vR;go_wp2;exact cr (v := .tuple #[Z Y 0,.agg #[Z Y 0,.slice none 0 0,Z Y 0],.bool false]) (by simp[results,results86,go_sem,L,M,N]) rfl ⟨rfl,cO O _ _ _⟩
theorem FU(D o:Nat)(C:Array TK)(F:TypeId)(v:TK)(T:Sn.Tb)(k:Nat)(x:Sn.Ce)(w:TJ)(h:eV w D o C F v (T++[(k,x)])):TL prog 86 #[.pointer (some ⟨D,o,none⟩)] w λe I=>e=.returned (.tuple #[Z Y (k:Int),kQ k x,.bool true])/\TI w I:=by
 have l:=cP h;obtain⟨p,J,rfl,K⟩:=dM h.row;have L:=h.cell;have M:=h.len;have N:=ps h.blk;have A:(T++[(k,x)]).length=T.length+1:=by simp
 rw[A] at L M;clear K;have B:Hid (∀W,W=w.alloc (.cells #[Z Y 0,.slice none 0 0,Z Y 0] 80)->W.heap[w.heap.size]?=some (.cells #[Z Y 0,.slice none 0 0,Z Y 0] 80 (0,0))/\TI w W):=by
  show ∀W,_
  rintro W rfl;exact⟨ct w _,(cj _ w).alloc TG _⟩
 clear h;go_enter func86,ntmps86;go_wp2_with fail;generalize G:World.alloc _ _=H;obtain⟨m,j⟩:=cO B H G.symm;clear G B;refine(DD D o C F _ (T++[(k,x)]) T.length k x H ((cO l).below j) (by simp)).mono ?_;rintro e b ⟨rfl,r⟩;have u:=(r.block _ (ps m)).trans m;have O:b.cell? ⟨w.heap.size,0,none⟩=some (Z Y 0):=by rw[cn b _ 0 _ _ _ u];rfl
 have P:b.cell? ⟨w.heap.size,1,none⟩=some (.slice none 0 0):=by rw[cn b _ 1 _ _ _ u];rfl
 have Q:b.cell? ⟨w.heap.size,2,none⟩=some (Z Y 0):=by rw[cn b _ 2 _ _ _ u];rfl
 have X:b.frozen? ⟨w.heap.size,0,none⟩=false:=by simp[World.frozen?,u]
 have t:b.frozen? ⟨w.heap.size,1,none⟩=false:=by simp[World.frozen?,u]
 have s:b.frozen? ⟨w.heap.size,2,none⟩=false:=by simp[World.frozen?,u]
 have E:=j.trans (r.mono j.size);have R:Hid (∀x y z:TK,TI w (((b.setCell ⟨w.heap.size,0,none⟩ x).setCell ⟨w.heap.size,1,none⟩ y).setCell ⟨w.heap.size,2,none⟩ z)):=λx y z =>
  ((E.setCell (p:=⟨w.heap.size,0,none⟩) TG _).setCell (p:=⟨w.heap.size,1,none⟩) TG _).setCell (p:=⟨w.heap.size,2,none⟩) TG _
 clear r j m u E l;obtain⟨q,S,U,V⟩:=x;unfold kQ;dsimp only;go_wp2;exact cr (v := .tuple #[Z Y (k:Int),.agg #[Z Y (k:Int),.slice q S U,Z Y V],.bool true]) (by simp[results,results86,go_sem,O,P,Q]) rfl ⟨rfl,cO R _ _ _⟩
end Rt
namespace Rt
open Go.RowKit Dk Go.Shelf
attribute [local go_sem] Oper.semAt_some
theorem qu(F:Fence)(n:Nat)(j:F.fn 132)(b:F.round=none)(p0:Option Addr)(w:TJ):CallsIn F n prog 132 #[.pointer p0] w λe l=>e=.returned (.func (.func 208) #[] #[.pointer (some ⟨w.heap.size,0,none⟩)])/\l=w.alloc (.cells #[.pointer p0] 177):=by
 refine callsIn_of_wp func132 rfl j ?_ b;simp only[ntmps132,GK,cD,Bb,Nat.reduceAdd,Nat.reduceSub,Jx,JK,Kk,KA,sj,mf]
 gi_wp2
 go_ret;exact⟨rfl,rfl⟩
theorem rJ(F:Fence)(n:Nat)(h8:F.fn 208)(K:F.round=none)(hn:1<=n)(l Q D o N:Nat)(H:Nat->Prop)(p:Option Addr)(cap:Nat)(T:Sn.Tb)(hl:T.length<=1000000000)(J R:List { x:Nat × Sn.Ce // x∈T }->TJ->Prop)(hY:∀b x W,J b W->b.length<T.length->YieldAt F (n-1) prog l #[Z Y (x.1.1:Int),kQ x.1.1 x.1.2] W λe A => (e=.returned (.bool true)/\J (b++[x]) A/\fI N H W A)\/(e=.returned (.bool false)/\R (b++[x]) A))(W:TJ)(hN:N<=W.heap.size)(L:AbidesFrom W.heap.size J)(ab:W.cell? ⟨Q,0,none⟩=some (.pointer (some ⟨D,o,none⟩)))(ht:W.cell? ⟨D,o,none⟩=some (.slice p T.length cap))(hc:∀j (hj:j<T.length),∃g,p=some ⟨g,0,none⟩/\g<N/\H g/\W.cell? ⟨g,j*4,none⟩=some (Z Y (T[j].1:Int))/\W.cell? ⟨g,j*4+1,none⟩=some (Z Y (T[j].1:Int))/\W.cell? ⟨g,j*4+2,none⟩=some (.slice T[j].2.p T[j].2.n T[j].2.c)/\W.cell? ⟨g,j*4+3,none⟩=some (Z Y T[j].2.al))(h0:J [] W):CallsIn F n prog 208 #[.func (.yield l) #[] #[],.pointer (some ⟨Q,0,none⟩)] W λe A=>(∃v,e=.returned v)/\
   ((∃S,S=T.attach/\J S A)\/(∃b,b <+: T.attach/\R b A)):=by
 refine callsIn_of_wp func208 rfl h8 ?_ K;simp only[ntmps208,GK,cD,Bb,Nat.reduceAdd,Nat.reduceSub,Jx,JK,Kk,KA,sj,mf]
 gi_wp2
 gi_loopw [10] (λi wr=>∃k:Nat,k<=T.length/\i=Z Y k/\Hid (J (T.attach.take k) wr)/\fI N H W wr)
  (λi _=>T.length-(intOf i).toNat)
 case atStart=>exact⟨0,cy _,rfl,h0,fI.refl _ _ _⟩
 case round =>
  obtain⟨k,hk,rfl,U,m⟩:=hrel;by_cases M:k<T.length
  .obtain⟨g,rfl,I,u,V,X,q,t⟩:=hc k M;have d0:=(m.cell (p:=⟨g,k*4,none⟩) I u).trans V;have d1:=(m.cell (p:=⟨g,k*4+1,none⟩) I u).trans X;have d2:=(m.cell (p:=⟨g,k*4+2,none⟩) I u).trans q;have d3:=(m.cell (p:=⟨g,k*4+3,none⟩) I u).trans t;have B:(k:Int)<(T.length:Int):=by omega
   have ad:T.attach.length=T.length:=List.length_attach;obtain⟨x,O⟩:∃x,T.attach[k]'(by omega)=x:=⟨_,rfl⟩
   have C:T[k]=x.1:=by rw[<-O];simp
   rw[C] at d0 d1 d2 d3;have s:=cP O;clear O V X q t C;have E:J (T.attach.take k) (wr.alloc (.cells #[Z Y (x.1.1:Int),Z Y (x.1.1:Int),.slice x.1.2.p x.1.2.n x.1.2.c,Z Y x.1.2.al] 181)):=L _ _ _ none (cO U) (World.grownBy_alloc _ _ none) (λr e=>by cases e);obtain⟨fn,aa,assign,body,hy,hR⟩:=hY _ x _ E (by rw[A3];omega);clear E;unfold kQ at hy
   gi_wp2
   refine hR.mono ?_;rintro e W3 (⟨rfl,G,P⟩|⟨rfl,y⟩)
   .have z:=cP G;clear G
    gi_wp2
    go_roundw
    case rel=>exact⟨k+1,by omega,by go_num,by show J _ _;rw[zQ (by omega),cO s];exact cO z,m.trans (((fI.refl N H _).alloc (cx hN m.size) _).trans P)⟩
    case measure=>simp[intOf];omega
   .have z:=cP y;clear y
    gi_wp2
    refine cr (cu rfl _ _ _) rfl ?_;exact⟨⟨_,rfl⟩,.inr ⟨_,⟨T.attach.drop (k+1),by rw[<-cO s,<-zQ (by omega),r4]⟩,cO z⟩⟩
  .have B:¬(k:Int)<(T.length:Int):=by omega
   obtain rfl:k=T.length:=by omega
   gi_wp2
   go_end0
   exact⟨⟨_,rfl⟩,.inl (by have h:=cO U;rw[zS (by rw[List.length_attach];omega)] at h;first|exact h|exact⟨_,rfl,h⟩)⟩
theorem kG(F:Fence)(n:Nat)(I:F.fn 208)(z:F.round=none)(K:1<=n)(m D o N:Nat)(A:Nat->Prop)(p:Option Addr)(cap:Nat)(T:Sn.Tb)(L:T.length<=1000000000)(w:TJ)(r:m<w.heap.size)(u:N<=w.heap.size)(B:D<w.heap.size)(C:w.cell? ⟨m,0,none⟩=some (.pointer (some ⟨D,o,none⟩)))(ht:w.cell? ⟨D,o,none⟩=some (.slice p T.length cap))(M:∀j (H:j<T.length),∃g,p=some ⟨g,0,none⟩/\g<N/\A g/\w.cell? ⟨g,j*4,none⟩=some (Z Y (T[j].1:Int))/\w.cell? ⟨g,j*4+1,none⟩=some (Z Y (T[j].1:Int))/\w.cell? ⟨g,j*4+2,none⟩=some (.slice T[j].2.p T[j].2.n T[j].2.c)/\w.cell? ⟨g,j*4+3,none⟩=some (Z Y T[j].2.al)):SeqStopsK F n prog 208 #[.pointer (some ⟨m,0,none⟩)] (λx:{ x:Nat × Sn.Ce // x∈T }=>#[Z Y (x.1.1:Int),kQ x.1.1 x.1.2]) (fI N A) (λO=>O=T.attach) (λE=>E <+: T.attach) T.length w:=λl J P W b Q _ R S =>
 rJ F n I z K l m D o N A p cap T L J P R W (cx u b.size) Q ((b.cell (p:=⟨m,0,none⟩) r).trans C) ((b.cell (p:=⟨D,o,none⟩) B).trans ht)
  (λj H=>by obtain⟨g,e,y,G,U,V,X,k⟩:=M j H;exact⟨g,e,y,G,(b.cell (p:=⟨g,j*4,none⟩) (dT y u)).trans U,(b.cell (p:=⟨g,j*4+1,none⟩) (dT y u)).trans V,(b.cell (p:=⟨g,j*4+2,none⟩) (dT y u)).trans X,(b.cell (p:=⟨g,j*4+3,none⟩) (dT y u)).trans k⟩) S
end Rt
end Go.Proofs.YtgkkdpegcieakaaGreatDoor
