import Derived.Test.YtgkkdpegcieakaaGreatDoorCz13
import Derived.Test.YtgkkdpegcieakaaGreatDoorCz07
set_option linter.unusedVariables false
set_option linter.unusedSimpArgs false
set_option maxRecDepth 100000
set_option maxHeartbeats 16000000
namespace Go.Proofs.YtgkkdpegcieakaaGreatDoor
open Go.Proofs.Tryz
open Value renaming int→Z
open IntKind renaming i64→Y
open Go renaming World→TJ,Value→TK,Calls→TL
namespace Dk
open Go.RowKit
theorem sZ(x:TM)(w:TJ):TL prog 236 #[.string x] w λe b=>e=.returned (.bool false)/\b=w:=by
 have h:(x.toList == x.toList)=true:=by simp
 go_enter func236,ntmps236;go_wp2;go_ret;exact⟨rfl,rfl⟩
def eC(f:Nat):TK := .pointer (some ⟨f,0,none⟩)
def kI(x y:TM):Int:=if Sd.lt x y=true then -1 else if Sd.lt y x=true then 1 else 0
theorem AP(x y:TM)(w:TJ):TL prog 214 #[.string x,.string y] w λe j=>e=.returned (Z Y (kI x y))/\j=w:=by
 rcases Sd.qv x y with h|h|h
 .have b:kI x y = -1:=cg h;have l:Op.bytesLess x.toList y.toList=true:=h;rw[b];clear b h;go_enter func214,ntmps214;go_wp2_with (go_at_call 236;refine(sZ _ _).mono ?_;rintro e j ⟨rfl,rfl⟩);go_ret;exact⟨rfl,rfl⟩
 .subst h;have b:kI x x=0:=by simp[kI,Sd.lt_irrefl]
  have l:Op.bytesLess x.toList x.toList=false:=Sd.lt_irrefl x;have m:(x.toList == x.toList)=true:=by simp
  rw[b];clear b;go_enter func214,ntmps214;go_wp2_with (go_at_call 236;refine(sZ _ _).mono ?_;rintro e j ⟨rfl,rfl⟩);go_ret;exact⟨rfl,rfl⟩
 .have b:kI x y=1:=by unfold kI;rw[Sd.lt_asymm h,cd (by decide),cg h]
  have l:Op.bytesLess x.toList y.toList=false:=Sd.lt_asymm h;have m:(x.toList == y.toList)=false:=by
   apply Tv.2;intro r;exact Sd.qL h (Sd.toList_inj (eq_of_beq r)).symm
  rw[b];clear b h;go_enter func214,ntmps214;go_wp2_with (go_at_call 236;refine(sZ _ _).mono ?_;rintro e j ⟨rfl,rfl⟩);go_ret;exact⟨rfl,rfl⟩
theorem iu(a:TM)(v:TK)(y:TM)(w:TJ):TL prog 213 #[.agg #[.string a,v],.string y] w λe b=>e=.returned (Z Y (kI a y))/\TI w b:=by
 go_enter func213,ntmps213;go_wp2_with (go_at_call 214;refine(AP _ _ _).mono ?_;rintro e b ⟨rfl,rfl⟩);go_ret;exact⟨rfl,TH.alloc TG _⟩
def iB(w:TJ)(p:Option Addr)(T:Sd.Tb):Prop := ∀j (h:j<T.length),∃g,p=some ⟨g,0,none⟩/\w.cell? ⟨g,j*2,none⟩=some (.string (T[j]).1)/\w.cell? ⟨g,j*2+1,none⟩=some (eC (T[j]).2)
theorem iB.below{w w':TJ}{p:Option Addr}{T:Sd.Tb}(h:iB w p T)(hb:TI w w'):iB w' p T:=λj m=>by
 obtain⟨g,e,b,l⟩:=h j m;exact⟨g,e,(hb.cell (cE w _ b)).trans b,(hb.cell (cE w _ l)).trans l⟩
theorem mx(p:Option Addr)(cap:Nat)(T:Sd.Tb)(y:TM)(w:TJ)(h:iB w p T)(N:Sd.da T)(hl:T.length<=1000000000):TL prog 212 #[.slice p T.length cap,.string y,.func (.func 213) #[] #[]] w λe O=>e=.returned (.tuple #[Z Y (Sd.dm T y:Nat),.bool (Sd.dw T y)])/\TI w O:=by
 go_enter func212,ntmps212;go_wp2
 go_loopw [9,10] (λa b wr=>∃i j:Nat,i<=j/\j<=T.length/\a=Z Y i/\b=Z Y j/\TI w wr/\(∀k (F:k<T.length),k<i->Sd.lt (T[k]).1 y=true)/\(∀k (F:k<T.length),j<=k->Sd.lt (T[k]).1 y=false)) (λa b _=>(intOf b-intOf a).toNat)
 case atStart=>exact⟨0,T.length,cy _,b7 _,rfl,rfl,cj _ _,λk F h=>by omega,λk F h=>by omega⟩
 case round =>
  obtain⟨i,j,aa,t,rfl,rfl,r,G,H⟩:=hrel;have I:=cP G;have J:=cP H;clear G H;by_cases ab:i<j
  .have Q:(i+j)/2<T.length:=by omega
   have ad:i<=(i+j)/2:=by omega
   have ae:(i+j)/2<j:=by omega
   have s:(i:Int)<(j:Int):=by omega
   obtain⟨g,R,S,U⟩:=(h.below r) ((i+j)/2) (by omega)
   subst R;obtain⟨x,z⟩:∃x,(T[(i+j)/2]).1=x:=⟨_,rfl⟩
   obtain⟨v,K⟩:∃x,(T[(i+j)/2]).2=x:=⟨_,rfl⟩
   rw[z] at S;rw[K] at U;have L:=cP z;clear z K;cases l:Sd.lt x y with
   |true =>
    have A:=cP l;have P:Hid (kI x y = -1):=cg l;clear l;go_wp2_with (go_at_call 213;refine(iu _ _ _ _).mono ?_;rintro e O ⟨rfl,m⟩;rw[cO P]);go_roundw
    case rel =>
     refine⟨(i+j)/2+1,j,by omega,t,by go_num,rfl,r.trans (m.mono r.size),λk F V=>?_,cO J⟩;have u:=Sd.fg N (i:=k) (j:=(i+j)/2) (by omega) Q;rw[cO L] at u;exact Sd.oV u (cO A)
    case measure=>simp[intOf];omega
   |false =>
    have P:Hid (0<=kI x y):=by show _<=_;unfold kI;rw[l];simp;split <;> omega
    have A:=cP l;clear l;obtain⟨c,B⟩:∃c,kI x y=c:=⟨_,rfl⟩
    rw[B] at P;have C:=cP B;have af:0<=c:=cO P;clear B;go_wp2_with (go_at_call 213;refine(iu _ _ _ _).mono ?_;rintro e O ⟨rfl,m⟩;rw[cO C]);go_roundw
    case rel =>
     refine⟨i,(i+j)/2,by omega,by omega,rfl,by go_num,r.trans (m.mono r.size),cO I,λk F V=>?_⟩;have u:=Sd.fg N (i:=(i+j)/2) (j:=k) (by omega) F;rw[cO L] at u;cases h2:Sd.lt (T[k]).1 y with
     |false=>rfl
     |true=>have:=Sd.oV u h2;rw[cO A] at this;cases this
    case measure=>simp[intOf];omega
  .have W:j=i:=by omega
   subst W;have D:Hid (Sd.dm T y=j):=Sd.jN t (cO I) (cO J);by_cases E:j<T.length
   .have M:(j:Int)<(T.length:Int):=by omega
    obtain⟨g,R,S,U⟩:=(h.below r) j E;subst R;have HH:=cP (Sd.iU N y);obtain⟨x,z⟩:∃x,(T[j]).1=x:=⟨_,rfl⟩
    obtain⟨v,K⟩:∃x,(T[j]).2=x:=⟨_,rfl⟩
    rw[z] at S;rw[K] at U;have L:=cP z;clear z K;obtain⟨c,B⟩:∃c,kI x y=c:=⟨_,rfl⟩
    have C:=cP B;have X:Hid (Sd.dw T y=(c == 0)):=by
     show _=_
     have u:(c == 0)=decide (x=y):=by
      rw[<-B];unfold kI;rcases Sd.qv x y with h|h|h
      .rw[cg h,df (Sd.qL h)];rfl
      .subst h;simp[Sd.lt_irrefl]
      .rw[Sd.lt_asymm h,cd (by decide),cg h,df (λe=>Sd.qL h e.symm)];rfl
     rw[u];apply Bool.eq_iff_iff.2;rw[cO HH,decide_eq_true_iff];constructor
     .rintro⟨o,e⟩;have q:T[Sd.dm T y]=T[j]:=by congr 1 <;> exact cO D
      rw[q] at e;rw[<-e];exact(cO L).symm
     .intro e;have q:T[Sd.dm T y]'(by rw[cO D];exact E)=T[j]:=by congr 1 <;> exact cO D
      exact⟨by rw[cO D];exact E,by rw[q];exact(cO L).trans e⟩
    clear B;go_wp2_with (go_at_call 213;refine(iu _ _ _ _).mono ?_;rintro e O ⟨rfl,m⟩;rw[cO C]);exact cr (v := .tuple #[Z Y j,.bool (c == 0)]) (by simp[results,results212,go_sem]) rfl ⟨by rw[cO D,cO X],r.trans (m.mono r.size)⟩
   .have M:¬(j:Int)<(T.length:Int):=by omega
    have ag:(T.length:Int)<=(j:Int):=by omega
    have X:Hid (Sd.dw T y=false):=by
     show _=_
     cases o:Sd.dw T y with
     |false=>rfl
     |true=>obtain⟨u,_⟩:=(Sd.iU N y).1 o;rw[cO D] at u;omega
    go_wp2;exact cr (v := .tuple #[Z Y j,.bool false]) (by simp[results,results212,go_sem]) rfl ⟨by rw[cO D,cO X],r⟩
end Dk
namespace Dk
open Go.RowKit
def cQ(T:Sd.Tb):List TK:=T.flatMap λp=>[.string p.1,eC p.2]
theorem eH(T:Sd.Tb):(cQ T).length=T.length*2:=by
 induction T with
 |nil=>rfl
 |cons p t b=>simp[cQ] at b ⊢;omega
theorem kE(A B:Sd.Tb):cQ (A++B)=cQ A++cQ B:=by simp[cQ]
theorem mY(T:Sd.Tb):∀j (h:j<T.length),(cQ T)[j*2]?=some (.string (T[j]).1)/\(cQ T)[j*2+1]?=some (eC (T[j]).2):=by
 induction T with
 |nil=>intro j h;simp at h
 |cons p t b =>
  intro j h;have e:cQ (p::t)=.string p.1::eC p.2::cQ t:=by simp[cQ]
  rw[e];cases j with
  |zero=>simp
  |succ j =>
   have:=b j (by simpa using h);rw[show (j+1)*2=j*2+1+1 by omega];simpa using this
theorem mn(T:Sd.Tb):∀u∈cQ T,u.oneCell'=true:=by
 intro u hu;obtain⟨p,_,b⟩:=CC.1 hu;simp at b;rcases b with rfl|rfl <;> rfl
theorem dM{w:TJ}{B:Nat}{v:TK}{T:Sd.Tb}(h:w.ownsRow B 194 2 v T.length (cQ T)):∃p b,v=.slice p T.length b/\iB w p T:=by
 have m:=h;rcases h.2 with ⟨e,r⟩|⟨g,b,u,e,_⟩
 .subst e;refine⟨none,0,by rw[r],λj l=>by omega⟩
 .subst e;refine⟨some ⟨g,0,none⟩,b,rfl,λj l=>⟨g,rfl,?_,?_⟩⟩
  .rw[m.cellAt _ (by omega)];exact(mY T j l).1
  .rw[m.cellAt _ (by omega)];exact(mY T j l).2
theorem dd{w:TJ}{B e size n:Nat}{v:TK}{l:List TK}(h:w.ownsRow B e size v n l):∃p b,v=.slice p n b/\n<=b:=by
 rcases h.2 with ⟨rfl,j⟩|⟨g,b,m,rfl,_,_,j,_⟩
 .exact⟨none,0,by rw[j],by omega⟩
 .exact⟨_,b,rfl,j⟩
theorem info_entry:(prog.info? 194).map (λi=>(i.zero,i.size,i.bytes))=some (some (.agg #[.string ⟨#[]⟩,.pointer none]),2,24):=by kernel_rfl
section
variable {α : Type}
def kr(L:List α)(o:Nat)(c:List α):List α:=L.take o++c++L.drop (o+c.length)
theorem fZ(L:List α)(o:Nat)(c:List α)(h:o+c.length<=L.length):(kr L o c).length=L.length:=by simp[kr];omega
theorem re(L:List α)(o:Nat)(V D:List α)(n:Nat)(h1:o+V.length+D.length<=L.length):(kr (kr L (o+V.length) D) o V).take (o+V.length+D.length)=L.take o++V++D:=by
 have b:(kr L (o+V.length) D).take o=L.take o:=by
  unfold kr;rw[mR,zs (by simp;omega),DB,QD (by omega)]
 have e:(kr L (o+V.length) D).drop (o+V.length)=D++L.drop (o+V.length+D.length):=by
  unfold kr;rw[mR,Tq (by simp;omega),Dl (by simp;omega),sj]
 show (List.take o _++V++List.drop (o+V.length) _).take _=_
 rw[b,e,<-mR,zs (by simp;omega),zS (by simp;omega)]
theorem rF(L:List α)(o:Nat)(V D:List α)(h1:o+V.length+D.length<=L.length):(kr (kr L o V) (o+V.length) D).take (o+V.length+D.length)=L.take o++V++D:=by
 have b:(kr L o V).take (o+V.length)=L.take o++V:=by
  unfold kr;rw[zs (by simp;omega),zS (by simp;omega)]
 show (List.take _ _++D++List.drop _ _).take _=_
 rw[b,zs (by simp;omega),zS (by simp;omega)]
end
theorem nM(T:Sd.Tb)(i:Nat):(cQ T).take (i*2)=cQ (T.take i):=by
 induction T generalizing i with
 |nil=>simp[cQ]
 |cons p t b =>
  cases i with
  |zero=>simp[cQ]
  |succ i =>
   have e:cQ (p::t)=.string p.1::eC p.2::cQ t:=by simp[cQ]
   rw[e,show (i+1)*2=i*2+1+1 by omega,Gk,Gk,b];simp[cQ]
theorem oe(T:Sd.Tb)(i:Nat):(cQ T).drop (i*2)=cQ (T.drop i):=by
 induction T generalizing i with
 |nil=>simp[cQ]
 |cons p t b =>
  cases i with
  |zero=>simp
  |succ i =>
   have e:cQ (p::t)=.string p.1::eC p.2::cQ t:=by simp[cQ]
   rw[e,show (i+1)*2=i*2+1+1 by omega,MC,MC,b];simp
theorem oF(T:Sd.Tb)(i:Nat)(a:TM)(b:Nat):(cQ T).take (i*2)++[.string a,eC b]++(cQ T).drop (i*2)=cQ (T.take i++(a,b)::T.drop i):=by
 rw[nM,oe,kE];simp[cQ]
def gY(w:TJ)(B:Nat)(v:TK)(T:Sd.Tb)(i:Nat)(a:TM)(b:Nat)(e:Ending)(w':TJ):Prop :=
 ∃j,e=.returned j/\w'.ownsRow B 194 2 j (T.length+1) (cQ (T.take i++(a,b)::T.drop i))/\w.grownBy w' v.ownBlock/\(j.ownBlock=v.ownBlock\/j.ownBlock=some w.heap.size)
theorem mh(B x:Nat)(v:TK)(T:Sd.Tb)(a:TM)(b:Nat)(w:TJ)(I:B<=w.heap.size)(h:w.ownsRow B 194 2 v T.length (cQ T))(V:T.length<=1000000000)(J:w.heap[x]?=some (.cells #[.string a,eC b] 194 (0,0))):TL prog 215 #[v,Z Y T.length,.slice (some ⟨x,0,none⟩) 1 1] w (gY w B v T T.length a b):=by
 obtain⟨K,hi,z,A,C⟩:=fa info_entry;obtain⟨p,m,rfl,D⟩:=dd h;have L:T.length<=m:=D;have P:m<=9223372036854775807:=by
  rcases h.2 with ⟨E,Q⟩|⟨g,M,R,E,_,_,Q,S,_⟩
  .injection E with _ _ E;omega
  .injection E with _ _ E;unfold maxLen at S;omega
 clear D;have N:w.cell? ⟨x,0,none⟩=some (.string a):=by rw[cn w x 0 _ _ _ J];rfl
 have O:w.cell? ⟨x,1,none⟩=some (eC b):=by rw[cn w x 1 _ _ _ J];rfl
 by_cases F:m=T.length
 .subst F;go_enter func215,ntmps215;go_wp2_with (first
   |(at_builtin;go_must (refine eR _ rfl (.tmp 23) (.tmp 24) 56 rfl B 194 K _ 2 24 underlying56 hi z A C rfl (by decide) _ _ _ rfl h ⟨x,0,none⟩ 1 1 (by decide) [.string a,eC b] rfl rfl ?c1 ?c2 ?c3 ?c4 ?c5 ?_))
   |go_in)
  case c1 =>
   intro j u l
   match j,l with
   |0,l=>simp at l;subst l;simpa [Addr.add] using N
   |1,l=>simp at l;subst l;simpa [Addr.add] using O
  case c2=>intro u hu;simp at hu;rcases hu with rfl | rfl <;> rfl
  case c3=>unfold maxLen;omega
  case c4=>omega
  case c5=>exact I
  intro G w3 H r y _;go_wp2;go_ret;refine⟨G,rfl,?_,r,y⟩;have e:cQ (T.take T.length++(a,b)::T.drop T.length)=cQ T++[.string a,eC b]:=by simp[cQ]
  rw[e];exact H
 .have U:T.length<m:=by omega
  go_enter func215,ntmps215;go_wp2_with (first
   |(at_builtin;go_must (refine eR _ rfl (.tmp 23) (.tmp 24) 56 rfl B 194 K _ 2 24 underlying56 hi z A C rfl (by decide) _ _ _ rfl h ⟨x,0,none⟩ 1 1 (by decide) [.string a,eC b] rfl rfl ?c1 ?c2 ?c3 ?c4 ?c5 ?_))
   |go_in)
  case c1 =>
   intro j u l
   match j,l with
   |0,l=>simp at l;subst l;simpa [Addr.add] using N
   |1,l=>simp at l;subst l;simpa [Addr.add] using O
  case c2=>intro u hu;simp at hu;rcases hu with rfl | rfl <;> rfl
  case c3=>unfold maxLen;omega
  case c4=>omega
  case c5=>exact I
  intro G w3 H r y _;go_wp2;go_ret;refine⟨G,rfl,?_,r,y⟩;have e:cQ (T.take T.length++(a,b)::T.drop T.length)=cQ T++[.string a,eC b]:=by simp[cQ]
  rw[e];exact H
end Dk
namespace Dk
open Go.RowKit
theorem gH:(prog.info? 194).map (·.size)=some 2:=by
 obtain⟨l,hi,e,b,j⟩:=fa info_entry;rw[hi];simp[b]
theorem nO(w:TJ):(Go.sizeOf 194).run prog w=.ok 2 w:=by
 obtain⟨l,hi,e,b,j⟩:=fa info_entry;simp[sizeOf,typeInfo,hi,b]
theorem oQ(w:TJ)(x g o lb r:Nat)(a:TM)(b:Nat)(j:Array TK)(l:x≠g)(m:w.heap[x]?=some (.cells #[.string a,eC b] 194 (0,0)))(u:w.heap[g]?=some (.cells j 194 (0,0)))(y:j.size≠0):(callFunc 237 #[.slice (some ⟨x,0,none⟩) 1 1,.slice (some ⟨g,o,none⟩) lb r]).run prog w=.ok (.value (.bool false)) w:=by
 rw[run_callFunc_extern func237 (by kernel_rfl) (by kernel_rfl) (by kernel_rfl) (e:=Extern.SlicesOverlaps.overlaps #[56,56] #[4]) (by kernel_rfl),
  Lib.run_overlaps_apart w 56 4 194 underlying56 2 nO ⟨x,0,none⟩ ⟨g,o,none⟩ 1 1 lb r l 194 194 2 j.size (by simp[World.shape?,m]) (by simp[World.shape?,u]) y (by simp[World.frozen?,m]) (by simp[World.frozen?,m])]
 rfl
theorem kS(B x g cap i:Nat)(l:Array TK)(T:Sd.Tb)(a:TM)(b:Nat)(w:TJ)(hi:i<T.length)(hB:B<=g)(M:T.length+1<=cap)(U:cap<=maxLen)(hl:T.length<=1000000000)(X:x≠g)(q:w.heap[g]?=some (.cells l 194 (0,0)))(t:l.size=cap*2)(m:l.toList.take (T.length*2)=cQ T)(hx:w.heap[x]?=some (.cells #[.string a,eC b] 194 (0,0))):TL prog 215 #[.slice (some ⟨g,0,none⟩) T.length cap,Z Y i,.slice (some ⟨x,0,none⟩) 1 1] w (gY w B (.slice (some ⟨g,0,none⟩) T.length cap) T i a b):=by
 have af:∀o lb cb,(callFunc 237 #[.slice (some ⟨x,0,none⟩) 1 1,.slice (some ⟨g,o,none⟩) lb cb]).run prog w=.ok (.value (.bool false)) w:=λo lb cb=>oQ w x g o lb cb a b l X hx q (by omega)
 obtain⟨D,s⟩:∃D,D=(cQ T).drop (i*2):=⟨_,rfl⟩
 obtain⟨V,u⟩:∃V:List TK,V=[.string a,eC b]:=⟨_,rfl⟩
 have p:D.length=(T.length-i)*2:=by rw[s,uT,eH];omega
 have ag:V.length=2:=by rw[u];rfl
 have aa:l.toList.length=cap*2:=by simpa using t
 obtain⟨z,A⟩:∃z,z=kr l.toList (i*2+V.length) D:=⟨_,rfl⟩
 obtain⟨N,C⟩:∃N,N=kr z (i*2) V:=⟨_,rfl⟩
 have F:z.length=cap*2:=by rw[A,fZ _ _ _ (by omega)];exact aa
 have G:N.length=cap*2:=by rw[C,fZ _ _ _ (by omega)];exact F
 have H:N.take ((T.length+1)*2)=cQ (T.take i++(a,b)::T.drop i):=by
  have e:=re l.toList (i*2) V D 0 (by omega);rw[<-A,<-C] at e;have e2:i*2+V.length+D.length=(T.length+1)*2:=by omega
  rw[e2] at e;rw[e,<-oF,<-u,<-s]
  congr 2
  rw[<-m,DB,QD (by omega)]
 have y:∀j v,D[j]?=some v->w.cell? ⟨g,i*2+j,none⟩=some v:=λj v I=>by
  have aj:j<D.length:=(KK.1 I).1;rw[cn w g _ _ _ _ q];rw[s,<-m,Gt,Hj,cg (by omega)] at I;simpa using I
 have ab:∀v∈D,v.oneCell'=true:=λv hv=>mn T v (by rw[s] at hv;exact Ep hv)
 have J:∀O Q sc,(Builtin.copy_ #[56,56] O #[.slice (some ⟨g,(i+1)*2,none⟩) (T.length+1-(i+1)) Q,.slice (some ⟨g,i*2,none⟩) (T.length+1-i) sc]).run prog w.drew=.ok (goInt ((T.length-i:Nat):Int)) (w.drew.setRow g z.toArray):=λO Q sc=>by
  have h:=eu (P:=prog) w.drew 56 56 O 194 2 g ((i+1)*2) (T.length+1-(i+1)) Q ⟨g,i*2,none⟩ (T.length+1-i) sc l 194 D underlying56 gH q (T.length-i) (by simp only[Ho];split <;> omega) p
   (λj v I=>by rw[Ax];exact y j v I) (by omega) ab
  rw[h,A];unfold kr;rw[show i*2+V.length=(i+1)*2 by omega]
 have E:(w.drew.setRow g z.toArray).heap[g]?=some (.cells z.toArray 194 (0,0)):=sT w.drew g l _ _ _ q;have R:(w.drew.setRow g z.toArray).heap[x]?=some (.cells #[.string a,eC b] 194 (0,0)):=by
  rw[qk w.drew g x _ X];exact hx
 obtain⟨S,r⟩:∃S,S=w.drew.setRow g z.toArray:=⟨_,rfl⟩
 rw[<-r] at J E R;have ad:∀(W:TJ),W=S->∀O Q,(Builtin.copy_ #[56,56] O #[.slice (some ⟨g,i*2,none⟩) (T.length+1-i) Q,.slice (some ⟨x,0,none⟩) 1 1]).run prog W=.ok (goInt 1) (S.setRow g N.toArray):=λW hW O Q=>by
  subst hW;have h:=eu (P:=prog) W 56 56 O 194 2 g (i*2) (T.length+1-i) Q ⟨x,0,none⟩ 1 1 z.toArray 194 V underlying56 gH E 1 (by simp only[Ho];split <;> omega) (by omega)
   (λj v I=>by
     rw[Ax,cn W x _ _ _ _ R];rw[u] at I;simpa using I) (by simp;omega) (by rw[u];intro v hv;simp at hv;rcases hv with rfl|rfl <;> rfl)
  rw[h,C]
  rfl
 have K:∀W,W=S.setRow g N.toArray->W.ownsRow B 194 2 (.slice (some ⟨g,0,none⟩) (T.length+1) cap) (T.length+1) (cQ (T.take i++(a,b)::T.drop i))/\w.grownBy W (Value.ownBlock (.slice (some ⟨g,0,none⟩) T.length cap)):=λW hW=>by
  rw[hW];refine⟨⟨by rw[eH];simp;omega,.inr ⟨g,cap,N.toArray,rfl,hB,sT S g _ _ _ _ E,M,U,by simpa using G,by simpa using H⟩⟩,?_⟩;refine⟨by rw[r];rfl,by rw[r];rfl,by rw[r];rfl,by rw[r];simp[World.setRow],λk hk ah=>?_⟩;have L:k≠g:=λe=>ah (by rw[e];rfl)
  rw[qk S g k _ L,r,qk w.drew g k _ L];rfl
 have ae:=cP K;unfold maxLen at U;have ak:IntKind.i64.wrap ((i:Int)+1)=(i:Int)+1:=by rw[fp];omega
 have an:(0:Int)<=(i:Int)+1:=by omega
 have ao:i<=T.length:=by omega
 have ai:(i:Int)<=(T.length:Int):=by omega
 have aq:((i:Int)+1).toNat=i+1:=by omega
 have ar:(i:Int)<=(T.length:Int)+1:=by omega
 have au:¬((i:Int)=(T.length:Int)):=by omega
 have av:¬((cap:Int)<(T.length:Int)+1):=by omega
 have aw:¬(cap=i+1):=by omega
 have ax:¬(cap=i):=by omega
 clear K H y ab s u p ag aa A C F G q hx t m E R r;go_enter func215,ntmps215;go_wp2_with (simp only[af])
 go_region_law (refine step_copy_runI rfl (.tmp 73) (.tmp 76) 56 56 rfl _ _ (by simp[Act.eval,Act.put];rfl) (by simp[Act.eval,Act.put];rfl) (J _ _ _) ?_)
 go_wp2_with (first|(at_builtin;go_must (refine wpList_copy_runI _ rfl (.tmp 80) (.tmp 81) 56 56 rfl _ _ rfl rfl (ad _ rfl _ _) ?_))|go_in);go_wp2;go_ret;obtain⟨q1,q2⟩:=(cO ae) _ rfl;exact⟨_,rfl,q1,q2,by first|exact Or.inl rfl|exact Or.inr rfl⟩
theorem lk(B x g cap i:Nat)(C:Array TK)(T:Sd.Tb)(a:TM)(b:Nat)(w:TJ)(hi:i<T.length)(hB:B<=w.heap.size)(p:cap=T.length)(hl:T.length<=1000000000)(o:w.heap[g]?=some (.cells C 194 (0,0)))(E:C.toList.take (T.length*2)=cQ T)(an:T.length*2<=C.size)(hx:w.heap[x]?=some (.cells #[.string a,eC b] 194 (0,0))):TL prog 215 #[.slice (some ⟨g,0,none⟩) T.length cap,Z Y i,.slice (some ⟨x,0,none⟩) 1 1] w (gY w B (.slice (some ⟨g,0,none⟩) T.length cap) T i a b):=by
 subst p;obtain⟨i0,ao,aq,ar,aa⟩:=fa info_entry;obtain⟨D,hD⟩:∃D,D=(cQ T).drop (i*2):=⟨_,rfl⟩
 obtain⟨V,F⟩:∃V:List TK,V=[.string a,eC b]:=⟨_,rfl⟩
 have ab:D.length=(T.length-i)*2:=by rw[hD,uT,eH];omega
 have au:V.length=2:=by rw[F];rfl
 have u:∀j v,(cQ T)[j]?=some v->w.cell? ⟨g,j,none⟩=some v:=λj v y=>by
  have av:j<(cQ T).length:=(KK.1 y).1;rw[eH] at av;rw[cn w g _ _ _ _ o];rw[<-E,Hj,cg (by omega)] at y;simpa using y
 have U:i+(T.length+1-i)=T.length+1:=by omega
 have hold:(Builtin.firstCells i0.size i (.slice (some ⟨g,0,none⟩) i T.length)).run prog w.drew=.ok ((cQ T).take (i*2)).toArray w.drew:=by
  rw[ar];exact run_firstCells_some w.drew 2 i ⟨g,0,none⟩ i T.length ((cQ T).take (i*2)) (by rw[A3,eH];omega) (λj v y=>by
   rw[Ax];rw[Hj] at y;split at y
   .simpa using u j v y
   .cases y)
 obtain⟨G,hG⟩:∃G,G=grownCap w (T.length+1) T.length 194:=⟨_,rfl⟩
 have aw:T.length+1<=G:=by rw[hG];exact grownCap_ge w _ _ _
 have ad:G<=maxLen:=by rw[hG];exact grownCap_le_maxLen w _ _ _ (by unfold maxLen;omega)
 obtain⟨l,z⟩:∃l:Array TK,l=((cQ T).take (i*2)).toArray++Builtin.zeroCells (Value.agg #[.string ⟨#[]⟩,.pointer none]).cells (T.length+1-i)++Builtin.zeroCells (Value.agg #[.string ⟨#[]⟩,.pointer none]).cells (G-(T.length+1)):=⟨_,rfl⟩
 have ae:∀H,(Builtin.append_ #[56,3] H #[.slice (some ⟨g,0,none⟩) i T.length,Z Y ((T.length:Int)+1-(i:Int))]).run prog w =
   .ok (.slice (some ⟨w.heap.size,0,none⟩) (T.length+1) G) (w.drew.alloc (.cells l 194)):=λH=>by
  have h:=Lib.run_append_grow_zeros w 56 3 H 194 i0 _ Y Y underlying56 underlying3 ao aq (some ⟨g,0,none⟩) i T.length ((cQ T).take (i*2)) hold (T.length+1-i) (by omega) (by omega) (by omega) (by omega) (by rw[aa];omega) (by rw[aa,U];exact growslice_fits (by omega) (by omega));rw[U] at h;rw[show (T.length:Int)+1-(i:Int)=((T.length+1-i:Nat):Int) by omega,z,hG];exact h
 have X:l.toList.length=G*2:=by
  rw[z];simp[Builtin.zeroCells,Value.cells,eH];omega
 have af:l.toList.take (i*2)=(cQ T).take (i*2):=by
  rw[z];simp only[QU,mR];rw[zs (by simp[eH];omega)];exact(DB ..).trans (by rw[Nat.min_self])
 obtain⟨M,K⟩:∃M,M=kr l.toList (i*2) V:=⟨_,rfl⟩
 obtain⟨q,L⟩:∃q,q=kr M (i*2+V.length) D:=⟨_,rfl⟩
 have N:M.length=G*2:=by rw[K,fZ _ _ _ (by omega)];exact X
 have O:q.length=G*2:=by rw[L,fZ _ _ _ (by omega)];exact N
 have Q:q.take ((T.length+1)*2)=cQ (T.take i++(a,b)::T.drop i):=by
  have e:=rF l.toList (i*2) V D (by omega);rw[<-K,<-L] at e;have e2:i*2+V.length+D.length=(T.length+1)*2:=by omega
  rw[e2] at e;rw[e,<-oF,<-F,<-hD,af]
 have ax:g<w.heap.size:=ps o;have ay:x<w.heap.size:=ps hx;obtain⟨I,m⟩:∃I,I=w.drew.alloc (.cells l 194):=⟨_,rfl⟩
 have t:I.heap[w.heap.size]?=some (.cells l 194 (0,0)):=by rw[m];exact ct w.drew _
 have ag:I.heap[x]?=some (.cells #[.string a,eC b] 194 (0,0)):=by rw[m,cN w.drew _ x ay];exact hx
 have ah:I.heap[g]?=some (.cells C 194 (0,0)):=by rw[m,cN w.drew _ g ax];exact o
 rw[<-m] at ae;have R:∀W,W=I->∀H s,(Builtin.copy_ #[56,56] H #[.slice (some ⟨w.heap.size,i*2,none⟩) (T.length+1-i) s,.slice (some ⟨x,0,none⟩) 1 1]).run prog W=.ok (goInt 1) (I.setRow w.heap.size M.toArray):=λW hW H s=>by
  subst hW;have h:=eu (P:=prog) W 56 56 H 194 2 w.heap.size (i*2) (T.length+1-i) s ⟨x,0,none⟩ 1 1 l 194 V underlying56 gH t 1 (by simp only[Ho];split <;> omega) (by omega)
   (λj v y=>by
     rw[Ax,cn W x _ _ _ _ ag];rw[F] at y;simpa using y) (by rw[<-zh,X];omega) (by rw[F];intro v hv;simp at hv;rcases hv with rfl|rfl <;> rfl)
  rw[h,K]
  rfl
 obtain⟨A,r⟩:∃A,A=I.setRow w.heap.size M.toArray:=⟨_,rfl⟩
 have J:A.heap[w.heap.size]?=some (.cells M.toArray 194 (0,0)):=by rw[r];exact sT I _ _ _ _ _ t
 have ai:A.heap[g]?=some (.cells C 194 (0,0)):=by rw[r,qk I _ g _ (by omega)];exact ah
 rw[<-r] at R;have aj:∀W,W=A.drew->∀H s sc,(Builtin.copy_ #[56,56] H #[.slice (some ⟨w.heap.size,(i+1)*2,none⟩) (T.length+1-(i+1)) s,.slice (some ⟨g,i*2,none⟩) (T.length-i) sc]).run prog W=.ok (goInt ((T.length-i:Nat):Int)) (A.drew.setRow w.heap.size q.toArray):=λW hW H s sc=>by
  subst hW;have h:=eu (P:=prog) A.drew 56 56 H 194 2 w.heap.size ((i+1)*2) (T.length+1-(i+1)) s ⟨g,i*2,none⟩ (T.length-i) sc M.toArray 194 D underlying56 gH J (T.length-i) (by simp only[Ho];split <;> omega) ab
   (λj v y=>by
     rw[Ax];refine(cn A.drew g _ _ _ _ ai).trans ?_;rw[<-cn w g _ _ _ _ o];exact u _ v (by rw[hD,Gt] at y;exact y)) (by simp;omega) (λv hv=>mn T v (by rw[hD] at hv;exact Ep hv))
  rw[h,L];unfold kr;rw[show i*2+V.length=(i+1)*2 by omega]
 have S:∀W,W=A.drew.setRow w.heap.size q.toArray->W.ownsRow B 194 2 (.slice (some ⟨w.heap.size,0,none⟩) (T.length+1) G) (T.length+1) (cQ (T.take i++(a,b)::T.drop i))/\w.grownBy W (Value.ownBlock (.slice (some ⟨g,0,none⟩) T.length T.length)):=λW hW=>by
  rw[hW];refine⟨⟨by rw[eH];simp;omega,.inr ⟨w.heap.size,G,q.toArray,rfl,hB,sT A.drew _ _ _ _ _ J,aw,ad,by simpa using O,by simpa using Q⟩⟩,?_⟩;refine⟨by rw[r,m];rfl,by rw[r,m];rfl,by rw[r,m];rfl,by rw[r,m];simp[World.setRow],λk hk aB=>?_⟩;rw[qk A.drew _ k _ (by omega)]
  show A.heap[k]?=_
  rw[r,qk I _ k _ (by omega),m,cN w.drew _ k hk];rfl
 have ak:=cP S;unfold maxLen at ad;have aC:IntKind.i64.wrap ((i:Int)+1)=(i:Int)+1:=by rw[fp];omega
 have aD:(0:Int)<=(i:Int)+1:=by omega
 have aE:i<=T.length:=by omega
 have az:(i:Int)<=(T.length:Int):=by omega
 have aF:((i:Int)+1).toNat=i+1:=by omega
 have aG:(i:Int)<=(T.length:Int)+1:=by omega
 have aH:¬((i:Int)=(T.length:Int)):=by omega
 have aI:¬(G=i):=by omega
 have aA:¬(G=i+1):=by omega
 have aJ:¬(T.length=i):=by omega
 clear S Q u hD F ab au K L N O o hx an E ah ag m r t J ai X af z hG hold U;go_enter func215,ntmps215;go_wp2_with (first
  |(at_builtin;refine Lib.wpList_append_run _ rfl (.tmp 34) (.tmp 39) _ _ rfl _ _ rfl rfl _ _ (ae _) ?_)
  |(at_builtin;refine wpList_copy_runI _ rfl (.tmp 43) (.tmp 44) 56 56 rfl _ _ rfl rfl (R _ rfl _ _) ?_))
 go_region_law (refine step_copy_runI rfl (.tmp 50) (.tmp 53) 56 56 rfl _ _ (by simp[Act.eval,Act.put];rfl) (by simp[Act.eval,Act.put];rfl) (aj _ rfl _ _ _) ?_)
 go_wp2;go_ret;obtain⟨q1,q2⟩:=(cO ak) _ rfl;exact⟨_,rfl,q1,q2,by first|exact Or.inl rfl|exact Or.inr rfl⟩
theorem mu(B x:Nat)(v:TK)(T:Sd.Tb)(i:Nat)(a:TM)(b:Nat)(w:TJ)(hi:i<=T.length)(E:B<=w.heap.size)(h:w.ownsRow B 194 2 v T.length (cQ T))(u:T.length<=1000000000)(y:v.ownBlock≠some x)(z:w.heap[x]?=some (.cells #[.string a,eC b] 194 (0,0))):TL prog 215 #[v,Z Y i,.slice (some ⟨x,0,none⟩) 1 1] w (gY w B v T i a b):=by
 by_cases G:i=T.length
 .subst G;exact mh B x v T a b w E h u z
 .rcases h.2 with ⟨F,J⟩|⟨g,l,m,F,A,r,H,C,D,j⟩
  .omega
  .subst F;by_cases I:T.length+1<=l
   .exact kS B x g l i m T a b w (by omega) A I C u (λe=>y (by rw[e];rfl)) r D j z
   .exact lk B x g l i m T a b w (by omega) E (by omega) u r j (by omega) z
end Dk
namespace Dk
open Go.RowKit
structure eV (w:TJ) (D o:Nat) (C:Array TK) (tD:TypeId) (v:TK) (T:Sd.Tb):Prop where
 blk:w.heap[D]?=some (.cells C tD (0,0))
 at_:C[o]?=some v
 row:w.ownsRow 0 194 2 v T.length (cQ T)
 mg:Sd.da T
 len:T.length<=1000000000
theorem eV.cell{w:TJ}{D o:Nat}{C:Array TK}{b:TypeId}{v:TK}{T:Sd.Tb}(h:eV w D o C b v T):w.cell? ⟨D,o,none⟩=some v:=by
 rw[cn w D o _ _ _ h.blk];exact h.at_
theorem eV.below{w w':TJ}{D o:Nat}{C:Array TK}{b:TypeId}{v:TK}{T:Sd.Tb}(h:eV w D o C b v T)(hb:TI w w'):eV w' D o C b v T:=⟨(hb.block D (ps h.blk)).trans h.blk,h.at_,cW h.row hb,h.mg,h.len⟩
theorem fW(D o:Nat)(C:Array TK)(l:TypeId)(v:TK)(T:Sd.Tb)(y:TM)(w:TJ)(h:eV w D o C l v T):TL prog 146 #[.pointer (some ⟨D,o,none⟩),.string y] w λe j=>e=.returned (.tuple #[Z Y (Sd.dm T y:Nat),.bool (Sd.dw T y)])/\TI w j:=by
 obtain⟨p,b,rfl,m⟩:=dM h.row;have A:=h.cell;have r:=h.mg;have u:=h.len;clear h;go_enter func146,ntmps146;go_wp2_with fail;refine(mx p b T y w m r u).mono ?_;rintro e j ⟨rfl,z⟩;go_wp2;exact cr (v := .tuple #[Z Y (Sd.dm T y:Nat),.bool (Sd.dw T y)]) (by simp[results,results146,go_sem]) rfl ⟨rfl,z⟩
def eX:Option Nat->TK
 |some f=>eC f
 |none=>.pointer none
theorem yT(D o:Nat)(C:Array TK)(l:TypeId)(v:TK)(T:Sd.Tb)(y:TM)(w:TJ)(h:eV w D o C l v T):TL prog 144 #[.pointer (some ⟨D,o,none⟩),.string y] w λe G=>e=.returned (.tuple #[eX (Sd.jB T y),.bool (Sd.dw T y)])/\TI w G:=by
 have b:=cP h;cases hh:Sd.dw T y with
 |false =>
  rw[Sd.me hh];have m:=cP hh;clear hh h;go_enter func144,ntmps144;go_wp2_with fail;refine(fW D o C l v T y w (cO b)).mono ?_;rintro e H ⟨rfl,j⟩;rw[cO m];go_wp2;go_ret2;exact⟨rfl,j⟩
 |true =>
  obtain⟨A,I,B⟩:=Sd.gn h.mg hh;rw[B];have r:=Sd.lY T y;have M:=h.len;have m:=cP hh;clear hh h I B;go_enter func144,ntmps144;go_wp2_with fail;refine(fW D o C l v T y w (cO b)).mono ?_;rintro e H ⟨rfl,j⟩;rw[cO m];have N:=((cO b).below j).cell;obtain⟨p,J,rfl,E⟩:=dM ((cO b).below j).row;obtain⟨g,K,L,u⟩:=E (Sd.dm T y) A;subst K;obtain⟨f,z⟩:∃f,(T[Sd.dm T y]).2=f:=⟨_,rfl⟩
  rw[z] at u;have F:=cP z;generalize Sd.dm T y=i at A r L u F;clear E z;unfold eC at u;go_wp2;go_ret2;exact⟨by rw[cO F];rfl,j⟩
end Dk
namespace Dk
open Go.RowKit
structure dK (w w':TJ) (D o:Nat) (C:Array TK) (tD:TypeId) (v v':TK) (T':Sd.Tb):Prop where
 blk:w'.heap[D]?=some (.cells (C.setIfInBounds o v') tD (0,0))
 row:w'.ownsRow 0 194 2 v' T'.length (cQ T')
 kept:Kept w w' (λk=>k≠D/\v.ownBlock≠some k)
 new:v'.ownBlock=v.ownBlock\/∃g,v'.ownBlock=some g/\w.heap.size<=g
theorem n5(D o:Nat)(C:Array TK)(z:TypeId)(v:TK)(T:Sd.Tb)(y:TM)(f:Nat)(w:TJ)(h:eV w D o C z v T)(E:v.ownBlock≠some D):TL prog 148 #[.pointer (some ⟨D,o,none⟩),.string y,eC f] w λe X=>e=.returned (.bool (!Sd.dw T y))/\∃q,dK w X D o C z v q (if Sd.dw T y=true then T else Sd.gI T y f):=by
 have N:o<C.size:=(cB.1 h.at_).1;cases hh:Sd.dw T y with
 |true =>
  have O:=cP hh;have b:=cP h;clear hh h;go_enter func148,ntmps148;go_wp2_with fail;refine(fW D o C z v T y w (cO b)).mono ?_;rintro e X ⟨rfl,A⟩;rw[cO O];go_wp2;go_ret;have r:=(cO b).below A;refine⟨rfl,v,?_,?_,Kept.below A _,Or.inl rfl⟩
  .rw[r.blk];have:C.setIfInBounds o v=C:=by
    have s:=(cB.1 r.at_).2;rw[<-s];simp[Array.setIfInBounds,N]
   rw[this]
  .exact r.row
 |false =>
  have O:=cP hh;have b:=cP h;have hl:=h.len;clear hh h;go_enter func148,ntmps148;go_wp2_with fail;refine(fW D o C z v T y w (cO b)).mono ?_;rintro e F ⟨rfl,A⟩;rw[cO O];have r:=(cO b).below A;have hu:=r.blk;have P:=r.row;have hc:=r.cell;have Q:D<F.heap.size:=ps hu;have G:(F.alloc (.cells #[.string y,eC f] 194)).heap[D]?=some (.cells C z (0,0)):=by rw[cN _ _ _ Q];exact hu
  have R:=cP G;have t:=cP P;obtain⟨p,l,rfl,_⟩:=dd P;have H:=Sd.lY T y;clear hu P G r;unfold eC;go_wp2_with fail;refine(mu 0 F.heap.size (.slice p T.length l) T (Sd.dm T y) y f _ H (by simp) ((cO t).alloc _) hl (λu=>by have:=((cO t).lt _ u).2;omega) (ct F _)).mono ?_;rintro e B ⟨q,rfl,I,J,K⟩;have m:B.heap[D]?=some (.cells C z (0,0)):=by
   rw[J.block D (by simp;omega) (λu=>E u.symm)];exact cO R
  have aa:B.cell? ⟨D,o,none⟩=some (.slice p T.length l):=by rw[cn B D o _ _ _ m];exact(cO b).at_
  have ab:B.frozen? ⟨D,o,none⟩=false:=by simp[World.frozen?,m]
  obtain⟨S,j,rfl,_⟩:=dd I;have U:=cP m;have L:=cP K;clear m hc K;go_wp2;go_ret;have V:Kept w B (λk=>k≠D/\(Value.slice p T.length l).ownBlock≠some k):=(Kept.below A _).trans (((Kept.refl F _).alloc _).trans (Kept.grown J (λk W=>W.2)));have M:(Value.slice S (T.length+1) j).ownBlock=(Value.slice p T.length l).ownBlock\/∃g,(Value.slice S (T.length+1) j).ownBlock=some g/\w.heap.size<=g:=by
   rcases cO L with e|e
   .exact Or.inl e
   .exact Or.inr ⟨_,e,by have:=A.size;simp;omega⟩
  refine⟨rfl,.slice S (T.length+1) j,?_,?_,V.setCell (λW=>W.1 rfl) _,M⟩
  .rw[cA B D o _ _ _ (cO U)]
  .rw[Sd.iS];refine v8 I (λu=>?_) _;rcases cO L with e|e
   .rw[e] at u;exact E u
   .rw[e] at u;simp at u;omega
theorem LU{w:TJ}{B e size n g j cap:Nat}{p:Option Addr}{l:List TK}(u:TK)(h:w.ownsRow B e size (.slice (some ⟨g,0,none⟩) n cap) n l)(K:j<l.length):(w.setCell ⟨g,j,none⟩ u).ownsRow B e size (.slice (some ⟨g,0,none⟩) n cap) n (l.set j u):=by
 obtain⟨z,m⟩:=h;refine⟨by rw[QX];exact z,?_⟩;rcases m with ⟨m,_⟩|⟨L,y,A,C,D,E,F,G,H,I⟩
 .cases m
 .injection C with b J r;injection b with b;injection b with b;subst b r;refine .inr ⟨g,cap,_,rfl,D,cA w g j _ _ u E,F,G,by rw[Array.size_setIfInBounds];exact H,?_⟩;rw[Array.toList_setIfInBounds,List.take_set,I]
theorem Nh(T:Sd.Tb):∀(i:Nat) (hi:i<T.length) (y:TM) (f:Nat),(T[i]).1=y->(cQ T).set (i*2+1) (eC f)=cQ (T.set i (y,f)):=by
 induction T with
 |nil=>intro i hi;simp at hi
 |cons p t j =>
  intro i hi y f b;have e:cQ (p::t)=.string p.1::eC p.2::cQ t:=by simp[cQ]
  rw[e];cases i with
  |zero =>
   have b:p.1=y:=b;subst b;simp[cQ]
  |succ i =>
   have l:=j i (by simpa using hi) y f (by simpa using b);rw[show (i+1)*2+1=i*2+1+1+1 by omega,List.set_cons_succ,List.set_cons_succ,l];simp[cQ]
theorem Dh(D o:Nat)(C:Array TK)(F:TypeId)(v:TK)(T:Sd.Tb)(y:TM)(f:Nat)(w:TJ)(h:eV w D o C F v T)(G:v.ownBlock≠some D):TL prog 98 #[.pointer (some ⟨D,o,none⟩),.string y,eC f] w λe w'=>e=.returned (.tuple #[])/\∃u,dK w w' D o C F v u (Sd.jZ T y f):=by
 have S:o<C.size:=(cB.1 h.at_).1;have b:=n5 D o C F v T y f w h G;unfold eC at b ⊢;cases hh:Sd.dw T y with
 |false =>
  have H:Sd.jZ T y f=Sd.gI T y f:=by unfold Sd.jZ;rw[hh];rfl
  rw[H];rw[hh] at b;clear hh h H;go_enter func98,ntmps98;go_wp2_with fail;refine b.mono ?_;rintro e U ⟨rfl,u,m⟩;clear b;go_wp2;exact cr (v := .tuple #[]) (cu rfl _ _ _) rfl ⟨rfl,u,m⟩
 |true =>
  obtain⟨V,s,e2⟩:=Sd.gn h.mg hh;have H:Sd.jZ T y f=T.set (Sd.dm T y) (y,f):=by unfold Sd.jZ;rw[hh];rfl
  rw[H];rw[hh] at b;have HH:=cP hh;have z:=cP h;have hl:=h.len;clear hh h H e2;go_enter func98,ntmps98;go_wp2_with fail;refine b.mono ?_;rintro e U ⟨rfl,u,m⟩;clear b;have I:eV U D o (C.setIfInBounds o u) F u T:=⟨m.blk,by simp[S],m.row,(cO z).mg,hl⟩
  have J:u.ownBlock≠some D:=λK=>by
   rcases m.new with e|⟨g,e,hg⟩
   .rw[e] at K;exact G K
   .rw[e] at K;have K:g=D:=iP K;have:=ps (cO z).blk;omega
  have HN:=cP m;have L:=cP I;clear m I;go_wp2_with fail;refine(fW D o _ F u T y U (cO L)).mono ?_;rintro e W ⟨rfl,hb⟩;rw[cO HH];have j:=(cO L).below hb;have hc:=j.cell;have l:=j.row;have A:=j.blk;have M:=cP l;have N:=cP A;obtain⟨p,O,rfl,he⟩:=dM l;obtain⟨g,hp,c0,c1⟩:=he (Sd.dm T y) V;subst hp;have X:W.frozen? ⟨g,Sd.dm T y*2+1,none⟩=false:=by
   rcases l.2 with ⟨r,_⟩|⟨g',aa,ab,r,_,q,_⟩
   .cases r
   .injection r with r _ _;injection r with r;injection r with r;subst r;simp[World.frozen?,q]
  have P:=cP s;have t:g≠D:=λe=>J (by rw[e];rfl)
  generalize Q:Sd.dm T y=i at V c0 c1 X P ⊢;clear he l A j s;have HI:=cP Q;clear Q;unfold eC at c1;go_wp2;have B:dK w (W.setCell ⟨g,i*2+1,none⟩ (.pointer (some ⟨f,0,none⟩))) D o C F v (.slice (some ⟨g,0,none⟩) T.length O) (T.set i (y,f)):=by
   have m:=cO HN;refine⟨?_,?_,?_,m.new⟩
   .rw[cG W _ _ D (λe=>t e.symm)];exact cO N
   .rw[QX,<-Nh T i V y f (cO P)];exact LU (p:=none) _ (cO M) (by rw[eH];omega)
   .refine(m.kept.trans (Kept.below hb _)).Jf (λk hk ho E=>?_) _;rcases m.new with e|⟨g',e,ad⟩
    .exact ho.2 (by rw[<-e,E];rfl)
    .have:g=g':=iP e;have E:k=g:=E;omega
  have R:=cP B;clear B;exact cw (cu rfl _ _ _) rfl ⟨rfl,.slice (some ⟨g,0,none⟩) T.length O,by rw[cO HI];exact cO R⟩
end Dk
namespace Dk
open Go.RowKit
def Fg(T:Sd.Tb)(w:TJ)(e:Ending)(w':TJ):Prop :=
 ∃b,e=.returned b/\w'.ownsRow 0 194 2 b T.length (cQ T)/\TI w w'/\∀g,b.ownBlock=some g->w.heap.size<=g
theorem CZ(v:TK)(T:Sd.Tb)(w:TJ)(h:w.ownsRow 0 194 2 v T.length (cQ T))(W:T.length<=1000000000):TL prog 149 #[v] w (Fg T w):=by
 rcases h.2 with ⟨rfl,X⟩|⟨g,y,S,rfl,_,G,H,I,z,A⟩
 .have j:=Lib.run_eql_slice_nil (P:=prog) w 56 194 none 0 0 0 0 underlying56;simp only[Option.isNone_none] at j;go_enter func149,ntmps149;go_wp2;go_ret;exact⟨_,rfl,h,cj _ _,λg G=>by simp[Value.ownBlock] at G⟩
 .have j:=Lib.run_eql_slice_nil (P:=prog) w 56 194 (some ⟨g,0,none⟩) T.length y 0 0 underlying56;simp only[Option.isNone_some] at j;by_cases N:T=[]
  .subst N;simp only[Bb] at j;clear h G z A;go_enter func149,ntmps149;go_wp2;go_ret;refine⟨_,rfl,⟨rfl,.inr ⟨w.heap.size,0,#[],rfl,cy _,ct w _,b7 _,by unfold maxLen;omega,rfl,rfl⟩⟩,(cj _ w).alloc TG _,λO u=>?_⟩;simp[Value.ownBlock] at u;omega
  .obtain⟨U,hi,J,K,L⟩:=fa info_entry;have B:0<T.length:=by
    rcases T with _|⟨a,b⟩
    .exact absurd rfl N
    .simp
   have l:=World.ownsRow_lit (base:=w.heap.size) (e:=194) (size:=2) w #[] 0 TG (by unfold maxLen;omega) (by rfl);have m:=(h.alloc (.cells #[] 194)).cells (g:=g) rfl;have C:=cP m;have D:=cP l;clear m l G H I z A h;go_enter func149,ntmps149;go_wp2_with (first
    |(at_builtin;go_must (refine eR _ rfl (.tmp 5) (.tmp 6) 56 rfl w.heap.size 194 U _ 2 24 underlying56 hi J K L rfl (by decide) _ 0 [] rfl (cO D) ⟨g,0,none⟩ T.length y B (cQ T) rfl (eH T) (cO C) (mn T) (by unfold maxLen;omega) (by omega) (by simp) ?_))
    |go_in)
   intro Q w3 R E M _;have r:w3.ownsRow w.heap.size 194 2 Q T.length (cQ T):=by simpa using R
   have F:TI w w3:=((cj _ w).alloc TG _).grown E (by simp) (λk V=>by simp[Value.ownBlock] at V;omega);clear R E M;go_wp2;go_ret;exact⟨Q,rfl,rL r,F,λO u=>(r.lt O u).1⟩
def BX(T:Sd.Tb)(w:TJ)(e:Ending)(w':TJ):Prop :=
 ∃b,e=.returned (.agg #[b])/\w'.ownsRow 0 194 2 b T.length (cQ T)/\TI w w'/\∀g,b.ownBlock=some g->w.heap.size<=g
theorem BO(D o:Nat)(C:Array TK)(E:TypeId)(v:TK)(T:Sd.Tb)(w:TJ)(h:eV w D o C E v T):TL prog 99 #[.pointer (some ⟨D,o,none⟩)] w (BX T w):=by
 have K:=h.cell;have L:D<w.heap.size:=ps h.blk;have B:=λo=>CZ v T (w.alloc o) (h.row.alloc o) h.len
 obtain⟨p,F,rfl,_⟩:=dd h.row;clear h;go_enter func99,ntmps99;go_wp2_with fail;refine(B _).mono ?_;rintro e m ⟨M,rfl,r,u,y⟩;have H:=cP (And.intro r (And.intro u y));have j:m.heap[w.heap.size]?=some (.cells #[.slice none 0 0] 58 (0,0)):=(u.block w.heap.size (by simp)).trans (ct w _);have z:m.cell? ⟨w.heap.size,0,none⟩=some (.slice none 0 0):=by rw[cn m _ 0 _ _ _ j];rfl
 have G:m.frozen? ⟨w.heap.size,0,none⟩=false:=by simp[World.frozen?,j]
 obtain⟨A,b,rfl,_⟩:=dd r;clear r u y B j;go_wp2;have l:(m.setCell ⟨w.heap.size,0,none⟩ (.slice A T.length b)).cell? ⟨w.heap.size,0,none⟩=some (.slice A T.length b):=mm _ _ _ z;obtain⟨r,u,y⟩:=cO H;refine cr (v := .agg #[.slice A T.length b]) (by simp[results,results99,go_sem,l]) rfl ⟨_,rfl,?_,?_,λg I=>?_⟩
 .refine v8 r (λJ=>?_) _;have:=y _ J;simp at this;omega
 .exact(((cj _ w).alloc TG _).trans (u.mono (by simp))).setCell TG _
 .have:=y g I;simp at this;omega
end Dk
namespace Dk
open Go.RowKit Go.Shelf
attribute [local go_sem] Oper.semAt_some
structure fI (N:Nat) (ok:Nat->Prop) (w w':TJ):Prop where
 os:w'.os=w.os
 tape:w'.tape=w.tape
 output:w'.output=w.output
 size:w.heap.size<=w'.heap.size
 block:∀k,k<N->ok k->w'.heap[k]?=w.heap[k]?
theorem fI.refl(N:Nat)(ok:Nat->Prop)(w:TJ):fI N ok w w:=⟨rfl,rfl,rfl,b7 _,λ_ _ _=>rfl⟩
variable {N:Nat}{ok:Nat->Prop}
theorem fI.trans{a b c:TJ}(h:fI N ok a b)(k:fI N ok b c): fI N ok a c:=⟨k.os.trans h.os,k.tape.trans h.tape,k.output.trans h.output,cx h.size k.size,λi hi e=>(k.block i hi e).trans (h.block i hi e)⟩
theorem fI.alloc{a w:TJ}(h:fI N ok a w)(j:N<=w.heap.size)(o:Obj): fI N ok a (w.alloc o):=⟨h.os,h.tape,h.output,by have:=h.size;simp;omega,λk b e=>(cN w o k (by omega)).trans (h.block k b e)⟩
theorem fI.cell{w w':TJ}(h:fI N ok w w'){p:Addr}(b:p.block<N)(e:ok p.block): w'.cell? p=w.cell? p:=CN (w:=w) (h.block p.block b e)
theorem fI.putObj(W:TJ)(l:Nat)(o e:Obj)(j:N<=l)(h:W.heap[l]?=some o): fI N ok W (W.putObj l e):=by
 have b:=Tl W l e;exact⟨b.os,b.tape,b.output,b.size,λk m _=>b.block k (by have:=(cB.1 h).1;omega) (by simp;omega)⟩
theorem qu(F:Fence)(n:Nat)(j:F.fn 55)(b:F.round=none)(p0:Option Addr)(w:TJ):CallsIn F n prog 55 #[.pointer p0] w λe l=>e=.returned (.func (.func 96) #[] #[.pointer (some ⟨w.heap.size,0,none⟩)])/\l=w.alloc (.cells #[.pointer p0] 131):=by
 refine callsIn_of_wp func55 rfl j ?_ b;simp only[ntmps55,GK,cD,Bb,Nat.reduceAdd,Nat.reduceSub,Jx,JK,Kk,KA,sj,mf]
 gi_wp2
 go_ret;exact⟨rfl,rfl⟩
theorem rJ(F:Fence)(n:Nat)(h8:F.fn 96)(H:F.round=none)(hn:1<=n)(l O D o N:Nat)(ok:Nat->Prop)(p:Option Addr)(cap:Nat)(T:Sd.Tb)(hl:T.length<=1000000000)(J P:List { x:TM × Nat // x∈T }->TJ->Prop)(hY:∀b x W,J b W->b.length<T.length->YieldAt F (n-1) prog l #[.string x.1.1,eC x.1.2] W λe z => (e=.returned (.bool true)/\J (b++[x]) z/\fI N ok W z)\/(e=.returned (.bool false)/\P (b++[x]) z))(W:TJ)(hN:N<=W.heap.size)(I:AbidesFrom W.heap.size J)(aa:W.cell? ⟨O,0,none⟩=some (.pointer (some ⟨D,o,none⟩)))(ht:W.cell? ⟨D,o,none⟩=some (.slice p T.length cap))(hc:∀j (hj:j<T.length),∃g,p=some ⟨g,0,none⟩/\g<N/\ok g/\W.cell? ⟨g,j*2,none⟩=some (.string T[j].1)/\W.cell? ⟨g,j*2+1,none⟩=some (eC T[j].2))(h0:J [] W):CallsIn F n prog 96 #[.func (.yield l) #[] #[],.pointer (some ⟨O,0,none⟩)] W λe z=>(∃v,e=.returned v)/\
   ((∃Q,Q=T.attach/\J Q z)\/(∃b,b <+: T.attach/\P b z)):=by
 refine callsIn_of_wp func96 rfl h8 ?_ H;simp only[ntmps96,GK,cD,Bb,Nat.reduceAdd,Nat.reduceSub,Jx,JK,Kk,KA,sj,mf]
 gi_wp2
 gi_loopw [10] (λi wr=>∃k:Nat,k<=T.length/\i=Z Y k/\Hid (J (T.attach.take k) wr)/\fI N ok W wr)
  (λi _=>T.length-(intOf i).toNat)
 case atStart=>exact⟨0,cy _,rfl,h0,fI.refl _ _ _⟩
 case round =>
  obtain⟨k,hk,rfl,R,m⟩:=hrel;by_cases K:k<T.length
  .obtain⟨g,rfl,S,A,U,V⟩:=hc k K;have d0:=(m.cell (p:=⟨g,k*2,none⟩) S A).trans U;have X:=(m.cell (p:=⟨g,k*2+1,none⟩) S A).trans V;have B:(k:Int)<(T.length:Int):=by omega
   have ab:T.attach.length=T.length:=List.length_attach;obtain⟨x,L⟩:∃x,T.attach[k]'(by omega)=x:=⟨_,rfl⟩
   have C:T[k]=x.1:=by rw[<-L];simp
   rw[C] at d0 X;have q:=cP L;clear L U V C;have E:J (T.attach.take k) (wr.alloc (.cells #[.string x.1.1,eC x.1.2] 194)):=I _ _ _ none (cO R) (World.grownBy_alloc _ _ none) (λr e=>by cases e);obtain⟨fn,t,assign,body,hy,s⟩:=hY _ x _ E (by rw[A3];omega);clear E;unfold eC at X hy s
   gi_wp2
   refine s.mono ?_;rintro e W3 (⟨rfl,G,M⟩|⟨rfl,u⟩)
   .have y:=cP G;clear G
    gi_wp2
    go_roundw
    case rel=>exact⟨k+1,by omega,by go_num,by show J _ _;rw[zQ (by omega),cO q];exact cO y,m.trans (((fI.refl N ok _).alloc (cx hN m.size) _).trans M)⟩
    case measure=>simp[intOf];omega
   .have y:=cP u;clear u
    gi_wp2
    refine cr (cu rfl _ _ _) rfl ?_;exact⟨⟨_,rfl⟩,.inr ⟨_,⟨T.attach.drop (k+1),by rw[<-cO q,<-zQ (by omega),r4]⟩,cO y⟩⟩
  .have B:¬(k:Int)<(T.length:Int):=by omega
   obtain rfl:k=T.length:=by omega
   gi_wp2
   go_end0
   exact⟨⟨_,rfl⟩,.inl (by have h:=cO R;rw[zS (by rw[List.length_attach];omega)] at h;first|exact h|exact⟨_,rfl,h⟩)⟩
theorem kG(F:Fence)(n:Nat)(H:F.fn 96)(u:F.round=none)(I:1<=n)(b D o N:Nat)(ok:Nat->Prop)(p:Option Addr)(cap:Nat)(T:Sd.Tb)(K:T.length<=1000000000)(w:TJ)(m:b<w.heap.size)(y:N<=w.heap.size)(z:D<w.heap.size)(A:w.cell? ⟨b,0,none⟩=some (.pointer (some ⟨D,o,none⟩)))(ht:w.cell? ⟨D,o,none⟩=some (.slice p T.length cap))(L:∀j (G:j<T.length),∃g,p=some ⟨g,0,none⟩/\g<N/\ok g/\w.cell? ⟨g,j*2,none⟩=some (.string T[j].1)/\w.cell? ⟨g,j*2+1,none⟩=some (eC T[j].2)):SeqStopsK F n prog 96 #[.pointer (some ⟨b,0,none⟩)] (λx:{ x:TM × Nat // x∈T }=>#[Value.string x.1.1,eC x.1.2]) (fI N ok) (λM=>M=T.attach) (λB=>B <+: T.attach) T.length w:=λl J O W r P _ Q R =>
 rJ F n H u I l b D o N ok p cap T K J O Q W (cx y r.size) P ((r.cell (p:=⟨b,0,none⟩) m).trans A) ((r.cell (p:=⟨D,o,none⟩) z).trans ht)
  (λj G=>by obtain⟨g,e,C,E,S,U⟩:=L j G;exact⟨g,e,C,E,(r.cell (p:=⟨g,j*2,none⟩) (dT C y)).trans S,(r.cell (p:=⟨g,j*2+1,none⟩) (dT C y)).trans U⟩) R
end Dk
namespace Dk
open Go.RowKit
theorem qE(w:TJ)(g o c:Nat)(b:Array TK)(u:TypeId)(y:w.heap[g]?=some (.cells b 194 (0,0)))(e:o+2<=b.size):(Builtin.clear_ #[56] u #[.slice (some ⟨g,o,none⟩) 1 c]).run prog w=.ok (.tuple #[]) (w.setRow g (kr b.toList o [.string ⟨#[]⟩,.pointer none]).toArray):=by
 obtain⟨B,hi,l,z,A⟩:=fa info_entry;have j:=run_storeCells_at prog g o 194 [.string ⟨#[]⟩,.pointer none] 0 b w y (by simpa using e) (by intro v r;simp at r;rcases r with rfl|rfl <;> rfl);have m:(Builtin.zeroCells (Value.agg #[.string ⟨#[]⟩,.pointer none]).cells 1).toList=[.string ⟨#[]⟩,.pointer none]:=by simp[Builtin.zeroCells,Value.cells];rfl
 simp only[ub] at j;simp[Builtin.clear_,run_underlying underlying56,zeroValue,typeInfo,hi,l,m,j,kr]
theorem iV{P:Program}{b:Array Oper}{o:Oper}{a:Act}{w w':TJ}{K:Act->TJ->Prop}{Q:Exit->Act->TJ->Prop}{E:Prop}{v':TK}(m:o.guard=none)(s x:Operand)(t u:TypeId)(e:o.op=Op.call { callee:=Callee.builtin Builtin.append,args := #[s,x],argTypes := #[t,u] })(j l:TK)(r:a.eval s=j)(y:a.eval x=l)(z:(Builtin.append_ #[t,u] o.type #[j,l]).run P w=.ok v' w')(A:K (a.put o.dst v') w'):if Region.wanted o (yielded b a.tmps)=true then Oper.wp P o a w K Q else E:=by
 have B:Region.wanted o (yielded b a.tmps)=true:=by simp[Region.wanted,m]
 rw[cg B];unfold Oper.wp;simp[execOp,e,resolve,invoke,builtin,r,y,z,Result.andThen];exact A
theorem uN(T:Sd.Tb)(i:Nat):cQ (T.eraseIdx i)=(cQ T).take (i*2)++cQ (T.drop (i+1)):=by
 rw[List.eraseIdx_eq_take_drop_succ,kE,nM]
theorem qh(g cap i:Nat)(b:Array TK)(T:Sd.Tb)(w:TJ)(hi:i<T.length)(ai:T.length<=cap)(X:cap<=maxLen)(hl:T.length<=1000000000)(hg:w.heap[g]?=some (.cells b 194 (0,0)))(q:b.size=cap*2)(r:b.toList.take (T.length*2)=cQ T):TL prog 147 #[.slice (some ⟨g,0,none⟩) T.length cap,Z Y i,Z Y ((i:Int)+1)] w λe w'=>e=.returned (.slice (some ⟨g,0,none⟩) (T.length-1) cap)/\
   w'.ownsRow 0 194 2 (.slice (some ⟨g,0,none⟩) (T.length-1) cap) (T.length-1) (cQ (T.eraseIdx i))/\w.grownBy w' (some g):=by
 obtain⟨i0,ab,aj,R,ak⟩:=fa info_entry;obtain⟨B,z⟩:∃B,B=cQ (T.drop (i+1)):=⟨_,rfl⟩
 have t:B.length=(T.length-(i+1))*2:=by rw[z,eH,uT]
 have s:b.toList.length=cap*2:=by simpa using q
 obtain⟨C,E⟩:∃C,C=kr b.toList (i*2) B:=⟨_,rfl⟩
 have H:C.length=cap*2:=by rw[E,fZ _ _ _ (by omega)];exact s
 have p:∀v∈B,v.oneCell'=true:=λv hv=>mn (T.drop (i+1)) v (by rw[<-z];exact hv)
 have A:∀j v,B[j]?=some v->w.cell? ⟨g,(i+1)*2+j,none⟩=some v:=λj v V=>by
  have ad:j<B.length:=(KK.1 V).1;rw[cn w g _ _ _ _ hg];rw[z,<-oe,<-r,Gt,Hj,cg (by omega)] at V;simpa using V
 have S:∀l I m,(I=(i+1)*2\/T.length-(i+1)=0)->(Builtin.append_ #[56,56] l #[.slice (some ⟨g,0,none⟩) i cap,.slice (some ⟨g,I,none⟩) (T.length-(i+1)) m]).run prog w.drew=.ok (.slice (some ⟨g,0,none⟩) (T.length-1) cap) (w.drew.setRow g C.toArray):=λl I m ho=>by
  have h:=run_append_room (P:=prog) w.drew 56 l 194 i0 underlying56 ab g i cap b hg ⟨g,I,none⟩ (T.length-(i+1)) m B (by rw[R];exact t)
   (λj v V=>by
     rcases ho with rfl|h0
     .rw[Ax];exact A j v V
     .have ad:j<B.length:=(KK.1 V).1;omega) p (by omega) (by rw[R];omega)
  rw[h,R,E];have e:i+(T.length-(i+1))=T.length-1:=by omega
  rw[e]
  rfl
 have F:(w.drew.setRow g C.toArray).heap[g]?=some (.cells C.toArray 194 (0,0)):=sT w.drew g b _ _ _ hg;obtain⟨y,u⟩:∃y,y=w.drew.setRow g C.toArray:=⟨_,rfl⟩
 rw[<-u] at S F;obtain⟨D,G⟩:∃D,D=kr C ((T.length-1)*2) [.string ⟨#[]⟩,.pointer none]:=⟨_,rfl⟩
 have J:D.length=cap*2:=by rw[G,fZ _ _ _ (by simp;omega)];exact H
 have K:∀(W:TJ),W=y->∀l m,(Builtin.clear_ #[56] l #[.slice (some ⟨g,(T.length-1)*2,none⟩) 1 m]).run prog W=.ok (.tuple #[]) (y.setRow g D.toArray):=λW hW l m=>by
  subst hW;have h:=qE W g ((T.length-1)*2) m C.toArray l F (by simp;omega);rw[h,G]
 have L:D.take ((T.length-1)*2)=cQ (T.eraseIdx i):=by
  have e1:D.take ((T.length-1)*2)=C.take ((T.length-1)*2):=by
   rw[G];unfold kr;rw[mR,zs (by simp;omega),DB,Nat.min_self]
  rw[e1,uN,<-z,E];unfold kr;have e2:b.toList.take (i*2)=(cQ T).take (i*2):=by rw[<-r,DB,QD (by omega)]
  have e3:(T.length-1)*2=(b.toList.take (i*2)++B).length:=by simp;omega
  rw[e3,List.take_left,e2]
 have M:∀W,W=y.setRow g D.toArray->W.ownsRow 0 194 2 (.slice (some ⟨g,0,none⟩) (T.length-1) cap) (T.length-1) (cQ (T.eraseIdx i))/\w.grownBy W (some g):=λW hW=>by
  rw[hW];refine⟨⟨by rw[eH,List.length_eraseIdx,cg hi],.inr ⟨g,cap,D.toArray,rfl,cy _,sT y g _ _ _ _ F,by omega,X,by simpa using J,by simpa using L⟩⟩,?_⟩;refine⟨by rw[u];rfl,by rw[u];rfl,by rw[u];rfl,by rw[u];simp[World.setRow],λk hk ae=>?_⟩;have N:k≠g:=λe=>ae (by rw[e])
  rw[qk y g k _ N,u,qk w.drew g k _ N];rfl
 have O:=cP M;have o:=cP S;have Q:=cP K;unfold maxLen at X;have an:(i:Int)<(T.length:Int):=by omega
 clear M S K L A z t E G H J hg q r F u p s;by_cases af:i+1=cap
 .subst af;have q3:i+1<=T.length:=by omega
  have q4:(i:Int)+1<=(T.length:Int):=by omega
  have q5:((i:Int)+1).toNat=i+1:=by omega
  have q6:(0:Int)<=(i:Int)+1:=by omega
  have q7:(T.length:Int)<=((i+1:Nat):Int):=by omega
  have q8:¬(i+1=T.length-1):=by omega
  have q9:(i:Int)<=(i:Int)+1:=by omega
  have aa:∀l I m,(Builtin.append_ #[56,56] l #[.slice (some ⟨g,0,none⟩) i (i+1),.slice (some ⟨g,I,none⟩) 0 m]).run prog w.drew=.ok (.slice (some ⟨g,0,none⟩) (T.length-1) (i+1)) y:=λl I m=>by
   have h:=(cO o) l I m (Or.inr (by omega));rw[show T.length-(i+1)=0 by omega] at h;exact h
  have ag:=cP aa;clear aa;go_enter func147,ntmps147;go_wp2_with fail
  go_region_law (refine iV rfl (.tmp 22) (.tmp 25) 56 56 rfl _ _ (by first|rfl|(simp[Act.eval,Act.put];done)|(simp[Act.eval,Act.put];rfl)) (by first|rfl|(simp[Act.eval,Act.put];done)|(simp[Act.eval,Act.put];rfl)) ((cO ag) _ _ _) ?_)
  all_goals
   have U:∀l m,(Builtin.clear_ #[56] l #[.slice (some ⟨g,(T.length-1)*2,none⟩) (T.length-(T.length-1)) m]).run prog y=.ok (.tuple #[]) (y.setRow g D.toArray):=λl m=>by
    rw[show T.length-(T.length-1)=1 by omega];exact(cO Q) y rfl l m
   go_wp2;go_ret;exact⟨rfl,(cO O) _ rfl⟩
 .have ah:¬(cap=i+1):=by omega
  have q0:¬(cap=i):=by omega
  have q1:i<=cap:=by omega
  have q2:(i:Int)<=(cap:Int):=by omega
  have q3:i+1<=T.length:=by omega
  have q4:(i:Int)+1<=(T.length:Int):=by omega
  have q5:((i:Int)+1).toNat=i+1:=by omega
  have q6:(0:Int)<=(i:Int)+1:=by omega
  have q7:(T.length:Int)<=(cap:Int):=by omega
  have q8:¬(cap=T.length-1):=by omega
  go_enter func147,ntmps147;go_wp2_with fail
  go_region_law (refine iV rfl (.tmp 22) (.tmp 25) 56 56 rfl _ _ (by first|rfl|(simp[Act.eval,Act.put];done)|(simp[Act.eval,Act.put];rfl)) (by first|rfl|(simp[Act.eval,Act.put];done)|(simp[Act.eval,Act.put];rfl)) ((cO o) _ _ _ (Or.inl rfl)) ?_)
  all_goals
   have U:∀l m,(Builtin.clear_ #[56] l #[.slice (some ⟨g,(T.length-1)*2,none⟩) (T.length-(T.length-1)) m]).run prog y=.ok (.tuple #[]) (y.setRow g D.toArray):=λl m=>by
    rw[show T.length-(T.length-1)=1 by omega];exact(cO Q) y rfl l m
   go_wp2;go_ret;exact⟨rfl,(cO O) _ rfl⟩
end Dk
namespace Dk
open Go.RowKit
theorem kd(D o:Nat)(C:Array TK)(B:TypeId)(v:TK)(T:Sd.Tb)(y:TM)(w:TJ)(h:eV w D o C B v T)(L:v.ownBlock≠some D):TL prog 97 #[.pointer (some ⟨D,o,none⟩),.string y] w λe W=>e=.returned (.tuple #[])/\∃t,dK w W D o C B v t (Sd.gM T y):=by
 have M:o<C.size:=(cB.1 h.at_).1;cases hh:Sd.dw T y with
 |false =>
  have E:Sd.gM T y=T:=by unfold Sd.gM;rw[hh];rfl
  rw[E];have N:=cP hh;have b:=cP h;clear hh h E;go_enter func97,ntmps97;go_wp2_with fail;refine(fW D o C B v T y w (cO b)).mono ?_;rintro e W ⟨rfl,A⟩;rw[cO N];go_wp2;have m:=(cO b).below A;refine cw (cu rfl _ _ _) rfl ⟨rfl,v,?_,m.row,Kept.below A _,Or.inl rfl⟩;rw[m.blk];have:C.setIfInBounds o v=C:=by
   have s:=(cB.1 m.at_).2;rw[<-s];simp[Array.setIfInBounds,M]
  rw[this]
 |true =>
  obtain⟨O,_,_⟩:=Sd.gn h.mg hh;have E:Sd.gM T y=T.eraseIdx (Sd.dm T y):=by unfold Sd.gM;rw[hh];rfl
  rw[E];have N:=cP hh;have b:=cP h;have p:=h.len;clear hh h E;go_enter func97,ntmps97;go_wp2_with fail;refine(fW D o C B v T y w (cO b)).mono ?_;rintro e X ⟨rfl,A⟩;rw[cO N];have m:=(cO b).below A;have hc:=m.cell;rcases m.row.2 with ⟨_,h0⟩|⟨g,r,P,rfl,_,F,Q,R,G,I⟩
  .omega
  .have J:some D≠(Value.slice (some ⟨g,0,none⟩) T.length r).ownBlock:=λe=>L e.symm
   generalize q:Sd.dm T y=i at O ⊢;have z:=qh g r i P T X O Q R p F G I;have HB:=cP m.blk;have S:=cP A;have U:D<X.heap.size:=ps m.blk;have HI:=cP q;clear m F G I q A;go_wp2_with fail;refine z.mono ?_;rintro e K ⟨rfl,u,l⟩;have j:K.heap[D]?=some (.cells C B (0,0)):=(l.block D U (λe=>J e)).trans (cO HB);have aa:K.cell? ⟨D,o,none⟩=some (.slice (some ⟨g,0,none⟩) T.length r):=by rw[cn K D o _ _ _ j];exact(cO b).at_
   have ab:K.frozen? ⟨D,o,none⟩=false:=by simp[World.frozen?,j]
   have H:=cP (And.intro u (And.intro l j));clear u l j z hc;go_wp2;obtain⟨u,l,j⟩:=cO H;refine cw (cu rfl _ _ _) rfl ⟨rfl,.slice (some ⟨g,0,none⟩) (T.length-1) r,?_,?_,?_,Or.inl rfl⟩
   .rw[cA K D o _ _ _ j]
   .rw[cO HI,List.length_eraseIdx,cg O];exact v8 u (λe=>J e.symm) _
   .exact((Kept.below (cO S) _).trans (Kept.grown l (λk V=>V.2))).setCell (λV=>V.1 rfl) _
end Dk
end Go.Proofs.YtgkkdpegcieakaaGreatDoor
