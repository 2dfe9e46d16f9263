import Derived.Test.YtgkkdpegcieakaaGreatDoorCwL
import Derived.Test.YtgkkdpegcieakaaGreatDoorCwShelf
set_option linter.all false
set_option maxRecDepth 100000
set_option maxHeartbeats 16000000
namespace Go.Proofs.YtgkkdpegcieakaaGreatDoor
open Go.Proofs.Tryz
open Value renaming int→Z,slice→J,string→H,tuple→WX
open Ending renaming returned→WZ
open Option renaming none→U,some→S
open Bool renaming true→W8,false→W9
open Or renaming inl→Xa,inr→Xb
open List renaming length→Xg
open IntKind renaming i64→Y
open Go renaming World→WR,Value→WS,Calls→WT
open Go.RowKit
namespace Sp
open Go
def bt(s:WU)(i:Nat):Nat:=(s.get! i).toNat
theorem ju(s:WU)(i:Nat):bt s i<256:=(s.get! i).toNat_lt
theorem jQ(s:WU)(i:Nat)(h:i<s.size):(s[i]'h).toNat=bt s i:=by
 unfold bt;cases s with | mk d =>
 show _=(d[i]!).toNat
 rw[getElem!_pos d i h];rfl
def zL(s:WU)(i:Nat):Int × Int:=if Utf8.decode s i=(65533,1) then (0,0) else (((Utf8.decode s i).1:Int),((Utf8.decode s i).2:Int))
theorem dec(s:WU)(i:Nat):Utf8.decode s i=Lib.decodeN (s.size-i) (bt s i) (bt s (i+1)) (bt s (i+2)) (bt s (i+3)):=Lib.decode_at s i
end Sp
namespace Sp
open Go
theorem Gh(s:WU)(k:Nat)(h:k<s.size):s.data.toList.take (k+1)=s.data.toList.take k++[s[k]]:=by
 rw[Vf (by simpa using h)];rfl
theorem JR(s:WU)(k:Nat)(h:s.size<=k):s.data.toList.take k=s.data.toList:=Vc (by simpa using h)
def fE(o:Option Int)(c:UInt8):Option Int:=match o with
 |none=>U
 |some n=>if (c.toNat:Int)<48\/57<(c.toNat:Int)\/1000000000<10*n+((c.toNat:Int)-48) then U else S (10*n+((c.toNat:Int)-48))
def nB(l:List UInt8):Option Int:=l.foldl fE (S 0)
theorem xH(l:List UInt8)(c:UInt8):nB (l++[c])=fE (nB l) c:=by simp[nB,Wj]
theorem uL(l:List UInt8):l.foldl fE U=U:=by
 induction l with
 |nil=>rfl
 |cons c l b=>exact b
variable {l:List UInt8}
theorem wJ(r:List UInt8)(h:nB l=U): nB (l++r)=U:=by
 simp only[nB,Wj] at h ⊢;rw[h];exact uL r
variable {s:WU}
theorem jS{k:Nat}(h:nB (s.data.toList.take k)=U): nB s.data.toList=U:=by
 have:=wJ (s.data.toList.drop k) h;rwa [U7] at this
theorem yY{n:Int}(h:nB l=S n): 0<=n/\n<=1000000000:=by
 rcases Wk l with rfl|⟨r,c,rfl⟩
 .simp[nB] at h;omega
 .rw[Wl,xH] at h;have aux:∀o:Option Int,fE o c=S n->(∀m,o=S m->0<=m)->0<=n/\n<=1000000000:=by
   intro o e b;cases o with
   |none=>simp[fE] at e
   |some m =>
    have:=b m O;simp only[fE] at e;split at e
    .cases e
    .injection e with e;subst e;rename_i z;omega
  refine aux _ h ?_;intro m b;have j:∀(l:List UInt8) (a:Int),0<=a->∀m,l.foldl fE (S a)=S m->0<=m:=by
   intro l
   induction l with
   |nil=>intro a u m b;simp at b;omega
   |cons c l y =>
    intro a u m b;simp only[Wm,fE] at b;split at b
    .rw[uL] at b;cases b
    .exact y _ (by omega) m b
  exact j r 0 (by omega) m b
def digits(l:List UInt8):Option Int:=if l=[]\/l.head?=S 48 then U else nB l
def number(l:List UInt8):Option Int:=if l=[48] then S 0
 else if l.head?=S 45 then (digits l.tail).map (λn=>-n)
 else digits l
theorem xJ{n:Int}(h:number l=S n): -1000000000<=n/\n<=1000000000:=by
 have hd:∀(l:List UInt8) (m:Int),digits l=S m->0<=m/\m<=1000000000:=by
  intro l m b;unfold digits at b;split at b
  .cases b
  .exact yY b
 unfold number at h;split at h
 .injection h with h;omega
 .split at h
  .cases e:digits l.tail with
   |none=>rw[e] at h;cases h
   |some m=>rw[e] at h;simp at h;have:=hd _ _ e;omega
  .have:=hd _ _ h;omega
def gu(s:WU):Nat->Nat->Option Nat
 |0,_=>U
 |f+1,i=>if i<s.size then (if Utf8.decode s i=(65533,1) then S i else gu s f (i+(Utf8.decode s i).2)) else U
def bad(s:WU):Option Nat:=gu s s.size 0
theorem iL{i:Nat}(hi:i<s.size): 1<=(Utf8.decode s i).2/\(Utf8.decode s i).2<=4/\i+(Utf8.decode s i).2<=s.size:=by
 rw[dec];unfold Lib.decodeN
 repeat' split
 all_goals (simp only;omega)
theorem BJ{i:Nat}(h:¬Utf8.decode s i=(65533,1)): zL s i=(((Utf8.decode s i).1:Int),((Utf8.decode s i).2:Int)):=TZ h
end Sp
namespace Sp
open Go
def l9(s:WU)(c:Nat):Nat->Nat × List WU
 |0=>(0,[])
 |k+1=>if k=s.size\/bt s k=c then (k+1,(l9 s c k).2++[s.extract (l9 s c k).1 k]) else l9 s c k
def split(s:WU)(c:Nat):List WU:=(l9 s c (s.size+1)).2
theorem ni{s:WU}{c k:Nat}(h:k=s.size\/bt s k=c):l9 s c (k+1)=(k+1,(l9 s c k).2++[s.extract (l9 s c k).1 k]):=T0 h
theorem uw{s:WU}{c k:Nat}(h:¬(k=s.size\/bt s k=c)):l9 s c (k+1)=l9 s c k:=TZ h
theorem zo(s:WU)(c:Nat)(k:Nat):(l9 s c k).1<=k/\(l9 s c k).2.length<=k:=by
 induction k with
 |zero=>simp[l9]
 |succ k b =>
  by_cases h:k=s.size\/bt s k=c
  .rw[ni h];simp;omega
  .rw[uw h];omega
end Sp
namespace Sp
open Go
def nm(s:WU)(i:Nat):Option (Int × Nat):=if i<s.size/\bt s i≠32/\bt s i≠62 then S ((zL s i).1,i+(zL s i).2.toNat) else U
structure Ln where
 jz:Bool
 dj:Int
 cR:Int
 n:Int
def fin(s:WU)(e:Bool)(a b:Int)(j:Nat):Option Ln:=if j<s.size/\bt s j=32 then (number (s.extract (j+1) s.size).data.toList).map (λn=>⟨e,a,b,n⟩) else U
def oL(s:WU):Option Ln:=match nm s 0 with
 |none=>U
 |some (a,j) =>
  if j<s.size/\bt s j=62 then
   match nm s (j+1) with
   |none=>U
   |some (b,k)=>fin s W8 a b k
  else fin s W9 a 0 j
end Sp
namespace Sp
open Go
def ow:List WU->Nat->List Ln->List Nat->Except (Int × Int) (List Ln × List Nat)
 |[],_,L,A=>.ok (L,A)
 |x::r,k,L,A=>if x.size=0 then ow r (k+1) L A else
  match oL x with
  |none=>.error (3,(k:Int))
  |some l=>ow r (k+1) (L++[l]) (A++[k])
def oG(s:WU):Except (Int × Int) (List Ln × List Nat):=if 4000<s.size then .error (1,0) else
 match bad s with
 |some i=>.error (2,(i:Int))
 |none=>ow (split s 10) 0 [] []
theorem xU(s:WU)(c:Nat)(k:Nat):∀x∈(l9 s c k).2,x.size<=s.size:=by
 induction k with
 |zero=>intro x b;simp[l9] at b
 |succ k e =>
  by_cases h:k=s.size\/bt s k=c
  .rw[ni h];intro x b;rcases Uq.1 b with b|b
   .exact e x b
   .rw[Uz.1 b];simp;omega
  .rw[uw h];exact e
theorem D1(s:WU)(c:Nat):∀x∈split s c,x.size<=s.size:=xU s c _
theorem jq(s:WU)(c:Nat):0<(split s c).length/\(split s c).length<=s.size+1:=by
 unfold split;refine⟨?_,(zo s c _).2⟩;rw[ni (Xa O)];simp
end Sp
namespace Sp
open Go
def S1(a:Int)(l:Ln):Bool := !l.jz&&l.dj == a
def Bw(L:List Ln)(n:Nat)(a:Int):Bool:=(L.take n).any (S1 a)
def OV(a:Int)(l:Ln):Bool := !l.jz&&decide (l.dj<a)
def low(L:List Ln)(a:Int):Nat:=(L.filter (OV a)).length
end Sp
namespace Sp
open Go
def first(p:Nat->Bool)(n:Nat):Option Nat:=(List.range n).find? p
theorem nZ{p:Nat->Bool}{n k:Nat}(b:k<n)(h:∀j,j<k->p j=W9)(e:p k=W8):first p n=S k:=by
 unfold first
 rw[List.find?_range_eq_some];refine⟨e,VT.2 b,λj l=>?_⟩;simp[h j l]
theorem ja{p:Nat->Bool}{n:Nat}(h:∀j,j<n->p j=W9):first p n=U:=by
 unfold first
 rw[List.find?_eq_none];intro j b;simp[h j (VT.1 b)]
def kJ(L:List Ln)(i:Nat):Bool:=match L[i]? with
 |none=>W9
 |some l=>!l.jz&&Bw L i l.dj
def loose(L:List Ln)(i:Nat):Bool:=match L[i]? with
 |none=>W9
 |some l=>l.jz && !(Bw L (Xg L) l.dj&&Bw L (Xg L) l.cR)
def oM(L:List Ln):Nat:=(L.filter (λl=>l.jz)).length
def gV(L:List Ln)(A:List Nat):Int × Int:=match first (kJ L) (Xg L) with
 |some i=>(4,(A.getD i 0:Nat))
 |none=>match first (loose L) (Xg L) with
  |some i=>(5,(A.getD i 0:Nat))
  |none=>if 256<oM L\/64<Xg L-oM L then (6,0) else (0,0)
end Sp
namespace Sp
open Go
def SN(L:List Ln)(k:Nat)(l:Ln):Bool := !l.jz&&low L l.dj == k
def RL(L:List Ln)(k i:Nat):List Ln:=(L.take i).filter (SN L k)
def vs(L:List Ln):Nat->List Ln
 |0=>[]
 |k+1=>vs L k++RL L k (Xg L)
def Qm(L:List Ln)(a b:Nat)(l:Ln):Bool:=l.jz&&(low L l.dj == a&&low L l.cR == b)
structure Ed where
 dj:Nat
 cR:Nat
 n:Int
def RI(L:List Ln)(a b i:Nat):List Ed:=((L.take i).filter (Qm L a b)).map λl=>⟨a,b,l.n⟩
def G6(L:List Ln)(a:Nat):Nat->List Ed
 |0=>[]
 |b+1=>G6 L a b++RI L a b (Xg L)
def es(L:List Ln)(n:Nat):Nat->List Ed
 |0=>[]
 |a+1=>es L n a++G6 L a n
def nv(L:List Ln):Nat:=Xg L-oM L
def dI(s:WU):Except (Int × Int) (List Ln):=match oG s with
 |.error e=>.error e
 |.ok (L,A)=>if (gV L A).1=0 then .ok L else .error (gV L A)
end Sp
namespace Sp
open Go
theorem Pm(s:WU)(i:Nat):(Utf8.decode s i).1<=1114111:=by
 have b:=ju s i;have e:=ju s (i+1);have j:=ju s (i+2);rw[dec];unfold Lib.decodeN
 repeat' split
 all_goals (simp only;omega)
end Sp
namespace Sp
open Go
def nX(s:WU)(i n:Nat):List UInt8:=(s.data.toList.drop i).take n
theorem KA(s:WU)(i:Nat)(h:i<s.size):s.data.toList[i]'(by simpa using h)=UInt8.ofNat (bt s i):=by
 have:=jQ s i h;apply UInt8.toNat_inj.1;rw[show (s.data.toList[i]'(by simpa using h))=s[i]'h from rfl,this];have:=ju s i;simp;omega
theorem fi(s:WU)(i n:Nat)(h:i<s.size):nX s i (n+1)=UInt8.ofNat (bt s i)::nX s (i+1) n:=by
 unfold nX;rw[UJ (by simpa using h),VF,KA s i h]
theorem lL(s:WU)(i:Nat):nX s i 0=[]:=by simp[nX]
variable {i:Nat}{s:WU}
theorem Nt(hi:i<s.size)(j:¬Utf8.decode s i=(65533,1)): (Utf8.encode ((Utf8.decode s i).1:Int)).data.toList=nX s i (Utf8.decode s i).2:=by
 have B:=ju s i;have C:=ju s (i+1);have F:=ju s (i+2);have G:=ju s (i+3);rw[dec] at j ⊢;have l:i+1+1=i+2:=by omega
 have I:i+2+1=i+3:=by omega
 rcases Lib.decodeN_shape (s.size-i) (bt s i) (bt s (i+1)) (bt s (i+2)) (bt s (i+3)) with ⟨c,e⟩|⟨m,u,y,z,e⟩|⟨m,u,y,L,z,M,e⟩|⟨m,u,y,L,N,z,P,e⟩|e
 .rw[e,fi _ _ _ hi,lL];have b:Utf8.valid ((bt s i:Nat):Int)=W8:=by rw[validRune_eq];unfold validRune;exact UH (by omega)
  simp only[Utf8.encode,b,UL,Wa,c]
 .rw[e,fi _ _ _ hi,fi _ _ _ (by omega),lL];generalize A:bt s i%32*64+bt s (i+1)%64=r at *;have b:Utf8.valid ((r:Nat):Int)=W8:=by rw[validRune_eq];unfold validRune;exact UH (by omega)
  simp only[Utf8.encode,b,UL,Wa];rw[TZ (by omega),T0 (by omega)];simp only;rw[show (192+r/64)=bt s i from by omega,show (128+r%64)=bt s (i+1) from by omega]
 .rw[e,fi _ _ _ hi,fi _ _ _ (by omega),fi _ _ _ (by omega),lL,l];generalize A:bt s i%16*4096+bt s (i+1)%64*64+bt s (i+2)%64=r at *;have b:Utf8.valid ((r:Nat):Int)=W8:=by rw[validRune_eq];unfold validRune;exact UH (by omega)
  simp only[Utf8.encode,b,UL,Wa];rw[TZ (by omega),TZ (by omega),T0 (by omega)];simp only;rw[show (224+r/4096)=bt s i from by omega,show (128+r/64%64)=bt s (i+1) from by omega,show (128+r%64)=bt s (i+2) from by omega]
 .rw[e,fi _ _ _ hi,fi _ _ _ (by omega),fi _ _ _ (by omega),l,fi _ _ _ (by omega),lL,I];generalize A:bt s i%8*262144+bt s (i+1)%64*4096+bt s (i+2)%64*64+bt s (i+3)%64=r at *;have b:Utf8.valid ((r:Nat):Int)=W8:=by rw[validRune_eq];unfold validRune;exact UH (by omega)
  simp only[Utf8.encode,b,UL,Wa];rw[TZ (by omega),TZ (by omega),TZ (by omega)];simp only;rw[show (240+r/262144)=bt s i from by omega,show (128+r/4096%64)=bt s (i+1) from by omega,show (128+r/64%64)=bt s (i+2) from by omega,show (128+r%64)=bt s (i+3) from by omega]
 .exact absurd e j
def V(s:WU)(i:Nat):Prop := ∀f,gu s f i=U
theorem Lc(s:WU):∀(f g i:Nat),s.size-i<=f->gu s f i=U->gu s g i=U:=by
 intro f
 induction f with
 |zero =>
  intro g i b _;cases g with
  |zero=>rfl
  |succ g=>simp only[gu];rw[TZ (by omega)]
 |succ f e =>
  intro g i b h;cases g with
  |zero=>rfl
  |succ g =>
   simp only[gu] at h ⊢;by_cases hi:i<s.size
   .rw[T0 hi] at h ⊢;by_cases hd:Utf8.decode s i=(65533,1)
    .rw[T0 hd] at h;cases h
    .rw[TZ hd] at h ⊢;have:=iL hi;exact e g _ (by omega) h
   .rw[TZ hi]
theorem nu(h:bad s=U): V s 0:=λf=>Lc s s.size f 0 (by omega) h
theorem qe(h:V s i)(hi:i<s.size): ¬Utf8.decode s i=(65533,1)/\V s (i+(Utf8.decode s i).2):=by
 have b:=h 1;simp only[gu,T0 hi] at b;have hd:¬Utf8.decode s i=(65533,1):=λe=>by rw[T0 e] at b;cases b
 refine⟨hd,λf=>?_⟩;have j:=h (f+1);simp only[gu,T0 hi,TZ hd] at j;exact j
theorem OX(hi:s.size<=i): V s i:=λf=>by
 cases f with
 |zero=>rfl
 |succ f=>simp only[gu];rw[TZ (by omega)]
theorem BG{j:Nat}(hi:i<s.size)(C:i<j)(b:j<i+(Utf8.decode s i).2): 128<=bt s j/\bt s j<192:=by
 have y:=ju s (i+1);have z:=ju s (i+2);have A:=ju s (i+3);rw[dec] at b;rcases Lib.decodeN_shape (s.size-i) (bt s i) (bt s (i+1)) (bt s (i+2)) (bt s (i+3)) with ⟨c,e⟩|⟨l,m,r,u,e⟩|⟨l,m,r,B,u,F,e⟩|⟨l,m,r,B,G,u,I,e⟩|e
 .rw[e] at b;simp only at b;omega
 .rw[e] at b;simp only at b;obtain rfl:j=i+1:=by omega
  omega
 .rw[e] at b;simp only at b;obtain rfl|rfl:j=i+1\/j=i+2:=by omega
  .omega
  .omega
 .rw[e] at b;simp only at b;obtain rfl|rfl|rfl:j=i+1\/j=i+2\/j=i+3:=by omega
  .omega
  .omega
  .omega
 .rw[e] at b;simp only at b;omega
theorem Tc: ∀(n i j:Nat),j-i<=n->V s i->i<=j->j<s.size->bt s j<128->V s j:=by
 intro n
 induction n with
 |zero=>intro i j l h b _ _;obtain rfl:i=j:=(by omega);exact h
 |succ n m =>
  intro i j l h b r u;by_cases e:i=j
  .rw[<-e];exact h
  .have hi:i<s.size:=by omega
   obtain⟨_,y⟩:=qe h hi;have z:=iL hi;refine m _ j (by omega) y ?_ r u;apply WG;intro A;have:=BG hi (j:=j) (by omega) (by omega);omega
end Sp
namespace Sp
open Go
def rl(s:WU):Nat->Nat->List Int
 |0,_=>[]
 |f+1,i=>if i<s.size then ((Utf8.decode s i).1:Int)::rl s f (i+(Utf8.decode s i).2) else []
def rs(s:WU)(i:Nat):List Int:=rl s (s.size-i) i
theorem FU(s:WU):∀(f g i:Nat),s.size-i<=f->s.size-i<=g->rl s f i=rl s g i:=by
 intro f
 induction f with
 |zero =>
  intro g i b e;cases g with
  |zero=>rfl
  |succ g=>simp only[rl];rw[TZ (by omega)]
 |succ f j =>
  intro g i b e;by_cases hi:i<s.size
  .cases g with
   |zero=>omega
   |succ g =>
    have:=iL hi;simp only[rl,T0 hi];rw[j g _ (by omega) (by omega)]
  .cases g with
   |zero=>simp only[rl];rw[TZ hi]
   |succ g=>simp only[rl];rw[TZ hi,TZ hi]
variable {i:Nat}{s:WU}
theorem mq(h:s.size<=i): rs s i=[]:=by
 unfold rs;rw[show s.size-i=0 from by omega];rfl
theorem lP(h:i<s.size): rs s i=((Utf8.decode s i).1:Int)::rs s (i+(Utf8.decode s i).2):=by
 unfold rs;have:=iL h;rw[FU s (s.size-i) (s.size-i+1) i (by omega) (by omega)];simp only[rl,T0 h];rw[FU s _ (s.size-(i+(Utf8.decode s i).2)) _ (by omega) (by omega)]
theorem zX(s:WU):∀(f i:Nat) (acc:Array WS),Conv.runesFrom s f i acc=acc++((rl s f i).map (Z .i32)).toArray:=by
 intro f
 induction f with
 |zero=>intro i acc;simp[Conv.runesFrom,rl]
 |succ f b =>
  intro i acc;simp only[Conv.runesFrom,rl];by_cases h:i<s.size
  .rw[T0 h,T0 h,b];apply Array.ext';simp
  .rw[TZ h,TZ h];simp
theorem Lr(s:WU):Conv.runesFrom s s.size 0 #[]=((rs s 0).map (Z .i32)).toArray:=by
 rw[zX];simp[rs]
theorem LW(s:WU):∀(n i:Nat),s.size-i<=n->(rs s i).length<=s.size-i:=by
 intro n
 induction n with
 |zero=>intro i h;rw[mq (by omega)];simp
 |succ n b =>
  intro i h;by_cases hi:i<s.size
  .have:=iL hi;rw[lP hi];have:=b (i+(Utf8.decode s i).2) (by omega);simp only[Uf];omega
  .rw[mq (by omega)];simp
theorem SR(s:WU):∀(n i:Nat),s.size-i<=n->∀r∈rs s i,0<=r/\r<=1114111:=by
 intro n
 induction n with
 |zero=>intro i h r b;rw[mq (by omega)] at b;cases b
 |succ n e =>
  intro i h r b;by_cases hi:i<s.size
  .have:=iL hi;have j:=Pm s i;rw[lP hi] at b;rcases UC.1 b with rfl|b
   .omega
   .exact e _ (by omega) r b
  .rw[mq (by omega)] at b;cases b
theorem Gu(b:List Int):∀a:WU,(b.foldl (λr n=>r++Utf8.encode n) a).data.toList=a.data.toList++(b.foldl (λr n=>r++Utf8.encode n) ByteArray.empty).data.toList:=by
 induction b with
 |nil=>intro a;simp
 |cons n b e =>
  intro a;simp only[Wm];rw[e (a++Utf8.encode n),e (ByteArray.empty++Utf8.encode n)];simp[VN]
theorem vU(n:Int)(b:List Int):(runesBytes (n::b)).data.toList=(Utf8.encode n).data.toList++(runesBytes b).data.toList:=by
 unfold runesBytes;simp only[Wm];rw[Gu b (ByteArray.empty++Utf8.encode n)];simp[VN]
theorem Cy: ∀(n i:Nat),s.size-i<=n->V s i->(runesBytes (rs s i)).data.toList=s.data.toList.drop i:=by
 intro n
 induction n with
 |zero =>
  intro i h _;rw[mq (by omega),VA (by simp;have:s.data.size=s.size:=rfl;omega)];rfl
 |succ n e =>
  intro i h j;by_cases hi:i<s.size
  .obtain⟨hd,b⟩:=qe j hi;have l:=iL hi;rw[lP hi,vU,e _ (by omega) b,Nt hi hd];unfold nX;rw[<-List.drop_drop,U7]
  .rw[mq (by omega),VA (by simp;have:s.data.size=s.size:=rfl;omega)];rfl
theorem extract_drop(s:WU)(i:Nat):(s.extract i s.size).data.toList=s.data.toList.drop i:=by
 rw[ByteArray.data_extract,Array.toList_extract]
 show (s.data.toList.drop i).take (s.data.size-i)=_
 rw[Vc (by simp)]
theorem E8(c:Nat)(m:c<128)(hi:i<s.size): ((Utf8.decode s i).1:Int)=c↔bt s i=c:=by
 have b:=ju s i;have j:=ju s (i+1);rw[dec];rcases Lib.decodeN_shape (s.size-i) (bt s i) (bt s (i+1)) (bt s (i+2)) (bt s (i+3)) with ⟨_,e⟩|⟨_,_,_,_,e⟩|⟨_,_,_,_,_,_,e⟩|⟨_,_,_,_,_,_,_,e⟩|e
 .rw[e];simp only;omega
 .rw[e];simp only;omega
 .rw[e];simp only;omega
 .rw[e];simp only;omega
 .rw[e];simp only;constructor
  .intro h;omega
  .intro h;have l:bt s i<128:=by omega
   unfold Lib.decodeN at e;rw[T0 l] at e;have:=congrArg Prod.fst e;simp only at this;omega
theorem L3(hi:i<s.size): ((Utf8.decode s i).1:Int)=32↔bt s i=32:=by
 have:=E8 (s:=s) (i:=i) 32 (by omega) hi;omega
theorem On(hi:i<s.size): ((Utf8.decode s i).1:Int)=62↔bt s i=62:=by
 have:=E8 (s:=s) (i:=i) 62 (by omega) hi;omega
theorem Pb(m:V s i)(hi:i<s.size): nm s i=if ((Utf8.decode s i).1:Int)=32\/((Utf8.decode s i).1:Int)=62 then U else S (((Utf8.decode s i).1:Int),i+(Utf8.decode s i).2):=by
 have j:=L3 hi;have l:=On hi;have r:=BJ (qe m hi).1;unfold nm;by_cases h:((Utf8.decode s i).1:Int)=32\/((Utf8.decode s i).1:Int)=62
 .rw[T0 h,TZ];rintro⟨_,a,b⟩;rcases h with h|h
  .exact a (j.1 h)
  .exact b (l.1 h)
 .rw[TZ h,T0 ⟨hi,λe=>h (Xa (j.2 e)),λe=>h (Xb (l.2 e))⟩,r];simp
def numOf(t:List Int):Option Int:=number (runesBytes t).data.toList
def lE(r:List Int):Option Ln:=match r with
 |a::b::t =>
  if a=32\/a=62 then U
  else if b=32 then (numOf t).map λn=>⟨W9,a,0,n⟩
  else if b=62 then
   match t with
   |c::d::u=>if c=32\/c=62 then U else if d=32 then (numOf u).map λn=>⟨W8,a,c,n⟩ else U
   |_=>U
  else U
 |_=>U
theorem CQ{e:Bool}{a b:Int}{j:Nat}(y:V s j): fin s e a b j=match rs s j with
  |d::u=>if d=32 then (numOf u).map λn=>⟨e,a,b,n⟩ else U
  |[]=>U:=by
 unfold fin;by_cases l:j<s.size
 .rw[lP l];simp only;have m:=L3 l;by_cases h:bt s j=32
  .rw[T0 ⟨l,h⟩,T0 (m.2 h)];have z:(Utf8.decode s j).2=1:=by
    rw[dec];unfold Lib.decodeN;rw[T0 (by omega)]
   obtain⟨_,r⟩:=qe y l;rw[z] at r ⊢;unfold numOf;rw[Cy _ _ WN r,extract_drop]
  .rw[TZ (λx=>h x.2),TZ (λx=>h (m.1 x))]
 .rw[TZ (λx=>l x.1),mq (by omega)]
theorem MC(N:V s 0): oL s=lE (rs s 0):=by
 unfold oL;by_cases C:0<s.size
 .rw[Pb N C,lP C];obtain⟨_,m⟩:=qe N C;rw[UA] at m ⊢;generalize ((Utf8.decode s 0).1:Int)=a;generalize (Utf8.decode s 0).2=j at m;by_cases z:a=32\/a=62
  .rw[T0 z];cases R:rs s j with
   |nil=>rfl
   |cons b t=>simp only[lE,T0 z]
  .rw[TZ z];simp only;by_cases r:j<s.size
   .have P:=L3 r;have A:=On r;obtain⟨_,y⟩:=qe m r;by_cases F:bt s j=62
    .have Q:(Utf8.decode s j).2=1:=by rw[dec];unfold Lib.decodeN;rw[T0 (by omega)]
     rw[T0 ⟨r,F⟩,lP r];have e:=A.2 F;rw[Q] at y ⊢;generalize ((Utf8.decode s j).1:Int)=b at e;subst e;simp only[lE,TZ z];rw[TZ (by decide),T0 trivial];by_cases G:j+1<s.size
     .rw[Pb y G,lP G];obtain⟨_,B⟩:=qe y G;generalize ((Utf8.decode s (j+1)).1:Int)=c;generalize j+1+(Utf8.decode s (j+1)).2=k at B;by_cases I:c=32\/c=62
      .rw[T0 I];cases L:rs s k with
       |nil=>rfl
       |cons d u=>simp only[T0 I]
      .rw[TZ I];simp only;rw[CQ B];cases L:rs s k with
       |nil=>rfl
       |cons d u=>simp only[TZ I]
     .have M:nm s (j+1)=U:=by unfold nm;rw[TZ (λx=>G x.1)]
      rw[M,mq (by omega)]
    .rw[TZ (λx=>F x.2),CQ m];rw[lP r];have e:¬((Utf8.decode s j).1:Int)=62:=λx=>F (A.1 x)
     generalize ((Utf8.decode s j).1:Int)=b at e;simp only[lE,TZ z];by_cases l:b=32
     .rw[T0 l,T0 l]
     .rw[TZ l,TZ l,TZ e]
   .rw[TZ (λx=>r x.1),CQ m,mq (by omega)]
    rfl
 .have M:nm s 0=U:=by unfold nm;rw[TZ (λx=>C x.1)]
  rw[M,mq (by omega)]
  rfl
end Sp
namespace Sp
open Go
theorem rI(s:WU)(a b:Nat)(hb:b<=s.size):(s.extract a b).size=b-a:=by simp;omega
theorem AZ(s:WU)(a b p:Nat)(hb:b<=s.size)(j:a+p<b):bt (s.extract a b) p=bt s (a+p):=by
 have e:p<(s.extract a b).size:=by rw[rI s a b hb];omega
 rw[<-jQ _ _ e,<-jQ s (a+p) (by omega)]
 congr 1
 exact ByteArray.getElem_extract _
theorem Ik{n A l m u y c1 c2 c3 w r:Nat}(h:Lib.decodeN n l m u y=(r,w))(L:¬(r,w)=(65533,1))(P:w<=A)(z:1<w->c1=m)(B:2<w->c2=u)(M:3<w->c3=y):Lib.decodeN A l c1 c2 c3=(r,w):=by
 rcases Lib.decodeN_shape n l m u y with ⟨c,e⟩|⟨C,F,G,I,e⟩|⟨C,F,G,N,I,Q,e⟩|⟨C,F,G,N,R,I,T,e⟩|e
 .rw[e] at h;injection h with b j;subst b j;unfold Lib.decodeN;rw[T0 c]
 .rw[e] at h;injection h with b j;subst b j;rw[z (by omega)];unfold Lib.decodeN;rw[TZ (by omega),T0 (by omega),T0 (by omega)]
 .rw[e] at h;injection h with b j;subst b j;rw[z (by omega),B (by omega)];unfold Lib.decodeN;rw[TZ (by omega),TZ (by omega),T0 (by omega),T0 (by omega)]
 .rw[e] at h;injection h with b j;subst b j;rw[z (by omega),B (by omega),M (by omega)];unfold Lib.decodeN;rw[TZ (by omega),TZ (by omega),TZ (by omega),T0 (by omega),T0 (by omega)]
 .rw[e] at h;exact absurd h.symm L
variable {s:WU}
theorem Ra{a b p:Nat}(hb:b<=s.size)(j:a+p<b)(l:V s (a+p))(u:a+p+(Utf8.decode s (a+p)).2<=b): Utf8.decode (s.extract a b) p=Utf8.decode s (a+p):=by
 obtain⟨hd,_⟩:=qe l (by omega);have y:=iL (s:=s) (i:=a+p) (by omega);rw[dec (s.extract a b) p];have m:=AZ s a b p hb j;rw[m];have h:=dec s (a+p);refine(Ik (r:=(Utf8.decode s (a+p)).1) (w:=(Utf8.decode s (a+p)).2) h.symm hd ?_ ?_ ?_ ?_).trans O
 .rw[rI s a b hb];omega
 .intro e;exact AZ s a b (p+1) hb (by omega)
 .intro e;exact AZ s a b (p+2) hb (by omega)
 .intro e;exact AZ s a b (p+3) hb (by omega)
theorem Tp{a b:Nat}(hb:b<=s.size)(e:b=s.size\/bt s b<128): ∀(n p:Nat),b-(a+p)<=n->V s (a+p)->V (s.extract a b) p:=by
 intro n
 induction n with
 |zero=>intro p r _;exact OX (by rw[rI s a b hb];omega)
 |succ n u =>
  intro p r m f;by_cases y:a+p<b
  .obtain⟨hd,l⟩:=qe m (by omega);have B:=iL (s:=s) (i:=a+p) (by omega);have z:a+p+(Utf8.decode s (a+p)).2<=b:=by
    apply WG;intro A;rcases e with he|he
    .omega
    .have:=BG (s:=s) (i:=a+p) (j:=b) (by omega) (by omega) (by omega);omega
   cases f with
   |zero=>rfl
   |succ f =>
    simp only[gu];rw[T0 (by rw[rI s a b hb];omega),Ra hb y m z,TZ hd];refine u _ (by omega) ?_ f;rw[<-Nat.add_assoc];exact l
  .exact OX (by rw[rI s a b hb];omega) f
theorem Rf(l:V s 0): ∀k,k<=s.size+1->((l9 s 10 k).1<=s.size->V s (l9 s 10 k).1)/\(∀x∈(l9 s 10 k).2,V x 0):=by
 intro k
 induction k with
 |zero=>intro _;exact⟨λ_=>l,by simp[l9]⟩
 |succ k y =>
  intro C;obtain⟨m,r⟩:=y (by omega);have z:=zo s 10 k;by_cases h:k=s.size\/bt s k=10
  .rw[ni h];have A:V (s.extract (l9 s 10 k).1 k) 0:=by
    refine Tp (by omega) (by rcases h with h|h;exact Xa h;exact Xb (by omega)) _ 0 WN ?_;rw[U9];exact m (by omega)
   refine⟨λe=>?_,λx b=>?_⟩
   .simp only at e;have F:bt s k=10:=by rcases h with h|h;exact absurd h (by omega);exact h
    have j:=Tc k 0 k (by omega) l (by omega) (by omega) (by omega);obtain⟨_,u⟩:=qe j (by omega);have B:(Utf8.decode s k).2=1:=by rw[dec];unfold Lib.decodeN;rw[T0 (by omega)]
    rw[B] at u;exact u
   .rcases Uq.1 b with b|b
    .exact r x b
    .rw[Uz.1 b];exact A
  .rw[uw h];exact⟨m,r⟩
theorem Mr(b:V s 0): ∀x∈split s 10,V x 0:=(Rf b (s.size+1) WN).2
def um(c:UInt8):List UInt8->List (List UInt8)
 |[]=>[[]]
 |b::l=>if b=c then []::um c l else
  match um c l with
  |[]=>[[b]]
  |h::t=>(b::h)::t
theorem wO(c:UInt8)(l:List UInt8):Lib.index (c::l) [c]=0:=by
 simp[Lib.index,List.isPrefixOf]
theorem wS{b c:UInt8}(h:¬b=c)(l:List UInt8):Lib.index (b::l) [c]=if Lib.index l [c] == -1 then -1 else Lib.index l [c]+1:=by
 have j:([c]:List UInt8).isPrefixOf (b::l)=W9:=by simp[List.isPrefixOf];exact λe=>h e.symm
 rw[Lib.index,j];rfl
theorem vC(c:UInt8):∀l:List UInt8,Lib.splitK [c] 0 (Lib.count l [c]) l=um c l:=by
 intro l
 induction l with
 |nil=>rfl
 |cons b l e =>
  by_cases h:b=c
  .subst h;rw[Lib.count_cons_eq,Nat.add_comm 1];simp only[Lib.splitK,wO,um,UL];rw[TZ (by decide)];simpa using e
  .rw[Lib.count_cons_ne b c l h];simp only[um,TZ h];rw[<-e];cases y:Lib.count l [c] with
   |zero=>rfl
   |succ k =>
    simp only[Lib.splitK,wS h];have j:=Lib.index_ge l [c];by_cases hi:Lib.index l [c] = -1
    .rw[hi];rfl
    .have m:(Lib.index l [c] == -1)=W9:=Uh.2 hi;rw[m];simp only[Wn,Vg];have r:(Lib.index l [c]+1 == -1)=W9:=Uh.2 (by omega);rw[r];simp only[Wn,Vg];have u:(Lib.index l [c]+1).toNat=(Lib.index l [c]).toNat+1:=by omega
     rw[u];simp
theorem zY(c:UInt8)(l:List UInt8):∃h t,um c l=h::t:=by
 cases l with
 |nil=>exact⟨_,_,rfl⟩
 |cons b l =>
  simp only[um];split
  .exact⟨_,_,O⟩
  .split <;> exact⟨_,_,O⟩
theorem qS(s:WU)(a b:Nat):(s.extract a b).data.toList=(s.data.toList.drop a).take (b-a):=by
 rw[ByteArray.data_extract,Array.toList_extract]
def DI(c:UInt8)(p l:List UInt8):List (List UInt8):=match um c l with
 |[]=>[]
 |h::t=>(p++h)::t
theorem Jq(s:WU)(c:UInt8):∀k,k<=s.size->(l9 s c.toNat k).2.map (·.data.toList)++DI c (s.extract (l9 s c.toNat k).1 k).data.toList (s.data.toList.drop k)=um c s.data.toList:=by
 intro k
 induction k with
 |zero =>
  intro _;obtain⟨h,t,e⟩:=zY c s.data.toList;simp only[l9,DI,qS,List.map_nil,U2,List.drop_zero,Nat.sub_zero,List.take_zero,e]
 |succ k l =>
  intro A;have m:k<Xg s.data.toList:=by rw[Va];show k<s.size;omega
  have hi:=l (by omega);have r:=zo s c.toNat k;have j:s.data.toList[k]=UInt8.ofNat (bt s k):=KA s k (by omega);rw[UJ m] at hi;by_cases h:k=s.size\/bt s k=c.toNat
  .have b:bt s k=c.toNat:=by rcases h with h|h;exact absurd h (by omega);exact h
   have u:s.data.toList[k]=c:=by rw[j,b];simp
   rw[ni h];rw[u] at hi;obtain⟨y,t,e⟩:=zY c (s.data.toList.drop (k+1));simp only[DI,um,UL,Vr] at hi;simp only[DI,e,qS,Nat.sub_self,List.take_zero,U2,Vn,U4,List.map_nil,UO,UM];rw[e] at hi;simpa [qS] using hi
  .have b:¬s.data.toList[k]=c:=λe=>by
    rw[j] at e;have:=congrArg UInt8.toNat e;have z:=ju s k;simp at this;exact h (Xb (by omega))
   rw[uw h];obtain⟨y,t,e⟩:=zY c (s.data.toList.drop (k+1));simp only[DI,um,TZ b,e] at hi;simp only[DI,e];rw[<-hi]
   congr 2
   rw[qS,qS];have:k+1-(l9 s c.toNat k).1=(k-(l9 s c.toNat k).1)+1:=by omega
   rw[this,Vf (by rw[Vb];omega),UO]
   congr 1
   simp only[List.getElem_drop,UM,U2]
   congr 2
   omega
theorem pD(s:WU)(c:UInt8):(split s c.toNat).map (·.data.toList)=um c s.data.toList:=by
 have h:=Jq s c s.size WN;unfold split;rw[ni (Xa O)];rw[VA (by rw[Va];exact TY _)] at h;simp only[DI,um,Vr] at h;simp only[Vn,U4,List.map_nil];exact h
theorem vP:∀(a b:List WU),a.map (·.data.toList)=b.map (·.data.toList)->a=b:=by
 intro a
 induction a with
 |nil=>intro b h;cases b with
  |nil=>rfl
  |cons _ _=>simp at h
 |cons x a j =>
  intro b h;cases b with
  |nil=>simp at h
  |cons y b =>
   simp only[U4,Wb] at h;have e:x=y:=by apply Vh;apply Array.ext';exact h.1
   rw[e,j b h.2]
theorem sq(s:WU):Lib.splitB ⟨#[10]⟩ 0 (Lib.countB s ⟨#[10]⟩) s=split s 10:=by
 apply vP;rw[Lib.splitB_data];have:=pD s 10;rw[show (10:UInt8).toNat=10 from rfl] at this;rw[this];exact vC 10 s.data.toList
theorem tR(s:WU):Lib.countB s ⟨#[10]⟩+1=(split s 10).length:=by
 rw[<-sq,Lib.splitB_all ⟨#[10]⟩ (by decide) 0 _ s rfl]
end Sp
section
theorem cT{p:Prop}(h:p):Hid p:=h
theorem cS{p:Prop}(h:Hid p):p:=h
variable {v:WS}{n e B:Nat}{xs:List WS}{w:WR}
theorem dd{w':WR}{size:Nat}(h:w.ownsRow B e size v n xs)(hb:WQ w w'): w'.ownsRow B e size v n xs:=by
 obtain⟨u,b⟩:=h;refine⟨u,?_⟩;rcases b with b|⟨g,j,l,y,z,m,r⟩
 .exact .inl b
 .refine .inr ⟨g,j,l,y,z,?_,r⟩;rw[hb.block g (Ug.1 m).1,m]
theorem Qu{y m s z A:Nat}{v':WS}{j:List WS}(h:w.ownsRow B e s v n xs)(C:w.ownsRow y m z v' A j)(he:e≠m): v.ownBlock=U\/v.ownBlock≠v'.ownBlock:=by
 obtain⟨_,F⟩:=h;obtain⟨_,G⟩:=C;rcases F with ⟨rfl,_⟩|⟨g,I,L,rfl,Q,M,_⟩
 .exact .inl O
 .right;rcases G with ⟨rfl,_⟩|⟨N,r,u,rfl,P,b,_⟩
  .intro h;cases h
  .intro h;have l:g=N:=by simpa [Value.ownBlock] using h
   subst l;rw[M] at b;injection b with b;injection b with _ b;exact he b
theorem qM{size:Nat}{ys:List WS}{wr r:WR}{v':WS}(u:B<=wr.heap.size)(l:wr.ownsRow B e size v n xs)(m:Below B w wr)(b:wr.grownBy r v.ownBlock): Below B w r:=m.grown b u (λj y=>by have:=(l.lt j y).1;omega)
theorem jM{l j s m r:Nat}{ys:List WS}{wr y:WR}{u:WS}(z:wr.ownsRow B e s v n xs)(hu:wr.ownsRow l j m u r ys)(he:j≠e)(b:wr.grownBy y v.ownBlock): y.ownsRow l j m u r ys:=hu.kept b (Qu hu z he)
end
section
variable {s:WU}
theorem pt{l:List UInt8}(h:¬s.data.toList=l): (s.toList == l)=W9:=by
 rw[Uh,Vt];exact h
theorem pq{l:List UInt8}(h:s.data.toList=l): (s.toList == l)=W8:=by
 rw[Vi,Vt];exact h
theorem Ez(h:0<s.size): s.data.toList.head?=S s[0]:=by
 cases s with | mk d=>cases d with | mk l =>
 cases l with
 |nil=>exact absurd h (Nat.lt_irrefl 0)
 |cons a l=>rfl
def m8(o:Option Int):WS := WX #[Z Y (o.getD 0),.bool o.isSome]
theorem head_ne(c:UInt8)(h:0<s.size)(hd:((s[0].toNat:Nat):Int)≠(c.toNat:Int)): s.data.toList.head?≠S c:=by
 rw[Ez h];intro e;injection e with e;apply hd;rw[e]
theorem Nu(c:UInt8)(h:0<s.size)(hd:((s[0].toNat:Nat):Int)=(c.toNat:Int)): s.data.toList.head?=S c:=by
 rw[Ez h];congr 1;apply UInt8.toNat_inj.1;omega
theorem ne_nil(h:0<s.size): s.data.toList≠[]:=by
 intro e;have b:Xg s.data.toList=0:=by rw[e];rfl
 rw[Va] at b;have j:s.data.size=s.size:=rfl;omega
theorem J4(h:¬0<s.size): s.data.toList=[]:=by
 apply Wo;rw[Va];have b:s.data.size=s.size:=rfl;omega
end
section
theorem jw:m8 U=WX #[Z Y 0,.bool W9]:=rfl
theorem ji(v:Int):m8 (S v)=WX #[Z Y v,.bool W8]:=rfl
end
section
theorem tJ(d:WU)(w:WR)(r:d.size<=4000)(h:d.size=0\/∃j:0<d.size,((d[0].toNat:Nat):Int)=48):WT prog 218 #[H d] w λe l=>e=WZ (m8 U)/\l=w:=by
 rcases h with h|⟨j,h⟩
 .have b:d.toList.isEmpty=W8:=by rw[Vt,J4 (by omega)];rfl
  go_enter func218,ntmps218;go_wp2;go_ret2;exact⟨O,O⟩
 .have b:d.toList.isEmpty=W9:=by
   rw[Vt];cases m:d.data.toList with
   |nil=>exact absurd m (ne_nil j)
   |cons _ _=>rfl
  have u:(((d[0].toNat:Nat):Int) == 48)=W8:=Vi.2 h;clear h;go_enter func218,ntmps218;go_wp2;go_ret2;exact⟨O,O⟩
theorem wN(d:WU)(w:WR)(T:d.size<=4000)(hd:0<d.size)(z:((d[0].toNat:Nat):Int)≠48):WT prog 218 #[H d] w λe I=>e=WZ (m8 (Sp.nB d.data.toList))/\WQ w I:=by
 have L:d.toList.isEmpty=W9:=by
  rw[Vt];cases M:d.data.toList with
  |nil=>exact absurd M (ne_nil hd)
  |cons _ _=>rfl
 have F:(((d[0].toNat:Nat):Int) == 48)=W9:=Uh.2 z;go_enter func218,ntmps218;go_wp2_with fail
 go_loopw [4] (λn wr=>∃(k:Nat) (v:Int),k<=d.size/\n=Z Y v/\Hid (Sp.nB (d.data.toList.take k)=S v)/\wr=w.iter d k) (λ_ wr=>d.size-wr.iterPos w.heap.size)
 case atStart=>exact⟨0,0,Ud _,rfl,rfl,rfl⟩
 case round =>
  obtain⟨k,v,V,rfl,A,rfl⟩:=hrel;have W:=Sp.yY A.out;have j:∀p,WQ w (w.iter d p):=λp=>WO.alloc WN _
  by_cases l:k<d.size
  .have u:Hid (Sp.nB (d.data.toList.take (k+1))=Sp.fE (S v) d[k]):=by
    show _=_;rw[Sp.Gh d k l,Sp.xH,A.out]
   by_cases N:(d[k].toNat)<128
   .have r:=λy=>run_next_ascii (P:=prog) w d k y l N
    by_cases Q:((d[k].toNat:Nat):Int)<48
    .have m:Hid (Sp.nB d.data.toList=U):=Sp.jS (k:=k+1) (by rw[u.out];exact T0 (Xa Q));go_wp2;go_ret2;exact⟨by rw[m.out];rfl,j _⟩
    by_cases R:57<((d[k].toNat:Nat):Int)
    .have m:Hid (Sp.nB d.data.toList=U):=Sp.jS (k:=k+1) (by rw[u.out];exact T0 (Xb (Xa R)));go_wp2;go_ret2;exact⟨by rw[m.out];rfl,j _⟩
    by_cases X:1000000000<v*10+(((d[k].toNat:Nat):Int)-48)
    .have m:Hid (Sp.nB d.data.toList=U):=Sp.jS (k:=k+1) (by rw[u.out];exact T0 (Xb (Xb (by omega))));go_wp2;go_ret2;exact⟨by rw[m.out];rfl,j _⟩
    .go_wp2;go_roundw
     case rel=>exact⟨k+1,_,by omega,rfl,by show _=_;rw[u.out];rw[show v*10=10*v from by omega];exact TZ (by omega),O⟩
     case measure=>simp;omega
   .have r:=λy=>run_next_any (P:=prog) w d k y l
    have B:=(decode_high d k l (by omega)).1;have C:=decode_le d k;have m:Hid (Sp.nB d.data.toList=U):=Sp.jS (k:=k+1) (by rw[u.out];exact T0 (Xb (Xa (by omega))));generalize Utf8.decode d k=b at r B C;have G:128<=((b.1:Nat):Int):=by omega
    go_wp2;go_ret2;exact⟨by rw[m.out];rfl,j _⟩
  .have m:Hid (Sp.nB d.data.toList=S v):=by
    show _=_;rw[<-Sp.JR d k (by omega)];exact A.out
   have r:=λy=>run_next_end (P:=prog) w d k y l
   go_wp2;go_ret2;exact⟨by rw[m.out];rfl,j _⟩
theorem lX(d:WU)(w:WR)(j:d.size<=4000):WT prog 218 #[H d] w λe l=>e=WZ (m8 (Sp.digits d.data.toList))/\WQ w l:=by
 by_cases hd:0<d.size
 .by_cases b:((d[0].toNat:Nat):Int)=48
  .rw[show Sp.digits d.data.toList=U from T0 (Xb (Nu 48 hd b))];exact(tJ d w j (Xb ⟨hd,b⟩)).mono λe l h=>⟨h.1,by rw[h.2];exact T4 _ _⟩
  .have m:=ne_nil hd;rw[show Sp.digits d.data.toList=Sp.nB d.data.toList from TZ (by rintro(e|e);exact m e;exact head_ne 48 hd b e)];exact wN d w j hd b
 .rw[show Sp.digits d.data.toList=U from T0 (Xa (J4 hd))];exact(tJ d w j (Xa (by omega))).mono λe l h=>⟨h.1,by rw[h.2];exact T4 _ _⟩
theorem MR{l:List UInt8}(h:l.head?=S 45):Lib.hasPrefix l [45]=W8/\Lib.trimPrefix l [45]=l.tail:=by
 cases l with
 |nil=>cases h
 |cons a l =>
  injection h with h;subst h;exact⟨O,O⟩
theorem Pp{l:List UInt8}(h:¬l.head?=S 45):Lib.hasPrefix l [45]=W9/\Lib.trimPrefix l [45]=l:=by
 cases l with
 |nil=>exact⟨rfl,rfl⟩
 |cons a l =>
  have j:¬a=45:=λe=>h (by rw[e];rfl)
  have b:Lib.hasPrefix (a::l) [45]=W9:=by
   simp[Lib.hasPrefix,List.isPrefixOf];exact λe=>j e.symm
  exact⟨b,by unfold Lib.trimPrefix;rw[b];rfl⟩
theorem mT(s:WU)(w:WR)(N:s.size<=4000):WT prog 152 #[H s] w λe Q=>e=WZ (m8 (Sp.number s.data.toList))/\WQ w Q:=by
 have hcut:=Tryz.strings_CutPrefix s ⟨#[45]⟩ w;by_cases m:s.data.toList.head?=S 45
 .obtain⟨B,C⟩:=MR m;have P:¬s.data.toList=[48]:=λe=>by rw[e] at m;cases m
  have F:Sp.number s.data.toList=(Sp.digits s.data.toList.tail).map (λn=>-n):=by unfold Sp.number;rw[TZ P,T0 m]
  rw[F];obtain⟨d,hd⟩:∃d:WU,d=⟨s.data.toList.tail.toArray⟩:=⟨_,rfl⟩
  have r:d.data.toList=s.data.toList.tail:=by rw[hd]
  have G:d.size<=4000:=by
   have:Xg d.data.toList<=Xg s.data.toList:=by rw[r,List.length_tail];omega
   rw[Va,Va] at this;have V:d.data.size=d.size:=rfl;have W:s.data.size=s.size:=rfl;omega
  rw[show ((⟨#[45]⟩:WU).data.toList)=[45] from rfl,B,C,<-hd] at hcut;rw[<-r];clear hd B C m P F r;have u:=cT hcut;clear hcut;by_cases j:d.data.toList=[48]
  .have y:=pq j;have R:Hid (Sp.digits d.data.toList=U):=by show _=_;unfold Sp.digits;rw[j];simp
   go_enter func152,ntmps152;go_wp2_with fail;refine(cS u).mono ?_;rintro e I ⟨rfl,l⟩;obtain rfl:=l.symm;go_wp2;go_ret2;exact⟨by rw[cS R];rfl,T4 _ _⟩
  .have y:=pt j;cases b:Sp.digits d.data.toList with
   |none =>
    have z:=cT b;clear b j;go_enter func152,ntmps152;go_wp2_with fail;refine(cS u).mono ?_;rintro e I ⟨rfl,l⟩;obtain rfl:=l.symm;go_wp2_with fail;refine(lX d _ G).mono ?_;rintro e M ⟨rfl,A⟩;rw[cS z,jw];go_wp2;go_ret2;exact⟨O,A⟩
   |some v =>
    have z:=cT b;have T:0<=v/\v<=1000000000:=by
     unfold Sp.digits at b;split at b
     .cases b
     .exact Sp.yY b
    clear b j;go_enter func152,ntmps152;go_wp2_with fail;refine(cS u).mono ?_;rintro e I ⟨rfl,l⟩;obtain rfl:=l.symm;go_wp2_with fail;refine(lX d _ G).mono ?_;rintro e M ⟨rfl,A⟩;rw[cS z,ji];go_wp2;go_ret2;exact⟨O,A⟩
 .obtain⟨B,C⟩:=Pp m;have L:(⟨s.data.toList.toArray⟩:WU)=s:=rfl;rw[show ((⟨#[45]⟩:WU).data.toList)=[45] from rfl,B,C,L] at hcut;have u:=cT hcut;clear hcut B C L;by_cases j:s.data.toList=[48]
  .have y:=pq j;rw[show Sp.number s.data.toList=S 0 from T0 j];go_enter func152,ntmps152;go_wp2_with fail;refine(cS u).mono ?_;rintro e I ⟨rfl,l⟩;obtain rfl:=l.symm;go_wp2;go_ret2;exact⟨O,T4 _ _⟩
  .have y:=pt j;have F:Sp.number s.data.toList=Sp.digits s.data.toList:=by unfold Sp.number;rw[TZ j,TZ m]
   rw[F];clear F m;cases b:Sp.digits s.data.toList with
   |none =>
    have z:=cT b;clear b j;go_enter func152,ntmps152;go_wp2_with fail;refine(cS u).mono ?_;rintro e I ⟨rfl,l⟩;obtain rfl:=l.symm;go_wp2_with fail;refine(lX s _ N).mono ?_;rintro e M ⟨rfl,A⟩;rw[cS z,jw];go_wp2;go_ret2;exact⟨O,A⟩
   |some v =>
    have z:=cT b;clear b j;go_enter func152,ntmps152;go_wp2_with fail;refine(cS u).mono ?_;rintro e I ⟨rfl,l⟩;obtain rfl:=l.symm;go_wp2_with fail;refine(lX s _ N).mono ?_;rintro e M ⟨rfl,A⟩;rw[cS z,ji];go_wp2;go_ret2;exact⟨O,A⟩
end
section
theorem info_string:(prog.info? 9).map (λi=>(i.zero,i.size,i.bytes))=S (S (H ByteArray.empty),1,16):=by kernel_rfl
end
section
theorem info_int:(prog.info? 3).map (λi=>(i.zero,i.size,i.bytes))=S (S (Z Y 0),1,8):=by kernel_rfl
end
section
theorem below_drewN(w:WR)(n:Nat):WQ w (w.drewN n):=by
 induction n with
 |zero=>exact T4 _ _
 |succ n b=>exact b.drew
end
section
theorem dm{w:WR}{B e size n:Nat}{v:WS}{l:List WS}(h:w.ownsRow B e size v n l):∃p b,v=J p n b/\∀j,j<n*size->∃g,p=S ⟨g,0,U⟩/\B<=g/\g<w.heap.size/\w.cell? ⟨g,j,U⟩=l[j]?:=by
 have u:=h;obtain⟨F,y⟩:=h;rcases y with ⟨rfl,rfl⟩|⟨g,b,z,rfl,A,C,r⟩
 .exact⟨U,0,O,λj m=>by omega⟩
 .exact⟨S ⟨g,0,U⟩,b,O,λj m=>⟨g,O,A,(Ug.1 C).1,u.cellAt j m⟩⟩
def dp(E:List Sp.Ed):List WS:=E.flatMap λe=>[Z Y (e.dj:Int),Z Y (e.cR:Int),Z Y e.n]
theorem o9{b w l:WR}{G e size n:Nat}{v:WS}{m:List WS}(hb:Below G b w)(A:G<w.heap.size)(r:w.ownsRow (G+1) e size v n m)(y:w.grownBy l v.ownBlock)(j:Nat)(u:WS):Below G b (l.setCell ⟨G,j,U⟩ u):=(hb.grown y (by omega) (λk z=>by have:=(r.lt k z).1;omega)).setCell WN _
end
section
attribute [local go_sem ↓] Go.wp_at_zero Go.wp_at_succ
def dK(v u x:WS):WS := .agg #[v,u,x]
def ph(s:WU)(w:WR)(e:Ending)(w':WR):Prop:=WQ w w'/\
 match Sp.dI s with
 |.error (a,b)=>e=WZ (WX #[dK (J U 0 0) (J U 0 0) (J U 0 0),Z Y a,Z Y b])
 |.ok L=>∃v u x,e=WZ (WX #[dK v u x,Z Y 0,Z Y 0])/\
   w'.ownsRow w.heap.size 21 1 v (Sp.vs L (Sp.nv L)).length (((Sp.vs L (Sp.nv L)).map (·.dj)).map (Z .i32))/\
   w'.ownsRow w.heap.size 2 1 u (Sp.vs L (Sp.nv L)).length (((Sp.vs L (Sp.nv L)).map (·.n)).map (Z Y))/\
   w'.ownsRow w.heap.size 162 3 x (Sp.es L (Sp.nv L) (Sp.nv L)).length (dp (Sp.es L (Sp.nv L) (Sp.nv L)))
theorem info_i32:(prog.info? 21).map (λi=>(i.zero,i.size,i.bytes))=S (S (Z .i32 0),1,4):=by kernel_rfl
theorem info_i64:(prog.info? 2).map (λi=>(i.zero,i.size,i.bytes))=S (S (Z Y 0),1,8):=by kernel_rfl
theorem info_edge:(prog.info? 162).map (λi=>(i.zero,i.size,i.bytes))=S (S (.agg #[Z Y 0,Z Y 0,Z Y 0]),3,24):=by kernel_rfl
variable {w:WR}
theorem nz{o:Obj}{g j:Nat}{x:WS}(b:g<w.heap.size)(h:w.cell? ⟨g,j,U⟩=S x): (w.alloc o).cell? ⟨g,j,U⟩=S x:=by
 rw[World.cell?_alloc_past _ _ _ (by simpa using b)];exact h
theorem jo{s:WU}{w':WR}{a b:Int}(h:Sp.dI s=.error (a,b))(hb:WQ w w'):ph s w (WZ (WX #[dK (J U 0 0) (J U 0 0) (J U 0 0),Z Y a,Z Y b])) w':=by
 refine⟨hb,?_⟩;rw[h]
theorem GC{s:WU}{w':WR}{L:List Sp.Ln}{k:Nat}{N V:List Int}{v u x:WS}(h:Sp.dI s=.ok L)(b:k=Sp.nv L)(hb:WQ w w')(e:(Sp.vs L k).map (·.dj)=N)(j:(Sp.vs L k).map (·.n)=V)(l:w'.ownsRow w.heap.size 21 1 v (Xg N) (N.map (Z .i32)))(m:w'.ownsRow w.heap.size 2 1 u (Xg V) (V.map (Z Y)))(r:w'.ownsRow w.heap.size 162 3 x (Sp.es L k k).length (dp (Sp.es L k k))):ph s w (WZ (WX #[dK v u x,Z Y 0,Z Y 0])) w':=by
 subst b e j;refine⟨hb,?_⟩;rw[h];exact⟨v,u,x,O,by simpa using l,by simpa using m,r⟩
end
section
def fF(w:WR)(k:IntKind)(p:Option Addr)(V:List Int):Prop := ∀j (h:j<Xg V),∃g,p=S ⟨g,0,U⟩/\g<w.heap.size/\w.cell? ⟨g,j,U⟩=S (Z k V[j])
variable {w:WR}
theorem fF.below{w':WR}{k:IntKind}{p:Option Addr}{V:List Int}(h:fF w k p V)(hb:WQ w w'): fF w' k p V:=λj e=>by
 obtain⟨g,a,b,c⟩:=h j e;have:=hb.size;exact⟨g,a,by omega,(hb.cell (p:=⟨g,j,U⟩) b).trans c⟩
theorem mS{B e:Nat}{k:IntKind}{v:WS}{V:List Int}(h:w.ownsRow B e 1 v (Xg V) (V.map (Z k))): ∃p b,v=J p (Xg V) b/\fF w k p V:=by
 obtain⟨p,b,l,m⟩:=dm h;refine⟨p,b,l,λj r=>?_⟩;obtain⟨g,u,_,y,z⟩:=m j (by omega);exact⟨g,u,y,by rw[z];simp[r]⟩
def gh(w:WR)(p:Option Addr)(E:List Sp.Ed):Prop := ∀j (h:j<Xg E),∃g,p=S ⟨g,0,U⟩/\g<w.heap.size/\w.cell? ⟨g,j*3,U⟩=S (Z Y (E[j].dj:Int))/\w.cell? ⟨g,j*3+1,U⟩=S (Z Y (E[j].cR:Int))/\w.cell? ⟨g,j*3+2,U⟩=S (Z Y E[j].n)
theorem gh.below{w':WR}{p:Option Addr}{E:List Sp.Ed}(h:gh w p E)(hb:WQ w w'): gh w' p E:=λj e=>by
 obtain⟨g,a,b,l,m,r⟩:=h j e;have:=hb.size;exact⟨g,a,by omega,(hb.cell (p:=⟨g,_,U⟩) b).trans l,(hb.cell (p:=⟨g,_,U⟩) b).trans m,(hb.cell (p:=⟨g,_,U⟩) b).trans r⟩
theorem I2(E:List Sp.Ed):∀(k:Nat) (h:k<Xg E),(dp E)[k*3]?=S (Z Y (E[k].dj:Int))/\(dp E)[k*3+1]?=S (Z Y (E[k].cR:Int))/\(dp E)[k*3+2]?=S (Z Y E[k].n):=by
 induction E with
 |nil=>intro k h;simp at h
 |cons l E b =>
  intro k h;cases k with
  |zero=>exact⟨rfl,rfl,rfl⟩
  |succ k =>
   have:=b k (by simpa using h);have e:dp (l::E)=[Z Y (l.dj:Int),Z Y (l.cR:Int),Z Y l.n]++dp E:=rfl;have j:(k+1)*3=k*3+3:=by omega
   rw[e,j];simp only[UM,U2,List.getElem_cons_succ];exact this
theorem l7{B e:Nat}{v:WS}{E:List Sp.Ed}(h:w.ownsRow B e 3 v (Xg E) (dp E)): ∃p b,v=J p (Xg E) b/\gh w p E:=by
 obtain⟨p,b,u,m⟩:=dm h;refine⟨p,b,u,λk y=>?_⟩;obtain⟨z,A,C⟩:=I2 E k y;obtain⟨g,r,_,F,G⟩:=m (k*3) (by omega);obtain⟨I,j,_,_,L⟩:=m (k*3+1) (by omega);obtain⟨M,l,_,_,N⟩:=m (k*3+2) (by omega);have P:I=g:=by rw[r] at j;injection j with q;injection q with q;exact q.symm
 have Q:M=g:=by rw[r] at l;injection l with q;injection q with q;exact q.symm
 subst P Q;exact⟨_,r,F,G.trans z,L.trans A,N.trans C⟩
end
namespace Sp
open Go
def r4(x:WU):Option (Option Ln):=if x.size=0 then S U else (oL x).map S
def eg:List WU->Nat->List (Option Ln)->Except Nat (List (Option Ln))
 |[],_,P=>.ok P
 |x::r,k,P=>match r4 x with
  |none=>.error k
  |some p=>eg r (k+1) (P++[p])
variable {k:Nat}{ls:List WU}
theorem QJ(h:Xg ls<=k)(P:List (Option Ln)): eg (ls.drop k) k P=.ok P:=by
 rw[VA h];rfl
theorem Oc(h:k<Xg ls)(P:List (Option Ln))(he:r4 ls[k]=U): eg (ls.drop k) k P=.error k:=by
 rw[UJ h];simp only[eg,he]
theorem MV(h:k<Xg ls)(P:List (Option Ln)){p:Option Ln}(he:r4 ls[k]=S p): eg (ls.drop k) k P=eg (ls.drop (k+1)) (k+1) (P++[p]):=by
 rw[UJ h];simp only[eg,he]
def dH(P:List (Option Ln)):List Ln:=P.filterMap id
def dT:List (Option Ln)->Nat->List Nat
 |[],_=>[]
 |none::r,k=>dT r (k+1)
 |some _::r,k=>k::dT r (k+1)
theorem oS(P Q:List (Option Ln)):∀k,dT (P++Q) k=dT P k++dT Q (k+Xg P):=by
 induction P with
 |nil=>intro k;simp[dT]
 |cons p t b =>
  intro k;cases p with
  |none=>simp[dT,b,Nat.add_comm,Nat.add_left_comm]
  |some l=>simp[dT,b,Nat.add_comm,Nat.add_left_comm]
theorem Su:∀(ls:List WU) (P:List (Option Ln)),ow ls (Xg P) (dH P) (dT P 0)=match eg ls (Xg P) P with
  |.error k=>.error (3,(k:Int))
  |.ok Q=>.ok (dH Q,dT Q 0):=by
 intro ls
 induction ls with
 |nil=>intro P;rfl
 |cons x r j =>
  intro P;by_cases b:x.size=0
  .have e:r4 x=S U:=T0 b;simp only[ow,eg,e,b,UL];have:=j (P++[U]);simpa [dH,oS,dT] using this
  .cases hl:oL x with
   |none =>
    have e:r4 x=U:=by unfold r4;rw[TZ b,hl];rfl
    simp only[ow,eg,e,b,Vg,hl]
   |some l =>
    have e:r4 x=S (S l):=by unfold r4;rw[TZ b,hl];rfl
    simp only[ow,eg,e,b,Vg,hl];have:=j (P++[S l]);simpa [dH,oS,dT] using this
theorem BD(ls:List WU):ow ls 0 [] []=match eg ls 0 [] with
  |.error k=>.error (3,(k:Int))
  |.ok Q=>.ok (dH Q,dT Q 0):=Su ls []
theorem PZ:∀(ls:List WU) (k:Nat) (P Q:List (Option Ln)),eg ls k P=.ok Q->Xg Q=Xg P+Xg ls:=by
 intro ls
 induction ls with
 |nil=>intro k P Q h;simp[eg] at h;subst h;simp
 |cons x r b =>
  intro k P Q h;simp only[eg] at h;split at h
  .cases h
  .have:=b _ _ _ h;simp at this ⊢;omega
theorem B2{x:WU}:rs x 0=[]↔x.size=0:=by
 constructor
 .intro h;apply WG;intro b;rw[lP (by omega)] at h;cases h
 .intro h;exact mq (by omega)
def pk(p:Option Ln):Int:=match p with | none=>0 | some l=>if l.jz=W8 then 2 else 1
def pa(p:Option Ln):Int:=match p with | none=>0 | some l=>l.dj
def pb(p:Option Ln):Int:=match p with | none=>0 | some l=>if l.jz=W8 then l.cR else 0
def pn(p:Option Ln):Int:=match p with | none=>0 | some l=>l.n
end Sp
namespace Sp
open Go
abbrev Tb:=List (Int × Int)
def dw(T:Tb)(a:Int):Nat:=(T.filter λp=>decide (p.1<a)).length
def dF(T:Tb)(a:Int):Bool:=T.any λp=>p.1 == a
def di(T:Tb):Prop:=T.Pairwise λp q=>p.1<q.1
def gJ(T:Tb)(a v:Int):Tb:=T.take (dw T a)++(a,v)::T.drop (dw T a)
theorem lT(T:Tb)(a:Int):dw T a<=Xg T:=WH _ _
theorem iw(A B:Tb)(a:Int)(e:∀p∈A,p.1<a)(j:∀p∈B,a<=p.1):dw (A++B) a=Xg A:=by
 unfold dw;rw[VB,Wv.2 (λp b=>UH (e p b)),Ww.2 (λp b=>by simp;exact j p b)];simp
variable {T:Tb}{i:Nat}
theorem jO{a:Int}(hi:i<=Xg T)(h1:∀j (h:j<Xg T),j<i->(T[j]).1<a)(h2:∀j (h:j<Xg T),i<=j->a<=(T[j]).1): dw T a=i:=by
 have e:=U7 i T;rw[<-e,iw]
 .simp;omega
 .intro p b;obtain⟨j,l,rfl⟩:=UP.1 b;simp at l ⊢;exact h1 j (by omega) (by omega)
 .intro p b;obtain⟨j,l,rfl⟩:=UP.1 b;simp at l ⊢;exact h2 (i+j) (by omega) (by omega)
theorem eu(h:di T){j:Nat}(b:i<j)(e:j<Xg T): (T[i]'(by omega)).1<(T[j]).1:=WK.1 h i j (by omega) e b
theorem fe(h:di T){j:Nat}(b:i<=j)(e:j<Xg T): (T[i]'(by omega)).1<=(T[j]).1:=by
 rcases Wp b with l|rfl
 .exact Int.le_of_lt (eu h l e)
 .exact Int.le_refl _
theorem lq(h:di T)(a:Int): (∀j (l:j<Xg T),j<dw T a↔(T[j]).1<a):=by
 induction T with
 |nil=>intro j l;simp at l
 |cons p t y =>
  have z:di t:=(U6.1 h).2;have u:=(U6.1 h).1;intro j l;by_cases b:p.1<a
  .have e:dw (p::t) a=dw t a+1:=by unfold dw;rw[VO,T0 (UH b)];rfl
   rw[e];cases j with
   |zero=>simp[b]
   |succ j=>simpa using y z j (by simpa using l)
  .have e:dw (p::t) a=0:=by
    have:=iw [] (p::t) a (by simp) (by
     intro q m;rcases UC.1 m with rfl|m
     .omega
     .have:=u q m;omega)
    simpa using this
   rw[e];constructor
   .intro r;omega
   .intro r;exfalso;cases j with
    |zero=>exact b r
    |succ j=>have:=u (t[j]'(by simpa using l)) (UU _);simp at r;omega
theorem iR(h:di T)(a:Int): dF T a=W8↔∃l:dw T a<Xg T,(T[dw T a]).1=a:=by
 constructor
 .intro r;obtain⟨p,u,e⟩:=Vu.1 r;obtain⟨j,l,rfl⟩:=UP.1 u;have e:(T[j]).1=a:=by simpa using e
  have m:dw T a=j:=jO (by omega) (λi hi b=>by have:=eu h b l;omega) (λi hi b=>by have:=fe h b hi;omega);rw[m];exact⟨l,e⟩
 .rintro⟨l,e⟩;exact Vu.2 ⟨T[dw T a],UU _,by simpa using e⟩
theorem iq(h:di T){a v:Int}(u:dF T a=W9): di (gJ T a v):=by
 have y:=lq h a;unfold gJ di;rw[Wc];refine⟨h.sublist (List.take_sublist _ _),U6.2 ⟨?_,h.sublist (List.drop_sublist _ _)⟩,?_⟩
 .intro q b;obtain⟨j,m,rfl⟩:=UP.1 b;simp at m ⊢;have r:=not_congr (y (dw T a+j) (by omega));have A:¬(T[dw T a+j]).1=a:=by
   intro e;have:dF T a=W8:=Vu.2 ⟨T[dw T a+j],UU _,by simpa using e⟩;rw[this] at u;cases u
  have B:=r.1 (by omega);omega
 .intro p z q b;obtain⟨i,hi,rfl⟩:=UP.1 z;have l:i<dw T a/\i<Xg T:=by rw[Vj] at hi;omega
  have r:=(y i l.2).1 l.1;rcases UC.1 b with rfl|b
  .simpa using r
  .obtain⟨j,m,rfl⟩:=UP.1 b;simp at m ⊢;exact eu h (by omega) (by omega)
theorem iP(T:Tb)(a v:Int):(gJ T a v).length=Xg T+1:=by
 have:=lT T a;simp[gJ];omega
end Sp
section
theorem ez{P:Program}(w:WR)(C G I elem:TypeId)(z g o e m:Nat)(a:Addr)(l r:Nat)(b:Array WS)(t:TypeId)(cs:List WS)(hu:P.underlying C=S (.slice elem))(F:(P.info? elem).map (·.size)=S z)(L:w.heap[g]?=S (.cells b t (0,0)))(k:Nat)(M:Nat.min l e=k)(N:Xg cs=k*z)(u:∀j v,cs[j]?=S v->w.cell? (a.add j)=S v)(y:o+Xg cs<=b.size)(h1:∀v∈cs,v.oneCell'=W8):(Builtin.copy_ #[C,G] I #[J (S ⟨g,o,U⟩) e m,J (S a) l r]).run P w =
   .ok (goInt k) (w.setRow g (b.toList.take o++cs++b.toList.drop (o+Xg cs)).toArray):=by
 have Q:=run_loadCells_list (P:=P) w a cs u;have A:=run_storeCells_at P g o t cs 0 b w L (by simpa using y) h1;cases B:P.info? elem with
 |none=>simp[B] at F
 |some i =>
  have hi:i.size=z:=by simpa [B] using F
  simp[Builtin.copy_,run_underlying hu,Builtin.lenOf,Builtin.firstCells,sizeOf,typeInfo,B,hi,M,<-N,Q,A]
end
namespace Sp
open Go
def gv:List (Option Ln)->Nat->Tb->Except Nat Tb
 |[],_,T=>.ok T
 |none::r,k,T=>gv r (k+1) T
 |some l::r,k,T=>if l.jz=W8 then gv r (k+1) T else if dF T l.dj=W8 then .error k else gv r (k+1) (gJ T l.dj l.n)
variable {k:Nat}{P:List (Option Ln)}
theorem Qw(h:Xg P<=k)(T:Tb): gv (P.drop k) k T=.ok T:=by
 rw[VA h];rfl
theorem Nf(h:k<Xg P)(T:Tb)(he:¬pk P[k]=1): gv (P.drop k) k T=gv (P.drop (k+1)) (k+1) T:=by
 rw[UJ h];cases b:P[k] with
 |none=>rfl
 |some l =>
  rw[b] at he;have:l.jz=W8:=by
   cases e:l.jz with
   |true=>rfl
   |false=>exact absurd (by simp[pk,e]) he
  simp only[gv,this,UL]
theorem KP{p:Option Ln}(h:pk p=1):∃l,p=S l/\l.jz=W9/\pa p=l.dj/\pn p=l.n:=by
 cases p with
 |none=>simp[pk] at h
 |some l =>
  cases b:l.jz with
  |true=>simp[pk,b] at h
  |false=>exact⟨l,rfl,b,rfl,rfl⟩
theorem I3{p:Option Ln}(h:pk p=2):∃l,p=S l/\l.jz=W8/\pa p=l.dj/\pb p=l.cR/\pn p=l.n:=by
 cases p with
 |none=>simp[pk] at h
 |some l =>
  cases b:l.jz with
  |false=>simp[pk,b] at h
  |true=>exact⟨l,rfl,b,rfl,by simp[pb,b],rfl⟩
theorem IQ(h:k<Xg P)(T:Tb)(he:pk P[k]=1)(ht:dF T (pa P[k])=W8): gv (P.drop k) k T=.error k:=by
 rw[UJ h];obtain⟨l,b,e,j,m⟩:=KP he;rw[j] at ht;rw[b];simp only[gv,e,ht];rfl
theorem Pl(h:k<Xg P)(T:Tb)(he:pk P[k]=1)(ht:dF T (pa P[k])=W9): gv (P.drop k) k T=gv (P.drop (k+1)) (k+1) (gJ T (pa P[k]) (pn P[k])):=by
 rw[UJ h];obtain⟨l,e,j,b,m⟩:=KP he;rw[b,m];rw[b] at ht;rw[e];simp only[gv,j,ht];rfl
def ge(T:Tb):List (Option Ln)->Nat->List Ed->Except Nat (List Ed)
 |[],_,b=>.ok b
 |none::r,k,b=>ge T r (k+1) b
 |some l::r,k,b=>if l.jz=W8 then (if dF T l.dj=W8/\dF T l.cR=W8 then ge T r (k+1) (b++[⟨dw T l.dj,dw T l.cR,l.n⟩]) else .error k) else ge T r (k+1) b
variable {T:Tb}
theorem Qe(h:Xg P<=k)(E:List Ed): ge T (P.drop k) k E=.ok E:=by
 rw[VA h];rfl
theorem N5(h:k<Xg P)(E:List Ed)(he:¬pk P[k]=2): ge T (P.drop k) k E=ge T (P.drop (k+1)) (k+1) E:=by
 rw[UJ h];cases b:P[k] with
 |none=>rfl
 |some l =>
  rw[b] at he;have:l.jz=W9:=by
   cases e:l.jz with
   |false=>rfl
   |true=>exact absurd (by simp[pk,e]) he
  simp only[ge,this];rfl
theorem JZ(h:k<Xg P)(E:List Ed)(he:pk P[k]=2)(ht:¬(dF T (pa P[k])=W8/\dF T (pb P[k])=W8)): ge T (P.drop k) k E=.error k:=by
 rw[UJ h];obtain⟨l,b,e,j,m,r⟩:=I3 he;rw[j,m] at ht;rw[b];simp only[ge,e,ht,UL,Vg]
theorem Rb(h:k<Xg P)(E:List Ed)(he:pk P[k]=2)(ha:dF T (pa P[k])=W8)(hb:dF T (pb P[k])=W8): ge T (P.drop k) k E=ge T (P.drop (k+1)) (k+1) (E++[⟨dw T (pa P[k]),dw T (pb P[k]),pn P[k]⟩]):=by
 rw[UJ h];obtain⟨l,j,m,b,e,r⟩:=I3 he;rw[b] at ha;rw[e] at hb;rw[b,e,r,j];simp only[ge,m,ha,hb,and_self,UL]
end Sp
end Go.Proofs.YtgkkdpegcieakaaGreatDoor
