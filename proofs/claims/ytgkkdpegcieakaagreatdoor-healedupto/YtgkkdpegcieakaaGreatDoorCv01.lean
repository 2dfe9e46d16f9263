import Derived.Test.YtgkkdpegcieakaaGreatDoorCvL
import Derived.Test.YtgkkdpegcieakaaGreatDoorCvShelf
set_option linter.all false
set_option maxRecDepth 100000
set_option maxHeartbeats 0
namespace Go.Proofs.YtgkkdpegcieakaaGreatDoor
open Go.Proofs.Tryz
open Value renaming int→Z,slice→J,string→H,tuple→Wb
open Ending renaming returned→Wd
open Option renaming none→U,some→S
open Bool renaming true→We,false→Wg
open Or renaming inl→Wh,inr→Wi
open List renaming length→Wn
open IntKind renaming i64→Y
open Go renaming World→V5,Value→V6,Calls→V7
open Go.RowKit
namespace Sp
open Go
def bt(s:V8)(i:Nat):Nat:=(s.get! i).toNat
theorem jm(s:V8)(i:Nat):bt s i<256:=(s.get! i).toNat_lt
theorem jW(s:V8)(i:Nat)(h:i<s.size):(s[i]'h).toNat=bt s i:=by
 unfold bt;cases s with | mk d =>
 show _=(d[i]!).toNat
 rw[getElem!_pos d i h];rfl
def zw(s:V8)(i:Nat):Int × Int:=if Utf8.decode s i=(65533,1) then (0,0) else (((Utf8.decode s i).1:Int),((Utf8.decode s i).2:Int))
theorem dec(s:V8)(i:Nat):Utf8.decode s i=Lib.decodeN (s.size-i) (bt s i) (bt s (i+1)) (bt s (i+2)) (bt s (i+3)):=Lib.decode_at s i
end Sp
namespace Sp
open Go
theorem Gm(s:V8)(k:Nat)(h:k<s.size):s.data.toList.take (k+1)=s.data.toList.take k++[s[k]]:=by
 rw[Uw (by simpa using h)];rfl
theorem JJ(s:V8)(k:Nat)(h:s.size<=k):s.data.toList.take k=s.data.toList:=Ur (by simpa using h)
def fH(o:Option Int)(c:UInt8):Option Int:=match o with
 |none=>U
 |some n=>if (c.toNat:Int)<48\/57<(c.toNat:Int)\/1000000000<10*n+((c.toNat:Int)-48) then U else S (10*n+((c.toNat:Int)-48))
def nu(l:List UInt8):Option Int:=l.foldl fH (S 0)
theorem xY(l:List UInt8)(c:UInt8):nu (l++[c])=fH (nu l) c:=by simp[nu,VA]
theorem uJ(l:List UInt8):l.foldl fH U=U:=by
 induction l with
 |nil=>rfl
 |cons c l b=>exact b
variable {l:List UInt8}
theorem xd(r:List UInt8)(h:nu l=U): nu (l++r)=U:=by
 simp only[nu,VA] at h ⊢;rw[h];exact uJ r
variable {s:V8}
theorem jT{k:Nat}(h:nu (s.data.toList.take k)=U): nu s.data.toList=U:=by
 have:=xd (s.data.toList.drop k) h;rwa [Un] at this
theorem zJ{n:Int}(h:nu l=S n): 0<=n/\n<=1000000000:=by
 rcases VB l with rfl|⟨r,c,rfl⟩
 .simp[nu] at h;omega
 .rw[VC,xY] at h;have aux:∀o:Option Int,fH o c=S n->(∀m,o=S m->0<=m)->0<=n/\n<=1000000000:=by
   intro o e b;cases o with
   |none=>simp[fH] at e
   |some m =>
    have:=b m O;simp only[fH] at e;split at e
    .cases e
    .injection e with e;subst e;rename_i z;omega
  refine aux _ h ?_;intro m b;have j:∀(l:List UInt8) (a:Int),0<=a->∀m,l.foldl fH (S a)=S m->0<=m:=by
   intro l
   induction l with
   |nil=>intro a u m b;simp at b;omega
   |cons c l y =>
    intro a u m b;simp only[VD,fH] at b;split at b
    .rw[uJ] at b;cases b
    .exact y _ (by omega) m b
  exact j r 0 (by omega) m b
def digits(l:List UInt8):Option Int:=if l=[]\/l.head?=S 48 then U else nu l
def number(l:List UInt8):Option Int:=if l=[48] then S 0
 else if l.head?=S 45 then (digits l.tail).map (λn=>-n)
 else digits l
theorem xL{n:Int}(h:number l=S n): -1000000000<=n/\n<=1000000000:=by
 have hd:∀(l:List UInt8) (m:Int),digits l=S m->0<=m/\m<=1000000000:=by
  intro l m b;unfold digits at b;split at b
  .cases b
  .exact zJ b
 unfold number at h;split at h
 .injection h with h;omega
 .split at h
  .cases e:digits l.tail with
   |none=>rw[e] at h;cases h
   |some m=>rw[e] at h;simp at h;have:=hd _ _ e;omega
  .have:=hd _ _ h;omega
def gq(s:V8):Nat->Nat->Option Nat
 |0,_=>U
 |f+1,i=>if i<s.size then (if Utf8.decode s i=(65533,1) then S i else gq s f (i+(Utf8.decode s i).2)) else U
def bad(s:V8):Option Nat:=gq s s.size 0
theorem iQ{i:Nat}(hi:i<s.size): 1<=(Utf8.decode s i).2/\(Utf8.decode s i).2<=4/\i+(Utf8.decode s i).2<=s.size:=by
 rw[dec];unfold Lib.decodeN
 repeat' split
 all_goals (simp only;omega)
theorem Bg{i:Nat}(h:¬Utf8.decode s i=(65533,1)): zw s i=(((Utf8.decode s i).1:Int),((Utf8.decode s i).2:Int)):=Tf h
end Sp
namespace Sp
open Go
def lY(s:V8)(c:Nat):Nat->Nat × List V8
 |0=>(0,[])
 |k+1=>if k=s.size\/bt s k=c then (k+1,(lY s c k).2++[s.extract (lY s c k).1 k]) else lY s c k
def split(s:V8)(c:Nat):List V8:=(lY s c (s.size+1)).2
theorem nz{s:V8}{c k:Nat}(h:k=s.size\/bt s k=c):lY s c (k+1)=(k+1,(lY s c k).2++[s.extract (lY s c k).1 k]):=Tg h
theorem uA{s:V8}{c k:Nat}(h:¬(k=s.size\/bt s k=c)):lY s c (k+1)=lY s c k:=Tf h
theorem yp(s:V8)(c:Nat)(k:Nat):(lY s c k).1<=k/\(lY s c k).2.length<=k:=by
 induction k with
 |zero=>simp[lY]
 |succ k b =>
  by_cases h:k=s.size\/bt s k=c
  .rw[nz h];simp;omega
  .rw[uA h];omega
end Sp
namespace Sp
open Go
def nm(s:V8)(i:Nat):Option (Int × Nat):=if i<s.size/\bt s i≠32/\bt s i≠62 then S ((zw s i).1,i+(zw s i).2.toNat) else U
structure Ln where
 jz:Bool
 dp:Int
 cS:Int
 n:Int
def fin(s:V8)(e:Bool)(a b:Int)(j:Nat):Option Ln:=if j<s.size/\bt s j=32 then (number (s.extract (j+1) s.size).data.toList).map (λn=>⟨e,a,b,n⟩) else U
def oT(s:V8):Option Ln:=match nm s 0 with
 |none=>U
 |some (a,j) =>
  if j<s.size/\bt s j=62 then
   match nm s (j+1) with
   |none=>U
   |some (b,k)=>fin s We a b k
  else fin s Wg a 0 j
end Sp
namespace Sp
open Go
def oM:List V8->Nat->List Ln->List Nat->Except (Int × Int) (List Ln × List Nat)
 |[],_,L,A=>.ok (L,A)
 |x::r,k,L,A=>if x.size=0 then oM r (k+1) L A else
  match oT x with
  |none=>.error (3,(k:Int))
  |some l=>oM r (k+1) (L++[l]) (A++[k])
def oJ(s:V8):Except (Int × Int) (List Ln × List Nat):=if 4000<s.size then .error (1,0) else
 match bad s with
 |some i=>.error (2,(i:Int))
 |none=>oM (split s 10) 0 [] []
theorem yn(s:V8)(c:Nat)(k:Nat):∀x∈(lY s c k).2,x.size<=s.size:=by
 induction k with
 |zero=>intro x b;simp[lY] at b
 |succ k e =>
  by_cases h:k=s.size\/bt s k=c
  .rw[nz h];intro x b;rcases TB.1 b with b|b
   .exact e x b
   .rw[TL.1 b];simp;omega
  .rw[uA h];exact e
theorem Dg(s:V8)(c:Nat):∀x∈split s c,x.size<=s.size:=yn s c _
theorem jo(s:V8)(c:Nat):0<(split s c).length/\(split s c).length<=s.size+1:=by
 unfold split;refine⟨?_,(yp s c _).2⟩;rw[nz (Wh O)];simp
end Sp
namespace Sp
open Go
def Sf(a:Int)(l:Ln):Bool := !l.jz&&l.dp == a
def Ax(L:List Ln)(n:Nat)(a:Int):Bool:=(L.take n).any (Sf a)
def NQ(a:Int)(l:Ln):Bool := !l.jz&&decide (l.dp<a)
def low(L:List Ln)(a:Int):Nat:=(L.filter (NQ a)).length
end Sp
namespace Sp
open Go
def first(p:Nat->Bool)(n:Nat):Option Nat:=(List.range n).find? p
theorem nM{p:Nat->Bool}{n k:Nat}(b:k<n)(h:∀j,j<k->p j=Wg)(e:p k=We):first p n=S k:=by
 unfold first
 rw[List.find?_range_eq_some];refine⟨e,Va.2 b,λj l=>?_⟩;simp[h j l]
theorem iY{p:Nat->Bool}{n:Nat}(h:∀j,j<n->p j=Wg):first p n=U:=by
 unfold first
 rw[List.find?_eq_none];intro j b;simp[h j (Va.1 b)]
def kM(L:List Ln)(i:Nat):Bool:=match L[i]? with
 |none=>Wg
 |some l=>!l.jz&&Ax L i l.dp
def loose(L:List Ln)(i:Nat):Bool:=match L[i]? with
 |none=>Wg
 |some l=>l.jz && !(Ax L (Wn L) l.dp&&Ax L (Wn L) l.cS)
def o6(L:List Ln):Nat:=(L.filter (λl=>l.jz)).length
def gS(L:List Ln)(A:List Nat):Int × Int:=match first (kM L) (Wn L) with
 |some i=>(4,(A.getD i 0:Nat))
 |none=>match first (loose L) (Wn L) with
  |some i=>(5,(A.getD i 0:Nat))
  |none=>if 256<o6 L\/64<Wn L-o6 L then (6,0) else (0,0)
end Sp
namespace Sp
open Go
def QX(L:List Ln)(k:Nat)(l:Ln):Bool := !l.jz&&low L l.dp == k
def QB(L:List Ln)(k i:Nat):List Ln:=(L.take i).filter (QX L k)
def vs(L:List Ln):Nat->List Ln
 |0=>[]
 |k+1=>vs L k++QB L k (Wn L)
def OP(L:List Ln)(a b:Nat)(l:Ln):Bool:=l.jz&&(low L l.dp == a&&low L l.cS == b)
structure Ed where
 dp:Nat
 cS:Nat
 n:Int
def QH(L:List Ln)(a b i:Nat):List Ed:=((L.take i).filter (OP L a b)).map λl=>⟨a,b,l.n⟩
def Gt(L:List Ln)(a:Nat):Nat->List Ed
 |0=>[]
 |b+1=>Gt L a b++QH L a b (Wn L)
def es(L:List Ln)(n:Nat):Nat->List Ed
 |0=>[]
 |a+1=>es L n a++Gt L a n
def nv(L:List Ln):Nat:=Wn L-o6 L
def dI(s:V8):Except (Int × Int) (List Ln):=match oJ s with
 |.error e=>.error e
 |.ok (L,A)=>if (gS L A).1=0 then .ok L else .error (gS L A)
end Sp
namespace Sp
open Go
theorem Pv(s:V8)(i:Nat):(Utf8.decode s i).1<=1114111:=by
 have b:=jm s i;have e:=jm s (i+1);have j:=jm s (i+2);rw[dec];unfold Lib.decodeN
 repeat' split
 all_goals (simp only;omega)
end Sp
namespace Sp
open Go
def nW(s:V8)(i n:Nat):List UInt8:=(s.data.toList.drop i).take n
theorem Jt(s:V8)(i:Nat)(h:i<s.size):s.data.toList[i]'(by simpa using h)=UInt8.ofNat (bt s i):=by
 have:=jW s i h;apply UInt8.toNat_inj.1;rw[show (s.data.toList[i]'(by simpa using h))=s[i]'h from rfl,this];have:=jm s i;simp;omega
theorem fj(s:V8)(i n:Nat)(h:i<s.size):nW s i (n+1)=UInt8.ofNat (bt s i)::nW s (i+1) n:=by
 unfold nW;rw[TW (by simpa using h),UW,Jt s i h]
theorem l8(s:V8)(i:Nat):nW s i 0=[]:=by simp[nW]
variable {s:V8}{i:Nat}
theorem M8(hi:i<s.size)(j:¬Utf8.decode s i=(65533,1)): (Utf8.encode ((Utf8.decode s i).1:Int)).data.toList=nW s i (Utf8.decode s i).2:=by
 have B:=jm s i;have C:=jm s (i+1);have F:=jm s (i+2);have G:=jm s (i+3);rw[dec] at j ⊢;have l:i+1+1=i+2:=by omega
 have I:i+2+1=i+3:=by omega
 rcases Lib.decodeN_shape (s.size-i) (bt s i) (bt s (i+1)) (bt s (i+2)) (bt s (i+3)) with ⟨c,e⟩|⟨m,u,y,z,e⟩|⟨m,u,y,K,z,L,e⟩|⟨m,u,y,K,M,z,P,e⟩|e
 .rw[e,fj _ _ _ hi,l8];have b:Utf8.valid ((bt s i:Nat):Int)=We:=by rw[validRune_eq];unfold validRune;exact TU (by omega)
  simp only[Utf8.encode,b,TY,Vr,c]
 .rw[e,fj _ _ _ hi,fj _ _ _ (by omega),l8];generalize A:bt s i%32*64+bt s (i+1)%64=r at *;have b:Utf8.valid ((r:Nat):Int)=We:=by rw[validRune_eq];unfold validRune;exact TU (by omega)
  simp only[Utf8.encode,b,TY,Vr];rw[Tf (by omega),Tg (by omega)];simp only;rw[show (192+r/64)=bt s i from by omega,show (128+r%64)=bt s (i+1) from by omega]
 .rw[e,fj _ _ _ hi,fj _ _ _ (by omega),fj _ _ _ (by omega),l8,l];generalize A:bt s i%16*4096+bt s (i+1)%64*64+bt s (i+2)%64=r at *;have b:Utf8.valid ((r:Nat):Int)=We:=by rw[validRune_eq];unfold validRune;exact TU (by omega)
  simp only[Utf8.encode,b,TY,Vr];rw[Tf (by omega),Tf (by omega),Tg (by omega)];simp only;rw[show (224+r/4096)=bt s i from by omega,show (128+r/64%64)=bt s (i+1) from by omega,show (128+r%64)=bt s (i+2) from by omega]
 .rw[e,fj _ _ _ hi,fj _ _ _ (by omega),fj _ _ _ (by omega),l,fj _ _ _ (by omega),l8,I];generalize A:bt s i%8*262144+bt s (i+1)%64*4096+bt s (i+2)%64*64+bt s (i+3)%64=r at *;have b:Utf8.valid ((r:Nat):Int)=We:=by rw[validRune_eq];unfold validRune;exact TU (by omega)
  simp only[Utf8.encode,b,TY,Vr];rw[Tf (by omega),Tf (by omega),Tf (by omega)];simp only;rw[show (240+r/262144)=bt s i from by omega,show (128+r/4096%64)=bt s (i+1) from by omega,show (128+r/64%64)=bt s (i+2) from by omega,show (128+r%64)=bt s (i+3) from by omega]
 .exact absurd e j
def V(s:V8)(i:Nat):Prop := ∀f,gq s f i=U
theorem Hz(s:V8):∀(f g i:Nat),s.size-i<=f->gq s f i=U->gq s g i=U:=by
 intro f
 induction f with
 |zero =>
  intro g i b _;cases g with
  |zero=>rfl
  |succ g=>simp only[gq];rw[Tf (by omega)]
 |succ f e =>
  intro g i b h;cases g with
  |zero=>rfl
  |succ g =>
   simp only[gq] at h ⊢;by_cases hi:i<s.size
   .rw[Tg hi] at h ⊢;by_cases hd:Utf8.decode s i=(65533,1)
    .rw[Tg hd] at h;cases h
    .rw[Tf hd] at h ⊢;have:=iQ hi;exact e g _ (by omega) h
   .rw[Tf hi]
theorem nD(h:bad s=U): V s 0:=λf=>Hz s s.size f 0 (by omega) h
theorem pZ(h:V s i)(hi:i<s.size): ¬Utf8.decode s i=(65533,1)/\V s (i+(Utf8.decode s i).2):=by
 have b:=h 1;simp only[gq,Tg hi] at b;have hd:¬Utf8.decode s i=(65533,1):=λe=>by rw[Tg e] at b;cases b
 refine⟨hd,λf=>?_⟩;have j:=h (f+1);simp only[gq,Tg hi,Tf hd] at j;exact j
theorem NU(hi:s.size<=i): V s i:=λf=>by
 cases f with
 |zero=>rfl
 |succ f=>simp only[gq];rw[Tf (by omega)]
theorem BN{j:Nat}(hi:i<s.size)(C:i<j)(b:j<i+(Utf8.decode s i).2): 128<=bt s j/\bt s j<192:=by
 have y:=jm s (i+1);have z:=jm s (i+2);have A:=jm s (i+3);rw[dec] at b;rcases Lib.decodeN_shape (s.size-i) (bt s i) (bt s (i+1)) (bt s (i+2)) (bt s (i+3)) with ⟨c,e⟩|⟨l,m,r,u,e⟩|⟨l,m,r,B,u,F,e⟩|⟨l,m,r,B,G,u,I,e⟩|e
 .rw[e] at b;simp only at b;omega
 .rw[e] at b;simp only at b;obtain rfl:j=i+1:=by omega
  omega
 .rw[e] at b;simp only at b;obtain rfl|rfl:j=i+1\/j=i+2:=by omega
  .omega
  .omega
 .rw[e] at b;simp only at b;obtain rfl|rfl|rfl:j=i+1\/j=i+2\/j=i+3:=by omega
  .omega
  .omega
  .omega
 .rw[e] at b;simp only at b;omega
theorem Sv: ∀(n i j:Nat),j-i<=n->V s i->i<=j->j<s.size->bt s j<128->V s j:=by
 intro n
 induction n with
 |zero=>intro i j l h b _ _;obtain rfl:i=j:=(by omega);exact h
 |succ n m =>
  intro i j l h b r u;by_cases e:i=j
  .rw[<-e];exact h
  .have hi:i<s.size:=by omega
   obtain⟨_,y⟩:=pZ h hi;have z:=iQ hi;refine m _ j (by omega) y ?_ r u;apply VU;intro A;have:=BN hi (j:=j) (by omega) (by omega);omega
end Sp
namespace Sp
open Go
def rl(s:V8):Nat->Nat->List Int
 |0,_=>[]
 |f+1,i=>if i<s.size then ((Utf8.decode s i).1:Int)::rl s f (i+(Utf8.decode s i).2) else []
def rs(s:V8)(i:Nat):List Int:=rl s (s.size-i) i
theorem Fm(s:V8):∀(f g i:Nat),s.size-i<=f->s.size-i<=g->rl s f i=rl s g i:=by
 intro f
 induction f with
 |zero =>
  intro g i b e;cases g with
  |zero=>rfl
  |succ g=>simp only[rl];rw[Tf (by omega)]
 |succ f j =>
  intro g i b e;by_cases hi:i<s.size
  .cases g with
   |zero=>omega
   |succ g =>
    have:=iQ hi;simp only[rl,Tg hi];rw[j g _ (by omega) (by omega)]
  .cases g with
   |zero=>simp only[rl];rw[Tf hi]
   |succ g=>simp only[rl];rw[Tf hi,Tf hi]
variable {s:V8}{i:Nat}
theorem mw(h:s.size<=i): rs s i=[]:=by
 unfold rs;rw[show s.size-i=0 from by omega];rfl
theorem lP(h:i<s.size): rs s i=((Utf8.decode s i).1:Int)::rs s (i+(Utf8.decode s i).2):=by
 unfold rs;have:=iQ h;rw[Fm s (s.size-i) (s.size-i+1) i (by omega) (by omega)];simp only[rl,Tg h];rw[Fm s _ (s.size-(i+(Utf8.decode s i).2)) _ (by omega) (by omega)]
theorem yR(s:V8):∀(f i:Nat) (acc:Array V6),Conv.runesFrom s f i acc=acc++((rl s f i).map (Z .i32)).toArray:=by
 intro f
 induction f with
 |zero=>intro i acc;simp[Conv.runesFrom,rl]
 |succ f b =>
  intro i acc;simp only[Conv.runesFrom,rl];by_cases h:i<s.size
  .rw[Tg h,Tg h,b];apply Array.ext';simp
  .rw[Tf h,Tf h];simp
theorem JG(s:V8):Conv.runesFrom s s.size 0 #[]=((rs s 0).map (Z .i32)).toArray:=by
 rw[yR];simp[rs]
theorem KA(s:V8):∀(n i:Nat),s.size-i<=n->(rs s i).length<=s.size-i:=by
 intro n
 induction n with
 |zero=>intro i h;rw[mw (by omega)];simp
 |succ n b =>
  intro i h;by_cases hi:i<s.size
  .have:=iQ hi;rw[lP hi];have:=b (i+(Utf8.decode s i).2) (by omega);simp only[Tr];omega
  .rw[mw (by omega)];simp
theorem Rp(s:V8):∀(n i:Nat),s.size-i<=n->∀r∈rs s i,0<=r/\r<=1114111:=by
 intro n
 induction n with
 |zero=>intro i h r b;rw[mw (by omega)] at b;cases b
 |succ n e =>
  intro i h r b;by_cases hi:i<s.size
  .have:=iQ hi;have j:=Pv s i;rw[lP hi] at b;rcases TO.1 b with rfl|b
   .omega
   .exact e _ (by omega) r b
  .rw[mw (by omega)] at b;cases b
theorem Hj(b:List Int):∀a:V8,(b.foldl (λr n=>r++Utf8.encode n) a).data.toList=a.data.toList++(b.foldl (λr n=>r++Utf8.encode n) ByteArray.empty).data.toList:=by
 induction b with
 |nil=>intro a;simp
 |cons n b e =>
  intro a;simp only[VD];rw[e (a++Utf8.encode n),e (ByteArray.empty++Utf8.encode n)];simp[U6]
theorem vp(n:Int)(b:List Int):(runesBytes (n::b)).data.toList=(Utf8.encode n).data.toList++(runesBytes b).data.toList:=by
 unfold runesBytes;simp only[VD];rw[Hj b (ByteArray.empty++Utf8.encode n)];simp[U6]
theorem Ay: ∀(n i:Nat),s.size-i<=n->V s i->(runesBytes (rs s i)).data.toList=s.data.toList.drop i:=by
 intro n
 induction n with
 |zero =>
  intro i h _;rw[mw (by omega),UP (by simp;have:s.data.size=s.size:=rfl;omega)];rfl
 |succ n e =>
  intro i h j;by_cases hi:i<s.size
  .obtain⟨hd,b⟩:=pZ j hi;have l:=iQ hi;rw[lP hi,vp,e _ (by omega) b,M8 hi hd];unfold nW;rw[<-List.drop_drop,Un]
  .rw[mw (by omega),UP (by simp;have:s.data.size=s.size:=rfl;omega)];rfl
theorem extract_drop(s:V8)(i:Nat):(s.extract i s.size).data.toList=s.data.toList.drop i:=by
 rw[ByteArray.data_extract,Array.toList_extract]
 show (s.data.toList.drop i).take (s.data.size-i)=_
 rw[Ur (by simp)]
theorem Fa(c:Nat)(m:c<128)(hi:i<s.size): ((Utf8.decode s i).1:Int)=c↔bt s i=c:=by
 have b:=jm s i;have j:=jm s (i+1);rw[dec];rcases Lib.decodeN_shape (s.size-i) (bt s i) (bt s (i+1)) (bt s (i+2)) (bt s (i+3)) with ⟨_,e⟩|⟨_,_,_,_,e⟩|⟨_,_,_,_,_,_,e⟩|⟨_,_,_,_,_,_,_,e⟩|e
 .rw[e];simp only;omega
 .rw[e];simp only;omega
 .rw[e];simp only;omega
 .rw[e];simp only;omega
 .rw[e];simp only;constructor
  .intro h;omega
  .intro h;have l:bt s i<128:=by omega
   unfold Lib.decodeN at e;rw[Tg l] at e;have:=congrArg Prod.fst e;simp only at this;omega
theorem KV(hi:i<s.size): ((Utf8.decode s i).1:Int)=32↔bt s i=32:=by
 have:=Fa (s:=s) (i:=i) 32 (by omega) hi;omega
theorem N5(hi:i<s.size): ((Utf8.decode s i).1:Int)=62↔bt s i=62:=by
 have:=Fa (s:=s) (i:=i) 62 (by omega) hi;omega
theorem Oe(m:V s i)(hi:i<s.size): nm s i=if ((Utf8.decode s i).1:Int)=32\/((Utf8.decode s i).1:Int)=62 then U else S (((Utf8.decode s i).1:Int),i+(Utf8.decode s i).2):=by
 have j:=KV hi;have l:=N5 hi;have r:=Bg (pZ m hi).1;unfold nm;by_cases h:((Utf8.decode s i).1:Int)=32\/((Utf8.decode s i).1:Int)=62
 .rw[Tg h,Tf];rintro⟨_,a,b⟩;rcases h with h|h
  .exact a (j.1 h)
  .exact b (l.1 h)
 .rw[Tf h,Tg ⟨hi,λe=>h (Wh (j.2 e)),λe=>h (Wi (l.2 e))⟩,r];simp
def numOf(t:List Int):Option Int:=number (runesBytes t).data.toList
def lB(r:List Int):Option Ln:=match r with
 |a::b::t =>
  if a=32\/a=62 then U
  else if b=32 then (numOf t).map λn=>⟨Wg,a,0,n⟩
  else if b=62 then
   match t with
   |c::d::u=>if c=32\/c=62 then U else if d=32 then (numOf u).map λn=>⟨We,a,c,n⟩ else U
   |_=>U
  else U
 |_=>U
theorem D1{e:Bool}{a b:Int}{j:Nat}(y:V s j): fin s e a b j=match rs s j with
  |d::u=>if d=32 then (numOf u).map λn=>⟨e,a,b,n⟩ else U
  |[]=>U:=by
 unfold fin;by_cases l:j<s.size
 .rw[lP l];simp only;have m:=KV l;by_cases h:bt s j=32
  .rw[Tg ⟨l,h⟩,Tg (m.2 h)];have z:(Utf8.decode s j).2=1:=by
    rw[dec];unfold Lib.decodeN;rw[Tg (by omega)]
   obtain⟨_,r⟩:=pZ y l;rw[z] at r ⊢;unfold numOf;rw[Ay _ _ V2 r,extract_drop]
  .rw[Tf (λx=>h x.2),Tf (λx=>h (m.1 x))]
 .rw[Tf (λx=>l x.1),mw (by omega)]
theorem LV(M:V s 0): oT s=lB (rs s 0):=by
 unfold oT;by_cases C:0<s.size
 .rw[Oe M C,lP C];obtain⟨_,m⟩:=pZ M C;rw[TM] at m ⊢;generalize ((Utf8.decode s 0).1:Int)=a;generalize (Utf8.decode s 0).2=j at m;by_cases z:a=32\/a=62
  .rw[Tg z];cases R:rs s j with
   |nil=>rfl
   |cons b t=>simp only[lB,Tg z]
  .rw[Tf z];simp only;by_cases r:j<s.size
   .have P:=KV r;have A:=N5 r;obtain⟨_,y⟩:=pZ m r;by_cases F:bt s j=62
    .have Q:(Utf8.decode s j).2=1:=by rw[dec];unfold Lib.decodeN;rw[Tg (by omega)]
     rw[Tg ⟨r,F⟩,lP r];have e:=A.2 F;rw[Q] at y ⊢;generalize ((Utf8.decode s j).1:Int)=b at e;subst e;simp only[lB,Tf z];rw[Tf (by decide),Tg trivial];by_cases G:j+1<s.size
     .rw[Oe y G,lP G];obtain⟨_,B⟩:=pZ y G;generalize ((Utf8.decode s (j+1)).1:Int)=c;generalize j+1+(Utf8.decode s (j+1)).2=k at B;by_cases I:c=32\/c=62
      .rw[Tg I];cases K:rs s k with
       |nil=>rfl
       |cons d u=>simp only[Tg I]
      .rw[Tf I];simp only;rw[D1 B];cases K:rs s k with
       |nil=>rfl
       |cons d u=>simp only[Tf I]
     .have L:nm s (j+1)=U:=by unfold nm;rw[Tf (λx=>G x.1)]
      rw[L,mw (by omega)]
    .rw[Tf (λx=>F x.2),D1 m];rw[lP r];have e:¬((Utf8.decode s j).1:Int)=62:=λx=>F (A.1 x)
     generalize ((Utf8.decode s j).1:Int)=b at e;simp only[lB,Tf z];by_cases l:b=32
     .rw[Tg l,Tg l]
     .rw[Tf l,Tf l,Tf e]
   .rw[Tf (λx=>r x.1),D1 m,mw (by omega)]
    rfl
 .have L:nm s 0=U:=by unfold nm;rw[Tf (λx=>C x.1)]
  rw[L,mw (by omega)]
  rfl
end Sp
namespace Sp
open Go
theorem qZ(s:V8)(a b:Nat)(hb:b<=s.size):(s.extract a b).size=b-a:=by simp;omega
theorem BX(s:V8)(a b p:Nat)(hb:b<=s.size)(j:a+p<b):bt (s.extract a b) p=bt s (a+p):=by
 have e:p<(s.extract a b).size:=by rw[qZ s a b hb];omega
 rw[<-jW _ _ e,<-jW s (a+p) (by omega)]
 congr 1
 exact ByteArray.getElem_extract _
theorem GZ{n A l m u y c1 c2 c3 w r:Nat}(h:Lib.decodeN n l m u y=(r,w))(K:¬(r,w)=(65533,1))(P:w<=A)(z:1<w->c1=m)(B:2<w->c2=u)(L:3<w->c3=y):Lib.decodeN A l c1 c2 c3=(r,w):=by
 rcases Lib.decodeN_shape n l m u y with ⟨c,e⟩|⟨C,F,G,I,e⟩|⟨C,F,G,M,I,Q,e⟩|⟨C,F,G,M,R,I,T,e⟩|e
 .rw[e] at h;injection h with b j;subst b j;unfold Lib.decodeN;rw[Tg c]
 .rw[e] at h;injection h with b j;subst b j;rw[z (by omega)];unfold Lib.decodeN;rw[Tf (by omega),Tg (by omega),Tg (by omega)]
 .rw[e] at h;injection h with b j;subst b j;rw[z (by omega),B (by omega)];unfold Lib.decodeN;rw[Tf (by omega),Tf (by omega),Tg (by omega),Tg (by omega)]
 .rw[e] at h;injection h with b j;subst b j;rw[z (by omega),B (by omega),L (by omega)];unfold Lib.decodeN;rw[Tf (by omega),Tf (by omega),Tf (by omega),Tg (by omega),Tg (by omega)]
 .rw[e] at h;exact absurd h.symm K
variable {s:V8}
theorem OL{a b p:Nat}(hb:b<=s.size)(j:a+p<b)(l:V s (a+p))(u:a+p+(Utf8.decode s (a+p)).2<=b): Utf8.decode (s.extract a b) p=Utf8.decode s (a+p):=by
 obtain⟨hd,_⟩:=pZ l (by omega);have y:=iQ (s:=s) (i:=a+p) (by omega);rw[dec (s.extract a b) p];have m:=BX s a b p hb j;rw[m];have h:=dec s (a+p);refine(GZ (r:=(Utf8.decode s (a+p)).1) (w:=(Utf8.decode s (a+p)).2) h.symm hd ?_ ?_ ?_ ?_).trans O
 .rw[qZ s a b hb];omega
 .intro e;exact BX s a b (p+1) hb (by omega)
 .intro e;exact BX s a b (p+2) hb (by omega)
 .intro e;exact BX s a b (p+3) hb (by omega)
theorem Sz{a b:Nat}(hb:b<=s.size)(e:b=s.size\/bt s b<128): ∀(n p:Nat),b-(a+p)<=n->V s (a+p)->V (s.extract a b) p:=by
 intro n
 induction n with
 |zero=>intro p r _;exact NU (by rw[qZ s a b hb];omega)
 |succ n u =>
  intro p r m f;by_cases y:a+p<b
  .obtain⟨hd,l⟩:=pZ m (by omega);have B:=iQ (s:=s) (i:=a+p) (by omega);have z:a+p+(Utf8.decode s (a+p)).2<=b:=by
    apply VU;intro A;rcases e with he|he
    .omega
    .have:=BN (s:=s) (i:=a+p) (j:=b) (by omega) (by omega) (by omega);omega
   cases f with
   |zero=>rfl
   |succ f =>
    simp only[gq];rw[Tg (by rw[qZ s a b hb];omega),OL hb y m z,Tf hd];refine u _ (by omega) ?_ f;rw[<-Nat.add_assoc];exact l
  .exact NU (by rw[qZ s a b hb];omega) f
theorem Pw(l:V s 0): ∀k,k<=s.size+1->((lY s 10 k).1<=s.size->V s (lY s 10 k).1)/\(∀x∈(lY s 10 k).2,V x 0):=by
 intro k
 induction k with
 |zero=>intro _;exact⟨λ_=>l,by simp[lY]⟩
 |succ k y =>
  intro C;obtain⟨m,r⟩:=y (by omega);have z:=yp s 10 k;by_cases h:k=s.size\/bt s k=10
  .rw[nz h];have A:V (s.extract (lY s 10 k).1 k) 0:=by
    refine Sz (by omega) (by rcases h with h|h;exact Wh h;exact Wi (by omega)) _ 0 V2 ?_;rw[Uo];exact m (by omega)
   refine⟨λe=>?_,λx b=>?_⟩
   .simp only at e;have F:bt s k=10:=by rcases h with h|h;exact absurd h (by omega);exact h
    have j:=Sv k 0 k (by omega) l (by omega) (by omega) (by omega);obtain⟨_,u⟩:=pZ j (by omega);have B:(Utf8.decode s k).2=1:=by rw[dec];unfold Lib.decodeN;rw[Tg (by omega)]
    rw[B] at u;exact u
   .rcases TB.1 b with b|b
    .exact r x b
    .rw[TL.1 b];exact A
  .rw[uA h];exact⟨m,r⟩
theorem LI(b:V s 0): ∀x∈split s 10,V x 0:=(Pw b (s.size+1) V2).2
def uh(c:UInt8):List UInt8->List (List UInt8)
 |[]=>[[]]
 |b::l=>if b=c then []::uh c l else
  match uh c l with
  |[]=>[[b]]
  |h::t=>(b::h)::t
theorem xf(c:UInt8)(l:List UInt8):Lib.index (c::l) [c]=0:=by
 simp[Lib.index,List.isPrefixOf]
theorem wU{b c:UInt8}(h:¬b=c)(l:List UInt8):Lib.index (b::l) [c]=if Lib.index l [c] == -1 then -1 else Lib.index l [c]+1:=by
 have j:([c]:List UInt8).isPrefixOf (b::l)=Wg:=by simp[List.isPrefixOf];exact λe=>h e.symm
 rw[Lib.index,j];rfl
theorem uX(c:UInt8):∀l:List UInt8,Lib.splitK [c] 0 (Lib.count l [c]) l=uh c l:=by
 intro l
 induction l with
 |nil=>rfl
 |cons b l e =>
  by_cases h:b=c
  .subst h;rw[Lib.count_cons_eq,Nat.add_comm 1];simp only[Lib.splitK,xf,uh,TY];rw[Tf (by decide)];simpa using e
  .rw[Lib.count_cons_ne b c l h];simp only[uh,Tf h];rw[<-e];cases y:Lib.count l [c] with
   |zero=>rfl
   |succ k =>
    simp only[Lib.splitK,wU h];have j:=Lib.index_ge l [c];by_cases hi:Lib.index l [c] = -1
    .rw[hi];rfl
    .have m:(Lib.index l [c] == -1)=Wg:=Tt.2 hi;rw[m];simp only[VE,Ux];have r:(Lib.index l [c]+1 == -1)=Wg:=Tt.2 (by omega);rw[r];simp only[VE,Ux];have u:(Lib.index l [c]+1).toNat=(Lib.index l [c]).toNat+1:=by omega
     rw[u];simp
theorem ze(c:UInt8)(l:List UInt8):∃h t,uh c l=h::t:=by
 cases l with
 |nil=>exact⟨_,_,rfl⟩
 |cons b l =>
  simp only[uh];split
  .exact⟨_,_,O⟩
  .split <;> exact⟨_,_,O⟩
theorem rv(s:V8)(a b:Nat):(s.extract a b).data.toList=(s.data.toList.drop a).take (b-a):=by
 rw[ByteArray.data_extract,Array.toList_extract]
def Dt(c:UInt8)(p l:List UInt8):List (List UInt8):=match uh c l with
 |[]=>[]
 |h::t=>(p++h)::t
theorem It(s:V8)(c:UInt8):∀k,k<=s.size->(lY s c.toNat k).2.map (·.data.toList)++Dt c (s.extract (lY s c.toNat k).1 k).data.toList (s.data.toList.drop k)=uh c s.data.toList:=by
 intro k
 induction k with
 |zero =>
  intro _;obtain⟨h,t,e⟩:=ze c s.data.toList;simp only[lY,Dt,rv,List.map_nil,Ul,List.drop_zero,Nat.sub_zero,List.take_zero,e]
 |succ k l =>
  intro A;have m:k<Wn s.data.toList:=by rw[Uv];show k<s.size;omega
  have hi:=l (by omega);have r:=yp s c.toNat k;have j:s.data.toList[k]=UInt8.ofNat (bt s k):=Jt s k (by omega);rw[TW m] at hi;by_cases h:k=s.size\/bt s k=c.toNat
  .have b:bt s k=c.toNat:=by rcases h with h|h;exact absurd h (by omega);exact h
   have u:s.data.toList[k]=c:=by rw[j,b];simp
   rw[nz h];rw[u] at hi;obtain⟨y,t,e⟩:=ze c (s.data.toList.drop (k+1));simp only[Dt,uh,TY,UJ] at hi;simp only[Dt,e,rv,Nat.sub_self,List.take_zero,Ul,UD,Uj,List.map_nil,T4,TZ];rw[e] at hi;simpa [rv] using hi
  .have b:¬s.data.toList[k]=c:=λe=>by
    rw[j] at e;have:=congrArg UInt8.toNat e;have z:=jm s k;simp at this;exact h (Wi (by omega))
   rw[uA h];obtain⟨y,t,e⟩:=ze c (s.data.toList.drop (k+1));simp only[Dt,uh,Tf b,e] at hi;simp only[Dt,e];rw[<-hi]
   congr 2
   rw[rv,rv];have:k+1-(lY s c.toNat k).1=(k-(lY s c.toNat k).1)+1:=by omega
   rw[this,Uw (by rw[Us];omega),T4]
   congr 1
   simp only[List.getElem_drop,TZ,Ul]
   congr 2
   omega
theorem ph(s:V8)(c:UInt8):(split s c.toNat).map (·.data.toList)=uh c s.data.toList:=by
 have h:=It s c s.size V2;unfold split;rw[nz (Wh O)];rw[UP (by rw[Uv];exact Te _)] at h;simp only[Dt,uh,UJ] at h;simp only[UD,Uj,List.map_nil];exact h
theorem uN:∀(a b:List V8),a.map (·.data.toList)=b.map (·.data.toList)->a=b:=by
 intro a
 induction a with
 |nil=>intro b h;cases b with
  |nil=>rfl
  |cons _ _=>simp at h
 |cons x a j =>
  intro b h;cases b with
  |nil=>simp at h
  |cons y b =>
   simp only[Uj,Vs] at h;have e:x=y:=by apply Uy;apply Array.ext';exact h.1
   rw[e,j b h.2]
theorem sH(s:V8):Lib.splitB ⟨#[10]⟩ 0 (Lib.countB s ⟨#[10]⟩) s=split s 10:=by
 apply uN;rw[Lib.splitB_data];have:=ph s 10;rw[show (10:UInt8).toNat=10 from rfl] at this;rw[this];exact uX 10 s.data.toList
theorem tw(s:V8):Lib.countB s ⟨#[10]⟩+1=(split s 10).length:=by
 rw[<-sH,Lib.splitB_all ⟨#[10]⟩ (by decide) 0 _ s rfl]
end Sp
section
theorem cU{p:Prop}(h:p):Hid p:=h
theorem cT{p:Prop}(h:Hid p):p:=h
variable {xs:List V6}{w:V5}{e n B:Nat}{v:V6}
theorem de{w':V5}{size:Nat}(h:w.ownsRow B e size v n xs)(hb:V4 w w'): w'.ownsRow B e size v n xs:=by
 obtain⟨u,b⟩:=h;refine⟨u,?_⟩;rcases b with b|⟨g,j,l,y,z,m,r⟩
 .exact .inl b
 .refine .inr ⟨g,j,l,y,z,?_,r⟩;rw[hb.block g (Ts.1 m).1,m]
theorem Qs{y m s z A:Nat}{v':V6}{j:List V6}(h:w.ownsRow B e s v n xs)(C:w.ownsRow y m z v' A j)(he:e≠m): v.ownBlock=U\/v.ownBlock≠v'.ownBlock:=by
 obtain⟨_,F⟩:=h;obtain⟨_,G⟩:=C;rcases F with ⟨rfl,_⟩|⟨g,I,K,rfl,Q,L,_⟩
 .exact .inl O
 .right;rcases G with ⟨rfl,_⟩|⟨M,r,u,rfl,P,b,_⟩
  .intro h;cases h
  .intro h;have l:g=M:=by simpa [Value.ownBlock] using h
   subst l;rw[L] at b;injection b with b;injection b with _ b;exact he b
theorem qO{size:Nat}{ys:List V6}{wr r:V5}{v':V6}(u:B<=wr.heap.size)(l:wr.ownsRow B e size v n xs)(m:Below B w wr)(b:wr.grownBy r v.ownBlock): Below B w r:=m.grown b u (λj y=>by have:=(l.lt j y).1;omega)
theorem jJ{l j s m r:Nat}{ys:List V6}{wr y:V5}{u:V6}(z:wr.ownsRow B e s v n xs)(hu:wr.ownsRow l j m u r ys)(he:j≠e)(b:wr.grownBy y v.ownBlock): y.ownsRow l j m u r ys:=hu.kept b (Qs hu z he)
end
section
variable {s:V8}
theorem pJ{l:List UInt8}(h:¬s.data.toList=l): (s.toList == l)=Wg:=by
 rw[Tt,UK];exact h
theorem pF{l:List UInt8}(h:s.data.toList=l): (s.toList == l)=We:=by
 rw[UH,UK];exact h
theorem Ft(h:0<s.size): s.data.toList.head?=S s[0]:=by
 cases s with | mk d=>cases d with | mk l =>
 cases l with
 |nil=>exact absurd h (Nat.lt_irrefl 0)
 |cons a l=>rfl
def mU(o:Option Int):V6 := Wb #[Z Y (o.getD 0),.bool o.isSome]
theorem head_ne(c:UInt8)(h:0<s.size)(hd:((s[0].toNat:Nat):Int)≠(c.toNat:Int)): s.data.toList.head?≠S c:=by
 rw[Ft h];intro e;injection e with e;apply hd;rw[e]
theorem Mp(c:UInt8)(h:0<s.size)(hd:((s[0].toNat:Nat):Int)=(c.toNat:Int)): s.data.toList.head?=S c:=by
 rw[Ft h];congr 1;apply UInt8.toNat_inj.1;omega
theorem ne_nil(h:0<s.size): s.data.toList≠[]:=by
 intro e;have b:Wn s.data.toList=0:=by rw[e];rfl
 rw[Uv] at b;have j:s.data.size=s.size:=rfl;omega
theorem H6(h:¬0<s.size): s.data.toList=[]:=by
 apply VF;rw[Uv];have b:s.data.size=s.size:=rfl;omega
end
theorem jr:mU U=Wb #[Z Y 0,.bool Wg]:=rfl
theorem jw(v:Int):mU (S v)=Wb #[Z Y v,.bool We]:=rfl
theorem tR(d:V8)(w:V5)(r:d.size<=4000)(h:d.size=0\/∃j:0<d.size,((d[0].toNat:Nat):Int)=48):V7 prog 218 #[H d] w λe l=>e=Wd (mU U)/\l=w:=by
 rcases h with h|⟨j,h⟩
 .have b:d.toList.isEmpty=We:=by rw[UK,H6 (by omega)];rfl
  go_enter func218,ntmps218;go_wp2;go_ret2;exact⟨O,O⟩
 .have b:d.toList.isEmpty=Wg:=by
   rw[UK];cases m:d.data.toList with
   |nil=>exact absurd m (ne_nil j)
   |cons _ _=>rfl
  have u:(((d[0].toNat:Nat):Int) == 48)=We:=UH.2 h;clear h;go_enter func218,ntmps218;go_wp2;go_ret2;exact⟨O,O⟩
theorem wR(d:V8)(w:V5)(T:d.size<=4000)(hd:0<d.size)(z:((d[0].toNat:Nat):Int)≠48):V7 prog 218 #[H d] w λe I=>e=Wd (mU (Sp.nu d.data.toList))/\V4 w I:=by
 have K:d.toList.isEmpty=Wg:=by
  rw[UK];cases L:d.data.toList with
  |nil=>exact absurd L (ne_nil hd)
  |cons _ _=>rfl
 have F:(((d[0].toNat:Nat):Int) == 48)=Wg:=Tt.2 z;go_enter func218,ntmps218;go_wp2_with fail
 go_loopw [4] (λn wr=>∃(k:Nat) (v:Int),k<=d.size/\n=Z Y v/\Hid (Sp.nu (d.data.toList.take k)=S v)/\wr=w.iter d k) (λ_ wr=>d.size-wr.iterPos w.heap.size)
 case atStart=>exact⟨0,0,Tp _,rfl,rfl,rfl⟩
 case round =>
  obtain⟨k,v,V,rfl,A,rfl⟩:=hrel;have W:=Sp.zJ A.out;have j:∀p,V4 w (w.iter d p):=λp=>V3.alloc V2 _
  by_cases l:k<d.size
  .have u:Hid (Sp.nu (d.data.toList.take (k+1))=Sp.fH (S v) d[k]):=by
    show _=_;rw[Sp.Gm d k l,Sp.xY,A.out]
   by_cases M:(d[k].toNat)<128
   .have r:=λy=>run_next_ascii (P:=prog) w d k y l M
    by_cases Q:((d[k].toNat:Nat):Int)<48
    .have m:Hid (Sp.nu d.data.toList=U):=Sp.jT (k:=k+1) (by rw[u.out];exact Tg (Wh Q));go_wp2;go_ret2;exact⟨by rw[m.out];rfl,j _⟩
    by_cases R:57<((d[k].toNat:Nat):Int)
    .have m:Hid (Sp.nu d.data.toList=U):=Sp.jT (k:=k+1) (by rw[u.out];exact Tg (Wi (Wh R)));go_wp2;go_ret2;exact⟨by rw[m.out];rfl,j _⟩
    by_cases X:1000000000<v*10+(((d[k].toNat:Nat):Int)-48)
    .have m:Hid (Sp.nu d.data.toList=U):=Sp.jT (k:=k+1) (by rw[u.out];exact Tg (Wi (Wi (by omega))));go_wp2;go_ret2;exact⟨by rw[m.out];rfl,j _⟩
    .go_wp2;go_roundw
     case rel=>exact⟨k+1,_,by omega,rfl,by show _=_;rw[u.out];rw[show v*10=10*v from by omega];exact Tf (by omega),O⟩
     case measure=>simp;omega
   .have r:=λy=>run_next_any (P:=prog) w d k y l
    have B:=(decode_high d k l (by omega)).1;have C:=decode_le d k;have m:Hid (Sp.nu d.data.toList=U):=Sp.jT (k:=k+1) (by rw[u.out];exact Tg (Wi (Wh (by omega))));generalize Utf8.decode d k=b at r B C;have G:128<=((b.1:Nat):Int):=by omega
    go_wp2;go_ret2;exact⟨by rw[m.out];rfl,j _⟩
  .have m:Hid (Sp.nu d.data.toList=S v):=by
    show _=_;rw[<-Sp.JJ d k (by omega)];exact A.out
   have r:=λy=>run_next_end (P:=prog) w d k y l
   go_wp2;go_ret2;exact⟨by rw[m.out];rfl,j _⟩
theorem lS(d:V8)(w:V5)(j:d.size<=4000):V7 prog 218 #[H d] w λe l=>e=Wd (mU (Sp.digits d.data.toList))/\V4 w l:=by
 by_cases hd:0<d.size
 .by_cases b:((d[0].toNat:Nat):Int)=48
  .rw[show Sp.digits d.data.toList=U from Tg (Wi (Mp 48 hd b))];exact(tR d w j (Wi ⟨hd,b⟩)).mono λe l h=>⟨h.1,by rw[h.2];exact Th _ _⟩
  .have m:=ne_nil hd;rw[show Sp.digits d.data.toList=Sp.nu d.data.toList from Tf (by rintro(e|e);exact m e;exact head_ne 48 hd b e)];exact wR d w j hd b
 .rw[show Sp.digits d.data.toList=U from Tg (Wh (H6 hd))];exact(tR d w j (Wh (by omega))).mono λe l h=>⟨h.1,by rw[h.2];exact Th _ _⟩
theorem LL{l:List UInt8}(h:l.head?=S 45):Lib.hasPrefix l [45]=We/\Lib.trimPrefix l [45]=l.tail:=by
 cases l with
 |nil=>cases h
 |cons a l =>
  injection h with h;subst h;exact⟨O,O⟩
theorem Po{l:List UInt8}(h:¬l.head?=S 45):Lib.hasPrefix l [45]=Wg/\Lib.trimPrefix l [45]=l:=by
 cases l with
 |nil=>exact⟨rfl,rfl⟩
 |cons a l =>
  have j:¬a=45:=λe=>h (by rw[e];rfl)
  have b:Lib.hasPrefix (a::l) [45]=Wg:=by
   simp[Lib.hasPrefix,List.isPrefixOf];exact λe=>j e.symm
  exact⟨b,by unfold Lib.trimPrefix;rw[b];rfl⟩
theorem mN(s:V8)(w:V5)(M:s.size<=4000):V7 prog 152 #[H s] w λe Q=>e=Wd (mU (Sp.number s.data.toList))/\V4 w Q:=by
 have hcut:=Tryz.strings_CutPrefix s ⟨#[45]⟩ w;by_cases m:s.data.toList.head?=S 45
 .obtain⟨B,C⟩:=LL m;have P:¬s.data.toList=[48]:=λe=>by rw[e] at m;cases m
  have F:Sp.number s.data.toList=(Sp.digits s.data.toList.tail).map (λn=>-n):=by unfold Sp.number;rw[Tf P,Tg m]
  rw[F];obtain⟨d,hd⟩:∃d:V8,d=⟨s.data.toList.tail.toArray⟩:=⟨_,rfl⟩
  have r:d.data.toList=s.data.toList.tail:=by rw[hd]
  have G:d.size<=4000:=by
   have:Wn d.data.toList<=Wn s.data.toList:=by rw[r,List.length_tail];omega
   rw[Uv,Uv] at this;have V:d.data.size=d.size:=rfl;have W:s.data.size=s.size:=rfl;omega
  rw[show ((⟨#[45]⟩:V8).data.toList)=[45] from rfl,B,C,<-hd] at hcut;rw[<-r];clear hd B C m P F r;have u:=cU hcut;clear hcut;by_cases j:d.data.toList=[48]
  .have y:=pF j;have R:Hid (Sp.digits d.data.toList=U):=by show _=_;unfold Sp.digits;rw[j];simp
   go_enter func152,ntmps152;go_wp2_with fail;refine(cT u).mono ?_;rintro e I ⟨rfl,l⟩;obtain rfl:=l.symm;go_wp2;go_ret2;exact⟨by rw[cT R];rfl,Th _ _⟩
  .have y:=pJ j;cases b:Sp.digits d.data.toList with
   |none =>
    have z:=cU b;clear b j;go_enter func152,ntmps152;go_wp2_with fail;refine(cT u).mono ?_;rintro e I ⟨rfl,l⟩;obtain rfl:=l.symm;go_wp2_with fail;refine(lS d _ G).mono ?_;rintro e L ⟨rfl,A⟩;rw[cT z,jr];go_wp2;go_ret2;exact⟨O,A⟩
   |some v =>
    have z:=cU b;have T:0<=v/\v<=1000000000:=by
     unfold Sp.digits at b;split at b
     .cases b
     .exact Sp.zJ b
    clear b j;go_enter func152,ntmps152;go_wp2_with fail;refine(cT u).mono ?_;rintro e I ⟨rfl,l⟩;obtain rfl:=l.symm;go_wp2_with fail;refine(lS d _ G).mono ?_;rintro e L ⟨rfl,A⟩;rw[cT z,jw];go_wp2;go_ret2;exact⟨O,A⟩
 .obtain⟨B,C⟩:=Po m;have K:(⟨s.data.toList.toArray⟩:V8)=s:=rfl;rw[show ((⟨#[45]⟩:V8).data.toList)=[45] from rfl,B,C,K] at hcut;have u:=cU hcut;clear hcut B C K;by_cases j:s.data.toList=[48]
  .have y:=pF j;rw[show Sp.number s.data.toList=S 0 from Tg j];go_enter func152,ntmps152;go_wp2_with fail;refine(cT u).mono ?_;rintro e I ⟨rfl,l⟩;obtain rfl:=l.symm;go_wp2;go_ret2;exact⟨O,Th _ _⟩
  .have y:=pJ j;have F:Sp.number s.data.toList=Sp.digits s.data.toList:=by unfold Sp.number;rw[Tf j,Tf m]
   rw[F];clear F m;cases b:Sp.digits s.data.toList with
   |none =>
    have z:=cU b;clear b j;go_enter func152,ntmps152;go_wp2_with fail;refine(cT u).mono ?_;rintro e I ⟨rfl,l⟩;obtain rfl:=l.symm;go_wp2_with fail;refine(lS s _ M).mono ?_;rintro e L ⟨rfl,A⟩;rw[cT z,jr];go_wp2;go_ret2;exact⟨O,A⟩
   |some v =>
    have z:=cU b;clear b j;go_enter func152,ntmps152;go_wp2_with fail;refine(cT u).mono ?_;rintro e I ⟨rfl,l⟩;obtain rfl:=l.symm;go_wp2_with fail;refine(lS s _ M).mono ?_;rintro e L ⟨rfl,A⟩;rw[cT z,jw];go_wp2;go_ret2;exact⟨O,A⟩
theorem info_string:(prog.info? 9).map (λi=>(i.zero,i.size,i.bytes))=S (S (H ByteArray.empty),1,16):=by kernel_rfl
theorem info_int:(prog.info? 3).map (λi=>(i.zero,i.size,i.bytes))=S (S (Z Y 0),1,8):=by kernel_rfl
theorem below_drewN(w:V5)(n:Nat):V4 w (w.drewN n):=by
 induction n with
 |zero=>exact Th _ _
 |succ n b=>exact b.drew
theorem dm{w:V5}{B e size n:Nat}{v:V6}{l:List V6}(h:w.ownsRow B e size v n l):∃p b,v=J p n b/\∀j,j<n*size->∃g,p=S ⟨g,0,U⟩/\B<=g/\g<w.heap.size/\w.cell? ⟨g,j,U⟩=l[j]?:=by
 have u:=h;obtain⟨F,y⟩:=h;rcases y with ⟨rfl,rfl⟩|⟨g,b,z,rfl,A,C,r⟩
 .exact⟨U,0,O,λj m=>by omega⟩
 .exact⟨S ⟨g,0,U⟩,b,O,λj m=>⟨g,O,A,(Ts.1 C).1,u.cellAt j m⟩⟩
def dq(E:List Sp.Ed):List V6:=E.flatMap λe=>[Z Y (e.dp:Int),Z Y (e.cS:Int),Z Y e.n]
theorem py{b w l:V5}{G e size n:Nat}{v:V6}{m:List V6}(hb:Below G b w)(A:G<w.heap.size)(r:w.ownsRow (G+1) e size v n m)(y:w.grownBy l v.ownBlock)(j:Nat)(u:V6):Below G b (l.setCell ⟨G,j,U⟩ u):=(hb.grown y (by omega) (λk z=>by have:=(r.lt k z).1;omega)).setCell V2 _
section
attribute [local go_sem ↓] Go.wp_at_zero Go.wp_at_succ
def dL(v u x:V6):V6 := .agg #[v,u,x]
def pI(s:V8)(w:V5)(e:Ending)(w':V5):Prop:=V4 w w'/\
 match Sp.dI s with
 |.error (a,b)=>e=Wd (Wb #[dL (J U 0 0) (J U 0 0) (J U 0 0),Z Y a,Z Y b])
 |.ok L=>∃v u x,e=Wd (Wb #[dL v u x,Z Y 0,Z Y 0])/\
   w'.ownsRow w.heap.size 21 1 v (Sp.vs L (Sp.nv L)).length (((Sp.vs L (Sp.nv L)).map (·.dp)).map (Z .i32))/\
   w'.ownsRow w.heap.size 2 1 u (Sp.vs L (Sp.nv L)).length (((Sp.vs L (Sp.nv L)).map (·.n)).map (Z Y))/\
   w'.ownsRow w.heap.size 162 3 x (Sp.es L (Sp.nv L) (Sp.nv L)).length (dq (Sp.es L (Sp.nv L) (Sp.nv L)))
theorem info_i32:(prog.info? 21).map (λi=>(i.zero,i.size,i.bytes))=S (S (Z .i32 0),1,4):=by kernel_rfl
theorem info_i64:(prog.info? 2).map (λi=>(i.zero,i.size,i.bytes))=S (S (Z Y 0),1,8):=by kernel_rfl
theorem info_edge:(prog.info? 162).map (λi=>(i.zero,i.size,i.bytes))=S (S (.agg #[Z Y 0,Z Y 0,Z Y 0]),3,24):=by kernel_rfl
variable {w:V5}
theorem ni{o:Obj}{g j:Nat}{x:V6}(b:g<w.heap.size)(h:w.cell? ⟨g,j,U⟩=S x): (w.alloc o).cell? ⟨g,j,U⟩=S x:=by
 rw[World.cell?_alloc_past _ _ _ (by simpa using b)];exact h
theorem jn{s:V8}{w':V5}{a b:Int}(h:Sp.dI s=.error (a,b))(hb:V4 w w'):pI s w (Wd (Wb #[dL (J U 0 0) (J U 0 0) (J U 0 0),Z Y a,Z Y b])) w':=by
 refine⟨hb,?_⟩;rw[h]
theorem FT{s:V8}{w':V5}{L:List Sp.Ln}{k:Nat}{N V:List Int}{v u x:V6}(h:Sp.dI s=.ok L)(b:k=Sp.nv L)(hb:V4 w w')(e:(Sp.vs L k).map (·.dp)=N)(j:(Sp.vs L k).map (·.n)=V)(l:w'.ownsRow w.heap.size 21 1 v (Wn N) (N.map (Z .i32)))(m:w'.ownsRow w.heap.size 2 1 u (Wn V) (V.map (Z Y)))(r:w'.ownsRow w.heap.size 162 3 x (Sp.es L k k).length (dq (Sp.es L k k))):pI s w (Wd (Wb #[dL v u x,Z Y 0,Z Y 0])) w':=by
 subst b e j;refine⟨hb,?_⟩;rw[h];exact⟨v,u,x,O,by simpa using l,by simpa using m,r⟩
end
section
def fG(w:V5)(k:IntKind)(p:Option Addr)(V:List Int):Prop := ∀j (h:j<Wn V),∃g,p=S ⟨g,0,U⟩/\g<w.heap.size/\w.cell? ⟨g,j,U⟩=S (Z k V[j])
variable {w:V5}
theorem fG.below{w':V5}{k:IntKind}{p:Option Addr}{V:List Int}(h:fG w k p V)(hb:V4 w w'): fG w' k p V:=λj e=>by
 obtain⟨g,a,b,c⟩:=h j e;have:=hb.size;exact⟨g,a,by omega,(hb.cell (p:=⟨g,j,U⟩) b).trans c⟩
theorem mP{B e:Nat}{k:IntKind}{v:V6}{V:List Int}(h:w.ownsRow B e 1 v (Wn V) (V.map (Z k))): ∃p b,v=J p (Wn V) b/\fG w k p V:=by
 obtain⟨p,b,l,m⟩:=dm h;refine⟨p,b,l,λj r=>?_⟩;obtain⟨g,u,_,y,z⟩:=m j (by omega);exact⟨g,u,y,by rw[z];simp[r]⟩
def gh(w:V5)(p:Option Addr)(E:List Sp.Ed):Prop := ∀j (h:j<Wn E),∃g,p=S ⟨g,0,U⟩/\g<w.heap.size/\w.cell? ⟨g,j*3,U⟩=S (Z Y (E[j].dp:Int))/\w.cell? ⟨g,j*3+1,U⟩=S (Z Y (E[j].cS:Int))/\w.cell? ⟨g,j*3+2,U⟩=S (Z Y E[j].n)
theorem gh.below{w':V5}{p:Option Addr}{E:List Sp.Ed}(h:gh w p E)(hb:V4 w w'): gh w' p E:=λj e=>by
 obtain⟨g,a,b,l,m,r⟩:=h j e;have:=hb.size;exact⟨g,a,by omega,(hb.cell (p:=⟨g,_,U⟩) b).trans l,(hb.cell (p:=⟨g,_,U⟩) b).trans m,(hb.cell (p:=⟨g,_,U⟩) b).trans r⟩
theorem IH(E:List Sp.Ed):∀(k:Nat) (h:k<Wn E),(dq E)[k*3]?=S (Z Y (E[k].dp:Int))/\(dq E)[k*3+1]?=S (Z Y (E[k].cS:Int))/\(dq E)[k*3+2]?=S (Z Y E[k].n):=by
 induction E with
 |nil=>intro k h;simp at h
 |cons l E b =>
  intro k h;cases k with
  |zero=>exact⟨rfl,rfl,rfl⟩
  |succ k =>
   have:=b k (by simpa using h);have e:dq (l::E)=[Z Y (l.dp:Int),Z Y (l.cS:Int),Z Y l.n]++dq E:=rfl;have j:(k+1)*3=k*3+3:=by omega
   rw[e,j];simp only[TZ,Ul,List.getElem_cons_succ];exact this
theorem l6{B e:Nat}{v:V6}{E:List Sp.Ed}(h:w.ownsRow B e 3 v (Wn E) (dq E)): ∃p b,v=J p (Wn E) b/\gh w p E:=by
 obtain⟨p,b,u,m⟩:=dm h;refine⟨p,b,u,λk y=>?_⟩;obtain⟨z,A,C⟩:=IH E k y;obtain⟨g,r,_,F,G⟩:=m (k*3) (by omega);obtain⟨I,j,_,_,K⟩:=m (k*3+1) (by omega);obtain⟨L,l,_,_,M⟩:=m (k*3+2) (by omega);have P:I=g:=by rw[r] at j;injection j with q;injection q with q;exact q.symm
 have Q:L=g:=by rw[r] at l;injection l with q;injection q with q;exact q.symm
 subst P Q;exact⟨_,r,F,G.trans z,K.trans A,M.trans C⟩
end
namespace Sp
open Go
def rq(x:V8):Option (Option Ln):=if x.size=0 then S U else (oT x).map S
def eo:List V8->Nat->List (Option Ln)->Except Nat (List (Option Ln))
 |[],_,P=>.ok P
 |x::r,k,P=>match rq x with
  |none=>.error k
  |some p=>eo r (k+1) (P++[p])
variable {k:Nat}{ls:List V8}
theorem Pb(h:Wn ls<=k)(P:List (Option Ln)): eo (ls.drop k) k P=.ok P:=by
 rw[UP h];rfl
theorem L7(h:k<Wn ls)(P:List (Option Ln))(he:rq ls[k]=U): eo (ls.drop k) k P=.error k:=by
 rw[TW h];simp only[eo,he]
theorem LN(h:k<Wn ls)(P:List (Option Ln)){p:Option Ln}(he:rq ls[k]=S p): eo (ls.drop k) k P=eo (ls.drop (k+1)) (k+1) (P++[p]):=by
 rw[TW h];simp only[eo,he]
def dH(P:List (Option Ln)):List Ln:=P.filterMap id
def dT:List (Option Ln)->Nat->List Nat
 |[],_=>[]
 |none::r,k=>dT r (k+1)
 |some _::r,k=>k::dT r (k+1)
theorem oH(P Q:List (Option Ln)):∀k,dT (P++Q) k=dT P k++dT Q (k+Wn P):=by
 induction P with
 |nil=>intro k;simp[dT]
 |cons p t b =>
  intro k;cases p with
  |none=>simp[dT,b,Nat.add_comm,Nat.add_left_comm]
  |some l=>simp[dT,b,Nat.add_comm,Nat.add_left_comm]
theorem QL:∀(ls:List V8) (P:List (Option Ln)),oM ls (Wn P) (dH P) (dT P 0)=match eo ls (Wn P) P with
  |.error k=>.error (3,(k:Int))
  |.ok Q=>.ok (dH Q,dT Q 0):=by
 intro ls
 induction ls with
 |nil=>intro P;rfl
 |cons x r j =>
  intro P;by_cases b:x.size=0
  .have e:rq x=S U:=Tg b;simp only[oM,eo,e,b,TY];have:=j (P++[U]);simpa [dH,oH,dT] using this
  .cases hl:oT x with
   |none =>
    have e:rq x=U:=by unfold rq;rw[Tf b,hl];rfl
    simp only[oM,eo,e,b,Ux,hl]
   |some l =>
    have e:rq x=S (S l):=by unfold rq;rw[Tf b,hl];rfl
    simp only[oM,eo,e,b,Ux,hl];have:=j (P++[S l]);simpa [dH,oH,dT] using this
theorem Cl(ls:List V8):oM ls 0 [] []=match eo ls 0 [] with
  |.error k=>.error (3,(k:Int))
  |.ok Q=>.ok (dH Q,dT Q 0):=QL ls []
theorem PN:∀(ls:List V8) (k:Nat) (P Q:List (Option Ln)),eo ls k P=.ok Q->Wn Q=Wn P+Wn ls:=by
 intro ls
 induction ls with
 |nil=>intro k P Q h;simp[eo] at h;subst h;simp
 |cons x r b =>
  intro k P Q h;simp only[eo] at h;split at h
  .cases h
  .have:=b _ _ _ h;simp at this ⊢;omega
theorem AY{x:V8}:rs x 0=[]↔x.size=0:=by
 constructor
 .intro h;apply VU;intro b;rw[lP (by omega)] at h;cases h
 .intro h;exact mw (by omega)
def pk(p:Option Ln):Int:=match p with | none=>0 | some l=>if l.jz=We then 2 else 1
def pa(p:Option Ln):Int:=match p with | none=>0 | some l=>l.dp
def pb(p:Option Ln):Int:=match p with | none=>0 | some l=>if l.jz=We then l.cS else 0
def pn(p:Option Ln):Int:=match p with | none=>0 | some l=>l.n
end Sp
namespace Sp
open Go
abbrev Tb:=List (Int × Int)
def dv(T:Tb)(a:Int):Nat:=(T.filter λp=>decide (p.1<a)).length
def dD(T:Tb)(a:Int):Bool:=T.any λp=>p.1 == a
def dj(T:Tb):Prop:=T.Pairwise λp q=>p.1<q.1
def gJ(T:Tb)(a v:Int):Tb:=T.take (dv T a)++(a,v)::T.drop (dv T a)
theorem lW(T:Tb)(a:Int):dv T a<=Wn T:=VV _ _
theorem iq(A B:Tb)(a:Int)(e:∀p∈A,p.1<a)(j:∀p∈B,a<=p.1):dv (A++B) a=Wn A:=by
 unfold dv;rw[UQ,VL.2 (λp b=>TU (e p b)),VM.2 (λp b=>by simp;exact j p b)];simp
variable {T:Tb}{i:Nat}
theorem jM{a:Int}(hi:i<=Wn T)(h1:∀j (h:j<Wn T),j<i->(T[j]).1<a)(h2:∀j (h:j<Wn T),i<=j->a<=(T[j]).1): dv T a=i:=by
 have e:=Un i T;rw[<-e,iq]
 .simp;omega
 .intro p b;obtain⟨j,l,rfl⟩:=T5.1 b;simp at l ⊢;exact h1 j (by omega) (by omega)
 .intro p b;obtain⟨j,l,rfl⟩:=T5.1 b;simp at l ⊢;exact h2 (i+j) (by omega) (by omega)
theorem eA(h:dj T){j:Nat}(b:i<j)(e:j<Wn T): (T[i]'(by omega)).1<(T[j]).1:=VY.1 h i j (by omega) e b
theorem fg(h:dj T){j:Nat}(b:i<=j)(e:j<Wn T): (T[i]'(by omega)).1<=(T[j]).1:=by
 rcases VG b with l|rfl
 .exact Int.le_of_lt (eA h l e)
 .exact Int.le_refl _
theorem kZ(h:dj T)(a:Int): (∀j (l:j<Wn T),j<dv T a↔(T[j]).1<a):=by
 induction T with
 |nil=>intro j l;simp at l
 |cons p t y =>
  have z:dj t:=(Um.1 h).2;have u:=(Um.1 h).1;intro j l;by_cases b:p.1<a
  .have e:dv (p::t) a=dv t a+1:=by unfold dv;rw[U7,Tg (TU b)];rfl
   rw[e];cases j with
   |zero=>simp[b]
   |succ j=>simpa using y z j (by simpa using l)
  .have e:dv (p::t) a=0:=by
    have:=iq [] (p::t) a (by simp) (by
     intro q m;rcases TO.1 m with rfl|m
     .omega
     .have:=u q m;omega)
    simpa using this
   rw[e];constructor
   .intro r;omega
   .intro r;exfalso;cases j with
    |zero=>exact b r
    |succ j=>have:=u (t[j]'(by simpa using l)) (Uc _);simp at r;omega
theorem iV(h:dj T)(a:Int): dD T a=We↔∃l:dv T a<Wn T,(T[dv T a]).1=a:=by
 constructor
 .intro r;obtain⟨p,u,e⟩:=UL.1 r;obtain⟨j,l,rfl⟩:=T5.1 u;have e:(T[j]).1=a:=by simpa using e
  have m:dv T a=j:=jM (by omega) (λi hi b=>by have:=eA h b l;omega) (λi hi b=>by have:=fg h b hi;omega);rw[m];exact⟨l,e⟩
 .rintro⟨l,e⟩;exact UL.2 ⟨T[dv T a],Uc _,by simpa using e⟩
theorem iw(h:dj T){a v:Int}(u:dD T a=Wg): dj (gJ T a v):=by
 have y:=kZ h a;unfold gJ dj;rw[Vt];refine⟨h.sublist (List.take_sublist _ _),Um.2 ⟨?_,h.sublist (List.drop_sublist _ _)⟩,?_⟩
 .intro q b;obtain⟨j,m,rfl⟩:=T5.1 b;simp at m ⊢;have r:=not_congr (y (dv T a+j) (by omega));have A:¬(T[dv T a+j]).1=a:=by
   intro e;have:dD T a=We:=UL.2 ⟨T[dv T a+j],Uc _,by simpa using e⟩;rw[this] at u;cases u
  have B:=r.1 (by omega);omega
 .intro p z q b;obtain⟨i,hi,rfl⟩:=T5.1 z;have l:i<dv T a/\i<Wn T:=by rw[Uz] at hi;omega
  have r:=(y i l.2).1 l.1;rcases TO.1 b with rfl|b
  .simpa using r
  .obtain⟨j,m,rfl⟩:=T5.1 b;simp at m ⊢;exact eA h (by omega) (by omega)
theorem iN(T:Tb)(a v:Int):(gJ T a v).length=Wn T+1:=by
 have:=lW T a;simp[gJ];omega
end Sp
theorem eC{P:Program}(w:V5)(C G I elem:TypeId)(z g o e m:Nat)(a:Addr)(l r:Nat)(b:Array V6)(t:TypeId)(cs:List V6)(hu:P.underlying C=S (.slice elem))(F:(P.info? elem).map (·.size)=S z)(K:w.heap[g]?=S (.cells b t (0,0)))(k:Nat)(L:Nat.min l e=k)(M:Wn cs=k*z)(u:∀j v,cs[j]?=S v->w.cell? (a.add j)=S v)(y:o+Wn cs<=b.size)(h1:∀v∈cs,v.oneCell'=We):(Builtin.copy_ #[C,G] I #[J (S ⟨g,o,U⟩) e m,J (S a) l r]).run P w =
   .ok (goInt k) (w.setRow g (b.toList.take o++cs++b.toList.drop (o+Wn cs)).toArray):=by
 have Q:=run_loadCells_list (P:=P) w a cs u;have A:=run_storeCells_at P g o t cs 0 b w K (by simpa using y) h1;cases B:P.info? elem with
 |none=>simp[B] at F
 |some i =>
  have hi:i.size=z:=by simpa [B] using F
  simp[Builtin.copy_,run_underlying hu,Builtin.lenOf,Builtin.firstCells,sizeOf,typeInfo,B,hi,L,<-M,Q,A]
namespace Sp
open Go
def gv:List (Option Ln)->Nat->Tb->Except Nat Tb
 |[],_,T=>.ok T
 |none::r,k,T=>gv r (k+1) T
 |some l::r,k,T=>if l.jz=We then gv r (k+1) T else if dD T l.dp=We then .error k else gv r (k+1) (gJ T l.dp l.n)
variable {P:List (Option Ln)}{k:Nat}
theorem Qm(h:Wn P<=k)(T:Tb): gv (P.drop k) k T=.ok T:=by
 rw[UP h];rfl
theorem MO(h:k<Wn P)(T:Tb)(he:¬pk P[k]=1): gv (P.drop k) k T=gv (P.drop (k+1)) (k+1) T:=by
 rw[TW h];cases b:P[k] with
 |none=>rfl
 |some l =>
  rw[b] at he;have:l.jz=We:=by
   cases e:l.jz with
   |true=>rfl
   |false=>exact absurd (by simp[pk,e]) he
  simp only[gv,this,TY]
theorem JE{p:Option Ln}(h:pk p=1):∃l,p=S l/\l.jz=Wg/\pa p=l.dp/\pn p=l.n:=by
 cases p with
 |none=>simp[pk] at h
 |some l =>
  cases b:l.jz with
  |true=>simp[pk,b] at h
  |false=>exact⟨l,rfl,b,rfl,rfl⟩
theorem Kl{p:Option Ln}(h:pk p=2):∃l,p=S l/\l.jz=We/\pa p=l.dp/\pb p=l.cS/\pn p=l.n:=by
 cases p with
 |none=>simp[pk] at h
 |some l =>
  cases b:l.jz with
  |false=>simp[pk,b] at h
  |true=>exact⟨l,rfl,b,rfl,by simp[pb,b],rfl⟩
theorem H4(h:k<Wn P)(T:Tb)(he:pk P[k]=1)(ht:dD T (pa P[k])=We): gv (P.drop k) k T=.error k:=by
 rw[TW h];obtain⟨l,b,e,j,m⟩:=JE he;rw[j] at ht;rw[b];simp only[gv,e,ht];rfl
theorem PZ(h:k<Wn P)(T:Tb)(he:pk P[k]=1)(ht:dD T (pa P[k])=Wg): gv (P.drop k) k T=gv (P.drop (k+1)) (k+1) (gJ T (pa P[k]) (pn P[k])):=by
 rw[TW h];obtain⟨l,e,j,b,m⟩:=JE he;rw[b,m];rw[b] at ht;rw[e];simp only[gv,j,ht];rfl
def ge(T:Tb):List (Option Ln)->Nat->List Ed->Except Nat (List Ed)
 |[],_,b=>.ok b
 |none::r,k,b=>ge T r (k+1) b
 |some l::r,k,b=>if l.jz=We then (if dD T l.dp=We/\dD T l.cS=We then ge T r (k+1) (b++[⟨dv T l.dp,dv T l.cS,l.n⟩]) else .error k) else ge T r (k+1) b
variable {T:Tb}
theorem O8(h:Wn P<=k)(E:List Ed): ge T (P.drop k) k E=.ok E:=by
 rw[UP h];rfl
theorem Nj(h:k<Wn P)(E:List Ed)(he:¬pk P[k]=2): ge T (P.drop k) k E=ge T (P.drop (k+1)) (k+1) E:=by
 rw[TW h];cases b:P[k] with
 |none=>rfl
 |some l =>
  rw[b] at he;have:l.jz=Wg:=by
   cases e:l.jz with
   |false=>rfl
   |true=>exact absurd (by simp[pk,e]) he
  simp only[ge,this];rfl
theorem Kk(h:k<Wn P)(E:List Ed)(he:pk P[k]=2)(ht:¬(dD T (pa P[k])=We/\dD T (pb P[k])=We)): ge T (P.drop k) k E=.error k:=by
 rw[TW h];obtain⟨l,b,e,j,m,r⟩:=Kl he;rw[j,m] at ht;rw[b];simp only[ge,e,ht,TY,Ux]
theorem Pn(h:k<Wn P)(E:List Ed)(he:pk P[k]=2)(ha:dD T (pa P[k])=We)(hb:dD T (pb P[k])=We): ge T (P.drop k) k E=ge T (P.drop (k+1)) (k+1) (E++[⟨dv T (pa P[k]),dv T (pb P[k]),pn P[k]⟩]):=by
 rw[TW h];obtain⟨l,j,m,b,e,r⟩:=Kl he;rw[b] at ha;rw[e] at hb;rw[b,e,r,j];simp only[ge,m,ha,hb,and_self,TY]
end Sp
end Go.Proofs.YtgkkdpegcieakaaGreatDoor
