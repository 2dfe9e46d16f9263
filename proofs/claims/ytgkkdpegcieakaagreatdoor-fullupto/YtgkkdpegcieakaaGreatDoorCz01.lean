import Derived.Test.YtgkkdpegcieakaaGreatDoorCzL
import Derived.Test.YtgkkdpegcieakaaGreatDoorCzShelf
set_option linter.unusedVariables false
set_option linter.unusedSimpArgs false
set_option maxRecDepth 100000
set_option maxHeartbeats 16000000
namespace Go.Proofs.YtgkkdpegcieakaaGreatDoor
open Go.Proofs.Tryz
open Value renaming int→Z
open IntKind renaming i64→Y
open Go renaming World→TJ,Value→TK,Calls→TL
namespace Sp
open Go
def bt(s:TM)(i:Nat):Nat:=(s.get! i).toNat
theorem jh(s:TM)(i:Nat):bt s i<256:=(s.get! i).toNat_lt
theorem jP(s:TM)(i:Nat)(h:i<s.size):(s[i]'h).toNat=bt s i:=by
 unfold bt;cases s with | mk d =>
 show _=(d[i]!).toNat
 rw[getElem!_pos d i h];rfl
def yu(s:TM)(i:Nat):Int × Int:=if Utf8.decode s i=(65533,1) then (0,0) else (((Utf8.decode s i).1:Int),((Utf8.decode s i).2:Int))
theorem dec(s:TM)(i:Nat):Utf8.decode s i=Lib.decodeN (s.size-i) (bt s i) (bt s (i+1)) (bt s (i+2)) (bt s (i+3)):=Lib.decode_at s i
end Sp
namespace Sp
open Go
theorem FJ(s:TM)(k:Nat)(h:k<s.size):s.data.toList.take (k+1)=s.data.toList.take k++[s[k]]:=by
 rw[zQ (by simpa using h)];rfl
theorem GF(s:TM)(k:Nat)(h:s.size<=k):s.data.toList.take k=s.data.toList:=zS (by simpa using h)
def fD(o:Option Int)(c:UInt8):Option Int:=match o with
 |none=>none
 |some n=>if (c.toNat:Int)<48\/57<(c.toNat:Int)\/1000000000<10*n+((c.toNat:Int)-48) then none else some (10*n+((c.toNat:Int)-48))
def nz(l:List UInt8):Option Int:=l.foldl fD (some 0)
theorem wY(l:List UInt8)(c:UInt8):nz (l++[c])=fD (nz l) c:=by simp[nz,List.foldl_append]
theorem uS(l:List UInt8):l.foldl fD none=none:=by
 induction l with
 |nil=>rfl
 |cons c l b=>exact b
variable {l:List UInt8}
theorem wJ(r:List UInt8)(h:nz l=none): nz (l++r)=none:=by
 simp only[nz,List.foldl_append] at h ⊢;rw[h];exact uS r
variable {s:TM}
theorem jM{k:Nat}(h:nz (s.data.toList.take k)=none): nz s.data.toList=none:=by
 have:=wJ (s.data.toList.drop k) h;rwa [r4] at this
theorem zj{n:Int}(h:nz l=some n): 0<=n/\n<=1000000000:=by
 rcases SX l with rfl|⟨r,c,rfl⟩
 .simp[nz] at h;omega
 .rw[S4,wY] at h;have aux:∀o:Option Int,fD o c=some n->(∀m,o=some m->0<=m)->0<=n/\n<=1000000000:=by
   intro o e b;cases o with
   |none=>simp[fD] at e
   |some m =>
    have:=b m rfl;simp only[fD] at e;split at e
    .cases e
    .injection e with e;subst e;rename_i z;omega
  refine aux _ h ?_;intro m b;have j:∀(l:List UInt8) (a:Int),0<=a->∀m,l.foldl fD (some a)=some m->0<=m:=by
   intro l
   induction l with
   |nil=>intro a u m b;simp at b;omega
   |cons c l y =>
    intro a u m b;simp only[List.foldl_cons,fD] at b;split at b
    .rw[uS] at b;cases b
    .exact y _ (by omega) m b
  exact j r 0 (by omega) m b
def digits(l:List UInt8):Option Int:=if l=[]\/l.head?=some 48 then none else nz l
def number(l:List UInt8):Option Int:=if l=[48] then some 0
 else if l.head?=some 45 then (digits l.tail).map (λn=>-n)
 else digits l
theorem xo{n:Int}(h:number l=some n): -1000000000<=n/\n<=1000000000:=by
 have hd:∀(l:List UInt8) (m:Int),digits l=some m->0<=m/\m<=1000000000:=by
  intro l m b;unfold digits at b;split at b
  .cases b
  .exact zj b
 unfold number at h;split at h
 .injection h with h;omega
 .split at h
  .cases e:digits l.tail with
   |none=>rw[e] at h;cases h
   |some m=>rw[e] at h;simp at h;have:=hd _ _ e;omega
  .have:=hd _ _ h;omega
def gq(s:TM):Nat->Nat->Option Nat
 |0,_=>none
 |f+1,i=>if i<s.size then (if Utf8.decode s i=(65533,1) then some i else gq s f (i+(Utf8.decode s i).2)) else none
def bad(s:TM):Option Nat:=gq s s.size 0
theorem iO{i:Nat}(hi:i<s.size): 1<=(Utf8.decode s i).2/\(Utf8.decode s i).2<=4/\i+(Utf8.decode s i).2<=s.size:=by
 rw[dec];unfold Lib.decodeN
 repeat' split
 all_goals (simp only;omega)
theorem Ag{i:Nat}(h:¬Utf8.decode s i=(65533,1)): yu s i=(((Utf8.decode s i).1:Int),((Utf8.decode s i).2:Int)):=cd h
end Sp
namespace Sp
open Go
def lS(s:TM)(c:Nat):Nat->Nat × List TM
 |0=>(0,[])
 |k+1=>if k=s.size\/bt s k=c then (k+1,(lS s c k).2++[s.extract (lS s c k).1 k]) else lS s c k
def split(s:TM)(c:Nat):List TM:=(lS s c (s.size+1)).2
theorem nu{s:TM}{c k:Nat}(h:k=s.size\/bt s k=c):lS s c (k+1)=(k+1,(lS s c k).2++[s.extract (lS s c k).1 k]):=cg h
theorem tX{s:TM}{c k:Nat}(h:¬(k=s.size\/bt s k=c)):lS s c (k+1)=lS s c k:=cd h
theorem zc(s:TM)(c:Nat)(k:Nat):(lS s c k).1<=k/\(lS s c k).2.length<=k:=by
 induction k with
 |zero=>simp[lS]
 |succ k b =>
  by_cases h:k=s.size\/bt s k=c
  .rw[nu h];simp;omega
  .rw[tX h];omega
end Sp
namespace Sp
open Go
def nm(s:TM)(i:Nat):Option (Int × Nat):=if i<s.size/\bt s i≠32/\bt s i≠62 then some ((yu s i).1,i+(yu s i).2.toNat) else none
structure Ln where
 iR:Bool
 de:Int
 vo:Int
 n:Int
def fin(s:TM)(e:Bool)(a b:Int)(j:Nat):Option Ln:=if j<s.size/\bt s j=32 then (number (s.extract (j+1) s.size).data.toList).map (λn=>⟨e,a,b,n⟩) else none
def oL(s:TM):Option Ln:=match nm s 0 with
 |none=>none
 |some (a,j) =>
  if j<s.size/\bt s j=62 then
   match nm s (j+1) with
   |none=>none
   |some (b,k)=>fin s true a b k
  else fin s false a 0 j
end Sp
namespace Sp
open Go
def oA:List TM->Nat->List Ln->List Nat->Except (Int × Int) (List Ln × List Nat)
 |[],_,L,A=>.ok (L,A)
 |x::r,k,L,A=>if x.size=0 then oA r (k+1) L A else
  match oL x with
  |none=>.error (3,(k:Int))
  |some l=>oA r (k+1) (L++[l]) (A++[k])
def oz(s:TM):Except (Int × Int) (List Ln × List Nat):=if 4000<s.size then .error (1,0) else
 match bad s with
 |some i=>.error (2,(i:Int))
 |none=>oA (split s 10) 0 [] []
theorem xq(s:TM)(c:Nat)(k:Nat):∀x∈(lS s c k).2,x.size<=s.size:=by
 induction k with
 |zero=>intro x b;simp[lS] at b
 |succ k e =>
  by_cases h:k=s.size\/bt s k=c
  .rw[nu h];intro x b;rcases cJ.1 b with b|b
   .exact e x b
   .rw[eh.1 b];simp;omega
  .rw[tX h];exact e
theorem Cx(s:TM)(c:Nat):∀x∈split s c,x.size<=s.size:=xq s c _
theorem jk(s:TM)(c:Nat):0<(split s c).length/\(split s c).length<=s.size+1:=by
 unfold split;refine⟨?_,(zc s c _).2⟩;rw[nu (Or.inl rfl)];simp
end Sp
namespace Sp
open Go
def QC(a:Int)(l:Ln):Bool := !l.iR&&l.de == a
def BC(L:List Ln)(n:Nat)(a:Int):Bool:=(L.take n).any (QC a)
def Mo(a:Int)(l:Ln):Bool := !l.iR&&decide (l.de<a)
def low(L:List Ln)(a:Int):Nat:=(L.filter (Mo a)).length
end Sp
namespace Sp
open Go
def first(p:Nat->Bool)(n:Nat):Option Nat:=(List.range n).find? p
theorem oa{p:Nat->Bool}{n k:Nat}(b:k<n)(h:∀j,j<k->p j=false)(e:p k=true):first p n=some k:=by
 unfold first
 rw[List.find?_range_eq_some];refine⟨e,KH.2 b,λj l=>?_⟩;simp[h j l]
theorem jg{p:Nat->Bool}{n:Nat}(h:∀j,j<n->p j=false):first p n=none:=by
 unfold first
 rw[List.find?_eq_none];intro j b;simp[h j (KH.1 b)]
def kL(L:List Ln)(i:Nat):Bool:=match L[i]? with
 |none=>false
 |some l=>!l.iR&&BC L i l.de
def loose(L:List Ln)(i:Nat):Bool:=match L[i]? with
 |none=>false
 |some l=>l.iR && !(BC L L.length l.de&&BC L L.length l.vo)
def oY(L:List Ln):Nat:=(L.filter (λl=>l.iR)).length
def gQ(L:List Ln)(A:List Nat):Int × Int:=match first (kL L) L.length with
 |some i=>(4,(A.getD i 0:Nat))
 |none=>match first (loose L) L.length with
  |some i=>(5,(A.getD i 0:Nat))
  |none=>if 256<oY L\/64<L.length-oY L then (6,0) else (0,0)
end Sp
namespace Sp
open Go
def Pm(L:List Ln)(k:Nat)(l:Ln):Bool := !l.iR&&low L l.de == k
def PW(L:List Ln)(k i:Nat):List Ln:=(L.take i).filter (Pm L k)
def vs(L:List Ln):Nat->List Ln
 |0=>[]
 |k+1=>vs L k++PW L k L.length
def OI(L:List Ln)(a b:Nat)(l:Ln):Bool:=l.iR&&(low L l.de == a&&low L l.vo == b)
structure Ed where
 de:Nat
 vo:Nat
 n:Int
def PF(L:List Ln)(a b i:Nat):List Ed:=((L.take i).filter (OI L a b)).map λl=>⟨a,b,l.n⟩
def E9(L:List Ln)(a:Nat):Nat->List Ed
 |0=>[]
 |b+1=>E9 L a b++PF L a b L.length
def es(L:List Ln)(n:Nat):Nat->List Ed
 |0=>[]
 |a+1=>es L n a++E9 L a n
def nv(L:List Ln):Nat:=L.length-oY L
def dD(s:TM):Except (Int × Int) (List Ln):=match oz s with
 |.error e=>.error e
 |.ok (L,A)=>if (gQ L A).1=0 then .ok L else .error (gQ L A)
end Sp
namespace Sp
open Go
theorem M1(s:TM)(i:Nat):(Utf8.decode s i).1<=1114111:=by
 have b:=jh s i;have e:=jh s (i+1);have j:=jh s (i+2);rw[dec];unfold Lib.decodeN
 repeat' split
 all_goals (simp only;omega)
end Sp
namespace Sp
open Go
def nX(s:TM)(i n:Nat):List UInt8:=(s.data.toList.drop i).take n
theorem Ig(s:TM)(i:Nat)(h:i<s.size):s.data.toList[i]'(by simpa using h)=UInt8.ofNat (bt s i):=by
 have:=jP s i h;apply UInt8.toNat_inj.1;rw[show (s.data.toList[i]'(by simpa using h))=s[i]'h from rfl,this];have:=jh s i;simp;omega
theorem fi(s:TM)(i n:Nat)(h:i<s.size):nX s i (n+1)=UInt8.ofNat (bt s i)::nX s (i+1) n:=by
 unfold nX;rw[kp (by simpa using h),Gk,Ig s i h]
theorem lR(s:TM)(i:Nat):nX s i 0=[]:=by simp[nX]
variable {s:TM}{i:Nat}
theorem LJ(hi:i<s.size)(j:¬Utf8.decode s i=(65533,1)): (Utf8.encode ((Utf8.decode s i).1:Int)).data.toList=nX s i (Utf8.decode s i).2:=by
 have B:=jh s i;have C:=jh s (i+1);have D:=jh s (i+2);have E:=jh s (i+3);rw[dec] at j ⊢;have l:i+1+1=i+2:=by omega
 have F:i+2+1=i+3:=by omega
 rcases Lib.decodeN_shape (s.size-i) (bt s i) (bt s (i+1)) (bt s (i+2)) (bt s (i+3)) with ⟨c,e⟩|⟨m,u,y,z,e⟩|⟨m,u,y,G,z,H,e⟩|⟨m,u,y,G,I,z,J,e⟩|e
 .rw[e,fi _ _ _ hi,lR];have b:Utf8.valid ((bt s i:Nat):Int)=true:=by rw[validRune_eq];unfold validRune;exact kH (by omega)
  simp only[Utf8.encode,b,l9,Qq,c]
 .rw[e,fi _ _ _ hi,fi _ _ _ (by omega),lR];generalize A:bt s i%32*64+bt s (i+1)%64=r at *;have b:Utf8.valid ((r:Nat):Int)=true:=by rw[validRune_eq];unfold validRune;exact kH (by omega)
  simp only[Utf8.encode,b,l9,Qq];rw[cd (by omega),cg (by omega)];simp only;rw[show (192+r/64)=bt s i from by omega,show (128+r%64)=bt s (i+1) from by omega]
 .rw[e,fi _ _ _ hi,fi _ _ _ (by omega),fi _ _ _ (by omega),lR,l];generalize A:bt s i%16*4096+bt s (i+1)%64*64+bt s (i+2)%64=r at *;have b:Utf8.valid ((r:Nat):Int)=true:=by rw[validRune_eq];unfold validRune;exact kH (by omega)
  simp only[Utf8.encode,b,l9,Qq];rw[cd (by omega),cd (by omega),cg (by omega)];simp only;rw[show (224+r/4096)=bt s i from by omega,show (128+r/64%64)=bt s (i+1) from by omega,show (128+r%64)=bt s (i+2) from by omega]
 .rw[e,fi _ _ _ hi,fi _ _ _ (by omega),fi _ _ _ (by omega),l,fi _ _ _ (by omega),lR,F];generalize A:bt s i%8*262144+bt s (i+1)%64*4096+bt s (i+2)%64*64+bt s (i+3)%64=r at *;have b:Utf8.valid ((r:Nat):Int)=true:=by rw[validRune_eq];unfold validRune;exact kH (by omega)
  simp only[Utf8.encode,b,l9,Qq];rw[cd (by omega),cd (by omega),cd (by omega)];simp only;rw[show (240+r/262144)=bt s i from by omega,show (128+r/4096%64)=bt s (i+1) from by omega,show (128+r/64%64)=bt s (i+2) from by omega,show (128+r%64)=bt s (i+3) from by omega]
 .exact absurd e j
def V(s:TM)(i:Nat):Prop := ∀f,gq s f i=none
theorem Kc(s:TM):∀(f g i:Nat),s.size-i<=f->gq s f i=none->gq s g i=none:=by
 intro f
 induction f with
 |zero =>
  intro g i b _;cases g with
  |zero=>rfl
  |succ g=>simp only[gq];rw[cd (by omega)]
 |succ f e =>
  intro g i b h;cases g with
  |zero=>rfl
  |succ g =>
   simp only[gq] at h ⊢;by_cases hi:i<s.size
   .rw[cg hi] at h ⊢;by_cases hd:Utf8.decode s i=(65533,1)
    .rw[cg hd] at h;cases h
    .rw[cd hd] at h ⊢;have:=iO hi;exact e g _ (by omega) h
   .rw[cd hi]
theorem nE(h:bad s=none): V s 0:=λf=>Kc s s.size f 0 (by omega) h
theorem qd(h:V s i)(hi:i<s.size): ¬Utf8.decode s i=(65533,1)/\V s (i+(Utf8.decode s i).2):=by
 have b:=h 1;simp only[gq,cg hi] at b;have hd:¬Utf8.decode s i=(65533,1):=λe=>by rw[cg e] at b;cases b
 refine⟨hd,λf=>?_⟩;have j:=h (f+1);simp only[gq,cg hi,cd hd] at j;exact j
theorem Mz(hi:s.size<=i): V s i:=λf=>by
 cases f with
 |zero=>rfl
 |succ f=>simp only[gq];rw[cd (by omega)]
theorem Ay{j:Nat}(hi:i<s.size)(C:i<j)(b:j<i+(Utf8.decode s i).2): 128<=bt s j/\bt s j<192:=by
 have y:=jh s (i+1);have z:=jh s (i+2);have A:=jh s (i+3);rw[dec] at b;rcases Lib.decodeN_shape (s.size-i) (bt s i) (bt s (i+1)) (bt s (i+2)) (bt s (i+3)) with ⟨c,e⟩|⟨l,m,r,u,e⟩|⟨l,m,r,B,u,D,e⟩|⟨l,m,r,B,E,u,F,e⟩|e
 .rw[e] at b;simp only at b;omega
 .rw[e] at b;simp only at b;obtain rfl:j=i+1:=by omega
  omega
 .rw[e] at b;simp only at b;obtain rfl|rfl:j=i+1\/j=i+2:=by omega
  .omega
  .omega
 .rw[e] at b;simp only at b;obtain rfl|rfl|rfl:j=i+1\/j=i+2\/j=i+3:=by omega
  .omega
  .omega
  .omega
 .rw[e] at b;simp only at b;omega
theorem QR: ∀(n i j:Nat),j-i<=n->V s i->i<=j->j<s.size->bt s j<128->V s j:=by
 intro n
 induction n with
 |zero=>intro i j l h b _ _;obtain rfl:i=j:=(by omega);exact h
 |succ n m =>
  intro i j l h b r u;by_cases e:i=j
  .rw[<-e];exact h
  .have hi:i<s.size:=by omega
   obtain⟨_,y⟩:=qd h hi;have z:=iO hi;refine m _ j (by omega) y ?_ r u;apply Ty;intro A;have:=Ay hi (j:=j) (by omega) (by omega);omega
end Sp
namespace Sp
open Go
def rl(s:TM):Nat->Nat->List Int
 |0,_=>[]
 |f+1,i=>if i<s.size then ((Utf8.decode s i).1:Int)::rl s f (i+(Utf8.decode s i).2) else []
def rs(s:TM)(i:Nat):List Int:=rl s (s.size-i) i
theorem DH(s:TM):∀(f g i:Nat),s.size-i<=f->s.size-i<=g->rl s f i=rl s g i:=by
 intro f
 induction f with
 |zero =>
  intro g i b e;cases g with
  |zero=>rfl
  |succ g=>simp only[rl];rw[cd (by omega)]
 |succ f j =>
  intro g i b e;by_cases hi:i<s.size
  .cases g with
   |zero=>omega
   |succ g =>
    have:=iO hi;simp only[rl,cg hi];rw[j g _ (by omega) (by omega)]
  .cases g with
   |zero=>simp only[rl];rw[cd hi]
   |succ g=>simp only[rl];rw[cd hi,cd hi]
variable {s:TM}{i:Nat}
theorem mw(h:s.size<=i): rs s i=[]:=by
 unfold rs;rw[show s.size-i=0 from by omega];rfl
theorem lU(h:i<s.size): rs s i=((Utf8.decode s i).1:Int)::rs s (i+(Utf8.decode s i).2):=by
 unfold rs;have:=iO h;rw[DH s (s.size-i) (s.size-i+1) i (by omega) (by omega)];simp only[rl,cg h];rw[DH s _ (s.size-(i+(Utf8.decode s i).2)) _ (by omega) (by omega)]
theorem zx(s:TM):∀(f i:Nat) (acc:Array TK),Conv.runesFrom s f i acc=acc++((rl s f i).map (Z .i32)).toArray:=by
 intro f
 induction f with
 |zero=>intro i acc;simp[Conv.runesFrom,rl]
 |succ f b =>
  intro i acc;simp only[Conv.runesFrom,rl];by_cases h:i<s.size
  .rw[cg h,cg h,b];apply Array.ext';simp
  .rw[cd h,cd h];simp
theorem JA(s:TM):Conv.runesFrom s s.size 0 #[]=((rs s 0).map (Z .i32)).toArray:=by
 rw[zx];simp[rs]
theorem IH(s:TM):∀(n i:Nat),s.size-i<=n->(rs s i).length<=s.size-i:=by
 intro n
 induction n with
 |zero=>intro i h;rw[mw (by omega)];simp
 |succ n b =>
  intro i h;by_cases hi:i<s.size
  .have:=iO hi;rw[lU hi];have:=b (i+(Utf8.decode s i).2) (by omega);simp only[cD];omega
  .rw[mw (by omega)];simp
theorem Pq(s:TM):∀(n i:Nat),s.size-i<=n->∀r∈rs s i,0<=r/\r<=1114111:=by
 intro n
 induction n with
 |zero=>intro i h r b;rw[mw (by omega)] at b;cases b
 |succ n e =>
  intro i h r b;by_cases hi:i<s.size
  .have:=iO hi;have j:=M1 s i;rw[lU hi] at b;rcases ic.1 b with rfl|b
   .omega
   .exact e _ (by omega) r b
  .rw[mw (by omega)] at b;cases b
theorem EP(b:List Int):∀a:TM,(b.foldl (λr n=>r++Utf8.encode n) a).data.toList=a.data.toList++(b.foldl (λr n=>r++Utf8.encode n) ByteArray.empty).data.toList:=by
 induction b with
 |nil=>intro a;simp
 |cons n b e =>
  intro a;simp only[List.foldl_cons];rw[e (a++Utf8.encode n),e (ByteArray.empty++Utf8.encode n)];simp[G3]
theorem vC(n:Int)(b:List Int):(runesBytes (n::b)).data.toList=(Utf8.encode n).data.toList++(runesBytes b).data.toList:=by
 unfold runesBytes;simp only[List.foldl_cons];rw[EP b (ByteArray.empty++Utf8.encode n)];simp[G3]
theorem zY: ∀(n i:Nat),s.size-i<=n->V s i->(runesBytes (rs s i)).data.toList=s.data.toList.drop i:=by
 intro n
 induction n with
 |zero =>
  intro i h _;rw[mw (by omega),Dl (by simp;have:s.data.size=s.size:=rfl;omega)];rfl
 |succ n e =>
  intro i h j;by_cases hi:i<s.size
  .obtain⟨hd,b⟩:=qd j hi;have l:=iO hi;rw[lU hi,vC,e _ (by omega) b,LJ hi hd];unfold nX;rw[<-List.drop_drop,r4]
  .rw[mw (by omega),Dl (by simp;have:s.data.size=s.size:=rfl;omega)];rfl
theorem extract_drop(s:TM)(i:Nat):(s.extract i s.size).data.toList=s.data.toList.drop i:=by
 rw[ByteArray.data_extract,Array.toList_extract]
 show (s.data.toList.drop i).take (s.data.size-i)=_
 rw[zS (by simp)]
theorem C8(c:Nat)(m:c<128)(hi:i<s.size): ((Utf8.decode s i).1:Int)=c↔bt s i=c:=by
 have b:=jh s i;have j:=jh s (i+1);rw[dec];rcases Lib.decodeN_shape (s.size-i) (bt s i) (bt s (i+1)) (bt s (i+2)) (bt s (i+3)) with ⟨_,e⟩|⟨_,_,_,_,e⟩|⟨_,_,_,_,_,_,e⟩|⟨_,_,_,_,_,_,_,e⟩|e
 .rw[e];simp only;omega
 .rw[e];simp only;omega
 .rw[e];simp only;omega
 .rw[e];simp only;omega
 .rw[e];simp only;constructor
  .intro h;omega
  .intro h;have l:bt s i<128:=by omega
   unfold Lib.decodeN at e;rw[cg l] at e;have:=congrArg Prod.fst e;simp only at this;omega
theorem G9(hi:i<s.size): ((Utf8.decode s i).1:Int)=32↔bt s i=32:=by
 have:=C8 (s:=s) (i:=i) 32 (by omega) hi;omega
theorem MF(hi:i<s.size): ((Utf8.decode s i).1:Int)=62↔bt s i=62:=by
 have:=C8 (s:=s) (i:=i) 62 (by omega) hi;omega
theorem Mv(m:V s i)(hi:i<s.size): nm s i=if ((Utf8.decode s i).1:Int)=32\/((Utf8.decode s i).1:Int)=62 then none else some (((Utf8.decode s i).1:Int),i+(Utf8.decode s i).2):=by
 have j:=G9 hi;have l:=MF hi;have r:=Ag (qd m hi).1;unfold nm;by_cases h:((Utf8.decode s i).1:Int)=32\/((Utf8.decode s i).1:Int)=62
 .rw[cg h,cd];rintro⟨_,a,b⟩;rcases h with h|h
  .exact a (j.1 h)
  .exact b (l.1 h)
 .rw[cd h,cg ⟨hi,λe=>h (Or.inl (j.2 e)),λe=>h (Or.inr (l.2 e))⟩,r];simp
def numOf(t:List Int):Option Int:=number (runesBytes t).data.toList
def lJ(r:List Int):Option Ln:=match r with
 |a::b::t =>
  if a=32\/a=62 then none
  else if b=32 then (numOf t).map λn=>⟨false,a,0,n⟩
  else if b=62 then
   match t with
   |c::d::u=>if c=32\/c=62 then none else if d=32 then (numOf u).map λn=>⟨true,a,c,n⟩ else none
   |_=>none
  else none
 |_=>none
theorem Cu{e:Bool}{a b:Int}{j:Nat}(y:V s j): fin s e a b j=match rs s j with
  |d::u=>if d=32 then (numOf u).map λn=>⟨e,a,b,n⟩ else none
  |[]=>none:=by
 unfold fin;by_cases l:j<s.size
 .rw[lU l];simp only;have m:=G9 l;by_cases h:bt s j=32
  .rw[cg ⟨l,h⟩,cg (m.2 h)];have z:(Utf8.decode s j).2=1:=by
    rw[dec];unfold Lib.decodeN;rw[cg (by omega)]
   obtain⟨_,r⟩:=qd y l;rw[z] at r ⊢;unfold numOf;rw[zY _ _ TG r,extract_drop]
  .rw[cd (λx=>h x.2),cd (λx=>h (m.1 x))]
 .rw[cd (λx=>l x.1),mw (by omega)]
theorem Ll(I:V s 0): oL s=lJ (rs s 0):=by
 unfold oL;by_cases C:0<s.size
 .rw[Mv I C,lU C];obtain⟨_,m⟩:=qd I C;rw[eW] at m ⊢;generalize ((Utf8.decode s 0).1:Int)=a;generalize (Utf8.decode s 0).2=j at m;by_cases z:a=32\/a=62
  .rw[cg z];cases L:rs s j with
   |nil=>rfl
   |cons b t=>simp only[lJ,cg z]
  .rw[cd z];simp only;by_cases r:j<s.size
   .have J:=G9 r;have A:=MF r;obtain⟨_,y⟩:=qd m r;by_cases D:bt s j=62
    .have K:(Utf8.decode s j).2=1:=by rw[dec];unfold Lib.decodeN;rw[cg (by omega)]
     rw[cg ⟨r,D⟩,lU r];have e:=A.2 D;rw[K] at y ⊢;generalize ((Utf8.decode s j).1:Int)=b at e;subst e;simp only[lJ,cd z];rw[cd (by decide),cg trivial];by_cases E:j+1<s.size
     .rw[Mv y E,lU E];obtain⟨_,B⟩:=qd y E;generalize ((Utf8.decode s (j+1)).1:Int)=c;generalize j+1+(Utf8.decode s (j+1)).2=k at B;by_cases F:c=32\/c=62
      .rw[cg F];cases G:rs s k with
       |nil=>rfl
       |cons d u=>simp only[cg F]
      .rw[cd F];simp only;rw[Cu B];cases G:rs s k with
       |nil=>rfl
       |cons d u=>simp only[cd F]
     .have H:nm s (j+1)=none:=by unfold nm;rw[cd (λx=>E x.1)]
      rw[H,mw (by omega)]
    .rw[cd (λx=>D x.2),Cu m];rw[lU r];have e:¬((Utf8.decode s j).1:Int)=62:=λx=>D (A.1 x)
     generalize ((Utf8.decode s j).1:Int)=b at e;simp only[lJ,cd z];by_cases l:b=32
     .rw[cg l,cg l]
     .rw[cd l,cd l,cd e]
   .rw[cd (λx=>r x.1),Cu m,mw (by omega)]
    rfl
 .have H:nm s 0=none:=by unfold nm;rw[cd (λx=>C x.1)]
  rw[H,mw (by omega)]
  rfl
end Sp
namespace Sp
open Go
theorem qN(s:TM)(a b:Nat)(hb:b<=s.size):(s.extract a b).size=b-a:=by simp;omega
theorem Aj(s:TM)(a b p:Nat)(hb:b<=s.size)(j:a+p<b):bt (s.extract a b) p=bt s (a+p):=by
 have e:p<(s.extract a b).size:=by rw[qN s a b hb];omega
 rw[<-jP _ _ e,<-jP s (a+p) (by omega)]
 congr 1
 exact ByteArray.getElem_extract _
theorem F6{n A l m u y c1 c2 c3 w r:Nat}(h:Lib.decodeN n l m u y=(r,w))(G:¬(r,w)=(65533,1))(J:w<=A)(z:1<w->c1=m)(B:2<w->c2=u)(H:3<w->c3=y):Lib.decodeN A l c1 c2 c3=(r,w):=by
 rcases Lib.decodeN_shape n l m u y with ⟨c,e⟩|⟨C,D,E,F,e⟩|⟨C,D,E,I,F,K,e⟩|⟨C,D,E,I,L,F,M,e⟩|e
 .rw[e] at h;injection h with b j;subst b j;unfold Lib.decodeN;rw[cg c]
 .rw[e] at h;injection h with b j;subst b j;rw[z (by omega)];unfold Lib.decodeN;rw[cd (by omega),cg (by omega),cg (by omega)]
 .rw[e] at h;injection h with b j;subst b j;rw[z (by omega),B (by omega)];unfold Lib.decodeN;rw[cd (by omega),cd (by omega),cg (by omega),cg (by omega)]
 .rw[e] at h;injection h with b j;subst b j;rw[z (by omega),B (by omega),H (by omega)];unfold Lib.decodeN;rw[cd (by omega),cd (by omega),cd (by omega),cg (by omega),cg (by omega)]
 .rw[e] at h;exact absurd h.symm G
variable {s:TM}
theorem Oz{a b p:Nat}(hb:b<=s.size)(j:a+p<b)(l:V s (a+p))(u:a+p+(Utf8.decode s (a+p)).2<=b): Utf8.decode (s.extract a b) p=Utf8.decode s (a+p):=by
 obtain⟨hd,_⟩:=qd l (by omega);have y:=iO (s:=s) (i:=a+p) (by omega);rw[dec (s.extract a b) p];have m:=Aj s a b p hb j;rw[m];have h:=dec s (a+p);refine(F6 (r:=(Utf8.decode s (a+p)).1) (w:=(Utf8.decode s (a+p)).2) h.symm hd ?_ ?_ ?_ ?_).trans rfl
 .rw[qN s a b hb];omega
 .intro e;exact Aj s a b (p+1) hb (by omega)
 .intro e;exact Aj s a b (p+2) hb (by omega)
 .intro e;exact Aj s a b (p+3) hb (by omega)
theorem Q0{a b:Nat}(hb:b<=s.size)(e:b=s.size\/bt s b<128): ∀(n p:Nat),b-(a+p)<=n->V s (a+p)->V (s.extract a b) p:=by
 intro n
 induction n with
 |zero=>intro p r _;exact Mz (by rw[qN s a b hb];omega)
 |succ n u =>
  intro p r m f;by_cases y:a+p<b
  .obtain⟨hd,l⟩:=qd m (by omega);have B:=iO (s:=s) (i:=a+p) (by omega);have z:a+p+(Utf8.decode s (a+p)).2<=b:=by
    apply Ty;intro A;rcases e with he|he
    .omega
    .have:=Ay (s:=s) (i:=a+p) (j:=b) (by omega) (by omega) (by omega);omega
   cases f with
   |zero=>rfl
   |succ f =>
    simp only[gq];rw[cg (by rw[qN s a b hb];omega),Oz hb y m z,cd hd];refine u _ (by omega) ?_ f;rw[<-Nat.add_assoc];exact l
  .exact Mz (by rw[qN s a b hb];omega) f
theorem Ng(l:V s 0): ∀k,k<=s.size+1->((lS s 10 k).1<=s.size->V s (lS s 10 k).1)/\(∀x∈(lS s 10 k).2,V x 0):=by
 intro k
 induction k with
 |zero=>intro _;exact⟨λ_=>l,by simp[lS]⟩
 |succ k y =>
  intro C;obtain⟨m,r⟩:=y (by omega);have z:=zc s 10 k;by_cases h:k=s.size\/bt s k=10
  .rw[nu h];have A:V (s.extract (lS s 10 k).1 k) 0:=by
    refine Q0 (by omega) (by rcases h with h|h;exact Or.inl h;exact Or.inr (by omega)) _ 0 TG ?_;rw[ub];exact m (by omega)
   refine⟨λe=>?_,λx b=>?_⟩
   .simp only at e;have D:bt s k=10:=by rcases h with h|h;exact absurd h (by omega);exact h
    have j:=QR k 0 k (by omega) l (by omega) (by omega) (by omega);obtain⟨_,u⟩:=qd j (by omega);have B:(Utf8.decode s k).2=1:=by rw[dec];unfold Lib.decodeN;rw[cg (by omega)]
    rw[B] at u;exact u
   .rcases cJ.1 b with b|b
    .exact r x b
    .rw[eh.1 b];exact A
  .rw[tX h];exact⟨m,r⟩
theorem LK(b:V s 0): ∀x∈split s 10,V x 0:=(Ng b (s.size+1) TG).2
def tW(c:UInt8):List UInt8->List (List UInt8)
 |[]=>[[]]
 |b::l=>if b=c then []::tW c l else
  match tW c l with
  |[]=>[[b]]
  |h::t=>(b::h)::t
theorem wk(c:UInt8)(l:List UInt8):Lib.index (c::l) [c]=0:=by
 simp[Lib.index,List.isPrefixOf]
theorem wC{b c:UInt8}(h:¬b=c)(l:List UInt8):Lib.index (b::l) [c]=if Lib.index l [c] == -1 then -1 else Lib.index l [c]+1:=by
 have j:([c]:List UInt8).isPrefixOf (b::l)=false:=by simp[List.isPrefixOf];exact λe=>h e.symm
 rw[Lib.index,j];rfl
theorem vg(c:UInt8):∀l:List UInt8,Lib.splitK [c] 0 (Lib.count l [c]) l=tW c l:=by
 intro l
 induction l with
 |nil=>rfl
 |cons b l e =>
  by_cases h:b=c
  .subst h;rw[Lib.count_cons_eq,Nat.add_comm 1];simp only[Lib.splitK,wk,tW,l9];rw[cd (by decide)];simpa using e
  .rw[Lib.count_cons_ne b c l h];simp only[tW,cd h];rw[<-e];cases y:Lib.count l [c] with
   |zero=>rfl
   |succ k =>
    simp only[Lib.splitK,wC h];have j:=Lib.index_ge l [c];by_cases hi:Lib.index l [c] = -1
    .rw[hi];rfl
    .have m:(Lib.index l [c] == -1)=false:=cC.2 hi;rw[m];simp only[Td,yI];have r:(Lib.index l [c]+1 == -1)=false:=cC.2 (by omega);rw[r];simp only[Td,yI];have u:(Lib.index l [c]+1).toNat=(Lib.index l [c]).toNat+1:=by omega
     rw[u];simp
theorem zw(c:UInt8)(l:List UInt8):∃h t,tW c l=h::t:=by
 cases l with
 |nil=>exact⟨_,_,rfl⟩
 |cons b l =>
  simp only[tW];split
  .exact⟨_,_,rfl⟩
  .split <;> exact⟨_,_,rfl⟩
theorem qU(s:TM)(a b:Nat):(s.extract a b).data.toList=(s.data.toList.drop a).take (b-a):=by
 rw[ByteArray.data_extract,Array.toList_extract]
def CD(c:UInt8)(p l:List UInt8):List (List UInt8):=match tW c l with
 |[]=>[]
 |h::t=>(p++h)::t
theorem Hu(s:TM)(c:UInt8):∀k,k<=s.size->(lS s c.toNat k).2.map (·.data.toList)++CD c (s.extract (lS s c.toNat k).1 k).data.toList (s.data.toList.drop k)=tW c s.data.toList:=by
 intro k
 induction k with
 |zero =>
  intro _;obtain⟨h,t,e⟩:=zw c s.data.toList;simp only[lS,CD,qU,List.map_nil,sj,List.drop_zero,Nat.sub_zero,List.take_zero,e]
 |succ k l =>
  intro A;have m:k<s.data.toList.length:=by rw[zh];show k<s.size;omega
  have hi:=l (by omega);have r:=zc s c.toNat k;have j:s.data.toList[k]=UInt8.ofNat (bt s k):=Ig s k (by omega);rw[kp m] at hi;by_cases h:k=s.size\/bt s k=c.toNat
  .have b:bt s k=c.toNat:=by rcases h with h|h;exact absurd h (by omega);exact h
   have u:s.data.toList[k]=c:=by rw[j,b];simp
   rw[nu h];rw[u] at hi;obtain⟨y,t,e⟩:=zw c (s.data.toList.drop (k+1));simp only[CD,tW,l9,B2] at hi;simp only[CD,e,qU,Nat.sub_self,List.take_zero,sj,Bg,wj,List.map_nil,mR,mf];rw[e] at hi;simpa [qU] using hi
  .have b:¬s.data.toList[k]=c:=λe=>by
    rw[j] at e;have:=congrArg UInt8.toNat e;have z:=jh s k;simp at this;exact h (Or.inr (by omega))
   rw[tX h];obtain⟨y,t,e⟩:=zw c (s.data.toList.drop (k+1));simp only[CD,tW,cd b,e] at hi;simp only[CD,e];rw[<-hi]
   congr 2
   rw[qU,qU];have:k+1-(lS s c.toNat k).1=(k-(lS s c.toNat k).1)+1:=by omega
   rw[this,zQ (by rw[uT];omega),mR]
   congr 1
   simp only[List.getElem_drop,mf,sj]
   congr 2
   omega
theorem pj(s:TM)(c:UInt8):(split s c.toNat).map (·.data.toList)=tW c s.data.toList:=by
 have h:=Hu s c s.size TG;unfold split;rw[nu (Or.inl rfl)];rw[Dl (by rw[zh];exact b7 _)] at h;simp only[CD,tW,B2] at h;simp only[Bg,wj,List.map_nil];exact h
theorem vY:∀(a b:List TM),a.map (·.data.toList)=b.map (·.data.toList)->a=b:=by
 intro a
 induction a with
 |nil=>intro b h;cases b with
  |nil=>rfl
  |cons _ _=>simp at h
 |cons x a j =>
  intro b h;cases b with
  |nil=>simp at h
  |cons y b =>
   simp only[wj,Qv] at h;have e:x=y:=by apply Bk;apply Array.ext';exact h.1
   rw[e,j b h.2]
theorem sF(s:TM):Lib.splitB ⟨#[10]⟩ 0 (Lib.countB s ⟨#[10]⟩) s=split s 10:=by
 apply vY;rw[Lib.splitB_data];have:=pj s 10;rw[show (10:UInt8).toNat=10 from rfl] at this;rw[this];exact vg 10 s.data.toList
theorem tG(s:TM):Lib.countB s ⟨#[10]⟩+1=(split s 10).length:=by
 rw[<-sF,Lib.splitB_all ⟨#[10]⟩ (by decide) 0 _ s rfl]
end Sp
section
open Go.RowKit
theorem cP{p:Prop}(h:p):Hid p:=h
theorem cO{p:Prop}(h:Hid p):p:=h
variable {B n e:Nat}{w:TJ}{xs:List TK}{v:TK}
theorem cW{w':TJ}{size:Nat}(h:w.ownsRow B e size v n xs)(hb:TI w w'): w'.ownsRow B e size v n xs:=by
 obtain⟨u,b⟩:=h;refine⟨u,?_⟩;rcases b with b|⟨g,j,l,y,z,m,r⟩
 .exact .inl b
 .refine .inr ⟨g,j,l,y,z,?_,r⟩;rw[hb.block g (cB.1 m).1,m]
theorem MX{y m s z A:Nat}{v':TK}{j:List TK}(h:w.ownsRow B e s v n xs)(C:w.ownsRow y m z v' A j)(he:e≠m): v.ownBlock=none\/v.ownBlock≠v'.ownBlock:=by
 obtain⟨_,D⟩:=h;obtain⟨_,E⟩:=C;rcases D with ⟨rfl,_⟩|⟨g,F,G,rfl,K,H,_⟩
 .exact .inl rfl
 .right;rcases E with ⟨rfl,_⟩|⟨I,r,u,rfl,J,b,_⟩
  .intro h;cases h
  .intro h;have l:g=I:=by simpa [Value.ownBlock] using h
   subst l;rw[H] at b;injection b with b;injection b with _ b;exact he b
theorem rW{size:Nat}{ys:List TK}{wr r:TJ}{v':TK}(u:B<=wr.heap.size)(l:wr.ownsRow B e size v n xs)(m:Below B w wr)(b:wr.grownBy r v.ownBlock): Below B w r:=m.grown b u (λj y=>by have:=(l.lt j y).1;omega)
theorem jE{l j s m r:Nat}{ys:List TK}{wr y:TJ}{u:TK}(z:wr.ownsRow B e s v n xs)(hu:wr.ownsRow l j m u r ys)(he:j≠e)(b:wr.grownBy y v.ownBlock): y.ownsRow l j m u r ys:=hu.kept b (MX hu z he)
end
section
open Go.RowKit
variable {s:TM}
theorem pE{l:List UInt8}(h:¬s.data.toList=l): (s.toList == l)=false:=by
 rw[cC,B3];exact h
theorem pC{l:List UInt8}(h:s.data.toList=l): (s.toList == l)=true:=by
 rw[Bs,B3];exact h
theorem D2(h:0<s.size): s.data.toList.head?=some s[0]:=by
 cases s with | mk d=>cases d with | mk l =>
 cases l with
 |nil=>exact absurd h (Nat.lt_irrefl 0)
 |cons a l=>rfl
def mZ(o:Option Int):TK := .tuple #[Z Y (o.getD 0),.bool o.isSome]
theorem head_ne(c:UInt8)(h:0<s.size)(hd:((s[0].toNat:Nat):Int)≠(c.toNat:Int)): s.data.toList.head?≠some c:=by
 rw[D2 h];intro e;injection e with e;apply hd;rw[e]
theorem KT(c:UInt8)(h:0<s.size)(hd:((s[0].toNat:Nat):Int)=(c.toNat:Int)): s.data.toList.head?=some c:=by
 rw[D2 h];congr 1;apply UInt8.toNat_inj.1;omega
theorem ne_nil(h:0<s.size): s.data.toList≠[]:=by
 intro e;have b:s.data.toList.length=0:=by rw[e];rfl
 rw[zh] at b;have j:s.data.size=s.size:=rfl;omega
theorem JX(h:¬0<s.size): s.data.toList=[]:=by
 apply To;rw[zh];have b:s.data.size=s.size:=rfl;omega
end
section
open Go.RowKit
theorem ju:mZ none=.tuple #[Z Y 0,.bool false]:=rfl
theorem jt(v:Int):mZ (some v)=.tuple #[Z Y v,.bool true]:=rfl
end
section
open Go.RowKit
theorem tJ(d:TM)(w:TJ)(r:d.size<=4000)(h:d.size=0\/∃j:0<d.size,((d[0].toNat:Nat):Int)=48):TL prog 218 #[.string d] w λe l=>e=.returned (mZ none)/\l=w:=by
 rcases h with h|⟨j,h⟩
 .have b:d.toList.isEmpty=true:=by rw[B3,JX (by omega)];rfl
  go_enter func218,ntmps218;go_wp2;go_ret2;exact⟨rfl,rfl⟩
 .have b:d.toList.isEmpty=false:=by
   rw[B3];cases m:d.data.toList with
   |nil=>exact absurd m (ne_nil j)
   |cons _ _=>rfl
  have u:(((d[0].toNat:Nat):Int) == 48)=true:=Bs.2 h;clear h;go_enter func218,ntmps218;go_wp2;go_ret2;exact⟨rfl,rfl⟩
theorem wF(d:TM)(w:TJ)(L:d.size<=4000)(hd:0<d.size)(y:((d[0].toNat:Nat):Int)≠48):TL prog 218 #[.string d] w λe F=>e=.returned (mZ (Sp.nz d.data.toList))/\TI w F:=by
 have G:d.toList.isEmpty=false:=by
  rw[B3];cases H:d.data.toList with
  |nil=>exact absurd H (ne_nil hd)
  |cons _ _=>rfl
 have C:(((d[0].toNat:Nat):Int) == 48)=false:=cC.2 y;go_enter func218,ntmps218;go_wp2_with fail
 go_loopw [4] (λn wr=>∃(k:Nat) (v:Int),k<=d.size/\n=Z Y v/\Hid (Sp.nz (d.data.toList.take k)=some v)/\wr=w.iter d k) (λ_ wr=>d.size-wr.iterPos w.heap.size)
 case atStart=>exact⟨0,0,cy _,rfl,rfl,rfl⟩
 case round =>
  obtain⟨k,v,M,rfl,z,rfl⟩:=hrel;have N:=Sp.zj z.out;have b:∀p,TI w (w.iter d p):=λp=>TH.alloc TG _
  by_cases j:k<d.size
  .have r:Hid (Sp.nz (d.data.toList.take (k+1))=Sp.fD (some v) d[k]):=by
    show _=_;rw[Sp.FJ d k j,Sp.wY,z.out]
   by_cases I:(d[k].toNat)<128
   .have m:=λu=>run_next_ascii (P:=prog) w d k u j I
    by_cases J:((d[k].toNat:Nat):Int)<48
    .have l:Hid (Sp.nz d.data.toList=none):=Sp.jM (k:=k+1) (by rw[r.out];exact cg (Or.inl J));go_wp2;go_ret2;exact⟨by rw[l.out];rfl,b _⟩
    by_cases K:57<((d[k].toNat:Nat):Int)
    .have l:Hid (Sp.nz d.data.toList=none):=Sp.jM (k:=k+1) (by rw[r.out];exact cg (Or.inr (Or.inl K)));go_wp2;go_ret2;exact⟨by rw[l.out];rfl,b _⟩
    by_cases O:1000000000<v*10+(((d[k].toNat:Nat):Int)-48)
    .have l:Hid (Sp.nz d.data.toList=none):=Sp.jM (k:=k+1) (by rw[r.out];exact cg (Or.inr (Or.inr (by omega))));go_wp2;go_ret2;exact⟨by rw[l.out];rfl,b _⟩
    .go_wp2;go_roundw
     case rel=>exact⟨k+1,_,by omega,rfl,by show _=_;rw[r.out];rw[show v*10=10*v from by omega];exact cd (by omega),rfl⟩
     case measure=>simp;omega
   .have m:=λu=>run_next_any (P:=prog) w d k u j
    have A:=(decode_high d k j (by omega)).1;have B:=decode_le d k;have l:Hid (Sp.nz d.data.toList=none):=Sp.jM (k:=k+1) (by rw[r.out];exact cg (Or.inr (Or.inl (by omega))));generalize Utf8.decode d k=D at m A B;have E:128<=((D.1:Nat):Int):=by omega
    go_wp2;go_ret2;exact⟨by rw[l.out];rfl,b _⟩
  .have l:Hid (Sp.nz d.data.toList=some v):=by
    show _=_;rw[<-Sp.GF d k (by omega)];exact z.out
   have m:=λu=>run_next_end (P:=prog) w d k u j
   go_wp2;go_ret2;exact⟨by rw[l.out];rfl,b _⟩
theorem l6(d:TM)(w:TJ)(j:d.size<=4000):TL prog 218 #[.string d] w λe l=>e=.returned (mZ (Sp.digits d.data.toList))/\TI w l:=by
 by_cases hd:0<d.size
 .by_cases b:((d[0].toNat:Nat):Int)=48
  .rw[show Sp.digits d.data.toList=none from cg (Or.inr (KT 48 hd b))];exact(tJ d w j (Or.inr ⟨hd,b⟩)).mono λe l h=>⟨h.1,by rw[h.2];exact cj _ _⟩
  .have m:=ne_nil hd;rw[show Sp.digits d.data.toList=Sp.nz d.data.toList from cd (by rintro(e|e);exact m e;exact head_ne 48 hd b e)];exact wF d w j hd b
 .rw[show Sp.digits d.data.toList=none from cg (Or.inl (JX hd))];exact(tJ d w j (Or.inl (by omega))).mono λe l h=>⟨h.1,by rw[h.2];exact cj _ _⟩
theorem Lr{l:List UInt8}(h:l.head?=some 45):Lib.hasPrefix l [45]=true/\Lib.trimPrefix l [45]=l.tail:=by
 cases l with
 |nil=>cases h
 |cons a l =>
  injection h with h;subst h;exact⟨rfl,rfl⟩
theorem M9{l:List UInt8}(h:¬l.head?=some 45):Lib.hasPrefix l [45]=false/\Lib.trimPrefix l [45]=l:=by
 cases l with
 |nil=>exact⟨rfl,rfl⟩
 |cons a l =>
  have j:¬a=45:=λe=>h (by rw[e];rfl)
  have b:Lib.hasPrefix (a::l) [45]=false:=by
   simp[Lib.hasPrefix,List.isPrefixOf];exact λe=>j e.symm
  exact⟨b,by unfold Lib.trimPrefix;rw[b];rfl⟩
theorem mU(s:TM)(w:TJ)(I:s.size<=4000):TL prog 152 #[.string s] w λe K=>e=.returned (mZ (Sp.number s.data.toList))/\TI w K:=by
 have hcut:=Tryz.strings_CutPrefix s ⟨#[45]⟩ w;by_cases m:s.data.toList.head?=some 45
 .obtain⟨B,C⟩:=Lr m;have J:¬s.data.toList=[48]:=λe=>by rw[e] at m;cases m
  have D:Sp.number s.data.toList=(Sp.digits s.data.toList.tail).map (λn=>-n):=by unfold Sp.number;rw[cd J,cg m]
  rw[D];obtain⟨d,hd⟩:∃d:TM,d=⟨s.data.toList.tail.toArray⟩:=⟨_,rfl⟩
  have r:d.data.toList=s.data.toList.tail:=by rw[hd]
  have E:d.size<=4000:=by
   have:d.data.toList.length<=s.data.toList.length:=by rw[r,List.length_tail];omega
   rw[zh,zh] at this;have N:d.data.size=d.size:=rfl;have O:s.data.size=s.size:=rfl;omega
  rw[show ((⟨#[45]⟩:TM).data.toList)=[45] from rfl,B,C,<-hd] at hcut;rw[<-r];clear hd B C m J D r;have u:=cP hcut;clear hcut;by_cases j:d.data.toList=[48]
  .have y:=pC j;have L:Hid (Sp.digits d.data.toList=none):=by show _=_;unfold Sp.digits;rw[j];simp
   go_enter func152,ntmps152;go_wp2_with fail;refine(cO u).mono ?_;rintro e F ⟨rfl,l⟩;obtain rfl:=l.symm;go_wp2;go_ret2;exact⟨by rw[cO L];rfl,cj _ _⟩
  .have y:=pE j;cases b:Sp.digits d.data.toList with
   |none =>
    have z:=cP b;clear b j;go_enter func152,ntmps152;go_wp2_with fail;refine(cO u).mono ?_;rintro e F ⟨rfl,l⟩;obtain rfl:=l.symm;go_wp2_with fail;refine(l6 d _ E).mono ?_;rintro e H ⟨rfl,A⟩;rw[cO z,ju];go_wp2;go_ret2;exact⟨rfl,A⟩
   |some v =>
    have z:=cP b;have M:0<=v/\v<=1000000000:=by
     unfold Sp.digits at b;split at b
     .cases b
     .exact Sp.zj b
    clear b j;go_enter func152,ntmps152;go_wp2_with fail;refine(cO u).mono ?_;rintro e F ⟨rfl,l⟩;obtain rfl:=l.symm;go_wp2_with fail;refine(l6 d _ E).mono ?_;rintro e H ⟨rfl,A⟩;rw[cO z,jt];go_wp2;go_ret2;exact⟨rfl,A⟩
 .obtain⟨B,C⟩:=M9 m;have G:(⟨s.data.toList.toArray⟩:TM)=s:=rfl;rw[show ((⟨#[45]⟩:TM).data.toList)=[45] from rfl,B,C,G] at hcut;have u:=cP hcut;clear hcut B C G;by_cases j:s.data.toList=[48]
  .have y:=pC j;rw[show Sp.number s.data.toList=some 0 from cg j];go_enter func152,ntmps152;go_wp2_with fail;refine(cO u).mono ?_;rintro e F ⟨rfl,l⟩;obtain rfl:=l.symm;go_wp2;go_ret2;exact⟨rfl,cj _ _⟩
  .have y:=pE j;have D:Sp.number s.data.toList=Sp.digits s.data.toList:=by unfold Sp.number;rw[cd j,cd m]
   rw[D];clear D m;cases b:Sp.digits s.data.toList with
   |none =>
    have z:=cP b;clear b j;go_enter func152,ntmps152;go_wp2_with fail;refine(cO u).mono ?_;rintro e F ⟨rfl,l⟩;obtain rfl:=l.symm;go_wp2_with fail;refine(l6 s _ I).mono ?_;rintro e H ⟨rfl,A⟩;rw[cO z,ju];go_wp2;go_ret2;exact⟨rfl,A⟩
   |some v =>
    have z:=cP b;clear b j;go_enter func152,ntmps152;go_wp2_with fail;refine(cO u).mono ?_;rintro e F ⟨rfl,l⟩;obtain rfl:=l.symm;go_wp2_with fail;refine(l6 s _ I).mono ?_;rintro e H ⟨rfl,A⟩;rw[cO z,jt];go_wp2;go_ret2;exact⟨rfl,A⟩
end
section
open Go.RowKit
theorem info_int:(prog.info? 3).map (λi=>(i.zero,i.size,i.bytes))=some (some (Z Y 0),1,8):=by kernel_rfl
end
section
open Go.RowKit
theorem below_drewN(w:TJ)(n:Nat):TI w (w.drewN n):=by
 induction n with
 |zero=>exact cj _ _
 |succ n b=>exact b.drew
end
section
open Go.RowKit
theorem dd{w:TJ}{B e size n:Nat}{v:TK}{l:List TK}(h:w.ownsRow B e size v n l):∃p b,v=.slice p n b/\∀j,j<n*size->∃g,p=some ⟨g,0,none⟩/\B<=g/\g<w.heap.size/\w.cell? ⟨g,j,none⟩=l[j]?:=by
 have u:=h;obtain⟨D,y⟩:=h;rcases y with ⟨rfl,rfl⟩|⟨g,b,z,rfl,A,C,r⟩
 .exact⟨none,0,rfl,λj m=>by omega⟩
 .exact⟨some ⟨g,0,none⟩,b,rfl,λj m=>⟨g,rfl,A,(cB.1 C).1,u.cellAt j m⟩⟩
def dh(E:List Sp.Ed):List TK:=E.flatMap λe=>[Z Y (e.de:Int),Z Y (e.vo:Int),Z Y e.n]
theorem pB{b w l:TJ}{G e size n:Nat}{v:TK}{m:List TK}(hb:Below G b w)(A:G<w.heap.size)(r:w.ownsRow (G+1) e size v n m)(y:w.grownBy l v.ownBlock)(j:Nat)(u:TK):Below G b (l.setCell ⟨G,j,none⟩ u):=(hb.grown y (by omega) (λk z=>by have:=(r.lt k z).1;omega)).setCell TG _
end
section
open Go.RowKit
attribute [local go_sem ↓] Go.wp_at_zero Go.wp_at_succ
def dG(v u x:TK):TK := .agg #[v,u,x]
def pH(s:TM)(w:TJ)(e:Ending)(w':TJ):Prop:=TI w w'/\
 match Sp.dD s with
 |.error (a,b)=>e=.returned (.tuple #[dG (.slice none 0 0) (.slice none 0 0) (.slice none 0 0),Z Y a,Z Y b])
 |.ok L=>∃v u x,e=.returned (.tuple #[dG v u x,Z Y 0,Z Y 0])/\
   w'.ownsRow w.heap.size 21 1 v (Sp.vs L (Sp.nv L)).length (((Sp.vs L (Sp.nv L)).map (·.de)).map (Z .i32))/\
   w'.ownsRow w.heap.size 2 1 u (Sp.vs L (Sp.nv L)).length (((Sp.vs L (Sp.nv L)).map (·.n)).map (Z Y))/\
   w'.ownsRow w.heap.size 162 3 x (Sp.es L (Sp.nv L) (Sp.nv L)).length (dh (Sp.es L (Sp.nv L) (Sp.nv L)))
theorem info_i32:(prog.info? 21).map (λi=>(i.zero,i.size,i.bytes))=some (some (Z .i32 0),1,4):=by kernel_rfl
theorem info_i64:(prog.info? 2).map (λi=>(i.zero,i.size,i.bytes))=some (some (Z Y 0),1,8):=by kernel_rfl
theorem info_edge:(prog.info? 162).map (λi=>(i.zero,i.size,i.bytes))=some (some (.agg #[Z Y 0,Z Y 0,Z Y 0]),3,24):=by kernel_rfl
variable {w:TJ}
theorem nr{o:Obj}{g j:Nat}{x:TK}(b:g<w.heap.size)(h:w.cell? ⟨g,j,none⟩=some x): (w.alloc o).cell? ⟨g,j,none⟩=some x:=by
 rw[World.cell?_alloc_past _ _ _ (by simpa using b)];exact h
theorem jr{s:TM}{w':TJ}{a b:Int}(h:Sp.dD s=.error (a,b))(hb:TI w w'):pH s w (.returned (.tuple #[dG (.slice none 0 0) (.slice none 0 0) (.slice none 0 0),Z Y a,Z Y b])) w':=by
 refine⟨hb,?_⟩;rw[h]
theorem Fi{s:TM}{w':TJ}{L:List Sp.Ln}{k:Nat}{N V:List Int}{v u x:TK}(h:Sp.dD s=.ok L)(b:k=Sp.nv L)(hb:TI w w')(e:(Sp.vs L k).map (·.de)=N)(j:(Sp.vs L k).map (·.n)=V)(l:w'.ownsRow w.heap.size 21 1 v N.length (N.map (Z .i32)))(m:w'.ownsRow w.heap.size 2 1 u V.length (V.map (Z Y)))(r:w'.ownsRow w.heap.size 162 3 x (Sp.es L k k).length (dh (Sp.es L k k))):pH s w (.returned (.tuple #[dG v u x,Z Y 0,Z Y 0])) w':=by
 subst b e j;refine⟨hb,?_⟩;rw[h];exact⟨v,u,x,rfl,by simpa using l,by simpa using m,r⟩
end
section
open Go.RowKit
def fF(w:TJ)(k:IntKind)(p:Option Addr)(V:List Int):Prop := ∀j (h:j<V.length),∃g,p=some ⟨g,0,none⟩/\g<w.heap.size/\w.cell? ⟨g,j,none⟩=some (Z k V[j])
variable {w:TJ}
theorem fF.below{w':TJ}{k:IntKind}{p:Option Addr}{V:List Int}(h:fF w k p V)(hb:TI w w'): fF w' k p V:=λj e=>by
 obtain⟨g,a,b,c⟩:=h j e;have:=hb.size;exact⟨g,a,by omega,(hb.cell (p:=⟨g,j,none⟩) b).trans c⟩
theorem ir{B e:Nat}{k:IntKind}{v:TK}{V:List Int}(h:w.ownsRow B e 1 v V.length (V.map (Z k))): ∃p b,v=.slice p V.length b/\fF w k p V:=by
 obtain⟨p,b,l,m⟩:=dd h;refine⟨p,b,l,λj r=>?_⟩;obtain⟨g,u,_,y,z⟩:=m j (by omega);exact⟨g,u,y,by rw[z];simp[r]⟩
def fY(w:TJ)(p:Option Addr)(E:List Sp.Ed):Prop := ∀j (h:j<E.length),∃g,p=some ⟨g,0,none⟩/\g<w.heap.size/\w.cell? ⟨g,j*3,none⟩=some (Z Y (E[j].de:Int))/\w.cell? ⟨g,j*3+1,none⟩=some (Z Y (E[j].vo:Int))/\w.cell? ⟨g,j*3+2,none⟩=some (Z Y E[j].n)
theorem fY.below{w':TJ}{p:Option Addr}{E:List Sp.Ed}(h:fY w p E)(hb:TI w w'): fY w' p E:=λj e=>by
 obtain⟨g,a,b,l,m,r⟩:=h j e;have:=hb.size;exact⟨g,a,by omega,(hb.cell (p:=⟨g,_,none⟩) b).trans l,(hb.cell (p:=⟨g,_,none⟩) b).trans m,(hb.cell (p:=⟨g,_,none⟩) b).trans r⟩
theorem Kb(E:List Sp.Ed):∀(k:Nat) (h:k<E.length),(dh E)[k*3]?=some (Z Y (E[k].de:Int))/\(dh E)[k*3+1]?=some (Z Y (E[k].vo:Int))/\(dh E)[k*3+2]?=some (Z Y E[k].n):=by
 induction E with
 |nil=>intro k h;simp at h
 |cons l E b =>
  intro k h;cases k with
  |zero=>exact⟨rfl,rfl,rfl⟩
  |succ k =>
   have:=b k (by simpa using h);have e:dh (l::E)=[Z Y (l.de:Int),Z Y (l.vo:Int),Z Y l.n]++dh E:=rfl;have j:(k+1)*3=k*3+3:=by omega
   rw[e,j];simp only[mf,sj,List.getElem_cons_succ];exact this
theorem iF{B e:Nat}{v:TK}{E:List Sp.Ed}(h:w.ownsRow B e 3 v E.length (dh E)): ∃p b,v=.slice p E.length b/\fY w p E:=by
 obtain⟨p,b,u,m⟩:=dd h;refine⟨p,b,u,λk y=>?_⟩;obtain⟨z,A,C⟩:=Kb E k y;obtain⟨g,r,_,D,F⟩:=m (k*3) (by omega);obtain⟨G,j,_,_,H⟩:=m (k*3+1) (by omega);obtain⟨I,l,_,_,J⟩:=m (k*3+2) (by omega);have K:G=g:=by rw[r] at j;injection j with q;injection q with q;exact q.symm
 have L:I=g:=by rw[r] at l;injection l with q;injection q with q;exact q.symm
 subst K L;exact⟨_,r,D,F.trans z,H.trans A,J.trans C⟩
end
namespace Sp
open Go
def rh(x:TM):Option (Option Ln):=if x.size=0 then some none else (oL x).map some
def dZ:List TM->Nat->List (Option Ln)->Except Nat (List (Option Ln))
 |[],_,P=>.ok P
 |x::r,k,P=>match rh x with
  |none=>.error k
  |some p=>dZ r (k+1) (P++[p])
variable {k:Nat}{ls:List TM}
theorem NS(h:ls.length<=k)(P:List (Option Ln)): dZ (ls.drop k) k P=.ok P:=by
 rw[Dl h];rfl
theorem Lb(h:k<ls.length)(P:List (Option Ln))(he:rh ls[k]=none): dZ (ls.drop k) k P=.error k:=by
 rw[kp h];simp only[dZ,he]
theorem KC(h:k<ls.length)(P:List (Option Ln)){p:Option Ln}(he:rh ls[k]=some p): dZ (ls.drop k) k P=dZ (ls.drop (k+1)) (k+1) (P++[p]):=by
 rw[kp h];simp only[dZ,he]
def dA(P:List (Option Ln)):List Ln:=P.filterMap id
def dQ:List (Option Ln)->Nat->List Nat
 |[],_=>[]
 |none::r,k=>dQ r (k+1)
 |some _::r,k=>k::dQ r (k+1)
theorem o6(P Q:List (Option Ln)):∀k,dQ (P++Q) k=dQ P k++dQ Q (k+P.length):=by
 induction P with
 |nil=>intro k;simp[dQ]
 |cons p t b =>
  intro k;cases p with
  |none=>simp[dQ,b,Nat.add_comm,Nat.add_left_comm]
  |some l=>simp[dQ,b,Nat.add_comm,Nat.add_left_comm]
theorem PS:∀(ls:List TM) (P:List (Option Ln)),oA ls P.length (dA P) (dQ P 0)=match dZ ls P.length P with
  |.error k=>.error (3,(k:Int))
  |.ok Q=>.ok (dA Q,dQ Q 0):=by
 intro ls
 induction ls with
 |nil=>intro P;rfl
 |cons x r j =>
  intro P;by_cases b:x.size=0
  .have e:rh x=some none:=cg b;simp only[oA,dZ,e,b,l9];have:=j (P++[none]);simpa [dA,o6,dQ] using this
  .cases hl:oL x with
   |none =>
    have e:rh x=none:=by unfold rh;rw[cd b,hl];rfl
    simp only[oA,dZ,e,b,yI,hl]
   |some l =>
    have e:rh x=some (some l):=by unfold rh;rw[cd b,hl];rfl
    simp only[oA,dZ,e,b,yI,hl];have:=j (P++[some l]);simpa [dA,o6,dQ] using this
theorem zR(ls:List TM):oA ls 0 [] []=match dZ ls 0 [] with
  |.error k=>.error (3,(k:Int))
  |.ok Q=>.ok (dA Q,dQ Q 0):=PS ls []
theorem NV:∀(ls:List TM) (k:Nat) (P Q:List (Option Ln)),dZ ls k P=.ok Q->Q.length=P.length+ls.length:=by
 intro ls
 induction ls with
 |nil=>intro k P Q h;simp[dZ] at h;subst h;simp
 |cons x r b =>
  intro k P Q h;simp only[dZ] at h;split at h
  .cases h
  .have:=b _ _ _ h;simp at this ⊢;omega
theorem Al{x:TM}:rs x 0=[]↔x.size=0:=by
 constructor
 .intro h;apply Ty;intro b;rw[lU (by omega)] at h;cases h
 .intro h;exact mw (by omega)
def pk(p:Option Ln):Int:=match p with | none=>0 | some l=>if l.iR=true then 2 else 1
def pa(p:Option Ln):Int:=match p with | none=>0 | some l=>l.de
def pb(p:Option Ln):Int:=match p with | none=>0 | some l=>if l.iR=true then l.vo else 0
def pn(p:Option Ln):Int:=match p with | none=>0 | some l=>l.n
end Sp
namespace Sp
open Go
abbrev Tb:=List (Int × Int)
def dm(T:Tb)(a:Int):Nat:=(T.filter λp=>decide (p.1<a)).length
def dw(T:Tb)(a:Int):Bool:=T.any λp=>p.1 == a
def da(T:Tb):Prop:=T.Pairwise λp q=>p.1<q.1
def gI(T:Tb)(a v:Int):Tb:=T.take (dm T a)++(a,v)::T.drop (dm T a)
theorem lY(T:Tb)(a:Int):dm T a<=T.length:=Tz _ _
theorem iA(A B:Tb)(a:Int)(e:∀p∈A,p.1<a)(j:∀p∈B,a<=p.1):dm (A++B) a=A.length:=by
 unfold dm;rw[Dr,List.filter_eq_self.2 (λp b=>kH (e p b)),Tp.2 (λp b=>by simp;exact j p b)];simp
variable {i:Nat}{T:Tb}
theorem jN{a:Int}(hi:i<=T.length)(h1:∀j (h:j<T.length),j<i->(T[j]).1<a)(h2:∀j (h:j<T.length),i<=j->a<=(T[j]).1): dm T a=i:=by
 have e:=r4 i T;rw[<-e,iA]
 .simp;omega
 .intro p b;obtain⟨j,l,rfl⟩:=oM.1 b;simp at l ⊢;exact h1 j (by omega) (by omega)
 .intro p b;obtain⟨j,l,rfl⟩:=oM.1 b;simp at l ⊢;exact h2 (i+j) (by omega) (by omega)
theorem et(h:da T){j:Nat}(b:i<j)(e:j<T.length): (T[i]'(by omega)).1<(T[j]).1:=TD.1 h i j (by omega) e b
theorem fg(h:da T){j:Nat}(b:i<=j)(e:j<T.length): (T[i]'(by omega)).1<=(T[j]).1:=by
 rcases Tg b with l|rfl
 .exact Int.le_of_lt (et h l e)
 .exact Int.le_refl _
theorem kY(h:da T)(a:Int): (∀j (l:j<T.length),j<dm T a↔(T[j]).1<a):=by
 induction T with
 |nil=>intro j l;simp at l
 |cons p t y =>
  have z:da t:=(sQ.1 h).2;have u:=(sQ.1 h).1;intro j l;by_cases b:p.1<a
  .have e:dm (p::t) a=dm t a+1:=by unfold dm;rw[He,cg (kH b)];rfl
   rw[e];cases j with
   |zero=>simp[b]
   |succ j=>simpa using y z j (by simpa using l)
  .have e:dm (p::t) a=0:=by
    have:=iA [] (p::t) a (by simp) (by
     intro q m;rcases ic.1 m with rfl|m
     .omega
     .have:=u q m;omega)
    simpa using this
   rw[e];constructor
   .intro r;omega
   .intro r;exfalso;cases j with
    |zero=>exact b r
    |succ j=>have:=u (t[j]'(by simpa using l)) (pY _);simp at r;omega
theorem iU(h:da T)(a:Int): dw T a=true↔∃l:dm T a<T.length,(T[dm T a]).1=a:=by
 constructor
 .intro r;obtain⟨p,u,e⟩:=Ci.1 r;obtain⟨j,l,rfl⟩:=oM.1 u;have e:(T[j]).1=a:=by simpa using e
  have m:dm T a=j:=jN (by omega) (λi hi b=>by have:=et h b l;omega) (λi hi b=>by have:=fg h b hi;omega);rw[m];exact⟨l,e⟩
 .rintro⟨l,e⟩;exact Ci.2 ⟨T[dm T a],pY _,by simpa using e⟩
theorem iq(h:da T){a v:Int}(u:dw T a=false): da (gI T a v):=by
 have y:=kY h a;unfold gI da;rw[QB];refine⟨h.sublist (List.take_sublist _ _),sQ.2 ⟨?_,h.sublist (List.drop_sublist _ _)⟩,?_⟩
 .intro q b;obtain⟨j,m,rfl⟩:=oM.1 b;simp at m ⊢;have r:=not_congr (y (dm T a+j) (by omega));have A:¬(T[dm T a+j]).1=a:=by
   intro e;have:dw T a=true:=Ci.2 ⟨T[dm T a+j],pY _,by simpa using e⟩;rw[this] at u;cases u
  have B:=r.1 (by omega);omega
 .intro p z q b;obtain⟨i,hi,rfl⟩:=oM.1 z;have l:i<dm T a/\i<T.length:=by rw[A3] at hi;omega
  have r:=(y i l.2).1 l.1;rcases ic.1 b with rfl|b
  .simpa using r
  .obtain⟨j,m,rfl⟩:=oM.1 b;simp at m ⊢;exact et h (by omega) (by omega)
theorem iS(T:Tb)(a v:Int):(gI T a v).length=T.length+1:=by
 have:=lY T a;simp[gI];omega
end Sp
section
open Go.RowKit
theorem eu{P:Program}(w:TJ)(C E F elem:TypeId)(z g o e m:Nat)(a:Addr)(l r:Nat)(b:Array TK)(t:TypeId)(cs:List TK)(hu:P.underlying C=some (.slice elem))(D:(P.info? elem).map (·.size)=some z)(G:w.heap[g]?=some (.cells b t (0,0)))(k:Nat)(H:Nat.min l e=k)(I:cs.length=k*z)(u:∀j v,cs[j]?=some v->w.cell? (a.add j)=some v)(y:o+cs.length<=b.size)(h1:∀v∈cs,v.oneCell'=true):(Builtin.copy_ #[C,E] F #[.slice (some ⟨g,o,none⟩) e m,.slice (some a) l r]).run P w =
   .ok (goInt k) (w.setRow g (b.toList.take o++cs++b.toList.drop (o+cs.length)).toArray):=by
 have J:=run_loadCells_list (P:=P) w a cs u;have A:=run_storeCells_at P g o t cs 0 b w G (by simpa using y) h1;cases B:P.info? elem with
 |none=>simp[B] at D
 |some i =>
  have hi:i.size=z:=by simpa [B] using D
  simp[Builtin.copy_,run_underlying hu,Builtin.lenOf,Builtin.firstCells,sizeOf,typeInfo,B,hi,H,<-I,J,A]
end
namespace Sp
open Go
def gv:List (Option Ln)->Nat->Tb->Except Nat Tb
 |[],_,T=>.ok T
 |none::r,k,T=>gv r (k+1) T
 |some l::r,k,T=>if l.iR=true then gv r (k+1) T else if dw T l.de=true then .error k else gv r (k+1) (gI T l.de l.n)
variable {k:Nat}{P:List (Option Ln)}
theorem Oy(h:P.length<=k)(T:Tb): gv (P.drop k) k T=.ok T:=by
 rw[Dl h];rfl
theorem L1(h:k<P.length)(T:Tb)(he:¬pk P[k]=1): gv (P.drop k) k T=gv (P.drop (k+1)) (k+1) T:=by
 rw[kp h];cases b:P[k] with
 |none=>rfl
 |some l =>
  rw[b] at he;have:l.iR=true:=by
   cases e:l.iR with
   |true=>rfl
   |false=>exact absurd (by simp[pk,e]) he
  simp only[gv,this,l9]
theorem GI{p:Option Ln}(h:pk p=1):∃l,p=some l/\l.iR=false/\pa p=l.de/\pn p=l.n:=by
 cases p with
 |none=>simp[pk] at h
 |some l =>
  cases b:l.iR with
  |true=>simp[pk,b] at h
  |false=>exact⟨l,rfl,b,rfl,rfl⟩
theorem H6{p:Option Ln}(h:pk p=2):∃l,p=some l/\l.iR=true/\pa p=l.de/\pb p=l.vo/\pn p=l.n:=by
 cases p with
 |none=>simp[pk] at h
 |some l =>
  cases b:l.iR with
  |false=>simp[pk,b] at h
  |true=>exact⟨l,rfl,b,rfl,by simp[pb,b],rfl⟩
theorem It(h:k<P.length)(T:Tb)(he:pk P[k]=1)(ht:dw T (pa P[k])=true): gv (P.drop k) k T=.error k:=by
 rw[kp h];obtain⟨l,b,e,j,m⟩:=GI he;rw[j] at ht;rw[b];simp only[gv,e,ht];rfl
theorem OQ(h:k<P.length)(T:Tb)(he:pk P[k]=1)(ht:dw T (pa P[k])=false): gv (P.drop k) k T=gv (P.drop (k+1)) (k+1) (gI T (pa P[k]) (pn P[k])):=by
 rw[kp h];obtain⟨l,e,j,b,m⟩:=GI he;rw[b,m];rw[b] at ht;rw[e];simp only[gv,j,ht];rfl
def ge(T:Tb):List (Option Ln)->Nat->List Ed->Except Nat (List Ed)
 |[],_,E=>.ok E
 |none::r,k,E=>ge T r (k+1) E
 |some l::r,k,E=>if l.iR=true then (if dw T l.de=true/\dw T l.vo=true then ge T r (k+1) (E++[⟨dm T l.de,dm T l.vo,l.n⟩]) else .error k) else ge T r (k+1) E
variable {T:Tb}
theorem NY(h:P.length<=k)(E:List Ed): ge T (P.drop k) k E=.ok E:=by
 rw[Dl h];rfl
theorem KW(h:k<P.length)(E:List Ed)(he:¬pk P[k]=2): ge T (P.drop k) k E=ge T (P.drop (k+1)) (k+1) E:=by
 rw[kp h];cases b:P[k] with
 |none=>rfl
 |some l =>
  rw[b] at he;have:l.iR=false:=by
   cases e:l.iR with
   |false=>rfl
   |true=>exact absurd (by simp[pk,e]) he
  simp only[ge,this];rfl
theorem IK(h:k<P.length)(E:List Ed)(he:pk P[k]=2)(ht:¬(dw T (pa P[k])=true/\dw T (pb P[k])=true)): ge T (P.drop k) k E=.error k:=by
 rw[kp h];obtain⟨l,b,e,j,m,r⟩:=H6 he;rw[j,m] at ht;rw[b];simp only[ge,e,ht,l9,yI]
theorem MQ(h:k<P.length)(E:List Ed)(he:pk P[k]=2)(ha:dw T (pa P[k])=true)(hb:dw T (pb P[k])=true): ge T (P.drop k) k E=ge T (P.drop (k+1)) (k+1) (E++[⟨dm T (pa P[k]),dm T (pb P[k]),pn P[k]⟩]):=by
 rw[kp h];obtain⟨l,j,m,b,e,r⟩:=H6 he;rw[b] at ha;rw[e] at hb;rw[b,e,r,j];simp only[ge,m,ha,hb,and_self,l9]
end Sp
end Go.Proofs.YtgkkdpegcieakaaGreatDoor
