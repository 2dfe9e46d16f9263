import Derived.Test.YtgkkdpegcieakaaGreatDoorCz15
import Derived.Test.YtgkkdpegcieakaaGreatDoorCz18
import Derived.Test.YtgkkdpegcieakaaGreatDoorCz21
import Derived.Test.YtgkkdpegcieakaaGreatDoorCz26
set_option linter.unusedVariables false
set_option linter.unusedSimpArgs false
set_option maxRecDepth 100000
set_option maxHeartbeats 16000000
namespace Go.Proofs.YtgkkdpegcieakaaGreatDoor
open Go.Proofs.Tryz
open Value renaming int→Z
open IntKind renaming i64→Y
open Go renaming World→TJ,Value→TK,Calls→TL
namespace Ru
open Go Sp
open Go.Lib (decDigits)
def dc(n:Nat):TM:=⟨(decDigits n).toArray⟩
variable {n:Nat}
theorem o8(h:n<10): decDigits n=[UInt8.ofNat (48+n)]:=by rw[decDigits,dif_pos h]
theorem zn(h:¬n<10): decDigits n=decDigits (n/10)++[UInt8.ofNat (48+n%10)]:=by rw[decDigits,dif_neg h]
theorem I0:∀(n:Nat),∀x∈decDigits n,48<=x.toNat/\x.toNat<=57:=by
 intro n
 induction n using Nat.strongRecOn with
 |ind n j =>
  intro x e;by_cases h:n<10
  .rw[o8 h,eh] at e;subst e;simp only[UInt8.toNat_ofNat'];omega
  .rw[zn h,cJ,eh] at e;rcases e with e|rfl
   .exact j (n/10) (by omega) x e
   .simp only[UInt8.toNat_ofNat'];omega
def nv(l:List UInt8):Nat:=l.foldl (λn x=>10*n+(x.toNat-48)) 0
theorem Eo(l:List UInt8)(x:UInt8):nv (l++[x])=10*nv l+(x.toNat-48):=by unfold nv;rw[List.foldl_append];rfl
theorem I6:∀(n:Nat),nv (decDigits n)=n:=by
 intro n
 induction n using Nat.strongRecOn with
 |ind n e =>
  by_cases h:n<10
  .rw[o8 h]
   show 10*0+((UInt8.ofNat (48+n)).toNat-48)=n
   simp only[UInt8.toNat_ofNat'];omega
  .rw[zn h,Eo,e (n/10) (by omega)];simp only[UInt8.toNat_ofNat'];omega
variable {a b:Nat}
theorem N6(h:decDigits a=decDigits b): a=b:=by rw[<-I6 a,<-I6 b,h]
theorem OJ(n:Nat):0<(decDigits n).length:=by
 by_cases h:n<10
 .rw[o8 h];exact Nat.one_pos
 .rw[zn h,lN];simp
theorem Ha:∀(k n:Nat),n<10 ^ (k+1)->(decDigits n).length<=k+1:=by
 intro k
 induction k with
 |zero=>intro n h;rw[o8 (by simpa using h)];exact b7 _
 |succ k j =>
  intro n h;by_cases e:n<10
  .rw[o8 e];show 1<=_;omega
  .rw[zn e,lN];have:=j (n/10) (by rw[Nat.pow_succ] at h;omega)
   show (decDigits (n/10)).length+1<=_
   omega
theorem qM(n:Nat):(dc n).size=(decDigits n).length:=by simp[dc,ByteArray.size]
theorem Na(h:dc a=dc b): a=b:=by
 unfold dc at h;injection h with h;exact N6 (by simpa using congrArg Array.toList h)
def nm(c:UInt8)(step:Nat):TM:=⟨#[c,46]⟩++dc step
theorem rO(a b:UInt8):(⟨#[a,b]⟩:TM).size=2:=rfl
theorem jU(c:UInt8)(step:Nat):(nm c step).size=2+(dc step).size:=by unfold nm;rw[cM,rO]
theorem zf(c:UInt8)(step:Nat):(nm c step).extract 2 (nm c step).size=dc step:=by
 apply jK
 .rw[cK,jU];omega
 .intro i hi;rw[cK,jU] at hi;rw[fV _ _ _ _ TG (by rw[jU];omega)];exact nG _ _ i 2 (rO _ _) (by omega)
theorem rk(c:UInt8)(step:Nat):(nm c step).extract 0 2=⟨#[c,46]⟩:=by
 apply jK
 .rw[cK,jU,rO];omega
 .intro i hi;rw[cK,jU] at hi;rw[fV _ _ _ _ (by rw[jU];omega) (by omega),eW];exact kN _ _ i (by rw[rO];omega)
theorem sD{c d:UInt8}(h:nm c a=nm d b): c=d/\a=b:=by
 have e:=rk c a;have j:=zf c a;rw[h] at e j;rw[rk] at e;rw[zf] at j;exact⟨by injection e with e;have e:=congrArg Array.toList e;simp only[Qv] at e;exact e.1.symm,Na j.symm⟩
def nt(s:TM):Nat->Nat
 |0=>0
 |k+1=>10*nt s k+(bt s (k+2)-48)
theorem Qr(s:TM)(l:List UInt8)(k:Nat)(j:k<=l.length)(h:∀i (hi:i<l.length),bt s (i+2)=(l[i]).toNat):nt s k=nv (l.take k):=by
 induction k with
 |zero=>rfl
 |succ k e =>
  rw[nt,e (by omega),zQ (by omega),Eo,h k (by omega)]
def so(s:TM):Option Nat:=if 3<=s.size/\dc (nt s (s.size-2))=s.extract 2 s.size then some (nt s (s.size-2)) else none
variable {s:TM}
theorem Lt(h:so s=some n): 3<=s.size/\s.extract 2 s.size=dc n:=by
 unfold so at h;split at h
 .rename_i e;injection h with h;subst h;exact⟨e.1,e.2.symm⟩
 .cases h
theorem P5(j:3<=s.size)(h:s.extract 2 s.size=dc n): so s=some n:=by
 have l:s.size-2=(decDigits n).length:=by rw[<-qM,<-h,cK];omega
 have m:nt s (s.size-2)=n:=by
  rw[Qr s (decDigits n) (s.size-2) (by omega) (λi hi=>?_),l,wI,I6];have e:bt (s.extract 2 s.size) i=bt s (2+i):=fV s 2 s.size i TG (by omega);rw[h,<-jP (dc n) i (by rw[qM];exact hi)] at e;rw[Nat.add_comm i 2,<-e]
  rfl
 unfold so;rw[m,cg ⟨j,h.symm⟩]
theorem GM(c:UInt8)(n:Nat):so (nm c n)=some n:=by
 refine P5 ?_ (zf c n);have:=OJ n;rw[jU,qM];omega
theorem Hv(h:2<=s.size): s=s.extract 0 2++s.extract 2 s.size:=by
 apply jK
 .rw[cM,cK,cK];omega
 .intro i hi;by_cases e:i<2
  .rw[kN _ _ _ (by rw[cK];omega),fV _ _ _ _ h (by omega),eW]
  .obtain⟨j,rfl⟩:∃j,i=2+j:=⟨i-2,by omega⟩
   rw[nG _ _ j 2 (by rw[cK];omega) (by rw[cK];omega),fV _ _ _ _ TG (by omega)]
theorem qi{c:UInt8}: s=nm c n↔so s=some n/\s.extract 0 2=⟨#[c,46]⟩:=by
 constructor
 .rintro rfl;exact⟨GM c n,rk c n⟩
 .rintro⟨e,j⟩;obtain⟨m,l⟩:=Lt e;rw[Hv (s:=s) (by omega),j,l];rfl
end Ru
namespace Ru
open Go Sp
open Rd (Rk)
def u64(x:Int):Nat:=(x%18446744073709551616).toNat
def pR(n:Nat):Int:=if n<9223372036854775808 then (n:Int) else (n:Int)-18446744073709551616
theorem qt(x:Int):u64 x<18446744073709551616:=by unfold u64;omega
variable {n:Nat}
theorem DV(h:n<18446744073709551616): u64 (pR n)=n:=by unfold u64 pR;split <;> omega
theorem CV(h:n<18446744073709551616): Sp.i64 (pR n):=by unfold Sp.i64 pR;split <;> omega
def num(s:TM)(o:Nat):Nat->Nat
 |0=>0
 |k+1=>bt s o+256*num s (o+1) k
theorem gV(s:TM):∀(k o:Nat),num s o k<256 ^ k
 |0,o=>Nat.one_pos
 |k+1,o=>by
  have e:=gV s k (o+1);have j:=jh s o;rw[num,Nat.pow_succ];omega
theorem Kf(s:TM):∀(k o n:Nat),(∀i,i<k->bt s (o+i)=n/256 ^ i%256)->num s o k=n%256 ^ k
 |0,o,n,h=>by simp[num,Nat.mod_one]
 |k+1,o,n,h=>by
  rw[num,Kf s k (o+1) (n/256) (λi hi=>?_)]
  .have e:=h 0 (by omega);rw[ub,Nat.pow_zero,Nat.div_one] at e;rw[e,Nat.pow_succ,M7 (256 ^ k) 256,Nat.mod_mul]
  .have j:=h (i+1) (by omega);rw[show o+1+i=o+(i+1) by omega,j,Nat.pow_succ,M7 (256 ^ i) 256,Nat.div_div_eq_div_mul]
theorem Bc(s:TM):∀(k o i:Nat),i<k->num s o k/256 ^ i%256=bt s (o+i)
 |0,o,i,h=>by omega
 |k+1,o,i,h=>by
  have j:=jh s o;rw[num];cases i with
  |zero=>simp only[Nat.pow_zero,Nat.div_one,ub];omega
  |succ i =>
   have e:=Bc s k (o+1) i (by omega);rw[Nat.pow_succ,M7 (256 ^ i) 256,<-Nat.div_div_eq_div_mul,show (bt s o+256*num s (o+1) k)/256=num s (o+1) k by omega,e,show o+(i+1)=o+1+i by omega]
theorem yF(s:TM)(o k:Nat)(h:o+k<=s.size):nJ (num s o k) k=s.extract o (o+k):=by
 apply jK
 .rw[dJ,cK];omega
 .intro i hi;rw[dJ] at hi;rw[MG _ _ _ hi,Bc s k o i hi,fV s o (o+k) i h (by omega)]
theorem r7{s:TM}{o k:Nat}(h:s.extract o (o+k)=nJ n k)(e:o+k<=s.size): num s o k=n%256 ^ k:=Kf s k o n λi hi=>by rw[<-fV s o (o+k) i e (by omega),h,MG _ _ _ hi]
variable {a b:Nat}
theorem qI(s:TM){c:Nat}(h1:a<=b)(h2:b<=c)(e:c<=s.size): s.extract a b++s.extract b c=s.extract a c:=by
 apply jK
 .rw[cM,cK,cK,cK];omega
 .intro i hi;rw[cM,cK,cK] at hi;rw[fV s a c i e (by omega)];by_cases h:i<b-a
  .rw[kN _ _ _ (by rw[cK];omega),fV s a b i (by omega) (by omega)]
  .obtain⟨j,rfl⟩:∃j,i=(b-a)+j:=⟨i-(b-a),by omega⟩
   rw[nG _ _ j (b-a) (by rw[cK];omega) (by rw[cK];omega),fV s b c j e (by omega)]
   congr 1;omega
theorem Bm(s:TM)(a:Nat):s.extract a a=⟨#[]⟩:=by
 apply jK
 .rw[cK];show min a s.size-a=0;omega
 .intro i hi;rw[cK] at hi;omega
theorem pq(s:TM):s.extract 0 s.size=s:=by
 apply jK
 .rw[cK];omega
 .intro i hi;rw[cK] at hi;rw[fV s 0 s.size i TG (by omega),eW]
theorem Jn(a b:TM)(h:a.size=n): (a++b).extract 0 n=a:=by
 subst h;apply jK
 .rw[cK,cM];omega
 .intro i hi;rw[cK,cM] at hi;rw[fV _ _ _ _ (by rw[cM];omega) (by omega),eW,kN _ _ _ (by omega)]
theorem eE(a b:TM){x y:Nat}(h:y<=a.size):(a++b).extract x y=a.extract x y:=by
 apply jK
 .rw[cK,cK,cM];omega
 .intro i hi;rw[cK,cM] at hi;rw[fV _ _ _ _ (by rw[cM];omega) (by omega),fV _ _ _ _ h (by omega),kN _ _ _ (by omega)]
theorem wU(a b:TM){x y:Nat}(h:a.size=x)(h2:y=x+b.size):(a++b).extract x y=b:=by
 subst h h2;apply jK
 .rw[cK,cM];omega
 .intro i hi;rw[cK,cM] at hi;rw[fV _ _ _ _ (by rw[cM];omega) (by omega),D7 _ _ _ (by omega)]
def rB(b:Bool):TM:=⟨#[if b=true then 1 else 0]⟩
def vB(c:Cfg):Nat->TM
 |0=>⟨#[]⟩
 |k+1=>vB c k++nJ (u64 (c.val.getD k 0)) 8++rB (c.fC.getD k false)
def mB(c:Cfg):Nat->TM
 |0=>⟨#[]⟩
 |k+1=>mB c k++nJ (u64 (c.iK.getD k 0)) 4++nJ (u64 (c.je.getD k 0)) 8
def kB(step:Nat)(all:Int)(cX a b:Nat):TM:=nJ step 4++nJ (u64 all) 8++nJ cX 4++nJ a 4++nJ b 4
theorem rH(b:Bool):(rB b).size=1:=rfl
theorem fw(c:Cfg):∀k,(vB c k).size=9*k
 |0=>rfl
 |k+1=>by rw[vB,cM,cM,fw c k,dJ,rH];omega
theorem ga(c:Cfg):∀k,(mB c k).size=12*k
 |0=>rfl
 |k+1=>by rw[mB,cM,cM,ga c k,dJ,dJ];omega
theorem l5(step:Nat)(all:Int)(cX a b:Nat):(kB step all cX a b).size=24:=by unfold kB;simp only[cM,dJ]
def gC(v m k:TM)(n:Nat):Cfg:=⟨(List.range n).map λi=>pR (num v (9*i) 8),(List.range n).map λi=>bt v (9*i+8) == 1,(List.range n).map λi=>((num m (12*i) 4:Nat):Int),(List.range n).map λi=>pR (num m (12*i+4) 8),pR (num k 4 8)⟩
theorem gr{α : Type}(f:Nat->α)(d : α){i:Nat}(h:i<n): ((List.range n).map f).getD i d=f i:=by
 rw[cL,K1,List.getElem?_range h];rfl
theorem Rn(s:TM)(o:Nat)(h:o<s.size)(hb:bt s o<=1):rB (bt s o == 1)=s.extract o (o+1):=by
 apply jK
 .rw[rH,cK];omega
 .intro i hi;rw[rH] at hi;obtain rfl:i=0:=by omega
  rw[fV s o (o+1) 0 (by omega) (by omega),ub];rcases Nat.lt_or_ge (bt s o) 1 with e|e
  .have e:bt s o=0:=by omega
   rw[e];rfl
  .have e:bt s o=1:=by omega
   rw[e];rfl
theorem I5(v m k:TM)(l:v.size=9*n)(e:∀i,i<n->bt v (9*i+8)<=1): ∀j,j<=n->vB (gC v m k n) j=v.extract 0 (9*j)
 |0,_=>(Bm v 0).symm
 |j+1,y=>by
  have r:(gC v m k n).val.getD j 0=pR (num v (9*j) 8):=gr _ _ (by omega);have u:(gC v m k n).fC.getD j false=(bt v (9*j+8) == 1):=gr _ _ (by omega);rw[vB,I5 v m k l e j (by omega),r,u,DV (gV v 8 _),yF v _ _ (by omega),Rn v _ (by omega) (e j (by omega)),qI v (by omega) (by omega) (by omega),qI v (by omega) (by omega) (by omega)]
  rfl
theorem G5(v m k:TM)(e:m.size=12*n): ∀j,j<=n->mB (gC v m k n) j=m.extract 0 (12*j)
 |0,_=>(Bm m 0).symm
 |j+1,y=>by
  have l:(gC v m k n).iK.getD j 0=((num m (12*j) 4:Nat):Int):=gr _ _ (by omega);have r:(gC v m k n).je.getD j 0=pR (num m (12*j+4) 8):=gr _ _ (by omega);have u:u64 ((num m (12*j) 4:Nat):Int)=num m (12*j) 4:=by
   have:=gV m 4 (12*j);have z:(256:Nat) ^ 4=4294967296:=by decide
   unfold u64;omega
  rw[mB,G5 v m k e j (by omega),l,r,u,DV (gV m 8 _),yF m _ _ (by omega),yF m _ _ (by omega),qI m (by omega) (by omega) (by omega),qI m (by omega) (by omega) (by omega)]
  rfl
theorem Hn(c:Cfg):∀(n i:Nat),i<n->bt (vB c n) (9*i+8)<=1
 |0,i,h=>by omega
 |n+1,i,h=>by
  rw[vB];by_cases hi:i<n
  .rw[kN _ _ _ (by rw[cM,fw,dJ];omega),kN _ _ _ (by rw[fw];omega)];exact Hn c n i hi
  .obtain rfl:i=n:=by omega
   rw[nG _ _ 0 (9*i+8) (by rw[cM,fw,dJ]) (by rw[rH];omega)];cases c.fC.getD i false <;> decide
variable {cX:Nat}
theorem Nn{step:Nat}{all:Int}: num (kB step all cX a b) 0 4=step%4294967296:=by
 rw[r7 (n:=step) (o:=0) (k:=4) ?_ (by rw[l5];omega)];unfold kB;rw[eE _ _ (by simp only[cM,dJ];omega),eE _ _ (by simp only[cM,dJ];omega),eE _ _ (by simp only[cM,dJ];omega),Jn _ _ (dJ _ _)]
theorem P3{step:Nat}{all:Int}: num (kB step all cX a b) 4 8=u64 all:=by
 rw[r7 (n:=u64 all) (o:=4) (k:=8) ?_ (by rw[l5];omega)]
 .exact Nat.mod_eq_of_lt (qt all)
 .unfold kB;rw[eE _ _ (by simp only[cM,dJ];omega),eE _ _ (by simp only[cM,dJ];omega),eE _ _ (by simp only[cM,dJ];omega),wU _ _ (dJ _ _) (by rw[dJ])]
theorem nB{s:TM}(h:okB s=true):dj (dt s)=s:=by
 have e:8<=s.size:=by unfold okB at h;exact(Oh h).1
 have j:=(y9 e).1 h;rw[yz h];unfold dj;rw[<-j,qI s (by omega) (by omega) TG,pq]
structure Fm (F:TM->TM) (n cX:Nat) (a:TM) (st:Nat):Prop where
 ok:okB (F a)=true
 sz:(dt (F a)).size=24
 Rf:st=num (dt (F a)) 0 4
 Re:nm 99 st=a
 sum:F a=dj (kB st (pR (num (dt (F a)) 4 8)) cX (ie (F (nm 118 st))) (ie (F (nm 109 st))))
 QI:okB (F (nm 118 st))=true
 Rx:(dt (F (nm 118 st))).size=9*n
 Rz:okB (F (nm 109 st))=true
 Rq:(dt (F (nm 109 st))).size=12*n
 fC:∀i,i<n->bt (dt (F (nm 118 st))) (9*i+8)<=1
def fR(F:TM->TM)(n st:Nat):Cfg:=gC (dt (F (nm 118 st))) (dt (F (nm 109 st))) (dt (F (nm 99 st))) n
theorem sx(F:TM->TM)(n st:Nat):(fR F n st).all=pR (num (dt (F (nm 99 st))) 4 8):=by simp only[fR,gC]
structure Fq (F:TM->TM) (n cX st:Nat):Prop where
 QI:okB (F (nm 118 st))=true
 Rz:okB (F (nm 109 st))=true
 Rr:okB (F (nm 99 st))=true
 Rx:(dt (F (nm 118 st))).size=9*n
 Rq:(dt (F (nm 109 st))).size=12*n
 RD:(dt (F (nm 99 st))).size=24
 lt:st<4294967296
 v:vB (fR F n st) n=dt (F (nm 118 st))
 m:mB (fR F n st) n=dt (F (nm 109 st))
 k:kB st (fR F n st).all cX (ie (dj (vB (fR F n st) n))) (ie (dj (mB (fR F n st) n)))=dt (F (nm 99 st))
variable {F:TM->TM}{st:Nat}
theorem Fm.RA{a:TM}(h:Fm F n cX a st): Fq F n cX st:=by
 obtain⟨A,B,C,D,E,r,j,u,l,m⟩:=h;subst D;have y:vB (fR F n st) n=dt (F (nm 118 st)):=by
  unfold fR;rw[I5 _ _ _ j m n TG,<-j,pq]
 have z:mB (fR F n st) n=dt (F (nm 109 st)):=by
  unfold fR;rw[G5 _ _ _ l n TG,<-l,pq]
 refine⟨r,u,A,j,l,B,?_,y,z,?_⟩
 .rw[C];exact gV _ 4 0
 .have e:=congrArg dt E;rw[gR] at e;rw[y,z,nB r,nB u,sx];exact e.symm
theorem Fq.QT(h:Fq F n cX st): Fm F n cX (nm 99 st) st:=by
 obtain⟨l,m,r,y,z,A,B,u,C,j⟩:=h;rw[u,C,nB l,nB m] at j;refine⟨r,A,?_,rfl,?_,l,y,m,z,λi hi=>?_⟩
 .have e:=Nn (step:=st) (all:=(fR F n st).all) (cX:=cX) (a:=ie (F (nm 118 st))) (b:=ie (F (nm 109 st)));rw[j,Nat.mod_eq_of_lt B] at e;exact e.symm
 .rw[<-sx F n st,j,nB r]
 .rw[<-u];exact Hn _ _ _ hi
theorem La{a:TM}: Fm F n cX a st↔so a=some st/\a.extract 0 2=⟨#[99,46]⟩/\Fq F n cX st:=by
 constructor
 .intro h;obtain⟨e,j⟩:=qi.1 h.Re.symm;exact⟨e,j,h.RA⟩
 .rintro⟨e,j,l⟩;rw[qi.2 ⟨e,j⟩];exact l.QT
end Ru
namespace Ru
open Go.RowKit
open Sp (nJ ie bt dj dt okB)
open Go.Lib (decDigits)
theorem J4(s:TM)(j k:Nat):bt s j+256*num s (j+1) k=num s j (k+1):=rfl
theorem AA(n:Nat)(h:n<=9999999999):(dc n).size<=10:=by
 rw[qM];exact Ha 9 n (by omega)
def Hy(g p:TM)(cT:Nat):TM:=g++⟨#[0]⟩++p++⟨#[0]⟩++dc cT
def pQ(g p:TM)(cT:Nat):Nat:=ie (Hy g p cT)
end Ru
namespace Ru
open Go.RowKit
open Sp (nJ ie bt dj dt okB)
theorem Rw(s:TM)(a:Nat)(b:Int)(ha:b=(a:Int))(h2:a<=s.size)(W:TJ):Sem.run prog (Instr.slice 9 (.string s) (some (Z Y b)) none none) W=.ok (.string (s.extract a s.size)) W:=by
 subst ha;have:=run_slice_string_l (P:=prog) W 9 s underlying9 Y (a:Int) (by omega) (by omega);simpa using this
theorem Q6(s:TM)(i:Nat)(b:Int)(hi:b=(i:Int))(h:i<s.size)(W:TJ):Sem.run prog (Instr.index 9 (.string s) (Z Y b)) W=.ok (Z .u8 (bt s i:Nat)) W:=by
 subst hi;have e:(i:Int)<(s.size:Int):=by omega
 rw[<-Sp.jP s i h];simp[go_sem,h,e]
end Ru
namespace Ru
open Go Sp
open Rd (Rk e0)
def ins:List Nat->Nat->List Nat
 |[],x=>[x]
 |y::l,x=>if x<y then x::y::l else y::ins l x
def oo(A:List Nat):List Nat:=A.foldl ins []
def mg(l:List Nat):Prop:=l.Pairwise (· < ·)
theorem yw{l:List Nat}{x y:Nat}:y∈ins l x↔y=x\/y∈l:=by
 induction l with
 |nil=>simp[ins]
 |cons z l b =>
  unfold ins;split
  .simp
  .rw[ic,b,ic];constructor
   .rintro(h|h|h)
    .exact Or.inr (Or.inl h)
    .exact Or.inl h
    .exact Or.inr (Or.inr h)
   .rintro(h|h|h)
    .exact Or.inr (Or.inl h)
    .exact Or.inl h
    .exact Or.inr (Or.inr h)
theorem Ly(l:List Nat)(x:Nat):(ins l x).length=l.length+1:=by
 induction l with
 |nil=>rfl
 |cons z l b =>
  unfold ins;split
  .rfl
  .rw[cD,b];rfl
theorem Lg{l:List Nat}(h:mg l){x:Nat}(r:x∉l):mg (ins l x):=by
 induction l with
 |nil=>exact List.pairwise_singleton _ _
 |cons z l u =>
  have j:=sQ.1 h;have A:x≠z:=λe=>r (by rw[e];exact mz)
  unfold ins;split
  .rename_i b;refine sQ.2 ⟨λy m=>?_,h⟩;rcases ic.1 m with e|e
   .rw[e];exact b
   .exact Nat.lt_trans b (j.1 y e)
  .rename_i b;refine sQ.2 ⟨λy m=>?_,u j.2 (λe=>r (ts _ e))⟩;rcases yw.1 m with e|e
   .rw[e];omega
   .exact j.1 y e
theorem zU(A:List Nat):∀(l:List Nat),mg l->A.Nodup->(∀x∈A,x∉l)->mg (A.foldl ins l)/\(∀y,y∈A.foldl ins l↔y∈A\/y∈l)/\(A.foldl ins l).length=A.length+l.length:=by
 induction A with
 |nil=>intro l h _ _;exact⟨h,λy=>by simp,by simp⟩
 |cons a A m =>
  intro l h r hd;have b:=List.nodup_cons.1 r;obtain⟨u,z,B⟩:=m (ins l a) (Lg h (hd a mz)) b.2 (λx j e=>by
   rcases yw.1 e with e|e
   .exact b.1 (e ▸ j)
   .exact hd x (ts _ j) e)
  refine⟨u,λy=>?_,?_⟩
  .rw[List.foldl_cons,z,yw,ic];constructor
   .rintro(h|h|h)
    .exact Or.inl (Or.inr h)
    .exact Or.inl (Or.inl h)
    .exact Or.inr h
   .rintro((h|h)|h)
    .exact Or.inr (Or.inl h)
    .exact Or.inl h
    .exact Or.inr (Or.inr h)
  .rw[List.foldl_cons,B,Ly,cD];omega
theorem xI{A:List Nat}(h:A.Nodup):mg (oo A):=(zU A [] List.Pairwise.nil h (λx _ b=>by cases b)).1
theorem sG{A:List Nat}(h:A.Nodup)(y:Nat):y∈oo A↔y∈A:=by
 rw[show oo A=A.foldl ins [] from rfl,(zU A [] List.Pairwise.nil h (λx _ b=>by cases b)).2.1];simp
theorem DG:∀{a b:List Nat},mg a->mg b->(∀y,y∈a↔y∈b)->a=b
 |[],[],_,_,_=>rfl
 |[],y::b,_,_,h=>absurd ((h y).2 mz) (by simp)
 |x::a,[],_,_,h=>absurd ((h x).1 mz) (by simp)
 |x::a,y::b,r,hb,h=>by
  have j:=sQ.1 r;have l:=sQ.1 hb;have e:x=y:=by
   rcases ic.1 ((h x).1 mz) with e|e
   .exact e
   .rcases ic.1 ((h y).2 mz) with e2|e2
    .exact e2.symm
    .have u:=l.1 x e;have A:=j.1 y e2;omega
  subst e;refine congrArg (x :: ·) (DG j.2 l.2 λz=>?_);constructor
  .intro m;rcases ic.1 ((h z).1 (ts _ m)) with e|e
   .have:=j.1 z m;omega
   .exact e
  .intro m;rcases ic.1 ((h z).2 (ts _ m)) with e|e
   .have:=l.1 z m;omega
   .exact e
def tU(W:Nat->Prop)[DecidablePred W](a:TM):Option Nat:=match so a with
 |none=>none
 |some s=>if a.extract 0 2=⟨#[99,46]⟩/\W s then some s else none
def th(W:Nat->Prop)[DecidablePred W](L:List TM):List Nat:=L.filterMap (tU W)
theorem nF{W:Nat->Prop}[DecidablePred W]{a:TM}{s:Nat}(h:tU W a=some s):a=nm 99 s/\W s:=by
 unfold tU at h;cases b:so a with
 |none=>rw[b] at h;cases h
 |some t =>
  rw[b] at h;simp only at h;split at h
  .rename_i e;injection h with h;subst h;exact⟨qi.2 ⟨b,e.1⟩,e.2⟩
  .cases h
theorem kV{W:Nat->Prop}[DecidablePred W]{L:List TM}(h:L.Nodup):(th W L).Nodup:=by
 induction L with
 |nil=>exact List.Pairwise.nil
 |cons a L l =>
  have j:=List.nodup_cons.1 h;unfold th;rw[List.filterMap_cons];cases r:tU W a with
  |none=>exact l j.2
  |some s =>
   refine List.nodup_cons.2 ⟨λu=>?_,l j.2⟩;obtain⟨b,m,e⟩:=List.mem_filterMap.1 u;have y:=(nF r).1;have z:=(nF e).1;rw[z,<-y] at m;exact j.1 m
def B5(K:List Nat)(a:TM):Bool:=match so a with
 |none=>false
 |some s=>K.contains s&&(decide (a.extract 0 2=⟨#[99,46]⟩) || decide (a.extract 0 2=⟨#[109,46]⟩) || decide (a.extract 0 2=⟨#[118,46]⟩))
theorem nT{K:List Nat}{a:TM}:B5 K a=true↔∃s∈K,a=nm 99 s\/a=nm 109 s\/a=nm 118 s:=by
 unfold B5;cases b:so a with
 |none =>
  refine⟨λh=>(by cases h),?_⟩;rintro⟨s,_,h|h|h⟩ <;> · rw[h,GM] at b;cases b
 |some t =>
  simp only[Ns,Bool.or_eq_true,decide_eq_true_eq,List.contains_iff_mem];constructor
  .rintro⟨e,(j|j)|j⟩
   .exact⟨t,e,Or.inl (qi.2 ⟨b,j⟩)⟩
   .exact⟨t,e,Or.inr (Or.inl (qi.2 ⟨b,j⟩))⟩
   .exact⟨t,e,Or.inr (Or.inr (qi.2 ⟨b,j⟩))⟩
  .rintro⟨s,e,h|h|h⟩ <;> · obtain⟨l,m⟩:=qi.1 h;rw[b] at l;injection l with l;subst l;simp[e,m]
structure Oq where
 k:Nat
 a:TM
 b:TM
def dz(R:Rk)(o:Oq):Int × Rk:=if o.k=1 then R.create o.a else if o.k=2 then R.append o.a o.b else if o.k=3 then R.sync o.a else if o.k=4 then R.rename o.a o.b else if o.k=5 then R.remove o.a else R.eY
def eg(R:Rk):List Oq->Int × Rk
 |[]=>(0,R)
 |o::r=>if (dz R o).1=0 then eg (dz R o).2 r else dz R o
theorem iE(R:Rk):∀(l m:List Oq),eg R (l++m)=if (eg R l).1=0 then eg (eg R l).2 m else eg R l
 |[],m=>by simp[eg]
 |o::l,m=>by
  rw[mf,eg,eg];by_cases h:(dz R o).1=0
  .rw[cg h,cg h,iE (dz R o).2 l m]
  .rw[cd h,cd h,cd h]
def m7(a:TM):Oq:=⟨5,a,e0⟩
def nS:Oq:=⟨6,e0,e0⟩
def dO(L:List TM)(K:List Nat):List Oq:=let r:=(L.filter λa=>!B5 K a).map m7
 if r=[] then [] else r++[nS]
def eQ(a p:TM):List Oq:=[⟨1,a,e0⟩,⟨2,a,dj p⟩,⟨3,a,e0⟩]
def tN:TM:=⟨#[116]⟩
def eK(c:Cfg)(n step cX:Nat):List Oq:=eQ (nm 118 step) (vB c n)++eQ (nm 109 step) (mB c n)++eQ tN (kB step c.all cX (ie (dj (vB c n))) (ie (dj (mB c n))))++[⟨4,tN,nm 99 step⟩,nS]
def drop1(s:Nat):List Oq:=[m7 (nm 99 s),m7 (nm 109 s),m7 (nm 118 s)]
def fE(K:List Nat):List Oq:=if K=[] then [] else K.flatMap drop1++[nS]
end Ru
namespace Ru
open Go Sp
open Rd (Rk e0 Ch)
open Pk (Sm)
def gz(R:Rk)(l:List Oq)(n b:Nat):Prop := ∀i,i<=l.length->Sm (eg R (l.take i)).2 n b
variable {n b:Nat}{l:List Oq}{R:Rk}
theorem gz.all(h:gz R l n b): Sm (eg R l).2 n b:=by have:=h l.length TG;rw[wI] at this;exact this
theorem gz.nil(h:Sm R n b): gz R [] n b:=λi hi=>by rw[List.take_nil];exact h
theorem gz.cons{o:Oq}(j:Sm R n b)(h1:Sm (dz R o).2 n b)(h:(dz R o).1=0->gz (dz R o).2 l n b): gz R (o::l) n b:=λi hi=>by
 cases i with
 |zero=>exact j
 |succ i =>
  rw[Gk,eg];split
  .rename_i e;exact h e i (by simpa using hi)
  .exact h1
theorem gz.app{m:List Oq}(h:gz R l n b)(k:(eg R l).1=0->gz (eg R l).2 m n b): gz R (l++m) n b:=λi hi=>by
 by_cases r:i<=l.length
 .rw[zs r];exact h i r
 .obtain⟨j,rfl⟩:∃j,i=l.length+j:=⟨i-l.length,by omega⟩
  rw[List.take_length_add_append,iE];split
  .rename_i e;rw[lN] at hi;exact k e j (by omega)
  .exact h.all
theorem gz.mono{e j:Nat}(h:gz R l n b)(m:n<=e)(hb:b<=j): gz R l e j:=λi hi=>(h i hi).mono m hb
theorem gz.tt: ∀{l:List Oq},(∀o∈l,o.k=5\/o.k=6)->Sm R n b->gz R l n b:=by
 intro l
 induction l generalizing R with
 |nil=>intro _ h;exact gz.nil h
 |cons o l r =>
  intro j h;have m:Sm (dz R o).2 n b:=by
   unfold dz;rcases j o mz with e|e
   .rw[cd (by omega),cd (by omega),cd (by omega),cd (by omega),cg e];exact h.remove _
   .rw[cd (by omega),cd (by omega),cd (by omega),cd (by omega),cd (by omega)];exact h.eY
  exact gz.cons h m λ_=>r (λq u=>j q (ts _ u)) m
theorem rq(L:List TM)(K:List Nat):∀o∈dO L K,(o.k=5\/o.k=6)/\o.b=e0:=by
 intro o e;unfold dO at e;simp only at e;split at e
 .cases e
 .rcases cJ.1 e with h|h
  .obtain⟨a,_,rfl⟩:=xD.1 h;exact⟨Or.inl rfl,rfl⟩
  .rw[eh.1 h];exact⟨Or.inr rfl,rfl⟩
theorem ux(K:List Nat):∀o∈fE K,(o.k=5\/o.k=6)/\o.b=e0:=by
 intro o e;unfold fE at e;split at e
 .cases e
 .rcases cJ.1 e with h|h
  .obtain⟨s,_,h⟩:=CC.1 h;unfold drop1 at h;simp only[ic,List.not_mem_nil,or_false] at h;rcases h with rfl|rfl|rfl <;> exact⟨Or.inl rfl,rfl⟩
  .rw[eh.1 h];exact⟨Or.inr rfl,rfl⟩
theorem wR{L:Sd.Tb}{a:TM}{f:Nat}(h:∀p∈L,¬p.1=a):Rd.dp (L++[(a,f)]) a=some f:=by
 unfold Rd.dp;rw[List.find?_append];have e:L.find? (λp=>decide (p.1=a))=none:=List.find?_eq_none.2 λp j=>by simpa using h p j
 rw[e];simp
theorem CK{a:TM}(h:(R.create a).1=0): Rd.dp (R.create a).2.now a=some R.files.length/\(R.create a).2.fl R.files.length=⟨e0,0⟩:=by
 have e:=Rd.jv R;unfold Rk.create at h ⊢;split at h
 .exact absurd (show (9:Int)=0 from h) (by decide)
 .rename_i hu;rw[cd hu];split at h
  .rename_i j;rw[cg j];have m:(R.dU.pS a).now=Rd.ap R.dU.now ⟨e0,a,R.dU.files.length⟩:=by
    show ({ R.dU with files:=R.dU.files++[⟨e0,0⟩],dS:=R.dU.dS++[⟨e0,a,R.dU.files.length⟩] }:Rk).now=_
    rw[<-Rk.qQ];rfl
   refine⟨?_,?_⟩
   .show Rd.dp (R.dU.pS a).now a=_
    rw[m];unfold Rd.ap;rw[cd (Rd.oD j),e.1];exact wR λp r=>(Rd.im.1 r).2
   .show (R.dU.pS a).fl R.files.length=_
    unfold Rk.fl Rk.pS;rw[e.1];simp
  .exact absurd (show (10:Int)=0 from h) (by decide)
theorem gz.write(a p:TM)(h:Sm R n b): gz R (eQ a p) (n+2) (max b (p.size+8)):=by
 have r:∀{Q:Rk} {k:Nat},Sm Q k b->k<=n+2->Sm Q (n+2) (max b (p.size+8)):=λh y=>h.mono y (Nat.le_max_left _ _)
 have u:Sm (dz R ⟨1,a,e0⟩).2 (n+2) b:=h.create a;refine gz.cons (r h (by omega)) (r u TG) λe=>?_
 have e:(R.create a).1=0:=e;obtain⟨z,A⟩:=CK e;have j:Sm (R.create a).2 (n+2) (max b (p.size+8)):=r u TG;have m:Sm ((R.create a).2.append a (dj p)).2 (n+2) (max b (p.size+8)):=by
  refine j.on a _ _ _ TG TG λi hi=>?_
  rw[z] at hi;injection hi with hi;subst hi;split
  .exact j.dU
  .refine j.dU.nD _ _ _ TG ?_;rw[Rd.zo,A]
   show ((e0:TM)++dj p).size<=_
   rw[cM,ep]
   show 0+(p.size+8)<=_
   omega
 refine gz.cons j m λ_=>?_
 exact gz.cons m (m.sync a) λ_=>gz.nil (m.sync a)
theorem gz.save(c:Cfg)(m step cX:Nat)(h:Sm R n b)(z:m<=64)(hb:1000<=b): gz R (eK c m step cX) (n+8) b:=by
 have q:∀x,x+8<=1000->max b (x+8)=b:=λx A=>Nat.max_eq_left (by omega)
 unfold eK;refine gz.app (gz.app (gz.app ?_ λ_=>?_) λ_=>?_) λ_=>?_
 .have:=gz.write (nm 118 step) (vB c m) h;rw[fw,q _ (by omega)] at this;exact this.mono (by omega) TG
 .have e:=gz.write (nm 118 step) (vB c m) h;rw[fw,q _ (by omega)] at e;have:=gz.write (nm 109 step) (mB c m) e.all;rw[ga,q _ (by omega)] at this;exact this.mono (by omega) TG
 .have e:=gz.write (nm 118 step) (vB c m) h;rw[fw,q _ (by omega)] at e;have j:=gz.app (e.mono (show n+2<=n+4 by omega) (b7 b)) λ_=>by
   have:=gz.write (nm 109 step) (mB c m) e.all;rw[ga,q _ (by omega)] at this;exact this
  have:=gz.write tN (kB step c.all cX (ie (dj (vB c m))) (ie (dj (mB c m)))) j.all;rw[l5,q _ (by omega)] at this;exact this.mono (by omega) TG
 .have e:=gz.write (nm 118 step) (vB c m) h;rw[fw,q _ (by omega)] at e;have j:=gz.app (e.mono (show n+2<=n+4 by omega) (b7 b)) λ_=>by
   have:=gz.write (nm 109 step) (mB c m) e.all;rw[ga,q _ (by omega)] at this;exact this
  have y:=gz.app (j.mono (show n+4<=n+6 by omega) (b7 b)) λ_=>by
   have:=gz.write tN (kB step c.all cX (ie (dj (vB c m))) (ie (dj (mB c m)))) j.all;rw[l5,q _ (by omega)] at this;exact this
  have u:=y.all;have r:Sm (dz _ ⟨4,tN,nm 99 step⟩).2 (n+6+2) b:=u.rename tN (nm 99 step);refine gz.cons (u.mono (by omega) TG) r λ_=>?_
  exact gz.cons r r.eY λ_=>gz.nil r.eY
def fU:Sp.nK:=⟨0,0,0,[]⟩
structure Out where
 res:Sp.nK
 saved:Nat
 e:Int
 R:Rk
def rz(P:Pg)(Es:List Ed)(cap every keep cX n de:Nat):Nat->Nat->Cfg->List Nat->Nat->Rk->Out
 |0,_,_,_,sv,R=>⟨fU,sv,0,R⟩
 |g+1,step,c,K,sv,R =>
  if quiet c step=true then ⟨⟨1,step,0,c.val⟩,sv,0,R⟩ else if cap<=step then ⟨⟨2,step,0,c.val⟩,sv,0,R⟩
  else if de<step/\step%every=0 then
   (if (eg R (eK c n step cX)).1≠0 then ⟨fU,sv,(eg R (eK c n step cX)).1,(eg R (eK c n step cX)).2⟩
     else if (eg (eg R (eK c n step cX)).2 (fE ((K++[step]).take (K.length+1-keep)))).1≠0 then ⟨fU,sv+1,(eg (eg R (eK c n step cX)).2 (fE ((K++[step]).take (K.length+1-keep)))).1,(eg (eg R (eK c n step cX)).2 (fE ((K++[step]).take (K.length+1-keep)))).2⟩
     else match lK P Es c step n with
      |.error i=>⟨⟨3,step,i,c.val⟩,sv+1,0,(eg (eg R (eK c n step cX)).2 (fE ((K++[step]).take (K.length+1-keep)))).2⟩
      |.ok a=>rz P Es cap every keep cX n de g (step+1) (fh P n a) ((K++[step]).drop (K.length+1-keep)) (sv+1) (eg (eg R (eK c n step cX)).2 (fE ((K++[step]).take (K.length+1-keep)))).2)
  else match lK P Es c step n with
   |.error i=>⟨⟨3,step,i,c.val⟩,sv,0,R⟩
   |.ok a=>rz P Es cap every keep cX n de g (step+1) (fh P n a) K sv R
end Ru
namespace Ru
open Go.RowKit
open Rd (Rk e0)
open Dk (Kept du)
open Pk (jo fy TP lB ot cZ cS)
def jd:List Nat:=[64,194,129,127,5]
theorem N0{w:TJ}{D E:Nat}{Q R:Rk}{O:Nat->Prop}(h:jo w D E Q R O){k:Nat}(m:O k):∃c t r,w.heap[k]?=some (.cells c t r)/\t∈jd:=by
 obtain⟨d,u,z,A,B,j,C,F,G,y⟩:=h;rcases(y k).1 m with e|e
 .rcases e with rfl|e|e|e|⟨f,l,e|e⟩
  .exact⟨_,_,_,j.blk,by decide⟩
  .obtain⟨c,b,_⟩:=cZ j.rn e;exact⟨_,_,_,b,by decide⟩
  .obtain⟨c,b,_⟩:=cZ j.rs e;exact⟨_,_,_,b,by decide⟩
  .obtain⟨c,b,_⟩:=cZ j.rc e;exact⟨_,_,_,b,by decide⟩
  .subst e;exact⟨_,_,_,(j.files _ l).blk,by decide⟩
  .obtain⟨c,b,_⟩:=cZ (j.files f l).row e;exact⟨_,_,_,b,by decide⟩
 .exact False.elim e
theorem nP{w:TJ}{D E:Nat}{Q R:Rk}{O:Nat->Prop}(h:jo w D E Q R O){k:Nat}{c:Array TK}{t:Nat}{fr:Nat × Nat}(e:w.heap[k]?=some (.cells c t fr))(ht:t∉jd):¬O k:=λj=>by
 obtain⟨r,u,l,b,m⟩:=N0 h j;rw[e] at b;injection b with b;injection b with _ b;subst b;exact ht m
end Ru
namespace Ru
open Go.RowKit
open Sp (nJ ie bt dj dt okB)
theorem qO(x:Int):IntKind.u64.wrap x=((u64 x:Nat):Int):=by
 unfold u64;have:IntKind.u64.wrap x=x%18446744073709551616:=rfl;rw[this];omega
end Ru
namespace Ru
open Go.RowKit
theorem lW{w:TJ}{B e s n:Nat}{v:TK}{j:List TK}(h:w.ownsRow B e s v n j):∃p b,v=.slice p n b:=by
 obtain⟨p,b,l,_⟩:=dd h;exact⟨p,b,l⟩
end Ru
namespace Ru
open Go.RowKit
open Sp (nJ ie bt dj dt okB)
theorem uR{n:Nat}(h:n<18446744073709551616):IntKind.i64.wrap (n:Int)=pR n:=by
 unfold pR;rw[fp];split <;> omega
theorem pD(s:TM)(a b:Nat)(hb:b<=s.size):∀(k o:Nat),a+o+k<=b->num (s.extract a b) o k=num s (a+o) k
 |0,o,h=>rfl
 |k+1,o,h=>by
  rw[num,num,pD s a b hb k (o+1) (by omega),Sp.fV s a b o hb (by omega)]
  rfl
theorem K3(n:Nat):(((n:Nat):Int) == 1)=(n == 1):=by
 by_cases h:n=1
 .subst h;rfl
 .rw[cC.2 h,cC.2 (by omega)]
end Ru
namespace Ru
open Go.RowKit
open Sp (nJ ie bt dj dt okB)
open Rd (Rk)
theorem PO(v m k:TM)(n:Nat):Sp.eT n (gC v m k n):=by
 refine⟨by simp[gC],by simp[gC],by simp[gC],by simp[gC],λx b=>?_,λx b=>?_,λx b=>?_,?_⟩
 .obtain⟨i,_,rfl⟩:=xD.1 b;exact CV (gV v 8 _)
 .obtain⟨i,_,rfl⟩:=xD.1 b;have:=gV m 4 (12*i);have j:(256:Nat) ^ 4=4294967296:=by decide
  omega
 .obtain⟨i,_,rfl⟩:=xD.1 b;exact CV (gV m 8 _)
 .have e:(gC v m k n).all=pR (num k 4 8):=by simp only[gC]
  rw[e];exact CV (gV k 8 4)
end Ru
namespace Ru
open Go.RowKit
open Rd (Rk e0)
open Classical
noncomputable def fT(F:TM->TM)(n cX:Nat)(L:List TM):List Nat:=th (Fq F n cX) L
theorem tK{F:TM->TM}{n cX:Nat}{L:List TM}{k:Nat}(h:k<L.length):fT F n cX (L.take (k+1))=match tU (Fq F n cX) L[k] with | none=>fT F n cX (L.take k) | some s=>fT F n cX (L.take k)++[s]:=by
 unfold fT th;rw[zQ h,List.filterMap_append,List.filterMap_cons];cases tU (Fq F n cX) L[k] with
 |none=>simp
 |some s=>simp
end Ru
end Go.Proofs.YtgkkdpegcieakaaGreatDoor
