import Derived.Test.YtgkkdpegcieakaaGreatDoorCw15
import Derived.Test.YtgkkdpegcieakaaGreatDoorCw20
import Derived.Test.YtgkkdpegcieakaaGreatDoorCw23
import Derived.Test.YtgkkdpegcieakaaGreatDoorCw28
set_option linter.all false
set_option maxRecDepth 100000
set_option maxHeartbeats 16000000
namespace Go.Proofs.YtgkkdpegcieakaaGreatDoor
open Go.Proofs.Tryz
open Value renaming int→Z,string→H
open Option renaming none→U,some→S
open Or renaming inl→Xa,inr→Xb
open List renaming length→Xg
open IntKind renaming i64→Y
open Go renaming World→WR,Value→WS,Calls→WT
open Go.RowKit
namespace Ru
open Go Sp
open Go.Lib (decDigits)
def dc(n:Nat):WU:=⟨(decDigits n).toArray⟩
variable {n:Nat}
theorem oy(h:n<10): decDigits n=[UInt8.ofNat (48+n)]:=by rw[decDigits,dif_pos h]
theorem zM(h:¬n<10): decDigits n=decDigits (n/10)++[UInt8.ofNat (48+n%10)]:=by rw[decDigits,dif_neg h]
theorem IV:∀(n:Nat),∀x∈decDigits n,48<=x.toNat/\x.toNat<=57:=by
 intro n
 induction n using Nat.strongRecOn with
 |ind n j =>
  intro x e;by_cases h:n<10
  .rw[oy h,Uz] at e;subst e;simp only[UInt8.toNat_ofNat'];omega
  .rw[zM h,Uq,Uz] at e;rcases e with e|rfl
   .exact j (n/10) (by omega) x e
   .simp only[UInt8.toNat_ofNat'];omega
def nv(l:List UInt8):Nat:=l.foldl (λn x=>10*n+(x.toNat-48)) 0
theorem FK(l:List UInt8)(x:UInt8):nv (l++[x])=10*nv l+(x.toNat-48):=by unfold nv;rw[Wj];rfl
theorem JQ:∀(n:Nat),nv (decDigits n)=n:=by
 intro n
 induction n using Nat.strongRecOn with
 |ind n e =>
  by_cases h:n<10
  .rw[oy h]
   show 10*0+((UInt8.ofNat (48+n)).toNat-48)=n
   simp only[UInt8.toNat_ofNat'];omega
  .rw[zM h,FK,e (n/10) (by omega)];simp only[UInt8.toNat_ofNat'];omega
variable {b a:Nat}
theorem PJ(h:decDigits a=decDigits b): a=b:=by rw[<-JQ a,<-JQ b,h]
theorem Ql(n:Nat):0<(decDigits n).length:=by
 by_cases h:n<10
 .rw[oy h];exact Nat.one_pos
 .rw[zM h,UG];simp
theorem Lh:∀(k n:Nat),n<10 ^ (k+1)->(decDigits n).length<=k+1:=by
 intro k
 induction k with
 |zero=>intro n h;rw[oy (by simpa using h)];exact TY _
 |succ k j =>
  intro n h;by_cases e:n<10
  .rw[oy e];show 1<=_;omega
  .rw[zM e,UG];have:=j (n/10) (by rw[Nat.pow_succ] at h;omega)
   show (decDigits (n/10)).length+1<=_
   omega
theorem qX(n:Nat):(dc n).size=(decDigits n).length:=by simp[dc,ByteArray.size]
theorem Pu(h:dc a=dc b): a=b:=by
 unfold dc at h;injection h with h;exact PJ (by simpa using congrArg Array.toList h)
def nm(c:UInt8)(step:Nat):WU:=⟨#[c,46]⟩++dc step
theorem qL(a b:UInt8):(⟨#[a,b]⟩:WU).size=2:=rfl
theorem jH(c:UInt8)(step:Nat):(nm c step).size=2+(dc step).size:=by unfold nm;rw[Us,qL]
theorem zG(c:UInt8)(step:Nat):(nm c step).extract 2 (nm c step).size=dc step:=by
 apply jF
 .rw[Un,jH];omega
 .intro i hi;rw[Un,jH] at hi;rw[fW _ _ _ _ WN (by rw[jH];omega)];exact nF _ _ i 2 (qL _ _) (by omega)
theorem rj(c:UInt8)(step:Nat):(nm c step).extract 0 2=⟨#[c,46]⟩:=by
 apply jF
 .rw[Un,jH,qL];omega
 .intro i hi;rw[Un,jH] at hi;rw[fW _ _ _ _ (by rw[jH];omega) (by omega),UA];exact kM _ _ i (by rw[qL];omega)
theorem s9{c d:UInt8}(h:nm c a=nm d b): c=d/\a=b:=by
 have e:=rj c a;have j:=zG c a;rw[h] at e j;rw[rj] at e;rw[zG] at j;exact⟨by injection e with e;have e:=congrArg Array.toList e;simp only[Wb] at e;exact e.1.symm,Pu j.symm⟩
def nt(s:WU):Nat->Nat
 |0=>0
 |k+1=>10*nt s k+(bt s (k+2)-48)
theorem RA(s:WU)(l:List UInt8)(k:Nat)(j:k<=Xg l)(h:∀i (hi:i<Xg l),bt s (i+2)=(l[i]).toNat):nt s k=nv (l.take k):=by
 induction k with
 |zero=>rfl
 |succ k e =>
  rw[nt,e (by omega),Vf (by omega),FK,h k (by omega)]
def so(s:WU):Option Nat:=if 3<=s.size/\dc (nt s (s.size-2))=s.extract 2 s.size then S (nt s (s.size-2)) else U
variable {s:WU}
theorem Nk(h:so s=S n): 3<=s.size/\s.extract 2 s.size=dc n:=by
 unfold so at h;split at h
 .rename_i e;injection h with h;subst h;exact⟨e.1,e.2.symm⟩
 .cases h
theorem SE(j:3<=s.size)(h:s.extract 2 s.size=dc n): so s=S n:=by
 have l:s.size-2=(decDigits n).length:=by rw[<-qX,<-h,Un];omega
 have m:nt s (s.size-2)=n:=by
  rw[RA s (decDigits n) (s.size-2) (by omega) (λi hi=>?_),l,Vd,JQ];have e:bt (s.extract 2 s.size) i=bt s (2+i):=fW s 2 s.size i WN (by omega);rw[h,<-jQ (dc n) i (by rw[qX];exact hi)] at e;rw[Nat.add_comm i 2,<-e]
  rfl
 unfold so;rw[m,T0 ⟨j,h.symm⟩]
theorem Lm(c:UInt8)(n:Nat):so (nm c n)=S n:=by
 refine SE ?_ (zG c n);have:=Ql n;rw[jH,qX];omega
theorem Km(h:2<=s.size): s=s.extract 0 2++s.extract 2 s.size:=by
 apply jF
 .rw[Us,Un,Un];omega
 .intro i hi;by_cases e:i<2
  .rw[kM _ _ _ (by rw[Un];omega),fW _ _ _ _ h (by omega),UA]
  .obtain⟨j,rfl⟩:∃j,i=2+j:=⟨i-2,by omega⟩
   rw[nF _ _ j 2 (by rw[Un];omega) (by rw[Un];omega),fW _ _ _ _ WN (by omega)]
theorem qB{c:UInt8}: s=nm c n↔so s=S n/\s.extract 0 2=⟨#[c,46]⟩:=by
 constructor
 .rintro rfl;exact⟨Lm c n,rj c n⟩
 .rintro⟨e,j⟩;obtain⟨m,l⟩:=Nk e;rw[Km (s:=s) (by omega),j,l];rfl
end Ru
namespace Ru
open Go Sp
open Rd (Rk)
def u64(x:Int):Nat:=(x%18446744073709551616).toNat
def pR(n:Nat):Int:=if n<9223372036854775808 then (n:Int) else (n:Int)-18446744073709551616
theorem qv(x:Int):u64 x<18446744073709551616:=by unfold u64;omega
variable {n:Nat}
theorem EY(h:n<18446744073709551616): u64 (pR n)=n:=by unfold u64 pR;split <;> omega
theorem DV(h:n<18446744073709551616): Sp.i64 (pR n):=by unfold Sp.i64 pR;split <;> omega
def num(s:WU)(o:Nat):Nat->Nat
 |0=>0
 |k+1=>bt s o+256*num s (o+1) k
theorem gW(s:WU):∀(k o:Nat),num s o k<256 ^ k
 |0,o=>Nat.one_pos
 |k+1,o=>by
  have e:=gW s k (o+1);have j:=ju s o;rw[num,Nat.pow_succ];omega
theorem KU(s:WU):∀(k o n:Nat),(∀i,i<k->bt s (o+i)=n/256 ^ i%256)->num s o k=n%256 ^ k
 |0,o,n,h=>by simp[num,Nat.mod_one]
 |k+1,o,n,h=>by
  rw[num,KU s k (o+1) (n/256) (λi hi=>?_)]
  .have e:=h 0 (by omega);rw[U9,Nat.pow_zero,Nat.div_one] at e;rw[e,Nat.pow_succ,V4 (256 ^ k) 256,Nat.mod_mul]
  .have j:=h (i+1) (by omega);rw[show o+1+i=o+(i+1) by omega,j,Nat.pow_succ,V4 (256 ^ i) 256,Nat.div_div_eq_div_mul]
theorem B4(s:WU):∀(k o i:Nat),i<k->num s o k/256 ^ i%256=bt s (o+i)
 |0,o,i,h=>by omega
 |k+1,o,i,h=>by
  have j:=ju s o;rw[num];cases i with
  |zero=>simp only[Nat.pow_zero,Nat.div_one,U9];omega
  |succ i =>
   have e:=B4 s k (o+1) i (by omega);rw[Nat.pow_succ,V4 (256 ^ i) 256,<-Nat.div_div_eq_div_mul,show (bt s o+256*num s (o+1) k)/256=num s (o+1) k by omega,e,show o+(i+1)=o+1+i by omega]
theorem yF(s:WU)(o k:Nat)(h:o+k<=s.size):nG (num s o k) k=s.extract o (o+k):=by
 apply jF
 .rw[dM,Un];omega
 .intro i hi;rw[dM] at hi;rw[Ox _ _ _ hi,B4 s k o i hi,fW s o (o+k) i h (by omega)]
theorem qR{s:WU}{o k:Nat}(h:s.extract o (o+k)=nG n k)(e:o+k<=s.size): num s o k=n%256 ^ k:=KU s k o n λi hi=>by rw[<-fW s o (o+k) i e (by omega),h,Ox _ _ _ hi]
variable {b a:Nat}
theorem qK(s:WU){c:Nat}(h1:a<=b)(h2:b<=c)(e:c<=s.size): s.extract a b++s.extract b c=s.extract a c:=by
 apply jF
 .rw[Us,Un,Un,Un];omega
 .intro i hi;rw[Us,Un,Un] at hi;rw[fW s a c i e (by omega)];by_cases h:i<b-a
  .rw[kM _ _ _ (by rw[Un];omega),fW s a b i (by omega) (by omega)]
  .obtain⟨j,rfl⟩:∃j,i=(b-a)+j:=⟨i-(b-a),by omega⟩
   rw[nF _ _ j (b-a) (by rw[Un];omega) (by rw[Un];omega),fW s b c j e (by omega)]
   congr 1;omega
theorem BY(s:WU)(a:Nat):s.extract a a=⟨#[]⟩:=by
 apply jF
 .rw[Un];show min a s.size-a=0;omega
 .intro i hi;rw[Un] at hi;omega
theorem rQ(s:WU):s.extract 0 s.size=s:=by
 apply jF
 .rw[Un];omega
 .intro i hi;rw[Un] at hi;rw[fW s 0 s.size i WN (by omega),UA]
theorem L2(a b:WU)(h:a.size=n): (a++b).extract 0 n=a:=by
 subst h;apply jF
 .rw[Un,Us];omega
 .intro i hi;rw[Un,Us] at hi;rw[fW _ _ _ _ (by rw[Us];omega) (by omega),UA,kM _ _ _ (by omega)]
theorem eH(a b:WU){x y:Nat}(h:y<=a.size):(a++b).extract x y=a.extract x y:=by
 apply jF
 .rw[Un,Un,Us];omega
 .intro i hi;rw[Un,Us] at hi;rw[fW _ _ _ _ (by rw[Us];omega) (by omega),fW _ _ _ _ h (by omega),kM _ _ _ (by omega)]
theorem xL(a b:WU){x y:Nat}(h:a.size=x)(h2:y=x+b.size):(a++b).extract x y=b:=by
 subst h h2;apply jF
 .rw[Un,Us];omega
 .intro i hi;rw[Un,Us] at hi;rw[fW _ _ _ _ (by rw[Us];omega) (by omega),FX _ _ _ (by omega)]
def rB(b:Bool):WU:=⟨#[if b=true then 1 else 0]⟩
def vB(c:Cfg):Nat->WU
 |0=>⟨#[]⟩
 |k+1=>vB c k++nG (u64 (c.val.getD k 0)) 8++rB (c.fC.getD k false)
def mB(c:Cfg):Nat->WU
 |0=>⟨#[]⟩
 |k+1=>mB c k++nG (u64 (c.iI.getD k 0)) 4++nG (u64 (c.jf.getD k 0)) 8
def kB(step:Nat)(all:Int)(da a b:Nat):WU:=nG step 4++nG (u64 all) 8++nG da 4++nG a 4++nG b 4
theorem rY(b:Bool):(rB b).size=1:=rfl
theorem fA(c:Cfg):∀k,(vB c k).size=9*k
 |0=>rfl
 |k+1=>by rw[vB,Us,Us,fA c k,dM,rY];omega
theorem ga(c:Cfg):∀k,(mB c k).size=12*k
 |0=>rfl
 |k+1=>by rw[mB,Us,Us,ga c k,dM,dM];omega
theorem l5(step:Nat)(all:Int)(da a b:Nat):(kB step all da a b).size=24:=by unfold kB;simp only[Us,dM]
def gC(v m k:WU)(n:Nat):Cfg:=⟨(List.range n).map λi=>pR (num v (9*i) 8),(List.range n).map λi=>bt v (9*i+8) == 1,(List.range n).map λi=>((num m (12*i) 4:Nat):Int),(List.range n).map λi=>pR (num m (12*i+4) 8),pR (num k 4 8)⟩
theorem gr{α : Type}(f:Nat->α)(d : α){i:Nat}(h:i<n): ((List.range n).map f).getD i d=f i:=by
 rw[Uo,VX,List.getElem?_range h];rfl
theorem TQ(s:WU)(o:Nat)(h:o<s.size)(hb:bt s o<=1):rB (bt s o == 1)=s.extract o (o+1):=by
 apply jF
 .rw[rY,Un];omega
 .intro i hi;rw[rY] at hi;obtain rfl:i=0:=by omega
  rw[fW s o (o+1) 0 (by omega) (by omega),U9];rcases Nat.lt_or_ge (bt s o) 1 with e|e
  .have e:bt s o=0:=by omega
   rw[e];rfl
  .have e:bt s o=1:=by omega
   rw[e];rfl
theorem J7(v m k:WU)(l:v.size=9*n)(e:∀i,i<n->bt v (9*i+8)<=1): ∀j,j<=n->vB (gC v m k n) j=v.extract 0 (9*j)
 |0,_=>(BY v 0).symm
 |j+1,y=>by
  have r:(gC v m k n).val.getD j 0=pR (num v (9*j) 8):=gr _ _ (by omega);have u:(gC v m k n).fC.getD j false=(bt v (9*j+8) == 1):=gr _ _ (by omega);rw[vB,J7 v m k l e j (by omega),r,u,EY (gW v 8 _),yF v _ _ (by omega),TQ v _ (by omega) (e j (by omega)),qK v (by omega) (by omega) (by omega),qK v (by omega) (by omega) (by omega)]
  rfl
theorem Jh(v m k:WU)(e:m.size=12*n): ∀j,j<=n->mB (gC v m k n) j=m.extract 0 (12*j)
 |0,_=>(BY m 0).symm
 |j+1,y=>by
  have l:(gC v m k n).iI.getD j 0=((num m (12*j) 4:Nat):Int):=gr _ _ (by omega);have r:(gC v m k n).jf.getD j 0=pR (num m (12*j+4) 8):=gr _ _ (by omega);have u:u64 ((num m (12*j) 4:Nat):Int)=num m (12*j) 4:=by
   have:=gW m 4 (12*j);have z:(256:Nat) ^ 4=4294967296:=by decide
   unfold u64;omega
  rw[mB,Jh v m k e j (by omega),l,r,u,EY (gW m 8 _),yF m _ _ (by omega),yF m _ _ (by omega),qK m (by omega) (by omega) (by omega),qK m (by omega) (by omega) (by omega)]
  rfl
theorem Mi(c:Cfg):∀(n i:Nat),i<n->bt (vB c n) (9*i+8)<=1
 |0,i,h=>by omega
 |n+1,i,h=>by
  rw[vB];by_cases hi:i<n
  .rw[kM _ _ _ (by rw[Us,fA,dM];omega),kM _ _ _ (by rw[fA];omega)];exact Mi c n i hi
  .obtain rfl:i=n:=by omega
   rw[nF _ _ 0 (9*i+8) (by rw[Us,fA,dM]) (by rw[rY];omega)];cases c.fC.getD i false <;> decide
variable {da:Nat}
theorem PC{step:Nat}{all:Int}: num (kB step all da a b) 0 4=step%4294967296:=by
 rw[qR (n:=step) (o:=0) (k:=4) ?_ (by rw[l5];omega)];unfold kB;rw[eH _ _ (by simp only[Us,dM];omega),eH _ _ (by simp only[Us,dM];omega),eH _ _ (by simp only[Us,dM];omega),L2 _ _ (dM _ _)]
theorem SD{step:Nat}{all:Int}: num (kB step all da a b) 4 8=u64 all:=by
 rw[qR (n:=u64 all) (o:=4) (k:=8) ?_ (by rw[l5];omega)]
 .exact Nat.mod_eq_of_lt (qv all)
 .unfold kB;rw[eH _ _ (by simp only[Us,dM];omega),eH _ _ (by simp only[Us,dM];omega),eH _ _ (by simp only[Us,dM];omega),xL _ _ (dM _ _) (by rw[dM])]
theorem nC{s:WU}(h:okB s=true):dq (dx s)=s:=by
 have e:8<=s.size:=by unfold okB at h;exact(VI h).1
 have j:=(zE e).1 h;rw[yy h];unfold dq;rw[<-j,qK s (by omega) (by omega) WN,rQ]
structure Gf (F:WU->WU) (n da:Nat) (a:WU) (st:Nat):Prop where
 ok:okB (F a)=true
 sz:(dx (F a)).size=24
 TD:st=num (dx (F a)) 0 4
 TE:nm 99 st=a
 sum:F a=dq (kB st (pR (num (dx (F a)) 4 8)) da (gX (F (nm 118 st))) (gX (F (nm 109 st))))
 TT:okB (F (nm 118 st))=true
 TR:(dx (F (nm 118 st))).size=9*n
 TL:okB (F (nm 109 st))=true
 TH:(dx (F (nm 109 st))).size=12*n
 fC:∀i,i<n->bt (dx (F (nm 118 st))) (9*i+8)<=1
def fp(F:WU->WU)(n st:Nat):Cfg:=gC (dx (F (nm 118 st))) (dx (F (nm 109 st))) (dx (F (nm 99 st))) n
theorem sr(F:WU->WU)(n st:Nat):(fp F n st).all=pR (num (dx (F (nm 99 st))) 4 8):=by simp only[fp,gC]
structure CM (F:WU->WU) (n da st:Nat):Prop where
 TT:okB (F (nm 118 st))=true
 TL:okB (F (nm 109 st))=true
 TM:okB (F (nm 99 st))=true
 TR:(dx (F (nm 118 st))).size=9*n
 TH:(dx (F (nm 109 st))).size=12*n
 TV:(dx (F (nm 99 st))).size=24
 lt:st<4294967296
 v:vB (fp F n st) n=dx (F (nm 118 st))
 m:mB (fp F n st) n=dx (F (nm 109 st))
 k:kB st (fp F n st).all da (gX (dq (vB (fp F n st) n))) (gX (dq (mB (fp F n st) n)))=dx (F (nm 99 st))
abbrev RT(F:WU->WU)(n da:Nat):DecidablePred (CM F n da):=λst =>
 decidable_of_iff (okB (F (nm 118 st))=true/\okB (F (nm 109 st))=true/\okB (F (nm 99 st))=true/\(dx (F (nm 118 st))).size=9*n/\(dx (F (nm 109 st))).size=12*n/\(dx (F (nm 99 st))).size=24/\st<4294967296/\(vB (fp F n st) n).data=(dx (F (nm 118 st))).data/\(mB (fp F n st) n).data=(dx (F (nm 109 st))).data/\(kB st (fp F n st).all da (gX (dq (vB (fp F n st) n))) (gX (dq (mB (fp F n st) n)))).data=(dx (F (nm 99 st))).data)
  ⟨λ⟨a,b,c,d,e,f,g,h,i,j⟩=>⟨a,b,c,d,e,f,g,Vh h,Vh i,Vh j⟩,λ⟨a,b,c,d,e,f,g,h,i,j⟩=>⟨a,b,c,d,e,f,g,congrArg _ h,congrArg _ i,congrArg _ j⟩⟩
variable {F:WU->WU}{st:Nat}
theorem Gf.TN{a:WU}(h:Gf F n da a st): CM F n da st:=by
 obtain⟨A,B,C,G,I,r,j,u,l,m⟩:=h;subst G;have y:vB (fp F n st) n=dx (F (nm 118 st)):=by
  unfold fp;rw[J7 _ _ _ j m n WN,<-j,rQ]
 have z:mB (fp F n st) n=dx (F (nm 109 st)):=by
  unfold fp;rw[Jh _ _ _ l n WN,<-l,rQ]
 refine⟨r,u,A,j,l,B,?_,y,z,?_⟩
 .rw[C];exact gW _ 4 0
 .have e:=congrArg dx I;rw[gR] at e;rw[y,z,nC r,nC u,sr];exact e.symm
theorem CM.Ta(h:CM F n da st): Gf F n da (nm 99 st) st:=by
 obtain⟨l,m,r,y,z,A,B,u,C,j⟩:=h;rw[u,C,nC l,nC m] at j;refine⟨r,A,?_,O,?_,l,y,m,z,λi hi=>?_⟩
 .have e:=PC (step:=st) (all:=(fp F n st).all) (da:=da) (a:=gX (F (nm 118 st))) (b:=gX (F (nm 109 st)));rw[j,Nat.mod_eq_of_lt B] at e;exact e.symm
 .rw[<-sr F n st,j,nC r]
 .rw[<-u];exact Mi _ _ _ hi
theorem Nl{a:WU}: Gf F n da a st↔so a=S st/\a.extract 0 2=⟨#[99,46]⟩/\CM F n da st:=by
 constructor
 .intro h;obtain⟨e,j⟩:=qB.1 h.TE.symm;exact⟨e,j,h.TN⟩
 .rintro⟨e,j,l⟩;rw[qB.2 ⟨e,j⟩];exact l.Ta
end Ru
namespace Ru
open Sp (nG gX bt dq dx okB)
open Go.Lib (decDigits)
theorem KG(s:WU)(j k:Nat):bt s j+256*num s (j+1) k=num s j (k+1):=rfl
theorem Bn(n:Nat)(h:n<=9999999999):(dc n).size<=10:=by
 rw[qX];exact Lh 9 n (by omega)
def Mc(g p:WU)(cY:Nat):WU:=g++⟨#[0]⟩++p++⟨#[0]⟩++dc cY
def oJ(g p:WU)(cY:Nat):Nat:=gX (Mc g p cY)
end Ru
namespace Ru
open Sp (nG gX bt dq dx okB)
theorem TK(s:WU)(a:Nat)(b:Int)(ha:b=(a:Int))(h2:a<=s.size)(W:WR):Sem.run prog (Instr.slice 9 (H s) (S (Z Y b)) U U) W=.ok (H (s.extract a s.size)) W:=by
 subst ha;have:=run_slice_string_l (P:=prog) W 9 s underlying9 Y (a:Int) (by omega) (by omega);simpa using this
theorem Tf(s:WU)(i:Nat)(b:Int)(hi:b=(i:Int))(h:i<s.size)(W:WR):Sem.run prog (Instr.index 9 (H s) (Z Y b)) W=.ok (Z .u8 (bt s i:Nat)) W:=by
 subst hi;have e:(i:Int)<(s.size:Int):=by omega
 rw[<-Sp.jQ s i h];simp[go_sem,h,e]
end Ru
namespace Ru
open Go Sp
open Rd (Rk e0)
def ins:List Nat->Nat->List Nat
 |[],x=>[x]
 |y::l,x=>if x<y then x::y::l else y::ins l x
def oj(A:List Nat):List Nat:=A.foldl ins []
def me(l:List Nat):Prop:=l.Pairwise (· < ·)
theorem yI{l:List Nat}{x y:Nat}:y∈ins l x↔y=x\/y∈l:=by
 induction l with
 |nil=>simp[ins]
 |cons z l b =>
  unfold ins;split
  .simp
  .rw[UC,b,UC];constructor
   .rintro(h|h|h)
    .exact Xb (Xa h)
    .exact Xa h
    .exact Xb (Xb h)
   .rintro(h|h|h)
    .exact Xb (Xa h)
    .exact Xa h
    .exact Xb (Xb h)
theorem M8(l:List Nat)(x:Nat):(ins l x).length=Xg l+1:=by
 induction l with
 |nil=>rfl
 |cons z l b =>
  unfold ins;split
  .rfl
  .rw[Uf,b];rfl
theorem Na{l:List Nat}(h:me l){x:Nat}(r:x∉l):me (ins l x):=by
 induction l with
 |nil=>exact List.pairwise_singleton _ _
 |cons z l u =>
  have j:=U6.1 h;have A:x≠z:=λe=>r (by rw[e];exact UI)
  unfold ins;split
  .rename_i b;refine U6.2 ⟨λy m=>?_,h⟩;rcases UC.1 m with e|e
   .rw[e];exact b
   .exact Nat.lt_trans b (j.1 y e)
  .rename_i b;refine U6.2 ⟨λy m=>?_,u j.2 (λe=>r (UZ _ e))⟩;rcases yI.1 m with e|e
   .rw[e];omega
   .exact j.1 y e
theorem BX(A:List Nat):∀(l:List Nat),me l->A.Nodup->(∀x∈A,x∉l)->me (A.foldl ins l)/\(∀y,y∈A.foldl ins l↔y∈A\/y∈l)/\(A.foldl ins l).length=Xg A+Xg l:=by
 induction A with
 |nil=>intro l h _ _;exact⟨h,λy=>by simp,by simp⟩
 |cons a A m =>
  intro l h r hd;have b:=List.nodup_cons.1 r;obtain⟨u,z,B⟩:=m (ins l a) (Na h (hd a UI)) b.2 (λx j e=>by
   rcases yI.1 e with e|e
   .exact b.1 (e ▸ j)
   .exact hd x (UZ _ j) e)
  refine⟨u,λy=>?_,?_⟩
  .rw[Wm,z,yI,UC];constructor
   .rintro(h|h|h)
    .exact Xa (Xb h)
    .exact Xa (Xa h)
    .exact Xb h
   .rintro((h|h)|h)
    .exact Xb (Xa h)
    .exact Xa h
    .exact Xb (Xb h)
  .rw[Wm,B,M8,Uf];omega
theorem xV{A:List Nat}(h:A.Nodup):me (oj A):=(BX A [] List.Pairwise.nil h (λx _ b=>by cases b)).1
theorem tj{A:List Nat}(h:A.Nodup)(y:Nat):y∈oj A↔y∈A:=by
 rw[show oj A=A.foldl ins [] from rfl,(BX A [] List.Pairwise.nil h (λx _ b=>by cases b)).2.1];simp
theorem EZ:∀{a b:List Nat},me a->me b->(∀y,y∈a↔y∈b)->a=b
 |[],[],_,_,_=>rfl
 |[],y::b,_,_,h=>absurd ((h y).2 UI) (by simp)
 |x::a,[],_,_,h=>absurd ((h x).1 UI) (by simp)
 |x::a,y::b,r,hb,h=>by
  have j:=U6.1 r;have l:=U6.1 hb;have e:x=y:=by
   rcases UC.1 ((h x).1 UI) with e|e
   .exact e
   .rcases UC.1 ((h y).2 UI) with e2|e2
    .exact e2.symm
    .have u:=l.1 x e;have A:=j.1 y e2;omega
  subst e;refine congrArg (x :: ·) (EZ j.2 l.2 λz=>?_);constructor
  .intro m;rcases UC.1 ((h z).1 (UZ _ m)) with e|e
   .have:=j.1 z m;omega
   .exact e
  .intro m;rcases UC.1 ((h z).2 (UZ _ m)) with e|e
   .have:=l.1 z m;omega
   .exact e
def tZ(W:Nat->Prop)[DecidablePred W](a:WU):Option Nat:=match so a with
 |none=>U
 |some s=>if a.extract 0 2=⟨#[99,46]⟩/\W s then S s else U
def qF(W:Nat->Prop)[DecidablePred W](L:List WU):List Nat:=L.filterMap (tZ W)
theorem ng{W:Nat->Prop}[DecidablePred W]{a:WU}{s:Nat}(h:tZ W a=S s):a=nm 99 s/\W s:=by
 unfold tZ at h;cases b:so a with
 |none=>rw[b] at h;cases h
 |some t =>
  rw[b] at h;simp only at h;split at h
  .rename_i e;injection h with h;subst h;exact⟨qB.2 ⟨b,e.1⟩,e.2⟩
  .cases h
theorem tQ{W:Nat->Prop}[DecidablePred W]{L:List WU}(h:L.Nodup):(qF W L).Nodup:=by
 induction L with
 |nil=>exact List.Pairwise.nil
 |cons a L l =>
  have j:=List.nodup_cons.1 h;unfold qF;rw[List.filterMap_cons];cases r:tZ W a with
  |none=>exact l j.2
  |some s =>
   refine List.nodup_cons.2 ⟨λu=>?_,l j.2⟩;obtain⟨b,m,e⟩:=List.mem_filterMap.1 u;have y:=(ng r).1;have z:=(ng e).1;rw[z,<-y] at m;exact j.1 m
def yL(K:List Nat)(a:WU):Bool:=match so a with
 |none=>false
 |some s=>K.contains s&&(decide (a.extract 0 2=⟨#[99,46]⟩) || decide (a.extract 0 2=⟨#[109,46]⟩) || decide (a.extract 0 2=⟨#[118,46]⟩))
theorem nY{K:List Nat}{a:WU}:yL K a=true↔∃s∈K,a=nm 99 s\/a=nm 109 s\/a=nm 118 s:=by
 unfold yL;cases b:so a with
 |none =>
  refine⟨λh=>(by cases h),?_⟩;rintro⟨s,_,h|h|h⟩ <;> · rw[h,Lm] at b;cases b
 |some t =>
  simp only[V6,Bool.or_eq_true,decide_eq_true_eq,List.contains_iff_mem];constructor
  .rintro⟨e,(j|j)|j⟩
   .exact⟨t,e,Xa (qB.2 ⟨b,j⟩)⟩
   .exact⟨t,e,Xb (Xa (qB.2 ⟨b,j⟩))⟩
   .exact⟨t,e,Xb (Xb (qB.2 ⟨b,j⟩))⟩
  .rintro⟨s,e,h|h|h⟩ <;> · obtain⟨l,m⟩:=qB.1 h;rw[b] at l;injection l with l;subst l;simp[e,m]
structure Oq where
 k:Nat
 a:WU
 b:WU
def dz(R:Rk)(o:Oq):Int × Rk:=if o.k=1 then R.create o.a else if o.k=2 then R.append o.a o.b else if o.k=3 then R.sync o.a else if o.k=4 then R.rename o.a o.b else if o.k=5 then R.remove o.a else R.fa
def eh(R:Rk):List Oq->Int × Rk
 |[]=>(0,R)
 |o::r=>if (dz R o).1=0 then eh (dz R o).2 r else dz R o
theorem iC(R:Rk):∀(l m:List Oq),eh R (l++m)=if (eh R l).1=0 then eh (eh R l).2 m else eh R l
 |[],m=>by simp[eh]
 |o::l,m=>by
  rw[UM,eh,eh];by_cases h:(dz R o).1=0
  .rw[T0 h,T0 h,iC (dz R o).2 l m]
  .rw[TZ h,TZ h,TZ h]
def mU(a:WU):Oq:=⟨5,a,e0⟩
def nS:Oq:=⟨6,e0,e0⟩
def dR(L:List WU)(K:List Nat):List Oq:=let r:=(L.filter λa=>!yL K a).map mU
 if r=[] then [] else r++[nS]
def eO(a p:WU):List Oq:=[⟨1,a,e0⟩,⟨2,a,dq p⟩,⟨3,a,e0⟩]
def tN:WU:=⟨#[116]⟩
def eK(c:Cfg)(n step da:Nat):List Oq:=eO (nm 118 step) (vB c n)++eO (nm 109 step) (mB c n)++eO tN (kB step c.all da (gX (dq (vB c n))) (gX (dq (mB c n))))++[⟨4,tN,nm 99 step⟩,nS]
def drop1(s:Nat):List Oq:=[mU (nm 99 s),mU (nm 109 s),mU (nm 118 s)]
def fx(K:List Nat):List Oq:=if K=[] then [] else K.flatMap drop1++[nS]
end Ru
namespace Ru
open Go Sp
open Rd (Rk e0 Ch)
open Pk (Sm)
def gB(R:Rk)(l:List Oq)(n b:Nat):Prop := ∀i,i<=Xg l->Sm (eh R (l.take i)).2 n b
variable {b n:Nat}{R:Rk}{l:List Oq}
theorem gB.all(h:gB R l n b): Sm (eh R l).2 n b:=by have:=h (Xg l) WN;rw[Vd] at this;exact this
theorem gB.nil(h:Sm R n b): gB R [] n b:=λi hi=>by rw[List.take_nil];exact h
theorem gB.cons{o:Oq}(j:Sm R n b)(h1:Sm (dz R o).2 n b)(h:(dz R o).1=0->gB (dz R o).2 l n b): gB R (o::l) n b:=λi hi=>by
 cases i with
 |zero=>exact j
 |succ i =>
  rw[VF,eh];split
  .rename_i e;exact h e i (by simpa using hi)
  .exact h1
theorem gB.app{m:List Oq}(h:gB R l n b)(k:(eh R l).1=0->gB (eh R l).2 m n b): gB R (l++m) n b:=λi hi=>by
 by_cases r:i<=Xg l
 .rw[Vk r];exact h i r
 .obtain⟨j,rfl⟩:∃j,i=Xg l+j:=⟨i-Xg l,by omega⟩
  rw[List.take_length_add_append,iC];split
  .rename_i e;rw[UG] at hi;exact k e j (by omega)
  .exact h.all
theorem gB.mono{e j:Nat}(h:gB R l n b)(m:n<=e)(hb:b<=j): gB R l e j:=λi hi=>(h i hi).mono m hb
theorem gB.tH: ∀{l:List Oq},(∀o∈l,o.k=5\/o.k=6)->Sm R n b->gB R l n b:=by
 intro l
 induction l generalizing R with
 |nil=>intro _ h;exact gB.nil h
 |cons o l r =>
  intro j h;have m:Sm (dz R o).2 n b:=by
   unfold dz;rcases j o UI with e|e
   .rw[TZ (by omega),TZ (by omega),TZ (by omega),TZ (by omega),T0 e];exact h.remove _
   .rw[TZ (by omega),TZ (by omega),TZ (by omega),TZ (by omega),TZ (by omega)];exact h.fa
  exact gB.cons h m λ_=>r (λq u=>j q (UZ _ u)) m
theorem pH(L:List WU)(K:List Nat):∀o∈dR L K,(o.k=5\/o.k=6)/\o.b=e0:=by
 intro o e;unfold dR at e;simp only at e;split at e
 .cases e
 .rcases Uq.1 e with h|h
  .obtain⟨a,_,rfl⟩:=Ve.1 h;exact⟨Xa O,O⟩
  .rw[Uz.1 h];exact⟨Xb O,O⟩
theorem tf(K:List Nat):∀o∈fx K,(o.k=5\/o.k=6)/\o.b=e0:=by
 intro o e;unfold fx at e;split at e
 .cases e
 .rcases Uq.1 e with h|h
  .obtain⟨s,_,h⟩:=Vv.1 h;unfold drop1 at h;simp only[UC,List.not_mem_nil,or_false] at h;rcases h with rfl|rfl|rfl <;> exact⟨Xa O,O⟩
  .rw[Uz.1 h];exact⟨Xb O,O⟩
theorem wL{L:Sd.Tb}{a:WU}{f:Nat}(h:∀p∈L,¬p.1=a):Rd.dy (L++[(a,f)]) a=S f:=by
 unfold Rd.dy;rw[List.find?_append];have e:L.find? (λp=>decide (p.1=a))=U:=List.find?_eq_none.2 λp j=>by simpa using h p j
 rw[e];simp
theorem DX{a:WU}(h:(R.create a).1=0): Rd.dy (R.create a).2.now a=S (Xg R.files)/\(R.create a).2.fl (Xg R.files)=⟨e0,0⟩:=by
 have e:=Rd.jk R;unfold Rk.create at h ⊢;split at h
 .exact absurd (show (9:Int)=0 from h) (by decide)
 .rename_i hu;rw[TZ hu];split at h
  .rename_i j;rw[T0 j];have m:(R.dY.pN a).now=Rd.ap R.dY.now ⟨e0,a,Xg R.dY.files⟩:=by
    show ({ R.dY with files:=R.dY.files++[⟨e0,0⟩],dW:=R.dY.dW++[⟨e0,a,Xg R.dY.files⟩] }:Rk).now=_
    rw[<-Rk.rA];rfl
   refine⟨?_,?_⟩
   .show Rd.dy (R.dY.pN a).now a=_
    rw[m];unfold Rd.ap;rw[TZ (Rd.oR j),e.1];exact wL λp r=>(Rd.iA.1 r).2
   .show (R.dY.pN a).fl (Xg R.files)=_
    unfold Rk.fl Rk.pN;rw[e.1];simp
  .exact absurd (show (10:Int)=0 from h) (by decide)
theorem gB.write(a p:WU)(h:Sm R n b): gB R (eO a p) (n+2) (max b (p.size+8)):=by
 have r:∀{Q:Rk} {k:Nat},Sm Q k b->k<=n+2->Sm Q (n+2) (max b (p.size+8)):=λh y=>h.mono y (Nat.le_max_left _ _)
 have u:Sm (dz R ⟨1,a,e0⟩).2 (n+2) b:=h.create a;refine gB.cons (r h (by omega)) (r u WN) λe=>?_
 have e:(R.create a).1=0:=e;obtain⟨z,A⟩:=DX e;have j:Sm (R.create a).2 (n+2) (max b (p.size+8)):=r u WN;have m:Sm ((R.create a).2.append a (dq p)).2 (n+2) (max b (p.size+8)):=by
  refine j.on a _ _ _ WN WN λi hi=>?_
  rw[z] at hi;injection hi with hi;subst hi;split
  .exact j.dY
  .refine j.dY.n9 _ _ _ WN ?_;rw[Rd.zp,A]
   show ((e0:WU)++dq p).size<=_
   rw[Us,ey]
   show 0+(p.size+8)<=_
   omega
 refine gB.cons j m λ_=>?_
 exact gB.cons m (m.sync a) λ_=>gB.nil (m.sync a)
theorem gB.save(c:Cfg)(m step da:Nat)(h:Sm R n b)(z:m<=64)(hb:1000<=b): gB R (eK c m step da) (n+8) b:=by
 have q:∀x,x+8<=1000->max b (x+8)=b:=λx A=>Nat.max_eq_left (by omega)
 unfold eK;refine gB.app (gB.app (gB.app ?_ λ_=>?_) λ_=>?_) λ_=>?_
 .have:=gB.write (nm 118 step) (vB c m) h;rw[fA,q _ (by omega)] at this;exact this.mono (by omega) WN
 .have e:=gB.write (nm 118 step) (vB c m) h;rw[fA,q _ (by omega)] at e;have:=gB.write (nm 109 step) (mB c m) e.all;rw[ga,q _ (by omega)] at this;exact this.mono (by omega) WN
 .have e:=gB.write (nm 118 step) (vB c m) h;rw[fA,q _ (by omega)] at e;have j:=gB.app (e.mono (show n+2<=n+4 by omega) (TY b)) λ_=>by
   have:=gB.write (nm 109 step) (mB c m) e.all;rw[ga,q _ (by omega)] at this;exact this
  have:=gB.write tN (kB step c.all da (gX (dq (vB c m))) (gX (dq (mB c m)))) j.all;rw[l5,q _ (by omega)] at this;exact this.mono (by omega) WN
 .have e:=gB.write (nm 118 step) (vB c m) h;rw[fA,q _ (by omega)] at e;have j:=gB.app (e.mono (show n+2<=n+4 by omega) (TY b)) λ_=>by
   have:=gB.write (nm 109 step) (mB c m) e.all;rw[ga,q _ (by omega)] at this;exact this
  have y:=gB.app (j.mono (show n+4<=n+6 by omega) (TY b)) λ_=>by
   have:=gB.write tN (kB step c.all da (gX (dq (vB c m))) (gX (dq (mB c m)))) j.all;rw[l5,q _ (by omega)] at this;exact this
  have u:=y.all;have r:Sm (dz _ ⟨4,tN,nm 99 step⟩).2 (n+6+2) b:=u.rename tN (nm 99 step);refine gB.cons (u.mono (by omega) WN) r λ_=>?_
  exact gB.cons r r.fa λ_=>gB.nil r.fa
def fG:Sp.nH:=⟨0,0,0,[]⟩
structure Out where
 res:Sp.nH
 saved:Nat
 e:Int
 R:Rk
def rz(P:Pg)(Es:List Ed)(cap every keep da n dj:Nat):Nat->Nat->Cfg->List Nat->Nat->Rk->Out
 |0,_,_,_,sv,R=>⟨fG,sv,0,R⟩
 |g+1,step,c,e,sv,R =>
  if quiet c step=true then ⟨⟨1,step,0,c.val⟩,sv,0,R⟩ else if cap<=step then ⟨⟨2,step,0,c.val⟩,sv,0,R⟩
  else if dj<step/\step%every=0 then
   (if (eh R (eK c n step da)).1≠0 then ⟨fG,sv,(eh R (eK c n step da)).1,(eh R (eK c n step da)).2⟩
     else if (eh (eh R (eK c n step da)).2 (fx ((e++[step]).take (Xg e+1-keep)))).1≠0 then ⟨fG,sv+1,(eh (eh R (eK c n step da)).2 (fx ((e++[step]).take (Xg e+1-keep)))).1,(eh (eh R (eK c n step da)).2 (fx ((e++[step]).take (Xg e+1-keep)))).2⟩
     else match lI P Es c step n with
      |.error i=>⟨⟨3,step,i,c.val⟩,sv+1,0,(eh (eh R (eK c n step da)).2 (fx ((e++[step]).take (Xg e+1-keep)))).2⟩
      |.ok a=>rz P Es cap every keep da n dj g (step+1) (fh P n a) ((e++[step]).drop (Xg e+1-keep)) (sv+1) (eh (eh R (eK c n step da)).2 (fx ((e++[step]).take (Xg e+1-keep)))).2)
  else match lI P Es c step n with
   |.error i=>⟨⟨3,step,i,c.val⟩,sv,0,R⟩
   |.ok a=>rz P Es cap every keep da n dj g (step+1) (fh P n a) e sv R
end Ru
namespace Ru
open Rd (Rk e0)
open Dk (Kept dv)
open Pk (iV fj TP kK mZ dh cV)
def iH:List Nat:=[64,194,129,127,5]
theorem Qr{w:WR}{b E:Nat}{Q R:Rk}{O:Nat->Prop}(h:iV w b E Q R O){k:Nat}(r:O k):∃c t u,w.heap[k]?=S (.cells c t u)/\t∈iH:=by
 obtain⟨d,y,A,B,C,l,F,G,I,z⟩:=h;rcases(z k).1 r with e|e
 .rcases e with rfl|e|e|e|⟨f,m,e|e⟩
  .exact⟨_,_,_,l.blk,by decide⟩
  .obtain⟨c,j,_⟩:=dh l.rn e;exact⟨_,_,_,j,by decide⟩
  .obtain⟨c,j,_⟩:=dh l.rs e;exact⟨_,_,_,j,by decide⟩
  .obtain⟨c,j,_⟩:=dh l.rc e;exact⟨_,_,_,j,by decide⟩
  .subst e;exact⟨_,_,_,(l.files _ m).blk,by decide⟩
  .obtain⟨c,j,_⟩:=dh (l.files f m).row e;exact⟨_,_,_,j,by decide⟩
 .exact False.elim e
theorem mM{w:WR}{b E:Nat}{Q R:Rk}{O:Nat->Prop}(h:iV w b E Q R O){k:Nat}{c:Array WS}{t:Nat}{fr:Nat × Nat}(j:w.heap[k]?=S (.cells c t fr))(ht:t∉iH):¬O k:=λl=>by
 obtain⟨u,y,m,e,r⟩:=Qr h l;rw[j] at e;injection e with e;injection e with _ e;subst e;exact ht r
end Ru
namespace Ru
open Sp (nG gX bt dq dx okB)
theorem sj(x:Int):IntKind.u64.wrap x=((u64 x:Nat):Int):=by
 unfold u64;have:IntKind.u64.wrap x=x%18446744073709551616:=rfl;rw[this];omega
end Ru
namespace Ru
theorem lO{w:WR}{B e s n:Nat}{v:WS}{j:List WS}(h:w.ownsRow B e s v n j):∃p b,v=.slice p n b:=by
 obtain⟨p,b,l,_⟩:=dm h;exact⟨p,b,l⟩
end Ru
namespace Ru
open Sp (nG gX bt dq dx okB)
theorem vg{n:Nat}(h:n<18446744073709551616):IntKind.i64.wrap (n:Int)=pR n:=by
 unfold pR;rw[Uy];split <;> omega
theorem pJ(s:WU)(a b:Nat)(hb:b<=s.size):∀(k o:Nat),a+o+k<=b->num (s.extract a b) o k=num s (a+o) k
 |0,o,h=>rfl
 |k+1,o,h=>by
  rw[num,num,pJ s a b hb k (o+1) (by omega),Sp.fW s a b o hb (by omega)]
  rfl
theorem NH(n:Nat):(((n:Nat):Int) == 1)=(n == 1):=by
 by_cases h:n=1
 .subst h;rfl
 .rw[Uh.2 h,Uh.2 (by omega)]
end Ru
namespace Ru
open Sp (nG gX bt dq dx okB)
open Rd (Rk)
theorem SI(v m k:WU)(n:Nat):Sp.eY n (gC v m k n):=by
 refine⟨by simp[gC],by simp[gC],by simp[gC],by simp[gC],λx b=>?_,λx b=>?_,λx b=>?_,?_⟩
 .obtain⟨i,_,rfl⟩:=Ve.1 b;exact DV (gW v 8 _)
 .obtain⟨i,_,rfl⟩:=Ve.1 b;have:=gW m 4 (12*i);have j:(256:Nat) ^ 4=4294967296:=by decide
  omega
 .obtain⟨i,_,rfl⟩:=Ve.1 b;exact DV (gW m 8 _)
 .have e:(gC v m k n).all=pR (num k 4 8):=by simp only[gC]
  rw[e];exact DV (gW k 8 4)
end Ru
namespace Ru
open Rd (Rk e0)
open Classical
def fQ(F:WU->WU)(n da:Nat)(L:List WU):List Nat:=@qF (CM F n da) (RT F n da) L
theorem pK(F:WU->WU)(n da:Nat):fQ F n da=qF (CM F n da):=by
 unfold fQ;rw[show RT F n da=λx=>propDecidable (CM F n da x) from Subsingleton.elim _ _]
theorem tF{F:WU->WU}{n da:Nat}{L:List WU}{k:Nat}(h:k<Xg L):fQ F n da (L.take (k+1))=match tZ (CM F n da) L[k] with | none=>fQ F n da (L.take k) | some s=>fQ F n da (L.take k)++[s]:=by
 simp only[pK];unfold qF;rw[Vf h,List.filterMap_append,List.filterMap_cons];cases tZ (CM F n da) L[k] with
 |none=>simp
 |some s=>simp
theorem l8{F:WU->WU}{n da:Nat}{L:List WU}(h:L.Nodup):(fQ F n da L).Nodup:=by rw[pK];exact tQ h
end Ru
end Go.Proofs.YtgkkdpegcieakaaGreatDoor
