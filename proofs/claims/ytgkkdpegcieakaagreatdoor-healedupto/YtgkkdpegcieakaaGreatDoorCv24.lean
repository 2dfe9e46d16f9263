import Derived.Test.YtgkkdpegcieakaaGreatDoorCv13
import Derived.Test.YtgkkdpegcieakaaGreatDoorCv16
import Derived.Test.YtgkkdpegcieakaaGreatDoorCv19
import Derived.Test.YtgkkdpegcieakaaGreatDoorCv23
set_option linter.all false
set_option maxRecDepth 100000
set_option maxHeartbeats 0
namespace Go.Proofs.YtgkkdpegcieakaaGreatDoor
open Go.Proofs.Tryz
open Value renaming int→Z,string→H
open Option renaming none→U,some→S
open Or renaming inl→Wh,inr→Wi
open List renaming length→Wn
open IntKind renaming i64→Y
open Go renaming World→V5,Value→V6,Calls→V7
open Go.RowKit
namespace Ru
open Go Sp
open Go.Lib (decDigits)
def dc(n:Nat):V8:=⟨(decDigits n).toArray⟩
variable {n:Nat}
theorem oA(h:n<10): decDigits n=[UInt8.ofNat (48+n)]:=by rw[decDigits,dif_pos h]
theorem zB(h:¬n<10): decDigits n=decDigits (n/10)++[UInt8.ofNat (48+n%10)]:=by rw[decDigits,dif_neg h]
theorem Iu:∀(n:Nat),∀x∈decDigits n,48<=x.toNat/\x.toNat<=57:=by
 intro n
 induction n using Nat.strongRecOn with
 |ind n j =>
  intro x e;by_cases h:n<10
  .rw[oA h,TL] at e;subst e;simp only[UInt8.toNat_ofNat'];omega
  .rw[zB h,TB,TL] at e;rcases e with e|rfl
   .exact j (n/10) (by omega) x e
   .simp only[UInt8.toNat_ofNat'];omega
def nv(l:List UInt8):Nat:=l.foldl (λn x=>10*n+(x.toNat-48)) 0
theorem E8(l:List UInt8)(x:UInt8):nv (l++[x])=10*nv l+(x.toNat-48):=by unfold nv;rw[VA];rfl
theorem KT:∀(n:Nat),nv (decDigits n)=n:=by
 intro n
 induction n using Nat.strongRecOn with
 |ind n e =>
  by_cases h:n<10
  .rw[oA h]
   show 10*0+((UInt8.ofNat (48+n)).toNat-48)=n
   simp only[UInt8.toNat_ofNat'];omega
  .rw[zB h,E8,e (n/10) (by omega)];simp only[UInt8.toNat_ofNat'];omega
variable {a b:Nat}
theorem Qb(h:decDigits a=decDigits b): a=b:=by rw[<-KT a,<-KT b,h]
theorem P2(n:Nat):0<(decDigits n).length:=by
 by_cases h:n<10
 .rw[oA h];exact Nat.one_pos
 .rw[zB h,TT];simp
theorem Lg:∀(k n:Nat),n<10 ^ (k+1)->(decDigits n).length<=k+1:=by
 intro k
 induction k with
 |zero=>intro n h;rw[oA (by simpa using h)];exact Te _
 |succ k j =>
  intro n h;by_cases e:n<10
  .rw[oA e];show 1<=_;omega
  .rw[zB e,TT];have:=j (n/10) (by rw[Nat.pow_succ] at h;omega)
   show (decDigits (n/10)).length+1<=_
   omega
theorem r7(n:Nat):(dc n).size=(decDigits n).length:=by simp[dc,ByteArray.size]
theorem OI(h:dc a=dc b): a=b:=by
 unfold dc at h;injection h with h;exact Qb (by simpa using congrArg Array.toList h)
def nm(c:UInt8)(step:Nat):V8:=⟨#[c,46]⟩++dc step
theorem re(a b:UInt8):(⟨#[a,b]⟩:V8).size=2:=rfl
theorem jU(c:UInt8)(step:Nat):(nm c step).size=2+(dc step).size:=by unfold nm;rw[TC,re]
theorem yF(c:UInt8)(step:Nat):(nm c step).extract 2 (nm c step).size=dc step:=by
 apply jV
 .rw[Tz,jU];omega
 .intro i hi;rw[Tz,jU] at hi;rw[fW _ _ _ _ V2 (by rw[jU];omega)];exact nr _ _ i 2 (re _ _) (by omega)
theorem rR(c:UInt8)(step:Nat):(nm c step).extract 0 2=⟨#[c,46]⟩:=by
 apply jV
 .rw[Tz,jU,re];omega
 .intro i hi;rw[Tz,jU] at hi;rw[fW _ _ _ _ (by rw[jU];omega) (by omega),TM];exact kP _ _ i (by rw[re];omega)
theorem sF{c d:UInt8}(h:nm c a=nm d b): c=d/\a=b:=by
 have e:=rR c a;have j:=yF c a;rw[h] at e j;rw[rR] at e;rw[yF] at j;exact⟨by injection e with e;have e:=congrArg Array.toList e;simp only[Vs] at e;exact e.1.symm,OI j.symm⟩
def nt(s:V8):Nat->Nat
 |0=>0
 |k+1=>10*nt s k+(bt s (k+2)-48)
theorem RQ(s:V8)(l:List UInt8)(k:Nat)(j:k<=Wn l)(h:∀i (hi:i<Wn l),bt s (i+2)=(l[i]).toNat):nt s k=nv (l.take k):=by
 induction k with
 |zero=>rfl
 |succ k e =>
  rw[nt,e (by omega),Uw (by omega),E8,h k (by omega)]
def so(s:V8):Option Nat:=if 3<=s.size/\dc (nt s (s.size-2))=s.extract 2 s.size then S (nt s (s.size-2)) else U
variable {s:V8}
theorem MD(h:so s=S n): 3<=s.size/\s.extract 2 s.size=dc n:=by
 unfold so at h;split at h
 .rename_i e;injection h with h;subst h;exact⟨e.1,e.2.symm⟩
 .cases h
theorem RZ(j:3<=s.size)(h:s.extract 2 s.size=dc n): so s=S n:=by
 have l:s.size-2=(decDigits n).length:=by rw[<-r7,<-h,Tz];omega
 have m:nt s (s.size-2)=n:=by
  rw[RQ s (decDigits n) (s.size-2) (by omega) (λi hi=>?_),l,Ut,KT];have e:bt (s.extract 2 s.size) i=bt s (2+i):=fW s 2 s.size i V2 (by omega);rw[h,<-jW (dc n) i (by rw[r7];exact hi)] at e;rw[Nat.add_comm i 2,<-e]
  rfl
 unfold so;rw[m,Tg ⟨j,h.symm⟩]
theorem JV(c:UInt8)(n:Nat):so (nm c n)=S n:=by
 refine RZ ?_ (yF c n);have:=P2 n;rw[jU,r7];omega
theorem JO(h:2<=s.size): s=s.extract 0 2++s.extract 2 s.size:=by
 apply jV
 .rw[TC,Tz,Tz];omega
 .intro i hi;by_cases e:i<2
  .rw[kP _ _ _ (by rw[Tz];omega),fW _ _ _ _ h (by omega),TM]
  .obtain⟨j,rfl⟩:∃j,i=2+j:=⟨i-2,by omega⟩
   rw[nr _ _ j 2 (by rw[Tz];omega) (by rw[Tz];omega),fW _ _ _ _ V2 (by omega)]
theorem qt{c:UInt8}: s=nm c n↔so s=S n/\s.extract 0 2=⟨#[c,46]⟩:=by
 constructor
 .rintro rfl;exact⟨JV c n,rR c n⟩
 .rintro⟨e,j⟩;obtain⟨m,l⟩:=MD e;rw[JO (s:=s) (by omega),j,l];rfl
end Ru
namespace Ru
open Go Sp
open Rd (Rk)
def u64(x:Int):Nat:=(x%18446744073709551616).toNat
def pT(n:Nat):Int:=if n<9223372036854775808 then (n:Int) else (n:Int)-18446744073709551616
theorem qL(x:Int):u64 x<18446744073709551616:=by unfold u64;omega
variable {n:Nat}
theorem FH(h:n<18446744073709551616): u64 (pT n)=n:=by unfold u64 pT;split <;> omega
theorem CG(h:n<18446744073709551616): Sp.i64 (pT n):=by unfold Sp.i64 pT;split <;> omega
def num(s:V8)(o:Nat):Nat->Nat
 |0=>0
 |k+1=>bt s o+256*num s (o+1) k
theorem gX(s:V8):∀(k o:Nat),num s o k<256 ^ k
 |0,o=>Nat.one_pos
 |k+1,o=>by
  have e:=gX s k (o+1);have j:=jm s o;rw[num,Nat.pow_succ];omega
theorem K5(s:V8):∀(k o n:Nat),(∀i,i<k->bt s (o+i)=n/256 ^ i%256)->num s o k=n%256 ^ k
 |0,o,n,h=>by simp[num,Nat.mod_one]
 |k+1,o,n,h=>by
  rw[num,K5 s k (o+1) (n/256) (λi hi=>?_)]
  .have e:=h 0 (by omega);rw[Uo,Nat.pow_zero,Nat.div_one] at e;rw[e,Nat.pow_succ,Vj (256 ^ k) 256,Nat.mod_mul]
  .have j:=h (i+1) (by omega);rw[show o+1+i=o+(i+1) by omega,j,Nat.pow_succ,Vj (256 ^ i) 256,Nat.div_div_eq_div_mul]
theorem B0(s:V8):∀(k o i:Nat),i<k->num s o k/256 ^ i%256=bt s (o+i)
 |0,o,i,h=>by omega
 |k+1,o,i,h=>by
  have j:=jm s o;rw[num];cases i with
  |zero=>simp only[Nat.pow_zero,Nat.div_one,Uo];omega
  |succ i =>
   have e:=B0 s k (o+1) i (by omega);rw[Nat.pow_succ,Vj (256 ^ i) 256,<-Nat.div_div_eq_div_mul,show (bt s o+256*num s (o+1) k)/256=num s (o+1) k by omega,e,show o+(i+1)=o+1+i by omega]
theorem yY(s:V8)(o k:Nat)(h:o+k<=s.size):nI (num s o k) k=s.extract o (o+k):=by
 apply jV
 .rw[dN,Tz];omega
 .intro i hi;rw[dN] at hi;rw[NZ _ _ _ hi,B0 s k o i hi,fW s o (o+k) i h (by omega)]
theorem rM{s:V8}{o k:Nat}(h:s.extract o (o+k)=nI n k)(e:o+k<=s.size): num s o k=n%256 ^ k:=K5 s k o n λi hi=>by rw[<-fW s o (o+k) i e (by omega),h,NZ _ _ _ hi]
variable {a b:Nat}
theorem r4(s:V8){c:Nat}(h1:a<=b)(h2:b<=c)(e:c<=s.size): s.extract a b++s.extract b c=s.extract a c:=by
 apply jV
 .rw[TC,Tz,Tz,Tz];omega
 .intro i hi;rw[TC,Tz,Tz] at hi;rw[fW s a c i e (by omega)];by_cases h:i<b-a
  .rw[kP _ _ _ (by rw[Tz];omega),fW s a b i (by omega) (by omega)]
  .obtain⟨j,rfl⟩:∃j,i=(b-a)+j:=⟨i-(b-a),by omega⟩
   rw[nr _ _ j (b-a) (by rw[Tz];omega) (by rw[Tz];omega),fW s b c j e (by omega)]
   congr 1;omega
theorem Ak(s:V8)(a:Nat):s.extract a a=⟨#[]⟩:=by
 apply jV
 .rw[Tz];show min a s.size-a=0;omega
 .intro i hi;rw[Tz] at hi;omega
theorem pg(s:V8):s.extract 0 s.size=s:=by
 apply jV
 .rw[Tz];omega
 .intro i hi;rw[Tz] at hi;rw[fW s 0 s.size i V2 (by omega),TM]
theorem KS(a b:V8)(h:a.size=n): (a++b).extract 0 n=a:=by
 subst h;apply jV
 .rw[Tz,TC];omega
 .intro i hi;rw[Tz,TC] at hi;rw[fW _ _ _ _ (by rw[TC];omega) (by omega),TM,kP _ _ _ (by omega)]
theorem eI(a b:V8){x y:Nat}(h:y<=a.size):(a++b).extract x y=a.extract x y:=by
 apply jV
 .rw[Tz,Tz,TC];omega
 .intro i hi;rw[Tz,TC] at hi;rw[fW _ _ _ _ (by rw[TC];omega) (by omega),fW _ _ _ _ h (by omega),kP _ _ _ (by omega)]
theorem xV(a b:V8){x y:Nat}(h:a.size=x)(h2:y=x+b.size):(a++b).extract x y=b:=by
 subst h h2;apply jV
 .rw[Tz,TC];omega
 .intro i hi;rw[Tz,TC] at hi;rw[fW _ _ _ _ (by rw[TC];omega) (by omega),Ei _ _ _ (by omega)]
def rB(b:Bool):V8:=⟨#[if b=true then 1 else 0]⟩
def vB(c:Cfg):Nat->V8
 |0=>⟨#[]⟩
 |k+1=>vB c k++nI (u64 (c.val.getD k 0)) 8++rB (c.fD.getD k false)
def mB(c:Cfg):Nat->V8
 |0=>⟨#[]⟩
 |k+1=>mB c k++nI (u64 (c.iH.getD k 0)) 4++nI (u64 (c.jf.getD k 0)) 8
def kB(step:Nat)(all:Int)(dd a b:Nat):V8:=nI step 4++nI (u64 all) 8++nI dd 4++nI a 4++nI b 4
theorem qM(b:Bool):(rB b).size=1:=rfl
theorem fA(c:Cfg):∀k,(vB c k).size=9*k
 |0=>rfl
 |k+1=>by rw[vB,TC,TC,fA c k,dN,qM];omega
theorem ga(c:Cfg):∀k,(mB c k).size=12*k
 |0=>rfl
 |k+1=>by rw[mB,TC,TC,ga c k,dN,dN];omega
theorem lX(step:Nat)(all:Int)(dd a b:Nat):(kB step all dd a b).size=24:=by unfold kB;simp only[TC,dN]
def gC(v m k:V8)(n:Nat):Cfg:=⟨(List.range n).map λi=>pT (num v (9*i) 8),(List.range n).map λi=>bt v (9*i+8) == 1,(List.range n).map λi=>((num m (12*i) 4:Nat):Int),(List.range n).map λi=>pT (num m (12*i+4) 8),pT (num k 4 8)⟩
theorem gr{α : Type}(f:Nat->α)(d : α){i:Nat}(h:i<n): ((List.range n).map f).getD i d=f i:=by
 rw[Ty,Vd,List.getElem?_range h];rfl
theorem S8(s:V8)(o:Nat)(h:o<s.size)(hb:bt s o<=1):rB (bt s o == 1)=s.extract o (o+1):=by
 apply jV
 .rw[qM,Tz];omega
 .intro i hi;rw[qM] at hi;obtain rfl:i=0:=by omega
  rw[fW s o (o+1) 0 (by omega) (by omega),Uo];rcases Nat.lt_or_ge (bt s o) 1 with e|e
  .have e:bt s o=0:=by omega
   rw[e];rfl
  .have e:bt s o=1:=by omega
   rw[e];rfl
theorem Jn(v m k:V8)(l:v.size=9*n)(e:∀i,i<n->bt v (9*i+8)<=1): ∀j,j<=n->vB (gC v m k n) j=v.extract 0 (9*j)
 |0,_=>(Ak v 0).symm
 |j+1,y=>by
  have r:(gC v m k n).val.getD j 0=pT (num v (9*j) 8):=gr _ _ (by omega);have u:(gC v m k n).fD.getD j false=(bt v (9*j+8) == 1):=gr _ _ (by omega);rw[vB,Jn v m k l e j (by omega),r,u,FH (gX v 8 _),yY v _ _ (by omega),S8 v _ (by omega) (e j (by omega)),r4 v (by omega) (by omega) (by omega),r4 v (by omega) (by omega) (by omega)]
  rfl
theorem I6(v m k:V8)(e:m.size=12*n): ∀j,j<=n->mB (gC v m k n) j=m.extract 0 (12*j)
 |0,_=>(Ak m 0).symm
 |j+1,y=>by
  have l:(gC v m k n).iH.getD j 0=((num m (12*j) 4:Nat):Int):=gr _ _ (by omega);have r:(gC v m k n).jf.getD j 0=pT (num m (12*j+4) 8):=gr _ _ (by omega);have u:u64 ((num m (12*j) 4:Nat):Int)=num m (12*j) 4:=by
   have:=gX m 4 (12*j);have z:(256:Nat) ^ 4=4294967296:=by decide
   unfold u64;omega
  rw[mB,I6 v m k e j (by omega),l,r,u,FH (gX m 8 _),yY m _ _ (by omega),yY m _ _ (by omega),r4 m (by omega) (by omega) (by omega),r4 m (by omega) (by omega) (by omega)]
  rfl
theorem Kb(c:Cfg):∀(n i:Nat),i<n->bt (vB c n) (9*i+8)<=1
 |0,i,h=>by omega
 |n+1,i,h=>by
  rw[vB];by_cases hi:i<n
  .rw[kP _ _ _ (by rw[TC,fA,dN];omega),kP _ _ _ (by rw[fA];omega)];exact Kb c n i hi
  .obtain rfl:i=n:=by omega
   rw[nr _ _ 0 (9*i+8) (by rw[TC,fA,dN]) (by rw[qM];omega)];cases c.fD.getD i false <;> decide
variable {dd:Nat}
theorem PR{step:Nat}{all:Int}: num (kB step all dd a b) 0 4=step%4294967296:=by
 rw[rM (n:=step) (o:=0) (k:=4) ?_ (by rw[lX];omega)];unfold kB;rw[eI _ _ (by simp only[TC,dN];omega),eI _ _ (by simp only[TC,dN];omega),eI _ _ (by simp only[TC,dN];omega),KS _ _ (dN _ _)]
theorem QY{step:Nat}{all:Int}: num (kB step all dd a b) 4 8=u64 all:=by
 rw[rM (n:=u64 all) (o:=4) (k:=8) ?_ (by rw[lX];omega)]
 .exact Nat.mod_eq_of_lt (qL all)
 .unfold kB;rw[eI _ _ (by simp only[TC,dN];omega),eI _ _ (by simp only[TC,dN];omega),eI _ _ (by simp only[TC,dN];omega),xV _ _ (dN _ _) (by rw[dN])]
theorem m9{s:V8}(h:okB s=true):dt (dw s)=s:=by
 have e:8<=s.size:=by unfold okB at h;exact(Vm h).1
 have j:=(zQ e).1 h;rw[yT h];unfold dt;rw[<-j,r4 s (by omega) (by omega) V2,pg]
structure GJ (F:V8->V8) (n dd:Nat) (a:V8) (st:Nat):Prop where
 ok:okB (F a)=true
 sz:(dw (F a)).size=24
 SS:st=num (dw (F a)) 0 4
 SQ:nm 99 st=a
 sum:F a=dt (kB st (pT (num (dw (F a)) 4 8)) dd (gW (F (nm 118 st))) (gW (F (nm 109 st))))
 S5:okB (F (nm 118 st))=true
 SX:(dw (F (nm 118 st))).size=9*n
 S4:okB (F (nm 109 st))=true
 SW:(dw (F (nm 109 st))).size=12*n
 fD:∀i,i<n->bt (dw (F (nm 118 st))) (9*i+8)<=1
def fw(F:V8->V8)(n st:Nat):Cfg:=gC (dw (F (nm 118 st))) (dw (F (nm 109 st))) (dw (F (nm 99 st))) n
theorem sJ(F:V8->V8)(n st:Nat):(fw F n st).all=pT (num (dw (F (nm 99 st))) 4 8):=by simp only[fw,gC]
structure Cw (F:V8->V8) (n dd st:Nat):Prop where
 S5:okB (F (nm 118 st))=true
 S4:okB (F (nm 109 st))=true
 S6:okB (F (nm 99 st))=true
 SX:(dw (F (nm 118 st))).size=9*n
 SW:(dw (F (nm 109 st))).size=12*n
 Tc:(dw (F (nm 99 st))).size=24
 lt:st<4294967296
 v:vB (fw F n st) n=dw (F (nm 118 st))
 m:mB (fw F n st) n=dw (F (nm 109 st))
 k:kB st (fw F n st).all dd (gW (dt (vB (fw F n st) n))) (gW (dt (mB (fw F n st) n)))=dw (F (nm 99 st))
abbrev Rq(F:V8->V8)(n dd:Nat):DecidablePred (Cw F n dd):=λst =>
 decidable_of_iff (okB (F (nm 118 st))=true/\okB (F (nm 109 st))=true/\okB (F (nm 99 st))=true/\(dw (F (nm 118 st))).size=9*n/\(dw (F (nm 109 st))).size=12*n/\(dw (F (nm 99 st))).size=24/\st<4294967296/\(vB (fw F n st) n).data=(dw (F (nm 118 st))).data/\(mB (fw F n st) n).data=(dw (F (nm 109 st))).data/\(kB st (fw F n st).all dd (gW (dt (vB (fw F n st) n))) (gW (dt (mB (fw F n st) n)))).data=(dw (F (nm 99 st))).data)
  ⟨λ⟨a,b,c,d,e,f,g,h,i,j⟩=>⟨a,b,c,d,e,f,g,Uy h,Uy i,Uy j⟩,λ⟨a,b,c,d,e,f,g,h,i,j⟩=>⟨a,b,c,d,e,f,g,congrArg _ h,congrArg _ i,congrArg _ j⟩⟩
variable {st:Nat}{F:V8->V8}
theorem GJ.S0{a:V8}(h:GJ F n dd a st): Cw F n dd st:=by
 obtain⟨A,B,C,G,I,r,j,u,l,m⟩:=h;subst G;have y:vB (fw F n st) n=dw (F (nm 118 st)):=by
  unfold fw;rw[Jn _ _ _ j m n V2,<-j,pg]
 have z:mB (fw F n st) n=dw (F (nm 109 st)):=by
  unfold fw;rw[I6 _ _ _ l n V2,<-l,pg]
 refine⟨r,u,A,j,l,B,?_,y,z,?_⟩
 .rw[C];exact gX _ 4 0
 .have e:=congrArg dw I;rw[gU] at e;rw[y,z,m9 r,m9 u,sJ];exact e.symm
theorem Cw.SJ(h:Cw F n dd st): GJ F n dd (nm 99 st) st:=by
 obtain⟨l,m,r,y,z,A,B,u,C,j⟩:=h;rw[u,C,m9 l,m9 m] at j;refine⟨r,A,?_,O,?_,l,y,m,z,λi hi=>?_⟩
 .have e:=PR (step:=st) (all:=(fw F n st).all) (dd:=dd) (a:=gW (F (nm 118 st))) (b:=gW (F (nm 109 st)));rw[j,Nat.mod_eq_of_lt B] at e;exact e.symm
 .rw[<-sJ F n st,j,m9 r]
 .rw[<-u];exact Kb _ _ _ hi
theorem Mf{a:V8}: GJ F n dd a st↔so a=S st/\a.extract 0 2=⟨#[99,46]⟩/\Cw F n dd st:=by
 constructor
 .intro h;obtain⟨e,j⟩:=qt.1 h.SQ.symm;exact⟨e,j,h.S0⟩
 .rintro⟨e,j,l⟩;rw[qt.2 ⟨e,j⟩];exact l.SJ
end Ru
namespace Ru
open Sp (nI gW bt dt dw okB)
open Go.Lib (decDigits)
theorem Ik(s:V8)(j k:Nat):bt s j+256*num s (j+1) k=num s j (k+1):=rfl
theorem AO(n:Nat)(h:n<=9999999999):(dc n).size<=10:=by
 rw[r7];exact Lg 9 n (by omega)
def IW(g p:V8)(cZ:Nat):V8:=g++⟨#[0]⟩++p++⟨#[0]⟩++dc cZ
def pW(g p:V8)(cZ:Nat):Nat:=gW (IW g p cZ)
end Ru
namespace Ru
open Sp (nI gW bt dt dw okB)
theorem SY(s:V8)(a:Nat)(b:Int)(ha:b=(a:Int))(h2:a<=s.size)(W:V5):Sem.run prog (Instr.slice 9 (H s) (S (Z Y b)) U U) W=.ok (H (s.extract a s.size)) W:=by
 subst ha;have:=run_slice_string_l (P:=prog) W 9 s underlying9 Y (a:Int) (by omega) (by omega);simpa using this
theorem SG(s:V8)(i:Nat)(b:Int)(hi:b=(i:Int))(h:i<s.size)(W:V5):Sem.run prog (Instr.index 9 (H s) (Z Y b)) W=.ok (Z .u8 (bt s i:Nat)) W:=by
 subst hi;have e:(i:Int)<(s.size:Int):=by omega
 rw[<-Sp.jW s i h];simp[go_sem,h,e]
end Ru
namespace Ru
open Go Sp
open Rd (Rk e0)
def ins:List Nat->Nat->List Nat
 |[],x=>[x]
 |y::l,x=>if x<y then x::y::l else y::ins l x
def og(A:List Nat):List Nat:=A.foldl ins []
def me(l:List Nat):Prop:=l.Pairwise (· < ·)
theorem zy{l:List Nat}{x y:Nat}:y∈ins l x↔y=x\/y∈l:=by
 induction l with
 |nil=>simp[ins]
 |cons z l b =>
  unfold ins;split
  .simp
  .rw[TO,b,TO];constructor
   .rintro(h|h|h)
    .exact Wi (Wh h)
    .exact Wh h
    .exact Wi (Wi h)
   .rintro(h|h|h)
    .exact Wi (Wh h)
    .exact Wh h
    .exact Wi (Wi h)
theorem Ny(l:List Nat)(x:Nat):(ins l x).length=Wn l+1:=by
 induction l with
 |nil=>rfl
 |cons z l b =>
  unfold ins;split
  .rfl
  .rw[Tr,b];rfl
theorem MF{l:List Nat}(h:me l){x:Nat}(r:x∉l):me (ins l x):=by
 induction l with
 |nil=>exact List.pairwise_singleton _ _
 |cons z l u =>
  have j:=Um.1 h;have A:x≠z:=λe=>r (by rw[e];exact TV)
  unfold ins;split
  .rename_i b;refine Um.2 ⟨λy m=>?_,h⟩;rcases TO.1 m with e|e
   .rw[e];exact b
   .exact Nat.lt_trans b (j.1 y e)
  .rename_i b;refine Um.2 ⟨λy m=>?_,u j.2 (λe=>r (Ug _ e))⟩;rcases zy.1 m with e|e
   .rw[e];omega
   .exact j.1 y e
theorem Aq(A:List Nat):∀(l:List Nat),me l->A.Nodup->(∀x∈A,x∉l)->me (A.foldl ins l)/\(∀y,y∈A.foldl ins l↔y∈A\/y∈l)/\(A.foldl ins l).length=Wn A+Wn l:=by
 induction A with
 |nil=>intro l h _ _;exact⟨h,λy=>by simp,by simp⟩
 |cons a A m =>
  intro l h r hd;have b:=List.nodup_cons.1 r;obtain⟨u,z,B⟩:=m (ins l a) (MF h (hd a TV)) b.2 (λx j e=>by
   rcases zy.1 e with e|e
   .exact b.1 (e ▸ j)
   .exact hd x (Ug _ j) e)
  refine⟨u,λy=>?_,?_⟩
  .rw[VD,z,zy,TO];constructor
   .rintro(h|h|h)
    .exact Wh (Wi h)
    .exact Wh (Wh h)
    .exact Wi h
   .rintro((h|h)|h)
    .exact Wi (Wh h)
    .exact Wh h
    .exact Wi (Wi h)
  .rw[VD,B,Ny,Tr];omega
theorem xz{A:List Nat}(h:A.Nodup):me (og A):=(Aq A [] List.Pairwise.nil h (λx _ b=>by cases b)).1
theorem sx{A:List Nat}(h:A.Nodup)(y:Nat):y∈og A↔y∈A:=by
 rw[show og A=A.foldl ins [] from rfl,(Aq A [] List.Pairwise.nil h (λx _ b=>by cases b)).2.1];simp
theorem Eh:∀{a b:List Nat},me a->me b->(∀y,y∈a↔y∈b)->a=b
 |[],[],_,_,_=>rfl
 |[],y::b,_,_,h=>absurd ((h y).2 TV) (by simp)
 |x::a,[],_,_,h=>absurd ((h x).1 TV) (by simp)
 |x::a,y::b,r,hb,h=>by
  have j:=Um.1 r;have l:=Um.1 hb;have e:x=y:=by
   rcases TO.1 ((h x).1 TV) with e|e
   .exact e
   .rcases TO.1 ((h y).2 TV) with e2|e2
    .exact e2.symm
    .have u:=l.1 x e;have A:=j.1 y e2;omega
  subst e;refine congrArg (x :: ·) (Eh j.2 l.2 λz=>?_);constructor
  .intro m;rcases TO.1 ((h z).1 (Ug _ m)) with e|e
   .have:=j.1 z m;omega
   .exact e
  .intro m;rcases TO.1 ((h z).2 (Ug _ m)) with e|e
   .have:=l.1 z m;omega
   .exact e
def tU(W:Nat->Prop)[DecidablePred W](a:V8):Option Nat:=match so a with
 |none=>U
 |some s=>if a.extract 0 2=⟨#[99,46]⟩/\W s then S s else U
def qs(W:Nat->Prop)[DecidablePred W](L:List V8):List Nat:=L.filterMap (tU W)
theorem nA{W:Nat->Prop}[DecidablePred W]{a:V8}{s:Nat}(h:tU W a=S s):a=nm 99 s/\W s:=by
 unfold tU at h;cases b:so a with
 |none=>rw[b] at h;cases h
 |some t =>
  rw[b] at h;simp only at h;split at h
  .rename_i e;injection h with h;subst h;exact⟨qt.2 ⟨b,e.1⟩,e.2⟩
  .cases h
theorem tt{W:Nat->Prop}[DecidablePred W]{L:List V8}(h:L.Nodup):(qs W L).Nodup:=by
 induction L with
 |nil=>exact List.Pairwise.nil
 |cons a L l =>
  have j:=List.nodup_cons.1 h;unfold qs;rw[List.filterMap_cons];cases r:tU W a with
  |none=>exact l j.2
  |some s =>
   refine List.nodup_cons.2 ⟨λu=>?_,l j.2⟩;obtain⟨b,m,e⟩:=List.mem_filterMap.1 u;have y:=(nA r).1;have z:=(nA e).1;rw[z,<-y] at m;exact j.1 m
def zp(K:List Nat)(a:V8):Bool:=match so a with
 |none=>false
 |some s=>K.contains s&&(decide (a.extract 0 2=⟨#[99,46]⟩) || decide (a.extract 0 2=⟨#[109,46]⟩) || decide (a.extract 0 2=⟨#[118,46]⟩))
theorem nU{K:List Nat}{a:V8}:zp K a=true↔∃s∈K,a=nm 99 s\/a=nm 109 s\/a=nm 118 s:=by
 unfold zp;cases b:so a with
 |none =>
  refine⟨λh=>(by cases h),?_⟩;rintro⟨s,_,h|h|h⟩ <;> · rw[h,JV] at b;cases b
 |some t =>
  simp only[Vl,Bool.or_eq_true,decide_eq_true_eq,List.contains_iff_mem];constructor
  .rintro⟨e,(j|j)|j⟩
   .exact⟨t,e,Wh (qt.2 ⟨b,j⟩)⟩
   .exact⟨t,e,Wi (Wh (qt.2 ⟨b,j⟩))⟩
   .exact⟨t,e,Wi (Wi (qt.2 ⟨b,j⟩))⟩
  .rintro⟨s,e,h|h|h⟩ <;> · obtain⟨l,m⟩:=qt.1 h;rw[b] at l;injection l with l;subst l;simp[e,m]
structure Oq where
 k:Nat
 a:V8
 b:V8
def dz(R:Rk)(o:Oq):Int × Rk:=if o.k=1 then R.create o.a else if o.k=2 then R.append o.a o.b else if o.k=3 then R.sync o.a else if o.k=4 then R.rename o.a o.b else if o.k=5 then R.remove o.a else R.fc
def ep(R:Rk):List Oq->Int × Rk
 |[]=>(0,R)
 |o::r=>if (dz R o).1=0 then ep (dz R o).2 r else dz R o
theorem iD(R:Rk):∀(l m:List Oq),ep R (l++m)=if (ep R l).1=0 then ep (ep R l).2 m else ep R l
 |[],m=>by simp[ep]
 |o::l,m=>by
  rw[TZ,ep,ep];by_cases h:(dz R o).1=0
  .rw[Tg h,Tg h,iD (dz R o).2 l m]
  .rw[Tf h,Tf h,Tf h]
def m7(a:V8):Oq:=⟨5,a,e0⟩
def n9:Oq:=⟨6,e0,e0⟩
def dU(L:List V8)(K:List Nat):List Oq:=let r:=(L.filter λa=>!zp K a).map m7
 if r=[] then [] else r++[n9]
def eR(a p:V8):List Oq:=[⟨1,a,e0⟩,⟨2,a,dt p⟩,⟨3,a,e0⟩]
def tN:V8:=⟨#[116]⟩
def eM(c:Cfg)(n step dd:Nat):List Oq:=eR (nm 118 step) (vB c n)++eR (nm 109 step) (mB c n)++eR tN (kB step c.all dd (gW (dt (vB c n))) (gW (dt (mB c n))))++[⟨4,tN,nm 99 step⟩,n9]
def drop1(s:Nat):List Oq:=[m7 (nm 99 s),m7 (nm 109 s),m7 (nm 118 s)]
def fF(K:List Nat):List Oq:=if K=[] then [] else K.flatMap drop1++[n9]
end Ru
namespace Ru
open Go Sp
open Rd (Rk e0 Ch)
open Pk (Sm)
def gA(R:Rk)(l:List Oq)(n b:Nat):Prop := ∀i,i<=Wn l->Sm (ep R (l.take i)).2 n b
variable {b n:Nat}{R:Rk}{l:List Oq}
theorem gA.all(h:gA R l n b): Sm (ep R l).2 n b:=by have:=h (Wn l) V2;rw[Ut] at this;exact this
theorem gA.nil(h:Sm R n b): gA R [] n b:=λi hi=>by rw[List.take_nil];exact h
theorem gA.cons{o:Oq}(j:Sm R n b)(h1:Sm (dz R o).2 n b)(h:(dz R o).1=0->gA (dz R o).2 l n b): gA R (o::l) n b:=λi hi=>by
 cases i with
 |zero=>exact j
 |succ i =>
  rw[UW,ep];split
  .rename_i e;exact h e i (by simpa using hi)
  .exact h1
theorem gA.app{m:List Oq}(h:gA R l n b)(k:(ep R l).1=0->gA (ep R l).2 m n b): gA R (l++m) n b:=λi hi=>by
 by_cases r:i<=Wn l
 .rw[UA r];exact h i r
 .obtain⟨j,rfl⟩:∃j,i=Wn l+j:=⟨i-Wn l,by omega⟩
  rw[List.take_length_add_append,iD];split
  .rename_i e;rw[TT] at hi;exact k e j (by omega)
  .exact h.all
theorem gA.mono{e j:Nat}(h:gA R l n b)(m:n<=e)(hb:b<=j): gA R l e j:=λi hi=>(h i hi).mono m hb
theorem gA.tK: ∀{l:List Oq},(∀o∈l,o.k=5\/o.k=6)->Sm R n b->gA R l n b:=by
 intro l
 induction l generalizing R with
 |nil=>intro _ h;exact gA.nil h
 |cons o l r =>
  intro j h;have m:Sm (dz R o).2 n b:=by
   unfold dz;rcases j o TV with e|e
   .rw[Tf (by omega),Tf (by omega),Tf (by omega),Tf (by omega),Tg e];exact h.remove _
   .rw[Tf (by omega),Tf (by omega),Tf (by omega),Tf (by omega),Tf (by omega)];exact h.fc
  exact gA.cons h m λ_=>r (λq u=>j q (Ug _ u)) m
theorem ru(L:List V8)(K:List Nat):∀o∈dU L K,(o.k=5\/o.k=6)/\o.b=e0:=by
 intro o e;unfold dU at e;simp only at e;split at e
 .cases e
 .rcases TB.1 e with h|h
  .obtain⟨a,_,rfl⟩:=Uu.1 h;exact⟨Wh O,O⟩
  .rw[TL.1 h];exact⟨Wi O,O⟩
theorem uG(K:List Nat):∀o∈fF K,(o.k=5\/o.k=6)/\o.b=e0:=by
 intro o e;unfold fF at e;split at e
 .cases e
 .rcases TB.1 e with h|h
  .obtain⟨s,_,h⟩:=UM.1 h;unfold drop1 at h;simp only[TO,List.not_mem_nil,or_false] at h;rcases h with rfl|rfl|rfl <;> exact⟨Wh O,O⟩
  .rw[TL.1 h];exact⟨Wi O,O⟩
theorem wP{L:Sd.Tb}{a:V8}{f:Nat}(h:∀p∈L,¬p.1=a):Rd.dx (L++[(a,f)]) a=S f:=by
 unfold Rd.dx;rw[List.find?_append];have e:L.find? (λp=>decide (p.1=a))=U:=List.find?_eq_none.2 λp j=>by simpa using h p j
 rw[e];simp
theorem CM{a:V8}(h:(R.create a).1=0): Rd.dx (R.create a).2.now a=S (Wn R.files)/\(R.create a).2.fl (Wn R.files)=⟨e0,0⟩:=by
 have e:=Rd.jv R;unfold Rk.create at h ⊢;split at h
 .exact absurd (show (9:Int)=0 from h) (by decide)
 .rename_i hu;rw[Tf hu];split at h
  .rename_i j;rw[Tg j];have m:(R.eg.pV a).now=Rd.ap R.eg.now ⟨e0,a,Wn R.eg.files⟩:=by
    show ({ R.eg with files:=R.eg.files++[⟨e0,0⟩],dX:=R.eg.dX++[⟨e0,a,Wn R.eg.files⟩] }:Rk).now=_
    rw[<-Rk.rP];rfl
   refine⟨?_,?_⟩
   .show Rd.dx (R.eg.pV a).now a=_
    rw[m];unfold Rd.ap;rw[Tf (Rd.oG j),e.1];exact wP λp r=>(Rd.iA.1 r).2
   .show (R.eg.pV a).fl (Wn R.files)=_
    unfold Rk.fl Rk.pV;rw[e.1];simp
  .exact absurd (show (10:Int)=0 from h) (by decide)
theorem gA.write(a p:V8)(h:Sm R n b): gA R (eR a p) (n+2) (max b (p.size+8)):=by
 have r:∀{Q:Rk} {k:Nat},Sm Q k b->k<=n+2->Sm Q (n+2) (max b (p.size+8)):=λh y=>h.mono y (Nat.le_max_left _ _)
 have u:Sm (dz R ⟨1,a,e0⟩).2 (n+2) b:=h.create a;refine gA.cons (r h (by omega)) (r u V2) λe=>?_
 have e:(R.create a).1=0:=e;obtain⟨z,A⟩:=CM e;have j:Sm (R.create a).2 (n+2) (max b (p.size+8)):=r u V2;have m:Sm ((R.create a).2.append a (dt p)).2 (n+2) (max b (p.size+8)):=by
  refine j.on a _ _ _ V2 V2 λi hi=>?_
  rw[z] at hi;injection hi with hi;subst hi;split
  .exact j.eg
  .refine j.eg.oa _ _ _ V2 ?_;rw[Rd.yw,A]
   show ((e0:V8)++dt p).size<=_
   rw[TC,eB]
   show 0+(p.size+8)<=_
   omega
 refine gA.cons j m λ_=>?_
 exact gA.cons m (m.sync a) λ_=>gA.nil (m.sync a)
theorem gA.save(c:Cfg)(m step dd:Nat)(h:Sm R n b)(z:m<=64)(hb:1000<=b): gA R (eM c m step dd) (n+8) b:=by
 have q:∀x,x+8<=1000->max b (x+8)=b:=λx A=>Nat.max_eq_left (by omega)
 unfold eM;refine gA.app (gA.app (gA.app ?_ λ_=>?_) λ_=>?_) λ_=>?_
 .have:=gA.write (nm 118 step) (vB c m) h;rw[fA,q _ (by omega)] at this;exact this.mono (by omega) V2
 .have e:=gA.write (nm 118 step) (vB c m) h;rw[fA,q _ (by omega)] at e;have:=gA.write (nm 109 step) (mB c m) e.all;rw[ga,q _ (by omega)] at this;exact this.mono (by omega) V2
 .have e:=gA.write (nm 118 step) (vB c m) h;rw[fA,q _ (by omega)] at e;have j:=gA.app (e.mono (show n+2<=n+4 by omega) (Te b)) λ_=>by
   have:=gA.write (nm 109 step) (mB c m) e.all;rw[ga,q _ (by omega)] at this;exact this
  have:=gA.write tN (kB step c.all dd (gW (dt (vB c m))) (gW (dt (mB c m)))) j.all;rw[lX,q _ (by omega)] at this;exact this.mono (by omega) V2
 .have e:=gA.write (nm 118 step) (vB c m) h;rw[fA,q _ (by omega)] at e;have j:=gA.app (e.mono (show n+2<=n+4 by omega) (Te b)) λ_=>by
   have:=gA.write (nm 109 step) (mB c m) e.all;rw[ga,q _ (by omega)] at this;exact this
  have y:=gA.app (j.mono (show n+4<=n+6 by omega) (Te b)) λ_=>by
   have:=gA.write tN (kB step c.all dd (gW (dt (vB c m))) (gW (dt (mB c m)))) j.all;rw[lX,q _ (by omega)] at this;exact this
  have u:=y.all;have r:Sm (dz _ ⟨4,tN,nm 99 step⟩).2 (n+6+2) b:=u.rename tN (nm 99 step);refine gA.cons (u.mono (by omega) V2) r λ_=>?_
  exact gA.cons r r.fc λ_=>gA.nil r.fc
def fO:Sp.nG:=⟨0,0,0,[]⟩
structure Out where
 res:Sp.nG
 saved:Nat
 e:Int
 R:Rk
def rz(P:Pg)(Es:List Ed)(cap every keep dd n dp:Nat):Nat->Nat->Cfg->List Nat->Nat->Rk->Out
 |0,_,_,_,sv,R=>⟨fO,sv,0,R⟩
 |g+1,step,c,K,sv,R =>
  if quiet c step=true then ⟨⟨1,step,0,c.val⟩,sv,0,R⟩ else if cap<=step then ⟨⟨2,step,0,c.val⟩,sv,0,R⟩
  else if dp<step/\step%every=0 then
   (if (ep R (eM c n step dd)).1≠0 then ⟨fO,sv,(ep R (eM c n step dd)).1,(ep R (eM c n step dd)).2⟩
     else if (ep (ep R (eM c n step dd)).2 (fF ((K++[step]).take (Wn K+1-keep)))).1≠0 then ⟨fO,sv+1,(ep (ep R (eM c n step dd)).2 (fF ((K++[step]).take (Wn K+1-keep)))).1,(ep (ep R (eM c n step dd)).2 (fF ((K++[step]).take (Wn K+1-keep)))).2⟩
     else match lK P Es c step n with
      |.error i=>⟨⟨3,step,i,c.val⟩,sv+1,0,(ep (ep R (eM c n step dd)).2 (fF ((K++[step]).take (Wn K+1-keep)))).2⟩
      |.ok a=>rz P Es cap every keep dd n dp g (step+1) (fi P n a) ((K++[step]).drop (Wn K+1-keep)) (sv+1) (ep (ep R (eM c n step dd)).2 (fF ((K++[step]).take (Wn K+1-keep)))).2)
  else match lK P Es c step n with
   |.error i=>⟨⟨3,step,i,c.val⟩,sv,0,R⟩
   |.ok a=>rz P Es cap every keep dd n dp g (step+1) (fi P n a) K sv R
end Ru
namespace Ru
open Rd (Rk e0)
open Dk (Kept dy)
open Pk (jd fx TP ly ng di cX)
def iX:List Nat:=[64,194,129,127,5]
theorem P0{w:V5}{b E:Nat}{Q R:Rk}{O:Nat->Prop}(h:jd w b E Q R O){k:Nat}(r:O k):∃c t u,w.heap[k]?=S (.cells c t u)/\t∈iX:=by
 obtain⟨d,y,A,B,C,l,F,G,I,z⟩:=h;rcases(z k).1 r with e|e
 .rcases e with rfl|e|e|e|⟨f,m,e|e⟩
  .exact⟨_,_,_,l.blk,by decide⟩
  .obtain⟨c,j,_⟩:=di l.rn e;exact⟨_,_,_,j,by decide⟩
  .obtain⟨c,j,_⟩:=di l.rs e;exact⟨_,_,_,j,by decide⟩
  .obtain⟨c,j,_⟩:=di l.rc e;exact⟨_,_,_,j,by decide⟩
  .subst e;exact⟨_,_,_,(l.files _ m).blk,by decide⟩
  .obtain⟨c,j,_⟩:=di (l.files f m).row e;exact⟨_,_,_,j,by decide⟩
 .exact False.elim e
theorem nV{w:V5}{b E:Nat}{Q R:Rk}{O:Nat->Prop}(h:jd w b E Q R O){k:Nat}{c:Array V6}{t:Nat}{fr:Nat × Nat}(j:w.heap[k]?=S (.cells c t fr))(ht:t∉iX):¬O k:=λl=>by
 obtain⟨u,y,m,e,r⟩:=P0 h l;rw[j] at e;injection e with e;injection e with _ e;subst e;exact ht r
end Ru
namespace Ru
open Sp (nI gW bt dt dw okB)
theorem rZ(x:Int):IntKind.u64.wrap x=((u64 x:Nat):Int):=by
 unfold u64;have:IntKind.u64.wrap x=x%18446744073709551616:=rfl;rw[this];omega
end Ru
namespace Ru
theorem l5{w:V5}{B e s n:Nat}{v:V6}{j:List V6}(h:w.ownsRow B e s v n j):∃p b,v=.slice p n b:=by
 obtain⟨p,b,l,_⟩:=dm h;exact⟨p,b,l⟩
end Ru
namespace Ru
open Sp (nI gW bt dt dw okB)
theorem vQ{n:Nat}(h:n<18446744073709551616):IntKind.i64.wrap (n:Int)=pT n:=by
 unfold pT;rw[TJ];split <;> omega
theorem pB(s:V8)(a b:Nat)(hb:b<=s.size):∀(k o:Nat),a+o+k<=b->num (s.extract a b) o k=num s (a+o) k
 |0,o,h=>rfl
 |k+1,o,h=>by
  rw[num,num,pB s a b hb k (o+1) (by omega),Sp.fW s a b o hb (by omega)]
  rfl
theorem MH(n:Nat):(((n:Nat):Int) == 1)=(n == 1):=by
 by_cases h:n=1
 .subst h;rfl
 .rw[Tt.2 h,Tt.2 (by omega)]
end Ru
namespace Ru
open Sp (nI gW bt dt dw okB)
open Rd (Rk)
theorem Q8(v m k:V8)(n:Nat):Sp.eY n (gC v m k n):=by
 refine⟨by simp[gC],by simp[gC],by simp[gC],by simp[gC],λx b=>?_,λx b=>?_,λx b=>?_,?_⟩
 .obtain⟨i,_,rfl⟩:=Uu.1 b;exact CG (gX v 8 _)
 .obtain⟨i,_,rfl⟩:=Uu.1 b;have:=gX m 4 (12*i);have j:(256:Nat) ^ 4=4294967296:=by decide
  omega
 .obtain⟨i,_,rfl⟩:=Uu.1 b;exact CG (gX m 8 _)
 .have e:(gC v m k n).all=pT (num k 4 8):=by simp only[gC]
  rw[e];exact CG (gX k 8 4)
end Ru
namespace Ru
open Rd (Rk e0)
open Classical
def fS(F:V8->V8)(n dd:Nat)(L:List V8):List Nat:=@qs (Cw F n dd) (Rq F n dd) L
theorem pA(F:V8->V8)(n dd:Nat):fS F n dd=qs (Cw F n dd):=by
 unfold fS;rw[show Rq F n dd=λx=>propDecidable (Cw F n dd x) from Subsingleton.elim _ _]
theorem tB{F:V8->V8}{n dd:Nat}{L:List V8}{k:Nat}(h:k<Wn L):fS F n dd (L.take (k+1))=match tU (Cw F n dd) L[k] with | none=>fS F n dd (L.take k) | some s=>fS F n dd (L.take k)++[s]:=by
 simp only[pA];unfold qs;rw[Uw h,List.filterMap_append,List.filterMap_cons];cases tU (Cw F n dd) L[k] with
 |none=>simp
 |some s=>simp
theorem l7{F:V8->V8}{n dd:Nat}{L:List V8}(h:L.Nodup):(fS F n dd L).Nodup:=by rw[pA];exact tt h
end Ru
end Go.Proofs.YtgkkdpegcieakaaGreatDoor
