import Derived.Test.YtgkkdpegcieakaaGreatDoorCv01
set_option linter.all false
set_option maxRecDepth 100000
set_option maxHeartbeats 0
namespace Go.Proofs.YtgkkdpegcieakaaGreatDoor
open Go.Proofs.Tryz
open Value renaming int→Z,slice→J,string→H
open Ending renaming returned→Wd
open Option renaming none→U,some→S
open IntKind renaming i64→Y
open Go renaming World→V5,Value→V6,Calls→V7
open Go.RowKit
namespace Sp
open Go
def rQ(h:Nat):Nat:=if h%2=1 then (h/2) ^^^ 3988292384 else h/2
def ox(h:Nat):Nat->Nat
 |0=>h
 |k+1=>rQ (ox h k)
def tI(s:V8):Nat->Nat
 |0=>4294967295
 |k+1=>ox (tI s k ^^^ bt s k) 8
def gW(s:V8):Nat:=4294967295-tI s s.size
variable {h:Nat}
theorem Di(e:h%2=0): rQ h=h/2:=by
 unfold rQ;rw[Tf (by omega)]
theorem Gp(e:h%2=1): rQ h=(h/2) ^^^ 3988292384:=by
 unfold rQ;rw[Tg e]
theorem Kf(l:h<4294967296): rQ h<4294967296:=by
 unfold rQ;split
 .exact Nat.xor_lt_two_pow (n:=32) (by omega) (by omega)
 .omega
theorem xM(l:h<4294967296)(k:Nat): ox h k<4294967296:=by
 induction k with
 |zero=>exact l
 |succ k b=>exact Kf b
theorem tQ{b:Nat}(l:h<4294967296)(m:b<256): h ^^^ b<4294967296:=Nat.xor_lt_two_pow (n:=32) (by omega) (by omega)
theorem Lk(s:V8)(k:Nat):tI s k<4294967296:=by
 induction k with
 |zero=>unfold tI;omega
 |succ k b=>exact xM (tQ b (jm s k)) 8
def l9(n:Nat):Nat->List UInt8
 |0=>[]
 |k+1=>l9 n k++[UInt8.ofNat (n/256 ^ k%256)]
theorem kg(n k:Nat):(l9 n k).length=k:=by
 induction k with
 |zero=>rfl
 |succ k b=>simp[l9,b]
def nI(n k:Nat):V8:=⟨(l9 n k).toArray⟩
theorem dN(n k:Nat):(nI n k).size=k:=by
 show (l9 n k).toArray.size=k
 simp[kg]
def pX(p:V8):V8:=nI p.size 4++nI (gW p) 4
def dt(p:V8):V8:=pX p++p
theorem mv(p:V8):(pX p).size=8:=by simp[pX,dN]
theorem eB(p:V8):(dt p).size=p.size+8:=by simp[dt,mv];omega
def okB(s:V8):Bool:=decide (8<=s.size/\s.extract 0 8=pX (s.extract 8 s.size))
def dw(s:V8):V8:=if okB s=true then s.extract 8 s.size else ⟨#[]⟩
theorem yU(s:V8):gW s<4294967296:=by unfold gW;omega
end Sp
namespace Sp
open Go
theorem jV{a b:V8}(l:a.size=b.size)(h:∀i,i<a.size->bt a i=bt b i):a=b:=by
 apply Uy;apply Array.ext l;intro i e m;have j:=h i e;rw[<-jW a i e,<-jW b i m] at j;exact UInt8.toNat_inj.1 j
theorem fW(s:V8)(a b p:Nat)(hb:b<=s.size)(e:a+p<b):bt (s.extract a b) p=bt s (a+p):=by
 rw[<-jW (s.extract a b) p (by rw[Tz];omega),<-jW s (a+p) (by omega),ByteArray.getElem_extract]
theorem kP(a b:V8)(i:Nat)(h:i<a.size):bt (a++b) i=bt a i:=by
 rw[<-jW (a++b) i (by rw[TC];omega),<-jW a i h,ByteArray.getElem_append_left h]
theorem Ei(a b:V8)(i:Nat)(h:i<b.size):bt (a++b) (a.size+i)=bt b i:=by
 rw[<-jW (a++b) (a.size+i) (by rw[TC];omega),<-jW b i h,ByteArray.getElem_append_right (by omega)];simp
theorem nr(a b:V8)(i n:Nat)(e:a.size=n)(h:i<b.size):bt (a++b) (n+i)=bt b i:=by
 subst e;exact Ei a b i h
theorem MI(n k i:Nat)(h:i<k):(l9 n k)[i]'(by rw[kg];exact h)=UInt8.ofNat (n/256 ^ i%256):=by
 induction k with
 |zero=>omega
 |succ k j =>
  by_cases b:i<k
  .have:=j b;simp only[l9];rw[List.getElem_append_left (by rw[kg];exact b)];exact this
  .have e:i=k:=by omega
   subst e;simp only[l9];rw[List.getElem_append_right (by rw[kg];omega)];simp[kg]
theorem NZ(n k i:Nat)(h:i<k):bt (nI n k) i=n/256 ^ i%256:=by
 rw[<-jW (nI n k) i (by rw[dN];exact h)];have b:(nI n k)[i]'(by rw[dN];exact h)=(l9 n k)[i]'(by rw[kg];exact h):=by
  rfl
 rw[b,MI n k i h];simp
variable {s:V8}
theorem Hd(h:s.size<8): okB s=false:=by
 unfold okB;exact TE (λb=>by omega)
theorem zQ(b:8<=s.size): okB s=true↔s.extract 0 8=pX (s.extract 8 s.size):=by
 unfold okB;rw[decide_eq_true_iff];exact⟨λh=>h.2,λh=>⟨b,h⟩⟩
theorem yT(h:okB s=true): dw s=s.extract 8 s.size:=Tg h
theorem Ep(h:okB s=false): dw s=⟨#[]⟩:=by unfold dw;rw[h];rfl
theorem Gk(p:V8):(dt p).extract 0 8=pX p:=by
 apply jV
 .rw[Tz,eB,mv];omega
 .intro i hi;rw[Tz,eB] at hi;rw[fW _ 0 8 i (by rw[eB];omega) (by omega),TM];exact kP _ _ _ (by rw[mv];omega)
theorem xy(p:V8):(dt p).extract 8 (dt p).size=p:=by
 apply jV
 .rw[Tz,eB];omega
 .intro i hi;rw[Tz,eB] at hi;rw[fW _ 8 _ i (by rw[eB];omega) (by rw[eB];omega)];exact nr _ _ i 8 (mv p) (by omega)
theorem ud(p:V8):okB (dt p)=true:=by
 rw[zQ (by rw[eB];omega),xy,Gk]
theorem gU(p:V8):dw (dt p)=p:=by rw[yT (ud p),xy]
end Sp
theorem yx(a b:Nat)(ha:a<4294967296)(hb:b<4294967296):bits .xor .u32 (a:Int) (b:Int)=((a ^^^ b:Nat):Int):=u32_xor_nat a b ha hb
theorem Rm(a:Nat)(h:a<4294967296):bits .xor .u32 IntKind.u32.max (a:Int)=((4294967295-a:Nat):Int):=by
 have e:IntKind.u32.max=((4294967295:Nat):Int):=by decide
 have j:=BitVec.allOnes_xor (x:=BitVec.ofNat 32 a);have b:=congrArg BitVec.toNat j;rw[BitVec.toNat_xor,BitVec.toNat_not,BitVec.toNat_allOnes,BitVec.toNat_ofNat,Nat.mod_eq_of_lt (by omega:a<2 ^ 32)] at b;have l:4294967295 ^^^ a=4294967295-a:=b;rw[e,yx _ _ (by omega) h,l]
theorem NH(a:Nat)(h:a<4294967296):bits .and .u32 (a:Int) 1=(a:Int)%2:=by
 have b:=u32_and_nat a 1 h (by omega);rw[Nat.and_one_is_mod] at b;exact b.trans (by omega)
theorem Nt(a:Nat)(h:a<4294967296)(p:a%2=0):(bits .and .u32 (a:Int) 1 == 1)=false:=by
 rw[NH a h];simp;omega
theorem No(a:Nat)(h:a<4294967296)(p:a%2=1):(bits .and .u32 (a:Int) 1 == 1)=true:=by
 rw[NH a h];simp;omega
theorem um(s:V8)(w:V5)(P:s.size<140737488355328):V7 prog 47 #[H s] w λe F=>e=Wd (Z .u32 (Sp.gW s))/\F=w:=by
 go_enter func47,ntmps47;go_wp2
 go_loopw [3,8] (λy z wr=>∃i:Nat,i<=s.size/\z=Z Y i/\y=Z .u32 (Sp.tI s i)/\wr=w) (λ_ z _=>s.size-(intOf z).toNat)
 case atStart=>exact⟨0,by omega,rfl,rfl,rfl⟩
 case round =>
  obtain⟨i,hi,rfl,rfl,rfl⟩:=hrel;have m:=Sp.Lk s i;by_cases c:i<s.size
  .generalize j:Sp.tI s i=b at m;replace j:=cU j;have I:(i:Int)<(s.size:Int):=by omega
   go_wp2;have C:=Sp.jW s i c;have r:=Sp.jm s i
   go_loopw [3,17] (λy A K=>∃k:Nat,k<=8/\A=Z Y k/\y=Z .u32 (Sp.ox (b ^^^ Sp.bt s i) k)/\K=wr) (λ_ A _=>8-(intOf A).toNat)
   case atStart =>
    refine⟨0,by omega,O,?_,O⟩;have e:((s[i].toNat:Nat):Int)%4294967296=((Sp.bt s i:Nat):Int):=by rw[C];omega
    rw[e,yx _ _ m (by omega)];rfl
   case round =>
    obtain⟨k,Q,rfl,rfl,rfl⟩:=hrel;have l:=Sp.xM (Sp.tQ m r) k;generalize u:Sp.ox (b ^^^ Sp.bt s i) k=G at l;replace u:=cU u;clear C r;by_cases R:k<8
    .have B:(k:Int)<8:=by omega
     rcases Nat.mod_two_eq_zero_or_one G with p|p
     .have L:=Nt G l p;go_wp2;go_roundw
      case rel =>
       refine⟨k+1,by omega,by go_num,?_,by first|rfl|trivial⟩
       show _=Z .u32 ((Sp.rQ (Sp.ox (b ^^^ Sp.bt s i) k):Nat):Int)
       rw[cT u,Sp.Di p];go_num
      case measure=>simp[intOf];omega
     .have L:=No G l p;go_wp2;go_roundw
      case rel =>
       refine⟨k+1,by omega,by go_num,?_,by first|rfl|trivial⟩
       show _=Z .u32 ((Sp.rQ (Sp.ox (b ^^^ Sp.bt s i) k):Nat):Int)
       rw[cT u,Sp.Gp p,<-yx (G/2) 3988292384 (by omega) (by omega)]
       rfl
      case measure=>simp[intOf];omega
    .have B:¬(k:Int)<8:=by omega
     go_wp2;go_roundw
     case rel =>
      refine⟨i+1,by omega,by go_num,?_,by first|rfl|trivial⟩;have M:k=8:=by omega
      subst M
      show _=Z .u32 ((Sp.ox (Sp.tI s i ^^^ Sp.bt s i) 8:Nat):Int)
      rw[cT j,cT u]
     case measure=>simp[intOf];omega
  .have I:¬(i:Int)<(s.size:Int):=by omega
   have e:i=s.size:=by omega
   subst e;generalize j:Sp.tI s s.size=b at m;replace j:=cU j;go_wp2;go_ret;refine⟨?_,O⟩;unfold Sp.gW;rw[cT j];rw[Rm b m];rfl
section
theorem info_u8:(prog.info? 5).map (λi=>(i.zero,i.size,i.bytes))=S (S (Z .u8 0),1,1):=by rfl
def Cv(l:List UInt8):List V6:=l.map λb=>Z .u8 (b.toNat:Int)
theorem Ew(a b:List UInt8):Cv (a++b)=Cv a++Cv b:=UD
structure Cy (w:V5) (M n:Nat) (l:List UInt8) (v:V6):Prop where
 c:w.cell? ⟨M,0,U⟩=S v
 z:w.frozen? ⟨M,0,U⟩=false
 o:w.ownsRow (M+1) 5 1 v n (Cv l)
variable {M n:Nat}{w:V5}{v:V6}{l:List UInt8}
theorem Cy.lt(h:Cy w M n l v): M<w.heap.size:=Tu w _ h.c
theorem Cy.ne(h:Cy w M n l v): S M≠v.ownBlock:=λe=>by have:=(h.o.lt M e.symm).1;omega
theorem Cy.alloc(h:Cy w M n l v)(b:Obj): Cy (w.alloc b) M n l v:=⟨((Th w.heap.size w).alloc V2 b).cell (p:=⟨M,0,U⟩) h.lt |>.trans h.c,((Th w.heap.size w).alloc V2 b).frozen (p:=⟨M,0,U⟩) h.lt |>.trans h.z,h.o.alloc b⟩
theorem GC{e size:Nat}{y:List V6}(z:w.ownsRow (M+1) e size v n y)(G:0<n)(u:V6): (w.setCell ⟨M,0,U⟩ u).ownsRow (M+1) e size v n y:=by
 obtain⟨A,b⟩:=z;refine⟨A,?_⟩;rcases b with b|⟨g,j,m,B,C,F,r⟩
 .exact .inl b
 .exact .inr ⟨g,j,m,B,C,(Tv _ _ _ g (λe=>by have I:g=M:=e;omega)).trans F,r⟩
theorem yl(n k:Nat):Z .u8 ((n/256 ^ k%256:Nat):Int)=Z .u8 ((UInt8.ofNat (n/256 ^ k%256)).toNat:Int):=by
 have h:n/256 ^ k%256<256:=Nat.mod_lt _ (by omega);rw[UInt8.toNat_ofNat']
 congr 2
 omega
def Rl(M n:Nat)(l:List UInt8)(w w':V5):Prop := ∃b,Cy w' M n l b/\Below M w w'
theorem Ea(M n k r:Nat)(l:List UInt8)(v:V6)(w:V5)(h:Cy w M r l v)(hs:r+k<=100000000)(hk:k<=8)(hn:n<18446744073709551616):V7 prog 137 #[.pointer (S ⟨M,0,U⟩),Z .u64 n,Z Y k] w λe w'=>e=Wd (.tuple #[])/\Rl M (r+k) (l++Sp.l9 n k) w w':=by
 obtain⟨i0,hi,R,T,V⟩:=TN info_u8;go_enter func137,ntmps137;go_wp2
 go_loopw [1,7] (λnn W wr=>∃(j:Nat) (u:V6),j<=k/\W=Z Y j/\nn=Z .u64 ((n/256 ^ j:Nat):Int)/\Hid (Cy wr M (r+j) (l++Sp.l9 n j) u)/\Hid (Below M w wr)) (λ_ W _=>k-(intOf W).toNat)
 case atStart=>exact⟨0,v,by omega,rfl,by simp,cU (by rw[Sp.l9,UJ];exact h),Th _ _⟩
 case round =>
  obtain⟨j,u,y,rfl,rfl,X,q⟩:=hrel;have A:=cT X;have c0:=A.c;have z0:=A.z;have t:=A.lt;have hm:n/256 ^ j<18446744073709551616:=Nat.lt_of_le_of_lt (Nat.div_le_self _ _) hn;have s:=cU (yl n j);generalize Q:n/256 ^ j=G at hm;replace Q:=cU Q;by_cases c:j<k
  .have c1:(j:Int)<(k:Int):=by omega
   have B:=A.ne;go_wp2_with (first
    | (at_builtin;go_must (refine Vf _ O (.tmp 13) (.tmp 16) 125 O (M+1) 5 i0 _ 1 1 underlying125 hi R T V O (by decide) _ _ _ O ((A.alloc _).o) ⟨wr.heap.size,0,U⟩ 1 1 [Z .u8 ((G:Int)%256)] O O ?c1 ?c2 ?c3 ?c4 ?c5 ?_))
    |go_in)
   case c1 =>
    intro j u y
    match j,y with
    |0,y=>simp at y;subst y;simp[Addr.add]
    |j+1,y=>simp at y
   case c2=>intro u hu;simp at hu;subst hu;rfl
   case c3=>unfold maxLen;omega
   case c4=>omega
   case c5=>simp;omega
   intro I w3 C b _;have m:=A.alloc (.cells #[Z .u8 ((G:Int)%256)] 5);have K:=(cT q).alloc (Ub t) (.cells #[Z .u8 ((G:Int)%256)] 5);have q0:w3.cell? ⟨M,0,U⟩=S u:=(b.cell_far ⟨M,0,U⟩ (by simp;omega) B).trans m.c;have q1:w3.frozen? ⟨M,0,U⟩=false:=(b.frozen_far ⟨M,0,U⟩ (by simp;omega) B).trans m.z;have L:=(K.grown b (by simp;omega) (λk hk=>by have:=(m.o.lt k hk).1;omega)).setCell (p:=⟨M,0,U⟩) V2 I;have P:Cy (w3.setCell ⟨M,0,U⟩ I) M (r+(j+1)) (l++Sp.l9 n (j+1)) I:=by
    refine⟨T0 _ _ _ q0,by rw[TX];exact q1,?_⟩;have h4:=GC C (M:=M) (by omega) I;rw[show r+(j+1)=r+j+1 by omega];have e4:Cv (l++Sp.l9 n (j+1))=Cv (l++Sp.l9 n j)++[Z .u8 ((G:Int)%256)]:=by
     rw[Sp.l9,<-T4,Ew (l++Sp.l9 n j)]
     congr 1
     show [Z .u8 ((UInt8.ofNat (n/256 ^ j%256)).toNat:Int)]=_
     rw[<-cT s,cT Q]
     rfl
    rw[e4];exact h4
   obtain⟨g3,ad,rfl⟩:∃g F,I=J (S ⟨g,0,U⟩) (r+j+1) F:=by
    rcases C.2 with ⟨_,ae⟩|⟨g,F,af,hv,_⟩
    .omega
    .exact⟨g,F,hv⟩
   have aa:=cU P;have ab:=cU L;clear P L m K C b A X q B;go_wp2;go_roundw
   case rel =>
    refine⟨j+1,_,by omega,by go_num,?_,aa,ab⟩;rw[Nat.pow_succ,<-Nat.div_div_eq_div_mul,cT Q];go_num
   case measure=>simp[intOf];omega
  .have e:j=k:=by omega
   subst e;have c1:¬(j:Int)<(j:Int):=by omega
   go_wp2;exact Tm (Tl O _ _ _) O ⟨O,u,cT X,cT q⟩
theorem FA(l:List UInt8):strOfNums (l.map λb=>(b.toNat:Int))=⟨l.toArray⟩:=by
 apply Uy;apply Vn.1;simp only[strOfNums,List.map_map];have:((λn:Int=>UInt8.ofNat n.toNat) ∘ λb:UInt8=>(b.toNat:Int))=id:=by funext b;simp
 rw[this];simp
theorem Iq(h:Cy w M n l v)(e:0<n): (convert 125 9 v).run prog w=.ok (H ⟨l.toArray⟩) w:=by
 have u:(Cv l).length=n*1:=h.o.1;simp only[Cv,Ue,Nat.mul_one] at u;rcases h.o.2 with ⟨_,A⟩|⟨g,j,y,rfl,_⟩
 .omega
 .rw[<-FA];refine run_convert_bytes_arg _ 125 5 underlying125 underlying5 g 0 _ j (l.map λb=>(b.toNat:Int)) (by simp only[Ue];omega) (λi hi=>?_) 9 underlying9;have m:i<l.length:=by omega
  have r:=h.o.cells (g:=g) O i (Z .u8 ((l.map λb=>(b.toNat:Int)).getD i 0)) (by
   simp only[Cv];rw[Vd,Ty,Vd,Tw m];rfl)
  rw[TM];have z:(⟨g,0,U⟩:Addr).add i=⟨g,i,U⟩:=by
   by_cases e:i=0
   .subst e;simp[Addr.add]
   .simp[Addr.add,e]
  rw[z] at r;exact r
theorem Cy.new: Cy (w.alloc (.cells #[J U 0 0] 251)) w.heap.size 0 [] (J U 0 0):=⟨by simp,by simp,TH _ _ _ _⟩
theorem ID(M n:Nat)(l:List UInt8)(v:V6)(w:V5)(h:Cy w M n l v)(b:0<n):V7 prog 139 #[.pointer (S ⟨M,0,U⟩)] w λe j=>e=Wd (H ⟨l.toArray⟩)/\j=w:=by
 have r:=h.c;have m:=Iq h b;go_enter func139,ntmps139;go_wp2;go_ret;exact⟨O,O⟩
theorem Kh(p:V8):(⟨([]++Sp.l9 (p.size) 4++Sp.l9 (Sp.gW p) 4).toArray⟩:V8)=Sp.pX p:=by
 apply Uy;unfold Sp.pX;rw[U6];apply Vn.1;rw[Vu]
 show (([]++Sp.l9 (p.size) 4++Sp.l9 (Sp.gW p) 4).toArray).toList=Sp.l9 p.size 4++Sp.l9 (Sp.gW p) 4
 simp
theorem xX(p:V8)(w:V5)(y:p.size<140737488355328):V7 prog 201 #[H p] w λe u=>e=Wd (H (Sp.pX p))/\V4 w u:=by
 have z:=Sp.yU p;rw[<-Kh];go_enter func201,ntmps201;go_wp2_with fail;refine(Ea w.heap.size p.size 4 0 [] _ _ Cy.new (by omega) (by omega) (by omega)).mono ?_;rintro e A ⟨rfl,B,m,b⟩;replace b:=((Th w.heap.size w).alloc V2 _).trans b;go_wp2_with fail;refine(um p _ (by omega)).mono ?_;rintro e C ⟨rfl,rfl⟩;go_wp2_with fail;refine(Ea w.heap.size (Sp.gW p) 4 _ _ _ _ m (by omega) (by omega) (by omega)).mono ?_;rintro e w3 ⟨rfl,F,r,j⟩;replace j:=b.trans j;clear m b;go_wp2_with fail;refine(ID w.heap.size _ _ _ _ r (by omega)).mono ?_;rintro e G ⟨rfl,rfl⟩;clear r;go_wp2;go_ret;exact⟨O,j⟩
theorem o8(p:V8)(w:V5)(j:p.size<140737488355328):V7 prog 121 #[H p] w λe m=>e=Wd (H (Sp.dt p))/\V4 w m:=by
 have r:=Vk (Sp.mv p);go_enter func121,ntmps121;go_wp2_with fail;refine(xX p _ j).mono ?_;rintro e u ⟨rfl,b⟩;go_wp2;go_ret;exact⟨O,b⟩
theorem mb(p:V8)(w:V5)(m:p.size<=140737488355328):V7 prog 209 #[H p] w λe j=>e=Wd (H p)/\V4 w j:=by
 go_enter func209,ntmps209;go_wp2_with fail;refine(Tryz.stringslite_Clone p _ (by omega)).mono ?_;rintro e r ⟨rfl,b⟩;go_wp2;go_ret;exact⟨O,b⟩
theorem R9{a b:V8}(h:¬a=b):(a.toList == b.toList)=false:=by
 apply VR.2;intro j;have e:=eq_of_beq j;rw[UK,UK] at e;exact h (Uy (Vn.1 e))
theorem QV{a b:V8}(h:a=b):(a.toList == b.toList)=true:=by subst h;simp
theorem GO(s:V8)(w:V5)(G:s.size<=140737488355328):V7 prog 200 #[H s] w λe B=>e=Wd (.tuple #[H (Sp.dw s),.bool (Sp.okB s)])/\V4 w B:=by
 by_cases c:s.size<8
 .have C:(s.size:Int)<8:=by omega
  have j:=Sp.Hd c;rw[Sp.Ep j,j];clear j c;go_enter func200,ntmps200;go_wp2;go_ret2;exact⟨O,Th _ _⟩
 .have C:¬(s.size:Int)<8:=by omega
  have r:=Sp.zQ (s:=s) (by omega);have m:(s.extract 8 s.size).size<140737488355328:=by rw[Tz];omega
  have z:=λw=>xX (s.extract 8 s.size) w m
  have A:=λw=>mb (s.extract 8 s.size) w (by omega)
  by_cases q:s.extract 0 8=Sp.pX (s.extract 8 s.size)
  .have j:Sp.okB s=true:=r.2 q;rw[j,Sp.yT j];have F:=QV q;clear r j q m;go_enter func200,ntmps200;go_wp2_with fail
   go_region_with (go_at_call 201;refine(z _).mono ?_;rintro e u ⟨rfl,b⟩)
   have b:V4 w u:=(Th w.heap.size w).drew.trans b;go_wp2_with fail;refine(A _).mono ?_;rintro e I ⟨rfl,y⟩;go_wp2;go_ret2;exact⟨O,b.trans (y.mono b.size)⟩
  .have j:Sp.okB s=false:=VR.2 (λh=>q (r.1 h));rw[j,Sp.Ep j];have F:=R9 q;clear r j q m A;go_enter func200,ntmps200;go_wp2_with fail
   go_region_with (go_at_call 201;refine(z _).mono ?_;rintro e u ⟨rfl,b⟩)
   have b:V4 w u:=(Th w.heap.size w).drew.trans b;go_wp2;go_ret2;exact⟨O,b⟩
end
end Go.Proofs.YtgkkdpegcieakaaGreatDoor
