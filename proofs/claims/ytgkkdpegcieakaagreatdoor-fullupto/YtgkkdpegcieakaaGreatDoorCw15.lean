import Derived.Test.YtgkkdpegcieakaaGreatDoorCw01
set_option linter.all false
set_option maxRecDepth 100000
set_option maxHeartbeats 16000000
namespace Go.Proofs.YtgkkdpegcieakaaGreatDoor
open Go.Proofs.Tryz
open Value renaming int→Z,slice→J,string→H
open Ending renaming returned→WZ
open Option renaming none→U,some→S
open IntKind renaming i64→Y
open Go renaming World→WR,Value→WS,Calls→WT
open Go.RowKit
namespace Sp
open Go
def ri(h:Nat):Nat:=if h%2=1 then (h/2) ^^^ 3988292384 else h/2
def ox(h:Nat):Nat->Nat
 |0=>h
 |k+1=>ri (ox h k)
def tE(s:WU):Nat->Nat
 |0=>4294967295
 |k+1=>ox (tE s k ^^^ bt s k) 8
def gX(s:WU):Nat:=4294967295-tE s s.size
variable {h:Nat}
theorem De(e:h%2=0): ri h=h/2:=by
 unfold ri;rw[TZ (by omega)]
theorem Gb(e:h%2=1): ri h=(h/2) ^^^ 3988292384:=by
 unfold ri;rw[T0 e]
theorem Kj(l:h<4294967296): ri h<4294967296:=by
 unfold ri;split
 .exact Nat.xor_lt_two_pow (n:=32) (by omega) (by omega)
 .omega
theorem xC(l:h<4294967296)(k:Nat): ox h k<4294967296:=by
 induction k with
 |zero=>exact l
 |succ k b=>exact Kj b
theorem tP{b:Nat}(l:h<4294967296)(m:b<256): h ^^^ b<4294967296:=Nat.xor_lt_two_pow (n:=32) (by omega) (by omega)
theorem JA(s:WU)(k:Nat):tE s k<4294967296:=by
 induction k with
 |zero=>unfold tE;omega
 |succ k b=>exact xC (tP b (ju s k)) 8
def lW(n:Nat):Nat->List UInt8
 |0=>[]
 |k+1=>lW n k++[UInt8.ofNat (n/256 ^ k%256)]
theorem kC(n k:Nat):(lW n k).length=k:=by
 induction k with
 |zero=>rfl
 |succ k b=>simp[lW,b]
def nG(n k:Nat):WU:=⟨(lW n k).toArray⟩
theorem dM(n k:Nat):(nG n k).size=k:=by
 show (lW n k).toArray.size=k
 simp[kC]
def pX(p:WU):WU:=nG p.size 4++nG (gX p) 4
def dq(p:WU):WU:=pX p++p
theorem mw(p:WU):(pX p).size=8:=by simp[pX,dM]
theorem ey(p:WU):(dq p).size=p.size+8:=by simp[dq,mw];omega
def okB(s:WU):Bool:=decide (8<=s.size/\s.extract 0 8=pX (s.extract 8 s.size))
def dx(s:WU):WU:=if okB s=true then s.extract 8 s.size else ⟨#[]⟩
theorem zw(s:WU):gX s<4294967296:=by unfold gX;omega
end Sp
namespace Sp
open Go
theorem jF{a b:WU}(l:a.size=b.size)(h:∀i,i<a.size->bt a i=bt b i):a=b:=by
 apply Vh;apply Array.ext l;intro i e m;have j:=h i e;rw[<-jQ a i e,<-jQ b i m] at j;exact UInt8.toNat_inj.1 j
theorem fW(s:WU)(a b p:Nat)(hb:b<=s.size)(e:a+p<b):bt (s.extract a b) p=bt s (a+p):=by
 rw[<-jQ (s.extract a b) p (by rw[Un];omega),<-jQ s (a+p) (by omega),ByteArray.getElem_extract]
theorem kM(a b:WU)(i:Nat)(h:i<a.size):bt (a++b) i=bt a i:=by
 rw[<-jQ (a++b) i (by rw[Us];omega),<-jQ a i h,ByteArray.getElem_append_left h]
theorem FX(a b:WU)(i:Nat)(h:i<b.size):bt (a++b) (a.size+i)=bt b i:=by
 rw[<-jQ (a++b) (a.size+i) (by rw[Us];omega),<-jQ b i h,ByteArray.getElem_append_right (by omega)];simp
theorem nF(a b:WU)(i n:Nat)(e:a.size=n)(h:i<b.size):bt (a++b) (n+i)=bt b i:=by
 subst e;exact FX a b i h
theorem Mx(n k i:Nat)(h:i<k):(lW n k)[i]'(by rw[kC];exact h)=UInt8.ofNat (n/256 ^ i%256):=by
 induction k with
 |zero=>omega
 |succ k j =>
  by_cases b:i<k
  .have:=j b;simp only[lW];rw[List.getElem_append_left (by rw[kC];exact b)];exact this
  .have e:i=k:=by omega
   subst e;simp only[lW];rw[List.getElem_append_right (by rw[kC];omega)];simp[kC]
theorem Ox(n k i:Nat)(h:i<k):bt (nG n k) i=n/256 ^ i%256:=by
 rw[<-jQ (nG n k) i (by rw[dM];exact h)];have b:(nG n k)[i]'(by rw[dM];exact h)=(lW n k)[i]'(by rw[kC];exact h):=by
  rfl
 rw[b,Mx n k i h];simp
variable {s:WU}
theorem Iw(h:s.size<8): okB s=false:=by
 unfold okB;exact Uu (λb=>by omega)
theorem zE(b:8<=s.size): okB s=true↔s.extract 0 8=pX (s.extract 8 s.size):=by
 unfold okB;rw[decide_eq_true_iff];exact⟨λh=>h.2,λh=>⟨b,h⟩⟩
theorem yy(h:okB s=true): dx s=s.extract 8 s.size:=T0 h
theorem FG(h:okB s=false): dx s=⟨#[]⟩:=by unfold dx;rw[h];rfl
theorem Gd(p:WU):(dq p).extract 0 8=pX p:=by
 apply jF
 .rw[Un,ey,mw];omega
 .intro i hi;rw[Un,ey] at hi;rw[fW _ 0 8 i (by rw[ey];omega) (by omega),UA];exact kM _ _ _ (by rw[mw];omega)
theorem xy(p:WU):(dq p).extract 8 (dq p).size=p:=by
 apply jF
 .rw[Un,ey];omega
 .intro i hi;rw[Un,ey] at hi;rw[fW _ 8 _ i (by rw[ey];omega) (by rw[ey];omega)];exact nF _ _ i 8 (mw p) (by omega)
theorem ur(p:WU):okB (dq p)=true:=by
 rw[zE (by rw[ey];omega),xy,Gd]
theorem gR(p:WU):dx (dq p)=p:=by rw[yy (ur p),xy]
end Sp
section
theorem zt(a b:Nat)(ha:a<4294967296)(hb:b<4294967296):bits .xor .u32 (a:Int) (b:Int)=((a ^^^ b:Nat):Int):=u32_xor_nat a b ha hb
theorem Rr(a:Nat)(h:a<4294967296):bits .xor .u32 IntKind.u32.max (a:Int)=((4294967295-a:Nat):Int):=by
 have e:IntKind.u32.max=((4294967295:Nat):Int):=by decide
 have j:=BitVec.allOnes_xor (x:=BitVec.ofNat 32 a);have b:=congrArg BitVec.toNat j;rw[BitVec.toNat_xor,BitVec.toNat_not,BitVec.toNat_allOnes,BitVec.toNat_ofNat,Nat.mod_eq_of_lt (by omega:a<2 ^ 32)] at b;have l:4294967295 ^^^ a=4294967295-a:=b;rw[e,zt _ _ (by omega) h,l]
theorem OA(a:Nat)(h:a<4294967296):bits .and .u32 (a:Int) 1=(a:Int)%2:=by
 have b:=u32_and_nat a 1 h (by omega);rw[Nat.and_one_is_mod] at b;exact b.trans (by omega)
theorem Nx(a:Nat)(h:a<4294967296)(p:a%2=0):(bits .and .u32 (a:Int) 1 == 1)=false:=by
 rw[OA a h];simp;omega
theorem MI(a:Nat)(h:a<4294967296)(p:a%2=1):(bits .and .u32 (a:Int) 1 == 1)=true:=by
 rw[OA a h];simp;omega
theorem uG(s:WU)(w:WR)(P:s.size<140737488355328):WT prog 47 #[H s] w λe F=>e=WZ (Z .u32 (Sp.gX s))/\F=w:=by
 go_enter func47,ntmps47;go_wp2
 go_loopw [3,8] (λy z wr=>∃i:Nat,i<=s.size/\z=Z Y i/\y=Z .u32 (Sp.tE s i)/\wr=w) (λ_ z _=>s.size-(intOf z).toNat)
 case atStart=>exact⟨0,by omega,rfl,rfl,rfl⟩
 case round =>
  obtain⟨i,hi,rfl,rfl,rfl⟩:=hrel;have m:=Sp.JA s i;by_cases c:i<s.size
  .generalize j:Sp.tE s i=b at m;replace j:=cT j;have I:(i:Int)<(s.size:Int):=by omega
   go_wp2;have C:=Sp.jQ s i c;have r:=Sp.ju s i
   go_loopw [3,17] (λy A L=>∃k:Nat,k<=8/\A=Z Y k/\y=Z .u32 (Sp.ox (b ^^^ Sp.bt s i) k)/\L=wr) (λ_ A _=>8-(intOf A).toNat)
   case atStart =>
    refine⟨0,by omega,O,?_,O⟩;have e:((s[i].toNat:Nat):Int)%4294967296=((Sp.bt s i:Nat):Int):=by rw[C];omega
    rw[e,zt _ _ m (by omega)];rfl
   case round =>
    obtain⟨k,Q,rfl,rfl,rfl⟩:=hrel;have l:=Sp.xC (Sp.tP m r) k;generalize u:Sp.ox (b ^^^ Sp.bt s i) k=G at l;replace u:=cT u;clear C r;by_cases R:k<8
    .have B:(k:Int)<8:=by omega
     rcases Nat.mod_two_eq_zero_or_one G with p|p
     .have M:=Nx G l p;go_wp2;go_roundw
      case rel =>
       refine⟨k+1,by omega,by go_num,?_,by first|rfl|trivial⟩
       show _=Z .u32 ((Sp.ri (Sp.ox (b ^^^ Sp.bt s i) k):Nat):Int)
       rw[cS u,Sp.De p];go_num
      case measure=>simp[intOf];omega
     .have M:=MI G l p;go_wp2;go_roundw
      case rel =>
       refine⟨k+1,by omega,by go_num,?_,by first|rfl|trivial⟩
       show _=Z .u32 ((Sp.ri (Sp.ox (b ^^^ Sp.bt s i) k):Nat):Int)
       rw[cS u,Sp.Gb p,<-zt (G/2) 3988292384 (by omega) (by omega)]
       rfl
      case measure=>simp[intOf];omega
    .have B:¬(k:Int)<8:=by omega
     go_wp2;go_roundw
     case rel =>
      refine⟨i+1,by omega,by go_num,?_,by first|rfl|trivial⟩;have N:k=8:=by omega
      subst N
      show _=Z .u32 ((Sp.ox (Sp.tE s i ^^^ Sp.bt s i) 8:Nat):Int)
      rw[cS j,cS u]
     case measure=>simp[intOf];omega
  .have I:¬(i:Int)<(s.size:Int):=by omega
   have e:i=s.size:=by omega
   subst e;generalize j:Sp.tE s s.size=b at m;replace j:=cT j;go_wp2;go_ret;refine⟨?_,O⟩;unfold Sp.gX;rw[cS j];rw[Rr b m];rfl
end
section
theorem info_u8:(prog.info? 5).map (λi=>(i.zero,i.size,i.bytes))=S (S (Z .u8 0),1,1):=by rfl
def CK(l:List UInt8):List WS:=l.map λb=>Z .u8 (b.toNat:Int)
theorem FR(a b:List UInt8):CK (a++b)=CK a++CK b:=Vn
structure CJ (w:WR) (M n:Nat) (l:List UInt8) (v:WS):Prop where
 c:w.cell? ⟨M,0,U⟩=S v
 z:w.frozen? ⟨M,0,U⟩=false
 o:w.ownsRow (M+1) 5 1 v n (CK l)
variable {l:List UInt8}{v:WS}{n M:Nat}{w:WR}
theorem CJ.lt(h:CJ w M n l v): M<w.heap.size:=Ui w _ h.c
theorem CJ.ne(h:CJ w M n l v): S M≠v.ownBlock:=λe=>by have:=(h.o.lt M e.symm).1;omega
theorem CJ.alloc(h:CJ w M n l v)(b:Obj): CJ (w.alloc b) M n l v:=⟨((T4 w.heap.size w).alloc WN b).cell (p:=⟨M,0,U⟩) h.lt |>.trans h.c,((T4 w.heap.size w).alloc WN b).frozen (p:=⟨M,0,U⟩) h.lt |>.trans h.z,h.o.alloc b⟩
theorem Iu{e size:Nat}{y:List WS}(z:w.ownsRow (M+1) e size v n y)(G:0<n)(u:WS): (w.setCell ⟨M,0,U⟩ u).ownsRow (M+1) e size v n y:=by
 obtain⟨A,b⟩:=z;refine⟨A,?_⟩;rcases b with b|⟨g,j,m,B,C,F,r⟩
 .exact .inl b
 .exact .inr ⟨g,j,m,B,C,(Uj _ _ _ g (λe=>by have I:g=M:=e;omega)).trans F,r⟩
theorem xY(n k:Nat):Z .u8 ((n/256 ^ k%256:Nat):Int)=Z .u8 ((UInt8.ofNat (n/256 ^ k%256)).toNat:Int):=by
 have h:n/256 ^ k%256<256:=Nat.mod_lt _ (by omega);rw[UInt8.toNat_ofNat']
 congr 2
 omega
def So(M n:Nat)(l:List UInt8)(w w':WR):Prop := ∃b,CJ w' M n l b/\Below M w w'
theorem FV(M n k r:Nat)(l:List UInt8)(v:WS)(w:WR)(h:CJ w M r l v)(hs:r+k<=100000000)(hk:k<=8)(hn:n<18446744073709551616):WT prog 137 #[.pointer (S ⟨M,0,U⟩),Z .u64 n,Z Y k] w λe w'=>e=WZ (.tuple #[])/\So M (r+k) (l++Sp.lW n k) w w':=by
 obtain⟨i0,hi,R,T,V⟩:=UB info_u8;go_enter func137,ntmps137;go_wp2
 go_loopw [1,7] (λnn W wr=>∃(j:Nat) (u:WS),j<=k/\W=Z Y j/\nn=Z .u64 ((n/256 ^ j:Nat):Int)/\Hid (CJ wr M (r+j) (l++Sp.lW n j) u)/\Hid (Below M w wr)) (λ_ W _=>k-(intOf W).toNat)
 case atStart=>exact⟨0,v,by omega,rfl,by simp,cT (by rw[Sp.lW,Vr];exact h),T4 _ _⟩
 case round =>
  obtain⟨j,u,y,rfl,rfl,X,q⟩:=hrel;have A:=cS X;have c0:=A.c;have z0:=A.z;have t:=A.lt;have hm:n/256 ^ j<18446744073709551616:=Nat.lt_of_le_of_lt (Nat.div_le_self _ _) hn;have s:=cT (xY n j);generalize Q:n/256 ^ j=G at hm;replace Q:=cT Q;by_cases c:j<k
  .have c1:(j:Int)<(k:Int):=by omega
   have B:=A.ne;go_wp2_with (first
    | (at_builtin;go_must (refine VZ _ O (.tmp 13) (.tmp 16) 125 O (M+1) 5 i0 _ 1 1 underlying125 hi R T V O (by decide) _ _ _ O ((A.alloc _).o) ⟨wr.heap.size,0,U⟩ 1 1 [Z .u8 ((G:Int)%256)] O O ?c1 ?c2 ?c3 ?c4 ?c5 ?_))
    |go_in)
   case c1 =>
    intro j u y
    match j,y with
    |0,y=>simp at y;subst y;simp[Addr.add]
    |j+1,y=>simp at y
   case c2=>intro u hu;simp at hu;subst hu;rfl
   case c3=>unfold maxLen;omega
   case c4=>omega
   case c5=>simp;omega
   intro I w3 C b _;have m:=A.alloc (.cells #[Z .u8 ((G:Int)%256)] 5);have L:=(cS q).alloc (UT t) (.cells #[Z .u8 ((G:Int)%256)] 5);have q0:w3.cell? ⟨M,0,U⟩=S u:=(b.cell_far ⟨M,0,U⟩ (by simp;omega) B).trans m.c;have q1:w3.frozen? ⟨M,0,U⟩=false:=(b.frozen_far ⟨M,0,U⟩ (by simp;omega) B).trans m.z;have N:=(L.grown b (by simp;omega) (λk hk=>by have:=(m.o.lt k hk).1;omega)).setCell (p:=⟨M,0,U⟩) WN I;have P:CJ (w3.setCell ⟨M,0,U⟩ I) M (r+(j+1)) (l++Sp.lW n (j+1)) I:=by
    refine⟨UN _ _ _ q0,by rw[UK];exact q1,?_⟩;have h4:=Iu C (M:=M) (by omega) I;rw[show r+(j+1)=r+j+1 by omega];have e4:CK (l++Sp.lW n (j+1))=CK (l++Sp.lW n j)++[Z .u8 ((G:Int)%256)]:=by
     rw[Sp.lW,<-UO,FR (l++Sp.lW n j)]
     congr 1
     show [Z .u8 ((UInt8.ofNat (n/256 ^ j%256)).toNat:Int)]=_
     rw[<-cS s,cS Q]
     rfl
    rw[e4];exact h4
   obtain⟨g3,ad,rfl⟩:∃g F,I=J (S ⟨g,0,U⟩) (r+j+1) F:=by
    rcases C.2 with ⟨_,ae⟩|⟨g,F,af,hv,_⟩
    .omega
    .exact⟨g,F,hv⟩
   have aa:=cT P;have ab:=cT N;clear P N m L C b A X q B;go_wp2;go_roundw
   case rel =>
    refine⟨j+1,_,by omega,by go_num,?_,aa,ab⟩;rw[Nat.pow_succ,<-Nat.div_div_eq_div_mul,cS Q];go_num
   case measure=>simp[intOf];omega
  .have e:j=k:=by omega
   subst e;have c1:¬(j:Int)<(j:Int):=by omega
   go_wp2;exact Ub (Ua O _ _ _) O ⟨O,u,cS X,cS q⟩
theorem ER(l:List UInt8):strOfNums (l.map λb=>(b.toNat:Int))=⟨l.toArray⟩:=by
 apply Vh;apply VV.1;simp only[strOfNums,List.map_map];have:((λn:Int=>UInt8.ofNat n.toNat) ∘ λb:UInt8=>(b.toNat:Int))=id:=by funext b;simp
 rw[this];simp
theorem Kw(h:CJ w M n l v)(e:0<n): (convert 125 9 v).run prog w=.ok (H ⟨l.toArray⟩) w:=by
 have u:(CK l).length=n*1:=h.o.1;simp only[CK,UX,Nat.mul_one] at u;rcases h.o.2 with ⟨_,A⟩|⟨g,j,y,rfl,_⟩
 .omega
 .rw[<-ER];refine run_convert_bytes_arg _ 125 5 underlying125 underlying5 g 0 _ j (l.map λb=>(b.toNat:Int)) (by simp only[UX];omega) (λi hi=>?_) 9 underlying9;have m:i<l.length:=by omega
  have r:=h.o.cells (g:=g) O i (Z .u8 ((l.map λb=>(b.toNat:Int)).getD i 0)) (by
   simp only[CK];rw[VX,Uo,VX,Uk m];rfl)
  rw[UA];have z:(⟨g,0,U⟩:Addr).add i=⟨g,i,U⟩:=by
   by_cases e:i=0
   .subst e;simp[Addr.add]
   .simp[Addr.add,e]
  rw[z] at r;exact r
theorem CJ.new: CJ (w.alloc (.cells #[J U 0 0] 251)) w.heap.size 0 [] (J U 0 0):=⟨by simp,by simp,Uw _ _ _ _⟩
theorem I8(M n:Nat)(l:List UInt8)(v:WS)(w:WR)(h:CJ w M n l v)(b:0<n):WT prog 139 #[.pointer (S ⟨M,0,U⟩)] w λe j=>e=WZ (H ⟨l.toArray⟩)/\j=w:=by
 have r:=h.c;have m:=Kw h b;go_enter func139,ntmps139;go_wp2;go_ret;exact⟨O,O⟩
theorem LX(p:WU):(⟨([]++Sp.lW (p.size) 4++Sp.lW (Sp.gX p) 4).toArray⟩:WU)=Sp.pX p:=by
 apply Vh;unfold Sp.pX;rw[VN];apply VV.1;rw[Wd]
 show (([]++Sp.lW (p.size) 4++Sp.lW (Sp.gX p) 4).toArray).toList=Sp.lW p.size 4++Sp.lW (Sp.gX p) 4
 simp
theorem xr(p:WU)(w:WR)(y:p.size<140737488355328):WT prog 201 #[H p] w λe u=>e=WZ (H (Sp.pX p))/\WQ w u:=by
 have z:=Sp.zw p;rw[<-LX];go_enter func201,ntmps201;go_wp2_with fail;refine(FV w.heap.size p.size 4 0 [] _ _ CJ.new (by omega) (by omega) (by omega)).mono ?_;rintro e A ⟨rfl,B,m,b⟩;replace b:=((T4 w.heap.size w).alloc WN _).trans b;go_wp2_with fail;refine(uG p _ (by omega)).mono ?_;rintro e C ⟨rfl,rfl⟩;go_wp2_with fail;refine(FV w.heap.size (Sp.gX p) 4 _ _ _ _ m (by omega) (by omega) (by omega)).mono ?_;rintro e w3 ⟨rfl,F,r,j⟩;replace j:=b.trans j;clear m b;go_wp2_with fail;refine(I8 w.heap.size _ _ _ _ r (by omega)).mono ?_;rintro e G ⟨rfl,rfl⟩;clear r;go_wp2;go_ret;exact⟨O,j⟩
theorem po(p:WU)(w:WR)(j:p.size<140737488355328):WT prog 121 #[H p] w λe m=>e=WZ (H (Sp.dq p))/\WQ w m:=by
 have r:=V5 (Sp.mw p);go_enter func121,ntmps121;go_wp2_with fail;refine(xr p _ j).mono ?_;rintro e u ⟨rfl,b⟩;go_wp2;go_ret;exact⟨O,b⟩
theorem mb(p:WU)(w:WR)(m:p.size<=140737488355328):WT prog 209 #[H p] w λe j=>e=WZ (H p)/\WQ w j:=by
 go_enter func209,ntmps209;go_wp2_with fail;refine(Tryz.stringslite_Clone p _ (by omega)).mono ?_;rintro e r ⟨rfl,b⟩;go_wp2;go_ret;exact⟨O,b⟩
theorem Sh{a b:WU}(h:¬a=b):(a.toList == b.toList)=false:=by
 apply WC.2;intro j;have e:=eq_of_beq j;rw[Vt,Vt] at e;exact h (Vh (VV.1 e))
theorem RO{a b:WU}(h:a=b):(a.toList == b.toList)=true:=by subst h;simp
theorem Hz(s:WU)(w:WR)(G:s.size<=140737488355328):WT prog 200 #[H s] w λe B=>e=WZ (.tuple #[H (Sp.dx s),.bool (Sp.okB s)])/\WQ w B:=by
 by_cases c:s.size<8
 .have C:(s.size:Int)<8:=by omega
  have j:=Sp.Iw c;rw[Sp.FG j,j];clear j c;go_enter func200,ntmps200;go_wp2;go_ret2;exact⟨O,T4 _ _⟩
 .have C:¬(s.size:Int)<8:=by omega
  have r:=Sp.zE (s:=s) (by omega);have m:(s.extract 8 s.size).size<140737488355328:=by rw[Un];omega
  have z:=λw=>xr (s.extract 8 s.size) w m
  have A:=λw=>mb (s.extract 8 s.size) w (by omega)
  by_cases q:s.extract 0 8=Sp.pX (s.extract 8 s.size)
  .have j:Sp.okB s=true:=r.2 q;rw[j,Sp.yy j];have F:=RO q;clear r j q m;go_enter func200,ntmps200;go_wp2_with fail
   go_region_with (go_at_call 201;refine(z _).mono ?_;rintro e u ⟨rfl,b⟩)
   have b:WQ w u:=(T4 w.heap.size w).drew.trans b;go_wp2_with fail;refine(A _).mono ?_;rintro e I ⟨rfl,y⟩;go_wp2;go_ret2;exact⟨O,b.trans (y.mono b.size)⟩
  .have j:Sp.okB s=false:=WC.2 (λh=>q (r.1 h));rw[j,Sp.FG j];have F:=Sh q;clear r j q m A;go_enter func200,ntmps200;go_wp2_with fail
   go_region_with (go_at_call 201;refine(z _).mono ?_;rintro e u ⟨rfl,b⟩)
   have b:WQ w u:=(T4 w.heap.size w).drew.trans b;go_wp2;go_ret2;exact⟨O,b⟩
end
end Go.Proofs.YtgkkdpegcieakaaGreatDoor
