import Derived.Test.YtgkkdpegcieakaaGreatDoorCz01
set_option linter.unusedVariables false
set_option linter.unusedSimpArgs false
set_option maxRecDepth 100000
set_option maxHeartbeats 16000000
namespace Go.Proofs.YtgkkdpegcieakaaGreatDoor
open Go.Proofs.Tryz
open Value renaming int→Z
open IntKind renaming i64→Y
open Go renaming World→TJ,Value→TK,Calls→TL
namespace Sp
open Go
def ri(h:Nat):Nat:=if h%2=1 then (h/2) ^^^ 3988292384 else h/2
def oB(h:Nat):Nat->Nat
 |0=>h
 |k+1=>ri (oB h k)
def tj(s:TM):Nat->Nat
 |0=>4294967295
 |k+1=>oB (tj s k ^^^ bt s k) 8
def ie(s:TM):Nat:=4294967295-tj s s.size
variable {h:Nat}
theorem CX(e:h%2=0): ri h=h/2:=by
 unfold ri;rw[cd (by omega)]
theorem ED(e:h%2=1): ri h=(h/2) ^^^ 3988292384:=by
 unfold ri;rw[cg e]
theorem Gu(l:h<4294967296): ri h<4294967296:=by
 unfold ri;split
 .exact Nat.xor_lt_two_pow (n:=32) (by omega) (by omega)
 .omega
theorem xV(l:h<4294967296)(k:Nat): oB h k<4294967296:=by
 induction k with
 |zero=>exact l
 |succ k b=>exact Gu b
theorem tF{b:Nat}(l:h<4294967296)(m:b<256): h ^^^ b<4294967296:=Nat.xor_lt_two_pow (n:=32) (by omega) (by omega)
theorem I4(s:TM)(k:Nat):tj s k<4294967296:=by
 induction k with
 |zero=>unfold tj;omega
 |succ k b=>exact xV (tF b (jh s k)) 8
def lO(n:Nat):Nat->List UInt8
 |0=>[]
 |k+1=>lO n k++[UInt8.ofNat (n/256 ^ k%256)]
theorem ki(n k:Nat):(lO n k).length=k:=by
 induction k with
 |zero=>rfl
 |succ k b=>simp[lO,b]
def nJ(n k:Nat):TM:=⟨(lO n k).toArray⟩
theorem dJ(n k:Nat):(nJ n k).size=k:=by
 show (lO n k).toArray.size=k
 simp[ki]
def I7(p:TM):TM:=nJ p.size 4++nJ (ie p) 4
def dj(p:TM):TM:=I7 p++p
theorem mG(p:TM):(I7 p).size=8:=by simp[I7,dJ]
theorem ep(p:TM):(dj p).size=p.size+8:=by simp[dj,mG];omega
def okB(s:TM):Bool:=decide (8<=s.size/\s.extract 0 8=I7 (s.extract 8 s.size))
def dt(s:TM):TM:=if okB s=true then s.extract 8 s.size else ⟨#[]⟩
theorem yq(s:TM):ie s<4294967296:=by unfold ie;omega
end Sp
namespace Sp
open Go
theorem jK{a b:TM}(l:a.size=b.size)(h:∀i,i<a.size->bt a i=bt b i):a=b:=by
 apply Bk;apply Array.ext l;intro i e m;have j:=h i e;rw[<-jP a i e,<-jP b i m] at j;exact UInt8.toNat_inj.1 j
theorem fV(s:TM)(a b p:Nat)(hb:b<=s.size)(e:a+p<b):bt (s.extract a b) p=bt s (a+p):=by
 rw[<-jP (s.extract a b) p (by rw[cK];omega),<-jP s (a+p) (by omega),ByteArray.getElem_extract]
theorem kN(a b:TM)(i:Nat)(h:i<a.size):bt (a++b) i=bt a i:=by
 rw[<-jP (a++b) i (by rw[cM];omega),<-jP a i h,ByteArray.getElem_append_left h]
theorem D7(a b:TM)(i:Nat)(h:i<b.size):bt (a++b) (a.size+i)=bt b i:=by
 rw[<-jP (a++b) (a.size+i) (by rw[cM];omega),<-jP b i h,ByteArray.getElem_append_right (by omega)];simp
theorem nG(a b:TM)(i n:Nat)(e:a.size=n)(h:i<b.size):bt (a++b) (n+i)=bt b i:=by
 subst e;exact D7 a b i h
theorem Ld(n k i:Nat)(h:i<k):(lO n k)[i]'(by rw[ki];exact h)=UInt8.ofNat (n/256 ^ i%256):=by
 induction k with
 |zero=>omega
 |succ k j =>
  by_cases b:i<k
  .have:=j b;simp only[lO];rw[List.getElem_append_left (by rw[ki];exact b)];exact this
  .have e:i=k:=by omega
   subst e;simp only[lO];rw[List.getElem_append_right (by rw[ki];omega)];simp[ki]
theorem MG(n k i:Nat)(h:i<k):bt (nJ n k) i=n/256 ^ i%256:=by
 rw[<-jP (nJ n k) i (by rw[dJ];exact h)];have b:(nJ n k)[i]'(by rw[dJ];exact h)=(lO n k)[i]'(by rw[ki];exact h):=by
  rfl
 rw[b,Ld n k i h];simp
variable {s:TM}
theorem EY(h:s.size<8): okB s=false:=by
 unfold okB;exact df (λb=>by omega)
theorem y9(b:8<=s.size): okB s=true↔s.extract 0 8=I7 (s.extract 8 s.size):=by
 unfold okB;rw[decide_eq_true_iff];exact⟨λh=>h.2,λh=>⟨b,h⟩⟩
theorem yz(h:okB s=true): dt s=s.extract 8 s.size:=cg h
theorem C9(h:okB s=false): dt s=⟨#[]⟩:=by unfold dt;rw[h];rfl
theorem E0(p:TM):(dj p).extract 0 8=I7 p:=by
 apply jK
 .rw[cK,ep,mG];omega
 .intro i hi;rw[cK,ep] at hi;rw[fV _ 0 8 i (by rw[ep];omega) (by omega),eW];exact kN _ _ _ (by rw[mG];omega)
theorem yd(p:TM):(dj p).extract 8 (dj p).size=p:=by
 apply jK
 .rw[cK,ep];omega
 .intro i hi;rw[cK,ep] at hi;rw[fV _ 8 _ i (by rw[ep];omega) (by rw[ep];omega)];exact nG _ _ i 8 (mG p) (by omega)
theorem uk(p:TM):okB (dj p)=true:=by
 rw[y9 (by rw[ep];omega),yd,E0]
theorem gR(p:TM):dt (dj p)=p:=by rw[yz (uk p),yd]
end Sp
section
open Go.RowKit
theorem ye(a b:Nat)(ha:a<4294967296)(hb:b<4294967296):bits .xor .u32 (a:Int) (b:Int)=((a ^^^ b:Nat):Int):=u32_xor_nat a b ha hb
theorem PU(a:Nat)(h:a<4294967296):bits .xor .u32 IntKind.u32.max (a:Int)=((4294967295-a:Nat):Int):=by
 have e:IntKind.u32.max=((4294967295:Nat):Int):=by decide
 have j:=BitVec.allOnes_xor (x:=BitVec.ofNat 32 a);have b:=congrArg BitVec.toNat j;rw[BitVec.toNat_xor,BitVec.toNat_not,BitVec.toNat_allOnes,BitVec.toNat_ofNat,Nat.mod_eq_of_lt (by omega:a<2 ^ 32)] at b;have l:4294967295 ^^^ a=4294967295-a:=b;rw[e,ye _ _ (by omega) h,l]
theorem Mr(a:Nat)(h:a<4294967296):bits .and .u32 (a:Int) 1=(a:Int)%2:=by
 have b:=u32_and_nat a 1 h (by omega);rw[Nat.and_one_is_mod] at b;exact b.trans (by omega)
theorem Le(a:Nat)(h:a<4294967296)(p:a%2=0):(bits .and .u32 (a:Int) 1 == 1)=false:=by
 rw[Mr a h];simp;omega
theorem KQ(a:Nat)(h:a<4294967296)(p:a%2=1):(bits .and .u32 (a:Int) 1 == 1)=true:=by
 rw[Mr a h];simp;omega
theorem uh(s:TM)(w:TJ)(J:s.size<140737488355328):TL prog 47 #[.string s] w λe C=>e=.returned (Z .u32 (Sp.ie s))/\C=w:=by
 go_enter func47,ntmps47;go_wp2
 go_loopw [3,8] (λu y wr=>∃i:Nat,i<=s.size/\y=Z Y i/\u=Z .u32 (Sp.tj s i)/\wr=w) (λ_ y _=>s.size-(intOf y).toNat)
 case atStart=>exact⟨0,by omega,rfl,rfl,rfl⟩
 case round =>
  obtain⟨i,hi,rfl,rfl,rfl⟩:=hrel;have l:=Sp.I4 s i;by_cases c:i<s.size
  .generalize b:Sp.tj s i=H at l;replace b:=cP b;have D:(i:Int)<(s.size:Int):=by omega
   go_wp2;have B:=Sp.jP s i c;have m:=Sp.jh s i
   go_loopw [3,17] (λu z E=>∃k:Nat,k<=8/\z=Z Y k/\u=Z .u32 (Sp.oB (H ^^^ Sp.bt s i) k)/\E=wr) (λ_ z _=>8-(intOf z).toNat)
   case atStart =>
    refine⟨0,by omega,rfl,?_,rfl⟩;have e:((s[i].toNat:Nat):Int)%4294967296=((Sp.bt s i:Nat):Int):=by rw[B];omega
    rw[e,ye _ _ l (by omega)];rfl
   case round =>
    obtain⟨k,K,rfl,rfl,rfl⟩:=hrel;have j:=Sp.xV (Sp.tF l m) k;generalize r:Sp.oB (H ^^^ Sp.bt s i) k=G at j;replace r:=cP r;clear B m;by_cases L:k<8
    .have A:(k:Int)<8:=by omega
     rcases Nat.mod_two_eq_zero_or_one G with p|p
     .have F:=Le G j p;go_wp2;go_roundw
      case rel =>
       refine⟨k+1,by omega,by go_num,?_,by first|rfl|trivial⟩
       show _=Z .u32 ((Sp.ri (Sp.oB (H ^^^ Sp.bt s i) k):Nat):Int)
       rw[cO r,Sp.CX p];go_num
      case measure=>simp[intOf];omega
     .have F:=KQ G j p;go_wp2;go_roundw
      case rel =>
       refine⟨k+1,by omega,by go_num,?_,by first|rfl|trivial⟩
       show _=Z .u32 ((Sp.ri (Sp.oB (H ^^^ Sp.bt s i) k):Nat):Int)
       rw[cO r,Sp.ED p,<-ye (G/2) 3988292384 (by omega) (by omega)]
       rfl
      case measure=>simp[intOf];omega
    .have A:¬(k:Int)<8:=by omega
     go_wp2;go_roundw
     case rel =>
      refine⟨i+1,by omega,by go_num,?_,by first|rfl|trivial⟩;have I:k=8:=by omega
      subst I
      show _=Z .u32 ((Sp.oB (Sp.tj s i ^^^ Sp.bt s i) 8:Nat):Int)
      rw[cO b,cO r]
     case measure=>simp[intOf];omega
  .have D:¬(i:Int)<(s.size:Int):=by omega
   have e:i=s.size:=by omega
   subst e;generalize b:Sp.tj s s.size=H at l;replace b:=cP b;go_wp2;go_ret;refine⟨?_,rfl⟩;unfold Sp.ie;rw[cO b];rw[PU H l];rfl
end
section
open Go.RowKit
theorem info_u8:(prog.info? 5).map (λi=>(i.zero,i.size,i.bytes))=some (some (Z .u8 0),1,1):=by rfl
def BI(l:List UInt8):List TK:=l.map λb=>Z .u8 (b.toNat:Int)
theorem Dx(a b:List UInt8):BI (a++b)=BI a++BI b:=Bg
structure BK (w:TJ) (M n:Nat) (l:List UInt8) (v:TK):Prop where
 c:w.cell? ⟨M,0,none⟩=some v
 z:w.frozen? ⟨M,0,none⟩=false
 o:w.ownsRow (M+1) 5 1 v n (BI l)
variable {n M:Nat}{l:List UInt8}{w:TJ}{v:TK}
theorem BK.lt(h:BK w M n l v): M<w.heap.size:=cE w _ h.c
theorem BK.ne(h:BK w M n l v): some M≠v.ownBlock:=λe=>by have:=(h.o.lt M e.symm).1;omega
theorem BK.alloc(h:BK w M n l v)(b:Obj): BK (w.alloc b) M n l v:=⟨((cj w.heap.size w).alloc TG b).cell (p:=⟨M,0,none⟩) h.lt |>.trans h.c,((cj w.heap.size w).alloc TG b).frozen (p:=⟨M,0,none⟩) h.lt |>.trans h.z,h.o.alloc b⟩
theorem EI{e size:Nat}{y:List TK}(z:w.ownsRow (M+1) e size v n y)(E:0<n)(u:TK): (w.setCell ⟨M,0,none⟩ u).ownsRow (M+1) e size v n y:=by
 obtain⟨A,b⟩:=z;refine⟨A,?_⟩;rcases b with b|⟨g,j,m,B,C,D,r⟩
 .exact .inl b
 .exact .inr ⟨g,j,m,B,C,(cG _ _ _ g (λe=>by have F:g=M:=e;omega)).trans D,r⟩
theorem xG(n k:Nat):Z .u8 ((n/256 ^ k%256:Nat):Int)=Z .u8 ((UInt8.ofNat (n/256 ^ k%256)).toNat:Int):=by
 have h:n/256 ^ k%256<256:=Nat.mod_lt _ (by omega);rw[UInt8.toNat_ofNat']
 congr 2
 omega
def PZ(M n:Nat)(l:List UInt8)(w w':TJ):Prop := ∃b,BK w' M n l b/\Below M w w'
theorem D1(M n k r:Nat)(l:List UInt8)(v:TK)(w:TJ)(h:BK w M r l v)(hs:r+k<=100000000)(V:k<=8)(X:n<18446744073709551616):TL prog 137 #[.pointer (some ⟨M,0,none⟩),Z .u64 n,Z Y k] w λe q=>e=.returned (.tuple #[])/\PZ M (r+k) (l++Sp.lO n k) w q:=by
 obtain⟨t,hi,K,L,N⟩:=fa info_u8;go_enter func137,ntmps137;go_wp2
 go_loopw [1,7] (λs O wr=>∃(j:Nat) (u:TK),j<=k/\O=Z Y j/\s=Z .u64 ((n/256 ^ j:Nat):Int)/\Hid (BK wr M (r+j) (l++Sp.lO n j) u)/\Hid (Below M w wr)) (λ_ O _=>k-(intOf O).toNat)
 case atStart=>exact⟨0,v,by omega,rfl,by simp,cP (by rw[Sp.lO,B2];exact h),cj _ _⟩
 case round =>
  obtain⟨j,u,y,rfl,rfl,P,Q⟩:=hrel;have A:=cO P;have c0:=A.c;have z0:=A.z;have R:=A.lt;have hm:n/256 ^ j<18446744073709551616:=Nat.lt_of_le_of_lt (Nat.div_le_self _ _) X;have S:=cP (xG n j);generalize J:n/256 ^ j=G at hm;replace J:=cP J;by_cases c:j<k
  .have c1:(j:Int)<(k:Int):=by omega
   have B:=A.ne;go_wp2_with (first
    |(at_builtin;go_must (refine LP _ rfl (.tmp 13) (.tmp 16) 125 rfl (M+1) 5 t _ 1 1 underlying125 hi K L N rfl (by decide) _ _ _ rfl ((A.alloc _).o) ⟨wr.heap.size,0,none⟩ 1 1 [Z .u8 ((G:Int)%256)] rfl rfl ?c1 ?c2 ?c3 ?c4 ?c5 ?_))
    |go_in)
   case c1 =>
    intro j u y
    match j,y with
    |0,y=>simp at y;subst y;simp[Addr.add]
    |j+1,y=>simp at y
   case c2=>intro u hu;simp at hu;subst hu;rfl
   case c3=>unfold maxLen;omega
   case c4=>omega
   case c5=>simp;omega
   intro E w3 C b _;have m:=A.alloc (.cells #[Z .u8 ((G:Int)%256)] 5);have F:=(cO Q).alloc (o9 R) (.cells #[Z .u8 ((G:Int)%256)] 5);have q0:w3.cell? ⟨M,0,none⟩=some u:=(b.cell_far ⟨M,0,none⟩ (by simp;omega) B).trans m.c;have q1:w3.frozen? ⟨M,0,none⟩=false:=(b.frozen_far ⟨M,0,none⟩ (by simp;omega) B).trans m.z;have H:=(F.grown b (by simp;omega) (λk V=>by have:=(m.o.lt k V).1;omega)).setCell (p:=⟨M,0,none⟩) TG E;have I:BK (w3.setCell ⟨M,0,none⟩ E) M (r+(j+1)) (l++Sp.lO n (j+1)) E:=by
    refine⟨mm _ _ _ q0,by rw[kX];exact q1,?_⟩;have h4:=EI C (M:=M) (by omega) E;rw[show r+(j+1)=r+j+1 by omega];have e4:BI (l++Sp.lO n (j+1))=BI (l++Sp.lO n j)++[Z .u8 ((G:Int)%256)]:=by
     rw[Sp.lO,<-mR,Dx (l++Sp.lO n j)]
     congr 1
     show [Z .u8 ((UInt8.ofNat (n/256 ^ j%256)).toNat:Int)]=_
     rw[<-cO S,cO J]
     rfl
    rw[e4];exact h4
   obtain⟨g3,W,rfl⟩:∃g D,E=.slice (some ⟨g,0,none⟩) (r+j+1) D:=by
    rcases C.2 with ⟨_,aa⟩|⟨g,D,ab,hv,_⟩
    .omega
    .exact⟨g,D,hv⟩
   have T:=cP I;have U:=cP H;clear I H m F C b A P Q B;go_wp2;go_roundw
   case rel =>
    refine⟨j+1,_,by omega,by go_num,?_,T,U⟩;rw[Nat.pow_succ,<-Nat.div_div_eq_div_mul,cO J];go_num
   case measure=>simp[intOf];omega
  .have e:j=k:=by omega
   subst e;have c1:¬(j:Int)<(j:Int):=by omega
   go_wp2;exact cw (cu rfl _ _ _) rfl ⟨rfl,u,cO P,cO Q⟩
theorem El(l:List UInt8):strOfNums (l.map λb=>(b.toNat:Int))=⟨l.toArray⟩:=by
 apply Bk;apply OV.1;simp only[strOfNums,List.map_map];have:((λn:Int=>UInt8.ofNat n.toNat) ∘ λb:UInt8=>(b.toNat:Int))=id:=by funext b;simp
 rw[this];simp
theorem Hc(h:BK w M n l v)(e:0<n): (convert 125 9 v).run prog w=.ok (.string ⟨l.toArray⟩) w:=by
 have u:(BI l).length=n*1:=h.o.1;simp only[BI,rY,Nat.mul_one] at u;rcases h.o.2 with ⟨_,A⟩|⟨g,j,y,rfl,_⟩
 .omega
 .rw[<-El];refine run_convert_bytes_arg _ 125 5 underlying125 underlying5 g 0 _ j (l.map λb=>(b.toNat:Int)) (by simp only[rY];omega) (λi hi=>?_) 9 underlying9;have m:i<l.length:=by omega
  have r:=h.o.cells (g:=g) rfl i (Z .u8 ((l.map λb=>(b.toNat:Int)).getD i 0)) (by
   simp only[BI];rw[K1,cL,K1,cH m];rfl)
  rw[eW];have z:(⟨g,0,none⟩:Addr).add i=⟨g,i,none⟩:=by
   by_cases e:i=0
   .subst e;simp[Addr.add]
   .simp[Addr.add,e]
  rw[z] at r;exact r
theorem BK.new: BK (w.alloc (.cells #[.slice none 0 0] 251)) w.heap.size 0 [] (.slice none 0 0):=⟨by simp,by simp,fc _ _ _ _⟩
theorem JE(M n:Nat)(l:List UInt8)(v:TK)(w:TJ)(h:BK w M n l v)(b:0<n):TL prog 139 #[.pointer (some ⟨M,0,none⟩)] w λe j=>e=.returned (.string ⟨l.toArray⟩)/\j=w:=by
 have r:=h.c;have m:=Hc h b;go_enter func139,ntmps139;go_wp2;go_ret;exact⟨rfl,rfl⟩
theorem J3(p:TM):(⟨([]++Sp.lO (p.size) 4++Sp.lO (Sp.ie p) 4).toArray⟩:TM)=Sp.I7 p:=by
 apply Bk;unfold Sp.I7;rw[G3];apply OV.1;rw[QU]
 show (([]++Sp.lO (p.size) 4++Sp.lO (Sp.ie p) 4).toArray).toList=Sp.lO p.size 4++Sp.lO (Sp.ie p) 4
 simp
theorem xi(p:TM)(w:TJ)(y:p.size<140737488355328):TL prog 201 #[.string p] w λe u=>e=.returned (.string (Sp.I7 p))/\TI w u:=by
 have z:=Sp.yq p;rw[<-J3];go_enter func201,ntmps201;go_wp2_with fail;refine(D1 w.heap.size p.size 4 0 [] _ _ BK.new (by omega) (by omega) (by omega)).mono ?_;rintro e A ⟨rfl,B,m,b⟩;replace b:=((cj w.heap.size w).alloc TG _).trans b;go_wp2_with fail;refine(uh p _ (by omega)).mono ?_;rintro e C ⟨rfl,rfl⟩;go_wp2_with fail;refine(D1 w.heap.size (Sp.ie p) 4 _ _ _ _ m (by omega) (by omega) (by omega)).mono ?_;rintro e w3 ⟨rfl,D,r,j⟩;replace j:=b.trans j;clear m b;go_wp2_with fail;refine(JE w.heap.size _ _ _ _ r (by omega)).mono ?_;rintro e E ⟨rfl,rfl⟩;clear r;go_wp2;go_ret;exact⟨rfl,j⟩
theorem po(p:TM)(w:TJ)(j:p.size<140737488355328):TL prog 121 #[.string p] w λe m=>e=.returned (.string (Sp.dj p))/\TI w m:=by
 have r:=Nf (Sp.mG p);go_enter func121,ntmps121;go_wp2_with fail;refine(xi p _ j).mono ?_;rintro e u ⟨rfl,b⟩;go_wp2;go_ret;exact⟨rfl,b⟩
theorem mb(p:TM)(w:TJ)(m:p.size<=140737488355328):TL prog 209 #[.string p] w λe j=>e=.returned (.string p)/\TI w j:=by
 go_enter func209,ntmps209;go_wp2_with fail;refine(Tryz.stringslite_Clone p _ (by omega)).mono ?_;rintro e r ⟨rfl,b⟩;go_wp2;go_ret;exact⟨rfl,b⟩
theorem Qd{a b:TM}(h:¬a=b):(a.toList == b.toList)=false:=by
 apply Tv.2;intro j;have e:=eq_of_beq j;rw[B3,B3] at e;exact h (Bk (OV.1 e))
theorem Qs{a b:TM}(h:a=b):(a.toList == b.toList)=true:=by subst h;simp
theorem Gg(s:TM)(w:TJ)(E:s.size<=140737488355328):TL prog 200 #[.string s] w λe B=>e=.returned (.tuple #[.string (Sp.dt s),.bool (Sp.okB s)])/\TI w B:=by
 by_cases c:s.size<8
 .have C:(s.size:Int)<8:=by omega
  have j:=Sp.EY c;rw[Sp.C9 j,j];clear j c;go_enter func200,ntmps200;go_wp2;go_ret2;exact⟨rfl,cj _ _⟩
 .have C:¬(s.size:Int)<8:=by omega
  have r:=Sp.y9 (s:=s) (by omega);have m:(s.extract 8 s.size).size<140737488355328:=by rw[cK];omega
  have z:=λw=>xi (s.extract 8 s.size) w m
  have A:=λw=>mb (s.extract 8 s.size) w (by omega)
  by_cases q:s.extract 0 8=Sp.I7 (s.extract 8 s.size)
  .have j:Sp.okB s=true:=r.2 q;rw[j,Sp.yz j];have D:=Qs q;clear r j q m;go_enter func200,ntmps200;go_wp2_with fail
   go_region_with (go_at_call 201;refine(z _).mono ?_;rintro e u ⟨rfl,b⟩)
   have b:TI w u:=(cj w.heap.size w).drew.trans b;go_wp2_with fail;refine(A _).mono ?_;rintro e F ⟨rfl,y⟩;go_wp2;go_ret2;exact⟨rfl,b.trans (y.mono b.size)⟩
  .have j:Sp.okB s=false:=Tv.2 (λh=>q (r.1 h));rw[j,Sp.C9 j];have D:=Qd q;clear r j q m A;go_enter func200,ntmps200;go_wp2_with fail
   go_region_with (go_at_call 201;refine(z _).mono ?_;rintro e u ⟨rfl,b⟩)
   have b:TI w u:=(cj w.heap.size w).drew.trans b;go_wp2;go_ret2;exact⟨rfl,b⟩
end
end Go.Proofs.YtgkkdpegcieakaaGreatDoor
