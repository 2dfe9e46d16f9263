import Derived.Test.YtgkkdpegcieakaaGreatDoorCv35
set_option linter.all false
set_option maxRecDepth 100000
set_option maxHeartbeats 0
namespace Go.Proofs.YtgkkdpegcieakaaGreatDoor
open Go.Proofs.Tryz
open Value renaming int→Z,slice→J,string→H,pointer→V9,tuple→Wb
open Ending renaming returned→Wd
open Obj renaming cells→D
open Option renaming none→U,some→S
open List renaming length→Wn
open _root_.Array renaming size→N
open World renaming cell?→Wj,alloc→Wl,heap→E
open IntKind renaming i64→Y
open Go renaming World→V5,Value→V6,Calls→V7
open Go.RowKit
namespace Hl
open Rd (Rk)
open Dk (Kept dy)
open Pk (om gj jd fx Sm ly ng cX di gG)
variable {w w0:V5}{R:Rk}
theorem MP{b:Nat}{O:Nat->Prop}(h:Dw w0 w b R O)(n:Int)(r:n<=9223372036854775807):V7 prog 10 #[V9 (S ⟨b,0,U⟩),Z Y n] w λe l=>e=Wd (Wb #[])/\∃j,Dw w0 l b (R.arm n) j/\fx w O l j:=by
 refine(Pk.QP n r h.two.half).mono ?_;rintro e l ⟨rfl,u⟩;obtain⟨j,y,m⟩:=u.two;exact⟨rfl,j,h.step (zr y) m,m⟩
theorem pj{b nn:Nat}{O:Nat->Prop}(h:Dw w0 w b R O)(l:Sm R nn 1000)(A:nn<=1000000000)(j:Int)(u:Option Addr)(m z:Nat)(K:Nat->Int)(B:Pk.qy w (N (E w0)) u m K):V7 prog 17 #[V9 (S ⟨b,0,U⟩),Z Y j,J u m z] w λe y=>e=Wd (Wb #[])/\∃r,Dw w0 y b (R.dW j (Rd.kp m K)) r/\fx w O y r:=by
 refine(Pk.Nc j u m z K h.two.half l A (λk C=>C.elim (h.own k) (λe=>To h.base.size e)) B).mono ?_;rintro e y ⟨rfl,F⟩;obtain⟨r,G,l⟩:=F.two;exact⟨rfl,r,h.step (zr G) l,l⟩
theorem jS{b nn:Nat}{O:Nat->Prop}(h:Dw w0 w b R O)(j:Sm R nn 1000)(l:nn<=1000000000):V7 prog 16 #[V9 (S ⟨b,0,U⟩)] w λe m=>e=Wd (Z Y (R.use R.now:Nat))/\V4 w m:=Pk.PK (show om w b 0 R O from h.two) j l (by omega)
theorem J2(g:V8)(keep:Nat)(w:V5)(z f:Addr)(he:Env w z f)(hk:keep<=5):V7 prog 9 #[H g,Z Y (keep:Int)] w λe V=>e=Wd (Z Y (cY g keep:Nat))/\V4 w V:=by
 have Q:=cU (D7 g w he.L6 he.comp.split);clear he;go_enter func9,ntmps9;go_wp2_with fail;refine(cT Q).mono ?_;rintro e W ⟨⟨l,j⟩,G⟩;have X:∃m r y I A B K C a b,e=Wd (Wb #[dL (J m (jl g).length r) (J y I A) (J B K C),Z Y a,Z Y b])/\(jl g).length<=64:=by
  cases F:Sp.dI g with
  |error q =>
   obtain⟨a,b⟩:=q;rw[F] at j;have M:jl g=[]:=by unfold jl;rw[F]
   rw[M];exact⟨U,0,U,0,0,U,0,0,a,b,j,by decide⟩
  |ok L =>
   rw[F] at j;obtain⟨v,u,x,rfl,t,s,p⟩:=j;obtain⟨m,r,rfl⟩:=gG t;obtain⟨y,A,rfl⟩:=gG s;obtain⟨B,C,rfl⟩:=gG p;have M:(jl g).length=(Sp.vs L (Sp.nv L)).length:=by unfold jl;rw[F,Ue]
   rw[M];exact⟨m,r,y,_,A,B,_,C,0,0,O,(G L F).1⟩
 obtain⟨m,r,y,I,A,B,K,C,a,b,rfl,o⟩:=X;have HB:Hid (V4 w (W.alloc (D #[J m (jl g).length r,J y I A,J B K C] 68))):=l.trans ((V3.alloc V2 _).mono l.size);have T:cY g keep=(keep+1)*(48+21*(jl g).length):=by unfold cY;rw[Nat.add_comm 48]
 generalize (jl g).length=n at *;have P:(keep+1)*(48+21*n)<=6*1392:=Nat.mul_le_mul (by omega) (by omega);have hmul:((keep:Int)+1)*(48+21*(n:Int))=(cY g keep:Int):=by rw[T,Int.natCast_mul];rfl
 have aa:cY g keep<=8352:=by omega
 have HM:=cU hmul;clear j l Q T P hmul;unfold dL;go_wp2;go_ret;have w3:IntKind.i64.wrap (cY g keep:Int)=(cY g keep:Int):=by rw[TJ];omega
 have w4:wrap64 (cY g keep:Int)=(cY g keep:Int):=by first|exact w3|(unfold wrap64;omega)
 refine⟨?_,cT HB⟩
 show Ending.returned (Z Y (wrap64 (((keep:Int)+1)*(48+21*(n:Int)))))=_
 rw[cT HM,w4]
structure Rh (w:V5) (p:Option Addr) (n:Nat) (A Dr:Nat->Int) (kp:Nat->Option Addr) (kn kc:Nat->Nat) (K:Nat->Nat->Int):Prop where
 cell:∀j,j<n->∃g o,p=S ⟨g,o,U⟩/\g<N (E w)/\w.cell? ⟨g,o+j*3,U⟩=S (Z Y (A j))/\w.cell? ⟨g,o+j*3+1,U⟩=S (Z Y (Dr j))/\w.cell? ⟨g,o+j*3+2,U⟩=S (J (kp j) (kn j) (kc j))
 keep:∀j,j<n->∀W,V4 w W->Pk.qy W (N (E w)) (kp j) (kn j) (K j)
 S7:∀j,j<n->-9223372036854775808<=A j/\A j<=9223372036854775807
end Hl
namespace Hl
open Rd (Rk)
open Pk (Sm gG cX fx)
open Ru (jG pS mX fO)
theorem CI(g p:V8)(c0 c1 c2:Int)(qp:Option Addr)(n cap:Nat)(A L:Nat->Int)(kp:Nat->Option Addr)(P kc:Nat->Nat)(K:Nat->Nat->Int)(z f:Addr)(w:V5)(he:Env w z f)(hq:Rh w qp n A L kp P kc K)(hn:n<=1048576)(hg:g.size<=1048576)(hp:p.size<=1048576)(h0 : -9223372036854775808<=c0/\c0<=9223372036854775807)(h1 : -9223372036854775808<=c1/\c1<=9223372036854775807)(h2 : -9223372036854775808<=c2/\c2<=9223372036854775807):V7 prog 3 #[H g,H p,.agg #[Z Y c0,Z Y c1,Z Y c2],J qp n cap] w λe w'=>e=Wd (.bool true)/\V4 w w':=by
 have HE:=cU he;have HQ:=cU hq;have a6:V4 w (w.alloc (D #[Z Y c0,Z Y c1,Z Y c2] 23)):=V3.alloc V2 _;have bc:=Tk w (D #[Z Y c0,Z Y c1,Z Y c2] 23);have cg:=vw c0 (n:=50) (by omega);have cj:=vw c1 (n:=5) (by omega);have cl:=vw c2 (n:=201) (by omega);have bd:=cU (λl=>JQ c0 c1 c2 l h0 h1 h2);generalize bF:w.alloc (D #[Z Y c0,Z Y c1,Z Y c2] 23)=W1 at *;have bG:=cU (G9 W1 z f (he.base a6));have bH:=cU bF;clear he hq h0 h1 h2 bF;obtain⟨every,bI⟩:∃x,pk c0 50+1=x:=⟨_,rfl⟩
 obtain⟨keep,bJ⟩:∃x,pk c1 5+1=x:=⟨_,rfl⟩
 obtain⟨cp,bK⟩:∃x,pk c2 201=x:=⟨_,rfl⟩
 rw[bI,bJ,bK] at bd;have ay:Cf every keep cp:=⟨by omega,by omega,by omega,by omega,by omega⟩
 clear bI bJ bK cg cj cl;go_enter func3,ntmps3;go_wp2_with fail;rw[cT bH];refine(cT bG).mono ?_;rintro e w1 ⟨rfl,bh⟩;have aK:=(bh.block _ (cX bc)).trans bc;have a8:=a6.trans (bh.mono a6.size);have bL:=cU (EC w w1 a8 1099511627776);clear bh bG bc;go_wp2_with fail;refine(cT bL).mono ?_;rintro e w2 ⟨rfl,bM,r,hD⟩;have aG:=(bM.block _ (cX aK)).trans aK;have x0:w2.cell? ⟨N (E w),0,U⟩=S (Z Y c0):=by simp[Wj,aG]
 have x1:w2.cell? ⟨N (E w),1,U⟩=S (Z Y c1):=by simp[Wj,aG]
 have x2:w2.cell? ⟨N (E w),2,U⟩=S (Z Y c2):=by simp[Wj,aG]
 have HD:=cU hD;clear bL aK bM hD aG;go_wp2_with fail;refine(cT bd w2).mono ?_;rintro e w3 ⟨rfl,bN⟩;have az:=(cT HD).below bN;have bO:=cU az;clear bd bN x0 x1 x2 az;go_wp2_with fail;have bP:V4 w3 (w3.alloc (D #[Z Y (every:Int),Z Y (keep:Int),Z Y (cp:Int)] 23)):=V3.alloc V2 _;have bj:=Tk w3 (D #[Z Y (every:Int),Z Y (keep:Int),Z Y (cp:Int)] 23);have bk:=(cT bO).below bP;generalize cn:w3.alloc (D #[Z Y (every:Int),Z Y (keep:Int),Z Y (cp:Int)] 23)=W4 at *;have a7:=(cT HE).base bk.base;refine(Jz g p cp z f W4 a7.L6 a7.comp a7.De).mono ?_;rintro e w5 ⟨ai,bQ,v,rfl,ad⟩;obtain⟨q0,k0,rfl⟩:=gG ad;have aA:=(ai.block _ (cX bj)).trans bj;have bR:=bk.below ai;have bn:=Pk.mj ad (Tp _);have aF:=cU bQ;obtain⟨er,bp⟩:∃x,Hid (j5 g p cp=x):=⟨_,rfl⟩
 obtain⟨B,bq⟩:∃x,Hid (fL g p cp=x):=⟨_,rfl⟩
 rw[cT bq] at bn ⊢;rw[cT bp];have cx:er=0\/er≠0:=Decidable.em _;have bS:FM w (w5.alloc (D #[Z .u8 B.outcome,Z Y B.step,Z Y B.dG,J q0 (Wn B.dJ) k0] 32)) (N (E w1)+1) ⟨[],[],[],1099511627776,-1,false⟩ r (N (E w3)) (N (E w5)) #[Z Y (every:Int),Z Y (keep:Int),Z Y (cp:Int)] #[Z .u8 B.outcome,Z Y B.step,Z Y B.dG,J q0 (Wn B.dJ) k0] (J q0 (Wn B.dJ) k0) B.dJ:=by
  have W:V4 w5 (w5.alloc (D #[Z .u8 B.outcome,Z Y B.step,Z Y B.dG,J q0 (Wn B.dJ) k0] 32)):=V3.alloc V2 _;exact⟨bR.below W,(W.block _ (cX aA)).trans aA,Tk _ _,de bn W⟩
 have br:=cU bS;clear bP bj bk cn a7 ai ad bR bn bQ HD bO bS a6 a8 bH;have c1:w5.cell? ⟨N (E w3),1,U⟩=S (Z Y (keep:Int)):=by simp[Wj,aA]
 have cy:=cX aA;have bs:=cU (J2 g keep _ z f ((cT HE).base (cT br).d.base) ay.k2);obtain⟨M,aq⟩:∃x,Hid (cY g keep=x):=⟨_,rfl⟩
 rw[cT aq] at bs;clear aA;go_wp2_with fail;refine(cT bs).mono ?_;rintro e w7 ⟨rfl,ae⟩;have bT:=cU ((cT br).below ae);clear ae bs br c1;go_wp2_with fail
 go_loopw [15,16] (λfr i wr=>∃(j y:Nat) (R:Rk) (r:Nat->Prop),j<=n/\fr=Z Y (y:Int)/\i=Z Y (j:Int)/\Hid (FM w wr (N (E w1)+1) R r (N (E w3)) (N (E w5)) #[Z Y (every:Int),Z Y (keep:Int),Z Y (cp:Int)] #[Z .u8 B.outcome,Z Y B.step,Z Y B.dG,J q0 (Wn B.dJ) k0] (J q0 (Wn B.dJ) k0) B.dJ/\He g p every keep cp j y R)) (λ_ i _=>n-(intOf i).toNat)
 case atStart=>exact⟨0,0,_,_,Tp _,rfl,rfl,cT bT,He.new g p every keep cp⟩
 case round =>
  clear bT;obtain⟨j,y,R,O1,hj,rfl,rfl,HI⟩:=hrel;by_cases aH:j<n
  .obtain⟨bg,bo,cq,av,bU,bV,bW⟩:=(cT HQ).cell j aH;have cA:wr.cell? ⟨bg,bo+j*3,U⟩=S (Z Y (A j)):=((cT HI).1.d.base.cell (p:=⟨bg,bo+j*3,U⟩) av).trans bU;subst cq;have bu:=(cT HQ).S7 j aH;have hP:∀l,V7 prog 11 #[Z Y (A j),Z Y 1000] l λe w'=>e=Wd (Z Y (pk (A j) 1000))/\w'=l:=λl=>yO (A j) 1000 l bu.1 bu.2 (by omega) (by omega)
   have cB:=vw (A j) (n:=1000) (by omega);generalize pk (A j) 1000=am at *;have cr:(j:Int)<(n:Int):=by omega
   have cC:¬(j:Int)<0:=by omega
   have bX:=cU (MP (cT HI).1.d (am:Int) (by omega));have HA:=cU (And.intro bV bW);clear bU bV bW bu;go_wp2_with fail;refine(hP wr).mono ?_;rintro e wp ⟨rfl,bY⟩;obtain rfl:=bY.symm;clear bY hP;go_wp2_with fail;refine(cT bX).mono ?_;rintro e u1 ⟨rfl,O2,aI,bZ⟩;have ah:=(cT HI).1.step aI bZ;have hy:=He.y ay (cT aF) (cT HI).2;have aL:=cU (qm aI (cT HE) (Sm.arm (cT HI).2.sm (am:Int)) (by omega) g p hg hp (every:Int) (keep:Int) (cp:Int));have c0:u1.cell? ⟨N (E w3),0,U⟩=S (Z Y (every:Int)):=by simp[Wj,ah.cb]
   have c1:u1.cell? ⟨N (E w3),1,U⟩=S (Z Y (keep:Int)):=by simp[Wj,ah.cb]
   have c2:u1.cell? ⟨N (E w3),2,U⟩=S (Z Y (cp:Int)):=by simp[Wj,ah.cb]
   have aM:=cU ah;clear aI bZ ah bX;go_wp2_with fail;refine(cT aL).mono ?_;clear aL;rintro e u2 ⟨_,q,m,k,O3,rfl,ad,az,aN⟩;have aO:=(cT HI).2.round ay (cT aF) (am:Int) (o:=_) O (dp:=_) O;have b0:=Ru.I2 (g:=g) (p:=p) (every:=every) (keep:=keep) (cap:=cp) (R:=R.arm (am:Int)) (cT aF);generalize jG g p (every:Int) (keep:Int) (cp:Int) (R.arm (am:Int))=o at *;generalize pS g p (every:Int) (keep:Int) (cp:Int) (R.arm (am:Int))=dp at *;rw[cT bp,cT bq] at aO;obtain⟨aP,ar,⟨cD,cE⟩,b3⟩:=aO;have cF:fE dp o.saved every<=20000:=by
    unfold fE;split
    .omega
    .have h1:dp/every<=dp:=Nat.div_le_self _ _;exact To (Nat.mul_le_mul (show dp/every+o.saved<=400 by omega) ay.e2) (by omega)
   have Q:=(cT aM).step az aN;obtain⟨em,aQ⟩:=oD ad rfl;subst em;obtain⟨_,aR⟩:=oD Q.row rfl;have ct:=cX Q.wb;have v0:u2.cell? ⟨N (E w5),0,U⟩=S (Z .u8 B.outcome):=by simp[Wj,Q.wb]
   have v1:u2.cell? ⟨N (E w5),1,U⟩=S (Z Y B.step):=by simp[Wj,Q.wb]
   have v2:u2.cell? ⟨N (E w5),2,U⟩=S (Z Y B.dG):=by simp[Wj,Q.wb]
   have v3:u2.cell? ⟨N (E w5),3,U⟩=S (J q0 (Wn B.dJ) k0):=by simp[Wj,Q.wb]
   have aw:V4 u2 ((u2.alloc (D #[Z .u8 (o.res.outcome:Int),Z Y (o.res.step:Int),Z Y (o.res.dG:Int),J q (Wn o.res.dJ) k] 32)).alloc (D #[Z Y (dp:Int),Z Y (o.saved:Int)] 43)):=(V3.alloc V2 _).alloc (by simp) _;have bw:((u2.alloc (D #[Z .u8 (o.res.outcome:Int),Z Y (o.res.step:Int),Z Y (o.res.dG:Int),J q (Wn o.res.dJ) k] 32)).alloc (D #[Z Y (dp:Int),Z Y (o.saved:Int)] 43)).heap[N (E u2)]?=S (D #[Z .u8 (o.res.outcome:Int),Z Y (o.res.step:Int),Z Y (o.res.dG:Int),J q (Wn o.res.dJ) k] 32 (0,0)):=by
    rw[TD _ _ _ (by simp)];exact Tk u2 _
   have ax:=Tk (u2.alloc (D #[Z .u8 (o.res.outcome:Int),Z Y (o.res.step:Int),Z Y (o.res.dG:Int),J q (Wn o.res.dJ) k] 32)) (D #[Z Y (dp:Int),Z Y (o.saved:Int)] 43);rw[TK] at ax;have aS:=cU Q;have aT:=cU (aQ.below aw);have aU:=cU (aR.below aw);have V:=cU b3;have aV:=cU aP;unfold mX;clear ad az aN Q aQ aR b3 aP aM c0 c1 c2;go_wp2_with fail;generalize bx:Wl (Wl _ _) _=U3 at *;have aW:=cU ((cT aS).below aw);refine(xi _ _ _ _ _ _ q q0 k k0 o.res.dJ B.dJ U3 (cT aT) (cT aU) (by omega)).mono ?_;rintro e u4 ⟨⟨b,rfl,aX⟩,aB⟩;have aC:=(aB.block _ (cX bw)).trans bw;have aj:=(aB.block _ (cX ax)).trans ax;have b4:=(cT aW).below aB;have aJ:=cU b4;have x0:u4.cell? ⟨N (E u2),0,U⟩=S (Z .u8 (o.res.outcome:Int)):=by simp[Wj,aC]
   have x1:u4.cell? ⟨N (E u2),1,U⟩=S (Z Y (o.res.step:Int)):=by simp[Wj,aC]
   have x2:u4.cell? ⟨N (E u2),2,U⟩=S (Z Y (o.res.dG:Int)):=by simp[Wj,aC]
   have x3:u4.cell? ⟨N (E u2),3,U⟩=S (J q (Wn o.res.dJ) k):=by simp[Wj,aC]
   have aY:=cU aX;clear aX aB bw ax aC b4 bx aw v0 v1 v2 v3 aW aT aU aS;go_wp2_with fail;refine(A6 _ _ _ q (Wn o.res.dJ) k u4).mono ?_;rintro e u5 ⟨⟨nb,rfl,b5⟩,ai⟩;have au:=(ai.block _ (cX aj)).trans aj;have bA:=(cT aJ).below ai;have aD:=cU bA;have y0:u5.cell? ⟨N (E u2)+1,0,U⟩=S (Z Y (dp:Int)):=by simp[Wj,au]
   have y1:u5.cell? ⟨N (E u2)+1,1,U⟩=S (Z Y (o.saved:Int)):=by simp[Wj,au]
   have c0:u5.cell? ⟨N (E w3),0,U⟩=S (Z Y (every:Int)):=by simp[Wj,bA.cb]
   have aE:=cU (IF dp o.saved every u5 ay.e1 ay.e2 (by omega) (by omega));have aZ:=cU b5;clear b5 ai aj au bA x0 x1 x2 x3 aJ;rcases cT aV with ⟨ag,G⟩|⟨ag,b6,G⟩
   .have bB:b=true:=cT aY (by rw[G]) (by rw[G]) (by rw[G]) (by rw[G]);subst bB;rw[ag];have cu:(er == er)=true:=UH.2 O;by_cases hz:er=0
    .have bC:(er == 0)=true:=UH.2 hz;have b7:¬(dp:Int)<(y:Int):=by have:=ar hz;omega
     have HZ:=cU hz;clear hz ag G aV aY aZ ar;go_wp2_with fail;refine(cT aE).mono ?_;rintro e u6 ⟨rfl,W⟩;have X:=(cT aD).below W;have ak:=cU X;have I:=cU (jS X.d (cT V).sm (by omega));have T:=(cT V).use;rw[cT aq] at T;obtain⟨ua,F⟩:∃x,o.R.use o.R.now=x:=⟨_,rfl⟩
     rw[F] at I T;have a1:¬(M:Int)<(ua:Int):=by omega
     clear W aE aD y0 y1 c0 X F T;go_wp2_with fail;refine(cT I).mono ?_;rintro e u7 ⟨rfl,ae⟩;have C:=(cT ak).below ae;have b1:u7.cell? ⟨bg,bo+j*3+1,U⟩=S (Z Y (L j)):=(C.d.base.cell (p:=⟨bg,bo+j*3+1,U⟩) av).trans (cT HA).1;have b2:u7.cell? ⟨bg,bo+j*3+2,U⟩=S (J (kp j) (P j) (kc j)):=(C.d.base.cell (p:=⟨bg,bo+j*3+2,U⟩) av).trans (cT HA).2;have t:Hid (He g p every keep cp (j+1) (fE dp o.saved every) (o.R.dW (L j) (Rd.kp (P j) (K j)))/\(o.R.dW (L j) (Rd.kp (P j) (K j))).use (o.R.dW (L j) (Rd.kp (P j) (K j))).now<=cY g keep):=(cT V).dW C.d.two.D3.1 (L j) (Rd.kp (P j) (K j));have af:=cU (λl (hY:V4 u7 l)=>(pj (C.below hY).d (cT V).sm (by omega) (L j) (kp j) (P j) (kc j) (K j) ((cT HQ).keep j aH l (C.below hY).d.base)).mono λ(e:Ending) (w':V5) ⟨h1,O4,h2,h3⟩=>(⟨h1,O4,cU ((C.below hY).step h2 h3)⟩:e=Ending.returned (Wb #[])/\∃O4,Hid (FM w w' (N (E w1)+1) (o.R.dW (L j) (Rd.kp (P j) (K j))) O4 (N (E w3)) (N (E w5)) #[Z Y (every:Int),Z Y (keep:Int),Z Y (cp:Int)] #[Z .u8 B.outcome,Z Y B.step,Z Y B.dG,J q0 (Wn B.dJ) k0] (J q0 (Wn B.dJ) k0) B.dJ)));clear ae C I ak;go_upto_region 22 with (fail)
     go_region_with (go_at_call 17;refine(cT af _ (by first|exact Th _ _|exact V3.drew)).mono ?_;rintro e u8 ⟨rfl,O4,s⟩)
     all_goals
      have aa:=cU (jS (cT s).d (cT t).1.sm (by omega));have ab:=(cT t).2;rw[cT aq] at ab;obtain⟨ub,F⟩:∃x,(o.R.dW (L j) (Rd.kp (P j) (K j))).use (o.R.dW (L j) (Rd.kp (P j) (K j))).now=x:=⟨_,rfl⟩
      rw[F] at aa ab;have bD:¬(M:Int)<(ub:Int):=by omega
      clear F ab af b1 b2;go_wp2_with fail;refine(cT aa).mono ?_;rintro e u9 ⟨rfl,an⟩;have ao:=cU ((cT s).below an);clear an aa s;go_wp2;go_roundw
      case rel=>exact⟨j+1,_,_,O4,by omega,rfl,by go_num,cT ao,(cT t).1⟩
      case measure=>simp[intOf];omega
    .have bC:(er == 0)=false:=Tt.2 hz;have HZ:=cU hz;clear hz ag G aV aY aZ ar;go_wp2_with fail;refine(cT aE).mono ?_;rintro e u6 ⟨rfl,W⟩;have X:=(cT aD).below W;have ak:=cU X;have I:=cU (jS X.d (cT V).sm (by omega));have T:=(cT V).use;rw[cT aq] at T;obtain⟨ua,F⟩:∃x,o.R.use o.R.now=x:=⟨_,rfl⟩
     rw[F] at I T;have a1:¬(M:Int)<(ua:Int):=by omega
     clear W aE aD y0 y1 c0 X F T;go_wp2_with fail;refine(cT I).mono ?_;rintro e u7 ⟨rfl,ae⟩;have C:=(cT ak).below ae;have b1:u7.cell? ⟨bg,bo+j*3+1,U⟩=S (Z Y (L j)):=(C.d.base.cell (p:=⟨bg,bo+j*3+1,U⟩) av).trans (cT HA).1;have b2:u7.cell? ⟨bg,bo+j*3+2,U⟩=S (J (kp j) (P j) (kc j)):=(C.d.base.cell (p:=⟨bg,bo+j*3+2,U⟩) av).trans (cT HA).2;have t:Hid (He g p every keep cp (j+1) (fE dp o.saved every) (o.R.dW (L j) (Rd.kp (P j) (K j)))/\(o.R.dW (L j) (Rd.kp (P j) (K j))).use (o.R.dW (L j) (Rd.kp (P j) (K j))).now<=cY g keep):=(cT V).dW C.d.two.D3.1 (L j) (Rd.kp (P j) (K j));have af:=cU (λl (hY:V4 u7 l)=>(pj (C.below hY).d (cT V).sm (by omega) (L j) (kp j) (P j) (kc j) (K j) ((cT HQ).keep j aH l (C.below hY).d.base)).mono λ(e:Ending) (w':V5) ⟨h1,O4,h2,h3⟩=>(⟨h1,O4,cU ((C.below hY).step h2 h3)⟩:e=Ending.returned (Wb #[])/\∃O4,Hid (FM w w' (N (E w1)+1) (o.R.dW (L j) (Rd.kp (P j) (K j))) O4 (N (E w3)) (N (E w5)) #[Z Y (every:Int),Z Y (keep:Int),Z Y (cp:Int)] #[Z .u8 B.outcome,Z Y B.step,Z Y B.dG,J q0 (Wn B.dJ) k0] (J q0 (Wn B.dJ) k0) B.dJ)));clear ae C I ak;go_upto_region 22 with (fail)
     go_region_with (go_at_call 17;refine(cT af _ (by first|exact Th _ _|exact V3.drew)).mono ?_;rintro e u8 ⟨rfl,O4,s⟩)
     all_goals
      have aa:=cU (jS (cT s).d (cT t).1.sm (by omega));have ab:=(cT t).2;rw[cT aq] at ab;obtain⟨ub,F⟩:∃x,(o.R.dW (L j) (Rd.kp (P j) (K j))).use (o.R.dW (L j) (Rd.kp (P j) (K j))).now=x:=⟨_,rfl⟩
      rw[F] at aa ab;have bD:¬(M:Int)<(ub:Int):=by omega
      clear F ab af b1 b2;go_wp2_with fail;refine(cT aa).mono ?_;rintro e u9 ⟨rfl,an⟩;have ao:=cU ((cT s).below an);clear an aa s;go_wp2;go_roundw
      case rel=>exact⟨j+1,_,_,O4,by omega,rfl,by go_num,cT ao,(cT t).1⟩
      case measure=>simp[intOf];omega
   .have cv:nb=true:=cT aZ (by rw[G];rfl) (by rw[G];rfl) (by rw[G];rfl) (by rw[G];rfl);subst cv;rw[ag];have b7:¬(dp:Int)<(y:Int):=by have:=ar b6;omega
    subst b6;cases b with
    |true =>
     clear ag G aV aY aZ ar;go_wp2_with fail;refine(cT aE).mono ?_;rintro e u6 ⟨rfl,W⟩;have X:=(cT aD).below W;have ak:=cU X;have I:=cU (jS X.d (cT V).sm (by omega));have T:=(cT V).use;rw[cT aq] at T;obtain⟨ua,F⟩:∃x,o.R.use o.R.now=x:=⟨_,rfl⟩
     rw[F] at I T;have a1:¬(M:Int)<(ua:Int):=by omega
     clear W aE aD y0 y1 c0 X F T;go_wp2_with fail;refine(cT I).mono ?_;rintro e u7 ⟨rfl,ae⟩;have C:=(cT ak).below ae;have b1:u7.cell? ⟨bg,bo+j*3+1,U⟩=S (Z Y (L j)):=(C.d.base.cell (p:=⟨bg,bo+j*3+1,U⟩) av).trans (cT HA).1;have b2:u7.cell? ⟨bg,bo+j*3+2,U⟩=S (J (kp j) (P j) (kc j)):=(C.d.base.cell (p:=⟨bg,bo+j*3+2,U⟩) av).trans (cT HA).2;have t:Hid (He g p every keep cp (j+1) (fE dp o.saved every) (o.R.dW (L j) (Rd.kp (P j) (K j)))/\(o.R.dW (L j) (Rd.kp (P j) (K j))).use (o.R.dW (L j) (Rd.kp (P j) (K j))).now<=cY g keep):=(cT V).dW C.d.two.D3.1 (L j) (Rd.kp (P j) (K j));have af:=cU (λl (hY:V4 u7 l)=>(pj (C.below hY).d (cT V).sm (by omega) (L j) (kp j) (P j) (kc j) (K j) ((cT HQ).keep j aH l (C.below hY).d.base)).mono λ(e:Ending) (w':V5) ⟨h1,O4,h2,h3⟩=>(⟨h1,O4,cU ((C.below hY).step h2 h3)⟩:e=Ending.returned (Wb #[])/\∃O4,Hid (FM w w' (N (E w1)+1) (o.R.dW (L j) (Rd.kp (P j) (K j))) O4 (N (E w3)) (N (E w5)) #[Z Y (every:Int),Z Y (keep:Int),Z Y (cp:Int)] #[Z .u8 B.outcome,Z Y B.step,Z Y B.dG,J q0 (Wn B.dJ) k0] (J q0 (Wn B.dJ) k0) B.dJ)));clear ae C I ak;go_upto_region 22 with (fail)
     go_region_with (go_at_call 17;refine(cT af _ (by first|exact Th _ _|exact V3.drew)).mono ?_;rintro e u8 ⟨rfl,O4,s⟩)
     all_goals
      have aa:=cU (jS (cT s).d (cT t).1.sm (by omega));have ab:=(cT t).2;rw[cT aq] at ab;obtain⟨ub,F⟩:∃x,(o.R.dW (L j) (Rd.kp (P j) (K j))).use (o.R.dW (L j) (Rd.kp (P j) (K j))).now=x:=⟨_,rfl⟩
      rw[F] at aa ab;have bD:¬(M:Int)<(ub:Int):=by omega
      clear F ab af b1 b2;go_wp2_with fail;refine(cT aa).mono ?_;rintro e u9 ⟨rfl,an⟩;have ao:=cU ((cT s).below an);clear an aa s;go_wp2;go_roundw
      case rel=>exact⟨j+1,_,_,O4,by omega,rfl,by go_num,cT ao,(cT t).1⟩
      case measure=>simp[intOf];omega
    |false =>
     clear ag G aV aY aZ ar;go_wp2_with fail;refine(cT aE).mono ?_;rintro e u6 ⟨rfl,W⟩;have X:=(cT aD).below W;have ak:=cU X;have I:=cU (jS X.d (cT V).sm (by omega));have T:=(cT V).use;rw[cT aq] at T;obtain⟨ua,F⟩:∃x,o.R.use o.R.now=x:=⟨_,rfl⟩
     rw[F] at I T;have a1:¬(M:Int)<(ua:Int):=by omega
     clear W aE aD y0 y1 c0 X F T;go_wp2_with fail;refine(cT I).mono ?_;rintro e u7 ⟨rfl,ae⟩;have C:=(cT ak).below ae;have b1:u7.cell? ⟨bg,bo+j*3+1,U⟩=S (Z Y (L j)):=(C.d.base.cell (p:=⟨bg,bo+j*3+1,U⟩) av).trans (cT HA).1;have b2:u7.cell? ⟨bg,bo+j*3+2,U⟩=S (J (kp j) (P j) (kc j)):=(C.d.base.cell (p:=⟨bg,bo+j*3+2,U⟩) av).trans (cT HA).2;have t:Hid (He g p every keep cp (j+1) (fE dp o.saved every) (o.R.dW (L j) (Rd.kp (P j) (K j)))/\(o.R.dW (L j) (Rd.kp (P j) (K j))).use (o.R.dW (L j) (Rd.kp (P j) (K j))).now<=cY g keep):=(cT V).dW C.d.two.D3.1 (L j) (Rd.kp (P j) (K j));have af:=cU (λl (hY:V4 u7 l)=>(pj (C.below hY).d (cT V).sm (by omega) (L j) (kp j) (P j) (kc j) (K j) ((cT HQ).keep j aH l (C.below hY).d.base)).mono λ(e:Ending) (w':V5) ⟨h1,O4,h2,h3⟩=>(⟨h1,O4,cU ((C.below hY).step h2 h3)⟩:e=Ending.returned (Wb #[])/\∃O4,Hid (FM w w' (N (E w1)+1) (o.R.dW (L j) (Rd.kp (P j) (K j))) O4 (N (E w3)) (N (E w5)) #[Z Y (every:Int),Z Y (keep:Int),Z Y (cp:Int)] #[Z .u8 B.outcome,Z Y B.step,Z Y B.dG,J q0 (Wn B.dJ) k0] (J q0 (Wn B.dJ) k0) B.dJ)));clear ae C I ak;go_upto_region 22 with (fail)
     go_region_with (go_at_call 17;refine(cT af _ (by first|exact Th _ _|exact V3.drew)).mono ?_;rintro e u8 ⟨rfl,O4,s⟩)
     all_goals
      have aa:=cU (jS (cT s).d (cT t).1.sm (by omega));have ab:=(cT t).2;rw[cT aq] at ab;obtain⟨ub,F⟩:∃x,(o.R.dW (L j) (Rd.kp (P j) (K j))).use (o.R.dW (L j) (Rd.kp (P j) (K j))).now=x:=⟨_,rfl⟩
      rw[F] at aa ab;have bD:¬(M:Int)<(ub:Int):=by omega
      clear F ab af b1 b2;go_wp2_with fail;refine(cT aa).mono ?_;rintro e u9 ⟨rfl,an⟩;have ao:=cU ((cT s).below an);clear an aa s;go_wp2;go_roundw
      case rel=>exact⟨j+1,_,_,O4,by omega,rfl,by go_num,cT ao,(cT t).1⟩
      case measure=>simp[intOf];omega
  .obtain rfl:j=n:=by omega
   have cr:¬(j:Int)<(j:Int):=by omega
   have ah:=(cT HI).1;have aI:=ah.d;obtain⟨u1,a1⟩:∃u,u=wr:=⟨wr,rfl⟩
   subst a1;have hy:=He.y ay (cT aF) (cT HI).2;have aL:=cU (qm aI (cT HE) (cT HI).2.sm (by omega) g p hg hp (every:Int) (keep:Int) (cp:Int));have c0:u1.cell? ⟨N (E w3),0,U⟩=S (Z Y (every:Int)):=by simp[Wj,ah.cb]
   have c1:u1.cell? ⟨N (E w3),1,U⟩=S (Z Y (keep:Int)):=by simp[Wj,ah.cb]
   have c2:u1.cell? ⟨N (E w3),2,U⟩=S (Z Y (cp:Int)):=by simp[Wj,ah.cb]
   have aM:=cU ah;clear aI ah;go_wp2_with fail;refine(cT aL).mono ?_;clear aL;rintro e u2 ⟨_,q,m,k,O3,rfl,ad,az,aN⟩;have aO:=(cT HI).2.last ay (cT aF) (o:=_) O (dp:=_) O;have ba:=Ru.OM (g:=g) (p:=p) (every:=every) (keep:=keep) (cap:=cp) (cT HI).2.sm (cT aF) (by omega);have b0:=Ru.I2 (g:=g) (p:=p) (every:=every) (keep:=keep) (cap:=cp) (R:=R) (cT aF);generalize jG g p (every:Int) (keep:Int) (cp:Int) R=o at *;generalize pS g p (every:Int) (keep:Int) (cp:Int) R=dp at *;rw[cT bp,cT bq] at aO;obtain⟨ag,G,ar,bE⟩:=aO;rw[cT aq] at bE;have ca:=cU ba;have cc:=cU bE;clear ba bE;have Q:=(cT aM).step az aN;obtain⟨em,aQ⟩:=oD ad rfl;subst em;obtain⟨_,aR⟩:=oD Q.row rfl;have ct:=cX Q.wb;have v0:u2.cell? ⟨N (E w5),0,U⟩=S (Z .u8 B.outcome):=by simp[Wj,Q.wb]
   have v1:u2.cell? ⟨N (E w5),1,U⟩=S (Z Y B.step):=by simp[Wj,Q.wb]
   have v2:u2.cell? ⟨N (E w5),2,U⟩=S (Z Y B.dG):=by simp[Wj,Q.wb]
   have v3:u2.cell? ⟨N (E w5),3,U⟩=S (J q0 (Wn B.dJ) k0):=by simp[Wj,Q.wb]
   have aw:V4 u2 ((u2.alloc (D #[Z .u8 (o.res.outcome:Int),Z Y (o.res.step:Int),Z Y (o.res.dG:Int),J q (Wn o.res.dJ) k] 32)).alloc (D #[Z Y (dp:Int),Z Y (o.saved:Int)] 43)):=(V3.alloc V2 _).alloc (by simp) _;have ax:=Tk (u2.alloc (D #[Z .u8 (o.res.outcome:Int),Z Y (o.res.step:Int),Z Y (o.res.dG:Int),J q (Wn o.res.dJ) k] 32)) (D #[Z Y (dp:Int),Z Y (o.saved:Int)] 43);rw[TK] at ax;have aS:=cU Q;have aT:=cU (aQ.below aw);have aU:=cU (aR.below aw);unfold mX;have af:=cU (And.intro ag G);clear ad az aN Q aQ aR aM c0 c1 c2 ag G;go_wp2_with fail;generalize bx:(u2.alloc (D #[Z .u8 (o.res.outcome:Int),Z Y (o.res.step:Int),Z Y (o.res.dG:Int),J q (Wn o.res.dJ) k] 32)).alloc (D #[Z Y (dp:Int),Z Y (o.saved:Int)] 43)=U3 at *;have aW:=cU ((cT aS).below aw);refine(xi _ _ _ _ _ _ q q0 k k0 o.res.dJ B.dJ U3 (cT aT) (cT aU) (by omega)).mono ?_;rintro e u4 ⟨⟨b,rfl,aX⟩,aB⟩;have aj:=(aB.block _ (cX ax)).trans ax;have aJ:=cU ((cT aW).below aB);obtain⟨ag,G⟩:=cT af;have bB:b=true:=aX (by rw[G]) (by rw[G]) (by rw[G]) (by rw[G]);subst bB;rw[ag];have I:=cU (jS (cT aJ).d (cT ca) (by omega));have T:=cT cc;obtain⟨ua,F⟩:∃x,o.R.use o.R.now=x:=⟨_,rfl⟩
   rw[F] at I T;clear aX aB ax bx aw v0 v1 v2 v3 aW aT aU aS ag G af F;go_wp2_with fail;refine(cT I).mono ?_;rintro e u5 ⟨rfl,ai⟩;have au:=(ai.block _ (cX aj)).trans aj;have cd:Hid (V4 w u5):=((cT aJ).below ai).d.base;have y0:u5.cell? ⟨N (E u2)+1,0,U⟩=S (Z Y (dp:Int)):=by simp[Wj,au]
   have cu:(er == er)=true:=UH.2 O;have cw:(ua:Int)<=(M:Int):=by omega
   clear ai aj au aJ I ca cc;by_cases hz:er=0
   .have bC:(er != 0)=false:=by rw[hz];rfl
    have cG:(y:Int)<=(dp:Int):=by have:=ar hz;omega
    have HZ:=cU hz;clear hz ar;go_wp2;go_ret;exact⟨O,cT cd⟩
   .have bC:(er != 0)=true:=by simpa using hz
    have HZ:=cU hz;clear hz ar;go_wp2;go_ret;exact⟨O,cT cd⟩
end Hl
end Go.Proofs.YtgkkdpegcieakaaGreatDoor
