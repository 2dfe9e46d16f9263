import Derived.Test.YtgkkdpegcieakaaGreatDoorCw45
set_option linter.all false
set_option maxRecDepth 100000
set_option maxHeartbeats 16000000
namespace Go.Proofs.YtgkkdpegcieakaaGreatDoor
open Go.Proofs.Tryz
open Value renaming int→Z,slice→J,string→H,pointer→WV
open Obj renaming cells→D
open Option renaming none→U,some→S
open Bool renaming true→W8,false→W9
open List renaming length→Xg
open _root_.Array renaming size→K
open World renaming cell?→Xc,alloc→Xe,heap→E
open IntKind renaming i64→Y
open Go renaming World→WR,Value→WS,Calls→WT
open Go.RowKit
namespace Pk
open Sd (Tb)
open Dk (Kept dv eT dN cU eD eV)
theorem Ht(b:Nat)(d:Dv)(n:Int)(w:WR)(h:kK w b d):WT prog 35 #[WV (S ⟨b,0,U⟩),Z Y n] w λe l=>e=.returned (.tuple #[])/\oO w l b d { d with q:=n }:=by
 obtain⟨m,_⟩:=h.cell;have r:=h.fz 0;have j:=cT h;clear h;go_enter func35,ntmps35;go_wp2;exact Ub (Ua O _ _ _) O ⟨O,(cS j).set (BI w b 0 _) (by rw[Ue w b 0 _ _ _ (cS j).blk];rfl) O O O O O O O O O⟩
end Pk
namespace Pk
open Sd (Tb)
open Rd (Rk tab e0)
open Dk (Kept dv)
theorem NT{u w:WR}{b E:Nat}{R:Rk}{O:Nat->Prop}(q:Int)(h:fT u w b E R R O):WT prog 18 #[WV (S ⟨b,0,U⟩),Z Y q] w (NP u b E { R with cY:=q } R O):=by
 obtain⟨d,r,L,M,N,y,l,z,A,B,C⟩:=h;have F:=Ht b d q w y;have hi:Is { d with q:=q } { R with cY:=q } r:=l.same rfl rfl rfl rfl rfl rfl rfl rfl rfl l.down l.arm l.left;have j:=cT (λG (m:oO w G b d { d with q:=q })=>fT.fE (Q:=R) z A B C m hi);clear y l z A B C hi;go_enter func18,ntmps18;go_wp2_with fail;refine F.mono ?_;rintro e G ⟨rfl,m⟩;have I:=cT m;clear m F;go_wp2;exact Ub (Ua rfl _ _ _) rfl ⟨rfl,(cS j) _ (cS I)⟩
end Pk
namespace Hl
open Go Sp
open Rd (Rk e0 dy Fl Ch)
open Pk (Sm)
open Ru (pd jd oo oT th Ac DJ oJ fG rz dz eh eK fx dR gB tf pH)
open Classical
theorem Ee{P:Pg}{Es:List Ed}{cap every keep da n dj b:Nat}(l:n<=64)(hb:1000<=b):∀(g s:Nat) (c:Cfg) (j:List Nat) (sv:Nat) (R:Rk) (nn:Nat),Sm R nn b->∃k,(rz P Es cap every keep da n dj g s c j sv R).saved=sv+k/\Sm (rz P Es cap every keep da n dj g s c j sv R).R (nn+8*(k+1)) b
 |0,s,c,j,sv,R,nn,h=>by rw[rz];exact⟨0,O,h.mono (by omega) WN⟩
 |g+1,s,c,j,sv,R,nn,h=>by
  have m:Sm R (nn+8*(0+1)) b:=h.mono (by omega) WN;have u:Sm (eh R (eK c n s da)).2 (nn+8) b:=(gB.save c n s da h l hb).all;have r:Sm (eh (eh R (eK c n s da)).2 (fx ((j++[s]).take (Xg j+1-keep)))).2 (nn+8) b:=(gB.tH (λo y=>(tf _ o y).1) u).all;rw[rz];split
  .exact⟨0,O,m⟩
  .split
   .exact⟨0,O,m⟩
   .split
    .split
     .exact⟨0,O,u⟩
     .split
      .exact⟨1,O,r.mono (by omega) WN⟩
      .split
       .exact⟨1,O,r.mono (by omega) WN⟩
       .obtain⟨k,e,z⟩:=Ee l hb g (s+1) _ _ (sv+1) _ _ r;exact⟨k+1,by rw[e];omega,z.mono (by omega) WN⟩
    .split
     .exact⟨0,O,m⟩
     .exact Ee l hb g _ _ _ _ _ _ h
theorem NL{g p:WU}{every keep cap:Int}{R:Rk}{nn b:Nat}(h:Sm R nn b)(l:Small g)(hb:1000<=b):Sm (jd g p every keep cap R).R (nn+8*((jd g p every keep cap R).saved+1)) b:=by
 have r:Sm R (nn+8*(0+1)) b:=h.mono (by omega) WN;unfold jd;split
 .exact r
 .rename_i m;have m:pd g p every keep cap=0:=by simpa using m
  split
  .exact r
  .obtain⟨u,F,G,I⟩:=Ru.qQ m;obtain⟨y,z⟩:=Ru.jm u;have A:=(qE y z l).1;unfold DJ;have j:Sm (eh R (dR R.fD ((oT g p cap.toNat R).drop ((oT g p cap.toNat R).length-keep.toNat)))).2 nn b:=(gB.tH (λo B=>(pH _ _ o B).1) h).all;split
   .exact j.mono (by omega) WN
   .obtain⟨k,e,C⟩:=Ee (every:=every.toNat) (keep:=keep.toNat) (P:=Sp.ik p) (Es:=pO g) (cap:=cap.toNat) (da:=oJ g p cap.toNat) (dj:=th (oT g p cap.toNat R)) A.It hb ((cap.toNat-th (oT g p cap.toNat R))+1) (th (oT g p cap.toNat R)) (Ac g p (oT g p cap.toNat R) R) ((oT g p cap.toNat R).drop ((oT g p cap.toNat R).length-keep.toNat)) 0 _ nn j;rw[e,UA];exact C
theorem Ia{j:Jb}{y u:Nat}{R:Rk}(h:lh j W9 W9 y u R)(q:Int):lh j W9 W9 y u { R with cY:=q }:=by
 obtain⟨l,m,r,hi,z⟩:=h;exact⟨l,m,r,⟨hi.f,hi.s,hi.c,λe=>(by cases e),hi.b⟩,z⟩
end Hl
namespace Hl
open Go Sp
open Rd (Rk)
open Pk (Sm)
open Ru (pd jd oo fG)
open Classical
variable {dj every:Nat}
theorem LO{sv:Nat}(h:dj%every=0): fD dj sv every=(dj/every+sv)*every:=by
 unfold fD;split
 .rename_i e;have:=Nat.div_add_mod dj every;rw[h,U9,V4] at this;rw[e,U9,this]
 .rfl
theorem QU{sv:Nat}(he:1<=every)(h:dj%every=0): dj+sv<=fD dj sv every:=by
 rw[LO h,Nat.add_mul];have b:=Nat.div_add_mod dj every;rw[h,U9,V4] at b;have e:sv*1<=sv*every:=Nat.mul_le_mul_left _ he;omega
variable {p g:WU}{cap keep:Nat}{R:Rk}
theorem Qv(h:pd g p every keep cap≠0): jd g p every keep cap R=⟨fG,0,pd g p every keep cap,R⟩/\oo g p every keep cap R=0:=by
 unfold jd oo;rw[T0 h,T0 h];exact⟨O,O⟩
theorem Qo(h:kZ g p cap=0): fL g p cap=GL (Sp.ik p) (jx g) (pO g) cap:=by
 unfold fL;rw[T0 h,Wa]
theorem ML(h:kZ g p cap≠0): fL g p cap=fG:=by
 unfold fL;rw[TZ h];rfl
structure Fu (g p:WU) (every keep cap i y:Nat) (R:Rk):Prop where
 sm:Sm R (8*(i+y)) 1000
 lf:R.left = -1
 dn:R.down=W9
 ok:kZ g p cap=0->lh (jb g p every keep cap) W9 W9 y (cX g keep) R
 no:kZ g p cap≠0->y=0
theorem Sm.S3{n b:Nat}(h:Sm R n b)(q:Int): Sm { R with cY:=q } n b:=⟨h.dir,h.fn,h.file,h.ns,h.nc⟩
theorem Fu.new(g p:WU)(every keep cap:Nat)(q:Int):Fu g p every keep cap 0 0 ⟨[],[],[],q,-1,W9⟩:=⟨(C6 q).mono (by omega) (by omega),rfl,rfl,λ_=>uB _ W9 W9 _ λe=>(by cases e),λ_=>rfl⟩
theorem Fu.y{i y:Nat}(l:Cf every keep cap)(b:Small g)(h:Fu g p every keep cap i y R): y<=200:=by
 by_cases e:kZ g p cap=0
 .have j:=E5 (g:=g) (p:=p) (by rw[xX l];exact e) b;exact Uc (Ju j (h.ok e)) j.cap
 .have:=h.no e;omega
theorem Fu.round{i y:Nat}(l:Cf every keep cap)(j:Small g)(h:Fu g p every keep cap i y R)(q:Int){o:Ru.Out}(m:o=jd g p every keep cap { R with cY:=q })(B:dj=oo g p every keep cap { R with cY:=q }):((o.e=kZ g p cap/\o.res=fL g p cap)\/(o.e=12/\kZ g p cap=0/\o.res=fG))/\(kZ g p cap=0->y<=dj)/\(dj<=200/\o.saved<=200)/\Fu g p every keep cap (i+1) (fD dj o.saved every) o.R/\(q=1099511627776->o.e=kZ g p cap):=by
 have r:=NL (g:=g) (p:=p) (every:=every) (keep:=keep) (cap:=cap) (Sm.S3 h.sm q) j (by omega);rw[<-m] at r;by_cases e:kZ g p cap=0
 .have u:pd g p every keep cap=0:=by rw[xX l];exact e
  have N:=E5 u j;have P:=Ia (h.ok e) q;obtain⟨Q,C,F,A,T,V⟩:=se u j P h.dn (λe=>by cases e);rw[<-B,<-m] at A;rw[<-B] at Q C;rw[<-m] at F T V;have t:=LO (sv:=o.saved) C;have n:=QU (sv:=o.saved) l.e1 C;rw[<-t] at A;have W:=Uc (Ju N A) N.cap;have aa:fD dj o.saved every<=200:=W;obtain⟨G,I,L,hi,M⟩:=A;refine⟨?_,λ_=>Q,⟨by omega,by omega⟩,⟨r.mono (by omega) WN,(hi.b O).1,(hi.b O).2,λ_=>⟨G,I,L,hi,M⟩,λz=>absurd e z⟩,λhv=>?_⟩
  .rcases F with e3|e3
   .exact Or.inl ⟨by rw[e3,e],by rw[T e3,Qo e]⟩
   .exact Or.inr ⟨e3,e,V (by rw[e3];decide)⟩
  .have hb:lh (jb g p every keep cap) W8 W9 y (cX g keep) { R with cY:=q }:=by
    obtain⟨G,I,L,hi,M⟩:=P;exact⟨G,I,L,⟨hi.f,hi.s,hi.c,λ_=>hv,λe=>(by cases e)⟩,M⟩
   obtain⟨_,_,X,_⟩:=se u j hb h.dn (λe=>by cases e);rw[<-m] at X;rw[e];rcases F with e3|e3
   .exact e3
   .rcases X with e7|e7
    .exact e7
    .rw[e3] at e7;exact absurd e7 (by decide)
 .have u:pd g p every keep cap≠0:=by rw[xX l];exact e
  obtain⟨k,x⟩:=Qv (R:={ R with cY:=q }) u;rw[<-m] at k;rw[<-B] at x;have W:=h.no e;subst k x;refine⟨Or.inl ⟨xX l,(ML e).symm⟩,λz=>absurd z e,⟨by omega,Ud _⟩,⟨?_,h.lf,h.dn,λz=>absurd z e,λ_=>O⟩,λ_=>xX l⟩;exact(Sm.S3 h.sm q).mono (by omega) WN
end Hl
namespace Hl
open Rd (Rk)
open Dk (Kept dv)
open Pk (n5 fT iV fj Sm kK mZ cV dh)
open Ru (pd jd oo lS zD fI mM iH)
theorem xD{m w:WR}{b:Nat}{R:Rk}{O:Nat->Prop}(h:Dw m w b R O)(q:Int):WT prog 18 #[WV (S ⟨b,0,U⟩),Z Y q] w λe l=>e=.returned (.tuple #[])/\∃j,Dw m l b { R with cY:=q } j/\fj w O l j:=by
 refine(Pk.NT q h.two.half).mono ?_;rintro e l ⟨rfl,u⟩;obtain⟨j,y,r⟩:=u.two;exact⟨rfl,j,h.step (ug y) r,r⟩
end Hl
namespace Hl
open Rd (Rk)
open Pk (Sm gw cV fj)
open Ru (jd oo lS fG)
theorem LU(g p:WU)(V c1 c2:Int)(qp:Option Addr)(n cap:Nat)(Q:Nat->Int)(z f:Addr)(w:WR)(he:Env w z f)(hq:SM w qp n Q)(hn:n<=1048576)(hg:g.size<=1048576)(hp:p.size<=1048576)(h0 : -9223372036854775808<=V/\V<=9223372036854775807)(h1 : -9223372036854775808<=c1/\c1<=9223372036854775807)(h2 : -9223372036854775808<=c2/\c2<=9223372036854775807):WT prog 4 #[H g,H p,.agg #[Z Y V,Z Y c1,Z Y c2],J qp n cap] w λe w'=>e=.returned (.bool W8)/\WQ w w':=by
 have HE:=cT he;have HQ:=cT hq;have aI:WQ w (w.alloc (D #[Z Y V,Z Y c1,Z Y c2] 23)):=WO.alloc WN _;have aM:=T9 w (D #[Z Y V,Z Y c1,Z Y c2] 23);have bF:=pY V (n:=50) (by omega);have bG:=pY c1 (n:=5) (by omega);have bH:=pY c2 (n:=201) (by omega);have aN:=cT (λl=>AY V c1 c2 l h0 h1 h2);generalize aZ:w.alloc (D #[Z Y V,Z Y c1,Z Y c2] 23)=W1 at *;have a1:=cT (yd W1 z f (he.base aI));have a6:=cT aZ;clear he hq h0 h1 h2 aZ;obtain⟨every,a7⟩:∃x,pk V 50+1=x:=⟨_,rfl⟩
 obtain⟨keep,a8⟩:∃x,pk c1 5+1=x:=⟨_,rfl⟩
 obtain⟨N,ba⟩:∃x,pk c2 201=x:=⟨_,rfl⟩
 rw[a7,a8,ba] at aN;have ah:Cf every keep N:=⟨by omega,by omega,by omega,by omega,by omega⟩
 clear a7 a8 ba bF bG bH;go_enter func4,ntmps4;go_wp2_with fail;rw[cS a6];refine(cS a1).mono ?_;rintro e w1 ⟨rfl,aO⟩;have aj:=(aO.block _ (cV aM)).trans aM;have aL:=aI.trans (aO.mono aI.size);have bc:=cT (zB w w1 aL 0);clear aO a1 aM;go_wp2_with fail;refine(cS bc).mono ?_;rintro e w2 ⟨rfl,bd,r,hD⟩;have ag:=(bd.block _ (cV aj)).trans aj;have x0:w2.cell? ⟨K (E w),0,U⟩=S (Z Y V):=by simp[Xc,ag]
 have x1:w2.cell? ⟨K (E w),1,U⟩=S (Z Y c1):=by simp[Xc,ag]
 have x2:w2.cell? ⟨K (E w),2,U⟩=S (Z Y c2):=by simp[Xc,ag]
 have HD:=cT hD;clear bc aj bd hD ag;go_wp2_with fail;refine(cS aN w2).mono ?_;rintro e w3 ⟨rfl,bg⟩;have t:=(cS HD).below bg;have bh:=cT t;clear aN bg x0 x1 x2 t;go_wp2_with fail;have bj:WQ w3 (w3.alloc (D #[Z Y (every:Int),Z Y (keep:Int),Z Y (N:Int)] 23)):=WO.alloc WN _;have aP:=T9 w3 (D #[Z Y (every:Int),Z Y (keep:Int),Z Y (N:Int)] 23);have aQ:=(cS bh).below bj;generalize bI:w3.alloc (D #[Z Y (every:Int),Z Y (keep:Int),Z Y (N:Int)] 23)=W4 at *;have aJ:=(cS HE).base aQ.base;refine(Cm g p N z f W4 aJ.I6 aJ.comp aJ.B6).mono ?_;rintro e w5 ⟨ae,bk,v,rfl,F⟩;obtain⟨q0,k0,rfl⟩:=gw F;have ak:=(ae.block _ (cV aP)).trans aP;have bn:=aQ.below ae;have aR:=Pk.lA F (Ud _);have ai:=cT bk;obtain⟨er,aS⟩:∃x,Hid (kZ g p N=x):=⟨_,rfl⟩
 obtain⟨u,aT⟩:∃x,Hid (fL g p N=x):=⟨_,rfl⟩
 rw[cS aT] at aR ⊢;rw[cS aS];have bQ:er=0\/er≠0:=Decidable.em _;have bo:FM w (w5.alloc (D #[Z .u8 u.outcome,Z Y u.step,Z Y u.dt,J q0 (Xg u.dA) k0] 32)) (K (E w1)+1) ⟨[],[],[],0,-1,W9⟩ r (K (E w3)) (K (E w5)) #[Z Y (every:Int),Z Y (keep:Int),Z Y (N:Int)] #[Z .u8 u.outcome,Z Y u.step,Z Y u.dt,J q0 (Xg u.dA) k0] (J q0 (Xg u.dA) k0) u.dA:=by
  have C:WQ w5 (w5.alloc (D #[Z .u8 u.outcome,Z Y u.step,Z Y u.dt,J q0 (Xg u.dA) k0] 32)):=WO.alloc WN _;exact⟨bn.below C,(C.block _ (cV ak)).trans ak,T9 _ _,dd aR C⟩
 have bp:=cT bo;clear bj aP aQ bI aJ ae F ak bn aR bk HD bh bo aI aL a6;go_wp2_with fail
 go_loopw [14,15] (λfr i wr=>∃(j y:Nat) (R:Rk) (r:Nat->Prop),j<=n/\fr=Z Y (y:Int)/\i=Z Y (j:Int)/\Hid (FM w wr (K (E w1)+1) R r (K (E w3)) (K (E w5)) #[Z Y (every:Int),Z Y (keep:Int),Z Y (N:Int)] #[Z .u8 u.outcome,Z Y u.step,Z Y u.dt,J q0 (Xg u.dA) k0] (J q0 (Xg u.dA) k0) u.dA/\Fu g p every keep N j y R)) (λ_ i _=>n-(intOf i).toNat)
 case atStart=>exact⟨0,0,_,_,Ud _,rfl,rfl,cS bp,Fu.new g p every keep N 0⟩
 case round =>
  clear bp;obtain⟨j,y,R,O1,hj,rfl,rfl,HI⟩:=hrel;by_cases bJ:j<n
  .obtain⟨qg,qo,bK,bq,br⟩:=cS HQ j bJ;have bP:wr.cell? ⟨qg,qo+j,U⟩=S (Z Y (Q j)):=((cS HI).1.d.base.cell (p:=⟨qg,qo+j,U⟩) bq).trans br;subst bK;have bL:(j:Int)<(n:Int):=by omega
   have bR:¬(j:Int)<0:=by omega
   have an:=cT (xD (cS HI).1.d (Q j));clear br bq;go_wp2_with fail;refine(cS an).mono ?_;rintro e u1 ⟨rfl,O2,af,ao⟩;have I:=(cS HI).1.step af ao;have hy:=Fu.y ah (cS ai) (cS HI).2;have aq:=cT (mj af (cS HE) (Sm.S3 (cS HI).2.sm (Q j)) (by omega) g p hg hp (every:Int) (keep:Int) (N:Int));have V:u1.cell? ⟨K (E w3),0,U⟩=S (Z Y (every:Int)):=by simp[Xc,I.cb]
   have c1:u1.cell? ⟨K (E w3),1,U⟩=S (Z Y (keep:Int)):=by simp[Xc,I.cb]
   have c2:u1.cell? ⟨K (E w3),2,U⟩=S (Z Y (N:Int)):=by simp[Xc,I.cb]
   have ar:=cT I;clear af ao I an;go_wp2_with fail;refine(cS aq).mono ?_;clear aq;rintro e u2 ⟨_,q,m,k,O3,rfl,F,t,au⟩;have av:=(cS HI).2.round ah (cS ai) (Q j) (o:=_) O (dj:=_) O;have bs:=Ru.yM (g:=g) (p:=p) (every:=every) (keep:=keep) (cap:=N) (R:={ R with cY:=Q j }) (cS ai);generalize jd g p (every:Int) (keep:Int) (N:Int) { R with cY:=Q j }=o at *;generalize oo g p (every:Int) (keep:Int) (N:Int) { R with cY:=Q j }=dj at *;rw[cS aS,cS aT] at av;obtain⟨L,P,⟨bS,bT⟩,bu,_⟩:=av;have B:=(cS ar).step t au;obtain⟨em,aw⟩:=jP F rfl;subst em;obtain⟨_,ax⟩:=jP B.row rfl;have bM:=cV B.wb;have v0:u2.cell? ⟨K (E w5),0,U⟩=S (Z .u8 u.outcome):=by simp[Xc,B.wb]
   have v1:u2.cell? ⟨K (E w5),1,U⟩=S (Z Y u.step):=by simp[Xc,B.wb]
   have v2:u2.cell? ⟨K (E w5),2,U⟩=S (Z Y u.dt):=by simp[Xc,B.wb]
   have v3:u2.cell? ⟨K (E w5),3,U⟩=S (J q0 (Xg u.dA) k0):=by simp[Xc,B.wb]
   have W:WQ u2 ((u2.alloc (D #[Z .u8 (o.res.outcome:Int),Z Y (o.res.step:Int),Z Y (o.res.dt:Int),J q (Xg o.res.dA) k] 32)).alloc (D #[Z Y (dj:Int),Z Y (o.saved:Int)] 43)):=(WO.alloc WN _).alloc (by simp) _;have aU:((u2.alloc (D #[Z .u8 (o.res.outcome:Int),Z Y (o.res.step:Int),Z Y (o.res.dt:Int),J q (Xg o.res.dA) k] 32)).alloc (D #[Z Y (dj:Int),Z Y (o.saved:Int)] 43)).heap[K (E u2)]?=S (D #[Z .u8 (o.res.outcome:Int),Z Y (o.res.step:Int),Z Y (o.res.dt:Int),J q (Xg o.res.dA) k] 32 (0,0)):=by
    rw[Ur _ _ _ (by simp)];exact T9 u2 _
   have X:=T9 (u2.alloc (D #[Z .u8 (o.res.outcome:Int),Z Y (o.res.step:Int),Z Y (o.res.dt:Int),J q (Xg o.res.dA) k] 32)) (D #[Z Y (dj:Int),Z Y (o.saved:Int)] 43);rw[Uv] at X;have ay:=cT B;have az:=cT (aw.below W);have aA:=cT (ax.below W);have aK:=cT bu;have aB:=cT L;unfold lS;clear F t au B aw ax bu L ar V c1 c2;go_wp2_with fail;generalize aV:Xe (Xe _ _) _=U3 at *;have aC:=cT ((cS ay).below W);refine(pj _ _ _ _ _ _ q q0 k k0 o.res.dA u.dA U3 (cS az) (cS aA) (by omega)).mono ?_;rintro e u4 ⟨⟨b,rfl,aD⟩,s⟩;have aa:=(s.block _ (cV aU)).trans aU;have T:=(s.block _ (cV X)).trans X;have bw:=(cS aC).below s;have bx:=cT bw;have x0:u4.cell? ⟨K (E u2),0,U⟩=S (Z .u8 (o.res.outcome:Int)):=by simp[Xc,aa]
   have x1:u4.cell? ⟨K (E u2),1,U⟩=S (Z Y (o.res.step:Int)):=by simp[Xc,aa]
   have x2:u4.cell? ⟨K (E u2),2,U⟩=S (Z Y (o.res.dt:Int)):=by simp[Xc,aa]
   have x3:u4.cell? ⟨K (E u2),3,U⟩=S (J q (Xg o.res.dA) k):=by simp[Xc,aa]
   have aE:=cT aD;clear aD s aU X aa bw aV W v0 v1 v2 v3 aC az aA ay;go_wp2_with fail;refine(tx _ _ _ q (Xg o.res.dA) k u4).mono ?_;rintro e u5 ⟨⟨nb,rfl,bA⟩,ae⟩;have aF:=(ae.block _ (cV T)).trans T;have aW:=(cS bx).below ae;have ab:=cT aW;have y0:u5.cell? ⟨K (E u2)+1,0,U⟩=S (Z Y (dj:Int)):=by simp[Xc,aF]
   have y1:u5.cell? ⟨K (E u2)+1,1,U⟩=S (Z Y (o.saved:Int)):=by simp[Xc,aF]
   have V:u5.cell? ⟨K (E w3),0,U⟩=S (Z Y (every:Int)):=by simp[Xc,aW.cb]
   have ad:=cT (AU dj o.saved every u5 ah.e1 ah.e2 (by omega) (by omega));have aG:=cT bA;clear bA ae T aF aW x0 x1 x2 x3 bx;rcases cS aB with ⟨G,A⟩|⟨G,bB,A⟩
   .have aX:b=W8:=cS aE (by rw[A]) (by rw[A]) (by rw[A]) (by rw[A]);subst aX;rw[G];have bN:(er == er)=W8:=Vi.2 O;by_cases hz:er=0
    .have aY:(er == 0)=W8:=Vi.2 hz;have bC:¬(dj:Int)<(y:Int):=by have:=P hz;omega
     have HZ:=cT hz;clear hz G A aB aE aG P;go_wp2_with fail;refine(cS ad).mono ?_;rintro e u6 ⟨rfl,C⟩;have M:=cT ((cS ab).below C);clear C ad ab y0 y1 V;go_wp2;go_roundw
     case rel=>exact⟨j+1,_,o.R,O3,by omega,rfl,by go_num,cS M,cS aK⟩
     case measure=>simp[intOf];omega
    .have aY:(er == 0)=W9:=Uh.2 hz;have HZ:=cT hz;clear hz G A aB aE aG P;go_wp2_with fail;refine(cS ad).mono ?_;rintro e u6 ⟨rfl,C⟩;have M:=cT ((cS ab).below C);clear C ad ab y0 y1 V;go_wp2;go_roundw
     case rel=>exact⟨j+1,_,o.R,O3,by omega,rfl,by go_num,cS M,cS aK⟩
     case measure=>simp[intOf];omega
   .have bO:nb=W8:=cS aG (by rw[A];rfl) (by rw[A];rfl) (by rw[A];rfl) (by rw[A];rfl);subst bO;rw[G];have bC:¬(dj:Int)<(y:Int):=by have:=P bB;omega
    subst bB;cases b with
    |true =>
     clear G A aB aE aG P;go_wp2_with fail;refine(cS ad).mono ?_;rintro e u6 ⟨rfl,C⟩;have M:=cT ((cS ab).below C);clear C ad ab y0 y1 V;go_wp2;go_roundw
     case rel=>exact⟨j+1,_,o.R,O3,by omega,rfl,by go_num,cS M,cS aK⟩
     case measure=>simp[intOf];omega
    |false =>
     clear G A aB aE aG P;go_wp2_with fail;refine(cS ad).mono ?_;rintro e u6 ⟨rfl,C⟩;have M:=cT ((cS ab).below C);clear C ad ab y0 y1 V;go_wp2;go_roundw
     case rel=>exact⟨j+1,_,o.R,O3,by omega,rfl,by go_num,cS M,cS aK⟩
     case measure=>simp[intOf];omega
  .obtain rfl:j=n:=by omega
   have bL:¬(j:Int)<(j:Int):=by omega
   have an:=cT (xD (cS HI).1.d 1099511627776);go_wp2_with fail;refine(cS an).mono ?_;rintro e u1 ⟨rfl,O2,af,ao⟩;have I:=(cS HI).1.step af ao;have hy:=Fu.y ah (cS ai) (cS HI).2;have aq:=cT (mj af (cS HE) (Sm.S3 (cS HI).2.sm 1099511627776) (by omega) g p hg hp (every:Int) (keep:Int) (N:Int));have V:u1.cell? ⟨K (E w3),0,U⟩=S (Z Y (every:Int)):=by simp[Xc,I.cb]
   have c1:u1.cell? ⟨K (E w3),1,U⟩=S (Z Y (keep:Int)):=by simp[Xc,I.cb]
   have c2:u1.cell? ⟨K (E w3),2,U⟩=S (Z Y (N:Int)):=by simp[Xc,I.cb]
   have ar:=cT I;clear af ao I an;go_wp2_with fail;refine(cS aq).mono ?_;clear aq;rintro e u2 ⟨_,q,m,k,O3,rfl,F,t,au⟩;have av:=(cS HI).2.round ah (cS ai) 1099511627776 (o:=_) O (dj:=_) O;have bs:=Ru.yM (g:=g) (p:=p) (every:=every) (keep:=keep) (cap:=N) (R:={ R with cY:=1099511627776 }) (cS ai);generalize jd g p (every:Int) (keep:Int) (N:Int) { R with cY:=1099511627776 }=o at *;generalize oo g p (every:Int) (keep:Int) (N:Int) { R with cY:=1099511627776 }=dj at *;rw[cS aS,cS aT] at av;obtain⟨L,P,_,_,aH⟩:=av;have G:o.e=er:=aH O;have A:o.res=u:=by
    rcases L with ⟨_,h⟩|⟨h1,h2,_⟩
    .exact h
    .rw[G,h2] at h1;exact absurd h1 (by decide)
   have B:=(cS ar).step t au;obtain⟨em,aw⟩:=jP F rfl;subst em;obtain⟨_,ax⟩:=jP B.row rfl;have bM:=cV B.wb;have v0:u2.cell? ⟨K (E w5),0,U⟩=S (Z .u8 u.outcome):=by simp[Xc,B.wb]
   have v1:u2.cell? ⟨K (E w5),1,U⟩=S (Z Y u.step):=by simp[Xc,B.wb]
   have v2:u2.cell? ⟨K (E w5),2,U⟩=S (Z Y u.dt):=by simp[Xc,B.wb]
   have v3:u2.cell? ⟨K (E w5),3,U⟩=S (J q0 (Xg u.dA) k0):=by simp[Xc,B.wb]
   have W:WQ u2 ((u2.alloc (D #[Z .u8 (o.res.outcome:Int),Z Y (o.res.step:Int),Z Y (o.res.dt:Int),J q (Xg o.res.dA) k] 32)).alloc (D #[Z Y (dj:Int),Z Y (o.saved:Int)] 43)):=(WO.alloc WN _).alloc (by simp) _;have X:=T9 (u2.alloc (D #[Z .u8 (o.res.outcome:Int),Z Y (o.res.step:Int),Z Y (o.res.dt:Int),J q (Xg o.res.dA) k] 32)) (D #[Z Y (dj:Int),Z Y (o.saved:Int)] 43);rw[Uv] at X;have ay:=cT B;have az:=cT (aw.below W);have aA:=cT (ax.below W);unfold lS;have bD:=cT (And.intro G A);clear F t au B aw ax L ar V c1 c2 G A aH;go_wp2_with fail;generalize aV:(u2.alloc (D #[Z .u8 (o.res.outcome:Int),Z Y (o.res.step:Int),Z Y (o.res.dt:Int),J q (Xg o.res.dA) k] 32)).alloc (D #[Z Y (dj:Int),Z Y (o.saved:Int)] 43)=U3 at *;have aC:=cT ((cS ay).below W);refine(pj _ _ _ _ _ _ q q0 k k0 o.res.dA u.dA U3 (cS az) (cS aA) (by omega)).mono ?_;rintro e u4 ⟨⟨b,rfl,aD⟩,s⟩;have T:=(s.block _ (cV X)).trans X;have bE:Hid (WQ w u4):=((cS aC).below s).d.base;have y0:u4.cell? ⟨K (E u2)+1,0,U⟩=S (Z Y (dj:Int)):=by simp[Xc,T]
   obtain⟨G,A⟩:=cS bD;have aX:b=W8:=aD (by rw[A]) (by rw[A]) (by rw[A]) (by rw[A]);subst aX;rw[G];have bN:(er == er)=W8:=Vi.2 O;clear aD s X T aV W v0 v1 v2 v3 aC az aA ay G A bD;by_cases hz:er=0
   .have aY:(er != 0)=W9:=by rw[hz];rfl
    have bU:(y:Int)<=(dj:Int):=by have:=P hz;omega
    have HZ:=cT hz;clear hz P;go_wp2;go_ret;exact⟨O,cS bE⟩
   .have aY:(er != 0)=W8:=by simpa using hz
    have HZ:=cT hz;clear hz P;go_wp2;go_ret;exact⟨O,cS bE⟩
end Hl
namespace Hl
open Go.RowKit Go.Shelf Go.Lib
open Go.ChangeShapes Go.WideShapes Go.ChangeAt
open Go.ChangeMaps (open_string shut_string)
theorem wQ(H:Type)(enc:TypeId × WS->H)(W:WR)(base:Nat)(args:Array WS)(M x:List (DataW H))(before:List MemPlace)(m:∀(j:Nat) t v,f4.params[j]?=some t->args[j]?=some v->Value.okWide prog W .any base t v)(i:DataW.Whole enc prog f4.params.toList Rows.fullSpec.vars false W args.toList M x before)(N:W.ShapedOpen prog)(hL:laidMet prog Rows.fullUptoRow.laid W)(s:Rows.uptoSmall H (M++x)=true):WT prog 4 args W λe r=>∃v,e=.returned v/\Rows.fullSpec.post enc prog f4 false true false false W args v r:=by
 have u:=i;obtain⟨p,q,A,hV,rfl,aa,ab⟩:=i;have o:DataW.TrodAll enc prog W 0 (λ_=>true) true f4.params.toList args.toList M p:=A;rw[params4] at o m;obtain⟨g,ad,d0,ae,p0,q0,P,rfl,rfl,h0,r0⟩:=trodAll_cons o;obtain⟨v1,af,d1,ag,p1,q1,rfl,rfl,rfl,h1,r1⟩:=trodAll_cons r0;obtain⟨v2,ah,d2,ai,p2,q2,rfl,rfl,rfl,h2,r2⟩:=trodAll_cons r1;obtain⟨v3,aj,d3,ak,p3,q3,rfl,rfl,rfl,h3,r3⟩:=trodAll_cons r2;obtain⟨rfl,rfl,rfl⟩:=trodAll_nil r3;obtain rfl:args=#[g,v1,v2,v3]:=by cases args;simp_all
 obtain⟨rfl,rfl⟩:=trodVars_none hV;obtain⟨a0,rfl,rfl,rfl,w0⟩:=open_string underlying9 (m 0 9 g rfl rfl) h0;obtain⟨a1,rfl,rfl,rfl,w1⟩:=open_string underlying9 (m 1 9 v1 rfl rfl) h1;obtain⟨f0,f1,f2,hu,_⟩:=qy;obtain⟨cs,rfl,an⟩:=okWide_struct hu (m 2 23 v2 rfl rfl);obtain⟨I,B,L,rfl⟩:=okWide_slice underlying39 (m 3 39 v3 rfl rfl);clear A;simp only[Vr,U2] at u s;obtain⟨k0,k1,k3⟩:=Ot s;have C:∀y∈p2++p3,y.block<W.heap.size:=λy F=>by
  have:=u.lt y (by simpa using F);simpa using this
 have s2:∀(r:WR),WQ W r->DataW.Trod enc prog r 0 (λb=>decide (b<W.heap.size)) true 23 (.agg cs) d2 p2:=λr G=>Below.trod laidOut (by kernel_rfl) (VI (by kernel_rfl)) h2 G (λy F=>C y (Vy _ F))
 have s3:∀(r:WR),WQ W r->DataW.Trod enc prog r 0 (λb=>decide (b<W.heap.size)) true 39 (.slice I B L) d3 p3:=λr G=>Below.trod laidOut (by kernel_rfl) (VI (by kernel_rfl)) h3 G (λy F=>C y (Vp _ F))
 obtain⟨_,g2⟩:=h2;obtain⟨_,g3⟩:=h3;obtain⟨x0,x1,x2,hx,i0,i1,i2⟩:=Aw g2;obtain⟨qp,n,c,l,hq,hQ,_,G⟩:=A2 g3;have hc:cs=#[.int .i64 x0,.int .i64 x1,.int .i64 x2]:=VV.1 hx;subst hc;obtain⟨rfl,rfl,rfl⟩:I=qp/\B=n/\L=c:=by
  have Q:[Value.slice I B L]=[.slice qp n c]:=hq;simpa using Q
 obtain⟨z,f,R⟩:=LV N hL;have T:B<=1048576:=Uc (Nat.le_of_succ_le G) k3;have V:a0.size<=1048576:=by rw[Va] at k0;exact k0
 have X:a1.size<=1048576:=by rw[Va] at k1;exact k1
 refine(LU a0 a1 x0 x1 x2 I B L l z f W R hQ T V X i0 i1 i2).mono λe r ⟨R,k⟩=>?_
 subst R;exact⟨_,rfl,_,_,_,[],_,[],u,trodAll_mk1 (shut_bool underlying4 _),Wu (shut_string underlying9 w0) (Wu (shut_string underlying9 w1) (Wu (s2 _ k) (Wu (s3 _ k) trodAll_mk0))),rfl,k.frame _,λh=>by cases h⟩
end Hl
section
open Go.RowKit Go.Shelf Go.Lib
theorem L4:((Rows.fullUptoRow.inPlace == prog.inPlace 4))=true:=by kernel_rfl
end
section
open Go.RowKit Go.Shelf Go.Lib
theorem Ha:((Rows.fullUptoRow.unfollowed == prog.unfollowed 4))=true:=by kernel_rfl
end
section
open Go.RowKit Go.Shelf Go.Lib
theorem H9:((Rows.fullUptoRow.recurses == prog.recurses 4))=true:=by kernel_rfl
end
section
open Go.RowKit Go.Shelf Go.Lib
theorem IF:((Rows.fullUptoRow.named == prog.varsNamed 4))=true:=by kernel_rfl
end
section
open Go.RowKit Go.Shelf Go.Lib
theorem KJ:(Rows.fullUptoRow.wf (OpenSpec.ofChange (Rows.OpenSpec.upto Rows.fullSpec).bare))=true:=by kernel_rfl
theorem Jj:(laidOutB prog)=true:=by kernel_rfl
theorem LM:(mapsRowed prog)=true:=by kernel_rfl
theorem Kx:(f4.params.all (prog.readableRec ·))=true:=by kernel_rfl
theorem Kh:(namedTie prog Rows.fullUptoRow.named (Rows.OpenSpec.upto Rows.fullSpec).bare.vars)=true:=by kernel_rfl
theorem Jc:((Rows.fullUptoRow.stops == []))=true:=by kernel_rfl
theorem Lx:((prog.stops == []))=true:=by kernel_rfl
theorem JF:((Rows.fullUptoRow.knobs == []))=true:=by kernel_rfl
theorem Jg:((prog.stopKnobs == []))=true:=by kernel_rfl
end
section
open Go.RowKit Go.Shelf Go.Lib
theorem GO:((Rows.fullUptoRow.maps == (f4.params.toList++(Rows.OpenSpec.upto Rows.fullSpec).bare.plain.varTypes prog).any (prog.mapsRec ·)))=true:=by kernel_rfl
theorem GP:((Rows.fullUptoRow.ifaces == (f4.params.toList++(Rows.OpenSpec.upto Rows.fullSpec).bare.plain.varTypes prog).any (prog.ifacesRec ·)))=true:=by kernel_rfl
theorem Gk:((Rows.fullUptoRow.mapsOut == prog.mapsAmong f4.resultTypes.toList))=true:=by kernel_rfl
theorem GA:((Rows.fullUptoRow.loops == (f4.params.toList++(Rows.OpenSpec.upto Rows.fullSpec).bare.plain.varTypes prog).any (prog.loopsFrom ·)))=true:=by kernel_rfl
theorem Hr:((Rows.fullUptoRow.wideKeys == (f4.params.toList++(Rows.OpenSpec.upto Rows.fullSpec).bare.plain.varTypes prog++f4.resultTypes.toList).any (prog.wideKeysFrom ·)))=true:=by kernel_rfl
theorem G4:((Rows.OpenSpec.upto Rows.fullSpec).bare.vars.all (prog.varReadable ·))=true:=by kernel_rfl
theorem Hw:(f4.resultTypes.all (λt=>prog.readableRec t&&decide (t<prog.types.size)))=true:=by kernel_rfl
theorem G5:((Rows.fullUptoRow.ifacesOut == f4.resultTypes.toList.any (prog.ifacesRec ·)))=true:=by kernel_rfl
theorem Gg:((Rows.fullUptoRow.loopsOut == f4.resultTypes.toList.any (prog.loopsFrom ·)))=true:=by kernel_rfl
theorem Ga:((Rows.fullUptoRow.plainKeys == prog.plainKeys))=true:=by kernel_rfl
theorem Ib:(Rows.fullUptoRow.shortTexts.isNone)=true:=by kernel_rfl
theorem Ix:(prog.stopsHeard)=true:=by kernel_rfl
theorem Hf:(prog.mayEnter)=true:=by kernel_rfl
theorem Hv:((Rows.fullUptoRow.lifted == prog.liftsFinal))=true:=by kernel_rfl
theorem IE:((prog.make == some Rows.fullUptoRow.make))=true:=by kernel_rfl
theorem GW:((Rows.fullUptoRow.kinds == (if Rows.fullUptoRow.domain.isEmpty then [] else f4.params.toList.map λt=>match prog.underlying t with | some (.int k)=>some k | _=>none)))=true:=by kernel_rfl
theorem Hg:((Rows.fullUptoRow.pinned == Rows.fullUptoRow.pinnedBy))=true:=by kernel_rfl
theorem Gs:((Rows.fullUptoRow.veiled == (f4.params.toList++(Rows.OpenSpec.upto Rows.fullSpec).bare.plain.varTypes prog++f4.resultTypes.toList).any (prog.veiledRec ·)))=true:=by kernel_rfl
theorem GQ:(Rows.fullUptoRow.veiledFits prog f4.params.toList (f4.params.toList++(Rows.OpenSpec.upto Rows.fullSpec).bare.plain.varTypes prog++f4.resultTypes.toList))=true:=by kernel_rfl
end
section
open Go.RowKit Go.Shelf Go.Lib
open Go.ChangeShapes Go.WideShapes Go.ChangeAt
theorem fJ{a b:Bool}(h1:a=true)(h2:b=true):(a&&b)=true:=by rw[h1,h2];rfl
theorem BS:joinedFacts prog 4 f4 (Rows.OpenSpec.upto Rows.fullSpec).bare Rows.fullUptoRow=true:=by
 unfold joinedFacts;exact fJ (fJ (fJ (fJ (fJ (fJ (fJ (fJ (fJ (fJ (fJ (fJ (fJ (fJ (fJ (fJ (fJ (fJ (fJ (fJ (fJ (fJ (fJ (fJ (fJ (fJ (fJ (fJ (fJ (fJ (fJ KJ Jj) LM) Kx) Kh) Jc) Lx) JF) Jg) L4) Ha) H9) IF) GO) GP) Gk) GA) Hr) G4) Hw) G5) Gg) Ga) Ib) Ix) Hf) Hv) IE) GW) Hg) Gs) GQ
theorem BH:prog.funcNamed Rows.fullUptoRow.func=some 4:=by kernel_rfl
theorem Eg:f4.isInstance prog Rows.fullUptoRow.origin Rows.fullUptoRow.targs:=VI (by kernel_rfl)
theorem CN:f4.isWrapper prog Rows.fullUptoRow.wrapper Rows.fullUptoRow.mainSum:=by unfold Func.isWrapper;first|(rw[T0 (by decide +kernel)];kernel_rfl)|(rw[TZ (by decide +kernel)];exact⟨rfl,rfl⟩)
end
section
open Go.RowKit Go.Shelf Go.Lib
open Go.ChangeShapes Go.WideShapes Go.ChangeAt
theorem Hm(os:Os)(H:Type)(enc:TypeId × WS->H):∃(w:WR) (tape:Tape) (i:Input),w.os=os/\(w.forCall tape i).Shaped prog/\i.vars=[]/\Input.okWide prog (w.forCall tape i) .any w.heap.size 4 i/\
   (Rows.OpenSpec.upto Rows.fullSpec).preRow enc prog f4 Rows.fullUptoRow.domain false Rows.fullUptoRow.laid (w.forCall tape i).memory i.args/\({ modest:=false }:Assume).holds prog (lone (Frame.enter prog 4 i.args .normal) [] (w.forCall tape i)):=by
 obtain⟨w,tape,i,b,e,j,l,m,r⟩:=ChangeSpec.witness_shaped (enc:=enc) (C:=Tryz.checked) (os:=os) (f:=4) (fn:=f4) (s:=Rows.fullSpec) (conds:=[]) (apart:=false)
  (X:=λw args=>(Rows.OpenSpec.upto Rows.fullSpec).preRow enc prog f4 Rows.fullUptoRow.domain false Rows.fullUptoRow.laid w args) false (World.laidAll prog os Rows.fullUptoRow.laid) #[.string ByteArray.empty,.string ByteArray.empty,.agg #[.int .i64 0,.int .i64 0,.int .i64 0],.slice none 0 0] 8 (World.laidAll_os _ _ _)
  (World.shaped_of_ZipB (by kernel_rfl) (by kernel_rfl)) (by kernel_rfl) (by kernel_rfl) (by kernel_rfl)
  (OpenSpec.preRow_of_cond 8 (x:=([.lit (.string []),.lit (.string []),.agg [.lit (.int .i64 0),.lit (.int .i64 0),.lit (.int .i64 0)],.nil],[],[])) (by kernel_rfl) (by kernel_rfl) (λk u=>by cases u;kernel_rfl) (by kernel_rfl)
    (by rw[MakeChecks.laidMetH_plain _ _ _ (by kernel_rfl)];exact laidMet_laidAll _ (by kernel_rfl) (by kernel_rfl)))
 exact⟨w,tape,i,b,e,j,l,m.1.2,r⟩
theorem yJ(os:Os)(started:os.Started)(H:Type)(enc:TypeId × WS->H)(F:Stop.Interp):ReturnsInHanded {} Tryz.checked os 4 .any ((Rows.OpenSpec.upto Rows.fullSpec).preRow enc prog f4 Rows.fullUptoRow.domain false Rows.fullUptoRow.laid) (((Rows.OpenSpec.upto Rows.fullSpec).at F).post enc prog f4 false true false false):=by
 refine returnsInHanded_of_row (C:=Tryz.checked) (s:=Rows.OpenSpec.upto Rows.fullSpec) own started (by kernel_rfl) func4 (Hm os H enc) ?_;intro W e args r u before j y _ b _ m l _;rw[MakeChecks.laidMetH_plain _ _ _ (by kernel_rfl)] at m;exact Hl.wQ H enc W e args r u before j y l m (b _ rfl)
theorem Di:Rows.FullUptoSaid:=OpenClaim.holds_of_cond 4 f4 rfl rfl rfl rfl rfl rfl rfl ⟨rfl,rfl,rfl,rfl,rfl⟩ rfl rfl rfl rfl rfl BH func4 BS Eg CN
  (λos started b enc _ F=>by rw[OpenClaim.pre_eq_preRow];exact yJ os started b enc F)
end
section
open Go.RowKit Go.Shelf Go.Lib
open Go.ChangeShapes Go.WideShapes Go.ChangeAt
theorem CZ:Rows.fullUptoRow.wfByText (Rows.OpenSpec.upto Rows.fullSpec)=true:=by kernel_rfl
theorem xh: prog.mainIs=some (true, "d2c0c49b9c7aaea3570b23a1e6caf723283f3c9a79cebd3c2472c06ae6dc3d91".toList) := by kernel_rfl
theorem wD:true=prog.looks []:=by kernel_rfl
theorem A9:([9,9,23,39].all λu=>!prog.wantsStandIn u)=true:=by kernel_rfl
theorem Eo:false=Rows.fullUptoRow.goesBy prog:=by kernel_rfl
theorem full_upto_card:Rows.FullUptoCardSaid:=Claim7.holds_tied_plain_at .later [] [.data, .data, .data, .data, .data, .sentinel, .sentinel, .sentinel, .pinned] true (true, "d2c0c49b9c7aaea3570b23a1e6caf723283f3c9a79cebd3c2472c06ae6dc3d91") true Di (λ_ h =>by cases h) CZ (λ_ h =>by cases h) fullUpto_row_tie rfl ⟨rfl, rfl⟩ xh rfl
  (λf l m b=>by
    obtain rfl:f=4:=Ut (BH.symm.trans m) |>.symm;obtain rfl:l=f4:=(Ut (func4.symm.trans b)).symm;exact⟨wD,λj t e=>by
     rw[params4] at e;have r:t∈[9,9,23,39]:=by simpa using Array.mem_of_getElem? e
     exact(show prog.wantsStandIn t=false by simpa using List.all_eq_true.1 A9 t r)⟩)
  Eo
end
end Go.Proofs.YtgkkdpegcieakaaGreatDoor
