import Derived.Test.YtgkkdpegcieakaaGreatDoorCw42
set_option linter.all false
set_option maxRecDepth 100000
set_option maxHeartbeats 16000000
namespace Go.Proofs.YtgkkdpegcieakaaGreatDoor
open Go.Proofs.Tryz
open Value renaming int→Z
open Bool renaming true→W8,false→W9
open IntKind renaming i64→Y
open Go renaming World→WR,Value→WS,Calls→WT
namespace Hl
open Go Sp
open Rd (Rk e0 dy Fl Ch)
open Pk (Sm)
open Ru (pd jd oo oT th Ac DJ oJ fG rz dz eh eK fx dR gB tf pH)
open Classical
theorem Ju{b:Jb}(e:b.Ok){j l:Bool}{y u:Nat}{R:Rk}(h:lh b j l y u R):y<=b.cap:=by
 obtain⟨C,F,G,hi,m⟩:=h;by_cases r:y=0
 .omega
 .obtain⟨z,A,I⟩:=m.g.now;obtain⟨_,_,c,B,_⟩:=z y (A r);exact(yl e B).1
theorem uB(b:Jb)(j l:Bool)(u:Nat){q:Int}(m:j=W8->q=1099511627776):lh b j l 0 u ⟨[],[],[],q,-1,W9⟩:=⟨[],[],[],⟨rfl,rfl,rfl,m,λ_=>⟨rfl,rfl⟩⟩,⟨⟨List.Pairwise.nil,λp e=>(by cases e),λp e=>(by cases e),λc r=>(by cases r)⟩,Vw.nil (λp e=>by cases e) ⟨λs y=>absurd rfl y,λh=>absurd rfl h,Ud _⟩⟩⟩
theorem Ca{P:Pg}{Es:List Ed}{cap keep da n dj:Nat}:∀(g s:Nat) (c:Cfg) (b:List Nat) (sv:Nat) (R:Rk),dj<s->∀o,o=rz P Es cap 1 keep da n dj g s c b sv R->o.e=0->o.res.outcome=1->o.saved+s=sv+o.res.step
 |0,s,c,b,sv,R,m,o,j,he,l=>by
  rw[rz] at j;subst j;exact absurd l (show ¬(0:Nat)=1 by decide)
 |g+1,s,c,b,sv,R,m,o,j,he,l=>by
  rw[rz] at j;split at j
  .subst j;rfl
  .split at j
   .subst j;exact absurd l (show ¬(2:Nat)=1 by decide)
   .rw[T0 ⟨m,Nat.mod_one s⟩] at j;split at j
    .rename_i h;subst j;exact absurd he h
    .split at j
     .rename_i h;subst j;exact absurd he h
     .split at j
      .subst j;exact absurd l (show ¬(3:Nat)=1 by decide)
      .have:=Ca g (s+1) _ _ (sv+1) _ (by omega) o j he l;omega
theorem Gv{P:Pg}{Es:List Ed}{cap keep da n:Nat}{g:Nat}{c:Cfg}{K:List Nat}{R:Rk}{o:Ru.Out}(b:o=rz P Es cap 1 keep da n 0 g 0 c K 0 R)(he:o.e=0)(h1:o.res.outcome=1)(j:quiet c 0=W9):o.saved+1=o.res.step:=by
 cases g with
 |zero =>
  rw[rz] at b;subst b;exact absurd h1 (show ¬(0:Nat)=1 by decide)
 |succ g =>
  rw[rz,TZ (by rw[j];decide)] at b;split at b
  .subst b;exact absurd h1 (show ¬(2:Nat)=1 by decide)
  .rw[TZ (by omega)] at b;split at b
   .subst b;exact absurd h1 (show ¬(3:Nat)=1 by decide)
   .have:=Ca g 1 _ _ 0 _ (by omega) o b he h1;omega
end Hl
namespace Hl
open Go Sp
def g0:WU:=⟨#[97,32,48,10,98,32,49,48,48,48,48,48,48,48,48,48,10,99,32,49,48,48,48,48,48,48,48,48,48,10,100,32,49,48,48,48,48,48,48,48,48,48,10,97,62,98,32,52,10,97,62,99,32,49,10,99,62,98,32,50]⟩
theorem PQ:zH g0=0:=by kernel_rfl
theorem QM:jx g0=[0,1000000000,1000000000,1000000000]:=by kernel_rfl
theorem QP:GL (Sp.ik fw) (jx g0) (pO g0) 10=⟨1,3,0,[0,3,1,1000000000]⟩:=by kernel_rfl
open Rd (Rk)
open Ru (pd jd oo oT th Ac DJ oJ fG rz eh dR)
open Classical
theorem Ep:pd g0 fw (1:Nat) (1:Nat) (10:Nat)=0:=by
 unfold pd iN;rw[TZ (show ¬zH g0≠0 by rw[PQ];simp),TZ (show ¬(Sp.comp fw).1≠0 by rw[Du];simp),TZ (by omega)]
theorem J9:quiet (fX (Sp.ik fw) (jx g0)) 0=W9:=by rw[QM];kernel_rfl
theorem EG(b:Small g0):oo g0 fw (1:Nat) (1:Nat) (10:Nat) ⟨[],[],[],1099511627776,-1,W9⟩=0/\(jd g0 fw (1:Nat) (1:Nat) (10:Nat) ⟨[],[],[],1099511627776,-1,W9⟩).e=0/\(jd g0 fw (1:Nat) (1:Nat) (10:Nat) ⟨[],[],[],1099511627776,-1,W9⟩).res=⟨1,3,0,[0,3,1,1000000000]⟩/\(jd g0 fw (1:Nat) (1:Nat) (10:Nat) ⟨[],[],[],1099511627776,-1,W9⟩).saved=2:=by
 have r:=se Ep b (uB (jb g0 fw 1 1 10) W8 W9 (cX g0 1) (q:=1099511627776) λ_=>O) O (λ_=>O);have y:=se Ep b (uB (jb g0 fw 1 1 10) W9 W9 (cX g0 1) (q:=1099511627776) λe=>by cases e) rfl (λ_=>rfl);have m:(jd g0 fw (1:Nat) (1:Nat) (10:Nat) ⟨[],[],[],1099511627776,-1,W9⟩).e=0:=by
  rcases r.2.2.1 with e|e
  .exact e
  .rcases y.2.2.1 with e2|e2
   .exact e2
   .rw[e] at e2;exact absurd e2 (by decide)
 have j:=r.2.2.2.2.1 m;rw[QP] at j;have u:(⟨[],[],[],1099511627776,-1,W9⟩:Rk).fD=[]:=rfl;have z:oT g0 fw 10 ⟨[],[],[],1099511627776,-1,W9⟩=[]:=by unfold oT Ru.fQ;rw[u];rfl
 obtain⟨A,e2⟩:=Ru.ze (g:=g0) (p:=fw) (every:=1) (keep:=1) (cap:=10) (Q:=⟨[],[],[],1099511627776,-1,W9⟩) Ep rfl z;refine⟨e2,m,j,?_⟩;have B:jd g0 fw (1:Nat) (1:Nat) (10:Nat) ⟨[],[],[],1099511627776,-1,W9⟩=rz (Sp.ik fw) (pO g0) 10 1 1 (oJ g0 fw 10) (jx g0).length 0 (10-0+1) 0 (fX (Sp.ik fw) (jx g0)) [] 0 ⟨[],[],[],1099511627776,-1,W9⟩:=by
  rw[A];unfold DJ Ac;rw[u,T0 rfl];have l:eh (⟨[],[],[],1099511627776,-1,W9⟩:Rk) (dR [] (List.drop (([]:List Nat).length-1) []))=(0,⟨[],[],[],1099511627776,-1,W9⟩):=rfl;rw[l,TZ (by simp)]
  rfl
 have l:=Gv B m (by rw[j]) J9;rw[j] at l;exact Nat.succ.inj l
end Hl
namespace Hl
open Go Sp
open Rd (Rk)
open Pk (Sm)
open Ru (pd jd oo fG)
open Classical
def fD(dj sv every:Nat):Nat:=if sv=0 then dj else (dj/every+sv)*every
structure Cf (every keep cap:Nat):Prop where
 e1:1<=every
 e2:every<=50
 k1:1<=keep
 k2:keep<=5
 c:cap<=200
theorem xX{g p:WU}{every keep cap:Nat}(h:Cf every keep cap):pd g p every keep cap=kZ g p cap:=by
 obtain⟨j,l,m,r,u⟩:=h;unfold pd iN kZ;by_cases b:zH g=0
 .by_cases e:(Sp.comp p).1=0
  .simp only[b,e,ne_eq,not_true,Vg];rw[TZ (by omega),TZ (by omega)]
  .simp only[b,ne_eq,not_true,Vg,e,not_false_eq_true,UL]
 .simp only[b,ne_eq,not_false_eq_true,UL]
theorem C6(q:Int):Sm ⟨[],[],[],q,-1,W9⟩ 0 0:=⟨TY _,TY _,λf b=>(by cases b),λf b=>(by cases b),λf b=>(by cases b)⟩
end Hl
namespace Hl
open Go Sp
open Rd (Rk)
open Pk (Sm)
open Ru (pd jd oo fG)
open Classical
structure He (g p:WU) (every keep cap i y:Nat) (R:Rk):Prop where
 sm:Sm R (8*(i+y)) 1000
 ch:R.dW=[]
 dn:R.down=W9
 lf:R.left = -1
 ok:kZ g p cap=0->lh (jb g p every keep cap) W8 W8 y (cX g keep) R
 no:kZ g p cap≠0->y=0/\R.safe=[]
theorem He.new(g p:WU)(every keep cap:Nat):He g p every keep cap 0 0 ⟨[],[],[],1099511627776,-1,W9⟩:=⟨(C6 _).mono (by omega) (by omega),O,O,O,λ_=>uB _ W8 W8 _ λ_=>O,λ_=>⟨O,O⟩⟩
theorem He.y{g p:WU}{every keep cap i y:Nat}{R:Rk}(l:Cf every keep cap)(b:Small g)(h:He g p every keep cap i y R):y<=200:=by
 by_cases e:kZ g p cap=0
 .have j:=E5 (g:=g) (p:=p) (by rw[xX l];exact e) b;exact Uc (Ju j (h.ok e)) j.cap
 .have:=(h.no e).1;omega
theorem Sm.arm{R:Rk}{n b:Nat}(h:Sm R n b)(k:Int):Sm (R.arm k) n b:=⟨h.dir,h.fn,h.file,h.ns,h.nc⟩
end Hl
end Go.Proofs.YtgkkdpegcieakaaGreatDoor
