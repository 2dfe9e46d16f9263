import Derived.Test.YtgkkdpegcieakaaGreatDoorCz40
set_option linter.unusedVariables false
set_option linter.unusedSimpArgs false
set_option maxRecDepth 100000
set_option maxHeartbeats 16000000
namespace Go.Proofs.YtgkkdpegcieakaaGreatDoor
open Go.Proofs.Tryz
open Value renaming int→Z
open IntKind renaming i64→Y
open Go renaming World→TJ,Value→TK,Calls→TL
namespace Hl
open Go Sp
open Rd (Rk e0 dp Fl Ch)
open Pk (Sm)
open Ru (qF j5 qG pL tr Af Ek pQ fU rz dz eg eK fE dO gz ux rq)
open Classical
variable {n cX keep cap:Nat}{P:Pg}{Es:List Ed}
theorem Cw{every de b:Nat}(j:n<=64)(hb:1000<=b): ∀(g s:Nat) (c:Cfg) (K:List Nat) (sv:Nat) (R:Rk) (nn:Nat),Sm R nn b->∃k,(rz P Es cap every keep cX n de g s c K sv R).saved=sv+k/\Sm (rz P Es cap every keep cX n de g s c K sv R).R (nn+8*(k+1)) b
 |0,s,c,K,sv,R,nn,h=>by rw[rz];exact⟨0,rfl,h.mono (by omega) TG⟩
 |g+1,s,c,K,sv,R,nn,h=>by
  have l:Sm R (nn+8*(0+1)) b:=h.mono (by omega) TG;have r:Sm (eg R (eK c n s cX)).2 (nn+8) b:=(gz.save c n s cX h j hb).all;have m:Sm (eg (eg R (eK c n s cX)).2 (fE ((K++[s]).take (K.length+1-keep)))).2 (nn+8) b:=(gz.tt (λo u=>(ux _ o u).1) r).all;rw[rz];split
  .exact⟨0,rfl,l⟩
  .split
   .exact⟨0,rfl,l⟩
   .split
    .split
     .exact⟨0,rfl,r⟩
     .split
      .exact⟨1,rfl,m.mono (by omega) TG⟩
      .split
       .exact⟨1,rfl,m.mono (by omega) TG⟩
       .obtain⟨k,e,y⟩:=Cw j hb g (s+1) _ _ (sv+1) _ _ m;exact⟨k+1,by rw[e];omega,y.mono (by omega) TG⟩
    .split
     .exact⟨0,rfl,l⟩
     .exact Cw j hb g _ _ _ _ _ _ h
variable {R:Rk}
theorem L2{g p:TM}{every keep cap:Int}{nn b:Nat}(h:Sm R nn b)(l:Small g)(hb:1000<=b): Sm (j5 g p every keep cap R).R (nn+8*((j5 g p every keep cap R).saved+1)) b:=by
 have r:Sm R (nn+8*(0+1)) b:=h.mono (by omega) TG;unfold j5;split
 .exact r
 .rename_i m;have m:qF g p every keep cap=0:=by simpa using m
  split
  .exact r
  .obtain⟨u,D,E,F⟩:=Ru.rS m;obtain⟨y,z⟩:=Ru.ji u;have A:=(qw y z l).1;unfold Ek;have j:Sm (eg R (dO R.fH ((pL g p cap.toNat R).drop ((pL g p cap.toNat R).length-keep.toNat)))).2 nn b:=(gz.tt (λo B=>(rq _ _ o B).1) h).all;split
   .exact j.mono (by omega) TG
   .obtain⟨k,e,C⟩:=Cw (every:=every.toNat) (keep:=keep.toNat) (P:=Sp.iw p) (Es:=pz g) (cap:=cap.toNat) (cX:=pQ g p cap.toNat) (de:=tr (pL g p cap.toNat R)) A.FR hb ((cap.toNat-tr (pL g p cap.toNat R))+1) (tr (pL g p cap.toNat R)) (Af g p (pL g p cap.toNat R) R) ((pL g p cap.toNat R).drop ((pL g p cap.toNat R).length-keep.toNat)) 0 _ nn j;rw[e,eW];exact C
theorem My{J:Jb}(b:J.Ok){e j:Bool}{y u:Nat}(h:jA J e j y u R): y<=J.cap:=by
 obtain⟨B,C,D,hi,l⟩:=h;by_cases m:y=0
 .omega
 .obtain⟨r,z,E⟩:=l.g.now;obtain⟨_,_,c,A,_⟩:=r y (z m);exact(xY b A).1
theorem yE(J:Jb)(e j:Bool)(u:Nat){q:Int}(l:e=true->q=1099511627776):jA J e j 0 u ⟨[],[],[],q,-1,false⟩:=⟨[],[],[],⟨rfl,rfl,rfl,l,λ_=>⟨rfl,rfl⟩⟩,⟨⟨List.Pairwise.nil,λp b=>(by cases b),λp b=>(by cases b),λc m=>(by cases m)⟩,Vw.nil (λp b=>by cases b) ⟨λs r=>absurd rfl r,λh=>absurd rfl h,cy _⟩⟩⟩
theorem F5{J:Jb}{y u:Nat}(h:jA J false false y u R)(q:Int): jA J false false y u { R with cT:=q }:=by
 obtain⟨j,l,m,hi,r⟩:=h;exact⟨j,l,m,⟨hi.f,hi.s,hi.c,λe=>(by cases e),hi.b⟩,r⟩
theorem Au{de:Nat}: ∀(g s:Nat) (c:Cfg) (K:List Nat) (sv:Nat) (R:Rk),de<s->∀o,o=rz P Es cap 1 keep cX n de g s c K sv R->o.e=0->o.res.outcome=1->o.saved+s=sv+o.res.step
 |0,s,c,K,sv,R,l,o,b,he,j=>by
  rw[rz] at b;subst b;exact absurd j (show ¬(0:Nat)=1 by decide)
 |g+1,s,c,K,sv,R,l,o,b,he,j=>by
  rw[rz] at b;split at b
  .subst b;rfl
  .split at b
   .subst b;exact absurd j (show ¬(2:Nat)=1 by decide)
   .rw[cg ⟨l,Nat.mod_one s⟩] at b;split at b
    .rename_i h;subst b;exact absurd he h
    .split at b
     .rename_i h;subst b;exact absurd he h
     .split at b
      .subst b;exact absurd j (show ¬(3:Nat)=1 by decide)
      .have:=Au g (s+1) _ _ (sv+1) _ (by omega) o b he j;omega
theorem FE{g:Nat}{c:Cfg}{K:List Nat}{o:Ru.Out}(b:o=rz P Es cap 1 keep cX n 0 g 0 c K 0 R)(he:o.e=0)(h1:o.res.outcome=1)(j:quiet c 0=false): o.saved+1=o.res.step:=by
 cases g with
 |zero =>
  rw[rz] at b;subst b;exact absurd h1 (show ¬(0:Nat)=1 by decide)
 |succ g =>
  rw[rz,cd (by rw[j];decide)] at b;split at b
  .subst b;exact absurd h1 (show ¬(2:Nat)=1 by decide)
  .rw[cd (by omega)] at b;split at b
   .subst b;exact absurd h1 (show ¬(3:Nat)=1 by decide)
   .have:=Au g 1 _ _ 0 _ (by omega) o b he h1;omega
end Hl
namespace Hl
open Go Sp
def g0:TM:=⟨#[97,32,48,10,98,32,49,48,48,48,48,48,48,48,48,48,10,99,32,49,48,48,48,48,48,48,48,48,48,10,100,32,49,48,48,48,48,48,48,48,48,48,10,97,62,98,32,52,10,97,62,99,32,49,10,99,62,98,32,50]⟩
theorem Ox:yc g0=0:=by kernel_rfl
theorem NU:kM g0=[0,1000000000,1000000000,1000000000]:=by kernel_rfl
theorem OD:Fw (Sp.iw ft) (kM g0) (pz g0) 10=⟨1,3,0,[0,3,1,1000000000]⟩:=by kernel_rfl
open Rd (Rk)
open Ru (qF j5 qG pL tr Af Ek pQ fU rz eg dO)
open Classical
theorem CO:qF g0 ft (1:Nat) (1:Nat) (10:Nat)=0:=by
 unfold qF gP;rw[cd (show ¬yc g0≠0 by rw[Ox];simp),cd (show ¬(Sp.comp ft).1≠0 by rw[BP];simp),cd (by omega)]
theorem J9:quiet (fS (Sp.iw ft) (kM g0)) 0=false:=by rw[NU];kernel_rfl
theorem DL(b:Small g0):qG g0 ft (1:Nat) (1:Nat) (10:Nat) ⟨[],[],[],1099511627776,-1,false⟩=0/\(j5 g0 ft (1:Nat) (1:Nat) (10:Nat) ⟨[],[],[],1099511627776,-1,false⟩).e=0/\(j5 g0 ft (1:Nat) (1:Nat) (10:Nat) ⟨[],[],[],1099511627776,-1,false⟩).res=⟨1,3,0,[0,3,1,1000000000]⟩/\(j5 g0 ft (1:Nat) (1:Nat) (10:Nat) ⟨[],[],[],1099511627776,-1,false⟩).saved=2:=by
 have r:=qH CO b (yE (jb g0 ft 1 1 10) true false (cU g0 1) (q:=1099511627776) λ_=>rfl) rfl (λ_=>rfl);have y:=qH CO b (yE (jb g0 ft 1 1 10) false false (cU g0 1) (q:=1099511627776) λe=>by cases e) rfl (λ_=>rfl);have m:(j5 g0 ft (1:Nat) (1:Nat) (10:Nat) ⟨[],[],[],1099511627776,-1,false⟩).e=0:=by
  rcases r.2.2.1 with e|e
  .exact e
  .rcases y.2.2.1 with e2|e2
   .exact e2
   .rw[e] at e2;exact absurd e2 (by decide)
 have j:=r.2.2.2.2.1 m;rw[OD] at j;have u:(⟨[],[],[],1099511627776,-1,false⟩:Rk).fH=[]:=rfl;have z:pL g0 ft 10 ⟨[],[],[],1099511627776,-1,false⟩=[]:=by unfold pL Ru.fT;rw[u];rfl
 obtain⟨A,e2⟩:=Ru.yY (g:=g0) (p:=ft) (every:=1) (keep:=1) (cap:=10) (Q:=⟨[],[],[],1099511627776,-1,false⟩) CO rfl z;refine⟨e2,m,j,?_⟩;have B:j5 g0 ft (1:Nat) (1:Nat) (10:Nat) ⟨[],[],[],1099511627776,-1,false⟩=rz (Sp.iw ft) (pz g0) 10 1 1 (pQ g0 ft 10) (kM g0).length 0 (10-0+1) 0 (fS (Sp.iw ft) (kM g0)) [] 0 ⟨[],[],[],1099511627776,-1,false⟩:=by
  rw[A];unfold Ek Af;rw[u,cg rfl];have l:eg (⟨[],[],[],1099511627776,-1,false⟩:Rk) (dO [] (List.drop (([]:List Nat).length-1) []))=(0,⟨[],[],[],1099511627776,-1,false⟩):=rfl;rw[l,cd (by simp)]
  rfl
 have l:=FE B m (by rw[j]) J9;rw[j] at l;exact Nat.succ.inj l
end Hl
namespace Hl
open Go Sp
open Rd (Rk)
open Pk (Sm)
open Ru (qF j5 qG fU)
open Classical
def fH(de sv every:Nat):Nat:=if sv=0 then de else (de/every+sv)*every
variable {every de:Nat}
theorem Jk{sv:Nat}(h:de%every=0): fH de sv every=(de/every+sv)*every:=by
 unfold fH;split
 .rename_i e;have:=Nat.div_add_mod de every;rw[h,ub,M7] at this;rw[e,ub,this]
 .rfl
theorem N4{sv:Nat}(he:1<=every)(h:de%every=0): de+sv<=fH de sv every:=by
 rw[Jk h,Nat.add_mul];have b:=Nat.div_add_mod de every;rw[h,ub,M7] at b;have e:sv*1<=sv*every:=Nat.mul_le_mul_left _ he;omega
structure Cf (every keep cap:Nat):Prop where
 e1:1<=every
 e2:every<=50
 k1:1<=keep
 k2:keep<=5
 c:cap<=200
variable {p g:TM}{keep cap:Nat}
theorem AE(h:Cf every keep cap): qF g p every keep cap=mH g p cap:=by
 obtain⟨j,l,m,r,u⟩:=h;unfold qF gP mH;by_cases b:yc g=0
 .by_cases e:(Sp.comp p).1=0
  .simp only[b,e,ne_eq,not_true,yI];rw[cd (by omega),cd (by omega)]
  .simp only[b,ne_eq,not_true,yI,e,not_false_eq_true,l9]
 .simp only[b,ne_eq,not_false_eq_true,l9]
variable {R:Rk}
theorem N8(h:qF g p every keep cap≠0): j5 g p every keep cap R=⟨fU,0,qF g p every keep cap,R⟩/\qG g p every keep cap R=0:=by
 unfold j5 qG;rw[cg h,cg h];exact⟨rfl,rfl⟩
theorem ND(h:mH g p cap=0): fQ g p cap=Fw (Sp.iw p) (kM g) (pz g) cap:=by
 unfold fQ;rw[cg h,Qq]
theorem KL(h:mH g p cap≠0): fQ g p cap=fU:=by
 unfold fQ;rw[cd h];rfl
structure Fu (g p:TM) (every keep cap i y:Nat) (R:Rk):Prop where
 sm:Sm R (8*(i+y)) 1000
 lf:R.left = -1
 dn:R.down=false
 ok:mH g p cap=0->jA (jb g p every keep cap) false false y (cU g keep) R
 no:mH g p cap≠0->y=0
theorem Sm.tQ{n b:Nat}(h:Sm R n b)(q:Int): Sm { R with cT:=q } n b:=⟨h.dir,h.fn,h.file,h.ns,h.nc⟩
theorem JJ(q:Int):Sm ⟨[],[],[],q,-1,false⟩ 0 0:=⟨b7 _,b7 _,λf b=>(by cases b),λf b=>(by cases b),λf b=>(by cases b)⟩
theorem Fu.new(g p:TM)(every keep cap:Nat)(q:Int):Fu g p every keep cap 0 0 ⟨[],[],[],q,-1,false⟩:=⟨(JJ q).mono (by omega) (by omega),rfl,rfl,λ_=>yE _ false false _ λe=>(by cases e),λ_=>rfl⟩
theorem Fu.y{i y:Nat}(l:Cf every keep cap)(b:Small g)(h:Fu g p every keep cap i y R): y<=200:=by
 by_cases e:mH g p cap=0
 .have j:=J0 (g:=g) (p:=p) (by rw[AE l];exact e) b;exact cx (My j (h.ok e)) j.cap
 .have:=h.no e;omega
theorem Fu.round{i y:Nat}(l:Cf every keep cap)(j:Small g)(h:Fu g p every keep cap i y R)(q:Int){o:Ru.Out}(m:o=j5 g p every keep cap { R with cT:=q })(B:de=qG g p every keep cap { R with cT:=q }):((o.e=mH g p cap/\o.res=fQ g p cap)\/(o.e=12/\mH g p cap=0/\o.res=fU))/\(mH g p cap=0->y<=de)/\(de<=200/\o.saved<=200)/\Fu g p every keep cap (i+1) (fH de o.saved every) o.R/\(q=1099511627776->o.e=mH g p cap):=by
 have r:=L2 (g:=g) (p:=p) (every:=every) (keep:=keep) (cap:=cap) (Sm.tQ h.sm q) j (by omega);rw[<-m] at r;by_cases e:mH g p cap=0
 .have u:qF g p every keep cap=0:=by rw[AE l];exact e
  have I:=J0 u j;have J:=F5 (h.ok e) q;obtain⟨K,C,D,A,L,M⟩:=qH u j J h.dn (λe=>by cases e);rw[<-B,<-m] at A;rw[<-B] at K C;rw[<-m] at D L M;have S:=Jk (sv:=o.saved) C;have T:=N4 (sv:=o.saved) l.e1 C;rw[<-S] at A;have N:=cx (My I A) I.cap;have U:fH de o.saved every<=200:=N;obtain⟨E,F,G,hi,H⟩:=A;refine⟨?_,λ_=>K,⟨by omega,by omega⟩,⟨r.mono (by omega) TG,(hi.b rfl).1,(hi.b rfl).2,λ_=>⟨E,F,G,hi,H⟩,λz=>absurd e z⟩,λV=>?_⟩
  .rcases D with e3|e3
   .exact Or.inl ⟨by rw[e3,e],by rw[L e3,ND e]⟩
   .exact Or.inr ⟨e3,e,M (by rw[e3];decide)⟩
  .have W:jA (jb g p every keep cap) true false y (cU g keep) { R with cT:=q }:=by
    obtain⟨E,F,G,hi,H⟩:=J;exact⟨E,F,G,⟨hi.f,hi.s,hi.c,λ_=>V,λe=>(by cases e)⟩,H⟩
   obtain⟨_,_,O,_⟩:=qH u j W h.dn (λe=>by cases e);rw[<-m] at O;rw[e];rcases D with e3|e3
   .exact e3
   .rcases O with e7|e7
    .exact e7
    .rw[e3] at e7;exact absurd e7 (by decide)
 .have u:qF g p every keep cap≠0:=by rw[AE l];exact e
  obtain⟨P,Q⟩:=N8 (R:={ R with cT:=q }) u;rw[<-m] at P;rw[<-B] at Q;have N:=h.no e;subst P Q;refine⟨Or.inl ⟨AE l,(KL e).symm⟩,λz=>absurd z e,⟨by omega,cy _⟩,⟨?_,h.lf,h.dn,λz=>absurd z e,λ_=>rfl⟩,λ_=>AE l⟩;exact(Sm.tQ h.sm q).mono (by omega) TG
end Hl
end Go.Proofs.YtgkkdpegcieakaaGreatDoor
