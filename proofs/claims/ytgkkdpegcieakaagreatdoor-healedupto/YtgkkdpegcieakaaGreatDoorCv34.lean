import Derived.Test.YtgkkdpegcieakaaGreatDoorCv33
set_option linter.all false
set_option maxRecDepth 100000
set_option maxHeartbeats 0
namespace Go.Proofs.YtgkkdpegcieakaaGreatDoor
open Go.Proofs.Tryz
open Value renaming int→Z
open Option renaming none→U,some→S
open Bool renaming true→We,false→Wg
open Or renaming inl→Wh,inr→Wi
open List renaming length→Wn
open IntKind renaming i64→Y
open Go renaming World→V5,Value→V6,Calls→V7
namespace Hl
open Go Sp
open Rd (Rk e0 dx Fl Ch ap wo)
open Ru (rz fO Out dz ep eM fF dU eR drop1 m7 n9 tN nm vB mB kB)
structure Jb where
 P:Pg
 Es:List Ed
 vs:List Int
 cap:Nat
 every:Nat
 keep:Nat
 dd:Nat
def Jb.at'(b:Jb):Nat->Option Cfg
 |0=>S (fX b.P b.vs)
 |s+1=>match b.at' s with
  |none=>U
  |some c=>if quiet c s=We\/b.cap<=s then U else match lK b.P b.Es c s (Wn b.vs) with
   |.error _=>U
   |.ok a=>S (fi b.P (Wn b.vs) a)
structure Jb.Ok (J:Jb):Prop where
 dd:iM J.P J.Es (Wn J.vs)
 num:∀x n,number x=S n->i64 n
 vs:∀x∈J.vs,i64 x
 cap:J.cap<=200
 every:1<=J.every
 keep:1<=J.keep/\J.keep<=5
theorem EG{b:Jb}{s:Nat}{j:Cfg}(h:b.at' (s+1)=S j):∃c a,b.at' s=S c/\quiet c s=Wg/\s<b.cap/\lK b.P b.Es c s (Wn b.vs)=.ok a/\j=fi b.P (Wn b.vs) a:=by
 rw[Jb.at'] at h;split at h
 .cases h
 .rename_i c m;split at h
  .cases h
  .rename_i l;split at h
   .cases h
   .rename_i a r;injection h with h;refine⟨c,a,m,?_,?_,r,h.symm⟩
    .cases hh:quiet c s with
     |false=>rfl
     |true=>exact absurd (Wh hh) l
    .exact Nat.lt_of_not_le λe=>l (Wi e)
theorem uB{b:Jb}{s:Nat}{c:Cfg}{a:Acc}(h:b.at' s=S c)(j:¬quiet c s=We)(l:¬b.cap<=s)(ha:lK b.P b.Es c s (Wn b.vs)=.ok a):b.at' (s+1)=S (fi b.P (Wn b.vs) a):=by
 rw[Jb.at',h]
 show (if quiet c s=We\/b.cap<=s then U else _)=_
 rw[Tf (λe=>e.elim j l),ha]
theorem xP{b:Jb}(e:b.Ok):∀{s:Nat} {c:Cfg},b.at' s=S c->s<=b.cap/\eY (Wn b.vs) c
 |0,c,h=>by
  injection h with h;subst h;exact⟨Tp _,qU _ _ e.vs⟩
 |s+1,c,h=>by
  obtain⟨u,a,j,y,l,m,rfl⟩:=EG h;have r:=xP e j;have:=e.cap;exact⟨l,qP e.dd (sT e.dd e.num r.2 (by omega) _ V2 a m)⟩
theorem Ie{b:Jb}(e:b.Ok):∀{s:Nat} {c:Cfg},b.at' s=S c->FV b.P b.vs b.Es b.cap=Cu b.P b.Es b.cap (b.cap-s+1) s c
 |0,c,h=>by
  injection h with h;subst h
  rfl
 |s+1,c,h=>by
  obtain⟨u,a,j,l,y,m,rfl⟩:=EG h;have r:=xP e j;rw[Ie e j,Cu,Tf (by rw[l];decide),Tf (by omega),r.2.lv,m]
  show Cu b.P b.Es b.cap (b.cap-s) (s+1) _=_
  rw[show b.cap-s=b.cap-(s+1)+1 by omega]
theorem Dj{b:Jb}(y:b.Ok){dp:Nat}:∀(g s:Nat) (c:Cfg) (K:List Nat) (sv:Nat) (R:Rk),b.at' s=S c->
  ((rz b.P b.Es b.cap b.every b.keep b.dd (Wn b.vs) dp g s c K sv R).e=0->(rz b.P b.Es b.cap b.every b.keep b.dd (Wn b.vs) dp g s c K sv R).res=Cu b.P b.Es b.cap g s c)/\((rz b.P b.Es b.cap b.every b.keep b.dd (Wn b.vs) dp g s c K sv R).e≠0->(rz b.P b.Es b.cap b.every b.keep b.dd (Wn b.vs) dp g s c K sv R).res=fO)
 |0,s,c,K,sv,R,h=>by rw[rz];exact⟨λ_=>O,λh=>absurd O h⟩
 |g+1,s,c,K,sv,R,h=>by
  have z:=(xP y h).2.lv;have m:∀(x:Nat) (e:Int) (Q:Rk) (r:Sp.nG),e≠0->((⟨fO,x,e,Q⟩:Ru.Out).e=0->(⟨fO,x,e,Q⟩:Ru.Out).res=r)/\((⟨fO,x,e,Q⟩:Ru.Out).e≠0->(⟨fO,x,e,Q⟩:Ru.Out).res=fO):=λx e Q r u=>⟨λB=>absurd B u,λ_=>O⟩
  rw[rz,Cu];by_cases j:quiet c s=We
  .rw[Tg j,Tg j];exact⟨λ_=>O,λh=>absurd O h⟩
  rw[Tf j,Tf j];by_cases l:b.cap<=s
  .rw[Tg l,Tg l];exact⟨λ_=>O,λh=>absurd O h⟩
  rw[Tf l,Tf l,z];split
  .split
   .rename_i u;exact m _ _ _ _ u
   .split
    .rename_i u;exact m _ _ _ _ u
    .cases A:lK b.P b.Es c s (Wn b.vs) with
     |error i=>exact⟨λ_=>rfl,λh=>absurd rfl h⟩
     |ok a=>exact Dj y g _ _ _ _ _ (uB h j l A)
  .cases A:lK b.P b.Es c s (Wn b.vs) with
   |error i=>exact⟨λ_=>rfl,λh=>absurd rfl h⟩
   |ok a=>exact Dj y g _ _ _ _ _ (uB h j l A)
end Hl
namespace Hl
open Go Sp
open Rd (Rk e0 dx Fl Ch ap wo keyed nj)
open Ru (rz fO Out dz ep eM fF dU eR drop1 m7 n9 tN nm vB mB kB Oq)
abbrev d0:Fl:=⟨e0,0⟩
def Qt(N:Nat)(fs:List Fl)(i:Nat)(B:V8):Prop:=i<N/\fs.getD i d0=⟨B,B.size⟩
def Jb.vF(b:Jb)(c:Cfg):V8:=dt (vB c (Wn b.vs))
def Jb.mF(b:Jb)(c:Cfg):V8:=dt (mB c (Wn b.vs))
def Jb.kF(b:Jb)(s:Nat)(c:Cfg):V8:=dt (kB s c.all b.dd (gW (b.vF c)) (gW (b.mF c)))
structure Jb.Sn (J:Jb) (N:Nat) (fs:List Fl) (f:V8->Option Nat) (s:Nat) (c:Cfg):Prop where
 v:∃i,f (nm 118 s)=S i/\Qt N fs i (J.vF c)
 m:∃i,f (nm 109 s)=S i/\Qt N fs i (J.mF c)
 k:∃i,f (nm 99 s)=S i/\Qt N fs i (J.kF s c)
def Jb.G(b:Jb)(N:Nat)(fs:List Fl)(f:V8->Option Nat):Prop := ∀s,f (nm 99 s)≠U->0<s/\s%b.every=0/\∃c,b.at' s=S c/\b.Sn N fs f s c
variable {fs' fs:List Fl}{N' i:Nat}
theorem Qt.mono{N:Nat}{B:V8}(h:Qt N fs i B)(b:N<=N')(e:∀j,j<N->fs'.getD j d0=fs.getD j d0): Qt N' fs' i B:=⟨TI h.1 b,(e i h.1).trans h.2⟩
variable {s:Nat}{f' f:V8->Option Nat}
theorem Jb.Sn.mono{l:Jb}{N:Nat}{c:Cfg}(h:l.Sn N fs f s c)(m:N<=N')(r:∀j,j<N->fs'.getD j d0=fs.getD j d0)(h1:f' (nm 118 s)=f (nm 118 s))(h2:f' (nm 109 s)=f (nm 109 s))(u:f' (nm 99 s)=f (nm 99 s)): l.Sn N' fs' f' s c:=by
 obtain⟨⟨i,a,b⟩,⟨j,c,d⟩,⟨k,e,g⟩⟩:=h;exact⟨⟨i,h1.trans a,b.mono m r⟩,⟨j,h2.trans c,d.mono m r⟩,⟨k,u.trans e,g.mono m r⟩⟩
theorem Jb.G.mono{l:Jb}{N:Nat}(h:l.G N fs f)(m:N<=N')(r:∀j,j<N->fs'.getD j d0=fs.getD j d0): l.G N' fs' f:=λs u=>by
 obtain⟨a,b,c,d,e⟩:=h s u;exact⟨a,b,c,d,e.mono m r O O O⟩
variable {a:V8}
theorem Jb.G.off{j:Jb}{N:Nat}(h:j.G N fs f)(m:∀b,b≠a->f' b=f b)(u:∀s,a=nm 118 s->f' (nm 99 s)=U)(A:∀s,a=nm 109 s->f' (nm 99 s)=U)(B:∀s,a=nm 99 s->f' a=U): j.G N fs f':=λs l=>by
 have C:nm 99 s≠a:=λe=>l (by rw[e];exact B s e.symm)
 have r:=m _ C;obtain⟨x,y,c,z,e⟩:=h s (by rw[<-r];exact l);exact⟨x,y,c,z,e.mono V2 (λ_ _=>O) (m _ λe=>l (u s e.symm)) (m _ λe=>l (A s e.symm)) r⟩
theorem jC{c d:UInt8}{t:Nat}(h:c≠d): nm c s≠nm d t:=λe=>h (Ru.sF e).1
theorem nC(c:UInt8)(s:Nat):nm c s≠tN:=λe=>by
 have h:=congrArg ByteArray.size e;rw[Ru.jU] at h;have:tN.size=1:=rfl;omega
theorem Jb.G.add{j:Jb}{N:Nat}{c:Cfg}(h:j.G N fs f)(l:∀b,b≠nm 99 s->b≠tN->f' b=f b)(m:0<s)(r:s%j.every=0)(B:j.at' s=S c)(u:j.Sn N fs f' s c): j.G N fs f':=λt C=>by
 by_cases e:t=s
 .subst e;exact⟨m,r,c,B,u⟩
 .have A:=l (nm 99 t) (λh=>e (Ru.sF h).2) (nC _ _);obtain⟨x,y,c,z,k⟩:=h t (by rw[<-A];exact C);exact⟨x,y,c,z,k.mono V2 (λ_ _=>O) (l _ (jC (by decide)) (nC _ _)) (l _ (jC (by decide)) (nC _ _)) A⟩
def nw(sf:Sd.Tb)(cs:List Ch):Sd.Tb:=cs.foldl ap (wo sf e0)
theorem Lq(R:Rk):R.now=nw R.safe R.dX:=by unfold Rk.now Rk.dir nw;rw[Ut]
theorem jQ(sf:Sd.Tb)(cs:List Ch)(c:Ch):nw sf (cs++[c])=ap (nw sf cs) c:=by unfold nw;rw[VA];rfl
theorem r8(L:Sd.Tb)(c:Ch)(y:V8):dx (ap L c) y=if y=c.comes then (if c.comes=e0 then U else S c.file) else if y=c.goes then U else dx L y:=by
 unfold ap;split
 .rw[Rd.jL,Rd.jL]
 .rw[Rd.xF _ _ _ _ (by rw[Rd.jL,Tg rfl]),Rd.jL,Rd.jL];by_cases e:y=c.comes
  .rw[Tg e,Tg e]
  .rw[Tf e,Tf e,Tf e]
def Vw(md:Bool)(sf:Sd.Tb)(cs:List Ch)(p:Sd.Tb->Prop):Prop := ∀k,k<=Wn cs->(md=We\/k=Wn cs)->p (nw sf (cs.take k))
variable {sf:Sd.Tb}{vb:Bool}{cs:List Ch}{p:Sd.Tb->Prop}
theorem Vw.snoc{c:Ch}(h:Vw vb sf cs p)(j:p (ap (nw sf cs) c)): Vw vb sf (cs++[c]) p:=λk l b=>by
 rw[TT,VK] at l b;by_cases e:k<=Wn cs
 .rw[UA e];exact h k e (b.elim Wh λm=>by omega)
 .rw[Ur (by rw[TT,VK];omega),jQ];exact j
theorem Vw.now(h:Vw vb sf cs p): p (nw sf cs):=by
 have:=h (Wn cs) V2 (Wi O);rwa [Ut] at this
theorem Vw.imp{q:Sd.Tb->Prop}(h:Vw vb sf cs p)(hi:∀L,p L->q L): Vw vb sf cs q:=λk b e=>hi _ (h k b e)
theorem Vw.nil(b:∀q∈sf,¬q.1=e0)(h:p sf): Vw vb sf [] p:=λk e j=>by
 rw[List.take_nil]
 show p (wo sf e0)
 rw[Rd.lN b];exact h
def us(fs:List Fl)(L:Sd.Tb):Nat:=(L.map λp=>(fs.getD p.2 d0).bytes.size).sum
theorem tS(fs:List Fl)(a:V8):∀L:Sd.Tb,us fs (wo L a)<=us fs L
 |[]=>Te _
 |p::L=>by
  have b:=tS fs a L;unfold us wo at b ⊢;rw[U7];split
  .rw[Uj,Uj,Vp,Vp];omega
  .rw[Uj,Vp];omega
theorem Ke(fs:List Fl)(L M:Sd.Tb):us fs (L++M)=us fs L+us fs M:=by unfold us;rw[UD,List.sum_append_nat]
theorem N9(fs:List Fl)(L:Sd.Tb)(c:Ch):us fs (ap L c)<=us fs L+(if c.comes=e0 then 0 else (fs.getD c.file d0).bytes.size):=by
 have b:=tS fs c.comes (wo L c.goes);have e:=tS fs c.goes L;unfold ap;split
 .omega
 .rw[Ke];have:us fs [(c.comes,c.file)]=(fs.getD c.file d0).bytes.size:=by simp[us]
  omega
theorem IK{L:Sd.Tb}(h:∀p∈L,fs'.getD p.2 d0=fs.getD p.2 d0): us fs' L=us fs L:=by
 unfold us
 congr 1
 exact VJ λp b=>by rw[h p b]
structure Wf (fs:List Fl) (sf:Sd.Tb) (cs:List Ch):Prop where
 key:keyed sf
 some:∀p∈sf,¬p.1=e0
 sf:∀p∈sf,p.2<Wn fs
 cf:∀c∈cs,c.file<Wn fs\/c.comes=e0
theorem Wf.keyed(h:Wf fs sf cs)(k:Nat): Rd.keyed (nw sf (cs.take k)):=Rd.qv _ _ (Rd.kX h.key _)
theorem Wf.nn(h:Wf fs sf cs)(k:Nat): ∀p∈nw sf (cs.take k),¬p.1=e0:=Rd.sr _ _ λp b=>(Rd.iA.1 b).2
theorem Wf.ix(h:Wf fs sf cs)(k:Nat): ∀p∈nw sf (cs.take k),p.2<Wn fs:=λp b=>by
 rcases Rd.vT _ _ p b with b|⟨c,m,j,e⟩
 .exact h.sf p (Rd.iA.1 b).1
 .rcases h.cf c (Vx m) with l|l
  .rw[e];exact l
  .exact absurd l j
theorem Wf.now(h:Wf fs sf cs): Wf fs (nw sf cs) []:=by
 have e:nw sf (cs.take (Wn cs))=nw sf cs:=by rw[Ut]
 exact⟨e ▸ h.keyed _,e ▸ h.nn _,e ▸ h.ix _,λc b=>by cases b⟩
theorem Wf.mono(h:Wf fs sf cs)(b:Wn fs<=Wn fs'): Wf fs' sf cs:=⟨h.key,h.some,λp j=>TI (h.sf p j) b,λc l=>(h.cf c l).imp (λe=>TI e b) id⟩
theorem Wf.snoc{c:Ch}(h:Wf fs sf cs)(b:c.file<Wn fs\/c.comes=e0): Wf fs sf (cs++[c]):=⟨h.key,h.some,h.sf,λx j=>by
 rcases TB.1 j with e|e
 .exact h.cf x e
 .rw[TL.1 e];exact b⟩
structure Is (md:Bool) (R:Rk) (fs:List Fl) (sf:Sd.Tb) (cs:List Ch):Prop where
 f:R.files=fs
 s:R.safe=sf
 c:R.dX=cs
 a:md=We->R.cZ=1099511627776
 b:md=Wg->R.left = -1/\R.down=Wg
def er(md:Bool):Int:=if md=We then 9 else 12
theorem xu(md:Bool):er md≠0:=by cases md <;> decide
variable {md:Bool}{R:Rk}
theorem Is.eg(h:Is md R fs sf cs): Is md R.eg fs sf cs:=by
 unfold Rk.eg;split
 .exact h
 .rename_i hd;split
  .rename_i j;exact⟨h.f,h.s,h.c,h.a,λe=>by have:=(h.b e).1;omega⟩
  .split
   .exact⟨h.f,h.s,h.c,h.a,λe=>by have:=(h.b e).1;omega⟩
   .exact h
theorem Is.up(h:Is md R fs sf cs)(hu:R.up=Wg): er md=9:=by
 cases md with
 |true=>rfl
 |false =>
  obtain⟨e,j⟩:=h.b rfl;unfold Rk.up at hu;rw[e,j] at hu;revert hu;decide
theorem Is.nw(h:Is md R fs sf cs): R.now=nw sf cs:=by rw[Lq,h.s,h.c]
def zX(md:Bool)(r:Int × Rk)(fs fs':List Fl)(sf b:Sd.Tb)(cs e:List Ch):Prop:=(r.1=0/\Is md r.2 fs' b e)\/(r.1=er md/\Is md r.2 fs sf cs)
theorem Gn(h:Is md R fs sf cs)(j:nj a=We): zX md (R.create a) fs (fs++[d0]) sf sf cs (cs++[⟨e0,a,Wn fs⟩]):=by
 have e:=h.eg;unfold Rk.create;rw[Tg j];split
 .rename_i hu;exact Wi ⟨(h.up hu).symm,e⟩
 .refine Wh ⟨O,⟨?_,e.s,?_,e.a,e.b⟩⟩
  .show R.eg.files++[d0]=_;rw[e.f]
  .show R.eg.dX++[⟨e0,a,Wn R.eg.files⟩]=_;rw[e.c,e.f]
theorem Fz{b:List Ch}{k:Rk->Nat->Int × Rk}(h:Is md R fs sf cs)(hi:dx (nw sf cs) a=S i)(e:∀Q,Is md Q fs sf cs->zX md (k Q i) fs fs' sf sf cs b): zX md (R.on a k) fs fs' sf sf cs b:=by
 unfold Rk.on;split
 .rename_i hu;exact Wi ⟨(h.up hu).symm,h.eg⟩
 .rw[h.nw,hi];exact e _ h.eg
theorem G7{t:V8}(h:Is md R fs sf cs)(hi:dx (nw sf cs) a=S i)(hu:md=We->us fs (nw sf cs)+t.size<=1099511627776): zX md (R.append a t) fs (fs.set i ⟨(fs.getD i d0).bytes++t,(fs.getD i d0).safe⟩) sf sf cs cs:=by
 unfold Rk.append;refine Fz h hi λQ e=>?_
 have j:Q.use Q.now=us fs (Hl.nw sf cs):=by rw[e.nw];unfold Rk.use Rk.fl us;rw[e.f]
 split
 .rename_i l;rw[j] at l;refine Wi ⟨?_,e⟩;cases md with
  |false=>rfl
  |true =>
   have m:=e.a O;have r:=hu O;omega
 .refine Wh ⟨O,⟨?_,e.s,e.c,e.a,e.b⟩⟩
  show Q.files.set i ⟨(Q.fl i).bytes++t,(Q.fl i).safe⟩=_
  unfold Rk.fl;rw[e.f]
theorem L3(h:Is md R fs sf cs)(hi:dx (nw sf cs) a=S i): zX md (R.sync a) fs (fs.set i ⟨(fs.getD i d0).bytes,(fs.getD i d0).bytes.size⟩) sf sf cs cs:=by
 unfold Rk.sync;refine Fz h hi λQ e=>Wh ⟨O,⟨?_,e.s,e.c,e.a,e.b⟩⟩
 show Q.files.set i ⟨(Q.fl i).bytes,(Q.fl i).bytes.size⟩=_
 unfold Rk.fl;rw[e.f]
theorem Gc(h:Is md R fs sf cs)(hi:dx (nw sf cs) a=S i): zX md (R.remove a) fs fs sf sf cs (cs++[⟨a,e0,0⟩]):=by
 unfold Rk.remove;refine Fz h hi λQ e=>Wh ⟨O,⟨e.f,e.s,?_,e.a,e.b⟩⟩
 show Q.dX++[⟨a,e0,0⟩]=_;rw[e.c]
theorem Hr{b:V8}(h:Is md R fs sf cs)(hi:dx (nw sf cs) a=S i)(hb:nj b=We)(j:¬a=b): zX md (R.rename a b) fs fs sf sf cs (cs++[⟨a,b,i⟩]):=by
 unfold Rk.rename;rw[Tf (by rw[hb];simp)];refine Fz h hi λQ e=>?_
 show zX md (0,if a=b then Q else { Q with dX:=Q.dX++[⟨a,b,i⟩] }) _ _ _ _ _ _
 rw[Tf j];refine Wh ⟨O,⟨e.f,e.s,?_,e.a,e.b⟩⟩
 show Q.dX++[⟨a,b,i⟩]=_;rw[e.c]
theorem qw(h:Is md R fs sf cs): zX md R.fc fs fs sf (nw sf cs) cs []:=by
 have e:=h.eg;unfold Rk.fc;split
 .rename_i hu;exact Wi ⟨(h.up hu).symm,e⟩
 .refine Wh ⟨O,⟨e.f,?_,O,e.a,e.b⟩⟩
  show R.now=_;exact h.nw
end Hl
namespace Hl
open Go Sp
open Rd (Rk e0 dx Fl Ch ap wo keyed nj)
open Ru (rz fO Out dz ep eM fF dU eR drop1 m7 n9 tN nm vB mB kB Oq)
theorem D6{c:UInt8}(j:Rd.zP c.toNat=We){s:Nat}(B:s<=200):nj (nm c s)=We:=by
 have C:=Ru.Lg 2 s (by omega);have e:(nm c s).data.toList=c::46::Lib.decDigits s:=by
  unfold Ru.nm;rw[U6];simp[Ru.dc]
 have m:(nm c s).size=2+(Lib.decDigits s).length:=by rw[Ru.jU,Ru.r7]
 unfold nj;rw[e,m,List.all_cons,List.all_cons,j];have b:Rd.zP ((46:UInt8).toNat)=We:=by decide
 rw[b,TU (by omega:1<=2+(Lib.decDigits s).length),TU (by omega:2+(Lib.decDigits s).length<=12)];simp only[Bool.true_and];rw[List.all_eq_true];intro x r;obtain⟨z,A⟩:=Ru.Iu s x r;unfold Rd.zP;rw[TU z,TU A];simp
theorem B8(c:UInt8)(s:Nat):¬nm c s=e0:=λe=>by
 have h:=congrArg ByteArray.size e;rw[Ru.jU] at h;have:e0.size=0:=rfl;omega
theorem Oc:¬tN=e0:=λe=>by
 have h:=congrArg ByteArray.size e;revert h;decide
def Rs(md:Bool)(l:List Oq)(R:Rk)(Fin Bad:Rk->Prop):Prop:=((ep R l).1=0/\Fin (ep R l).2)\/((ep R l).1=er md/\Bad (ep R l).2)
variable {md:Bool}{R:Rk}{Bad Fin:Rk->Prop}
theorem Rs.nil(h:Fin R): Rs md [] R Fin Bad:=Wh ⟨O,h⟩
variable {l:List Oq}
theorem Rs.cons{o:Oq}{Mid:Rk->Prop}(h:((dz R o).1=0/\Mid (dz R o).2)\/((dz R o).1=er md/\Bad (dz R o).2))(k:∀j,Mid j->Rs md l j Fin Bad): Rs md (o::l) R Fin Bad:=by
 unfold Rs;rw[ep];rcases h with ⟨b,e⟩|⟨b,e⟩
 .rw[Tg b];exact k _ e
 .rw[Tf (by rw[b];exact xu md)];exact Wi ⟨b,e⟩
theorem Rs.app{m:List Oq}{Mid:Rk->Prop}(h:Rs md l R Mid Bad)(k:∀j,Mid j->Rs md m j Fin Bad): Rs md (l++m) R Fin Bad:=by
 unfold Rs;rw[Ru.iD];rcases h with ⟨b,e⟩|⟨b,e⟩
 .rw[Tg b];exact k _ e
 .rw[Tf (by rw[b];exact xu md)];exact Wi ⟨b,e⟩
theorem Rs.imp{b e:Rk->Prop}(h:Rs md l R Fin Bad)(h1:∀j,Fin j->b j)(h2:∀j,Bad j->e j): Rs md l R b e:=Or.imp (λx=>⟨x.1,h1 _ x.2⟩) (λx=>⟨x.1,h2 _ x.2⟩) h
variable {cs:List Ch}{fs:List Fl}{sf:Sd.Tb}
theorem Rs.op{o:Oq}{b:List Fl}{e:Sd.Tb}{j:List Ch}(h:zX md (dz R o) fs b sf e cs j)(h2:∀m,Is md m fs sf cs->Bad m)(k:∀m,Is md m b e j->Rs md l m Fin Bad): Rs md (o::l) R Fin Bad:=Rs.cons (Mid:=λm=>Is md m b e j) (h.imp id λx=>⟨x.1,h2 _ x.2⟩) k
structure Mid (J:Jb) (vb:Bool) (N y u:Nat) (fs:List Fl) (sf:Sd.Tb) (cs:List Ch):Prop where
 wf:Wf fs sf cs
 g:Vw vb sf cs λL=>J.G N fs (dx L)/\(y≠0->dx L (nm 99 y)≠U)/\us fs L<=u
theorem Wf.here(h:Wf fs sf cs): Rd.keyed (nw sf cs)/\(∀p∈nw sf cs,¬p.1=e0)/\∀p∈nw sf cs,p.2<Wn fs:=by
 have b:=h.keyed (Wn cs);have e:=h.nn (Wn cs);have j:=h.ix (Wn cs);rw[Ut] at b e j;exact⟨b,e,j⟩
theorem vZ(h:Wf fs sf cs): dx (nw sf cs) e0=U:=Rd.kh.2 h.here.2.1
variable {α:Type}
theorem mu{l m:List α}{i:Nat}{d : α}(h:i<Wn l): (l++m).getD i d=l.getD i d:=by
 rw[Ty,Ty,Uf h]
theorem kH(l:List α)(x d : α): (l++[x]).getD (Wn l) d=x:=by
 rw[Ty,Tx V2];simp
theorem uw{X:List Fl}{L:Sd.Tb}(h:∀p∈L,p.2<Wn fs): us (fs++X) L=us fs L:=IK λp b=>mu (h p b)
variable {u y:Nat}{vb:Bool}
theorem Mid.mono{b:Jb}{N j m:Nat}(h:Mid b vb N y u fs sf cs)(r:N<=j)(hu:u<=m): Mid b vb j y m fs sf cs:=⟨h.wf,h.g.imp λL e=>⟨e.1.mono r λ_ _=>O,e.2.1,To e.2.2 hu⟩⟩
theorem Mid.create{m:Jb}{N:Nat}{a:V8}(h:Mid m vb N y u fs sf cs)(K:N<=Wn fs)(ha:¬a=e0)(z:∀s,a≠nm 99 s)(L:∀s,a=nm 118 s->dx (nw sf cs) (nm 99 s)=U)(M:∀s,a=nm 109 s->dx (nw sf cs) (nm 99 s)=U)(x:Fl)(hu:us fs (nw sf cs)+x.bytes.size<=u): Mid m vb N y u (fs++[x]) sf (cs++[⟨e0,a,Wn fs⟩]):=by
 have G:∀j,j<N->(fs++[x]).getD j d0=fs.getD j d0:=λj P=>mu (TI P K)
 have A:∀b,dx (ap (nw sf cs) ⟨e0,a,Wn fs⟩) b=if b=a then S (Wn fs) else dx (nw sf cs) b:=λb=>by
  rw[r8]
  show (if b=a then if a=e0 then U else S (Wn fs) else if b=e0 then U else _)=_
  by_cases e:b=a
  .rw[Tg e,Tg e,Tf ha]
  .rw[Tf e,Tf e];by_cases r:b=e0
   .rw[Tg r,r,vZ h.wf]
   .rw[Tf r]
 refine⟨(h.wf.mono (by simp)).snoc (Wh (by simp)),Vw.snoc (λk Q B=>?_) ?_⟩
 .obtain⟨C,F,I⟩:=h.g k Q B;exact⟨C.mono V2 G,F,by rw[uw (h.wf.ix k)];exact I⟩
 .obtain⟨C,F,I⟩:=h.g.now;refine⟨(C.mono V2 G).off (a:=a) (λb B=>by rw[A,Tf B]) (λs e=>?_) (λs e=>?_) (λs e=>absurd e (z s)),λT=>?_,?_⟩
  .rw[A,Tf (λr=>z s r.symm)];exact L s e
  .rw[A,Tf (λr=>z s r.symm)];exact M s e
  .rw[A,Tf (λr=>z y r.symm)];exact F T
  .refine To (N9 _ _ _) ?_
   show us (fs++[x]) (nw sf cs)+(if a=e0 then 0 else ((fs++[x]).getD (Wn fs) d0).bytes.size)<=u
   rw[uw h.wf.here.2.2,Tf ha,kH];exact hu
def jD(b:Jb)(md vb:Bool)(y u:Nat)(R:Rk):Prop := ∃fs sf cs,Is md R fs sf cs/\Mid b vb (Wn fs) y u fs sf cs
theorem Aj(l:List α)(x z : α): (l++[x]).set (Wn l) z=l++[z]:=by
 rw[VW _ _ V2];simp
theorem Ox(t:V8):e0++t=t:=Uy (by rw[U6];simp[e0])
theorem sN{b:Jb}{N:Nat}{a p:V8}(hi:Is md R fs sf cs)(h:Mid b vb N y u fs sf cs)(j:N<=Wn fs)(F:nj a=We)(z:∀s,a≠nm 99 s)(A:∀s,a=nm 118 s->dx (nw sf cs) (nm 99 s)=U)(B:∀s,a=nm 109 s->dx (nw sf cs) (nm 99 s)=U)(hu:us fs (nw sf cs)+(dt p).size<=u)(M:u<=549755813888):Rs md (eR a p) R (λm=>Is md m (fs++[⟨dt p,(dt p).size⟩]) sf (cs++[⟨e0,a,Wn fs⟩])/\Mid b vb N y u (fs++[⟨dt p,(dt p).size⟩]) sf (cs++[⟨e0,a,Wn fs⟩])) (jD b md vb y u):=by
 have r:=Rd.oG F;have f:d0.bytes.size=0:=rfl;have G:=h.create j r z A B d0 (by omega);have P:=h.create j r z A B ⟨dt p,0⟩ hu;have Q:=h.create j r z A B ⟨dt p,(dt p).size⟩ hu;have I:dx (nw sf (cs++[⟨e0,a,Wn fs⟩])) a=S (Wn fs):=by
  rw[jQ,r8]
  show (if a=a then if a=e0 then U else S (Wn fs) else _)=_
  rw[Tg O,Tf r]
 have C:us (fs++[d0]) (nw sf (cs++[⟨e0,a,Wn fs⟩]))<=u:=G.g.now.2.2;have e:∀x:Fl,N<=(fs++[x]).length:=λx=>by simp;omega
 have T:zX md (dz R ⟨1,a,e0⟩) _ _ _ _ _ _:=Gn hi F;unfold eR;refine Rs.op T (λm k=>⟨_,_,_,k,h.mono j V2⟩) λV W=>?_
 have K:zX md (dz V ⟨2,a,dt p⟩) _ _ _ _ _ _:=G7 (t:=dt p) W I (λ_=>To (Nat.add_le_add C (To (Nat.le_add_left _ _) hu)) (by omega));rw[kH,Aj,show (d0.bytes++dt p)=dt p from Ox _] at K;refine Rs.op K (λm k=>⟨_,_,_,k,G.mono (e _) V2⟩) λX q=>?_
 have L:zX md (dz X ⟨3,a,e0⟩) _ _ _ _ _ _:=L3 q I;rw[kH,Aj] at L;exact Rs.op L (λm k=>⟨_,_,_,k,P.mono (e _) V2⟩) λo i=>Rs.nil ⟨i,Q⟩
end Hl
namespace Hl
open Go Sp
open Rd (Rk e0 dx Fl Ch ap wo keyed nj)
open Ru (rz fO Out dz ep eM fF dU eR drop1 m7 n9 tN nm vB mB kB Oq)
def Jb.B(b:Jb):Nat:=21*Wn b.vs+48
theorem FD(b:Jb)(c:Cfg):(b.vF c).size=9*Wn b.vs+8:=by unfold Jb.vF;rw[eB,Ru.fA]
theorem EK(b:Jb)(c:Cfg):(b.mF c).size=12*Wn b.vs+8:=by unfold Jb.mF;rw[eB,Ru.ga]
theorem EX(b:Jb)(s:Nat)(c:Cfg):(b.kF s c).size=32:=by unfold Jb.kF;rw[eB,Ru.lX]
variable {sf:Sd.Tb}{cs:List Ch}
theorem rW{a:V8}{i:Nat}(ha:¬a=e0)(l:dx (nw sf cs) e0=U)(b:V8): dx (nw sf (cs++[⟨e0,a,i⟩])) b=if b=a then S i else dx (nw sf cs) b:=by
 rw[jQ,r8]
 show (if b=a then if a=e0 then U else S i else if b=e0 then U else _)=_
 by_cases e:b=a
 .rw[Tg e,Tg e,Tf ha]
 .rw[Tf e,Tf e];by_cases j:b=e0
  .rw[Tg j,j,l]
  .rw[Tf j]
theorem vX{b:List Fl}{a:V8}{x:Fl}(h:Wf b sf cs): us (b++[x]) (nw sf (cs++[⟨e0,a,Wn b⟩]))<=us b (nw sf cs)+x.bytes.size:=by
 rw[jQ];refine To (N9 _ _ _) ?_
 show us (b++[x]) (nw sf cs)+(if a=e0 then 0 else ((b++[x]).getD (Wn b) d0).bytes.size)<=_
 rw[uw h.here.2.2,kH];split <;> omega
theorem Pc(L M:Sd.Tb)(a:V8):wo (L++M) a=wo L a++wo M a:=UQ ..
theorem O9(e:List Fl)(L:Sd.Tb){t b:V8}(i:Nat)(ht:¬t=e0)(hb:¬b=e0):us e (ap (ap L ⟨e0,t,i⟩) ⟨t,b,i⟩)<=us e L+(e.getD i d0).bytes.size:=by
 have j:ap L ⟨e0,t,i⟩=wo (wo L e0) t++[(t,i)]:=by unfold ap;rw[Tf ht]
 have l:∀M:Sd.Tb,ap M ⟨t,b,i⟩=wo (wo M t) b++[(b,i)]:=λM=>by unfold ap;rw[Tf hb]
 have m:wo [(t,i)] t=[]:=by simp[wo]
 have r:us e [(b,i)]=(e.getD i d0).bytes.size:=by simp[us]
 rw[j,l,Ke,Pc,m,UJ,r];have u:=tS e b (wo (wo (wo L e0) t) t);have y:=tS e t (wo (wo L e0) t);have z:=tS e t (wo L e0);have A:=tS e e0 L;omega
theorem Ix{j:Jb}{C K:Bool}{y u:Nat}{l:List Fl}{R:Rk}{s:Nat}{c:Cfg}(hi:Is C R l sf cs)(h:Mid j K (Wn l) y u l sf cs)(V:dx (nw sf cs) (nm 99 s)=U)(ab:0<s)(ad:s%j.every=0)(hs:s<=200)(hc:j.at' s=S c)(hu:us l (nw sf cs)+j.B<=u)(M:u<=549755813888):Rs C (eM c (Wn j.vs) s j.dd) R (λP=>∃I F,Is C P I F []/\Mid j K (Wn I) s u I F []/\us I F<=us l (nw sf cs)+j.B/\(∀a,dx F a≠U->dx (nw sf cs) a≠U\/a=nm 99 s\/a=nm 109 s\/a=nm 118 s)/\∀t,dx (nw sf cs) (nm 99 t)≠U->dx F (nm 99 t)≠U) (jD j C K y u):=by
 have zv:=FD j c;have zm:=EK j c;have zk:=EX j s c;have hB:j.B=21*Wn j.vs+48:=rfl;have W:∀{x:UInt8} {t:Nat},nm x s=nm x t->s=t:=λe=>(Ru.sF e).2
 have w1:=sN (p:=vB c (Wn j.vs)) hi h V2 (D6 (c:=118) (by decide) hs) (λt=>jC (by decide)) (λt e=>W e ▸ V) (λt e=>absurd e (jC (by decide))) (show us l (nw sf cs)+(j.vF c).size<=u by omega) M;refine Rs.app (Rs.app (Rs.app w1 λR1 k1=>?_:Rs C _ R (λP=>Is C P (l++[⟨j.vF c,(j.vF c).size⟩]++[⟨j.mF c,(j.mF c).size⟩]) sf (cs++[⟨e0,nm 118 s,Wn l⟩]++[⟨e0,nm 109 s,(l++[⟨j.vF c,(j.vF c).size⟩]:List Fl).length⟩])/\Mid j K (Wn l) y u (l++[⟨j.vF c,(j.vF c).size⟩]++[⟨j.mF c,(j.mF c).size⟩]) sf (cs++[⟨e0,nm 118 s,Wn l⟩]++[⟨e0,nm 109 s,(l++[⟨j.vF c,(j.vF c).size⟩]:List Fl).length⟩])) (jD j C K y u)) λR2 k2=>?_:Rs C _ R (λP=>Is C P (l++[⟨j.vF c,(j.vF c).size⟩]++[⟨j.mF c,(j.mF c).size⟩]++[⟨j.kF s c,(j.kF s c).size⟩]) sf (cs++[⟨e0,nm 118 s,Wn l⟩]++[⟨e0,nm 109 s,(l++[⟨j.vF c,(j.vF c).size⟩]:List Fl).length⟩]++[⟨e0,tN,(l++[⟨j.vF c,(j.vF c).size⟩]++[⟨j.mF c,(j.mF c).size⟩]:List Fl).length⟩])/\Mid j K (Wn l) y u (l++[⟨j.vF c,(j.vF c).size⟩]++[⟨j.mF c,(j.mF c).size⟩]++[⟨j.kF s c,(j.kF s c).size⟩]) sf (cs++[⟨e0,nm 118 s,Wn l⟩]++[⟨e0,nm 109 s,(l++[⟨j.vF c,(j.vF c).size⟩]:List Fl).length⟩]++[⟨e0,tN,(l++[⟨j.vF c,(j.vF c).size⟩]++[⟨j.mF c,(j.mF c).size⟩]:List Fl).length⟩])) (jD j C K y u)) λR3 k3=>?_
 .obtain⟨i1,m1⟩:=k1;have X:=λb=>rW (i:=Wn l) (B8 118 s) (vZ h.wf) b
  have u1:=vX (a:=nm 118 s) (x:=⟨j.vF c,(j.vF c).size⟩) h.wf;have n1:dx (nw sf (cs++[⟨e0,nm 118 s,Wn l⟩])) (nm 99 s)=U:=by rw[X,Tf (jC (by decide))];exact V
  exact sN (p:=mB c (Wn j.vs)) i1 m1 (by simp) (D6 (c:=109) (by decide) hs) (λt=>jC (by decide)) (λt e=>absurd e (jC (by decide))) (λt e=>W e ▸ n1) (by
   show us (l++[⟨j.vF c,(j.vF c).size⟩]) _+(j.mF c).size<=u
   have ae:us (l++[⟨j.vF c,(j.vF c).size⟩]) (nw sf (cs++[⟨e0,nm 118 s,Wn l⟩]))<=us l (nw sf cs)+(j.vF c).size:=u1;exact To (VX ae _) (by omega)) M
 .obtain⟨i2,m2⟩:=k2;have u1:us (l++[⟨j.vF c,(j.vF c).size⟩]) (nw sf (cs++[⟨e0,nm 118 s,Wn l⟩]))<=us l (nw sf cs)+(j.vF c).size:=vX (x:=⟨j.vF c,(j.vF c).size⟩) h.wf;have q:Wf (l++[⟨j.vF c,(j.vF c).size⟩]) sf (cs++[⟨e0,nm 118 s,Wn l⟩]):=(h.wf.mono (by simp)).snoc (Wh (by simp));have u2:=vX (a:=nm 109 s) (x:=⟨j.mF c,(j.mF c).size⟩) q;exact sN (p:=kB s c.all j.dd (gW (j.vF c)) (gW (j.mF c))) i2 m2 (by simp) (by decide) (λt e=>nC _ _ e.symm) (λt e=>absurd e.symm (nC _ _)) (λt e=>absurd e.symm (nC _ _)) (To (VX (To u2 (VX u1 _)) _) (show us l (nw sf cs)+(j.vF c).size+(j.mF c).size+(j.kF s c).size<=u by omega)) M
 .obtain⟨i3,m3⟩:=k3;have q:Wf (l++[⟨j.vF c,(j.vF c).size⟩]) sf (cs++[⟨e0,nm 118 s,Wn l⟩]):=(h.wf.mono (by simp)).snoc (Wh (by simp));have f2:Wf (l++[⟨j.vF c,(j.vF c).size⟩]++[⟨j.mF c,(j.mF c).size⟩]) sf (cs++[⟨e0,nm 118 s,Wn l⟩]++[⟨e0,nm 109 s,(l++[⟨j.vF c,(j.vF c).size⟩]:List Fl).length⟩]):=(q.mono (by simp)).snoc (Wh (by simp));have u1:us (l++[⟨j.vF c,(j.vF c).size⟩]) (nw sf (cs++[⟨e0,nm 118 s,Wn l⟩]))<=us l (nw sf cs)+(j.vF c).size:=vX (x:=⟨j.vF c,(j.vF c).size⟩) h.wf;have u2:=vX (a:=nm 109 s) (x:=⟨j.mF c,(j.mF c).size⟩) q;have X:=λb=>rW (i:=Wn l) (B8 118 s) (vZ h.wf) b
  have g2:=λb=>rW (i:=(l++[⟨j.vF c,(j.vF c).size⟩]:List Fl).length) (B8 109 s) (vZ q) b
  have f:=λb=>rW (i:=(l++[⟨j.vF c,(j.vF c).size⟩]++[⟨j.mF c,(j.mF c).size⟩]:List Fl).length) Oc (vZ f2) b
  have l1:Wn l<(l++[⟨j.vF c,(j.vF c).size⟩]:List Fl).length:=by simp
  have l2:(l++[⟨j.vF c,(j.vF c).size⟩]:List Fl).length<(l++[⟨j.vF c,(j.vF c).size⟩]++[⟨j.mF c,(j.mF c).size⟩]:List Fl).length:=by simp
  have l3:(l++[⟨j.vF c,(j.vF c).size⟩]++[⟨j.mF c,(j.mF c).size⟩]:List Fl).length<(l++[⟨j.vF c,(j.vF c).size⟩]++[⟨j.mF c,(j.mF c).size⟩]++[⟨j.kF s c,(j.kF s c).size⟩]:List Fl).length:=by simp
  have q3:=kH (l++[⟨j.vF c,(j.vF c).size⟩]++[⟨j.mF c,(j.mF c).size⟩]) (⟨j.kF s c,(j.kF s c).size⟩:Fl) d0;have q2:=(mu (m:=[(⟨j.kF s c,(j.kF s c).size⟩:Fl)]) (d:=d0) l2).trans (kH (l++[⟨j.vF c,(j.vF c).size⟩]) (⟨j.mF c,(j.mF c).size⟩:Fl) d0);have q1:=(mu (m:=[(⟨j.kF s c,(j.kF s c).size⟩:Fl)]) (d:=d0) (Nat.lt_trans l1 l2)).trans ((mu (m:=[(⟨j.mF c,(j.mF c).size⟩:Fl)]) (d:=d0) l1).trans (kH l (⟨j.vF c,(j.vF c).size⟩:Fl) d0));have af:nm 118 s≠nm 109 s:=jC (by decide);generalize ah:cs++[(⟨e0,nm 118 s,Wn l⟩:Ch)]++[⟨e0,nm 109 s,(l++[⟨j.vF c,(j.vF c).size⟩]:List Fl).length⟩]=z at *;generalize aj:(l++[⟨j.vF c,(j.vF c).size⟩]:List Fl).length=N1 at *;generalize ai:l++[⟨j.vF c,(j.vF c).size⟩]++[⟨j.mF c,(j.mF c).size⟩]=r at *;generalize o:r++[⟨j.kF s c,(j.kF s c).size⟩]=A at *;have hg:dx (nw sf (z++[⟨e0,tN,Wn r⟩])) tN=S (Wn r):=by rw[f,Tg rfl]
  have Q:∀b,dx (nw sf (z++[⟨e0,tN,Wn r⟩]++[⟨tN,nm 99 s,Wn r⟩])) b=if b=nm 99 s then S (Wn r) else if b=tN then U else dx (nw sf (z++[⟨e0,tN,Wn r⟩])) b:=λb=>by
   rw[jQ _ (z++_),r8]
   show (if b=nm 99 s then if nm 99 s=e0 then U else S (Wn r) else if b=tN then U else _)=_
   rw[Tf (B8 99 s)]
  have T:us A (nw sf (z++[⟨e0,tN,Wn r⟩]++[⟨tN,nm 99 s,Wn r⟩]))<=us l (nw sf cs)+j.B:=by
   rw[jQ _ (z++_),jQ];refine To (O9 _ _ _ Oc (B8 99 s)) ?_;rw[q3,<-o,uw f2.here.2.2];exact To (VX (To u2 (VX u1 _)) _) (show us l (nw sf cs)+(j.vF c).size+(j.mF c).size+(j.kF s c).size<=_ by omega)
  have ag:j.Sn (Wn A) A (dx (nw sf (z++[⟨e0,tN,Wn r⟩]++[⟨tN,nm 99 s,Wn r⟩]))) s c:=by
   refine⟨⟨Wn l,?_,Nat.lt_trans l1 (Nat.lt_trans l2 l3),q1⟩,⟨N1,?_,Nat.lt_trans l2 l3,q2⟩,⟨Wn r,?_,l3,q3⟩⟩
   .rw[Q,Tf (jC (by decide)),Tf (nC _ _),f,Tf (nC _ _),g2,Tf af,X,Tg rfl]
   .rw[Q,Tf (jC (by decide)),Tf (nC _ _),f,Tf (nC _ _),g2,Tg rfl]
   .rw[Q,Tg rfl]
  have n:Wn l<=Wn A:=by omega
  have m4:j.G (Wn A) A (dx (nw sf (z++[⟨e0,tN,Wn r⟩]++[⟨tN,nm 99 s,Wn r⟩]))):=(m3.g.now.1.mono n λ_ _=>O).add (λb h1 h2=>by rw[Q,Tf h1,Tf h2]) ab ad hc ag;have aa:∀t,dx (nw sf cs) (nm 99 t)≠U->dx (nw sf (z++[⟨e0,tN,Wn r⟩]++[⟨tN,nm 99 s,Wn r⟩])) (nm 99 t)≠U:=λt ht=>by
   rw[Q];split
   .exact λe=>by cases e
   .rw[Tf (nC _ _),f,Tf (nC _ _),g2,Tf (jC (by decide)),X,Tf (jC (by decide))];exact ht
  have o4:zX C (dz R3 ⟨4,tN,nm 99 s⟩) _ _ _ _ _ _:=Hr i3 hg (D6 (by decide) hs) (λe=>nC _ _ e.symm);have M3:=m3.mono n (Te u);have M4:Mid j K (Wn A) y u A sf (z++[⟨e0,tN,Wn r⟩]++[⟨tN,nm 99 s,Wn r⟩]):=⟨M3.wf.snoc (Wh l3),by
   rw[show z++[⟨e0,tN,Wn r⟩]++[⟨tN,nm 99 s,Wn r⟩]=(z++[⟨e0,tN,Wn r⟩])++[⟨tN,nm 99 s,Wn r⟩] from rfl] at *;exact Vw.snoc M3.g (by rw[<-jQ];exact⟨m4,λhy=>aa y (h.g.now.2.1 hy),To T hu⟩)⟩
  refine Rs.op o4 (λP k=>⟨_,_,_,k,M3⟩) λR4 i4=>?_
  have o5:zX C (dz R4 n9) _ _ _ _ _ _:=qw i4;refine Rs.op o5 (λP k=>⟨_,_,_,k,M4⟩) λR5 i5=>Rs.nil ⟨_,_,i5,⟨M4.wf.now,Vw.nil M4.wf.now.some ⟨m4,λ_=>?_,To T hu⟩⟩,T,λa L=>?_,aa⟩
  .rw[Q,Tg rfl];exact λe=>by cases e
  .rw[Q] at L;by_cases e1:a=nm 99 s
   .exact Wi (Wh e1)
   rw[Tf e1] at L;by_cases e2:a=tN
   .rw[Tg e2] at L;exact absurd O L
   rw[Tf e2,f,Tf e2,g2] at L;by_cases e3:a=nm 109 s
   .exact Wi (Wi (Wh e3))
   rw[Tf e3,X] at L;by_cases e4:a=nm 118 s
   .exact Wi (Wi (Wi e4))
   rw[Tf e4] at L;exact Wh L
end Hl
namespace Hl
open Go Sp
open Rd (Rk e0 dx Fl Ch ap wo keyed nj)
open Ru (rz fO Out dz ep eM fF dU eR drop1 m7 n9 tN nm vB mB kB Oq)
def sz(fs:List Fl):Option Nat->Nat
 |none=>0
 |some i=>(fs.getD i d0).bytes.size
theorem ug(fs:List Fl)(p:V8 × Nat)(L:Sd.Tb):us fs (p::L)=(fs.getD p.2 d0).bytes.size+us fs L:=by unfold us;rw[Uj,Vp]
theorem wh(fs:List Fl)(a:V8):∀L:Sd.Tb,keyed L->us fs L=sz fs (dx L a)+us fs (wo L a)
 |[],_=>rfl
 |p::L,h=>by
  obtain⟨j,l⟩:=Um.1 h;have m:=wh fs a L l;rw[ug,Rd.gR];have e:wo (p::L) a=if p.1=a then wo L a else p::wo L a:=by
   unfold wo;rw[U7];by_cases e:p.1=a
   .rw[Tg e,Tf (by simp[e])]
   .rw[Tf e,Tg (by simp[e])]
  rw[e];by_cases e:p.1=a
  .rw[Tg e,Tg e.symm];have r:dx L a=U:=Rd.kh.2 λq u b=>j q u (e.trans b.symm)
   rw[r] at m;have:sz fs U=0:=rfl;have y:sz fs (S p.2)=(fs.getD p.2 d0).bytes.size:=rfl;omega
  .rw[Tf e,Tf (λh=>e h.symm),ug];omega
theorem A1(fs:List Fl):∀(j:List V8) (L:Sd.Tb),keyed L->(∀p∈L,p.1∈j)->us fs L<=(j.map λa=>sz fs (dx L a)).sum
 |[],L,_,h=>by
  cases L with
  |nil=>exact Te _
  |cons p L=>exact absurd (h p (TV ..)) (by simp)
 |a::j,L,m,h=>by
  rw[wh fs a L m,Uj,Vp];have r:=A1 fs j (wo L a) (Rd.kX m a) (λp u=>by
   obtain⟨y,z⟩:=Rd.iA.1 u;exact(TO.1 (h p y)).elim (λe=>absurd e z) id)
  have:((j.map λb=>sz fs (dx (wo L a) b)).sum)<=(j.map λb=>sz fs (dx L b)).sum:=by
   clear r h
   induction j with
   |nil=>exact Te _
   |cons b j l =>
    rw[Uj,Vp,Uj,Vp];refine Nat.add_le_add ?_ l;rw[Rd.jL];split
    .exact Tp _
    .exact Te _
  omega
variable {sf:Sd.Tb}{a:V8}{cs:List Ch}
theorem FJ(j:dx (nw sf cs) e0=U)(b:V8): dx (nw sf (cs++[⟨a,e0,0⟩])) b=if b=a then U else dx (nw sf cs) b:=by
 rw[jQ,r8]
 show (if b=e0 then if e0=e0 then U else S 0 else if b=a then U else _)=_
 rw[Tg rfl];by_cases e:b=e0
 .rw[Tg e,e,j];split <;> rfl
 .rw[Tf e]
variable {fs:List Fl}
theorem NV(h:Wf fs sf cs): nw sf (cs++[⟨a,e0,0⟩])=wo (nw sf cs) a:=by
 rw[jQ];unfold ap;rw[Tg rfl];exact Rd.lN λp b=>h.here.2.1 p (Rd.iA.1 b).1
theorem Mid.rm{j:Jb}{m:Bool}{N y u:Nat}(h:Mid j m N y u fs sf cs)(z:∀s,a=nm 118 s->dx (nw sf cs) (nm 99 s)=U)(A:∀s,a=nm 109 s->dx (nw sf cs) (nm 99 s)=U)(B:y≠0->a≠nm 99 y): Mid j m N y u fs sf (cs++[⟨a,e0,0⟩]):=by
 have l:=λb=>FJ (a:=a) (vZ h.wf) b
 have hu:=tS fs a (nw sf cs);refine⟨h.wf.snoc (Wi O),Vw.snoc h.g ?_⟩;rw[<-jQ];obtain⟨C,F,G⟩:=h.g.now;refine⟨C.off (a:=a) (λb I=>by rw[l,Tf I]) (λs e=>?_) (λs e=>?_) (λs e=>by rw[l,Tg rfl]),λr=>?_,?_⟩
 .rw[l,z s e];split <;> rfl
 .rw[l,A s e];split <;> rfl
 .rw[l,Tf (λe=>B r e.symm)];exact F r
 .rw[NV h.wf];exact To hu G
theorem yD{j:Jb}{F L:Bool}{y u:Nat}: ∀(l:List V8) {cs:List Ch} {R:Rk},Is F R fs sf cs->Mid j L (Wn fs) y u fs sf cs->l.Nodup->(∀a∈l,dx (nw sf cs) a≠U)->(∀G a M,l=G++a::M->∀s,a=nm 118 s\/a=nm 109 s->nm 99 s∈G\/dx (nw sf cs) (nm 99 s)=U)->(∀a∈l,y≠0->a≠nm 99 y)->
  Rs F (l.map m7) R (λI=>∃m,Is F I fs sf m/\Mid j L (Wn fs) y u fs sf m/\(∀b,(b∈l->dx (nw sf m) b=U)/\(¬b∈l->dx (nw sf m) b=dx (nw sf cs) b))/\us fs (nw sf m)+(l.map λa=>sz fs (dx (nw sf cs) a)).sum=us fs (nw sf cs)) (jD j F L y u)
 |[],cs,R,hi,h,_,_,_,_=>Rs.nil ⟨cs,hi,h,λb=>⟨λr=>(by cases r),λ_=>rfl⟩,rfl⟩
 |a::l,cs,R,hi,h,q,T,V,W=>by
  obtain⟨X,f⟩:=List.nodup_cons.1 q;have P:=V [] a l O;have z:∀s,a=nm 118 s\/a=nm 109 s->dx (nw sf cs) (nm 99 s)=U:=λs e=>(P s e).elim (λh=>by cases h) id
  cases x:dx (nw sf cs) a with
  |none=>exact absurd x (T a (TV ..))
  |some i =>
   have t:zX F (dz R (m7 a)) fs fs sf sf cs (cs++[⟨a,e0,0⟩]):=Gc hi x;have p:=h.rm (a:=a) (λs e=>z s (Wh e)) (λs e=>z s (Wi e)) (W a (TV ..));have C:=λb=>FJ (a:=a) (vZ h.wf) b
   rw[Uj];refine Rs.op t (λI k=>⟨_,_,_,k,h⟩) λR1 o=>?_
   refine(yD l o p f (λb r=>?_) (λG b M e s n=>?_) (λb r=>W b (Ug _ r))).imp (λI Q=>?_) λI Q=>Q
   .rw[C,Tf (λe:b=a=>X (e ▸ r))];exact T b (Ug _ r)
   .rcases V (a::G) b M (by rw[e];rfl) s n with A|A
    .rcases TO.1 A with A|A
     .exact Wi (by rw[C,Tg A])
     .exact Wh A
    .exact Wi (by rw[C,A];split <;> rfl)
   .obtain⟨m,g,k2,K,k4⟩:=Q;refine⟨m,g,k2,λb=>?_,?_⟩
    .by_cases e:b=a
     .refine⟨λ_=>?_,λr=>absurd (by rw[e];exact TV ..) r⟩;by_cases B:b∈l
      .exact(K b).1 B
      .rw[(K b).2 B,C,Tg e]
     .by_cases B:b∈l
      .exact⟨λ_=>(K b).1 B,λr=>absurd (Ug _ B) r⟩
      .exact⟨λr=>((TO.1 r).elim e B).elim,λ_=>by rw[(K b).2 B,C,Tf e]⟩
    .have e1:(l.map λb=>sz fs (dx (nw sf (cs++[⟨a,e0,0⟩])) b))=l.map λb=>sz fs (dx (nw sf cs) b):=VJ λb r=>by rw[C,Tf (λe:b=a=>X (e ▸ r))]
     rw[e1,NV h.wf] at k4;rw[Uj,Vp,wh fs a _ h.wf.here.1];omega
end Hl
namespace Hl
open Go Sp
open Rd (Rk e0 dx Fl Ch ap wo keyed nj)
open Ru (rz fO Out dz ep eM fF dU eR drop1 m7 n9 tN nm vB mB kB Oq)
def n3(s:Nat):List V8:=[nm 99 s,nm 109 s,nm 118 s]
variable {s:Nat}
theorem ks{a:V8}: a∈n3 s↔a=nm 99 s\/a=nm 109 s\/a=nm 118 s:=by simp[n3]
theorem Ba{t:Nat}{a:V8}(h1:a∈n3 s)(h2:a∈n3 t): s=t:=by
 rcases ks.1 h1 with rfl|rfl|rfl <;> rcases ks.1 h2 with h|h|h <;> exact(Ru.sF h).2
theorem KE(s:Nat):(n3 s).Nodup:=by
 have a:nm 99 s≠nm 109 s:=jC (by decide);have b:nm 99 s≠nm 118 s:=jC (by decide);have c:nm 109 s≠nm 118 s:=jC (by decide);simp[n3,a,b,c]
theorem AZ:∀{K:List Nat},K.Nodup->(K.flatMap n3).Nodup
 |[],_=>List.Pairwise.nil
 |s::K,h=>by
  obtain⟨l,m⟩:=List.nodup_cons.1 h;rw[Vq];refine Vc.2 ⟨KE s,AZ m,λa r b j e=>?_⟩;subst e;obtain⟨t,u,j⟩:=UM.1 j;exact l (Ba r j ▸ u)
theorem Ck:∀(K:List Nat) (b:List V8) (a:V8) (j:List V8),K.flatMap n3=b++a::j->∀s,a=nm 118 s\/a=nm 109 s->nm 99 s∈b
 |[],b,a,j,h,s,e=>by
  have:=congrArg List.length h;simp at this
 |t::K,b,a,j,h,s,e=>by
  rw[Vq] at h
  match b,h with
  |[],h =>
   injection h with h _;rcases e with rfl|rfl
   .exact absurd h (jC (by decide))
   .exact absurd h (jC (by decide))
  |[x],h =>
   injection h with l h;injection h with m _;rcases e with rfl|rfl
   .exact absurd m (jC (by decide))
   .rw[<-l,(Ru.sF m).2];exact TV ..
  |[x,y],h =>
   injection h with l h;injection h with m h;injection h with r _;rcases e with rfl|rfl
   .rw[<-l,(Ru.sF r).2];exact TV ..
   .exact absurd r (jC (by decide))
  |x::y::z::b,h =>
   injection h with l h;injection h with m h;injection h with r h;exact Ug _ (Ug _ (Ug _ (Ck K b a j h s e)))
theorem AJ:∀K:List Nat,K.flatMap drop1=(K.flatMap n3).map m7
 |[]=>rfl
 |s::K=>by rw[Vq,Vq,UD,AJ K];rfl
variable {fs:List Fl}
theorem N4{b:Jb}{N:Nat}{f:V8->Option Nat}(h:b.G N fs f)(l:f (nm 99 s)≠U): (∀a∈n3 s,f a≠U)/\((n3 s).map λa=>sz fs (f a)).sum=b.B:=by
 obtain⟨_,_,c,_,⟨⟨i,m,_,u⟩,⟨j,r,_,y⟩,⟨k,z,_,A⟩⟩⟩:=h s l;refine⟨λa C=>?_,?_⟩
 .rcases ks.1 C with rfl|rfl|rfl
  .exact l
  .rw[r];exact λe=>by cases e
  .rw[m];exact λe=>by cases e
 .have F:sz fs (f (nm 118 s))=9*Wn b.vs+8:=by rw[m];show (fs.getD i d0).bytes.size=_;rw[u,<-FD b c]
  have I:sz fs (f (nm 109 s))=12*Wn b.vs+8:=by rw[r];show (fs.getD j d0).bytes.size=_;rw[y,<-EK b c]
  have K:sz fs (f (nm 99 s))=32:=by rw[z];show (fs.getD k d0).bytes.size=_;rw[A,<-EX b s c]
  have e:((n3 s).map λa=>sz fs (f a)).sum=sz fs (f (nm 99 s))+(sz fs (f (nm 109 s))+(sz fs (f (nm 118 s))+0)):=rfl;rw[e,F,I,K];unfold Jb.B;omega
theorem IM{b:Jb}{N:Nat}{f:V8->Option Nat}(h:b.G N fs f): ∀K:List Nat,(∀s∈K,f (nm 99 s)≠U)->((K.flatMap n3).map λa=>sz fs (f a)).sum=Wn K*b.B
 |[],_=>by simp
 |s::K,e=>by
  rw[Vq,UD,List.sum_append_nat,(N4 h (e s (TV ..))).2,IM h K λt j=>e t (Ug _ j),Tr,Nat.succ_mul];omega
theorem Ko{j:Jb}{A G:Bool}{y u:Nat}{r:Sd.Tb}{cs:List Ch}{R:Rk}{K:List Nat}(hi:Is A R fs r cs)(h:Mid j G (Wn fs) y u fs r cs)(P:K.Nodup)(I:∀s∈K,dx (nw r cs) (nm 99 s)≠U)(Q:y∉K):Rs A (fF K) R (λL=>∃m l,Is A L fs m l/\Mid j G (Wn fs) y u fs m l/\(∀b,(b∈K.flatMap n3->dx (nw m l) b=U)/\(¬b∈K.flatMap n3->dx (nw m l) b=dx (nw r cs) b))/\us fs (nw m l)+Wn K*j.B=us fs (nw r cs)) (jD j A G y u):=by
 unfold fF;split
 .rename_i e;subst e;exact Rs.nil ⟨r,cs,hi,h,λb=>⟨λT=>by simp at T,λ_=>O⟩,by simp⟩
 .rw[AJ];have M:=h.g.now.1;refine Rs.app (yD _ hi h (AZ P) (λa z=>?_) (λV a W e s C=>Wh (Ck K V a W e s C)) (λa z _ e=>?_)) λX x=>?_
  .obtain⟨s,C,z⟩:=UM.1 z;exact(N4 M (I s C)).1 a z
  .obtain⟨s,C,z⟩:=UM.1 z;exact Q (Ba (e ▸ z) (ks.2 (Wh O)) ▸ C)
  .obtain⟨l,q,F,i,u1⟩:=x;rw[IM M K I] at u1;have o:zX A (dz X n9) fs fs r (nw r l) l []:=qw q;have e:nw (nw r l) []=nw r l:=Rd.lN F.wf.now.some;refine Rs.op o (λL k=>⟨_,_,_,k,F⟩) λt f=>Rs.nil ⟨_,_,f,⟨F.wf.now,Vw.nil F.wf.now.some F.g.now⟩,λb=>?_,?_⟩
   .rw[e];exact i b
   .rw[e];exact u1
end Hl
namespace Hl
open Go Sp
open Rd (Rk e0 dx Fl Ch ap wo keyed nj)
open Ru (rz fO Out dz ep eM fF dU eR drop1 m7 n9 tN nm vB mB kB Oq zp nU)
theorem FI(c:UInt8)(s:Nat):(nm c s).toList=c::46::Lib.decDigits s:=by
 rw[UK];unfold Ru.nm;rw[U6];simp[Ru.dc]
theorem NG{c d:UInt8}(h:c<d)(s t:Nat):Sd.lt (nm c s) (nm d t)=We:=by
 unfold Sd.lt;rw[FI,FI];simp[Op.bytesLess,h]
theorem Qh{K:List Nat}{a:V8}:zp K a=We↔a∈K.flatMap n3:=by
 rw[nU,UM];exact⟨λ⟨s,b,e⟩=>⟨s,b,ks.2 e⟩,λ⟨s,b,e⟩=>⟨s,b,ks.1 e⟩⟩
theorem F8{j:Jb}{F Q:Bool}{y u:Nat}{z:List Fl}{A:Sd.Tb}{cs:List Ch}{R:Rk}{K:List Nat}(hi:Is F R z A cs)(h:Mid j Q (Wn z) y u z A cs)(hd:R.down=Wg)(hK:∀s∈K,dx (nw A cs) (nm 99 s)≠U)(hy:y≠0->y∈K):Rs F (dU R.fE K) R (λP=>∃r m,Is F P z r m/\Mid j Q (Wn z) y u z r m/\(∀a,dx (nw r m) a≠U->a∈K.flatMap n3)/\(∀s∈K,dx (nw r m) (nm 99 s)≠U)/\us z (nw r m)<=Wn K*j.B) (jD j F Q y u):=by
 have el:R.fE=(Rd.tab (nw A cs)).map (·.1):=by unfold Rk.fE;rw[Tf (by rw[hd];decide),hi.nw]
 have G:=h.wf.here.1;have mem:∀a,a∈R.fE↔dx (nw A cs) a≠U:=λa=>by
  rw[el,Uu];constructor
  .rintro⟨p,f,rfl⟩ e;exact Rd.kh.1 e p ((Rd.fy G).1 f) O
  .intro e;cases hg:dx (nw A cs) a with
   |none=>exact absurd hg e
   |some i=>exact⟨(a,i),(Rd.fy G).2 ((Rd.lk G).1 hg),rfl⟩
 have n:R.fE.Pairwise λa b=>Sd.lt a b=We:=by rw[el];exact List.pairwise_map.2 (Rd.ek _)
 obtain⟨l,hl⟩:∃l,(R.fE.filter λa=>!zp K a)=l:=⟨_,rfl⟩
 have C:∀a,a∈l↔dx (nw A cs) a≠U/\¬a∈K.flatMap n3:=λa=>by
  rw[<-hl,UU,mem,<-Qh];simp
 have T:l.Pairwise λa b=>Sd.lt a b=We:=by rw[<-hl];exact n.sublist List.filter_sublist
 have aa:l.Nodup:=T.imp λe=>Sd.sd e
 have W:∀{P:Rk} {r:Sd.Tb} {m:List Ch},Is F P z r m->Mid j Q (Wn z) y u z r m->(∀b,(b∈l->dx (nw r m) b=U)/\(¬b∈l->dx (nw r m) b=dx (nw A cs) b))->∃r m,Is F P z r m/\Mid j Q (Wn z) y u z r m/\(∀a,dx (nw r m) a≠U->a∈K.flatMap n3)/\(∀s∈K,dx (nw r m) (nm 99 s)≠U)/\us z (nw r m)<=Wn K*j.B:=λ{P r m} i1 I X=>by
  have a1:∀a,dx (nw r m) a≠U->a∈K.flatMap n3:=λa L=>by
   by_cases e:a∈l
   .exact absurd ((X a).1 e) L
   .rw[(X a).2 e] at L;exact Classical.byContradiction λe2=>e ((C a).2 ⟨L,e2⟩)
  have a2:∀s∈K,dx (nw r m) (nm 99 s)≠U:=λs x=>by
   rw[(X _).2 λe=>((C _).1 e).2 (UM.2 ⟨s,x,ks.2 (Wh O)⟩)];exact hK s x
  refine⟨r,m,i1,I,a1,a2,?_⟩;refine To (A1 z (K.flatMap n3) _ I.wf.here.1 λp f=>a1 p.1 λe=>Rd.kh.1 e p f O) ?_;rw[IM I.g.now.1 K a2];exact Te _
 have go:Rs F (l.map m7) R (λP=>∃m,Is F P z A m/\Mid j Q (Wn z) y u z A m/\(∀b,(b∈l->dx (nw A m) b=U)/\(¬b∈l->dx (nw A m) b=dx (nw A cs) b))/\us z (nw A m)+(l.map λa=>sz z (dx (nw A cs) a)).sum=us z (nw A cs)) (jD j F Q y u):=by
  refine yD l hi h aa (λa L=>((C a).1 L).1) (λl1 a l2 e s x=>?_) (λa L h0 e=>?_)
  .by_cases hc:dx (nw A cs) (nm 99 s)=U
   .exact Wi hc
   refine Wh ?_;have L:a∈l:=by rw[e];exact UG _ (TV ..)
   have ab:a∈n3 s:=ks.2 (x.elim (λe=>Wi (Wi e)) λe=>Wi (Wh e));have q:nm 99 s∈l:=(C _).2 ⟨hc,λhk=>((C a).1 L).2 (by
    obtain⟨t,ht,hk⟩:=UM.1 hk;exact UM.2 ⟨t,ht,Ba hk (ks.2 (Wh O)) ▸ ab⟩)⟩
   have M:Sd.lt (nm 99 s) a=We:=by
    rcases x with rfl|rfl
    .exact NG (by decide) _ _
    .exact NG (by decide) _ _
   rw[e] at q T;rcases TB.1 q with V|V
   .exact V
   .rcases TO.1 V with V|V
    .rw[V,Sd.lt_irrefl] at M;cases M
    .have:=(Um.1 (Vt.1 T).2.1).1 _ V;rw[Sd.lt_asymm this] at M;cases M
  .exact((C a).1 L).2 (UM.2 ⟨y,hy h0,ks.2 (Wh e)⟩)
 unfold dU;rw[hl]
 show Rs F (if l.map m7=[] then [] else l.map m7++[n9]) R _ _
 split
 .rename_i e;have ad:l=[]:=by simpa using e
  exact Rs.nil (W hi h λb=>⟨λhb=>(by rw[ad] at hb;cases hb),λ_=>rfl⟩)
 .refine Rs.app go λR1 k1=>?_
  obtain⟨m,i1,I,X,_⟩:=k1;have o:zX F (dz R1 n9) z z A (nw A m) m []:=qw i1;have e:nw (nw A m) []=nw A m:=Rd.lN I.wf.now.some;exact Rs.op o (λP k=>⟨_,_,_,k,I⟩) λR2 i2=>Rs.nil (W i2 ⟨I.wf.now,Vw.nil I.wf.now.some I.g.now⟩ λb=>by rw[e];exact X b)
end Hl
namespace Hl
open Go Sp
open Rd (Rk e0 dx Fl Ch ap wo keyed nj)
open Ru (rz fO Out dz ep eM fF dU eR drop1 m7 n9 tN nm vB mB kB Oq zp nU me)
def ij(K:List Nat):Nat:=K.getLast?.getD 0
theorem kl(K:List Nat)(s:Nat):ij (K++[s])=s:=by unfold ij;simp
variable {K:List Nat}
theorem vH(h:ij K≠0): ij K∈K:=by
 rcases VB K with e|⟨b,s,e⟩
 .subst e;exact absurd O h
 .rw[VC] at e;subst e;rw[kl];simp
theorem rk(h:me K): ∀s∈K,s<=ij K:=λs j=>by
 rcases VB K with e|⟨l,t,e⟩
 .subst e;cases j
 .rw[VC] at e;subst e;rw[kl];rcases TB.1 j with b|b
  .exact Ub ((Vt.1 h).2.2 s b t (List.mem_singleton_self t))
  .rw[TL.1 b];exact Te _
def Lp(b:Jb)(m r:Bool)(R:Rk)(K:List Nat):Prop := ∃l e j,Is m R l e j/\Mid b r (Wn l) (ij K) ((b.keep+1)*b.B) l e j/\(∀a,dx (nw e j) a≠U->a∈K.flatMap n3)/\(∀s∈K,dx (nw e j) (nm 99 s)≠U)/\us l (nw e j)<=Wn K*b.B
theorem Lp.bad{b:Jb}{e j:Bool}{R:Rk}(h:Lp b e j R K): jD b e j (ij K) ((b.keep+1)*b.B) R:=by
 obtain⟨l,m,r,u,y,_⟩:=h;exact⟨l,m,r,u,y⟩
theorem SI{b:Jb}(e:b.Ok):(b.keep+1)*b.B<=549755813888:=by
 have l:=e.keep.2;have m:=e.dd.FW;have j:b.B<=1392:=by unfold Jb.B;omega
 have r:=Nat.mul_le_mul (show b.keep+1<=6 by omega) j;omega
theorem G0{j:Jb}(V:j.Ok){A W:Bool}{R:Rk}{s:Nat}{c:Cfg}(h:Lp j A W R K)(k:me K)(hk:Wn K<=j.keep)(hn:ij K<s)(x:s%j.every=0)(hc:j.at' s=S c):Rs A (eM c (Wn j.vs) s j.dd) R (λR1=>Rs A (fF ((K++[s]).take (Wn K+1-j.keep))) R1 (λR2=>Lp j A W R2 ((K++[s]).drop (Wn K+1-j.keep))) (jD j A W s ((j.keep+1)*j.B))) (jD j A W (ij K) ((j.keep+1)*j.B)):=by
 obtain⟨fs,sf,cs,hi,hm,C,hp,hu⟩:=h;have ag:=(xP V hc).1;have af:=V.cap;have hB:=SI V;have q:dx (nw sf cs) (nm 99 s)=U:=Classical.byContradiction λe=>by
  obtain⟨t,m,r⟩:=UM.1 (C _ e);have:=rk k t m;have:=Ba r (ks.2 (Wh O));omega
 have i:us fs (nw sf cs)+j.B<=(j.keep+1)*j.B:=by
  rw[Nat.succ_mul];exact VX (To hu (VH _ hk)) _
 refine(Ix hi hm q (by omega) x (by omega) hc i hB).imp (λR1 k1=>?_) λ_ h=>h
 obtain⟨f,y,i1,p,u1,a1,p1⟩:=k1;have X:nw y []=y:=Rd.lN p.wf.some;have F:me (K++[s]):=Vt.2 ⟨k,List.pairwise_singleton _ _,λa C b G=>by rw[TL.1 G];exact Nat.lt_of_le_of_lt (rk k a C) hn⟩;have nd:(K++[s]).Nodup:=F.imp λh=>Nat.ne_of_lt h
 have u:∀t∈K++[s],dx (nw y []) (nm 99 t)≠U:=λt m=>by
  rw[X];rcases TB.1 m with r|r
  .exact p1 t (hp t r)
  .rw[TL.1 r];have:=p.g.now.2.1 (by omega);rw[X] at this;exact this
 have I:(K++[s]).length=Wn K+1:=by simp
 have o:=V.keep.1;have L:∃K',(K++[s]).drop (Wn K+1-j.keep)=K'++[s]:=⟨K.drop (Wn K+1-j.keep),VN (by omega)⟩
 obtain⟨K',M⟩:=L;have l:=Un (Wn K+1-j.keep) (K++[s]);have P:=nd;rw[<-l] at P;obtain⟨n1,n2,Q⟩:=Vc.1 P;have n:s∉(K++[s]).take (Wn K+1-j.keep):=λe=>Q s e s (by rw[M];simp) O
 refine(Ko i1 p n1 (λt m=>u t (Vx m)) n).imp (λR2 k2=>?_) λ_ h=>h
 obtain⟨aa,ab,i2,m2,g2,u2⟩:=k2;have ad:∀t∈(K++[s]).drop (Wn K+1-j.keep),∀a∈n3 t,¬a∈((K++[s]).take (Wn K+1-j.keep)).flatMap n3:=λt m a C G=>by
  obtain⟨t',ae,G⟩:=UM.1 G;exact Q t' ae t m (Ba G C)
 refine⟨f,aa,ab,i2,by rw[M,kl];exact m2,λa z=>?_,λt m=>?_,?_⟩
 .by_cases e:a∈((K++[s]).take (Wn K+1-j.keep)).flatMap n3
  .exact absurd ((g2 a).1 e) z
  .rw[(g2 a).2 e,X] at z;have T:a∈(K++[s]).flatMap n3:=by
    rw[Vg];rcases a1 a z with r|r
    .exact UT _ (C a r)
    .exact UG _ (UM.2 ⟨s,List.mem_singleton_self s,ks.2 r⟩)
   rw[<-l,Vg] at T;exact(TB.1 T).elim (λh=>absurd h e) id
 .rw[(g2 _).2 (ad t m _ (ks.2 (Wh O)))];exact u t (UR m)
 .rw[X] at u2;have l1:((K++[s]).take (Wn K+1-j.keep)).length+((K++[s]).drop (Wn K+1-j.keep)).length=Wn K+1:=by rw[<-TT,l,I]
  have l2:(((K++[s]).take (Wn K+1-j.keep)).length+((K++[s]).drop (Wn K+1-j.keep)).length)*j.B=Wn K*j.B+j.B:=by rw[l1,Nat.succ_mul]
  rw[Nat.add_mul] at l2;omega
end Hl
namespace Hl
open Go Sp
open Rd (Rk e0 dx Fl Ch ap wo keyed nj)
open Ru (rz fO Out dz ep eM fF dU eR drop1 m7 n9 tN nm vB mB kB Oq zp nU me)
theorem MB{e q s:Nat}(he:1<=e)(h1:q*e<s)(h2:s<=(q+1)*e)(j:s%e=0):s=(q+1)*e:=by
 have b:s=s/e*e:=by have:=Nat.div_add_mod s e;rw[j,Uo,Vj] at this;exact this.symm
 rw[b] at h1 h2;have l:=Nat.lt_of_mul_lt_mul_right h1;have m:=Nat.le_of_mul_le_mul_right h2 he;rw[b,show s/e=q+1 by omega]
theorem K6{j:Jb}(Q:j.Ok){A x:Bool}{dp:Nat}(t:dp%j.every=0):∀(g s:Nat) (c:Cfg) (K:List Nat) (sv:Nat) (R:Rk),j.at' s=S c->Lp j A x R K->me K->Wn K<=j.keep->ij K=(dp/j.every+sv)*j.every->(ij K<s\/(s=dp/\sv=0))->s<=(dp/j.every+sv+1)*j.every->
  ∀o,o=rz j.P j.Es j.cap j.every j.keep j.dd (Wn j.vs) dp g s c K sv R->(o.e=0\/o.e=er A)/\jD j A x ((dp/j.every+o.saved)*j.every) ((j.keep+1)*j.B) o.R
 |0,s,c,K,sv,R,q,T,V,p,C,n,hx,o,l=>by
  rw[rz] at l;subst l;exact⟨Wh O,C ▸ T.bad⟩
 |g+1,s,c,K,sv,R,q,T,V,p,C,n,hx,o,l=>by
  have he:=Q.every;have aa:dp/j.every*j.every=dp:=by have:=Nat.div_add_mod dp j.every;rw[t,Uo,Vj] at this;exact this
  have m:=T.bad;rw[C] at m;rw[rz] at l;by_cases y:quiet c s=We
  .rw[Tg y] at l;subst l;exact⟨Wh O,m⟩
  rw[Tf y] at l;by_cases r:j.cap<=s
  .rw[Tg r] at l;subst l;exact⟨Wh O,m⟩
  rw[Tf r] at l;by_cases u:dp<s/\s%j.every=0
  .rw[Tg u] at l;have F:ij K<s:=n.elim id λe=>by omega
   have G:s=(dp/j.every+sv+1)*j.every:=MB he (C ▸ F) hx u.2;have W:jD j A x s ((j.keep+1)*j.B)=jD j A x ((dp/j.every+(sv+1))*j.every) ((j.keep+1)*j.B):=by rw[<-Nat.add_assoc,<-G]
   rcases G0 Q T V p F u.2 q with ⟨I,M⟩|⟨I,M⟩
   .rw[Tf (by rw[I];simp)] at l;rcases M with ⟨h,f⟩|⟨h,f⟩
    .rw[Tf (by rw[h];simp)] at l;have ab:=Q.keep.1;have X:me (K++[s]):=Vt.2 ⟨V,List.pairwise_singleton _ _,λa z b hb=>by rw[TL.1 hb];exact Nat.lt_of_le_of_lt (rk V a z) F⟩;have e1:(K++[s]).drop (Wn K+1-j.keep)=K.drop (Wn K+1-j.keep)++[s]:=VN (by omega);have L:ij ((K++[s]).drop (Wn K+1-j.keep))=s:=by rw[e1,kl]
     have k:=f.bad;rw[L,W] at k;cases z:lK j.P j.Es c s (Wn j.vs) with
     |error i =>
      rw[z] at l;subst l;exact⟨Wh O,k⟩
     |ok a =>
      rw[z] at l;refine K6 Q t g (s+1) _ _ (sv+1) _ (uB q y r z) f (X.sublist (List.drop_sublist _ _)) ?_ ?_ (Wh ?_) ?_ o l
      .rw[Us,TT,VK];omega
      .rw[L,<-Nat.add_assoc];exact G
      .rw[L];omega
      .rw[show (dp/j.every+(sv+1)+1)=(dp/j.every+sv+1)+1 by omega,Nat.succ_mul,<-G];omega
    .rw[Tg (by rw[h];exact xu A)] at l;subst l;exact⟨Wi h,by rw[<-W];exact f⟩
   .rw[Tg (by rw[I];exact xu A)] at l;subst l;exact⟨Wi I,by rw[C] at M;exact M⟩
  .rw[Tf u] at l;cases z:lK j.P j.Es c s (Wn j.vs) with
   |error i =>
    rw[z] at l;subst l;exact⟨Wh O,m⟩
   |ok a =>
    rw[z] at l;refine K6 Q t g (s+1) _ K sv R (uB q y r z) T V p C (Wh ?_) ?_ o l
    .rcases n with I|⟨I,M⟩
     .omega
     .rw[C,M,Uo,aa];omega
    .refine Nat.lt_of_le_of_ne hx λe=>u ⟨?_,by rw[e];exact Nat.mul_mod_left _ _⟩
     rw[e];have I:dp/j.every*j.every<(dp/j.every+sv+1)*j.every:=Nat.mul_lt_mul_of_pos_right (by omega) he;omega
end Hl
namespace Hl
open Go Sp
open Rd (Rk e0 dx Fl Ch ap wo keyed nj Ly oZ Hs)
open Ru (rz fO Out dz ep eM fF dU eR drop1 m7 n9 tN nm vB mB kB rB gC u64 pT num Oq zp nU me)
theorem yL{x:Int}(h:i64 x):pT (u64 x)=x:=by
 have b : -9223372036854775808<=x/\x<=9223372036854775807:=h;unfold pT u64;split <;> omega
theorem p8:(256:Nat) ^ 8=18446744073709551616:=by decide
theorem p4:(256:Nat) ^ 4=4294967296:=by decide
theorem yz(a b:V8){x y k:Nat}(h:a.size=x)(e:b.size=k)(j:y=x+k):(a++b).extract x y=b:=Ru.xV a b h (by omega)
theorem NY(c:Cfg):∀(n i:Nat),i<n->(vB c n).extract (9*i) (9*i+8)=nI (u64 (c.val.getD i 0)) 8
 |0,i,h=>by omega
 |n+1,i,h=>by
  rw[vB];by_cases hi:i<n
  .rw[Ru.eI _ _ (by rw[TC,Ru.fA,dN];omega),Ru.eI _ _ (by rw[Ru.fA];omega)];exact NY c n i hi
  .obtain rfl:i=n:=by omega
   rw[Ru.eI _ _ (by rw[TC,Ru.fA,dN];omega),yz _ _ (Ru.fA c i) (dN _ _) rfl]
theorem NR(c:Cfg):∀(n i:Nat),i<n->bt (vB c n) (9*i+8)=if c.fD.getD i Wg=We then 1 else 0
 |0,i,h=>by omega
 |n+1,i,h=>by
  rw[vB];by_cases hi:i<n
  .rw[kP _ _ _ (by rw[TC,Ru.fA,dN];omega),kP _ _ _ (by rw[Ru.fA];omega)];exact NR c n i hi
  .obtain rfl:i=n:=by omega
   rw[nr _ _ 0 (9*i+8) (by rw[TC,Ru.fA,dN]) (by rw[Ru.qM];omega)];cases c.fD.getD i Wg <;> decide
theorem Og(c:Cfg):∀(n i:Nat),i<n->(mB c n).extract (12*i) (12*i+4)=nI (u64 (c.iH.getD i 0)) 4
 |0,i,h=>by omega
 |n+1,i,h=>by
  rw[mB];by_cases hi:i<n
  .rw[Ru.eI _ _ (by rw[TC,Ru.ga,dN];omega),Ru.eI _ _ (by rw[Ru.ga];omega)];exact Og c n i hi
  .obtain rfl:i=n:=by omega
   rw[Ru.eI _ _ (by rw[TC,Ru.ga,dN];omega),yz _ _ (Ru.ga c i) (dN _ _) rfl]
theorem NM(c:Cfg):∀(n i:Nat),i<n->(mB c n).extract (12*i+4) (12*i+4+8)=nI (u64 (c.jf.getD i 0)) 8
 |0,i,h=>by omega
 |n+1,i,h=>by
  rw[mB];by_cases hi:i<n
  .rw[Ru.eI _ _ (by rw[TC,Ru.ga,dN];omega),Ru.eI _ _ (by rw[Ru.ga];omega)];exact NM c n i hi
  .obtain rfl:i=n:=by omega
   rw[yz _ _ (by rw[TC,Ru.ga,dN]) (dN _ _) rfl]
theorem pC{α : Type}{l:List α}{d : α}{n:Nat}{f:Nat->α}(b:Wn l=n)(h:∀i,i<n->f i=l.getD i d):(List.range n).map f=l:=by
 refine List.ext_getElem (by simp[b]) λi j e=>?_
 rw[List.getElem_map,List.getElem_range,h i (by omega),Ty,Tw e];rfl
theorem back{c:Cfg}{n:Nat}(h:eY n c)(s dd a b:Nat):gC (vB c n) (mB c n) (kB s c.all dd a b) n=c:=by
 have e:((List.range n).map λi=>pT (num (vB c n) (9*i) 8))=c.val:=pC (d:=0) h.lv λi hi=>by
  rw[Ru.rM (NY _ n i hi) (by rw[Ru.fA];omega),p8,Nat.mod_eq_of_lt (Ru.qL _)];exact yL (h.v _ (lh (by rw[h.lv];exact hi)))
 have j:((List.range n).map λi=>bt (vB c n) (9*i+8) == 1)=c.fD:=pC (d:=false) h.lr λi hi=>by
  rw[NR _ n i hi];cases c.fD.getD i Wg <;> rfl
 have l:((List.range n).map λi=>((num (mB c n) (12*i) 4:Nat):Int))=c.iH:=pC (d:=0) h.lg λi hi=>by
  rw[Ru.rM (Og _ n i hi) (by rw[Ru.ga];omega),p4];have u:=h.g _ (lh (d:=0) (show i<Wn c.iH by rw[h.lg];exact hi));unfold u64;omega
 have m:((List.range n).map λi=>pT (num (mB c n) (12*i+4) 8))=c.jf:=pC (d:=0) h.li λi hi=>by
  rw[Ru.rM (NM _ n i hi) (by rw[Ru.ga];omega),p8,Nat.mod_eq_of_lt (Ru.qL _)];exact yL (h.i _ (lh (by rw[h.li];exact hi)))
 have r:pT (num (kB s c.all dd a b) 4 8)=c.all:=by rw[Ru.QY];exact yL h.a
 unfold gC;rw[e,j,l,m,r]
theorem Nw(B:V8)(k:Int):Ly ⟨B,B.size⟩ k=⟨B,B.size⟩:=by
 have e:Hs k (B.size-B.size)=0:=by unfold Hs;omega
 unfold Ly
 show (⟨B.extract 0 (B.size+Hs k (B.size-B.size)),B.size+Hs k (B.size-B.size)⟩:Fl)=_
 rw[e,Uo,Ru.pg]
theorem Om(F:Fl)(k:Int):(Ly F k).bytes.size<=F.bytes.size:=by
 unfold Ly
 show (F.bytes.extract 0 _).size<=_
 rw[Tz];omega
theorem iO(K:Nat->Int):∀(L:Sd.Tb) (i:Nat) (F:List Fl),(oZ K i F L).length=Wn F
 |[],i,F=>rfl
 |p::L,i,F=>by rw[oZ,iO K L,U0]
theorem mg{α : Type}(l:List α)(i j:Nat)(x d : α):(l.set i x).getD j d=if i=j/\j<Wn l then x else l.getD j d:=by
 rw[Ty,Ty,List.getElem?_set];by_cases e:i=j
 .subst e;by_cases h:i<Wn l
  .simp[h]
  .simp[h]
 .simp[e]
theorem rO(K:Nat->Int){B:V8}{j:Nat}:∀(L:Sd.Tb) (i:Nat) (F:List Fl),F.getD j d0=⟨B,B.size⟩->(oZ K i F L).getD j d0=⟨B,B.size⟩
 |[],i,F,h=>h
 |p::L,i,F,h=>by
  rw[oZ];refine rO K L _ _ ?_;rw[mg];split
  .rename_i e;obtain⟨e,_⟩:=e;rw[e,h];exact Nw B _
  .exact h
theorem Fu(K:Nat->Int){j:Nat}:∀(L:Sd.Tb) (i:Nat) (F:List Fl),((oZ K i F L).getD j d0).bytes.size<=(F.getD j d0).bytes.size
 |[],i,F=>Te _
 |p::L,i,F=>by
  rw[oZ];refine To (Fu K L _ _) ?_;rw[mg];split
  .rename_i e;obtain⟨e,_⟩:=e;rw[e];exact Om _ _
  .exact Te _
theorem NX{e b:List Fl}(h:∀j,(b.getD j d0).bytes.size<=(e.getD j d0).bytes.size):∀L:Sd.Tb,us b L<=us e L
 |[]=>Te _
 |p::L=>by rw[ug,ug];exact Nat.add_le_add (h _) (NX h L)
theorem oE{L:Sd.Tb}(h:keyed L)(a:V8):dx (Rd.tab L) a=dx L a:=Rd.yu λv=>by
 rw[Rd.lk (Rd.lZ (Rd.ek L)),Rd.lk h,Rd.fy h]
theorem xO{b:Jb}{y u:Nat}{R:Rk}(h:jD b We We y u R)(n:Int)(K:Nat->Int):jD b We We y u (R.dW n K):=by
 obtain⟨F,M,m,hi,C⟩:=h;have G:R.dir n.toNat=nw M (m.take (min n.toNat (Wn m))):=by
  unfold Rk.dir Hl.nw;rw[hi.s,hi.c]
  congr 1
  rw[UY];split
  .rfl
  .rw[Ur (by omega),Ut]
 obtain⟨P,Q,V⟩:=C.g (min n.toNat (Wn m)) (Nat.min_le_right _ _) (Wh rfl);have l:=C.wf.keyed (min n.toNat (Wn m));have r:=C.wf.nn (min n.toNat (Wn m));have A:=C.wf.ix (min n.toNat (Wn m));obtain⟨L,W⟩:∃L,nw M (m.take (min n.toNat (Wn m)))=L:=⟨_,rfl⟩
 rw[W] at G P Q V l r A;have X:(R.dW n K).files=oZ K 0 F (Rd.tab L):=by show oZ K 0 R.files (Rd.tab (R.dir n.toNat))=_;rw[hi.f,G]
 have q:(R.dW n K).safe=Rd.tab L:=by show Rd.tab (R.dir n.toNat)=_;rw[G]
 refine⟨_,_,[],⟨X,q,rfl,hi.a,λe=>by cases e⟩,⟨⟨Rd.lZ (Rd.ek L),λp B=>r p ((Rd.fy l).1 B),λp B=>?_,λc I=>by cases I⟩,Vw.nil (λp B=>r p ((Rd.fy l).1 B)) ⟨λs T=>?_,λt=>?_,?_⟩⟩⟩
 .rw[iO];exact A p ((Rd.fy l).1 B)
 .rw[oE l] at T;obtain⟨x,z,c,I,⟨⟨i,o,a2,a3⟩,⟨j,b1,b2,b3⟩,⟨k,c1,c2,c3⟩⟩⟩:=P s T;refine⟨x,z,c,I,⟨⟨i,(oE l _).trans o,by rw[iO];exact a2,rO K _ _ _ a3⟩,⟨j,(oE l _).trans b1,by rw[iO];exact b2,rO K _ _ _ b3⟩,⟨k,(oE l _).trans c1,by rw[iO];exact c2,rO K _ _ _ c3⟩⟩⟩
 .rw[oE l];exact Q t
 .refine To (NX (λj=>Fu K _ _ _) _) ?_;have e:us F (Rd.tab L)=us F L:=((Rd.rC L l).map _).sum_nat;omega
end Hl
namespace Hl
open Go Sp
open Rd (Rk e0 dx Fl Ch ap wo keyed nj)
open Ru (rz fO Out dz ep eM fF dU eR drop1 m7 n9 tN nm vB mB kB Oq zp nU me og fS qs tU Cw fw)
open Classical
variable {cs:List Ch}{fs:List Fl}{sf:Sd.Tb}{md:Bool}{R:Rk}
theorem IV(h:Is md R fs sf cs)(hd:R.down=Wg){a:V8}{i:Nat}(hi:dx (nw sf cs) a=S i): R.rd a=(fs.getD i d0).bytes:=by
 unfold Rk.rd Rk.fl;rw[Tf (by rw[hd];decide),h.nw,hi,h.f]
theorem OX(h:Is md R fs sf cs)(hd:R.down=Wg){a:V8}(hi:dx (nw sf cs) a=U): R.rd a=e0:=by
 unfold Rk.rd;rw[Tf (by rw[hd];decide),h.nw,hi]
theorem Ah{b:Jb}(y:b.Ok){N:Nat}(h:Is md R fs sf cs)(hd:R.down=Wg)(B:b.G N fs (dx (nw sf cs))){s:Nat}(C:dx (nw sf cs) (nm 99 s)≠U): Cw R.rd (Wn b.vs) b.dd s/\b.at' s=S (fw R.rd (Wn b.vs) s):=by
 obtain⟨_,_,c,z,⟨⟨i,F,_,I⟩,⟨j,K,_,L⟩,⟨k,M,_,P⟩⟩⟩:=B s C;obtain⟨Q,u⟩:=xP y z;have A:=y.cap;have e:R.rd (nm 118 s)=dt (vB c (Wn b.vs)):=by rw[IV h hd F,I];rfl
 have l:R.rd (nm 109 s)=dt (mB c (Wn b.vs)):=by rw[IV h hd K,L];rfl
 have m:R.rd (nm 99 s)=dt (kB s c.all b.dd (gW (dt (vB c (Wn b.vs)))) (gW (dt (mB c (Wn b.vs))))):=by rw[IV h hd M,P];rfl
 have r:fw R.rd (Wn b.vs) s=c:=by unfold fw;rw[e,l,m,gU,gU,gU];exact back u _ _ _ _
 refine⟨⟨by rw[e];exact ud _,by rw[l];exact ud _,by rw[m];exact ud _,by rw[e,gU,Ru.fA],by rw[l,gU,Ru.ga],by rw[m,gU,Ru.lX],by omega,?_,?_,?_⟩,by rw[r];exact z⟩
 .rw[r,e,gU]
 .rw[r,l,gU]
 .rw[r,m,gU]
theorem KJ{n dd s:Nat}(h:Is md R fs sf cs)(hd:R.down=Wg)(b:Cw R.rd n dd s): dx (nw sf cs) (nm 99 s)≠U:=λe=>by
 have:=b.S6;rw[OX h hd e] at this;revert this;decide
theorem Lx(h:Is md R fs sf cs)(hd:R.down=Wg)(m:Wf fs sf cs): R.fE.Nodup:=by
 have l:R.fE=(Rd.tab (nw sf cs)).map (·.1):=by unfold Rk.fE;rw[Tf (by rw[hd];decide),h.nw]
 have j:R.fE.Pairwise λa b=>Sd.lt a b=We:=by rw[l];exact List.pairwise_map.2 (Rd.ek _)
 exact j.imp λe=>Sd.sd e
theorem found{b:Jb}(r:b.Ok){z:Bool}{N y u:Nat}(h:Is md R fs sf cs)(hd:R.down=Wg)(l:Mid b z N y u fs sf cs)(s:Nat): s∈og (fS R.rd (Wn b.vs) b.dd R.fE)↔dx (nw sf cs) (nm 99 s)≠U:=by
 have e:=l.wf.here.1;have A:R.fE=(Rd.tab (nw sf cs)).map (·.1):=by unfold Rk.fE;rw[Tf (by rw[hd];decide),h.nw]
 have B:R.fE.Nodup:=Lx h hd l.wf;rw[Ru.pA];rw[Ru.sx (Ru.tt B)];unfold qs;rw[List.mem_filterMap];constructor
 .rintro⟨a,F,j⟩;exact KJ h hd (Ru.nA j).2
 .intro j;refine⟨nm 99 s,?_,?_⟩
  .rw[A,Uu];cases m:dx (nw sf cs) (nm 99 s) with
   |none=>exact absurd m j
   |some i=>exact⟨(nm 99 s,i),(Rd.fy e).2 ((Rd.lk e).1 m),rfl⟩
  .have C:=(Ah r h hd l.g.now.1 j).1;unfold tU;rw[Ru.JV]
   show (if (nm 99 s).extract 0 2=⟨#[99,46]⟩/\_ then S s else U)=_
   rw[Tg ⟨Ru.rR _ _,C⟩]
theorem KI{b:Jb}(F:b.Ok){G:Bool}{y:Nat}(h:jD b md G y ((b.keep+1)*b.B) R)(hd:R.down=Wg)(x:G=We->R.dX=[]){K:List Nat}(hK:K=og (fS R.rd (Wn b.vs) b.dd R.fE)){M:Cfg}(Q:M=if K=[] then fX b.P b.vs else fw R.rd (Wn b.vs) (ij K)){o:Ru.Out}(I:o=if (ep R (dU R.fE (K.drop (Wn K-b.keep)))).1≠0 then ⟨fO,0,(ep R (dU R.fE (K.drop (Wn K-b.keep)))).1,(ep R (dU R.fE (K.drop (Wn K-b.keep)))).2⟩ else rz b.P b.Es b.cap b.every b.keep b.dd (Wn b.vs) (ij K) ((b.cap-ij K)+1) (ij K) M (K.drop (Wn K-b.keep)) 0 (ep R (dU R.fE (K.drop (Wn K-b.keep)))).2):y<=ij K/\ij K%b.every=0/\(o.e=0\/o.e=er md)/\jD b md G ((ij K/b.every+o.saved)*b.every) ((b.keep+1)*b.B) o.R/\(o.e=0->o.res=FV b.P b.vs b.Es b.cap)/\(o.e≠0->o.res=fO):=by
 obtain⟨fs,sf,cs,hi,L⟩:=h;have T:∀s,s∈K↔dx (nw sf cs) (nm 99 s)≠U:=λs=>by rw[hK];exact found F hi hd L s
 have el:R.fE=(Rd.tab (nw sf cs)).map (·.1):=by unfold Rk.fE;rw[Tf (by rw[hd];decide),hi.nw]
 have nd:R.fE.Nodup:=Lx hi hd L.wf;have hs:me K:=by rw[hK];exact Ru.xz (Ru.l7 nd)
 have hG:=L.g.now.1;have q:y<=ij K:=by
  by_cases j:y=0
  .omega
  .exact rk hs y ((T y).2 (L.g.now.2.1 j))
 have u:ij K%b.every=0:=by
  by_cases j:ij K=0
  .rw[j];exact Nat.zero_mod _
  .exact(hG _ ((T _).1 (vH j))).2.1
 have z:b.at' (ij K)=S M:=by
  by_cases j:K=[]
  .rw[Q,Tg j,j];rfl
  .rw[Q,Tf j];have V:ij K∈K:=by
    rcases VB K with e|⟨K',t,e⟩
    .exact absurd e j
    .rw[VC] at e;rw[e,kl];simp
   exact(Ah F hi hd hG ((T _).1 V)).2
 obtain⟨m,l⟩:∃m,K.drop (Wn K-b.keep)=m:=⟨_,rfl⟩
 rw[l] at I;have i:=F.keep.1;have sub:∀s∈m,s∈K:=λs r=>by rw[<-l] at r;exact UR r
 have A:ij m=ij K:=by
  rcases VB K with e|⟨K',t,e⟩
  .rw[<-l,e,List.drop_nil]
  .rw[VC] at e;rw[<-l,e,VN (by rw[TT,VK];omega),kl,kl]
 have f:Wn m<=b.keep:=by rw[<-l,Us];omega
 have p:me m:=by rw[<-l];exact hs.sublist (List.drop_sublist _ _)
 have n:Mid b G (Wn fs) (ij K) ((b.keep+1)*b.B) fs sf cs:=⟨L.wf,λk hk W=>by
  have e:nw sf (cs.take k)=nw sf cs:=by
   rcases W with e|e
   .have:=x e;rw[hi.c] at this;rw[this,List.take_nil]
   .rw[e,Ut]
  rw[e];obtain⟨C,X,h3⟩:=L.g.now;exact⟨C,λj=>(T _).1 (vH j),h3⟩⟩
 have aa:=F8 (K:=m) hi n hd (λs r=>(T s).1 (sub s r)) (λj=>by rw[<-A] at j ⊢;exact vH j);refine⟨q,u,?_⟩;have hq:(ij K/b.every+0)*b.every=ij K:=by have:=Nat.div_add_mod (ij K) b.every;rw[u,Uo,Vj] at this;rw[Uo];exact this
 rcases aa with ⟨C,X⟩|⟨C,X⟩
 .rw[Tf (by rw[C];simp)] at I;have hL:Lp b md G (ep R (dU R.fE m)).2 m:=by
   obtain⟨ab,ad,x1,x2,x3,x4,x5⟩:=X;exact⟨fs,ab,ad,x1,by rw[A];exact x2,x3,x4,x5⟩
  have W:=K6 F u _ _ M m 0 _ z hL p f (by rw[A,hq]) (Wi ⟨O,O⟩) (by rw[Nat.add_mul,hq];omega) o I;have hr:=Dj F (dp:=ij K) ((b.cap-ij K)+1) (ij K) M m 0 (ep R (dU R.fE m)).2 z;rw[<-I] at hr;exact⟨W.1,W.2,λe=>by rw[hr.1 e];exact(Ie F z).symm,hr.2⟩
 .rw[Tg (by rw[C];exact xu md)] at I;subst I;exact⟨Wi C,by show jD b md G ((ij K/b.every+0)*b.every) _ _;rw[hq];exact X,λe=>absurd (C.symm.trans e) (xu md),λ_=>O⟩
end Hl
namespace Hl
open Go Sp
open Rd (Rk e0 dx Fl Ch)
open Ru (pQ jG pS po tE BB EP pW fO)
open Classical
def jb(g p:V8)(every keep cap:Nat):Jb:=⟨Sp.ir p,pP g,jl g,cap,every,keep,pW g p cap⟩
theorem Lw{g p:V8}{every keep cap:Nat}(h:pQ g p every keep cap=0)(b:Small g):(jb g p every keep cap).Ok:=by
 obtain⟨e,u,y,z⟩:=Ru.rh h;obtain⟨j,l⟩:=Ru.jt e;obtain⟨m,r⟩:=qG j l b;exact⟨m,lQ,r,by show cap<=200;omega,by show 1<=every;omega,by show 1<=keep;omega,by show keep<=5;omega⟩
def cY(g:V8)(keep:Nat):Nat:=(keep+1)*(21*(jl g).length+48)
theorem oy{g p:V8}{every keep cap:Nat}(r:pQ g p every keep cap=0)(b:Small g){j l:Bool}{y:Nat}{R:Rk}(h:jD (jb g p every keep cap) j l y (cY g keep) R)(hd:R.down=Wg)(m:l=We->R.dX=[]):y<=pS g p every keep cap R/\pS g p every keep cap R%every=0/\((jG g p every keep cap R).e=0\/(jG g p every keep cap R).e=er j)/\jD (jb g p every keep cap) j l ((pS g p every keep cap R/every+(jG g p every keep cap R).saved)*every) (cY g keep) (jG g p every keep cap R).R/\((jG g p every keep cap R).e=0->(jG g p every keep cap R).res=FV (Sp.ir p) (jl g) (pP g) cap)/\((jG g p every keep cap R).e≠0->(jG g p every keep cap R).res=fO):=by
 have u:R.nB=0:=by unfold Rk.nB;rw[Tf (by rw[hd];decide)]
 obtain⟨z,A⟩:=Ru.y9 (g:=g) (p:=p) (every:=every) (keep:=keep) (cap:=cap) (Q:=R) r u rfl;rw[z,A];exact KI (Lw r b) h hd m O O O
end Hl
namespace Hl
open Go Sp
open Rd (Rk e0 dx Fl Ch)
open Pk (Sm)
open Ru (pQ jG pS po tE BB EP pW fO rz dz ep eM fF dU gA uG ru)
open Classical
variable {P:Pg}{keep cap dd n:Nat}{Es:List Ed}
theorem DO{every dp b:Nat}(j:n<=64)(hb:1000<=b): ∀(g s:Nat) (c:Cfg) (K:List Nat) (sv:Nat) (R:Rk) (nn:Nat),Sm R nn b->∃k,(rz P Es cap every keep dd n dp g s c K sv R).saved=sv+k/\Sm (rz P Es cap every keep dd n dp g s c K sv R).R (nn+8*(k+1)) b
 |0,s,c,K,sv,R,nn,h=>by rw[rz];exact⟨0,O,h.mono (by omega) V2⟩
 |g+1,s,c,K,sv,R,nn,h=>by
  have l:Sm R (nn+8*(0+1)) b:=h.mono (by omega) V2;have r:Sm (ep R (eM c n s dd)).2 (nn+8) b:=(gA.save c n s dd h j hb).all;have m:Sm (ep (ep R (eM c n s dd)).2 (fF ((K++[s]).take (Wn K+1-keep)))).2 (nn+8) b:=(gA.tK (λo z=>(uG _ o z).1) r).all;rw[rz];split
  .exact⟨0,O,l⟩
  .split
   .exact⟨0,O,l⟩
   .split
    .split
     .exact⟨0,O,r⟩
     .split
      .exact⟨1,O,m.mono (by omega) V2⟩
      .split
       .exact⟨1,O,m.mono (by omega) V2⟩
       .obtain⟨k,e,A⟩:=DO j hb g (s+1) _ _ (sv+1) _ _ m;exact⟨k+1,by rw[e];omega,A.mono (by omega) V2⟩
    .split
     .exact⟨0,O,l⟩
     .exact DO j hb g _ _ _ _ _ _ h
variable {R:Rk}
theorem Mr{g p:V8}{every keep cap:Int}{nn b:Nat}(h:Sm R nn b)(l:Small g)(hb:1000<=b): Sm (jG g p every keep cap R).R (nn+8*((jG g p every keep cap R).saved+1)) b:=by
 have r:Sm R (nn+8*(0+1)) b:=h.mono (by omega) V2;unfold jG;split
 .exact r
 .rename_i m;have m:pQ g p every keep cap=0:=by simpa using m
  split
  .exact r
  .obtain⟨z,I,K,L⟩:=Ru.rh m;obtain⟨A,B⟩:=Ru.jt z;have C:=(qG A B l).1;unfold EP;have j:Sm (ep R (dU R.fE ((po g p cap.toNat R).drop ((po g p cap.toNat R).length-keep.toNat)))).2 nn b:=(gA.tK (λo F=>(ru _ _ o F).1) h).all;split
   .exact j.mono (by omega) V2
   .obtain⟨k,e,G⟩:=DO (every:=every.toNat) (keep:=keep.toNat) (P:=Sp.ir p) (Es:=pP g) (cap:=cap.toNat) (dd:=pW g p cap.toNat) (dp:=tE (po g p cap.toNat R)) C.FW hb ((cap.toNat-tE (po g p cap.toNat R))+1) (tE (po g p cap.toNat R)) (BB g p (po g p cap.toNat R) R) ((po g p cap.toNat R).drop ((po g p cap.toNat R).length-keep.toNat)) 0 _ nn j;rw[e,TM];exact G
variable {u y:Nat}
theorem Ob{b:Jb}(e:b.Ok){j l:Bool}(h:jD b j l y u R): y<=b.cap:=by
 obtain⟨C,F,G,hi,m⟩:=h;by_cases r:y=0
 .omega
 .obtain⟨z,A,I⟩:=m.g.now;obtain⟨_,_,c,B,_⟩:=z y (A r);exact(xP e B).1
theorem yG{b:Jb}{j l:Bool}(h:jD b j l y u R): R.use R.now<=u:=by
 obtain⟨m,r,z,hi,A⟩:=h;have B:=A.g.now.2.2;have e:R.use R.now=us m (nw r z):=by rw[hi.nw];unfold Rk.use Rk.fl us;rw[hi.f]
 omega
theorem zl(b:Jb)(j l:Bool)(u:Nat){q:Int}(m:j=We->q=1099511627776):jD b j l 0 u ⟨[],[],[],q,-1,Wg⟩:=⟨[],[],[],⟨rfl,rfl,rfl,m,λ_=>⟨rfl,rfl⟩⟩,⟨⟨List.Pairwise.nil,λp e=>(by cases e),λp e=>(by cases e),λc r=>(by cases r)⟩,Vw.nil (λp e=>by cases e) ⟨λs z=>absurd rfl z,λh=>absurd rfl h,Tp _⟩⟩⟩
theorem Nb{b:Jb}(h:jD b We We y u R)(n:Int): jD b We We y u (R.arm n):=by
 obtain⟨j,l,m,hi,r⟩:=h;exact⟨j,l,m,⟨hi.f,hi.s,hi.c,hi.a,λe=>(by cases e)⟩,r⟩
theorem A4{dp:Nat}: ∀(g s:Nat) (c:Cfg) (K:List Nat) (sv:Nat) (R:Rk),dp<s->∀o,o=rz P Es cap 1 keep dd n dp g s c K sv R->o.e=0->o.res.outcome=1->o.saved+s=sv+o.res.step
 |0,s,c,K,sv,R,l,o,b,he,j=>by
  rw[rz] at b;subst b;exact absurd j (show ¬(0:Nat)=1 by decide)
 |g+1,s,c,K,sv,R,l,o,b,he,j=>by
  rw[rz] at b;split at b
  .subst b;rfl
  .split at b
   .subst b;exact absurd j (show ¬(2:Nat)=1 by decide)
   .rw[Tg ⟨l,Nat.mod_one s⟩] at b;split at b
    .rename_i h;subst b;exact absurd he h
    .split at b
     .rename_i h;subst b;exact absurd he h
     .split at b
      .subst b;exact absurd j (show ¬(3:Nat)=1 by decide)
      .have:=A4 g (s+1) _ _ (sv+1) _ (by omega) o b he j;omega
theorem Gi{g:Nat}{c:Cfg}{K:List Nat}{o:Ru.Out}(b:o=rz P Es cap 1 keep dd n 0 g 0 c K 0 R)(he:o.e=0)(h1:o.res.outcome=1)(j:quiet c 0=Wg): o.saved+1=o.res.step:=by
 cases g with
 |zero =>
  rw[rz] at b;subst b;exact absurd h1 (show ¬(0:Nat)=1 by decide)
 |succ g =>
  rw[rz,Tf (by rw[j];decide)] at b;split at b
  .subst b;exact absurd h1 (show ¬(2:Nat)=1 by decide)
  .rw[Tf (by omega)] at b;split at b
   .subst b;exact absurd h1 (show ¬(3:Nat)=1 by decide)
   .have:=A4 g 1 _ _ 0 _ (by omega) o b he h1;omega
end Hl
namespace Hl
open Go Sp
def g0:V8:=⟨#[97,32,48,10,98,32,49,48,48,48,48,48,48,48,48,48,10,99,32,49,48,48,48,48,48,48,48,48,48,10,100,32,49,48,48,48,48,48,48,48,48,48,10,97,62,98,32,52,10,97,62,99,32,49,10,99,62,98,32,50]⟩
theorem Qj:yt g0=0:=by kernel_rfl
theorem PW:jl g0=[0,1000000000,1000000000,1000000000]:=by kernel_rfl
theorem Ou:FV (Sp.ir fq) (jl g0) (pP g0) 10=⟨1,3,0,[0,3,1,1000000000]⟩:=by kernel_rfl
open Rd (Rk)
open Ru (pQ jG pS po tE BB EP pW fO rz ep dU)
open Classical
theorem C8:pQ g0 fq (1:Nat) (1:Nat) (10:Nat)=0:=by
 unfold pQ iL;rw[Tf (show ¬yt g0≠0 by rw[Qj];simp),Tf (show ¬(Sp.comp fq).1≠0 by rw[CV];simp),Tf (by omega)]
theorem Li:quiet (fX (Sp.ir fq) (jl g0)) 0=Wg:=by rw[PW];kernel_rfl
theorem Ff(b:Small g0):pS g0 fq (1:Nat) (1:Nat) (10:Nat) ⟨[],[],[],1099511627776,-1,Wg⟩=0/\(jG g0 fq (1:Nat) (1:Nat) (10:Nat) ⟨[],[],[],1099511627776,-1,Wg⟩).e=0/\(jG g0 fq (1:Nat) (1:Nat) (10:Nat) ⟨[],[],[],1099511627776,-1,Wg⟩).res=⟨1,3,0,[0,3,1,1000000000]⟩/\(jG g0 fq (1:Nat) (1:Nat) (10:Nat) ⟨[],[],[],1099511627776,-1,Wg⟩).saved=2:=by
 have r:=oy C8 b (zl (jb g0 fq 1 1 10) We Wg (cY g0 1) (q:=1099511627776) λ_=>O) O (λ_=>O);have y:=oy C8 b (zl (jb g0 fq 1 1 10) Wg Wg (cY g0 1) (q:=1099511627776) λe=>by cases e) rfl (λ_=>rfl);have m:(jG g0 fq (1:Nat) (1:Nat) (10:Nat) ⟨[],[],[],1099511627776,-1,Wg⟩).e=0:=by
  rcases r.2.2.1 with e|e
  .exact e
  .rcases y.2.2.1 with e2|e2
   .exact e2
   .rw[e] at e2;exact absurd e2 (by decide)
 have j:=r.2.2.2.2.1 m;rw[Ou] at j;have u:(⟨[],[],[],1099511627776,-1,Wg⟩:Rk).fE=[]:=rfl;have z:po g0 fq 10 ⟨[],[],[],1099511627776,-1,Wg⟩=[]:=by unfold po Ru.fS;rw[u];rfl
 obtain⟨A,e2⟩:=Ru.y9 (g:=g0) (p:=fq) (every:=1) (keep:=1) (cap:=10) (Q:=⟨[],[],[],1099511627776,-1,Wg⟩) C8 rfl z;refine⟨e2,m,j,?_⟩;have B:jG g0 fq (1:Nat) (1:Nat) (10:Nat) ⟨[],[],[],1099511627776,-1,Wg⟩=rz (Sp.ir fq) (pP g0) 10 1 1 (pW g0 fq 10) (jl g0).length 0 (10-0+1) 0 (fX (Sp.ir fq) (jl g0)) [] 0 ⟨[],[],[],1099511627776,-1,Wg⟩:=by
  rw[A];unfold EP BB;rw[u,Tg rfl];have l:ep (⟨[],[],[],1099511627776,-1,Wg⟩:Rk) (dU [] (List.drop (([]:List Nat).length-1) []))=(0,⟨[],[],[],1099511627776,-1,Wg⟩):=rfl;rw[l,Tf (by simp)]
  rfl
 have l:=Gi B m (by rw[j]) Li;rw[j] at l;exact Nat.succ.inj l
end Hl
namespace Hl
open Go Sp
open Rd (Rk)
open Pk (Sm)
open Ru (pQ jG pS fO)
open Classical
def fE(dp sv every:Nat):Nat:=if sv=0 then dp else (dp/every+sv)*every
variable {every:Nat}
theorem Lj{dp sv:Nat}(h:dp%every=0): fE dp sv every=(dp/every+sv)*every:=by
 unfold fE;split
 .rename_i e;have:=Nat.div_add_mod dp every;rw[h,Uo,Vj] at this;rw[e,Uo,this]
 .rfl
theorem OJ{dp sv:Nat}(he:1<=every)(h:dp%every=0): dp+sv<=fE dp sv every:=by
 rw[Lj h,Nat.add_mul];have b:=Nat.div_add_mod dp every;rw[h,Uo,Vj] at b;have e:sv*1<=sv*every:=Nat.mul_le_mul_left _ he;omega
structure Cf (every keep cap:Nat):Prop where
 e1:1<=every
 e2:every<=50
 k1:1<=keep
 k2:keep<=5
 c:cap<=200
variable {cap:Nat}{g p:V8}
theorem vg{keep:Nat}(h:Cf every keep cap): pQ g p every keep cap=j5 g p cap:=by
 obtain⟨j,l,m,r,u⟩:=h;unfold pQ iL j5;by_cases b:yt g=0
 .by_cases e:(Sp.comp p).1=0
  .simp only[b,e,ne_eq,not_true,Ux];rw[Tf (by omega),Tf (by omega)]
  .simp only[b,ne_eq,not_true,Ux,e,not_false_eq_true,TY]
 .simp only[b,ne_eq,not_false_eq_true,TY]
theorem I8{keep:Nat}{R:Rk}(h:pQ g p every keep cap≠0): jG g p every keep cap R=⟨fO,0,pQ g p every keep cap,R⟩/\pS g p every keep cap R=0:=by
 unfold jG pS;rw[Tg h,Tg h];exact⟨O,O⟩
theorem Jf(h:j5 g p cap=0): fL g p cap=FV (Sp.ir p) (jl g) (pP g) cap:=by
 unfold fL;rw[Tg h,Vr]
theorem Fo(h:j5 g p cap≠0): fL g p cap=fO:=by
 unfold fL;rw[Tf h];rfl
theorem KX(q:Int):Sm ⟨[],[],[],q,-1,Wg⟩ 0 0:=⟨Te _,Te _,λf b=>(by cases b),λf b=>(by cases b),λf b=>(by cases b)⟩
end Hl
namespace Hl
open Go Sp
open Rd (Rk)
open Pk (Sm)
open Ru (pQ jG pS fO)
open Classical
structure He (g p:V8) (every keep cap i y:Nat) (R:Rk):Prop where
 sm:Sm R (8*(i+y)) 1000
 ch:R.dX=[]
 dn:R.down=Wg
 lf:R.left = -1
 ok:j5 g p cap=0->jD (jb g p every keep cap) We We y (cY g keep) R
 no:j5 g p cap≠0->y=0/\R.safe=[]
theorem He.new(g p:V8)(every keep cap:Nat):He g p every keep cap 0 0 ⟨[],[],[],1099511627776,-1,Wg⟩:=⟨(KX _).mono (by omega) (by omega),O,O,O,λ_=>zl _ We We _ λ_=>O,λ_=>⟨O,O⟩⟩
theorem He.y{every keep cap y i:Nat}{p g:V8}{R:Rk}(l:Cf every keep cap)(b:Small g)(h:He g p every keep cap i y R): y<=200:=by
 by_cases e:j5 g p cap=0
 .have j:=Lw (g:=g) (p:=p) (by rw[vg l];exact e) b;exact To (Ob j (h.ok e)) j.cap
 .have:=(h.no e).1;omega
variable {every keep cap y i:Nat}{p g:V8}{R:Rk}
theorem Sm.arm{n b:Nat}(h:Sm R n b)(k:Int): Sm (R.arm k) n b:=⟨h.dir,h.fn,h.file,h.ns,h.nc⟩
theorem zF(h1:R.safe=[])(h2:R.dX=[]): R.use R.now=0:=by
 have e:R.now=[]:=by rw[Lq,h1,h2];rfl
 rw[e];rfl
structure Ho (g p:V8) (every keep cap i y:Nat) (R:Rk):Prop where
 sm:Sm R (8*(i+y)) 1000
 use:R.use R.now<=cY g keep
 ok:j5 g p cap=0->jD (jb g p every keep cap) We We y (cY g keep) R
 no:j5 g p cap≠0->y=0/\R.safe=[]/\R.dX=[]
theorem He.round(r:Cf every keep cap)(b:Small g)(h:He g p every keep cap i y R)(n:Int){o:Ru.Out}(u:o=jG g p every keep cap (R.arm n)){dp:Nat}(A:dp=pS g p every keep cap (R.arm n)):((o.e=j5 g p cap/\o.res=fL g p cap)\/(o.e=9/\j5 g p cap=0/\o.res=fO))/\(j5 g p cap=0->y<=dp)/\(dp<=200/\o.saved<=200)/\Ho g p every keep cap (i+1) (fE dp o.saved every) o.R:=by
 have j:=Mr (g:=g) (p:=p) (every:=every) (keep:=keep) (cap:=cap) (Sm.arm h.sm n) b (by omega);rw[<-u] at j;by_cases e:j5 g p cap=0
 .have z:pQ g p every keep cap=0:=by rw[vg r];exact e
  have C:=Lw z b;obtain⟨F,B,G,l,I,K⟩:=oy z b (Nb (h.ok e) n) h.dn (λ_=>h.ch);rw[<-A,<-u] at l;rw[<-A] at F B;rw[<-u] at G I K;have Q:=Lj (sv:=o.saved) B;have T:=OJ (sv:=o.saved) r.e1 B;rw[<-Q] at l;have V:fE dp o.saved every<=200:=To (Ob C l) C.cap;refine⟨?_,λ_=>F,⟨by omega,by omega⟩,⟨j.mono (by omega) V2,yG l,λ_=>l,λm=>absurd e m⟩⟩;rcases G with e3|e3
  .exact Wh ⟨by rw[e3,e],by rw[I e3,Jf e]⟩
  .exact Wi ⟨e3,e,K (by rw[e3];decide)⟩
 .have z:pQ g p every keep cap≠0:=by rw[vg r];exact e
  obtain⟨L,M⟩:=I8 (R:=R.arm n) z;rw[<-u] at L;rw[<-A] at M;obtain⟨V,P⟩:=h.no e;subst L M;refine⟨Wh ⟨vg r,(Fo e).symm⟩,λm=>absurd m e,⟨by omega,Tp _⟩,⟨(Sm.arm h.sm n).mono (by omega) V2,?_,λm=>absurd m e,λ_=>⟨O,P,h.ch⟩⟩⟩
  show (R.arm n).use (R.arm n).now<=_
  rw[zF (R:=R.arm n) P h.ch];exact Tp _
theorem Ho.dW(h:Ho g p every keep cap i y R)(j:R.Ok)(b:Int)(K:Nat->Int): He g p every keep cap i y (R.dW b K)/\(R.dW b K).use (R.dW b K).now<=cY g keep:=by
 have l:∀e:j5 g p cap≠0,(R.dW b K).safe=[]:=λe=>by
  obtain⟨_,m,r⟩:=h.no e
  show Rd.tab (R.dir b.toNat)=[]
  have:R.dir b.toNat=[]:=by unfold Rk.dir;rw[m,r,List.take_nil];rfl
  rw[this];rfl
 refine⟨⟨h.sm.dW j b K,O,O,O,λe=>xO (h.ok e) b K,λe=>⟨(h.no e).1,l e⟩⟩,?_⟩;by_cases e:j5 g p cap=0
 .exact yG (xO (h.ok e) b K)
 .rw[zF (l e) rfl];exact Tp _
theorem He.last(l:Cf every keep cap)(b:Small g)(h:He g p every keep cap i y R){o:Ru.Out}(m:o=jG g p every keep cap R){dp:Nat}(G:dp=pS g p every keep cap R):o.e=j5 g p cap/\o.res=fL g p cap/\(j5 g p cap=0->y<=dp)/\o.R.use o.R.now<=cY g keep:=by
 by_cases e:j5 g p cap=0
 .have j:pQ g p every keep cap=0:=by rw[vg l];exact e
  have I:jD (jb g p every keep cap) Wg We y (cY g keep) R:=by
   obtain⟨K,L,M,hi,P⟩:=h.ok e;exact⟨K,L,M,⟨hi.f,hi.s,hi.c,λe=>(by cases e),λ_=>⟨h.lf,h.dn⟩⟩,P⟩
  obtain⟨r,T,u,z,A,V⟩:=oy j b (h.ok e) h.dn (λ_=>h.ch);obtain⟨_,_,B,_⟩:=oy j b I h.dn (λ_=>h.ch);rw[<-m] at u z A B;rw[<-G] at r;have C:o.e=0:=by
   rcases u with e3|e3
   .exact e3
   .rcases B with e7|e7
    .exact e7
    .rw[e3] at e7;exact absurd e7 (by decide)
  exact⟨by rw[C,e],by rw[A C,Jf e],λ_=>r,yG z⟩
 .have j:pQ g p every keep cap≠0:=by rw[vg l];exact e
  obtain⟨F,W⟩:=I8 (R:=R) j;rw[<-m] at F;subst F;exact⟨vg l,(Fo e).symm,λQ=>absurd Q e,by show R.use R.now<=_;rw[zF (h.no e).2 h.ch];exact Tp _⟩
end Hl
end Go.Proofs.YtgkkdpegcieakaaGreatDoor
