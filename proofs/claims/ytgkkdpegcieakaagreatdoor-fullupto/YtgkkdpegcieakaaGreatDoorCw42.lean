import Derived.Test.YtgkkdpegcieakaaGreatDoorCw41
set_option linter.all false
set_option maxRecDepth 100000
set_option maxHeartbeats 16000000
namespace Go.Proofs.YtgkkdpegcieakaaGreatDoor
open Go.Proofs.Tryz
open Value renaming int→Z
open Option renaming none→U,some→S
open Bool renaming true→W8,false→W9
open Or renaming inl→Xa,inr→Xb
open List renaming length→Xg
open IntKind renaming i64→Y
open Go renaming World→WR,Value→WS,Calls→WT
namespace Hl
open Go Sp
open Rd (Rk e0 dy Fl Ch ap wo)
open Ru (rz fG Out dz eh eK fx dR eO drop1 mU nS tN nm vB mB kB)
structure Jb where
 P:Pg
 Es:List Ed
 vs:List Int
 cap:Nat
 every:Nat
 keep:Nat
 da:Nat
def Jb.at'(b:Jb):Nat->Option Cfg
 |0=>S (fX b.P b.vs)
 |s+1=>match b.at' s with
  |none=>U
  |some c=>if quiet c s=W8\/b.cap<=s then U else match lI b.P b.Es c s (Xg b.vs) with
   |.error _=>U
   |.ok a=>S (fh b.P (Xg b.vs) a)
structure Jb.Ok (J:Jb):Prop where
 da:iO J.P J.Es (Xg J.vs)
 num:∀x n,number x=S n->i64 n
 vs:∀x∈J.vs,i64 x
 cap:J.cap<=200
 every:1<=J.every
 keep:1<=J.keep/\J.keep<=5
theorem FT{b:Jb}{s:Nat}{j:Cfg}(h:b.at' (s+1)=S j):∃c a,b.at' s=S c/\quiet c s=W9/\s<b.cap/\lI b.P b.Es c s (Xg b.vs)=.ok a/\j=fh b.P (Xg b.vs) a:=by
 rw[Jb.at'] at h;split at h
 .cases h
 .rename_i c m;split at h
  .cases h
  .rename_i l;split at h
   .cases h
   .rename_i a r;injection h with h;refine⟨c,a,m,?_,?_,r,h.symm⟩
    .cases hh:quiet c s with
     |false=>rfl
     |true=>exact absurd (Xa hh) l
    .exact Nat.lt_of_not_le λe=>l (Xb e)
theorem uE{b:Jb}{s:Nat}{c:Cfg}{a:Acc}(h:b.at' s=S c)(j:¬quiet c s=W8)(l:¬b.cap<=s)(ha:lI b.P b.Es c s (Xg b.vs)=.ok a):b.at' (s+1)=S (fh b.P (Xg b.vs) a):=by
 rw[Jb.at',h]
 show (if quiet c s=W8\/b.cap<=s then U else _)=_
 rw[TZ (λe=>e.elim j l),ha]
theorem yl{b:Jb}(e:b.Ok):∀{s:Nat} {c:Cfg},b.at' s=S c->s<=b.cap/\eY (Xg b.vs) c
 |0,c,h=>by
  injection h with h;subst h;exact⟨Ud _,rE _ _ e.vs⟩
 |s+1,c,h=>by
  obtain⟨u,a,j,y,l,m,rfl⟩:=FT h;have r:=yl e j;have:=e.cap;exact⟨l,rZ e.da (sI e.da e.num r.2 (by omega) _ WN a m)⟩
theorem JD{b:Jb}(e:b.Ok):∀{s:Nat} {c:Cfg},b.at' s=S c->GL b.P b.vs b.Es b.cap=CI b.P b.Es b.cap (b.cap-s+1) s c
 |0,c,h=>by
  injection h with h;subst h
  rfl
 |s+1,c,h=>by
  obtain⟨u,a,j,l,y,m,rfl⟩:=FT h;have r:=yl e j;rw[JD e j,CI,TZ (by rw[l];decide),TZ (by omega),r.2.lv,m]
  show CI b.P b.Es b.cap (b.cap-s) (s+1) _=_
  rw[show b.cap-s=b.cap-(s+1)+1 by omega]
theorem DB{b:Jb}(z:b.Ok){dj:Nat}:∀(g s:Nat) (c:Cfg) (j:List Nat) (sv:Nat) (R:Rk),b.at' s=S c->
  ((rz b.P b.Es b.cap b.every b.keep b.da (Xg b.vs) dj g s c j sv R).e=0->(rz b.P b.Es b.cap b.every b.keep b.da (Xg b.vs) dj g s c j sv R).res=CI b.P b.Es b.cap g s c)/\((rz b.P b.Es b.cap b.every b.keep b.da (Xg b.vs) dj g s c j sv R).e≠0->(rz b.P b.Es b.cap b.every b.keep b.da (Xg b.vs) dj g s c j sv R).res=fG)
 |0,s,c,j,sv,R,h=>by rw[rz];exact⟨λ_=>O,λh=>absurd O h⟩
 |g+1,s,c,j,sv,R,h=>by
  have A:=(yl z h).2.lv;have u:∀(x:Nat) (e:Int) (Q:Rk) (r:Sp.nH),e≠0->((⟨fG,x,e,Q⟩:Ru.Out).e=0->(⟨fG,x,e,Q⟩:Ru.Out).res=r)/\((⟨fG,x,e,Q⟩:Ru.Out).e≠0->(⟨fG,x,e,Q⟩:Ru.Out).res=fG):=λx e Q r y=>⟨λC=>absurd C y,λ_=>O⟩
  rw[rz,CI];by_cases l:quiet c s=W8
  .rw[T0 l,T0 l];exact⟨λ_=>O,λh=>absurd O h⟩
  rw[TZ l,TZ l];by_cases m:b.cap<=s
  .rw[T0 m,T0 m];exact⟨λ_=>O,λh=>absurd O h⟩
  rw[TZ m,TZ m,A];split
  .split
   .rename_i y;exact u _ _ _ _ y
   .split
    .rename_i y;exact u _ _ _ _ y
    .cases B:lI b.P b.Es c s (Xg b.vs) with
     |error i=>exact⟨λ_=>rfl,λh=>absurd rfl h⟩
     |ok a=>exact DB z g _ _ _ _ _ (uE h l m B)
  .cases B:lI b.P b.Es c s (Xg b.vs) with
   |error i=>exact⟨λ_=>rfl,λh=>absurd rfl h⟩
   |ok a=>exact DB z g _ _ _ _ _ (uE h l m B)
end Hl
namespace Hl
open Go Sp
open Rd (Rk e0 dy Fl Ch ap wo keyed nk)
open Ru (rz fG Out dz eh eK fx dR eO drop1 mU nS tN nm vB mB kB Oq)
abbrev d0:Fl:=⟨e0,0⟩
def Ri(N:Nat)(fs:List Fl)(i:Nat)(B:WU):Prop:=i<N/\fs.getD i d0=⟨B,B.size⟩
def Jb.vF(b:Jb)(c:Cfg):WU:=dq (vB c (Xg b.vs))
def Jb.mF(b:Jb)(c:Cfg):WU:=dq (mB c (Xg b.vs))
def Jb.kF(b:Jb)(s:Nat)(c:Cfg):WU:=dq (kB s c.all b.da (gX (b.vF c)) (gX (b.mF c)))
structure Jb.Sn (J:Jb) (N:Nat) (fs:List Fl) (f:WU->Option Nat) (s:Nat) (c:Cfg):Prop where
 v:∃i,f (nm 118 s)=S i/\Ri N fs i (J.vF c)
 m:∃i,f (nm 109 s)=S i/\Ri N fs i (J.mF c)
 k:∃i,f (nm 99 s)=S i/\Ri N fs i (J.kF s c)
def Jb.G(b:Jb)(N:Nat)(fs:List Fl)(f:WU->Option Nat):Prop := ∀s,f (nm 99 s)≠U->0<s/\s%b.every=0/\∃c,b.at' s=S c/\b.Sn N fs f s c
variable {N N' i:Nat}{fs fs':List Fl}
theorem Ri.mono{B:WU}(h:Ri N fs i B)(b:N<=N')(e:∀j,j<N->fs'.getD j d0=fs.getD j d0): Ri N' fs' i B:=⟨Ux h.1 b,(e i h.1).trans h.2⟩
variable {f f':WU->Option Nat}{s:Nat}
theorem Jb.Sn.mono{l:Jb}{c:Cfg}(h:l.Sn N fs f s c)(m:N<=N')(r:∀j,j<N->fs'.getD j d0=fs.getD j d0)(h1:f' (nm 118 s)=f (nm 118 s))(h2:f' (nm 109 s)=f (nm 109 s))(u:f' (nm 99 s)=f (nm 99 s)): l.Sn N' fs' f' s c:=by
 obtain⟨⟨i,a,b⟩,⟨j,c,d⟩,⟨k,e,g⟩⟩:=h;exact⟨⟨i,h1.trans a,b.mono m r⟩,⟨j,h2.trans c,d.mono m r⟩,⟨k,u.trans e,g.mono m r⟩⟩
theorem Jb.G.mono{l:Jb}(h:l.G N fs f)(m:N<=N')(r:∀j,j<N->fs'.getD j d0=fs.getD j d0): l.G N' fs' f:=λs u=>by
 obtain⟨a,b,c,d,e⟩:=h s u;exact⟨a,b,c,d,e.mono m r O O O⟩
variable {a:WU}
theorem Jb.G.off{j:Jb}(h:j.G N fs f)(m:∀b,b≠a->f' b=f b)(u:∀s,a=nm 118 s->f' (nm 99 s)=U)(A:∀s,a=nm 109 s->f' (nm 99 s)=U)(B:∀s,a=nm 99 s->f' a=U): j.G N fs f':=λs l=>by
 have C:nm 99 s≠a:=λe=>l (by rw[e];exact B s e.symm)
 have r:=m _ C;obtain⟨x,y,c,z,e⟩:=h s (by rw[<-r];exact l);exact⟨x,y,c,z,e.mono WN (λ_ _=>O) (m _ λe=>l (u s e.symm)) (m _ λe=>l (A s e.symm)) r⟩
theorem jN{c d:UInt8}{t:Nat}(h:c≠d): nm c s≠nm d t:=λe=>h (Ru.s9 e).1
theorem m9(c:UInt8)(s:Nat):nm c s≠tN:=λe=>by
 have h:=congrArg ByteArray.size e;rw[Ru.jH] at h;have:tN.size=1:=rfl;omega
theorem Jb.G.add{j:Jb}{c:Cfg}(h:j.G N fs f)(l:∀b,b≠nm 99 s->b≠tN->f' b=f b)(m:0<s)(r:s%j.every=0)(B:j.at' s=S c)(u:j.Sn N fs f' s c): j.G N fs f':=λt C=>by
 by_cases e:t=s
 .subst e;exact⟨m,r,c,B,u⟩
 .have A:=l (nm 99 t) (λh=>e (Ru.s9 h).2) (m9 _ _);obtain⟨x,y,c,z,k⟩:=h t (by rw[<-A];exact C);exact⟨x,y,c,z,k.mono WN (λ_ _=>O) (l _ (jN (by decide)) (m9 _ _)) (l _ (jN (by decide)) (m9 _ _)) A⟩
def nw(sf:Sd.Tb)(cs:List Ch):Sd.Tb:=cs.foldl ap (wo sf e0)
theorem Re(R:Rk):R.now=nw R.safe R.dW:=by unfold Rk.now Rk.dir nw;rw[Vd]
theorem jC(sf:Sd.Tb)(cs:List Ch)(c:Ch):nw sf (cs++[c])=ap (nw sf cs) c:=by unfold nw;rw[Wj];rfl
theorem qN(L:Sd.Tb)(c:Ch)(y:WU):dy (ap L c) y=if y=c.comes then (if c.comes=e0 then U else S c.file) else if y=c.goes then U else dy L y:=by
 unfold ap;split
 .rw[Rd.jE,Rd.jE]
 .rw[Rd.xS _ _ _ _ (by rw[Rd.jE,T0 rfl]),Rd.jE,Rd.jE];by_cases e:y=c.comes
  .rw[T0 e,T0 e]
  .rw[TZ e,TZ e,TZ e]
def Vw(md:Bool)(sf:Sd.Tb)(cs:List Ch)(p:Sd.Tb->Prop):Prop := ∀k,k<=Xg cs->(md=W8\/k=Xg cs)->p (nw sf (cs.take k))
variable {p:Sd.Tb->Prop}{sf:Sd.Tb}{vb:Bool}{cs:List Ch}
theorem Vw.snoc{c:Ch}(h:Vw vb sf cs p)(j:p (ap (nw sf cs) c)): Vw vb sf (cs++[c]) p:=λk l b=>by
 rw[UG,Wt] at l b;by_cases e:k<=Xg cs
 .rw[Vk e];exact h k e (b.elim Xa λm=>by omega)
 .rw[Vc (by rw[UG,Wt];omega),jC];exact j
theorem Vw.now(h:Vw vb sf cs p): p (nw sf cs):=by
 have:=h (Xg cs) WN (Xb O);rwa [Vd] at this
theorem Vw.imp{q:Sd.Tb->Prop}(h:Vw vb sf cs p)(hi:∀L,p L->q L): Vw vb sf cs q:=λk b e=>hi _ (h k b e)
theorem Vw.nil(b:∀q∈sf,¬q.1=e0)(h:p sf): Vw vb sf [] p:=λk e j=>by
 rw[List.take_nil]
 show p (wo sf e0)
 rw[Rd.lU b];exact h
def us(fs:List Fl)(L:Sd.Tb):Nat:=(L.map λp=>(fs.getD p.2 d0).bytes.size).sum
theorem tz(fs:List Fl)(a:WU):∀L:Sd.Tb,us fs (wo L a)<=us fs L
 |[]=>TY _
 |p::L=>by
  have b:=tz fs a L;unfold us wo at b ⊢;rw[VO];split
  .rw[U4,U4,V8,V8];omega
  .rw[U4,V8];omega
theorem Ja(fs:List Fl)(L M:Sd.Tb):us fs (L++M)=us fs L+us fs M:=by unfold us;rw[Vn,List.sum_append_nat]
theorem Oy(fs:List Fl)(L:Sd.Tb)(c:Ch):us fs (ap L c)<=us fs L+(if c.comes=e0 then 0 else (fs.getD c.file d0).bytes.size):=by
 have b:=tz fs c.comes (wo L c.goes);have e:=tz fs c.goes L;unfold ap;split
 .omega
 .rw[Ja];have:us fs [(c.comes,c.file)]=(fs.getD c.file d0).bytes.size:=by simp[us]
  omega
theorem Kk{L:Sd.Tb}(h:∀p∈L,fs'.getD p.2 d0=fs.getD p.2 d0): us fs' L=us fs L:=by
 unfold us
 congr 1
 exact Ws λp b=>by rw[h p b]
structure Wf (fs:List Fl) (sf:Sd.Tb) (cs:List Ch):Prop where
 key:keyed sf
 some:∀p∈sf,¬p.1=e0
 sf:∀p∈sf,p.2<Xg fs
 cf:∀c∈cs,c.file<Xg fs\/c.comes=e0
theorem Wf.keyed(h:Wf fs sf cs)(k:Nat): Rd.keyed (nw sf (cs.take k)):=Rd.qx _ _ (Rd.kW h.key _)
theorem Wf.nn(h:Wf fs sf cs)(k:Nat): ∀p∈nw sf (cs.take k),¬p.1=e0:=Rd.sA _ _ λp b=>(Rd.iA.1 b).2
theorem Wf.ix(h:Wf fs sf cs)(k:Nat): ∀p∈nw sf (cs.take k),p.2<Xg fs:=λp b=>by
 rcases Rd.vW _ _ p b with b|⟨c,m,j,e⟩
 .exact h.sf p (Rd.iA.1 b).1
 .rcases h.cf c (Wg m) with l|l
  .rw[e];exact l
  .exact absurd l j
theorem Wf.now(h:Wf fs sf cs): Wf fs (nw sf cs) []:=by
 have e:nw sf (cs.take (Xg cs))=nw sf cs:=by rw[Vd]
 exact⟨e ▸ h.keyed _,e ▸ h.nn _,e ▸ h.ix _,λc b=>by cases b⟩
theorem Wf.mono(h:Wf fs sf cs)(b:Xg fs<=Xg fs'): Wf fs' sf cs:=⟨h.key,h.some,λp j=>Ux (h.sf p j) b,λc l=>(h.cf c l).imp (λe=>Ux e b) id⟩
theorem Wf.snoc{c:Ch}(h:Wf fs sf cs)(b:c.file<Xg fs\/c.comes=e0): Wf fs sf (cs++[c]):=⟨h.key,h.some,h.sf,λx j=>by
 rcases Uq.1 j with e|e
 .exact h.cf x e
 .rw[Uz.1 e];exact b⟩
structure Is (md:Bool) (R:Rk) (fs:List Fl) (sf:Sd.Tb) (cs:List Ch):Prop where
 f:R.files=fs
 s:R.safe=sf
 c:R.dW=cs
 a:md=W8->R.cY=1099511627776
 b:md=W9->R.left = -1/\R.down=W9
def er(md:Bool):Int:=if md=W8 then 9 else 12
theorem xA(md:Bool):er md≠0:=by cases md <;> decide
variable {md:Bool}{R:Rk}
theorem Is.dY(h:Is md R fs sf cs): Is md R.dY fs sf cs:=by
 unfold Rk.dY;split
 .exact h
 .rename_i hd;split
  .rename_i j;exact⟨h.f,h.s,h.c,h.a,λe=>by have:=(h.b e).1;omega⟩
  .split
   .exact⟨h.f,h.s,h.c,h.a,λe=>by have:=(h.b e).1;omega⟩
   .exact h
theorem Is.up(h:Is md R fs sf cs)(hu:R.up=W9): er md=9:=by
 cases md with
 |true=>rfl
 |false =>
  obtain⟨e,j⟩:=h.b rfl;unfold Rk.up at hu;rw[e,j] at hu;revert hu;decide
theorem Is.nw(h:Is md R fs sf cs): R.now=nw sf cs:=by rw[Re,h.s,h.c]
def Ab(md:Bool)(r:Int × Rk)(fs fs':List Fl)(sf b:Sd.Tb)(cs e:List Ch):Prop:=(r.1=0/\Is md r.2 fs' b e)\/(r.1=er md/\Is md r.2 fs sf cs)
theorem Hc(h:Is md R fs sf cs)(j:nk a=W8): Ab md (R.create a) fs (fs++[d0]) sf sf cs (cs++[⟨e0,a,Xg fs⟩]):=by
 have e:=h.dY;unfold Rk.create;rw[T0 j];split
 .rename_i hu;exact Xb ⟨(h.up hu).symm,e⟩
 .refine Xa ⟨O,⟨?_,e.s,?_,e.a,e.b⟩⟩
  .show R.dY.files++[d0]=_;rw[e.f]
  .show R.dY.dW++[⟨e0,a,Xg R.dY.files⟩]=_;rw[e.c,e.f]
theorem EW{b:List Ch}{k:Rk->Nat->Int × Rk}(h:Is md R fs sf cs)(hi:dy (nw sf cs) a=S i)(e:∀Q,Is md Q fs sf cs->Ab md (k Q i) fs fs' sf sf cs b): Ab md (R.on a k) fs fs' sf sf cs b:=by
 unfold Rk.on;split
 .rename_i hu;exact Xb ⟨(h.up hu).symm,h.dY⟩
 .rw[h.nw,hi];exact e _ h.dY
theorem Gm{t:WU}(h:Is md R fs sf cs)(hi:dy (nw sf cs) a=S i)(hu:md=W8->us fs (nw sf cs)+t.size<=1099511627776): Ab md (R.append a t) fs (fs.set i ⟨(fs.getD i d0).bytes++t,(fs.getD i d0).safe⟩) sf sf cs cs:=by
 unfold Rk.append;refine EW h hi λQ e=>?_
 have j:Q.use Q.now=us fs (Hl.nw sf cs):=by rw[e.nw];unfold Rk.use Rk.fl us;rw[e.f]
 split
 .rename_i l;rw[j] at l;refine Xb ⟨?_,e⟩;cases md with
  |false=>rfl
  |true =>
   have m:=e.a O;have r:=hu O;omega
 .refine Xa ⟨O,⟨?_,e.s,e.c,e.a,e.b⟩⟩
  show Q.files.set i ⟨(Q.fl i).bytes++t,(Q.fl i).safe⟩=_
  unfold Rk.fl;rw[e.f]
theorem Ng(h:Is md R fs sf cs)(hi:dy (nw sf cs) a=S i): Ab md (R.sync a) fs (fs.set i ⟨(fs.getD i d0).bytes,(fs.getD i d0).bytes.size⟩) sf sf cs cs:=by
 unfold Rk.sync;refine EW h hi λQ e=>Xa ⟨O,⟨?_,e.s,e.c,e.a,e.b⟩⟩
 show Q.files.set i ⟨(Q.fl i).bytes,(Q.fl i).bytes.size⟩=_
 unfold Rk.fl;rw[e.f]
theorem Gl(h:Is md R fs sf cs)(hi:dy (nw sf cs) a=S i): Ab md (R.remove a) fs fs sf sf cs (cs++[⟨a,e0,0⟩]):=by
 unfold Rk.remove;refine EW h hi λQ e=>Xa ⟨O,⟨e.f,e.s,?_,e.a,e.b⟩⟩
 show Q.dW++[⟨a,e0,0⟩]=_;rw[e.c]
theorem Io{b:WU}(h:Is md R fs sf cs)(hi:dy (nw sf cs) a=S i)(hb:nk b=W8)(j:¬a=b): Ab md (R.rename a b) fs fs sf sf cs (cs++[⟨a,b,i⟩]):=by
 unfold Rk.rename;rw[TZ (by rw[hb];simp)];refine EW h hi λQ e=>?_
 show Ab md (0,if a=b then Q else { Q with dW:=Q.dW++[⟨a,b,i⟩] }) _ _ _ _ _ _
 rw[TZ j];refine Xa ⟨O,⟨e.f,e.s,?_,e.a,e.b⟩⟩
 show Q.dW++[⟨a,b,i⟩]=_;rw[e.c]
theorem qG(h:Is md R fs sf cs): Ab md R.fa fs fs sf (nw sf cs) cs []:=by
 have e:=h.dY;unfold Rk.fa;split
 .rename_i hu;exact Xb ⟨(h.up hu).symm,e⟩
 .refine Xa ⟨O,⟨e.f,?_,O,e.a,e.b⟩⟩
  show R.now=_;exact h.nw
end Hl
namespace Hl
open Go Sp
open Rd (Rk e0 dy Fl Ch ap wo keyed nk)
open Ru (rz fG Out dz eh eK fx dR eO drop1 mU nS tN nm vB mB kB Oq)
theorem Eb{c:UInt8}(j:Rd.yD c.toNat=W8){s:Nat}(B:s<=200):nk (nm c s)=W8:=by
 have C:=Ru.Lh 2 s (by omega);have e:(nm c s).data.toList=c::46::Lib.decDigits s:=by
  unfold Ru.nm;rw[VN];simp[Ru.dc]
 have m:(nm c s).size=2+(Lib.decDigits s).length:=by rw[Ru.jH,Ru.qX]
 unfold nk;rw[e,m,List.all_cons,List.all_cons,j];have b:Rd.yD ((46:UInt8).toNat)=W8:=by decide
 rw[b,UH (by omega:1<=2+(Lib.decDigits s).length),UH (by omega:2+(Lib.decDigits s).length<=12)];simp only[Bool.true_and];rw[List.all_eq_true];intro x r;obtain⟨z,A⟩:=Ru.IV s x r;unfold Rd.yD;rw[UH z,UH A];simp
theorem BZ(c:UInt8)(s:Nat):¬nm c s=e0:=λe=>by
 have h:=congrArg ByteArray.size e;rw[Ru.jH] at h;have:e0.size=0:=rfl;omega
theorem OW:¬tN=e0:=λe=>by
 have h:=congrArg ByteArray.size e;revert h;decide
def Rs(md:Bool)(l:List Oq)(R:Rk)(Fin Bad:Rk->Prop):Prop:=((eh R l).1=0/\Fin (eh R l).2)\/((eh R l).1=er md/\Bad (eh R l).2)
variable {Bad Fin:Rk->Prop}{R:Rk}{md:Bool}
theorem Rs.nil(h:Fin R): Rs md [] R Fin Bad:=Xa ⟨O,h⟩
variable {l:List Oq}
theorem Rs.cons{o:Oq}{Mid:Rk->Prop}(h:((dz R o).1=0/\Mid (dz R o).2)\/((dz R o).1=er md/\Bad (dz R o).2))(k:∀j,Mid j->Rs md l j Fin Bad): Rs md (o::l) R Fin Bad:=by
 unfold Rs;rw[eh];rcases h with ⟨b,e⟩|⟨b,e⟩
 .rw[T0 b];exact k _ e
 .rw[TZ (by rw[b];exact xA md)];exact Xb ⟨b,e⟩
theorem Rs.app{m:List Oq}{Mid:Rk->Prop}(h:Rs md l R Mid Bad)(k:∀j,Mid j->Rs md m j Fin Bad): Rs md (l++m) R Fin Bad:=by
 unfold Rs;rw[Ru.iC];rcases h with ⟨b,e⟩|⟨b,e⟩
 .rw[T0 b];exact k _ e
 .rw[TZ (by rw[b];exact xA md)];exact Xb ⟨b,e⟩
theorem Rs.imp{b e:Rk->Prop}(h:Rs md l R Fin Bad)(h1:∀j,Fin j->b j)(h2:∀j,Bad j->e j): Rs md l R b e:=Or.imp (λx=>⟨x.1,h1 _ x.2⟩) (λx=>⟨x.1,h2 _ x.2⟩) h
variable {sf:Sd.Tb}{fs:List Fl}{cs:List Ch}
theorem Rs.op{o:Oq}{b:List Fl}{e:Sd.Tb}{j:List Ch}(h:Ab md (dz R o) fs b sf e cs j)(h2:∀m,Is md m fs sf cs->Bad m)(k:∀m,Is md m b e j->Rs md l m Fin Bad): Rs md (o::l) R Fin Bad:=Rs.cons (Mid:=λm=>Is md m b e j) (h.imp id λx=>⟨x.1,h2 _ x.2⟩) k
structure Mid (J:Jb) (vb:Bool) (N y u:Nat) (fs:List Fl) (sf:Sd.Tb) (cs:List Ch):Prop where
 wf:Wf fs sf cs
 g:Vw vb sf cs λL=>J.G N fs (dy L)/\(y≠0->dy L (nm 99 y)≠U)/\us fs L<=u
theorem Wf.here(h:Wf fs sf cs): Rd.keyed (nw sf cs)/\(∀p∈nw sf cs,¬p.1=e0)/\∀p∈nw sf cs,p.2<Xg fs:=by
 have b:=h.keyed (Xg cs);have e:=h.nn (Xg cs);have j:=h.ix (Xg cs);rw[Vd] at b e j;exact⟨b,e,j⟩
theorem vR(h:Wf fs sf cs): dy (nw sf cs) e0=U:=Rd.kH.2 h.here.2.1
variable {α:Type}
theorem mo{l m:List α}{i:Nat}{d : α}(h:i<Xg l): (l++m).getD i d=l.getD i d:=by
 rw[Uo,Uo,UY h]
theorem kd(l:List α)(x d : α): (l++[x]).getD (Xg l) d=x:=by
 rw[Uo,Ul WN];simp
theorem uz{X:List Fl}{L:Sd.Tb}(h:∀p∈L,p.2<Xg fs): us (fs++X) L=us fs L:=Kk λp b=>mo (h p b)
variable {y N u:Nat}{vb:Bool}
theorem Mid.mono{b:Jb}{j m:Nat}(h:Mid b vb N y u fs sf cs)(r:N<=j)(hu:u<=m): Mid b vb j y m fs sf cs:=⟨h.wf,h.g.imp λL e=>⟨e.1.mono r λ_ _=>O,e.2.1,Uc e.2.2 hu⟩⟩
theorem Mid.create{m:Jb}{a:WU}(h:Mid m vb N y u fs sf cs)(L:N<=Xg fs)(ha:¬a=e0)(z:∀s,a≠nm 99 s)(M:∀s,a=nm 118 s->dy (nw sf cs) (nm 99 s)=U)(P:∀s,a=nm 109 s->dy (nw sf cs) (nm 99 s)=U)(x:Fl)(hu:us fs (nw sf cs)+x.bytes.size<=u): Mid m vb N y u (fs++[x]) sf (cs++[⟨e0,a,Xg fs⟩]):=by
 have G:∀j,j<N->(fs++[x]).getD j d0=fs.getD j d0:=λj Q=>mo (Ux Q L)
 have A:∀b,dy (ap (nw sf cs) ⟨e0,a,Xg fs⟩) b=if b=a then S (Xg fs) else dy (nw sf cs) b:=λb=>by
  rw[qN]
  show (if b=a then if a=e0 then U else S (Xg fs) else if b=e0 then U else _)=_
  by_cases e:b=a
  .rw[T0 e,T0 e,TZ ha]
  .rw[TZ e,TZ e];by_cases r:b=e0
   .rw[T0 r,r,vR h.wf]
   .rw[TZ r]
 refine⟨(h.wf.mono (by simp)).snoc (Xa (by simp)),Vw.snoc (λk T B=>?_) ?_⟩
 .obtain⟨C,F,I⟩:=h.g k T B;exact⟨C.mono WN G,F,by rw[uz (h.wf.ix k)];exact I⟩
 .obtain⟨C,F,I⟩:=h.g.now;refine⟨(C.mono WN G).off (a:=a) (λb B=>by rw[A,TZ B]) (λs e=>?_) (λs e=>?_) (λs e=>absurd e (z s)),λV=>?_,?_⟩
  .rw[A,TZ (λr=>z s r.symm)];exact M s e
  .rw[A,TZ (λr=>z s r.symm)];exact P s e
  .rw[A,TZ (λr=>z y r.symm)];exact F V
  .refine Uc (Oy _ _ _) ?_
   show us (fs++[x]) (nw sf cs)+(if a=e0 then 0 else ((fs++[x]).getD (Xg fs) d0).bytes.size)<=u
   rw[uz h.wf.here.2.2,TZ ha,kd];exact hu
def lh(b:Jb)(md vb:Bool)(y u:Nat)(R:Rk):Prop := ∃fs sf cs,Is md R fs sf cs/\Mid b vb (Xg fs) y u fs sf cs
theorem Cg(l:List α)(x z : α): (l++[x]).set (Xg l) z=l++[z]:=by
 rw[WI _ _ WN];simp
theorem PN(t:WU):e0++t=t:=Vh (by rw[VN];simp[e0])
theorem sJ{b:Jb}{a p:WU}(hi:Is md R fs sf cs)(h:Mid b vb N y u fs sf cs)(j:N<=Xg fs)(F:nk a=W8)(z:∀s,a≠nm 99 s)(A:∀s,a=nm 118 s->dy (nw sf cs) (nm 99 s)=U)(B:∀s,a=nm 109 s->dy (nw sf cs) (nm 99 s)=U)(hu:us fs (nw sf cs)+(dq p).size<=u)(P:u<=549755813888):Rs md (eO a p) R (λm=>Is md m (fs++[⟨dq p,(dq p).size⟩]) sf (cs++[⟨e0,a,Xg fs⟩])/\Mid b vb N y u (fs++[⟨dq p,(dq p).size⟩]) sf (cs++[⟨e0,a,Xg fs⟩])) (lh b md vb y u):=by
 have r:=Rd.oR F;have o:d0.bytes.size=0:=rfl;have G:=h.create j r z A B d0 (by omega);have Q:=h.create j r z A B ⟨dq p,0⟩ hu;have T:=h.create j r z A B ⟨dq p,(dq p).size⟩ hu;have I:dy (nw sf (cs++[⟨e0,a,Xg fs⟩])) a=S (Xg fs):=by
  rw[jC,qN]
  show (if a=a then if a=e0 then U else S (Xg fs) else _)=_
  rw[T0 O,TZ r]
 have C:us (fs++[d0]) (nw sf (cs++[⟨e0,a,Xg fs⟩]))<=u:=G.g.now.2.2;have e:∀x:Fl,N<=(fs++[x]).length:=λx=>by simp;omega
 have V:Ab md (dz R ⟨1,a,e0⟩) _ _ _ _ _ _:=Hc hi F;unfold eO;refine Rs.op V (λm k=>⟨_,_,_,k,h.mono j WN⟩) λW X=>?_
 have L:Ab md (dz W ⟨2,a,dq p⟩) _ _ _ _ _ _:=Gm (t:=dq p) X I (λ_=>Uc (Nat.add_le_add C (Uc (Nat.le_add_left _ _) hu)) (by omega));rw[kd,Cg,show (d0.bytes++dq p)=dq p from PN _] at L;refine Rs.op L (λm k=>⟨_,_,_,k,G.mono (e _) WN⟩) λq i=>?_
 have M:Ab md (dz q ⟨3,a,e0⟩) _ _ _ _ _ _:=Ng i I;rw[kd,Cg] at M;exact Rs.op M (λm k=>⟨_,_,_,k,Q.mono (e _) WN⟩) λn f=>Rs.nil ⟨f,T⟩
end Hl
namespace Hl
open Go Sp
open Rd (Rk e0 dy Fl Ch ap wo keyed nk)
open Ru (rz fG Out dz eh eK fx dR eO drop1 mU nS tN nm vB mB kB Oq)
def Jb.B(b:Jb):Nat:=21*Xg b.vs+48
theorem Fa(b:Jb)(c:Cfg):(b.vF c).size=9*Xg b.vs+8:=by unfold Jb.vF;rw[ey,Ru.fA]
theorem Ft(b:Jb)(c:Cfg):(b.mF c).size=12*Xg b.vs+8:=by unfold Jb.mF;rw[ey,Ru.ga]
theorem Fi(b:Jb)(s:Nat)(c:Cfg):(b.kF s c).size=32:=by unfold Jb.kF;rw[ey,Ru.l5]
variable {sf:Sd.Tb}{cs:List Ch}
theorem rX{a:WU}{i:Nat}(ha:¬a=e0)(l:dy (nw sf cs) e0=U)(b:WU): dy (nw sf (cs++[⟨e0,a,i⟩])) b=if b=a then S i else dy (nw sf cs) b:=by
 rw[jC,qN]
 show (if b=a then if a=e0 then U else S i else if b=e0 then U else _)=_
 by_cases e:b=a
 .rw[T0 e,T0 e,TZ ha]
 .rw[TZ e,TZ e];by_cases j:b=e0
  .rw[T0 j,j,l]
  .rw[TZ j]
theorem vE{b:List Fl}{a:WU}{x:Fl}(h:Wf b sf cs): us (b++[x]) (nw sf (cs++[⟨e0,a,Xg b⟩]))<=us b (nw sf cs)+x.bytes.size:=by
 rw[jC];refine Uc (Oy _ _ _) ?_
 show us (b++[x]) (nw sf cs)+(if a=e0 then 0 else ((b++[x]).getD (Xg b) d0).bytes.size)<=_
 rw[uz h.here.2.2,kd];split <;> omega
theorem P3(L M:Sd.Tb)(a:WU):wo (L++M) a=wo L a++wo M a:=VB ..
theorem QW(e:List Fl)(L:Sd.Tb){t b:WU}(i:Nat)(ht:¬t=e0)(hb:¬b=e0):us e (ap (ap L ⟨e0,t,i⟩) ⟨t,b,i⟩)<=us e L+(e.getD i d0).bytes.size:=by
 have j:ap L ⟨e0,t,i⟩=wo (wo L e0) t++[(t,i)]:=by unfold ap;rw[TZ ht]
 have l:∀M:Sd.Tb,ap M ⟨t,b,i⟩=wo (wo M t) b++[(b,i)]:=λM=>by unfold ap;rw[TZ hb]
 have m:wo [(t,i)] t=[]:=by simp[wo]
 have r:us e [(b,i)]=(e.getD i d0).bytes.size:=by simp[us]
 rw[j,l,Ja,P3,m,Vr,r];have u:=tz e b (wo (wo (wo L e0) t) t);have y:=tz e t (wo (wo L e0) t);have z:=tz e t (wo L e0);have A:=tz e e0 L;omega
theorem KW{j:Jb}{C L:Bool}{y u:Nat}{l:List Fl}{R:Rk}{s:Nat}{c:Cfg}(hi:Is C R l sf cs)(h:Mid j L (Xg l) y u l sf cs)(V:dy (nw sf cs) (nm 99 s)=U)(ab:0<s)(ad:s%j.every=0)(hs:s<=200)(hc:j.at' s=S c)(hu:us l (nw sf cs)+j.B<=u)(N:u<=549755813888):Rs C (eK c (Xg j.vs) s j.da) R (λP=>∃I F,Is C P I F []/\Mid j L (Xg I) s u I F []/\us I F<=us l (nw sf cs)+j.B/\(∀a,dy F a≠U->dy (nw sf cs) a≠U\/a=nm 99 s\/a=nm 109 s\/a=nm 118 s)/\∀t,dy (nw sf cs) (nm 99 t)≠U->dy F (nm 99 t)≠U) (lh j C L y u):=by
 have zv:=Fa j c;have zm:=Ft j c;have zk:=Fi j s c;have hB:j.B=21*Xg j.vs+48:=rfl;have W:∀{x:UInt8} {t:Nat},nm x s=nm x t->s=t:=λe=>(Ru.s9 e).2
 have w1:=sJ (p:=vB c (Xg j.vs)) hi h WN (Eb (c:=118) (by decide) hs) (λt=>jN (by decide)) (λt e=>W e ▸ V) (λt e=>absurd e (jN (by decide))) (show us l (nw sf cs)+(j.vF c).size<=u by omega) N;refine Rs.app (Rs.app (Rs.app w1 λR1 k1=>?_:Rs C _ R (λP=>Is C P (l++[⟨j.vF c,(j.vF c).size⟩]++[⟨j.mF c,(j.mF c).size⟩]) sf (cs++[⟨e0,nm 118 s,Xg l⟩]++[⟨e0,nm 109 s,(l++[⟨j.vF c,(j.vF c).size⟩]:List Fl).length⟩])/\Mid j L (Xg l) y u (l++[⟨j.vF c,(j.vF c).size⟩]++[⟨j.mF c,(j.mF c).size⟩]) sf (cs++[⟨e0,nm 118 s,Xg l⟩]++[⟨e0,nm 109 s,(l++[⟨j.vF c,(j.vF c).size⟩]:List Fl).length⟩])) (lh j C L y u)) λR2 k2=>?_:Rs C _ R (λP=>Is C P (l++[⟨j.vF c,(j.vF c).size⟩]++[⟨j.mF c,(j.mF c).size⟩]++[⟨j.kF s c,(j.kF s c).size⟩]) sf (cs++[⟨e0,nm 118 s,Xg l⟩]++[⟨e0,nm 109 s,(l++[⟨j.vF c,(j.vF c).size⟩]:List Fl).length⟩]++[⟨e0,tN,(l++[⟨j.vF c,(j.vF c).size⟩]++[⟨j.mF c,(j.mF c).size⟩]:List Fl).length⟩])/\Mid j L (Xg l) y u (l++[⟨j.vF c,(j.vF c).size⟩]++[⟨j.mF c,(j.mF c).size⟩]++[⟨j.kF s c,(j.kF s c).size⟩]) sf (cs++[⟨e0,nm 118 s,Xg l⟩]++[⟨e0,nm 109 s,(l++[⟨j.vF c,(j.vF c).size⟩]:List Fl).length⟩]++[⟨e0,tN,(l++[⟨j.vF c,(j.vF c).size⟩]++[⟨j.mF c,(j.mF c).size⟩]:List Fl).length⟩])) (lh j C L y u)) λR3 k3=>?_
 .obtain⟨i1,m1⟩:=k1;have X:=λb=>rX (i:=Xg l) (BZ 118 s) (vR h.wf) b
  have u1:=vE (a:=nm 118 s) (x:=⟨j.vF c,(j.vF c).size⟩) h.wf;have n1:dy (nw sf (cs++[⟨e0,nm 118 s,Xg l⟩])) (nm 99 s)=U:=by rw[X,TZ (jN (by decide))];exact V
  exact sJ (p:=mB c (Xg j.vs)) i1 m1 (by simp) (Eb (c:=109) (by decide) hs) (λt=>jN (by decide)) (λt e=>absurd e (jN (by decide))) (λt e=>W e ▸ n1) (by
   show us (l++[⟨j.vF c,(j.vF c).size⟩]) _+(j.mF c).size<=u
   have ae:us (l++[⟨j.vF c,(j.vF c).size⟩]) (nw sf (cs++[⟨e0,nm 118 s,Xg l⟩]))<=us l (nw sf cs)+(j.vF c).size:=u1;exact Uc (WJ ae _) (by omega)) N
 .obtain⟨i2,m2⟩:=k2;have u1:us (l++[⟨j.vF c,(j.vF c).size⟩]) (nw sf (cs++[⟨e0,nm 118 s,Xg l⟩]))<=us l (nw sf cs)+(j.vF c).size:=vE (x:=⟨j.vF c,(j.vF c).size⟩) h.wf;have q:Wf (l++[⟨j.vF c,(j.vF c).size⟩]) sf (cs++[⟨e0,nm 118 s,Xg l⟩]):=(h.wf.mono (by simp)).snoc (Xa (by simp));have u2:=vE (a:=nm 109 s) (x:=⟨j.mF c,(j.mF c).size⟩) q;exact sJ (p:=kB s c.all j.da (gX (j.vF c)) (gX (j.mF c))) i2 m2 (by simp) (by decide) (λt e=>m9 _ _ e.symm) (λt e=>absurd e.symm (m9 _ _)) (λt e=>absurd e.symm (m9 _ _)) (Uc (WJ (Uc u2 (WJ u1 _)) _) (show us l (nw sf cs)+(j.vF c).size+(j.mF c).size+(j.kF s c).size<=u by omega)) N
 .obtain⟨i3,m3⟩:=k3;have q:Wf (l++[⟨j.vF c,(j.vF c).size⟩]) sf (cs++[⟨e0,nm 118 s,Xg l⟩]):=(h.wf.mono (by simp)).snoc (Xa (by simp));have f2:Wf (l++[⟨j.vF c,(j.vF c).size⟩]++[⟨j.mF c,(j.mF c).size⟩]) sf (cs++[⟨e0,nm 118 s,Xg l⟩]++[⟨e0,nm 109 s,(l++[⟨j.vF c,(j.vF c).size⟩]:List Fl).length⟩]):=(q.mono (by simp)).snoc (Xa (by simp));have u1:us (l++[⟨j.vF c,(j.vF c).size⟩]) (nw sf (cs++[⟨e0,nm 118 s,Xg l⟩]))<=us l (nw sf cs)+(j.vF c).size:=vE (x:=⟨j.vF c,(j.vF c).size⟩) h.wf;have u2:=vE (a:=nm 109 s) (x:=⟨j.mF c,(j.mF c).size⟩) q;have X:=λb=>rX (i:=Xg l) (BZ 118 s) (vR h.wf) b
  have g2:=λb=>rX (i:=(l++[⟨j.vF c,(j.vF c).size⟩]:List Fl).length) (BZ 109 s) (vR q) b
  have f:=λb=>rX (i:=(l++[⟨j.vF c,(j.vF c).size⟩]++[⟨j.mF c,(j.mF c).size⟩]:List Fl).length) OW (vR f2) b
  have l1:Xg l<(l++[⟨j.vF c,(j.vF c).size⟩]:List Fl).length:=by simp
  have l2:(l++[⟨j.vF c,(j.vF c).size⟩]:List Fl).length<(l++[⟨j.vF c,(j.vF c).size⟩]++[⟨j.mF c,(j.mF c).size⟩]:List Fl).length:=by simp
  have l3:(l++[⟨j.vF c,(j.vF c).size⟩]++[⟨j.mF c,(j.mF c).size⟩]:List Fl).length<(l++[⟨j.vF c,(j.vF c).size⟩]++[⟨j.mF c,(j.mF c).size⟩]++[⟨j.kF s c,(j.kF s c).size⟩]:List Fl).length:=by simp
  have q3:=kd (l++[⟨j.vF c,(j.vF c).size⟩]++[⟨j.mF c,(j.mF c).size⟩]) (⟨j.kF s c,(j.kF s c).size⟩:Fl) d0;have q2:=(mo (m:=[(⟨j.kF s c,(j.kF s c).size⟩:Fl)]) (d:=d0) l2).trans (kd (l++[⟨j.vF c,(j.vF c).size⟩]) (⟨j.mF c,(j.mF c).size⟩:Fl) d0);have q1:=(mo (m:=[(⟨j.kF s c,(j.kF s c).size⟩:Fl)]) (d:=d0) (Nat.lt_trans l1 l2)).trans ((mo (m:=[(⟨j.mF c,(j.mF c).size⟩:Fl)]) (d:=d0) l1).trans (kd l (⟨j.vF c,(j.vF c).size⟩:Fl) d0));have af:nm 118 s≠nm 109 s:=jN (by decide);generalize ah:cs++[(⟨e0,nm 118 s,Xg l⟩:Ch)]++[⟨e0,nm 109 s,(l++[⟨j.vF c,(j.vF c).size⟩]:List Fl).length⟩]=z at *;generalize aj:(l++[⟨j.vF c,(j.vF c).size⟩]:List Fl).length=N1 at *;generalize ai:l++[⟨j.vF c,(j.vF c).size⟩]++[⟨j.mF c,(j.mF c).size⟩]=r at *;generalize o:r++[⟨j.kF s c,(j.kF s c).size⟩]=A at *;have hg:dy (nw sf (z++[⟨e0,tN,Xg r⟩])) tN=S (Xg r):=by rw[f,T0 rfl]
  have Q:∀b,dy (nw sf (z++[⟨e0,tN,Xg r⟩]++[⟨tN,nm 99 s,Xg r⟩])) b=if b=nm 99 s then S (Xg r) else if b=tN then U else dy (nw sf (z++[⟨e0,tN,Xg r⟩])) b:=λb=>by
   rw[jC _ (z++_),qN]
   show (if b=nm 99 s then if nm 99 s=e0 then U else S (Xg r) else if b=tN then U else _)=_
   rw[TZ (BZ 99 s)]
  have T:us A (nw sf (z++[⟨e0,tN,Xg r⟩]++[⟨tN,nm 99 s,Xg r⟩]))<=us l (nw sf cs)+j.B:=by
   rw[jC _ (z++_),jC];refine Uc (QW _ _ _ OW (BZ 99 s)) ?_;rw[q3,<-o,uz f2.here.2.2];exact Uc (WJ (Uc u2 (WJ u1 _)) _) (show us l (nw sf cs)+(j.vF c).size+(j.mF c).size+(j.kF s c).size<=_ by omega)
  have ag:j.Sn (Xg A) A (dy (nw sf (z++[⟨e0,tN,Xg r⟩]++[⟨tN,nm 99 s,Xg r⟩]))) s c:=by
   refine⟨⟨Xg l,?_,Nat.lt_trans l1 (Nat.lt_trans l2 l3),q1⟩,⟨N1,?_,Nat.lt_trans l2 l3,q2⟩,⟨Xg r,?_,l3,q3⟩⟩
   .rw[Q,TZ (jN (by decide)),TZ (m9 _ _),f,TZ (m9 _ _),g2,TZ af,X,T0 rfl]
   .rw[Q,TZ (jN (by decide)),TZ (m9 _ _),f,TZ (m9 _ _),g2,T0 rfl]
   .rw[Q,T0 rfl]
  have n:Xg l<=Xg A:=by omega
  have m4:j.G (Xg A) A (dy (nw sf (z++[⟨e0,tN,Xg r⟩]++[⟨tN,nm 99 s,Xg r⟩]))):=(m3.g.now.1.mono n λ_ _=>O).add (λb h1 h2=>by rw[Q,TZ h1,TZ h2]) ab ad hc ag;have aa:∀t,dy (nw sf cs) (nm 99 t)≠U->dy (nw sf (z++[⟨e0,tN,Xg r⟩]++[⟨tN,nm 99 s,Xg r⟩])) (nm 99 t)≠U:=λt ht=>by
   rw[Q];split
   .exact λe=>by cases e
   .rw[TZ (m9 _ _),f,TZ (m9 _ _),g2,TZ (jN (by decide)),X,TZ (jN (by decide))];exact ht
  have o4:Ab C (dz R3 ⟨4,tN,nm 99 s⟩) _ _ _ _ _ _:=Io i3 hg (Eb (by decide) hs) (λe=>m9 _ _ e.symm);have M3:=m3.mono n (TY u);have M4:Mid j L (Xg A) y u A sf (z++[⟨e0,tN,Xg r⟩]++[⟨tN,nm 99 s,Xg r⟩]):=⟨M3.wf.snoc (Xa l3),by
   rw[show z++[⟨e0,tN,Xg r⟩]++[⟨tN,nm 99 s,Xg r⟩]=(z++[⟨e0,tN,Xg r⟩])++[⟨tN,nm 99 s,Xg r⟩] from rfl] at *;exact Vw.snoc M3.g (by rw[<-jC];exact⟨m4,λhy=>aa y (h.g.now.2.1 hy),Uc T hu⟩)⟩
  refine Rs.op o4 (λP k=>⟨_,_,_,k,M3⟩) λR4 i4=>?_
  have o5:Ab C (dz R4 nS) _ _ _ _ _ _:=qG i4;refine Rs.op o5 (λP k=>⟨_,_,_,k,M4⟩) λR5 i5=>Rs.nil ⟨_,_,i5,⟨M4.wf.now,Vw.nil M4.wf.now.some ⟨m4,λ_=>?_,Uc T hu⟩⟩,T,λa M=>?_,aa⟩
  .rw[Q,T0 rfl];exact λe=>by cases e
  .rw[Q] at M;by_cases e1:a=nm 99 s
   .exact Xb (Xa e1)
   rw[TZ e1] at M;by_cases e2:a=tN
   .rw[T0 e2] at M;exact absurd O M
   rw[TZ e2,f,TZ e2,g2] at M;by_cases e3:a=nm 109 s
   .exact Xb (Xb (Xa e3))
   rw[TZ e3,X] at M;by_cases e4:a=nm 118 s
   .exact Xb (Xb (Xb e4))
   rw[TZ e4] at M;exact Xa M
end Hl
namespace Hl
open Go Sp
open Rd (Rk e0 dy Fl Ch ap wo keyed nk)
open Ru (rz fG Out dz eh eK fx dR eO drop1 mU nS tN nm vB mB kB Oq)
def sz(fs:List Fl):Option Nat->Nat
 |none=>0
 |some i=>(fs.getD i d0).bytes.size
theorem E7(fs:List Fl)(p:WU × Nat)(L:Sd.Tb):us fs (p::L)=(fs.getD p.2 d0).bytes.size+us fs L:=by unfold us;rw[U4,V8]
theorem vA(fs:List Fl)(a:WU):∀L:Sd.Tb,keyed L->us fs L=sz fs (dy L a)+us fs (wo L a)
 |[],_=>rfl
 |p::L,h=>by
  obtain⟨j,l⟩:=U6.1 h;have m:=vA fs a L l;rw[E7,Rd.gS];have e:wo (p::L) a=if p.1=a then wo L a else p::wo L a:=by
   unfold wo;rw[VO];by_cases e:p.1=a
   .rw[T0 e,TZ (by simp[e])]
   .rw[TZ e,T0 (by simp[e])]
  rw[e];by_cases e:p.1=a
  .rw[T0 e,T0 e.symm];have r:dy L a=U:=Rd.kH.2 λq u b=>j q u (e.trans b.symm)
   rw[r] at m;have:sz fs U=0:=rfl;have y:sz fs (S p.2)=(fs.getD p.2 d0).bytes.size:=rfl;omega
  .rw[TZ e,TZ (λh=>e h.symm),E7];omega
theorem BV(fs:List Fl):∀(j:List WU) (L:Sd.Tb),keyed L->(∀p∈L,p.1∈j)->us fs L<=(j.map λa=>sz fs (dy L a)).sum
 |[],L,_,h=>by
  cases L with
  |nil=>exact TY _
  |cons p L=>exact absurd (h p (UI ..)) (by simp)
 |a::j,L,m,h=>by
  rw[vA fs a L m,U4,V8];have r:=BV fs j (wo L a) (Rd.kW m a) (λp u=>by
   obtain⟨y,z⟩:=Rd.iA.1 u;exact(UC.1 (h p y)).elim (λe=>absurd e z) id)
  have:((j.map λb=>sz fs (dy (wo L a) b)).sum)<=(j.map λb=>sz fs (dy L b)).sum:=by
   clear r h
   induction j with
   |nil=>exact TY _
   |cons b j l =>
    rw[U4,V8,U4,V8];refine Nat.add_le_add ?_ l;rw[Rd.jE];split
    .exact Ud _
    .exact TY _
  omega
variable {sf:Sd.Tb}{a:WU}{cs:List Ch}
theorem EV(j:dy (nw sf cs) e0=U)(b:WU): dy (nw sf (cs++[⟨a,e0,0⟩])) b=if b=a then U else dy (nw sf cs) b:=by
 rw[jC,qN]
 show (if b=e0 then if e0=e0 then U else S 0 else if b=a then U else _)=_
 rw[T0 rfl];by_cases e:b=e0
 .rw[T0 e,e,j];split <;> rfl
 .rw[TZ e]
variable {fs:List Fl}
theorem OQ(h:Wf fs sf cs): nw sf (cs++[⟨a,e0,0⟩])=wo (nw sf cs) a:=by
 rw[jC];unfold ap;rw[T0 rfl];exact Rd.lU λp b=>h.here.2.1 p (Rd.iA.1 b).1
theorem Mid.rm{j:Jb}{m:Bool}{N y u:Nat}(h:Mid j m N y u fs sf cs)(z:∀s,a=nm 118 s->dy (nw sf cs) (nm 99 s)=U)(A:∀s,a=nm 109 s->dy (nw sf cs) (nm 99 s)=U)(B:y≠0->a≠nm 99 y): Mid j m N y u fs sf (cs++[⟨a,e0,0⟩]):=by
 have l:=λb=>EV (a:=a) (vR h.wf) b
 have hu:=tz fs a (nw sf cs);refine⟨h.wf.snoc (Xb O),Vw.snoc h.g ?_⟩;rw[<-jC];obtain⟨C,F,G⟩:=h.g.now;refine⟨C.off (a:=a) (λb I=>by rw[l,TZ I]) (λs e=>?_) (λs e=>?_) (λs e=>by rw[l,T0 rfl]),λr=>?_,?_⟩
 .rw[l,z s e];split <;> rfl
 .rw[l,A s e];split <;> rfl
 .rw[l,TZ (λe=>B r e.symm)];exact F r
 .rw[OQ h.wf];exact Uc hu G
theorem yu{j:Jb}{F M:Bool}{y u:Nat}: ∀(l:List WU) {cs:List Ch} {R:Rk},Is F R fs sf cs->Mid j M (Xg fs) y u fs sf cs->l.Nodup->(∀a∈l,dy (nw sf cs) a≠U)->(∀G a N,l=G++a::N->∀s,a=nm 118 s\/a=nm 109 s->nm 99 s∈G\/dy (nw sf cs) (nm 99 s)=U)->(∀a∈l,y≠0->a≠nm 99 y)->
  Rs F (l.map mU) R (λI=>∃m,Is F I fs sf m/\Mid j M (Xg fs) y u fs sf m/\(∀b,(b∈l->dy (nw sf m) b=U)/\(¬b∈l->dy (nw sf m) b=dy (nw sf cs) b))/\us fs (nw sf m)+(l.map λa=>sz fs (dy (nw sf cs) a)).sum=us fs (nw sf cs)) (lh j F M y u)
 |[],cs,R,hi,h,_,_,_,_=>Rs.nil ⟨cs,hi,h,λb=>⟨λr=>(by cases r),λ_=>rfl⟩,rfl⟩
 |a::l,cs,R,hi,h,q,T,V,W=>by
  obtain⟨X,f⟩:=List.nodup_cons.1 q;have P:=V [] a l O;have z:∀s,a=nm 118 s\/a=nm 109 s->dy (nw sf cs) (nm 99 s)=U:=λs e=>(P s e).elim (λh=>by cases h) id
  cases x:dy (nw sf cs) a with
  |none=>exact absurd x (T a (UI ..))
  |some i =>
   have t:Ab F (dz R (mU a)) fs fs sf sf cs (cs++[⟨a,e0,0⟩]):=Gl hi x;have p:=h.rm (a:=a) (λs e=>z s (Xa e)) (λs e=>z s (Xb e)) (W a (UI ..));have C:=λb=>EV (a:=a) (vR h.wf) b
   rw[U4];refine Rs.op t (λI k=>⟨_,_,_,k,h⟩) λR1 o=>?_
   refine(yu l o p f (λb r=>?_) (λG b N e s n=>?_) (λb r=>W b (UZ _ r))).imp (λI Q=>?_) λI Q=>Q
   .rw[C,TZ (λe:b=a=>X (e ▸ r))];exact T b (UZ _ r)
   .rcases V (a::G) b N (by rw[e];rfl) s n with A|A
    .rcases UC.1 A with A|A
     .exact Xb (by rw[C,T0 A])
     .exact Xa A
    .exact Xb (by rw[C,A];split <;> rfl)
   .obtain⟨m,g,k2,L,k4⟩:=Q;refine⟨m,g,k2,λb=>?_,?_⟩
    .by_cases e:b=a
     .refine⟨λ_=>?_,λr=>absurd (by rw[e];exact UI ..) r⟩;by_cases B:b∈l
      .exact(L b).1 B
      .rw[(L b).2 B,C,T0 e]
     .by_cases B:b∈l
      .exact⟨λ_=>(L b).1 B,λr=>absurd (UZ _ B) r⟩
      .exact⟨λr=>((UC.1 r).elim e B).elim,λ_=>by rw[(L b).2 B,C,TZ e]⟩
    .have e1:(l.map λb=>sz fs (dy (nw sf (cs++[⟨a,e0,0⟩])) b))=l.map λb=>sz fs (dy (nw sf cs) b):=Ws λb r=>by rw[C,TZ (λe:b=a=>X (e ▸ r))]
     rw[e1,OQ h.wf] at k4;rw[U4,V8,vA fs a _ h.wf.here.1];omega
end Hl
namespace Hl
open Go Sp
open Rd (Rk e0 dy Fl Ch ap wo keyed nk)
open Ru (rz fG Out dz eh eK fx dR eO drop1 mU nS tN nm vB mB kB Oq)
def n3(s:Nat):List WU:=[nm 99 s,nm 109 s,nm 118 s]
variable {s:Nat}
theorem kl{a:WU}: a∈n3 s↔a=nm 99 s\/a=nm 109 s\/a=nm 118 s:=by simp[n3]
theorem B1{t:Nat}{a:WU}(h1:a∈n3 s)(h2:a∈n3 t): s=t:=by
 rcases kl.1 h1 with rfl|rfl|rfl <;> rcases kl.1 h2 with h|h|h <;> exact(Ru.s9 h).2
theorem LH(s:Nat):(n3 s).Nodup:=by
 have a:nm 99 s≠nm 109 s:=jN (by decide);have b:nm 99 s≠nm 118 s:=jN (by decide);have c:nm 109 s≠nm 118 s:=jN (by decide);simp[n3,a,b,c]
theorem A5:∀{j:List Nat},j.Nodup->(j.flatMap n3).Nodup
 |[],_=>List.Pairwise.nil
 |s::j,h=>by
  obtain⟨m,r⟩:=List.nodup_cons.1 h;rw[V9];refine VW.2 ⟨LH s,A5 r,λa u b l e=>?_⟩;subst e;obtain⟨t,y,l⟩:=Vv.1 l;exact m (B1 u l ▸ y)
theorem Bj:∀(b:List Nat) (e:List WU) (a:WU) (l:List WU),b.flatMap n3=e++a::l->∀s,a=nm 118 s\/a=nm 109 s->nm 99 s∈e
 |[],e,a,l,h,s,j=>by
  have:=congrArg List.length h;simp at this
 |t::b,e,a,l,h,s,j=>by
  rw[V9] at h
  match e,h with
  |[],h =>
   injection h with h _;rcases j with rfl|rfl
   .exact absurd h (jN (by decide))
   .exact absurd h (jN (by decide))
  |[x],h =>
   injection h with m h;injection h with r _;rcases j with rfl|rfl
   .exact absurd r (jN (by decide))
   .rw[<-m,(Ru.s9 r).2];exact UI ..
  |[x,y],h =>
   injection h with m h;injection h with r h;injection h with u _;rcases j with rfl|rfl
   .rw[<-m,(Ru.s9 u).2];exact UI ..
   .exact absurd u (jN (by decide))
  |x::y::z::e,h =>
   injection h with m h;injection h with r h;injection h with u h;exact UZ _ (UZ _ (UZ _ (Bj b e a l h s j)))
theorem BT:∀b:List Nat,b.flatMap drop1=(b.flatMap n3).map mU
 |[]=>rfl
 |s::b=>by rw[V9,V9,Vn,BT b];rfl
variable {fs:List Fl}
theorem OK{b:Jb}{N:Nat}{f:WU->Option Nat}(h:b.G N fs f)(l:f (nm 99 s)≠U): (∀a∈n3 s,f a≠U)/\((n3 s).map λa=>sz fs (f a)).sum=b.B:=by
 obtain⟨_,_,c,_,⟨⟨i,m,_,u⟩,⟨j,r,_,y⟩,⟨k,z,_,A⟩⟩⟩:=h s l;refine⟨λa C=>?_,?_⟩
 .rcases kl.1 C with rfl|rfl|rfl
  .exact l
  .rw[r];exact λe=>by cases e
  .rw[m];exact λe=>by cases e
 .have F:sz fs (f (nm 118 s))=9*Xg b.vs+8:=by rw[m];show (fs.getD i d0).bytes.size=_;rw[u,<-Fa b c]
  have I:sz fs (f (nm 109 s))=12*Xg b.vs+8:=by rw[r];show (fs.getD j d0).bytes.size=_;rw[y,<-Ft b c]
  have L:sz fs (f (nm 99 s))=32:=by rw[z];show (fs.getD k d0).bytes.size=_;rw[A,<-Fi b s c]
  have e:((n3 s).map λa=>sz fs (f a)).sum=sz fs (f (nm 99 s))+(sz fs (f (nm 109 s))+(sz fs (f (nm 118 s))+0)):=rfl;rw[e,F,I,L];unfold Jb.B;omega
theorem Ki{b:Jb}{N:Nat}{f:WU->Option Nat}(h:b.G N fs f): ∀e:List Nat,(∀s∈e,f (nm 99 s)≠U)->((e.flatMap n3).map λa=>sz fs (f a)).sum=Xg e*b.B
 |[],_=>by simp
 |s::e,j=>by
  rw[V9,Vn,List.sum_append_nat,(OK h (j s (UI ..))).2,Ki h e λt l=>j t (UZ _ l),Uf,Nat.succ_mul];omega
theorem Ku{j:Jb}{A G:Bool}{y u:Nat}{r:Sd.Tb}{cs:List Ch}{R:Rk}{K:List Nat}(hi:Is A R fs r cs)(h:Mid j G (Xg fs) y u fs r cs)(N:K.Nodup)(I:∀s∈K,dy (nw r cs) (nm 99 s)≠U)(P:y∉K):Rs A (fx K) R (λL=>∃m l,Is A L fs m l/\Mid j G (Xg fs) y u fs m l/\(∀b,(b∈K.flatMap n3->dy (nw m l) b=U)/\(¬b∈K.flatMap n3->dy (nw m l) b=dy (nw r cs) b))/\us fs (nw m l)+Xg K*j.B=us fs (nw r cs)) (lh j A G y u):=by
 unfold fx;split
 .rename_i e;subst e;exact Rs.nil ⟨r,cs,hi,h,λb=>⟨λQ=>by simp at Q,λ_=>O⟩,by simp⟩
 .rw[BT];have M:=h.g.now.1;refine Rs.app (yu _ hi h (A5 N) (λa z=>?_) (λT a V e s C=>Xa (Bj K T a V e s C)) (λa z _ e=>?_)) λW X=>?_
  .obtain⟨s,C,z⟩:=Vv.1 z;exact(OK M (I s C)).1 a z
  .obtain⟨s,C,z⟩:=Vv.1 z;exact P (B1 (e ▸ z) (kl.2 (Xa O)) ▸ C)
  .obtain⟨l,x,F,q,u1⟩:=X;rw[Ki M K I] at u1;have o:Ab A (dz W nS) fs fs r (nw r l) l []:=qG x;have e:nw (nw r l) []=nw r l:=Rd.lU F.wf.now.some;refine Rs.op o (λL k=>⟨_,_,_,k,F⟩) λf i=>Rs.nil ⟨_,_,i,⟨F.wf.now,Vw.nil F.wf.now.some F.g.now⟩,λb=>?_,?_⟩
   .rw[e];exact q b
   .rw[e];exact u1
end Hl
namespace Hl
open Go Sp
open Rd (Rk e0 dy Fl Ch ap wo keyed nk)
open Ru (rz fG Out dz eh eK fx dR eO drop1 mU nS tN nm vB mB kB Oq yL nY)
theorem Fy(c:UInt8)(s:Nat):(nm c s).toList=c::46::Lib.decDigits s:=by
 rw[Vt];unfold Ru.nm;rw[VN];simp[Ru.dc]
theorem O8{c d:UInt8}(h:c<d)(s t:Nat):Sd.lt (nm c s) (nm d t)=W8:=by
 unfold Sd.lt;rw[Fy,Fy];simp[Op.bytesLess,h]
theorem PX{K:List Nat}{a:WU}:yL K a=W8↔a∈K.flatMap n3:=by
 rw[nY,Vv];exact⟨λ⟨s,b,e⟩=>⟨s,b,kl.2 e⟩,λ⟨s,b,e⟩=>⟨s,b,kl.1 e⟩⟩
theorem G1{j:Jb}{F P:Bool}{y u:Nat}{z:List Fl}{A:Sd.Tb}{cs:List Ch}{R:Rk}{K:List Nat}(hi:Is F R z A cs)(h:Mid j P (Xg z) y u z A cs)(hd:R.down=W9)(hK:∀s∈K,dy (nw A cs) (nm 99 s)≠U)(hy:y≠0->y∈K):Rs F (dR R.fD K) R (λN=>∃r m,Is F N z r m/\Mid j P (Xg z) y u z r m/\(∀a,dy (nw r m) a≠U->a∈K.flatMap n3)/\(∀s∈K,dy (nw r m) (nm 99 s)≠U)/\us z (nw r m)<=Xg K*j.B) (lh j F P y u):=by
 have el:R.fD=(Rd.tab (nw A cs)).map (·.1):=by unfold Rk.fD;rw[TZ (by rw[hd];decide),hi.nw]
 have G:=h.wf.here.1;have mem:∀a,a∈R.fD↔dy (nw A cs) a≠U:=λa=>by
  rw[el,Ve];constructor
  .rintro⟨p,q,rfl⟩ e;exact Rd.kH.1 e p ((Rd.gq G).1 q) O
  .intro e;cases hg:dy (nw A cs) a with
   |none=>exact absurd hg e
   |some i=>exact⟨(a,i),(Rd.gq G).2 ((Rd.nj G).1 hg),rfl⟩
 have f:R.fD.Pairwise λa b=>Sd.lt a b=W8:=by rw[el];exact List.pairwise_map.2 (Rd.eG _)
 obtain⟨l,n⟩:∃l,(R.fD.filter λa=>!yL K a)=l:=⟨_,rfl⟩
 have C:∀a,a∈l↔dy (nw A cs) a≠U/\¬a∈K.flatMap n3:=λa=>by
  rw[<-n,VE,mem,<-PX];simp
 have Q:l.Pairwise λa b=>Sd.lt a b=W8:=by rw[<-n];exact f.sublist List.filter_sublist
 have aa:l.Nodup:=Q.imp λe=>Sd.qW e
 have V:∀{N:Rk} {r:Sd.Tb} {m:List Ch},Is F N z r m->Mid j P (Xg z) y u z r m->(∀b,(b∈l->dy (nw r m) b=U)/\(¬b∈l->dy (nw r m) b=dy (nw A cs) b))->∃r m,Is F N z r m/\Mid j P (Xg z) y u z r m/\(∀a,dy (nw r m) a≠U->a∈K.flatMap n3)/\(∀s∈K,dy (nw r m) (nm 99 s)≠U)/\us z (nw r m)<=Xg K*j.B:=λ{N r m} i1 I W=>by
  have a1:∀a,dy (nw r m) a≠U->a∈K.flatMap n3:=λa L=>by
   by_cases e:a∈l
   .exact absurd ((W a).1 e) L
   .rw[(W a).2 e] at L;exact Classical.byContradiction λe2=>e ((C a).2 ⟨L,e2⟩)
  have a2:∀s∈K,dy (nw r m) (nm 99 s)≠U:=λs X=>by
   rw[(W _).2 λe=>((C _).1 e).2 (Vv.2 ⟨s,X,kl.2 (Xa O)⟩)];exact hK s X
  refine⟨r,m,i1,I,a1,a2,?_⟩;refine Uc (BV z (K.flatMap n3) _ I.wf.here.1 λp q=>a1 p.1 λe=>Rd.kH.1 e p q O) ?_;rw[Ki I.g.now.1 K a2];exact TY _
 have go:Rs F (l.map mU) R (λN=>∃m,Is F N z A m/\Mid j P (Xg z) y u z A m/\(∀b,(b∈l->dy (nw A m) b=U)/\(¬b∈l->dy (nw A m) b=dy (nw A cs) b))/\us z (nw A m)+(l.map λa=>sz z (dy (nw A cs) a)).sum=us z (nw A cs)) (lh j F P y u):=by
  refine yu l hi h aa (λa L=>((C a).1 L).1) (λl1 a l2 e s X=>?_) (λa L h0 e=>?_)
  .by_cases hc:dy (nw A cs) (nm 99 s)=U
   .exact Xb hc
   refine Xa ?_;have L:a∈l:=by rw[e];exact Vp _ (UI ..)
   have ab:a∈n3 s:=kl.2 (X.elim (λe=>Xb (Xb e)) λe=>Xb (Xa e));have x:nm 99 s∈l:=(C _).2 ⟨hc,λhk=>((C a).1 L).2 (by
    obtain⟨t,ht,hk⟩:=Vv.1 hk;exact Vv.2 ⟨t,ht,B1 hk (kl.2 (Xa O)) ▸ ab⟩)⟩
   have M:Sd.lt (nm 99 s) a=W8:=by
    rcases X with rfl|rfl
    .exact O8 (by decide) _ _
    .exact O8 (by decide) _ _
   rw[e] at x Q;rcases Uq.1 x with T|T
   .exact T
   .rcases UC.1 T with T|T
    .rw[T,Sd.lt_irrefl] at M;cases M
    .have:=(U6.1 (Wc.1 Q).2.1).1 _ T;rw[Sd.lt_asymm this] at M;cases M
  .exact((C a).1 L).2 (Vv.2 ⟨y,hy h0,kl.2 (Xa e)⟩)
 unfold dR;rw[n]
 show Rs F (if l.map mU=[] then [] else l.map mU++[nS]) R _ _
 split
 .rename_i e;have ad:l=[]:=by simpa using e
  exact Rs.nil (V hi h λb=>⟨λhb=>(by rw[ad] at hb;cases hb),λ_=>rfl⟩)
 .refine Rs.app go λR1 k1=>?_
  obtain⟨m,i1,I,W,_⟩:=k1;have o:Ab F (dz R1 nS) z z A (nw A m) m []:=qG i1;have e:nw (nw A m) []=nw A m:=Rd.lU I.wf.now.some;exact Rs.op o (λN k=>⟨_,_,_,k,I⟩) λR2 i2=>Rs.nil (V i2 ⟨I.wf.now,Vw.nil I.wf.now.some I.g.now⟩ λb=>by rw[e];exact W b)
end Hl
namespace Hl
open Go Sp
open Rd (Rk e0 dy Fl Ch ap wo keyed nk)
open Ru (rz fG Out dz eh eK fx dR eO drop1 mU nS tN nm vB mB kB Oq yL nY me)
def im(K:List Nat):Nat:=K.getLast?.getD 0
theorem kj(K:List Nat)(s:Nat):im (K++[s])=s:=by unfold im;simp
theorem ve{K:List Nat}(h:im K≠0):im K∈K:=by
 rcases Wk K with e|⟨b,s,e⟩
 .subst e;exact absurd O h
 .rw[Wl] at e;subst e;rw[kj];simp
theorem rM{K:List Nat}(h:me K):∀s∈K,s<=im K:=λs j=>by
 rcases Wk K with e|⟨l,t,e⟩
 .subst e;cases j
 .rw[Wl] at e;subst e;rw[kj];rcases Uq.1 j with b|b
  .exact UT ((Wc.1 h).2.2 s b t (List.mem_singleton_self t))
  .rw[Uz.1 b];exact TY _
def Lp(b:Jb)(m r:Bool)(R:Rk)(K:List Nat):Prop := ∃l e j,Is m R l e j/\Mid b r (Xg l) (im K) ((b.keep+1)*b.B) l e j/\(∀a,dy (nw e j) a≠U->a∈K.flatMap n3)/\(∀s∈K,dy (nw e j) (nm 99 s)≠U)/\us l (nw e j)<=Xg K*b.B
theorem Lp.bad{b:Jb}{e j:Bool}{R:Rk}{K:List Nat}(h:Lp b e j R K):lh b e j (im K) ((b.keep+1)*b.B) R:=by
 obtain⟨l,m,r,u,y,_⟩:=h;exact⟨l,m,r,u,y⟩
theorem Tx{b:Jb}(e:b.Ok):(b.keep+1)*b.B<=549755813888:=by
 have l:=e.keep.2;have m:=e.da.It;have j:b.B<=1392:=by unfold Jb.B;omega
 have r:=Nat.mul_le_mul (show b.keep+1<=6 by omega) j;omega
theorem Iy{j:Jb}(T:j.Ok){A V:Bool}{R:Rk}{K:List Nat}{s:Nat}{c:Cfg}(h:Lp j A V R K)(X:me K)(hk:Xg K<=j.keep)(hn:im K<s)(k:s%j.every=0)(hc:j.at' s=S c):Rs A (eK c (Xg j.vs) s j.da) R (λR1=>Rs A (fx ((K++[s]).take (Xg K+1-j.keep))) R1 (λR2=>Lp j A V R2 ((K++[s]).drop (Xg K+1-j.keep))) (lh j A V s ((j.keep+1)*j.B))) (lh j A V (im K) ((j.keep+1)*j.B)):=by
 obtain⟨fs,sf,cs,hi,hm,C,hp,hu⟩:=h;have af:=(yl T hc).1;have ae:=T.cap;have hB:=Tx T;have x:dy (nw sf cs) (nm 99 s)=U:=Classical.byContradiction λe=>by
  obtain⟨t,m,r⟩:=Vv.1 (C _ e);have:=rM X t m;have:=B1 r (kl.2 (Xa O));omega
 have q:us fs (nw sf cs)+j.B<=(j.keep+1)*j.B:=by
  rw[Nat.succ_mul];exact WJ (Uc hu (Wq _ hk)) _
 refine(KW hi hm x (by omega) k (by omega) hc q hB).imp (λR1 k1=>?_) λ_ h=>h
 obtain⟨i,y,i1,f,u1,a1,p1⟩:=k1;have W:nw y []=y:=Rd.lU f.wf.some;have F:me (K++[s]):=Wc.2 ⟨X,List.pairwise_singleton _ _,λa C b G=>by rw[Uz.1 G];exact Nat.lt_of_le_of_lt (rM X a C) hn⟩;have nd:(K++[s]).Nodup:=F.imp λh=>Nat.ne_of_lt h
 have u:∀t∈K++[s],dy (nw y []) (nm 99 t)≠U:=λt m=>by
  rw[W];rcases Uq.1 m with r|r
  .exact p1 t (hp t r)
  .rw[Uz.1 r];have:=f.g.now.2.1 (by omega);rw[W] at this;exact this
 have I:(K++[s]).length=Xg K+1:=by simp
 have p:=T.keep.1;have L:∃K',(K++[s]).drop (Xg K+1-j.keep)=K'++[s]:=⟨K.drop (Xg K+1-j.keep),Wx (by omega)⟩
 obtain⟨K',M⟩:=L;have l:=U7 (Xg K+1-j.keep) (K++[s]);have N:=nd;rw[<-l] at N;obtain⟨n1,n2,P⟩:=VW.1 N;have o:s∉(K++[s]).take (Xg K+1-j.keep):=λe=>P s e s (by rw[M];simp) O
 refine(Ku i1 f n1 (λt m=>u t (Wg m)) o).imp (λR2 k2=>?_) λ_ h=>h
 obtain⟨n,aa,i2,m2,g2,u2⟩:=k2;have ab:∀t∈(K++[s]).drop (Xg K+1-j.keep),∀a∈n3 t,¬a∈((K++[s]).take (Xg K+1-j.keep)).flatMap n3:=λt m a C G=>by
  obtain⟨t',ad,G⟩:=Vv.1 G;exact P t' ad t m (B1 G C)
 refine⟨i,n,aa,i2,by rw[M,kj];exact m2,λa z=>?_,λt m=>?_,?_⟩
 .by_cases e:a∈((K++[s]).take (Xg K+1-j.keep)).flatMap n3
  .exact absurd ((g2 a).1 e) z
  .rw[(g2 a).2 e,W] at z;have Q:a∈(K++[s]).flatMap n3:=by
    rw[V0];rcases a1 a z with r|r
    .exact Vy _ (C a r)
    .exact Vp _ (Vv.2 ⟨s,List.mem_singleton_self s,kl.2 r⟩)
   rw[<-l,V0] at Q;exact(Uq.1 Q).elim (λh=>absurd h e) id
 .rw[(g2 _).2 (ab t m _ (kl.2 (Xa O)))];exact u t (VC m)
 .rw[W] at u2;have l1:((K++[s]).take (Xg K+1-j.keep)).length+((K++[s]).drop (Xg K+1-j.keep)).length=Xg K+1:=by rw[<-UG,l,I]
  have l2:(((K++[s]).take (Xg K+1-j.keep)).length+((K++[s]).drop (Xg K+1-j.keep)).length)*j.B=Xg K*j.B+j.B:=by rw[l1,Nat.succ_mul]
  rw[Nat.add_mul] at l2;omega
end Hl
namespace Hl
open Go Sp
open Rd (Rk e0 dy Fl Ch ap wo keyed nk)
open Ru (rz fG Out dz eh eK fx dR eO drop1 mU nS tN nm vB mB kB Oq yL nY me)
theorem MN{e q s:Nat}(he:1<=e)(h1:q*e<s)(h2:s<=(q+1)*e)(j:s%e=0):s=(q+1)*e:=by
 have b:s=s/e*e:=by have:=Nat.div_add_mod s e;rw[j,U9,V4] at this;exact this.symm
 rw[b] at h1 h2;have l:=Nat.lt_of_mul_lt_mul_right h1;have m:=Nat.le_of_mul_le_mul_right h2 he;rw[b,show s/e=q+1 by omega]
theorem Ke{j:Jb}(Q:j.Ok){C x:Bool}{dj:Nat}(t:dj%j.every=0):∀(g s:Nat) (c:Cfg) (l:List Nat) (sv:Nat) (R:Rk),j.at' s=S c->Lp j C x R l->me l->Xg l<=j.keep->im l=(dj/j.every+sv)*j.every->(im l<s\/(s=dj/\sv=0))->s<=(dj/j.every+sv+1)*j.every->
  ∀o,o=rz j.P j.Es j.cap j.every j.keep j.da (Xg j.vs) dj g s c l sv R->(o.e=0\/o.e=er C)/\lh j C x ((dj/j.every+o.saved)*j.every) ((j.keep+1)*j.B) o.R
 |0,s,c,l,sv,R,q,T,V,p,F,n,hx,o,m=>by
  rw[rz] at m;subst m;exact⟨Xa O,F ▸ T.bad⟩
 |g+1,s,c,l,sv,R,q,T,V,p,F,n,hx,o,m=>by
  have he:=Q.every;have aa:dj/j.every*j.every=dj:=by have:=Nat.div_add_mod dj j.every;rw[t,U9,V4] at this;exact this
  have r:=T.bad;rw[F] at r;rw[rz] at m;by_cases z:quiet c s=W8
  .rw[T0 z] at m;subst m;exact⟨Xa O,r⟩
  rw[TZ z] at m;by_cases u:j.cap<=s
  .rw[T0 u] at m;subst m;exact⟨Xa O,r⟩
  rw[TZ u] at m;by_cases y:dj<s/\s%j.every=0
  .rw[T0 y] at m;have G:im l<s:=n.elim id λe=>by omega
   have I:s=(dj/j.every+sv+1)*j.every:=MN he (F ▸ G) hx y.2;have W:lh j C x s ((j.keep+1)*j.B)=lh j C x ((dj/j.every+(sv+1))*j.every) ((j.keep+1)*j.B):=by rw[<-Nat.add_assoc,<-I]
   rcases Iy Q T V p G y.2 q with ⟨L,N⟩|⟨L,N⟩
   .rw[TZ (by rw[L];simp)] at m;rcases N with ⟨h,f⟩|⟨h,f⟩
    .rw[TZ (by rw[h];simp)] at m;have ab:=Q.keep.1;have X:me (l++[s]):=Wc.2 ⟨V,List.pairwise_singleton _ _,λa A b hb=>by rw[Uz.1 hb];exact Nat.lt_of_le_of_lt (rM V a A) G⟩;have e1:(l++[s]).drop (Xg l+1-j.keep)=l.drop (Xg l+1-j.keep)++[s]:=Wx (by omega);have M:im ((l++[s]).drop (Xg l+1-j.keep))=s:=by rw[e1,kj]
     have k:=f.bad;rw[M,W] at k;cases A:lI j.P j.Es c s (Xg j.vs) with
     |error i =>
      rw[A] at m;subst m;exact⟨Xa O,k⟩
     |ok a =>
      rw[A] at m;refine Ke Q t g (s+1) _ _ (sv+1) _ (uE q z u A) f (X.sublist (List.drop_sublist _ _)) ?_ ?_ (Xa ?_) ?_ o m
      .rw[Vb,UG,Wt];omega
      .rw[M,<-Nat.add_assoc];exact I
      .rw[M];omega
      .rw[show (dj/j.every+(sv+1)+1)=(dj/j.every+sv+1)+1 by omega,Nat.succ_mul,<-I];omega
    .rw[T0 (by rw[h];exact xA C)] at m;subst m;exact⟨Xb h,by rw[<-W];exact f⟩
   .rw[T0 (by rw[L];exact xA C)] at m;subst m;exact⟨Xb L,by rw[F] at N;exact N⟩
  .rw[TZ y] at m;cases A:lI j.P j.Es c s (Xg j.vs) with
   |error i =>
    rw[A] at m;subst m;exact⟨Xa O,r⟩
   |ok a =>
    rw[A] at m;refine Ke Q t g (s+1) _ l sv R (uE q z u A) T V p F (Xa ?_) ?_ o m
    .rcases n with L|⟨L,N⟩
     .omega
     .rw[F,N,U9,aa];omega
    .refine Nat.lt_of_le_of_ne hx λe=>y ⟨?_,by rw[e];exact Nat.mul_mod_left _ _⟩
     rw[e];have L:dj/j.every*j.every<(dj/j.every+sv+1)*j.every:=Nat.mul_lt_mul_of_pos_right (by omega) he;omega
end Hl
namespace Hl
open Go Sp
open Rd (Rk e0 dy Fl Ch ap wo keyed nk Rm zF Ow)
open Ru (rz fG Out dz eh eK fx dR eO drop1 mU nS tN nm vB mB kB rB gC u64 pR num Oq yL nY me)
theorem yQ{x:Int}(h:i64 x):pR (u64 x)=x:=by
 have b : -9223372036854775808<=x/\x<=9223372036854775807:=h;unfold pR u64;split <;> omega
theorem p8:(256:Nat) ^ 8=18446744073709551616:=by decide
theorem p4:(256:Nat) ^ 4=4294967296:=by decide
theorem yE(a b:WU){x y k:Nat}(h:a.size=x)(e:b.size=k)(j:y=x+k):(a++b).extract x y=b:=Ru.xL a b h (by omega)
theorem O9(c:Cfg):∀(n i:Nat),i<n->(vB c n).extract (9*i) (9*i+8)=nG (u64 (c.val.getD i 0)) 8
 |0,i,h=>by omega
 |n+1,i,h=>by
  rw[vB];by_cases hi:i<n
  .rw[Ru.eH _ _ (by rw[Us,Ru.fA,dM];omega),Ru.eH _ _ (by rw[Ru.fA];omega)];exact O9 c n i hi
  .obtain rfl:i=n:=by omega
   rw[Ru.eH _ _ (by rw[Us,Ru.fA,dM];omega),yE _ _ (Ru.fA c i) (dM _ _) rfl]
theorem OZ(c:Cfg):∀(n i:Nat),i<n->bt (vB c n) (9*i+8)=if c.fC.getD i W9=W8 then 1 else 0
 |0,i,h=>by omega
 |n+1,i,h=>by
  rw[vB];by_cases hi:i<n
  .rw[kM _ _ _ (by rw[Us,Ru.fA,dM];omega),kM _ _ _ (by rw[Ru.fA];omega)];exact OZ c n i hi
  .obtain rfl:i=n:=by omega
   rw[nF _ _ 0 (9*i+8) (by rw[Us,Ru.fA,dM]) (by rw[Ru.rY];omega)];cases c.fC.getD i W9 <;> decide
theorem OM(c:Cfg):∀(n i:Nat),i<n->(mB c n).extract (12*i) (12*i+4)=nG (u64 (c.iI.getD i 0)) 4
 |0,i,h=>by omega
 |n+1,i,h=>by
  rw[mB];by_cases hi:i<n
  .rw[Ru.eH _ _ (by rw[Us,Ru.ga,dM];omega),Ru.eH _ _ (by rw[Ru.ga];omega)];exact OM c n i hi
  .obtain rfl:i=n:=by omega
   rw[Ru.eH _ _ (by rw[Us,Ru.ga,dM];omega),yE _ _ (Ru.ga c i) (dM _ _) rfl]
theorem Ov(c:Cfg):∀(n i:Nat),i<n->(mB c n).extract (12*i+4) (12*i+4+8)=nG (u64 (c.jf.getD i 0)) 8
 |0,i,h=>by omega
 |n+1,i,h=>by
  rw[mB];by_cases hi:i<n
  .rw[Ru.eH _ _ (by rw[Us,Ru.ga,dM];omega),Ru.eH _ _ (by rw[Ru.ga];omega)];exact Ov c n i hi
  .obtain rfl:i=n:=by omega
   rw[yE _ _ (by rw[Us,Ru.ga,dM]) (dM _ _) rfl]
theorem pA{α : Type}{l:List α}{d : α}{n:Nat}{f:Nat->α}(b:Xg l=n)(h:∀i,i<n->f i=l.getD i d):(List.range n).map f=l:=by
 refine List.ext_getElem (by simp[b]) λi j e=>?_
 rw[List.getElem_map,List.getElem_range,h i (by omega),Uo,Uk e];rfl
theorem back{c:Cfg}{n:Nat}(h:eY n c)(s da a b:Nat):gC (vB c n) (mB c n) (kB s c.all da a b) n=c:=by
 have e:((List.range n).map λi=>pR (num (vB c n) (9*i) 8))=c.val:=pA (d:=0) h.lv λi hi=>by
  rw[Ru.qR (O9 _ n i hi) (by rw[Ru.fA];omega),p8,Nat.mod_eq_of_lt (Ru.qv _)];exact yQ (h.v _ (kY (by rw[h.lv];exact hi)))
 have j:((List.range n).map λi=>bt (vB c n) (9*i+8) == 1)=c.fC:=pA (d:=false) h.lr λi hi=>by
  rw[OZ _ n i hi];cases c.fC.getD i W9 <;> rfl
 have l:((List.range n).map λi=>((num (mB c n) (12*i) 4:Nat):Int))=c.iI:=pA (d:=0) h.lg λi hi=>by
  rw[Ru.qR (OM _ n i hi) (by rw[Ru.ga];omega),p4];have u:=h.g _ (kY (d:=0) (show i<Xg c.iI by rw[h.lg];exact hi));unfold u64;omega
 have m:((List.range n).map λi=>pR (num (mB c n) (12*i+4) 8))=c.jf:=pA (d:=0) h.li λi hi=>by
  rw[Ru.qR (Ov _ n i hi) (by rw[Ru.ga];omega),p8,Nat.mod_eq_of_lt (Ru.qv _)];exact yQ (h.i _ (kY (by rw[h.li];exact hi)))
 have r:pR (num (kB s c.all da a b) 4 8)=c.all:=by rw[Ru.SD];exact yQ h.a
 unfold gC;rw[e,j,l,m,r]
end Hl
namespace Hl
open Go Sp
open Rd (Rk e0 dy Fl Ch ap wo keyed nk)
open Ru (rz fG Out dz eh eK fx dR eO drop1 mU nS tN nm vB mB kB Oq yL nY me oj fQ qF tZ CM fp)
open Classical
variable {sf:Sd.Tb}{fs:List Fl}{md:Bool}{R:Rk}{cs:List Ch}
theorem LG(h:Is md R fs sf cs)(hd:R.down=W9){a:WU}{i:Nat}(hi:dy (nw sf cs) a=S i): R.rd a=(fs.getD i d0).bytes:=by
 unfold Rk.rd Rk.fl;rw[TZ (by rw[hd];decide),h.nw,hi,h.f]
theorem QY(h:Is md R fs sf cs)(hd:R.down=W9){a:WU}(hi:dy (nw sf cs) a=U): R.rd a=e0:=by
 unfold Rk.rd;rw[TZ (by rw[hd];decide),h.nw,hi]
theorem As{b:Jb}(y:b.Ok){N:Nat}(h:Is md R fs sf cs)(hd:R.down=W9)(B:b.G N fs (dy (nw sf cs))){s:Nat}(C:dy (nw sf cs) (nm 99 s)≠U): CM R.rd (Xg b.vs) b.da s/\b.at' s=S (fp R.rd (Xg b.vs) s):=by
 obtain⟨_,_,c,z,⟨⟨i,F,_,I⟩,⟨j,L,_,M⟩,⟨k,P,_,Q⟩⟩⟩:=B s C;obtain⟨T,u⟩:=yl y z;have A:=y.cap;have e:R.rd (nm 118 s)=dq (vB c (Xg b.vs)):=by rw[LG h hd F,I];rfl
 have l:R.rd (nm 109 s)=dq (mB c (Xg b.vs)):=by rw[LG h hd L,M];rfl
 have m:R.rd (nm 99 s)=dq (kB s c.all b.da (gX (dq (vB c (Xg b.vs)))) (gX (dq (mB c (Xg b.vs))))):=by rw[LG h hd P,Q];rfl
 have r:fp R.rd (Xg b.vs) s=c:=by unfold fp;rw[e,l,m,gR,gR,gR];exact back u _ _ _ _
 refine⟨⟨by rw[e];exact ur _,by rw[l];exact ur _,by rw[m];exact ur _,by rw[e,gR,Ru.fA],by rw[l,gR,Ru.ga],by rw[m,gR,Ru.l5],by omega,?_,?_,?_⟩,by rw[r];exact z⟩
 .rw[r,e,gR]
 .rw[r,l,gR]
 .rw[r,m,gR]
theorem Mg{n da s:Nat}(h:Is md R fs sf cs)(hd:R.down=W9)(b:CM R.rd n da s): dy (nw sf cs) (nm 99 s)≠U:=λe=>by
 have:=b.TM;rw[QY h hd e] at this;revert this;decide
theorem L9(h:Is md R fs sf cs)(hd:R.down=W9)(m:Wf fs sf cs): R.fD.Nodup:=by
 have l:R.fD=(Rd.tab (nw sf cs)).map (·.1):=by unfold Rk.fD;rw[TZ (by rw[hd];decide),h.nw]
 have j:R.fD.Pairwise λa b=>Sd.lt a b=W8:=by rw[l];exact List.pairwise_map.2 (Rd.eG _)
 exact j.imp λe=>Sd.qW e
theorem found{b:Jb}(r:b.Ok){z:Bool}{N y u:Nat}(h:Is md R fs sf cs)(hd:R.down=W9)(l:Mid b z N y u fs sf cs)(s:Nat): s∈oj (fQ R.rd (Xg b.vs) b.da R.fD)↔dy (nw sf cs) (nm 99 s)≠U:=by
 have e:=l.wf.here.1;have A:R.fD=(Rd.tab (nw sf cs)).map (·.1):=by unfold Rk.fD;rw[TZ (by rw[hd];decide),h.nw]
 have B:R.fD.Nodup:=L9 h hd l.wf;rw[Ru.pK];rw[Ru.tj (Ru.tQ B)];unfold qF;rw[List.mem_filterMap];constructor
 .rintro⟨a,F,j⟩;exact Mg h hd (Ru.ng j).2
 .intro j;refine⟨nm 99 s,?_,?_⟩
  .rw[A,Ve];cases m:dy (nw sf cs) (nm 99 s) with
   |none=>exact absurd m j
   |some i=>exact⟨(nm 99 s,i),(Rd.gq e).2 ((Rd.nj e).1 m),rfl⟩
  .have C:=(As r h hd l.g.now.1 j).1;unfold tZ;rw[Ru.Lm]
   show (if (nm 99 s).extract 0 2=⟨#[99,46]⟩/\_ then S s else U)=_
   rw[T0 ⟨Ru.rj _ _,C⟩]
theorem KM{b:Jb}(F:b.Ok){G:Bool}{y:Nat}(h:lh b md G y ((b.keep+1)*b.B) R)(hd:R.down=W9)(X:G=W8->R.dW=[]){K:List Nat}(hK:K=oj (fQ R.rd (Xg b.vs) b.da R.fD)){M:Cfg}(N:M=if K=[] then fX b.P b.vs else fp R.rd (Xg b.vs) (im K)){o:Ru.Out}(I:o=if (eh R (dR R.fD (K.drop (Xg K-b.keep)))).1≠0 then ⟨fG,0,(eh R (dR R.fD (K.drop (Xg K-b.keep)))).1,(eh R (dR R.fD (K.drop (Xg K-b.keep)))).2⟩ else rz b.P b.Es b.cap b.every b.keep b.da (Xg b.vs) (im K) ((b.cap-im K)+1) (im K) M (K.drop (Xg K-b.keep)) 0 (eh R (dR R.fD (K.drop (Xg K-b.keep)))).2):y<=im K/\im K%b.every=0/\(o.e=0\/o.e=er md)/\lh b md G ((im K/b.every+o.saved)*b.every) ((b.keep+1)*b.B) o.R/\(o.e=0->o.res=GL b.P b.vs b.Es b.cap)/\(o.e≠0->o.res=fG):=by
 obtain⟨fs,sf,cs,hi,L⟩:=h;have Q:∀s,s∈K↔dy (nw sf cs) (nm 99 s)≠U:=λs=>by rw[hK];exact found F hi hd L s
 have el:R.fD=(Rd.tab (nw sf cs)).map (·.1):=by unfold Rk.fD;rw[TZ (by rw[hd];decide),hi.nw]
 have nd:R.fD.Nodup:=L9 hi hd L.wf;have hs:me K:=by rw[hK];exact Ru.xV (Ru.l8 nd)
 have hG:=L.g.now.1;have x:y<=im K:=by
  by_cases j:y=0
  .omega
  .exact rM hs y ((Q y).2 (L.g.now.2.1 j))
 have u:im K%b.every=0:=by
  by_cases j:im K=0
  .rw[j];exact Nat.zero_mod _
  .exact(hG _ ((Q _).1 (ve j))).2.1
 have z:b.at' (im K)=S M:=by
  by_cases j:K=[]
  .rw[N,T0 j,j];rfl
  .rw[N,TZ j];have T:im K∈K:=by
    rcases Wk K with e|⟨K',t,e⟩
    .exact absurd e j
    .rw[Wl] at e;rw[e,kj];simp
   exact(As F hi hd hG ((Q _).1 T)).2
 obtain⟨m,l⟩:∃m,K.drop (Xg K-b.keep)=m:=⟨_,rfl⟩
 rw[l] at I;have q:=F.keep.1;have sub:∀s∈m,s∈K:=λs r=>by rw[<-l] at r;exact VC r
 have A:im m=im K:=by
  rcases Wk K with e|⟨K',t,e⟩
  .rw[<-l,e,List.drop_nil]
  .rw[Wl] at e;rw[<-l,e,Wx (by rw[UG,Wt];omega),kj,kj]
 have i:Xg m<=b.keep:=by rw[<-l,Vb];omega
 have f:me m:=by rw[<-l];exact hs.sublist (List.drop_sublist _ _)
 have p:Mid b G (Xg fs) (im K) ((b.keep+1)*b.B) fs sf cs:=⟨L.wf,λk hk V=>by
  have e:nw sf (cs.take k)=nw sf cs:=by
   rcases V with e|e
   .have:=X e;rw[hi.c] at this;rw[this,List.take_nil]
   .rw[e,Vd]
  rw[e];obtain⟨C,W,h3⟩:=L.g.now;exact⟨C,λj=>(Q _).1 (ve j),h3⟩⟩
 have n:=G1 (K:=m) hi p hd (λs r=>(Q s).1 (sub s r)) (λj=>by rw[<-A] at j ⊢;exact ve j);refine⟨x,u,?_⟩;have hq:(im K/b.every+0)*b.every=im K:=by have:=Nat.div_add_mod (im K) b.every;rw[u,U9,V4] at this;rw[U9];exact this
 rcases n with ⟨C,W⟩|⟨C,W⟩
 .rw[TZ (by rw[C];simp)] at I;have hL:Lp b md G (eh R (dR R.fD m)).2 m:=by
   obtain⟨aa,ab,x1,x2,x3,x4,x5⟩:=W;exact⟨fs,aa,ab,x1,by rw[A];exact x2,x3,x4,x5⟩
  have V:=Ke F u _ _ M m 0 _ z hL f i (by rw[A,hq]) (Xb ⟨O,O⟩) (by rw[Nat.add_mul,hq];omega) o I;have hr:=DB F (dj:=im K) ((b.cap-im K)+1) (im K) M m 0 (eh R (dR R.fD m)).2 z;rw[<-I] at hr;exact⟨V.1,V.2,λe=>by rw[hr.1 e];exact(JD F z).symm,hr.2⟩
 .rw[T0 (by rw[C];exact xA md)] at I;subst I;exact⟨Xb C,by show lh b md G ((im K/b.every+0)*b.every) _ _;rw[hq];exact W,λe=>absurd (C.symm.trans e) (xA md),λ_=>O⟩
end Hl
namespace Hl
open Go Sp
open Rd (Rk e0 dy Fl Ch)
open Ru (pd jd oo oT th Ac DJ oJ fG)
open Classical
def jb(g p:WU)(every keep cap:Nat):Jb:=⟨Sp.ik p,pO g,jx g,cap,every,keep,oJ g p cap⟩
theorem E5{g p:WU}{every keep cap:Nat}(h:pd g p every keep cap=0)(b:Small g):(jb g p every keep cap).Ok:=by
 obtain⟨e,u,y,z⟩:=Ru.qQ h;obtain⟨j,l⟩:=Ru.jm e;obtain⟨m,r⟩:=qE j l b;exact⟨m,lN,r,by show cap<=200;omega,by show 1<=every;omega,by show 1<=keep;omega,by show keep<=5;omega⟩
def cX(g:WU)(keep:Nat):Nat:=(keep+1)*(21*(jx g).length+48)
theorem se{g p:WU}{every keep cap:Nat}(r:pd g p every keep cap=0)(b:Small g){j l:Bool}{y:Nat}{R:Rk}(h:lh (jb g p every keep cap) j l y (cX g keep) R)(hd:R.down=W9)(m:l=W8->R.dW=[]):y<=oo g p every keep cap R/\oo g p every keep cap R%every=0/\((jd g p every keep cap R).e=0\/(jd g p every keep cap R).e=er j)/\lh (jb g p every keep cap) j l ((oo g p every keep cap R/every+(jd g p every keep cap R).saved)*every) (cX g keep) (jd g p every keep cap R).R/\((jd g p every keep cap R).e=0->(jd g p every keep cap R).res=GL (Sp.ik p) (jx g) (pO g) cap)/\((jd g p every keep cap R).e≠0->(jd g p every keep cap R).res=fG):=by
 have u:R.nD=0:=by unfold Rk.nD;rw[TZ (by rw[hd];decide)]
 obtain⟨z,A⟩:=Ru.ze (g:=g) (p:=p) (every:=every) (keep:=keep) (cap:=cap) (Q:=R) r u rfl;rw[z,A];exact KM (E5 r b) h hd m O O O
end Hl
end Go.Proofs.YtgkkdpegcieakaaGreatDoor
