import Derived.Test.YtgkkdpegcieakaaGreatDoorCzL
import Derived.Test.YtgkkdpegcieakaaGreatDoorCz13
import Derived.Test.YtgkkdpegcieakaaGreatDoorCz27
set_option linter.unusedVariables false
set_option linter.unusedSimpArgs false
set_option maxRecDepth 100000
set_option maxHeartbeats 16000000
namespace Go.Proofs.YtgkkdpegcieakaaGreatDoor
open Go.Proofs.Tryz
open Value renaming int→Z
open IntKind renaming i64→Y
open Go renaming World→TJ,Value→TK,Calls→TL
namespace Hl
open Go Sp
open Rd (Rk e0 dp Fl Ch ap wo)
open Ru (rz fU Out dz eg eK fE dO eQ drop1 m7 nS tN nm vB mB kB)
structure Jb where
 P:Pg
 Es:List Ed
 vs:List Int
 cap:Nat
 every:Nat
 keep:Nat
 cX:Nat
def Jb.at'(J:Jb):Nat->Option Cfg
 |0=>some (fS J.P J.vs)
 |s+1=>match J.at' s with
  |none=>none
  |some c=>if quiet c s=true\/J.cap<=s then none else match lK J.P J.Es c s J.vs.length with
   |.error _=>none
   |.ok a=>some (fh J.P J.vs.length a)
structure Jb.Ok (J:Jb):Prop where
 cX:iN J.P J.Es J.vs.length
 num:∀x n,number x=some n->i64 n
 vs:∀x∈J.vs,i64 x
 cap:J.cap<=200
 every:1<=J.every
 keep:1<=J.keep/\J.keep<=5
variable {J:Jb}
theorem Em{s:Nat}{b:Cfg}(h:J.at' (s+1)=some b): ∃c a,J.at' s=some c/\quiet c s=false/\s<J.cap/\lK J.P J.Es c s J.vs.length=.ok a/\b=fh J.P J.vs.length a:=by
 rw[Jb.at'] at h;split at h
 .cases h
 .rename_i c l;split at h
  .cases h
  .rename_i j;split at h
   .cases h
   .rename_i a m;injection h with h;refine⟨c,a,l,?_,?_,m,h.symm⟩
    .cases hh:quiet c s with
     |false=>rfl
     |true=>exact absurd (Or.inl hh) j
    .exact Nat.lt_of_not_le λe=>j (Or.inr e)
theorem ue{s:Nat}{c:Cfg}{a:Acc}(h:J.at' s=some c)(b:¬quiet c s=true)(j:¬J.cap<=s)(ha:lK J.P J.Es c s J.vs.length=.ok a): J.at' (s+1)=some (fh J.P J.vs.length a):=by
 rw[Jb.at',h]
 show (if quiet c s=true\/J.cap<=s then none else _)=_
 rw[cd (λe=>e.elim b j),ha]
theorem xY(b:J.Ok): ∀{s:Nat} {c:Cfg},J.at' s=some c->s<=J.cap/\eT J.vs.length c
 |0,c,h=>by
  injection h with h;subst h;exact⟨cy _,rT _ _ b.vs⟩
 |s+1,c,h=>by
  obtain⟨r,a,e,u,j,l,rfl⟩:=Em h;have m:=xY b e;have:=b.cap;exact⟨j,r8 b.cX (sq b.cX b.num m.2 (by omega) _ TG a l)⟩
theorem JC(b:J.Ok): ∀{s:Nat} {c:Cfg},J.at' s=some c->Fw J.P J.vs J.Es J.cap=BH J.P J.Es J.cap (J.cap-s+1) s c
 |0,c,h=>by
  injection h with h;subst h
  rfl
 |s+1,c,h=>by
  obtain⟨r,a,e,j,u,l,rfl⟩:=Em h;have m:=xY b e;rw[JC b e,BH,cd (by rw[j];decide),cd (by omega),m.2.lv,l]
  show BH J.P J.Es J.cap (J.cap-s) (s+1) _=_
  rw[show J.cap-s=J.cap-(s+1)+1 by omega]
theorem Cs(u:J.Ok){de:Nat}: ∀(g s:Nat) (c:Cfg) (K:List Nat) (sv:Nat) (R:Rk),J.at' s=some c->
  ((rz J.P J.Es J.cap J.every J.keep J.cX J.vs.length de g s c K sv R).e=0->(rz J.P J.Es J.cap J.every J.keep J.cX J.vs.length de g s c K sv R).res=BH J.P J.Es J.cap g s c)/\((rz J.P J.Es J.cap J.every J.keep J.cX J.vs.length de g s c K sv R).e≠0->(rz J.P J.Es J.cap J.every J.keep J.cX J.vs.length de g s c K sv R).res=fU)
 |0,s,c,K,sv,R,h=>by rw[rz];exact⟨λ_=>rfl,λh=>absurd rfl h⟩
 |g+1,s,c,K,sv,R,h=>by
  have y:=(xY u h).2.lv;have l:∀(x:Nat) (e:Int) (Q:Rk) (r:Sp.nK),e≠0->((⟨fU,x,e,Q⟩:Ru.Out).e=0->(⟨fU,x,e,Q⟩:Ru.Out).res=r)/\((⟨fU,x,e,Q⟩:Ru.Out).e≠0->(⟨fU,x,e,Q⟩:Ru.Out).res=fU):=λx e Q r m=>⟨λA=>absurd A m,λ_=>rfl⟩
  rw[rz,BH];by_cases b:quiet c s=true
  .rw[cg b,cg b];exact⟨λ_=>rfl,λh=>absurd rfl h⟩
  rw[cd b,cd b];by_cases j:J.cap<=s
  .rw[cg j,cg j];exact⟨λ_=>rfl,λh=>absurd rfl h⟩
  rw[cd j,cd j,y];split
  .split
   .rename_i m;exact l _ _ _ _ m
   .split
    .rename_i m;exact l _ _ _ _ m
    .cases z:lK J.P J.Es c s J.vs.length with
     |error i=>exact⟨λ_=>rfl,λh=>absurd rfl h⟩
     |ok a=>exact Cs u g _ _ _ _ _ (ue h b j z)
  .cases z:lK J.P J.Es c s J.vs.length with
   |error i=>exact⟨λ_=>rfl,λh=>absurd rfl h⟩
   |ok a=>exact Cs u g _ _ _ _ _ (ue h b j z)
end Hl
namespace Hl
open Go Sp
open Rd (Rk e0 dp Fl Ch ap wo keyed nH)
open Ru (rz fU Out dz eg eK fE dO eQ drop1 m7 nS tN nm vB mB kB Oq)
abbrev d0:Fl:=⟨e0,0⟩
def O8(N:Nat)(fs:List Fl)(i:Nat)(B:TM):Prop:=i<N/\fs.getD i d0=⟨B,B.size⟩
def Jb.vF(J:Jb)(c:Cfg):TM:=dj (vB c J.vs.length)
def Jb.mF(J:Jb)(c:Cfg):TM:=dj (mB c J.vs.length)
def Jb.kF(J:Jb)(s:Nat)(c:Cfg):TM:=dj (kB s c.all J.cX (ie (J.vF c)) (ie (J.mF c)))
structure Jb.Sn (J:Jb) (N:Nat) (fs:List Fl) (f:TM->Option Nat) (s:Nat) (c:Cfg):Prop where
 v:∃i,f (nm 118 s)=some i/\O8 N fs i (J.vF c)
 m:∃i,f (nm 109 s)=some i/\O8 N fs i (J.mF c)
 k:∃i,f (nm 99 s)=some i/\O8 N fs i (J.kF s c)
def Jb.G(J:Jb)(N:Nat)(fs:List Fl)(f:TM->Option Nat):Prop := ∀s,f (nm 99 s)≠none->0<s/\s%J.every=0/\∃c,J.at' s=some c/\J.Sn N fs f s c
variable {fs' fs:List Fl}{N i N':Nat}
theorem O8.mono{B:TM}(h:O8 N fs i B)(b:N<=N')(e:∀j,j<N->fs'.getD j d0=fs.getD j d0): O8 N' fs' i B:=⟨dT h.1 b,(e i h.1).trans h.2⟩
variable {f' f:TM->Option Nat}{s:Nat}{J:Jb}
theorem Jb.Sn.mono{c:Cfg}(h:J.Sn N fs f s c)(l:N<=N')(m:∀j,j<N->fs'.getD j d0=fs.getD j d0)(h1:f' (nm 118 s)=f (nm 118 s))(h2:f' (nm 109 s)=f (nm 109 s))(r:f' (nm 99 s)=f (nm 99 s)): J.Sn N' fs' f' s c:=by
 obtain⟨⟨i,a,b⟩,⟨j,c,d⟩,⟨k,e,g⟩⟩:=h;exact⟨⟨i,h1.trans a,b.mono l m⟩,⟨j,h2.trans c,d.mono l m⟩,⟨k,r.trans e,g.mono l m⟩⟩
theorem Jb.G.mono(h:J.G N fs f)(l:N<=N')(m:∀j,j<N->fs'.getD j d0=fs.getD j d0): J.G N' fs' f:=λs r=>by
 obtain⟨a,b,c,d,e⟩:=h s r;exact⟨a,b,c,d,e.mono l m rfl rfl rfl⟩
variable {a:TM}
theorem Jb.G.off(h:J.G N fs f)(l:∀b,b≠a->f' b=f b)(r:∀s,a=nm 118 s->f' (nm 99 s)=none)(u:∀s,a=nm 109 s->f' (nm 99 s)=none)(A:∀s,a=nm 99 s->f' a=none): J.G N fs f':=λs j=>by
 have B:nm 99 s≠a:=λe=>j (by rw[e];exact A s e.symm)
 have m:=l _ B;obtain⟨x,y,c,z,e⟩:=h s (by rw[<-m];exact j);exact⟨x,y,c,z,e.mono TG (λ_ _=>rfl) (l _ λe=>j (r s e.symm)) (l _ λe=>j (u s e.symm)) m⟩
theorem jF{c d:UInt8}{t:Nat}(h:c≠d): nm c s≠nm d t:=λe=>h (Ru.sD e).1
theorem ni(c:UInt8)(s:Nat):nm c s≠tN:=λe=>by
 have h:=congrArg ByteArray.size e;rw[Ru.jU] at h;have:tN.size=1:=rfl;omega
theorem Jb.G.add{c:Cfg}(h:J.G N fs f)(j:∀b,b≠nm 99 s->b≠tN->f' b=f b)(l:0<s)(m:s%J.every=0)(A:J.at' s=some c)(r:J.Sn N fs f' s c): J.G N fs f':=λt B=>by
 by_cases e:t=s
 .subst e;exact⟨l,m,c,A,r⟩
 .have u:=j (nm 99 t) (λh=>e (Ru.sD h).2) (ni _ _);obtain⟨x,y,c,z,k⟩:=h t (by rw[<-u];exact B);exact⟨x,y,c,z,k.mono TG (λ_ _=>rfl) (j _ (jF (by decide)) (ni _ _)) (j _ (jF (by decide)) (ni _ _)) u⟩
def nw(sf:Sd.Tb)(cs:List Ch):Sd.Tb:=cs.foldl ap (wo sf e0)
theorem Ou(R:Rk):R.now=nw R.safe R.dS:=by unfold Rk.now Rk.dir nw;rw[wI]
theorem jQ(sf:Sd.Tb)(cs:List Ch)(c:Ch):nw sf (cs++[c])=ap (nw sf cs) c:=by unfold nw;rw[List.foldl_append];rfl
theorem rA(L:Sd.Tb)(c:Ch)(y:TM):dp (ap L c) y=if y=c.comes then (if c.comes=e0 then none else some c.file) else if y=c.goes then none else dp L y:=by
 unfold ap;split
 .rw[Rd.jC,Rd.jC]
 .rw[Rd.wV _ _ _ _ (by rw[Rd.jC,cg rfl]),Rd.jC,Rd.jC];by_cases e:y=c.comes
  .rw[cg e,cg e]
  .rw[cd e,cd e,cd e]
def Vw(md:Bool)(sf:Sd.Tb)(cs:List Ch)(p:Sd.Tb->Prop):Prop := ∀k,k<=cs.length->(md=true\/k=cs.length)->p (nw sf (cs.take k))
variable {p:Sd.Tb->Prop}{vb:Bool}{cs:List Ch}{sf:Sd.Tb}
theorem Vw.snoc{c:Ch}(h:Vw vb sf cs p)(j:p (ap (nw sf cs) c)): Vw vb sf (cs++[c]) p:=λk l b=>by
 rw[lN,Tx] at l b;by_cases e:k<=cs.length
 .rw[zs e];exact h k e (b.elim Or.inl λm=>by omega)
 .rw[zS (by rw[lN,Tx];omega),jQ];exact j
theorem Vw.now(h:Vw vb sf cs p): p (nw sf cs):=by
 have:=h cs.length TG (Or.inr rfl);rwa [wI] at this
theorem Vw.imp{q:Sd.Tb->Prop}(h:Vw vb sf cs p)(hi:∀L,p L->q L): Vw vb sf cs q:=λk b e=>hi _ (h k b e)
theorem Vw.nil(b:∀q∈sf,¬q.1=e0)(h:p sf): Vw vb sf [] p:=λk e j=>by
 rw[List.take_nil]
 show p (wo sf e0)
 rw[Rd.lQ b];exact h
def us(fs:List Fl)(L:Sd.Tb):Nat:=(L.map λp=>(fs.getD p.2 d0).bytes.size).sum
theorem tB(fs:List Fl)(a:TM):∀L:Sd.Tb,us fs (wo L a)<=us fs L
 |[]=>b7 _
 |p::L=>by
  have b:=tB fs a L;unfold us wo at b ⊢;rw[He];split
  .rw[wj,wj,RZ,RZ];omega
  .rw[wj,RZ];omega
theorem Jh(fs:List Fl)(L M:Sd.Tb):us fs (L++M)=us fs L+us fs M:=by unfold us;rw[Bg,List.sum_append_nat]
theorem MK(fs:List Fl)(L:Sd.Tb)(c:Ch):us fs (ap L c)<=us fs L+(if c.comes=e0 then 0 else (fs.getD c.file d0).bytes.size):=by
 have b:=tB fs c.comes (wo L c.goes);have e:=tB fs c.goes L;unfold ap;split
 .omega
 .rw[Jh];have:us fs [(c.comes,c.file)]=(fs.getD c.file d0).bytes.size:=by simp[us]
  omega
theorem IZ{L:Sd.Tb}(h:∀p∈L,fs'.getD p.2 d0=fs.getD p.2 d0): us fs' L=us fs L:=by
 unfold us
 congr 1
 exact Tm λp b=>by rw[h p b]
structure Wf (fs:List Fl) (sf:Sd.Tb) (cs:List Ch):Prop where
 key:keyed sf
 some:∀p∈sf,¬p.1=e0
 sf:∀p∈sf,p.2<fs.length
 cf:∀c∈cs,c.file<fs.length\/c.comes=e0
theorem Wf.keyed(h:Wf fs sf cs)(k:Nat): Rd.keyed (nw sf (cs.take k)):=Rd.qC _ _ (Rd.lq h.key _)
theorem Wf.nn(h:Wf fs sf cs)(k:Nat): ∀p∈nw sf (cs.take k),¬p.1=e0:=Rd.sk _ _ λp b=>(Rd.im.1 b).2
theorem Wf.ix(h:Wf fs sf cs)(k:Nat): ∀p∈nw sf (cs.take k),p.2<fs.length:=λp b=>by
 rcases Rd.vk _ _ p b with b|⟨c,m,j,e⟩
 .exact h.sf p (Rd.im.1 b).1
 .rcases h.cf c (Tk m) with l|l
  .rw[e];exact l
  .exact absurd l j
theorem Wf.now(h:Wf fs sf cs): Wf fs (nw sf cs) []:=by
 have e:nw sf (cs.take cs.length)=nw sf cs:=by rw[wI]
 exact⟨e ▸ h.keyed _,e ▸ h.nn _,e ▸ h.ix _,λc b=>by cases b⟩
theorem Wf.mono(h:Wf fs sf cs)(b:fs.length<=fs'.length): Wf fs' sf cs:=⟨h.key,h.some,λp j=>dT (h.sf p j) b,λc l=>(h.cf c l).imp (λe=>dT e b) id⟩
theorem Wf.snoc{c:Ch}(h:Wf fs sf cs)(b:c.file<fs.length\/c.comes=e0): Wf fs sf (cs++[c]):=⟨h.key,h.some,h.sf,λx j=>by
 rcases cJ.1 j with e|e
 .exact h.cf x e
 .rw[eh.1 e];exact b⟩
structure Is (md:Bool) (R:Rk) (fs:List Fl) (sf:Sd.Tb) (cs:List Ch):Prop where
 f:R.files=fs
 s:R.safe=sf
 c:R.dS=cs
 a:md=true->R.cT=1099511627776
 b:md=false->R.left = -1/\R.down=false
def er(md:Bool):Int:=if md=true then 9 else 12
theorem wW(md:Bool):er md≠0:=by cases md <;> decide
variable {R:Rk}{md:Bool}
theorem Is.dU(h:Is md R fs sf cs): Is md R.dU fs sf cs:=by
 unfold Rk.dU;split
 .exact h
 .rename_i hd;split
  .rename_i j;exact⟨h.f,h.s,h.c,h.a,λe=>by have:=(h.b e).1;omega⟩
  .split
   .exact⟨h.f,h.s,h.c,h.a,λe=>by have:=(h.b e).1;omega⟩
   .exact h
theorem Is.up(h:Is md R fs sf cs)(hu:R.up=false): er md=9:=by
 cases md with
 |true=>rfl
 |false =>
  obtain⟨e,j⟩:=h.b rfl;unfold Rk.up at hu;rw[e,j] at hu;revert hu;decide
theorem Is.nw(h:Is md R fs sf cs): R.now=nw sf cs:=by rw[Ou,h.s,h.c]
def zz(md:Bool)(r:Int × Rk)(fs fs':List Fl)(sf b:Sd.Tb)(cs e:List Ch):Prop:=(r.1=0/\Is md r.2 fs' b e)\/(r.1=er md/\Is md r.2 fs sf cs)
theorem FW(h:Is md R fs sf cs)(j:nH a=true): zz md (R.create a) fs (fs++[d0]) sf sf cs (cs++[⟨e0,a,fs.length⟩]):=by
 have e:=h.dU;unfold Rk.create;rw[cg j];split
 .rename_i hu;exact Or.inr ⟨(h.up hu).symm,e⟩
 .refine Or.inl ⟨rfl,⟨?_,e.s,?_,e.a,e.b⟩⟩
  .show R.dU.files++[d0]=_;rw[e.f]
  .show R.dU.dS++[⟨e0,a,R.dU.files.length⟩]=_;rw[e.c,e.f]
theorem D9{b:List Ch}{k:Rk->Nat->Int × Rk}(h:Is md R fs sf cs)(hi:dp (nw sf cs) a=some i)(e:∀Q,Is md Q fs sf cs->zz md (k Q i) fs fs' sf sf cs b): zz md (R.on a k) fs fs' sf sf cs b:=by
 unfold Rk.on;split
 .rename_i hu;exact Or.inr ⟨(h.up hu).symm,h.dU⟩
 .rw[h.nw,hi];exact e _ h.dU
theorem Gf{t:TM}(h:Is md R fs sf cs)(hi:dp (nw sf cs) a=some i)(hu:md=true->us fs (nw sf cs)+t.size<=1099511627776): zz md (R.append a t) fs (fs.set i ⟨(fs.getD i d0).bytes++t,(fs.getD i d0).safe⟩) sf sf cs cs:=by
 unfold Rk.append;refine D9 h hi λQ e=>?_
 have j:Q.use Q.now=us fs (Hl.nw sf cs):=by rw[e.nw];unfold Rk.use Rk.fl us;rw[e.f]
 split
 .rename_i l;rw[j] at l;refine Or.inr ⟨?_,e⟩;cases md with
  |false=>rfl
  |true =>
   have m:=e.a rfl;have r:=hu rfl;omega
 .refine Or.inl ⟨rfl,⟨?_,e.s,e.c,e.a,e.b⟩⟩
  show Q.files.set i ⟨(Q.fl i).bytes++t,(Q.fl i).safe⟩=_
  unfold Rk.fl;rw[e.f]
theorem Kq(h:Is md R fs sf cs)(hi:dp (nw sf cs) a=some i): zz md (R.sync a) fs (fs.set i ⟨(fs.getD i d0).bytes,(fs.getD i d0).bytes.size⟩) sf sf cs cs:=by
 unfold Rk.sync;refine D9 h hi λQ e=>Or.inl ⟨rfl,⟨?_,e.s,e.c,e.a,e.b⟩⟩
 show Q.files.set i ⟨(Q.fl i).bytes,(Q.fl i).bytes.size⟩=_
 unfold Rk.fl;rw[e.f]
theorem ER(h:Is md R fs sf cs)(hi:dp (nw sf cs) a=some i): zz md (R.remove a) fs fs sf sf cs (cs++[⟨a,e0,0⟩]):=by
 unfold Rk.remove;refine D9 h hi λQ e=>Or.inl ⟨rfl,⟨e.f,e.s,?_,e.a,e.b⟩⟩
 show Q.dS++[⟨a,e0,0⟩]=_;rw[e.c]
theorem FC{b:TM}(h:Is md R fs sf cs)(hi:dp (nw sf cs) a=some i)(hb:nH b=true)(j:¬a=b): zz md (R.rename a b) fs fs sf sf cs (cs++[⟨a,b,i⟩]):=by
 unfold Rk.rename;rw[cd (by rw[hb];simp)];refine D9 h hi λQ e=>?_
 show zz md (0,if a=b then Q else { Q with dS:=Q.dS++[⟨a,b,i⟩] }) _ _ _ _ _ _
 rw[cd j];refine Or.inl ⟨rfl,⟨e.f,e.s,?_,e.a,e.b⟩⟩
 show Q.dS++[⟨a,b,i⟩]=_;rw[e.c]
theorem qz(h:Is md R fs sf cs): zz md R.eY fs fs sf (nw sf cs) cs []:=by
 have e:=h.dU;unfold Rk.eY;split
 .rename_i hu;exact Or.inr ⟨(h.up hu).symm,e⟩
 .refine Or.inl ⟨rfl,⟨e.f,?_,rfl,e.a,e.b⟩⟩
  show R.now=_;exact h.nw
end Hl
namespace Hl
open Go Sp
open Rd (Rk e0 dp Fl Ch ap wo keyed nH)
open Ru (rz fU Out dz eg eK fE dO eQ drop1 m7 nS tN nm vB mB kB Oq)
theorem Ca{c:UInt8}(j:Rd.yV c.toNat=true){s:Nat}(B:s<=200):nH (nm c s)=true:=by
 have C:=Ru.Ha 2 s (by omega);have e:(nm c s).data.toList=c::46::Lib.decDigits s:=by
  unfold Ru.nm;rw[G3];simp[Ru.dc]
 have m:(nm c s).size=2+(Lib.decDigits s).length:=by rw[Ru.jU,Ru.qM]
 unfold nH;rw[e,m,List.all_cons,List.all_cons,j];have b:Rd.yV ((46:UInt8).toNat)=true:=by decide
 rw[b,kH (by omega:1<=2+(Lib.decDigits s).length),kH (by omega:2+(Lib.decDigits s).length<=12)];simp only[Bool.true_and];rw[List.all_eq_true];intro x r;obtain⟨z,A⟩:=Ru.I0 s x r;unfold Rd.yV;rw[kH z,kH A];simp
theorem zA(c:UInt8)(s:Nat):¬nm c s=e0:=λe=>by
 have h:=congrArg ByteArray.size e;rw[Ru.jU] at h;have:e0.size=0:=rfl;omega
theorem Md:¬tN=e0:=λe=>by
 have h:=congrArg ByteArray.size e;revert h;decide
def Rs(md:Bool)(l:List Oq)(R:Rk)(Fin Bad:Rk->Prop):Prop:=((eg R l).1=0/\Fin (eg R l).2)\/((eg R l).1=er md/\Bad (eg R l).2)
variable {Fin Bad:Rk->Prop}{md:Bool}{R:Rk}
theorem Rs.nil(h:Fin R): Rs md [] R Fin Bad:=Or.inl ⟨rfl,h⟩
variable {l:List Oq}
theorem Rs.cons{o:Oq}{Mid:Rk->Prop}(h:((dz R o).1=0/\Mid (dz R o).2)\/((dz R o).1=er md/\Bad (dz R o).2))(k:∀j,Mid j->Rs md l j Fin Bad): Rs md (o::l) R Fin Bad:=by
 unfold Rs;rw[eg];rcases h with ⟨b,e⟩|⟨b,e⟩
 .rw[cg b];exact k _ e
 .rw[cd (by rw[b];exact wW md)];exact Or.inr ⟨b,e⟩
theorem Rs.app{m:List Oq}{Mid:Rk->Prop}(h:Rs md l R Mid Bad)(k:∀j,Mid j->Rs md m j Fin Bad): Rs md (l++m) R Fin Bad:=by
 unfold Rs;rw[Ru.iE];rcases h with ⟨b,e⟩|⟨b,e⟩
 .rw[cg b];exact k _ e
 .rw[cd (by rw[b];exact wW md)];exact Or.inr ⟨b,e⟩
theorem Rs.imp{b e:Rk->Prop}(h:Rs md l R Fin Bad)(h1:∀j,Fin j->b j)(h2:∀j,Bad j->e j): Rs md l R b e:=Or.imp (λx=>⟨x.1,h1 _ x.2⟩) (λx=>⟨x.1,h2 _ x.2⟩) h
variable {fs:List Fl}{sf:Sd.Tb}{cs:List Ch}
theorem Rs.op{o:Oq}{b:List Fl}{e:Sd.Tb}{j:List Ch}(h:zz md (dz R o) fs b sf e cs j)(h2:∀m,Is md m fs sf cs->Bad m)(k:∀m,Is md m b e j->Rs md l m Fin Bad): Rs md (o::l) R Fin Bad:=Rs.cons (Mid:=λm=>Is md m b e j) (h.imp id λx=>⟨x.1,h2 _ x.2⟩) k
structure Mid (J:Jb) (vb:Bool) (N y u:Nat) (fs:List Fl) (sf:Sd.Tb) (cs:List Ch):Prop where
 wf:Wf fs sf cs
 g:Vw vb sf cs λL=>J.G N fs (dp L)/\(y≠0->dp L (nm 99 y)≠none)/\us fs L<=u
theorem Wf.here(h:Wf fs sf cs): Rd.keyed (nw sf cs)/\(∀p∈nw sf cs,¬p.1=e0)/\∀p∈nw sf cs,p.2<fs.length:=by
 have b:=h.keyed cs.length;have e:=h.nn cs.length;have j:=h.ix cs.length;rw[wI] at b e j;exact⟨b,e,j⟩
theorem vz(h:Wf fs sf cs): dp (nw sf cs) e0=none:=Rd.kA.2 h.here.2.1
variable {α:Type}
theorem my{l m:List α}{i:Nat}{d : α}(h:i<l.length): (l++m).getD i d=l.getD i d:=by
 rw[cL,cL,qa h]
theorem ky(l:List α)(x d : α): (l++[x]).getD l.length d=x:=by
 rw[cL,cF TG];simp
theorem ug{X:List Fl}{L:Sd.Tb}(h:∀p∈L,p.2<fs.length): us (fs++X) L=us fs L:=IZ λp b=>my (h p b)
variable {y u N:Nat}{J:Jb}{vb:Bool}
theorem Mid.mono{e j:Nat}(h:Mid J vb N y u fs sf cs)(m:N<=e)(hu:u<=j): Mid J vb e y j fs sf cs:=⟨h.wf,h.g.imp λL b=>⟨b.1.mono m λ_ _=>rfl,b.2.1,cx b.2.2 hu⟩⟩
theorem Mid.create{a:TM}(h:Mid J vb N y u fs sf cs)(F:N<=fs.length)(ha:¬a=e0)(r:∀s,a≠nm 99 s)(G:∀s,a=nm 118 s->dp (nw sf cs) (nm 99 s)=none)(H:∀s,a=nm 109 s->dp (nw sf cs) (nm 99 s)=none)(x:Fl)(hu:us fs (nw sf cs)+x.bytes.size<=u): Mid J vb N y u (fs++[x]) sf (cs++[⟨e0,a,fs.length⟩]):=by
 have D:∀j,j<N->(fs++[x]).getD j d0=fs.getD j d0:=λj I=>my (dT I F)
 have z:∀b,dp (ap (nw sf cs) ⟨e0,a,fs.length⟩) b=if b=a then some fs.length else dp (nw sf cs) b:=λb=>by
  rw[rA]
  show (if b=a then if a=e0 then none else some fs.length else if b=e0 then none else _)=_
  by_cases e:b=a
  .rw[cg e,cg e,cd ha]
  .rw[cd e,cd e];by_cases m:b=e0
   .rw[cg m,m,vz h.wf]
   .rw[cd m]
 refine⟨(h.wf.mono (by simp)).snoc (Or.inl (by simp)),Vw.snoc (λk K A=>?_) ?_⟩
 .obtain⟨B,C,E⟩:=h.g k K A;exact⟨B.mono TG D,C,by rw[ug (h.wf.ix k)];exact E⟩
 .obtain⟨B,C,E⟩:=h.g.now;refine⟨(B.mono TG D).off (a:=a) (λb A=>by rw[z,cd A]) (λs e=>?_) (λs e=>?_) (λs e=>absurd e (r s)),λL=>?_,?_⟩
  .rw[z,cd (λm=>r s m.symm)];exact G s e
  .rw[z,cd (λm=>r s m.symm)];exact H s e
  .rw[z,cd (λm=>r y m.symm)];exact C L
  .refine cx (MK _ _ _) ?_
   show us (fs++[x]) (nw sf cs)+(if a=e0 then 0 else ((fs++[x]).getD fs.length d0).bytes.size)<=u
   rw[ug h.wf.here.2.2,cd ha,ky];exact hu
def jA(J:Jb)(md vb:Bool)(y u:Nat)(R:Rk):Prop := ∃fs sf cs,Is md R fs sf cs/\Mid J vb fs.length y u fs sf cs
theorem BG(l:List α)(x z : α): (l++[x]).set l.length z=l++[z]:=by
 rw[TA _ _ TG];simp
theorem OP(t:TM):e0++t=t:=Bk (by rw[G3];simp[e0])
theorem sd{a p:TM}(hi:Is md R fs sf cs)(h:Mid J vb N y u fs sf cs)(e:N<=fs.length)(C:nH a=true)(r:∀s,a≠nm 99 s)(z:∀s,a=nm 118 s->dp (nw sf cs) (nm 99 s)=none)(A:∀s,a=nm 109 s->dp (nw sf cs) (nm 99 s)=none)(hu:us fs (nw sf cs)+(dj p).size<=u)(H:u<=549755813888):Rs md (eQ a p) R (λj=>Is md j (fs++[⟨dj p,(dj p).size⟩]) sf (cs++[⟨e0,a,fs.length⟩])/\Mid J vb N y u (fs++[⟨dj p,(dj p).size⟩]) sf (cs++[⟨e0,a,fs.length⟩])) (jA J md vb y u):=by
 have m:=Rd.oD C;have T:d0.bytes.size=0:=rfl;have D:=h.create e m r z A d0 (by omega);have I:=h.create e m r z A ⟨dj p,0⟩ hu;have K:=h.create e m r z A ⟨dj p,(dj p).size⟩ hu;have E:dp (nw sf (cs++[⟨e0,a,fs.length⟩])) a=some fs.length:=by
  rw[jQ,rA]
  show (if a=a then if a=e0 then none else some fs.length else _)=_
  rw[cg rfl,cd m]
 have B:us (fs++[d0]) (nw sf (cs++[⟨e0,a,fs.length⟩]))<=u:=D.g.now.2.2;have b:∀x:Fl,N<=(fs++[x]).length:=λx=>by simp;omega
 have L:zz md (dz R ⟨1,a,e0⟩) _ _ _ _ _ _:=FW hi C;unfold eQ;refine Rs.op L (λj k=>⟨_,_,_,k,h.mono e TG⟩) λM O=>?_
 have F:zz md (dz M ⟨2,a,dj p⟩) _ _ _ _ _ _:=Gf (t:=dj p) O E (λ_=>cx (Nat.add_le_add B (cx (Nat.le_add_left _ _) hu)) (by omega));rw[ky,BG,show (d0.bytes++dj p)=dj p from OP _] at F;refine Rs.op F (λj k=>⟨_,_,_,k,D.mono (b _) TG⟩) λP Q=>?_
 have G:zz md (dz P ⟨3,a,e0⟩) _ _ _ _ _ _:=Kq Q E;rw[ky,BG] at G;exact Rs.op G (λj k=>⟨_,_,_,k,I.mono (b _) TG⟩) λU S=>Rs.nil ⟨S,K⟩
end Hl
namespace Hl
open Go Sp
open Rd (Rk e0 dp Fl Ch ap wo keyed nH)
open Ru (rz fU Out dz eg eK fE dO eQ drop1 m7 nS tN nm vB mB kB Oq)
def Jb.B(J:Jb):Nat:=21*J.vs.length+48
theorem Er(J:Jb)(c:Cfg):(J.vF c).size=9*J.vs.length+8:=by unfold Jb.vF;rw[ep,Ru.fw]
theorem DM(J:Jb)(c:Cfg):(J.mF c).size=12*J.vs.length+8:=by unfold Jb.mF;rw[ep,Ru.ga]
theorem Ea(J:Jb)(s:Nat)(c:Cfg):(J.kF s c).size=32:=by unfold Jb.kF;rw[ep,Ru.l5]
variable {cs:List Ch}{sf:Sd.Tb}
theorem r5{a:TM}{i:Nat}(ha:¬a=e0)(l:dp (nw sf cs) e0=none)(b:TM): dp (nw sf (cs++[⟨e0,a,i⟩])) b=if b=a then some i else dp (nw sf cs) b:=by
 rw[jQ,rA]
 show (if b=a then if a=e0 then none else some i else if b=e0 then none else _)=_
 by_cases e:b=a
 .rw[cg e,cg e,cd ha]
 .rw[cd e,cd e];by_cases j:b=e0
  .rw[cg j,j,l]
  .rw[cd j]
theorem vI{b:List Fl}{a:TM}{x:Fl}(h:Wf b sf cs): us (b++[x]) (nw sf (cs++[⟨e0,a,b.length⟩]))<=us b (nw sf cs)+x.bytes.size:=by
 rw[jQ];refine cx (MK _ _ _) ?_
 show us (b++[x]) (nw sf cs)+(if a=e0 then 0 else ((b++[x]).getD b.length d0).bytes.size)<=_
 rw[ug h.here.2.2,ky];split <;> omega
theorem MW(L M:Sd.Tb)(a:TM):wo (L++M) a=wo L a++wo M a:=Dr ..
theorem NX(e:List Fl)(L:Sd.Tb){t b:TM}(i:Nat)(ht:¬t=e0)(hb:¬b=e0):us e (ap (ap L ⟨e0,t,i⟩) ⟨t,b,i⟩)<=us e L+(e.getD i d0).bytes.size:=by
 have j:ap L ⟨e0,t,i⟩=wo (wo L e0) t++[(t,i)]:=by unfold ap;rw[cd ht]
 have l:∀M:Sd.Tb,ap M ⟨t,b,i⟩=wo (wo M t) b++[(b,i)]:=λM=>by unfold ap;rw[cd hb]
 have m:wo [(t,i)] t=[]:=by simp[wo]
 have r:us e [(b,i)]=(e.getD i d0).bytes.size:=by simp[us]
 rw[j,l,Jh,MW,m,B2,r];have u:=tB e b (wo (wo (wo L e0) t) t);have y:=tB e t (wo (wo L e0) t);have z:=tB e t (wo L e0);have A:=tB e e0 L;omega
theorem JP{J:Jb}{A E:Bool}{y u:Nat}{j:List Fl}{R:Rk}{s:Nat}{c:Cfg}(hi:Is A R j sf cs)(h:Mid J E j.length y u j sf cs)(M:dp (nw sf cs) (nm 99 s)=none)(q:0<s)(f:s%J.every=0)(o:s<=200)(hc:J.at' s=some c)(hu:us j (nw sf cs)+J.B<=u)(H:u<=549755813888):Rs A (eK c J.vs.length s J.cX) R (λI=>∃D C,Is A I D C []/\Mid J E D.length s u D C []/\us D C<=us j (nw sf cs)+J.B/\(∀a,dp C a≠none->dp (nw sf cs) a≠none\/a=nm 99 s\/a=nm 109 s\/a=nm 118 s)/\∀t,dp (nw sf cs) (nm 99 t)≠none->dp C (nm 99 t)≠none) (jA J A E y u):=by
 have zv:=Er J c;have zm:=DM J c;have zk:=Ea J s c;have hB:J.B=21*J.vs.length+48:=rfl;have N:∀{x:UInt8} {t:Nat},nm x s=nm x t->s=t:=λe=>(Ru.sD e).2
 have w1:=sd (p:=vB c J.vs.length) hi h TG (Ca (c:=118) (by decide) o) (λt=>jF (by decide)) (λt e=>N e ▸ M) (λt e=>absurd e (jF (by decide))) (show us j (nw sf cs)+(J.vF c).size<=u by omega) H;refine Rs.app (Rs.app (Rs.app w1 λR1 k1=>?_:Rs A _ R (λI=>Is A I (j++[⟨J.vF c,(J.vF c).size⟩]++[⟨J.mF c,(J.mF c).size⟩]) sf (cs++[⟨e0,nm 118 s,j.length⟩]++[⟨e0,nm 109 s,(j++[⟨J.vF c,(J.vF c).size⟩]:List Fl).length⟩])/\Mid J E j.length y u (j++[⟨J.vF c,(J.vF c).size⟩]++[⟨J.mF c,(J.mF c).size⟩]) sf (cs++[⟨e0,nm 118 s,j.length⟩]++[⟨e0,nm 109 s,(j++[⟨J.vF c,(J.vF c).size⟩]:List Fl).length⟩])) (jA J A E y u)) λR2 k2=>?_:Rs A _ R (λI=>Is A I (j++[⟨J.vF c,(J.vF c).size⟩]++[⟨J.mF c,(J.mF c).size⟩]++[⟨J.kF s c,(J.kF s c).size⟩]) sf (cs++[⟨e0,nm 118 s,j.length⟩]++[⟨e0,nm 109 s,(j++[⟨J.vF c,(J.vF c).size⟩]:List Fl).length⟩]++[⟨e0,tN,(j++[⟨J.vF c,(J.vF c).size⟩]++[⟨J.mF c,(J.mF c).size⟩]:List Fl).length⟩])/\Mid J E j.length y u (j++[⟨J.vF c,(J.vF c).size⟩]++[⟨J.mF c,(J.mF c).size⟩]++[⟨J.kF s c,(J.kF s c).size⟩]) sf (cs++[⟨e0,nm 118 s,j.length⟩]++[⟨e0,nm 109 s,(j++[⟨J.vF c,(J.vF c).size⟩]:List Fl).length⟩]++[⟨e0,tN,(j++[⟨J.vF c,(J.vF c).size⟩]++[⟨J.mF c,(J.mF c).size⟩]:List Fl).length⟩])) (jA J A E y u)) λR3 k3=>?_
 .obtain⟨i1,m1⟩:=k1;have O:=λb=>r5 (i:=j.length) (zA 118 s) (vz h.wf) b
  have u1:=vI (a:=nm 118 s) (x:=⟨J.vF c,(J.vF c).size⟩) h.wf;have n1:dp (nw sf (cs++[⟨e0,nm 118 s,j.length⟩])) (nm 99 s)=none:=by rw[O,cd (jF (by decide))];exact M
  exact sd (p:=mB c J.vs.length) i1 m1 (by simp) (Ca (c:=109) (by decide) o) (λt=>jF (by decide)) (λt e=>absurd e (jF (by decide))) (λt e=>N e ▸ n1) (by
   show us (j++[⟨J.vF c,(J.vF c).size⟩]) _+(J.mF c).size<=u
   have n:us (j++[⟨J.vF c,(J.vF c).size⟩]) (nw sf (cs++[⟨e0,nm 118 s,j.length⟩]))<=us j (nw sf cs)+(J.vF c).size:=u1;exact cx (TC n _) (by omega)) H
 .obtain⟨i2,m2⟩:=k2;have u1:us (j++[⟨J.vF c,(J.vF c).size⟩]) (nw sf (cs++[⟨e0,nm 118 s,j.length⟩]))<=us j (nw sf cs)+(J.vF c).size:=vI (x:=⟨J.vF c,(J.vF c).size⟩) h.wf;have P:Wf (j++[⟨J.vF c,(J.vF c).size⟩]) sf (cs++[⟨e0,nm 118 s,j.length⟩]):=(h.wf.mono (by simp)).snoc (Or.inl (by simp));have u2:=vI (a:=nm 109 s) (x:=⟨J.mF c,(J.mF c).size⟩) P;exact sd (p:=kB s c.all J.cX (ie (J.vF c)) (ie (J.mF c))) i2 m2 (by simp) (by decide) (λt e=>ni _ _ e.symm) (λt e=>absurd e.symm (ni _ _)) (λt e=>absurd e.symm (ni _ _)) (cx (TC (cx u2 (TC u1 _)) _) (show us j (nw sf cs)+(J.vF c).size+(J.mF c).size+(J.kF s c).size<=u by omega)) H
 .obtain⟨i3,m3⟩:=k3;have P:Wf (j++[⟨J.vF c,(J.vF c).size⟩]) sf (cs++[⟨e0,nm 118 s,j.length⟩]):=(h.wf.mono (by simp)).snoc (Or.inl (by simp));have f2:Wf (j++[⟨J.vF c,(J.vF c).size⟩]++[⟨J.mF c,(J.mF c).size⟩]) sf (cs++[⟨e0,nm 118 s,j.length⟩]++[⟨e0,nm 109 s,(j++[⟨J.vF c,(J.vF c).size⟩]:List Fl).length⟩]):=(P.mono (by simp)).snoc (Or.inl (by simp));have u1:us (j++[⟨J.vF c,(J.vF c).size⟩]) (nw sf (cs++[⟨e0,nm 118 s,j.length⟩]))<=us j (nw sf cs)+(J.vF c).size:=vI (x:=⟨J.vF c,(J.vF c).size⟩) h.wf;have u2:=vI (a:=nm 109 s) (x:=⟨J.mF c,(J.mF c).size⟩) P;have O:=λb=>r5 (i:=j.length) (zA 118 s) (vz h.wf) b
  have V:=λb=>r5 (i:=(j++[⟨J.vF c,(J.vF c).size⟩]:List Fl).length) (zA 109 s) (vz P) b
  have Q:=λb=>r5 (i:=(j++[⟨J.vF c,(J.vF c).size⟩]++[⟨J.mF c,(J.mF c).size⟩]:List Fl).length) Md (vz f2) b
  have l1:j.length<(j++[⟨J.vF c,(J.vF c).size⟩]:List Fl).length:=by simp
  have W:(j++[⟨J.vF c,(J.vF c).size⟩]:List Fl).length<(j++[⟨J.vF c,(J.vF c).size⟩]++[⟨J.mF c,(J.mF c).size⟩]:List Fl).length:=by simp
  have X:(j++[⟨J.vF c,(J.vF c).size⟩]++[⟨J.mF c,(J.mF c).size⟩]:List Fl).length<(j++[⟨J.vF c,(J.vF c).size⟩]++[⟨J.mF c,(J.mF c).size⟩]++[⟨J.kF s c,(J.kF s c).size⟩]:List Fl).length:=by simp
  have q3:=ky (j++[⟨J.vF c,(J.vF c).size⟩]++[⟨J.mF c,(J.mF c).size⟩]) (⟨J.kF s c,(J.kF s c).size⟩:Fl) d0;have q2:=(my (m:=[(⟨J.kF s c,(J.kF s c).size⟩:Fl)]) (d:=d0) W).trans (ky (j++[⟨J.vF c,(J.vF c).size⟩]) (⟨J.mF c,(J.mF c).size⟩:Fl) d0);have q1:=(my (m:=[(⟨J.kF s c,(J.kF s c).size⟩:Fl)]) (d:=d0) (Nat.lt_trans l1 W)).trans ((my (m:=[(⟨J.mF c,(J.mF c).size⟩:Fl)]) (d:=d0) l1).trans (ky j (⟨J.vF c,(J.vF c).size⟩:Fl) d0));have aa:nm 118 s≠nm 109 s:=jF (by decide);generalize ad:cs++[(⟨e0,nm 118 s,j.length⟩:Ch)]++[⟨e0,nm 109 s,(j++[⟨J.vF c,(J.vF c).size⟩]:List Fl).length⟩]=r at *;generalize af:(j++[⟨J.vF c,(J.vF c).size⟩]:List Fl).length=N1 at *;generalize ae:j++[⟨J.vF c,(J.vF c).size⟩]++[⟨J.mF c,(J.mF c).size⟩]=l at *;generalize S:l++[⟨J.kF s c,(J.kF s c).size⟩]=z at *;have hg:dp (nw sf (r++[⟨e0,tN,l.length⟩])) tN=some l.length:=by rw[Q,cg rfl]
  have K:∀b,dp (nw sf (r++[⟨e0,tN,l.length⟩]++[⟨tN,nm 99 s,l.length⟩])) b=if b=nm 99 s then some l.length else if b=tN then none else dp (nw sf (r++[⟨e0,tN,l.length⟩])) b:=λb=>by
   rw[jQ _ (r++_),rA]
   show (if b=nm 99 s then if nm 99 s=e0 then none else some l.length else if b=tN then none else _)=_
   rw[cd (zA 99 s)]
  have L:us z (nw sf (r++[⟨e0,tN,l.length⟩]++[⟨tN,nm 99 s,l.length⟩]))<=us j (nw sf cs)+J.B:=by
   rw[jQ _ (r++_),jQ];refine cx (NX _ _ _ Md (zA 99 s)) ?_;rw[q3,<-S,ug f2.here.2.2];exact cx (TC (cx u2 (TC u1 _)) _) (show us j (nw sf cs)+(J.vF c).size+(J.mF c).size+(J.kF s c).size<=_ by omega)
  have ab:J.Sn z.length z (dp (nw sf (r++[⟨e0,tN,l.length⟩]++[⟨tN,nm 99 s,l.length⟩]))) s c:=by
   refine⟨⟨j.length,?_,Nat.lt_trans l1 (Nat.lt_trans W X),q1⟩,⟨N1,?_,Nat.lt_trans W X,q2⟩,⟨l.length,?_,X,q3⟩⟩
   .rw[K,cd (jF (by decide)),cd (ni _ _),Q,cd (ni _ _),V,cd aa,O,cg rfl]
   .rw[K,cd (jF (by decide)),cd (ni _ _),Q,cd (ni _ _),V,cg rfl]
   .rw[K,cg rfl]
  have T:j.length<=z.length:=by omega
  have m4:J.G z.length z (dp (nw sf (r++[⟨e0,tN,l.length⟩]++[⟨tN,nm 99 s,l.length⟩]))):=(m3.g.now.1.mono T λ_ _=>rfl).add (λb h1 h2=>by rw[K,cd h1,cd h2]) q f hc ab;have U:∀t,dp (nw sf cs) (nm 99 t)≠none->dp (nw sf (r++[⟨e0,tN,l.length⟩]++[⟨tN,nm 99 s,l.length⟩])) (nm 99 t)≠none:=λt ht=>by
   rw[K];split
   .exact λe=>by cases e
   .rw[cd (ni _ _),Q,cd (ni _ _),V,cd (jF (by decide)),O,cd (jF (by decide))];exact ht
  have o4:zz A (dz R3 ⟨4,tN,nm 99 s⟩) _ _ _ _ _ _:=FC i3 hg (Ca (by decide) o) (λe=>ni _ _ e.symm);have M3:=m3.mono T (b7 u);have M4:Mid J E z.length y u z sf (r++[⟨e0,tN,l.length⟩]++[⟨tN,nm 99 s,l.length⟩]):=⟨M3.wf.snoc (Or.inl X),by
   rw[show r++[⟨e0,tN,l.length⟩]++[⟨tN,nm 99 s,l.length⟩]=(r++[⟨e0,tN,l.length⟩])++[⟨tN,nm 99 s,l.length⟩] from rfl] at *;exact Vw.snoc M3.g (by rw[<-jQ];exact⟨m4,λhy=>U y (h.g.now.2.1 hy),cx L hu⟩)⟩
  refine Rs.op o4 (λI k=>⟨_,_,_,k,M3⟩) λR4 i4=>?_
  have o5:zz A (dz R4 nS) _ _ _ _ _ _:=qz i4;refine Rs.op o5 (λI k=>⟨_,_,_,k,M4⟩) λR5 i5=>Rs.nil ⟨_,_,i5,⟨M4.wf.now,Vw.nil M4.wf.now.some ⟨m4,λ_=>?_,cx L hu⟩⟩,L,λa F=>?_,U⟩
  .rw[K,cg rfl];exact λe=>by cases e
  .rw[K] at F;by_cases e1:a=nm 99 s
   .exact Or.inr (Or.inl e1)
   rw[cd e1] at F;by_cases e2:a=tN
   .rw[cg e2] at F;exact absurd rfl F
   rw[cd e2,Q,cd e2,V] at F;by_cases e3:a=nm 109 s
   .exact Or.inr (Or.inr (Or.inl e3))
   rw[cd e3,O] at F;by_cases e4:a=nm 118 s
   .exact Or.inr (Or.inr (Or.inr e4))
   rw[cd e4] at F;exact Or.inl F
end Hl
namespace Hl
open Go Sp
open Rd (Rk e0 dp Fl Ch ap wo keyed nH)
open Ru (rz fU Out dz eg eK fE dO eQ drop1 m7 nS tN nm vB mB kB Oq)
def sz(fs:List Fl):Option Nat->Nat
 |none=>0
 |some i=>(fs.getD i d0).bytes.size
theorem ui(fs:List Fl)(p:TM × Nat)(L:Sd.Tb):us fs (p::L)=(fs.getD p.2 d0).bytes.size+us fs L:=by unfold us;rw[wj,RZ]
theorem vh(fs:List Fl)(a:TM):∀L:Sd.Tb,keyed L->us fs L=sz fs (dp L a)+us fs (wo L a)
 |[],_=>rfl
 |p::L,h=>by
  obtain⟨j,l⟩:=sQ.1 h;have m:=vh fs a L l;rw[ui,Rd.gT];have e:wo (p::L) a=if p.1=a then wo L a else p::wo L a:=by
   unfold wo;rw[He];by_cases e:p.1=a
   .rw[cg e,cd (by simp[e])]
   .rw[cd e,cg (by simp[e])]
  rw[e];by_cases e:p.1=a
  .rw[cg e,cg e.symm];have r:dp L a=none:=Rd.kA.2 λq u b=>j q u (e.trans b.symm)
   rw[r] at m;have:sz fs none=0:=rfl;have y:sz fs (some p.2)=(fs.getD p.2 d0).bytes.size:=rfl;omega
  .rw[cd e,cd (λh=>e h.symm),ui];omega
theorem zT(fs:List Fl):∀(S:List TM) (L:Sd.Tb),keyed L->(∀p∈L,p.1∈S)->us fs L<=(S.map λa=>sz fs (dp L a)).sum
 |[],L,_,h=>by
  cases L with
  |nil=>exact b7 _
  |cons p L=>exact absurd (h p (mz ..)) (by simp)
 |a::S,L,l,h=>by
  rw[vh fs a L l,wj,RZ];have m:=zT fs S (wo L a) (Rd.lq l a) (λp r=>by
   obtain⟨u,y⟩:=Rd.im.1 r;exact(ic.1 (h p u)).elim (λe=>absurd e y) id)
  have:((S.map λb=>sz fs (dp (wo L a) b)).sum)<=(S.map λb=>sz fs (dp L b)).sum:=by
   clear m h
   induction S with
   |nil=>exact b7 _
   |cons b S j =>
    rw[wj,RZ,wj,RZ];refine Nat.add_le_add ?_ j;rw[Rd.jC];split
    .exact cy _
    .exact b7 _
  omega
variable {a:TM}{cs:List Ch}{sf:Sd.Tb}
theorem D3(j:dp (nw sf cs) e0=none)(b:TM): dp (nw sf (cs++[⟨a,e0,0⟩])) b=if b=a then none else dp (nw sf cs) b:=by
 rw[jQ,rA]
 show (if b=e0 then if e0=e0 then none else some 0 else if b=a then none else _)=_
 rw[cg rfl];by_cases e:b=e0
 .rw[cg e,e,j];split <;> rfl
 .rw[cd e]
variable {fs:List Fl}
theorem Mt(h:Wf fs sf cs): nw sf (cs++[⟨a,e0,0⟩])=wo (nw sf cs) a:=by
 rw[jQ];unfold ap;rw[cg rfl];exact Rd.lQ λp b=>h.here.2.1 p (Rd.im.1 b).1
theorem Mid.rm{J:Jb}{l:Bool}{N y u:Nat}(h:Mid J l N y u fs sf cs)(r:∀s,a=nm 118 s->dp (nw sf cs) (nm 99 s)=none)(z:∀s,a=nm 109 s->dp (nw sf cs) (nm 99 s)=none)(A:y≠0->a≠nm 99 y): Mid J l N y u fs sf (cs++[⟨a,e0,0⟩]):=by
 have j:=λb=>D3 (a:=a) (vz h.wf) b
 have hu:=tB fs a (nw sf cs);refine⟨h.wf.snoc (Or.inr rfl),Vw.snoc h.g ?_⟩;rw[<-jQ];obtain⟨B,C,D⟩:=h.g.now;refine⟨B.off (a:=a) (λb E=>by rw[j,cd E]) (λs e=>?_) (λs e=>?_) (λs e=>by rw[j,cg rfl]),λm=>?_,?_⟩
 .rw[j,r s e];split <;> rfl
 .rw[j,z s e];split <;> rfl
 .rw[j,cd (λe=>A m e.symm)];exact C m
 .rw[Mt h.wf];exact cx hu D
theorem yP{J:Jb}{C G:Bool}{y u:Nat}: ∀(l:List TM) {cs:List Ch} {R:Rk},Is C R fs sf cs->Mid J G fs.length y u fs sf cs->l.Nodup->(∀a∈l,dp (nw sf cs) a≠none)->(∀D a H,l=D++a::H->∀s,a=nm 118 s\/a=nm 109 s->nm 99 s∈D\/dp (nw sf cs) (nm 99 s)=none)->(∀a∈l,y≠0->a≠nm 99 y)->
  Rs C (l.map m7) R (λE=>∃j,Is C E fs sf j/\Mid J G fs.length y u fs sf j/\(∀b,(b∈l->dp (nw sf j) b=none)/\(¬b∈l->dp (nw sf j) b=dp (nw sf cs) b))/\us fs (nw sf j)+(l.map λa=>sz fs (dp (nw sf cs) a)).sum=us fs (nw sf cs)) (jA J C G y u)
 |[],cs,R,hi,h,_,_,_,_=>Rs.nil ⟨cs,hi,h,λb=>⟨λm=>(by cases m),λ_=>rfl⟩,rfl⟩
 |a::l,cs,R,hi,h,Q,L,M,N=>by
  obtain⟨O,S⟩:=List.nodup_cons.1 Q;have I:=M [] a l rfl;have r:∀s,a=nm 118 s\/a=nm 109 s->dp (nw sf cs) (nm 99 s)=none:=λs e=>(I s e).elim (λh=>by cases h) id
  cases P:dp (nw sf cs) a with
  |none=>exact absurd P (L a (mz ..))
  |some i =>
   have T:zz C (dz R (m7 a)) fs fs sf sf cs (cs++[⟨a,e0,0⟩]):=ER hi P;have U:=h.rm (a:=a) (λs e=>r s (Or.inl e)) (λs e=>r s (Or.inr e)) (N a (mz ..));have B:=λb=>D3 (a:=a) (vz h.wf) b
   rw[wj];refine Rs.op T (λE k=>⟨_,_,_,k,h⟩) λt V=>?_
   refine(yP l V U S (λb m=>?_) (λD b H e s W=>?_) (λb m=>N b (ts _ m))).imp (λE K=>?_) λE K=>K
   .rw[B,cd (λe:b=a=>O (e ▸ m))];exact L b (ts _ m)
   .rcases M (a::D) b H (by rw[e];rfl) s W with z|z
    .rcases ic.1 z with z|z
     .exact Or.inr (by rw[B,cg z])
     .exact Or.inl z
    .exact Or.inr (by rw[B,z];split <;> rfl)
   .obtain⟨j,X,x,F,q⟩:=K;refine⟨j,X,x,λb=>?_,?_⟩
    .by_cases e:b=a
     .refine⟨λ_=>?_,λm=>absurd (by rw[e];exact mz ..) m⟩;by_cases A:b∈l
      .exact(F b).1 A
      .rw[(F b).2 A,B,cg e]
     .by_cases A:b∈l
      .exact⟨λ_=>(F b).1 A,λm=>absurd (ts _ A) m⟩
      .exact⟨λm=>((ic.1 m).elim e A).elim,λ_=>by rw[(F b).2 A,B,cd e]⟩
    .have f:(l.map λb=>sz fs (dp (nw sf (cs++[⟨a,e0,0⟩])) b))=l.map λb=>sz fs (dp (nw sf cs) b):=Tm λb m=>by rw[B,cd (λe:b=a=>O (e ▸ m))]
     rw[f,Mt h.wf] at q;rw[wj,RZ,vh fs a _ h.wf.here.1];omega
end Hl
namespace Hl
open Go Sp
open Rd (Rk e0 dp Fl Ch ap wo keyed nH)
open Ru (rz fU Out dz eg eK fE dO eQ drop1 m7 nS tN nm vB mB kB Oq)
def n3(s:Nat):List TM:=[nm 99 s,nm 109 s,nm 118 s]
variable {s:Nat}
theorem kg{a:TM}: a∈n3 s↔a=nm 99 s\/a=nm 109 s\/a=nm 118 s:=by simp[n3]
theorem zC{t:Nat}{a:TM}(h1:a∈n3 s)(h2:a∈n3 t): s=t:=by
 rcases kg.1 h1 with rfl|rfl|rfl <;> rcases kg.1 h2 with h|h|h <;> exact(Ru.sD h).2
theorem I3(s:Nat):(n3 s).Nodup:=by
 have a:nm 99 s≠nm 109 s:=jF (by decide);have b:nm 99 s≠nm 118 s:=jF (by decide);have c:nm 109 s≠nm 118 s:=jF (by decide);simp[n3,a,b,c]
theorem Bu:∀{K:List Nat},K.Nodup->(K.flatMap n3).Nodup
 |[],_=>List.Pairwise.nil
 |s::K,h=>by
  obtain⟨l,m⟩:=List.nodup_cons.1 h;rw[Qj];refine KY.2 ⟨I3 s,Bu m,λa r b j e=>?_⟩;subst e;obtain⟨t,u,j⟩:=CC.1 j;exact l (zC r j ▸ u)
theorem zV:∀(K:List Nat) (b:List TM) (a:TM) (j:List TM),K.flatMap n3=b++a::j->∀s,a=nm 118 s\/a=nm 109 s->nm 99 s∈b
 |[],b,a,j,h,s,e=>by
  have:=congrArg List.length h;simp at this
 |t::K,b,a,j,h,s,e=>by
  rw[Qj] at h
  match b,h with
  |[],h =>
   injection h with h _;rcases e with rfl|rfl
   .exact absurd h (jF (by decide))
   .exact absurd h (jF (by decide))
  |[x],h =>
   injection h with l h;injection h with m _;rcases e with rfl|rfl
   .exact absurd m (jF (by decide))
   .rw[<-l,(Ru.sD m).2];exact mz ..
  |[x,y],h =>
   injection h with l h;injection h with m h;injection h with r _;rcases e with rfl|rfl
   .rw[<-l,(Ru.sD r).2];exact mz ..
   .exact absurd r (jF (by decide))
  |x::y::z::b,h =>
   injection h with l h;injection h with m h;injection h with r h;exact ts _ (ts _ (ts _ (zV K b a j h s e)))
theorem A7:∀K:List Nat,K.flatMap drop1=(K.flatMap n3).map m7
 |[]=>rfl
 |s::K=>by rw[Qj,Qj,Bg,A7 K];rfl
variable {J:Jb}{fs:List Fl}
theorem Mh{N:Nat}{f:TM->Option Nat}(h:J.G N fs f)(b:f (nm 99 s)≠none): (∀a∈n3 s,f a≠none)/\((n3 s).map λa=>sz fs (f a)).sum=J.B:=by
 obtain⟨_,_,c,_,⟨⟨i,l,_,r⟩,⟨j,m,_,u⟩,⟨k,y,_,z⟩⟩⟩:=h s b;refine⟨λa A=>?_,?_⟩
 .rcases kg.1 A with rfl|rfl|rfl
  .exact b
  .rw[m];exact λe=>by cases e
  .rw[l];exact λe=>by cases e
 .have C:sz fs (f (nm 118 s))=9*J.vs.length+8:=by rw[l];show (fs.getD i d0).bytes.size=_;rw[r,<-Er J c]
  have D:sz fs (f (nm 109 s))=12*J.vs.length+8:=by rw[m];show (fs.getD j d0).bytes.size=_;rw[u,<-DM J c]
  have E:sz fs (f (nm 99 s))=32:=by rw[y];show (fs.getD k d0).bytes.size=_;rw[z,<-Ea J s c]
  have e:((n3 s).map λa=>sz fs (f a)).sum=sz fs (f (nm 99 s))+(sz fs (f (nm 109 s))+(sz fs (f (nm 118 s))+0)):=rfl;rw[e,C,D,E];unfold Jb.B;omega
theorem Gz{N:Nat}{f:TM->Option Nat}(h:J.G N fs f): ∀K:List Nat,(∀s∈K,f (nm 99 s)≠none)->((K.flatMap n3).map λa=>sz fs (f a)).sum=K.length*J.B
 |[],_=>by simp
 |s::K,b=>by
  rw[Qj,Bg,List.sum_append_nat,(Mh h (b s (mz ..))).2,Gz h K λt e=>b t (ts _ e),cD,Nat.succ_mul];omega
theorem JT{z D:Bool}{y u:Nat}{m:Sd.Tb}{cs:List Ch}{R:Rk}{K:List Nat}(hi:Is z R fs m cs)(h:Mid J D fs.length y u fs m cs)(H:K.Nodup)(E:∀s∈K,dp (nw m cs) (nm 99 s)≠none)(I:y∉K):Rs z (fE K) R (λF=>∃l j,Is z F fs l j/\Mid J D fs.length y u fs l j/\(∀b,(b∈K.flatMap n3->dp (nw l j) b=none)/\(¬b∈K.flatMap n3->dp (nw l j) b=dp (nw m cs) b))/\us fs (nw l j)+K.length*J.B=us fs (nw m cs)) (jA J z D y u):=by
 unfold fE;split
 .rename_i e;subst e;exact Rs.nil ⟨m,cs,hi,h,λb=>⟨λL=>by simp at L,λ_=>rfl⟩,by simp⟩
 .rw[A7];have G:=h.g.now.1;refine Rs.app (yP _ hi h (Bu H) (λa r=>?_) (λM a N e s A=>Or.inl (zV K M a N e s A)) (λa r _ e=>?_)) λO P=>?_
  .obtain⟨s,A,r⟩:=CC.1 r;exact(Mh G (E s A)).1 a r
  .obtain⟨s,A,r⟩:=CC.1 r;exact I (zC (e ▸ r) (kg.2 (Or.inl rfl)) ▸ A)
  .obtain⟨j,Q,C,S,u1⟩:=P;rw[Gz G K E] at u1;have o:zz z (dz O nS) fs fs m (nw m j) j []:=qz Q;have e:nw (nw m j) []=nw m j:=Rd.lQ C.wf.now.some;refine Rs.op o (λF k=>⟨_,_,_,k,C⟩) λU T=>Rs.nil ⟨_,_,T,⟨C.wf.now,Vw.nil C.wf.now.some C.g.now⟩,λb=>?_,?_⟩
   .rw[e];exact S b
   .rw[e];exact u1
end Hl
namespace Hl
open Go Sp
open Rd (Rk e0 dp Fl Ch ap wo keyed nH)
open Ru (rz fU Out dz eg eK fE dO eQ drop1 m7 nS tN nm vB mB kB Oq B5 nT)
theorem En(c:UInt8)(s:Nat):(nm c s).toList=c::46::Lib.decDigits s:=by
 rw[B3];unfold Ru.nm;rw[G3];simp[Ru.dc]
theorem ME{c d:UInt8}(h:c<d)(s t:Nat):Sd.lt (nm c s) (nm d t)=true:=by
 unfold Sd.lt;rw[En,En];simp[Op.bytesLess,h]
theorem Nt{K:List Nat}{a:TM}:B5 K a=true↔a∈K.flatMap n3:=by
 rw[nT,CC];exact⟨λ⟨s,b,e⟩=>⟨s,b,kg.2 e⟩,λ⟨s,b,e⟩=>⟨s,b,kg.1 e⟩⟩
theorem Gi{J:Jb}{C I:Bool}{y u:Nat}{r:List Fl}{z:Sd.Tb}{cs:List Ch}{R:Rk}{K:List Nat}(hi:Is C R r z cs)(h:Mid J I r.length y u r z cs)(hd:R.down=false)(hK:∀s∈K,dp (nw z cs) (nm 99 s)≠none)(hy:y≠0->y∈K):Rs C (dO R.fH K) R (λH=>∃m j,Is C H r m j/\Mid J I r.length y u r m j/\(∀a,dp (nw m j) a≠none->a∈K.flatMap n3)/\(∀s∈K,dp (nw m j) (nm 99 s)≠none)/\us r (nw m j)<=K.length*J.B) (jA J C I y u):=by
 have f:R.fH=(Rd.tab (nw z cs)).map (·.1):=by unfold Rk.fH;rw[cd (by rw[hd];decide),hi.nw]
 have D:=h.wf.here.1;have mem:∀a,a∈R.fH↔dp (nw z cs) a≠none:=λa=>by
  rw[f,xD];constructor
  .rintro⟨p,S,rfl⟩ e;exact Rd.kA.1 e p ((Rd.fx D).1 S) rfl
  .intro e;cases n:dp (nw z cs) a with
   |none=>exact absurd n e
   |some i=>exact⟨(a,i),(Rd.fx D).2 ((Rd.lh D).1 n),rfl⟩
 have T:R.fH.Pairwise λa b=>Sd.lt a b=true:=by rw[f];exact List.pairwise_map.2 (Rd.dY _)
 obtain⟨l,U⟩:∃l,(R.fH.filter λa=>!B5 K a)=l:=⟨_,rfl⟩
 have A:∀a,a∈l↔dp (nw z cs) a≠none/\¬a∈K.flatMap n3:=λa=>by
  rw[<-U,FT,mem,<-Nt];simp
 have L:l.Pairwise λa b=>Sd.lt a b=true:=by rw[<-U];exact T.sublist List.filter_sublist
 have V:l.Nodup:=L.imp λe=>Sd.qL e
 have N:∀{H:Rk} {m:Sd.Tb} {j:List Ch},Is C H r m j->Mid J I r.length y u r m j->(∀b,(b∈l->dp (nw m j) b=none)/\(¬b∈l->dp (nw m j) b=dp (nw z cs) b))->∃m j,Is C H r m j/\Mid J I r.length y u r m j/\(∀a,dp (nw m j) a≠none->a∈K.flatMap n3)/\(∀s∈K,dp (nw m j) (nm 99 s)≠none)/\us r (nw m j)<=K.length*J.B:=λ{H m j} W E O=>by
  have a1:∀a,dp (nw m j) a≠none->a∈K.flatMap n3:=λa F=>by
   by_cases e:a∈l
   .exact absurd ((O a).1 e) F
   .rw[(O a).2 e] at F;exact Classical.byContradiction λe2=>e ((A a).2 ⟨F,e2⟩)
  have a2:∀s∈K,dp (nw m j) (nm 99 s)≠none:=λs P=>by
   rw[(O _).2 λe=>((A _).1 e).2 (CC.2 ⟨s,P,kg.2 (Or.inl rfl)⟩)];exact hK s P
  refine⟨m,j,W,E,a1,a2,?_⟩;refine cx (zT r (K.flatMap n3) _ E.wf.here.1 λp S=>a1 p.1 λe=>Rd.kA.1 e p S rfl) ?_;rw[Gz E.g.now.1 K a2];exact b7 _
 have go:Rs C (l.map m7) R (λH=>∃j,Is C H r z j/\Mid J I r.length y u r z j/\(∀b,(b∈l->dp (nw z j) b=none)/\(¬b∈l->dp (nw z j) b=dp (nw z cs) b))/\us r (nw z j)+(l.map λa=>sz r (dp (nw z cs) a)).sum=us r (nw z cs)) (jA J C I y u):=by
  refine yP l hi h V (λa F=>((A a).1 F).1) (λl1 a l2 e s P=>?_) (λa F h0 e=>?_)
  .by_cases hc:dp (nw z cs) (nm 99 s)=none
   .exact Or.inr hc
   refine Or.inl ?_;have F:a∈l:=by rw[e];exact Bh _ (mz ..)
   have X:a∈n3 s:=kg.2 (P.elim (λe=>Or.inr (Or.inr e)) λe=>Or.inr (Or.inl e));have Q:nm 99 s∈l:=(A _).2 ⟨hc,λx=>((A a).1 F).2 (by
    obtain⟨t,ht,x⟩:=CC.1 x;exact CC.2 ⟨t,ht,zC x (kg.2 (Or.inl rfl)) ▸ X⟩)⟩
   have G:Sd.lt (nm 99 s) a=true:=by
    rcases P with rfl|rfl
    .exact ME (by decide) _ _
    .exact ME (by decide) _ _
   rw[e] at Q L;rcases cJ.1 Q with M|M
   .exact M
   .rcases ic.1 M with M|M
    .rw[M,Sd.lt_irrefl] at G;cases G
    .have:=(sQ.1 (QB.1 L).2.1).1 _ M;rw[Sd.lt_asymm this] at G;cases G
  .exact((A a).1 F).2 (CC.2 ⟨y,hy h0,kg.2 (Or.inl e)⟩)
 unfold dO;rw[U]
 show Rs C (if l.map m7=[] then [] else l.map m7++[nS]) R _ _
 split
 .rename_i e;have q:l=[]:=by simpa using e
  exact Rs.nil (N hi h λb=>⟨λhb=>(by rw[q] at hb;cases hb),λ_=>rfl⟩)
 .refine Rs.app go λR1 k1=>?_
  obtain⟨j,W,E,O,_⟩:=k1;have o:zz C (dz R1 nS) r r z (nw z j) j []:=qz W;have e:nw (nw z j) []=nw z j:=Rd.lQ E.wf.now.some;exact Rs.op o (λH k=>⟨_,_,_,k,E⟩) λR2 i2=>Rs.nil (N i2 ⟨E.wf.now,Vw.nil E.wf.now.some E.g.now⟩ λb=>by rw[e];exact O b)
end Hl
namespace Hl
open Go Sp
open Rd (Rk e0 dp Fl Ch ap wo keyed nH)
open Ru (rz fU Out dz eg eK fE dO eQ drop1 m7 nS tN nm vB mB kB Oq B5 nT mg)
def iC(K:List Nat):Nat:=K.getLast?.getD 0
theorem kD(K:List Nat)(s:Nat):iC (K++[s])=s:=by unfold iC;simp
variable {K:List Nat}
theorem vJ(h:iC K≠0): iC K∈K:=by
 rcases SX K with e|⟨b,s,e⟩
 .subst e;exact absurd rfl h
 .rw[S4] at e;subst e;rw[kD];simp
theorem qW(h:mg K): ∀s∈K,s<=iC K:=λs j=>by
 rcases SX K with e|⟨l,t,e⟩
 .subst e;cases j
 .rw[S4] at e;subst e;rw[kD];rcases cJ.1 j with b|b
  .exact o9 ((QB.1 h).2.2 s b t (List.mem_singleton_self t))
  .rw[eh.1 b];exact b7 _
def Lp(J:Jb)(l m:Bool)(R:Rk)(K:List Nat):Prop := ∃j b e,Is l R j b e/\Mid J m j.length (iC K) ((J.keep+1)*J.B) j b e/\(∀a,dp (nw b e) a≠none->a∈K.flatMap n3)/\(∀s∈K,dp (nw b e) (nm 99 s)≠none)/\us j (nw b e)<=K.length*J.B
variable {J:Jb}
theorem Lp.bad{b e:Bool}{R:Rk}(h:Lp J b e R K): jA J b e (iC K) ((J.keep+1)*J.B) R:=by
 obtain⟨j,l,m,r,u,_⟩:=h;exact⟨j,l,m,r,u⟩
theorem QS(b:J.Ok): (J.keep+1)*J.B<=549755813888:=by
 have j:=b.keep.2;have l:=b.cX.FR;have e:J.B<=1392:=by unfold Jb.B;omega
 have m:=Nat.mul_le_mul (show J.keep+1<=6 by omega) e;omega
theorem Ft(M:J.Ok){z N:Bool}{R:Rk}{s:Nat}{c:Cfg}(h:Lp J z N R K)(P:mg K)(hk:K.length<=J.keep)(hn:iC K<s)(Q:s%J.every=0)(p:J.at' s=some c):Rs z (eK c J.vs.length s J.cX) R (λo=>Rs z (fE ((K++[s]).take (K.length+1-J.keep))) o (λn=>Lp J z N n ((K++[s]).drop (K.length+1-J.keep))) (jA J z N s ((J.keep+1)*J.B))) (jA J z N (iC K) ((J.keep+1)*J.B)):=by
 obtain⟨fs,sf,cs,hi,hm,A,hp,hu⟩:=h;have ab:=(xY M p).1;have aa:=M.cap;have hB:=QS M;have S:dp (nw sf cs) (nm 99 s)=none:=Classical.byContradiction λe=>by
  obtain⟨t,l,m⟩:=CC.1 (A _ e);have:=qW P t l;have:=zC m (kg.2 (Or.inl rfl));omega
 have T:us fs (nw sf cs)+J.B<=(J.keep+1)*J.B:=by
  rw[Nat.succ_mul];exact TC (cx hu (Tj _ hk)) _
 refine(JP hi hm S (by omega) Q (by omega) p T hB).imp (λo k1=>?_) λ_ h=>h
 obtain⟨U,u,i1,V,u1,a1,p1⟩:=k1;have O:nw u []=u:=Rd.lQ V.wf.some;have C:mg (K++[s]):=QB.2 ⟨P,List.pairwise_singleton _ _,λa A b D=>by rw[eh.1 D];exact Nat.lt_of_le_of_lt (qW P a A) hn⟩;have nd:(K++[s]).Nodup:=C.imp λh=>Nat.ne_of_lt h
 have r:∀t∈K++[s],dp (nw u []) (nm 99 t)≠none:=λt l=>by
  rw[O];rcases cJ.1 l with m|m
  .exact p1 t (hp t m)
  .rw[eh.1 m];have:=V.g.now.2.1 (by omega);rw[O] at this;exact this
 have E:(K++[s]).length=K.length+1:=by simp
 have W:=M.keep.1;have F:∃K',(K++[s]).drop (K.length+1-J.keep)=K'++[s]:=⟨K.drop (K.length+1-J.keep),Tq (by omega)⟩
 obtain⟨K',G⟩:=F;have j:=r4 (K.length+1-J.keep) (K++[s]);have H:=nd;rw[<-j] at H;obtain⟨n1,n2,I⟩:=KY.1 H;have X:s∉(K++[s]).take (K.length+1-J.keep):=λe=>I s e s (by rw[G];simp) rfl
 refine(JT i1 V n1 (λt l=>r t (Tk l)) X).imp (λn k2=>?_) λ_ h=>h
 obtain⟨k,x,i2,m2,q,u2⟩:=k2;have i:∀t∈(K++[s]).drop (K.length+1-J.keep),∀a∈n3 t,¬a∈((K++[s]).take (K.length+1-J.keep)).flatMap n3:=λt l a A D=>by
  obtain⟨t',f,D⟩:=CC.1 D;exact I t' f t l (zC D A)
 refine⟨U,k,x,i2,by rw[G,kD];exact m2,λa y=>?_,λt l=>?_,?_⟩
 .by_cases e:a∈((K++[s]).take (K.length+1-J.keep)).flatMap n3
  .exact absurd ((q a).1 e) y
  .rw[(q a).2 e,O] at y;have L:a∈(K++[s]).flatMap n3:=by
    rw[LV];rcases a1 a y with m|m
    .exact Fv _ (A a m)
    .exact Bh _ (CC.2 ⟨s,List.mem_singleton_self s,kg.2 m⟩)
   rw[<-j,LV] at L;exact(cJ.1 L).elim (λh=>absurd h e) id
 .rw[(q _).2 (i t l _ (kg.2 (Or.inl rfl)))];exact r t (Ep l)
 .rw[O] at u2;have l1:((K++[s]).take (K.length+1-J.keep)).length+((K++[s]).drop (K.length+1-J.keep)).length=K.length+1:=by rw[<-lN,j,E]
  have l2:(((K++[s]).take (K.length+1-J.keep)).length+((K++[s]).drop (K.length+1-J.keep)).length)*J.B=K.length*J.B+J.B:=by rw[l1,Nat.succ_mul]
  rw[Nat.add_mul] at l2;omega
end Hl
namespace Hl
open Go Sp
open Rd (Rk e0 dp Fl Ch ap wo keyed nH)
open Ru (rz fU Out dz eg eK fE dO eQ drop1 m7 nS tN nm vB mB kB Oq B5 nT mg)
theorem LH{e q s:Nat}(he:1<=e)(h1:q*e<s)(h2:s<=(q+1)*e)(j:s%e=0):s=(q+1)*e:=by
 have b:s=s/e*e:=by have:=Nat.div_add_mod s e;rw[j,ub,M7] at this;exact this.symm
 rw[b] at h1 h2;have l:=Nat.lt_of_mul_lt_mul_right h1;have m:=Nat.le_of_mul_le_mul_right h2 he;rw[b,show s/e=q+1 by omega]
theorem GX{J:Jb}(H:J.Ok){z Q:Bool}{de:Nat}(V:de%J.every=0):∀(g s:Nat) (c:Cfg) (K:List Nat) (sv:Nat) (R:Rk),J.at' s=some c->Lp J z Q R K->mg K->K.length<=J.keep->iC K=(de/J.every+sv)*J.every->(iC K<s\/(s=de/\sv=0))->s<=(de/J.every+sv+1)*J.every->
  ∀o,o=rz J.P J.Es J.cap J.every J.keep J.cX J.vs.length de g s c K sv R->(o.e=0\/o.e=er z)/\jA J z Q ((de/J.every+o.saved)*J.every) ((J.keep+1)*J.B) o.R
 |0,s,c,K,sv,R,S,I,L,W,A,X,k,o,j=>by
  rw[rz] at j;subst j;exact⟨Or.inl rfl,A ▸ I.bad⟩
 |g+1,s,c,K,sv,R,S,I,L,W,A,X,k,o,j=>by
  have h:=H.every;have x:de/J.every*J.every=de:=by have:=Nat.div_add_mod de J.every;rw[V,ub,M7] at this;exact this
  have l:=I.bad;rw[A] at l;rw[rz] at j;by_cases u:quiet c s=true
  .rw[cg u] at j;subst j;exact⟨Or.inl rfl,l⟩
  rw[cd u] at j;by_cases m:J.cap<=s
  .rw[cg m] at j;subst j;exact⟨Or.inl rfl,l⟩
  rw[cd m] at j;by_cases r:de<s/\s%J.every=0
  .rw[cg r] at j;have C:iC K<s:=X.elim id λe=>by omega
   have D:s=(de/J.every+sv+1)*J.every:=LH h (A ▸ C) k r.2;have M:jA J z Q s ((J.keep+1)*J.B)=jA J z Q ((de/J.every+(sv+1))*J.every) ((J.keep+1)*J.B):=by rw[<-Nat.add_assoc,<-D]
   rcases Ft H I L W C r.2 S with ⟨E,G⟩|⟨E,G⟩
   .rw[cd (by rw[E];simp)] at j;rcases G with ⟨T,U⟩|⟨T,U⟩
    .rw[cd (by rw[T];simp)] at j;have q:=H.keep.1;have N:mg (K++[s]):=QB.2 ⟨L,List.pairwise_singleton _ _,λa y b f=>by rw[eh.1 f];exact Nat.lt_of_le_of_lt (qW L a y) C⟩;have t:(K++[s]).drop (K.length+1-J.keep)=K.drop (K.length+1-J.keep)++[s]:=Tq (by omega);have F:iC ((K++[s]).drop (K.length+1-J.keep))=s:=by rw[t,kD]
     have O:=U.bad;rw[F,M] at O;cases y:lK J.P J.Es c s J.vs.length with
     |error i =>
      rw[y] at j;subst j;exact⟨Or.inl rfl,O⟩
     |ok a =>
      rw[y] at j;refine GX H V g (s+1) _ _ (sv+1) _ (ue S u m y) U (N.sublist (List.drop_sublist _ _)) ?_ ?_ (Or.inl ?_) ?_ o j
      .rw[uT,lN,Tx];omega
      .rw[F,<-Nat.add_assoc];exact D
      .rw[F];omega
      .rw[show (de/J.every+(sv+1)+1)=(de/J.every+sv+1)+1 by omega,Nat.succ_mul,<-D];omega
    .rw[cg (by rw[T];exact wW z)] at j;subst j;exact⟨Or.inr T,by rw[<-M];exact U⟩
   .rw[cg (by rw[E];exact wW z)] at j;subst j;exact⟨Or.inr E,by rw[A] at G;exact G⟩
  .rw[cd r] at j;cases y:lK J.P J.Es c s J.vs.length with
   |error i =>
    rw[y] at j;subst j;exact⟨Or.inl rfl,l⟩
   |ok a =>
    rw[y] at j;refine GX H V g (s+1) _ K sv R (ue S u m y) I L W A (Or.inl ?_) ?_ o j
    .rcases X with E|⟨E,G⟩
     .omega
     .rw[A,G,ub,x];omega
    .refine Nat.lt_of_le_of_ne k λe=>r ⟨?_,by rw[e];exact Nat.mul_mod_left _ _⟩
     rw[e];have E:de/J.every*J.every<(de/J.every+sv+1)*J.every:=Nat.mul_lt_mul_of_pos_right (by omega) h;omega
end Hl
namespace Hl
open Go Sp
open Rd (Rk e0 dp Fl Ch ap wo keyed nH)
open Ru (rz fU Out dz eg eK fE dO eQ drop1 m7 nS tN nm vB mB kB rB gC u64 pR num Oq B5 nT mg)
theorem yK{x:Int}(h:i64 x):pR (u64 x)=x:=by
 have b : -9223372036854775808<=x/\x<=9223372036854775807:=h;unfold pR u64;split <;> omega
theorem p8:(256:Nat) ^ 8=18446744073709551616:=by decide
theorem p4:(256:Nat) ^ 4=4294967296:=by decide
theorem yL(a b:TM){x y k:Nat}(h:a.size=x)(e:b.size=k)(j:y=x+k):(a++b).extract x y=b:=Ru.wU a b h (by omega)
theorem Mi(c:Cfg):∀(n i:Nat),i<n->(vB c n).extract (9*i) (9*i+8)=nJ (u64 (c.val.getD i 0)) 8
 |0,i,h=>by omega
 |n+1,i,h=>by
  rw[vB];by_cases hi:i<n
  .rw[Ru.eE _ _ (by rw[cM,Ru.fw,dJ];omega),Ru.eE _ _ (by rw[Ru.fw];omega)];exact Mi c n i hi
  .obtain rfl:i=n:=by omega
   rw[Ru.eE _ _ (by rw[cM,Ru.fw,dJ];omega),yL _ _ (Ru.fw c i) (dJ _ _) rfl]
theorem Ml(c:Cfg):∀(n i:Nat),i<n->bt (vB c n) (9*i+8)=if c.fC.getD i false=true then 1 else 0
 |0,i,h=>by omega
 |n+1,i,h=>by
  rw[vB];by_cases hi:i<n
  .rw[kN _ _ _ (by rw[cM,Ru.fw,dJ];omega),kN _ _ _ (by rw[Ru.fw];omega)];exact Ml c n i hi
  .obtain rfl:i=n:=by omega
   rw[nG _ _ 0 (9*i+8) (by rw[cM,Ru.fw,dJ]) (by rw[Ru.rH];omega)];cases c.fC.getD i false <;> decide
theorem Mx(c:Cfg):∀(n i:Nat),i<n->(mB c n).extract (12*i) (12*i+4)=nJ (u64 (c.iK.getD i 0)) 4
 |0,i,h=>by omega
 |n+1,i,h=>by
  rw[mB];by_cases hi:i<n
  .rw[Ru.eE _ _ (by rw[cM,Ru.ga,dJ];omega),Ru.eE _ _ (by rw[Ru.ga];omega)];exact Mx c n i hi
  .obtain rfl:i=n:=by omega
   rw[Ru.eE _ _ (by rw[cM,Ru.ga,dJ];omega),yL _ _ (Ru.ga c i) (dJ _ _) rfl]
theorem MI(c:Cfg):∀(n i:Nat),i<n->(mB c n).extract (12*i+4) (12*i+4+8)=nJ (u64 (c.je.getD i 0)) 8
 |0,i,h=>by omega
 |n+1,i,h=>by
  rw[mB];by_cases hi:i<n
  .rw[Ru.eE _ _ (by rw[cM,Ru.ga,dJ];omega),Ru.eE _ _ (by rw[Ru.ga];omega)];exact MI c n i hi
  .obtain rfl:i=n:=by omega
   rw[yL _ _ (by rw[cM,Ru.ga,dJ]) (dJ _ _) rfl]
theorem pA{α : Type}{l:List α}{d : α}{n:Nat}{f:Nat->α}(b:l.length=n)(h:∀i,i<n->f i=l.getD i d):(List.range n).map f=l:=by
 refine List.ext_getElem (by simp[b]) λi j e=>?_
 rw[List.getElem_map,List.getElem_range,h i (by omega),cL,cH e];rfl
theorem back{c:Cfg}{n:Nat}(h:eT n c)(s cX a b:Nat):gC (vB c n) (mB c n) (kB s c.all cX a b) n=c:=by
 have e:((List.range n).map λi=>pR (num (vB c n) (9*i) 8))=c.val:=pA (d:=0) h.lv λi hi=>by
  rw[Ru.r7 (Mi _ n i hi) (by rw[Ru.fw];omega),p8,Nat.mod_eq_of_lt (Ru.qt _)];exact yK (h.v _ (kZ (by rw[h.lv];exact hi)))
 have j:((List.range n).map λi=>bt (vB c n) (9*i+8) == 1)=c.fC:=pA (d:=false) h.lr λi hi=>by
  rw[Ml _ n i hi];cases c.fC.getD i false <;> rfl
 have l:((List.range n).map λi=>((num (mB c n) (12*i) 4:Nat):Int))=c.iK:=pA (d:=0) h.lg λi hi=>by
  rw[Ru.r7 (Mx _ n i hi) (by rw[Ru.ga];omega),p4];have u:=h.g _ (kZ (d:=0) (show i<c.iK.length by rw[h.lg];exact hi));unfold u64;omega
 have m:((List.range n).map λi=>pR (num (mB c n) (12*i+4) 8))=c.je:=pA (d:=0) h.li λi hi=>by
  rw[Ru.r7 (MI _ n i hi) (by rw[Ru.ga];omega),p8,Nat.mod_eq_of_lt (Ru.qt _)];exact yK (h.i _ (kZ (by rw[h.li];exact hi)))
 have r:pR (num (kB s c.all cX a b) 4 8)=c.all:=by rw[Ru.P3];exact yK h.a
 unfold gC;rw[e,j,l,m,r]
end Hl
namespace Hl
open Go Sp
open Rd (Rk e0 dp Fl Ch ap wo keyed nH)
open Ru (rz fU Out dz eg eK fE dO eQ drop1 m7 nS tN nm vB mB kB Oq B5 nT mg oo fT th tU Fq fR)
open Classical
variable {R:Rk}{fs:List Fl}{md:Bool}{sf:Sd.Tb}{cs:List Ch}
theorem IP(h:Is md R fs sf cs)(hd:R.down=false){a:TM}{i:Nat}(hi:dp (nw sf cs) a=some i): R.rd a=(fs.getD i d0).bytes:=by
 unfold Rk.rd Rk.fl;rw[cd (by rw[hd];decide),h.nw,hi,h.f]
theorem Nd(h:Is md R fs sf cs)(hd:R.down=false){a:TM}(hi:dp (nw sf cs) a=none): R.rd a=e0:=by
 unfold Rk.rd;rw[cd (by rw[hd];decide),h.nw,hi]
variable {J:Jb}
theorem By(u:J.Ok){N:Nat}(h:Is md R fs sf cs)(hd:R.down=false)(A:J.G N fs (dp (nw sf cs))){s:Nat}(B:dp (nw sf cs) (nm 99 s)≠none): Fq R.rd J.vs.length J.cX s/\J.at' s=some (fR R.rd J.vs.length s):=by
 obtain⟨_,_,c,y,⟨⟨i,C,_,D⟩,⟨j,E,_,F⟩,⟨k,H,_,I⟩⟩⟩:=A s B;obtain⟨K,r⟩:=xY u y;have z:=u.cap;have b:R.rd (nm 118 s)=dj (vB c J.vs.length):=by rw[IP h hd C,D];rfl
 have e:R.rd (nm 109 s)=dj (mB c J.vs.length):=by rw[IP h hd E,F];rfl
 have l:R.rd (nm 99 s)=dj (kB s c.all J.cX (ie (dj (vB c J.vs.length))) (ie (dj (mB c J.vs.length)))):=by rw[IP h hd H,I];rfl
 have m:fR R.rd J.vs.length s=c:=by unfold fR;rw[b,e,l,gR,gR,gR];exact back r _ _ _ _
 refine⟨⟨by rw[b];exact uk _,by rw[e];exact uk _,by rw[l];exact uk _,by rw[b,gR,Ru.fw],by rw[e,gR,Ru.ga],by rw[l,gR,Ru.l5],by omega,?_,?_,?_⟩,by rw[m];exact y⟩
 .rw[m,b,gR]
 .rw[m,e,gR]
 .rw[m,l,gR]
theorem Je{n cX s:Nat}(h:Is md R fs sf cs)(hd:R.down=false)(b:Fq R.rd n cX s): dp (nw sf cs) (nm 99 s)≠none:=λe=>by
 have:=b.Rr;rw[Nd h hd e] at this;revert this;decide
theorem Jc(h:Is md R fs sf cs)(hd:R.down=false)(m:Wf fs sf cs): R.fH.Nodup:=by
 have l:R.fH=(Rd.tab (nw sf cs)).map (·.1):=by unfold Rk.fH;rw[cd (by rw[hd];decide),h.nw]
 have j:R.fH.Pairwise λa b=>Sd.lt a b=true:=by rw[l];exact List.pairwise_map.2 (Rd.dY _)
 exact j.imp λe=>Sd.qL e
theorem found(m:J.Ok){r:Bool}{N y u:Nat}(h:Is md R fs sf cs)(hd:R.down=false)(j:Mid J r N y u fs sf cs)(s:Nat): s∈oo (fT R.rd J.vs.length J.cX R.fH)↔dp (nw sf cs) (nm 99 s)≠none:=by
 have b:=j.wf.here.1;have z:R.fH=(Rd.tab (nw sf cs)).map (·.1):=by unfold Rk.fH;rw[cd (by rw[hd];decide),h.nw]
 have A:R.fH.Nodup:=Jc h hd j.wf;unfold fT;rw[Ru.sG (Ru.kV A)];unfold th;rw[List.mem_filterMap];constructor
 .rintro⟨a,C,e⟩;exact Je h hd (Ru.nF e).2
 .intro e;refine⟨nm 99 s,?_,?_⟩
  .rw[z,xD];cases l:dp (nw sf cs) (nm 99 s) with
   |none=>exact absurd l e
   |some i=>exact⟨(nm 99 s,i),(Rd.fx b).2 ((Rd.lh b).1 l),rfl⟩
  .have B:=(By m h hd j.g.now.1 e).1;unfold tU;rw[Ru.GM]
   show (if (nm 99 s).extract 0 2=⟨#[99,46]⟩/\_ then some s else none)=_
   rw[cg ⟨Ru.rk _ _,B⟩]
theorem GY(C:J.Ok){D:Bool}{y:Nat}(h:jA J md D y ((J.keep+1)*J.B) R)(hd:R.down=false)(O:D=true->R.dS=[]){K:List Nat}(f:K=oo (fT R.rd J.vs.length J.cX R.fH)){G:Cfg}(H:G=if K=[] then fS J.P J.vs else fR R.rd J.vs.length (iC K)){o:Ru.Out}(E:o=if (eg R (dO R.fH (K.drop (K.length-J.keep)))).1≠0 then ⟨fU,0,(eg R (dO R.fH (K.drop (K.length-J.keep)))).1,(eg R (dO R.fH (K.drop (K.length-J.keep)))).2⟩ else rz J.P J.Es J.cap J.every J.keep J.cX J.vs.length (iC K) ((J.cap-iC K)+1) (iC K) G (K.drop (K.length-J.keep)) 0 (eg R (dO R.fH (K.drop (K.length-J.keep)))).2):y<=iC K/\iC K%J.every=0/\(o.e=0\/o.e=er md)/\jA J md D ((iC K/J.every+o.saved)*J.every) ((J.keep+1)*J.B) o.R/\(o.e=0->o.res=Fw J.P J.vs J.Es J.cap)/\(o.e≠0->o.res=fU):=by
 obtain⟨fs,sf,cs,hi,F⟩:=h;have I:∀s,s∈K↔dp (nw sf cs) (nm 99 s)≠none:=λs=>by rw[f];exact found C hi hd F s
 have el:R.fH=(Rd.tab (nw sf cs)).map (·.1):=by unfold Rk.fH;rw[cd (by rw[hd];decide),hi.nw]
 have nd:R.fH.Nodup:=Jc hi hd F.wf;have p:mg K:=by rw[f];exact Ru.xI (Ru.kV nd)
 have n:=F.g.now.1;have Q:y<=iC K:=by
  by_cases b:y=0
  .omega
  .exact qW p y ((I y).2 (F.g.now.2.1 b))
 have r:iC K%J.every=0:=by
  by_cases b:iC K=0
  .rw[b];exact Nat.zero_mod _
  .exact(n _ ((I _).1 (vJ b))).2.1
 have u:J.at' (iC K)=some G:=by
  by_cases b:K=[]
  .rw[H,cg b,b];rfl
  .rw[H,cd b];have L:iC K∈K:=by
    rcases SX K with e|⟨K',t,e⟩
    .exact absurd e b
    .rw[S4] at e;rw[e,kD];simp
   exact(By C hi hd n ((I _).1 L)).2
 obtain⟨l,j⟩:∃l,K.drop (K.length-J.keep)=l:=⟨_,rfl⟩
 rw[j] at E;have S:=C.keep.1;have sub:∀s∈l,s∈K:=λs m=>by rw[<-j] at m;exact Ep m
 have z:iC l=iC K:=by
  rcases SX K with e|⟨K',t,e⟩
  .rw[<-j,e,List.drop_nil]
  .rw[S4] at e;rw[<-j,e,Tq (by rw[lN,Tx];omega),kD,kD]
 have T:l.length<=J.keep:=by rw[<-j,uT];omega
 have U:mg l:=by rw[<-j];exact p.sublist (List.drop_sublist _ _)
 have V:Mid J D fs.length (iC K) ((J.keep+1)*J.B) fs sf cs:=⟨F.wf,λk hk M=>by
  have e:nw sf (cs.take k)=nw sf cs:=by
   rcases M with e|e
   .have:=O e;rw[hi.c] at this;rw[this,List.take_nil]
   .rw[e,wI]
  rw[e];obtain⟨A,N,h3⟩:=F.g.now;exact⟨A,λb=>(I _).1 (vJ b),h3⟩⟩
 have W:=Gi (K:=l) hi V hd (λs m=>(I s).1 (sub s m)) (λb=>by rw[<-z] at b ⊢;exact vJ b);refine⟨Q,r,?_⟩;have X:(iC K/J.every+0)*J.every=iC K:=by have:=Nat.div_add_mod (iC K) J.every;rw[r,ub,M7] at this;rw[ub];exact this
 rcases W with ⟨A,N⟩|⟨A,N⟩
 .rw[cd (by rw[A];simp)] at E;have hL:Lp J md D (eg R (dO R.fH l)).2 l:=by
   obtain⟨x,q,x1,x2,x3,x4,x5⟩:=N;exact⟨fs,x,q,x1,by rw[z];exact x2,x3,x4,x5⟩
  have M:=GX C r _ _ G l 0 _ u hL U T (by rw[z,X]) (Or.inr ⟨rfl,rfl⟩) (by rw[Nat.add_mul,X];omega) o E;have i:=Cs C (de:=iC K) ((J.cap-iC K)+1) (iC K) G l 0 (eg R (dO R.fH l)).2 u;rw[<-E] at i;exact⟨M.1,M.2,λe=>by rw[i.1 e];exact(JC C u).symm,i.2⟩
 .rw[cg (by rw[A];exact wW md)] at E;subst E;exact⟨Or.inr A,by show jA J md D ((iC K/J.every+0)*J.every) _ _;rw[X];exact N,λe=>absurd (A.symm.trans e) (wW md),λ_=>rfl⟩
end Hl
end Go.Proofs.YtgkkdpegcieakaaGreatDoor
