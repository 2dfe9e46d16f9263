import Derived.Test.YtgkkdpegcieakaaGreatDoorCz35
import Derived.Test.YtgkkdpegcieakaaGreatDoorCz30
set_option linter.unusedVariables false
set_option linter.unusedSimpArgs false
set_option maxRecDepth 100000
set_option maxHeartbeats 16000000
namespace Go.Proofs.YtgkkdpegcieakaaGreatDoor
open Go.Proofs.Tryz
open Value renaming int→Z
open IntKind renaming i64→Y
open Go renaming World→TJ,Value→TK,Calls→TL
namespace Ru
open Go.RowKit
open Sp (dj ie)
open Rd (Rk e0)
open Pk (jo Sm fy TP cZ cS cY)
open Dk (Kept)
def OR(O:Nat->Prop)(S:Nat)(v:TK)(RB k:Nat):Prop:=OO O S v k\/k=RB
variable {n cX S cU E D:Nat}{R Q:Rk}{w:TJ}{v:TK}{O:Nat->Prop}{T:Sn.Tb}
theorem iZ(h:ow w D E S cX n cU Q R O v T){k:Nat}{c:Array TK}{t:TypeId}(b:w.heap[k]?=some (.cells c t (0,0)))(ht:t∉jd/\t≠113/\t≠181): ¬OO O S v k:=λl=>by
 rcases l with e1|e1
 .exact nP h.two b ht.1 e1
 .rcases e1 with e1|e1
  .subst e1;exact cY b h.sh.tab.blk ht.2.1 rfl
  .obtain⟨j,e,_⟩:=cZ h.sh.tab.row e1;exact cY b e ht.2.2 rfl
structure uu (w:TJ) (D E S cX n cU:Nat) (Q R:Rk) (O:Nat->Prop) (v:TK) (T:Sn.Tb) (FB EB SB RB every de sv:Nat) (y z:TK):Prop where
 sf:ow w D E S cX n cU Q R O v T
 fb:w.heap[FB]?=some (.cells #[Z Y (de:Int),y,z] 80 (0,0))
 eb:w.heap[EB]?=some (.cells #[Z Y (every:Int)] 3 (0,0))
 sb:w.heap[SB]?=some (.cells #[.pointer (some ⟨S,0,none⟩)] 85 (0,0))
 rb:w.heap[RB]?=some (.cells #[Z Y (de:Int),Z Y (sv:Int)] 43 (0,0))
 rp:RB≠6
variable {sv RB de EB SB every FB:Nat}{z y:TK}
theorem uu.below{w':TJ}(h:uu w D E S cX n cU Q R O v T FB EB SB RB every de sv y z)(hb:TI w w'): uu w' D E S cX n cU Q R O v T FB EB SB RB every de sv y z:=⟨h.sf.below hb,(hb.block _ (cS h.fb)).trans h.fb,(hb.block _ (cS h.eb)).trans h.eb,(hb.block _ (cS h.sb)).trans h.sb,(hb.block _ (cS h.rb)).trans h.rb,h.rp⟩
theorem uu.next{w':TJ}{m:Rk}{j:Nat->Prop}{v':TK}{r:Sn.Tb}(h:uu w D E S cX n cU Q R O v T FB EB SB RB every de sv y z)(u:ow w' D E S cX n cU m R j v' r)(b:fy w (OO O S v) w' (OO j S v')): uu w' D E S cX n cU m R j v' r FB EB SB RB every de sv y z/\fy w (OR O S v RB) w' (OR j S v' RB):=by
 refine⟨⟨u,?_,?_,?_,?_,h.rp⟩,⟨b.kept.mono λk _ l A=>l (Or.inl A),λk l=>?_⟩⟩
 .exact(b.far (cS h.fb) (iZ h.sf h.fb (by decide))).1.trans h.fb
 .exact(b.far (cS h.eb) (iZ h.sf h.eb (by decide))).1.trans h.eb
 .exact(b.far (cS h.sb) (iZ h.sf h.sb (by decide))).1.trans h.sb
 .exact(b.far (cS h.rb) (iZ h.sf h.rb (by decide))).1.trans h.rb
 .rcases l with e|e
  .rcases b.own k e with e|e
   .exact Or.inl (Or.inl e)
   .exact Or.inr e
  .exact Or.inl (Or.inr e)
theorem uu.count(h:uu w D E S cX n cU Q R O v T FB EB SB RB every de sv y z)(j:Int)(l:j=((sv+1:Nat):Int)): uu (w.setCell ⟨RB,1,none⟩ (Z Y j)) D E S cX n cU Q R O v T FB EB SB RB every de (sv+1) y z/\fy w (OR O S v RB) (w.setCell ⟨RB,1,none⟩ (Z Y j)) (OR O S v RB):=by
 have b:Kept w (w.setCell ⟨RB,1,none⟩ (Z Y j)) (λk=>k≠RB):=(Kept.refl w _).setCell (λb=>b rfl) _;have u:=cA w RB 1 _ _ (Z Y j) h.rb;have r:∀k,OO O S v k->k≠RB:=λk m e=>iZ h.sf h.rb (by decide) (e ▸ m)
 refine⟨⟨⟨oO h.sf.two b (λk b=>r k (Or.inl b)),h.sf.sh.kept b (λk b=>r k (Or.inr b)),h.sf.apart,h.sf.pw.keep (b.block _ h.sf.pw.lt (λe=>h.rp e.symm)),h.sf.np⟩,?_,?_,?_,?_,h.rp⟩,⟨b.mono λk _ b e=>b (Or.inr e),λk b=>Or.inl b⟩⟩
 .exact(b.block _ (cS h.fb) (cY h.fb h.rb (by decide))).trans h.fb
 .exact(b.block _ (cS h.eb) (cY h.eb h.rb (by decide))).trans h.eb
 .exact(b.block _ (cS h.sb) (cY h.sb h.rb (by decide))).trans h.sb
 .rw[u,l];rfl
theorem GD(D E S cX n cU:Nat)(Q R:Rk)(O:Nat->Prop)(v:TK)(T:Sn.Tb)(FB EB SB RB every de sv:Nat)(y z:TK)(step:Nat)(p:Option Addr)(cap:Nat)(all:Int)(w:TJ)(h:uu w D E S cX n cU Q R O v T FB EB SB RB every de sv y z)(he:0<every)(u:every<=50)(G:step<=9999999999)(H:de<=9999999999)(l:¬(de<step/\step%every=0)):TL prog 52 #[.agg #[Z Y (step:Int),.slice p n cap,Z Y all],.pointer (some ⟨FB,0,none⟩),.pointer (some ⟨EB,0,none⟩),.pointer (some ⟨SB,0,none⟩),.pointer (some ⟨RB,0,none⟩)] w λe A=>e=.returned (.tuple #[])/\TI w A:=by
 have I:w.cell? ⟨FB,0,none⟩=some (Z Y (de:Int)):=by rw[cn w _ 0 _ _ _ h.fb];rfl
 have B:w.cell? ⟨EB,0,none⟩=some (Z Y (every:Int)):=by rw[cn w _ 0 _ _ _ h.eb];rfl
 have C:=cS h.fb;have F:=cS h.eb;have r:Hid (∀o,TI w (w.alloc o)):=λo=>(cj _ w).alloc TG o
 clear h;by_cases m:de<step
 .have b:(de:Int)<(step:Int):=by omega
  have j:¬step%every=0:=λe=>l ⟨m,e⟩
  have J:((step:Int)%(every:Int) == 0)=false:=cC.2 λe=>j (by
   have K:((step%every:Nat):Int)=0:=by rw[Int.natCast_emod];exact e
   omega)
  go_enter func52,ntmps52;go_wp2;exact cw (cu rfl _ _ _) rfl ⟨rfl,cO r _⟩
 .have b:¬(de:Int)<(step:Int):=by omega
  go_enter func52,ntmps52;go_wp2;exact cw (cu rfl _ _ _) rfl ⟨rfl,cO r _⟩
theorem EO{k:Nat}{x:Sn.Ce}(h:∀y∈T,y.1<k): Sn.dw T k=false/\Sn.gI T k x=T++[(k,x)]:=by
 have b:Sn.dw T k=false:=by
  cases j:Sn.dw T k with
  |false=>rfl
  |true=>obtain⟨e,l⟩:=Sn.iQ.1 j;exact absurd (h _ l) (by simp)
 refine⟨b,?_⟩;have m:Sn.dm T k=T.length:=by
  unfold Sn.dm;rw[List.filter_eq_self.2 (λy r=>by simpa [Sn.lt] using h y r)]
 unfold Sn.gI;rw[m,wI,List.drop_length]
def tO(Q:Rk)(c:Sp.Cfg)(n step cX:Nat)(K:List Nat)(cU sv:Nat):Int × Nat × Rk:=if (eg Q (eK c n step cX)).1≠0 then ((eg Q (eK c n step cX)).1,sv,(eg Q (eK c n step cX)).2)
 else ((eg (eg Q (eK c n step cX)).2 (fE ((K++[step]).take (K.length+1-cU)))).1,sv+1,(eg (eg Q (eK c n step cX)).2 (fE ((K++[step]).take (K.length+1-cU)))).2)
def DE(w:TJ)(D E S cX n cU:Nat)(R:Rk)(O:Nat->Prop)(v:TK)(K:List Nat)(step:Nat)(FB EB SB RB every de:Nat)(y z:TK)(r:Int × Nat × Rk)(e:Ending)(w':TJ):Prop:=(r.1=0->e=.returned (.tuple #[]))/\(r.1≠0->e=.panicked (gD r.1))/\∃b j l,(r.1=0->l.map (·.1)=(K++[step]).drop (K.length+1-cU))/\uu w' D E S cX n cU r.2.2 R b j l FB EB SB RB every de r.2.1 y z/\fy w (OR O S v RB) w' (OR b S j RB)
theorem Im(D E S cX n cU nn b:Nat)(Q R:Rk)(O:Nat->Prop)(v:TK)(T:Sn.Tb)(FB EB SB RB every de sv:Nat)(y z:TK)(step:Nat)(p:Option Addr)(cap:Nat)(c:Sp.Cfg)(w:TJ)(h:uu w D E S cX n cU Q R O v T FB EB SB RB every de sv y z)(he:0<every)(aC:every<=50)(hs:step<=9999999999)(hf:de<step)(q:step%every=0)(hv:kl w p c n)(hn:n<=64)(aq:0<n)(hj:cX<4294967296)(hT:∀x∈T,x.1<step)(t:Sm Q nn b)(s:nn+8<=1000000000)(ar:1000<=b)(hb:b<=2097152)(au:T.length<1000000000)(hm:cU<=1000000000)(aD:sv<=1000000000):TL prog 52 #[.agg #[Z Y (step:Int),.slice p n cap,Z Y c.all],.pointer (some ⟨FB,0,none⟩),.pointer (some ⟨EB,0,none⟩),.pointer (some ⟨SB,0,none⟩),.pointer (some ⟨RB,0,none⟩)] w (DE w D E S cX n cU R O v (T.map (·.1)) step FB EB SB RB every de y z (tO Q c n step cX (T.map (·.1)) cU sv)):=by
 generalize N:DE w D E S cX n cU R O v (T.map (·.1)) step FB EB SB RB every de y z (tO Q c n step cX (T.map (·.1)) cU sv)=P;replace N:=cP N;obtain⟨g,aa⟩:=EO (x:=⟨p,n,cap,c.all⟩) hT;have l:=gz.save c n step cX t hn ar;have ab:Hid (∀W,W=w.alloc (.cells #[Z Y (step:Int),.slice p n cap,Z Y c.all] 80)->W.heap[w.heap.size]?=some (.cells #[Z Y (step:Int),.slice p n cap,Z Y c.all] 80 (0,0))/\TI w W):=by
  show ∀W,_
  rintro W rfl;exact⟨ct w _,(cj _ w).alloc TG _⟩
 have f0:w.cell? ⟨FB,0,none⟩=some (Z Y (de:Int)):=by rw[cn w _ 0 _ _ _ h.fb];rfl
 have av:w.cell? ⟨EB,0,none⟩=some (Z Y (every:Int)):=by rw[cn w _ 0 _ _ _ h.eb];rfl
 have s0:w.cell? ⟨SB,0,none⟩=some (.pointer (some ⟨S,0,none⟩)):=by rw[cn w _ 0 _ _ _ h.sb];rfl
 have aE:=cS h.fb;have aF:=cS h.eb;have aG:=cS h.sb;have I:Hid (∀W,TI w W->TL prog 53 #[.pointer (some ⟨S,0,none⟩),.agg #[Z Y (step:Int),.slice p n cap,Z Y c.all]] W (mK W D E S cX n cU R O v (λT'=>T'=T++[(step,⟨p,n,cap,c.all⟩)]) (eg Q (eK c n step cX)))):=λW hW=>by
  have:=GO D E S cX n cU (nn+8) b step Q R O v T p cap c W (h.sf.below hW) (hv.below hW) hn aq hj hs l s hb au;rw[g,cd (by decide),aa] at this;exact this
 have H:=cP h;have aw:=cP l;have HT:Hid (∀x∈T++[(step,(⟨p,n,cap,c.all⟩:Sn.Ce))],x.1<=9999999999):=λx hx=>by
  rcases cJ.1 hx with e|e
  .have:=hT x e;omega
  .rw[eh.1 e];exact hs
 have aB:(de:Int)<(step:Int):=by omega
 have hq:((step:Int)%(every:Int) == 0)=true:=by rw[<-Int.natCast_emod,q];rfl
 clear h hv l g aa t hT;obtain⟨r1,J⟩:∃r,Hid (eg Q (eK c n step cX)=r):=⟨_,rfl⟩
 rw[cO J] at I;unfold tO at N;rw[cO J] at N;go_enter func52,ntmps52;go_wp2_with fail;generalize hW:World.alloc _ _=W0;obtain⟨ax,u⟩:=cO ab W0 hW.symm;clear hW ab;have ad:=cP ((cO H).below u);have A:Hid (fy w (OR O S v RB) W0 (OR O S v RB)):=fy.below _ u;refine(cO I W0 u).mono ?_;rintro e U ⟨V,X,O1,v1,T1,hG,ae,af⟩;obtain⟨ag,B⟩:=(cO ad).next ae af
 have j:=cP ag;have m:=cP ((cO A).trans B);clear ag B ae af I ax u ad A H f0 av s0;by_cases K:r1.1=0
 .obtain rfl:=V K;have ay:T1=T++[(step,⟨p,n,cap,c.all⟩)]:=hG K;subst ay;have az:Hid (Sm r1.2 (nn+8) b):=by rw[<-cO J];exact(cO aw).all
  have aH:U.cell? ⟨RB,1,none⟩=some (Z Y (sv:Int)):=by rw[cn U _ 1 _ _ _ (cO j).rb];rfl
  have aI:U.frozen? ⟨RB,1,none⟩=false:=by simp[World.frozen?,(cO j).rb]
  have s1:U.cell? ⟨SB,0,none⟩=some (.pointer (some ⟨S,0,none⟩)):=by rw[cn U _ 0 _ _ _ (cO j).sb];rfl
  have aJ:SB≠RB:=cY (cO j).sb (cO j).rb (by decide);obtain⟨ah,C⟩:=(cO j).count ((sv:Int)+1) (by omega);have L:=cP ah;have F:=cP ((cO m).trans C);clear ah C j m V X hG;go_wp2_with fail;generalize World.setCell _ _ _=w2 at L F ⊢;have aA:(T++[(step,(⟨p,n,cap,c.all⟩:Sn.Ce))]).length=(T.map (·.1)).length+1:=by simp
  have ai:(T++[(step,(⟨p,n,cap,c.all⟩:Sn.Ce))]).map (·.1)=T.map (·.1)++[step]:=by simp
  have M:=JM D E S cX n cU (nn+8) b r1.2 R O1 v1 (T++[(step,⟨p,n,cap,c.all⟩)]) w2 (cO L).sf (cO HT) (gz.tt (λo ho=>(ux _ o ho).1) (cO az)) s hm;rw[ai,aA] at M;refine M.mono ?_;rintro e w3 ⟨V,X,O3,v3,T3,hG,aj,ak⟩;obtain⟨an,G⟩:=(cO L).next aj ak
  have HF:Hid (P e w3):=by
   show P _ _
   rw[<-cO N,cd (by rw[K];simp)];refine⟨V,X,O3,v3,T3,λh=>?_,an,(cO F).trans G⟩;rw[hG h,List.map_drop,ai]
  by_cases ao:(eg r1.2 (fE ((T.map (·.1)++[step]).take ((T.map (·.1)).length+1-cU)))).1=0
  .obtain rfl:=V ao;clear M hG aj ak an G V X;go_wp2;exact cw (cu rfl _ _ _) rfl (cO HF)
  .obtain rfl:=X ao;exact⟨rfl,cO HF⟩
 .obtain rfl:=X K;have HF:Hid (P (.panicked (gD r1.1)) U):=by
   show P _ _
   rw[<-cO N,cg K];exact⟨λh=>absurd h K,λ_=>rfl,O1,v1,T1,λh=>absurd h K,cO j,cO m⟩
  exact⟨rfl,cO HF⟩
end Ru
namespace Ru
open Go.RowKit
open Sp (Pg Ed Cfg nK quiet lK fh gu eT iN)
open Rd (Rk e0)
open Pk (jo Sm fy TP cZ cS cY)
open Dk (Kept)
variable {n cX every de s sv cap:Nat}{P:Pg}{Es:List Ed}{c:Cfg}{out:Out}{Q:Rk}
theorem GH{keep g:Nat}{K:List Nat}(h:rz P Es cap every keep cX n de (g+1) s c K sv Q=out){e:Int}(he:gu cap c s=e)(l:e≠0):((out.res.outcome:Int)=e/\(out.res.step:Int)=(s:Int)/\(out.res.dC:Int)=0/\out.res.dH=c.val)/\out.saved=sv/\out.e=0/\out.R=Q:=by
 rw[rz] at h;unfold gu at he;by_cases b:quiet c s=true
 .rw[cg b] at h he;rw[<-h,<-he];exact⟨⟨rfl,rfl,rfl,rfl⟩,rfl,rfl,rfl⟩
 .rw[cd b] at h he;by_cases j:cap<=s
  .rw[cg j] at h he;rw[<-h,<-he];exact⟨⟨rfl,rfl,rfl,rfl⟩,rfl,rfl,rfl⟩
  .rw[cd j] at he;exact absurd he.symm l
def NM(P:Pg)(Es:List Ed)(cap every keep cX n de g s sv:Nat)(c:Cfg)(K:List Nat)(Q:Rk)(o:Except Nat Sp.Acc)(out:Out):Prop:=match o with
 |.error i=>out=⟨⟨3,s,i,c.val⟩,sv,0,Q⟩
 |.ok a=>rz P Es cap every keep cX n de g (s+1) (fh P n a) K sv Q=out
theorem Ey{keep g:Nat}{K:List Nat}(h:rz P Es cap every keep cX n de (g+1) s c K sv Q=out)(he:gu cap c s=0):s<cap/\(¬(de<s/\s%every=0)->NM P Es cap every keep cX n de g s sv c K Q (lK P Es c s n) out)/\
  ((de<s/\s%every=0)->((tO Q c n s cX K keep sv).1≠0->out=⟨fU,(tO Q c n s cX K keep sv).2.1,(tO Q c n s cX K keep sv).1,(tO Q c n s cX K keep sv).2.2⟩)/\
     ((tO Q c n s cX K keep sv).1=0->NM P Es cap every keep cX n de g s (tO Q c n s cX K keep sv).2.1 c ((K++[s]).drop (K.length+1-keep)) (tO Q c n s cX K keep sv).2.2 (lK P Es c s n) out)):=by
 rw[rz] at h;unfold gu at he;by_cases m:quiet c s=true
 .rw[cg m] at he;exact absurd he (by decide)
 .rw[cd m] at h he;by_cases r:cap<=s
  .rw[cg r] at he;exact absurd he (by decide)
  .rw[cd r] at h;refine⟨by omega,λhd=>?_,λhd=>?_⟩
   .rw[cd hd] at h;unfold NM;cases b:lK P Es c s n with
    |error i=>rw[b] at h;exact h.symm
    |ok a=>rw[b] at h;exact h
   .rw[cg hd] at h;unfold tO;by_cases l:(eg Q (eK c n s cX)).1≠0
    .rw[cg l] at h ⊢;exact⟨λ_=>h.symm,λe=>absurd e l⟩
    .rw[cd l] at h ⊢;by_cases j:(eg (eg Q (eK c n s cX)).2 (fE ((K++[s]).take (K.length+1-keep)))).1≠0
     .rw[cg j] at h;exact⟨λ_=>h.symm,λe=>absurd e j⟩
     .rw[cd j] at h;refine⟨λe=>absurd e j,λ_=>?_⟩;unfold NM;cases b:lK P Es c s n with
      |error i=>rw[b] at h;exact h.symm
      |ok a=>rw[b] at h;exact h
variable {w:TJ}{v:TK}{O:Nat->Prop}{T:Sn.Tb}
theorem uu.not{D E S cU:Nat}{R:Rk}{FB j l RB:Nat}{y z:TK}(h:uu w D E S cX n cU Q R O v T FB j l RB every de sv y z){k:Nat}{c:Array TK}{t:TypeId}(b:w.heap[k]?=some (.cells c t (0,0)))(ht:(t∉jd/\t≠113/\t≠181)/\t≠43): ¬OR O S v RB k:=λm=>by
 rcases m with e|e
 .exact iZ h.sf b ht.1 e
 .subst e;exact cY b h.rb ht.2 rfl
theorem uu.set{D E S cU:Nat}{R:Rk}{FB l m RB:Nat}{y z:TK}(h:uu w D E S cX n cU Q R O v T FB l m RB every de sv y z){K:Nat}(A:¬OO O S v K)(j:K≠FB/\K≠l/\K≠m/\K≠RB/\K≠6)(i:Nat)(x:TK): uu (w.setCell ⟨K,i,none⟩ x) D E S cX n cU Q R O v T FB l m RB every de sv y z:=by
 have b:Kept w (w.setCell ⟨K,i,none⟩ x) (λk=>k≠K):=(Kept.refl w _).setCell (λb=>b rfl) _;have u:∀k,OO O S v k->k≠K:=λk r e=>A (e ▸ r)
 exact⟨⟨oO h.sf.two b (λk b=>u k (Or.inl b)),h.sf.sh.kept b (λk b=>u k (Or.inr b)),h.sf.apart,h.sf.pw.keep (b.block _ h.sf.pw.lt (λe=>j.2.2.2.2 e.symm)),h.sf.np⟩,(b.block _ (cS h.fb) (λe=>j.1 e.symm)).trans h.fb,(b.block _ (cS h.eb) (λe=>j.2.1 e.symm)).trans h.eb,(b.block _ (cS h.sb) (λe=>j.2.2.1 e.symm)).trans h.sb,(b.block _ (cS h.rb) (λe=>j.2.2.2.1 e.symm)).trans h.rb,h.rp⟩
structure Rc where
 (D E S cX n cU FB EB SB RB every de:Nat)
 (R:Rk)
 (y z:TK)
abbrev Rc.I(r:Rc)(w:TJ)(Q:Rk)(O:Nat->Prop)(v:TK)(T:Sn.Tb)(sv:Nat):Prop:=uu w r.D r.E r.S r.cX r.n r.cU Q r.R O v T r.FB r.EB r.SB r.RB r.every r.de sv r.y r.z
structure ET (r:Rc) (w:TJ) (O0:Nat->Prop) (v0:TK) (nn b:Nat) (P:Pg) (Es:List Ed) (cT:Nat) (out:Out) (jc:Array TK) (wr:TJ) (s:Nat) (c:Cfg) (p:Option Addr) (cap:Nat) (Q:Rk) (O:Nat->Prop) (v:TK) (T:Sn.Tb) (sv:Nat):Prop where
 jb:wr.heap[w.heap.size]?=some (.cells jc 75 (0,0))
 cb:wr.heap[w.heap.size+1]?=some (.cells #[Z Y (s:Int),.slice p r.n cap,Z Y c.all] 80 (0,0))
 ob:wr.heap[w.heap.size+1+1]?=some (.cells #[Z .u8 0,Z Y 0,Z Y 0,.slice none 0 0] 32 (0,0))
 row:wr.ownsRow 0 104 4 (.slice p r.n cap) r.n (jm c.val c.fC c.iK c.je r.n)
 ok:eT r.n c
 rs:r.I wr Q O v T sv
 st:fy w (OR O0 r.S v0 r.RB) wr (OR O r.S v r.RB)
 go:rz P Es cT r.every r.cU r.cX r.n r.de ((cT-s)+1) s c (T.map (·.1)) sv Q=out
 sm:Sm Q (nn+8*sv) b
 MB:sv+r.de<=s
 key:∀x∈T,x.1<=r.de\/x.1<s
 len:T.length<=r.cU
 lt:r.FB<w.heap.size/\r.EB<w.heap.size/\r.SB<w.heap.size/\r.RB<w.heap.size/\6<w.heap.size
theorem ET.below{r:Rc}{O0:Nat->Prop}{v0:TK}{nn b:Nat}{cT:Nat}{jc:Array TK}{wr w':TJ}{p:Option Addr}(h:ET r w O0 v0 nn b P Es cT out jc wr s c p cap Q O v T sv)(hb:TI wr w'): ET r w O0 v0 nn b P Es cT out jc w' s c p cap Q O v T sv:=⟨(hb.block _ (cS h.jb)).trans h.jb,(hb.block _ (cS h.cb)).trans h.cb,(hb.block _ (cS h.ob)).trans h.ob,cW h.row hb,h.ok,h.rs.below hb,h.st.trans (fy.below _ hb),h.go,h.sm,h.MB,h.key,h.len,h.lt⟩
end Ru
namespace Ru
open Go.RowKit
open Sp (Pg Ed Cfg nK quiet lK fh gu eT iN)
open Rd (Rk e0)
open Pk (jo Sm fy TP cZ cS cY)
open Dk (Kept)
structure L0 (r:Rc) (w:TJ) (O0:Nat->Prop) (v0:TK) (nn b:Nat) (P:Pg) (Es:List Ed) (cT:Nat) (out:Out) (jc:Array TK) (wr:TJ) (s:Nat) (c:Cfg) (p:Option Addr) (cap:Nat) (Q:Rk) (O:Nat->Prop) (v:TK) (T:Sn.Tb) (sv:Nat):Prop where
 jb:wr.heap[w.heap.size]?=some (.cells jc 75 (0,0))
 cb:wr.heap[w.heap.size+1]?=some (.cells #[Z Y (s:Int),.slice p r.n cap,Z Y c.all] 80 (0,0))
 ob:wr.heap[w.heap.size+1+1]?=some (.cells #[Z .u8 0,Z Y 0,Z Y 0,.slice none 0 0] 32 (0,0))
 row:wr.ownsRow 0 104 4 (.slice p r.n cap) r.n (jm c.val c.fC c.iK c.je r.n)
 ok:eT r.n c
 rs:r.I wr Q O v T sv
 st:fy w (OR O0 r.S v0 r.RB) wr (OR O r.S v r.RB)
 go:NM P Es cT r.every r.cU r.cX r.n r.de (cT-s) s sv c (T.map (·.1)) Q (lK P Es c s r.n) out
 sm:Sm Q (nn+8*sv) b
 MB:sv+r.de<=s+1
 key:∀x∈T,x.1<=r.de\/x.1<s+1
 len:T.length<=r.cU
 lt:r.FB<w.heap.size/\r.EB<w.heap.size/\r.SB<w.heap.size/\r.RB<w.heap.size/\6<w.heap.size
section
variable {r : Rc} {w : World} {O0 O : Nat → Prop} {v0 v : Value} {nn b : Nat} {P : Pg} {Es : List Ed} {cT s cap sv : Nat} {out : Out} {jc : Array Value} {wr w' : World} {c : Cfg} {p : Option Addr} {Q : Rk} {T : Sn.Tb}
theorem L0.below(h:L0 r w O0 v0 nn b P Es cT out jc wr s c p cap Q O v T sv)(hb:TI wr w'):L0 r w O0 v0 nn b P Es cT out jc w' s c p cap Q O v T sv:=⟨(hb.block _ (cS h.jb)).trans h.jb,(hb.block _ (cS h.cb)).trans h.cb,(hb.block _ (cS h.ob)).trans h.ob,cW h.row hb,h.ok,h.rs.below hb,h.st.trans (fy.below _ hb),h.go,h.sm,h.MB,h.key,h.len,h.lt⟩
theorem ET.OA(h:ET r w O0 v0 nn b P Es cT out jc wr s c p cap Q O v T sv)(he:gu cT c s=0)(hd:¬(r.de<s/\s%r.every=0)):L0 r w O0 v0 nn b P Es cT out jc wr s c p cap Q O v T sv:=⟨h.jb,h.cb,h.ob,h.row,h.ok,h.rs,h.st,(Ey h.go he).2.1 hd,h.sm,by have:=h.MB;omega,λx j=>by rcases h.key x j with e | e <;> omega,h.len,h.lt⟩
theorem ET.due{B:Nat->Prop}{v':TK}{A:Sn.Tb}(h:ET r w O0 v0 nn b P Es cT out jc wr s c p cap Q O v T sv)(he:gu cT c s=0)(hd:r.de<s/\s%r.every=0)(m:(tO Q c r.n s r.cX (T.map (·.1)) r.cU sv).1=0)(C:A.map (·.1)=(T.map (·.1)++[s]).drop ((T.map (·.1)).length+1-r.cU))(H:r.I w' (tO Q c r.n s r.cX (T.map (·.1)) r.cU sv).2.2 B v' A (tO Q c r.n s r.cX (T.map (·.1)) r.cU sv).2.1)(u:fy wr (OR O r.S v r.RB) w' (OR B r.S v' r.RB))(J:r.n<=64)(hb:1000<=b):L0 r w O0 v0 nn b P Es cT out jc w' s c p cap (tO Q c r.n s r.cX (T.map (·.1)) r.cU sv).2.2 B v' A (tO Q c r.n s r.cX (T.map (·.1)) r.cU sv).2.1:=by
 have D:=((Ey h.go he).2.2 hd).2 m;have z:(tO Q c r.n s r.cX (T.map (·.1)) r.cU sv).2.1=sv+1:=by
  unfold tO at m ⊢;split at m
  .rename_i l;exact absurd m l
  .rename_i l;rw[cd l]
 have E:Sm (tO Q c r.n s r.cX (T.map (·.1)) r.cU sv).2.2 (nn+8*(sv+1)) b:=by
  have K:=gz.save c r.n s r.cX h.sm J hb;unfold tO at m ⊢;split at m
  .rename_i l;exact absurd m l
  .rename_i l;rw[cd l];exact(gz.tt (λo L=>(ux _ o L).1) (K.all.mono (by omega) TG)).all
 have j:∀{k:Nat} {c:Array TK} {t:TypeId},wr.heap[k]?=some (.cells c t (0,0))->((t∉jd/\t≠113/\t≠181)/\t≠43)->w'.heap[k]?=some (.cells c t (0,0)):=λ{k c t} F M=>(u.far (cS F) (h.rs.not F M)).1.trans F
 refine⟨j h.jb (by decide),j h.cb (by decide),j h.ob (by decide),?_,h.ok,H,h.st.trans u,by rw[C];exact D,by rw[z];exact E,by rw[z];have:=h.MB;omega,λx N=>?_,?_,h.lt⟩
 .refine Dk.du h.row u.kept (λg R U=>?_);obtain⟨V,l,_⟩:=cZ h.row R;exact h.rs.not l (by decide) U
 .have G:x.1∈A.map (·.1):=xD.2 ⟨x,N,rfl⟩;rw[C] at G;rcases cJ.1 (Ep G) with e|e
  .obtain⟨y,W,e⟩:=xD.1 e;have:=h.key y W;omega
  .have:=eh.1 e;omega
 .have:=congrArg List.length C;rw[rY,uT,lN,rY] at this;simp only[cD,Bb] at this;have:=h.len;omega
theorem L0.next{a:Sp.Acc}{q:Option Addr}{k B:Nat}(o:Obj)(h:L0 r w O0 v0 nn b P Es cT out jc wr s c p cap Q O v T sv)(H:lK P Es c s r.n=.ok a)(W:s<cT)(I:eT r.n (fh P r.n a))(m:wr.ownsRow B 104 4 (.slice q r.n k) r.n (jm (fh P r.n a).val (fh P r.n a).fC (fh P r.n a).iK (fh P r.n a).je r.n)):ET r w O0 v0 nn b P Es cT out jc ((fL wr (w.heap.size+1) (Z Y ((s:Int)+1)) (.slice q r.n k) (Z Y a.all)).alloc o) (s+1) (fh P r.n a) q k Q O v T sv:=by
 have A:rz P Es cT r.every r.cU r.cX r.n r.de (cT-s) (s+1) (fh P r.n a) (T.map (·.1)) sv Q=out:=by
  have:=h.go;rw[H] at this;exact this
 have C:w.heap.size+1≠r.FB/\w.heap.size+1≠r.EB/\w.heap.size+1≠r.SB/\w.heap.size+1≠r.RB/\w.heap.size+1≠6:=by have:=h.lt;omega
 have D:¬OO O r.S v (w.heap.size+1):=iZ h.rs.sf h.cb (by decide);have J:=(((h.rs.set D C 0 (Z Y ((s:Int)+1))).set D C 1 (.slice q r.n k)).set D C 2 (Z Y a.all))
 have E:∀j,j≠w.heap.size+1->(fL wr (w.heap.size+1) (Z Y ((s:Int)+1)) (.slice q r.n k) (Z Y a.all)).heap[j]?=wr.heap[j]?:=λj u=>by
  unfold fL;rw[cG _ _ _ j u,cG _ _ _ j u,cG _ _ _ j u]
 have K:(fL wr (w.heap.size+1) (Z Y ((s:Int)+1)) (.slice q r.n k) (Z Y a.all)).heap.size=wr.heap.size:=by unfold fL;simp
 have L:Below (fL wr (w.heap.size+1) (Z Y ((s:Int)+1)) (.slice q r.n k) (Z Y a.all)).heap.size (fL wr (w.heap.size+1) (Z Y ((s:Int)+1)) (.slice q r.n k) (Z Y a.all)) ((fL wr (w.heap.size+1) (Z Y ((s:Int)+1)) (.slice q r.n k) (Z Y a.all)).alloc o):=TH.alloc TG _;have y:(fL wr (w.heap.size+1) (Z Y ((s:Int)+1)) (.slice q r.n k) (Z Y a.all)).heap[w.heap.size+1]?=some (.cells #[Z Y ((s:Int)+1),.slice q r.n k,Z Y a.all] 80 (0,0)):=by
  have M:=eJ (i:=2) (eJ (i:=1) (eJ (i:=0) h.cb (Z Y ((s:Int)+1))) (.slice q r.n k)) (Z Y a.all);unfold fL;simpa using M
 have l:Kept wr (fL wr (w.heap.size+1) (Z Y ((s:Int)+1)) (.slice q r.n k) (Z Y a.all)) (λj=>j≠w.heap.size+1):=(((Kept.refl wr _).setCell (λz=>z rfl) _).setCell (λz=>z rfl) _).setCell (λz=>z rfl) _;have F:fy w (OR O0 r.S v0 r.RB) (fL wr (w.heap.size+1) (Z Y ((s:Int)+1)) (.slice q r.n k) (Z Y a.all)) (OR O r.S v r.RB):=by
  refine⟨⟨l.os.trans h.st.kept.os,l.tape.trans h.st.kept.tape,l.output.trans h.st.kept.output,cx h.st.kept.size l.size,λj u N=>?_⟩,h.st.own⟩;rw[E j (by omega)];exact h.st.kept.block j u N
 have G:ET r w O0 v0 nn b P Es cT out jc (fL wr (w.heap.size+1) (Z Y ((s:Int)+1)) (.slice q r.n k) (Z Y a.all)) (s+1) (fh P r.n a) q k Q O v T sv:=by
  refine⟨(E _ (by omega)).trans h.jb,?_,(E _ (by omega)).trans h.ob,?_,I,J,F,?_,h.sm,by have:=h.MB;omega,h.key,h.len,h.lt⟩
  .rw[y];rfl
  .refine Dk.du (Dk.rL m) l (λg R e=>?_);obtain⟨U,V,_⟩:=cZ m R;exact cY V h.cb (by decide) e
  .rw[show cT-(s+1)+1=cT-s by omega];exact A
 exact G.below L
end
def CA(r:Rc)(O0:Nat->Prop)(v0:TK)(out:Out)(w:TJ)(e:Ending)(w':TJ):Prop:=(out.e=0->∃sl,e=.returned (.agg #[Z .u8 out.res.outcome,Z Y out.res.step,Z Y out.res.dC,sl])/\w'.ownsRow w.heap.size 2 1 sl out.res.dH.length (out.res.dH.map (Z Y)))/\(out.e≠0->e=.panicked (gD out.e))/\
 ∃j l m,r.I w' out.R j l m out.saved/\fy w (OR O0 r.S v0 r.RB) w' (OR j r.S l r.RB)
theorem B0{r:Rc}{O0 O:Nat->Prop}{v0 v:TK}{out:Out}{w y:TJ}{T:Sn.Tb}{o s i:Int}{V:List Int}{p:Option Addr}{n k B:Nat}(H:(out.res.outcome:Int)=o/\(out.res.step:Int)=s/\(out.res.dC:Int)=i/\out.res.dH=V/\V.length=n)(he:out.e=0)(G:r.I y out.R O v T out.saved)(l:fy w (OR O0 r.S v0 r.RB) y (OR O r.S v r.RB))(E:y.heap[w.heap.size+1+1]?=some (.cells #[Z .u8 0,Z Y 0,Z Y 0,.slice none 0 0] 32 (0,0)))(F:y.ownsRow B 2 1 (.slice p n k) n (V.map (Z Y)))(J:w.heap.size+1+1<B)(K:r.FB<w.heap.size/\r.EB<w.heap.size/\r.SB<w.heap.size/\r.RB<w.heap.size/\6<w.heap.size):CA r O0 v0 out w (.returned (.agg #[Z .u8 o,Z Y s,Z Y i,.slice p n k])) (j6 y (w.heap.size+1+1) (Z .u8 o) (Z Y s) (Z Y i) (.slice p n k)):=by
 obtain⟨L,M,N,U,X⟩:=H;have A:w.heap.size+1+1≠r.FB/\w.heap.size+1+1≠r.EB/\w.heap.size+1+1≠r.SB/\w.heap.size+1+1≠r.RB/\w.heap.size+1+1≠6:=by omega
 have C:¬OO O r.S v (w.heap.size+1+1):=iZ G.sf E (by decide);refine⟨λ_=>⟨.slice p n k,by rw[L,M,N],?_⟩,λh=>absurd he h,O,v,T,(((G.set C A 0 _).set C A 1 _).set C A 2 _).set C A 3 _,?_⟩
 .rw[U,X];have D:∀{W:TJ} (j:Nat) (u:TK),W.ownsRow B 2 1 (.slice p n k) n (V.map (Z Y))->(W.setCell ⟨w.heap.size+1+1,j,none⟩ u).ownsRow B 2 1 (.slice p n k) n (V.map (Z Y)):=λj u h=>cI h (a:=⟨w.heap.size+1+1,j,none⟩) J u
  exact fA (D 3 _ (D 2 _ (D 1 _ (D 0 _ F)))) (by omega)
 .have m:Kept y (j6 y (w.heap.size+1+1) (Z .u8 o) (Z Y s) (Z Y i) (.slice p n k)) (λj=>j≠w.heap.size+1+1):=((((Kept.refl y _).setCell (λz=>z rfl) _).setCell (λz=>z rfl) _).setCell (λz=>z rfl) _).setCell (λz=>z rfl) _;refine⟨⟨m.os.trans l.kept.os,m.tape.trans l.kept.tape,m.output.trans l.kept.output,cx l.kept.size m.size,λj x F=>?_⟩,l.own⟩;rw[m.block j (by have:=l.kept.size;omega) (by omega)];exact l.kept.block j x F
end Ru
namespace Ru
open Go.RowKit
open Sp (Pg Ed Cfg nK quiet lK fh gu eT iN)
open Rd (Rk e0)
open Pk (jo Sm fy TP cZ cS cY)
open Dk (Kept)
theorem MA(r:Rc)(B:Nat)(pf:Option Addr)(kf:Nat)(pe:Option Addr)(ke cT:Nat)(P:Pg)(Es:List Ed)(p:Option Addr)(cap:Nat)(c0:Cfg)(z f:Addr)(out:Out)(nn b:Nat)(Q:Rk)(O:Nat->Prop)(v:TK)(T:Sn.Tb)(w:TJ)(hI:r.I w Q O v T 0)(aE:∀W O' v',fy w (OR O r.S v r.RB) W (OR O' r.S v' r.RB)->jJ W B P/\kj W z f/\Gl W pe r.n Es)(aF:w.ownsRow 0 104 4 (.slice p r.n cap) r.n (jm c0.val c0.fC c0.iK c0.je r.n))(aM:eT r.n c0)(hj:iN P Es r.n)(hl:cT<=200)(aN:r.cX<4294967296)(aO:0<r.every)(aG:r.every<=50)(aP:r.de<=4294967295)(aQ:Sm Q nn b)(bC:nn+2000<=1000000000)(aR:1000<=b)(bu:b<=2097152)(hm:r.cU<=5)(hT:∀x∈T,x.1<=r.de)(aS:T.length<=r.cU)(aH:rz P Es cT r.every r.cU r.cX r.n r.de ((cT-r.de)+1) r.de c0 (T.map (·.1)) 0 Q=out):TL prog 25 #[.agg (dW B pf r.n kf pe ke cT),gw r.de p r.n cap c0.all,.func (.func 52) #[] #[.pointer (some ⟨r.FB,0,none⟩),.pointer (some ⟨r.EB,0,none⟩),.pointer (some ⟨r.SB,0,none⟩),.pointer (some ⟨r.RB,0,none⟩)]] w (CA r O v out w):=by
 generalize hO:CA r O v out w=PP;replace hO:=cP hO;have HJ:=cP hj;have aT:=cP aE;have U:=hj.FR;have aU:=cP (jy w (dW B pf r.n kf pe ke cT) #[Z Y (r.de:Int),.slice p r.n cap,Z Y c0.all] #[Z .u8 0,Z Y 0,Z Y 0,.slice none 0 0] 75 80 32);have aV:r.FB<w.heap.size/\r.EB<w.heap.size/\r.SB<w.heap.size/\r.RB<w.heap.size/\6<w.heap.size:=⟨cS hI.fb,cS hI.eb,cS hI.sb,cS hI.rb,hI.sf.pw.lt⟩
 have aW:Hid (∀W,TI w W->W.heap[w.heap.size]?=some (.cells (dW B pf r.n kf pe ke cT) 75 (0,0))->W.heap[w.heap.size+1]?=some (.cells #[Z Y (r.de:Int),.slice p r.n cap,Z Y c0.all] 80 (0,0))->W.heap[w.heap.size+1+1]?=some (.cells #[Z .u8 0,Z Y 0,Z Y 0,.slice none 0 0] 32 (0,0))->ET r w O v nn b P Es cT out (dW B pf r.n kf pe ke cT) W r.de c0 p cap Q O v T 0):=λW hb h1 h2 h3 =>
  ⟨h1,h2,h3,cW aF hb,aM,hI.below hb,fy.below _ hb,aH,aQ,by omega,λx hx=>Or.inl (hT x hx),aS,aV⟩
 have ak:Hid (∀(args:Array TK) (w:TJ),(callFunc 41 args).run prog w=.ok (.enter 41 args) w):=cV func41 (by kernel_rfl) (by kernel_rfl);clear hI aE aF aM hj aH aQ hT aS aV;unfold gw;unfold dW at *;go_enter func25,ntmps25;go_wp2_with fail;generalize hW:World.alloc (World.alloc _ _) _=W0;obtain⟨aX,aY,aZ,a1,bw⟩:=cO aU W0 hW.symm;have a6:=cP (cO aW W0 a1 aX aY aZ);clear hW aU aX aY aZ aW a1 bw
 go_loopw [7] (λ_ wr=>∃(s:Nat) (c:Cfg) (p:Option Addr) (cap:Nat) (Q:Rk) (O1:Nat->Prop) (v1:TK) (T:Sn.Tb) (sv:Nat),s<=4294967295/\Hid (ET r w O v nn b P Es cT out #[.pointer (some ⟨B,0,none⟩),.slice pf r.n kf,.slice pe r.n ke,Z Y (cT:Int)] wr s c p cap Q O1 v1 T sv)) (λ_ wr=>cT+1-sU (w.heap.size+1) wr)
 case atStart=>exact⟨r.de,c0,p,cap,Q,O,v,T,0,aP,a6⟩
 case round =>
  clear a6 aP;obtain⟨s,c,p,cap,Q,O1,v1,T,sv,hs,HI⟩:=hrel;have a7:=(cO HI).st.kept.size;obtain⟨j0,j1,j2,j3⟩:=fJ (B:=B) (pf:=pf) (n:=r.n) (kf:=kf) (pe:=pe) (ke:=ke) (cT:=cT) (cO HI).jb;obtain⟨k0,k1,k2,_⟩:=dL (cO HI).cb;have a8:Hid (sU (w.heap.size+1) wr=s):=by show _=_;rw[nC k0];rfl
  have C:kl wr p c r.n:=by
   obtain⟨p',V,e,hv⟩:=gS (all:=c.all) (cO HI).row;injection e with X _ e3;subst X;exact hv
  have aD:=cP (pending B pf r.n kf pe ke cT s p r.n cap c wr C (cO HI).ok.lv U hs hl);unfold gw dW at aD;have ba:=Aw cT c s;obtain⟨en,aj⟩:∃en,Hid (Sp.gu cT c s=en):=⟨_,rfl⟩
  rw[cO aj] at aD ba;clear C;go_wp2_with fail;refine(cO aD).mono ?_;rintro e w2 ⟨rfl,aI⟩;have l:=cP ((cO HI).below aI);have bx:w.heap.size+1+1<w2.heap.size:=cS (cO l).ob;clear j0 j1 j2 j3 k0 k1 k2 aD aI HI a7;obtain⟨k0,k1,k2,_⟩:=dL (cO l).cb;by_cases c1:en=0
  .subst c1;obtain⟨aJ,_,aK⟩:=Ey (cO l).go (cO aj);have bA:0<r.n:=by
    have h1:=cO aj;unfold Sp.gu at h1;have hq:¬Sp.quiet c s=true:=λhq=>by rw[cg hq] at h1;exact absurd h1 (by decide)
    rcases Nat.eq_zero_or_pos r.n with h0|h0
    .exact absurd (by unfold Sp.quiet;rw[(cO l).ok.lv,h0];rfl) hq
    .exact h0
   clear ba;by_cases hd:r.de<s/\s%r.every=0
   .have C:kl w2 p c r.n:=by
     obtain⟨p',V,e,hv⟩:=gS (all:=c.all) (cO l).row;injection e with X _ e3;subst X;exact hv
    have bB:=(cO l).MB;have an:=cP (Im r.D r.E r.S r.cX r.n r.cU (nn+8*sv) b Q r.R O1 v1 T r.FB r.EB r.SB r.RB r.every r.de sv r.y r.z s p cap c w2 (cO l).rs aO aG (by omega) hd.1 hd.2 C U bA aN (λx hx=>by rcases(cO l).key x hx with e | e <;> omega) (cO l).sm (by omega) aR bu (by have:=(cO l).len;omega) (by omega) (by omega));have bc:=cP (aK hd);clear C aK;go_wp2_with fail;refine(cO an).mono ?_;rintro e w3 ⟨q1,q2,O3,v3,T3,bd,aL,ao⟩;by_cases hz:(tO Q c r.n s r.cX (T.map (·.1)) r.cU sv).1=0
    .obtain rfl:=q1 hz;have N:=cP ((cO l).due (cO aj) hd hz (bd hz) aL ao U aR);obtain⟨Q3,aq⟩:∃q,Hid ((tO Q c r.n s r.cX (T.map (·.1)) r.cU sv).2.2=q):=⟨_,rfl⟩
     obtain⟨t,ar⟩:∃q,Hid ((tO Q c r.n s r.cX (T.map (·.1)) r.cU sv).2.1=q):=⟨_,rfl⟩
     rw[cO aq,cO ar] at N;clear q1 q2 bd aL ao an bc l k0 k1 k2 aq ar hz bB hd;obtain⟨j0,j1,j2,j3⟩:=fJ (B:=B) (pf:=pf) (n:=r.n) (kf:=kf) (pe:=pe) (ke:=ke) (cT:=cT) (cO N).jb;obtain⟨k0,k1,k2,_⟩:=dL (cO N).cb;have C:kl w3 p c r.n:=by
      obtain⟨p',V,e,hv⟩:=gS (all:=c.all) (cO N).row;injection e with X _ e3;subst X;exact hv
     obtain⟨dP,dE,dB⟩:=cO aT w3 O3 v3 (cO N).st;have G:=cP (Ja B pf r.n kf pe ke cT P Es p cap s c z f w3 dP dE dB C (cO N).ok (cO HJ) (by omega));unfold gw dW at G;obtain⟨o,g⟩:∃o,Hid (Sp.lK P Es c s r.n=o):=⟨_,rfl⟩
     rw[cO g] at G;clear C dP dE dB;go_wp2_with fail;cases o with
     |error i =>
      refine(cO G).mono ?_;rintro e w4 ⟨J,rfl⟩;have m:=cP ((cO N).below J);have ad:Hid (((out.res.outcome:Int)=3/\(out.res.step:Int)=(s:Int)/\(out.res.dC:Int)=(i:Int)/\out.res.dH=c.val/\c.val.length=r.n)/\out.saved=t/\out.e=0/\out.R=Q3):=by
       have h:out=⟨⟨3,s,i,c.val⟩,t,0,Q3⟩:=by have:=(cO m).go;rw[cO g] at this;exact this
       rw[h];exact⟨⟨rfl,rfl,rfl,rfl,(cO m).ok.lv⟩,rfl,rfl,rfl⟩
      clear j0 j1 j2 j3 k0 k1 k2 N J G;go_upto_region 7 with fail;generalize au:World.alloc _ _=w5;have av:TI w4 w5:=by rw[<-au];exact TH.alloc TG _
      have H:=cP ((cO m).below av);obtain⟨k0,k1,k2,_⟩:=dL (cO H).cb;have ae:w.heap.size+1+1<w5.heap.size:=cS (cO H).ob;have aw:w.heap.size+1<w5.heap.size:=by omega
      have ax:=cP (cO H).ob;have af:kl w5 p c r.n:=by
       obtain⟨p',V,e,hv⟩:=gS (all:=c.all) (cO H).row;injection e with X _ e3;subst X;exact hv
      have ag:Hid (∀W,TI w5 W->TL prog 41 #[.agg #[Z Y (s:Int),.slice p r.n cap,Z Y c.all]] W λe w'=>TI W w'/\∃v,e=.returned v/\w'.ownsRow w5.heap.size 2 1 v r.n (c.val.map (Z Y))):=by
       show ∀W,_
       intro W hW;refine(rG s p r.n cap c W (af.below hW) (cO H).ok.lv U).mono ?_;rintro e w' ⟨h1,v,h2,h3⟩;exact⟨h1,v,h2,fA h3 hW.size⟩
      clear au av af m
      go_region_law (refine di (by rfl) _ _ _ (by rfl) 41 (by rfl) _ (by rfl) (cO ak) (cO ag _ (by first|exact cj _ _|exact TH.drew)) ?_;rintro e u ⟨A,vv,rfl,K⟩;obtain⟨L,M,aa,_⟩:=dd K;subst aa;dsimp only;have F:TI w5 u:=(by first|exact A|exact TH.drew.trans (A.mono TG));have q0:u.cell? ⟨w.heap.size+1,0,none⟩=some (Z Y (s:Int)):=(F.cell (p:=⟨w.heap.size+1,0,none⟩) aw).trans k0;have j:=(F.block (w.heap.size+1+1) ae).trans (cO ax);have r0:u.cell? ⟨w.heap.size+1+1,0,none⟩=some (Z .u8 0):=(by simp[World.cell?,j]);have bg:u.frozen? ⟨w.heap.size+1+1,0,none⟩=false:=(by simp[World.frozen?,j]);have r1:u.cell? ⟨w.heap.size+1+1,1,none⟩=some (Z Y 0):=(by simp[World.cell?,j]);have bh:u.frozen? ⟨w.heap.size+1+1,1,none⟩=false:=(by simp[World.frozen?,j]);have r2:u.cell? ⟨w.heap.size+1+1,2,none⟩=some (Z Y 0):=(by simp[World.cell?,j]);have bj:u.frozen? ⟨w.heap.size+1+1,2,none⟩=false:=(by simp[World.frozen?,j]);have r3:u.cell? ⟨w.heap.size+1+1,3,none⟩=some (.slice none 0 0):=(by simp[World.cell?,j]);have bk:u.frozen? ⟨w.heap.size+1+1,3,none⟩=false:=(by simp[World.frozen?,j]);have ay:=cP F;have az:=cP K;clear F A K j)
      all_goals
       have aA:Hid (PP (.returned (.agg #[Z .u8 3,Z Y (s:Int),Z Y (i:Int),.slice L r.n M])) (j6 u (w.heap.size+1+1) (Z .u8 3) (Z Y (s:Int)) (Z Y (i:Int)) (.slice L r.n M))):=by
        show PP _ _
        rw[<-cO hO];obtain⟨q1,q2,q3,q4⟩:=cO ad;have hq:=(cO H).below (cO ay);have ah:=hq.rs;rw[<-q2,<-q4] at ah;exact B0 q1 q3 ah hq.st hq.ob (cO az) ae hq.lt
       first
        | (go_wp2;exact cr (v := .agg #[Z .u8 3,Z Y (s:Int),Z Y (i:Int),.slice L r.n M]) (by simp[results,results25,go_sem,r0,r1,r2,r3]) rfl (cO aA))
        |trace_state
     |ok a =>
      refine(cO G).mono ?_;rintro e w4 ⟨J,sl,rfl,ai⟩;obtain⟨pn,kn,aa,_⟩:=dd ai;subst aa;have m:=cP ((cO N).below J);have aB:Sp.eT r.n (Sp.fh P r.n a):=Sp.r8 (cO HJ) (Sp.sq (cO HJ) lP (cO m).ok (by omega) r.n TG a (cO g));have aC:Hid (∀o,ET r w O v nn b P Es cT out #[.pointer (some ⟨B,0,none⟩),.slice pf r.n kf,.slice pe r.n ke,Z Y (cT:Int)] ((fL w4 (w.heap.size+1) (Z Y ((s:Int)+1)) (.slice pn r.n kn) (Z Y a.all)).alloc o) (s+1) (Sp.fh P r.n a) pn kn Q3 O3 v3 T3 t):=λo=>L0.next o (cO m) (cO g) aJ aB ai
      clear j0 j1 j2 j3 k0 k1 k2;obtain⟨k0,k1,k2,ab⟩:=dL (cO m).cb;have f0:=ab 0;have f1:=ab 1;have f2:=ab 2;have bn:w.heap.size+1<w4.heap.size:=cS (cO m).cb;clear ai J N G m ab;go_wp2;go_roundw
      case rel=>exact⟨s+1,_,pn,kn,Q3,O3,v3,T3,t,by omega,cP (cO aC _)⟩
      case measure =>
       have h1:=cO a8;have h2:=nC (dL (cO aC (.cells #[Z Y ((s:Int)+1),.slice pn r.n kn,Z Y a.all] 80)).cb).1;unfold fL at h2;rw[h1,h2];omega
    .obtain rfl:=q2 hz;have HF:Hid (PP (.panicked (gD (tO Q c r.n s r.cX (T.map (·.1)) r.cU sv).1)) w3):=by
      show PP _ _
      rw[<-cO hO,(cO bc).1 hz];exact⟨λh=>absurd h hz,λ_=>rfl,O3,v3,T3,aL,(cO l).st.trans ao⟩
     exact⟨rfl,cO HF⟩
   .have an:=cP (GD r.D r.E r.S r.cX r.n r.cU Q r.R O1 v1 T r.FB r.EB r.SB r.RB r.every r.de sv r.y r.z s p cap c.all w2 (cO l).rs aO aG (by omega) (by have:=(cO l).MB;omega) hd);have bo:=cP ((cO l).OA (cO aj) hd);clear aK hd;go_wp2_with fail;refine(cO an).mono ?_;rintro e w3 ⟨rfl,bp⟩;have N:=cP ((cO bo).below bp);clear bo bp an l k0 k1 k2;obtain⟨Q3,aq⟩:∃q,Hid (Q=q):=⟨_,rfl⟩
    obtain⟨t,ar⟩:∃q,Hid (sv=q):=⟨_,rfl⟩
    obtain⟨O3,bq⟩:∃q,Hid (O1=q):=⟨_,rfl⟩
    obtain⟨v3,br⟩:∃q,Hid (v1=q):=⟨_,rfl⟩
    obtain⟨T3,bs⟩:∃q,Hid (T=q):=⟨_,rfl⟩
    rw[cO aq,cO ar,cO bq,cO br,cO bs] at N;clear aq ar bq br bs;obtain⟨j0,j1,j2,j3⟩:=fJ (B:=B) (pf:=pf) (n:=r.n) (kf:=kf) (pe:=pe) (ke:=ke) (cT:=cT) (cO N).jb;obtain⟨k0,k1,k2,_⟩:=dL (cO N).cb;have C:kl w3 p c r.n:=by
     obtain⟨p',V,e,hv⟩:=gS (all:=c.all) (cO N).row;injection e with X _ e3;subst X;exact hv
    obtain⟨dP,dE,dB⟩:=cO aT w3 O3 v3 (cO N).st;have G:=cP (Ja B pf r.n kf pe ke cT P Es p cap s c z f w3 dP dE dB C (cO N).ok (cO HJ) (by omega));unfold gw dW at G;obtain⟨o,g⟩:∃o,Hid (Sp.lK P Es c s r.n=o):=⟨_,rfl⟩
    rw[cO g] at G;clear C dP dE dB;go_wp2_with fail;cases o with
    |error i =>
     refine(cO G).mono ?_;rintro e w4 ⟨J,rfl⟩;have m:=cP ((cO N).below J);have ad:Hid (((out.res.outcome:Int)=3/\(out.res.step:Int)=(s:Int)/\(out.res.dC:Int)=(i:Int)/\out.res.dH=c.val/\c.val.length=r.n)/\out.saved=t/\out.e=0/\out.R=Q3):=by
      have h:out=⟨⟨3,s,i,c.val⟩,t,0,Q3⟩:=by have:=(cO m).go;rw[cO g] at this;exact this
      rw[h];exact⟨⟨rfl,rfl,rfl,rfl,(cO m).ok.lv⟩,rfl,rfl,rfl⟩
     clear j0 j1 j2 j3 k0 k1 k2 N J G;go_upto_region 7 with fail;generalize au:World.alloc _ _=w5;have av:TI w4 w5:=by rw[<-au];exact TH.alloc TG _
     have H:=cP ((cO m).below av);obtain⟨k0,k1,k2,_⟩:=dL (cO H).cb;have ae:w.heap.size+1+1<w5.heap.size:=cS (cO H).ob;have aw:w.heap.size+1<w5.heap.size:=by omega
     have ax:=cP (cO H).ob;have af:kl w5 p c r.n:=by
      obtain⟨p',V,e,hv⟩:=gS (all:=c.all) (cO H).row;injection e with X _ e3;subst X;exact hv
     have ag:Hid (∀W,TI w5 W->TL prog 41 #[.agg #[Z Y (s:Int),.slice p r.n cap,Z Y c.all]] W λe w'=>TI W w'/\∃v,e=.returned v/\w'.ownsRow w5.heap.size 2 1 v r.n (c.val.map (Z Y))):=by
      show ∀W,_
      intro W hW;refine(rG s p r.n cap c W (af.below hW) (cO H).ok.lv U).mono ?_;rintro e w' ⟨h1,v,h2,h3⟩;exact⟨h1,v,h2,fA h3 hW.size⟩
     clear au av af m
     go_region_law (refine di (by rfl) _ _ _ (by rfl) 41 (by rfl) _ (by rfl) (cO ak) (cO ag _ (by first|exact cj _ _|exact TH.drew)) ?_;rintro e u ⟨A,vv,rfl,K⟩;obtain⟨L,M,aa,_⟩:=dd K;subst aa;dsimp only;have F:TI w5 u:=(by first|exact A|exact TH.drew.trans (A.mono TG));have q0:u.cell? ⟨w.heap.size+1,0,none⟩=some (Z Y (s:Int)):=(F.cell (p:=⟨w.heap.size+1,0,none⟩) aw).trans k0;have j:=(F.block (w.heap.size+1+1) ae).trans (cO ax);have r0:u.cell? ⟨w.heap.size+1+1,0,none⟩=some (Z .u8 0):=(by simp[World.cell?,j]);have bg:u.frozen? ⟨w.heap.size+1+1,0,none⟩=false:=(by simp[World.frozen?,j]);have r1:u.cell? ⟨w.heap.size+1+1,1,none⟩=some (Z Y 0):=(by simp[World.cell?,j]);have bh:u.frozen? ⟨w.heap.size+1+1,1,none⟩=false:=(by simp[World.frozen?,j]);have r2:u.cell? ⟨w.heap.size+1+1,2,none⟩=some (Z Y 0):=(by simp[World.cell?,j]);have bj:u.frozen? ⟨w.heap.size+1+1,2,none⟩=false:=(by simp[World.frozen?,j]);have r3:u.cell? ⟨w.heap.size+1+1,3,none⟩=some (.slice none 0 0):=(by simp[World.cell?,j]);have bk:u.frozen? ⟨w.heap.size+1+1,3,none⟩=false:=(by simp[World.frozen?,j]);have ay:=cP F;have az:=cP K;clear F A K j)
     all_goals
      have aA:Hid (PP (.returned (.agg #[Z .u8 3,Z Y (s:Int),Z Y (i:Int),.slice L r.n M])) (j6 u (w.heap.size+1+1) (Z .u8 3) (Z Y (s:Int)) (Z Y (i:Int)) (.slice L r.n M))):=by
       show PP _ _
       rw[<-cO hO];obtain⟨q1,q2,q3,q4⟩:=cO ad;have hq:=(cO H).below (cO ay);have ah:=hq.rs;rw[<-q2,<-q4] at ah;exact B0 q1 q3 ah hq.st hq.ob (cO az) ae hq.lt
      first
       | (go_wp2;exact cr (v := .agg #[Z .u8 3,Z Y (s:Int),Z Y (i:Int),.slice L r.n M]) (by simp[results,results25,go_sem,r0,r1,r2,r3]) rfl (cO aA))
       |trace_state
    |ok a =>
     refine(cO G).mono ?_;rintro e w4 ⟨J,sl,rfl,ai⟩;obtain⟨pn,kn,aa,_⟩:=dd ai;subst aa;have m:=cP ((cO N).below J);have aB:Sp.eT r.n (Sp.fh P r.n a):=Sp.r8 (cO HJ) (Sp.sq (cO HJ) lP (cO m).ok (by omega) r.n TG a (cO g));have aC:Hid (∀o,ET r w O v nn b P Es cT out #[.pointer (some ⟨B,0,none⟩),.slice pf r.n kf,.slice pe r.n ke,Z Y (cT:Int)] ((fL w4 (w.heap.size+1) (Z Y ((s:Int)+1)) (.slice pn r.n kn) (Z Y a.all)).alloc o) (s+1) (Sp.fh P r.n a) pn kn Q3 O3 v3 T3 t):=λo=>L0.next o (cO m) (cO g) aJ aB ai
     clear j0 j1 j2 j3 k0 k1 k2;obtain⟨k0,k1,k2,ab⟩:=dL (cO m).cb;have f0:=ab 0;have f1:=ab 1;have f2:=ab 2;have bn:w.heap.size+1<w4.heap.size:=cS (cO m).cb;clear ai J N G m ab;go_wp2;go_roundw
     case rel=>exact⟨s+1,_,pn,kn,Q3,O3,v3,T3,t,by omega,cP (cO aC _)⟩
     case measure =>
      have h1:=cO a8;have h2:=nC (dL (cO aC (.cells #[Z Y ((s:Int)+1),.slice pn r.n kn,Z Y a.all] 80)).cb).1;unfold fL at h2;rw[h1,h2];omega
  .have bD:(en != 0)=true:=by rw[E8];exact c1
   obtain⟨X,e2,e3,e4⟩:=GH (cO l).go (cO aj) c1;have ad:Hid (((out.res.outcome:Int)=en/\(out.res.step:Int)=(s:Int)/\(out.res.dC:Int)=0/\out.res.dH=c.val/\c.val.length=r.n)/\out.saved=sv/\out.e=0/\out.R=Q):=⟨⟨X.1,X.2.1,X.2.2.1,X.2.2.2,(cO l).ok.lv⟩,e2,e3,e4⟩
   have C:kl w2 p c r.n:=by
    obtain⟨p',V,e,hv⟩:=gS (all:=c.all) (cO l).row;injection e with X _ e3;subst X;exact hv
   have ag:Hid (∀W,TI w2 W->TL prog 41 #[.agg #[Z Y (s:Int),.slice p r.n cap,Z Y c.all]] W λe w'=>TI W w'/\∃v,e=.returned v/\w'.ownsRow w2.heap.size 2 1 v r.n (c.val.map (Z Y))):=by
    show ∀W,_
    intro W hW;refine(rG s p r.n cap c W (C.below hW) (cO l).ok.lv U).mono ?_;rintro e w' ⟨h1,v,h2,h3⟩;exact⟨h1,v,h2,fA h3 hW.size⟩
   have aw:w.heap.size+1<w2.heap.size:=by omega
   have ae:w.heap.size+1+1<w2.heap.size:=bx;have ax:=cP (cO l).ob;clear X e2 e3 e4 c1 C;go_upto_region 3 with fail
   go_region_law (refine di (by rfl) _ _ _ (by rfl) 41 (by rfl) _ (by rfl) (cO ak) (cO ag _ (by first|exact cj _ _|exact TH.drew)) ?_;rintro e u ⟨A,vv,rfl,K⟩;obtain⟨L,M,aa,_⟩:=dd K;subst aa;dsimp only;have F:TI w2 u:=(by first|exact A|exact TH.drew.trans (A.mono TG));have q0:u.cell? ⟨w.heap.size+1,0,none⟩=some (Z Y (s:Int)):=(F.cell (p:=⟨w.heap.size+1,0,none⟩) aw).trans k0;have j:=(F.block (w.heap.size+1+1) ae).trans (cO ax);have r0:u.cell? ⟨w.heap.size+1+1,0,none⟩=some (Z .u8 0):=(by simp[World.cell?,j]);have bg:u.frozen? ⟨w.heap.size+1+1,0,none⟩=false:=(by simp[World.frozen?,j]);have r1:u.cell? ⟨w.heap.size+1+1,1,none⟩=some (Z Y 0):=(by simp[World.cell?,j]);have bh:u.frozen? ⟨w.heap.size+1+1,1,none⟩=false:=(by simp[World.frozen?,j]);have r2:u.cell? ⟨w.heap.size+1+1,2,none⟩=some (Z Y 0):=(by simp[World.cell?,j]);have bj:u.frozen? ⟨w.heap.size+1+1,2,none⟩=false:=(by simp[World.frozen?,j]);have r3:u.cell? ⟨w.heap.size+1+1,3,none⟩=some (.slice none 0 0):=(by simp[World.cell?,j]);have bk:u.frozen? ⟨w.heap.size+1+1,3,none⟩=false:=(by simp[World.frozen?,j]);have ay:=cP F;have az:=cP K;clear F A K j)
   all_goals
    have aA:Hid (PP (.returned (.agg #[Z .u8 en,Z Y (s:Int),Z Y 0,.slice L r.n M])) (j6 u (w.heap.size+1+1) (Z .u8 en) (Z Y (s:Int)) (Z Y 0) (.slice L r.n M))):=by
     show PP _ _
     rw[<-cO hO];obtain⟨q1,q2,q3,q4⟩:=cO ad;have hq:=(cO l).below (cO ay);have ah:=hq.rs;rw[<-q2,<-q4] at ah;exact B0 q1 q3 ah hq.st hq.ob (cO az) ae hq.lt
    first
     | (go_wp2;exact cr (v := .agg #[Z .u8 en,Z Y (s:Int),Z Y 0,.slice L r.n M]) (by simp[results,results25,go_sem,r0,r1,r2,r3]) rfl (cO aA))
     |trace_state
end Ru
namespace Ru
open Go.RowKit
open Rd (Rk e0)
open Pk (jo Sm fy TP cZ cS cY)
open Dk (Kept)
theorem qB(v:TK)(b:TypeId)(w:TJ):(Instr.typeAssert (.iface 120 v) b 120 true).run prog w=.ok (.tuple #[v,.bool true]) w:=by
 simp[Instr.typeAssert,run_underlying underlying120]
theorem A0(p:Addr)(w:TJ):CallsD prog 49 #[.pointer (some p)] .returning w λe j l=>e=.returned (.tuple #[])/\j=.returning/\l=w:=by
 refine callsD_of_wpS func49 rfl λb m hu=>?_
 simp only[ntmps49,GK,cD,Bb,Nat.reduceAdd,Nat.reduceSub,Jx,JK,Kk,KA,sj,mf];apply wpS_seq;apply wpS_region;simp[wpOpsS,go_sem,recoverD,hu,ntmps49,Exit.thenS];refine wpS_of_wp ?_;go_wp2;exact⟨rfl,b.mode,by cases b;rfl,.tuple #[],cu rfl _ _ _,rfl,hu,rfl⟩
theorem AY(g:Nat)(x e:Int)(w:TJ)(b:w.cell? ⟨g,0,none⟩=some (Z Y x))(y:w.frozen? ⟨g,0,none⟩=false):CallsD prog 49 #[.pointer (some ⟨g,0,none⟩)] (.panicking (gD e)) w λj l m =>
   j=.returned (.tuple #[])/\l=.panicking [{ v := .iface 120 (.agg #[Z Y e]),recovered:=true }]/\∃o,m=(w.setCell ⟨g,0,none⟩ (Z Y e)).alloc o:=by
 unfold gD;have z:g<w.heap.size:=cE w _ b;refine callsD_of_wpS func49 rfl λA B hu=>?_
 simp only[ntmps49,GK,cD,Bb,Nat.reduceAdd,Nat.reduceSub,Jx,JK,Kk,KA,sj,mf];apply wpS_seq;apply wpS_region;simp[wpOpsS,go_sem,recoverD,hu,ntmps49,Exit.thenS];refine wpS_of_wp ?_;have r:=λ(u:TypeId) (W:TJ)=>qB (.agg #[Z Y e]) u W
 go_wp2;exact⟨rfl,_,rfl,.tuple #[],cu rfl _ _ _,rfl,rfl,_,rfl⟩
end Ru
namespace Ru
open Go.RowKit
open Rd (Rk e0)
open Pk (jo Sm fy TP cZ cS cY)
open Dk (Kept)
structure OY (W:TJ) (XB RB GB:Nat) (a b c:Int) (p:Option Addr) (n k:Nat) (de sv:Nat) (er:Int):Prop where
 x:W.heap[XB]?=some (.cells #[Z .u8 a,Z Y b,Z Y c,.slice p n k] 32 (0,0))
 r:W.heap[RB]?=some (.cells #[Z Y (de:Int),Z Y (sv:Int)] 43 (0,0))
 g:W.heap[GB]?=some (.cells #[Z Y er] 33 (0,0))
def nA(a b c:Int)(p:Option Addr)(n k:Nat)(de sv:Nat)(er:Int):TK := .tuple #[.agg #[Z .u8 a,Z Y b,Z Y c,.slice p n k],.agg #[Z Y (de:Int),Z Y (sv:Int)],Z Y er]
variable {GB n de sv XB RB k:Nat}{p:Option Addr}{c b a er:Int}{tmps:Array TK}{W:TJ}
theorem tz(e:tmps[6]?=some (.pointer (some ⟨XB,0,none⟩)))(j:tmps[7]?=some (.pointer (some ⟨RB,0,none⟩)))(l:tmps[8]?=some (.pointer (some ⟨GB,0,none⟩)))(h:OY W XB RB GB a b c p n k de sv er):(results f32 tmps).run prog W=.ok (nA a b c p n k de sv er) W:=by
 have m:W.cell? ⟨XB,0,none⟩=some (Z .u8 a):=by rw[cn W _ 0 _ _ _ h.x];rfl
 have u:W.cell? ⟨XB,1,none⟩=some (Z Y b):=by rw[cn W _ 1 _ _ _ h.x];rfl
 have y:W.cell? ⟨XB,2,none⟩=some (Z Y c):=by rw[cn W _ 2 _ _ _ h.x];rfl
 have z:W.cell? ⟨XB,3,none⟩=some (.slice p n k):=by rw[cn W _ 3 _ _ _ h.x];rfl
 have A:W.cell? ⟨RB,0,none⟩=some (Z Y (de:Int)):=by rw[cn W _ 0 _ _ _ h.r];rfl
 have B:W.cell? ⟨RB,1,none⟩=some (Z Y (sv:Int)):=by rw[cn W _ 1 _ _ _ h.r];rfl
 have C:W.cell? ⟨GB,0,none⟩=some (Z Y er):=by rw[cn W _ 0 _ _ _ h.g];rfl
 clear h;unfold nA
 simp_all [results,results32,go_sem,Value.oneCell']
def OW(GB:Nat):Deferred:={ target := .fn (.func 49) #[.pointer (some ⟨GB,0,none⟩)],args := #[] }
theorem Du{O:Ending->TJ->Prop}(z:tmps[6]?=some (.pointer (some ⟨XB,0,none⟩)))(A:tmps[7]?=some (.pointer (some ⟨RB,0,none⟩)))(B:tmps[8]?=some (.pointer (some ⟨GB,0,none⟩))){e:Int}(h:OY W XB RB GB a b c p n k de sv er)(C:∀o,O (.returned (nA a b c p n k de sv e)) ((W.setCell ⟨GB,0,none⟩ (Z Y e)).alloc o)): Leaves prog f32 tmps O [OW GB] (.panicking (gD e)) W:=by
 have D:W.cell? ⟨GB,0,none⟩=some (Z Y er):=by rw[cn W _ 0 _ _ _ h.g];rfl
 have E:W.frozen? ⟨GB,0,none⟩=false:=by simp[World.frozen?,h.g]
 refine leaves_cons (f:=49) (args := #[.pointer (some ⟨GB,0,none⟩)]) (by simp[OW]) (by simp[go_sem,OW]) ?_;refine(AY GB er e W D E).mono ?_;rintro H I F ⟨rfl,rfl,o,rfl⟩;have u:∀{j:Nat} {l:Array TK} {t:TypeId},W.heap[j]?=some (.cells l t (0,0))->j≠GB->((W.setCell ⟨GB,0,none⟩ (Z Y e)).alloc o).heap[j]?=some (.cells l t (0,0)):=λ{j l t} y m=>by
  rw[cN _ _ _ (by simpa using cS y),cG W _ _ j m];exact y
 have G:OY ((W.setCell ⟨GB,0,none⟩ (Z Y e)).alloc o) XB RB GB a b c p n k de sv e:=by
  refine⟨u h.x (cY h.x h.g (by decide)),u h.r (cY h.r h.g (by decide)),?_⟩;rw[cN _ _ _ (by simpa using cS h.g),cA W GB 0 _ _ _ h.g];rfl
 exact⟨_,tz z A B G,C o⟩
theorem Bp{O:Ending->TJ->Prop}(e:tmps[6]?=some (.pointer (some ⟨XB,0,none⟩)))(j:tmps[7]?=some (.pointer (some ⟨RB,0,none⟩)))(l:tmps[8]?=some (.pointer (some ⟨GB,0,none⟩)))(h:OY W XB RB GB a b c p n k de sv er)(m:O (.returned (nA a b c p n k de sv er)) W): Leaves prog f32 tmps O [OW GB] .returning W:=by
 refine leaves_cons (f:=49) (args := #[.pointer (some ⟨GB,0,none⟩)]) (by simp[OW]) (by simp[go_sem,OW]) ?_;refine(A0 ⟨GB,0,none⟩ W).mono ?_;rintro u y r ⟨rfl,rfl,rfl⟩;exact⟨_,tz e j l h,m⟩
end Ru
namespace Ru
open Go.RowKit
open Sp (Pg Ed Cfg nK quiet lK fh gu eT iN)
open Rd (Rk e0)
open Pk (jo Sm fy TP cZ cS cY)
open Dk (Kept)
theorem xx{w w':TJ}{O j:Nat->Prop}{S RB:Nat}{v v':TK}(h:fy w (OR O S v RB) w' (OR j S v' RB))(l:w.heap.size<=RB):fy w (OO O S v) w' (OO j S v'):=⟨⟨h.kept.os,h.kept.tape,h.kept.output,h.kept.size,λk b m=>h.kept.block k b (λe=>by rcases e with e | e;exact m e;omega)⟩,λk b=>by
  rcases h.own k (Or.inl b) with e|e
  .rcases e with e|e
   .exact Or.inl e
   .exact Or.inr (by omega)
  .exact Or.inr e⟩
def Ek(P:Pg)(Es:List Ed)(cT every cU cX n de:Nat)(b:Cfg)(K:List Nat)(Q:Rk):Out:=if (eg Q (dO Q.fH K)).1≠0 then ⟨fU,0,(eg Q (dO Q.fH K)).1,(eg Q (dO Q.fH K)).2⟩
 else rz P Es cT every cU cX n de ((cT-de)+1) de b K 0 (eg Q (dO Q.fH K)).2
def K6(D E S cX n cU de:Nat)(R:Rk)(O:Nat->Prop)(v:TK)(out:Out)(w:TJ)(e:Ending)(w':TJ):Prop:=(∃p m k,e=.returned (nA out.res.outcome out.res.step out.res.dC p m k de out.saved out.e)/\w'.ownsRow w.heap.size 2 1 (.slice p m k) out.res.dH.length (out.res.dH.map (Z Y)))/\
 ∃b j l,ow w' D E S cX n cU out.R R b j l/\fy w (OO O S v) w' (OO b S j)
theorem Lm(w:TJ)(jc:Array TK)(S every:Nat):∀W,W=(((((w.alloc (.cells jc 75)).alloc (.cells #[.pointer (some ⟨S,0,none⟩)] 85)).alloc (.cells #[Z Y (every:Int)] 3)).alloc (.cells #[Z .u8 0,Z Y 0,Z Y 0,.slice none 0 0] 32)).alloc (.cells #[Z Y 0,Z Y 0] 43)).alloc (.cells #[Z Y 0] 33)->
  (W.heap[w.heap.size]?=some (.cells jc 75 (0,0))/\W.heap[w.heap.size+1]?=some (.cells #[.pointer (some ⟨S,0,none⟩)] 85 (0,0))/\W.heap[w.heap.size+1+1]?=some (.cells #[Z Y (every:Int)] 3 (0,0))/\W.heap[w.heap.size+1+1+1]?=some (.cells #[Z .u8 0,Z Y 0,Z Y 0,.slice none 0 0] 32 (0,0))/\W.heap[w.heap.size+1+1+1+1]?=some (.cells #[Z Y 0,Z Y 0] 43 (0,0))/\W.heap[w.heap.size+1+1+1+1+1]?=some (.cells #[Z Y 0] 33 (0,0)))/\TI w W/\W.heap.size=w.heap.size+6:=by
 rintro W rfl;have a:∀(W:TJ) (o:Obj) (j:Nat),j<W.heap.size->(W.alloc o).heap[j]?=W.heap[j]?:=λW o j h=>cN W o j h
 have n:∀(W:TJ) (o:Obj) (j:Nat),j=W.heap.size->(W.alloc o).heap[j]?=some o:=λW o j h=>by rw[h];exact G1 W o
 refine⟨⟨?_,?_,?_,?_,?_,?_⟩,?_,by simp⟩
 .rw[a _ _ _ (by simp <;> omega),a _ _ _ (by simp <;> omega),a _ _ _ (by simp <;> omega),a _ _ _ (by simp <;> omega),a _ _ _ (by simp),n _ _ _ rfl]
 .rw[a _ _ _ (by simp <;> omega),a _ _ _ (by simp <;> omega),a _ _ _ (by simp <;> omega),a _ _ _ (by simp),n _ _ _ (by simp)]
 .rw[a _ _ _ (by simp <;> omega),a _ _ _ (by simp <;> omega),a _ _ _ (by simp),n _ _ _ (by simp)]
 .rw[a _ _ _ (by simp <;> omega),a _ _ _ (by simp),n _ _ _ (by simp)]
 .rw[a _ _ _ (by simp),n _ _ _ (by simp)]
 .rw[n _ _ _ (by simp)]
 .exact(((((((cj _ w).alloc TG _).alloc (by simp) _).alloc (by simp <;> omega) _).alloc (by simp <;> omega) _).alloc (by simp <;> omega) _).alloc (by simp <;> omega) _)
theorem G4(P:Pg)(b:List Int):jm b [] [] (List.replicate b.length (Sp.eN P.pK)) b.length=jm (Sp.fS P b).val (Sp.fS P b).fC (Sp.fS P b).iK (Sp.fS P b).je b.length:=by
 have h:∀k,k<=b.length->jm b [] [] (List.replicate b.length (Sp.eN P.pK)) k=jm b (List.replicate b.length false) (List.replicate b.length 0) (List.replicate b.length (Sp.eN P.pK)) k:=by
  intro k
  induction k with
  |zero=>intro _;rfl
  |succ k j =>
   intro l;rw[mo,mo,j (by omega)];have e:k<b.length:=by omega
   simp[List.getD,List.getElem?_replicate,e]
 exact h b.length TG
end Ru
end Go.Proofs.YtgkkdpegcieakaaGreatDoor
