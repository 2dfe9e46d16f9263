import Derived.Test.YtgkkdpegcieakaaGreatDoorCw37
import Derived.Test.YtgkkdpegcieakaaGreatDoorCw32
set_option linter.all false
set_option maxRecDepth 100000
set_option maxHeartbeats 16000000
namespace Go.Proofs.YtgkkdpegcieakaaGreatDoor
open Go.Proofs.Tryz
open Value renaming int→Z,slice→J,pointer→WV,tuple→WX,agg→WY
open Ending renaming returned→WZ
open Obj renaming cells→D
open Option renaming none→U,some→S
open Bool renaming true→W8,false→W9
open Or renaming inl→Xa,inr→Xb
open List renaming length→Xg
open _root_.Array renaming size→K
open World renaming cell?→Xc,alloc→Xe,heap→E
open IntKind renaming i64→Y
open Go renaming World→WR,Value→WS,Calls→WT
open Go.RowKit
namespace Ru
open Sp (dq gX)
open Rd (Rk e0)
open Pk (iV Sm fj TP dh cV de)
open Dk (Kept)
def OR(O:Nat->Prop)(b:Nat)(v:WS)(RB k:Nat):Prop:=OO O b v k\/k=RB
variable {T:Sn.Tb}{v:WS}{Q R:Rk}{n da cX:Nat}{w:WR}
theorem je{b E e:Nat}{O:Nat->Prop}(h:ou w b E e da n cX Q R O v T){k:Nat}{c:Array WS}{t:TypeId}(j:w.heap[k]?=S (D c t (0,0)))(ht:t∉iH/\t≠113/\t≠181): ¬OO O e v k:=λr=>by
 rcases r with e1|e1
 .exact mM h.two j ht.1 e1
 .rcases e1 with e1|e1
  .subst e1;exact de j h.sh.tab.blk ht.2.1 rfl
  .obtain⟨m,l,_⟩:=dh h.sh.tab.row e1;exact de j l ht.2.2 rfl
structure uj (w:WR) (D E S da n cX:Nat) (Q R:Rk) (O:Nat->Prop) (v:WS) (T:Sn.Tb) (FB EB SB RB every dj sv:Nat) (y z:WS):Prop where
 sf:ou w D E S da n cX Q R O v T
 fb:w.heap[FB]?=some (.cells #[Z Y (dj:Int),y,z] 80 (0,0))
 eb:w.heap[EB]?=some (.cells #[Z Y (every:Int)] 3 (0,0))
 sb:w.heap[SB]?=some (.cells #[WV (some ⟨S,0,U⟩)] 85 (0,0))
 rb:w.heap[RB]?=some (.cells #[Z Y (dj:Int),Z Y (sv:Int)] 43 (0,0))
 rp:RB≠6
variable {sv FB EB dj RB every SB:Nat}{y z:WS}
theorem uj.below{w':WR}{b E e:Nat}{O:Nat->Prop}(h:uj w b E e da n cX Q R O v T FB EB SB RB every dj sv y z)(hb:WQ w w'): uj w' b E e da n cX Q R O v T FB EB SB RB every dj sv y z:=⟨h.sf.below hb,(hb.block _ (cV h.fb)).trans h.fb,(hb.block _ (cV h.eb)).trans h.eb,(hb.block _ (cV h.sb)).trans h.sb,(hb.block _ (cV h.rb)).trans h.rb,h.rp⟩
theorem uj.next{w':WR}{b E j:Nat}{u:Rk}{O m:Nat->Prop}{v':WS}{A:Sn.Tb}(h:uj w b E j da n cX Q R O v T FB EB SB RB every dj sv y z)(B:ou w' b E j da n cX u R m v' A)(l:fj w (OO O j v) w' (OO m j v')): uj w' b E j da n cX u R m v' A FB EB SB RB every dj sv y z/\fj w (OR O j v RB) w' (OR m j v' RB):=by
 refine⟨⟨B,?_,?_,?_,?_,h.rp⟩,⟨l.kept.mono λk _ r C=>r (Xa C),λk r=>?_⟩⟩
 .exact(l.far (cV h.fb) (je h.sf h.fb (by decide))).1.trans h.fb
 .exact(l.far (cV h.eb) (je h.sf h.eb (by decide))).1.trans h.eb
 .exact(l.far (cV h.sb) (je h.sf h.sb (by decide))).1.trans h.sb
 .exact(l.far (cV h.rb) (je h.sf h.rb (by decide))).1.trans h.rb
 .rcases r with e|e
  .rcases l.own k e with e|e
   .exact Xa (Xa e)
   .exact Xb e
  .exact Xa (Xb e)
theorem uj.count{b E j:Nat}{O:Nat->Prop}(h:uj w b E j da n cX Q R O v T FB EB SB RB every dj sv y z)(m:Int)(r:m=((sv+1:Nat):Int)): uj (w.setCell ⟨RB,1,U⟩ (Z Y m)) b E j da n cX Q R O v T FB EB SB RB every dj (sv+1) y z/\fj w (OR O j v RB) (w.setCell ⟨RB,1,U⟩ (Z Y m)) (OR O j v RB):=by
 have l:Kept w (w.setCell ⟨RB,1,U⟩ (Z Y m)) (λk=>k≠RB):=(Kept.refl w _).setCell (λl=>l rfl) _;have B:=Ue w RB 1 _ _ (Z Y m) h.rb;have A:∀k,OO O j v k->k≠RB:=λk u e=>je h.sf h.rb (by decide) (e ▸ u)
 refine⟨⟨⟨oz h.sf.two l (λk l=>A k (Xa l)),h.sf.sh.kept l (λk l=>A k (Xb l)),h.sf.apart,h.sf.pw.keep (l.block _ h.sf.pw.lt (λe=>h.rp e.symm)),h.sf.np⟩,?_,?_,?_,?_,h.rp⟩,⟨l.mono λk _ l e=>l (Xb e),λk l=>Xa l⟩⟩
 .exact(l.block _ (cV h.fb) (de h.fb h.rb (by decide))).trans h.fb
 .exact(l.block _ (cV h.eb) (de h.eb h.rb (by decide))).trans h.eb
 .exact(l.block _ (cV h.sb) (de h.sb h.rb (by decide))).trans h.sb
 .rw[B,r];rfl
theorem Jt(b E j da n cX:Nat)(Q R:Rk)(O:Nat->Prop)(v:WS)(T:Sn.Tb)(FB EB SB RB every dj sv:Nat)(y z:WS)(step:Nat)(p:Option Addr)(cap:Nat)(all:Int)(w:WR)(h:uj w b E j da n cX Q R O v T FB EB SB RB every dj sv y z)(he:0<every)(B:every<=50)(L:step<=9999999999)(M:dj<=9999999999)(r:¬(dj<step/\step%every=0)):WT prog 52 #[WY #[Z Y (step:Int),J p n cap,Z Y all],WV (S ⟨FB,0,U⟩),WV (S ⟨EB,0,U⟩),WV (S ⟨SB,0,U⟩),WV (S ⟨RB,0,U⟩)] w λe C=>e=WZ (WX #[])/\WQ w C:=by
 have N:w.cell? ⟨FB,0,U⟩=S (Z Y (dj:Int)):=by rw[T5 w _ 0 _ _ _ h.fb];rfl
 have F:w.cell? ⟨EB,0,U⟩=S (Z Y (every:Int)):=by rw[T5 w _ 0 _ _ _ h.eb];rfl
 have G:=cV h.fb;have I:=cV h.eb;have A:Hid (∀o,WQ w (w.alloc o)):=λo=>(T4 _ w).alloc WN o
 clear h;by_cases u:dj<step
 .have l:(dj:Int)<(step:Int):=by omega
  have m:¬step%every=0:=λe=>r ⟨u,e⟩
  have P:((step:Int)%(every:Int) == 0)=W9:=Uh.2 λe=>m (by
   have V:((step%every:Nat):Int)=0:=by rw[Int.natCast_emod];exact e
   omega)
  go_enter func52,ntmps52;go_wp2;exact Ub (Ua rfl _ _ _) rfl ⟨rfl,cS A _⟩
 .have l:¬(dj:Int)<(step:Int):=by omega
  go_enter func52,ntmps52;go_wp2;exact Ub (Ua rfl _ _ _) rfl ⟨rfl,cS A _⟩
theorem Ir{k:Nat}{x:Sn.Ce}(h:∀y∈T,y.1<k): Sn.dF T k=W9/\Sn.gJ T k x=T++[(k,x)]:=by
 have b:Sn.dF T k=W9:=by
  cases j:Sn.dF T k with
  |false=>rfl
  |true=>obtain⟨e,l⟩:=Sn.iM.1 j;exact absurd (h _ l) (by simp)
 refine⟨b,?_⟩;have m:Sn.dw T k=Xg T:=by
  unfold Sn.dw;rw[Wv.2 (λy r=>by simpa [Sn.lt] using h y r)]
 unfold Sn.gJ;rw[m,Vd,List.drop_length]
def ud(Q:Rk)(c:Sp.Cfg)(n step da:Nat)(K:List Nat)(cX sv:Nat):Int × Nat × Rk:=if (eh Q (eK c n step da)).1≠0 then ((eh Q (eK c n step da)).1,sv,(eh Q (eK c n step da)).2)
 else ((eh (eh Q (eK c n step da)).2 (fx ((K++[step]).take (Xg K+1-cX)))).1,sv+1,(eh (eh Q (eK c n step da)).2 (fx ((K++[step]).take (Xg K+1-cX)))).2)
def Fm(w:WR)(b E j da n cX:Nat)(R:Rk)(O:Nat->Prop)(v:WS)(K:List Nat)(step:Nat)(FB EB SB RB every dj:Nat)(y z:WS)(r:Int × Nat × Rk)(e:Ending)(w':WR):Prop:=(r.1=0->e=WZ (WX #[]))/\(r.1≠0->e=.panicked (gE r.1))/\∃l m u,(r.1=0->u.map (·.1)=(K++[step]).drop (Xg K+1-cX))/\uj w' b E j da n cX r.2.2 R l m u FB EB SB RB every dj r.2.1 y z/\fj w (OR O j v RB) w' (OR l j m RB)
theorem Js(j E l da n cX nn b:Nat)(Q R:Rk)(O:Nat->Prop)(v:WS)(T:Sn.Tb)(FB EB SB RB every dj sv:Nat)(y z:WS)(step:Nat)(p:Option Addr)(cap:Nat)(c:Sp.Cfg)(w:WR)(h:uj w j E l da n cX Q R O v T FB EB SB RB every dj sv y z)(he:0<every)(aG:every<=50)(hs:step<=9999999999)(hf:dj<step)(aa:step%every=0)(hv:kg w p c n)(hn:n<=64)(aw:0<n)(hj:da<4294967296)(hT:∀x∈T,x.1<step)(ab:Sm Q nn b)(ad:nn+8<=1000000000)(ax:1000<=b)(hb:b<=2097152)(ay:Xg T<1000000000)(hm:cX<=1000000000)(aH:sv<=1000000000):WT prog 52 #[WY #[Z Y (step:Int),J p n cap,Z Y c.all],WV (S ⟨FB,0,U⟩),WV (S ⟨EB,0,U⟩),WV (S ⟨SB,0,U⟩),WV (S ⟨RB,0,U⟩)] w (Fm w j E l da n cX R O v (T.map (·.1)) step FB EB SB RB every dj y z (ud Q c n step da (T.map (·.1)) cX sv)):=by
 generalize s:Fm w j E l da n cX R O v (T.map (·.1)) step FB EB SB RB every dj y z (ud Q c n step da (T.map (·.1)) cX sv)=P;replace s:=cT s;obtain⟨ae,af⟩:=Ir (x:=⟨p,n,cap,c.all⟩) hT;have A:=gB.save c n step da ab hn ax;have ag:Hid (∀W,W=w.alloc (D #[Z Y (step:Int),J p n cap,Z Y c.all] 80)->W.heap[w.heap.size]?=S (D #[Z Y (step:Int),J p n cap,Z Y c.all] 80 (0,0))/\WQ w W):=by
  show ∀W,_
  rintro W rfl;exact⟨T9 w _,(T4 _ w).alloc WN _⟩
 have f0:w.cell? ⟨FB,0,U⟩=S (Z Y (dj:Int)):=by rw[T5 w _ 0 _ _ _ h.fb];rfl
 have az:w.cell? ⟨EB,0,U⟩=S (Z Y (every:Int)):=by rw[T5 w _ 0 _ _ _ h.eb];rfl
 have s0:w.cell? ⟨SB,0,U⟩=S (WV (S ⟨l,0,U⟩)):=by rw[T5 w _ 0 _ _ _ h.sb];rfl
 have aI:=cV h.fb;have aJ:=cV h.eb;have aK:=cV h.sb;have N:Hid (∀W,WQ w W->WT prog 53 #[WV (S ⟨l,0,U⟩),WY #[Z Y (step:Int),J p n cap,Z Y c.all]] W (mI W j E l da n cX R O v (λT'=>T'=T++[(step,⟨p,n,cap,c.all⟩)]) (eh Q (eK c n step da)))):=λW hW=>by
  have:=J3 j E l da n cX (nn+8) b step Q R O v T p cap c W (h.sf.below hW) (hv.below hW) hn aw hj hs A ad hb ay;rw[ae,TZ (by decide),af] at this;exact this
 have m:=cT h;have aA:=cT A;have HT:Hid (∀x∈T++[(step,(⟨p,n,cap,c.all⟩:Sn.Ce))],x.1<=9999999999):=λx hx=>by
  rcases Uq.1 hx with e|e
  .have:=hT x e;omega
  .rw[Uz.1 e];exact hs
 have aF:(dj:Int)<(step:Int):=by omega
 have hq:((step:Int)%(every:Int) == 0)=W8:=by rw[<-Int.natCast_emod,aa];rfl
 clear h hv A ae af ab hT;obtain⟨r1,V⟩:∃r,Hid (eh Q (eK c n step da)=r):=⟨_,rfl⟩
 rw[cS V] at N;unfold ud at s;rw[cS V] at s;go_enter func52,ntmps52;go_wp2_with fail;generalize hW:Xe _ _=W0;obtain⟨aB,C⟩:=cS ag W0 hW.symm;clear hW ag;have ah:=cT ((cS m).below C);have F:Hid (fj w (OR O l v RB) W0 (OR O l v RB)):=fj.below _ C;refine(cS N W0 C).mono ?_;rintro e g ⟨k1,k2,O1,v1,T1,hG,ai,aj⟩;obtain⟨ak,G⟩:=(cS ah).next ai aj
 have u:=cT ak;have B:=cT ((cS F).trans G);clear ak G ai aj N aB C ah F m f0 az s0;by_cases X:r1.1=0
 .obtain rfl:=k1 X;have aC:T1=T++[(step,⟨p,n,cap,c.all⟩)]:=hG X;subst aC;have aD:Hid (Sm r1.2 (nn+8) b):=by rw[<-cS V];exact(cS aA).all
  have aL:g.cell? ⟨RB,1,U⟩=S (Z Y (sv:Int)):=by rw[T5 g _ 1 _ _ _ (cS u).rb];rfl
  have aM:g.frozen? ⟨RB,1,U⟩=W9:=by simp[World.frozen?,(cS u).rb]
  have s1:g.cell? ⟨SB,0,U⟩=S (WV (S ⟨l,0,U⟩)):=by rw[T5 g _ 0 _ _ _ (cS u).sb];rfl
  have aN:SB≠RB:=de (cS u).sb (cS u).rb (by decide);obtain⟨an,I⟩:=(cS u).count ((sv:Int)+1) (by omega);have q:=cT an;have L:=cT ((cS B).trans I);clear an I u B k1 k2 hG;go_wp2_with fail;generalize World.setCell _ _ _=w2 at q L ⊢;have aE:(T++[(step,(⟨p,n,cap,c.all⟩:Sn.Ce))]).length=(T.map (·.1)).length+1:=by simp
  have ao:(T++[(step,(⟨p,n,cap,c.all⟩:Sn.Ce))]).map (·.1)=T.map (·.1)++[step]:=by simp
  have t:=KY j E l da n cX (nn+8) b r1.2 R O1 v1 (T++[(step,⟨p,n,cap,c.all⟩)]) w2 (cS q).sf (cS HT) (gB.tH (λo ho=>(tf _ o ho).1) (cS aD)) ad hm;rw[ao,aE] at t;refine t.mono ?_;rintro e w3 ⟨k1,k2,O3,v3,T3,hG,aq,ar⟩;obtain⟨au,M⟩:=(cS q).next aq ar
  have HF:Hid (P e w3):=by
   show P _ _
   rw[<-cS s,TZ (by rw[X];simp)];refine⟨k1,k2,O3,v3,T3,λh=>?_,au,(cS L).trans M⟩;rw[hG h,List.map_drop,ao]
  by_cases av:(eh r1.2 (fx ((T.map (·.1)++[step]).take ((T.map (·.1)).length+1-cX)))).1=0
  .obtain rfl:=k1 av;clear t hG aq ar au M k1 k2;go_wp2;exact Ub (Ua rfl _ _ _) rfl (cS HF)
  .obtain rfl:=k2 av;exact⟨rfl,cS HF⟩
 .obtain rfl:=k2 X;have HF:Hid (P (.panicked (gE r1.1)) g):=by
   show P _ _
   rw[<-cS s,T0 X];exact⟨λh=>absurd h X,λ_=>rfl,O1,v1,T1,λh=>absurd h X,cS u,cS B⟩
  exact⟨rfl,cS HF⟩
end Ru
namespace Ru
open Sp (Pg Ed Cfg nH quiet lI fh gA eY iO)
open Rd (Rk e0)
open Pk (iV Sm fj TP dh cV de)
open Dk (Kept)
variable {sv dj every n da cap s:Nat}{c:Cfg}{Es:List Ed}{out:Out}{Q:Rk}{P:Pg}
theorem JK{keep g:Nat}{K:List Nat}(h:rz P Es cap every keep da n dj (g+1) s c K sv Q=out){e:Int}(he:gA cap c s=e)(l:e≠0):((out.res.outcome:Int)=e/\(out.res.step:Int)=(s:Int)/\(out.res.dt:Int)=0/\out.res.dA=c.val)/\out.saved=sv/\out.e=0/\out.R=Q:=by
 rw[rz] at h;unfold gA at he;by_cases b:quiet c s=W8
 .rw[T0 b] at h he;rw[<-h,<-he];exact⟨⟨O,O,O,O⟩,O,O,O⟩
 .rw[TZ b] at h he;by_cases j:cap<=s
  .rw[T0 j] at h he;rw[<-h,<-he];exact⟨⟨O,O,O,O⟩,O,O,O⟩
  .rw[TZ j] at he;exact absurd he.symm l
def QI(P:Pg)(Es:List Ed)(cap every keep da n dj g s sv:Nat)(c:Cfg)(K:List Nat)(Q:Rk)(o:Except Nat Sp.Acc)(out:Out):Prop:=match o with
 |.error i=>out=⟨⟨3,s,i,c.val⟩,sv,0,Q⟩
 |.ok a=>rz P Es cap every keep da n dj g (s+1) (fh P n a) K sv Q=out
theorem FC{keep g:Nat}{K:List Nat}(h:rz P Es cap every keep da n dj (g+1) s c K sv Q=out)(he:gA cap c s=0):s<cap/\(¬(dj<s/\s%every=0)->QI P Es cap every keep da n dj g s sv c K Q (lI P Es c s n) out)/\
  ((dj<s/\s%every=0)->((ud Q c n s da K keep sv).1≠0->out=⟨fG,(ud Q c n s da K keep sv).2.1,(ud Q c n s da K keep sv).1,(ud Q c n s da K keep sv).2.2⟩)/\
     ((ud Q c n s da K keep sv).1=0->QI P Es cap every keep da n dj g s (ud Q c n s da K keep sv).2.1 c ((K++[s]).drop (Xg K+1-keep)) (ud Q c n s da K keep sv).2.2 (lI P Es c s n) out)):=by
 rw[rz] at h;unfold gA at he;by_cases m:quiet c s=W8
 .rw[T0 m] at he;exact absurd he (by decide)
 .rw[TZ m] at h he;by_cases r:cap<=s
  .rw[T0 r] at he;exact absurd he (by decide)
  .rw[TZ r] at h;refine⟨by omega,λhd=>?_,λhd=>?_⟩
   .rw[TZ hd] at h;unfold QI;cases b:lI P Es c s n with
    |error i=>rw[b] at h;exact h.symm
    |ok a=>rw[b] at h;exact h
   .rw[T0 hd] at h;unfold ud;by_cases l:(eh Q (eK c n s da)).1≠0
    .rw[T0 l] at h ⊢;exact⟨λ_=>h.symm,λe=>absurd e l⟩
    .rw[TZ l] at h ⊢;by_cases j:(eh (eh Q (eK c n s da)).2 (fx ((K++[s]).take (Xg K+1-keep)))).1≠0
     .rw[T0 j] at h;exact⟨λ_=>h.symm,λe=>absurd e j⟩
     .rw[TZ j] at h;refine⟨λe=>absurd e j,λ_=>?_⟩;unfold QI;cases b:lI P Es c s n with
      |error i=>rw[b] at h;exact h.symm
      |ok a=>rw[b] at h;exact h
variable {T:Sn.Tb}{v:WS}{w:WR}
theorem uj.not{b E j cX:Nat}{R:Rk}{O:Nat->Prop}{FB m r RB:Nat}{y z:WS}(h:uj w b E j da n cX Q R O v T FB m r RB every dj sv y z){k:Nat}{c:Array WS}{t:TypeId}(l:w.heap[k]?=S (D c t (0,0)))(ht:(t∉iH/\t≠113/\t≠181)/\t≠43): ¬OR O j v RB k:=λu=>by
 rcases u with e|e
 .exact je h.sf l ht.1 e
 .subst e;exact de l h.rb ht.2 rfl
theorem uj.set{b E j cX:Nat}{R:Rk}{O:Nat->Prop}{FB r u RB:Nat}{y z:WS}(h:uj w b E j da n cX Q R O v T FB r u RB every dj sv y z){K:Nat}(C:¬OO O j v K)(m:K≠FB/\K≠r/\K≠u/\K≠RB/\K≠6)(i:Nat)(x:WS): uj (w.setCell ⟨K,i,U⟩ x) b E j da n cX Q R O v T FB r u RB every dj sv y z:=by
 have l:Kept w (w.setCell ⟨K,i,U⟩ x) (λk=>k≠K):=(Kept.refl w _).setCell (λl=>l rfl) _;have B:∀k,OO O j v k->k≠K:=λk A e=>C (e ▸ A)
 exact⟨⟨oz h.sf.two l (λk l=>B k (Xa l)),h.sf.sh.kept l (λk l=>B k (Xb l)),h.sf.apart,h.sf.pw.keep (l.block _ h.sf.pw.lt (λe=>m.2.2.2.2 e.symm)),h.sf.np⟩,(l.block _ (cV h.fb) (λe=>m.1 e.symm)).trans h.fb,(l.block _ (cV h.eb) (λe=>m.2.1 e.symm)).trans h.eb,(l.block _ (cV h.sb) (λe=>m.2.2.1 e.symm)).trans h.sb,(l.block _ (cV h.rb) (λe=>m.2.2.2.1 e.symm)).trans h.rb,h.rp⟩
structure Rc where
 (D E S da n cX FB EB SB RB every dj:Nat)
 (R:Rk)
 (y z:WS)
abbrev Rc.I(r:Rc)(w:WR)(Q:Rk)(O:Nat->Prop)(v:WS)(T:Sn.Tb)(sv:Nat):Prop:=uj w r.D r.E r.S r.da r.n r.cX Q r.R O v T r.FB r.EB r.SB r.RB r.every r.dj sv r.y r.z
structure H5 (r:Rc) (w:WR) (O0:Nat->Prop) (v0:WS) (nn b:Nat) (P:Pg) (Es:List Ed) (cY:Nat) (out:Out) (jc:Array WS) (wr:WR) (s:Nat) (c:Cfg) (p:Option Addr) (cap:Nat) (Q:Rk) (O:Nat->Prop) (v:WS) (T:Sn.Tb) (sv:Nat):Prop where
 jb:wr.heap[K (E w)]?=S (D jc 75 (0,0))
 cb:wr.heap[K (E w)+1]?=S (D #[Z Y (s:Int),J p r.n cap,Z Y c.all] 80 (0,0))
 ob:wr.heap[K (E w)+1+1]?=S (D #[Z .u8 0,Z Y 0,Z Y 0,J U 0 0] 32 (0,0))
 row:wr.ownsRow 0 104 4 (J p r.n cap) r.n (jg c.val c.fC c.iI c.jf r.n)
 ok:eY r.n c
 rs:r.I wr Q O v T sv
 st:fj w (OR O0 r.S v0 r.RB) wr (OR O r.S v r.RB)
 go:rz P Es cY r.every r.cX r.da r.n r.dj ((cY-s)+1) s c (T.map (·.1)) sv Q=out
 sm:Sm Q (nn+8*sv) b
 OL:sv+r.dj<=s
 key:∀x∈T,x.1<=r.dj\/x.1<s
 len:Xg T<=r.cX
 lt:r.FB<K (E w)/\r.EB<K (E w)/\r.SB<K (E w)/\r.RB<K (E w)/\6<K (E w)
theorem H5.below{r:Rc}{O0 O:Nat->Prop}{v0:WS}{nn b:Nat}{cY:Nat}{jc:Array WS}{wr w':WR}{p:Option Addr}(h:H5 r w O0 v0 nn b P Es cY out jc wr s c p cap Q O v T sv)(hb:WQ wr w'): H5 r w O0 v0 nn b P Es cY out jc w' s c p cap Q O v T sv:=⟨(hb.block _ (cV h.jb)).trans h.jb,(hb.block _ (cV h.cb)).trans h.cb,(hb.block _ (cV h.ob)).trans h.ob,dd h.row hb,h.ok,h.rs.below hb,h.st.trans (fj.below _ hb),h.go,h.sm,h.OL,h.key,h.len,h.lt⟩
end Ru
namespace Ru
open Sp (Pg Ed Cfg nH quiet lI fh gA eY iO)
open Rd (Rk e0)
open Pk (iV Sm fj TP dh cV de)
open Dk (Kept)
structure Mt (r:Rc) (w:WR) (O0:Nat->Prop) (v0:WS) (nn b:Nat) (P:Pg) (Es:List Ed) (cY:Nat) (out:Out) (jc:Array WS) (wr:WR) (s:Nat) (c:Cfg) (p:Option Addr) (cap:Nat) (Q:Rk) (O:Nat->Prop) (v:WS) (T:Sn.Tb) (sv:Nat):Prop where
 jb:wr.heap[K (E w)]?=S (D jc 75 (0,0))
 cb:wr.heap[K (E w)+1]?=S (D #[Z Y (s:Int),J p r.n cap,Z Y c.all] 80 (0,0))
 ob:wr.heap[K (E w)+1+1]?=S (D #[Z .u8 0,Z Y 0,Z Y 0,J U 0 0] 32 (0,0))
 row:wr.ownsRow 0 104 4 (J p r.n cap) r.n (jg c.val c.fC c.iI c.jf r.n)
 ok:eY r.n c
 rs:r.I wr Q O v T sv
 st:fj w (OR O0 r.S v0 r.RB) wr (OR O r.S v r.RB)
 go:QI P Es cY r.every r.cX r.da r.n r.dj (cY-s) s sv c (T.map (·.1)) Q (lI P Es c s r.n) out
 sm:Sm Q (nn+8*sv) b
 OL:sv+r.dj<=s+1
 key:∀x∈T,x.1<=r.dj\/x.1<s+1
 len:Xg T<=r.cX
 lt:r.FB<K (E w)/\r.EB<K (E w)/\r.SB<K (E w)/\r.RB<K (E w)/\6<K (E w)
section
variable {r : Rc} {w : World} {O0 O : Nat → Prop} {v0 v : Value} {nn b : Nat} {P : Pg} {Es : List Ed} {cY s cap sv : Nat} {out : Out} {jc : Array Value} {wr w' : World} {c : Cfg} {p : Option Addr} {Q : Rk} {T : Sn.Tb}
theorem Mt.below(h:Mt r w O0 v0 nn b P Es cY out jc wr s c p cap Q O v T sv)(hb:WQ wr w'):Mt r w O0 v0 nn b P Es cY out jc w' s c p cap Q O v T sv:=⟨(hb.block _ (cV h.jb)).trans h.jb,(hb.block _ (cV h.cb)).trans h.cb,(hb.block _ (cV h.ob)).trans h.ob,dd h.row hb,h.ok,h.rs.below hb,h.st.trans (fj.below _ hb),h.go,h.sm,h.OL,h.key,h.len,h.lt⟩
theorem H5.QN(h:H5 r w O0 v0 nn b P Es cY out jc wr s c p cap Q O v T sv)(he:gA cY c s=0)(hd:¬(r.dj<s/\s%r.every=0)):Mt r w O0 v0 nn b P Es cY out jc wr s c p cap Q O v T sv:=⟨h.jb,h.cb,h.ob,h.row,h.ok,h.rs,h.st,(FC h.go he).2.1 hd,h.sm,by have:=h.OL;omega,λx j=>by rcases h.key x j with e | e <;> omega,h.len,h.lt⟩
theorem H5.due{B:Nat->Prop}{v':WS}{A:Sn.Tb}(h:H5 r w O0 v0 nn b P Es cY out jc wr s c p cap Q O v T sv)(he:gA cY c s=0)(hd:r.dj<s/\s%r.every=0)(m:(ud Q c r.n s r.da (T.map (·.1)) r.cX sv).1=0)(C:A.map (·.1)=(T.map (·.1)++[s]).drop ((T.map (·.1)).length+1-r.cX))(N:r.I w' (ud Q c r.n s r.da (T.map (·.1)) r.cX sv).2.2 B v' A (ud Q c r.n s r.da (T.map (·.1)) r.cX sv).2.1)(u:fj wr (OR O r.S v r.RB) w' (OR B r.S v' r.RB))(R:r.n<=64)(hb:1000<=b):Mt r w O0 v0 nn b P Es cY out jc w' s c p cap (ud Q c r.n s r.da (T.map (·.1)) r.cX sv).2.2 B v' A (ud Q c r.n s r.da (T.map (·.1)) r.cX sv).2.1:=by
 have F:=((FC h.go he).2.2 hd).2 m;have z:(ud Q c r.n s r.da (T.map (·.1)) r.cX sv).2.1=sv+1:=by
  unfold ud at m ⊢;split at m
  .rename_i l;exact absurd m l
  .rename_i l;rw[TZ l]
 have G:Sm (ud Q c r.n s r.da (T.map (·.1)) r.cX sv).2.2 (nn+8*(sv+1)) b:=by
  have V:=gB.save c r.n s r.da h.sm R hb;unfold ud at m ⊢;split at m
  .rename_i l;exact absurd m l
  .rename_i l;rw[TZ l];exact(gB.tH (λo W=>(tf _ o W).1) (V.all.mono (by omega) WN)).all
 have j:∀{k:Nat} {c:Array WS} {t:TypeId},wr.heap[k]?=S (D c t (0,0))->((t∉iH/\t≠113/\t≠181)/\t≠43)->w'.heap[k]?=S (D c t (0,0)):=λ{k c t} L X=>(u.far (cV L) (h.rs.not L X)).1.trans L
 refine⟨j h.jb (by decide),j h.cb (by decide),j h.ob (by decide),?_,h.ok,N,h.st.trans u,by rw[C];exact F,by rw[z];exact G,by rw[z];have:=h.OL;omega,λx q=>?_,?_,h.lt⟩
 .refine Dk.dv h.row u.kept (λg i f=>?_);obtain⟨aa,l,_⟩:=dh h.row i;exact h.rs.not l (by decide) f
 .have M:x.1∈A.map (·.1):=Ve.2 ⟨x,q,rfl⟩;rw[C] at M;rcases Uq.1 (VC M) with e|e
  .obtain⟨y,hy,e⟩:=Ve.1 e;have:=h.key y hy;omega
  .have:=Uz.1 e;omega
 .have:=congrArg List.length C;rw[UX,Vb,UG,UX] at this;simp only[Uf,Vl] at this;have:=h.len;omega
theorem Mt.next{a:Sp.Acc}{q:Option Addr}{k B:Nat}(o:Obj)(h:Mt r w O0 v0 nn b P Es cY out jc wr s c p cap Q O v T sv)(M:lI P Es c s r.n=.ok a)(hl:s<cY)(N:eY r.n (fh P r.n a))(m:wr.ownsRow B 104 4 (J q r.n k) r.n (jg (fh P r.n a).val (fh P r.n a).fC (fh P r.n a).iI (fh P r.n a).jf r.n)):H5 r w O0 v0 nn b P Es cY out jc ((fS wr (K (E w)+1) (Z Y ((s:Int)+1)) (J q r.n k) (Z Y a.all)).alloc o) (s+1) (fh P r.n a) q k Q O v T sv:=by
 have A:rz P Es cY r.every r.cX r.da r.n r.dj (cY-s) (s+1) (fh P r.n a) (T.map (·.1)) sv Q=out:=by
  have:=h.go;rw[M] at this;exact this
 have C:K (E w)+1≠r.FB/\(K (E w))+1≠r.EB/\(K (E w))+1≠r.SB/\(K (E w))+1≠r.RB/\(K (E w))+1≠6:=by have:=h.lt;omega
 have F:¬OO O r.S v (K (E w)+1):=je h.rs.sf h.cb (by decide);have R:=(((h.rs.set F C 0 (Z Y ((s:Int)+1))).set F C 1 (J q r.n k)).set F C 2 (Z Y a.all))
 have G:∀j,j≠(K (E w))+1->(fS wr (K (E w)+1) (Z Y ((s:Int)+1)) (J q r.n k) (Z Y a.all)).heap[j]?=wr.heap[j]?:=λj u=>by
  unfold fS;rw[Uj _ _ _ j u,Uj _ _ _ j u,Uj _ _ _ j u]
 have V:(fS wr (K (E w)+1) (Z Y ((s:Int)+1)) (J q r.n k) (Z Y a.all)).heap.size=K (E wr):=by unfold fS;simp
 have W:Below (fS wr (K (E w)+1) (Z Y ((s:Int)+1)) (J q r.n k) (Z Y a.all)).heap.size (fS wr (K (E w)+1) (Z Y ((s:Int)+1)) (J q r.n k) (Z Y a.all)) ((fS wr (K (E w)+1) (Z Y ((s:Int)+1)) (J q r.n k) (Z Y a.all)).alloc o):=WO.alloc WN _;have y:(fS wr (K (E w)+1) (Z Y ((s:Int)+1)) (J q r.n k) (Z Y a.all)).heap[K (E w)+1]?=S (D #[Z Y ((s:Int)+1),J q r.n k,Z Y a.all] 80 (0,0)):=by
  have X:=eZ (i:=2) (eZ (i:=1) (eZ (i:=0) h.cb (Z Y ((s:Int)+1))) (J q r.n k)) (Z Y a.all);unfold fS;simpa using X
 have l:Kept wr (fS wr (K (E w)+1) (Z Y ((s:Int)+1)) (J q r.n k) (Z Y a.all)) (λj=>j≠(K (E w))+1):=(((Kept.refl wr _).setCell (λz=>z rfl) _).setCell (λz=>z rfl) _).setCell (λz=>z rfl) _;have I:fj w (OR O0 r.S v0 r.RB) (fS wr (K (E w)+1) (Z Y ((s:Int)+1)) (J q r.n k) (Z Y a.all)) (OR O r.S v r.RB):=by
  refine⟨⟨l.os.trans h.st.kept.os,l.tape.trans h.st.kept.tape,l.output.trans h.st.kept.output,Uc h.st.kept.size l.size,λj u x=>?_⟩,h.st.own⟩;rw[G j (by omega)];exact h.st.kept.block j u x
 have L:H5 r w O0 v0 nn b P Es cY out jc (fS wr (K (E w)+1) (Z Y ((s:Int)+1)) (J q r.n k) (Z Y a.all)) (s+1) (fh P r.n a) q k Q O v T sv:=by
  refine⟨(G _ (by omega)).trans h.jb,?_,(G _ (by omega)).trans h.ob,?_,N,R,I,?_,h.sm,by have:=h.OL;omega,h.key,h.len,h.lt⟩
  .rw[y];rfl
  .refine Dk.dv (Dk.rJ m) l (λg f e=>?_);obtain⟨t,hc,_⟩:=dh m f;exact de hc h.cb (by decide) e
  .rw[show cY-(s+1)+1=cY-s by omega];exact A
 exact L.below W
end
def Dc(r:Rc)(O0:Nat->Prop)(v0:WS)(out:Out)(w:WR)(e:Ending)(w':WR):Prop:=(out.e=0->∃sl,e=WZ (WY #[Z .u8 out.res.outcome,Z Y out.res.step,Z Y out.res.dt,sl])/\w'.ownsRow (K (E w)) 2 1 sl (Xg out.res.dA) (out.res.dA.map (Z Y)))/\(out.e≠0->e=.panicked (gE out.e))/\
 ∃j l m,r.I w' out.R j l m out.saved/\fj w (OR O0 r.S v0 r.RB) w' (OR j r.S l r.RB)
theorem DW{r:Rc}{O0 O:Nat->Prop}{v0 v:WS}{out:Out}{w y:WR}{T:Sn.Tb}{o s i:Int}{V:List Int}{p:Option Addr}{n k B:Nat}(N:(out.res.outcome:Int)=o/\(out.res.step:Int)=s/\(out.res.dt:Int)=i/\out.res.dA=V/\(Xg V)=n)(he:out.e=0)(M:r.I y out.R O v T out.saved)(l:fj w (OR O0 r.S v0 r.RB) y (OR O r.S v r.RB))(G:y.heap[K (E w)+1+1]?=S (D #[Z .u8 0,Z Y 0,Z Y 0,J U 0 0] 32 (0,0)))(L:y.ownsRow B 2 1 (J p n k) n (V.map (Z Y)))(X:K (E w)+1+1<B)(x:r.FB<K (E w)/\r.EB<K (E w)/\r.SB<K (E w)/\r.RB<K (E w)/\6<K (E w)):Dc r O0 v0 out w (WZ (WY #[Z .u8 o,Z Y s,Z Y i,J p n k])) (j6 y (K (E w)+1+1) (Z .u8 o) (Z Y s) (Z Y i) (J p n k)):=by
 obtain⟨q,f,t,g,e5⟩:=N;have A:K (E w)+1+1≠r.FB/\(K (E w))+1+1≠r.EB/\(K (E w))+1+1≠r.SB/\(K (E w))+1+1≠r.RB/\(K (E w))+1+1≠6:=by omega
 have C:¬OO O r.S v (K (E w)+1+1):=je M.sf G (by decide);refine⟨λ_=>⟨J p n k,by rw[q,f,t],?_⟩,λh=>absurd he h,O,v,T,(((M.set C A 0 _).set C A 1 _).set C A 2 _).set C A 3 _,?_⟩
 .rw[g,e5];have F:∀{W:WR} (j:Nat) (u:WS),W.ownsRow B 2 1 (J p n k) n (V.map (Z Y))->(W.setCell ⟨K (E w)+1+1,j,U⟩ u).ownsRow B 2 1 (J p n k) n (V.map (Z Y)):=λj u h=>Um h (a:=⟨K (E w)+1+1,j,U⟩) X u
  exact fy (F 3 _ (F 2 _ (F 1 _ (F 0 _ L)))) (by omega)
 .have m:Kept y (j6 y (K (E w)+1+1) (Z .u8 o) (Z Y s) (Z Y i) (J p n k)) (λj=>j≠(K (E w))+1+1):=((((Kept.refl y _).setCell (λz=>z rfl) _).setCell (λz=>z rfl) _).setCell (λz=>z rfl) _).setCell (λz=>z rfl) _;refine⟨⟨m.os.trans l.kept.os,m.tape.trans l.kept.tape,m.output.trans l.kept.output,Uc l.kept.size m.size,λj hj L=>?_⟩,l.own⟩;rw[m.block j (by have:=l.kept.size;omega) (by omega)];exact l.kept.block j hj L
end Ru
namespace Ru
open Sp (Pg Ed Cfg nH quiet lI fh gA eY iO)
open Rd (Rk e0)
open Pk (iV Sm fj TP dh cV de)
open Dk (Kept)
theorem OS(r:Rc)(B:Nat)(pf:Option Addr)(kf:Nat)(pe:Option Addr)(ke cY:Nat)(P:Pg)(Es:List Ed)(p:Option Addr)(cap:Nat)(c0:Cfg)(z f:Addr)(out:Out)(nn b:Nat)(Q:Rk)(O:Nat->Prop)(v:WS)(T:Sn.Tb)(w:WR)(hI:r.I w Q O v T 0)(aH:∀W O' v',fj w (OR O r.S v r.RB) W (OR O' r.S v' r.RB)->jJ W B P/\jY W z f/\IG W pe r.n Es)(aI:w.ownsRow 0 104 4 (J p r.n cap) r.n (jg c0.val c0.fC c0.iI c0.jf r.n))(aP:eY r.n c0)(hj:iO P Es r.n)(hl:cY<=200)(aQ:r.da<4294967296)(aR:0<r.every)(aJ:r.every<=50)(aS:r.dj<=4294967295)(aT:Sm Q nn b)(bF:nn+2000<=1000000000)(aU:1000<=b)(bA:b<=2097152)(hm:r.cX<=5)(hT:∀x∈T,x.1<=r.dj)(aV:Xg T<=r.cX)(aK:rz P Es cY r.every r.cX r.da r.n r.dj ((cY-r.dj)+1) r.dj c0 (T.map (·.1)) 0 Q=out):WT prog 25 #[WY (dV B pf r.n kf pe ke cY),gy r.dj p r.n cap c0.all,.func (.func 52) #[] #[WV (S ⟨r.FB,0,U⟩),WV (S ⟨r.EB,0,U⟩),WV (S ⟨r.SB,0,U⟩),WV (S ⟨r.RB,0,U⟩)]] w (Dc r O v out w):=by
 generalize hO:Dc r O v out w=PP;replace hO:=cT hO;have HJ:=cT hj;have aW:=cT aH;have g:=hj.It;have aX:=cT (jj w (dV B pf r.n kf pe ke cY) #[Z Y (r.dj:Int),J p r.n cap,Z Y c0.all] #[Z .u8 0,Z Y 0,Z Y 0,J U 0 0] 75 80 32);have aY:r.FB<K (E w)/\r.EB<K (E w)/\r.SB<K (E w)/\r.RB<K (E w)/\6<K (E w):=⟨cV hI.fb,cV hI.eb,cV hI.sb,cV hI.rb,hI.sf.pw.lt⟩
 have aZ:Hid (∀W,WQ w W->W.heap[K (E w)]?=S (D (dV B pf r.n kf pe ke cY) 75 (0,0))->W.heap[K (E w)+1]?=S (D #[Z Y (r.dj:Int),J p r.n cap,Z Y c0.all] 80 (0,0))->W.heap[K (E w)+1+1]?=S (D #[Z .u8 0,Z Y 0,Z Y 0,J U 0 0] 32 (0,0))->H5 r w O v nn b P Es cY out (dV B pf r.n kf pe ke cY) W r.dj c0 p cap Q O v T 0):=λW hb h1 h2 h3 =>
  ⟨h1,h2,h3,dd aI hb,aP,hI.below hb,fj.below _ hb,aK,aT,by omega,λx hx=>Xa (hT x hx),aV,aY⟩
 have aq:Hid (∀(args:Array WS) (w:WR),(callFunc 41 args).run prog w=.ok (.enter 41 args) w):=cZ func41 (by kernel_rfl) (by kernel_rfl);clear hI aH aI aP hj aK aT hT aV aY;unfold gy;unfold dV at *;go_enter func25,ntmps25;go_wp2_with fail;generalize hW:Xe (Xe _ _) _=W0;obtain⟨a1,a6,a7,a8,bB⟩:=cS aX W0 hW.symm;have ba:=cT (cS aZ W0 a8 a1 a6 a7);clear hW aX a1 a6 a7 aZ a8 bB
 go_loopw [7] (λ_ wr=>∃(s:Nat) (c:Cfg) (p:Option Addr) (cap:Nat) (Q:Rk) (O1:Nat->Prop) (v1:WS) (T:Sn.Tb) (sv:Nat),s<=4294967295/\Hid (H5 r w O v nn b P Es cY out #[WV (S ⟨B,0,U⟩),J pf r.n kf,J pe r.n ke,Z Y (cY:Int)] wr s c p cap Q O1 v1 T sv)) (λ_ wr=>cY+1-te (K (E w)+1) wr)
 case atStart=>exact⟨r.dj,c0,p,cap,Q,O,v,T,0,aS,ba⟩
 case round =>
  clear ba aS;obtain⟨s,c,p,cap,Q,O1,v1,T,sv,hs,HI⟩:=hrel;have bc:=(cS HI).st.kept.size;obtain⟨j0,j1,j2,j3⟩:=fK (B:=B) (pf:=pf) (n:=r.n) (kf:=kf) (pe:=pe) (ke:=ke) (cY:=cY) (cS HI).jb;obtain⟨k0,k1,k2,_⟩:=dQ (cS HI).cb;have bd:Hid (te (K (E w)+1) wr=s):=by show _=_;rw[nr k0];rfl
  have C:kg wr p c r.n:=by
   obtain⟨p',aa,e,hv⟩:=gU (all:=c.all) (cS HI).row;injection e with e1 _ e3;subst e1;exact hv
  have aG:=cT (pending B pf r.n kf pe ke cY s p r.n cap c wr C (cS HI).ok.lv g hs hl);unfold gy dV at aG;have bg:=AI cY c s;obtain⟨en,ao⟩:∃en,Hid (Sp.gA cY c s=en):=⟨_,rfl⟩
  rw[cS ao] at aG bg;clear C;go_wp2_with fail;refine(cS aG).mono ?_;rintro e w2 ⟨rfl,aL⟩;have l:=cT ((cS HI).below aL);have bC:K (E w)+1+1<K (E w2):=cV (cS l).ob;clear j0 j1 j2 j3 k0 k1 k2 aG aL HI bc;obtain⟨k0,k1,k2,_⟩:=dQ (cS l).cb;by_cases c1:en=0
  .subst c1;obtain⟨aM,_,aN⟩:=FC (cS l).go (cS ao);have bD:0<r.n:=by
    have h1:=cS ao;unfold Sp.gA at h1;have hq:¬Sp.quiet c s=W8:=λhq=>by rw[T0 hq] at h1;exact absurd h1 (by decide)
    rcases Nat.eq_zero_or_pos r.n with h0|h0
    .exact absurd (by unfold Sp.quiet;rw[(cS l).ok.lv,h0];rfl) hq
    .exact h0
   clear bg;by_cases hd:r.dj<s/\s%r.every=0
   .have C:kg w2 p c r.n:=by
     obtain⟨p',aa,e,hv⟩:=gU (all:=c.all) (cS l).row;injection e with e1 _ e3;subst e1;exact hv
    have bE:=(cS l).OL;have ar:=cT (Js r.D r.E r.S r.da r.n r.cX (nn+8*sv) b Q r.R O1 v1 T r.FB r.EB r.SB r.RB r.every r.dj sv r.y r.z s p cap c w2 (cS l).rs aR aJ (by omega) hd.1 hd.2 C g bD aQ (λx hx=>by rcases(cS l).key x hx with e | e <;> omega) (cS l).sm (by omega) aU bA (by have:=(cS l).len;omega) (by omega) (by omega));have bh:=cT (aN hd);clear C aN;go_wp2_with fail;refine(cS ar).mono ?_;rintro e w3 ⟨q1,q2,O3,v3,T3,bj,aO,au⟩;by_cases hz:(ud Q c r.n s r.da (T.map (·.1)) r.cX sv).1=0
    .obtain rfl:=q1 hz;have t:=cT ((cS l).due (cS ao) hd hz (bj hz) aO au g aU);obtain⟨Q3,av⟩:∃q,Hid ((ud Q c r.n s r.da (T.map (·.1)) r.cX sv).2.2=q):=⟨_,rfl⟩
     obtain⟨ab,aw⟩:∃q,Hid ((ud Q c r.n s r.da (T.map (·.1)) r.cX sv).2.1=q):=⟨_,rfl⟩
     rw[cS av,cS aw] at t;clear q1 q2 bj aO au ar bh l k0 k1 k2 av aw hz bE hd;obtain⟨j0,j1,j2,j3⟩:=fK (B:=B) (pf:=pf) (n:=r.n) (kf:=kf) (pe:=pe) (ke:=ke) (cY:=cY) (cS t).jb;obtain⟨k0,k1,k2,_⟩:=dQ (cS t).cb;have C:kg w3 p c r.n:=by
      obtain⟨p',aa,e,hv⟩:=gU (all:=c.all) (cS t).row;injection e with e1 _ e3;subst e1;exact hv
     obtain⟨dP,dE,dB⟩:=cS aW w3 O3 v3 (cS t).st;have G:=cT (Kf B pf r.n kf pe ke cY P Es p cap s c z f w3 dP dE dB C (cS t).ok (cS HJ) (by omega));unfold gy dV at G;obtain⟨o,ad⟩:∃o,Hid (Sp.lI P Es c s r.n=o):=⟨_,rfl⟩
     rw[cS ad] at G;clear C dP dE dB;go_wp2_with fail;cases o with
     |error i =>
      refine(cS G).mono ?_;rintro e w4 ⟨M,rfl⟩;have m:=cT ((cS t).below M);have ag:Hid (((out.res.outcome:Int)=3/\(out.res.step:Int)=(s:Int)/\(out.res.dt:Int)=(i:Int)/\out.res.dA=c.val/\(Xg c.val)=r.n)/\out.saved=ab/\out.e=0/\out.R=Q3):=by
       have h:out=⟨⟨3,s,i,c.val⟩,ab,0,Q3⟩:=by have:=(cS m).go;rw[cS ad] at this;exact this
       rw[h];exact⟨⟨rfl,rfl,rfl,rfl,(cS m).ok.lv⟩,rfl,rfl,rfl⟩
      clear j0 j1 j2 j3 k0 k1 k2 t M G;go_upto_region 7 with fail;generalize ax:Xe _ _=w5;have ay:WQ w4 w5:=by rw[<-ax];exact WO.alloc WN _
      have L:=cT ((cS m).below ay);obtain⟨k0,k1,k2,_⟩:=dQ (cS L).cb;have ah:K (E w)+1+1<K (E w5):=cV (cS L).ob;have az:K (E w)+1<K (E w5):=by omega
      have aA:=cT (cS L).ob;have ai:kg w5 p c r.n:=by
       obtain⟨p',aa,e,hv⟩:=gU (all:=c.all) (cS L).row;injection e with e1 _ e3;subst e1;exact hv
      have aj:Hid (∀W,WQ w5 W->WT prog 41 #[WY #[Z Y (s:Int),J p r.n cap,Z Y c.all]] W λe w'=>WQ W w'/\∃v,e=WZ v/\w'.ownsRow (K (E w5)) 2 1 v r.n (c.val.map (Z Y))):=by
       show ∀W,_
       intro W hW;refine(rS s p r.n cap c W (ai.below hW) (cS L).ok.lv g).mono ?_;rintro e w' ⟨h1,v,h2,h3⟩;exact⟨h1,v,h2,fy h3 hW.size⟩
      clear ax ay ai m
      go_region_law (refine du (by rfl) _ _ _ (by rfl) 41 (by rfl) _ (by rfl) (cS aq) (cS aj _ (by first|exact T4 _ _|exact WO.drew)) ?_;rintro e u ⟨A,vv,rfl,N⟩;obtain⟨V,X,ae,_⟩:=dm N;subst ae;dsimp only;have F:WQ w5 u:=(by first|exact A|exact WO.drew.trans (A.mono WN));have q0:u.cell? ⟨K (E w)+1,0,U⟩=S (Z Y (s:Int)):=(F.cell (p:=⟨K (E w)+1,0,U⟩) az).trans k0;have j:=(F.block (K (E w)+1+1) ah).trans (cS aA);have r0:u.cell? ⟨K (E w)+1+1,0,U⟩=S (Z .u8 0):=(by simp[Xc,j]);have bk:u.frozen? ⟨K (E w)+1+1,0,U⟩=W9:=(by simp[World.frozen?,j]);have r1:u.cell? ⟨K (E w)+1+1,1,U⟩=S (Z Y 0):=(by simp[Xc,j]);have bn:u.frozen? ⟨K (E w)+1+1,1,U⟩=W9:=(by simp[World.frozen?,j]);have r2:u.cell? ⟨K (E w)+1+1,2,U⟩=S (Z Y 0):=(by simp[Xc,j]);have bo:u.frozen? ⟨K (E w)+1+1,2,U⟩=W9:=(by simp[World.frozen?,j]);have r3:u.cell? ⟨K (E w)+1+1,3,U⟩=S (J U 0 0):=(by simp[Xc,j]);have bp:u.frozen? ⟨K (E w)+1+1,3,U⟩=W9:=(by simp[World.frozen?,j]);have aB:=cT F;have aC:=cT N;clear F A N j)
      all_goals
       have aD:Hid (PP (WZ (WY #[Z .u8 3,Z Y (s:Int),Z Y (i:Int),J V r.n X])) (j6 u (K (E w)+1+1) (Z .u8 3) (Z Y (s:Int)) (Z Y (i:Int)) (J V r.n X))):=by
        show PP _ _
        rw[<-cS hO];obtain⟨q1,q2,q3,q4⟩:=cS ag;have hq:=(cS L).below (cS aB);have ak:=hq.rs;rw[<-q2,<-q4] at ak;exact DW q1 q3 ak hq.st hq.ob (cS aC) ah hq.lt
       first
        | (go_wp2;exact T8 (v := WY #[Z .u8 3,Z Y (s:Int),Z Y (i:Int),J V r.n X]) (by simp[results,results25,go_sem,r0,r1,r2,r3]) rfl (cS aD))
        |trace_state
     |ok a =>
      refine(cS G).mono ?_;rintro e w4 ⟨M,sl,rfl,an⟩;obtain⟨pn,kn,ae,_⟩:=dm an;subst ae;have m:=cT ((cS t).below M);have aE:Sp.eY r.n (Sp.fh P r.n a):=Sp.rZ (cS HJ) (Sp.sI (cS HJ) lN (cS m).ok (by omega) r.n WN a (cS ad));have aF:Hid (∀o,H5 r w O v nn b P Es cY out #[WV (S ⟨B,0,U⟩),J pf r.n kf,J pe r.n ke,Z Y (cY:Int)] ((fS w4 (K (E w)+1) (Z Y ((s:Int)+1)) (J pn r.n kn) (Z Y a.all)).alloc o) (s+1) (Sp.fh P r.n a) pn kn Q3 O3 v3 T3 ab):=λo=>Mt.next o (cS m) (cS ad) aM aE an
      clear j0 j1 j2 j3 k0 k1 k2;obtain⟨k0,k1,k2,af⟩:=dQ (cS m).cb;have f0:=af 0;have f1:=af 1;have f2:=af 2;have bq:K (E w)+1<K (E w4):=cV (cS m).cb;clear an M t G m af;go_wp2;go_roundw
      case rel=>exact⟨s+1,_,pn,kn,Q3,O3,v3,T3,ab,by omega,cT (cS aF _)⟩
      case measure =>
       have h1:=cS bd;have h2:=nr (dQ (cS aF (D #[Z Y ((s:Int)+1),J pn r.n kn,Z Y a.all] 80)).cb).1;unfold fS at h2;rw[h1,h2];omega
    .obtain rfl:=q2 hz;have HF:Hid (PP (.panicked (gE (ud Q c r.n s r.da (T.map (·.1)) r.cX sv).1)) w3):=by
      show PP _ _
      rw[<-cS hO,(cS bh).1 hz];exact⟨λh=>absurd h hz,λ_=>rfl,O3,v3,T3,aO,(cS l).st.trans au⟩
     exact⟨rfl,cS HF⟩
   .have ar:=cT (Jt r.D r.E r.S r.da r.n r.cX Q r.R O1 v1 T r.FB r.EB r.SB r.RB r.every r.dj sv r.y r.z s p cap c.all w2 (cS l).rs aR aJ (by omega) (by have:=(cS l).OL;omega) hd);have br:=cT ((cS l).QN (cS ao) hd);clear aN hd;go_wp2_with fail;refine(cS ar).mono ?_;rintro e w3 ⟨rfl,bs⟩;have t:=cT ((cS br).below bs);clear br bs ar l k0 k1 k2;obtain⟨Q3,av⟩:∃q,Hid (Q=q):=⟨_,rfl⟩
    obtain⟨ab,aw⟩:∃q,Hid (sv=q):=⟨_,rfl⟩
    obtain⟨O3,bu⟩:∃q,Hid (O1=q):=⟨_,rfl⟩
    obtain⟨v3,bw⟩:∃q,Hid (v1=q):=⟨_,rfl⟩
    obtain⟨T3,bx⟩:∃q,Hid (T=q):=⟨_,rfl⟩
    rw[cS av,cS aw,cS bu,cS bw,cS bx] at t;clear av aw bu bw bx;obtain⟨j0,j1,j2,j3⟩:=fK (B:=B) (pf:=pf) (n:=r.n) (kf:=kf) (pe:=pe) (ke:=ke) (cY:=cY) (cS t).jb;obtain⟨k0,k1,k2,_⟩:=dQ (cS t).cb;have C:kg w3 p c r.n:=by
     obtain⟨p',aa,e,hv⟩:=gU (all:=c.all) (cS t).row;injection e with e1 _ e3;subst e1;exact hv
    obtain⟨dP,dE,dB⟩:=cS aW w3 O3 v3 (cS t).st;have G:=cT (Kf B pf r.n kf pe ke cY P Es p cap s c z f w3 dP dE dB C (cS t).ok (cS HJ) (by omega));unfold gy dV at G;obtain⟨o,ad⟩:∃o,Hid (Sp.lI P Es c s r.n=o):=⟨_,rfl⟩
    rw[cS ad] at G;clear C dP dE dB;go_wp2_with fail;cases o with
    |error i =>
     refine(cS G).mono ?_;rintro e w4 ⟨M,rfl⟩;have m:=cT ((cS t).below M);have ag:Hid (((out.res.outcome:Int)=3/\(out.res.step:Int)=(s:Int)/\(out.res.dt:Int)=(i:Int)/\out.res.dA=c.val/\(Xg c.val)=r.n)/\out.saved=ab/\out.e=0/\out.R=Q3):=by
      have h:out=⟨⟨3,s,i,c.val⟩,ab,0,Q3⟩:=by have:=(cS m).go;rw[cS ad] at this;exact this
      rw[h];exact⟨⟨rfl,rfl,rfl,rfl,(cS m).ok.lv⟩,rfl,rfl,rfl⟩
     clear j0 j1 j2 j3 k0 k1 k2 t M G;go_upto_region 7 with fail;generalize ax:Xe _ _=w5;have ay:WQ w4 w5:=by rw[<-ax];exact WO.alloc WN _
     have L:=cT ((cS m).below ay);obtain⟨k0,k1,k2,_⟩:=dQ (cS L).cb;have ah:K (E w)+1+1<K (E w5):=cV (cS L).ob;have az:K (E w)+1<K (E w5):=by omega
     have aA:=cT (cS L).ob;have ai:kg w5 p c r.n:=by
      obtain⟨p',aa,e,hv⟩:=gU (all:=c.all) (cS L).row;injection e with e1 _ e3;subst e1;exact hv
     have aj:Hid (∀W,WQ w5 W->WT prog 41 #[WY #[Z Y (s:Int),J p r.n cap,Z Y c.all]] W λe w'=>WQ W w'/\∃v,e=WZ v/\w'.ownsRow (K (E w5)) 2 1 v r.n (c.val.map (Z Y))):=by
      show ∀W,_
      intro W hW;refine(rS s p r.n cap c W (ai.below hW) (cS L).ok.lv g).mono ?_;rintro e w' ⟨h1,v,h2,h3⟩;exact⟨h1,v,h2,fy h3 hW.size⟩
     clear ax ay ai m
     go_region_law (refine du (by rfl) _ _ _ (by rfl) 41 (by rfl) _ (by rfl) (cS aq) (cS aj _ (by first|exact T4 _ _|exact WO.drew)) ?_;rintro e u ⟨A,vv,rfl,N⟩;obtain⟨V,X,ae,_⟩:=dm N;subst ae;dsimp only;have F:WQ w5 u:=(by first|exact A|exact WO.drew.trans (A.mono WN));have q0:u.cell? ⟨K (E w)+1,0,U⟩=S (Z Y (s:Int)):=(F.cell (p:=⟨K (E w)+1,0,U⟩) az).trans k0;have j:=(F.block (K (E w)+1+1) ah).trans (cS aA);have r0:u.cell? ⟨K (E w)+1+1,0,U⟩=S (Z .u8 0):=(by simp[Xc,j]);have bk:u.frozen? ⟨K (E w)+1+1,0,U⟩=W9:=(by simp[World.frozen?,j]);have r1:u.cell? ⟨K (E w)+1+1,1,U⟩=S (Z Y 0):=(by simp[Xc,j]);have bn:u.frozen? ⟨K (E w)+1+1,1,U⟩=W9:=(by simp[World.frozen?,j]);have r2:u.cell? ⟨K (E w)+1+1,2,U⟩=S (Z Y 0):=(by simp[Xc,j]);have bo:u.frozen? ⟨K (E w)+1+1,2,U⟩=W9:=(by simp[World.frozen?,j]);have r3:u.cell? ⟨K (E w)+1+1,3,U⟩=S (J U 0 0):=(by simp[Xc,j]);have bp:u.frozen? ⟨K (E w)+1+1,3,U⟩=W9:=(by simp[World.frozen?,j]);have aB:=cT F;have aC:=cT N;clear F A N j)
     all_goals
      have aD:Hid (PP (WZ (WY #[Z .u8 3,Z Y (s:Int),Z Y (i:Int),J V r.n X])) (j6 u (K (E w)+1+1) (Z .u8 3) (Z Y (s:Int)) (Z Y (i:Int)) (J V r.n X))):=by
       show PP _ _
       rw[<-cS hO];obtain⟨q1,q2,q3,q4⟩:=cS ag;have hq:=(cS L).below (cS aB);have ak:=hq.rs;rw[<-q2,<-q4] at ak;exact DW q1 q3 ak hq.st hq.ob (cS aC) ah hq.lt
      first
       | (go_wp2;exact T8 (v := WY #[Z .u8 3,Z Y (s:Int),Z Y (i:Int),J V r.n X]) (by simp[results,results25,go_sem,r0,r1,r2,r3]) rfl (cS aD))
       |trace_state
    |ok a =>
     refine(cS G).mono ?_;rintro e w4 ⟨M,sl,rfl,an⟩;obtain⟨pn,kn,ae,_⟩:=dm an;subst ae;have m:=cT ((cS t).below M);have aE:Sp.eY r.n (Sp.fh P r.n a):=Sp.rZ (cS HJ) (Sp.sI (cS HJ) lN (cS m).ok (by omega) r.n WN a (cS ad));have aF:Hid (∀o,H5 r w O v nn b P Es cY out #[WV (S ⟨B,0,U⟩),J pf r.n kf,J pe r.n ke,Z Y (cY:Int)] ((fS w4 (K (E w)+1) (Z Y ((s:Int)+1)) (J pn r.n kn) (Z Y a.all)).alloc o) (s+1) (Sp.fh P r.n a) pn kn Q3 O3 v3 T3 ab):=λo=>Mt.next o (cS m) (cS ad) aM aE an
     clear j0 j1 j2 j3 k0 k1 k2;obtain⟨k0,k1,k2,af⟩:=dQ (cS m).cb;have f0:=af 0;have f1:=af 1;have f2:=af 2;have bq:K (E w)+1<K (E w4):=cV (cS m).cb;clear an M t G m af;go_wp2;go_roundw
     case rel=>exact⟨s+1,_,pn,kn,Q3,O3,v3,T3,ab,by omega,cT (cS aF _)⟩
     case measure =>
      have h1:=cS bd;have h2:=nr (dQ (cS aF (D #[Z Y ((s:Int)+1),J pn r.n kn,Z Y a.all] 80)).cb).1;unfold fS at h2;rw[h1,h2];omega
  .have bG:(en != 0)=W8:=by rw[VH];exact c1
   obtain⟨e1,e2,e3,e4⟩:=JK (cS l).go (cS ao) c1;have ag:Hid (((out.res.outcome:Int)=en/\(out.res.step:Int)=(s:Int)/\(out.res.dt:Int)=0/\out.res.dA=c.val/\(Xg c.val)=r.n)/\out.saved=sv/\out.e=0/\out.R=Q):=⟨⟨e1.1,e1.2.1,e1.2.2.1,e1.2.2.2,(cS l).ok.lv⟩,e2,e3,e4⟩
   have C:kg w2 p c r.n:=by
    obtain⟨p',aa,e,hv⟩:=gU (all:=c.all) (cS l).row;injection e with e1 _ e3;subst e1;exact hv
   have aj:Hid (∀W,WQ w2 W->WT prog 41 #[WY #[Z Y (s:Int),J p r.n cap,Z Y c.all]] W λe w'=>WQ W w'/\∃v,e=WZ v/\w'.ownsRow (K (E w2)) 2 1 v r.n (c.val.map (Z Y))):=by
    show ∀W,_
    intro W hW;refine(rS s p r.n cap c W (C.below hW) (cS l).ok.lv g).mono ?_;rintro e w' ⟨h1,v,h2,h3⟩;exact⟨h1,v,h2,fy h3 hW.size⟩
   have az:K (E w)+1<K (E w2):=by omega
   have ah:K (E w)+1+1<K (E w2):=bC;have aA:=cT (cS l).ob;clear e1 e2 e3 e4 c1 C;go_upto_region 3 with fail
   go_region_law (refine du (by rfl) _ _ _ (by rfl) 41 (by rfl) _ (by rfl) (cS aq) (cS aj _ (by first|exact T4 _ _|exact WO.drew)) ?_;rintro e u ⟨A,vv,rfl,N⟩;obtain⟨V,X,ae,_⟩:=dm N;subst ae;dsimp only;have F:WQ w2 u:=(by first|exact A|exact WO.drew.trans (A.mono WN));have q0:u.cell? ⟨K (E w)+1,0,U⟩=S (Z Y (s:Int)):=(F.cell (p:=⟨K (E w)+1,0,U⟩) az).trans k0;have j:=(F.block (K (E w)+1+1) ah).trans (cS aA);have r0:u.cell? ⟨K (E w)+1+1,0,U⟩=S (Z .u8 0):=(by simp[Xc,j]);have bk:u.frozen? ⟨K (E w)+1+1,0,U⟩=W9:=(by simp[World.frozen?,j]);have r1:u.cell? ⟨K (E w)+1+1,1,U⟩=S (Z Y 0):=(by simp[Xc,j]);have bn:u.frozen? ⟨K (E w)+1+1,1,U⟩=W9:=(by simp[World.frozen?,j]);have r2:u.cell? ⟨K (E w)+1+1,2,U⟩=S (Z Y 0):=(by simp[Xc,j]);have bo:u.frozen? ⟨K (E w)+1+1,2,U⟩=W9:=(by simp[World.frozen?,j]);have r3:u.cell? ⟨K (E w)+1+1,3,U⟩=S (J U 0 0):=(by simp[Xc,j]);have bp:u.frozen? ⟨K (E w)+1+1,3,U⟩=W9:=(by simp[World.frozen?,j]);have aB:=cT F;have aC:=cT N;clear F A N j)
   all_goals
    have aD:Hid (PP (WZ (WY #[Z .u8 en,Z Y (s:Int),Z Y 0,J V r.n X])) (j6 u (K (E w)+1+1) (Z .u8 en) (Z Y (s:Int)) (Z Y 0) (J V r.n X))):=by
     show PP _ _
     rw[<-cS hO];obtain⟨q1,q2,q3,q4⟩:=cS ag;have hq:=(cS l).below (cS aB);have ak:=hq.rs;rw[<-q2,<-q4] at ak;exact DW q1 q3 ak hq.st hq.ob (cS aC) ah hq.lt
    first
     | (go_wp2;exact T8 (v := WY #[Z .u8 en,Z Y (s:Int),Z Y 0,J V r.n X]) (by simp[results,results25,go_sem,r0,r1,r2,r3]) rfl (cS aD))
     |trace_state
end Ru
namespace Ru
open Rd (Rk e0)
open Pk (iV Sm fj TP dh cV de)
open Dk (Kept)
theorem qj(v:WS)(b:TypeId)(w:WR):(Instr.typeAssert (.iface 120 v) b 120 W8).run prog w=.ok (WX #[v,.bool W8]) w:=by
 simp[Instr.typeAssert,run_underlying underlying120]
theorem CA(p:Addr)(w:WR):CallsD prog 49 #[WV (S p)] .returning w λe j l=>e=WZ (WX #[])/\j=.returning/\l=w:=by
 refine callsD_of_wpS func49 O λb m hu=>?_
 simp only[ntmps49,VD,Uf,Vl,Nat.reduceAdd,Nat.reduceSub,VJ,VK,VL,VM,U2,UM];apply wpS_seq;apply wpS_region;simp[wpOpsS,go_sem,recoverD,hu,ntmps49,Exit.thenS];refine wpS_of_wp ?_;go_wp2;exact⟨rfl,b.mode,by cases b;rfl,WX #[],Ua O _ _ _,O,hu,O⟩
theorem CD(g:Nat)(x e:Int)(w:WR)(b:w.cell? ⟨g,0,U⟩=S (Z Y x))(y:w.frozen? ⟨g,0,U⟩=W9):CallsD prog 49 #[WV (S ⟨g,0,U⟩)] (.panicking (gE e)) w λj l m =>
   j=WZ (WX #[])/\l=.panicking [{ v := .iface 120 (WY #[Z Y e]),recovered:=true }]/\∃o,m=(w.setCell ⟨g,0,U⟩ (Z Y e)).alloc o:=by
 unfold gE;have z:g<K (E w):=Ui w _ b;refine callsD_of_wpS func49 O λA B hu=>?_
 simp only[ntmps49,VD,Uf,Vl,Nat.reduceAdd,Nat.reduceSub,VJ,VK,VL,VM,U2,UM];apply wpS_seq;apply wpS_region;simp[wpOpsS,go_sem,recoverD,hu,ntmps49,Exit.thenS];refine wpS_of_wp ?_;have r:=λ(u:TypeId) (W:WR)=>qj (WY #[Z Y e]) u W
 go_wp2;exact⟨O,_,O,WX #[],Ua O _ _ _,O,O,_,O⟩
end Ru
namespace Ru
open Rd (Rk e0)
open Pk (iV Sm fj TP dh cV de)
open Dk (Kept)
structure Rn (W:WR) (XB RB GB:Nat) (a b c:Int) (p:Option Addr) (n k:Nat) (dj sv:Nat) (er:Int):Prop where
 x:W.heap[XB]?=S (D #[Z .u8 a,Z Y b,Z Y c,J p n k] 32 (0,0))
 r:W.heap[RB]?=S (D #[Z Y (dj:Int),Z Y (sv:Int)] 43 (0,0))
 g:W.heap[GB]?=S (D #[Z Y er] 33 (0,0))
def lS(a b c:Int)(p:Option Addr)(n k:Nat)(dj sv:Nat)(er:Int):WS := WX #[WY #[Z .u8 a,Z Y b,Z Y c,J p n k],WY #[Z Y (dj:Int),Z Y (sv:Int)],Z Y er]
variable {c a er b:Int}{sv k dj RB XB n GB:Nat}{p:Option Addr}{tmps:Array WS}{W:WR}
theorem tG(e:tmps[6]?=S (WV (S ⟨XB,0,U⟩)))(j:tmps[7]?=S (WV (S ⟨RB,0,U⟩)))(l:tmps[8]?=S (WV (S ⟨GB,0,U⟩)))(h:Rn W XB RB GB a b c p n k dj sv er):(results f32 tmps).run prog W=.ok (lS a b c p n k dj sv er) W:=by
 have m:W.cell? ⟨XB,0,U⟩=S (Z .u8 a):=by rw[T5 W _ 0 _ _ _ h.x];rfl
 have u:W.cell? ⟨XB,1,U⟩=S (Z Y b):=by rw[T5 W _ 1 _ _ _ h.x];rfl
 have y:W.cell? ⟨XB,2,U⟩=S (Z Y c):=by rw[T5 W _ 2 _ _ _ h.x];rfl
 have z:W.cell? ⟨XB,3,U⟩=S (J p n k):=by rw[T5 W _ 3 _ _ _ h.x];rfl
 have A:W.cell? ⟨RB,0,U⟩=S (Z Y (dj:Int)):=by rw[T5 W _ 0 _ _ _ h.r];rfl
 have B:W.cell? ⟨RB,1,U⟩=S (Z Y (sv:Int)):=by rw[T5 W _ 1 _ _ _ h.r];rfl
 have C:W.cell? ⟨GB,0,U⟩=S (Z Y er):=by rw[T5 W _ 0 _ _ _ h.g];rfl
 clear h;unfold lS
 simp_all [results,results32,go_sem,Value.oneCell']
def Ro(GB:Nat):Deferred:={ target := .fn (.func 49) #[WV (S ⟨GB,0,U⟩)],args := #[] }
theorem pC{O:Ending->WR->Prop}(z:tmps[6]?=S (WV (S ⟨XB,0,U⟩)))(A:tmps[7]?=S (WV (S ⟨RB,0,U⟩)))(B:tmps[8]?=S (WV (S ⟨GB,0,U⟩))){e:Int}(h:Rn W XB RB GB a b c p n k dj sv er)(C:∀o,O (WZ (lS a b c p n k dj sv e)) ((W.setCell ⟨GB,0,U⟩ (Z Y e)).alloc o)): Leaves prog f32 tmps O [Ro GB] (.panicking (gE e)) W:=by
 have F:W.cell? ⟨GB,0,U⟩=S (Z Y er):=by rw[T5 W _ 0 _ _ _ h.g];rfl
 have G:W.frozen? ⟨GB,0,U⟩=W9:=by simp[World.frozen?,h.g]
 refine leaves_cons (f:=49) (args := #[WV (S ⟨GB,0,U⟩)]) (by simp[Ro]) (by simp[go_sem,Ro]) ?_;refine(CD GB er e W F G).mono ?_;rintro M N I ⟨rfl,rfl,o,rfl⟩;have u:∀{j:Nat} {l:Array WS} {t:TypeId},W.heap[j]?=S (D l t (0,0))->j≠GB->((W.setCell ⟨GB,0,U⟩ (Z Y e)).alloc o).heap[j]?=S (D l t (0,0)):=λ{j l t} y m=>by
  rw[Ur _ _ _ (by simpa using cV y),Uj W _ _ j m];exact y
 have L:Rn ((W.setCell ⟨GB,0,U⟩ (Z Y e)).alloc o) XB RB GB a b c p n k dj sv e:=by
  refine⟨u h.x (de h.x h.g (by decide)),u h.r (de h.r h.g (by decide)),?_⟩;rw[Ur _ _ _ (by simpa using cV h.g),Ue W GB 0 _ _ _ h.g];rfl
 exact⟨_,tG z A B L,C o⟩
theorem Ay{O:Ending->WR->Prop}(e:tmps[6]?=S (WV (S ⟨XB,0,U⟩)))(j:tmps[7]?=S (WV (S ⟨RB,0,U⟩)))(l:tmps[8]?=S (WV (S ⟨GB,0,U⟩)))(h:Rn W XB RB GB a b c p n k dj sv er)(m:O (WZ (lS a b c p n k dj sv er)) W): Leaves prog f32 tmps O [Ro GB] .returning W:=by
 refine leaves_cons (f:=49) (args := #[WV (S ⟨GB,0,U⟩)]) (by simp[Ro]) (by simp[go_sem,Ro]) ?_;refine(CA ⟨GB,0,U⟩ W).mono ?_;rintro u y r ⟨rfl,rfl,rfl⟩;exact⟨_,tG e j l h,m⟩
end Ru
namespace Ru
open Sp (Pg Ed Cfg nH quiet lI fh gA eY iO)
open Rd (Rk e0)
open Pk (iV Sm fj TP dh cV de)
open Dk (Kept)
theorem yh{w w':WR}{O l:Nat->Prop}{b RB:Nat}{v v':WS}(h:fj w (OR O b v RB) w' (OR l b v' RB))(m:K (E w)<=RB):fj w (OO O b v) w' (OO l b v'):=⟨⟨h.kept.os,h.kept.tape,h.kept.output,h.kept.size,λk j r=>h.kept.block k j (λe=>by rcases e with e | e;exact r e;omega)⟩,λk j=>by
  rcases h.own k (Xa j) with e|e
  .rcases e with e|e
   .exact Xa e
   .exact Xb (by omega)
  .exact Xb e⟩
def DJ(P:Pg)(Es:List Ed)(cY every cX da n dj:Nat)(b:Cfg)(K:List Nat)(Q:Rk):Out:=if (eh Q (dR Q.fD K)).1≠0 then ⟨fG,0,(eh Q (dR Q.fD K)).1,(eh Q (dR Q.fD K)).2⟩
 else rz P Es cY every cX da n dj ((cY-dj)+1) dj b K 0 (eh Q (dR Q.fD K)).2
def NN(b E j da n cX dj:Nat)(R:Rk)(O:Nat->Prop)(v:WS)(out:Out)(w:WR)(e:Ending)(w':WR):Prop:=(∃p m k,e=WZ (lS out.res.outcome out.res.step out.res.dt p m k dj out.saved out.e)/\w'.ownsRow w.heap.size 2 1 (J p m k) (Xg out.res.dA) (out.res.dA.map (Z Y)))/\
 ∃l r u,ou w' b E j da n cX out.R R l r u/\fj w (OO O j v) w' (OO l j r)
theorem Oa(w:WR)(jc:Array WS)(b every:Nat):∀W,W=(((((w.alloc (D jc 75)).alloc (D #[WV (S ⟨b,0,U⟩)] 85)).alloc (D #[Z Y (every:Int)] 3)).alloc (D #[Z .u8 0,Z Y 0,Z Y 0,J U 0 0] 32)).alloc (D #[Z Y 0,Z Y 0] 43)).alloc (D #[Z Y 0] 33)->
  (W.heap[K (E w)]?=S (D jc 75 (0,0))/\W.heap[K (E w)+1]?=S (D #[WV (S ⟨b,0,U⟩)] 85 (0,0))/\W.heap[K (E w)+1+1]?=S (D #[Z Y (every:Int)] 3 (0,0))/\W.heap[K (E w)+1+1+1]?=S (D #[Z .u8 0,Z Y 0,Z Y 0,J U 0 0] 32 (0,0))/\W.heap[K (E w)+1+1+1+1]?=S (D #[Z Y 0,Z Y 0] 43 (0,0))/\W.heap[K (E w)+1+1+1+1+1]?=S (D #[Z Y 0] 33 (0,0)))/\WQ w W/\(K (E W))=K (E w)+6:=by
 rintro W rfl;have a:∀(W:WR) (o:Obj) (j:Nat),j<K (E W)->(W.alloc o).heap[j]?=W.heap[j]?:=λW o j h=>Ur W o j h
 have n:∀(W:WR) (o:Obj) (j:Nat),j=K (E W)->(W.alloc o).heap[j]?=S o:=λW o j h=>by rw[h];exact Vz W o
 refine⟨⟨?_,?_,?_,?_,?_,?_⟩,?_,by simp⟩
 .rw[a _ _ _ (by simp <;> omega),a _ _ _ (by simp <;> omega),a _ _ _ (by simp <;> omega),a _ _ _ (by simp <;> omega),a _ _ _ (by simp),n _ _ _ rfl]
 .rw[a _ _ _ (by simp <;> omega),a _ _ _ (by simp <;> omega),a _ _ _ (by simp <;> omega),a _ _ _ (by simp),n _ _ _ (by simp)]
 .rw[a _ _ _ (by simp <;> omega),a _ _ _ (by simp <;> omega),a _ _ _ (by simp),n _ _ _ (by simp)]
 .rw[a _ _ _ (by simp <;> omega),a _ _ _ (by simp),n _ _ _ (by simp)]
 .rw[a _ _ _ (by simp),n _ _ _ (by simp)]
 .rw[n _ _ _ (by simp)]
 .exact(((((((T4 _ w).alloc WN _).alloc (by simp) _).alloc (by simp <;> omega) _).alloc (by simp <;> omega) _).alloc (by simp <;> omega) _).alloc (by simp <;> omega) _)
theorem Ld(P:Pg)(b:List Int):jg b [] [] (List.replicate (Xg b) (Sp.eR P.pB)) (Xg b)=jg (Sp.fX P b).val (Sp.fX P b).fC (Sp.fX P b).iI (Sp.fX P b).jf (Xg b):=by
 have h:∀k,k<=Xg b->jg b [] [] (List.replicate (Xg b) (Sp.eR P.pB)) k=jg b (List.replicate (Xg b) W9) (List.replicate (Xg b) 0) (List.replicate (Xg b) (Sp.eR P.pB)) k:=by
  intro k
  induction k with
  |zero=>intro _;rfl
  |succ k j =>
   intro l;rw[mx,mx,j (by omega)];have e:k<Xg b:=by omega
   simp[List.getD,List.getElem?_replicate,e]
 exact h (Xg b) WN
end Ru
end Go.Proofs.YtgkkdpegcieakaaGreatDoor
