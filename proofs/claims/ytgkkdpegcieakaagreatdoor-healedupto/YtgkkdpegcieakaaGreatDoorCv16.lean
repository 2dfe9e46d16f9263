import Derived.Test.YtgkkdpegcieakaaGreatDoorCv15
set_option linter.all false
set_option maxRecDepth 100000
set_option maxHeartbeats 0
namespace Go.Proofs.YtgkkdpegcieakaaGreatDoor
open Go.Proofs.Tryz
open Value renaming int→Z,slice→J,string→H,pointer→V9,tuple→Wb
open Ending renaming returned→Wd
open Option renaming none→U,some→S
open Bool renaming true→We,false→Wg
open Or renaming inl→Wh,inr→Wi
open List renaming length→Wn
open IntKind renaming i64→Y
open Go renaming World→V5,Value→V6,Calls→V7
open Go.RowKit
namespace Pk
open Sd (Tb)
open Rd (Rk tab e0)
def bm(blk:Nat->Nat)(p:V8 × Nat):V8 × Nat:=(p.1,blk p.2)
def cm(blk:Nat->Nat)(c:Rd.Ch):Ch:=⟨c.goes,c.comes,if c.comes=e0 then U else S (blk c.file)⟩
theorem yX(blk:Nat->Nat)(T:Tb)(a:V8):Sd.dv (T.map (bm blk)) a=Sd.dv T a:=by
 unfold Sd.dv;rw[List.filter_map,Ue]
 rfl
theorem qN(blk:Nat->Nat)(T:Tb)(a:V8):Sd.dD (T.map (bm blk)) a=Sd.dD T a:=by
 unfold Sd.dD;rw[List.any_map]
 rfl
theorem M9(blk:Nat->Nat)(T:Tb)(a:V8):Sd.jy (T.map (bm blk)) a=(Sd.jy T a).map blk:=by
 unfold Sd.jy;rw[qN,yX];split
 .rw[Vd,Option.map_map,Option.map_map];rfl
 .rfl
theorem ET(blk:Nat->Nat)(T:Tb)(a:V8)(i:Nat):Sd.jZ (T.map (bm blk)) a (blk i)=(Sd.jZ T a i).map (bm blk):=by
 unfold Sd.jZ Sd.gJ;rw[qN,yX];split
 .rw[List.map_set];rfl
 .rw[UD,Uj,List.map_take,List.map_drop];rfl
theorem xk{α β : Type}(f : α->β):∀(L:List α) (k:Nat),(L.map f).eraseIdx k=(L.eraseIdx k).map f
 |[],_=>rfl
 |a::L,0=>rfl
 |a::L,k+1=>by simp[xk f L k]
theorem Fj(blk:Nat->Nat)(T:Tb)(a:V8):Sd.gN (T.map (bm blk)) a=(Sd.gN T a).map (bm blk):=by
 unfold Sd.gN;rw[qN,yX];split
 .exact xk (bm blk) T _
 .rfl
variable {T:Tb}
theorem Ml(h:Sd.dD T e0=Wg): Sd.gN T e0=T:=by unfold Sd.gN;rw[Tf (by rw[h];decide)]
theorem Ex{a:V8}:a.size=0↔a=e0:=⟨λh=>Uy (Array.eq_empty_of_size_eq_zero h),λh=>by rw[h];rfl⟩
theorem Ka(blk:Nat->Nat)(j:Sd.dD T e0=Wg)(c:Rd.Ch): nP (T.map (bm blk)) (cm blk c)=(Rd.Qy T c).map (bm blk):=by
 unfold nP Rd.Qy cm;by_cases e:c.comes=e0
 .simp only[Tg e];exact Fj blk T c.goes
 .simp only[Tf e];by_cases b:c.goes=e0
  .rw[Tg (Ex.2 b),b,Ml j];exact ET blk T c.comes c.file
  .rw[Tf (λh=>b (Ex.1 h)),Fj];exact ET blk _ c.comes c.file
variable {blk:Nat->Nat}
theorem A9{blk':Nat->Nat}{n:Nat}(b:∀p∈T,p.2<n)(h:∀i,i<n->blk' i=blk i): T.map (bm blk')=T.map (bm blk):=VJ λp e=>by unfold bm;rw[h _ (b p e)]
structure Is (d:Dv) (R:Rk) (blk:Nat->Nat):Prop where
 q:d.q=R.cZ
 names:d.names=(tab R.now).map (bm blk)
 safe:d.safe=(tab R.safe).map (bm blk)
 dX:d.dX=R.dX.map (cm blk)
 fs:d.fs=(List.range (Wn R.files)).map blk
 inj:∀i j,i<Wn R.files->j<Wn R.files->blk i=blk j->i=j
 F:∀i,i<Wn R.files->d.F (blk i)=⟨(R.fl i).bytes,(R.fl i).safe⟩
 Fs:∀f,(d.F f).safe<=(d.F f).bytes.size
 down:d.down=R.down
 arm:R.down=We\/(d.mr=Wg/\R.left = -1)\/(d.mr=We/\d.left=R.left/\0<=R.left)
 left : -1<=R.left/\R.left<=9223372036854775807
 ok:R.Ok
 Rf:∀c∈R.dX,¬c.comes=e0\/¬c.goes=e0
variable {d:Dv}{R:Rk}
theorem Is.up(h:Is d R blk): d.up=R.up:=by
 unfold Dv.up Rk.up;rw[h.down];rcases h.arm with e|⟨b,j⟩|⟨b,j,l⟩
 .rw[e];rfl
 .rw[b,j];cases R.down <;> simp
 .rw[b,j];cases R.down <;> simp
theorem Is.same{b:Dv}{R':Rk}(h:Is d R blk)(u:b.q=R'.cZ)(y:b.names=d.names)(z:b.safe=d.safe)(A:b.dX=d.dX)(B:b.fs=d.fs)(j:b.F=d.F)(l:R'.files=R.files)(m:R'.safe=R.safe)(r:R'.dX=R.dX)(hd:b.down=R'.down)(ha:R'.down=We\/(b.mr=Wg/\R'.left = -1)\/(b.mr=We/\b.left=R'.left/\0<=R'.left))(C : -1<=R'.left/\R'.left<=9223372036854775807): Is b R' blk:=by
 obtain⟨L,M,P,G,I,K⟩:=R';simp only at l m r;subst l m r;have e:Rk.Ok ⟨R.files,R.safe,R.dX,G,I,K⟩:=⟨h.ok.key,h.ok.some,h.ok.sf,h.ok.cf,h.ok.cut⟩
 exact⟨u,y.trans h.names,z.trans h.safe,A.trans h.dX,B.trans h.fs,h.inj,λi hi=>by rw[j];exact h.F i hi,λf=>by rw[j];exact h.Fs f,hd,ha,C,e,h.Rf⟩
theorem Is.eg(h:Is d R blk): Is d.eg R.eg blk:=by
 obtain⟨y,z,A,B,C,F⟩:=jA d;obtain⟨G,I,K,L⟩:=Rd.jv R;have r:=h.left;have u:=h.arm;have l:=h.down;refine h.same (by rw[F,L];exact h.q) y z A B C G I K ?_ ?_ ?_
 .unfold Dv.eg Rk.eg;rw[l];cases hd:R.down with
  |true =>
   split
   .simp[hd]
   .simp[l,hd]
  |false =>
   rcases u with e|⟨b,j⟩|⟨b,j,M⟩
   .rw[hd] at e;cases e
   .rw[b,j];simp[l,hd]
   .rw[b,j];by_cases m:R.left=0
    .simp[m]
    .have:0<R.left:=by omega
     simp[m,this,hd]
 .unfold Dv.eg Rk.eg;cases hd:R.down with
  |true=>left;simp[hd]
  |false =>
   rcases u with e|⟨b,j⟩|⟨b,j,M⟩
   .rw[hd] at e;cases e
   .right;left;rw[b,j];simp[b,j]
   .by_cases m:R.left=0
    .left;simp[m]
    .right;right;have P:0<R.left:=by omega
     rw[b];simp only[TY,m,P,Ux,VE];refine⟨by first|trivial|exact b,?_,by omega⟩;rw[j];unfold wrap64;omega
 .unfold Rk.eg;split
  .exact r
  .split
   .exact r
   .split
    .simp only;omega
    .exact r
theorem Is.Rw(h:Is d R blk): Sd.dD (tab R.now) e0=Wg:=by
 cases hh:Sd.dD (tab R.now) e0 with
 |false=>rfl
 |true =>
  obtain⟨v,b⟩:=Sd.iP.1 hh;exact absurd O (h.ok.kY _ (e0,v) ((Rd.fy (h.ok.eE _)).1 b))
theorem Is.get(h:Is d R blk)(a:V8): Sd.jy d.names a=(Rd.dx R.now a).map blk:=by rw[h.names,M9,Rd.ld]
theorem Is.has(h:Is d R blk)(a:V8): Sd.dD d.names a=(Rd.dx R.now a).isSome:=by
 rw[h.names,qN,<-Rd.ld];cases hh:Sd.dD (tab R.now) a with
 |false=>rw[Sd.ma hh];rfl
 |true=>obtain⟨_,_,e⟩:=Sd.gu (Rd.ek R.now) hh;rw[e];rfl
theorem Is.lt(h:Is d R blk){a:V8}{i:Nat}(b:Rd.dx R.now a=S i): i<Wn R.files:=h.ok.lj _ (a,i) ((Rd.lk (h.ok.eE _)).1 b)
theorem Is.pR(h:Is d R blk)(a:V8): d.pR a=if R.up=Wg then 9 else match Rd.dx R.now a with
  |none=>11
  |some _=>0:=by
 unfold Dv.pR;rw[h.up,h.has];cases R.up with
 |false=>rfl
 |true=>cases Rd.dx R.now a <;> rfl
theorem Is.Fv(h:Is d R blk)(c:Rd.Ch)(l:c.file<Wn R.files\/c.comes=e0)(m:¬c.comes=e0\/¬c.goes=e0)(b j:V6): Is (d.Fv (cm blk c) b j) { R with dX:=R.dX++[c] } blk:=by
 refine⟨h.q,?_,h.safe,?_,h.fs,h.inj,h.F,h.Fs,h.down,h.arm,h.left,Rd.Px h.ok c l,λx r=>?_⟩
 .show nP d.names (cm blk c)=_
  rw[Rd.Rk.rP,Rd.Jh (L:=R.now) (Rd.kh.2 (h.ok.kY _)),h.names,Ka blk h.Rw]
 .show d.dX++[cm blk c]=(R.dX++[c]).map (cm blk)
  rw[h.dX,UD];rfl
 .rcases TB.1 r with e|e
  .exact h.Rf x e
  .rw[TL.1 e];exact m
theorem Is.pV(h:Is d R blk){f:Nat}(B:∀k,k∈d.fs->k≠f): Is (d.pV f) { R with files:=R.files++[⟨e0,0⟩] } (oq blk (Wn R.files) f):=by
 have b:∀i,i<Wn R.files->oq blk (Wn R.files) f i=blk i:=λi hi=>eu _ _ (by omega)
 have C:∀p∈tab R.now,p.2<Wn R.files:=λp m=>h.ok.lj _ p ((Rd.fy (h.ok.eE _)).1 m)
 have G:∀p∈tab R.safe,p.2<Wn R.files:=λp m=>h.ok.sf p ((Rd.fy h.ok.key).1 m)
 have l:∀i,i<Wn R.files->blk i≠f:=λi hi=>B _ (by rw[h.fs];exact Uu.2 ⟨i,Va.2 hi,O⟩)
 have r:(R.files++[Rd.Fl.mk e0 0]).length=Wn R.files+1:=by simp
 refine⟨h.q,?_,?_,?_,?_,λi j hi u e=>?_,λi hi=>?_,λk=>?_,h.down,h.arm,h.left,Rd.K7 h.ok,h.Rf⟩
 .exact h.names.trans (A9 C b).symm
 .exact h.safe.trans (A9 G b).symm
 .refine h.dX.trans (VJ λc I=>?_);unfold cm;by_cases e:c.comes=e0
  .rw[Tg e,Tg e]
  .rw[Tf e,Tf e];rcases h.ok.cf c I with y|y
   .rw[b _ y]
   .exact absurd y e
 .show d.fs++[f]=(List.range (R.files++[Rd.Fl.mk e0 0]).length).map (oq blk (Wn R.files) f)
  rw[r,List.range_succ,UD,h.fs]
  congr 1
  .exact VJ λi hi=>(b i (Va.1 hi)).symm
  .simp[eG]
 .have hi:i<(R.files++[Rd.Fl.mk e0 0]).length:=hi;have u:j<(R.files++[Rd.Fl.mk e0 0]).length:=u;rw[r] at hi u;by_cases z:i=Wn R.files
  .by_cases A:j=Wn R.files
   .omega
   .rw[z,eG,b j (by omega)] at e;exact absurd e.symm (l j (by omega))
  .by_cases A:j=Wn R.files
   .rw[A,eG,b i (by omega)] at e;exact absurd e (l i (by omega))
   .rw[b i (by omega),b j (by omega)] at e;exact h.inj i j (by omega) (by omega) e
 .have hi:i<(R.files++[Rd.Fl.mk e0 0]).length:=hi;rw[r] at hi
  show oq d.F f ⟨⟨#[]⟩,0⟩ (oq blk (Wn R.files) f i)=_
  by_cases z:i=Wn R.files
  .rw[z,eG,eG];unfold Rk.fl;rw[Ty,Tx V2];simp;rfl
  .rw[b i (by omega),eu _ _ (l i (by omega)),h.F i (by omega),Rd.F1 R _ i (by omega)]
 .show (oq d.F f ⟨⟨#[]⟩,0⟩ k).safe<=(oq d.F f ⟨⟨#[]⟩,0⟩ k).bytes.size
  by_cases e:k=f
  .rw[e,eG];exact Tp _
  .rw[eu _ _ e];exact h.Fs k
theorem Is.oa(h:Is d R blk){i:Nat}(hi:i<Wn R.files)(b:V8)(n:Nat)(m:n<=b.size)(v':V6): Is (d.oa (blk i) ⟨b,n⟩ v') (R.oa i ⟨b,n⟩) blk:=by
 have u:(R.files.set i ⟨b,n⟩).length=Wn R.files:=U0;refine⟨h.q,h.names,h.safe,h.dX,?_,λj k l r e=>?_,λj l=>?_,λk=>?_,h.down,h.arm,h.left,Rd.Mn h.ok i ⟨b,n⟩ m,h.Rf⟩
 .show d.fs=(List.range (R.files.set i ⟨b,n⟩).length).map blk
  rw[u];exact h.fs
 .have l:j<(R.files.set i ⟨b,n⟩).length:=l;have r:k<(R.files.set i ⟨b,n⟩).length:=r;rw[u] at l r;exact h.inj j k l r e
 .have l:j<(R.files.set i ⟨b,n⟩).length:=l;rw[u] at l
  show oq d.F (blk i) ⟨b,n⟩ (blk j)=_
  by_cases e:j=i
  .rw[e,eG]
   show _=Fl.mk ((R.files.set i ⟨b,n⟩).getD i ⟨e0,0⟩).bytes ((R.files.set i ⟨b,n⟩).getD i ⟨e0,0⟩).safe
   rw[Ty,VT hi];rfl
  .rw[eu _ _ (λy=>e (h.inj j i l hi y)),h.F j l]
   show _=Fl.mk ((R.files.set i ⟨b,n⟩).getD j ⟨e0,0⟩).bytes ((R.files.set i ⟨b,n⟩).getD j ⟨e0,0⟩).safe
   rw[Ty,Vo (λy=>e y.symm)];unfold Rk.fl;rw[Ty]
 .show (oq d.F (blk i) ⟨b,n⟩ k).safe<=(oq d.F (blk i) ⟨b,n⟩ k).bytes.size
  by_cases e:k=blk i
  .rw[e,eG];exact m
  .rw[eu _ _ e];exact h.Fs k
theorem Is.sy(h:Is d R blk)(b:V6): Is (d.sy b) { R with safe:=R.now,dX:=[] } blk:=by
 have e:({ R with safe:=R.now,dX:=[] }:Rk).Ok:=⟨h.ok.eE _,h.ok.kY _,h.ok.lj _,λc j=>(by cases j),h.ok.cut⟩
 have l:({ R with safe:=R.now,dX:=[] }:Rk).now=R.now:=by
  unfold Rk.now Rk.dir;exact Rd.lN (h.ok.kY _)
 refine⟨h.q,?_,h.names,rfl,h.fs,h.inj,h.F,h.Fs,h.down,h.arm,h.left,e,λc j=>(by cases j)⟩;rw[l];exact h.names
end Pk
namespace Pk
open Sd (Tb)
open Rd (Rk tab e0)
open Dk (Kept dy)
def Gj(w:V5)(E:Nat)(R:Rk)(vf vs vc:V6):Prop:=True
def wy(E:Nat)(vf vs vc:V6)(k:Nat):Prop:=False
variable {w w':V5}{vf vs vc:V6}{R:Rk}{ok:Nat->Prop}
theorem Gj.kept{E:Nat}(h:Gj w E R vf vs vc)(e:Kept w w' ok)(j:∀k,wy E vf vs vc k->ok k): Gj w' E R vf vs vc:=trivial
theorem Gj.below{E:Nat}(h:Gj w E R vf vs vc)(hb:V4 w w'): Gj w' E R vf vs vc:=trivial
variable {d:Dv}
theorem ly.kept{e:Nat}(h:ly w e d)(m:Kept w w' ok)(l:∀k,ng e d k->ok k): ly w' e d:=⟨(m.block e (cX h.blk) (l e (Wh O))).trans h.blk,dy h.rn m (λg j=>l g (Wi (Wh j))),dy h.rs m (λg j=>l g (Wi (Wi (Wh j)))),dy h.rc m (λg j=>l g (Wi (Wi (Wi (Wh j))))),h.sn,h.ss,h.apart,λf r=>(h.files f r).kept m (l f (Wi (Wi (Wi (Wi ⟨f,r,Wh O⟩))))) (λg j=>l g (Wi (Wi (Wi (Wi ⟨f,r,Wi j⟩))))),h.fap,h.Ga,h.Oj,h.P5⟩
def gj(w0 w:V5)(e E:Nat)(Q R:Rk)(O:Nat->Prop):Prop := ∃d blk vf vs vc,ly w e d/\Is d Q blk/\Gj w E R vf vs vc/\(∀k,ng e d k->¬wy E vf vs vc k)/\Kept w0 w (λk=>¬O k)/\∀k,ng e d k\/wy E vf vs vc k->O k\/w0.heap.size<=k
def om(w:V5)(e E:Nat)(R:Rk)(O:Nat->Prop):Prop := ∃d blk vf vs vc,ly w e d/\Is d R blk/\Gj w E R vf vs vc/\(∀k,ng e d k->¬wy E vf vs vc k)/\∀k,O k↔ng e d k\/wy E vf vs vc k
theorem om.half{e E:Nat}{O:Nat->Prop}(h:om w e E R O): gj w w e E R R O:=by
 obtain⟨d,blk,vf,vs,vc,j,l,m,r,u⟩:=h;exact⟨d,blk,vf,vs,vc,j,l,m,r,Kept.refl _ _,λk y=>Wh ((u k).2 y)⟩
theorem om.lt{j E:Nat}{O:Nat->Prop}(h:om w j E R O){k:Nat}(l:O k): k<w.heap.size:=by
 obtain⟨d,blk,vf,vs,vc,m,u,y,z,r⟩:=h;rcases(r k).1 l with e|e
 .exact Ec m e
 .exact False.elim e
theorem om.kept{e E:Nat}{O:Nat->Prop}(h:om w e E R O)(j:Kept w w' ok)(m:∀k,O k->ok k): om w' e E R O:=by
 obtain⟨d,blk,vf,vs,vc,r,u,y,z,l⟩:=h;exact⟨d,blk,vf,vs,vc,r.kept j (λk j=>m k ((l k).2 (Wh j))),u,Gj.kept y j (λk j=>m k ((l k).2 (Wi j))),z,l⟩
variable {w1 w0:V5}
theorem uT{O j:Nat->Prop}(h:Kept w0 w (λk=>¬O k))(l:Kept w w1 (λk=>¬j k))(u:∀k,j k->O k\/w0.heap.size<=k): Kept w0 w1 (λk=>¬O k):=by
 have y:=h.size;refine⟨l.os.trans h.os,l.tape.trans h.tape,l.output.trans h.output,To y l.size,λk m r=>?_⟩;rw[l.block k (by omega) (λe=>by rcases u k e with e | e;exact r e;omega),h.block k m r]
theorem gj.fH{j E:Nat}{Q u:Rk}{O:Nat->Prop}{m:Dv}{blk':Nat->Nat}(B:Gj w E R vf vs vc)(y:∀k,ng j d k->¬wy E vf vs vc k)(z:Kept w0 w (λk=>¬O k))(r:∀k,ng j d k\/wy E vf vs vc k->O k\/w0.heap.size<=k)(ht:pN w w1 j d m)(hi:Is m u blk'): gj w0 w1 j E u R O:=by
 have C:=z.size;refine⟨m,blk',vf,vs,vc,ht.at',hi,Gj.kept B ht.kept (λk l hd=>y k hd l),λk l A=>?_,uT z ht.kept (λk l=>r k (Wh l)),λk l=>?_⟩
 .rcases ht.own k l with e|e
  .exact y k e A
  .exact False.elim A
 .rcases l with l|l
  .rcases ht.own k l with e|e
   .exact r k (Wh e)
   .exact Wi (by omega)
  .exact r k (Wi l)
theorem gj.below{e E:Nat}{Q:Rk}{O:Nat->Prop}(h:gj w0 w e E Q R O)(hb:V4 w w1): gj w0 w1 e E Q R O:=by
 obtain⟨d,blk,vf,vs,vc,j,l,m,r,u,y⟩:=h;exact⟨d,blk,vf,vs,vc,j.below hb,l,m.below hb,r,u.trans ((Kept.below hb _).mono (λ_ _ h=>h)),y⟩
structure Sm (R:Rk) (n b:Nat):Prop where
 dir:Wn R.safe+Wn R.dX+Wn R.now<=n
 fn:Wn R.files<=n
 file:∀f∈R.files,f.bytes.size<=b
 ns:∀p∈R.safe,p.1.size<=12
 nc:∀c∈R.dX,c.comes.size<=12
variable {b n:Nat}
theorem Sm.fl(h:Sm R n b)(i:Nat): (R.fl i).bytes.size<=b:=by
 unfold Rk.fl;by_cases hi:i<Wn R.files
 .rw[Ty,Tw hi];exact h.file _ (Uc _)
 .rw[Ty,VI (by omega)];exact Tp _
theorem Sm.use(h:Sm R n b)(L:Tb): R.use L<=Wn L*b:=by
 unfold Rk.use
 induction L with
 |nil=>simp
 |cons p L e =>
  have:=h.fl p.2;simp only[Uj,Vp,Tr,Nat.succ_mul];omega
variable {blk:Nat->Nat}
theorem Is.wM(h:Is d R blk)(e:Sm R n b): Wn d.names<=n/\(Wn d.safe)+Wn d.dX<=n:=by
 have j:=Rd.uv R (Wn R.dX);have l:=e.dir;rw[h.names,h.safe,h.dX];simp only[Ue];rw[Rd.uj (show Rd.keyed R.now from h.ok.eE _),Rd.uj h.ok.key];unfold Rk.now;omega
theorem Is.uF(h:Is d R blk)(j:Sm R n b): ∀p∈d.names,(d.F p.2).bytes.size<=b:=λp e=>by
 rw[h.names] at e;obtain⟨q,l,rfl⟩:=Uu.1 e;have m:=h.ok.lj _ q ((Rd.fy (h.ok.eE _)).1 l)
 show (d.F (blk q.2)).bytes.size<=b
 rw[h.F _ m];exact j.fl q.2
theorem Is.used(h:Is d R blk): used d.F d.names=R.use R.now:=by
 rw[<-Rd.Jg R (Rd.rC R.now (h.ok.eE _)),h.names];unfold Pk.used Rk.use;rw[List.map_map]
 congr 1
 refine VJ λp e=>?_
 have j:=h.ok.lj _ p ((Rd.fy (h.ok.eE _)).1 e)
 show (d.F (blk p.2)).bytes.size=_
 rw[h.F _ j]
def DP(w0:V5)(j E:Nat)(Q R:Rk)(O:Nat->Prop)(n:Int)(e:Ending)(w':V5):Prop:=e=Wd (Z Y n)/\gj w0 w' j E Q R O
end Pk
namespace Pk
open Sd (Tb)
open Rd (Rk tab e0)
open Dk (Kept dy)
theorem KR(K w:V5)(j E:Nat)(R R':Rk)(O:Nat->Prop)(n b:Nat)(y:V8)(h:gj K w j E R R' O)(T:Sm R n b)(x:n<=1000000000)(V:y.size<=1048576):V7 prog 140 #[V9 (S ⟨j,0,U⟩),H y] w (DP K j E (R.create y).2 R' O (R.create y).1):=by
 obtain⟨d,l,q,i,t,L,m,z,A,B,C⟩:=h;obtain⟨s,p⟩:=m.wM T;refine(DA j d y w L (by omega) (by omega) V).mono ?_;rintro e o ⟨rfl,g,hd,F⟩;have r:=m.up;refine⟨?_,?_⟩
 .unfold Dv.NF Rk.create;rw[r];cases R.up with
  |false=>rfl
  |true =>
   cases Rd.nj y <;> rfl
 .unfold Dv.LA at hd;rw[r] at hd;unfold Rk.create;cases hu:R.up with
  |false =>
   rw[hu] at hd;simp only[VE,false_and,Ux] at hd;subst hd;exact gj.fH (Q:=R) z A B C F m.eg
  |true =>
   rw[hu] at hd;cases u:Rd.nj y with
   |false =>
    rw[u] at hd;simp only[VE,and_false,Ux] at hd;subst hd;exact gj.fH (Q:=R) z A B C F m.eg
   |true =>
    rw[u] at hd;simp only[and_self,TY] at hd;obtain⟨f,G,I,W,rfl⟩:=hd;refine gj.fH (Q:=R) z A B C F (blk':=oq l (Wn R.eg.files) f) ?_;have X:=m.eg.pV (f:=f) (λk M e=>by
     rw[(jA d).2.2.2.1] at M;have:=cX (L.files k M).blk;omega)
    have P:=X.Fv ⟨e0,y,Wn R.eg.files⟩ (Wh (by simp)) (Wh (Rd.oG u)) G I;have e:cm (oq l (Wn R.eg.files) f) ⟨e0,y,Wn R.eg.files⟩=⟨e0,y,S f⟩:=by
     unfold cm;simp only[Tf (Rd.oG u),eG]
    rw[e] at P;exact P
theorem Fw{R:Rk}(b:R.Ok){a:V8}{i:Nat}(e:Rd.dx R.now a=S i):i<Wn R.files:=b.lj _ (a,i) ((Rd.lk (b.eE _)).1 e)
theorem Il(K w:V5)(j E:Nat)(R R':Rk)(O:Nat->Prop)(n b:Nat)(y:V8)(h:gj K w j E R R' O)(M:Sm R n b)(X:n<=1000000000)(P:y.size<=1048576):V7 prog 91 #[V9 (S ⟨j,0,U⟩),H y] w (DP K j E (R.remove y).2 R' O (R.remove y).1):=by
 obtain⟨d,m,k,x,q,T,l,r,u,z,A⟩:=h;obtain⟨f,t⟩:=l.wM M;have V:Sd.dD d.names e0=Wg:=by rw[l.names,qN];exact l.Rw
 refine(kG j d y w T (by omega) (by omega) P V).mono ?_;rintro e s ⟨rfl,p,hd,B⟩;have W:=l.pR y;unfold Dv.Qc at hd;unfold Rk.remove Rk.on;rw[W] at hd ⊢;cases hu:R.up with
 |false =>
  rw[hu] at hd;simp only[TY] at hd ⊢;rw[Tf (by decide)] at hd;subst hd;exact⟨rfl,gj.fH (Q:=R) r u z A B l.eg⟩
 |true =>
  rw[hu] at hd;simp only[Bool.true_eq_false,Ux] at hd ⊢;cases C:Rd.dx R.now y with
  |none =>
   rw[C] at hd;simp only at hd ⊢;rw[Tf (by decide)] at hd;subst hd;exact⟨rfl,gj.fH (Q:=R) r u z A B l.eg⟩
  |some i =>
   rw[C] at hd;simp only[TY] at hd ⊢;obtain⟨F,G,rfl⟩:=hd;have I:¬y=e0:=λe=>by
    have:=l.ok.kY _ (y,i) ((Rd.lk (l.ok.eE _)).1 C);exact this e
   have L:=l.eg.Fv ⟨y,e0,0⟩ (Wi rfl) (Wi I) F G;have e:cm m ⟨y,e0,0⟩=⟨y,e0,U⟩:=by unfold cm;simp
   rw[e] at L;exact⟨rfl,gj.fH (Q:=R) r u z A B L⟩
theorem J5(V w:V5)(j E:Nat)(R R':Rk)(O:Nat->Prop)(n b:Nat)(x y:V8)(h:gj V w j E R R' O)(X:Sm R n b)(hn:n<=1000000000)(k:x.size<=1048576)(q:y.size<=1048576):V7 prog 95 #[V9 (S ⟨j,0,U⟩),H x,H y] w (DP V j E (R.rename x y).2 R' O (R.rename x y).1):=by
 obtain⟨d,u,vf,vs,vc,t,l,z,A,B,C⟩:=h;obtain⟨l1,l2⟩:=l.wM X;refine(C7 j d x y w t (by omega) (by omega) k q).mono ?_;rintro e w' ⟨rfl,d',hd,F⟩;have s:=l.pR x;have I:=l.get x;unfold Dv.Cx at hd;unfold Dv.IX at hd ⊢;unfold Rk.rename;rw[s,l.up] at hd ⊢;by_cases r:R.up=We/\Rd.nj y=Wg
 .rw[Tg r] at hd ⊢;rw[Tg r];rw[Tf (by simp)] at hd;subst hd;exact⟨rfl,gj.fH (Q:=R) z A B C F l.eg⟩
 .rw[Tf r] at hd ⊢;rw[Tf r];unfold Rk.on;cases hu:R.up with
  |false =>
   rw[hu] at hd;simp only[TY] at hd ⊢;rw[Tf (by simp)] at hd;subst hd;exact⟨rfl,gj.fH (Q:=R) z A B C F l.eg⟩
  |true =>
   rw[hu] at hd r;simp only[Bool.true_eq_false,Ux] at hd ⊢;cases K:Rd.dx R.now x with
   |none =>
    rw[K] at hd;simp only at hd ⊢;rw[Tf (by simp)] at hd;subst hd;exact⟨rfl,gj.fH (Q:=R) z A B C F l.eg⟩
   |some i =>
    rw[K] at hd I;simp only[true_and] at hd ⊢;by_cases m:x=y
    .rw[Tf (λp=>p m)] at hd;subst hd;rw[Tg m];exact⟨rfl,gj.fH (Q:=R) z A B C F l.eg⟩
    .rw[Tg m] at hd;obtain⟨f,L,M,o,rfl⟩:=hd;rw[Tf m];have P:f=u i:=by rw[o] at I;exact TG I
     have G:Rd.nj y=We:=by
      cases g:Rd.nj y with
      |true=>rfl
      |false=>exact absurd ⟨rfl,g⟩ r
     have T:i<Wn R.eg.files:=by rw[(Rd.jv R).1];exact Fw l.ok K
     have W:=l.eg.Fv ⟨x,y,i⟩ (Wh T) (Wh (Rd.oG G)) L M;have e:cm u ⟨x,y,i⟩=⟨x,y,S f⟩:=by unfold cm;simp only[Tf (Rd.oG G),P]
     rw[e] at W;exact⟨rfl,gj.fH (Q:=R) z A B C F W⟩
theorem Ph(M w:V5)(j E:Nat)(R R':Rk)(O:Nat->Prop)(n b:Nat)(y:V8)(h:gj M w j E R R' O)(P:Sm R n b)(x:n<=1000000000):V7 prog 142 #[V9 (S ⟨j,0,U⟩),H y] w (DP M j E (R.sync y).2 R' O (R.sync y).1):=by
 obtain⟨d,z,q,t,s,T,l,A,B,C,G⟩:=h;obtain⟨p,o⟩:=l.wM P;refine(IG j d y w T (by omega)).mono ?_;rintro e g ⟨rfl,d',hd,u⟩;have V:=l.pR y;have I:=l.get y;unfold Dv.OV at hd;unfold Rk.sync Rk.on;rw[V] at hd ⊢;cases hu:R.up with
 |false =>
  rw[hu] at hd;simp only[TY] at hd ⊢;rw[Tf (by decide)] at hd;subst hd;exact⟨rfl,gj.fH (Q:=R) A B C G u l.eg⟩
 |true =>
  rw[hu] at hd;simp only[Bool.true_eq_false,Ux] at hd ⊢;cases K:Rd.dx R.now y with
  |none =>
   rw[K] at hd;simp only at hd ⊢;rw[Tf (by decide)] at hd;subst hd;exact⟨rfl,gj.fH (Q:=R) A B C G u l.eg⟩
  |some i =>
   rw[K] at hd I;simp only[TY] at hd ⊢;obtain⟨f,W,X,rfl⟩:=hd;have L:f=z i:=by rw[X] at I;exact TG I
   have m:i<Wn R.files:=Fw l.ok K;have r:i<Wn R.eg.files:=by rw[(Rd.jv R).1];exact m
   subst L;rw[l.F i m] at u;have k:=l.eg.oa r (R.fl i).bytes (R.fl i).bytes.size V2 W;rw[Rd.yw];exact⟨rfl,gj.fH (Q:=R) A B C G u k⟩
theorem Le(V w:V5)(j E:Nat)(R R':Rk)(O:Nat->Prop)(n b:Nat)(y t:V8)(h:gj V w j E R R' O)(W:Sm R n b)(hn:n<=1000000000)(hb:b<=2097152)(X:t.size<=1048576):V7 prog 141 #[V9 (S ⟨j,0,U⟩),H y,H t] w (DP V j E (R.append y t).2 R' O (R.append y t).1):=by
 obtain⟨d,r,vf,vs,vc,k,l,B,C,G,I⟩:=h;obtain⟨l1,l2⟩:=l.wM W;have hu:=l.uF W;refine(DL j d y t w k (by omega) (λp x=>by have:=hu p x;omega) (by omega)).mono ?_;rintro e w' ⟨rfl,d',hd,u⟩;have s:=l.pR y;have L:=l.get y;have o:=l.used;unfold Dv.LF at hd;unfold Dv.OS at hd ⊢;unfold Rk.append Rk.on;rw[s,o,l.q] at hd ⊢;cases hu:R.up with
 |false =>
  rw[hu] at hd;simp only[TY] at hd ⊢;rw[Tf (show ¬(9:Int)=0 by decide)] at hd ⊢;rw[Tf (show ¬(9:Int)=0 by decide)] at hd;subst hd;exact⟨rfl,gj.fH (Q:=R) B C G I u l.eg⟩
 |true =>
  rw[hu] at hd;simp only[Bool.true_eq_false,Ux] at hd ⊢;cases M:Rd.dx R.now y with
  |none =>
   rw[M] at hd;simp only at hd ⊢;rw[Tf (show ¬(11:Int)=0 by decide)] at hd ⊢;rw[Tf (show ¬(11:Int)=0 by decide)] at hd;subst hd;exact⟨rfl,gj.fH (Q:=R) B C G I u l.eg⟩
  |some i =>
   rw[M] at hd L;simp only[TY] at hd ⊢;rw[Rd.uu,Rd.Np,(Rd.jv R).2.2.2];by_cases K:R.cZ<(R.use R.now:Int)+t.size
   .rw[Tg K] at hd ⊢;rw[Tg K];rw[Tf (by decide)] at hd;subst hd;exact⟨rfl,gj.fH (Q:=R) B C G I u l.eg⟩
   .rw[Tf K] at hd ⊢;rw[Tf K];rw[Tg rfl] at hd;obtain⟨f,g,P,rfl⟩:=hd;have T:f=r i:=by rw[P] at L;exact TG L
    have m:i<Wn R.files:=Fw l.ok M;have z:i<Wn R.eg.files:=by rw[(Rd.jv R).1];exact m
    subst T;rw[l.F i m] at u;have A:=l.Fs (r i);rw[l.F i m] at A;have i2:=l.eg.oa z ((R.fl i).bytes++t) (R.fl i).safe (by rw[TC];simp only at A;omega) g;rw[Rd.yw];exact⟨rfl,gj.fH (Q:=R) B C G I u i2⟩
theorem GR(r w:V5)(j E:Nat)(R R':Rk)(O:Nat->Prop)(n b:Nat)(h:gj r w j E R R' O)(F:Sm R n b)(K:n<=1000000000):V7 prog 92 #[V9 (S ⟨j,0,U⟩)] w (DP r j E R.fc.2 R' O R.fc.1):=by
 obtain⟨d,G,L,M,P,I,l,u,y,z,A⟩:=h;obtain⟨T,V⟩:=l.wM F;refine(AF j d w I (by omega)).mono ?_;rintro e W ⟨rfl,X,hd,B⟩;unfold Dv.PX at hd;unfold Dv.Qv;unfold Rk.fc;rw[l.up] at hd ⊢;cases hu:R.up with
 |false =>
  rw[hu] at hd;simp only[VE,Ux,TY] at hd ⊢;subst hd;exact⟨rfl,gj.fH (Q:=R) u y z A B l.eg⟩
 |true =>
  rw[hu] at hd;simp only[Bool.true_eq_false,Ux,TY] at hd ⊢;obtain⟨m,rfl⟩:=hd;have C:=l.eg.sy m;rw[Rd.uu] at C;exact⟨rfl,gj.fH (Q:=R) u y z A B C⟩
end Pk
namespace Pk
open Sd (Tb)
open Rd (Rk tab e0)
open Dk (Kept dy)
variable {R:Rk}
theorem Is.rd{d:Dv}{b:Nat->Nat}(h:Is d R b)(a:V8): d.rd a=R.rd a/\d.FP a=R.FP a:=by
 unfold Dv.rd Dv.FP Rk.rd Rk.FP;rw[h.down,h.get];cases R.down with
 |true=>exact⟨rfl,rfl⟩
 |false =>
  cases e:Rd.dx R.now a with
  |none=>exact⟨rfl,rfl⟩
  |some i =>
   refine⟨?_,O⟩
   show (d.F (b i)).bytes=_
   rw[h.F i (Fw h.ok e)];rfl
theorem PK{w:V5}{j E:Nat}{O:Nat->Prop}{n b:Nat}(h:om w j E R O)(m:Sm R n b)(G:n<=1000000000)(hb:b<=2097152):V7 prog 16 #[V9 (S ⟨j,0,U⟩)] w λe y=>e=Wd (Z Y (R.use R.now:Nat))/\V4 w y:=by
 obtain⟨d,z,I,K,L,r,l,A,B,C⟩:=h;obtain⟨M,P⟩:=l.wM m;have hu:=l.uF m;have u:=As j d w r (by omega) (λp F=>by have:=hu p F;omega);rw[l.used] at u;clear r l A B C;go_enter func16,ntmps16;go_wp2_with fail;refine u.mono ?_;rintro e Q ⟨rfl,hb⟩;go_wp2;go_ret;exact⟨rfl,hb⟩
def NP(j:V5)(b E:Nat)(Q R:Rk)(O:Nat->Prop)(e:Ending)(w':V5):Prop:=e=Wd (Wb #[])/\gj j w' b E Q R O
theorem QP{y w:V5}{b E:Nat}{O:Nat->Prop}(n:Int)(L:n<=9223372036854775807)(h:gj y w b E R R O):V7 prog 10 #[V9 (S ⟨b,0,U⟩),Z Y n] w (NP y b E (R.arm n) R O):=by
 obtain⟨d,u,M,P,T,z,m,A,B,C,F⟩:=h;have G:=Mc b d n w z;have hi:Is { d with mr:=decide (0<=n),left:=n } (R.arm n) u:=by
  refine m.same m.q rfl rfl rfl rfl rfl rfl rfl rfl m.down ?_ ?_
  .unfold Rk.arm;by_cases l:n<0
   .right;left;exact⟨TE (by omega),Tg l⟩
   .right;right;exact⟨TU (by omega),(Tf l).symm,by simp only[Tf l];omega⟩
  .unfold Rk.arm;by_cases l:n<0
   .simp only[Tg l];omega
   .simp only[Tf l];omega
 have j:=cU (λI (r:pN w I b d { d with mr:=decide (0<=n),left:=n })=>gj.fH (Q:=R) A B C F r hi);clear z m A B C F hi;go_enter func10,ntmps10;go_wp2_with fail;refine G.mono ?_;rintro e I ⟨rfl,r⟩;have K:=cU r;clear r G;go_wp2;exact Tm (Tl rfl _ _ _) rfl ⟨rfl,(cT j) _ (cT K)⟩
end Pk
namespace Pk
open Sd (Tb)
open Rd (Rk tab e0)
open Dk (Kept dy)
theorem N6(e:Nat->Nat):∀(C:List Rd.Ch) (L:Tb),(∀p∈L,¬p.1=e0)->mR nP ((tab L).map (bm e)) (C.map (cm e))=(tab (C.foldl Rd.ap L)).map (bm e)
 |[],L,_=>rfl
 |c::C,L,h=>by
  have l:Sd.dD (tab L) e0=Wg:=by
   cases hh:Sd.dD (tab L) e0 with
   |false=>rfl
   |true =>
    obtain⟨v,m⟩:=Sd.iP.1 hh;have j:=(Sd.fR (Rd.ek L)).2 m;rw[Rd.ld,Rd.kh.2 h] at j;cases j
  show mR nP (nP ((tab L).map (bm e)) (cm e c)) (C.map (cm e))=(tab (C.foldl Rd.ap (Rd.ap L c))).map (bm e)
  rw[Ka e l,<-Rd.Jh (Rd.kh.2 h)];exact N6 e C (Rd.ap L c) (Rd.Eb h c)
variable {R:Rk}
theorem Is.wF{d:Dv}{j:Nat->Nat}(h:Is d R j)(n:Int): d.wF n=(tab (R.dir n.toNat)).map (bm j):=by
 unfold Dv.wF;rw[h.safe,h.dX,Ue,<-List.map_take,N6 j _ _ h.ok.some];have e:R.dX.take (ki n (Wn R.dX))=R.dX.take n.toNat:=by
  unfold ki;by_cases l:n.toNat<=Wn R.dX
  .congr 1;omega
  .rw[Ur (by omega),Ur (by omega)]
 rw[e];unfold Rk.dir;rw[Rd.lN h.ok.some]
def Sj(f:Rd.Fl):Fl:=⟨f.bytes,f.safe⟩
theorem NJ(K:Nat->Int)(l:Nat->Nat)(m:Nat)(r:∀i j,i<m->j<m->l i=l j->i=j):∀(L:Tb) (i:Nat) (Fs:List Rd.Fl) (G:Nat->Fl),Fs.length=m->(∀p∈L,p.2<m)->(∀j,j<m->G (l j)=Sj (Fs.getD j ⟨e0,0⟩))->∀j,j<m->((L.map (bm l)).foldl (nK K) (i,G)).2 (l j)=Sj ((Rd.oZ K i Fs L).getD j ⟨e0,0⟩)
 |[],_,_,_,_,_,h=>h
 |p::L,i,Fs,G,hl,z,h=>by
  refine NJ K l m r L (i+1) _ _ (by rw[U0];exact hl) (λq B=>z q (Ug _ B)) (λj A=>?_);have u:=z p (TV ..)
  show oq G (l p.2) (iJ (G (l p.2)) (K i)) (l j)=_
  rw[Ty];by_cases e:j=p.2
  .rw[e,eG,VT (by omega),h _ u];rfl
  .rw[eu _ _ (λy=>e (r j p.2 A u y)),Vo (λy=>e y.symm),h j A,Ty]
theorem Iw(h:R.Ok)(n:Int)(K:Nat->Int)(e:∀f∈(R.dW n K).files,f.safe<=f.bytes.size): (R.dW n K).Ok:=by
 refine⟨Rd.lZ (Rd.ek _),λp j=>?_,λp j=>?_,λc e=>(by cases e),e⟩
 .exact h.kY _ p ((Rd.fy (h.eE _)).1 j)
 .show p.2<(Rd.oZ K 0 R.files (tab (R.dir n.toNat))).length
  rw[Rd.iO];exact h.lj _ p ((Rd.fy (h.eE _)).1 j)
theorem Is.dW{d:Dv}{l:Nat->Nat}(h:Is d R l)(n:Int)(K:Nat->Int)(z:Nat->V6)(v A:V6): Is (d.dW n K z v A) (R.dW n K) l:=by
 have B:=h.wF n;have C:(R.dW n K).files.length=Wn R.files:=Rd.iO _ _ _ _;have hF:∀i,i<Wn R.files->(kQ K d.F (d.wF n)).2 (l i)=Sj ((R.dW n K).fl i):=λi hi=>by
  rw[B];exact NJ K l (Wn R.files) h.inj (tab (R.dir n.toNat)) 0 R.files d.F O (λp G=>h.ok.lj _ p ((Rd.fy (h.ok.eE _)).1 G)) (λj y=>h.F j y) i hi
 have r:=vU K d.F (d.wF n) h.Fs;have I:(R.dW n K).Ok:=Iw h.ok n K (λf P=>by
  obtain⟨i,hi,rfl⟩:=T5.1 P;have M:=r (l i);rw[hF i (by omega),Rd.Rj _ hi] at M;exact M)
 have u:(R.dW n K).now=tab (R.dir n.toNat):=by
  show Rd.wo (tab (R.dir n.toNat)) e0=_
  exact Rd.lN (λp G=>h.ok.kY _ p ((Rd.fy (h.ok.eE _)).1 G))
 have m:=Rd.Ip (Rd.ek (R.dir n.toNat));refine⟨h.q,?_,?_,O,?_,λi j hi y e=>?_,λi hi=>?_,r,O,Wi (Wh ⟨O,O⟩),⟨by show (-1:Int)<=-1;omega,by show (-1:Int)<=_;omega⟩,I,λc Q=>(by cases Q)⟩
 .show d.wF n=_
  rw[u,m];exact B
 .show d.wF n=(tab (tab (R.dir n.toNat))).map (bm l)
  rw[m];exact B
 .show d.fs=_
  rw[C];exact h.fs
 .rw[C] at hi y;exact h.inj i j hi y e
 .rw[C] at hi;exact hF i hi
variable {b n:Nat}{w:V5}
theorem Nc{F:V5}{j E:Nat}{O:Nat->Prop}(m:Int)(G:Option Addr)(y M:Nat)(K:Nat->Int)(h:gj F w j E R R O)(t:Sm R n b)(hn:n<=1000000000){B:Nat}(s:∀k,O k\/F.heap.size<=k->B<=k)(P:qy w B G y K):V7 prog 17 #[V9 (S ⟨j,0,U⟩),Z Y m,J G y M] w (NP F j E (R.dW m (Rd.kp y K)) R O):=by
 obtain⟨d,p,vf,vs,vc,T,z,V,W,X,I⟩:=h;obtain⟨l1,l2⟩:=z.wM t;have A:=C6 j d m G y M K w T (by omega) (λk o=>s k (I k (Wh o))) P z.Fs (λc A=>by
  rw[z.dX] at A;obtain⟨x,g,rfl⟩:=Uu.1 A;by_cases e:x.comes=e0
  .refine Wi ⟨Tg e,e,?_⟩;rcases z.Rf x g with h|h
   .exact absurd e h
   .exact h
  .exact Wh ⟨_,Tf e,e⟩)
 have l:=cU (λq r v u (C:pN w q j d (d.dW m (lI y K) r v u))=>gj.fH (Q:=R) V W X I C (z.dW m (lI y K) r v u));clear T z V W X I P;go_enter func17,ntmps17;go_wp2_with fail;refine A.mono ?_;rintro e q ⟨rfl,r,v,u,C⟩;have HT:=cU C;clear C A;go_wp2;exact Tm (Tl rfl _ _ _) rfl ⟨rfl,(cT l) _ _ _ _ (cT HT)⟩
theorem Sm.mono{e j:Nat}(h:Sm R n b)(l:n<=e)(hb:b<=j): Sm R e j:=⟨To h.dir l,To h.fn l,λf m=>To (h.file f m) hb,h.ns,h.nc⟩
theorem Sm.eg(h:Sm R n b): Sm R.eg n b:=by
 obtain⟨e,j,l,_⟩:=Rd.jv R;exact⟨by rw[j,l,Rd.uu];exact h.dir,by rw[e];exact h.fn,by rw[e];exact h.file,by rw[j];exact h.ns,by rw[l];exact h.nc⟩
theorem Sm.Fv(h:Sm R n b)(c:Rd.Ch)(j:c.comes.size<=12): Sm { R with dX:=R.dX++[c] } (n+2) b:=by
 refine⟨?_,To h.fn (by omega),h.file,h.ns,λx l=>?_⟩
 .have m:=h.dir;have r:=Rd.te R.now c;rw[Rk.rP];simp only[TT,VK];omega
 .rcases TB.1 l with e|e
  .exact h.nc x e
  .rw[TL.1 e];exact j
theorem Sm.oa(h:Sm R n b)(i:Nat)(f:Rd.Fl)(j:Nat)(hb:b<=j)(l:f.bytes.size<=j): Sm (R.oa i f) n j:=by
 refine⟨h.dir,by show (R.files.set i f).length<=n;rw[U0];exact h.fn,λx m=>?_,h.ns,h.nc⟩;rcases List.mem_or_eq_of_mem_set m with e|e
 .exact To (h.file x e) hb
 .rw[e];exact l
theorem Js{s:V8}(h:Rd.nj s=We):s.size<=12:=by
 unfold Rd.nj at h;simp only[Vl,decide_eq_true_eq] at h;exact h.1.2
theorem Sm.create(h:Sm R n b)(y:V8): Sm (R.create y).2 (n+2) b:=by
 unfold Rk.create;split
 .exact h.eg.mono (by omega) V2
 .split
  .rename_i l;have j:=h.eg.Fv ⟨e0,y,Wn R.eg.files⟩ (Js l);refine⟨j.dir,?_,λf l=>?_,j.ns,j.nc⟩
   .have:=h.eg.fn;simp only[Rk.pV,TT,VK];omega
   .rcases TB.1 l with e|e
    .exact j.file f e
    .rw[TL.1 e];exact Tp _
  .exact h.eg.mono (by omega) V2
theorem Sm.on(h:Sm R n b)(a:V8)(k:Rk->Nat->Int × Rk)(e j:Nat)(l:n<=e)(hb:b<=j)(m:∀i,Rd.dx R.now a=S i->Sm (k R.eg i).2 e j): Sm (R.on a k).2 e j:=by
 unfold Rk.on;split
 .exact h.eg.mono l hb
 .split
  .exact h.eg.mono l hb
  .rename_i r;exact m _ r
theorem Sm.sync(h:Sm R n b)(a:V8): Sm (R.sync a).2 n b:=h.on a _ n b V2 V2 λi _=>h.eg.oa i _ _ V2 (h.eg.fl i)
variable {L:Tb}
theorem Ns{a:V8}{i:Nat}(h:Rd.dx L a=S i): (Rd.wo L a).length+1<=Wn L:=by
 unfold Rd.dx at h;cases e:L.find? (λp=>decide (p.1=a)) with
 |none=>rw[e] at h;cases h
 |some p =>
  have j:=List.mem_of_find?_eq_some e;have l:decide (p.1=a)=We:=List.find?_some (p:=λp:V8 × Nat=>decide (p.1=a)) e;have m:(Rd.wo L a).length<Wn L:=by
   unfold Rd.wo;refine List.length_filter_lt_length_iff_exists.2 ⟨p,j,?_⟩;rw[l];decide
  omega
theorem Sm.remove(h:Sm R n b)(a:V8): Sm (R.remove a).2 n b:=h.on a _ n b V2 V2 λi l=>by
 have j:=h.eg;have r:=j.dir;refine⟨?_,j.fn,j.file,j.ns,λx m=>?_⟩
 .have e:Rd.ap R.eg.now ⟨a,e0,0⟩=Rd.wo (Rd.wo R.eg.now a) e0:=by unfold Rd.ap;rw[Tg rfl]
  have u:=Rd.qx (Rd.wo R.eg.now a) e0;have y:=Ns (L:=R.eg.now) (a:=a) (i:=i) (by rw[Rd.uu];exact l);rw[Rk.rP,e];simp only[TT,VK];omega
 .rcases TB.1 m with e|e
  .exact j.nc x e
  .rw[TL.1 e];exact Tp _
theorem Sm.rename(h:Sm R n b)(a c:V8): Sm (R.rename a c).2 (n+2) b:=by
 unfold Rk.rename;split
 .exact h.eg.mono (by omega) V2
 .rename_i l;cases hu:R.up with
  |false=>unfold Rk.on;rw[hu,Tg rfl];exact h.eg.mono (by omega) V2
  |true =>
   have j:Rd.nj c=We:=by
    cases j:Rd.nj c with
    |true=>rfl
    |false=>exact absurd ⟨hu,j⟩ l
   refine h.on a _ (n+2) b (by omega) V2 λi _=>?_
   by_cases e:a=c
   .simp only[Tg e];exact h.eg.mono (by omega) V2
   .simp only[Tf e];exact h.eg.Fv _ (Js j)
theorem MM{j:List Rd.Ch}:∀(L:Tb),(∀p∈L,p.1.size<=12)->(∀c∈j,c.comes.size<=12)->∀p∈j.foldl Rd.ap L,p.1.size<=12:=by
 induction j with
 |nil=>intro L h _;exact h
 |cons c j m =>
  intro L h l;refine m _ (λp r=>?_) (λx u=>l x (Ug _ u));rcases Rd.yI r with e|⟨_,e⟩
  .exact h p e
  .rw[e];exact l c TV
theorem Sm.OW(h:Sm R n b)(k:Nat): ∀p∈R.dir k,p.1.size<=12:=by
 unfold Rk.dir;exact MM _ (λp e=>h.ns p (Rd.iA.1 e).1) (λc j=>h.nc c (Vx j))
theorem Sm.fc(h:Sm R n b): Sm R.fc.2 n b:=by
 unfold Rk.fc;split
 .exact h.eg
 .have e:=h.eg;have j:=Rd.uv R (Wn R.dX);have m:=h.dir;refine⟨?_,e.fn,e.file,h.OW _,λc l=>by cases l⟩
  show (Wn R.now)+0+(Rd.wo R.now e0).length<=n
  have r:=Rd.qx R.now e0;have u:Wn R.now<=Wn R.safe+Wn R.dX:=j;omega
theorem Lo(h:Rd.keyed L)(a:V8): Wn L<=(Rd.wo L a).length+1:=by
 induction L with
 |nil=>simp
 |cons p L m =>
  have l:=Um.1 h;by_cases e:p.1=a
  .have r:Rd.wo L a=L:=VL.2 λq u=>by
    have:¬q.1=a:=λj=>l.1 q u (e.trans j.symm)
    simp[this]
   have j:Rd.wo (p::L) a=Rd.wo L a:=by unfold Rd.wo;rw[List.filter_cons_of_neg];simp[e]
   rw[j,r];simp
  .have j:Rd.wo (p::L) a=p::Rd.wo L a:=by unfold Rd.wo;rw[List.filter_cons_of_pos];simp[e]
   have:=m l.2;rw[j];simp only[Tr];omega
theorem LY(h:Rd.keyed L)(j:∀p∈L,¬p.1=e0)(c:Rd.Ch): Wn L<=(Rd.ap L c).length+1:=by
 have l:=Lo h c.goes;have u:=Lo (Rd.kX h c.goes) c.comes;unfold Rd.ap;split
 .rename_i e;have m:Rd.wo (Rd.wo L c.goes) c.comes=Rd.wo L c.goes:=by rw[e];exact Rd.lN λp r=>j p (Rd.iA.1 r).1
  rw[m];exact l
 .simp only[TT,VK];omega
theorem B9(l:R.Ok): ∀(j k:Nat),k+j=Wn R.dX->(R.dir k).length<=Wn R.now+j
 |0,k,e=>by rw[Rd.Er R (by omega)];omega
 |j+1,k,e=>by
  have m:=B9 l j (k+1) (by omega);have r:=LY (l.eE k) (l.kY k) (R.dX[k]'(by omega));rw[Rd.BQ R (by omega)] at m;omega
theorem xG(R:Rk):∀(k:Nat),k<=Wn R.dX->(R.dir k).length<=Wn R.safe+k
 |0,_=>Rd.qx _ _
 |k+1,h=>by
  have e:=xG R k (by omega);have j:=Rd.te (R.dir k) (R.dX[k]'(by omega));rw[Rd.BQ R (by omega)];omega
theorem Sm.dW(h:Sm R n b)(l:R.Ok)(j:Int)(K:Nat->Int): Sm (R.dW j K) n b:=by
 have A:=h.dir;have hd:2*(R.dir j.toNat).length<=Wn R.safe+Wn R.dX+Wn R.now:=by
  by_cases r:j.toNat<=Wn R.dX
  .have B:=B9 l (Wn R.dX-j.toNat) j.toNat (by omega);have u:=xG R j.toNat r;omega
  .rw[Rd.Er R (by omega)];have u:Wn R.now<=Wn R.safe+Wn R.dX:=Rd.uv R (Wn R.dX);omega
 have e:(tab (R.dir j.toNat)).length=(R.dir j.toNat).length:=Rd.uj (l.eE _);refine⟨?_,?_,?_,λp y=>?_,λc z=>by cases z⟩
 .show (tab (R.dir j.toNat)).length+0+(Rd.wo (tab (R.dir j.toNat)) e0).length<=n
  have C:=Rd.qx (tab (R.dir j.toNat)) e0;omega
 .show (Rd.oZ K 0 R.files (tab (R.dir j.toNat))).length<=n
  rw[Rd.iO];exact h.fn
 .exact Rd.vo K b _ 0 R.files (λf m=>⟨h.file f m,l.cut f m⟩)
 .exact h.OW j.toNat p ((Rd.fy (l.eE _)).1 y)
theorem Is.new(q:Int):Is (d0 q) ⟨[],[],[],q,-1,Wg⟩ (λi=>i):=⟨rfl,rfl,rfl,rfl,rfl,λi j hi=>(by cases hi),λi hi=>(by cases hi),λf=>Te _,rfl,Wi (Wh ⟨rfl,rfl⟩),⟨by show (-1:Int)<=-1;omega,by show (-1:Int)<=_;omega⟩,Rd.M7 q,λc e=>(by cases e)⟩
theorem Sm.new(q:Int):Sm ⟨[],[],[],q,-1,Wg⟩ 0 0:=⟨Te _,Te _,λf e=>(by cases e),λf e=>(by cases e),λf e=>(by cases e)⟩
theorem om.ok{e E:Nat}{O:Nat->Prop}(h:om w e E R O): R.Ok/\(-1<=R.left/\R.left<=9223372036854775807):=by
 obtain⟨d,l,m,r,u,y,j,z,A,B⟩:=h;exact⟨j.ok,j.left⟩
theorem om.new{m:V5}{q:Int}(r:V4 w m)(h1:ly m (w.heap.size+1) (d0 q)): ∃j,om m (w.heap.size+1) 0 ⟨[],[],[],q,-1,Wg⟩ j/\∀k,j k->w.heap.size<=k:=by
 refine⟨λk=>ng (w.heap.size+1) (d0 q) k\/wy 0 (J U 0 0) (J U 0 0) (J U 0 0) k,⟨d0 q,λi=>i,_,_,_,h1,Is.new q,trivial,λk _ u=>u,λk=>Iff.rfl⟩,λk l=>?_⟩;rcases l with l|l
 .rcases l with e|e|e|e|⟨f,y,_⟩
  .omega
  .simp[d0,Value.ownBlock] at e
  .simp[d0,Value.ownBlock] at e
  .simp[d0,Value.ownBlock] at e
  .cases y
 .exact False.elim l
end Pk
namespace Pk
open Sd (Tb)
open Rd (Rk tab e0)
open Dk (Kept dy)
def jd(w:V5)(e E:Nat)(Q R:Rk)(O:Nat->Prop):Prop := ∃d j l m r,ly w e d/\Is d Q j/\Gj w E R l m r/\(∀k,ng e d k->¬wy E l m r k)/\∀k,O k↔ng e d k\/wy E l m r k
structure fx (w:V5) (O:Nat->Prop) (w':V5) (O':Nat->Prop):Prop where
 kept:Kept w w' (λk=>¬O k)
 own:∀k,O' k->O k\/w.heap.size<=k
theorem fx.refl(w:V5)(O:Nat->Prop):fx w O w O:=⟨Kept.refl _ _,λk e=>Wh e⟩
variable {a:V5}
theorem fx.trans{b c:V5}{O P Q:Nat->Prop}(h:fx a O b P)(k:fx b P c Q): fx a O c Q:=by
 have j:=h.kept.size;refine⟨uT h.kept k.kept h.own,λi hi=>?_⟩;rcases k.own i hi with e|e
 .exact h.own i e
 .exact Wi (by omega)
theorem fx.below{b:V5}(O:Nat->Prop)(hb:V4 a b): fx a O b O:=⟨Kept.below hb _,λk e=>Wh e⟩
theorem fx.far{b:V5}{O P:Nat->Prop}(h:fx a O b P){g:Nat}(j:g<a.heap.size)(l:¬O g): b.heap[g]?=a.heap[g]?/\g<b.heap.size/\¬P g:=⟨h.kept.block g j l,TI j h.kept.size,λm=>by rcases h.own g m with e | e;exact l e;omega⟩
variable {w:V5}{Q R:Rk}
theorem jd.half{e E:Nat}{O:Nat->Prop}(h:jd w e E Q R O): gj w w e E Q R O:=by
 obtain⟨d,j,l,m,r,u,y,z,A,B⟩:=h;exact⟨d,j,l,m,r,u,y,z,A,Kept.refl _ _,λk C=>Wh ((B k).2 C)⟩
theorem gj.two{l:V5}{e E:Nat}{O:Nat->Prop}(h:gj l w e E Q R O): ∃m,jd w e E Q R m/\fx l O w m:=by
 obtain⟨d,j,r,u,y,z,A,B,C,F,G⟩:=h;exact⟨λk=>ng e d k\/wy E r u y k,⟨d,j,r,u,y,z,A,B,C,λk=>Iff.rfl⟩,F,G⟩
theorem om.two{e E:Nat}{O:Nat->Prop}(h:om w e E R O): jd w e E R R O:=h
theorem jd.lt{j E:Nat}{O:Nat->Prop}(h:jd w j E Q R O){k:Nat}(l:O k): k<w.heap.size:=by
 obtain⟨d,m,y,z,A,r,B,C,F,u⟩:=h;rcases(u k).1 l with e|e
 .exact Ec r e
 .exact False.elim e
theorem jd.below{w':V5}{e E:Nat}{O:Nat->Prop}(h:jd w e E Q R O)(hb:V4 w w'): jd w' e E Q R O:=by
 obtain⟨d,j,l,m,r,u,y,z,A,B⟩:=h;exact⟨d,j,l,m,r,u.below hb,y,z.below hb,A,B⟩
def TP(w:V5)(j E:Nat)(Q R:Rk)(O:Nat->Prop)(n:Int)(e:Ending)(w':V5):Prop:=e=Wd (Z Y n)/\∃l,jd w' j E Q R l/\fx w O w' l
theorem DP.tp{j E:Nat}{O:Nat->Prop}{n:Int}{e:Ending}{w':V5}(h:DP w j E Q R O n e w'): TP w j E Q R O n e w':=⟨h.1,h.2.two⟩
variable {n b:Nat}
theorem Lb{j E:Nat}{O:Nat->Prop}(y:V8)(h:jd w j E Q R O)(l:Sm Q n b)(m:n<=1000000000)(r:y.size<=1048576):V7 prog 140 #[V9 (S ⟨j,0,U⟩),H y] w (TP w j E (Q.create y).2 R O (Q.create y).1):=(KR w w j E Q R O n b y h.half l m r).mono λe z u=>u.tp
theorem ry{j E:Nat}{O:Nat->Prop}(y:V8)(h:jd w j E Q R O)(l:Sm Q n b)(m:n<=1000000000)(r:y.size<=1048576):V7 prog 91 #[V9 (S ⟨j,0,U⟩),H y] w (TP w j E (Q.remove y).2 R O (Q.remove y).1):=(Il w w j E Q R O n b y h.half l m r).mono λe z u=>u.tp
theorem IC{j E:Nat}{O:Nat->Prop}(x y:V8)(h:jd w j E Q R O)(l:Sm Q n b)(m:n<=1000000000)(r:x.size<=1048576)(u:y.size<=1048576):V7 prog 95 #[V9 (S ⟨j,0,U⟩),H x,H y] w (TP w j E (Q.rename x y).2 R O (Q.rename x y).1):=(J5 w w j E Q R O n b x y h.half l m r u).mono λe A z=>z.tp
theorem PT{j E:Nat}{O:Nat->Prop}(y:V8)(h:jd w j E Q R O)(l:Sm Q n b)(m:n<=1000000000):V7 prog 142 #[V9 (S ⟨j,0,U⟩),H y] w (TP w j E (Q.sync y).2 R O (Q.sync y).1):=(Ph w w j E Q R O n b y h.half l m).mono λe u r=>r.tp
theorem Lm{j E:Nat}{O:Nat->Prop}(y t:V8)(h:jd w j E Q R O)(l:Sm Q n b)(m:n<=1000000000)(hb:b<=2097152)(ht:t.size<=1048576):V7 prog 141 #[V9 (S ⟨j,0,U⟩),H y,H t] w (TP w j E (Q.append y t).2 R O (Q.append y t).1):=(Le w w j E Q R O n b y t h.half l m hb ht).mono λe u r=>r.tp
theorem sP{j E:Nat}{O:Nat->Prop}(h:jd w j E Q R O)(l:Sm Q n b)(m:n<=1000000000):V7 prog 92 #[V9 (S ⟨j,0,U⟩)] w (TP w j E Q.fc.2 R O Q.fc.1):=(GR w w j E Q R O n b h.half l m).mono λe u r=>r.tp
theorem jd.D3{e E:Nat}{O:Nat->Prop}(h:jd w e E Q R O): Q.Ok/\(-1<=Q.left/\Q.left<=9223372036854775807):=by
 obtain⟨d,l,m,r,u,y,j,z,A,B⟩:=h;exact⟨j.ok,j.left⟩
theorem Pj{j E:Nat}{O:Nat->Prop}(y:V8)(h:jd w j E Q R O)(r:Sm Q n b)(B:n<=1000000000):V7 prog 117 #[V9 (S ⟨j,0,U⟩),H y] w λe u=>e=Wd (Wb #[H (Q.rd y),Z Y (Q.FP y)])/\V4 w u:=by
 obtain⟨d,z,C,F,G,A,l,I,K,L⟩:=h;obtain⟨M,P⟩:=l.wM r;have m:=vE j d y w A (by omega);rw[(l.rd y).1,(l.rd y).2] at m;exact m
theorem IB{j E:Nat}{O:Nat->Prop}(h:jd w j E Q R O)(B:Sm Q n b)(L:n<=1000000000):V7 prog 44 #[V9 (S ⟨j,0,U⟩)] w λe y=>∃v,e=Wd (Wb #[v,Z Y Q.nB])/\y.ownsRow w.heap.size 9 1 v (Wn Q.fE) (Rd.strs Q.fE)/\V4 w y:=by
 obtain⟨d,C,M,P,T,A,m,V,W,X⟩:=h;obtain⟨k,x⟩:=m.wM B;cases l:Q.down with
 |true =>
  have r:=Hi j d w A (m.down.trans l);have u:Q.fE=[]:=by unfold Rk.fE;rw[Tg l]
  have z:Q.nB=9:=by unfold Rk.nB;rw[Tg l]
  rw[u,z];exact r.mono λe y ⟨F,G⟩=>⟨_,F,TH _ _ _ _,G⟩
 |false =>
  have r:=Lc j d w A (by omega) (m.down.trans l);have u:Q.fE=(tab Q.now).map (·.1):=by unfold Rk.fE;rw[Tf (by rw[l];decide)]
  have z:Q.nB=0:=by unfold Rk.nB;rw[Tf (by rw[l];decide)]
  have I:d.names.map (λp=>Value.string p.1)=Rd.strs Q.fE:=by rw[m.names,u];unfold Rd.strs;rw[List.map_map,List.map_map];rfl
  have K:Wn d.names=Wn Q.fE:=by rw[m.names,u,Ue,Ue]
  rw[I,K] at r;rw[z];exact r
end Pk
end Go.Proofs.YtgkkdpegcieakaaGreatDoor
