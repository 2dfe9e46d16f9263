import Derived.Test.YtgkkdpegcieakaaGreatDoorCw19
set_option linter.all false
set_option maxRecDepth 100000
set_option maxHeartbeats 16000000
namespace Go.Proofs.YtgkkdpegcieakaaGreatDoor
open Go.Proofs.Tryz
open Value renaming int→Z,slice→J,string→H,pointer→WV
open Option renaming none→U,some→S
open Or renaming inl→Xa,inr→Xb
open List renaming length→Xg
open IntKind renaming i64→Y
open Go renaming World→WR,Value→WS,Calls→WT
open Go.RowKit
namespace Pk
open Sd (Tb)
open Rd (Rk tab e0)
open Dk (Kept dv)
theorem Pe(e:Nat->Nat):∀(C:List Rd.Ch) (L:Tb),(∀p∈L,¬p.1=e0)->mH nK ((tab L).map (bm e)) (C.map (cm e))=(tab (C.foldl Rd.ap L)).map (bm e)
 |[],L,_=>rfl
 |c::C,L,h=>by
  have l:Sd.dF (tab L) e0=false:=by
   cases hh:Sd.dF (tab L) e0 with
   |false=>rfl
   |true =>
    obtain⟨v,m⟩:=Sd.iM.1 hh;have j:=(Sd.fO (Rd.eG L)).2 m;rw[Rd.kQ,Rd.kH.2 h] at j;cases j
  show mH nK (nK ((tab L).map (bm e)) (cm e c)) (C.map (cm e))=(tab (C.foldl Rd.ap (Rd.ap L c))).map (bm e)
  rw[Jk e l,<-Rd.Jz (Rd.kH.2 h)];exact Pe e C (Rd.ap L c) (Rd.Fq h c)
variable {R:Rk}
theorem Is.wH{d:Dv}{j:Nat->Nat}(h:Is d R j)(n:Int): d.wH n=(tab (R.dir n.toNat)).map (bm j):=by
 unfold Dv.wH;rw[h.safe,h.dW,UX,<-List.map_take,Pe j _ _ h.ok.some];have e:R.dW.take (ky n (Xg R.dW))=R.dW.take n.toNat:=by
  unfold ky;by_cases l:n.toNat<=Xg R.dW
  .congr 1;omega
  .rw[Vc (by omega),Vc (by omega)]
 rw[e];unfold Rk.dir;rw[Rd.lU h.ok.some]
def Ty(f:Rd.Fl):Fl:=⟨f.bytes,f.safe⟩
theorem OJ(K:Nat->Int)(l:Nat->Nat)(m:Nat)(r:∀i j,i<m->j<m->l i=l j->i=j):∀(L:Tb) (i:Nat) (Fs:List Rd.Fl) (G:Nat->Fl),Fs.length=m->(∀p∈L,p.2<m)->(∀j,j<m->G (l j)=Ty (Fs.getD j ⟨e0,0⟩))->∀j,j<m->((L.map (bm l)).foldl (nN K) (i,G)).2 (l j)=Ty ((Rd.zF K i Fs L).getD j ⟨e0,0⟩)
 |[],_,_,_,_,_,h=>h
 |p::L,i,Fs,G,hl,z,h=>by
  refine OJ K l m r L (i+1) _ _ (by rw[VR];exact hl) (λq B=>z q (UZ _ B)) (λj A=>?_);have u:=z p (UI ..)
  show oq G (l p.2) (iJ (G (l p.2)) (K i)) (l j)=_
  rw[Uo];by_cases e:j=p.2
  .rw[e,eE,WE (by omega),h _ u];rfl
  .rw[ek _ _ (λy=>e (r j p.2 A u y)),V7 (λy=>e y.symm),h j A,Uo]
theorem JH(h:R.Ok)(n:Int)(K:Nat->Int)(e:∀f∈(R.eA n K).files,f.safe<=f.bytes.size): (R.eA n K).Ok:=by
 refine⟨Rd.qP (Rd.eG _),λp j=>?_,λp j=>?_,λc e=>(by cases e),e⟩
 .exact h.ld _ p ((Rd.gq (h.eC _)).1 j)
 .show p.2<(Rd.zF K 0 R.files (tab (R.dir n.toNat))).length
  rw[Rd.qV];exact h.kS _ p ((Rd.gq (h.eC _)).1 j)
theorem Is.eA{d:Dv}{l:Nat->Nat}(h:Is d R l)(n:Int)(K:Nat->Int)(z:Nat->WS)(v A:WS): Is (d.eA n K z v A) (R.eA n K) l:=by
 have B:=h.wH n;have C:(R.eA n K).files.length=Xg R.files:=Rd.qV _ _ _ _;have hF:∀i,i<Xg R.files->(kU K d.F (d.wH n)).2 (l i)=Ty ((R.eA n K).fl i):=λi hi=>by
  rw[B];exact OJ K l (Xg R.files) h.inj (tab (R.dir n.toNat)) 0 R.files d.F O (λp G=>h.ok.kS _ p ((Rd.gq (h.ok.eC _)).1 G)) (λj y=>h.F j y) i hi
 have r:=uZ K d.F (d.wH n) h.Fs;have I:(R.eA n K).Ok:=JH h.ok n K (λf N=>by
  obtain⟨i,hi,rfl⟩:=UP.1 N;have M:=r (l i);rw[hF i (by omega),Rd.RS _ hi] at M;exact M)
 have u:(R.eA n K).now=tab (R.dir n.toNat):=by
  show Rd.wo (tab (R.dir n.toNat)) e0=_
  exact Rd.lU (λp G=>h.ok.ld _ p ((Rd.gq (h.ok.eC _)).1 G))
 have m:=Rd.L1 (Rd.eG (R.dir n.toNat));refine⟨h.q,?_,?_,O,?_,λi j hi y e=>?_,λi hi=>?_,r,O,Xb (Xa ⟨O,O⟩),⟨by show (-1:Int)<=-1;omega,by show (-1:Int)<=_;omega⟩,I,λc P=>(by cases P)⟩
 .show d.wH n=_
  rw[u,m];exact B
 .show d.wH n=(tab (tab (R.dir n.toNat))).map (bm l)
  rw[m];exact B
 .show d.fs=_
  rw[C];exact h.fs
 .rw[C] at hi y;exact h.inj i j hi y e
 .rw[C] at hi;exact hF i hi
variable {b n:Nat}{w:WR}
theorem N7{F:WR}{j E:Nat}{O:Nat->Prop}(m:Int)(G:Option Addr)(y M:Nat)(K:Nat->Int)(h:fT F w j E R R O)(q:Sm R n b)(hn:n<=1000000000){B:Nat}(t:∀k,O k\/F.heap.size<=k->B<=k)(N:qk w B G y K):WT prog 17 #[WV (S ⟨j,0,U⟩),Z Y m,J G y M] w (NP F j E (R.eA m (Rd.kp y K)) R O):=by
 obtain⟨d,s,vf,vs,vc,P,z,T,V,W,I⟩:=h;obtain⟨l1,l2⟩:=z.wV q;have A:=Ds j d m G y M K w P (by omega) (λk p=>t k (I k (Xa p))) N z.Fs (λc A=>by
  rw[z.dW] at A;obtain⟨x,o,rfl⟩:=Ve.1 A;by_cases e:x.comes=e0
  .refine Xb ⟨T0 e,e,?_⟩;rcases z.Sr x o with h|h
   .exact absurd e h
   .exact h
  .exact Xa ⟨_,TZ e,e⟩)
 have l:=cT (λX r v u (C:oO w X j d (d.eA m (lK y K) r v u))=>fT.fE (Q:=R) T V W I C (z.eA m (lK y K) r v u));clear P z T V W I N;go_enter func17,ntmps17;go_wp2_with fail;refine A.mono ?_;rintro e X ⟨rfl,r,v,u,C⟩;have g:=cT C;clear C A;go_wp2;exact Ub (Ua rfl _ _ _) rfl ⟨rfl,(cS l) _ _ _ _ (cS g)⟩
theorem Sm.mono{e j:Nat}(h:Sm R n b)(l:n<=e)(hb:b<=j): Sm R e j:=⟨Uc h.dir l,Uc h.fn l,λf m=>Uc (h.file f m) hb,h.ns,h.nc⟩
theorem Sm.dY(h:Sm R n b): Sm R.dY n b:=by
 obtain⟨e,j,l,_⟩:=Rd.jk R;exact⟨by rw[j,l,Rd.ux];exact h.dir,by rw[e];exact h.fn,by rw[e];exact h.file,by rw[j];exact h.ns,by rw[l];exact h.nc⟩
theorem Sm.F3(h:Sm R n b)(c:Rd.Ch)(j:c.comes.size<=12): Sm { R with dW:=R.dW++[c] } (n+2) b:=by
 refine⟨?_,Uc h.fn (by omega),h.file,h.ns,λx l=>?_⟩
 .have m:=h.dir;have r:=Rd.sH R.now c;rw[Rk.rA];simp only[UG,Wt];omega
 .rcases Uq.1 l with e|e
  .exact h.nc x e
  .rw[Uz.1 e];exact j
theorem Sm.n9(h:Sm R n b)(i:Nat)(f:Rd.Fl)(j:Nat)(hb:b<=j)(l:f.bytes.size<=j): Sm (R.n9 i f) n j:=by
 refine⟨h.dir,by show (R.files.set i f).length<=n;rw[VR];exact h.fn,λx m=>?_,h.ns,h.nc⟩;rcases List.mem_or_eq_of_mem_set m with e|e
 .exact Uc (h.file x e) hb
 .rw[e];exact l
theorem KL{s:WU}(h:Rd.nk s=true):s.size<=12:=by
 unfold Rd.nk at h;simp only[V6,decide_eq_true_eq] at h;exact h.1.2
theorem Sm.create(h:Sm R n b)(y:WU): Sm (R.create y).2 (n+2) b:=by
 unfold Rk.create;split
 .exact h.dY.mono (by omega) WN
 .split
  .rename_i l;have j:=h.dY.F3 ⟨e0,y,Xg R.dY.files⟩ (KL l);refine⟨j.dir,?_,λf l=>?_,j.ns,j.nc⟩
   .have:=h.dY.fn;simp only[Rk.pN,UG,Wt];omega
   .rcases Uq.1 l with e|e
    .exact j.file f e
    .rw[Uz.1 e];exact Ud _
  .exact h.dY.mono (by omega) WN
theorem Sm.on(h:Sm R n b)(a:WU)(k:Rk->Nat->Int × Rk)(e j:Nat)(l:n<=e)(hb:b<=j)(m:∀i,Rd.dy R.now a=S i->Sm (k R.dY i).2 e j): Sm (R.on a k).2 e j:=by
 unfold Rk.on;split
 .exact h.dY.mono l hb
 .split
  .exact h.dY.mono l hb
  .rename_i r;exact m _ r
theorem Sm.sync(h:Sm R n b)(a:WU): Sm (R.sync a).2 n b:=h.on a _ n b WN WN λi _=>h.dY.n9 i _ _ WN (h.dY.fl i)
variable {L:Tb}
theorem MZ{a:WU}{i:Nat}(h:Rd.dy L a=S i): (Rd.wo L a).length+1<=Xg L:=by
 unfold Rd.dy at h;cases e:L.find? (λp=>decide (p.1=a)) with
 |none=>rw[e] at h;cases h
 |some p =>
  have j:=List.mem_of_find?_eq_some e;have l:decide (p.1=a)=true:=List.find?_some (p:=λp:WU × Nat=>decide (p.1=a)) e;have m:(Rd.wo L a).length<Xg L:=by
   unfold Rd.wo;refine List.length_filter_lt_length_iff_exists.2 ⟨p,j,?_⟩;rw[l];decide
  omega
theorem Sm.remove(h:Sm R n b)(a:WU): Sm (R.remove a).2 n b:=h.on a _ n b WN WN λi l=>by
 have j:=h.dY;have r:=j.dir;refine⟨?_,j.fn,j.file,j.ns,λx m=>?_⟩
 .have e:Rd.ap R.dY.now ⟨a,e0,0⟩=Rd.wo (Rd.wo R.dY.now a) e0:=by unfold Rd.ap;rw[T0 rfl]
  have u:=Rd.ql (Rd.wo R.dY.now a) e0;have y:=MZ (L:=R.dY.now) (a:=a) (i:=i) (by rw[Rd.ux];exact l);rw[Rk.rA,e];simp only[UG,Wt];omega
 .rcases Uq.1 m with e|e
  .exact j.nc x e
  .rw[Uz.1 e];exact Ud _
theorem Sm.rename(h:Sm R n b)(a c:WU): Sm (R.rename a c).2 (n+2) b:=by
 unfold Rk.rename;split
 .exact h.dY.mono (by omega) WN
 .rename_i l;cases hu:R.up with
  |false=>unfold Rk.on;rw[hu,T0 rfl];exact h.dY.mono (by omega) WN
  |true =>
   have j:Rd.nk c=true:=by
    cases j:Rd.nk c with
    |true=>rfl
    |false=>exact absurd ⟨hu,j⟩ l
   refine h.on a _ (n+2) b (by omega) WN λi _=>?_
   by_cases e:a=c
   .simp only[T0 e];exact h.dY.mono (by omega) WN
   .simp only[TZ e];exact h.dY.F3 _ (KL j)
theorem Oi{j:List Rd.Ch}:∀(L:Tb),(∀p∈L,p.1.size<=12)->(∀c∈j,c.comes.size<=12)->∀p∈j.foldl Rd.ap L,p.1.size<=12:=by
 induction j with
 |nil=>intro L h _;exact h
 |cons c j m =>
  intro L h l;refine m _ (λp r=>?_) (λx u=>l x (UZ _ u));rcases Rd.zy r with e|⟨_,e⟩
  .exact h p e
  .rw[e];exact l c UI
theorem Sm.Qb(h:Sm R n b)(k:Nat): ∀p∈R.dir k,p.1.size<=12:=by
 unfold Rk.dir;exact Oi _ (λp e=>h.ns p (Rd.iA.1 e).1) (λc j=>h.nc c (Wg j))
theorem Sm.fa(h:Sm R n b): Sm R.fa.2 n b:=by
 unfold Rk.fa;split
 .exact h.dY
 .have e:=h.dY;have j:=Rd.uk R (Xg R.dW);have m:=h.dir;refine⟨?_,e.fn,e.file,h.Qb _,λc l=>by cases l⟩
  show (Xg R.now)+0+(Rd.wo R.now e0).length<=n
  have r:=Rd.ql R.now e0;have u:Xg R.now<=Xg R.safe+Xg R.dW:=j;omega
theorem L5(h:Rd.keyed L)(a:WU): Xg L<=(Rd.wo L a).length+1:=by
 induction L with
 |nil=>simp
 |cons p L m =>
  have l:=U6.1 h;by_cases e:p.1=a
  .have r:Rd.wo L a=L:=Wv.2 λq u=>by
    have:¬q.1=a:=λj=>l.1 q u (e.trans j.symm)
    simp[this]
   have j:Rd.wo (p::L) a=Rd.wo L a:=by unfold Rd.wo;rw[List.filter_cons_of_neg];simp[e]
   rw[j,r];simp
  .have j:Rd.wo (p::L) a=p::Rd.wo L a:=by unfold Rd.wo;rw[List.filter_cons_of_pos];simp[e]
   have:=m l.2;rw[j];simp only[Uf];omega
theorem Nw(h:Rd.keyed L)(j:∀p∈L,¬p.1=e0)(c:Rd.Ch): Xg L<=(Rd.ap L c).length+1:=by
 have l:=L5 h c.goes;have u:=L5 (Rd.kW h c.goes) c.comes;unfold Rd.ap;split
 .rename_i e;have m:Rd.wo (Rd.wo L c.goes) c.comes=Rd.wo L c.goes:=by rw[e];exact Rd.lU λp r=>j p (Rd.iA.1 r).1
  rw[m];exact l
 .simp only[UG,Wt];omega
theorem B7(l:R.Ok): ∀(j k:Nat),k+j=Xg R.dW->(R.dir k).length<=Xg R.now+j
 |0,k,e=>by rw[Rd.FW R (by omega)];omega
 |j+1,k,e=>by
  have m:=B7 l j (k+1) (by omega);have r:=Nw (l.eC k) (l.ld k) (R.dW[k]'(by omega));rw[Rd.BO R (by omega)] at m;omega
theorem xB(R:Rk):∀(k:Nat),k<=Xg R.dW->(R.dir k).length<=Xg R.safe+k
 |0,_=>Rd.ql _ _
 |k+1,h=>by
  have e:=xB R k (by omega);have j:=Rd.sH (R.dir k) (R.dW[k]'(by omega));rw[Rd.BO R (by omega)];omega
theorem Sm.eA(h:Sm R n b)(l:R.Ok)(j:Int)(K:Nat->Int): Sm (R.eA j K) n b:=by
 have A:=h.dir;have hd:2*(R.dir j.toNat).length<=Xg R.safe+Xg R.dW+Xg R.now:=by
  by_cases r:j.toNat<=Xg R.dW
  .have B:=B7 l (Xg R.dW-j.toNat) j.toNat (by omega);have u:=xB R j.toNat r;omega
  .rw[Rd.FW R (by omega)];have u:Xg R.now<=Xg R.safe+Xg R.dW:=Rd.uk R (Xg R.dW);omega
 have e:(tab (R.dir j.toNat)).length=(R.dir j.toNat).length:=Rd.uq (l.eC _);refine⟨?_,?_,?_,λp y=>?_,λc z=>by cases z⟩
 .show (tab (R.dir j.toNat)).length+0+(Rd.wo (tab (R.dir j.toNat)) e0).length<=n
  have C:=Rd.ql (tab (R.dir j.toNat)) e0;omega
 .show (Rd.zF K 0 R.files (tab (R.dir j.toNat))).length<=n
  rw[Rd.qV];exact h.fn
 .exact Rd.wk K b _ 0 R.files (λf m=>⟨h.file f m,l.cut f m⟩)
 .exact h.Qb j.toNat p ((Rd.gq (l.eC _)).1 y)
theorem Is.new(q:Int):Is (d0 q) ⟨[],[],[],q,-1,false⟩ (λi=>i):=⟨rfl,rfl,rfl,rfl,rfl,λi j hi=>(by cases hi),λi hi=>(by cases hi),λf=>TY _,rfl,Xb (Xa ⟨rfl,rfl⟩),⟨by show (-1:Int)<=-1;omega,by show (-1:Int)<=_;omega⟩,Rd.Nb q,λc e=>(by cases e)⟩
theorem Sm.new(q:Int):Sm ⟨[],[],[],q,-1,false⟩ 0 0:=⟨TY _,TY _,λf e=>(by cases e),λf e=>(by cases e),λf e=>(by cases e)⟩
theorem n5.ok{e E:Nat}{O:Nat->Prop}(h:n5 w e E R O): R.Ok/\(-1<=R.left/\R.left<=9223372036854775807):=by
 obtain⟨d,l,m,r,u,y,j,z,A,B⟩:=h;exact⟨j.ok,j.left⟩
theorem n5.new{m:WR}{q:Int}(r:WQ w m)(h1:kK m (w.heap.size+1) (d0 q)): ∃j,n5 m (w.heap.size+1) 0 ⟨[],[],[],q,-1,false⟩ j/\∀k,j k->w.heap.size<=k:=by
 refine⟨λk=>mZ (w.heap.size+1) (d0 q) k\/uK 0 (J U 0 0) (J U 0 0) (J U 0 0) k,⟨d0 q,λi=>i,_,_,_,h1,Is.new q,trivial,λk _ u=>u,λk=>Iff.rfl⟩,λk l=>?_⟩;rcases l with l|l
 .rcases l with e|e|e|e|⟨f,y,_⟩
  .omega
  .simp[d0,Value.ownBlock] at e
  .simp[d0,Value.ownBlock] at e
  .simp[d0,Value.ownBlock] at e
  .cases y
 .exact False.elim l
end Pk
namespace Pk
open Sd (Tb)
open Rd (Rk tab e0)
open Dk (Kept dv)
def iV(w:WR)(e E:Nat)(Q R:Rk)(O:Nat->Prop):Prop := ∃d j l m r,kK w e d/\Is d Q j/\GM w E R l m r/\(∀k,mZ e d k->¬uK E l m r k)/\∀k,O k↔mZ e d k\/uK E l m r k
structure fj (w:WR) (O:Nat->Prop) (w':WR) (O':Nat->Prop):Prop where
 kept:Kept w w' (λk=>¬O k)
 own:∀k,O' k->O k\/w.heap.size<=k
theorem fj.refl(w:WR)(O:Nat->Prop):fj w O w O:=⟨Kept.refl _ _,λk e=>Xa e⟩
variable {a:WR}
theorem fj.trans{b c:WR}{O P Q:Nat->Prop}(h:fj a O b P)(k:fj b P c Q): fj a O c Q:=by
 have j:=h.kept.size;refine⟨wE h.kept k.kept h.own,λi hi=>?_⟩;rcases k.own i hi with e|e
 .exact h.own i e
 .exact Xb (by omega)
theorem fj.below{b:WR}(O:Nat->Prop)(hb:WQ a b): fj a O b O:=⟨Kept.below hb _,λk e=>Xa e⟩
theorem fj.far{b:WR}{O P:Nat->Prop}(h:fj a O b P){g:Nat}(j:g<a.heap.size)(l:¬O g): b.heap[g]?=a.heap[g]?/\g<b.heap.size/\¬P g:=⟨h.kept.block g j l,Ux j h.kept.size,λm=>by rcases h.own g m with e | e;exact l e;omega⟩
variable {Q R:Rk}{w:WR}
theorem iV.half{e E:Nat}{O:Nat->Prop}(h:iV w e E Q R O): fT w w e E Q R O:=by
 obtain⟨d,j,l,m,r,u,y,z,A,B⟩:=h;exact⟨d,j,l,m,r,u,y,z,A,Kept.refl _ _,λk C=>Xa ((B k).2 C)⟩
theorem fT.two{l:WR}{e E:Nat}{O:Nat->Prop}(h:fT l w e E Q R O): ∃m,iV w e E Q R m/\fj l O w m:=by
 obtain⟨d,j,r,u,y,z,A,B,C,F,G⟩:=h;exact⟨λk=>mZ e d k\/uK E r u y k,⟨d,j,r,u,y,z,A,B,C,λk=>Iff.rfl⟩,F,G⟩
theorem n5.two{e E:Nat}{O:Nat->Prop}(h:n5 w e E R O): iV w e E R R O:=h
theorem iV.lt{j E:Nat}{O:Nat->Prop}(h:iV w j E Q R O){k:Nat}(l:O k): k<w.heap.size:=by
 obtain⟨d,m,y,z,A,r,B,C,F,u⟩:=h;rcases(u k).1 l with e|e
 .exact EH r e
 .exact False.elim e
theorem iV.below{w':WR}{e E:Nat}{O:Nat->Prop}(h:iV w e E Q R O)(hb:WQ w w'): iV w' e E Q R O:=by
 obtain⟨d,j,l,m,r,u,y,z,A,B⟩:=h;exact⟨d,j,l,m,r,u.below hb,y,z.below hb,A,B⟩
def TP(w:WR)(j E:Nat)(Q R:Rk)(O:Nat->Prop)(n:Int)(e:Ending)(w':WR):Prop:=e=.returned (Z Y n)/\∃l,iV w' j E Q R l/\fj w O w' l
theorem DP.tp{j E:Nat}{O:Nat->Prop}{n:Int}{e:Ending}{w':WR}(h:DP w j E Q R O n e w'): TP w j E Q R O n e w':=⟨h.1,h.2.two⟩
variable {n b:Nat}
theorem Ky{j E:Nat}{O:Nat->Prop}(y:WU)(h:iV w j E Q R O)(l:Sm Q n b)(m:n<=1000000000)(r:y.size<=1048576):WT prog 140 #[WV (S ⟨j,0,U⟩),H y] w (TP w j E (Q.create y).2 R O (Q.create y).1):=(IP w w j E Q R O n b y h.half l m r).mono λe z u=>u.tp
theorem qY{j E:Nat}{O:Nat->Prop}(y:WU)(h:iV w j E Q R O)(l:Sm Q n b)(m:n<=1000000000)(r:y.size<=1048576):WT prog 91 #[WV (S ⟨j,0,U⟩),H y] w (TP w j E (Q.remove y).2 R O (Q.remove y).1):=(KH w w j E Q R O n b y h.half l m r).mono λe z u=>u.tp
theorem Kc{j E:Nat}{O:Nat->Prop}(x y:WU)(h:iV w j E Q R O)(l:Sm Q n b)(m:n<=1000000000)(r:x.size<=1048576)(u:y.size<=1048576):WT prog 95 #[WV (S ⟨j,0,U⟩),H x,H y] w (TP w j E (Q.rename x y).2 R O (Q.rename x y).1):=(Kq w w j E Q R O n b x y h.half l m r u).mono λe A z=>z.tp
theorem Pn{j E:Nat}{O:Nat->Prop}(y:WU)(h:iV w j E Q R O)(l:Sm Q n b)(m:n<=1000000000):WT prog 142 #[WV (S ⟨j,0,U⟩),H y] w (TP w j E (Q.sync y).2 R O (Q.sync y).1):=(QH w w j E Q R O n b y h.half l m).mono λe u r=>r.tp
theorem LD{j E:Nat}{O:Nat->Prop}(y t:WU)(h:iV w j E Q R O)(l:Sm Q n b)(m:n<=1000000000)(hb:b<=2097152)(ht:t.size<=1048576):WT prog 141 #[WV (S ⟨j,0,U⟩),H y,H t] w (TP w j E (Q.append y t).2 R O (Q.append y t).1):=(Lg w w j E Q R O n b y t h.half l m hb ht).mono λe u r=>r.tp
theorem sk{j E:Nat}{O:Nat->Prop}(h:iV w j E Q R O)(l:Sm Q n b)(m:n<=1000000000):WT prog 92 #[WV (S ⟨j,0,U⟩)] w (TP w j E Q.fa.2 R O Q.fa.1):=(Gn w w j E Q R O n b h.half l m).mono λe u r=>r.tp
theorem iV.DZ{e E:Nat}{O:Nat->Prop}(h:iV w e E Q R O): Q.Ok/\(-1<=Q.left/\Q.left<=9223372036854775807):=by
 obtain⟨d,l,m,r,u,y,j,z,A,B⟩:=h;exact⟨j.ok,j.left⟩
theorem Q6{j E:Nat}{O:Nat->Prop}(y:WU)(h:iV w j E Q R O)(r:Sm Q n b)(B:n<=1000000000):WT prog 117 #[WV (S ⟨j,0,U⟩),H y] w λe u=>e=.returned (.tuple #[H (Q.rd y),Z Y (Q.GF y)])/\WQ w u:=by
 obtain⟨d,z,C,F,G,A,l,I,L,M⟩:=h;obtain⟨N,P⟩:=l.wV r;have m:=wy j d y w A (by omega);rw[(l.rd y).1,(l.rd y).2] at m;exact m
theorem KR{j E:Nat}{O:Nat->Prop}(h:iV w j E Q R O)(B:Sm Q n b)(M:n<=1000000000):WT prog 44 #[WV (S ⟨j,0,U⟩)] w λe y=>∃v,e=.returned (.tuple #[v,Z Y Q.nD])/\y.ownsRow w.heap.size 9 1 v (Xg Q.fD) (Rd.strs Q.fD)/\WQ w y:=by
 obtain⟨d,C,N,P,T,A,m,V,W,X⟩:=h;obtain⟨k,x⟩:=m.wV B;cases l:Q.down with
 |true =>
  have r:=Ii j d w A (m.down.trans l);have u:Q.fD=[]:=by unfold Rk.fD;rw[T0 l]
  have z:Q.nD=9:=by unfold Rk.nD;rw[T0 l]
  rw[u,z];exact r.mono λe y ⟨F,G⟩=>⟨_,F,Uw _ _ _ _,G⟩
 |false =>
  have r:=Kn j d w A (by omega) (m.down.trans l);have u:Q.fD=(tab Q.now).map (·.1):=by unfold Rk.fD;rw[TZ (by rw[l];decide)]
  have z:Q.nD=0:=by unfold Rk.nD;rw[TZ (by rw[l];decide)]
  have I:d.names.map (λp=>Value.string p.1)=Rd.strs Q.fD:=by rw[m.names,u];unfold Rd.strs;rw[List.map_map,List.map_map];rfl
  have L:Xg d.names=Xg Q.fD:=by rw[m.names,u,UX,UX]
  rw[I,L] at r;rw[z];exact r
end Pk
end Go.Proofs.YtgkkdpegcieakaaGreatDoor
