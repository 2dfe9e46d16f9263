import Derived.Test.YtgkkdpegcieakaaGreatDoorCw22
import Derived.Test.YtgkkdpegcieakaaGreatDoorCw21
set_option linter.all false
set_option maxRecDepth 100000
set_option maxHeartbeats 16000000
namespace Go.Proofs.YtgkkdpegcieakaaGreatDoor
open Go.Proofs.Tryz
open Value renaming int→Z,slice→J,string→H,pointer→WV,bool→WW,tuple→WX,agg→WY
open Ending renaming returned→WZ
open Obj renaming cells→D
open Option renaming none→U,some→S
open Bool renaming true→W8,false→W9
open Or renaming inl→Xa,inr→Xb
open List renaming length→Xg
open _root_.Array renaming size→K
open World renaming cell?→Xc,alloc→Xe,setCell→Xf,heap→E
open IntKind renaming i64→Y
open Go renaming World→WR,Value→WS,Calls→WT
open Go.RowKit
section
def kg(w:WR)(p:Option Addr)(c:Sp.Cfg)(n:Nat):Prop := ∀k,k<n->∃g,p=S ⟨g,0,U⟩/\g<K (E w)/\w.cell? ⟨g,k*4,U⟩=S (Z Y (c.val.getD k 0))/\w.cell? ⟨g,k*4+1,U⟩=S (WW (c.fC.getD k W9))/\w.cell? ⟨g,k*4+2,U⟩=S (Z Y (c.iI.getD k 0))/\w.cell? ⟨g,k*4+3,U⟩=S (Z Y (c.jf.getD k 0))
theorem kg.below{w w':WR}{p:Option Addr}{c:Sp.Cfg}{n:Nat}(h:kg w p c n)(hb:WQ w w'):kg w' p c n:=λk e=>by
 obtain⟨g,a,b,j,l,m,r⟩:=h k e;have:=hb.size;exact⟨g,a,by omega,(hb.cell (p:=⟨g,_,U⟩) b).trans j,(hb.cell (p:=⟨g,_,U⟩) b).trans l,(hb.cell (p:=⟨g,_,U⟩) b).trans m,(hb.cell (p:=⟨g,_,U⟩) b).trans r⟩
def gy(step:Int)(p:Option Addr)(n k:Nat)(all:Int):WS := WY #[Z Y step,J p n k,Z Y all]
theorem FN(step:Nat)(p:Option Addr)(n k:Nat)(all v g i:Int)(r:Bool)(w:WR)(A:step<=4294967295):WT prog 72 #[gy step p n k all,WY #[Z Y v,WW r,Z Y g,Z Y i]] w λe z=>e=WZ (WW (step == 0 || (!r || decide (0<g))))/\WQ w z:=by
 have j:Hid (WQ w ((w.alloc (D #[Z Y (step:Int),J p n k,Z Y all] 80)).alloc (D #[Z Y v,WW r,Z Y g,Z Y i] 104))):=(WO.alloc WN _).alloc (by simp) _;unfold gy;by_cases u:step=0
 .subst u;have l:(((0:Nat):Int) == 0)=W8:=rfl;go_enter func72,ntmps72;go_wp2;go_ret;exact⟨O,cS j⟩
 .have l:((step:Int) == 0)=W9:=Uh.2 (by omega);have m:(step == 0)=W9:=Uh.2 u;rw[m];cases r with
  |false =>
   go_enter func72,ntmps72;go_wp2;go_ret;exact⟨O,cS j⟩
  |true =>
   by_cases y:0<g
   .have b:decide (0<g)=W8:=UH y;go_enter func72,ntmps72;go_wp2;go_ret
    first|exact⟨rfl,cS j⟩|exact⟨by rw[b];rfl,cS j⟩
   .have b:decide (0<g)=W9:=Uu y;go_enter func72,ntmps72;go_wp2;go_ret
    first|exact⟨rfl,cS j⟩|exact⟨by rw[b];rfl,cS j⟩
namespace Sp
theorem quiet_of{c:Cfg}{step n:Nat}(e:Xg c.val=n)(h:∀k,k<n->mA c k step=W9):quiet c step=W8:=by
 unfold quiet;rw[e,List.all_eq_true];intro k b;rw[VT] at b;rw[h k b];rfl
theorem GD{c:Cfg}{step n k:Nat}(e:Xg c.val=n)(j:k<n)(h:mA c k step=W8):quiet c step=W9:=by
 unfold quiet;rw[e,WC];intro b;rw[List.all_eq_true] at b;have:=b k (VT.2 j);rw[h] at this;cases this
end Sp
theorem QE(step:Nat)(p:Option Addr)(n cap:Nat)(c:Sp.Cfg)(w:WR)(X:kg w p c n)(t:Xg c.val=n)(hn:n<=64)(hs:step<=4294967295):WT prog 71 #[gy step p n cap c.all] w λe w'=>e=WZ (WW (Sp.quiet c step))/\WQ w w':=by
 have HV:=cT X;have s:=cT t;clear X t;obtain⟨q,L⟩:∃q,Hid (Sp.quiet c step=q):=⟨_,rfl⟩
 rw[cS L];unfold gy;have l:WQ w (w.alloc (D #[Z Y (step:Int),J p n cap,Z Y c.all] 80)):=WO.alloc WN _;have y:=T9 w (D #[Z Y (step:Int),J p n cap,Z Y c.all] 80);go_enter func71,ntmps71;go_wp2_with fail;generalize hW:Xe _ _=M at *;have N:=cT y;have A:K (E w)<K (E M):=(Ug.1 y).1;clear hW y
 go_loopw [8] (λi wr=>∃k:Nat,k<=n/\i=Z Y k/\Hid (∀m,m<k->Sp.mA c m step=W9)/\WQ M wr) (λi _=>n-(intOf i).toNat)
 case atStart=>exact⟨0,Ud _,rfl,λm o=>absurd o (by omega),T4 _ _⟩
 case round =>
  obtain⟨k,hk,rfl,HA,B⟩:=hrel;have C:WQ w wr:=l.trans (B.mono l.size);by_cases F:k<n
  .have G:(k:Int)<(n:Int):=by omega
   have g0:(0:Int)<=(k:Int):=UF _;obtain⟨g,rfl,hg,d0,d1,d2,d3⟩:=((cS HV).below C) k F;have r:=(B.block (K (E w)) A).trans (cS N);have c0:wr.cell? ⟨K (E w),0,U⟩=S (Z Y (step:Int)):=by simp[Xc,r]
   have c1:wr.cell? ⟨K (E w),1,U⟩=S (J (S ⟨g,0,U⟩) n cap):=by simp[Xc,r]
   have c2:wr.cell? ⟨K (E w),2,U⟩=S (Z Y c.all):=by simp[Xc,r]
   have aa:K (E w)<K (E wr):=Ux A B.size;have b:=cT (λW=>FN step (S ⟨g,0,U⟩) n cap c.all (c.val.getD k 0) (c.iI.getD k 0) (c.jf.getD k 0) (c.fC.getD k W9) W hs);have P:Hid ((step == 0 || (!(c.fC.getD k W9) || decide (0<c.iI.getD k 0)))=Sp.mA c k step):=rfl;rw[cS P] at b;obtain⟨Q,R⟩:∃Q,Hid (Sp.mA c k step=Q):=⟨_,rfl⟩
   rw[cS R] at b;unfold gy at b;generalize c.val.getD k 0=x0 at *;generalize c.fC.getD k W9=x1 at *;generalize c.iI.getD k 0=x2 at *;generalize c.jf.getD k 0=x3 at *;have I:WQ wr (wr.alloc (D #[Z Y x0,WW x1,Z Y x2,Z Y x3] 104)):=WO.alloc WN _;have u:=cT (B.trans (I.mono B.size));clear r I;cases Q with
   |true =>
    have T:Hid (q=W9):=by show _=_;rw[<-cS L];exact Sp.GD (cS s) F (cS R)
    go_wp2_with fail;refine(cS b _).mono ?_;rintro e w2 ⟨rfl,j⟩;have z:=cT ((cS u).trans (j.mono (cS u).size));clear j;go_wp2;go_ret;exact⟨by rw[cS T];rfl,l.trans ((cS z).mono l.size)⟩
   |false =>
    have V:Hid (∀m,m<k+1->Sp.mA c m step=W9):=λm o=>if h:m=k then h ▸ cS R else cS HA m (by omega)
    go_wp2_with fail;refine(cS b _).mono ?_;rintro e w2 ⟨rfl,j⟩;have z:=cT ((cS u).trans (j.mono (cS u).size));clear j;go_wp2;go_roundw
    case rel=>exact⟨k+1,by omega,by go_num,V,cS z⟩
    case measure=>simp[intOf];omega
  .obtain rfl:k=n:=by omega
   have G:¬(k:Int)<(k:Int):=by omega
   have T:Hid (q=W8):=by show _=_;rw[<-cS L];exact Sp.quiet_of (cS s) (cS HA)
   go_wp2;go_ret;exact⟨by rw[cS T];rfl,C⟩
end
section
def dV(B:Nat)(pf:Option Addr)(n kf:Nat)(pe:Option Addr)(ke cY:Nat):Array WS := #[WV (S ⟨B,0,U⟩),J pf n kf,J pe n ke,Z Y cY]
theorem pending(B:Nat)(pf:Option Addr)(m kf:Nat)(pe:Option Addr)(ke cY step:Nat)(p:Option Addr)(n cap:Nat)(c:Sp.Cfg)(w:WR)(M:kg w p c n)(N:Xg c.val=n)(T:n<=64)(V:step<=4294967295)(P:cY<=200):WT prog 40 #[WY (dV B pf m kf pe ke cY),gy step p n cap c.all] w λe X=>e=WZ (Z .u8 (Sp.gA cY c step))/\WQ w X:=by
 have F:=cT (λW (hb:WQ w W)=>QE step p n cap c W (M.below hb) N T V);have b:WQ w ((w.alloc (D (dV B pf m kf pe ke cY) 75)).alloc (D #[Z Y (step:Int),J p n cap,Z Y c.all] 80)):=(WO.alloc WN _).alloc (by simp) _;have G:=Uv w (D (dV B pf m kf pe ke cY) 75);have j:=T9 (w.alloc (D (dV B pf m kf pe ke cY) 75)) (D #[Z Y (step:Int),J p n cap,Z Y c.all] 80);rw[G] at j;have r:((w.alloc (D (dV B pf m kf pe ke cY) 75)).alloc (D #[Z Y (step:Int),J p n cap,Z Y c.all] 80)).heap[K (E w)]?=S (D (dV B pf m kf pe ke cY) 75 (0,0)):=by
  rw[Ur _ _ _ (by rw[G];omega)];exact T9 w _
 clear M N G;obtain⟨q,z⟩:∃q,Hid (Sp.quiet c step=q):=⟨_,rfl⟩
 rw[cS z] at F;have u:Hid (Sp.gA cY c step=if q=W8 then 1 else if cY<=step then 2 else 0):=by show _=_;unfold Sp.gA;rw[cS z]
 unfold gy at F ⊢;unfold dV at *;go_enter func40,ntmps40;go_wp2_with fail;generalize t:Xe (Xe _ _) _=s at *;refine(cS F s b).mono ?_;rintro e C ⟨rfl,l⟩;have Q:C.heap[K (E w)+1]?=_:=(l.block _ (Ug.1 j).1).trans j;have R:C.heap[K (E w)]?=_:=(l.block _ (Ug.1 r).1).trans r;have o:C.cell? ⟨K (E w)+1,0,U⟩=S (Z Y (step:Int)):=by simp[Xc,Q]
 have g:C.cell? ⟨K (E w),3,U⟩=S (Z Y (cY:Int)):=by simp[Xc,R]
 have I:=cT (b.trans (l.mono b.size));clear t j r b l Q R;cases q with
 |true =>
  go_wp2;go_ret;exact⟨by rw[cS u];rfl,cS I⟩
 |false =>
  by_cases A:cY<=step
  .have L:(cY:Int)<=(step:Int):=by omega
   have y:Hid (Sp.gA cY c step=2):=by show _=_;rw[cS u,TZ (by simp),T0 A]
   go_wp2;go_ret;exact⟨by rw[cS y];rfl,cS I⟩
  .have L:¬(cY:Int)<=(step:Int):=by omega
   have y:Hid (Sp.gA cY c step=0):=by show _=_;rw[cS u,TZ (by simp),TZ A]
   go_wp2;go_ret;exact⟨by rw[cS y];rfl,cS I⟩
end
section
theorem rS(step:Nat)(p:Option Addr)(n cap:Nat)(c:Sp.Cfg)(w:WR)(o:kg w p c n)(hl:Xg c.val=n)(hn:n<=64):WT prog 41 #[gy step p n cap c.all] w λe w'=>WQ w w'/\∃v,e=WZ v/\w'.ownsRow (K (E w)) 2 1 v n (c.val.map (Z Y)):=by
 obtain⟨t2,G,I,L,M⟩:=UB info_i64;have HV:=cT o;have N:=cT hl;clear o hl;unfold gy;have P:WQ w (w.alloc (D #[Z Y (step:Int),J p n cap,Z Y c.all] 80)):=WO.alloc WN _;have m:=Uv w (D #[Z Y (step:Int),J p n cap,Z Y c.all] 80);go_enter func41,ntmps41;go_wp2_with fail;generalize hW:Xe _ _=W0 at *;have HZ:=cT m;clear hW m
 go_loopw [3,9] (λvv i wr=>∃(k:Nat) (v:WS),k<=n/\i=Z Y k/\vv=v/\Hid (wr.ownsRow (K (E w)+1) 2 1 v k ((c.val.take k).map (Z Y)))/\Below (K (E w)+1) W0 wr) (λ_ i _=>n-(intOf i).toNat)
 case atStart=>exact⟨0,_,Ud _,rfl,rfl,Uw _ _ _ _,T4 _ _⟩
 case round =>
  obtain⟨k,v,hk,rfl,r,HR,Q⟩:=hrel;obtain rfl:=r.symm;clear r;have y:WQ w wr:=P.trans (Q.mono (by omega));have R:K (E w)+1<=K (E wr):=by have:=Q.size;have:=cS HZ;omega
  by_cases z:k<n
  .have A:(k:Int)<(n:Int):=by omega
   have g0:(0:Int)<=(k:Int):=UF _;have B:k<Xg c.val:=by rw[cS N];exact z
   obtain⟨g,rfl,hg,d0,d1,d2,d3⟩:=((cS HV).below y) k z;have T:Hid ((c.val.take (k+1)).map (Z Y)=(c.val.take k).map (Z Y)++[Z Y (c.val.getD k 0)]):=by
    show _=_
    rw[Vf B,Vn,Uo,Uk B];rfl
   generalize c.val.getD k 0=x0 at *;generalize c.fC.getD k W9=x1 at *;generalize c.iI.getD k 0=x2 at *;generalize c.jf.getD k 0=x3 at *;have V:=cS HR;go_wp2_with (first
    | (at_builtin;go_must (refine wpList_append_lies _ O (.tmp 13) (.tmp 16) 30 O (K (E w)+1) 2 t2 _ 1 8 underlying30 G I L M O (by omega) v _ _ O ((V.alloc _).alloc _) ⟨K (E wr)+1,0,U⟩ 1 1 [Z Y x0] O O (by
      intro j u F
      match j,F with
      |0,F=>simp at F;subst F;simp[Addr.add]) (by simp[Value.oneCell']) (by omega) (by unfold maxLen;omega) (by omega) (by simp;omega) (K (E wr)+1+1) (by simp) ?_;intro g2 W w2 l b X C))
    |go_in)
   have t:Below (K (E w)+1) W0 w2:=((Q.alloc R _).alloc (by simp;omega) _).grown b (by simp;omega) (λq hq=>(V.lt q hq).1);have s:Hid (w2.ownsRow (K (E w)+1) 2 1 (J (S ⟨g2,0,U⟩) (k+1) W) (k+1) ((c.val.take (k+1)).map (Z Y))):=by
    show World.ownsRow _ _ _ _ _ _ _
    rw[cS T];exact l
   clear l b X C V;go_roundw
   case rel=>exact⟨k+1,_,by omega,by go_num,rfl,s,t⟩
   case measure=>simp[intOf];omega
  .obtain rfl:k=n:=by omega
   have A:¬(k:Int)<(k:Int):=by omega
   have HE:Hid (wr.ownsRow (K (E w)) 2 1 v k (c.val.map (Z Y))):=by
    have h:=fy (cS HR) (U0 (K (E w)));rw[<-cS N,Vd,cS N] at h;exact h
   go_wp2;go_ret;exact⟨y,v,O,cS HE⟩
end
section
theorem info_vertex:(prog.info? 104).map (λi=>(i.zero,i.size,i.bytes))=S (S (WY #[Z Y 0,WW W9,Z Y 0,Z Y 0]),4,32):=by kernel_rfl
def jg(V:List Int)(R:List Bool)(G I:List Int)(k:Nat):List WS:=(List.range k).flatMap λm=>[Z Y (V.getD m 0),WW (R.getD m W9),Z Y (G.getD m 0),Z Y (I.getD m 0)]
theorem mx(V:List Int)(R:List Bool)(G I:List Int)(k:Nat):jg V R G I (k+1)=jg V R G I k++[Z Y (V.getD k 0),WW (R.getD k W9),Z Y (G.getD k 0),Z Y (I.getD k 0)]:=by
 unfold jg;rw[List.range_succ,V0];simp
structure EM (w:WR) (C:Nat) (step:Int) (sl:WS) (all:Int) (n:Nat) (xs:List WS):Prop where
 c0:w.cell? ⟨C,0,U⟩=S (Z Y step)
 c1:w.cell? ⟨C,1,U⟩=S sl
 c2:w.cell? ⟨C,2,U⟩=S (Z Y all)
 fz:∀j,w.frozen? ⟨C,j,U⟩=W9
 o:w.ownsRow (C+1) 104 4 sl n xs
variable {step all:Int}{C n:Nat}{xs:List WS}{w:WR}{sl:WS}
theorem EM.lt(h:EM w C step sl all n xs): C<K (E w):=Ui w _ h.c0
theorem EM.below{w':WR}(h:EM w C step sl all n xs)(hb:WQ w w'): EM w' C step sl all n xs:=⟨(hb.cell (p:=⟨C,0,U⟩) h.lt).trans h.c0,(hb.cell (p:=⟨C,1,U⟩) h.lt).trans h.c1,(hb.cell (p:=⟨C,2,U⟩) h.lt).trans h.c2,λj=>(hb.frozen (p:=⟨C,j,U⟩) h.lt).trans (h.fz j),dd h.o hb⟩
theorem EM.new{t:Nat}(h:w.heap[C]?=S (D #[Z Y step,J U 0 0,Z Y all] t)): EM w C step (J U 0 0) all 0 []:=⟨by simp[Xc,h],by simp[Xc,h],by simp[Xc,h],λj=>by simp[World.frozen?,h],Uw _ _ _ _⟩
theorem EM.app{l:WR}{b:WS}{ys:List WS}(h:EM w C step sl all n xs)(u:w.grownBy l sl.ownBlock)(z:l.ownsRow (C+1) 104 4 b (n+1) ys): EM (l.setCell ⟨C,1,U⟩ b) C step b all (n+1) ys:=by
 have y:=h.lt;have m:S C≠sl.ownBlock:=λe=>by have:=(h.o.lt C e.symm).1;omega
 have r:∀j,l.cell? ⟨C,j,U⟩=w.cell? ⟨C,j,U⟩:=λj=>u.cell_far ⟨C,j,U⟩ y m
 exact⟨(cW (by omega)).trans ((r 0).trans h.c0),UN _ _ _ ((r 1).trans h.c1),(cW (by omega)).trans ((r 2).trans h.c2),λj=>(UK _ _ _ _).trans ((u.frozen_far ⟨C,j,U⟩ y m).trans (h.fz j)),((eB.refl C l).set _ _).own z⟩
end
section
theorem Oh(V:List Int)(R:List Bool)(G I:List Int):∀n,(jg V R G I n).length=n*4:=by
 intro n
 induction n with
 |zero=>rfl
 |succ n b=>rw[mx,UG,b];simp;omega
theorem F1(V:List Int)(R:List Bool)(G I:List Int):∀n k,k<n->(jg V R G I n)[k*4]?=S (Z Y (V.getD k 0))/\(jg V R G I n)[k*4+1]?=S (WW (R.getD k W9))/\(jg V R G I n)[k*4+2]?=S (Z Y (G.getD k 0))/\(jg V R G I n)[k*4+3]?=S (Z Y (I.getD k 0)):=by
 intro n
 induction n with
 |zero=>intro k h;omega
 |succ n e =>
  intro k h;rw[mx];have j:=Oh V R G I n;by_cases l:k<n
  .obtain⟨a,b,c,d⟩:=e k l;rw[UY (by omega),UY (by omega),UY (by omega),UY (by omega)];exact⟨a,b,c,d⟩
  .obtain rfl:k=n:=by omega
   rw[Ul (by omega),Ul (by omega),Ul (by omega),Ul (by omega),j,Nat.sub_self,Nat.add_sub_cancel_left,Nat.add_sub_cancel_left,Nat.add_sub_cancel_left];exact⟨O,O,O,O⟩
theorem gU{w:WR}{B n:Nat}{sl:WS}{V:List Int}{R:List Bool}{G I:List Int}{all:Int}(h:w.ownsRow B 104 4 sl n (jg V R G I n)):∃p b,sl=J p n b/\kg w p ⟨V,R,G,I,all⟩ n:=by
 obtain⟨p,b,u,m⟩:=dm h;refine⟨p,b,u,λk y=>?_⟩;obtain⟨z,A,C,F⟩:=F1 V R G I n k y;obtain⟨g,r,_,L,M⟩:=m (k*4) (by omega);obtain⟨N,e,_,_,P⟩:=m (k*4+1) (by omega);obtain⟨Q,j,_,_,T⟩:=m (k*4+2) (by omega);obtain⟨W,l,_,_,X⟩:=m (k*4+3) (by omega);have x:N=g:=by rw[r] at e;injection e with q;injection q with q;exact q.symm
 have i:Q=g:=by rw[r] at j;injection j with q;injection q with q;exact q.symm
 have f:W=g:=by rw[r] at l;injection l with q;injection q with q;exact q.symm
 subst x i f;exact⟨_,r,L,M.trans z,P.trans A,T.trans C,X.trans F⟩
theorem kg.congr{w:WR}{p:Option Addr}{c b:Sp.Cfg}{n:Nat}(h:kg w p c n)(j:∀k,k<n->b.val.getD k 0=c.val.getD k 0)(l:∀k,k<n->b.fC.getD k W9=c.fC.getD k W9)(m:∀k,k<n->b.iI.getD k 0=c.iI.getD k 0)(hi:∀k,k<n->b.jf.getD k 0=c.jf.getD k 0):kg w p b n:=λk e=>by
 rw[j k e,l k e,m k e,hi k e];exact h k e
theorem re(w:WR)(a b:Array WS)(e j:TypeId):∀W,W=(w.alloc (D a e)).alloc (D b j)->W.heap[K (E w)]?=S (D a e (0,0))/\W.heap[K (E w)+1]?=S (D b j (0,0))/\WQ w W/\(K (E W))=K (E w)+1+1:=by
 rintro W rfl;have l:=Uv w (D a e);have r:=Uv (w.alloc (D a e)) (D b j);have m:=T9 (w.alloc (D a e)) (D b j);rw[l] at m;refine⟨?_,m,((T4 _ w).alloc WN _).alloc (by rw[l];omega) _,by omega⟩;rw[Ur _ _ _ (by rw[l];omega)];exact T9 w _
end
section
theorem kr{α β : Type}{c d : α->List β}:∀(l:List α),(∀m∈l,c m=d m)->l.flatMap c=l.flatMap d:=by
 intro l
 induction l with
 |nil=>intro _;rfl
 |cons a l e =>
  intro h;rw[V9,V9,h a (UI ..),e (λm r=>h m (UZ _ r))]
theorem Iq(c:Nat->List WS)(e:∀m,(c m).length=4):∀n,((List.range n).flatMap c).length=n*4:=by
 intro n
 induction n with
 |zero=>rfl
 |succ n l =>
  rw[List.range_succ,V0,UG,l];simp[e];omega
theorem o7(c:Nat->List WS)(e:∀m,(c m).length=4)(i r:Nat)(z:r<4)(v:WS):∀n,i<n->((List.range n).flatMap c).set (i*4+r) v=(List.range n).flatMap (λm=>if m=i then (c m).set r v else c m):=by
 intro n
 induction n with
 |zero=>intro h;omega
 |succ n l =>
  intro hi;have u:=Iq c e n;rw[List.range_succ,V0,V0];by_cases h:i<n
  .rw[List.set_append_left _ _ (by omega),l h]
   congr 1
   simp only[V9,List.flatMap_nil,Vr];rw[TZ (by omega)]
  .obtain rfl:i=n:=by omega
   rw[WI _ _ (by omega),u,Nat.add_sub_cancel_left]
   congr 1
   .apply kr;intro m y;rw[VT] at y;rw[TZ (by omega)]
   .simp only[V9,List.flatMap_nil,Vr];simp
variable {i:Nat}
theorem rL{α : Type}(V:List α)(m:Nat)(x d : α)(h:i<Xg V): (V.set i x).getD m d=if m=i then x else V.getD m d:=by
 rw[Uo,Uo];by_cases c:m=i
 .subst c;rw[WE h,T0 rfl];rfl
 .rw[V7 (Vm c),TZ c]
variable {V I G:List Int}{n:Nat}{R:List Bool}
theorem Ax(hi:i<n)(e:i<Xg V)(x:Int): (jg V R G I n).set (i*4) (Z Y x)=jg (V.set i x) R G I n:=by
 unfold jg;have h:=o7 (λm=>[Z Y (V.getD m 0),WW (R.getD m W9),Z Y (G.getD m 0),Z Y (I.getD m 0)]) (λm=>O) i 0 (by omega) (Z Y x) n hi;rw[U9] at h;rw[h];apply kr;intro m _;rw[rL V m x 0 e];by_cases c:m=i
 .rw[T0 c,T0 c];rfl
 .rw[TZ c,TZ c]
theorem AP(hi:i<n)(e:i<Xg R)(x:Bool): (jg V R G I n).set (i*4+1) (WW x)=jg V (R.set i x) G I n:=by
 unfold jg;rw[o7 (λm=>[Z Y (V.getD m 0),WW (R.getD m W9),Z Y (G.getD m 0),Z Y (I.getD m 0)]) (λm=>O) i 1 (by omega) (WW x) n hi];apply kr;intro m _;rw[rL R m x W9 e];by_cases c:m=i
 .rw[T0 c,T0 c];rfl
 .rw[TZ c,TZ c]
theorem LL(hi:i<n)(e:i<Xg G)(x:Int): (jg V R G I n).set (i*4+2) (Z Y x)=jg V R (G.set i x) I n:=by
 unfold jg;rw[o7 (λm=>[Z Y (V.getD m 0),WW (R.getD m W9),Z Y (G.getD m 0),Z Y (I.getD m 0)]) (λm=>O) i 2 (by omega) (Z Y x) n hi];apply kr;intro m _;rw[rL G m x 0 e];by_cases c:m=i
 .rw[T0 c,T0 c];rfl
 .rw[TZ c,TZ c]
theorem B9(hi:i<n)(e:i<Xg I)(x:Int): (jg V R G I n).set (i*4+3) (Z Y x)=jg V R G (I.set i x) n:=by
 unfold jg;rw[o7 (λm=>[Z Y (V.getD m 0),WW (R.getD m W9),Z Y (G.getD m 0),Z Y (I.getD m 0)]) (λm=>O) i 3 (by omega) (Z Y x) n hi];apply kr;intro m _;rw[rL I m x 0 e];by_cases c:m=i
 .rw[T0 c,T0 c];rfl
 .rw[TZ c,TZ c]
structure oF (w:WR) (C B g cap n:Nat) (step all:Int) (V:List Int) (R:List Bool) (G I:List Int):Prop where
 c0:w.cell? ⟨C,0,U⟩=S (Z Y step)
 c1:w.cell? ⟨C,1,U⟩=S (J (S ⟨g,0,U⟩) n cap)
 c2:w.cell? ⟨C,2,U⟩=S (Z Y all)
 fz:∀j,w.frozen? ⟨C,j,U⟩=W9
 o:w.ownsRow B 104 4 (J (S ⟨g,0,U⟩) n cap) n (jg V R G I n)
 ne:g≠C
variable {step all:Int}{C g cap B:Nat}{w:WR}
theorem oF.lt(h:oF w C B g cap n step all V R G I): C<K (E w):=Ui w _ h.c0
theorem oF.TB(h:oF w C B g cap n step all V R G I): B<=g/\g<K (E w):=h.o.lt g O
theorem oF.below{w':WR}(h:oF w C B g cap n step all V R G I)(hb:WQ w w'): oF w' C B g cap n step all V R G I:=⟨(hb.cell (p:=⟨C,0,U⟩) h.lt).trans h.c0,(hb.cell (p:=⟨C,1,U⟩) h.lt).trans h.c1,(hb.cell (p:=⟨C,2,U⟩) h.lt).trans h.c2,λj=>(hb.frozen (p:=⟨C,j,U⟩) h.lt).trans (h.fz j),dd h.o hb,h.ne⟩
theorem oF.cells(h:oF w C B g cap n step all V R G I)(hi:i<n):w.cell? ⟨g,i*4,U⟩=S (Z Y (V.getD i 0))/\w.cell? ⟨g,i*4+1,U⟩=S (WW (R.getD i W9))/\w.cell? ⟨g,i*4+2,U⟩=S (Z Y (G.getD i 0))/\w.cell? ⟨g,i*4+3,U⟩=S (Z Y (I.getD i 0)):=by
 obtain⟨e,l,m,r⟩:=F1 V R G I n i hi;exact⟨(h.o.cellAt _ (by omega)).trans e,(h.o.cellAt _ (by omega)).trans l,(h.o.cellAt _ (by omega)).trans m,(h.o.cellAt _ (by omega)).trans r⟩
theorem oF.S0(h:oF w C B g cap n step all V R G I)(j:Nat): w.frozen? ⟨g,j,U⟩=W9:=h.o.frozenAt j
variable {j:Nat}
theorem oF.store(h:oF w C B g cap n step all V R G I){v:WS}{V':List Int}{R':List Bool}{G' I':List Int}(he:(jg V R G I n).set j v=jg V' R' G' I' n): oF (w.setCell ⟨g,j,U⟩ v) C B g cap n step all V' R' G' I':=by
 have e:=h.ne;refine⟨(dC e).trans h.c0,(dC e).trans h.c1,(dC e).trans h.c2,λj=>(UK _ _ _ _).trans (h.fz j),?_,e⟩;have l:=(h.o.stored j v).1;rw[he] at l;exact l
theorem oF.Sx(h:oF w C B g cap n step all V R G I)(x:Int): oF (w.setCell ⟨C,2,U⟩ (Z Y x)) C B g cap n step x V R G I:=by
 refine⟨(cW (by omega)).trans h.c0,(cW (by omega)).trans h.c1,UN _ _ _ h.c2,λj=>(UK _ _ _ _).trans (h.fz j),?_,h.ne⟩;exact U1 h.o (a:=⟨C,2,U⟩) (λe=>by have l:S g=S C:=e;injection l with l;exact h.ne l) _
structure eI (C g:Nat) (w w':WR):Prop where
 os:w'.os=w.os
 tape:w'.tape=w.tape
 output:w'.output=w.output
 size:K (E w)<=K (E w')
 block:∀k,k<K (E w)->k≠C->k≠g->w'.heap[k]?=w.heap[k]?
theorem eI.refl(C g:Nat)(w:WR):eI C g w w:=⟨O,O,O,TY _,λ_ _ _ _=>O⟩
variable {b a:WR}
theorem eI.trans{c:WR}(h:eI C g a b)(k:eI C g b c): eI C g a c:=⟨k.os.trans h.os,k.tape.trans h.tape,k.output.trans h.output,Uc h.size k.size,λi hi e l=>(k.block i (Ux hi h.size) e l).trans (h.block i hi e l)⟩
theorem eI.gQ(h:WQ a b): eI C g a b:=⟨h.os,h.tape,h.output,h.size,λk e _ _=>h.block k e⟩
theorem eI.set(h:eI C g a b){q:Nat}(l:q=C\/q=g)(v:WS): eI C g a (b.setCell ⟨q,j,U⟩ v):=⟨h.os,h.tape,h.output,by simp[Xf];exact h.size,λk m r u=>(Uj _ _ _ k (λe=>by have y:k=q:=e;rcases l with l | l <;> omega)).trans (h.block k m r u)⟩
theorem eI.below{L:Nat}(h:eI C g a b)(h1:L<=C)(h2:L<=g)(e:L<=K (E a)): Below L a b:=⟨h.os,h.tape,h.output,h.size,λk l=>h.block k (by omega) (by omega) (by omega)⟩
theorem eI.cell(h:eI C g a b){q:Nat}(e:q<K (E a))(h1:q≠C)(h2:q≠g): b.cell? ⟨q,j,U⟩=a.cell? ⟨q,j,U⟩:=by
 unfold Xc;rw[h.block q e h1 h2]
end
section
theorem info_edges:(prog.info? 66).map (λi=>(i.zero,i.size,i.bytes))=S (S (J U 0 0),1,24):=by kernel_rfl
theorem Hp(f:Nat->WS)(n i:Nat)(v:WS):((List.range n).map f).set i v=(List.range n).map (λj=>if j=i then v else f j):=by
 apply List.ext_getElem?;intro j;by_cases b:j<n
 .by_cases e:i=j
  .subst e;rw[WE (by simpa using b)];simp[b]
  .rw[V7 e];simp[b,Vm e]
 .rw[Wr (by simp;omega),Wr (by simp;omega)]
theorem zl(E:List Sp.Ed)(e:Sp.Ed):dp (E++[e])=dp E++[Z Y (e.dj:Int),Z Y (e.cR:Int),Z Y e.n]:=by
 unfold dp;rw[V0];simp
structure sF (w:WR) (L D n:Nat) (f:Nat->WS) (E:List Sp.Ed):Prop where
 o:w.ownsRow L 66 1 (J (S ⟨D,0,U⟩) n n) n ((List.range n).map f)
 own:∀i,i<n->w.ownsRow L 162 3 (f i) (Sp.iE E i).length (dp (Sp.iE E i))
 ap:∀i j,i<n->j<n->i≠j->vH (f i) (f j)
 nd:∀i,i<n->(f i).ownBlock≠S D
variable {L n:Nat}{f:Nat->WS}{w:WR}
theorem sF.lt{b:Nat}{E:List Sp.Ed}(h:sF w L b n f E): L<=b/\b<w.heap.size:=h.o.lt b O
theorem sF.below{w':WR}{b:Nat}{E:List Sp.Ed}(h:sF w L b n f E)(hb:WQ w w'): sF w' L b n f E:=⟨dd h.o hb,λi hi=>dd (h.own i hi) hb,h.ap,h.nd⟩
theorem sF.cell{b:Nat}{E:List Sp.Ed}(h:sF w L b n f E){i:Nat}(hi:i<n): w.cell? ⟨b,i,U⟩=S (f i):=by
 rw[h.o.cellAt i (by omega)];simp[hi]
theorem sF.app{u:WR}{b g k cap:Nat}{E:List Sp.Ed}(h:sF w L b n f E)(e:Sp.Ed)(he:e.dj<n)(I:(Sp.iE E e.dj).length=k)(C:w.grownBy u (f e.dj).ownBlock)(M:u.ownsRow L 162 3 (J (S ⟨g,0,U⟩) (k+1) cap) (k+1) (dp (Sp.iE E e.dj)++[Z Y (e.dj:Int),Z Y (e.cR:Int),Z Y e.n]))(l:(f e.dj).ownBlock=S g\/g=w.heap.size):sF (u.setCell ⟨b,e.dj,U⟩ (J (S ⟨g,0,U⟩) (k+1) cap)) L b n (λj=>if j=e.dj then (J (S ⟨g,0,U⟩) (k+1) cap) else f j) (E++[e]):=by
 have P:=h.lt;have z:g≠b:=by
  rintro rfl;rcases l with l|l
  .exact h.nd _ he l
  .omega
 have r:(Value.slice (S ⟨g,0,U⟩) (k+1) cap).ownBlock≠S b:=λq=>by
  have A:S g=S b:=q;injection A with A;exact z A
 refine⟨?_,λi hi=>?_,λi j hi y m=>?_,λi hi=>?_⟩
 .have N:u.ownsRow L 66 1 (J (S ⟨b,0,U⟩) n n) n ((List.range n).map f):=h.o.kept C (Xb (λq=>h.nd _ he q.symm));have F:=(N.stored e.dj (J (S ⟨g,0,U⟩) (k+1) cap)).1;rw[Hp] at F;exact F
 .by_cases c:i=e.dj
  .subst c;rw[T0 rfl];have B:Sp.iE (E++[e]) e.dj=Sp.iE E e.dj++[e]:=by unfold Sp.iE;rw[VB];simp
   rw[B,zl,UG,I];exact U1 M (a:=⟨b,e.dj,U⟩) r _
  .rw[TZ c];have B:Sp.iE (E++[e]) i=Sp.iE E i:=by unfold Sp.iE;rw[VB];simp[Vm c]
   rw[B];exact U1 ((h.own i hi).kept C (h.ap i _ hi he c)) (a:=⟨b,e.dj,U⟩) (h.nd i hi) _
 .by_cases c:i=e.dj
  .subst c;rw[T0 O,TZ (λq=>m q.symm)];exact(h.ap _ _ hi y m).grown (h.own j y) l
  .rw[TZ c];by_cases G:j=e.dj
   .subst G;rw[T0 rfl];exact((h.ap _ _ y hi (Vm m)).grown (h.own i hi) l).symm
   .rw[TZ G];exact h.ap i j hi y m
 .by_cases c:i=e.dj
  .subst c;rw[T0 rfl];exact r
  .rw[TZ c];exact h.nd i hi
def IG(w:WR)(pe:Option Addr)(n:Nat)(Es:List Sp.Ed):Prop := ∀i,i<n->∃b p e,pe=S ⟨b,0,U⟩/\b<K (E w)/\w.cell? ⟨b,i,U⟩=S (J p (Sp.iE Es i).length e)/\gh w p (Sp.iE Es i)
theorem IG.below{w':WR}{pe:Option Addr}{Es:List Sp.Ed}(h:IG w pe n Es)(hb:WQ w w'): IG w' pe n Es:=λi hi=>by
 obtain⟨e,p,j,a,b,c,d⟩:=h i hi;have:=hb.size;exact⟨e,p,j,a,by omega,(hb.cell (p:=⟨e,i,U⟩) b).trans c,d.below hb⟩
theorem sF.read{b:Nat}{E:List Sp.Ed}(h:sF w L b n f E): IG w (S ⟨b,0,U⟩) n E:=λi hi=>by
 obtain⟨p,e,j,l⟩:=l7 (h.own i hi);exact⟨b,p,e,O,h.lt.2,by rw[h.cell hi,j],l⟩
theorem sF.new{b:Nat}(h:w.ownsRow L 66 1 (J (S ⟨b,0,U⟩) n n) n (List.replicate n (J U 0 0))): sF w L b n (λ_=>J U 0 0) []:=by
 refine⟨?_,λi hi=>Uw _ _ _ _,λi j _ _ _=>Xa rfl,λi hi q=>by cases q⟩;have e:(List.range n).map (λ_=>Value.slice U 0 0)=List.replicate n (J U 0 0):=by
  rw[List.map_const',List.length_range]
 rw[e];exact h
theorem sF.low{e b:Nat}{E:List Sp.Ed}(h:sF w e b n f E)(j:L<=e): sF w L b n f E:=⟨fy h.o j,λi hi=>fy (h.own i hi) j,h.ap,h.nd⟩
theorem sF.Om{b R j:Nat}{E:List Sp.Ed}{v:WS}(h:sF w L b n f E)(e:R<L): sF (w.setCell ⟨R,j,U⟩ v) L b n f E:=⟨Um h.o (a:=⟨R,j,U⟩) e v,λi hi=>Um (h.own i hi) (a:=⟨R,j,U⟩) e v,h.ap,h.nd⟩
def JJ(n:Nat)(Es:List Sp.Ed)(w:WR)(e:Ending)(w':WR):Prop:=WQ w w'/\∃b f,e=WZ (J (S ⟨b,0,U⟩) n n)/\sF w' (K (E w)) b n f Es
end
section
theorem uv(nm:_)(x:Int)(f:WS)(w:WR):Sem.run prog (Instr.field 152 (WY #[H nm,Z Y x,f]) 2) w=.ok f w:=by first|kernel_rfl|rfl
variable {w:WR}
theorem tK{P:Program}{b:Array Oper}{o:Oper}{a:Act}{K:Act->WR->Prop}{Q:Exit->Act->WR->Prop}{E:Prop}(l:o.guard=U)(t:TypeId)(x:Operand)(i:Nat)(j:o.op=Op.field t x i)(v:WS)(m:Sem.run P (Instr.field t (a.eval x) i) w=.ok v w)(h:K (a.put o.dst v) w): if Region.wanted o (yielded b a.tmps)=W8 then Oper.wp P o a w K Q else E:=by
 have r:Region.wanted o (yielded b a.tmps)=W8:=by simp[Region.wanted,l]
 rw[T0 r];unfold Oper.wp;have e:(execOp a.eval o).run P w=.ok (.value v) w:=by
  simp[execOp,j,m,Result.andThen]
 rw[e,Oper.upon_value];exact h
theorem Cl{P:Program}{c:Code}{Q:Exit->Act->WR->Prop}{a:Act}(R:WR->Prop)(h:∃A:WS->WS->Act,c.wp P (sY λx j b=>x=.normal/\∃u1 u2,j=A u1 u2/\R b) a w/\∀u1 u2 b,R b->Q .normal (A u1 u2) b): c.wp P Q a w:=by
 obtain⟨A,l,m⟩:=h;refine Code.wp_mono (λe a w h=>?_) l;obtain⟨rfl,u1,u2,rfl,r⟩:=kX _ _ _ h;exact m _ _ _ r
variable {n:Nat}
theorem oF.drew{C B g cap:Nat}{step all:Int}{V:List Int}{R:List Bool}{G I:List Int}(h:oF w C B g cap n step all V R G I): oF w.drew C B g cap n step all V R G I:=h.below WO.drew
theorem eI.drew{C g:Nat}{a b:WR}(h:eI C g a b):eI C g a b.drew:=h.trans (eI.gQ WO.drew)
theorem Cp{s:List (Nat × Int)}{m:Nat × Int}(b:m.1<n): ((List.range n).map (Sp.hZ s)).set m.1 (Sp.hZ s m.1+1)=(List.range n).map (Sp.hZ (s++[m])):=by
 rw[Sp.p9];apply Sp.oh;intro q _;rw[Sp.DY];by_cases c:q=m.1
 .subst c;simp
 .rw[TZ c,TZ (Vm c)]
theorem Az{P:Sp.Pg}{s:List (Nat × Int)}{m:Nat × Int}(b:m.1<n): ((List.range n).map (Sp.ig P s)).set m.1 (Sp.jt P.pB (Sp.ig P s m.1) m.2)=(List.range n).map (Sp.ig P (s++[m])):=by
 rw[Sp.p9];apply Sp.oh;intro q _;rw[Sp.Dz];by_cases c:q=m.1
 .subst c;simp
 .rw[TZ c,TZ (Vm c)]
def Df(P:Sp.Pg)(C L g cap n:Nat)(step all:Int)(V:List Int)(R:List Bool)(b:List (Nat × Int))(t:Sp.Tn)(id:Nat)(w:WR)(e:Ending)(w':WR):Prop:=e=WZ (WX #[])/\eI C g w w'/\oF w' C L g cap n step (Sp.jt P.al all t.lG) (V.set id t.value) (R.set id t.gz) ((List.range n).map (Sp.hZ (b++t.dX))) ((List.range n).map (Sp.ig P (b++t.dX)))
theorem PF(B:Nat)(pf:Option Addr)(n kf:Nat)(pe:Option Addr)(ke cY:Nat)(P:Sp.Pg)(Es:List Sp.Ed)(t:Sp.Tn)(id:Nat)(vm:WS)(C L g cap M:Nat)(step all:Int)(V:List Int)(R:List Bool)(y:List (Nat × Int))(w0 w:WR)(hp:jJ w0 B P)(he:IG w0 pe n Es)(hb:WQ w0 w)(I:id<n)(hn:n<=64)(hc:oF w C L g cap n step all V R ((List.range n).map (Sp.hZ y)) ((List.range n).map (Sp.ig P y)))(bk:K (E w0)<=C)(bI:K (E w0)<=L)(hV:Xg V=n)(hR:Xg R=n)(bJ:Xg y<=100000)(hm:w.ownsRow M 2 1 vm (Xg t.dX) (t.dX.map λm=>Z Y m.2))(bK:C<M)(bL:g<M)(aM:t.dX≠[]->t.dX.map Prod.fst=(Sp.iE Es id).map (·.cR))(ht:Sp.PU n t)(bn:(Sp.iE Es id).length<=1000):WT prog 74 #[WY (dV B pf n kf pe ke cY),WY #[Z Y t.value,vm,WW t.gz,Z Y t.lG],Z Y id,WV (S ⟨C,0,U⟩)] w (Df P C L g cap n step all V R y t id w):=by
 generalize hO:Df P C L g cap n step all V R y t id w=b;replace hO:=cT hO;have HP:=cT hp;have HE:=cT he;have bo:=cT aM;have HT:=cT ht;have bp:=ht.l;obtain⟨pm,km,rfl,aN⟩:=dm hm;have bq:=cT aN;have N:∀q,pm=S q->M<=q.block/\q.block<K (E w):=by
  rintro q rfl;rcases hm.2 with ⟨e,_⟩|⟨g',bH,bM,e,h1,h2,_⟩
  .cases e
  .injection e with e _ _;injection e with e;subst e;exact⟨h1,(Ug.1 h2).1⟩
 have br:=cT N;have az:=cT (re w (dV B pf n kf pe ke cY) #[Z Y t.value,J pm (Xg t.dX) km,WW t.gz,Z Y t.lG] 75 167);have aO:=cT hc;have bN:=hc.lt;have bO:=hc.TB;have bP:=hc.ne;have aA:=cT hb;have g0:(0:Int)<=(id:Int):=UF _;have g1:(id:Int)<(n:Int):=by omega
 obtain⟨m,HM⟩:∃m,Hid (Xg t.dX=m):=⟨_,rfl⟩
 rw[cS HM] at az bp ⊢;clear hp he aM ht hm aN N hc hb;unfold dV at *;go_enter func74,ntmps74;go_upto_region 1 with fail;generalize hW:Xe (Xe _ _) _=W0;obtain⟨aP,aB,T,bQ⟩:=cS az W0 hW.symm;have bs:=cT aP;have bu:=cT aB;clear hW az;have X:=cT ((cS aO).below T);have c1:=(cS X).c1;have d0:=((cS X).cells I).1;have f0:=(cS X).S0 (id*4);have t0:W0.cell? ⟨K (E w)+1,0,U⟩=S (Z Y t.value):=by simp[Xc,aB]
 clear aP aB;apply mJ (λw'=>Hid (oF w' C L g cap n step all (V.set id t.value) R ((List.range n).map (Sp.hZ y)) ((List.range n).map (Sp.ig P y)))/\Hid (eI C g W0 w'));apply Exists.intro;apply And.intro
 case left =>
  go_region_law fail
  all_goals first
   |exact⟨rfl,rfl,(cS X).store (Ax I (by omega) _),(eI.refl C g W0).set (Xb rfl) _⟩
   |exact⟨rfl,rfl,(cS X).drew.store (Ax I (by omega) _),(eI.refl C g W0).drew.set (Xb rfl) _⟩
   |trace_state
 case right =>
 rintro w1 ⟨aa,an⟩;clear c1 d0 f0 t0 X aO;have c1:=(cS aa).c1;have d1:=((cS aa).cells I).2.1;have f1:=(cS aa).S0 (id*4+1);have aC:∀wq,eI C g W0 wq->wq.heap[K (E w)+1]?=S (D #[Z Y t.value,J pm m km,WW t.gz,Z Y t.lG] 167 (0,0)):=λwq hq=>(hq.block _ (by omega) (by omega) (by omega)).trans (cS bu)
 have aQ:∀wq,eI C g W0 wq->wq.heap[K (E w)]?=S (D #[WV (S ⟨B,0,U⟩),J pf n kf,J pe n ke,Z Y cY] 75 (0,0)):=λwq hq=>(hq.block _ (by omega) (by omega) (by omega)).trans (cS bs)
 have aR:=cT aC;have aD:=cT aQ;have t2:w1.cell? ⟨K (E w)+1,2,U⟩=S (WW t.gz):=by simp[Xc,aC w1 (cS an)]
 clear aC aQ;go_upto_region 2 with fail;apply mJ (λw'=>Hid (oF w' C L g cap n step all (V.set id t.value) (R.set id t.gz) ((List.range n).map (Sp.hZ y)) ((List.range n).map (Sp.ig P y)))/\Hid (eI C g W0 w'));apply Exists.intro;apply And.intro
 case left =>
  go_region_law fail
  all_goals first
   |exact⟨rfl,rfl,(cS aa).store (AP I (by omega) _),(cS an).set (Xb rfl) _⟩
   |exact⟨rfl,rfl,(cS aa).drew.store (AP I (by omega) _),(cS an).drew.set (Xb rfl) _⟩
   |trace_state
 case right =>
 rintro w2 ⟨aS,aE⟩;clear c1 d1 f1 t2 aa an;have t1:w2.cell? ⟨K (E w)+1,1,U⟩=S (J pm m km):=by simp[Xc,cS aR w2 (cS aE)]
 have aT:Hid (oF w2 C L g cap n step all (V.set id t.value) (R.set id t.gz) ((List.range n).map (Sp.hZ (y++t.dX.take 0))) ((List.range n).map (Sp.ig P (y++t.dX.take 0)))):=by
  show oF _ _ _ _ _ _ _ _ _ _ _ _
  rw[List.take_zero,Vr];exact cS aS
 clear aS;go_wp2_with fail
 go_loopw [32] (λi wr=>∃k:Nat,k<=m/\i=Z Y k/\Hid (oF wr C L g cap n step all (V.set id t.value) (R.set id t.gz) ((List.range n).map (Sp.hZ (y++t.dX.take k))) ((List.range n).map (Sp.ig P (y++t.dX.take k))))/\Hid (eI C g W0 wr)) (λi _=>m-(intOf i).toNat)
 case atStart=>exact⟨0,Ud _,rfl,aT,aE⟩
 case round =>
  clear aT aE t1;obtain⟨k,hk,rfl,HC,HS⟩:=hrel;have ab:WQ w0 wr:=((cS aA).trans (T.mono (cS aA).size)).trans ((cS HS).below bk (by omega) (by have:=(cS aA).size;omega));have j0:wr.cell? ⟨K (E w),0,U⟩=S (WV (S ⟨B,0,U⟩)):=by simp[Xc,cS aD wr (cS HS)]
  by_cases bw:k<m
  .have aU:(k:Int)<(m:Int):=by omega
   have k0:(0:Int)<=(k:Int):=UF _;have ad:k<Xg t.dX:=by rw[cS HM];exact bw
   have bx:t.dX≠[]:=λe=>by rw[e] at ad;simp at ad
   have ae:=cS bo bx;have aV:(Sp.iE Es id).length=Xg t.dX:=by have:=congrArg List.length ae;simpa using this.symm
   have aF:k<(Sp.iE Es id).length:=by omega
   have av:(Sp.iE Es id)[k].cR=t.dX[k].1:=by
    have h:=congrArg (λl=>l[k]?) ae;simp only[VX,Uk ad,Uk aF,Option.map_some] at h;injection h with h;exact h.symm
   have u:t.dX[k].1<n:=((cS HT).s _ (UU ad)).1;obtain⟨gm,aW,aX,aw,mc⟩:=cS bq k (by omega);have N:=cS br _ aW;have aY:wr.cell? ⟨gm,k,U⟩=S (Z Y t.dX[k].2):=by
    rw[(cS HS).cell (q:=gm) (by have:=T.size;omega) (by simp at N;omega) (by simp at N;omega),T.cell (p:=⟨gm,k,U⟩) aw,mc];simp[ad]
   obtain⟨r,pp,ce,aZ,hD,dc,a1⟩:=((cS HE).below ab) id I;obtain⟨ge,a6,bR,_,ec,_⟩:=a1 k aF;rw[av] at ec;have a7:Hid (t.dX.take (k+1)=t.dX.take k++[t.dX[k]]):=Vf ad;have bA:=cT (cS HC).o;have j2:wr.cell? ⟨K (E w),2,U⟩=S (J (S ⟨r,0,U⟩) n ke):=by rw[<-aZ];simp[Xc,cS aD wr (cS HS)]
   obtain⟨le,a8⟩:∃le,(Sp.iE Es id).length=le:=⟨_,rfl⟩
   rw[a8] at dc aF bn;rw[a6] at dc;subst aW;have ba:gm<K (E wr):=by have:=T.size;have:=(cS HS).size;simp at N;omega
   have c1:=(cS HC).c1;have kz:(k:Int)<(le:Int):=by omega
   obtain⟨G,aG⟩:∃G,t.dX[k]=G:=⟨_,rfl⟩
   rw[aG] at aY ec u a7;have bS:=cT aG;clear aG ae aV av aZ a6 a1 N mc aX aw a8;have bT:(G.1:Int)<(n:Int):=by omega
   have bU:(0:Int)<=(G.1:Int):=UF _;go_upto_region 6 with fail
   go_quiet (fail)
   generalize bc:World.drewN wr _=W6;have ao:WQ wr W6:=by rw[<-bc];exact below_drewN _ _
   have aq:=cT ((cS HC).below ao);have bd:=cT ((cS HS).trans (eI.gQ ao));have ax:WQ w0 W6:=ab.trans (ao.mono ab.size);clear bc ao c1 j0 j2 aY dc ec HC HS ab ba bA;have y2:=((cS aq).cells u).2.2.1;have f2:=(cS aq).S0 (G.1*4+2);rw[Sp.jT _ u] at y2;have bB:=Sp.Ad (y++t.dX.take k) G.1;have bg:(y++t.dX.take k).length<=200000:=by rw[UG,Vj];omega
   have bh:=cT (Cp (s:=y++t.dX.take k) (n:=n) u);have ar:=cT (Az (P:=P) (s:=y++t.dX.take k) (n:=n) u);rw[UO,<-cS a7] at bh ar;generalize Sp.hZ (y++t.dX.take k) G.1=x at *;have bC:IntKind.i64.wrap (x+1)=x+1:=by rw[Uy];omega
   clear bB bg;go_upto_region 8 with fail;have Q:=cT ((cS aq).store (LL u (by simp;exact u) (x+1)));have au:=cT ((cS bd).set (q:=g) (j:=G.1*4+2) (Xb O) (Z Y (x+1)));have af:=ax.setCell (p:=⟨g,G.1*4+2,U⟩) (show (K (E w0))<=g by omega) (Z Y (x+1));rw[cS bh] at Q;clear y2 f2 bC aq bd ax;generalize Xf _ _ _=W7 at Q au af ⊢;have y3:=((cS Q).cells u).2.2.2;rw[Sp.jT _ u] at y3;have f3:=(cS Q).S0 (G.1*4+3);have j0:W7.cell? ⟨K (E w),0,U⟩=S (WV (S ⟨B,0,U⟩)):=by simp[Xc,cS aD W7 (cS au)]
   have bj:=(cS Q).TB;obtain⟨jb,HJ⟩:∃jb,Hid (Sp.jt P.pB (Sp.ig P (y++t.dX.take k) G.1) G.2=jb):=⟨_,rfl⟩
   rw[cS HJ] at ar;generalize Sp.ig P (y++t.dX.take k) G.1=z at *;obtain⟨nb,aH⟩:∃nb,Hid (Sp.eR P.pB=nb):=⟨_,rfl⟩
   have aI:Hid (∀W,WQ W7 W->WT prog 76 #[WV (S ⟨B,0,U⟩)] W (oI P.pB W)):=by
    show ∀W,_
    intro W hW;exact KO B P W ((cS HP).below (af.trans (hW.mono af.size)))
   have aJ:Hid (∀(args:Array WS) (w:WR),(callFunc 76 args).run prog w=.ok (.enter 76 args) w):=cZ func76 (by kernel_rfl) (by kernel_rfl);apply Cl (λw'=>Hid (oF w' C L g cap n step all (V.set id t.value) (R.set id t.gz) ((List.range n).map (Sp.hZ (y++t.dX.take (k+1)))) ((List.range n).map (Sp.ig P (y++t.dX.take (k+1)))))/\Hid (eI C g W0 w'));apply Exists.intro;apply And.intro
   case left =>
    go_region_law (first
    |(refine du (by rfl) _ _ _ (by rfl) 76 (by rfl) _ (by rfl) (cS aJ) (cS aI _ (by first|exact T4 _ _|exact WO.drew)) ?_;rintro e wq ⟨ag,F2,he,ah,A⟩;rw[cS aH] at he;obtain rfl:=he.symm;dsimp only;have F:WQ W7 wq:=(by first|exact A|exact WO.drew.trans (A.mono WN));have q1:=(F.cell (p:=⟨g,G.1*4+3,U⟩) bj.2).trans y3;have q2:=(F.frozen (p:=⟨g,G.1*4+3,U⟩) bj.2).trans f3;have ai:=cT ah;have q5:=cT F;have q6:∀W,Sem.run prog (Instr.field 152 (WY #[H ag,Z Y nb,.func (.func F2) #[] #[]]) 2) W=.ok (.func (.func F2) #[] #[]) W:=uv _ _ _;clear F A ah)
     | (refine tK (by rfl) _ _ _ (by rfl) _ (uv _ _ _ _) ?_)
    |(refine du (by rfl) _ _ _ (by rfl) F2 (by rfl) #[Z Y z,Z Y G.2] (by rfl) (cS ai).enter ((cS ai).calls z G.2 _) ?_;rintro e bD ⟨aj,ak⟩;rw[cS HJ] at aj;obtain rfl:=aj.symm;obtain rfl:=ak.symm;dsimp only))
    all_goals
     generalize Value.agg #[H ag,Z Y nb,.func (.func F2) #[] #[]]=u1;generalize Value.func (.func F2) #[] #[]=u2
     first
      |exact⟨rfl,u1,u2,rfl,by show oF _ _ _ _ _ _ _ _ _ _ _ _;rw[<-cS ar];exact((cS Q).below (cS q5)).store (B9 u (by simp;exact u) jb),((cS au).trans (eI.gQ (cS q5))).set (Xb O) _⟩
      |exact⟨rfl,u1,u2,rfl,by show oF _ _ _ _ _ _ _ _ _ _ _ _;rw[<-cS ar];exact(((cS Q).below (cS q5)).store (B9 u (by simp;exact u) jb)).drew,(((cS au).trans (eI.gQ (cS q5))).set (Xb O) _).drew⟩
      |trace_state
   case right =>
   rintro u1 u2 w8 ⟨aK,aL⟩;go_wp2;go_roundw
   case rel=>exact⟨k+1,by omega,by go_num,aK,aL⟩
   case measure=>simp[intOf];omega
  .have aU:¬(k:Int)<(m:Int):=by omega
   have bE:k=Xg t.dX:=by rw[cS HM];omega
   rw[bE,Vd] at HC;have c2:=(cS HC).c2;have f2:=(cS HC).fz 2;have ay:=(cS HC).lt;have t3:wr.cell? ⟨K (E w)+1,3,U⟩=S (Z Y t.lG):=by simp[Xc,cS aR wr (cS HS)]
   have bF:K (E w)+1<K (E wr):=by have:=(cS HS).size;omega
   obtain⟨jb,HJ⟩:∃jb,Hid (Sp.jt P.al all t.lG=jb):=⟨_,rfl⟩
   obtain⟨nb,aH⟩:∃nb,Hid (Sp.eR P.al=nb):=⟨_,rfl⟩
   have aI:Hid (∀W,WQ wr W->WT prog 75 #[WV (S ⟨B,0,U⟩)] W (oI P.al W)):=by
    show ∀W,_
    intro W hW;exact EA B P W ((cS HP).below (ab.trans (hW.mono ab.size)))
   have aJ:Hid (∀(args:Array WS) (w:WR),(callFunc 75 args).run prog w=.ok (.enter 75 args) w):=cZ func75 (by kernel_rfl) (by kernel_rfl);go_upto_region 10 with fail;apply Cl (λw'=>Hid (oF w' C L g cap n step jb (V.set id t.value) (R.set id t.gz) ((List.range n).map (Sp.hZ (y++t.dX))) ((List.range n).map (Sp.ig P (y++t.dX))))/\Hid (eI C g W0 w'));apply Exists.intro;apply And.intro
   case left =>
    go_region_law (first
    |(refine du (by rfl) _ _ _ (by rfl) 75 (by rfl) _ (by rfl) (cS aJ) (cS aI _ (by first|exact T4 _ _|exact WO.drew)) ?_;rintro e wq ⟨ag,F2,he,ah,A⟩;rw[cS aH] at he;obtain rfl:=he.symm;dsimp only;have F:WQ wr wq:=(by first|exact A|exact WO.drew.trans (A.mono WN));have q1:=(F.cell (p:=⟨C,2,U⟩) ay).trans c2;have q2:=(F.frozen (p:=⟨C,2,U⟩) ay).trans f2;have q3:=(F.cell (p:=⟨K (E w)+1,3,U⟩) bF).trans t3;have ai:=cT ah;have q5:=cT F;have q6:∀W,Sem.run prog (Instr.field 152 (WY #[H ag,Z Y nb,.func (.func F2) #[] #[]]) 2) W=.ok (.func (.func F2) #[] #[]) W:=uv _ _ _;clear F A ah)
     | (refine tK (by rfl) _ _ _ (by rfl) _ (uv _ _ _ _) ?_)
    |(refine du (by rfl) _ _ _ (by rfl) F2 (by rfl) #[Z Y all,Z Y t.lG] (by rfl) (cS ai).enter ((cS ai).calls all t.lG _) ?_;rintro e bD ⟨aj,ak⟩;rw[cS HJ] at aj;obtain rfl:=aj.symm;obtain rfl:=ak.symm;dsimp only))
    all_goals
     generalize Value.agg #[H ag,Z Y nb,.func (.func F2) #[] #[]]=u1;generalize Value.func (.func F2) #[] #[]=u2
     first
      |exact⟨rfl,u1,u2,rfl,((cS HC).below (cS q5)).Sx jb,((cS HS).trans (eI.gQ (cS q5))).set (Xa rfl) _⟩
      |exact⟨rfl,u1,u2,rfl,(((cS HC).below (cS q5)).Sx jb).drew,(((cS HS).trans (eI.gQ (cS q5))).set (Xa rfl) _).drew⟩
      |trace_state
   case right =>
   rintro u1 u2 w8 ⟨aK,aL⟩;have bG:Hid (b (WZ (WX #[])) w8):=by
    show b _ _
    rw[<-cS hO];exact⟨O,(eI.gQ T).trans (cS aL),by rw[cS HJ];exact cS aK⟩
   go_wp2;exact T8 (v := WX #[]) (by simp[results,results74,go_sem]) O (cS bG)
end
end Go.Proofs.YtgkkdpegcieakaaGreatDoor
