import Derived.Test.YtgkkdpegcieakaaGreatDoorCv18
import Derived.Test.YtgkkdpegcieakaaGreatDoorCv17
set_option linter.all false
set_option maxRecDepth 100000
set_option maxHeartbeats 0
namespace Go.Proofs.YtgkkdpegcieakaaGreatDoor
open Go.Proofs.Tryz
open Value renaming int→Z,slice→J,string→H,pointer→V9,bool→Wa,tuple→Wb,agg→Wc
open Ending renaming returned→Wd
open Obj renaming cells→D
open Option renaming none→U,some→S
open Bool renaming true→We,false→Wg
open Or renaming inl→Wh,inr→Wi
open List renaming length→Wn
open _root_.Array renaming size→N
open World renaming cell?→Wj,alloc→Wl,setCell→Wm,heap→E
open IntKind renaming i64→Y
open Go renaming World→V5,Value→V6,Calls→V7
open Go.RowKit
section
def kA(w:V5)(p:Option Addr)(c:Sp.Cfg)(n:Nat):Prop := ∀k,k<n->∃g,p=S ⟨g,0,U⟩/\g<N (E w)/\w.cell? ⟨g,k*4,U⟩=S (Z Y (c.val.getD k 0))/\w.cell? ⟨g,k*4+1,U⟩=S (Wa (c.fD.getD k Wg))/\w.cell? ⟨g,k*4+2,U⟩=S (Z Y (c.iH.getD k 0))/\w.cell? ⟨g,k*4+3,U⟩=S (Z Y (c.jf.getD k 0))
theorem kA.below{w w':V5}{p:Option Addr}{c:Sp.Cfg}{n:Nat}(h:kA w p c n)(hb:V4 w w'):kA w' p c n:=λk e=>by
 obtain⟨g,a,b,j,l,m,r⟩:=h k e;have:=hb.size;exact⟨g,a,by omega,(hb.cell (p:=⟨g,_,U⟩) b).trans j,(hb.cell (p:=⟨g,_,U⟩) b).trans l,(hb.cell (p:=⟨g,_,U⟩) b).trans m,(hb.cell (p:=⟨g,_,U⟩) b).trans r⟩
def gz(step:Int)(p:Option Addr)(n k:Nat)(all:Int):V6 := Wc #[Z Y step,J p n k,Z Y all]
theorem FE(step:Nat)(p:Option Addr)(n k:Nat)(all v g i:Int)(r:Bool)(w:V5)(A:step<=4294967295):V7 prog 72 #[gz step p n k all,Wc #[Z Y v,Wa r,Z Y g,Z Y i]] w λe z=>e=Wd (Wa (step == 0 || (!r || decide (0<g))))/\V4 w z:=by
 have j:Hid (V4 w ((w.alloc (D #[Z Y (step:Int),J p n k,Z Y all] 80)).alloc (D #[Z Y v,Wa r,Z Y g,Z Y i] 104))):=(V3.alloc V2 _).alloc (by simp) _;unfold gz;by_cases u:step=0
 .subst u;have l:(((0:Nat):Int) == 0)=We:=rfl;go_enter func72,ntmps72;go_wp2;go_ret;exact⟨O,cT j⟩
 .have l:((step:Int) == 0)=Wg:=Tt.2 (by omega);have m:(step == 0)=Wg:=Tt.2 u;rw[m];cases r with
  |false =>
   go_enter func72,ntmps72;go_wp2;go_ret;exact⟨O,cT j⟩
  |true =>
   by_cases y:0<g
   .have b:decide (0<g)=We:=TU y;go_enter func72,ntmps72;go_wp2;go_ret
    first|exact⟨rfl,cT j⟩|exact⟨by rw[b];rfl,cT j⟩
   .have b:decide (0<g)=Wg:=TE y;go_enter func72,ntmps72;go_wp2;go_ret
    first|exact⟨rfl,cT j⟩|exact⟨by rw[b];rfl,cT j⟩
namespace Sp
theorem quiet_of{c:Cfg}{step n:Nat}(e:Wn c.val=n)(h:∀k,k<n->mh c k step=Wg):quiet c step=We:=by
 unfold quiet;rw[e,List.all_eq_true];intro k b;rw[Va] at b;rw[h k b];rfl
theorem G5{c:Cfg}{step n k:Nat}(e:Wn c.val=n)(j:k<n)(h:mh c k step=We):quiet c step=Wg:=by
 unfold quiet;rw[e,VR];intro b;rw[List.all_eq_true] at b;have:=b k (Va.2 j);rw[h] at this;cases this
end Sp
theorem Qn(step:Nat)(p:Option Addr)(n cap:Nat)(c:Sp.Cfg)(w:V5)(X:kA w p c n)(t:Wn c.val=n)(hn:n<=64)(hs:step<=4294967295):V7 prog 71 #[gz step p n cap c.all] w λe w'=>e=Wd (Wa (Sp.quiet c step))/\V4 w w':=by
 have HV:=cU X;have s:=cU t;clear X t;obtain⟨q,K⟩:∃q,Hid (Sp.quiet c step=q):=⟨_,rfl⟩
 rw[cT K];unfold gz;have l:V4 w (w.alloc (D #[Z Y (step:Int),J p n cap,Z Y c.all] 80)):=V3.alloc V2 _;have y:=Tk w (D #[Z Y (step:Int),J p n cap,Z Y c.all] 80);go_enter func71,ntmps71;go_wp2_with fail;generalize hW:Wl _ _=L at *;have M:=cU y;have A:N (E w)<N (E L):=(Ts.1 y).1;clear hW y
 go_loopw [8] (λi wr=>∃k:Nat,k<=n/\i=Z Y k/\Hid (∀m,m<k->Sp.mh c m step=Wg)/\V4 L wr) (λi _=>n-(intOf i).toNat)
 case atStart=>exact⟨0,Tp _,rfl,λm o=>absurd o (by omega),Th _ _⟩
 case round =>
  obtain⟨k,hk,rfl,HA,B⟩:=hrel;have C:V4 w wr:=l.trans (B.mono l.size);by_cases F:k<n
  .have G:(k:Int)<(n:Int):=by omega
   have g0:(0:Int)<=(k:Int):=TS _;obtain⟨g,rfl,hg,d0,d1,d2,d3⟩:=((cT HV).below C) k F;have r:=(B.block (N (E w)) A).trans (cT M);have c0:wr.cell? ⟨N (E w),0,U⟩=S (Z Y (step:Int)):=by simp[Wj,r]
   have c1:wr.cell? ⟨N (E w),1,U⟩=S (J (S ⟨g,0,U⟩) n cap):=by simp[Wj,r]
   have c2:wr.cell? ⟨N (E w),2,U⟩=S (Z Y c.all):=by simp[Wj,r]
   have aa:N (E w)<N (E wr):=TI A B.size;have b:=cU (λW=>FE step (S ⟨g,0,U⟩) n cap c.all (c.val.getD k 0) (c.iH.getD k 0) (c.jf.getD k 0) (c.fD.getD k Wg) W hs);have P:Hid ((step == 0 || (!(c.fD.getD k Wg) || decide (0<c.iH.getD k 0)))=Sp.mh c k step):=rfl;rw[cT P] at b;obtain⟨Q,R⟩:∃Q,Hid (Sp.mh c k step=Q):=⟨_,rfl⟩
   rw[cT R] at b;unfold gz at b;generalize c.val.getD k 0=x0 at *;generalize c.fD.getD k Wg=x1 at *;generalize c.iH.getD k 0=x2 at *;generalize c.jf.getD k 0=x3 at *;have I:V4 wr (wr.alloc (D #[Z Y x0,Wa x1,Z Y x2,Z Y x3] 104)):=V3.alloc V2 _;have u:=cU (B.trans (I.mono B.size));clear r I;cases Q with
   |true =>
    have T:Hid (q=Wg):=by show _=_;rw[<-cT K];exact Sp.G5 (cT s) F (cT R)
    go_wp2_with fail;refine(cT b _).mono ?_;rintro e w2 ⟨rfl,j⟩;have z:=cU ((cT u).trans (j.mono (cT u).size));clear j;go_wp2;go_ret;exact⟨by rw[cT T];rfl,l.trans ((cT z).mono l.size)⟩
   |false =>
    have V:Hid (∀m,m<k+1->Sp.mh c m step=Wg):=λm o=>if h:m=k then h ▸ cT R else cT HA m (by omega)
    go_wp2_with fail;refine(cT b _).mono ?_;rintro e w2 ⟨rfl,j⟩;have z:=cU ((cT u).trans (j.mono (cT u).size));clear j;go_wp2;go_roundw
    case rel=>exact⟨k+1,by omega,by go_num,V,cT z⟩
    case measure=>simp[intOf];omega
  .obtain rfl:k=n:=by omega
   have G:¬(k:Int)<(k:Int):=by omega
   have T:Hid (q=We):=by show _=_;rw[<-cT K];exact Sp.quiet_of (cT s) (cT HA)
   go_wp2;go_ret;exact⟨by rw[cT T];rfl,C⟩
end
def dY(B:Nat)(pf:Option Addr)(n kf:Nat)(pe:Option Addr)(ke cZ:Nat):Array V6 := #[V9 (S ⟨B,0,U⟩),J pf n kf,J pe n ke,Z Y cZ]
theorem pending(B:Nat)(pf:Option Addr)(m kf:Nat)(pe:Option Addr)(ke cZ step:Nat)(p:Option Addr)(n cap:Nat)(c:Sp.Cfg)(w:V5)(L:kA w p c n)(M:Wn c.val=n)(T:n<=64)(V:step<=4294967295)(P:cZ<=200):V7 prog 40 #[Wc (dY B pf m kf pe ke cZ),gz step p n cap c.all] w λe X=>e=Wd (Z .u8 (Sp.gy cZ c step))/\V4 w X:=by
 have F:=cU (λW (hb:V4 w W)=>Qn step p n cap c W (L.below hb) M T V);have b:V4 w ((w.alloc (D (dY B pf m kf pe ke cZ) 75)).alloc (D #[Z Y (step:Int),J p n cap,Z Y c.all] 80)):=(V3.alloc V2 _).alloc (by simp) _;have G:=TK w (D (dY B pf m kf pe ke cZ) 75);have j:=Tk (w.alloc (D (dY B pf m kf pe ke cZ) 75)) (D #[Z Y (step:Int),J p n cap,Z Y c.all] 80);rw[G] at j;have r:((w.alloc (D (dY B pf m kf pe ke cZ) 75)).alloc (D #[Z Y (step:Int),J p n cap,Z Y c.all] 80)).heap[N (E w)]?=S (D (dY B pf m kf pe ke cZ) 75 (0,0)):=by
  rw[TD _ _ _ (by rw[G];omega)];exact Tk w _
 clear L M G;obtain⟨q,z⟩:∃q,Hid (Sp.quiet c step=q):=⟨_,rfl⟩
 rw[cT z] at F;have u:Hid (Sp.gy cZ c step=if q=We then 1 else if cZ<=step then 2 else 0):=by show _=_;unfold Sp.gy;rw[cT z]
 unfold gz at F ⊢;unfold dY at *;go_enter func40,ntmps40;go_wp2_with fail;generalize t:Wl (Wl _ _) _=s at *;refine(cT F s b).mono ?_;rintro e C ⟨rfl,l⟩;have Q:C.heap[N (E w)+1]?=_:=(l.block _ (Ts.1 j).1).trans j;have R:C.heap[N (E w)]?=_:=(l.block _ (Ts.1 r).1).trans r;have o:C.cell? ⟨N (E w)+1,0,U⟩=S (Z Y (step:Int)):=by simp[Wj,Q]
 have g:C.cell? ⟨N (E w),3,U⟩=S (Z Y (cZ:Int)):=by simp[Wj,R]
 have I:=cU (b.trans (l.mono b.size));clear t j r b l Q R;cases q with
 |true =>
  go_wp2;go_ret;exact⟨by rw[cT u];rfl,cT I⟩
 |false =>
  by_cases A:cZ<=step
  .have K:(cZ:Int)<=(step:Int):=by omega
   have y:Hid (Sp.gy cZ c step=2):=by show _=_;rw[cT u,Tf (by simp),Tg A]
   go_wp2;go_ret;exact⟨by rw[cT y];rfl,cT I⟩
  .have K:¬(cZ:Int)<=(step:Int):=by omega
   have y:Hid (Sp.gy cZ c step=0):=by show _=_;rw[cT u,Tf (by simp),Tf A]
   go_wp2;go_ret;exact⟨by rw[cT y];rfl,cT I⟩
theorem rS(step:Nat)(p:Option Addr)(n cap:Nat)(c:Sp.Cfg)(w:V5)(o:kA w p c n)(hl:Wn c.val=n)(hn:n<=64):V7 prog 41 #[gz step p n cap c.all] w λe w'=>V4 w w'/\∃v,e=Wd v/\w'.ownsRow (N (E w)) 2 1 v n (c.val.map (Z Y)):=by
 obtain⟨t2,G,I,K,L⟩:=TN info_i64;have HV:=cU o;have M:=cU hl;clear o hl;unfold gz;have P:V4 w (w.alloc (D #[Z Y (step:Int),J p n cap,Z Y c.all] 80)):=V3.alloc V2 _;have m:=TK w (D #[Z Y (step:Int),J p n cap,Z Y c.all] 80);go_enter func41,ntmps41;go_wp2_with fail;generalize hW:Wl _ _=W0 at *;have HZ:=cU m;clear hW m
 go_loopw [3,9] (λvv i wr=>∃(k:Nat) (v:V6),k<=n/\i=Z Y k/\vv=v/\Hid (wr.ownsRow (N (E w)+1) 2 1 v k ((c.val.take k).map (Z Y)))/\Below (N (E w)+1) W0 wr) (λ_ i _=>n-(intOf i).toNat)
 case atStart=>exact⟨0,_,Tp _,rfl,rfl,TH _ _ _ _,Th _ _⟩
 case round =>
  obtain⟨k,v,hk,rfl,r,HR,Q⟩:=hrel;obtain rfl:=r.symm;clear r;have y:V4 w wr:=P.trans (Q.mono (by omega));have R:N (E w)+1<=N (E wr):=by have:=Q.size;have:=cT HZ;omega
  by_cases z:k<n
  .have A:(k:Int)<(n:Int):=by omega
   have g0:(0:Int)<=(k:Int):=TS _;have B:k<Wn c.val:=by rw[cT M];exact z
   obtain⟨g,rfl,hg,d0,d1,d2,d3⟩:=((cT HV).below y) k z;have T:Hid ((c.val.take (k+1)).map (Z Y)=(c.val.take k).map (Z Y)++[Z Y (c.val.getD k 0)]):=by
    show _=_
    rw[Uw B,UD,Ty,Tw B];rfl
   generalize c.val.getD k 0=x0 at *;generalize c.fD.getD k Wg=x1 at *;generalize c.iH.getD k 0=x2 at *;generalize c.jf.getD k 0=x3 at *;have V:=cT HR;go_wp2_with (first
    | (at_builtin;go_must (refine wpList_append_lies _ O (.tmp 13) (.tmp 16) 30 O (N (E w)+1) 2 t2 _ 1 8 underlying30 G I K L O (by omega) v _ _ O ((V.alloc _).alloc _) ⟨N (E wr)+1,0,U⟩ 1 1 [Z Y x0] O O (by
      intro j u F
      match j,F with
      |0,F=>simp at F;subst F;simp[Addr.add]) (by simp[Value.oneCell']) (by omega) (by unfold maxLen;omega) (by omega) (by simp;omega) (N (E wr)+1+1) (by simp) ?_;intro g2 W w2 l b X C))
    |go_in)
   have t:Below (N (E w)+1) W0 w2:=((Q.alloc R _).alloc (by simp;omega) _).grown b (by simp;omega) (λq hq=>(V.lt q hq).1);have s:Hid (w2.ownsRow (N (E w)+1) 2 1 (J (S ⟨g2,0,U⟩) (k+1) W) (k+1) ((c.val.take (k+1)).map (Z Y))):=by
    show World.ownsRow _ _ _ _ _ _ _
    rw[cT T];exact l
   clear l b X C V;go_roundw
   case rel=>exact⟨k+1,_,by omega,by go_num,rfl,s,t⟩
   case measure=>simp[intOf];omega
  .obtain rfl:k=n:=by omega
   have A:¬(k:Int)<(k:Int):=by omega
   have HE:Hid (wr.ownsRow (N (E w)) 2 1 v k (c.val.map (Z Y))):=by
    have h:=fB (cT HR) (Uh (N (E w)));rw[<-cT M,Ut,cT M] at h;exact h
   go_wp2;go_ret;exact⟨y,v,O,cT HE⟩
section
theorem info_vertex:(prog.info? 104).map (λi=>(i.zero,i.size,i.bytes))=S (S (Wc #[Z Y 0,Wa Wg,Z Y 0,Z Y 0]),4,32):=by kernel_rfl
def jk(V:List Int)(R:List Bool)(G I:List Int)(k:Nat):List V6:=(List.range k).flatMap λm=>[Z Y (V.getD m 0),Wa (R.getD m Wg),Z Y (G.getD m 0),Z Y (I.getD m 0)]
theorem mq(V:List Int)(R:List Bool)(G I:List Int)(k:Nat):jk V R G I (k+1)=jk V R G I k++[Z Y (V.getD k 0),Wa (R.getD k Wg),Z Y (G.getD k 0),Z Y (I.getD k 0)]:=by
 unfold jk;rw[List.range_succ,Vg];simp
structure EW (w:V5) (C:Nat) (step:Int) (sl:V6) (all:Int) (n:Nat) (xs:List V6):Prop where
 c0:w.cell? ⟨C,0,U⟩=S (Z Y step)
 c1:w.cell? ⟨C,1,U⟩=S sl
 c2:w.cell? ⟨C,2,U⟩=S (Z Y all)
 fz:∀j,w.frozen? ⟨C,j,U⟩=Wg
 o:w.ownsRow (C+1) 104 4 sl n xs
variable {xs:List V6}{C n:Nat}{w:V5}{sl:V6}{all step:Int}
theorem EW.lt(h:EW w C step sl all n xs): C<N (E w):=Tu w _ h.c0
theorem EW.below{w':V5}(h:EW w C step sl all n xs)(hb:V4 w w'): EW w' C step sl all n xs:=⟨(hb.cell (p:=⟨C,0,U⟩) h.lt).trans h.c0,(hb.cell (p:=⟨C,1,U⟩) h.lt).trans h.c1,(hb.cell (p:=⟨C,2,U⟩) h.lt).trans h.c2,λj=>(hb.frozen (p:=⟨C,j,U⟩) h.lt).trans (h.fz j),de h.o hb⟩
theorem EW.new{t:Nat}(h:w.heap[C]?=S (D #[Z Y step,J U 0 0,Z Y all] t)): EW w C step (J U 0 0) all 0 []:=⟨by simp[Wj,h],by simp[Wj,h],by simp[Wj,h],λj=>by simp[World.frozen?,h],TH _ _ _ _⟩
theorem EW.app{l:V5}{b:V6}{ys:List V6}(h:EW w C step sl all n xs)(u:w.grownBy l sl.ownBlock)(z:l.ownsRow (C+1) 104 4 b (n+1) ys): EW (l.setCell ⟨C,1,U⟩ b) C step b all (n+1) ys:=by
 have y:=h.lt;have m:S C≠sl.ownBlock:=λe=>by have:=(h.o.lt C e.symm).1;omega
 have r:∀j,l.cell? ⟨C,j,U⟩=w.cell? ⟨C,j,U⟩:=λj=>u.cell_far ⟨C,j,U⟩ y m
 exact⟨(cW (by omega)).trans ((r 0).trans h.c0),T0 _ _ _ ((r 1).trans h.c1),(cW (by omega)).trans ((r 2).trans h.c2),λj=>(TX _ _ _ _).trans ((u.frozen_far ⟨C,j,U⟩ y m).trans (h.fz j)),((eD.refl C l).set _ _).own z⟩
end
theorem Mv(V:List Int)(R:List Bool)(G I:List Int):∀n,(jk V R G I n).length=n*4:=by
 intro n
 induction n with
 |zero=>rfl
 |succ n b=>rw[mq,TT,b];simp;omega
theorem FO(V:List Int)(R:List Bool)(G I:List Int):∀n k,k<n->(jk V R G I n)[k*4]?=S (Z Y (V.getD k 0))/\(jk V R G I n)[k*4+1]?=S (Wa (R.getD k Wg))/\(jk V R G I n)[k*4+2]?=S (Z Y (G.getD k 0))/\(jk V R G I n)[k*4+3]?=S (Z Y (I.getD k 0)):=by
 intro n
 induction n with
 |zero=>intro k h;omega
 |succ n e =>
  intro k h;rw[mq];have j:=Mv V R G I n;by_cases l:k<n
  .obtain⟨a,b,c,d⟩:=e k l;rw[Uf (by omega),Uf (by omega),Uf (by omega),Uf (by omega)];exact⟨a,b,c,d⟩
  .obtain rfl:k=n:=by omega
   rw[Tx (by omega),Tx (by omega),Tx (by omega),Tx (by omega),j,Nat.sub_self,Nat.add_sub_cancel_left,Nat.add_sub_cancel_left,Nat.add_sub_cancel_left];exact⟨O,O,O,O⟩
theorem gV{w:V5}{B n:Nat}{sl:V6}{V:List Int}{R:List Bool}{G I:List Int}{all:Int}(h:w.ownsRow B 104 4 sl n (jk V R G I n)):∃p b,sl=J p n b/\kA w p ⟨V,R,G,I,all⟩ n:=by
 obtain⟨p,b,u,m⟩:=dm h;refine⟨p,b,u,λk y=>?_⟩;obtain⟨z,A,C,F⟩:=FO V R G I n k y;obtain⟨g,r,_,K,L⟩:=m (k*4) (by omega);obtain⟨M,e,_,_,P⟩:=m (k*4+1) (by omega);obtain⟨Q,j,_,_,T⟩:=m (k*4+2) (by omega);obtain⟨W,l,_,_,X⟩:=m (k*4+3) (by omega);have x:M=g:=by rw[r] at e;injection e with q;injection q with q;exact q.symm
 have i:Q=g:=by rw[r] at j;injection j with q;injection q with q;exact q.symm
 have f:W=g:=by rw[r] at l;injection l with q;injection q with q;exact q.symm
 subst x i f;exact⟨_,r,K,L.trans z,P.trans A,T.trans C,X.trans F⟩
theorem kA.congr{w:V5}{p:Option Addr}{c b:Sp.Cfg}{n:Nat}(h:kA w p c n)(j:∀k,k<n->b.val.getD k 0=c.val.getD k 0)(l:∀k,k<n->b.fD.getD k Wg=c.fD.getD k Wg)(m:∀k,k<n->b.iH.getD k 0=c.iH.getD k 0)(hi:∀k,k<n->b.jf.getD k 0=c.jf.getD k 0):kA w p b n:=λk e=>by
 rw[j k e,l k e,m k e,hi k e];exact h k e
theorem rD(w:V5)(a b:Array V6)(e j:TypeId):∀W,W=(w.alloc (D a e)).alloc (D b j)->W.heap[N (E w)]?=S (D a e (0,0))/\W.heap[N (E w)+1]?=S (D b j (0,0))/\V4 w W/\(N (E W))=N (E w)+1+1:=by
 rintro W rfl;have l:=TK w (D a e);have r:=TK (w.alloc (D a e)) (D b j);have m:=Tk (w.alloc (D a e)) (D b j);rw[l] at m;refine⟨?_,m,((Th _ w).alloc V2 _).alloc (by rw[l];omega) _,by omega⟩;rw[TD _ _ _ (by rw[l];omega)];exact Tk w _
section
theorem kJ{α β : Type}{c d : α->List β}:∀(l:List α),(∀m∈l,c m=d m)->l.flatMap c=l.flatMap d:=by
 intro l
 induction l with
 |nil=>intro _;rfl
 |cons a l e =>
  intro h;rw[Vq,Vq,h a (TV ..),e (λm r=>h m (Ug _ r))]
theorem GQ(c:Nat->List V6)(e:∀m,(c m).length=4):∀n,((List.range n).flatMap c).length=n*4:=by
 intro n
 induction n with
 |zero=>rfl
 |succ n l =>
  rw[List.range_succ,Vg,TT,l];simp[e];omega
theorem pL(c:Nat->List V6)(e:∀m,(c m).length=4)(i r:Nat)(z:r<4)(v:V6):∀n,i<n->((List.range n).flatMap c).set (i*4+r) v=(List.range n).flatMap (λm=>if m=i then (c m).set r v else c m):=by
 intro n
 induction n with
 |zero=>intro h;omega
 |succ n l =>
  intro hi;have u:=GQ c e n;rw[List.range_succ,Vg,Vg];by_cases h:i<n
  .rw[List.set_append_left _ _ (by omega),l h]
   congr 1
   simp only[Vq,List.flatMap_nil,UJ];rw[Tf (by omega)]
  .obtain rfl:i=n:=by omega
   rw[VW _ _ (by omega),u,Nat.add_sub_cancel_left]
   congr 1
   .apply kJ;intro m y;rw[Va] at y;rw[Tf (by omega)]
   .simp only[Vq,List.flatMap_nil,UJ];simp
variable {i:Nat}
theorem mg{α : Type}(V:List α)(m:Nat)(x d : α)(h:i<Wn V): (V.set i x).getD m d=if m=i then x else V.getD m d:=by
 rw[Ty,Ty];by_cases c:m=i
 .subst c;rw[VT h,Tg rfl];rfl
 .rw[Vo (UC c),Tf c]
variable {I G V:List Int}{n:Nat}{R:List Bool}
theorem Ar(hi:i<n)(e:i<Wn V)(x:Int): (jk V R G I n).set (i*4) (Z Y x)=jk (V.set i x) R G I n:=by
 unfold jk;have h:=pL (λm=>[Z Y (V.getD m 0),Wa (R.getD m Wg),Z Y (G.getD m 0),Z Y (I.getD m 0)]) (λm=>O) i 0 (by omega) (Z Y x) n hi;rw[Uo] at h;rw[h];apply kJ;intro m _;rw[mg V m x 0 e];by_cases c:m=i
 .rw[Tg c,Tg c];rfl
 .rw[Tf c,Tf c]
theorem Ad(hi:i<n)(e:i<Wn R)(x:Bool): (jk V R G I n).set (i*4+1) (Wa x)=jk V (R.set i x) G I n:=by
 unfold jk;rw[pL (λm=>[Z Y (V.getD m 0),Wa (R.getD m Wg),Z Y (G.getD m 0),Z Y (I.getD m 0)]) (λm=>O) i 1 (by omega) (Wa x) n hi];apply kJ;intro m _;rw[mg R m x Wg e];by_cases c:m=i
 .rw[Tg c,Tg c];rfl
 .rw[Tf c,Tf c]
theorem K0(hi:i<n)(e:i<Wn G)(x:Int): (jk V R G I n).set (i*4+2) (Z Y x)=jk V R (G.set i x) I n:=by
 unfold jk;rw[pL (λm=>[Z Y (V.getD m 0),Wa (R.getD m Wg),Z Y (G.getD m 0),Z Y (I.getD m 0)]) (λm=>O) i 2 (by omega) (Z Y x) n hi];apply kJ;intro m _;rw[mg G m x 0 e];by_cases c:m=i
 .rw[Tg c,Tg c];rfl
 .rw[Tf c,Tf c]
theorem BM(hi:i<n)(e:i<Wn I)(x:Int): (jk V R G I n).set (i*4+3) (Z Y x)=jk V R G (I.set i x) n:=by
 unfold jk;rw[pL (λm=>[Z Y (V.getD m 0),Wa (R.getD m Wg),Z Y (G.getD m 0),Z Y (I.getD m 0)]) (λm=>O) i 3 (by omega) (Z Y x) n hi];apply kJ;intro m _;rw[mg I m x 0 e];by_cases c:m=i
 .rw[Tg c,Tg c];rfl
 .rw[Tf c,Tf c]
structure oQ (w:V5) (C B g cap n:Nat) (step all:Int) (V:List Int) (R:List Bool) (G I:List Int):Prop where
 c0:w.cell? ⟨C,0,U⟩=S (Z Y step)
 c1:w.cell? ⟨C,1,U⟩=S (J (S ⟨g,0,U⟩) n cap)
 c2:w.cell? ⟨C,2,U⟩=S (Z Y all)
 fz:∀j,w.frozen? ⟨C,j,U⟩=Wg
 o:w.ownsRow B 104 4 (J (S ⟨g,0,U⟩) n cap) n (jk V R G I n)
 ne:g≠C
variable {C cap B g:Nat}{w:V5}{step all:Int}
theorem oQ.lt(h:oQ w C B g cap n step all V R G I): C<N (E w):=Tu w _ h.c0
theorem oQ.SR(h:oQ w C B g cap n step all V R G I): B<=g/\g<N (E w):=h.o.lt g O
theorem oQ.below{w':V5}(h:oQ w C B g cap n step all V R G I)(hb:V4 w w'): oQ w' C B g cap n step all V R G I:=⟨(hb.cell (p:=⟨C,0,U⟩) h.lt).trans h.c0,(hb.cell (p:=⟨C,1,U⟩) h.lt).trans h.c1,(hb.cell (p:=⟨C,2,U⟩) h.lt).trans h.c2,λj=>(hb.frozen (p:=⟨C,j,U⟩) h.lt).trans (h.fz j),de h.o hb,h.ne⟩
theorem oQ.cells(h:oQ w C B g cap n step all V R G I)(hi:i<n):w.cell? ⟨g,i*4,U⟩=S (Z Y (V.getD i 0))/\w.cell? ⟨g,i*4+1,U⟩=S (Wa (R.getD i Wg))/\w.cell? ⟨g,i*4+2,U⟩=S (Z Y (G.getD i 0))/\w.cell? ⟨g,i*4+3,U⟩=S (Z Y (I.getD i 0)):=by
 obtain⟨e,l,m,r⟩:=FO V R G I n i hi;exact⟨(h.o.cellAt _ (by omega)).trans e,(h.o.cellAt _ (by omega)).trans l,(h.o.cellAt _ (by omega)).trans m,(h.o.cellAt _ (by omega)).trans r⟩
theorem oQ.Sg(h:oQ w C B g cap n step all V R G I)(j:Nat): w.frozen? ⟨g,j,U⟩=Wg:=h.o.frozenAt j
variable {j:Nat}
theorem oQ.store(h:oQ w C B g cap n step all V R G I){v:V6}{V':List Int}{R':List Bool}{G' I':List Int}(he:(jk V R G I n).set j v=jk V' R' G' I' n): oQ (w.setCell ⟨g,j,U⟩ v) C B g cap n step all V' R' G' I':=by
 have e:=h.ne;refine⟨(dA e).trans h.c0,(dA e).trans h.c1,(dA e).trans h.c2,λj=>(TX _ _ _ _).trans (h.fz j),?_,e⟩;have l:=(h.o.stored j v).1;rw[he] at l;exact l
theorem oQ.R7(h:oQ w C B g cap n step all V R G I)(x:Int): oQ (w.setCell ⟨C,2,U⟩ (Z Y x)) C B g cap n step x V R G I:=by
 refine⟨(cW (by omega)).trans h.c0,(cW (by omega)).trans h.c1,T0 _ _ _ h.c2,λj=>(TX _ _ _ _).trans (h.fz j),?_,h.ne⟩;exact Ui h.o (a:=⟨C,2,U⟩) (λe=>by have l:S g=S C:=e;injection l with l;exact h.ne l) _
structure eK (C g:Nat) (w w':V5):Prop where
 os:w'.os=w.os
 tape:w'.tape=w.tape
 output:w'.output=w.output
 size:N (E w)<=N (E w')
 block:∀k,k<N (E w)->k≠C->k≠g->w'.heap[k]?=w.heap[k]?
theorem eK.refl(C g:Nat)(w:V5):eK C g w w:=⟨O,O,O,Te _,λ_ _ _ _=>O⟩
variable {a b:V5}
theorem eK.trans{c:V5}(h:eK C g a b)(k:eK C g b c): eK C g a c:=⟨k.os.trans h.os,k.tape.trans h.tape,k.output.trans h.output,To h.size k.size,λi hi e l=>(k.block i (TI hi h.size) e l).trans (h.block i hi e l)⟩
theorem eK.gM(h:V4 a b): eK C g a b:=⟨h.os,h.tape,h.output,h.size,λk e _ _=>h.block k e⟩
theorem eK.set(h:eK C g a b){q:Nat}(l:q=C\/q=g)(v:V6): eK C g a (b.setCell ⟨q,j,U⟩ v):=⟨h.os,h.tape,h.output,by simp[Wm];exact h.size,λk m r u=>(Tv _ _ _ k (λe=>by have y:k=q:=e;rcases l with l | l <;> omega)).trans (h.block k m r u)⟩
theorem eK.below{L:Nat}(h:eK C g a b)(h1:L<=C)(h2:L<=g)(e:L<=N (E a)): Below L a b:=⟨h.os,h.tape,h.output,h.size,λk l=>h.block k (by omega) (by omega) (by omega)⟩
theorem eK.cell(h:eK C g a b){q:Nat}(e:q<N (E a))(h1:q≠C)(h2:q≠g): b.cell? ⟨q,j,U⟩=a.cell? ⟨q,j,U⟩:=by
 unfold Wj;rw[h.block q e h1 h2]
end
section
theorem info_edges:(prog.info? 66).map (λi=>(i.zero,i.size,i.bytes))=S (S (J U 0 0),1,24):=by kernel_rfl
theorem F5(f:Nat->V6)(n i:Nat)(v:V6):((List.range n).map f).set i v=(List.range n).map (λj=>if j=i then v else f j):=by
 apply List.ext_getElem?;intro j;by_cases b:j<n
 .by_cases e:i=j
  .subst e;rw[VT (by simpa using b)];simp[b]
  .rw[Vo e];simp[b,UC e]
 .rw[VI (by simp;omega),VI (by simp;omega)]
theorem zO(E:List Sp.Ed)(e:Sp.Ed):dq (E++[e])=dq E++[Z Y (e.dp:Int),Z Y (e.cS:Int),Z Y e.n]:=by
 unfold dq;rw[Vg];simp
structure tj (w:V5) (L D n:Nat) (f:Nat->V6) (E:List Sp.Ed):Prop where
 o:w.ownsRow L 66 1 (J (S ⟨D,0,U⟩) n n) n ((List.range n).map f)
 own:∀i,i<n->w.ownsRow L 162 3 (f i) (Sp.iE E i).length (dq (Sp.iE E i))
 ap:∀i j,i<n->j<n->i≠j->vN (f i) (f j)
 nd:∀i,i<n->(f i).ownBlock≠S D
variable {f:Nat->V6}{w:V5}{L n:Nat}
theorem tj.lt{b:Nat}{E:List Sp.Ed}(h:tj w L b n f E): L<=b/\b<w.heap.size:=h.o.lt b O
theorem tj.below{w':V5}{b:Nat}{E:List Sp.Ed}(h:tj w L b n f E)(hb:V4 w w'): tj w' L b n f E:=⟨de h.o hb,λi hi=>de (h.own i hi) hb,h.ap,h.nd⟩
theorem tj.cell{b:Nat}{E:List Sp.Ed}(h:tj w L b n f E){i:Nat}(hi:i<n): w.cell? ⟨b,i,U⟩=S (f i):=by
 rw[h.o.cellAt i (by omega)];simp[hi]
theorem tj.app{u:V5}{b g k cap:Nat}{E:List Sp.Ed}(h:tj w L b n f E)(e:Sp.Ed)(he:e.dp<n)(I:(Sp.iE E e.dp).length=k)(C:w.grownBy u (f e.dp).ownBlock)(K:u.ownsRow L 162 3 (J (S ⟨g,0,U⟩) (k+1) cap) (k+1) (dq (Sp.iE E e.dp)++[Z Y (e.dp:Int),Z Y (e.cS:Int),Z Y e.n]))(l:(f e.dp).ownBlock=S g\/g=w.heap.size):tj (u.setCell ⟨b,e.dp,U⟩ (J (S ⟨g,0,U⟩) (k+1) cap)) L b n (λj=>if j=e.dp then (J (S ⟨g,0,U⟩) (k+1) cap) else f j) (E++[e]):=by
 have P:=h.lt;have z:g≠b:=by
  rintro rfl;rcases l with l|l
  .exact h.nd _ he l
  .omega
 have r:(Value.slice (S ⟨g,0,U⟩) (k+1) cap).ownBlock≠S b:=λq=>by
  have A:S g=S b:=q;injection A with A;exact z A
 refine⟨?_,λi hi=>?_,λi j hi y m=>?_,λi hi=>?_⟩
 .have M:u.ownsRow L 66 1 (J (S ⟨b,0,U⟩) n n) n ((List.range n).map f):=h.o.kept C (Wi (λq=>h.nd _ he q.symm));have F:=(M.stored e.dp (J (S ⟨g,0,U⟩) (k+1) cap)).1;rw[F5] at F;exact F
 .by_cases c:i=e.dp
  .subst c;rw[Tg rfl];have B:Sp.iE (E++[e]) e.dp=Sp.iE E e.dp++[e]:=by unfold Sp.iE;rw[UQ];simp
   rw[B,zO,TT,I];exact Ui K (a:=⟨b,e.dp,U⟩) r _
  .rw[Tf c];have B:Sp.iE (E++[e]) i=Sp.iE E i:=by unfold Sp.iE;rw[UQ];simp[UC c]
   rw[B];exact Ui ((h.own i hi).kept C (h.ap i _ hi he c)) (a:=⟨b,e.dp,U⟩) (h.nd i hi) _
 .by_cases c:i=e.dp
  .subst c;rw[Tg O,Tf (λq=>m q.symm)];exact(h.ap _ _ hi y m).grown (h.own j y) l
  .rw[Tf c];by_cases G:j=e.dp
   .subst G;rw[Tg rfl];exact((h.ap _ _ y hi (UC m)).grown (h.own i hi) l).symm
   .rw[Tf G];exact h.ap i j hi y m
 .by_cases c:i=e.dp
  .subst c;rw[Tg rfl];exact r
  .rw[Tf c];exact h.nd i hi
def Ht(w:V5)(pe:Option Addr)(n:Nat)(Es:List Sp.Ed):Prop := ∀i,i<n->∃b p e,pe=S ⟨b,0,U⟩/\b<N (E w)/\w.cell? ⟨b,i,U⟩=S (J p (Sp.iE Es i).length e)/\gh w p (Sp.iE Es i)
theorem Ht.below{w':V5}{pe:Option Addr}{Es:List Sp.Ed}(h:Ht w pe n Es)(hb:V4 w w'): Ht w' pe n Es:=λi hi=>by
 obtain⟨e,p,j,a,b,c,d⟩:=h i hi;have:=hb.size;exact⟨e,p,j,a,by omega,(hb.cell (p:=⟨e,i,U⟩) b).trans c,d.below hb⟩
theorem tj.read{b:Nat}{E:List Sp.Ed}(h:tj w L b n f E): Ht w (S ⟨b,0,U⟩) n E:=λi hi=>by
 obtain⟨p,e,j,l⟩:=l6 (h.own i hi);exact⟨b,p,e,O,h.lt.2,by rw[h.cell hi,j],l⟩
theorem tj.new{b:Nat}(h:w.ownsRow L 66 1 (J (S ⟨b,0,U⟩) n n) n (List.replicate n (J U 0 0))): tj w L b n (λ_=>J U 0 0) []:=by
 refine⟨?_,λi hi=>TH _ _ _ _,λi j _ _ _=>Wh rfl,λi hi q=>by cases q⟩;have e:(List.range n).map (λ_=>Value.slice U 0 0)=List.replicate n (J U 0 0):=by
  rw[List.map_const',List.length_range]
 rw[e];exact h
theorem tj.low{e b:Nat}{E:List Sp.Ed}(h:tj w e b n f E)(j:L<=e): tj w L b n f E:=⟨fB h.o j,λi hi=>fB (h.own i hi) j,h.ap,h.nd⟩
theorem tj.MW{b R j:Nat}{E:List Sp.Ed}{v:V6}(h:tj w L b n f E)(e:R<L): tj (w.setCell ⟨R,j,U⟩ v) L b n f E:=⟨TA h.o (a:=⟨R,j,U⟩) e v,λi hi=>TA (h.own i hi) (a:=⟨R,j,U⟩) e v,h.ap,h.nd⟩
def JL(n:Nat)(Es:List Sp.Ed)(w:V5)(e:Ending)(w':V5):Prop:=V4 w w'/\∃b f,e=Wd (J (S ⟨b,0,U⟩) n n)/\tj w' (N (E w)) b n f Es
end
section
theorem uE(nm:_)(x:Int)(f:V6)(w:V5):Sem.run prog (Instr.field 152 (Wc #[H nm,Z Y x,f]) 2) w=.ok f w:=by first|kernel_rfl|rfl
variable {w:V5}
theorem tG{P:Program}{b:Array Oper}{o:Oper}{a:Act}{K:Act->V5->Prop}{Q:Exit->Act->V5->Prop}{E:Prop}(l:o.guard=U)(t:TypeId)(x:Operand)(i:Nat)(j:o.op=Op.field t x i)(v:V6)(m:Sem.run P (Instr.field t (a.eval x) i) w=.ok v w)(h:K (a.put o.dst v) w): if Region.wanted o (yielded b a.tmps)=We then Oper.wp P o a w K Q else E:=by
 have r:Region.wanted o (yielded b a.tmps)=We:=by simp[Region.wanted,l]
 rw[Tg r];unfold Oper.wp;have e:(execOp a.eval o).run P w=.ok (.value v) w:=by
  simp[execOp,j,m,Result.andThen]
 rw[e,Oper.upon_value];exact h
theorem Cs{P:Program}{c:Code}{Q:Exit->Act->V5->Prop}{a:Act}(R:V5->Prop)(h:∃A:V6->V6->Act,c.wp P (sX λx j b=>x=.normal/\∃u1 u2,j=A u1 u2/\R b) a w/\∀u1 u2 b,R b->Q .normal (A u1 u2) b): c.wp P Q a w:=by
 obtain⟨A,l,m⟩:=h;refine Code.wp_mono (λe a w h=>?_) l;obtain⟨rfl,u1,u2,rfl,r⟩:=ln _ _ _ h;exact m _ _ _ r
variable {n:Nat}
theorem oQ.drew{C B g cap:Nat}{step all:Int}{V:List Int}{R:List Bool}{G I:List Int}(h:oQ w C B g cap n step all V R G I): oQ w.drew C B g cap n step all V R G I:=h.below V3.drew
theorem eK.drew{C g:Nat}{a b:V5}(h:eK C g a b):eK C g a b.drew:=h.trans (eK.gM V3.drew)
theorem BP{s:List (Nat × Int)}{m:Nat × Int}(b:m.1<n): ((List.range n).map (Sp.hZ s)).set m.1 (Sp.hZ s m.1+1)=(List.range n).map (Sp.hZ (s++[m])):=by
 rw[Sp.qh];apply Sp.oh;intro q _;rw[Sp.C3];by_cases c:q=m.1
 .subst c;simp
 .rw[Tf c,Tf (UC c)]
theorem BT{P:Sp.Pg}{s:List (Nat × Int)}{m:Nat × Int}(b:m.1<n): ((List.range n).map (Sp.iv P s)).set m.1 (Sp.jq P.pq (Sp.iv P s m.1) m.2)=(List.range n).map (Sp.iv P (s++[m])):=by
 rw[Sp.qh];apply Sp.oh;intro q _;rw[Sp.DH];by_cases c:q=m.1
 .subst c;simp
 .rw[Tf c,Tf (UC c)]
def CD(P:Sp.Pg)(C L g cap n:Nat)(step all:Int)(V:List Int)(R:List Bool)(b:List (Nat × Int))(t:Sp.Tn)(id:Nat)(w:V5)(e:Ending)(w':V5):Prop:=e=Wd (Wb #[])/\eK C g w w'/\oQ w' C L g cap n step (Sp.jq P.al all t.lE) (V.set id t.value) (R.set id t.gx) ((List.range n).map (Sp.hZ (b++t.dZ))) ((List.range n).map (Sp.iv P (b++t.dZ)))
theorem PF(B:Nat)(pf:Option Addr)(n kf:Nat)(pe:Option Addr)(ke cZ:Nat)(P:Sp.Pg)(Es:List Sp.Ed)(t:Sp.Tn)(id:Nat)(vm:V6)(C L g cap M:Nat)(step all:Int)(V:List Int)(R:List Bool)(y:List (Nat × Int))(w0 w:V5)(hp:jH w0 B P)(he:Ht w0 pe n Es)(hb:V4 w0 w)(I:id<n)(hn:n<=64)(hc:oQ w C L g cap n step all V R ((List.range n).map (Sp.hZ y)) ((List.range n).map (Sp.iv P y)))(bk:N (E w0)<=C)(bI:N (E w0)<=L)(hV:Wn V=n)(hR:Wn R=n)(bJ:Wn y<=100000)(hm:w.ownsRow M 2 1 vm (Wn t.dZ) (t.dZ.map λm=>Z Y m.2))(bK:C<M)(bL:g<M)(aM:t.dZ≠[]->t.dZ.map Prod.fst=(Sp.iE Es id).map (·.cS))(ht:Sp.Qq n t)(bn:(Sp.iE Es id).length<=1000):V7 prog 74 #[Wc (dY B pf n kf pe ke cZ),Wc #[Z Y t.value,vm,Wa t.gx,Z Y t.lE],Z Y id,V9 (S ⟨C,0,U⟩)] w (CD P C L g cap n step all V R y t id w):=by
 generalize hO:CD P C L g cap n step all V R y t id w=b;replace hO:=cU hO;have HP:=cU hp;have HE:=cU he;have bo:=cU aM;have HT:=cU ht;have bp:=ht.l;obtain⟨pm,km,rfl,aN⟩:=dm hm;have bq:=cU aN;have K:∀q,pm=S q->M<=q.block/\q.block<N (E w):=by
  rintro q rfl;rcases hm.2 with ⟨e,_⟩|⟨g',bH,bM,e,h1,h2,_⟩
  .cases e
  .injection e with e _ _;injection e with e;subst e;exact⟨h1,(Ts.1 h2).1⟩
 have br:=cU K;have az:=cU (rD w (dY B pf n kf pe ke cZ) #[Z Y t.value,J pm (Wn t.dZ) km,Wa t.gx,Z Y t.lE] 75 167);have aO:=cU hc;have bN:=hc.lt;have bO:=hc.SR;have bP:=hc.ne;have aA:=cU hb;have g0:(0:Int)<=(id:Int):=TS _;have g1:(id:Int)<(n:Int):=by omega
 obtain⟨m,HM⟩:∃m,Hid (Wn t.dZ=m):=⟨_,rfl⟩
 rw[cT HM] at az bp ⊢;clear hp he aM ht hm aN K hc hb;unfold dY at *;go_enter func74,ntmps74;go_upto_region 1 with fail;generalize hW:Wl (Wl _ _) _=W0;obtain⟨aP,aB,T,bQ⟩:=cT az W0 hW.symm;have bs:=cU aP;have bu:=cU aB;clear hW az;have X:=cU ((cT aO).below T);have c1:=(cT X).c1;have d0:=((cT X).cells I).1;have f0:=(cT X).Sg (id*4);have t0:W0.cell? ⟨N (E w)+1,0,U⟩=S (Z Y t.value):=by simp[Wj,aB]
 clear aP aB;apply mJ (λw'=>Hid (oQ w' C L g cap n step all (V.set id t.value) R ((List.range n).map (Sp.hZ y)) ((List.range n).map (Sp.iv P y)))/\Hid (eK C g W0 w'));apply Exists.intro;apply And.intro
 case left =>
  go_region_law fail
  all_goals first
   |exact⟨rfl,rfl,(cT X).store (Ar I (by omega) _),(eK.refl C g W0).set (Wi rfl) _⟩
   |exact⟨rfl,rfl,(cT X).drew.store (Ar I (by omega) _),(eK.refl C g W0).drew.set (Wi rfl) _⟩
   |trace_state
 case right =>
 rintro w1 ⟨aa,an⟩;clear c1 d0 f0 t0 X aO;have c1:=(cT aa).c1;have d1:=((cT aa).cells I).2.1;have f1:=(cT aa).Sg (id*4+1);have aC:∀wq,eK C g W0 wq->wq.heap[N (E w)+1]?=S (D #[Z Y t.value,J pm m km,Wa t.gx,Z Y t.lE] 167 (0,0)):=λwq hq=>(hq.block _ (by omega) (by omega) (by omega)).trans (cT bu)
 have aQ:∀wq,eK C g W0 wq->wq.heap[N (E w)]?=S (D #[V9 (S ⟨B,0,U⟩),J pf n kf,J pe n ke,Z Y cZ] 75 (0,0)):=λwq hq=>(hq.block _ (by omega) (by omega) (by omega)).trans (cT bs)
 have aR:=cU aC;have aD:=cU aQ;have t2:w1.cell? ⟨N (E w)+1,2,U⟩=S (Wa t.gx):=by simp[Wj,aC w1 (cT an)]
 clear aC aQ;go_upto_region 2 with fail;apply mJ (λw'=>Hid (oQ w' C L g cap n step all (V.set id t.value) (R.set id t.gx) ((List.range n).map (Sp.hZ y)) ((List.range n).map (Sp.iv P y)))/\Hid (eK C g W0 w'));apply Exists.intro;apply And.intro
 case left =>
  go_region_law fail
  all_goals first
   |exact⟨rfl,rfl,(cT aa).store (Ad I (by omega) _),(cT an).set (Wi rfl) _⟩
   |exact⟨rfl,rfl,(cT aa).drew.store (Ad I (by omega) _),(cT an).drew.set (Wi rfl) _⟩
   |trace_state
 case right =>
 rintro w2 ⟨aS,aE⟩;clear c1 d1 f1 t2 aa an;have t1:w2.cell? ⟨N (E w)+1,1,U⟩=S (J pm m km):=by simp[Wj,cT aR w2 (cT aE)]
 have aT:Hid (oQ w2 C L g cap n step all (V.set id t.value) (R.set id t.gx) ((List.range n).map (Sp.hZ (y++t.dZ.take 0))) ((List.range n).map (Sp.iv P (y++t.dZ.take 0)))):=by
  show oQ _ _ _ _ _ _ _ _ _ _ _ _
  rw[List.take_zero,UJ];exact cT aS
 clear aS;go_wp2_with fail
 go_loopw [32] (λi wr=>∃k:Nat,k<=m/\i=Z Y k/\Hid (oQ wr C L g cap n step all (V.set id t.value) (R.set id t.gx) ((List.range n).map (Sp.hZ (y++t.dZ.take k))) ((List.range n).map (Sp.iv P (y++t.dZ.take k))))/\Hid (eK C g W0 wr)) (λi _=>m-(intOf i).toNat)
 case atStart=>exact⟨0,Tp _,rfl,aT,aE⟩
 case round =>
  clear aT aE t1;obtain⟨k,hk,rfl,HC,HS⟩:=hrel;have ab:V4 w0 wr:=((cT aA).trans (T.mono (cT aA).size)).trans ((cT HS).below bk (by omega) (by have:=(cT aA).size;omega));have j0:wr.cell? ⟨N (E w),0,U⟩=S (V9 (S ⟨B,0,U⟩)):=by simp[Wj,cT aD wr (cT HS)]
  by_cases bw:k<m
  .have aU:(k:Int)<(m:Int):=by omega
   have k0:(0:Int)<=(k:Int):=TS _;have ad:k<Wn t.dZ:=by rw[cT HM];exact bw
   have bx:t.dZ≠[]:=λe=>by rw[e] at ad;simp at ad
   have ae:=cT bo bx;have aV:(Sp.iE Es id).length=Wn t.dZ:=by have:=congrArg List.length ae;simpa using this.symm
   have aF:k<(Sp.iE Es id).length:=by omega
   have av:(Sp.iE Es id)[k].cS=t.dZ[k].1:=by
    have h:=congrArg (λl=>l[k]?) ae;simp only[Vd,Tw ad,Tw aF,Option.map_some] at h;injection h with h;exact h.symm
   have u:t.dZ[k].1<n:=((cT HT).s _ (Uc ad)).1;obtain⟨gm,aW,aX,aw,mc⟩:=cT bq k (by omega);have K:=cT br _ aW;have aY:wr.cell? ⟨gm,k,U⟩=S (Z Y t.dZ[k].2):=by
    rw[(cT HS).cell (q:=gm) (by have:=T.size;omega) (by simp at K;omega) (by simp at K;omega),T.cell (p:=⟨gm,k,U⟩) aw,mc];simp[ad]
   obtain⟨r,pp,ce,aZ,hD,dc,a1⟩:=((cT HE).below ab) id I;obtain⟨ge,a6,bR,_,ec,_⟩:=a1 k aF;rw[av] at ec;have a7:Hid (t.dZ.take (k+1)=t.dZ.take k++[t.dZ[k]]):=Uw ad;have bA:=cU (cT HC).o;have j2:wr.cell? ⟨N (E w),2,U⟩=S (J (S ⟨r,0,U⟩) n ke):=by rw[<-aZ];simp[Wj,cT aD wr (cT HS)]
   obtain⟨le,a8⟩:∃le,(Sp.iE Es id).length=le:=⟨_,rfl⟩
   rw[a8] at dc aF bn;rw[a6] at dc;subst aW;have ba:gm<N (E wr):=by have:=T.size;have:=(cT HS).size;simp at K;omega
   have c1:=(cT HC).c1;have kz:(k:Int)<(le:Int):=by omega
   obtain⟨G,aG⟩:∃G,t.dZ[k]=G:=⟨_,rfl⟩
   rw[aG] at aY ec u a7;have bS:=cU aG;clear aG ae aV av aZ a6 a1 K mc aX aw a8;have bT:(G.1:Int)<(n:Int):=by omega
   have bU:(0:Int)<=(G.1:Int):=TS _;go_upto_region 6 with fail
   go_quiet (fail)
   generalize bc:World.drewN wr _=W6;have ao:V4 wr W6:=by rw[<-bc];exact below_drewN _ _
   have aq:=cU ((cT HC).below ao);have bd:=cU ((cT HS).trans (eK.gM ao));have ax:V4 w0 W6:=ab.trans (ao.mono ab.size);clear bc ao c1 j0 j2 aY dc ec HC HS ab ba bA;have y2:=((cT aq).cells u).2.2.1;have f2:=(cT aq).Sg (G.1*4+2);rw[Sp.jP _ u] at y2;have bB:=Sp.BO (y++t.dZ.take k) G.1;have bg:(y++t.dZ.take k).length<=200000:=by rw[TT,Uz];omega
   have bh:=cU (BP (s:=y++t.dZ.take k) (n:=n) u);have ar:=cU (BT (P:=P) (s:=y++t.dZ.take k) (n:=n) u);rw[T4,<-cT a7] at bh ar;generalize Sp.hZ (y++t.dZ.take k) G.1=x at *;have bC:IntKind.i64.wrap (x+1)=x+1:=by rw[TJ];omega
   clear bB bg;go_upto_region 8 with fail;have Q:=cU ((cT aq).store (K0 u (by simp;exact u) (x+1)));have au:=cU ((cT bd).set (q:=g) (j:=G.1*4+2) (Wi O) (Z Y (x+1)));have af:=ax.setCell (p:=⟨g,G.1*4+2,U⟩) (show (N (E w0))<=g by omega) (Z Y (x+1));rw[cT bh] at Q;clear y2 f2 bC aq bd ax;generalize Wm _ _ _=W7 at Q au af ⊢;have y3:=((cT Q).cells u).2.2.2;rw[Sp.jP _ u] at y3;have f3:=(cT Q).Sg (G.1*4+3);have j0:W7.cell? ⟨N (E w),0,U⟩=S (V9 (S ⟨B,0,U⟩)):=by simp[Wj,cT aD W7 (cT au)]
   have bj:=(cT Q).SR;obtain⟨jb,HJ⟩:∃jb,Hid (Sp.jq P.pq (Sp.iv P (y++t.dZ.take k) G.1) G.2=jb):=⟨_,rfl⟩
   rw[cT HJ] at ar;generalize Sp.iv P (y++t.dZ.take k) G.1=z at *;obtain⟨nb,aH⟩:∃nb,Hid (Sp.eT P.pq=nb):=⟨_,rfl⟩
   have aI:Hid (∀W,V4 W7 W->V7 prog 76 #[V9 (S ⟨B,0,U⟩)] W (oP P.pq W)):=by
    show ∀W,_
    intro W hW;exact Jp B P W ((cT HP).below (af.trans (hW.mono af.size)))
   have aJ:Hid (∀(args:Array V6) (w:V5),(callFunc 76 args).run prog w=.ok (.enter 76 args) w):=da func76 (by kernel_rfl) (by kernel_rfl);apply Cs (λw'=>Hid (oQ w' C L g cap n step all (V.set id t.value) (R.set id t.gx) ((List.range n).map (Sp.hZ (y++t.dZ.take (k+1)))) ((List.range n).map (Sp.iv P (y++t.dZ.take (k+1)))))/\Hid (eK C g W0 w'));apply Exists.intro;apply And.intro
   case left =>
    go_region_law (first
    |(refine du (by rfl) _ _ _ (by rfl) 76 (by rfl) _ (by rfl) (cT aJ) (cT aI _ (by first|exact Th _ _|exact V3.drew)) ?_;rintro e wq ⟨ag,F2,he,ah,A⟩;rw[cT aH] at he;obtain rfl:=he.symm;dsimp only;have F:V4 W7 wq:=(by first|exact A|exact V3.drew.trans (A.mono V2));have q1:=(F.cell (p:=⟨g,G.1*4+3,U⟩) bj.2).trans y3;have q2:=(F.frozen (p:=⟨g,G.1*4+3,U⟩) bj.2).trans f3;have ai:=cU ah;have q5:=cU F;have q6:∀W,Sem.run prog (Instr.field 152 (Wc #[H ag,Z Y nb,.func (.func F2) #[] #[]]) 2) W=.ok (.func (.func F2) #[] #[]) W:=uE _ _ _;clear F A ah)
     | (refine tG (by rfl) _ _ _ (by rfl) _ (uE _ _ _ _) ?_)
    |(refine du (by rfl) _ _ _ (by rfl) F2 (by rfl) #[Z Y z,Z Y G.2] (by rfl) (cT ai).enter ((cT ai).calls z G.2 _) ?_;rintro e bD ⟨aj,ak⟩;rw[cT HJ] at aj;obtain rfl:=aj.symm;obtain rfl:=ak.symm;dsimp only))
    all_goals
     generalize Value.agg #[H ag,Z Y nb,.func (.func F2) #[] #[]]=u1;generalize Value.func (.func F2) #[] #[]=u2
     first
      |exact⟨rfl,u1,u2,rfl,by show oQ _ _ _ _ _ _ _ _ _ _ _ _;rw[<-cT ar];exact((cT Q).below (cT q5)).store (BM u (by simp;exact u) jb),((cT au).trans (eK.gM (cT q5))).set (Wi O) _⟩
      |exact⟨rfl,u1,u2,rfl,by show oQ _ _ _ _ _ _ _ _ _ _ _ _;rw[<-cT ar];exact(((cT Q).below (cT q5)).store (BM u (by simp;exact u) jb)).drew,(((cT au).trans (eK.gM (cT q5))).set (Wi O) _).drew⟩
      |trace_state
   case right =>
   rintro u1 u2 w8 ⟨aK,aL⟩;go_wp2;go_roundw
   case rel=>exact⟨k+1,by omega,by go_num,aK,aL⟩
   case measure=>simp[intOf];omega
  .have aU:¬(k:Int)<(m:Int):=by omega
   have bE:k=Wn t.dZ:=by rw[cT HM];omega
   rw[bE,Ut] at HC;have c2:=(cT HC).c2;have f2:=(cT HC).fz 2;have ay:=(cT HC).lt;have t3:wr.cell? ⟨N (E w)+1,3,U⟩=S (Z Y t.lE):=by simp[Wj,cT aR wr (cT HS)]
   have bF:N (E w)+1<N (E wr):=by have:=(cT HS).size;omega
   obtain⟨jb,HJ⟩:∃jb,Hid (Sp.jq P.al all t.lE=jb):=⟨_,rfl⟩
   obtain⟨nb,aH⟩:∃nb,Hid (Sp.eT P.al=nb):=⟨_,rfl⟩
   have aI:Hid (∀W,V4 wr W->V7 prog 75 #[V9 (S ⟨B,0,U⟩)] W (oP P.al W)):=by
    show ∀W,_
    intro W hW;exact Ez B P W ((cT HP).below (ab.trans (hW.mono ab.size)))
   have aJ:Hid (∀(args:Array V6) (w:V5),(callFunc 75 args).run prog w=.ok (.enter 75 args) w):=da func75 (by kernel_rfl) (by kernel_rfl);go_upto_region 10 with fail;apply Cs (λw'=>Hid (oQ w' C L g cap n step jb (V.set id t.value) (R.set id t.gx) ((List.range n).map (Sp.hZ (y++t.dZ))) ((List.range n).map (Sp.iv P (y++t.dZ))))/\Hid (eK C g W0 w'));apply Exists.intro;apply And.intro
   case left =>
    go_region_law (first
    |(refine du (by rfl) _ _ _ (by rfl) 75 (by rfl) _ (by rfl) (cT aJ) (cT aI _ (by first|exact Th _ _|exact V3.drew)) ?_;rintro e wq ⟨ag,F2,he,ah,A⟩;rw[cT aH] at he;obtain rfl:=he.symm;dsimp only;have F:V4 wr wq:=(by first|exact A|exact V3.drew.trans (A.mono V2));have q1:=(F.cell (p:=⟨C,2,U⟩) ay).trans c2;have q2:=(F.frozen (p:=⟨C,2,U⟩) ay).trans f2;have q3:=(F.cell (p:=⟨N (E w)+1,3,U⟩) bF).trans t3;have ai:=cU ah;have q5:=cU F;have q6:∀W,Sem.run prog (Instr.field 152 (Wc #[H ag,Z Y nb,.func (.func F2) #[] #[]]) 2) W=.ok (.func (.func F2) #[] #[]) W:=uE _ _ _;clear F A ah)
     | (refine tG (by rfl) _ _ _ (by rfl) _ (uE _ _ _ _) ?_)
    |(refine du (by rfl) _ _ _ (by rfl) F2 (by rfl) #[Z Y all,Z Y t.lE] (by rfl) (cT ai).enter ((cT ai).calls all t.lE _) ?_;rintro e bD ⟨aj,ak⟩;rw[cT HJ] at aj;obtain rfl:=aj.symm;obtain rfl:=ak.symm;dsimp only))
    all_goals
     generalize Value.agg #[H ag,Z Y nb,.func (.func F2) #[] #[]]=u1;generalize Value.func (.func F2) #[] #[]=u2
     first
      |exact⟨rfl,u1,u2,rfl,((cT HC).below (cT q5)).R7 jb,((cT HS).trans (eK.gM (cT q5))).set (Wh rfl) _⟩
      |exact⟨rfl,u1,u2,rfl,(((cT HC).below (cT q5)).R7 jb).drew,(((cT HS).trans (eK.gM (cT q5))).set (Wh rfl) _).drew⟩
      |trace_state
   case right =>
   rintro u1 u2 w8 ⟨aK,aL⟩;have bG:Hid (b (Wd (Wb #[])) w8):=by
    show b _ _
    rw[<-cT hO];exact⟨O,(eK.gM T).trans (cT aL),by rw[cT HJ];exact cT aK⟩
   go_wp2;exact Tj (v := Wb #[]) (by simp[results,results74,go_sem]) O (cT bG)
end
end Go.Proofs.YtgkkdpegcieakaaGreatDoor
