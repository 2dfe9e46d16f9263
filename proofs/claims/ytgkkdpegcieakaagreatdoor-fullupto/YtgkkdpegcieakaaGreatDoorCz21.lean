import Derived.Test.YtgkkdpegcieakaaGreatDoorCz20
import Derived.Test.YtgkkdpegcieakaaGreatDoorCz19
set_option linter.unusedVariables false
set_option linter.unusedSimpArgs false
set_option maxRecDepth 100000
set_option maxHeartbeats 16000000
namespace Go.Proofs.YtgkkdpegcieakaaGreatDoor
open Go.Proofs.Tryz
open Value renaming int→Z
open IntKind renaming i64→Y
open Go renaming World→TJ,Value→TK,Calls→TL
section
open Go.RowKit
def kl(w:TJ)(p:Option Addr)(c:Sp.Cfg)(n:Nat):Prop := ∀k,k<n->∃g,p=some ⟨g,0,none⟩/\g<w.heap.size/\w.cell? ⟨g,k*4,none⟩=some (Z Y (c.val.getD k 0))/\w.cell? ⟨g,k*4+1,none⟩=some (.bool (c.fC.getD k false))/\w.cell? ⟨g,k*4+2,none⟩=some (Z Y (c.iK.getD k 0))/\w.cell? ⟨g,k*4+3,none⟩=some (Z Y (c.je.getD k 0))
theorem kl.below{w w':TJ}{p:Option Addr}{c:Sp.Cfg}{n:Nat}(h:kl w p c n)(hb:TI w w'):kl w' p c n:=λk e=>by
 obtain⟨g,a,b,j,l,m,r⟩:=h k e;have:=hb.size;exact⟨g,a,by omega,(hb.cell (p:=⟨g,_,none⟩) b).trans j,(hb.cell (p:=⟨g,_,none⟩) b).trans l,(hb.cell (p:=⟨g,_,none⟩) b).trans m,(hb.cell (p:=⟨g,_,none⟩) b).trans r⟩
def gw(step:Int)(p:Option Addr)(n k:Nat)(all:Int):TK := .agg #[Z Y step,.slice p n k,Z Y all]
theorem Dm(step:Nat)(p:Option Addr)(n k:Nat)(all v g i:Int)(r:Bool)(w:TJ)(A:step<=4294967295):TL prog 72 #[gw step p n k all,.agg #[Z Y v,.bool r,Z Y g,Z Y i]] w λe z=>e=.returned (.bool (step == 0 || (!r || decide (0<g))))/\TI w z:=by
 have j:Hid (TI w ((w.alloc (.cells #[Z Y (step:Int),.slice p n k,Z Y all] 80)).alloc (.cells #[Z Y v,.bool r,Z Y g,Z Y i] 104))):=(TH.alloc TG _).alloc (by simp) _;unfold gw;by_cases u:step=0
 .subst u;have l:(((0:Nat):Int) == 0)=true:=rfl;go_enter func72,ntmps72;go_wp2;go_ret;exact⟨rfl,cO j⟩
 .have l:((step:Int) == 0)=false:=cC.2 (by omega);have m:(step == 0)=false:=cC.2 u;rw[m];cases r with
  |false =>
   go_enter func72,ntmps72;go_wp2;go_ret;exact⟨rfl,cO j⟩
  |true =>
   by_cases y:0<g
   .have b:decide (0<g)=true:=kH y;go_enter func72,ntmps72;go_wp2;go_ret
    first|exact⟨rfl,cO j⟩|exact⟨by rw[b];rfl,cO j⟩
   .have b:decide (0<g)=false:=df y;go_enter func72,ntmps72;go_wp2;go_ret
    first|exact⟨rfl,cO j⟩|exact⟨by rw[b];rfl,cO j⟩
namespace Sp
theorem quiet_of{c:Cfg}{step n:Nat}(e:c.val.length=n)(h:∀k,k<n->mO c k step=false):quiet c step=true:=by
 unfold quiet;rw[e,List.all_eq_true];intro k b;rw[KH] at b;rw[h k b];rfl
theorem Fc{c:Cfg}{step n k:Nat}(e:c.val.length=n)(j:k<n)(h:mO c k step=true):quiet c step=false:=by
 unfold quiet;rw[e,Tv];intro b;rw[List.all_eq_true] at b;have:=b k (KH.2 j);rw[h] at this;cases this
end Sp
theorem Nq(step:Nat)(p:Option Addr)(n cap:Nat)(c:Sp.Cfg)(w:TJ)(O:kl w p c n)(P:c.val.length=n)(hn:n<=64)(T:step<=4294967295):TL prog 71 #[gw step p n cap c.all] w λe U=>e=.returned (.bool (Sp.quiet c step))/\TI w U:=by
 have V:=cP O;have Q:=cP P;clear O P;obtain⟨q,G⟩:∃q,Hid (Sp.quiet c step=q):=⟨_,rfl⟩
 rw[cO G];unfold gw;have l:TI w (w.alloc (.cells #[Z Y (step:Int),.slice p n cap,Z Y c.all] 80)):=TH.alloc TG _;have y:=ct w (.cells #[Z Y (step:Int),.slice p n cap,Z Y c.all] 80);go_enter func71,ntmps71;go_wp2_with fail;generalize X:World.alloc _ _=H at *;have I:=cP y;have A:w.heap.size<H.heap.size:=(cB.1 y).1;clear X y
 go_loopw [8] (λi wr=>∃k:Nat,k<=n/\i=Z Y k/\Hid (∀m,m<k->Sp.mO c m step=false)/\TI H wr) (λi _=>n-(intOf i).toNat)
 case atStart=>exact⟨0,cy _,rfl,λm R=>absurd R (by omega),cj _ _⟩
 case round =>
  obtain⟨k,hk,rfl,S,B⟩:=hrel;have C:TI w wr:=l.trans (B.mono l.size);by_cases D:k<n
  .have E:(k:Int)<(n:Int):=by omega
   have g0:(0:Int)<=(k:Int):=iJ _;obtain⟨g,rfl,hg,d0,d1,d2,d3⟩:=((cO V).below C) k D;have r:=(B.block w.heap.size A).trans (cO I);have c0:wr.cell? ⟨w.heap.size,0,none⟩=some (Z Y (step:Int)):=by simp[World.cell?,r]
   have c1:wr.cell? ⟨w.heap.size,1,none⟩=some (.slice (some ⟨g,0,none⟩) n cap):=by simp[World.cell?,r]
   have c2:wr.cell? ⟨w.heap.size,2,none⟩=some (Z Y c.all):=by simp[World.cell?,r]
   have t:w.heap.size<wr.heap.size:=dT A B.size;have b:=cP (λW=>Dm step (some ⟨g,0,none⟩) n cap c.all (c.val.getD k 0) (c.iK.getD k 0) (c.je.getD k 0) (c.fC.getD k false) W T);have J:Hid ((step == 0 || (!(c.fC.getD k false) || decide (0<c.iK.getD k 0)))=Sp.mO c k step):=rfl;rw[cO J] at b;obtain⟨K,L⟩:∃K,Hid (Sp.mO c k step=K):=⟨_,rfl⟩
   rw[cO L] at b;unfold gw at b;generalize c.val.getD k 0=s at *;generalize c.fC.getD k false=o at *;generalize c.iK.getD k 0=x2 at *;generalize c.je.getD k 0=x3 at *;have F:TI wr (wr.alloc (.cells #[Z Y s,.bool o,Z Y x2,Z Y x3] 104)):=TH.alloc TG _;have u:=cP (B.trans (F.mono B.size));clear r F;cases K with
   |true =>
    have M:Hid (q=false):=by show _=_;rw[<-cO G];exact Sp.Fc (cO Q) D (cO L)
    go_wp2_with fail;refine(cO b _).mono ?_;rintro e w2 ⟨rfl,j⟩;have z:=cP ((cO u).trans (j.mono (cO u).size));clear j;go_wp2;go_ret;exact⟨by rw[cO M];rfl,l.trans ((cO z).mono l.size)⟩
   |false =>
    have N:Hid (∀m,m<k+1->Sp.mO c m step=false):=λm R=>if h:m=k then h ▸ cO L else cO S m (by omega)
    go_wp2_with fail;refine(cO b _).mono ?_;rintro e w2 ⟨rfl,j⟩;have z:=cP ((cO u).trans (j.mono (cO u).size));clear j;go_wp2;go_roundw
    case rel=>exact⟨k+1,by omega,by go_num,N,cO z⟩
    case measure=>simp[intOf];omega
  .obtain rfl:k=n:=by omega
   have E:¬(k:Int)<(k:Int):=by omega
   have M:Hid (q=true):=by show _=_;rw[<-cO G];exact Sp.quiet_of (cO Q) (cO S)
   go_wp2;go_ret;exact⟨by rw[cO M];rfl,C⟩
end
section
open Go.RowKit
def dW(B:Nat)(pf:Option Addr)(n kf:Nat)(pe:Option Addr)(ke cT:Nat):Array TK := #[.pointer (some ⟨B,0,none⟩),.slice pf n kf,.slice pe n ke,Z Y cT]
theorem pending(B:Nat)(pf:Option Addr)(m kf:Nat)(pe:Option Addr)(ke cT step:Nat)(p:Option Addr)(n cap:Nat)(c:Sp.Cfg)(w:TJ)(H:kl w p c n)(I:c.val.length=n)(M:n<=64)(N:step<=4294967295)(J:cT<=200):TL prog 40 #[.agg (dW B pf m kf pe ke cT),gw step p n cap c.all] w λe O=>e=.returned (Z .u8 (Sp.gu cT c step))/\TI w O:=by
 have D:=cP (λW (hb:TI w W)=>Nq step p n cap c W (H.below hb) I M N);have b:TI w ((w.alloc (.cells (dW B pf m kf pe ke cT) 75)).alloc (.cells #[Z Y (step:Int),.slice p n cap,Z Y c.all] 80)):=(TH.alloc TG _).alloc (by simp) _;have E:=ee w (.cells (dW B pf m kf pe ke cT) 75);have j:=ct (w.alloc (.cells (dW B pf m kf pe ke cT) 75)) (.cells #[Z Y (step:Int),.slice p n cap,Z Y c.all] 80);rw[E] at j;have r:((w.alloc (.cells (dW B pf m kf pe ke cT) 75)).alloc (.cells #[Z Y (step:Int),.slice p n cap,Z Y c.all] 80)).heap[w.heap.size]?=some (.cells (dW B pf m kf pe ke cT) 75 (0,0)):=by
  rw[cN _ _ _ (by rw[E];omega)];exact ct w _
 clear H I E;obtain⟨q,z⟩:∃q,Hid (Sp.quiet c step=q):=⟨_,rfl⟩
 rw[cO z] at D;have u:Hid (Sp.gu cT c step=if q=true then 1 else if cT<=step then 2 else 0):=by show _=_;unfold Sp.gu;rw[cO z]
 unfold gw at D ⊢;unfold dW at *;go_enter func40,ntmps40;go_wp2_with fail;generalize P:World.alloc (World.alloc _ _) _=Q at *;refine(cO D Q b).mono ?_;rintro e C ⟨rfl,l⟩;have K:C.heap[w.heap.size+1]?=_:=(l.block _ (cB.1 j).1).trans j;have L:C.heap[w.heap.size]?=_:=(l.block _ (cB.1 r).1).trans r;have R:C.cell? ⟨w.heap.size+1,0,none⟩=some (Z Y (step:Int)):=by simp[World.cell?,K]
 have S:C.cell? ⟨w.heap.size,3,none⟩=some (Z Y (cT:Int)):=by simp[World.cell?,L]
 have F:=cP (b.trans (l.mono b.size));clear P j r b l K L;cases q with
 |true =>
  go_wp2;go_ret;exact⟨by rw[cO u];rfl,cO F⟩
 |false =>
  by_cases A:cT<=step
  .have G:(cT:Int)<=(step:Int):=by omega
   have y:Hid (Sp.gu cT c step=2):=by show _=_;rw[cO u,cd (by simp),cg A]
   go_wp2;go_ret;exact⟨by rw[cO y];rfl,cO F⟩
  .have G:¬(cT:Int)<=(step:Int):=by omega
   have y:Hid (Sp.gu cT c step=0):=by show _=_;rw[cO u,cd (by simp),cd A]
   go_wp2;go_ret;exact⟨by rw[cO y];rfl,cO F⟩
end
section
open Go.RowKit
theorem rG(step:Nat)(p:Option Addr)(n cap:Nat)(c:Sp.Cfg)(w:TJ)(S:kl w p c n)(T:c.val.length=n)(hn:n<=64):TL prog 41 #[gw step p n cap c.all] w λe U=>TI w U/\∃v,e=.returned v/\U.ownsRow w.heap.size 2 1 v n (c.val.map (Z Y)):=by
 obtain⟨t,E,F,G,H⟩:=fa info_i64;have s:=cP S;have I:=cP T;clear S T;unfold gw;have J:TI w (w.alloc (.cells #[Z Y (step:Int),.slice p n cap,Z Y c.all] 80)):=TH.alloc TG _;have m:=ee w (.cells #[Z Y (step:Int),.slice p n cap,Z Y c.all] 80);go_enter func41,ntmps41;go_wp2_with fail;generalize o:World.alloc _ _=V at *;have HZ:=cP m;clear o m
 go_loopw [3,9] (λvv i wr=>∃(k:Nat) (v:TK),k<=n/\i=Z Y k/\vv=v/\Hid (wr.ownsRow (w.heap.size+1) 2 1 v k ((c.val.take k).map (Z Y)))/\Below (w.heap.size+1) V wr) (λ_ i _=>n-(intOf i).toNat)
 case atStart=>exact⟨0,_,cy _,rfl,rfl,fc _ _ _ _,cj _ _⟩
 case round =>
  obtain⟨k,v,hk,rfl,r,W,K⟩:=hrel;obtain rfl:=r.symm;clear r;have y:TI w wr:=J.trans (K.mono (by omega));have L:w.heap.size+1<=wr.heap.size:=by have:=K.size;have:=cO HZ;omega
  by_cases z:k<n
  .have A:(k:Int)<(n:Int):=by omega
   have g0:(0:Int)<=(k:Int):=iJ _;have B:k<c.val.length:=by rw[cO I];exact z
   obtain⟨g,rfl,hg,d0,d1,d2,d3⟩:=((cO s).below y) k z;have M:Hid ((c.val.take (k+1)).map (Z Y)=(c.val.take k).map (Z Y)++[Z Y (c.val.getD k 0)]):=by
    show _=_
    rw[zQ B,Bg,cL,cH B];rfl
   generalize c.val.getD k 0=x0 at *;generalize c.fC.getD k false=x1 at *;generalize c.iK.getD k 0=x2 at *;generalize c.je.getD k 0=x3 at *;have N:=cO W;go_wp2_with (first
    |(at_builtin;go_must (refine wpList_append_lies _ rfl (.tmp 13) (.tmp 16) 30 rfl (w.heap.size+1) 2 t _ 1 8 underlying30 E F G H rfl (by omega) v _ _ rfl ((N.alloc _).alloc _) ⟨wr.heap.size+1,0,none⟩ 1 1 [Z Y x0] rfl rfl (by
      intro j u D
      match j,D with
      |0,D=>simp at D;subst D;simp[Addr.add]) (by simp[Value.oneCell']) (by omega) (by unfold maxLen;omega) (by omega) (by simp;omega) (wr.heap.size+1+1) (by simp) ?_;intro g2 O X l b P C))
    |go_in)
   have Q:Below (w.heap.size+1) V X:=((K.alloc L _).alloc (by simp;omega) _).grown b (by simp;omega) (λq hq=>(N.lt q hq).1);have R:Hid (X.ownsRow (w.heap.size+1) 2 1 (.slice (some ⟨g2,0,none⟩) (k+1) O) (k+1) ((c.val.take (k+1)).map (Z Y))):=by
    show World.ownsRow _ _ _ _ _ _ _
    rw[cO M];exact l
   clear l b P C N;go_roundw
   case rel=>exact⟨k+1,_,by omega,by go_num,rfl,R,Q⟩
   case measure=>simp[intOf];omega
  .obtain rfl:k=n:=by omega
   have A:¬(k:Int)<(k:Int):=by omega
   have HE:Hid (wr.ownsRow w.heap.size 2 1 v k (c.val.map (Z Y))):=by
    have h:=fA (cO W) (px w.heap.size);rw[<-cO I,wI,cO I] at h;exact h
   go_wp2;go_ret;exact⟨y,v,rfl,cO HE⟩
end
section
open Go.RowKit
theorem info_vertex:(prog.info? 104).map (λi=>(i.zero,i.size,i.bytes))=some (some (.agg #[Z Y 0,.bool false,Z Y 0,Z Y 0]),4,32):=by kernel_rfl
def jm(V:List Int)(R:List Bool)(G I:List Int)(k:Nat):List TK:=(List.range k).flatMap λm=>[Z Y (V.getD m 0),.bool (R.getD m false),Z Y (G.getD m 0),Z Y (I.getD m 0)]
theorem mo(V:List Int)(R:List Bool)(G I:List Int)(k:Nat):jm V R G I (k+1)=jm V R G I k++[Z Y (V.getD k 0),.bool (R.getD k false),Z Y (G.getD k 0),Z Y (I.getD k 0)]:=by
 unfold jm;rw[List.range_succ,LV];simp
structure Ds (w:TJ) (C:Nat) (step:Int) (sl:TK) (all:Int) (n:Nat) (xs:List TK):Prop where
 c0:w.cell? ⟨C,0,none⟩=some (Z Y step)
 c1:w.cell? ⟨C,1,none⟩=some sl
 c2:w.cell? ⟨C,2,none⟩=some (Z Y all)
 fz:∀j,w.frozen? ⟨C,j,none⟩=false
 o:w.ownsRow (C+1) 104 4 sl n xs
variable {n C:Nat}{all step:Int}{w:TJ}{sl:TK}{xs:List TK}
theorem Ds.lt(h:Ds w C step sl all n xs): C<w.heap.size:=cE w _ h.c0
theorem Ds.below{w':TJ}(h:Ds w C step sl all n xs)(hb:TI w w'): Ds w' C step sl all n xs:=⟨(hb.cell (p:=⟨C,0,none⟩) h.lt).trans h.c0,(hb.cell (p:=⟨C,1,none⟩) h.lt).trans h.c1,(hb.cell (p:=⟨C,2,none⟩) h.lt).trans h.c2,λj=>(hb.frozen (p:=⟨C,j,none⟩) h.lt).trans (h.fz j),cW h.o hb⟩
theorem Ds.new{t:Nat}(h:w.heap[C]?=some (.cells #[Z Y step,.slice none 0 0,Z Y all] t)): Ds w C step (.slice none 0 0) all 0 []:=⟨by simp[World.cell?,h],by simp[World.cell?,h],by simp[World.cell?,h],λj=>by simp[World.frozen?,h],fc _ _ _ _⟩
theorem Ds.app{l:TJ}{b:TK}{ys:List TK}(h:Ds w C step sl all n xs)(u:w.grownBy l sl.ownBlock)(z:l.ownsRow (C+1) 104 4 b (n+1) ys): Ds (l.setCell ⟨C,1,none⟩ b) C step b all (n+1) ys:=by
 have y:=h.lt;have m:some C≠sl.ownBlock:=λe=>by have:=(h.o.lt C e.symm).1;omega
 have r:∀j,l.cell? ⟨C,j,none⟩=w.cell? ⟨C,j,none⟩:=λj=>u.cell_far ⟨C,j,none⟩ y m
 exact⟨(cR (by omega)).trans ((r 0).trans h.c0),mm _ _ _ ((r 1).trans h.c1),(cR (by omega)).trans ((r 2).trans h.c2),λj=>(kX _ _ _ _).trans ((u.frozen_far ⟨C,j,none⟩ y m).trans (h.fz j)),((ey.refl C l).set _ _).own z⟩
end
section
open Go.RowKit
theorem LO(V:List Int)(R:List Bool)(G I:List Int):∀n,(jm V R G I n).length=n*4:=by
 intro n
 induction n with
 |zero=>rfl
 |succ n b=>rw[mo,lN,b];simp;omega
theorem DC(V:List Int)(R:List Bool)(G I:List Int):∀n k,k<n->(jm V R G I n)[k*4]?=some (Z Y (V.getD k 0))/\(jm V R G I n)[k*4+1]?=some (.bool (R.getD k false))/\(jm V R G I n)[k*4+2]?=some (Z Y (G.getD k 0))/\(jm V R G I n)[k*4+3]?=some (Z Y (I.getD k 0)):=by
 intro n
 induction n with
 |zero=>intro k h;omega
 |succ n e =>
  intro k h;rw[mo];have j:=LO V R G I n;by_cases l:k<n
  .obtain⟨a,b,c,d⟩:=e k l;rw[qa (by omega),qa (by omega),qa (by omega),qa (by omega)];exact⟨a,b,c,d⟩
  .obtain rfl:k=n:=by omega
   rw[cF (by omega),cF (by omega),cF (by omega),cF (by omega),j,Nat.sub_self,Nat.add_sub_cancel_left,Nat.add_sub_cancel_left,Nat.add_sub_cancel_left];exact⟨rfl,rfl,rfl,rfl⟩
theorem gS{w:TJ}{B n:Nat}{sl:TK}{V:List Int}{R:List Bool}{G I:List Int}{all:Int}(h:w.ownsRow B 104 4 sl n (jm V R G I n)):∃p b,sl=.slice p n b/\kl w p ⟨V,R,G,I,all⟩ n:=by
 obtain⟨p,b,u,m⟩:=dd h;refine⟨p,b,u,λk y=>?_⟩;obtain⟨z,A,C,D⟩:=DC V R G I n k y;obtain⟨g,r,_,E,F⟩:=m (k*4) (by omega);obtain⟨H,e,_,_,J⟩:=m (k*4+1) (by omega);obtain⟨K,j,_,_,L⟩:=m (k*4+2) (by omega);obtain⟨M,l,_,_,N⟩:=m (k*4+3) (by omega);have O:H=g:=by rw[r] at e;injection e with q;injection q with q;exact q.symm
 have P:K=g:=by rw[r] at j;injection j with q;injection q with q;exact q.symm
 have Q:M=g:=by rw[r] at l;injection l with q;injection q with q;exact q.symm
 subst O P Q;exact⟨_,r,E,F.trans z,J.trans A,L.trans C,N.trans D⟩
theorem kl.congr{w:TJ}{p:Option Addr}{c b:Sp.Cfg}{n:Nat}(h:kl w p c n)(j:∀k,k<n->b.val.getD k 0=c.val.getD k 0)(l:∀k,k<n->b.fC.getD k false=c.fC.getD k false)(m:∀k,k<n->b.iK.getD k 0=c.iK.getD k 0)(hi:∀k,k<n->b.je.getD k 0=c.je.getD k 0):kl w p b n:=λk e=>by
 rw[j k e,l k e,m k e,hi k e];exact h k e
theorem pJ(w:TJ)(a b:Array TK)(e j:TypeId):∀W,W=(w.alloc (.cells a e)).alloc (.cells b j)->W.heap[w.heap.size]?=some (.cells a e (0,0))/\W.heap[w.heap.size+1]?=some (.cells b j (0,0))/\TI w W/\W.heap.size=w.heap.size+1+1:=by
 rintro W rfl;have l:=ee w (.cells a e);have r:=ee (w.alloc (.cells a e)) (.cells b j);have m:=ct (w.alloc (.cells a e)) (.cells b j);rw[l] at m;refine⟨?_,m,((cj _ w).alloc TG _).alloc (by rw[l];omega) _,by omega⟩;rw[cN _ _ _ (by rw[l];omega)];exact ct w _
end
section
open Go.RowKit
theorem kC{α β : Type}{c d : α->List β}:∀(l:List α),(∀m∈l,c m=d m)->l.flatMap c=l.flatMap d:=by
 intro l
 induction l with
 |nil=>intro _;rfl
 |cons a l e =>
  intro h;rw[Qj,Qj,h a (mz ..),e (λm r=>h m (ts _ r))]
theorem EK(c:Nat->List TK)(e:∀m,(c m).length=4):∀n,((List.range n).flatMap c).length=n*4:=by
 intro n
 induction n with
 |zero=>rfl
 |succ n l =>
  rw[List.range_succ,LV,lN,l];simp[e];omega
theorem pI(c:Nat->List TK)(e:∀m,(c m).length=4)(i r:Nat)(z:r<4)(v:TK):∀n,i<n->((List.range n).flatMap c).set (i*4+r) v=(List.range n).flatMap (λm=>if m=i then (c m).set r v else c m):=by
 intro n
 induction n with
 |zero=>intro h;omega
 |succ n l =>
  intro hi;have u:=EK c e n;rw[List.range_succ,LV,LV];by_cases h:i<n
  .rw[List.set_append_left _ _ (by omega),l h]
   congr 1
   simp only[Qj,List.flatMap_nil,B2];rw[cd (by omega)]
  .obtain rfl:i=n:=by omega
   rw[TA _ _ (by omega),u,Nat.add_sub_cancel_left]
   congr 1
   .apply kC;intro m y;rw[KH] at y;rw[cd (by omega)]
   .simp only[Qj,List.flatMap_nil,B2];simp
variable {i:Nat}
theorem mq{α : Type}(V:List α)(m:Nat)(x d : α)(h:i<V.length): (V.set i x).getD m d=if m=i then x else V.getD m d:=by
 rw[cL,cL];by_cases c:m=i
 .subst c;rw[TB h,cg rfl];rfl
 .rw[RI (Ne.symm c),cd c]
variable {n:Nat}{G I V:List Int}{R:List Bool}
theorem Az(hi:i<n)(e:i<V.length)(x:Int): (jm V R G I n).set (i*4) (Z Y x)=jm (V.set i x) R G I n:=by
 unfold jm;have h:=pI (λm=>[Z Y (V.getD m 0),.bool (R.getD m false),Z Y (G.getD m 0),Z Y (I.getD m 0)]) (λm=>rfl) i 0 (by omega) (Z Y x) n hi;rw[ub] at h;rw[h];apply kC;intro m _;rw[mq V m x 0 e];by_cases c:m=i
 .rw[cg c,cg c];rfl
 .rw[cd c,cd c]
theorem zB(hi:i<n)(e:i<R.length)(x:Bool): (jm V R G I n).set (i*4+1) (.bool x)=jm V (R.set i x) G I n:=by
 unfold jm;rw[pI (λm=>[Z Y (V.getD m 0),.bool (R.getD m false),Z Y (G.getD m 0),Z Y (I.getD m 0)]) (λm=>rfl) i 1 (by omega) (.bool x) n hi];apply kC;intro m _;rw[mq R m x false e];by_cases c:m=i
 .rw[cg c,cg c];rfl
 .rw[cd c,cd c]
theorem Ie(hi:i<n)(e:i<G.length)(x:Int): (jm V R G I n).set (i*4+2) (Z Y x)=jm V R (G.set i x) I n:=by
 unfold jm;rw[pI (λm=>[Z Y (V.getD m 0),.bool (R.getD m false),Z Y (G.getD m 0),Z Y (I.getD m 0)]) (λm=>rfl) i 2 (by omega) (Z Y x) n hi];apply kC;intro m _;rw[mq G m x 0 e];by_cases c:m=i
 .rw[cg c,cg c];rfl
 .rw[cd c,cd c]
theorem zJ(hi:i<n)(e:i<I.length)(x:Int): (jm V R G I n).set (i*4+3) (Z Y x)=jm V R G (I.set i x) n:=by
 unfold jm;rw[pI (λm=>[Z Y (V.getD m 0),.bool (R.getD m false),Z Y (G.getD m 0),Z Y (I.getD m 0)]) (λm=>rfl) i 3 (by omega) (Z Y x) n hi];apply kC;intro m _;rw[mq I m x 0 e];by_cases c:m=i
 .rw[cg c,cg c];rfl
 .rw[cd c,cd c]
structure oS (w:TJ) (C B g cap n:Nat) (step all:Int) (V:List Int) (R:List Bool) (G I:List Int):Prop where
 c0:w.cell? ⟨C,0,none⟩=some (Z Y step)
 c1:w.cell? ⟨C,1,none⟩=some (.slice (some ⟨g,0,none⟩) n cap)
 c2:w.cell? ⟨C,2,none⟩=some (Z Y all)
 fz:∀j,w.frozen? ⟨C,j,none⟩=false
 o:w.ownsRow B 104 4 (.slice (some ⟨g,0,none⟩) n cap) n (jm V R G I n)
 ne:g≠C
variable {B C g cap:Nat}{all step:Int}{w:TJ}
theorem oS.lt(h:oS w C B g cap n step all V R G I): C<w.heap.size:=cE w _ h.c0
theorem oS.Rj(h:oS w C B g cap n step all V R G I): B<=g/\g<w.heap.size:=h.o.lt g rfl
theorem oS.below{w':TJ}(h:oS w C B g cap n step all V R G I)(hb:TI w w'): oS w' C B g cap n step all V R G I:=⟨(hb.cell (p:=⟨C,0,none⟩) h.lt).trans h.c0,(hb.cell (p:=⟨C,1,none⟩) h.lt).trans h.c1,(hb.cell (p:=⟨C,2,none⟩) h.lt).trans h.c2,λj=>(hb.frozen (p:=⟨C,j,none⟩) h.lt).trans (h.fz j),cW h.o hb,h.ne⟩
theorem oS.cells(h:oS w C B g cap n step all V R G I)(hi:i<n):w.cell? ⟨g,i*4,none⟩=some (Z Y (V.getD i 0))/\w.cell? ⟨g,i*4+1,none⟩=some (.bool (R.getD i false))/\w.cell? ⟨g,i*4+2,none⟩=some (Z Y (G.getD i 0))/\w.cell? ⟨g,i*4+3,none⟩=some (Z Y (I.getD i 0)):=by
 obtain⟨e,l,m,r⟩:=DC V R G I n i hi;exact⟨(h.o.cellAt _ (by omega)).trans e,(h.o.cellAt _ (by omega)).trans l,(h.o.cellAt _ (by omega)).trans m,(h.o.cellAt _ (by omega)).trans r⟩
theorem oS.QE(h:oS w C B g cap n step all V R G I)(j:Nat): w.frozen? ⟨g,j,none⟩=false:=h.o.frozenAt j
variable {j:Nat}
theorem oS.store(h:oS w C B g cap n step all V R G I){v:TK}{V':List Int}{R':List Bool}{G' I':List Int}(he:(jm V R G I n).set j v=jm V' R' G' I' n): oS (w.setCell ⟨g,j,none⟩ v) C B g cap n step all V' R' G' I':=by
 have e:=h.ne;refine⟨(dq e).trans h.c0,(dq e).trans h.c1,(dq e).trans h.c2,λj=>(kX _ _ _ _).trans (h.fz j),?_,e⟩;have l:=(h.o.stored j v).1;rw[he] at l;exact l
theorem oS.Pr(h:oS w C B g cap n step all V R G I)(x:Int): oS (w.setCell ⟨C,2,none⟩ (Z Y x)) C B g cap n step x V R G I:=by
 refine⟨(cR (by omega)).trans h.c0,(cR (by omega)).trans h.c1,mm _ _ _ h.c2,λj=>(kX _ _ _ _).trans (h.fz j),?_,h.ne⟩;exact v8 h.o (a:=⟨C,2,none⟩) (λe=>by have l:some g=some C:=e;injection l with l;exact h.ne l) _
structure eI (C g:Nat) (w w':TJ):Prop where
 os:w'.os=w.os
 tape:w'.tape=w.tape
 output:w'.output=w.output
 size:w.heap.size<=w'.heap.size
 block:∀k,k<w.heap.size->k≠C->k≠g->w'.heap[k]?=w.heap[k]?
theorem eI.refl(C g:Nat)(w:TJ):eI C g w w:=⟨rfl,rfl,rfl,b7 _,λ_ _ _ _=>rfl⟩
variable {b a:TJ}
theorem eI.trans{c:TJ}(h:eI C g a b)(k:eI C g b c): eI C g a c:=⟨k.os.trans h.os,k.tape.trans h.tape,k.output.trans h.output,cx h.size k.size,λi hi e l=>(k.block i (dT hi h.size) e l).trans (h.block i hi e l)⟩
theorem eI.gK(h:TI a b): eI C g a b:=⟨h.os,h.tape,h.output,h.size,λk e _ _=>h.block k e⟩
theorem eI.set(h:eI C g a b){q:Nat}(l:q=C\/q=g)(v:TK): eI C g a (b.setCell ⟨q,j,none⟩ v):=⟨h.os,h.tape,h.output,by simp[World.setCell];exact h.size,λk m r u=>(cG _ _ _ k (λe=>by have y:k=q:=e;rcases l with l | l <;> omega)).trans (h.block k m r u)⟩
theorem eI.below{L:Nat}(h:eI C g a b)(h1:L<=C)(h2:L<=g)(e:L<=a.heap.size): Below L a b:=⟨h.os,h.tape,h.output,h.size,λk l=>h.block k (by omega) (by omega) (by omega)⟩
theorem eI.cell(h:eI C g a b){q:Nat}(e:q<a.heap.size)(h1:q≠C)(h2:q≠g): b.cell? ⟨q,j,none⟩=a.cell? ⟨q,j,none⟩:=by
 unfold World.cell?;rw[h.block q e h1 h2]
end
section
open Go.RowKit
theorem info_edges:(prog.info? 66).map (λi=>(i.zero,i.size,i.bytes))=some (some (.slice none 0 0),1,24):=by kernel_rfl
theorem FI(f:Nat->TK)(n i:Nat)(v:TK):((List.range n).map f).set i v=(List.range n).map (λj=>if j=i then v else f j):=by
 apply List.ext_getElem?;intro j;by_cases b:j<n
 .by_cases e:i=j
  .subst e;rw[TB (by simpa using b)];simp[b]
  .rw[RI e];simp[b,Ne.symm e]
 .rw[Tu (by simp;omega),Tu (by simp;omega)]
theorem zg(E:List Sp.Ed)(e:Sp.Ed):dh (E++[e])=dh E++[Z Y (e.de:Int),Z Y (e.vo:Int),Z Y e.n]:=by
 unfold dh;rw[LV];simp
structure sa (w:TJ) (L D n:Nat) (f:Nat->TK) (E:List Sp.Ed):Prop where
 o:w.ownsRow L 66 1 (.slice (some ⟨D,0,none⟩) n n) n ((List.range n).map f)
 own:∀i,i<n->w.ownsRow L 162 3 (f i) (Sp.iG E i).length (dh (Sp.iG E i))
 ap:∀i j,i<n->j<n->i≠j->uH (f i) (f j)
 nd:∀i,i<n->(f i).ownBlock≠some D
variable {n L D:Nat}{w:TJ}{f:Nat->TK}{E:List Sp.Ed}
theorem sa.lt(h:sa w L D n f E): L<=D/\D<w.heap.size:=h.o.lt D rfl
theorem sa.below{w':TJ}(h:sa w L D n f E)(hb:TI w w'): sa w' L D n f E:=⟨cW h.o hb,λi hi=>cW (h.own i hi) hb,h.ap,h.nd⟩
theorem sa.cell(h:sa w L D n f E){i:Nat}(hi:i<n): w.cell? ⟨D,i,none⟩=some (f i):=by
 rw[h.o.cellAt i (by omega)];simp[hi]
theorem sa.app{r:TJ}{g k cap:Nat}(h:sa w L D n f E)(e:Sp.Ed)(he:e.de<n)(G:(Sp.iG E e.de).length=k)(B:w.grownBy r (f e.de).ownBlock)(H:r.ownsRow L 162 3 (.slice (some ⟨g,0,none⟩) (k+1) cap) (k+1) (dh (Sp.iG E e.de)++[Z Y (e.de:Int),Z Y (e.vo:Int),Z Y e.n]))(b:(f e.de).ownBlock=some g\/g=w.heap.size):sa (r.setCell ⟨D,e.de,none⟩ (.slice (some ⟨g,0,none⟩) (k+1) cap)) L D n (λj=>if j=e.de then (.slice (some ⟨g,0,none⟩) (k+1) cap) else f j) (E++[e]):=by
 have J:=h.lt;have y:g≠D:=by
  rintro rfl;rcases b with b|b
  .exact h.nd _ he b
  .omega
 have m:(Value.slice (some ⟨g,0,none⟩) (k+1) cap).ownBlock≠some D:=λq=>by
  have z:some g=some D:=q;injection z with z;exact y z
 refine⟨?_,λi hi=>?_,λi j hi u l=>?_,λi hi=>?_⟩
 .have I:r.ownsRow L 66 1 (.slice (some ⟨D,0,none⟩) n n) n ((List.range n).map f):=h.o.kept B (Or.inr (λq=>h.nd _ he q.symm));have C:=(I.stored e.de (.slice (some ⟨g,0,none⟩) (k+1) cap)).1;rw[FI] at C;exact C
 .by_cases c:i=e.de
  .subst c;rw[cg rfl];have A:Sp.iG (E++[e]) e.de=Sp.iG E e.de++[e]:=by unfold Sp.iG;rw[Dr];simp
   rw[A,zg,lN,G];exact v8 H (a:=⟨D,e.de,none⟩) m _
  .rw[cd c];have A:Sp.iG (E++[e]) i=Sp.iG E i:=by unfold Sp.iG;rw[Dr];simp[Ne.symm c]
   rw[A];exact v8 ((h.own i hi).kept B (h.ap i _ hi he c)) (a:=⟨D,e.de,none⟩) (h.nd i hi) _
 .by_cases c:i=e.de
  .subst c;rw[cg rfl,cd (λq=>l q.symm)];exact(h.ap _ _ hi u l).grown (h.own j u) b
  .rw[cd c];by_cases F:j=e.de
   .subst F;rw[cg rfl];exact((h.ap _ _ u hi (Ne.symm l)).grown (h.own i hi) b).symm
   .rw[cd F];exact h.ap i j hi u l
 .by_cases c:i=e.de
  .subst c;rw[cg rfl];exact m
  .rw[cd c];exact h.nd i hi
def Gl(w:TJ)(pe:Option Addr)(n:Nat)(Es:List Sp.Ed):Prop := ∀i,i<n->∃D p b,pe=some ⟨D,0,none⟩/\D<w.heap.size/\w.cell? ⟨D,i,none⟩=some (.slice p (Sp.iG Es i).length b)/\fY w p (Sp.iG Es i)
theorem Gl.below{w':TJ}{pe:Option Addr}{Es:List Sp.Ed}(h:Gl w pe n Es)(hb:TI w w'): Gl w' pe n Es:=λi hi=>by
 obtain⟨D,p,e,a,b,c,d⟩:=h i hi;have:=hb.size;exact⟨D,p,e,a,by omega,(hb.cell (p:=⟨D,i,none⟩) b).trans c,d.below hb⟩
theorem sa.read(h:sa w L D n f E): Gl w (some ⟨D,0,none⟩) n E:=λi hi=>by
 obtain⟨p,b,e,j⟩:=iF (h.own i hi);exact⟨D,p,b,rfl,h.lt.2,by rw[h.cell hi,e],j⟩
theorem sa.new(h:w.ownsRow L 66 1 (.slice (some ⟨D,0,none⟩) n n) n (List.replicate n (.slice none 0 0))): sa w L D n (λ_=>.slice none 0 0) []:=by
 refine⟨?_,λi hi=>fc _ _ _ _,λi j _ _ _=>Or.inl rfl,λi hi q=>by cases q⟩;have e:(List.range n).map (λ_=>Value.slice none 0 0)=List.replicate n (.slice none 0 0):=by
  rw[List.map_const',List.length_range]
 rw[e];exact h
theorem sa.low{b:Nat}(h:sa w b D n f E)(e:L<=b): sa w L D n f E:=⟨fA h.o e,λi hi=>fA (h.own i hi) e,h.ap,h.nd⟩
theorem sa.Bd{R j:Nat}{v:TK}(h:sa w L D n f E)(b:R<L): sa (w.setCell ⟨R,j,none⟩ v) L D n f E:=⟨cI h.o (a:=⟨R,j,none⟩) b v,λi hi=>cI (h.own i hi) (a:=⟨R,j,none⟩) b v,h.ap,h.nd⟩
def Hf(n:Nat)(Es:List Sp.Ed)(w:TJ)(e:Ending)(w':TJ):Prop:=TI w w'/\∃D f,e=.returned (.slice (some ⟨D,0,none⟩) n n)/\sa w' w.heap.size D n f Es
end
section
open Go.RowKit
theorem tZ(nm:_)(x:Int)(f:TK)(w:TJ):Sem.run prog (Instr.field 152 (.agg #[.string nm,Z Y x,f]) 2) w=.ok f w:=by first|kernel_rfl|rfl
variable {w:TJ}
theorem tH{P:Program}{b:Array Oper}{o:Oper}{a:Act}{K:Act->TJ->Prop}{Q:Exit->Act->TJ->Prop}{E:Prop}(l:o.guard=none)(t:TypeId)(x:Operand)(i:Nat)(j:o.op=Op.field t x i)(v:TK)(m:Sem.run P (Instr.field t (a.eval x) i) w=.ok v w)(h:K (a.put o.dst v) w): if Region.wanted o (yielded b a.tmps)=true then Oper.wp P o a w K Q else E:=by
 have r:Region.wanted o (yielded b a.tmps)=true:=by simp[Region.wanted,l]
 rw[cg r];unfold Oper.wp;have e:(execOp a.eval o).run P w=.ok (.value v) w:=by
  simp[execOp,j,m,Result.andThen]
 rw[e,Oper.upon_value];exact h
theorem Bo{P:Program}{c:Code}{Q:Exit->Act->TJ->Prop}{a:Act}(R:TJ->Prop)(h:∃A:TK->TK->Act,c.wp P (td λx j b=>x=.normal/\∃u1 u2,j=A u1 u2/\R b) a w/\∀u1 u2 b,R b->Q .normal (A u1 u2) b): c.wp P Q a w:=by
 obtain⟨A,l,m⟩:=h;refine Code.wp_mono (λe a w h=>?_) l;obtain⟨rfl,u1,u2,rfl,r⟩:=lA _ _ _ h;exact m _ _ _ r
variable {n:Nat}
theorem oS.drew{C B g cap:Nat}{step all:Int}{V:List Int}{R:List Bool}{G I:List Int}(h:oS w C B g cap n step all V R G I): oS w.drew C B g cap n step all V R G I:=h.below TH.drew
theorem eI.drew{C g:Nat}{a b:TJ}(h:eI C g a b):eI C g a b.drew:=h.trans (eI.gK TH.drew)
theorem AF{s:List (Nat × Int)}{m:Nat × Int}(b:m.1<n): ((List.range n).map (Sp.gZ s)).set m.1 (Sp.gZ s m.1+1)=(List.range n).map (Sp.gZ (s++[m])):=by
 rw[Sp.pX];apply Sp.oh;intro q _;rw[Sp.Cc];by_cases c:q=m.1
 .subst c;simp
 .rw[cd c,cd (Ne.symm c)]
theorem A6{P:Sp.Pg}{s:List (Nat × Int)}{m:Nat × Int}(b:m.1<n): ((List.range n).map (Sp.ij P s)).set m.1 (Sp.jn P.pK (Sp.ij P s m.1) m.2)=(List.range n).map (Sp.ij P (s++[m])):=by
 rw[Sp.pX];apply Sp.oh;intro q _;rw[Sp.BM];by_cases c:q=m.1
 .subst c;simp
 .rw[cd c,cd (Ne.symm c)]
def BQ(P:Sp.Pg)(C L g cap n:Nat)(step all:Int)(V:List Int)(R:List Bool)(b:List (Nat × Int))(t:Sp.Tn)(id:Nat)(w:TJ)(e:Ending)(w':TJ):Prop:=e=.returned (.tuple #[])/\eI C g w w'/\oS w' C L g cap n step (Sp.jn P.al all t.lI) (V.set id t.value) (R.set id t.gx) ((List.range n).map (Sp.gZ (b++t.dy))) ((List.range n).map (Sp.ij P (b++t.dy)))
theorem M8(B:Nat)(pf:Option Addr)(n kf:Nat)(pe:Option Addr)(ke cT:Nat)(P:Sp.Pg)(Es:List Sp.Ed)(t:Sp.Tn)(id:Nat)(vm:TK)(C L g cap M:Nat)(step all:Int)(V:List Int)(R:List Bool)(r:List (Nat × Int))(Q w:TJ)(hp:jJ Q B P)(he:Gl Q pe n Es)(hb:TI Q w)(E:id<n)(hn:n<=64)(hc:oS w C L g cap n step all V R ((List.range n).map (Sp.gZ r)) ((List.range n).map (Sp.ij P r)))(bg:Q.heap.size<=C)(bF:Q.heap.size<=L)(hV:V.length=n)(hR:R.length=n)(bG:r.length<=100000)(hm:w.ownsRow M 2 1 vm t.dy.length (t.dy.map λm=>Z Y m.2))(bH:C<M)(bI:g<M)(aJ:t.dy≠[]->t.dy.map Prod.fst=(Sp.iG Es id).map (·.vo))(ht:Sp.MR n t)(bh:(Sp.iG Es id).length<=1000):TL prog 74 #[.agg (dW B pf n kf pe ke cT),.agg #[Z Y t.value,vm,.bool t.gx,Z Y t.lI],Z Y id,.pointer (some ⟨C,0,none⟩)] w (BQ P C L g cap n step all V R r t id w):=by
 generalize hO:BQ P C L g cap n step all V R r t id w=O;replace hO:=cP hO;have HP:=cP hp;have HE:=cP he;have bj:=cP aJ;have HT:=cP ht;have bk:=ht.l;obtain⟨pm,km,rfl,aK⟩:=dd hm;have bn:=cP aK;have F:∀q,pm=some q->M<=q.block/\q.block<w.heap.size:=by
  rintro q rfl;rcases hm.2 with ⟨e,_⟩|⟨g',bE,bJ,e,h1,h2,_⟩
  .cases e
  .injection e with e _ _;injection e with e;subst e;exact⟨h1,(cB.1 h2).1⟩
 have bo:=cP F;have aw:=cP (pJ w (dW B pf n kf pe ke cT) #[Z Y t.value,.slice pm t.dy.length km,.bool t.gx,Z Y t.lI] 75 167);have aL:=cP hc;have bK:=hc.lt;have bL:=hc.Rj;have bM:=hc.ne;have ax:=cP hb;have g0:(0:Int)<=(id:Int):=iJ _;have g1:(id:Int)<(n:Int):=by omega
 obtain⟨m,HM⟩:∃m,Hid (t.dy.length=m):=⟨_,rfl⟩
 rw[cO HM] at aw bk ⊢;clear hp he aJ ht hm aK F hc hb;unfold dW at *;go_enter func74,ntmps74;go_upto_region 1 with fail;generalize hW:World.alloc (World.alloc _ _) _=S;obtain⟨aM,ay,H,bN⟩:=cO aw S hW.symm;have bp:=cP aM;have bq:=cP ay;clear hW aw;have I:=cP ((cO aL).below H);have c1:=(cO I).c1;have d0:=((cO I).cells E).1;have f0:=(cO I).QE (id*4);have t0:S.cell? ⟨w.heap.size+1,0,none⟩=some (Z Y t.value):=by simp[World.cell?,ay]
 clear aM ay;apply mP (λT=>Hid (oS T C L g cap n step all (V.set id t.value) R ((List.range n).map (Sp.gZ r)) ((List.range n).map (Sp.ij P r)))/\Hid (eI C g S T));apply Exists.intro;apply And.intro
 case left =>
  go_region_law fail
  all_goals first
   |exact⟨rfl,rfl,(cO I).store (Az E (by omega) _),(eI.refl C g S).set (Or.inr rfl) _⟩
   |exact⟨rfl,rfl,(cO I).drew.store (Az E (by omega) _),(eI.refl C g S).drew.set (Or.inr rfl) _⟩
   |trace_state
 case right =>
 rintro w1 ⟨J,ai⟩;clear c1 d0 f0 t0 I aL;have c1:=(cO J).c1;have d1:=((cO J).cells E).2.1;have f1:=(cO J).QE (id*4+1);have az:∀U,eI C g S U->U.heap[w.heap.size+1]?=some (.cells #[Z Y t.value,.slice pm m km,.bool t.gx,Z Y t.lI] 167 (0,0)):=λU hq=>(hq.block _ (by omega) (by omega) (by omega)).trans (cO bq)
 have aN:∀U,eI C g S U->U.heap[w.heap.size]?=some (.cells #[.pointer (some ⟨B,0,none⟩),.slice pf n kf,.slice pe n ke,Z Y cT] 75 (0,0)):=λU hq=>(hq.block _ (by omega) (by omega) (by omega)).trans (cO bp)
 have aO:=cP az;have aA:=cP aN;have t2:w1.cell? ⟨w.heap.size+1,2,none⟩=some (.bool t.gx):=by simp[World.cell?,az w1 (cO ai)]
 clear az aN;go_upto_region 2 with fail;apply mP (λT=>Hid (oS T C L g cap n step all (V.set id t.value) (R.set id t.gx) ((List.range n).map (Sp.gZ r)) ((List.range n).map (Sp.ij P r)))/\Hid (eI C g S T));apply Exists.intro;apply And.intro
 case left =>
  go_region_law fail
  all_goals first
   |exact⟨rfl,rfl,(cO J).store (zB E (by omega) _),(cO ai).set (Or.inr rfl) _⟩
   |exact⟨rfl,rfl,(cO J).drew.store (zB E (by omega) _),(cO ai).drew.set (Or.inr rfl) _⟩
   |trace_state
 case right =>
 rintro w2 ⟨aP,aB⟩;clear c1 d1 f1 t2 J ai;have t1:w2.cell? ⟨w.heap.size+1,1,none⟩=some (.slice pm m km):=by simp[World.cell?,cO aO w2 (cO aB)]
 have aQ:Hid (oS w2 C L g cap n step all (V.set id t.value) (R.set id t.gx) ((List.range n).map (Sp.gZ (r++t.dy.take 0))) ((List.range n).map (Sp.ij P (r++t.dy.take 0)))):=by
  show oS _ _ _ _ _ _ _ _ _ _ _ _
  rw[List.take_zero,B2];exact cO aP
 clear aP;go_wp2_with fail
 go_loopw [32] (λi wr=>∃k:Nat,k<=m/\i=Z Y k/\Hid (oS wr C L g cap n step all (V.set id t.value) (R.set id t.gx) ((List.range n).map (Sp.gZ (r++t.dy.take k))) ((List.range n).map (Sp.ij P (r++t.dy.take k))))/\Hid (eI C g S wr)) (λi _=>m-(intOf i).toNat)
 case atStart=>exact⟨0,cy _,rfl,aQ,aB⟩
 case round =>
  clear aQ aB t1;obtain⟨k,hk,rfl,HC,X⟩:=hrel;have K:TI Q wr:=((cO ax).trans (H.mono (cO ax).size)).trans ((cO X).below bg (by omega) (by have:=(cO ax).size;omega));have j0:wr.cell? ⟨w.heap.size,0,none⟩=some (.pointer (some ⟨B,0,none⟩)):=by simp[World.cell?,cO aA wr (cO X)]
  by_cases br:k<m
  .have aR:(k:Int)<(m:Int):=by omega
   have k0:(0:Int)<=(k:Int):=iJ _;have N:k<t.dy.length:=by rw[cO HM];exact br
   have bs:t.dy≠[]:=λe=>by rw[e] at N;simp at N
   have aa:=cO bj bs;have aS:(Sp.iG Es id).length=t.dy.length:=by have:=congrArg List.length aa;simpa using this.symm
   have aC:k<(Sp.iG Es id).length:=by omega
   have aq:(Sp.iG Es id)[k].vo=t.dy[k].1:=by
    have h:=congrArg (λl=>l[k]?) aa;simp only[K1,cH N,cH aC,Option.map_some] at h;injection h with h;exact h.symm
   have b:t.dy[k].1<n:=((cO HT).s _ (pY N)).1;obtain⟨gm,aT,aU,ar,mc⟩:=cO bn k (by omega);have F:=cO bo _ aT;have aV:wr.cell? ⟨gm,k,none⟩=some (Z Y t.dy[k].2):=by
    rw[(cO X).cell (q:=gm) (by have:=H.size;omega) (by simp at F;omega) (by simp at F;omega),H.cell (p:=⟨gm,k,none⟩) ar,mc];simp[N]
   obtain⟨D,pp,ce,aW,hD,dc,aX⟩:=((cO HE).below K) id E;obtain⟨ge,aY,bO,_,ec,_⟩:=aX k aC;rw[aq] at ec;have aZ:Hid (t.dy.take (k+1)=t.dy.take k++[t.dy[k]]):=zQ N;have bu:=cP (cO HC).o;have j2:wr.cell? ⟨w.heap.size,2,none⟩=some (.slice (some ⟨D,0,none⟩) n ke):=by rw[<-aW];simp[World.cell?,cO aA wr (cO X)]
   obtain⟨le,a1⟩:∃le,(Sp.iG Es id).length=le:=⟨_,rfl⟩
   rw[a1] at dc aC bh;rw[aY] at dc;subst aT;have a6:gm<wr.heap.size:=by have:=H.size;have:=(cO X).size;simp at F;omega
   have c1:=(cO HC).c1;have kz:(k:Int)<(le:Int):=by omega
   obtain⟨A,aD⟩:∃A,t.dy[k]=A:=⟨_,rfl⟩
   rw[aD] at aV ec b aZ;have bP:=cP aD;clear aD aa aS aq aW aY aX F mc aU ar a1;have bQ:(A.1:Int)<(n:Int):=by omega
   have bR:(0:Int)<=(A.1:Int):=iJ _;go_upto_region 6 with fail
   go_quiet (fail)
   generalize a7:World.drewN wr _=W6;have aj:TI wr W6:=by rw[<-a7];exact below_drewN _ _
   have ak:=cP ((cO HC).below aj);have a8:=cP ((cO X).trans (eI.gK aj));have au:TI Q W6:=K.trans (aj.mono K.size);clear a7 aj c1 j0 j2 aV dc ec HC X K a6 bu;have y2:=((cO ak).cells b).2.2.1;have f2:=(cO ak).QE (A.1*4+2);rw[Sp.jI _ b] at y2;have bw:=Sp.AH (r++t.dy.take k) A.1;have ba:(r++t.dy.take k).length<=200000:=by rw[lN,A3];omega
   have bc:=cP (AF (s:=r++t.dy.take k) (n:=n) b);have an:=cP (A6 (P:=P) (s:=r++t.dy.take k) (n:=n) b);rw[mR,<-cO aZ] at bc an;generalize Sp.gZ (r++t.dy.take k) A.1=x at *;have bx:IntKind.i64.wrap (x+1)=x+1:=by rw[fp];omega
   clear bw ba;go_upto_region 8 with fail;have G:=cP ((cO ak).store (Ie b (by simp;exact b) (x+1)));have ao:=cP ((cO a8).set (q:=g) (j:=A.1*4+2) (Or.inr rfl) (Z Y (x+1)));have ab:=au.setCell (p:=⟨g,A.1*4+2,none⟩) (show Q.heap.size<=g by omega) (Z Y (x+1));rw[cO bc] at G;clear y2 f2 bx ak a8 au;generalize World.setCell _ _ _=W7 at G ao ab ⊢;have y3:=((cO G).cells b).2.2.2;rw[Sp.jI _ b] at y3;have f3:=(cO G).QE (A.1*4+3);have j0:W7.cell? ⟨w.heap.size,0,none⟩=some (.pointer (some ⟨B,0,none⟩)):=by simp[World.cell?,cO aA W7 (cO ao)]
   have bd:=(cO G).Rj;obtain⟨jb,HJ⟩:∃jb,Hid (Sp.jn P.pK (Sp.ij P (r++t.dy.take k) A.1) A.2=jb):=⟨_,rfl⟩
   rw[cO HJ] at an;generalize Sp.ij P (r++t.dy.take k) A.1=z at *;obtain⟨nb,aE⟩:∃nb,Hid (Sp.eN P.pK=nb):=⟨_,rfl⟩
   have aF:Hid (∀W,TI W7 W->TL prog 76 #[.pointer (some ⟨B,0,none⟩)] W (oH P.pK W)):=by
    show ∀W,_
    intro W hW;exact H5 B P W ((cO HP).below (ab.trans (hW.mono ab.size)))
   have aG:Hid (∀(args:Array TK) (w:TJ),(callFunc 76 args).run prog w=.ok (.enter 76 args) w):=cV func76 (by kernel_rfl) (by kernel_rfl);apply Bo (λT=>Hid (oS T C L g cap n step all (V.set id t.value) (R.set id t.gx) ((List.range n).map (Sp.gZ (r++t.dy.take (k+1)))) ((List.range n).map (Sp.ij P (r++t.dy.take (k+1)))))/\Hid (eI C g S T));apply Exists.intro;apply And.intro
   case left =>
    go_region_law (first
    |(refine di (by rfl) _ _ _ (by rfl) 76 (by rfl) _ (by rfl) (cO aG) (cO aF _ (by first|exact cj _ _|exact TH.drew)) ?_;rintro e U ⟨ad,F2,he,ae,u⟩;rw[cO aE] at he;obtain rfl:=he.symm;dsimp only;have y:TI W7 U:=(by first|exact u|exact TH.drew.trans (u.mono TG));have q1:=(y.cell (p:=⟨g,A.1*4+3,none⟩) bd.2).trans y3;have q2:=(y.frozen (p:=⟨g,A.1*4+3,none⟩) bd.2).trans f3;have af:=cP ae;have q5:=cP y;have q6:∀W,Sem.run prog (Instr.field 152 (.agg #[.string ad,Z Y nb,.func (.func F2) #[] #[]]) 2) W=.ok (.func (.func F2) #[] #[]) W:=tZ _ _ _;clear y u ae)
     |(refine tH (by rfl) _ _ _ (by rfl) _ (tZ _ _ _ _) ?_)
    |(refine di (by rfl) _ _ _ (by rfl) F2 (by rfl) #[Z Y z,Z Y A.2] (by rfl) (cO af).enter ((cO af).calls z A.2 _) ?_;rintro e bA ⟨ag,ah⟩;rw[cO HJ] at ag;obtain rfl:=ag.symm;obtain rfl:=ah.symm;dsimp only))
    all_goals
     generalize Value.agg #[.string ad,Z Y nb,.func (.func F2) #[] #[]]=u1;generalize Value.func (.func F2) #[] #[]=u2
     first
      |exact⟨rfl,u1,u2,rfl,by show oS _ _ _ _ _ _ _ _ _ _ _ _;rw[<-cO an];exact((cO G).below (cO q5)).store (zJ b (by simp;exact b) jb),((cO ao).trans (eI.gK (cO q5))).set (Or.inr rfl) _⟩
      |exact⟨rfl,u1,u2,rfl,by show oS _ _ _ _ _ _ _ _ _ _ _ _;rw[<-cO an];exact(((cO G).below (cO q5)).store (zJ b (by simp;exact b) jb)).drew,(((cO ao).trans (eI.gK (cO q5))).set (Or.inr rfl) _).drew⟩
      |trace_state
   case right =>
   rintro u1 u2 w8 ⟨aH,aI⟩;go_wp2;go_roundw
   case rel=>exact⟨k+1,by omega,by go_num,aH,aI⟩
   case measure=>simp[intOf];omega
  .have aR:¬(k:Int)<(m:Int):=by omega
   have bB:k=t.dy.length:=by rw[cO HM];omega
   rw[bB,wI] at HC;have c2:=(cO HC).c2;have f2:=(cO HC).fz 2;have av:=(cO HC).lt;have t3:wr.cell? ⟨w.heap.size+1,3,none⟩=some (Z Y t.lI):=by simp[World.cell?,cO aO wr (cO X)]
   have bC:w.heap.size+1<wr.heap.size:=by have:=(cO X).size;omega
   obtain⟨jb,HJ⟩:∃jb,Hid (Sp.jn P.al all t.lI=jb):=⟨_,rfl⟩
   obtain⟨nb,aE⟩:∃nb,Hid (Sp.eN P.al=nb):=⟨_,rfl⟩
   have aF:Hid (∀W,TI wr W->TL prog 75 #[.pointer (some ⟨B,0,none⟩)] W (oH P.al W)):=by
    show ∀W,_
    intro W hW;exact Dc B P W ((cO HP).below (K.trans (hW.mono K.size)))
   have aG:Hid (∀(args:Array TK) (w:TJ),(callFunc 75 args).run prog w=.ok (.enter 75 args) w):=cV func75 (by kernel_rfl) (by kernel_rfl);go_upto_region 10 with fail;apply Bo (λT=>Hid (oS T C L g cap n step jb (V.set id t.value) (R.set id t.gx) ((List.range n).map (Sp.gZ (r++t.dy))) ((List.range n).map (Sp.ij P (r++t.dy))))/\Hid (eI C g S T));apply Exists.intro;apply And.intro
   case left =>
    go_region_law (first
    |(refine di (by rfl) _ _ _ (by rfl) 75 (by rfl) _ (by rfl) (cO aG) (cO aF _ (by first|exact cj _ _|exact TH.drew)) ?_;rintro e U ⟨ad,F2,he,ae,u⟩;rw[cO aE] at he;obtain rfl:=he.symm;dsimp only;have y:TI wr U:=(by first|exact u|exact TH.drew.trans (u.mono TG));have q1:=(y.cell (p:=⟨C,2,none⟩) av).trans c2;have q2:=(y.frozen (p:=⟨C,2,none⟩) av).trans f2;have q3:=(y.cell (p:=⟨w.heap.size+1,3,none⟩) bC).trans t3;have af:=cP ae;have q5:=cP y;have q6:∀W,Sem.run prog (Instr.field 152 (.agg #[.string ad,Z Y nb,.func (.func F2) #[] #[]]) 2) W=.ok (.func (.func F2) #[] #[]) W:=tZ _ _ _;clear y u ae)
     |(refine tH (by rfl) _ _ _ (by rfl) _ (tZ _ _ _ _) ?_)
    |(refine di (by rfl) _ _ _ (by rfl) F2 (by rfl) #[Z Y all,Z Y t.lI] (by rfl) (cO af).enter ((cO af).calls all t.lI _) ?_;rintro e bA ⟨ag,ah⟩;rw[cO HJ] at ag;obtain rfl:=ag.symm;obtain rfl:=ah.symm;dsimp only))
    all_goals
     generalize Value.agg #[.string ad,Z Y nb,.func (.func F2) #[] #[]]=u1;generalize Value.func (.func F2) #[] #[]=u2
     first
      |exact⟨rfl,u1,u2,rfl,((cO HC).below (cO q5)).Pr jb,((cO X).trans (eI.gK (cO q5))).set (Or.inl rfl) _⟩
      |exact⟨rfl,u1,u2,rfl,(((cO HC).below (cO q5)).Pr jb).drew,(((cO X).trans (eI.gK (cO q5))).set (Or.inl rfl) _).drew⟩
      |trace_state
   case right =>
   rintro u1 u2 w8 ⟨aH,aI⟩;have bD:Hid (O (.returned (.tuple #[])) w8):=by
    show O _ _
    rw[<-cO hO];exact⟨rfl,(eI.gK H).trans (cO aI),by rw[cO HJ];exact cO aH⟩
   go_wp2;exact cr (v := .tuple #[]) (by simp[results,results74,go_sem]) rfl (cO bD)
end
end Go.Proofs.YtgkkdpegcieakaaGreatDoor
