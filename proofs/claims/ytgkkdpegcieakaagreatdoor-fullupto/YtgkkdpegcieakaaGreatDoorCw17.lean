import Derived.Test.YtgkkdpegcieakaaGreatDoorCw16
set_option linter.all false
set_option maxRecDepth 100000
set_option maxHeartbeats 16000000
namespace Go.Proofs.YtgkkdpegcieakaaGreatDoor
open Go.Proofs.Tryz
open Value renaming int→Z,slice→J,string→H,pointer→WV,bool→WW,tuple→WX,agg→WY
open Ending renaming returned→WZ
open Obj renaming cells→D
open Option renaming none→U,some→S
open Bool renaming true→W8,false→W9
open Or renaming inl→Xa,inr→Xb
open List renaming length→Xg
open _root_.Array renaming size→K
open World renaming heap→E
open IntKind renaming i64→Y
open Go renaming World→WR,Value→WS,Calls→WT
open Go.RowKit
namespace Pk
open Sd (Tb)
open Dk (Kept dv eT dN cU eD eV)
structure Fl where
 bytes:WU
 safe:Nat
structure Ch where
 gone:WU
 name:WU
 file:Option Nat
structure Dv where
 q:Int
 names:Tb
 safe:Tb
 dW:List Ch
 fs:List Nat
 F:Nat->Fl
 vb:Nat->WS
 vn:WS
 vs:WS
 vc:WS
 left:Int
 mi:Bool
 down:Bool
def byteCells(b:WU):List WS:=b.data.toList.map λx=>Z .u8 x.toNat
theorem pT(b:WU):(byteCells b).length=b.size:=by unfold byteCells;rw[UX,Va];rfl
def ib(L:List Ch):List WS:=L.flatMap λc=>[H c.gone,H c.name,eV c.file]
def Dv.cells(d:Dv):Array WS := #[Z Y d.q,d.vn,d.vs,d.vc,Z Y d.left,WW d.mi,WW d.down]
structure rH (w:WR) (f:Nat) (X:Fl) (v:WS):Prop where
 blk:w.heap[f]?=S (D #[v,Z Y X.safe] 127 (0,0))
 row:w.ownsRow 0 5 1 v X.bytes.size (byteCells X.bytes)
structure kK (w:WR) (D:Nat) (d:Dv):Prop where
 blk:w.heap[D]?=S (.cells d.cells 64 (0,0))
 rn:w.ownsRow 0 194 2 d.vn (Xg d.names) (Dk.cU d.names)
 rs:w.ownsRow 0 194 2 d.vs (Xg d.safe) (Dk.cU d.safe)
 rc:w.ownsRow 0 129 3 d.vc (Xg d.dW) (ib d.dW)
 sn:Sd.di d.names
 ss:Sd.di d.safe
 apart:∀g,d.vn.ownBlock=S g->d.vs.ownBlock≠S g
 files:∀f,f∈d.fs->rH w f (d.F f) (d.vb f)
 fap:∀f f',f∈d.fs->f'∈d.fs->f≠f'->∀g,(d.vb f).ownBlock=S g->(d.vb f').ownBlock≠S g
 Hb:∀p,p∈d.names->p.2∈d.fs
 QS:∀p,p∈d.safe->p.2∈d.fs
 Qp:∀c,c∈d.dW->∀f,c.file=S f->f∈d.fs
variable {w:WR}
theorem cV{b:Nat}{o:Obj}(h:w.heap[b]?=S o): b<K (E w):=(Ug.1 h).1
theorem de{a b:Nat}{x y:Array WS}{t u:TypeId}{p q:Nat × Nat}(h:w.heap[a]?=S (D x t p))(k:w.heap[b]?=S (D y u q))(ht:t≠u): a≠b:=λe=>by
 subst e;rw[h] at k;injection k with k;injection k with _ k;exact ht k
variable {size n g e B:Nat}{v:WS}{xs:List WS}
theorem dh(h:w.ownsRow B e size v n xs)(l:v.ownBlock=S g): ∃b,w.heap[g]?=S (D b e (0,0))/\B<=g:=by
 rcases h.2 with ⟨rfl,_⟩|⟨m,r,b,rfl,u,j,_⟩
 .simp[Value.ownBlock] at l
 .have:m=g:=by simpa [Value.ownBlock] using l
  subst this;exact⟨b,j,u⟩
theorem jK(h:w.ownsRow B e size v n xs)(b:v.ownBlock=S g): g<K (E w):=by
 obtain⟨j,l,_⟩:=dh h b;exact cV l
theorem lA{y:Nat}(h:w.ownsRow B e size v n xs)(z:y<=B): w.ownsRow y e size v n xs:=by
 obtain⟨A,b⟩:=h;refine⟨A,?_⟩;rcases b with b|⟨g,j,l,C,m,u,r⟩
 .exact .inl b
 .exact .inr ⟨g,j,l,C,Uc z m,u,r⟩
theorem gw(h:w.ownsRow B e size v n xs): ∃p b,v=J p n b:=by
 rcases h.2 with ⟨rfl,j⟩|⟨g,b,l,rfl,_⟩
 .exact⟨U,0,by rw[j]⟩
 .exact⟨_,b,O⟩
variable {w':WR}{f:Nat}{X:Fl}
theorem rH.below(h:rH w f X v)(hb:WQ w w'): rH w' f X v:=⟨(hb.block f (cV h.blk)).trans h.blk,dd h.row hb⟩
theorem rH.kept{b:Nat->Prop}(h:rH w f X v)(j:Kept w w' b)(h1:b f)(h2:∀g,v.ownBlock=S g->b g): rH w' f X v:=⟨(j.block f (cV h.blk) h1).trans h.blk,dv h.row j h2⟩
theorem rH.own(h:rH w f X v)(j:v.ownBlock=S g): ∃b,w.heap[g]?=S (D b 5 (0,0)):=by
 obtain⟨b,l,_⟩:=dh h.row j;exact⟨b,l⟩
variable {d:Dv}
theorem kK.below{b:Nat}(h:kK w b d)(hb:WQ w w'): kK w' b d:=⟨(hb.block b (cV h.blk)).trans h.blk,dd h.rn hb,dd h.rs hb,dd h.rc hb,h.sn,h.ss,h.apart,λf j=>(h.files f j).below hb,h.fap,h.Hb,h.QS,h.Qp⟩
def mZ(b:Nat)(d:Dv)(k:Nat):Prop:=k=b\/d.vn.ownBlock=S k\/d.vs.ownBlock=S k\/d.vc.ownBlock=S k\/∃f,f∈d.fs/\(k=f\/(d.vb f).ownBlock=S k)
theorem EH{b:Nat}(h:kK w b d){k:Nat}(l:mZ b d k): k<K (E w):=by
 rcases l with rfl|e|e|e|⟨f,j,e|e⟩
 .exact cV h.blk
 .exact jK h.rn e
 .exact jK h.rs e
 .exact jK h.rc e
 .subst e;exact cV (h.files _ j).blk
 .exact jK (h.files f j).row e
structure oO (w w':WR) (D:Nat) (d d':Dv):Prop where
 at':kK w' D d'
 kept:Kept w w' (λk=>¬mZ D d k)
 own:∀k,mZ D d' k->mZ D d k\/K (E w)<=k
theorem oO.below{b:Nat}(h:kK w b d)(hb:WQ w w'): oO w w' b d d:=⟨h.below hb,Kept.below hb _,λk j=>Xa j⟩
theorem oO.trans{l m:WR}{b:Nat}{d1 d2:Dv}(h:oO w l b d d1)(k:oO l m b d1 d2): oO w m b d d2:=by
 have y:=h.kept.size;refine⟨k.at',⟨k.kept.os.trans h.kept.os,k.kept.tape.trans h.kept.tape,k.kept.output.trans h.kept.output,Uc y k.kept.size,λi hi r=>?_⟩,λi hi=>?_⟩
 .rw[k.kept.block i (by omega) (λj=>by rcases h.own i j with u | u;exact r u;omega),h.kept.block i hi r]
 .rcases k.own i hi with j|j
  .exact h.own i j
  .exact Xb (by omega)
theorem kK.Sa{b:Nat}(h:kK w b d){s:Nat}(j:w.ownsRow B e s v n xs)(he:e≠64): v.ownBlock≠S b:=λl=>by
 obtain⟨x,m,_⟩:=dh j l;exact de m h.blk he O
theorem kK.set{W:WR}{j:Nat}{m:Dv}(h:kK w j d)(u:Kept w W (λk=>k≠j))(hb:W.heap[j]?=S (D m.cells 64 (0,0)))(A:m.names=d.names)(y:m.safe=d.safe)(C:m.dW=d.dW)(G:m.fs=d.fs)(I:m.F=d.F)(L:m.vb=d.vb)(M:m.vn=d.vn)(N:m.vs=d.vs)(P:m.vc=d.vc): oO w W j d m:=by
 obtain⟨q,a,b,c,f,F,x,i,t,p,l,o,dn⟩:=m;simp only at A y C G I L M N P;subst A y C G I L M N P;have r:∀{e s n:Nat} {v:WS} {xs:List WS},w.ownsRow 0 e s v n xs->e≠64->W.ownsRow 0 e s v n xs:=λQ R=>dv Q u (λg T y=>by subst y;exact h.Sa Q R T)
 refine⟨⟨hb,r h.rn (by decide),r h.rs (by decide),r h.rc (by decide),h.sn,h.ss,h.apart,λf z=>⟨?_,r (h.files f z).row (by decide)⟩,h.fap,h.Hb,h.QS,h.Qp⟩,u.mono (λk _ V e=>V (Xa e)),λk u=>Xa u⟩;rw[u.block f (cV (h.files f z).blk) (de (h.files f z).blk h.blk (by decide))];exact(h.files f z).blk
def d0(q:Int):Dv:=⟨q,[],[],[],[],λ_=>⟨⟨#[]⟩,0⟩,λ_=>J U 0 0,J U 0 0,J U 0 0,J U 0 0,0,W9,W9⟩
theorem KX(q:Int)(w:WR):WT prog 21 #[Z Y q] w λe w'=>e=WZ (WY (d0 q).cells)/\WQ w w'/\(K (E w'))=K (E w)+1:=by
 go_enter func21,ntmps21;go_wp2;refine T8 (v := WY (d0 q).cells) (by simp[results,results21,go_sem,d0,Dv.cells]) O ⟨O,?_,by simp⟩;exact(T4 _ w).alloc WN _
theorem A3(q:Int)(w:WR):WT prog 6 #[Z Y q] w λe w'=>e=WZ (WV (S ⟨K (E w)+1,0,U⟩))/\WQ w w'/\kK w' (K (E w)+1) (d0 q):=by
 go_enter func6,ntmps6;go_wp2_with fail;refine(KX q w).mono ?_;rintro e j ⟨rfl,l,m⟩;unfold Dv.cells d0;go_wp2;go_ret;have b:=T9 j (D (d0 q).cells 64);rw[m] at b;exact⟨rfl,l.alloc (by omega) _,⟨b,Uw _ _ _ _,Uw _ _ _ _,Uw _ _ _ _,List.Pairwise.nil,List.Pairwise.nil,λg h=>by simp[d0,Value.ownBlock] at h,λf h=>(by cases h),λf r h=>(by cases h),λp h=>(by cases h),λp h=>(by cases h),λp h=>(by cases h)⟩⟩
def Dv.up(d:Dv):Bool := !(d.down || (d.mi&&decide (d.left=0)))
def Dv.dY(d:Dv):Dv:=if d.mi=W8 then { d with down:=d.down || decide (d.left=0),left:=wrap64 (d.left-1) } else d
theorem kK.cell{b:Nat}(h:kK w b d): w.cell? ⟨b,0,U⟩=S (Z Y d.q)/\w.cell? ⟨b,1,U⟩=S d.vn/\w.cell? ⟨b,2,U⟩=S d.vs/\w.cell? ⟨b,3,U⟩=S d.vc/\w.cell? ⟨b,4,U⟩=S (Z Y d.left)/\w.cell? ⟨b,5,U⟩=S (WW d.mi)/\w.cell? ⟨b,6,U⟩=S (WW d.down):=by
 refine⟨?_,?_,?_,?_,?_,?_,?_⟩ <;> (rw[T5 w b _ _ _ _ h.blk];rfl)
theorem kK.fz{b:Nat}(h:kK w b d)(j:Nat): w.frozen? ⟨b,j,U⟩=W9:=by simp[World.frozen?,h.blk]
theorem BI(w:WR)(b j:Nat)(u:WS):Kept w (w.setCell ⟨b,j,U⟩ u) (λk=>k≠b):=(Kept.refl w _).setCell (λl=>l O) _
theorem l6(b:Nat)(d:Dv)(w:WR)(h:kK w b d):WT prog 136 #[WV (S ⟨b,0,U⟩)] w λe w'=>e=WZ (WW d.up)/\oO w w' b d d.dY/\(K (E w'))=K (E w):=by
 obtain⟨_,_,_,_,T,V,W⟩:=h.cell;have f4:=h.fz 4;have f6:=h.fz 6;have j:=cT h;have Q:=h.blk;have z:=cT Q;clear h Q;obtain⟨q,A,C,G,I,F,L,M,N,P,l,t,R⟩:=d;simp only at T V W;cases t with
 |false =>
  cases R with
  |true =>
   go_enter func136,ntmps136;go_wp2;go_ret;exact⟨O,oO.below (cS j) (T4 _ _),O⟩
  |false =>
   go_enter func136,ntmps136;go_wp2;go_ret;exact⟨O,oO.below (cS j) (T4 _ _),O⟩
 |true =>
  cases R with
  |true =>
   go_enter func136,ntmps136;go_wp2;go_ret;refine⟨O,(cS j).set ?_ ?_ O O O O O O O O O,by simp⟩
   .exact(BI w b 6 _).setCell (λm=>m O) _
   .have r:=Ue w b 6 _ _ (WW W8) (cS z);have u:=Ue _ b 4 _ _ (Z Y (wrap64 (l-1))) r;exact u
  |false =>
   by_cases y:l=0
   .subst y;go_enter func136,ntmps136;go_wp2;go_ret;refine⟨O,(cS j).set ?_ ?_ O O O O O O O O O,by simp⟩
    .exact(BI w b 6 _).setCell (λm=>m O) _
    .have r:=Ue w b 6 _ _ (WW W8) (cS z);have u:=Ue _ b 4 _ _ (Z Y (-1)) r;have s:wrap64 (0-1) = -1:=by unfold wrap64;decide
     unfold Dv.dY Dv.cells at *;simp only[UL,s];exact u
   .have p:(l == 0)=W9:=Uh.2 y;have o:Hid (Dv.up ⟨q,A,C,G,I,F,L,M,N,P,l,W8,W9⟩=W8):=by show _=_;unfold Dv.up;simp[y]
    have HC:Hid (Dv.dY ⟨q,A,C,G,I,F,L,M,N,P,l,W8,W9⟩=⟨q,A,C,G,I,F,L,M,N,P,wrap64 (l-1),W8,W9⟩):=by show _=_;unfold Dv.dY;simp[y]
    clear y;go_enter func136,ntmps136;go_wp2;go_ret;rw[cS o,cS HC];refine⟨O,(cS j).set ?_ ?_ O O O O O O O O O,by simp⟩
    .exact(BI w b 6 _).setCell (λm=>m O) _
    .have r:=Ue w b 6 _ _ (WW W9) (cS z);have u:=Ue _ b 4 _ _ (Z Y (wrap64 (l-1))) r;exact u
end Pk
namespace Pk
open Sd (Tb)
open Dk (Kept dv eT dN cU eD eV)
theorem mb(p:WU)(w:WR)(l:p.size<=140737488355328):WT prog 209 #[H p] w λe j=>e=WZ (H p)/\WQ w j:=by
 go_enter func209,ntmps209;go_wp2_with fail;refine(Tryz.stringslite_Clone p _ (by omega)).mono ?_;rintro e m ⟨rfl,b⟩;go_wp2;go_ret;exact⟨O,b⟩
theorem r9(c:Nat)(w:WR):WT prog 211 #[Z .u8 c] w λe y=>e=WZ (WW (Rd.yD c))/\y=w:=by
 by_cases j:97<=c
 .by_cases z:c<=122
  .have x:=j;have b:Hid (Rd.yD c=W8):=by show _=_;unfold Rd.yD;simp;omega
   have l:(97:Int)<=c:=by omega
   have m:(c:Int)<=122:=by omega
   go_enter func211,ntmps211;go_wp2;go_ret;exact⟨by rw[cS b];rfl,O⟩
  .have x:=j;have b:Hid (Rd.yD c=W9):=by show _=_;unfold Rd.yD;simp;omega
   have l:(97:Int)<=c:=by omega
   have m:¬(c:Int)<=122:=by omega
   have r:(48:Int)<=c:=by omega
   have A:¬(c:Int)<=57:=by omega
   have B:((c:Int) == 46)=W9:=Uh.2 (by omega);go_enter func211,ntmps211;go_wp2;go_ret;exact⟨by rw[cS b];rfl,O⟩
 .by_cases z:48<=c
  .by_cases u:c<=57
   .have x:=j;have b:Hid (Rd.yD c=W8):=by show _=_;unfold Rd.yD;simp;omega
    have l:¬(97:Int)<=c:=by omega
    have m:(48:Int)<=c:=by omega
    have r:(c:Int)<=57:=by omega
    go_enter func211,ntmps211;go_wp2;go_ret;exact⟨by rw[cS b];rfl,O⟩
   .have x:=j;have b:Hid (Rd.yD c=W9):=by show _=_;unfold Rd.yD;simp;omega
    have l:¬(97:Int)<=c:=by omega
    have m:(48:Int)<=c:=by omega
    have r:¬(c:Int)<=57:=by omega
    have A:((c:Int) == 46)=W9:=Uh.2 (by omega);go_enter func211,ntmps211;go_wp2;go_ret;exact⟨by rw[cS b];rfl,O⟩
  .by_cases u:c=46
   .have b:Hid (Rd.yD c=W8):=by show _=_;subst u;rfl
    subst u;go_enter func211,ntmps211;go_wp2;go_ret;exact⟨O,O⟩
   .have x:=j;have b:Hid (Rd.yD c=W9):=by show _=_;unfold Rd.yD;simp;omega
    have l:¬(97:Int)<=c:=by omega
    have m:¬(48:Int)<=c:=by omega
    have r:((c:Int) == 46)=W9:=Uh.2 (by omega);go_enter func211,ntmps211;go_wp2;go_ret;exact⟨by rw[cS b];rfl,O⟩
theorem gi(s:WU)(w:WR):WT prog 143 #[H s] w λe m=>e=WZ (WW (Rd.nk s))/\m=w:=by
 by_cases y:s=Rd.e0
 .have T:=Rd.Sv y;have I:Hid (Rd.nk s=W9):=by show _=_;subst y;rfl
  clear y;go_enter func143,ntmps143;go_wp2;go_ret;exact⟨by rw[cS I];rfl,O⟩
 .have T:=Rd.Ss y;have G:1<=s.size:=by
   rcases Nat.eq_zero_or_pos s.size with e|e
   .exact absurd (Vh (Array.eq_empty_of_size_eq_zero e)) y
   .exact e
  clear y;by_cases A:s.size<=12
  .have P:Hid (Rd.nk s=s.data.toList.all λb=>Rd.yD b.toNat):=by show _=_;unfold Rd.nk;rw[UH G,UH A];rfl
   have V:¬(s.size:Int) > 12:=by omega
   go_enter func143,ntmps143;go_wp2
   go_loopw [13] (λL wr=>∃k:Nat,k<=s.size/\L=Z Y k/\wr=w/\Hid (∀j,j<k->Rd.yD (Sp.bt s j)=W8)) (λL _=>s.size-(intOf L).toNat)
   case atStart=>exact⟨0,Ud _,rfl,rfl,λj B=>by omega⟩
   case round =>
    obtain⟨k,t,rfl,rfl,Q⟩:=hrel;by_cases l:k<s.size
    .have R:=Sp.jQ s k l;obtain⟨b,M⟩:∃b,Sp.bt s k=b:=⟨_,rfl⟩
     rw[M] at R;have W:=cT M;clear M;cases z:Rd.yD b with
     |true =>
      have I:=cT z;have r:WT prog 211 #[Z .u8 b] wr λe m=>e=WZ (WW W8)/\m=wr:=by have:=r9 b wr;rw[z] at this;exact this
      clear z;go_wp2_with (go_at_call 211;refine r.mono ?_;rintro e m ⟨rfl,N⟩;obtain rfl:=N.symm);go_roundw
      case rel=>exact⟨k+1,by omega,by go_num,by first | rfl | trivial,λj B=>by
       rcases Wp (Nat.le_of_lt_succ B) with h|h
       .exact(cS Q) j h
       .subst h;rw[cS W];exact cS I⟩
      case measure=>simp[intOf];omega
     |false =>
      have u:Hid (Rd.nk s=W9):=by
       show _=_
       rw[cS P];apply WC.2;intro X;have G:=List.all_eq_true.1 X (s[k]'l) (by rw[show s[k]'l=s.data.toList[k]'(by rw[Va];exact l) from rfl];exact UU _);rw[R,z] at G;cases G
      have r:WT prog 211 #[Z .u8 b] wr λe m=>e=WZ (WW W9)/\m=wr:=by have:=r9 b wr;rw[z] at this;exact this
      clear z;go_wp2_with (go_at_call 211;refine r.mono ?_;rintro e m ⟨rfl,N⟩;obtain rfl:=N.symm);go_ret;exact⟨by rw[cS u];rfl,O⟩
    .obtain rfl:k=s.size:=by omega
     have C:Hid (Rd.nk s=W8):=by
      show _=_
      rw[cS P,List.all_eq_true];intro x q;obtain⟨j,B,rfl⟩:=UP.1 q;have F:j<s.size:=by rw[Va] at B;exact B
      have:=(cS Q) j F;rw[<-Sp.jQ s j F] at this;exact this
     go_wp2;go_ret;exact⟨by rw[cS C];rfl,O⟩
  .have u:Hid (Rd.nk s=W9):=by
    show _=_
    unfold Rd.nk;rw[Uu A];simp
   have V:(s.size:Int) > 12:=by omega
   go_enter func143,ntmps143;go_wp2;go_ret;exact⟨by rw[cS u];rfl,O⟩
theorem Cn(s:WU)(w:WR)(M:s.size<=1048576):WT prog 210 #[H s] w λe z=>∃f,e=WZ (WY #[H ⟨#[]⟩,H s,eD f])/\WQ w z/\(K (E w))<=f/\z.heap[f]?=S (D #[J U 0 0,Z Y 0] 127 (0,0)):=by
 go_enter func210,ntmps210;go_wp2_with fail;refine(mb s _ (by omega)).mono ?_;rintro e b ⟨rfl,u⟩;have A:=u.size;have j:b.heap[K (E w)]?=S (D #[H ⟨#[]⟩,H ⟨#[]⟩,WV U] 129 (0,0)):=(u.block (K (E w)) (by simp)).trans (T9 w _);have N:b.cell? ⟨K (E w),0,U⟩=S (H ⟨#[]⟩):=by rw[T5 b _ 0 _ _ _ j];rfl
 have P:b.cell? ⟨K (E w),1,U⟩=S (H ⟨#[]⟩):=by rw[T5 b _ 1 _ _ _ j];rfl
 have Q:b.cell? ⟨K (E w),2,U⟩=S (WV U):=by rw[T5 b _ 2 _ _ _ j];rfl
 have R:b.frozen? ⟨K (E w),0,U⟩=W9:=by simp[World.frozen?,j]
 have T:b.frozen? ⟨K (E w),1,U⟩=W9:=by simp[World.frozen?,j]
 have V:b.frozen? ⟨K (E w),2,U⟩=W9:=by simp[World.frozen?,j]
 have y:K (E w)<K (E b):=by simp at A;omega
 go_wp2;have l:((((b.setCell ⟨K (E w),0,U⟩ (H ⟨#[]⟩)).setCell ⟨K (E w),1,U⟩ (H s)).setCell ⟨K (E w),2,U⟩ (WV (S ⟨K (E b),0,U⟩))).alloc (D #[J U 0 0,Z Y 0] 127)).heap[K (E w)]?=S (D #[H ⟨#[]⟩,H s,WV (S ⟨K (E b),0,U⟩)] 129 (0,0)):=by
  rw[Ur _ _ _ (by simpa using y)];have B:=Ue b (K (E w)) 0 _ _ (H ⟨#[]⟩) j;have C:=Ue _ (K (E w)) 1 _ _ (H s) B;have F:=Ue _ (K (E w)) 2 _ _ (WV (S ⟨K (E b),0,U⟩)) C;exact F
 have m:WQ w ((((b.setCell ⟨K (E w),0,U⟩ (H ⟨#[]⟩)).setCell ⟨K (E w),1,U⟩ (H s)).setCell ⟨K (E w),2,U⟩ (WV (S ⟨K (E b),0,U⟩))).alloc (D #[J U 0 0,Z Y 0] 127)):=((((((T4 _ w).alloc WN _).trans (u.mono (by simp))).setCell WN _).setCell WN _).setCell WN _).alloc (by simp;omega) _;have r:((((b.setCell ⟨K (E w),0,U⟩ (H ⟨#[]⟩)).setCell ⟨K (E w),1,U⟩ (H s)).setCell ⟨K (E w),2,U⟩ (WV (S ⟨K (E b),0,U⟩))).alloc (D #[J U 0 0,Z Y 0] 127)).heap[K (E b)]?=S (D #[J U 0 0,Z Y 0] 127 (0,0)):=by
  have h:=T9 (((b.setCell ⟨K (E w),0,U⟩ (H ⟨#[]⟩)).setCell ⟨K (E w),1,U⟩ (H s)).setCell ⟨K (E w),2,U⟩ (WV (S ⟨K (E b),0,U⟩))) (D #[J U 0 0,Z Y 0] 127);simpa using h
 generalize ((((b.setCell ⟨K (E w),0,U⟩ (H ⟨#[]⟩)).setCell ⟨K (E w),1,U⟩ (H s)).setCell ⟨K (E w),2,U⟩ (WV (S ⟨K (E b),0,U⟩))).alloc (D #[J U 0 0,Z Y 0] 127))=W at l m r ⊢;have G:W.cell? ⟨K (E w),0,U⟩=S (H ⟨#[]⟩):=by rw[T5 W _ 0 _ _ _ l];rfl
 have I:W.cell? ⟨K (E w),1,U⟩=S (H s):=by rw[T5 W _ 1 _ _ _ l];rfl
 have L:W.cell? ⟨K (E w),2,U⟩=S (WV (S ⟨K (E b),0,U⟩)):=by rw[T5 W _ 2 _ _ _ l];rfl
 exact T8 (v := WY #[H ⟨#[]⟩,H s,eD (K (E b))]) (by simp[results,results210,go_sem,G,I,L,eD]) O ⟨K (E b),O,m,by omega,r⟩
theorem AV(s:WU)(w:WR)(L:s.size<=1048576):WT prog 135 #[H s] w λe u=>e=WZ (WY #[H s,H ⟨#[]⟩,WV U])/\WQ w u:=by
 go_enter func135,ntmps135;go_wp2_with fail;refine(mb s _ (by omega)).mono ?_;rintro e b ⟨rfl,r⟩;have y:=r.size;have j:b.heap[K (E w)]?=S (D #[H ⟨#[]⟩,H ⟨#[]⟩,WV U] 129 (0,0)):=(r.block (K (E w)) (by simp)).trans (T9 w _);have M:b.cell? ⟨K (E w),0,U⟩=S (H ⟨#[]⟩):=by rw[T5 b _ 0 _ _ _ j];rfl
 have N:b.cell? ⟨K (E w),1,U⟩=S (H ⟨#[]⟩):=by rw[T5 b _ 1 _ _ _ j];rfl
 have P:b.cell? ⟨K (E w),2,U⟩=S (WV U):=by rw[T5 b _ 2 _ _ _ j];rfl
 have Q:b.frozen? ⟨K (E w),0,U⟩=W9:=by simp[World.frozen?,j]
 have R:b.frozen? ⟨K (E w),1,U⟩=W9:=by simp[World.frozen?,j]
 have T:b.frozen? ⟨K (E w),2,U⟩=W9:=by simp[World.frozen?,j]
 have z:K (E w)<K (E b):=by simp at y;omega
 go_wp2;have l:(((b.setCell ⟨K (E w),0,U⟩ (H s)).setCell ⟨K (E w),1,U⟩ (H ⟨#[]⟩)).setCell ⟨K (E w),2,U⟩ (WV U)).heap[K (E w)]?=S (D #[H s,H ⟨#[]⟩,WV U] 129 (0,0)):=by
  have A:=Ue b (K (E w)) 0 _ _ (H s) j;have B:=Ue _ (K (E w)) 1 _ _ (H ⟨#[]⟩) A;have C:=Ue _ (K (E w)) 2 _ _ (WV U) B;exact C
 have m:WQ w (((b.setCell ⟨K (E w),0,U⟩ (H s)).setCell ⟨K (E w),1,U⟩ (H ⟨#[]⟩)).setCell ⟨K (E w),2,U⟩ (WV U)):=(((((T4 _ w).alloc WN _).trans (r.mono (by simp))).setCell WN _).setCell WN _).setCell WN _;generalize (((b.setCell ⟨K (E w),0,U⟩ (H s)).setCell ⟨K (E w),1,U⟩ (H ⟨#[]⟩)).setCell ⟨K (E w),2,U⟩ (WV U))=W at l m ⊢;have F:W.cell? ⟨K (E w),0,U⟩=S (H s):=by rw[T5 W _ 0 _ _ _ l];rfl
 have G:W.cell? ⟨K (E w),1,U⟩=S (H ⟨#[]⟩):=by rw[T5 W _ 1 _ _ _ l];rfl
 have I:W.cell? ⟨K (E w),2,U⟩=S (WV U):=by rw[T5 W _ 2 _ _ _ l];rfl
 exact T8 (v := WY #[H s,H ⟨#[]⟩,WV U]) (by simp[results,results135,go_sem,F,G,I]) O ⟨O,m⟩
theorem Bh(s t:WU)(f:Nat)(w:WR)(N:s.size<=1048576)(ht:t.size<=1048576):WT prog 145 #[H s,H t,eD f] w λe z=>e=WZ (WY #[H s,H t,eD f])/\WQ w z:=by
 unfold eD;go_enter func145,ntmps145;go_wp2_with fail;refine(mb s _ (by omega)).mono ?_;rintro e P ⟨rfl,m⟩;go_wp2_with fail;refine(mb t _ (by omega)).mono ?_;rintro e b ⟨rfl,r⟩;have y:=m.trans (r.mono m.size);clear m r;have A:=y.size;have j:b.heap[K (E w)]?=S (D #[H ⟨#[]⟩,H ⟨#[]⟩,WV U] 129 (0,0)):=(y.block (K (E w)) (by simp)).trans (T9 w _);have Q:b.cell? ⟨K (E w),0,U⟩=S (H ⟨#[]⟩):=by rw[T5 b _ 0 _ _ _ j];rfl
 have R:b.cell? ⟨K (E w),1,U⟩=S (H ⟨#[]⟩):=by rw[T5 b _ 1 _ _ _ j];rfl
 have T:b.cell? ⟨K (E w),2,U⟩=S (WV U):=by rw[T5 b _ 2 _ _ _ j];rfl
 have V:b.frozen? ⟨K (E w),0,U⟩=W9:=by simp[World.frozen?,j]
 have X:b.frozen? ⟨K (E w),1,U⟩=W9:=by simp[World.frozen?,j]
 have q:b.frozen? ⟨K (E w),2,U⟩=W9:=by simp[World.frozen?,j]
 have B:K (E w)<K (E b):=by simp at A;omega
 go_wp2;have l:(((b.setCell ⟨K (E w),0,U⟩ (H s)).setCell ⟨K (E w),1,U⟩ (H t)).setCell ⟨K (E w),2,U⟩ (WV (S ⟨f,0,U⟩))).heap[K (E w)]?=S (D #[H s,H t,WV (S ⟨f,0,U⟩)] 129 (0,0)):=by
  have C:=Ue b (K (E w)) 0 _ _ (H s) j;have F:=Ue _ (K (E w)) 1 _ _ (H t) C;have G:=Ue _ (K (E w)) 2 _ _ (WV (S ⟨f,0,U⟩)) F;exact G
 have u:WQ w (((b.setCell ⟨K (E w),0,U⟩ (H s)).setCell ⟨K (E w),1,U⟩ (H t)).setCell ⟨K (E w),2,U⟩ (WV (S ⟨f,0,U⟩))):=(((((T4 _ w).alloc WN _).trans (y.mono (by simp))).setCell WN _).setCell WN _).setCell WN _;generalize (((b.setCell ⟨K (E w),0,U⟩ (H s)).setCell ⟨K (E w),1,U⟩ (H t)).setCell ⟨K (E w),2,U⟩ (WV (S ⟨f,0,U⟩)))=W at l u ⊢;have I:W.cell? ⟨K (E w),0,U⟩=S (H s):=by rw[T5 W _ 0 _ _ _ l];rfl
 have L:W.cell? ⟨K (E w),1,U⟩=S (H t):=by rw[T5 W _ 1 _ _ _ l];rfl
 have M:W.cell? ⟨K (E w),2,U⟩=S (WV (S ⟨f,0,U⟩)):=by rw[T5 W _ 2 _ _ _ l];rfl
 exact T8 (v := WY #[H s,H t,WV (S ⟨f,0,U⟩)]) (by simp[results,results145,go_sem,I,L,M,eD]) O ⟨O,u⟩
theorem Nc(b:Nat)(d:Dv)(n:Int)(w:WR)(h:kK w b d):WT prog 29 #[WV (S ⟨b,0,U⟩),Z Y n] w λe l=>e=WZ (WX #[])/\oO w l b d { d with mi:=decide (0<=n),left:=n }:=by
 obtain⟨_,_,_,_,r,u,_⟩:=h.cell;have y:=h.fz 4;have z:=h.fz 5;have j:=cT h;clear h;go_enter func29,ntmps29;go_wp2;exact Ub (Ua O _ _ _) O ⟨O,(cS j).set ((BI w b 5 _).setCell (λm=>m O) _) (by rw[Ue _ b 4 _ _ _ (Ue w b 5 _ _ _ (cS j).blk)];rfl) O O O O O O O O O⟩
end Pk
namespace Pk
open Sd (Tb)
open Dk
variable {o:Nat}{C:Array WS}{v:WS}{w:WR}{tD:TypeId}
theorem _root_.Go.Proofs.YtgkkdpegcieakaaGreatDoor.Dk.dN.mD{w':WR}{b:Nat}{v':WS}{j:Sd.Tb}{l:Obj}(h:dN (w.alloc l) w' b o C tD v v' j): dN w w' b o C tD v v' j:=⟨h.blk,h.row,((Kept.refl w _).alloc l).trans h.kept,by
  rcases h.new with e|⟨g,e,m⟩
  .exact Xa e
  .exact Xb ⟨g,e,by simp at m;omega⟩⟩
theorem _root_.Go.Proofs.YtgkkdpegcieakaaGreatDoor.Dk.dN.xu{w':WR}{b:Nat}{v':WS}{e:Sd.Tb}(h:dN w.drew w' b o C tD v v' e): dN w w' b o C tD v v' e:=⟨h.blk,h.row,((Kept.refl w _).drew).trans h.kept,h.new⟩
theorem Ek(b:Nat)(C:Array WS)(tD:TypeId)(v:WS)(T:Sd.Tb)(y:WU)(f:Nat)(w:WR)(h:eT w b 1 C tD v T)(l:v.ownBlock≠S b)(A:(y.toList == [])=W9):WT prog 57 #[WY #[H ⟨#[]⟩,H y,eD f],WV (S ⟨b,1,U⟩)] w λe u=>e=WZ (WX #[])/\∃m,dN w u b 1 C tD v m (Sd.jZ T y f):=by
 have j:=λo=>F7 b 1 C tD v T y f (w.alloc o) (h.below ((T4 _ w).alloc WN o)) l
 unfold eD at j ⊢;clear h;go_enter func57,ntmps57;go_wp2_with fail;refine(j _).mono ?_;rintro e w1 ⟨rfl,m,r⟩;have z:=cT (dN.mD r);clear r j;go_wp2;exact Ub (Ua O _ _ _) O ⟨O,m,cS z⟩
theorem info_change:(prog.info? 129).map (λi=>(i.zero,i.size,i.bytes))=S (S (WY #[H ⟨#[]⟩,H ⟨#[]⟩,WV U]),3,40):=by kernel_rfl
variable {v1:WS}{w1:WR}{T1:Sd.Tb}
theorem _root_.Go.Proofs.YtgkkdpegcieakaaGreatDoor.Dk.dN.comp{r:WR}{b:Nat}{j:WS}{u:Sd.Tb}(h1:dN w w1 b o C tD v v1 T1)(h2:dN w1 r b o (C.setIfInBounds o v1) tD v1 j u): dN w r b o C tD v j u:=by
 refine⟨?_,h2.row,⟨h2.kept.os.trans h1.kept.os,h2.kept.tape.trans h1.kept.tape,h2.kept.output.trans h1.kept.output,Uc h1.kept.size h2.kept.size,λk y l=>(h2.kept.block k (Ux y h1.kept.size) ⟨l.1,λe=>?_⟩).trans (h1.kept.block k y l)⟩,?_⟩
 .rw[h2.blk];have e:(C.setIfInBounds o v1).setIfInBounds o j=C.setIfInBounds o j:=by simp
  rw[e]
 .rcases h1.new with m|⟨g,m,z⟩
  .rw[m] at e;exact l.2 e
  .rw[m] at e;have:g=k:=Ut e;omega
 .rcases h2.new with e|⟨g,e,z⟩
  .rw[e];exact h1.new
  .exact Xb ⟨g,e,Uc h1.kept.size z⟩
theorem _root_.Go.Proofs.YtgkkdpegcieakaaGreatDoor.Dk.dN.inside{b:Nat}(h:dN w w1 b o C tD v v1 T1)(e:o<C.size)(j:Sd.di T1)(l:Xg T1<=1000000000): eT w1 b o (C.setIfInBounds o v1) tD v1 T1:=⟨h.blk,by simp[e],h.row,j,l⟩
theorem _root_.Go.Proofs.YtgkkdpegcieakaaGreatDoor.Dk.dN.S5{b:Nat}(h:dN w w1 b o C tD v v1 T1)(j:v.ownBlock≠S b)(m:b<K (E w)): v1.ownBlock≠S b:=λe=>by
 rcases h.new with l|⟨g,l,r⟩
 .rw[l] at e;exact j e
 .rw[l] at e;have:g=b:=Ut e;omega
theorem Am(b:Nat)(C:Array WS)(tD:TypeId)(v:WS)(T:Sd.Tb)(x y:WU)(f:Nat)(w:WR)(h:eT w b 1 C tD v T)(m:v.ownBlock≠S b)(V:(x.toList == [])=W9)(W:(y.toList == [])=W9):WT prog 57 #[WY #[H x,H y,eD f],WV (S ⟨b,1,U⟩)] w λe G=>e=WZ (WX #[])/\∃I,dN w G b 1 C tD v I (Sd.jZ (Sd.gM T x) y f):=by
 have A:1<C.size:=(Ug.1 h.at_).1;have r:=λo=>kt b 1 C tD v T x (w.alloc o) (h.below ((T4 _ w).alloc WN o)) m
 have L:b<K (E w):=UW h.blk;have B:∀g,v.ownBlock=S g->g<K (E w):=λg M=>jK h.row M
 have N:=Sd.iy h.me x;have P:(Sd.gM T x).length<=1000000000:=Uc (Sd.wh T x) h.len;unfold eD;clear h;go_enter func57,ntmps57;go_wp2_with fail;refine(r _).mono ?_;rintro e w1 ⟨rfl,v1,u⟩;have l:w1.heap[K (E w)]?=S (D #[H x,H y,WV (S ⟨f,0,U⟩)] 129 (0,0)):=by
  refine(u.kept.block (K (E w)) (by simp) ⟨by omega,λe=>?_⟩).trans (T9 w _);have:=B _ e;omega
 have X:w1.cell? ⟨K (E w),1,U⟩=S (H y):=by rw[T5 w1 _ 1 _ _ _ l];rfl
 have q:w1.cell? ⟨K (E w),2,U⟩=S (WV (S ⟨f,0,U⟩)):=by rw[T5 w1 _ 2 _ _ _ l];rfl
 have j:=F7 b 1 _ tD v1 (Sd.gM T x) y f w1 (u.inside A N P) (u.S5 m (by simp;omega));unfold eD at j;have Q:=cT (dN.mD u);clear u r l;go_wp2_with fail;refine j.mono ?_;rintro e t ⟨rfl,R,z⟩;have F:=cT ((cS Q).comp z);clear j z;go_wp2;exact Ub (Ua O _ _ _) O ⟨O,R,cS F⟩
theorem D5(b:Nat)(C:Array WS)(tD:TypeId)(v:WS)(T:Sd.Tb)(x:WU)(w:WR)(h:eT w b 1 C tD v T)(m:v.ownBlock≠S b)(G:(x.toList == [])=W9):WT prog 57 #[WY #[H x,H ⟨#[]⟩,WV U],WV (S ⟨b,1,U⟩)] w λe y=>e=WZ (WX #[])/\∃z,dN w y b 1 C tD v z (Sd.gM T x):=by
 have j:=λo=>kt b 1 C tD v T x (w.alloc o) (h.below ((T4 _ w).alloc WN o)) m
 have A:b<K (E w):=UW h.blk;have r:∀g,v.ownBlock=S g->g<K (E w):=λg B=>jK h.row B
 clear h;go_enter func57,ntmps57;go_wp2_with fail;refine(j _).mono ?_;rintro e w1 ⟨rfl,v1,u⟩;have l:w1.heap[K (E w)]?=S (D #[H x,H ⟨#[]⟩,WV U] 129 (0,0)):=by
  refine(u.kept.block (K (E w)) (by simp) ⟨by omega,λe=>?_⟩).trans (T9 w _);have:=r _ e;omega
 have I:w1.cell? ⟨K (E w),1,U⟩=S (H ⟨#[]⟩):=by rw[T5 w1 _ 1 _ _ _ l];rfl
 have F:=cT (dN.mD u);clear u j l;go_wp2;exact Ub (Ua O _ _ _) O ⟨O,v1,cS F⟩
def nK(T:Sd.Tb)(c:Ch):Sd.Tb:=match c.file with
 |some f=>if c.gone.size=0 then Sd.jZ T c.name f else Sd.jZ (Sd.gM T c.gone) c.name f
 |none=>Sd.gM T c.gone
theorem ne_nil{s:WU}(h:¬s=Rd.e0):(s.toList == [])=W9:=by
 apply WC.2;intro e;have b:s.toList=[]:=eq_of_beq e;rw[Vt] at b;exact h (Vh (VV.1 b))
theorem NQ{s:WU}(h:¬s=Rd.e0):¬s.size=0:=λe=>h (Vh (Array.eq_empty_of_size_eq_zero e))
def Qx(c:Ch):Prop:=(∃f,c.file=S f/\¬c.name=Rd.e0)\/(c.file=U/\c.name=Rd.e0/\¬c.gone=Rd.e0)
theorem vl(b:Nat)(c:Ch)(u:Qx c)(W:WR)(C:Array WS)(v:WS)(T:Sd.Tb)(h:eT W b 1 C 64 v T)(j:v.ownBlock≠S b):WT prog 57 #[WY #[H c.gone,H c.name,eV c.file],WV (S ⟨b,1,U⟩)] W λe y=>e=WZ (WX #[])/\∃z,dN W y b 1 C 64 v z (nK T c):=by
 rcases u with ⟨f,l,r⟩|⟨l,r,m⟩
 .by_cases m:c.gone=Rd.e0
  .have e:nK T c=Sd.jZ T c.name f:=by unfold nK;rw[l,m];rfl
   rw[e,l,m];exact Ek b C _ v T c.name f W h j (ne_nil r)
  .have e:nK T c=Sd.jZ (Sd.gM T c.gone) c.name f:=by
    unfold nK;rw[l]
    show (if c.gone.size=0 then _ else _)=_
    rw[TZ (NQ m)]
   rw[e,l];exact Am b C _ v T c.gone c.name f W h j (ne_nil m) (ne_nil r)
 .have e:nK T c=Sd.gM T c.gone:=by unfold nK;rw[l]
  rw[e,l,r];exact D5 b C _ v T c.gone W h j (ne_nil m)
theorem uR{T:Tb}(h:Sd.di T)(c:Ch):Sd.di (nK T c):=by
 unfold nK;split
 .split
  .exact Sd.jv h _ _
  .exact Sd.jv (Sd.iy h _) _ _
 .exact Sd.iy h _
theorem NS(T:Tb)(c:Ch):(nK T c).length<=Xg T+1:=by
 unfold nK;split
 .split
  .exact Sd.AQ _ _ _
  .have:=Sd.AQ (Sd.gM T c.gone) c.name ‹Nat›;have:=Sd.wh T c.gone;omega
 .have:=Sd.wh T c.gone;omega
theorem FL{T:Tb}{c:Ch}{p:WU × Nat}(h:p∈nK T c):p∈T\/c.file=S p.2:=by
 unfold nK at h;split at h
 .rename_i f b;split at h
  .rcases Sd.vk h with e|e
   .right;rw[b,e]
   .exact Xa e
  .rcases Sd.vk h with e|e
   .right;rw[b,e]
   .exact Xa (Sd.Cv e)
 .exact Xa (Sd.Cv h)
variable {d:Dv}
theorem kK.Kd{b:Nat}(h:kK w b d)(e:Xg d.names<=1000000000): eT w b 1 d.cells 64 d.vn d.names:=⟨h.blk,O,h.rn,h.sn,e⟩
theorem Hh{W:WR}{b:Nat}{z u:WS}{F:Tb}{m:List Ch}(hd:kK w b d)(y:dN w w1 b 1 d.cells 64 d.vn z F)(x:Sd.di F)(G:Kept w1 W (λk=>k≠b/\d.vc.ownBlock≠S k))(A:W.heap[b]?=S (D ({ d with vn:=z,vc:=u }:Dv).cells 64 (0,0)))(L:W.ownsRow 0 129 3 u (Xg m) (ib m))(M:∀k,u.ownBlock=S k->d.vc.ownBlock=S k\/K (E w)<=k)(N:∀p,p∈F->p.2∈d.fs)(P:∀c,c∈m->∀f,c.file=S f->f∈d.fs):oO w W b d { d with names:=F,dW:=m,vn:=z,vc:=u }:=by
 have Q:Kept w W (λk=>k≠b/\d.vn.ownBlock≠S k/\d.vc.ownBlock≠S k):=(y.kept.mono (λk _ h=>⟨h.1,h.2.1⟩)).trans (G.mono (λk _ h=>⟨h.1,h.2.2⟩));refine⟨⟨A,?_,?_,L,x,hd.ss,?_,λf B=>?_,hd.fap,N,hd.QS,P⟩,Q.mono (λk _ h=>⟨λe=>h (Xa e),λe=>h (Xb (Xa e)),λe=>h (Xb (Xb (Xb (Xa e))))⟩),λk G=>?_⟩
 .refine dv y.row G (λg r=>⟨?_,λe=>?_⟩)
  .obtain⟨c,l,_⟩:=dh y.row r;exact de l y.blk (by decide)
  .have R:=jK hd.rc e;obtain⟨T,j,_⟩:=dh hd.rc e;obtain⟨c,l,_⟩:=dh y.row r;have q:=y.kept.block g R ⟨de j hd.blk (by decide),λi=>by obtain⟨t,V,_⟩:=dh hd.rn i;exact de V j (by decide) O⟩;rw[q] at l;exact de l j (by decide) O
 .refine dv hd.rs Q (λg r=>?_);obtain⟨c,l,_⟩:=dh hd.rs r;exact⟨de l hd.blk (by decide),λe=>hd.apart g e r,λe=>by obtain⟨T,j,_⟩:=dh hd.rc e;exact de j l (by decide) O⟩
 .intro g r e;rcases y.new with h|⟨I,h,X⟩
  .have r:d.vn.ownBlock=S g:=h ▸ r;exact hd.apart g r e
  .have r:S I=S g:=h ▸ r;have:I=g:=Ut r;have:=jK hd.rs e;omega
 .refine(hd.files f B).kept Q ⟨de (hd.files f B).blk hd.blk (by decide),λe=>?_,λe=>?_⟩ (λg r=>?_)
  .obtain⟨c,l,_⟩:=dh hd.rn e;exact de l (hd.files f B).blk (by decide) O
  .obtain⟨c,l,_⟩:=dh hd.rc e;exact de l (hd.files f B).blk (by decide) O
  .obtain⟨c,l⟩:=(hd.files f B).own r;refine⟨de l hd.blk (by decide),λe=>?_,λe=>?_⟩
   .obtain⟨T,j,_⟩:=dh hd.rn e;exact de j l (by decide) O
   .obtain⟨T,j,_⟩:=dh hd.rc e;exact de j l (by decide) O
 .rcases G with e|e|e|e|e
  .exact Xa (Xa e)
  .rcases y.new with h|⟨I,h,X⟩
   .exact Xa (Xb (Xa (h ▸ e)))
   .have e:S I=S k:=h ▸ e;have:=Ut e;exact Xb (by omega)
  .exact Xa (Xb (Xb (Xa e)))
  .rcases M k e with e|e
   .exact Xa (Xb (Xb (Xb (Xa e))))
   .exact Xb e
  .exact Xa (Xb (Xb (Xb (Xb e))))
theorem oO.refl{b:Nat}(h:kK w b d): oO w w b d d:=oO.below h (T4 _ _)
def Qq(b:Nat)(d:Dv)(c:Ch)(w:WR)(e:Ending)(w':WR):Prop:=e=WZ (WX #[])/\∃j l,oO w w' b d { d with names:=nK d.names c,dW:=d.dW++[c],vn:=j,vc:=l }
theorem qD(b:Nat)(d:Dv)(c:Ch)(w:WR)(h:kK w b d)(hl:Xg d.dW<=1000000000)(ab:Xg d.names<=1000000000)(F:Qx c)(G:∀f,c.file=S f->f∈d.fs):WT prog 134 #[WV (S ⟨b,0,U⟩),WY #[H c.gone,H c.name,eV c.file]] w (Qq b d c w):=by
 obtain⟨i0,hi,ad,ae,af⟩:=UB info_change;have HD:=cT h;have T:∀W,WQ w W->WT prog 57 #[WY #[H c.gone,H c.name,eV c.file],WV (S ⟨b,1,U⟩)] W λe w'=>e=WZ (WX #[])/\∃v',dN W w' b 1 d.cells 64 d.vn v' (nK d.names c):=λW hW=>vl b c F W _ _ _ ((h.below hW).Kd ab) ((h.below hW).Sa (h.below hW).rn (by decide))
 have hT:=uR h.sn c;have V:∀p,p∈nK d.names c->p.2∈d.fs:=λp hp=>by
  rcases FL hp with e|e
  .exact h.Hb p e
  .exact G _ e
 have X:∀x,x∈d.dW++[c]->∀f,x.file=S f->f∈d.fs:=λx hx f hf=>by
  rcases Uq.1 hx with e|e
  .exact h.Qp x e f hf
  .rw[Uz.1 e] at hf;exact G f hf
 have ag:=cT V;have ah:=cT X;have HT:=cT hT;clear h V X hT F G;obtain⟨p,ho⟩:∃p,eV c.file=WV p:=by cases c.file <;> exact⟨_,O⟩
 have HO:=cT ho;rw[ho] at T ⊢;clear ho;have ai:∀o,WQ w (w.alloc o).drew:=λo=>((T4 _ w).alloc WN o).drew
 go_enter func134,ntmps134;go_wp2_with fail
 go_region_with (go_at_call 57;refine(T _ (ai _)).mono ?_;rintro e w1 ⟨rfl,I,L⟩)
 have hd:=cS HD;have M:=dN.mD (dN.xu L);have aj:b<K (E w):=cV hd.blk;have q:Kept (w.alloc (D #[H c.gone,H c.name,WV p] 129)).drew w1 (λk=>k≠b/\d.vn.ownBlock≠S k):=L.kept;have A:w1.heap[K (E w)]?=S (D #[H c.gone,H c.name,WV p] 129 (0,0)):=(q.block (K (E w)) (by simp) ⟨by omega,λe=>by obtain⟨ak,F,_⟩:=dh hd.rn e;have:=cV F;omega⟩).trans (T9 w _);have b0:w1.cell? ⟨K (E w),0,U⟩=S (H c.gone):=by rw[T5 w1 _ 0 _ _ _ A];rfl
 have b1:w1.cell? ⟨K (E w),1,U⟩=S (H c.name):=by rw[T5 w1 _ 1 _ _ _ A];rfl
 have b2:w1.cell? ⟨K (E w),2,U⟩=S (WV p):=by rw[T5 w1 _ 2 _ _ _ A];rfl
 have j:w1.heap[b]?=S (D ({ d with vn:=I }:Dv).cells 64 (0,0)):=M.blk;have d3:w1.cell? ⟨b,3,U⟩=S d.vc:=by rw[T5 w1 _ 3 _ _ _ j];rfl
 have f3:w1.frozen? ⟨b,3,U⟩=W9:=by simp[World.frozen?,j]
 have m:w1.ownsRow 0 129 3 d.vc (Xg d.dW) (ib d.dW):=dv hd.rc M.kept (λg hg=>by
  obtain⟨ak,F,_⟩:=dh hd.rc hg;refine⟨de F hd.blk (by decide),λe=>?_⟩;obtain⟨av,u,_⟩:=dh hd.rn e;exact de F u (by decide) O)
 obtain⟨pc,cc,N⟩:=gw m;have P:=cT N;rw[N] at d3 m;have s:b<K (E w1):=cV j;have aw:=cT j;have an:=cT m;have HN:=cT M;have y:S b≠(Value.slice pc (Xg d.dW) cc).ownBlock:=λe=>by
  obtain⟨c',u,_⟩:=dh m e.symm;exact de u j (by decide) O
 have Q:=cT (λ(o:Obj)=>(show ((w1.alloc o).drew).heap[b]?=_ from (Ur w1 o b s).trans j));clear j m M L hd q A aj N;go_wp2_with fail
 go_region_law ((refine step_append_lies _ (by rfl) _ _ _ (by rfl) 0 129 i0 _ 3 40 underlying59 hi ad ae af O (by omega) (J pc (Xg d.dW) cc) _ _ (by rfl) (((cS an).alloc _).drew) ⟨K (E w1),0,U⟩ 1 1 [H c.gone,H c.name,WV p] (by rfl) (by rfl) (We (cs := #[H c.gone,H c.name,WV p]) (t:=129) (fr:=(0,0)) (T9 w1 _)) (by simp[Value.oneCell']) (by omega) (by unfold maxLen;omega) (by omega) (Ud _) (K (E w1)+1) (by simp) ?_;intro R cp B z l ao ax;have ay:B.cell? ⟨b,3,U⟩=S (J pc (Xg d.dW) cc):=(l.cell_far ⟨b,3,U⟩ (by simp;omega) y).trans (by rw[T5 _ b 3 _ _ _ ((cS Q) _),<-cS P];rfl);have az:B.frozen? ⟨b,3,U⟩=W9:=(l.frozen_far ⟨b,3,U⟩ (by simp;omega) y).trans (by have hh:=(cS Q) (D #[H c.gone,H c.name,WV p] 129);simp only[World.frozen?,hh];rfl)))
 all_goals
  have hd:=cS HD;have M:=cS HN;have aA:b<K (E B):=by have:=l.size;simp at this;omega
  have aa:B.heap[b]?=S (D ({ d with vn:=I }:Dv).cells 64 (0,0)):=(l.block b (by simp;omega) y).trans ((cS Q) _);have hK:Kept w1 (B.setCell ⟨b,3,U⟩ (J (S ⟨R,0,U⟩) (Xg d.dW+1) cp)) (λk=>k≠b/\d.vc.ownBlock≠S k):=by
   rw[cS P];exact((((Kept.refl w1 _).alloc _).drew).trans (Kept.grown l (λk hk=>hk.2))).setCell (λhk=>hk.1 O) _
  have aq:(B.setCell ⟨b,3,U⟩ (J (S ⟨R,0,U⟩) (Xg d.dW+1) cp)).heap[b]?=S (D ({ d with vn:=I,vc := J (S ⟨R,0,U⟩) (Xg d.dW+1) cp }:Dv).cells 64 (0,0)):=by
   rw[Ue B b 3 _ _ _ aa];rfl
  have ar:ib (d.dW++[c])=ib d.dW++[H c.gone,H c.name,WV p]:=by
   rw[<-cS HO];simp[ib]
  have au:(B.setCell ⟨b,3,U⟩ (J (S ⟨R,0,U⟩) (Xg d.dW+1) cp)).ownsRow 0 129 3 (J (S ⟨R,0,U⟩) (Xg d.dW+1) cp) (d.dW++[c]).length (ib (d.dW++[c])):=by
   rw[ar,UG];refine U1 z (λe=>?_) _;obtain⟨c',u,_⟩:=dh z e;exact de u aa (by decide) O
  have r:=Hh hd M (cS HT) hK aq au (λk hk=>by
   have e:R=k:=by simpa [Value.ownBlock] using hk
   subst e;rcases ao with e|e
   .left;rw[cS P];exact e
   .right;have:=M.kept.size;omega) (cS ag) (cS ah)
  exact Ub (Ua O _ _ _) O ⟨O,_,_,r⟩
end Pk
namespace Pk
open Sd (Tb)
open Dk
variable {α:Type}
def oq(g:Nat->α)(f:Nat)(x : α): Nat->α:=λk=>if k=f then x else g k
theorem eE(g:Nat->α)(f:Nat)(x : α): oq g f x f=x:=T0 O
theorem ek(g:Nat->α){f k:Nat}(x : α)(h:k≠f): oq g f x k=g k:=TZ h
def Dv.pN(d:Dv)(f:Nat):Dv:={ d with fs:=d.fs++[f],F:=oq d.F f ⟨⟨#[]⟩,0⟩,vb:=oq d.vb f (J U 0 0) }
def Dv.F3(d:Dv)(c:Ch)(b e:WS):Dv:={ d with names:=nK d.names c,dW:=d.dW++[c],vn:=b,vc:=e }
theorem jG(d:Dv):d.dY.names=d.names/\d.dY.safe=d.safe/\d.dY.dW=d.dW/\d.dY.fs=d.fs/\d.dY.F=d.F/\d.dY.q=d.q:=by
 unfold Dv.dY;split <;> exact⟨O,O,O,O,O,O⟩
theorem kK.pN{w z:WR}{b:Nat}{d:Dv}(h:kK w b d)(hb:WQ w z){f:Nat}(M:K (E w)<=f)(B:z.heap[f]?=S (D #[J U 0 0,Z Y 0] 127 (0,0))):oO w z b d (d.pN f):=by
 have m:=h.below hb;have j:∀k,k∈d.fs->k≠f:=λk r e=>by have:=cV (h.files k r).blk;omega
 refine⟨⟨m.blk,m.rn,m.rs,m.rc,m.sn,m.ss,m.apart,λk r=>?_,λk A r C G g u=>?_,λp I=>Vy _ (h.Hb p I),λp I=>Vy _ (h.QS p I),λc L x l=>Vy _ (h.Qp c L x l)⟩,Kept.below hb _,λk r=>?_⟩
 .show rH z k (oq d.F f ⟨⟨#[]⟩,0⟩ k) (oq d.vb f (J U 0 0) k)
  rcases Uq.1 r with e|e
  .rw[ek _ _ (j k e),ek _ _ (j k e)];exact m.files k e
  .have e:k=f:=Uz.1 e;subst e;rw[eE,eE];exact⟨B,Uw _ _ _ _⟩
 .have u:(oq d.vb f (J U 0 0) k).ownBlock=S g:=u
  show (oq d.vb f (J U 0 0) A).ownBlock≠S g
  rcases Uq.1 r with e|e
  .rcases Uq.1 C with y|y
   .rw[ek _ _ (j k e)] at u;rw[ek _ _ (j A y)];exact h.fap k A e y G g u
   .have y:A=f:=Uz.1 y;subst y;rw[eE];simp[Value.ownBlock]
  .have e:k=f:=Uz.1 e;subst e;rw[eE] at u;simp[Value.ownBlock] at u
 .rcases r with e|e|e|e|⟨x,l,e⟩
  .exact Xa (Xa e)
  .exact Xa (Xb (Xa e))
  .exact Xa (Xb (Xb (Xa e)))
  .exact Xa (Xb (Xb (Xb (Xa e))))
  .rcases Uq.1 l with l|l
   .refine Xa (Xb (Xb (Xb (Xb ⟨x,l,?_⟩))));rcases e with e|e
    .exact Xa e
    .have e:(oq d.vb f (J U 0 0) x).ownBlock=S k:=e;rw[ek _ _ (j x l)] at e;exact Xb e
   .have l:x=f:=Uz.1 l;subst l;rcases e with e|e
    .exact Xb (by omega)
    .have e:(oq d.vb x (J U 0 0) x).ownBlock=S k:=e;rw[eE] at e;simp[Value.ownBlock] at e
def Dv.Cu(d:Dv)(y:WU):Option Nat:=if d.up=W8 then Sd.jy d.names y else U
def Dv.pP(d:Dv)(y:WU):Int:=if d.up=W8 then (if Sd.dF d.names y=W8 then 0 else 11) else 9
theorem mv(b:Nat)(d:Dv)(y:WU)(w:WR)(h:kK w b d)(M:Xg d.names<=1000000000):WT prog 133 #[WV (S ⟨b,0,U⟩),H y] w λe N=>e=WZ (WX #[eV (d.Cu y),Z Y (d.pP y)])/\oO w N b d d.dY:=by
 have m:=l6 b d w h;cases l:d.up with
 |false =>
  have u:Hid (d.Cu y=U):=by show _=_;unfold Dv.Cu;rw[l];rfl
  have z:Hid (d.pP y=9):=by show _=_;unfold Dv.pP;rw[l];rfl
  rw[l] at m;rw[cS u,cS z];unfold eV;clear h l u z;go_enter func133,ntmps133;go_wp2_with fail;refine m.mono ?_;rintro e C ⟨rfl,r,_⟩;have A:=cT r;clear r m;go_wp2;go_ret2;exact⟨O,cS A⟩
 |true =>
  have F:=(jG d).1;have j:=λW (P:kK W b d.dY)=>yU b 1 _ _ d.dY.vn d.dY.names y W (P.Kd (by rw[F];exact M))
  rw[F] at j;rw[l] at m;cases hh:Sd.dF d.names y with
  |true =>
   have z:Hid (d.pP y=0):=by show _=_;unfold Dv.pP;rw[l,hh];rfl
   obtain⟨_,_,L⟩:=Sd.gn h.sn hh;obtain⟨f,G⟩:∃f,Sd.jy d.names y=S f:=⟨_,L⟩
   have u:Hid (d.Cu y=S f):=by show _=_;unfold Dv.Cu;rw[l,G];rfl
   rw[hh,G] at j;rw[cS u,cS z];clear h l u z hh L G F;unfold eV eD at j ⊢;go_enter func133,ntmps133;go_wp2_with fail;refine m.mono ?_;rintro e C ⟨rfl,r,_⟩;have B:=j C r.at';have A:=cT r;clear r m j;go_wp2_with fail;refine B.mono ?_;rintro e Q ⟨rfl,I⟩;clear B;go_wp2;go_ret2;exact⟨O,(cS A).trans (oO.below (cS A).at' I)⟩
  |false =>
   have z:Hid (d.pP y=11):=by show _=_;unfold Dv.pP;rw[l,hh];rfl
   have u:Hid (d.Cu y=U):=by show _=_;unfold Dv.Cu;rw[l,Sd.mf hh];rfl
   rw[hh,Sd.mf hh] at j;rw[cS u,cS z];clear h l u z hh F;unfold eV at j ⊢;go_enter func133,ntmps133;go_wp2_with fail;refine m.mono ?_;rintro e C ⟨rfl,r,_⟩;have B:=j C r.at';have A:=cT r;clear r m j;go_wp2_with fail;refine B.mono ?_;rintro e Q ⟨rfl,I⟩;clear B;go_wp2;go_ret2;exact⟨O,(cS A).trans (oO.below (cS A).at' I)⟩
def sX(w:WR)(b:Nat)(d:Dv)(n:Int)(P:Dv->Prop)(e:Ending)(w':WR):Prop:=e=WZ (Z Y n)/\∃j,P j/\oO w w' b d j
def Dv.Oz(d:Dv)(y:WU):Int:=if d.up=W9 then 9 else if Rd.nk y=W8 then 0 else 10
def Dv.Mk(d:Dv)(y:WU)(N:Nat)(j:Dv):Prop:=if d.up=W8/\Rd.nk y=W8 then ∃f b e,N<=f/\j=(d.dY.pN f).F3 ⟨Rd.e0,y,S f⟩ b e else j=d.dY
theorem DH(b:Nat)(d:Dv)(y:WU)(w:WR)(h:kK w b d)(o:Xg d.dW<=1000000000)(N:Xg d.names<=1000000000)(g:y.size<=1048576):WT prog 140 #[WV (S ⟨b,0,U⟩),H y] w (sX w b d (d.Oz y) (d.Mk y (K (E w)))):=by
 have l:=l6 b d w h;obtain⟨t,_,s,_⟩:=jG d;cases j:d.up with
 |false =>
  have A:Hid (d.Oz y=9):=by show _=_;unfold Dv.Oz;rw[j];rfl
  have G:Hid (d.Mk y (K (E w)) d.dY):=by show Dv.Mk _ _ _ _;unfold Dv.Mk;rw[TZ (by rw[j];simp)]
  rw[j] at l;rw[cS A];clear h j A;go_enter func140,ntmps140;go_wp2_with fail;refine l.mono ?_;rintro e P ⟨rfl,B,_⟩;have F:=cT B;clear B l;go_wp2;go_ret;exact⟨O,_,cS G,cS F⟩
 |true =>
  rw[j] at l;cases z:Rd.nk y with
  |false =>
   have A:Hid (d.Oz y=10):=by show _=_;unfold Dv.Oz;rw[j,z];rfl
   have G:Hid (d.Mk y (K (E w)) d.dY):=by show Dv.Mk _ _ _ _;unfold Dv.Mk;rw[TZ (by rw[z];simp)]
   have C:∀W,WT prog 143 #[H y] W λe Q=>e=WZ (WW W9)/\Q=W:=λW=>by have:=gi y W;rw[z] at this;exact this
   rw[cS A];clear h j A z;go_enter func140,ntmps140;go_wp2_with fail;refine l.mono ?_;rintro e P ⟨rfl,B,_⟩;have F:=cT B;clear B l;go_wp2_with fail;refine(C _).mono ?_;rintro e R ⟨rfl,T⟩;obtain rfl:=T.symm;go_wp2;go_ret;exact⟨O,_,cS G,cS F⟩
  |true =>
   have A:Hid (d.Oz y=0):=by show _=_;unfold Dv.Oz;rw[j,z];rfl
   have G:Hid (∀f m r,K (E w)<=f->d.Mk y (K (E w)) ((d.dY.pN f).F3 ⟨Rd.e0,y,S f⟩ m r)):=λf m r M=>by unfold Dv.Mk;rw[T0 ⟨j,z⟩];exact⟨f,m,r,M,O⟩
   have C:∀W,WT prog 143 #[H y] W λe Q=>e=WZ (WW W8)/\Q=W:=λW=>by have:=gi y W;rw[z] at this;exact this
   have V:=cT (Rd.oR z);rw[cS A];clear h j A z;go_enter func140,ntmps140;go_wp2_with fail;refine l.mono ?_;rintro e P ⟨rfl,B,aa⟩;have F:=cT B;clear B l;go_wp2_with fail;refine(C _).mono ?_;rintro e R ⟨rfl,T⟩;obtain rfl:=T.symm;go_wp2_with fail;refine(Cn y P g).mono ?_;rintro e R ⟨f,rfl,I,M,L⟩;have X:=(cS F).at'.pN I M L;have u:=qD b (d.dY.pN f) ⟨Rd.e0,y,S f⟩ R X.at' (by show (Xg d.dY.dW)<=_;rw[s];exact o) (by show (Xg d.dY.names)<=_;rw[t];exact N) (Xa ⟨f,rfl,cS V⟩) (λx hx=>by cases hx;exact Vp _ (Uz.2 O));unfold eV at u;have H1:=cT ((cS F).trans X);have q:K (E w)<=f:=by omega
   clear X I L M t s;go_wp2_with fail;refine u.mono ?_;rintro e w2 ⟨rfl,m,r,p⟩;have H2:=cT p;clear u p;go_wp2;go_ret;exact⟨O,_,(cS G) f m r q,(cS H1).trans (cS H2)⟩
end Pk
namespace Pk
open Sd (Tb)
open Dk
def Dv.PA(d:Dv)(y:WU)(j:Dv):Prop:=if d.pP y=0 then ∃b e,j=d.dY.F3 ⟨y,Rd.e0,U⟩ b e else j=d.dY
theorem kt(b:Nat)(d:Dv)(y:WU)(w:WR)(h:kK w b d)(T:Xg d.dW<=1000000000)(z:Xg d.names<=1000000000)(V:y.size<=1048576)(A:Sd.dF d.names Rd.e0=W9):WT prog 91 #[WV (S ⟨b,0,U⟩),H y] w (sX w b d (d.pP y) (d.PA y)):=by
 have j:=mv b d y w h z;obtain⟨P,_,Q,_⟩:=jG d;by_cases u:d.pP y=0
 .have L:Hid (∀l m,d.PA y (d.dY.F3 ⟨y,Rd.e0,U⟩ l m)):=λl m=>by unfold Dv.PA;rw[T0 u];exact⟨l,m,O⟩
  have B:¬y=Rd.e0:=λe=>by
   unfold Dv.pP at u;rw[e,A] at u;split at u
   .rw[TZ (by decide)] at u;omega
   .omega
  have W:=cT B;rw[u] at j ⊢;obtain⟨p,C⟩:∃p,eV (d.Cu y)=WV p:=by cases d.Cu y <;> exact⟨_,O⟩
  rw[C] at j;clear h u C B A;go_enter func91,ntmps91;go_wp2_with fail;refine j.mono ?_;rintro e X ⟨rfl,F⟩;have I:=cT F;clear j F;go_wp2_with fail;refine(AV y _ V).mono ?_;rintro e q ⟨rfl,G⟩;have M:=(cS I).trans (oO.below (cS I).at' G);have r:=qD b d.dY ⟨y,Rd.e0,U⟩ q M.at' (by rw[Q];exact T) (by rw[P];exact z) (Xb ⟨rfl,rfl,cS W⟩) (λx t=>by cases t);unfold eV at r;have s:=cT M;clear M G P Q;go_wp2_with fail;refine r.mono ?_;rintro e w3 ⟨rfl,l,m,R⟩;have o:=cT R;clear r R;go_wp2;go_ret;exact⟨O,_,(cS L) l m,(cS s).trans (cS o)⟩
 .have L:Hid (d.PA y d.dY):=by show Dv.PA _ _ _;unfold Dv.PA;rw[TZ u]
  obtain⟨n,N⟩:∃n,d.pP y=n:=⟨_,rfl⟩
  have g:(n == 0)=W9:=Uh.2 (N ▸ u);rw[N] at j ⊢;obtain⟨p,C⟩:∃p,eV (d.Cu y)=WV p:=by cases d.Cu y <;> exact⟨_,O⟩
  rw[C] at j;clear h u C N;go_enter func91,ntmps91;go_wp2_with fail;refine j.mono ?_;rintro e X ⟨rfl,F⟩;have I:=cT F;clear j F;go_wp2;go_ret;exact⟨O,_,cS L,cS I⟩
def Dv.JW(d:Dv)(x y:WU):Int:=if d.up=W8/\Rd.nk y=W9 then 10 else d.pP x
def Dv.CL(d:Dv)(x y:WU)(j:Dv):Prop:=if d.JW x y=0/\¬x=y then ∃f b e,Sd.jy d.names x=S f/\j=d.dY.F3 ⟨x,y,S f⟩ b e else j=d.dY
theorem DK(b:Nat)(d:Dv)(x y:WU)(w:WR)(h:kK w b d)(hl:Xg d.dW<=1000000000)(t:Xg d.names<=1000000000)(hx:x.size<=1048576)(hy:y.size<=1048576):WT prog 95 #[WV (S ⟨b,0,U⟩),H x,H y] w (sX w b d (d.JW x y) (d.CL x y)):=by
 have l:=l6 b d w h;obtain⟨g,_,ec,ef,_⟩:=jG d;cases m:d.up with
 |false =>
  have r:d.JW x y=9:=by unfold Dv.JW Dv.pP;rw[m];simp
  have N:Hid (d.CL x y d.dY):=by show Dv.CL _ _ _ _;unfold Dv.CL;rw[TZ (by rw[r];simp)]
  rw[m] at l;rw[r];clear h m r;go_enter func95,ntmps95;go_wp2_with fail;refine l.mono ?_;rintro e P ⟨rfl,u,_⟩;have F:=cT u;clear u l;go_wp2;go_ret;exact⟨O,_,cS N,cS F⟩
 |true =>
  rw[m] at l;have B:∀W,WT prog 143 #[H y] W λe w'=>e=WZ (WW (Rd.nk y))/\w'=W:=λW=>gi y W
  cases Q:Rd.nk y with
  |false =>
   have r:d.JW x y=10:=by unfold Dv.JW;rw[m,Q];simp
   have N:Hid (d.CL x y d.dY):=by show Dv.CL _ _ _ _;unfold Dv.CL;rw[TZ (by rw[r];simp)]
   rw[Q] at B;rw[r];clear h m Q r;go_enter func95,ntmps95;go_wp2_with fail;refine l.mono ?_;rintro e P ⟨rfl,u,_⟩;have F:=cT u;clear u l;go_wp2_with fail;refine(B _).mono ?_;rintro e q ⟨rfl,V⟩;obtain rfl:=V.symm;go_wp2;go_ret;exact⟨O,_,cS N,cS F⟩
  |true =>
   have aa:=cT (Rd.oR Q);have j:=λW (hW:kK W b d.dY)=>yU b 1 _ _ d.dY.vn d.dY.names x W (hW.Kd (by rw[g];exact t))
   rw[g] at j;have X:d.JW x y=if Sd.dF d.names x=W8 then 0 else 11:=by unfold Dv.JW Dv.pP;rw[TZ (by rw[Q];simp),m];simp
   rw[Q] at B;cases G:Sd.dF d.names x with
   |false =>
    rw[G] at X;have r:d.JW x y=11:=by rw[X];simp
    have N:Hid (d.CL x y d.dY):=by show Dv.CL _ _ _ _;unfold Dv.CL;rw[TZ (by rw[r];simp)]
    rw[G,Sd.mf G] at j;unfold eV at j;rw[r];clear h m Q r X G;go_enter func95,ntmps95;go_wp2_with fail;refine l.mono ?_;rintro e P ⟨rfl,u,_⟩;have R:=j P u.at';have F:=cT u;clear u l j;go_wp2_with fail;refine(B _).mono ?_;rintro e q ⟨rfl,V⟩;obtain rfl:=V.symm;go_wp2_with fail;refine R.mono ?_;rintro e q ⟨rfl,A⟩;clear R;go_wp2;go_ret;exact⟨O,_,cS N,(cS F).trans (oO.below (cS F).at' A)⟩
   |true =>
    rw[G] at X;have r:d.JW x y=0:=by rw[X];simp
    obtain⟨_,_,e2⟩:=Sd.gn h.sn G;obtain⟨f,s⟩:∃f,Sd.jy d.names x=S f:=⟨_,e2⟩
    have HM:=cT (h.Hb (x,f) ((Sd.fO h.sn).1 s));rw[G,s] at j;unfold eV eD at j;by_cases C:x=y
    .have N:Hid (d.CL x y d.dY):=by show Dv.CL _ _ _ _;unfold Dv.CL;rw[TZ (λG=>G.2 C)]
     have g1:=Rd.P7 C;rw[r];clear h m Q r X G e2 s C;go_enter func95,ntmps95;go_wp2_with fail;refine l.mono ?_;rintro e P ⟨rfl,u,_⟩;have R:=j P u.at';have F:=cT u;clear u l j;go_wp2_with fail;refine(B _).mono ?_;rintro e q ⟨rfl,V⟩;obtain rfl:=V.symm;go_wp2_with fail;refine R.mono ?_;rintro e q ⟨rfl,A⟩;clear R;go_wp2;go_ret;exact⟨O,_,cS N,(cS F).trans (oO.below (cS F).at' A)⟩
    .have N:Hid (∀I L,d.CL x y (d.dY.F3 ⟨x,y,S f⟩ I L)):=λI L=>by unfold Dv.CL;rw[T0 ⟨r,C⟩];exact⟨f,I,L,s,O⟩
     have g1:=Rd.QR C;rw[r];clear h m Q r X G e2 s C;go_enter func95,ntmps95;go_wp2_with fail;refine l.mono ?_;rintro e P ⟨rfl,u,_⟩;have R:=j P u.at';have F:=cT u;clear u l j;go_wp2_with fail;refine(B _).mono ?_;rintro e q ⟨rfl,V⟩;obtain rfl:=V.symm;go_wp2_with fail;refine R.mono ?_;rintro e q ⟨rfl,A⟩;clear R;have p:=λW=>Bh x y f W hx hy
     unfold eD at p;go_wp2_with fail;refine(p _).mono ?_;rintro e w2 ⟨rfl,o⟩;have T:WQ P w2:=A.trans (o.mono A.size);have h2:=(cS F).trans (oO.below (cS F).at' T);have M:=qD b d.dY ⟨x,y,S f⟩ w2 h2.at' (by rw[ec];exact hl) (by rw[g];exact t) (Xa ⟨f,rfl,cS aa⟩) (λz hz=>by cases hz;rw[ef];exact cS HM);unfold eV eD at M;have H2:=cT h2;clear h2 A o T g ec ef;go_wp2_with fail;refine M.mono ?_;rintro e w3 ⟨rfl,I,L,h3⟩;have H3:=cT h3;clear M h3;go_wp2;go_ret;exact⟨O,_,(cS N) I L,(cS H2).trans (cS H3)⟩
end Pk
namespace Pk
open Sd (Tb)
open Dk
def uW(b:Nat)(d:Dv)(T:Tb)(w:WR)(e:Ending)(w':WR):Prop:=e=WZ (WX #[])/\∃j,w'.heap[b]?=S (D ({ d with vs:=j,vc := J U 0 0 }:Dv).cells 64 (0,0))/\
  w'.ownsRow 0 194 2 j (Xg T) (Dk.cU T)/\Kept w w' (λk=>k≠b)/\∀g,j.ownBlock=S g->K (E w)<=g
theorem r6(b:Nat)(d:Dv)(T:Tb)(w:WR)(h:eT w b 1 d.cells 64 d.vn T)(B:∃p n c,d.vs=J p n c)(C:∃p n c,d.vc=J p n c):WT prog 60 #[WV (S ⟨b,0,U⟩)] w (uW b d T w):=by
 have u:=CX b 1 d.cells 64 d.vn T w h;obtain⟨N,P,Q,A⟩:=B;obtain⟨R,V,W,I⟩:=C;have F:=cT h.blk;clear h;go_enter func60,ntmps60;go_wp2_with fail;refine u.mono ?_;rintro e m ⟨v',rfl,y,z,r⟩;have l:=(z.block b (cV (cS F))).trans (cS F);have X:m.cell? ⟨b,2,U⟩=S (J N P Q):=by rw[T5 m _ 2 _ _ _ l,<-A];rfl
 have q:m.cell? ⟨b,3,U⟩=S (J R V W):=by rw[T5 m _ 3 _ _ _ l,<-I];rfl
 have t:m.frozen? ⟨b,2,U⟩=W9:=by simp[World.frozen?,l]
 have s:m.frozen? ⟨b,3,U⟩=W9:=by simp[World.frozen?,l]
 obtain⟨L,M,rfl⟩:=gw y;have j:=cT (And.intro y (And.intro z (And.intro r l)));clear u y z r l A I;go_wp2;obtain⟨y,z,r,l⟩:=cS j;have o:b<K (E w):=cV (cS F);refine Ub (Ua O _ _ _) O ⟨O,J L (Xg T) M,?_,?_,?_,r⟩
 .have g:=Ue m b 2 _ _ (J L (Xg T) M) l;have A:=Ue _ b 3 _ _ (J U 0 0) g;exact A
 .refine U1 (U1 y (λe=>?_) _) (λe=>?_) _
  .have:=r _ e;simp at this;omega
  .have:=r _ e;simp at this;omega
 .exact((Kept.below z _).setCell (λG=>G O) _).setCell (λG=>G O) _
def Dv.sy(d:Dv)(b:WS):Dv:={ d with safe:=d.names,dW:=[],vs:=b,vc := J U 0 0 }
variable {d:Dv}{w:WR}
theorem kK.sy{w':WR}{b:Nat}{j:WS}(hd:kK w b d)(m:w'.heap[b]?=S (D ({ d with vs:=j,vc := J U 0 0 }:Dv).cells 64 (0,0)))(r:w'.ownsRow 0 194 2 j (Xg d.names) (Dk.cU d.names))(u:Kept w w' (λk=>k≠b))(A:∀g,j.ownBlock=S g->K (E w)<=g): oO w w' b d (d.sy j):=by
 refine⟨⟨m,?_,r,Uw _ _ _ _,hd.sn,hd.sn,λg y e=>?_,λf B=>?_,hd.fap,hd.Hb,hd.Hb,λc z=>(by cases z)⟩,u.mono (λk _ h e=>h (Xa e)),λk u=>?_⟩
 .refine dv hd.rn u (λg y=>?_);obtain⟨c,z,_⟩:=dh hd.rn y;exact de z hd.blk (by decide)
 .have:=A g e;have:=jK hd.rn y;omega
 .have l:=hd.files f B;refine l.kept u (de l.blk hd.blk (by decide)) (λg y=>?_);obtain⟨c,z⟩:=l.own y;exact de z hd.blk (by decide)
 .rcases u with e|e|e|e|e
  .exact Xa (Xa e)
  .exact Xa (Xb (Xa e))
  .exact Xb (A k e)
  .simp[Dv.sy,Value.ownBlock] at e
  .exact Xa (Xb (Xb (Xb (Xb e))))
def Dv.Rh(d:Dv):Int:=if d.up=W8 then 0 else 9
def Dv.PB(d:Dv)(e:Dv):Prop:=if d.up=W8 then ∃b,e=d.dY.sy b else e=d.dY
theorem BM(b:Nat)(d:Dv)(w:WR)(h:kK w b d)(N:Xg d.names<=1000000000):WT prog 92 #[WV (S ⟨b,0,U⟩)] w (sX w b d d.Rh d.PB):=by
 have u:=l6 b d w h;obtain⟨L,_,P,_⟩:=jG d;cases l:d.up with
 |false =>
  have A:d.Rh=9:=by unfold Dv.Rh;rw[l];rfl
  have I:Hid (d.PB d.dY):=by show Dv.PB _ _;unfold Dv.PB;rw[l];rfl
  rw[l] at u;rw[A];clear h l A;go_enter func92,ntmps92;go_wp2_with fail;refine u.mono ?_;rintro e M ⟨rfl,z,_⟩;have C:=cT z;clear z u;go_wp2;go_ret;exact⟨O,_,cS I,cS C⟩
 |true =>
  have A:d.Rh=0:=by unfold Dv.Rh;rw[l];rfl
  have I:Hid (∀y,d.PB (d.dY.sy y)):=λy=>by unfold Dv.PB;rw[T0 l];exact⟨y,O⟩
  rw[l] at u;rw[A];clear h l A;go_enter func92,ntmps92;go_wp2_with fail;refine u.mono ?_;rintro e M ⟨rfl,z,_⟩;have hd:=z.at';have B:=r6 b d.dY d.dY.names M (hd.Kd (by rw[L];exact N)) (by obtain⟨p,c,e⟩:=gw hd.rs;exact⟨p,_,c,e⟩) (by obtain⟨p,c,e⟩:=gw hd.rc;exact⟨p,_,c,e⟩);have C:=cT z;clear z u hd L P;go_wp2_with fail;refine B.mono ?_;rintro e Q ⟨rfl,y,m,r,F,G⟩;have j:=cT (And.intro m (And.intro r (And.intro F G)));clear B m r F G;go_wp2;go_ret;obtain⟨m,r,F,G⟩:=cS j;exact⟨O,_,(cS I) y,(cS C).trans ((cS C).at'.sy m r F G)⟩
def Dv.n9(d:Dv)(f:Nat)(X:Fl)(v':WS):Dv:={ d with F:=oq d.F f X,vb:=oq d.vb f v' }
theorem xF{W:WR}{b f:Nat}{X:Fl}{v':WS}(hd:kK w b d)(I:f∈d.fs)(P:Kept w W (λk=>k≠f/\(d.vb f).ownBlock≠S k))(L:rH W f X v')(p:v'.ownBlock=(d.vb f).ownBlock\/∃g,v'.ownBlock=S g/\(K (E w))<=g):oO w W b d (d.n9 f X v'):=by
 have u:=hd.files f I;have R:=cV hd.blk;have y:∀g e c,w.heap[g]?=S (D c e (0,0))->e≠127->e≠5->(g≠f/\(d.vb f).ownBlock≠S g):=λg e c j T V=>by
  refine⟨de j u.blk T,λz=>?_⟩;obtain⟨c',q⟩:=u.own z;exact de j q V O
 have m:∀{e size n:Nat} {v:WS} {o:List WS},w.ownsRow 0 e size v n o->e≠127->e≠5->W.ownsRow 0 e size v n o:=λh T V=>dv h P (λg j=>by
  obtain⟨c,C,_⟩:=dh h j;exact y g _ c C T V)
 have A:∀k,k∈d.fs->k≠f->∀g,v'.ownBlock=S g->(d.vb k).ownBlock≠S g:=λk M i g j e=>by
  rcases p with h|⟨g',h,t⟩
  .rw[h] at j;exact hd.fap f k I M (Vm i) g j e
  .rw[h] at j;have:g'=g:=Ut j;obtain⟨c,C⟩:=(hd.files k M).own e;have:=cV C;omega
 refine⟨⟨?_,m hd.rn (by decide) (by decide),m hd.rs (by decide) (by decide),m hd.rc (by decide) (by decide),hd.sn,hd.ss,hd.apart,λk l=>?_,λk Q l B G g j=>?_,hd.Hb,hd.QS,hd.Qp⟩,P.mono (λk _ hh=>⟨λe=>hh (Xb (Xb (Xb (Xb ⟨f,I,Xa e⟩)))),λe=>hh (Xb (Xb (Xb (Xb ⟨f,I,Xb e⟩))))⟩),λk s=>?_⟩
 .have:=y b _ _ hd.blk (by decide) (by decide);rw[P.block b R this];exact hd.blk
 .show rH W k (oq d.F f X k) (oq d.vb f v' k)
  by_cases e:k=f
  .subst e;rw[eE,eE];exact L
  .rw[ek _ _ e,ek _ _ e];refine(hd.files k l).kept P ⟨e,λz=>?_⟩ (λg j=>⟨?_,λz=>hd.fap k f l I e g j z⟩)
   .obtain⟨c,C⟩:=u.own z;exact de C (hd.files k l).blk (by decide) O
   .obtain⟨c,C⟩:=(hd.files k l).own j;exact de C u.blk (by decide)
 .have r:(oq d.vb f v' k).ownBlock=S g:=j;clear j
  show (oq d.vb f v' Q).ownBlock≠S g
  by_cases e:k=f
  .subst e;rw[eE] at r;rw[ek _ _ (Vm G)];exact A Q B (Vm G) g r
  .rw[ek _ _ e] at r;by_cases z:Q=f
   .subst z;rw[eE];exact λh=>A k l e g h r
   .rw[ek _ _ z];exact hd.fap k Q l B G g r
 .rcases s with e|e|e|e|⟨x,L,e⟩
  .exact Xa (Xa e)
  .exact Xa (Xb (Xa e))
  .exact Xa (Xb (Xb (Xa e)))
  .exact Xa (Xb (Xb (Xb (Xa e))))
  .by_cases N:x=f
   .subst N;rcases e with e|e
    .exact Xa (Xb (Xb (Xb (Xb ⟨x,L,Xa e⟩))))
    .have e:(oq d.vb x v' x).ownBlock=S k:=e;rw[eE] at e;rcases p with h|⟨g',h,t⟩
     .exact Xa (Xb (Xb (Xb (Xb ⟨x,L,Xb (h ▸ e)⟩))))
     .rw[h] at e;have:=Ut e;exact Xb (by omega)
   .refine Xa (Xb (Xb (Xb (Xb ⟨x,L,?_⟩))));rcases e with e|e
    .exact Xa e
    .have e:(oq d.vb f v' x).ownBlock=S k:=e;rw[ek _ _ N] at e;exact Xb e
theorem sG{f:Nat}{X:Fl}{v:WS}(h:rH w f X v)(n:Nat): rH (w.setCell ⟨f,1,U⟩ (Z Y n)) f ⟨X.bytes,n⟩ v:=⟨by rw[Ue w f 1 _ _ _ h.blk];rfl,U1 h.row (λe=>by
  obtain⟨c,b⟩:=h.own e;exact de b h.blk (by decide) O) _⟩
theorem BK{y:WU}(j:Sd.di d.names)(h:d.pP y=0): ∃f,Sd.jy d.names y=S f/\d.Cu y=S f:=by
 unfold Dv.pP at h;cases b:d.up with
 |false=>rw[b] at h;simp at h
 |true =>
  cases hh:Sd.dF d.names y with
  |false=>rw[b,hh] at h;simp at h
  |true =>
   obtain⟨_,_,e⟩:=Sd.gn j hh;refine⟨_,e,?_⟩;unfold Dv.Cu;rw[T0 b,e]
def Dv.PT(d:Dv)(y:WU)(b:Dv):Prop:=if d.pP y=0 then ∃f e,Sd.jy d.names y=S f/\b=d.dY.n9 f ⟨(d.F f).bytes,(d.F f).bytes.size⟩ e else b=d.dY
theorem JN(b:Nat)(d:Dv)(y:WU)(w:WR)(h:kK w b d)(o:Xg d.names<=1000000000):WT prog 142 #[WV (S ⟨b,0,U⟩),H y] w (sX w b d (d.pP y) (d.PT y)):=by
 have j:=mv b d y w h o;obtain⟨g,_,ec,V,X,_⟩:=jG d;by_cases z:d.pP y=0
 .obtain⟨f,M,G⟩:=BK h.sn z;have N:Hid (∀P,d.PT y (d.dY.n9 f ⟨(d.F f).bytes,(d.F f).bytes.size⟩ P)):=λP=>by unfold Dv.PT;rw[T0 z];exact⟨f,P,M,O⟩
  have HM:=cT (h.Hb (y,f) ((Sd.fO h.sn).1 M));rw[G,z] at j;rw[z];unfold eV eD at j;clear h z M G;go_enter func142,ntmps142;go_wp2_with fail;refine j.mono ?_;rintro e A ⟨rfl,B⟩;have I:=B.at';have C:f∈d.dY.fs:=by rw[V];exact cS HM
  have m:=I.files f C;rw[X] at m;have u:=m.row;obtain⟨p,Q,q⟩:=gw u;have l:=m.blk;rw[q] at l;have c0:A.cell? ⟨f,0,U⟩=S (J p (d.F f).bytes.size Q):=by rw[T5 A _ 0 _ _ _ l];rfl
  have c1:A.cell? ⟨f,1,U⟩=S (Z Y (d.F f).safe):=by rw[T5 A _ 1 _ _ _ l];rfl
  have f1:A.frozen? ⟨f,1,U⟩=W9:=by simp[World.frozen?,l]
  have hm:(d.F f).bytes.size<=9223372036854775807:=by
   rcases u.2 with ⟨_,z⟩|⟨_,t,_,_,_,_,B,h2,_⟩
   .omega
   .unfold maxLen at h2;omega
  have HF:=cT m;have L:=cT B;have R:=cT C;clear I m u q l B j C X V g ec;go_wp2;go_ret;have r:=xF (cS L).at' (cS R) (W:=A.setCell ⟨f,1,U⟩ (Z Y ((d.F f).bytes.size:Nat))) ((Kept.refl A _).setCell (λhk=>hk.1 O) _) (sG (cS HF) (d.F f).bytes.size) (Xa O);exact⟨O,_,(cS N) _,(cS L).trans r⟩
 .have N:Hid (d.PT y d.dY):=by show Dv.PT _ _ _;unfold Dv.PT;rw[TZ z]
  obtain⟨n,T⟩:∃n,d.pP y=n:=⟨_,rfl⟩
  have aa:(n == 0)=W9:=Uh.2 (T ▸ z);rw[T] at j ⊢;obtain⟨p,s⟩:∃p,eV (d.Cu y)=WV p:=by cases d.Cu y <;> exact⟨_,O⟩
  rw[s] at j;clear h z s T;go_enter func142,ntmps142;go_wp2_with fail;refine j.mono ?_;rintro e A ⟨rfl,B⟩;have L:=cT B;clear j B;go_wp2;go_ret;exact⟨O,_,cS N,cS L⟩
end Pk
end Go.Proofs.YtgkkdpegcieakaaGreatDoor
