import Derived.Test.YtgkkdpegcieakaaGreatDoorCv14
set_option linter.all false
set_option maxRecDepth 100000
set_option maxHeartbeats 0
namespace Go.Proofs.YtgkkdpegcieakaaGreatDoor
open Go.Proofs.Tryz
open Value renaming int→Z,slice→J,string→H,pointer→V9,bool→Wa,tuple→Wb,agg→Wc
open Ending renaming returned→Wd
open Obj renaming cells→D
open Option renaming none→U,some→S
open Bool renaming true→We,false→Wg
open Or renaming inl→Wh,inr→Wi
open List renaming length→Wn
open _root_.Array renaming size→N
open World renaming heap→E
open IntKind renaming i64→Y
open Go renaming World→V5,Value→V6,Calls→V7
open Go.RowKit
namespace Pk
open Sd (Tb)
open Dk (Kept dy eW dO cV eH eZ)
structure Fl where
 bytes:V8
 safe:Nat
structure Ch where
 gone:V8
 name:V8
 file:Option Nat
structure Dv where
 q:Int
 names:Tb
 safe:Tb
 dX:List Ch
 fs:List Nat
 F:Nat->Fl
 vb:Nat->V6
 vn:V6
 vs:V6
 vc:V6
 left:Int
 mr:Bool
 down:Bool
def byteCells(b:V8):List V6:=b.data.toList.map λx=>Z .u8 x.toNat
theorem qg(b:V8):(byteCells b).length=b.size:=by unfold byteCells;rw[Ue,Uv];rfl
def gZ(L:List Ch):List V6:=L.flatMap λc=>[H c.gone,H c.name,eZ c.file]
def Dv.cells(d:Dv):Array V6 := #[Z Y d.q,d.vn,d.vs,d.vc,Z Y d.left,Wa d.mr,Wa d.down]
structure sj (w:V5) (f:Nat) (X:Fl) (v:V6):Prop where
 blk:w.heap[f]?=S (D #[v,Z Y X.safe] 127 (0,0))
 row:w.ownsRow 0 5 1 v X.bytes.size (byteCells X.bytes)
structure ly (w:V5) (D:Nat) (d:Dv):Prop where
 blk:w.heap[D]?=S (.cells d.cells 64 (0,0))
 rn:w.ownsRow 0 194 2 d.vn (Wn d.names) (Dk.cV d.names)
 rs:w.ownsRow 0 194 2 d.vs (Wn d.safe) (Dk.cV d.safe)
 rc:w.ownsRow 0 129 3 d.vc (Wn d.dX) (gZ d.dX)
 sn:Sd.dj d.names
 ss:Sd.dj d.safe
 apart:∀g,d.vn.ownBlock=S g->d.vs.ownBlock≠S g
 files:∀f,f∈d.fs->sj w f (d.F f) (d.vb f)
 fap:∀f f',f∈d.fs->f'∈d.fs->f≠f'->∀g,(d.vb f).ownBlock=S g->(d.vb f').ownBlock≠S g
 Ga:∀p,p∈d.names->p.2∈d.fs
 Oj:∀p,p∈d.safe->p.2∈d.fs
 P5:∀c,c∈d.dX->∀f,c.file=S f->f∈d.fs
variable {w:V5}
theorem cX{b:Nat}{o:Obj}(h:w.heap[b]?=S o): b<N (E w):=(Ts.1 h).1
theorem dh{a b:Nat}{x y:Array V6}{t u:TypeId}{p q:Nat × Nat}(h:w.heap[a]?=S (D x t p))(k:w.heap[b]?=S (D y u q))(ht:t≠u): a≠b:=λe=>by
 subst e;rw[h] at k;injection k with k;injection k with _ k;exact ht k
variable {xs:List V6}{e n size B g:Nat}{v:V6}
theorem di(h:w.ownsRow B e size v n xs)(l:v.ownBlock=S g): ∃b,w.heap[g]?=S (D b e (0,0))/\B<=g:=by
 rcases h.2 with ⟨rfl,_⟩|⟨m,r,b,rfl,u,j,_⟩
 .simp[Value.ownBlock] at l
 .have:m=g:=by simpa [Value.ownBlock] using l
  subst this;exact⟨b,j,u⟩
theorem jI(h:w.ownsRow B e size v n xs)(b:v.ownBlock=S g): g<N (E w):=by
 obtain⟨j,l,_⟩:=di h b;exact cX l
theorem mj{y:Nat}(h:w.ownsRow B e size v n xs)(z:y<=B): w.ownsRow y e size v n xs:=by
 obtain⟨A,b⟩:=h;refine⟨A,?_⟩;rcases b with b|⟨g,j,l,C,m,u,r⟩
 .exact .inl b
 .exact .inr ⟨g,j,l,C,To z m,u,r⟩
theorem gG(h:w.ownsRow B e size v n xs): ∃p b,v=J p n b:=by
 rcases h.2 with ⟨rfl,j⟩|⟨g,b,l,rfl,_⟩
 .exact⟨U,0,by rw[j]⟩
 .exact⟨_,b,O⟩
variable {w':V5}{f:Nat}{X:Fl}
theorem sj.below(h:sj w f X v)(hb:V4 w w'): sj w' f X v:=⟨(hb.block f (cX h.blk)).trans h.blk,de h.row hb⟩
theorem sj.kept{b:Nat->Prop}(h:sj w f X v)(j:Kept w w' b)(h1:b f)(h2:∀g,v.ownBlock=S g->b g): sj w' f X v:=⟨(j.block f (cX h.blk) h1).trans h.blk,dy h.row j h2⟩
theorem sj.own(h:sj w f X v)(j:v.ownBlock=S g): ∃b,w.heap[g]?=S (D b 5 (0,0)):=by
 obtain⟨b,l,_⟩:=di h.row j;exact⟨b,l⟩
variable {d:Dv}
theorem ly.below{b:Nat}(h:ly w b d)(hb:V4 w w'): ly w' b d:=⟨(hb.block b (cX h.blk)).trans h.blk,de h.rn hb,de h.rs hb,de h.rc hb,h.sn,h.ss,h.apart,λf j=>(h.files f j).below hb,h.fap,h.Ga,h.Oj,h.P5⟩
def ng(b:Nat)(d:Dv)(k:Nat):Prop:=k=b\/d.vn.ownBlock=S k\/d.vs.ownBlock=S k\/d.vc.ownBlock=S k\/∃f,f∈d.fs/\(k=f\/(d.vb f).ownBlock=S k)
theorem Ec{b:Nat}(h:ly w b d){k:Nat}(l:ng b d k): k<N (E w):=by
 rcases l with rfl|e|e|e|⟨f,j,e|e⟩
 .exact cX h.blk
 .exact jI h.rn e
 .exact jI h.rs e
 .exact jI h.rc e
 .subst e;exact cX (h.files _ j).blk
 .exact jI (h.files f j).row e
structure pN (w w':V5) (D:Nat) (d d':Dv):Prop where
 at':ly w' D d'
 kept:Kept w w' (λk=>¬ng D d k)
 own:∀k,ng D d' k->ng D d k\/N (E w)<=k
theorem pN.below{b:Nat}(h:ly w b d)(hb:V4 w w'): pN w w' b d d:=⟨h.below hb,Kept.below hb _,λk j=>Wh j⟩
theorem pN.trans{l m:V5}{b:Nat}{d1 d2:Dv}(h:pN w l b d d1)(k:pN l m b d1 d2): pN w m b d d2:=by
 have y:=h.kept.size;refine⟨k.at',⟨k.kept.os.trans h.kept.os,k.kept.tape.trans h.kept.tape,k.kept.output.trans h.kept.output,To y k.kept.size,λi hi r=>?_⟩,λi hi=>?_⟩
 .rw[k.kept.block i (by omega) (λj=>by rcases h.own i j with u | u;exact r u;omega),h.kept.block i hi r]
 .rcases k.own i hi with j|j
  .exact h.own i j
  .exact Wi (by omega)
theorem ly.QO{b:Nat}(h:ly w b d){s:Nat}(j:w.ownsRow B e s v n xs)(he:e≠64): v.ownBlock≠S b:=λl=>by
 obtain⟨x,m,_⟩:=di j l;exact dh m h.blk he O
theorem ly.set{W:V5}{j:Nat}{m:Dv}(h:ly w j d)(u:Kept w W (λk=>k≠j))(hb:W.heap[j]?=S (D m.cells 64 (0,0)))(A:m.names=d.names)(y:m.safe=d.safe)(C:m.dX=d.dX)(G:m.fs=d.fs)(I:m.F=d.F)(K:m.vb=d.vb)(L:m.vn=d.vn)(M:m.vs=d.vs)(P:m.vc=d.vc): pN w W j d m:=by
 obtain⟨q,a,b,c,f,F,x,i,t,p,l,o,dn⟩:=m;simp only at A y C G I K L M P;subst A y C G I K L M P;have r:∀{e s n:Nat} {v:V6} {xs:List V6},w.ownsRow 0 e s v n xs->e≠64->W.ownsRow 0 e s v n xs:=λQ R=>dy Q u (λg T y=>by subst y;exact h.QO Q R T)
 refine⟨⟨hb,r h.rn (by decide),r h.rs (by decide),r h.rc (by decide),h.sn,h.ss,h.apart,λf z=>⟨?_,r (h.files f z).row (by decide)⟩,h.fap,h.Ga,h.Oj,h.P5⟩,u.mono (λk _ V e=>V (Wh e)),λk u=>Wh u⟩;rw[u.block f (cX (h.files f z).blk) (dh (h.files f z).blk h.blk (by decide))];exact(h.files f z).blk
def d0(q:Int):Dv:=⟨q,[],[],[],[],λ_=>⟨⟨#[]⟩,0⟩,λ_=>J U 0 0,J U 0 0,J U 0 0,J U 0 0,0,Wg,Wg⟩
theorem Jo(q:Int)(w:V5):V7 prog 21 #[Z Y q] w λe w'=>e=Wd (Wc (d0 q).cells)/\V4 w w'/\(N (E w'))=N (E w)+1:=by
 go_enter func21,ntmps21;go_wp2;refine Tj (v := Wc (d0 q).cells) (by simp[results,results21,go_sem,d0,Dv.cells]) O ⟨O,?_,by simp⟩;exact(Th _ w).alloc V2 _
theorem Ci(q:Int)(w:V5):V7 prog 6 #[Z Y q] w λe w'=>e=Wd (V9 (S ⟨N (E w)+1,0,U⟩))/\V4 w w'/\ly w' (N (E w)+1) (d0 q):=by
 go_enter func6,ntmps6;go_wp2_with fail;refine(Jo q w).mono ?_;rintro e j ⟨rfl,l,m⟩;unfold Dv.cells d0;go_wp2;go_ret;have b:=Tk j (D (d0 q).cells 64);rw[m] at b;exact⟨rfl,l.alloc (by omega) _,⟨b,TH _ _ _ _,TH _ _ _ _,TH _ _ _ _,List.Pairwise.nil,List.Pairwise.nil,λg h=>by simp[d0,Value.ownBlock] at h,λf h=>(by cases h),λf r h=>(by cases h),λp h=>(by cases h),λp h=>(by cases h),λp h=>(by cases h)⟩⟩
def Dv.up(d:Dv):Bool := !(d.down || (d.mr&&decide (d.left=0)))
def Dv.eg(d:Dv):Dv:=if d.mr=We then { d with down:=d.down || decide (d.left=0),left:=wrap64 (d.left-1) } else d
theorem ly.cell{b:Nat}(h:ly w b d): w.cell? ⟨b,0,U⟩=S (Z Y d.q)/\w.cell? ⟨b,1,U⟩=S d.vn/\w.cell? ⟨b,2,U⟩=S d.vs/\w.cell? ⟨b,3,U⟩=S d.vc/\w.cell? ⟨b,4,U⟩=S (Z Y d.left)/\w.cell? ⟨b,5,U⟩=S (Wa d.mr)/\w.cell? ⟨b,6,U⟩=S (Wa d.down):=by
 refine⟨?_,?_,?_,?_,?_,?_,?_⟩ <;> (rw[Ti w b _ _ _ _ h.blk];rfl)
theorem ly.fz{b:Nat}(h:ly w b d)(j:Nat): w.frozen? ⟨b,j,U⟩=Wg:=by simp[World.frozen?,h.blk]
theorem Ey(w:V5)(b j:Nat)(u:V6):Kept w (w.setCell ⟨b,j,U⟩ u) (λk=>k≠b):=(Kept.refl w _).setCell (λl=>l O) _
theorem lU(b:Nat)(d:Dv)(w:V5)(h:ly w b d):V7 prog 136 #[V9 (S ⟨b,0,U⟩)] w λe w'=>e=Wd (Wa d.up)/\pN w w' b d d.eg/\(N (E w'))=N (E w):=by
 obtain⟨_,_,_,_,T,V,W⟩:=h.cell;have f4:=h.fz 4;have f6:=h.fz 6;have j:=cU h;have Q:=h.blk;have z:=cU Q;clear h Q;obtain⟨q,A,C,G,I,F,K,L,M,P,l,t,R⟩:=d;simp only at T V W;cases t with
 |false =>
  cases R with
  |true =>
   go_enter func136,ntmps136;go_wp2;go_ret;exact⟨O,pN.below (cT j) (Th _ _),O⟩
  |false =>
   go_enter func136,ntmps136;go_wp2;go_ret;exact⟨O,pN.below (cT j) (Th _ _),O⟩
 |true =>
  cases R with
  |true =>
   go_enter func136,ntmps136;go_wp2;go_ret;refine⟨O,(cT j).set ?_ ?_ O O O O O O O O O,by simp⟩
   .exact(Ey w b 6 _).setCell (λm=>m O) _
   .have r:=Tq w b 6 _ _ (Wa We) (cT z);have u:=Tq _ b 4 _ _ (Z Y (wrap64 (l-1))) r;exact u
  |false =>
   by_cases y:l=0
   .subst y;go_enter func136,ntmps136;go_wp2;go_ret;refine⟨O,(cT j).set ?_ ?_ O O O O O O O O O,by simp⟩
    .exact(Ey w b 6 _).setCell (λm=>m O) _
    .have r:=Tq w b 6 _ _ (Wa We) (cT z);have u:=Tq _ b 4 _ _ (Z Y (-1)) r;have s:wrap64 (0-1) = -1:=by unfold wrap64;decide
     unfold Dv.eg Dv.cells at *;simp only[TY,s];exact u
   .have p:(l == 0)=Wg:=Tt.2 y;have o:Hid (Dv.up ⟨q,A,C,G,I,F,K,L,M,P,l,We,Wg⟩=We):=by show _=_;unfold Dv.up;simp[y]
    have HC:Hid (Dv.eg ⟨q,A,C,G,I,F,K,L,M,P,l,We,Wg⟩=⟨q,A,C,G,I,F,K,L,M,P,wrap64 (l-1),We,Wg⟩):=by show _=_;unfold Dv.eg;simp[y]
    clear y;go_enter func136,ntmps136;go_wp2;go_ret;rw[cT o,cT HC];refine⟨O,(cT j).set ?_ ?_ O O O O O O O O O,by simp⟩
    .exact(Ey w b 6 _).setCell (λm=>m O) _
    .have r:=Tq w b 6 _ _ (Wa Wg) (cT z);have u:=Tq _ b 4 _ _ (Z Y (wrap64 (l-1))) r;exact u
end Pk
namespace Pk
open Sd (Tb)
open Dk (Kept dy eW dO cV eH eZ)
theorem mb(p:V8)(w:V5)(l:p.size<=140737488355328):V7 prog 209 #[H p] w λe j=>e=Wd (H p)/\V4 w j:=by
 go_enter func209,ntmps209;go_wp2_with fail;refine(Tryz.stringslite_Clone p _ (by omega)).mono ?_;rintro e m ⟨rfl,b⟩;go_wp2;go_ret;exact⟨O,b⟩
theorem rG(c:Nat)(w:V5):V7 prog 211 #[Z .u8 c] w λe y=>e=Wd (Wa (Rd.zP c))/\y=w:=by
 by_cases j:97<=c
 .by_cases z:c<=122
  .have x:=j;have b:Hid (Rd.zP c=We):=by show _=_;unfold Rd.zP;simp;omega
   have l:(97:Int)<=c:=by omega
   have m:(c:Int)<=122:=by omega
   go_enter func211,ntmps211;go_wp2;go_ret;exact⟨by rw[cT b];rfl,O⟩
  .have x:=j;have b:Hid (Rd.zP c=Wg):=by show _=_;unfold Rd.zP;simp;omega
   have l:(97:Int)<=c:=by omega
   have m:¬(c:Int)<=122:=by omega
   have r:(48:Int)<=c:=by omega
   have A:¬(c:Int)<=57:=by omega
   have B:((c:Int) == 46)=Wg:=Tt.2 (by omega);go_enter func211,ntmps211;go_wp2;go_ret;exact⟨by rw[cT b];rfl,O⟩
 .by_cases z:48<=c
  .by_cases u:c<=57
   .have x:=j;have b:Hid (Rd.zP c=We):=by show _=_;unfold Rd.zP;simp;omega
    have l:¬(97:Int)<=c:=by omega
    have m:(48:Int)<=c:=by omega
    have r:(c:Int)<=57:=by omega
    go_enter func211,ntmps211;go_wp2;go_ret;exact⟨by rw[cT b];rfl,O⟩
   .have x:=j;have b:Hid (Rd.zP c=Wg):=by show _=_;unfold Rd.zP;simp;omega
    have l:¬(97:Int)<=c:=by omega
    have m:(48:Int)<=c:=by omega
    have r:¬(c:Int)<=57:=by omega
    have A:((c:Int) == 46)=Wg:=Tt.2 (by omega);go_enter func211,ntmps211;go_wp2;go_ret;exact⟨by rw[cT b];rfl,O⟩
  .by_cases u:c=46
   .have b:Hid (Rd.zP c=We):=by show _=_;subst u;rfl
    subst u;go_enter func211,ntmps211;go_wp2;go_ret;exact⟨O,O⟩
   .have x:=j;have b:Hid (Rd.zP c=Wg):=by show _=_;unfold Rd.zP;simp;omega
    have l:¬(97:Int)<=c:=by omega
    have m:¬(48:Int)<=c:=by omega
    have r:((c:Int) == 46)=Wg:=Tt.2 (by omega);go_enter func211,ntmps211;go_wp2;go_ret;exact⟨by rw[cT b];rfl,O⟩
theorem gi(s:V8)(w:V5):V7 prog 143 #[H s] w λe m=>e=Wd (Wa (Rd.nj s))/\m=w:=by
 by_cases y:s=Rd.e0
 .have T:=Rd.QG y;have I:Hid (Rd.nj s=Wg):=by show _=_;subst y;rfl
  clear y;go_enter func143,ntmps143;go_wp2;go_ret;exact⟨by rw[cT I];rfl,O⟩
 .have T:=Rd.RJ y;have G:1<=s.size:=by
   rcases Nat.eq_zero_or_pos s.size with e|e
   .exact absurd (Uy (Array.eq_empty_of_size_eq_zero e)) y
   .exact e
  clear y;by_cases A:s.size<=12
  .have P:Hid (Rd.nj s=s.data.toList.all λb=>Rd.zP b.toNat):=by show _=_;unfold Rd.nj;rw[TU G,TU A];rfl
   have V:¬(s.size:Int) > 12:=by omega
   go_enter func143,ntmps143;go_wp2
   go_loopw [13] (λK wr=>∃k:Nat,k<=s.size/\K=Z Y k/\wr=w/\Hid (∀j,j<k->Rd.zP (Sp.bt s j)=We)) (λK _=>s.size-(intOf K).toNat)
   case atStart=>exact⟨0,Tp _,rfl,rfl,λj B=>by omega⟩
   case round =>
    obtain⟨k,t,rfl,rfl,Q⟩:=hrel;by_cases l:k<s.size
    .have R:=Sp.jW s k l;obtain⟨b,L⟩:∃b,Sp.bt s k=b:=⟨_,rfl⟩
     rw[L] at R;have W:=cU L;clear L;cases z:Rd.zP b with
     |true =>
      have I:=cU z;have r:V7 prog 211 #[Z .u8 b] wr λe m=>e=Wd (Wa We)/\m=wr:=by have:=rG b wr;rw[z] at this;exact this
      clear z;go_wp2_with (go_at_call 211;refine r.mono ?_;rintro e m ⟨rfl,M⟩;obtain rfl:=M.symm);go_roundw
      case rel=>exact⟨k+1,by omega,by go_num,by first | rfl | trivial,λj B=>by
       rcases VG (Nat.le_of_lt_succ B) with h|h
       .exact(cT Q) j h
       .subst h;rw[cT W];exact cT I⟩
      case measure=>simp[intOf];omega
     |false =>
      have u:Hid (Rd.nj s=Wg):=by
       show _=_
       rw[cT P];apply VR.2;intro X;have G:=List.all_eq_true.1 X (s[k]'l) (by rw[show s[k]'l=s.data.toList[k]'(by rw[Uv];exact l) from rfl];exact Uc _);rw[R,z] at G;cases G
      have r:V7 prog 211 #[Z .u8 b] wr λe m=>e=Wd (Wa Wg)/\m=wr:=by have:=rG b wr;rw[z] at this;exact this
      clear z;go_wp2_with (go_at_call 211;refine r.mono ?_;rintro e m ⟨rfl,M⟩;obtain rfl:=M.symm);go_ret;exact⟨by rw[cT u];rfl,O⟩
    .obtain rfl:k=s.size:=by omega
     have C:Hid (Rd.nj s=We):=by
      show _=_
      rw[cT P,List.all_eq_true];intro x q;obtain⟨j,B,rfl⟩:=T5.1 q;have F:j<s.size:=by rw[Uv] at B;exact B
      have:=(cT Q) j F;rw[<-Sp.jW s j F] at this;exact this
     go_wp2;go_ret;exact⟨by rw[cT C];rfl,O⟩
  .have u:Hid (Rd.nj s=Wg):=by
    show _=_
    unfold Rd.nj;rw[TE A];simp
   have V:(s.size:Int) > 12:=by omega
   go_enter func143,ntmps143;go_wp2;go_ret;exact⟨by rw[cT u];rfl,O⟩
theorem Au(s:V8)(w:V5)(L:s.size<=1048576):V7 prog 210 #[H s] w λe z=>∃f,e=Wd (Wc #[H ⟨#[]⟩,H s,eH f])/\V4 w z/\(N (E w))<=f/\z.heap[f]?=S (D #[J U 0 0,Z Y 0] 127 (0,0)):=by
 go_enter func210,ntmps210;go_wp2_with fail;refine(mb s _ (by omega)).mono ?_;rintro e b ⟨rfl,u⟩;have A:=u.size;have j:b.heap[N (E w)]?=S (D #[H ⟨#[]⟩,H ⟨#[]⟩,V9 U] 129 (0,0)):=(u.block (N (E w)) (by simp)).trans (Tk w _);have M:b.cell? ⟨N (E w),0,U⟩=S (H ⟨#[]⟩):=by rw[Ti b _ 0 _ _ _ j];rfl
 have P:b.cell? ⟨N (E w),1,U⟩=S (H ⟨#[]⟩):=by rw[Ti b _ 1 _ _ _ j];rfl
 have Q:b.cell? ⟨N (E w),2,U⟩=S (V9 U):=by rw[Ti b _ 2 _ _ _ j];rfl
 have R:b.frozen? ⟨N (E w),0,U⟩=Wg:=by simp[World.frozen?,j]
 have T:b.frozen? ⟨N (E w),1,U⟩=Wg:=by simp[World.frozen?,j]
 have V:b.frozen? ⟨N (E w),2,U⟩=Wg:=by simp[World.frozen?,j]
 have y:N (E w)<N (E b):=by simp at A;omega
 go_wp2;have l:((((b.setCell ⟨N (E w),0,U⟩ (H ⟨#[]⟩)).setCell ⟨N (E w),1,U⟩ (H s)).setCell ⟨N (E w),2,U⟩ (V9 (S ⟨N (E b),0,U⟩))).alloc (D #[J U 0 0,Z Y 0] 127)).heap[N (E w)]?=S (D #[H ⟨#[]⟩,H s,V9 (S ⟨N (E b),0,U⟩)] 129 (0,0)):=by
  rw[TD _ _ _ (by simpa using y)];have B:=Tq b (N (E w)) 0 _ _ (H ⟨#[]⟩) j;have C:=Tq _ (N (E w)) 1 _ _ (H s) B;have F:=Tq _ (N (E w)) 2 _ _ (V9 (S ⟨N (E b),0,U⟩)) C;exact F
 have m:V4 w ((((b.setCell ⟨N (E w),0,U⟩ (H ⟨#[]⟩)).setCell ⟨N (E w),1,U⟩ (H s)).setCell ⟨N (E w),2,U⟩ (V9 (S ⟨N (E b),0,U⟩))).alloc (D #[J U 0 0,Z Y 0] 127)):=((((((Th _ w).alloc V2 _).trans (u.mono (by simp))).setCell V2 _).setCell V2 _).setCell V2 _).alloc (by simp;omega) _;have r:((((b.setCell ⟨N (E w),0,U⟩ (H ⟨#[]⟩)).setCell ⟨N (E w),1,U⟩ (H s)).setCell ⟨N (E w),2,U⟩ (V9 (S ⟨N (E b),0,U⟩))).alloc (D #[J U 0 0,Z Y 0] 127)).heap[N (E b)]?=S (D #[J U 0 0,Z Y 0] 127 (0,0)):=by
  have h:=Tk (((b.setCell ⟨N (E w),0,U⟩ (H ⟨#[]⟩)).setCell ⟨N (E w),1,U⟩ (H s)).setCell ⟨N (E w),2,U⟩ (V9 (S ⟨N (E b),0,U⟩))) (D #[J U 0 0,Z Y 0] 127);simpa using h
 generalize ((((b.setCell ⟨N (E w),0,U⟩ (H ⟨#[]⟩)).setCell ⟨N (E w),1,U⟩ (H s)).setCell ⟨N (E w),2,U⟩ (V9 (S ⟨N (E b),0,U⟩))).alloc (D #[J U 0 0,Z Y 0] 127))=W at l m r ⊢;have G:W.cell? ⟨N (E w),0,U⟩=S (H ⟨#[]⟩):=by rw[Ti W _ 0 _ _ _ l];rfl
 have I:W.cell? ⟨N (E w),1,U⟩=S (H s):=by rw[Ti W _ 1 _ _ _ l];rfl
 have K:W.cell? ⟨N (E w),2,U⟩=S (V9 (S ⟨N (E b),0,U⟩)):=by rw[Ti W _ 2 _ _ _ l];rfl
 exact Tj (v := Wc #[H ⟨#[]⟩,H s,eH (N (E b))]) (by simp[results,results210,go_sem,G,I,K,eH]) O ⟨N (E b),O,m,by omega,r⟩
theorem BJ(s:V8)(w:V5)(K:s.size<=1048576):V7 prog 135 #[H s] w λe u=>e=Wd (Wc #[H s,H ⟨#[]⟩,V9 U])/\V4 w u:=by
 go_enter func135,ntmps135;go_wp2_with fail;refine(mb s _ (by omega)).mono ?_;rintro e b ⟨rfl,r⟩;have y:=r.size;have j:b.heap[N (E w)]?=S (D #[H ⟨#[]⟩,H ⟨#[]⟩,V9 U] 129 (0,0)):=(r.block (N (E w)) (by simp)).trans (Tk w _);have L:b.cell? ⟨N (E w),0,U⟩=S (H ⟨#[]⟩):=by rw[Ti b _ 0 _ _ _ j];rfl
 have M:b.cell? ⟨N (E w),1,U⟩=S (H ⟨#[]⟩):=by rw[Ti b _ 1 _ _ _ j];rfl
 have P:b.cell? ⟨N (E w),2,U⟩=S (V9 U):=by rw[Ti b _ 2 _ _ _ j];rfl
 have Q:b.frozen? ⟨N (E w),0,U⟩=Wg:=by simp[World.frozen?,j]
 have R:b.frozen? ⟨N (E w),1,U⟩=Wg:=by simp[World.frozen?,j]
 have T:b.frozen? ⟨N (E w),2,U⟩=Wg:=by simp[World.frozen?,j]
 have z:N (E w)<N (E b):=by simp at y;omega
 go_wp2;have l:(((b.setCell ⟨N (E w),0,U⟩ (H s)).setCell ⟨N (E w),1,U⟩ (H ⟨#[]⟩)).setCell ⟨N (E w),2,U⟩ (V9 U)).heap[N (E w)]?=S (D #[H s,H ⟨#[]⟩,V9 U] 129 (0,0)):=by
  have A:=Tq b (N (E w)) 0 _ _ (H s) j;have B:=Tq _ (N (E w)) 1 _ _ (H ⟨#[]⟩) A;have C:=Tq _ (N (E w)) 2 _ _ (V9 U) B;exact C
 have m:V4 w (((b.setCell ⟨N (E w),0,U⟩ (H s)).setCell ⟨N (E w),1,U⟩ (H ⟨#[]⟩)).setCell ⟨N (E w),2,U⟩ (V9 U)):=(((((Th _ w).alloc V2 _).trans (r.mono (by simp))).setCell V2 _).setCell V2 _).setCell V2 _;generalize (((b.setCell ⟨N (E w),0,U⟩ (H s)).setCell ⟨N (E w),1,U⟩ (H ⟨#[]⟩)).setCell ⟨N (E w),2,U⟩ (V9 U))=W at l m ⊢;have F:W.cell? ⟨N (E w),0,U⟩=S (H s):=by rw[Ti W _ 0 _ _ _ l];rfl
 have G:W.cell? ⟨N (E w),1,U⟩=S (H ⟨#[]⟩):=by rw[Ti W _ 1 _ _ _ l];rfl
 have I:W.cell? ⟨N (E w),2,U⟩=S (V9 U):=by rw[Ti W _ 2 _ _ _ l];rfl
 exact Tj (v := Wc #[H s,H ⟨#[]⟩,V9 U]) (by simp[results,results135,go_sem,F,G,I]) O ⟨O,m⟩
theorem Bf(s t:V8)(f:Nat)(w:V5)(M:s.size<=1048576)(ht:t.size<=1048576):V7 prog 145 #[H s,H t,eH f] w λe z=>e=Wd (Wc #[H s,H t,eH f])/\V4 w z:=by
 unfold eH;go_enter func145,ntmps145;go_wp2_with fail;refine(mb s _ (by omega)).mono ?_;rintro e P ⟨rfl,m⟩;go_wp2_with fail;refine(mb t _ (by omega)).mono ?_;rintro e b ⟨rfl,r⟩;have y:=m.trans (r.mono m.size);clear m r;have A:=y.size;have j:b.heap[N (E w)]?=S (D #[H ⟨#[]⟩,H ⟨#[]⟩,V9 U] 129 (0,0)):=(y.block (N (E w)) (by simp)).trans (Tk w _);have Q:b.cell? ⟨N (E w),0,U⟩=S (H ⟨#[]⟩):=by rw[Ti b _ 0 _ _ _ j];rfl
 have R:b.cell? ⟨N (E w),1,U⟩=S (H ⟨#[]⟩):=by rw[Ti b _ 1 _ _ _ j];rfl
 have T:b.cell? ⟨N (E w),2,U⟩=S (V9 U):=by rw[Ti b _ 2 _ _ _ j];rfl
 have V:b.frozen? ⟨N (E w),0,U⟩=Wg:=by simp[World.frozen?,j]
 have X:b.frozen? ⟨N (E w),1,U⟩=Wg:=by simp[World.frozen?,j]
 have q:b.frozen? ⟨N (E w),2,U⟩=Wg:=by simp[World.frozen?,j]
 have B:N (E w)<N (E b):=by simp at A;omega
 go_wp2;have l:(((b.setCell ⟨N (E w),0,U⟩ (H s)).setCell ⟨N (E w),1,U⟩ (H t)).setCell ⟨N (E w),2,U⟩ (V9 (S ⟨f,0,U⟩))).heap[N (E w)]?=S (D #[H s,H t,V9 (S ⟨f,0,U⟩)] 129 (0,0)):=by
  have C:=Tq b (N (E w)) 0 _ _ (H s) j;have F:=Tq _ (N (E w)) 1 _ _ (H t) C;have G:=Tq _ (N (E w)) 2 _ _ (V9 (S ⟨f,0,U⟩)) F;exact G
 have u:V4 w (((b.setCell ⟨N (E w),0,U⟩ (H s)).setCell ⟨N (E w),1,U⟩ (H t)).setCell ⟨N (E w),2,U⟩ (V9 (S ⟨f,0,U⟩))):=(((((Th _ w).alloc V2 _).trans (y.mono (by simp))).setCell V2 _).setCell V2 _).setCell V2 _;generalize (((b.setCell ⟨N (E w),0,U⟩ (H s)).setCell ⟨N (E w),1,U⟩ (H t)).setCell ⟨N (E w),2,U⟩ (V9 (S ⟨f,0,U⟩)))=W at l u ⊢;have I:W.cell? ⟨N (E w),0,U⟩=S (H s):=by rw[Ti W _ 0 _ _ _ l];rfl
 have K:W.cell? ⟨N (E w),1,U⟩=S (H t):=by rw[Ti W _ 1 _ _ _ l];rfl
 have L:W.cell? ⟨N (E w),2,U⟩=S (V9 (S ⟨f,0,U⟩)):=by rw[Ti W _ 2 _ _ _ l];rfl
 exact Tj (v := Wc #[H s,H t,V9 (S ⟨f,0,U⟩)]) (by simp[results,results145,go_sem,I,K,L,eH]) O ⟨O,u⟩
theorem Mc(b:Nat)(d:Dv)(n:Int)(w:V5)(h:ly w b d):V7 prog 29 #[V9 (S ⟨b,0,U⟩),Z Y n] w λe l=>e=Wd (Wb #[])/\pN w l b d { d with mr:=decide (0<=n),left:=n }:=by
 obtain⟨_,_,_,_,r,u,_⟩:=h.cell;have y:=h.fz 4;have z:=h.fz 5;have j:=cU h;clear h;go_enter func29,ntmps29;go_wp2;exact Tm (Tl O _ _ _) O ⟨O,(cT j).set ((Ey w b 5 _).setCell (λm=>m O) _) (by rw[Tq _ b 4 _ _ _ (Tq w b 5 _ _ _ (cT j).blk)];rfl) O O O O O O O O O⟩
end Pk
namespace Pk
open Sd (Tb)
open Dk
variable {C:Array V6}{w:V5}{v:V6}{tD:TypeId}{o:Nat}
theorem _root_.Go.Proofs.YtgkkdpegcieakaaGreatDoor.Dk.dO.mx{w':V5}{b:Nat}{v':V6}{j:Sd.Tb}{l:Obj}(h:dO (w.alloc l) w' b o C tD v v' j): dO w w' b o C tD v v' j:=⟨h.blk,h.row,((Kept.refl w _).alloc l).trans h.kept,by
  rcases h.new with e|⟨g,e,m⟩
  .exact Wh e
  .exact Wi ⟨g,e,by simp at m;omega⟩⟩
theorem _root_.Go.Proofs.YtgkkdpegcieakaaGreatDoor.Dk.dO.yd{w':V5}{b:Nat}{v':V6}{e:Sd.Tb}(h:dO w.drew w' b o C tD v v' e): dO w w' b o C tD v v' e:=⟨h.blk,h.row,((Kept.refl w _).drew).trans h.kept,h.new⟩
theorem C4(b:Nat)(C:Array V6)(tD:TypeId)(v:V6)(T:Sd.Tb)(y:V8)(f:Nat)(w:V5)(h:eW w b 1 C tD v T)(l:v.ownBlock≠S b)(A:(y.toList == [])=Wg):V7 prog 57 #[Wc #[H ⟨#[]⟩,H y,eH f],V9 (S ⟨b,1,U⟩)] w λe u=>e=Wd (Wb #[])/\∃m,dO w u b 1 C tD v m (Sd.jZ T y f):=by
 have j:=λo=>FL b 1 C tD v T y f (w.alloc o) (h.below ((Th _ w).alloc V2 o)) l
 unfold eH at j ⊢;clear h;go_enter func57,ntmps57;go_wp2_with fail;refine(j _).mono ?_;rintro e w1 ⟨rfl,m,r⟩;have z:=cU (dO.mx r);clear r j;go_wp2;exact Tm (Tl O _ _ _) O ⟨O,m,cT z⟩
theorem info_change:(prog.info? 129).map (λi=>(i.zero,i.size,i.bytes))=S (S (Wc #[H ⟨#[]⟩,H ⟨#[]⟩,V9 U]),3,40):=by kernel_rfl
variable {w1:V5}{T1:Sd.Tb}{v1:V6}
theorem _root_.Go.Proofs.YtgkkdpegcieakaaGreatDoor.Dk.dO.comp{r:V5}{b:Nat}{j:V6}{u:Sd.Tb}(h1:dO w w1 b o C tD v v1 T1)(h2:dO w1 r b o (C.setIfInBounds o v1) tD v1 j u): dO w r b o C tD v j u:=by
 refine⟨?_,h2.row,⟨h2.kept.os.trans h1.kept.os,h2.kept.tape.trans h1.kept.tape,h2.kept.output.trans h1.kept.output,To h1.kept.size h2.kept.size,λk y l=>(h2.kept.block k (TI y h1.kept.size) ⟨l.1,λe=>?_⟩).trans (h1.kept.block k y l)⟩,?_⟩
 .rw[h2.blk];have e:(C.setIfInBounds o v1).setIfInBounds o j=C.setIfInBounds o j:=by simp
  rw[e]
 .rcases h1.new with m|⟨g,m,z⟩
  .rw[m] at e;exact l.2 e
  .rw[m] at e;have:g=k:=TG e;omega
 .rcases h2.new with e|⟨g,e,z⟩
  .rw[e];exact h1.new
  .exact Wi ⟨g,e,To h1.kept.size z⟩
theorem _root_.Go.Proofs.YtgkkdpegcieakaaGreatDoor.Dk.dO.inside{b:Nat}(h:dO w w1 b o C tD v v1 T1)(e:o<C.size)(j:Sd.dj T1)(l:Wn T1<=1000000000): eW w1 b o (C.setIfInBounds o v1) tD v1 T1:=⟨h.blk,by simp[e],h.row,j,l⟩
theorem _root_.Go.Proofs.YtgkkdpegcieakaaGreatDoor.Dk.dO.Si{b:Nat}(h:dO w w1 b o C tD v v1 T1)(j:v.ownBlock≠S b)(m:b<N (E w)): v1.ownBlock≠S b:=λe=>by
 rcases h.new with l|⟨g,l,r⟩
 .rw[l] at e;exact j e
 .rw[l] at e;have:g=b:=TG e;omega
theorem BZ(b:Nat)(C:Array V6)(tD:TypeId)(v:V6)(T:Sd.Tb)(x y:V8)(f:Nat)(w:V5)(h:eW w b 1 C tD v T)(m:v.ownBlock≠S b)(V:(x.toList == [])=Wg)(W:(y.toList == [])=Wg):V7 prog 57 #[Wc #[H x,H y,eH f],V9 (S ⟨b,1,U⟩)] w λe G=>e=Wd (Wb #[])/\∃I,dO w G b 1 C tD v I (Sd.jZ (Sd.gN T x) y f):=by
 have A:1<C.size:=(Ts.1 h.at_).1;have r:=λo=>kG b 1 C tD v T x (w.alloc o) (h.below ((Th _ w).alloc V2 o)) m
 have K:b<N (E w):=Ud h.blk;have B:∀g,v.ownBlock=S g->g<N (E w):=λg L=>jI h.row L
 have M:=Sd.im h.me x;have P:(Sd.gN T x).length<=1000000000:=To (Sd.vS T x) h.len;unfold eH;clear h;go_enter func57,ntmps57;go_wp2_with fail;refine(r _).mono ?_;rintro e w1 ⟨rfl,v1,u⟩;have l:w1.heap[N (E w)]?=S (D #[H x,H y,V9 (S ⟨f,0,U⟩)] 129 (0,0)):=by
  refine(u.kept.block (N (E w)) (by simp) ⟨by omega,λe=>?_⟩).trans (Tk w _);have:=B _ e;omega
 have X:w1.cell? ⟨N (E w),1,U⟩=S (H y):=by rw[Ti w1 _ 1 _ _ _ l];rfl
 have q:w1.cell? ⟨N (E w),2,U⟩=S (V9 (S ⟨f,0,U⟩)):=by rw[Ti w1 _ 2 _ _ _ l];rfl
 have j:=FL b 1 _ tD v1 (Sd.gN T x) y f w1 (u.inside A M P) (u.Si m (by simp;omega));unfold eH at j;have Q:=cU (dO.mx u);clear u r l;go_wp2_with fail;refine j.mono ?_;rintro e t ⟨rfl,R,z⟩;have F:=cU ((cT Q).comp z);clear j z;go_wp2;exact Tm (Tl O _ _ _) O ⟨O,R,cT F⟩
theorem CP(b:Nat)(C:Array V6)(tD:TypeId)(v:V6)(T:Sd.Tb)(x:V8)(w:V5)(h:eW w b 1 C tD v T)(m:v.ownBlock≠S b)(G:(x.toList == [])=Wg):V7 prog 57 #[Wc #[H x,H ⟨#[]⟩,V9 U],V9 (S ⟨b,1,U⟩)] w λe y=>e=Wd (Wb #[])/\∃z,dO w y b 1 C tD v z (Sd.gN T x):=by
 have j:=λo=>kG b 1 C tD v T x (w.alloc o) (h.below ((Th _ w).alloc V2 o)) m
 have A:b<N (E w):=Ud h.blk;have r:∀g,v.ownBlock=S g->g<N (E w):=λg B=>jI h.row B
 clear h;go_enter func57,ntmps57;go_wp2_with fail;refine(j _).mono ?_;rintro e w1 ⟨rfl,v1,u⟩;have l:w1.heap[N (E w)]?=S (D #[H x,H ⟨#[]⟩,V9 U] 129 (0,0)):=by
  refine(u.kept.block (N (E w)) (by simp) ⟨by omega,λe=>?_⟩).trans (Tk w _);have:=r _ e;omega
 have I:w1.cell? ⟨N (E w),1,U⟩=S (H ⟨#[]⟩):=by rw[Ti w1 _ 1 _ _ _ l];rfl
 have F:=cU (dO.mx u);clear u j l;go_wp2;exact Tm (Tl O _ _ _) O ⟨O,v1,cT F⟩
def nP(T:Sd.Tb)(c:Ch):Sd.Tb:=match c.file with
 |some f=>if c.gone.size=0 then Sd.jZ T c.name f else Sd.jZ (Sd.gN T c.gone) c.name f
 |none=>Sd.gN T c.gone
theorem ne_nil{s:V8}(h:¬s=Rd.e0):(s.toList == [])=Wg:=by
 apply VR.2;intro e;have b:s.toList=[]:=eq_of_beq e;rw[UK] at b;exact h (Uy (Vn.1 b))
theorem MQ{s:V8}(h:¬s=Rd.e0):¬s.size=0:=λe=>h (Uy (Array.eq_empty_of_size_eq_zero e))
def Pe(c:Ch):Prop:=(∃f,c.file=S f/\¬c.name=Rd.e0)\/(c.file=U/\c.name=Rd.e0/\¬c.gone=Rd.e0)
theorem wg(b:Nat)(c:Ch)(u:Pe c)(W:V5)(C:Array V6)(v:V6)(T:Sd.Tb)(h:eW W b 1 C 64 v T)(j:v.ownBlock≠S b):V7 prog 57 #[Wc #[H c.gone,H c.name,eZ c.file],V9 (S ⟨b,1,U⟩)] W λe y=>e=Wd (Wb #[])/\∃z,dO W y b 1 C 64 v z (nP T c):=by
 rcases u with ⟨f,l,r⟩|⟨l,r,m⟩
 .by_cases m:c.gone=Rd.e0
  .have e:nP T c=Sd.jZ T c.name f:=by unfold nP;rw[l,m];rfl
   rw[e,l,m];exact C4 b C _ v T c.name f W h j (ne_nil r)
  .have e:nP T c=Sd.jZ (Sd.gN T c.gone) c.name f:=by
    unfold nP;rw[l]
    show (if c.gone.size=0 then _ else _)=_
    rw[Tf (MQ m)]
   rw[e,l];exact BZ b C _ v T c.gone c.name f W h j (ne_nil m) (ne_nil r)
 .have e:nP T c=Sd.gN T c.gone:=by unfold nP;rw[l]
  rw[e,l,r];exact CP b C _ v T c.gone W h j (ne_nil m)
theorem vq{T:Tb}(h:Sd.dj T)(c:Ch):Sd.dj (nP T c):=by
 unfold nP;split
 .split
  .exact Sd.jg h _ _
  .exact Sd.jg (Sd.im h _) _ _
 .exact Sd.im h _
theorem Mi(T:Tb)(c:Ch):(nP T c).length<=Wn T+1:=by
 unfold nP;split
 .split
  .exact Sd.Am _ _ _
  .have:=Sd.Am (Sd.gN T c.gone) c.name ‹Nat›;have:=Sd.vS T c.gone;omega
 .have:=Sd.vS T c.gone;omega
theorem EJ{T:Tb}{c:Ch}{p:V8 × Nat}(h:p∈nP T c):p∈T\/c.file=S p.2:=by
 unfold nP at h;split at h
 .rename_i f b;split at h
  .rcases Sd.vG h with e|e
   .right;rw[b,e]
   .exact Wh e
  .rcases Sd.vG h with e|e
   .right;rw[b,e]
   .exact Wh (Sd.BH e)
 .exact Wh (Sd.BH h)
variable {d:Dv}
theorem ly.JF{b:Nat}(h:ly w b d)(e:Wn d.names<=1000000000): eW w b 1 d.cells 64 d.vn d.names:=⟨h.blk,O,h.rn,h.sn,e⟩
theorem FZ{W:V5}{b:Nat}{z u:V6}{F:Tb}{m:List Ch}(hd:ly w b d)(y:dO w w1 b 1 d.cells 64 d.vn z F)(x:Sd.dj F)(G:Kept w1 W (λk=>k≠b/\d.vc.ownBlock≠S k))(A:W.heap[b]?=S (D ({ d with vn:=z,vc:=u }:Dv).cells 64 (0,0)))(K:W.ownsRow 0 129 3 u (Wn m) (gZ m))(L:∀k,u.ownBlock=S k->d.vc.ownBlock=S k\/N (E w)<=k)(M:∀p,p∈F->p.2∈d.fs)(P:∀c,c∈m->∀f,c.file=S f->f∈d.fs):pN w W b d { d with names:=F,dX:=m,vn:=z,vc:=u }:=by
 have Q:Kept w W (λk=>k≠b/\d.vn.ownBlock≠S k/\d.vc.ownBlock≠S k):=(y.kept.mono (λk _ h=>⟨h.1,h.2.1⟩)).trans (G.mono (λk _ h=>⟨h.1,h.2.2⟩));refine⟨⟨A,?_,?_,K,x,hd.ss,?_,λf B=>?_,hd.fap,M,hd.Oj,P⟩,Q.mono (λk _ h=>⟨λe=>h (Wh e),λe=>h (Wi (Wh e)),λe=>h (Wi (Wi (Wi (Wh e))))⟩),λk G=>?_⟩
 .refine dy y.row G (λg r=>⟨?_,λe=>?_⟩)
  .obtain⟨c,l,_⟩:=di y.row r;exact dh l y.blk (by decide)
  .have R:=jI hd.rc e;obtain⟨T,j,_⟩:=di hd.rc e;obtain⟨c,l,_⟩:=di y.row r;have q:=y.kept.block g R ⟨dh j hd.blk (by decide),λi=>by obtain⟨t,V,_⟩:=di hd.rn i;exact dh V j (by decide) O⟩;rw[q] at l;exact dh l j (by decide) O
 .refine dy hd.rs Q (λg r=>?_);obtain⟨c,l,_⟩:=di hd.rs r;exact⟨dh l hd.blk (by decide),λe=>hd.apart g e r,λe=>by obtain⟨T,j,_⟩:=di hd.rc e;exact dh j l (by decide) O⟩
 .intro g r e;rcases y.new with h|⟨I,h,X⟩
  .have r:d.vn.ownBlock=S g:=h ▸ r;exact hd.apart g r e
  .have r:S I=S g:=h ▸ r;have:I=g:=TG r;have:=jI hd.rs e;omega
 .refine(hd.files f B).kept Q ⟨dh (hd.files f B).blk hd.blk (by decide),λe=>?_,λe=>?_⟩ (λg r=>?_)
  .obtain⟨c,l,_⟩:=di hd.rn e;exact dh l (hd.files f B).blk (by decide) O
  .obtain⟨c,l,_⟩:=di hd.rc e;exact dh l (hd.files f B).blk (by decide) O
  .obtain⟨c,l⟩:=(hd.files f B).own r;refine⟨dh l hd.blk (by decide),λe=>?_,λe=>?_⟩
   .obtain⟨T,j,_⟩:=di hd.rn e;exact dh j l (by decide) O
   .obtain⟨T,j,_⟩:=di hd.rc e;exact dh j l (by decide) O
 .rcases G with e|e|e|e|e
  .exact Wh (Wh e)
  .rcases y.new with h|⟨I,h,X⟩
   .exact Wh (Wi (Wh (h ▸ e)))
   .have e:S I=S k:=h ▸ e;have:=TG e;exact Wi (by omega)
  .exact Wh (Wi (Wi (Wh e)))
  .rcases L k e with e|e
   .exact Wh (Wi (Wi (Wi (Wh e))))
   .exact Wi e
  .exact Wh (Wi (Wi (Wi (Wi e))))
theorem pN.refl{b:Nat}(h:ly w b d): pN w w b d d:=pN.below h (Th _ _)
def Qg(b:Nat)(d:Dv)(c:Ch)(w:V5)(e:Ending)(w':V5):Prop:=e=Wd (Wb #[])/\∃j l,pN w w' b d { d with names:=nP d.names c,dX:=d.dX++[c],vn:=j,vc:=l }
theorem qK(b:Nat)(d:Dv)(c:Ch)(w:V5)(h:ly w b d)(hl:Wn d.dX<=1000000000)(ab:Wn d.names<=1000000000)(F:Pe c)(G:∀f,c.file=S f->f∈d.fs):V7 prog 134 #[V9 (S ⟨b,0,U⟩),Wc #[H c.gone,H c.name,eZ c.file]] w (Qg b d c w):=by
 obtain⟨i0,hi,ad,ae,af⟩:=TN info_change;have HD:=cU h;have T:∀W,V4 w W->V7 prog 57 #[Wc #[H c.gone,H c.name,eZ c.file],V9 (S ⟨b,1,U⟩)] W λe w'=>e=Wd (Wb #[])/\∃v',dO W w' b 1 d.cells 64 d.vn v' (nP d.names c):=λW hW=>wg b c F W _ _ _ ((h.below hW).JF ab) ((h.below hW).QO (h.below hW).rn (by decide))
 have hT:=vq h.sn c;have V:∀p,p∈nP d.names c->p.2∈d.fs:=λp hp=>by
  rcases EJ hp with e|e
  .exact h.Ga p e
  .exact G _ e
 have X:∀x,x∈d.dX++[c]->∀f,x.file=S f->f∈d.fs:=λx hx f hf=>by
  rcases TB.1 hx with e|e
  .exact h.P5 x e f hf
  .rw[TL.1 e] at hf;exact G f hf
 have ag:=cU V;have ah:=cU X;have HT:=cU hT;clear h V X hT F G;obtain⟨p,ho⟩:∃p,eZ c.file=V9 p:=by cases c.file <;> exact⟨_,O⟩
 have HO:=cU ho;rw[ho] at T ⊢;clear ho;have ai:∀o,V4 w (w.alloc o).drew:=λo=>((Th _ w).alloc V2 o).drew
 go_enter func134,ntmps134;go_wp2_with fail
 go_region_with (go_at_call 57;refine(T _ (ai _)).mono ?_;rintro e w1 ⟨rfl,I,K⟩)
 have hd:=cT HD;have L:=dO.mx (dO.yd K);have aj:b<N (E w):=cX hd.blk;have q:Kept (w.alloc (D #[H c.gone,H c.name,V9 p] 129)).drew w1 (λk=>k≠b/\d.vn.ownBlock≠S k):=K.kept;have A:w1.heap[N (E w)]?=S (D #[H c.gone,H c.name,V9 p] 129 (0,0)):=(q.block (N (E w)) (by simp) ⟨by omega,λe=>by obtain⟨ak,F,_⟩:=di hd.rn e;have:=cX F;omega⟩).trans (Tk w _);have b0:w1.cell? ⟨N (E w),0,U⟩=S (H c.gone):=by rw[Ti w1 _ 0 _ _ _ A];rfl
 have b1:w1.cell? ⟨N (E w),1,U⟩=S (H c.name):=by rw[Ti w1 _ 1 _ _ _ A];rfl
 have b2:w1.cell? ⟨N (E w),2,U⟩=S (V9 p):=by rw[Ti w1 _ 2 _ _ _ A];rfl
 have j:w1.heap[b]?=S (D ({ d with vn:=I }:Dv).cells 64 (0,0)):=L.blk;have d3:w1.cell? ⟨b,3,U⟩=S d.vc:=by rw[Ti w1 _ 3 _ _ _ j];rfl
 have f3:w1.frozen? ⟨b,3,U⟩=Wg:=by simp[World.frozen?,j]
 have m:w1.ownsRow 0 129 3 d.vc (Wn d.dX) (gZ d.dX):=dy hd.rc L.kept (λg hg=>by
  obtain⟨ak,F,_⟩:=di hd.rc hg;refine⟨dh F hd.blk (by decide),λe=>?_⟩;obtain⟨av,u,_⟩:=di hd.rn e;exact dh F u (by decide) O)
 obtain⟨pc,cc,M⟩:=gG m;have P:=cU M;rw[M] at d3 m;have s:b<N (E w1):=cX j;have aw:=cU j;have an:=cU m;have HN:=cU L;have y:S b≠(Value.slice pc (Wn d.dX) cc).ownBlock:=λe=>by
  obtain⟨c',u,_⟩:=di m e.symm;exact dh u j (by decide) O
 have Q:=cU (λ(o:Obj)=>(show ((w1.alloc o).drew).heap[b]?=_ from (TD w1 o b s).trans j));clear j m L K hd q A aj M;go_wp2_with fail
 go_region_law ((refine step_append_lies _ (by rfl) _ _ _ (by rfl) 0 129 i0 _ 3 40 underlying59 hi ad ae af O (by omega) (J pc (Wn d.dX) cc) _ _ (by rfl) (((cT an).alloc _).drew) ⟨N (E w1),0,U⟩ 1 1 [H c.gone,H c.name,V9 p] (by rfl) (by rfl) (Vv (cs := #[H c.gone,H c.name,V9 p]) (t:=129) (fr:=(0,0)) (Tk w1 _)) (by simp[Value.oneCell']) (by omega) (by unfold maxLen;omega) (by omega) (Tp _) (N (E w1)+1) (by simp) ?_;intro R cp B z l ao ax;have ay:B.cell? ⟨b,3,U⟩=S (J pc (Wn d.dX) cc):=(l.cell_far ⟨b,3,U⟩ (by simp;omega) y).trans (by rw[Ti _ b 3 _ _ _ ((cT Q) _),<-cT P];rfl);have az:B.frozen? ⟨b,3,U⟩=Wg:=(l.frozen_far ⟨b,3,U⟩ (by simp;omega) y).trans (by have hh:=(cT Q) (D #[H c.gone,H c.name,V9 p] 129);simp only[World.frozen?,hh];rfl)))
 all_goals
  have hd:=cT HD;have L:=cT HN;have aA:b<N (E B):=by have:=l.size;simp at this;omega
  have aa:B.heap[b]?=S (D ({ d with vn:=I }:Dv).cells 64 (0,0)):=(l.block b (by simp;omega) y).trans ((cT Q) _);have hK:Kept w1 (B.setCell ⟨b,3,U⟩ (J (S ⟨R,0,U⟩) (Wn d.dX+1) cp)) (λk=>k≠b/\d.vc.ownBlock≠S k):=by
   rw[cT P];exact((((Kept.refl w1 _).alloc _).drew).trans (Kept.grown l (λk hk=>hk.2))).setCell (λhk=>hk.1 O) _
  have aq:(B.setCell ⟨b,3,U⟩ (J (S ⟨R,0,U⟩) (Wn d.dX+1) cp)).heap[b]?=S (D ({ d with vn:=I,vc := J (S ⟨R,0,U⟩) (Wn d.dX+1) cp }:Dv).cells 64 (0,0)):=by
   rw[Tq B b 3 _ _ _ aa];rfl
  have ar:gZ (d.dX++[c])=gZ d.dX++[H c.gone,H c.name,V9 p]:=by
   rw[<-cT HO];simp[gZ]
  have au:(B.setCell ⟨b,3,U⟩ (J (S ⟨R,0,U⟩) (Wn d.dX+1) cp)).ownsRow 0 129 3 (J (S ⟨R,0,U⟩) (Wn d.dX+1) cp) (d.dX++[c]).length (gZ (d.dX++[c])):=by
   rw[ar,TT];refine Ui z (λe=>?_) _;obtain⟨c',u,_⟩:=di z e;exact dh u aa (by decide) O
  have r:=FZ hd L (cT HT) hK aq au (λk hk=>by
   have e:R=k:=by simpa [Value.ownBlock] using hk
   subst e;rcases ao with e|e
   .left;rw[cT P];exact e
   .right;have:=L.kept.size;omega) (cT ag) (cT ah)
  exact Tm (Tl O _ _ _) O ⟨O,_,_,r⟩
end Pk
namespace Pk
open Sd (Tb)
open Dk
variable {α:Type}
def oq(g:Nat->α)(f:Nat)(x : α): Nat->α:=λk=>if k=f then x else g k
theorem eG(g:Nat->α)(f:Nat)(x : α): oq g f x f=x:=Tg O
theorem eu(g:Nat->α){f k:Nat}(x : α)(h:k≠f): oq g f x k=g k:=Tf h
def Dv.pV(d:Dv)(f:Nat):Dv:={ d with fs:=d.fs++[f],F:=oq d.F f ⟨⟨#[]⟩,0⟩,vb:=oq d.vb f (J U 0 0) }
def Dv.Fv(d:Dv)(c:Ch)(b e:V6):Dv:={ d with names:=nP d.names c,dX:=d.dX++[c],vn:=b,vc:=e }
theorem jA(d:Dv):d.eg.names=d.names/\d.eg.safe=d.safe/\d.eg.dX=d.dX/\d.eg.fs=d.fs/\d.eg.F=d.F/\d.eg.q=d.q:=by
 unfold Dv.eg;split <;> exact⟨O,O,O,O,O,O⟩
theorem ly.pV{w z:V5}{b:Nat}{d:Dv}(h:ly w b d)(hb:V4 w z){f:Nat}(L:N (E w)<=f)(B:z.heap[f]?=S (D #[J U 0 0,Z Y 0] 127 (0,0))):pN w z b d (d.pV f):=by
 have m:=h.below hb;have j:∀k,k∈d.fs->k≠f:=λk r e=>by have:=cX (h.files k r).blk;omega
 refine⟨⟨m.blk,m.rn,m.rs,m.rc,m.sn,m.ss,m.apart,λk r=>?_,λk A r C G g u=>?_,λp I=>UT _ (h.Ga p I),λp I=>UT _ (h.Oj p I),λc K x l=>UT _ (h.P5 c K x l)⟩,Kept.below hb _,λk r=>?_⟩
 .show sj z k (oq d.F f ⟨⟨#[]⟩,0⟩ k) (oq d.vb f (J U 0 0) k)
  rcases TB.1 r with e|e
  .rw[eu _ _ (j k e),eu _ _ (j k e)];exact m.files k e
  .have e:k=f:=TL.1 e;subst e;rw[eG,eG];exact⟨B,TH _ _ _ _⟩
 .have u:(oq d.vb f (J U 0 0) k).ownBlock=S g:=u
  show (oq d.vb f (J U 0 0) A).ownBlock≠S g
  rcases TB.1 r with e|e
  .rcases TB.1 C with y|y
   .rw[eu _ _ (j k e)] at u;rw[eu _ _ (j A y)];exact h.fap k A e y G g u
   .have y:A=f:=TL.1 y;subst y;rw[eG];simp[Value.ownBlock]
  .have e:k=f:=TL.1 e;subst e;rw[eG] at u;simp[Value.ownBlock] at u
 .rcases r with e|e|e|e|⟨x,l,e⟩
  .exact Wh (Wh e)
  .exact Wh (Wi (Wh e))
  .exact Wh (Wi (Wi (Wh e)))
  .exact Wh (Wi (Wi (Wi (Wh e))))
  .rcases TB.1 l with l|l
   .refine Wh (Wi (Wi (Wi (Wi ⟨x,l,?_⟩))));rcases e with e|e
    .exact Wh e
    .have e:(oq d.vb f (J U 0 0) x).ownBlock=S k:=e;rw[eu _ _ (j x l)] at e;exact Wi e
   .have l:x=f:=TL.1 l;subst l;rcases e with e|e
    .exact Wi (by omega)
    .have e:(oq d.vb x (J U 0 0) x).ownBlock=S k:=e;rw[eG] at e;simp[Value.ownBlock] at e
def Dv.AL(d:Dv)(y:V8):Option Nat:=if d.up=We then Sd.jy d.names y else U
def Dv.pR(d:Dv)(y:V8):Int:=if d.up=We then (if Sd.dD d.names y=We then 0 else 11) else 9
theorem mD(b:Nat)(d:Dv)(y:V8)(w:V5)(h:ly w b d)(L:Wn d.names<=1000000000):V7 prog 133 #[V9 (S ⟨b,0,U⟩),H y] w λe M=>e=Wd (Wb #[eZ (d.AL y),Z Y (d.pR y)])/\pN w M b d d.eg:=by
 have m:=lU b d w h;cases l:d.up with
 |false =>
  have u:Hid (d.AL y=U):=by show _=_;unfold Dv.AL;rw[l];rfl
  have z:Hid (d.pR y=9):=by show _=_;unfold Dv.pR;rw[l];rfl
  rw[l] at m;rw[cT u,cT z];unfold eZ;clear h l u z;go_enter func133,ntmps133;go_wp2_with fail;refine m.mono ?_;rintro e C ⟨rfl,r,_⟩;have A:=cU r;clear r m;go_wp2;go_ret2;exact⟨O,cT A⟩
 |true =>
  have F:=(jA d).1;have j:=λW (P:ly W b d.eg)=>yv b 1 _ _ d.eg.vn d.eg.names y W (P.JF (by rw[F];exact L))
  rw[F] at j;rw[l] at m;cases hh:Sd.dD d.names y with
  |true =>
   have z:Hid (d.pR y=0):=by show _=_;unfold Dv.pR;rw[l,hh];rfl
   obtain⟨_,_,K⟩:=Sd.gu h.sn hh;obtain⟨f,G⟩:∃f,Sd.jy d.names y=S f:=⟨_,K⟩
   have u:Hid (d.AL y=S f):=by show _=_;unfold Dv.AL;rw[l,G];rfl
   rw[hh,G] at j;rw[cT u,cT z];clear h l u z hh K G F;unfold eZ eH at j ⊢;go_enter func133,ntmps133;go_wp2_with fail;refine m.mono ?_;rintro e C ⟨rfl,r,_⟩;have B:=j C r.at';have A:=cU r;clear r m j;go_wp2_with fail;refine B.mono ?_;rintro e Q ⟨rfl,I⟩;clear B;go_wp2;go_ret2;exact⟨O,(cT A).trans (pN.below (cT A).at' I)⟩
  |false =>
   have z:Hid (d.pR y=11):=by show _=_;unfold Dv.pR;rw[l,hh];rfl
   have u:Hid (d.AL y=U):=by show _=_;unfold Dv.AL;rw[l,Sd.ma hh];rfl
   rw[hh,Sd.ma hh] at j;rw[cT u,cT z];clear h l u z hh F;unfold eZ at j ⊢;go_enter func133,ntmps133;go_wp2_with fail;refine m.mono ?_;rintro e C ⟨rfl,r,_⟩;have B:=j C r.at';have A:=cU r;clear r m j;go_wp2_with fail;refine B.mono ?_;rintro e Q ⟨rfl,I⟩;clear B;go_wp2;go_ret2;exact⟨O,(cT A).trans (pN.below (cT A).at' I)⟩
def ti(w:V5)(b:Nat)(d:Dv)(n:Int)(P:Dv->Prop)(e:Ending)(w':V5):Prop:=e=Wd (Z Y n)/\∃j,P j/\pN w w' b d j
def Dv.NF(d:Dv)(y:V8):Int:=if d.up=Wg then 9 else if Rd.nj y=We then 0 else 10
def Dv.LA(d:Dv)(y:V8)(N:Nat)(j:Dv):Prop:=if d.up=We/\Rd.nj y=We then ∃f b e,N<=f/\j=(d.eg.pV f).Fv ⟨Rd.e0,y,S f⟩ b e else j=d.eg
theorem DA(b:Nat)(d:Dv)(y:V8)(w:V5)(h:ly w b d)(o:Wn d.dX<=1000000000)(M:Wn d.names<=1000000000)(g:y.size<=1048576):V7 prog 140 #[V9 (S ⟨b,0,U⟩),H y] w (ti w b d (d.NF y) (d.LA y (N (E w)))):=by
 have l:=lU b d w h;obtain⟨t,_,s,_⟩:=jA d;cases j:d.up with
 |false =>
  have A:Hid (d.NF y=9):=by show _=_;unfold Dv.NF;rw[j];rfl
  have G:Hid (d.LA y (N (E w)) d.eg):=by show Dv.LA _ _ _ _;unfold Dv.LA;rw[Tf (by rw[j];simp)]
  rw[j] at l;rw[cT A];clear h j A;go_enter func140,ntmps140;go_wp2_with fail;refine l.mono ?_;rintro e P ⟨rfl,B,_⟩;have F:=cU B;clear B l;go_wp2;go_ret;exact⟨O,_,cT G,cT F⟩
 |true =>
  rw[j] at l;cases z:Rd.nj y with
  |false =>
   have A:Hid (d.NF y=10):=by show _=_;unfold Dv.NF;rw[j,z];rfl
   have G:Hid (d.LA y (N (E w)) d.eg):=by show Dv.LA _ _ _ _;unfold Dv.LA;rw[Tf (by rw[z];simp)]
   have C:∀W,V7 prog 143 #[H y] W λe Q=>e=Wd (Wa Wg)/\Q=W:=λW=>by have:=gi y W;rw[z] at this;exact this
   rw[cT A];clear h j A z;go_enter func140,ntmps140;go_wp2_with fail;refine l.mono ?_;rintro e P ⟨rfl,B,_⟩;have F:=cU B;clear B l;go_wp2_with fail;refine(C _).mono ?_;rintro e R ⟨rfl,T⟩;obtain rfl:=T.symm;go_wp2;go_ret;exact⟨O,_,cT G,cT F⟩
  |true =>
   have A:Hid (d.NF y=0):=by show _=_;unfold Dv.NF;rw[j,z];rfl
   have G:Hid (∀f m r,N (E w)<=f->d.LA y (N (E w)) ((d.eg.pV f).Fv ⟨Rd.e0,y,S f⟩ m r)):=λf m r L=>by unfold Dv.LA;rw[Tg ⟨j,z⟩];exact⟨f,m,r,L,O⟩
   have C:∀W,V7 prog 143 #[H y] W λe Q=>e=Wd (Wa We)/\Q=W:=λW=>by have:=gi y W;rw[z] at this;exact this
   have V:=cU (Rd.oG z);rw[cT A];clear h j A z;go_enter func140,ntmps140;go_wp2_with fail;refine l.mono ?_;rintro e P ⟨rfl,B,aa⟩;have F:=cU B;clear B l;go_wp2_with fail;refine(C _).mono ?_;rintro e R ⟨rfl,T⟩;obtain rfl:=T.symm;go_wp2_with fail;refine(Au y P g).mono ?_;rintro e R ⟨f,rfl,I,L,K⟩;have X:=(cT F).at'.pV I L K;have u:=qK b (d.eg.pV f) ⟨Rd.e0,y,S f⟩ R X.at' (by show (Wn d.eg.dX)<=_;rw[s];exact o) (by show (Wn d.eg.names)<=_;rw[t];exact M) (Wh ⟨f,rfl,cT V⟩) (λx hx=>by cases hx;exact UG _ (TL.2 O));unfold eZ at u;have H1:=cU ((cT F).trans X);have q:N (E w)<=f:=by omega
   clear X I K L t s;go_wp2_with fail;refine u.mono ?_;rintro e w2 ⟨rfl,m,r,p⟩;have H2:=cU p;clear u p;go_wp2;go_ret;exact⟨O,_,(cT G) f m r q,(cT H1).trans (cT H2)⟩
end Pk
namespace Pk
open Sd (Tb)
open Dk
def Dv.Qc(d:Dv)(y:V8)(j:Dv):Prop:=if d.pR y=0 then ∃b e,j=d.eg.Fv ⟨y,Rd.e0,U⟩ b e else j=d.eg
theorem kG(b:Nat)(d:Dv)(y:V8)(w:V5)(h:ly w b d)(T:Wn d.dX<=1000000000)(z:Wn d.names<=1000000000)(V:y.size<=1048576)(A:Sd.dD d.names Rd.e0=Wg):V7 prog 91 #[V9 (S ⟨b,0,U⟩),H y] w (ti w b d (d.pR y) (d.Qc y)):=by
 have j:=mD b d y w h z;obtain⟨P,_,Q,_⟩:=jA d;by_cases u:d.pR y=0
 .have K:Hid (∀l m,d.Qc y (d.eg.Fv ⟨y,Rd.e0,U⟩ l m)):=λl m=>by unfold Dv.Qc;rw[Tg u];exact⟨l,m,O⟩
  have B:¬y=Rd.e0:=λe=>by
   unfold Dv.pR at u;rw[e,A] at u;split at u
   .rw[Tf (by decide)] at u;omega
   .omega
  have W:=cU B;rw[u] at j ⊢;obtain⟨p,C⟩:∃p,eZ (d.AL y)=V9 p:=by cases d.AL y <;> exact⟨_,O⟩
  rw[C] at j;clear h u C B A;go_enter func91,ntmps91;go_wp2_with fail;refine j.mono ?_;rintro e X ⟨rfl,F⟩;have I:=cU F;clear j F;go_wp2_with fail;refine(BJ y _ V).mono ?_;rintro e q ⟨rfl,G⟩;have L:=(cT I).trans (pN.below (cT I).at' G);have r:=qK b d.eg ⟨y,Rd.e0,U⟩ q L.at' (by rw[Q];exact T) (by rw[P];exact z) (Wi ⟨rfl,rfl,cT W⟩) (λx t=>by cases t);unfold eZ at r;have s:=cU L;clear L G P Q;go_wp2_with fail;refine r.mono ?_;rintro e w3 ⟨rfl,l,m,R⟩;have o:=cU R;clear r R;go_wp2;go_ret;exact⟨O,_,(cT K) l m,(cT s).trans (cT o)⟩
 .have K:Hid (d.Qc y d.eg):=by show Dv.Qc _ _ _;unfold Dv.Qc;rw[Tf u]
  obtain⟨n,M⟩:∃n,d.pR y=n:=⟨_,rfl⟩
  have g:(n == 0)=Wg:=Tt.2 (M ▸ u);rw[M] at j ⊢;obtain⟨p,C⟩:∃p,eZ (d.AL y)=V9 p:=by cases d.AL y <;> exact⟨_,O⟩
  rw[C] at j;clear h u C M;go_enter func91,ntmps91;go_wp2_with fail;refine j.mono ?_;rintro e X ⟨rfl,F⟩;have I:=cU F;clear j F;go_wp2;go_ret;exact⟨O,_,cT K,cT I⟩
def Dv.IX(d:Dv)(x y:V8):Int:=if d.up=We/\Rd.nj y=Wg then 10 else d.pR x
def Dv.Cx(d:Dv)(x y:V8)(j:Dv):Prop:=if d.IX x y=0/\¬x=y then ∃f b e,Sd.jy d.names x=S f/\j=d.eg.Fv ⟨x,y,S f⟩ b e else j=d.eg
theorem C7(b:Nat)(d:Dv)(x y:V8)(w:V5)(h:ly w b d)(hl:Wn d.dX<=1000000000)(t:Wn d.names<=1000000000)(hx:x.size<=1048576)(hy:y.size<=1048576):V7 prog 95 #[V9 (S ⟨b,0,U⟩),H x,H y] w (ti w b d (d.IX x y) (d.Cx x y)):=by
 have l:=lU b d w h;obtain⟨g,_,ec,ef,_⟩:=jA d;cases m:d.up with
 |false =>
  have r:d.IX x y=9:=by unfold Dv.IX Dv.pR;rw[m];simp
  have M:Hid (d.Cx x y d.eg):=by show Dv.Cx _ _ _ _;unfold Dv.Cx;rw[Tf (by rw[r];simp)]
  rw[m] at l;rw[r];clear h m r;go_enter func95,ntmps95;go_wp2_with fail;refine l.mono ?_;rintro e P ⟨rfl,u,_⟩;have F:=cU u;clear u l;go_wp2;go_ret;exact⟨O,_,cT M,cT F⟩
 |true =>
  rw[m] at l;have B:∀W,V7 prog 143 #[H y] W λe w'=>e=Wd (Wa (Rd.nj y))/\w'=W:=λW=>gi y W
  cases Q:Rd.nj y with
  |false =>
   have r:d.IX x y=10:=by unfold Dv.IX;rw[m,Q];simp
   have M:Hid (d.Cx x y d.eg):=by show Dv.Cx _ _ _ _;unfold Dv.Cx;rw[Tf (by rw[r];simp)]
   rw[Q] at B;rw[r];clear h m Q r;go_enter func95,ntmps95;go_wp2_with fail;refine l.mono ?_;rintro e P ⟨rfl,u,_⟩;have F:=cU u;clear u l;go_wp2_with fail;refine(B _).mono ?_;rintro e q ⟨rfl,V⟩;obtain rfl:=V.symm;go_wp2;go_ret;exact⟨O,_,cT M,cT F⟩
  |true =>
   have aa:=cU (Rd.oG Q);have j:=λW (hW:ly W b d.eg)=>yv b 1 _ _ d.eg.vn d.eg.names x W (hW.JF (by rw[g];exact t))
   rw[g] at j;have X:d.IX x y=if Sd.dD d.names x=We then 0 else 11:=by unfold Dv.IX Dv.pR;rw[Tf (by rw[Q];simp),m];simp
   rw[Q] at B;cases G:Sd.dD d.names x with
   |false =>
    rw[G] at X;have r:d.IX x y=11:=by rw[X];simp
    have M:Hid (d.Cx x y d.eg):=by show Dv.Cx _ _ _ _;unfold Dv.Cx;rw[Tf (by rw[r];simp)]
    rw[G,Sd.ma G] at j;unfold eZ at j;rw[r];clear h m Q r X G;go_enter func95,ntmps95;go_wp2_with fail;refine l.mono ?_;rintro e P ⟨rfl,u,_⟩;have R:=j P u.at';have F:=cU u;clear u l j;go_wp2_with fail;refine(B _).mono ?_;rintro e q ⟨rfl,V⟩;obtain rfl:=V.symm;go_wp2_with fail;refine R.mono ?_;rintro e q ⟨rfl,A⟩;clear R;go_wp2;go_ret;exact⟨O,_,cT M,(cT F).trans (pN.below (cT F).at' A)⟩
   |true =>
    rw[G] at X;have r:d.IX x y=0:=by rw[X];simp
    obtain⟨_,_,e2⟩:=Sd.gu h.sn G;obtain⟨f,s⟩:∃f,Sd.jy d.names x=S f:=⟨_,e2⟩
    have HM:=cU (h.Ga (x,f) ((Sd.fR h.sn).1 s));rw[G,s] at j;unfold eZ eH at j;by_cases C:x=y
    .have M:Hid (d.Cx x y d.eg):=by show Dv.Cx _ _ _ _;unfold Dv.Cx;rw[Tf (λG=>G.2 C)]
     have g1:=Rd.P8 C;rw[r];clear h m Q r X G e2 s C;go_enter func95,ntmps95;go_wp2_with fail;refine l.mono ?_;rintro e P ⟨rfl,u,_⟩;have R:=j P u.at';have F:=cU u;clear u l j;go_wp2_with fail;refine(B _).mono ?_;rintro e q ⟨rfl,V⟩;obtain rfl:=V.symm;go_wp2_with fail;refine R.mono ?_;rintro e q ⟨rfl,A⟩;clear R;go_wp2;go_ret;exact⟨O,_,cT M,(cT F).trans (pN.below (cT F).at' A)⟩
    .have M:Hid (∀I K,d.Cx x y (d.eg.Fv ⟨x,y,S f⟩ I K)):=λI K=>by unfold Dv.Cx;rw[Tg ⟨r,C⟩];exact⟨f,I,K,s,O⟩
     have g1:=Rd.Oo C;rw[r];clear h m Q r X G e2 s C;go_enter func95,ntmps95;go_wp2_with fail;refine l.mono ?_;rintro e P ⟨rfl,u,_⟩;have R:=j P u.at';have F:=cU u;clear u l j;go_wp2_with fail;refine(B _).mono ?_;rintro e q ⟨rfl,V⟩;obtain rfl:=V.symm;go_wp2_with fail;refine R.mono ?_;rintro e q ⟨rfl,A⟩;clear R;have p:=λW=>Bf x y f W hx hy
     unfold eH at p;go_wp2_with fail;refine(p _).mono ?_;rintro e w2 ⟨rfl,o⟩;have T:V4 P w2:=A.trans (o.mono A.size);have h2:=(cT F).trans (pN.below (cT F).at' T);have L:=qK b d.eg ⟨x,y,S f⟩ w2 h2.at' (by rw[ec];exact hl) (by rw[g];exact t) (Wh ⟨f,rfl,cT aa⟩) (λz hz=>by cases hz;rw[ef];exact cT HM);unfold eZ eH at L;have H2:=cU h2;clear h2 A o T g ec ef;go_wp2_with fail;refine L.mono ?_;rintro e w3 ⟨rfl,I,K,h3⟩;have H3:=cU h3;clear L h3;go_wp2;go_ret;exact⟨O,_,(cT M) I K,(cT H2).trans (cT H3)⟩
end Pk
namespace Pk
open Sd (Tb)
open Dk
def ve(b:Nat)(d:Dv)(T:Tb)(w:V5)(e:Ending)(w':V5):Prop:=e=Wd (Wb #[])/\∃j,w'.heap[b]?=S (D ({ d with vs:=j,vc := J U 0 0 }:Dv).cells 64 (0,0))/\
  w'.ownsRow 0 194 2 j (Wn T) (Dk.cV T)/\Kept w w' (λk=>k≠b)/\∀g,j.ownBlock=S g->N (E w)<=g
theorem rj(b:Nat)(d:Dv)(T:Tb)(w:V5)(h:eW w b 1 d.cells 64 d.vn T)(B:∃p n c,d.vs=J p n c)(C:∃p n c,d.vc=J p n c):V7 prog 60 #[V9 (S ⟨b,0,U⟩)] w (ve b d T w):=by
 have u:=Db b 1 d.cells 64 d.vn T w h;obtain⟨M,P,Q,A⟩:=B;obtain⟨R,V,W,I⟩:=C;have F:=cU h.blk;clear h;go_enter func60,ntmps60;go_wp2_with fail;refine u.mono ?_;rintro e m ⟨v',rfl,y,z,r⟩;have l:=(z.block b (cX (cT F))).trans (cT F);have X:m.cell? ⟨b,2,U⟩=S (J M P Q):=by rw[Ti m _ 2 _ _ _ l,<-A];rfl
 have q:m.cell? ⟨b,3,U⟩=S (J R V W):=by rw[Ti m _ 3 _ _ _ l,<-I];rfl
 have t:m.frozen? ⟨b,2,U⟩=Wg:=by simp[World.frozen?,l]
 have s:m.frozen? ⟨b,3,U⟩=Wg:=by simp[World.frozen?,l]
 obtain⟨K,L,rfl⟩:=gG y;have j:=cU (And.intro y (And.intro z (And.intro r l)));clear u y z r l A I;go_wp2;obtain⟨y,z,r,l⟩:=cT j;have o:b<N (E w):=cX (cT F);refine Tm (Tl O _ _ _) O ⟨O,J K (Wn T) L,?_,?_,?_,r⟩
 .have g:=Tq m b 2 _ _ (J K (Wn T) L) l;have A:=Tq _ b 3 _ _ (J U 0 0) g;exact A
 .refine Ui (Ui y (λe=>?_) _) (λe=>?_) _
  .have:=r _ e;simp at this;omega
  .have:=r _ e;simp at this;omega
 .exact((Kept.below z _).setCell (λG=>G O) _).setCell (λG=>G O) _
def Dv.sy(d:Dv)(b:V6):Dv:={ d with safe:=d.names,dX:=[],vs:=b,vc := J U 0 0 }
variable {w:V5}{d:Dv}
theorem ly.sy{w':V5}{b:Nat}{j:V6}(hd:ly w b d)(m:w'.heap[b]?=S (D ({ d with vs:=j,vc := J U 0 0 }:Dv).cells 64 (0,0)))(r:w'.ownsRow 0 194 2 j (Wn d.names) (Dk.cV d.names))(u:Kept w w' (λk=>k≠b))(A:∀g,j.ownBlock=S g->N (E w)<=g): pN w w' b d (d.sy j):=by
 refine⟨⟨m,?_,r,TH _ _ _ _,hd.sn,hd.sn,λg y e=>?_,λf B=>?_,hd.fap,hd.Ga,hd.Ga,λc z=>(by cases z)⟩,u.mono (λk _ h e=>h (Wh e)),λk u=>?_⟩
 .refine dy hd.rn u (λg y=>?_);obtain⟨c,z,_⟩:=di hd.rn y;exact dh z hd.blk (by decide)
 .have:=A g e;have:=jI hd.rn y;omega
 .have l:=hd.files f B;refine l.kept u (dh l.blk hd.blk (by decide)) (λg y=>?_);obtain⟨c,z⟩:=l.own y;exact dh z hd.blk (by decide)
 .rcases u with e|e|e|e|e
  .exact Wh (Wh e)
  .exact Wh (Wi (Wh e))
  .exact Wi (A k e)
  .simp[Dv.sy,Value.ownBlock] at e
  .exact Wh (Wi (Wi (Wi (Wi e))))
def Dv.Qv(d:Dv):Int:=if d.up=We then 0 else 9
def Dv.PX(d:Dv)(e:Dv):Prop:=if d.up=We then ∃b,e=d.eg.sy b else e=d.eg
theorem AF(b:Nat)(d:Dv)(w:V5)(h:ly w b d)(M:Wn d.names<=1000000000):V7 prog 92 #[V9 (S ⟨b,0,U⟩)] w (ti w b d d.Qv d.PX):=by
 have u:=lU b d w h;obtain⟨K,_,P,_⟩:=jA d;cases l:d.up with
 |false =>
  have A:d.Qv=9:=by unfold Dv.Qv;rw[l];rfl
  have I:Hid (d.PX d.eg):=by show Dv.PX _ _;unfold Dv.PX;rw[l];rfl
  rw[l] at u;rw[A];clear h l A;go_enter func92,ntmps92;go_wp2_with fail;refine u.mono ?_;rintro e L ⟨rfl,z,_⟩;have C:=cU z;clear z u;go_wp2;go_ret;exact⟨O,_,cT I,cT C⟩
 |true =>
  have A:d.Qv=0:=by unfold Dv.Qv;rw[l];rfl
  have I:Hid (∀y,d.PX (d.eg.sy y)):=λy=>by unfold Dv.PX;rw[Tg l];exact⟨y,O⟩
  rw[l] at u;rw[A];clear h l A;go_enter func92,ntmps92;go_wp2_with fail;refine u.mono ?_;rintro e L ⟨rfl,z,_⟩;have hd:=z.at';have B:=rj b d.eg d.eg.names L (hd.JF (by rw[K];exact M)) (by obtain⟨p,c,e⟩:=gG hd.rs;exact⟨p,_,c,e⟩) (by obtain⟨p,c,e⟩:=gG hd.rc;exact⟨p,_,c,e⟩);have C:=cU z;clear z u hd K P;go_wp2_with fail;refine B.mono ?_;rintro e Q ⟨rfl,y,m,r,F,G⟩;have j:=cU (And.intro m (And.intro r (And.intro F G)));clear B m r F G;go_wp2;go_ret;obtain⟨m,r,F,G⟩:=cT j;exact⟨O,_,(cT I) y,(cT C).trans ((cT C).at'.sy m r F G)⟩
def Dv.oa(d:Dv)(f:Nat)(X:Fl)(v':V6):Dv:={ d with F:=oq d.F f X,vb:=oq d.vb f v' }
theorem xU{W:V5}{b f:Nat}{X:Fl}{v':V6}(hd:ly w b d)(I:f∈d.fs)(P:Kept w W (λk=>k≠f/\(d.vb f).ownBlock≠S k))(K:sj W f X v')(p:v'.ownBlock=(d.vb f).ownBlock\/∃g,v'.ownBlock=S g/\(N (E w))<=g):pN w W b d (d.oa f X v'):=by
 have u:=hd.files f I;have R:=cX hd.blk;have y:∀g e c,w.heap[g]?=S (D c e (0,0))->e≠127->e≠5->(g≠f/\(d.vb f).ownBlock≠S g):=λg e c j T V=>by
  refine⟨dh j u.blk T,λz=>?_⟩;obtain⟨c',q⟩:=u.own z;exact dh j q V O
 have m:∀{e size n:Nat} {v:V6} {o:List V6},w.ownsRow 0 e size v n o->e≠127->e≠5->W.ownsRow 0 e size v n o:=λh T V=>dy h P (λg j=>by
  obtain⟨c,C,_⟩:=di h j;exact y g _ c C T V)
 have A:∀k,k∈d.fs->k≠f->∀g,v'.ownBlock=S g->(d.vb k).ownBlock≠S g:=λk L i g j e=>by
  rcases p with h|⟨g',h,t⟩
  .rw[h] at j;exact hd.fap f k I L (UC i) g j e
  .rw[h] at j;have:g'=g:=TG j;obtain⟨c,C⟩:=(hd.files k L).own e;have:=cX C;omega
 refine⟨⟨?_,m hd.rn (by decide) (by decide),m hd.rs (by decide) (by decide),m hd.rc (by decide) (by decide),hd.sn,hd.ss,hd.apart,λk l=>?_,λk Q l B G g j=>?_,hd.Ga,hd.Oj,hd.P5⟩,P.mono (λk _ hh=>⟨λe=>hh (Wi (Wi (Wi (Wi ⟨f,I,Wh e⟩)))),λe=>hh (Wi (Wi (Wi (Wi ⟨f,I,Wi e⟩))))⟩),λk s=>?_⟩
 .have:=y b _ _ hd.blk (by decide) (by decide);rw[P.block b R this];exact hd.blk
 .show sj W k (oq d.F f X k) (oq d.vb f v' k)
  by_cases e:k=f
  .subst e;rw[eG,eG];exact K
  .rw[eu _ _ e,eu _ _ e];refine(hd.files k l).kept P ⟨e,λz=>?_⟩ (λg j=>⟨?_,λz=>hd.fap k f l I e g j z⟩)
   .obtain⟨c,C⟩:=u.own z;exact dh C (hd.files k l).blk (by decide) O
   .obtain⟨c,C⟩:=(hd.files k l).own j;exact dh C u.blk (by decide)
 .have r:(oq d.vb f v' k).ownBlock=S g:=j;clear j
  show (oq d.vb f v' Q).ownBlock≠S g
  by_cases e:k=f
  .subst e;rw[eG] at r;rw[eu _ _ (UC G)];exact A Q B (UC G) g r
  .rw[eu _ _ e] at r;by_cases z:Q=f
   .subst z;rw[eG];exact λh=>A k l e g h r
   .rw[eu _ _ z];exact hd.fap k Q l B G g r
 .rcases s with e|e|e|e|⟨x,K,e⟩
  .exact Wh (Wh e)
  .exact Wh (Wi (Wh e))
  .exact Wh (Wi (Wi (Wh e)))
  .exact Wh (Wi (Wi (Wi (Wh e))))
  .by_cases M:x=f
   .subst M;rcases e with e|e
    .exact Wh (Wi (Wi (Wi (Wi ⟨x,K,Wh e⟩))))
    .have e:(oq d.vb x v' x).ownBlock=S k:=e;rw[eG] at e;rcases p with h|⟨g',h,t⟩
     .exact Wh (Wi (Wi (Wi (Wi ⟨x,K,Wi (h ▸ e)⟩))))
     .rw[h] at e;have:=TG e;exact Wi (by omega)
   .refine Wh (Wi (Wi (Wi (Wi ⟨x,K,?_⟩))));rcases e with e|e
    .exact Wh e
    .have e:(oq d.vb f v' x).ownBlock=S k:=e;rw[eu _ _ M] at e;exact Wi e
theorem sY{f:Nat}{X:Fl}{v:V6}(h:sj w f X v)(n:Nat): sj (w.setCell ⟨f,1,U⟩ (Z Y n)) f ⟨X.bytes,n⟩ v:=⟨by rw[Tq w f 1 _ _ _ h.blk];rfl,Ui h.row (λe=>by
  obtain⟨c,b⟩:=h.own e;exact dh b h.blk (by decide) O) _⟩
theorem Br{y:V8}(j:Sd.dj d.names)(h:d.pR y=0): ∃f,Sd.jy d.names y=S f/\d.AL y=S f:=by
 unfold Dv.pR at h;cases b:d.up with
 |false=>rw[b] at h;simp at h
 |true =>
  cases hh:Sd.dD d.names y with
  |false=>rw[b,hh] at h;simp at h
  |true =>
   obtain⟨_,_,e⟩:=Sd.gu j hh;refine⟨_,e,?_⟩;unfold Dv.AL;rw[Tg b,e]
def Dv.OV(d:Dv)(y:V8)(b:Dv):Prop:=if d.pR y=0 then ∃f e,Sd.jy d.names y=S f/\b=d.eg.oa f ⟨(d.F f).bytes,(d.F f).bytes.size⟩ e else b=d.eg
theorem IG(b:Nat)(d:Dv)(y:V8)(w:V5)(h:ly w b d)(o:Wn d.names<=1000000000):V7 prog 142 #[V9 (S ⟨b,0,U⟩),H y] w (ti w b d (d.pR y) (d.OV y)):=by
 have j:=mD b d y w h o;obtain⟨g,_,ec,V,X,_⟩:=jA d;by_cases z:d.pR y=0
 .obtain⟨f,L,G⟩:=Br h.sn z;have M:Hid (∀P,d.OV y (d.eg.oa f ⟨(d.F f).bytes,(d.F f).bytes.size⟩ P)):=λP=>by unfold Dv.OV;rw[Tg z];exact⟨f,P,L,O⟩
  have HM:=cU (h.Ga (y,f) ((Sd.fR h.sn).1 L));rw[G,z] at j;rw[z];unfold eZ eH at j;clear h z L G;go_enter func142,ntmps142;go_wp2_with fail;refine j.mono ?_;rintro e A ⟨rfl,B⟩;have I:=B.at';have C:f∈d.eg.fs:=by rw[V];exact cT HM
  have m:=I.files f C;rw[X] at m;have u:=m.row;obtain⟨p,Q,q⟩:=gG u;have l:=m.blk;rw[q] at l;have c0:A.cell? ⟨f,0,U⟩=S (J p (d.F f).bytes.size Q):=by rw[Ti A _ 0 _ _ _ l];rfl
  have c1:A.cell? ⟨f,1,U⟩=S (Z Y (d.F f).safe):=by rw[Ti A _ 1 _ _ _ l];rfl
  have f1:A.frozen? ⟨f,1,U⟩=Wg:=by simp[World.frozen?,l]
  have hm:(d.F f).bytes.size<=9223372036854775807:=by
   rcases u.2 with ⟨_,z⟩|⟨_,t,_,_,_,_,B,h2,_⟩
   .omega
   .unfold maxLen at h2;omega
  have HF:=cU m;have K:=cU B;have R:=cU C;clear I m u q l B j C X V g ec;go_wp2;go_ret;have r:=xU (cT K).at' (cT R) (W:=A.setCell ⟨f,1,U⟩ (Z Y ((d.F f).bytes.size:Nat))) ((Kept.refl A _).setCell (λhk=>hk.1 O) _) (sY (cT HF) (d.F f).bytes.size) (Wh O);exact⟨O,_,(cT M) _,(cT K).trans r⟩
 .have M:Hid (d.OV y d.eg):=by show Dv.OV _ _ _;unfold Dv.OV;rw[Tf z]
  obtain⟨n,T⟩:∃n,d.pR y=n:=⟨_,rfl⟩
  have aa:(n == 0)=Wg:=Tt.2 (T ▸ z);rw[T] at j ⊢;obtain⟨p,s⟩:∃p,eZ (d.AL y)=V9 p:=by cases d.AL y <;> exact⟨_,O⟩
  rw[s] at j;clear h z s T;go_enter func142,ntmps142;go_wp2_with fail;refine j.mono ?_;rintro e A ⟨rfl,B⟩;have K:=cU B;clear j B;go_wp2;go_ret;exact⟨O,_,cT M,cT K⟩
end Pk
namespace Pk
open Go.RowKit Go.Shelf
open Sd (Tb)
open Dk
attribute [local go_sem] Oper.semAt_some
theorem qX{N:Nat}{e:Nat->Prop}{w:V5}(j:N<=w.heap.size)(W:V5)(l:Nat)(o b:Obj)(m:w.heap.size<=l)(h:W.heap[l]?=S o)(_:o.isCells=Wg)(_:o.isWalk=Wg):fV N e W (W.putObj l b):=fV.putObj W l o b (by omega) h
theorem ux{β : Type}(B k:Nat)(f : β->Obj)(m:∀s,(f s).isCells=We):OwnFrom B (λ(s : β) W=>W.heap[k]?=S (f s)):=λs W A r b u y=>by
 have b:W.heap[k]?=S (f s):=b;have z:k<N (E W):=(Ts.1 b).1;refine(u.block k z (λe=>?_)).trans b;obtain⟨_,o,j,l⟩:=y k e.symm;rw[b] at j;have:f s=o:=TG j;rw[<-this,m s] at l;cases l
def used(F:Nat->Fl)(T:Sd.Tb):Nat:=(T.map λp=>(F p.2).bytes.size).sum
theorem FG(F:Nat->Fl){T:Sd.Tb}(b:List { x:V8 × Nat // x∈T })(hu:∀p∈T,(F p.2).bytes.size<=4194304):used F (b.map (·.1))<=Wn b*4194304:=by
 induction b with
 |nil=>simp[used]
 |cons p t e =>
  have h:=hu p.1 p.2;simp only[used,Uj,Vp,Tr,Nat.succ_mul] at e ⊢;omega
theorem As(b:Nat)(d:Dv)(w:V5)(h:ly w b d)(hl:Wn d.names<=1000000000)(hu:∀p∈d.names,(d.F p.2).bytes.size<=4194304):V7 prog 33 #[V9 (S ⟨b,0,U⟩)] w λe w'=>e=Wd (Z Y (used d.F d.names))/\V4 w w':=by
 refine(UF (n:=5)).1 ?_;refine callsIn_of_wp_marks func33 O trivial ?_ O;simp only[ntmps33,US,Tr,UB,Nat.reduceAdd,Nat.reduceSub,U1,U2,U4,U5,Ul,TZ];obtain⟨p,R,T,G⟩:=Dk.dS (h.rn);have HD:=cU h;have s:b<N (E w):=cX h.blk
 gi_wp2_with (refine⟨trivial,?_⟩;gi_at_call 55;refine(Dk.qC _ _ trivial O _ _).mono ?_;rintro e w' ⟨rfl,rfl⟩)
 obtain⟨I,B⟩:∃I,((w.alloc (D #[Z Y 0] 3)).alloc (D #[V9 (S ⟨b,1,U⟩)] 131))=I:=⟨_,rfl⟩
 have ah:N (E I)=N (E w)+2:=by rw[<-B];simp
 have L:V4 w I:=by rw[<-B];exact((Th _ w).alloc V2 _).alloc (by simp) _
 have o:I.heap[N (E w)]?=S (D #[Z Y 0] 3 (0,0)):=by
  rw[<-B,TD _ _ _ (by simp)];exact UO w _
 have aa:I.cell? ⟨N (E w)+1,0,U⟩=S (V9 (S ⟨b,1,U⟩)):=by
  have:=UO (w.alloc (D #[Z Y 0] 3)) (D #[V9 (S ⟨b,1,U⟩)] 131);rw[TK,B] at this;simp[World.cell?,this]
 have ab:I.cell? ⟨b,1,U⟩=S (J p (Wn d.names) R):=by
  rw[L.cell (p:=⟨b,1,U⟩) s,Ti w b 1 _ _ _ h.blk,<-T];rfl
 have ad:∀j (hj:j<Wn d.names),∃g,p=S ⟨g,0,U⟩/\g<N (E w)/\True/\I.cell? ⟨g,j*2,U⟩=S (H d.names[j].1)/\I.cell? ⟨g,j*2+1,U⟩=S (eH d.names[j].2):=λj hj=>by
  obtain⟨g,e,c0,c1⟩:=G j hj;have hg:=Tu w _ c0;exact⟨g,e,hg,trivial,(L.cell (p:=⟨g,j*2,U⟩) hg).trans c0,(L.cell (p:=⟨g,j*2+1,U⟩) hg).trans c1⟩
 rw[B];clear B G T h;refine wpIn_rangeFunc_ownG O (by omega) (gf:=96) (lb := #[V9 (S ⟨N (E w)+1,0,U⟩)]) O trivial (enters_of func96 (by kernel_rfl) O)
  (Dk.kK _ _ trivial O (by omega) (N (E w)+1) b 1 (N (E w)) (λ_=>True) p R d.names hl I (by omega) (by omega) (by omega) aa ab ad) (λh k=>h.trans k) (qX (by omega)) (Th _ _) (λ_=>O)
  (λr W=>W.heap[N (E w)]?=S (D #[Z Y (used d.F (r.map (·.1)))] 3 (0,0))/\Below (N (E w)) I W)
  (λ_ _ _=>False)
  (OwnFrom.and (ux _ _ (λr:List { x:V8 × Nat // x∈d.names }=>Obj.cells #[Z Y (used d.F (r.map (·.1)))] 3 (0,0)) (λ_=>O)) (ownFrom_below (by omega) (by omega)))
  (λ_ _ _ _ _ hs _ _=>hs)
  ⟨o,Th _ _⟩
  (λy=>{ tmps := #[V9 (S ⟨b,0,U⟩),undef,Z Y 0,V9 (S ⟨N (E w),0,U⟩),undef,eH y.1.2,V9 (S ⟨b,0,U⟩),V9 (S ⟨b,0,U⟩),V9 (S ⟨b,1,U⟩),.func (.func 96) #[] #[V9 (S ⟨N (E w)+1,0,U⟩)],H y.1.1,eH y.1.2,undef,undef,undef,undef,undef,undef,undef,undef],defers:=[] }) ?assign ?body ?done ?stop
 case assign =>
  intro l y W K hK
  gi_wp2
  exact hK
 case body =>
  rintro l' r ⟨⟨ya,A⟩,hy⟩ W ⟨u,M⟩ ai;have hd:=(cT HD).below (L.trans M);have P:=hd.files A (hd.Ga (ya,A) hy);obtain⟨pb,cb,V⟩:=gG P.row;have Q:=P.blk;rw[V] at Q;have k0:W.cell? ⟨A,0,U⟩=S (J pb (d.F A).bytes.size cb):=by rw[Ti W _ 0 _ _ _ Q];rfl
  have u0:W.cell? ⟨N (E w),0,U⟩=S (Z Y (used d.F (r.map (·.1)))):=by rw[Ti W _ 0 _ _ _ u];rfl
  have uf:W.frozen? ⟨N (E w),0,U⟩=Wg:=by simp[World.frozen?,u]
  have X:=hu (ya,A) hy;have ae:used d.F (r.map (·.1))<=4194304000000000:=To (FG d.F r hu) (To (VH 4194304 (show (Wn r)<=1000000000 by omega)) (by decide));have z:used d.F ((r++[(⟨(ya,A),hy⟩:{ x:V8 × Nat // x∈d.names })]).map (·.1))=used d.F (r.map (·.1))+(d.F A).bytes.size:=by simp[used]
  generalize used d.F (r.map (·.1))=m at u u0 ae z;have X:(d.F A).bytes.size<=4194304:=X;have HN:=cU z;have HU:=cU u;have HB:=cU M;clear hd P Q V z u M;unfold eH
  gi_wp2
  gi_region
  all_goals
   have ew:IntKind.i64.wrap ((m:Int)+((d.F A).bytes.size:Int))=((m+(d.F A).bytes.size:Nat):Int):=by rw[TJ];omega
   rw[ew];have af:KeepsOthers W (W.setCell ⟨N (E w),0,U⟩ (Z Y ((m+(d.F A).bytes.size:Nat):Int))).drew:=⟨(KeepsOthers.setCell W _ _).1,(KeepsOthers.setCell W _ _).2⟩
   have ag:(W.setCell ⟨N (E w),0,U⟩ (Z Y ((m+(d.F A).bytes.size:Nat):Int))).drew.heap[N (E w)]?=S (D #[Z Y ((m+(d.F A).bytes.size:Nat):Int)] 3 (0,0)):=Tq W (N (E w)) 0 _ _ _ (cT HU);have C:Below (N (E w)) W (W.setCell ⟨N (E w),0,U⟩ (Z Y ((m+(d.F A).bytes.size:Nat):Int))).drew:=((Th (N (E w)) W).setCell (p:=⟨N (E w),0,U⟩) V2 _).drew;exact⟨af.from _,⟨C.os,C.tape,C.output,C.size,λk hk _=>C.block k hk⟩,by rw[cT HN];exact ag,(cT HB).trans C⟩
 case done =>
  rintro Dd ys W aj q ⟨u,M⟩ hK;have u:W.heap[N (E w)]?=S (D #[Z Y (used d.F d.names)] 3 (0,0)):=by
   rw[q,VZ] at u;exact u
  have u0:W.cell? ⟨N (E w),0,U⟩=S (Z Y (used d.F d.names)):=by rw[Ti W _ 0 _ _ _ u];rfl
  have t:=L.trans M;clear q u
  gi_wp2
  refine⟨by simp,.inl ⟨_,_,O,run_takeDeferred hK,?_⟩⟩;refine⟨Z Y (used d.F d.names),by simp[results,results33,go_sem],O,?_⟩;exact t.grown (Vy W Dd _) t.size (λk hk=>by cases hk;omega)
 case stop =>
  intro D' c r W _ _ h;exact h.elim
end Pk
namespace Pk
open Go.RowKit Go.Shelf
open Sd (Tb)
open Dk
theorem info_u8:(prog.info? 5).map (λi=>(i.zero,i.size,i.bytes))=S (S (Z .u8 0),1,1):=by kernel_rfl
theorem Da{P:Program}(w:V5)(base:Nat)(t u F e:TypeId)(i:TypeInfo)(ht:P.underlying t=S (.slice e))(hu:P.underlying u=S .string)(hi:P.info? e=S i)(L:i.zero=S (Z .u8 0))(b:i.size=1)(y:i.bytes=1)(v:V6)(n:Nat)(C:List V6)(l:w.ownsRow base e 1 v n C)(s:V8)(M:n+s.size<=140737488355328)(z:base<=N (E w)):∃p c G,(Builtin.append_ #[t,u] F #[v,H s]).run P w=.ok (J p (n+s.size) c) G/\G.ownsRow base e 1 (J p (n+s.size) c) (n+s.size) (C++Lib.strCells s)/\w.grownBy G v.ownBlock/\
   ((Value.slice p (n+s.size) c).ownBlock=v.ownBlock\/(Value.slice p (n+s.size) c).ownBlock=S (N (E w))):=by
 obtain⟨o,G,A,W,k,I⟩:=Lib.run_append_own_string (P:=P) w base t u F e i ht hu hi L b y v n C l s (by unfold maxLen;omega) M z;obtain⟨p,c,rfl⟩:=gG W;refine⟨p,c,G,A,W,k,?_⟩;have Q:Wn C=n:=by simpa using l.1
 rcases l.2 with ⟨rfl,rfl⟩|⟨g,r,K,rfl,x,R,q,h,T,V⟩
 .by_cases f:s.size=0
  .have:=I.2 ⟨O,f⟩;rw[this];exact Wh O
  .have m:=run_append_nil_string (P:=P) w t u F e i (Z .u8 0) ht hu hi L s (by omega) (by omega) (by rw[y];omega);rw[m] at A;injection A with e1 e2;rw[<-e1];exact Wi O
 .by_cases B:n+s.size<=r
  .have X:K.size=r:=by simpa using T
   have m:=Lib.run_append_room_string (P:=P) w t u F e i ht hu hi b g n r K R s B (by omega);rw[m] at A;injection A with e1 e2;rw[<-e1];exact Wh O
  .have holds:∀j u,C[j]?=S u->w.cell? ((⟨g,0,U⟩:Addr).add j)=S u:=l.cells (g:=g) O;have m:=Lib.run_append_grow_string (P:=P) w t u F e i (Z .u8 0) ht hu hi L ⟨g,0,U⟩ n r C (by rw[b];simpa using Q) holds s (by omega) (by omega) (by rw[y];exact growslice_fits (by omega) (by omega));rw[m] at A;injection A with e1 e2;rw[<-e1];exact Wi O
theorem wV(a b:V8):byteCells (a++b)=byteCells a++Lib.strCells b:=by
 unfold byteCells Lib.strCells;rw[U6,Vu,UD]
def Dv.OS(d:Dv)(y t:V8):Int:=if d.pR y=0 then (if d.q<(used d.F d.names:Int)+t.size then 12 else 0) else d.pR y
def Dv.LF(d:Dv)(y t:V8)(b:Dv):Prop:=if d.OS y t=0 then ∃f e,Sd.jy d.names y=S f/\b=d.eg.oa f ⟨(d.F f).bytes++t,(d.F f).safe⟩ e else b=d.eg
theorem DL(b:Nat)(d:Dv)(y t:V8)(w:V5)(h:ly w b d)(hl:Wn d.names<=1000000000)(hu:∀p∈d.names,(d.F p.2).bytes.size<=4194304)(ht:t.size<=4194304):V7 prog 141 #[V9 (S ⟨b,0,U⟩),H y,H t] w (ti w b d (d.OS y t) (d.LF y t)):=by
 obtain⟨i0,hi,aj,ak,an⟩:=TN info_u8;have z:=mD b d y w h hl;obtain⟨en,_,ec,ef,eF,eq⟩:=jA d;by_cases h0:d.pR y=0
 .obtain⟨f,hf,ai⟩:=Br h.sn h0;have L:d.OS y t=if d.q<(used d.F d.names:Int)+t.size then 12 else 0:=by unfold Dv.OS;rw[Tg h0]
  have HM:=cU (h.Ga (y,f) ((Sd.fR h.sn).1 hf));have ax:(d.F f).bytes.size<=4194304:=hu (y,f) ((Sd.fR h.sn).1 hf);have ao:used d.F d.names<=4194304000000000:=by
   have Q:=FG d.F d.names.attach hu;rw[VZ,List.length_attach] at Q;exact To Q (To (VH 4194304 hl) (by decide))
  have R:=λW (hW:ly W b d.eg)=>As b d.eg W hW (by rw[en];exact hl) (by rw[en,eF];exact hu)
  rw[en,eF] at R;rw[ai,h0] at z;unfold eZ eH at z;obtain⟨j,hU⟩:∃j,used d.F d.names=j:=⟨_,rfl⟩
  rw[hU] at L ao R;obtain⟨q,af⟩:∃q,d.q=q:=⟨_,rfl⟩
  rw[af] at L;have HF:=cU hf;have HC:=cU (And.intro ef (And.intro eF (eq.trans af)));clear h h0 hf ai hU en ec ef eF eq af hu;by_cases A:q<(j:Int)+(t.size:Int)
  .rw[Tg A] at L;have HD:Hid (d.LF y t d.eg):=by show Dv.LF _ _ _ _;unfold Dv.LF;rw[Tf (by rw[L];decide)]
   rw[L];have ay:decide (IntKind.i64.wrap ((j:Int)+(t.size:Int)) > q)=We:=TU (by rw[TJ];omega);have av:q<IntKind.i64.wrap ((j:Int)+(t.size:Int)):=by rw[TJ];omega
   clear L A;go_enter func141,ntmps141;go_wp2_with fail;refine z.mono ?_;rintro e s ⟨rfl,Q⟩;have C:=Q.at';have o:=C.blk;have B:b<N (E s):=cX o;have q0:s.cell? ⟨b,0,U⟩=S (Z Y q):=by rw[C.cell.1,(cT HC).2.2]
   have T:=cU Q;have ag:=cU R;clear z Q C o R;go_wp2_with fail
   go_region_with (go_at_call 33;refine((cT ag) _ (by first|exact(cT T).at'|exact(cT T).at'.below V3.drew)).mono ?_;rintro e g ⟨rfl,G⟩;have q2:g.cell? ⟨b,0,U⟩=S (Z Y q):=(G.cell (p:=⟨b,0,U⟩) (by first|exact B|simpa using B)).trans q0)
   all_goals
    have m:V4 s g:=(Th _ s).drew.trans (G.mono (by simp));have HB:=cU m;clear G m;go_wp2;go_ret;exact⟨O,_,cT HD,(cT T).trans (pN.below (cT T).at' (cT HB))⟩
  .rw[Tf A] at L;have HD:Hid (∀v',d.LF y t (d.eg.oa f ⟨(d.F f).bytes++t,(d.F f).safe⟩ v')):=λv'=>by unfold Dv.LF;rw[Tg L];exact⟨f,v',cT HF,O⟩
   rw[L];have az:(j:Int)+(t.size:Int)<=q:=by omega
   have aw:IntKind.i64.wrap ((j:Int)+(t.size:Int))<=q:=by rw[TJ];omega
   clear L A;go_enter func141,ntmps141;go_wp2_with fail;refine z.mono ?_;rintro e s ⟨rfl,Q⟩;have C:=Q.at';have o:=C.blk;have B:b<N (E s):=cX o;have q0:s.cell? ⟨b,0,U⟩=S (Z Y q):=by rw[C.cell.1,(cT HC).2.2]
   have T:=cU Q;have ag:=cU R;clear z Q C o R;go_wp2_with fail
   go_region_with (go_at_call 33;refine((cT ag) _ (by first|exact(cT T).at'|exact(cT T).at'.below V3.drew)).mono ?_;rintro e g ⟨rfl,G⟩;have q2:g.cell? ⟨b,0,U⟩=S (Z Y q):=(G.cell (p:=⟨b,0,U⟩) (by first|exact B|simpa using B)).trans q0)
   all_goals
    have m:V4 s g:=(Th _ s).drew.trans (G.mono (by simp));have aa:=(cT T).at'.below m;have V:f∈d.eg.fs:=by rw[(cT HC).1];exact cT HM
    have X:=aa.files f V;rw[(cT HC).2.1] at X;obtain⟨pb,cb,I⟩:=gG X.row;have K:=X.blk;rw[I] at K;have M:=X.row;rw[I] at M;have k0:g.cell? ⟨f,0,U⟩=S (J pb (d.F f).bytes.size cb):=by rw[Ti g _ 0 _ _ _ K];rfl
    have kf:g.frozen? ⟨f,0,U⟩=Wg:=by simp[World.frozen?,K]
    have aq:f<N (E g):=cX K;obtain⟨p3,c3,w3,hr,ab,ad,ae⟩:=Da (P:=prog) g 0 125 9 125 5 i0 underlying125 underlying9 hi aj ak an (J pb (d.F f).bytes.size cb) _ _ M t (by omega) (Tp _);have ar:S f≠(Value.slice pb (d.F f).bytes.size cb).ownBlock:=λe=>by
     obtain⟨c',ah,_⟩:=di M e.symm;exact dh ah K (by decide) O
    have u:w3.heap[f]?=S (D #[J pb (d.F f).bytes.size cb,Z Y (d.F f).safe] 127 (0,0)):=(ad.block f aq ar).trans K;have k3:w3.cell? ⟨f,0,U⟩=S (J pb (d.F f).bytes.size cb):=by rw[Ti w3 _ 0 _ _ _ u];rfl
    have aA:w3.frozen? ⟨f,0,U⟩=Wg:=by simp[World.frozen?,u]
    have l:=cU (And.intro m (And.intro I (And.intro ab (And.intro ad (And.intro ae (And.intro u V))))));clear m I ab ad ae u aa X K M G V;go_wp2_with (first
     | (at_builtin;go_must (refine Lib.wpList_append_run _ O (.tmp 32) (.tmp 33) _ _ O _ _ O O _ _ hr ?_))
     |go_in)
    go_ret;obtain⟨m,I,ab,ad,ae,u,V⟩:=cT l;have aa:=(cT T).at'.below m;have X:=aa.files f V;have au:Kept g (w3.setCell ⟨f,0,U⟩ (J p3 ((d.F f).bytes.size+t.size) c3)) (λk=>k≠f/\(d.eg.vb f).ownBlock≠S k):=(Kept.grown ad (λk hk=>by rw[<-I];exact hk.2)).setCell (λhk=>hk.1 O) _;have hx:sj (w3.setCell ⟨f,0,U⟩ (J p3 ((d.F f).bytes.size+t.size) c3)) f ⟨(d.F f).bytes++t,(d.F f).safe⟩ (J p3 ((d.F f).bytes.size+t.size) c3):=by
     refine⟨by rw[Tq w3 f 0 _ _ _ u];rfl,?_⟩
     show World.ownsRow _ 0 5 1 _ ((d.F f).bytes++t).size (byteCells ((d.F f).bytes++t))
     rw[wV,TC];refine Ui ab (λe=>?_) _;obtain⟨c',ah,_⟩:=di ab e;exact dh ah u (by decide) O
    have r:=xU aa V au hx (by
     rcases ae with e|e
     .rw[I];exact Wh e
     .exact Wi ⟨_,e,Te _⟩)
    exact⟨O,_,(cT HD) _,(cT T).trans ((pN.below (cT T).at' m).trans r)⟩
 .have L:d.OS y t=d.pR y:=by unfold Dv.OS;rw[Tf h0]
  have HD:Hid (d.LF y t d.eg):=by show Dv.LF _ _ _ _;unfold Dv.LF;rw[L,Tf h0]
  obtain⟨n,hn⟩:∃n,d.pR y=n:=⟨_,rfl⟩
  have aB:(n == 0)=Wg:=Tt.2 (hn ▸ h0);rw[L];rw[hn] at z ⊢;obtain⟨p,hp⟩:∃p,eZ (d.AL y)=V9 p:=by cases d.AL y <;> exact⟨_,O⟩
  rw[hp] at z;clear h h0 hp hn L;go_enter func141,ntmps141;go_wp2_with fail;refine z.mono ?_;rintro e s ⟨rfl,Q⟩;have T:=cU Q;clear z Q;go_wp2;go_ret;exact⟨O,_,cT HD,cT T⟩
end Pk
namespace Pk
open Go.RowKit Go.Shelf
open Sd (Tb)
open Dk
attribute [local go_sem] Oper.semAt_some
theorem toStr(w:V5)(g n cap:Nat)(t:V8)(l:t.size=n)(h:∀j,j<t.size->w.cell? ⟨g,j,U⟩=S (Z .u8 (Sp.bt t j))):(convert 125 9 (J (S ⟨g,0,U⟩) n cap)).run prog w=.ok (H t) w:=by
 subst l;have m:=run_convert_bytes_arg (P:=prog) w 125 5 underlying125 underlying5 g 0 t.size cap (t.data.toList.map (λb=>(b.toNat:Int))) (by rw[Ue,Uv];rfl) (λi hi=>by
  rw[TM,h i hi,<-Sp.jW t i hi,Ty,Vd,Tw (by rw[Uv];exact hi)]
  rfl) 9 underlying9
 rw[m];have e:strOfNums (t.data.toList.map (λb=>(b.toNat:Int)))=t:=by
  apply Uy;apply Vn.1;rw[strOfNums_data,List.map_map];rw[show ((λn:Int=>UInt8.ofNat n.toNat) ∘ λb:UInt8=>(b.toNat:Int))=id from by funext b;simp];simp
 rw[e]
variable {B:Nat}
theorem Kw{w:V5}{v:V6}{b:V8}(h:w.ownsRow B 5 1 v b.size (byteCells b)): (convert 125 9 v).run prog w=.ok (H b) w:=by
 rcases h.2 with ⟨rfl,r⟩|⟨g,l,u,rfl,_,C,F,_,y,z⟩
 .have e:b=ByteArray.empty:=by
   apply Uy;exact Array.eq_empty_of_size_eq_zero r
  rw[e];exact run_convert_bytes_nil w 125 5 underlying125 underlying5 0 0 9 underlying9
 .refine toStr w g b.size l b O (λj m=>?_);have A:=h.cellAt j (by omega);rw[A];unfold byteCells;rw[Vd,Tw (by rw[Uv];exact m),<-Sp.jW b j m]
  rfl
def Dv.rd(d:Dv)(y:V8):V8:=if d.down=We then ⟨#[]⟩ else match Sd.jy d.names y with
 |some f=>(d.F f).bytes
 |none=>⟨#[]⟩
def Dv.FP(d:Dv)(y:V8):Int:=if d.down=We then 9 else match Sd.jy d.names y with
 |some _=>0
 |none=>11
theorem vE(b:Nat)(d:Dv)(y:V8)(w:V5)(h:ly w b d)(M:Wn d.names<=1000000000):V7 prog 117 #[V9 (S ⟨b,0,U⟩),H y] w λe R=>e=Wd (Wb #[H (d.rd y),Z Y (d.FP y)])/\V4 w R:=by
 have T:=cU h;obtain⟨_,_,_,_,_,_,Q⟩:=h.cell;cases j:d.down with
 |true =>
  have A:d.rd y=⟨#[]⟩:=by unfold Dv.rd;rw[Tg j]
  have r:d.FP y=9:=by unfold Dv.FP;rw[Tg j]
  rw[j] at Q;rw[A,r];clear h A r j;go_enter func117,ntmps117;go_wp2;go_ret2;exact⟨O,Th _ _⟩
 |false =>
  rw[j] at Q;have l:=yv b 1 _ _ d.vn d.names y w (h.JF M);cases z:Sd.jy d.names y with
  |none =>
   have I:Sd.dD d.names y=Wg:=by
    cases V:Sd.dD d.names y with
    |false=>rfl
    |true=>obtain⟨_,_,r⟩:=Sd.gu h.sn V;rw[z] at r;cases r
   have A:d.rd y=⟨#[]⟩:=by unfold Dv.rd;rw[Tf (by rw[j];decide),z]
   have r:d.FP y=11:=by unfold Dv.FP;rw[Tf (by rw[j];decide),z]
   rw[I,z] at l;unfold eZ at l;rw[A,r];clear h M I z A r j;go_enter func117,ntmps117;go_wp2_with fail;refine l.mono ?_;rintro e P ⟨rfl,L⟩;go_wp2;go_ret2;exact⟨O,L⟩
  |some f =>
   have u:=(Sd.fR h.sn).1 z;have I:Sd.dD d.names y=We:=Sd.iP.2 ⟨f,u⟩;have W:=cU (h.Ga (y,f) u);have A:d.rd y=(d.F f).bytes:=by unfold Dv.rd;rw[Tf (by rw[j];decide),z]
   have r:d.FP y=0:=by unfold Dv.FP;rw[Tf (by rw[j];decide),z]
   rw[I,z] at l;unfold eZ eH at l;rw[A,r];clear h M I z A r u j;go_enter func117,ntmps117;go_wp2_with fail;refine l.mono ?_;rintro e P ⟨rfl,L⟩;have C:=((cT T).below L).files f (cT W);have G:=C.blk;have m:=C.row;obtain⟨X,q,K⟩:=gG m;rw[K] at G m;have s:P.cell? ⟨f,0,U⟩=S (J X (d.F f).bytes.size q):=by rw[Ti P _ 0 _ _ _ G];rfl
   have t:=Kw m;clear C G m K l;go_wp2;go_ret2;exact⟨O,L⟩
theorem info_pstr:(prog.info? 9).map (λi=>(i.zero,i.size,i.bytes))=S (S (H ⟨#[]⟩),1,16):=by kernel_rfl
theorem kt{W l:V5}{b:Option Nat}(y:W.grownBy l b)(z:∀r,b=S r->B<=r/\∃o:Obj,W.heap[r]?=S o/\o.isCells=Wg){k:Nat}{c:Array V6}{t:TypeId}{p:Nat × Nat}(j:W.heap[k]?=S (D c t p)): l.heap[k]?=S (D c t p):=by
 have A:k<N (E W):=(Ts.1 j).1;rw[y.block k A (λe=>by
  obtain⟨_,o,m,u⟩:=z k e.symm;rw[j] at m;have:Obj.cells c t p=o:=TG m;rw[<-this] at u;cases u),j]
theorem nh{W z:V5}{j:Option Nat}(C:W.grownBy z j)(F:∀r,j=S r->B<=r/\∃o:Obj,W.heap[r]?=S o/\o.isCells=Wg){b e size n:Nat}{v:V6}{A:List V6}(h:W.ownsRow b e size v n A): z.ownsRow b e size v n A:=by
 obtain⟨G,l⟩:=h;refine⟨G,?_⟩;rcases l with l|⟨g,m,u,I,K,y,r⟩
 .exact .inl l
 .exact .inr ⟨g,m,u,I,K,kt C F y,r⟩
def Mw(G:Nat)(L:List V8)(W:V5):Prop := ∃v,W.heap[G]?=S (D #[v] 106 (0,0))/\W.ownsRow (G+1) 9 1 v (Wn L) (L.map Value.string)
theorem Lc(b:Nat)(d:Dv)(w:V5)(h:ly w b d)(hl:Wn d.names<=1000000000)(af:d.down=Wg):V7 prog 44 #[V9 (S ⟨b,0,U⟩)] w λe w'=>∃v,e=Wd (Wb #[v,Z Y 0])/\w'.ownsRow (N (E w)) 9 1 v (Wn d.names) (d.names.map (λp=>Value.string p.1))/\V4 w w':=by
 refine(UF (n:=5)).1 ?_;refine callsIn_of_wp_marks func44 O trivial ?_ O;have c6:w.cell? ⟨b,6,U⟩=S (Wa Wg):=by rw[<-af];exact h.cell.2.2.2.2.2.2
 simp only[ntmps44,US,Tr,UB,Nat.reduceAdd,Nat.reduceSub,U1,U2,U4,U5,Ul,TZ];obtain⟨p,s,o,I⟩:=Dk.dS (h.rn);have HD:=cU h;have ag:b<N (E w):=cX h.blk
 gi_wp2_with (refine⟨trivial,?_⟩;gi_at_call 55;refine(Dk.qC _ _ trivial O _ _).mono ?_;rintro e w' ⟨rfl,rfl⟩)
 obtain⟨i0,hi,ah,ai,aj⟩:=TN info_pstr;obtain⟨L,C⟩:∃L,((w.alloc (D #[J U 0 0] 106)).alloc (D #[V9 (S ⟨b,1,U⟩)] 131))=L:=⟨_,rfl⟩
 have ax:N (E L)=N (E w)+2:=by rw[<-C];simp
 have P:V4 w L:=by rw[<-C];exact((Th _ w).alloc V2 _).alloc (by simp) _
 have ak:L.heap[N (E w)]?=S (D #[J U 0 0] 106 (0,0)):=by
  rw[<-C,TD _ _ _ (by simp)];exact UO w _
 have an:L.cell? ⟨N (E w)+1,0,U⟩=S (V9 (S ⟨b,1,U⟩)):=by
  have:=UO (w.alloc (D #[J U 0 0] 106)) (D #[V9 (S ⟨b,1,U⟩)] 131);rw[TK,C] at this;simp[World.cell?,this]
 have ao:L.cell? ⟨b,1,U⟩=S (J p (Wn d.names) s):=by
  rw[P.cell (p:=⟨b,1,U⟩) ag,Ti w b 1 _ _ _ h.blk,<-o];rfl
 have aq:∀j (hj:j<Wn d.names),∃g,p=S ⟨g,0,U⟩/\g<N (E w)/\True/\L.cell? ⟨g,j*2,U⟩=S (H d.names[j].1)/\L.cell? ⟨g,j*2+1,U⟩=S (eH d.names[j].2):=λj hj=>by
  obtain⟨g,e,c0,c1⟩:=I j hj;have t:=Tu w _ c0;exact⟨g,e,t,trivial,(P.cell (p:=⟨g,j*2,U⟩) t).trans c0,(P.cell (p:=⟨g,j*2+1,U⟩) t).trans c1⟩
 rw[C];clear C I o h;refine wpIn_rangeFunc_ownG O (by omega) (gf:=96) (lb := #[V9 (S ⟨N (E w)+1,0,U⟩)]) O trivial (enters_of func96 (by kernel_rfl) O)
  (Dk.kK _ _ trivial O (by omega) (N (E w)+1) b 1 (N (E w)) (λ_=>True) p s d.names hl L (by omega) (by omega) (by omega) an ao aq) (λh k=>h.trans k) (qX (by omega)) (Th _ _) (λ_=>O)
  (λu W=>Mw (N (E w)) (u.map (·.1.1)) W/\Below (N (E w)) L W)
  (λ_ _ _=>False)
  (OwnFrom.and (λu W W' ay hI t hr=>by obtain⟨v,h1,h2⟩:=hI;exact⟨v,kt t hr h1,nh t hr h2⟩) (ownFrom_below (by omega) (by omega)))
  (λ_ _ _ _ _ hs _ _=>hs)
  ⟨⟨_,ak,TH _ _ _ _⟩,Th _ _⟩
  (λy=>{ tmps := #[V9 (S ⟨b,0,U⟩),undef,J U 0 0,Z Y 0,V9 (S ⟨N (E w),0,U⟩),H y.1.1,V9 (S ⟨b,0,U⟩),V9 (S ⟨b,0,U⟩),V9 (S ⟨b,6,U⟩),Wa Wg,V9 (S ⟨b,0,U⟩),V9 (S ⟨b,0,U⟩),V9 (S ⟨b,1,U⟩),.func (.func 96) #[] #[V9 (S ⟨N (E w)+1,0,U⟩)],H y.1.1,eH y.1.2,undef,undef,undef,undef,undef],defers:=[] }) ?assign ?body ?done ?stop
 case assign =>
  intro l y W K hK
  gi_wp2
  exact hK
 case body =>
  rintro l' u ⟨⟨ya,yf⟩,hy⟩ W ⟨⟨v,F,m⟩,T⟩ az;rw[Ue] at m;obtain⟨Q,R,rfl⟩:=gG m;have u0:W.cell? ⟨N (E w),0,U⟩=S (J Q (Wn u) R):=by rw[Ti W _ 0 _ _ _ F];rfl
  have aa:N (E w)<N (E W):=cX F;have ar:S (N (E w))≠(Value.slice Q (Wn u) R).ownBlock:=λe=>by have:=(m.lt _ e.symm).1;omega
  unfold eH
  gi_wp2_with (gi_at_builtin;go_loud (refine wpListIn_append_own _ O _ _ 106 O (N (E w)+1) 9 i0 (H ⟨#[]⟩) 1 16 underlying106 hi ah ai aj O (by decide) (J Q (Wn u) R) _ _ O (m.alloc _) ⟨N (E W),0,U⟩ 1 1 [H ya] O O (cell_one_new _ _ _) (by simp[Value.oneCell']) (by unfold maxLen;omega) (by omega) (To (show (N (E w))+1<=N (E W) by omega) (by simp)) ?_;intro v' V M z _;obtain⟨g1,A,rfl⟩:=ownsRow_succ M;have X:V.heap[N (E w)]?=S (D #[J Q (Wn u) R] 106 (0,0)):=(z.block (N (E w)) (Nat.lt_trans aa (by simp)) ar).trans ((TD W _ _ aa).trans F);have q0:V.cell? ⟨N (E w),0,U⟩=S (J Q (Wn u) R):=(Ti V _ 0 _ _ _ X).trans O;have qf:V.frozen? ⟨N (E w),0,U⟩=Wg:=by(simp[World.frozen?,X])))
  have au:KeepsOthers W (V.setCell ⟨N (E w),0,U⟩ (J (S ⟨g1,0,U⟩) (Wn u+1) A)):=by
   refine((KeepsOthers.alloc W _).trans (KeepsOthers.of_grownBy z λj o' ej hj=>?_)).trans (KeepsOthers.setCell _ _ _);obtain⟨aA,hc,_⟩:=di (m.alloc _) ej;rw[hc] at hj;cases hj;rfl
  have G:Below (N (E w)) W (V.setCell ⟨N (E w),0,U⟩ (J (S ⟨g1,0,U⟩) (Wn u+1) A)):=(((Th (N (E w)) W).alloc (by omega) _).grown z (by simp;omega) (λk hk=>by have:=(m.lt k hk).1;omega)).setCell (p:=⟨N (E w),0,U⟩) V2 _;have av:=Tq V (N (E w)) 0 _ _ (J (S ⟨g1,0,U⟩) (Wn u+1) A) X;exact⟨au.from _,⟨G.os,G.tape,G.output,G.size,λk hk _=>G.block k hk⟩,⟨J (S ⟨g1,0,U⟩) (Wn u+1) A,av,by rw[Ue,TT,UD,UD];exact TA M (show (N (E w))<N (E w)+1 by omega) _⟩,T.trans G⟩
 case done =>
  rintro Dd ys W aB q ⟨⟨v,F,m⟩,T⟩ hK;have ab:Wn ys=Wn d.names:=by rw[q,List.length_attach]
  have ad:(ys.map (·.1.1)).map Value.string=d.names.map (λp=>Value.string p.1):=by
   have e:=congrArg (List.map (λp:V8 × Nat=>Value.string p.1)) (VZ d.names);rw[List.map_map] at e;rw[q,List.map_map];exact e
  rw[Ue,ab,ad] at m;obtain⟨Q,R,rfl⟩:=gG m;have aw:=cU m;have u0:W.cell? ⟨N (E w),0,U⟩=S (J Q (Wn d.names) R):=by rw[Ti W _ 0 _ _ _ F];rfl
  have ae:=P.trans T;clear q F ab m ad
  gi_wp2
  refine⟨by simp,.inl ⟨_,_,O,run_takeDeferred hK,?_⟩⟩;refine⟨Wb #[J Q (Wn d.names) R,Z Y 0],by simp[results,results44,go_sem],_,O,?_,?_⟩
  .exact mj (nh (B:=0) (Vy W Dd _) (λr hr=>by cases hr;exact⟨Tp _,_,hK,O⟩) (cT aw)) (Uh _)
  .exact ae.grown (Vy W Dd _) ae.size (λk hk=>by cases hk;omega)
 case stop =>
  intro D' c u W _ _ h;exact h.elim
theorem Hi(b:Nat)(d:Dv)(w:V5)(h:ly w b d)(j:d.down=We):V7 prog 44 #[V9 (S ⟨b,0,U⟩)] w λe l=>e=Wd (Wb #[J U 0 0,Z Y 9])/\V4 w l:=by
 have m:w.cell? ⟨b,6,U⟩=S (Wa We):=by rw[<-j];exact h.cell.2.2.2.2.2.2
 clear h j;go_enter func44,ntmps44;go_wp2;go_ret2;exact⟨O,Th _ _⟩
end Pk
namespace Pk
open Sd (Tb)
open Dk
def ki(n:Int)(m:Nat):Nat:=(min (max n 0) (m:Int)).toNat
theorem Cq(n:Int)(m:Nat):((ki n m:Nat):Int)=min (max n 0) (m:Int):=by unfold ki;omega
theorem sL(n:Int)(m:Nat):ki n m<=m:=by unfold ki;omega
theorem ye(n:Int)(m:Nat)(b:Int)(w:V5)(j:b=(m:Int)):V7 prog 56 #[Z Y n,Z Y b] w λe l=>e=Wd (Z Y (ki n m))/\l=w:=by
 subst j;rw[Cq];go_enter func56,ntmps56;go_wp2;go_ret;exact⟨O,O⟩
structure qy (w:V5) (B:Nat) (p:Option Addr) (n:Nat) (K:Nat->Int):Prop where
 cell:∀j,j<n->∃g o,p=S ⟨g,o,U⟩/\w.cell? ⟨g,o+j,U⟩=S (Z Y (K j))/\(g<B\/∃cur fr,w.heap[g]?=S (D cur 3 fr))
 small:n<=9223372036854775807
def lI(n:Nat)(K:Nat->Int)(i:Nat):Int:=if i<n then K i else 0
theorem D0(p:Option Addr)(n c:Nat)(K:Nat->Int)(i:Nat)(w:V5){B:Nat}(h:qy w B p n K):V7 prog 59 #[J p n c,Z Y i] w λe j=>e=Wd (Z Y (lI n K i))/\j=w:=by
 have l:=h.small;by_cases hi:i<n
 .have e:lI n K i=K i:=Tg hi;rw[e];have b:(i:Int)<(n:Int):=by omega
  obtain⟨g,o,rfl,m,_⟩:=h.cell i hi;clear h e;go_enter func59,ntmps59;go_wp2;go_ret;exact⟨O,O⟩
 .have e:lI n K i=0:=Tf hi;rw[e];have b:¬(i:Int)<(n:Int):=by omega
  clear h e;go_enter func59,ntmps59;go_wp2;go_ret;exact⟨O,O⟩
def iJ(F:Fl)(k:Int):Fl:=⟨F.bytes.extract 0 (F.safe+ki k (F.bytes.size-F.safe)),F.safe+ki k (F.bytes.size-F.safe)⟩
theorem Bn{F:Fl}(h:F.safe<=F.bytes.size)(k:Int):(iJ F k).bytes.size=F.safe+ki k (F.bytes.size-F.safe):=by
 have:=sL k (F.bytes.size-F.safe);unfold iJ;rw[Tz];omega
theorem BG{F:Fl}(h:F.safe<=F.bytes.size)(k:Int):(iJ F k).safe<=(iJ F k).bytes.size:=by rw[Bn h k];exact Te _
theorem IZ{w:V5}{p:Option Addr}{b:V8}{c m:Nat}(h:w.ownsRow 0 5 1 (J p b.size c) b.size (byteCells b))(l:m<=b.size):w.ownsRow 0 5 1 (J p m c) m (byteCells (b.extract 0 m)):=by
 have r:(byteCells (b.extract 0 m)).length=m:=by rw[qg,Tz];omega
 have u:byteCells (b.extract 0 m)=(byteCells b).take m:=by
  unfold byteCells;rw[<-List.map_take]
  congr 1
  simp
 refine⟨by rw[r,Nat.mul_one],?_⟩;rcases h.2 with ⟨e,G⟩|⟨g,y,j,e,z,A,I,B,C,F⟩
 .injection e with e1 e2 e3;subst e1 e3;have:m=0:=by omega
  subst this;exact .inl ⟨O,O⟩
 .injection e with e1 e2 e3;subst e1 e3;refine .inr ⟨g,c,j,O,z,A,by omega,B,C,?_⟩;rw[u,<-F,UN,Nat.mul_one,Nat.mul_one,Vh l]
theorem F3(f:Nat)(F:Fl)(vb:V6)(k:Int)(w:V5)(h:sj w f F vb)(hs:F.safe<=F.bytes.size):V7 prog 58 #[V9 (S ⟨f,0,U⟩),Z Y k] w λe K=>e=Wd (Wb #[])/\∃v',sj K f (iJ F k) v'/\v'.ownBlock=vb.ownBlock/\Kept w K (λk=>k≠f):=by
 obtain⟨p,c,rfl,M⟩:=Dk.dm h.row;have P:∀a,p=S a->∃g,a=⟨g,0,U⟩:=λa e=>by
  rcases h.row.2 with ⟨m,_⟩|⟨g,_,_,m,_⟩
  .injection m with e1;rw[e1] at e;cases e
  .injection m with e1;rw[e1] at e;exact⟨g,(TG e).symm⟩
 have B:p=U->F.bytes.size=0:=λe=>by
  rcases h.row.2 with ⟨_,C⟩|⟨g,_,_,m,_⟩
  .exact C
  .injection m with e1;rw[e1] at e;cases e
 have G:=cU h;have Q:w.cell? ⟨f,0,U⟩=S (J p F.bytes.size c):=by rw[Ti w _ 0 _ _ _ h.blk];rfl
 have R:w.cell? ⟨f,1,U⟩=S (Z Y F.safe):=by rw[Ti w _ 1 _ _ _ h.blk];rfl
 have f0:w.frozen? ⟨f,0,U⟩=Wg:=by simp[World.frozen?,h.blk]
 have f1:w.frozen? ⟨f,1,U⟩=Wg:=by simp[World.frozen?,h.blk]
 have hm:c<=9223372036854775807:=by
  rcases h.row.2 with ⟨m,C⟩|⟨_,ab,_,m,_,_,h1,h2,_⟩
  .injection m with _ _ e3;omega
  .injection m with _ _ e3;unfold maxLen at h2;omega
 have I:=sL k (F.bytes.size-F.safe);have r:=λW mm (e:mm=(((F.bytes.size-F.safe:Nat)):Int))=>ye k (F.bytes.size-F.safe) mm W e
 generalize T:ki k (F.bytes.size-F.safe)=X at r I;clear h;go_enter func58,ntmps58;have y:IntKind.i64.wrap ((F.bytes.size:Int)-(F.safe:Int))=(((F.bytes.size-F.safe:Nat)):Int):=by rw[TJ];omega
 have V:IntKind.i64.wrap ((F.safe:Int)+(X:Int))=((F.safe+X:Nat):Int):=by rw[TJ];omega
 cases p with
 |none =>
  have C:=B O;have u:F.safe=0:=by omega
  have q:X=0:=by omega
  have t:c=0:=by
   rcases(cT G).row.2 with ⟨m,_⟩|⟨_,_,_,m,_⟩
   .injection m
   .injection m with e1;cases e1
  subst q t;rw[C] at Q r y;rw[u] at R r y;have s:=cU (And.intro C u);have HX:=cU T;clear P B C u I M hs V T;go_wp2_with fail
  go_quiet (fail)
  go_wp2_with fail
  go_region_with (go_at_call 56;refine(r _ _ (by first|exact y|rfl|omega)).mono ?_;rintro e K ⟨rfl,o⟩;obtain rfl:=o.symm)
  all_goals
   obtain⟨W,z⟩:∃W,W=((w.drewN (nq+1)).setCell ⟨f,0,U⟩ (J U 0 0)):=⟨_,rfl⟩
   have j:W.heap[f]?=S (D #[J U 0 0,Z Y F.safe] 127 (0,0)):=by
    rw[z];exact Tq (w.drewN (nq+1)) f 0 _ _ _ (cT G).blk
   have l:Kept w W (λk=>k≠f):=by
    rw[z];exact⟨O,O,O,by simp,λk hk ho=>Tv (w.drewN (nq+1)) _ _ k ho⟩
   have d0:W.cell? ⟨f,0,U⟩=S (J U 0 0):=by rw[Ti W _ 0 _ _ _ j];rfl
   have d1:W.cell? ⟨f,1,U⟩=S (Z Y F.safe):=by rw[Ti W _ 1 _ _ _ j];rfl
   have df:W.frozen? ⟨f,1,U⟩=Wg:=by simp[World.frozen?,j]
   rw[<-z];have b:=cU (And.intro j l);clear z j l Q R f0 f1;go_wp2;obtain⟨j,l⟩:=cT b;obtain⟨C,u⟩:=cT s;have hx:sj (W.setCell ⟨f,1,U⟩ (Z Y ((0:Nat):Int))) f (iJ F k) (J U 0 0):=by
    have e:iJ F k=⟨F.bytes.extract 0 0,0⟩:=by unfold iJ;rw[cT HX,u]
    have L:(F.bytes.extract 0 0).size=0:=by rw[Tz];omega
    rw[e];refine sY (X:=⟨F.bytes.extract 0 0,F.safe⟩) ⟨j,?_⟩ 0
    show World.ownsRow W 0 5 1 _ (F.bytes.extract 0 0).size _
    rw[L];have hn:byteCells (F.bytes.extract 0 0)=[]:=VF (by rw[qg,L]);rw[hn];exact TH _ _ _ _
   exact Tm (Tl O _ _ _) O ⟨O,J U 0 0,by simpa using hx,O,l.setCell (λh=>h O) _⟩
 |some a =>
  obtain⟨g,rfl⟩:=P a rfl;clear P B;go_wp2_with fail
  go_quiet (fail)
  go_wp2_with fail
  go_region_with (go_at_call 56;refine(r _ _ (by first|exact y|rfl|omega)).mono ?_;rintro e K ⟨rfl,o⟩;obtain rfl:=o.symm)
  all_goals
   obtain⟨W,z⟩:∃W,W=((w.drewN (nq+1)).setCell ⟨f,0,U⟩ (J (S ⟨g,0,U⟩) (F.safe+X) c)):=⟨_,rfl⟩
   have j:W.heap[f]?=S (D #[J (S ⟨g,0,U⟩) (F.safe+X) c,Z Y F.safe] 127 (0,0)):=by
    rw[z];exact Tq (w.drewN (nq+1)) f 0 _ _ _ (cT G).blk
   have l:Kept w W (λk=>k≠f):=by
    rw[z];exact⟨O,O,O,by simp,λk hk ho=>Tv (w.drewN (nq+1)) _ _ k ho⟩
   have A:W.ownsRow 0 5 1 (J (S ⟨g,0,U⟩) (F.safe+X) c) (F.safe+X) (byteCells (F.bytes.extract 0 (F.safe+X))):=by
    refine dy (IZ (cT G).row (by omega)) l (λg' aa=>?_);have:g=g':=by simpa [Value.ownBlock] using aa
    subst this;obtain⟨cc,t⟩:=(cT G).own (g:=g) rfl;exact dh t (cT G).blk (by decide)
   have d0:W.cell? ⟨f,0,U⟩=S (J (S ⟨g,0,U⟩) (F.safe+X) c):=by rw[Ti W _ 0 _ _ _ j];rfl
   have d1:W.cell? ⟨f,1,U⟩=S (Z Y F.safe):=by rw[Ti W _ 1 _ _ _ j];rfl
   have df:W.frozen? ⟨f,1,U⟩=Wg:=by simp[World.frozen?,j]
   rw[<-z];have b:=cU (And.intro j (And.intro l A));clear z j l A Q R f0 f1;go_wp2;obtain⟨j,l,A⟩:=cT b;have hx:sj (W.setCell ⟨f,1,U⟩ (Z Y ((F.safe+X:Nat):Int))) f (iJ F k) (J (S ⟨g,0,U⟩) (F.safe+X) c):=by
    have e:iJ F k=⟨F.bytes.extract 0 (F.safe+X),F.safe+X⟩:=by unfold iJ;rw[T]
    have L:(F.bytes.extract 0 (F.safe+X)).size=F.safe+X:=by rw[Tz];omega
    rw[e];refine sY (X:=⟨F.bytes.extract 0 (F.safe+X),F.safe⟩) ⟨j,?_⟩ (F.safe+X)
    show World.ownsRow W 0 5 1 _ (F.bytes.extract 0 (F.safe+X)).size _
    rw[L];exact A
   exact Tm (Tl O _ _ _) O ⟨O,J (S ⟨g,0,U⟩) (F.safe+X) c,by simpa using hx,O,l.setCell (λh=>h O) _⟩
end Pk
namespace Pk
open Go.RowKit Go.Shelf
open Sd (Tb)
open Dk
attribute [local go_sem] Oper.semAt_some
theorem Pm(L:List Ch):∀j (h:j<Wn L),(gZ L)[j*3]?=S (H (L[j]).gone)/\(gZ L)[j*3+1]?=S (H (L[j]).name)/\(gZ L)[j*3+2]?=S (eZ (L[j]).file):=by
 induction L with
 |nil=>intro j h;simp at h
 |cons p t b =>
  intro j h;have e:gZ (p::t)=H p.gone::H p.name::eZ p.file::gZ t:=by simp[gZ]
  rw[e];cases j with
  |zero=>simp
  |succ j =>
   have:=b j (by simpa using h);rw[show (j+1)*3=j*3+1+1+1 by omega];simpa using this
def mR(b:Sd.Tb->Ch->Sd.Tb)(T:Sd.Tb)(L:List Ch):Sd.Tb:=L.foldl b T
variable {T:Tb}
theorem Gz(h:Sd.dj T): ∀L:List Ch,Sd.dj (mR nP T L):=by
 intro L
 induction L generalizing T with
 |nil=>exact h
 |cons c L b=>exact b (vq h c)
theorem te:∀(L:List Ch) (T:Tb),(mR nP T L).length<=Wn T+Wn L
 |[],T=>Te _
 |c::L,T=>by
  have b:=te L (nP T c);have e:=Mi T c;simp only[Tr]
  show (mR nP (nP T c) L).length<=_
  omega
theorem yI:∀(L:List Ch) (T:Tb) (p:V8 × Nat),p∈mR nP T L->p∈T\/∃c,c∈L/\c.file=S p.2:=by
 intro L
 induction L with
 |nil=>intro T p h;exact Wh h
 |cons c t l =>
  intro T p h;rcases l (nP T c) p h with m|⟨r,b,e⟩
  .rcases EJ m with j|j
   .exact Wh j
   .exact Wi ⟨c,TV ..,j⟩
  .exact Wi ⟨r,Ug _ b,e⟩
def nK(K:Nat->Int)(b:Nat × (Nat->Fl))(x:V8 × Nat):Nat × (Nat->Fl):=(b.1+1,oq b.2 x.2 (iJ (b.2 x.2) (K b.1)))
def kQ(K:Nat->Int)(F:Nat->Fl)(L:List (V8 × Nat)):Nat × (Nat->Fl):=L.foldl (nK K) (0,F)
theorem CO(K:Nat->Int)(F:Nat->Fl)(L:List (V8 × Nat))(x:V8 × Nat):kQ K F (L++[x])=nK K (kQ K F L) x:=by
 unfold kQ;rw[VA];rfl
theorem Qp(K:Nat->Int)(L:List (V8 × Nat)):∀b,(L.foldl (nK K) b).1=b.1+Wn L:=by
 induction L with
 |nil=>intro b;rfl
 |cons x t e=>intro b;rw[VD,e,Tr];show b.1+1+Wn t=_;omega
theorem F6(K:Nat->Int)(F:Nat->Fl)(L:List (V8 × Nat)):(kQ K F L).1=Wn L:=by
 unfold kQ;rw[Qp];show 0+Wn L=_;omega
theorem LX(K:Nat->Int)(L:List (V8 × Nat)):∀b:Nat × (Nat->Fl),(∀f,(b.2 f).safe<=(b.2 f).bytes.size)->∀f,((L.foldl (nK K) b).2 f).safe<=((L.foldl (nK K) b).2 f).bytes.size:=by
 induction L with
 |nil=>intro b h;exact h
 |cons x t j =>
  intro b h;refine j (nK K b x) (λf=>?_)
  show (oq b.2 x.2 (iJ (b.2 x.2) (K b.1)) f).safe<=(oq b.2 x.2 (iJ (b.2 x.2) (K b.1)) f).bytes.size
  by_cases e:f=x.2
  .rw[e,eG];exact BG (h x.2) _
  .rw[eu _ _ e];exact h f
theorem vU(K:Nat->Int)(F:Nat->Fl)(L:List (V8 × Nat))(h:∀f,(F f).safe<=(F f).bytes.size):∀f,((kQ K F L).2 f).safe<=((kQ K F L).2 f).bytes.size:=LX K L (0,F) h
def Ek(T:Tb)(f:Nat):Prop := ∃a,(a,f)∈T
theorem Kn(K:Nat->Int)(f:Nat)(L:List (V8 × Nat)):∀b:Nat × (Nat->Fl),(∀p∈L,p.2≠f)->(L.foldl (nK K) b).2 f=b.2 f:=by
 induction L with
 |nil=>intro b _;rfl
 |cons p L j =>
  intro b h;rw[VD,j _ (λq l=>h q (Ug _ l))];exact eu _ _ (λe=>h p (TV ..) e.symm)
variable {f:Nat}
theorem BL(K:Nat->Int)(F:Nat->Fl)(h:¬Ek T f): (kQ K F T).2 f=F f:=Kn K f T (0,F) (λp b e=>h ⟨p.1,by rw[<-e];exact b⟩)
structure zz (W1 W:V5) (N:Nat) (T:Tb) (vb:Nat->V6) (n:Nat) (G:Nat->Fl):Prop where
 wJ:W.heap[N]?=S (D #[Z Y (n:Int)] 3 (0,0))
 files:∀f,Ek T f->∃v,sj W f (G f) v/\v.ownBlock=(vb f).ownBlock
 kept:fV N (λk=>∀f,Ek T f->k≠f) W1 W
theorem zz.own{y:V5}{N:Nat}{z:Nat->V6}{β : Type}{n : β->Nat}{G : β->Nat->Fl}(b:Nat)(hb:N<=b): OwnFrom b (λ(x : β) W=>zz y W N T z (n x) (G x)):=λs W K A j l m=>by
 refine⟨kt l m j.wJ,λf B=>?_,⟨l.os.trans j.kept.os,l.tape.trans j.kept.tape,l.output.trans j.kept.output,To j.kept.size l.size,λk C F=>?_⟩⟩
 .obtain⟨v,u,I⟩:=j.files f B;exact⟨v,⟨kt l m u.blk,nh l m u.row⟩,I⟩
 .have r:k<W.heap.size:=by have:=cX j.wJ;omega
  rw[l.block k r (λe=>by have:=(m k e.symm).1;omega)];exact j.kept.block k C F
variable {W:V5}
theorem sO{b:V5}{c:Array V6}{t:TypeId}{p:Nat × Nat}(j:Kept W b (λk=>k≠f))(m:W.heap[f]?=S (D c t p)): KeepsOthers W b:=⟨j.size,λk o h l=>(j.block k (Ts.1 h).1 (λe=>by subst e;rw[m] at h;have:=TG h;rw[<-this] at l;cases l)).trans h⟩
variable {w:V5}{v:V6}
theorem sj.setOther{g:Nat}{X:Fl}(h:sj w f X v){c:Array V6}{t:TypeId}{p:Nat × Nat}(l:w.heap[g]?=S (D c t p))(h1:t≠127)(h2:t≠5)(j:Nat)(u:V6): sj (w.setCell ⟨g,j,U⟩ u) f X v:=⟨(Tv w _ _ f (dh h.blk l (UC h1))).trans h.blk,Ui h.row (λe=>by
  obtain⟨m,b⟩:=h.own e;exact dh b l (UC h2) O) _⟩
theorem zz.next{C m:V5}{N:Nat}{u:Nat->V6}{n:Nat}{G:Nat->Fl}{b:Nat}{X:Fl}{y v':V6}(h:zz C W N T u n G)(K:Ek T b)(r:sj W b (G b) y)(z:y.ownBlock=(u b).ownBlock)(h1:sj m b X v')(h2:v'.ownBlock=y.ownBlock)(j:Kept W m (λk=>k≠b)):zz C (m.setCell ⟨N,0,U⟩ (Z Y ((n+1:Nat):Int))) N T u (n+1) (oq G b X):=by
 have L:N<W.heap.size:=cX h.wJ;have A:N≠b:=dh h.wJ r.blk (by decide);have l:m.heap[N]?=S (D #[Z Y (n:Int)] 3 (0,0)):=(j.block N L A).trans h.wJ;refine⟨by rw[Tq m N 0 _ _ _ l];rfl,λf M=>?_,?_⟩
 .by_cases e:f=b
  .subst e;exact⟨v',by rw[eG];exact h1.setOther l (by decide) (by decide) _ _,h2.trans z⟩
  .obtain⟨v,F,P⟩:=h.files f M;refine⟨v,?_,P⟩;rw[eu _ _ e];refine(F.kept j e (λg Q=>?_)).setOther l (by decide) (by decide) _ _;obtain⟨c,R⟩:=F.own Q;exact dh R r.blk (by decide)
 .refine⟨j.os.trans h.kept.os,j.tape.trans h.kept.tape,j.output.trans h.kept.output,To h.kept.size (by simpa using j.size),λk B I=>?_⟩;rw[Tv m _ _ k (show k≠N by omega),j.block k (by omega) (I b K)];exact h.kept.block k B I
def Dv.wn(d:Dv)(v:V6):Dv:={ d with vn:=v }
structure DX (w W:V5) (D:Nat) (d:Dv) (kv:V6) (v:V6) (T:Tb):Prop where
 tab:eW W D 1 (d.wn v).cells 64 v T
 kept:Kept w W (λx=>x≠D/\d.vs.ownBlock≠S x)
 new:v.ownBlock=d.vs.ownBlock\/∃g,v.ownBlock=S g/\(N (E w))<=g
 box:W.heap[N (E w)]?=S (.cells #[kv] 39 (0,0))
theorem DX.Si{b:Nat}{d:Dv}{j:V6}(h:DX w W b d j v T): v.ownBlock≠S b:=λe=>by
 obtain⟨l,m,_⟩:=di h.tab.row e;exact dh m h.tab.blk (by decide) O
theorem DX.step{m:V5}{b:Nat}{d:Dv}{z v':V6}{l:Tb}(h:DX w W b d z v T)(j:dO W m b 1 (d.wn v).cells 64 v v' l)(A:Sd.dj l)(B:Wn l<=1000000000)(C:b<N (E w)): DX w m b d z v' l:=by
 have F:m.heap[b]?=S (D (d.wn v').cells 64 (0,0)):=j.blk;have r:N (E w)<N (E W):=cX h.box;refine⟨⟨F,O,j.row,A,B⟩,⟨j.kept.os.trans h.kept.os,j.kept.tape.trans h.kept.tape,j.kept.output.trans h.kept.output,To h.kept.size j.kept.size,λk G u=>(j.kept.block k (by omega) ⟨u.1,λe=>?_⟩).trans (h.kept.block k G u)⟩,?_,(j.kept.block _ r ⟨by omega,λe=>?_⟩).trans h.box⟩
 .rcases h.new with y|⟨g,y,I⟩
  .rw[y] at e;exact u.2 e
  .rw[y] at e;have:g=k:=TG e;omega
 .rcases j.new with e|⟨g,e,I⟩
  .rw[e];exact h.new
  .exact Wi ⟨g,e,by omega⟩
 .obtain⟨K,L,_⟩:=di h.tab.row e;exact dh L h.box (by decide) O
def Nq(Q:Exit->Act->V5->Prop):Exit->Act->V5->Prop
 |.panic _,_,_=>False
 |.normal,a,w=>Q .normal a w
 |.ret,a,w=>Q .ret a w
 |.exit n,a,w=>Q (.exit n) a w
 |.goto n,a,w=>Q (.goto n) a w
 |.outgrown,a,w=>Q .outgrown a w
theorem zU{Q:Exit->Act->V5->Prop}:∀e a w,Nq Q e a w->Q e a w:=λe a w h=>by
 cases e <;> first|exact h|exact h.elim
def Dv.wF(d:Dv)(b:Int):Tb:=mR nP d.safe (d.dX.take (ki b (Wn d.dX)))
def Dv.dW(d:Dv)(b:Int)(K:Nat->Int)(e:Nat->V6)(v j:V6):Dv:={ d with names:=d.wF b,safe:=d.wF b,dX:=[],F:=(kQ K d.F (d.wF b)).2,vb:=e,vn:=v,vs:=j,vc := J U 0 0,left := -1,mr:=false,down:=false }
def Gf(b:Nat)(d:Dv)(j:Int)(r:Nat)(K:Nat->Int)(w:V5)(e:Ending)(w':V5):Prop:=e=Wd (Wb #[])/\∃l v m,pN w w' b d (d.dW j (lI r K) l v m)
theorem JN(j:Nat)(l:Int)(b:Bool)(w:V5)(c4:w.cell? ⟨j,4,U⟩=S (Z Y l))(c5:w.cell? ⟨j,5,U⟩=S (Wa b))(r:w.frozen? ⟨j,4,U⟩=Wg)(u:w.frozen? ⟨j,5,U⟩=Wg):V7 prog 29 #[V9 (S ⟨j,0,U⟩),Z Y (-1)] w λe m=>e=Wd (Wb #[])/\m=(w.setCell ⟨j,5,U⟩ (Wa Wg)).setCell ⟨j,4,U⟩ (Z Y (-1)):=by
 go_enter func29,ntmps29;go_wp2;exact Tm (Tl O _ _ _) O ⟨O,O⟩
theorem C6(b:Nat)(d:Dv)(P:Int)(kp:Option Addr)(kn kc:Nat)(K:Nat->Int)(w:V5)(h:ly w b d)(hl:Wn d.safe+Wn d.dX<=1000000000){B:Nat}(bg:∀k,ng b d k->B<=k)(hK:qy w B kp kn K)(bS:∀f,(d.F f).safe<=(d.F f).bytes.size)(hM:∀c,c∈d.dX->Pe c):V7 prog 34 #[V9 (S ⟨b,0,U⟩),Z Y P,J kp kn kc] w (Gf b d P kn K w):=by
 have aS:=cU bg;clear bg;have Q:=h.blk;obtain⟨p1,bT,bU,_⟩:=Dk.dm h.rn;obtain⟨p2,au,aT,_⟩:=Dk.dm h.rs;obtain⟨p3,ao,t,bV⟩:=Dk.dm h.rc;unfold Dv.cells at Q;rw[bU,aT,t] at Q;have d1:w.cell? ⟨b,1,U⟩=S (J p1 (Wn d.names) bT):=by rw[Ti w _ 1 _ _ _ Q];rfl
 have d2:w.cell? ⟨b,2,U⟩=S (J p2 (Wn d.safe) au):=by rw[Ti w _ 2 _ _ _ Q];rfl
 have d3:w.cell? ⟨b,3,U⟩=S (J p3 (Wn d.dX) ao):=by rw[Ti w _ 3 _ _ _ Q];rfl
 have f1:w.frozen? ⟨b,1,U⟩=Wg:=by simp[World.frozen?,Q]
 have bh:b<N (E w):=cX Q;have cE:Wn d.dX<=1000000000:=by omega
 have cF:ao<=9223372036854775807:=by
  rcases h.rc.2 with ⟨R,h0⟩|⟨_,aj,_,R,_,_,V,h2,_⟩
  .rw[t] at R;injection R with _ _ e3;omega
  .rw[t] at R;injection R with _ _ e3;unfold maxLen at h2;omega
 have HD:=cU h;have HM:=cU hM;have HK:=cU hK;have aM:DX w ((w.setCell ⟨b,1,U⟩ (J p2 (Wn d.safe) au)).alloc (D #[J kp kn kc] 39)) b d (J kp kn kc) d.vs d.safe:=by
  have bW:=Tq w b 1 _ _ (J p2 (Wn d.safe) au) h.blk;have bj:d.vs.ownBlock≠S b:=λe=>by
   obtain⟨ah,s,_⟩:=di h.rs e;exact dh s h.blk (by decide) O
  refine⟨⟨?_,O,(Ui h.rs bj _).alloc _,h.ss,by omega⟩,(((Kept.refl w _).setCell (λhk=>hk.1 O) _).alloc _),Wh O,?_⟩
  .rw[TD _ _ _ (by simpa using bh),bW,<-aT];rfl
  .have:=Tk (w.setCell ⟨b,1,U⟩ (J p2 (Wn d.safe) au)) (D #[J kp kn kc] 39);simpa using this
 have aU:=cU aM;clear h Q aM hM hK;refine(UF (n:=5)).1 ?_;refine callsIn_of_wp_marks func34 O trivial ?_ O;simp only[ntmps34,US,Tr,UB,Nat.reduceAdd,Nat.reduceSub,U1,U2,U4,U5,Ul,TZ];refine wpIn_wide.2 (Code.wp_mono zU ?_);have bX:=sL P (Wn d.dX);have aF:=λW=>ye P (Wn d.dX) (Wn d.dX:Int) W O
 generalize hN:ki P (Wn d.dX)=m at bX aF;have aG:∀a,p3=S a->∃g,a=⟨g,0,U⟩:=λa e=>by
  rcases(cT HD).rc.2 with ⟨R,_⟩|⟨g,_,_,R,_⟩
  .rw[t] at R;injection R with e1;rw[e1] at e;cases e
  .rw[t] at R;injection R with e1;rw[e1] at e;exact⟨g,(TG e).symm⟩
 have bk:p3=U->Wn d.dX=0/\ao=0:=λe=>by
  rcases(cT HD).rc.2 with ⟨R,h0⟩|⟨g,_,_,R,_⟩
  .rw[t] at R;injection R with _ _ e3;exact⟨h0,e3⟩
  .rw[t] at R;injection R with e1;rw[e1] at e;cases e
 have aN:∀W,Kept w W (λx=>x≠b/\d.vs.ownBlock≠S x)->W.ownsRow 0 129 3 (J p3 (Wn d.dX) ao) (Wn d.dX) (gZ d.dX):=λW hk=>by
  rw[<-t];refine dy (cT HD).rc hk (λg X=>?_);obtain⟨ah,s,_⟩:=di (cT HD).rc X;refine⟨dh s (cT HD).blk (by decide),λe=>?_⟩;obtain⟨cB,av,_⟩:=di (cT HD).rs e;exact dh s av (by decide) O
 have HC:=cU aN;have bY:=cU bk;have bZ:=cU aG;clear aN bk aG;go_wp2_with fail;obtain⟨W0,bn⟩:∃W0,((w.setCell ⟨b,1,U⟩ (J p2 (Wn d.safe) au)).alloc (D #[J kp kn kc] 39))=W0:=⟨_,rfl⟩
 rw[bn] at aU;have b0:W0.cell? ⟨b,3,U⟩=S (J p3 (Wn d.dX) ao):=by rw[Ti W0 _ 3 _ _ _ (cT aU).tab.blk,<-t];rfl
 rw[bn];clear d1 d2 d3 f1
 go_cut [29,30,31] from 18 (λx y z wx=>x=J p3 m ao/\y=Z Y m/\z=Z Y 0/\∃nq,wx=W0.drewN nq)
 case first =>
  cases p3 with
  |none =>
   obtain⟨h0,b1⟩:=(cT bY) rfl;subst b1;have b2:m=0:=by omega
   subst b2;rw[h0] at b0 aF
   go_quiet (first|(go_at_call 56;exact Calls.quiet_of_same (aF _)))
   go_wp2
   go_meet
   exact⟨O,O,O,_,O⟩
  |some a3 =>
   obtain⟨g3,rfl⟩:=(cT bZ) a3 rfl
   go_quiet (first|(go_at_call 56;exact Calls.quiet_of_same (aF _)))
   go_wp2
   go_meet
   exact⟨O,O,O,_,O⟩
 case rest =>
 obtain⟨rfl,rfl,rfl,nq,rfl⟩:=hcut;go_wp2_with fail
 go_loopw [31] (λii wr=>∃(k:Nat) (v:V6),k<=m/\ii=Z Y k/\DX w wr b d (J kp kn kc) v (mR nP d.safe (d.dX.take k))) (λii _=>m-(intOf ii).toNat)
 case atStart=>exact⟨0,d.vs,by omega,rfl,by have h:=cT aU;exact⟨⟨h.tab.blk,h.tab.at_,h.tab.row,h.tab.me,h.tab.len⟩,⟨h.kept.os,h.kept.tape,h.kept.output,h.kept.size,h.kept.block⟩,h.new,h.box⟩⟩
 case round =>
  obtain⟨k,v,hk,rfl,u⟩:=hrel;by_cases b3:k<m
  .have cC:(k:Int)<(m:Int):=by omega
   have bo:k<Wn d.dX:=by omega
   obtain⟨g3,aG⟩:∃g3,p3=S ⟨g3,0,U⟩:=by
    rcases(cT HD).rc.2 with ⟨R,h0⟩|⟨g,_,_,R,_⟩
    .omega
    .rw[t] at R;injection R with e1;exact⟨g,e1⟩
   subst aG;have ak:=(cT HC) wr u.kept;obtain⟨e0,e1,e2⟩:=Pm d.dX k bo;obtain⟨pf,aV⟩:∃pf,eZ (d.dX[k]).file=V9 pf:=by cases (d.dX[k]).file <;> exact⟨_,O⟩
   have x0:wr.cell? ⟨g3,k*3,U⟩=S (H (d.dX[k]).gone):=(ak.cellAt (k*3) (by omega)).trans e0;have x1:wr.cell? ⟨g3,k*3+1,U⟩=S (H (d.dX[k]).name):=(ak.cellAt (k*3+1) (by omega)).trans e1;have x2:wr.cell? ⟨g3,k*3+2,U⟩=S (V9 pf):=(ak.cellAt (k*3+2) (by omega)).trans (e2.trans (by rw[aV]));have aW:=λW T v C V h2=>wg b (d.dX[k]) ((cT HM) _ (Uc _)) W C v T V h2
   rw[aV] at aW;have an:∀o,V7 prog 57 #[Wc #[H (d.dX[k]).gone,H (d.dX[k]).name,V9 pf],V9 (S ⟨b,1,U⟩)] (wr.alloc o).drew λe w'=>e=Wd (Wb #[])/\∃v',dO (wr.alloc o).drew w' b 1 (d.wn v).cells 64 v v' (nP (mR nP d.safe (d.dX.take k)) (d.dX[k])):=λo =>
    aW _ _ _ _ (u.tab.below (((Th _ wr).alloc V2 o).drew)) u.Si
   obtain⟨cg,bp⟩:∃cg,(d.dX[k]).gone=cg:=⟨_,rfl⟩
   obtain⟨cn,bq⟩:∃cn,(d.dX[k]).name=cn:=⟨_,rfl⟩
   rw[bp] at x0 an;rw[bq] at x1 an;have b4:=cU an;have aX:=cU u;clear aW an e0 e1 e2 ak u aV bp bq;go_wp2_with fail
   go_region_with (go_at_call 57;refine((cT b4) _).mono ?_;rintro e w1 ⟨rfl,v',hn⟩)
   have u:=cT aX;have q:(mR nP d.safe (d.dX.take (k+1)))=nP (mR nP d.safe (d.dX.take k)) (d.dX[k]):=by
    unfold mR;rw[Uw bo,VA];rfl
   have aY:(mR nP d.safe (d.dX.take (k+1))).length<=1000000000:=by
    have V:=te (d.dX.take (k+1)) d.safe;have h2:(d.dX.take (k+1)).length<=Wn d.dX:=by rw[Uz];omega
    omega
   have aZ:=Gz (cT HD).ss (d.dX.take (k+1));rw[q] at aY aZ;have aw:=u.step (dO.mx (dO.yd hn)) aZ aY bh;rw[<-q] at aw;have H1:=cU aw;clear u aw hn q aY aZ;go_wp2;go_roundw
   case rel=>exact⟨k+1,v',by omega,by go_num,cT H1⟩
   case measure=>simp[intOf];omega
  .have cG:¬(k:Int)<(m:Int):=by omega
   obtain rfl:k=m:=by omega
   have br:=λW p0=>(UF (n:=5)).1 (Dk.qC Fence.wide 5 trivial O p0 W)
   generalize hT:mR nP d.safe (d.dX.take k)=T at u;have aX:=cU u;clear u;go_wp2_with (go_at_call 55;refine(br _ _).mono ?_;rintro e w' ⟨rfl,b5⟩;subst b5);refine(wpIn_wide (n:=5)).1 ?_;have u:=cT aX;have bs:N (E w)<N (E wr):=cX u.box;obtain⟨W1,aq⟩:∃W1,((wr.alloc (D #[Z Y 0] 3)).alloc (D #[V9 (S ⟨b,1,U⟩)] 131))=W1:=⟨_,rfl⟩
   have cH:N (E W1)=N (E wr)+2:=by rw[<-aq];simp
   have M:V4 wr W1:=by rw[<-aq];exact((Th _ wr).alloc V2 _).alloc (by simp) _
   have b6:W1.heap[N (E wr)]?=S (D #[Z Y 0] 3 (0,0)):=by
    rw[<-aq,TD _ _ _ (by simp)];exact UO wr _
   have b7:W1.cell? ⟨N (E wr)+1,0,U⟩=S (V9 (S ⟨b,1,U⟩)):=by
    have:=UO (wr.alloc (D #[Z Y 0] 3)) (D #[V9 (S ⟨b,1,U⟩)] 131);rw[TK,aq] at this;simp[World.cell?,this]
   obtain⟨p,bu,bw,ax⟩:=Dk.dS u.tab.row;have ay:b<N (E wr):=cX u.tab.blk;have ca:W1.cell? ⟨b,1,U⟩=S (J p (Wn T) bu):=by
    rw[M.cell (p:=⟨b,1,U⟩) ay,u.tab.cell,<-bw]
   have ae:∀f,Ek T f->f∈d.fs:=λf ⟨a,ha⟩=>by
    rw[<-hT] at ha;rcases yI _ _ _ ha with V|⟨c,s,e⟩
    .exact(cT HD).Oj _ V
    .exact(cT HD).P5 c (Vx s) f e
   have bx:∀f,f∈d.fs->sj wr f (d.F f) (d.vb f):=λf I=>by
    have V:=(cT HD).files f I;refine V.kept u.kept ⟨dh V.blk (cT HD).blk (by decide),λe=>?_⟩ (λg X=>?_)
    .obtain⟨c,s,_⟩:=di (cT HD).rs e;exact dh s V.blk (by decide) O
    .obtain⟨c,s⟩:=V.own X;refine⟨dh s (cT HD).blk (by decide),λe=>?_⟩;obtain⟨c',av,_⟩:=di (cT HD).rs e;exact dh av s (by decide) O
   have af:∀f,Ek T f->sj wr f (d.F f) (d.vb f):=λf I=>bx f (ae f I)
   have cc:∀j (hj:j<Wn T),∃g,p=S ⟨g,0,U⟩/\g<N (E wr)/\(∀f,Ek T f->g≠f)/\W1.cell? ⟨g,j*2,U⟩=S (H T[j].1)/\W1.cell? ⟨g,j*2+1,U⟩=S (eH T[j].2):=λj hj=>by
    obtain⟨g,e,c0,c1⟩:=ax j hj;have X:=Tu wr _ c0;refine⟨g,e,X,λf I=>?_,(M.cell (p:=⟨g,j*2,U⟩) X).trans c0,(M.cell (p:=⟨g,j*2+1,U⟩) X).trans c1⟩;obtain⟨c,s,_⟩:=di u.tab.row (g:=g) (by rw[bw,e];rfl);exact dh s (af f I).blk (by decide)
   have bA:zz W1 W1 (N (E wr)) T d.vb 0 d.F:=⟨b6,λf I=>⟨d.vb f,⟨(M.block f (cX (af f I).blk)).trans (af f I).blk,de (af f I).row M⟩,O⟩,fV.refl _ _ _⟩
   rw[aq];clear aq ax;refine wpIn_rangeFunc_ownG O (by omega) (gf:=96) (lb := #[V9 (S ⟨N (E wr)+1,0,U⟩)]) O trivial (enters_of func96 (by kernel_rfl) O)
    (Dk.kK _ _ trivial O (by omega) (N (E wr)+1) b 1 (N (E wr)) (λk=>∀f,Ek T f->k≠f) p bu T u.tab.len W1 (by omega) (by omega) (by omega) b7 ca cc) (λh k=>h.trans k) (qX (by omega)) (Th _ _) (λ_=>O)
    (λL W=>zz W1 W (N (E wr)) T d.vb (Wn L) (kQ (lI kn K) d.F (L.map (·.1))).2)
    (λ_ _ _=>False)
    (zz.own _ (by omega))
    (λ_ _ _ _ _ hs _ _=>hs)
    bA ?a1 ?assign ?body ?done ?stop
   case assign =>
    intro l y W K hK
    gi_wp2
    exact hK
   case stop =>
    intro D' c L W _ _ h;exact h.elim
   case body =>
    rintro l' L ⟨⟨ya,yf⟩,hy⟩ W A b3;have hG:=vU (lI kn K) d.F (L.map (·.1)) bS;have bB:(kQ (lI kn K) d.F ((L++[(⟨(ya,yf),hy⟩:{ x:V8 × Nat // x∈T })]).map (·.1))).2=oq (kQ (lI kn K) d.F (L.map (·.1))).2 yf (iJ ((kQ (lI kn K) d.F (L.map (·.1))).2 yf) (lI kn K (Wn L))):=by
     rw[UD,Uj,List.map_nil,CO];unfold nK;rw[F6,Ue]
    have bC:=cU bB;generalize (kQ (lI kn K) d.F (L.map (·.1))).2=G at A hG bC;clear bB;have a6:Ek T yf:=⟨ya,hy⟩
    obtain⟨vf,aH,bD⟩:=A.files yf a6;have a7:∀g,g<N (E w)->(g≠b/\d.vs.ownBlock≠S g)->(∀f,Ek T f->g≠f)->W.heap[g]?=w.heap[g]?:=λg X V h2=>by
     rw[A.kept.block g (by omega) h2,M.block g (by omega),u.kept.block g X V]
    have bE:W.heap[N (E w)]?=S (D #[J kp kn kc] 39 (0,0)):=by
     rw[A.kept.block (N (E w)) bs (λf I=>dh u.box (af f I).blk (by decide)),M.block (N (E w)) bs];exact u.box
    have bF:qy W B kp kn K:=⟨λj hj=>by
     obtain⟨g,o,e,s,bG⟩:=(cT HK).cell j hj;have az:g<N (E w):=Tu w ⟨g,o+j,U⟩ s;have a8:=cT HD;have aA:W.heap[g]?=w.heap[g]?:=by
      rcases bG with cI|⟨ah,fr,hd⟩
      .refine a7 g az ⟨λe2=>?_,λe2=>?_⟩ (λf I e2=>?_)
       .have:=cT aS g (Wh e2);omega
       .have:=cT aS g (Wi (Wi (Wh e2)));omega
       .have:=cT aS g (Wi (Wi (Wi (Wi ⟨f,ae f I,Wh e2⟩))));omega
      .refine a7 g az ⟨dh hd a8.blk (by decide),λe2=>?_⟩ (λf I=>dh hd (a8.files f (ae f I)).blk (by decide));obtain⟨c',av,_⟩:=di a8.rs e2;exact dh hd av (by decide) O
     exact⟨g,o,e,(UI (w:=w) aA).trans s,bG.imp id (λ⟨ah,fr,hd⟩=>⟨ah,fr,aA.trans hd⟩)⟩,(cT HK).small⟩
    have cd:=D0 kp kn kc K (Wn L) W bF;have cj:=F3 yf (G yf) vf (lI kn K (Wn L)) W aH (hG yf);have cJ:W.cell? ⟨N (E w),0,U⟩=S (J kp kn kc):=by rw[Ti W _ 0 _ _ _ bE];rfl
    have cK:W.cell? ⟨N (E wr),0,U⟩=S (Z Y (Wn L:Int)):=by rw[Ti W _ 0 _ _ _ A.wJ];rfl
    have cl:N (E wr)<N (E W):=cX A.wJ;have cp:N (E wr)≠yf:=dh A.wJ aH.blk (by decide);have cL:Wn L<1000000000:=by have:=u.tab.len;omega
    have aI:=cU A;have bH:=cU aH;have cq:=cU bD;have bI:=cU a6;have cr:=cU A.wJ;clear bF bE a7 aH bD a6 A;unfold eH
    gi_wp2_with (first
    |(refine⟨trivial,?_⟩;gi_at_call 59;refine(Ve l' ((UF (n:=_)).2 cd)).mono ?_;rintro e w' ⟨rfl,hw⟩;obtain rfl:=hw.symm)
    |(refine⟨trivial,?_⟩;gi_at_call 58;refine(Ve l' ((UF (n:=_)).2 cj)).mono ?_;rintro e w1 ⟨rfl,v',ct,bJ,q⟩;have aO:=(q.block (N (E wr)) cl cp).trans (cT cr);have cM:w1.cell? ⟨N (E wr),0,U⟩=S (Z Y (Wn L:Int)):=(Ti w1 _ 0 _ _ _ aO).trans O;have cN:w1.frozen? ⟨N (E wr),0,U⟩=Wg:=(by simp[World.frozen?,aO])))
    have A:=cT aI;have cu:=A.next (cT bI) (cT bH) (cT cq) ct bJ q
    have ei:((Wn L:Int)+1)=((Wn L+1:Nat):Int):=by omega
    have cv:fV (N (E wr)) (λk=>∀f,Ek T f->k≠f) W (w1.setCell ⟨N (E wr),0,U⟩ (Z Y ((Wn L+1:Nat):Int))):=⟨q.os,q.tape,q.output,by simpa using q.size,λk cO ho=>by
      rw[Tv w1 _ _ k (show k≠(N (E wr)) by omega),q.block k (by omega) (ho yf (cT bI))]⟩
    rw[ei];exact⟨((sO q (cT bH).blk).trans (KeepsOthers.setCell _ _ _)).from _,cv,by show zz _ _ _ _ _ (L++[_]).length _;rw[TT,cT bC];exact cu⟩
   case done =>
    rintro Dd ys W cP bK A bL;have aP:ys.map (·.1)=T:=by rw[bK,VZ]
    rw[aP] at A;have aQ:W.heap[b]?=S (D (d.wn v).cells 64 (0,0)):=by
     rw[A.kept.block b ay (λf I=>dh u.tab.blk (af f I).blk (by decide)),M.block b ay];exact u.tab.blk
    have aB:W.ownsRow 0 194 2 v (Wn T) (Dk.cV T):=by
     have V:=de u.tab.row M;obtain⟨q1,q2⟩:=V;refine⟨q1,?_⟩;rcases q2 with q2|⟨g,aj,ah,R,hB,X,r⟩
     .exact .inl q2
     .refine .inr ⟨g,aj,ah,R,hB,?_,r⟩;obtain⟨c,s,_⟩:=di u.tab.row (g:=g) (by rw[R];rfl);rw[A.kept.block g (cX s) (λf I=>dh s (af f I).blk (by decide)),X]
    have bM:=rj b (d.wn v) T W ⟨aQ,O,aB,u.tab.me,u.tab.len⟩ (by show ∃p n c,d.vs=_;rw[aT];exact⟨_,_,_,O⟩) (by show ∃p n c,d.vc=_;rw[t];exact⟨_,_,_,O⟩);have aI:=cU A;clear aQ A bK aP;go_wp2_with fail;refine bM.mono ?_;rintro e W2 ⟨rfl,aC,ab,aJ,aK,ar⟩;have g4:W2.cell? ⟨b,4,U⟩=S (Z Y d.left):=by rw[Ti W2 _ 4 _ _ _ ab];rfl
    have g5:W2.cell? ⟨b,5,U⟩=S (Wa d.mr):=by rw[Ti W2 _ 5 _ _ _ ab];rfl
    have g6:W2.cell? ⟨b,6,U⟩=S (Wa d.down):=by rw[Ti W2 _ 6 _ _ _ ab];rfl
    have z4:W2.frozen? ⟨b,4,U⟩=Wg:=by simp[World.frozen?,ab]
    have z5:W2.frozen? ⟨b,5,U⟩=Wg:=by simp[World.frozen?,ab]
    have z6:W2.frozen? ⟨b,6,U⟩=Wg:=by simp[World.frozen?,ab]
    have H2:=cU (And.intro ab (And.intro aJ (And.intro aK ar)));clear ab aJ aK ar bM;go_wp2_with fail;refine(JN b d.left d.mr _ ((TQ _ _ _ _ (by intro e;simp at e)).trans g4) ((TQ _ _ _ _ (by intro e;simp at e)).trans g5) (by simp[z4]) (by simp[z5])).mono ?_;rintro e W3 ⟨rfl,aL⟩;obtain⟨ab,aJ,aK,ar⟩:=cT H2;have cw:W3.heap[b]?=S (D ({ d with vn:=v,vs:=aC,vc := J U 0 0,left := -1,mr:=false,down:=false }:Dv).cells 64 (0,0)):=by
     rw[aL];have e1:=Tq W2 b 6 _ _ (Wa Wg) ab;have e2:=Tq _ b 5 _ _ (Wa Wg) e1;have e3:=Tq _ b 4 _ _ (Z Y (-1)) e2;exact e3
    have aa:Kept W W3 (λk=>k≠b):=by
     rw[aL];exact((aK.setCell (λh=>h O) _).setCell (λh=>h O) _).setCell (λh=>h O) _
    have cx:W3.ownsRow 0 194 2 aC (Wn T) (Dk.cV T):=by
     rw[aL];have ba:aC.ownBlock≠S b:=λe=>by
      have:=ar b e;have:=cX (cT aI).wJ;omega
     exact Ui (Ui (Ui aJ ba _) ba _) ba _
    have aR:W3.heap[Dd]?=S (.deferred (S [])):=(aa.block Dd (Ts.1 bL).1 (by omega)).trans bL;clear aL;go_wp2;refine(show bodyPostM Fence.wide 5 prog _ _ Exit.normal _ W3 from ?_);refine⟨by simp,.inl ⟨_,_,O,run_takeDeferred aR,?_⟩⟩;have ad:=Vy W3 Dd (.deferred U);have aD:∀r,S Dd=S r->0<=r/\∃o:Obj,W3.heap[r]?=S o/\o.isCells=Wg:=λr e=>by
     have:Dd=r:=TG e;subst this;exact⟨Tp _,_,aR,O⟩
    have A:=cT aI;have hd:=cT HD;have ai:d.wF P=T:=by unfold Dv.wF;rw[hN,hT]
    have cQ:N (E W1)<=N (E W):=A.kept.size;have cy:v.ownBlock≠S b:=u.Si;have cA:∀g,v.ownBlock=S g->g<N (E W):=λg X=>jI aB X
    have bN:W.heap[b]?=S (D (d.wn v).cells 64 (0,0)):=by
     rw[A.kept.block b ay (λf I=>dh u.tab.blk (af f I).blk (by decide)),M.block b ay];exact u.tab.blk
    have ag:∀f,f∈d.fs->∃v',sj W3 f ((kQ (lI kn K) d.F T).2 f) v'/\v'.ownBlock=(d.vb f).ownBlock:=λf I=>by
     by_cases bc:Ek T f
     .obtain⟨v',V,h2⟩:=A.files f bc;refine⟨v',V.kept aa (dh V.blk bN (by decide)) (λg X=>?_),h2⟩;obtain⟨c,s⟩:=V.own X;exact dh s bN (by decide)
     .have V:=bx f I;have bO:=cX V.blk;refine⟨d.vb f,?_,O⟩;rw[BL _ _ bc];have bd:∀k,Ek T k->f≠k:=λk hk e=>bc (e ▸ hk)
      have hb:W3.heap[f]?=wr.heap[f]?:=by
       rw[aa.block f (by omega) (dh V.blk u.tab.blk (by decide)),A.kept.block f bO bd,M.block f bO]
      refine⟨hb.trans V.blk,?_⟩;obtain⟨q1,q2⟩:=V.row;refine⟨q1,?_⟩;rcases q2 with q2|⟨g,aj,ah,R,hB,X,r⟩
      .exact .inl q2
      .refine .inr ⟨g,aj,ah,R,hB,?_,r⟩;have az:=cX X;rw[aa.block g (by omega) (dh X u.tab.blk (by decide)),A.kept.block g az (λk hk=>dh X (af k hk).blk (by decide)),M.block g az];exact X
    have bP:∀k,¬ng b d k->k<N (E w)->(k≠b/\d.vs.ownBlock≠S k/\∀f,Ek T f->k≠f):=λk hk _=>⟨λe=>hk (Wh e),λe=>hk (Wi (Wi (Wh e))),λf I e=>hk (Wi (Wi (Wi (Wi ⟨f,ae f I,Wh e⟩))))⟩
    refine⟨Wb #[],by simp[results,results34,go_sem],O,?_⟩;have cD:∀f,Decidable (f∈d.fs):=λf=>Classical.propDecidable _
    refine⟨λf=>if h:f∈d.fs then Classical.choose (ag f h) else J U 0 0,v,aC,⟨⟨?_,?_,?_,TH _ _ _ _,?_,?_,λg X e=>?_,λf I=>?_,λf f' I aE bd g X=>?_,λp hp=>?_,λp hp=>?_,λc s=>(by cases s)⟩,?_,λk hk=>?_⟩⟩
    .exact kt ad aD cw
    .show World.ownsRow _ 0 _ 2 v (d.wF P).length (Dk.cV (d.wF P))
     rw[ai];exact nh ad aD (dy aB aa (λg X e=>cy (by rw[X,e])))
    .show World.ownsRow _ 0 _ 2 aC (d.wF P).length (Dk.cV (d.wF P))
     rw[ai];exact nh ad aD cx
    .show Sd.dj (d.wF P);rw[ai];exact u.tab.me
    .show Sd.dj (d.wF P);rw[ai];exact u.tab.me
    .have:=ar g e;have:=cA g X;omega
    .have I:f∈d.fs:=I
     show sj _ f ((kQ (lI kn K) d.F (d.wF P)).2 f) (if h:f∈d.fs then Classical.choose (ag f h) else J U 0 0)
     rw[ai,dif_pos I];have V:=(Classical.choose_spec (ag f I)).1;exact⟨kt ad aD V.blk,nh ad aD V.row⟩
    .have I:f∈d.fs:=I;have aE:f'∈d.fs:=aE;have bQ:(if h:f∈d.fs then Classical.choose (ag f h) else Value.slice U 0 0).ownBlock=S g:=X
     show (if h:f'∈d.fs then Classical.choose (ag f' h) else Value.slice U 0 0).ownBlock≠S g
     rw[dif_pos I,(Classical.choose_spec (ag f I)).2] at bQ;rw[dif_pos aE,(Classical.choose_spec (ag f' aE)).2];exact hd.fap f f' I aE bd g bQ
    .have hp:p∈d.wF P:=hp;rw[ai] at hp;exact ae p.2 ⟨p.1,hp⟩
    .have hp:p∈d.wF P:=hp;rw[ai] at hp;exact ae p.2 ⟨p.1,hp⟩
    .refine⟨ad.os.trans (aa.os.trans (A.kept.os.trans (M.os.trans u.kept.os))),ad.tape.trans (aa.tape.trans (A.kept.tape.trans (M.tape.trans u.kept.tape))),ad.output.trans (aa.output.trans (A.kept.output.trans (M.output.trans u.kept.output))),?_,λx bR hx=>?_⟩
     .have q1:=ad.size;have q2:=aa.size;have q3:=u.kept.size;omega
     .obtain⟨x1,x2,x3⟩:=bP x hx bR;have q3:=u.kept.size;rw[ad.block x (by have:=aa.size;omega) (by simp;omega),aa.block x (by omega) x1,A.kept.block x (by omega) x3,M.block x (by omega),u.kept.block x bR ⟨x1,x2⟩]
    .rcases hk with e|e|e|e|⟨f,I,e⟩
     .exact Wh (Wh e)
     .rcases u.new with e2|⟨g',e2,cR⟩
      .exact Wh (Wi (Wi (Wh (e2 ▸ e))))
      .have e:v.ownBlock=S k:=e;rw[e2] at e;have:=TG e;exact Wi (by omega)
     .have:=ar k e;have:=u.kept.size;exact Wi (by omega)
     .simp[Dv.dW,Value.ownBlock] at e
     .have I:f∈d.fs:=I;refine Wh (Wi (Wi (Wi (Wi ⟨f,I,?_⟩))));rcases e with e|e
      .exact Wh e
      .have e:(if h:f∈d.fs then Classical.choose (ag f h) else Value.slice U 0 0).ownBlock=S k:=e;rw[dif_pos I,(Classical.choose_spec (ag f I)).2] at e;exact Wi e
end Pk
end Go.Proofs.YtgkkdpegcieakaaGreatDoor
