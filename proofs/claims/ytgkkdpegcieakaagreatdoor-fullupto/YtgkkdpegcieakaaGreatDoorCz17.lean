import Derived.Test.YtgkkdpegcieakaaGreatDoorCz16
set_option linter.unusedVariables false
set_option linter.unusedSimpArgs false
set_option maxRecDepth 100000
set_option maxHeartbeats 16000000
namespace Go.Proofs.YtgkkdpegcieakaaGreatDoor
open Go.Proofs.Tryz
open Value renaming int→Z
open IntKind renaming i64→Y
open Go renaming World→TJ,Value→TK,Calls→TL
namespace Pk
open Go.RowKit
open Sd (Tb)
open Dk (Kept du eV dK cQ eC eX)
structure Fl where
 bytes:TM
 safe:Nat
structure Ch where
 gone:TM
 name:TM
 file:Option Nat
structure Dv where
 q:Int
 names:Tb
 safe:Tb
 dS:List Ch
 fs:List Nat
 F:Nat->Fl
 vb:Nat->TK
 vn:TK
 vs:TK
 vc:TK
 left:Int
 mr:Bool
 down:Bool
def byteCells(b:TM):List TK:=b.data.toList.map λx=>Z .u8 x.toNat
def gW(L:List Ch):List TK:=L.flatMap λc=>[.string c.gone,.string c.name,eX c.file]
def Dv.cells(d:Dv):Array TK := #[Z Y d.q,d.vn,d.vs,d.vc,Z Y d.left,.bool d.mr,.bool d.down]
structure rP (w:TJ) (f:Nat) (X:Fl) (v:TK):Prop where
 blk:w.heap[f]?=some (.cells #[v,Z Y X.safe] 127 (0,0))
 row:w.ownsRow 0 5 1 v X.bytes.size (byteCells X.bytes)
structure lB (w:TJ) (D:Nat) (d:Dv):Prop where
 blk:w.heap[D]?=some (.cells d.cells 64 (0,0))
 rn:w.ownsRow 0 194 2 d.vn d.names.length (Dk.cQ d.names)
 rs:w.ownsRow 0 194 2 d.vs d.safe.length (Dk.cQ d.safe)
 rc:w.ownsRow 0 129 3 d.vc d.dS.length (gW d.dS)
 sn:Sd.da d.names
 ss:Sd.da d.safe
 apart:∀g,d.vn.ownBlock=some g->d.vs.ownBlock≠some g
 files:∀f,f∈d.fs->rP w f (d.F f) (d.vb f)
 fap:∀f f',f∈d.fs->f'∈d.fs->f≠f'->∀g,(d.vb f).ownBlock=some g->(d.vb f').ownBlock≠some g
 FG:∀p,p∈d.names->p.2∈d.fs
 N5:∀p,p∈d.safe->p.2∈d.fs
 MV:∀c,c∈d.dS->∀f,c.file=some f->f∈d.fs
variable {w:TJ}
theorem cS{b:Nat}{o:Obj}(h:w.heap[b]?=some o): b<w.heap.size:=(cB.1 h).1
theorem cY{a b:Nat}{x y:Array TK}{t u:TypeId}{p q:Nat × Nat}(h:w.heap[a]?=some (.cells x t p))(k:w.heap[b]?=some (.cells y u q))(ht:t≠u): a≠b:=λe=>by
 subst e;rw[h] at k;injection k with k;injection k with _ k;exact ht k
variable {B n size g e:Nat}{xs:List TK}{v:TK}
theorem cZ(h:w.ownsRow B e size v n xs)(l:v.ownBlock=some g): ∃b,w.heap[g]?=some (.cells b e (0,0))/\B<=g:=by
 rcases h.2 with ⟨rfl,_⟩|⟨m,r,b,rfl,u,j,_⟩
 .simp[Value.ownBlock] at l
 .have:m=g:=by simpa [Value.ownBlock] using l
  subst this;exact⟨b,j,u⟩
theorem jT(h:w.ownsRow B e size v n xs)(b:v.ownBlock=some g): g<w.heap.size:=by
 obtain⟨j,l,_⟩:=cZ h b;exact cS l
theorem mE{y:Nat}(h:w.ownsRow B e size v n xs)(z:y<=B): w.ownsRow y e size v n xs:=by
 obtain⟨A,b⟩:=h;refine⟨A,?_⟩;rcases b with b|⟨g,j,l,C,m,u,r⟩
 .exact .inl b
 .exact .inr ⟨g,j,l,C,cx z m,u,r⟩
theorem jS(h:w.ownsRow B e size v n xs): ∃p b,v=.slice p n b:=by
 rcases h.2 with ⟨rfl,j⟩|⟨g,b,l,rfl,_⟩
 .exact⟨none,0,by rw[j]⟩
 .exact⟨_,b,rfl⟩
variable {X:Fl}{f:Nat}{w':TJ}
theorem rP.below(h:rP w f X v)(hb:TI w w'): rP w' f X v:=⟨(hb.block f (cS h.blk)).trans h.blk,cW h.row hb⟩
theorem rP.kept{b:Nat->Prop}(h:rP w f X v)(j:Kept w w' b)(h1:b f)(h2:∀g,v.ownBlock=some g->b g): rP w' f X v:=⟨(j.block f (cS h.blk) h1).trans h.blk,du h.row j h2⟩
theorem rP.own(h:rP w f X v)(j:v.ownBlock=some g): ∃b,w.heap[g]?=some (.cells b 5 (0,0)):=by
 obtain⟨b,l,_⟩:=cZ h.row j;exact⟨b,l⟩
variable {D:Nat}{d:Dv}
theorem lB.below(h:lB w D d)(hb:TI w w'): lB w' D d:=⟨(hb.block D (cS h.blk)).trans h.blk,cW h.rn hb,cW h.rs hb,cW h.rc hb,h.sn,h.ss,h.apart,λf b=>(h.files f b).below hb,h.fap,h.FG,h.N5,h.MV⟩
def ot(D:Nat)(d:Dv)(k:Nat):Prop:=k=D\/d.vn.ownBlock=some k\/d.vs.ownBlock=some k\/d.vc.ownBlock=some k\/∃f,f∈d.fs/\(k=f\/(d.vb f).ownBlock=some k)
theorem Ef(h:lB w D d){k:Nat}(j:ot D d k): k<w.heap.size:=by
 rcases j with rfl|e|e|e|⟨f,b,e|e⟩
 .exact cS h.blk
 .exact jT h.rn e
 .exact jT h.rs e
 .exact jT h.rc e
 .subst e;exact cS (h.files _ b).blk
 .exact jT (h.files f b).row e
structure oN (w w':TJ) (D:Nat) (d d':Dv):Prop where
 at':lB w' D d'
 kept:Kept w w' (λk=>¬ot D d k)
 own:∀k,ot D d' k->ot D d k\/w.heap.size<=k
theorem oN.below(h:lB w D d)(hb:TI w w'): oN w w' D d d:=⟨h.below hb,Kept.below hb _,λk b=>Or.inl b⟩
theorem oN.trans{j l:TJ}{d1 d2:Dv}(h:oN w j D d d1)(k:oN j l D d1 d2): oN w l D d d2:=by
 have u:=h.kept.size;refine⟨k.at',⟨k.kept.os.trans h.kept.os,k.kept.tape.trans h.kept.tape,k.kept.output.trans h.kept.output,cx u k.kept.size,λi hi m=>?_⟩,λi hi=>?_⟩
 .rw[k.kept.block i (by omega) (λb=>by rcases h.own i b with r | r;exact m r;omega),h.kept.block i hi m]
 .rcases k.own i hi with b|b
  .exact h.own i b
  .exact Or.inr (by omega)
theorem lB.Qh(h:lB w D d){s:Nat}(b:w.ownsRow B e s v n xs)(he:e≠64): v.ownBlock≠some D:=λj=>by
 obtain⟨x,l,_⟩:=cZ b j;exact cY l h.blk he rfl
theorem lB.set{W:TJ}{j:Dv}(h:lB w D d)(r:Kept w W (λk=>k≠D))(hb:W.heap[D]?=some (.cells j.cells 64 (0,0)))(z:j.names=d.names)(u:j.safe=d.safe)(A:j.dS=d.dS)(C:j.fs=d.fs)(E:j.F=d.F)(G:j.vb=d.vb)(H:j.vn=d.vn)(I:j.vs=d.vs)(J:j.vc=d.vc): oN w W D d j:=by
 obtain⟨q,a,b,c,f,F,O,P,Q,R,l,S,T⟩:=j;simp only at z u A C E G H I J;subst z u A C E G H I J;have m:∀{e s n:Nat} {v:TK} {xs:List TK},w.ownsRow 0 e s v n xs->e≠64->W.ownsRow 0 e s v n xs:=λK L=>du K r (λg M u=>by subst u;exact h.Qh K L M)
 refine⟨⟨hb,m h.rn (by decide),m h.rs (by decide),m h.rc (by decide),h.sn,h.ss,h.apart,λf y=>⟨?_,m (h.files f y).row (by decide)⟩,h.fap,h.FG,h.N5,h.MV⟩,r.mono (λk _ N e=>N (Or.inl e)),λk r=>Or.inl r⟩;rw[r.block f (cS (h.files f y).blk) (cY (h.files f y).blk h.blk (by decide))];exact(h.files f y).blk
def d0(q:Int):Dv:=⟨q,[],[],[],[],λ_=>⟨⟨#[]⟩,0⟩,λ_=>.slice none 0 0,.slice none 0 0,.slice none 0 0,.slice none 0 0,0,false,false⟩
theorem JG(q:Int)(w:TJ):TL prog 21 #[Z Y q] w λe w'=>e=.returned (.agg (d0 q).cells)/\TI w w'/\w'.heap.size=w.heap.size+1:=by
 go_enter func21,ntmps21;go_wp2;refine cr (v := .agg (d0 q).cells) (by simp[results,results21,go_sem,d0,Dv.cells]) rfl ⟨rfl,?_,by simp⟩;exact(cj _ w).alloc TG _
theorem Ab(q:Int)(w:TJ):TL prog 6 #[Z Y q] w λe w'=>e=.returned (.pointer (some ⟨w.heap.size+1,0,none⟩))/\TI w w'/\lB w' (w.heap.size+1) (d0 q):=by
 go_enter func6,ntmps6;go_wp2_with fail;refine(JG q w).mono ?_;rintro e j ⟨rfl,l,m⟩;unfold Dv.cells d0;go_wp2;go_ret;have b:=ct j (.cells (d0 q).cells 64);rw[m] at b;exact⟨rfl,l.alloc (by omega) _,⟨b,fc _ _ _ _,fc _ _ _ _,fc _ _ _ _,List.Pairwise.nil,List.Pairwise.nil,λg h=>by simp[d0,Value.ownBlock] at h,λf h=>(by cases h),λf r h=>(by cases h),λp h=>(by cases h),λp h=>(by cases h),λp h=>(by cases h)⟩⟩
def Dv.up(d:Dv):Bool := !(d.down || (d.mr&&decide (d.left=0)))
def Dv.dU(d:Dv):Dv:=if d.mr=true then { d with down:=d.down || decide (d.left=0),left:=wrap64 (d.left-1) } else d
theorem lB.cell(h:lB w D d): w.cell? ⟨D,0,none⟩=some (Z Y d.q)/\w.cell? ⟨D,1,none⟩=some d.vn/\w.cell? ⟨D,2,none⟩=some d.vs/\w.cell? ⟨D,3,none⟩=some d.vc/\w.cell? ⟨D,4,none⟩=some (Z Y d.left)/\w.cell? ⟨D,5,none⟩=some (.bool d.mr)/\w.cell? ⟨D,6,none⟩=some (.bool d.down):=by
 refine⟨?_,?_,?_,?_,?_,?_,?_⟩ <;> (rw[cn w D _ _ _ _ h.blk];rfl)
theorem lB.fz(h:lB w D d)(j:Nat): w.frozen? ⟨D,j,none⟩=false:=by simp[World.frozen?,h.blk]
theorem AK(w:TJ)(D j:Nat)(u:TK):Kept w (w.setCell ⟨D,j,none⟩ u) (λk=>k≠D):=(Kept.refl w _).setCell (λb=>b rfl) _
theorem lZ(D:Nat)(d:Dv)(w:TJ)(h:lB w D d):TL prog 136 #[.pointer (some ⟨D,0,none⟩)] w λe w'=>e=.returned (.bool d.up)/\oN w w' D d d.dU/\w'.heap.size=w.heap.size:=by
 obtain⟨_,_,_,_,M,N,O⟩:=h.cell;have U:=h.fz 4;have V:=h.fz 6;have b:=cP h;have K:=h.blk;have y:=cP K;clear h K;obtain⟨q,z,A,C,E,F,G,H,I,J,l,P,L⟩:=d;simp only at M N O;cases P with
 |false =>
  cases L with
  |true =>
   go_enter func136,ntmps136;go_wp2;go_ret;exact⟨rfl,oN.below (cO b) (cj _ _),rfl⟩
  |false =>
   go_enter func136,ntmps136;go_wp2;go_ret;exact⟨rfl,oN.below (cO b) (cj _ _),rfl⟩
 |true =>
  cases L with
  |true =>
   go_enter func136,ntmps136;go_wp2;go_ret;refine⟨rfl,(cO b).set ?_ ?_ rfl rfl rfl rfl rfl rfl rfl rfl rfl,by simp⟩
   .exact(AK w D 6 _).setCell (λj=>j rfl) _
   .have m:=cA w D 6 _ _ (.bool true) (cO y);have r:=cA _ D 4 _ _ (Z Y (wrap64 (l-1))) m;exact r
  |false =>
   by_cases u:l=0
   .subst u;go_enter func136,ntmps136;go_wp2;go_ret;refine⟨rfl,(cO b).set ?_ ?_ rfl rfl rfl rfl rfl rfl rfl rfl rfl,by simp⟩
    .exact(AK w D 6 _).setCell (λj=>j rfl) _
    .have m:=cA w D 6 _ _ (.bool true) (cO y);have r:=cA _ D 4 _ _ (Z Y (-1)) m;have Q:wrap64 (0-1) = -1:=by unfold wrap64;decide
     unfold Dv.dU Dv.cells at *;simp only[l9,Q];exact r
   .have R:(l == 0)=false:=cC.2 u;have S:Hid (Dv.up ⟨q,z,A,C,E,F,G,H,I,J,l,true,false⟩=true):=by show _=_;unfold Dv.up;simp[u]
    have T:Hid (Dv.dU ⟨q,z,A,C,E,F,G,H,I,J,l,true,false⟩=⟨q,z,A,C,E,F,G,H,I,J,wrap64 (l-1),true,false⟩):=by show _=_;unfold Dv.dU;simp[u]
    clear u;go_enter func136,ntmps136;go_wp2;go_ret;rw[cO S,cO T];refine⟨rfl,(cO b).set ?_ ?_ rfl rfl rfl rfl rfl rfl rfl rfl rfl,by simp⟩
    .exact(AK w D 6 _).setCell (λj=>j rfl) _
    .have m:=cA w D 6 _ _ (.bool false) (cO y);have r:=cA _ D 4 _ _ (Z Y (wrap64 (l-1))) m;exact r
end Pk
namespace Pk
open Go.RowKit
open Sd (Tb)
open Dk (Kept du eV dK cQ eC eX)
theorem mb(p:TM)(w:TJ)(l:p.size<=140737488355328):TL prog 209 #[.string p] w λe j=>e=.returned (.string p)/\TI w j:=by
 go_enter func209,ntmps209;go_wp2_with fail;refine(Tryz.stringslite_Clone p _ (by omega)).mono ?_;rintro e m ⟨rfl,b⟩;go_wp2;go_ret;exact⟨rfl,b⟩
theorem qZ(c:Nat)(w:TJ):TL prog 211 #[Z .u8 c] w λe y=>e=.returned (.bool (Rd.yV c))/\y=w:=by
 by_cases j:97<=c
 .by_cases z:c<=122
  .have x:=j;have b:Hid (Rd.yV c=true):=by show _=_;unfold Rd.yV;simp;omega
   have l:(97:Int)<=c:=by omega
   have m:(c:Int)<=122:=by omega
   go_enter func211,ntmps211;go_wp2;go_ret;exact⟨by rw[cO b];rfl,rfl⟩
  .have x:=j;have b:Hid (Rd.yV c=false):=by show _=_;unfold Rd.yV;simp;omega
   have l:(97:Int)<=c:=by omega
   have m:¬(c:Int)<=122:=by omega
   have r:(48:Int)<=c:=by omega
   have A:¬(c:Int)<=57:=by omega
   have B:((c:Int) == 46)=false:=cC.2 (by omega);go_enter func211,ntmps211;go_wp2;go_ret;exact⟨by rw[cO b];rfl,rfl⟩
 .by_cases z:48<=c
  .by_cases u:c<=57
   .have x:=j;have b:Hid (Rd.yV c=true):=by show _=_;unfold Rd.yV;simp;omega
    have l:¬(97:Int)<=c:=by omega
    have m:(48:Int)<=c:=by omega
    have r:(c:Int)<=57:=by omega
    go_enter func211,ntmps211;go_wp2;go_ret;exact⟨by rw[cO b];rfl,rfl⟩
   .have x:=j;have b:Hid (Rd.yV c=false):=by show _=_;unfold Rd.yV;simp;omega
    have l:¬(97:Int)<=c:=by omega
    have m:(48:Int)<=c:=by omega
    have r:¬(c:Int)<=57:=by omega
    have A:((c:Int) == 46)=false:=cC.2 (by omega);go_enter func211,ntmps211;go_wp2;go_ret;exact⟨by rw[cO b];rfl,rfl⟩
  .by_cases u:c=46
   .have b:Hid (Rd.yV c=true):=by show _=_;subst u;rfl
    subst u;go_enter func211,ntmps211;go_wp2;go_ret;exact⟨rfl,rfl⟩
   .have x:=j;have b:Hid (Rd.yV c=false):=by show _=_;unfold Rd.yV;simp;omega
    have l:¬(97:Int)<=c:=by omega
    have m:¬(48:Int)<=c:=by omega
    have r:((c:Int) == 46)=false:=cC.2 (by omega);go_enter func211,ntmps211;go_wp2;go_ret;exact⟨by rw[cO b];rfl,rfl⟩
theorem gi(s:TM)(w:TJ):TL prog 143 #[.string s] w λe l=>e=.returned (.bool (Rd.nH s))/\l=w:=by
 by_cases u:s=Rd.e0
 .have M:=Rd.PE u;have F:Hid (Rd.nH s=false):=by show _=_;subst u;rfl
  clear u;go_enter func143,ntmps143;go_wp2;go_ret;exact⟨by rw[cO F];rfl,rfl⟩
 .have M:=Rd.Pf u;have E:1<=s.size:=by
   rcases Nat.eq_zero_or_pos s.size with e|e
   .exact absurd (Bk (Array.eq_empty_of_size_eq_zero e)) u
   .exact e
  clear u;by_cases z:s.size<=12
  .have J:Hid (Rd.nH s=s.data.toList.all λb=>Rd.yV b.toNat):=by show _=_;unfold Rd.nH;rw[kH E,kH z];rfl
   have N:¬(s.size:Int) > 12:=by omega
   go_enter func143,ntmps143;go_wp2
   go_loopw [13] (λG wr=>∃k:Nat,k<=s.size/\G=Z Y k/\wr=w/\Hid (∀j,j<k->Rd.yV (Sp.bt s j)=true)) (λG _=>s.size-(intOf G).toNat)
   case atStart=>exact⟨0,cy _,rfl,rfl,λj A=>by omega⟩
   case round =>
    obtain⟨k,R,rfl,rfl,K⟩:=hrel;by_cases B:k<s.size
    .have L:=Sp.jP s k B;obtain⟨b,H⟩:∃b,Sp.bt s k=b:=⟨_,rfl⟩
     rw[H] at L;have O:=cP H;clear H;cases y:Rd.yV b with
     |true =>
      have F:=cP y;have m:TL prog 211 #[Z .u8 b] wr λe l=>e=.returned (.bool true)/\l=wr:=by have:=qZ b wr;rw[y] at this;exact this
      clear y;go_wp2_with (go_at_call 211;refine m.mono ?_;rintro e l ⟨rfl,I⟩;obtain rfl:=I.symm);go_roundw
      case rel=>exact⟨k+1,by omega,by go_num,by first | rfl | trivial,λj A=>by
       rcases Tg (Nat.le_of_lt_succ A) with h|h
       .exact(cO K) j h
       .subst h;rw[cO O];exact cO F⟩
      case measure=>simp[intOf];omega
     |false =>
      have r:Hid (Rd.nH s=false):=by
       show _=_
       rw[cO J];apply Tv.2;intro P;have E:=List.all_eq_true.1 P (s[k]'B) (by rw[show s[k]'B=s.data.toList[k]'(by rw[zh];exact B) from rfl];exact pY _);rw[L,y] at E;cases E
      have m:TL prog 211 #[Z .u8 b] wr λe l=>e=.returned (.bool false)/\l=wr:=by have:=qZ b wr;rw[y] at this;exact this
      clear y;go_wp2_with (go_at_call 211;refine m.mono ?_;rintro e l ⟨rfl,I⟩;obtain rfl:=I.symm);go_ret;exact⟨by rw[cO r];rfl,rfl⟩
    .obtain rfl:k=s.size:=by omega
     have C:Hid (Rd.nH s=true):=by
      show _=_
      rw[cO J,List.all_eq_true];intro x Q;obtain⟨j,A,rfl⟩:=oM.1 Q;have D:j<s.size:=by rw[zh] at A;exact A
      have:=(cO K) j D;rw[<-Sp.jP s j D] at this;exact this
     go_wp2;go_ret;exact⟨by rw[cO C];rfl,rfl⟩
  .have r:Hid (Rd.nH s=false):=by
    show _=_
    unfold Rd.nH;rw[df z];simp
   have N:(s.size:Int) > 12:=by omega
   go_enter func143,ntmps143;go_wp2;go_ret;exact⟨by rw[cO r];rfl,rfl⟩
theorem Ac(s:TM)(w:TJ)(H:s.size<=1048576):TL prog 210 #[.string s] w λe z=>∃f,e=.returned (.agg #[.string ⟨#[]⟩,.string s,eC f])/\TI w z/\w.heap.size<=f/\z.heap[f]?=some (.cells #[.slice none 0 0,Z Y 0] 127 (0,0)):=by
 go_enter func210,ntmps210;go_wp2_with fail;refine(mb s _ (by omega)).mono ?_;rintro e b ⟨rfl,u⟩;have A:=u.size;have j:b.heap[w.heap.size]?=some (.cells #[.string ⟨#[]⟩,.string ⟨#[]⟩,.pointer none] 129 (0,0)):=(u.block w.heap.size (by simp)).trans (ct w _);have I:b.cell? ⟨w.heap.size,0,none⟩=some (.string ⟨#[]⟩):=by rw[cn b _ 0 _ _ _ j];rfl
 have J:b.cell? ⟨w.heap.size,1,none⟩=some (.string ⟨#[]⟩):=by rw[cn b _ 1 _ _ _ j];rfl
 have K:b.cell? ⟨w.heap.size,2,none⟩=some (.pointer none):=by rw[cn b _ 2 _ _ _ j];rfl
 have L:b.frozen? ⟨w.heap.size,0,none⟩=false:=by simp[World.frozen?,j]
 have M:b.frozen? ⟨w.heap.size,1,none⟩=false:=by simp[World.frozen?,j]
 have N:b.frozen? ⟨w.heap.size,2,none⟩=false:=by simp[World.frozen?,j]
 have y:w.heap.size<b.heap.size:=by simp at A;omega
 go_wp2;have l:((((b.setCell ⟨w.heap.size,0,none⟩ (.string ⟨#[]⟩)).setCell ⟨w.heap.size,1,none⟩ (.string s)).setCell ⟨w.heap.size,2,none⟩ (.pointer (some ⟨b.heap.size,0,none⟩))).alloc (.cells #[.slice none 0 0,Z Y 0] 127)).heap[w.heap.size]?=some (.cells #[.string ⟨#[]⟩,.string s,.pointer (some ⟨b.heap.size,0,none⟩)] 129 (0,0)):=by
  rw[cN _ _ _ (by simpa using y)];have B:=cA b w.heap.size 0 _ _ (.string ⟨#[]⟩) j;have C:=cA _ w.heap.size 1 _ _ (.string s) B;have D:=cA _ w.heap.size 2 _ _ (.pointer (some ⟨b.heap.size,0,none⟩)) C;exact D
 have m:TI w ((((b.setCell ⟨w.heap.size,0,none⟩ (.string ⟨#[]⟩)).setCell ⟨w.heap.size,1,none⟩ (.string s)).setCell ⟨w.heap.size,2,none⟩ (.pointer (some ⟨b.heap.size,0,none⟩))).alloc (.cells #[.slice none 0 0,Z Y 0] 127)):=((((((cj _ w).alloc TG _).trans (u.mono (by simp))).setCell TG _).setCell TG _).setCell TG _).alloc (by simp;omega) _;have r:((((b.setCell ⟨w.heap.size,0,none⟩ (.string ⟨#[]⟩)).setCell ⟨w.heap.size,1,none⟩ (.string s)).setCell ⟨w.heap.size,2,none⟩ (.pointer (some ⟨b.heap.size,0,none⟩))).alloc (.cells #[.slice none 0 0,Z Y 0] 127)).heap[b.heap.size]?=some (.cells #[.slice none 0 0,Z Y 0] 127 (0,0)):=by
  have h:=ct (((b.setCell ⟨w.heap.size,0,none⟩ (.string ⟨#[]⟩)).setCell ⟨w.heap.size,1,none⟩ (.string s)).setCell ⟨w.heap.size,2,none⟩ (.pointer (some ⟨b.heap.size,0,none⟩))) (.cells #[.slice none 0 0,Z Y 0] 127);simpa using h
 generalize ((((b.setCell ⟨w.heap.size,0,none⟩ (.string ⟨#[]⟩)).setCell ⟨w.heap.size,1,none⟩ (.string s)).setCell ⟨w.heap.size,2,none⟩ (.pointer (some ⟨b.heap.size,0,none⟩))).alloc (.cells #[.slice none 0 0,Z Y 0] 127))=W at l m r ⊢;have E:W.cell? ⟨w.heap.size,0,none⟩=some (.string ⟨#[]⟩):=by rw[cn W _ 0 _ _ _ l];rfl
 have F:W.cell? ⟨w.heap.size,1,none⟩=some (.string s):=by rw[cn W _ 1 _ _ _ l];rfl
 have G:W.cell? ⟨w.heap.size,2,none⟩=some (.pointer (some ⟨b.heap.size,0,none⟩)):=by rw[cn W _ 2 _ _ _ l];rfl
 exact cr (v := .agg #[.string ⟨#[]⟩,.string s,eC b.heap.size]) (by simp[results,results210,go_sem,E,F,G,eC]) rfl ⟨b.heap.size,rfl,m,by omega,r⟩
theorem A8(s:TM)(w:TJ)(G:s.size<=1048576):TL prog 135 #[.string s] w λe u=>e=.returned (.agg #[.string s,.string ⟨#[]⟩,.pointer none])/\TI w u:=by
 go_enter func135,ntmps135;go_wp2_with fail;refine(mb s _ (by omega)).mono ?_;rintro e b ⟨rfl,r⟩;have y:=r.size;have j:b.heap[w.heap.size]?=some (.cells #[.string ⟨#[]⟩,.string ⟨#[]⟩,.pointer none] 129 (0,0)):=(r.block w.heap.size (by simp)).trans (ct w _);have H:b.cell? ⟨w.heap.size,0,none⟩=some (.string ⟨#[]⟩):=by rw[cn b _ 0 _ _ _ j];rfl
 have I:b.cell? ⟨w.heap.size,1,none⟩=some (.string ⟨#[]⟩):=by rw[cn b _ 1 _ _ _ j];rfl
 have J:b.cell? ⟨w.heap.size,2,none⟩=some (.pointer none):=by rw[cn b _ 2 _ _ _ j];rfl
 have K:b.frozen? ⟨w.heap.size,0,none⟩=false:=by simp[World.frozen?,j]
 have L:b.frozen? ⟨w.heap.size,1,none⟩=false:=by simp[World.frozen?,j]
 have M:b.frozen? ⟨w.heap.size,2,none⟩=false:=by simp[World.frozen?,j]
 have z:w.heap.size<b.heap.size:=by simp at y;omega
 go_wp2;have l:(((b.setCell ⟨w.heap.size,0,none⟩ (.string s)).setCell ⟨w.heap.size,1,none⟩ (.string ⟨#[]⟩)).setCell ⟨w.heap.size,2,none⟩ (.pointer none)).heap[w.heap.size]?=some (.cells #[.string s,.string ⟨#[]⟩,.pointer none] 129 (0,0)):=by
  have A:=cA b w.heap.size 0 _ _ (.string s) j;have B:=cA _ w.heap.size 1 _ _ (.string ⟨#[]⟩) A;have C:=cA _ w.heap.size 2 _ _ (.pointer none) B;exact C
 have m:TI w (((b.setCell ⟨w.heap.size,0,none⟩ (.string s)).setCell ⟨w.heap.size,1,none⟩ (.string ⟨#[]⟩)).setCell ⟨w.heap.size,2,none⟩ (.pointer none)):=(((((cj _ w).alloc TG _).trans (r.mono (by simp))).setCell TG _).setCell TG _).setCell TG _;generalize (((b.setCell ⟨w.heap.size,0,none⟩ (.string s)).setCell ⟨w.heap.size,1,none⟩ (.string ⟨#[]⟩)).setCell ⟨w.heap.size,2,none⟩ (.pointer none))=W at l m ⊢;have D:W.cell? ⟨w.heap.size,0,none⟩=some (.string s):=by rw[cn W _ 0 _ _ _ l];rfl
 have E:W.cell? ⟨w.heap.size,1,none⟩=some (.string ⟨#[]⟩):=by rw[cn W _ 1 _ _ _ l];rfl
 have F:W.cell? ⟨w.heap.size,2,none⟩=some (.pointer none):=by rw[cn W _ 2 _ _ _ l];rfl
 exact cr (v := .agg #[.string s,.string ⟨#[]⟩,.pointer none]) (by simp[results,results135,go_sem,D,E,F]) rfl ⟨rfl,m⟩
theorem zM(s t:TM)(f:Nat)(w:TJ)(I:s.size<=1048576)(ht:t.size<=1048576):TL prog 145 #[.string s,.string t,eC f] w λe z=>e=.returned (.agg #[.string s,.string t,eC f])/\TI w z:=by
 unfold eC;go_enter func145,ntmps145;go_wp2_with fail;refine(mb s _ (by omega)).mono ?_;rintro e J ⟨rfl,m⟩;go_wp2_with fail;refine(mb t _ (by omega)).mono ?_;rintro e b ⟨rfl,r⟩;have y:=m.trans (r.mono m.size);clear m r;have A:=y.size;have j:b.heap[w.heap.size]?=some (.cells #[.string ⟨#[]⟩,.string ⟨#[]⟩,.pointer none] 129 (0,0)):=(y.block w.heap.size (by simp)).trans (ct w _);have K:b.cell? ⟨w.heap.size,0,none⟩=some (.string ⟨#[]⟩):=by rw[cn b _ 0 _ _ _ j];rfl
 have L:b.cell? ⟨w.heap.size,1,none⟩=some (.string ⟨#[]⟩):=by rw[cn b _ 1 _ _ _ j];rfl
 have M:b.cell? ⟨w.heap.size,2,none⟩=some (.pointer none):=by rw[cn b _ 2 _ _ _ j];rfl
 have N:b.frozen? ⟨w.heap.size,0,none⟩=false:=by simp[World.frozen?,j]
 have O:b.frozen? ⟨w.heap.size,1,none⟩=false:=by simp[World.frozen?,j]
 have P:b.frozen? ⟨w.heap.size,2,none⟩=false:=by simp[World.frozen?,j]
 have B:w.heap.size<b.heap.size:=by simp at A;omega
 go_wp2;have l:(((b.setCell ⟨w.heap.size,0,none⟩ (.string s)).setCell ⟨w.heap.size,1,none⟩ (.string t)).setCell ⟨w.heap.size,2,none⟩ (.pointer (some ⟨f,0,none⟩))).heap[w.heap.size]?=some (.cells #[.string s,.string t,.pointer (some ⟨f,0,none⟩)] 129 (0,0)):=by
  have C:=cA b w.heap.size 0 _ _ (.string s) j;have D:=cA _ w.heap.size 1 _ _ (.string t) C;have E:=cA _ w.heap.size 2 _ _ (.pointer (some ⟨f,0,none⟩)) D;exact E
 have u:TI w (((b.setCell ⟨w.heap.size,0,none⟩ (.string s)).setCell ⟨w.heap.size,1,none⟩ (.string t)).setCell ⟨w.heap.size,2,none⟩ (.pointer (some ⟨f,0,none⟩))):=(((((cj _ w).alloc TG _).trans (y.mono (by simp))).setCell TG _).setCell TG _).setCell TG _;generalize (((b.setCell ⟨w.heap.size,0,none⟩ (.string s)).setCell ⟨w.heap.size,1,none⟩ (.string t)).setCell ⟨w.heap.size,2,none⟩ (.pointer (some ⟨f,0,none⟩)))=W at l u ⊢;have F:W.cell? ⟨w.heap.size,0,none⟩=some (.string s):=by rw[cn W _ 0 _ _ _ l];rfl
 have G:W.cell? ⟨w.heap.size,1,none⟩=some (.string t):=by rw[cn W _ 1 _ _ _ l];rfl
 have H:W.cell? ⟨w.heap.size,2,none⟩=some (.pointer (some ⟨f,0,none⟩)):=by rw[cn W _ 2 _ _ _ l];rfl
 exact cr (v := .agg #[.string s,.string t,.pointer (some ⟨f,0,none⟩)]) (by simp[results,results145,go_sem,F,G,H,eC]) rfl ⟨rfl,u⟩
theorem EZ(D:Nat)(d:Dv)(n:Int)(w:TJ)(h:lB w D d):TL prog 35 #[.pointer (some ⟨D,0,none⟩),Z Y n] w λe j=>e=.returned (.tuple #[])/\oN w j D d { d with q:=n }:=by
 obtain⟨l,_⟩:=h.cell;have m:=h.fz 0;have b:=cP h;clear h;go_enter func35,ntmps35;go_wp2;exact cw (cu rfl _ _ _) rfl ⟨rfl,(cO b).set (AK w D 0 _) (by rw[cA w D 0 _ _ _ (cO b).blk];rfl) rfl rfl rfl rfl rfl rfl rfl rfl rfl⟩
end Pk
namespace Pk
open Go.RowKit
open Sd (Tb)
open Dk
variable {C:Array TK}{w:TJ}{D o:Nat}{tD:TypeId}{v:TK}
theorem _root_.Go.Proofs.YtgkkdpegcieakaaGreatDoor.Dk.dK.mj{w':TJ}{v':TK}{b:Sd.Tb}{j:Obj}(h:dK (w.alloc j) w' D o C tD v v' b): dK w w' D o C tD v v' b:=⟨h.blk,h.row,((Kept.refl w _).alloc j).trans h.kept,by
  rcases h.new with e|⟨g,e,l⟩
  .exact Or.inl e
  .exact Or.inr ⟨g,e,by simp at l;omega⟩⟩
theorem _root_.Go.Proofs.YtgkkdpegcieakaaGreatDoor.Dk.dK.wZ{w':TJ}{v':TK}{b:Sd.Tb}(h:dK w.drew w' D o C tD v v' b): dK w w' D o C tD v v' b:=⟨h.blk,h.row,((Kept.refl w _).drew).trans h.kept,h.new⟩
theorem BW(D:Nat)(C:Array TK)(tD:TypeId)(v:TK)(T:Sd.Tb)(y:TM)(f:Nat)(w:TJ)(h:eV w D 1 C tD v T)(j:v.ownBlock≠some D)(z:(y.toList == [])=false):TL prog 57 #[.agg #[.string ⟨#[]⟩,.string y,eC f],.pointer (some ⟨D,1,none⟩)] w λe r=>e=.returned (.tuple #[])/\∃l,dK w r D 1 C tD v l (Sd.jZ T y f):=by
 have b:=λo=>Dh D 1 C tD v T y f (w.alloc o) (h.below ((cj _ w).alloc TG o)) j
 unfold eC at b ⊢;clear h;go_enter func57,ntmps57;go_wp2_with fail;refine(b _).mono ?_;rintro e w1 ⟨rfl,l,m⟩;have u:=cP (dK.mj m);clear m b;go_wp2;exact cw (cu rfl _ _ _) rfl ⟨rfl,l,cO u⟩
theorem info_change:(prog.info? 129).map (λi=>(i.zero,i.size,i.bytes))=some (some (.agg #[.string ⟨#[]⟩,.string ⟨#[]⟩,.pointer none]),3,40):=by kernel_rfl
variable {w1:TJ}{T1:Sd.Tb}{v1:TK}
theorem _root_.Go.Proofs.YtgkkdpegcieakaaGreatDoor.Dk.dK.comp{m:TJ}{b:TK}{r:Sd.Tb}(h1:dK w w1 D o C tD v v1 T1)(h2:dK w1 m D o (C.setIfInBounds o v1) tD v1 b r): dK w m D o C tD v b r:=by
 refine⟨?_,h2.row,⟨h2.kept.os.trans h1.kept.os,h2.kept.tape.trans h1.kept.tape,h2.kept.output.trans h1.kept.output,cx h1.kept.size h2.kept.size,λk u j=>(h2.kept.block k (dT u h1.kept.size) ⟨j.1,λe=>?_⟩).trans (h1.kept.block k u j)⟩,?_⟩
 .rw[h2.blk];have e:(C.setIfInBounds o v1).setIfInBounds o b=C.setIfInBounds o b:=by simp
  rw[e]
 .rcases h1.new with l|⟨g,l,y⟩
  .rw[l] at e;exact j.2 e
  .rw[l] at e;have:g=k:=iP e;omega
 .rcases h2.new with e|⟨g,e,y⟩
  .rw[e];exact h1.new
  .exact Or.inr ⟨g,e,cx h1.kept.size y⟩
theorem _root_.Go.Proofs.YtgkkdpegcieakaaGreatDoor.Dk.dK.inside(h:dK w w1 D o C tD v v1 T1)(b:o<C.size)(e:Sd.da T1)(j:T1.length<=1000000000): eV w1 D o (C.setIfInBounds o v1) tD v1 T1:=⟨h.blk,by simp[b],h.row,e,j⟩
theorem _root_.Go.Proofs.YtgkkdpegcieakaaGreatDoor.Dk.dK.Qz(h:dK w w1 D o C tD v v1 T1)(b:v.ownBlock≠some D)(l:D<w.heap.size): v1.ownBlock≠some D:=λe=>by
 rcases h.new with j|⟨g,j,m⟩
 .rw[j] at e;exact b e
 .rw[j] at e;have:g=D:=iP e;omega
theorem Aq(D:Nat)(C:Array TK)(tD:TypeId)(v:TK)(T:Sd.Tb)(x y:TM)(f:Nat)(w:TJ)(h:eV w D 1 C tD v T)(l:v.ownBlock≠some D)(M:(x.toList == [])=false)(N:(y.toList == [])=false):TL prog 57 #[.agg #[.string x,.string y,eC f],.pointer (some ⟨D,1,none⟩)] w λe E=>e=.returned (.tuple #[])/\∃F,dK w E D 1 C tD v F (Sd.jZ (Sd.gM T x) y f):=by
 have z:1<C.size:=(cB.1 h.at_).1;have m:=λo=>kd D 1 C tD v T x (w.alloc o) (h.below ((cj _ w).alloc TG o)) l
 have G:D<w.heap.size:=ps h.blk;have A:∀g,v.ownBlock=some g->g<w.heap.size:=λg H=>jT h.row H
 have I:=Sd.iy h.mg x;have J:(Sd.gM T x).length<=1000000000:=cx (Sd.uW T x) h.len;unfold eC;clear h;go_enter func57,ntmps57;go_wp2_with fail;refine(m _).mono ?_;rintro e w1 ⟨rfl,v1,r⟩;have j:w1.heap[w.heap.size]?=some (.cells #[.string x,.string y,.pointer (some ⟨f,0,none⟩)] 129 (0,0)):=by
  refine(r.kept.block w.heap.size (by simp) ⟨by omega,λe=>?_⟩).trans (ct w _);have:=A _ e;omega
 have O:w1.cell? ⟨w.heap.size,1,none⟩=some (.string y):=by rw[cn w1 _ 1 _ _ _ j];rfl
 have P:w1.cell? ⟨w.heap.size,2,none⟩=some (.pointer (some ⟨f,0,none⟩)):=by rw[cn w1 _ 2 _ _ _ j];rfl
 have b:=Dh D 1 _ tD v1 (Sd.gM T x) y f w1 (r.inside z I J) (r.Qz l (by simp;omega));unfold eC at b;have K:=cP (dK.mj r);clear r m j;go_wp2_with fail;refine b.mono ?_;rintro e Q ⟨rfl,L,u⟩;have B:=cP ((cO K).comp u);clear b u;go_wp2;exact cw (cu rfl _ _ _) rfl ⟨rfl,L,cO B⟩
theorem CM(D:Nat)(C:Array TK)(tD:TypeId)(v:TK)(T:Sd.Tb)(x:TM)(w:TJ)(h:eV w D 1 C tD v T)(l:v.ownBlock≠some D)(E:(x.toList == [])=false):TL prog 57 #[.agg #[.string x,.string ⟨#[]⟩,.pointer none],.pointer (some ⟨D,1,none⟩)] w λe u=>e=.returned (.tuple #[])/\∃y,dK w u D 1 C tD v y (Sd.gM T x):=by
 have b:=λo=>kd D 1 C tD v T x (w.alloc o) (h.below ((cj _ w).alloc TG o)) l
 have z:D<w.heap.size:=ps h.blk;have m:∀g,v.ownBlock=some g->g<w.heap.size:=λg A=>jT h.row A
 clear h;go_enter func57,ntmps57;go_wp2_with fail;refine(b _).mono ?_;rintro e w1 ⟨rfl,v1,r⟩;have j:w1.heap[w.heap.size]?=some (.cells #[.string x,.string ⟨#[]⟩,.pointer none] 129 (0,0)):=by
  refine(r.kept.block w.heap.size (by simp) ⟨by omega,λe=>?_⟩).trans (ct w _);have:=m _ e;omega
 have F:w1.cell? ⟨w.heap.size,1,none⟩=some (.string ⟨#[]⟩):=by rw[cn w1 _ 1 _ _ _ j];rfl
 have B:=cP (dK.mj r);clear r b j;go_wp2;exact cw (cu rfl _ _ _) rfl ⟨rfl,v1,cO B⟩
def nW(T:Sd.Tb)(c:Ch):Sd.Tb:=match c.file with
 |some f=>if c.gone.size=0 then Sd.jZ T c.name f else Sd.jZ (Sd.gM T c.gone) c.name f
 |none=>Sd.gM T c.gone
theorem ne_nil{s:TM}(h:¬s=Rd.e0):(s.toList == [])=false:=by
 apply Tv.2;intro e;have b:s.toList=[]:=eq_of_beq e;rw[B3] at b;exact h (Bk (OV.1 b))
theorem Kw{s:TM}(h:¬s=Rd.e0):¬s.size=0:=λe=>h (Bk (Array.eq_empty_of_size_eq_zero e))
def M5(c:Ch):Prop:=(∃f,c.file=some f/\¬c.name=Rd.e0)\/(c.file=none/\c.name=Rd.e0/\¬c.gone=Rd.e0)
theorem vH(D:Nat)(c:Ch)(r:M5 c)(W:TJ)(C:Array TK)(v:TK)(T:Sd.Tb)(h:eV W D 1 C 64 v T)(b:v.ownBlock≠some D):TL prog 57 #[.agg #[.string c.gone,.string c.name,eX c.file],.pointer (some ⟨D,1,none⟩)] W λe u=>e=.returned (.tuple #[])/\∃y,dK W u D 1 C 64 v y (nW T c):=by
 rcases r with ⟨f,j,m⟩|⟨j,m,l⟩
 .by_cases l:c.gone=Rd.e0
  .have e:nW T c=Sd.jZ T c.name f:=by unfold nW;rw[j,l];rfl
   rw[e,j,l];exact BW D C _ v T c.name f W h b (ne_nil m)
  .have e:nW T c=Sd.jZ (Sd.gM T c.gone) c.name f:=by
    unfold nW;rw[j]
    show (if c.gone.size=0 then _ else _)=_
    rw[cd (Kw l)]
   rw[e,j];exact Aq D C _ v T c.gone c.name f W h b (ne_nil l) (ne_nil m)
 .have e:nW T c=Sd.gM T c.gone:=by unfold nW;rw[j]
  rw[e,j,m];exact CM D C _ v T c.gone W h b (ne_nil l)
theorem uX{T:Tb}(h:Sd.da T)(c:Ch):Sd.da (nW T c):=by
 unfold nW;split
 .split
  .exact Sd.jw h _ _
  .exact Sd.jw (Sd.iy h _) _ _
 .exact Sd.iy h _
theorem D5{T:Tb}{c:Ch}{p:TM × Nat}(h:p∈nW T c):p∈T\/c.file=some p.2:=by
 unfold nW at h;split at h
 .rename_i f b;split at h
  .rcases Sd.uL h with e|e
   .right;rw[b,e]
   .exact Or.inl e
  .rcases Sd.uL h with e|e
   .right;rw[b,e]
   .exact Or.inl (Sd.At e)
 .exact Or.inl (Sd.At h)
theorem lB.Iq{d:Dv}(h:lB w D d)(b:d.names.length<=1000000000): eV w D 1 d.cells 64 d.vn d.names:=⟨h.blk,rfl,h.rn,h.sn,b⟩
theorem F9{W:TJ}{d:Dv}{y r:TK}{B:Tb}{l:List Ch}(hd:lB w D d)(u:dK w w1 D 1 d.cells 64 d.vn y B)(P:Sd.da B)(E:Kept w1 W (λk=>k≠D/\d.vc.ownBlock≠some k))(z:W.heap[D]?=some (.cells ({ d with vn:=y,vc:=r }:Dv).cells 64 (0,0)))(G:W.ownsRow 0 129 3 r l.length (gW l))(H:∀k,r.ownBlock=some k->d.vc.ownBlock=some k\/w.heap.size<=k)(I:∀p,p∈B->p.2∈d.fs)(J:∀c,c∈l->∀f,c.file=some f->f∈d.fs):oN w W D d { d with names:=B,dS:=l,vn:=y,vc:=r }:=by
 have K:Kept w W (λk=>k≠D/\d.vn.ownBlock≠some k/\d.vc.ownBlock≠some k):=(u.kept.mono (λk _ h=>⟨h.1,h.2.1⟩)).trans (E.mono (λk _ h=>⟨h.1,h.2.2⟩));refine⟨⟨z,?_,?_,G,P,hd.ss,?_,λf A=>?_,hd.fap,I,hd.N5,J⟩,K.mono (λk _ h=>⟨λe=>h (Or.inl e),λe=>h (Or.inr (Or.inl e)),λe=>h (Or.inr (Or.inr (Or.inr (Or.inl e))))⟩),λk E=>?_⟩
 .refine du u.row E (λg m=>⟨?_,λe=>?_⟩)
  .obtain⟨c,j,_⟩:=cZ u.row m;exact cY j u.blk (by decide)
  .have L:=jT hd.rc e;obtain⟨M,b,_⟩:=cZ hd.rc e;obtain⟨c,j,_⟩:=cZ u.row m;have Q:=u.kept.block g L ⟨cY b hd.blk (by decide),λR=>by obtain⟨S,N,_⟩:=cZ hd.rn R;exact cY N b (by decide) rfl⟩;rw[Q] at j;exact cY j b (by decide) rfl
 .refine du hd.rs K (λg m=>?_);obtain⟨c,j,_⟩:=cZ hd.rs m;exact⟨cY j hd.blk (by decide),λe=>hd.apart g e m,λe=>by obtain⟨M,b,_⟩:=cZ hd.rc e;exact cY b j (by decide) rfl⟩
 .intro g m e;rcases u.new with h|⟨F,h,O⟩
  .have m:d.vn.ownBlock=some g:=h ▸ m;exact hd.apart g m e
  .have m:some F=some g:=h ▸ m;have:F=g:=iP m;have:=jT hd.rs e;omega
 .refine(hd.files f A).kept K ⟨cY (hd.files f A).blk hd.blk (by decide),λe=>?_,λe=>?_⟩ (λg m=>?_)
  .obtain⟨c,j,_⟩:=cZ hd.rn e;exact cY j (hd.files f A).blk (by decide) rfl
  .obtain⟨c,j,_⟩:=cZ hd.rc e;exact cY j (hd.files f A).blk (by decide) rfl
  .obtain⟨c,j⟩:=(hd.files f A).own m;refine⟨cY j hd.blk (by decide),λe=>?_,λe=>?_⟩
   .obtain⟨M,b,_⟩:=cZ hd.rn e;exact cY b j (by decide) rfl
   .obtain⟨M,b,_⟩:=cZ hd.rc e;exact cY b j (by decide) rfl
 .rcases E with e|e|e|e|e
  .exact Or.inl (Or.inl e)
  .rcases u.new with h|⟨F,h,O⟩
   .exact Or.inl (Or.inr (Or.inl (h ▸ e)))
   .have e:some F=some k:=h ▸ e;have:=iP e;exact Or.inr (by omega)
  .exact Or.inl (Or.inr (Or.inr (Or.inl e)))
  .rcases H k e with e|e
   .exact Or.inl (Or.inr (Or.inr (Or.inr (Or.inl e))))
   .exact Or.inr e
  .exact Or.inl (Or.inr (Or.inr (Or.inr (Or.inr e))))
def MU(D:Nat)(d:Dv)(c:Ch)(w:TJ)(e:Ending)(w':TJ):Prop:=e=.returned (.tuple #[])/\∃b j,oN w w' D d { d with names:=nW d.names c,dS:=d.dS++[c],vn:=b,vc:=j }
theorem qs(D:Nat)(d:Dv)(c:Ch)(w:TJ)(h:lB w D d)(hl:d.dS.length<=1000000000)(U:d.names.length<=1000000000)(B:M5 c)(E:∀f,c.file=some f->f∈d.fs):TL prog 134 #[.pointer (some ⟨D,0,none⟩),.agg #[.string c.gone,.string c.name,eX c.file]] w (MU D d c w):=by
 obtain⟨i0,hi,V,X,q⟩:=fa info_change;have HD:=cP h;have M:∀W,TI w W->TL prog 57 #[.agg #[.string c.gone,.string c.name,eX c.file],.pointer (some ⟨D,1,none⟩)] W λe w'=>e=.returned (.tuple #[])/\∃v',dK W w' D 1 d.cells 64 d.vn v' (nW d.names c):=λW s=>vH D c B W _ _ _ ((h.below s).Iq U) ((h.below s).Qh (h.below s).rn (by decide))
 have hT:=uX h.sn c;have N:∀p,p∈nW d.names c->p.2∈d.fs:=λp hp=>by
  rcases D5 hp with e|e
  .exact h.FG p e
  .exact E _ e
 have O:∀x,x∈d.dS++[c]->∀f,x.file=some f->f∈d.fs:=λx hx f hf=>by
  rcases cJ.1 hx with e|e
  .exact h.MV x e f hf
  .rw[eh.1 e] at hf;exact E f hf
 have aa:=cP N;have ab:=cP O;have HT:=cP hT;clear h N O hT B E;obtain⟨p,ho⟩:∃p,eX c.file=.pointer p:=by cases c.file <;> exact⟨_,rfl⟩
 have HO:=cP ho;rw[ho] at M ⊢;clear ho;have ad:∀o,TI w (w.alloc o).drew:=λo=>((cj _ w).alloc TG o).drew
 go_enter func134,ntmps134;go_wp2_with fail
 go_region_with (go_at_call 57;refine(M _ (ad _)).mono ?_;rintro e w1 ⟨rfl,F,G⟩)
 have hd:=cO HD;have H:=dK.mj (dK.wZ G);have ae:D<w.heap.size:=cS hd.blk;have P:Kept (w.alloc (.cells #[.string c.gone,.string c.name,.pointer p] 129)).drew w1 (λk=>k≠D/\d.vn.ownBlock≠some k):=G.kept;have z:w1.heap[w.heap.size]?=some (.cells #[.string c.gone,.string c.name,.pointer p] 129 (0,0)):=(P.block w.heap.size (by simp) ⟨by omega,λe=>by obtain⟨af,B,_⟩:=cZ hd.rn e;have:=cS B;omega⟩).trans (ct w _);have b0:w1.cell? ⟨w.heap.size,0,none⟩=some (.string c.gone):=by rw[cn w1 _ 0 _ _ _ z];rfl
 have b1:w1.cell? ⟨w.heap.size,1,none⟩=some (.string c.name):=by rw[cn w1 _ 1 _ _ _ z];rfl
 have b2:w1.cell? ⟨w.heap.size,2,none⟩=some (.pointer p):=by rw[cn w1 _ 2 _ _ _ z];rfl
 have b:w1.heap[D]?=some (.cells ({ d with vn:=F }:Dv).cells 64 (0,0)):=H.blk;have d3:w1.cell? ⟨D,3,none⟩=some d.vc:=by rw[cn w1 _ 3 _ _ _ b];rfl
 have f3:w1.frozen? ⟨D,3,none⟩=false:=by simp[World.frozen?,b]
 have l:w1.ownsRow 0 129 3 d.vc d.dS.length (gW d.dS):=du hd.rc H.kept (λg hg=>by
  obtain⟨af,B,_⟩:=cZ hd.rc hg;refine⟨cY B hd.blk (by decide),λe=>?_⟩;obtain⟨an,m,_⟩:=cZ hd.rn e;exact cY B m (by decide) rfl)
 obtain⟨pc,cc,I⟩:=jS l;have J:=cP I;rw[I] at d3 l;have Q:D<w1.heap.size:=cS b;have ao:=cP b;have ag:=cP l;have HN:=cP H;have u:some D≠(Value.slice pc d.dS.length cc).ownBlock:=λe=>by
  obtain⟨c',m,_⟩:=cZ l e.symm;exact cY m b (by decide) rfl
 have K:=cP (λ(o:Obj)=>(show ((w1.alloc o).drew).heap[D]?=_ from (cN w1 o D Q).trans b));clear b l H G hd P z ae I;go_wp2_with fail
 go_region_law ((refine step_append_lies _ (by rfl) _ _ _ (by rfl) 0 129 i0 _ 3 40 underlying59 hi V X q rfl (by omega) (.slice pc d.dS.length cc) _ _ (by rfl) (((cO ag).alloc _).drew) ⟨w1.heap.size,0,none⟩ 1 1 [.string c.gone,.string c.name,.pointer p] (by rfl) (by rfl) (Rh (cs := #[.string c.gone,.string c.name,.pointer p]) (t:=129) (fr:=(0,0)) (ct w1 _)) (by simp[Value.oneCell']) (by omega) (by unfold maxLen;omega) (by omega) (cy _) (w1.heap.size+1) (by simp) ?_;intro L R A y j ah aq;have ar:A.cell? ⟨D,3,none⟩=some (.slice pc d.dS.length cc):=(j.cell_far ⟨D,3,none⟩ (by simp;omega) u).trans (by rw[cn _ D 3 _ _ _ ((cO K) _),<-cO J];rfl);have au:A.frozen? ⟨D,3,none⟩=false:=(j.frozen_far ⟨D,3,none⟩ (by simp;omega) u).trans (by have hh:=(cO K) (.cells #[.string c.gone,.string c.name,.pointer p] 129);simp only[World.frozen?,hh];rfl)))
 all_goals
  have hd:=cO HD;have H:=cO HN;have av:D<A.heap.size:=by have:=j.size;simp at this;omega
  have S:A.heap[D]?=some (.cells ({ d with vn:=F }:Dv).cells 64 (0,0)):=(j.block D (by simp;omega) u).trans ((cO K) _);have hK:Kept w1 (A.setCell ⟨D,3,none⟩ (.slice (some ⟨L,0,none⟩) (d.dS.length+1) R)) (λk=>k≠D/\d.vc.ownBlock≠some k):=by
   rw[cO J];exact((((Kept.refl w1 _).alloc _).drew).trans (Kept.grown j (λk T=>T.2))).setCell (λT=>T.1 rfl) _
  have ai:(A.setCell ⟨D,3,none⟩ (.slice (some ⟨L,0,none⟩) (d.dS.length+1) R)).heap[D]?=some (.cells ({ d with vn:=F,vc := .slice (some ⟨L,0,none⟩) (d.dS.length+1) R }:Dv).cells 64 (0,0)):=by
   rw[cA A D 3 _ _ _ S];rfl
  have aj:gW (d.dS++[c])=gW d.dS++[.string c.gone,.string c.name,.pointer p]:=by
   rw[<-cO HO];simp[gW]
  have ak:(A.setCell ⟨D,3,none⟩ (.slice (some ⟨L,0,none⟩) (d.dS.length+1) R)).ownsRow 0 129 3 (.slice (some ⟨L,0,none⟩) (d.dS.length+1) R) (d.dS++[c]).length (gW (d.dS++[c])):=by
   rw[aj,lN];refine v8 y (λe=>?_) _;obtain⟨c',m,_⟩:=cZ y e;exact cY m S (by decide) rfl
  have r:=F9 hd H (cO HT) hK ai ak (λk T=>by
   have e:L=k:=by simpa [Value.ownBlock] using T
   subst e;rcases ah with e|e
   .left;rw[cO J];exact e
   .right;have:=H.kept.size;omega) (cO aa) (cO ab)
  exact cw (cu rfl _ _ _) rfl ⟨rfl,_,_,r⟩
end Pk
namespace Pk
open Go.RowKit
open Sd (Tb)
open Dk
variable {α:Type}
def ox(g:Nat->α)(f:Nat)(x : α): Nat->α:=λk=>if k=f then x else g k
theorem eB(g:Nat->α)(f:Nat)(x : α): ox g f x f=x:=cg rfl
theorem eo(g:Nat->α){f k:Nat}(x : α)(h:k≠f): ox g f x k=g k:=cd h
def Dv.pS(d:Dv)(f:Nat):Dv:={ d with fs:=d.fs++[f],F:=ox d.F f ⟨⟨#[]⟩,0⟩,vb:=ox d.vb f (.slice none 0 0) }
def Dv.BZ(d:Dv)(c:Ch)(b e:TK):Dv:={ d with names:=nW d.names c,dS:=d.dS++[c],vn:=b,vc:=e }
theorem jO(d:Dv):d.dU.names=d.names/\d.dU.safe=d.safe/\d.dU.dS=d.dS/\d.dU.fs=d.fs/\d.dU.F=d.F/\d.dU.q=d.q:=by
 unfold Dv.dU;split <;> exact⟨rfl,rfl,rfl,rfl,rfl,rfl⟩
theorem lB.pS{w y:TJ}{D:Nat}{d:Dv}(h:lB w D d)(hb:TI w y){f:Nat}(H:w.heap.size<=f)(A:y.heap[f]?=some (.cells #[.slice none 0 0,Z Y 0] 127 (0,0))):oN w y D d (d.pS f):=by
 have l:=h.below hb;have b:∀k,k∈d.fs->k≠f:=λk m e=>by have:=cS (h.files k m).blk;omega
 refine⟨⟨l.blk,l.rn,l.rs,l.rc,l.sn,l.ss,l.apart,λk m=>?_,λk z m B C g r=>?_,λp E=>Fv _ (h.FG p E),λp E=>Fv _ (h.N5 p E),λc G x j=>Fv _ (h.MV c G x j)⟩,Kept.below hb _,λk m=>?_⟩
 .show rP y k (ox d.F f ⟨⟨#[]⟩,0⟩ k) (ox d.vb f (.slice none 0 0) k)
  rcases cJ.1 m with e|e
  .rw[eo _ _ (b k e),eo _ _ (b k e)];exact l.files k e
  .have e:k=f:=eh.1 e;subst e;rw[eB,eB];exact⟨A,fc _ _ _ _⟩
 .have r:(ox d.vb f (.slice none 0 0) k).ownBlock=some g:=r
  show (ox d.vb f (.slice none 0 0) z).ownBlock≠some g
  rcases cJ.1 m with e|e
  .rcases cJ.1 B with u|u
   .rw[eo _ _ (b k e)] at r;rw[eo _ _ (b z u)];exact h.fap k z e u C g r
   .have u:z=f:=eh.1 u;subst u;rw[eB];simp[Value.ownBlock]
  .have e:k=f:=eh.1 e;subst e;rw[eB] at r;simp[Value.ownBlock] at r
 .rcases m with e|e|e|e|⟨x,j,e⟩
  .exact Or.inl (Or.inl e)
  .exact Or.inl (Or.inr (Or.inl e))
  .exact Or.inl (Or.inr (Or.inr (Or.inl e)))
  .exact Or.inl (Or.inr (Or.inr (Or.inr (Or.inl e))))
  .rcases cJ.1 j with j|j
   .refine Or.inl (Or.inr (Or.inr (Or.inr (Or.inr ⟨x,j,?_⟩))));rcases e with e|e
    .exact Or.inl e
    .have e:(ox d.vb f (.slice none 0 0) x).ownBlock=some k:=e;rw[eo _ _ (b x j)] at e;exact Or.inr e
   .have j:x=f:=eh.1 j;subst j;rcases e with e|e
    .exact Or.inr (by omega)
    .have e:(ox d.vb x (.slice none 0 0) x).ownBlock=some k:=e;rw[eB] at e;simp[Value.ownBlock] at e
def Dv.zP(d:Dv)(y:TM):Option Nat:=if d.up=true then Sd.jB d.names y else none
def Dv.pO(d:Dv)(y:TM):Int:=if d.up=true then (if Sd.dw d.names y=true then 0 else 11) else 9
theorem mA(D:Nat)(d:Dv)(y:TM)(w:TJ)(h:lB w D d)(H:d.names.length<=1000000000):TL prog 133 #[.pointer (some ⟨D,0,none⟩),.string y] w λe I=>e=.returned (.tuple #[eX (d.zP y),Z Y (d.pO y)])/\oN w I D d d.dU:=by
 have l:=lZ D d w h;cases j:d.up with
 |false =>
  have r:Hid (d.zP y=none):=by show _=_;unfold Dv.zP;rw[j];rfl
  have u:Hid (d.pO y=9):=by show _=_;unfold Dv.pO;rw[j];rfl
  rw[j] at l;rw[cO r,cO u];unfold eX;clear h j r u;go_enter func133,ntmps133;go_wp2_with fail;refine l.mono ?_;rintro e B ⟨rfl,m,_⟩;have z:=cP m;clear m l;go_wp2;go_ret2;exact⟨rfl,cO z⟩
 |true =>
  have C:=(jO d).1;have b:=λW (J:lB W D d.dU)=>yT D 1 _ _ d.dU.vn d.dU.names y W (J.Iq (by rw[C];exact H))
  rw[C] at b;rw[j] at l;cases hh:Sd.dw d.names y with
  |true =>
   have u:Hid (d.pO y=0):=by show _=_;unfold Dv.pO;rw[j,hh];rfl
   obtain⟨_,_,G⟩:=Sd.gn h.sn hh;obtain⟨f,E⟩:∃f,Sd.jB d.names y=some f:=⟨_,G⟩
   have r:Hid (d.zP y=some f):=by show _=_;unfold Dv.zP;rw[j,E];rfl
   rw[hh,E] at b;rw[cO r,cO u];clear h j r u hh G E C;unfold eX eC at b ⊢;go_enter func133,ntmps133;go_wp2_with fail;refine l.mono ?_;rintro e B ⟨rfl,m,_⟩;have A:=b B m.at';have z:=cP m;clear m l b;go_wp2_with fail;refine A.mono ?_;rintro e K ⟨rfl,F⟩;clear A;go_wp2;go_ret2;exact⟨rfl,(cO z).trans (oN.below (cO z).at' F)⟩
  |false =>
   have u:Hid (d.pO y=11):=by show _=_;unfold Dv.pO;rw[j,hh];rfl
   have r:Hid (d.zP y=none):=by show _=_;unfold Dv.zP;rw[j,Sd.me hh];rfl
   rw[hh,Sd.me hh] at b;rw[cO r,cO u];clear h j r u hh C;unfold eX at b ⊢;go_enter func133,ntmps133;go_wp2_with fail;refine l.mono ?_;rintro e B ⟨rfl,m,_⟩;have A:=b B m.at';have z:=cP m;clear m l b;go_wp2_with fail;refine A.mono ?_;rintro e K ⟨rfl,F⟩;clear A;go_wp2;go_ret2;exact⟨rfl,(cO z).trans (oN.below (cO z).at' F)⟩
def sO(w:TJ)(D:Nat)(d:Dv)(n:Int)(P:Dv->Prop)(e:Ending)(w':TJ):Prop:=e=.returned (Z Y n)/\∃b,P b/\oN w w' D d b
def Dv.MJ(d:Dv)(y:TM):Int:=if d.up=false then 9 else if Rd.nH y=true then 0 else 10
def Dv.Kl(d:Dv)(y:TM)(N:Nat)(j:Dv):Prop:=if d.up=true/\Rd.nH y=true then ∃f b e,N<=f/\j=(d.dU.pS f).BZ ⟨Rd.e0,y,some f⟩ b e else j=d.dU
theorem C3(D:Nat)(d:Dv)(y:TM)(w:TJ)(h:lB w D d)(T:d.dS.length<=1000000000)(I:d.names.length<=1000000000)(U:y.size<=1048576):TL prog 140 #[.pointer (some ⟨D,0,none⟩),.string y] w (sO w D d (d.MJ y) (d.Kl y w.heap.size)):=by
 have j:=lZ D d w h;obtain⟨Q,_,R,_⟩:=jO d;cases b:d.up with
 |false =>
  have z:Hid (d.MJ y=9):=by show _=_;unfold Dv.MJ;rw[b];rfl
  have E:Hid (d.Kl y w.heap.size d.dU):=by show Dv.Kl _ _ _ _;unfold Dv.Kl;rw[cd (by rw[b];simp)]
  rw[b] at j;rw[cO z];clear h b z;go_enter func140,ntmps140;go_wp2_with fail;refine j.mono ?_;rintro e J ⟨rfl,A,_⟩;have C:=cP A;clear A j;go_wp2;go_ret;exact⟨rfl,_,cO E,cO C⟩
 |true =>
  rw[b] at j;cases u:Rd.nH y with
  |false =>
   have z:Hid (d.MJ y=10):=by show _=_;unfold Dv.MJ;rw[b,u];rfl
   have E:Hid (d.Kl y w.heap.size d.dU):=by show Dv.Kl _ _ _ _;unfold Dv.Kl;rw[cd (by rw[u];simp)]
   have B:∀W,TL prog 143 #[.string y] W λe K=>e=.returned (.bool false)/\K=W:=λW=>by have:=gi y W;rw[u] at this;exact this
   rw[cO z];clear h b z u;go_enter func140,ntmps140;go_wp2_with fail;refine j.mono ?_;rintro e J ⟨rfl,A,_⟩;have C:=cP A;clear A j;go_wp2_with fail;refine(B _).mono ?_;rintro e L ⟨rfl,M⟩;obtain rfl:=M.symm;go_wp2;go_ret;exact⟨rfl,_,cO E,cO C⟩
  |true =>
   have z:Hid (d.MJ y=0):=by show _=_;unfold Dv.MJ;rw[b,u];rfl
   have E:Hid (∀f l m,w.heap.size<=f->d.Kl y w.heap.size ((d.dU.pS f).BZ ⟨Rd.e0,y,some f⟩ l m)):=λf l m H=>by unfold Dv.Kl;rw[cg ⟨b,u⟩];exact⟨f,l,m,H,rfl⟩
   have B:∀W,TL prog 143 #[.string y] W λe K=>e=.returned (.bool true)/\K=W:=λW=>by have:=gi y W;rw[u] at this;exact this
   have N:=cP (Rd.oD u);rw[cO z];clear h b z u;go_enter func140,ntmps140;go_wp2_with fail;refine j.mono ?_;rintro e J ⟨rfl,A,V⟩;have C:=cP A;clear A j;go_wp2_with fail;refine(B _).mono ?_;rintro e L ⟨rfl,M⟩;obtain rfl:=M.symm;go_wp2_with fail;refine(Ac y J U).mono ?_;rintro e L ⟨f,rfl,F,H,G⟩;have O:=(cO C).at'.pS F H G;have r:=qs D (d.dU.pS f) ⟨Rd.e0,y,some f⟩ L O.at' (by show d.dU.dS.length<=_;rw[R];exact T) (by show d.dU.names.length<=_;rw[Q];exact I) (Or.inl ⟨f,rfl,cO N⟩) (λx X=>by cases X;exact Bh _ (eh.2 rfl));unfold eX at r;have q:=cP ((cO C).trans O);have P:w.heap.size<=f:=by omega
   clear O F G H Q R;go_wp2_with fail;refine r.mono ?_;rintro e s ⟨rfl,l,m,S⟩;have t:=cP S;clear r S;go_wp2;go_ret;exact⟨rfl,_,(cO E) f l m P,(cO q).trans (cO t)⟩
end Pk
namespace Pk
open Go.RowKit
open Sd (Tb)
open Dk
def Dv.OG(d:Dv)(y:TM)(j:Dv):Prop:=if d.pO y=0 then ∃b e,j=d.dU.BZ ⟨y,Rd.e0,none⟩ b e else j=d.dU
theorem kd(D:Nat)(d:Dv)(y:TM)(w:TJ)(h:lB w D d)(M:d.dS.length<=1000000000)(u:d.names.length<=1000000000)(N:y.size<=1048576)(z:Sd.dw d.names Rd.e0=false):TL prog 91 #[.pointer (some ⟨D,0,none⟩),.string y] w (sO w D d (d.pO y) (d.OG y)):=by
 have b:=mA D d y w h u;obtain⟨J,_,K,_⟩:=jO d;by_cases r:d.pO y=0
 .have G:Hid (∀j l,d.OG y (d.dU.BZ ⟨y,Rd.e0,none⟩ j l)):=λj l=>by unfold Dv.OG;rw[cg r];exact⟨j,l,rfl⟩
  have A:¬y=Rd.e0:=λe=>by
   unfold Dv.pO at r;rw[e,z] at r;split at r
   .rw[cd (by decide)] at r;omega
   .omega
  have O:=cP A;rw[r] at b ⊢;obtain⟨p,B⟩:∃p,eX (d.zP y)=.pointer p:=by cases d.zP y <;> exact⟨_,rfl⟩
  rw[B] at b;clear h r B A z;go_enter func91,ntmps91;go_wp2_with fail;refine b.mono ?_;rintro e P ⟨rfl,C⟩;have F:=cP C;clear b C;go_wp2_with fail;refine(A8 y _ N).mono ?_;rintro e Q ⟨rfl,E⟩;have H:=(cO F).trans (oN.below (cO F).at' E);have m:=qs D d.dU ⟨y,Rd.e0,none⟩ Q H.at' (by rw[K];exact M) (by rw[J];exact u) (Or.inr ⟨rfl,rfl,cO O⟩) (λx R=>by cases R);unfold eX at m;have S:=cP H;clear H E J K;go_wp2_with fail;refine m.mono ?_;rintro e w3 ⟨rfl,j,l,L⟩;have T:=cP L;clear m L;go_wp2;go_ret;exact⟨rfl,_,(cO G) j l,(cO S).trans (cO T)⟩
 .have G:Hid (d.OG y d.dU):=by show Dv.OG _ _ _;unfold Dv.OG;rw[cd r]
  obtain⟨n,I⟩:∃n,d.pO y=n:=⟨_,rfl⟩
  have U:(n == 0)=false:=cC.2 (I ▸ r);rw[I] at b ⊢;obtain⟨p,B⟩:∃p,eX (d.zP y)=.pointer p:=by cases d.zP y <;> exact⟨_,rfl⟩
  rw[B] at b;clear h r B I;go_enter func91,ntmps91;go_wp2_with fail;refine b.mono ?_;rintro e P ⟨rfl,C⟩;have F:=cP C;clear b C;go_wp2;go_ret;exact⟨rfl,_,cO G,cO F⟩
def Dv.Io(d:Dv)(x y:TM):Int:=if d.up=true/\Rd.nH y=false then 10 else d.pO x
def Dv.BJ(d:Dv)(x y:TM)(j:Dv):Prop:=if d.Io x y=0/\¬x=y then ∃f b e,Sd.jB d.names x=some f/\j=d.dU.BZ ⟨x,y,some f⟩ b e else j=d.dU
theorem BT(D:Nat)(d:Dv)(x y:TM)(w:TJ)(h:lB w D d)(g:d.dS.length<=1000000000)(Q:d.names.length<=1000000000)(hx:x.size<=1048576)(hy:y.size<=1048576):TL prog 95 #[.pointer (some ⟨D,0,none⟩),.string x,.string y] w (sO w D d (d.Io x y) (d.BJ x y)):=by
 have j:=lZ D d w h;obtain⟨U,_,t,s,_⟩:=jO d;cases l:d.up with
 |false =>
  have m:d.Io x y=9:=by unfold Dv.Io Dv.pO;rw[l];simp
  have I:Hid (d.BJ x y d.dU):=by show Dv.BJ _ _ _ _;unfold Dv.BJ;rw[cd (by rw[m];simp)]
  rw[l] at j;rw[m];clear h l m;go_enter func95,ntmps95;go_wp2_with fail;refine j.mono ?_;rintro e J ⟨rfl,r,_⟩;have C:=cP r;clear r j;go_wp2;go_ret;exact⟨rfl,_,cO I,cO C⟩
 |true =>
  rw[l] at j;have A:∀W,TL prog 143 #[.string y] W λe w'=>e=.returned (.bool (Rd.nH y))/\w'=W:=λW=>gi y W
  cases K:Rd.nH y with
  |false =>
   have m:d.Io x y=10:=by unfold Dv.Io;rw[l,K];simp
   have I:Hid (d.BJ x y d.dU):=by show Dv.BJ _ _ _ _;unfold Dv.BJ;rw[cd (by rw[m];simp)]
   rw[K] at A;rw[m];clear h l K m;go_enter func95,ntmps95;go_wp2_with fail;refine j.mono ?_;rintro e J ⟨rfl,r,_⟩;have C:=cP r;clear r j;go_wp2_with fail;refine(A _).mono ?_;rintro e P ⟨rfl,N⟩;obtain rfl:=N.symm;go_wp2;go_ret;exact⟨rfl,_,cO I,cO C⟩
  |true =>
   have V:=cP (Rd.oD K);have b:=λW (hW:lB W D d.dU)=>yT D 1 _ _ d.dU.vn d.dU.names x W (hW.Iq (by rw[U];exact Q))
   rw[U] at b;have O:d.Io x y=if Sd.dw d.names x=true then 0 else 11:=by unfold Dv.Io Dv.pO;rw[cd (by rw[K];simp),l];simp
   rw[K] at A;cases E:Sd.dw d.names x with
   |false =>
    rw[E] at O;have m:d.Io x y=11:=by rw[O];simp
    have I:Hid (d.BJ x y d.dU):=by show Dv.BJ _ _ _ _;unfold Dv.BJ;rw[cd (by rw[m];simp)]
    rw[E,Sd.me E] at b;unfold eX at b;rw[m];clear h l K m O E;go_enter func95,ntmps95;go_wp2_with fail;refine j.mono ?_;rintro e J ⟨rfl,r,_⟩;have L:=b J r.at';have C:=cP r;clear r j b;go_wp2_with fail;refine(A _).mono ?_;rintro e P ⟨rfl,N⟩;obtain rfl:=N.symm;go_wp2_with fail;refine L.mono ?_;rintro e P ⟨rfl,u⟩;clear L;go_wp2;go_ret;exact⟨rfl,_,cO I,(cO C).trans (oN.below (cO C).at' u)⟩
   |true =>
    rw[E] at O;have m:d.Io x y=0:=by rw[O];simp
    obtain⟨_,_,X⟩:=Sd.gn h.sn E;obtain⟨f,R⟩:∃f,Sd.jB d.names x=some f:=⟨_,X⟩
    have HM:=cP (h.FG (x,f) ((Sd.fO h.sn).1 R));rw[E,R] at b;unfold eX eC at b;by_cases B:x=y
    .have I:Hid (d.BJ x y d.dU):=by show Dv.BJ _ _ _ _;unfold Dv.BJ;rw[cd (λE=>E.2 B)]
     have g1:=Rd.OL B;rw[m];clear h l K m O E X R B;go_enter func95,ntmps95;go_wp2_with fail;refine j.mono ?_;rintro e J ⟨rfl,r,_⟩;have L:=b J r.at';have C:=cP r;clear r j b;go_wp2_with fail;refine(A _).mono ?_;rintro e P ⟨rfl,N⟩;obtain rfl:=N.symm;go_wp2_with fail;refine L.mono ?_;rintro e P ⟨rfl,u⟩;clear L;go_wp2;go_ret;exact⟨rfl,_,cO I,(cO C).trans (oN.below (cO C).at' u)⟩
    .have I:Hid (∀F G,d.BJ x y (d.dU.BZ ⟨x,y,some f⟩ F G)):=λF G=>by unfold Dv.BJ;rw[cg ⟨m,B⟩];exact⟨f,F,G,R,rfl⟩
     have g1:=Rd.OH B;rw[m];clear h l K m O E X R B;go_enter func95,ntmps95;go_wp2_with fail;refine j.mono ?_;rintro e J ⟨rfl,r,_⟩;have L:=b J r.at';have C:=cP r;clear r j b;go_wp2_with fail;refine(A _).mono ?_;rintro e P ⟨rfl,N⟩;obtain rfl:=N.symm;go_wp2_with fail;refine L.mono ?_;rintro e P ⟨rfl,u⟩;clear L;have S:=λW=>zM x y f W hx hy
     unfold eC at S;go_wp2_with fail;refine(S _).mono ?_;rintro e p ⟨rfl,T⟩;have M:TI J p:=u.trans (T.mono u.size);have q:=(cO C).trans (oN.below (cO C).at' M);have H:=qs D d.dU ⟨x,y,some f⟩ p q.at' (by rw[t];exact g) (by rw[U];exact Q) (Or.inl ⟨f,rfl,cO V⟩) (λz hz=>by cases hz;rw[s];exact cO HM);unfold eX eC at H;have H2:=cP q;clear q u T M U t s;go_wp2_with fail;refine H.mono ?_;rintro e w3 ⟨rfl,F,G,o⟩;have H3:=cP o;clear H o;go_wp2;go_ret;exact⟨rfl,_,(cO I) F G,(cO H2).trans (cO H3)⟩
end Pk
namespace Pk
open Go.RowKit
open Sd (Tb)
open Dk
def vG(D:Nat)(d:Dv)(T:Tb)(w:TJ)(e:Ending)(w':TJ):Prop:=e=.returned (.tuple #[])/\∃b,w'.heap[D]?=some (.cells ({ d with vs:=b,vc := .slice none 0 0 }:Dv).cells 64 (0,0))/\
  w'.ownsRow 0 194 2 b T.length (Dk.cQ T)/\Kept w w' (λk=>k≠D)/\∀g,b.ownBlock=some g->w.heap.size<=g
theorem rC(D:Nat)(d:Dv)(T:Tb)(w:TJ)(h:eV w D 1 d.cells 64 d.vn T)(z:∃p n c,d.vs=.slice p n c)(A:∃p n c,d.vc=.slice p n c):TL prog 60 #[.pointer (some ⟨D,0,none⟩)] w (vG D d T w):=by
 have m:=BO D 1 d.cells 64 d.vn T w h;obtain⟨I,J,K,y⟩:=z;obtain⟨L,M,N,E⟩:=A;have B:=cP h.blk;clear h;go_enter func60,ntmps60;go_wp2_with fail;refine m.mono ?_;rintro e j ⟨V,rfl,r,u,l⟩;have b:=(u.block D (cS (cO B))).trans (cO B);have O:j.cell? ⟨D,2,none⟩=some (.slice I J K):=by rw[cn j _ 2 _ _ _ b,<-y];rfl
 have P:j.cell? ⟨D,3,none⟩=some (.slice L M N):=by rw[cn j _ 3 _ _ _ b,<-E];rfl
 have Q:j.frozen? ⟨D,2,none⟩=false:=by simp[World.frozen?,b]
 have R:j.frozen? ⟨D,3,none⟩=false:=by simp[World.frozen?,b]
 obtain⟨F,G,rfl⟩:=jS r;have H:=cP (And.intro r (And.intro u (And.intro l b)));clear m r u l b y E;go_wp2;obtain⟨r,u,l,b⟩:=cO H;have S:D<w.heap.size:=cS (cO B);refine cw (cu rfl _ _ _) rfl ⟨rfl,.slice F T.length G,?_,?_,?_,l⟩
 .have U:=cA j D 2 _ _ (.slice F T.length G) b;have y:=cA _ D 3 _ _ (.slice none 0 0) U;exact y
 .refine v8 (v8 r (λe=>?_) _) (λe=>?_) _
  .have:=l _ e;simp at this;omega
  .have:=l _ e;simp at this;omega
 .exact((Kept.below u _).setCell (λC=>C rfl) _).setCell (λC=>C rfl) _
def Dv.sy(d:Dv)(b:TK):Dv:={ d with safe:=d.names,dS:=[],vs:=b,vc := .slice none 0 0 }
variable {d:Dv}{w:TJ}
theorem lB.sy{w':TJ}{D:Nat}{b:TK}(hd:lB w D d)(l:w'.heap[D]?=some (.cells ({ d with vs:=b,vc := .slice none 0 0 }:Dv).cells 64 (0,0)))(m:w'.ownsRow 0 194 2 b d.names.length (Dk.cQ d.names))(r:Kept w w' (λk=>k≠D))(z:∀g,b.ownBlock=some g->w.heap.size<=g): oN w w' D d (d.sy b):=by
 refine⟨⟨l,?_,m,fc _ _ _ _,hd.sn,hd.sn,λg u e=>?_,λf A=>?_,hd.fap,hd.FG,hd.FG,λc y=>(by cases y)⟩,r.mono (λk _ h e=>h (Or.inl e)),λk r=>?_⟩
 .refine du hd.rn r (λg u=>?_);obtain⟨c,y,_⟩:=cZ hd.rn u;exact cY y hd.blk (by decide)
 .have:=z g e;have:=jT hd.rn u;omega
 .have j:=hd.files f A;refine j.kept r (cY j.blk hd.blk (by decide)) (λg u=>?_);obtain⟨c,y⟩:=j.own u;exact cY y hd.blk (by decide)
 .rcases r with e|e|e|e|e
  .exact Or.inl (Or.inl e)
  .exact Or.inl (Or.inr (Or.inl e))
  .exact Or.inr (z k e)
  .simp[Dv.sy,Value.ownBlock] at e
  .exact Or.inl (Or.inr (Or.inr (Or.inr (Or.inr e))))
def Dv.OU(d:Dv):Int:=if d.up=true then 0 else 9
def Dv.Nu(d:Dv)(e:Dv):Prop:=if d.up=true then ∃b,e=d.dU.sy b else e=d.dU
theorem AQ(D:Nat)(d:Dv)(w:TJ)(h:lB w D d)(I:d.names.length<=1000000000):TL prog 92 #[.pointer (some ⟨D,0,none⟩)] w (sO w D d d.OU d.Nu):=by
 have m:=lZ D d w h;obtain⟨F,_,J,_⟩:=jO d;cases b:d.up with
 |false =>
  have y:d.OU=9:=by unfold Dv.OU;rw[b];rfl
  have E:Hid (d.Nu d.dU):=by show Dv.Nu _ _;unfold Dv.Nu;rw[b];rfl
  rw[b] at m;rw[y];clear h b y;go_enter func92,ntmps92;go_wp2_with fail;refine m.mono ?_;rintro e G ⟨rfl,u,_⟩;have A:=cP u;clear u m;go_wp2;go_ret;exact⟨rfl,_,cO E,cO A⟩
 |true =>
  have y:d.OU=0:=by unfold Dv.OU;rw[b];rfl
  have E:Hid (∀r,d.Nu (d.dU.sy r)):=λr=>by unfold Dv.Nu;rw[cg b];exact⟨r,rfl⟩
  rw[b] at m;rw[y];clear h b y;go_enter func92,ntmps92;go_wp2_with fail;refine m.mono ?_;rintro e G ⟨rfl,u,_⟩;have hd:=u.at';have z:=rC D d.dU d.dU.names G (hd.Iq (by rw[F];exact I)) (by obtain⟨p,c,e⟩:=jS hd.rs;exact⟨p,_,c,e⟩) (by obtain⟨p,c,e⟩:=jS hd.rc;exact⟨p,_,c,e⟩);have A:=cP u;clear u m hd F J;go_wp2_with fail;refine z.mono ?_;rintro e K ⟨rfl,r,j,l,B,C⟩;have H:=cP (And.intro j (And.intro l (And.intro B C)));clear z j l B C;go_wp2;go_ret;obtain⟨j,l,B,C⟩:=cO H;exact⟨rfl,_,(cO E) r,(cO A).trans ((cO A).at'.sy j l B C)⟩
def Dv.nD(d:Dv)(f:Nat)(X:Fl)(v':TK):Dv:={ d with F:=ox d.F f X,vb:=ox d.vb f v' }
theorem xF{W:TJ}{D f:Nat}{X:Fl}{v':TK}(hd:lB w D d)(E:f∈d.fs)(J:Kept w W (λk=>k≠f/\(d.vb f).ownBlock≠some k))(G:rP W f X v')(S:v'.ownBlock=(d.vb f).ownBlock\/∃g,v'.ownBlock=some g/\w.heap.size<=g):oN w W D d (d.nD f X v'):=by
 have r:=hd.files f E;have L:=cS hd.blk;have u:∀g e c,w.heap[g]?=some (.cells c e (0,0))->e≠127->e≠5->(g≠f/\(d.vb f).ownBlock≠some g):=λg e c b M N=>by
  refine⟨cY b r.blk M,λy=>?_⟩;obtain⟨q,O⟩:=r.own y;exact cY b O N rfl
 have l:∀{e size n:Nat} {v:TK} {T:List TK},w.ownsRow 0 e size v n T->e≠127->e≠5->W.ownsRow 0 e size v n T:=λh M N=>du h J (λg b=>by
  obtain⟨c,B,_⟩:=cZ h b;exact u g _ c B M N)
 have z:∀k,k∈d.fs->k≠f->∀g,v'.ownBlock=some g->(d.vb k).ownBlock≠some g:=λk H P g b e=>by
  rcases S with h|⟨U,h,Q⟩
  .rw[h] at b;exact hd.fap f k E H (Ne.symm P) g b e
  .rw[h] at b;have:U=g:=iP b;obtain⟨c,B⟩:=(hd.files k H).own e;have:=cS B;omega
 refine⟨⟨?_,l hd.rn (by decide) (by decide),l hd.rs (by decide) (by decide),l hd.rc (by decide) (by decide),hd.sn,hd.ss,hd.apart,λk j=>?_,λk K j A C g b=>?_,hd.FG,hd.N5,hd.MV⟩,J.mono (λk _ V=>⟨λe=>V (Or.inr (Or.inr (Or.inr (Or.inr ⟨f,E,Or.inl e⟩)))),λe=>V (Or.inr (Or.inr (Or.inr (Or.inr ⟨f,E,Or.inr e⟩))))⟩),λk R=>?_⟩
 .have:=u D _ _ hd.blk (by decide) (by decide);rw[J.block D L this];exact hd.blk
 .show rP W k (ox d.F f X k) (ox d.vb f v' k)
  by_cases e:k=f
  .subst e;rw[eB,eB];exact G
  .rw[eo _ _ e,eo _ _ e];refine(hd.files k j).kept J ⟨e,λy=>?_⟩ (λg b=>⟨?_,λy=>hd.fap k f j E e g b y⟩)
   .obtain⟨c,B⟩:=r.own y;exact cY B (hd.files k j).blk (by decide) rfl
   .obtain⟨c,B⟩:=(hd.files k j).own b;exact cY B r.blk (by decide)
 .have m:(ox d.vb f v' k).ownBlock=some g:=b;clear b
  show (ox d.vb f v' K).ownBlock≠some g
  by_cases e:k=f
  .subst e;rw[eB] at m;rw[eo _ _ (Ne.symm C)];exact z K A (Ne.symm C) g m
  .rw[eo _ _ e] at m;by_cases y:K=f
   .subst y;rw[eB];exact λh=>z k j e g h m
   .rw[eo _ _ y];exact hd.fap k K j A C g m
 .rcases R with e|e|e|e|⟨x,G,e⟩
  .exact Or.inl (Or.inl e)
  .exact Or.inl (Or.inr (Or.inl e))
  .exact Or.inl (Or.inr (Or.inr (Or.inl e)))
  .exact Or.inl (Or.inr (Or.inr (Or.inr (Or.inl e))))
  .by_cases I:x=f
   .subst I;rcases e with e|e
    .exact Or.inl (Or.inr (Or.inr (Or.inr (Or.inr ⟨x,G,Or.inl e⟩))))
    .have e:(ox d.vb x v' x).ownBlock=some k:=e;rw[eB] at e;rcases S with h|⟨U,h,Q⟩
     .exact Or.inl (Or.inr (Or.inr (Or.inr (Or.inr ⟨x,G,Or.inr (h ▸ e)⟩))))
     .rw[h] at e;have:=iP e;exact Or.inr (by omega)
   .refine Or.inl (Or.inr (Or.inr (Or.inr (Or.inr ⟨x,G,?_⟩))));rcases e with e|e
    .exact Or.inl e
    .have e:(ox d.vb f v' x).ownBlock=some k:=e;rw[eo _ _ I] at e;exact Or.inr e
theorem sW{f:Nat}{X:Fl}{v:TK}(h:rP w f X v)(n:Nat): rP (w.setCell ⟨f,1,none⟩ (Z Y n)) f ⟨X.bytes,n⟩ v:=⟨by rw[cA w f 1 _ _ _ h.blk];rfl,v8 h.row (λe=>by
  obtain⟨c,b⟩:=h.own e;exact cY b h.blk (by decide) rfl) _⟩
theorem As{y:TM}(j:Sd.da d.names)(h:d.pO y=0): ∃f,Sd.jB d.names y=some f/\d.zP y=some f:=by
 unfold Dv.pO at h;cases b:d.up with
 |false=>rw[b] at h;simp at h
 |true =>
  cases hh:Sd.dw d.names y with
  |false=>rw[b,hh] at h;simp at h
  |true =>
   obtain⟨_,_,e⟩:=Sd.gn j hh;refine⟨_,e,?_⟩;unfold Dv.zP;rw[cg b,e]
def Dv.NN(d:Dv)(y:TM)(b:Dv):Prop:=if d.pO y=0 then ∃f e,Sd.jB d.names y=some f/\b=d.dU.nD f ⟨(d.F f).bytes,(d.F f).bytes.size⟩ e else b=d.dU
theorem IX(D:Nat)(d:Dv)(y:TM)(w:TJ)(h:lB w D d)(S:d.names.length<=1000000000):TL prog 142 #[.pointer (some ⟨D,0,none⟩),.string y] w (sO w D d (d.pO y) (d.NN y)):=by
 have b:=mA D d y w h S;obtain⟨T,_,U,N,O,_⟩:=jO d;by_cases u:d.pO y=0
 .obtain⟨f,H,C⟩:=As h.sn u;have I:Hid (∀J,d.NN y (d.dU.nD f ⟨(d.F f).bytes,(d.F f).bytes.size⟩ J)):=λJ=>by unfold Dv.NN;rw[cg u];exact⟨f,J,H,rfl⟩
  have V:=cP (h.FG (y,f) ((Sd.fO h.sn).1 H));rw[C,u] at b;rw[u];unfold eX eC at b;clear h u H C;go_enter func142,ntmps142;go_wp2_with fail;refine b.mono ?_;rintro e z ⟨rfl,A⟩;have E:=A.at';have B:f∈d.dU.fs:=by rw[N];exact cO V
  have l:=E.files f B;rw[O] at l;have m:=l.row;obtain⟨p,K,P⟩:=jS m;have j:=l.blk;rw[P] at j;have o:z.cell? ⟨f,0,none⟩=some (.slice p (d.F f).bytes.size K):=by rw[cn z _ 0 _ _ _ j];rfl
  have g:z.cell? ⟨f,1,none⟩=some (Z Y (d.F f).safe):=by rw[cn z _ 1 _ _ _ j];rfl
  have f1:z.frozen? ⟨f,1,none⟩=false:=by simp[World.frozen?,j]
  have hm:(d.F f).bytes.size<=9223372036854775807:=by
   rcases m.2 with ⟨_,u⟩|⟨_,Q,_,_,_,_,A,X,_⟩
   .omega
   .unfold maxLen at X;omega
  have q:=cP l;have G:=cP A;have L:=cP B;clear E l m P j A b B O N T U;go_wp2;go_ret;have r:=xF (cO G).at' (cO L) (W:=z.setCell ⟨f,1,none⟩ (Z Y ((d.F f).bytes.size:Nat))) ((Kept.refl z _).setCell (λt=>t.1 rfl) _) (sW (cO q) (d.F f).bytes.size) (Or.inl rfl);exact⟨rfl,_,(cO I) _,(cO G).trans r⟩
 .have I:Hid (d.NN y d.dU):=by show Dv.NN _ _ _;unfold Dv.NN;rw[cd u]
  obtain⟨n,M⟩:∃n,d.pO y=n:=⟨_,rfl⟩
  have s:(n == 0)=false:=cC.2 (M ▸ u);rw[M] at b ⊢;obtain⟨p,R⟩:∃p,eX (d.zP y)=.pointer p:=by cases d.zP y <;> exact⟨_,rfl⟩
  rw[R] at b;clear h u R M;go_enter func142,ntmps142;go_wp2_with fail;refine b.mono ?_;rintro e z ⟨rfl,A⟩;have G:=cP A;clear b A;go_wp2;go_ret;exact⟨rfl,_,cO I,cO G⟩
end Pk
end Go.Proofs.YtgkkdpegcieakaaGreatDoor
