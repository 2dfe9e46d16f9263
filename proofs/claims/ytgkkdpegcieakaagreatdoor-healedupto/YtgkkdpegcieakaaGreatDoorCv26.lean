import Derived.Test.YtgkkdpegcieakaaGreatDoorCv24
import Derived.Test.YtgkkdpegcieakaaGreatDoorCv25
set_option linter.all false
set_option maxRecDepth 100000
set_option maxHeartbeats 0
namespace Go.Proofs.YtgkkdpegcieakaaGreatDoor
open Go.Proofs.Tryz
open Value renaming int→Z,slice→J,string→H,pointer→V9,bool→Wa,tuple→Wb,agg→Wc
open Ending renaming returned→Wd
open Obj renaming cells→D
open Option renaming none→U,some→S
open Bool renaming true→We,false→Wg
open Or renaming inl→Wh,inr→Wi
open List renaming length→Wn
open _root_.Array renaming size→N
open World renaming alloc→Wl,setCell→Wm,heap→E
open IntKind renaming i64→Y
open Go renaming World→V5,Value→V6,Calls→V7
open Go.RowKit
namespace Ru
open Sp (nI gW bt dt dw okB)
def fN(w : V5): Prop := Lib.TabIs prog w "internal/strconv.uint64pow10" .u64 Lib.pow10Tab
theorem tn: prog.globalNamed "internal/strconv.uint64pow10" = S 6 := by kernel_rfl
variable {w:V5}
theorem fN.keep{w':V5}(h:fN w)(b:w'.heap[6]?=w.heap[6]?): fN w':=by
 unfold fN Lib.TabIs World.var? at *;rw[tn] at *;simp only[Option.bind_some] at *;rw[b];exact h
theorem fN.lt(h:fN w): 6<N (E w):=by
 unfold fN Lib.TabIs World.var? at h;rw[tn] at h;simp only[Option.bind_some] at h;by_cases b:6<N (E w)
 .exact b
 .rw[Array.getElem?_eq_none (by omega)] at h;cases h
theorem fN.below{w':V5}(h:fN w)(hb:V4 w w'): fN w':=h.keep (hb.block _ h.lt)
theorem rU(n:Nat)(nn:Int)(w:V5)(j:nn=(n:Int))(h:n<=9223372036854775807)(ht:fN w):V7 prog 48 #[Z Y nn] w λe b=>e=Wd (H (dc n))/\V4 w b:=by
 subst j;refine(Tryz.strconv_Itoa (n:Int) (by omega) (by omega) w ht).mono ?_;rintro e b ⟨rfl,k,os,rfl⟩;refine⟨?_,?_⟩
 .unfold dc Lib.itoa;rw[Tf (by omega),Vr]
 .have l:V4 w (w.drewN k):=⟨O,O,O,Te _,λ_ _=>O⟩
  refine l.trans ⟨O,O,O,?_,λi hi=>?_⟩
  .show (w.drewN k).heap.size<=((w.drewN k).heap++os).size
   simp
  .show ((w.drewN k).heap++os)[i]?=_
   rw[Array.getElem?_append_left (by simpa using hi)]
theorem kL(n:Nat)(w:V5)(h:n<=9999999999)(ht:fN w):V7 prog 79 #[Z Y n] w λe m=>e=Wd (H (nm 99 n))/\V4 w m:=by
 have u:=AO n h;have l:∀a b:UInt8,(⟨#[a,b]⟩:V8).size=2:=λa b=>O
 have y:¬9223372036854775807<(⟨#[99,46]⟩:V8).size+(dc n).size:=by rw[l];omega
 have r:=cU (rU n _ w O (by omega) ht);clear ht l;go_enter func79,ntmps79;go_wp2_with fail;refine(cT r).mono ?_;rintro e z ⟨rfl,j⟩;go_wp2;go_ret;exact⟨O,j⟩
theorem iS(n:Nat)(w:V5)(h:n<=9999999999)(ht:fN w):V7 prog 81 #[Z Y n] w λe m=>e=Wd (H (nm 109 n))/\V4 w m:=by
 have u:=AO n h;have l:∀a b:UInt8,(⟨#[a,b]⟩:V8).size=2:=λa b=>O
 have y:¬9223372036854775807<(⟨#[109,46]⟩:V8).size+(dc n).size:=by rw[l];omega
 have r:=cU (rU n _ w O (by omega) ht);clear ht l;go_enter func81,ntmps81;go_wp2_with fail;refine(cT r).mono ?_;rintro e z ⟨rfl,j⟩;go_wp2;go_ret;exact⟨O,j⟩
theorem kO(n:Nat)(w:V5)(h:n<=9999999999)(ht:fN w):V7 prog 82 #[Z Y n] w λe m=>e=Wd (H (nm 118 n))/\V4 w m:=by
 have u:=AO n h;have l:∀a b:UInt8,(⟨#[a,b]⟩:V8).size=2:=λa b=>O
 have y:¬9223372036854775807<(⟨#[118,46]⟩:V8).size+(dc n).size:=by rw[l];omega
 have r:=cU (rU n _ w O (by omega) ht);clear ht l;go_enter func82,ntmps82;go_wp2_with fail;refine(cT r).mono ?_;rintro e z ⟨rfl,j⟩;go_wp2;go_ret;exact⟨O,j⟩
theorem n7(s:V8)(n:Nat)(w:V5)(z:s.size<=140737488355328)(B:n<=100000):V7 prog 118 #[H s,Z Y n] w λe A=>e=Wd (Wb #[H (dw s),Wa (okB s&&decide ((dw s).size=n))])/\V4 w A:=by
 have j:=cU (GO s w z);generalize dw s=p at j ⊢;cases m:okB s with
 |false =>
  rw[m] at j;clear m;go_enter func118,ntmps118;go_wp2_with fail;refine(cT j).mono ?_;rintro e y ⟨rfl,b⟩;go_wp2;go_ret2;exact⟨O,b⟩
 |true =>
  rw[m] at j;clear m;by_cases l:p.size=n
  .have r:Hid (decide (p.size=n)=We):=TU l;have u:((p.size:Int) == (n:Int))=We:=by rw[l];simp
   clear l;go_enter func118,ntmps118;go_wp2_with fail;refine(cT j).mono ?_;rintro e y ⟨rfl,b⟩;go_wp2;go_ret2;exact⟨by rw[cT r];rfl,b⟩
  .have r:Hid (decide (p.size=n)=Wg):=TE l;have u:((p.size:Int) == (n:Int))=Wg:=Tt.2 (by omega);clear l;go_enter func118,ntmps118;go_wp2_with fail;refine(cT j).mono ?_;rintro e y ⟨rfl,b⟩;go_wp2;go_ret2;exact⟨by rw[cT r];rfl,b⟩
end Ru
namespace Ru
open Dk (Kept dy)
open Pk (di cX dh)
structure pU (w:V5) (M n:Nat) (l:List UInt8) (v:V6):Prop where
 b:w.heap[M]?=S (D #[v] 251 (0,0))
 o:w.ownsRow 0 5 1 v n (Cv l)
variable {M n:Nat}{w:V5}{v:V6}{l:List UInt8}
theorem pU.lt(h:pU w M n l v): M<N (E w):=cX h.b
theorem pU.ne(h:pU w M n l v): v.ownBlock≠S M:=λe=>by
 obtain⟨x,j,_⟩:=di h.o e;exact dh j h.b (by decide) O
theorem pU.c(h:pU w M n l v): w.cell? ⟨M,0,U⟩=S v:=by rw[Ti w M 0 _ _ _ h.b];rfl
theorem pU.z(h:pU w M n l v): w.frozen? ⟨M,0,U⟩=Wg:=by simp[World.frozen?,h.b]
variable {w':V5}
theorem pU.kept{e:Nat->Prop}(h:pU w M n l v)(j:Kept w w' e)(h1:e M)(h2:∀g,v.ownBlock=S g->e g): pU w' M n l v:=⟨(j.block M h.lt h1).trans h.b,dy h.o j h2⟩
theorem pU.below(h:pU w M n l v)(hb:V4 w w'): pU w' M n l v:=h.kept (Kept.below hb (λ_=>True)) trivial (λ_ _=>trivial)
theorem pU.new: pU (w.alloc (D #[J U 0 0] 251)) (N (E w)) 0 [] (J U 0 0):=⟨Tk w _,TH _ _ _ _⟩
structure oo (M:Nat) (v:V6) (w:V5) (v':V6) (w':V5):Prop where
 kept:Kept w w' (λi=>i≠M/\v.ownBlock≠S i)
 row:v'.ownBlock=v.ownBlock\/∃g,v'.ownBlock=S g/\(N (E w))<=g
theorem oo.refl(M:Nat)(v:V6)(w:V5):oo M v w v w:=⟨Kept.refl _ _,Wh O⟩
theorem oo.step{u j:V6}{m z:V5}(h:oo M v w u m)(b:Kept m z (λi=>i≠M/\u.ownBlock≠S i))(A:j.ownBlock=u.ownBlock\/∃g,j.ownBlock=S g/\(N (E m))<=g): oo M v w j z:=by
 have B:=h.kept.size;refine⟨⟨b.os.trans h.kept.os,b.tape.trans h.kept.tape,b.output.trans h.kept.output,To B b.size,λi hi y=>?_⟩,?_⟩
 .rw[b.block i (by omega) ⟨y.1,λe=>?_⟩,h.kept.block i hi y];rcases h.row with r|⟨g,r,C⟩
  .rw[r] at e;exact y.2 e
  .rw[r] at e;injection e with e;omega
 .rcases A with r|⟨g,r,C⟩
  .rw[r];exact h.row
  .exact Wi ⟨g,r,by omega⟩
theorem oo.other{A:Nat}{v' u:V6}(h:oo M v w v' w')(hu:pU w A n l u)(z:∃k x,pU w M k x v)(C:A≠M)(m:∀g,v.ownBlock=S g->u.ownBlock≠S g): pU w' A n l u/\∀g,v'.ownBlock=S g->u.ownBlock≠S g:=by
 obtain⟨k,x,z⟩:=z;refine⟨hu.kept h.kept ⟨C,λe=>?_⟩ (λg j=>⟨λe=>?_,λe=>m g e j⟩),λg j e=>?_⟩
 .obtain⟨y,B,_⟩:=di z.o e;exact dh B hu.b (by decide) O
 .subst e;obtain⟨y,B,_⟩:=di hu.o j;exact dh B z.b (by decide) O
 .rcases h.row with r|⟨q,r,F⟩
  .rw[r] at j;exact m g j e
  .rw[r] at j;injection j with j;have:=(hu.o.lt g e).2;omega
theorem jK(M n k B:Nat)(l:List UInt8)(v:V6)(w:V5)(h:pU w M B l v)(hs:B+k<=100000000)(hk:k<=8)(hn:n<18446744073709551616)(kk:Int)(T:kk=(k:Int)):V7 prog 137 #[V9 (S ⟨M,0,U⟩),Z .u64 n,Z Y kk] w λe w'=>e=Wd (Wb #[])/\∃v',pU w' M (B+k) (l++Sp.l9 n k) v'/\oo M v w v' w':=by
 subst T;obtain⟨i0,hi,V,W,X⟩:=TN info_u8;have H0:=cU h;clear h;go_enter func137,ntmps137;go_wp2
 go_loopw [1,7] (λnn q wr=>∃(j:Nat) (u:V6),j<=k/\q=Z Y j/\nn=Z .u64 ((n/256 ^ j:Nat):Int)/\Hid (pU wr M (B+j) (l++Sp.l9 n j) u)/\Hid (oo M v w u wr)) (λ_ q _=>k-(intOf q).toNat)
 case atStart=>exact⟨0,v,by omega,rfl,by simp,cU (by rw[Sp.l9,UJ];exact cT H0),oo.refl _ _ _⟩
 case round =>
  obtain⟨j,u,hj,rfl,rfl,s,HB⟩:=hrel;have C:=cT s;have c0:=C.c;have z0:=C.z;have ag:=C.lt;have hm:n/256 ^ j<18446744073709551616:=Nat.lt_of_le_of_lt (Nat.div_le_self _ _) hn;have aa:=cU (yl n j);generalize R:n/256 ^ j=G at hm;replace R:=cU R;by_cases c:j<k
  .have c1:(j:Int)<(k:Int):=by omega
   have r:S M≠u.ownBlock:=λe=>C.ne e.symm
   go_wp2_with (first
    | (at_builtin;go_must (refine eV _ O (.tmp 13) (.tmp 16) 125 O 0 5 i0 _ 1 1 underlying125 hi V W X O (by decide) _ _ _ O (C.o.alloc _) ⟨N (E wr),0,U⟩ 1 1 (by omega) [Z .u8 ((G:Int)%256)] O O (Vv (cs := #[Z .u8 ((G:Int)%256)]) (t:=5) (fr:=(0,0)) (Tk wr _)) (by simp[Value.oneCell']) (by unfold maxLen;omega) (by omega) (by omega) ?_))
    |go_in)
   intro K w3 y m L _;have hA:V4 wr (wr.alloc (D #[Z .u8 ((G:Int)%256)] 5)):=V3.alloc V2 _;have A:=C.below hA;have q0:w3.cell? ⟨M,0,U⟩=S u:=(m.cell_far ⟨M,0,U⟩ (by simp;omega) r).trans A.c;have q1:w3.frozen? ⟨M,0,U⟩=Wg:=(m.frozen_far ⟨M,0,U⟩ (by simp;omega) r).trans A.z;have F:w3.heap[M]?=S (D #[u] 251 (0,0)):=(m.block M (by simp;omega) r).trans A.b;have e4:Cv (l++Sp.l9 n (j+1))=Cv (l++Sp.l9 n j)++[Z .u8 ((G:Int)%256)]:=by
    rw[Sp.l9,<-T4,Ew (l++Sp.l9 n j)]
    congr 1
    show [Z .u8 ((UInt8.ofNat (n/256 ^ j%256)).toNat:Int)]=_
    rw[<-cT aa,cT R]
    rfl
   have P:pU (w3.setCell ⟨M,0,U⟩ K) M (B+(j+1)) (l++Sp.l9 n (j+1)) K:=by
    refine⟨by rw[Tq w3 M 0 _ _ _ F];rfl,?_⟩;rw[show B+(j+1)=B+j+1 by omega,e4];refine Ui y (λe=>?_) _;obtain⟨x,hx,_⟩:=di y e;exact dh hx F (by decide) O
   have Q:oo M v w K (w3.setCell ⟨M,0,U⟩ K):=by
    have ab:Kept wr (wr.alloc (D #[Z .u8 ((G:Int)%256)] 5)) (λi=>i≠M/\u.ownBlock≠S i):=Kept.below hA _;refine(cT HB).step ((ab.trans (Kept.grown m (λk hk=>hk.2))).setCell (p:=⟨M,0,U⟩) (λh=>h.1 O) K) ?_
    .rcases L with e|e
     .exact Wh e
     .exact Wi ⟨_,e,by simp⟩
   obtain⟨g3,af,rfl⟩:∃g I,K=J (S ⟨g,0,U⟩) (B+j+1) I:=by
    rcases y.2 with ⟨_,ah⟩|⟨g,I,ai,hv,_⟩
    .omega
    .exact⟨g,I,hv⟩
   have ad:=cU P;have ae:=cU Q;clear P Q A y m C s HB r L F hA e4;go_wp2;go_roundw
   case rel =>
    refine⟨j+1,_,by omega,by go_num,?_,ad,ae⟩;rw[Nat.pow_succ,<-Nat.div_div_eq_div_mul,cT R];go_num
   case measure=>simp[intOf];omega
  .have e:j=k:=by omega
   subst e;have c1:¬(j:Int)<(j:Int):=by omega
   go_wp2;exact Tm (Tl O _ _ _) O ⟨O,u,cT s,cT HB⟩
end Ru
namespace Ru
open Sp (nI l9 gW bt dt dw okB)
open Dk (Kept dy)
open Pk (di cX dh)
variable {w:V5}{v:V6}
theorem JP{B n:Nat}{l:List UInt8}(o:w.ownsRow B 5 1 v n (Cv l))(e:0<n): (convert 125 9 v).run prog w=.ok (H ⟨l.toArray⟩) w:=by
 have u:(Cv l).length=n*1:=o.1;simp only[Cv,Ue,Nat.mul_one] at u;rcases o.2 with ⟨_,A⟩|⟨g,j,y,rfl,_⟩
 .omega
 .rw[<-FA];refine run_convert_bytes_arg _ 125 5 underlying125 underlying5 g 0 _ j (l.map λb=>(b.toNat:Int)) (by simp only[Ue];omega) (λi hi=>?_) 9 underlying9;have m:i<Wn l:=by omega
  have r:=o.cells (g:=g) O i (Z .u8 ((l.map λb=>(b.toNat:Int)).getD i 0)) (by
   simp only[Cv];rw[Vd,Ty,Vd,Tw m];rfl)
  rw[TM];have z:(⟨g,0,U⟩:Addr).add i=⟨g,i,U⟩:=by
   by_cases e:i=0
   .subst e;simp[Addr.add]
   .simp[Addr.add,e]
  rw[z] at r;exact r
theorem sG(M n:Nat)(l:List UInt8)(v:V6)(w:V5)(h:pU w M n l v)(b:0<n):V7 prog 139 #[V9 (S ⟨M,0,U⟩)] w λe j=>e=Wd (H ⟨l.toArray⟩)/\j=w:=by
 have r:=h.c;have m:=JP h.o b;clear h;go_enter func139,ntmps139;go_wp2;go_ret;exact⟨O,O⟩
theorem oo.far{M k:Nat}{v':V6}{w':V5}{x:List UInt8}(h:oo M v w v' w')(j:pU w M k x v){a:Nat}{c:Array V6}{t:Nat}{fr:Nat × Nat}(ha:w.heap[a]?=S (D c t fr))(ht:t≠5)(b:a≠M): w'.heap[a]?=S (D c t fr):=(h.kept.block a (cX ha) ⟨b,λe=>by obtain⟨y,l,_⟩:=di j.o e;rw[l] at ha;injection ha with ha;injection ha with _ ha;exact ht ha.symm⟩).trans ha
theorem oo.below{M B:Nat}{v':V6}{j w':V5}(h:oo M v w v' w')(hb:Below B j w)(u:B<=M)(l:∀g,v.ownBlock=S g->B<=g)(m:B<=N (E w)): Below B j w'/\∀g,v'.ownBlock=S g->B<=g:=by
 refine⟨hb.trans (h.kept.toBelow m λk y=>⟨by omega,λe=>by have:=l k e;omega⟩),λg b=>?_⟩;rcases h.row with r|⟨q,r,z⟩
 .rw[r] at b;exact l g b
 .rw[r] at b;injection b with b;omega
theorem QJ(step b dd e j:Nat)(all:Int)(h:u64 all=b):(⟨([]++l9 step 4++l9 b 8++l9 dd 4++l9 e 4++l9 j 4).toArray⟩:V8)=kB step all dd e j:=by
 unfold kB nI;rw[h];apply Uy;simp only[U6];apply Vn.1;simp
theorem tP(dd vx step:Nat)(all:Int)(cv G I:V8)(w:V5)(hj:dd<4294967296)(hs:step<=9999999999)(h1:G.size<=4194304)(h2:I.size<=4194304):V7 prog 122 #[Wc #[Z .u32 dd,Z Y vx],Z Y step,Z Y all,Wc #[H cv,H G,H I]] w λe w'=>e=Wd (H (kB step all dd (gW I) (gW G)))/\V4 w w':=by
 have K:=cU (jj w #[Z .u32 dd,Z Y vx] #[H cv,H G,H I] #[J U 0 0] 91 176 251);have ua:=rZ all;have la:=qL all;obtain⟨ya,L⟩:∃y,Hid (u64 all=y):=⟨_,rfl⟩
 rw[cT L] at ua la;have lV:=Sp.yU I;have lM:=Sp.yU G;obtain⟨xv,M⟩:∃y,Hid (gW I=y):=⟨_,rfl⟩
 obtain⟨xm,P⟩:∃y,Hid (gW G=y):=⟨_,rfl⟩
 have Q:=cU (λW=>um I W (by omega));have R:=cU (λW=>um G W (by omega));rw[cT M] at lV Q;rw[cT P] at lM R;go_enter func122,ntmps122;go_wp2_with fail;generalize hW:Wl (Wl _ _) _=W0;obtain⟨b1,b2,b3,ai,hz⟩:=cT K W0 hW.symm;clear hW K;have z:pU W0 (N (E w)+1+1) 0 [] (J U 0 0):=⟨b3,TH _ _ _ _⟩
 refine(jK _ step 4 0 [] _ W0 z (by omega) (by omega) (by omega) 4 O).mono ?_;rintro e w1 ⟨rfl,v1,A,b⟩;have c1:=b.far z b1 (by decide) (by omega);have d1:=b.far z b2 (by decide) (by omega);have T:=b.kept.size;obtain⟨V,X⟩:=b.below ai (by omega) (λg hg=>by cases hg) (by omega);clear b z b1 b2 b3;have q:N (E w)+1+1+1<=N (E w1):=To (Vk hz.symm) T;go_wp2_with fail;refine(jK _ ya 8 4 _ _ w1 A (by omega) (by omega) (by omega) 8 O).mono ?_;rintro e w2 ⟨rfl,v2,B,j⟩;have c2:=j.far A c1 (by decide) (by omega);have d2:=j.far A d1 (by decide) (by omega);obtain⟨t,s⟩:=j.below V (by omega) X (Ub (TI (by omega) q));have p:=To q j.kept.size;clear j A c1 d1 V X;have x2:w2.cell? ⟨N (E w),0,U⟩=S (Z .u32 dd):=by rw[Ti w2 _ 0 _ _ _ c2];rfl
 go_wp2_with fail;refine(jK _ dd 4 12 _ _ w2 B (by omega) (by omega) (by omega) 4 O).mono ?_;rintro e w3 ⟨rfl,v3,C,l⟩;have c3:=l.far B c2 (by decide) (by omega);have d3:=l.far B d2 (by decide) (by omega);obtain⟨o,aa⟩:=l.below t (by omega) s (Ub (TI (by omega) p));have ab:=To p l.kept.size;clear x2 l B c2 d2 t s;have x3:w3.cell? ⟨N (E w)+1,2,U⟩=S (H I):=by rw[Ti w3 _ 2 _ _ _ d3];rfl
 go_wp2_with fail;refine((cT Q) w3).mono ?_;rintro e wq ⟨rfl,m⟩;obtain rfl:=m.symm;go_wp2_with fail;refine(jK _ xv 4 16 _ _ w3 C (by omega) (by omega) (by omega) 4 O).mono ?_;rintro e w4 ⟨rfl,v4,F,r⟩;have c4:=r.far C c3 (by decide) (by omega);have d4:=r.far C d3 (by decide) (by omega);obtain⟨ad,ae⟩:=r.below o (by omega) aa (Ub (TI (by omega) ab));have af:=To ab r.kept.size;clear x3 r C c3 d3 o aa;have x4:w4.cell? ⟨N (E w)+1,1,U⟩=S (H G):=by rw[Ti w4 _ 1 _ _ _ d4];rfl
 go_wp2_with fail;refine((cT R) w4).mono ?_;rintro e wq ⟨rfl,m⟩;obtain rfl:=m.symm;go_wp2_with fail;refine(jK _ xm 4 20 _ _ w4 F (by omega) (by omega) (by omega) 4 O).mono ?_;rintro e w5 ⟨rfl,v5,ag,u⟩;have c5:=u.far F c4 (by decide) (by omega);have d5:=u.far F d4 (by decide) (by omega);obtain⟨ah,aj⟩:=u.below ad (by omega) ae (Ub (TI (by omega) af));have an:=To af u.kept.size;clear x4 u F c4 d4 ad ae;go_wp2_with fail;refine(sG _ _ _ _ w5 ag (by omega)).mono ?_;rintro e wq ⟨rfl,m⟩;obtain rfl:=m.symm;have ak:=cU ah;clear ag c5 d5 ah aj;go_wp2;go_ret;refine⟨?_,cT ak⟩;rw[cT M,cT P,<-QJ step ya dd xv xm all (cT L)]
 rfl
end Ru
namespace Ru
open Sp (nI l9 gW bt dt dw okB)
open Dk (Kept dy)
open Pk (di cX dh)
theorem Nd(b:Bool)(w:V5):V7 prog 138 #[Wa b] w λe w'=>e=Wd (Z .u64 ((if b=We then 1 else 0:Nat):Int))/\w'=w:=by
 cases b with
 |true =>
  go_enter func138,ntmps138;go_wp2;go_ret;exact⟨O,O⟩
 |false =>
  go_enter func138,ntmps138;go_wp2;go_ret;exact⟨O,O⟩
def vL(c:Sp.Cfg)(k:Nat):List UInt8:=(vB c k).data.toList
def mL(c:Sp.Cfg)(k:Nat):List UInt8:=(mB c k).data.toList
theorem vd(n k:Nat):(nI n k).data.toList=l9 n k:=by unfold nI;simp
theorem L8(c:Sp.Cfg)(k:Nat):vL c (k+1)=vL c k++l9 (u64 (c.val.getD k 0)) 8++l9 (if c.fD.getD k Wg=We then 1 else 0) 1:=by
 unfold vL;rw[vB,U6,U6,Vu,Vu,vd]
 congr 1
 unfold rB;cases c.fD.getD k Wg <;> rfl
theorem MJ(c:Sp.Cfg)(k:Nat):mL c (k+1)=mL c k++l9 (u64 (c.iH.getD k 0)) 4++l9 (u64 (c.jf.getD k 0)) 8:=by
 unfold mL;rw[mB,U6,U6,Vu,Vu,vd,vd]
theorem Ab(b:V8):(⟨b.data.toList.toArray⟩:V8)=b:=by cases b;simp
structure W2 (w0 w:V5) (M s1:Nat) (l1:List UInt8) (s2:Nat) (l2:List UInt8) (v u:V6):Prop where
 wv:pU w M s1 l1 v
 wm:pU w (M+1) s2 l2 u
 ap:∀g,v.ownBlock=S g->u.ownBlock≠S g
 lJ:V4 w0 w
 lv:∀g,v.ownBlock=S g->N (E w0)<=g
 lu:∀g,u.ownBlock=S g->N (E w0)<=g
variable {M s2 s1:Nat}{w w0 w':V5}{u v:V6}{l2 l1:List UInt8}
theorem W2.below(h:W2 w0 w M s1 l1 s2 l2 v u)(hb:V4 w w'): W2 w0 w' M s1 l1 s2 l2 v u:=⟨h.wv.below hb,h.wm.below hb,h.ap,h.lJ.trans (hb.mono h.lJ.size),h.lv,h.lu⟩
theorem W2.pv{b:Nat}{e:List UInt8}{v':V6}(h:W2 w0 w M s1 l1 s2 l2 v u)(l:N (E w0)<=M)(m:pU w' M b e v')(j:oo M v w v' w'): W2 w0 w' M b e s2 l2 v' u:=by
 obtain⟨r,y⟩:=j.other h.wm ⟨_,_,h.wv⟩ (by omega) h.ap;obtain⟨z,A⟩:=j.below h.lJ l h.lv h.lJ.size;exact⟨m,r,y,z,A,h.lu⟩
theorem W2.pm{b:Nat}{j:List UInt8}{l:V6}(h:W2 w0 w M s1 l1 s2 l2 v u)(F:N (E w0)<=M)(y:pU w' (M+1) b j l)(r:oo (M+1) u w l w'): W2 w0 w' M s1 l1 b j v l:=by
 obtain⟨z,A⟩:=r.other h.wv ⟨_,_,h.wm⟩ (by omega) (λg m e=>h.ap g e m);obtain⟨B,C⟩:=r.below h.lJ (by omega) h.lu h.lJ.size;exact⟨z,y,λg m e=>A g e m,B,h.lv,C⟩
def Bx(w:V5)(B:Nat)(j k r:Array V6):Prop:=w.heap[B]?=S (D j 91 (0,0))/\w.heap[B+1]?=S (D k 80 (0,0))/\w.heap[B+1+1]?=S (D r 176 (0,0))
theorem Bx.below{B:Nat}{j k r:Array V6}(h:Bx w B j k r)(hb:V4 w w'): Bx w' B j k r:=⟨(hb.block _ (cX h.1)).trans h.1,(hb.block _ (cX h.2.1)).trans h.2.1,(hb.block _ (cX h.2.2)).trans h.2.2⟩
theorem Bx.put{B s:Nat}{l:List UInt8}{v':V6}{j k r:Array V6}(h:Bx w B j k r)(b:pU w M s l v)(e:oo M v w v' w')(m:B+1+1<M): Bx w' B j k r:=⟨e.far b h.1 (by decide) (by omega),e.far b h.2.1 (by decide) (by omega),e.far b h.2.2 (by decide) (by omega)⟩
theorem Kj(w:V5)(a b c d e:Array V6)(j l m r y:TypeId):∀W,W=((((w.alloc (D a j)).alloc (D b l)).alloc (D c m)).alloc (D d r)).alloc (D e y)->W.heap[N (E w)]?=S (D a j (0,0))/\W.heap[N (E w)+1]?=S (D b l (0,0))/\W.heap[N (E w)+1+1]?=S (D c m (0,0))/\W.heap[N (E w)+1+1+1]?=S (D d r (0,0))/\W.heap[N (E w)+1+1+1+1]?=S (D e y (0,0))/\V4 w W:=by
 rintro W rfl;obtain⟨F,G,I,K,L⟩:=jj w a b c j l m _ rfl;generalize ((w.alloc (D a j)).alloc (D b l)).alloc (D c m)=A at *;obtain⟨B,C,z,P⟩:=rD A d e r y _ rfl;generalize (A.alloc (D d r)).alloc (D e y)=W at *;rw[L] at B C;exact⟨(z.block _ (by omega)).trans F,(z.block _ (by omega)).trans G,(z.block _ (by omega)).trans I,B,C,K.trans (z.mono (by omega))⟩
def EV(step all:Int)(dd:Nat)(c:Sp.Cfg)(n b:Nat):Array V6 := #[H (dt (kB b all dd (gW (dt (vB c n))) (gW (dt (mB c n))))),H (dt (mB c n)),H (dt (vB c n))]
theorem uU(dd vx step:Nat)(p:Option Addr)(n cap:Nat)(c:Sp.Cfg)(w:V5)(hv:kA w p c n)(hn:n<=64)(aX:0<n)(hj:dd<4294967296)(hs:step<=9999999999):V7 prog 93 #[Wc #[Z .u32 dd,Z Y vx],gz step p n cap c.all] w λe w'=>e=Wd (Wc (EV step c.all dd c n step))/\V4 w w':=by
 unfold gz;have HV:=cU hv;clear hv;have au:=cU (Kj w #[Z .u32 dd,Z Y vx] #[Z Y step,J p n cap,Z Y c.all] #[H ⟨#[]⟩,H ⟨#[]⟩,H ⟨#[]⟩] #[J U 0 0] #[J U 0 0] 91 80 176 251 251);go_enter func93,ntmps93;go_wp2_with fail;generalize hW:Wl (Wl (Wl _ _) _) _=W0;obtain⟨b1,b2,b3,b4,b5,av⟩:=cT au W0 hW.symm;clear hW au;have aw:Hid (W2 w W0 (N (E w)+1+1+1) (9*0) (vL c 0) (12*0) (mL c 0) (J U 0 0) (J U 0 0)/\Bx W0 (N (E w)) #[Z .u32 dd,Z Y vx] #[Z Y step,J p n cap,Z Y c.all] #[H ⟨#[]⟩,H ⟨#[]⟩,H ⟨#[]⟩]):=⟨⟨⟨b4,TH _ _ _ _⟩,⟨b5,TH _ _ _ _⟩,λg hg=>(by cases hg),av,λg hg=>(by cases hg),λg hg=>(by cases hg)⟩,b1,b2,b3⟩
 clear b1 b2 b3 b4 b5 av
 go_loopw [13] (λi wr=>∃(k:Nat) (v u:V6),k<=n/\i=Z Y k/\Hid (W2 w wr (N (E w)+1+1+1) (9*k) (vL c k) (12*k) (mL c k) v u/\Bx wr (N (E w)) #[Z .u32 dd,Z Y vx] #[Z Y step,J p n cap,Z Y c.all] #[H ⟨#[]⟩,H ⟨#[]⟩,H ⟨#[]⟩])) (λi _=>n-(intOf i).toNat)
 case atStart=>exact⟨0,_,_,Tp _,rfl,aw⟩
 case round =>
  clear aw;obtain⟨k,v,u,hk,rfl,HI⟩:=hrel;by_cases aI:k<n
  .have ax:(k:Int)<(n:Int):=by omega
   obtain⟨h2,hx⟩:=cT HI;obtain⟨g,rfl,hg,d0,d1,d2,d3⟩:=((cT HV).below h2.lJ) k aI;have ae:=cU (L8 c k);have af:=cU (MJ c k);generalize c.val.getD k 0=x0 at *;generalize c.fD.getD k Wg=x1 at *;generalize c.iH.getD k 0=x2 at *;generalize c.jf.getD k 0=x3 at *;have u0:=rZ x0;have u2:=rZ x2;have u3:=rZ x3;have l0:=qL x0;have l2:=qL x2;have l3:=qL x3;obtain⟨y0,aJ⟩:∃y,Hid (u64 x0=y):=⟨_,rfl⟩
   obtain⟨y2,aK⟩:∃y,Hid (u64 x2=y):=⟨_,rfl⟩
   obtain⟨y3,aL⟩:∃y,Hid (u64 x3=y):=⟨_,rfl⟩
   rw[cT aJ] at u0 l0 ae;rw[cT aK] at u2 l2 af;rw[cT aL] at u3 l3 af;obtain⟨yb,ay⟩:∃y,Hid ((if x1=We then 1 else 0:Nat)=y):=⟨_,rfl⟩
   have lb:yb<=1:=by rw[<-cT ay];split <;> omega
   have az:=cU (λW=>Nd x1 W);rw[cT ay] at az ae;have hA:V4 wr (wr.alloc (D #[Z Y x0,Wa x1,Z Y x2,Z Y x3] 104)):=V3.alloc V2 _;have h3:=h2.below hA;have ag:=hx.below hA;have T:=Tk wr (D #[Z Y x0,Wa x1,Z Y x2,Z Y x3] 104);have aM:N (E w)+1+1+1+1<N (E wr):=cX h2.wm.b;clear h2 hx HI hA;go_upto_region 5 with fail;obtain⟨L,hL⟩:∃L,N (E wr)=L:=⟨_,rfl⟩
   rw[hL] at T aM ⊢;generalize ah:Wl _ _=w4 at h3 ag T ⊢;clear ah;have V:=h3;have B:=ag;have ai:=T;clear h3 ag T hL d0 d1 d2 d3 hg;have aN:w4.cell? ⟨L,0,U⟩=S (Z Y x0):=by rw[Ti w4 L 0 _ _ _ ai];rfl
   go_wp2_with fail;refine(jK _ y0 8 _ _ _ w4 V.wv (by omega) (by omega) (by omega) 8 O).mono ?_;rintro e w5 ⟨rfl,z5,aA,X⟩;have Q:=V.pv (by omega) aA X;have C:=B.put V.wv X (by omega);have aj:=X.far V.wv ai (by decide) (by omega);clear V B ai aA X;have aO:w5.cell? ⟨L,1,U⟩=S (Wa x1):=by rw[Ti w5 L 1 _ _ _ aj];rfl
   clear aN;go_wp2_with fail;refine((cT az) w5).mono ?_;rintro e wq ⟨rfl,F⟩;obtain rfl:=F.symm;go_wp2_with fail;refine(jK _ yb 1 _ _ _ w5 Q.wv (by omega) (by omega) (by omega) 1 O).mono ?_;rintro e q ⟨rfl,z6,aB,t⟩;have s:=Q.pv (by omega) aB t;have A:=C.put Q.wv t (by omega);have ak:=t.far Q.wv aj (by decide) (by omega);clear Q C aj aB t;have aP:q.cell? ⟨L,2,U⟩=S (Z Y x2):=by rw[Ti q L 2 _ _ _ ak];rfl
   clear aO;go_wp2_with fail;refine(jK _ y2 4 _ _ _ q s.wm (by omega) (by omega) (by omega) 4 O).mono ?_;rintro e l ⟨rfl,z7,aC,o⟩;have R:=s.pm (by omega) aC o;have j:=A.put s.wm o (by omega);have an:=o.far s.wm ak (by decide) (by omega);clear s A ak aC o;have aQ:l.cell? ⟨L,3,U⟩=S (Z Y x3):=by rw[Ti l L 3 _ _ _ an];rfl
   clear aP;go_wp2_with fail;refine(jK _ y3 8 _ _ _ l R.wm (by omega) (by omega) (by omega) 8 O).mono ?_;rintro e w8 ⟨rfl,z8,aD,aa⟩;have h8:=R.pm (by omega) aD aa;have G:=j.put R.wm aa (by omega);have aR:=aa.far R.wm an (by decide) (by omega);clear R j an aD aa;clear aQ;have aS:Hid (W2 w w8 (N (E w)+1+1+1) (9*(k+1)) (vL c (k+1)) (12*(k+1)) (mL c (k+1)) z6 z8/\Bx w8 (N (E w)) #[Z .u32 dd,Z Y vx] #[Z Y step,J (S ⟨g,0,U⟩) n cap,Z Y c.all] #[H ⟨#[]⟩,H ⟨#[]⟩,H ⟨#[]⟩]):=by
    rw[cT ae,cT af,show 9*(k+1)=9*k+8+1 by omega,show 12*(k+1)=12*k+4+8 by omega];exact⟨h8,G⟩
   clear h8 G aR;go_wp2;go_roundw
   case rel=>exact⟨k+1,_,_,by omega,by go_num,aS⟩
   case measure=>simp[intOf];omega
  .obtain rfl:k=n:=by omega
   have ax:¬(k:Int)<(k:Int):=by omega
   obtain⟨V,B⟩:=cT HI;have aT:Hid (∀W,pU W (N (E w)+1+1+1) (9*k) (vL c k) v->V7 prog 139 #[V9 (S ⟨N (E w)+1+1+1,0,U⟩)] W λe w'=>e=Wd (H (vB c k))/\w'=W):=λW hW=>by
    have h:=sG _ _ _ _ W hW (by omega);unfold vL at h;rw[Ab] at h;exact h
   have aU:Hid (∀W,pU W (N (E w)+1+1+1+1) (12*k) (mL c k) u->V7 prog 139 #[V9 (S ⟨N (E w)+1+1+1+1,0,U⟩)] W λe w'=>e=Wd (H (mB c k))/\w'=W):=λW hW=>by
    have h:=sG _ _ _ _ W hW (by omega);unfold mL at h;rw[Ab] at h;exact h
   have zv:=Vk (fA c k);have zm:=Vk (ga c k);clear HI;go_wp2_with fail;refine((cT aU) wr V.wm).mono ?_;rintro e wq ⟨rfl,F⟩;obtain rfl:=F.symm;go_wp2_with fail;refine(o8 (mB c k) wr (by omega)).mono ?_;rintro e w5 ⟨rfl,ao⟩;have Q:=V.below ao;have C:=B.below ao;clear V B ao;go_wp2_with fail;refine((cT aT) w5 Q.wv).mono ?_;rintro e wq ⟨rfl,F⟩;obtain rfl:=F.symm;go_wp2_with fail;refine(o8 (vB c k) w5 (by omega)).mono ?_;rintro e q ⟨rfl,aq⟩;have s:=Q.lJ.trans (aq.mono Q.lJ.size);have A:=C.below aq;clear Q C aq;have sV:=Vk (Sp.eB (vB c k));have sM:=Vk (Sp.eB (mB c k));obtain⟨I,aE⟩:∃I,Hid (dt (vB c k)=I):=⟨_,rfl⟩
   obtain⟨K,aF⟩:∃K,Hid (dt (mB c k)=K):=⟨_,rfl⟩
   rw[cT aE] at sV ⊢;rw[cT aF] at sM ⊢;have hA:V4 q (q.alloc (D #[H ⟨#[]⟩,H K,H I] 176)):=V3.alloc V2 _;have m:=Tk q (D #[H ⟨#[]⟩,H K,H I] 176);have R:=s.trans (hA.mono s.size);have j:=A.below hA;obtain⟨L,hL⟩:∃L,N (E q)=L:=⟨_,rfl⟩
   have aY:N (E w)+1+1<L:=by rw[<-hL];exact cX A.2.2
   clear s A hA;go_upto_region 11 with fail
   first|rw[hL] at m ⊢|rw[hL] at m
   generalize ah:Wl _ _=l at R j m ⊢;clear ah hL;have q0:l.cell? ⟨N (E w),0,U⟩=S (Z .u32 dd):=by rw[Ti l _ 0 _ _ _ j.1];rfl
   have q1:l.cell? ⟨N (E w),1,U⟩=S (Z Y vx):=by rw[Ti l _ 1 _ _ _ j.1];rfl
   have q2:l.cell? ⟨N (E w)+1,0,U⟩=S (Z Y step):=by rw[Ti l _ 0 _ _ _ j.2.1];rfl
   have q3:l.cell? ⟨N (E w)+1,2,U⟩=S (Z Y c.all):=by rw[Ti l _ 2 _ _ _ j.2.1];rfl
   have q4:l.cell? ⟨L,0,U⟩=S (H ⟨#[]⟩):=by rw[Ti l _ 0 _ _ _ m];rfl
   have q5:l.cell? ⟨L,1,U⟩=S (H K):=by rw[Ti l _ 1 _ _ _ m];rfl
   have q6:l.cell? ⟨L,2,U⟩=S (H I):=by rw[Ti l _ 2 _ _ _ m];rfl
   have aG:=cU (tP dd vx step c.all ⟨#[]⟩ K I l hj hs (by omega) (by omega));go_wp2_with fail;refine(cT aG).mono ?_;rintro e w8 ⟨rfl,ab⟩;have h8:=R.trans (ab.mono R.size);have G:=j.below ab;have ar:=(ab.block L (cX m)).trans m;clear R j m ab q0 q1 q2 q3 q4 q5 q6 aG;have zk:=Vk (lX step c.all dd (gW I) (gW K));obtain⟨KB,aH⟩:∃KB,Hid (kB step c.all dd (gW I) (gW K)=KB):=⟨_,rfl⟩
   rw[cT aH] at zk ⊢;go_wp2_with fail;refine(o8 KB w8 (by omega)).mono ?_;rintro e r ⟨rfl,ad⟩;have h9:=h8.trans (ad.mono h8.size);have z:=G.below ad;have P:=(ad.block L (cX ar)).trans ar;have z0:r.cell? ⟨L,0,U⟩=S (H ⟨#[]⟩):=by rw[Ti r _ 0 _ _ _ P];rfl
   have z1:r.cell? ⟨L,1,U⟩=S (H K):=by rw[Ti r _ 1 _ _ _ P];rfl
   have z2:r.cell? ⟨L,2,U⟩=S (H I):=by rw[Ti r _ 2 _ _ _ P];rfl
   have f0:r.frozen? ⟨L,0,U⟩=Wg:=by simp[World.frozen?,P]
   have y0:r.cell? ⟨N (E w)+1+1,0,U⟩=S (H ⟨#[]⟩):=by rw[Ti r _ 0 _ _ _ z.2.2];rfl
   have y1:r.cell? ⟨N (E w)+1+1,1,U⟩=S (H ⟨#[]⟩):=by rw[Ti r _ 1 _ _ _ z.2.2];rfl
   have y2:r.cell? ⟨N (E w)+1+1,2,U⟩=S (H ⟨#[]⟩):=by rw[Ti r _ 2 _ _ _ z.2.2];rfl
   have g0:r.frozen? ⟨N (E w)+1+1,0,U⟩=Wg:=by simp[World.frozen?,z.2.2]
   have g1:r.frozen? ⟨N (E w)+1+1,1,U⟩=Wg:=by simp[World.frozen?,z.2.2]
   have g2:r.frozen? ⟨N (E w)+1+1,2,U⟩=Wg:=by simp[World.frozen?,z.2.2]
   have aV:L≠(N (E w))+1+1:=by omega
   have aW:Hid (V4 w ((((r.setCell ⟨L,0,U⟩ (H (dt KB))).setCell ⟨N (E w)+1+1,0,U⟩ (H (dt KB))).setCell ⟨N (E w)+1+1,1,U⟩ (H K)).setCell ⟨N (E w)+1+1,2,U⟩ (H I))):=(((h9.setCell (p:=⟨L,0,U⟩) (by show (N (E w))<=L;omega) _).setCell (p:=⟨N (E w)+1+1,0,U⟩) (by show (N (E w))<=N (E w)+1+1;omega) _).setCell (p:=⟨N (E w)+1+1,1,U⟩) (by show (N (E w))<=N (E w)+1+1;omega) _).setCell (p:=⟨N (E w)+1+1,2,U⟩) (by show (N (E w))<=N (E w)+1+1;omega) _;clear h8 G ar ad h9 z P;go_wp2;refine Tj (v := Wc #[H (dt KB),H K,H I]) ?_ O ⟨?_,cT aW⟩
   .simp[results,results93,go_sem,y0,y1,y2,z0,z1,z2,aV]
   .unfold EV;rw[cT aE,cT aF,cT aH]
end Ru
namespace Ru
open Sp (nI l9 gW bt dt dw okB)
theorem Ni(a b:Nat)(ha:a<72057594037927936)(hb:b<256):bits .or .u64 ((a*256:Nat):Int) (b:Int)=((b+256*a:Nat):Int):=by
 have h:a*256 ||| b=b+256*a:=by
  have:=Nat.two_pow_add_eq_or_of_lt (i:=8) (b:=b) (by omega) a;rw[show (2:Nat) ^ 8=256 by decide] at this;rw[Vj a 256,<-this];omega
 rw[u64_or_nat _ _ (by omega) (by omega),h]
theorem vV(L:Nat)(s:V8)(k:Nat)(C:Int)(w:V5)(u:C=(k:Int))(T:k<=8)(I:k<=s.size)(V:w.cell? ⟨L,0,U⟩=S (H s))(X:w.frozen? ⟨L,0,U⟩=Wg):V7 prog 120 #[V9 (S ⟨L,0,U⟩),Z Y C] w λe K=>e=Wd (Z .u64 (num s 0 k))/\K=w.setCell ⟨L,0,U⟩ (H (s.extract k s.size)):=by
 subst u;have q:∀W,Sem.run prog (Instr.slice 9 (H s) (S (Z Y (k:Int))) U U) W=.ok (H (s.extract k s.size)) W:=λW=>SY s k _ O I W
 go_enter func120,ntmps120;go_wp2
 go_loopw [5,6] (λM y wr=>∃(j:Nat) (m:Int),j<=k/\y=Z Y m/\m=(j:Int)-1/\M=Z .u64 (num s j (k-j))/\wr=w) (λ_ y _=>(intOf y+1).toNat)
 case atStart=>exact⟨k,(k:Int)-1,Te _,rfl,rfl,by rw[Nat.sub_self];rfl,O⟩
 case round =>
  obtain⟨j,m,t,rfl,P,rfl,z⟩:=hrel;obtain rfl:=z.symm;have F:num s j (k-j)<256 ^ (k-j):=gX s _ _;by_cases c:0<j
  .obtain⟨i,rfl⟩:∃i,j=i+1:=⟨j-1,by omega⟩
   obtain rfl:m=(i:Int):=by omega
   have Q:0<=(i:Int):=by omega
   have l:num s (i+1) (k-(i+1))<72057594037927936:=by
    have p:=Nat.pow_le_pow_right (n:=256) (by omega) (show k-(i+1)<=7 by omega);have o:(256:Nat) ^ 7=72057594037927936:=by decide
    omega
   have r:=Sp.jm s i;have R:∀W,Sem.run prog (Instr.index 9 (H s) (Z Y (i:Int))) W=.ok (Z .u8 (bt s i:Nat)) W:=λW=>SG s i _ O (by omega) W
   have A:Hid (num s i (k-i)=bt s i+256*num s (i+1) (k-(i+1))):=by
    show _=_
    rw[Ik];congr 1;omega
   generalize num s (i+1) (k-(i+1))=G at l A;generalize bt s i=b at r R A;have B:Hid (bits .or .u64 ((G:Int)*256) (b:Int)=((b+256*G:Nat):Int)):=by
    have h:=Ni G b l r;rw[Int.natCast_mul] at h;exact h
   clear F P;go_wp2;refine⟨⟨i,(i:Int)-1,by omega,O,O,?_,trivial⟩,?_⟩
   .rw[cT A,cT B]
   .simp[intOf] <;> omega
  .have Q:¬0<=m:=by omega
   obtain rfl:j=0:=by omega
   rw[Nat.sub_zero];clear F;go_wp2;go_ret;exact⟨O,O⟩
theorem mV(s:V8)(w:V5):V7 prog 119 #[H s] w λe b=>e=Wd (Wc #[H s])/\V4 w b:=by
 go_enter func119,ntmps119;go_wp2;exact Tj (v := Wc #[H s]) (by simp[results,results119,go_sem]) O ⟨O,V3.alloc V2 _⟩
abbrev gF:Array V6 := #[Z Y 0,J U 0 0,Z Y 0]
theorem yE(s:V8)(w:V5)(Q:s.size<=4194304)(h:¬(okB s=We/\(dw s).size=24)):V7 prog 78 #[H s] w λe F=>e=Wd (Wb #[Wc gF,Wa Wg])/\V4 w F:=by
 have u:(okB s&&decide ((dw s).size=24))=Wg:=by
  cases G:okB s with
  |false=>rfl
  |true=>rw[Bool.true_and,TE];exact λI=>h ⟨G,I⟩
 have z:=cU (λW=>n7 s 24 W (by omega) (by omega));rw[u] at z;generalize dw s=P at z;clear h u;have y:Hid (∀W,W=w.alloc (D gF 80)->W.heap[N (E w)]?=S (D gF 80 (0,0))/\V4 w W):=by
  show ∀W,_
  rintro W rfl;exact⟨Tk w _,(Th _ w).alloc V2 _⟩
 go_enter func78,ntmps78;go_wp2_with fail;generalize B:Wl _ _=C;obtain⟨l,m⟩:=cT y C B.symm;clear B y;refine((cT z) C).mono ?_;rintro e j ⟨rfl,r⟩;have b:=(r.block _ (Pk.cX l)).trans l;have K:j.cell? ⟨N (E w),0,U⟩=S (Z Y 0):=by rw[Ti j _ 0 _ _ _ b];rfl
 have L:j.cell? ⟨N (E w),1,U⟩=S (J U 0 0):=by rw[Ti j _ 1 _ _ _ b];rfl
 have M:j.cell? ⟨N (E w),2,U⟩=S (Z Y 0):=by rw[Ti j _ 2 _ _ _ b];rfl
 have R:j.frozen? ⟨N (E w),0,U⟩=Wg:=by simp[World.frozen?,b]
 have T:j.frozen? ⟨N (E w),1,U⟩=Wg:=by simp[World.frozen?,b]
 have V:j.frozen? ⟨N (E w),2,U⟩=Wg:=by simp[World.frozen?,b]
 have A:Hid (V4 w (((j.setCell ⟨N (E w),0,U⟩ (Z Y 0)).setCell ⟨N (E w),1,U⟩ (J U 0 0)).setCell ⟨N (E w),2,U⟩ (Z Y 0))):=(((m.trans (r.mono m.size)).setCell (p:=⟨N (E w),0,U⟩) V2 _).setCell (p:=⟨N (E w),1,U⟩) V2 _).setCell (p:=⟨N (E w),2,U⟩) V2 _;clear l m r b z;go_wp2;exact Tj (v := Wb #[Wc gF,Wa Wg]) (by simp[results,results78,go_sem,K,L,M,gF]) O ⟨O,cT A⟩
end Ru
namespace Ru
open Sp (nI l9 gW bt dt dw okB)
theorem r5(s:V8)(w:V5)(hs:s.size<=4194304)(h1:okB s=We)(h2:(dw s).size=24):V7 prog 78 #[H s] w λe q=>e=Wd (Wb #[Wc #[Z Y (num (dw s) 0 4),J U 0 0,Z Y (pT (num (dw s) 4 8))],Wa We])/\V4 w q:=by
 have o:(okB s&&decide ((dw s).size=24))=We:=by rw[h1,TU h2];rfl
 have HO:=cU (λW=>n7 s 24 W (by omega) (by omega));rw[o] at HO;generalize dw s=P at HO h2 ⊢;have B:=cU h2;clear h1 o;have g:Hid (∀W,W=w.alloc (D gF 80)->W.heap[N (E w)]?=S (D gF 80 (0,0))/\V4 w W):=by
  show ∀W,_
  rintro W rfl;exact⟨Tk w _,(Th _ w).alloc V2 _⟩
 have ab:=gX P 4 0;have p4:(256:Nat) ^ 4=4294967296:=by decide
 have l4:num P 0 4<4294967296:=by omega
 obtain⟨a0,C⟩:∃a0,Hid (num P 0 4=a0):=⟨_,rfl⟩
 obtain⟨F,G⟩:∃F,Hid (num P 4 8=F):=⟨_,rfl⟩
 have ad:IntKind.i64.wrap (F:Int)=pT F:=vQ (by rw[<-cT G];exact gX P 8 4);obtain⟨na,aa⟩:∃na,Hid (pT F=na):=⟨_,rfl⟩
 rw[cT aa] at ad;rw[cT C] at l4;obtain⟨u,HP⟩:∃u,Hid (P.extract 4 P.size=u):=⟨_,rfl⟩
 have ae:Hid (∀L W,W.cell? ⟨L,0,U⟩=S (H P)->W.frozen? ⟨L,0,U⟩=Wg->V7 prog 120 #[V9 (S ⟨L,0,U⟩),Z Y 4] W λe q=>e=Wd (Z .u64 a0)/\q=W.setCell ⟨L,0,U⟩ (H u)):=λL W c f=>by
  have h:=vV L P 4 4 W O (by omega) (by rw[cT B];omega) c f;rw[cT C,cT HP] at h;exact h
 have af:Hid (∀L W,W.cell? ⟨L,0,U⟩=S (H u)->W.frozen? ⟨L,0,U⟩=Wg->V7 prog 120 #[V9 (S ⟨L,0,U⟩),Z Y 8] W λe q=>e=Wd (Z .u64 F)/\∃b,q=W.setCell ⟨L,0,U⟩ (H b)):=λL W c f=>by
  have hz:u.size=20:=by rw[<-cT HP,Tz,cT B];rfl
  have h:=vV L u 8 8 W O (by omega) (by omega) c f;have e:num u 0 8=F:=by
   rw[<-cT HP,pB P 4 P.size V2 8 0 (by rw[cT B];omega),<-cT G]
  rw[e] at h;exact h.mono λe q ⟨he,hw⟩=>⟨he,_,hw⟩
 clear ab p4 h2;go_enter func78,ntmps78;go_wp2_with fail;generalize hW:Wl _ _=W0;obtain⟨I,K⟩:=cT g W0 hW.symm;clear hW g;refine((cT HO) W0).mono ?_;rintro e w1 ⟨rfl,m⟩;have M:=(m.block _ (Pk.cX I)).trans I;replace m:=K.trans (m.mono K.size);clear I K HO;go_wp2_with fail;refine(mV P w1).mono ?_;rintro e t ⟨rfl,r⟩;have l:=(r.block _ (Pk.cX M)).trans M;replace r:=m.trans (r.mono m.size);have Q:N (E w)<N (E t):=Pk.cX l;clear M m;have hA:V4 t (t.alloc (D #[H P] 231)):=V3.alloc V2 _;have y:=Tk t (D #[H P] 231);have z:=(hA.block _ (Pk.cX l)).trans l;have R:=r.trans (hA.mono r.size);clear l r hA;go_upto_region 5 with fail;obtain⟨L,hL⟩:∃L,N (E t)=L:=⟨_,rfl⟩
 rw[hL] at y Q ⊢;generalize ag:Wl _ _=w3 at y z R ⊢;clear ag hL;have c3:w3.cell? ⟨L,0,U⟩=S (H P):=by rw[Ti w3 _ 0 _ _ _ y];rfl
 have f3:w3.frozen? ⟨L,0,U⟩=Wg:=by simp[World.frozen?,y]
 go_wp2_with fail;refine((cT ae) L w3 c3 f3).mono ?_;rintro e w4 ⟨rfl,rfl⟩;have c4:(w3.setCell ⟨L,0,U⟩ (H u)).cell? ⟨L,0,U⟩=S (H u):=T0 _ _ _ c3;have f4:(w3.setCell ⟨L,0,U⟩ (H u)).frozen? ⟨L,0,U⟩=Wg:=by rw[TX];exact f3
 have T:(w3.setCell ⟨L,0,U⟩ (H u)).heap[N (E w)]?=S (D gF 80 (0,0)):=(Tv _ _ _ _ (λe=>by have e':N (E w)=L:=e;omega)).trans z;have V:=R.setCell (p:=⟨L,0,U⟩) (Ub Q) (H u);clear c3 f3 y z R;generalize Wm _ _ _=w4 at c4 f4 T V ⊢;go_wp2_with fail;refine((cT af) L w4 c4 f4).mono ?_;rintro e A ⟨rfl,b,rfl⟩;have j:(w4.setCell ⟨L,0,U⟩ (H b)).heap[N (E w)]?=S (D gF 80 (0,0)):=(Tv _ _ _ _ (λe=>by have e':N (E w)=L:=e;omega)).trans T;have X:=V.setCell (p:=⟨L,0,U⟩) (Ub Q) (H b);clear c4 f4 T V;generalize Wm _ _ _=A at j X ⊢;have r0:A.cell? ⟨N (E w),0,U⟩=S (Z Y 0):=by rw[Ti A _ 0 _ _ _ j];rfl
 have r1:A.cell? ⟨N (E w),1,U⟩=S (J U 0 0):=by rw[Ti A _ 1 _ _ _ j];rfl
 have r2:A.cell? ⟨N (E w),2,U⟩=S (Z Y 0):=by rw[Ti A _ 2 _ _ _ j];rfl
 have g0:A.frozen? ⟨N (E w),0,U⟩=Wg:=by simp[World.frozen?,j]
 have g1:A.frozen? ⟨N (E w),1,U⟩=Wg:=by simp[World.frozen?,j]
 have g2:A.frozen? ⟨N (E w),2,U⟩=Wg:=by simp[World.frozen?,j]
 have ah:Hid (V4 w (((A.setCell ⟨N (E w),0,U⟩ (Z Y a0)).setCell ⟨N (E w),1,U⟩ (J U 0 0)).setCell ⟨N (E w),2,U⟩ (Z Y na))):=((X.setCell (p:=⟨N (E w),0,U⟩) V2 _).setCell (p:=⟨N (E w),1,U⟩) V2 _).setCell (p:=⟨N (E w),2,U⟩) V2 _;clear j X;go_wp2;refine Tj (v := Wb #[Wc #[Z Y a0,J U 0 0,Z Y na],Wa We]) (by simp[results,results78,go_sem,r0,r1,r2]) O ⟨?_,cT ah⟩;rw[cT C,cT G,cT aa]
end Ru
namespace Ru
open Sp (nI l9 gW bt dt dw okB)
theorem Ac(g p:V8)(cZ z:Nat)(w:V5)(V:g.size<=1048576)(X:p.size<=1048576)(q:cZ<=200)(ht:fN w):V7 prog 31 #[H g,H p,Z Y cZ,Z Y z] w λe I=>e=Wd (Wc #[Z .u32 (pW g p cZ),Z Y z])/\V4 w I:=by
 have hd:=AO cZ (by omega);have m:(⟨#[0]⟩:V8).size=1:=rfl;have K:=cU (λW (A:V4 w W)=>rU cZ _ W O (by omega) (ht.below A));have r:V4 w (w.alloc (D #[Z .u32 0,Z Y 0] 91)):=V3.alloc V2 _;have b:=Tk w (D #[Z .u32 0,Z Y 0] 91);have t:¬9223372036854775807<g.size+(⟨#[0]⟩:V8).size:=by rw[m];omega
 have s:¬9223372036854775807<(g++⟨#[0]⟩).size+p.size:=by rw[TC,m];omega
 have o:¬9223372036854775807<(g++⟨#[0]⟩++p).size+(⟨#[0]⟩:V8).size:=by rw[TC,TC,m];omega
 have y4:¬9223372036854775807<(g++⟨#[0]⟩++p++⟨#[0]⟩).size+(dc cZ).size:=by rw[TC,TC,TC,m];omega
 have L:(IW g p cZ).size<=3000000:=by unfold IW;simp only[TC];omega
 have M:=cU (λW=>um (IW g p cZ) W (by omega));clear ht m;go_enter func31,ntmps31;go_wp2_with fail;generalize P:Wl _ _=Q at r b ⊢;clear P;refine((cT K) Q r).mono ?_;rintro e j ⟨rfl,l⟩;have A:=r.trans (l.mono r.size);have u:=(l.block _ (Pk.cX b)).trans b;clear r b l;go_wp2_with fail;refine((cT M) j).mono ?_;rintro e wq ⟨rfl,B⟩;obtain rfl:=B.symm;have R:j.cell? ⟨N (E w),0,U⟩=S (Z .u32 0):=by rw[Ti j _ 0 _ _ _ u];rfl
 have T:j.cell? ⟨N (E w),1,U⟩=S (Z Y 0):=by rw[Ti j _ 1 _ _ _ u];rfl
 have g0:j.frozen? ⟨N (E w),0,U⟩=Wg:=by simp[World.frozen?,u]
 have g1:j.frozen? ⟨N (E w),1,U⟩=Wg:=by simp[World.frozen?,u]
 obtain⟨y,F⟩:∃y,Hid (pW g p cZ=y):=⟨_,rfl⟩
 have G:gW (IW g p cZ)=y:=cT F;rw[G];have C:Hid (V4 w ((j.setCell ⟨N (E w),0,U⟩ (Z .u32 y)).setCell ⟨N (E w),1,U⟩ (Z Y z))):=(A.setCell (p:=⟨N (E w),0,U⟩) V2 _).setCell (p:=⟨N (E w),1,U⟩) V2 _;clear u A G;go_wp2;refine Tj (v := Wc #[Z .u32 y,Z Y z]) (by simp[results,results31,go_sem,R,T]) O ⟨?_,cT C⟩;rw[cT F]
end Ru
namespace Ru
open Sp (nI l9 gW bt dt dw okB)
open Pk (di cX dh)
theorem MK(s:V8)(o:Nat):num s o 1=bt s o:=by show bt s o+256*0=_;omega
theorem uz(s:V8)(a k:Nat)(h:a+k<=s.size):(s.extract a s.size).extract k (s.extract a s.size).size=s.extract (a+k) s.size:=by
 apply Sp.jV
 .simp only[Tz];omega
 .intro i hi;simp only[Tz] at hi;rw[Sp.fW _ _ _ _ V2 (by simp only[Tz];omega),Sp.fW s a s.size _ V2 (by omega),Sp.fW s (a+k) s.size i V2 (by omega)]
  congr 1;omega
structure Rv (w wr:V5) (L:Nat) (v m:V8) (n j:Nat) (sl:V6):Prop where
 b8:wr.heap[L]?=S (D #[H (v.extract (9*j) v.size)] 231 (0,0))
 b9:wr.heap[L+1]?=S (D #[H (m.extract (12*j) m.size)] 231 (0,0))
 o:wr.ownsRow (N (E w)) 104 4 sl j (jk (gC v m ⟨#[]⟩ n).val (gC v m ⟨#[]⟩ n).fD (gC v m ⟨#[]⟩ n).iH (gC v m ⟨#[]⟩ n).jf j)
 lJ:V4 w wr
 lo:N (E w)<=L
variable {W:V5}{L:Nat}{y:V6}
theorem rI{x:V6}(h:W.heap[L]?=S (D #[x] 231 (0,0))): (W.setCell ⟨L,0,U⟩ y).heap[L]?=S (D #[y] 231 (0,0)):=by
 rw[Tq W L 0 _ _ _ h];rfl
theorem rH{M:Nat}{c:Array V6}{t:Nat}(h:W.heap[M]?=S (D c t (0,0)))(b:M≠L): (W.setCell ⟨L,0,U⟩ y).heap[M]?=S (D c t (0,0)):=(Tv _ _ _ M (λe=>b e)).trans h
theorem r9{B n:Nat}{x v:V6}{b:List V6}(h:W.heap[L]?=S (D #[x] 231 (0,0)))(j:W.ownsRow B 104 4 v n b): (W.setCell ⟨L,0,U⟩ y).ownsRow B 104 4 v n b:=Ui j (λe=>by obtain⟨z,l,_⟩:=di j e;exact dh l h (by decide) O) _
theorem takeB(L:Nat)(s:V8)(k:Nat)(b:Int)(w:V5)(j:b=(k:Int))(l:k<=8)(m:k<=s.size)(hb:w.heap[L]?=S (D #[H s] 231 (0,0))):V7 prog 120 #[V9 (S ⟨L,0,U⟩),Z Y b] w λe r=>e=Wd (Z .u64 (num s 0 k))/\r=w.setCell ⟨L,0,U⟩ (H (s.extract k s.size)):=vV L s k b w j l m (by rw[Ti w L 0 _ _ _ hb];rfl) (by simp[World.frozen?,hb])
def Lt(v m:V8)(n:Nat)(w:V5)(e:Ending)(w':V5):Prop:=V4 w w'/\((∀i,i<n->bt v (9*i+8)<=1)->∃sl,e=Wd (Wb #[sl,Wa We])/\w'.ownsRow (N (E w)) 104 4 sl n (jk (gC v m ⟨#[]⟩ n).val (gC v m ⟨#[]⟩ n).fD (gC v m ⟨#[]⟩ n).iH (gC v m ⟨#[]⟩ n).jf n))/\
  (¬(∀i,i<n->bt v (9*i+8)<=1)->e=Wd (Wb #[J U 0 0,Wa Wg]))
theorem sk(v m:V8)(n:Nat)(w:V5)(hn:n<=64)(hv:Hid (v.size=9*n))(hm:Hid (m.size=12*n)):V7 prog 123 #[H v,H m,Z Y n] w (Lt v m n w):=by
 obtain⟨t2,au,av,aw,ax⟩:=TN info_vertex;generalize hO:Lt v m n w=b;replace hO:=cU hO;go_enter func123,ntmps123;go_wp2_with fail;refine(mV v w).mono ?_;rintro e w1 ⟨rfl,G⟩;go_wp2_with fail;refine(mV m w1).mono ?_;rintro e w2 ⟨rfl,r⟩;replace r:=G.trans (r.mono G.size);clear G;have ab:=cU (rD w2 #[H v] #[H m] 231 231);go_wp2_with fail;generalize F:Wl (Wl _ _) _=W0;obtain⟨b1,b2,ad,hz⟩:=cT ab W0 F.symm;clear F ab;obtain⟨L,hL⟩:∃L,N (E w2)=L:=⟨_,rfl⟩
 rw[hL] at b1 b2 ⊢;have ae:Hid (Rv w W0 L v m n 0 (J U 0 0)):=by
  refine⟨?_,?_,TH _ _ _ _,r.trans (ad.mono r.size),by rw[<-hL];exact r.size⟩
  .rw[Nat.mul_zero,pg];exact b1
  .rw[Nat.mul_zero,pg];exact b2
 clear b1 b2 ad hz hL r
 go_loopw [10,20] (λsl i wr=>∃j:Nat,j<=n/\i=Z Y j/\Hid (Rv w wr L v m n j sl)/\Hid (∀q,q<j->bt v (9*q+8)<=1)) (λ_ i _=>n-(intOf i).toNat)
 case atStart=>exact⟨0,Tp _,rfl,ae,λq hq=>by omega⟩
 case round =>
  clear ae;obtain⟨j,hj,rfl,HI,HG⟩:=hrel;by_cases A:j<n
  .have af:(j:Int)<(n:Int):=by omega
   have sv:=cT hv;have sm:=cT hm;obtain⟨b8,b9,ho,l,u⟩:=cT HI;have e1:(v.extract (9*j) v.size).size=v.size-9*j:=by rw[Tz];omega
   have e2:(m.extract (12*j) m.size).size=m.size-12*j:=by rw[Tz];omega
   have x1:=uz v (9*j) 8 (by omega);have x2:=uz v (9*j+8) 1 (by omega);have x3:=uz m (12*j) 4 (by omega);have x4:=uz m (12*j+4) 8 (by omega);have n1:=pB v (9*j) v.size V2 8 0 (by omega);have n2:=pB v (9*j+8) v.size V2 1 0 (by omega);have n3:=pB m (12*j) m.size V2 4 0 (by omega);have n4:=pB m (12*j+4) m.size V2 8 0 (by omega);simp only[Uo] at n1 n2 n3 n4;have B:Hid (jk (gC v m ⟨#[]⟩ n).val (gC v m ⟨#[]⟩ n).fD (gC v m ⟨#[]⟩ n).iH (gC v m ⟨#[]⟩ n).jf (j+1)=jk (gC v m ⟨#[]⟩ n).val (gC v m ⟨#[]⟩ n).fD (gC v m ⟨#[]⟩ n).iH (gC v m ⟨#[]⟩ n).jf j++[Z Y (pT (num v (9*j) 8)),Wa (bt v (9*j+8) == 1),Z Y ((num m (12*j) 4:Nat):Int),Z Y (pT (num m (12*j+4) 8))]):=by
    show _=_
    rw[mq];have g1:(gC v m ⟨#[]⟩ n).val.getD j 0=pT (num v (9*j) 8):=gr _ _ A;have g2:(gC v m ⟨#[]⟩ n).fD.getD j Wg=(bt v (9*j+8) == 1):=gr _ _ A;have g3:(gC v m ⟨#[]⟩ n).iH.getD j 0=((num m (12*j) 4:Nat):Int):=gr _ _ A;have g4:(gC v m ⟨#[]⟩ n).jf.getD j 0=pT (num m (12*j+4) 8):=gr _ _ A;rw[g1,g2,g3,g4]
   obtain⟨a0,P⟩:∃a0,Hid (num v (9*j) 8=a0):=⟨_,rfl⟩
   obtain⟨I,C⟩:∃I,Hid (bt v (9*j+8)=I):=⟨_,rfl⟩
   obtain⟨Q,R⟩:∃Q,Hid (num m (12*j) 4=Q):=⟨_,rfl⟩
   obtain⟨a3,V⟩:∃a3,Hid (num m (12*j+4) 8=a3):=⟨_,rfl⟩
   have ag:Hid (∀W:V5,W.heap[L]?=S (D #[H (v.extract (9*j) v.size)] 231 (0,0))->V7 prog 120 #[V9 (S ⟨L,0,U⟩),Z Y 8] W λe X=>e=Wd (Z .u64 a0)/\X=W.setCell ⟨L,0,U⟩ (H (v.extract (9*j+8) v.size))):=λW F=>by
    have T:=takeB (L) _ 8 8 W O (by omega) (by rw[Tz];omega) F;rw[x1,n1,cT P] at T;exact T
   have ah:Hid (∀W:V5,W.heap[L]?=S (D #[H (v.extract (9*j+8) v.size)] 231 (0,0))->V7 prog 120 #[V9 (S ⟨L,0,U⟩),Z Y 1] W λe X=>e=Wd (Z .u64 I)/\X=W.setCell ⟨L,0,U⟩ (H (v.extract (9*j+8+1) v.size))):=λW F=>by
    have T:=takeB (L) _ 1 1 W O (by omega) (by rw[Tz];omega) F;rw[x2,n2,MK,cT C] at T;exact T
   have s:Hid (∀W:V5,W.heap[L+1]?=S (D #[H (m.extract (12*j) m.size)] 231 (0,0))->V7 prog 120 #[V9 (S ⟨L+1,0,U⟩),Z Y 4] W λe X=>e=Wd (Z .u64 Q)/\X=W.setCell ⟨L+1,0,U⟩ (H (m.extract (12*j+4) m.size))):=λW F=>by
    have T:=takeB (L+1) _ 4 4 W O (by omega) (by rw[Tz];omega) F;rw[x3,n3,cT R] at T;exact T
   have o:Hid (∀W:V5,W.heap[L+1]?=S (D #[H (m.extract (12*j+4) m.size)] 231 (0,0))->V7 prog 120 #[V9 (S ⟨L+1,0,U⟩),Z Y 8] W λe X=>e=Wd (Z .u64 a3)/\X=W.setCell ⟨L+1,0,U⟩ (H (m.extract (12*j+4+8) m.size))):=λW F=>by
    have T:=takeB (L+1) _ 8 8 W O (by omega) (by rw[Tz];omega) F;rw[x4,n4,cT V] at T;exact T
   clear x1 x2 x3 x4 n1 n2 n3 n4 e1 e2 sv sm;have c8:=rI (y := H (v.extract (9*j+8) v.size)) b8;have c9:=rH (L:=L) (y := H (v.extract (9*j+8) v.size)) b9 (by omega);have co:=r9 (y := H (v.extract (9*j+8) v.size)) b8 ho;have cb:=l.setCell (p:=⟨L,0,U⟩) u (H (v.extract (9*j+8) v.size));have ai:=cU ((cT ag) wr b8);clear ag b8 b9 ho l;go_wp2_with fail;refine(cT ai).mono ?_;rintro e w3 ⟨rfl,rfl⟩;generalize Wm _ _ _=w3 at c8 c9 co cb ⊢;have d8:=rI (y := H (v.extract (9*j+8+1) v.size)) c8;have d9:=rH (L:=L) (y := H (v.extract (9*j+8+1) v.size)) c9 (by omega);have K:=r9 (y := H (v.extract (9*j+8+1) v.size)) c8 co;have db:=cb.setCell (p:=⟨L,0,U⟩) u (H (v.extract (9*j+8+1) v.size));have g:=cU ((cT ah) w3 c8);clear ah c8 c9 co cb ai;go_wp2_with fail;refine(cT g).mono ?_;rintro e w4 ⟨rfl,rfl⟩;generalize Wm _ _ _=w4 at d8 d9 K db ⊢;have lb:I<256:=by rw[<-cT C];exact Sp.jm _ _
   by_cases G:1<I
   .have aj:(I:Int) > 1:=by omega
    have HR:Hid (b (Wd (Wb #[J U 0 0,Wa Wg])) w4):=by
     show b _ _
     rw[<-cT hO];exact⟨db,λh=>absurd (h j A) (by rw[cT C];omega),λ_=>O⟩
    clear d8 d9 K db g HI s o;go_wp2;exact cT HR
   .have aj:¬(I:Int) > 1:=by omega
    have f9:=rI (y := H (m.extract (12*j+4) m.size)) d9;have f8:=rH (L:=L+1) (y := H (m.extract (12*j+4) m.size)) d8 (by omega);have fo:=r9 (y := H (m.extract (12*j+4) m.size)) d9 K;have fb:=db.setCell (p:=⟨L+1,0,U⟩) (To u (Uh _)) (H (m.extract (12*j+4) m.size));have ak:=cU ((cT s) w4 d9);clear s d8 d9 K db g;go_wp2_with fail;refine(cT ak).mono ?_;rintro e w5 ⟨rfl,rfl⟩;generalize Wm _ _ _=w5 at f8 f9 fo fb ⊢;have k9:=rI (y := H (m.extract (12*j+4+8) m.size)) f9;have k8:=rH (L:=L+1) (y := H (m.extract (12*j+4+8) m.size)) f8 (by omega);have ko:=r9 (y := H (m.extract (12*j+4+8) m.size)) f9 fo;have kb:=fb.setCell (p:=⟨L+1,0,U⟩) (To u (Uh _)) (H (m.extract (12*j+4+8) m.size));have an:=cU ((cT o) w5 f9);clear o f8 f9 fo fb ak;go_wp2_with fail;refine(cT an).mono ?_;rintro e w6 ⟨rfl,rfl⟩;generalize Wm _ _ _=w6 at k8 k9 ko kb ⊢;have ay:IntKind.i64.wrap (a0:Int)=pT a0:=vQ (by rw[<-cT P];exact gX v 8 _);have az:IntKind.i64.wrap (a3:Int)=pT a3:=vQ (by rw[<-cT V];exact gX m 8 _);have l2:Q<4294967296:=by rw[<-cT R];exact gX m 4 _
    rw[cT P,cT C,cT R,cT V] at B;have aA:=MH I;obtain⟨q0,aB⟩:∃q0,Hid (pT a0=q0):=⟨_,rfl⟩
    obtain⟨q3,aC⟩:∃q3,Hid (pT a3=q3):=⟨_,rfl⟩
    obtain⟨qb,aD⟩:∃qb,Hid ((I == 1)=qb):=⟨_,rfl⟩
    rw[cT aB] at ay B;rw[cT aC] at az B;rw[cT aD] at aA B;have K8:=cU k8;have K9:=cU k9;have aE:=kb.size;have aF:Hid (∀q,q<j+1->bt v (9*q+8)<=1):=λq hq=>by
     by_cases e:q<j
     .exact(cT HG) q e
     .obtain rfl:q=j:=by omega
      rw[cT C];omega
    clear k8 k9 an HI;go_wp2_with (first
    |(at_builtin;go_must (refine Vf _ O (.tmp 28) (.tmp 38) 78 O (N (E w)) 104 t2 _ 4 32 underlying78 au av aw ax O (by decide) _ _ _ O (ko.alloc _) ⟨N (E w6),0,U⟩ 1 1 [Z Y q0,Wa qb,Z Y (Q:Int),Z Y q3] O O (Vv (cs := #[Z Y q0,Wa qb,Z Y (Q:Int),Z Y q3]) (t:=104) (fr:=(0,0)) (Tk w6 _)) (by simp[Value.oneCell']) (by unfold maxLen;omega) (by omega) (by first|omega|(simp;omega)) ?_))
     |go_in)
    intro v7 w7 ao aa _;have aq:=qO (ys:=[]) (v':=v7) (by simp;omega) (ko.alloc _) (kb.alloc aE _) aa;have aG:Hid (Rv w w7 L v m n (j+1) v7):=by
     have hA:V4 w6 (w6.alloc (D #[Z Y q0,Wa qb,Z Y (Q:Int),Z Y q3] 104)):=V3.alloc V2 _;have ar:∀(M:Nat) (c:Array V6),w6.heap[M]?=S (Obj.cells c 231 (0,0))->w7.heap[M]?=S (Obj.cells c 231 (0,0)):=λM c hM=>by
      have h1:=(hA.block M (cX hM)).trans hM;refine(aa.block M (cX h1) (λe=>?_)).trans h1;obtain⟨z,hz,_⟩:=di ko e.symm;exact dh hz hM (by decide) O
     refine⟨?_,?_,by rw[cT B];exact ao,aq,u⟩
     .rw[show 9*(j+1)=9*j+8+1 by omega];exact ar L _ (cT K8)
     .rw[show 12*(j+1)=12*j+4+8 by omega];exact ar (L+1) _ (cT K9)
    clear ao aa aq ko kb;go_wp2;go_roundw
    case rel=>exact⟨j+1,by omega,by go_num,aG,aF⟩
    case measure=>simp[intOf];omega
  .obtain rfl:j=n:=by omega
   have af:¬(j:Int)<(j:Int):=by omega
   obtain⟨b8,b9,ho,l,u⟩:=cT HI;obtain⟨q,cq,rfl⟩:=l5 ho;have HR:Hid (b (Wd (Wb #[J q j cq,Wa We])) wr):=by
    show b _ _
    rw[<-cT hO];exact⟨l,λ_=>⟨_,O,ho⟩,λh=>absurd (cT HG) h⟩
   clear b8 b9 ho l HI;go_wp2;exact cT HR
end Ru
namespace Ru
open Rd (Rk)
open Pk (jd Sm)
theorem AB(j l E n b:Nat)(Q R:Rk)(O:Nat->Prop)(a:V8)(w:V5)(h:jd w l E Q R O)(m:Sm Q n b)(r:n<=1000000000)(A:w.cell? ⟨j,0,U⟩=S (V9 (S ⟨l,0,U⟩))):V7 prog 77 #[V9 (S ⟨j,0,U⟩),H a] w λe u=>e=Wd (H (Q.rd a))/\V4 w u:=by
 have y:=cU (Pk.Pj a h m r);clear h m;go_enter func77,ntmps77;go_wp2_with fail;refine(cT y).mono ?_;rintro e B ⟨rfl,z⟩;go_wp2;go_ret;exact⟨rfl,z⟩
end Ru
namespace Ru
open Sp (nI l9 gW bt dt dw okB)
open Pk (di cX dh)
def Jb(W:V5)(B L dd n:Nat)(k m v:V8)(b:Nat)(e:Int):Prop:=(W.cell? ⟨B,0,U⟩=S (Z .u32 dd)/\W.cell? ⟨B,1,U⟩=S (Z Y n))/\
 (W.cell? ⟨B+1,0,U⟩=S (H k)/\W.cell? ⟨B+1,1,U⟩=S (H m)/\W.cell? ⟨B+1,2,U⟩=S (H v))/\
 (W.cell? ⟨L,0,U⟩=S (Z Y b)/\W.cell? ⟨L,1,U⟩=S (J U 0 0)/\W.cell? ⟨L,2,U⟩=S (Z Y e))
theorem Jb.below{W b:V5}{B L dd n:Nat}{k m v:V8}{e:Nat}{j:Int}(h:Jb W B L dd n k m v e j)(hb:V4 W b):Jb b B L dd n k m v e j:=by
 obtain⟨⟨r,u⟩,⟨y,z,A⟩,C,F,G⟩:=h;have f:∀{p:Addr} {x:V6},W.cell? p=S x->b.cell? p=S x:=λ{p x} l=>(hb.cell (Tu W _ l)).trans l
 exact⟨⟨f r,f u⟩,⟨f y,f z,f A⟩,f C,f F,f G⟩
def Good(dd n:Nat)(k m v:V8)(b:Nat)(e:Int):Prop:=k=dt (kB b e dd (gW v) (gW m))/\(okB v=We/\(dw v).size=9*n)/\(okB m=We/\(dw m).size=12*n)/\∀i,i<n->bt (dw v) (9*i+8)<=1
def zL(dd n:Nat)(k m v:V8)(b:Nat)(j:Int)(w:V5)(e:Ending)(w':V5):Prop:=V4 w w'/\
 (Good dd n k m v b j->∃sl,e=Wd (Wb #[Wc #[Z Y b,sl,Z Y j],Wa We])/\w'.ownsRow (N (E w)) 104 4 sl n (jk (gC (dw v) (dw m) ⟨#[]⟩ n).val (gC (dw v) (dw m) ⟨#[]⟩ n).fD (gC (dw v) (dw m) ⟨#[]⟩ n).iH (gC (dw v) (dw m) ⟨#[]⟩ n).jf n))/\
 (¬Good dd n k m v b j->∃s l:Int,e=Wd (Wb #[Wc #[Z Y s,J U 0 0,Z Y l],Wa Wg]))
theorem vE(dd n:Nat)(k m v:V8)(l:Nat)(r:Int)(w:V5)(hn:n<=64)(hj:dd<4294967296)(hk:k.size<=4194304)(hm:m.size<=4194304)(hv:v.size<=4194304)(h1:okB k=We)(h2:(dw k).size=24)(az:num (dw k) 0 4=l)(aJ:pT (num (dw k) 4 8)=r):V7 prog 80 #[Wc #[Z .u32 dd,Z Y n],Wc #[H k,H m,H v]] w (zL dd n k m v l r w):=by
 have bk:l<4294967296:=by rw[<-az];exact gX _ 4 0
 have HO:=cU (λW=>r5 k W hk h1 h2);rw[az,aJ] at HO;generalize hO:zL dd n k m v l r w=j;replace hO:=cU hO;clear h1 h2 az aJ;have aK:=cU (jj w #[Z .u32 dd,Z Y n] #[H k,H m,H v] gF 91 176 80);go_enter func80,ntmps80;go_wp2_with fail;generalize hW:Wl (Wl _ _) _=W0;obtain⟨b1,b2,b3,aA,hz⟩:=cT aK W0 hW.symm;clear hW aK;refine((cT HO) W0).mono ?_;rintro e w1 ⟨rfl,an⟩;obtain⟨L,hL⟩:∃L,N (E w1)=L:=⟨_,rfl⟩
 have hA:V4 w1 (w1.alloc (D #[Z Y l,J U 0 0,Z Y r] 80)):=V3.alloc V2 _;have I:=Tk w1 (D #[Z Y l,J U 0 0,Z Y r] 80);have t:=an.trans (hA.mono an.size);clear HO;go_upto_region 2 with fail;rw[hL] at I;generalize aU:Wl _ _=W2 at I t ⊢;have e1:=(t.block _ (cX b1)).trans b1;have e2:=(t.block _ (cX b2)).trans b2;have e3:=(t.block _ (cX b3)).trans b3;have aB:=aA.trans (t.mono aA.size);have aV:N (E w)+1+1<L:=by have:=an.size;omega
 have HJ:Jb W2 (N (E w)) L dd n k m v l r:=⟨⟨by rw[Ti W2 _ 0 _ _ _ e1];rfl,by rw[Ti W2 _ 1 _ _ _ e1];rfl⟩,⟨by rw[Ti W2 _ 0 _ _ _ e2];rfl,by rw[Ti W2 _ 1 _ _ _ e2];rfl,by rw[Ti W2 _ 2 _ _ _ e2];rfl⟩,by rw[Ti W2 _ 0 _ _ _ I];rfl,by rw[Ti W2 _ 1 _ _ _ I];rfl,by rw[Ti W2 _ 2 _ _ _ I];rfl⟩
 have E3:=cU e3;have EL:=cU I;clear aU b1 b2 b3 aA an t hA e1 e2 e3 I hz hL;obtain⟨KB,ao⟩:∃KB,Hid (kB l r dd (gW v) (gW m)=KB):=⟨_,rfl⟩
 obtain⟨SB,aC⟩:∃SB,Hid (dt KB=SB):=⟨_,rfl⟩
 have HC:Hid (∀V,Jb V (N (E w)) L dd n k m v l r->V4 W2 V->V7 prog 122 #[Wc #[Z .u32 dd,Z Y n],Z Y l,Z Y r,Wc #[H k,H m,H v]] V λe F=>e=Wd (H KB)/\Jb F (N (E w)) L dd n k m v l r/\V4 W2 F):=λV hJ hB=>by
  have h:=tP dd n l r k m v V hj (by omega) hm hv;rw[cT ao] at h;exact h.mono λe F ⟨he,hb⟩=>⟨he,hJ.below hb,hB.trans (hb.mono hB.size)⟩
 have HS:Hid (∀V,Jb V (N (E w)) L dd n k m v l r->V4 W2 V->V7 prog 121 #[H KB] V λe F=>e=Wd (H SB)/\Jb F (N (E w)) L dd n k m v l r/\V4 W2 F):=λV hJ hB=>by
  have h:=o8 KB V (by rw[<-cT ao,lX];omega);rw[cT aC] at h;exact h.mono λe F ⟨he,hb⟩=>⟨he,hJ.below hb,hB.trans (hb.mono hB.size)⟩
 have aW:Hid (∀(args:Array V6) (w:V5),(callFunc 122 args).run prog w=.ok (.enter 122 args) w):=da func122 (by kernel_rfl) (by kernel_rfl);have aX:Hid (∀(args:Array V6) (w:V5),(callFunc 121 args).run prog w=.ok (.enter 121 args) w):=da func121 (by kernel_rfl) (by kernel_rfl);obtain⟨⟨j0,j1⟩,⟨s0,s1,s2⟩,c0,c1,c2⟩:=HJ;apply vk (λF=>Jb F (N (E w)) L dd n k m v l r/\V4 W2 F);apply Exists.intro;apply And.intro
 case left =>
  have ae:V4 W2 W2.drew:=V3.drew
  go_region_held3 (λF=>(F.cell? ⟨N (E w),0,U⟩=S (Z .u32 dd)/\F.cell? ⟨N (E w),1,U⟩=S (Z Y n))/\
   (F.cell? ⟨N (E w)+1,0,U⟩=S (H k)/\F.cell? ⟨N (E w)+1,1,U⟩=S (H m)/\F.cell? ⟨N (E w)+1,2,U⟩=S (H v))/\
   (F.cell? ⟨L,0,U⟩=S (Z Y l)/\F.cell? ⟨L,1,U⟩=S (J U 0 0)/\F.cell? ⟨L,2,U⟩=S (Z Y r)))
   (first|(go_keep;done)|(exact⟨⟨by assumption,by assumption⟩,⟨by assumption,by assumption,by assumption⟩,by assumption,by assumption,by assumption⟩))
   (first
    |(go_at_call 122;refine((cT HC) _ (by exact⟨⟨by assumption,by assumption⟩,⟨by assumption,by assumption,by assumption⟩,by assumption,by assumption,by assumption⟩) (by assumption)).mono ?_;rintro e w5 ⟨rfl,⟨⟨bn,bo⟩,⟨bp,bq,br⟩,bs,c51,bu⟩,bw⟩)
    |(go_at_call 121;refine((cT HS) _ (by exact⟨⟨by assumption,by assumption⟩,⟨by assumption,by assumption,by assumption⟩,by assumption,by assumption,by assumption⟩) (by assumption)).mono ?_;rintro e Q ⟨rfl,⟨⟨aY,aZ⟩,⟨a1,a6,a7⟩,a8,ba,bc⟩,o⟩))
  all_goals exact⟨O,O,⟨⟨aY,aZ⟩,⟨a1,a6,a7⟩,a8,ba,bc⟩,o⟩
 case right =>
 rintro Q ⟨aL,o⟩;clear j0 j1 s0 s1 s2 c0 c1 c2 HC HS aW aX;have af:=aB.trans (o.mono aB.size);have u:=(o.block _ (cX (cT E3))).trans (cT E3);have aq:=(o.block _ (cX (cT EL))).trans (cT EL);clear o aB E3 EL;have K:Hid (∀W,V4 w W->¬Good dd n k m v l r->j (Wd (Wb #[Wc gF,Wa Wg])) W):=λW hb hg=>by
  rw[<-cT hO];exact⟨hb,λh=>absurd h hg,λ_=>⟨0,0,O⟩⟩
 by_cases ag:k=SB
 .have ah:(!k.toList == SB.toList)=Wg:=by rw[ag];simp
  have bd:IntKind.i64.wrap ((n:Int)*9)=((9*n:Nat):Int):=by rw[TJ];omega
  have aM:IntKind.i64.wrap ((n:Int)*12)=((12*n:Nat):Int):=by rw[TJ];omega
  have ai:=cU (λW=>n7 v (9*n) W (by omega) (by omega));have g:=cU (λW=>n7 m (12*n) W (by omega) (by omega));obtain⟨bv,aD⟩:∃b,Hid ((okB v&&decide ((dw v).size=9*n))=b):=⟨_,rfl⟩
  obtain⟨bm,aE⟩:∃b,Hid ((okB m&&decide ((dw m).size=12*n))=b):=⟨_,rfl⟩
  rw[cT aD] at ai;rw[cT aE] at g;obtain⟨PV,ar⟩:∃P,Hid (dw v=P):=⟨_,rfl⟩
  obtain⟨PM,aF⟩:∃P,Hid (dw m=P):=⟨_,rfl⟩
  rw[cT ar] at ai;rw[cT aF] at g;obtain⟨nv,bg⟩:∃x,Hid (9*n=x):=⟨_,rfl⟩
  obtain⟨bx,bh⟩:∃x,Hid (12*n=x):=⟨_,rfl⟩
  rw[cT bg] at ai bd;rw[cT bh] at g aM;obtain⟨⟨j0,j1⟩,⟨s0,s1,s2⟩,c0,c1,c2⟩:=aL;have bj:=cU ag;clear ag;simp only[ah];clear ah;go_wp2_with fail;refine((cT ai) Q).mono ?_;rintro e T ⟨rfl,aa⟩;have aj:=af.trans (aa.mono af.size);have y:=(aa.block _ (cX u)).trans u;have au:=(aa.block _ (cX aq)).trans aq;have j7:T.cell? ⟨N (E w),1,U⟩=S (Z Y n):=(aa.cell (Tu Q _ j1)).trans j1;have s7:T.cell? ⟨N (E w)+1,1,U⟩=S (H m):=(aa.cell (Tu Q _ s1)).trans s1;clear j0 j1 s0 s1 s2 c0 c1 c2 aa af u aq ai;cases bv with
  |false =>
   have HF:Hid (j (Wd (Wb #[Wc gF,Wa Wg])) (((T.setCell ⟨N (E w)+1+1,0,U⟩ (Z Y 0)).setCell ⟨N (E w)+1+1,1,U⟩ (J U 0 0)).setCell ⟨N (E w)+1+1,2,U⟩ (Z Y 0))):=(cT K) _ (((aj.setCell (p:=⟨N (E w)+1+1,0,U⟩) (Vz _ 2) _).setCell (p:=⟨N (E w)+1+1,1,U⟩) (Vz _ 2) _).setCell (p:=⟨N (E w)+1+1,2,U⟩) (Vz _ 2) _) (λhg=>by have:=cT aD;rw[hg.2.1.1,hg.2.1.2] at this;simp at this);have r0:T.cell? ⟨N (E w)+1+1,0,U⟩=S (Z Y 0):=by rw[Ti T _ 0 _ _ _ y];rfl
   have r1:T.cell? ⟨N (E w)+1+1,1,U⟩=S (J U 0 0):=by rw[Ti T _ 1 _ _ _ y];rfl
   have r2:T.cell? ⟨N (E w)+1+1,2,U⟩=S (Z Y 0):=by rw[Ti T _ 2 _ _ _ y];rfl
   have g0:T.frozen? ⟨N (E w)+1+1,0,U⟩=Wg:=by simp[World.frozen?,y]
   have g1:T.frozen? ⟨N (E w)+1+1,1,U⟩=Wg:=by simp[World.frozen?,y]
   have g2:T.frozen? ⟨N (E w)+1+1,2,U⟩=Wg:=by simp[World.frozen?,y]
   clear aj K y au g;go_wp2;exact Tj (v := Wb #[Wc gF,Wa Wg]) (by simp[results,results80,go_sem,r0,r1,r2,gF]) O (cT HF)
  |true =>
  go_wp2_with fail;refine((cT g) T).mono ?_;rintro e M ⟨rfl,ak⟩;have ab:=aj.trans (ak.mono aj.size);have B:=(ak.block _ (cX y)).trans y;have av:=(ak.block _ (cX au)).trans au;have j8:M.cell? ⟨N (E w),1,U⟩=S (Z Y n):=(ak.cell (Tu T _ j7)).trans j7;clear j7 s7 ak aj y au g;cases bm with
  |false =>
   have HF:Hid (j (Wd (Wb #[Wc gF,Wa Wg])) (((M.setCell ⟨N (E w)+1+1,0,U⟩ (Z Y 0)).setCell ⟨N (E w)+1+1,1,U⟩ (J U 0 0)).setCell ⟨N (E w)+1+1,2,U⟩ (Z Y 0))):=(cT K) _ (((ab.setCell (p:=⟨N (E w)+1+1,0,U⟩) (Vz _ 2) _).setCell (p:=⟨N (E w)+1+1,1,U⟩) (Vz _ 2) _).setCell (p:=⟨N (E w)+1+1,2,U⟩) (Vz _ 2) _) (λhg=>by have:=cT aE;rw[hg.2.2.1.1,hg.2.2.1.2] at this;simp at this);have r0:M.cell? ⟨N (E w)+1+1,0,U⟩=S (Z Y 0):=by rw[Ti M _ 0 _ _ _ B];rfl
   have r1:M.cell? ⟨N (E w)+1+1,1,U⟩=S (J U 0 0):=by rw[Ti M _ 1 _ _ _ B];rfl
   have r2:M.cell? ⟨N (E w)+1+1,2,U⟩=S (Z Y 0):=by rw[Ti M _ 2 _ _ _ B];rfl
   have g0:M.frozen? ⟨N (E w)+1+1,0,U⟩=Wg:=by simp[World.frozen?,B]
   have g1:M.frozen? ⟨N (E w)+1+1,1,U⟩=Wg:=by simp[World.frozen?,B]
   have g2:M.frozen? ⟨N (E w)+1+1,2,U⟩=Wg:=by simp[World.frozen?,B]
   clear ab K B av;go_wp2;exact Tj (v := Wb #[Wc gF,Wa Wg]) (by simp[results,results80,go_sem,r0,r1,r2,gF]) O (cT HF)
  |true =>
  have aG:okB v=We/\(dw v).size=9*n:=by have:=cT aD;simpa using this
  have aH:okB m=We/\(dw m).size=12*n:=by have:=cT aE;simpa using this
  have aN:=cU (sk PV PM n M hn (by show _=_;rw[<-cT ar];exact aG.2) (by show _=_;rw[<-cT aF];exact aH.2));have aI:Hid (Good dd n k m v l r↔∀i,i<n->bt PV (9*i+8)<=1):=by
   show _↔_
   rw[<-cT ar];exact⟨λh=>h.2.2.2,λh=>⟨by rw[cT ao,cT aC];exact cT bj,aG,aH,h⟩⟩
  clear aG aH;go_wp2_with fail;refine(cT aN).mono ?_;rintro e C ⟨ae,ay,aO⟩;have aP:=ab.trans (ae.mono ab.size);have G:=(ae.block _ (cX B)).trans B;have ad:=(ae.block _ (cX av)).trans av;obtain⟨R,hR⟩:∃R,N (E w)+1+1=R:=⟨_,rfl⟩
  rw[hR] at G;have aQ:R≠L:=by omega
  have aw:N (E w)<=R:=by omega
  have aR:N (E w)<=L:=by omega
  have aS:Hid (∃(q:Option Addr) (nn X:Nat) (ok:Bool),e=Wd (Wb #[J q nn X,Wa ok])/\Hid (j (Wd (Wb #[Wc #[Z Y l,J q nn X,Z Y r],Wa ok])) ((((C.setCell ⟨L,1,U⟩ (J q nn X)).setCell ⟨R,0,U⟩ (Z Y l)).setCell ⟨R,1,U⟩ (J q nn X)).setCell ⟨R,2,U⟩ (Z Y r)))):=by
   show ∃_,_
   have aT:∀s:V6,V4 w ((((C.setCell ⟨L,1,U⟩ s).setCell ⟨R,0,U⟩ (Z Y l)).setCell ⟨R,1,U⟩ s).setCell ⟨R,2,U⟩ (Z Y r)):=λs =>
    (((aP.setCell (p:=⟨L,1,U⟩) aR _).setCell (p:=⟨R,0,U⟩) aw _).setCell (p:=⟨R,1,U⟩) aw _).setCell (p:=⟨R,2,U⟩) aw _
   by_cases hr:∀i,i<n->bt PV (9*i+8)<=1
   .obtain⟨sl,rfl,ho⟩:=ay hr;obtain⟨q,X,rfl⟩:=l5 ho;refine⟨q,n,X,We,O,?_⟩
    show j _ _
    rw[<-cT hO];refine⟨aT _,λ_=>⟨_,O,?_⟩,λh=>absurd ((cT aI).2 hr) h⟩;have ax:∀(W:V5) (A i:Nat) (x:V6) (c:Array V6),W.heap[A]?=S (D c 80 (0,0))->∀{xs:List V6},W.ownsRow (N (E M)) 104 4 (J q n X) n xs->(W.setCell ⟨A,i,U⟩ x).ownsRow (N (E M)) 104 4 (J q n X) n xs:=λW A i x c hA xs hx =>
     Ui hx (λe=>by obtain⟨z,hz,_⟩:=di hx e;exact dh hz hA (by decide) O) _
    have hh:N (E w)<=N (E M):=ab.size;rw[cT ar,cT aF];refine Rd.mj ?_ hh;have o1:=ax C L 1 (J q n X) _ ad ho;have E1:(C.setCell ⟨L,1,U⟩ (J q n X)).heap[R]?=_:=(Tv _ _ _ _ (λe=>aQ e)).trans G;have o2:=ax _ R 0 (Z Y l) _ E1 o1;have E2:=Tq _ R 0 _ _ (Z Y (l:Int)) E1;have o3:=ax _ R 1 (J q n X) _ E2 o2;have E3:=Tq _ R 1 _ _ (J q n X) E2;exact ax _ R 2 (Z Y r) _ E3 o3
   .obtain rfl:=aO hr;refine⟨U,0,0,Wg,O,?_⟩
    show j _ _
    rw[<-cT hO];exact⟨aT _,λh=>absurd ((cT aI).1 h) hr,λ_=>⟨_,_,O⟩⟩
  clear ay aO ae ab aP aN aI K B av j8;obtain⟨q,nn,X,ok,rfl,HF⟩:=cT aS;clear aS;have r0:C.cell? ⟨R,0,U⟩=S (Z Y 0):=by rw[Ti C _ 0 _ _ _ G];rfl
  have r1:C.cell? ⟨R,1,U⟩=S (J U 0 0):=by rw[Ti C _ 1 _ _ _ G];rfl
  have r2:C.cell? ⟨R,2,U⟩=S (Z Y 0):=by rw[Ti C _ 2 _ _ _ G];rfl
  have l0:C.cell? ⟨L,0,U⟩=S (Z Y l):=by rw[Ti C _ 0 _ _ _ ad];rfl
  have l1:C.cell? ⟨L,1,U⟩=S (J U 0 0):=by rw[Ti C _ 1 _ _ _ ad];rfl
  have l2:C.cell? ⟨L,2,U⟩=S (Z Y r):=by rw[Ti C _ 2 _ _ _ ad];rfl
  have g0:C.frozen? ⟨R,0,U⟩=Wg:=by simp[World.frozen?,G]
  have g1:C.frozen? ⟨R,1,U⟩=Wg:=by simp[World.frozen?,G]
  have g2:C.frozen? ⟨R,2,U⟩=Wg:=by simp[World.frozen?,G]
  have f1:C.frozen? ⟨L,1,U⟩=Wg:=by simp[World.frozen?,ad]
  rw[hR];clear G ad hR aw aR aV;go_wp2;exact Tj (v := Wb #[Wc #[Z Y l,J q nn X,Z Y r],Wa ok]) (by simp[results,results80,go_sem,r0,r1,r2,l0,l1,l2,aQ]) O (cT HF)
 .have ah:(!k.toList == SB.toList)=We:=by rw[Tt.2 (λh=>ag (Sd.toList_inj h))];rfl
  simp only[ah];clear ah;have HF:Hid (j (Wd (Wb #[Wc gF,Wa Wg])) (((Q.setCell ⟨N (E w)+1+1,0,U⟩ (Z Y 0)).setCell ⟨N (E w)+1+1,1,U⟩ (J U 0 0)).setCell ⟨N (E w)+1+1,2,U⟩ (Z Y 0))):=(cT K) _ (((af.setCell (p:=⟨N (E w)+1+1,0,U⟩) (Vz _ 2) _).setCell (p:=⟨N (E w)+1+1,1,U⟩) (Vz _ 2) _).setCell (p:=⟨N (E w)+1+1,2,U⟩) (Vz _ 2) _) (λhg=>ag (by rw[hg.1,cT ao,cT aC]));have r0:Q.cell? ⟨N (E w)+1+1,0,U⟩=S (Z Y 0):=by rw[Ti Q _ 0 _ _ _ u];rfl
  have r1:Q.cell? ⟨N (E w)+1+1,1,U⟩=S (J U 0 0):=by rw[Ti Q _ 1 _ _ _ u];rfl
  have r2:Q.cell? ⟨N (E w)+1+1,2,U⟩=S (Z Y 0):=by rw[Ti Q _ 2 _ _ _ u];rfl
  have g0:Q.frozen? ⟨N (E w)+1+1,0,U⟩=Wg:=by simp[World.frozen?,u]
  have g1:Q.frozen? ⟨N (E w)+1+1,1,U⟩=Wg:=by simp[World.frozen?,u]
  have g2:Q.frozen? ⟨N (E w)+1+1,2,U⟩=Wg:=by simp[World.frozen?,u]
  clear aL af K u aq;go_wp2;exact Tj (v := Wb #[Wc gF,Wa Wg]) (by simp[results,results80,go_sem,r0,r1,r2,gF]) O (cT HF)
end Ru
namespace Ru
open Sp (nI l9 gW bt dt dw okB)
open Rd (Rk)
open Pk (jd Sm di cX dh)
theorem LW{Q:Rk}{n b:Nat}(h:Sm Q n b)(a:V8):(Q.rd a).size<=b:=by
 unfold Rk.rd;split
 .exact Tp _
 .cases Rd.dx Q.now a with
  |none=>exact Tp _
  |some i=>exact h.fl i
abbrev KU(F:V8->V8)(n b:Nat):List V6:=jk (fw F n b).val (fw F n b).fD (fw F n b).iH (fw F n b).jf n
def DY(Q:Rk)(n dd:Nat)(a:V8)(w:V5)(e:Ending)(w':V5):Prop:=V4 w w'/\
 (∀b,GJ Q.rd n dd a b->∃sl,e=Wd (Wb #[Wc #[Z Y b,sl,Z Y (fw Q.rd n b).all],Wa We])/\w'.ownsRow (N (E w)) 104 4 sl n (KU Q.rd n b))/\
 ((∀b,¬GJ Q.rd n dd a b)->∃s j:Int,e=Wd (Wb #[Wc #[Z Y s,J U 0 0,Z Y j],Wa Wg]))
def Fb(W:V5)(b e L dd n j:Nat):Prop:=(W.cell? ⟨b,0,U⟩=S (V9 (S ⟨e,0,U⟩))/\W.cell? ⟨b,1,U⟩=S (Z .u32 dd)/\W.cell? ⟨b,2,U⟩=S (Z Y n))/\W.cell? ⟨L,0,U⟩=S (Z Y j)
theorem Fb.below{W j:V5}{b e L dd n l:Nat}(h:Fb W b e L dd n l)(hb:V4 W j):Fb j b e L dd n l:=by
 obtain⟨⟨r,u,y⟩,z⟩:=h;have f:∀{p:Addr} {x:V6},W.cell? p=S x->j.cell? p=S x:=λ{p x} m=>(hb.cell (Tu W _ m)).trans m
 exact⟨⟨f r,f u,f y⟩,f z⟩
theorem JZ(j l E nn b dd n:Nat)(Q R:Rk)(O:Nat->Prop)(a:V8)(w:V5)(h:jd w l E Q R O)(hs:Sm Q nn b)(aJ:nn<=1000000000)(G:b<=2097152)(hn:n<=64)(hj:dd<4294967296)(aF:fN w)(c0:w.cell? ⟨j,0,U⟩=S (V9 (S ⟨l,0,U⟩)))(c1:w.cell? ⟨j,1,U⟩=S (Z .u32 dd))(c2:w.cell? ⟨j,2,U⟩=S (Z Y n)):V7 prog 45 #[V9 (S ⟨j,0,U⟩),H a] w (DY Q n dd a w):=by
 generalize hO:DY Q n dd a w=O';replace hO:=cU hO;have an:Hid (∀(W:V5) (y:V8),V4 w W->V7 prog 77 #[V9 (S ⟨j,0,U⟩),H y] W λe C=>e=Wd (H (Q.rd y))/\V4 W C):=λW y hW =>
  AB j l E nn b Q R O y W (h.below hW) hs aJ ((hW.cell (Tu w _ c0)).trans c0)
 have ae:=cU (λy=>LW hs y);have af:Hid (∀W,V4 w W->(∀F,¬GJ Q.rd n dd a F)->∀s ax:Int,O' (Wd (Wb #[Wc #[Z Y s,J U 0 0,Z Y ax],Wa Wg])) W):=λW hb hg s ax=>by
  rw[<-cT hO];exact⟨hb,λF h=>absurd h (hg F),λ_=>⟨s,ax,rfl⟩⟩
 have ao:=cU aF;have C0:=cU c0;have C1:=cU c1;have C2:=cU c2;have aG:Hid (∀W,W=w.alloc (D gF 80)->W.heap[w.heap.size]?=S (D gF 80 (0,0))/\V4 w W):=by
  show ∀W,_
  rintro W rfl;exact⟨Tk w _,(Th _ w).alloc V2 _⟩
 clear h hs aF c0 c1 c2;go_enter func45,ntmps45;go_wp2_with fail;generalize hW:Wl _ _=W0;obtain⟨ay,aq⟩:=cT aG W0 hW.symm;clear hW aG;refine((cT an) W0 a aq).mono ?_;rintro e w1 ⟨rfl,az⟩;have E1:=(az.block _ (cX ay)).trans ay;have ag:=aq.trans (az.mono aq.size);clear az aq ay;have sK:=(cT ae) a;by_cases X:okB (Q.rd a)=We/\(dw (Q.rd a)).size=24
 .obtain⟨F,t⟩:∃F,Hid (num (dw (Q.rd a)) 0 4=F):=⟨_,rfl⟩
  obtain⟨al,ah⟩:∃al,Hid (pT (num (dw (Q.rd a)) 4 8)=al):=⟨_,rfl⟩
  have T:=cU (r5 (Q.rd a) w1 (by omega) X.1 X.2);have ar:=cU X;rw[cT t,cT ah] at T;obtain⟨K,HK⟩:∃K,Hid (Q.rd a=K):=⟨_,rfl⟩
  rw[cT HK] at T t ah ar sK ⊢;clear X;go_wp2_with fail;refine(cT T).mono ?_;rintro e w2 ⟨rfl,G⟩;have hA:V4 w2 (w2.alloc (D #[Z Y F,J U 0 0,Z Y al] 80)):=V3.alloc V2 _;have ai:=Tk w2 (D #[Z Y F,J U 0 0,Z Y al] 80);have o:=G.trans (hA.mono G.size);have g:=(o.block _ (cX E1)).trans E1;have I:=ag.trans (o.mono ag.size);have aK:w.heap.size<w2.heap.size:=TI (cX E1) G.size;clear T G hA o E1 ag;go_upto_region 3 with fail;obtain⟨L,hL⟩:∃L,w2.heap.size=L:=⟨_,rfl⟩
  rw[hL] at ai aK;generalize aL:Wl _ _=w3 at g I ai ⊢;clear aL
  try rw[hL]
  clear hL;have aW:F<4294967296:=by rw[<-cT t];exact gX _ 4 0
  have l0:w3.cell? ⟨L,0,U⟩=S (Z Y F):=by rw[Ti w3 _ 0 _ _ _ ai];rfl
  have aA:=cU (kL F w3 (by omega) ((cT ao).below I));obtain⟨m,HN⟩:∃m,Hid (nm 99 F=m):=⟨_,rfl⟩
  rw[cT HN] at aA;go_wp2_with fail;refine(cT aA).mono ?_;rintro e w4 ⟨rfl,au⟩;have E4:=(au.block _ (cX g)).trans g;have aB:=(au.block _ (cX ai)).trans ai;have aa:=I.trans (au.mono I.size);clear au g ai I l0 aA;by_cases aj:m=a
  .have aH:=cU aj;have hz:(m.toList == a.toList)=We:=UH.2 (by rw[aj]);clear aj;obtain⟨N1,ak⟩:∃m,Hid (nm 109 F=m):=⟨_,rfl⟩
   obtain⟨N2,ab⟩:∃m,Hid (nm 118 F=m):=⟨_,rfl⟩
   obtain⟨M,HM⟩:∃m,Hid (Q.rd N1=m):=⟨_,rfl⟩
   obtain⟨V,HV⟩:∃m,Hid (Q.rd N2=m):=⟨_,rfl⟩
   have sM:M.size<=4194304:=by rw[<-cT HM];have:=(cT ae) N1;omega
   have sV:V.size<=4194304:=by rw[<-cT HV];have:=(cT ae) N2;omega
   have av:Hid (∀s,GJ Q.rd n dd a s↔s=F/\Good dd n K M V F al):=λs=>by
    obtain⟨k1,k2⟩:=cT ar;constructor
    .rintro⟨h1,h2,h3,h4,h5,h6,h7,h8,h9,aC⟩;rw[cT HK,cT t] at h3;subst h3;rw[cT ab] at h5 h6 h7 aC;rw[cT ak] at h5 h8 h9;rw[cT HK,cT ah,cT HM,cT HV] at h5;rw[cT HV] at h6 h7 aC;rw[cT HM] at h8 h9;exact⟨rfl,h5,⟨h6,h7⟩,⟨h8,h9⟩,aC⟩
    .rintro⟨rfl,g1,⟨g2,g3⟩,⟨g4,g5⟩,g6⟩;refine⟨by rw[cT HK];exact k1,by rw[cT HK];exact k2,by rw[cT HK,cT t],by rw[cT HN];exact cT aH,?_,?_,?_,?_,?_,?_⟩
     .rw[cT ak,cT ab,cT HK,cT ah,cT HM,cT HV];exact g1
     .rw[cT ab,cT HV];exact g2
     .rw[cT ab,cT HV];exact g3
     .rw[cT ak,cT HM];exact g4
     .rw[cT ak,cT HM];exact g5
     .rw[cT ab,cT HV];exact g6
   have aM:Fb w4 j l L dd n F:=⟨⟨(aa.cell (Tu w _ (cT C0))).trans (cT C0),(aa.cell (Tu w _ (cT C1))).trans (cT C1),(aa.cell (Tu w _ (cT C2))).trans (cT C2)⟩,by rw[Ti w4 _ 0 _ _ _ aB];rfl⟩
   have aX:Hid (V4 w w4.drew/\w4.drew.heap[w.heap.size]?=S (D gF 80 (0,0))):=⟨aa.drew,E4⟩
   have ad:∀{W W':V5},Fb W j l L dd n F->Hid (V4 w W/\W.heap[w.heap.size]?=S (D gF 80 (0,0)))->V4 W W'->Fb W' j l L dd n F/\Hid (V4 w W'/\W'.heap[w.heap.size]?=S (D gF 80 (0,0))):=λ{W W'} hF P hB=>⟨hF.below hB,(cT P).1.trans (hB.mono (cT P).1.size),(hB.block _ (cX (cT P).2)).trans (cT P).2⟩
   have aN:Hid (∀W,Fb W j l L dd n F->Hid (V4 w W/\W.heap[w.heap.size]?=S (D gF 80 (0,0)))->V7 prog 81 #[Z Y F] W λe C=>e=Wd (H N1)/\Fb C j l L dd n F/\Hid (V4 w C/\C.heap[w.heap.size]?=S (D gF 80 (0,0)))):=λW hF P=>by
    have h:=iS F W (by omega) ((cT ao).below (cT P).1);rw[cT ak] at h;exact h.mono λe C ⟨he,hb⟩=>⟨he,ad hF P hb⟩
   have aO:Hid (∀W,Fb W j l L dd n F->Hid (V4 w W/\W.heap[w.heap.size]?=S (D gF 80 (0,0)))->V7 prog 82 #[Z Y F] W λe C=>e=Wd (H N2)/\Fb C j l L dd n F/\Hid (V4 w C/\C.heap[w.heap.size]?=S (D gF 80 (0,0)))):=λW hF P=>by
    have h:=kO F W (by omega) ((cT ao).below (cT P).1);rw[cT ab] at h;exact h.mono λe C ⟨he,hb⟩=>⟨he,ad hF P hb⟩
   have aP:Hid (∀(W:V5) (y r:V8),Hid (Q.rd y=r)->Fb W j l L dd n F->Hid (V4 w W/\W.heap[w.heap.size]?=S (D gF 80 (0,0)))->V7 prog 77 #[V9 (S ⟨j,0,U⟩),H y] W λe C=>e=Wd (H r)/\Fb C j l L dd n F/\Hid (V4 w C/\C.heap[w.heap.size]?=S (D gF 80 (0,0)))):=λW y r hz hF P=>by
    have h:=(cT an) W y (cT P).1;rw[cT hz] at h;exact h.mono λe C ⟨he,hb⟩=>⟨he,ad hF P hb⟩
   have aQ:j≠w.heap.size:=Nat.ne_of_lt (Tu w _ (cT C0));have aR:L≠w.heap.size:=by omega
   have aD:∀{W:V5},Fb W j l L dd n F->∀x y z:V6,Fb (((W.setCell ⟨w.heap.size,0,U⟩ x).setCell ⟨w.heap.size,1,U⟩ y).setCell ⟨w.heap.size,2,U⟩ z) j l L dd n F:=λ{W} hF x y z=>by
    have f1:∀{W:V5} (i:Nat) (u:V6),Fb W j l L dd n F->Fb (W.setCell ⟨w.heap.size,i,U⟩ u) j l L dd n F:=λ{W} i u hF=>by
     obtain⟨⟨a1,a2,a3⟩,c1⟩:=hF;have eS:=Tv W ⟨w.heap.size,i,U⟩ u j aQ;have eL:=Tv W ⟨w.heap.size,i,U⟩ u L aR;exact⟨⟨(UI (w:=W) eS).trans a1,(UI (w:=W) eS).trans a2,(UI (w:=W) eS).trans a3⟩,(UI (w:=W) eL).trans c1⟩
    exact f1 2 z (f1 1 y (f1 0 x hF))
   have aS:Hid (∀W,Fb W j l L dd n F->Hid (V4 w W/\W.heap[w.heap.size]?=S (D gF 80 (0,0)))->V7 prog 80 #[Wc #[Z .u32 dd,Z Y n],Wc #[H K,H M,H V]] W λe C=>∃(s:Int) (q:Option Addr) (qn cq:Nat) (a':Int) (ok:Bool),e=Wd (Wb #[Wc #[Z Y s,J q qn cq,Z Y a'],Wa ok])/\(Fb C j l L dd n F/\Fb (((C.setCell ⟨w.heap.size,0,U⟩ (Z Y s)).setCell ⟨w.heap.size,1,U⟩ (J q qn cq)).setCell ⟨w.heap.size,2,U⟩ (Z Y a')) j l L dd n F)/\(C.cell? ⟨w.heap.size,0,U⟩=S (Z Y 0)/\C.cell? ⟨w.heap.size,1,U⟩=S (J U 0 0)/\C.cell? ⟨w.heap.size,2,U⟩=S (Z Y 0))/\(C.frozen? ⟨w.heap.size,0,U⟩=Wg/\C.frozen? ⟨w.heap.size,1,U⟩=Wg/\C.frozen? ⟨w.heap.size,2,U⟩=Wg)/\Hid (O' (Wd (Wb #[Wc #[Z Y s,J q qn cq,Z Y a'],Wa ok])) (((C.setCell ⟨w.heap.size,0,U⟩ (Z Y s)).setCell ⟨w.heap.size,1,U⟩ (J q qn cq)).setCell ⟨w.heap.size,2,U⟩ (Z Y a')))):=λW aw P=>by
    obtain⟨k1,k2⟩:=cT ar;refine(vE dd n K M V F al W hn hj (by omega) sM sV k1 k2 (cT t) (cT ah)).mono ?_;rintro e C ⟨hb,hy,aT⟩;have hE:=(hb.block _ (cX (cT P).2)).trans (cT P).2;have aU:=(cT P).1.trans (hb.mono (cT P).1.size);have aI:∀x y z:V6,V4 w (((C.setCell ⟨w.heap.size,0,U⟩ x).setCell ⟨w.heap.size,1,U⟩ y).setCell ⟨w.heap.size,2,U⟩ z):=λx y z =>
     ((aU.setCell (p:=⟨w.heap.size,0,U⟩) V2 _).setCell (p:=⟨w.heap.size,1,U⟩) V2 _).setCell (p:=⟨w.heap.size,2,U⟩) V2 _
    have hc:(C.cell? ⟨w.heap.size,0,U⟩=S (Z Y 0)/\C.cell? ⟨w.heap.size,1,U⟩=S (J U 0 0)/\C.cell? ⟨w.heap.size,2,U⟩=S (Z Y 0)):=⟨by rw[Ti C _ 0 _ _ _ hE];rfl,by rw[Ti C _ 1 _ _ _ hE];rfl,by rw[Ti C _ 2 _ _ _ hE];rfl⟩
    have hf:(C.frozen? ⟨w.heap.size,0,U⟩=Wg/\C.frozen? ⟨w.heap.size,1,U⟩=Wg/\C.frozen? ⟨w.heap.size,2,U⟩=Wg):=⟨by simp[World.frozen?,hE],by simp[World.frozen?,hE],by simp[World.frozen?,hE]⟩
    by_cases hg:Good dd n K M V F al
    .obtain⟨sl,rfl,ho⟩:=hy hg;obtain⟨q,cq,rfl⟩:=l5 ho;refine⟨_,q,n,cq,al,We,rfl,⟨aw.below hb,aD (aw.below hb) _ _ _⟩,hc,hf,?_⟩
     show O' _ _
     rw[<-cT hO];refine⟨aI _ _ _,λs hs=>?_,λh=>absurd ((cT av F).2 ⟨rfl,hg⟩) (h F)⟩;obtain⟨rfl,_⟩:=(cT av s).1 hs;have ea:(fw Q.rd n s).all=al:=by rw[sJ,cT HN,cT aH,cT HK,cT ah]
     refine⟨_,by rw[ea],?_⟩;have ev:KU Q.rd n s=jk (gC (dw V) (dw M) ⟨#[]⟩ n).val (gC (dw V) (dw M) ⟨#[]⟩ n).fD (gC (dw V) (dw M) ⟨#[]⟩ n).iH (gC (dw V) (dw M) ⟨#[]⟩ n).jf n:=by
      unfold KU fw;rw[cT ak,cT ab,cT HM,cT HV]
      rfl
     rw[ev];have aE:∀(W:V5) (A i:Nat) (x:V6) (c:Array V6),W.heap[A]?=S (D c 80 (0,0))->∀{B:Nat} {xs:List V6},W.ownsRow B 104 4 (J q n cq) n xs->(W.setCell ⟨A,i,U⟩ x).ownsRow B 104 4 (J q n cq) n xs:=λW A i x c hA B xs hx =>
      Ui hx (λe=>by obtain⟨z,hz,_⟩:=di hx e;exact dh hz hA (by decide) rfl) _
     refine Rd.mj ?_ (cT P).1.size;have o2:=aE _ w.heap.size 0 (Z Y (s:Int)) _ hE ho;have E2:=Tq _ w.heap.size 0 _ _ (Z Y (s:Int)) hE;have o3:=aE _ w.heap.size 1 (J q n cq) _ E2 o2;have g:=Tq _ w.heap.size 1 _ _ (J q n cq) E2;exact aE _ w.heap.size 2 (Z Y al) _ g o3
    .obtain⟨s,a',rfl⟩:=aT hg;refine⟨s,U,0,0,a',Wg,rfl,⟨aw.below hb,aD (aw.below hb) _ _ _⟩,hc,hf,?_⟩;exact(cT af) _ (aI _ _ _) (λs hs=>hg ((cT av s).1 hs).2) s a'
   clear ad af an ae av aa E4 aB C0 C1 C2 ao ar aD;obtain⟨⟨j0,j1,j2⟩,l0⟩:=aM;go_upto_region 5 with fail
   go_region_held3 (λC=>(C.cell? ⟨j,0,U⟩=S (V9 (S ⟨l,0,U⟩))/\C.cell? ⟨j,1,U⟩=S (Z .u32 dd)/\C.cell? ⟨j,2,U⟩=S (Z Y n))/\C.cell? ⟨L,0,U⟩=S (Z Y F))
    (exact⟨⟨by assumption,by assumption,by assumption⟩,by assumption⟩)
    (first
     |(go_at_call 81;refine((cT aN) _ (by exact⟨⟨by assumption,by assumption,by assumption⟩,by assumption⟩) (by assumption)).mono ?_;rintro e w5 ⟨rfl,⟨⟨aY,aZ,a6⟩,a7⟩,a8⟩)
     |(go_at_call 82;refine((cT aO) _ (by exact⟨⟨by assumption,by assumption,by assumption⟩,by assumption⟩) (by assumption)).mono ?_;rintro e w6 ⟨rfl,⟨⟨ba,bc,bd⟩,bg⟩,bh⟩)
     |(go_at_call 77;refine((cT aP) _ _ _ (by assumption) (by exact⟨⟨by assumption,by assumption,by assumption⟩,by assumption⟩) (by assumption)).mono ?_;rintro e w7 ⟨rfl,⟨⟨bj,bk,bn⟩,bo⟩,bp⟩)
     |(go_at_call 80;refine((cT aS) _ (by exact⟨⟨by assumption,by assumption,by assumption⟩,by assumption⟩) (by assumption)).mono ?_;rintro e w9 ⟨s,q,qn,cq,a',ok,rfl,⟨⟨⟨bq,br,bs⟩,bu⟩,⟨⟨bw,z91,bx⟩,z93⟩⟩,⟨r0,r1,r2⟩,⟨g0,g1,g2⟩,HF⟩))
   all_goals
    go_wp2;exact Tj (v := Wb #[Wc #[Z Y s,J q qn cq,Z Y a'],Wa ok]) (by simp[results,results45,go_sem,r0,r1,r2]) rfl (cT HF)
  .have hz:(m.toList == a.toList)=Wg:=Tt.2 (λh=>aj (Sd.toList_inj h));have HF:Hid (O' (Wd (Wb #[Wc gF,Wa Wg])) (((w4.setCell ⟨w.heap.size,0,U⟩ (Z Y 0)).setCell ⟨w.heap.size,1,U⟩ (J U 0 0)).setCell ⟨w.heap.size,2,U⟩ (Z Y 0))):=(cT af) _ (((aa.setCell (p:=⟨w.heap.size,0,U⟩) V2 _).setCell (p:=⟨w.heap.size,1,U⟩) V2 _).setCell (p:=⟨w.heap.size,2,U⟩) V2 _) (λs hg=>aj (by have e:=hg.SS;rw[cT HK,cT t] at e;subst e;rw[<-cT HN];exact hg.SQ)) 0 0;have r0:w4.cell? ⟨w.heap.size,0,U⟩=S (Z Y 0):=by rw[Ti w4 _ 0 _ _ _ E4];rfl
   have r1:w4.cell? ⟨w.heap.size,1,U⟩=S (J U 0 0):=by rw[Ti w4 _ 1 _ _ _ E4];rfl
   have r2:w4.cell? ⟨w.heap.size,2,U⟩=S (Z Y 0):=by rw[Ti w4 _ 2 _ _ _ E4];rfl
   have g0:w4.frozen? ⟨w.heap.size,0,U⟩=Wg:=by simp[World.frozen?,E4]
   have g1:w4.frozen? ⟨w.heap.size,1,U⟩=Wg:=by simp[World.frozen?,E4]
   have g2:w4.frozen? ⟨w.heap.size,2,U⟩=Wg:=by simp[World.frozen?,E4]
   clear E4 aB aa af an ae aj;go_wp2;exact Tj (v := Wb #[Wc gF,Wa Wg]) (by simp[results,results45,go_sem,r0,r1,r2,gF]) rfl (cT HF)
 .have T:=cU (yE (Q.rd a) w1 (by omega) X);have HF:Hid (∀W,V4 w W->O' (Wd (Wb #[Wc gF,Wa Wg])) (((W.setCell ⟨w.heap.size,0,U⟩ (Z Y 0)).setCell ⟨w.heap.size,1,U⟩ (J U 0 0)).setCell ⟨w.heap.size,2,U⟩ (Z Y 0))):=λW hW =>
   (cT af) _ (((hW.setCell (p:=⟨w.heap.size,0,U⟩) V2 _).setCell (p:=⟨w.heap.size,1,U⟩) V2 _).setCell (p:=⟨w.heap.size,2,U⟩) V2 _) (λF hg=>X ⟨hg.ok,hg.sz⟩) 0 0
  generalize Q.rd a=K at T ⊢;clear X af sK an ae;go_wp2_with fail;refine(cT T).mono ?_;rintro e w2 ⟨rfl,G⟩;have hA:V4 w2 (w2.alloc (D gF 80)):=V3.alloc V2 _;have o:=G.trans (hA.mono G.size);have g:=(o.block _ (cX E1)).trans E1;have I:=ag.trans (o.mono ag.size);clear T G hA o E1 ag;go_upto_region 3 with fail;generalize Wl _ _=w3 at g I ⊢;have aV:=cU ((cT HF) w3 I);have r0:w3.cell? ⟨w.heap.size,0,U⟩=S (Z Y 0):=by rw[Ti w3 _ 0 _ _ _ g];rfl
  have r1:w3.cell? ⟨w.heap.size,1,U⟩=S (J U 0 0):=by rw[Ti w3 _ 1 _ _ _ g];rfl
  have r2:w3.cell? ⟨w.heap.size,2,U⟩=S (Z Y 0):=by rw[Ti w3 _ 2 _ _ _ g];rfl
  have g0:w3.frozen? ⟨w.heap.size,0,U⟩=Wg:=by simp[World.frozen?,g]
  have g1:w3.frozen? ⟨w.heap.size,1,U⟩=Wg:=by simp[World.frozen?,g]
  have g2:w3.frozen? ⟨w.heap.size,2,U⟩=Wg:=by simp[World.frozen?,g]
  clear g I HF;go_wp2;exact Tj (v := Wb #[Wc gF,Wa Wg]) (by simp[results,results45,go_sem,r0,r1,r2,gF]) rfl (cT aV)
end Ru
namespace Ru
open Rd (Rk)
open Pk (jd Sm di cX dh)
open Dk (Kept)
open Classical
def LH(b dd n cY:Nat)(v:V6):Array V6 := #[V9 (S ⟨b,0,U⟩),Z .u32 (dd:Int),Z Y (n:Int),Z Y (cY:Int),v]
structure gK (w:V5) (S D dd n cY:Nat) (v:V6) (T:Sn.Tb):Prop where
 tab:Rt.eW w S 4 (LH D dd n cY v) 113 v T
 ne:v.ownBlock≠some S
variable {w w':V5}{T:Sn.Tb}{dd cY n:Nat}{v:V6}
theorem gK.below{b e:Nat}(h:gK w b e dd n cY v T)(hb:V4 w w'): gK w' b e dd n cY v T:=⟨h.tab.below hb,h.ne⟩
theorem gK.c0{b e:Nat}(h:gK w b e dd n cY v T): w.cell? ⟨b,0,U⟩=S (V9 (S ⟨e,0,U⟩)):=by rw[Ti w b 0 _ _ _ h.tab.blk];rfl
theorem gK.c1{b e:Nat}(h:gK w b e dd n cY v T): w.cell? ⟨b,1,U⟩=S (Z .u32 (dd:Int)):=by rw[Ti w b 1 _ _ _ h.tab.blk];rfl
theorem gK.c2{b e:Nat}(h:gK w b e dd n cY v T): w.cell? ⟨b,2,U⟩=S (Z Y (n:Int)):=by rw[Ti w b 2 _ _ _ h.tab.blk];rfl
theorem gK.c3{b e:Nat}(h:gK w b e dd n cY v T): w.cell? ⟨b,3,U⟩=S (Z Y (cY:Int)):=by rw[Ti w b 3 _ _ _ h.tab.blk];rfl
theorem gK.lt{b e:Nat}(h:gK w b e dd n cY v T): b<N (E w):=cX h.tab.blk
def qH(b:Nat)(v:V6)(k:Nat):Prop:=k=b\/v.ownBlock=S k
variable {v':V6}
theorem gK.new{b j:Nat}{m:Sn.Tb}(h:gK w b j dd n cY v T)(r:Rt.dO w w' b 4 (LH j dd n cY v) 113 v v' m)(u:Sn.dj m)(y:Wn m<=1000000000): gK w' b j dd n cY v' m:=by
 refine⟨⟨r.blk,O,r.row,u,y⟩,λl=>?_⟩;rcases r.new with e|⟨g,e,z⟩
 .rw[e] at l;exact h.ne l
 .rw[e] at l;have l:g=b:=TG l;have:=h.lt;omega
theorem gK.kept{b e:Nat}{j:Nat->Prop}(h:gK w b e dd n cY v T)(l:Kept w w' j)(m:∀k,qH b v k->j k): gK w' b e dd n cY v T:=⟨⟨(l.block b h.lt (m b (Wh O))).trans h.tab.blk,h.tab.at_,Dk.dy h.tab.row l (λg r=>m g (Wi r)),h.tab.me,h.tab.len⟩,h.ne⟩
theorem gK.uy{b j:Nat}{A:Sn.Tb}(h:gK w b j dd n cY v T)(C:Rt.dO w w' b 4 (LH j dd n cY v) 113 v v' A){B e size m:Nat}{u:V6}{r:List V6}(hu:w.ownsRow B e size u m r)(he:e≠113/\e≠181): w'.ownsRow B e size u m r:=Dk.dy hu C.kept λg G=>by
  obtain⟨I,y,_⟩:=di hu G;refine⟨dh y h.tab.blk he.1,λK=>?_⟩;obtain⟨z,l,_⟩:=di h.tab.row K;exact dh y l he.2 O
def qd(w:V5)(B:Nat)(F:V8->V8)(n:Nat)(x:Nat × Sn.Ce):Prop:=x.2.n=n/\x.2.al=(fw F n x.1).all/\w.ownsRow B 104 4 (J x.2.p n x.2.c) n (KU F n x.1)
structure DM (w0:V5) (S D dd n cY:Nat) (F:V8->V8) (vL:V6) (L:List V8) (wr:V5) (k:Nat) (v:V6) (T:Sn.Tb):Prop where
 lJ:V4 w0 wr
 sS:N (E w0)<=S
 sh:gK wr S D dd n cY v T
 own:∀g,v.ownBlock=some g->N (E w0)<=g
 keys:∀s,(∃e,(s,e)∈T)↔s∈fS F n dd (L.take k)
 A8:∀x∈T,qd wr (N (E w0)) F n x
 names:wr.ownsRow (N (E w0)) 9 1 vL (Wn L) (Rd.strs L)
 len:Wn T<=k
variable {F:V8->V8}{L:List V8}{w0 wr:V5}{vL:V6}{k:Nat}
theorem DM.below{b e:Nat}(h:DM w0 b e dd n cY F vL L wr k v T)(hb:V4 wr w'): DM w0 b e dd n cY F vL L w' k v T:=⟨h.lJ.trans (hb.mono h.lJ.size),h.sS,h.sh.below hb,h.own,h.keys,λx j=>⟨(h.A8 x j).1,(h.A8 x j).2.1,de (h.A8 x j).2.2 hb⟩,de h.names hb,h.len⟩
theorem DM.no{b e:Nat}(h:DM w0 b e dd n cY F vL L wr k v T)(l:k<Wn L)(j:∀m,¬GJ F n dd L[k] m): DM w0 b e dd n cY F vL L wr (k+1) v T:=by
 refine⟨h.lJ,h.sS,h.sh,h.own,λs=>?_,h.A8,h.names,by have:=h.len;omega⟩;rw[h.keys,tB l];have:tU (Cw F n dd) L[k]=U:=by
  cases r:tU (Cw F n dd) L[k] with
  |none=>rfl
  |some t =>
   obtain⟨u,y⟩:=nA r;have:=y.SJ;rw[<-u] at this;exact absurd this (j t)
 rw[this]
theorem Ib{b:Nat}{a:V8}(h:GJ F n dd a b): tU (Cw F n dd) a=S b:=by
 obtain⟨e,j,l⟩:=Mf.1 h;unfold tU;rw[e];simp only;rw[Tg ⟨j,l⟩]
theorem DM.add{b l:Nat}{y:Nat}{q:Option Addr}{I:Nat}{K:Int}(h:DM w0 b l dd n cY F vL L wr k v T)(R:k<Wn L)(i:Wn L<=1000000000)(V:GJ F n dd L[k] y)(M:K=(fw F n y).all)(B:wr.ownsRow (N (E w0)) 104 4 (J q n I) n (KU F n y))(u:Rt.dO wr w' b 4 (LH l dd n cY v) 113 v v' (if Sn.dD T y=We then T else Sn.gJ T y ⟨q,n,I,K⟩)): DM w0 b l dd n cY F vL L w' (k+1) v' (if Sn.dD T y=We then T else Sn.gJ T y ⟨q,n,I,K⟩):=by
 have z:V4 w0 w':=by
  refine h.lJ.trans (u.kept.toBelow h.lJ.size λj f=>⟨λe=>?_,λe=>?_⟩)
  .have:=h.sS;omega
  .have:=h.own j e;omega
 have Q:=h.len;have m:∀s,s∈fS F n dd (L.take (k+1))↔s=y\/s∈fS F n dd (L.take k):=λs=>by
  rw[tB R,Ib V];simp only[TB,TL];exact or_comm
 have r:∀x∈T,qd w' (N (E w0)) F n x:=λx C=>⟨(h.A8 x C).1,(h.A8 x C).2.1,h.sh.uy u (h.A8 x C).2.2 (by decide)⟩
 have A:∀g,v'.ownBlock=S g->N (E w0)<=g:=λg G=>by
  rcases u.new with e|⟨W,e,X⟩
  .rw[e] at G;exact h.own g G
  .rw[e] at G;have:W=g:=TG G;have:=h.lJ.size;omega
 cases hh:Sn.dD T y with
 |true =>
  rw[hh,Tg rfl] at u;rw[Tg rfl];refine⟨z,h.sS,h.sh.new u h.sh.tab.me h.sh.tab.len,A,λs=>?_,r,h.sh.uy u h.names (by decide),by omega⟩;rw[m,h.keys];constructor
  .exact Wi
  .rintro(rfl|hs)
   .exact(h.keys s).1 (Sn.iP.1 hh)
   .exact hs
 |false =>
  rw[hh,Tf (by decide)] at u;rw[Tf (by decide)];refine⟨z,h.sS,h.sh.new u (Sn.iw h.sh.tab.me hh) (by rw[Sn.iN];omega),A,λs=>?_,λx C=>?_,h.sh.uy u h.names (by decide),by rw[Sn.iN];omega⟩
  .rw[m,<-h.keys];constructor
   .rintro⟨e,P⟩;rcases Sn.kT.1 P with e1|e1
    .exact Wh (congrArg Prod.fst e1)
    .exact Wi ⟨e,e1⟩
   .rintro(rfl|⟨e,P⟩)
    .exact⟨_,Sn.kT.2 (Wh O)⟩
    .exact⟨e,Sn.kT.2 (Wi P)⟩
  .rcases Sn.kT.1 C with e1|e1
   .subst e1;exact⟨O,M,h.sh.uy u B (by decide)⟩
   .exact r x e1
theorem DM.sorted{b j:Nat}(h:DM w0 b j dd n cY F vL L wr (Wn L) v T)(l:L.Nodup): T.map (·.1)=og (fS F n dd L):=by
 refine Eh ?_ (xz (A:=fS F n dd L) (l7 l)) λs=>?_
 .unfold me;rw[List.pairwise_map];exact h.sh.tab.me.imp λm=>by simpa [Sn.lt] using m
 .have r:s∈og (fS F n dd L)↔s∈fS F n dd L:=sx (l7 l) s;have:=h.keys s;rw[Ut] at this;rw[r,<-this,Uu];constructor
  .rintro⟨x,u,rfl⟩;exact⟨x.2,u⟩
  .rintro⟨e,y⟩;exact⟨(s,e),y,O⟩
theorem Kp{R:Rk}{b:Nat}(h:Sm R n b)(e:R.Ok): Wn R.fE<=n:=by
 unfold Rk.fE;split
 .exact Tp _
 .rw[Ue]
  show (Rd.tab (R.dir (Wn R.dX))).length<=n
  rw[Rd.uj (e.eE _)];have j:=Rd.uv R (Wn R.dX);have l:=h.dir;omega
theorem yg(R:Rk):R.fE.Nodup:=by
 unfold Rk.fE;split
 .exact List.Pairwise.nil
 .unfold List.Nodup;rw[List.pairwise_map];exact(Rd.ek R.now).imp λb=>Sd.sd b
def CA(Q:Rk)(b dd n cY:Nat)(w:V5)(e:Ending)(w':V5):Prop:=V4 w w'/\(Q.nB≠0->e=Wd (Wb #[V9 U,Z Y Q.nB]))/\
 (Q.nB=0->∃j v T,e=Wd (Wb #[V9 (S ⟨j,0,U⟩),Z Y 0])/\(N (E w))<=j/\gK w' j b dd n cY v T/\(∀g,v.ownBlock=S g->N (E w)<=g)/\T.map (·.1)=og (fS Q.rd n dd Q.fE)/\(∀x∈T,qd w' (N (E w)) Q.rd n x)/\(Wn T)<=Wn Q.fE)
theorem zR(j E nn b dd n cY:Nat)(Q R:Rk)(O:Nat->Prop)(w:V5)(h:jd w j E Q R O)(hs:Sm Q nn b)(an:nn<=1000000000)(u:b<=2097152)(hn:n<=64)(hj:dd<4294967296)(ao:fN w):V7 prog 30 #[V9 (S ⟨j,0,U⟩),Wc #[Z .u32 dd,Z Y n],Z Y cY] w (CA Q j dd n cY w):=by
 generalize hO:CA Q j dd n cY w=O';replace hO:=cU hO;have aA:Hid (∀(W:V5) (l:Nat) (v:V6) (T:Sn.Tb) (a:V8),V4 w W->gK W l j dd n cY v T->V7 prog 45 #[V9 (S ⟨l,0,U⟩),H a] W (DY Q n dd a W)):=λW l v T a C hS =>
  JZ l j E nn b dd n Q R O a W (h.below C) hs an u hn hj (ao.below C) hS.c0 hS.c1 hS.c2
 have aB:=Kp hs h.D3.1;have M:Hid (∀W,V4 w W->V7 prog 44 #[V9 (S ⟨j,0,U⟩)] W λe w'=>∃v,e=Wd (Wb #[v,Z Y Q.nB])/\w'.ownsRow W.heap.size 9 1 v (Wn Q.fE) (Rd.strs Q.fE)/\V4 W w'):=λW C=>Pk.IB (h.below C) hs an
 have aq:=cU (yg Q);obtain⟨L,HL⟩:∃L,Hid (Q.fE=L):=⟨_,rfl⟩
 obtain⟨er,P⟩:∃er,Hid (Q.nB=er):=⟨_,rfl⟩
 rw[cT HL] at M aB aq;rw[cT P] at M;have ar:Hid (∀W,W=w.alloc (D #[Z .u32 (dd:Int),Z Y (n:Int)] 91)->W.heap[w.heap.size]?=S (D #[Z .u32 (dd:Int),Z Y (n:Int)] 91 (0,0))/\V4 w W):=by
  show ∀W,_
  rintro W rfl;exact⟨Tk w _,(Th _ w).alloc V2 _⟩
 clear h hs ao;go_enter func30,ntmps30;go_wp2_with fail;generalize C:Wl _ _=W0;obtain⟨ad,G⟩:=cT ar W0 C.symm;clear C ar;refine(cT M W0 G).mono ?_;rintro e z ⟨vL,rfl,m,ae⟩;have A:=G.trans (ae.mono G.size);have E1:=(ae.block _ (cX ad)).trans ad;have y:=cU (Rd.mj m G.size);clear ae G ad m M;by_cases af:er=0
 .subst af;have x0:z.cell? ⟨w.heap.size,0,U⟩=S (Z .u32 (dd:Int)):=by rw[Ti z _ 0 _ _ _ E1];rfl
  have x1:z.cell? ⟨w.heap.size,1,U⟩=S (Z Y (n:Int)):=by rw[Ti z _ 1 _ _ _ E1];rfl
  obtain⟨pl,cl,rfl⟩:=l5 (cT y);have ag:Hid (∀W,W=z.alloc (D (LH j dd n cY (J U 0 0)) 113)->DM w z.heap.size j dd n cY Q.rd (J pl (Wn L) cl) L W 0 (J U 0 0) []):=by
   show ∀W,_
   rintro W rfl;have hA:V4 z (z.alloc (D (LH j dd n cY (J U 0 0)) 113)):=(Th _ z).alloc V2 _;refine⟨A.trans (hA.mono A.size),A.size,⟨⟨Tk z _,rfl,TH _ _ _ _,List.Pairwise.nil,Tp _⟩,λe=>(by cases e)⟩,λg e=>(by cases e),λs=>?_,λx hx=>(by cases hx),de (cT y) hA,Te _⟩;rw[List.take_zero];exact⟨λ⟨e,he⟩=>(by cases he),λh=>(by cases h)⟩
  unfold LH at ag;clear E1 A y;go_wp2_with fail;generalize C:Wl _ _=W2;have B:=cU (cT ag W2 C.symm);obtain⟨l,hS⟩:∃l,z.heap.size=l:=⟨_,rfl⟩
  rw[hS] at B ⊢;clear C hS ag x0 x1
  go_loopw [30] (λi wr=>∃k:Nat,∃v:V6,∃T:Sn.Tb,k<=Wn L/\i=Z Y k/\Hid (DM w l j dd n cY Q.rd (J pl (Wn L) cl) L wr k v T)) (λi _=>Wn L-(intOf i).toNat)
  case atStart=>exact⟨0,J U 0 0,[],Tp _,rfl,B⟩
  case round =>
   clear B;obtain⟨k,v,T,hk,rfl,B⟩:=hrel;by_cases ah:k<Wn L
   .have au:(k:Int)<(Wn L:Int):=by omega
    obtain⟨aI,aJ,aC,av⟩:=dm (cT B).names;injection aC with aD _ aE;subst aD aE;obtain⟨g,rfl,_,_,c0⟩:=av k (by omega);obtain⟨a,HA⟩:∃a,Hid (L[k]=a):=⟨L[k],cU rfl⟩
    replace c0:wr.cell? ⟨g,k,U⟩=S (H a):=by
     rw[c0,<-cT HA];unfold Rd.strs;rw[Vd,Tw ah];rfl
    have V:=cU (cT aA wr l v T a (cT B).lJ (cT B).sh);clear av;by_cases hf:∃r,GJ Q.rd n dd a r
    .obtain⟨r,hf⟩:=hf;have HF:=cU hf;clear hf;go_wp2_with fail;refine(cT V).mono ?_;rintro e t ⟨u,hy,_⟩;obtain⟨sl,rfl,m⟩:=hy r (cT HF);obtain⟨q,cq,rfl⟩:=l5 m;obtain⟨p,aw⟩:∃p,Hid (p=(fw Q.rd n r).all):=⟨_,rfl⟩
     rw[<-cT aw];have I:=Rd.mj m (cT B).lJ.size;have K:=cU ((cT B).below u);clear hy u m V c0 B;go_upto_region 10 with fail;generalize ai:Wl _ _=w3;have hA:V4 t w3:=by rw[<-ai];exact(Th _ t).alloc V2 _
     have hX:w3.heap[t.heap.size]?=S (D #[Z Y (r:Int),J q n cq,Z Y p] 80 (0,0)):=by rw[<-ai];exact Tk t _
     obtain⟨X,ax⟩:∃X,t.heap.size=X:=⟨_,rfl⟩
     have aa:=cU ((cT K).below hA);have ay:=cU (de I hA);rw[ax] at hX ⊢;clear ai hA ax K I;have x0:w3.cell? ⟨X,0,U⟩=S (Z Y (r:Int)):=by rw[Ti w3 _ 0 _ _ _ hX];rfl
     have x1:w3.cell? ⟨X,1,U⟩=S (J q n cq):=by rw[Ti w3 _ 1 _ _ _ hX];rfl
     have x2:w3.cell? ⟨X,2,U⟩=S (Z Y p):=by rw[Ti w3 _ 2 _ _ _ hX];rfl
     have aF:Hid (∀W,W=w3.drew->V7 prog 46 #[V9 (S ⟨l,4,U⟩),Z Y (r:Int),Wc #[Z Y (r:Int),J q n cq,Z Y p]] W λe w'=>(∃bb,e=Wd (Wa bb))/\(w'.cell? ⟨X,0,U⟩=S (Z Y (r:Int))/\w'.cell? ⟨X,1,U⟩=S (J q n cq)/\w'.cell? ⟨X,2,U⟩=S (Z Y p))/\∃v' T',Hid (DM w l j dd n cY Q.rd (J (S ⟨g,0,U⟩) (Wn L) cl) L w' (k+1) v' T')):=by
      show ∀W,_
      intro W C;have aj:V4 w3 W:=by rw[C];exact V3.drew
      have hI:=(cT aa).below aj;have ab:=(aj.block _ (cX hX)).trans hX;refine(Rt.nL l 4 (LH j dd n cY v) 113 v T r ⟨q,n,cq,p⟩ W hI.sh.tab hI.sh.ne).mono ?_;rintro e w' ⟨he,v',hn⟩;have ak:w'.heap[X]?=S (D #[Z Y (r:Int),J q n cq,Z Y p] 80 (0,0)):=by
       rw[hn.kept.block X (cX ab) ⟨dh ab hI.sh.tab.blk (by decide),λhv=>?_⟩]
       .exact ab
       .obtain⟨aK,hc,_⟩:=di hI.sh.tab.row hv;exact dh ab hc (by decide) rfl
      refine⟨⟨_,he⟩,⟨by rw[Ti w' _ 0 _ _ _ ak];rfl,by rw[Ti w' _ 1 _ _ _ ak];rfl,by rw[Ti w' _ 2 _ _ _ ak];rfl⟩,v',_,hI.add ah (by omega) (by rw[cT HA];exact cT HF) (cT aw) (de (cT ay) aj) hn⟩
     clear hX aa ay
     go_region_held3 (λw'=>w'.cell? ⟨X,0,U⟩=S (Z Y (r:Int))/\w'.cell? ⟨X,1,U⟩=S (J q n cq)/\w'.cell? ⟨X,2,U⟩=S (Z Y p))
      (first|(exact⟨by assumption,by assumption,by assumption⟩)|(go_keep;done))
      (first|(go_at_call 46;refine((cT aF) _ rfl).mono ?_;rintro e w5 ⟨⟨bb,rfl⟩,⟨y0,y1,y2⟩,v',T',aG⟩))
     all_goals
      go_wp2;go_roundw
      case rel=>exact⟨k+1,v',T',by omega,by go_num,aG⟩
      case measure=>simp[intOf];omega
    .go_wp2_with fail;refine(cT V).mono ?_;rintro e t ⟨u,_,az⟩;obtain⟨s,aL,rfl⟩:=az (λr h=>hf ⟨r,h⟩);have K:=cU (((cT B).below u).no ah (λr h=>hf ⟨r,by rw[<-cT HA];exact h⟩));clear az u V c0 B;have aa:Hid (∀o,DM w l j dd n cY Q.rd (J (S ⟨g,0,U⟩) (Wn L) cl) L (t.alloc o) (k+1) v T):=λo=>(cT K).below ((Th _ t).alloc V2 _)
     clear K;go_wp2;go_roundw
     case rel=>exact⟨k+1,v,T,by omega,by go_num,cT aa _⟩
     case measure=>simp[intOf];omega
   .have au:¬(k:Int)<(Wn L:Int):=by omega
    have HF:Hid (O' (Wd (Wb #[V9 (S ⟨l,0,U⟩),Z Y 0])) wr):=by
     show O' _ _
     rw[<-cT hO];have aH:k=Wn L:=by omega
     subst aH;have hi:=cT B;refine⟨hi.lJ,λh=>absurd (cT P) h,λ_=>⟨l,v,T,rfl,hi.sS,hi.sh,hi.own,?_,hi.A8,?_⟩⟩
     .rw[cT HL];exact hi.sorted (cT aq)
     .rw[cT HL];exact hi.len
    go_wp2;exact cT HF
 .have aM:(er != 0)=We:=by rw[UZ];exact af
  have HF:Hid (O' (Wd (Wb #[V9 U,Z Y er])) z):=by
   show O' _ _
   rw[<-cT hO];exact⟨A,λ_=>by rw[cT P],λh=>absurd h (by rw[cT P];exact af)⟩
  clear A y;go_wp2;exact cT HF
end Ru
namespace Ru
open Rd (Rk)
open Pk (jd Sm di cX dh)
open Dk (Kept)
def gE(e:Int):List PanicEntry:=[{ v := .iface 120 (Wc #[Z Y e]),recovered:=false }]
theorem iU(w:V5):V7 prog 89 #[Z Y 0] w λb e=>b=Wd (Wb #[])/\e=w:=by
 go_enter func89,ntmps89;go_wp2;exact Tm (Tl O _ _ _) O ⟨O,O⟩
theorem jN(e:Int)(he:e≠0)(w:V5):V7 prog 89 #[Z Y e] w λb j=>b=.panicked (gE e)/\j=w:=by
 have l:(e != 0)=We:=by rw[UZ];exact he
 go_enter func89,ntmps89;go_wp2;exact⟨O,O,O⟩
theorem FN{W:V5}{B:Nat}{a b c x y z:V6}{t:TypeId}(h:W.heap[B]?=S (D #[a,b,c] t (0,0)))(o:Obj):((((W.setCell ⟨B,0,U⟩ x).setCell ⟨B,1,U⟩ y).setCell ⟨B,2,U⟩ z).alloc o).heap[B]?=S (D #[x,y,z] t (0,0)):=by
 have j:=Tq W B 0 _ _ x h;have l:=Tq _ B 1 _ _ y j;have e:=Tq _ B 2 _ _ z l;rw[TD _ _ _ (cX e),e]
 rfl
theorem BC(b j dd n cY:Nat)(v:V6)(T:Sn.Tb)(k:Nat)(x:Sn.Ce)(w:V5)(h:gK w b j dd n cY v (T++[(k,x)])):V7 prog 50 #[V9 (S ⟨b,0,U⟩)] w λe V=>e=Wd (Wb #[Rt.kU k x,Wa We])/\V4 w V:=by
 have L:Hid (∀W,W=w.alloc (D #[Z Y 0,J U 0 0,Z Y 0] 80)->W.heap[N (E w)]?=S (D #[Z Y 0,J U 0 0,Z Y 0] 80 (0,0))/\V4 w W):=by
  show ∀W,_
  rintro W rfl;exact⟨Tk w _,(Th _ w).alloc V2 _⟩
 have l:=cU h;clear h;go_enter func50,ntmps50;go_wp2_with fail;generalize P:Wl _ _=Q;obtain⟨A,r⟩:=cT L Q P.symm;clear P L;refine(Rt.Ha b 4 _ _ v T k x Q ((cT l).tab.below r)).mono ?_;rintro e m ⟨rfl,B⟩;have u:=(B.block _ (cX A)).trans A;have C:=r.trans (B.mono r.size);have X:=cX u;obtain⟨q,F,G,I⟩:=x;unfold Rt.kU;dsimp only;have t:Hid (∀o (x y z:V6),V4 w ((((m.setCell ⟨N (E w),0,U⟩ x).setCell ⟨N (E w),1,U⟩ y).setCell ⟨N (E w),2,U⟩ z).alloc o)):=λo x y z =>
  (((C.setCell (p:=⟨N (E w),0,U⟩) V2 _).setCell (p:=⟨N (E w),1,U⟩) V2 _).setCell (p:=⟨N (E w),2,U⟩) V2 _).alloc (by simpa using C.size) _
 have s:Hid (∀o (x y z:V6),((((m.setCell ⟨N (E w),0,U⟩ x).setCell ⟨N (E w),1,U⟩ y).setCell ⟨N (E w),2,U⟩ z).alloc o).heap[N (E w)]?=S (D #[x,y,z] 80 (0,0))):=λo x y z=>FN u o
 have r0:m.cell? ⟨N (E w),0,U⟩=S (Z Y 0):=by rw[Ti m _ 0 _ _ _ u];rfl
 have r1:m.cell? ⟨N (E w),1,U⟩=S (J U 0 0):=by rw[Ti m _ 1 _ _ _ u];rfl
 have r2:m.cell? ⟨N (E w),2,U⟩=S (Z Y 0):=by rw[Ti m _ 2 _ _ _ u];rfl
 have g0:m.frozen? ⟨N (E w),0,U⟩=Wg:=by simp[World.frozen?,u]
 have g1:m.frozen? ⟨N (E w),1,U⟩=Wg:=by simp[World.frozen?,u]
 have g2:m.frozen? ⟨N (E w),2,U⟩=Wg:=by simp[World.frozen?,u]
 clear B r A C u;go_wp2;have M:=cT s (D #[Z Y (k:Int),J q F G,Z Y I] 80) (Z Y (k:Int)) (J q F G) (Z Y I);have R:=cU (cT t (D #[Z Y (k:Int),J q F G,Z Y I] 80) (Z Y (k:Int)) (J q F G) (Z Y I));generalize Wl _ _=K at M R ⊢;have g:K.cell? ⟨N (E w),0,U⟩=S (Z Y (k:Int)):=by rw[Ti K _ 0 _ _ _ M];rfl
 have q1:K.cell? ⟨N (E w),1,U⟩=S (J q F G):=by rw[Ti K _ 1 _ _ _ M];rfl
 have q2:K.cell? ⟨N (E w),2,U⟩=S (Z Y I):=by rw[Ti K _ 2 _ _ _ M];rfl
 exact Tj (v := Wb #[Wc #[Z Y (k:Int),J q F G,Z Y I],Wa We]) (by simp[results,results50,go_sem,g,q1,q2]) O ⟨O,cT R⟩
theorem Cb(b j dd n cY:Nat)(v:V6)(w:V5)(h:gK w b j dd n cY v []):V7 prog 50 #[V9 (S ⟨b,0,U⟩)] w λe P=>e=Wd (Wb #[Wc #[Z Y 0,J U 0 0,Z Y 0],Wa Wg])/\V4 w P:=by
 have G:Hid (∀W,W=w.alloc (D #[Z Y 0,J U 0 0,Z Y 0] 80)->W.heap[N (E w)]?=S (D #[Z Y 0,J U 0 0,Z Y 0] 80 (0,0))/\V4 w W):=by
  show ∀W,_
  rintro W rfl;exact⟨Tk w _,(Th _ w).alloc V2 _⟩
 have l:=cU h;clear h;go_enter func50,ntmps50;go_wp2_with fail;generalize K:Wl _ _=L;obtain⟨A,r⟩:=cT G L K.symm;clear K G;refine(Rt.GM b 4 _ _ v L ((cT l).tab.below r)).mono ?_;rintro e m ⟨rfl,B⟩;have u:=(B.block _ (cX A)).trans A;have C:=r.trans (B.mono r.size);have Q:=cX u;unfold Rt.vl;have R:Hid (∀o (x y z:V6),V4 w ((((m.setCell ⟨N (E w),0,U⟩ x).setCell ⟨N (E w),1,U⟩ y).setCell ⟨N (E w),2,U⟩ z).alloc o)):=λo x y z =>
  (((C.setCell (p:=⟨N (E w),0,U⟩) V2 _).setCell (p:=⟨N (E w),1,U⟩) V2 _).setCell (p:=⟨N (E w),2,U⟩) V2 _).alloc (by simpa using C.size) _
 have T:Hid (∀o (x y z:V6),((((m.setCell ⟨N (E w),0,U⟩ x).setCell ⟨N (E w),1,U⟩ y).setCell ⟨N (E w),2,U⟩ z).alloc o).heap[N (E w)]?=S (D #[x,y,z] 80 (0,0))):=λo x y z=>FN u o
 have t:m.cell? ⟨N (E w),0,U⟩=S (Z Y 0):=by rw[Ti m _ 0 _ _ _ u];rfl
 have s:m.cell? ⟨N (E w),1,U⟩=S (J U 0 0):=by rw[Ti m _ 1 _ _ _ u];rfl
 have g:m.cell? ⟨N (E w),2,U⟩=S (Z Y 0):=by rw[Ti m _ 2 _ _ _ u];rfl
 have g0:m.frozen? ⟨N (E w),0,U⟩=Wg:=by simp[World.frozen?,u]
 have g1:m.frozen? ⟨N (E w),1,U⟩=Wg:=by simp[World.frozen?,u]
 have g2:m.frozen? ⟨N (E w),2,U⟩=Wg:=by simp[World.frozen?,u]
 clear B r A C u;go_wp2;have I:=cT T (D #[Z Y 0,J U 0 0,Z Y 0] 80) (Z Y 0) (J U 0 0) (Z Y 0);have M:=cU (cT R (D #[Z Y 0,J U 0 0,Z Y 0] 80) (Z Y 0) (J U 0 0) (Z Y 0));generalize Wl _ _=F at I M ⊢;have V:F.cell? ⟨N (E w),0,U⟩=S (Z Y 0):=by rw[Ti F _ 0 _ _ _ I];rfl
 have X:F.cell? ⟨N (E w),1,U⟩=S (J U 0 0):=by rw[Ti F _ 1 _ _ _ I];rfl
 have q:F.cell? ⟨N (E w),2,U⟩=S (Z Y 0):=by rw[Ti F _ 2 _ _ _ I];rfl
 exact Tj (v := Wb #[Wc #[Z Y 0,J U 0 0,Z Y 0],Wa Wg]) (by simp[results,results50,go_sem,V,X,q]) O ⟨O,cT M⟩
theorem Hb{T:Sn.Tb}{k:Nat}{x:Sn.Ce}(h:Sn.dj ((k,x)::T)):Sn.gN ((k,x)::T) k=T:=by
 have e:Sn.dD ((k,x)::T) k=We:=Sn.iP.2 ⟨x,TV⟩;have l:Sn.dv ((k,x)::T) k=0:=Sn.jM (Tp _) (λj b hi=>by omega) (λj b hi=>by
  cases j with
  |zero=>simp[Sn.lt]
  |succ j=>have:=Sn.eA h (i:=0) (j:=j+1) (by omega) b;simp[Sn.lt] at this ⊢;omega)
 unfold Sn.gN;rw[Tg e,l]
 rfl
theorem vC(b l dd n cY:Nat)(v:V6)(T:Sn.Tb)(k:Nat)(x:Sn.Ce)(w:V5)(h:gK w b l dd n cY v ((k,x)::T)):V7 prog 88 #[V9 (S ⟨b,0,U⟩)] w λe G=>e=Wd (Z Y (k:Int))/\∃A,gK G b l dd n cY A T/\Kept w G (λj=>¬qH b v j)/\(∀g,A.ownBlock=S g->v.ownBlock=S g\/N (E w)<=g):=by
 have m:=cU h;clear h;go_enter func88,ntmps88;go_wp2_with fail;refine(Rt.Hm b 4 _ _ v T k x w (cT m).tab).mono ?_;rintro e I ⟨rfl,u⟩;have R:=cU ((cT m).below u);have B:=cU u;obtain⟨q,t,s,p⟩:=x;unfold Rt.kU;dsimp only;clear u;go_wp2_with fail;generalize K:Wl _ _=L;have r:V4 I L:=by rw[<-K];exact V3.alloc V2 _
 have y:=(cT R).below r;refine(Rt.kG b 4 _ _ v _ k L y.tab y.ne).mono ?_;rintro e w3 ⟨rfl,A,C⟩;rw[Hb y.tab.me] at C;have M:=y.tab.len;rw[Tr] at M;have F:=y.new C (Um.1 y.tab.me).2 (by omega);have P:Kept w w3 (λj=>¬qH b v j):=(Kept.below (cT B) _).trans ((Kept.below r _).trans (C.kept.mono λj _ Q=>⟨λe=>Q (Wh e),λe=>Q (Wi e)⟩));have z:∀g,A.ownBlock=S g->v.ownBlock=S g\/N (E w)<=g:=λg z=>by
  rcases C.new with e|⟨V,e,W⟩
  .rw[e] at z;exact Wh z
  .rw[e] at z;have:V=g:=TG z;have:=(cT B).size;have:=r.size;omega
 have X:=cU (And.intro F (And.intro P z));clear K r y C M F P z;go_wp2;go_ret;exact⟨O,A,cT X⟩
end Ru
namespace Ru
open Sp (dt)
open Rd (Rk e0)
open Pk (jd Sm fx TP di cX dh)
open Dk (Kept)
def OO(O:Nat->Prop)(e:Nat)(v:V6)(k:Nat):Prop:=O k\/qH e v k
structure ot (w:V5) (D E S dd n cY:Nat) (Q R:Rk) (O:Nat->Prop) (v:V6) (T:Sn.Tb):Prop where
 two:jd w D E Q R O
 sh:gK w S D dd n cY v T
 apart:∀k,O k->¬qH S v k
 pw:fN w
 np:¬OO O S v 6
variable {w:V5}{T:Sn.Tb}{dd cY n:Nat}{v:V6}
theorem gK.jI{j m:Nat}(h:gK w j m dd n cY v T){k:Nat}(r:qH j v k): k<N (E w):=by
 rcases r with rfl|e
 .exact h.lt
 .obtain⟨_,u,_⟩:=di h.tab.row e;exact cX u
variable {Q R:Rk}
theorem ot.lt{j E m:Nat}{O:Nat->Prop}(h:ot w j E m dd n cY Q R O v T){k:Nat}(r:OO O m v k): k<w.heap.size:=by
 rcases r with e|e
 .exact h.two.lt e
 .exact h.sh.jI e
theorem ot.below{w':V5}{e E j:Nat}{O:Nat->Prop}(h:ot w e E j dd n cY Q R O v T)(hb:V4 w w'): ot w' e E j dd n cY Q R O v T:=⟨h.two.below hb,h.sh.below hb,h.apart,h.pw.below hb,h.np⟩
theorem ot.op{w':V5}{j E m:Nat}{B:Rk}{O u:Nat->Prop}(h:ot w j E m dd n cY Q R O v T)(h2:jd w' j E B R u)(z:fx w O w' u): ot w' j E m dd n cY B R u v T/\fx w (OO O m v) w' (OO u m v):=by
 have y:fx w (OO O m v) w' (OO u m v):=⟨z.kept.mono λk _ r A=>r (Wh A),λk r=>by
  rcases r with e|e
  .rcases z.own k e with e|e
   .exact Wh (Wh e)
   .exact Wi e
  .exact Wh (Wi e)⟩
 obtain⟨F,_,G⟩:=y.far h.pw.lt h.np;refine⟨⟨h2,h.sh.kept z.kept (λk r A=>h.apart k A r),λk r C=>?_,h.pw.keep F,G⟩,y⟩;rcases z.own k r with e|e
 .exact h.apart k e C
 .have:=h.sh.jI C;omega
def mS(w:V5)(j E m dd n cY:Nat)(R:Rk)(O:Nat->Prop)(v:V6)(G:Sn.Tb->Prop)(r:Int × Rk)(e:Ending)(w':V5):Prop:=(r.1=0->e=Wd (Wb #[]))/\(r.1≠0->e=.panicked (gE r.1))/\∃u y z,(r.1=0->G z)/\ot w' j E m dd n cY r.2 R u y z/\fx w (OO O m v) w' (OO u m y)
variable {l:List Oq}{o:Oq}
theorem ql(h:(dz R o).1≠0): ep R (o::l)=dz R o:=by rw[ep,Tf h]
theorem oF(h:(dz R o).1=0): ep R (o::l)=ep (dz R o).2 l:=by rw[ep,Tg h]
theorem o9: ep R [o]=dz R o:=by
 rw[ep];split
 .rename_i h;rw[ep,<-h]
 .rfl
variable {b:Nat}
theorem gA.head(h:gA R l n b): Sm R n b:=h 0 (Tp _)
theorem gA.tail(h:gA R (o::l) n b)(e:(dz R o).1=0): gA (dz R o).2 l n b:=λi hi=>by
 have:=h (i+1) (by simpa using hi);rw[UW,oF e] at this;exact this
theorem gA.fst{m:List Oq}(h:gA R (l++m) n b): gA R l n b:=λi hi=>by
 have:=h i (by rw[TT];omega);rw[UA hi] at this;exact this
theorem gA.snd{m:List Oq}(h:gA R (l++m) n b)(e:(ep R l).1=0): gA (ep R l).2 m n b:=λi hi=>by
 have:=h (Wn l+i) (by rw[TT];omega);rw[List.take_length_add_append,iD,Tg e] at this;exact this
theorem tf(j E m dd n cY nn b:Nat)(Q R:Rk)(O:Nat->Prop)(v:V6)(T:Sn.Tb)(a p:V8)(w:V5)(h:ot w j E m dd n cY Q R O v T)(hp:gA Q (eR a p) nn b)(G:nn<=1000000000)(hb:b<=2097152)(ha:a.size<=1048576)(ht:(dt p).size<=1048576):V7 prog 94 #[V9 (S ⟨m,0,U⟩),H a,H (dt p)] w (mS w j E m dd n cY R O v (λT'=>T'=T) (ep Q (eR a p))):=by
 generalize X:mS w j E m dd n cY R O v (λT'=>T'=T) (ep Q (eR a p))=P;replace X:=cU X;have c0:=h.sh.c0;have H1:=cU (Pk.Lb a h.two hp.head G ha);have r:=cU h;have HP:=cU hp;obtain⟨t,s⟩:∃t,Hid (dt p=t):=⟨_,rfl⟩
 rw[cT s] at ht ⊢;clear h hp;go_enter func94,ntmps94;go_wp2_with fail;refine(cT H1).mono ?_;rintro e w1 ⟨rfl,O1,t1,s1⟩;obtain⟨M,z⟩:=(cT r).op t1 s1;obtain⟨e1,u⟩:∃e,Hid ((Q.create a).1=e):=⟨_,rfl⟩
 rw[cT u];by_cases h1:e1=0
 .subst h1;have I:=(cT HP).tail (cT u);have c1:=M.sh.c0;have H2:=cU (Pk.Lm a t M.two I.head G hb ht);have ad:=cU M;have g:=cU z;have ae:=cU I;clear H1 t1 s1 M z I c0;go_wp2_with fail;refine(iU w1).mono ?_;rintro e ah ⟨rfl,rfl⟩;go_wp2_with fail;refine(cT H2).mono ?_;rintro e w2 ⟨rfl,O2,t2,s2⟩;obtain⟨V,A⟩:=(cT ad).op t2 s2;obtain⟨e2,B⟩:∃e,Hid (((Q.create a).2.append a t).1=e):=⟨_,rfl⟩
  have y:Hid ((dz (dz Q ⟨1,a,e0⟩).2 ⟨2,a,dt p⟩).1=e2):=by show _=_;rw[cT s];exact cT B
  rw[cT B];by_cases h2:e2=0
  .subst h2;have K:=(cT ae).tail (cT y);have aa:(dz (dz Q ⟨1,a,e0⟩).2 ⟨2,a,dt p⟩).2=((Q.create a).2.append a t).2:=by rw[cT s];rfl
   rw[aa] at K;have c2:=V.sh.c0;have H3:=cU (Pk.PT a V.two K.head G);have af:=cU V;have ag:=cU ((cT g).trans A);clear H2 t2 s2 V A K c1 aa;go_wp2_with fail;refine(iU w2).mono ?_;rintro e ai ⟨rfl,rfl⟩;go_wp2_with fail;refine(cT H3).mono ?_;rintro e w3 ⟨rfl,O3,t3,s3⟩;obtain⟨q3,ab⟩:=(cT af).op t3 s3;have F:ep Q (eR a p)=((Q.create a).2.append a t).2.sync a:=by
    unfold eR;rw[oF (show (dz Q ⟨1,a,e0⟩).1=0 from cT u),oF (cT y),o9,cT s];rfl
   obtain⟨e3,C⟩:∃e,Hid ((((Q.create a).2.append a t).2.sync a).1=e):=⟨_,rfl⟩
   have W:Hid (∀en,(e3=0->en=Wd (Wb #[]))->(e3≠0->en=.panicked (gE e3))->P en w3):=by
    show ∀en,_
    intro en k1 k2;rw[<-cT X,F];exact⟨λh=>k1 ((cT C).symm.trans h),λh=>by rw[cT C];exact k2 (λq=>h ((cT C).trans q)),O3,v,T,λ_=>rfl,q3,(cT ag).trans ab⟩
   rw[cT C];clear H3 t3 s3 q3 ab c2 F;by_cases h3:e3=0
   .subst h3;go_wp2_with fail;refine(iU w3).mono ?_;rintro e L ⟨rfl,rfl⟩;go_wp2;exact Tm (Tl rfl _ _ _) rfl (cT W _ (λ_=>rfl) (λh=>absurd rfl h))
   .go_wp2_with fail;refine(jN e3 h3 w3).mono ?_;rintro e L ⟨rfl,rfl⟩;exact⟨rfl,cT W _ (λh=>absurd h h3) (λ_=>rfl)⟩
  .have F:ep Q (eR a p)=(Q.create a).2.append a t:=by
    unfold eR;rw[oF (show (dz Q ⟨1,a,e0⟩).1=0 from cT u),ql (by rw[cT y];exact h2),cT s];rfl
   have W:Hid (P (.panicked (gE e2)) w2):=by
    show P _ _
    rw[<-cT X,F];exact⟨λh=>absurd ((cT B).symm.trans h) h2,λh=>by rw[cT B],O2,v,T,λ_=>rfl,V,(cT g).trans A⟩
   clear H2 t2 s2 V A c1 F;go_wp2_with fail;refine(jN e2 h2 w2).mono ?_;rintro e L ⟨rfl,rfl⟩;exact⟨rfl,cT W⟩
 .have F:ep Q (eR a p)=Q.create a:=by
   unfold eR;rw[ql (show (dz Q ⟨1,a,e0⟩).1≠0 from λq=>h1 ((cT u).symm.trans q))];rfl
  have W:Hid (P (.panicked (gE e1)) w1):=by
   show P _ _
   rw[<-cT X,F];exact⟨λh=>absurd ((cT u).symm.trans h) h1,λh=>by rw[cT u],O1,v,T,λ_=>rfl,M,z⟩
  clear H1 t1 s1 M z c0 F;go_wp2_with fail;refine(jN e1 h1 w1).mono ?_;rintro e L ⟨rfl,rfl⟩;exact⟨rfl,cT W⟩
end Ru
end Go.Proofs.YtgkkdpegcieakaaGreatDoor
