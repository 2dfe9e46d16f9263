import Derived.Test.YtgkkdpegcieakaaGreatDoorCz27
set_option linter.unusedVariables false
set_option linter.unusedSimpArgs false
set_option maxRecDepth 100000
set_option maxHeartbeats 16000000
namespace Go.Proofs.YtgkkdpegcieakaaGreatDoor
open Go.Proofs.Tryz
open Value renaming int→Z
open IntKind renaming i64→Y
open Go renaming World→TJ,Value→TK,Calls→TL
namespace Ru
open Go.RowKit
open Sp (nJ ie bt dj dt okB)
def gh(w : TJ): Prop := Lib.TabIs prog w "internal/strconv.uint64pow10" .u64 Lib.pow10Tab
theorem xA: prog.globalNamed "internal/strconv.uint64pow10" = some 6 := by kernel_rfl
variable {w:TJ}
theorem gh.keep{w':TJ}(h:gh w)(b:w'.heap[6]?=w.heap[6]?): gh w':=by
 unfold gh Lib.TabIs World.var? at *;rw[xA] at *;simp only[Option.bind_some] at *;rw[b];exact h
theorem gh.lt(h:gh w): 6<w.heap.size:=by
 unfold gh Lib.TabIs World.var? at h;rw[xA] at h;simp only[Option.bind_some] at h;by_cases b:6<w.heap.size
 .exact b
 .rw[Array.getElem?_eq_none (by omega)] at h;cases h
theorem gh.below{w':TJ}(h:gh w)(hb:TI w w'): gh w':=h.keep (hb.block _ h.lt)
theorem r6(n:Nat)(nn:Int)(w:TJ)(j:nn=(n:Int))(h:n<=9223372036854775807)(ht:gh w):TL prog 48 #[Z Y nn] w λe b=>e=.returned (.string (dc n))/\TI w b:=by
 subst j;refine(Tryz.strconv_Itoa (n:Int) (by omega) (by omega) w ht).mono ?_;rintro e b ⟨rfl,k,os,rfl⟩;refine⟨?_,?_⟩
 .unfold dc Lib.itoa;rw[cd (by omega),Qq]
 .have l:TI w (w.drewN k):=⟨rfl,rfl,rfl,b7 _,λ_ _=>rfl⟩
  refine l.trans ⟨rfl,rfl,rfl,?_,λi hi=>?_⟩
  .show (w.drewN k).heap.size<=((w.drewN k).heap++os).size
   simp
  .show ((w.drewN k).heap++os)[i]?=_
   rw[Array.getElem?_append_left (by simpa using hi)]
theorem kO(n:Nat)(w:TJ)(h:n<=9999999999)(ht:gh w):TL prog 79 #[Z Y n] w λe m=>e=.returned (.string (nm 99 n))/\TI w m:=by
 have u:=AA n h;have l:∀a b:UInt8,(⟨#[a,b]⟩:TM).size=2:=λa b=>rfl
 have y:¬9223372036854775807<(⟨#[99,46]⟩:TM).size+(dc n).size:=by rw[l];omega
 have r:=cP (r6 n _ w rfl (by omega) ht);clear ht l;go_enter func79,ntmps79;go_wp2_with fail;refine(cO r).mono ?_;rintro e z ⟨rfl,j⟩;go_wp2;go_ret;exact⟨rfl,j⟩
theorem iX(n:Nat)(w:TJ)(h:n<=9999999999)(ht:gh w):TL prog 81 #[Z Y n] w λe m=>e=.returned (.string (nm 109 n))/\TI w m:=by
 have u:=AA n h;have l:∀a b:UInt8,(⟨#[a,b]⟩:TM).size=2:=λa b=>rfl
 have y:¬9223372036854775807<(⟨#[109,46]⟩:TM).size+(dc n).size:=by rw[l];omega
 have r:=cP (r6 n _ w rfl (by omega) ht);clear ht l;go_enter func81,ntmps81;go_wp2_with fail;refine(cO r).mono ?_;rintro e z ⟨rfl,j⟩;go_wp2;go_ret;exact⟨rfl,j⟩
theorem kP(n:Nat)(w:TJ)(h:n<=9999999999)(ht:gh w):TL prog 82 #[Z Y n] w λe m=>e=.returned (.string (nm 118 n))/\TI w m:=by
 have u:=AA n h;have l:∀a b:UInt8,(⟨#[a,b]⟩:TM).size=2:=λa b=>rfl
 have y:¬9223372036854775807<(⟨#[118,46]⟩:TM).size+(dc n).size:=by rw[l];omega
 have r:=cP (r6 n _ w rfl (by omega) ht);clear ht l;go_enter func82,ntmps82;go_wp2_with fail;refine(cO r).mono ?_;rintro e z ⟨rfl,j⟩;go_wp2;go_ret;exact⟨rfl,j⟩
theorem nU(s:TM)(n:Nat)(w:TJ)(z:s.size<=140737488355328)(B:n<=100000):TL prog 118 #[.string s,Z Y n] w λe A=>e=.returned (.tuple #[.string (dt s),.bool (okB s&&decide ((dt s).size=n))])/\TI w A:=by
 have j:=cP (Gg s w z);generalize dt s=p at j ⊢;cases m:okB s with
 |false =>
  rw[m] at j;clear m;go_enter func118,ntmps118;go_wp2_with fail;refine(cO j).mono ?_;rintro e y ⟨rfl,b⟩;go_wp2;go_ret2;exact⟨rfl,b⟩
 |true =>
  rw[m] at j;clear m;by_cases l:p.size=n
  .have r:Hid (decide (p.size=n)=true):=kH l;have u:((p.size:Int) == (n:Int))=true:=by rw[l];simp
   clear l;go_enter func118,ntmps118;go_wp2_with fail;refine(cO j).mono ?_;rintro e y ⟨rfl,b⟩;go_wp2;go_ret2;exact⟨by rw[cO r];rfl,b⟩
  .have r:Hid (decide (p.size=n)=false):=df l;have u:((p.size:Int) == (n:Int))=false:=cC.2 (by omega);clear l;go_enter func118,ntmps118;go_wp2_with fail;refine(cO j).mono ?_;rintro e y ⟨rfl,b⟩;go_wp2;go_ret2;exact⟨by rw[cO r];rfl,b⟩
end Ru
namespace Ru
open Go.RowKit
open Dk (Kept du)
open Pk (cZ cS cY)
structure pU (w:TJ) (M n:Nat) (l:List UInt8) (v:TK):Prop where
 b:w.heap[M]?=some (.cells #[v] 251 (0,0))
 o:w.ownsRow 0 5 1 v n (BI l)
variable {n M:Nat}{l:List UInt8}{w:TJ}{v:TK}
theorem pU.lt(h:pU w M n l v): M<w.heap.size:=cS h.b
theorem pU.ne(h:pU w M n l v): v.ownBlock≠some M:=λe=>by
 obtain⟨x,j,_⟩:=cZ h.o e;exact cY j h.b (by decide) rfl
theorem pU.c(h:pU w M n l v): w.cell? ⟨M,0,none⟩=some v:=by rw[cn w M 0 _ _ _ h.b];rfl
theorem pU.z(h:pU w M n l v): w.frozen? ⟨M,0,none⟩=false:=by simp[World.frozen?,h.b]
variable {w':TJ}
theorem pU.kept{e:Nat->Prop}(h:pU w M n l v)(j:Kept w w' e)(h1:e M)(h2:∀g,v.ownBlock=some g->e g): pU w' M n l v:=⟨(j.block M h.lt h1).trans h.b,du h.o j h2⟩
theorem pU.below(h:pU w M n l v)(hb:TI w w'): pU w' M n l v:=h.kept (Kept.below hb (λ_=>True)) trivial (λ_ _=>trivial)
structure oq (M:Nat) (v:TK) (w:TJ) (v':TK) (w':TJ):Prop where
 kept:Kept w w' (λi=>i≠M/\v.ownBlock≠some i)
 row:v'.ownBlock=v.ownBlock\/∃g,v'.ownBlock=some g/\w.heap.size<=g
theorem oq.refl(M:Nat)(v:TK)(w:TJ):oq M v w v w:=⟨Kept.refl _ _,Or.inl rfl⟩
theorem oq.step{u j:TK}{m z:TJ}(h:oq M v w u m)(b:Kept m z (λi=>i≠M/\u.ownBlock≠some i))(A:j.ownBlock=u.ownBlock\/∃g,j.ownBlock=some g/\m.heap.size<=g): oq M v w j z:=by
 have B:=h.kept.size;refine⟨⟨b.os.trans h.kept.os,b.tape.trans h.kept.tape,b.output.trans h.kept.output,cx B b.size,λi hi y=>?_⟩,?_⟩
 .rw[b.block i (by omega) ⟨y.1,λe=>?_⟩,h.kept.block i hi y];rcases h.row with r|⟨g,r,C⟩
  .rw[r] at e;exact y.2 e
  .rw[r] at e;injection e with e;omega
 .rcases A with r|⟨g,r,C⟩
  .rw[r];exact h.row
  .exact Or.inr ⟨g,r,by omega⟩
theorem oq.other{A:Nat}{v' u:TK}(h:oq M v w v' w')(hu:pU w A n l u)(z:∃k x,pU w M k x v)(C:A≠M)(m:∀g,v.ownBlock=some g->u.ownBlock≠some g): pU w' A n l u/\∀g,v'.ownBlock=some g->u.ownBlock≠some g:=by
 obtain⟨k,x,z⟩:=z;refine⟨hu.kept h.kept ⟨C,λe=>?_⟩ (λg j=>⟨λe=>?_,λe=>m g e j⟩),λg j e=>?_⟩
 .obtain⟨y,B,_⟩:=cZ z.o e;exact cY B hu.b (by decide) rfl
 .subst e;obtain⟨y,B,_⟩:=cZ hu.o j;exact cY B z.b (by decide) rfl
 .rcases h.row with r|⟨q,r,D⟩
  .rw[r] at j;exact m g j e
  .rw[r] at j;injection j with j;have:=(hu.o.lt g e).2;omega
theorem jV(M n k B:Nat)(l:List UInt8)(v:TK)(w:TJ)(h:pU w M B l v)(hs:B+k<=100000000)(q:k<=8)(hn:n<18446744073709551616)(s:Int)(L:s=(k:Int)):TL prog 137 #[.pointer (some ⟨M,0,none⟩),Z .u64 n,Z Y s] w λe w'=>e=.returned (.tuple #[])/\∃v',pU w' M (B+k) (l++Sp.lO n k) v'/\oq M v w v' w':=by
 subst L;obtain⟨i0,hi,N,O,P⟩:=fa info_u8;have H0:=cP h;clear h;go_enter func137,ntmps137;go_wp2
 go_loopw [1,7] (λnn Q wr=>∃(j:Nat) (u:TK),j<=k/\Q=Z Y j/\nn=Z .u64 ((n/256 ^ j:Nat):Int)/\Hid (pU wr M (B+j) (l++Sp.lO n j) u)/\Hid (oq M v w u wr)) (λ_ Q _=>k-(intOf Q).toNat)
 case atStart=>exact⟨0,v,by omega,rfl,by simp,cP (by rw[Sp.lO,B2];exact cO H0),oq.refl _ _ _⟩
 case round =>
  obtain⟨j,u,hj,rfl,rfl,R,S⟩:=hrel;have C:=cO R;have c0:=C.c;have z0:=C.z;have ab:=C.lt;have hm:n/256 ^ j<18446744073709551616:=Nat.lt_of_le_of_lt (Nat.div_le_self _ _) hn;have T:=cP (xG n j);generalize K:n/256 ^ j=G at hm;replace K:=cP K;by_cases c:j<k
  .have c1:(j:Int)<(k:Int):=by omega
   have r:some M≠u.ownBlock:=λe=>C.ne e.symm
   go_wp2_with (first
    |(at_builtin;go_must (refine eR _ rfl (.tmp 13) (.tmp 16) 125 rfl 0 5 i0 _ 1 1 underlying125 hi N O P rfl (by decide) _ _ _ rfl (C.o.alloc _) ⟨wr.heap.size,0,none⟩ 1 1 (by omega) [Z .u8 ((G:Int)%256)] rfl rfl (Rh (cs := #[Z .u8 ((G:Int)%256)]) (t:=5) (fr:=(0,0)) (ct wr _)) (by simp[Value.oneCell']) (by unfold maxLen;omega) (by omega) (by omega) ?_))
    |go_in)
   intro F w3 y m H _;have U:TI wr (wr.alloc (.cells #[Z .u8 ((G:Int)%256)] 5)):=TH.alloc TG _;have A:=C.below U;have q0:w3.cell? ⟨M,0,none⟩=some u:=(m.cell_far ⟨M,0,none⟩ (by simp;omega) r).trans A.c;have q1:w3.frozen? ⟨M,0,none⟩=false:=(m.frozen_far ⟨M,0,none⟩ (by simp;omega) r).trans A.z;have D:w3.heap[M]?=some (.cells #[u] 251 (0,0)):=(m.block M (by simp;omega) r).trans A.b;have e4:BI (l++Sp.lO n (j+1))=BI (l++Sp.lO n j)++[Z .u8 ((G:Int)%256)]:=by
    rw[Sp.lO,<-mR,Dx (l++Sp.lO n j)]
    congr 1
    show [Z .u8 ((UInt8.ofNat (n/256 ^ j%256)).toNat:Int)]=_
    rw[<-cO T,cO K]
    rfl
   have I:pU (w3.setCell ⟨M,0,none⟩ F) M (B+(j+1)) (l++Sp.lO n (j+1)) F:=by
    refine⟨by rw[cA w3 M 0 _ _ _ D];rfl,?_⟩;rw[show B+(j+1)=B+j+1 by omega,e4];refine v8 y (λe=>?_) _;obtain⟨x,hx,_⟩:=cZ y e;exact cY hx D (by decide) rfl
   have J:oq M v w F (w3.setCell ⟨M,0,none⟩ F):=by
    have V:Kept wr (wr.alloc (.cells #[Z .u8 ((G:Int)%256)] 5)) (λi=>i≠M/\u.ownBlock≠some i):=Kept.below U _;refine(cO S).step ((V.trans (Kept.grown m (λk q=>q.2))).setCell (p:=⟨M,0,none⟩) (λh=>h.1 rfl) F) ?_
    .rcases H with e|e
     .exact Or.inl e
     .exact Or.inr ⟨_,e,by simp⟩
   obtain⟨g3,aa,rfl⟩:∃g E,F=.slice (some ⟨g,0,none⟩) (B+j+1) E:=by
    rcases y.2 with ⟨_,ad⟩|⟨g,E,ae,hv,_⟩
    .omega
    .exact⟨g,E,hv⟩
   have W:=cP I;have X:=cP J;clear I J A y m C R S r H D U e4;go_wp2;go_roundw
   case rel =>
    refine⟨j+1,_,by omega,by go_num,?_,W,X⟩;rw[Nat.pow_succ,<-Nat.div_div_eq_div_mul,cO K];go_num
   case measure=>simp[intOf];omega
  .have e:j=k:=by omega
   subst e;have c1:¬(j:Int)<(j:Int):=by omega
   go_wp2;exact cw (cu rfl _ _ _) rfl ⟨rfl,u,cO R,cO S⟩
end Ru
namespace Ru
open Go.RowKit
open Sp (nJ lO ie bt dj dt okB)
open Dk (Kept du)
open Pk (cZ cS cY)
variable {v:TK}{w:TJ}
theorem Ix{B n:Nat}{l:List UInt8}(o:w.ownsRow B 5 1 v n (BI l))(e:0<n): (convert 125 9 v).run prog w=.ok (.string ⟨l.toArray⟩) w:=by
 have u:(BI l).length=n*1:=o.1;simp only[BI,rY,Nat.mul_one] at u;rcases o.2 with ⟨_,A⟩|⟨g,j,y,rfl,_⟩
 .omega
 .rw[<-El];refine run_convert_bytes_arg _ 125 5 underlying125 underlying5 g 0 _ j (l.map λb=>(b.toNat:Int)) (by simp only[rY];omega) (λi hi=>?_) 9 underlying9;have m:i<l.length:=by omega
  have r:=o.cells (g:=g) rfl i (Z .u8 ((l.map λb=>(b.toNat:Int)).getD i 0)) (by
   simp only[BI];rw[K1,cL,K1,cH m];rfl)
  rw[eW];have z:(⟨g,0,none⟩:Addr).add i=⟨g,i,none⟩:=by
   by_cases e:i=0
   .subst e;simp[Addr.add]
   .simp[Addr.add,e]
  rw[z] at r;exact r
theorem sr(M n:Nat)(l:List UInt8)(v:TK)(w:TJ)(h:pU w M n l v)(b:0<n):TL prog 139 #[.pointer (some ⟨M,0,none⟩)] w λe j=>e=.returned (.string ⟨l.toArray⟩)/\j=w:=by
 have r:=h.c;have m:=Ix h.o b;clear h;go_enter func139,ntmps139;go_wp2;go_ret;exact⟨rfl,rfl⟩
theorem oq.far{M k:Nat}{v':TK}{w':TJ}{x:List UInt8}(h:oq M v w v' w')(j:pU w M k x v){a:Nat}{c:Array TK}{t:Nat}{fr:Nat × Nat}(ha:w.heap[a]?=some (.cells c t fr))(ht:t≠5)(b:a≠M): w'.heap[a]?=some (.cells c t fr):=(h.kept.block a (cS ha) ⟨b,λe=>by obtain⟨y,l,_⟩:=cZ j.o e;rw[l] at ha;injection ha with ha;injection ha with _ ha;exact ht ha.symm⟩).trans ha
theorem oq.below{M B:Nat}{v':TK}{j w':TJ}(h:oq M v w v' w')(hb:Below B j w)(u:B<=M)(l:∀g,v.ownBlock=some g->B<=g)(m:B<=w.heap.size): Below B j w'/\∀g,v'.ownBlock=some g->B<=g:=by
 refine⟨hb.trans (h.kept.toBelow m λk y=>⟨by omega,λe=>by have:=l k e;omega⟩),λg b=>?_⟩;rcases h.row with r|⟨q,r,z⟩
 .rw[r] at b;exact l g b
 .rw[r] at b;injection b with b;omega
theorem PB(step b cX e j:Nat)(all:Int)(h:u64 all=b):(⟨([]++lO step 4++lO b 8++lO cX 4++lO e 4++lO j 4).toArray⟩:TM)=kB step all cX e j:=by
 unfold kB nJ;rw[h];apply Bk;simp only[G3];apply OV.1;simp
theorem tw(cX vx step:Nat)(all:Int)(cv E F:TM)(w:TJ)(hj:cX<4294967296)(hs:step<=9999999999)(h1:E.size<=4194304)(h2:F.size<=4194304):TL prog 122 #[.agg #[Z .u32 cX,Z Y vx],Z Y step,Z Y all,.agg #[.string cv,.string E,.string F]] w λe w'=>e=.returned (.string (kB step all cX (ie F) (ie E)))/\TI w w':=by
 have G:=cP (jy w #[Z .u32 cX,Z Y vx] #[.string cv,.string E,.string F] #[.slice none 0 0] 91 176 251);have ua:=qO all;have la:=qt all;obtain⟨ya,H⟩:∃y,Hid (u64 all=y):=⟨_,rfl⟩
 rw[cO H] at ua la;have lV:=Sp.yq F;have lM:=Sp.yq E;obtain⟨xv,I⟩:∃y,Hid (ie F=y):=⟨_,rfl⟩
 obtain⟨xm,J⟩:∃y,Hid (ie E=y):=⟨_,rfl⟩
 have K:=cP (λW=>uh F W (by omega));have L:=cP (λW=>uh E W (by omega));rw[cO I] at lV K;rw[cO J] at lM L;go_enter func122,ntmps122;go_wp2_with fail;generalize hW:World.alloc (World.alloc _ _) _=W0;obtain⟨b1,b2,b3,aa,hz⟩:=cO G W0 hW.symm;clear hW G;have z:pU W0 (w.heap.size+1+1) 0 [] (.slice none 0 0):=⟨b3,fc _ _ _ _⟩
 refine(jV _ step 4 0 [] _ W0 z (by omega) (by omega) (by omega) 4 rfl).mono ?_;rintro e w1 ⟨rfl,v1,A,b⟩;have c1:=b.far z b1 (by decide) (by omega);have d1:=b.far z b2 (by decide) (by omega);have M:=b.kept.size;obtain⟨N,O⟩:=b.below aa (by omega) (λg hg=>by cases hg) (by omega);clear b z b1 b2 b3;have P:w.heap.size+1+1+1<=w1.heap.size:=cx (Nf hz.symm) M;go_wp2_with fail;refine(jV _ ya 8 4 _ _ w1 A (by omega) (by omega) (by omega) 8 rfl).mono ?_;rintro e w2 ⟨rfl,v2,B,j⟩;have c2:=j.far A c1 (by decide) (by omega);have d2:=j.far A d1 (by decide) (by omega);obtain⟨Q,R⟩:=j.below N (by omega) O (o9 (dT (by omega) P));have S:=cx P j.kept.size;clear j A c1 d1 N O;have x2:w2.cell? ⟨w.heap.size,0,none⟩=some (Z .u32 cX):=by rw[cn w2 _ 0 _ _ _ c2];rfl
 go_wp2_with fail;refine(jV _ cX 4 12 _ _ w2 B (by omega) (by omega) (by omega) 4 rfl).mono ?_;rintro e w3 ⟨rfl,v3,C,l⟩;have c3:=l.far B c2 (by decide) (by omega);have d3:=l.far B d2 (by decide) (by omega);obtain⟨T,U⟩:=l.below Q (by omega) R (o9 (dT (by omega) S));have V:=cx S l.kept.size;clear x2 l B c2 d2 Q R;have x3:w3.cell? ⟨w.heap.size+1,2,none⟩=some (.string F):=by rw[cn w3 _ 2 _ _ _ d3];rfl
 go_wp2_with fail;refine((cO K) w3).mono ?_;rintro e wq ⟨rfl,m⟩;obtain rfl:=m.symm;go_wp2_with fail;refine(jV _ xv 4 16 _ _ w3 C (by omega) (by omega) (by omega) 4 rfl).mono ?_;rintro e o ⟨rfl,v4,D,r⟩;have c4:=r.far C c3 (by decide) (by omega);have d4:=r.far C d3 (by decide) (by omega);obtain⟨X,q⟩:=r.below T (by omega) U (o9 (dT (by omega) V));have t:=cx V r.kept.size;clear x3 r C c3 d3 T U;have x4:o.cell? ⟨w.heap.size+1,1,none⟩=some (.string E):=by rw[cn o _ 1 _ _ _ d4];rfl
 go_wp2_with fail;refine((cO L) o).mono ?_;rintro e wq ⟨rfl,m⟩;obtain rfl:=m.symm;go_wp2_with fail;refine(jV _ xm 4 20 _ _ o D (by omega) (by omega) (by omega) 4 rfl).mono ?_;rintro e w5 ⟨rfl,v5,s,u⟩;have c5:=u.far D c4 (by decide) (by omega);have d5:=u.far D d4 (by decide) (by omega);obtain⟨p,ab⟩:=u.below X (by omega) q (o9 (dT (by omega) t));have ae:=cx t u.kept.size;clear x4 u D c4 d4 X q;go_wp2_with fail;refine(sr _ _ _ _ w5 s (by omega)).mono ?_;rintro e wq ⟨rfl,m⟩;obtain rfl:=m.symm;have ad:=cP p;clear s c5 d5 p ab;go_wp2;go_ret;refine⟨?_,cO ad⟩;rw[cO I,cO J,<-PB step ya cX xv xm all (cO H)]
 rfl
end Ru
namespace Ru
open Go.RowKit
open Sp (nJ lO ie bt dj dt okB)
open Dk (Kept du)
open Pk (cZ cS cY)
theorem LW(b:Bool)(w:TJ):TL prog 138 #[.bool b] w λe w'=>e=.returned (Z .u64 ((if b=true then 1 else 0:Nat):Int))/\w'=w:=by
 cases b with
 |true =>
  go_enter func138,ntmps138;go_wp2;go_ret;exact⟨rfl,rfl⟩
 |false =>
  go_enter func138,ntmps138;go_wp2;go_ret;exact⟨rfl,rfl⟩
def vL(c:Sp.Cfg)(k:Nat):List UInt8:=(vB c k).data.toList
def mL(c:Sp.Cfg)(k:Nat):List UInt8:=(mB c k).data.toList
theorem uJ(n k:Nat):(nJ n k).data.toList=lO n k:=by unfold nJ;simp
theorem KR(c:Sp.Cfg)(k:Nat):vL c (k+1)=vL c k++lO (u64 (c.val.getD k 0)) 8++lO (if c.fC.getD k false=true then 1 else 0) 1:=by
 unfold vL;rw[vB,G3,G3,QU,QU,uJ]
 congr 1
 unfold rB;cases c.fC.getD k false <;> rfl
theorem Lu(c:Sp.Cfg)(k:Nat):mL c (k+1)=mL c k++lO (u64 (c.iK.getD k 0)) 4++lO (u64 (c.je.getD k 0)) 8:=by
 unfold mL;rw[mB,G3,G3,QU,QU,uJ,uJ]
theorem AD(b:TM):(⟨b.data.toList.toArray⟩:TM)=b:=by cases b;simp
structure W2 (w0 w:TJ) (M s1:Nat) (l1:List UInt8) (s2:Nat) (l2:List UInt8) (v u:TK):Prop where
 wv:pU w M s1 l1 v
 wm:pU w (M+1) s2 l2 u
 ap:∀g,v.ownBlock=some g->u.ownBlock≠some g
 lL:TI w0 w
 lv:∀g,v.ownBlock=some g->w0.heap.size<=g
 lu:∀g,u.ownBlock=some g->w0.heap.size<=g
variable {M s1 s2:Nat}{w w' w0:TJ}{u v:TK}{l1 l2:List UInt8}
theorem W2.below(h:W2 w0 w M s1 l1 s2 l2 v u)(hb:TI w w'): W2 w0 w' M s1 l1 s2 l2 v u:=⟨h.wv.below hb,h.wm.below hb,h.ap,h.lL.trans (hb.mono h.lL.size),h.lv,h.lu⟩
theorem W2.pv{b:Nat}{e:List UInt8}{v':TK}(h:W2 w0 w M s1 l1 s2 l2 v u)(l:w0.heap.size<=M)(m:pU w' M b e v')(j:oq M v w v' w'): W2 w0 w' M b e s2 l2 v' u:=by
 obtain⟨r,y⟩:=j.other h.wm ⟨_,_,h.wv⟩ (by omega) h.ap;obtain⟨z,A⟩:=j.below h.lL l h.lv h.lL.size;exact⟨m,r,y,z,A,h.lu⟩
theorem W2.pm{b:Nat}{j:List UInt8}{l:TK}(h:W2 w0 w M s1 l1 s2 l2 v u)(D:w0.heap.size<=M)(y:pU w' (M+1) b j l)(r:oq (M+1) u w l w'): W2 w0 w' M s1 l1 b j v l:=by
 obtain⟨z,A⟩:=r.other h.wv ⟨_,_,h.wm⟩ (by omega) (λg m e=>h.ap g e m);obtain⟨B,C⟩:=r.below h.lL (by omega) h.lu h.lL.size;exact⟨z,y,λg m e=>A g e m,B,h.lv,C⟩
def Bx(w:TJ)(B:Nat)(j k r:Array TK):Prop:=w.heap[B]?=some (.cells j 91 (0,0))/\w.heap[B+1]?=some (.cells k 80 (0,0))/\w.heap[B+1+1]?=some (.cells r 176 (0,0))
theorem Bx.below{B:Nat}{j k r:Array TK}(h:Bx w B j k r)(hb:TI w w'): Bx w' B j k r:=⟨(hb.block _ (cS h.1)).trans h.1,(hb.block _ (cS h.2.1)).trans h.2.1,(hb.block _ (cS h.2.2)).trans h.2.2⟩
theorem Bx.put{B s:Nat}{l:List UInt8}{v':TK}{j k r:Array TK}(h:Bx w B j k r)(b:pU w M s l v)(e:oq M v w v' w')(m:B+1+1<M): Bx w' B j k r:=⟨e.far b h.1 (by decide) (by omega),e.far b h.2.1 (by decide) (by omega),e.far b h.2.2 (by decide) (by omega)⟩
theorem IG(w:TJ)(a b c d e:Array TK)(j l m r y:TypeId):∀W,W=((((w.alloc (.cells a j)).alloc (.cells b l)).alloc (.cells c m)).alloc (.cells d r)).alloc (.cells e y)->W.heap[w.heap.size]?=some (.cells a j (0,0))/\W.heap[w.heap.size+1]?=some (.cells b l (0,0))/\W.heap[w.heap.size+1+1]?=some (.cells c m (0,0))/\W.heap[w.heap.size+1+1+1]?=some (.cells d r (0,0))/\W.heap[w.heap.size+1+1+1+1]?=some (.cells e y (0,0))/\TI w W:=by
 rintro W rfl;obtain⟨D,E,F,G,H⟩:=jy w a b c j l m _ rfl;generalize ((w.alloc (.cells a j)).alloc (.cells b l)).alloc (.cells c m)=A at *;obtain⟨B,C,z,I⟩:=pJ A d e r y _ rfl;generalize (A.alloc (.cells d r)).alloc (.cells e y)=W at *;rw[H] at B C;exact⟨(z.block _ (by omega)).trans D,(z.block _ (by omega)).trans E,(z.block _ (by omega)).trans F,B,C,G.trans (z.mono (by omega))⟩
def Eg(step all:Int)(cX:Nat)(c:Sp.Cfg)(n b:Nat):Array TK := #[.string (dj (kB b all cX (ie (dj (vB c n))) (ie (dj (mB c n))))),.string (dj (mB c n)),.string (dj (vB c n))]
theorem vu(cX X step:Nat)(p:Option Addr)(n cap:Nat)(c:Sp.Cfg)(w:TJ)(hv:kl w p c n)(hn:n<=64)(aS:0<n)(hj:cX<4294967296)(hs:step<=9999999999):TL prog 93 #[.agg #[Z .u32 cX,Z Y X],gw step p n cap c.all] w λe w'=>e=.returned (.agg (Eg step c.all cX c n step))/\TI w w':=by
 unfold gw;have HV:=cP hv;clear hv;have ak:=cP (IG w #[Z .u32 cX,Z Y X] #[Z Y step,.slice p n cap,Z Y c.all] #[.string ⟨#[]⟩,.string ⟨#[]⟩,.string ⟨#[]⟩] #[.slice none 0 0] #[.slice none 0 0] 91 80 176 251 251);go_enter func93,ntmps93;go_wp2_with fail;generalize hW:World.alloc (World.alloc (World.alloc _ _) _) _=W0;obtain⟨b1,b2,b3,b4,b5,an⟩:=cO ak W0 hW.symm;clear hW ak;have ao:Hid (W2 w W0 (w.heap.size+1+1+1) (9*0) (vL c 0) (12*0) (mL c 0) (.slice none 0 0) (.slice none 0 0)/\Bx W0 w.heap.size #[Z .u32 cX,Z Y X] #[Z Y step,.slice p n cap,Z Y c.all] #[.string ⟨#[]⟩,.string ⟨#[]⟩,.string ⟨#[]⟩]):=⟨⟨⟨b4,fc _ _ _ _⟩,⟨b5,fc _ _ _ _⟩,λg q=>(by cases q),an,λg q=>(by cases q),λg q=>(by cases q)⟩,b1,b2,b3⟩
 clear b1 b2 b3 b4 b5 an
 go_loopw [13] (λi wr=>∃(k:Nat) (v u:TK),k<=n/\i=Z Y k/\Hid (W2 w wr (w.heap.size+1+1+1) (9*k) (vL c k) (12*k) (mL c k) v u/\Bx wr w.heap.size #[Z .u32 cX,Z Y X] #[Z Y step,.slice p n cap,Z Y c.all] #[.string ⟨#[]⟩,.string ⟨#[]⟩,.string ⟨#[]⟩])) (λi _=>n-(intOf i).toNat)
 case atStart=>exact⟨0,_,_,cy _,rfl,ao⟩
 case round =>
  clear ao;obtain⟨k,v,u,hk,rfl,HI⟩:=hrel;by_cases aD:k<n
  .have aq:(k:Int)<(n:Int):=by omega
   obtain⟨h2,hx⟩:=cO HI;obtain⟨g,rfl,q,d0,d1,d2,d3⟩:=((cO HV).below h2.lL) k aD;have t:=cP (KR c k);have s:=cP (Lu c k);generalize c.val.getD k 0=x0 at *;generalize c.fC.getD k false=x1 at *;generalize c.iK.getD k 0=x2 at *;generalize c.je.getD k 0=x3 at *;have u0:=qO x0;have u2:=qO x2;have u3:=qO x3;have l0:=qt x0;have l2:=qt x2;have l3:=qt x3;obtain⟨y0,aE⟩:∃y,Hid (u64 x0=y):=⟨_,rfl⟩
   obtain⟨y2,aF⟩:∃y,Hid (u64 x2=y):=⟨_,rfl⟩
   obtain⟨y3,aG⟩:∃y,Hid (u64 x3=y):=⟨_,rfl⟩
   rw[cO aE] at u0 l0 t;rw[cO aF] at u2 l2 s;rw[cO aG] at u3 l3 s;obtain⟨yb,ar⟩:∃y,Hid ((if x1=true then 1 else 0:Nat)=y):=⟨_,rfl⟩
   have lb:yb<=1:=by rw[<-cO ar];split <;> omega
   have au:=cP (λW=>LW x1 W);rw[cO ar] at au t;have o:TI wr (wr.alloc (.cells #[Z Y x0,.bool x1,Z Y x2,Z Y x3] 104)):=TH.alloc TG _;have h3:=h2.below o;have aa:=hx.below o;have K:=ct wr (.cells #[Z Y x0,.bool x1,Z Y x2,Z Y x3] 104);have aH:w.heap.size+1+1+1+1<wr.heap.size:=cS h2.wm.b;clear h2 hx HI o;go_upto_region 5 with fail;obtain⟨L,hL⟩:∃L,wr.heap.size=L:=⟨_,rfl⟩
   rw[hL] at K aH ⊢;generalize ab:World.alloc _ _=w4 at h3 aa K ⊢;clear ab;have N:=h3;have B:=aa;have ad:=K;clear h3 aa K hL d0 d1 d2 d3 q;have aI:w4.cell? ⟨L,0,none⟩=some (Z Y x0):=by rw[cn w4 L 0 _ _ _ ad];rfl
   go_wp2_with fail;refine(jV _ y0 8 _ _ _ w4 N.wv (by omega) (by omega) (by omega) 8 rfl).mono ?_;rintro e w5 ⟨rfl,z5,av,O⟩;have I:=N.pv (by omega) av O;have C:=B.put N.wv O (by omega);have ae:=O.far N.wv ad (by decide) (by omega);clear N B ad av O;have aJ:w5.cell? ⟨L,1,none⟩=some (.bool x1):=by rw[cn w5 L 1 _ _ _ ae];rfl
   clear aI;go_wp2_with fail;refine((cO au) w5).mono ?_;rintro e wq ⟨rfl,D⟩;obtain rfl:=D.symm;go_wp2_with fail;refine(jV _ yb 1 _ _ _ w5 I.wv (by omega) (by omega) (by omega) 1 rfl).mono ?_;rintro e P ⟨rfl,z6,aw,Q⟩;have R:=I.pv (by omega) aw Q;have A:=C.put I.wv Q (by omega);have af:=Q.far I.wv ae (by decide) (by omega);clear I C ae aw Q;have aK:P.cell? ⟨L,2,none⟩=some (Z Y x2):=by rw[cn P L 2 _ _ _ af];rfl
   clear aJ;go_wp2_with fail;refine(jV _ y2 4 _ _ _ P R.wm (by omega) (by omega) (by omega) 4 rfl).mono ?_;rintro e l ⟨rfl,z7,ax,S⟩;have J:=R.pm (by omega) ax S;have j:=A.put R.wm S (by omega);have ag:=S.far R.wm af (by decide) (by omega);clear R A af ax S;have aL:l.cell? ⟨L,3,none⟩=some (Z Y x3):=by rw[cn l L 3 _ _ _ ag];rfl
   clear aK;go_wp2_with fail;refine(jV _ y3 8 _ _ _ l J.wm (by omega) (by omega) (by omega) 8 rfl).mono ?_;rintro e w8 ⟨rfl,z8,ay,T⟩;have h8:=J.pm (by omega) ay T;have E:=j.put J.wm T (by omega);have aM:=T.far J.wm ag (by decide) (by omega);clear J j ag ay T;clear aL;have aN:Hid (W2 w w8 (w.heap.size+1+1+1) (9*(k+1)) (vL c (k+1)) (12*(k+1)) (mL c (k+1)) z6 z8/\Bx w8 w.heap.size #[Z .u32 cX,Z Y X] #[Z Y step,.slice (some ⟨g,0,none⟩) n cap,Z Y c.all] #[.string ⟨#[]⟩,.string ⟨#[]⟩,.string ⟨#[]⟩]):=by
    rw[cO t,cO s,show 9*(k+1)=9*k+8+1 by omega,show 12*(k+1)=12*k+4+8 by omega];exact⟨h8,E⟩
   clear h8 E aM;go_wp2;go_roundw
   case rel=>exact⟨k+1,_,_,by omega,by go_num,aN⟩
   case measure=>simp[intOf];omega
  .obtain rfl:k=n:=by omega
   have aq:¬(k:Int)<(k:Int):=by omega
   obtain⟨N,B⟩:=cO HI;have aO:Hid (∀W,pU W (w.heap.size+1+1+1) (9*k) (vL c k) v->TL prog 139 #[.pointer (some ⟨w.heap.size+1+1+1,0,none⟩)] W λe w'=>e=.returned (.string (vB c k))/\w'=W):=λW hW=>by
    have h:=sr _ _ _ _ W hW (by omega);unfold vL at h;rw[AD] at h;exact h
   have aP:Hid (∀W,pU W (w.heap.size+1+1+1+1) (12*k) (mL c k) u->TL prog 139 #[.pointer (some ⟨w.heap.size+1+1+1+1,0,none⟩)] W λe w'=>e=.returned (.string (mB c k))/\w'=W):=λW hW=>by
    have h:=sr _ _ _ _ W hW (by omega);unfold mL at h;rw[AD] at h;exact h
   have zv:=Nf (fw c k);have zm:=Nf (ga c k);clear HI;go_wp2_with fail;refine((cO aP) wr N.wm).mono ?_;rintro e wq ⟨rfl,D⟩;obtain rfl:=D.symm;go_wp2_with fail;refine(po (mB c k) wr (by omega)).mono ?_;rintro e w5 ⟨rfl,ah⟩;have I:=N.below ah;have C:=B.below ah;clear N B ah;go_wp2_with fail;refine((cO aO) w5 I.wv).mono ?_;rintro e wq ⟨rfl,D⟩;obtain rfl:=D.symm;go_wp2_with fail;refine(po (vB c k) w5 (by omega)).mono ?_;rintro e P ⟨rfl,ai⟩;have R:=I.lL.trans (ai.mono I.lL.size);have A:=C.below ai;clear I C ai;have sV:=Nf (Sp.ep (vB c k));have sM:=Nf (Sp.ep (mB c k));obtain⟨F,az⟩:∃F,Hid (dj (vB c k)=F):=⟨_,rfl⟩
   obtain⟨G,aA⟩:∃G,Hid (dj (mB c k)=G):=⟨_,rfl⟩
   rw[cO az] at sV ⊢;rw[cO aA] at sM ⊢;have o:TI P (P.alloc (.cells #[.string ⟨#[]⟩,.string G,.string F] 176)):=TH.alloc TG _;have m:=ct P (.cells #[.string ⟨#[]⟩,.string G,.string F] 176);have J:=R.trans (o.mono R.size);have j:=A.below o;obtain⟨L,hL⟩:∃L,P.heap.size=L:=⟨_,rfl⟩
   have aT:w.heap.size+1+1<L:=by rw[<-hL];exact cS A.2.2
   clear R A o;go_upto_region 11 with fail
   first|rw[hL] at m ⊢|rw[hL] at m
   generalize ab:World.alloc _ _=l at J j m ⊢;clear ab hL;have q0:l.cell? ⟨w.heap.size,0,none⟩=some (Z .u32 cX):=by rw[cn l _ 0 _ _ _ j.1];rfl
   have q1:l.cell? ⟨w.heap.size,1,none⟩=some (Z Y X):=by rw[cn l _ 1 _ _ _ j.1];rfl
   have q2:l.cell? ⟨w.heap.size+1,0,none⟩=some (Z Y step):=by rw[cn l _ 0 _ _ _ j.2.1];rfl
   have q3:l.cell? ⟨w.heap.size+1,2,none⟩=some (Z Y c.all):=by rw[cn l _ 2 _ _ _ j.2.1];rfl
   have q4:l.cell? ⟨L,0,none⟩=some (.string ⟨#[]⟩):=by rw[cn l _ 0 _ _ _ m];rfl
   have q5:l.cell? ⟨L,1,none⟩=some (.string G):=by rw[cn l _ 1 _ _ _ m];rfl
   have q6:l.cell? ⟨L,2,none⟩=some (.string F):=by rw[cn l _ 2 _ _ _ m];rfl
   have aB:=cP (tw cX X step c.all ⟨#[]⟩ G F l hj hs (by omega) (by omega));go_wp2_with fail;refine(cO aB).mono ?_;rintro e w8 ⟨rfl,U⟩;have h8:=J.trans (U.mono J.size);have E:=j.below U;have aj:=(U.block L (cS m)).trans m;clear J j m U q0 q1 q2 q3 q4 q5 q6 aB;have zk:=Nf (l5 step c.all cX (ie F) (ie G));obtain⟨KB,aC⟩:∃KB,Hid (kB step c.all cX (ie F) (ie G)=KB):=⟨_,rfl⟩
   rw[cO aC] at zk ⊢;go_wp2_with fail;refine(po KB w8 (by omega)).mono ?_;rintro e r ⟨rfl,V⟩;have h9:=h8.trans (V.mono h8.size);have z:=E.below V;have H:=(V.block L (cS aj)).trans aj;have z0:r.cell? ⟨L,0,none⟩=some (.string ⟨#[]⟩):=by rw[cn r _ 0 _ _ _ H];rfl
   have z1:r.cell? ⟨L,1,none⟩=some (.string G):=by rw[cn r _ 1 _ _ _ H];rfl
   have z2:r.cell? ⟨L,2,none⟩=some (.string F):=by rw[cn r _ 2 _ _ _ H];rfl
   have f0:r.frozen? ⟨L,0,none⟩=false:=by simp[World.frozen?,H]
   have y0:r.cell? ⟨w.heap.size+1+1,0,none⟩=some (.string ⟨#[]⟩):=by rw[cn r _ 0 _ _ _ z.2.2];rfl
   have y1:r.cell? ⟨w.heap.size+1+1,1,none⟩=some (.string ⟨#[]⟩):=by rw[cn r _ 1 _ _ _ z.2.2];rfl
   have y2:r.cell? ⟨w.heap.size+1+1,2,none⟩=some (.string ⟨#[]⟩):=by rw[cn r _ 2 _ _ _ z.2.2];rfl
   have g0:r.frozen? ⟨w.heap.size+1+1,0,none⟩=false:=by simp[World.frozen?,z.2.2]
   have g1:r.frozen? ⟨w.heap.size+1+1,1,none⟩=false:=by simp[World.frozen?,z.2.2]
   have g2:r.frozen? ⟨w.heap.size+1+1,2,none⟩=false:=by simp[World.frozen?,z.2.2]
   have aQ:L≠w.heap.size+1+1:=by omega
   have aR:Hid (TI w ((((r.setCell ⟨L,0,none⟩ (.string (dj KB))).setCell ⟨w.heap.size+1+1,0,none⟩ (.string (dj KB))).setCell ⟨w.heap.size+1+1,1,none⟩ (.string G)).setCell ⟨w.heap.size+1+1,2,none⟩ (.string F))):=(((h9.setCell (p:=⟨L,0,none⟩) (by show w.heap.size<=L;omega) _).setCell (p:=⟨w.heap.size+1+1,0,none⟩) (by show w.heap.size<=w.heap.size+1+1;omega) _).setCell (p:=⟨w.heap.size+1+1,1,none⟩) (by show w.heap.size<=w.heap.size+1+1;omega) _).setCell (p:=⟨w.heap.size+1+1,2,none⟩) (by show w.heap.size<=w.heap.size+1+1;omega) _;clear h8 E aj V h9 z H;go_wp2;refine cr (v := .agg #[.string (dj KB),.string G,.string F]) ?_ rfl ⟨?_,cO aR⟩
   .simp[results,results93,go_sem,y0,y1,y2,z0,z1,z2,aQ]
   .unfold Eg;rw[cO az,cO aA,cO aC]
end Ru
namespace Ru
open Go.RowKit
open Sp (nJ lO ie bt dj dt okB)
theorem Kr(a b:Nat)(ha:a<72057594037927936)(hb:b<256):bits .or .u64 ((a*256:Nat):Int) (b:Int)=((b+256*a:Nat):Int):=by
 have h:a*256 ||| b=b+256*a:=by
  have:=Nat.two_pow_add_eq_or_of_lt (i:=8) (b:=b) (by omega) a;rw[show (2:Nat) ^ 8=256 by decide] at this;rw[M7 a 256,<-this];omega
 rw[u64_or_nat _ _ (by omega) (by omega),h]
theorem uU(L:Nat)(s:TM)(k:Nat)(C:Int)(w:TJ)(u:C=(k:Int))(M:k<=8)(E:k<=s.size)(N:w.cell? ⟨L,0,none⟩=some (.string s))(O:w.frozen? ⟨L,0,none⟩=false):TL prog 120 #[.pointer (some ⟨L,0,none⟩),Z Y C] w λe F=>e=.returned (Z .u64 (num s 0 k))/\F=w.setCell ⟨L,0,none⟩ (.string (s.extract k s.size)):=by
 subst u;have P:∀W,Sem.run prog (Instr.slice 9 (.string s) (some (Z Y (k:Int))) none none) W=.ok (.string (s.extract k s.size)) W:=λW=>Rw s k _ rfl E W
 go_enter func120,ntmps120;go_wp2
 go_loopw [5,6] (λH y wr=>∃(j:Nat) (m:Int),j<=k/\y=Z Y m/\m=(j:Int)-1/\H=Z .u64 (num s j (k-j))/\wr=w) (λ_ y _=>(intOf y+1).toNat)
 case atStart=>exact⟨k,(k:Int)-1,b7 _,rfl,rfl,by rw[Nat.sub_self];rfl,rfl⟩
 case round =>
  obtain⟨j,m,Q,rfl,I,rfl,z⟩:=hrel;obtain rfl:=z.symm;have D:num s j (k-j)<256 ^ (k-j):=gV s _ _;by_cases c:0<j
  .obtain⟨i,rfl⟩:∃i,j=i+1:=⟨j-1,by omega⟩
   obtain rfl:m=(i:Int):=by omega
   have J:0<=(i:Int):=by omega
   have l:num s (i+1) (k-(i+1))<72057594037927936:=by
    have R:=Nat.pow_le_pow_right (n:=256) (by omega) (show k-(i+1)<=7 by omega);have S:(256:Nat) ^ 7=72057594037927936:=by decide
    omega
   have r:=Sp.jh s i;have K:∀W,Sem.run prog (Instr.index 9 (.string s) (Z Y (i:Int))) W=.ok (Z .u8 (bt s i:Nat)) W:=λW=>Q6 s i _ rfl (by omega) W
   have A:Hid (num s i (k-i)=bt s i+256*num s (i+1) (k-(i+1))):=by
    show _=_
    rw[J4];congr 1;omega
   generalize num s (i+1) (k-(i+1))=G at l A;generalize bt s i=b at r K A;have B:Hid (bits .or .u64 ((G:Int)*256) (b:Int)=((b+256*G:Nat):Int)):=by
    have h:=Kr G b l r;rw[Int.natCast_mul] at h;exact h
   clear D I;go_wp2;refine⟨⟨i,(i:Int)-1,by omega,rfl,rfl,?_,trivial⟩,?_⟩
   .rw[cO A,cO B]
   .simp[intOf] <;> omega
  .have J:¬0<=m:=by omega
   obtain rfl:j=0:=by omega
   rw[Nat.sub_zero];clear D;go_wp2;go_ret;exact⟨rfl,rfl⟩
theorem m8(s:TM)(w:TJ):TL prog 119 #[.string s] w λe b=>e=.returned (.agg #[.string s])/\TI w b:=by
 go_enter func119,ntmps119;go_wp2;exact cr (v := .agg #[.string s]) (by simp[results,results119,go_sem]) rfl ⟨rfl,TH.alloc TG _⟩
abbrev gG:Array TK := #[Z Y 0,.slice none 0 0,Z Y 0]
theorem zp(s:TM)(w:TJ)(J:s.size<=4194304)(h:¬(okB s=true/\(dt s).size=24)):TL prog 78 #[.string s] w λe D=>e=.returned (.tuple #[.agg gG,.bool false])/\TI w D:=by
 have u:(okB s&&decide ((dt s).size=24))=false:=by
  cases E:okB s with
  |false=>rfl
  |true=>rw[Bool.true_and,df];exact λF=>h ⟨E,F⟩
 have z:=cP (λW=>nU s 24 W (by omega) (by omega));rw[u] at z;generalize dt s=P at z;clear h u;have y:Hid (∀W,W=w.alloc (.cells gG 80)->W.heap[w.heap.size]?=some (.cells gG 80 (0,0))/\TI w W):=by
  show ∀W,_
  rintro W rfl;exact⟨ct w _,(cj _ w).alloc TG _⟩
 go_enter func78,ntmps78;go_wp2_with fail;generalize B:World.alloc _ _=C;obtain⟨l,m⟩:=cO y C B.symm;clear B y;refine((cO z) C).mono ?_;rintro e j ⟨rfl,r⟩;have b:=(r.block _ (Pk.cS l)).trans l;have G:j.cell? ⟨w.heap.size,0,none⟩=some (Z Y 0):=by rw[cn j _ 0 _ _ _ b];rfl
 have H:j.cell? ⟨w.heap.size,1,none⟩=some (.slice none 0 0):=by rw[cn j _ 1 _ _ _ b];rfl
 have I:j.cell? ⟨w.heap.size,2,none⟩=some (Z Y 0):=by rw[cn j _ 2 _ _ _ b];rfl
 have K:j.frozen? ⟨w.heap.size,0,none⟩=false:=by simp[World.frozen?,b]
 have L:j.frozen? ⟨w.heap.size,1,none⟩=false:=by simp[World.frozen?,b]
 have M:j.frozen? ⟨w.heap.size,2,none⟩=false:=by simp[World.frozen?,b]
 have A:Hid (TI w (((j.setCell ⟨w.heap.size,0,none⟩ (Z Y 0)).setCell ⟨w.heap.size,1,none⟩ (.slice none 0 0)).setCell ⟨w.heap.size,2,none⟩ (Z Y 0))):=(((m.trans (r.mono m.size)).setCell (p:=⟨w.heap.size,0,none⟩) TG _).setCell (p:=⟨w.heap.size,1,none⟩) TG _).setCell (p:=⟨w.heap.size,2,none⟩) TG _;clear l m r b z;go_wp2;exact cr (v := .tuple #[.agg gG,.bool false]) (by simp[results,results78,go_sem,G,H,I,gG]) rfl ⟨rfl,cO A⟩
end Ru
namespace Ru
open Go.RowKit
open Sp (nJ lO ie bt dj dt okB)
theorem ru(s:TM)(w:TJ)(hs:s.size<=4194304)(h1:okB s=true)(h2:(dt s).size=24):TL prog 78 #[.string s] w λe O=>e=.returned (.tuple #[.agg #[Z Y (num (dt s) 0 4),.slice none 0 0,Z Y (pR (num (dt s) 4 8))],.bool true])/\TI w O:=by
 have R:(okB s&&decide ((dt s).size=24))=true:=by rw[h1,kH h2];rfl
 have V:=cP (λW=>nU s 24 W (by omega) (by omega));rw[R] at V;generalize dt s=P at V h2 ⊢;have B:=cP h2;clear h1 R;have S:Hid (∀W,W=w.alloc (.cells gG 80)->W.heap[w.heap.size]?=some (.cells gG 80 (0,0))/\TI w W):=by
  show ∀W,_
  rintro W rfl;exact⟨ct w _,(cj _ w).alloc TG _⟩
 have q:=gV P 4 0;have p4:(256:Nat) ^ 4=4294967296:=by decide
 have l4:num P 0 4<4294967296:=by omega
 obtain⟨T,C⟩:∃T,Hid (num P 0 4=T):=⟨_,rfl⟩
 obtain⟨D,E⟩:∃D,Hid (num P 4 8=D):=⟨_,rfl⟩
 have t:IntKind.i64.wrap (D:Int)=pR D:=uR (by rw[<-cO E];exact gV P 8 4);obtain⟨X,U⟩:∃X,Hid (pR D=X):=⟨_,rfl⟩
 rw[cO U] at t;rw[cO C] at l4;obtain⟨u,o⟩:∃u,Hid (P.extract 4 P.size=u):=⟨_,rfl⟩
 have g:Hid (∀L W,W.cell? ⟨L,0,none⟩=some (.string P)->W.frozen? ⟨L,0,none⟩=false->TL prog 120 #[.pointer (some ⟨L,0,none⟩),Z Y 4] W λe O=>e=.returned (Z .u64 T)/\O=W.setCell ⟨L,0,none⟩ (.string u)):=λL W c f=>by
  have h:=uU L P 4 4 W rfl (by omega) (by rw[cO B];omega) c f;rw[cO C,cO o] at h;exact h
 have aa:Hid (∀L W,W.cell? ⟨L,0,none⟩=some (.string u)->W.frozen? ⟨L,0,none⟩=false->TL prog 120 #[.pointer (some ⟨L,0,none⟩),Z Y 8] W λe O=>e=.returned (Z .u64 D)/\∃b,O=W.setCell ⟨L,0,none⟩ (.string b)):=λL W c f=>by
  have hz:u.size=20:=by rw[<-cO o,cK,cO B];rfl
  have h:=uU L u 8 8 W rfl (by omega) (by omega) c f;have e:num u 0 8=D:=by
   rw[<-cO o,pD P 4 P.size TG 8 0 (by rw[cO B];omega),<-cO E]
  rw[e] at h;exact h.mono λe O ⟨he,hw⟩=>⟨he,_,hw⟩
 clear q p4 h2;go_enter func78,ntmps78;go_wp2_with fail;generalize hW:World.alloc _ _=W0;obtain⟨F,G⟩:=cO S W0 hW.symm;clear hW S;refine((cO V) W0).mono ?_;rintro e w1 ⟨rfl,m⟩;have H:=(m.block _ (Pk.cS F)).trans F;replace m:=G.trans (m.mono G.size);clear F G V;go_wp2_with fail;refine(m8 P w1).mono ?_;rintro e Q ⟨rfl,r⟩;have l:=(r.block _ (Pk.cS H)).trans H;replace r:=m.trans (r.mono m.size);have I:w.heap.size<Q.heap.size:=Pk.cS l;clear H m;have hA:TI Q (Q.alloc (.cells #[.string P] 231)):=TH.alloc TG _;have y:=ct Q (.cells #[.string P] 231);have z:=(hA.block _ (Pk.cS l)).trans l;have J:=r.trans (hA.mono r.size);clear l r hA;go_upto_region 5 with fail;obtain⟨L,hL⟩:∃L,Q.heap.size=L:=⟨_,rfl⟩
 rw[hL] at y I ⊢;generalize ab:World.alloc _ _=w3 at y z J ⊢;clear ab hL;have c3:w3.cell? ⟨L,0,none⟩=some (.string P):=by rw[cn w3 _ 0 _ _ _ y];rfl
 have f3:w3.frozen? ⟨L,0,none⟩=false:=by simp[World.frozen?,y]
 go_wp2_with fail;refine((cO g) L w3 c3 f3).mono ?_;rintro e w4 ⟨rfl,rfl⟩;have c4:(w3.setCell ⟨L,0,none⟩ (.string u)).cell? ⟨L,0,none⟩=some (.string u):=mm _ _ _ c3;have f4:(w3.setCell ⟨L,0,none⟩ (.string u)).frozen? ⟨L,0,none⟩=false:=by rw[kX];exact f3
 have K:(w3.setCell ⟨L,0,none⟩ (.string u)).heap[w.heap.size]?=some (.cells gG 80 (0,0)):=(cG _ _ _ _ (λe=>by have e':w.heap.size=L:=e;omega)).trans z;have M:=J.setCell (p:=⟨L,0,none⟩) (o9 I) (.string u);clear c3 f3 y z J;generalize World.setCell _ _ _=w4 at c4 f4 K M ⊢;go_wp2_with fail;refine((cO aa) L w4 c4 f4).mono ?_;rintro e A ⟨rfl,b,rfl⟩;have j:(w4.setCell ⟨L,0,none⟩ (.string b)).heap[w.heap.size]?=some (.cells gG 80 (0,0)):=(cG _ _ _ _ (λe=>by have e':w.heap.size=L:=e;omega)).trans K;have N:=M.setCell (p:=⟨L,0,none⟩) (o9 I) (.string b);clear c4 f4 K M;generalize World.setCell _ _ _=A at j N ⊢;have r0:A.cell? ⟨w.heap.size,0,none⟩=some (Z Y 0):=by rw[cn A _ 0 _ _ _ j];rfl
 have r1:A.cell? ⟨w.heap.size,1,none⟩=some (.slice none 0 0):=by rw[cn A _ 1 _ _ _ j];rfl
 have r2:A.cell? ⟨w.heap.size,2,none⟩=some (Z Y 0):=by rw[cn A _ 2 _ _ _ j];rfl
 have g0:A.frozen? ⟨w.heap.size,0,none⟩=false:=by simp[World.frozen?,j]
 have g1:A.frozen? ⟨w.heap.size,1,none⟩=false:=by simp[World.frozen?,j]
 have g2:A.frozen? ⟨w.heap.size,2,none⟩=false:=by simp[World.frozen?,j]
 have ad:Hid (TI w (((A.setCell ⟨w.heap.size,0,none⟩ (Z Y T)).setCell ⟨w.heap.size,1,none⟩ (.slice none 0 0)).setCell ⟨w.heap.size,2,none⟩ (Z Y X))):=((N.setCell (p:=⟨w.heap.size,0,none⟩) TG _).setCell (p:=⟨w.heap.size,1,none⟩) TG _).setCell (p:=⟨w.heap.size,2,none⟩) TG _;clear j N;go_wp2;refine cr (v := .tuple #[.agg #[Z Y T,.slice none 0 0,Z Y X],.bool true]) (by simp[results,results78,go_sem,r0,r1,r2]) rfl ⟨?_,cO ad⟩;rw[cO C,cO E,cO U]
end Ru
namespace Ru
open Go.RowKit
open Sp (nJ lO ie bt dj dt okB)
theorem Bv(g p:TM)(cT z:Nat)(w:TJ)(N:g.size<=1048576)(O:p.size<=1048576)(P:cT<=200)(ht:gh w):TL prog 31 #[.string g,.string p,Z Y cT,Z Y z] w λe F=>e=.returned (.agg #[Z .u32 (pQ g p cT),Z Y z])/\TI w F:=by
 have hd:=AA cT (by omega);have m:(⟨#[0]⟩:TM).size=1:=rfl;have G:=cP (λW (A:TI w W)=>r6 cT _ W rfl (by omega) (ht.below A));have r:TI w (w.alloc (.cells #[Z .u32 0,Z Y 0] 91)):=TH.alloc TG _;have b:=ct w (.cells #[Z .u32 0,Z Y 0] 91);have Q:¬9223372036854775807<g.size+(⟨#[0]⟩:TM).size:=by rw[m];omega
 have R:¬9223372036854775807<(g++⟨#[0]⟩).size+p.size:=by rw[cM,m];omega
 have S:¬9223372036854775807<(g++⟨#[0]⟩++p).size+(⟨#[0]⟩:TM).size:=by rw[cM,cM,m];omega
 have T:¬9223372036854775807<(g++⟨#[0]⟩++p++⟨#[0]⟩).size+(dc cT).size:=by rw[cM,cM,cM,m];omega
 have H:(Hy g p cT).size<=3000000:=by unfold Hy;simp only[cM];omega
 have I:=cP (λW=>uh (Hy g p cT) W (by omega));clear ht m;go_enter func31,ntmps31;go_wp2_with fail;generalize J:World.alloc _ _=K at r b ⊢;clear J;refine((cO G) K r).mono ?_;rintro e j ⟨rfl,l⟩;have A:=r.trans (l.mono r.size);have u:=(l.block _ (Pk.cS b)).trans b;clear r b l;go_wp2_with fail;refine((cO I) j).mono ?_;rintro e U ⟨rfl,B⟩;obtain rfl:=B.symm;have L:j.cell? ⟨w.heap.size,0,none⟩=some (Z .u32 0):=by rw[cn j _ 0 _ _ _ u];rfl
 have M:j.cell? ⟨w.heap.size,1,none⟩=some (Z Y 0):=by rw[cn j _ 1 _ _ _ u];rfl
 have V:j.frozen? ⟨w.heap.size,0,none⟩=false:=by simp[World.frozen?,u]
 have X:j.frozen? ⟨w.heap.size,1,none⟩=false:=by simp[World.frozen?,u]
 obtain⟨y,D⟩:∃y,Hid (pQ g p cT=y):=⟨_,rfl⟩
 have E:ie (Hy g p cT)=y:=cO D;rw[E];have C:Hid (TI w ((j.setCell ⟨w.heap.size,0,none⟩ (Z .u32 y)).setCell ⟨w.heap.size,1,none⟩ (Z Y z))):=(A.setCell (p:=⟨w.heap.size,0,none⟩) TG _).setCell (p:=⟨w.heap.size,1,none⟩) TG _;clear u A E;go_wp2;refine cr (v := .agg #[Z .u32 y,Z Y z]) (by simp[results,results31,go_sem,L,M]) rfl ⟨?_,cO C⟩;rw[cO D]
end Ru
namespace Ru
open Go.RowKit
open Sp (nJ lO ie bt dj dt okB)
open Pk (cZ cS cY)
theorem Lk(s:TM)(o:Nat):num s o 1=bt s o:=by show bt s o+256*0=_;omega
theorem um(s:TM)(a k:Nat)(h:a+k<=s.size):(s.extract a s.size).extract k (s.extract a s.size).size=s.extract (a+k) s.size:=by
 apply Sp.jK
 .simp only[cK];omega
 .intro i hi;simp only[cK] at hi;rw[Sp.fV _ _ _ _ TG (by simp only[cK];omega),Sp.fV s a s.size _ TG (by omega),Sp.fV s (a+k) s.size i TG (by omega)]
  congr 1;omega
structure Rv (w wr:TJ) (L:Nat) (v m:TM) (n j:Nat) (sl:TK):Prop where
 b8:wr.heap[L]?=some (.cells #[.string (v.extract (9*j) v.size)] 231 (0,0))
 b9:wr.heap[L+1]?=some (.cells #[.string (m.extract (12*j) m.size)] 231 (0,0))
 o:wr.ownsRow w.heap.size 104 4 sl j (jm (gC v m ⟨#[]⟩ n).val (gC v m ⟨#[]⟩ n).fC (gC v m ⟨#[]⟩ n).iK (gC v m ⟨#[]⟩ n).je j)
 lL:TI w wr
 lo:w.heap.size<=L
variable {L:Nat}{y:TK}{W:TJ}
theorem rQ{x:TK}(h:W.heap[L]?=some (.cells #[x] 231 (0,0))): (W.setCell ⟨L,0,none⟩ y).heap[L]?=some (.cells #[y] 231 (0,0)):=by
 rw[cA W L 0 _ _ _ h];rfl
theorem rV{M:Nat}{c:Array TK}{t:Nat}(h:W.heap[M]?=some (.cells c t (0,0)))(b:M≠L): (W.setCell ⟨L,0,none⟩ y).heap[M]?=some (.cells c t (0,0)):=(cG _ _ _ M (λe=>b e)).trans h
theorem qR{B n:Nat}{x v:TK}{b:List TK}(h:W.heap[L]?=some (.cells #[x] 231 (0,0)))(j:W.ownsRow B 104 4 v n b): (W.setCell ⟨L,0,none⟩ y).ownsRow B 104 4 v n b:=v8 j (λe=>by obtain⟨z,l,_⟩:=cZ j e;exact cY l h (by decide) rfl) _
theorem takeB(L:Nat)(s:TM)(k:Nat)(b:Int)(w:TJ)(j:b=(k:Int))(l:k<=8)(m:k<=s.size)(hb:w.heap[L]?=some (.cells #[.string s] 231 (0,0))):TL prog 120 #[.pointer (some ⟨L,0,none⟩),Z Y b] w λe r=>e=.returned (Z .u64 (num s 0 k))/\r=w.setCell ⟨L,0,none⟩ (.string (s.extract k s.size)):=uU L s k b w j l m (by rw[cn w L 0 _ _ _ hb];rfl) (by simp[World.frozen?,hb])
def IY(v m:TM)(n:Nat)(w:TJ)(e:Ending)(w':TJ):Prop:=TI w w'/\((∀i,i<n->bt v (9*i+8)<=1)->∃sl,e=.returned (.tuple #[sl,.bool true])/\w'.ownsRow w.heap.size 104 4 sl n (jm (gC v m ⟨#[]⟩ n).val (gC v m ⟨#[]⟩ n).fC (gC v m ⟨#[]⟩ n).iK (gC v m ⟨#[]⟩ n).je n))/\
  (¬(∀i,i<n->bt v (9*i+8)<=1)->e=.returned (.tuple #[.slice none 0 0,.bool false]))
theorem sJ(v m:TM)(n:Nat)(w:TJ)(hn:n<=64)(hv:Hid (v.size=9*n))(hm:Hid (m.size=12*n)):TL prog 123 #[.string v,.string m,Z Y n] w (IY v m n w):=by
 obtain⟨t2,aq,ar,au,av⟩:=fa info_vertex;generalize hO:IY v m n w=O;replace hO:=cP hO;go_enter func123,ntmps123;go_wp2_with fail;refine(m8 v w).mono ?_;rintro e w1 ⟨rfl,D⟩;go_wp2_with fail;refine(m8 m w1).mono ?_;rintro e w2 ⟨rfl,l⟩;replace l:=D.trans (l.mono D.size);clear D;have g:=cP (pJ w2 #[.string v] #[.string m] 231 231);go_wp2_with fail;generalize C:World.alloc (World.alloc _ _) _=W0;obtain⟨b1,b2,aa,hz⟩:=cO g W0 C.symm;clear C g;obtain⟨L,hL⟩:∃L,w2.heap.size=L:=⟨_,rfl⟩
 rw[hL] at b1 b2 ⊢;have ab:Hid (Rv w W0 L v m n 0 (.slice none 0 0)):=by
  refine⟨?_,?_,fc _ _ _ _,l.trans (aa.mono l.size),by rw[<-hL];exact l.size⟩
  .rw[Nat.mul_zero,pq];exact b1
  .rw[Nat.mul_zero,pq];exact b2
 clear b1 b2 aa hz hL l
 go_loopw [10,20] (λsl i wr=>∃j:Nat,j<=n/\i=Z Y j/\Hid (Rv w wr L v m n j sl)/\Hid (∀q,q<j->bt v (9*q+8)<=1)) (λ_ i _=>n-(intOf i).toNat)
 case atStart=>exact⟨0,cy _,rfl,ab,λq hq=>by omega⟩
 case round =>
  clear ab;obtain⟨j,hj,rfl,HI,HG⟩:=hrel;by_cases u:j<n
  .have ad:(j:Int)<(n:Int):=by omega
   have sv:=cO hv;have sm:=cO hm;obtain⟨U,b9,V,b,r⟩:=cO HI;have e1:(v.extract (9*j) v.size).size=v.size-9*j:=by rw[cK];omega
   have e2:(m.extract (12*j) m.size).size=m.size-12*j:=by rw[cK];omega
   have x1:=um v (9*j) 8 (by omega);have x2:=um v (9*j+8) 1 (by omega);have x3:=um m (12*j) 4 (by omega);have x4:=um m (12*j+4) 8 (by omega);have n1:=pD v (9*j) v.size TG 8 0 (by omega);have n2:=pD v (9*j+8) v.size TG 1 0 (by omega);have n3:=pD m (12*j) m.size TG 4 0 (by omega);have n4:=pD m (12*j+4) m.size TG 8 0 (by omega);simp only[ub] at n1 n2 n3 n4;have A:Hid (jm (gC v m ⟨#[]⟩ n).val (gC v m ⟨#[]⟩ n).fC (gC v m ⟨#[]⟩ n).iK (gC v m ⟨#[]⟩ n).je (j+1)=jm (gC v m ⟨#[]⟩ n).val (gC v m ⟨#[]⟩ n).fC (gC v m ⟨#[]⟩ n).iK (gC v m ⟨#[]⟩ n).je j++[Z Y (pR (num v (9*j) 8)),.bool (bt v (9*j+8) == 1),Z Y ((num m (12*j) 4:Nat):Int),Z Y (pR (num m (12*j+4) 8))]):=by
    show _=_
    rw[mo];have g1:(gC v m ⟨#[]⟩ n).val.getD j 0=pR (num v (9*j) 8):=gr _ _ u;have g2:(gC v m ⟨#[]⟩ n).fC.getD j false=(bt v (9*j+8) == 1):=gr _ _ u;have g3:(gC v m ⟨#[]⟩ n).iK.getD j 0=((num m (12*j) 4:Nat):Int):=gr _ _ u;have g4:(gC v m ⟨#[]⟩ n).je.getD j 0=pR (num m (12*j+4) 8):=gr _ _ u;rw[g1,g2,g3,g4]
   obtain⟨X,G⟩:∃X,Hid (num v (9*j) 8=X):=⟨_,rfl⟩
   obtain⟨E,B⟩:∃E,Hid (bt v (9*j+8)=E):=⟨_,rfl⟩
   obtain⟨H,I⟩:∃H,Hid (num m (12*j) 4=H):=⟨_,rfl⟩
   obtain⟨s,J⟩:∃s,Hid (num m (12*j+4) 8=s):=⟨_,rfl⟩
   have ae:Hid (∀W:TJ,W.heap[L]?=some (.cells #[.string (v.extract (9*j) v.size)] 231 (0,0))->TL prog 120 #[.pointer (some ⟨L,0,none⟩),Z Y 8] W λe K=>e=.returned (Z .u64 X)/\K=W.setCell ⟨L,0,none⟩ (.string (v.extract (9*j+8) v.size))):=λW C=>by
    have T:=takeB (L) _ 8 8 W rfl (by omega) (by rw[cK];omega) C;rw[x1,n1,cO G] at T;exact T
   have af:Hid (∀W:TJ,W.heap[L]?=some (.cells #[.string (v.extract (9*j+8) v.size)] 231 (0,0))->TL prog 120 #[.pointer (some ⟨L,0,none⟩),Z Y 1] W λe K=>e=.returned (Z .u64 E)/\K=W.setCell ⟨L,0,none⟩ (.string (v.extract (9*j+8+1) v.size))):=λW C=>by
    have T:=takeB (L) _ 1 1 W rfl (by omega) (by rw[cK];omega) C;rw[x2,n2,Lk,cO B] at T;exact T
   have N:Hid (∀W:TJ,W.heap[L+1]?=some (.cells #[.string (m.extract (12*j) m.size)] 231 (0,0))->TL prog 120 #[.pointer (some ⟨L+1,0,none⟩),Z Y 4] W λe K=>e=.returned (Z .u64 H)/\K=W.setCell ⟨L+1,0,none⟩ (.string (m.extract (12*j+4) m.size))):=λW C=>by
    have T:=takeB (L+1) _ 4 4 W rfl (by omega) (by rw[cK];omega) C;rw[x3,n3,cO I] at T;exact T
   have P:Hid (∀W:TJ,W.heap[L+1]?=some (.cells #[.string (m.extract (12*j+4) m.size)] 231 (0,0))->TL prog 120 #[.pointer (some ⟨L+1,0,none⟩),Z Y 8] W λe K=>e=.returned (Z .u64 s)/\K=W.setCell ⟨L+1,0,none⟩ (.string (m.extract (12*j+4+8) m.size))):=λW C=>by
    have T:=takeB (L+1) _ 8 8 W rfl (by omega) (by rw[cK];omega) C;rw[x4,n4,cO J] at T;exact T
   clear x1 x2 x3 x4 n1 n2 n3 n4 e1 e2 sv sm;have c8:=rQ (y := .string (v.extract (9*j+8) v.size)) U;have c9:=rV (L:=L) (y := .string (v.extract (9*j+8) v.size)) b9 (by omega);have co:=qR (y := .string (v.extract (9*j+8) v.size)) U V;have cb:=b.setCell (p:=⟨L,0,none⟩) r (.string (v.extract (9*j+8) v.size));have ag:=cP ((cO ae) wr U);clear ae U b9 V b;go_wp2_with fail;refine(cO ag).mono ?_;rintro e w3 ⟨rfl,rfl⟩;generalize World.setCell _ _ _=w3 at c8 c9 co cb ⊢;have d8:=rQ (y := .string (v.extract (9*j+8+1) v.size)) c8;have o:=rV (L:=L) (y := .string (v.extract (9*j+8+1) v.size)) c9 (by omega);have F:=qR (y := .string (v.extract (9*j+8+1) v.size)) c8 co;have db:=cb.setCell (p:=⟨L,0,none⟩) r (.string (v.extract (9*j+8+1) v.size));have Q:=cP ((cO af) w3 c8);clear af c8 c9 co cb ag;go_wp2_with fail;refine(cO Q).mono ?_;rintro e w4 ⟨rfl,rfl⟩;generalize World.setCell _ _ _=w4 at d8 o F db ⊢;have lb:E<256:=by rw[<-cO B];exact Sp.jh _ _
   by_cases D:1<E
   .have ah:(E:Int) > 1:=by omega
    have HR:Hid (O (.returned (.tuple #[.slice none 0 0,.bool false])) w4):=by
     show O _ _
     rw[<-cO hO];exact⟨db,λh=>absurd (h j u) (by rw[cO B];omega),λ_=>rfl⟩
    clear d8 o F db Q HI N P;go_wp2;exact cO HR
   .have ah:¬(E:Int) > 1:=by omega
    have f9:=rQ (y := .string (m.extract (12*j+4) m.size)) o;have f8:=rV (L:=L+1) (y := .string (m.extract (12*j+4) m.size)) d8 (by omega);have fo:=qR (y := .string (m.extract (12*j+4) m.size)) o F;have fb:=db.setCell (p:=⟨L+1,0,none⟩) (cx r (px _)) (.string (m.extract (12*j+4) m.size));have ai:=cP ((cO N) w4 o);clear N d8 o F db Q;go_wp2_with fail;refine(cO ai).mono ?_;rintro e w5 ⟨rfl,rfl⟩;generalize World.setCell _ _ _=w5 at f8 f9 fo fb ⊢;have k9:=rQ (y := .string (m.extract (12*j+4+8) m.size)) f9;have k8:=rV (L:=L+1) (y := .string (m.extract (12*j+4+8) m.size)) f8 (by omega);have ko:=qR (y := .string (m.extract (12*j+4+8) m.size)) f9 fo;have kb:=fb.setCell (p:=⟨L+1,0,none⟩) (cx r (px _)) (.string (m.extract (12*j+4+8) m.size));have aj:=cP ((cO P) w5 f9);clear P f8 f9 fo fb ai;go_wp2_with fail;refine(cO aj).mono ?_;rintro e R ⟨rfl,rfl⟩;generalize World.setCell _ _ _=R at k8 k9 ko kb ⊢;have aw:IntKind.i64.wrap (X:Int)=pR X:=uR (by rw[<-cO G];exact gV v 8 _);have ax:IntKind.i64.wrap (s:Int)=pR s:=uR (by rw[<-cO J];exact gV m 8 _);have l2:H<4294967296:=by rw[<-cO I];exact gV m 4 _
    rw[cO G,cO B,cO I,cO J] at A;have ay:=K3 E;obtain⟨q0,az⟩:∃q0,Hid (pR X=q0):=⟨_,rfl⟩
    obtain⟨q3,aA⟩:∃q3,Hid (pR s=q3):=⟨_,rfl⟩
    obtain⟨qb,aB⟩:∃qb,Hid ((E == 1)=qb):=⟨_,rfl⟩
    rw[cO az] at aw A;rw[cO aA] at ax A;rw[cO aB] at ay A;have K8:=cP k8;have K9:=cP k9;have aC:=kb.size;have aD:Hid (∀q,q<j+1->bt v (9*q+8)<=1):=λq hq=>by
     by_cases e:q<j
     .exact(cO HG) q e
     .obtain rfl:q=j:=by omega
      rw[cO B];omega
    clear k8 k9 aj HI;go_wp2_with (first
    |(at_builtin;go_must (refine LP _ rfl (.tmp 28) (.tmp 38) 78 rfl w.heap.size 104 t2 _ 4 32 underlying78 aq ar au av rfl (by decide) _ _ _ rfl (ko.alloc _) ⟨R.heap.size,0,none⟩ 1 1 [Z Y q0,.bool qb,Z Y (H:Int),Z Y q3] rfl rfl (Rh (cs := #[Z Y q0,.bool qb,Z Y (H:Int),Z Y q3]) (t:=104) (fr:=(0,0)) (ct R _)) (by simp[Value.oneCell']) (by unfold maxLen;omega) (by omega) (by first|omega|(simp;omega)) ?_))
     |go_in)
    intro v7 w7 ak S _;have an:=rW (ys:=[]) (v':=v7) (by simp;omega) (ko.alloc _) (kb.alloc aC _) S;have aE:Hid (Rv w w7 L v m n (j+1) v7):=by
     have hA:TI R (R.alloc (.cells #[Z Y q0,.bool qb,Z Y (H:Int),Z Y q3] 104)):=TH.alloc TG _;have ao:∀(M:Nat) (c:Array TK),R.heap[M]?=some (Obj.cells c 231 (0,0))->w7.heap[M]?=some (Obj.cells c 231 (0,0)):=λM c hM=>by
      have h1:=(hA.block M (cS hM)).trans hM;refine(S.block M (cS h1) (λe=>?_)).trans h1;obtain⟨z,hz,_⟩:=cZ ko e.symm;exact cY hz hM (by decide) rfl
     refine⟨?_,?_,by rw[cO A];exact ak,an,r⟩
     .rw[show 9*(j+1)=9*j+8+1 by omega];exact ao L _ (cO K8)
     .rw[show 12*(j+1)=12*j+4+8 by omega];exact ao (L+1) _ (cO K9)
    clear ak S an ko kb;go_wp2;go_roundw
    case rel=>exact⟨j+1,by omega,by go_num,aE,aD⟩
    case measure=>simp[intOf];omega
  .obtain rfl:j=n:=by omega
   have ad:¬(j:Int)<(j:Int):=by omega
   obtain⟨U,b9,V,b,r⟩:=cO HI;obtain⟨q,cq,rfl⟩:=lW V;have HR:Hid (O (.returned (.tuple #[.slice q j cq,.bool true])) wr):=by
    show O _ _
    rw[<-cO hO];exact⟨b,λ_=>⟨_,rfl,V⟩,λh=>absurd (cO HG) h⟩
   clear U b9 V b HI;go_wp2;exact cO HR
end Ru
namespace Ru
open Go.RowKit
open Rd (Rk)
open Pk (jo Sm)
theorem AR(S D E n b:Nat)(Q R:Rk)(O:Nat->Prop)(a:TM)(w:TJ)(h:jo w D E Q R O)(j:Sm Q n b)(l:n<=1000000000)(y:w.cell? ⟨S,0,none⟩=some (.pointer (some ⟨D,0,none⟩))):TL prog 77 #[.pointer (some ⟨S,0,none⟩),.string a] w λe m=>e=.returned (.string (Q.rd a))/\TI w m:=by
 have r:=cP (Pk.OS a h j l);clear h j;go_enter func77,ntmps77;go_wp2_with fail;refine(cO r).mono ?_;rintro e z ⟨rfl,u⟩;go_wp2;go_ret;exact⟨rfl,u⟩
end Ru
end Go.Proofs.YtgkkdpegcieakaaGreatDoor
