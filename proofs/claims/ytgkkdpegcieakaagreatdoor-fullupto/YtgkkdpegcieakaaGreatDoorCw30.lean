import Derived.Test.YtgkkdpegcieakaaGreatDoorCw29
set_option linter.all false
set_option maxRecDepth 100000
set_option maxHeartbeats 16000000
namespace Go.Proofs.YtgkkdpegcieakaaGreatDoor
open Go.Proofs.Tryz
open Value renaming int→Z,slice→J,string→H,pointer→WV,bool→WW,tuple→WX,agg→WY
open Ending renaming returned→WZ
open Obj renaming cells→D
open Option renaming none→U,some→S
open Bool renaming true→W8,false→W9
open _root_.Array renaming size→K
open World renaming alloc→Xe,setCell→Xf,heap→E
open IntKind renaming i64→Y
open Go renaming World→WR,Value→WS,Calls→WT
open Go.RowKit
namespace Ru
open Sp (nG gX bt dq dx okB)
def fI(w : WR): Prop := Lib.TabIs prog w "internal/strconv.uint64pow10" .u64 Lib.pow10Tab
theorem ti: prog.globalNamed "internal/strconv.uint64pow10" = S 6 := by kernel_rfl
variable {w:WR}
theorem fI.keep{w':WR}(h:fI w)(b:w'.heap[6]?=w.heap[6]?): fI w':=by
 unfold fI Lib.TabIs World.var? at *;rw[ti] at *;simp only[Option.bind_some] at *;rw[b];exact h
theorem fI.lt(h:fI w): 6<K (E w):=by
 unfold fI Lib.TabIs World.var? at h;rw[ti] at h;simp only[Option.bind_some] at h;by_cases b:6<K (E w)
 .exact b
 .rw[Array.getElem?_eq_none (by omega)] at h;cases h
theorem fI.below{w':WR}(h:fI w)(hb:WQ w w'): fI w':=h.keep (hb.block _ h.lt)
theorem r5(n:Nat)(nn:Int)(w:WR)(j:nn=(n:Int))(h:n<=9223372036854775807)(ht:fI w):WT prog 48 #[Z Y nn] w λe b=>e=WZ (H (dc n))/\WQ w b:=by
 subst j;refine(Tryz.strconv_Itoa (n:Int) (by omega) (by omega) w ht).mono ?_;rintro e b ⟨rfl,k,os,rfl⟩;refine⟨?_,?_⟩
 .unfold dc Lib.itoa;rw[TZ (by omega),Wa]
 .have l:WQ w (w.drewN k):=⟨O,O,O,TY _,λ_ _=>O⟩
  refine l.trans ⟨O,O,O,?_,λi hi=>?_⟩
  .show (w.drewN k).heap.size<=((w.drewN k).heap++os).size
   simp
  .show ((w.drewN k).heap++os)[i]?=_
   rw[Array.getElem?_append_left (by simpa using hi)]
theorem kN(n:Nat)(w:WR)(h:n<=9999999999)(ht:fI w):WT prog 79 #[Z Y n] w λe m=>e=WZ (H (nm 99 n))/\WQ w m:=by
 have u:=Bn n h;have l:∀a b:UInt8,(⟨#[a,b]⟩:WU).size=2:=λa b=>O
 have y:¬9223372036854775807<(⟨#[99,46]⟩:WU).size+(dc n).size:=by rw[l];omega
 have r:=cT (r5 n _ w O (by omega) ht);clear ht l;go_enter func79,ntmps79;go_wp2_with fail;refine(cS r).mono ?_;rintro e z ⟨rfl,j⟩;go_wp2;go_ret;exact⟨O,j⟩
theorem iW(n:Nat)(w:WR)(h:n<=9999999999)(ht:fI w):WT prog 81 #[Z Y n] w λe m=>e=WZ (H (nm 109 n))/\WQ w m:=by
 have u:=Bn n h;have l:∀a b:UInt8,(⟨#[a,b]⟩:WU).size=2:=λa b=>O
 have y:¬9223372036854775807<(⟨#[109,46]⟩:WU).size+(dc n).size:=by rw[l];omega
 have r:=cT (r5 n _ w O (by omega) ht);clear ht l;go_enter func81,ntmps81;go_wp2_with fail;refine(cS r).mono ?_;rintro e z ⟨rfl,j⟩;go_wp2;go_ret;exact⟨O,j⟩
theorem kO(n:Nat)(w:WR)(h:n<=9999999999)(ht:fI w):WT prog 82 #[Z Y n] w λe m=>e=WZ (H (nm 118 n))/\WQ w m:=by
 have u:=Bn n h;have l:∀a b:UInt8,(⟨#[a,b]⟩:WU).size=2:=λa b=>O
 have y:¬9223372036854775807<(⟨#[118,46]⟩:WU).size+(dc n).size:=by rw[l];omega
 have r:=cT (r5 n _ w O (by omega) ht);clear ht l;go_enter func82,ntmps82;go_wp2_with fail;refine(cS r).mono ?_;rintro e z ⟨rfl,j⟩;go_wp2;go_ret;exact⟨O,j⟩
theorem nJ(s:WU)(n:Nat)(w:WR)(z:s.size<=140737488355328)(B:n<=100000):WT prog 118 #[H s,Z Y n] w λe A=>e=WZ (WX #[H (dx s),WW (okB s&&decide ((dx s).size=n))])/\WQ w A:=by
 have j:=cT (Hz s w z);generalize dx s=p at j ⊢;cases m:okB s with
 |false =>
  rw[m] at j;clear m;go_enter func118,ntmps118;go_wp2_with fail;refine(cS j).mono ?_;rintro e y ⟨rfl,b⟩;go_wp2;go_ret2;exact⟨O,b⟩
 |true =>
  rw[m] at j;clear m;by_cases l:p.size=n
  .have r:Hid (decide (p.size=n)=W8):=UH l;have u:((p.size:Int) == (n:Int))=W8:=by rw[l];simp
   clear l;go_enter func118,ntmps118;go_wp2_with fail;refine(cS j).mono ?_;rintro e y ⟨rfl,b⟩;go_wp2;go_ret2;exact⟨by rw[cS r];rfl,b⟩
  .have r:Hid (decide (p.size=n)=W9):=Uu l;have u:((p.size:Int) == (n:Int))=W9:=Uh.2 (by omega);clear l;go_enter func118,ntmps118;go_wp2_with fail;refine(cS j).mono ?_;rintro e y ⟨rfl,b⟩;go_wp2;go_ret2;exact⟨by rw[cS r];rfl,b⟩
end Ru
namespace Ru
open Dk (Kept dv)
open Pk (dh cV de)
structure pS (w:WR) (M n:Nat) (l:List UInt8) (v:WS):Prop where
 b:w.heap[M]?=S (D #[v] 251 (0,0))
 o:w.ownsRow 0 5 1 v n (CK l)
variable {l:List UInt8}{v:WS}{n M:Nat}{w:WR}
theorem pS.lt(h:pS w M n l v): M<K (E w):=cV h.b
theorem pS.ne(h:pS w M n l v): v.ownBlock≠S M:=λe=>by
 obtain⟨x,j,_⟩:=dh h.o e;exact de j h.b (by decide) O
theorem pS.c(h:pS w M n l v): w.cell? ⟨M,0,U⟩=S v:=by rw[T5 w M 0 _ _ _ h.b];rfl
theorem pS.z(h:pS w M n l v): w.frozen? ⟨M,0,U⟩=W9:=by simp[World.frozen?,h.b]
variable {w':WR}
theorem pS.kept{e:Nat->Prop}(h:pS w M n l v)(j:Kept w w' e)(h1:e M)(h2:∀g,v.ownBlock=S g->e g): pS w' M n l v:=⟨(j.block M h.lt h1).trans h.b,dv h.o j h2⟩
theorem pS.below(h:pS w M n l v)(hb:WQ w w'): pS w' M n l v:=h.kept (Kept.below hb (λ_=>True)) trivial (λ_ _=>trivial)
theorem pS.new: pS (w.alloc (D #[J U 0 0] 251)) (K (E w)) 0 [] (J U 0 0):=⟨T9 w _,Uw _ _ _ _⟩
structure om (M:Nat) (v:WS) (w:WR) (v':WS) (w':WR):Prop where
 kept:Kept w w' (λi=>i≠M/\v.ownBlock≠S i)
 row:v'.ownBlock=v.ownBlock\/∃g,v'.ownBlock=S g/\(K (E w))<=g
theorem om.refl(M:Nat)(v:WS)(w:WR):om M v w v w:=⟨Kept.refl _ _,Or.inl O⟩
theorem om.step{u j:WS}{m z:WR}(h:om M v w u m)(b:Kept m z (λi=>i≠M/\u.ownBlock≠S i))(A:j.ownBlock=u.ownBlock\/∃g,j.ownBlock=S g/\(K (E m))<=g): om M v w j z:=by
 have B:=h.kept.size;refine⟨⟨b.os.trans h.kept.os,b.tape.trans h.kept.tape,b.output.trans h.kept.output,Uc B b.size,λi hi y=>?_⟩,?_⟩
 .rw[b.block i (by omega) ⟨y.1,λe=>?_⟩,h.kept.block i hi y];rcases h.row with r|⟨g,r,C⟩
  .rw[r] at e;exact y.2 e
  .rw[r] at e;injection e with e;omega
 .rcases A with r|⟨g,r,C⟩
  .rw[r];exact h.row
  .exact Or.inr ⟨g,r,by omega⟩
theorem om.other{A:Nat}{v' u:WS}(h:om M v w v' w')(hu:pS w A n l u)(z:∃k x,pS w M k x v)(C:A≠M)(m:∀g,v.ownBlock=S g->u.ownBlock≠S g): pS w' A n l u/\∀g,v'.ownBlock=S g->u.ownBlock≠S g:=by
 obtain⟨k,x,z⟩:=z;refine⟨hu.kept h.kept ⟨C,λe=>?_⟩ (λg j=>⟨λe=>?_,λe=>m g e j⟩),λg j e=>?_⟩
 .obtain⟨y,B,_⟩:=dh z.o e;exact de B hu.b (by decide) O
 .subst e;obtain⟨y,B,_⟩:=dh hu.o j;exact de B z.b (by decide) O
 .rcases h.row with r|⟨q,r,F⟩
  .rw[r] at j;exact m g j e
  .rw[r] at j;injection j with j;have:=(hu.o.lt g e).2;omega
theorem jB(M n k B:Nat)(l:List UInt8)(v:WS)(w:WR)(h:pS w M B l v)(hs:B+k<=100000000)(hk:k<=8)(hn:n<18446744073709551616)(kk:Int)(T:kk=(k:Int)):WT prog 137 #[WV (S ⟨M,0,U⟩),Z .u64 n,Z Y kk] w λe w'=>e=WZ (WX #[])/\∃v',pS w' M (B+k) (l++Sp.lW n k) v'/\om M v w v' w':=by
 subst T;obtain⟨i0,hi,V,W,X⟩:=UB info_u8;have H0:=cT h;clear h;go_enter func137,ntmps137;go_wp2
 go_loopw [1,7] (λnn q wr=>∃(j:Nat) (u:WS),j<=k/\q=Z Y j/\nn=Z .u64 ((n/256 ^ j:Nat):Int)/\Hid (pS wr M (B+j) (l++Sp.lW n j) u)/\Hid (om M v w u wr)) (λ_ q _=>k-(intOf q).toNat)
 case atStart=>exact⟨0,v,by omega,rfl,by simp,cT (by rw[Sp.lW,Vr];exact cS H0),om.refl _ _ _⟩
 case round =>
  obtain⟨j,u,hj,rfl,rfl,s,HB⟩:=hrel;have C:=cS s;have c0:=C.c;have z0:=C.z;have ag:=C.lt;have hm:n/256 ^ j<18446744073709551616:=Nat.lt_of_le_of_lt (Nat.div_le_self _ _) hn;have aa:=cT (xY n j);generalize R:n/256 ^ j=G at hm;replace R:=cT R;by_cases c:j<k
  .have c1:(j:Int)<(k:Int):=by omega
   have r:S M≠u.ownBlock:=λe=>C.ne e.symm
   go_wp2_with (first
    | (at_builtin;go_must (refine eW _ O (.tmp 13) (.tmp 16) 125 O 0 5 i0 _ 1 1 underlying125 hi V W X O (by decide) _ _ _ O (C.o.alloc _) ⟨K (E wr),0,U⟩ 1 1 (by omega) [Z .u8 ((G:Int)%256)] O O (We (cs := #[Z .u8 ((G:Int)%256)]) (t:=5) (fr:=(0,0)) (T9 wr _)) (by simp[Value.oneCell']) (by unfold maxLen;omega) (by omega) (by omega) ?_))
    |go_in)
   intro L w3 y m N _;have hA:WQ wr (wr.alloc (D #[Z .u8 ((G:Int)%256)] 5)):=WO.alloc WN _;have A:=C.below hA;have q0:w3.cell? ⟨M,0,U⟩=S u:=(m.cell_far ⟨M,0,U⟩ (by simp;omega) r).trans A.c;have q1:w3.frozen? ⟨M,0,U⟩=W9:=(m.frozen_far ⟨M,0,U⟩ (by simp;omega) r).trans A.z;have F:w3.heap[M]?=S (D #[u] 251 (0,0)):=(m.block M (by simp;omega) r).trans A.b;have e4:CK (l++Sp.lW n (j+1))=CK (l++Sp.lW n j)++[Z .u8 ((G:Int)%256)]:=by
    rw[Sp.lW,<-UO,FR (l++Sp.lW n j)]
    congr 1
    show [Z .u8 ((UInt8.ofNat (n/256 ^ j%256)).toNat:Int)]=_
    rw[<-cS aa,cS R]
    rfl
   have P:pS (w3.setCell ⟨M,0,U⟩ L) M (B+(j+1)) (l++Sp.lW n (j+1)) L:=by
    refine⟨by rw[Ue w3 M 0 _ _ _ F];rfl,?_⟩;rw[show B+(j+1)=B+j+1 by omega,e4];refine U1 y (λe=>?_) _;obtain⟨x,hx,_⟩:=dh y e;exact de hx F (by decide) O
   have Q:om M v w L (w3.setCell ⟨M,0,U⟩ L):=by
    have ab:Kept wr (wr.alloc (D #[Z .u8 ((G:Int)%256)] 5)) (λi=>i≠M/\u.ownBlock≠S i):=Kept.below hA _;refine(cS HB).step ((ab.trans (Kept.grown m (λk hk=>hk.2))).setCell (p:=⟨M,0,U⟩) (λh=>h.1 O) L) ?_
    .rcases N with e|e
     .exact Or.inl e
     .exact Or.inr ⟨_,e,by simp⟩
   obtain⟨g3,af,rfl⟩:∃g I,L=J (S ⟨g,0,U⟩) (B+j+1) I:=by
    rcases y.2 with ⟨_,ah⟩|⟨g,I,ai,hv,_⟩
    .omega
    .exact⟨g,I,hv⟩
   have ad:=cT P;have ae:=cT Q;clear P Q A y m C s HB r N F hA e4;go_wp2;go_roundw
   case rel =>
    refine⟨j+1,_,by omega,by go_num,?_,ad,ae⟩;rw[Nat.pow_succ,<-Nat.div_div_eq_div_mul,cS R];go_num
   case measure=>simp[intOf];omega
  .have e:j=k:=by omega
   subst e;have c1:¬(j:Int)<(j:Int):=by omega
   go_wp2;exact Ub (Ua O _ _ _) O ⟨O,u,cS s,cS HB⟩
end Ru
namespace Ru
open Sp (nG lW gX bt dq dx okB)
open Dk (Kept dv)
open Pk (dh cV de)
variable {v:WS}{w:WR}
theorem Kv{B n:Nat}{l:List UInt8}(o:w.ownsRow B 5 1 v n (CK l))(e:0<n): (convert 125 9 v).run prog w=.ok (H ⟨l.toArray⟩) w:=by
 have u:(CK l).length=n*1:=o.1;simp only[CK,UX,Nat.mul_one] at u;rcases o.2 with ⟨_,A⟩|⟨g,j,y,rfl,_⟩
 .omega
 .rw[<-ER];refine run_convert_bytes_arg _ 125 5 underlying125 underlying5 g 0 _ j (l.map λb=>(b.toNat:Int)) (by simp only[UX];omega) (λi hi=>?_) 9 underlying9;have m:i<l.length:=by omega
  have r:=o.cells (g:=g) O i (Z .u8 ((l.map λb=>(b.toNat:Int)).getD i 0)) (by
   simp only[CK];rw[VX,Uo,VX,Uk m];rfl)
  rw[UA];have z:(⟨g,0,U⟩:Addr).add i=⟨g,i,U⟩:=by
   by_cases e:i=0
   .subst e;simp[Addr.add]
   .simp[Addr.add,e]
  rw[z] at r;exact r
theorem tr(M n:Nat)(l:List UInt8)(v:WS)(w:WR)(h:pS w M n l v)(b:0<n):WT prog 139 #[WV (S ⟨M,0,U⟩)] w λe j=>e=WZ (H ⟨l.toArray⟩)/\j=w:=by
 have r:=h.c;have m:=Kv h.o b;clear h;go_enter func139,ntmps139;go_wp2;go_ret;exact⟨O,O⟩
theorem om.far{M k:Nat}{v':WS}{w':WR}{x:List UInt8}(h:om M v w v' w')(j:pS w M k x v){a:Nat}{c:Array WS}{t:Nat}{fr:Nat × Nat}(ha:w.heap[a]?=S (D c t fr))(ht:t≠5)(b:a≠M): w'.heap[a]?=S (D c t fr):=(h.kept.block a (cV ha) ⟨b,λe=>by obtain⟨y,l,_⟩:=dh j.o e;rw[l] at ha;injection ha with ha;injection ha with _ ha;exact ht ha.symm⟩).trans ha
theorem om.below{M B:Nat}{v':WS}{j w':WR}(h:om M v w v' w')(hb:Below B j w)(u:B<=M)(l:∀g,v.ownBlock=S g->B<=g)(m:B<=K (E w)): Below B j w'/\∀g,v'.ownBlock=S g->B<=g:=by
 refine⟨hb.trans (h.kept.toBelow m λk y=>⟨by omega,λe=>by have:=l k e;omega⟩),λg b=>?_⟩;rcases h.row with r|⟨q,r,z⟩
 .rw[r] at b;exact l g b
 .rw[r] at b;injection b with b;omega
theorem SJ(step b da e j:Nat)(all:Int)(h:u64 all=b):(⟨([]++lW step 4++lW b 8++lW da 4++lW e 4++lW j 4).toArray⟩:WU)=kB step all da e j:=by
 unfold kB nG;rw[h];apply Vh;simp only[VN];apply VV.1;simp
theorem tB(da vx step:Nat)(all:Int)(cv G I:WU)(w:WR)(hj:da<4294967296)(hs:step<=9999999999)(h1:G.size<=4194304)(h2:I.size<=4194304):WT prog 122 #[WY #[Z .u32 da,Z Y vx],Z Y step,Z Y all,WY #[H cv,H G,H I]] w λe w'=>e=WZ (H (kB step all da (gX I) (gX G)))/\WQ w w':=by
 have L:=cT (jj w #[Z .u32 da,Z Y vx] #[H cv,H G,H I] #[J U 0 0] 91 176 251);have ua:=sj all;have la:=qv all;obtain⟨ya,M⟩:∃y,Hid (u64 all=y):=⟨_,rfl⟩
 rw[cS M] at ua la;have lV:=Sp.zw I;have lM:=Sp.zw G;obtain⟨xv,N⟩:∃y,Hid (gX I=y):=⟨_,rfl⟩
 obtain⟨xm,P⟩:∃y,Hid (gX G=y):=⟨_,rfl⟩
 have Q:=cT (λW=>uG I W (by omega));have R:=cT (λW=>uG G W (by omega));rw[cS N] at lV Q;rw[cS P] at lM R;go_enter func122,ntmps122;go_wp2_with fail;generalize hW:Xe (Xe _ _) _=W0;obtain⟨b1,b2,b3,ai,hz⟩:=cS L W0 hW.symm;clear hW L;have z:pS W0 (K (E w)+1+1) 0 [] (J U 0 0):=⟨b3,Uw _ _ _ _⟩
 refine(jB _ step 4 0 [] _ W0 z (by omega) (by omega) (by omega) 4 O).mono ?_;rintro e w1 ⟨rfl,v1,A,b⟩;have c1:=b.far z b1 (by decide) (by omega);have d1:=b.far z b2 (by decide) (by omega);have T:=b.kept.size;obtain⟨V,X⟩:=b.below ai (by omega) (λg hg=>by cases hg) (by omega);clear b z b1 b2 b3;have q:K (E w)+1+1+1<=K (E w1):=Uc (V5 hz.symm) T;go_wp2_with fail;refine(jB _ ya 8 4 _ _ w1 A (by omega) (by omega) (by omega) 8 O).mono ?_;rintro e w2 ⟨rfl,v2,B,j⟩;have c2:=j.far A c1 (by decide) (by omega);have d2:=j.far A d1 (by decide) (by omega);obtain⟨t,s⟩:=j.below V (by omega) X (UT (Ux (by omega) q));have p:=Uc q j.kept.size;clear j A c1 d1 V X;have x2:w2.cell? ⟨K (E w),0,U⟩=S (Z .u32 da):=by rw[T5 w2 _ 0 _ _ _ c2];rfl
 go_wp2_with fail;refine(jB _ da 4 12 _ _ w2 B (by omega) (by omega) (by omega) 4 O).mono ?_;rintro e w3 ⟨rfl,v3,C,l⟩;have c3:=l.far B c2 (by decide) (by omega);have d3:=l.far B d2 (by decide) (by omega);obtain⟨o,aa⟩:=l.below t (by omega) s (UT (Ux (by omega) p));have ab:=Uc p l.kept.size;clear x2 l B c2 d2 t s;have x3:w3.cell? ⟨K (E w)+1,2,U⟩=S (H I):=by rw[T5 w3 _ 2 _ _ _ d3];rfl
 go_wp2_with fail;refine((cS Q) w3).mono ?_;rintro e wq ⟨rfl,m⟩;obtain rfl:=m.symm;go_wp2_with fail;refine(jB _ xv 4 16 _ _ w3 C (by omega) (by omega) (by omega) 4 O).mono ?_;rintro e w4 ⟨rfl,v4,F,r⟩;have c4:=r.far C c3 (by decide) (by omega);have d4:=r.far C d3 (by decide) (by omega);obtain⟨ad,ae⟩:=r.below o (by omega) aa (UT (Ux (by omega) ab));have af:=Uc ab r.kept.size;clear x3 r C c3 d3 o aa;have x4:w4.cell? ⟨K (E w)+1,1,U⟩=S (H G):=by rw[T5 w4 _ 1 _ _ _ d4];rfl
 go_wp2_with fail;refine((cS R) w4).mono ?_;rintro e wq ⟨rfl,m⟩;obtain rfl:=m.symm;go_wp2_with fail;refine(jB _ xm 4 20 _ _ w4 F (by omega) (by omega) (by omega) 4 O).mono ?_;rintro e w5 ⟨rfl,v5,ag,u⟩;have c5:=u.far F c4 (by decide) (by omega);have d5:=u.far F d4 (by decide) (by omega);obtain⟨ah,aj⟩:=u.below ad (by omega) ae (UT (Ux (by omega) af));have an:=Uc af u.kept.size;clear x4 u F c4 d4 ad ae;go_wp2_with fail;refine(tr _ _ _ _ w5 ag (by omega)).mono ?_;rintro e wq ⟨rfl,m⟩;obtain rfl:=m.symm;have ak:=cT ah;clear ag c5 d5 ah aj;go_wp2;go_ret;refine⟨?_,cS ak⟩;rw[cS N,cS P,<-SJ step ya da xv xm all (cS M)]
 rfl
end Ru
namespace Ru
open Sp (nG lW gX bt dq dx okB)
open Dk (Kept dv)
open Pk (dh cV de)
theorem NV(b:Bool)(w:WR):WT prog 138 #[WW b] w λe w'=>e=WZ (Z .u64 ((if b=W8 then 1 else 0:Nat):Int))/\w'=w:=by
 cases b with
 |true =>
  go_enter func138,ntmps138;go_wp2;go_ret;exact⟨O,O⟩
 |false =>
  go_enter func138,ntmps138;go_wp2;go_ret;exact⟨O,O⟩
def vL(c:Sp.Cfg)(k:Nat):List UInt8:=(vB c k).data.toList
def mL(c:Sp.Cfg)(k:Nat):List UInt8:=(mB c k).data.toList
theorem vh(n k:Nat):(nG n k).data.toList=lW n k:=by unfold nG;simp
theorem Ol(c:Sp.Cfg)(k:Nat):vL c (k+1)=vL c k++lW (u64 (c.val.getD k 0)) 8++lW (if c.fC.getD k W9=W8 then 1 else 0) 1:=by
 unfold vL;rw[vB,VN,VN,Wd,Wd,vh]
 congr 1
 unfold rB;cases c.fC.getD k W9 <;> rfl
theorem Oj(c:Sp.Cfg)(k:Nat):mL c (k+1)=mL c k++lW (u64 (c.iI.getD k 0)) 4++lW (u64 (c.jf.getD k 0)) 8:=by
 unfold mL;rw[mB,VN,VN,Wd,Wd,vh,vh]
theorem CE(b:WU):(⟨b.data.toList.toArray⟩:WU)=b:=by cases b;simp
structure W2 (w0 w:WR) (M s1:Nat) (l1:List UInt8) (s2:Nat) (l2:List UInt8) (v u:WS):Prop where
 wv:pS w M s1 l1 v
 wm:pS w (M+1) s2 l2 u
 ap:∀g,v.ownBlock=S g->u.ownBlock≠S g
 lJ:WQ w0 w
 lv:∀g,v.ownBlock=S g->K (E w0)<=g
 lu:∀g,u.ownBlock=S g->K (E w0)<=g
variable {w' w w0:WR}{l2 l1:List UInt8}{v u:WS}{s1 s2 M:Nat}
theorem W2.below(h:W2 w0 w M s1 l1 s2 l2 v u)(hb:WQ w w'): W2 w0 w' M s1 l1 s2 l2 v u:=⟨h.wv.below hb,h.wm.below hb,h.ap,h.lJ.trans (hb.mono h.lJ.size),h.lv,h.lu⟩
theorem W2.pv{b:Nat}{e:List UInt8}{v':WS}(h:W2 w0 w M s1 l1 s2 l2 v u)(l:K (E w0)<=M)(m:pS w' M b e v')(j:om M v w v' w'): W2 w0 w' M b e s2 l2 v' u:=by
 obtain⟨r,y⟩:=j.other h.wm ⟨_,_,h.wv⟩ (by omega) h.ap;obtain⟨z,A⟩:=j.below h.lJ l h.lv h.lJ.size;exact⟨m,r,y,z,A,h.lu⟩
theorem W2.pm{b:Nat}{j:List UInt8}{l:WS}(h:W2 w0 w M s1 l1 s2 l2 v u)(F:K (E w0)<=M)(y:pS w' (M+1) b j l)(r:om (M+1) u w l w'): W2 w0 w' M s1 l1 b j v l:=by
 obtain⟨z,A⟩:=r.other h.wv ⟨_,_,h.wm⟩ (by omega) (λg m e=>h.ap g e m);obtain⟨B,C⟩:=r.below h.lJ (by omega) h.lu h.lJ.size;exact⟨z,y,λg m e=>A g e m,B,h.lv,C⟩
def Bx(w:WR)(B:Nat)(j k r:Array WS):Prop:=w.heap[B]?=S (D j 91 (0,0))/\w.heap[B+1]?=S (D k 80 (0,0))/\w.heap[B+1+1]?=S (D r 176 (0,0))
theorem Bx.below{B:Nat}{j k r:Array WS}(h:Bx w B j k r)(hb:WQ w w'): Bx w' B j k r:=⟨(hb.block _ (cV h.1)).trans h.1,(hb.block _ (cV h.2.1)).trans h.2.1,(hb.block _ (cV h.2.2)).trans h.2.2⟩
theorem Bx.put{B s:Nat}{l:List UInt8}{v':WS}{j k r:Array WS}(h:Bx w B j k r)(b:pS w M s l v)(e:om M v w v' w')(m:B+1+1<M): Bx w' B j k r:=⟨e.far b h.1 (by decide) (by omega),e.far b h.2.1 (by decide) (by omega),e.far b h.2.2 (by decide) (by omega)⟩
theorem I4(w:WR)(a b c d e:Array WS)(j l m r y:TypeId):∀W,W=((((w.alloc (D a j)).alloc (D b l)).alloc (D c m)).alloc (D d r)).alloc (D e y)->W.heap[K (E w)]?=S (D a j (0,0))/\W.heap[K (E w)+1]?=S (D b l (0,0))/\W.heap[K (E w)+1+1]?=S (D c m (0,0))/\W.heap[K (E w)+1+1+1]?=S (D d r (0,0))/\W.heap[K (E w)+1+1+1+1]?=S (D e y (0,0))/\WQ w W:=by
 rintro W rfl;obtain⟨F,G,I,L,N⟩:=jj w a b c j l m _ rfl;generalize ((w.alloc (D a j)).alloc (D b l)).alloc (D c m)=A at *;obtain⟨B,C,z,P⟩:=re A d e r y _ rfl;generalize (A.alloc (D d r)).alloc (D e y)=W at *;rw[N] at B C;exact⟨(z.block _ (by omega)).trans F,(z.block _ (by omega)).trans G,(z.block _ (by omega)).trans I,B,C,L.trans (z.mono (by omega))⟩
def EK(step all:Int)(da:Nat)(c:Sp.Cfg)(n b:Nat):Array WS := #[H (dq (kB b all da (gX (dq (vB c n))) (gX (dq (mB c n))))),H (dq (mB c n)),H (dq (vB c n))]
theorem vp(da vx step:Nat)(p:Option Addr)(n cap:Nat)(c:Sp.Cfg)(w:WR)(hv:kg w p c n)(hn:n<=64)(aX:0<n)(hj:da<4294967296)(hs:step<=9999999999):WT prog 93 #[WY #[Z .u32 da,Z Y vx],gy step p n cap c.all] w λe w'=>e=WZ (WY (EK step c.all da c n step))/\WQ w w':=by
 unfold gy;have HV:=cT hv;clear hv;have au:=cT (I4 w #[Z .u32 da,Z Y vx] #[Z Y step,J p n cap,Z Y c.all] #[H ⟨#[]⟩,H ⟨#[]⟩,H ⟨#[]⟩] #[J U 0 0] #[J U 0 0] 91 80 176 251 251);go_enter func93,ntmps93;go_wp2_with fail;generalize hW:Xe (Xe (Xe _ _) _) _=W0;obtain⟨b1,b2,b3,b4,b5,av⟩:=cS au W0 hW.symm;clear hW au;have aw:Hid (W2 w W0 (K (E w)+1+1+1) (9*0) (vL c 0) (12*0) (mL c 0) (J U 0 0) (J U 0 0)/\Bx W0 (K (E w)) #[Z .u32 da,Z Y vx] #[Z Y step,J p n cap,Z Y c.all] #[H ⟨#[]⟩,H ⟨#[]⟩,H ⟨#[]⟩]):=⟨⟨⟨b4,Uw _ _ _ _⟩,⟨b5,Uw _ _ _ _⟩,λg hg=>(by cases hg),av,λg hg=>(by cases hg),λg hg=>(by cases hg)⟩,b1,b2,b3⟩
 clear b1 b2 b3 b4 b5 av
 go_loopw [13] (λi wr=>∃(k:Nat) (v u:WS),k<=n/\i=Z Y k/\Hid (W2 w wr (K (E w)+1+1+1) (9*k) (vL c k) (12*k) (mL c k) v u/\Bx wr (K (E w)) #[Z .u32 da,Z Y vx] #[Z Y step,J p n cap,Z Y c.all] #[H ⟨#[]⟩,H ⟨#[]⟩,H ⟨#[]⟩])) (λi _=>n-(intOf i).toNat)
 case atStart=>exact⟨0,_,_,Ud _,rfl,aw⟩
 case round =>
  clear aw;obtain⟨k,v,u,hk,rfl,HI⟩:=hrel;by_cases aI:k<n
  .have ax:(k:Int)<(n:Int):=by omega
   obtain⟨h2,hx⟩:=cS HI;obtain⟨g,rfl,hg,d0,d1,d2,d3⟩:=((cS HV).below h2.lJ) k aI;have ae:=cT (Ol c k);have af:=cT (Oj c k);generalize c.val.getD k 0=x0 at *;generalize c.fC.getD k W9=x1 at *;generalize c.iI.getD k 0=x2 at *;generalize c.jf.getD k 0=x3 at *;have u0:=sj x0;have u2:=sj x2;have u3:=sj x3;have l0:=qv x0;have l2:=qv x2;have l3:=qv x3;obtain⟨y0,aJ⟩:∃y,Hid (u64 x0=y):=⟨_,rfl⟩
   obtain⟨y2,aK⟩:∃y,Hid (u64 x2=y):=⟨_,rfl⟩
   obtain⟨y3,aL⟩:∃y,Hid (u64 x3=y):=⟨_,rfl⟩
   rw[cS aJ] at u0 l0 ae;rw[cS aK] at u2 l2 af;rw[cS aL] at u3 l3 af;obtain⟨yb,ay⟩:∃y,Hid ((if x1=W8 then 1 else 0:Nat)=y):=⟨_,rfl⟩
   have lb:yb<=1:=by rw[<-cS ay];split <;> omega
   have az:=cT (λW=>NV x1 W);rw[cS ay] at az ae;have hA:WQ wr (wr.alloc (D #[Z Y x0,WW x1,Z Y x2,Z Y x3] 104)):=WO.alloc WN _;have h3:=h2.below hA;have ag:=hx.below hA;have T:=T9 wr (D #[Z Y x0,WW x1,Z Y x2,Z Y x3] 104);have aM:K (E w)+1+1+1+1<K (E wr):=cV h2.wm.b;clear h2 hx HI hA;go_upto_region 5 with fail;obtain⟨L,hL⟩:∃L,K (E wr)=L:=⟨_,rfl⟩
   rw[hL] at T aM ⊢;generalize ah:Xe _ _=w4 at h3 ag T ⊢;clear ah;have V:=h3;have B:=ag;have ai:=T;clear h3 ag T hL d0 d1 d2 d3 hg;have aN:w4.cell? ⟨L,0,U⟩=S (Z Y x0):=by rw[T5 w4 L 0 _ _ _ ai];rfl
   go_wp2_with fail;refine(jB _ y0 8 _ _ _ w4 V.wv (by omega) (by omega) (by omega) 8 O).mono ?_;rintro e w5 ⟨rfl,z5,aA,X⟩;have Q:=V.pv (by omega) aA X;have C:=B.put V.wv X (by omega);have aj:=X.far V.wv ai (by decide) (by omega);clear V B ai aA X;have aO:w5.cell? ⟨L,1,U⟩=S (WW x1):=by rw[T5 w5 L 1 _ _ _ aj];rfl
   clear aN;go_wp2_with fail;refine((cS az) w5).mono ?_;rintro e wq ⟨rfl,F⟩;obtain rfl:=F.symm;go_wp2_with fail;refine(jB _ yb 1 _ _ _ w5 Q.wv (by omega) (by omega) (by omega) 1 O).mono ?_;rintro e q ⟨rfl,z6,aB,t⟩;have s:=Q.pv (by omega) aB t;have A:=C.put Q.wv t (by omega);have ak:=t.far Q.wv aj (by decide) (by omega);clear Q C aj aB t;have aP:q.cell? ⟨L,2,U⟩=S (Z Y x2):=by rw[T5 q L 2 _ _ _ ak];rfl
   clear aO;go_wp2_with fail;refine(jB _ y2 4 _ _ _ q s.wm (by omega) (by omega) (by omega) 4 O).mono ?_;rintro e l ⟨rfl,z7,aC,o⟩;have R:=s.pm (by omega) aC o;have j:=A.put s.wm o (by omega);have an:=o.far s.wm ak (by decide) (by omega);clear s A ak aC o;have aQ:l.cell? ⟨L,3,U⟩=S (Z Y x3):=by rw[T5 l L 3 _ _ _ an];rfl
   clear aP;go_wp2_with fail;refine(jB _ y3 8 _ _ _ l R.wm (by omega) (by omega) (by omega) 8 O).mono ?_;rintro e w8 ⟨rfl,z8,aD,aa⟩;have h8:=R.pm (by omega) aD aa;have G:=j.put R.wm aa (by omega);have aR:=aa.far R.wm an (by decide) (by omega);clear R j an aD aa;clear aQ;have aS:Hid (W2 w w8 (K (E w)+1+1+1) (9*(k+1)) (vL c (k+1)) (12*(k+1)) (mL c (k+1)) z6 z8/\Bx w8 (K (E w)) #[Z .u32 da,Z Y vx] #[Z Y step,J (S ⟨g,0,U⟩) n cap,Z Y c.all] #[H ⟨#[]⟩,H ⟨#[]⟩,H ⟨#[]⟩]):=by
    rw[cS ae,cS af,show 9*(k+1)=9*k+8+1 by omega,show 12*(k+1)=12*k+4+8 by omega];exact⟨h8,G⟩
   clear h8 G aR;go_wp2;go_roundw
   case rel=>exact⟨k+1,_,_,by omega,by go_num,aS⟩
   case measure=>simp[intOf];omega
  .obtain rfl:k=n:=by omega
   have ax:¬(k:Int)<(k:Int):=by omega
   obtain⟨V,B⟩:=cS HI;have aT:Hid (∀W,pS W (K (E w)+1+1+1) (9*k) (vL c k) v->WT prog 139 #[WV (S ⟨K (E w)+1+1+1,0,U⟩)] W λe w'=>e=WZ (H (vB c k))/\w'=W):=λW hW=>by
    have h:=tr _ _ _ _ W hW (by omega);unfold vL at h;rw[CE] at h;exact h
   have aU:Hid (∀W,pS W (K (E w)+1+1+1+1) (12*k) (mL c k) u->WT prog 139 #[WV (S ⟨K (E w)+1+1+1+1,0,U⟩)] W λe w'=>e=WZ (H (mB c k))/\w'=W):=λW hW=>by
    have h:=tr _ _ _ _ W hW (by omega);unfold mL at h;rw[CE] at h;exact h
   have zv:=V5 (fA c k);have zm:=V5 (ga c k);clear HI;go_wp2_with fail;refine((cS aU) wr V.wm).mono ?_;rintro e wq ⟨rfl,F⟩;obtain rfl:=F.symm;go_wp2_with fail;refine(po (mB c k) wr (by omega)).mono ?_;rintro e w5 ⟨rfl,ao⟩;have Q:=V.below ao;have C:=B.below ao;clear V B ao;go_wp2_with fail;refine((cS aT) w5 Q.wv).mono ?_;rintro e wq ⟨rfl,F⟩;obtain rfl:=F.symm;go_wp2_with fail;refine(po (vB c k) w5 (by omega)).mono ?_;rintro e q ⟨rfl,aq⟩;have s:=Q.lJ.trans (aq.mono Q.lJ.size);have A:=C.below aq;clear Q C aq;have sV:=V5 (Sp.ey (vB c k));have sM:=V5 (Sp.ey (mB c k));obtain⟨I,aE⟩:∃I,Hid (dq (vB c k)=I):=⟨_,rfl⟩
   obtain⟨N,aF⟩:∃N,Hid (dq (mB c k)=N):=⟨_,rfl⟩
   rw[cS aE] at sV ⊢;rw[cS aF] at sM ⊢;have hA:WQ q (q.alloc (D #[H ⟨#[]⟩,H N,H I] 176)):=WO.alloc WN _;have m:=T9 q (D #[H ⟨#[]⟩,H N,H I] 176);have R:=s.trans (hA.mono s.size);have j:=A.below hA;obtain⟨L,hL⟩:∃L,K (E q)=L:=⟨_,rfl⟩
   have aY:K (E w)+1+1<L:=by rw[<-hL];exact cV A.2.2
   clear s A hA;go_upto_region 11 with fail
   first|rw[hL] at m ⊢|rw[hL] at m
   generalize ah:Xe _ _=l at R j m ⊢;clear ah hL;have q0:l.cell? ⟨K (E w),0,U⟩=S (Z .u32 da):=by rw[T5 l _ 0 _ _ _ j.1];rfl
   have q1:l.cell? ⟨K (E w),1,U⟩=S (Z Y vx):=by rw[T5 l _ 1 _ _ _ j.1];rfl
   have q2:l.cell? ⟨K (E w)+1,0,U⟩=S (Z Y step):=by rw[T5 l _ 0 _ _ _ j.2.1];rfl
   have q3:l.cell? ⟨K (E w)+1,2,U⟩=S (Z Y c.all):=by rw[T5 l _ 2 _ _ _ j.2.1];rfl
   have q4:l.cell? ⟨L,0,U⟩=S (H ⟨#[]⟩):=by rw[T5 l _ 0 _ _ _ m];rfl
   have q5:l.cell? ⟨L,1,U⟩=S (H N):=by rw[T5 l _ 1 _ _ _ m];rfl
   have q6:l.cell? ⟨L,2,U⟩=S (H I):=by rw[T5 l _ 2 _ _ _ m];rfl
   have aG:=cT (tB da vx step c.all ⟨#[]⟩ N I l hj hs (by omega) (by omega));go_wp2_with fail;refine(cS aG).mono ?_;rintro e w8 ⟨rfl,ab⟩;have h8:=R.trans (ab.mono R.size);have G:=j.below ab;have ar:=(ab.block L (cV m)).trans m;clear R j m ab q0 q1 q2 q3 q4 q5 q6 aG;have zk:=V5 (l5 step c.all da (gX I) (gX N));obtain⟨KB,aH⟩:∃KB,Hid (kB step c.all da (gX I) (gX N)=KB):=⟨_,rfl⟩
   rw[cS aH] at zk ⊢;go_wp2_with fail;refine(po KB w8 (by omega)).mono ?_;rintro e r ⟨rfl,ad⟩;have h9:=h8.trans (ad.mono h8.size);have z:=G.below ad;have P:=(ad.block L (cV ar)).trans ar;have z0:r.cell? ⟨L,0,U⟩=S (H ⟨#[]⟩):=by rw[T5 r _ 0 _ _ _ P];rfl
   have z1:r.cell? ⟨L,1,U⟩=S (H N):=by rw[T5 r _ 1 _ _ _ P];rfl
   have z2:r.cell? ⟨L,2,U⟩=S (H I):=by rw[T5 r _ 2 _ _ _ P];rfl
   have f0:r.frozen? ⟨L,0,U⟩=W9:=by simp[World.frozen?,P]
   have y0:r.cell? ⟨K (E w)+1+1,0,U⟩=S (H ⟨#[]⟩):=by rw[T5 r _ 0 _ _ _ z.2.2];rfl
   have y1:r.cell? ⟨K (E w)+1+1,1,U⟩=S (H ⟨#[]⟩):=by rw[T5 r _ 1 _ _ _ z.2.2];rfl
   have y2:r.cell? ⟨K (E w)+1+1,2,U⟩=S (H ⟨#[]⟩):=by rw[T5 r _ 2 _ _ _ z.2.2];rfl
   have g0:r.frozen? ⟨K (E w)+1+1,0,U⟩=W9:=by simp[World.frozen?,z.2.2]
   have g1:r.frozen? ⟨K (E w)+1+1,1,U⟩=W9:=by simp[World.frozen?,z.2.2]
   have g2:r.frozen? ⟨K (E w)+1+1,2,U⟩=W9:=by simp[World.frozen?,z.2.2]
   have aV:L≠(K (E w))+1+1:=by omega
   have aW:Hid (WQ w ((((r.setCell ⟨L,0,U⟩ (H (dq KB))).setCell ⟨K (E w)+1+1,0,U⟩ (H (dq KB))).setCell ⟨K (E w)+1+1,1,U⟩ (H N)).setCell ⟨K (E w)+1+1,2,U⟩ (H I))):=(((h9.setCell (p:=⟨L,0,U⟩) (by show (K (E w))<=L;omega) _).setCell (p:=⟨K (E w)+1+1,0,U⟩) (by show (K (E w))<=K (E w)+1+1;omega) _).setCell (p:=⟨K (E w)+1+1,1,U⟩) (by show (K (E w))<=K (E w)+1+1;omega) _).setCell (p:=⟨K (E w)+1+1,2,U⟩) (by show (K (E w))<=K (E w)+1+1;omega) _;clear h8 G ar ad h9 z P;go_wp2;refine T8 (v := WY #[H (dq KB),H N,H I]) ?_ O ⟨?_,cS aW⟩
   .simp[results,results93,go_sem,y0,y1,y2,z0,z1,z2,aV]
   .unfold EK;rw[cS aE,cS aF,cS aH]
end Ru
namespace Ru
open Sp (nG lW gX bt dq dx okB)
theorem NG(a b:Nat)(ha:a<72057594037927936)(hb:b<256):bits .or .u64 ((a*256:Nat):Int) (b:Int)=((b+256*a:Nat):Int):=by
 have h:a*256 ||| b=b+256*a:=by
  have:=Nat.two_pow_add_eq_or_of_lt (i:=8) (b:=b) (by omega) a;rw[show (2:Nat) ^ 8=256 by decide] at this;rw[V4 a 256,<-this];omega
 rw[u64_or_nat _ _ (by omega) (by omega),h]
theorem vJ(L:Nat)(s:WU)(k:Nat)(C:Int)(w:WR)(u:C=(k:Int))(T:k<=8)(I:k<=s.size)(V:w.cell? ⟨L,0,U⟩=S (H s))(X:w.frozen? ⟨L,0,U⟩=W9):WT prog 120 #[WV (S ⟨L,0,U⟩),Z Y C] w λe M=>e=WZ (Z .u64 (num s 0 k))/\M=w.setCell ⟨L,0,U⟩ (H (s.extract k s.size)):=by
 subst u;have q:∀W,Sem.run prog (Instr.slice 9 (H s) (S (Z Y (k:Int))) U U) W=.ok (H (s.extract k s.size)) W:=λW=>TK s k _ O I W
 go_enter func120,ntmps120;go_wp2
 go_loopw [5,6] (λN y wr=>∃(j:Nat) (m:Int),j<=k/\y=Z Y m/\m=(j:Int)-1/\N=Z .u64 (num s j (k-j))/\wr=w) (λ_ y _=>(intOf y+1).toNat)
 case atStart=>exact⟨k,(k:Int)-1,TY _,rfl,rfl,by rw[Nat.sub_self];rfl,O⟩
 case round =>
  obtain⟨j,m,t,rfl,P,rfl,z⟩:=hrel;obtain rfl:=z.symm;have F:num s j (k-j)<256 ^ (k-j):=gW s _ _;by_cases c:0<j
  .obtain⟨i,rfl⟩:∃i,j=i+1:=⟨j-1,by omega⟩
   obtain rfl:m=(i:Int):=by omega
   have Q:0<=(i:Int):=by omega
   have l:num s (i+1) (k-(i+1))<72057594037927936:=by
    have p:=Nat.pow_le_pow_right (n:=256) (by omega) (show k-(i+1)<=7 by omega);have o:(256:Nat) ^ 7=72057594037927936:=by decide
    omega
   have r:=Sp.ju s i;have R:∀W,Sem.run prog (Instr.index 9 (H s) (Z Y (i:Int))) W=.ok (Z .u8 (bt s i:Nat)) W:=λW=>Tf s i _ O (by omega) W
   have A:Hid (num s i (k-i)=bt s i+256*num s (i+1) (k-(i+1))):=by
    show _=_
    rw[KG];congr 1;omega
   generalize num s (i+1) (k-(i+1))=G at l A;generalize bt s i=b at r R A;have B:Hid (bits .or .u64 ((G:Int)*256) (b:Int)=((b+256*G:Nat):Int)):=by
    have h:=NG G b l r;rw[Int.natCast_mul] at h;exact h
   clear F P;go_wp2;refine⟨⟨i,(i:Int)-1,by omega,O,O,?_,trivial⟩,?_⟩
   .rw[cS A,cS B]
   .simp[intOf] <;> omega
  .have Q:¬0<=m:=by omega
   obtain rfl:j=0:=by omega
   rw[Nat.sub_zero];clear F;go_wp2;go_ret;exact⟨O,O⟩
theorem mV(s:WU)(w:WR):WT prog 119 #[H s] w λe b=>e=WZ (WY #[H s])/\WQ w b:=by
 go_enter func119,ntmps119;go_wp2;exact T8 (v := WY #[H s]) (by simp[results,results119,go_sem]) O ⟨O,WO.alloc WN _⟩
abbrev gH:Array WS := #[Z Y 0,J U 0 0,Z Y 0]
theorem yx(s:WU)(w:WR)(Q:s.size<=4194304)(h:¬(okB s=W8/\(dx s).size=24)):WT prog 78 #[H s] w λe F=>e=WZ (WX #[WY gH,WW W9])/\WQ w F:=by
 have u:(okB s&&decide ((dx s).size=24))=W9:=by
  cases G:okB s with
  |false=>rfl
  |true=>rw[Bool.true_and,Uu];exact λI=>h ⟨G,I⟩
 have z:=cT (λW=>nJ s 24 W (by omega) (by omega));rw[u] at z;generalize dx s=P at z;clear h u;have y:Hid (∀W,W=w.alloc (D gH 80)->W.heap[K (E w)]?=S (D gH 80 (0,0))/\WQ w W):=by
  show ∀W,_
  rintro W rfl;exact⟨T9 w _,(T4 _ w).alloc WN _⟩
 go_enter func78,ntmps78;go_wp2_with fail;generalize B:Xe _ _=C;obtain⟨l,m⟩:=cS y C B.symm;clear B y;refine((cS z) C).mono ?_;rintro e j ⟨rfl,r⟩;have b:=(r.block _ (Pk.cV l)).trans l;have L:j.cell? ⟨K (E w),0,U⟩=S (Z Y 0):=by rw[T5 j _ 0 _ _ _ b];rfl
 have M:j.cell? ⟨K (E w),1,U⟩=S (J U 0 0):=by rw[T5 j _ 1 _ _ _ b];rfl
 have N:j.cell? ⟨K (E w),2,U⟩=S (Z Y 0):=by rw[T5 j _ 2 _ _ _ b];rfl
 have R:j.frozen? ⟨K (E w),0,U⟩=W9:=by simp[World.frozen?,b]
 have T:j.frozen? ⟨K (E w),1,U⟩=W9:=by simp[World.frozen?,b]
 have V:j.frozen? ⟨K (E w),2,U⟩=W9:=by simp[World.frozen?,b]
 have A:Hid (WQ w (((j.setCell ⟨K (E w),0,U⟩ (Z Y 0)).setCell ⟨K (E w),1,U⟩ (J U 0 0)).setCell ⟨K (E w),2,U⟩ (Z Y 0))):=(((m.trans (r.mono m.size)).setCell (p:=⟨K (E w),0,U⟩) WN _).setCell (p:=⟨K (E w),1,U⟩) WN _).setCell (p:=⟨K (E w),2,U⟩) WN _;clear l m r b z;go_wp2;exact T8 (v := WX #[WY gH,WW W9]) (by simp[results,results78,go_sem,L,M,N,gH]) O ⟨O,cS A⟩
end Ru
namespace Ru
open Sp (nG lW gX bt dq dx okB)
theorem rW(s:WU)(w:WR)(hs:s.size<=4194304)(h1:okB s=W8)(h2:(dx s).size=24):WT prog 78 #[H s] w λe q=>e=WZ (WX #[WY #[Z Y (num (dx s) 0 4),J U 0 0,Z Y (pR (num (dx s) 4 8))],WW W8])/\WQ w q:=by
 have o:(okB s&&decide ((dx s).size=24))=W8:=by rw[h1,UH h2];rfl
 have HO:=cT (λW=>nJ s 24 W (by omega) (by omega));rw[o] at HO;generalize dx s=P at HO h2 ⊢;have B:=cT h2;clear h1 o;have g:Hid (∀W,W=w.alloc (D gH 80)->W.heap[K (E w)]?=S (D gH 80 (0,0))/\WQ w W):=by
  show ∀W,_
  rintro W rfl;exact⟨T9 w _,(T4 _ w).alloc WN _⟩
 have ab:=gW P 4 0;have p4:(256:Nat) ^ 4=4294967296:=by decide
 have l4:num P 0 4<4294967296:=by omega
 obtain⟨a0,C⟩:∃a0,Hid (num P 0 4=a0):=⟨_,rfl⟩
 obtain⟨F,G⟩:∃F,Hid (num P 4 8=F):=⟨_,rfl⟩
 have ad:IntKind.i64.wrap (F:Int)=pR F:=vg (by rw[<-cS G];exact gW P 8 4);obtain⟨na,aa⟩:∃na,Hid (pR F=na):=⟨_,rfl⟩
 rw[cS aa] at ad;rw[cS C] at l4;obtain⟨u,HP⟩:∃u,Hid (P.extract 4 P.size=u):=⟨_,rfl⟩
 have ae:Hid (∀L W,W.cell? ⟨L,0,U⟩=S (H P)->W.frozen? ⟨L,0,U⟩=W9->WT prog 120 #[WV (S ⟨L,0,U⟩),Z Y 4] W λe q=>e=WZ (Z .u64 a0)/\q=W.setCell ⟨L,0,U⟩ (H u)):=λL W c f=>by
  have h:=vJ L P 4 4 W O (by omega) (by rw[cS B];omega) c f;rw[cS C,cS HP] at h;exact h
 have af:Hid (∀L W,W.cell? ⟨L,0,U⟩=S (H u)->W.frozen? ⟨L,0,U⟩=W9->WT prog 120 #[WV (S ⟨L,0,U⟩),Z Y 8] W λe q=>e=WZ (Z .u64 F)/\∃b,q=W.setCell ⟨L,0,U⟩ (H b)):=λL W c f=>by
  have hz:u.size=20:=by rw[<-cS HP,Un,cS B];rfl
  have h:=vJ L u 8 8 W O (by omega) (by omega) c f;have e:num u 0 8=F:=by
   rw[<-cS HP,pJ P 4 P.size WN 8 0 (by rw[cS B];omega),<-cS G]
  rw[e] at h;exact h.mono λe q ⟨he,hw⟩=>⟨he,_,hw⟩
 clear ab p4 h2;go_enter func78,ntmps78;go_wp2_with fail;generalize hW:Xe _ _=W0;obtain⟨I,M⟩:=cS g W0 hW.symm;clear hW g;refine((cS HO) W0).mono ?_;rintro e w1 ⟨rfl,m⟩;have N:=(m.block _ (Pk.cV I)).trans I;replace m:=M.trans (m.mono M.size);clear I M HO;go_wp2_with fail;refine(mV P w1).mono ?_;rintro e t ⟨rfl,r⟩;have l:=(r.block _ (Pk.cV N)).trans N;replace r:=m.trans (r.mono m.size);have Q:K (E w)<K (E t):=Pk.cV l;clear N m;have hA:WQ t (t.alloc (D #[H P] 231)):=WO.alloc WN _;have y:=T9 t (D #[H P] 231);have z:=(hA.block _ (Pk.cV l)).trans l;have R:=r.trans (hA.mono r.size);clear l r hA;go_upto_region 5 with fail;obtain⟨L,hL⟩:∃L,K (E t)=L:=⟨_,rfl⟩
 rw[hL] at y Q ⊢;generalize ag:Xe _ _=w3 at y z R ⊢;clear ag hL;have c3:w3.cell? ⟨L,0,U⟩=S (H P):=by rw[T5 w3 _ 0 _ _ _ y];rfl
 have f3:w3.frozen? ⟨L,0,U⟩=W9:=by simp[World.frozen?,y]
 go_wp2_with fail;refine((cS ae) L w3 c3 f3).mono ?_;rintro e w4 ⟨rfl,rfl⟩;have c4:(w3.setCell ⟨L,0,U⟩ (H u)).cell? ⟨L,0,U⟩=S (H u):=UN _ _ _ c3;have f4:(w3.setCell ⟨L,0,U⟩ (H u)).frozen? ⟨L,0,U⟩=W9:=by rw[UK];exact f3
 have T:(w3.setCell ⟨L,0,U⟩ (H u)).heap[K (E w)]?=S (D gH 80 (0,0)):=(Uj _ _ _ _ (λe=>by have e':K (E w)=L:=e;omega)).trans z;have V:=R.setCell (p:=⟨L,0,U⟩) (UT Q) (H u);clear c3 f3 y z R;generalize Xf _ _ _=w4 at c4 f4 T V ⊢;go_wp2_with fail;refine((cS af) L w4 c4 f4).mono ?_;rintro e A ⟨rfl,b,rfl⟩;have j:(w4.setCell ⟨L,0,U⟩ (H b)).heap[K (E w)]?=S (D gH 80 (0,0)):=(Uj _ _ _ _ (λe=>by have e':K (E w)=L:=e;omega)).trans T;have X:=V.setCell (p:=⟨L,0,U⟩) (UT Q) (H b);clear c4 f4 T V;generalize Xf _ _ _=A at j X ⊢;have r0:A.cell? ⟨K (E w),0,U⟩=S (Z Y 0):=by rw[T5 A _ 0 _ _ _ j];rfl
 have r1:A.cell? ⟨K (E w),1,U⟩=S (J U 0 0):=by rw[T5 A _ 1 _ _ _ j];rfl
 have r2:A.cell? ⟨K (E w),2,U⟩=S (Z Y 0):=by rw[T5 A _ 2 _ _ _ j];rfl
 have g0:A.frozen? ⟨K (E w),0,U⟩=W9:=by simp[World.frozen?,j]
 have g1:A.frozen? ⟨K (E w),1,U⟩=W9:=by simp[World.frozen?,j]
 have g2:A.frozen? ⟨K (E w),2,U⟩=W9:=by simp[World.frozen?,j]
 have ah:Hid (WQ w (((A.setCell ⟨K (E w),0,U⟩ (Z Y a0)).setCell ⟨K (E w),1,U⟩ (J U 0 0)).setCell ⟨K (E w),2,U⟩ (Z Y na))):=((X.setCell (p:=⟨K (E w),0,U⟩) WN _).setCell (p:=⟨K (E w),1,U⟩) WN _).setCell (p:=⟨K (E w),2,U⟩) WN _;clear j X;go_wp2;refine T8 (v := WX #[WY #[Z Y a0,J U 0 0,Z Y na],WW W8]) (by simp[results,results78,go_sem,r0,r1,r2]) O ⟨?_,cS ah⟩;rw[cS C,cS G,cS aa]
end Ru
namespace Ru
open Sp (nG lW gX bt dq dx okB)
theorem AM(g p:WU)(cY z:Nat)(w:WR)(V:g.size<=1048576)(X:p.size<=1048576)(q:cY<=200)(ht:fI w):WT prog 31 #[H g,H p,Z Y cY,Z Y z] w λe I=>e=WZ (WY #[Z .u32 (oJ g p cY),Z Y z])/\WQ w I:=by
 have hd:=Bn cY (by omega);have m:(⟨#[0]⟩:WU).size=1:=rfl;have L:=cT (λW (A:WQ w W)=>r5 cY _ W O (by omega) (ht.below A));have r:WQ w (w.alloc (D #[Z .u32 0,Z Y 0] 91)):=WO.alloc WN _;have b:=T9 w (D #[Z .u32 0,Z Y 0] 91);have t:¬9223372036854775807<g.size+(⟨#[0]⟩:WU).size:=by rw[m];omega
 have s:¬9223372036854775807<(g++⟨#[0]⟩).size+p.size:=by rw[Us,m];omega
 have o:¬9223372036854775807<(g++⟨#[0]⟩++p).size+(⟨#[0]⟩:WU).size:=by rw[Us,Us,m];omega
 have y4:¬9223372036854775807<(g++⟨#[0]⟩++p++⟨#[0]⟩).size+(dc cY).size:=by rw[Us,Us,Us,m];omega
 have M:(Mc g p cY).size<=3000000:=by unfold Mc;simp only[Us];omega
 have N:=cT (λW=>uG (Mc g p cY) W (by omega));clear ht m;go_enter func31,ntmps31;go_wp2_with fail;generalize P:Xe _ _=Q at r b ⊢;clear P;refine((cS L) Q r).mono ?_;rintro e j ⟨rfl,l⟩;have A:=r.trans (l.mono r.size);have u:=(l.block _ (Pk.cV b)).trans b;clear r b l;go_wp2_with fail;refine((cS N) j).mono ?_;rintro e wq ⟨rfl,B⟩;obtain rfl:=B.symm;have R:j.cell? ⟨K (E w),0,U⟩=S (Z .u32 0):=by rw[T5 j _ 0 _ _ _ u];rfl
 have T:j.cell? ⟨K (E w),1,U⟩=S (Z Y 0):=by rw[T5 j _ 1 _ _ _ u];rfl
 have g0:j.frozen? ⟨K (E w),0,U⟩=W9:=by simp[World.frozen?,u]
 have g1:j.frozen? ⟨K (E w),1,U⟩=W9:=by simp[World.frozen?,u]
 obtain⟨y,F⟩:∃y,Hid (oJ g p cY=y):=⟨_,rfl⟩
 have G:gX (Mc g p cY)=y:=cS F;rw[G];have C:Hid (WQ w ((j.setCell ⟨K (E w),0,U⟩ (Z .u32 y)).setCell ⟨K (E w),1,U⟩ (Z Y z))):=(A.setCell (p:=⟨K (E w),0,U⟩) WN _).setCell (p:=⟨K (E w),1,U⟩) WN _;clear u A G;go_wp2;refine T8 (v := WY #[Z .u32 y,Z Y z]) (by simp[results,results31,go_sem,R,T]) O ⟨?_,cS C⟩;rw[cS F]
end Ru
namespace Ru
open Sp (nG lW gX bt dq dx okB)
open Pk (dh cV de)
theorem Nj(s:WU)(o:Nat):num s o 1=bt s o:=by show bt s o+256*0=_;omega
theorem uD(s:WU)(a k:Nat)(h:a+k<=s.size):(s.extract a s.size).extract k (s.extract a s.size).size=s.extract (a+k) s.size:=by
 apply Sp.jF
 .simp only[Un];omega
 .intro i hi;simp only[Un] at hi;rw[Sp.fW _ _ _ _ WN (by simp only[Un];omega),Sp.fW s a s.size _ WN (by omega),Sp.fW s (a+k) s.size i WN (by omega)]
  congr 1;omega
structure Rv (w wr:WR) (L:Nat) (v m:WU) (n j:Nat) (sl:WS):Prop where
 b8:wr.heap[L]?=S (D #[H (v.extract (9*j) v.size)] 231 (0,0))
 b9:wr.heap[L+1]?=S (D #[H (m.extract (12*j) m.size)] 231 (0,0))
 o:wr.ownsRow (K (E w)) 104 4 sl j (jg (gC v m ⟨#[]⟩ n).val (gC v m ⟨#[]⟩ n).fC (gC v m ⟨#[]⟩ n).iI (gC v m ⟨#[]⟩ n).jf j)
 lJ:WQ w wr
 lo:K (E w)<=L
variable {L:Nat}{W:WR}{y:WS}
theorem rh{x:WS}(h:W.heap[L]?=S (D #[x] 231 (0,0))): (W.setCell ⟨L,0,U⟩ y).heap[L]?=S (D #[y] 231 (0,0)):=by
 rw[Ue W L 0 _ _ _ h];rfl
theorem rv{M:Nat}{c:Array WS}{t:Nat}(h:W.heap[M]?=S (D c t (0,0)))(b:M≠L): (W.setCell ⟨L,0,U⟩ y).heap[M]?=S (D c t (0,0)):=(Uj _ _ _ M (λe=>b e)).trans h
theorem rT{B n:Nat}{x v:WS}{b:List WS}(h:W.heap[L]?=S (D #[x] 231 (0,0)))(j:W.ownsRow B 104 4 v n b): (W.setCell ⟨L,0,U⟩ y).ownsRow B 104 4 v n b:=U1 j (λe=>by obtain⟨z,l,_⟩:=dh j e;exact de l h (by decide) O) _
theorem takeB(L:Nat)(s:WU)(k:Nat)(b:Int)(w:WR)(j:b=(k:Int))(l:k<=8)(m:k<=s.size)(hb:w.heap[L]?=S (D #[H s] 231 (0,0))):WT prog 120 #[WV (S ⟨L,0,U⟩),Z Y b] w λe r=>e=WZ (Z .u64 (num s 0 k))/\r=w.setCell ⟨L,0,U⟩ (H (s.extract k s.size)):=vJ L s k b w j l m (by rw[T5 w L 0 _ _ _ hb];rfl) (by simp[World.frozen?,hb])
def Kp(v m:WU)(n:Nat)(w:WR)(e:Ending)(w':WR):Prop:=WQ w w'/\((∀i,i<n->bt v (9*i+8)<=1)->∃sl,e=WZ (WX #[sl,WW W8])/\w'.ownsRow (K (E w)) 104 4 sl n (jg (gC v m ⟨#[]⟩ n).val (gC v m ⟨#[]⟩ n).fC (gC v m ⟨#[]⟩ n).iI (gC v m ⟨#[]⟩ n).jf n))/\
  (¬(∀i,i<n->bt v (9*i+8)<=1)->e=WZ (WX #[J U 0 0,WW W9]))
theorem sL(v m:WU)(n:Nat)(w:WR)(hn:n<=64)(hv:Hid (v.size=9*n))(hm:Hid (m.size=12*n)):WT prog 123 #[H v,H m,Z Y n] w (Kp v m n w):=by
 obtain⟨t2,au,av,aw,ax⟩:=UB info_vertex;generalize hO:Kp v m n w=b;replace hO:=cT hO;go_enter func123,ntmps123;go_wp2_with fail;refine(mV v w).mono ?_;rintro e w1 ⟨rfl,G⟩;go_wp2_with fail;refine(mV m w1).mono ?_;rintro e w2 ⟨rfl,r⟩;replace r:=G.trans (r.mono G.size);clear G;have ab:=cT (re w2 #[H v] #[H m] 231 231);go_wp2_with fail;generalize F:Xe (Xe _ _) _=W0;obtain⟨b1,b2,ad,hz⟩:=cS ab W0 F.symm;clear F ab;obtain⟨L,hL⟩:∃L,K (E w2)=L:=⟨_,rfl⟩
 rw[hL] at b1 b2 ⊢;have ae:Hid (Rv w W0 L v m n 0 (J U 0 0)):=by
  refine⟨?_,?_,Uw _ _ _ _,r.trans (ad.mono r.size),by rw[<-hL];exact r.size⟩
  .rw[Nat.mul_zero,rQ];exact b1
  .rw[Nat.mul_zero,rQ];exact b2
 clear b1 b2 ad hz hL r
 go_loopw [10,20] (λsl i wr=>∃j:Nat,j<=n/\i=Z Y j/\Hid (Rv w wr L v m n j sl)/\Hid (∀q,q<j->bt v (9*q+8)<=1)) (λ_ i _=>n-(intOf i).toNat)
 case atStart=>exact⟨0,Ud _,rfl,ae,λq hq=>by omega⟩
 case round =>
  clear ae;obtain⟨j,hj,rfl,HI,HG⟩:=hrel;by_cases A:j<n
  .have af:(j:Int)<(n:Int):=by omega
   have sv:=cS hv;have sm:=cS hm;obtain⟨b8,b9,ho,l,u⟩:=cS HI;have e1:(v.extract (9*j) v.size).size=v.size-9*j:=by rw[Un];omega
   have e2:(m.extract (12*j) m.size).size=m.size-12*j:=by rw[Un];omega
   have x1:=uD v (9*j) 8 (by omega);have x2:=uD v (9*j+8) 1 (by omega);have x3:=uD m (12*j) 4 (by omega);have x4:=uD m (12*j+4) 8 (by omega);have n1:=pJ v (9*j) v.size WN 8 0 (by omega);have n2:=pJ v (9*j+8) v.size WN 1 0 (by omega);have n3:=pJ m (12*j) m.size WN 4 0 (by omega);have n4:=pJ m (12*j+4) m.size WN 8 0 (by omega);simp only[U9] at n1 n2 n3 n4;have B:Hid (jg (gC v m ⟨#[]⟩ n).val (gC v m ⟨#[]⟩ n).fC (gC v m ⟨#[]⟩ n).iI (gC v m ⟨#[]⟩ n).jf (j+1)=jg (gC v m ⟨#[]⟩ n).val (gC v m ⟨#[]⟩ n).fC (gC v m ⟨#[]⟩ n).iI (gC v m ⟨#[]⟩ n).jf j++[Z Y (pR (num v (9*j) 8)),WW (bt v (9*j+8) == 1),Z Y ((num m (12*j) 4:Nat):Int),Z Y (pR (num m (12*j+4) 8))]):=by
    show _=_
    rw[mx];have g1:(gC v m ⟨#[]⟩ n).val.getD j 0=pR (num v (9*j) 8):=gr _ _ A;have g2:(gC v m ⟨#[]⟩ n).fC.getD j W9=(bt v (9*j+8) == 1):=gr _ _ A;have g3:(gC v m ⟨#[]⟩ n).iI.getD j 0=((num m (12*j) 4:Nat):Int):=gr _ _ A;have g4:(gC v m ⟨#[]⟩ n).jf.getD j 0=pR (num m (12*j+4) 8):=gr _ _ A;rw[g1,g2,g3,g4]
   obtain⟨a0,P⟩:∃a0,Hid (num v (9*j) 8=a0):=⟨_,rfl⟩
   obtain⟨I,C⟩:∃I,Hid (bt v (9*j+8)=I):=⟨_,rfl⟩
   obtain⟨Q,R⟩:∃Q,Hid (num m (12*j) 4=Q):=⟨_,rfl⟩
   obtain⟨a3,V⟩:∃a3,Hid (num m (12*j+4) 8=a3):=⟨_,rfl⟩
   have ag:Hid (∀W:WR,W.heap[L]?=S (D #[H (v.extract (9*j) v.size)] 231 (0,0))->WT prog 120 #[WV (S ⟨L,0,U⟩),Z Y 8] W λe X=>e=WZ (Z .u64 a0)/\X=W.setCell ⟨L,0,U⟩ (H (v.extract (9*j+8) v.size))):=λW F=>by
    have T:=takeB (L) _ 8 8 W O (by omega) (by rw[Un];omega) F;rw[x1,n1,cS P] at T;exact T
   have ah:Hid (∀W:WR,W.heap[L]?=S (D #[H (v.extract (9*j+8) v.size)] 231 (0,0))->WT prog 120 #[WV (S ⟨L,0,U⟩),Z Y 1] W λe X=>e=WZ (Z .u64 I)/\X=W.setCell ⟨L,0,U⟩ (H (v.extract (9*j+8+1) v.size))):=λW F=>by
    have T:=takeB (L) _ 1 1 W O (by omega) (by rw[Un];omega) F;rw[x2,n2,Nj,cS C] at T;exact T
   have s:Hid (∀W:WR,W.heap[L+1]?=S (D #[H (m.extract (12*j) m.size)] 231 (0,0))->WT prog 120 #[WV (S ⟨L+1,0,U⟩),Z Y 4] W λe X=>e=WZ (Z .u64 Q)/\X=W.setCell ⟨L+1,0,U⟩ (H (m.extract (12*j+4) m.size))):=λW F=>by
    have T:=takeB (L+1) _ 4 4 W O (by omega) (by rw[Un];omega) F;rw[x3,n3,cS R] at T;exact T
   have o:Hid (∀W:WR,W.heap[L+1]?=S (D #[H (m.extract (12*j+4) m.size)] 231 (0,0))->WT prog 120 #[WV (S ⟨L+1,0,U⟩),Z Y 8] W λe X=>e=WZ (Z .u64 a3)/\X=W.setCell ⟨L+1,0,U⟩ (H (m.extract (12*j+4+8) m.size))):=λW F=>by
    have T:=takeB (L+1) _ 8 8 W O (by omega) (by rw[Un];omega) F;rw[x4,n4,cS V] at T;exact T
   clear x1 x2 x3 x4 n1 n2 n3 n4 e1 e2 sv sm;have c8:=rh (y := H (v.extract (9*j+8) v.size)) b8;have c9:=rv (L:=L) (y := H (v.extract (9*j+8) v.size)) b9 (by omega);have co:=rT (y := H (v.extract (9*j+8) v.size)) b8 ho;have cb:=l.setCell (p:=⟨L,0,U⟩) u (H (v.extract (9*j+8) v.size));have ai:=cT ((cS ag) wr b8);clear ag b8 b9 ho l;go_wp2_with fail;refine(cS ai).mono ?_;rintro e w3 ⟨rfl,rfl⟩;generalize Xf _ _ _=w3 at c8 c9 co cb ⊢;have d8:=rh (y := H (v.extract (9*j+8+1) v.size)) c8;have d9:=rv (L:=L) (y := H (v.extract (9*j+8+1) v.size)) c9 (by omega);have N:=rT (y := H (v.extract (9*j+8+1) v.size)) c8 co;have db:=cb.setCell (p:=⟨L,0,U⟩) u (H (v.extract (9*j+8+1) v.size));have g:=cT ((cS ah) w3 c8);clear ah c8 c9 co cb ai;go_wp2_with fail;refine(cS g).mono ?_;rintro e w4 ⟨rfl,rfl⟩;generalize Xf _ _ _=w4 at d8 d9 N db ⊢;have lb:I<256:=by rw[<-cS C];exact Sp.ju _ _
   by_cases G:1<I
   .have aj:(I:Int) > 1:=by omega
    have HR:Hid (b (WZ (WX #[J U 0 0,WW W9])) w4):=by
     show b _ _
     rw[<-cS hO];exact⟨db,λh=>absurd (h j A) (by rw[cS C];omega),λ_=>O⟩
    clear d8 d9 N db g HI s o;go_wp2;exact cS HR
   .have aj:¬(I:Int) > 1:=by omega
    have f9:=rh (y := H (m.extract (12*j+4) m.size)) d9;have f8:=rv (L:=L+1) (y := H (m.extract (12*j+4) m.size)) d8 (by omega);have fo:=rT (y := H (m.extract (12*j+4) m.size)) d9 N;have fb:=db.setCell (p:=⟨L+1,0,U⟩) (Uc u (U0 _)) (H (m.extract (12*j+4) m.size));have ak:=cT ((cS s) w4 d9);clear s d8 d9 N db g;go_wp2_with fail;refine(cS ak).mono ?_;rintro e w5 ⟨rfl,rfl⟩;generalize Xf _ _ _=w5 at f8 f9 fo fb ⊢;have k9:=rh (y := H (m.extract (12*j+4+8) m.size)) f9;have k8:=rv (L:=L+1) (y := H (m.extract (12*j+4+8) m.size)) f8 (by omega);have ko:=rT (y := H (m.extract (12*j+4+8) m.size)) f9 fo;have kb:=fb.setCell (p:=⟨L+1,0,U⟩) (Uc u (U0 _)) (H (m.extract (12*j+4+8) m.size));have an:=cT ((cS o) w5 f9);clear o f8 f9 fo fb ak;go_wp2_with fail;refine(cS an).mono ?_;rintro e w6 ⟨rfl,rfl⟩;generalize Xf _ _ _=w6 at k8 k9 ko kb ⊢;have ay:IntKind.i64.wrap (a0:Int)=pR a0:=vg (by rw[<-cS P];exact gW v 8 _);have az:IntKind.i64.wrap (a3:Int)=pR a3:=vg (by rw[<-cS V];exact gW m 8 _);have l2:Q<4294967296:=by rw[<-cS R];exact gW m 4 _
    rw[cS P,cS C,cS R,cS V] at B;have aA:=NH I;obtain⟨q0,aB⟩:∃q0,Hid (pR a0=q0):=⟨_,rfl⟩
    obtain⟨q3,aC⟩:∃q3,Hid (pR a3=q3):=⟨_,rfl⟩
    obtain⟨qb,aD⟩:∃qb,Hid ((I == 1)=qb):=⟨_,rfl⟩
    rw[cS aB] at ay B;rw[cS aC] at az B;rw[cS aD] at aA B;have K8:=cT k8;have K9:=cT k9;have aE:=kb.size;have aF:Hid (∀q,q<j+1->bt v (9*q+8)<=1):=λq hq=>by
     by_cases e:q<j
     .exact(cS HG) q e
     .obtain rfl:q=j:=by omega
      rw[cS C];omega
    clear k8 k9 an HI;go_wp2_with (first
    |(at_builtin;go_must (refine VZ _ O (.tmp 28) (.tmp 38) 78 O (K (E w)) 104 t2 _ 4 32 underlying78 au av aw ax O (by decide) _ _ _ O (ko.alloc _) ⟨K (E w6),0,U⟩ 1 1 [Z Y q0,WW qb,Z Y (Q:Int),Z Y q3] O O (We (cs := #[Z Y q0,WW qb,Z Y (Q:Int),Z Y q3]) (t:=104) (fr:=(0,0)) (T9 w6 _)) (by simp[Value.oneCell']) (by unfold maxLen;omega) (by omega) (by first|omega|(simp;omega)) ?_))
     |go_in)
    intro v7 w7 ao aa _;have aq:=qM (ys:=[]) (v':=v7) (by simp;omega) (ko.alloc _) (kb.alloc aE _) aa;have aG:Hid (Rv w w7 L v m n (j+1) v7):=by
     have hA:WQ w6 (w6.alloc (D #[Z Y q0,WW qb,Z Y (Q:Int),Z Y q3] 104)):=WO.alloc WN _;have ar:∀(M:Nat) (c:Array WS),w6.heap[M]?=S (Obj.cells c 231 (0,0))->w7.heap[M]?=S (Obj.cells c 231 (0,0)):=λM c hM=>by
      have h1:=(hA.block M (cV hM)).trans hM;refine(aa.block M (cV h1) (λe=>?_)).trans h1;obtain⟨z,hz,_⟩:=dh ko e.symm;exact de hz hM (by decide) O
     refine⟨?_,?_,by rw[cS B];exact ao,aq,u⟩
     .rw[show 9*(j+1)=9*j+8+1 by omega];exact ar L _ (cS K8)
     .rw[show 12*(j+1)=12*j+4+8 by omega];exact ar (L+1) _ (cS K9)
    clear ao aa aq ko kb;go_wp2;go_roundw
    case rel=>exact⟨j+1,by omega,by go_num,aG,aF⟩
    case measure=>simp[intOf];omega
  .obtain rfl:j=n:=by omega
   have af:¬(j:Int)<(j:Int):=by omega
   obtain⟨b8,b9,ho,l,u⟩:=cS HI;obtain⟨q,cq,rfl⟩:=lO ho;have HR:Hid (b (WZ (WX #[J q j cq,WW W8])) wr):=by
    show b _ _
    rw[<-cS hO];exact⟨l,λ_=>⟨_,O,ho⟩,λh=>absurd (cS HG) h⟩
   clear b8 b9 ho l HI;go_wp2;exact cS HR
end Ru
namespace Ru
open Rd (Rk)
open Pk (iV Sm)
theorem A7(j l E n b:Nat)(Q R:Rk)(O:Nat->Prop)(a:WU)(w:WR)(h:iV w l E Q R O)(m:Sm Q n b)(r:n<=1000000000)(A:w.cell? ⟨j,0,U⟩=S (WV (S ⟨l,0,U⟩))):WT prog 77 #[WV (S ⟨j,0,U⟩),H a] w λe u=>e=WZ (H (Q.rd a))/\WQ w u:=by
 have y:=cT (Pk.Q6 a h m r);clear h m;go_enter func77,ntmps77;go_wp2_with fail;refine(cS y).mono ?_;rintro e B ⟨rfl,z⟩;go_wp2;go_ret;exact⟨rfl,z⟩
end Ru
end Go.Proofs.YtgkkdpegcieakaaGreatDoor
