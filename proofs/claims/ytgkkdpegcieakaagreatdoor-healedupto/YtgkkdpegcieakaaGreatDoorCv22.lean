import Derived.Test.YtgkkdpegcieakaaGreatDoorCv21
set_option linter.all false
set_option maxRecDepth 100000
set_option maxHeartbeats 0
namespace Go.Proofs.YtgkkdpegcieakaaGreatDoor
open Go.Proofs.Tryz
open Value renaming int→Z,slice→J,string→H,pointer→V9,tuple→Wb
open Ending renaming returned→Wd
open Obj renaming cells→D
open Option renaming none→U,some→S
open List renaming length→Wn
open _root_.Array renaming size→N
open World renaming cell?→Wj,setCell→Wm,heap→E
open IntKind renaming i64→Y
open Go renaming World→V5,Value→V6,Calls→V7
open Go.RowKit
section
theorem zI{b:List Sp.Ed}(h:Ord b 0 (Wn b)):b.Pairwise Sp.iF:=by
 rw[VY];intro i j hi l e;exact h i j _ _ (Tp _) e l (Tw hi) (Tw l)
variable {T:Sp.Tb}
theorem M0{L:List Sp.Ln}{b:List Sp.Ed}(l:Sp.dj T)(m:T.Perm (Sp.fU L))(r:Sp.first (Sp.loose L) (Wn L)=U)(e:St (Sp.gn L L) b)(u:Ord b 0 (Sp.gn L L).length): b=Sp.es L (Sp.nv L) (Sp.nv L):=by
 refine Sp.RO (zI (by rw[e.1];exact u)) ?_ e.2;intro x y;have j:x∈b.filter (Sp.isKey x.dp x.cS):=UU.2 ⟨y,by simp[Sp.isKey]⟩;rw[e.2] at j;exact Sp.OH l m r x (UU.1 j).1
variable {s:V8}
theorem sW(h:4000<s.size): Sp.dI s=.error (1,0):=by
 unfold Sp.dI Sp.oJ;rw[Tg h]
theorem wu(h:¬4000<s.size){i:Nat}(hb:Sp.bad s=S i): Sp.dI s=.error (2,(i:Int)):=by
 unfold Sp.dI Sp.oJ;rw[Tf h,hb]
variable {k:Nat}
theorem s9(h:¬4000<s.size)(hb:Sp.bad s=U)(b:Sp.eo (Sp.split s 10) 0 []=.error k): Sp.dI s=.error (3,(k:Int)):=by
 unfold Sp.dI Sp.oJ;rw[Tf h,hb];simp only;rw[Sp.Cl,b]
variable {P:List (Option Sp.Ln)}
theorem pr(h:¬4000<s.size)(hb:Sp.bad s=U)(b:Sp.eo (Sp.split s 10) 0 []=.ok P): Sp.dI s=if (Sp.gS (Sp.dH P) (Sp.dT P 0)).1=0 then .ok (Sp.dH P) else .error (Sp.gS (Sp.dH P) (Sp.dT P 0)):=by
 unfold Sp.dI Sp.oJ;rw[Tf h,hb];simp only;rw[Sp.Cl,b]
theorem Jq(P:List (Option Sp.Ln)):(∃i,Sp.first (Sp.kM (Sp.dH P)) (Sp.dH P).length=S i/\Sp.gv P 0 []=.error ((Sp.dT P 0).getD i 0))\/
  (Sp.first (Sp.kM (Sp.dH P)) (Sp.dH P).length=U/\∃b,Sp.gv P 0 []=.ok b/\Sp.dj b/\b.Perm (Sp.fU (Sp.dH P))):=by
 have h:=Sp.L5 P [] [] (by simp[Sp.dj]) (by simp[Sp.dH,Sp.fU]) (λi hi=>by simp[Sp.dH] at hi);simpa using h
theorem Oa(b:T.Perm (Sp.fU (Sp.dH P))):(∃i,Sp.first (Sp.loose (Sp.dH P)) (Sp.dH P).length=S i/\Sp.ge T P 0 []=.error ((Sp.dT P 0).getD i 0))\/
  (Sp.first (Sp.loose (Sp.dH P)) (Sp.dH P).length=U/\Sp.ge T P 0 []=.ok (Sp.gn (Sp.dH P) (Sp.dH P))):=by
 have h:=Sp.Mu T (Sp.dH P) b P [] (by simp) (λi hi=>by simp[Sp.dH] at hi);simpa [Sp.dH,Sp.gn] using h
theorem vJ(h:¬4000<s.size)(hb:Sp.bad s=U)(l:Sp.eo (Sp.split s 10) 0 []=.ok P)(e:Sp.gv P 0 []=.error k): Sp.dI s=.error (4,(k:Int)):=by
 rw[pr h hb l];rcases Jq P with ⟨i,j,b⟩|⟨j,T,b,_⟩
 .rw[e] at b;injection b with b;have m:Sp.gS (Sp.dH P) (Sp.dT P 0)=(4,(k:Int)):=by unfold Sp.gS;rw[j];simp only;rw[<-b]
  rw[m];rfl
 .rw[e] at b;cases b
theorem yi(h:¬4000<s.size)(hb:Sp.bad s=U)(r:Sp.eo (Sp.split s 10) 0 []=.ok P)(j:Sp.gv P 0 []=.ok T)(he:Sp.ge T P 0 []=.error k): Sp.dI s=.error (5,(k:Int)):=by
 rw[pr h hb r];rcases Jq P with ⟨i,l,b⟩|⟨l,z,b,_,u⟩
 .rw[j] at b;cases b
 .rw[j] at b;injection b with b;subst b;rcases Oa u with ⟨i,m,e⟩|⟨m,e⟩
  .rw[he] at e;injection e with e;have y:Sp.gS (Sp.dH P) (Sp.dT P 0)=(5,(k:Int)):=by unfold Sp.gS;rw[l];simp only;rw[m];simp only;rw[<-e]
   rw[y];rfl
  .rw[he] at e;cases e
structure SO (s:V8) (P:List (Option Sp.Ln)) (T:Sp.Tb) (E:List Sp.Ed):Prop where
 me:Sp.dj T
 SE:T.Perm (Sp.fU (Sp.dH P))
 tl:Wn T=Sp.nv (Sp.dH P)
 eq:E=Sp.gn (Sp.dH P) (Sp.dH P)
 el:Wn E=Sp.o6 (Sp.dH P)
 lo:Sp.first (Sp.loose (Sp.dH P)) (Sp.dH P).length=U
 spec:Sp.dI s=if 256<Sp.o6 (Sp.dH P)\/64<Sp.nv (Sp.dH P) then .error (6,0) else .ok (Sp.dH P)
theorem pE(h:¬4000<s.size)(hb:Sp.bad s=U)(u:Sp.eo (Sp.split s 10) 0 []=.ok P)(m:Sp.gv P 0 []=.ok T){E:List Sp.Ed}(he:Sp.ge T P 0 []=.ok E): SO s P T E:=by
 rcases Jq P with ⟨i,r,e⟩|⟨r,z,e,hS,j⟩
 .rw[m] at e;cases e
 .rw[m] at e;injection e with e;subst e;rcases Oa j with ⟨i,l,b⟩|⟨l,b⟩
  .rw[he] at b;cases b
  .rw[he] at b;injection b with b;refine⟨hS,j,by rw[j.length_eq,Sp.sE],b,by rw[b,Sp.Gr],l,?_⟩;rw[pr h hb u];have y:Sp.gS (Sp.dH P) (Sp.dT P 0)=if 256<Sp.o6 (Sp.dH P)\/64<Sp.nv (Sp.dH P) then (6,0) else (0,0):=by unfold Sp.gS;rw[r];simp only;rw[l];rfl
   rw[y];by_cases c:256<Sp.o6 (Sp.dH P)\/64<Sp.nv (Sp.dH P)
   .rw[Tg c,Tg c];rfl
   .rw[Tf c,Tf c];rfl
end
section
open Go.RowKit Go.Shelf
attribute [local go_sem] Oper.semAt_some
theorem qC(F:Fence)(n:Nat)(j:F.fn 104)(b:F.round=U)(p0:Option Addr)(w:V5):CallsIn F n prog 104 #[V9 p0] w λe l=>e=Wd (.func (.func 158) #[] #[V9 (S ⟨N (E w),0,U⟩)])/\l=w.alloc (D #[V9 p0] 139):=by
 refine callsIn_of_wp func104 O j ?_ b;simp only[ntmps104,US,Tr,UB,Nat.reduceAdd,Nat.reduceSub,U1,U2,U4,U5,Ul,TZ]
 gi_wp2
 go_ret;exact⟨O,O⟩
theorem rV(F:Fence)(n:Nat)(h8:F.fn 158)(L:F.round=U)(hn:1<=n)(l V t K:Nat)(p:Option Addr)(cap:Nat)(T:Sp.Tb)(hl:Wn T<=100000)(b X:List (Int × Int)->V5->Prop)(hY:∀m x W,b m W->Wn m<Wn T->YieldAt F (n-1) prog l #[Z .i32 x.1,Z Y x.2] W λe B => (e=Wd (.bool true)/\b (m++[x]) B/\Below K W B)\/(e=Wd (.bool false)/\X (m++[x]) B))(W:V5)(M:K<=N (E W))(P:AbidesFrom (N (E W)) b)(ab:W.cell? ⟨V,0,U⟩=S (V9 (S ⟨t,0,U⟩)))(ht:W.cell? ⟨t,0,U⟩=S (J p (Wn T) cap))(hc:∀j (hj:j<Wn T),∃g,p=S ⟨g,0,U⟩/\g<K/\W.cell? ⟨g,j*2,U⟩=S (Z .i32 T[j].1)/\W.cell? ⟨g,j*2+1,U⟩=S (Z Y T[j].2))(h0:b [] W):CallsIn F n prog 158 #[.func (.yield l) #[] #[],V9 (S ⟨V,0,U⟩)] W λe B=>(∃v,e=Wd v)/\
   ((∃q,q=T/\b q B)\/(∃m,m <+: T/\X m B)):=by
 refine callsIn_of_wp func158 O h8 ?_ L;simp only[ntmps158,US,Tr,UB,Nat.reduceAdd,Nat.reduceSub,U1,U2,U4,U5,Ul,TZ]
 gi_wp2
 gi_loopw [10] (λi wr=>∃k:Nat,k<=Wn T/\i=Z Y k/\Hid (b (T.take k) wr)/\Below K W wr)
  (λi _=>Wn T-(intOf i).toNat)
 case atStart=>exact⟨0,Tp _,rfl,h0,Th _ _⟩
 case round =>
  obtain⟨k,hk,rfl,s,u⟩:=hrel;by_cases z:k<Wn T
  .obtain⟨g,rfl,o,c0,c1⟩:=hc k z;have d0:=(u.cell (p:=⟨g,k*2,U⟩) o).trans c0;have d1:=(u.cell (p:=⟨g,k*2+1,U⟩) o).trans c1;have C:(k:Int)<(Wn T:Int):=by omega
   obtain⟨x,Q⟩:∃x,T[k]=x:=⟨_,rfl⟩
   rw[Q] at d0 d1;have HX:=cU Q;clear Q c0 c1;have G:b (T.take k) (wr.alloc (D #[Z .i32 x.1,Z Y x.2] 265)):=P _ _ _ U (cT s) (World.grownBy_alloc _ _ U) (λr e=>by cases e);obtain⟨fn,aa,assign,body,hy,hR⟩:=hY _ x _ G (by rw[Uz];omega);clear G
   gi_wp2
   refine hR.mono ?_;rintro e W3 (⟨rfl,I,R⟩|⟨rfl,y⟩)
   .have A:=cU I;clear I
    gi_wp2
    go_roundw
    case rel=>exact⟨k+1,by omega,by go_num,by show b _ _;rw[Uw z,cT HX];exact cT A,u.trans ((V3.alloc (To M u.size) _).trans R)⟩
    case measure=>simp[intOf];omega
   .have A:=cU y;clear y
    gi_wp2
    refine Tj (Tl O _ _ _) O ?_;exact⟨⟨_,O⟩,.inr ⟨_,⟨T.drop (k+1),by rw[<-cT HX,<-Uw z,Un]⟩,cT A⟩⟩
  .have C:¬(k:Int)<(Wn T:Int):=by omega
   obtain rfl:k=Wn T:=by omega
   gi_wp2
   go_end0
   exact⟨⟨_,O⟩,.inl (by have h:=cT s;simpa using h)⟩
theorem kK(F:Fence)(n:Nat)(L:F.fn 158)(A:F.round=U)(M:1<=n)(r t z:Nat)(p:Option Addr)(cap:Nat)(T:Sp.Tb)(P:Wn T<=100000)(w:V5)(u:r<N (E w))(m:z<=N (E w))(B:t<N (E w))(C:w.cell? ⟨r,0,U⟩=S (V9 (S ⟨t,0,U⟩)))(ht:w.cell? ⟨t,0,U⟩=S (J p (Wn T) cap))(Q:∀j (K:j<Wn T),∃g,p=S ⟨g,0,U⟩/\g<z/\w.cell? ⟨g,j*2,U⟩=S (Z .i32 T[j].1)/\w.cell? ⟨g,j*2+1,U⟩=S (Z Y T[j].2)):SeqStopsK F n prog 158 #[V9 (S ⟨r,0,U⟩)] (λx:Int × Int=>#[Z .i32 x.1,Z Y x.2]) (Below z) (λR=>R=T) (λG=>G <+: T) (Wn T) w:=λl b V W y X _ k q =>
 rV F n L A M l r t z p cap T P b V k W (To m y.size) X ((y.cell (p:=⟨r,0,U⟩) u).trans C) ((y.cell (p:=⟨t,0,U⟩) B).trans ht)
  (λj K=>by obtain⟨g,e,I,i,h⟩:=Q j K;exact⟨g,e,I,(y.cell (p:=⟨g,j*2,U⟩) (TI I m)).trans i,(y.cell (p:=⟨g,j*2+1,U⟩) (TI I m)).trans h⟩) q
end
section
open Go.RowKit Go.Shelf
attribute [local go_sem] Oper.semAt_some
structure G2 (w:V5) (G:Nat) (v u x:V6) (T:List (Int × Int)):Prop where
 lt:G<N (E w)
 blk:w.heap[G]?=S (D #[v,u,x] 68 (0,0))
 r0:w.ownsRow (G+1) 21 1 v (Wn T) (T.map λp=>Z .i32 p.1)
 r1:w.ownsRow (G+1) 2 1 u (Wn T) (T.map λp=>Z Y p.2)
variable {t G:Nat}{w:V5}{u v x:V6}
theorem eh(h:w.heap[G]?=S (D #[v,u,x] t (0,0))): w.cell? ⟨G,0,U⟩=S v/\w.cell? ⟨G,1,U⟩=S u/\w.cell? ⟨G,2,U⟩=S x/\∀j,w.frozen? ⟨G,j,U⟩=false:=by
 refine⟨by simp[Wj,h],by simp[Wj,h],by simp[Wj,h],λj=>by simp[World.frozen?,h]⟩
theorem xH(h:w.heap[G]?=S (D #[v,u,x] t (0,0)))(v':V6): (w.setCell ⟨G,0,U⟩ v').heap[G]?=S (D #[v',u,x] t (0,0)):=by
 obtain⟨b,j⟩:=Ts.1 h
 show (w.heap.modify G _)[G]?=_
 rw[Array.getElem?_eq_getElem (by rw[Array.size_modify];exact b),Array.getElem_modify_self,j]
 rfl
theorem xS(h:w.heap[G]?=S (D #[v,u,x] t (0,0)))(v':V6): (w.setCell ⟨G,1,U⟩ v').heap[G]?=S (D #[v,v',x] t (0,0)):=by
 obtain⟨b,j⟩:=Ts.1 h
 show (w.heap.modify G _)[G]?=_
 rw[Array.getElem?_eq_getElem (by rw[Array.size_modify];exact b),Array.getElem_modify_self,j]
 rfl
variable {xs:List V6}{size e:Nat}
theorem qe{X b:V5}{j:Option Nat}{base k:Nat}(y:X.ownsRow base e size v k xs)(A:X.grownBy b j)(l:∀r,j=S r->∃o:Obj,X.heap[r]?=S o/\o.isCells=false): b.ownsRow base e size v k xs:=by
 refine y.kept A ?_;rcases y.2 with ⟨rfl,_⟩|⟨g,B,C,rfl,_,m,_⟩
 .exact .inl O
 .refine .inr λF=>?_
  obtain⟨o,z,I⟩:=l g (by simpa [Value.ownBlock] using F.symm);rw[m] at z;cases z;cases I
variable {T:List (Int × Int)}
theorem G2.qJ{X b:V5}{l:Option Nat}(h:G2 X G v u x T)(m:X.grownBy b l)(j:∀r,l=S r->∃o:Obj,X.heap[r]?=S o/\o.isCells=false): G2 b G v u x T:=by
 have y:S G≠l:=λe=>by obtain⟨o,z,A⟩:=j G e.symm;rw[h.blk] at z;cases z;cases A
 exact⟨TI h.lt m.size,(m.block G h.lt y).trans h.blk,qe h.r0 m j,qe h.r1 m j⟩
theorem G2.own(G:Nat)(x:V6):Own (λ(T:List (Int × Int)) W=>∃v u,G2 W G v u x T):=by
 rintro s X b l ⟨v,u,h⟩ m j;exact⟨v,u,h.qJ m j⟩
variable {n:Nat}
theorem ui{B:Nat}(h:w.ownsRow B e size v n xs)(b:G<B): S G≠v.ownBlock:=λe=>by have:=(h.lt G e.symm).1;omega
variable {w1:V5}{o:Obj}
theorem G2.half{v':V6}{a:Int}(h:G2 w G v u x T)(m:w1.ownsRow (G+1) 21 1 v' (Wn T+1) ((T.map λp=>Z .i32 p.1)++[Z .i32 a]))(b:(w.alloc o).grownBy w1 v.ownBlock):w1.heap[G]?=S (D #[v,u,x] 68 (0,0))/\(w1.setCell ⟨G,0,U⟩ v').heap[G]?=S (D #[v',u,x] 68 (0,0))/\
  (w1.setCell ⟨G,0,U⟩ v').ownsRow (G+1) 21 1 v' (Wn T+1) ((T.map λp=>Z .i32 p.1)++[Z .i32 a])/\
  (w1.setCell ⟨G,0,U⟩ v').ownsRow (G+1) 2 1 u (Wn T) (T.map λp=>Z Y p.2)/\G<N (E w1)/\(N (E w))+1<=N (E w1):=by
 have r:=h.lt;have j:=b.size;simp at j;have l:w1.heap[G]?=S (D #[v,u,x] 68 (0,0)):=(b.block G (by simp;omega) (ui h.r0 (by omega))).trans ((TD w o G r).trans h.blk);exact⟨l,xH l v',TA m (by show G<G+1;omega) _,TA (jJ (h.r0.alloc o) (h.r1.alloc o) (by decide) b) (by show G<G+1;omega) _,by omega,j⟩
theorem G2.full{b:V6}{p:Int × Int}(m:G<N (E w))(hb:w.heap[G]?=S (D #[v,u,x] 68 (0,0)))(r:w.ownsRow (G+1) 21 1 v (Wn T+1) ((T.map λp=>Z .i32 p.1)++[Z .i32 p.1]))(h1:w.ownsRow (G+1) 2 1 u (Wn T) (T.map λp=>Z Y p.2))(y:w1.ownsRow (G+1) 2 1 b (Wn T+1) ((T.map λp=>Z Y p.2)++[Z Y p.2]))(j:(w.alloc o).grownBy w1 u.ownBlock):w1.heap[G]?=S (D #[v,u,x] 68 (0,0))/\G2 (w1.setCell ⟨G,1,U⟩ b) G v b x (T++[p]):=by
 have z:=j.size;simp at z;have l:w1.heap[G]?=S (D #[v,u,x] 68 (0,0)):=(j.block G (by simp;omega) (ui h1 (by omega))).trans ((TD w o G m).trans hb);refine⟨l,⟨by simp[Wm];omega,xS l b,?_,?_⟩⟩
 .have:=TA (jJ (h1.alloc o) (r.alloc o) (by decide) j) (by show G<G+1;omega) (a:=⟨G,1,U⟩) b;simpa using this
 .have:=TA y (by show G<G+1;omega) (a:=⟨G,1,U⟩) b;simpa using this
theorem qS{b:V5}(hb:Below G b w)(y:G<N (E w))(l:w.ownsRow (G+1) e size v n xs)(m:(w.alloc o).grownBy w1 v.ownBlock)(j:Nat)(u:V6): Below G b (w1.setCell ⟨G,j,U⟩ u):=((hb.alloc (by omega) o).grown m (by simp;omega) (λk r=>by have:=(l.lt k r).1;omega)).setCell V2 _
theorem Cr{base:Nat}(r:w.ownsRow base e size v n xs)(y:(w.alloc o).grownBy w1 v.ownBlock)(a:Addr)(u:V6): KeepsOthers w (w1.setCell a u):=by
 refine((KeepsOthers.alloc w o).trans (KeepsOthers.of_grownBy y λj B l m=>?_)).trans (KeepsOthers.setCell _ _ _);rcases(r.alloc o).2 with ⟨rfl,_⟩|⟨g,z,A,rfl,_,b,_⟩
 .simp[Value.ownBlock] at l
 .obtain rfl:g=j:=by simpa [Value.ownBlock] using l
  rw[b] at m;cases m;rfl
theorem Cm(w:V5)(a:Addr)(v x:V6)(t:Nat):∀j u,[x][j]?=S u->((w.setCell a v).alloc (D #[x] t)).cell? ((⟨N (E w),0,U⟩:Addr).add j)=S u:=by
 have h:=cell_one_new (w.setCell a v) x t;have b:(w.setCell a v).heap.size=N (E w):=by simp[Wm]
 rw[b] at h;exact h
theorem GX(h:w.heap[G]?=S (D #[v,u,x] t (0,0)))(v':V6): (w.setCell ⟨G,2,U⟩ v').heap[G]?=S (D #[v,u,v'] t (0,0)):=by
 obtain⟨b,j⟩:=Ts.1 h
 show (w.heap.modify G _)[G]?=_
 rw[Array.getElem?_eq_getElem (by rw[Array.size_modify];exact b),Array.getElem_modify_self,j]
 rfl
theorem mY(w:V5)(G j:Nat)(v:V6):w.grownBy (w.setCell ⟨G,j,U⟩ v) (S G):=⟨O,O,O,by simp[Wm],λk _ b=>Tv _ _ _ k (λe=>b (by rw[e]))⟩
theorem iu{B m:Nat}(h:w.ownsRow m e size v n xs)(y:B<=m): w.ownsRow B e size v n xs:=by
 obtain⟨z,b⟩:=h;refine⟨z,?_⟩;rcases b with b|⟨g,j,l,A,C,r⟩
 .exact .inl b
 .exact .inr ⟨g,j,l,A,To y C,r⟩
def L1(w:V5)(R:Nat)(v u x:V6):V5:=((w.setCell ⟨R,0,U⟩ v).setCell ⟨R,1,U⟩ u).setCell ⟨R,2,U⟩ x
theorem Dp(w:V5)(R:Nat)(v u x:V6):w.grownBy (L1 w R v u x) (S R):=dC (dC (mY _ _ _ _) (mY _ _ _ _)) (mY _ _ _ _)
theorem Kx{R:Nat}{a b c:V6}(h:w.heap[R]?=S (D #[a,b,c] t (0,0)))(v u x:V6): (L1 w R v u x).heap[R]?=S (D #[v,u,x] t (0,0)):=GX (xS (xH h v) u) x
theorem wQ(t B Bt:Nat)(x:V6)(T:Sp.Tb)(E:List Sp.Ed)(w:V5)(hT:oK w Bt t T)(aR:Wn T<=5000)(hE:w.ownsRow B 162 3 x (Wn E) (dq E))(ao:Wn E<=5000)(hB:B<=w.heap.size):V7 prog 67 #[V9 (S ⟨t,0,U⟩),x] w λe w'=>∃v u b,e=Wd (dL v u x)/\w'.ownsRow B 21 1 v (Wn T) (T.map λp=>Z .i32 p.1)/\w'.ownsRow B 2 1 u (Wn T) (T.map λp=>Z Y p.2)/\
   w'.ownsRow B 162 3 x (Wn E) (dq b)/\St E b/\Ord b 0 (Wn E)/\Below B w w':=by
 obtain⟨tv,af,ah⟩:=hT;obtain⟨p,ai,rfl,R⟩:=dS ah;obtain⟨I,L,rfl,_⟩:=dm hE;obtain⟨i0,aq,ar,au,av⟩:=TN info_i32;obtain⟨i1,aw,ax,ay,az⟩:=TN info_i64;refine(UF (n:=5)).1 ?_;refine callsIn_of_wp_marks func67 O trivial ?_ O;simp only[ntmps67,US,Tr,UB,Nat.reduceAdd,Nat.reduceSub,U1,U2,U4,U5,Ul,TZ]
 gi_wp2_with (refine⟨trivial,?_⟩;gi_at_call 104;refine(qC _ _ trivial O _ _).mono ?_;rintro e w' ⟨rfl,rfl⟩)
 obtain⟨Q,F⟩:∃Q,(((w.alloc (D #[J U 0 0,J U 0 0,J U 0 0] 68)).alloc (D #[J U 0 0,J U 0 0,J I (Wn E) L] 68)).alloc (D #[V9 (S ⟨t,0,U⟩)] 139))=Q:=⟨_,rfl⟩
 have aS:Q.heap.size=w.heap.size+3:=by rw[<-F];simp
 have V:V4 w Q:=by rw[<-F];exact(((Th _ w).alloc V2 _).alloc (by simp) _).alloc (by simp;omega) _
 have aA:Q.heap[w.heap.size]?=S (D #[J U 0 0,J U 0 0,J U 0 0] 68 (0,0)):=by
  rw[<-F,TD _ _ _ (by simp;omega),TD _ _ _ (by simp)];exact UO w _
 have aB:Q.heap[w.heap.size+1]?=S (D #[J U 0 0,J U 0 0,J I (Wn E) L] 68 (0,0)):=by
  rw[<-F,TD _ _ _ (by simp)];have:=UO (w.alloc (D #[J U 0 0,J U 0 0,J U 0 0] 68)) (D #[J U 0 0,J U 0 0,J I (Wn E) L] 68);rwa [TK] at this
 have aC:Q.cell? ⟨w.heap.size+1+1,0,U⟩=S (V9 (S ⟨t,0,U⟩)):=by
  have:=UO ((w.alloc (D #[J U 0 0,J U 0 0,J U 0 0] 68)).alloc (D #[J U 0 0,J U 0 0,J I (Wn E) L] 68)) (D #[V9 (S ⟨t,0,U⟩)] 139);rw[TK,TK,F] at this;simp[Wj,this]
 have aD:t<w.heap.size:=(Ts.1 af).1;have aE:Q.cell? ⟨t,0,U⟩=S (J p (Wn T) ai):=by
  rw[V.cell (p:=⟨t,0,U⟩) aD];simp[Wj,af]
 have aF:∀j (hj:j<Wn T),∃g,p=S ⟨g,0,U⟩/\g<w.heap.size/\Q.cell? ⟨g,j*2,U⟩=S (Z .i32 T[j].1)/\Q.cell? ⟨g,j*2+1,U⟩=S (Z Y T[j].2):=λj hj=>by
  obtain⟨g,e,c0,c1⟩:=R j hj;have hg:=Tu w _ c0;exact⟨g,e,hg,(V.cell (p:=⟨g,j*2,U⟩) hg).trans c0,(V.cell (p:=⟨g,j*2+1,U⟩) hg).trans c1⟩
 have aT:=de hE V;rw[F];clear F R af ah;refine wpIn_rangeFunc_ownG O (by omega) (gf:=158) (lb := #[V9 (S ⟨w.heap.size+1+1,0,U⟩)]) O trivial (enters_of func158 (by kernel_rfl) O)
  (kK _ _ trivial O (by omega) (w.heap.size+1+1) t w.heap.size p ai T (by omega) Q (by omega) (by omega) (by omega) aC aE aF) belowK_t (belowK_b (by omega)) (Th _ _) (λ_=>O)
  (λX W=>(∃v u,G2 W (w.heap.size+1) v u (J I (Wn E) L) X)/\Below (w.heap.size+1) Q W)
  (λ_ _ _=>False)
  (OwnFrom.and (Own.from (G2.own _ _) _) (ownFrom_below (by omega) (by omega)))
  (λ_ _ _ _ _ hs _ _=>hs)
  ⟨⟨_,_,⟨by omega,aB,TH _ _ _ _,TH _ _ _ _⟩⟩,Th _ _⟩
  (λy=>{ tmps := #[V9 (S ⟨t,0,U⟩),J I (Wn E) L,undef,undef,V9 (S ⟨w.heap.size,0,U⟩),V9 (S ⟨w.heap.size+1,0,U⟩),Z .i32 y.1,Z Y y.2,J I (Wn E) L,.agg #[J U 0 0,J U 0 0,J I (Wn E) L],V9 (S ⟨t,0,U⟩),.func (.func 158) #[] #[V9 (S ⟨w.heap.size+1+1,0,U⟩)],Z .i32 y.1,Z Y y.2,undef,undef,undef,undef,undef,undef,undef,undef,undef,undef,undef,undef,undef,undef,undef,undef],defers:=[] }) ?assign ?body ?done ?stop
 case assign =>
  intro l y W K hK
  gi_wp2
  exact hK
 case body =>
  rintro l X y W ⟨⟨v,u,A⟩,aa⟩ aU;obtain⟨pv,kv,rfl,_⟩:=dm A.r0;obtain⟨pu,ku,rfl,_⟩:=dm A.r1;obtain⟨c0,c1,c2,cf⟩:=eh A.blk;have ab:=A.lt
  gi_wp2_with (first
  |(gi_at_builtin;refine wpListIn_append_own _ O _ _ 65 O (w.heap.size+1+1) 21 i0 (Z .i32 0) 1 4 underlying65 aq ar au av O (by decide) (J pv (Wn X) kv) _ _ O (A.r0.alloc _) ⟨W.heap.size,0,U⟩ 1 1 [Z .i32 y.1] O O (cell_one_new _ _ _) (by simp[Value.oneCell']) (by unfold maxLen;omega) (by omega) (by simp;omega) ?_;intro v' w1 q r _;obtain⟨g1,aP,rfl⟩:=ownsRow_succ q;obtain⟨b1,b2,r2,s2,l2,m2⟩:=A.half q r;obtain⟨q0,q1,q2,qf⟩:=eh b1;have aV:=qf 0;obtain⟨p0,p1,p2,pf⟩:=eh b2;have aW:=pf 1)
  |(gi_at_builtin;refine wpListIn_append_own _ O _ _ 30 O (w.heap.size+1+1) 2 i1 (Z Y 0) 1 8 underlying30 aw ax ay az O (by decide) (J pu (Wn X) ku) _ _ O (s2.alloc _) ⟨w1.heap.size,0,U⟩ 1 1 [Z Y y.2] O O (Cm _ _ _ _ _) (by simp[Value.oneCell']) (by unfold maxLen;omega) (by omega) (by simp[Wm];omega) ?_;intro u' w2 s z _;obtain⟨g2,aQ,rfl⟩:=ownsRow_succ s;obtain⟨b3,aG⟩:=G2.full (p:=y) (by simp[Wm];omega) b2 r2 s2 s z;obtain⟨e0,e1,e2,ef⟩:=eh b3;have aX:=ef 1))
  exact⟨((Cr A.r0 r _ _).trans (Cr s2 z _ _)).from _,(qS (qS (V3) ab A.r0 r 0 _) (by simp[Wm];omega) s2 z 1 _).mono (by omega),⟨_,_,aG⟩,qS (qS aa ab A.r0 r 0 _) (by simp[Wm];omega) s2 z 1 _⟩
 case done =>
  rintro m ys W hD rfl ⟨⟨v,u,A⟩,aa⟩ hK;obtain⟨pv,kv,rfl,_⟩:=dm A.r0;obtain⟨pu,ku,rfl,_⟩:=dm A.r1;obtain⟨c0,c1,c2,cf⟩:=eh A.blk;have aj:V4 w W:=V.trans (aa.mono (by omega));have M:=de hE aj;have aH:W.heap[w.heap.size]?=S (D #[J U 0 0,J U 0 0,J U 0 0] 68 (0,0)):=(aa.block _ (by omega)).trans aA;have aI:=(Ts.1 hK).1;have ab:=A.lt;have ad:∀k,w.heap.size<=k->S k≠(Value.slice I (Wn E) L).ownBlock:=λk hk e=>by have:=(hE.lt k e.symm).2;omega
  gi_wp2_with (refine⟨trivial,?_⟩;gi_at_call 105;refine(UF.2 (GA B (Wn E) _ E _ O M ao)).mono ?_;rintro e W1 ⟨rfl,b,aJ,C,aK,ak⟩;have aL:=(C.block _ ab (ad _ (by omega))).trans A.blk;obtain⟨k0,k1,k2,kf⟩:=eh aL;have an:=(C.block w.heap.size (by omega) (ad _ (by omega))).trans aH;obtain⟨n0,n1,n2,nf⟩:=eh an;have aY:=nf 0;have aZ:=nf 1;have a1:=nf 2)
  have aM:=(C.block m aI (ad _ (by omega))).trans hK;have a6:=C.size;obtain⟨W2,ag⟩:∃W2,L1 W1 w.heap.size (J pv (Wn ys) kv) (J pu (Wn ys) ku) (J I (Wn E) L)=W2:=⟨_,rfl⟩
  have P:W1.grownBy W2 (S w.heap.size):=by rw[<-ag];exact Dp _ _ _ _ _
  have aN:W2.heap[w.heap.size]?=S (D #[J pv (Wn ys) kv,J pu (Wn ys) ku,J I (Wn E) L] 68 (0,0)):=by rw[<-ag];exact Kx an _ _ _
  have a7:=P.size;have ae:=(P.block m (by omega) (by simp;omega)).trans aM;have aO:=((Vy W2 m (.deferred U)).block w.heap.size (by omega) (by simp;omega)).trans aN;obtain⟨m0,m1,m2,_⟩:=eh aO
  show bodyPostM _ _ _ _ _ _ _ (L1 W1 w.heap.size (J pv (Wn ys) kv) (J pu (Wn ys) ku) (J I (Wn E) L))
  rw[ag];refine⟨by simp,.inl ⟨_,_,O,run_takeDeferred ae,?_⟩⟩;refine⟨dL (J pv (Wn ys) kv) (J pu (Wn ys) ku) (J I (Wn E) L),by simp[results,results67,go_sem,dL,m0,m1,m2],J pv (Wn ys) kv,J pu (Wn ys) ku,b,O,?_,?_,?_,aK,ak,?_⟩
  .exact iu (ownsRow_putObj ((jJ M A.r0 (by decide) C).kept P (.inr (ui (jJ M A.r0 (by decide) C) (by omega)).symm)) _ ae O) (by omega)
  .exact iu (ownsRow_putObj ((jJ M A.r1 (by decide) C).kept P (.inr (ui (jJ M A.r1 (by decide) C) (by omega)).symm)) _ ae O) (by omega)
  .exact ownsRow_putObj (aJ.kept P (.inr (ad _ V2).symm)) _ ae O
  .exact((((aj.mono hB).grown C (by omega) (λk hk=>(M.lt k hk).1)).grown P (by omega) (λk hk=>by cases hk;exact hB))).grown (Vy W2 m _) (by omega) (λk hk=>by cases hk;omega)
 case stop =>
  rintro m c X W _ _ h _;exact h.elim
end
section
abbrev oX:V6:=dL (J U 0 0) (J U 0 0) (J U 0 0)
theorem iZ(a b:Int)(w:V5):V7 prog 61 #[Z Y a,Z Y b] w λe j=>e=Wd (Wb #[oX,Z Y a,Z Y b])/\V4 w j:=by
 go_enter func61,ntmps61;go_wp2;refine Tj (v := Wb #[oX,Z Y a,Z Y b]) (by simp[results,results61,go_sem,dL]) O ⟨O,?_⟩;exact V3.alloc V2 _
def Small(s:V8):Prop := ∀L,Sp.dI s=.ok L->(Sp.vs L (Sp.nv L)).length<=64/\(Sp.es L (Sp.nv L) (Sp.nv L)).length<=256
theorem kr{s:V8}{e:Int × Int}(h:Sp.dI s=.error e):Small s:=λL b=>by rw[h] at b;cases b
def qj(s:V8)(w:V5)(e:Ending)(w':V5):Prop:=pI s w e w'/\Small s
variable {w:V5}
theorem eU{w':V5}(h:ez w)(hb:V4 w w'): ez w':=by
 obtain⟨m,b⟩:=h;exact⟨m,(hb.cell (Tu w _ b)).trans b⟩
def nG(w w':V5):Prop:=V4 w w'/\(N (E w))+1<=N (E w')/\w'.heap[N (E w)]?=S (D #[J U 0 0,J U 0 0,J U 0 0] 68 (0,0))
theorem nG.new(w:V5):nG w (w.alloc (D #[J U 0 0,J U 0 0,J U 0 0] 68)):=⟨V3.alloc V2 _,by simp,UO w _⟩
theorem nG.next{a b:V5}(h:nG w a)(hb:V4 a b): nG w b:=⟨h.1.trans (hb.mono (by have:=h.2.1;omega)),To h.2.1 hb.size,(hb.block _ (by have:=h.2.1;omega)).trans h.2.2⟩
theorem nG.RS{a b:V5}{n:Nat}(h:nG w a)(hb:Below n a b)(e:N (E w)+1<=n): nG w b:=⟨h.1.trans (hb.mono (by omega)),To h.2.1 hb.size,(hb.block _ (by omega)).trans h.2.2⟩
theorem Bo(s:V8)(w:V5)(h:4000<s.size):V7 prog 37 #[H s] w (qj s w):=by
 have r:=cU (sW h);have I:(4000:Int)<(s.size:Int):=by omega
 clear h;go_enter func37,ntmps37;go_wp2_with fail;have u:=nG.new w;refine(iZ 1 0 _).mono ?_;rintro e K ⟨rfl,b⟩;have j:=u.next b
 obtain⟨y,z,A,l⟩:=eh j.2.2;have B:=l 0;have C:=l 1;have F:=l 2;have G:=j.2.1;have m:=j.1;clear b;unfold oX dL;go_wp2;refine Tj (v := Wb #[oX,Z Y 1,Z Y 0]) (by simp[results,results37,go_sem,dL,y,z,A]) O ⟨jn (cT r) ?_,kr (cT r)⟩;exact((m.setCell V2 _).setCell V2 _).setCell V2 _
theorem CN(s:V8)(w:V5)(A:s.size<=4000)(B:Lib.Utf8Tabs 3 4 w)(hS:ez w){i:Nat}(hb:Sp.bad s=S i):V7 prog 37 #[H s] w (qj s w):=by
 have y:=cU (wu (by omega) hb);have C:=cU hb;have V:¬(4000:Int)<(s.size:Int):=by omega
 clear hb;go_enter func37,ntmps37;go_wp2_with fail;have z:=nG.new w;refine(fP s _ A (eN B z.1)).mono ?_;rintro e W ⟨b,j⟩;rw[cT C] at j;obtain rfl:=j;have F:=z.next b
 clear b;go_wp2_with fail;refine(iZ 2 (i:Nat) _).mono ?_;rintro e X ⟨rfl,l⟩;have m:=F.next l
 obtain⟨G,I,K,r⟩:=eh m.2.2;have L:=r 0;have M:=r 1;have Q:=r 2;have R:=m.2.1;have u:=m.1;clear l;unfold oX dL;go_wp2;refine Tj (v := Wb #[oX,Z Y 2,Z Y (i:Nat)]) (by simp[results,results37,go_sem,dL,G,I,K]) O ⟨jn (cT y) ?_,kr (cT y)⟩;exact((u.setCell V2 _).setCell V2 _).setCell V2 _
variable {k:Nat}
theorem BY(s:V8)(w:V5)(B:s.size<=4000)(K:Lib.Utf8Tabs 3 4 w)(hS:ez w)(hb:Sp.bad s=U)(u:Sp.eo (Sp.split s 10) 0 []=.error k): V7 prog 37 #[H s] w (qj s w):=by
 have C:=cU (s9 (by omega) hb u);have F:=cU hb;have L:=cU u;have p:¬(4000:Int)<(s.size:Int):=by omega
 clear hb u;go_enter func37,ntmps37;go_wp2_with fail;have G:=nG.new w;refine(fP s _ B (eN K G.1)).mono ?_;rintro e o ⟨b,j⟩;rw[cT F] at j;obtain rfl:=j;have I:=G.next b
 clear b;go_wp2_with fail;refine(gT s _ B (Sp.nD (cT F)) (eU hS I.1)).mono ?_;rintro e g ⟨l,m⟩;rw[cT L] at m;obtain rfl:=m;have M:=I.next l
 clear l;go_wp2_with fail;refine(iZ 3 (k:Nat) _).mono ?_;rintro e wz ⟨rfl,r⟩;have y:=M.next r
 obtain⟨Q,R,V,z⟩:=eh y.2.2;have W:=z 0;have X:=z 1;have q:=z 2;have t:=y.2.1;have A:=y.1;clear r;unfold oX dL;go_wp2;refine Tj (v := Wb #[oX,Z Y 3,Z Y (k:Nat)]) (by simp[results,results37,go_sem,dL,Q,R,V]) O ⟨jn (cT C) ?_,kr (cT C)⟩;exact((A.setCell V2 _).setCell V2 _).setCell V2 _
variable {P:List (Option Sp.Ln)}
theorem oR{s:V8}(e:s.size<=4000)(h:Sp.eo (Sp.split s 10) 0 []=.ok P): Wn P<=5000:=by
 have b:=Sp.PN _ _ _ _ h;have j:=(Sp.jo s 10).2;simp at b;omega
theorem yB(s:V8)(w:V5)(B:s.size<=4000)(W:Lib.Utf8Tabs 3 4 w)(hS:ez w)(hb:Sp.bad s=U)(A:Sp.eo (Sp.split s 10) 0 []=.ok P)(C:Sp.gv P 0 []=.error k): V7 prog 37 #[H s] w (qj s w):=by
 have M:=cU (vJ (by omega) hb A C);have F:=oR B A;have Q:=cU hb;have X:=cU A;have q:=cU C;have hz:¬(4000:Int)<(s.size:Int):=by omega
 clear hb A C;go_enter func37,ntmps37;go_wp2_with fail;have R:=nG.new w;refine(fP s _ B (eN W R.1)).mono ?_;rintro e w1 ⟨b,j⟩;rw[cT Q] at j;obtain rfl:=j;have V:=R.next b
 clear b;go_wp2_with fail;refine(gT s _ B (Sp.nD (cT Q)) (eU hS V.1)).mono ?_;rintro e w2 ⟨l,m⟩;rw[cT X] at m;obtain⟨v2,rfl,r⟩:=m;obtain⟨t,p,rfl,G⟩:=mE r;have o:=V.next l
 clear l r;go_wp2_with fail;refine(fT t p P _ G F).mono ?_;rintro e w3 ⟨u,y⟩;rw[cT q] at y;obtain rfl:=y;have g:=o.next u
 clear u;go_wp2_with fail;refine(iZ 4 (k:Nat) _).mono ?_;rintro e wz ⟨rfl,z⟩;have I:=g.next z
 obtain⟨n0,n1,n2,K⟩:=eh I.2.2;have aa:=K 0;have ab:=K 1;have ad:=K 2;have ae:=I.2.1;have L:=I.1;clear z;unfold oX dL;go_wp2;refine Tj (v := Wb #[oX,Z Y 4,Z Y (k:Nat)]) (by simp[results,results37,go_sem,dL,n0,n1,n2]) O ⟨jn (cT M) ?_,kr (cT M)⟩;exact((L.setCell V2 _).setCell V2 _).setCell V2 _
variable {T:Sp.Tb}
theorem A0(s:V8)(w:V5)(L:s.size<=4000)(hT:Lib.Utf8Tabs 3 4 w)(hS:ez w)(hb:Sp.bad s=U)(K:Sp.eo (Sp.split s 10) 0 []=.ok P)(M:Sp.gv P 0 []=.ok T)(he:Sp.ge T P 0 []=.error k): V7 prog 37 #[H s] w (qj s w):=by
 have X:=cU (yi (by omega) hb K M he);have l:=oR L K;have q:=cU hb;have HL:=cU K;have HV:=cU M;have HE:=cU he;have hz:¬(4000:Int)<(s.size:Int):=by omega
 clear hb K M he;go_enter func37,ntmps37;go_wp2_with fail;have t:=nG.new w;refine(fP s _ L (eN hT t.1)).mono ?_;rintro e w1 ⟨m,r⟩;rw[cT q] at r;obtain rfl:=r;have p:=t.next m
 clear m;go_wp2_with fail;refine(gT s _ L (Sp.nD (cT q)) (eU hS p.1)).mono ?_;rintro e w2 ⟨u,y⟩;rw[cT HL] at y;obtain⟨v2,rfl,z⟩:=y;obtain⟨o,g,rfl,b⟩:=mE z;have R2:=p.next u
 clear u z;go_wp2_with fail;refine(fT o g P _ b l).mono ?_;rintro e w3 ⟨j,A⟩;rw[cT HV] at A;obtain⟨rfl,B,Q,aa⟩:=A;have R3:=R2.next j
 have C:=b.below j;clear b j;go_wp2_with fail;refine(iT o g (N (E w2)) _ P T _ C l B Q (by omega)).mono ?_;rintro e w4 ⟨F,G⟩;rw[cT HE] at G;obtain rfl:=G;have R4:=R3.next F
 clear F;go_wp2_with fail;refine(iZ 5 (k:Nat) _).mono ?_;rintro e wz ⟨rfl,I⟩;have R:=R4.next I
 obtain⟨n0,n1,n2,V⟩:=eh R.2.2;have ab:=V 0;have ad:=V 1;have ae:=V 2;have af:=R.2.1;have W:=R.1;clear I;unfold oX dL;go_wp2;refine Tj (v := Wb #[oX,Z Y 5,Z Y (k:Nat)]) (by simp[results,results37,go_sem,dL,n0,n1,n2]) O ⟨jn (cT X) ?_,kr (cT X)⟩;exact((W.setCell V2 _).setCell V2 _).setCell V2 _
theorem yy(s:V8)(w:V5)(R:s.size<=4000)(hT:Lib.Utf8Tabs 3 4 w)(hS:ez w)(hb:Sp.bad s=U)(Q:Sp.eo (Sp.split s 10) 0 []=.ok P)(V:Sp.gv P 0 []=.ok T){E:List Sp.Ed}(he:Sp.ge T P 0 []=.ok E)(p:64<Wn T): V7 prog 37 #[H s] w (qj s w):=by
 have o:=cU (pE (by omega) hb Q V he);have z:=oR R Q;have g:=cU hb;have HL:=cU Q;have HV:=cU V;have HE:=cU he;have HP:Hid (Sp.dI s=.error (6,0)):=by
  show _=_
  rw[(cT o).spec,Tg (Or.inr (by rw[<-(cT o).tl];exact p))]
 have ab:(64:Int)<(Wn T:Int):=by omega
 clear p;have hz:¬(4000:Int)<(s.size:Int):=by omega
 clear hb Q V he;go_enter func37,ntmps37;go_wp2_with fail;have R0:=nG.new w;refine(fP s _ R (eN hT R0.1)).mono ?_;rintro e w1 ⟨A,B⟩;rw[cT g] at B;obtain rfl:=B;have R1:=R0.next A
 clear A;go_wp2_with fail;refine(gT s _ R (Sp.nD (cT g)) (eU hS R1.1)).mono ?_;rintro e w2 ⟨C,F⟩;rw[cT HL] at F;obtain⟨v2,rfl,G⟩:=F;obtain⟨p2,c2,rfl,l⟩:=mE G;have R2:=R1.next C
 clear C G;go_wp2_with fail;refine(fT p2 c2 P _ l z).mono ?_;rintro e w3 ⟨m,I⟩;rw[cT HV] at I;obtain⟨rfl,b,W,ad⟩:=I;have R3:=R2.next m
 have j:=l.below m;clear l m;go_wp2_with fail;refine(iT p2 c2 w2.heap.size _ P T _ j z b W (by omega)).mono ?_;rintro e w4 ⟨r,K⟩;rw[cT HE] at K;obtain⟨v4,rfl,u,ae⟩:=K;obtain⟨p4,c4,rfl,_⟩:=dm u;have R4:=R3.next r
 have y:=b.below r;have aa:=iu u R3.2.1;clear j r b u;go_wp2_with fail;refine(vM _ _ T _ y).mono ?_;rintro e w5 ⟨rfl,L⟩;obtain rfl:=L.symm;clear L;go_wp2_with fail;refine(iZ 6 0 _).mono ?_;rintro e wz ⟨rfl,M⟩;have X:=R4.next M
 obtain⟨n0,n1,n2,q⟩:=eh X.2.2;have af:=q 0;have ag:=q 1;have ah:=q 2;have ai:=X.2.1;have t:=X.1;clear M;unfold oX dL;go_wp2;refine Tj (v := Wb #[oX,Z Y 6,Z Y 0]) (by simp[results,results37,go_sem,dL,n0,n1,n2]) O ⟨jn (cT HP) ?_,kr (cT HP)⟩;exact((t.setCell V2 _).setCell V2 _).setCell V2 _
theorem yQ(s:V8)(w:V5)(R:s.size<=4000)(hT:Lib.Utf8Tabs 3 4 w)(hS:ez w)(hb:Sp.bad s=U)(Q:Sp.eo (Sp.split s 10) 0 []=.ok P)(V:Sp.gv P 0 []=.ok T){E:List Sp.Ed}(he:Sp.ge T P 0 []=.ok E)(l:¬64<Wn T)(hm:256<Wn E): V7 prog 37 #[H s] w (qj s w):=by
 have p:=cU (pE (by omega) hb Q V he);have A:=oR R Q;have o:=cU hb;have HL:=cU Q;have HV:=cU V;have HE:=cU he;have g:Hid (Sp.dI s=.error (6,0)):=by
  show _=_
  rw[(cT p).spec,Tg (Or.inl (by rw[<-(cT p).el];exact hm))]
 have aa:¬(64:Int)<(Wn T:Int):=by omega
 have ad:(256:Int)<(Wn E:Int):=by omega
 have hz:¬(4000:Int)<(s.size:Int):=by omega
 clear hb Q V he;go_enter func37,ntmps37;go_wp2_with fail;have R0:=nG.new w;refine(fP s _ R (eN hT R0.1)).mono ?_;rintro e w1 ⟨B,l⟩;rw[cT o] at l;obtain rfl:=l;have R1:=R0.next B
 clear B;go_wp2_with fail;refine(gT s _ R (Sp.nD (cT o)) (eU hS R1.1)).mono ?_;rintro e w2 ⟨C,F⟩;rw[cT HL] at F;obtain⟨v2,rfl,G⟩:=F;obtain⟨p2,c2,rfl,m⟩:=mE G;have R2:=R1.next C
 clear C G;go_wp2_with fail;refine(fT p2 c2 P _ m A).mono ?_;rintro e w3 ⟨r,I⟩;rw[cT HV] at I;obtain⟨rfl,b,W,ae⟩:=I;have R3:=R2.next r
 have j:=m.below r;clear m r;go_wp2_with fail;refine(iT p2 c2 w2.heap.size _ P T _ j A b W (by omega)).mono ?_;rintro e w4 ⟨u,K⟩;rw[cT HE] at K;obtain⟨v4,rfl,y,af⟩:=K;obtain⟨p4,c4,rfl,_⟩:=dm y;have R4:=R3.next u
 have z:=b.below u;have ab:=iu y R3.2.1;clear j u b y;go_wp2_with fail;refine(vM _ _ T _ z).mono ?_;rintro e w5 ⟨rfl,L⟩;obtain rfl:=L.symm;clear L;go_wp2_with fail;refine(iZ 6 0 _).mono ?_;rintro e wz ⟨rfl,M⟩;have X:=R4.next M
 obtain⟨n0,n1,n2,q⟩:=eh X.2.2;have ag:=q 0;have ah:=q 1;have ai:=q 2;have aj:=X.2.1;have t:=X.1;clear M;unfold oX dL;go_wp2;refine Tj (v := Wb #[oX,Z Y 6,Z Y 0]) (by simp[results,results37,go_sem,dL,n0,n1,n2]) O ⟨jn (cT g) ?_,kr (cT g)⟩;exact((t.setCell V2 _).setCell V2 _).setCell V2 _
theorem GD(s:V8)(w:V5)(hs:s.size<=4000)(hT:Lib.Utf8Tabs 3 4 w)(hS:ez w)(hb:Sp.bad s=U)(hl:Sp.eo (Sp.split s 10) 0 []=.ok P)(hv:Sp.gv P 0 []=.ok T){E:List Sp.Ed}(he:Sp.ge T P 0 []=.ok E)(z:¬64<Wn T)(A:¬256<Wn E): V7 prog 37 #[H s] w (qj s w):=by
 have r:=cU (pE (by omega) hb hl hv he);have M:=oR hs hl;have HB:=cU hb;have HL:=cU hl;have HV:=cU hv;have HE:=cU he;have HP:Hid (Sp.dI s=.ok (Sp.dH P)):=by
  show _=_
  rw[(cT r).spec,Tf (by rw[<-(cT r).el,<-(cT r).tl];omega)]
 have aj:¬(64:Int)<(Wn T:Int):=by omega
 have ak:¬(256:Int)<(Wn E:Int):=by omega
 have hz:¬(4000:Int)<(s.size:Int):=by omega
 clear hb hl hv he;go_enter func37,ntmps37;go_wp2_with fail;have R0:=nG.new w;refine(fP s _ hs (eN hT R0.1)).mono ?_;rintro e w1 ⟨Q,z⟩;rw[cT HB] at z;obtain rfl:=z;have R1:=R0.next Q
 clear Q;go_wp2_with fail;refine(gT s _ hs (Sp.nD (cT HB)) (eU hS R1.1)).mono ?_;rintro e w2 ⟨R,A⟩;rw[cT HL] at A;obtain⟨v2,rfl,W⟩:=A;obtain⟨p2,c2,rfl,C⟩:=mE W;have R2:=R1.next R
 clear R W;go_wp2_with fail;refine(fT p2 c2 P _ C M).mono ?_;rintro e w3 ⟨F,X⟩;rw[cT HV] at X;obtain⟨rfl,l,ag,an⟩:=X;have R3:=R2.next F
 have u:=C.below F;clear C F;go_wp2_with fail;refine(iT p2 c2 w2.heap.size _ P T _ u M l ag (by omega)).mono ?_;rintro e w4 ⟨G,q⟩;rw[cT HE] at q;obtain⟨v4,rfl,I,ao⟩:=q;obtain⟨p4,c4,rfl,_⟩:=dm I;have R4:=R3.next G
 have m:=l.below G;have t:=iu I R3.2.1;clear u G l I;go_wp2_with fail;refine(vM _ _ T _ m).mono ?_;rintro e w5 ⟨rfl,p⟩;obtain rfl:=p.symm;clear p;go_wp2_with fail;refine(wQ _ (w.heap.size+1) _ _ T E _ m (by omega) t (by omega) R4.2.1).mono ?_;rintro e w6 ⟨v6,u6,b,rfl,o,g,ah,aa,y,ab⟩;have R6:=R4.RS ab V2;obtain⟨pv,kv,rfl,_⟩:=dm o;obtain⟨pu,ku,rfl,_⟩:=dm g;obtain⟨n0,n1,n2,nf⟩:=eh R6.2.2;have aq:=nf 0;have ar:=nf 1;have au:=nf 2;have av:=R6.2.1;have ai:=R6.1;have ad:=cU aa;have ae:=cU y;clear ab aa y;unfold dL;go_wp2;have K:=Sp.NW (cT r).me (cT r).SE;have hY:b=Sp.es (Sp.dH P) (Sp.nv (Sp.dH P)) (Sp.nv (Sp.dH P)):=M0 (cT r).me (cT r).SE (cT r).lo (by rw[<-(cT r).eq];exact cT ad) (by rw[<-(cT r).eq];exact cT ae);have af:Wn E=Wn b:=(cT ad).1.symm;have j:w.heap.size<w.heap.size+1:=Nat.lt_succ_self _;refine Tj (v := Wb #[dL (J pv (Wn T) kv) (J pu (Wn T) ku) (J p4 (Wn E) c4),Z Y 0,Z Y 0]) (by simp[results,results37,go_sem,dL,n0,n1,n2]) O ?_;refine⟨?_,λL hL=>by rw[cT HP] at hL;injection hL with hL;subst hL;refine⟨?_,by rw[<-hY,<-af];omega⟩;have h1:=congrArg List.length K;simp at h1;omega⟩;refine FT (N:=T.map (·.1)) (V:=T.map (·.2)) (cT HP) O (((ai.setCell V2 _).setCell V2 _).setCell V2 _) (by rw[<-K];simp) (by rw[<-K];simp) ?_ ?_ ?_
 .have h:=iu (B:=w.heap.size) (TA (TA (TA o (a:=⟨w.heap.size,0,U⟩) j (J pv (Wn T) kv)) (a:=⟨w.heap.size,1,U⟩) j (J pu (Wn T) ku)) (a:=⟨w.heap.size,2,U⟩) j (J p4 (Wn E) c4)) (Uh _);simpa [List.map_map,Function.comp_def] using h
 .have h:=iu (B:=w.heap.size) (TA (TA (TA g (a:=⟨w.heap.size,0,U⟩) j (J pv (Wn T) kv)) (a:=⟨w.heap.size,1,U⟩) j (J pu (Wn T) ku)) (a:=⟨w.heap.size,2,U⟩) j (J p4 (Wn E) c4)) (Uh _);simpa [List.map_map,Function.comp_def] using h
 .have h:=iu (B:=w.heap.size) (TA (TA (TA ah (a:=⟨w.heap.size,0,U⟩) j (J pv (Wn T) kv)) (a:=⟨w.heap.size,1,U⟩) j (J pu (Wn T) ku)) (a:=⟨w.heap.size,2,U⟩) j (J p4 (Wn E) c4)) (Uh _);rw[<-hY,<-af];exact h
theorem qE(s:V8)(w:V5)(e:Lib.Utf8Tabs 3 4 w)(hS:ez w):V7 prog 37 #[H s] w (qj s w):=by
 by_cases r:4000<s.size
 .exact Bo s w r
 .cases hb:Sp.bad s with
  |some i=>exact CN s w (by omega) e hS hb
  |none =>
   cases hl:Sp.eo (Sp.split s 10) 0 [] with
   |error k=>exact BY s w (by omega) e hS hb hl
   |ok P =>
    cases j:Sp.gv P 0 [] with
    |error k=>exact yB s w (by omega) e hS hb hl j
    |ok T =>
     cases he:Sp.ge T P 0 [] with
     |error k=>exact A0 s w (by omega) e hS hb hl j he
     |ok b =>
      by_cases l:64<Wn T
      .exact yy s w (by omega) e hS hb hl j he l
      .by_cases m:256<Wn b
       .exact yQ s w (by omega) e hS hb hl j he l m
       .exact GD s w (by omega) e hS hb hl j he l m
end
theorem D7(s:V8)(w:V5)(X:Lib.Utf8Tabs 3 4 w)(hS:ez w):V7 prog 28 #[H s] w (qj s w):=by
 have B:=nG.new w;cases F:Sp.dI s with
 |error q =>
  obtain⟨a,b⟩:=q;have C:=cU F;clear F;go_enter func28,ntmps28;go_wp2_with fail;refine(qE s _ (eN X B.1) (eU hS B.1)).mono ?_;rintro e t ⟨⟨l,m⟩,r⟩;rw[cT C] at m;obtain rfl:=m;have y:=B.next l
  obtain⟨G,I,K,z⟩:=eh y.2.2;have M:=z 0;have P:=z 1;have Q:=z 2;have R:=y.2.1;have A:=y.1;clear l;unfold dL;go_wp2;refine Tj (v := Wb #[oX,Z Y a,Z Y b]) (by simp[results,results28,go_sem,dL,G,I,K]) O ⟨jn (cT C) ?_,r⟩;exact((A.setCell V2 _).setCell V2 _).setCell V2 _
 |ok L =>
  have C:=cU F;clear F;go_enter func28,ntmps28;go_wp2_with fail;refine(qE s _ (eN X B.1) (eU hS B.1)).mono ?_;rintro e t ⟨⟨l,m⟩,r⟩;rw[cT C] at m;obtain⟨v,u,x,rfl,T,V,W⟩:=m;have y:=B.next l
  obtain⟨p,o,rfl,_⟩:=dm T;obtain⟨g,ku,rfl,_⟩:=dm V;obtain⟨px,kx,rfl,_⟩:=dm W;obtain⟨G,I,K,z⟩:=eh y.2.2;have M:=z 0;have P:=z 1;have Q:=z 2;have R:=y.2.1;have A:=y.1;clear l;rw[TK] at T V W;unfold dL;go_wp2;have j:N (E w)<N (E w)+1:=Nat.lt_succ_self _;refine Tj (v := Wb #[dL (J p (Sp.vs L (Sp.nv L)).length o) (J g (Sp.vs L (Sp.nv L)).length ku) (J px (Sp.es L (Sp.nv L) (Sp.nv L)).length kx),Z Y 0,Z Y 0]) (by simp[results,results28,go_sem,dL,G,I,K]) O ?_;refine⟨?_,r⟩;refine⟨((A.setCell V2 _).setCell V2 _).setCell V2 _,?_⟩;rw[cT C];exact⟨_,_,_,O,iu (TA (TA (TA T (a:=⟨N (E w),0,U⟩) j _) (a:=⟨N (E w),1,U⟩) j _) (a:=⟨N (E w),2,U⟩) j _) (Uh _),
   iu (TA (TA (TA V (a:=⟨N (E w),0,U⟩) j _) (a:=⟨N (E w),1,U⟩) j _) (a:=⟨N (E w),2,U⟩) j _) (Uh _),
   iu (TA (TA (TA W (a:=⟨N (E w),0,U⟩) j _) (a:=⟨N (E w),1,U⟩) j _) (a:=⟨N (E w),2,U⟩) j _) (Uh _)⟩
end Go.Proofs.YtgkkdpegcieakaaGreatDoor
