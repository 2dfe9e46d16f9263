import Derived.Test.YtgkkdpegcieakaaGreatDoorCw26
set_option linter.all false
set_option maxRecDepth 100000
set_option maxHeartbeats 16000000
namespace Go.Proofs.YtgkkdpegcieakaaGreatDoor
open Go.Proofs.Tryz
open Value renaming int→Z,slice→J,string→H,pointer→WV,tuple→WX
open Ending renaming returned→WZ
open Obj renaming cells→D
open Option renaming none→U,some→S
open List renaming length→Xg
open _root_.Array renaming size→K
open World renaming cell?→Xc,setCell→Xf,heap→E
open IntKind renaming i64→Y
open Go renaming World→WR,Value→WS,Calls→WT
open Go.RowKit
section
theorem zA{b:List Sp.Ed}(h:Ord b 0 (Xg b)):b.Pairwise Sp.iF:=by
 rw[WK];intro i j hi l e;exact h i j _ _ (Ud _) e l (Uk hi) (Uk l)
variable {T:Sp.Tb}
theorem N6{L:List Sp.Ln}{b:List Sp.Ed}(l:Sp.di T)(m:T.Perm (Sp.fV L))(r:Sp.first (Sp.loose L) (Xg L)=U)(e:St (Sp.gj L L) b)(u:Ord b 0 (Sp.gj L L).length): b=Sp.es L (Sp.nv L) (Sp.nv L):=by
 refine Sp.SH (zA (by rw[e.1];exact u)) ?_ e.2;intro x y;have j:x∈b.filter (Sp.isKey x.dj x.cR):=VE.2 ⟨y,by simp[Sp.isKey]⟩;rw[e.2] at j;exact Sp.QA l m r x (VE.1 j).1
variable {s:WU}
theorem sP(h:4000<s.size): Sp.dI s=.error (1,0):=by
 unfold Sp.dI Sp.oG;rw[T0 h]
theorem vS(h:¬4000<s.size){i:Nat}(hb:Sp.bad s=S i): Sp.dI s=.error (2,(i:Int)):=by
 unfold Sp.dI Sp.oG;rw[TZ h,hb]
variable {k:Nat}
theorem tn(h:¬4000<s.size)(hb:Sp.bad s=U)(b:Sp.eg (Sp.split s 10) 0 []=.error k): Sp.dI s=.error (3,(k:Int)):=by
 unfold Sp.dI Sp.oG;rw[TZ h,hb];simp only;rw[Sp.BD,b]
variable {P:List (Option Sp.Ln)}
theorem pz(h:¬4000<s.size)(hb:Sp.bad s=U)(b:Sp.eg (Sp.split s 10) 0 []=.ok P): Sp.dI s=if (Sp.gV (Sp.dH P) (Sp.dT P 0)).1=0 then .ok (Sp.dH P) else .error (Sp.gV (Sp.dH P) (Sp.dT P 0)):=by
 unfold Sp.dI Sp.oG;rw[TZ h,hb];simp only;rw[Sp.BD,b]
theorem LP(P:List (Option Sp.Ln)):(∃i,Sp.first (Sp.kJ (Sp.dH P)) (Sp.dH P).length=S i/\Sp.gv P 0 []=.error ((Sp.dT P 0).getD i 0))\/
  (Sp.first (Sp.kJ (Sp.dH P)) (Sp.dH P).length=U/\∃b,Sp.gv P 0 []=.ok b/\Sp.di b/\b.Perm (Sp.fV (Sp.dH P))):=by
 have h:=Sp.NJ P [] [] (by simp[Sp.di]) (by simp[Sp.dH,Sp.fV]) (λi hi=>by simp[Sp.dH] at hi);simpa using h
theorem Oo(b:T.Perm (Sp.fV (Sp.dH P))):(∃i,Sp.first (Sp.loose (Sp.dH P)) (Sp.dH P).length=S i/\Sp.ge T P 0 []=.error ((Sp.dT P 0).getD i 0))\/
  (Sp.first (Sp.loose (Sp.dH P)) (Sp.dH P).length=U/\Sp.ge T P 0 []=.ok (Sp.gj (Sp.dH P) (Sp.dH P))):=by
 have h:=Sp.Np T (Sp.dH P) b P [] (by simp) (λi hi=>by simp[Sp.dH] at hi);simpa [Sp.dH,Sp.gj] using h
theorem vQ(h:¬4000<s.size)(hb:Sp.bad s=U)(l:Sp.eg (Sp.split s 10) 0 []=.ok P)(e:Sp.gv P 0 []=.error k): Sp.dI s=.error (4,(k:Int)):=by
 rw[pz h hb l];rcases LP P with ⟨i,j,b⟩|⟨j,T,b,_⟩
 .rw[e] at b;injection b with b;have m:Sp.gV (Sp.dH P) (Sp.dT P 0)=(4,(k:Int)):=by unfold Sp.gV;rw[j];simp only;rw[<-b]
  rw[m];rfl
 .rw[e] at b;cases b
theorem yn(h:¬4000<s.size)(hb:Sp.bad s=U)(r:Sp.eg (Sp.split s 10) 0 []=.ok P)(j:Sp.gv P 0 []=.ok T)(he:Sp.ge T P 0 []=.error k): Sp.dI s=.error (5,(k:Int)):=by
 rw[pz h hb r];rcases LP P with ⟨i,l,b⟩|⟨l,z,b,_,u⟩
 .rw[j] at b;cases b
 .rw[j] at b;injection b with b;subst b;rcases Oo u with ⟨i,m,e⟩|⟨m,e⟩
  .rw[he] at e;injection e with e;have y:Sp.gV (Sp.dH P) (Sp.dT P 0)=(5,(k:Int)):=by unfold Sp.gV;rw[l];simp only;rw[m];simp only;rw[<-e]
   rw[y];rfl
  .rw[he] at e;cases e
structure Tu (s:WU) (P:List (Option Sp.Ln)) (T:Sp.Tb) (E:List Sp.Ed):Prop where
 me:Sp.di T
 Te:T.Perm (Sp.fV (Sp.dH P))
 tl:Xg T=Sp.nv (Sp.dH P)
 eq:E=Sp.gj (Sp.dH P) (Sp.dH P)
 el:Xg E=Sp.oM (Sp.dH P)
 lo:Sp.first (Sp.loose (Sp.dH P)) (Sp.dH P).length=U
 spec:Sp.dI s=if 256<Sp.oM (Sp.dH P)\/64<Sp.nv (Sp.dH P) then .error (6,0) else .ok (Sp.dH P)
theorem pI(h:¬4000<s.size)(hb:Sp.bad s=U)(u:Sp.eg (Sp.split s 10) 0 []=.ok P)(m:Sp.gv P 0 []=.ok T){E:List Sp.Ed}(he:Sp.ge T P 0 []=.ok E): Tu s P T E:=by
 rcases LP P with ⟨i,r,e⟩|⟨r,z,e,hS,j⟩
 .rw[m] at e;cases e
 .rw[m] at e;injection e with e;subst e;rcases Oo j with ⟨i,l,b⟩|⟨l,b⟩
  .rw[he] at b;cases b
  .rw[he] at b;injection b with b;refine⟨hS,j,by rw[j.length_eq,Sp.tq],b,by rw[b,Sp.Ie],l,?_⟩;rw[pz h hb u];have y:Sp.gV (Sp.dH P) (Sp.dT P 0)=if 256<Sp.oM (Sp.dH P)\/64<Sp.nv (Sp.dH P) then (6,0) else (0,0):=by unfold Sp.gV;rw[r];simp only;rw[l];rfl
   rw[y];by_cases c:256<Sp.oM (Sp.dH P)\/64<Sp.nv (Sp.dH P)
   .rw[T0 c,T0 c];rfl
   .rw[TZ c,TZ c];rfl
end
section
open Go.RowKit Go.Shelf
attribute [local go_sem] Oper.semAt_some
theorem qw(F:Fence)(n:Nat)(j:F.fn 104)(b:F.round=U)(p0:Option Addr)(w:WR):CallsIn F n prog 104 #[WV p0] w λe l=>e=WZ (.func (.func 158) #[] #[WV (S ⟨K (E w),0,U⟩)])/\l=w.alloc (D #[WV p0] 139):=by
 refine callsIn_of_wp func104 O j ?_ b;simp only[ntmps104,VD,Uf,Vl,Nat.reduceAdd,Nat.reduceSub,VJ,VK,VL,VM,U2,UM]
 gi_wp2
 go_ret;exact⟨O,O⟩
theorem rC(F:Fence)(n:Nat)(h8:F.fn 158)(M:F.round=U)(hn:1<=n)(l V t L:Nat)(p:Option Addr)(cap:Nat)(T:Sp.Tb)(hl:Xg T<=100000)(b X:List (Int × Int)->WR->Prop)(hY:∀m x W,b m W->Xg m<Xg T->YieldAt F (n-1) prog l #[Z .i32 x.1,Z Y x.2] W λe B => (e=WZ (.bool true)/\b (m++[x]) B/\Below L W B)\/(e=WZ (.bool false)/\X (m++[x]) B))(W:WR)(N:L<=K (E W))(P:AbidesFrom (K (E W)) b)(ab:W.cell? ⟨V,0,U⟩=S (WV (S ⟨t,0,U⟩)))(ht:W.cell? ⟨t,0,U⟩=S (J p (Xg T) cap))(hc:∀j (hj:j<Xg T),∃g,p=S ⟨g,0,U⟩/\g<L/\W.cell? ⟨g,j*2,U⟩=S (Z .i32 T[j].1)/\W.cell? ⟨g,j*2+1,U⟩=S (Z Y T[j].2))(h0:b [] W):CallsIn F n prog 158 #[.func (.yield l) #[] #[],WV (S ⟨V,0,U⟩)] W λe B=>(∃v,e=WZ v)/\
   ((∃q,q=T/\b q B)\/(∃m,m <+: T/\X m B)):=by
 refine callsIn_of_wp func158 O h8 ?_ M;simp only[ntmps158,VD,Uf,Vl,Nat.reduceAdd,Nat.reduceSub,VJ,VK,VL,VM,U2,UM]
 gi_wp2
 gi_loopw [10] (λi wr=>∃k:Nat,k<=Xg T/\i=Z Y k/\Hid (b (T.take k) wr)/\Below L W wr)
  (λi _=>Xg T-(intOf i).toNat)
 case atStart=>exact⟨0,Ud _,rfl,h0,T4 _ _⟩
 case round =>
  obtain⟨k,hk,rfl,s,u⟩:=hrel;by_cases z:k<Xg T
  .obtain⟨g,rfl,o,c0,c1⟩:=hc k z;have d0:=(u.cell (p:=⟨g,k*2,U⟩) o).trans c0;have d1:=(u.cell (p:=⟨g,k*2+1,U⟩) o).trans c1;have C:(k:Int)<(Xg T:Int):=by omega
   obtain⟨x,Q⟩:∃x,T[k]=x:=⟨_,rfl⟩
   rw[Q] at d0 d1;have HX:=cT Q;clear Q c0 c1;have G:b (T.take k) (wr.alloc (D #[Z .i32 x.1,Z Y x.2] 265)):=P _ _ _ U (cS s) (World.grownBy_alloc _ _ U) (λr e=>by cases e);obtain⟨fn,aa,assign,body,hy,hR⟩:=hY _ x _ G (by rw[Vj];omega);clear G
   gi_wp2
   refine hR.mono ?_;rintro e W3 (⟨rfl,I,R⟩|⟨rfl,y⟩)
   .have A:=cT I;clear I
    gi_wp2
    go_roundw
    case rel=>exact⟨k+1,by omega,by go_num,by show b _ _;rw[Vf z,cS HX];exact cS A,u.trans ((WO.alloc (Uc N u.size) _).trans R)⟩
    case measure=>simp[intOf];omega
   .have A:=cT y;clear y
    gi_wp2
    refine T8 (Ua O _ _ _) O ?_;exact⟨⟨_,O⟩,.inr ⟨_,⟨T.drop (k+1),by rw[<-cS HX,<-Vf z,U7]⟩,cS A⟩⟩
  .have C:¬(k:Int)<(Xg T:Int):=by omega
   obtain rfl:k=Xg T:=by omega
   gi_wp2
   go_end0
   exact⟨⟨_,O⟩,.inl (by have h:=cS s;simpa using h)⟩
theorem kI(F:Fence)(n:Nat)(M:F.fn 158)(A:F.round=U)(N:1<=n)(r t z:Nat)(p:Option Addr)(cap:Nat)(T:Sp.Tb)(P:Xg T<=100000)(w:WR)(u:r<K (E w))(m:z<=K (E w))(B:t<K (E w))(C:w.cell? ⟨r,0,U⟩=S (WV (S ⟨t,0,U⟩)))(ht:w.cell? ⟨t,0,U⟩=S (J p (Xg T) cap))(Q:∀j (L:j<Xg T),∃g,p=S ⟨g,0,U⟩/\g<z/\w.cell? ⟨g,j*2,U⟩=S (Z .i32 T[j].1)/\w.cell? ⟨g,j*2+1,U⟩=S (Z Y T[j].2)):SeqStopsK F n prog 158 #[WV (S ⟨r,0,U⟩)] (λx:Int × Int=>#[Z .i32 x.1,Z Y x.2]) (Below z) (λR=>R=T) (λG=>G <+: T) (Xg T) w:=λl b V W y X _ k q =>
 rC F n M A N l r t z p cap T P b V k W (Uc m y.size) X ((y.cell (p:=⟨r,0,U⟩) u).trans C) ((y.cell (p:=⟨t,0,U⟩) B).trans ht)
  (λj L=>by obtain⟨g,e,I,i,h⟩:=Q j L;exact⟨g,e,I,(y.cell (p:=⟨g,j*2,U⟩) (Ux I m)).trans i,(y.cell (p:=⟨g,j*2+1,U⟩) (Ux I m)).trans h⟩) q
end
section
open Go.RowKit Go.Shelf
attribute [local go_sem] Oper.semAt_some
structure G2 (w:WR) (G:Nat) (v u x:WS) (T:List (Int × Int)):Prop where
 lt:G<K (E w)
 blk:w.heap[G]?=S (D #[v,u,x] 68 (0,0))
 r0:w.ownsRow (G+1) 21 1 v (Xg T) (T.map λp=>Z .i32 p.1)
 r1:w.ownsRow (G+1) 2 1 u (Xg T) (T.map λp=>Z Y p.2)
variable {v u x:WS}{w:WR}{G t:Nat}
theorem dZ(h:w.heap[G]?=S (D #[v,u,x] t (0,0))): w.cell? ⟨G,0,U⟩=S v/\w.cell? ⟨G,1,U⟩=S u/\w.cell? ⟨G,2,U⟩=S x/\∀j,w.frozen? ⟨G,j,U⟩=false:=by
 refine⟨by simp[Xc,h],by simp[Xc,h],by simp[Xc,h],λj=>by simp[World.frozen?,h]⟩
theorem yj(h:w.heap[G]?=S (D #[v,u,x] t (0,0)))(v':WS): (w.setCell ⟨G,0,U⟩ v').heap[G]?=S (D #[v',u,x] t (0,0)):=by
 obtain⟨b,j⟩:=Ug.1 h
 show (w.heap.modify G _)[G]?=_
 rw[Array.getElem?_eq_getElem (by rw[Array.size_modify];exact b),Array.getElem_modify_self,j]
 rfl
theorem xR(h:w.heap[G]?=S (D #[v,u,x] t (0,0)))(v':WS): (w.setCell ⟨G,1,U⟩ v').heap[G]?=S (D #[v,v',x] t (0,0)):=by
 obtain⟨b,j⟩:=Ug.1 h
 show (w.heap.modify G _)[G]?=_
 rw[Array.getElem?_eq_getElem (by rw[Array.size_modify];exact b),Array.getElem_modify_self,j]
 rfl
variable {size e:Nat}{xs:List WS}
theorem qh{X b:WR}{j:Option Nat}{base k:Nat}(y:X.ownsRow base e size v k xs)(A:X.grownBy b j)(l:∀r,j=S r->∃o:Obj,X.heap[r]?=S o/\o.isCells=false): b.ownsRow base e size v k xs:=by
 refine y.kept A ?_;rcases y.2 with ⟨rfl,_⟩|⟨g,B,C,rfl,_,m,_⟩
 .exact .inl O
 .refine .inr λF=>?_
  obtain⟨o,z,I⟩:=l g (by simpa [Value.ownBlock] using F.symm);rw[m] at z;cases z;cases I
variable {T:List (Int × Int)}
theorem G2.qJ{X b:WR}{l:Option Nat}(h:G2 X G v u x T)(m:X.grownBy b l)(j:∀r,l=S r->∃o:Obj,X.heap[r]?=S o/\o.isCells=false): G2 b G v u x T:=by
 have y:S G≠l:=λe=>by obtain⟨o,z,A⟩:=j G e.symm;rw[h.blk] at z;cases z;cases A
 exact⟨Ux h.lt m.size,(m.block G h.lt y).trans h.blk,qh h.r0 m j,qh h.r1 m j⟩
theorem G2.own(G:Nat)(x:WS):Own (λ(T:List (Int × Int)) W=>∃v u,G2 W G v u x T):=by
 rintro s X b l ⟨v,u,h⟩ m j;exact⟨v,u,h.qJ m j⟩
variable {n:Nat}
theorem uo{B:Nat}(h:w.ownsRow B e size v n xs)(b:G<B): S G≠v.ownBlock:=λe=>by have:=(h.lt G e.symm).1;omega
variable {o:Obj}{w1:WR}
theorem G2.half{v':WS}{a:Int}(h:G2 w G v u x T)(m:w1.ownsRow (G+1) 21 1 v' (Xg T+1) ((T.map λp=>Z .i32 p.1)++[Z .i32 a]))(b:(w.alloc o).grownBy w1 v.ownBlock):w1.heap[G]?=S (D #[v,u,x] 68 (0,0))/\(w1.setCell ⟨G,0,U⟩ v').heap[G]?=S (D #[v',u,x] 68 (0,0))/\
  (w1.setCell ⟨G,0,U⟩ v').ownsRow (G+1) 21 1 v' (Xg T+1) ((T.map λp=>Z .i32 p.1)++[Z .i32 a])/\
  (w1.setCell ⟨G,0,U⟩ v').ownsRow (G+1) 2 1 u (Xg T) (T.map λp=>Z Y p.2)/\G<K (E w1)/\(K (E w))+1<=K (E w1):=by
 have r:=h.lt;have j:=b.size;simp at j;have l:w1.heap[G]?=S (D #[v,u,x] 68 (0,0)):=(b.block G (by simp;omega) (uo h.r0 (by omega))).trans ((Ur w o G r).trans h.blk);exact⟨l,yj l v',Um m (by show G<G+1;omega) _,Um (jM (h.r0.alloc o) (h.r1.alloc o) (by decide) b) (by show G<G+1;omega) _,by omega,j⟩
theorem G2.full{b:WS}{p:Int × Int}(m:G<K (E w))(hb:w.heap[G]?=S (D #[v,u,x] 68 (0,0)))(r:w.ownsRow (G+1) 21 1 v (Xg T+1) ((T.map λp=>Z .i32 p.1)++[Z .i32 p.1]))(h1:w.ownsRow (G+1) 2 1 u (Xg T) (T.map λp=>Z Y p.2))(y:w1.ownsRow (G+1) 2 1 b (Xg T+1) ((T.map λp=>Z Y p.2)++[Z Y p.2]))(j:(w.alloc o).grownBy w1 u.ownBlock):w1.heap[G]?=S (D #[v,u,x] 68 (0,0))/\G2 (w1.setCell ⟨G,1,U⟩ b) G v b x (T++[p]):=by
 have z:=j.size;simp at z;have l:w1.heap[G]?=S (D #[v,u,x] 68 (0,0)):=(j.block G (by simp;omega) (uo h1 (by omega))).trans ((Ur w o G m).trans hb);refine⟨l,⟨by simp[Xf];omega,xR l b,?_,?_⟩⟩
 .have:=Um (jM (h1.alloc o) (r.alloc o) (by decide) j) (by show G<G+1;omega) (a:=⟨G,1,U⟩) b;simpa using this
 .have:=Um y (by show G<G+1;omega) (a:=⟨G,1,U⟩) b;simpa using this
theorem qT{b:WR}(hb:Below G b w)(y:G<K (E w))(l:w.ownsRow (G+1) e size v n xs)(m:(w.alloc o).grownBy w1 v.ownBlock)(j:Nat)(u:WS): Below G b (w1.setCell ⟨G,j,U⟩ u):=((hb.alloc (by omega) o).grown m (by simp;omega) (λk r=>by have:=(l.lt k r).1;omega)).setCell WN _
theorem Ap{base:Nat}(r:w.ownsRow base e size v n xs)(y:(w.alloc o).grownBy w1 v.ownBlock)(a:Addr)(u:WS): KeepsOthers w (w1.setCell a u):=by
 refine((KeepsOthers.alloc w o).trans (KeepsOthers.of_grownBy y λj B l m=>?_)).trans (KeepsOthers.setCell _ _ _);rcases(r.alloc o).2 with ⟨rfl,_⟩|⟨g,z,A,rfl,_,b,_⟩
 .simp[Value.ownBlock] at l
 .obtain rfl:g=j:=by simpa [Value.ownBlock] using l
  rw[b] at m;cases m;rfl
theorem Aq(w:WR)(a:Addr)(v x:WS)(t:Nat):∀j u,[x][j]?=S u->((w.setCell a v).alloc (D #[x] t)).cell? ((⟨K (E w),0,U⟩:Addr).add j)=S u:=by
 have h:=cell_one_new (w.setCell a v) x t;have b:(w.setCell a v).heap.size=K (E w):=by simp[Xf]
 rw[b] at h;exact h
theorem H4(h:w.heap[G]?=S (D #[v,u,x] t (0,0)))(v':WS): (w.setCell ⟨G,2,U⟩ v').heap[G]?=S (D #[v,u,v'] t (0,0)):=by
 obtain⟨b,j⟩:=Ug.1 h
 show (w.heap.modify G _)[G]?=_
 rw[Array.getElem?_eq_getElem (by rw[Array.size_modify];exact b),Array.getElem_modify_self,j]
 rfl
theorem m7(w:WR)(G j:Nat)(v:WS):w.grownBy (w.setCell ⟨G,j,U⟩ v) (S G):=⟨O,O,O,by simp[Xf],λk _ b=>Uj _ _ _ k (λe=>b (by rw[e]))⟩
theorem iB{B m:Nat}(h:w.ownsRow m e size v n xs)(y:B<=m): w.ownsRow B e size v n xs:=by
 obtain⟨z,b⟩:=h;refine⟨z,?_⟩;rcases b with b|⟨g,j,l,A,C,r⟩
 .exact .inl b
 .exact .inr ⟨g,j,l,A,Uc y C,r⟩
def N0(w:WR)(R:Nat)(v u x:WS):WR:=((w.setCell ⟨R,0,U⟩ v).setCell ⟨R,1,U⟩ u).setCell ⟨R,2,U⟩ x
theorem CU(w:WR)(R:Nat)(v u x:WS):w.grownBy (N0 w R v u x) (S R):=dD (dD (m7 _ _ _ _) (m7 _ _ _ _)) (m7 _ _ _ _)
theorem Jy{R:Nat}{a b c:WS}(h:w.heap[R]?=S (D #[a,b,c] t (0,0)))(v u x:WS): (N0 w R v u x).heap[R]?=S (D #[v,u,x] t (0,0)):=H4 (xR (yj h v) u) x
theorem wR(t B Bt:Nat)(x:WS)(T:Sp.Tb)(E:List Sp.Ed)(w:WR)(hT:oB w Bt t T)(aR:Xg T<=5000)(hE:w.ownsRow B 162 3 x (Xg E) (dp E))(ao:Xg E<=5000)(hB:B<=w.heap.size):WT prog 67 #[WV (S ⟨t,0,U⟩),x] w λe w'=>∃v u b,e=WZ (dK v u x)/\w'.ownsRow B 21 1 v (Xg T) (T.map λp=>Z .i32 p.1)/\w'.ownsRow B 2 1 u (Xg T) (T.map λp=>Z Y p.2)/\
   w'.ownsRow B 162 3 x (Xg E) (dp b)/\St E b/\Ord b 0 (Xg E)/\Below B w w':=by
 obtain⟨tv,af,ah⟩:=hT;obtain⟨p,ai,rfl,R⟩:=dS ah;obtain⟨L,M,rfl,_⟩:=dm hE;obtain⟨i0,aq,ar,au,av⟩:=UB info_i32;obtain⟨i1,aw,ax,ay,az⟩:=UB info_i64;refine(Vq (n:=5)).1 ?_;refine callsIn_of_wp_marks func67 O trivial ?_ O;simp only[ntmps67,VD,Uf,Vl,Nat.reduceAdd,Nat.reduceSub,VJ,VK,VL,VM,U2,UM]
 gi_wp2_with (refine⟨trivial,?_⟩;gi_at_call 104;refine(qw _ _ trivial O _ _).mono ?_;rintro e w' ⟨rfl,rfl⟩)
 obtain⟨Q,I⟩:∃Q,(((w.alloc (D #[J U 0 0,J U 0 0,J U 0 0] 68)).alloc (D #[J U 0 0,J U 0 0,J L (Xg E) M] 68)).alloc (D #[WV (S ⟨t,0,U⟩)] 139))=Q:=⟨_,rfl⟩
 have aS:Q.heap.size=w.heap.size+3:=by rw[<-I];simp
 have V:WQ w Q:=by rw[<-I];exact(((T4 _ w).alloc WN _).alloc (by simp) _).alloc (by simp;omega) _
 have aA:Q.heap[w.heap.size]?=S (D #[J U 0 0,J U 0 0,J U 0 0] 68 (0,0)):=by
  rw[<-I,Ur _ _ _ (by simp;omega),Ur _ _ _ (by simp)];exact Vz w _
 have aB:Q.heap[w.heap.size+1]?=S (D #[J U 0 0,J U 0 0,J L (Xg E) M] 68 (0,0)):=by
  rw[<-I,Ur _ _ _ (by simp)];have:=Vz (w.alloc (D #[J U 0 0,J U 0 0,J U 0 0] 68)) (D #[J U 0 0,J U 0 0,J L (Xg E) M] 68);rwa [Uv] at this
 have aC:Q.cell? ⟨w.heap.size+1+1,0,U⟩=S (WV (S ⟨t,0,U⟩)):=by
  have:=Vz ((w.alloc (D #[J U 0 0,J U 0 0,J U 0 0] 68)).alloc (D #[J U 0 0,J U 0 0,J L (Xg E) M] 68)) (D #[WV (S ⟨t,0,U⟩)] 139);rw[Uv,Uv,I] at this;simp[Xc,this]
 have aD:t<w.heap.size:=(Ug.1 af).1;have aE:Q.cell? ⟨t,0,U⟩=S (J p (Xg T) ai):=by
  rw[V.cell (p:=⟨t,0,U⟩) aD];simp[Xc,af]
 have aF:∀j (hj:j<Xg T),∃g,p=S ⟨g,0,U⟩/\g<w.heap.size/\Q.cell? ⟨g,j*2,U⟩=S (Z .i32 T[j].1)/\Q.cell? ⟨g,j*2+1,U⟩=S (Z Y T[j].2):=λj hj=>by
  obtain⟨g,e,c0,c1⟩:=R j hj;have hg:=Ui w _ c0;exact⟨g,e,hg,(V.cell (p:=⟨g,j*2,U⟩) hg).trans c0,(V.cell (p:=⟨g,j*2+1,U⟩) hg).trans c1⟩
 have aT:=dd hE V;rw[I];clear I R af ah;refine wpIn_rangeFunc_ownG O (by omega) (gf:=158) (lb := #[WV (S ⟨w.heap.size+1+1,0,U⟩)]) O trivial (enters_of func158 (by kernel_rfl) O)
  (kI _ _ trivial O (by omega) (w.heap.size+1+1) t w.heap.size p ai T (by omega) Q (by omega) (by omega) (by omega) aC aE aF) belowK_t (belowK_b (by omega)) (T4 _ _) (λ_=>O)
  (λX W=>(∃v u,G2 W (w.heap.size+1) v u (J L (Xg E) M) X)/\Below (w.heap.size+1) Q W)
  (λ_ _ _=>False)
  (OwnFrom.and (Own.from (G2.own _ _) _) (ownFrom_below (by omega) (by omega)))
  (λ_ _ _ _ _ hs _ _=>hs)
  ⟨⟨_,_,⟨by omega,aB,Uw _ _ _ _,Uw _ _ _ _⟩⟩,T4 _ _⟩
  (λy=>{ tmps := #[WV (S ⟨t,0,U⟩),J L (Xg E) M,undef,undef,WV (S ⟨w.heap.size,0,U⟩),WV (S ⟨w.heap.size+1,0,U⟩),Z .i32 y.1,Z Y y.2,J L (Xg E) M,.agg #[J U 0 0,J U 0 0,J L (Xg E) M],WV (S ⟨t,0,U⟩),.func (.func 158) #[] #[WV (S ⟨w.heap.size+1+1,0,U⟩)],Z .i32 y.1,Z Y y.2,undef,undef,undef,undef,undef,undef,undef,undef,undef,undef,undef,undef,undef,undef,undef,undef],defers:=[] }) ?assign ?body ?done ?stop
 case assign =>
  intro l y W m hK
  gi_wp2
  exact hK
 case body =>
  rintro l X y W ⟨⟨v,u,C⟩,aa⟩ aU;obtain⟨pv,kv,rfl,_⟩:=dm C.r0;obtain⟨pu,ku,rfl,_⟩:=dm C.r1;obtain⟨c0,c1,c2,cf⟩:=dZ C.blk;have ab:=C.lt
  gi_wp2_with (first
  |(gi_at_builtin;refine wpListIn_append_own _ O _ _ 65 O (w.heap.size+1+1) 21 i0 (Z .i32 0) 1 4 underlying65 aq ar au av O (by decide) (J pv (Xg X) kv) _ _ O (C.r0.alloc _) ⟨W.heap.size,0,U⟩ 1 1 [Z .i32 y.1] O O (cell_one_new _ _ _) (by simp[Value.oneCell']) (by unfold maxLen;omega) (by omega) (by simp;omega) ?_;intro v' w1 q z _;obtain⟨g1,aP,rfl⟩:=ownsRow_succ q;obtain⟨b1,b2,r2,s2,l2,m2⟩:=C.half q z;obtain⟨q0,q1,q2,qf⟩:=dZ b1;have aV:=qf 0;obtain⟨p0,p1,p2,pf⟩:=dZ b2;have aW:=pf 1)
  |(gi_at_builtin;refine wpListIn_append_own _ O _ _ 30 O (w.heap.size+1+1) 2 i1 (Z Y 0) 1 8 underlying30 aw ax ay az O (by decide) (J pu (Xg X) ku) _ _ O (s2.alloc _) ⟨w1.heap.size,0,U⟩ 1 1 [Z Y y.2] O O (Aq _ _ _ _ _) (by simp[Value.oneCell']) (by unfold maxLen;omega) (by omega) (by simp[Xf];omega) ?_;intro u' w2 s A _;obtain⟨g2,aQ,rfl⟩:=ownsRow_succ s;obtain⟨b3,aG⟩:=G2.full (p:=y) (by simp[Xf];omega) b2 r2 s2 s A;obtain⟨e0,e1,e2,ef⟩:=dZ b3;have aX:=ef 1))
  exact⟨((Ap C.r0 z _ _).trans (Ap s2 A _ _)).from _,(qT (qT (WO) ab C.r0 z 0 _) (by simp[Xf];omega) s2 A 1 _).mono (by omega),⟨_,_,aG⟩,qT (qT aa ab C.r0 z 0 _) (by simp[Xf];omega) s2 A 1 _⟩
 case done =>
  rintro r ys W hD rfl ⟨⟨v,u,C⟩,aa⟩ hK;obtain⟨pv,kv,rfl,_⟩:=dm C.r0;obtain⟨pu,ku,rfl,_⟩:=dm C.r1;obtain⟨c0,c1,c2,cf⟩:=dZ C.blk;have aj:WQ w W:=V.trans (aa.mono (by omega));have N:=dd hE aj;have aH:W.heap[w.heap.size]?=S (D #[J U 0 0,J U 0 0,J U 0 0] 68 (0,0)):=(aa.block _ (by omega)).trans aA;have aI:=(Ug.1 hK).1;have ab:=C.lt;have ad:∀k,w.heap.size<=k->S k≠(Value.slice L (Xg E) M).ownBlock:=λk hk e=>by have:=(hE.lt k e.symm).2;omega
  gi_wp2_with (refine⟨trivial,?_⟩;gi_at_call 105;refine(Vq.2 (Iv B (Xg E) _ E _ O N ao)).mono ?_;rintro e W1 ⟨rfl,b,aJ,F,aK,ak⟩;have aL:=(F.block _ ab (ad _ (by omega))).trans C.blk;obtain⟨k0,k1,k2,kf⟩:=dZ aL;have an:=(F.block w.heap.size (by omega) (ad _ (by omega))).trans aH;obtain⟨n0,n1,n2,nf⟩:=dZ an;have aY:=nf 0;have aZ:=nf 1;have a1:=nf 2)
  have aM:=(F.block r aI (ad _ (by omega))).trans hK;have a6:=F.size;obtain⟨W2,ag⟩:∃W2,N0 W1 w.heap.size (J pv (Xg ys) kv) (J pu (Xg ys) ku) (J L (Xg E) M)=W2:=⟨_,rfl⟩
  have P:W1.grownBy W2 (S w.heap.size):=by rw[<-ag];exact CU _ _ _ _ _
  have aN:W2.heap[w.heap.size]?=S (D #[J pv (Xg ys) kv,J pu (Xg ys) ku,J L (Xg E) M] 68 (0,0)):=by rw[<-ag];exact Jy an _ _ _
  have a7:=P.size;have ae:=(P.block r (by omega) (by simp;omega)).trans aM;have aO:=((Wh W2 r (.deferred U)).block w.heap.size (by omega) (by simp;omega)).trans aN;obtain⟨m0,m1,m2,_⟩:=dZ aO
  show bodyPostM _ _ _ _ _ _ _ (N0 W1 w.heap.size (J pv (Xg ys) kv) (J pu (Xg ys) ku) (J L (Xg E) M))
  rw[ag];refine⟨by simp,.inl ⟨_,_,O,run_takeDeferred ae,?_⟩⟩;refine⟨dK (J pv (Xg ys) kv) (J pu (Xg ys) ku) (J L (Xg E) M),by simp[results,results67,go_sem,dK,m0,m1,m2],J pv (Xg ys) kv,J pu (Xg ys) ku,b,O,?_,?_,?_,aK,ak,?_⟩
  .exact iB (ownsRow_putObj ((jM N C.r0 (by decide) F).kept P (.inr (uo (jM N C.r0 (by decide) F) (by omega)).symm)) _ ae O) (by omega)
  .exact iB (ownsRow_putObj ((jM N C.r1 (by decide) F).kept P (.inr (uo (jM N C.r1 (by decide) F) (by omega)).symm)) _ ae O) (by omega)
  .exact ownsRow_putObj (aJ.kept P (.inr (ad _ WN).symm)) _ ae O
  .exact((((aj.mono hB).grown F (by omega) (λk hk=>(N.lt k hk).1)).grown P (by omega) (λk hk=>by cases hk;exact hB))).grown (Wh W2 r _) (by omega) (λk hk=>by cases hk;omega)
 case stop =>
  rintro r c X W _ _ h _;exact h.elim
end
section
abbrev oE:WS:=dK (J U 0 0) (J U 0 0) (J U 0 0)
theorem iX(a b:Int)(w:WR):WT prog 61 #[Z Y a,Z Y b] w λe j=>e=WZ (WX #[oE,Z Y a,Z Y b])/\WQ w j:=by
 go_enter func61,ntmps61;go_wp2;refine T8 (v := WX #[oE,Z Y a,Z Y b]) (by simp[results,results61,go_sem,dK]) O ⟨O,?_⟩;exact WO.alloc WN _
def Small(s:WU):Prop := ∀L,Sp.dI s=.ok L->(Sp.vs L (Sp.nv L)).length<=64/\(Sp.es L (Sp.nv L) (Sp.nv L)).length<=256
theorem kD{s:WU}{e:Int × Int}(h:Sp.dI s=.error e):Small s:=λL b=>by rw[h] at b;cases b
def pZ(s:WU)(w:WR)(e:Ending)(w':WR):Prop:=ph s w e w'/\Small s
variable {w:WR}
theorem eU{w':WR}(h:et w)(hb:WQ w w'): et w':=by
 obtain⟨m,b⟩:=h;exact⟨m,(hb.cell (Ui w _ b)).trans b⟩
def nH(w w':WR):Prop:=WQ w w'/\(K (E w))+1<=K (E w')/\w'.heap[K (E w)]?=S (D #[J U 0 0,J U 0 0,J U 0 0] 68 (0,0))
theorem nH.new(w:WR):nH w (w.alloc (D #[J U 0 0,J U 0 0,J U 0 0] 68)):=⟨WO.alloc WN _,by simp,Vz w _⟩
theorem nH.next{a b:WR}(h:nH w a)(hb:WQ a b): nH w b:=⟨h.1.trans (hb.mono (by have:=h.2.1;omega)),Uc h.2.1 hb.size,(hb.block _ (by have:=h.2.1;omega)).trans h.2.2⟩
theorem nH.SU{a b:WR}{n:Nat}(h:nH w a)(hb:Below n a b)(e:K (E w)+1<=n): nH w b:=⟨h.1.trans (hb.mono (by omega)),Uc h.2.1 hb.size,(hb.block _ (by omega)).trans h.2.2⟩
theorem Ci(s:WU)(w:WR)(h:4000<s.size):WT prog 37 #[H s] w (pZ s w):=by
 have r:=cT (sP h);have I:(4000:Int)<(s.size:Int):=by omega
 clear h;go_enter func37,ntmps37;go_wp2_with fail;have u:=nH.new w;refine(iX 1 0 _).mono ?_;rintro e L ⟨rfl,b⟩;have j:=u.next b
 obtain⟨y,z,A,l⟩:=dZ j.2.2;have B:=l 0;have C:=l 1;have F:=l 2;have G:=j.2.1;have m:=j.1;clear b;unfold oE dK;go_wp2;refine T8 (v := WX #[oE,Z Y 1,Z Y 0]) (by simp[results,results37,go_sem,dK,y,z,A]) O ⟨jo (cS r) ?_,kD (cS r)⟩;exact((m.setCell WN _).setCell WN _).setCell WN _
theorem DE(s:WU)(w:WR)(A:s.size<=4000)(B:Lib.Utf8Tabs 3 4 w)(hS:et w){i:Nat}(hb:Sp.bad s=S i):WT prog 37 #[H s] w (pZ s w):=by
 have y:=cT (vS (by omega) hb);have C:=cT hb;have V:¬(4000:Int)<(s.size:Int):=by omega
 clear hb;go_enter func37,ntmps37;go_wp2_with fail;have z:=nH.new w;refine(fP s _ A (eM B z.1)).mono ?_;rintro e W ⟨b,j⟩;rw[cS C] at j;obtain rfl:=j;have F:=z.next b
 clear b;go_wp2_with fail;refine(iX 2 (i:Nat) _).mono ?_;rintro e X ⟨rfl,l⟩;have m:=F.next l
 obtain⟨G,I,L,r⟩:=dZ m.2.2;have M:=r 0;have N:=r 1;have Q:=r 2;have R:=m.2.1;have u:=m.1;clear l;unfold oE dK;go_wp2;refine T8 (v := WX #[oE,Z Y 2,Z Y (i:Nat)]) (by simp[results,results37,go_sem,dK,G,I,L]) O ⟨jo (cS y) ?_,kD (cS y)⟩;exact((u.setCell WN _).setCell WN _).setCell WN _
variable {k:Nat}
theorem At(s:WU)(w:WR)(B:s.size<=4000)(L:Lib.Utf8Tabs 3 4 w)(hS:et w)(hb:Sp.bad s=U)(u:Sp.eg (Sp.split s 10) 0 []=.error k): WT prog 37 #[H s] w (pZ s w):=by
 have C:=cT (tn (by omega) hb u);have F:=cT hb;have M:=cT u;have p:¬(4000:Int)<(s.size:Int):=by omega
 clear hb u;go_enter func37,ntmps37;go_wp2_with fail;have G:=nH.new w;refine(fP s _ B (eM L G.1)).mono ?_;rintro e o ⟨b,j⟩;rw[cS F] at j;obtain rfl:=j;have I:=G.next b
 clear b;go_wp2_with fail;refine(gT s _ B (Sp.nu (cS F)) (eU hS I.1)).mono ?_;rintro e g ⟨l,m⟩;rw[cS M] at m;obtain rfl:=m;have N:=I.next l
 clear l;go_wp2_with fail;refine(iX 3 (k:Nat) _).mono ?_;rintro e wz ⟨rfl,r⟩;have y:=N.next r
 obtain⟨Q,R,V,z⟩:=dZ y.2.2;have W:=z 0;have X:=z 1;have q:=z 2;have t:=y.2.1;have A:=y.1;clear r;unfold oE dK;go_wp2;refine T8 (v := WX #[oE,Z Y 3,Z Y (k:Nat)]) (by simp[results,results37,go_sem,dK,Q,R,V]) O ⟨jo (cS C) ?_,kD (cS C)⟩;exact((A.setCell WN _).setCell WN _).setCell WN _
variable {P:List (Option Sp.Ln)}
theorem oK{s:WU}(e:s.size<=4000)(h:Sp.eg (Sp.split s 10) 0 []=.ok P): Xg P<=5000:=by
 have b:=Sp.PZ _ _ _ _ h;have j:=(Sp.jq s 10).2;simp at b;omega
theorem y9(s:WU)(w:WR)(B:s.size<=4000)(W:Lib.Utf8Tabs 3 4 w)(hS:et w)(hb:Sp.bad s=U)(A:Sp.eg (Sp.split s 10) 0 []=.ok P)(C:Sp.gv P 0 []=.error k): WT prog 37 #[H s] w (pZ s w):=by
 have N:=cT (vQ (by omega) hb A C);have F:=oK B A;have Q:=cT hb;have X:=cT A;have q:=cT C;have hz:¬(4000:Int)<(s.size:Int):=by omega
 clear hb A C;go_enter func37,ntmps37;go_wp2_with fail;have R:=nH.new w;refine(fP s _ B (eM W R.1)).mono ?_;rintro e w1 ⟨b,j⟩;rw[cS Q] at j;obtain rfl:=j;have V:=R.next b
 clear b;go_wp2_with fail;refine(gT s _ B (Sp.nu (cS Q)) (eU hS V.1)).mono ?_;rintro e w2 ⟨l,m⟩;rw[cS X] at m;obtain⟨v2,rfl,r⟩:=m;obtain⟨t,p,rfl,G⟩:=mr r;have o:=V.next l
 clear l r;go_wp2_with fail;refine(fM t p P _ G F).mono ?_;rintro e w3 ⟨u,y⟩;rw[cS q] at y;obtain rfl:=y;have g:=o.next u
 clear u;go_wp2_with fail;refine(iX 4 (k:Nat) _).mono ?_;rintro e wz ⟨rfl,z⟩;have I:=g.next z
 obtain⟨n0,n1,n2,L⟩:=dZ I.2.2;have aa:=L 0;have ab:=L 1;have ad:=L 2;have ae:=I.2.1;have M:=I.1;clear z;unfold oE dK;go_wp2;refine T8 (v := WX #[oE,Z Y 4,Z Y (k:Nat)]) (by simp[results,results37,go_sem,dK,n0,n1,n2]) O ⟨jo (cS N) ?_,kD (cS N)⟩;exact((M.setCell WN _).setCell WN _).setCell WN _
variable {T:Sp.Tb}
theorem Ah(s:WU)(w:WR)(M:s.size<=4000)(hT:Lib.Utf8Tabs 3 4 w)(hS:et w)(hb:Sp.bad s=U)(L:Sp.eg (Sp.split s 10) 0 []=.ok P)(N:Sp.gv P 0 []=.ok T)(he:Sp.ge T P 0 []=.error k): WT prog 37 #[H s] w (pZ s w):=by
 have X:=cT (yn (by omega) hb L N he);have l:=oK M L;have q:=cT hb;have HL:=cT L;have HV:=cT N;have HE:=cT he;have hz:¬(4000:Int)<(s.size:Int):=by omega
 clear hb L N he;go_enter func37,ntmps37;go_wp2_with fail;have t:=nH.new w;refine(fP s _ M (eM hT t.1)).mono ?_;rintro e w1 ⟨m,r⟩;rw[cS q] at r;obtain rfl:=r;have p:=t.next m
 clear m;go_wp2_with fail;refine(gT s _ M (Sp.nu (cS q)) (eU hS p.1)).mono ?_;rintro e w2 ⟨u,y⟩;rw[cS HL] at y;obtain⟨v2,rfl,z⟩:=y;obtain⟨o,g,rfl,b⟩:=mr z;have R2:=p.next u
 clear u z;go_wp2_with fail;refine(fM o g P _ b l).mono ?_;rintro e w3 ⟨j,A⟩;rw[cS HV] at A;obtain⟨rfl,B,Q,aa⟩:=A;have R3:=R2.next j
 have C:=b.below j;clear b j;go_wp2_with fail;refine(iU o g (K (E w2)) _ P T _ C l B Q (by omega)).mono ?_;rintro e w4 ⟨F,G⟩;rw[cS HE] at G;obtain rfl:=G;have R4:=R3.next F
 clear F;go_wp2_with fail;refine(iX 5 (k:Nat) _).mono ?_;rintro e wz ⟨rfl,I⟩;have R:=R4.next I
 obtain⟨n0,n1,n2,V⟩:=dZ R.2.2;have ab:=V 0;have ad:=V 1;have ae:=V 2;have af:=R.2.1;have W:=R.1;clear I;unfold oE dK;go_wp2;refine T8 (v := WX #[oE,Z Y 5,Z Y (k:Nat)]) (by simp[results,results37,go_sem,dK,n0,n1,n2]) O ⟨jo (cS X) ?_,kD (cS X)⟩;exact((W.setCell WN _).setCell WN _).setCell WN _
theorem yG(s:WU)(w:WR)(R:s.size<=4000)(hT:Lib.Utf8Tabs 3 4 w)(hS:et w)(hb:Sp.bad s=U)(Q:Sp.eg (Sp.split s 10) 0 []=.ok P)(V:Sp.gv P 0 []=.ok T){E:List Sp.Ed}(he:Sp.ge T P 0 []=.ok E)(p:64<Xg T): WT prog 37 #[H s] w (pZ s w):=by
 have o:=cT (pI (by omega) hb Q V he);have z:=oK R Q;have g:=cT hb;have HL:=cT Q;have HV:=cT V;have HE:=cT he;have HP:Hid (Sp.dI s=.error (6,0)):=by
  show _=_
  rw[(cS o).spec,T0 (Or.inr (by rw[<-(cS o).tl];exact p))]
 have ab:(64:Int)<(Xg T:Int):=by omega
 clear p;have hz:¬(4000:Int)<(s.size:Int):=by omega
 clear hb Q V he;go_enter func37,ntmps37;go_wp2_with fail;have R0:=nH.new w;refine(fP s _ R (eM hT R0.1)).mono ?_;rintro e w1 ⟨A,B⟩;rw[cS g] at B;obtain rfl:=B;have R1:=R0.next A
 clear A;go_wp2_with fail;refine(gT s _ R (Sp.nu (cS g)) (eU hS R1.1)).mono ?_;rintro e w2 ⟨C,F⟩;rw[cS HL] at F;obtain⟨v2,rfl,G⟩:=F;obtain⟨p2,c2,rfl,l⟩:=mr G;have R2:=R1.next C
 clear C G;go_wp2_with fail;refine(fM p2 c2 P _ l z).mono ?_;rintro e w3 ⟨m,I⟩;rw[cS HV] at I;obtain⟨rfl,b,W,ad⟩:=I;have R3:=R2.next m
 have j:=l.below m;clear l m;go_wp2_with fail;refine(iU p2 c2 w2.heap.size _ P T _ j z b W (by omega)).mono ?_;rintro e w4 ⟨r,L⟩;rw[cS HE] at L;obtain⟨v4,rfl,u,ae⟩:=L;obtain⟨p4,c4,rfl,_⟩:=dm u;have R4:=R3.next r
 have y:=b.below r;have aa:=iB u R3.2.1;clear j r b u;go_wp2_with fail;refine(va _ _ T _ y).mono ?_;rintro e w5 ⟨rfl,M⟩;obtain rfl:=M.symm;clear M;go_wp2_with fail;refine(iX 6 0 _).mono ?_;rintro e wz ⟨rfl,N⟩;have X:=R4.next N
 obtain⟨n0,n1,n2,q⟩:=dZ X.2.2;have af:=q 0;have ag:=q 1;have ah:=q 2;have ai:=X.2.1;have t:=X.1;clear N;unfold oE dK;go_wp2;refine T8 (v := WX #[oE,Z Y 6,Z Y 0]) (by simp[results,results37,go_sem,dK,n0,n1,n2]) O ⟨jo (cS HP) ?_,kD (cS HP)⟩;exact((t.setCell WN _).setCell WN _).setCell WN _
theorem zg(s:WU)(w:WR)(R:s.size<=4000)(hT:Lib.Utf8Tabs 3 4 w)(hS:et w)(hb:Sp.bad s=U)(Q:Sp.eg (Sp.split s 10) 0 []=.ok P)(V:Sp.gv P 0 []=.ok T){E:List Sp.Ed}(he:Sp.ge T P 0 []=.ok E)(l:¬64<Xg T)(hm:256<Xg E): WT prog 37 #[H s] w (pZ s w):=by
 have p:=cT (pI (by omega) hb Q V he);have A:=oK R Q;have o:=cT hb;have HL:=cT Q;have HV:=cT V;have HE:=cT he;have g:Hid (Sp.dI s=.error (6,0)):=by
  show _=_
  rw[(cS p).spec,T0 (Or.inl (by rw[<-(cS p).el];exact hm))]
 have aa:¬(64:Int)<(Xg T:Int):=by omega
 have ad:(256:Int)<(Xg E:Int):=by omega
 have hz:¬(4000:Int)<(s.size:Int):=by omega
 clear hb Q V he;go_enter func37,ntmps37;go_wp2_with fail;have R0:=nH.new w;refine(fP s _ R (eM hT R0.1)).mono ?_;rintro e w1 ⟨B,l⟩;rw[cS o] at l;obtain rfl:=l;have R1:=R0.next B
 clear B;go_wp2_with fail;refine(gT s _ R (Sp.nu (cS o)) (eU hS R1.1)).mono ?_;rintro e w2 ⟨C,F⟩;rw[cS HL] at F;obtain⟨v2,rfl,G⟩:=F;obtain⟨p2,c2,rfl,m⟩:=mr G;have R2:=R1.next C
 clear C G;go_wp2_with fail;refine(fM p2 c2 P _ m A).mono ?_;rintro e w3 ⟨r,I⟩;rw[cS HV] at I;obtain⟨rfl,b,W,ae⟩:=I;have R3:=R2.next r
 have j:=m.below r;clear m r;go_wp2_with fail;refine(iU p2 c2 w2.heap.size _ P T _ j A b W (by omega)).mono ?_;rintro e w4 ⟨u,L⟩;rw[cS HE] at L;obtain⟨v4,rfl,y,af⟩:=L;obtain⟨p4,c4,rfl,_⟩:=dm y;have R4:=R3.next u
 have z:=b.below u;have ab:=iB y R3.2.1;clear j u b y;go_wp2_with fail;refine(va _ _ T _ z).mono ?_;rintro e w5 ⟨rfl,M⟩;obtain rfl:=M.symm;clear M;go_wp2_with fail;refine(iX 6 0 _).mono ?_;rintro e wz ⟨rfl,N⟩;have X:=R4.next N
 obtain⟨n0,n1,n2,q⟩:=dZ X.2.2;have ag:=q 0;have ah:=q 1;have ai:=q 2;have aj:=X.2.1;have t:=X.1;clear N;unfold oE dK;go_wp2;refine T8 (v := WX #[oE,Z Y 6,Z Y 0]) (by simp[results,results37,go_sem,dK,n0,n1,n2]) O ⟨jo (cS g) ?_,kD (cS g)⟩;exact((t.setCell WN _).setCell WN _).setCell WN _
theorem Hq(s:WU)(w:WR)(hs:s.size<=4000)(hT:Lib.Utf8Tabs 3 4 w)(hS:et w)(hb:Sp.bad s=U)(hl:Sp.eg (Sp.split s 10) 0 []=.ok P)(hv:Sp.gv P 0 []=.ok T){E:List Sp.Ed}(he:Sp.ge T P 0 []=.ok E)(z:¬64<Xg T)(A:¬256<Xg E): WT prog 37 #[H s] w (pZ s w):=by
 have r:=cT (pI (by omega) hb hl hv he);have Q:=oK hs hl;have HB:=cT hb;have HL:=cT hl;have HV:=cT hv;have HE:=cT he;have HP:Hid (Sp.dI s=.ok (Sp.dH P)):=by
  show _=_
  rw[(cS r).spec,TZ (by rw[<-(cS r).el,<-(cS r).tl];omega)]
 have ak:¬(64:Int)<(Xg T:Int):=by omega
 have an:¬(256:Int)<(Xg E:Int):=by omega
 have hz:¬(4000:Int)<(s.size:Int):=by omega
 clear hb hl hv he;go_enter func37,ntmps37;go_wp2_with fail;have R0:=nH.new w;refine(fP s _ hs (eM hT R0.1)).mono ?_;rintro e w1 ⟨R,z⟩;rw[cS HB] at z;obtain rfl:=z;have R1:=R0.next R
 clear R;go_wp2_with fail;refine(gT s _ hs (Sp.nu (cS HB)) (eU hS R1.1)).mono ?_;rintro e w2 ⟨W,A⟩;rw[cS HL] at A;obtain⟨v2,rfl,X⟩:=A;obtain⟨p2,c2,rfl,C⟩:=mr X;have R2:=R1.next W
 clear W X;go_wp2_with fail;refine(fM p2 c2 P _ C Q).mono ?_;rintro e w3 ⟨F,q⟩;rw[cS HV] at q;obtain⟨rfl,l,ah,ao⟩:=q;have R3:=R2.next F
 have u:=C.below F;clear C F;go_wp2_with fail;refine(iU p2 c2 w2.heap.size _ P T _ u Q l ah (by omega)).mono ?_;rintro e w4 ⟨G,t⟩;rw[cS HE] at t;obtain⟨v4,rfl,I,aq⟩:=t;obtain⟨p4,c4,rfl,_⟩:=dm I;have R4:=R3.next G
 have m:=l.below G;have p:=iB I R3.2.1;clear u G l I;go_wp2_with fail;refine(va _ _ T _ m).mono ?_;rintro e w5 ⟨rfl,o⟩;obtain rfl:=o.symm;clear o;go_wp2_with fail;refine(wR _ (w.heap.size+1) _ _ T E _ m (by omega) p (by omega) R4.2.1).mono ?_;rintro e w6 ⟨v6,u6,b,rfl,g,aa,ai,ab,y,ad⟩;have R6:=R4.SU ad WN;obtain⟨pv,kv,rfl,_⟩:=dm g;obtain⟨pu,ku,rfl,_⟩:=dm aa;obtain⟨n0,n1,n2,nf⟩:=dZ R6.2.2;have ar:=nf 0;have au:=nf 1;have av:=nf 2;have aw:=R6.2.1;have aj:=R6.1;have ae:=cT ab;have af:=cT y;clear ad ab y;unfold dK;go_wp2;have M:=Sp.OC (cS r).me (cS r).Te;have hY:b=Sp.es (Sp.dH P) (Sp.nv (Sp.dH P)) (Sp.nv (Sp.dH P)):=N6 (cS r).me (cS r).Te (cS r).lo (by rw[<-(cS r).eq];exact cS ae) (by rw[<-(cS r).eq];exact cS af);have ag:Xg E=Xg b:=(cS ae).1.symm;have j:w.heap.size<w.heap.size+1:=Nat.lt_succ_self _;refine T8 (v := WX #[dK (J pv (Xg T) kv) (J pu (Xg T) ku) (J p4 (Xg E) c4),Z Y 0,Z Y 0]) (by simp[results,results37,go_sem,dK,n0,n1,n2]) O ?_;refine⟨?_,λL hL=>by rw[cS HP] at hL;injection hL with hL;subst hL;refine⟨?_,by rw[<-hY,<-ag];omega⟩;have h1:=congrArg List.length M;simp at h1;omega⟩;refine GC (N:=T.map (·.1)) (V:=T.map (·.2)) (cS HP) O (((aj.setCell WN _).setCell WN _).setCell WN _) (by rw[<-M];simp) (by rw[<-M];simp) ?_ ?_ ?_
 .have h:=iB (B:=w.heap.size) (Um (Um (Um g (a:=⟨w.heap.size,0,U⟩) j (J pv (Xg T) kv)) (a:=⟨w.heap.size,1,U⟩) j (J pu (Xg T) ku)) (a:=⟨w.heap.size,2,U⟩) j (J p4 (Xg E) c4)) (U0 _);simpa [List.map_map,Function.comp_def] using h
 .have h:=iB (B:=w.heap.size) (Um (Um (Um aa (a:=⟨w.heap.size,0,U⟩) j (J pv (Xg T) kv)) (a:=⟨w.heap.size,1,U⟩) j (J pu (Xg T) ku)) (a:=⟨w.heap.size,2,U⟩) j (J p4 (Xg E) c4)) (U0 _);simpa [List.map_map,Function.comp_def] using h
 .have h:=iB (B:=w.heap.size) (Um (Um (Um ai (a:=⟨w.heap.size,0,U⟩) j (J pv (Xg T) kv)) (a:=⟨w.heap.size,1,U⟩) j (J pu (Xg T) ku)) (a:=⟨w.heap.size,2,U⟩) j (J p4 (Xg E) c4)) (U0 _);rw[<-hY,<-ag];exact h
theorem qm(s:WU)(w:WR)(e:Lib.Utf8Tabs 3 4 w)(hS:et w):WT prog 37 #[H s] w (pZ s w):=by
 by_cases r:4000<s.size
 .exact Ci s w r
 .cases hb:Sp.bad s with
  |some i=>exact DE s w (by omega) e hS hb
  |none =>
   cases hl:Sp.eg (Sp.split s 10) 0 [] with
   |error k=>exact At s w (by omega) e hS hb hl
   |ok P =>
    cases j:Sp.gv P 0 [] with
    |error k=>exact y9 s w (by omega) e hS hb hl j
    |ok T =>
     cases he:Sp.ge T P 0 [] with
     |error k=>exact Ah s w (by omega) e hS hb hl j he
     |ok b =>
      by_cases l:64<Xg T
      .exact yG s w (by omega) e hS hb hl j he l
      .by_cases m:256<Xg b
       .exact zg s w (by omega) e hS hb hl j he l m
       .exact Hq s w (by omega) e hS hb hl j he l m
end
section
theorem D9(s:WU)(w:WR)(X:Lib.Utf8Tabs 3 4 w)(hS:et w):WT prog 28 #[H s] w (pZ s w):=by
 have B:=nH.new w;cases F:Sp.dI s with
 |error q =>
  obtain⟨a,b⟩:=q;have C:=cT F;clear F;go_enter func28,ntmps28;go_wp2_with fail;refine(qm s _ (eM X B.1) (eU hS B.1)).mono ?_;rintro e t ⟨⟨l,m⟩,r⟩;rw[cS C] at m;obtain rfl:=m;have y:=B.next l
  obtain⟨G,I,M,z⟩:=dZ y.2.2;have N:=z 0;have P:=z 1;have Q:=z 2;have R:=y.2.1;have A:=y.1;clear l;unfold dK;go_wp2;refine T8 (v := WX #[oE,Z Y a,Z Y b]) (by simp[results,results28,go_sem,dK,G,I,M]) O ⟨jo (cS C) ?_,r⟩;exact((A.setCell WN _).setCell WN _).setCell WN _
 |ok L =>
  have C:=cT F;clear F;go_enter func28,ntmps28;go_wp2_with fail;refine(qm s _ (eM X B.1) (eU hS B.1)).mono ?_;rintro e t ⟨⟨l,m⟩,r⟩;rw[cS C] at m;obtain⟨v,u,x,rfl,T,V,W⟩:=m;have y:=B.next l
  obtain⟨p,o,rfl,_⟩:=dm T;obtain⟨g,ku,rfl,_⟩:=dm V;obtain⟨px,kx,rfl,_⟩:=dm W;obtain⟨G,I,M,z⟩:=dZ y.2.2;have N:=z 0;have P:=z 1;have Q:=z 2;have R:=y.2.1;have A:=y.1;clear l;rw[Uv] at T V W;unfold dK;go_wp2;have j:K (E w)<K (E w)+1:=Nat.lt_succ_self _;refine T8 (v := WX #[dK (J p (Sp.vs L (Sp.nv L)).length o) (J g (Sp.vs L (Sp.nv L)).length ku) (J px (Sp.es L (Sp.nv L) (Sp.nv L)).length kx),Z Y 0,Z Y 0]) (by simp[results,results28,go_sem,dK,G,I,M]) O ?_;refine⟨?_,r⟩;refine⟨((A.setCell WN _).setCell WN _).setCell WN _,?_⟩;rw[cS C];exact⟨_,_,_,O,iB (Um (Um (Um T (a:=⟨K (E w),0,U⟩) j _) (a:=⟨K (E w),1,U⟩) j _) (a:=⟨K (E w),2,U⟩) j _) (U0 _),
   iB (Um (Um (Um V (a:=⟨K (E w),0,U⟩) j _) (a:=⟨K (E w),1,U⟩) j _) (a:=⟨K (E w),2,U⟩) j _) (U0 _),
   iB (Um (Um (Um W (a:=⟨K (E w),0,U⟩) j _) (a:=⟨K (E w),1,U⟩) j _) (a:=⟨K (E w),2,U⟩) j _) (U0 _)⟩
end
end Go.Proofs.YtgkkdpegcieakaaGreatDoor
