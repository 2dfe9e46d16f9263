import Derived.Test.YtgkkdpegcieakaaGreatDoorCz24
set_option linter.unusedVariables false
set_option linter.unusedSimpArgs false
set_option maxRecDepth 100000
set_option maxHeartbeats 16000000
namespace Go.Proofs.YtgkkdpegcieakaaGreatDoor
open Go.Proofs.Tryz
open Value renaming int→Z
open IntKind renaming i64→Y
open Go renaming World→TJ,Value→TK,Calls→TL
section
theorem zr{b:List Sp.Ed}(h:Ord b 0 b.length):b.Pairwise Sp.iH:=by
 rw[TD];intro i j hi l e;exact h i j _ _ (cy _) e l (cH hi) (cH l)
variable {T:Sp.Tb}
theorem Lj{L:List Sp.Ln}{b:List Sp.Ed}(l:Sp.da T)(m:T.Perm (Sp.fP L))(r:Sp.first (Sp.loose L) L.length=none)(e:St (Sp.gj L L) b)(u:Ord b 0 (Sp.gj L L).length): b=Sp.es L (Sp.nv L) (Sp.nv L):=by
 refine Sp.P2 (zr (by rw[e.1];exact u)) ?_ e.2;intro x y;have j:x∈b.filter (Sp.isKey x.de x.vo):=FT.2 ⟨y,by simp[Sp.isKey]⟩;rw[e.2] at j;exact Sp.NG l m r x (FT.1 j).1
variable {s:TM}
theorem sA(h:4000<s.size): Sp.dD s=.error (1,0):=by
 unfold Sp.dD Sp.oz;rw[cg h]
theorem uZ(h:¬4000<s.size){i:Nat}(hb:Sp.bad s=some i): Sp.dD s=.error (2,(i:Int)):=by
 unfold Sp.dD Sp.oz;rw[cd h,hb]
variable {k:Nat}
theorem tf(h:¬4000<s.size)(hb:Sp.bad s=none)(b:Sp.dZ (Sp.split s 10) 0 []=.error k): Sp.dD s=.error (3,(k:Int)):=by
 unfold Sp.dD Sp.oz;rw[cd h,hb];simp only;rw[Sp.zR,b]
variable {P:List (Option Sp.Ln)}
theorem pr(h:¬4000<s.size)(hb:Sp.bad s=none)(b:Sp.dZ (Sp.split s 10) 0 []=.ok P): Sp.dD s=if (Sp.gQ (Sp.dA P) (Sp.dQ P 0)).1=0 then .ok (Sp.dA P) else .error (Sp.gQ (Sp.dA P) (Sp.dQ P 0)):=by
 unfold Sp.dD Sp.oz;rw[cd h,hb];simp only;rw[Sp.zR,b]
theorem JF(P:List (Option Sp.Ln)):(∃i,Sp.first (Sp.kL (Sp.dA P)) (Sp.dA P).length=some i/\Sp.gv P 0 []=.error ((Sp.dQ P 0).getD i 0))\/
  (Sp.first (Sp.kL (Sp.dA P)) (Sp.dA P).length=none/\∃b,Sp.gv P 0 []=.ok b/\Sp.da b/\b.Perm (Sp.fP (Sp.dA P))):=by
 have h:=Sp.Kx P [] [] (by simp[Sp.da]) (by simp[Sp.dA,Sp.fP]) (λi hi=>by simp[Sp.dA] at hi);simpa using h
theorem Mn(b:T.Perm (Sp.fP (Sp.dA P))):(∃i,Sp.first (Sp.loose (Sp.dA P)) (Sp.dA P).length=some i/\Sp.ge T P 0 []=.error ((Sp.dQ P 0).getD i 0))\/
  (Sp.first (Sp.loose (Sp.dA P)) (Sp.dA P).length=none/\Sp.ge T P 0 []=.ok (Sp.gj (Sp.dA P) (Sp.dA P))):=by
 have h:=Sp.LS T (Sp.dA P) b P [] (by simp) (λi hi=>by simp[Sp.dA] at hi);simpa [Sp.dA,Sp.gj] using h
theorem uD(h:¬4000<s.size)(hb:Sp.bad s=none)(l:Sp.dZ (Sp.split s 10) 0 []=.ok P)(e:Sp.gv P 0 []=.error k): Sp.dD s=.error (4,(k:Int)):=by
 rw[pr h hb l];rcases JF P with ⟨i,j,b⟩|⟨j,T,b,_⟩
 .rw[e] at b;injection b with b;have m:Sp.gQ (Sp.dA P) (Sp.dQ P 0)=(4,(k:Int)):=by unfold Sp.gQ;rw[j];simp only;rw[<-b]
  rw[m];rfl
 .rw[e] at b;cases b
theorem xk(h:¬4000<s.size)(hb:Sp.bad s=none)(r:Sp.dZ (Sp.split s 10) 0 []=.ok P)(j:Sp.gv P 0 []=.ok T)(he:Sp.ge T P 0 []=.error k): Sp.dD s=.error (5,(k:Int)):=by
 rw[pr h hb r];rcases JF P with ⟨i,l,b⟩|⟨l,z,b,_,u⟩
 .rw[j] at b;cases b
 .rw[j] at b;injection b with b;subst b;rcases Mn u with ⟨i,m,e⟩|⟨m,e⟩
  .rw[he] at e;injection e with e;have y:Sp.gQ (Sp.dA P) (Sp.dQ P 0)=(5,(k:Int)):=by unfold Sp.gQ;rw[l];simp only;rw[m];simp only;rw[<-e]
   rw[y];rfl
  .rw[he] at e;cases e
structure Q8 (s:TM) (P:List (Option Sp.Ln)) (T:Sp.Tb) (E:List Sp.Ed):Prop where
 mg:Sp.da T
 QZ:T.Perm (Sp.fP (Sp.dA P))
 tl:T.length=Sp.nv (Sp.dA P)
 eq:E=Sp.gj (Sp.dA P) (Sp.dA P)
 el:E.length=Sp.oY (Sp.dA P)
 lo:Sp.first (Sp.loose (Sp.dA P)) (Sp.dA P).length=none
 spec:Sp.dD s=if 256<Sp.oY (Sp.dA P)\/64<Sp.nv (Sp.dA P) then .error (6,0) else .ok (Sp.dA P)
theorem py(h:¬4000<s.size)(hb:Sp.bad s=none)(u:Sp.dZ (Sp.split s 10) 0 []=.ok P)(m:Sp.gv P 0 []=.ok T){E:List Sp.Ed}(he:Sp.ge T P 0 []=.ok E): Q8 s P T E:=by
 rcases JF P with ⟨i,r,e⟩|⟨r,z,e,hS,j⟩
 .rw[m] at e;cases e
 .rw[m] at e;injection e with e;subst e;rcases Mn j with ⟨i,l,b⟩|⟨l,b⟩
  .rw[he] at b;cases b
  .rw[he] at b;injection b with b;refine⟨hS,j,by rw[j.length_eq,Sp.su],b,by rw[b,Sp.EG],l,?_⟩;rw[pr h hb u];have y:Sp.gQ (Sp.dA P) (Sp.dQ P 0)=if 256<Sp.oY (Sp.dA P)\/64<Sp.nv (Sp.dA P) then (6,0) else (0,0):=by unfold Sp.gQ;rw[r];simp only;rw[l];rfl
   rw[y];by_cases c:256<Sp.oY (Sp.dA P)\/64<Sp.nv (Sp.dA P)
   .rw[cg c,cg c];rfl
   .rw[cd c,cd c];rfl
end
section
open Go.RowKit Go.Shelf
attribute [local go_sem] Oper.semAt_some
theorem qu(F:Fence)(n:Nat)(j:F.fn 104)(b:F.round=none)(p0:Option Addr)(w:TJ):CallsIn F n prog 104 #[.pointer p0] w λe l=>e=.returned (.func (.func 158) #[] #[.pointer (some ⟨w.heap.size,0,none⟩)])/\l=w.alloc (.cells #[.pointer p0] 139):=by
 refine callsIn_of_wp func104 rfl j ?_ b;simp only[ntmps104,GK,cD,Bb,Nat.reduceAdd,Nat.reduceSub,Jx,JK,Kk,KA,sj,mf]
 gi_wp2
 go_ret;exact⟨rfl,rfl⟩
theorem rJ(F:Fence)(n:Nat)(X:F.fn 158)(G:F.round=none)(hn:1<=n)(l M t E:Nat)(p:Option Addr)(cap:Nat)(T:Sp.Tb)(hl:T.length<=100000)(J N:List (Int × Int)->TJ->Prop)(q:∀b x W,J b W->b.length<T.length->YieldAt F (n-1) prog l #[Z .i32 x.1,Z Y x.2] W λe A => (e=.returned (.bool true)/\J (b++[x]) A/\Below E W A)\/(e=.returned (.bool false)/\N (b++[x]) A))(W:TJ)(H:E<=W.heap.size)(I:AbidesFrom W.heap.size J)(s:W.cell? ⟨M,0,none⟩=some (.pointer (some ⟨t,0,none⟩)))(ht:W.cell? ⟨t,0,none⟩=some (.slice p T.length cap))(o:∀j (hj:j<T.length),∃g,p=some ⟨g,0,none⟩/\g<E/\W.cell? ⟨g,j*2,none⟩=some (Z .i32 T[j].1)/\W.cell? ⟨g,j*2+1,none⟩=some (Z Y T[j].2))(h0:J [] W):CallsIn F n prog 158 #[.func (.yield l) #[] #[],.pointer (some ⟨M,0,none⟩)] W λe A=>(∃v,e=.returned v)/\
   ((∃O,O=T/\J O A)\/(∃b,b <+: T/\N b A)):=by
 refine callsIn_of_wp func158 rfl X ?_ G;simp only[ntmps158,GK,cD,Bb,Nat.reduceAdd,Nat.reduceSub,Jx,JK,Kk,KA,sj,mf]
 gi_wp2
 gi_loopw [10] (λi wr=>∃k:Nat,k<=T.length/\i=Z Y k/\Hid (J (T.take k) wr)/\Below E W wr)
  (λi _=>T.length-(intOf i).toNat)
 case atStart=>exact⟨0,cy _,rfl,h0,cj _ _⟩
 case round =>
  obtain⟨k,hk,rfl,P,m⟩:=hrel;by_cases y:k<T.length
  .obtain⟨g,rfl,Q,R,S⟩:=o k y;have d0:=(m.cell (p:=⟨g,k*2,none⟩) Q).trans R;have d1:=(m.cell (p:=⟨g,k*2+1,none⟩) Q).trans S;have B:(k:Int)<(T.length:Int):=by omega
   obtain⟨x,K⟩:∃x,T[k]=x:=⟨_,rfl⟩
   rw[K] at d0 d1;have U:=cP K;clear K R S;have C:J (T.take k) (wr.alloc (.cells #[Z .i32 x.1,Z Y x.2] 265)):=I _ _ _ none (cO P) (World.grownBy_alloc _ _ none) (λr e=>by cases e);obtain⟨fn,V,assign,body,hy,hR⟩:=q _ x _ C (by rw[A3];omega);clear C
   gi_wp2
   refine hR.mono ?_;rintro e W3 (⟨rfl,D,L⟩|⟨rfl,u⟩)
   .have z:=cP D;clear D
    gi_wp2
    go_roundw
    case rel=>exact⟨k+1,by omega,by go_num,by show J _ _;rw[zQ y,cO U];exact cO z,m.trans ((TH.alloc (cx H m.size) _).trans L)⟩
    case measure=>simp[intOf];omega
   .have z:=cP u;clear u
    gi_wp2
    refine cr (cu rfl _ _ _) rfl ?_;exact⟨⟨_,rfl⟩,.inr ⟨_,⟨T.drop (k+1),by rw[<-cO U,<-zQ y,r4]⟩,cO z⟩⟩
  .have B:¬(k:Int)<(T.length:Int):=by omega
   obtain rfl:k=T.length:=by omega
   gi_wp2
   go_end0
   exact⟨⟨_,rfl⟩,.inl (by have h:=cO P;simpa using h)⟩
theorem kG(F:Fence)(n:Nat)(G:F.fn 158)(z:F.round=none)(H:1<=n)(m t y:Nat)(p:Option Addr)(cap:Nat)(T:Sp.Tb)(I:T.length<=100000)(w:TJ)(r:m<w.heap.size)(b:y<=w.heap.size)(A:t<w.heap.size)(B:w.cell? ⟨m,0,none⟩=some (.pointer (some ⟨t,0,none⟩)))(ht:w.cell? ⟨t,0,none⟩=some (.slice p T.length cap))(K:∀j (E:j<T.length),∃g,p=some ⟨g,0,none⟩/\g<y/\w.cell? ⟨g,j*2,none⟩=some (Z .i32 T[j].1)/\w.cell? ⟨g,j*2+1,none⟩=some (Z Y T[j].2)):SeqStopsK F n prog 158 #[.pointer (some ⟨m,0,none⟩)] (λx:Int × Int=>#[Z .i32 x.1,Z Y x.2]) (Below y) (λL=>L=T) (λC=>C <+: T) T.length w:=λl J M W u N _ O P =>
 rJ F n G z H l m t y p cap T I J M O W (cx b u.size) N ((u.cell (p:=⟨m,0,none⟩) r).trans B) ((u.cell (p:=⟨t,0,none⟩) A).trans ht)
  (λj E=>by obtain⟨g,e,D,Q,R⟩:=K j E;exact⟨g,e,D,(u.cell (p:=⟨g,j*2,none⟩) (dT D b)).trans Q,(u.cell (p:=⟨g,j*2+1,none⟩) (dT D b)).trans R⟩) P
end
section
open Go.RowKit Go.Shelf
attribute [local go_sem] Oper.semAt_some
structure G2 (w:TJ) (G:Nat) (v u x:TK) (T:List (Int × Int)):Prop where
 lt:G<w.heap.size
 blk:w.heap[G]?=some (.cells #[v,u,x] 68 (0,0))
 r0:w.ownsRow (G+1) 21 1 v T.length (T.map λp=>Z .i32 p.1)
 r1:w.ownsRow (G+1) 2 1 u T.length (T.map λp=>Z Y p.2)
variable {G t:Nat}{u x v:TK}{w:TJ}
theorem dX(h:w.heap[G]?=some (.cells #[v,u,x] t (0,0))): w.cell? ⟨G,0,none⟩=some v/\w.cell? ⟨G,1,none⟩=some u/\w.cell? ⟨G,2,none⟩=some x/\∀j,w.frozen? ⟨G,j,none⟩=false:=by
 refine⟨by simp[World.cell?,h],by simp[World.cell?,h],by simp[World.cell?,h],λj=>by simp[World.frozen?,h]⟩
theorem xU(h:w.heap[G]?=some (.cells #[v,u,x] t (0,0)))(v':TK): (w.setCell ⟨G,0,none⟩ v').heap[G]?=some (.cells #[v',u,x] t (0,0)):=by
 obtain⟨b,j⟩:=cB.1 h
 show (w.heap.modify G _)[G]?=_
 rw[Array.getElem?_eq_getElem (by rw[Array.size_modify];exact b),Array.getElem_modify_self,j]
 rfl
theorem xX(h:w.heap[G]?=some (.cells #[v,u,x] t (0,0)))(v':TK): (w.setCell ⟨G,1,none⟩ v').heap[G]?=some (.cells #[v,v',x] t (0,0)):=by
 obtain⟨b,j⟩:=cB.1 h
 show (w.heap.modify G _)[G]?=_
 rw[Array.getElem?_eq_getElem (by rw[Array.size_modify];exact b),Array.getElem_modify_self,j]
 rfl
variable {size e:Nat}{xs:List TK}
theorem I8{X b:TJ}{j:Option Nat}{base k:Nat}(y:X.ownsRow base e size v k xs)(A:X.grownBy b j)(l:∀r,j=some r->∃o:Obj,X.heap[r]?=some o/\o.isCells=false): b.ownsRow base e size v k xs:=by
 refine y.kept A ?_;rcases y.2 with ⟨rfl,_⟩|⟨g,B,C,rfl,_,m,_⟩
 .exact .inl rfl
 .refine .inr λD=>?_
  obtain⟨o,z,E⟩:=l g (by simpa [Value.ownBlock] using D.symm);rw[m] at z;cases z;cases E
variable {T:List (Int × Int)}
theorem G2.qA{X b:TJ}{l:Option Nat}(h:G2 X G v u x T)(m:X.grownBy b l)(j:∀r,l=some r->∃o:Obj,X.heap[r]?=some o/\o.isCells=false): G2 b G v u x T:=by
 have y:some G≠l:=λe=>by obtain⟨o,z,A⟩:=j G e.symm;rw[h.blk] at z;cases z;cases A
 exact⟨dT h.lt m.size,(m.block G h.lt y).trans h.blk,I8 h.r0 m j,I8 h.r1 m j⟩
theorem G2.own(G:Nat)(x:TK):Own (λ(T:List (Int × Int)) W=>∃v u,G2 W G v u x T):=by
 rintro s X b l ⟨v,u,h⟩ m j;exact⟨v,u,h.qA m j⟩
variable {n:Nat}
theorem uq{B:Nat}(h:w.ownsRow B e size v n xs)(b:G<B): some G≠v.ownBlock:=λe=>by have:=(h.lt G e.symm).1;omega
variable {w1:TJ}{o:Obj}
theorem G2.half{v':TK}{a:Int}(h:G2 w G v u x T)(m:w1.ownsRow (G+1) 21 1 v' (T.length+1) ((T.map λp=>Z .i32 p.1)++[Z .i32 a]))(b:(w.alloc o).grownBy w1 v.ownBlock):w1.heap[G]?=some (.cells #[v,u,x] 68 (0,0))/\(w1.setCell ⟨G,0,none⟩ v').heap[G]?=some (.cells #[v',u,x] 68 (0,0))/\
  (w1.setCell ⟨G,0,none⟩ v').ownsRow (G+1) 21 1 v' (T.length+1) ((T.map λp=>Z .i32 p.1)++[Z .i32 a])/\
  (w1.setCell ⟨G,0,none⟩ v').ownsRow (G+1) 2 1 u T.length (T.map λp=>Z Y p.2)/\G<w1.heap.size/\w.heap.size+1<=w1.heap.size:=by
 have r:=h.lt;have j:=b.size;simp at j;have l:w1.heap[G]?=some (.cells #[v,u,x] 68 (0,0)):=(b.block G (by simp;omega) (uq h.r0 (by omega))).trans ((cN w o G r).trans h.blk);exact⟨l,xU l v',cI m (by show G<G+1;omega) _,cI (jE (h.r0.alloc o) (h.r1.alloc o) (by decide) b) (by show G<G+1;omega) _,by omega,j⟩
theorem G2.full{b:TK}{p:Int × Int}(m:G<w.heap.size)(hb:w.heap[G]?=some (.cells #[v,u,x] 68 (0,0)))(r:w.ownsRow (G+1) 21 1 v (T.length+1) ((T.map λp=>Z .i32 p.1)++[Z .i32 p.1]))(h1:w.ownsRow (G+1) 2 1 u T.length (T.map λp=>Z Y p.2))(y:w1.ownsRow (G+1) 2 1 b (T.length+1) ((T.map λp=>Z Y p.2)++[Z Y p.2]))(j:(w.alloc o).grownBy w1 u.ownBlock):w1.heap[G]?=some (.cells #[v,u,x] 68 (0,0))/\G2 (w1.setCell ⟨G,1,none⟩ b) G v b x (T++[p]):=by
 have z:=j.size;simp at z;have l:w1.heap[G]?=some (.cells #[v,u,x] 68 (0,0)):=(j.block G (by simp;omega) (uq h1 (by omega))).trans ((cN w o G m).trans hb);refine⟨l,⟨by simp[World.setCell];omega,xX l b,?_,?_⟩⟩
 .have:=cI (jE (h1.alloc o) (r.alloc o) (by decide) j) (by show G<G+1;omega) (a:=⟨G,1,none⟩) b;simpa using this
 .have:=cI y (by show G<G+1;omega) (a:=⟨G,1,none⟩) b;simpa using this
theorem rD{b:TJ}(hb:Below G b w)(y:G<w.heap.size)(l:w.ownsRow (G+1) e size v n xs)(m:(w.alloc o).grownBy w1 v.ownBlock)(j:Nat)(u:TK): Below G b (w1.setCell ⟨G,j,none⟩ u):=((hb.alloc (by omega) o).grown m (by simp;omega) (λk r=>by have:=(l.lt k r).1;omega)).setCell TG _
theorem Bi{base:Nat}(r:w.ownsRow base e size v n xs)(y:(w.alloc o).grownBy w1 v.ownBlock)(a:Addr)(u:TK): KeepsOthers w (w1.setCell a u):=by
 refine((KeepsOthers.alloc w o).trans (KeepsOthers.of_grownBy y λj B l m=>?_)).trans (KeepsOthers.setCell _ _ _);rcases(r.alloc o).2 with ⟨rfl,_⟩|⟨g,z,A,rfl,_,b,_⟩
 .simp[Value.ownBlock] at l
 .obtain rfl:g=j:=by simpa [Value.ownBlock] using l
  rw[b] at m;cases m;rfl
theorem A1(w:TJ)(a:Addr)(v x:TK)(t:Nat):∀j u,[x][j]?=some u->((w.setCell a v).alloc (.cells #[x] t)).cell? ((⟨w.heap.size,0,none⟩:Addr).add j)=some u:=by
 have h:=cell_one_new (w.setCell a v) x t;have b:(w.setCell a v).heap.size=w.heap.size:=by simp[World.setCell]
 rw[b] at h;exact h
theorem Fk(h:w.heap[G]?=some (.cells #[v,u,x] t (0,0)))(v':TK): (w.setCell ⟨G,2,none⟩ v').heap[G]?=some (.cells #[v,u,v'] t (0,0)):=by
 obtain⟨b,j⟩:=cB.1 h
 show (w.heap.modify G _)[G]?=_
 rw[Array.getElem?_eq_getElem (by rw[Array.size_modify];exact b),Array.getElem_modify_self,j]
 rfl
theorem mV(w:TJ)(G j:Nat)(v:TK):w.grownBy (w.setCell ⟨G,j,none⟩ v) (some G):=⟨rfl,rfl,rfl,by simp[World.setCell],λk _ b=>cG _ _ _ k (λe=>b (by rw[e]))⟩
theorem ik{B m:Nat}(h:w.ownsRow m e size v n xs)(y:B<=m): w.ownsRow B e size v n xs:=by
 obtain⟨z,b⟩:=h;refine⟨z,?_⟩;rcases b with b|⟨g,j,l,A,C,r⟩
 .exact .inl b
 .exact .inr ⟨g,j,l,A,cx y C,r⟩
def KE(w:TJ)(R:Nat)(v u x:TK):TJ:=((w.setCell ⟨R,0,none⟩ v).setCell ⟨R,1,none⟩ u).setCell ⟨R,2,none⟩ x
theorem C5(w:TJ)(R:Nat)(v u x:TK):w.grownBy (KE w R v u x) (some R):=dv (dv (mV _ _ _ _) (mV _ _ _ _)) (mV _ _ _ _)
theorem Jm{R:Nat}{a b c:TK}(h:w.heap[R]?=some (.cells #[a,b,c] t (0,0)))(v u x:TK): (KE w R v u x).heap[R]?=some (.cells #[v,u,x] t (0,0)):=Fk (xX (xU h v) u) x
theorem wB(t B Bt:Nat)(x:TK)(T:Sp.Tb)(E:List Sp.Ed)(w:TJ)(hT:oG w Bt t T)(aM:T.length<=5000)(hE:w.ownsRow B 162 3 x E.length (dh E))(ah:E.length<=5000)(hB:B<=w.heap.size):TL prog 67 #[.pointer (some ⟨t,0,none⟩),x] w λe w'=>∃v u b,e=.returned (dG v u x)/\w'.ownsRow B 21 1 v T.length (T.map λp=>Z .i32 p.1)/\w'.ownsRow B 2 1 u T.length (T.map λp=>Z Y p.2)/\
   w'.ownsRow B 162 3 x E.length (dh b)/\St E b/\Ord b 0 E.length/\Below B w w':=by
 obtain⟨tv,q,ab⟩:=hT;obtain⟨p,ad,rfl,M⟩:=dM ab;obtain⟨F,H,rfl,_⟩:=dd hE;obtain⟨i0,ai,aj,ak,an⟩:=fa info_i32;obtain⟨i1,ao,aq,ar,au⟩:=fa info_i64;refine(FY (n:=5)).1 ?_;refine callsIn_of_wp_marks func67 rfl trivial ?_ rfl;simp only[ntmps67,GK,cD,Bb,Nat.reduceAdd,Nat.reduceSub,Jx,JK,Kk,KA,sj,mf]
 gi_wp2_with (refine⟨trivial,?_⟩;gi_at_call 104;refine(qu _ _ trivial rfl _ _).mono ?_;rintro e w' ⟨rfl,rfl⟩)
 obtain⟨L,C⟩:∃L,(((w.alloc (.cells #[.slice none 0 0,.slice none 0 0,.slice none 0 0] 68)).alloc (.cells #[.slice none 0 0,.slice none 0 0,.slice F E.length H] 68)).alloc (.cells #[.pointer (some ⟨t,0,none⟩)] 139))=L:=⟨_,rfl⟩
 have aN:L.heap.size=w.heap.size+3:=by rw[<-C];simp
 have N:TI w L:=by rw[<-C];exact(((cj _ w).alloc TG _).alloc (by simp) _).alloc (by simp;omega) _
 have av:L.heap[w.heap.size]?=some (.cells #[.slice none 0 0,.slice none 0 0,.slice none 0 0] 68 (0,0)):=by
  rw[<-C,cN _ _ _ (by simp;omega),cN _ _ _ (by simp)];exact G1 w _
 have aw:L.heap[w.heap.size+1]?=some (.cells #[.slice none 0 0,.slice none 0 0,.slice F E.length H] 68 (0,0)):=by
  rw[<-C,cN _ _ _ (by simp)];have:=G1 (w.alloc (.cells #[.slice none 0 0,.slice none 0 0,.slice none 0 0] 68)) (.cells #[.slice none 0 0,.slice none 0 0,.slice F E.length H] 68);rwa [ee] at this
 have ax:L.cell? ⟨w.heap.size+1+1,0,none⟩=some (.pointer (some ⟨t,0,none⟩)):=by
  have:=G1 ((w.alloc (.cells #[.slice none 0 0,.slice none 0 0,.slice none 0 0] 68)).alloc (.cells #[.slice none 0 0,.slice none 0 0,.slice F E.length H] 68)) (.cells #[.pointer (some ⟨t,0,none⟩)] 139);rw[ee,ee,C] at this;simp[World.cell?,this]
 have ay:t<w.heap.size:=(cB.1 q).1;have az:L.cell? ⟨t,0,none⟩=some (.slice p T.length ad):=by
  rw[N.cell (p:=⟨t,0,none⟩) ay];simp[World.cell?,q]
 have aA:∀j (hj:j<T.length),∃g,p=some ⟨g,0,none⟩/\g<w.heap.size/\L.cell? ⟨g,j*2,none⟩=some (Z .i32 T[j].1)/\L.cell? ⟨g,j*2+1,none⟩=some (Z Y T[j].2):=λj hj=>by
  obtain⟨g,e,c0,c1⟩:=M j hj;have hg:=cE w _ c0;exact⟨g,e,hg,(N.cell (p:=⟨g,j*2,none⟩) hg).trans c0,(N.cell (p:=⟨g,j*2+1,none⟩) hg).trans c1⟩
 have aO:=cW hE N;rw[C];clear C M q ab;refine wpIn_rangeFunc_ownG rfl (by omega) (gf:=158) (lb := #[.pointer (some ⟨w.heap.size+1+1,0,none⟩)]) rfl trivial (enters_of func158 (by kernel_rfl) rfl)
  (kG _ _ trivial rfl (by omega) (w.heap.size+1+1) t w.heap.size p ad T (by omega) L (by omega) (by omega) (by omega) ax az aA) belowK_t (belowK_b (by omega)) (cj _ _) (λ_=>rfl)
  (λO W=>(∃v u,G2 W (w.heap.size+1) v u (.slice F E.length H) O)/\Below (w.heap.size+1) L W)
  (λ_ _ _=>False)
  (OwnFrom.and (Own.from (G2.own _ _) _) (ownFrom_below (by omega) (by omega)))
  (λ_ _ _ _ _ hs _ _=>hs)
  ⟨⟨_,_,⟨by omega,aw,fc _ _ _ _,fc _ _ _ _⟩⟩,cj _ _⟩
  (λy=>{ tmps := #[.pointer (some ⟨t,0,none⟩),.slice F E.length H,undef,undef,.pointer (some ⟨w.heap.size,0,none⟩),.pointer (some ⟨w.heap.size+1,0,none⟩),Z .i32 y.1,Z Y y.2,.slice F E.length H,.agg #[.slice none 0 0,.slice none 0 0,.slice F E.length H],.pointer (some ⟨t,0,none⟩),.func (.func 158) #[] #[.pointer (some ⟨w.heap.size+1+1,0,none⟩)],Z .i32 y.1,Z Y y.2,undef,undef,undef,undef,undef,undef,undef,undef,undef,undef,undef,undef,undef,undef,undef,undef],defers:=[] }) ?assign ?body ?done ?stop
 case assign =>
  intro l y W K hK
  gi_wp2
  exact hK
 case body =>
  rintro l O y W ⟨⟨v,u,z⟩,S⟩ aP;obtain⟨s,kv,rfl,_⟩:=dd z.r0;obtain⟨pu,ku,rfl,_⟩:=dd z.r1;obtain⟨c0,c1,c2,cf⟩:=dX z.blk;have U:=z.lt
  gi_wp2_with (first
  |(gi_at_builtin;refine wpListIn_append_own _ rfl _ _ 65 rfl (w.heap.size+1+1) 21 i0 (Z .i32 0) 1 4 underlying65 ai aj ak an rfl (by decide) (.slice s O.length kv) _ _ rfl (z.r0.alloc _) ⟨W.heap.size,0,none⟩ 1 1 [Z .i32 y.1] rfl rfl (cell_one_new _ _ _) (by simp[Value.oneCell']) (by unfold maxLen;omega) (by omega) (by simp;omega) ?_;intro v' w1 P m _;obtain⟨g1,aK,rfl⟩:=ownsRow_succ P;obtain⟨b1,b2,r2,s2,l2,m2⟩:=z.half P m;obtain⟨q0,q1,q2,qf⟩:=dX b1;have aQ:=qf 0;obtain⟨p0,p1,p2,pf⟩:=dX b2;have aR:=pf 1)
  |(gi_at_builtin;refine wpListIn_append_own _ rfl _ _ 30 rfl (w.heap.size+1+1) 2 i1 (Z Y 0) 1 8 underlying30 ao aq ar au rfl (by decide) (.slice pu O.length ku) _ _ rfl (s2.alloc _) ⟨w1.heap.size,0,none⟩ 1 1 [Z Y y.2] rfl rfl (A1 _ _ _ _ _) (by simp[Value.oneCell']) (by unfold maxLen;omega) (by omega) (by simp[World.setCell];omega) ?_;intro u' w2 Q r _;obtain⟨g2,aL,rfl⟩:=ownsRow_succ Q;obtain⟨b3,aB⟩:=G2.full (p:=y) (by simp[World.setCell];omega) b2 r2 s2 Q r;obtain⟨e0,e1,e2,ef⟩:=dX b3;have aS:=ef 1))
  exact⟨((Bi z.r0 m _ _).trans (Bi s2 r _ _)).from _,(rD (rD (TH) U z.r0 m 0 _) (by simp[World.setCell];omega) s2 r 1 _).mono (by omega),⟨_,_,aB⟩,rD (rD S U z.r0 m 0 _) (by simp[World.setCell];omega) s2 r 1 _⟩
 case done =>
  rintro D R W hD rfl ⟨⟨v,u,z⟩,S⟩ hK;obtain⟨s,kv,rfl,_⟩:=dd z.r0;obtain⟨pu,ku,rfl,_⟩:=dd z.r1;obtain⟨c0,c1,c2,cf⟩:=dX z.blk;have ae:TI w W:=N.trans (S.mono (by omega));have I:=cW hE ae;have aC:W.heap[w.heap.size]?=some (.cells #[.slice none 0 0,.slice none 0 0,.slice none 0 0] 68 (0,0)):=(S.block _ (by omega)).trans av;have aD:=(cB.1 hK).1;have U:=z.lt;have V:∀k,w.heap.size<=k->some k≠(Value.slice F E.length H).ownBlock:=λk hk e=>by have:=(hE.lt k e.symm).2;omega
  gi_wp2_with (refine⟨trivial,?_⟩;gi_at_call 105;refine(FY.2 (Fa B E.length _ E _ rfl I ah)).mono ?_;rintro e W1 ⟨rfl,b,aE,A,aF,af⟩;have aG:=(A.block _ U (V _ (by omega))).trans z.blk;obtain⟨k0,k1,k2,kf⟩:=dX aG;have ag:=(A.block w.heap.size (by omega) (V _ (by omega))).trans aC;obtain⟨n0,n1,n2,nf⟩:=dX ag;have aT:=nf 0;have aU:=nf 1;have aV:=nf 2)
  have aH:=(A.block D aD (V _ (by omega))).trans hK;have aW:=A.size;obtain⟨W2,aa⟩:∃W2,KE W1 w.heap.size (.slice s R.length kv) (.slice pu R.length ku) (.slice F E.length H)=W2:=⟨_,rfl⟩
  have J:W1.grownBy W2 (some w.heap.size):=by rw[<-aa];exact C5 _ _ _ _ _
  have aI:W2.heap[w.heap.size]?=some (.cells #[.slice s R.length kv,.slice pu R.length ku,.slice F E.length H] 68 (0,0)):=by rw[<-aa];exact Jm ag _ _ _
  have aX:=J.size;have X:=(J.block D (by omega) (by simp;omega)).trans aH;have aJ:=((Tl W2 D (.deferred none)).block w.heap.size (by omega) (by simp;omega)).trans aI;obtain⟨m0,m1,m2,_⟩:=dX aJ
  show bodyPostM _ _ _ _ _ _ _ (KE W1 w.heap.size (.slice s R.length kv) (.slice pu R.length ku) (.slice F E.length H))
  rw[aa];refine⟨by simp,.inl ⟨_,_,rfl,run_takeDeferred X,?_⟩⟩;refine⟨dG (.slice s R.length kv) (.slice pu R.length ku) (.slice F E.length H),by simp[results,results67,go_sem,dG,m0,m1,m2],.slice s R.length kv,.slice pu R.length ku,b,rfl,?_,?_,?_,aF,af,?_⟩
  .exact ik (ownsRow_putObj ((jE I z.r0 (by decide) A).kept J (.inr (uq (jE I z.r0 (by decide) A) (by omega)).symm)) _ X rfl) (by omega)
  .exact ik (ownsRow_putObj ((jE I z.r1 (by decide) A).kept J (.inr (uq (jE I z.r1 (by decide) A) (by omega)).symm)) _ X rfl) (by omega)
  .exact ownsRow_putObj (aE.kept J (.inr (V _ TG).symm)) _ X rfl
  .exact((((ae.mono hB).grown A (by omega) (λk hk=>(I.lt k hk).1)).grown J (by omega) (λk hk=>by cases hk;exact hB))).grown (Tl W2 D _) (by omega) (λk hk=>by cases hk;omega)
 case stop =>
  rintro D c O W _ _ h _;exact h.elim
end
section
open Go.RowKit
abbrev oJ:TK:=dG (.slice none 0 0) (.slice none 0 0) (.slice none 0 0)
theorem jf(a b:Int)(w:TJ):TL prog 61 #[Z Y a,Z Y b] w λe j=>e=.returned (.tuple #[oJ,Z Y a,Z Y b])/\TI w j:=by
 go_enter func61,ntmps61;go_wp2;refine cr (v := .tuple #[oJ,Z Y a,Z Y b]) (by simp[results,results61,go_sem,dG]) rfl ⟨rfl,?_⟩;exact TH.alloc TG _
def Small(s:TM):Prop := ∀L,Sp.dD s=.ok L->(Sp.vs L (Sp.nv L)).length<=64/\(Sp.es L (Sp.nv L) (Sp.nv L)).length<=256
theorem ks{s:TM}{e:Int × Int}(h:Sp.dD s=.error e):Small s:=λL b=>by rw[h] at b;cases b
def qe(s:TM)(w:TJ)(e:Ending)(w':TJ):Prop:=pH s w e w'/\Small s
variable {w:TJ}
theorem eG{w':TJ}(h:eA w)(hb:TI w w'): eA w':=by
 obtain⟨m,b⟩:=h;exact⟨m,(hb.cell (cE w _ b)).trans b⟩
def nK(w w':TJ):Prop:=TI w w'/\w.heap.size+1<=w'.heap.size/\w'.heap[w.heap.size]?=some (.cells #[.slice none 0 0,.slice none 0 0,.slice none 0 0] 68 (0,0))
theorem nK.new(w:TJ):nK w (w.alloc (.cells #[.slice none 0 0,.slice none 0 0,.slice none 0 0] 68)):=⟨TH.alloc TG _,by simp,G1 w _⟩
theorem nK.next{a b:TJ}(h:nK w a)(hb:TI a b): nK w b:=⟨h.1.trans (hb.mono (by have:=h.2.1;omega)),cx h.2.1 hb.size,(hb.block _ (by have:=h.2.1;omega)).trans h.2.2⟩
theorem nK.Qk{a b:TJ}{n:Nat}(h:nK w a)(hb:Below n a b)(e:w.heap.size+1<=n): nK w b:=⟨h.1.trans (hb.mono (by omega)),cx h.2.1 hb.size,(hb.block _ (by omega)).trans h.2.2⟩
theorem zD(s:TM)(w:TJ)(h:4000<s.size):TL prog 37 #[.string s] w (qe s w):=by
 have r:=cP (sA h);have G:(4000:Int)<(s.size:Int):=by omega
 clear h;go_enter func37,ntmps37;go_wp2_with fail;have u:=nK.new w;refine(jf 1 0 _).mono ?_;rintro e H ⟨rfl,b⟩;have j:=u.next b
 obtain⟨y,z,A,l⟩:=dX j.2.2;have B:=l 0;have C:=l 1;have D:=l 2;have F:=j.2.1;have m:=j.1;clear b;unfold oJ dG;go_wp2;refine cr (v := .tuple #[oJ,Z Y 1,Z Y 0]) (by simp[results,results37,go_sem,dG,y,z,A]) rfl ⟨jr (cO r) ?_,ks (cO r)⟩;exact((m.setCell TG _).setCell TG _).setCell TG _
theorem CH(s:TM)(w:TJ)(A:s.size<=4000)(B:Lib.Utf8Tabs 3 4 w)(hS:eA w){i:Nat}(hb:Sp.bad s=some i):TL prog 37 #[.string s] w (qe s w):=by
 have y:=cP (uZ (by omega) hb);have C:=cP hb;have M:¬(4000:Int)<(s.size:Int):=by omega
 clear hb;go_enter func37,ntmps37;go_wp2_with fail;have z:=nK.new w;refine(fN s _ A (eD B z.1)).mono ?_;rintro e N ⟨b,j⟩;rw[cO C] at j;obtain rfl:=j;have D:=z.next b
 clear b;go_wp2_with fail;refine(jf 2 (i:Nat) _).mono ?_;rintro e O ⟨rfl,l⟩;have m:=D.next l
 obtain⟨F,G,H,r⟩:=dX m.2.2;have I:=r 0;have J:=r 1;have K:=r 2;have L:=m.2.1;have u:=m.1;clear l;unfold oJ dG;go_wp2;refine cr (v := .tuple #[oJ,Z Y 2,Z Y (i:Nat)]) (by simp[results,results37,go_sem,dG,F,G,H]) rfl ⟨jr (cO y) ?_,ks (cO y)⟩;exact((u.setCell TG _).setCell TG _).setCell TG _
variable {k:Nat}
theorem zZ(s:TM)(w:TJ)(B:s.size<=4000)(H:Lib.Utf8Tabs 3 4 w)(hS:eA w)(hb:Sp.bad s=none)(u:Sp.dZ (Sp.split s 10) 0 []=.error k): TL prog 37 #[.string s] w (qe s w):=by
 have C:=cP (tf (by omega) hb u);have D:=cP hb;have I:=cP u;have S:¬(4000:Int)<(s.size:Int):=by omega
 clear hb u;go_enter func37,ntmps37;go_wp2_with fail;have F:=nK.new w;refine(fN s _ B (eD H F.1)).mono ?_;rintro e U ⟨b,j⟩;rw[cO D] at j;obtain rfl:=j;have G:=F.next b
 clear b;go_wp2_with fail;refine(gU s _ B (Sp.nE (cO D)) (eG hS G.1)).mono ?_;rintro e V ⟨l,m⟩;rw[cO I] at m;obtain rfl:=m;have J:=G.next l
 clear l;go_wp2_with fail;refine(jf 3 (k:Nat) _).mono ?_;rintro e W ⟨rfl,r⟩;have y:=J.next r
 obtain⟨K,L,M,z⟩:=dX y.2.2;have N:=z 0;have O:=z 1;have Q:=z 2;have R:=y.2.1;have A:=y.1;clear r;unfold oJ dG;go_wp2;refine cr (v := .tuple #[oJ,Z Y 3,Z Y (k:Nat)]) (by simp[results,results37,go_sem,dG,K,L,M]) rfl ⟨jr (cO C) ?_,ks (cO C)⟩;exact((A.setCell TG _).setCell TG _).setCell TG _
variable {P:List (Option Sp.Ln)}
theorem oK{s:TM}(e:s.size<=4000)(h:Sp.dZ (Sp.split s 10) 0 []=.ok P): P.length<=5000:=by
 have b:=Sp.NV _ _ _ _ h;have j:=(Sp.jk s 10).2;simp at b;omega
theorem yR(s:TM)(w:TJ)(B:s.size<=4000)(N:Lib.Utf8Tabs 3 4 w)(hS:eA w)(hb:Sp.bad s=none)(A:Sp.dZ (Sp.split s 10) 0 []=.ok P)(C:Sp.gv P 0 []=.error k): TL prog 37 #[.string s] w (qe s w):=by
 have J:=cP (uD (by omega) hb A C);have D:=oK B A;have K:=cP hb;have O:=cP A;have Q:=cP C;have hz:¬(4000:Int)<(s.size:Int):=by omega
 clear hb A C;go_enter func37,ntmps37;go_wp2_with fail;have L:=nK.new w;refine(fN s _ B (eD N L.1)).mono ?_;rintro e w1 ⟨b,j⟩;rw[cO K] at j;obtain rfl:=j;have M:=L.next b
 clear b;go_wp2_with fail;refine(gU s _ B (Sp.nE (cO K)) (eG hS M.1)).mono ?_;rintro e w2 ⟨l,m⟩;rw[cO O] at m;obtain⟨v2,rfl,r⟩:=m;obtain⟨R,S,rfl,F⟩:=mi r;have U:=M.next l
 clear l r;go_wp2_with fail;refine(fM R S P _ F D).mono ?_;rintro e w3 ⟨u,y⟩;rw[cO Q] at y;obtain rfl:=y;have V:=U.next u
 clear u;go_wp2_with fail;refine(jf 4 (k:Nat) _).mono ?_;rintro e wz ⟨rfl,z⟩;have G:=V.next z
 obtain⟨W,X,q,H⟩:=dX G.2.2;have t:=H 0;have p:=H 1;have o:=H 2;have g:=G.2.1;have I:=G.1;clear z;unfold oJ dG;go_wp2;refine cr (v := .tuple #[oJ,Z Y 4,Z Y (k:Nat)]) (by simp[results,results37,go_sem,dG,W,X,q]) rfl ⟨jr (cO J) ?_,ks (cO J)⟩;exact((I.setCell TG _).setCell TG _).setCell TG _
variable {T:Sp.Tb}
theorem Aa(s:TM)(w:TJ)(I:s.size<=4000)(W:Lib.Utf8Tabs 3 4 w)(hS:eA w)(hb:Sp.bad s=none)(H:Sp.dZ (Sp.split s 10) 0 []=.ok P)(J:Sp.gv P 0 []=.ok T)(he:Sp.ge T P 0 []=.error k): TL prog 37 #[.string s] w (qe s w):=by
 have O:=cP (xk (by omega) hb H J he);have l:=oK I H;have Q:=cP hb;have X:=cP H;have q:=cP J;have t:=cP he;have hz:¬(4000:Int)<(s.size:Int):=by omega
 clear hb H J he;go_enter func37,ntmps37;go_wp2_with fail;have R:=nK.new w;refine(fN s _ I (eD W R.1)).mono ?_;rintro e w1 ⟨m,r⟩;rw[cO Q] at r;obtain rfl:=r;have S:=R.next m
 clear m;go_wp2_with fail;refine(gU s _ I (Sp.nE (cO Q)) (eG hS S.1)).mono ?_;rintro e p ⟨u,y⟩;rw[cO X] at y;obtain⟨v2,rfl,z⟩:=y;obtain⟨U,V,rfl,b⟩:=mi z;have o:=S.next u
 clear u z;go_wp2_with fail;refine(fM U V P _ b l).mono ?_;rintro e w3 ⟨j,A⟩;rw[cO q] at A;obtain⟨rfl,B,K,g⟩:=A;have R3:=o.next j
 have C:=b.below j;clear b j;go_wp2_with fail;refine(iW U V p.heap.size _ P T _ C l B K (by omega)).mono ?_;rintro e w4 ⟨D,F⟩;rw[cO t] at F;obtain rfl:=F;have R4:=R3.next D
 clear D;go_wp2_with fail;refine(jf 5 (k:Nat) _).mono ?_;rintro e wz ⟨rfl,G⟩;have L:=R4.next G
 obtain⟨n0,n1,n2,M⟩:=dX L.2.2;have aa:=M 0;have ab:=M 1;have ad:=M 2;have ae:=L.2.1;have N:=L.1;clear G;unfold oJ dG;go_wp2;refine cr (v := .tuple #[oJ,Z Y 5,Z Y (k:Nat)]) (by simp[results,results37,go_sem,dG,n0,n1,n2]) rfl ⟨jr (cO O) ?_,ks (cO O)⟩;exact((N.setCell TG _).setCell TG _).setCell TG _
variable {E:List Sp.Ed}
theorem ym(s:TM)(w:TJ)(L:s.size<=4000)(hT:Lib.Utf8Tabs 3 4 w)(hS:eA w)(hb:Sp.bad s=none)(K:Sp.dZ (Sp.split s 10) 0 []=.ok P)(M:Sp.gv P 0 []=.ok T)(he:Sp.ge T P 0 []=.ok E)(S:64<T.length): TL prog 37 #[.string s] w (qe s w):=by
 have U:=cP (py (by omega) hb K M he);have z:=oK L K;have V:=cP hb;have HL:=cP K;have HV:=cP M;have HE:=cP he;have W:Hid (Sp.dD s=.error (6,0)):=by
  show _=_
  rw[(cO U).spec,cg (Or.inr (by rw[<-(cO U).tl];exact S))]
 have aa:(64:Int)<(T.length:Int):=by omega
 clear S;have hz:¬(4000:Int)<(s.size:Int):=by omega
 clear hb K M he;go_enter func37,ntmps37;go_wp2_with fail;have X:=nK.new w;refine(fN s _ L (eD hT X.1)).mono ?_;rintro e w1 ⟨A,B⟩;rw[cO V] at B;obtain rfl:=B;have q:=X.next A
 clear A;go_wp2_with fail;refine(gU s _ L (Sp.nE (cO V)) (eG hS q.1)).mono ?_;rintro e w2 ⟨C,D⟩;rw[cO HL] at D;obtain⟨v2,rfl,F⟩:=D;obtain⟨t,p,rfl,l⟩:=mi F;have R2:=q.next C
 clear C F;go_wp2_with fail;refine(fM t p P _ l z).mono ?_;rintro e w3 ⟨m,G⟩;rw[cO HV] at G;obtain⟨rfl,b,N,ab⟩:=G;have o:=R2.next m
 have j:=l.below m;clear l m;go_wp2_with fail;refine(iW t p w2.heap.size _ P T _ j z b N (by omega)).mono ?_;rintro e w4 ⟨r,H⟩;rw[cO HE] at H;obtain⟨v4,rfl,u,ad⟩:=H;obtain⟨p4,c4,rfl,_⟩:=dd u;have R4:=o.next r
 have y:=b.below r;have g:=ik u o.2.1;clear j r b u;go_wp2_with fail;refine(vr _ _ T _ y).mono ?_;rintro e w5 ⟨rfl,I⟩;obtain rfl:=I.symm;clear I;go_wp2_with fail;refine(jf 6 0 _).mono ?_;rintro e wz ⟨rfl,J⟩;have O:=R4.next J
 obtain⟨n0,n1,n2,Q⟩:=dX O.2.2;have ae:=Q 0;have af:=Q 1;have ag:=Q 2;have ah:=O.2.1;have R:=O.1;clear J;unfold oJ dG;go_wp2;refine cr (v := .tuple #[oJ,Z Y 6,Z Y 0]) (by simp[results,results37,go_sem,dG,n0,n1,n2]) rfl ⟨jr (cO W) ?_,ks (cO W)⟩;exact((R.setCell TG _).setCell TG _).setCell TG _
theorem zb(s:TM)(w:TJ)(L:s.size<=4000)(hT:Lib.Utf8Tabs 3 4 w)(hS:eA w)(hb:Sp.bad s=none)(K:Sp.dZ (Sp.split s 10) 0 []=.ok P)(M:Sp.gv P 0 []=.ok T)(he:Sp.ge T P 0 []=.ok E)(l:¬64<T.length)(hm:256<E.length): TL prog 37 #[.string s] w (qe s w):=by
 have S:=cP (py (by omega) hb K M he);have A:=oK L K;have U:=cP hb;have HL:=cP K;have HV:=cP M;have HE:=cP he;have V:Hid (Sp.dD s=.error (6,0)):=by
  show _=_
  rw[(cO S).spec,cg (Or.inl (by rw[<-(cO S).el];exact hm))]
 have W:¬(64:Int)<(T.length:Int):=by omega
 have aa:(256:Int)<(E.length:Int):=by omega
 have hz:¬(4000:Int)<(s.size:Int):=by omega
 clear hb K M he;go_enter func37,ntmps37;go_wp2_with fail;have X:=nK.new w;refine(fN s _ L (eD hT X.1)).mono ?_;rintro e w1 ⟨B,l⟩;rw[cO U] at l;obtain rfl:=l;have q:=X.next B
 clear B;go_wp2_with fail;refine(gU s _ L (Sp.nE (cO U)) (eG hS q.1)).mono ?_;rintro e w2 ⟨C,D⟩;rw[cO HL] at D;obtain⟨v2,rfl,F⟩:=D;obtain⟨t,p,rfl,m⟩:=mi F;have R2:=q.next C
 clear C F;go_wp2_with fail;refine(fM t p P _ m A).mono ?_;rintro e w3 ⟨r,G⟩;rw[cO HV] at G;obtain⟨rfl,b,N,ab⟩:=G;have o:=R2.next r
 have j:=m.below r;clear m r;go_wp2_with fail;refine(iW t p w2.heap.size _ P T _ j A b N (by omega)).mono ?_;rintro e w4 ⟨u,H⟩;rw[cO HE] at H;obtain⟨v4,rfl,y,ad⟩:=H;obtain⟨p4,c4,rfl,_⟩:=dd y;have R4:=o.next u
 have z:=b.below u;have g:=ik y o.2.1;clear j u b y;go_wp2_with fail;refine(vr _ _ T _ z).mono ?_;rintro e w5 ⟨rfl,I⟩;obtain rfl:=I.symm;clear I;go_wp2_with fail;refine(jf 6 0 _).mono ?_;rintro e wz ⟨rfl,J⟩;have O:=R4.next J
 obtain⟨n0,n1,n2,Q⟩:=dX O.2.2;have ae:=Q 0;have af:=Q 1;have ag:=Q 2;have ah:=O.2.1;have R:=O.1;clear J;unfold oJ dG;go_wp2;refine cr (v := .tuple #[oJ,Z Y 6,Z Y 0]) (by simp[results,results37,go_sem,dG,n0,n1,n2]) rfl ⟨jr (cO V) ?_,ks (cO V)⟩;exact((R.setCell TG _).setCell TG _).setCell TG _
theorem Ga(s:TM)(w:TJ)(hs:s.size<=4000)(hT:Lib.Utf8Tabs 3 4 w)(hS:eA w)(hb:Sp.bad s=none)(g:Sp.dZ (Sp.split s 10) 0 []=.ok P)(hv:Sp.gv P 0 []=.ok T)(he:Sp.ge T P 0 []=.ok E)(z:¬64<T.length)(A:¬256<E.length): TL prog 37 #[.string s] w (qe s w):=by
 have r:=cP (py (by omega) hb g hv he);have I:=oK hs g;have HB:=cP hb;have HL:=cP g;have HV:=cP hv;have HE:=cP he;have HP:Hid (Sp.dD s=.ok (Sp.dA P)):=by
  show _=_
  rw[(cO r).spec,cd (by rw[<-(cO r).el,<-(cO r).tl];omega)]
 have ae:¬(64:Int)<(T.length:Int):=by omega
 have af:¬(256:Int)<(E.length:Int):=by omega
 have hz:¬(4000:Int)<(s.size:Int):=by omega
 clear hb g hv he;go_enter func37,ntmps37;go_wp2_with fail;have R0:=nK.new w;refine(fN s _ hs (eD hT R0.1)).mono ?_;rintro e w1 ⟨J,z⟩;rw[cO HB] at z;obtain rfl:=z;have R1:=R0.next J
 clear J;go_wp2_with fail;refine(gU s _ hs (Sp.nE (cO HB)) (eG hS R1.1)).mono ?_;rintro e w2 ⟨K,A⟩;rw[cO HL] at A;obtain⟨v2,rfl,M⟩:=A;obtain⟨p2,c2,rfl,C⟩:=mi M;have R2:=R1.next K
 clear K M;go_wp2_with fail;refine(fM p2 c2 P _ C I).mono ?_;rintro e w3 ⟨D,O⟩;rw[cO HV] at O;obtain⟨rfl,l,aa,ag⟩:=O;have R3:=R2.next D
 have u:=C.below D;clear C D;go_wp2_with fail;refine(iW p2 c2 w2.heap.size _ P T _ u I l aa (by omega)).mono ?_;rintro e w4 ⟨F,Q⟩;rw[cO HE] at Q;obtain⟨v4,rfl,G,ah⟩:=Q;obtain⟨p4,c4,rfl,_⟩:=dd G;have R4:=R3.next F
 have m:=l.below F;have R:=ik G R3.2.1;clear u F l G;go_wp2_with fail;refine(vr _ _ T _ m).mono ?_;rintro e w5 ⟨rfl,S⟩;obtain rfl:=S.symm;clear S;go_wp2_with fail;refine(wB _ (w.heap.size+1) _ _ T E _ m (by omega) R (by omega) R4.2.1).mono ?_;rintro e w6 ⟨v6,u6,b,rfl,U,W,ab,X,y,q⟩;have R6:=R4.Qk q TG;obtain⟨pv,kv,rfl,_⟩:=dd U;obtain⟨pu,ku,rfl,_⟩:=dd W;obtain⟨n0,n1,n2,nf⟩:=dX R6.2.2;have ai:=nf 0;have aj:=nf 1;have ak:=nf 2;have an:=R6.2.1;have ad:=R6.1;have t:=cP X;have p:=cP y;clear q X y;unfold dG;go_wp2;have H:=Sp.Mf (cO r).mg (cO r).QZ;have hY:b=Sp.es (Sp.dA P) (Sp.nv (Sp.dA P)) (Sp.nv (Sp.dA P)):=Lj (cO r).mg (cO r).QZ (cO r).lo (by rw[<-(cO r).eq];exact cO t) (by rw[<-(cO r).eq];exact cO p);have o:E.length=b.length:=(cO t).1.symm;have j:w.heap.size<w.heap.size+1:=Nat.lt_succ_self _;refine cr (v := .tuple #[dG (.slice pv T.length kv) (.slice pu T.length ku) (.slice p4 E.length c4),Z Y 0,Z Y 0]) (by simp[results,results37,go_sem,dG,n0,n1,n2]) rfl ?_;refine⟨?_,λL hL=>by rw[cO HP] at hL;injection hL with hL;subst hL;refine⟨?_,by rw[<-hY,<-o];omega⟩;have h1:=congrArg List.length H;simp at h1;omega⟩;refine Fi (N:=T.map (·.1)) (V:=T.map (·.2)) (cO HP) rfl (((ad.setCell TG _).setCell TG _).setCell TG _) (by rw[<-H];simp) (by rw[<-H];simp) ?_ ?_ ?_
 .have h:=ik (B:=w.heap.size) (cI (cI (cI U (a:=⟨w.heap.size,0,none⟩) j (.slice pv T.length kv)) (a:=⟨w.heap.size,1,none⟩) j (.slice pu T.length ku)) (a:=⟨w.heap.size,2,none⟩) j (.slice p4 E.length c4)) (px _);simpa [List.map_map,Function.comp_def] using h
 .have h:=ik (B:=w.heap.size) (cI (cI (cI W (a:=⟨w.heap.size,0,none⟩) j (.slice pv T.length kv)) (a:=⟨w.heap.size,1,none⟩) j (.slice pu T.length ku)) (a:=⟨w.heap.size,2,none⟩) j (.slice p4 E.length c4)) (px _);simpa [List.map_map,Function.comp_def] using h
 .have h:=ik (B:=w.heap.size) (cI (cI (cI ab (a:=⟨w.heap.size,0,none⟩) j (.slice pv T.length kv)) (a:=⟨w.heap.size,1,none⟩) j (.slice pu T.length ku)) (a:=⟨w.heap.size,2,none⟩) j (.slice p4 E.length c4)) (px _);rw[<-hY,<-o];exact h
theorem nY(s:TM)(w:TJ)(b:Lib.Utf8Tabs 3 4 w)(hS:eA w):TL prog 37 #[.string s] w (qe s w):=by
 by_cases m:4000<s.size
 .exact zD s w m
 .cases hb:Sp.bad s with
  |some i=>exact CH s w (by omega) b hS hb
  |none =>
   cases hl:Sp.dZ (Sp.split s 10) 0 [] with
   |error k=>exact zZ s w (by omega) b hS hb hl
   |ok P =>
    cases e:Sp.gv P 0 [] with
    |error k=>exact yR s w (by omega) b hS hb hl e
    |ok T =>
     cases he:Sp.ge T P 0 [] with
     |error k=>exact Aa s w (by omega) b hS hb hl e he
     |ok E =>
      by_cases j:64<T.length
      .exact ym s w (by omega) b hS hb hl e he j
      .by_cases l:256<E.length
       .exact zb s w (by omega) b hS hb hl e he j l
       .exact Ga s w (by omega) b hS hb hl e he j l
end
end Go.Proofs.YtgkkdpegcieakaaGreatDoor
