import Derived.Test.YtgkkdpegcieakaaGreatDoorCw32
set_option linter.all false
set_option maxRecDepth 100000
set_option maxHeartbeats 16000000
namespace Go.Proofs.YtgkkdpegcieakaaGreatDoor
open Go.Proofs.Tryz
open Value renaming int→Z,slice→J,string→H,pointer→WV,tuple→WX,agg→WY
open Ending renaming returned→WZ
open Obj renaming cells→D
open Option renaming none→U,some→S
open Bool renaming false→W9
open _root_.Array renaming size→K
open World renaming cell?→Xc,alloc→Xe,heap→E
open IntKind renaming i64→Y
open Go renaming World→WR,Value→WS,Calls→WT
open Go.RowKit
section
structure lZ (w:WR):Prop where
 CR:jR w
 split:et w
 err:∃u p,w.cell? ⟨5,0,U⟩=S (.iface u p)
variable {w' w:WR}
theorem lZ.below(h:lZ w)(hb:WQ w w'): lZ w':=by
 obtain⟨u,p,b⟩:=h.err;exact⟨h.CR.below hb h.CR.lt,gL h.split hb h.split.lt,u,p,(hb.cell (p:=⟨5,0,U⟩) (Ui w _ b)).trans b⟩
theorem Gy(s:WU)(w:WR)(h:lZ w):WT prog 38 #[H s] w (Ar s w):=by
 by_cases b:2000<s.size
 .exact DD s w b
 .obtain⟨u,p,e⟩:=h.err;exact B3 s w (by omega) h.CR h.split u p e
theorem zO(a b c:Int)(w:WR):WT prog 23 #[Z Y a,Z Y b,Z Y c] w λe w'=>e=WZ (.bool (decide (b<=a)&&decide (a<=c)))/\w'=w:=by
 by_cases l:b<=a
 .by_cases r:a<=c
  .have j:=UH l;have m:=UH r;go_enter func23,ntmps23;go_wp2;go_ret
   first|exact⟨rfl,rfl⟩|exact⟨by rw[j,m];rfl,O⟩
  .have j:=UH l;have m:=Uu r;go_enter func23,ntmps23;go_wp2;go_ret
   first|exact⟨rfl,rfl⟩|exact⟨by rw[j,m];rfl,O⟩
 .have j:=Uu l;go_enter func23,ntmps23;go_wp2;go_ret
  first|exact⟨rfl,rfl⟩|exact⟨by rw[j];rfl,O⟩
variable {R:Nat}{t:TypeId}
theorem yA{W:WR}{C:Array WS}(h:W.heap[R]?=S (D C t (0,0)))(o:Obj)(i:Nat): (W.alloc o).cell? ⟨R,i,U⟩=C[i]?:=by
 rw[World.cell?_alloc_lt W o ⟨R,i,U⟩ (Ug.1 h).1];exact T5 W R i C t (0,0) h
theorem fq.far{g:Nat}{L:List (List UInt8)}{a b c:WS}(h:fq w g L)(m:g≠R)(u:w.heap[R]?=S (D #[a,b,c] t (0,0)))(l:∀k,k≠R->w'.heap[k]?=w.heap[k]?)(r:K (E w)<=K (E w')): fq w' g L:=by
 have e:∀i,w'.cell? ⟨g,i,U⟩=w.cell? ⟨g,i,U⟩:=λi=>by unfold Xc;rw[l g m]
 obtain⟨y,z,A⟩:=h.tX;refine⟨Ux h.lt r,λi hi=>?_,y,z,λi hi=>(e _).trans (A i hi)⟩;obtain⟨C,F,G⟩:=h.fn i hi;refine⟨C,(e _).trans F,?_⟩;rcases G with ⟨B,n,P,I,j,M⟩|q
 .refine Or.inl ⟨B,n,by omega,I,?_,M⟩;have N:B≠R:=by
   rintro rfl;unfold j5 at j;rw[u] at j;injection j with j;injection j with j _ _;have:=congrArg Array.size j;simp at this
  unfold j5 at j ⊢;rw[l B N];exact j
 .exact Or.inr q
theorem mE.far{X:List WU}{P i:Nat}{C:Array WS}{a b c:WS}(h:mE X w P C i)(F:R<P)(r:w.heap[R]?=S (D #[a,b,c] t (0,0)))(e:∀k,k≠R->w'.heap[k]?=w.heap[k]?)(l:K (E w)<=K (E w')): mE X w' P C i:=⟨h.size,h.shape,λj u y=>by obtain⟨g,m,z,A,B⟩:=h.code j u y;exact⟨g,m,z,A,B.far (by omega) r e l⟩,h.comb⟩
def iN(g p:WU):Int:=if zH g≠0 then zH g else (Sp.comp p).1
def zU(g p:WU)(w:WR)(e:Ending)(w':WR):Prop:=WQ w w'/\Small g/\∃y b z j l A m r C u,e=WZ (WX #[WY #[J y b z,J j l A,J m r C],WV u,Z Y (iN g p)])/\
  (iN g p=0->b=(jx g).length/\l=(jx g).length/\r=(pO g).length/\fF w' Y j (jx g)/\gh w' m (pO g)/\∃B,u=S ⟨B,0,U⟩/\jJ w' B (Sp.ik p))
end
namespace Ru
open Sp (Pg Ed Cfg)
structure uN (lo hi:Nat) (w:WR) (B:Nat) (P:Pg):Prop where
 bl:lo<=B/\B<hi
 hl:hi<=K (E w)
 code:∀i,i<5->∃g cap,(lo<=g/\g<hi)/\w.cell? ⟨B,i*4,U⟩=S (J (S ⟨g,0,U⟩) (P.code i).length cap)/\og w g (P.code i)
 pB:mW w B 21 P.pB
 al:mW w B 25 P.al
theorem uN.TC{e hi:Nat}{w:WR}{B:Nat}{P:Pg}(h:uN e hi w B P):jJ w B P:=⟨by have:=h.bl;have:=h.hl;omega,λi hi=>by obtain⟨g,b,_,j,l⟩:=h.code i hi;exact⟨g,b,j,l⟩,h.pB,h.al⟩
theorem MP{l:Nat}{s:WU}{w:WR}{P:Nat}{C:Array WS}{t:TypeId}(b:l<=P)(m:(Sp.comp s).1=0)(hb:w.heap[P]?=S (D C t (0,0)))(r:mE (Sp.split s 10) w P C 7):uN l (K (E w)) w P (Sp.ik s):=by
 have e:=P6 m hb r;refine⟨⟨b,e.lt⟩,TY _,λi hi=>?_,e.pB,e.al⟩;obtain⟨g,j,y,z,u⟩:=r.code i (by omega) hi;exact⟨g,j,⟨by omega,u.lt⟩,(T5 w P (i*4) C t (0,0) hb).trans y,FO u (Sp.sO m hi)⟩
def EJ(g p:WU)(w:WR)(e:Ending)(w':WR):Prop:=WQ w w'/\Small g/\∃y b z j l A m r C u,e=WZ (WX #[WY #[J y b z,J j l A,J m r C],WV u,Z Y (iN g p)])/\
  (iN g p=0->b=(jx g).length/\l=(jx g).length/\r=(pO g).length/\fF w' Y j (jx g)/\gh w' m (pO g)/\∃B,u=S ⟨B,0,U⟩/\uN (K (E w)) (K (E w')) w' B (Sp.ik p))
theorem Bi(g p:WU)(w:WR)(hT:Lib.Utf8Tabs 3 4 w)(hC:lZ w):WT prog 22 #[H g,H p] w (EJ g p w):=by
 generalize hO:EJ g p w=b;replace hO:=cT hO;have s:WQ w (w.alloc (D #[J U 0 0,J U 0 0,J U 0 0] 68)):=WO.alloc WN _;have af:=T9 w (D #[J U 0 0,J U 0 0,J U 0 0] 68);have aC:=Uv w (D #[J U 0 0,J U 0 0,J U 0 0] 68);have HP:=cT (λW (hb:WQ w W)=>qm g W (eM hT hb) (eU hC.split hb));have HC:=cT (λW (hb:WQ w W)=>Gy p W (hC.below hb));clear hT hC;go_enter func22,ntmps22;go_wp2_with fail;generalize hW:Xe _ _=W0 at *;refine(cS HP W0 s).mono ?_;rintro e m ⟨ag,ah⟩;have ai:=cT ah;obtain⟨I,v,u,x,rfl,o0,o1,o2⟩:=DS ag;obtain⟨L,M,rfl,i0⟩:=mS o0;obtain⟨N,Q,rfl,i1⟩:=mS o1;obtain⟨R,T,rfl,i2⟩:=l7 o2;rw[NZ];have aj:=cT o1;have ak:=cT o2;obtain⟨ea,V⟩:∃ea,Hid (zH g=ea):=⟨_,rfl⟩
 obtain⟨eb,aq⟩:∃eb,Hid (Tl g=eb):=⟨_,rfl⟩
 obtain⟨n,aa⟩:∃n,Hid ((jx g).length=n):=⟨_,rfl⟩
 obtain⟨G,an⟩:∃G,Hid ((pO g).length=G):=⟨_,rfl⟩
 rw[cS V,cS aq,cS aa,cS an];have r:WQ w m:=s.trans (I.mono s.size);have j:=(I.block (K (E w)) (by omega)).trans af;have aD:=I.size;clear ag o0 o1 o2 i0 i1 i2 hW af I ah;unfold dK;by_cases c1:ea=0
 .subst c1;go_wp2_with fail;generalize ab:Xe _ _=W1;have F:WQ m W1:=by rw[<-ab];exact WO.alloc WN _
  have X:W1.heap[K (E m)]?=S (D #[J L n M,J N n Q,J R G T] 68 (0,0)):=by rw[<-ab];exact T9 m _
  clear ab;refine(cS HC W1 (r.trans (F.mono r.size))).mono ?_;rintro e B ⟨ad,pv,rfl,ar⟩;have au:=cT ar;have aE:=cT F.size;obtain⟨ca,q⟩:∃ca,Hid ((Sp.comp p).1=ca):=⟨_,rfl⟩
  obtain⟨cb,av⟩:∃cb,Hid ((Sp.comp p).2=cb):=⟨_,rfl⟩
  rw[cS q,cS av];have l:WQ m B:=F.trans (ad.mono F.size);have ao:WQ w B:=r.trans (l.mono r.size);have t:=(ad.block (K (E m)) (Ug.1 X).1).trans X;have y:=(l.block (K (E w)) (by omega)).trans j;have aF:=l.size;have aG:=(Ug.1 X).1;have r0:B.cell? ⟨K (E w),0,U⟩=S (J U 0 0):=by simp[Xc,y]
  have r1:B.cell? ⟨K (E w),1,U⟩=S (J U 0 0):=by simp[Xc,y]
  have r2:B.cell? ⟨K (E w),2,U⟩=S (J U 0 0):=by simp[Xc,y]
  have aw:B.frozen? ⟨K (E w),0,U⟩=W9:=by simp[World.frozen?,y]
  have ax:B.frozen? ⟨K (E w),1,U⟩=W9:=by simp[World.frozen?,y]
  have ay:B.frozen? ⟨K (E w),2,U⟩=W9:=by simp[World.frozen?,y]
  have g0:B.cell? ⟨K (E m),0,U⟩=S (J L n M):=by simp[Xc,t]
  have g1:B.cell? ⟨K (E m),1,U⟩=S (J N n Q):=by simp[Xc,t]
  have g2:B.cell? ⟨K (E m),2,U⟩=S (J R G T):=by simp[Xc,t]
  have ae:Hid (b (WZ (WX #[WY #[J L n M,J N n Q,J R G T],WV pv,Z Y ca])) (((B.setCell ⟨K (E w),0,U⟩ (J L n M)).setCell ⟨K (E w),1,U⟩ (J N n Q)).setCell ⟨K (E w),2,U⟩ (J R G T))):=by
   show b _ _
   rw[<-cS hO];have z:iN g p=ca:=by unfold iN;rw[TZ (by rw[cS V];simp),cS q]
   refine⟨((ao.setCell (p:=⟨K (E w),0,U⟩) WN _).setCell (p:=⟨K (E w),1,U⟩) WN _).setCell (p:=⟨K (E w),2,U⟩) WN _,cS ai,L,n,M,N,n,Q,R,G,T,pv,by rw[z],λh0=>⟨(cS aa).symm,(cS aa).symm,(cS an).symm,?_,?_,?_⟩⟩
   .have o:=dd (cS aj) l;have o':=Um (Um (Um o (a:=⟨K (E w),0,U⟩) (by show (K (E w))<_;omega) (J L n M)) (a:=⟨K (E w),1,U⟩) (by show (K (E w))<_;omega) (J N n Q)) (a:=⟨K (E w),2,U⟩) (by show (K (E w))<_;omega) (J R G T);obtain⟨pp,kk,ee,ii⟩:=mS o';injection ee with ee _ _;rw[<-ee] at ii;exact ii
   .have o:=dd (cS ak) l;have o':=Um (Um (Um o (a:=⟨K (E w),0,U⟩) (by show (K (E w))<_;omega) (J L n M)) (a:=⟨K (E w),1,U⟩) (by show (K (E w))<_;omega) (J N n Q)) (a:=⟨K (E w),2,U⟩) (by show (K (E w))<_;omega) (J R G T);obtain⟨pp,kk,ee,ii⟩:=l7 o';injection ee with ee _ _;rw[<-ee] at ii;exact ii
   .obtain⟨P,C,e1,e2,e3,e4,e5⟩:=cS au (by rw[cS q,<-z];exact h0);refine⟨P,e1,?_⟩;have az:K (E w)<P:=by have:=F.size;omega
    have A:∀k,k≠(K (E w))->(((B.setCell ⟨K (E w),0,U⟩ (J L n M)).setCell ⟨K (E w),1,U⟩ (J N n Q)).setCell ⟨K (E w),2,U⟩ (J R G T)).heap[k]?=B.heap[k]?:=λk hk=>(Uj _ _ _ k hk).trans ((Uj _ _ _ k hk).trans (Uj _ _ _ k hk))
    exact MP (by omega) (by rw[cS q,<-z];exact h0) ((A P (by omega)).trans e3) (e4.far az y A (by simp[World.setCell]))
  clear ad l F X t j y aj ak;go_wp2;exact T8 (v := WX #[WY #[J L n M,J N n Q,J R G T],WV pv,Z Y ca]) (by simp[results,results22,go_sem,r0,r1,r2]) O (cS ae)
 .have aH:(ea != 0)=true:=by rw[VH];exact c1
  have z:iN g p=ea:=by unfold iN;rw[T0 (by rw[cS V];exact c1),cS V]
  have r0:m.cell? ⟨K (E w),0,U⟩=S (J U 0 0):=by simp[Xc,j]
  have r1:m.cell? ⟨K (E w),1,U⟩=S (J U 0 0):=by simp[Xc,j]
  have r2:m.cell? ⟨K (E w),2,U⟩=S (J U 0 0):=by simp[Xc,j]
  have aw:m.frozen? ⟨K (E w),0,U⟩=W9:=by simp[World.frozen?,j]
  have ax:m.frozen? ⟨K (E w),1,U⟩=W9:=by simp[World.frozen?,j]
  have ay:m.frozen? ⟨K (E w),2,U⟩=W9:=by simp[World.frozen?,j]
  have aI:K (E w)<K (E m):=by omega
  have A:=eZ (i:=2) (eZ (i:=1) (eZ (i:=0) j (J U 0 0)) (J U 0 0)) (J U 0 0);have aA:=cT (λo i'=>yA A o i');have ae:Hid (∀o,b (WZ (WX #[WY #[J U 0 0,J U 0 0,J U 0 0],WV U,Z Y ea])) ((((m.setCell ⟨K (E w),0,U⟩ (J U 0 0)).setCell ⟨K (E w),1,U⟩ (J U 0 0)).setCell ⟨K (E w),2,U⟩ (J U 0 0)).alloc o)):=by
   show ∀o,_
   intro o;rw[<-cS hO];have h5:=((r.setCell (p:=⟨K (E w),0,U⟩) WN (J U 0 0)).setCell (p:=⟨K (E w),1,U⟩) WN (J U 0 0)).setCell (p:=⟨K (E w),2,U⟩) WN (J U 0 0);exact⟨h5.alloc h5.size o,cS ai,U,0,0,U,0,0,U,0,0,U,by rw[z],λh0=>absurd (z.symm.trans h0) c1⟩
  have aJ:=cT z;have aK:=cT c1;clear A z c1 j;go_wp2;have aB:=cS aA;exact T8 (v := WX #[WY #[J U 0 0,J U 0 0,J U 0 0],WV U,Z Y ea]) (by simp[results,results22,go_sem,aB]) O (cS ae _)
end Ru
section
theorem pread(g p:WU)(w:WR)(j:Lib.Utf8Tabs 3 4 w)(l:lZ w):WT prog 22 #[H g,H p] w (zU g p w):=by
 refine(Ru.Bi g p w j l).mono ?_;rintro e V ⟨m,r,u,y,z,A,C,F,G,I,L,M,N,P⟩;refine⟨m,r,u,y,z,A,C,F,G,I,L,M,N,λQ=>?_⟩;obtain⟨a,b,c,d,f,B,R,T⟩:=P Q;exact⟨a,b,c,d,f,B,R,T.TC⟩
end
section
theorem R7(a:Int)(q:Option Addr)(m k:Nat)(b:Int)(w:WR):WT prog 27 #[WY #[Z Y a,J q m k,Z Y b]] w λe l=>e=WZ (WX #[])/\WQ w l:=by
 have r:WQ w (w.alloc (D #[Z Y a,J q m k,Z Y b] 80)):=WO.alloc WN _;generalize u:(λ(e:Ending) (l:WR)=>e=Ending.returned (Value.tuple #[])/\WQ w l)=O;have j:Hid (O (WZ (WX #[])) (w.alloc (D #[Z Y a,J q m k,Z Y b] 80))):=by
  show O _ _
  rw[<-u];exact⟨rfl,r⟩
 clear u r;go_enter func27,ntmps27;go_wp2
 first|exact cS j|exact T8 (v := WX #[]) (by simp[results,results27,go_sem]) rfl (cS j)
def zz(g p:WU)(cY:Int)(w:WR)(e:Ending)(w':WR):Prop:=WQ w w'/\Small g/\∃v,e=WZ (WX #[WY #[Z .u8 (fL g p cY).outcome,Z Y (fL g p cY).step,Z Y (fL g p cY).dt,v],Z Y (kZ g p cY)])/\w'.ownsRow (K (E w)) 2 1 v (fL g p cY).dA.length ((fL g p cY).dA.map (Z Y))
theorem Jr{g p:WU}{cY:Int}{w w':WR}{a:Int}(h:kZ g p cY=a)(ha:a≠0)(hb:WQ w w')(e:Small g):zz g p cY w (WZ (WX #[WY #[Z .u8 0,Z Y 0,Z Y 0,J U 0 0],Z Y a])) w':=by
 have b:fL g p cY=⟨0,0,0,[]⟩:=by unfold fL;rw[TZ (by rw[h];exact ha)]
 exact⟨hb,e,J U 0 0,by rw[b,h];rfl,by rw[b];exact Uw _ _ _ _⟩
theorem KC{w:WR}{B n:Nat}{sl:WS}{P:Sp.Pg}{e:List Int}(l:e.length=n)(h:w.ownsRow B 104 4 sl n (jg e [] [] (List.replicate n (Sp.eR P.pB)) n)):∃p b,sl=J p n b/\kg w p (Sp.fX P e) n:=by
 obtain⟨p,b,m,r⟩:=gU (all:=Sp.eR P.al) h;refine⟨p,b,m,r.congr (λk _=>O) (λk j=>?_) (λk j=>?_) (λk j=>?_)⟩
 .show (List.replicate e.length W9).getD k W9=_
  rw[Uo,List.getElem?_replicate,T0 (by omega)];rfl
 .show (List.replicate e.length (0:Int)).getD k 0=_
  rw[Uo,List.getElem?_replicate,T0 (by omega)];rfl
 .show (List.replicate e.length (Sp.eR P.pB)).getD k 0=_
  rw[l]
theorem Cm(g p:WU)(cY:Int)(z f:Addr)(w:WR)(hT:Lib.Utf8Tabs 3 4 w)(hC:lZ w)(aH:jY w z f):WT prog 8 #[H g,H p,Z Y cY] w (zz g p cY w):=by
 generalize hO:zz g p cY w=l;replace hO:=cT hO;have av:WQ w (w.alloc (D #[Z .u8 0,Z Y 0,Z Y 0,J U 0 0] 32)):=WO.alloc WN _;have aI:=T9 w (D #[Z .u8 0,Z Y 0,Z Y 0,J U 0 0] 32);have bw:=Uv w (D #[Z .u8 0,Z Y 0,Z Y 0,J U 0 0] 32);have ba:=cT (λW (hb:WQ w W)=>pread g p W (eM hT hb) (hC.below hb));have bc:=cT aH;clear hT hC aH;go_enter func8,ntmps8;go_wp2_with fail;generalize hW:Xe _ _=W0 at *;refine(cS ba W0 av).mono ?_;rintro e C ⟨aa,aJ,p0,n0,k0,p1,n1,k1,p2,n2,k2,pv,rfl,aK⟩;have ab:=cT aJ;have bd:=cT aK;obtain⟨ra,P⟩:∃ra,Hid (iN g p=ra):=⟨_,rfl⟩
 rw[cS P];have G:WQ w C:=av.trans (aa.mono av.size);have y:=(aa.block (K (E w)) (by omega)).trans aI;have bx:=aa.size;have bg:K (E w)<K (E C):=by omega
 have r0:C.cell? ⟨K (E w),0,U⟩=S (Z .u8 0):=(by simp[Xc,y])
 have aL:C.frozen? ⟨K (E w),0,U⟩=W9:=(by simp[World.frozen?,y])
 have r1:C.cell? ⟨K (E w),1,U⟩=S (Z Y 0):=(by simp[Xc,y])
 have aM:C.frozen? ⟨K (E w),1,U⟩=W9:=(by simp[World.frozen?,y])
 have r2:C.cell? ⟨K (E w),2,U⟩=S (Z Y 0):=(by simp[Xc,y])
 have aN:C.frozen? ⟨K (E w),2,U⟩=W9:=(by simp[World.frozen?,y])
 have r3:C.cell? ⟨K (E w),3,U⟩=S (J U 0 0):=(by simp[Xc,y])
 have aO:C.frozen? ⟨K (E w),3,U⟩=W9:=(by simp[World.frozen?,y])
 have ad:=cT (λo i'=>AR (ym y (Z .u8 0) (Z Y 0) (Z Y 0) (J U 0 0)) o i');unfold j6 at ad;have aw:Hid (∀o,WQ w ((j6 C (K (E w)) (Z .u8 0) (Z Y 0) (Z Y 0) (J U 0 0)).alloc o)):=λo=>by have h:=tI G (TY (K (E w))) (Z .u8 0) (Z Y 0) (Z Y 0) (J U 0 0);exact h.alloc h.size o
 clear hW aI aa aJ aK;by_cases c1:ra=0
 .subst c1;by_cases c2:0<=cY/\cY<=200
  .obtain⟨m1,m2,m3,aP,aQ,B,rfl,ak⟩:=cS bd (cS P);subst m1 m2 m3;have Q:zH g=0/\(Sp.comp p).1=0:=by
    have h:=cS P;unfold iN at h;by_cases c:zH g≠0
    .rw[T0 c] at h;exact absurd h c
    .rw[TZ c] at h;exact⟨by simpa using c,h⟩
   obtain⟨r,rfl⟩:∃r:Nat,cY=(r:Int):=⟨cY.toNat,by omega⟩
   have aR:r<=200:=by omega
   have an:Hid (kZ g p (r:Int)=0):=by
    show _=_
    unfold kZ;rw[TZ (by rw[Q.1];simp),TZ (by rw[Q.2];simp),TZ (by omega)]
   obtain⟨R,aS⟩:=qE Q.1 Q.2 (cS ab);have ax:=cT R;have T:=cT ak;have aT:=cT aP;obtain⟨n,HN⟩:∃n,Hid ((jx g).length=n):=⟨_,rfl⟩
   have ao:Hid (Sp.CI (Sp.ik p) (pO g) r (r+1) 0 (Sp.fX (Sp.ik p) (jx g))=fL g p (r:Int)):=by
    show _=_
    unfold fL;rw[T0 (cS an)]
    rfl
   have aU:Hid (Sp.eY n (Sp.fX (Sp.ik p) (jx g))):=by have h:=Sp.rE (Sp.ik p) (jx g) aS;rw[cS HN] at h;exact h
   have ae:=cT (λW (hb:WQ C W)=>MW p0 (jx g).length k0 p1 k1 p2 k2 B r (pO g) W (aQ.below hb) R.It R.es (λx hx=>(R.ed x hx).1));rw[cS HN] at ae ax ⊢;have aV:n<=64:=(cS ax).It;obtain⟨ne,bh⟩:∃ne,Hid ((pO g).length=ne):=⟨_,rfl⟩
   rw[cS bh] at ae ⊢;have l1:(0:Int)<=(r:Int):=UF _;have l2:(r:Int)<=200:=by omega
   have ay:Hid (∀W,WT prog 23 #[Z Y (r:Int),Z Y 0,Z Y 200] W λe w'=>e=WZ (.bool true)/\w'=W):=by
    show ∀W,_
    intro W;have h:=zO (r:Int) 0 200 W;rw[UH l1,UH l2] at h;exact h
   clear R aS Q ak aP aQ c2 l1 l2;have aq:=cT y;clear r0 r1 r2 r3 aL aM aN aO ad aw y;go_wp2_with (go_at_call 23;go_must (refine(cS ay _).mono ?_);rintro e wq ⟨rfl,az⟩;obtain rfl:=az.symm);generalize aW:Xe _ _=W1;have af:WQ C W1:=by rw[<-aW];exact WO.alloc WN _
   clear aW;refine(cS ae W1 af).mono ?_;rintro e w2 ⟨aX,pe,ke,rfl,aY⟩;have M:WQ C w2:=af.trans (aX.mono af.size);have bA:=M.size;have bj:=cT aY;unfold dV;clear ae aY aX af;go_upto_region 7 with fail;generalize aA:Xe _ _=L;have N:WQ w2 L:=by rw[<-aA];exact WO.alloc WN _
   have aB:L.heap[K (E w2)]?=S (D (dV B p1 n k1 pe ke r) 75 (0,0)):=by rw[<-aA];exact T9 w2 _
   have ag:=(Ug.1 aB).1;obtain⟨j0,j1,j2,j3⟩:=fK aB;have A:WQ C L:=M.trans (N.mono M.size);have ar:WQ w L:=G.trans (A.mono G.size);have bk:=cT ((A.block (K (E w)) bg).trans (cS aq));have bn:K (E w)<K (E L):=by have:=A.size;omega
   have aC:Hid (∀W,WQ L W->WT prog 26 #[WY #[WV (S ⟨B,0,U⟩),J p1 n k1,J pe n ke,Z Y r]] W (B8 (Sp.ik p) (jx g) n W)):=λW hW=>by
    have h1:=A.trans (hW.mono A.size);exact LZ B p1 n k1 pe ke r (Sp.ik p) (jx g) W ((cS T).below h1) ((cS aT).below h1) (cS HN) aV
   have ah:Hid (∀(W:WR) (pp:Option Addr) (kk:Nat),WQ L W->kg W pp (Sp.fX (Sp.ik p) (jx g)) n->WT prog 25 #[WY #[WV (S ⟨B,0,U⟩),J p1 n k1,J pe n ke,Z Y r],WY #[Z Y 0,J pp n kk,Z Y (Sp.eR (Sp.ik p).al)],.func (.func 27) #[] #[]] W (vO (fL g p (r:Int)) W)):=λW pp kk hW ai=>by
    have h1:=A.trans (hW.mono A.size);exact prun B p1 n k1 pe ke r (Sp.ik p) (pO g) pp kk (Sp.fX (Sp.ik p) (jx g)) z f 27 (fL g p (r:Int)) W ((cS T).below h1) ((cS bc).below (G.trans (h1.mono G.size))) ((cS bj).below (N.trans (hW.mono N.size))) ai (cS aU) (cS ax) aR (cS ao) (cZ func27 (by kernel_rfl) (by kernel_rfl)) (λa q m k b W=>R7 a q m k b W)
   have aZ:Hid (∀(args:Array WS) (w:WR),(callFunc 26 args).run prog w=.ok (.enter 26 args) w):=cZ func26 (by kernel_rfl) (by kernel_rfl);have a1:Hid (∀(args:Array WS) (w:WR),(callFunc 25 args).run prog w=.ok (.enter 25 args) w):=cZ func25 (by kernel_rfl) (by kernel_rfl);have a6:Hid (∀(wq:WR) (v:WS) (Bq:Nat),WQ L wq->wq.ownsRow Bq 2 1 v (fL g p (r:Int)).dA.length ((fL g p (r:Int)).dA.map (Z Y))->K (E L)<=Bq->zz g p (r:Int) w (WZ (WX #[WY #[Z .u8 (fL g p (r:Int)).outcome,Z Y (fL g p (r:Int)).step,Z Y (fL g p (r:Int)).dt,v],Z Y 0])) (j6 wq (K (E w)) (Z .u8 (fL g p (r:Int)).outcome) (Z Y (fL g p (r:Int)).step) (Z Y (fL g p (r:Int)).dt) v)):=λwq v Bq I X bB=>by
    have h1:=ar.trans (I.mono ar.size);refine⟨tI h1 WN _ _ _ _,cS ab,v,by rw[cS an],?_⟩;have o':∀{W:WR} (j:Nat) (u:WS),W.ownsRow Bq 2 1 v (fL g p (r:Int)).dA.length ((fL g p (r:Int)).dA.map (Z Y))->(W.setCell ⟨K (E w),j,U⟩ u).ownsRow Bq 2 1 v (fL g p (r:Int)).dA.length ((fL g p (r:Int)).dA.map (Z Y)):=λj u h=>Um h (a:=⟨K (E w),j,U⟩) (by show (K (E w))<Bq;omega) u
    exact fy (o' 3 _ (o' 2 _ (o' 1 _ (o' 0 _ X)))) (by omega)
   obtain⟨na,bo⟩:∃na,Hid (Sp.eR (Sp.ik p).al=na):=⟨_,rfl⟩
   unfold B8 at aC;unfold vO at ah;rw[cS bo] at aC ah;generalize fL g p (r:Int)=res at *;obtain⟨oc,st,vt,V⟩:=res;simp only at ah a6;clear aA M N aB T aT ao aU aq
   go_region_law (first
   |(refine du (by rfl) _ _ _ (by rfl) 26 (by rfl) _ (by rfl) (cS aZ) (cS aC _ (by first|exact T4 _ _|exact WO.drew)) ?_;rintro e wq ⟨t,sl,rfl,a7⟩;obtain⟨pp,kk,bp,ai⟩:=KC (cS HN) a7;subst bp;dsimp only;have I:WQ L wq:=(by first|exact t|exact WO.drew.trans (t.mono WN));have aj:=cT I;have bq:=cT ai;have i0:=(I.cell (p:=⟨K (E w2),0,U⟩) ag).trans j0;have i1:=(I.cell (p:=⟨K (E w2),1,U⟩) ag).trans j1;have i2:=(I.cell (p:=⟨K (E w2),2,U⟩) ag).trans j2;have i3:=(I.cell (p:=⟨K (E w2),3,U⟩) ag).trans j3;clear I t a7 ai)
   |(refine du (by rfl) _ _ _ (by rfl) 25 (by rfl) _ (by rfl) (cS a1) (cS ah wq pp kk (cS aj) (cS bq)) ?_;rintro e wr ⟨au,v,rfl,X⟩;obtain⟨aD,aE,a8,_⟩:=dm X;subst a8;dsimp only;have aF:WQ L wr:=(cS aj).trans (au.mono (cS aj).size);have F:=(aF.block (K (E w)) bn).trans (cS bk);have r0:wr.cell? ⟨K (E w),0,U⟩=S (Z .u8 0):=(by simp[Xc,F]);have aL:wr.frozen? ⟨K (E w),0,U⟩=W9:=(by simp[World.frozen?,F]);have r1:wr.cell? ⟨K (E w),1,U⟩=S (Z Y 0):=(by simp[Xc,F]);have aM:wr.frozen? ⟨K (E w),1,U⟩=W9:=(by simp[World.frozen?,F]);have r2:wr.cell? ⟨K (E w),2,U⟩=S (Z Y 0):=(by simp[Xc,F]);have aN:wr.frozen? ⟨K (E w),2,U⟩=W9:=(by simp[World.frozen?,F]);have r3:wr.cell? ⟨K (E w),3,U⟩=S (J U 0 0):=(by simp[Xc,F]);have aO:wr.frozen? ⟨K (E w),3,U⟩=W9:=(by simp[World.frozen?,F]);have br:=cT aF;have bs:=cT X;clear aF au X F))
   all_goals
    have s:Hid (l (WZ (WX #[WY #[Z .u8 oc,Z Y st,Z Y vt,J aD V.length aE],Z Y 0])) (j6 wr (K (E w)) (Z .u8 oc) (Z Y st) (Z Y vt) (J aD V.length aE))):=by
     show l _ _
     rw[<-cS hO];exact cS a6 wr _ _ (cS br) (cS bs) (cS aj).size
    first
     | (go_wp2;exact T8 (v := WX #[WY #[Z .u8 oc,Z Y st,Z Y vt,J aD V.length aE],Z Y 0]) (by simp[results,results8,go_sem,r0,r1,r2,r3]) O (cS s))
     |trace_state
  .have HE:Hid (kZ g p cY=8):=by
    show _=_
    have h:=cS P;unfold iN at h;unfold kZ;by_cases c:zH g≠0
    .rw[T0 c] at h;exact absurd h c
    .rw[TZ c] at h ⊢;rw[TZ (by rw[h];simp),T0 (by omega)]
   have ay:Hid (∀W,WT prog 23 #[Z Y cY,Z Y 0,Z Y 200] W λe w'=>e=WZ (.bool W9)/\w'=W):=by
    show ∀W,_
    intro W;have h:=zO cY 0 200 W;have hf:(decide (0<=cY)&&decide (cY<=200))=W9:=by
     by_cases l1:0<=cY
     .rw[UH l1,Uu (λl2=>c2 ⟨l1,l2⟩)];rfl
     .rw[Uu l1];rfl
    rw[hf] at h;exact h
   have s:Hid (∀o,l (WZ (WX #[WY #[Z .u8 0,Z Y 0,Z Y 0,J U 0 0],Z Y 8])) ((j6 C (K (E w)) (Z .u8 0) (Z Y 0) (Z Y 0) (J U 0 0)).alloc o)):=by
    show ∀o,_
    intro o;rw[<-cS hO];exact Jr (cS HE) (by decide) (cS aw o) (cS ab)
   clear c2 y;go_wp2_with (go_at_call 23;go_must (refine(cS ay _).mono ?_);rintro e wq ⟨rfl,az⟩;obtain rfl:=az.symm);have aG:=cS ad;exact T8 (v := WX #[WY #[Z .u8 0,Z Y 0,Z Y 0,J U 0 0],Z Y 8]) (by simp[results,results8,go_sem,aG]) O (cS s _)
 .have bC:(ra != 0)=true:=by rw[VH];exact c1
  have HE:Hid (kZ g p cY=ra):=by
   show _=_
   have h:=cS P;unfold iN at h;unfold kZ;by_cases c:zH g≠0
   .rw[T0 c] at h ⊢;exact h
   .rw[TZ c] at h ⊢;rw[T0 (by rw[h];exact c1)];exact h
  have bu:=cT c1;have s:Hid (∀o,l (WZ (WX #[WY #[Z .u8 0,Z Y 0,Z Y 0,J U 0 0],Z Y ra])) ((j6 C (K (E w)) (Z .u8 0) (Z Y 0) (Z Y 0) (J U 0 0)).alloc o)):=by
   show ∀o,_
   intro o;rw[<-cS hO];exact Jr (cS HE) (cS bu) (cS aw o) (cS ab)
  clear c1 y;go_wp2;have aG:=cS ad;exact T8 (v := WX #[WY #[Z .u8 0,Z Y 0,Z Y 0,J U 0 0],Z Y ra]) (by simp[results,results8,go_sem,aG]) O (cS s _)
end
end Go.Proofs.YtgkkdpegcieakaaGreatDoor
