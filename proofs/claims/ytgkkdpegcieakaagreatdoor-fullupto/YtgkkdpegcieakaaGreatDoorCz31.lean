import Derived.Test.YtgkkdpegcieakaaGreatDoorCz30
set_option linter.unusedVariables false
set_option linter.unusedSimpArgs false
set_option maxRecDepth 100000
set_option maxHeartbeats 16000000
namespace Go.Proofs.YtgkkdpegcieakaaGreatDoor
open Go.Proofs.Tryz
open Value renaming int→Z
open IntKind renaming i64→Y
open Go renaming World→TJ,Value→TK,Calls→TL
section
open Go.RowKit
structure l8 (w:TJ):Prop where
 Ck:kU w
 split:eA w
 err:∃u p,w.cell? ⟨5,0,none⟩=some (.iface u p)
variable {w' w:TJ}
theorem l8.below(h:l8 w)(hb:TI w w'): l8 w':=by
 obtain⟨u,p,b⟩:=h.err;exact⟨h.Ck.below hb h.Ck.lt,gJ h.split hb h.split.lt,u,p,(hb.cell (p:=⟨5,0,none⟩) (cE w _ b)).trans b⟩
theorem xe(s:TM)(w:TJ)(h:l8 w):TL prog 38 #[.string s] w (Bz s w):=by
 by_cases b:2000<s.size
 .exact BY s w b
 .obtain⟨u,p,e⟩:=h.err;exact AI s w (by omega) h.Ck h.split u p e
theorem yB(a b c:Int)(w:TJ):TL prog 23 #[Z Y a,Z Y b,Z Y c] w λe w'=>e=.returned (.bool (decide (b<=a)&&decide (a<=c)))/\w'=w:=by
 by_cases l:b<=a
 .by_cases r:a<=c
  .have j:=kH l;have m:=kH r;go_enter func23,ntmps23;go_wp2;go_ret
   first|exact⟨rfl,rfl⟩|exact⟨by rw[j,m];rfl,rfl⟩
  .have j:=kH l;have m:=df r;go_enter func23,ntmps23;go_wp2;go_ret
   first|exact⟨rfl,rfl⟩|exact⟨by rw[j,m];rfl,rfl⟩
 .have j:=df l;go_enter func23,ntmps23;go_wp2;go_ret
  first|exact⟨rfl,rfl⟩|exact⟨by rw[j];rfl,rfl⟩
variable {R:Nat}{t:TypeId}
theorem rU{W:TJ}{C:Array TK}(h:W.heap[R]?=some (.cells C t (0,0)))(o:Obj)(i:Nat): (W.alloc o).cell? ⟨R,i,none⟩=C[i]?:=by
 rw[World.cell?_alloc_lt W o ⟨R,i,none⟩ (cB.1 h).1];exact cn W R i C t (0,0) h
theorem fq.far{g:Nat}{L:List (List UInt8)}{a b c:TK}(h:fq w g L)(m:g≠R)(u:w.heap[R]?=some (.cells #[a,b,c] t (0,0)))(l:∀k,k≠R->w'.heap[k]?=w.heap[k]?)(r:w.heap.size<=w'.heap.size): fq w' g L:=by
 have e:∀i,w'.cell? ⟨g,i,none⟩=w.cell? ⟨g,i,none⟩:=λi=>by unfold World.cell?;rw[l g m]
 obtain⟨y,z,A⟩:=h.tS;refine⟨dT h.lt r,λi hi=>?_,y,z,λi hi=>(e _).trans (A i hi)⟩;obtain⟨C,D,E⟩:=h.fn i hi;refine⟨C,(e _).trans D,?_⟩;rcases E with ⟨B,n,I,F,j,G⟩|q
 .refine Or.inl ⟨B,n,by omega,F,?_,G⟩;have H:B≠R:=by
   rintro rfl;unfold j4 at j;rw[u] at j;injection j with j;injection j with j _ _;have:=congrArg Array.size j;simp at this
  unfold j4 at j ⊢;rw[l B H];exact j
 .exact Or.inr q
theorem mC.far{X:List TM}{P i:Nat}{C:Array TK}{a b c:TK}(h:mC X w P C i)(D:R<P)(r:w.heap[R]?=some (.cells #[a,b,c] t (0,0)))(e:∀k,k≠R->w'.heap[k]?=w.heap[k]?)(l:w.heap.size<=w'.heap.size): mC X w' P C i:=⟨h.size,h.shape,λj u y=>by obtain⟨g,m,z,A,B⟩:=h.code j u y;exact⟨g,m,z,A,B.far (by omega) r e l⟩,h.comb⟩
def gP(g p:TM):Int:=if yc g≠0 then yc g else (Sp.comp p).1
def vS(g p:TM)(w:TJ)(e:Ending)(w':TJ):Prop:=TI w w'/\Small g/\∃y b z j l A m r C u,e=.returned (.tuple #[.agg #[.slice y b z,.slice j l A,.slice m r C],.pointer u,Z Y (gP g p)])/\
  (gP g p=0->b=(kM g).length/\l=(kM g).length/\r=(pz g).length/\fF w' Y j (kM g)/\fY w' m (pz g)/\∃B,u=some ⟨B,0,none⟩/\jJ w' B (Sp.iw p))
theorem pread(g p:TM)(w:TJ)(hT:Lib.Utf8Tabs 3 4 w)(hC:l8 w):TL prog 22 #[.string g,.string p] w (vS g p w):=by
 generalize hO:vS g p w=O;replace hO:=cP hO;have S:TI w (w.alloc (.cells #[.slice none 0 0,.slice none 0 0,.slice none 0 0] 68)):=TH.alloc TG _;have aa:=ct w (.cells #[.slice none 0 0,.slice none 0 0,.slice none 0 0] 68);have ay:=ee w (.cells #[.slice none 0 0,.slice none 0 0,.slice none 0 0] 68);have HP:=cP (λW (hb:TI w W)=>nY g W (eD hT hb) (eG hC.split hb));have HC:=cP (λW (hb:TI w W)=>xe p W (hC.below hb));clear hT hC;go_enter func22,ntmps22;go_wp2_with fail;generalize hW:World.alloc _ _=W0 at *;refine(cO HP W0 S).mono ?_;rintro e l ⟨ab,ad⟩;have ae:=cP ad;obtain⟨E,v,u,x,rfl,o0,o1,o2⟩:=uO ab;obtain⟨F,G,rfl,i0⟩:=ir o0;obtain⟨H,I,rfl,i1⟩:=ir o1;obtain⟨J,K,rfl,i2⟩:=iF o2;rw[EA];have af:=cP o1;have ag:=cP o2;obtain⟨T,L⟩:∃T,Hid (yc g=T):=⟨_,rfl⟩
 obtain⟨eb,aj⟩:∃eb,Hid (QA g=eb):=⟨_,rfl⟩
 obtain⟨n,U⟩:∃n,Hid ((kM g).length=n):=⟨_,rfl⟩
 obtain⟨D,ah⟩:∃D,Hid ((pz g).length=D):=⟨_,rfl⟩
 rw[cO L,cO aj,cO U,cO ah];have m:TI w l:=S.trans (E.mono S.size);have b:=(E.block w.heap.size (by omega)).trans aa;have az:=E.size;clear ab o0 o1 o2 i0 i1 i2 hW aa E ad;unfold dG;by_cases c1:T=0
 .subst c1;go_wp2_with fail;generalize V:World.alloc _ _=W1;have B:TI l W1:=by rw[<-V];exact TH.alloc TG _
  have M:W1.heap[l.heap.size]?=some (.cells #[.slice F n G,.slice H n I,.slice J D K] 68 (0,0)):=by rw[<-V];exact ct l _
  clear V;refine(cO HC W1 (m.trans (B.mono m.size))).mono ?_;rintro e A ⟨X,pv,rfl,ak⟩;have an:=cP ak;have aA:=cP B.size;obtain⟨ca,N⟩:∃ca,Hid ((Sp.comp p).1=ca):=⟨_,rfl⟩
  obtain⟨cb,ao⟩:∃cb,Hid ((Sp.comp p).2=cb):=⟨_,rfl⟩
  rw[cO N,cO ao];have j:TI l A:=B.trans (X.mono B.size);have ai:TI w A:=m.trans (j.mono m.size);have Q:=(X.block l.heap.size (cB.1 M).1).trans M;have r:=(j.block w.heap.size (by omega)).trans b;have aB:=j.size;have aC:=(cB.1 M).1;have r0:A.cell? ⟨w.heap.size,0,none⟩=some (.slice none 0 0):=by simp[World.cell?,r]
  have r1:A.cell? ⟨w.heap.size,1,none⟩=some (.slice none 0 0):=by simp[World.cell?,r]
  have r2:A.cell? ⟨w.heap.size,2,none⟩=some (.slice none 0 0):=by simp[World.cell?,r]
  have aq:A.frozen? ⟨w.heap.size,0,none⟩=false:=by simp[World.frozen?,r]
  have ar:A.frozen? ⟨w.heap.size,1,none⟩=false:=by simp[World.frozen?,r]
  have au:A.frozen? ⟨w.heap.size,2,none⟩=false:=by simp[World.frozen?,r]
  have g0:A.cell? ⟨l.heap.size,0,none⟩=some (.slice F n G):=by simp[World.cell?,Q]
  have g1:A.cell? ⟨l.heap.size,1,none⟩=some (.slice H n I):=by simp[World.cell?,Q]
  have g2:A.cell? ⟨l.heap.size,2,none⟩=some (.slice J D K):=by simp[World.cell?,Q]
  have q:Hid (O (.returned (.tuple #[.agg #[.slice F n G,.slice H n I,.slice J D K],.pointer pv,Z Y ca])) (((A.setCell ⟨w.heap.size,0,none⟩ (.slice F n G)).setCell ⟨w.heap.size,1,none⟩ (.slice H n I)).setCell ⟨w.heap.size,2,none⟩ (.slice J D K))):=by
   show O _ _
   rw[<-cO hO];have y:gP g p=ca:=by unfold gP;rw[cd (by rw[cO L];simp),cO N]
   refine⟨((ai.setCell (p:=⟨w.heap.size,0,none⟩) TG _).setCell (p:=⟨w.heap.size,1,none⟩) TG _).setCell (p:=⟨w.heap.size,2,none⟩) TG _,cO ae,F,n,G,H,n,I,J,D,K,pv,by rw[y],λh0=>⟨(cO U).symm,(cO U).symm,(cO ah).symm,?_,?_,?_⟩⟩
   .have o:=cW (cO af) j;have o':=cI (cI (cI o (a:=⟨w.heap.size,0,none⟩) (by show w.heap.size<_;omega) (.slice F n G)) (a:=⟨w.heap.size,1,none⟩) (by show w.heap.size<_;omega) (.slice H n I)) (a:=⟨w.heap.size,2,none⟩) (by show w.heap.size<_;omega) (.slice J D K);obtain⟨pp,kk,s,ii⟩:=ir o';injection s with s _ _;rw[<-s] at ii;exact ii
   .have o:=cW (cO ag) j;have o':=cI (cI (cI o (a:=⟨w.heap.size,0,none⟩) (by show w.heap.size<_;omega) (.slice F n G)) (a:=⟨w.heap.size,1,none⟩) (by show w.heap.size<_;omega) (.slice H n I)) (a:=⟨w.heap.size,2,none⟩) (by show w.heap.size<_;omega) (.slice J D K);obtain⟨pp,kk,s,ii⟩:=iF o';injection s with s _ _;rw[<-s] at ii;exact ii
   .obtain⟨P,C,e1,e2,e3,e4,e5⟩:=cO an (by rw[cO N,<-y];exact h0);refine⟨P,e1,?_⟩;have av:w.heap.size<P:=by have:=B.size;omega
    have z:∀k,k≠w.heap.size->(((A.setCell ⟨w.heap.size,0,none⟩ (.slice F n G)).setCell ⟨w.heap.size,1,none⟩ (.slice H n I)).setCell ⟨w.heap.size,2,none⟩ (.slice J D K)).heap[k]?=A.heap[k]?:=λk hk=>(cG _ _ _ k hk).trans ((cG _ _ _ k hk).trans (cG _ _ _ k hk))
    exact GC (by rw[cO N,<-y];exact h0) ((z P (by omega)).trans e3) (e4.far av r z (by simp[World.setCell]))
  clear X j B M Q b r af ag;go_wp2;exact cr (v := .tuple #[.agg #[.slice F n G,.slice H n I,.slice J D K],.pointer pv,Z Y ca]) (by simp[results,results22,go_sem,r0,r1,r2]) rfl (cO q)
 .have aD:(T != 0)=true:=by rw[E8];exact c1
  have y:gP g p=T:=by unfold gP;rw[cg (by rw[cO L];exact c1),cO L]
  have r0:l.cell? ⟨w.heap.size,0,none⟩=some (.slice none 0 0):=by simp[World.cell?,b]
  have r1:l.cell? ⟨w.heap.size,1,none⟩=some (.slice none 0 0):=by simp[World.cell?,b]
  have r2:l.cell? ⟨w.heap.size,2,none⟩=some (.slice none 0 0):=by simp[World.cell?,b]
  have aq:l.frozen? ⟨w.heap.size,0,none⟩=false:=by simp[World.frozen?,b]
  have ar:l.frozen? ⟨w.heap.size,1,none⟩=false:=by simp[World.frozen?,b]
  have au:l.frozen? ⟨w.heap.size,2,none⟩=false:=by simp[World.frozen?,b]
  have aE:w.heap.size<l.heap.size:=by omega
  have z:=eJ (i:=2) (eJ (i:=1) (eJ (i:=0) b (.slice none 0 0)) (.slice none 0 0)) (.slice none 0 0);have aw:=cP (λo i'=>rU z o i');have q:Hid (∀o,O (.returned (.tuple #[.agg #[.slice none 0 0,.slice none 0 0,.slice none 0 0],.pointer none,Z Y T])) ((((l.setCell ⟨w.heap.size,0,none⟩ (.slice none 0 0)).setCell ⟨w.heap.size,1,none⟩ (.slice none 0 0)).setCell ⟨w.heap.size,2,none⟩ (.slice none 0 0)).alloc o)):=by
   show ∀o,_
   intro o;rw[<-cO hO];have h5:=((m.setCell (p:=⟨w.heap.size,0,none⟩) TG (.slice none 0 0)).setCell (p:=⟨w.heap.size,1,none⟩) TG (.slice none 0 0)).setCell (p:=⟨w.heap.size,2,none⟩) TG (.slice none 0 0);exact⟨h5.alloc h5.size o,cO ae,none,0,0,none,0,0,none,0,0,none,by rw[y],λh0=>absurd (y.symm.trans h0) c1⟩
  have aF:=cP y;have aG:=cP c1;clear z y c1 b;go_wp2;have ax:=cO aw;exact cr (v := .tuple #[.agg #[.slice none 0 0,.slice none 0 0,.slice none 0 0],.pointer none,Z Y T]) (by simp[results,results22,go_sem,ax]) rfl (cO q _)
end
section
open Go.RowKit
theorem PQ(a:Int)(q:Option Addr)(m k:Nat)(b:Int)(w:TJ):TL prog 27 #[.agg #[Z Y a,.slice q m k,Z Y b]] w λe l=>e=.returned (.tuple #[])/\TI w l:=by
 have r:TI w (w.alloc (.cells #[Z Y a,.slice q m k,Z Y b] 80)):=TH.alloc TG _;generalize u:(λ(e:Ending) (l:TJ)=>e=Ending.returned (Value.tuple #[])/\TI w l)=O;have j:Hid (O (.returned (.tuple #[])) (w.alloc (.cells #[Z Y a,.slice q m k,Z Y b] 80))):=by
  show O _ _
  rw[<-u];exact⟨rfl,r⟩
 clear u r;go_enter func27,ntmps27;go_wp2
 first|exact cO j|exact cr (v := .tuple #[]) (by simp[results,results27,go_sem]) rfl (cO j)
def yl(g p:TM)(cT:Int)(w:TJ)(e:Ending)(w':TJ):Prop:=TI w w'/\Small g/\∃v,e=.returned (.tuple #[.agg #[Z .u8 (fQ g p cT).outcome,Z Y (fQ g p cT).step,Z Y (fQ g p cT).dC,v],Z Y (mH g p cT)])/\w'.ownsRow w.heap.size 2 1 v (fQ g p cT).dH.length ((fQ g p cT).dH.map (Z Y))
theorem H9{g p:TM}{cT:Int}{w w':TJ}{a:Int}(h:mH g p cT=a)(ha:a≠0)(hb:TI w w')(e:Small g):yl g p cT w (.returned (.tuple #[.agg #[Z .u8 0,Z Y 0,Z Y 0,.slice none 0 0],Z Y a])) w':=by
 have b:fQ g p cT=⟨0,0,0,[]⟩:=by unfold fQ;rw[cd (by rw[h];exact ha)]
 exact⟨hb,e,.slice none 0 0,by rw[b,h];rfl,by rw[b];exact fc _ _ _ _⟩
theorem Jy{w:TJ}{B n:Nat}{sl:TK}{P:Sp.Pg}{e:List Int}(l:e.length=n)(h:w.ownsRow B 104 4 sl n (jm e [] [] (List.replicate n (Sp.eN P.pK)) n)):∃p b,sl=.slice p n b/\kl w p (Sp.fS P e) n:=by
 obtain⟨p,b,m,r⟩:=gS (all:=Sp.eN P.al) h;refine⟨p,b,m,r.congr (λk _=>rfl) (λk j=>?_) (λk j=>?_) (λk j=>?_)⟩
 .show (List.replicate e.length false).getD k false=_
  rw[cL,List.getElem?_replicate,cg (by omega)];rfl
 .show (List.replicate e.length (0:Int)).getD k 0=_
  rw[cL,List.getElem?_replicate,cg (by omega)];rfl
 .show (List.replicate e.length (Sp.eN P.pK)).getD k 0=_
  rw[l]
theorem IJ(g p:TM)(cT:Int)(z f:Addr)(w:TJ)(hT:Lib.Utf8Tabs 3 4 w)(hC:l8 w)(aB:kj w z f):TL prog 8 #[.string g,.string p,Z Y cT] w (yl g p cT w):=by
 generalize hO:yl g p cT w=O;replace hO:=cP hO;have ak:TI w (w.alloc (.cells #[Z .u8 0,Z Y 0,Z Y 0,.slice none 0 0] 32)):=TH.alloc TG _;have aC:=ct w (.cells #[Z .u8 0,Z Y 0,Z Y 0,.slice none 0 0] 32);have bo:=ee w (.cells #[Z .u8 0,Z Y 0,Z Y 0,.slice none 0 0] 32);have aY:=cP (λW (hb:TI w W)=>pread g p W (eD hT hb) (hC.below hb));have aZ:=cP aB;clear hT hC aB;go_enter func8,ntmps8;go_wp2_with fail;generalize hW:World.alloc _ _=W0 at *;refine(cO aY W0 ak).mono ?_;rintro e A ⟨Q,aD,p0,n0,k0,p1,n1,k1,p2,n2,k2,pv,rfl,aE⟩;have R:=cP aD;have a1:=cP aE;obtain⟨ra,I⟩:∃ra,Hid (gP g p=ra):=⟨_,rfl⟩
 rw[cO I];have D:TI w A:=ak.trans (Q.mono ak.size);have r:=(Q.block w.heap.size (by omega)).trans aC;have bp:=Q.size;have a6:w.heap.size<A.heap.size:=by omega
 have r0:A.cell? ⟨w.heap.size,0,none⟩=some (Z .u8 0):=(by simp[World.cell?,r])
 have aF:A.frozen? ⟨w.heap.size,0,none⟩=false:=(by simp[World.frozen?,r])
 have r1:A.cell? ⟨w.heap.size,1,none⟩=some (Z Y 0):=(by simp[World.cell?,r])
 have aG:A.frozen? ⟨w.heap.size,1,none⟩=false:=(by simp[World.frozen?,r])
 have r2:A.cell? ⟨w.heap.size,2,none⟩=some (Z Y 0):=(by simp[World.cell?,r])
 have aH:A.frozen? ⟨w.heap.size,2,none⟩=false:=(by simp[World.frozen?,r])
 have r3:A.cell? ⟨w.heap.size,3,none⟩=some (.slice none 0 0):=(by simp[World.cell?,r])
 have aI:A.frozen? ⟨w.heap.size,3,none⟩=false:=(by simp[World.frozen?,r])
 have S:=cP (λo i'=>AN (xE r (Z .u8 0) (Z Y 0) (Z Y 0) (.slice none 0 0)) o i');unfold j6 at S;have an:Hid (∀o,TI w ((j6 A w.heap.size (Z .u8 0) (Z Y 0) (Z Y 0) (.slice none 0 0)).alloc o)):=λo=>by have h:=tn D (b7 w.heap.size) (Z .u8 0) (Z Y 0) (Z Y 0) (.slice none 0 0);exact h.alloc h.size o
 clear hW aC Q aD aE;by_cases c1:ra=0
 .subst c1;by_cases c2:0<=cT/\cT<=200
  .obtain⟨m1,m2,m3,aJ,aK,B,rfl,ae⟩:=cO a1 (cO I);subst m1 m2 m3;have J:yc g=0/\(Sp.comp p).1=0:=by
    have h:=cO I;unfold gP at h;by_cases c:yc g≠0
    .rw[cg c] at h;exact absurd h c
    .rw[cd c] at h;exact⟨by simpa using c,h⟩
   obtain⟨l,rfl⟩:∃l:Nat,cT=(l:Int):=⟨cT.toNat,by omega⟩
   have aL:l<=200:=by omega
   have af:Hid (mH g p (l:Int)=0):=by
    show _=_
    unfold mH;rw[cd (by rw[J.1];simp),cd (by rw[J.2];simp),cd (by omega)]
   obtain⟨K,aM⟩:=qw J.1 J.2 (cO R);have ao:=cP K;have L:=cP ae;have aN:=cP aJ;obtain⟨n,HN⟩:∃n,Hid ((kM g).length=n):=⟨_,rfl⟩
   have ag:Hid (Sp.BH (Sp.iw p) (pz g) l (l+1) 0 (Sp.fS (Sp.iw p) (kM g))=fQ g p (l:Int)):=by
    show _=_
    unfold fQ;rw[cg (cO af)]
    rfl
   have aO:Hid (Sp.eT n (Sp.fS (Sp.iw p) (kM g))):=by have h:=Sp.rT (Sp.iw p) (kM g) aM;rw[cO HN] at h;exact h
   have T:=cP (λW (hb:TI A W)=>Mc p0 (kM g).length k0 p1 k1 p2 k2 B l (pz g) W (aK.below hb) K.FR K.es (λx hx=>(K.ed x hx).1));rw[cO HN] at T ao ⊢;have aP:n<=64:=(cO ao).FR;obtain⟨ne,a7⟩:∃ne,Hid ((pz g).length=ne):=⟨_,rfl⟩
   rw[cO a7] at T ⊢;have l1:(0:Int)<=(l:Int):=iJ _;have l2:(l:Int)<=200:=by omega
   have aq:Hid (∀W,TL prog 23 #[Z Y (l:Int),Z Y 0,Z Y 200] W λe w'=>e=.returned (.bool true)/\w'=W):=by
    show ∀W,_
    intro W;have h:=yB (l:Int) 0 200 W;rw[kH l1,kH l2] at h;exact h
   clear K aM J ae aJ aK c2 l1 l2;have ah:=cP r;clear r0 r1 r2 r3 aF aG aH aI S an r;go_wp2_with (go_at_call 23;go_must (refine(cO aq _).mono ?_);rintro e U ⟨rfl,ar⟩;obtain rfl:=ar.symm);generalize aQ:World.alloc _ _=W1;have X:TI A W1:=by rw[<-aQ];exact TH.alloc TG _
   clear aQ;refine(cO T W1 X).mono ?_;rintro e t ⟨aR,pe,ke,rfl,aS⟩;have G:TI A t:=X.trans (aR.mono X.size);have bq:=G.size;have a8:=cP aS;unfold dW;clear T aS aR X;go_upto_region 7 with fail;generalize au:World.alloc _ _=F;have H:TI t F:=by rw[<-au];exact TH.alloc TG _
   have av:F.heap[t.heap.size]?=some (.cells (dW B p1 n k1 pe ke l) 75 (0,0)):=by rw[<-au];exact ct t _
   have s:=(cB.1 av).1;obtain⟨j0,j1,j2,j3⟩:=fJ av;have y:TI A F:=G.trans (H.mono G.size);have ai:TI w F:=D.trans (y.mono D.size);have ba:=cP ((y.block w.heap.size a6).trans (cO ah));have bc:w.heap.size<F.heap.size:=by have:=y.size;omega
   have aw:Hid (∀W,TI F W->TL prog 26 #[.agg #[.pointer (some ⟨B,0,none⟩),.slice p1 n k1,.slice pe n ke,Z Y l]] W (zX (Sp.iw p) (kM g) n W)):=λW hW=>by
    have h1:=y.trans (hW.mono y.size);exact GW B p1 n k1 pe ke l (Sp.iw p) (kM g) W ((cO L).below h1) ((cO aN).below h1) (cO HN) aP
   have aa:Hid (∀(W:TJ) (pp:Option Addr) (kk:Nat),TI F W->kl W pp (Sp.fS (Sp.iw p) (kM g)) n->TL prog 25 #[.agg #[.pointer (some ⟨B,0,none⟩),.slice p1 n k1,.slice pe n ke,Z Y l],.agg #[Z Y 0,.slice pp n kk,Z Y (Sp.eN (Sp.iw p).al)],.func (.func 27) #[] #[]] W (vX (fQ g p (l:Int)) W)):=λW pp kk hW ab=>by
    have h1:=y.trans (hW.mono y.size);exact prun B p1 n k1 pe ke l (Sp.iw p) (pz g) pp kk (Sp.fS (Sp.iw p) (kM g)) z f 27 (fQ g p (l:Int)) W ((cO L).below h1) ((cO aZ).below (D.trans (h1.mono D.size))) ((cO a8).below (H.trans (hW.mono H.size))) ab (cO aO) (cO ao) aL (cO ag) (cV func27 (by kernel_rfl) (by kernel_rfl)) (λa q m k b W=>PQ a q m k b W)
   have aT:Hid (∀(args:Array TK) (w:TJ),(callFunc 26 args).run prog w=.ok (.enter 26 args) w):=cV func26 (by kernel_rfl) (by kernel_rfl);have aU:Hid (∀(args:Array TK) (w:TJ),(callFunc 25 args).run prog w=.ok (.enter 25 args) w):=cV func25 (by kernel_rfl) (by kernel_rfl);have aV:Hid (∀(U:TJ) (v:TK) (Bq:Nat),TI F U->U.ownsRow Bq 2 1 v (fQ g p (l:Int)).dH.length ((fQ g p (l:Int)).dH.map (Z Y))->F.heap.size<=Bq->yl g p (l:Int) w (.returned (.tuple #[.agg #[Z .u8 (fQ g p (l:Int)).outcome,Z Y (fQ g p (l:Int)).step,Z Y (fQ g p (l:Int)).dC,v],Z Y 0])) (j6 U w.heap.size (Z .u8 (fQ g p (l:Int)).outcome) (Z Y (fQ g p (l:Int)).step) (Z Y (fQ g p (l:Int)).dC) v)):=λU v Bq E M br=>by
    have h1:=ai.trans (E.mono ai.size);refine⟨tn h1 TG _ _ _ _,cO R,v,by rw[cO af],?_⟩;have o':∀{W:TJ} (j:Nat) (u:TK),W.ownsRow Bq 2 1 v (fQ g p (l:Int)).dH.length ((fQ g p (l:Int)).dH.map (Z Y))->(W.setCell ⟨w.heap.size,j,none⟩ u).ownsRow Bq 2 1 v (fQ g p (l:Int)).dH.length ((fQ g p (l:Int)).dH.map (Z Y)):=λj u h=>cI h (a:=⟨w.heap.size,j,none⟩) (by show w.heap.size<Bq;omega) u
    exact fA (o' 3 _ (o' 2 _ (o' 1 _ (o' 0 _ M)))) (by omega)
   obtain⟨na,bd⟩:∃na,Hid (Sp.eN (Sp.iw p).al=na):=⟨_,rfl⟩
   unfold zX at aw;unfold vX at aa;rw[cO bd] at aw aa;generalize fQ g p (l:Int)=res at *;obtain⟨oc,st,vt,V⟩:=res;simp only at aa aV;clear au G H av L aN ag aO ah
   go_region_law (first
   | (refine di (by rfl) _ _ _ (by rfl) 26 (by rfl) _ (by rfl) (cO aT) (cO aw _ (by first|exact cj _ _|exact TH.drew)) ?_;rintro e U ⟨N,sl,rfl,aW⟩;obtain⟨pp,kk,bg,ab⟩:=Jy (cO HN) aW;subst bg;dsimp only;have E:TI F U:=(by first|exact N|exact TH.drew.trans (N.mono TG));have ad:=cP E;have bh:=cP ab;have i0:=(E.cell (p:=⟨t.heap.size,0,none⟩) s).trans j0;have i1:=(E.cell (p:=⟨t.heap.size,1,none⟩) s).trans j1;have i2:=(E.cell (p:=⟨t.heap.size,2,none⟩) s).trans j2;have i3:=(E.cell (p:=⟨t.heap.size,3,none⟩) s).trans j3;clear E N aW ab)
   | (refine di (by rfl) _ _ _ (by rfl) 25 (by rfl) _ (by rfl) (cO aU) (cO aa U pp kk (cO ad) (cO bh)) ?_;rintro e wr ⟨aj,v,rfl,M⟩;obtain⟨ax,ay,aX,_⟩:=dd M;subst aX;dsimp only;have az:TI F wr:=(cO ad).trans (aj.mono (cO ad).size);have C:=(az.block w.heap.size bc).trans (cO ba);have r0:wr.cell? ⟨w.heap.size,0,none⟩=some (Z .u8 0):=(by simp[World.cell?,C]);have aF:wr.frozen? ⟨w.heap.size,0,none⟩=false:=(by simp[World.frozen?,C]);have r1:wr.cell? ⟨w.heap.size,1,none⟩=some (Z Y 0):=(by simp[World.cell?,C]);have aG:wr.frozen? ⟨w.heap.size,1,none⟩=false:=(by simp[World.frozen?,C]);have r2:wr.cell? ⟨w.heap.size,2,none⟩=some (Z Y 0):=(by simp[World.cell?,C]);have aH:wr.frozen? ⟨w.heap.size,2,none⟩=false:=(by simp[World.frozen?,C]);have r3:wr.cell? ⟨w.heap.size,3,none⟩=some (.slice none 0 0):=(by simp[World.cell?,C]);have aI:wr.frozen? ⟨w.heap.size,3,none⟩=false:=(by simp[World.frozen?,C]);have bj:=cP az;have bk:=cP M;clear az aj M C))
   all_goals
    have P:Hid (O (.returned (.tuple #[.agg #[Z .u8 oc,Z Y st,Z Y vt,.slice ax V.length ay],Z Y 0])) (j6 wr w.heap.size (Z .u8 oc) (Z Y st) (Z Y vt) (.slice ax V.length ay))):=by
     show O _ _
     rw[<-cO hO];exact cO aV wr _ _ (cO bj) (cO bk) (cO ad).size
    first
     | (go_wp2;exact cr (v := .tuple #[.agg #[Z .u8 oc,Z Y st,Z Y vt,.slice ax V.length ay],Z Y 0]) (by simp[results,results8,go_sem,r0,r1,r2,r3]) rfl (cO P))
     |trace_state
  .have HE:Hid (mH g p cT=8):=by
    show _=_
    have h:=cO I;unfold gP at h;unfold mH;by_cases c:yc g≠0
    .rw[cg c] at h;exact absurd h c
    .rw[cd c] at h ⊢;rw[cd (by rw[h];simp),cg (by omega)]
   have aq:Hid (∀W,TL prog 23 #[Z Y cT,Z Y 0,Z Y 200] W λe w'=>e=.returned (.bool false)/\w'=W):=by
    show ∀W,_
    intro W;have h:=yB cT 0 200 W;have hf:(decide (0<=cT)&&decide (cT<=200))=false:=by
     by_cases l1:0<=cT
     .rw[kH l1,df (λl2=>c2 ⟨l1,l2⟩)];rfl
     .rw[df l1];rfl
    rw[hf] at h;exact h
   have P:Hid (∀o,O (.returned (.tuple #[.agg #[Z .u8 0,Z Y 0,Z Y 0,.slice none 0 0],Z Y 8])) ((j6 A w.heap.size (Z .u8 0) (Z Y 0) (Z Y 0) (.slice none 0 0)).alloc o)):=by
    show ∀o,_
    intro o;rw[<-cO hO];exact H9 (cO HE) (by decide) (cO an o) (cO R)
   clear c2 r;go_wp2_with (go_at_call 23;go_must (refine(cO aq _).mono ?_);rintro e U ⟨rfl,ar⟩;obtain rfl:=ar.symm);have aA:=cO S;exact cr (v := .tuple #[.agg #[Z .u8 0,Z Y 0,Z Y 0,.slice none 0 0],Z Y 8]) (by simp[results,results8,go_sem,aA]) rfl (cO P _)
 .have bs:(ra != 0)=true:=by rw[E8];exact c1
  have HE:Hid (mH g p cT=ra):=by
   show _=_
   have h:=cO I;unfold gP at h;unfold mH;by_cases c:yc g≠0
   .rw[cg c] at h ⊢;exact h
   .rw[cd c] at h ⊢;rw[cg (by rw[h];exact c1)];exact h
  have bn:=cP c1;have P:Hid (∀o,O (.returned (.tuple #[.agg #[Z .u8 0,Z Y 0,Z Y 0,.slice none 0 0],Z Y ra])) ((j6 A w.heap.size (Z .u8 0) (Z Y 0) (Z Y 0) (.slice none 0 0)).alloc o)):=by
   show ∀o,_
   intro o;rw[<-cO hO];exact H9 (cO HE) (cO bn) (cO an o) (cO R)
  clear c1 r;go_wp2;have aA:=cO S;exact cr (v := .tuple #[.agg #[Z .u8 0,Z Y 0,Z Y 0,.slice none 0 0],Z Y ra]) (by simp[results,results8,go_sem,aA]) rfl (cO P _)
end
end Go.Proofs.YtgkkdpegcieakaaGreatDoor
