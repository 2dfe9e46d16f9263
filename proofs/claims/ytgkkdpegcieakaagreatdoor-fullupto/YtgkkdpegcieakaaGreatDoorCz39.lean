import Derived.Test.YtgkkdpegcieakaaGreatDoorCz37
import Derived.Test.YtgkkdpegcieakaaGreatDoorCz31
import Derived.Test.YtgkkdpegcieakaaGreatDoorCz38
set_option linter.unusedVariables false
set_option linter.unusedSimpArgs false
set_option maxRecDepth 100000
set_option maxHeartbeats 16000000
namespace Go.Proofs.YtgkkdpegcieakaaGreatDoor
open Go.Proofs.Tryz
open Value renaming int→Z
open IntKind renaming i64→Y
open Go renaming World→TJ,Value→TK,Calls→TL
namespace Ru
open Go.RowKit
open Sp (Pg Ed Cfg)
open Rd (Rk e0)
open Pk (jo Sm fy TP cZ cS cY)
open Dk (Kept)
structure vD (lo hi:Nat) (w:TJ) (B:Nat) (P:Pg):Prop where
 bl:lo<=B/\B<hi
 hl:hi<=w.heap.size
 code:∀i,i<5->∃g cap,(lo<=g/\g<hi)/\w.cell? ⟨B,i*4,none⟩=some (.slice (some ⟨g,0,none⟩) (P.code i).length cap)/\om w g (P.code i)
 pK:mX w B 21 P.pK
 al:mX w B 25 P.al
variable {B hi lo:Nat}{P:Pg}{w:TJ}
theorem vD.Rp(h:vD lo hi w B P): jJ w B P:=⟨by have:=h.bl;have:=h.hl;omega,λi hi=>by obtain⟨g,b,_,e,j⟩:=h.code i hi;exact⟨g,b,e,j⟩,h.pK,h.al⟩
variable {W:TJ}
theorem Ls(j:∀b n,j4 w b n->j4 W b n)(u:w.heap.size<=W.heap.size){x:List UInt8}{e:TK}(h:Fn w w.heap.size x e): Fn W W.heap.size x e:=by
 rcases h with ⟨b,n,y,l,m,r⟩|h
 .exact Or.inl ⟨b,n,by omega,l,j b n m,r⟩
 .exact Or.inr h
theorem Co{g:Nat}{L:List (List UInt8)}(h:om w g L)(r:W.heap[g]?=w.heap[g]?)(u:∀b n,j4 w b n->j4 W b n)(y:w.heap.size<=W.heap.size): om W g L:=by
 have m:∀i,W.cell? ⟨g,i,none⟩=w.cell? ⟨g,i,none⟩:=λi=>CN (w:=w) (a:=⟨g,i,none⟩) r
 refine⟨h.CU,?_,by have:=h.lt;omega,λi hi=>?_⟩
 .obtain⟨z,j,l⟩:=h.rd;exact⟨z,j,λi hi=>(m _).trans (l i hi)⟩
 .obtain⟨F,e,j,l⟩:=h.fn i hi;exact⟨F,e,(m _).trans j,Ls u y l⟩
theorem xS{o:Nat}{k:List UInt8}(h:mX w B o k)(e:W.heap[B]?=w.heap[B]?): mX W B o k:=by
 have b:∀i,W.cell? ⟨B,i,none⟩=w.cell? ⟨B,i,none⟩:=λi=>CN (w:=w) (a:=⟨B,i,none⟩) e
 obtain⟨j,F,l,m,r,u⟩:=h;exact⟨j,F,(b _).trans l,(b _).trans m,(b _).trans r,u⟩
theorem vD.keep(h:vD lo hi w B P)(m:∀k,lo<=k->k<hi->W.heap[k]?=w.heap[k]?)(u:∀b n,j4 w b n->j4 W b n)(r:w.heap.size<=W.heap.size): vD lo hi W B P:=by
 have e:=m B h.bl.1 h.bl.2;refine⟨h.bl,cx h.hl r,λi hi=>?_,xS h.pK e,xS h.al e⟩;obtain⟨g,j,l,y,z⟩:=h.code i hi;exact⟨g,j,l,(CN (w:=w) (a:=⟨B,i*4,none⟩) e).trans y,Co z (m g l.1 l.2) u r⟩
theorem vD.below(h:vD lo hi w B P)(hb:TI w W): vD lo hi W B P:=by
 refine h.keep (λk _ j=>hb.block k (by have:=h.hl;omega)) (λb n e=>?_) hb.size;exact(hb.block b (cS e)).trans e
def Ko(lo hi:Nat)(w:TJ)(pe:Option Addr)(n:Nat)(Es:List Ed):Prop := ∀i,i<n->∃D p b,pe=some ⟨D,0,none⟩/\(lo<=D/\D<hi)/\w.cell? ⟨D,i,none⟩=some (.slice p (Sp.iG Es i).length b)/\fY w p (Sp.iG Es i)/\(∀a,p=some a->lo<=a.block/\a.block<hi)
theorem Ko.eb{pe:Option Addr}{n:Nat}{Es:List Ed}(h:Ko lo hi w pe n Es)(l:hi<=w.heap.size): Gl w pe n Es:=λi e=>by
 obtain⟨D,p,j,a,b,c,d,_⟩:=h i e;exact⟨D,p,j,a,by omega,c,d⟩
theorem Ko.keep{pe:Option Addr}{n:Nat}{Es:List Ed}(h:Ko lo hi w pe n Es)(m:∀k,lo<=k->k<hi->W.heap[k]?=w.heap[k]?)(u:w.heap.size<=W.heap.size): Ko lo hi W pe n Es:=λi j=>by
 obtain⟨D,p,l,a,b,c,d,e⟩:=h i j;exact⟨D,p,l,a,b,(CN (w:=w) (a:=⟨D,i,none⟩) (m D b.1 b.2)).trans c,fY.PJ d (λq r _=>m q.block (e q r).1 (e q r).2) u,e⟩
theorem F0{z f:Addr}(h:kj w z f)(b:∀k,(k=1\/k=2\/k=z.block\/k=f.block)->W.heap[k]?=w.heap[k]?): kj W z f:=by
 refine⟨(CN (w:=w) (a:=⟨1,0,none⟩) (b _ (Or.inl rfl))).trans h.cz,(CN (w:=w) (a:=⟨2,0,none⟩) (b _ (Or.inr (Or.inl rfl)))).trans h.cf,h.ne,?_,?_⟩
 .obtain⟨c,t,e⟩:=h.bz;exact⟨c,t,(b _ (Or.inr (Or.inr (Or.inl rfl)))).trans e⟩
 .obtain⟨c,t,e⟩:=h.bf;exact⟨c,t,(b _ (Or.inr (Or.inr (Or.inr rfl)))).trans e⟩
end Ru
namespace Ru
open Go.RowKit
theorem KD{l:Nat}{s:TM}{w:TJ}{P:Nat}{C:Array TK}{t:TypeId}(b:l<=P)(m:(Sp.comp s).1=0)(hb:w.heap[P]?=some (.cells C t (0,0)))(r:mC (Sp.split s 10) w P C 7):vD l w.heap.size w P (Sp.iw s):=by
 have e:=GC m hb r;refine⟨⟨b,e.lt⟩,b7 _,λi hi=>?_,e.pK,e.al⟩;obtain⟨g,j,y,z,u⟩:=r.code i (by omega) hi;exact⟨g,j,⟨by omega,u.lt⟩,(cn w P (i*4) C t (0,0) hb).trans y,Eh u (Sp.te m hi)⟩
def Dy(g p:TM)(w:TJ)(e:Ending)(w':TJ):Prop:=TI w w'/\Small g/\∃y b z j l A m r C u,e=.returned (.tuple #[.agg #[.slice y b z,.slice j l A,.slice m r C],.pointer u,Z Y (gP g p)])/\
  (gP g p=0->b=(kM g).length/\l=(kM g).length/\r=(pz g).length/\fF w' Y j (kM g)/\fY w' m (pz g)/\∃B,u=some ⟨B,0,none⟩/\vD w.heap.size w'.heap.size w' B (Sp.iw p))
theorem Hr(g p:TM)(w:TJ)(hT:Lib.Utf8Tabs 3 4 w)(hC:l8 w):TL prog 22 #[.string g,.string p] w (Dy g p w):=by
 generalize hO:Dy g p w=O;replace hO:=cP hO;have R:TI w (w.alloc (.cells #[.slice none 0 0,.slice none 0 0,.slice none 0 0] 68)):=TH.alloc TG _;have s:=ct w (.cells #[.slice none 0 0,.slice none 0 0,.slice none 0 0] 68);have ax:=ee w (.cells #[.slice none 0 0,.slice none 0 0,.slice none 0 0] 68);have HP:=cP (λW (hb:TI w W)=>nY g W (eD hT hb) (eG hC.split hb));have HC:=cP (λW (hb:TI w W)=>xe p W (hC.below hb));clear hT hC;go_enter func22,ntmps22;go_wp2_with fail;generalize hW:World.alloc _ _=W0 at *;refine(cO HP W0 R).mono ?_;rintro e l ⟨aa,ab⟩;have ad:=cP ab;obtain⟨E,v,u,x,rfl,o0,o1,o2⟩:=uO aa;obtain⟨F,G,rfl,i0⟩:=ir o0;obtain⟨H,I,rfl,i1⟩:=ir o1;obtain⟨J,K,rfl,i2⟩:=iF o2;rw[EA];have ae:=cP o1;have af:=cP o2;obtain⟨S,L⟩:∃S,Hid (yc g=S):=⟨_,rfl⟩
 obtain⟨eb,ai⟩:∃eb,Hid (QA g=eb):=⟨_,rfl⟩
 obtain⟨n,T⟩:∃n,Hid ((kM g).length=n):=⟨_,rfl⟩
 obtain⟨D,ag⟩:∃D,Hid ((pz g).length=D):=⟨_,rfl⟩
 rw[cO L,cO ai,cO T,cO ag];have m:TI w l:=R.trans (E.mono R.size);have b:=(E.block w.heap.size (by omega)).trans s;have ay:=E.size;clear aa o0 o1 o2 i0 i1 i2 hW s E ab;unfold dG;by_cases t:S=0
 .subst t;go_wp2_with fail;generalize U:World.alloc _ _=W1;have B:TI l W1:=by rw[<-U];exact TH.alloc TG _
  have M:W1.heap[l.heap.size]?=some (.cells #[.slice F n G,.slice H n I,.slice J D K] 68 (0,0)):=by rw[<-U];exact ct l _
  clear U;refine(cO HC W1 (m.trans (B.mono m.size))).mono ?_;rintro e A ⟨V,pv,rfl,aj⟩;have ak:=cP aj;have az:=cP B.size;obtain⟨ca,N⟩:∃ca,Hid ((Sp.comp p).1=ca):=⟨_,rfl⟩
  obtain⟨cb,an⟩:∃cb,Hid ((Sp.comp p).2=cb):=⟨_,rfl⟩
  rw[cO N,cO an];have j:TI l A:=B.trans (V.mono B.size);have ah:TI w A:=m.trans (j.mono m.size);have Q:=(V.block l.heap.size (cB.1 M).1).trans M;have r:=(j.block w.heap.size (by omega)).trans b;have aA:=j.size;have aB:=(cB.1 M).1;have r0:A.cell? ⟨w.heap.size,0,none⟩=some (.slice none 0 0):=by simp[World.cell?,r]
  have r1:A.cell? ⟨w.heap.size,1,none⟩=some (.slice none 0 0):=by simp[World.cell?,r]
  have r2:A.cell? ⟨w.heap.size,2,none⟩=some (.slice none 0 0):=by simp[World.cell?,r]
  have ao:A.frozen? ⟨w.heap.size,0,none⟩=false:=by simp[World.frozen?,r]
  have aq:A.frozen? ⟨w.heap.size,1,none⟩=false:=by simp[World.frozen?,r]
  have ar:A.frozen? ⟨w.heap.size,2,none⟩=false:=by simp[World.frozen?,r]
  have g0:A.cell? ⟨l.heap.size,0,none⟩=some (.slice F n G):=by simp[World.cell?,Q]
  have g1:A.cell? ⟨l.heap.size,1,none⟩=some (.slice H n I):=by simp[World.cell?,Q]
  have g2:A.cell? ⟨l.heap.size,2,none⟩=some (.slice J D K):=by simp[World.cell?,Q]
  have X:Hid (O (.returned (.tuple #[.agg #[.slice F n G,.slice H n I,.slice J D K],.pointer pv,Z Y ca])) (((A.setCell ⟨w.heap.size,0,none⟩ (.slice F n G)).setCell ⟨w.heap.size,1,none⟩ (.slice H n I)).setCell ⟨w.heap.size,2,none⟩ (.slice J D K))):=by
   show O _ _
   rw[<-cO hO];have y:gP g p=ca:=by unfold gP;rw[cd (by rw[cO L];simp),cO N]
   refine⟨((ah.setCell (p:=⟨w.heap.size,0,none⟩) TG _).setCell (p:=⟨w.heap.size,1,none⟩) TG _).setCell (p:=⟨w.heap.size,2,none⟩) TG _,cO ad,F,n,G,H,n,I,J,D,K,pv,by rw[y],λh0=>⟨(cO T).symm,(cO T).symm,(cO ag).symm,?_,?_,?_⟩⟩
   .have o:=cW (cO ae) j;have o':=cI (cI (cI o (a:=⟨w.heap.size,0,none⟩) (by show w.heap.size<_;omega) (.slice F n G)) (a:=⟨w.heap.size,1,none⟩) (by show w.heap.size<_;omega) (.slice H n I)) (a:=⟨w.heap.size,2,none⟩) (by show w.heap.size<_;omega) (.slice J D K);obtain⟨pp,kk,q,ii⟩:=ir o';injection q with q _ _;rw[<-q] at ii;exact ii
   .have o:=cW (cO af) j;have o':=cI (cI (cI o (a:=⟨w.heap.size,0,none⟩) (by show w.heap.size<_;omega) (.slice F n G)) (a:=⟨w.heap.size,1,none⟩) (by show w.heap.size<_;omega) (.slice H n I)) (a:=⟨w.heap.size,2,none⟩) (by show w.heap.size<_;omega) (.slice J D K);obtain⟨pp,kk,q,ii⟩:=iF o';injection q with q _ _;rw[<-q] at ii;exact ii
   .obtain⟨P,C,e1,e2,e3,e4,e5⟩:=cO ak (by rw[cO N,<-y];exact h0);refine⟨P,e1,?_⟩;have au:w.heap.size<P:=by have:=B.size;omega
    have z:∀k,k≠w.heap.size->(((A.setCell ⟨w.heap.size,0,none⟩ (.slice F n G)).setCell ⟨w.heap.size,1,none⟩ (.slice H n I)).setCell ⟨w.heap.size,2,none⟩ (.slice J D K)).heap[k]?=A.heap[k]?:=λk hk=>(cG _ _ _ k hk).trans ((cG _ _ _ k hk).trans (cG _ _ _ k hk))
    exact KD (by omega) (by rw[cO N,<-y];exact h0) ((z P (by omega)).trans e3) (e4.far au r z (by simp[World.setCell]))
  clear V j B M Q b r ae af;go_wp2;exact cr (v := .tuple #[.agg #[.slice F n G,.slice H n I,.slice J D K],.pointer pv,Z Y ca]) (by simp[results,results22,go_sem,r0,r1,r2]) rfl (cO X)
 .have aC:(S != 0)=true:=by rw[E8];exact t
  have y:gP g p=S:=by unfold gP;rw[cg (by rw[cO L];exact t),cO L]
  have r0:l.cell? ⟨w.heap.size,0,none⟩=some (.slice none 0 0):=by simp[World.cell?,b]
  have r1:l.cell? ⟨w.heap.size,1,none⟩=some (.slice none 0 0):=by simp[World.cell?,b]
  have r2:l.cell? ⟨w.heap.size,2,none⟩=some (.slice none 0 0):=by simp[World.cell?,b]
  have ao:l.frozen? ⟨w.heap.size,0,none⟩=false:=by simp[World.frozen?,b]
  have aq:l.frozen? ⟨w.heap.size,1,none⟩=false:=by simp[World.frozen?,b]
  have ar:l.frozen? ⟨w.heap.size,2,none⟩=false:=by simp[World.frozen?,b]
  have aD:w.heap.size<l.heap.size:=by omega
  have z:=eJ (i:=2) (eJ (i:=1) (eJ (i:=0) b (.slice none 0 0)) (.slice none 0 0)) (.slice none 0 0);have av:=cP (λo i'=>rU z o i');have X:Hid (∀o,O (.returned (.tuple #[.agg #[.slice none 0 0,.slice none 0 0,.slice none 0 0],.pointer none,Z Y S])) ((((l.setCell ⟨w.heap.size,0,none⟩ (.slice none 0 0)).setCell ⟨w.heap.size,1,none⟩ (.slice none 0 0)).setCell ⟨w.heap.size,2,none⟩ (.slice none 0 0)).alloc o)):=by
   show ∀o,_
   intro o;rw[<-cO hO];have h5:=((m.setCell (p:=⟨w.heap.size,0,none⟩) TG (.slice none 0 0)).setCell (p:=⟨w.heap.size,1,none⟩) TG (.slice none 0 0)).setCell (p:=⟨w.heap.size,2,none⟩) TG (.slice none 0 0);exact⟨h5.alloc h5.size o,cO ad,none,0,0,none,0,0,none,0,0,none,by rw[y],λh0=>absurd (y.symm.trans h0) t⟩
  have aE:=cP y;have aF:=cP t;clear z y t b;go_wp2;have aw:=cO av;exact cr (v := .tuple #[.agg #[.slice none 0 0,.slice none 0 0,.slice none 0 0],.pointer none,Z Y S]) (by simp[results,results22,go_sem,aw]) rfl (cO X _)
end Ru
namespace Ru
open Go.RowKit
theorem Ol{l:Nat}{w:TJ}{L D n:Nat}{f:Nat->TK}{E:List Sp.Ed}(h:sa w L D n f E)(y:l<=L):Ko l w.heap.size w (some ⟨D,0,none⟩) n E:=λi hi=>by
 have e:=h.own i hi;obtain⟨p,m,r,z⟩:=iF e;refine⟨D,p,m,rfl,⟨by have:=h.lt;omega,h.lt.2⟩,by rw[h.cell hi,r],z,λa j=>?_⟩;rcases e.2 with ⟨b,_⟩|⟨g,u,A,b,C,B,_⟩
 .rw[r] at b;injection b with b _ _;rw[b] at j;cases j
 .rw[r] at b;injection b with b _ _;rw[b] at j;have j:⟨g,0,none⟩=a:=iP j;subst j;exact⟨by show l<=g;omega,(cB.1 B).1⟩
def zi(B:Nat)(j:Option Addr)(n l cT:Nat)(Es:List Sp.Ed)(w:TJ)(e:Ending)(w':TJ):Prop:=TI w w'/\∃b m,e=.returned (.agg (dW B j n l b m cT))/\Ko w.heap.size w'.heap.size w' b n Es
theorem Cq(K:Option Addr)(n L:Nat)(l:Option Addr)(r:Nat)(pe:Option Addr)(ke B cT:Nat)(Es:List Sp.Ed)(w:TJ)(he:fY w pe Es)(t:n<=64)(s:Es.length<=256)(G:∀x∈Es,x.de<n):TL prog 24 #[.agg #[.slice K n L,.slice l n r,.slice pe Es.length ke],.pointer (some ⟨B,0,none⟩),Z Y cT] w (zi B l n r cT Es w):=by
 generalize M:zi B l n r cT Es w=O;replace M:=cP M;have N:=cP (λW (hb:TI w W)=>P6 K n L l r pe ke Es W (he.below hb) t s G);have H:=cP (pJ w #[.slice K n L,.slice l n r,.slice pe Es.length ke] #[.pointer none,.slice none 0 0,.slice none 0 0,Z Y 0] 68 75);clear he G;generalize Es.length=m at *;have P:Hid (∀(args:Array TK) (w:TJ),(callFunc 39 args).run prog w=.ok (.enter 39 args) w):=cV func39 (by kernel_rfl) (by kernel_rfl);go_enter func24,ntmps24;go_upto_region 1 with fail;generalize X:World.alloc (World.alloc _ _) _=z;obtain⟨A,I,F,o⟩:=cO H z X.symm;clear X H;have g0:z.cell? ⟨w.heap.size,0,none⟩=some (.slice K n L):=by simp[World.cell?,A]
 have g:z.cell? ⟨w.heap.size,1,none⟩=some (.slice l n r):=by simp[World.cell?,A]
 have g2:z.cell? ⟨w.heap.size,2,none⟩=some (.slice pe m ke):=by simp[World.cell?,A]
 have Q:w.heap.size<z.heap.size:=by omega
 have u:w.heap.size+1<z.heap.size:=by omega
 have S:=cP I;clear A I
 go_region_law (refine di (by rfl) _ _ _ (by rfl) 39 (by rfl) _ (by rfl) (cO P) (cO N _ (by first|exact F|exact F.drew)) ?_;rintro e b ⟨y,D,f,rfl,q⟩;dsimp only;have C:TI z b:=(by first|exact y|exact TH.drew.trans (y.mono TG));have J:sa b z.heap.size D n f Es:=q;have q1:b.cell? ⟨w.heap.size,1,none⟩=some (.slice l n r):=(C.cell (p:=⟨w.heap.size,1,none⟩) Q).trans g;have E:=(C.block _ u).trans (cO S);have r0:b.cell? ⟨w.heap.size+1,0,none⟩=some (.pointer none):=(by simp[World.cell?,E]);have r1:b.cell? ⟨w.heap.size+1,1,none⟩=some (.slice none 0 0):=(by simp[World.cell?,E]);have r2:b.cell? ⟨w.heap.size+1,2,none⟩=some (.slice none 0 0):=(by simp[World.cell?,E]);have r3:b.cell? ⟨w.heap.size+1,3,none⟩=some (Z Y 0):=(by simp[World.cell?,E]);have f0:b.frozen? ⟨w.heap.size+1,0,none⟩=false:=(by simp[World.frozen?,E]);have f1:b.frozen? ⟨w.heap.size+1,1,none⟩=false:=(by simp[World.frozen?,E]);have f2:b.frozen? ⟨w.heap.size+1,2,none⟩=false:=(by simp[World.frozen?,E]);have f3:b.frozen? ⟨w.heap.size+1,3,none⟩=false:=(by simp[World.frozen?,E]);have T:=cP C;have U:=cP J;clear C y q J E)
 all_goals
  have V:Hid (O (.returned (.agg #[.pointer (some ⟨B,0,none⟩),.slice l n r,.slice (some ⟨D,0,none⟩) n n,Z Y cT])) ((((b.setCell ⟨w.heap.size+1,0,none⟩ (.pointer (some ⟨B,0,none⟩))).setCell ⟨w.heap.size+1,1,none⟩ (.slice l n r)).setCell ⟨w.heap.size+1,2,none⟩ (.slice (some ⟨D,0,none⟩) n n)).setCell ⟨w.heap.size+1,3,none⟩ (Z Y cT))):=by
   show O _ _
   rw[<-cO M];have h1:=((((cO U).Bd (R:=w.heap.size+1) (j:=0) (v := .pointer (some ⟨B,0,none⟩)) u).Bd (R:=w.heap.size+1) (j:=1) (v := .slice l n r) u).Bd (R:=w.heap.size+1) (j:=2) (v := .slice (some ⟨D,0,none⟩) n n) u).Bd (R:=w.heap.size+1) (j:=3) (v := Z Y cT) u;have h2:TI w b:=F.trans ((cO T).mono (by omega));exact⟨(((h2.setCell (p:=⟨w.heap.size+1,0,none⟩) (px _) _).setCell (p:=⟨w.heap.size+1,1,none⟩) (px _) _).setCell (p:=⟨w.heap.size+1,2,none⟩) (px _) _).setCell (p:=⟨w.heap.size+1,3,none⟩) (px _) _,_,_,rfl,Ol h1 (by omega)⟩
  first
   | (go_wp2;exact cr (v := .agg #[.pointer (some ⟨B,0,none⟩),.slice l n r,.slice (some ⟨D,0,none⟩) n n,Z Y cT]) (by simp[results,results24,go_sem,r0,r1,r2,r3]) rfl (cO V))
   |trace_state
end Ru
namespace Ru
open Go.RowKit
open Sp (Pg Ed Cfg)
open Rd (Rk e0)
open Pk (jo Sm fy TP cZ cS cY)
open Dk (Kept)
theorem GG{A hi C H:Nat}{w:TJ}{D E S cX n cU B:Nat}{Q R:Rk}{O:Nat->Prop}{v:TK}{T:Sn.Tb}{P:Pg}{Es:List Ed}{pe:Option Addr}{z f:Addr}(h:ow w D E S cX n cU Q R O v T)(I:vD A hi w B P)(he:Ko C H w pe n Es)(r:kj w z f)(J:∀k,O k->k<A)(hS:∀k,qj S v k->hi<=k/\k<C)(h1:A<=hi)(h2:hi<=C)(i:H<=w.heap.size)(F:∀k,(k=1\/k=2\/k=z.block\/k=f.block)->¬OO O S v k):∀W K L y,w.heap.size<=y->fy w (OR O S v y) W (OR K S L y)->jJ W B P/\kj W z f/\Gl W pe n Es:=by
 intro W K L y U M;have l:∀k,k<w.heap.size->¬OO O S v k->W.heap[k]?=w.heap[k]?:=λk l V=>M.kept.block k l (λe=>by
  rcases e with e|e
  .exact V e
  .omega)
 have u:=M.kept.size;refine⟨(I.keep (λk X x=>l k (by have:=I.hl;omega) (λe=>?_)) (λb m q=>?_) u).Rp,F0 r (λk N=>l k ?_ (F k N)),(he.keep (λk X x=>l k (by omega) (λe=>?_)) u).eb (by omega)⟩
 .rcases e with e|e
  .have:=J k e;omega
  .have:=hS k e;omega
 .have j:w.heap[b]?=some (.cells #[Z Y m] 2 (0,0)):=q;exact(l b (cS j) (iZ h j (by decide))).trans j
 .rcases N with rfl|rfl|rfl|rfl
  .exact r.lz
  .exact r.lf
  .obtain⟨c,t,G⟩:=r.bz;exact cS G
  .obtain⟨c,t,G⟩:=r.bf;exact cS G
 .rcases e with e|e
  .have:=J k e;omega
  .have:=hS k e;omega
end Ru
namespace Ru
open Go.RowKit
open Classical
theorem Jj{T:Sn.Tb}{de:Nat}{x:Sn.Ce}(h:Sn.da (T++[(de,x)])):∀y∈T++[(de,x)],y.1<=de:=λy b=>by
 rcases cJ.1 b with e|e
 .have:=(QB.1 h).2.2 y e (de,x) mz;simp[Sn.lt] at this;omega
 .rw[eh.1 e];exact b7 _
theorem NK{F:TM->TM}{n cX b:Nat}{a:TM}(h:Fm F n cX a b):b<=4294967295:=by
 have j:=h.Rf;have e:=gV (Sp.dt (F a)) 4 0;have l:num (Sp.dt (F a)) 0 4<4294967296:=e;omega
theorem GV{F:TM->TM}{n cX:Nat}{L:List TM}:∀s∈fT F n cX L,s<=4294967295:=λs b=>by
 obtain⟨a,_,e⟩:=List.mem_filterMap.1 b;exact NK (nF e).2.QT
end Ru
namespace Ru
open Go.RowKit
open Sp (Pg Ed Cfg nK eT iN)
open Rd (Rk e0)
open Pk (Sm)
open Classical
def qF(g p:TM)(every keep cap:Int):Int:=if gP g p≠0 then gP g p else if ¬((1<=every/\every<=50)/\(1<=keep/\keep<=5)/\(0<=cap/\cap<=200)) then 8 else 0
variable {g p:TM}
theorem rS{every keep cap:Int}(h:qF g p every keep cap=0): gP g p=0/\(1<=every/\every<=50)/\(1<=keep/\keep<=5)/\(0<=cap/\cap<=200):=by
 unfold qF at h;by_cases b:gP g p≠0
 .rw[cg b] at h;exact absurd h b
 .rw[cd b] at h;refine⟨by simpa using b,?_⟩;by_cases e:(1<=every/\every<=50)/\(1<=keep/\keep<=5)/\(0<=cap/\cap<=200)
  .exact e
  .rw[cg e] at h;exact absurd h (by decide)
noncomputable def pL(g p:TM)(cap:Nat)(Q:Rk):List Nat:=oo (fT Q.rd (kM g).length (pQ g p cap) Q.fH)
def tr(K:List Nat):Nat:=K.getLast?.getD 0
noncomputable def Af(g p:TM)(K:List Nat)(Q:Rk):Cfg:=if K=[] then Sp.fS (Sp.iw p) (kM g) else fR Q.rd (kM g).length (tr K)
noncomputable def qG(g p:TM)(every keep cap:Int)(Q:Rk):Nat:=if qF g p every keep cap≠0 then 0 else if Q.nh≠0 then 0 else tr (pL g p cap.toNat Q)
noncomputable def j5(g p:TM)(every keep cap:Int)(Q:Rk):Out:=if qF g p every keep cap≠0 then ⟨fU,0,qF g p every keep cap,Q⟩ else if Q.nh≠0 then ⟨fU,0,Q.nh,Q⟩
 else Ek (Sp.iw p) (pz g) cap.toNat every.toNat keep.toNat (pQ g p cap.toNat) (kM g).length (tr (pL g p cap.toNat Q)) (Af g p (pL g p cap.toNat Q) Q) ((pL g p cap.toNat Q).drop ((pL g p cap.toNat Q).length-keep.toNat)) Q
variable {K:List Nat}{Q:Rk}{cap:Nat}
theorem yY{every keep:Nat}(h:qF g p every keep cap=0)(b:Q.nh=0)(e:pL g p cap Q=K):j5 g p every keep cap Q=Ek (Sp.iw p) (pz g) cap every keep (pQ g p cap) (kM g).length (tr K) (Af g p K Q) (K.drop (K.length-keep)) Q/\qG g p every keep cap Q=tr K:=by
 unfold j5 qG;rw[cd (by rw[h];simp),cd (by rw[b];simp),cd (by rw[h];simp),cd (by rw[b];simp)];simp only[Qq];rw[e];exact⟨rfl,rfl⟩
theorem De(g p:TM)(cap:Nat):pQ g p cap<4294967296:=Sp.yq _
theorem vd(K:List Nat)(s:Nat):tr (K++[s])=s:=by unfold tr;simp
theorem Kz(h:K≠[]): ∃b,K=b++[tr K]:=by
 rcases SX K with e|⟨b,s,e⟩
 .exact absurd e h
 .rw[S4] at e;refine⟨b,?_⟩;subst e;rw[vd]
theorem Nb: ∀s∈pL g p cap Q,s<=4294967295:=λs b =>
 GV s ((sG (A:=fT Q.rd (kM g).length (pQ g p cap) Q.fH) (kV (xT Q)) s).1 b)
theorem Np: tr (pL g p cap Q)<=4294967295:=by
 by_cases h:pL g p cap Q=[]
 .rw[h];exact cy _
 .obtain⟨e,b⟩:=Kz h;exact Nb _ (by rw[b];exact Bh _ (by rw[<-b];exact List.mem_singleton_self _))
theorem MH(b:eT (kM g).length (Sp.fS (Sp.iw p) (kM g))): eT (kM g).length (Af g p K Q):=by
 unfold Af;split
 .exact b
 .exact PO _ _ _ _
end Ru
namespace Ru
open Go.RowKit
open Sp (Pg Ed Cfg nK eT iN quiet lK fh)
open Rd (Rk e0)
open Pk (Sm)
theorem IW{P:Pg}{Es:List Ed}{cap every keep cX n de:Nat}(m:iN P Es n)(b:cap<=200):∀(g s:Nat) (c:Cfg) (K:List Nat) (sv:Nat) (R:Rk),eT n c->(rz P Es cap every keep cX n de g s c K sv R).res.outcome<=3/\(rz P Es cap every keep cX n de g s c K sv R).res.dH.length<=n
 |0,s,c,K,sv,R,u=>by rw[rz];exact⟨cy _,cy _⟩
 |g+1,s,c,K,sv,R,u=>by
  have j:∀(x:Nat) (e:Int) (Q:Rk),(⟨fU,x,e,Q⟩:Out).res.outcome<=3/\(⟨fU,x,e,Q⟩:Out).res.dH.length<=n:=λ_ _ _=>⟨cy _,cy _⟩
  have r:=Nf u.lv;rw[rz];split
  .exact⟨by show (1:Nat)<=3;omega,r⟩
  .split
   .exact⟨by show (2:Nat)<=3;omega,r⟩
   .rename_i z;have y:∀a,lK P Es c s n=.ok a->eT n (fh P n a):=λa l=>Sp.r8 m (Sp.sq m lP u (by omega) n TG a l)
    split
    .split
     .exact j _ _ _
     .split
      .exact j _ _ _
      .split
       .exact⟨by show (3:Nat)<=3;omega,r⟩
       .rename_i a l;exact IW m b g _ _ _ _ _ (y a l)
    .split
     .exact⟨by show (3:Nat)<=3;omega,r⟩
     .rename_i a l;exact IW m b g _ _ _ _ _ (y a l)
theorem ji{g p:TM}(h:gP g p=0):yc g=0/\(Sp.comp p).1=0:=by
 unfold gP at h;by_cases c:yc g≠0
 .rw[cg c] at h;exact absurd h c
 .rw[cd c] at h;exact⟨by simpa using c,h⟩
theorem ID{g p:TM}{every keep cap:Int}{R:Rk}(j:Small g):(j5 g p every keep cap R).res.outcome<=3/\(j5 g p every keep cap R).res.dH.length<=64:=by
 have b:∀(x:Nat) (e:Int) (Q:Rk),(⟨fU,x,e,Q⟩:Out).res.outcome<=3/\(⟨fU,x,e,Q⟩:Out).res.dH.length<=64:=λ_ _ _=>⟨cy _,cy _⟩
 unfold j5;split
 .exact b _ _ _
 .rename_i l;have l:qF g p every keep cap=0:=by simpa using l
  split
  .exact b _ _ _
  .obtain⟨r,A,B,C⟩:=rS l;obtain⟨u,y⟩:=ji r;obtain⟨m,z⟩:=qw u y j;unfold Ek;split
   .exact b _ _ _
   .have h:=IW (every:=every.toNat) (keep:=keep.toNat) (cX:=pQ g p cap.toNat) (de:=tr (pL g p cap.toNat R)) m (show cap.toNat<=200 by omega) ((cap.toNat-tr (pL g p cap.toNat R))+1) (tr (pL g p cap.toNat R)) (Af g p (pL g p cap.toNat R) R) ((pL g p cap.toNat R).drop ((pL g p cap.toNat R).length-keep.toNat)) 0 (eg R (dO R.fH ((pL g p cap.toNat R).drop ((pL g p cap.toNat R).length-keep.toNat)))).2 (MH (Sp.rT (Sp.iw p) (kM g) z));exact⟨h.1,cx h.2 m.FR⟩
end Ru
namespace Ru
open Go.RowKit
open Sp (Pg Ed Cfg eT iN)
open Rd (Rk e0)
open Pk (jo Sm fy TP cZ cS cY)
open Dk (Kept)
def B9(g:TM)(D E:Nat)(R:Rk)(O:Nat->Prop)(out:Out)(de:Nat)(w:TJ)(e:Ending)(w':TJ):Prop:=Small g/\(∃q m k,e=.returned (nA out.res.outcome out.res.step out.res.dC q m k de out.saved out.e)/\w'.ownsRow w.heap.size 2 1 (.slice q m k) out.res.dH.length (out.res.dH.map (Z Y)))/\
 ∃b,jo w' D E out.R R b/\fy w O w' b
structure Km (W:TJ) (B:Nat) (every keep cap:Int):Prop where
 c:W.heap[B]?=some (.cells #[Z Y every,Z Y keep,Z Y cap] 23 (0,0))
 x:W.heap[B+1]?=some (.cells #[Z .u8 0,Z Y 0,Z Y 0,.slice none 0 0] 32 (0,0))
 r:W.heap[B+1+1]?=some (.cells #[Z Y 0,Z Y 0] 43 (0,0))
variable {B:Nat}{every keep cap:Int}{W' W:TJ}
theorem Km.below(h:Km W B every keep cap)(hb:TI W W'): Km W' B every keep cap:=⟨(hb.block _ (cS h.c)).trans h.c,(hb.block _ (cS h.x)).trans h.x,(hb.block _ (cS h.r)).trans h.r⟩
theorem jy(w:TJ)(every keep cap:Int):∀W,W=((w.alloc (.cells #[Z Y every,Z Y keep,Z Y cap] 23)).alloc (.cells #[Z .u8 0,Z Y 0,Z Y 0,.slice none 0 0] 32)).alloc (.cells #[Z Y 0,Z Y 0] 43)->
  Km W w.heap.size every keep cap/\TI w W/\W.heap.size=w.heap.size+3:=by
 rintro W rfl;have a:∀(W:TJ) (o:Obj) (j:Nat),j<W.heap.size->(W.alloc o).heap[j]?=W.heap[j]?:=λW o j h=>cN W o j h
 have n:∀(W:TJ) (o:Obj) (j:Nat),j=W.heap.size->(W.alloc o).heap[j]?=some o:=λW o j h=>by rw[h];exact G1 W o
 refine⟨⟨?_,?_,?_⟩,?_,by simp⟩
 .rw[a _ _ _ (by simp <;> omega),a _ _ _ (by simp),n _ _ _ rfl]
 .rw[a _ _ _ (by simp),n _ _ _ (by simp)]
 .rw[n _ _ _ (by simp)]
 .exact((((cj _ w).alloc TG _).alloc (by simp) _).alloc (by simp <;> omega) _)
structure uE (W W':TJ) (B:Nat) (a b c d f s:TK):Prop where
 kept:Kept W W' (λk=>k≠B+1/\k≠B+1+1)
 x:W'.heap[B+1]?=some (.cells #[a,b,c,d] 32 (0,0))
 r:W'.heap[B+1+1]?=some (.cells #[f,s] 43 (0,0))
theorem Kp{r u y z l m:TK}(A:W.heap[B+1]?=some (.cells #[r,u,y,z] 32 (0,0)))(C:W.heap[B+1+1]?=some (.cells #[l,m] 43 (0,0)))(a b c d f s:TK):uE W ((((((W.setCell ⟨B+1,0,none⟩ a).setCell ⟨B+1,1,none⟩ b).setCell ⟨B+1,2,none⟩ c).setCell ⟨B+1,3,none⟩ d).setCell ⟨B+1+1,0,none⟩ f).setCell ⟨B+1+1,1,none⟩ s) B a b c d f s:=by
 have D:=cA W _ 0 _ _ a A;have E:=cA _ _ 1 _ _ b D;have F:=cA _ _ 2 _ _ c E;have G:=cA _ _ 3 _ _ d F;have j:B+1+1≠B+1:=by omega
 have H:((((W.setCell ⟨B+1,0,none⟩ a).setCell ⟨B+1,1,none⟩ b).setCell ⟨B+1,2,none⟩ c).setCell ⟨B+1,3,none⟩ d).heap[B+1+1]?=some (.cells #[l,m] 43 (0,0)):=by
  rw[cG _ _ _ _ j,cG _ _ _ _ j,cG _ _ _ _ j,cG _ _ _ _ j];exact C
 have I:=cA _ _ 0 _ _ f H;have J:=cA _ _ 1 _ _ s I;refine⟨((((((Kept.refl W _).setCell (λe=>e.1 rfl) _).setCell (λe=>e.1 rfl) _).setCell (λe=>e.1 rfl) _).setCell (λe=>e.1 rfl) _).setCell (λe=>e.2 rfl) _).setCell (λe=>e.2 rfl) _,?_,?_⟩
 .rw[cG _ _ _ _ (Ne.symm j),cG _ _ _ _ (Ne.symm j),G];rfl
 .rw[J];rfl
theorem Qg{l m r u y z:TK}(A:W.heap[B+1]?=some (.cells #[l,m,r,u] 32 (0,0)))(C:W.heap[B+1+1]?=some (.cells #[y,z] 43 (0,0)))(a b c d f s:TK):uE W ((((((W.setCell ⟨B+1+1,0,none⟩ f).setCell ⟨B+1+1,1,none⟩ s).setCell ⟨B+1,0,none⟩ a).setCell ⟨B+1,1,none⟩ b).setCell ⟨B+1,2,none⟩ c).setCell ⟨B+1,3,none⟩ d) B a b c d f s:=by
 have D:=cA W _ 0 _ _ f C;have E:=cA _ _ 1 _ _ s D;have j:B+1≠B+1+1:=by omega
 have F:((W.setCell ⟨B+1+1,0,none⟩ f).setCell ⟨B+1+1,1,none⟩ s).heap[B+1]?=some (.cells #[l,m,r,u] 32 (0,0)):=by
  rw[cG _ _ _ _ j,cG _ _ _ _ j];exact A
 have G:=cA _ _ 0 _ _ a F;have H:=cA _ _ 1 _ _ b G;have I:=cA _ _ 2 _ _ c H;have J:=cA _ _ 3 _ _ d I;refine⟨((((((Kept.refl W _).setCell (λe=>e.2 rfl) _).setCell (λe=>e.2 rfl) _).setCell (λe=>e.1 rfl) _).setCell (λe=>e.1 rfl) _).setCell (λe=>e.1 rfl) _).setCell (λe=>e.1 rfl) _,?_,?_⟩
 .rw[J];rfl
 .rw[cG _ _ _ _ (Ne.symm j),cG _ _ _ _ (Ne.symm j),cG _ _ _ _ (Ne.symm j),cG _ _ _ _ (Ne.symm j),E];rfl
variable {n:Nat}
theorem gE{e:Array TK}(u:e[8]?=some (.pointer (some ⟨B+1,0,none⟩)))(y:e[9]?=some (.pointer (some ⟨B+1+1,0,none⟩))){a b c:Int}{p:Option Addr}{k de sv:Nat}{m:Int}(r:e[10]?=some (Z Y m))(j:W.heap[B+1]?=some (.cells #[Z .u8 a,Z Y b,Z Y c,.slice p n k] 32 (0,0)))(l:W.heap[B+1+1]?=some (.cells #[Z Y (de:Int),Z Y (sv:Int)] 43 (0,0))):(results f12 e).run prog W=.ok (nA a b c p n k de sv m) W:=by
 have z:W.cell? ⟨B+1,0,none⟩=some (Z .u8 a):=by rw[cn W _ 0 _ _ _ j];rfl
 have A:W.cell? ⟨B+1,1,none⟩=some (Z Y b):=by rw[cn W _ 1 _ _ _ j];rfl
 have C:W.cell? ⟨B+1,2,none⟩=some (Z Y c):=by rw[cn W _ 2 _ _ _ j];rfl
 have D:W.cell? ⟨B+1,3,none⟩=some (.slice p n k):=by rw[cn W _ 3 _ _ _ j];rfl
 have E:W.cell? ⟨B+1+1,0,none⟩=some (Z Y (de:Int)):=by rw[cn W _ 0 _ _ _ l];rfl
 have F:W.cell? ⟨B+1+1,1,none⟩=some (Z Y (sv:Int)):=by rw[cn W _ 1 _ _ _ l];rfl
 clear j l;unfold nA
 simp_all [results,results12,go_sem,Value.oneCell']
variable {w:TJ}
theorem uE.stays{a b c d f s:TK}{D E:Nat}{Q R:Rk}{O0 O:Nat->Prop}(h:uE W W' w.heap.size a b c d f s)(hb:Km W w.heap.size every keep cap)(h2:jo W D E Q R O)(j:fy w O0 W O): jo W' D E Q R O/\fy w O0 W' O:=by
 have m:=j.kept.size;have u:∀k,O k->k≠w.heap.size+1/\k≠w.heap.size+1+1:=λk l=>⟨λe=>nP h2 hb.x (by decide) (e ▸ l),λe=>nP h2 hb.r (by decide) (e ▸ l)⟩
 refine⟨oO h2 h.kept u,⟨⟨h.kept.os.trans j.kept.os,h.kept.tape.trans j.kept.tape,h.kept.output.trans j.kept.output,cx m h.kept.size,λk l y=>?_⟩,j.own⟩⟩;rw[h.kept.block k (by omega) ⟨by omega,by omega⟩];exact j.kept.block k l y
theorem uE.row{a b c d f s:TK}{e j:Nat}{v:TK}{l:List TK}(h:uE W W' w.heap.size a b c d f s)(hb:Km W w.heap.size every keep cap)(m:W.ownsRow B e j v n l)(he:e≠32/\e≠43): W'.ownsRow B e j v n l:=Dk.du m h.kept λg y=>by
  obtain⟨z,u,_⟩:=cZ m y;exact⟨cY u hb.x he.1,cY u hb.r he.2⟩
theorem FO{l wr:TJ}{O m:Nat->Prop}{S:Nat}{v v':TK}(hb:TI w l)(b:fy l (OO O S v) wr (OO m S v'))(hS:∀k,qj S v k->w.heap.size<=k): fy w O wr m:=by
 have r:=hb.size;refine⟨⟨b.kept.os.trans hb.os,b.kept.tape.trans hb.tape,b.kept.output.trans hb.output,cx r b.kept.size,λk j u=>?_⟩,λk j=>?_⟩
 .refine(b.kept.block k (by omega) (λe=>?_)).trans (hb.block k j);rcases e with e|e
  .exact u e
  .have:=hS k e;omega
 .rcases b.own k (Or.inl j) with e|e
  .rcases e with e|e
   .exact Or.inl e
   .exact Or.inr (hS k e)
  .exact Or.inr (by omega)
theorem PH{T:Sn.Tb}{Q:Rk}{g p:TM}(j:(kM g).length=n)(he:∀x∈T,II w 0 Q.rd n x):(T=[]/\tr (T.map (·.1))=0/\Af g p (T.map (·.1)) Q=Sp.fS (Sp.iw p) (kM g))\/(∃b x,T=b++[(tr (T.map (·.1)),x)]/\Af g p (T.map (·.1)) Q=fR Q.rd n (tr (T.map (·.1)))/\II w 0 Q.rd n (tr (T.map (·.1)),x)):=by
 rcases SX T with h|⟨b,⟨s,x⟩,h⟩
 .subst h;exact Or.inl ⟨rfl,rfl,by unfold Af;rw[cg (by rfl)]⟩
 .rw[S4] at h;subst h;have e:tr ((b++[(s,x)]).map (·.1))=s:=by rw[Bg];exact vd _ _
  refine Or.inr ⟨b,x,by rw[e],?_,by rw[e];exact he _ (by simp)⟩;unfold Af;rw[cd (by simp),j]
theorem Nj{T:Sn.Tb}(h:Sn.da T):∀x∈T,x.1<=tr (T.map (·.1)):=by
 rcases SX T with e|⟨b,⟨s,x⟩,e⟩
 .subst e;intro x j;cases j
 .rw[S4] at e;subst e;have e:tr ((b++[(s,x)]).map (·.1))=s:=by rw[Bg];exact vd _ _
  rw[e];exact Jj h
theorem Fe{w':TJ}{F:TM->TM}{x:Nat × Sn.Ce}(h:II w B F n x)(hb:TI w w'): II w' B F n x:=⟨h.1,h.2.1,cW h.2.2 hb⟩
end Ru
namespace Ru
open Go.RowKit
open Sp (Pg Ed Cfg eT iN)
open Rd (Rk e0)
open Pk (jo Sm fy TP cZ cS cY)
open Dk (Kept)
theorem rX(W:TJ)(a b c:Int)(r:Bool)(h:Hid ((decide (b<=a)&&decide (a<=c))=r)):TL prog 23 #[Z Y a,Z Y b,Z Y c] W λe j=>e=.returned (.bool r)/\j=W:=by
 have:=yB a b c W;rw[cO h] at this;exact this
theorem AX(D E nn b:Nat)(Q R:Rk)(O:Nat->Prop)(g p:TM)(every keep cap:Int)(z f:Addr)(w:TJ)(h2:jo w D E Q R O)(a7:Sm Q nn b)(bR:nn+2000<=1000000000)(bS:1000<=b)(a8:b<=2097152)(hg:g.size<=1048576)(hp:p.size<=1048576)(hT:Lib.Utf8Tabs 3 4 w)(hC:l8 w)(ba:kj w z f)(bc:gh w)(bd:∀k,(k=1\/k=2\/k=z.block\/k=f.block\/k=6)->¬O k):TL prog 12 #[.pointer (some ⟨D,0,none⟩),.string g,.string p,.agg #[Z Y every,Z Y keep,Z Y cap]] w (B9 g D E R O (j5 g p every keep cap Q) (qG g p every keep cap Q) w):=by
 generalize hO:B9 g D E R O (j5 g p every keep cap Q) (qG g p every keep cap Q) w=PP;replace hO:=cP hO;have bg:=cP (jy w every keep cap);have bh:=cP (λW (hb:TI w W)=>Hr g p W (eD hT hb) (hC.below hb));have H2:=cP h2;have bj:=cP a7;have an:=cP ba;have aA:=cP bc;have bk:=cP bd;clear h2 a7 ba bc bd hT hC;go_enter func12,ntmps12;go_wp2_with fail;generalize hW:World.alloc (World.alloc _ _) _=W0;obtain⟨ao,aB,aO⟩:=cO bg W0 hW.symm;clear hW bg;refine(cO bh W0 aB).mono ?_;rintro e w1 ⟨X,bn,p0,n0,k0,p1,n1,k1,p2,n2,k2,pv,rfl,bo⟩;obtain⟨ra,M⟩:∃ra,Hid (gP g p=ra):=⟨_,rfl⟩
 rw[cO M];have bp:=cP bo;have aC:=cP bn;clear bo bn bh;go_upto_region 2 with fail;generalize aP:World.alloc _ _=y;have aQ:TI w1 y:=by rw[<-aP];exact TH.alloc TG _
 have bq:y.heap[w1.heap.size]?=some (.cells #[.slice p0 n0 k0,.slice p1 n1 k1,.slice p2 n2 k2] 68 (0,0)):=by rw[<-aP];exact ct w1 _
 have aq:TI W0 y:=X.trans (aQ.mono X.size);have G:=cP (ao.below aq);have I:=cP (aB.trans (aq.mono aB.size));have br:Hid (w.heap.size+3<=w1.heap.size):=by have:=X.size;show _<=_;omega
 have bT:=cP aO;have aR:=cP aQ;have ak:=cP bq;clear aP aB ao X aQ bq aq aO;have aS:Hid (∀(W W':TJ) (er:Int),TI w W->Km W w.heap.size every keep cap->uE W W' w.heap.size (Z .u8 0) (Z Y 0) (Z Y 0) (.slice none 0 0) (Z Y 0) (Z Y 0)->j5 g p every keep cap Q=⟨fU,0,er,Q⟩/\qG g p every keep cap Q=0->PP (.returned (nA 0 0 0 none 0 0 0 0 er)) W'):=by
  show ∀W W' er,_
  intro W W' er hb hx P hr;rw[<-cO hO,hr.1,hr.2];obtain⟨t1,t2⟩:=P.stays hx ((cO H2).below hb) (fy.below O hb);exact⟨cO aC,⟨none,0,0,rfl,fc _ _ _ _⟩,O,t1,t2⟩
 have x0:∀(W:TJ),Km W w.heap.size every keep cap->(W.cell? ⟨w.heap.size+1,0,none⟩=some (Z .u8 0)/\W.cell? ⟨w.heap.size+1,1,none⟩=some (Z Y 0)/\W.cell? ⟨w.heap.size+1,2,none⟩=some (Z Y 0)/\W.cell? ⟨w.heap.size+1,3,none⟩=some (.slice none 0 0)/\W.cell? ⟨w.heap.size+1+1,0,none⟩=some (Z Y 0)/\W.cell? ⟨w.heap.size+1+1,1,none⟩=some (Z Y 0))/\(∀i,W.frozen? ⟨w.heap.size+1,i,none⟩=false)/\(∀i,W.frozen? ⟨w.heap.size+1+1,i,none⟩=false)/\(W.cell? ⟨w.heap.size,0,none⟩=some (Z Y every)/\W.cell? ⟨w.heap.size,1,none⟩=some (Z Y keep)/\W.cell? ⟨w.heap.size,2,none⟩=some (Z Y cap)):=λW h=>by
  refine⟨⟨?_,?_,?_,?_,?_,?_⟩,λi=>by simp[World.frozen?,h.x],λi=>by simp[World.frozen?,h.r],?_,?_,?_⟩
  .rw[cn W _ 0 _ _ _ h.x];rfl
  .rw[cn W _ 1 _ _ _ h.x];rfl
  .rw[cn W _ 2 _ _ _ h.x];rfl
  .rw[cn W _ 3 _ _ _ h.x];rfl
  .rw[cn W _ 0 _ _ _ h.r];rfl
  .rw[cn W _ 1 _ _ _ h.r];rfl
  .rw[cn W _ 0 _ _ _ h.c];rfl
  .rw[cn W _ 1 _ _ _ h.c];rfl
  .rw[cn W _ 2 _ _ _ h.c];rfl
 have ae:=cP x0;clear x0;by_cases c1:ra=0
 rotate_left
 .have bZ:(ra != 0)=true:=by rw[E8];exact c1
  have HE:Hid (j5 g p every keep cap Q=⟨fU,0,ra,Q⟩/\qG g p every keep cap Q=0):=by
   show _/\_
   have e1:qF g p every keep cap=ra:=by unfold qF;rw[cg (by rw[cO M];exact c1),cO M]
   unfold j5 qG;rw[e1,cg c1,cg c1];exact⟨rfl,rfl⟩
  obtain⟨⟨r0,r1,r2,r3,s0,s1⟩,rf,sf,_⟩:=cO ae y (cO G);have P:=Kp (cO G).x (cO G).r (Z .u8 0) (Z Y 0) (Z Y 0) (.slice none 0 0) (Z Y 0) (Z Y 0);have af:=cP (cO aS y _ ra (cO I) (cO G) P (cO HE));have F:=cP P;clear c1 P;go_wp2;exact cr (gE (by rfl) (by rfl) (by rfl) (cO F).x (cO F).r) rfl (cO af)
 subst c1;by_cases c2:(1<=every/\every<=50)/\(1<=keep/\keep<=5)/\(0<=cap/\cap<=200)
 rotate_left
 .have HE:Hid (j5 g p every keep cap Q=⟨fU,0,8,Q⟩/\qG g p every keep cap Q=0):=by
   show _/\_
   have e1:qF g p every keep cap=8:=by unfold qF;rw[cd (by rw[cO M];simp),cg c2]
   unfold j5 qG;rw[e1,cg (by decide),cg (by decide)];exact⟨rfl,rfl⟩
  obtain⟨⟨r0,r1,r2,r3,s0,s1⟩,rf,sf,q0,q1,q2⟩:=cO ae y (cO G);have P:=Kp (cO G).x (cO G).r (Z .u8 0) (Z Y 0) (Z Y 0) (.slice none 0 0) (Z Y 0) (Z Y 0);have af:=cP (cO aS y _ 8 (cO I) (cO G) P (cO HE));have F:=cP P;clear P;obtain⟨d1,E1⟩:∃d,Hid ((decide (1<=every)&&decide (every<=50))=d):=⟨_,rfl⟩
  obtain⟨d2,E2⟩:∃d,Hid ((decide (1<=keep)&&decide (keep<=5))=d):=⟨_,rfl⟩
  obtain⟨d3,E3⟩:∃d,Hid ((decide (0<=cap)&&decide (cap<=200))=d):=⟨_,rfl⟩
  cases d1 with
  |false =>
   clear c2;go_wp2_with (go_at_call 23;go_must (refine(rX _ _ _ _ _ (by assumption)).mono ?_);rintro e j ⟨rfl,ag⟩;obtain rfl:=ag.symm);exact cr (gE (by rfl) (by rfl) (by rfl) (cO F).x (cO F).r) rfl (cO af)
  |true =>
   cases d2 with
   |false =>
    clear c2;go_wp2_with (go_at_call 23;go_must (refine(rX _ _ _ _ _ (by assumption)).mono ?_);rintro e j ⟨rfl,ag⟩;obtain rfl:=ag.symm);exact cr (gE (by rfl) (by rfl) (by rfl) (cO F).x (cO F).r) rfl (cO af)
   |true =>
    cases d3 with
    |false =>
     clear c2;go_wp2_with (go_at_call 23;go_must (refine(rX _ _ _ _ _ (by assumption)).mono ?_);rintro e j ⟨rfl,ag⟩;obtain rfl:=ag.symm);exact cr (gE (by rfl) (by rfl) (by rfl) (cO F).x (cO F).r) rfl (cO af)
    |true =>
     exfalso;have a1:=cO E1;have a2:=cO E2;have a3:=cO E3;simp only[Ns,decide_eq_true_eq] at a1 a2 a3;exact c2 ⟨a1,a2,a3⟩
 obtain⟨ev,rfl⟩:∃ev:Nat,every=(ev:Int):=⟨every.toNat,by omega⟩
 obtain⟨L,rfl⟩:∃L:Nat,keep=(L:Int):=⟨keep.toNat,by omega⟩
 obtain⟨l,rfl⟩:∃l:Nat,cap=(l:Int):=⟨cap.toNat,by omega⟩
 have E1:Hid ((decide (1<=(ev:Int))&&decide ((ev:Int)<=50))=true):=by show _=_;simp;omega
 have E2:Hid ((decide (1<=(L:Int))&&decide ((L:Int)<=5))=true):=by show _=_;simp;omega
 have E3:Hid ((decide (0<=(l:Int))&&decide ((l:Int)<=200))=true):=by show _=_;simp;omega
 have l1:0<ev/\ev<=50:=by omega
 have l2:0<L/\L<=5:=by omega
 have l3:l<=200:=by omega
 have aT:Hid (qF g p ev L l=0):=by show _=_;unfold qF;rw[cd (by rw[cO M];simp),cd (by omega)]
 have HL:=cP (And.intro l1 (And.intro l2 l3));clear c2 l1 l2 l3;obtain⟨_,_,_,q0,q1,q2⟩:=cO ae y (cO G);obtain⟨m1,m2,m3,bs,bu,B,rfl,aH⟩:=cO bp (cO M);subst m1 m2 m3;have bw:=cP bs;have bx:=cP bu;have aI:=cP aH;clear bs bu aH bp;obtain⟨n,HN⟩:∃n,Hid ((kM g).length=n):=⟨_,rfl⟩
 obtain⟨ne,aJ⟩:∃ne,Hid ((pz g).length=ne):=⟨_,rfl⟩
 rw[cO HN,cO aJ] at ak;rw[cO HN];obtain⟨GB,bA⟩:∃GB,Hid (w1.heap.size=GB):=⟨_,rfl⟩
 rw[cO bA] at ak ⊢;obtain⟨g0,g1,g2,gf⟩:=dX (cO ak);clear gf;go_upto_region 6 with (go_at_call 23;go_must (refine(rX _ _ _ _ _ (by assumption)).mono ?_);rintro e j ⟨rfl,ag⟩;obtain rfl:=ag.symm)
 clear q0 q1 q2 g0 g1 g2 E1 E2 E3;have aK:n<=64:=by rw[<-cO HN];exact(qw (ji (cO M)).1 (ji (cO M)).2 (cO aC)).1.FR
 have aD:=cP (λW (hW:TI y W)=>Bv g p l n W hg hp (cO HL).2.2 ((cO aA).below ((cO I).trans (hW.mono (cO I).size))));have ar:=cP (λW (hW:TI y W)=>yD D E nn b (pQ g p l) n L Q R O W ((cO H2).below ((cO I).trans (hW.mono (cO I).size))) (cO bj) (by omega) a8 aK (De _ _ _) ((cO aA).below ((cO I).trans (hW.mono (cO I).size))));obtain⟨js,aE⟩:∃js,Hid (pQ g p l=js):=⟨_,rfl⟩
 rw[cO aE] at aD ar;unfold Cb at ar;have bU:js<4294967296:=by rw[<-cO aE];exact De _ _ _
 have au:Hid (∀(args:Array TK) (w:TJ),(callFunc 31 args).run prog w=.ok (.enter 31 args) w):=cV func31 (by kernel_rfl) (by kernel_rfl);have av:Hid (∀(args:Array TK) (w:TJ),(callFunc 30 args).run prog w=.ok (.enter 30 args) w):=cV func30 (by kernel_rfl) (by kernel_rfl);obtain⟨_,_,_,q0,q1,q2⟩:=cO ae y (cO G);obtain⟨g0,g1,g2,gf⟩:=dX (cO ak);clear gf q0 g0 g2;have bB:=cS (cO G).c;have aF:Hid (TI y y.drew):=TH.drew;by_cases c3:Q.nh=0
 rotate_left
 .apply vj (λw'=>Hid (TI y w'));apply Exists.intro;apply And.intro
  case left =>
   go_region_law (first
   | (refine di (by rfl) _ _ _ (by rfl) 31 (by rfl) _ (by rfl) (cO au) (cO aD _ (by first|exact cj _ _|exact cO aF)) ?_;rintro e j ⟨rfl,A⟩;dsimp only;have J:TI y j:=(by first|exact A|exact(cO aF).trans (A.mono TG));have H:=cP J;have i1:=(J.cell (p:=⟨w.heap.size,1,none⟩) bB).trans q1;clear J A)
   | (refine di (by rfl) _ _ _ (by rfl) 30 (by rfl) _ (by rfl) (cO av) (cO ar j (cO H)) ?_;rintro e wr ⟨s,bC,_⟩;obtain rfl:=bC c3;dsimp only;have N:Hid (TI y wr):=(cO H).trans (s.mono (cO H).size);clear s bC))
   all_goals exact⟨rfl,rfl,N⟩
  case right =>
  rintro w3 o;obtain⟨le,bD⟩:∃le,Hid (Q.nh=le):=⟨_,rfl⟩
  have HE:Hid (j5 g p ev L l Q=⟨fU,0,le,Q⟩/\qG g p ev L l Q=0):=by
   show _/\_
   unfold j5 qG;rw[cd (by rw[cO aT];simp),cg c3,cd (by rw[cO aT];simp),cg c3,cO bD];exact⟨rfl,rfl⟩
  rw[cO bD] at c3 ⊢;have b0:(le != 0)=true:=by rw[E8];exact c3
  have aa:=cP ((cO G).below (cO o));have ab:=cP ((cO I).trans ((cO o).mono (cO I).size));clear q1 q2 g1;obtain⟨⟨r0,r1,r2,r3,s0,s1⟩,rf,sf,_⟩:=cO ae w3 (cO aa);have P:=Kp (cO aa).x (cO aa).r (Z .u8 0) (Z Y 0) (Z Y 0) (.slice none 0 0) (Z Y 0) (Z Y 0);have af:=cP (cO aS w3 _ le (cO ab) (cO aa) P (cO HE));have F:=cP P;clear c3 P;go_wp2;exact cr (gE (by rfl) (by rfl) (by rfl) (cO F).x (cO F).r) rfl (cO af)
 apply uy (λu w'=>∃S v T,u=.pointer (some ⟨S,0,none⟩)/\Hid (TI y w')/\Hid (y.heap.size<=S/\gF w' S D js n L v T/\(∀g,v.ownBlock=some g->y.heap.size<=g)/\T.map (·.1)=oo (fT Q.rd n js Q.fH)/\∀x∈T,II w' 0 Q.rd n x));apply Exists.intro;apply And.intro
 case left =>
  go_region_law (first
  | (refine di (by rfl) _ _ _ (by rfl) 31 (by rfl) _ (by rfl) (cO au) (cO aD _ (by first|exact cj _ _|exact cO aF)) ?_;rintro e j ⟨rfl,A⟩;dsimp only;have J:TI y j:=(by first|exact A|exact(cO aF).trans (A.mono TG));have H:=cP J;have i1:=(J.cell (p:=⟨w.heap.size,1,none⟩) bB).trans q1;clear J A)
   | (refine di (by rfl) _ _ _ (by rfl) 30 (by rfl) _ (by rfl) (cO av) (cO ar j (cO H)) ?_;rintro e wr ⟨s,_,aL⟩;obtain⟨S,v,T,rfl,k1,k2,k3,k4,k5,k6⟩:=aL c3;dsimp only;have N:Hid (TI y wr):=(cO H).trans (s.mono (cO H).size);have bV:Hid (y.heap.size<=S/\gF wr S D js n L v T/\(∀g,v.ownBlock=some g->y.heap.size<=g)/\T.map (·.1)=oo (fT Q.rd n js Q.fH)/\∀x∈T,II wr 0 Q.rd n x):=⟨cx (cO H).size k1,k2,λg hg=>cx (cO H).size (k3 g hg),k4,λx hx=>⟨(k5 x hx).1,(k5 x hx).2.1,Rd.mE (k5 x hx).2.2 (cy _)⟩⟩;clear s aL k1 k2 k3 k4 k5 k6))
  all_goals
   generalize hu:Value.pointer (some ⟨S,0,none⟩)=u at *;exact⟨rfl,u,rfl,S,v,T,hu.symm,N,bV⟩
 case right =>
 rintro u w3 ⟨S,v,T,rfl,o,ad⟩;clear q1 q2 g1 aD ar au av;have aa:=cP ((cO G).below (cO o));have ab:=cP ((cO I).trans ((cO o).mono (cO I).size));obtain⟨_,_,_,q0,q1,q2⟩:=cO ae w3 (cO aa);obtain⟨g0,g1,g2,gf⟩:=dX (((cO o).block _ (cS (cO ak))).trans (cO ak));clear gf q1;obtain⟨aU,bE⟩:=qw (ji (cO M)).1 (ji (cO M)).2 (cO aC);have bF:Hid (iN (Sp.iw p) (pz g) n):=by show iN _ _ _;rw[<-cO HN];exact aU
 have ai:Hid (TI w1 w3):=(cO aR).trans ((cO o).mono (cO aR).size);have aV:=cP (λW (hW:TI w3 W)=>Cq p0 n k0 p1 k1 p2 k2 B l (pz g) W ((cO bx).below ((cO ai).trans (hW.mono (cO ai).size))) aK aU.es (λx hx=>((cO bF).ed x hx).1));rw[cO aJ] at aV;unfold zi dW at aV;have bG:Hid (eT n (Af g p (T.map (·.1)) Q)):=by show eT _ _;rw[<-cO HN];exact MH (Sp.rT (Sp.iw p) (kM g) bE)
 obtain⟨fr,aw⟩:∃fr,Hid (tr (T.map (·.1))=fr):=⟨_,rfl⟩
 obtain⟨C,ax⟩:∃C,Hid (j5 g p ev L l Q=C):=⟨_,rfl⟩
 have aW:Hid (pL g p l Q=T.map (·.1)):=by show _=_;unfold pL;rw[cO HN,cO aE];exact(cO ad).2.2.2.1.symm
 have bH:fr<=4294967295:=by rw[<-cO aw,<-cO aW];exact Np
 have aX:Hid (Ek (Sp.iw p) (pz g) l ev L js n fr (Af g p (T.map (·.1)) Q) ((T.drop (T.length-L)).map (·.1)) Q=C/\qG g p ev L l Q=fr):=by
  have h:=yY (cO aT) c3 (cO aW)
  show _/\_
  rw[<-cO ax,h.1,h.2,cO aw,cO aE,cO HN,rY,List.map_drop];exact⟨rfl,rfl⟩
 have ay:Hid (∀k,qj S v k->y.heap.size<=k/\k<w3.heap.size):=λk hk=>by
  refine⟨?_,(cO ad).2.1.jT hk⟩;rcases hk with rfl|e
  .exact(cO ad).1
  .exact(cO ad).2.2.1 k e
 have aY:Hid (w.heap.size+3<=y.heap.size/\w1.heap.size<=y.heap.size/\y.heap.size<=w3.heap.size):=by
  have h1:=cO br;have h2:=(cO aR).size;exact⟨by omega,h2,(cO o).size⟩
 have bI:Hid (∀j,TI w3 j->ow j D E S js n L Q R O v T):=λj hq=>by
  have ah:=(cO ab).trans (hq.mono (cO ab).size);have hz:=cO aY;refine⟨(cO H2).below ah,(cO ad).2.1.below hq,λk hk hs=>?_,(cO aA).below ah,λaZ=>?_⟩
  .have h1:=(cO H2).lt hk;have h2:=(cO ay k hs).1;omega
  .rcases aZ with e|e
   .exact cO bk _ (Or.inr (Or.inr (Or.inr (Or.inr rfl)))) e
   .have h1:=(cO ay _ e).1;have h2:=(cO aA).lt;omega
 have a6:Hid (∀(j:TJ) (pe:Option Addr) (ke:Nat),TI w3 j->Ko w3.heap.size j.heap.size j pe n (pz g)->TL prog 32 #[.agg #[.pointer (some ⟨B,0,none⟩),.slice p1 n k1,.slice pe n ke,Z Y (l:Int)],.pointer (some ⟨S,0,none⟩),Z Y (ev:Int)] j (K6 D E S js n L fr R O v C j)):=by
  show ∀j pe ke,_
  intro j pe ke hq aG;have K:=cO bI j hq;have ah:=(cO ab).trans (hq.mono (cO ab).size);have aM:=(cO ai).trans (hq.mono (cO ai).size);have hz:=cO aY;have aO:=cO bT;have bJ:=PH (g:=g) (p:=p) (cO HN) (λx hx=>Fe ((cO ad).2.2.2.2 x hx) hq);rw[cO aw] at bJ;have bK:=GG K ((cO aI).below aM) aG ((cO an).below ah) (λk hk=>by have:=(cO H2).lt hk;omega) (λk hk=>by have:=cO ay k hk;omega) (by have:=cO br;omega) (by omega) TG (λk hk aZ=>by
   have b1:k<w.heap.size:=by
    rcases hk with rfl|rfl|rfl|rfl
    .exact(cO an).lz
    .exact(cO an).lf
    .obtain⟨c,t,hz⟩:=(cO an).bz;exact cS hz
    .obtain⟨c,t,hz⟩:=(cO an).bf;exact cS hz
   rcases aZ with e|e
   .exact cO bk k (by rcases hk with h|h|h|h;exact Or.inl h;exact Or.inr (Or.inl h);exact Or.inr (Or.inr (Or.inl h));exact Or.inr (Or.inr (Or.inr (Or.inl h)))) e
   .have:=(cO ay k e).1;omega)
  have bW:∀x∈T,x.1<=fr:=by rw[<-cO aw];exact Nj (cO ad).2.1.tab.mg
  have h:=BR D E S js n L ev l B p1 k1 pe ke (Sp.iw p) (pz g) z f (kM g) fr (Af g p (T.map (·.1)) Q) nn b Q R O v T j K bJ bK ((cO bw).below aM) (cO HN) (cO bG) (cO bF) (cO HL).2.2 bU (cO HL).1.1 (cO HL).1.2 bW bH (cO bj) bR bS a8 (cO HL).2.1.2 c3;rw[(cO aX).1] at h;unfold dW at h;exact h
 have bL:Hid (∀(args:Array TK) (w:TJ),(callFunc 24 args).run prog w=.ok (.enter 24 args) w):=cV func24 (by kernel_rfl) (by kernel_rfl);have bM:Hid (∀(args:Array TK) (w:TJ),(callFunc 32 args).run prog w=.ok (.enter 32 args) w):=cV func32 (by kernel_rfl) (by kernel_rfl);have bX:=cS (cO aa).c;have bN:Hid (TI w3 w3.drew):=TH.drew;have aN:Hid (∀(j wr W':TJ) (q:Option Addr) (m k:Nat) (O':Nat->Prop) (v':TK) (T':Sn.Tb),TI w3 j->wr.ownsRow j.heap.size 2 1 (.slice q m k) C.res.dH.length (C.res.dH.map (Z Y))->ow wr D E S js n L C.R R O' v' T'->fy j (OO O S v) wr (OO O' S v')->uE wr W' w.heap.size (Z .u8 C.res.outcome) (Z Y C.res.step) (Z Y C.res.dC) (.slice q m k) (Z Y (fr:Int)) (Z Y (C.saved:Int))->Km wr w.heap.size ev L l->PP (.returned (nA C.res.outcome C.res.step C.res.dC q m k fr C.saved C.e)) W'):=by
  show ∀j wr W' q m k O' v' T',_
  intro j wr W' q m k O' v' T' hq aj K U P ao;have ah:=(cO ab).trans (hq.mono (cO ab).size);have hz:=cO aY;have hs:=FO ah U (λk hk=>by have:=(cO ay k hk).1;omega);obtain⟨t1,t2⟩:=P.stays ao K.two hs;rw[<-cO hO,cO ax,(cO aX).2];exact⟨cO aC,⟨q,m,k,rfl,P.row ao (Rd.mE aj ah.size) (by decide)⟩,O',t1,t2⟩
 have bO:Hid (∀(j wr:TJ) (O':Nat->Prop) (v':TK),TI w3 j->fy j (OO O S v) wr (OO O' S v')->Km wr w.heap.size ev L l):=λj wr O' v' hq U=>by
  have K:=cO bI j hq;have hb:=(cO aa).below hq;exact⟨(U.far (cS hb.c) (iZ K hb.c (by decide))).1.trans hb.c,(U.far (cS hb.x) (iZ K hb.x (by decide))).1.trans hb.x,(U.far (cS hb.r) (iZ K hb.r (by decide))).1.trans hb.r⟩
 clear aU bE bH bG aW aX ax aw aI bw bx c3 ad;unfold K6 at a6;obtain⟨⟨oc,st,vt,V⟩,sv,er,RN⟩:=C;dsimp only at a6 aN;go_upto_region 9 with fail
 go_region_law (first
 | (refine di (by rfl) _ _ _ (by rfl) 24 (by rfl) _ (by rfl) (cO bL) (cO aV _ (by first|exact cj _ _|exact cO bN)) ?_;rintro e j ⟨A,pe,ke,rfl,aG⟩;dsimp only;have J:TI w3 j:=(by first|exact A|exact(cO bN).trans (A.mono TG));have H:=cP J;have bY:Hid (Ko w3.heap.size j.heap.size j pe n (pz g)):=aG;have i0:=(J.cell (p:=⟨w.heap.size,0,none⟩) bX).trans q0;clear J A aG)
  | (refine di (by rfl) _ _ _ (by rfl) 32 (by rfl) _ (by rfl) (cO bM) (cO a6 j pe ke (cO H) (cO bY)) ?_;rintro e wr ⟨⟨q,m,k,rfl,aj⟩,O',v',T',K,U⟩;unfold nA;dsimp only;have X:=cO bO j wr O' v' (cO H) U;obtain⟨⟨r0,r1,r2,r3,s0,s1⟩,rf,sf,_⟩:=cO ae wr X;have N:=cP X;have bP:=cP (λW'=>cO aN j wr W' q m k O' v' T' (cO H) aj K U);clear aj K U X))
 all_goals
  have P:=Kp (cO N).x (cO N).r (Z .u8 (oc:Int)) (Z Y (st:Int)) (Z Y (vt:Int)) (.slice q m k) (Z Y (fr:Int)) (Z Y (sv:Int));have bQ:=Qg (cO N).x (cO N).r (Z .u8 (oc:Int)) (Z Y (st:Int)) (Z Y (vt:Int)) (.slice q m k) (Z Y (fr:Int)) (Z Y (sv:Int));have F:=cP P;have az:=cP bQ;clear P bQ;go_wp2
  first
   |exact cr (gE (by rfl) (by rfl) (by rfl) (cO F).x (cO F).r) rfl (cO bP _ (cO F) (cO N))
   |exact cr (gE (by rfl) (by rfl) (by rfl) (cO az).x (cO az).r) rfl (cO bP _ (cO az) (cO N))
   |trace_state
end Ru
end Go.Proofs.YtgkkdpegcieakaaGreatDoor
