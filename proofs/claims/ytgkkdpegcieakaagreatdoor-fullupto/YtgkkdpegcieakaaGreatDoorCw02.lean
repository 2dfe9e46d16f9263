import Derived.Test.YtgkkdpegcieakaaGreatDoorCw01
set_option linter.all false
set_option maxRecDepth 100000
set_option maxHeartbeats 16000000
namespace Go.Proofs.YtgkkdpegcieakaaGreatDoor
open Go.Proofs.Tryz
open Value renaming int→Z,slice→J,string→H,pointer→WV,bool→WW,tuple→WX
open Ending renaming returned→WZ
open Obj renaming cells→D
open Option renaming none→U,some→S
open Bool renaming true→W8,false→W9
open Or renaming inl→Xa,inr→Xb
open List renaming length→Xg
open _root_.Array renaming size→K
open World renaming heap→E
open IntKind renaming i64→Y
open Go renaming World→WR,Value→WS,Calls→WT
open Go.RowKit
section
def iG(r:Int):Bool:=decide (¬(r=32\/r=62))
theorem gi(r:Int)(w:WR):WT prog 216 #[Z .i32 r] w λe m=>e=WZ (WW (iG r))/\m=w:=by
 by_cases j:r=32
 .have b:iG r=W9:=by simp[iG,j]
  have u:(r != 32)=W9:=by simp[j]
  rw[b];clear j b;go_enter func216,ntmps216;go_wp2;go_ret;exact⟨O,O⟩
 .have u:(r != 32)=W8:=by simp[j]
  by_cases l:r=62
  .have b:iG r=W9:=by simp[iG,l]
   have y:(r != 62)=W9:=by simp[l]
   rw[b];clear j l b;go_enter func216,ntmps216;go_wp2;go_ret;exact⟨O,O⟩
  .have b:iG r=W8:=by simp[iG,j,l]
   have y:(r != 62)=W8:=by simp[l]
   rw[b];clear j l b;go_enter func216,ntmps216;go_wp2;go_ret;exact⟨O,O⟩
def yH(r:List Int):Bool:=decide (2<=Xg r)&&(iG (r.getD 0 0)&&(r.getD 1 0 == 32))
def Af(r:List Int):Bool:=decide (4<=Xg r)&&(iG (r.getD 0 0)&&((r.getD 1 0 == 62)&&(iG (r.getD 2 0)&&(r.getD 3 0 == 32))))
theorem iQ{w:WR}{k:IntKind}{p:Option Addr}{V:List Int}(h:fF w k p V)(j:Nat)(e:j<Xg V):∃g,p=S ⟨g,0,U⟩/\w.cell? ⟨g,j,U⟩=S (Z k (V.getD j 0)):=by
 obtain⟨g,a,_,b⟩:=h j e;exact⟨g,a,by rw[b];simp[e]⟩
theorem ir(p:Option Addr)(cap:Nat)(r:List Int)(w:WR)(h:fF w .i32 p r)(F:Xg r<=5000):WT prog 151 #[J p (Xg r) cap] w λe u=>e=WZ (WW (yH r))/\u=w:=by
 by_cases A:2<=Xg r
 .obtain⟨g,rfl,B⟩:=iQ h 0 (by omega);obtain⟨G,j,C⟩:=iQ h 1 (by omega);injection j with j;injection j with j;subst j;have l:yH r=(iG (r.getD 0 0)&&(r.getD 1 0 == 32)):=by unfold yH;rw[UH A];rfl
  rw[l];clear l h;generalize r.getD 0 0=a at B;generalize r.getD 1 0=b at C;have y:2<=((Xg r:Nat):Int):=by omega
  have I:(0:Int)<((Xg r:Nat):Int):=by omega
  have L:(1:Int)<((Xg r:Nat):Int):=by omega
  cases m:iG a with
  |false =>
   have z:=cT m;clear m;go_enter func151,ntmps151;go_wp2_with (go_at_call 216;refine(gi _ _).mono ?_;rintro e u ⟨rfl,rfl⟩;rw[cS z]);go_ret;exact⟨O,O⟩
  |true =>
   have z:=cT m;clear m;go_enter func151,ntmps151;go_wp2_with (go_at_call 216;refine(gi _ _).mono ?_;rintro e u ⟨rfl,rfl⟩;rw[cS z]);go_ret;exact⟨O,O⟩
 .have l:yH r=W9:=by unfold yH;rw[Uu A];rfl
  rw[l];have y:((Xg r:Nat):Int)<2:=by omega
  go_enter func151,ntmps151;go_wp2;go_ret;exact⟨O,O⟩
theorem nM(p:Option Addr)(cap:Nat)(r:List Int)(w:WR)(h:fF w .i32 p r)(I:Xg r<=5000):WT prog 153 #[J p (Xg r) cap] w λe j=>e=WZ (WW (Af r))/\j=w:=by
 by_cases A:4<=Xg r
 .obtain⟨g,rfl,B⟩:=iQ h 0 (by omega);obtain⟨L,l,C⟩:=iQ h 1 (by omega);injection l with l;injection l with l;subst l;obtain⟨M,m,F⟩:=iQ h 2 (by omega);injection m with m;injection m with m;subst m;obtain⟨N,u,G⟩:=iQ h 3 (by omega);injection u with u;injection u with u;subst u;have y:Af r=(iG (r.getD 0 0)&&((r.getD 1 0 == 62)&&(iG (r.getD 2 0)&&(r.getD 3 0 == 32)))):=by unfold Af;rw[UH A];rfl
  rw[y];clear y h;generalize r.getD 0 0=a at B;generalize r.getD 1 0=b at C;generalize r.getD 2 0=c at F;generalize r.getD 3 0=d at G;have z:4<=((Xg r:Nat):Int):=by omega
  have P:(0:Int)<((Xg r:Nat):Int):=by omega
  have Q:(1:Int)<((Xg r:Nat):Int):=by omega
  have R:(2:Int)<((Xg r:Nat):Int):=by omega
  have T:(3:Int)<((Xg r:Nat):Int):=by omega
  cases V:iG a with
  |false =>
   go_enter func153,ntmps153;go_wp2_with (go_at_call 216;refine(gi _ _).mono ?_;rintro e j ⟨rfl,rfl⟩);go_ret;exact⟨by simp,O⟩
  |true =>
   cases hb:(b == 62) with
   |false =>
    go_enter func153,ntmps153;go_wp2_with (go_at_call 216;refine(gi _ _).mono ?_;rintro e j ⟨rfl,rfl⟩);go_ret;exact⟨by simp,O⟩
   |true =>
    cases W:iG c with
    |false =>
     go_enter func153,ntmps153;go_wp2_with (go_at_call 216;refine(gi _ _).mono ?_;rintro e j ⟨rfl,rfl⟩);go_ret;exact⟨by simp,O⟩
    |true =>
     go_enter func153,ntmps153;go_wp2_with (go_at_call 216;refine(gi _ _).mono ?_;rintro e j ⟨rfl,rfl⟩);go_ret;exact⟨by simp,O⟩
 .have y:Af r=W9:=by unfold Af;rw[Uu A];rfl
  rw[y];have z:((Xg r:Nat):Int)<4:=by omega
  go_enter func153,ntmps153;go_wp2;go_ret;exact⟨O,O⟩
def gN(k a b n:Int):WS := .agg #[Z Y k,Z .i32 a,Z .i32 b,Z Y n]
def Lw(l:Sp.Ln):WS:=if l.jz=W8 then gN 2 l.dj l.cR l.n else gN 1 l.dj 0 l.n
def mg(r:List Int)(w:WR)(e:Ending)(w':WR):Prop:=WQ w w'/\
 match r with
 |[]=>e=WZ (WX #[gN 0 0 0 0,WW W8])
 |_::_=>match Sp.lE r with
  |some l=>e=WZ (WX #[Lw l,WW W8])
  |none=>∃k a b n:Int,e=WZ (WX #[gN k a b n,WW W9])
end
section
variable {r:List Int}
theorem S9(h:yH r=W8): Sp.lE r=(Sp.numOf (r.drop 2)).map λn=>⟨W9,r.getD 0 0,0,n⟩:=by
 match r,h with
 |[],h=>simp[yH] at h
 |[_],h=>simp[yH] at h
 |a::b::t,h =>
  simp[yH,iG] at h;obtain⟨⟨e,j⟩,l⟩:=h;subst l;simp[Sp.lE,e,j]
theorem Tv(A:yH r=W9)(h:Af r=W8): Sp.lE r=(Sp.numOf (r.drop 4)).map λn=>⟨W8,r.getD 0 0,r.getD 2 0,n⟩:=by
 match r,h with
 |[],h=>simp[Af] at h
 |[_],h=>simp[Af] at h
 |[_,_],h=>simp[Af] at h
 |[_,_,_],h=>simp[Af] at h
 |a::b::c::d::u,h =>
  simp[Af,iG] at h;obtain⟨⟨e,j⟩,l,⟨m,y⟩,z⟩:=h;subst l z;simp[Sp.lE,e,j,m,y]
theorem Rp(l:yH r=W9)(h:Af r=W9): Sp.lE r=U:=by
 match r,l,h with
 |[],_,_=>rfl
 |[_],_,_=>rfl
 |[a,b],l,_ =>
  simp[yH,iG] at l;simp only[Sp.lE];by_cases j:a=32\/a=62
  .rw[T0 j]
  .rw[TZ j];have m:¬b=32:=λe=>by
    have:=l (λx=>j (Xa x)) (λx=>j (Xb x));exact this e
   rw[TZ m];split <;> rfl
 |[a,b,c],l,_ =>
  simp[yH,iG] at l;simp only[Sp.lE];by_cases j:a=32\/a=62
  .rw[T0 j]
  .rw[TZ j];have m:¬b=32:=λe=>by
    have:=l (λx=>j (Xa x)) (λx=>j (Xb x));exact this e
   rw[TZ m];split <;> rfl
 |a::b::c::d::u,l,h =>
  simp[yH,iG] at l;simp[Af,iG] at h;simp only[Sp.lE];by_cases j:a=32\/a=62
  .rw[T0 j]
  .rw[TZ j];have m:¬b=32:=λe=>by
    have:=l (λx=>j (Xa x)) (λx=>j (Xb x));exact this e
   rw[TZ m];by_cases z:b=62
   .rw[T0 z];by_cases y:c=32\/c=62
    .rw[T0 y]
    .rw[TZ y];have A:¬d=32:=λe=>h (λx=>j (Xa x)) (λx=>j (Xb x)) z (λx=>y (Xa x)) (λx=>y (Xb x)) e
     rw[TZ A]
   .rw[TZ z]
theorem ru{w w':WR}{k a b n:Int}(e:r≠[])(h:Sp.lE r=U)(hb:WQ w w'): mg r w (WZ (WX #[gN k a b n,WW W9])) w':=by
 refine⟨hb,?_⟩;cases r with
 |nil=>exact absurd rfl e
 |cons x t=>rw[h];exact⟨k,a,b,n,O⟩
theorem rG{w w':WR}{l:Sp.Ln}(h:Sp.lE r=S l)(hb:WQ w w'): mg r w (WZ (WX #[Lw l,WW W8])) w':=by
 refine⟨hb,?_⟩;cases r with
 |nil=>cases h
 |cons x t=>rw[h]
theorem vy(p:Option Addr)(cap:Nat)(w:WR):WT prog 101 #[J p 0 cap] w (mg [] w):=by
 go_enter func101,ntmps101;go_wp2;exact T8 (v := WX #[gN 0 0 0 0,WW W8]) (by simp[results,results101,go_sem,gN]) O ⟨WO.alloc WN _,O⟩
theorem Bm(p:Option Addr)(cap:Nat)(r:List Int)(w:WR)(h:fF w .i32 p r)(m:Xg r<=5000)(b:r≠[])(u:yH r=W9)(he:Af r=W9):WT prog 101 #[J p (Xg r) cap] w (mg r w):=by
 have y:0<Xg r:=by cases r with | nil=>exact absurd rfl b | cons _ _=>simp
 have B:(((Xg r:Nat):Int) == 0)=W9:=Uh.2 (by omega);have z:=cT (Rp u he);have j:WQ w (w.alloc (D #[Z Y 0,Z .i32 0,Z .i32 0,Z Y 0] 202)):=WO.alloc WN _;go_enter func101,ntmps101;go_wp2_with fail;refine(ir p cap r _ (h.below j) m).mono ?_;rintro e A ⟨rfl,l⟩;obtain rfl:=l.symm;rw[u];go_wp2_with fail;refine(nM p cap r _ (h.below j) m).mono ?_;rintro e A ⟨rfl,l⟩;obtain rfl:=l.symm;rw[he];go_wp2;exact T8 (v := WX #[gN 0 0 0 0,WW W9]) (by simp[results,results101,go_sem,gN]) O (ru b (cS z) j)
theorem xZ(w:WR)(g c b:Nat)(r:List Int)(h:fF w .i32 (S ⟨g,0,U⟩) r)(u:b<=Xg r):(convert 65 9 (J (S ⟨g,b,U⟩) (Xg r-b) c)).run prog w=.ok (H (runesBytes (r.drop b))) w:=by
 have:=run_convert_runes (P:=prog) w 65 9 21 ⟨g,b,U⟩ (Xg r-b) c (r.drop b) (by simp) underlying65 underlying21 underlying9 (by
  intro j l;rw[Vb] at l;obtain⟨y,e,_,m⟩:=h (b+j) (by omega);injection e with e;injection e with e;subst e;rw[Vo,m];simp[List.getD,VG,Uk (show b+j<Xg r by omega)])
 rw[this,Vc (by simp)]
theorem xE(w:WR)(g c:Nat)(r:List Int)(b:Nat)(l:Xg r=b):(convert 65 9 (J (S ⟨g,0,U⟩) 0 c)).run prog w=.ok (H (runesBytes (r.drop b))) w:=by
 have:=run_convert_runes (P:=prog) w 65 9 21 ⟨g,0,U⟩ 0 c [] (by simp) underlying65 underlying21 underlying9 (by intro j e;simp at e);rw[this,VA (by omega),List.take_nil]
theorem C3(g cap:Nat)(r:List Int)(w:WR)(h:fF w .i32 (S ⟨g,0,U⟩) r)(V:Xg r<=5000)(hc:Xg r<=cap)(q:cap<=maxLen)(F:yH r=W8)(G:(runesBytes (r.drop 2)).size<=4000)(ad:∀y∈r,0<=y/\y<=1114111):WT prog 101 #[J (S ⟨g,0,U⟩) (Xg r) cap] w (mg r w):=by
 have j:2<=Xg r:=by
  apply WG;intro hx;unfold yH at F;rw[Uu hx] at F;cases F
 have I:r≠[]:=λe=>by rw[e] at j;simp at j
 have h0:(((Xg r:Nat):Int) == 0)=W9:=Uh.2 (by omega);have W:=cT (S9 F);have t:WQ w (w.alloc (D #[Z Y 0,Z .i32 0,Z .i32 0,Z Y 0] 202)):=WO.alloc WN _;have s:=h.below t;obtain⟨_,L,o⟩:=iQ h 0 (by omega);injection L with L;injection L with L;subst L;unfold maxLen at q;have z0:(0:Int)<((Xg r:Nat):Int):=by omega
 have M:=Ui w _ o;generalize N:runesBytes (r.drop 2)=Q at G;have X:=cT N;have HW:Hid (WT prog 152 #[H Q] (w.alloc (D #[Z Y 0,Z .i32 0,Z .i32 0,Z Y 0] 202)) λe w'=>e=WZ (m8 (Sp.number Q.data.toList))/\Below (w.alloc (D #[Z Y 0,Z .i32 0,Z .i32 0,Z Y 0] 202)).heap.size (w.alloc (D #[Z Y 0,Z .i32 0,Z .i32 0,Z Y 0] 202)) w'):=mT Q _ G;by_cases P:cap=2
 .subst P;have R:Xg r=2:=by omega
  have m:=xE (w.alloc (D #[Z Y 0,Z .i32 0,Z .i32 0,Z Y 0] 202)) g 0 r 2 R;rw[N] at m;clear N R;go_enter func101,ntmps101;go_wp2_with fail;refine(ir _ _ r _ s V).mono ?_;rintro e w' ⟨rfl,hw⟩;obtain rfl:=hw.symm;rw[F];clear V;go_wp2_with fail;refine(cS HW).mono ?_;rintro e w2 ⟨rfl,b⟩;have u:=b.cell (p:=⟨K (E w),0,U⟩) (by simp);have z:=b.cell (p:=⟨K (E w),1,U⟩) (by simp);have A:=b.cell (p:=⟨K (E w),2,U⟩) (by simp);have B:=b.cell (p:=⟨K (E w),3,U⟩) (by simp);have v0:=b.frozen (p:=⟨K (E w),0,U⟩) (by simp);have v1:=b.frozen (p:=⟨K (E w),1,U⟩) (by simp);have v2:=b.frozen (p:=⟨K (E w),2,U⟩) (by simp);have v3:=b.frozen (p:=⟨K (E w),3,U⟩) (by simp);have aa:=(b.cell (p:=⟨g,0,U⟩) (by simp;omega)).trans (nz M o);have hz:=b.size;simp at u z A B v0 v1 v2 v3 hz;have l:=t.trans (b.mono (by simp));cases T:Sp.number Q.data.toList with
  |none =>
   have C:Hid (Sp.lE r=U):=by show _=_;rw[cS W];unfold Sp.numOf;rw[cS X,T];rfl
   rw[jw];clear b;go_wp2;exact T8 (v := WX #[gN 1 (r.getD 0 0) 0 0,WW W9]) (by simp[results,results101,go_sem,gN,u,z,A,B]) O (ru I (cS C) ((((l.setCell WN _).setCell WN _).setCell WN _).setCell WN _))
  |some v =>
   have C:Hid (Sp.lE r=S ⟨W9,r.getD 0 0,0,v⟩):=by show _=_;rw[cS W];unfold Sp.numOf;rw[cS X,T];rfl
   rw[ji];clear b;go_wp2;exact T8 (v := WX #[Lw ⟨W9,r.getD 0 0,0,v⟩,WW W8]) (by simp[results,results101,go_sem,gN,Lw,u,z,A,B]) O (rG (cS C) ((((l.setCell WN _).setCell WN _).setCell WN _).setCell WN _))
 .have m:=xZ (w.alloc (D #[Z Y 0,Z .i32 0,Z .i32 0,Z Y 0] 202)) g (cap-2) 2 r s j;rw[N] at m;clear N;have ab:2<cap:=by omega
  go_enter func101,ntmps101;go_wp2_with fail;refine(ir _ _ r _ s V).mono ?_;rintro e w' ⟨rfl,hw⟩;obtain rfl:=hw.symm;rw[F];clear V;go_wp2_with fail;refine(cS HW).mono ?_;rintro e w2 ⟨rfl,b⟩;have u:=b.cell (p:=⟨K (E w),0,U⟩) (by simp);have z:=b.cell (p:=⟨K (E w),1,U⟩) (by simp);have A:=b.cell (p:=⟨K (E w),2,U⟩) (by simp);have B:=b.cell (p:=⟨K (E w),3,U⟩) (by simp);have v0:=b.frozen (p:=⟨K (E w),0,U⟩) (by simp);have v1:=b.frozen (p:=⟨K (E w),1,U⟩) (by simp);have v2:=b.frozen (p:=⟨K (E w),2,U⟩) (by simp);have v3:=b.frozen (p:=⟨K (E w),3,U⟩) (by simp);have aa:=(b.cell (p:=⟨g,0,U⟩) (by simp;omega)).trans (nz M o);have hz:=b.size;simp at u z A B v0 v1 v2 v3 hz;have l:=t.trans (b.mono (by simp));cases T:Sp.number Q.data.toList with
  |none =>
   have C:Hid (Sp.lE r=U):=by show _=_;rw[cS W];unfold Sp.numOf;rw[cS X,T];rfl
   rw[jw];clear b;go_wp2;exact T8 (v := WX #[gN 1 (r.getD 0 0) 0 0,WW W9]) (by simp[results,results101,go_sem,gN,u,z,A,B]) O (ru I (cS C) ((((l.setCell WN _).setCell WN _).setCell WN _).setCell WN _))
  |some v =>
   have C:Hid (Sp.lE r=S ⟨W9,r.getD 0 0,0,v⟩):=by show _=_;rw[cS W];unfold Sp.numOf;rw[cS X,T];rfl
   rw[ji];clear b;go_wp2;exact T8 (v := WX #[Lw ⟨W9,r.getD 0 0,0,v⟩,WW W8]) (by simp[results,results101,go_sem,gN,Lw,u,z,A,B]) O (rG (cS C) ((((l.setCell WN _).setCell WN _).setCell WN _).setCell WN _))
theorem C7(g cap:Nat)(r:List Int)(w:WR)(h:fF w .i32 (S ⟨g,0,U⟩) r)(T:Xg r<=5000)(hc:Xg r<=cap)(ad:cap<=maxLen)(hv:yH r=W9)(he:Af r=W8)(V:(runesBytes (r.drop 4)).size<=4000)(af:∀y∈r,0<=y/\y<=1114111):WT prog 101 #[J (S ⟨g,0,U⟩) (Xg r) cap] w (mg r w):=by
 have l:4<=Xg r:=by
  apply WG;intro hx;unfold Af at he;rw[Uu hx] at he;cases he
 have W:r≠[]:=λe=>by rw[e] at l;simp at l
 have h0:(((Xg r:Nat):Int) == 0)=W9:=Uh.2 (by omega);have hL:=Tv hv he;have hb:WQ w (w.alloc (D #[Z Y 0,Z .i32 0,Z .i32 0,Z Y 0] 202)):=WO.alloc WN _;have X:=h.below hb;obtain⟨_,q,x0⟩:=iQ h 0 (by omega);injection q with q;injection q with q;subst q;unfold maxLen at ad;have z0:(0:Int)<((Xg r:Nat):Int):=by omega
 have F:=Ui w _ x0;obtain⟨_,t,x2⟩:=iQ h 2 (by omega);injection t with t;injection t with t;subst t;have z2:(2:Int)<((Xg r:Nat):Int):=by omega
 have ag:0<Xg r:=by omega
 have ah:2<Xg r:=by omega
 obtain⟨B,s⟩:∃a,r.getD 0 0=a:=⟨_,rfl⟩
 obtain⟨C,o⟩:∃a,r.getD 2 0=a:=⟨_,rfl⟩
 rw[s] at x0 hL;rw[o] at x2 hL;have HL:=cT hL;clear hL s o;generalize hQ:runesBytes (r.drop 4)=Q at V;have HQ:=cT hQ;have HW:Hid (WT prog 152 #[H Q] (w.alloc (D #[Z Y 0,Z .i32 0,Z .i32 0,Z Y 0] 202)) λe j=>e=WZ (m8 (Sp.number Q.data.toList))/\Below (w.alloc (D #[Z Y 0,Z .i32 0,Z .i32 0,Z Y 0] 202)).heap.size (w.alloc (D #[Z Y 0,Z .i32 0,Z .i32 0,Z Y 0] 202)) j):=mT Q _ V;by_cases aa:cap=4
 .subst aa;have ab:Xg r=4:=by omega
  have G:=xE (w.alloc (D #[Z Y 0,Z .i32 0,Z .i32 0,Z Y 0] 202)) g 0 r 4 ab;rw[hQ] at G;clear hQ ab;go_enter func101,ntmps101;go_wp2_with fail;refine(ir _ _ r _ X T).mono ?_;rintro e j ⟨rfl,I⟩;obtain rfl:=I.symm;rw[hv];go_wp2_with fail;refine(nM _ _ r _ X T).mono ?_;rintro e j ⟨rfl,I⟩;obtain rfl:=I.symm;rw[he];clear T;go_wp2_with fail;refine(cS HW).mono ?_;rintro e w2 ⟨rfl,b⟩;have L:=b.cell (p:=⟨K (E w),0,U⟩) (by simp);have M:=b.cell (p:=⟨K (E w),1,U⟩) (by simp);have N:=b.cell (p:=⟨K (E w),2,U⟩) (by simp);have P:=b.cell (p:=⟨K (E w),3,U⟩) (by simp);have v0:=b.frozen (p:=⟨K (E w),0,U⟩) (by simp);have v1:=b.frozen (p:=⟨K (E w),1,U⟩) (by simp);have v2:=b.frozen (p:=⟨K (E w),2,U⟩) (by simp);have v3:=b.frozen (p:=⟨K (E w),3,U⟩) (by simp);have m:=(b.cell (p:=⟨g,0,U⟩) (by simp;omega)).trans (nz F x0);have u:=(b.cell (p:=⟨g,2,U⟩) (by simp;omega)).trans (nz F x2);have hz:=b.size;simp at L M N P v0 v1 v2 v3 hz;have z:=hb.trans (b.mono (by simp));cases hq:Sp.number Q.data.toList with
  |none =>
   have R:Hid (Sp.lE r=U):=by show _=_;rw[cS HL];unfold Sp.numOf;rw[cS HQ,hq];rfl
   rw[jw];clear b;have A:K (E w)≠g:=by omega
   go_wp2_with fail
   go_region_held3 (λj=>j.cell? ⟨g,0,U⟩=S (Z .i32 B)/\j.cell? ⟨g,2,U⟩=S (Z .i32 C))
    (first|(go_keep;done)|(go_split_ands;exact⟨(UD _ _ _ _ (by simp;omega)).trans ((UD _ _ _ _ (by simp;omega)).trans ((UD _ _ _ _ (by simp;omega)).trans ((UD _ _ _ _ (by simp;omega)).trans m))),(UD _ _ _ _ (by simp;omega)).trans ((UD _ _ _ _ (by simp;omega)).trans ((UD _ _ _ _ (by simp;omega)).trans ((UD _ _ _ _ (by simp;omega)).trans u)))⟩))
    (fail)
   go_wp2;exact T8 (v := WX #[gN 2 B C 0,WW W9]) (by simp[results,results101,go_sem,gN,L,M,N,P]) O (ru W (cS R) ((((z.setCell WN _).setCell WN _).setCell WN _).setCell WN _).drew)
  |some v =>
   have R:Hid (Sp.lE r=S ⟨W8,B,C,v⟩):=by show _=_;rw[cS HL];unfold Sp.numOf;rw[cS HQ,hq];rfl
   rw[ji];clear b;have A:K (E w)≠g:=by omega
   go_wp2_with fail
   go_region_held3 (λj=>j.cell? ⟨g,0,U⟩=S (Z .i32 B)/\j.cell? ⟨g,2,U⟩=S (Z .i32 C))
    (first|(go_keep;done)|(go_split_ands;exact⟨(UD _ _ _ _ (by simp;omega)).trans ((UD _ _ _ _ (by simp;omega)).trans ((UD _ _ _ _ (by simp;omega)).trans ((UD _ _ _ _ (by simp;omega)).trans m))),(UD _ _ _ _ (by simp;omega)).trans ((UD _ _ _ _ (by simp;omega)).trans ((UD _ _ _ _ (by simp;omega)).trans ((UD _ _ _ _ (by simp;omega)).trans u)))⟩))
    (fail)
   go_wp2;exact T8 (v := WX #[Lw ⟨W8,B,C,v⟩,WW W8]) (by simp[results,results101,go_sem,gN,Lw,L,M,N,P]) O (rG (cS R) ((((z.setCell WN _).setCell WN _).setCell WN _).setCell WN _).drew)
 .have G:=xZ (w.alloc (D #[Z Y 0,Z .i32 0,Z .i32 0,Z Y 0] 202)) g (cap-4) 4 r X l;rw[hQ] at G;clear hQ;have ae:4<cap:=by omega
  go_enter func101,ntmps101;go_wp2_with fail;refine(ir _ _ r _ X T).mono ?_;rintro e j ⟨rfl,I⟩;obtain rfl:=I.symm;rw[hv];go_wp2_with fail;refine(nM _ _ r _ X T).mono ?_;rintro e j ⟨rfl,I⟩;obtain rfl:=I.symm;rw[he];clear T;go_wp2_with fail;refine(cS HW).mono ?_;rintro e w2 ⟨rfl,b⟩;have L:=b.cell (p:=⟨K (E w),0,U⟩) (by simp);have M:=b.cell (p:=⟨K (E w),1,U⟩) (by simp);have N:=b.cell (p:=⟨K (E w),2,U⟩) (by simp);have P:=b.cell (p:=⟨K (E w),3,U⟩) (by simp);have v0:=b.frozen (p:=⟨K (E w),0,U⟩) (by simp);have v1:=b.frozen (p:=⟨K (E w),1,U⟩) (by simp);have v2:=b.frozen (p:=⟨K (E w),2,U⟩) (by simp);have v3:=b.frozen (p:=⟨K (E w),3,U⟩) (by simp);have m:=(b.cell (p:=⟨g,0,U⟩) (by simp;omega)).trans (nz F x0);have u:=(b.cell (p:=⟨g,2,U⟩) (by simp;omega)).trans (nz F x2);have hz:=b.size;simp at L M N P v0 v1 v2 v3 hz;have z:=hb.trans (b.mono (by simp));cases hq:Sp.number Q.data.toList with
  |none =>
   have R:Hid (Sp.lE r=U):=by show _=_;rw[cS HL];unfold Sp.numOf;rw[cS HQ,hq];rfl
   rw[jw];clear b;have A:K (E w)≠g:=by omega
   go_wp2_with fail
   go_region_held3 (λj=>j.cell? ⟨g,0,U⟩=S (Z .i32 B)/\j.cell? ⟨g,2,U⟩=S (Z .i32 C))
    (first|(go_keep;done)|(go_split_ands;exact⟨(UD _ _ _ _ (by simp;omega)).trans ((UD _ _ _ _ (by simp;omega)).trans ((UD _ _ _ _ (by simp;omega)).trans ((UD _ _ _ _ (by simp;omega)).trans m))),(UD _ _ _ _ (by simp;omega)).trans ((UD _ _ _ _ (by simp;omega)).trans ((UD _ _ _ _ (by simp;omega)).trans ((UD _ _ _ _ (by simp;omega)).trans u)))⟩))
    (fail)
   go_wp2;exact T8 (v := WX #[gN 2 B C 0,WW W9]) (by simp[results,results101,go_sem,gN,L,M,N,P]) O (ru W (cS R) ((((z.setCell WN _).setCell WN _).setCell WN _).setCell WN _).drew)
  |some v =>
   have R:Hid (Sp.lE r=S ⟨W8,B,C,v⟩):=by show _=_;rw[cS HL];unfold Sp.numOf;rw[cS HQ,hq];rfl
   rw[ji];clear b;have A:K (E w)≠g:=by omega
   go_wp2_with fail
   go_region_held3 (λj=>j.cell? ⟨g,0,U⟩=S (Z .i32 B)/\j.cell? ⟨g,2,U⟩=S (Z .i32 C))
    (first|(go_keep;done)|(go_split_ands;exact⟨(UD _ _ _ _ (by simp;omega)).trans ((UD _ _ _ _ (by simp;omega)).trans ((UD _ _ _ _ (by simp;omega)).trans ((UD _ _ _ _ (by simp;omega)).trans m))),(UD _ _ _ _ (by simp;omega)).trans ((UD _ _ _ _ (by simp;omega)).trans ((UD _ _ _ _ (by simp;omega)).trans ((UD _ _ _ _ (by simp;omega)).trans u)))⟩))
    (fail)
   go_wp2;exact T8 (v := WX #[Lw ⟨W8,B,C,v⟩,WW W8]) (by simp[results,results101,go_sem,gN,Lw,L,M,N,P]) O (rG (cS R) ((((z.setCell WN _).setCell WN _).setCell WN _).setCell WN _).drew)
end
section
theorem vD(r:List Int):∀n,(runesBytes (r.drop n)).size<=(runesBytes r).size:=by
 induction r with
 |nil=>intro n;simp
 |cons a t b =>
  intro n;cases n with
  |zero=>simp
  |succ n =>
   have j:=b n;have e:=congrArg List.length (Sp.vU a t);simp at e ⊢;omega
theorem zW(p:Option Addr)(cap:Nat)(r:List Int)(w:WR)(h:fF w .i32 p r)(l:Xg r<=5000)(u:Xg r<=cap)(b:cap<=maxLen)(e:(runesBytes r).size<=4000)(j:∀y∈r,0<=y/\y<=1114111):WT prog 101 #[J p (Xg r) cap] w (mg r w):=by
 cases r with
 |nil=>exact vy p cap w
 |cons a t =>
  obtain⟨g,rfl,_⟩:=iQ h 0 (by simp);cases m:yH (a::t) with
  |true=>exact C3 g cap _ w h l u b m (Uc (vD _ _) e) j
  |false =>
   cases he:Af (a::t) with
   |true=>exact C7 g cap _ w h l u b m he (Uc (vD _ _) e) j
   |false=>exact Bm _ cap _ w h l (by simp) m he
end
section
theorem info_pline:(prog.info? 202).map (λi=>(i.zero,i.size,i.bytes))=S (S (.agg #[Z Y 0,Z .i32 0,Z .i32 0,Z Y 0]),4,24):=by kernel_rfl
def et(w:WR):Prop := ∃m:Int,w.cell? ⟨7,0,U⟩=S (Z Y m)
theorem DF(x:WU)(w:WR)(m:x.size<=4000):∃b C,(convert 9 65 (H x)).run prog w=.ok (J (S ⟨K (E w),0,U⟩) (Sp.rs x 0).length b) (w.drew.alloc (D C 21))/\
  (Sp.rs x 0).length<=b/\b<=maxLen/\fF (w.drew.alloc (D C 21)) .i32 (S ⟨K (E w),0,U⟩) (Sp.rs x 0):=by
 have r:=Sp.LW x _ 0 WN;have h:=run_runes_of_string (P:=prog) w 9 65 21 x underlying9 underlying65 underlying21 (by have:=size_runesFrom x x.size 0 #[];simp at this;omega);rw[Sp.Lr] at h;have l:((Sp.rs x 0).map (Z .i32)).toArray.size=(Sp.rs x 0).length:=by simp
 rw[l] at h;refine⟨_,_,h,grownCap_ge _ _ _ _,grownCap_le_maxLen _ _ _ _ (by unfold maxLen;omega),?_⟩;intro j e;refine⟨K (E w),O,by simp,?_⟩;refine(T5 _ (K (E w)) j _ 21 (0,0) (T9 w.drew _)).trans ?_;rw[Array.getElem?_append_left (by simp;exact e)];simp[e]
theorem qd(x:WU)(p:Option Addr)(cap:Nat)(w:WR)(F:Sp.V x 0)(P:x.size<=4000)(h:fF w .i32 p (Sp.rs x 0))(L:(Sp.rs x 0).length<=cap)(u:cap<=maxLen):WT prog 101 #[J p (Sp.rs x 0).length cap] w λe G=>WQ w G/\match Sp.r4 x with
   |some q=>e=WZ (WX #[gN (Sp.pk q) (Sp.pa q) (Sp.pb q) (Sp.pn q),WW W8])
   |none=>∃k a b n:Int,e=WZ (WX #[gN k a b n,WW W9]):=by
 have Q:=Sp.LW x _ 0 WN;have M:=Sp.Cy _ 0 WN F;have y:(runesBytes (Sp.rs x 0)).size<=4000:=by have:=congrArg List.length M;simp at this;omega
 refine(zW p cap _ w h (by omega) L u y (Sp.SR x _ 0 WN)).mono ?_;rintro e G ⟨z,j⟩;refine⟨z,?_⟩;have N:=Sp.MC F;by_cases r:x.size=0
 .rw[Sp.B2.2 r] at j;have A:Sp.r4 x=S U:=T0 r;rw[A];exact j
 .have B:Sp.rs x 0≠[]:=λe=>r (Sp.B2.1 e)
  have A:Sp.r4 x=(Sp.lE (Sp.rs x 0)).map S:=by unfold Sp.r4;rw[TZ r,N]
  rw[A];cases I:Sp.rs x 0 with
  |nil=>exact absurd I B
  |cons a t =>
   rw[I] at j;simp only at j;cases m:Sp.lE (a::t) with
   |none=>rw[m] at j;exact j
   |some l =>
    rw[m] at j;simp only at j;rw[j]
    show _=_
    unfold Lw;cases C:l.jz <;> simp[Sp.pk,Sp.pa,Sp.pb,Sp.pn,C]
def kL(p:Option Sp.Ln):List WS:=[Z Y (Sp.pk p),Z .i32 (Sp.pa p),Z .i32 (Sp.pb p),Z Y (Sp.pn p)]
def gO(P:List (Option Sp.Ln)):List WS:=P.flatMap kL
def sU(s:WU)(w:WR)(e:Ending)(w':WR):Prop:=WQ w w'/\
 match Sp.eg (Sp.split s 10) 0 [] with
 |.error k=>e=WZ (WX #[J U 0 0,Z Y (k:Nat),WW W9])
 |.ok P=>∃v,e=WZ (WX #[v,Z Y 0,WW W8])/\w'.ownsRow (K (E w)) 202 4 v (Xg P) (gO P)
theorem Gp{s:WU}{w w':WR}{k:Nat}(h:Sp.eg (Sp.split s 10) 0 []=.error k)(hb:WQ w w'):sU s w (WZ (WX #[J U 0 0,Z Y (k:Nat),WW W9])) w':=by
 refine⟨hb,?_⟩;rw[h]
theorem Lu{s:WU}{w w':WR}{P:List (Option Sp.Ln)}{v:WS}(h:Sp.eg (Sp.split s 10) 0 []=.ok P)(hb:WQ w w')(b:w'.ownsRow (K (E w)) 202 4 v (Xg P) (gO P)):sU s w (WZ (WX #[v,Z Y 0,WW W8])) w':=by
 refine⟨hb,?_⟩;rw[h];exact⟨v,O,b⟩
theorem gT(s:WU)(w:WR)(hs:s.size<=4000)(hV:Sp.V s 0)(hg:et w):WT prog 63 #[H s] w (sU s w):=by
 obtain⟨m,hm⟩:=hg;obtain⟨i0,hi,ao,aq,ar⟩:=UB info_pline;have HC:Hid (WT prog 69 #[H s,H ⟨#[10]⟩] w λe w'=>e=WZ (J (S ⟨K (E w),0,U⟩) (Sp.split s 10).length (Sp.split s 10).length)/\w'=w.alloc (D ((Sp.split s 10).map Value.string).toArray 9)):=by
  have h:=Tryz.strings_Split s ⟨#[10]⟩ m w (by omega) hm (by decide);rw[Sp.sq,Sp.tR] at h;exact h
 have t:=Sp.jq s 10;have HS:=cT (Sp.D1 s 10);have HV:=cT (Sp.Mr hV);generalize p:Sp.split s 10=b at t HS HC HV;have o:=cT p;clear p hV hm;go_enter func63,ntmps63;go_wp2_with fail;refine(cS HC).mono ?_;rintro e w1 ⟨rfl,M⟩;have g:w1.ownsRow (K (E w)) 9 1 (J (S ⟨K (E w),0,U⟩) (Xg b) (Xg b)) (Xg b) (b.map Value.string):=by
  rw[M];have:=World.ownsRow_lit (base:=K (E w)) (e:=9) (size:=1) w (b.map Value.string).toArray (Xg b) WN (by unfold maxLen;omega) (by simp);simpa using this
 have au:WQ w w1:=by rw[M];exact WO.alloc WN _
 clear M;obtain⟨g0,F⟩:∃g0,K (E w)=g0:=⟨_,rfl⟩
 have HG:=cT F;have av:w1.ownsRow (K (E w)) 9 1 (J (S ⟨g0,0,U⟩) (Xg b) (Xg b)) (Xg b) (b.map Value.string):=by rw[<-F];exact g
 rw[F];clear F g;go_wp2_with fail
 go_loopw [5,13] (λl i wr=>∃(k:Nat) (P:List (Option Sp.Ln)),k<=Xg b/\(Xg P)<=k/\i=Z Y k/\wr.ownsRow (K (E w)) 202 4 l (Xg P) (gO P)/\
   wr.ownsRow (K (E w)) 9 1 (J (S ⟨g0,0,U⟩) (Xg b) (Xg b)) (Xg b) (b.map Value.string)/\WQ w wr/\Hid (Sp.eg (b.drop k) k P=Sp.eg b 0 []))
  (λ_ i _=>Xg b-(intOf i).toNat)
 case atStart=>exact⟨0,[],Ud _,Ud _,rfl,Uw _ _ _ _,av,au,rfl⟩
 case round =>
  obtain⟨k,P,hk,ay,rfl,hl,hv,N,HR⟩:=hrel;by_cases B:k<Xg b
  .have aa:wr.cell? ⟨g0,k,U⟩=S (H b[k]):=by
    rw[hv.cellAt k (by omega)];simp[B]
   have G:(b[k]).size<=4000:=by have:=(cS HS) b[k] (UU B);omega
   have Q:=cT ((cS HV) b[k] (UU B));generalize hx:b[k]=x at aa G Q;have HX:=cT hx;clear hx;obtain⟨ab,C,ad,ae,af,ag⟩:=DF x wr G;have ah:=cT ag;have ai:=cT ae;have aj:=cT af;clear ae af ag;have z:WQ w (wr.drew.alloc (D C 21)):=N.drew.alloc N.size _;have R:=(dd hl WO.drew).alloc (D C 21);have T:=(dd hv WO.drew).alloc (D C 21);cases I:Sp.r4 x with
   |none =>
    have HN:=cT I;clear I;go_wp2_with fail;refine(qd x _ ab _ (cS Q) G (cS ah) (cS ai) (cS aj)).mono ?_;rintro e w2 ⟨r,he⟩;rw[cS HN] at he;obtain⟨k1,a1,b1,n1,rfl⟩:=he;have A:=z.trans (r.mono z.size);have W:=A.size;clear ad R T r z;unfold gN;go_wp2;exact T8 (v := WX #[J U 0 0,Z Y k,WW W9]) (by simp[results,results63,go_sem]) O (Gp (by rw[cS o,<-cS HR];exact Sp.Oc B P (by rw[cS HX];exact cS HN)) (A.alloc W _))
   |some q =>
    have HN:=cT I;clear I;go_wp2_with fail;refine(qd x _ ab _ (cS Q) G (cS ah) (cS ai) (cS aj)).mono ?_;rintro e w2 ⟨r,he⟩;rw[cS HN] at he;obtain rfl:=he;have A:=z.trans (r.mono z.size);have W:=A.size;have L:=dd R r;have ak:=dd T r;clear ad R T r z hl hv aa;unfold gN;go_wp2_with (first
     | (at_builtin;go_must (refine VZ _ O (.tmp 27) (.tmp 29) 136 O (K (E w)) 202 i0 _ 4 24 underlying136 hi ao aq ar O (by decide) _ _ _ O ((L.alloc _).alloc _) ⟨K (E w2)+1,0,U⟩ 1 1 (kL q) O O ?c1 ?c2 ?c3 ?c4 ?c5 ?_))
     |go_in)
    case c1 =>
     intro j u y
     match j,y with
     |0,y=>simp[kL] at y;subst y;simp[Addr.add]
     |1,y=>simp[kL] at y;subst y;simp[Addr.add]
     |2,y=>simp[kL] at y;subst y;simp[Addr.add]
     |3,y=>simp[kL] at y;subst y;simp[Addr.add]
     |j+4,y=>simp[kL] at y
    case c2=>intro u hu;simp[kL] at hu;rcases hu with rfl | rfl | rfl | rfl <;> rfl
    case c3=>unfold maxLen;omega
    case c4=>omega
    case c5=>simp;omega
    intro v3 w3 aw X _;have an:=qM (ys:=[]) (v':=v3) (by simp;omega) ((L.alloc _).alloc _) ((A.alloc W _).alloc (by simp;omega) _) X;have ax:=jM ((L.alloc _).alloc _) ((ak.alloc _).alloc _) (by decide) X;clear X L ak A;go_wp2;go_roundw
    case rel =>
     exact⟨k+1,P++[q],by omega,by simp;omega,by go_num,by simpa [gO,V0] using aw,ax,an,by
      show _=_;rw[<-cS HR];exact(Sp.MV B P (by rw[cS HX];exact cS HN)).symm⟩
    case measure=>simp[intOf];omega
  .go_wp2;refine T8 (v := WX #[_,Z Y 0,WW W8]) (by simp[results,results63,go_sem]) O (Lu (P:=P) ?_ N hl);rw[cS o,<-cS HR];exact Sp.QJ (by omega) P
end
section
theorem qI(x:Int)(w:WR):WT prog 221 #[Z .i32 x] w λe b=>e=WZ (WW W9)/\b=w:=by
 have h:(x != x)=W9:=by simp
 go_enter func221,ntmps221;go_wp2;go_ret;exact⟨O,O⟩
def lH(x y:Int):Int:=if x<y then -1 else if y<x then 1 else 0
theorem zi(x y:Int)(w:WR):WT prog 157 #[Z .i32 x,Z .i32 y] w λe j=>e=WZ (Z Y (lH x y))/\j=w:=by
 rcases Int.lt_trichotomy x y with h|h|h
 .have b:lH x y = -1:=T0 h;rw[b];clear b;go_enter func157,ntmps157;go_wp2_with (go_at_call 221;refine(qI _ _).mono ?_;rintro e j ⟨rfl,rfl⟩);go_ret;exact⟨O,O⟩
 .subst h;have b:lH x x=0:=by simp[lH]
  rw[b];clear b;have m:¬x<x:=Int.lt_irrefl x;go_enter func157,ntmps157;go_wp2_with (go_at_call 221;refine(qI _ _).mono ?_;rintro e j ⟨rfl,rfl⟩);go_ret;exact⟨O,O⟩
 .have l:¬x<y:=by omega
  have b:lH x y=1:=by unfold lH;rw[TZ l,T0 h]
  rw[b];clear b;go_enter func157,ntmps157;go_wp2_with (go_at_call 221;refine(qI _ _).mono ?_;rintro e j ⟨rfl,rfl⟩);go_ret;exact⟨O,O⟩
theorem ij(a v y:Int)(w:WR):WT prog 156 #[.agg #[Z .i32 a,Z Y v],Z .i32 y] w λe b=>e=WZ (Z Y (lH a y))/\WQ w b:=by
 go_enter func156,ntmps156;go_wp2_with (go_at_call 157;refine(zi _ _ _).mono ?_;rintro e b ⟨rfl,rfl⟩);go_ret;exact⟨O,WO.alloc WN _⟩
def iu(w:WR)(p:Option Addr)(T:Sp.Tb):Prop := ∀j (h:j<Xg T),∃g,p=S ⟨g,0,U⟩/\w.cell? ⟨g,j*2,U⟩=S (Z .i32 (T[j]).1)/\w.cell? ⟨g,j*2+1,U⟩=S (Z Y (T[j]).2)
theorem iu.below{w w':WR}{p:Option Addr}{T:Sp.Tb}(h:iu w p T)(hb:WQ w w'):iu w' p T:=λj m=>by
 obtain⟨g,e,b,l⟩:=h j m;exact⟨g,e,(hb.cell (Ui w _ b)).trans b,(hb.cell (Ui w _ l)).trans l⟩
theorem mu(p:Option Addr)(cap:Nat)(T:Sp.Tb)(y:Int)(w:WR)(h:iu w p T)(W:Sp.di T)(hl:Xg T<=100000):WT prog 155 #[J p (Xg T) cap,Z .i32 y,.func (.func 156) #[] #[]] w λe X=>e=WZ (WX #[Z Y (Sp.dw T y:Nat),WW (Sp.dF T y)])/\WQ w X:=by
 go_enter func155,ntmps155;go_wp2
 go_loopw [9,10] (λa b wr=>∃i j:Nat,i<=j/\j<=Xg T/\a=Z Y i/\b=Z Y j/\WQ w wr/\(∀k (F:k<Xg T),k<i->(T[k]).1<y)/\(∀k (F:k<Xg T),j<=k->y<=(T[k]).1)) (λa b _=>(intOf b-intOf a).toNat)
 case atStart=>exact⟨0,Xg T,Ud _,TY _,rfl,rfl,T4 _ _,λk F h=>by omega,λk F h=>by omega⟩
 case round =>
  obtain⟨i,j,af,hj,rfl,rfl,r,G,I⟩:=hrel;have L:=cT G;have M:=cT I;clear G I;by_cases ag:i<j
  .have q:(i+j)/2<Xg T:=by omega
   have ah:i<=(i+j)/2:=by omega
   have ai:(i+j)/2<j:=by omega
   have ae:(i:Int)<(j:Int):=by omega
   obtain⟨g,t,s,o⟩:=(h.below r) ((i+j)/2) (by omega)
   subst t;obtain⟨x,u⟩:∃x,(T[(i+j)/2]).1=x:=⟨_,rfl⟩
   obtain⟨v,N⟩:∃x,(T[(i+j)/2]).2=x:=⟨_,rfl⟩
   rw[u] at s;rw[N] at o;have P:=cT u;clear u N;by_cases l:x<y
   .have Q:Hid (lH x y = -1):=T0 l;clear l;go_wp2_with (go_at_call 156;refine(ij _ _ _ _).mono ?_;rintro e X ⟨rfl,m⟩;rw[cS Q]);go_roundw
    case rel =>
     refine⟨(i+j)/2+1,j,by omega,hj,by go_num,O,r.trans (m.mono r.size),λk F aa=>?_,cS M⟩;have R:=Sp.fe W (i:=k) (j:=(i+j)/2) (by omega) q;have h2:=cS P;have h3:¬ ¬x<y:=λhn=>by have:=cS Q;unfold lH at this;rw[TZ hn] at this;split at this <;> omega
     omega
    case measure=>simp[intOf];omega
   .have Q:Hid (0<=lH x y):=by show _<=_;unfold lH;rw[TZ l];split <;> omega
    have ab:=cT l;clear l;obtain⟨c,z⟩:∃c,lH x y=c:=⟨_,rfl⟩
    rw[z] at Q;have A:=cT z;have aj:0<=c:=cS Q;clear z;go_wp2_with (go_at_call 156;refine(ij _ _ _ _).mono ?_;rintro e X ⟨rfl,m⟩;rw[cS A]);go_roundw
    case rel =>
     refine⟨i,(i+j)/2,by omega,by omega,O,by go_num,r.trans (m.mono r.size),cS L,λk F aa=>?_⟩;have R:=Sp.fe W (i:=(i+j)/2) (j:=k) (by omega) F;have h2:=cS P;have h3:=cS ab;omega
    case measure=>simp[intOf];omega
  .have ad:j=i:=by omega
   subst ad;have B:Hid (Sp.dw T y=j):=Sp.jO hj (cS L) (cS M);by_cases C:j<Xg T
   .have V:(j:Int)<(Xg T:Int):=by omega
    obtain⟨g,t,s,o⟩:=(h.below r) j C;subst t;have HH:=cT (Sp.iR W y);obtain⟨x,u⟩:∃x,(T[j]).1=x:=⟨_,rfl⟩
    obtain⟨v,N⟩:∃x,(T[j]).2=x:=⟨_,rfl⟩
    rw[u] at s;rw[N] at o;have P:=cT u;clear u N;obtain⟨c,z⟩:∃c,lH x y=c:=⟨_,rfl⟩
    have A:=cT z;have HE:Hid (Sp.dF T y=(c == 0)):=by
     show _=_
     have R:(c == 0)=decide (x=y):=by
      rw[<-z];unfold lH;rcases Int.lt_trichotomy x y with h|h|h
      .rw[T0 h,Uu (by omega)];rfl
      .subst h;simp
      .rw[TZ (by omega),T0 h,Uu (by omega)];rfl
     rw[R];apply Bool.eq_iff_iff.2;rw[cS HH,decide_eq_true_iff];constructor
     .rintro⟨hq,e⟩;have e2:T[Sp.dw T y]=T[j]:=by congr 1 <;> exact cS B
      rw[e2] at e;rw[<-e];exact(cS P).symm
     .intro e;have e2:T[Sp.dw T y]'(by rw[cS B];exact C)=T[j]:=by congr 1 <;> exact cS B
      exact⟨by rw[cS B];exact C,by rw[e2];exact(cS P).trans e⟩
    clear z;go_wp2_with (go_at_call 156;refine(ij _ _ _ _).mono ?_;rintro e X ⟨rfl,m⟩;rw[cS A]);exact T8 (v := WX #[Z Y j,WW (c == 0)]) (by simp[results,results155,go_sem]) O ⟨by rw[cS B,cS HE],r.trans (m.mono r.size)⟩
   .have V:¬(j:Int)<(Xg T:Int):=by omega
    have ak:(Xg T:Int)<=(j:Int):=by omega
    have HE:Hid (Sp.dF T y=W9):=by
     show _=_
     cases hq:Sp.dF T y with
     |false=>rfl
     |true=>obtain⟨R,_⟩:=(Sp.iR W y).1 hq;rw[cS B] at R;omega
    go_wp2;exact T8 (v := WX #[Z Y j,WW W9]) (by simp[results,results155,go_sem]) O ⟨by rw[cS B,cS HE],r⟩
end
section
def cU(T:Sp.Tb):List WS:=T.flatMap λp=>[Z .i32 p.1,Z Y p.2]
theorem eJ(T:Sp.Tb):(cU T).length=Xg T*2:=by
 induction T with
 |nil=>rfl
 |cons p t b=>simp[cU] at b ⊢;omega
theorem ki(A B:Sp.Tb):cU (A++B)=cU A++cU B:=by simp[cU]
theorem mX(T:Sp.Tb):∀j (h:j<Xg T),(cU T)[j*2]?=S (Z .i32 (T[j]).1)/\(cU T)[j*2+1]?=S (Z Y (T[j]).2):=by
 induction T with
 |nil=>intro j h;simp at h
 |cons p t b =>
  intro j h;have e:cU (p::t)=Z .i32 p.1::Z Y p.2::cU t:=by simp[cU]
  rw[e];cases j with
  |zero=>simp
  |succ j =>
   have:=b j (by simpa using h);rw[show (j+1)*2=j*2+1+1 by omega];simpa using this
theorem my(T:Sp.Tb):∀u∈cU T,u.oneCell'=W8:=by
 intro u hu;obtain⟨p,_,b⟩:=Vv.1 hu;simp at b;rcases b with rfl|rfl <;> rfl
def oB(w:WR)(B t:Nat)(T:Sp.Tb):Prop :=
 ∃v,w.heap[t]?=S (D #[v] 207 (0,0))/\w.ownsRow B 265 2 v (Xg T) (cU T)
variable {w:WR}
theorem dS{B:Nat}{v:WS}{T:Sp.Tb}(h:w.ownsRow B 265 2 v (Xg T) (cU T)): ∃p b,v=J p (Xg T) b/\iu w p T:=by
 have m:=h;rcases h.2 with ⟨e,r⟩|⟨g,b,u,e,_⟩
 .subst e;refine⟨U,0,by rw[r],λj l=>by omega⟩
 .subst e;refine⟨S ⟨g,0,U⟩,b,O,λj l=>⟨g,O,?_,?_⟩⟩
  .rw[m.cellAt _ (by omega)];exact(mX T j l).1
  .rw[m.cellAt _ (by omega)];exact(mX T j l).2
theorem oB.below{w':WR}{B t:Nat}{T:Sp.Tb}(h:oB w B t T)(hb:WQ w w'): oB w' B t T:=by
 obtain⟨v,b,e⟩:=h;exact⟨v,(hb.block t (UW b)).trans b,dd e hb⟩
theorem rV{t:Nat}{v:WS}{e:TypeId}(h:w.heap[t]?=S (D #[v] e (0,0))): w.cell? ⟨t,0,U⟩=S v:=by
 rw[T5 w t 0 _ _ _ h];rfl
theorem nV(t B:Nat)(T:Sp.Tb)(y:Int)(w:WR)(h:oB w B t T)(r:Sp.di T)(u:Xg T<=100000):WT prog 103 #[WV (S ⟨t,0,U⟩),Z .i32 y] w λe j=>e=WZ (WX #[Z Y (Sp.dw T y:Nat),WW (Sp.dF T y)])/\WQ w j:=by
 obtain⟨v,l,m⟩:=h;obtain⟨p,b,rfl,z⟩:=dS m;have C:=rV l;clear l m;go_enter func103,ntmps103;go_wp2_with fail;refine(mu p b T y w z r u).mono ?_;rintro e j ⟨rfl,A⟩;go_wp2;exact T8 (v := WX #[Z Y (Sp.dw T y:Nat),WW (Sp.dF T y)]) (by simp[results,results103,go_sem]) O ⟨O,A⟩
theorem va(t B:Nat)(T:Sp.Tb)(w:WR)(h:oB w B t T):WT prog 66 #[WV (S ⟨t,0,U⟩)] w λe l=>e=WZ (Z Y (Xg T))/\l=w:=by
 obtain⟨v,b,j⟩:=h;obtain⟨p,m,rfl,r⟩:=dS j;have u:=rV b;clear b j;go_enter func66,ntmps66;go_wp2;go_ret;exact⟨O,O⟩
end
section
theorem info_entry:(prog.info? 265).map (λi=>(i.zero,i.size,i.bytes))=S (S (.agg #[Z .i32 0,Z Y 0]),2,16):=by kernel_rfl
section
variable {α : Type}
def kA(L:List α)(o:Nat)(c:List α):List α:=L.take o++c++L.drop (o+Xg c)
theorem fZ(L:List α)(o:Nat)(c:List α)(h:o+Xg c<=Xg L):(kA L o c).length=Xg L:=by simp[kA];omega
theorem rP(L:List α)(o:Nat)(V b:List α)(n:Nat)(h1:o+Xg V+Xg b<=Xg L):(kA (kA L (o+Xg V) b) o V).take (o+Xg V+Xg b)=L.take o++V++b:=by
 have e:(kA L (o+Xg V) b).take o=L.take o:=by
  unfold kA;rw[UO,Vk (by simp;omega),Vx,V2 (by omega)]
 have j:(kA L (o+Xg V) b).drop (o+Xg V)=b++L.drop (o+Xg V+Xg b):=by
  unfold kA;rw[UO,Wx (by simp;omega),VA (by simp;omega),U2]
 show (List.take o _++V++List.drop (o+Xg V) _).take _=_
 rw[e,j,<-UO,Vk (by simp;omega),Vc (by simp;omega)]
theorem r7(L:List α)(o:Nat)(V b:List α)(h1:o+Xg V+Xg b<=Xg L):(kA (kA L o V) (o+Xg V) b).take (o+Xg V+Xg b)=L.take o++V++b:=by
 have e:(kA L o V).take (o+Xg V)=L.take o++V:=by
  unfold kA;rw[Vk (by simp;omega),Vc (by simp;omega)]
 show (List.take _ _++b++List.drop _ _).take _=_
 rw[e,Vk (by simp;omega),Vc (by simp;omega)]
end
theorem oa(T:Sp.Tb)(i:Nat):(cU T).take (i*2)=cU (T.take i):=by
 induction T generalizing i with
 |nil=>simp[cU]
 |cons p t b =>
  cases i with
  |zero=>simp[cU]
  |succ i =>
   have e:cU (p::t)=Z .i32 p.1::Z Y p.2::cU t:=by simp[cU]
   rw[e,show (i+1)*2=i*2+1+1 by omega,VF,VF,b];simp[cU]
theorem od(T:Sp.Tb)(i:Nat):(cU T).drop (i*2)=cU (T.drop i):=by
 induction T generalizing i with
 |nil=>simp[cU]
 |cons p t b =>
  cases i with
  |zero=>simp
  |succ i =>
   have e:cU (p::t)=Z .i32 p.1::Z Y p.2::cU t:=by simp[cU]
   rw[e,show (i+1)*2=i*2+1+1 by omega,V3,V3,b];simp
theorem oP(T:Sp.Tb)(i:Nat)(a b:Int):(cU T).take (i*2)++[Z .i32 a,Z Y b]++(cU T).drop (i*2)=cU (T.take i++(a,b)::T.drop i):=by
 rw[oa,od,ki];simp[cU]
def ie(w:WR)(B:Nat)(v:WS)(T:Sp.Tb)(i:Nat)(a b:Int)(e:Ending)(w':WR):Prop :=
 ∃j,e=WZ j/\w'.ownsRow B 265 2 j (Xg T+1) (cU (T.take i++(a,b)::T.drop i))/\w.grownBy w' v.ownBlock
theorem mn(B x:Nat)(v:WS)(T:Sp.Tb)(a b:Int)(w:WR)(Q:B<=K (E w))(h:w.ownsRow B 265 2 v (Xg T) (cU T))(hl:Xg T<=100000)(R:w.heap[x]?=S (D #[Z .i32 a,Z Y b] 265 (0,0))):WT prog 154 #[v,Z Y (Xg T),J (S ⟨x,0,U⟩) 1 1] w (ie w B v T (Xg T) a b):=by
 obtain⟨V,hi,z,A,C⟩:=UB info_entry;obtain⟨p,m,rfl,G⟩:=dm h;have W:Xg T<=m:=by
  rcases h.2 with ⟨r,I⟩|⟨g,F,L,r,_,_,I,_⟩
  .omega
  .injection r with _ _ r;omega
 have t:m<=9223372036854775807:=by
  rcases h.2 with ⟨r,I⟩|⟨g,F,L,r,_,_,I,s,_⟩
  .injection r with _ _ r;omega
  .injection r with _ _ r;unfold maxLen at s;omega
 clear G;have X:w.cell? ⟨x,0,U⟩=S (Z .i32 a):=by rw[T5 w x 0 _ _ _ R];rfl
 have q:w.cell? ⟨x,1,U⟩=S (Z Y b):=by rw[T5 w x 1 _ _ _ R];rfl
 by_cases M:m=Xg T
 .subst M;go_enter func154,ntmps154;go_wp2_with (first
   | (at_builtin;go_must (refine VZ _ O (.tmp 23) (.tmp 24) 205 O B 265 V _ 2 16 underlying205 hi z A C O (by decide) _ _ _ O h ⟨x,0,U⟩ 1 1 [Z .i32 a,Z Y b] O O ?c1 ?c2 ?c3 ?c4 ?c5 ?_))
   |go_in)
  case c1 =>
   intro j u l
   match j,l with
   |0,l=>simp at l;subst l;simpa [Addr.add] using X
   |1,l=>simp at l;subst l;simpa [Addr.add] using q
  case c2=>intro u hu;simp at hu;rcases hu with rfl | rfl <;> rfl
  case c3=>unfold maxLen;omega
  case c4=>omega
  case c5=>exact Q
  intro N w3 P y _;go_wp2;go_ret;refine⟨N,O,?_,y⟩;have e:cU (T.take (Xg T)++(a,b)::T.drop (Xg T))=cU T++[Z .i32 a,Z Y b]:=by simp[cU]
  rw[e];exact P
 .have o:Xg T<m:=by omega
  go_enter func154,ntmps154;go_wp2_with (first
   | (at_builtin;go_must (refine VZ _ O (.tmp 23) (.tmp 24) 205 O B 265 V _ 2 16 underlying205 hi z A C O (by decide) _ _ _ O h ⟨x,0,U⟩ 1 1 [Z .i32 a,Z Y b] O O ?c1 ?c2 ?c3 ?c4 ?c5 ?_))
   |go_in)
  case c1 =>
   intro j u l
   match j,l with
   |0,l=>simp at l;subst l;simpa [Addr.add] using X
   |1,l=>simp at l;subst l;simpa [Addr.add] using q
  case c2=>intro u hu;simp at hu;rcases hu with rfl | rfl <;> rfl
  case c3=>unfold maxLen;omega
  case c4=>omega
  case c5=>exact Q
  intro N w3 P y _;go_wp2;go_ret;refine⟨N,O,?_,y⟩;have e:cU (T.take (Xg T)++(a,b)::T.drop (Xg T))=cU T++[Z .i32 a,Z Y b]:=by simp[cU]
  rw[e];exact P
end
section
theorem gK:(prog.info? 265).map (·.size)=S 2:=by
 obtain⟨l,hi,e,b,j⟩:=UB info_entry;rw[hi];simp[b]
theorem nW(w:WR):(Go.sizeOf 265).run prog w=.ok 2 w:=by
 obtain⟨l,hi,e,b,j⟩:=UB info_entry;simp[sizeOf,typeInfo,hi,b]
theorem oC(w:WR)(x g o lb r:Nat)(a b:Int)(j:Array WS)(l:x≠g)(m:w.heap[x]?=S (D #[Z .i32 a,Z Y b] 265 (0,0)))(u:w.heap[g]?=S (D j 265 (0,0)))(y:j.size≠0):(callFunc 219 #[J (S ⟨x,0,U⟩) 1 1,J (S ⟨g,o,U⟩) lb r]).run prog w=.ok (.value (WW W9)) w:=by
 rw[run_callFunc_extern func219 (by kernel_rfl) (by kernel_rfl) (by kernel_rfl) (e:=Extern.SlicesOverlaps.overlaps #[205,205] #[4]) (by kernel_rfl),
  Lib.run_overlaps_apart w 205 4 265 underlying205 2 nW ⟨x,0,U⟩ ⟨g,o,U⟩ 1 1 lb r l 265 265 2 j.size (by simp[World.shape?,m]) (by simp[World.shape?,u]) y (by simp[World.frozen?,m]) (by simp[World.frozen?,m])]
 rfl
theorem kP(B x g cap i:Nat)(m:Array WS)(T:Sp.Tb)(a b:Int)(w:WR)(hi:i<Xg T)(hB:B<=g)(q:Xg T+1<=cap)(ab:cap<=maxLen)(hl:Xg T<=100000)(ad:x≠g)(hg:w.heap[g]?=S (D m 265 (0,0)))(ae:m.size=cap*2)(r:m.toList.take (Xg T*2)=cU T)(hx:w.heap[x]?=S (D #[Z .i32 a,Z Y b] 265 (0,0))):WT prog 154 #[J (S ⟨g,0,U⟩) (Xg T) cap,Z Y i,J (S ⟨x,0,U⟩) 1 1] w (ie w B (J (S ⟨g,0,U⟩) (Xg T) cap) T i a b):=by
 have ak:∀o lb cb,(callFunc 219 #[J (S ⟨x,0,U⟩) 1 1,J (S ⟨g,o,U⟩) lb cb]).run prog w=.ok (.value (WW W9)) w:=λo lb cb=>oC w x g o lb cb a b m ad hx hg (by omega)
 obtain⟨l,hD⟩:∃l,l=(cU T).drop (i*2):=⟨_,rfl⟩
 obtain⟨V,y⟩:∃V:List WS,V=[Z .i32 a,Z Y b]:=⟨_,rfl⟩
 have af:Xg l=(Xg T-i)*2:=by rw[hD,Vb,eJ];omega
 have an:Xg V=2:=by rw[y];rfl
 have ag:Xg m.toList=cap*2:=by simpa using ae
 obtain⟨A,C⟩:∃A,A=kA m.toList (i*2+Xg V) l:=⟨_,rfl⟩
 obtain⟨t,F⟩:∃t,t=kA A (i*2) V:=⟨_,rfl⟩
 have I:Xg A=cap*2:=by rw[C,fZ _ _ _ (by omega)];exact ag
 have L:Xg t=cap*2:=by rw[F,fZ _ _ _ (by omega)];exact I
 have M:t.take ((Xg T+1)*2)=cU (T.take i++(a,b)::T.drop i):=by
  have e:=rP m.toList (i*2) V l 0 (by omega);rw[<-C,<-F] at e;have e2:i*2+Xg V+Xg l=(Xg T+1)*2:=by omega
  rw[e2] at e;rw[e,<-oP,<-y,<-hD]
  congr 2
  rw[<-r,Vx,V2 (by omega)]
 have z:∀j v,l[j]?=S v->w.cell? ⟨g,i*2+j,U⟩=S v:=λj v N=>by
  have ar:j<Xg l:=(VU.1 N).1;rw[T5 w g _ _ _ _ hg];rw[hD,<-r,VG,VP,T0 (by omega)] at N;simpa using N
 have ah:∀v∈l,v.oneCell'=W8:=λv hv=>my T v (by rw[hD] at hv;exact VC hv)
 have Q:∀s p sc,(Builtin.copy_ #[205,205] s #[J (S ⟨g,(i+1)*2,U⟩) (Xg T+1-(i+1)) p,J (S ⟨g,i*2,U⟩) (Xg T+1-i) sc]).run prog w.drew=.ok (goInt ((Xg T-i:Nat):Int)) (w.drew.setRow g A.toArray):=λs p sc=>by
  have h:=ez (P:=prog) w.drew 205 205 s 265 2 g ((i+1)*2) (Xg T+1-(i+1)) p ⟨g,i*2,U⟩ (Xg T+1-i) sc m 265 l underlying205 gK hg (Xg T-i) (by simp only[VQ];split <;> omega) af
   (λj v N=>by rw[Vo];exact z j v N) (by omega) ah
  rw[h,C];unfold kA;rw[show i*2+Xg V=(i+1)*2 by omega]
 have G:(w.drew.setRow g A.toArray).heap[g]?=S (D A.toArray 265 (0,0)):=U8 w.drew g m _ _ _ hg;have aa:(w.drew.setRow g A.toArray).heap[x]?=S (D #[Z .i32 a,Z Y b] 265 (0,0)):=by
  rw[U5 w.drew g x _ ad];exact hx
 obtain⟨W1,u⟩:∃W1,W1=w.drew.setRow g A.toArray:=⟨_,rfl⟩
 rw[<-u] at Q G aa;have ai:∀(W:WR),W=W1->∀s p,(Builtin.copy_ #[205,205] s #[J (S ⟨g,i*2,U⟩) (Xg T+1-i) p,J (S ⟨x,0,U⟩) 1 1]).run prog W=.ok (goInt 1) (W1.setRow g t.toArray):=λW hW s p=>by
  subst hW;have h:=ez (P:=prog) W 205 205 s 265 2 g (i*2) (Xg T+1-i) p ⟨x,0,U⟩ 1 1 A.toArray 265 V underlying205 gK G 1 (by simp only[VQ];split <;> omega) (by omega)
   (λj v N=>by
     rw[Vo,T5 W x _ _ _ _ aa];rw[y] at N;simpa using N) (by simp;omega) (by rw[y];intro v hv;simp at hv;rcases hv with rfl|rfl <;> rfl)
  rw[h,F]
  rfl
 have R:∀W,W=W1.setRow g t.toArray->W.ownsRow B 265 2 (J (S ⟨g,0,U⟩) (Xg T+1) cap) (Xg T+1) (cU (T.take i++(a,b)::T.drop i))/\w.grownBy W (Value.ownBlock (J (S ⟨g,0,U⟩) (Xg T) cap)):=λW hW=>by
  rw[hW];refine⟨⟨by rw[eJ];simp;omega,.inr ⟨g,cap,t.toArray,O,hB,U8 W1 g _ _ _ _ G,q,ab,by simpa using L,by simpa using M⟩⟩,?_⟩;refine⟨by rw[u];rfl,by rw[u];rfl,by rw[u];rfl,by rw[u];simp[World.setRow],λk hk ao=>?_⟩;have X:k≠g:=λe=>ao (by rw[e];rfl)
  rw[U5 W1 g k _ X,u,U5 w.drew g k _ X];rfl
 have aj:=cT R;unfold maxLen at ab;have au:IntKind.i64.wrap ((i:Int)+1)=(i:Int)+1:=by rw[Uy];omega
 have av:(0:Int)<=(i:Int)+1:=by omega
 have aw:i<=Xg T:=by omega
 have aq:(i:Int)<=(Xg T:Int):=by omega
 have ax:((i:Int)+1).toNat=i+1:=by omega
 have ay:(i:Int)<=(Xg T:Int)+1:=by omega
 have az:¬((i:Int)=(Xg T:Int)):=by omega
 have aA:¬((cap:Int)<(Xg T:Int)+1):=by omega
 have aB:¬(cap=i+1):=by omega
 have aC:¬(cap=i):=by omega
 clear R M z ah hD y af an ag C F I L hg hx ae r G aa u;go_enter func154,ntmps154;go_wp2_with (simp only[ak])
 go_region_law (refine step_copy_runI O (.tmp 73) (.tmp 76) 205 205 O _ _ (by simp[Act.eval,Act.put];rfl) (by simp[Act.eval,Act.put];rfl) (Q _ _ _) ?_)
 go_wp2_with (first|(at_builtin;go_must (refine wpList_copy_runI _ rfl (.tmp 80) (.tmp 81) 205 205 rfl _ _ rfl rfl (ai _ rfl _ _) ?_))|go_in);go_wp2;go_ret;obtain⟨q1,q2⟩:=(cS aj) _ rfl;exact⟨_,O,q1,q2⟩
theorem lk(B x g cap i:Nat)(F:Array WS)(T:Sp.Tb)(a b:Int)(w:WR)(hi:i<Xg T)(hB:B<=K (E w))(af:cap=Xg T)(hl:Xg T<=100000)(hg:w.heap[g]?=S (D F 265 (0,0)))(I:F.toList.take (Xg T*2)=cU T)(av:Xg T*2<=F.size)(hx:w.heap[x]?=S (D #[Z .i32 a,Z Y b] 265 (0,0))):WT prog 154 #[J (S ⟨g,0,U⟩) (Xg T) cap,Z Y i,J (S ⟨x,0,U⟩) 1 1] w (ie w B (J (S ⟨g,0,U⟩) (Xg T) cap) T i a b):=by
 subst af;obtain⟨i0,aw,ax,ay,ag⟩:=UB info_entry;obtain⟨l,hD⟩:∃l,l=(cU T).drop (i*2):=⟨_,rfl⟩
 obtain⟨V,L⟩:∃V:List WS,V=[Z .i32 a,Z Y b]:=⟨_,rfl⟩
 have ah:Xg l=(Xg T-i)*2:=by rw[hD,Vb,eJ];omega
 have az:Xg V=2:=by rw[L];rfl
 have y:∀j v,(cU T)[j]?=S v->w.cell? ⟨g,j,U⟩=S v:=λj v z=>by
  have aA:j<(cU T).length:=(VU.1 z).1;rw[eJ] at aA;rw[T5 w g _ _ _ _ hg];rw[<-I,VP,T0 (by omega)] at z;simpa using z
 have ab:i+(Xg T+1-i)=Xg T+1:=by omega
 have hold:(Builtin.firstCells i0.size i (J (S ⟨g,0,U⟩) i (Xg T))).run prog w.drew=.ok ((cU T).take (i*2)).toArray w.drew:=by
  rw[ay];exact run_firstCells_some w.drew 2 i ⟨g,0,U⟩ i (Xg T) ((cU T).take (i*2)) (by rw[Vj,eJ];omega) (λj v z=>by
   rw[Vo];rw[VP] at z;split at z
   .simpa using y j v z
   .cases z)
 obtain⟨G,hG⟩:∃G,G=grownCap w (Xg T+1) (Xg T) 265:=⟨_,rfl⟩
 have aB:Xg T+1<=G:=by rw[hG];exact grownCap_ge w _ _ _
 have ai:G<=maxLen:=by rw[hG];exact grownCap_le_maxLen w _ _ _ (by unfold maxLen;omega)
 obtain⟨m,A⟩:∃m:Array WS,m=((cU T).take (i*2)).toArray++Builtin.zeroCells (Value.agg #[Z .i32 0,Z Y 0]).cells (Xg T+1-i)++Builtin.zeroCells (Value.agg #[Z .i32 0,Z Y 0]).cells (G-(Xg T+1)):=⟨_,rfl⟩
 have aj:∀M,(Builtin.append_ #[205,3] M #[J (S ⟨g,0,U⟩) i (Xg T),Z Y ((Xg T:Int)+1-(i:Int))]).run prog w =
   .ok (J (S ⟨K (E w),0,U⟩) (Xg T+1) G) (w.drew.alloc (D m 265)):=λM=>by
  have h:=Lib.run_append_grow_zeros w 205 3 M 265 i0 _ Y Y underlying205 underlying3 aw ax (S ⟨g,0,U⟩) i (Xg T) ((cU T).take (i*2)) hold (Xg T+1-i) (by omega) (by omega) (by omega) (by omega) (by rw[ag];omega) (by rw[ag,ab];exact growslice_fits (by omega) (by omega));rw[ab] at h;rw[show (Xg T:Int)+1-(i:Int)=((Xg T+1-i:Nat):Int) by omega,A,hG];exact h
 have ad:Xg m.toList=G*2:=by
  rw[A];simp[Builtin.zeroCells,Value.cells,eJ];omega
 have ak:m.toList.take (i*2)=(cU T).take (i*2):=by
  rw[A];simp only[Wd,UO];rw[Vk (by simp[eJ];omega)];exact(Vx ..).trans (by rw[Nat.min_self])
 obtain⟨q,R⟩:∃q,q=kA m.toList (i*2) V:=⟨_,rfl⟩
 obtain⟨c2,X⟩:∃c2,c2=kA q (i*2+Xg V) l:=⟨_,rfl⟩
 have t:Xg q=G*2:=by rw[R,fZ _ _ _ (by omega)];exact ad
 have s:Xg c2=G*2:=by rw[X,fZ _ _ _ (by omega)];exact t
 have p:c2.take ((Xg T+1)*2)=cU (T.take i++(a,b)::T.drop i):=by
  have e:=r7 m.toList (i*2) V l (by omega);rw[<-R,<-X] at e;have e2:i*2+Xg V+Xg l=(Xg T+1)*2:=by omega
  rw[e2] at e;rw[e,<-oP,<-L,<-hD,ak]
 have aC:g<K (E w):=UW hg;have aD:x<K (E w):=UW hx;obtain⟨N,r⟩:∃N,N=w.drew.alloc (D m 265):=⟨_,rfl⟩
 have ae:N.heap[K (E w)]?=S (D m 265 (0,0)):=by rw[r];exact T9 w.drew _
 have an:N.heap[x]?=S (D #[Z .i32 a,Z Y b] 265 (0,0)):=by rw[r,Ur w.drew _ x aD];exact hx
 have ao:N.heap[g]?=S (D F 265 (0,0)):=by rw[r,Ur w.drew _ g aC];exact hg
 rw[<-r] at aj;have o:∀W,W=N->∀M dc,(Builtin.copy_ #[205,205] M #[J (S ⟨K (E w),i*2,U⟩) (Xg T+1-i) dc,J (S ⟨x,0,U⟩) 1 1]).run prog W=.ok (goInt 1) (N.setRow (K (E w)) q.toArray):=λW hW M dc=>by
  subst hW;have h:=ez (P:=prog) W 205 205 M 265 2 (K (E w)) (i*2) (Xg T+1-i) dc ⟨x,0,U⟩ 1 1 m 265 V underlying205 gK ae 1 (by simp only[VQ];split <;> omega) (by omega)
   (λj v z=>by
     rw[Vo,T5 W x _ _ _ _ an];rw[L] at z;simpa using z) (by rw[<-Va,ad];omega) (by rw[L];intro v hv;simp at hv;rcases hv with rfl|rfl <;> rfl)
  rw[h,R]
  rfl
 obtain⟨C,u⟩:∃C,C=N.setRow (K (E w)) q.toArray:=⟨_,rfl⟩
 have Q:C.heap[K (E w)]?=S (D q.toArray 265 (0,0)):=by rw[u];exact U8 N _ _ _ _ _ ae
 have aq:C.heap[g]?=S (D F 265 (0,0)):=by rw[u,U5 N _ g _ (by omega)];exact ao
 rw[<-u] at o;have ar:∀W,W=C.drew->∀M dc sc,(Builtin.copy_ #[205,205] M #[J (S ⟨K (E w),(i+1)*2,U⟩) (Xg T+1-(i+1)) dc,J (S ⟨g,i*2,U⟩) (Xg T-i) sc]).run prog W=.ok (goInt ((Xg T-i:Nat):Int)) (C.drew.setRow (K (E w)) c2.toArray):=λW hW M dc sc=>by
  subst hW;have h:=ez (P:=prog) C.drew 205 205 M 265 2 (K (E w)) ((i+1)*2) (Xg T+1-(i+1)) dc ⟨g,i*2,U⟩ (Xg T-i) sc q.toArray 265 l underlying205 gK Q (Xg T-i) (by simp only[VQ];split <;> omega) ah
   (λj v z=>by
     rw[Vo];refine(T5 C.drew g _ _ _ _ aq).trans ?_;rw[<-T5 w g _ _ _ _ hg];exact y _ v (by rw[hD,VG] at z;exact z)) (by simp;omega) (λv hv=>my T v (by rw[hD] at hv;exact VC hv))
  rw[h,X];unfold kA;rw[show i*2+Xg V=(i+1)*2 by omega]
 have aa:∀W,W=C.drew.setRow (K (E w)) c2.toArray->W.ownsRow B 265 2 (J (S ⟨K (E w),0,U⟩) (Xg T+1) G) (Xg T+1) (cU (T.take i++(a,b)::T.drop i))/\w.grownBy W (Value.ownBlock (J (S ⟨g,0,U⟩) (Xg T) (Xg T))):=λW hW=>by
  rw[hW];refine⟨⟨by rw[eJ];simp;omega,.inr ⟨K (E w),G,c2.toArray,O,hB,U8 C.drew _ _ _ _ _ Q,aB,ai,by simpa using s,by simpa using p⟩⟩,?_⟩;refine⟨by rw[u,r];rfl,by rw[u,r];rfl,by rw[u,r];rfl,by rw[u,r];simp[World.setRow],λk hk aG=>?_⟩;rw[U5 C.drew _ k _ (by omega)]
  show C.heap[k]?=_
  rw[u,U5 N _ k _ (by omega),r,Ur w.drew _ k hk];rfl
 have au:=cT aa;unfold maxLen at ai;have aH:IntKind.i64.wrap ((i:Int)+1)=(i:Int)+1:=by rw[Uy];omega
 have aI:(0:Int)<=(i:Int)+1:=by omega
 have aJ:i<=Xg T:=by omega
 have aE:(i:Int)<=(Xg T:Int):=by omega
 have aK:((i:Int)+1).toNat=i+1:=by omega
 have aL:(i:Int)<=(Xg T:Int)+1:=by omega
 have aM:¬((i:Int)=(Xg T:Int)):=by omega
 have aN:¬(G=i):=by omega
 have aF:¬(G=i+1):=by omega
 have aO:¬(Xg T=i):=by omega
 clear aa p y hD L ah az R X t s hg hx av I ao an r u ae Q aq ad ak A hG hold ab;go_enter func154,ntmps154;go_wp2_with (first
  | (at_builtin;refine Lib.wpList_append_run _ O (.tmp 34) (.tmp 39) _ _ O _ _ O O _ _ (aj _) ?_)
  | (at_builtin;refine wpList_copy_runI _ O (.tmp 43) (.tmp 44) 205 205 O _ _ O O (o _ O _ _) ?_))
 go_region_law (refine step_copy_runI O (.tmp 50) (.tmp 53) 205 205 O _ _ (by simp[Act.eval,Act.put];rfl) (by simp[Act.eval,Act.put];rfl) (ar _ O _ _ _) ?_)
 go_wp2;go_ret;obtain⟨q1,q2⟩:=(cS au) _ rfl;exact⟨_,O,q1,q2⟩
end
section
theorem mz(B x:Nat)(v:WS)(T:Sp.Tb)(i:Nat)(a b:Int)(w:WR)(hi:i<=Xg T)(G:B<=K (E w))(h:w.ownsRow B 265 2 v (Xg T) (cU T))(u:Xg T<=100000)(y:v.ownBlock≠S x)(z:w.heap[x]?=S (D #[Z .i32 a,Z Y b] 265 (0,0))):WT prog 154 #[v,Z Y i,J (S ⟨x,0,U⟩) 1 1] w (ie w B v T i a b):=by
 by_cases L:i=Xg T
 .subst L;exact mn B x v T a b w G h u z
 .rcases h.2 with ⟨I,P⟩|⟨g,l,m,I,A,r,M,C,F,j⟩
  .omega
  .subst I;by_cases N:Xg T+1<=l
   .exact kP B x g l i m T a b w (by omega) A N C u (λe=>y (by rw[e];rfl)) r F j z
   .exact lk B x g l i m T a b w (by omega) G (by omega) u r j (by omega) z
def MY(t B:Nat)(T:Sp.Tb)(y v:Int)(w:WR)(e:Ending)(w':WR):Prop:=Below t w w'/\e=WZ (WW (!Sp.dF T y))/\oB w' B t (if Sp.dF T y=W8 then T else Sp.gJ T y v)
theorem n8(t B:Nat)(T:Sp.Tb)(y v:Int)(w:WR)(h:oB w B t T)(s:Sp.di T)(ht:t<B)(o:B<=K (E w))(Q:Xg T<=100000):WT prog 102 #[WV (S ⟨t,0,U⟩),Z .i32 y,Z Y v] w (MY t B T y v w):=by
 cases hh:Sp.dF T y with
 |true =>
  have m:=cT hh;have b:=cT h;clear hh h;go_enter func102,ntmps102;go_wp2_with fail;refine(nV t B T y w (cS b) s Q).mono ?_;rintro e w' ⟨rfl,z⟩;rw[cS m];go_wp2;go_ret;refine⟨z.mono (by omega),by rw[cS m];rfl,?_⟩;rw[T0 (cS m)];exact(cS b).below z
 |false =>
  have m:=cT hh;have b:=cT h;clear hh h;go_enter func102,ntmps102;go_wp2_with fail;refine(nV t B T y w (cS b) s Q).mono ?_;rintro e A ⟨rfl,z⟩;rw[cS m];obtain⟨u,hu,R⟩:=(cS b).below z;have g:=rV hu;have aa:B<=K (E A):=Uc o z.size;have V:t<K (E A):=by omega
  have C:(A.alloc (D #[Z .i32 y,Z Y v] 265)).heap[t]?=S (D #[u] 207 (0,0)):=by rw[Ur _ _ _ V];exact hu
  have W:=cT C;have N:=cT R;have r:=dm R;obtain⟨p,F,rfl,_⟩:=r;have G:=Sp.lT T y;clear hu R C;go_wp2_with fail;refine(mz B (K (E A)) (J p (Xg T) F) T (Sp.dw T y) y v _ G (by simp;omega) ((cS N).alloc _) Q (λI=>by have:=((cS N).lt _ I).2;omega) (T9 A _)).mono ?_;rintro e P ⟨v',rfl,L,j⟩;have l:P.heap[t]?=S (D #[J p (Xg T) F] 207 (0,0)):=by
   rw[j.block t (by simp;omega) (λI=>by have:=((cS N).lt _ I.symm).1;omega)];exact cS W
  have ab:=rV l;have ad:P.frozen? ⟨t,0,U⟩=W9:=by simp[World.frozen?,l]
  obtain⟨p',M,rfl,_⟩:=dm L;have X:=cT l;clear l g;go_wp2;go_ret;have q:Below t w P:=(z.mono (by omega)).trans ⟨j.os,j.tape,j.output,by have:=j.size;simp at this;omega,λk hk=>by
   rw[j.block k (by simp;omega) (λI=>by have:=((cS N).lt _ I.symm).1;omega),Ur _ _ _ (by omega)]⟩
  refine⟨q.setCell WN _,by rw[cS m];rfl,?_⟩;rw[TZ (by rw[cS m];decide)];refine⟨J p' (Xg T+1) M,?_,?_⟩
  .rw[Ue P t 0 _ _ _ (cS X)];rfl
  .rw[Sp.iP];exact Um L ht _
end
end Go.Proofs.YtgkkdpegcieakaaGreatDoor
