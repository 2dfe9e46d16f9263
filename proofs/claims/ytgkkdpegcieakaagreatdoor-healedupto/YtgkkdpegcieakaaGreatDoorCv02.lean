import Derived.Test.YtgkkdpegcieakaaGreatDoorCv01
set_option linter.all false
set_option maxRecDepth 100000
set_option maxHeartbeats 0
namespace Go.Proofs.YtgkkdpegcieakaaGreatDoor
open Go.Proofs.Tryz
open Value renaming int→Z,slice→J,string→H,pointer→V9,bool→Wa,tuple→Wb
open Ending renaming returned→Wd
open Obj renaming cells→D
open Option renaming none→U,some→S
open Bool renaming true→We,false→Wg
open Or renaming inl→Wh,inr→Wi
open List renaming length→Wn
open _root_.Array renaming size→N
open World renaming heap→E
open IntKind renaming i64→Y
open Go renaming World→V5,Value→V6,Calls→V7
open Go.RowKit
def iG(r:Int):Bool:=decide (¬(r=32\/r=62))
theorem gi(r:Int)(w:V5):V7 prog 216 #[Z .i32 r] w λe m=>e=Wd (Wa (iG r))/\m=w:=by
 by_cases j:r=32
 .have b:iG r=Wg:=by simp[iG,j]
  have u:(r != 32)=Wg:=by simp[j]
  rw[b];clear j b;go_enter func216,ntmps216;go_wp2;go_ret;exact⟨O,O⟩
 .have u:(r != 32)=We:=by simp[j]
  by_cases l:r=62
  .have b:iG r=Wg:=by simp[iG,l]
   have y:(r != 62)=Wg:=by simp[l]
   rw[b];clear j l b;go_enter func216,ntmps216;go_wp2;go_ret;exact⟨O,O⟩
  .have b:iG r=We:=by simp[iG,j,l]
   have y:(r != 62)=We:=by simp[l]
   rw[b];clear j l b;go_enter func216,ntmps216;go_wp2;go_ret;exact⟨O,O⟩
def zn(r:List Int):Bool:=decide (2<=Wn r)&&(iG (r.getD 0 0)&&(r.getD 1 0 == 32))
def Cj(r:List Int):Bool:=decide (4<=Wn r)&&(iG (r.getD 0 0)&&((r.getD 1 0 == 62)&&(iG (r.getD 2 0)&&(r.getD 3 0 == 32))))
theorem iK{w:V5}{k:IntKind}{p:Option Addr}{V:List Int}(h:fG w k p V)(j:Nat)(e:j<Wn V):∃g,p=S ⟨g,0,U⟩/\w.cell? ⟨g,j,U⟩=S (Z k (V.getD j 0)):=by
 obtain⟨g,a,_,b⟩:=h j e;exact⟨g,a,by rw[b];simp[e]⟩
theorem iB(p:Option Addr)(cap:Nat)(r:List Int)(w:V5)(h:fG w .i32 p r)(F:Wn r<=5000):V7 prog 151 #[J p (Wn r) cap] w λe u=>e=Wd (Wa (zn r))/\u=w:=by
 by_cases A:2<=Wn r
 .obtain⟨g,rfl,B⟩:=iK h 0 (by omega);obtain⟨G,j,C⟩:=iK h 1 (by omega);injection j with j;injection j with j;subst j;have l:zn r=(iG (r.getD 0 0)&&(r.getD 1 0 == 32)):=by unfold zn;rw[TU A];rfl
  rw[l];clear l h;generalize r.getD 0 0=a at B;generalize r.getD 1 0=b at C;have y:2<=((Wn r:Nat):Int):=by omega
  have I:(0:Int)<((Wn r:Nat):Int):=by omega
  have K:(1:Int)<((Wn r:Nat):Int):=by omega
  cases m:iG a with
  |false =>
   have z:=cU m;clear m;go_enter func151,ntmps151;go_wp2_with (go_at_call 216;refine(gi _ _).mono ?_;rintro e u ⟨rfl,rfl⟩;rw[cT z]);go_ret;exact⟨O,O⟩
  |true =>
   have z:=cU m;clear m;go_enter func151,ntmps151;go_wp2_with (go_at_call 216;refine(gi _ _).mono ?_;rintro e u ⟨rfl,rfl⟩;rw[cT z]);go_ret;exact⟨O,O⟩
 .have l:zn r=Wg:=by unfold zn;rw[TE A];rfl
  rw[l];have y:((Wn r:Nat):Int)<2:=by omega
  go_enter func151,ntmps151;go_wp2;go_ret;exact⟨O,O⟩
theorem n5(p:Option Addr)(cap:Nat)(r:List Int)(w:V5)(h:fG w .i32 p r)(I:Wn r<=5000):V7 prog 153 #[J p (Wn r) cap] w λe j=>e=Wd (Wa (Cj r))/\j=w:=by
 by_cases A:4<=Wn r
 .obtain⟨g,rfl,B⟩:=iK h 0 (by omega);obtain⟨K,l,C⟩:=iK h 1 (by omega);injection l with l;injection l with l;subst l;obtain⟨L,m,F⟩:=iK h 2 (by omega);injection m with m;injection m with m;subst m;obtain⟨M,u,G⟩:=iK h 3 (by omega);injection u with u;injection u with u;subst u;have y:Cj r=(iG (r.getD 0 0)&&((r.getD 1 0 == 62)&&(iG (r.getD 2 0)&&(r.getD 3 0 == 32)))):=by unfold Cj;rw[TU A];rfl
  rw[y];clear y h;generalize r.getD 0 0=a at B;generalize r.getD 1 0=b at C;generalize r.getD 2 0=c at F;generalize r.getD 3 0=d at G;have z:4<=((Wn r:Nat):Int):=by omega
  have P:(0:Int)<((Wn r:Nat):Int):=by omega
  have Q:(1:Int)<((Wn r:Nat):Int):=by omega
  have R:(2:Int)<((Wn r:Nat):Int):=by omega
  have T:(3:Int)<((Wn r:Nat):Int):=by omega
  cases V:iG a with
  |false =>
   go_enter func153,ntmps153;go_wp2_with (go_at_call 216;refine(gi _ _).mono ?_;rintro e j ⟨rfl,rfl⟩);go_ret;exact⟨by simp,O⟩
  |true =>
   cases hb:(b == 62) with
   |false =>
    go_enter func153,ntmps153;go_wp2_with (go_at_call 216;refine(gi _ _).mono ?_;rintro e j ⟨rfl,rfl⟩);go_ret;exact⟨by simp,O⟩
   |true =>
    cases W:iG c with
    |false =>
     go_enter func153,ntmps153;go_wp2_with (go_at_call 216;refine(gi _ _).mono ?_;rintro e j ⟨rfl,rfl⟩);go_ret;exact⟨by simp,O⟩
    |true =>
     go_enter func153,ntmps153;go_wp2_with (go_at_call 216;refine(gi _ _).mono ?_;rintro e j ⟨rfl,rfl⟩);go_ret;exact⟨by simp,O⟩
 .have y:Cj r=Wg:=by unfold Cj;rw[TE A];rfl
  rw[y];have z:((Wn r:Nat):Int)<4:=by omega
  go_enter func153,ntmps153;go_wp2;go_ret;exact⟨O,O⟩
def gL(k a b n:Int):V6 := .agg #[Z Y k,Z .i32 a,Z .i32 b,Z Y n]
def Ll(l:Sp.Ln):V6:=if l.jz=We then gL 2 l.dp l.cS l.n else gL 1 l.dp 0 l.n
def mC(r:List Int)(w:V5)(e:Ending)(w':V5):Prop:=V4 w w'/\
 match r with
 |[]=>e=Wd (Wb #[gL 0 0 0 0,Wa We])
 |_::_=>match Sp.lB r with
  |some l=>e=Wd (Wb #[Ll l,Wa We])
  |none=>∃k a b n:Int,e=Wd (Wb #[gL k a b n,Wa Wg])
section
variable {r:List Int}
theorem So(h:zn r=We): Sp.lB r=(Sp.numOf (r.drop 2)).map λn=>⟨Wg,r.getD 0 0,0,n⟩:=by
 match r,h with
 |[],h=>simp[zn] at h
 |[_],h=>simp[zn] at h
 |a::b::t,h =>
  simp[zn,iG] at h;obtain⟨⟨e,j⟩,l⟩:=h;subst l;simp[Sp.lB,e,j]
theorem Sr(A:zn r=Wg)(h:Cj r=We): Sp.lB r=(Sp.numOf (r.drop 4)).map λn=>⟨We,r.getD 0 0,r.getD 2 0,n⟩:=by
 match r,h with
 |[],h=>simp[Cj] at h
 |[_],h=>simp[Cj] at h
 |[_,_],h=>simp[Cj] at h
 |[_,_,_],h=>simp[Cj] at h
 |a::b::c::d::u,h =>
  simp[Cj,iG] at h;obtain⟨⟨e,j⟩,l,⟨m,y⟩,z⟩:=h;subst l z;simp[Sp.lB,e,j,m,y]
theorem RD(l:zn r=Wg)(h:Cj r=Wg): Sp.lB r=U:=by
 match r,l,h with
 |[],_,_=>rfl
 |[_],_,_=>rfl
 |[a,b],l,_ =>
  simp[zn,iG] at l;simp only[Sp.lB];by_cases j:a=32\/a=62
  .rw[Tg j]
  .rw[Tf j];have m:¬b=32:=λe=>by
    have:=l (λx=>j (Wh x)) (λx=>j (Wi x));exact this e
   rw[Tf m];split <;> rfl
 |[a,b,c],l,_ =>
  simp[zn,iG] at l;simp only[Sp.lB];by_cases j:a=32\/a=62
  .rw[Tg j]
  .rw[Tf j];have m:¬b=32:=λe=>by
    have:=l (λx=>j (Wh x)) (λx=>j (Wi x));exact this e
   rw[Tf m];split <;> rfl
 |a::b::c::d::u,l,h =>
  simp[zn,iG] at l;simp[Cj,iG] at h;simp only[Sp.lB];by_cases j:a=32\/a=62
  .rw[Tg j]
  .rw[Tf j];have m:¬b=32:=λe=>by
    have:=l (λx=>j (Wh x)) (λx=>j (Wi x));exact this e
   rw[Tf m];by_cases z:b=62
   .rw[Tg z];by_cases y:c=32\/c=62
    .rw[Tg y]
    .rw[Tf y];have A:¬d=32:=λe=>h (λx=>j (Wh x)) (λx=>j (Wi x)) z (λx=>y (Wh x)) (λx=>y (Wi x)) e
     rw[Tf A]
   .rw[Tf z]
theorem rX{w w':V5}{k a b n:Int}(e:r≠[])(h:Sp.lB r=U)(hb:V4 w w'): mC r w (Wd (Wb #[gL k a b n,Wa Wg])) w':=by
 refine⟨hb,?_⟩;cases r with
 |nil=>exact absurd rfl e
 |cons x t=>rw[h];exact⟨k,a,b,n,O⟩
theorem rT{w w':V5}{l:Sp.Ln}(h:Sp.lB r=S l)(hb:V4 w w'): mC r w (Wd (Wb #[Ll l,Wa We])) w':=by
 refine⟨hb,?_⟩;cases r with
 |nil=>cases h
 |cons x t=>rw[h]
theorem vu(p:Option Addr)(cap:Nat)(w:V5):V7 prog 101 #[J p 0 cap] w (mC [] w):=by
 go_enter func101,ntmps101;go_wp2;exact Tj (v := Wb #[gL 0 0 0 0,Wa We]) (by simp[results,results101,go_sem,gL]) O ⟨V3.alloc V2 _,O⟩
theorem Bw(p:Option Addr)(cap:Nat)(r:List Int)(w:V5)(h:fG w .i32 p r)(m:Wn r<=5000)(b:r≠[])(u:zn r=Wg)(he:Cj r=Wg):V7 prog 101 #[J p (Wn r) cap] w (mC r w):=by
 have y:0<Wn r:=by cases r with | nil=>exact absurd rfl b | cons _ _=>simp
 have B:(((Wn r:Nat):Int) == 0)=Wg:=Tt.2 (by omega);have z:=cU (RD u he);have j:V4 w (w.alloc (D #[Z Y 0,Z .i32 0,Z .i32 0,Z Y 0] 202)):=V3.alloc V2 _;go_enter func101,ntmps101;go_wp2_with fail;refine(iB p cap r _ (h.below j) m).mono ?_;rintro e A ⟨rfl,l⟩;obtain rfl:=l.symm;rw[u];go_wp2_with fail;refine(n5 p cap r _ (h.below j) m).mono ?_;rintro e A ⟨rfl,l⟩;obtain rfl:=l.symm;rw[he];go_wp2;exact Tj (v := Wb #[gL 0 0 0 0,Wa Wg]) (by simp[results,results101,go_sem,gL]) O (rX b (cT z) j)
theorem yh(w:V5)(g c b:Nat)(r:List Int)(h:fG w .i32 (S ⟨g,0,U⟩) r)(u:b<=Wn r):(convert 65 9 (J (S ⟨g,b,U⟩) (Wn r-b) c)).run prog w=.ok (H (runesBytes (r.drop b))) w:=by
 have:=run_convert_runes (P:=prog) w 65 9 21 ⟨g,b,U⟩ (Wn r-b) c (r.drop b) (by simp) underlying65 underlying21 underlying9 (by
  intro j l;rw[Us] at l;obtain⟨y,e,_,m⟩:=h (b+j) (by omega);injection e with e;injection e with e;subst e;rw[UE,m];simp[List.getD,UX,Tw (show b+j<Wn r by omega)])
 rw[this,Ur (by simp)]
theorem xr(w:V5)(g c:Nat)(r:List Int)(b:Nat)(l:Wn r=b):(convert 65 9 (J (S ⟨g,0,U⟩) 0 c)).run prog w=.ok (H (runesBytes (r.drop b))) w:=by
 have:=run_convert_runes (P:=prog) w 65 9 21 ⟨g,0,U⟩ 0 c [] (by simp) underlying65 underlying21 underlying9 (by intro j e;simp at e);rw[this,UP (by omega),List.take_nil]
theorem CZ(g cap:Nat)(r:List Int)(w:V5)(h:fG w .i32 (S ⟨g,0,U⟩) r)(V:Wn r<=5000)(hc:Wn r<=cap)(q:cap<=maxLen)(F:zn r=We)(G:(runesBytes (r.drop 2)).size<=4000)(ad:∀y∈r,0<=y/\y<=1114111):V7 prog 101 #[J (S ⟨g,0,U⟩) (Wn r) cap] w (mC r w):=by
 have j:2<=Wn r:=by
  apply VU;intro hx;unfold zn at F;rw[TE hx] at F;cases F
 have I:r≠[]:=λe=>by rw[e] at j;simp at j
 have h0:(((Wn r:Nat):Int) == 0)=Wg:=Tt.2 (by omega);have W:=cU (So F);have t:V4 w (w.alloc (D #[Z Y 0,Z .i32 0,Z .i32 0,Z Y 0] 202)):=V3.alloc V2 _;have s:=h.below t;obtain⟨_,K,o⟩:=iK h 0 (by omega);injection K with K;injection K with K;subst K;unfold maxLen at q;have z0:(0:Int)<((Wn r:Nat):Int):=by omega
 have L:=Tu w _ o;generalize M:runesBytes (r.drop 2)=Q at G;have X:=cU M;have HW:Hid (V7 prog 152 #[H Q] (w.alloc (D #[Z Y 0,Z .i32 0,Z .i32 0,Z Y 0] 202)) λe w'=>e=Wd (mU (Sp.number Q.data.toList))/\Below (w.alloc (D #[Z Y 0,Z .i32 0,Z .i32 0,Z Y 0] 202)).heap.size (w.alloc (D #[Z Y 0,Z .i32 0,Z .i32 0,Z Y 0] 202)) w'):=mN Q _ G;by_cases P:cap=2
 .subst P;have R:Wn r=2:=by omega
  have m:=xr (w.alloc (D #[Z Y 0,Z .i32 0,Z .i32 0,Z Y 0] 202)) g 0 r 2 R;rw[M] at m;clear M R;go_enter func101,ntmps101;go_wp2_with fail;refine(iB _ _ r _ s V).mono ?_;rintro e w' ⟨rfl,hw⟩;obtain rfl:=hw.symm;rw[F];clear V;go_wp2_with fail;refine(cT HW).mono ?_;rintro e w2 ⟨rfl,b⟩;have u:=b.cell (p:=⟨N (E w),0,U⟩) (by simp);have z:=b.cell (p:=⟨N (E w),1,U⟩) (by simp);have A:=b.cell (p:=⟨N (E w),2,U⟩) (by simp);have B:=b.cell (p:=⟨N (E w),3,U⟩) (by simp);have v0:=b.frozen (p:=⟨N (E w),0,U⟩) (by simp);have v1:=b.frozen (p:=⟨N (E w),1,U⟩) (by simp);have v2:=b.frozen (p:=⟨N (E w),2,U⟩) (by simp);have v3:=b.frozen (p:=⟨N (E w),3,U⟩) (by simp);have aa:=(b.cell (p:=⟨g,0,U⟩) (by simp;omega)).trans (ni L o);have hz:=b.size;simp at u z A B v0 v1 v2 v3 hz;have l:=t.trans (b.mono (by simp));cases T:Sp.number Q.data.toList with
  |none =>
   have C:Hid (Sp.lB r=U):=by show _=_;rw[cT W];unfold Sp.numOf;rw[cT X,T];rfl
   rw[jr];clear b;go_wp2;exact Tj (v := Wb #[gL 1 (r.getD 0 0) 0 0,Wa Wg]) (by simp[results,results101,go_sem,gL,u,z,A,B]) O (rX I (cT C) ((((l.setCell V2 _).setCell V2 _).setCell V2 _).setCell V2 _))
  |some v =>
   have C:Hid (Sp.lB r=S ⟨Wg,r.getD 0 0,0,v⟩):=by show _=_;rw[cT W];unfold Sp.numOf;rw[cT X,T];rfl
   rw[jw];clear b;go_wp2;exact Tj (v := Wb #[Ll ⟨Wg,r.getD 0 0,0,v⟩,Wa We]) (by simp[results,results101,go_sem,gL,Ll,u,z,A,B]) O (rT (cT C) ((((l.setCell V2 _).setCell V2 _).setCell V2 _).setCell V2 _))
 .have m:=yh (w.alloc (D #[Z Y 0,Z .i32 0,Z .i32 0,Z Y 0] 202)) g (cap-2) 2 r s j;rw[M] at m;clear M;have ab:2<cap:=by omega
  go_enter func101,ntmps101;go_wp2_with fail;refine(iB _ _ r _ s V).mono ?_;rintro e w' ⟨rfl,hw⟩;obtain rfl:=hw.symm;rw[F];clear V;go_wp2_with fail;refine(cT HW).mono ?_;rintro e w2 ⟨rfl,b⟩;have u:=b.cell (p:=⟨N (E w),0,U⟩) (by simp);have z:=b.cell (p:=⟨N (E w),1,U⟩) (by simp);have A:=b.cell (p:=⟨N (E w),2,U⟩) (by simp);have B:=b.cell (p:=⟨N (E w),3,U⟩) (by simp);have v0:=b.frozen (p:=⟨N (E w),0,U⟩) (by simp);have v1:=b.frozen (p:=⟨N (E w),1,U⟩) (by simp);have v2:=b.frozen (p:=⟨N (E w),2,U⟩) (by simp);have v3:=b.frozen (p:=⟨N (E w),3,U⟩) (by simp);have aa:=(b.cell (p:=⟨g,0,U⟩) (by simp;omega)).trans (ni L o);have hz:=b.size;simp at u z A B v0 v1 v2 v3 hz;have l:=t.trans (b.mono (by simp));cases T:Sp.number Q.data.toList with
  |none =>
   have C:Hid (Sp.lB r=U):=by show _=_;rw[cT W];unfold Sp.numOf;rw[cT X,T];rfl
   rw[jr];clear b;go_wp2;exact Tj (v := Wb #[gL 1 (r.getD 0 0) 0 0,Wa Wg]) (by simp[results,results101,go_sem,gL,u,z,A,B]) O (rX I (cT C) ((((l.setCell V2 _).setCell V2 _).setCell V2 _).setCell V2 _))
  |some v =>
   have C:Hid (Sp.lB r=S ⟨Wg,r.getD 0 0,0,v⟩):=by show _=_;rw[cT W];unfold Sp.numOf;rw[cT X,T];rfl
   rw[jw];clear b;go_wp2;exact Tj (v := Wb #[Ll ⟨Wg,r.getD 0 0,0,v⟩,Wa We]) (by simp[results,results101,go_sem,gL,Ll,u,z,A,B]) O (rT (cT C) ((((l.setCell V2 _).setCell V2 _).setCell V2 _).setCell V2 _))
theorem CS(g cap:Nat)(r:List Int)(w:V5)(h:fG w .i32 (S ⟨g,0,U⟩) r)(T:Wn r<=5000)(hc:Wn r<=cap)(ad:cap<=maxLen)(hv:zn r=Wg)(he:Cj r=We)(V:(runesBytes (r.drop 4)).size<=4000)(af:∀y∈r,0<=y/\y<=1114111):V7 prog 101 #[J (S ⟨g,0,U⟩) (Wn r) cap] w (mC r w):=by
 have l:4<=Wn r:=by
  apply VU;intro hx;unfold Cj at he;rw[TE hx] at he;cases he
 have W:r≠[]:=λe=>by rw[e] at l;simp at l
 have h0:(((Wn r:Nat):Int) == 0)=Wg:=Tt.2 (by omega);have hL:=Sr hv he;have hb:V4 w (w.alloc (D #[Z Y 0,Z .i32 0,Z .i32 0,Z Y 0] 202)):=V3.alloc V2 _;have X:=h.below hb;obtain⟨_,q,x0⟩:=iK h 0 (by omega);injection q with q;injection q with q;subst q;unfold maxLen at ad;have z0:(0:Int)<((Wn r:Nat):Int):=by omega
 have F:=Tu w _ x0;obtain⟨_,t,x2⟩:=iK h 2 (by omega);injection t with t;injection t with t;subst t;have z2:(2:Int)<((Wn r:Nat):Int):=by omega
 have ag:0<Wn r:=by omega
 have ah:2<Wn r:=by omega
 obtain⟨B,s⟩:∃a,r.getD 0 0=a:=⟨_,rfl⟩
 obtain⟨C,o⟩:∃a,r.getD 2 0=a:=⟨_,rfl⟩
 rw[s] at x0 hL;rw[o] at x2 hL;have HL:=cU hL;clear hL s o;generalize hQ:runesBytes (r.drop 4)=Q at V;have HQ:=cU hQ;have HW:Hid (V7 prog 152 #[H Q] (w.alloc (D #[Z Y 0,Z .i32 0,Z .i32 0,Z Y 0] 202)) λe j=>e=Wd (mU (Sp.number Q.data.toList))/\Below (w.alloc (D #[Z Y 0,Z .i32 0,Z .i32 0,Z Y 0] 202)).heap.size (w.alloc (D #[Z Y 0,Z .i32 0,Z .i32 0,Z Y 0] 202)) j):=mN Q _ V;by_cases aa:cap=4
 .subst aa;have ab:Wn r=4:=by omega
  have G:=xr (w.alloc (D #[Z Y 0,Z .i32 0,Z .i32 0,Z Y 0] 202)) g 0 r 4 ab;rw[hQ] at G;clear hQ ab;go_enter func101,ntmps101;go_wp2_with fail;refine(iB _ _ r _ X T).mono ?_;rintro e j ⟨rfl,I⟩;obtain rfl:=I.symm;rw[hv];go_wp2_with fail;refine(n5 _ _ r _ X T).mono ?_;rintro e j ⟨rfl,I⟩;obtain rfl:=I.symm;rw[he];clear T;go_wp2_with fail;refine(cT HW).mono ?_;rintro e w2 ⟨rfl,b⟩;have K:=b.cell (p:=⟨N (E w),0,U⟩) (by simp);have L:=b.cell (p:=⟨N (E w),1,U⟩) (by simp);have M:=b.cell (p:=⟨N (E w),2,U⟩) (by simp);have P:=b.cell (p:=⟨N (E w),3,U⟩) (by simp);have v0:=b.frozen (p:=⟨N (E w),0,U⟩) (by simp);have v1:=b.frozen (p:=⟨N (E w),1,U⟩) (by simp);have v2:=b.frozen (p:=⟨N (E w),2,U⟩) (by simp);have v3:=b.frozen (p:=⟨N (E w),3,U⟩) (by simp);have m:=(b.cell (p:=⟨g,0,U⟩) (by simp;omega)).trans (ni F x0);have u:=(b.cell (p:=⟨g,2,U⟩) (by simp;omega)).trans (ni F x2);have hz:=b.size;simp at K L M P v0 v1 v2 v3 hz;have z:=hb.trans (b.mono (by simp));cases hq:Sp.number Q.data.toList with
  |none =>
   have R:Hid (Sp.lB r=U):=by show _=_;rw[cT HL];unfold Sp.numOf;rw[cT HQ,hq];rfl
   rw[jr];clear b;have A:N (E w)≠g:=by omega
   go_wp2_with fail
   go_region_held3 (λj=>j.cell? ⟨g,0,U⟩=S (Z .i32 B)/\j.cell? ⟨g,2,U⟩=S (Z .i32 C))
    (first|(go_keep;done)|(go_split_ands;exact⟨(TQ _ _ _ _ (by simp;omega)).trans ((TQ _ _ _ _ (by simp;omega)).trans ((TQ _ _ _ _ (by simp;omega)).trans ((TQ _ _ _ _ (by simp;omega)).trans m))),(TQ _ _ _ _ (by simp;omega)).trans ((TQ _ _ _ _ (by simp;omega)).trans ((TQ _ _ _ _ (by simp;omega)).trans ((TQ _ _ _ _ (by simp;omega)).trans u)))⟩))
    (fail)
   go_wp2;exact Tj (v := Wb #[gL 2 B C 0,Wa Wg]) (by simp[results,results101,go_sem,gL,K,L,M,P]) O (rX W (cT R) ((((z.setCell V2 _).setCell V2 _).setCell V2 _).setCell V2 _).drew)
  |some v =>
   have R:Hid (Sp.lB r=S ⟨We,B,C,v⟩):=by show _=_;rw[cT HL];unfold Sp.numOf;rw[cT HQ,hq];rfl
   rw[jw];clear b;have A:N (E w)≠g:=by omega
   go_wp2_with fail
   go_region_held3 (λj=>j.cell? ⟨g,0,U⟩=S (Z .i32 B)/\j.cell? ⟨g,2,U⟩=S (Z .i32 C))
    (first|(go_keep;done)|(go_split_ands;exact⟨(TQ _ _ _ _ (by simp;omega)).trans ((TQ _ _ _ _ (by simp;omega)).trans ((TQ _ _ _ _ (by simp;omega)).trans ((TQ _ _ _ _ (by simp;omega)).trans m))),(TQ _ _ _ _ (by simp;omega)).trans ((TQ _ _ _ _ (by simp;omega)).trans ((TQ _ _ _ _ (by simp;omega)).trans ((TQ _ _ _ _ (by simp;omega)).trans u)))⟩))
    (fail)
   go_wp2;exact Tj (v := Wb #[Ll ⟨We,B,C,v⟩,Wa We]) (by simp[results,results101,go_sem,gL,Ll,K,L,M,P]) O (rT (cT R) ((((z.setCell V2 _).setCell V2 _).setCell V2 _).setCell V2 _).drew)
 .have G:=yh (w.alloc (D #[Z Y 0,Z .i32 0,Z .i32 0,Z Y 0] 202)) g (cap-4) 4 r X l;rw[hQ] at G;clear hQ;have ae:4<cap:=by omega
  go_enter func101,ntmps101;go_wp2_with fail;refine(iB _ _ r _ X T).mono ?_;rintro e j ⟨rfl,I⟩;obtain rfl:=I.symm;rw[hv];go_wp2_with fail;refine(n5 _ _ r _ X T).mono ?_;rintro e j ⟨rfl,I⟩;obtain rfl:=I.symm;rw[he];clear T;go_wp2_with fail;refine(cT HW).mono ?_;rintro e w2 ⟨rfl,b⟩;have K:=b.cell (p:=⟨N (E w),0,U⟩) (by simp);have L:=b.cell (p:=⟨N (E w),1,U⟩) (by simp);have M:=b.cell (p:=⟨N (E w),2,U⟩) (by simp);have P:=b.cell (p:=⟨N (E w),3,U⟩) (by simp);have v0:=b.frozen (p:=⟨N (E w),0,U⟩) (by simp);have v1:=b.frozen (p:=⟨N (E w),1,U⟩) (by simp);have v2:=b.frozen (p:=⟨N (E w),2,U⟩) (by simp);have v3:=b.frozen (p:=⟨N (E w),3,U⟩) (by simp);have m:=(b.cell (p:=⟨g,0,U⟩) (by simp;omega)).trans (ni F x0);have u:=(b.cell (p:=⟨g,2,U⟩) (by simp;omega)).trans (ni F x2);have hz:=b.size;simp at K L M P v0 v1 v2 v3 hz;have z:=hb.trans (b.mono (by simp));cases hq:Sp.number Q.data.toList with
  |none =>
   have R:Hid (Sp.lB r=U):=by show _=_;rw[cT HL];unfold Sp.numOf;rw[cT HQ,hq];rfl
   rw[jr];clear b;have A:N (E w)≠g:=by omega
   go_wp2_with fail
   go_region_held3 (λj=>j.cell? ⟨g,0,U⟩=S (Z .i32 B)/\j.cell? ⟨g,2,U⟩=S (Z .i32 C))
    (first|(go_keep;done)|(go_split_ands;exact⟨(TQ _ _ _ _ (by simp;omega)).trans ((TQ _ _ _ _ (by simp;omega)).trans ((TQ _ _ _ _ (by simp;omega)).trans ((TQ _ _ _ _ (by simp;omega)).trans m))),(TQ _ _ _ _ (by simp;omega)).trans ((TQ _ _ _ _ (by simp;omega)).trans ((TQ _ _ _ _ (by simp;omega)).trans ((TQ _ _ _ _ (by simp;omega)).trans u)))⟩))
    (fail)
   go_wp2;exact Tj (v := Wb #[gL 2 B C 0,Wa Wg]) (by simp[results,results101,go_sem,gL,K,L,M,P]) O (rX W (cT R) ((((z.setCell V2 _).setCell V2 _).setCell V2 _).setCell V2 _).drew)
  |some v =>
   have R:Hid (Sp.lB r=S ⟨We,B,C,v⟩):=by show _=_;rw[cT HL];unfold Sp.numOf;rw[cT HQ,hq];rfl
   rw[jw];clear b;have A:N (E w)≠g:=by omega
   go_wp2_with fail
   go_region_held3 (λj=>j.cell? ⟨g,0,U⟩=S (Z .i32 B)/\j.cell? ⟨g,2,U⟩=S (Z .i32 C))
    (first|(go_keep;done)|(go_split_ands;exact⟨(TQ _ _ _ _ (by simp;omega)).trans ((TQ _ _ _ _ (by simp;omega)).trans ((TQ _ _ _ _ (by simp;omega)).trans ((TQ _ _ _ _ (by simp;omega)).trans m))),(TQ _ _ _ _ (by simp;omega)).trans ((TQ _ _ _ _ (by simp;omega)).trans ((TQ _ _ _ _ (by simp;omega)).trans ((TQ _ _ _ _ (by simp;omega)).trans u)))⟩))
    (fail)
   go_wp2;exact Tj (v := Wb #[Ll ⟨We,B,C,v⟩,Wa We]) (by simp[results,results101,go_sem,gL,Ll,K,L,M,P]) O (rT (cT R) ((((z.setCell V2 _).setCell V2 _).setCell V2 _).setCell V2 _).drew)
end
theorem wC(r:List Int):∀n,(runesBytes (r.drop n)).size<=(runesBytes r).size:=by
 induction r with
 |nil=>intro n;simp
 |cons a t b =>
  intro n;cases n with
  |zero=>simp
  |succ n =>
   have j:=b n;have e:=congrArg List.length (Sp.vp a t);simp at e ⊢;omega
theorem yN(p:Option Addr)(cap:Nat)(r:List Int)(w:V5)(h:fG w .i32 p r)(l:Wn r<=5000)(u:Wn r<=cap)(b:cap<=maxLen)(e:(runesBytes r).size<=4000)(j:∀y∈r,0<=y/\y<=1114111):V7 prog 101 #[J p (Wn r) cap] w (mC r w):=by
 cases r with
 |nil=>exact vu p cap w
 |cons a t =>
  obtain⟨g,rfl,_⟩:=iK h 0 (by simp);cases m:zn (a::t) with
  |true=>exact CZ g cap _ w h l u b m (To (wC _ _) e) j
  |false =>
   cases he:Cj (a::t) with
   |true=>exact CS g cap _ w h l u b m he (To (wC _ _) e) j
   |false=>exact Bw _ cap _ w h l (by simp) m he
theorem info_pline:(prog.info? 202).map (λi=>(i.zero,i.size,i.bytes))=S (S (.agg #[Z Y 0,Z .i32 0,Z .i32 0,Z Y 0]),4,24):=by kernel_rfl
def ez(w:V5):Prop := ∃m:Int,w.cell? ⟨7,0,U⟩=S (Z Y m)
theorem DF(x:V8)(w:V5)(m:x.size<=4000):∃b C,(convert 9 65 (H x)).run prog w=.ok (J (S ⟨N (E w),0,U⟩) (Sp.rs x 0).length b) (w.drew.alloc (D C 21))/\
  (Sp.rs x 0).length<=b/\b<=maxLen/\fG (w.drew.alloc (D C 21)) .i32 (S ⟨N (E w),0,U⟩) (Sp.rs x 0):=by
 have r:=Sp.KA x _ 0 V2;have h:=run_runes_of_string (P:=prog) w 9 65 21 x underlying9 underlying65 underlying21 (by have:=size_runesFrom x x.size 0 #[];simp at this;omega);rw[Sp.JG] at h;have l:((Sp.rs x 0).map (Z .i32)).toArray.size=(Sp.rs x 0).length:=by simp
 rw[l] at h;refine⟨_,_,h,grownCap_ge _ _ _ _,grownCap_le_maxLen _ _ _ _ (by unfold maxLen;omega),?_⟩;intro j e;refine⟨N (E w),O,by simp,?_⟩;refine(Ti _ (N (E w)) j _ 21 (0,0) (Tk w.drew _)).trans ?_;rw[Array.getElem?_append_left (by simp;exact e)];simp[e]
theorem qk(x:V8)(p:Option Addr)(cap:Nat)(w:V5)(F:Sp.V x 0)(P:x.size<=4000)(h:fG w .i32 p (Sp.rs x 0))(K:(Sp.rs x 0).length<=cap)(u:cap<=maxLen):V7 prog 101 #[J p (Sp.rs x 0).length cap] w λe G=>V4 w G/\match Sp.rq x with
   |some q=>e=Wd (Wb #[gL (Sp.pk q) (Sp.pa q) (Sp.pb q) (Sp.pn q),Wa We])
   |none=>∃k a b n:Int,e=Wd (Wb #[gL k a b n,Wa Wg]):=by
 have Q:=Sp.KA x _ 0 V2;have L:=Sp.Ay _ 0 V2 F;have y:(runesBytes (Sp.rs x 0)).size<=4000:=by have:=congrArg List.length L;simp at this;omega
 refine(yN p cap _ w h (by omega) K u y (Sp.Rp x _ 0 V2)).mono ?_;rintro e G ⟨z,j⟩;refine⟨z,?_⟩;have M:=Sp.LV F;by_cases r:x.size=0
 .rw[Sp.AY.2 r] at j;have A:Sp.rq x=S U:=Tg r;rw[A];exact j
 .have B:Sp.rs x 0≠[]:=λe=>r (Sp.AY.1 e)
  have A:Sp.rq x=(Sp.lB (Sp.rs x 0)).map S:=by unfold Sp.rq;rw[Tf r,M]
  rw[A];cases I:Sp.rs x 0 with
  |nil=>exact absurd I B
  |cons a t =>
   rw[I] at j;simp only at j;cases m:Sp.lB (a::t) with
   |none=>rw[m] at j;exact j
   |some l =>
    rw[m] at j;simp only at j;rw[j]
    show _=_
    unfold Ll;cases C:l.jz <;> simp[Sp.pk,Sp.pa,Sp.pb,Sp.pn,C]
def kN(p:Option Sp.Ln):List V6:=[Z Y (Sp.pk p),Z .i32 (Sp.pa p),Z .i32 (Sp.pb p),Z Y (Sp.pn p)]
def gO(P:List (Option Sp.Ln)):List V6:=P.flatMap kN
def sD(s:V8)(w:V5)(e:Ending)(w':V5):Prop:=V4 w w'/\
 match Sp.eo (Sp.split s 10) 0 [] with
 |.error k=>e=Wd (Wb #[J U 0 0,Z Y (k:Nat),Wa Wg])
 |.ok P=>∃v,e=Wd (Wb #[v,Z Y 0,Wa We])/\w'.ownsRow (N (E w)) 202 4 v (Wn P) (gO P)
theorem F0{s:V8}{w w':V5}{k:Nat}(h:Sp.eo (Sp.split s 10) 0 []=.error k)(hb:V4 w w'):sD s w (Wd (Wb #[J U 0 0,Z Y (k:Nat),Wa Wg])) w':=by
 refine⟨hb,?_⟩;rw[h]
theorem IL{s:V8}{w w':V5}{P:List (Option Sp.Ln)}{v:V6}(h:Sp.eo (Sp.split s 10) 0 []=.ok P)(hb:V4 w w')(b:w'.ownsRow (N (E w)) 202 4 v (Wn P) (gO P)):sD s w (Wd (Wb #[v,Z Y 0,Wa We])) w':=by
 refine⟨hb,?_⟩;rw[h];exact⟨v,O,b⟩
theorem gT(s:V8)(w:V5)(hs:s.size<=4000)(hV:Sp.V s 0)(hg:ez w):V7 prog 63 #[H s] w (sD s w):=by
 obtain⟨m,hm⟩:=hg;obtain⟨i0,hi,ao,aq,ar⟩:=TN info_pline;have HC:Hid (V7 prog 69 #[H s,H ⟨#[10]⟩] w λe w'=>e=Wd (J (S ⟨N (E w),0,U⟩) (Sp.split s 10).length (Sp.split s 10).length)/\w'=w.alloc (D ((Sp.split s 10).map Value.string).toArray 9)):=by
  have h:=Tryz.strings_Split s ⟨#[10]⟩ m w (by omega) hm (by decide);rw[Sp.sH,Sp.tw] at h;exact h
 have t:=Sp.jo s 10;have HS:=cU (Sp.Dg s 10);have HV:=cU (Sp.LI hV);generalize p:Sp.split s 10=b at t HS HC HV;have o:=cU p;clear p hV hm;go_enter func63,ntmps63;go_wp2_with fail;refine(cT HC).mono ?_;rintro e w1 ⟨rfl,L⟩;have g:w1.ownsRow (N (E w)) 9 1 (J (S ⟨N (E w),0,U⟩) (Wn b) (Wn b)) (Wn b) (b.map Value.string):=by
  rw[L];have:=World.ownsRow_lit (base:=N (E w)) (e:=9) (size:=1) w (b.map Value.string).toArray (Wn b) V2 (by unfold maxLen;omega) (by simp);simpa using this
 have au:V4 w w1:=by rw[L];exact V3.alloc V2 _
 clear L;obtain⟨g0,F⟩:∃g0,N (E w)=g0:=⟨_,rfl⟩
 have HG:=cU F;have av:w1.ownsRow (N (E w)) 9 1 (J (S ⟨g0,0,U⟩) (Wn b) (Wn b)) (Wn b) (b.map Value.string):=by rw[<-F];exact g
 rw[F];clear F g;go_wp2_with fail
 go_loopw [5,13] (λl i wr=>∃(k:Nat) (P:List (Option Sp.Ln)),k<=Wn b/\(Wn P)<=k/\i=Z Y k/\wr.ownsRow (N (E w)) 202 4 l (Wn P) (gO P)/\
   wr.ownsRow (N (E w)) 9 1 (J (S ⟨g0,0,U⟩) (Wn b) (Wn b)) (Wn b) (b.map Value.string)/\V4 w wr/\Hid (Sp.eo (b.drop k) k P=Sp.eo b 0 []))
  (λ_ i _=>Wn b-(intOf i).toNat)
 case atStart=>exact⟨0,[],Tp _,Tp _,rfl,TH _ _ _ _,av,au,rfl⟩
 case round =>
  obtain⟨k,P,hk,ay,rfl,hl,hv,M,HR⟩:=hrel;by_cases B:k<Wn b
  .have aa:wr.cell? ⟨g0,k,U⟩=S (H b[k]):=by
    rw[hv.cellAt k (by omega)];simp[B]
   have G:(b[k]).size<=4000:=by have:=(cT HS) b[k] (Uc B);omega
   have Q:=cU ((cT HV) b[k] (Uc B));generalize hx:b[k]=x at aa G Q;have HX:=cU hx;clear hx;obtain⟨ab,C,ad,ae,af,ag⟩:=DF x wr G;have ah:=cU ag;have ai:=cU ae;have aj:=cU af;clear ae af ag;have z:V4 w (wr.drew.alloc (D C 21)):=M.drew.alloc M.size _;have R:=(de hl V3.drew).alloc (D C 21);have T:=(de hv V3.drew).alloc (D C 21);cases I:Sp.rq x with
   |none =>
    have HN:=cU I;clear I;go_wp2_with fail;refine(qk x _ ab _ (cT Q) G (cT ah) (cT ai) (cT aj)).mono ?_;rintro e w2 ⟨r,he⟩;rw[cT HN] at he;obtain⟨k1,a1,b1,n1,rfl⟩:=he;have A:=z.trans (r.mono z.size);have W:=A.size;clear ad R T r z;unfold gL;go_wp2;exact Tj (v := Wb #[J U 0 0,Z Y k,Wa Wg]) (by simp[results,results63,go_sem]) O (F0 (by rw[cT o,<-cT HR];exact Sp.L7 B P (by rw[cT HX];exact cT HN)) (A.alloc W _))
   |some q =>
    have HN:=cU I;clear I;go_wp2_with fail;refine(qk x _ ab _ (cT Q) G (cT ah) (cT ai) (cT aj)).mono ?_;rintro e w2 ⟨r,he⟩;rw[cT HN] at he;obtain rfl:=he;have A:=z.trans (r.mono z.size);have W:=A.size;have K:=de R r;have ak:=de T r;clear ad R T r z hl hv aa;unfold gL;go_wp2_with (first
     | (at_builtin;go_must (refine Vf _ O (.tmp 27) (.tmp 29) 136 O (N (E w)) 202 i0 _ 4 24 underlying136 hi ao aq ar O (by decide) _ _ _ O ((K.alloc _).alloc _) ⟨N (E w2)+1,0,U⟩ 1 1 (kN q) O O ?c1 ?c2 ?c3 ?c4 ?c5 ?_))
     |go_in)
    case c1 =>
     intro j u y
     match j,y with
     |0,y=>simp[kN] at y;subst y;simp[Addr.add]
     |1,y=>simp[kN] at y;subst y;simp[Addr.add]
     |2,y=>simp[kN] at y;subst y;simp[Addr.add]
     |3,y=>simp[kN] at y;subst y;simp[Addr.add]
     |j+4,y=>simp[kN] at y
    case c2=>intro u hu;simp[kN] at hu;rcases hu with rfl | rfl | rfl | rfl <;> rfl
    case c3=>unfold maxLen;omega
    case c4=>omega
    case c5=>simp;omega
    intro v3 w3 aw X _;have an:=qO (ys:=[]) (v':=v3) (by simp;omega) ((K.alloc _).alloc _) ((A.alloc W _).alloc (by simp;omega) _) X;have ax:=jJ ((K.alloc _).alloc _) ((ak.alloc _).alloc _) (by decide) X;clear X K ak A;go_wp2;go_roundw
    case rel =>
     exact⟨k+1,P++[q],by omega,by simp;omega,by go_num,by simpa [gO,Vg] using aw,ax,an,by
      show _=_;rw[<-cT HR];exact(Sp.LN B P (by rw[cT HX];exact cT HN)).symm⟩
    case measure=>simp[intOf];omega
  .go_wp2;refine Tj (v := Wb #[_,Z Y 0,Wa We]) (by simp[results,results63,go_sem]) O (IL (P:=P) ?_ M hl);rw[cT o,<-cT HR];exact Sp.Pb (by omega) P
theorem qB(x:Int)(w:V5):V7 prog 221 #[Z .i32 x] w λe b=>e=Wd (Wa Wg)/\b=w:=by
 have h:(x != x)=Wg:=by simp
 go_enter func221,ntmps221;go_wp2;go_ret;exact⟨O,O⟩
def lD(x y:Int):Int:=if x<y then -1 else if y<x then 1 else 0
theorem zd(x y:Int)(w:V5):V7 prog 157 #[Z .i32 x,Z .i32 y] w λe j=>e=Wd (Z Y (lD x y))/\j=w:=by
 rcases Int.lt_trichotomy x y with h|h|h
 .have b:lD x y = -1:=Tg h;rw[b];clear b;go_enter func157,ntmps157;go_wp2_with (go_at_call 221;refine(qB _ _).mono ?_;rintro e j ⟨rfl,rfl⟩);go_ret;exact⟨O,O⟩
 .subst h;have b:lD x x=0:=by simp[lD]
  rw[b];clear b;have m:¬x<x:=Int.lt_irrefl x;go_enter func157,ntmps157;go_wp2_with (go_at_call 221;refine(qB _ _).mono ?_;rintro e j ⟨rfl,rfl⟩);go_ret;exact⟨O,O⟩
 .have l:¬x<y:=by omega
  have b:lD x y=1:=by unfold lD;rw[Tf l,Tg h]
  rw[b];clear b;go_enter func157,ntmps157;go_wp2_with (go_at_call 221;refine(qB _ _).mono ?_;rintro e j ⟨rfl,rfl⟩);go_ret;exact⟨O,O⟩
theorem iy(a v y:Int)(w:V5):V7 prog 156 #[.agg #[Z .i32 a,Z Y v],Z .i32 y] w λe b=>e=Wd (Z Y (lD a y))/\V4 w b:=by
 go_enter func156,ntmps156;go_wp2_with (go_at_call 157;refine(zd _ _ _).mono ?_;rintro e b ⟨rfl,rfl⟩);go_ret;exact⟨O,V3.alloc V2 _⟩
def ik(w:V5)(p:Option Addr)(T:Sp.Tb):Prop := ∀j (h:j<Wn T),∃g,p=S ⟨g,0,U⟩/\w.cell? ⟨g,j*2,U⟩=S (Z .i32 (T[j]).1)/\w.cell? ⟨g,j*2+1,U⟩=S (Z Y (T[j]).2)
theorem ik.below{w w':V5}{p:Option Addr}{T:Sp.Tb}(h:ik w p T)(hb:V4 w w'):ik w' p T:=λj m=>by
 obtain⟨g,e,b,l⟩:=h j m;exact⟨g,e,(hb.cell (Tu w _ b)).trans b,(hb.cell (Tu w _ l)).trans l⟩
theorem my(p:Option Addr)(cap:Nat)(T:Sp.Tb)(y:Int)(w:V5)(h:ik w p T)(W:Sp.dj T)(hl:Wn T<=100000):V7 prog 155 #[J p (Wn T) cap,Z .i32 y,.func (.func 156) #[] #[]] w λe X=>e=Wd (Wb #[Z Y (Sp.dv T y:Nat),Wa (Sp.dD T y)])/\V4 w X:=by
 go_enter func155,ntmps155;go_wp2
 go_loopw [9,10] (λa b wr=>∃i j:Nat,i<=j/\j<=Wn T/\a=Z Y i/\b=Z Y j/\V4 w wr/\(∀k (F:k<Wn T),k<i->(T[k]).1<y)/\(∀k (F:k<Wn T),j<=k->y<=(T[k]).1)) (λa b _=>(intOf b-intOf a).toNat)
 case atStart=>exact⟨0,Wn T,Tp _,Te _,rfl,rfl,Th _ _,λk F h=>by omega,λk F h=>by omega⟩
 case round =>
  obtain⟨i,j,af,hj,rfl,rfl,r,G,I⟩:=hrel;have K:=cU G;have L:=cU I;clear G I;by_cases ag:i<j
  .have q:(i+j)/2<Wn T:=by omega
   have ah:i<=(i+j)/2:=by omega
   have ai:(i+j)/2<j:=by omega
   have ae:(i:Int)<(j:Int):=by omega
   obtain⟨g,t,s,o⟩:=(h.below r) ((i+j)/2) (by omega)
   subst t;obtain⟨x,u⟩:∃x,(T[(i+j)/2]).1=x:=⟨_,rfl⟩
   obtain⟨v,M⟩:∃x,(T[(i+j)/2]).2=x:=⟨_,rfl⟩
   rw[u] at s;rw[M] at o;have P:=cU u;clear u M;by_cases l:x<y
   .have Q:Hid (lD x y = -1):=Tg l;clear l;go_wp2_with (go_at_call 156;refine(iy _ _ _ _).mono ?_;rintro e X ⟨rfl,m⟩;rw[cT Q]);go_roundw
    case rel =>
     refine⟨(i+j)/2+1,j,by omega,hj,by go_num,O,r.trans (m.mono r.size),λk F aa=>?_,cT L⟩;have R:=Sp.fg W (i:=k) (j:=(i+j)/2) (by omega) q;have h2:=cT P;have h3:¬ ¬x<y:=λhn=>by have:=cT Q;unfold lD at this;rw[Tf hn] at this;split at this <;> omega
     omega
    case measure=>simp[intOf];omega
   .have Q:Hid (0<=lD x y):=by show _<=_;unfold lD;rw[Tf l];split <;> omega
    have ab:=cU l;clear l;obtain⟨c,z⟩:∃c,lD x y=c:=⟨_,rfl⟩
    rw[z] at Q;have A:=cU z;have aj:0<=c:=cT Q;clear z;go_wp2_with (go_at_call 156;refine(iy _ _ _ _).mono ?_;rintro e X ⟨rfl,m⟩;rw[cT A]);go_roundw
    case rel =>
     refine⟨i,(i+j)/2,by omega,by omega,O,by go_num,r.trans (m.mono r.size),cT K,λk F aa=>?_⟩;have R:=Sp.fg W (i:=(i+j)/2) (j:=k) (by omega) F;have h2:=cT P;have h3:=cT ab;omega
    case measure=>simp[intOf];omega
  .have ad:j=i:=by omega
   subst ad;have B:Hid (Sp.dv T y=j):=Sp.jM hj (cT K) (cT L);by_cases C:j<Wn T
   .have V:(j:Int)<(Wn T:Int):=by omega
    obtain⟨g,t,s,o⟩:=(h.below r) j C;subst t;have HH:=cU (Sp.iV W y);obtain⟨x,u⟩:∃x,(T[j]).1=x:=⟨_,rfl⟩
    obtain⟨v,M⟩:∃x,(T[j]).2=x:=⟨_,rfl⟩
    rw[u] at s;rw[M] at o;have P:=cU u;clear u M;obtain⟨c,z⟩:∃c,lD x y=c:=⟨_,rfl⟩
    have A:=cU z;have HE:Hid (Sp.dD T y=(c == 0)):=by
     show _=_
     have R:(c == 0)=decide (x=y):=by
      rw[<-z];unfold lD;rcases Int.lt_trichotomy x y with h|h|h
      .rw[Tg h,TE (by omega)];rfl
      .subst h;simp
      .rw[Tf (by omega),Tg h,TE (by omega)];rfl
     rw[R];apply Bool.eq_iff_iff.2;rw[cT HH,decide_eq_true_iff];constructor
     .rintro⟨hq,e⟩;have e2:T[Sp.dv T y]=T[j]:=by congr 1 <;> exact cT B
      rw[e2] at e;rw[<-e];exact(cT P).symm
     .intro e;have e2:T[Sp.dv T y]'(by rw[cT B];exact C)=T[j]:=by congr 1 <;> exact cT B
      exact⟨by rw[cT B];exact C,by rw[e2];exact(cT P).trans e⟩
    clear z;go_wp2_with (go_at_call 156;refine(iy _ _ _ _).mono ?_;rintro e X ⟨rfl,m⟩;rw[cT A]);exact Tj (v := Wb #[Z Y j,Wa (c == 0)]) (by simp[results,results155,go_sem]) O ⟨by rw[cT B,cT HE],r.trans (m.mono r.size)⟩
   .have V:¬(j:Int)<(Wn T:Int):=by omega
    have ak:(Wn T:Int)<=(j:Int):=by omega
    have HE:Hid (Sp.dD T y=Wg):=by
     show _=_
     cases hq:Sp.dD T y with
     |false=>rfl
     |true=>obtain⟨R,_⟩:=(Sp.iV W y).1 hq;rw[cT B] at R;omega
    go_wp2;exact Tj (v := Wb #[Z Y j,Wa Wg]) (by simp[results,results155,go_sem]) O ⟨by rw[cT B,cT HE],r⟩
section
def cV(T:Sp.Tb):List V6:=T.flatMap λp=>[Z .i32 p.1,Z Y p.2]
theorem eJ(T:Sp.Tb):(cV T).length=Wn T*2:=by
 induction T with
 |nil=>rfl
 |cons p t b=>simp[cV] at b ⊢;omega
theorem kC(A B:Sp.Tb):cV (A++B)=cV A++cV B:=by simp[cV]
theorem mW(T:Sp.Tb):∀j (h:j<Wn T),(cV T)[j*2]?=S (Z .i32 (T[j]).1)/\(cV T)[j*2+1]?=S (Z Y (T[j]).2):=by
 induction T with
 |nil=>intro j h;simp at h
 |cons p t b =>
  intro j h;have e:cV (p::t)=Z .i32 p.1::Z Y p.2::cV t:=by simp[cV]
  rw[e];cases j with
  |zero=>simp
  |succ j =>
   have:=b j (by simpa using h);rw[show (j+1)*2=j*2+1+1 by omega];simpa using this
theorem mA(T:Sp.Tb):∀u∈cV T,u.oneCell'=We:=by
 intro u hu;obtain⟨p,_,b⟩:=UM.1 hu;simp at b;rcases b with rfl|rfl <;> rfl
def oK(w:V5)(B t:Nat)(T:Sp.Tb):Prop :=
 ∃v,w.heap[t]?=S (D #[v] 207 (0,0))/\w.ownsRow B 265 2 v (Wn T) (cV T)
variable {w:V5}
theorem dS{B:Nat}{v:V6}{T:Sp.Tb}(h:w.ownsRow B 265 2 v (Wn T) (cV T)): ∃p b,v=J p (Wn T) b/\ik w p T:=by
 have m:=h;rcases h.2 with ⟨e,r⟩|⟨g,b,u,e,_⟩
 .subst e;refine⟨U,0,by rw[r],λj l=>by omega⟩
 .subst e;refine⟨S ⟨g,0,U⟩,b,O,λj l=>⟨g,O,?_,?_⟩⟩
  .rw[m.cellAt _ (by omega)];exact(mW T j l).1
  .rw[m.cellAt _ (by omega)];exact(mW T j l).2
theorem oK.below{w':V5}{B t:Nat}{T:Sp.Tb}(h:oK w B t T)(hb:V4 w w'): oK w' B t T:=by
 obtain⟨v,b,e⟩:=h;exact⟨v,(hb.block t (Ud b)).trans b,de e hb⟩
theorem sa{t:Nat}{v:V6}{e:TypeId}(h:w.heap[t]?=S (D #[v] e (0,0))): w.cell? ⟨t,0,U⟩=S v:=by
 rw[Ti w t 0 _ _ _ h];rfl
theorem nZ(t B:Nat)(T:Sp.Tb)(y:Int)(w:V5)(h:oK w B t T)(r:Sp.dj T)(u:Wn T<=100000):V7 prog 103 #[V9 (S ⟨t,0,U⟩),Z .i32 y] w λe j=>e=Wd (Wb #[Z Y (Sp.dv T y:Nat),Wa (Sp.dD T y)])/\V4 w j:=by
 obtain⟨v,l,m⟩:=h;obtain⟨p,b,rfl,z⟩:=dS m;have C:=sa l;clear l m;go_enter func103,ntmps103;go_wp2_with fail;refine(my p b T y w z r u).mono ?_;rintro e j ⟨rfl,A⟩;go_wp2;exact Tj (v := Wb #[Z Y (Sp.dv T y:Nat),Wa (Sp.dD T y)]) (by simp[results,results103,go_sem]) O ⟨O,A⟩
theorem vM(t B:Nat)(T:Sp.Tb)(w:V5)(h:oK w B t T):V7 prog 66 #[V9 (S ⟨t,0,U⟩)] w λe l=>e=Wd (Z Y (Wn T))/\l=w:=by
 obtain⟨v,b,j⟩:=h;obtain⟨p,m,rfl,r⟩:=dS j;have u:=sa b;clear b j;go_enter func66,ntmps66;go_wp2;go_ret;exact⟨O,O⟩
end
section
theorem info_entry:(prog.info? 265).map (λi=>(i.zero,i.size,i.bytes))=S (S (.agg #[Z .i32 0,Z Y 0]),2,16):=by kernel_rfl
section
variable {α : Type}
def kj(L:List α)(o:Nat)(c:List α):List α:=L.take o++c++L.drop (o+Wn c)
theorem fZ(L:List α)(o:Nat)(c:List α)(h:o+Wn c<=Wn L):(kj L o c).length=Wn L:=by simp[kj];omega
theorem qT(L:List α)(o:Nat)(V b:List α)(n:Nat)(h1:o+Wn V+Wn b<=Wn L):(kj (kj L (o+Wn V) b) o V).take (o+Wn V+Wn b)=L.take o++V++b:=by
 have e:(kj L (o+Wn V) b).take o=L.take o:=by
  unfold kj;rw[T4,UA (by simp;omega),UN,Vh (by omega)]
 have j:(kj L (o+Wn V) b).drop (o+Wn V)=b++L.drop (o+Wn V+Wn b):=by
  unfold kj;rw[T4,VN (by simp;omega),UP (by simp;omega),Ul]
 show (List.take o _++V++List.drop (o+Wn V) _).take _=_
 rw[e,j,<-T4,UA (by simp;omega),Ur (by simp;omega)]
theorem rL(L:List α)(o:Nat)(V b:List α)(h1:o+Wn V+Wn b<=Wn L):(kj (kj L o V) (o+Wn V) b).take (o+Wn V+Wn b)=L.take o++V++b:=by
 have e:(kj L o V).take (o+Wn V)=L.take o++V:=by
  unfold kj;rw[UA (by simp;omega),Ur (by simp;omega)]
 show (List.take _ _++b++List.drop _ _).take _=_
 rw[e,UA (by simp;omega),Ur (by simp;omega)]
end
theorem nY(T:Sp.Tb)(i:Nat):(cV T).take (i*2)=cV (T.take i):=by
 induction T generalizing i with
 |nil=>simp[cV]
 |cons p t b =>
  cases i with
  |zero=>simp[cV]
  |succ i =>
   have e:cV (p::t)=Z .i32 p.1::Z Y p.2::cV t:=by simp[cV]
   rw[e,show (i+1)*2=i*2+1+1 by omega,UW,UW,b];simp[cV]
theorem od(T:Sp.Tb)(i:Nat):(cV T).drop (i*2)=cV (T.drop i):=by
 induction T generalizing i with
 |nil=>simp[cV]
 |cons p t b =>
  cases i with
  |zero=>simp
  |succ i =>
   have e:cV (p::t)=Z .i32 p.1::Z Y p.2::cV t:=by simp[cV]
   rw[e,show (i+1)*2=i*2+1+1 by omega,Vi,Vi,b];simp
theorem oO(T:Sp.Tb)(i:Nat)(a b:Int):(cV T).take (i*2)++[Z .i32 a,Z Y b]++(cV T).drop (i*2)=cV (T.take i++(a,b)::T.drop i):=by
 rw[nY,od,kC];simp[cV]
def ib(w:V5)(B:Nat)(v:V6)(T:Sp.Tb)(i:Nat)(a b:Int)(e:Ending)(w':V5):Prop :=
 ∃j,e=Wd j/\w'.ownsRow B 265 2 j (Wn T+1) (cV (T.take i++(a,b)::T.drop i))/\w.grownBy w' v.ownBlock
theorem mn(B x:Nat)(v:V6)(T:Sp.Tb)(a b:Int)(w:V5)(Q:B<=N (E w))(h:w.ownsRow B 265 2 v (Wn T) (cV T))(hl:Wn T<=100000)(R:w.heap[x]?=S (D #[Z .i32 a,Z Y b] 265 (0,0))):V7 prog 154 #[v,Z Y (Wn T),J (S ⟨x,0,U⟩) 1 1] w (ib w B v T (Wn T) a b):=by
 obtain⟨V,hi,z,A,C⟩:=TN info_entry;obtain⟨p,m,rfl,G⟩:=dm h;have W:Wn T<=m:=by
  rcases h.2 with ⟨r,I⟩|⟨g,F,K,r,_,_,I,_⟩
  .omega
  .injection r with _ _ r;omega
 have t:m<=9223372036854775807:=by
  rcases h.2 with ⟨r,I⟩|⟨g,F,K,r,_,_,I,s,_⟩
  .injection r with _ _ r;omega
  .injection r with _ _ r;unfold maxLen at s;omega
 clear G;have X:w.cell? ⟨x,0,U⟩=S (Z .i32 a):=by rw[Ti w x 0 _ _ _ R];rfl
 have q:w.cell? ⟨x,1,U⟩=S (Z Y b):=by rw[Ti w x 1 _ _ _ R];rfl
 by_cases L:m=Wn T
 .subst L;go_enter func154,ntmps154;go_wp2_with (first
   | (at_builtin;go_must (refine Vf _ O (.tmp 23) (.tmp 24) 205 O B 265 V _ 2 16 underlying205 hi z A C O (by decide) _ _ _ O h ⟨x,0,U⟩ 1 1 [Z .i32 a,Z Y b] O O ?c1 ?c2 ?c3 ?c4 ?c5 ?_))
   |go_in)
  case c1 =>
   intro j u l
   match j,l with
   |0,l=>simp at l;subst l;simpa [Addr.add] using X
   |1,l=>simp at l;subst l;simpa [Addr.add] using q
  case c2=>intro u hu;simp at hu;rcases hu with rfl | rfl <;> rfl
  case c3=>unfold maxLen;omega
  case c4=>omega
  case c5=>exact Q
  intro M w3 P y _;go_wp2;go_ret;refine⟨M,O,?_,y⟩;have e:cV (T.take (Wn T)++(a,b)::T.drop (Wn T))=cV T++[Z .i32 a,Z Y b]:=by simp[cV]
  rw[e];exact P
 .have o:Wn T<m:=by omega
  go_enter func154,ntmps154;go_wp2_with (first
   | (at_builtin;go_must (refine Vf _ O (.tmp 23) (.tmp 24) 205 O B 265 V _ 2 16 underlying205 hi z A C O (by decide) _ _ _ O h ⟨x,0,U⟩ 1 1 [Z .i32 a,Z Y b] O O ?c1 ?c2 ?c3 ?c4 ?c5 ?_))
   |go_in)
  case c1 =>
   intro j u l
   match j,l with
   |0,l=>simp at l;subst l;simpa [Addr.add] using X
   |1,l=>simp at l;subst l;simpa [Addr.add] using q
  case c2=>intro u hu;simp at hu;rcases hu with rfl | rfl <;> rfl
  case c3=>unfold maxLen;omega
  case c4=>omega
  case c5=>exact Q
  intro M w3 P y _;go_wp2;go_ret;refine⟨M,O,?_,y⟩;have e:cV (T.take (Wn T)++(a,b)::T.drop (Wn T))=cV T++[Z .i32 a,Z Y b]:=by simp[cV]
  rw[e];exact P
end
theorem gI:(prog.info? 265).map (·.size)=S 2:=by
 obtain⟨l,hi,e,b,j⟩:=TN info_entry;rw[hi];simp[b]
theorem nR(w:V5):(Go.sizeOf 265).run prog w=.ok 2 w:=by
 obtain⟨l,hi,e,b,j⟩:=TN info_entry;simp[sizeOf,typeInfo,hi,b]
theorem oU(w:V5)(x g o lb r:Nat)(a b:Int)(j:Array V6)(l:x≠g)(m:w.heap[x]?=S (D #[Z .i32 a,Z Y b] 265 (0,0)))(u:w.heap[g]?=S (D j 265 (0,0)))(y:j.size≠0):(callFunc 219 #[J (S ⟨x,0,U⟩) 1 1,J (S ⟨g,o,U⟩) lb r]).run prog w=.ok (.value (Wa Wg)) w:=by
 rw[run_callFunc_extern func219 (by kernel_rfl) (by kernel_rfl) (by kernel_rfl) (e:=Extern.SlicesOverlaps.overlaps #[205,205] #[4]) (by kernel_rfl),
  Lib.run_overlaps_apart w 205 4 265 underlying205 2 nR ⟨x,0,U⟩ ⟨g,o,U⟩ 1 1 lb r l 265 265 2 j.size (by simp[World.shape?,m]) (by simp[World.shape?,u]) y (by simp[World.frozen?,m]) (by simp[World.frozen?,m])]
 rfl
theorem lq(B x g cap i:Nat)(m:Array V6)(T:Sp.Tb)(a b:Int)(w:V5)(hi:i<Wn T)(hB:B<=g)(q:Wn T+1<=cap)(ab:cap<=maxLen)(hl:Wn T<=100000)(ad:x≠g)(hg:w.heap[g]?=S (D m 265 (0,0)))(ae:m.size=cap*2)(r:m.toList.take (Wn T*2)=cV T)(hx:w.heap[x]?=S (D #[Z .i32 a,Z Y b] 265 (0,0))):V7 prog 154 #[J (S ⟨g,0,U⟩) (Wn T) cap,Z Y i,J (S ⟨x,0,U⟩) 1 1] w (ib w B (J (S ⟨g,0,U⟩) (Wn T) cap) T i a b):=by
 have ak:∀o lb cb,(callFunc 219 #[J (S ⟨x,0,U⟩) 1 1,J (S ⟨g,o,U⟩) lb cb]).run prog w=.ok (.value (Wa Wg)) w:=λo lb cb=>oU w x g o lb cb a b m ad hx hg (by omega)
 obtain⟨l,hD⟩:∃l,l=(cV T).drop (i*2):=⟨_,rfl⟩
 obtain⟨V,y⟩:∃V:List V6,V=[Z .i32 a,Z Y b]:=⟨_,rfl⟩
 have af:Wn l=(Wn T-i)*2:=by rw[hD,Us,eJ];omega
 have an:Wn V=2:=by rw[y];rfl
 have ag:Wn m.toList=cap*2:=by simpa using ae
 obtain⟨A,C⟩:∃A,A=kj m.toList (i*2+Wn V) l:=⟨_,rfl⟩
 obtain⟨t,F⟩:∃t,t=kj A (i*2) V:=⟨_,rfl⟩
 have I:Wn A=cap*2:=by rw[C,fZ _ _ _ (by omega)];exact ag
 have K:Wn t=cap*2:=by rw[F,fZ _ _ _ (by omega)];exact I
 have L:t.take ((Wn T+1)*2)=cV (T.take i++(a,b)::T.drop i):=by
  have e:=qT m.toList (i*2) V l 0 (by omega);rw[<-C,<-F] at e;have e2:i*2+Wn V+Wn l=(Wn T+1)*2:=by omega
  rw[e2] at e;rw[e,<-oO,<-y,<-hD]
  congr 2
  rw[<-r,UN,Vh (by omega)]
 have z:∀j v,l[j]?=S v->w.cell? ⟨g,i*2+j,U⟩=S v:=λj v M=>by
  have ar:j<Wn l:=(Vb.1 M).1;rw[Ti w g _ _ _ _ hg];rw[hD,<-r,UX,U8,Tg (by omega)] at M;simpa using M
 have ah:∀v∈l,v.oneCell'=We:=λv hv=>mA T v (by rw[hD] at hv;exact UR hv)
 have Q:∀s p sc,(Builtin.copy_ #[205,205] s #[J (S ⟨g,(i+1)*2,U⟩) (Wn T+1-(i+1)) p,J (S ⟨g,i*2,U⟩) (Wn T+1-i) sc]).run prog w.drew=.ok (goInt ((Wn T-i:Nat):Int)) (w.drew.setRow g A.toArray):=λs p sc=>by
  have h:=eC (P:=prog) w.drew 205 205 s 265 2 g ((i+1)*2) (Wn T+1-(i+1)) p ⟨g,i*2,U⟩ (Wn T+1-i) sc m 265 l underlying205 gI hg (Wn T-i) (by simp only[UY];split <;> omega) af
   (λj v M=>by rw[UE];exact z j v M) (by omega) ah
  rw[h,C];unfold kj;rw[show i*2+Wn V=(i+1)*2 by omega]
 have G:(w.drew.setRow g A.toArray).heap[g]?=S (D A.toArray 265 (0,0)):=Uq w.drew g m _ _ _ hg;have aa:(w.drew.setRow g A.toArray).heap[x]?=S (D #[Z .i32 a,Z Y b] 265 (0,0)):=by
  rw[Uk w.drew g x _ ad];exact hx
 obtain⟨W1,u⟩:∃W1,W1=w.drew.setRow g A.toArray:=⟨_,rfl⟩
 rw[<-u] at Q G aa;have ai:∀(W:V5),W=W1->∀s p,(Builtin.copy_ #[205,205] s #[J (S ⟨g,i*2,U⟩) (Wn T+1-i) p,J (S ⟨x,0,U⟩) 1 1]).run prog W=.ok (goInt 1) (W1.setRow g t.toArray):=λW hW s p=>by
  subst hW;have h:=eC (P:=prog) W 205 205 s 265 2 g (i*2) (Wn T+1-i) p ⟨x,0,U⟩ 1 1 A.toArray 265 V underlying205 gI G 1 (by simp only[UY];split <;> omega) (by omega)
   (λj v M=>by
     rw[UE,Ti W x _ _ _ _ aa];rw[y] at M;simpa using M) (by simp;omega) (by rw[y];intro v hv;simp at hv;rcases hv with rfl|rfl <;> rfl)
  rw[h,F]
  rfl
 have R:∀W,W=W1.setRow g t.toArray->W.ownsRow B 265 2 (J (S ⟨g,0,U⟩) (Wn T+1) cap) (Wn T+1) (cV (T.take i++(a,b)::T.drop i))/\w.grownBy W (Value.ownBlock (J (S ⟨g,0,U⟩) (Wn T) cap)):=λW hW=>by
  rw[hW];refine⟨⟨by rw[eJ];simp;omega,.inr ⟨g,cap,t.toArray,O,hB,Uq W1 g _ _ _ _ G,q,ab,by simpa using K,by simpa using L⟩⟩,?_⟩;refine⟨by rw[u];rfl,by rw[u];rfl,by rw[u];rfl,by rw[u];simp[World.setRow],λk hk ao=>?_⟩;have X:k≠g:=λe=>ao (by rw[e];rfl)
  rw[Uk W1 g k _ X,u,Uk w.drew g k _ X];rfl
 have aj:=cU R;unfold maxLen at ab;have au:IntKind.i64.wrap ((i:Int)+1)=(i:Int)+1:=by rw[TJ];omega
 have av:(0:Int)<=(i:Int)+1:=by omega
 have aw:i<=Wn T:=by omega
 have aq:(i:Int)<=(Wn T:Int):=by omega
 have ax:((i:Int)+1).toNat=i+1:=by omega
 have ay:(i:Int)<=(Wn T:Int)+1:=by omega
 have az:¬((i:Int)=(Wn T:Int)):=by omega
 have aA:¬((cap:Int)<(Wn T:Int)+1):=by omega
 have aB:¬(cap=i+1):=by omega
 have aC:¬(cap=i):=by omega
 clear R L z ah hD y af an ag C F I K hg hx ae r G aa u;go_enter func154,ntmps154;go_wp2_with (simp only[ak])
 go_region_law (refine step_copy_runI O (.tmp 73) (.tmp 76) 205 205 O _ _ (by simp[Act.eval,Act.put];rfl) (by simp[Act.eval,Act.put];rfl) (Q _ _ _) ?_)
 go_wp2_with (first|(at_builtin;go_must (refine wpList_copy_runI _ rfl (.tmp 80) (.tmp 81) 205 205 rfl _ _ rfl rfl (ai _ rfl _ _) ?_))|go_in);go_wp2;go_ret;obtain⟨q1,q2⟩:=(cT aj) _ rfl;exact⟨_,O,q1,q2⟩
theorem kS(B x g cap i:Nat)(F:Array V6)(T:Sp.Tb)(a b:Int)(w:V5)(hi:i<Wn T)(hB:B<=N (E w))(af:cap=Wn T)(hl:Wn T<=100000)(hg:w.heap[g]?=S (D F 265 (0,0)))(I:F.toList.take (Wn T*2)=cV T)(av:Wn T*2<=F.size)(hx:w.heap[x]?=S (D #[Z .i32 a,Z Y b] 265 (0,0))):V7 prog 154 #[J (S ⟨g,0,U⟩) (Wn T) cap,Z Y i,J (S ⟨x,0,U⟩) 1 1] w (ib w B (J (S ⟨g,0,U⟩) (Wn T) cap) T i a b):=by
 subst af;obtain⟨i0,aw,ax,ay,ag⟩:=TN info_entry;obtain⟨l,hD⟩:∃l,l=(cV T).drop (i*2):=⟨_,rfl⟩
 obtain⟨V,K⟩:∃V:List V6,V=[Z .i32 a,Z Y b]:=⟨_,rfl⟩
 have ah:Wn l=(Wn T-i)*2:=by rw[hD,Us,eJ];omega
 have az:Wn V=2:=by rw[K];rfl
 have y:∀j v,(cV T)[j]?=S v->w.cell? ⟨g,j,U⟩=S v:=λj v z=>by
  have aA:j<(cV T).length:=(Vb.1 z).1;rw[eJ] at aA;rw[Ti w g _ _ _ _ hg];rw[<-I,U8,Tg (by omega)] at z;simpa using z
 have ab:i+(Wn T+1-i)=Wn T+1:=by omega
 have hold:(Builtin.firstCells i0.size i (J (S ⟨g,0,U⟩) i (Wn T))).run prog w.drew=.ok ((cV T).take (i*2)).toArray w.drew:=by
  rw[ay];exact run_firstCells_some w.drew 2 i ⟨g,0,U⟩ i (Wn T) ((cV T).take (i*2)) (by rw[Uz,eJ];omega) (λj v z=>by
   rw[UE];rw[U8] at z;split at z
   .simpa using y j v z
   .cases z)
 obtain⟨G,hG⟩:∃G,G=grownCap w (Wn T+1) (Wn T) 265:=⟨_,rfl⟩
 have aB:Wn T+1<=G:=by rw[hG];exact grownCap_ge w _ _ _
 have ai:G<=maxLen:=by rw[hG];exact grownCap_le_maxLen w _ _ _ (by unfold maxLen;omega)
 obtain⟨m,A⟩:∃m:Array V6,m=((cV T).take (i*2)).toArray++Builtin.zeroCells (Value.agg #[Z .i32 0,Z Y 0]).cells (Wn T+1-i)++Builtin.zeroCells (Value.agg #[Z .i32 0,Z Y 0]).cells (G-(Wn T+1)):=⟨_,rfl⟩
 have aj:∀L,(Builtin.append_ #[205,3] L #[J (S ⟨g,0,U⟩) i (Wn T),Z Y ((Wn T:Int)+1-(i:Int))]).run prog w =
   .ok (J (S ⟨N (E w),0,U⟩) (Wn T+1) G) (w.drew.alloc (D m 265)):=λL=>by
  have h:=Lib.run_append_grow_zeros w 205 3 L 265 i0 _ Y Y underlying205 underlying3 aw ax (S ⟨g,0,U⟩) i (Wn T) ((cV T).take (i*2)) hold (Wn T+1-i) (by omega) (by omega) (by omega) (by omega) (by rw[ag];omega) (by rw[ag,ab];exact growslice_fits (by omega) (by omega));rw[ab] at h;rw[show (Wn T:Int)+1-(i:Int)=((Wn T+1-i:Nat):Int) by omega,A,hG];exact h
 have ad:Wn m.toList=G*2:=by
  rw[A];simp[Builtin.zeroCells,Value.cells,eJ];omega
 have ak:m.toList.take (i*2)=(cV T).take (i*2):=by
  rw[A];simp only[Vu,T4];rw[UA (by simp[eJ];omega)];exact(UN ..).trans (by rw[Nat.min_self])
 obtain⟨q,R⟩:∃q,q=kj m.toList (i*2) V:=⟨_,rfl⟩
 obtain⟨c2,X⟩:∃c2,c2=kj q (i*2+Wn V) l:=⟨_,rfl⟩
 have t:Wn q=G*2:=by rw[R,fZ _ _ _ (by omega)];exact ad
 have s:Wn c2=G*2:=by rw[X,fZ _ _ _ (by omega)];exact t
 have p:c2.take ((Wn T+1)*2)=cV (T.take i++(a,b)::T.drop i):=by
  have e:=rL m.toList (i*2) V l (by omega);rw[<-R,<-X] at e;have e2:i*2+Wn V+Wn l=(Wn T+1)*2:=by omega
  rw[e2] at e;rw[e,<-oO,<-K,<-hD,ak]
 have aC:g<N (E w):=Ud hg;have aD:x<N (E w):=Ud hx;obtain⟨M,r⟩:∃M,M=w.drew.alloc (D m 265):=⟨_,rfl⟩
 have ae:M.heap[N (E w)]?=S (D m 265 (0,0)):=by rw[r];exact Tk w.drew _
 have an:M.heap[x]?=S (D #[Z .i32 a,Z Y b] 265 (0,0)):=by rw[r,TD w.drew _ x aD];exact hx
 have ao:M.heap[g]?=S (D F 265 (0,0)):=by rw[r,TD w.drew _ g aC];exact hg
 rw[<-r] at aj;have o:∀W,W=M->∀L dc,(Builtin.copy_ #[205,205] L #[J (S ⟨N (E w),i*2,U⟩) (Wn T+1-i) dc,J (S ⟨x,0,U⟩) 1 1]).run prog W=.ok (goInt 1) (M.setRow (N (E w)) q.toArray):=λW hW L dc=>by
  subst hW;have h:=eC (P:=prog) W 205 205 L 265 2 (N (E w)) (i*2) (Wn T+1-i) dc ⟨x,0,U⟩ 1 1 m 265 V underlying205 gI ae 1 (by simp only[UY];split <;> omega) (by omega)
   (λj v z=>by
     rw[UE,Ti W x _ _ _ _ an];rw[K] at z;simpa using z) (by rw[<-Uv,ad];omega) (by rw[K];intro v hv;simp at hv;rcases hv with rfl|rfl <;> rfl)
  rw[h,R]
  rfl
 obtain⟨C,u⟩:∃C,C=M.setRow (N (E w)) q.toArray:=⟨_,rfl⟩
 have Q:C.heap[N (E w)]?=S (D q.toArray 265 (0,0)):=by rw[u];exact Uq M _ _ _ _ _ ae
 have aq:C.heap[g]?=S (D F 265 (0,0)):=by rw[u,Uk M _ g _ (by omega)];exact ao
 rw[<-u] at o;have ar:∀W,W=C.drew->∀L dc sc,(Builtin.copy_ #[205,205] L #[J (S ⟨N (E w),(i+1)*2,U⟩) (Wn T+1-(i+1)) dc,J (S ⟨g,i*2,U⟩) (Wn T-i) sc]).run prog W=.ok (goInt ((Wn T-i:Nat):Int)) (C.drew.setRow (N (E w)) c2.toArray):=λW hW L dc sc=>by
  subst hW;have h:=eC (P:=prog) C.drew 205 205 L 265 2 (N (E w)) ((i+1)*2) (Wn T+1-(i+1)) dc ⟨g,i*2,U⟩ (Wn T-i) sc q.toArray 265 l underlying205 gI Q (Wn T-i) (by simp only[UY];split <;> omega) ah
   (λj v z=>by
     rw[UE];refine(Ti C.drew g _ _ _ _ aq).trans ?_;rw[<-Ti w g _ _ _ _ hg];exact y _ v (by rw[hD,UX] at z;exact z)) (by simp;omega) (λv hv=>mA T v (by rw[hD] at hv;exact UR hv))
  rw[h,X];unfold kj;rw[show i*2+Wn V=(i+1)*2 by omega]
 have aa:∀W,W=C.drew.setRow (N (E w)) c2.toArray->W.ownsRow B 265 2 (J (S ⟨N (E w),0,U⟩) (Wn T+1) G) (Wn T+1) (cV (T.take i++(a,b)::T.drop i))/\w.grownBy W (Value.ownBlock (J (S ⟨g,0,U⟩) (Wn T) (Wn T))):=λW hW=>by
  rw[hW];refine⟨⟨by rw[eJ];simp;omega,.inr ⟨N (E w),G,c2.toArray,O,hB,Uq C.drew _ _ _ _ _ Q,aB,ai,by simpa using s,by simpa using p⟩⟩,?_⟩;refine⟨by rw[u,r];rfl,by rw[u,r];rfl,by rw[u,r];rfl,by rw[u,r];simp[World.setRow],λk hk aG=>?_⟩;rw[Uk C.drew _ k _ (by omega)]
  show C.heap[k]?=_
  rw[u,Uk M _ k _ (by omega),r,TD w.drew _ k hk];rfl
 have au:=cU aa;unfold maxLen at ai;have aH:IntKind.i64.wrap ((i:Int)+1)=(i:Int)+1:=by rw[TJ];omega
 have aI:(0:Int)<=(i:Int)+1:=by omega
 have aJ:i<=Wn T:=by omega
 have aE:(i:Int)<=(Wn T:Int):=by omega
 have aK:((i:Int)+1).toNat=i+1:=by omega
 have aL:(i:Int)<=(Wn T:Int)+1:=by omega
 have aM:¬((i:Int)=(Wn T:Int)):=by omega
 have aN:¬(G=i):=by omega
 have aF:¬(G=i+1):=by omega
 have aO:¬(Wn T=i):=by omega
 clear aa p y hD K ah az R X t s hg hx av I ao an r u ae Q aq ad ak A hG hold ab;go_enter func154,ntmps154;go_wp2_with (first
  | (at_builtin;refine Lib.wpList_append_run _ O (.tmp 34) (.tmp 39) _ _ O _ _ O O _ _ (aj _) ?_)
  | (at_builtin;refine wpList_copy_runI _ O (.tmp 43) (.tmp 44) 205 205 O _ _ O O (o _ O _ _) ?_))
 go_region_law (refine step_copy_runI O (.tmp 50) (.tmp 53) 205 205 O _ _ (by simp[Act.eval,Act.put];rfl) (by simp[Act.eval,Act.put];rfl) (ar _ O _ _ _) ?_)
 go_wp2;go_ret;obtain⟨q1,q2⟩:=(cT au) _ rfl;exact⟨_,O,q1,q2⟩
theorem mz(B x:Nat)(v:V6)(T:Sp.Tb)(i:Nat)(a b:Int)(w:V5)(hi:i<=Wn T)(G:B<=N (E w))(h:w.ownsRow B 265 2 v (Wn T) (cV T))(u:Wn T<=100000)(y:v.ownBlock≠S x)(z:w.heap[x]?=S (D #[Z .i32 a,Z Y b] 265 (0,0))):V7 prog 154 #[v,Z Y i,J (S ⟨x,0,U⟩) 1 1] w (ib w B v T i a b):=by
 by_cases K:i=Wn T
 .subst K;exact mn B x v T a b w G h u z
 .rcases h.2 with ⟨I,P⟩|⟨g,l,m,I,A,r,L,C,F,j⟩
  .omega
  .subst I;by_cases M:Wn T+1<=l
   .exact lq B x g l i m T a b w (by omega) A M C u (λe=>y (by rw[e];rfl)) r F j z
   .exact kS B x g l i m T a b w (by omega) G (by omega) u r j (by omega) z
def L2(t B:Nat)(T:Sp.Tb)(y v:Int)(w:V5)(e:Ending)(w':V5):Prop:=Below t w w'/\e=Wd (Wa (!Sp.dD T y))/\oK w' B t (if Sp.dD T y=We then T else Sp.gJ T y v)
theorem nL(t B:Nat)(T:Sp.Tb)(y v:Int)(w:V5)(h:oK w B t T)(s:Sp.dj T)(ht:t<B)(o:B<=N (E w))(Q:Wn T<=100000):V7 prog 102 #[V9 (S ⟨t,0,U⟩),Z .i32 y,Z Y v] w (L2 t B T y v w):=by
 cases hh:Sp.dD T y with
 |true =>
  have m:=cU hh;have b:=cU h;clear hh h;go_enter func102,ntmps102;go_wp2_with fail;refine(nZ t B T y w (cT b) s Q).mono ?_;rintro e w' ⟨rfl,z⟩;rw[cT m];go_wp2;go_ret;refine⟨z.mono (by omega),by rw[cT m];rfl,?_⟩;rw[Tg (cT m)];exact(cT b).below z
 |false =>
  have m:=cU hh;have b:=cU h;clear hh h;go_enter func102,ntmps102;go_wp2_with fail;refine(nZ t B T y w (cT b) s Q).mono ?_;rintro e A ⟨rfl,z⟩;rw[cT m];obtain⟨u,hu,R⟩:=(cT b).below z;have g:=sa hu;have aa:B<=N (E A):=To o z.size;have V:t<N (E A):=by omega
  have C:(A.alloc (D #[Z .i32 y,Z Y v] 265)).heap[t]?=S (D #[u] 207 (0,0)):=by rw[TD _ _ _ V];exact hu
  have W:=cU C;have M:=cU R;have r:=dm R;obtain⟨p,F,rfl,_⟩:=r;have G:=Sp.lW T y;clear hu R C;go_wp2_with fail;refine(mz B (N (E A)) (J p (Wn T) F) T (Sp.dv T y) y v _ G (by simp;omega) ((cT M).alloc _) Q (λI=>by have:=((cT M).lt _ I).2;omega) (Tk A _)).mono ?_;rintro e P ⟨v',rfl,K,j⟩;have l:P.heap[t]?=S (D #[J p (Wn T) F] 207 (0,0)):=by
   rw[j.block t (by simp;omega) (λI=>by have:=((cT M).lt _ I.symm).1;omega)];exact cT W
  have ab:=sa l;have ad:P.frozen? ⟨t,0,U⟩=Wg:=by simp[World.frozen?,l]
  obtain⟨p',L,rfl,_⟩:=dm K;have X:=cU l;clear l g;go_wp2;go_ret;have q:Below t w P:=(z.mono (by omega)).trans ⟨j.os,j.tape,j.output,by have:=j.size;simp at this;omega,λk hk=>by
   rw[j.block k (by simp;omega) (λI=>by have:=((cT M).lt _ I.symm).1;omega),TD _ _ _ (by omega)]⟩
  refine⟨q.setCell V2 _,by rw[cT m];rfl,?_⟩;rw[Tf (by rw[cT m];decide)];refine⟨J p' (Wn T+1) L,?_,?_⟩
  .rw[Tq P t 0 _ _ _ (cT X)];rfl
  .rw[Sp.iN];exact TA K ht _
def xR(w:V5)(p:Option Addr)(P:List (Option Sp.Ln)):Prop := ∀j (h:j<Wn P),∃g,p=S ⟨g,0,U⟩/\g<N (E w)/\w.cell? ⟨g,j*4,U⟩=S (Z Y (Sp.pk P[j]))/\w.cell? ⟨g,j*4+1,U⟩=S (Z .i32 (Sp.pa P[j]))/\w.cell? ⟨g,j*4+2,U⟩=S (Z .i32 (Sp.pb P[j]))/\w.cell? ⟨g,j*4+3,U⟩=S (Z Y (Sp.pn P[j]))
theorem xR.below{w w':V5}{p:Option Addr}{P:List (Option Sp.Ln)}(h:xR w p P)(hb:V4 w w'):xR w' p P:=λj l=>by
 obtain⟨g,e,b,m,r,u,y⟩:=h j l;have:=hb.size;exact⟨g,e,by omega,(hb.cell (p:=⟨g,_,U⟩) b).trans m,(hb.cell (p:=⟨g,_,U⟩) b).trans r,(hb.cell (p:=⟨g,_,U⟩) b).trans u,(hb.cell (p:=⟨g,_,U⟩) b).trans y⟩
theorem L4(P:List (Option Sp.Ln)):∀(k:Nat) (h:k<Wn P),(gO P)[k*4]?=S (Z Y (Sp.pk P[k]))/\(gO P)[k*4+1]?=S (Z .i32 (Sp.pa P[k]))/\(gO P)[k*4+2]?=S (Z .i32 (Sp.pb P[k]))/\(gO P)[k*4+3]?=S (Z Y (Sp.pn P[k])):=by
 induction P with
 |nil=>intro k h;simp at h
 |cons l L b =>
  intro k h;cases k with
  |zero=>exact⟨rfl,rfl,rfl,rfl⟩
  |succ k =>
   have:=b k (by simpa using h);have e:gO (l::L)=kN l++gO L:=by simp[gO]
   rw[e];have j:(kN l).length=4:=rfl;rw[show (k+1)*4=4+k*4 by omega,show 4+k*4+1=4+(k*4+1) by omega,show 4+k*4+2=4+(k*4+2) by omega,show 4+k*4+3=4+(k*4+3) by omega];rw[Tx (by omega),Tx (by omega),Tx (by omega),Tx (by omega),j];simpa using this
theorem mE{w:V5}{B:Nat}{v:V6}{P:List (Option Sp.Ln)}(h:w.ownsRow B 202 4 v (Wn P) (gO P)):∃p b,v=J p (Wn P) b/\xR w p P:=by
 obtain⟨p,b,u,m⟩:=dm h;refine⟨p,b,u,λk y=>?_⟩;obtain⟨z,A,C,F⟩:=L4 P k y;obtain⟨g,r,_,G,I⟩:=m (k*4) (by omega);obtain⟨K,e,_,_,L⟩:=m (k*4+1) (by omega);obtain⟨M,j,_,_,Q⟩:=m (k*4+2) (by omega);obtain⟨R,l,_,_,T⟩:=m (k*4+3) (by omega);have V:K=g:=by rw[r] at e;injection e with q;injection q with q;exact q.symm
 have W:M=g:=by rw[r] at j;injection j with q;injection q with q;exact q.symm
 have X:R=g:=by rw[r] at l;injection l with q;injection q with q;exact q.symm
 subst V W X;exact⟨_,r,G,I.trans z,L.trans A,Q.trans C,T.trans F⟩
def Im(P:List (Option Sp.Ln))(w:V5)(e:Ending)(w':V5):Prop:=V4 w w'/\match Sp.gv P 0 [] with
  |.error k=>e=Wd (Wb #[V9 U,Z Y (k:Nat),Wa Wg])
  |.ok T=>e=Wd (Wb #[V9 (S ⟨N (E w),0,U⟩),Z Y 0,Wa We])/\oK w' (N (E w)+1) (N (E w)) T/\Sp.dj T/\(Wn T)<=Wn P
theorem fT(p:Option Addr)(cap:Nat)(P:List (Option Sp.Ln))(w:V5)(h:xR w p P)(hl:Wn P<=5000):V7 prog 64 #[J p (Wn P) cap] w (Im P w):=by
 go_enter func64,ntmps64;go_wp2
 go_loopw [11] (λi wr=>∃(k:Nat) (T:Sp.Tb),k<=Wn P/\(Wn T)<=k/\i=Z Y k/\oK wr (N (E w)+1) (N (E w)) T/\Hid (Sp.dj T)/\V4 w wr/\(N (E w))+1<=N (E wr)/\Hid (Sp.gv (P.drop k) k T=Sp.gv P 0 [])) (λi _=>Wn P-(intOf i).toNat)
 case atStart=>exact⟨0,[],Tp _,Tp _,rfl,⟨J U 0 0,Tk w _,TH _ _ _ _⟩,List.Pairwise.nil,V3.alloc V2 _,by simp,rfl⟩
 case round =>
  obtain⟨k,T,hk,W,rfl,j,F,m,hz,I⟩:=hrel;by_cases r:k<Wn P
  .obtain⟨g,rfl,X,c0,c1,c2,c3⟩:=(h.below m) k r;have l:=j.below ((Th (N (E wr)) wr).alloc V2 (D #[Z Y (Sp.pk P[k]),Z .i32 (Sp.pa P[k]),Z .i32 (Sp.pb P[k]),Z Y (Sp.pn P[k])] 202));have G:=m.alloc m.size (D #[Z Y (Sp.pk P[k]),Z .i32 (Sp.pa P[k]),Z .i32 (Sp.pb P[k]),Z Y (Sp.pn P[k])] 202);have y:=cU l;have z:=cU G;have M:=cU (λhe=>Sp.MO r T (he:=he));have Q:=cU (λhe ht=>Sp.H4 r T (he:=he) (ht:=ht));have R:=cU (λhe ht=>Sp.PZ r T (he:=he) (ht:=ht));clear l G j;generalize Sp.pk P[k]=K at *;generalize Sp.pa P[k]=A at *;generalize Sp.pb P[k]=Bb at *;generalize Sp.pn P[k]=b at *;have q:N (E w)<N (E wr):=by omega
   by_cases L:K=1
   .subst L;cases hh:Sp.dD T A with
    |true =>
     have B:=cU hh;clear hh;go_wp2_with (go_at_call 102;go_must (refine(nL (N (E w)) (N (E w)+1) T A b _ (cT y) (cT F) (by omega) (by simp;omega) (by omega)).mono ?_;rintro e t ⟨u,rfl,C⟩;rw[cT B]));exact Tj (v := Wb #[V9 U,Z Y k,Wa Wg]) (by simp[results,results64,go_sem]) O ⟨(cT z).trans u,by rw[<-cT I,(cT Q) (by trivial) (cT B)]⟩
    |false =>
     have B:=cU hh;clear hh;go_wp2_with (go_at_call 102;go_must (refine(nL (N (E w)) (N (E w)+1) T A b _ (cT y) (cT F) (by omega) (by simp;omega) (by omega)).mono ?_;rintro e t ⟨u,rfl,C⟩;rw[cT B]));have V:=u.size;simp at V;rw[cT B] at C;go_roundw
     case rel =>
      exact⟨k+1,Sp.gJ T A b,by omega,by rw[Sp.iN];omega,by go_num,C,Sp.iw (cT F) (cT B),(cT z).trans u,by omega,by show _=_;rw[<-cT I];exact((cT R) (by trivial) (cT B)).symm⟩
     case measure=>simp[intOf];omega
   .have s:(K == 1)=Wg:=Tt.2 L;have o:=cU L;clear L;go_wp2;go_roundw
    case rel =>
     exact⟨k+1,T,by omega,by omega,by go_num,cT y,F,cT z,by simp;omega,by show _=_;rw[<-cT I];exact((cT M) (cT o)).symm⟩
    case measure=>simp[intOf];omega
  .go_wp2;refine Tj (v := Wb #[V9 (S ⟨N (E w),0,U⟩),Z Y 0,Wa We]) (by simp[results,results64,go_sem]) O ⟨m,?_⟩;rw[<-cT I,Sp.Qm (by omega) T];exact⟨O,j,cT F,by omega⟩
def MA(P:List (Option Sp.Ln))(T:Sp.Tb)(w:V5)(e:Ending)(w':V5):Prop:=V4 w w'/\match Sp.ge T P 0 [] with
  |.error k=>e=Wd (Wb #[J U 0 0,Z Y (k:Nat),Wa Wg])
  |.ok b=>∃v,e=Wd (Wb #[v,Z Y 0,Wa We])/\w'.ownsRow (N (E w)) 162 3 v (Wn b) (dq b)/\(Wn b)<=Wn P
theorem iT(p:Option Addr)(cap t B:Nat)(P:List (Option Sp.Ln))(T:Sp.Tb)(w:V5)(h:xR w p P)(hl:Wn P<=5000)(hT:oK w B t T)(hS:Sp.dj T)(Q:Wn T<=100000):V7 prog 65 #[J p (Wn P) cap,V9 (S ⟨t,0,U⟩)] w (MA P T w):=by
 obtain⟨i0,hi,af,ag,ah⟩:=TN info_edge;have HT:=cU hT;have HS:=cU hS;clear hT hS;go_enter func65,ntmps65;go_wp2
 go_loopw [7,16] (λv i wr=>∃(k:Nat) (b:List Sp.Ed),k<=Wn P/\(Wn b)<=k/\i=Z Y k/\wr.ownsRow (N (E w)) 162 3 v (Wn b) (dq b)/\V4 w wr/\Hid (Sp.ge T (P.drop k) k b=Sp.ge T P 0 [])) (λ_ i _=>Wn P-(intOf i).toNat)
 case atStart=>exact⟨0,[],Tp _,Tp _,rfl,TH _ _ _ _,Th _ _,rfl⟩
 case round =>
  obtain⟨k,b,hk,aq,rfl,ho,C,R⟩:=hrel;by_cases F:k<Wn P
  .obtain⟨g,rfl,ar,c0,c1,c2,c3⟩:=(h.below C) k F;have V:=C.alloc C.size (D #[Z Y (Sp.pk P[k]),Z .i32 (Sp.pa P[k]),Z .i32 (Sp.pb P[k]),Z Y (Sp.pn P[k])] 202);have W:=ho.alloc (D #[Z Y (Sp.pk P[k]),Z .i32 (Sp.pa P[k]),Z .i32 (Sp.pb P[k]),Z Y (Sp.pn P[k])] 202);have G:=cU V;have X:=cU W;have ai:=cU (λhe=>Sp.Nj (T:=T) F b (he:=he));have q:=cU (λhe ht=>Sp.Kk (T:=T) F b (he:=he) (ht:=ht));have aj:=cU (λhe ha hb=>Sp.Pn (T:=T) F b (he:=he) (ha:=ha) (hb:=hb));clear V W ho;generalize Sp.pk P[k]=K at *;generalize Sp.pa P[k]=A at *;generalize Sp.pb P[k]=Bb at *;generalize Sp.pn P[k]=l at *;by_cases hK:K=2
   .subst hK;have au:((2:Int) != 2)=Wg:=by decide
    go_wp2_with fail;refine(nZ t B T A _ ((cT HT).below (cT G)) (cT HS) Q).mono ?_;rintro e w1 ⟨rfl,m⟩;have y0:=m.cell (p:=⟨N (E wr),0,U⟩) (by simp);have y1:=m.cell (p:=⟨N (E wr),1,U⟩) (by simp);have y2:=m.cell (p:=⟨N (E wr),2,U⟩) (by simp);have y3:=m.cell (p:=⟨N (E wr),3,U⟩) (by simp);simp at y0 y1 y2 y3;have s:=(cT G).trans (m.mono (cT G).size);have L:=cU s;have ak:=cU (de (cT X) m);have I:N (E wr)<N (E w1):=by have:=m.size;simp at this;omega
    clear s m;generalize o:Sp.dD T A=ta;have HA:=cU o;clear o;go_wp2_with fail;refine(nZ t B T Bb _ ((cT HT).below (cT L)) (cT HS) Q).mono ?_;rintro e w2 ⟨rfl,r⟩;have u0:=(r.cell (p:=⟨N (E wr),0,U⟩) I).trans y0;have u1:=(r.cell (p:=⟨N (E wr),1,U⟩) I).trans y1;have u2:=(r.cell (p:=⟨N (E wr),2,U⟩) I).trans y2;have u3:=(r.cell (p:=⟨N (E wr),3,U⟩) I).trans y3;have y:=(cT L).trans (r.mono (cT L).size);have M:=de (cT ak) r;have an:=y.size;clear r y0 y1 y2 y3;generalize aa:Sp.dD T Bb=tb;have ab:=cU aa;clear aa;cases ta with
    |false =>
     cases tb with
     |_ =>
      go_wp2;exact Tj (v := Wb #[J U 0 0,Z Y k,Wa Wg]) (by simp[results,results65,go_sem]) O ⟨y,by rw[<-cT R,(cT q) (by trivial) (λhq=>by rw[cT HA] at hq;cases hq.1)]⟩
    |true =>
     cases tb with
     |false =>
      go_wp2;exact Tj (v := Wb #[J U 0 0,Z Y k,Wa Wg]) (by simp[results,results65,go_sem]) O ⟨y,by rw[<-cT R,(cT q) (by trivial) (λhq=>by rw[cT ab] at hq;cases hq.2)]⟩
     |true =>
      go_wp2_with (first
       | (at_builtin;go_must (refine Vf _ O (.tmp 45) (.tmp 51) 66 O (N (E w)) 162 i0 _ 3 24 underlying66 hi af ag ah O (by decide) _ _ _ O (M.alloc _) ⟨N (E w2),0,U⟩ 1 1 [Z Y (Sp.dv T A:Nat),Z Y (Sp.dv T Bb:Nat),Z Y l] O O ?c1 ?c2 ?c3 ?c4 ?c5 ?_))
       |go_in)
      case c1 =>
       intro j u z
       match j,z with
       |0,z=>simp at z;subst z;simp[Addr.add]
       |1,z=>simp at z;subst z;simp[Addr.add]
       |2,z=>simp at z;subst z;simp[Addr.add]
      case c2=>intro u hu;simp at hu;rcases hu with rfl | rfl | rfl <;> rfl
      case c3=>unfold maxLen;omega
      case c4=>omega
      case c5=>simp;omega
      intro v3 w3 ao ad _;have ae:=qO (ys:=[]) (v':=v3) (by simp;omega) (M.alloc _) (y.alloc an _) ad;clear ad M y;go_wp2;go_roundw
      case rel =>
       exact⟨k+1,b++[⟨Sp.dv T A,Sp.dv T Bb,l⟩],by omega,by simp;omega,by go_num,by simpa [dq,Vg] using ao,ae,by
        show _=_;rw[<-cT R];exact((cT aj) (by trivial) (cT HA) (cT ab)).symm⟩
      case measure=>simp[intOf];omega
   .have av:(K != 2)=We:=by rw[UZ];exact hK
    have HK:=cU hK;clear hK;go_wp2;go_roundw
    case rel =>
     exact⟨k+1,b,by omega,by omega,by go_num,cT X,cT G,by show _=_;rw[<-cT R];exact((cT ai) (cT HK)).symm⟩
    case measure=>simp[intOf];omega
  .go_wp2;refine Tj (v := Wb #[u7,Z Y 0,Wa We]) (by simp[results,results65,go_sem]) O ⟨C,?_⟩;rw[<-cT R,Sp.O8 (by omega) b];exact⟨_,O,ho,by omega⟩
theorem Sp.KL(s:V8)(i:Nat)(h:¬i<s.size):Sp.bt s i=0:=by
 unfold Sp.bt;cases s with | mk d =>
 show (d[i]!).toNat=0
 rw[getElem!_neg d i h];rfl
theorem Sp.zM(s:V8)(k p:Nat)(b:k<=s.size):Sp.bt (s.extract k s.size) p=Sp.bt s (k+p):=by
 by_cases h:k+p<s.size
 .exact Sp.BX s k s.size p V2 h
 .rw[Sp.KL _ _ (by simp;omega),Sp.KL _ _ (by omega)]
theorem Sp.Nl(s:V8)(k:Nat)(e:k<s.size):Utf8.decode (s.extract k s.size) 0=Utf8.decode s k:=by
 rw[Sp.dec,Sp.dec];have b:(s.extract k s.size).size-0=s.size-k:=by simp
 rw[b,Sp.zM s k _ (by omega),Sp.zM s k _ (by omega),Sp.zM s k _ (by omega),Sp.zM s k _ (by omega)];simp only[Uo,TM]
theorem Sp.PL(s:V8)(k:Nat)(b:k<s.size):Lib.decodeGo (s.extract k s.size)=Utf8.decode s k:=by
 unfold Lib.decodeGo;rw[Tf (by simp;omega),Sp.Nl s k b]
theorem eN{w w':V5}(h:Lib.Utf8Tabs 3 4 w)(hb:V4 w w'):Lib.Utf8Tabs 3 4 w':=by
 obtain⟨e,b⟩:=h;refine⟨λc j=>?_,λi hi=>⟨?_,?_⟩⟩
 .rw[hb.cell (Tu w _ (e c j))];exact e c j
 .rw[hb.cell (Tu w _ (b i hi).1)];exact(b i hi).1
 .rw[hb.cell (Tu w _ (b i hi).2)];exact(b i hi).2
def Ku(s:V8)(w:V5)(e:Ending)(w':V5):Prop:=V4 w w'/\match Sp.bad s with
  |some i=>e=Wd (Wb #[Z Y (i:Nat),Wa We])
  |none=>e=Wd (Wb #[Z Y 0,Wa Wg])
theorem fP(s:V8)(w:V5)(p:s.size<=4000)(Q:Lib.Utf8Tabs 3 4 w):V7 prog 62 #[H s] w (Ku s w):=by
 have R:=cU Q;clear Q;go_enter func62,ntmps62;go_wp2
 go_loopw [2] (λ_ wr=>∃(k f:Nat),k<=s.size/\s.size-k<=f/\wr.heap[N (E w)]?=S (.stringIter s k)/\V4 w wr/\Hid (Sp.gq s f k=Sp.bad s)) (λ_ wr=>s.size-wr.iterPos (N (E w)))
 case atStart=>exact⟨0,s.size,Tp _,by omega,World.iter_heap w s 0,V3.alloc V2 _,rfl⟩
 case round =>
  obtain⟨k,f,o,hf,hit,A,M⟩:=hrel;have r:=iterPos_of hit;by_cases m:k<s.size
  .obtain⟨f,rfl⟩:∃g,f=g+1:=⟨f-1,by omega⟩
   have G:=Sp.iQ m;have T:=cU (Sp.PL s k m);have u:∀B,(Instr.next (V9 (S ⟨N (E w),0,U⟩)) We B).run prog wr=_:=λB=>Lib.run_next_any_at wr (N (E w)) s k B hit m
   have l:=Lib.iterAt_heap wr (N (E w)) s k (k+(Utf8.decode s k).2) hit;have j:=Lib.below_iterAt A (k:=N (E w)) V2 s (k+(Utf8.decode s k).2);obtain⟨V,I⟩:∃V,V=wr.iterAt (N (E w)) s (k+(Utf8.decode s k).2):=⟨_,rfl⟩
   rw[<-I] at u l j;clear I hit A;have hx:s.extract k s.size=s.extract k s.size:=rfl;by_cases hd:Utf8.decode s k=(65533,1)
   .have F:Hid (Sp.bad s=S k):=by
     show _=_;rw[<-M.out];simp only[Sp.gq];rw[Tg m,Tg hd]
    have W:=cU hd;rw[hd] at u;have C:=cU (eN (cT R) j);clear hd G;go_wp2_with fail;refine(Tryz.utf8_DecodeRuneInString _ _ (cT C)).mono ?_;rintro e X ⟨rfl,y⟩;rw[cT T,cT W];go_wp2;exact Tj (v := Wb #[Z Y k,Wa We]) (by simp[results,results62,go_sem]) O ⟨j.trans (y.mono j.size),by rw[cT F]⟩
   .have F:Hid (Sp.gq s f (k+(Utf8.decode s k).2)=Sp.bad s):=by
     show _=_;rw[<-M.out];simp only[Sp.gq];rw[Tg m,Tf hd]
    by_cases K:(Utf8.decode s k).1=65533
    .have q:¬(Utf8.decode s k).2=1:=λh=>hd (Prod.ext K h)
     have C:=cU (eN (cT R) j);clear hd;generalize Utf8.decode s k=b at *;obtain⟨t,L⟩:=b;simp only at K q G l u;subst K;have P:(((L:Nat):Int) == 1)=Wg:=Tt.2 (by omega);go_wp2_with fail;refine(Tryz.utf8_DecodeRuneInString _ _ (cT C)).mono ?_;rintro e X ⟨rfl,y⟩;rw[cT T];have z:=(y.block _ (Ud l)).trans l;go_wp2;go_roundw
     case rel=>exact⟨k+L,f,by omega,by omega,z,j.trans (y.mono j.size),F⟩
     case measure=>rw[iterPos_of z,r];omega
    .have P:((((Utf8.decode s k).1:Nat):Int) != 65533)=We:=by rw[UZ];omega
     clear hd K;generalize Utf8.decode s k=b at *;obtain⟨t,L⟩:=b;go_wp2;go_roundw
     case rel=>exact⟨k+L,f,by omega,by omega,l,j,F⟩
     case measure=>rw[iterPos_of l,r];omega
  .have F:Hid (Sp.bad s=U):=by
    show _=_;rw[<-M.out]
    cases f with
    |zero=>rfl
    |succ f=>simp only[Sp.gq];rw[Tf m]
   have u:∀B,(Instr.next (V9 (S ⟨N (E w),0,U⟩)) We B).run prog wr=_:=λB=>Lib.run_next_end_at wr (N (E w)) s k B hit m
   go_wp2;exact Tj (v := Wb #[Z Y 0,Wa Wg]) (by simp[results,results62,go_sem]) O ⟨A,by rw[cT F]⟩
end Go.Proofs.YtgkkdpegcieakaaGreatDoor
