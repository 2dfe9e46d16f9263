import Derived.Test.YtgkkdpegcieakaaGreatDoorCz01
set_option linter.unusedVariables false
set_option linter.unusedSimpArgs false
set_option maxRecDepth 100000
set_option maxHeartbeats 16000000
namespace Go.Proofs.YtgkkdpegcieakaaGreatDoor
open Go.Proofs.Tryz
open Value renaming int→Z
open IntKind renaming i64→Y
open Go renaming World→TJ,Value→TK,Calls→TL
section
open Go.RowKit
def iI(r:Int):Bool:=decide (¬(r=32\/r=62))
theorem gi(r:Int)(w:TJ):TL prog 216 #[Z .i32 r] w λe m=>e=.returned (.bool (iI r))/\m=w:=by
 by_cases j:r=32
 .have b:iI r=false:=by simp[iI,j]
  have u:(r != 32)=false:=by simp[j]
  rw[b];clear j b;go_enter func216,ntmps216;go_wp2;go_ret;exact⟨rfl,rfl⟩
 .have u:(r != 32)=true:=by simp[j]
  by_cases l:r=62
  .have b:iI r=false:=by simp[iI,l]
   have y:(r != 62)=false:=by simp[l]
   rw[b];clear j l b;go_enter func216,ntmps216;go_wp2;go_ret;exact⟨rfl,rfl⟩
  .have b:iI r=true:=by simp[iI,j,l]
   have y:(r != 62)=true:=by simp[l]
   rw[b];clear j l b;go_enter func216,ntmps216;go_wp2;go_ret;exact⟨rfl,rfl⟩
def yj(r:List Int):Bool:=decide (2<=r.length)&&(iI (r.getD 0 0)&&(r.getD 1 0 == 32))
def Ad(r:List Int):Bool:=decide (4<=r.length)&&(iI (r.getD 0 0)&&((r.getD 1 0 == 62)&&(iI (r.getD 2 0)&&(r.getD 3 0 == 32))))
theorem iT{w:TJ}{k:IntKind}{p:Option Addr}{V:List Int}(h:fF w k p V)(j:Nat)(e:j<V.length):∃g,p=some ⟨g,0,none⟩/\w.cell? ⟨g,j,none⟩=some (Z k (V.getD j 0)):=by
 obtain⟨g,a,_,b⟩:=h j e;exact⟨g,a,by rw[b];simp[e]⟩
theorem ig(p:Option Addr)(cap:Nat)(r:List Int)(w:TJ)(h:fF w .i32 p r)(D:r.length<=5000):TL prog 151 #[.slice p r.length cap] w λe u=>e=.returned (.bool (yj r))/\u=w:=by
 by_cases A:2<=r.length
 .obtain⟨g,rfl,B⟩:=iT h 0 (by omega);obtain⟨E,j,C⟩:=iT h 1 (by omega);injection j with j;injection j with j;subst j;have l:yj r=(iI (r.getD 0 0)&&(r.getD 1 0 == 32)):=by unfold yj;rw[kH A];rfl
  rw[l];clear l h;generalize r.getD 0 0=a at B;generalize r.getD 1 0=b at C;have y:2<=((r.length:Nat):Int):=by omega
  have F:(0:Int)<((r.length:Nat):Int):=by omega
  have G:(1:Int)<((r.length:Nat):Int):=by omega
  cases m:iI a with
  |false =>
   have z:=cP m;clear m;go_enter func151,ntmps151;go_wp2_with (go_at_call 216;refine(gi _ _).mono ?_;rintro e u ⟨rfl,rfl⟩;rw[cO z]);go_ret;exact⟨rfl,rfl⟩
  |true =>
   have z:=cP m;clear m;go_enter func151,ntmps151;go_wp2_with (go_at_call 216;refine(gi _ _).mono ?_;rintro e u ⟨rfl,rfl⟩;rw[cO z]);go_ret;exact⟨rfl,rfl⟩
 .have l:yj r=false:=by unfold yj;rw[df A];rfl
  rw[l];have y:((r.length:Nat):Int)<2:=by omega
  go_enter func151,ntmps151;go_wp2;go_ret;exact⟨rfl,rfl⟩
theorem n8(p:Option Addr)(cap:Nat)(r:List Int)(w:TJ)(h:fF w .i32 p r)(F:r.length<=5000):TL prog 153 #[.slice p r.length cap] w λe j=>e=.returned (.bool (Ad r))/\j=w:=by
 by_cases A:4<=r.length
 .obtain⟨g,rfl,B⟩:=iT h 0 (by omega);obtain⟨G,l,C⟩:=iT h 1 (by omega);injection l with l;injection l with l;subst l;obtain⟨H,m,D⟩:=iT h 2 (by omega);injection m with m;injection m with m;subst m;obtain⟨I,u,E⟩:=iT h 3 (by omega);injection u with u;injection u with u;subst u;have y:Ad r=(iI (r.getD 0 0)&&((r.getD 1 0 == 62)&&(iI (r.getD 2 0)&&(r.getD 3 0 == 32)))):=by unfold Ad;rw[kH A];rfl
  rw[y];clear y h;generalize r.getD 0 0=a at B;generalize r.getD 1 0=b at C;generalize r.getD 2 0=c at D;generalize r.getD 3 0=d at E;have z:4<=((r.length:Nat):Int):=by omega
  have J:(0:Int)<((r.length:Nat):Int):=by omega
  have K:(1:Int)<((r.length:Nat):Int):=by omega
  have L:(2:Int)<((r.length:Nat):Int):=by omega
  have M:(3:Int)<((r.length:Nat):Int):=by omega
  cases N:iI a with
  |false =>
   go_enter func153,ntmps153;go_wp2_with (go_at_call 216;refine(gi _ _).mono ?_;rintro e j ⟨rfl,rfl⟩);go_ret;exact⟨by simp,rfl⟩
  |true =>
   cases hb:(b == 62) with
   |false =>
    go_enter func153,ntmps153;go_wp2_with (go_at_call 216;refine(gi _ _).mono ?_;rintro e j ⟨rfl,rfl⟩);go_ret;exact⟨by simp,rfl⟩
   |true =>
    cases O:iI c with
    |false =>
     go_enter func153,ntmps153;go_wp2_with (go_at_call 216;refine(gi _ _).mono ?_;rintro e j ⟨rfl,rfl⟩);go_ret;exact⟨by simp,rfl⟩
    |true =>
     go_enter func153,ntmps153;go_wp2_with (go_at_call 216;refine(gi _ _).mono ?_;rintro e j ⟨rfl,rfl⟩);go_ret;exact⟨by simp,rfl⟩
 .have y:Ad r=false:=by unfold Ad;rw[df A];rfl
  rw[y];have z:((r.length:Nat):Int)<4:=by omega
  go_enter func153,ntmps153;go_wp2;go_ret;exact⟨rfl,rfl⟩
def gO(k a b n:Int):TK := .agg #[Z Y k,Z .i32 a,Z .i32 b,Z Y n]
def Gn(l:Sp.Ln):TK:=if l.iR=true then gO 2 l.de l.vo l.n else gO 1 l.de 0 l.n
def mD(r:List Int)(w:TJ)(e:Ending)(w':TJ):Prop:=TI w w'/\
 match r with
 |[]=>e=.returned (.tuple #[gO 0 0 0 0,.bool true])
 |_::_=>match Sp.lJ r with
  |some l=>e=.returned (.tuple #[Gn l,.bool true])
  |none=>∃k a b n:Int,e=.returned (.tuple #[gO k a b n,.bool false])
end
section
open Go.RowKit
variable {r:List Int}
theorem QF(h:yj r=true): Sp.lJ r=(Sp.numOf (r.drop 2)).map λn=>⟨false,r.getD 0 0,0,n⟩:=by
 match r,h with
 |[],h=>simp[yj] at h
 |[_],h=>simp[yj] at h
 |a::b::t,h =>
  simp[yj,iI] at h;obtain⟨⟨e,j⟩,l⟩:=h;subst l;simp[Sp.lJ,e,j]
theorem Ra(A:yj r=false)(h:Ad r=true): Sp.lJ r=(Sp.numOf (r.drop 4)).map λn=>⟨true,r.getD 0 0,r.getD 2 0,n⟩:=by
 match r,h with
 |[],h=>simp[Ad] at h
 |[_],h=>simp[Ad] at h
 |[_,_],h=>simp[Ad] at h
 |[_,_,_],h=>simp[Ad] at h
 |a::b::c::d::u,h =>
  simp[Ad,iI] at h;obtain⟨⟨e,j⟩,l,⟨m,y⟩,z⟩:=h;subst l z;simp[Sp.lJ,e,j,m,y]
theorem Pt(l:yj r=false)(h:Ad r=false): Sp.lJ r=none:=by
 match r,l,h with
 |[],_,_=>rfl
 |[_],_,_=>rfl
 |[a,b],l,_ =>
  simp[yj,iI] at l;simp only[Sp.lJ];by_cases j:a=32\/a=62
  .rw[cg j]
  .rw[cd j];have m:¬b=32:=λe=>by
    have:=l (λx=>j (Or.inl x)) (λx=>j (Or.inr x));exact this e
   rw[cd m];split <;> rfl
 |[a,b,c],l,_ =>
  simp[yj,iI] at l;simp only[Sp.lJ];by_cases j:a=32\/a=62
  .rw[cg j]
  .rw[cd j];have m:¬b=32:=λe=>by
    have:=l (λx=>j (Or.inl x)) (λx=>j (Or.inr x));exact this e
   rw[cd m];split <;> rfl
 |a::b::c::d::u,l,h =>
  simp[yj,iI] at l;simp[Ad,iI] at h;simp only[Sp.lJ];by_cases j:a=32\/a=62
  .rw[cg j]
  .rw[cd j];have m:¬b=32:=λe=>by
    have:=l (λx=>j (Or.inl x)) (λx=>j (Or.inr x));exact this e
   rw[cd m];by_cases z:b=62
   .rw[cg z];by_cases y:c=32\/c=62
    .rw[cg y]
    .rw[cd y];have A:¬d=32:=λe=>h (λx=>j (Or.inl x)) (λx=>j (Or.inr x)) z (λx=>y (Or.inl x)) (λx=>y (Or.inr x)) e
     rw[cd A]
   .rw[cd z]
theorem qT{w w':TJ}{k a b n:Int}(e:r≠[])(h:Sp.lJ r=none)(hb:TI w w'): mD r w (.returned (.tuple #[gO k a b n,.bool false])) w':=by
 refine⟨hb,?_⟩;cases r with
 |nil=>exact absurd rfl e
 |cons x t=>rw[h];exact⟨k,a,b,n,rfl⟩
theorem rE{w w':TJ}{l:Sp.Ln}(h:Sp.lJ r=some l)(hb:TI w w'): mD r w (.returned (.tuple #[Gn l,.bool true])) w':=by
 refine⟨hb,?_⟩;cases r with
 |nil=>cases h
 |cons x t=>rw[h]
theorem vV(p:Option Addr)(cap:Nat)(w:TJ):TL prog 101 #[.slice p 0 cap] w (mD [] w):=by
 go_enter func101,ntmps101;go_wp2;exact cr (v := .tuple #[gO 0 0 0 0,.bool true]) (by simp[results,results101,go_sem,gO]) rfl ⟨TH.alloc TG _,rfl⟩
theorem AG(p:Option Addr)(cap:Nat)(r:List Int)(w:TJ)(h:fF w .i32 p r)(m:r.length<=5000)(b:r≠[])(u:yj r=false)(he:Ad r=false):TL prog 101 #[.slice p r.length cap] w (mD r w):=by
 have y:0<r.length:=by cases r with | nil=>exact absurd rfl b | cons _ _=>simp
 have B:(((r.length:Nat):Int) == 0)=false:=cC.2 (by omega);have z:=cP (Pt u he);have j:TI w (w.alloc (.cells #[Z Y 0,Z .i32 0,Z .i32 0,Z Y 0] 202)):=TH.alloc TG _;go_enter func101,ntmps101;go_wp2_with fail;refine(ig p cap r _ (h.below j) m).mono ?_;rintro e A ⟨rfl,l⟩;obtain rfl:=l.symm;rw[u];go_wp2_with fail;refine(n8 p cap r _ (h.below j) m).mono ?_;rintro e A ⟨rfl,l⟩;obtain rfl:=l.symm;rw[he];go_wp2;exact cr (v := .tuple #[gO 0 0 0 0,.bool false]) (by simp[results,results101,go_sem,gO]) rfl (qT b (cO z) j)
theorem xj(w:TJ)(g c b:Nat)(r:List Int)(h:fF w .i32 (some ⟨g,0,none⟩) r)(u:b<=r.length):(convert 65 9 (.slice (some ⟨g,b,none⟩) (r.length-b) c)).run prog w=.ok (.string (runesBytes (r.drop b))) w:=by
 have:=run_convert_runes (P:=prog) w 65 9 21 ⟨g,b,none⟩ (r.length-b) c (r.drop b) (by simp) underlying65 underlying21 underlying9 (by
  intro j l;rw[uT] at l;obtain⟨y,e,_,m⟩:=h (b+j) (by omega);injection e with e;injection e with e;subst e;rw[Ax,m];simp[List.getD,Gt,cH (show b+j<r.length by omega)])
 rw[this,zS (by simp)]
theorem wS(w:TJ)(g c:Nat)(r:List Int)(b:Nat)(l:r.length=b):(convert 65 9 (.slice (some ⟨g,0,none⟩) 0 c)).run prog w=.ok (.string (runesBytes (r.drop b))) w:=by
 have:=run_convert_runes (P:=prog) w 65 9 21 ⟨g,0,none⟩ 0 c [] (by simp) underlying65 underlying21 underlying9 (by intro j e;simp at e);rw[this,Dl (by omega),List.take_nil]
theorem CF(g cap:Nat)(r:List Int)(w:TJ)(h:fF w .i32 (some ⟨g,0,none⟩) r)(M:r.length<=5000)(hc:r.length<=cap)(P:cap<=maxLen)(D:yj r=true)(E:(runesBytes (r.drop 2)).size<=4000)(ab:∀y∈r,0<=y/\y<=1114111):TL prog 101 #[.slice (some ⟨g,0,none⟩) r.length cap] w (mD r w):=by
 have j:2<=r.length:=by
  apply Ty;intro hx;unfold yj at D;rw[df hx] at D;cases D
 have F:r≠[]:=λe=>by rw[e] at j;simp at j
 have h0:(((r.length:Nat):Int) == 0)=false:=cC.2 (by omega);have N:=cP (QF D);have R:TI w (w.alloc (.cells #[Z Y 0,Z .i32 0,Z .i32 0,Z Y 0] 202)):=TH.alloc TG _;have S:=h.below R;obtain⟨_,G,T⟩:=iT h 0 (by omega);injection G with G;injection G with G;subst G;unfold maxLen at P;have z0:(0:Int)<((r.length:Nat):Int):=by omega
 have H:=cE w _ T;generalize I:runesBytes (r.drop 2)=Q at E;have O:=cP I;have HW:Hid (TL prog 152 #[.string Q] (w.alloc (.cells #[Z Y 0,Z .i32 0,Z .i32 0,Z Y 0] 202)) λe U=>e=.returned (mZ (Sp.number Q.data.toList))/\Below (w.alloc (.cells #[Z Y 0,Z .i32 0,Z .i32 0,Z Y 0] 202)).heap.size (w.alloc (.cells #[Z Y 0,Z .i32 0,Z .i32 0,Z Y 0] 202)) U):=mU Q _ E;by_cases J:cap=2
 .subst J;have K:r.length=2:=by omega
  have m:=wS (w.alloc (.cells #[Z Y 0,Z .i32 0,Z .i32 0,Z Y 0] 202)) g 0 r 2 K;rw[I] at m;clear I K;go_enter func101,ntmps101;go_wp2_with fail;refine(ig _ _ r _ S M).mono ?_;rintro e U ⟨rfl,V⟩;obtain rfl:=V.symm;rw[D];clear M;go_wp2_with fail;refine(cO HW).mono ?_;rintro e w2 ⟨rfl,b⟩;have u:=b.cell (p:=⟨w.heap.size,0,none⟩) (by simp);have z:=b.cell (p:=⟨w.heap.size,1,none⟩) (by simp);have A:=b.cell (p:=⟨w.heap.size,2,none⟩) (by simp);have B:=b.cell (p:=⟨w.heap.size,3,none⟩) (by simp);have W:=b.frozen (p:=⟨w.heap.size,0,none⟩) (by simp);have X:=b.frozen (p:=⟨w.heap.size,1,none⟩) (by simp);have q:=b.frozen (p:=⟨w.heap.size,2,none⟩) (by simp);have t:=b.frozen (p:=⟨w.heap.size,3,none⟩) (by simp);have s:=(b.cell (p:=⟨g,0,none⟩) (by simp;omega)).trans (nr H T);have o:=b.size;simp at u z A B W X q t o;have l:=R.trans (b.mono (by simp));cases L:Sp.number Q.data.toList with
  |none =>
   have C:Hid (Sp.lJ r=none):=by show _=_;rw[cO N];unfold Sp.numOf;rw[cO O,L];rfl
   rw[ju];clear b;go_wp2;exact cr (v := .tuple #[gO 1 (r.getD 0 0) 0 0,.bool false]) (by simp[results,results101,go_sem,gO,u,z,A,B]) rfl (qT F (cO C) ((((l.setCell TG _).setCell TG _).setCell TG _).setCell TG _))
  |some v =>
   have C:Hid (Sp.lJ r=some ⟨false,r.getD 0 0,0,v⟩):=by show _=_;rw[cO N];unfold Sp.numOf;rw[cO O,L];rfl
   rw[jt];clear b;go_wp2;exact cr (v := .tuple #[Gn ⟨false,r.getD 0 0,0,v⟩,.bool true]) (by simp[results,results101,go_sem,gO,Gn,u,z,A,B]) rfl (rE (cO C) ((((l.setCell TG _).setCell TG _).setCell TG _).setCell TG _))
 .have m:=xj (w.alloc (.cells #[Z Y 0,Z .i32 0,Z .i32 0,Z Y 0] 202)) g (cap-2) 2 r S j;rw[I] at m;clear I;have aa:2<cap:=by omega
  go_enter func101,ntmps101;go_wp2_with fail;refine(ig _ _ r _ S M).mono ?_;rintro e U ⟨rfl,V⟩;obtain rfl:=V.symm;rw[D];clear M;go_wp2_with fail;refine(cO HW).mono ?_;rintro e w2 ⟨rfl,b⟩;have u:=b.cell (p:=⟨w.heap.size,0,none⟩) (by simp);have z:=b.cell (p:=⟨w.heap.size,1,none⟩) (by simp);have A:=b.cell (p:=⟨w.heap.size,2,none⟩) (by simp);have B:=b.cell (p:=⟨w.heap.size,3,none⟩) (by simp);have W:=b.frozen (p:=⟨w.heap.size,0,none⟩) (by simp);have X:=b.frozen (p:=⟨w.heap.size,1,none⟩) (by simp);have q:=b.frozen (p:=⟨w.heap.size,2,none⟩) (by simp);have t:=b.frozen (p:=⟨w.heap.size,3,none⟩) (by simp);have s:=(b.cell (p:=⟨g,0,none⟩) (by simp;omega)).trans (nr H T);have o:=b.size;simp at u z A B W X q t o;have l:=R.trans (b.mono (by simp));cases L:Sp.number Q.data.toList with
  |none =>
   have C:Hid (Sp.lJ r=none):=by show _=_;rw[cO N];unfold Sp.numOf;rw[cO O,L];rfl
   rw[ju];clear b;go_wp2;exact cr (v := .tuple #[gO 1 (r.getD 0 0) 0 0,.bool false]) (by simp[results,results101,go_sem,gO,u,z,A,B]) rfl (qT F (cO C) ((((l.setCell TG _).setCell TG _).setCell TG _).setCell TG _))
  |some v =>
   have C:Hid (Sp.lJ r=some ⟨false,r.getD 0 0,0,v⟩):=by show _=_;rw[cO N];unfold Sp.numOf;rw[cO O,L];rfl
   rw[jt];clear b;go_wp2;exact cr (v := .tuple #[Gn ⟨false,r.getD 0 0,0,v⟩,.bool true]) (by simp[results,results101,go_sem,gO,Gn,u,z,A,B]) rfl (rE (cO C) ((((l.setCell TG _).setCell TG _).setCell TG _).setCell TG _))
theorem CE(g cap:Nat)(r:List Int)(w:TJ)(h:fF w .i32 (some ⟨g,0,none⟩) r)(L:r.length<=5000)(hc:r.length<=cap)(aa:cap<=maxLen)(hv:yj r=false)(he:Ad r=true)(M:(runesBytes (r.drop 4)).size<=4000)(ad:∀y∈r,0<=y/\y<=1114111):TL prog 101 #[.slice (some ⟨g,0,none⟩) r.length cap] w (mD r w):=by
 have l:4<=r.length:=by
  apply Ty;intro hx;unfold Ad at he;rw[df hx] at he;cases he
 have N:r≠[]:=λe=>by rw[e] at l;simp at l
 have h0:(((r.length:Nat):Int) == 0)=false:=cC.2 (by omega);have q:=Ra hv he;have hb:TI w (w.alloc (.cells #[Z Y 0,Z .i32 0,Z .i32 0,Z Y 0] 202)):=TH.alloc TG _;have O:=h.below hb;obtain⟨_,P,t⟩:=iT h 0 (by omega);injection P with P;injection P with P;subst P;unfold maxLen at aa;have z0:(0:Int)<((r.length:Nat):Int):=by omega
 have D:=cE w _ t;obtain⟨_,R,x2⟩:=iT h 2 (by omega);injection R with R;injection R with R;subst R;have z2:(2:Int)<((r.length:Nat):Int):=by omega
 have ae:0<r.length:=by omega
 have af:2<r.length:=by omega
 obtain⟨B,S⟩:∃a,r.getD 0 0=a:=⟨_,rfl⟩
 obtain⟨C,T⟩:∃a,r.getD 2 0=a:=⟨_,rfl⟩
 rw[S] at t q;rw[T] at x2 q;have s:=cP q;clear q S T;generalize U:runesBytes (r.drop 4)=Q at M;have o:=cP U;have HW:Hid (TL prog 152 #[.string Q] (w.alloc (.cells #[Z Y 0,Z .i32 0,Z .i32 0,Z Y 0] 202)) λe j=>e=.returned (mZ (Sp.number Q.data.toList))/\Below (w.alloc (.cells #[Z Y 0,Z .i32 0,Z .i32 0,Z Y 0] 202)).heap.size (w.alloc (.cells #[Z Y 0,Z .i32 0,Z .i32 0,Z Y 0] 202)) j):=mU Q _ M;by_cases V:cap=4
 .subst V;have W:r.length=4:=by omega
  have E:=wS (w.alloc (.cells #[Z Y 0,Z .i32 0,Z .i32 0,Z Y 0] 202)) g 0 r 4 W;rw[U] at E;clear U W;go_enter func101,ntmps101;go_wp2_with fail;refine(ig _ _ r _ O L).mono ?_;rintro e j ⟨rfl,F⟩;obtain rfl:=F.symm;rw[hv];go_wp2_with fail;refine(n8 _ _ r _ O L).mono ?_;rintro e j ⟨rfl,F⟩;obtain rfl:=F.symm;rw[he];clear L;go_wp2_with fail;refine(cO HW).mono ?_;rintro e w2 ⟨rfl,b⟩;have G:=b.cell (p:=⟨w.heap.size,0,none⟩) (by simp);have H:=b.cell (p:=⟨w.heap.size,1,none⟩) (by simp);have I:=b.cell (p:=⟨w.heap.size,2,none⟩) (by simp);have J:=b.cell (p:=⟨w.heap.size,3,none⟩) (by simp);have v0:=b.frozen (p:=⟨w.heap.size,0,none⟩) (by simp);have v1:=b.frozen (p:=⟨w.heap.size,1,none⟩) (by simp);have v2:=b.frozen (p:=⟨w.heap.size,2,none⟩) (by simp);have v3:=b.frozen (p:=⟨w.heap.size,3,none⟩) (by simp);have m:=(b.cell (p:=⟨g,0,none⟩) (by simp;omega)).trans (nr D t);have u:=(b.cell (p:=⟨g,2,none⟩) (by simp;omega)).trans (nr D x2);have hz:=b.size;simp at G H I J v0 v1 v2 v3 hz;have z:=hb.trans (b.mono (by simp));cases X:Sp.number Q.data.toList with
  |none =>
   have K:Hid (Sp.lJ r=none):=by show _=_;rw[cO s];unfold Sp.numOf;rw[cO o,X];rfl
   rw[ju];clear b;have A:w.heap.size≠g:=by omega
   go_wp2_with fail
   go_region_held3 (λj=>j.cell? ⟨g,0,none⟩=some (Z .i32 B)/\j.cell? ⟨g,2,none⟩=some (Z .i32 C))
    (first|(go_keep;done)|(go_split_ands;exact⟨(jx _ _ _ _ (by simp;omega)).trans ((jx _ _ _ _ (by simp;omega)).trans ((jx _ _ _ _ (by simp;omega)).trans ((jx _ _ _ _ (by simp;omega)).trans m))),(jx _ _ _ _ (by simp;omega)).trans ((jx _ _ _ _ (by simp;omega)).trans ((jx _ _ _ _ (by simp;omega)).trans ((jx _ _ _ _ (by simp;omega)).trans u)))⟩))
    (fail)
   go_wp2;exact cr (v := .tuple #[gO 2 B C 0,.bool false]) (by simp[results,results101,go_sem,gO,G,H,I,J]) rfl (qT N (cO K) ((((z.setCell TG _).setCell TG _).setCell TG _).setCell TG _).drew)
  |some v =>
   have K:Hid (Sp.lJ r=some ⟨true,B,C,v⟩):=by show _=_;rw[cO s];unfold Sp.numOf;rw[cO o,X];rfl
   rw[jt];clear b;have A:w.heap.size≠g:=by omega
   go_wp2_with fail
   go_region_held3 (λj=>j.cell? ⟨g,0,none⟩=some (Z .i32 B)/\j.cell? ⟨g,2,none⟩=some (Z .i32 C))
    (first|(go_keep;done)|(go_split_ands;exact⟨(jx _ _ _ _ (by simp;omega)).trans ((jx _ _ _ _ (by simp;omega)).trans ((jx _ _ _ _ (by simp;omega)).trans ((jx _ _ _ _ (by simp;omega)).trans m))),(jx _ _ _ _ (by simp;omega)).trans ((jx _ _ _ _ (by simp;omega)).trans ((jx _ _ _ _ (by simp;omega)).trans ((jx _ _ _ _ (by simp;omega)).trans u)))⟩))
    (fail)
   go_wp2;exact cr (v := .tuple #[Gn ⟨true,B,C,v⟩,.bool true]) (by simp[results,results101,go_sem,gO,Gn,G,H,I,J]) rfl (rE (cO K) ((((z.setCell TG _).setCell TG _).setCell TG _).setCell TG _).drew)
 .have E:=xj (w.alloc (.cells #[Z Y 0,Z .i32 0,Z .i32 0,Z Y 0] 202)) g (cap-4) 4 r O l;rw[U] at E;clear U;have ab:4<cap:=by omega
  go_enter func101,ntmps101;go_wp2_with fail;refine(ig _ _ r _ O L).mono ?_;rintro e j ⟨rfl,F⟩;obtain rfl:=F.symm;rw[hv];go_wp2_with fail;refine(n8 _ _ r _ O L).mono ?_;rintro e j ⟨rfl,F⟩;obtain rfl:=F.symm;rw[he];clear L;go_wp2_with fail;refine(cO HW).mono ?_;rintro e w2 ⟨rfl,b⟩;have G:=b.cell (p:=⟨w.heap.size,0,none⟩) (by simp);have H:=b.cell (p:=⟨w.heap.size,1,none⟩) (by simp);have I:=b.cell (p:=⟨w.heap.size,2,none⟩) (by simp);have J:=b.cell (p:=⟨w.heap.size,3,none⟩) (by simp);have v0:=b.frozen (p:=⟨w.heap.size,0,none⟩) (by simp);have v1:=b.frozen (p:=⟨w.heap.size,1,none⟩) (by simp);have v2:=b.frozen (p:=⟨w.heap.size,2,none⟩) (by simp);have v3:=b.frozen (p:=⟨w.heap.size,3,none⟩) (by simp);have m:=(b.cell (p:=⟨g,0,none⟩) (by simp;omega)).trans (nr D t);have u:=(b.cell (p:=⟨g,2,none⟩) (by simp;omega)).trans (nr D x2);have hz:=b.size;simp at G H I J v0 v1 v2 v3 hz;have z:=hb.trans (b.mono (by simp));cases X:Sp.number Q.data.toList with
  |none =>
   have K:Hid (Sp.lJ r=none):=by show _=_;rw[cO s];unfold Sp.numOf;rw[cO o,X];rfl
   rw[ju];clear b;have A:w.heap.size≠g:=by omega
   go_wp2_with fail
   go_region_held3 (λj=>j.cell? ⟨g,0,none⟩=some (Z .i32 B)/\j.cell? ⟨g,2,none⟩=some (Z .i32 C))
    (first|(go_keep;done)|(go_split_ands;exact⟨(jx _ _ _ _ (by simp;omega)).trans ((jx _ _ _ _ (by simp;omega)).trans ((jx _ _ _ _ (by simp;omega)).trans ((jx _ _ _ _ (by simp;omega)).trans m))),(jx _ _ _ _ (by simp;omega)).trans ((jx _ _ _ _ (by simp;omega)).trans ((jx _ _ _ _ (by simp;omega)).trans ((jx _ _ _ _ (by simp;omega)).trans u)))⟩))
    (fail)
   go_wp2;exact cr (v := .tuple #[gO 2 B C 0,.bool false]) (by simp[results,results101,go_sem,gO,G,H,I,J]) rfl (qT N (cO K) ((((z.setCell TG _).setCell TG _).setCell TG _).setCell TG _).drew)
  |some v =>
   have K:Hid (Sp.lJ r=some ⟨true,B,C,v⟩):=by show _=_;rw[cO s];unfold Sp.numOf;rw[cO o,X];rfl
   rw[jt];clear b;have A:w.heap.size≠g:=by omega
   go_wp2_with fail
   go_region_held3 (λj=>j.cell? ⟨g,0,none⟩=some (Z .i32 B)/\j.cell? ⟨g,2,none⟩=some (Z .i32 C))
    (first|(go_keep;done)|(go_split_ands;exact⟨(jx _ _ _ _ (by simp;omega)).trans ((jx _ _ _ _ (by simp;omega)).trans ((jx _ _ _ _ (by simp;omega)).trans ((jx _ _ _ _ (by simp;omega)).trans m))),(jx _ _ _ _ (by simp;omega)).trans ((jx _ _ _ _ (by simp;omega)).trans ((jx _ _ _ _ (by simp;omega)).trans ((jx _ _ _ _ (by simp;omega)).trans u)))⟩))
    (fail)
   go_wp2;exact cr (v := .tuple #[Gn ⟨true,B,C,v⟩,.bool true]) (by simp[results,results101,go_sem,gO,Gn,G,H,I,J]) rfl (rE (cO K) ((((z.setCell TG _).setCell TG _).setCell TG _).setCell TG _).drew)
end
section
open Go.RowKit
theorem vZ(r:List Int):∀n,(runesBytes (r.drop n)).size<=(runesBytes r).size:=by
 induction r with
 |nil=>intro n;simp
 |cons a t b =>
  intro n;cases n with
  |zero=>simp
  |succ n =>
   have j:=b n;have e:=congrArg List.length (Sp.vC a t);simp at e ⊢;omega
theorem yW(p:Option Addr)(cap:Nat)(r:List Int)(w:TJ)(h:fF w .i32 p r)(l:r.length<=5000)(u:r.length<=cap)(b:cap<=maxLen)(e:(runesBytes r).size<=4000)(j:∀y∈r,0<=y/\y<=1114111):TL prog 101 #[.slice p r.length cap] w (mD r w):=by
 cases r with
 |nil=>exact vV p cap w
 |cons a t =>
  obtain⟨g,rfl,_⟩:=iT h 0 (by simp);cases m:yj (a::t) with
  |true=>exact CF g cap _ w h l u b m (cx (vZ _ _) e) j
  |false =>
   cases he:Ad (a::t) with
   |true=>exact CE g cap _ w h l u b m he (cx (vZ _ _) e) j
   |false=>exact AG _ cap _ w h l (by simp) m he
end
section
open Go.RowKit
theorem info_pline:(prog.info? 202).map (λi=>(i.zero,i.size,i.bytes))=some (some (.agg #[Z Y 0,Z .i32 0,Z .i32 0,Z Y 0]),4,24):=by kernel_rfl
def eA(w:TJ):Prop := ∃m:Int,w.cell? ⟨7,0,none⟩=some (Z Y m)
theorem Cl(x:TM)(w:TJ)(m:x.size<=4000):∃b C,(convert 9 65 (.string x)).run prog w=.ok (.slice (some ⟨w.heap.size,0,none⟩) (Sp.rs x 0).length b) (w.drew.alloc (.cells C 21))/\
  (Sp.rs x 0).length<=b/\b<=maxLen/\fF (w.drew.alloc (.cells C 21)) .i32 (some ⟨w.heap.size,0,none⟩) (Sp.rs x 0):=by
 have r:=Sp.IH x _ 0 TG;have h:=run_runes_of_string (P:=prog) w 9 65 21 x underlying9 underlying65 underlying21 (by have:=size_runesFrom x x.size 0 #[];simp at this;omega);rw[Sp.JA] at h;have l:((Sp.rs x 0).map (Z .i32)).toArray.size=(Sp.rs x 0).length:=by simp
 rw[l] at h;refine⟨_,_,h,grownCap_ge _ _ _ _,grownCap_le_maxLen _ _ _ _ (by unfold maxLen;omega),?_⟩;intro j e;refine⟨w.heap.size,rfl,by simp,?_⟩;refine(cn _ w.heap.size j _ 21 (0,0) (ct w.drew _)).trans ?_;rw[Array.getElem?_append_left (by simp;exact e)];simp[e]
theorem pW(x:TM)(p:Option Addr)(cap:Nat)(w:TJ)(D:Sp.V x 0)(J:x.size<=4000)(h:fF w .i32 p (Sp.rs x 0))(G:(Sp.rs x 0).length<=cap)(u:cap<=maxLen):TL prog 101 #[.slice p (Sp.rs x 0).length cap] w λe E=>TI w E/\match Sp.rh x with
   |some q=>e=.returned (.tuple #[gO (Sp.pk q) (Sp.pa q) (Sp.pb q) (Sp.pn q),.bool true])
   |none=>∃k a b n:Int,e=.returned (.tuple #[gO k a b n,.bool false]):=by
 have K:=Sp.IH x _ 0 TG;have H:=Sp.zY _ 0 TG D;have y:(runesBytes (Sp.rs x 0)).size<=4000:=by have:=congrArg List.length H;simp at this;omega
 refine(yW p cap _ w h (by omega) G u y (Sp.Pq x _ 0 TG)).mono ?_;rintro e E ⟨z,j⟩;refine⟨z,?_⟩;have I:=Sp.Ll D;by_cases r:x.size=0
 .rw[Sp.Al.2 r] at j;have A:Sp.rh x=some none:=cg r;rw[A];exact j
 .have B:Sp.rs x 0≠[]:=λe=>r (Sp.Al.1 e)
  have A:Sp.rh x=(Sp.lJ (Sp.rs x 0)).map some:=by unfold Sp.rh;rw[cd r,I]
  rw[A];cases F:Sp.rs x 0 with
  |nil=>exact absurd F B
  |cons a t =>
   rw[F] at j;simp only at j;cases m:Sp.lJ (a::t) with
   |none=>rw[m] at j;exact j
   |some l =>
    rw[m] at j;simp only at j;rw[j]
    show _=_
    unfold Gn;cases C:l.iR <;> simp[Sp.pk,Sp.pa,Sp.pb,Sp.pn,C]
def kK(p:Option Sp.Ln):List TK:=[Z Y (Sp.pk p),Z .i32 (Sp.pa p),Z .i32 (Sp.pb p),Z Y (Sp.pn p)]
def gL(P:List (Option Sp.Ln)):List TK:=P.flatMap kK
def se(s:TM)(w:TJ)(e:Ending)(w':TJ):Prop:=TI w w'/\
 match Sp.dZ (Sp.split s 10) 0 [] with
 |.error k=>e=.returned (.tuple #[.slice none 0 0,Z Y (k:Nat),.bool false])
 |.ok P=>∃v,e=.returned (.tuple #[v,Z Y 0,.bool true])/\w'.ownsRow w.heap.size 202 4 v P.length (gL P)
theorem Fj{s:TM}{w w':TJ}{k:Nat}(h:Sp.dZ (Sp.split s 10) 0 []=.error k)(hb:TI w w'):se s w (.returned (.tuple #[.slice none 0 0,Z Y (k:Nat),.bool false])) w':=by
 refine⟨hb,?_⟩;rw[h]
theorem G7{s:TM}{w w':TJ}{P:List (Option Sp.Ln)}{v:TK}(h:Sp.dZ (Sp.split s 10) 0 []=.ok P)(hb:TI w w')(b:w'.ownsRow w.heap.size 202 4 v P.length (gL P)):se s w (.returned (.tuple #[v,Z Y 0,.bool true])) w':=by
 refine⟨hb,?_⟩;rw[h];exact⟨v,rfl,b⟩
theorem gU(s:TM)(w:TJ)(hs:s.size<=4000)(hV:Sp.V s 0)(hg:eA w):TL prog 63 #[.string s] w (se s w):=by
 obtain⟨m,hm⟩:=hg;obtain⟨i0,hi,af,ag,ah⟩:=fa info_pline;have HC:Hid (TL prog 69 #[.string s,.string ⟨#[10]⟩] w λe w'=>e=.returned (.slice (some ⟨w.heap.size,0,none⟩) (Sp.split s 10).length (Sp.split s 10).length)/\w'=w.alloc (.cells ((Sp.split s 10).map Value.string).toArray 9)):=by
  have h:=Tryz.strings_Split s ⟨#[10]⟩ m w (by omega) hm (by decide);rw[Sp.sF,Sp.tG] at h;exact h
 have O:=Sp.jk s 10;have HS:=cP (Sp.Cx s 10);have HV:=cP (Sp.LK hV);generalize Q:Sp.split s 10=b at O HS HC HV;have R:=cP Q;clear Q hV hm;go_enter func63,ntmps63;go_wp2_with fail;refine(cO HC).mono ?_;rintro e w1 ⟨rfl,H⟩;have S:w1.ownsRow w.heap.size 9 1 (.slice (some ⟨w.heap.size,0,none⟩) b.length b.length) b.length (b.map Value.string):=by
  rw[H];have:=World.ownsRow_lit (base:=w.heap.size) (e:=9) (size:=1) w (b.map Value.string).toArray b.length TG (by unfold maxLen;omega) (by simp);simpa using this
 have ai:TI w w1:=by rw[H];exact TH.alloc TG _
 clear H;obtain⟨T,D⟩:∃T,w.heap.size=T:=⟨_,rfl⟩
 have HG:=cP D;have aj:w1.ownsRow w.heap.size 9 1 (.slice (some ⟨T,0,none⟩) b.length b.length) b.length (b.map Value.string):=by rw[<-D];exact S
 rw[D];clear D S;go_wp2_with fail
 go_loopw [5,13] (λl i wr=>∃(k:Nat) (P:List (Option Sp.Ln)),k<=b.length/\P.length<=k/\i=Z Y k/\wr.ownsRow w.heap.size 202 4 l P.length (gL P)/\
   wr.ownsRow w.heap.size 9 1 (.slice (some ⟨T,0,none⟩) b.length b.length) b.length (b.map Value.string)/\TI w wr/\Hid (Sp.dZ (b.drop k) k P=Sp.dZ b 0 []))
  (λ_ i _=>b.length-(intOf i).toNat)
 case atStart=>exact⟨0,[],cy _,cy _,rfl,fc _ _ _ _,aj,ai,rfl⟩
 case round =>
  obtain⟨k,P,hk,ao,rfl,hl,hv,I,HR⟩:=hrel;by_cases B:k<b.length
  .have U:wr.cell? ⟨T,k,none⟩=some (.string b[k]):=by
    rw[hv.cellAt k (by omega)];simp[B]
   have E:(b[k]).size<=4000:=by have:=(cO HS) b[k] (pY B);omega
   have J:=cP ((cO HV) b[k] (pY B));generalize hx:b[k]=x at U E J;have HX:=cP hx;clear hx;obtain⟨W,C,X,t,p,o⟩:=Cl x wr E;have g:=cP o;have aa:=cP t;have ab:=cP p;clear t p o;have z:TI w (wr.drew.alloc (.cells C 21)):=I.drew.alloc I.size _;have K:=(cW hl TH.drew).alloc (.cells C 21);have L:=(cW hv TH.drew).alloc (.cells C 21);cases F:Sp.rh x with
   |none =>
    have HN:=cP F;clear F;go_wp2_with fail;refine(pW x _ W _ (cO J) E (cO g) (cO aa) (cO ab)).mono ?_;rintro e w2 ⟨r,he⟩;rw[cO HN] at he;obtain⟨k1,a1,b1,n1,rfl⟩:=he;have A:=z.trans (r.mono z.size);have M:=A.size;clear X K L r z;unfold gO;go_wp2;exact cr (v := .tuple #[.slice none 0 0,Z Y k,.bool false]) (by simp[results,results63,go_sem]) rfl (Fj (by rw[cO R,<-cO HR];exact Sp.Lb B P (by rw[cO HX];exact cO HN)) (A.alloc M _))
   |some q =>
    have HN:=cP F;clear F;go_wp2_with fail;refine(pW x _ W _ (cO J) E (cO g) (cO aa) (cO ab)).mono ?_;rintro e w2 ⟨r,he⟩;rw[cO HN] at he;obtain rfl:=he;have A:=z.trans (r.mono z.size);have M:=A.size;have G:=cW K r;have ad:=cW L r;clear X K L r z hl hv U;unfold gO;go_wp2_with (first
     |(at_builtin;go_must (refine LP _ rfl (.tmp 27) (.tmp 29) 136 rfl w.heap.size 202 i0 _ 4 24 underlying136 hi af ag ah rfl (by decide) _ _ _ rfl ((G.alloc _).alloc _) ⟨w2.heap.size+1,0,none⟩ 1 1 (kK q) rfl rfl ?c1 ?c2 ?c3 ?c4 ?c5 ?_))
     |go_in)
    case c1 =>
     intro j u y
     match j,y with
     |0,y=>simp[kK] at y;subst y;simp[Addr.add]
     |1,y=>simp[kK] at y;subst y;simp[Addr.add]
     |2,y=>simp[kK] at y;subst y;simp[Addr.add]
     |3,y=>simp[kK] at y;subst y;simp[Addr.add]
     |j+4,y=>simp[kK] at y
    case c2=>intro u hu;simp[kK] at hu;rcases hu with rfl | rfl | rfl | rfl <;> rfl
    case c3=>unfold maxLen;omega
    case c4=>omega
    case c5=>simp;omega
    intro v3 w3 ak N _;have ae:=rW (ys:=[]) (v':=v3) (by simp;omega) ((G.alloc _).alloc _) ((A.alloc M _).alloc (by simp;omega) _) N;have an:=jE ((G.alloc _).alloc _) ((ad.alloc _).alloc _) (by decide) N;clear N G ad A;go_wp2;go_roundw
    case rel =>
     exact⟨k+1,P++[q],by omega,by simp;omega,by go_num,by simpa [gL,LV] using ak,an,ae,by
      show _=_;rw[<-cO HR];exact(Sp.KC B P (by rw[cO HX];exact cO HN)).symm⟩
    case measure=>simp[intOf];omega
  .go_wp2;refine cr (v := .tuple #[_,Z Y 0,.bool true]) (by simp[results,results63,go_sem]) rfl (G7 (P:=P) ?_ I hl);rw[cO R,<-cO HR];exact Sp.NS (by omega) P
end
section
open Go.RowKit
theorem qq(x:Int)(w:TJ):TL prog 221 #[Z .i32 x] w λe b=>e=.returned (.bool false)/\b=w:=by
 have h:(x != x)=false:=by simp
 go_enter func221,ntmps221;go_wp2;go_ret;exact⟨rfl,rfl⟩
def lD(x y:Int):Int:=if x<y then -1 else if y<x then 1 else 0
theorem yU(x y:Int)(w:TJ):TL prog 157 #[Z .i32 x,Z .i32 y] w λe j=>e=.returned (Z Y (lD x y))/\j=w:=by
 rcases Int.lt_trichotomy x y with h|h|h
 .have b:lD x y = -1:=cg h;rw[b];clear b;go_enter func157,ntmps157;go_wp2_with (go_at_call 221;refine(qq _ _).mono ?_;rintro e j ⟨rfl,rfl⟩);go_ret;exact⟨rfl,rfl⟩
 .subst h;have b:lD x x=0:=by simp[lD]
  rw[b];clear b;have m:¬x<x:=Int.lt_irrefl x;go_enter func157,ntmps157;go_wp2_with (go_at_call 221;refine(qq _ _).mono ?_;rintro e j ⟨rfl,rfl⟩);go_ret;exact⟨rfl,rfl⟩
 .have l:¬x<y:=by omega
  have b:lD x y=1:=by unfold lD;rw[cd l,cg h]
  rw[b];clear b;go_enter func157,ntmps157;go_wp2_with (go_at_call 221;refine(qq _ _).mono ?_;rintro e j ⟨rfl,rfl⟩);go_ret;exact⟨rfl,rfl⟩
theorem iu(a v y:Int)(w:TJ):TL prog 156 #[.agg #[Z .i32 a,Z Y v],Z .i32 y] w λe b=>e=.returned (Z Y (lD a y))/\TI w b:=by
 go_enter func156,ntmps156;go_wp2_with (go_at_call 157;refine(yU _ _ _).mono ?_;rintro e b ⟨rfl,rfl⟩);go_ret;exact⟨rfl,TH.alloc TG _⟩
def iB(w:TJ)(p:Option Addr)(T:Sp.Tb):Prop := ∀j (h:j<T.length),∃g,p=some ⟨g,0,none⟩/\w.cell? ⟨g,j*2,none⟩=some (Z .i32 (T[j]).1)/\w.cell? ⟨g,j*2+1,none⟩=some (Z Y (T[j]).2)
theorem iB.below{w w':TJ}{p:Option Addr}{T:Sp.Tb}(h:iB w p T)(hb:TI w w'):iB w' p T:=λj m=>by
 obtain⟨g,e,b,l⟩:=h j m;exact⟨g,e,(hb.cell (cE w _ b)).trans b,(hb.cell (cE w _ l)).trans l⟩
theorem mx(p:Option Addr)(cap:Nat)(T:Sp.Tb)(y:Int)(w:TJ)(h:iB w p T)(N:Sp.da T)(hl:T.length<=100000):TL prog 155 #[.slice p T.length cap,Z .i32 y,.func (.func 156) #[] #[]] w λe O=>e=.returned (.tuple #[Z Y (Sp.dm T y:Nat),.bool (Sp.dw T y)])/\TI w O:=by
 go_enter func155,ntmps155;go_wp2
 go_loopw [9,10] (λa b wr=>∃i j:Nat,i<=j/\j<=T.length/\a=Z Y i/\b=Z Y j/\TI w wr/\(∀k (D:k<T.length),k<i->(T[k]).1<y)/\(∀k (D:k<T.length),j<=k->y<=(T[k]).1)) (λa b _=>(intOf b-intOf a).toNat)
 case atStart=>exact⟨0,T.length,cy _,b7 _,rfl,rfl,cj _ _,λk D h=>by omega,λk D h=>by omega⟩
 case round =>
  obtain⟨i,j,aa,t,rfl,rfl,r,E,F⟩:=hrel;have G:=cP E;have H:=cP F;clear E F;by_cases ab:i<j
  .have P:(i+j)/2<T.length:=by omega
   have ad:i<=(i+j)/2:=by omega
   have ae:(i+j)/2<j:=by omega
   have s:(i:Int)<(j:Int):=by omega
   obtain⟨g,Q,R,S⟩:=(h.below r) ((i+j)/2) (by omega)
   subst Q;obtain⟨x,u⟩:∃x,(T[(i+j)/2]).1=x:=⟨_,rfl⟩
   obtain⟨v,I⟩:∃x,(T[(i+j)/2]).2=x:=⟨_,rfl⟩
   rw[u] at R;rw[I] at S;have J:=cP u;clear u I;by_cases l:x<y
   .have K:Hid (lD x y = -1):=cg l;clear l;go_wp2_with (go_at_call 156;refine(iu _ _ _ _).mono ?_;rintro e O ⟨rfl,m⟩;rw[cO K]);go_roundw
    case rel =>
     refine⟨(i+j)/2+1,j,by omega,t,by go_num,rfl,r.trans (m.mono r.size),λk D U=>?_,cO H⟩;have L:=Sp.fg N (i:=k) (j:=(i+j)/2) (by omega) P;have h2:=cO J;have h3:¬ ¬x<y:=λhn=>by have:=cO K;unfold lD at this;rw[cd hn] at this;split at this <;> omega
     omega
    case measure=>simp[intOf];omega
   .have K:Hid (0<=lD x y):=by show _<=_;unfold lD;rw[cd l];split <;> omega
    have V:=cP l;clear l;obtain⟨c,z⟩:∃c,lD x y=c:=⟨_,rfl⟩
    rw[z] at K;have A:=cP z;have af:0<=c:=cO K;clear z;go_wp2_with (go_at_call 156;refine(iu _ _ _ _).mono ?_;rintro e O ⟨rfl,m⟩;rw[cO A]);go_roundw
    case rel =>
     refine⟨i,(i+j)/2,by omega,by omega,rfl,by go_num,r.trans (m.mono r.size),cO G,λk D U=>?_⟩;have L:=Sp.fg N (i:=(i+j)/2) (j:=k) (by omega) D;have h2:=cO J;have h3:=cO V;omega
    case measure=>simp[intOf];omega
  .have W:j=i:=by omega
   subst W;have B:Hid (Sp.dm T y=j):=Sp.jN t (cO G) (cO H);by_cases C:j<T.length
   .have M:(j:Int)<(T.length:Int):=by omega
    obtain⟨g,Q,R,S⟩:=(h.below r) j C;subst Q;have HH:=cP (Sp.iU N y);obtain⟨x,u⟩:∃x,(T[j]).1=x:=⟨_,rfl⟩
    obtain⟨v,I⟩:∃x,(T[j]).2=x:=⟨_,rfl⟩
    rw[u] at R;rw[I] at S;have J:=cP u;clear u I;obtain⟨c,z⟩:∃c,lD x y=c:=⟨_,rfl⟩
    have A:=cP z;have X:Hid (Sp.dw T y=(c == 0)):=by
     show _=_
     have L:(c == 0)=decide (x=y):=by
      rw[<-z];unfold lD;rcases Int.lt_trichotomy x y with h|h|h
      .rw[cg h,df (by omega)];rfl
      .subst h;simp
      .rw[cd (by omega),cg h,df (by omega)];rfl
     rw[L];apply Bool.eq_iff_iff.2;rw[cO HH,decide_eq_true_iff];constructor
     .rintro⟨o,e⟩;have q:T[Sp.dm T y]=T[j]:=by congr 1 <;> exact cO B
      rw[q] at e;rw[<-e];exact(cO J).symm
     .intro e;have q:T[Sp.dm T y]'(by rw[cO B];exact C)=T[j]:=by congr 1 <;> exact cO B
      exact⟨by rw[cO B];exact C,by rw[q];exact(cO J).trans e⟩
    clear z;go_wp2_with (go_at_call 156;refine(iu _ _ _ _).mono ?_;rintro e O ⟨rfl,m⟩;rw[cO A]);exact cr (v := .tuple #[Z Y j,.bool (c == 0)]) (by simp[results,results155,go_sem]) rfl ⟨by rw[cO B,cO X],r.trans (m.mono r.size)⟩
   .have M:¬(j:Int)<(T.length:Int):=by omega
    have ag:(T.length:Int)<=(j:Int):=by omega
    have X:Hid (Sp.dw T y=false):=by
     show _=_
     cases o:Sp.dw T y with
     |false=>rfl
     |true=>obtain⟨L,_⟩:=(Sp.iU N y).1 o;rw[cO B] at L;omega
    go_wp2;exact cr (v := .tuple #[Z Y j,.bool false]) (by simp[results,results155,go_sem]) rfl ⟨by rw[cO B,cO X],r⟩
end
section
open Go.RowKit
def cQ(T:Sp.Tb):List TK:=T.flatMap λp=>[Z .i32 p.1,Z Y p.2]
theorem eH(T:Sp.Tb):(cQ T).length=T.length*2:=by
 induction T with
 |nil=>rfl
 |cons p t b=>simp[cQ] at b ⊢;omega
theorem kE(A B:Sp.Tb):cQ (A++B)=cQ A++cQ B:=by simp[cQ]
theorem mY(T:Sp.Tb):∀j (h:j<T.length),(cQ T)[j*2]?=some (Z .i32 (T[j]).1)/\(cQ T)[j*2+1]?=some (Z Y (T[j]).2):=by
 induction T with
 |nil=>intro j h;simp at h
 |cons p t b =>
  intro j h;have e:cQ (p::t)=Z .i32 p.1::Z Y p.2::cQ t:=by simp[cQ]
  rw[e];cases j with
  |zero=>simp
  |succ j =>
   have:=b j (by simpa using h);rw[show (j+1)*2=j*2+1+1 by omega];simpa using this
theorem mn(T:Sp.Tb):∀u∈cQ T,u.oneCell'=true:=by
 intro u hu;obtain⟨p,_,b⟩:=CC.1 hu;simp at b;rcases b with rfl|rfl <;> rfl
def oG(w:TJ)(B t:Nat)(T:Sp.Tb):Prop :=
 ∃v,w.heap[t]?=some (.cells #[v] 207 (0,0))/\w.ownsRow B 265 2 v T.length (cQ T)
variable {w:TJ}
theorem dM{B:Nat}{v:TK}{T:Sp.Tb}(h:w.ownsRow B 265 2 v T.length (cQ T)): ∃p b,v=.slice p T.length b/\iB w p T:=by
 have m:=h;rcases h.2 with ⟨e,r⟩|⟨g,b,u,e,_⟩
 .subst e;refine⟨none,0,by rw[r],λj l=>by omega⟩
 .subst e;refine⟨some ⟨g,0,none⟩,b,rfl,λj l=>⟨g,rfl,?_,?_⟩⟩
  .rw[m.cellAt _ (by omega)];exact(mY T j l).1
  .rw[m.cellAt _ (by omega)];exact(mY T j l).2
theorem oG.below{w':TJ}{B t:Nat}{T:Sp.Tb}(h:oG w B t T)(hb:TI w w'): oG w' B t T:=by
 obtain⟨v,b,e⟩:=h;exact⟨v,(hb.block t (ps b)).trans b,cW e hb⟩
theorem rN{t:Nat}{v:TK}{e:TypeId}(h:w.heap[t]?=some (.cells #[v] e (0,0))): w.cell? ⟨t,0,none⟩=some v:=by
 rw[cn w t 0 _ _ _ h];rfl
theorem nQ(t B:Nat)(T:Sp.Tb)(y:Int)(w:TJ)(h:oG w B t T)(r:Sp.da T)(u:T.length<=100000):TL prog 103 #[.pointer (some ⟨t,0,none⟩),Z .i32 y] w λe j=>e=.returned (.tuple #[Z Y (Sp.dm T y:Nat),.bool (Sp.dw T y)])/\TI w j:=by
 obtain⟨v,l,m⟩:=h;obtain⟨p,b,rfl,z⟩:=dM m;have C:=rN l;clear l m;go_enter func103,ntmps103;go_wp2_with fail;refine(mx p b T y w z r u).mono ?_;rintro e j ⟨rfl,A⟩;go_wp2;exact cr (v := .tuple #[Z Y (Sp.dm T y:Nat),.bool (Sp.dw T y)]) (by simp[results,results103,go_sem]) rfl ⟨rfl,A⟩
theorem vr(t B:Nat)(T:Sp.Tb)(w:TJ)(h:oG w B t T):TL prog 66 #[.pointer (some ⟨t,0,none⟩)] w λe l=>e=.returned (Z Y T.length)/\l=w:=by
 obtain⟨v,b,j⟩:=h;obtain⟨p,m,rfl,r⟩:=dM j;have u:=rN b;clear b j;go_enter func66,ntmps66;go_wp2;go_ret;exact⟨rfl,rfl⟩
end
section
open Go.RowKit
theorem info_entry:(prog.info? 265).map (λi=>(i.zero,i.size,i.bytes))=some (some (.agg #[Z .i32 0,Z Y 0]),2,16):=by kernel_rfl
section
variable {α : Type}
def kr(L:List α)(o:Nat)(c:List α):List α:=L.take o++c++L.drop (o+c.length)
theorem fZ(L:List α)(o:Nat)(c:List α)(h:o+c.length<=L.length):(kr L o c).length=L.length:=by simp[kr];omega
theorem re(L:List α)(o:Nat)(V D:List α)(n:Nat)(h1:o+V.length+D.length<=L.length):(kr (kr L (o+V.length) D) o V).take (o+V.length+D.length)=L.take o++V++D:=by
 have b:(kr L (o+V.length) D).take o=L.take o:=by
  unfold kr;rw[mR,zs (by simp;omega),DB,QD (by omega)]
 have e:(kr L (o+V.length) D).drop (o+V.length)=D++L.drop (o+V.length+D.length):=by
  unfold kr;rw[mR,Tq (by simp;omega),Dl (by simp;omega),sj]
 show (List.take o _++V++List.drop (o+V.length) _).take _=_
 rw[b,e,<-mR,zs (by simp;omega),zS (by simp;omega)]
theorem rF(L:List α)(o:Nat)(V D:List α)(h1:o+V.length+D.length<=L.length):(kr (kr L o V) (o+V.length) D).take (o+V.length+D.length)=L.take o++V++D:=by
 have b:(kr L o V).take (o+V.length)=L.take o++V:=by
  unfold kr;rw[zs (by simp;omega),zS (by simp;omega)]
 show (List.take _ _++D++List.drop _ _).take _=_
 rw[b,zs (by simp;omega),zS (by simp;omega)]
end
theorem nM(T:Sp.Tb)(i:Nat):(cQ T).take (i*2)=cQ (T.take i):=by
 induction T generalizing i with
 |nil=>simp[cQ]
 |cons p t b =>
  cases i with
  |zero=>simp[cQ]
  |succ i =>
   have e:cQ (p::t)=Z .i32 p.1::Z Y p.2::cQ t:=by simp[cQ]
   rw[e,show (i+1)*2=i*2+1+1 by omega,Gk,Gk,b];simp[cQ]
theorem oe(T:Sp.Tb)(i:Nat):(cQ T).drop (i*2)=cQ (T.drop i):=by
 induction T generalizing i with
 |nil=>simp[cQ]
 |cons p t b =>
  cases i with
  |zero=>simp
  |succ i =>
   have e:cQ (p::t)=Z .i32 p.1::Z Y p.2::cQ t:=by simp[cQ]
   rw[e,show (i+1)*2=i*2+1+1 by omega,MC,MC,b];simp
theorem oF(T:Sp.Tb)(i:Nat)(a b:Int):(cQ T).take (i*2)++[Z .i32 a,Z Y b]++(cQ T).drop (i*2)=cQ (T.take i++(a,b)::T.drop i):=by
 rw[nM,oe,kE];simp[cQ]
def gY(w:TJ)(B:Nat)(v:TK)(T:Sp.Tb)(i:Nat)(a b:Int)(e:Ending)(w':TJ):Prop :=
 ∃j,e=.returned j/\w'.ownsRow B 265 2 j (T.length+1) (cQ (T.take i++(a,b)::T.drop i))/\w.grownBy w' v.ownBlock
theorem mh(B x:Nat)(v:TK)(T:Sp.Tb)(a b:Int)(w:TJ)(K:B<=w.heap.size)(h:w.ownsRow B 265 2 v T.length (cQ T))(U:T.length<=100000)(L:w.heap[x]?=some (.cells #[Z .i32 a,Z Y b] 265 (0,0))):TL prog 154 #[v,Z Y T.length,.slice (some ⟨x,0,none⟩) 1 1] w (gY w B v T T.length a b):=by
 obtain⟨M,hi,z,A,C⟩:=fa info_entry;obtain⟨p,m,rfl,E⟩:=dd h;have N:T.length<=m:=by
  rcases h.2 with ⟨r,F⟩|⟨g,D,G,r,_,_,F,_⟩
  .omega
  .injection r with _ _ r;omega
 have Q:m<=9223372036854775807:=by
  rcases h.2 with ⟨r,F⟩|⟨g,D,G,r,_,_,F,R,_⟩
  .injection r with _ _ r;omega
  .injection r with _ _ r;unfold maxLen at R;omega
 clear E;have O:w.cell? ⟨x,0,none⟩=some (Z .i32 a):=by rw[cn w x 0 _ _ _ L];rfl
 have P:w.cell? ⟨x,1,none⟩=some (Z Y b):=by rw[cn w x 1 _ _ _ L];rfl
 by_cases H:m=T.length
 .subst H;go_enter func154,ntmps154;go_wp2_with (first
   |(at_builtin;go_must (refine LP _ rfl (.tmp 23) (.tmp 24) 205 rfl B 265 M _ 2 16 underlying205 hi z A C rfl (by decide) _ _ _ rfl h ⟨x,0,none⟩ 1 1 [Z .i32 a,Z Y b] rfl rfl ?c1 ?c2 ?c3 ?c4 ?c5 ?_))
   |go_in)
  case c1 =>
   intro j u l
   match j,l with
   |0,l=>simp at l;subst l;simpa [Addr.add] using O
   |1,l=>simp at l;subst l;simpa [Addr.add] using P
  case c2=>intro u hu;simp at hu;rcases hu with rfl | rfl <;> rfl
  case c3=>unfold maxLen;omega
  case c4=>omega
  case c5=>exact K
  intro I w3 J y _;go_wp2;go_ret;refine⟨I,rfl,?_,y⟩;have e:cQ (T.take T.length++(a,b)::T.drop T.length)=cQ T++[Z .i32 a,Z Y b]:=by simp[cQ]
  rw[e];exact J
 .have S:T.length<m:=by omega
  go_enter func154,ntmps154;go_wp2_with (first
   |(at_builtin;go_must (refine LP _ rfl (.tmp 23) (.tmp 24) 205 rfl B 265 M _ 2 16 underlying205 hi z A C rfl (by decide) _ _ _ rfl h ⟨x,0,none⟩ 1 1 [Z .i32 a,Z Y b] rfl rfl ?c1 ?c2 ?c3 ?c4 ?c5 ?_))
   |go_in)
  case c1 =>
   intro j u l
   match j,l with
   |0,l=>simp at l;subst l;simpa [Addr.add] using O
   |1,l=>simp at l;subst l;simpa [Addr.add] using P
  case c2=>intro u hu;simp at hu;rcases hu with rfl | rfl <;> rfl
  case c3=>unfold maxLen;omega
  case c4=>omega
  case c5=>exact K
  intro I w3 J y _;go_wp2;go_ret;refine⟨I,rfl,?_,y⟩;have e:cQ (T.take T.length++(a,b)::T.drop T.length)=cQ T++[Z .i32 a,Z Y b]:=by simp[cQ]
  rw[e];exact J
end
section
open Go.RowKit
theorem gH:(prog.info? 265).map (·.size)=some 2:=by
 obtain⟨l,hi,e,b,j⟩:=fa info_entry;rw[hi];simp[b]
theorem nO(w:TJ):(Go.sizeOf 265).run prog w=.ok 2 w:=by
 obtain⟨l,hi,e,b,j⟩:=fa info_entry;simp[sizeOf,typeInfo,hi,b]
theorem oQ(w:TJ)(x g o lb r:Nat)(a b:Int)(j:Array TK)(l:x≠g)(m:w.heap[x]?=some (.cells #[Z .i32 a,Z Y b] 265 (0,0)))(u:w.heap[g]?=some (.cells j 265 (0,0)))(y:j.size≠0):(callFunc 219 #[.slice (some ⟨x,0,none⟩) 1 1,.slice (some ⟨g,o,none⟩) lb r]).run prog w=.ok (.value (.bool false)) w:=by
 rw[run_callFunc_extern func219 (by kernel_rfl) (by kernel_rfl) (by kernel_rfl) (e:=Extern.SlicesOverlaps.overlaps #[205,205] #[4]) (by kernel_rfl),
  Lib.run_overlaps_apart w 205 4 265 underlying205 2 nO ⟨x,0,none⟩ ⟨g,o,none⟩ 1 1 lb r l 265 265 2 j.size (by simp[World.shape?,m]) (by simp[World.shape?,u]) y (by simp[World.frozen?,m]) (by simp[World.frozen?,m])]
 rfl
theorem kS(B x g cap i:Nat)(l:Array TK)(T:Sp.Tb)(a b:Int)(w:TJ)(hi:i<T.length)(hB:B<=g)(M:T.length+1<=cap)(U:cap<=maxLen)(hl:T.length<=100000)(X:x≠g)(q:w.heap[g]?=some (.cells l 265 (0,0)))(t:l.size=cap*2)(m:l.toList.take (T.length*2)=cQ T)(hx:w.heap[x]?=some (.cells #[Z .i32 a,Z Y b] 265 (0,0))):TL prog 154 #[.slice (some ⟨g,0,none⟩) T.length cap,Z Y i,.slice (some ⟨x,0,none⟩) 1 1] w (gY w B (.slice (some ⟨g,0,none⟩) T.length cap) T i a b):=by
 have af:∀o lb cb,(callFunc 219 #[.slice (some ⟨x,0,none⟩) 1 1,.slice (some ⟨g,o,none⟩) lb cb]).run prog w=.ok (.value (.bool false)) w:=λo lb cb=>oQ w x g o lb cb a b l X hx q (by omega)
 obtain⟨D,s⟩:∃D,D=(cQ T).drop (i*2):=⟨_,rfl⟩
 obtain⟨V,u⟩:∃V:List TK,V=[Z .i32 a,Z Y b]:=⟨_,rfl⟩
 have p:D.length=(T.length-i)*2:=by rw[s,uT,eH];omega
 have ag:V.length=2:=by rw[u];rfl
 have aa:l.toList.length=cap*2:=by simpa using t
 obtain⟨z,A⟩:∃z,z=kr l.toList (i*2+V.length) D:=⟨_,rfl⟩
 obtain⟨N,C⟩:∃N,N=kr z (i*2) V:=⟨_,rfl⟩
 have F:z.length=cap*2:=by rw[A,fZ _ _ _ (by omega)];exact aa
 have G:N.length=cap*2:=by rw[C,fZ _ _ _ (by omega)];exact F
 have H:N.take ((T.length+1)*2)=cQ (T.take i++(a,b)::T.drop i):=by
  have e:=re l.toList (i*2) V D 0 (by omega);rw[<-A,<-C] at e;have e2:i*2+V.length+D.length=(T.length+1)*2:=by omega
  rw[e2] at e;rw[e,<-oF,<-u,<-s]
  congr 2
  rw[<-m,DB,QD (by omega)]
 have y:∀j v,D[j]?=some v->w.cell? ⟨g,i*2+j,none⟩=some v:=λj v I=>by
  have aj:j<D.length:=(KK.1 I).1;rw[cn w g _ _ _ _ q];rw[s,<-m,Gt,Hj,cg (by omega)] at I;simpa using I
 have ab:∀v∈D,v.oneCell'=true:=λv hv=>mn T v (by rw[s] at hv;exact Ep hv)
 have J:∀O Q sc,(Builtin.copy_ #[205,205] O #[.slice (some ⟨g,(i+1)*2,none⟩) (T.length+1-(i+1)) Q,.slice (some ⟨g,i*2,none⟩) (T.length+1-i) sc]).run prog w.drew=.ok (goInt ((T.length-i:Nat):Int)) (w.drew.setRow g z.toArray):=λO Q sc=>by
  have h:=eu (P:=prog) w.drew 205 205 O 265 2 g ((i+1)*2) (T.length+1-(i+1)) Q ⟨g,i*2,none⟩ (T.length+1-i) sc l 265 D underlying205 gH q (T.length-i) (by simp only[Ho];split <;> omega) p
   (λj v I=>by rw[Ax];exact y j v I) (by omega) ab
  rw[h,A];unfold kr;rw[show i*2+V.length=(i+1)*2 by omega]
 have E:(w.drew.setRow g z.toArray).heap[g]?=some (.cells z.toArray 265 (0,0)):=sT w.drew g l _ _ _ q;have R:(w.drew.setRow g z.toArray).heap[x]?=some (.cells #[Z .i32 a,Z Y b] 265 (0,0)):=by
  rw[qk w.drew g x _ X];exact hx
 obtain⟨S,r⟩:∃S,S=w.drew.setRow g z.toArray:=⟨_,rfl⟩
 rw[<-r] at J E R;have ad:∀(W:TJ),W=S->∀O Q,(Builtin.copy_ #[205,205] O #[.slice (some ⟨g,i*2,none⟩) (T.length+1-i) Q,.slice (some ⟨x,0,none⟩) 1 1]).run prog W=.ok (goInt 1) (S.setRow g N.toArray):=λW hW O Q=>by
  subst hW;have h:=eu (P:=prog) W 205 205 O 265 2 g (i*2) (T.length+1-i) Q ⟨x,0,none⟩ 1 1 z.toArray 265 V underlying205 gH E 1 (by simp only[Ho];split <;> omega) (by omega)
   (λj v I=>by
     rw[Ax,cn W x _ _ _ _ R];rw[u] at I;simpa using I) (by simp;omega) (by rw[u];intro v hv;simp at hv;rcases hv with rfl|rfl <;> rfl)
  rw[h,C]
  rfl
 have K:∀W,W=S.setRow g N.toArray->W.ownsRow B 265 2 (.slice (some ⟨g,0,none⟩) (T.length+1) cap) (T.length+1) (cQ (T.take i++(a,b)::T.drop i))/\w.grownBy W (Value.ownBlock (.slice (some ⟨g,0,none⟩) T.length cap)):=λW hW=>by
  rw[hW];refine⟨⟨by rw[eH];simp;omega,.inr ⟨g,cap,N.toArray,rfl,hB,sT S g _ _ _ _ E,M,U,by simpa using G,by simpa using H⟩⟩,?_⟩;refine⟨by rw[r];rfl,by rw[r];rfl,by rw[r];rfl,by rw[r];simp[World.setRow],λk hk ah=>?_⟩;have L:k≠g:=λe=>ah (by rw[e];rfl)
  rw[qk S g k _ L,r,qk w.drew g k _ L];rfl
 have ae:=cP K;unfold maxLen at U;have ak:IntKind.i64.wrap ((i:Int)+1)=(i:Int)+1:=by rw[fp];omega
 have an:(0:Int)<=(i:Int)+1:=by omega
 have ao:i<=T.length:=by omega
 have ai:(i:Int)<=(T.length:Int):=by omega
 have aq:((i:Int)+1).toNat=i+1:=by omega
 have ar:(i:Int)<=(T.length:Int)+1:=by omega
 have au:¬((i:Int)=(T.length:Int)):=by omega
 have av:¬((cap:Int)<(T.length:Int)+1):=by omega
 have aw:¬(cap=i+1):=by omega
 have ax:¬(cap=i):=by omega
 clear K H y ab s u p ag aa A C F G q hx t m E R r;go_enter func154,ntmps154;go_wp2_with (simp only[af])
 go_region_law (refine step_copy_runI rfl (.tmp 73) (.tmp 76) 205 205 rfl _ _ (by simp[Act.eval,Act.put];rfl) (by simp[Act.eval,Act.put];rfl) (J _ _ _) ?_)
 go_wp2_with (first|(at_builtin;go_must (refine wpList_copy_runI _ rfl (.tmp 80) (.tmp 81) 205 205 rfl _ _ rfl rfl (ad _ rfl _ _) ?_))|go_in);go_wp2;go_ret;obtain⟨q1,q2⟩:=(cO ae) _ rfl;exact⟨_,rfl,q1,q2⟩
theorem lk(B x g cap i:Nat)(C:Array TK)(T:Sp.Tb)(a b:Int)(w:TJ)(hi:i<T.length)(hB:B<=w.heap.size)(p:cap=T.length)(hl:T.length<=100000)(o:w.heap[g]?=some (.cells C 265 (0,0)))(E:C.toList.take (T.length*2)=cQ T)(an:T.length*2<=C.size)(hx:w.heap[x]?=some (.cells #[Z .i32 a,Z Y b] 265 (0,0))):TL prog 154 #[.slice (some ⟨g,0,none⟩) T.length cap,Z Y i,.slice (some ⟨x,0,none⟩) 1 1] w (gY w B (.slice (some ⟨g,0,none⟩) T.length cap) T i a b):=by
 subst p;obtain⟨i0,ao,aq,ar,aa⟩:=fa info_entry;obtain⟨D,hD⟩:∃D,D=(cQ T).drop (i*2):=⟨_,rfl⟩
 obtain⟨V,F⟩:∃V:List TK,V=[Z .i32 a,Z Y b]:=⟨_,rfl⟩
 have ab:D.length=(T.length-i)*2:=by rw[hD,uT,eH];omega
 have au:V.length=2:=by rw[F];rfl
 have u:∀j v,(cQ T)[j]?=some v->w.cell? ⟨g,j,none⟩=some v:=λj v y=>by
  have av:j<(cQ T).length:=(KK.1 y).1;rw[eH] at av;rw[cn w g _ _ _ _ o];rw[<-E,Hj,cg (by omega)] at y;simpa using y
 have U:i+(T.length+1-i)=T.length+1:=by omega
 have hold:(Builtin.firstCells i0.size i (.slice (some ⟨g,0,none⟩) i T.length)).run prog w.drew=.ok ((cQ T).take (i*2)).toArray w.drew:=by
  rw[ar];exact run_firstCells_some w.drew 2 i ⟨g,0,none⟩ i T.length ((cQ T).take (i*2)) (by rw[A3,eH];omega) (λj v y=>by
   rw[Ax];rw[Hj] at y;split at y
   .simpa using u j v y
   .cases y)
 obtain⟨G,hG⟩:∃G,G=grownCap w (T.length+1) T.length 265:=⟨_,rfl⟩
 have aw:T.length+1<=G:=by rw[hG];exact grownCap_ge w _ _ _
 have ad:G<=maxLen:=by rw[hG];exact grownCap_le_maxLen w _ _ _ (by unfold maxLen;omega)
 obtain⟨l,z⟩:∃l:Array TK,l=((cQ T).take (i*2)).toArray++Builtin.zeroCells (Value.agg #[Z .i32 0,Z Y 0]).cells (T.length+1-i)++Builtin.zeroCells (Value.agg #[Z .i32 0,Z Y 0]).cells (G-(T.length+1)):=⟨_,rfl⟩
 have ae:∀H,(Builtin.append_ #[205,3] H #[.slice (some ⟨g,0,none⟩) i T.length,Z Y ((T.length:Int)+1-(i:Int))]).run prog w =
   .ok (.slice (some ⟨w.heap.size,0,none⟩) (T.length+1) G) (w.drew.alloc (.cells l 265)):=λH=>by
  have h:=Lib.run_append_grow_zeros w 205 3 H 265 i0 _ Y Y underlying205 underlying3 ao aq (some ⟨g,0,none⟩) i T.length ((cQ T).take (i*2)) hold (T.length+1-i) (by omega) (by omega) (by omega) (by omega) (by rw[aa];omega) (by rw[aa,U];exact growslice_fits (by omega) (by omega));rw[U] at h;rw[show (T.length:Int)+1-(i:Int)=((T.length+1-i:Nat):Int) by omega,z,hG];exact h
 have X:l.toList.length=G*2:=by
  rw[z];simp[Builtin.zeroCells,Value.cells,eH];omega
 have af:l.toList.take (i*2)=(cQ T).take (i*2):=by
  rw[z];simp only[QU,mR];rw[zs (by simp[eH];omega)];exact(DB ..).trans (by rw[Nat.min_self])
 obtain⟨M,K⟩:∃M,M=kr l.toList (i*2) V:=⟨_,rfl⟩
 obtain⟨q,L⟩:∃q,q=kr M (i*2+V.length) D:=⟨_,rfl⟩
 have N:M.length=G*2:=by rw[K,fZ _ _ _ (by omega)];exact X
 have O:q.length=G*2:=by rw[L,fZ _ _ _ (by omega)];exact N
 have Q:q.take ((T.length+1)*2)=cQ (T.take i++(a,b)::T.drop i):=by
  have e:=rF l.toList (i*2) V D (by omega);rw[<-K,<-L] at e;have e2:i*2+V.length+D.length=(T.length+1)*2:=by omega
  rw[e2] at e;rw[e,<-oF,<-F,<-hD,af]
 have ax:g<w.heap.size:=ps o;have ay:x<w.heap.size:=ps hx;obtain⟨I,m⟩:∃I,I=w.drew.alloc (.cells l 265):=⟨_,rfl⟩
 have t:I.heap[w.heap.size]?=some (.cells l 265 (0,0)):=by rw[m];exact ct w.drew _
 have ag:I.heap[x]?=some (.cells #[Z .i32 a,Z Y b] 265 (0,0)):=by rw[m,cN w.drew _ x ay];exact hx
 have ah:I.heap[g]?=some (.cells C 265 (0,0)):=by rw[m,cN w.drew _ g ax];exact o
 rw[<-m] at ae;have R:∀W,W=I->∀H s,(Builtin.copy_ #[205,205] H #[.slice (some ⟨w.heap.size,i*2,none⟩) (T.length+1-i) s,.slice (some ⟨x,0,none⟩) 1 1]).run prog W=.ok (goInt 1) (I.setRow w.heap.size M.toArray):=λW hW H s=>by
  subst hW;have h:=eu (P:=prog) W 205 205 H 265 2 w.heap.size (i*2) (T.length+1-i) s ⟨x,0,none⟩ 1 1 l 265 V underlying205 gH t 1 (by simp only[Ho];split <;> omega) (by omega)
   (λj v y=>by
     rw[Ax,cn W x _ _ _ _ ag];rw[F] at y;simpa using y) (by rw[<-zh,X];omega) (by rw[F];intro v hv;simp at hv;rcases hv with rfl|rfl <;> rfl)
  rw[h,K]
  rfl
 obtain⟨A,r⟩:∃A,A=I.setRow w.heap.size M.toArray:=⟨_,rfl⟩
 have J:A.heap[w.heap.size]?=some (.cells M.toArray 265 (0,0)):=by rw[r];exact sT I _ _ _ _ _ t
 have ai:A.heap[g]?=some (.cells C 265 (0,0)):=by rw[r,qk I _ g _ (by omega)];exact ah
 rw[<-r] at R;have aj:∀W,W=A.drew->∀H s sc,(Builtin.copy_ #[205,205] H #[.slice (some ⟨w.heap.size,(i+1)*2,none⟩) (T.length+1-(i+1)) s,.slice (some ⟨g,i*2,none⟩) (T.length-i) sc]).run prog W=.ok (goInt ((T.length-i:Nat):Int)) (A.drew.setRow w.heap.size q.toArray):=λW hW H s sc=>by
  subst hW;have h:=eu (P:=prog) A.drew 205 205 H 265 2 w.heap.size ((i+1)*2) (T.length+1-(i+1)) s ⟨g,i*2,none⟩ (T.length-i) sc M.toArray 265 D underlying205 gH J (T.length-i) (by simp only[Ho];split <;> omega) ab
   (λj v y=>by
     rw[Ax];refine(cn A.drew g _ _ _ _ ai).trans ?_;rw[<-cn w g _ _ _ _ o];exact u _ v (by rw[hD,Gt] at y;exact y)) (by simp;omega) (λv hv=>mn T v (by rw[hD] at hv;exact Ep hv))
  rw[h,L];unfold kr;rw[show i*2+V.length=(i+1)*2 by omega]
 have S:∀W,W=A.drew.setRow w.heap.size q.toArray->W.ownsRow B 265 2 (.slice (some ⟨w.heap.size,0,none⟩) (T.length+1) G) (T.length+1) (cQ (T.take i++(a,b)::T.drop i))/\w.grownBy W (Value.ownBlock (.slice (some ⟨g,0,none⟩) T.length T.length)):=λW hW=>by
  rw[hW];refine⟨⟨by rw[eH];simp;omega,.inr ⟨w.heap.size,G,q.toArray,rfl,hB,sT A.drew _ _ _ _ _ J,aw,ad,by simpa using O,by simpa using Q⟩⟩,?_⟩;refine⟨by rw[r,m];rfl,by rw[r,m];rfl,by rw[r,m];rfl,by rw[r,m];simp[World.setRow],λk hk aB=>?_⟩;rw[qk A.drew _ k _ (by omega)]
  show A.heap[k]?=_
  rw[r,qk I _ k _ (by omega),m,cN w.drew _ k hk];rfl
 have ak:=cP S;unfold maxLen at ad;have aC:IntKind.i64.wrap ((i:Int)+1)=(i:Int)+1:=by rw[fp];omega
 have aD:(0:Int)<=(i:Int)+1:=by omega
 have aE:i<=T.length:=by omega
 have az:(i:Int)<=(T.length:Int):=by omega
 have aF:((i:Int)+1).toNat=i+1:=by omega
 have aG:(i:Int)<=(T.length:Int)+1:=by omega
 have aH:¬((i:Int)=(T.length:Int)):=by omega
 have aI:¬(G=i):=by omega
 have aA:¬(G=i+1):=by omega
 have aJ:¬(T.length=i):=by omega
 clear S Q u hD F ab au K L N O o hx an E ah ag m r t J ai X af z hG hold U;go_enter func154,ntmps154;go_wp2_with (first
  |(at_builtin;refine Lib.wpList_append_run _ rfl (.tmp 34) (.tmp 39) _ _ rfl _ _ rfl rfl _ _ (ae _) ?_)
  |(at_builtin;refine wpList_copy_runI _ rfl (.tmp 43) (.tmp 44) 205 205 rfl _ _ rfl rfl (R _ rfl _ _) ?_))
 go_region_law (refine step_copy_runI rfl (.tmp 50) (.tmp 53) 205 205 rfl _ _ (by simp[Act.eval,Act.put];rfl) (by simp[Act.eval,Act.put];rfl) (aj _ rfl _ _ _) ?_)
 go_wp2;go_ret;obtain⟨q1,q2⟩:=(cO ak) _ rfl;exact⟨_,rfl,q1,q2⟩
end
section
open Go.RowKit
theorem mu(B x:Nat)(v:TK)(T:Sp.Tb)(i:Nat)(a b:Int)(w:TJ)(hi:i<=T.length)(E:B<=w.heap.size)(h:w.ownsRow B 265 2 v T.length (cQ T))(u:T.length<=100000)(y:v.ownBlock≠some x)(z:w.heap[x]?=some (.cells #[Z .i32 a,Z Y b] 265 (0,0))):TL prog 154 #[v,Z Y i,.slice (some ⟨x,0,none⟩) 1 1] w (gY w B v T i a b):=by
 by_cases G:i=T.length
 .subst G;exact mh B x v T a b w E h u z
 .rcases h.2 with ⟨F,J⟩|⟨g,l,m,F,A,r,H,C,D,j⟩
  .omega
  .subst F;by_cases I:T.length+1<=l
   .exact kS B x g l i m T a b w (by omega) A I C u (λe=>y (by rw[e];rfl)) r D j z
   .exact lk B x g l i m T a b w (by omega) E (by omega) u r j (by omega) z
def L8(t B:Nat)(T:Sp.Tb)(y v:Int)(w:TJ)(e:Ending)(w':TJ):Prop:=Below t w w'/\e=.returned (.bool (!Sp.dw T y))/\oG w' B t (if Sp.dw T y=true then T else Sp.gI T y v)
theorem n5(t B:Nat)(T:Sp.Tb)(y v:Int)(w:TJ)(h:oG w B t T)(Q:Sp.da T)(ht:t<B)(R:B<=w.heap.size)(K:T.length<=100000):TL prog 102 #[.pointer (some ⟨t,0,none⟩),Z .i32 y,Z Y v] w (L8 t B T y v w):=by
 cases hh:Sp.dw T y with
 |true =>
  have m:=cP hh;have b:=cP h;clear hh h;go_enter func102,ntmps102;go_wp2_with fail;refine(nQ t B T y w (cO b) Q K).mono ?_;rintro e q ⟨rfl,z⟩;rw[cO m];go_wp2;go_ret;refine⟨z.mono (by omega),by rw[cO m];rfl,?_⟩;rw[cg (cO m)];exact(cO b).below z
 |false =>
  have m:=cP hh;have b:=cP h;clear hh h;go_enter func102,ntmps102;go_wp2_with fail;refine(nQ t B T y w (cO b) Q K).mono ?_;rintro e A ⟨rfl,z⟩;rw[cO m];obtain⟨u,hu,L⟩:=(cO b).below z;have S:=rN hu;have U:B<=A.heap.size:=cx R z.size;have M:t<A.heap.size:=by omega
  have C:(A.alloc (.cells #[Z .i32 y,Z Y v] 265)).heap[t]?=some (.cells #[u] 207 (0,0)):=by rw[cN _ _ _ M];exact hu
  have N:=cP C;have I:=cP L;have r:=dd L;obtain⟨p,D,rfl,_⟩:=r;have E:=Sp.lY T y;clear hu L C;go_wp2_with fail;refine(mu B A.heap.size (.slice p T.length D) T (Sp.dm T y) y v _ E (by simp;omega) ((cO I).alloc _) K (λF=>by have:=((cO I).lt _ F).2;omega) (ct A _)).mono ?_;rintro e J ⟨s,rfl,G,j⟩;have l:J.heap[t]?=some (.cells #[.slice p T.length D] 207 (0,0)):=by
   rw[j.block t (by simp;omega) (λF=>by have:=((cO I).lt _ F.symm).1;omega)];exact cO N
  have V:=rN l;have W:J.frozen? ⟨t,0,none⟩=false:=by simp[World.frozen?,l]
  obtain⟨X,H,rfl,_⟩:=dd G;have O:=cP l;clear l S;go_wp2;go_ret;have P:Below t w J:=(z.mono (by omega)).trans ⟨j.os,j.tape,j.output,by have:=j.size;simp at this;omega,λk o=>by
   rw[j.block k (by simp;omega) (λF=>by have:=((cO I).lt _ F.symm).1;omega),cN _ _ _ (by omega)]⟩
  refine⟨P.setCell TG _,by rw[cO m];rfl,?_⟩;rw[cd (by rw[cO m];decide)];refine⟨.slice X (T.length+1) H,?_,?_⟩
  .rw[cA J t 0 _ _ _ (cO O)];rfl
  .rw[Sp.iS];exact cI G ht _
end
end Go.Proofs.YtgkkdpegcieakaaGreatDoor
