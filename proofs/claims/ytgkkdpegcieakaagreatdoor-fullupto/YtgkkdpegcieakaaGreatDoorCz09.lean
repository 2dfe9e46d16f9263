import Derived.Test.YtgkkdpegcieakaaGreatDoorCz08
set_option linter.unusedVariables false
set_option linter.unusedSimpArgs false
set_option maxRecDepth 100000
set_option maxHeartbeats 16000000
namespace Go.Proofs.YtgkkdpegcieakaaGreatDoor
open Go.Proofs.Tryz
open Value renaming int→Z
open IntKind renaming i64→Y
open Go renaming World→TJ,Value→TK,Calls→TL
section
open Go.RowKit
def flat:List Nat->List TK
 |[]=>[]
 |h::r=>Z Y 1::Z Y h::flat r
theorem Ak(b:List Nat):(flat b).length=b.length*2:=by
 induction b with
 |nil=>rfl
 |cons h r e=>simp only[flat,cD,e];omega
theorem AO(a b:List Nat):flat (a++b)=flat a++flat b:=by
 induction a with
 |nil=>rfl
 |cons h r e=>simp[flat,e]
def m9(w:TJ)(M:Nat)(b:TK)(j e h:Nat)(l:List Nat):Prop :=
 ∃x,jW w M b j e h x/\w.ownsRow (M+1) 313 2 x l.length (flat l)
def zW(o:Option (Nat × List Nat))(M l b:Nat)(j:TK)(u:TypeId)(p:TK)(w:TJ)(e:Ending)(w':TJ):Prop:=Below M w w'/\match o with
  |some (h,m)=>e=.returned (.tuple #[])/\m9 w' M j l b h m
  |none=>e=.panicked [{ v := .iface u p,recovered:=false }]
def tV(F:Nat)(x:List UInt8):Prop := ∀(M e b h:Nat) (code:TK) (j:List Nat) (u:TypeId) (p:TK) (w:TJ),m9 w M code e b h j->uY M h u p w->j.length<=10000->(x=[93]->j≠[])->
 TL prog F #[.pointer (some ⟨M,0,none⟩)] w (zW (Sp.dst x h j) M e b code u p w)
variable {x:List UInt8}
theorem xW(h1:x≠[91])(h2:x≠[93]){n m:Nat}(ht:Sp.tk true x=some (n,m)){M r b h:Nat}{j l:TK}{y:List Nat}{u:TypeId}{p:TK}{w w':TJ}{e:Ending}(B:w.ownsRow (M+1) 313 2 l y.length (flat y))(C:CS n m M r b h j l u p w e w'):zW (Sp.dst x h y) M r b j u p w e w':=by
 obtain⟨A,D⟩:=C;refine⟨A.below,?_⟩;unfold Sp.dst;rw[cd h1,cd h2,ht];simp only;rcases D with ⟨z,E,rfl,F⟩|⟨z,rfl⟩
 .rw[cg ⟨z,E⟩];exact⟨rfl,l,F,A.own B⟩
 .rw[cd z]
theorem dR{F n m:Nat}(hF:lF F n m)(h1:x≠[91])(h2:x≠[93])(ht:Sp.tk true x=some (n,m)): tV F x:=by
 intro M r b h j B u p w hd y C D;obtain⟨l,hd,z⟩:=hd;exact(hF M r b h j l u p w hd y).mono λe E A=>xW h1 h2 ht z A
theorem N7:tV 190 [91]:=by
 intro M m b h j r u p w hd C D H;obtain⟨l,hd,E⟩:=hd;cases h with
 |zero =>
  refine(Da _ M w (B4 M m b j l w hd u p C.he) (λe y z=>Or.inr ⟨_,z.1⟩)).mono ?_;rintro e y ⟨rfl,rfl⟩;exact⟨cj _ _,rfl⟩
 |succ h =>
  refine(Da _ M w (Hg M m b h r.length j l (flat r) w hd C.hh D E) (λe y z=>Or.inl z.1)).mono ?_;rintro e y ⟨rfl,F,A,B,G⟩;refine⟨G,rfl,F,A,?_⟩;rw[AO,show (r++[h+1-1]).length=r.length+1 by simp];exact B
theorem Oi:tV 192 [93]:=by
 intro M z r h y b u p w hd B I H;obtain⟨l,hd,A⟩:=hd;obtain⟨b,m,rfl⟩:∃a m,b=a++[m]:=⟨b.dropLast,b.getLast (H rfl),(List.dropLast_concat_getLast (H rfl)).symm⟩
 rw[AO] at A;simp only[lN,cD,Bb] at A I;have J:∃g j,l=.slice (some ⟨g,0,none⟩) (b.length+1) j:=by
  rcases A.2 with ⟨P,Q⟩|⟨g,j,K,B,_⟩
  .omega
  .exact⟨g,j,B⟩
 obtain⟨g,j,rfl⟩:=J;have L:Sp.dst [93] h (b++[m])=if h=m then some (h,b) else none:=by
  unfold Sp.dst;rw[cd (by decide),cg rfl];simp only[Tr,Ts,Option.some_or,Tt]
 rw[L];by_cases C:h=m
 .subst C;rw[cg rfl];refine(RV _ M w (Nl M z r h b.length g j y (flat b) w hd (by omega) A (Ak b)) (λe D E=>Or.inl E.1)).mono ?_;rintro e D ⟨rfl,F,G,N⟩;exact⟨N,rfl,_,F,G⟩
 .rw[cd C];refine(RV _ M w (LC M z r h m b.length g j y (flat b) w hd (by omega) A (Ak b) C u p B.he) (λe D E=>Or.inr ⟨_,E.1⟩)).mono ?_;rintro e D ⟨rfl,O⟩;exact⟨O.mono (o9 hd.lt),rfl⟩
theorem G6:(k:Nat)->k<25->tV (Qc[k]!) (Sp.yn[k]!)
 |0,_=>dR do_1 (by decide) (by decide) (by decide)
 |1,_=>dR Q7 (by decide) (by decide) (by decide)
 |2,_=>dR QN (by decide) (by decide) (by decide)
 |3,_=>dR QL (by decide) (by decide) (by decide)
 |4,_=>dR QV (by decide) (by decide) (by decide)
 |5,_=>dR QH (by decide) (by decide) (by decide)
 |6,_=>dR QK (by decide) (by decide) (by decide)
 |7,_=>dR QJ (by decide) (by decide) (by decide)
 |8,_=>dR QO (by decide) (by decide) (by decide)
 |9,_=>dR Px (by decide) (by decide) (by decide)
 |10,_=>dR P0 (by decide) (by decide) (by decide)
 |11,_=>dR Po (by decide) (by decide) (by decide)
 |12,_=>dR PL (by decide) (by decide) (by decide)
 |13,_=>dR Qp (by decide) (by decide) (by decide)
 |14,_=>dR Qi (by decide) (by decide) (by decide)
 |15,_=>dR P9 (by decide) (by decide) (by decide)
 |16,_=>dR Pb (by decide) (by decide) (by decide)
 |17,_=>dR Pn (by decide) (by decide) (by decide)
 |18,_=>dR Qn (by decide) (by decide) (by decide)
 |19,_=>dR Py (by decide) (by decide) (by decide)
 |20,_=>dR PD (by decide) (by decide) (by decide)
 |21,_=>dR Qe (by decide) (by decide) (by decide)
 |22,_=>dR P8 (by decide) (by decide) (by decide)
 |23,_=>N7
 |24,_=>Oi
 |n+25,h=>absurd h (by omega)
theorem JS{n:Int}(r:Sp.number x=some n)(B M m b h:Nat)(j:TK)(y:List Nat)(u:TypeId)(p:TK)(w:TJ)(hd:m9 w M j m b h y)(z:uY M h u p w)(A:w.cell? ⟨B,0,none⟩=some (Z Y n)):TL prog 242 #[.pointer (some ⟨M,0,none⟩),.pointer (some ⟨B,0,none⟩)] w (zW (Sp.dst x h y) M m b j u p w):=by
 obtain⟨l,hd,C⟩:=hd;have D:x≠[91]:=by rintro rfl;rw[show Sp.number [91]=none by decide] at r;cases r
 have E:x≠[93]:=by rintro rfl;rw[show Sp.number [93]=none by decide] at r;cases r
 exact(OM B n M m b h j l u p w hd z A).mono λe G F=>xW D E (Sp.yX r) C F
end
section
open Go.RowKit
variable {at' M h fuel:Nat}{w:TJ}{code:TK}
theorem jW.Kj{b:TK}(hd:jW w M code at' fuel h b)(a:Nat): jW (w.setCell ⟨M,1,none⟩ (Z Y a)) M code a fuel h b:=by
 obtain⟨l,m,r,u,y,z,A,B,C⟩:=hd;refine⟨?_,?_,?_,λj e=>?_,λj e=>?_,?_,?_,?_,λj=>?_⟩
 .rw[cR (by omega)];exact l
 .exact mm _ _ _ m
 .rw[cR (by omega)];exact r
 .rw[cR (by omega)];exact u j e
 .rw[cR (by omega)];exact y j e
 .rw[cR (by omega)];exact z
 .rw[cR (by omega)];exact A
 .rw[cR (by omega)];exact B
 .rw[kX];exact C j
theorem jW.Ob{b:TK}(hd:jW w M code at' fuel h b)(a:Nat): jW (w.setCell ⟨M,2,none⟩ (Z Y a)) M code at' a h b:=by
 obtain⟨l,m,r,u,y,z,A,B,C⟩:=hd;refine⟨?_,?_,?_,λj e=>?_,λj e=>?_,?_,?_,?_,λj=>?_⟩
 .rw[cR (by omega)];exact l
 .rw[cR (by omega)];exact m
 .exact mm _ _ _ r
 .rw[cR (by omega)];exact u j e
 .rw[cR (by omega)];exact y j e
 .rw[cR (by omega)];exact z
 .rw[cR (by omega)];exact A
 .rw[cR (by omega)];exact B
 .rw[kX];exact C j
variable {ls:List Nat}
theorem m9.Kj(hd:m9 w M code at' fuel h ls)(a:Nat): m9 (w.setCell ⟨M,1,none⟩ (Z Y a)) M code a fuel h ls:=by
 obtain⟨x,b,e⟩:=hd;exact⟨x,b.Kj a,((ey.refl M w).set _ _).own e⟩
theorem m9.Ob(hd:m9 w M code at' fuel h ls)(a:Nat): m9 (w.setCell ⟨M,2,none⟩ (Z Y a)) M code at' a h ls:=by
 obtain⟨x,b,e⟩:=hd;exact⟨x,b.Ob a,((ey.refl M w).set _ _).own e⟩
theorem m9.drewN(hd:m9 w M code at' fuel h ls)(k:Nat): m9 (w.drewN k) M code at' fuel h ls:=by
 obtain⟨x,e,l⟩:=hd;have b:=below_drewN w k;exact⟨x,e.far (λj=>b.cell (p:=⟨M,j,none⟩) e.lt) (λj=>b.frozen (p:=⟨M,j,none⟩) e.lt),cW l b⟩
theorem m9.drew(hd:m9 w M code at' fuel h ls): m9 w.drew M code at' fuel h ls:=by
 obtain⟨x,b,e⟩:=hd;exact⟨x,b.drew,e.drew⟩
abbrev iL(M:Nat)(w w':TJ):Prop:=Below M w w'
theorem iL.set{w':TJ}(h:iL M w w')(j:Nat)(v:TK): iL M w (w'.setCell ⟨M,j,none⟩ v):=Below.setCell h (p:=⟨M,j,none⟩) TG v
theorem jl{w':TJ}(h:iL M w w'){b j:Nat}(hb:b<M): w'.cell? ⟨b,j,none⟩=w.cell? ⟨b,j,none⟩:=Below.cell h (p:=⟨b,j,none⟩) hb
def Fn(w:TJ)(M:Nat)(x:List UInt8)(b:TK):Prop:=(∃B n,B<M/\b=.func (.func 242) #[] #[.pointer (some ⟨B,0,none⟩)]/\j4 w B n/\Sp.number x=some n)\/(∃k,k<25/\x=Sp.yn[k]!/\b=oT k)
def Dt(w:TJ)(M g:Nat)(L:List (List UInt8)):Prop:=g<M/\∀i (hi:i<L.length),∃b,w.cell? ⟨g,i*2,none⟩=some b/\Fn w M L[i] b
def Me(o:Option (Nat × List Nat))(M:Nat)(code:TK)(u:TypeId)(p:TK)(w:TJ)(e:Ending)(w':TJ):Prop:=iL M w w'/\match o with
  |some (h,ls)=>e=.returned (.tuple #[])/\∃a f,m9 w' M code a f h ls
  |none=>e=.panicked [{ v := .iface u p,recovered:=false }]
def Q9(M:Nat)(w:TJ):Nat:=match w.cell? ⟨M,1,none⟩ with
 |some v=>(intOf v).toNat
 |none=>0
theorem JO{n:Int}(h:w.cell? ⟨M,1,none⟩=some (Z Y n)): Q9 M w=n.toNat:=by
 unfold Q9;rw[h];rfl
variable {x:List UInt8}
theorem Ke{j:Nat}{b:List Nat}(l:h<=16)(e:Sp.dst x h ls=some (j,b)): j<=16:=by
 unfold Sp.dst at e;split at e
 .split at e
  .cases e
  .injection e with e;injection e with e1 e2;omega
 .split at e
  .split at e
   .split at e
    .injection e with e;injection e with e1 e2;omega
    .cases e
   .cases e
  .split at e
   .cases e
   .split at e
    .injection e with e;injection e with e1 e2;omega
    .cases e
theorem DS{r:Nat}{b:List Nat}(u:x=[93]->ls≠[])(e:Sp.dst x h ls=some (r,b)): (b.length:Int)=ls.length+Sp.ds x:=by
 unfold Sp.dst at e;split at e
 .rename_i c;subst c;split at e
  .cases e
  .injection e with e;injection e with e1 e2;subst e2;simp[Sp.ds]
 .split at e
  .rename_i m j;subst j;have l:=u rfl;have y:0<ls.length:=List.length_pos_iff.2 l;split at e
   .split at e
    .injection e with e;injection e with e1 e2;subst e2;simp[Sp.ds];omega
    .cases e
   .cases e
  .rename_i m j;rw[Sp.n7 m j];split at e
   .cases e
   .split at e
    .injection e with e;injection e with e1 e2;subst e2;omega
    .cases e
theorem jL{G:Prop}(P:Program)(w:TJ)(h:G):wpAny P .text #[] (λ_ _ _=>True) 0 #[] { tmps := #[],defers:=[] } w->G:=λ_=>h
theorem cV{P : Program}{f : FuncId}{fn : Func}(l : P.funcs[f]?=some fn)(m : (fn.name == "runtime.NumGoroutine")=false)(hb : fn.body.isNone=false)(args : Array TK)(w : TJ): (callFunc f args).run P w=.ok (.enter f args) w := by
 unfold callFunc;have b : ¬fn.name = "runtime.NumGoroutine" := by simpa using m
 have j:¬fn.body=none:=by intro e;rw[e] at hb;cases hb
 simp[go_sem,l,b,j,hb]
theorem Av:(k:Nat)->k<25->∀(args:Array TK) (w:TJ),(callFunc (Qc[k]!) args).run prog w=.ok (.enter (Qc[k]!) args) w
 |0,_=>cV func161 (by kernel_rfl) (by kernel_rfl)
 |1,_=>cV func163 (by kernel_rfl) (by kernel_rfl)
 |2,_=>cV func164 (by kernel_rfl) (by kernel_rfl)
 |3,_=>cV func165 (by kernel_rfl) (by kernel_rfl)
 |4,_=>cV func166 (by kernel_rfl) (by kernel_rfl)
 |5,_=>cV func167 (by kernel_rfl) (by kernel_rfl)
 |6,_=>cV func168 (by kernel_rfl) (by kernel_rfl)
 |7,_=>cV func169 (by kernel_rfl) (by kernel_rfl)
 |8,_=>cV func170 (by kernel_rfl) (by kernel_rfl)
 |9,_=>cV func171 (by kernel_rfl) (by kernel_rfl)
 |10,_=>cV func173 (by kernel_rfl) (by kernel_rfl)
 |11,_=>cV func174 (by kernel_rfl) (by kernel_rfl)
 |12,_=>cV func175 (by kernel_rfl) (by kernel_rfl)
 |13,_=>cV func177 (by kernel_rfl) (by kernel_rfl)
 |14,_=>cV func178 (by kernel_rfl) (by kernel_rfl)
 |15,_=>cV func180 (by kernel_rfl) (by kernel_rfl)
 |16,_=>cV func181 (by kernel_rfl) (by kernel_rfl)
 |17,_=>cV func182 (by kernel_rfl) (by kernel_rfl)
 |18,_=>cV func183 (by kernel_rfl) (by kernel_rfl)
 |19,_=>cV func185 (by kernel_rfl) (by kernel_rfl)
 |20,_=>cV func186 (by kernel_rfl) (by kernel_rfl)
 |21,_=>cV func187 (by kernel_rfl) (by kernel_rfl)
 |22,_=>cV func188 (by kernel_rfl) (by kernel_rfl)
 |23,_=>cV func190 (by kernel_rfl) (by kernel_rfl)
 |24,_=>cV func192 (by kernel_rfl) (by kernel_rfl)
 |n+25,h=>absurd h (by omega)
theorem Fn.enter{F:Nat}{b:Array TK}(h:Fn w M x (.func (.func F) #[] b))(args:Array TK)(W:TJ): (callFunc F args).run prog W=.ok (.enter F args) W:=by
 rcases h with ⟨B,n,_,e,_⟩|⟨k,j,_,e⟩
 .injection e with e1 e2 e3;injection e1 with e1;subst e1;exact cV func242 (by kernel_rfl) (by kernel_rfl) args W
 .unfold oT at e;injection e with e1 e2 e3;injection e1 with e1;subst e1;exact Av k j args W
theorem Fn.calls{F:Nat}{b:Array TK}(h:Fn w M x (.func (.func F) #[] b)){j:Nat}{u:TypeId}{p:TK}{W:TJ}(z:iL M w W)(hd:m9 W M code at' fuel j ls)(y:uY M j u p W)(A:ls.length<=10000)(C:x=[93]->ls≠[]):TL prog F (#[.pointer (some ⟨M,0,none⟩)]++b) W (zW (Sp.dst x j ls) M at' fuel code u p W):=by
 rcases h with ⟨B,n,D,e,E,l⟩|⟨k,m,r,e⟩
 .injection e with e1 e2 e3;injection e1 with e1;subst e1 e3;exact JS l B M at' fuel j code ls u p W hd y ((jl z D).trans E.cell)
 .unfold oT at e;injection e with e1 e2 e3;injection e1 with e1;subst e1 e3 r;exact G6 k m M at' fuel j code ls u p W hd y A C
structure Cr (L:List (List UInt8)) (M:Nat) (code:TK) (w wr:TJ) (i h:Nat) (ls:List Nat):Prop where
 le:i<=L.length
 Qb:m9 wr M code i (L.length-i) h ls
 run:Sp.eZ L 0 []=Sp.eZ (L.drop i) h ls
 fm:Sp.kh true (L.drop i) ls.length=true
 len:ls.length<=i
 hh:h<=16
 kept:iL M w wr
theorem L6(L:List (List UInt8))(M g cap:Nat)(u:TypeId)(p:TK)(w:TJ)(hl:L.length<=4000)(hd:m9 w M (.slice (some ⟨g,0,none⟩) L.length cap) 0 L.length 0 [])(hr:Hid (Dt w M g L))(hf:Hid (Sp.kh true L 0=true))(hM:5<M)(he:w.cell? ⟨5,0,none⟩=some (.iface u p)):TL prog 113 #[.pointer (some ⟨M,0,none⟩)] w (Me (Sp.eZ L 0 []) M (.slice (some ⟨g,0,none⟩) L.length cap) u p w):=by
 generalize S:Me (Sp.eZ L 0 []) M (.slice (some ⟨g,0,none⟩) L.length cap) u p w=O;replace S:=cP S;have HE:=cP he;clear he;go_enter func113,ntmps113;go_wp2_with fail
 go_loopw [] (λwr=>∃(i h:Nat) (ls:List Nat),Hid (Cr L M (.slice (some ⟨g,0,none⟩) L.length cap) w wr i h ls)) (λwr=>L.length-Q9 M wr)
 case atStart=>exact⟨0,0,[],⟨cy _,hd,rfl,cO hf,b7 _,by omega,cj _ _⟩⟩
 case round =>
  obtain⟨i,h,ls,G⟩:=hrel;have hi:=(cO G).le;obtain⟨x,J,D⟩:=(cO G).Qb;have ad:=cP D;have e0:=J.c0;have e1:=J.c1;have e2:=J.c2;have f2:=J.fz 2;have K:=cP J;clear J D hd;have g0:(0:Int)<=(i:Int):=iJ _;by_cases c:i<L.length
  .have c1:(i:Int)<(L.length:Int):=by omega
   obtain⟨q,hq,HQ⟩:∃q,L.length-i=q+1/\Hid (L.length-i=q+1):=⟨L.length-i-1,by omega,cP (by omega)⟩
   rw[hq] at e2;have c2:((((q+1:Nat)):Int) == 0)=false:=cC.2 (by omega);have c3:((q+1:Nat):Int)-1=(q:Int):=by omega
   have c4:q<=4000:=by omega
   obtain⟨fv,N,A⟩:=(cO hr).2 i c;have U:=(cO hr).1;have e3:wr.cell? ⟨g,i*2,none⟩=some fv:=(jl (cO G).kept U).trans N;have af:M≠g:=by omega
   clear hq;obtain⟨F,r,rfl⟩:∃F r,fv=.func (.func F) #[] r:=by
    rcases A with ⟨B,n,_,rfl,_⟩|⟨k,_,_,rfl⟩
    .exact⟨_,_,rfl⟩
    .exact⟨_,_,rfl⟩
   have V:=cP A;have ag:=A.enter;clear A N;have T:Hid (∀k,TL prog F (#[.pointer (some ⟨M,0,none⟩)]++r) (((wr.drewN k).setCell ⟨M,2,none⟩ (Z Y (q:Int))).drew) (zW (Sp.dst L[i] h ls) M i q (.slice (some ⟨g,0,none⟩) L.length cap) u p (((wr.drewN k).setCell ⟨M,2,none⟩ (Z Y (q:Int))).drew))):=by
    show ∀k,_
    intro k;have j:=cO G;have m:=below_drewN wr k;have W:m9 (wr.drewN k) M (.slice (some ⟨g,0,none⟩) L.length cap) i (L.length-i) h ls:=j.Qb.drewN k;have y:=j.fm;rw[kp c] at y;refine(cO V).calls (iL.set (j.kept.trans (m.mono (o9 (cO K).lt))) _ _).drew ((W.Ob q).drew) ⟨by omega,?_,j.hh⟩ (by have:=j.len;omega) ?_
    .rw[<-cO HE];exact jl ((iL.set (j.kept.trans (m.mono (o9 (cO K).lt))) _ _).drew) hM
    .intro H he;obtain⟨_,P,_⟩:=Sp.kW y;rw[H,he,show Sp.ds [93] = -1 by decide] at P;simp at P
   have X:Hid (∀z b,Sp.dst L[i] h ls=some (z,b)->Sp.eZ (L.drop i) h ls=Sp.eZ (L.drop (i+1)) z b):=by
    show ∀z b,_
    intro z b e;rw[kp c,Sp.eZ,e]
   have t:Hid (Sp.dst L[i] h ls=none->Sp.eZ (L.drop i) h ls=none):=by
    show _->_
    intro e;rw[kp c,Sp.eZ,e]
   cases E:Sp.dst L[i] h ls with
   |none =>
    rw[E] at T;have HP:Hid (∀k l,iL M (((wr.drewN k).setCell ⟨M,2,none⟩ (Z Y (q:Int))).drew) l->O (.panicked [{ v := .iface u p,recovered:=false }]) l):=by
     show ∀k l,_
     intro k l s;have j:=cO G;have m:=below_drewN wr k;rw[<-cO S,j.run,cO t E];exact⟨((iL.set (j.kept.trans (m.mono (o9 (cO K).lt))) _ _).drew).trans s,rfl⟩
    clear E;go_wp2_with fail
    go_quiet (fail)
    go_wp2_with fail
    go_region_with (refine(cO T _).mono ?_;rintro e l ⟨C,rfl⟩;refine jL prog l ⟨rfl,cO HP _ l C⟩ ?_)
    all_goals trivial
   |some o =>
    obtain⟨z,b⟩:=o;rw[E] at T;have HN:Hid (∀k l,iL M (((wr.drewN k).setCell ⟨M,2,none⟩ (Z Y (q:Int))).drew) l->m9 l M (.slice (some ⟨g,0,none⟩) L.length cap) i q z b->Cr L M (.slice (some ⟨g,0,none⟩) L.length cap) w (l.setCell ⟨M,1,none⟩ (Z Y ((i+1:Nat):Int))) (i+1) z b):=by
     show ∀k l,_
     intro k l s hd;have j:=cO G;have m:=below_drewN wr k;have hQ:=cO HQ;have y:=j.fm;rw[kp c] at y;obtain⟨_,P,h3⟩:=Sp.kW y;have Q:L[i]=[93]->ls≠[]:=by
      intro H he;rw[H,he,show Sp.ds [93] = -1 by decide] at P;simp at P
     have aa:=DS Q E;have ah:=Sp.A9 L[i];have ae:=j.len;refine⟨by omega,?_,j.run.trans (cO X z b E),by rw[aa];exact h3,by omega,Ke j.hh E,iL.set (((iL.set (j.kept.trans (m.mono (o9 (cO K).lt))) _ _).drew).trans s) _ _⟩;rw[show L.length-(i+1)=q by omega];exact hd.Kj (i+1)
    clear E;go_wp2_with fail
    go_quiet (fail)
    go_wp2_with fail
    go_region_with (refine(cO T _).mono ?_;rintro e l ⟨C,rfl,R⟩)
    all_goals
     have ab:Hid (Cr L M (.slice (some ⟨g,0,none⟩) L.length cap) w (l.setCell ⟨M,1,none⟩ (Z Y ((i+1:Nat):Int))) (i+1) z b):=cO HN _ l C R;obtain⟨x1,I,_⟩:=R;have j1:=I.c1;have j2:=I.fz 1;have j3:wrap64 ((i:Int)+1)=((i+1:Nat):Int):=by unfold wrap64;omega
     clear I C;go_wp2;go_roundw
     case rel=>exact⟨i+1,z,b,ab⟩
     case measure =>
      have a1:=JO e1;have a2:=JO (mm l ⟨M,1,none⟩ (Z Y ((i:Int)+1)) j1);rw[a1,a2];omega
  .have c1:¬(i:Int)<(L.length:Int):=by omega
   have ei:i=L.length:=by omega
   go_wp2_with fail
   go_quiet (fail)
   go_wp2;refine cw (cu rfl _ _ _) rfl ?_;have j:=cO G;rw[<-cO S,j.run,ei,Dl TG];exact⟨j.kept.trans ((below_drewN wr nq).mono (o9 (cO K).lt)),rfl,_,_,j.Qb.drewN nq⟩
end
section
open Go.RowKit
namespace Sp
def fC(x:List UInt8)(i:Nat)(e b:List Nat):Option (List Nat × List Nat):=if x=[91] then some (e++[0],b++[i])
 else if x=[93] then (match b.getLast? with | some l=>some (((e++[0]).set i l).set l i,b.dropLast) | none=>none)
 else some (e++[0],b)
def fB(L:List (List UInt8)):Nat->Option (List Nat × List Nat)
 |0=>some ([],[])
 |i+1=>match fB L i with
  |none=>none
  |some (ms,op)=>fC (L.getD i []) i ms op
theorem uv{x:List UInt8}{i:Nat}{y r b e:List Nat}(h:fC x i y r=some (b,e)):b.length=y.length+1/\(e.length:Int)=r.length+ds x:=by
 unfold fC at h;split at h
 .rename_i c;subst c;injection h with h;injection h with j m;subst j m;simp[ds]
 .split at h
  .rename_i z u;subst u;split at h
   .rename_i l A;injection h with h;injection h with j m;subst j m;have:r≠[]:=by rintro rfl;cases A
    have:=List.length_pos_iff.2 this;simp[ds];omega
   .cases h
  .rename_i z u;injection h with h;injection h with j m;subst j m;rw[n7 z u];simp
end Sp
def cz:List TK->List Nat->List TK
 |f::fs,m::ms=>f::Z Y m::cz fs ms
 |_,_=>[]
theorem On:∀(j:List TK) (e:List Nat) (f:TK) (m:Nat),j.length=e.length->cz (j++[f]) (e++[m])=cz j e++[f,Z Y m]:=by
 intro j
 induction j with
 |nil=>intro e f m h;cases e with
  |nil=>rfl
  |cons a b=>cases h
 |cons r j l =>
  intro e f m h;cases e with
  |nil=>cases h
  |cons u e=>simp only[mf,cz];rw[l e f m (by simpa using h)]
theorem IB:∀(l:List TK) (e:List Nat) (j m:Nat),l.length=e.length->(cz l e).set (j*2+1) (Z Y m)=cz l (e.set j m):=by
 intro l
 induction l with
 |nil=>intro e j m h;cases e with
  |nil=>rfl
  |cons a b=>cases h
 |cons f l r =>
  intro e j m h;cases e with
  |nil=>cases h
  |cons u e =>
   cases j with
   |zero=>simp[cz]
   |succ j =>
    rw[show (j+1)*2+1=(j*2+1)+1+1 by omega];simp only[cz,List.set_cons_succ];rw[r e j m (by simpa using h)]
theorem Qa:∀(e:List TK) (b:List Nat) (j:Nat),e.length=b.length->(cz e b)[j*2]?=e[j]?:=by
 intro e
 induction e with
 |nil=>intro b j h;cases b <;> simp[cz]
 |cons f e l =>
  intro b j h;cases b with
  |nil=>cases h
  |cons m b =>
   cases j with
   |zero=>simp[cz]
   |succ j =>
    rw[show (j+1)*2=(j*2)+1+1 by omega];simp only[cz,List.getElem?_cons_succ];exact l b j (by simpa using h)
theorem Lh:∀(l:List TK) (e:List Nat) (j:Nat),l.length=e.length->(cz l e)[j*2+1]?=(e[j]?).map (λm=>Z Y m):=by
 intro l
 induction l with
 |nil=>intro e j h;cases e with
  |nil=>simp[cz]
  |cons a b=>cases h
 |cons f l r =>
  intro e j h;cases e with
  |nil=>cases h
  |cons m e =>
   cases j with
   |zero=>simp[cz]
   |succ j =>
    rw[show (j+1)*2+1=(j*2+1)+1+1 by omega];simp only[cz,List.getElem?_cons_succ];exact r e j (by simpa using h)
def Mb(x:List UInt8)(w:TJ)(e:Ending)(w':TJ):Prop:=TI w w'/\((∃(j:TM) (nw:Bool) (F:Nat) (b:Array TK),e=.returned (.tuple #[.agg #[.string j,.bool nw,.func (.func F) #[] b],.bool true])/\Fn w' w'.heap.size x (.func (.func F) #[] b)/\Sp.tk true x≠none/\(nw=true->Sp.tk false x=none)/\(nw=false->Sp.tk false x≠none))\/(Sp.tk true x=none/\Sp.tk false x=none/\e=.returned (.tuple #[uG,.bool false])))
theorem yi(s:TM)(b:Nat)(w:TJ)(y:s.size<=4000)(C:gX b w):TL prog 224 #[.string s,.slice (some ⟨b,0,none⟩) 25 25] w (Mb s.data.toList w):=by
 cases j:Sp.number s.data.toList with
 |some n =>
  refine(yo s _ w y n j).mono ?_;rintro e z ⟨B,E,A,rfl,m⟩;have D:B<z.heap.size:=(cB.1 A).1;refine⟨m,Or.inl ⟨_,_,_,_,rfl,Or.inl ⟨B,n,D,rfl,A,j⟩,?_,?_,?_⟩⟩
  .rw[Sp.yX j];intro e;cases e
  .intro e;cases e
  .intro _;rw[Sp.yX j];intro e;cases e
 |none =>
  refine(wP s b w y C j).mono ?_;rintro e z ⟨m,⟨k,r,l,rfl⟩|⟨l,rfl⟩⟩
  .refine⟨m,Or.inl ⟨_,_,_,_,rfl,Or.inr ⟨k,r,l.symm,rfl⟩,?_,?_,?_⟩⟩
   .rw[<-l,Sp.Ec k r];intro e;cases e
   .intro u;rw[<-l,Sp.zO k r];rw[cg (by simpa [tc] using u)]
   .intro u;rw[<-l,Sp.zO k r];rw[cd (by simpa [tc] using u)];intro e;cases e
  .exact⟨m,Or.inr ⟨Sp.DI j l,Sp.DI j l,rfl⟩⟩
end
section
open Go.RowKit
theorem info_order:(prog.info? 289).map (λi=>(i.zero,i.size,i.bytes))=some (some (.agg #[.nilFunc,Z Y 0]),2,16):=by kernel_rfl
def iz(l:List Nat):List TK:=l.map λ(n:Nat)=>Z Y (n:Int)
def JH(wt:Bool)(L:List (List UInt8))(w:TJ)(e:Ending)(w':TJ):Prop:=TI w w'/\((Sp.kh wt L 0=true/\∃g b fs ms,e=.returned (.tuple #[.slice (some ⟨g,0,none⟩) L.length b,.bool true])/\w.heap.size<=g/\w'.ownsRow w.heap.size 289 2 (.slice (some ⟨g,0,none⟩) L.length b) L.length (cz fs ms)/\fs.length=L.length/\Sp.fB L L.length=some (ms,[])/\∀j (l:j<L.length),Fn w' w'.heap.size L[j] (fs.getD j .nilFunc))\/(Sp.kh wt L 0=false/\∃p n b,e=.returned (.tuple #[.slice p n b,.bool false])))
structure tC (wt:Bool) (L:List (List UInt8)) (w wr:TJ) (i:Nat) (c o:TK) (fs:List TK) (ms op:List Nat):Prop where
 le:i<=L.length
 below:TI w wr
 row:wr.ownsRow w.heap.size 289 2 c i (cz fs ms)
 ops:wr.ownsRow w.heap.size 3 1 o op.length (iz op)
 fl:fs.length=i
 rd:Sp.fB L i=some (ms,op)
 fm:Sp.kh wt L 0=Sp.kh wt (L.drop i) op.length
 fn:∀j (hj:j<L.length),j<i->Fn wr wr.heap.size L[j] (fs.getD j .nilFunc)
 ol:∀x∈op,x<i
 oi:op.length<=i
variable {fv:TK}{w:TJ}
theorem Fn.below{w':TJ}{x:List UInt8}(h:Fn w w.heap.size x fv)(hb:TI w w'): Fn w' w'.heap.size x fv:=by
 rcases h with ⟨B,n,b,e,j,l⟩|h
 .exact Or.inl ⟨B,n,dT b hb.size,e,(hb.block B b).trans j,l⟩
 .exact Or.inr h
variable {B:Nat}
theorem Fn.grown{w':TJ}{x:List UInt8}{v:TK}{e size n:Nat}{y:List TK}(h:Fn w w.heap.size x fv)(z:w.ownsRow B e size v n y)(r:w.grownBy w' v.ownBlock)(he:e≠2): Fn w' w'.heap.size x fv:=by
 rcases h with ⟨D,m,u,A,b,C⟩|h
 .refine Or.inl ⟨D,m,dT u r.size,A,?_,C⟩;refine(r.block D u ?_).trans b;intro j;rcases z.2 with ⟨rfl,_⟩|⟨g,E,F,rfl,_,l,_⟩
  .simp[Value.ownBlock] at j
  .simp only[Value.ownBlock,Option.some.injEq] at j;subst j;unfold j4 at b;rw[l] at b;injection b with b;injection b with _ G;exact he G
 .exact Or.inr h
structure D4 (L:List (List UInt8)) (B:Nat) (wr:TJ) (i:Nat) (c o:TK) (fs:List TK) (ms op:List Nat):Prop where
 row:wr.ownsRow B 289 2 c (i+1) (cz fs ms)
 ops:wr.ownsRow B 3 1 o op.length (iz op)
 fl:fs.length=i+1
 ml:ms.length=i+1
 fn:∀j (hj:j<L.length),j<i+1->Fn wr wr.heap.size L[j] (fs.getD j .nilFunc)
variable {fs:List TK}{i:Nat}
theorem my{v d:TK}{j:Nat}(e:fs.length=i): (fs++[v]).getD j d=if j<i then fs.getD j d else if j=i then v else d:=by
 rw[cL,cL];by_cases h:j<i
 .rw[cg h,qa (by omega)]
 .rw[cd h,cF (by omega),e];by_cases b:j=i
  .subst b;simp
  .rw[cd b,Tu (by simp;omega)];rfl
variable {op ms:List Nat}{c c' o:TK}{L:List (List UInt8)}{wr w3:TJ}{wt:Bool}
theorem I1{y G:TJ}(b:tC wt L w wr i c o fs ms op)(hi:i<L.length)(r:TI wr y)(D:Fn y y.heap.size L[i] fv)(u:TI y G)(E:w3.ownsRow w.heap.size 289 2 c' (i+1) (cz fs ms++[fv,Z Y 0]))(l:G.grownBy w3 c.ownBlock): D4 L w.heap.size w3 i c' o (fs++[fv]) (ms++[0]) op/\TI w w3:=by
 have m:=r.trans (u.mono r.size);have A:=cW b.row m;have H:=cW b.ops m;have z:ms.length=i:=by
  have N:=b.row.1;have:∀(k:Nat) (C F:List Nat),Sp.fB L k=some (C,F)->C.length=k:=by
   intro k
   induction k with
   |zero=>intro C F h;simp[Sp.fB] at h;obtain⟨rfl,_⟩:=h;rfl
   |succ k I =>
    intro C F h;simp only[Sp.fB] at h;split at h
    .cases h
    .rename_i O H J;rw[(Sp.uv h).1,I _ _ J]
  exact this _ _ _ b.rd
 refine⟨⟨?_,jE A H (by decide) l,by simp[b.fl],by simp[z],?_⟩,?_⟩
 .rw[On _ _ _ _ (by rw[b.fl,z])];exact E
 .intro j K M;rw[my b.fl];by_cases h:j<i
  .rw[cg h];exact(((b.fn j K h).below r).below u).grown A l (by decide)
  .have e:j=i:=by omega
   subst e;rw[cd h,cg rfl];exact(D.below u).grown A l (by decide)
 .exact rW (ys:=[]) (v':=c') (cx b.below.size m.size) A (b.below.trans (m.mono b.below.size)) l
theorem An(b:tC wt L w wr i c o fs ms op)(hi:i<L.length)(e:D4 L w.heap.size w3 i c' o (fs++[fv]) (ms++[0]) op)(hb:TI w w3)(ht:Sp.tk wt L[i]≠none)(h1:L[i]≠[91])(h2:L[i]≠[93]):tC wt L w w3 (i+1) c' o (fs++[fv]) (ms++[0]) op:=by
 have hd:=Sp.n7 h1 h2;refine⟨by omega,hb,e.row,e.ops,e.fl,?_,?_,λj m l=>e.fn j m l,λx r=>by have:=b.ol x r;omega,by have:=b.oi;omega⟩
 .rw[Sp.fB,b.rd];simp only;rw[cL,cH hi,Option.getD_some,Sp.fC,cd h1,cd h2]
 .rw[b.fm,kp hi,Sp.kh,cd (by rintro(hc|hc);exact ht hc;rw[hd] at hc;omega),hd];simp
theorem Eu{y:TJ}{z:TK}(r:tC wt L w wr i c o fs ms op)(hi:i<L.length)(u:D4 L w.heap.size w3 i c' o (fs++[fv]) (ms++[0]) op)(hb:TI w w3)(h1:L[i]=[91])(A:y.ownsRow w.heap.size 3 1 z (op.length+1) (iz op++[Z Y i]))(l:TJ)(b:TI w3 l)(e:l.grownBy y o.ownBlock):tC wt L w y (i+1) c' z (fs++[fv]) (ms++[0]) (op++[i]):=by
 have E:=cW u.row b;have C:=cW u.ops b;have F:Sp.tk wt L[i]≠none:=by rw[h1];cases wt <;> decide
 have hd:Sp.ds L[i]=1:=by rw[h1];decide
 refine⟨by omega,rW (ys:=[]) (v':=z) (cx hb.size b.size) C (hb.trans (b.mono hb.size)) e,jE C E (by decide) e,?_,u.fl,?_,?_,λj G D=>((u.fn j G D).below b).grown C e (by decide),?_,by have:=r.oi;simp;omega⟩
 .rw[show (op++[i]).length=op.length+1 by simp,show iz (op++[i])=iz op++[Z Y i] by simp[iz]];exact A
 .rw[Sp.fB,r.rd];simp only;rw[cL,cH hi,Option.getD_some,Sp.fC,cg h1]
 .rw[r.fm,kp hi,Sp.kh,cd (by rintro(hc|hc);exact F hc;rw[hd] at hc;omega),hd];simp
 .intro x m;rcases cJ.1 m with m|m
  .have:=r.ol x m;omega
  .rw[eh] at m;omega
theorem Ee{l r G z A:Nat}(C:tC wt L w wr i c (.slice (some ⟨z,0,none⟩) (op.length+1) A) fs ms (op++[l]))(hi:i<L.length)(b:D4 L w.heap.size w3 i (.slice (some ⟨r,0,none⟩) (i+1) G) (.slice (some ⟨z,0,none⟩) (op.length+1) A) (fs++[fv]) (ms++[0]) (op++[l]))(hb:TI w w3)(h1:L[i]=[93]):tC wt L w ((w3.setCell ⟨r,i*2+1,none⟩ (Z Y l)).setCell ⟨r,l*2+1,none⟩ (Z Y i)) (i+1) (.slice (some ⟨r,0,none⟩) (i+1) G) (.slice (some ⟨z,0,none⟩) op.length A) (fs++[fv]) (((ms++[0]).set i l).set l i) op:=by
 have E:L[i]≠[91]:=by rw[h1];decide
 have J:Sp.tk wt L[i]≠none:=by rw[h1];cases wt <;> decide
 have hd:Sp.ds L[i] = -1:=by rw[h1];decide
 have u:=b.row.stored (i*2+1) (Z Y l);have D:=u.1.stored (l*2+1) (Z Y i);have m:(fs++[fv]).length=(ms++[0]).length:=by rw[b.fl,b.ml]
 rw[IB _ _ _ _ m,IB _ _ _ _ (by rw[QX];exact m)] at D;have K:=jE b.row b.ops (by decide) u.2;have H:=jE u.1 K (by decide) D.2;have y:=(b.row.lt r rfl).1;have M:((w3.setCell ⟨r,i*2+1,none⟩ (Z Y l)).setCell ⟨r,l*2+1,none⟩ (Z Y i)).ownsRow w.heap.size 3 1 (.slice (some ⟨z,0,none⟩) (op.length+1) A) (op.length+1) (iz (op++[l])):=by
  have e:(op++[l]).length=op.length+1:=by simp
  rw[e] at H;exact H
 have I:=yZ M;have N:(iz (op++[l])).take (op.length*1)=iz op:=by simp[iz]
 rw[N] at I;refine⟨by omega,(hb.setCell y _).setCell y _,D.1,I,b.fl,?_,?_,λj O F=>((b.fn j O F).grown b.row u.2 (by decide)).grown u.1 D.2 (by decide),λx P=>by have:=C.ol x (Fv _ P);omega,by have:=C.oi;simp at this;omega⟩
 .rw[Sp.fB,C.rd];simp only;rw[cL,cH hi,Option.getD_some,Sp.fC,cd E,cg h1];simp
 .rw[C.fm,kp hi,Sp.kh,cd (by rintro(hc|hc);exact J hc;rw[hd] at hc;simp at hc;omega),hd];simp
  congr 1
  omega
theorem AM{l:Nat}(h:w.ownsRow B 3 1 o (op++[l]).length (iz (op++[l]))): ∃g b,o=Value.slice (some ⟨g,0,none⟩) (op.length+1) b/\w.cell? ⟨g,op.length,none⟩=some (Z Y (l:Int))/\op.length<=b:=by
 rw[show (op++[l]).length=op.length+1 by simp] at h;rcases h.2 with ⟨_,j⟩|⟨g,b,e,rfl,_,_,m,_⟩
 .omega
 .refine⟨g,b,rfl,(h.cellAt op.length (by omega)).trans ?_,by omega⟩;simp[iz]
theorem _root_.Go.World.ownsRow.tS{n g cap:Nat}(h:w.ownsRow B 289 2 (.slice (some ⟨g,0,none⟩) n cap) n (cz fs ms)){j:Nat}(e:j<n): ∃y,w.cell? ⟨g,j*2+1,none⟩=some y:=by
 have b:=h.cellAt (j*2+1) (by omega);have l:(cz fs ms).length=n*2:=h.1;exact⟨_,b.trans (cH (by omega))⟩
theorem yO(X:List TM)(p:Option Addr)(cap b:Nat)(wt:Bool)(w:TJ)(hX:JR w p X)(hl:X.length<=4000)(h0:0<X.length)(hz:∀x∈X,x.size<=4000)(hW:gX b w):TL prog 195 #[.slice p X.length cap,.slice (some ⟨b,0,none⟩) 25 25,.bool wt] w (JH wt (fH X) w):=by
 obtain⟨t2,af,ar,au,av⟩:=fa info_order;obtain⟨t1,ag,aw,ax,ay⟩:=fa info_int;have HX:=cP hX;have HZ:=cP hz;have HW:=cP hW;have ak:=cP (Dg X);clear hX hz hW;generalize hO:JH wt (fH X) w=O;replace hO:=cP hO;go_enter func195,ntmps195;go_wp2_with fail
 go_loopw [8,9,17] (λcv ov u wr=>∃(i:Nat) (fs:List TK) (ms op:List Nat),u=Z Y i/\i<=X.length/\Hid (tC wt (fH X) w wr i cv ov fs ms op)) (λ_ _ u _=>X.length-(intOf u).toNat)
 case atStart=>exact⟨0,[],[],[],rfl,cy _,⟨cy _,cj _ _,fc _ _ _ _,fc _ _ _ _,rfl,rfl,by simp,λj r aL=>absurd aL (by omega),λx hx=>absurd hx (by simp),b7 _⟩⟩
 case round =>
  obtain⟨i,fs,ms,op,rfl,hi,D⟩:=hrel;have g0:(0:Int)<=(i:Int):=iJ _;by_cases c:i<X.length
  .have c1:(i:Int)<(X.length:Int):=by omega
   have y:=cO D;obtain⟨g,az,rfl,aM,W⟩:=(cO HX) i c;have aN:wr.cell? ⟨g,az+i,none⟩=some (.string X[i]):=(y.below.cell (p:=⟨g,az+i,none⟩) aM).trans W;have aA:=(cO HZ) _ (pY c);have hL:(fH X)[i]'(by rw[cO ak];exact c)=X[i].data.toList:=KS c;have C:i<(fH X).length:=by rw[cO ak];exact c
   generalize X[i]=x at aN aA hL;have U:=cP hL;have aO:=(cO HW).below y.below;clear W hL y;go_wp2_with fail;refine(yi x b wr aA aO).mono ?_;rintro e w1 ⟨H,⟨nm,nw,F,M,rfl,q,ht,aB,aC⟩|⟨ag,af,rfl⟩⟩
   .have aD:=q;rw[<-cO U] at q;by_cases N:nw=true/\wt=false
    .obtain⟨rfl,rfl⟩:=N;have t:O (.returned (.tuple #[.slice none 0 0,.bool false])) (w1.alloc (.cells #[.string nm,.bool true,.func (.func F) #[] M] 275)):=by
      rw[<-cO hO];have y:=cO D;refine⟨(y.below.trans (H.mono y.below.size)).alloc (cx y.below.size H.size) _,Or.inr ⟨?_,_,_,_,rfl⟩⟩;rw[y.fm,kp C,Sp.kh,cg (Or.inl (by rw[cO U];exact aB rfl))]
     clear H q aD;go_wp2;exact t
    .have aE:Hid (Sp.tk wt (fH X)[i]≠none):=by
      show _≠_
      rw[cO U];cases wt with
      |true=>exact ht
      |false=>exact aC (by cases nw with
       |true=>exact absurd ⟨rfl,rfl⟩ N
       |false=>rfl)
     have y:=cO D;have s:TI w1 ((w1.alloc (.cells #[.string nm,.bool nw,.func (.func F) #[] M] 275)).alloc (.cells #[.func (.func F) #[] M,Z Y 0] 289)):=((cj w1.heap.size w1).alloc TG _).alloc (by simp) _;have an:=H.trans (s.mono H.size);have r2:=cW y.row an;have ah:=cx y.below.size an.size;have aF:=cP q;have ai:=cP H;clear q aD H ht aB aC y an;cases nw with
     |true =>
      obtain rfl:wt=true:=by cases wt with
       |true=>rfl
       |false=>exact absurd ⟨rfl,rfl⟩ N
      clear N;go_wp2_with (first
       |(at_builtin;go_must (refine LP _ rfl (.tmp 38) (.tmp 42) 149 rfl w.heap.size 289 t2 _ 2 16 underlying149 af ar au av rfl (by decide) _ _ _ rfl r2 ⟨w1.heap.size+1,0,none⟩ 1 1 [.func (.func F) #[] M,Z Y 0] rfl rfl ?c1 ?c2 ?c3 ?c4 ?c5 ?_))
       |go_in)
      case c1 =>
       intro j u r
       match j,r with
       |0,r=>simp at r;subst r;simp[Addr.add]
       |1,r=>simp at r;subst r;simp[Addr.add]
       |j+2,r=>simp at r
      case c2=>intro u hu;simp at hu;rcases hu with rfl | rfl <;> rfl
      case c3=>unfold maxLen;omega
      case c4=>omega
      case c5=>exact ah
      intro c3 w3 Q aa ab;obtain⟨P,ad⟩:=I1 (cO D) C (cO ai) (cO aF) s Q aa;obtain⟨g3,aG,rfl⟩:∃g cap,c3=.slice (some ⟨g,0,none⟩) (i+1) cap:=by
       rcases Q.2 with ⟨_,aP⟩|⟨g,cap,aQ,hv,_⟩
       .omega
       .exact⟨g,cap,hv⟩
      have I:=cP P;have E:=cP ad;clear Q aa r2 s P ad ah ai ab;by_cases z:x.data.toList=[91]
      .have t91:(x.toList == [91])=true:=by rw[Eb,z];decide
       have R:=cP z;clear z;have S:=(cO I).ops;have aH:=(cO E).size;go_wp2_with (first
        |(at_builtin;go_must (refine LP _ rfl (.tmp 47) (.tmp 49) 39 rfl w.heap.size 3 t1 _ 1 8 underlying39 ag aw ax ay rfl (by decide) _ _ _ rfl (S.alloc _) ⟨w3.heap.size,0,none⟩ 1 1 [Z Y (i:Int)] rfl rfl ?d1 ?d2 ?d3 ?d4 ?d5 ?_))
        |go_in)
       case d1 =>
        intro j u r
        match j,r with
        |0,r=>simp at r;subst r;simp[Addr.add]
        |j+1,r=>simp at r
       case d2=>intro u hu;simp at hu;subst hu;rfl
       case d3=>have:=(cO D).oi;unfold maxLen;omega
       case d4=>have:=(cO D).oi;omega
       case d5=>simp;omega
       intro o4 w4 T ae aI;have G:=cP (Eu (cO D) C (cO I) (cO E) ((cO U).trans (cO R)) T _ ((cj w3.heap.size w3).alloc TG _) ae);obtain⟨q4,k4,rfl,_⟩:=dd T;clear T ae S;go_wp2;go_roundw
       case rel=>exact⟨i+1,_,_,_,by go_num,by omega,G⟩
       case measure=>simp[intOf];omega
      .have t91:(x.toList == [91])=false:=by rw[Eb];exact cC.2 z
       have R:=cP z;clear z;by_cases A:x.data.toList=[93]
       .have t93:(x.toList == [93])=true:=by rw[Eb,A];decide
        have J:=cP A;clear A;have S:=(cO I).ops;by_cases K:op=[]
        .subst K;obtain⟨qo,ko,rfl,_⟩:=dd S;have t:O (.returned (.tuple #[.slice none 0 0,.bool false])) w3:=by
          rw[<-cO hO];have y:=cO D;refine⟨cO E,Or.inr ⟨?_,_,_,_,rfl⟩⟩;rw[y.fm,kp C,Sp.kh,cg (Or.inr (by rw[cO U,cO J];decide))]
         clear S;go_wp2;exact t
        .obtain⟨op,l,rfl⟩:∃a m,op=a++[m]:=⟨op.dropLast,op.getLast K,(List.dropLast_concat_getLast K).symm⟩
         clear K;obtain⟨go,co,rfl,aR,aJ⟩:∃g cap,_=Value.slice (some ⟨g,0,none⟩) (op.length+1) cap/\w3.cell? ⟨g,op.length,none⟩=some (Z Y (l:Int))/\op.length<=cap:=AM S;have aS:l<i:=(cO D).ol l (by simp);have aK:l<i+1:=by omega
         have G:=cP (Ee (cO D) C (cO I) (cO E) ((cO U).trans (cO J)));have aT:op.length<=4000:=by have:=(cO D).oi;simp at this;omega
         obtain⟨y1,aU⟩:=(cO I).row.tS (j:=i) (by omega);obtain⟨y2,ao⟩:=(cO I).row.tS (j:=l) (by omega);have aV:(w3.setCell ⟨g3,i*2+1,none⟩ (Z Y (l:Int))).cell? ⟨g3,l*2+1,none⟩=some y2:=(cR (by omega)).trans ao;have z1:=(cO I).row.frozenAt (i*2+1);have z2:=(cO I).row.frozenAt (l*2+1);have g1:((op.length+1:Nat):Int)-1=(op.length:Int):=by omega
         have g2:(0:Int)<=(op.length:Int):=iJ _;have g3:(op.length:Int)<((op.length+1:Nat):Int):=by omega
         have g4:(op.length:Int)<=(co:Int):=by omega
         have g5:(0:Int)<=(l:Int):=iJ _;have g6:(l:Int)<((i+1:Nat):Int):=by omega
         have g7:(i:Int)<((i+1:Nat):Int):=by omega
         clear S;go_wp2;go_roundw
         case rel=>exact⟨i+1,_,_,_,by go_num,by omega,G⟩
         case measure=>simp[intOf];omega
       .have t93:(x.toList == [93])=false:=by rw[Eb];exact cC.2 A
        have J:=cP A;clear A;have G:=cP (An (cO D) C (cO I) (cO E) (cO aE) (by rw[cO U];exact cO R) (by rw[cO U];exact cO J));go_wp2;go_roundw
        case rel=>exact⟨i+1,_,_,_,by go_num,by omega,G⟩
        case measure=>simp[intOf];omega
     |false =>
      clear N;go_wp2_with (first
       |(at_builtin;go_must (refine LP _ rfl (.tmp 38) (.tmp 42) 149 rfl w.heap.size 289 t2 _ 2 16 underlying149 af ar au av rfl (by decide) _ _ _ rfl r2 ⟨w1.heap.size+1,0,none⟩ 1 1 [.func (.func F) #[] M,Z Y 0] rfl rfl ?c1 ?c2 ?c3 ?c4 ?c5 ?_))
       |go_in)
      case c1 =>
       intro j u r
       match j,r with
       |0,r=>simp at r;subst r;simp[Addr.add]
       |1,r=>simp at r;subst r;simp[Addr.add]
       |j+2,r=>simp at r
      case c2=>intro u hu;simp at hu;rcases hu with rfl | rfl <;> rfl
      case c3=>unfold maxLen;omega
      case c4=>omega
      case c5=>exact ah
      intro c3 w3 Q aa ab;obtain⟨P,ad⟩:=I1 (cO D) C (cO ai) (cO aF) s Q aa;obtain⟨g3,aG,rfl⟩:∃g cap,c3=.slice (some ⟨g,0,none⟩) (i+1) cap:=by
       rcases Q.2 with ⟨_,aP⟩|⟨g,cap,aQ,hv,_⟩
       .omega
       .exact⟨g,cap,hv⟩
      have I:=cP P;have E:=cP ad;clear Q aa r2 s P ad ah ai ab;by_cases z:x.data.toList=[91]
      .have t91:(x.toList == [91])=true:=by rw[Eb,z];decide
       have R:=cP z;clear z;have S:=(cO I).ops;have aH:=(cO E).size;go_wp2_with (first
        |(at_builtin;go_must (refine LP _ rfl (.tmp 47) (.tmp 49) 39 rfl w.heap.size 3 t1 _ 1 8 underlying39 ag aw ax ay rfl (by decide) _ _ _ rfl (S.alloc _) ⟨w3.heap.size,0,none⟩ 1 1 [Z Y (i:Int)] rfl rfl ?d1 ?d2 ?d3 ?d4 ?d5 ?_))
        |go_in)
       case d1 =>
        intro j u r
        match j,r with
        |0,r=>simp at r;subst r;simp[Addr.add]
        |j+1,r=>simp at r
       case d2=>intro u hu;simp at hu;subst hu;rfl
       case d3=>have:=(cO D).oi;unfold maxLen;omega
       case d4=>have:=(cO D).oi;omega
       case d5=>simp;omega
       intro o4 w4 T ae aI;have G:=cP (Eu (cO D) C (cO I) (cO E) ((cO U).trans (cO R)) T _ ((cj w3.heap.size w3).alloc TG _) ae);obtain⟨q4,k4,rfl,_⟩:=dd T;clear T ae S;go_wp2;go_roundw
       case rel=>exact⟨i+1,_,_,_,by go_num,by omega,G⟩
       case measure=>simp[intOf];omega
      .have t91:(x.toList == [91])=false:=by rw[Eb];exact cC.2 z
       have R:=cP z;clear z;by_cases A:x.data.toList=[93]
       .have t93:(x.toList == [93])=true:=by rw[Eb,A];decide
        have J:=cP A;clear A;have S:=(cO I).ops;by_cases K:op=[]
        .subst K;obtain⟨qo,ko,rfl,_⟩:=dd S;have t:O (.returned (.tuple #[.slice none 0 0,.bool false])) w3:=by
          rw[<-cO hO];have y:=cO D;refine⟨cO E,Or.inr ⟨?_,_,_,_,rfl⟩⟩;rw[y.fm,kp C,Sp.kh,cg (Or.inr (by rw[cO U,cO J];decide))]
         clear S;go_wp2;exact t
        .obtain⟨op,l,rfl⟩:∃a m,op=a++[m]:=⟨op.dropLast,op.getLast K,(List.dropLast_concat_getLast K).symm⟩
         clear K;obtain⟨go,co,rfl,aR,aJ⟩:∃g cap,_=Value.slice (some ⟨g,0,none⟩) (op.length+1) cap/\w3.cell? ⟨g,op.length,none⟩=some (Z Y (l:Int))/\op.length<=cap:=AM S;have aS:l<i:=(cO D).ol l (by simp);have aK:l<i+1:=by omega
         have G:=cP (Ee (cO D) C (cO I) (cO E) ((cO U).trans (cO J)));have aT:op.length<=4000:=by have:=(cO D).oi;simp at this;omega
         obtain⟨y1,aU⟩:=(cO I).row.tS (j:=i) (by omega);obtain⟨y2,ao⟩:=(cO I).row.tS (j:=l) (by omega);have aV:(w3.setCell ⟨g3,i*2+1,none⟩ (Z Y (l:Int))).cell? ⟨g3,l*2+1,none⟩=some y2:=(cR (by omega)).trans ao;have z1:=(cO I).row.frozenAt (i*2+1);have z2:=(cO I).row.frozenAt (l*2+1);have g1:((op.length+1:Nat):Int)-1=(op.length:Int):=by omega
         have g2:(0:Int)<=(op.length:Int):=iJ _;have g3:(op.length:Int)<((op.length+1:Nat):Int):=by omega
         have g4:(op.length:Int)<=(co:Int):=by omega
         have g5:(0:Int)<=(l:Int):=iJ _;have g6:(l:Int)<((i+1:Nat):Int):=by omega
         have g7:(i:Int)<((i+1:Nat):Int):=by omega
         clear S;go_wp2;go_roundw
         case rel=>exact⟨i+1,_,_,_,by go_num,by omega,G⟩
         case measure=>simp[intOf];omega
       .have t93:(x.toList == [93])=false:=by rw[Eb];exact cC.2 A
        have J:=cP A;clear A;have G:=cP (An (cO D) C (cO I) (cO E) (cO aE) (by rw[cO U];exact cO R) (by rw[cO U];exact cO J));go_wp2;go_roundw
        case rel=>exact⟨i+1,_,_,_,by go_num,by omega,G⟩
        case measure=>simp[intOf];omega
   .have t:O (.returned (.tuple #[.slice none 0 0,.bool false])) (w1.alloc (.cells #[.string ⟨#[]⟩,.bool false,.nilFunc] 275)):=by
     rw[<-cO hO];have y:=cO D;refine⟨(y.below.trans (H.mono y.below.size)).alloc (cx y.below.size H.size) _,Or.inr ⟨?_,_,_,_,rfl⟩⟩;rw[y.fm,kp C,Sp.kh,cg (Or.inl (by rw[cO U];cases wt;exact af;exact ag))]
    unfold uG;clear H;go_wp2;exact t
  .have c1:¬(i:Int)<(X.length:Int):=by omega
   have ei:i=X.length:=by omega
   subst ei;have y:=cO D;have V:X.length=(fH X).length:=(cO ak).symm;by_cases h0:op=[]
   .subst h0;obtain⟨qc,kc,rfl,aj⟩:=dd y.row;obtain⟨qo,ko,rfl,aq⟩:=dd y.ops;have t:O (.returned (.tuple #[.slice qc X.length kc,.bool true])) wr:=by
     rw[<-cO hO];obtain⟨g,rfl,aW,aX,_⟩:=aj 0 (by omega);refine⟨y.below,Or.inl ⟨?_,g,kc,fs,ms,?_,aW,?_,?_,?_,?_⟩⟩
     .rw[y.fm,Dl (by omega)];rfl
     .rw[<-V]
     .rw[<-V];exact y.row
     .rw[<-V];exact y.fl
     .rw[<-V];exact y.rd
     .intro j r;exact y.fn j r (by omega)
    clear aj aq y V;go_wp2;exact t
   .obtain⟨qc,kc,rfl,aj⟩:=dd y.row;obtain⟨qo,ko,rfl,aq⟩:=dd y.ops;have t:O (.returned (.tuple #[.slice qc X.length kc,.bool false])) wr:=by
     rw[<-cO hO];refine⟨y.below,Or.inr ⟨?_,_,_,_,rfl⟩⟩;rw[y.fm,Dl (by omega),Sp.kh];exact df (λe=>h0 (To (by omega)))
    have hq:((op.length:Int) == 0)=false:=cC.2 (λe=>h0 (To (by omega)));clear aj aq y V;go_wp2;exact t
end
section
open Go.RowKit
theorem vT(s:TM)(w:TJ)(r:s.size<=4000)(b:eA w):TL prog 69 #[.string s,.string ⟨#[32]⟩] w λe j=>e=.returned (.slice (some ⟨w.heap.size,0,none⟩) (Sp.split s 32).length (Sp.split s 32).length)/\j=w.alloc (.cells ((Sp.split s 32).map Value.string).toArray 9):=by
 obtain⟨m,l⟩:=b;have h:=Tryz.strings_Split s ⟨#[32]⟩ m w (by omega) l (by decide);rw[Sp.tq,Sp.wE] at h;exact h
theorem yg(s:TM)(w:TJ)(r:s.size<=4000)(b:eA w):TL prog 69 #[.string s,.string ⟨#[10]⟩] w λe j=>e=.returned (.slice (some ⟨w.heap.size,0,none⟩) (Sp.split s 10).length (Sp.split s 10).length)/\j=w.alloc (.cells ((Sp.split s 10).map Value.string).toArray 9):=by
 obtain⟨m,l⟩:=b;have h:=Tryz.strings_Split s ⟨#[10]⟩ m w (by omega) l (by decide);rw[Sp.sF,Sp.tG] at h;exact h
theorem xZ(w:TJ)(X:List TM):JR (w.alloc (.cells (X.map Value.string).toArray 9)) (some ⟨w.heap.size,0,none⟩) X:=λj b=>by
 refine⟨w.heap.size,0,rfl,by simp,?_⟩;rw[eW,World.cell?_alloc_mark];simp[cH b]
def va(P:List UInt8)(x:TM)(w:TJ)(e:Ending)(w':TJ):Prop:=TI w w'/\((¬P <+: x.data.toList/\∃p n b,e=.returned (.tuple #[.slice p n b,.bool false]))\/(∃rest:TM,rest.size<=x.size/\x.data.toList=P++rest.data.toList/\∃g,w.heap.size<=g/\e=.returned (.tuple #[.slice (some ⟨g,0,none⟩) (Sp.split rest 32).length (Sp.split rest 32).length,.bool true])/\JR w' (some ⟨g,0,none⟩) (Sp.split rest 32)))
theorem pZ(x nm:TM)(w:TJ)(P:x.size<=2000)(Q:nm.size<=10)(J:eA w):TL prog 194 #[.string x,.string nm] w (va (nm.data.toList++[58,32]) x w):=by
 have A:(nm++⟨#[58,32]⟩:TM).data.toList=nm.data.toList++[58,32]:=by simp
 have B:(nm++⟨#[58,32]⟩:TM).size=nm.size+2:=by rw[cM];rfl
 have u:=cP A;have G:=cP B;have M:(nm++⟨#[58,32]⟩:TM).size<=12:=by omega
 have b:(nm.data.toList++[58,32]).length=nm.size+2:=by
  rw[<-cO u,<-cO G];exact zh
 have K:=cP J;clear A B J;by_cases y:(nm.data.toList++[58,32]) <+: x.data.toList
 .have m:=Sp.KU y;rw[b] at m;have H:=Sp.GP y;rw[b] at H;have E:((x.extract 0 (nm.size+2)).toList == (nm++⟨#[58,32]⟩:TM).toList)=true:=by
   rw[Eb (nm++⟨#[58,32]⟩),cO u,Bs];have:=(Sp.AB (x:=x) (p:=nm.data.toList++[58,32]) (by omega)).2 y;rw[b] at this;exact this
  have L:(nm.size:Int)+2<=(x.size:Int):=by omega
  have C:(x.extract (nm.size+2) x.size).size<=x.size:=by rw[cK];omega
  have z:Hid (∀(e:Ending) (r:TJ),(e=.returned (.slice (some ⟨w.heap.size,0,none⟩) (Sp.split (x.extract (nm.size+2) x.size) 32).length (Sp.split (x.extract (nm.size+2) x.size) 32).length)/\r=w.alloc (.cells ((Sp.split (x.extract (nm.size+2) x.size) 32).map Value.string).toArray 9))->va (nm.data.toList++[58,32]) x w (.returned (.tuple #[.slice (some ⟨w.heap.size,0,none⟩) (Sp.split (x.extract (nm.size+2) x.size) 32).length (Sp.split (x.extract (nm.size+2) x.size) 32).length,.bool true])) r):=by
   show ∀(e:Ending) (r:TJ),_->_
   rintro e r ⟨rfl,rfl⟩;exact⟨TH.alloc TG _,Or.inr ⟨_,C,H,w.heap.size,b7 _,rfl,xZ w _⟩⟩
  have hS:=vT (x.extract (nm.size+2) x.size) w (by omega) (cO K);have F:=cP hS;generalize I:va (nm.data.toList++[58,32]) x w=O at z ⊢;clear hS y m H b C I;go_enter func194,ntmps194;go_wp2_with (first|(go_at_call 69;go_must (refine(cO F).mono ?_;rintro e D ⟨rfl,j⟩;have l:=cO z _ D ⟨rfl,j⟩;clear j))|go_in);exact l
 .have z:Hid (∀(X:List TM) (r:TJ),r=w.alloc (.cells (X.map Value.string).toArray 9)->va (nm.data.toList++[58,32]) x w (.returned (.tuple #[.slice (some ⟨w.heap.size,0,none⟩) X.length X.length,.bool false])) r):=by
   show ∀(X:List TM) (r:TJ),_->_
   rintro X r rfl;exact⟨TH.alloc TG _,Or.inl ⟨y,_,_,_,rfl⟩⟩
  have hS:=vT x w (by omega) (cO K);have F:=cP hS;have E:nm.size+2<=x.size->((x.extract 0 (nm.size+2)).toList == (nm++⟨#[58,32]⟩:TM).toList)=false:=by
   intro m;rw[Eb (nm++⟨#[58,32]⟩),cO u];apply cC.2;intro N;apply y;refine(Sp.AB (x:=x) (p:=nm.data.toList++[58,32]) (by omega)).1 ?_;rw[b];exact N
  generalize I:va (nm.data.toList++[58,32]) x w=O at z ⊢;clear hS y b I;by_cases m:nm.size+2<=x.size
  .have L:(nm.size:Int)+2<=(x.size:Int):=by omega
   have E:=E m;go_enter func194,ntmps194;go_wp2_with (first|(go_at_call 69;go_must (refine(cO F).mono ?_;rintro e D ⟨rfl,j⟩;have l:=cO z _ D j;clear j))|go_in);exact l
  .have L:¬(nm.size:Int)+2<=(x.size:Int):=by omega
   clear E;go_enter func194,ntmps194;go_wp2_with (first|(go_at_call 69;go_must (refine(cO F).mono ?_;rintro e D ⟨rfl,j⟩;have l:=cO z _ D j;clear j))|go_in);exact l
end
section
open Go.RowKit
def Ro:List Int:=[9223372036854775807,-9223372036854775808,0]
def Og:List Nat:=[243,244,245]
def rM(k:Nat):TM:=⟨⟨Sp.fj[k]!⟩⟩
def pT(k:Nat):TK := .func (.func (Og[k]!)) #[] #[]
def oP(k:Nat):Int:=Ro[k]!
def JW(k:Nat):TK := .agg #[.string (rM k),Z Y (oP k),pT k]
def DY:TK := .agg #[.string ⟨#[]⟩,Z Y 0,.nilFunc]
def NW(x:List UInt8)(w:TJ)(e:Ending)(w':TJ):Prop:=TI w w'/\((∃k,k<3/\Sp.fj[k]! = x/\e=.returned (.tuple #[JW k,.bool true]))\/(x∉Sp.fj/\e=.returned (.tuple #[DY,.bool false])))
def Mm:Array TK := #[.string ⟨#[109,105,110]⟩,Z Y 9223372036854775807,.func (.func 243) #[] #[],.string ⟨#[109,97,120]⟩,Z Y (-9223372036854775808),.func (.func 244) #[] #[],.string ⟨#[115,117,109]⟩,Z Y 0,.func (.func 245) #[] #[]]
theorem BV{b:Nat}{w:TJ}{t:Nat}(h:w.heap[b]?=some (.cells Mm t)):(k:Nat)->k<3->
  w.cell? ⟨b,k*3,none⟩=some (.string (rM k))/\w.cell? ⟨b,k*3+1,none⟩=some (Z Y (oP k))/\w.cell? ⟨b,k*3+2,none⟩=some (pT k)
 |0,_=>⟨by simp only[World.cell?,h];rfl,by simp only[World.cell?,h];rfl,by simp only[World.cell?,h];rfl⟩
 |1,_=>⟨by simp only[World.cell?,h];rfl,by simp only[World.cell?,h];rfl,by simp only[World.cell?,h];rfl⟩
 |2,_=>⟨by simp only[World.cell?,h];rfl,by simp only[World.cell?,h];rfl,by simp only[World.cell?,h];rfl⟩
 |n+3,h=>absurd h (by omega)
theorem Fy(w:TJ):TL prog 225 #[] w λe b=>e=.returned (.slice (some ⟨w.heap.size,0,none⟩) 3 3)/\TI w b/\b.heap[w.heap.size]?=some (.cells Mm 152):=by
 go_enter func225,ntmps225;go_wp2;exact cr (v := .slice (some ⟨w.heap.size,0,none⟩) 3 3) (by simp[results,results225,go_sem]) rfl ⟨rfl,TH.alloc TG _,Array.getElem?_push_size⟩
theorem pN(s:TM)(w:TJ):TL prog 196 #[.string s] w (NW s.data.toList w):=by
 go_enter func196,ntmps196;go_wp2_with fail;refine(Fy _).mono ?_;rintro e u ⟨rfl,l,A⟩;have K:TI w u:=((cj _ w).alloc TG _).trans (l.mono (by simp));have H:u.heap[w.heap.size]?=some (.cells #[.string ⟨#[]⟩,Z Y 0,.nilFunc] 152):=(l.block _ (by simp)).trans (ct w _);rw[ee] at A;clear l;go_wp2_with fail;have B:w.heap.size<u.heap.size:=(cB.1 H).1;have L:w.heap.size+1<u.heap.size:=(cB.1 A).1
 go_loopw [8] (λi wr=>∃k:Nat,k<=3/\i=Z Y k/\TI u wr/\Hid (∀j,j<k->Sp.fj[j]!≠s.data.toList)) (λi _=>3-(intOf i).toNat)
 case atStart=>exact⟨0,by omega,rfl,cj _ _,λj C=>absurd C (by omega)⟩
 case round =>
  obtain⟨k,hk,rfl,y,S⟩:=hrel;have D:=K.trans (y.mono (by omega));have I:=(y.block _ B).trans H;have M:=(y.block _ L).trans A;by_cases E:k<3
  .obtain⟨W,X,q⟩:=BV M k E;have t:(0:Int)<=(k:Int):=iJ _;have p:(k:Int)<(3:Int):=by omega
   obtain⟨m,J⟩:∃m,Hid (m=rM k):=⟨_,rfl⟩
   obtain⟨F,T⟩:∃F,Hid (F=oP k):=⟨_,rfl⟩
   obtain⟨G,U⟩:∃G,Hid (Value.func (.func G) #[] #[]=pT k):=⟨_,rfl⟩
   rw[<-cO J] at W;rw[<-cO T] at X;rw[<-cO U] at q;have r:w.heap.size<wr.heap.size:=dT B y.size;have V:(wr.alloc (.cells #[.string m,Z Y F,.func (.func G) #[] #[]] 152)).heap[w.heap.size]?=_:=(((cj wr.heap.size wr).alloc TG (.cells #[.string m,Z Y F,.func (.func G) #[] #[]] 152)).block _ r).trans I;have N:=D.alloc (o9 r) (.cells #[.string m,Z Y F,.func (.func G) #[] #[]] 152);obtain⟨O,P,Q,b⟩:=Cy V;have o:=b 0;have f1:=b 1;have f2:=b 2;clear b H A I M V;by_cases z:Sp.fj[k]! = s.data.toList
   .have R:=cP z;have g:(m.toList == s.toList)=true:=by
     rw[cO J,Eb s];exact pC z
    clear z;clear r;go_wp2;refine cr (v := .tuple #[JW k,.bool true]) ?_ rfl ⟨((N.setCell TG _).setCell TG _).setCell TG _,Or.inl ⟨k,E,cO R,rfl⟩⟩;simp[results,results196,go_sem,JW,O,P,Q,<-cO J,<-cO T,<-cO U]
   .have R:=cP z;have g:(m.toList == s.toList)=false:=by
     rw[cO J,Eb s];exact pE z
    clear z;go_wp2;go_roundw
    case rel=>exact⟨k+1,by omega,by go_num,y.alloc y.size _,λj C=>if h:j=k then h ▸ cO R else cO S j (by omega)⟩
    case measure=>simp[intOf];omega
  .obtain rfl:k=3:=by omega
   obtain⟨O,P,Q,b⟩:=Cy I;have o:=b 0;have f1:=b 1;have f2:=b 2;clear b H A I M;go_wp2;refine cr (v := .tuple #[DY,.bool false]) ?_ rfl ⟨((D.setCell TG _).setCell TG _).setCell TG _,Or.inr ⟨?_,rfl⟩⟩
   .simp[results,results196,go_sem,DY,O,P,Q]
   .intro hm;obtain⟨j,C,e⟩:=oM.1 hm;refine cO S j C ?_;rw[getElem!_pos Sp.fj j C];exact e
end
end Go.Proofs.YtgkkdpegcieakaaGreatDoor
