import Derived.Test.YtgkkdpegcieakaaGreatDoorCw08
set_option linter.all false
set_option maxRecDepth 100000
set_option maxHeartbeats 16000000
namespace Go.Proofs.YtgkkdpegcieakaaGreatDoor
open Go.Proofs.Tryz
open Value renaming int→Z,slice→J,string→H,pointer→WV,bool→WW,tuple→WX
open Ending renaming returned→WZ
open Obj renaming cells→D
open Option renaming none→U,some→S
open Bool renaming true→W8,false→W9
open Or renaming inl→Xa,inr→Xb
open List renaming length→Xg
open _root_.Array renaming size→K
open World renaming cell?→Xc,heap→E
open IntKind renaming i64→Y
open Go renaming World→WR,Value→WS,Calls→WT
open Go.RowKit
section
def flat:List Nat->List WS
 |[]=>[]
 |h::r=>Z Y 1::Z Y h::flat r
theorem Cs(b:List Nat):(flat b).length=Xg b*2:=by
 induction b with
 |nil=>rfl
 |cons h r e=>simp only[flat,Uf,e];omega
theorem Au(a b:List Nat):flat (a++b)=flat a++flat b:=by
 induction a with
 |nil=>rfl
 |cons h r e=>simp[flat,e]
def mY(w:WR)(M:Nat)(b:WS)(j e h:Nat)(l:List Nat):Prop :=
 ∃x,jW w M b j e h x/\w.ownsRow (M+1) 313 2 x (Xg l) (flat l)
def A4(o:Option (Nat × List Nat))(M l b:Nat)(j:WS)(u:TypeId)(p:WS)(w:WR)(e:Ending)(w':WR):Prop:=Below M w w'/\match o with
  |some (h,m)=>e=WZ (WX #[])/\mY w' M j l b h m
  |none=>e=.panicked [{ v := .iface u p,recovered:=false }]
def uu(F:Nat)(x:List UInt8):Prop := ∀(M e b h:Nat) (code:WS) (j:List Nat) (u:TypeId) (p:WS) (w:WR),mY w M code e b h j->uJ M h u p w->Xg j<=10000->(x=[93]->j≠[])->
 WT prog F #[WV (S ⟨M,0,U⟩)] w (A4 (Sp.dst x h j) M e b code u p w)
variable {x:List UInt8}
theorem xk(h1:x≠[91])(h2:x≠[93]){n m:Nat}(ht:Sp.tk W8 x=S (n,m)){M r b h:Nat}{j l:WS}{y:List Nat}{u:TypeId}{p:WS}{w w':WR}{e:Ending}(B:w.ownsRow (M+1) 313 2 l (Xg y) (flat y))(C:Db n m M r b h j l u p w e w'):A4 (Sp.dst x h y) M r b j u p w e w':=by
 obtain⟨A,F⟩:=C;refine⟨A.below,?_⟩;unfold Sp.dst;rw[TZ h1,TZ h2,ht];simp only;rcases F with ⟨z,G,rfl,I⟩|⟨z,rfl⟩
 .rw[T0 ⟨z,G⟩];exact⟨O,l,I,A.own B⟩
 .rw[TZ z]
theorem dU{F n m:Nat}(hF:ly F n m)(h1:x≠[91])(h2:x≠[93])(ht:Sp.tk W8 x=S (n,m)): uu F x:=by
 intro M r b h j B u p w hd y C G;obtain⟨l,hd,z⟩:=hd;exact(hF M r b h j l u p w hd y).mono λe I A=>xk h1 h2 ht z A
theorem QF:uu 190 [91]:=by
 intro M m b h j r u p w hd C F N;obtain⟨l,hd,G⟩:=hd;cases h with
 |zero =>
  refine(FE _ M w (Dy M m b j l w hd u p C.he) (λe y z=>Xb ⟨_,z.1⟩)).mono ?_;rintro e y ⟨rfl,rfl⟩;exact⟨T4 _ _,O⟩
 |succ h =>
  refine(FE _ M w (IK M m b h (Xg r) j l (flat r) w hd C.hh F G) (λe y z=>Xa z.1)).mono ?_;rintro e y ⟨rfl,I,A,B,L⟩;refine⟨L,O,I,A,?_⟩;rw[Au,show (r++[h+1-1]).length=Xg r+1 by simp];exact B
theorem Po:uu 192 [93]:=by
 intro M z r h y b u p w hd B P N;obtain⟨l,hd,A⟩:=hd;obtain⟨b,m,rfl⟩:∃a m,b=a++[m]:=⟨b.dropLast,b.getLast (N rfl),(List.dropLast_concat_getLast (N rfl)).symm⟩
 rw[Au] at A;simp only[UG,Uf,Vl] at A P;have Q:∃g j,l=J (S ⟨g,0,U⟩) (Xg b+1) j:=by
  rcases A.2 with ⟨X,k⟩|⟨g,j,R,B,_⟩
  .omega
  .exact⟨g,j,B⟩
 obtain⟨g,j,rfl⟩:=Q;have T:Sp.dst [93] h (b++[m])=if h=m then S (h,b) else U:=by
  unfold Sp.dst;rw[TZ (by decide),T0 rfl];simp only[Wy,Wz,Option.some_or,WA]
 rw[T];by_cases C:h=m
 .subst C;rw[T0 rfl];refine(EF _ M w (Pq M z r h (Xg b) g j y (flat b) w hd (by omega) A (Cs b)) (λe F G=>Xa G.1)).mono ?_;rintro e F ⟨rfl,I,L,V⟩;exact⟨V,O,_,I,L⟩
 .rw[TZ C];refine(EF _ M w (M6 M z r h m (Xg b) g j y (flat b) w hd (by omega) A (Cs b) C u p B.he) (λe F G=>Xb ⟨_,G.1⟩)).mono ?_;rintro e F ⟨rfl,W⟩;exact⟨W.mono (UT hd.lt),O⟩
theorem JM:(k:Nat)->k<25->uu (Rw[k]!) (Sp.yC[k]!)
 |0,_=>dU do_1 (by decide) (by decide) (by decide)
 |1,_=>dU Td (by decide) (by decide) (by decide)
 |2,_=>dU Tz (by decide) (by decide) (by decide)
 |3,_=>dU Tm (by decide) (by decide) (by decide)
 |4,_=>dU Tq (by decide) (by decide) (by decide)
 |5,_=>dU S8 (by decide) (by decide) (by decide)
 |6,_=>dU Tk (by decide) (by decide) (by decide)
 |7,_=>dU Tr (by decide) (by decide) (by decide)
 |8,_=>dU Th (by decide) (by decide) (by decide)
 |9,_=>dU Si (by decide) (by decide) (by decide)
 |10,_=>dU R8 (by decide) (by decide) (by decide)
 |11,_=>dU Sk (by decide) (by decide) (by decide)
 |12,_=>dU R9 (by decide) (by decide) (by decide)
 |13,_=>dU Sw (by decide) (by decide) (by decide)
 |14,_=>dU Se (by decide) (by decide) (by decide)
 |15,_=>dU Sq (by decide) (by decide) (by decide)
 |16,_=>dU SZ (by decide) (by decide) (by decide)
 |17,_=>dU Sz (by decide) (by decide) (by decide)
 |18,_=>dU RD (by decide) (by decide) (by decide)
 |19,_=>dU Rz (by decide) (by decide) (by decide)
 |20,_=>dU RY (by decide) (by decide) (by decide)
 |21,_=>dU RW (by decide) (by decide) (by decide)
 |22,_=>dU SF (by decide) (by decide) (by decide)
 |23,_=>QF
 |24,_=>Po
 |n+25,h=>absurd h (by omega)
theorem Kl{n:Int}(r:Sp.number x=S n)(B M m b h:Nat)(j:WS)(y:List Nat)(u:TypeId)(p:WS)(w:WR)(hd:mY w M j m b h y)(z:uJ M h u p w)(A:w.cell? ⟨B,0,U⟩=S (Z Y n)):WT prog 242 #[WV (S ⟨M,0,U⟩),WV (S ⟨B,0,U⟩)] w (A4 (Sp.dst x h y) M m b j u p w):=by
 obtain⟨l,hd,C⟩:=hd;have F:x≠[91]:=by rintro rfl;rw[show Sp.number [91]=U by decide] at r;cases r
 have G:x≠[93]:=by rintro rfl;rw[show Sp.number [93]=U by decide] at r;cases r
 exact(P8 B n M m b h j l u p w hd z A).mono λe L I=>xk F G (Sp.zf r) C I
end
section
variable {h fuel M at':Nat}{code:WS}{w:WR}
theorem jW.Mo{b:WS}(hd:jW w M code at' fuel h b)(a:Nat): jW (w.setCell ⟨M,1,U⟩ (Z Y a)) M code a fuel h b:=by
 obtain⟨l,m,r,u,y,z,A,B,C⟩:=hd;refine⟨?_,?_,?_,λj e=>?_,λj e=>?_,?_,?_,?_,λj=>?_⟩
 .rw[cW (by omega)];exact l
 .exact UN _ _ _ m
 .rw[cW (by omega)];exact r
 .rw[cW (by omega)];exact u j e
 .rw[cW (by omega)];exact y j e
 .rw[cW (by omega)];exact z
 .rw[cW (by omega)];exact A
 .rw[cW (by omega)];exact B
 .rw[UK];exact C j
theorem jW.Qg{b:WS}(hd:jW w M code at' fuel h b)(a:Nat): jW (w.setCell ⟨M,2,U⟩ (Z Y a)) M code at' a h b:=by
 obtain⟨l,m,r,u,y,z,A,B,C⟩:=hd;refine⟨?_,?_,?_,λj e=>?_,λj e=>?_,?_,?_,?_,λj=>?_⟩
 .rw[cW (by omega)];exact l
 .rw[cW (by omega)];exact m
 .exact UN _ _ _ r
 .rw[cW (by omega)];exact u j e
 .rw[cW (by omega)];exact y j e
 .rw[cW (by omega)];exact z
 .rw[cW (by omega)];exact A
 .rw[cW (by omega)];exact B
 .rw[UK];exact C j
variable {ls:List Nat}
theorem mY.Mo(hd:mY w M code at' fuel h ls)(a:Nat): mY (w.setCell ⟨M,1,U⟩ (Z Y a)) M code a fuel h ls:=by
 obtain⟨x,b,e⟩:=hd;exact⟨x,b.Mo a,((eB.refl M w).set _ _).own e⟩
theorem mY.Qg(hd:mY w M code at' fuel h ls)(a:Nat): mY (w.setCell ⟨M,2,U⟩ (Z Y a)) M code at' a h ls:=by
 obtain⟨x,b,e⟩:=hd;exact⟨x,b.Qg a,((eB.refl M w).set _ _).own e⟩
theorem mY.drewN(hd:mY w M code at' fuel h ls)(k:Nat): mY (w.drewN k) M code at' fuel h ls:=by
 obtain⟨x,e,l⟩:=hd;have b:=below_drewN w k;exact⟨x,e.far (λj=>b.cell (p:=⟨M,j,U⟩) e.lt) (λj=>b.frozen (p:=⟨M,j,U⟩) e.lt),dd l b⟩
theorem mY.drew(hd:mY w M code at' fuel h ls): mY w.drew M code at' fuel h ls:=by
 obtain⟨x,b,e⟩:=hd;exact⟨x,b.drew,e.drew⟩
abbrev iK(M:Nat)(w w':WR):Prop:=Below M w w'
theorem iK.set{w':WR}(h:iK M w w')(j:Nat)(v:WS): iK M w (w'.setCell ⟨M,j,U⟩ v):=Below.setCell h (p:=⟨M,j,U⟩) WN v
theorem jl{w':WR}(h:iK M w w'){b j:Nat}(hb:b<M): w'.cell? ⟨b,j,U⟩=w.cell? ⟨b,j,U⟩:=Below.cell h (p:=⟨b,j,U⟩) hb
def Fn(w:WR)(M:Nat)(x:List UInt8)(b:WS):Prop:=(∃B n,B<M/\b=.func (.func 242) #[] #[WV (S ⟨B,0,U⟩)]/\j5 w B n/\Sp.number x=S n)\/(∃k,k<25/\x=Sp.yC[k]!/\b=oH k)
def F0(w:WR)(M g:Nat)(L:List (List UInt8)):Prop:=g<M/\∀i (hi:i<Xg L),∃b,w.cell? ⟨g,i*2,U⟩=S b/\Fn w M L[i] b
def OP(o:Option (Nat × List Nat))(M:Nat)(code:WS)(u:TypeId)(p:WS)(w:WR)(e:Ending)(w':WR):Prop:=iK M w w'/\match o with
  |some (h,ls)=>e=WZ (WX #[])/\∃a f,mY w' M code a f h ls
  |none=>e=.panicked [{ v := .iface u p,recovered:=false }]
def Ts(M:Nat)(w:WR):Nat:=match w.cell? ⟨M,1,U⟩ with
 |some v=>(intOf v).toNat
 |none=>0
theorem IM{n:Int}(h:w.cell? ⟨M,1,U⟩=S (Z Y n)): Ts M w=n.toNat:=by
 unfold Ts;rw[h];rfl
variable {x:List UInt8}
theorem Lt{j:Nat}{b:List Nat}(l:h<=16)(e:Sp.dst x h ls=S (j,b)): j<=16:=by
 unfold Sp.dst at e;split at e
 .split at e
  .cases e
  .injection e with e;injection e with e1 e2;omega
 .split at e
  .split at e
   .split at e
    .injection e with e;injection e with e1 e2;omega
    .cases e
   .cases e
  .split at e
   .cases e
   .split at e
    .injection e with e;injection e with e1 e2;omega
    .cases e
theorem Ew{r:Nat}{b:List Nat}(u:x=[93]->ls≠[])(e:Sp.dst x h ls=S (r,b)): (Xg b:Int)=Xg ls+Sp.ds x:=by
 unfold Sp.dst at e;split at e
 .rename_i c;subst c;split at e
  .cases e
  .injection e with e;injection e with e1 e2;subst e2;simp[Sp.ds]
 .split at e
  .rename_i m j;subst j;have l:=u O;have y:0<Xg ls:=List.length_pos_iff.2 l;split at e
   .split at e
    .injection e with e;injection e with e1 e2;subst e2;simp[Sp.ds];omega
    .cases e
   .cases e
  .rename_i m j;rw[Sp.nO m j];split at e
   .cases e
   .split at e
    .injection e with e;injection e with e1 e2;subst e2;omega
    .cases e
theorem jA{G:Prop}(P:Program)(w:WR)(h:G):wpAny P .text #[] (λ_ _ _=>True) 0 #[] { tmps := #[],defers:=[] } w->G:=λ_=>h
theorem cZ{P : Program}{f : FuncId}{fn : Func}(l : P.funcs[f]?=S fn)(m : (fn.name == "runtime.NumGoroutine")=W9)(hb : fn.body.isNone=W9)(args : Array WS)(w : WR): (callFunc f args).run P w=.ok (.enter f args) w := by
 unfold callFunc;have b : ¬fn.name = "runtime.NumGoroutine" := by simpa using m
 have j:¬fn.body=U:=by intro e;rw[e] at hb;cases hb
 simp[go_sem,l,b,j,hb]
theorem BN:(k:Nat)->k<25->∀(args:Array WS) (w:WR),(callFunc (Rw[k]!) args).run prog w=.ok (.enter (Rw[k]!) args) w
 |0,_=>cZ func161 (by kernel_rfl) (by kernel_rfl)
 |1,_=>cZ func163 (by kernel_rfl) (by kernel_rfl)
 |2,_=>cZ func164 (by kernel_rfl) (by kernel_rfl)
 |3,_=>cZ func165 (by kernel_rfl) (by kernel_rfl)
 |4,_=>cZ func166 (by kernel_rfl) (by kernel_rfl)
 |5,_=>cZ func167 (by kernel_rfl) (by kernel_rfl)
 |6,_=>cZ func168 (by kernel_rfl) (by kernel_rfl)
 |7,_=>cZ func169 (by kernel_rfl) (by kernel_rfl)
 |8,_=>cZ func170 (by kernel_rfl) (by kernel_rfl)
 |9,_=>cZ func171 (by kernel_rfl) (by kernel_rfl)
 |10,_=>cZ func173 (by kernel_rfl) (by kernel_rfl)
 |11,_=>cZ func174 (by kernel_rfl) (by kernel_rfl)
 |12,_=>cZ func175 (by kernel_rfl) (by kernel_rfl)
 |13,_=>cZ func177 (by kernel_rfl) (by kernel_rfl)
 |14,_=>cZ func178 (by kernel_rfl) (by kernel_rfl)
 |15,_=>cZ func180 (by kernel_rfl) (by kernel_rfl)
 |16,_=>cZ func181 (by kernel_rfl) (by kernel_rfl)
 |17,_=>cZ func182 (by kernel_rfl) (by kernel_rfl)
 |18,_=>cZ func183 (by kernel_rfl) (by kernel_rfl)
 |19,_=>cZ func185 (by kernel_rfl) (by kernel_rfl)
 |20,_=>cZ func186 (by kernel_rfl) (by kernel_rfl)
 |21,_=>cZ func187 (by kernel_rfl) (by kernel_rfl)
 |22,_=>cZ func188 (by kernel_rfl) (by kernel_rfl)
 |23,_=>cZ func190 (by kernel_rfl) (by kernel_rfl)
 |24,_=>cZ func192 (by kernel_rfl) (by kernel_rfl)
 |n+25,h=>absurd h (by omega)
theorem Fn.enter{F:Nat}{b:Array WS}(h:Fn w M x (.func (.func F) #[] b))(args:Array WS)(W:WR): (callFunc F args).run prog W=.ok (.enter F args) W:=by
 rcases h with ⟨B,n,_,e,_⟩|⟨k,j,_,e⟩
 .injection e with e1 e2 e3;injection e1 with e1;subst e1;exact cZ func242 (by kernel_rfl) (by kernel_rfl) args W
 .unfold oH at e;injection e with e1 e2 e3;injection e1 with e1;subst e1;exact BN k j args W
theorem Fn.calls{F:Nat}{b:Array WS}(h:Fn w M x (.func (.func F) #[] b)){j:Nat}{u:TypeId}{p:WS}{W:WR}(z:iK M w W)(hd:mY W M code at' fuel j ls)(y:uJ M j u p W)(A:Xg ls<=10000)(C:x=[93]->ls≠[]):WT prog F (#[WV (S ⟨M,0,U⟩)]++b) W (A4 (Sp.dst x j ls) M at' fuel code u p W):=by
 rcases h with ⟨B,n,G,e,I,l⟩|⟨k,m,r,e⟩
 .injection e with e1 e2 e3;injection e1 with e1;subst e1 e3;exact Kl l B M at' fuel j code ls u p W hd y ((jl z G).trans I.cell)
 .unfold oH at e;injection e with e1 e2 e3;injection e1 with e1;subst e1 e3 r;exact JM k m M at' fuel j code ls u p W hd y A C
structure D7 (L:List (List UInt8)) (M:Nat) (code:WS) (w wr:WR) (i h:Nat) (ls:List Nat):Prop where
 le:i<=Xg L
 Tj:mY wr M code i (Xg L-i) h ls
 run:Sp.fc L 0 []=Sp.fc (L.drop i) h ls
 fm:Sp.kh W8 (L.drop i) (Xg ls)=W8
 len:Xg ls<=i
 hh:h<=16
 kept:iK M w wr
theorem Nh(L:List (List UInt8))(M g cap:Nat)(u:TypeId)(p:WS)(w:WR)(hl:Xg L<=4000)(hd:mY w M (J (S ⟨g,0,U⟩) (Xg L) cap) 0 (Xg L) 0 [])(hr:Hid (F0 w M g L))(hf:Hid (Sp.kh W8 L 0=W8))(hM:5<M)(he:w.cell? ⟨5,0,U⟩=S (.iface u p)):WT prog 113 #[WV (S ⟨M,0,U⟩)] w (OP (Sp.fc L 0 []) M (J (S ⟨g,0,U⟩) (Xg L) cap) u p w):=by
 generalize o:OP (Sp.fc L 0 []) M (J (S ⟨g,0,U⟩) (Xg L) cap) u p w=b;replace o:=cT o;have HE:=cT he;clear he;go_enter func113,ntmps113;go_wp2_with fail
 go_loopw [] (λwr=>∃(i h:Nat) (ls:List Nat),Hid (D7 L M (J (S ⟨g,0,U⟩) (Xg L) cap) w wr i h ls)) (λwr=>Xg L-Ts M wr)
 case atStart=>exact⟨0,0,[],⟨Ud _,hd,rfl,cS hf,TY _,by omega,T4 _ _⟩⟩
 case round =>
  obtain⟨i,h,ls,P⟩:=hrel;have hi:=(cS P).le;obtain⟨x,T,I⟩:=(cS P).Tj;have aj:=cT I;have e0:=T.c0;have e1:=T.c1;have e2:=T.c2;have f2:=T.fz 2;have V:=cT T;clear T I hd;have g0:(0:Int)<=(i:Int):=UF _;by_cases c:i<Xg L
  .have c1:(i:Int)<(Xg L:Int):=by omega
   obtain⟨q,hq,HQ⟩:∃q,Xg L-i=q+1/\Hid (Xg L-i=q+1):=⟨Xg L-i-1,by omega,cT (by omega)⟩
   rw[hq] at e2;have c2:((((q+1:Nat)):Int) == 0)=W9:=Uh.2 (by omega);have c3:((q+1:Nat):Int)-1=(q:Int):=by omega
   have c4:q<=4000:=by omega
   obtain⟨fv,W,C⟩:=(cS hr).2 i c;have aa:=(cS hr).1;have e3:wr.cell? ⟨g,i*2,U⟩=S fv:=(jl (cS P).kept aa).trans W;have an:M≠g:=by omega
   clear hq;obtain⟨F,y,rfl⟩:∃F y,fv=.func (.func F) #[] y:=by
    rcases C with ⟨B,n,_,rfl,_⟩|⟨k,_,_,rfl⟩
    .exact⟨_,_,O⟩
    .exact⟨_,_,O⟩
   have ab:=cT C;have ao:=C.enter;clear C W;have HC:Hid (∀k,WT prog F (#[WV (S ⟨M,0,U⟩)]++y) (((wr.drewN k).setCell ⟨M,2,U⟩ (Z Y (q:Int))).drew) (A4 (Sp.dst L[i] h ls) M i q (J (S ⟨g,0,U⟩) (Xg L) cap) u p (((wr.drewN k).setCell ⟨M,2,U⟩ (Z Y (q:Int))).drew))):=by
    show ∀k,_
    intro k;have l:=cS P;have r:=below_drewN wr k;have ad:mY (wr.drewN k) M (J (S ⟨g,0,U⟩) (Xg L) cap) i (Xg L-i) h ls:=l.Tj.drewN k;have z:=l.fm;rw[UJ c] at z;refine(cS ab).calls (iK.set (l.kept.trans (r.mono (UT (cS V).lt))) _ _).drew ((ad.Qg q).drew) ⟨by omega,?_,l.hh⟩ (by have:=l.len;omega) ?_
    .rw[<-cS HE];exact jl ((iK.set (l.kept.trans (r.mono (UT (cS V).lt))) _ _).drew) hM
    .intro Q he;obtain⟨_,X,_⟩:=Sp.lx z;rw[Q,he,show Sp.ds [93] = -1 by decide] at X;simp at X
   have ae:Hid (∀A j,Sp.dst L[i] h ls=S (A,j)->Sp.fc (L.drop i) h ls=Sp.fc (L.drop (i+1)) A j):=by
    show ∀A j,_
    intro A j e;rw[UJ c,Sp.fc,e]
   have af:Hid (Sp.dst L[i] h ls=U->Sp.fc (L.drop i) h ls=U):=by
    show _->_
    intro e;rw[UJ c,Sp.fc,e]
   cases N:Sp.dst L[i] h ls with
   |none =>
    rw[N] at HC;have HP:Hid (∀k m,iK M (((wr.drewN k).setCell ⟨M,2,U⟩ (Z Y (q:Int))).drew) m->b (.panicked [{ v := .iface u p,recovered:=false }]) m):=by
     show ∀k m,_
     intro k m hk;have l:=cS P;have r:=below_drewN wr k;rw[<-cS o,l.run,cS af N];exact⟨((iK.set (l.kept.trans (r.mono (UT (cS V).lt))) _ _).drew).trans hk,O⟩
    clear N;go_wp2_with fail
    go_quiet (fail)
    go_wp2_with fail
    go_region_with (refine(cS HC _).mono ?_;rintro e m ⟨G,rfl⟩;refine jA prog m ⟨O,cS HP _ m G⟩ ?_)
    all_goals trivial
   |some ag =>
    obtain⟨A,j⟩:=ag;rw[N] at HC;have HN:Hid (∀k m,iK M (((wr.drewN k).setCell ⟨M,2,U⟩ (Z Y (q:Int))).drew) m->mY m M (J (S ⟨g,0,U⟩) (Xg L) cap) i q A j->D7 L M (J (S ⟨g,0,U⟩) (Xg L) cap) w (m.setCell ⟨M,1,U⟩ (Z Y ((i+1:Nat):Int))) (i+1) A j):=by
     show ∀k m,_
     intro k m hk hd;have l:=cS P;have r:=below_drewN wr k;have hQ:=cS HQ;have z:=l.fm;rw[UJ c] at z;obtain⟨_,X,h3⟩:=Sp.lx z;have t:L[i]=[93]->ls≠[]:=by
      intro Q he;rw[Q,he,show Sp.ds [93] = -1 by decide] at X;simp at X
     have ah:=Ew t N;have aq:=Sp.AB L[i];have ak:=l.len;refine⟨by omega,?_,l.run.trans (cS ae A j N),by rw[ah];exact h3,by omega,Lt l.hh N,iK.set (((iK.set (l.kept.trans (r.mono (UT (cS V).lt))) _ _).drew).trans hk) _ _⟩;rw[show (Xg L)-(i+1)=q by omega];exact hd.Mo (i+1)
    clear N;go_wp2_with fail
    go_quiet (fail)
    go_wp2_with fail
    go_region_with (refine(cS HC _).mono ?_;rintro e m ⟨G,rfl,s⟩)
    all_goals
     have ai:Hid (D7 L M (J (S ⟨g,0,U⟩) (Xg L) cap) w (m.setCell ⟨M,1,U⟩ (Z Y ((i+1:Nat):Int))) (i+1) A j):=cS HN _ m G s;obtain⟨x1,R,_⟩:=s;have j1:=R.c1;have j2:=R.fz 1;have j3:wrap64 ((i:Int)+1)=((i+1:Nat):Int):=by unfold wrap64;omega
     clear R G;go_wp2;go_roundw
     case rel=>exact⟨i+1,A,j,ai⟩
     case measure =>
      have a1:=IM e1;have a2:=IM (UN m ⟨M,1,U⟩ (Z Y ((i:Int)+1)) j1);rw[a1,a2];omega
  .have c1:¬(i:Int)<(Xg L:Int):=by omega
   have ei:i=Xg L:=by omega
   go_wp2_with fail
   go_quiet (fail)
   go_wp2;refine Ub (Ua O _ _ _) O ?_;have l:=cS P;rw[<-cS o,l.run,ei,VA WN];exact⟨l.kept.trans ((below_drewN wr nq).mono (UT (cS V).lt)),O,_,_,l.Tj.drewN nq⟩
end
section
namespace Sp
def fC(x:List UInt8)(i:Nat)(e b:List Nat):Option (List Nat × List Nat):=if x=[91] then S (e++[0],b++[i])
 else if x=[93] then (match b.getLast? with | some l=>S (((e++[0]).set i l).set l i,b.dropLast) | none=>U)
 else S (e++[0],b)
def fB(L:List (List UInt8)):Nat->Option (List Nat × List Nat)
 |0=>S ([],[])
 |i+1=>match fB L i with
  |none=>U
  |some (ms,op)=>fC (L.getD i []) i ms op
theorem ui{x:List UInt8}{i:Nat}{y r b e:List Nat}(h:fC x i y r=S (b,e)):Xg b=Xg y+1/\(Xg e:Int)=Xg r+ds x:=by
 unfold fC at h;split at h
 .rename_i c;subst c;injection h with h;injection h with j m;subst j m;simp[ds]
 .split at h
  .rename_i z u;subst u;split at h
   .rename_i l A;injection h with h;injection h with j m;subst j m;have:r≠[]:=by rintro rfl;cases A
    have:=List.length_pos_iff.2 this;simp[ds];omega
   .cases h
  .rename_i z u;injection h with h;injection h with j m;subst j m;rw[nO z u];simp
end Sp
def cz:List WS->List Nat->List WS
 |f::fs,m::ms=>f::Z Y m::cz fs ms
 |_,_=>[]
theorem P0:∀(j:List WS) (e:List Nat) (f:WS) (m:Nat),Xg j=Xg e->cz (j++[f]) (e++[m])=cz j e++[f,Z Y m]:=by
 intro j
 induction j with
 |nil=>intro e f m h;cases e with
  |nil=>rfl
  |cons a b=>cases h
 |cons r j l =>
  intro e f m h;cases e with
  |nil=>cases h
  |cons u e=>simp only[UM,cz];rw[l e f m (by simpa using h)]
theorem I7:∀(l:List WS) (e:List Nat) (j m:Nat),Xg l=Xg e->(cz l e).set (j*2+1) (Z Y m)=cz l (e.set j m):=by
 intro l
 induction l with
 |nil=>intro e j m h;cases e with
  |nil=>rfl
  |cons a b=>cases h
 |cons f l r =>
  intro e j m h;cases e with
  |nil=>cases h
  |cons u e =>
   cases j with
   |zero=>simp[cz]
   |succ j =>
    rw[show (j+1)*2+1=(j*2+1)+1+1 by omega];simp only[cz,List.set_cons_succ];rw[r e j m (by simpa using h)]
theorem Sc:∀(e:List WS) (b:List Nat) (j:Nat),Xg e=Xg b->(cz e b)[j*2]?=e[j]?:=by
 intro e
 induction e with
 |nil=>intro b j h;cases b <;> simp[cz]
 |cons f e l =>
  intro b j h;cases b with
  |nil=>cases h
  |cons m b =>
   cases j with
   |zero=>simp[cz]
   |succ j =>
    rw[show (j+1)*2=(j*2)+1+1 by omega];simp only[cz,List.getElem?_cons_succ];exact l b j (by simpa using h)
theorem N9:∀(l:List WS) (e:List Nat) (j:Nat),Xg l=Xg e->(cz l e)[j*2+1]?=(e[j]?).map (λm=>Z Y m):=by
 intro l
 induction l with
 |nil=>intro e j h;cases e with
  |nil=>simp[cz]
  |cons a b=>cases h
 |cons f l r =>
  intro e j h;cases e with
  |nil=>cases h
  |cons m e =>
   cases j with
   |zero=>simp[cz]
   |succ j =>
    rw[show (j+1)*2+1=(j*2+1)+1+1 by omega];simp only[cz,List.getElem?_cons_succ];exact r e j (by simpa using h)
def NB(x:List UInt8)(w:WR)(e:Ending)(w':WR):Prop:=WQ w w'/\((∃(j:WU) (nw:Bool) (F:Nat) (b:Array WS),e=WZ (WX #[.agg #[H j,WW nw,.func (.func F) #[] b],WW W8])/\Fn w' (K (E w')) x (.func (.func F) #[] b)/\Sp.tk W8 x≠U/\(nw=W8->Sp.tk W9 x=U)/\(nw=W9->Sp.tk W9 x≠U))\/(Sp.tk W8 x=U/\Sp.tk W9 x=U/\e=WZ (WX #[wC,WW W9])))
theorem yV(s:WU)(b:Nat)(w:WR)(y:s.size<=4000)(C:ia b w):WT prog 224 #[H s,J (S ⟨b,0,U⟩) 25 25] w (NB s.data.toList w):=by
 cases j:Sp.number s.data.toList with
 |some n =>
  refine(zj s _ w y n j).mono ?_;rintro e z ⟨B,G,A,rfl,m⟩;have F:B<K (E z):=(Ug.1 A).1;refine⟨m,Xa ⟨_,_,_,_,O,Xa ⟨B,n,F,O,A,j⟩,?_,?_,?_⟩⟩
  .rw[Sp.zf j];intro e;cases e
  .intro e;cases e
  .intro _;rw[Sp.zf j];intro e;cases e
 |none =>
  refine(wP s b w y C j).mono ?_;rintro e z ⟨m,⟨k,r,l,rfl⟩|⟨l,rfl⟩⟩
  .refine⟨m,Xa ⟨_,_,_,_,O,Xb ⟨k,r,l.symm,O⟩,?_,?_,?_⟩⟩
   .rw[<-l,Sp.Fg k r];intro e;cases e
   .intro u;rw[<-l,Sp.Bf k r];rw[T0 (by simpa [sD] using u)]
   .intro u;rw[<-l,Sp.Bf k r];rw[TZ (by simpa [sD] using u)];intro e;cases e
  .exact⟨m,Xb ⟨Sp.ET j l,Sp.ET j l,O⟩⟩
end
section
theorem info_order:(prog.info? 289).map (λi=>(i.zero,i.size,i.bytes))=S (S (.agg #[.nilFunc,Z Y 0]),2,16):=by kernel_rfl
def iz(l:List Nat):List WS:=l.map λ(n:Nat)=>Z Y (n:Int)
def IL(wt:Bool)(L:List (List UInt8))(w:WR)(e:Ending)(w':WR):Prop:=WQ w w'/\((Sp.kh wt L 0=W8/\∃g b fs ms,e=WZ (WX #[J (S ⟨g,0,U⟩) (Xg L) b,WW W8])/\(K (E w))<=g/\w'.ownsRow (K (E w)) 289 2 (J (S ⟨g,0,U⟩) (Xg L) b) (Xg L) (cz fs ms)/\(Xg fs)=Xg L/\Sp.fB L (Xg L)=S (ms,[])/\∀j (l:j<Xg L),Fn w' (K (E w')) L[j] (fs.getD j .nilFunc))\/(Sp.kh wt L 0=W9/\∃p n b,e=WZ (WX #[J p n b,WW W9])))
structure tC (wt:Bool) (L:List (List UInt8)) (w wr:WR) (i:Nat) (c o:WS) (fs:List WS) (ms op:List Nat):Prop where
 le:i<=Xg L
 below:WQ w wr
 row:wr.ownsRow (K (E w)) 289 2 c i (cz fs ms)
 ops:wr.ownsRow (K (E w)) 3 1 o (Xg op) (iz op)
 fl:Xg fs=i
 rd:Sp.fB L i=S (ms,op)
 fm:Sp.kh wt L 0=Sp.kh wt (L.drop i) (Xg op)
 fn:∀j (hj:j<Xg L),j<i->Fn wr (K (E wr)) L[j] (fs.getD j .nilFunc)
 ol:∀x∈op,x<i
 oi:Xg op<=i
variable {fv:WS}{w:WR}
theorem Fn.below{w':WR}{x:List UInt8}(h:Fn w (K (E w)) x fv)(hb:WQ w w'): Fn w' (K (E w')) x fv:=by
 rcases h with ⟨B,n,b,e,j,l⟩|h
 .exact Xa ⟨B,n,Ux b hb.size,e,(hb.block B b).trans j,l⟩
 .exact Xb h
variable {B:Nat}
theorem Fn.grown{w':WR}{x:List UInt8}{v:WS}{e size n:Nat}{z:List WS}(h:Fn w (K (E w)) x fv)(A:w.ownsRow B e size v n z)(u:w.grownBy w' v.ownBlock)(he:e≠2): Fn w' (K (E w')) x fv:=by
 rcases h with ⟨b,m,y,C,j,F⟩|h
 .refine Xa ⟨b,m,Ux y u.size,C,?_,F⟩;refine(u.block b y ?_).trans j;intro l;rcases A.2 with ⟨rfl,_⟩|⟨g,G,I,rfl,_,r,_⟩
  .simp[Value.ownBlock] at l
  .simp only[Value.ownBlock,Option.some.injEq] at l;subst l;unfold j5 at j;rw[r] at j;injection j with j;injection j with _ M;exact he M
 .exact Xb h
structure EU (L:List (List UInt8)) (B:Nat) (wr:WR) (i:Nat) (c o:WS) (fs:List WS) (ms op:List Nat):Prop where
 row:wr.ownsRow B 289 2 c (i+1) (cz fs ms)
 ops:wr.ownsRow B 3 1 o (Xg op) (iz op)
 fl:Xg fs=i+1
 ml:Xg ms=i+1
 fn:∀j (hj:j<Xg L),j<i+1->Fn wr (K (E wr)) L[j] (fs.getD j .nilFunc)
variable {fs:List WS}{i:Nat}
theorem mo{v d:WS}{j:Nat}(e:Xg fs=i): (fs++[v]).getD j d=if j<i then fs.getD j d else if j=i then v else d:=by
 rw[Uo,Uo];by_cases h:j<i
 .rw[T0 h,UY (by omega)]
 .rw[TZ h,Ul (by omega),e];by_cases b:j=i
  .subst b;simp
  .rw[TZ b,Wr (by simp;omega)];rfl
variable {c o c':WS}{op ms:List Nat}{wt:Bool}{w3 wr:WR}{L:List (List UInt8)}
theorem KN{y M:WR}(b:tC wt L w wr i c o fs ms op)(hi:i<Xg L)(r:WQ wr y)(F:Fn y (K (E y)) L[i] fv)(u:WQ y M)(G:w3.ownsRow (K (E w)) 289 2 c' (i+1) (cz fs ms++[fv,Z Y 0]))(l:M.grownBy w3 c.ownBlock): EU L (K (E w)) w3 i c' o (fs++[fv]) (ms++[0]) op/\WQ w w3:=by
 have m:=r.trans (u.mono r.size);have A:=dd b.row m;have N:=dd b.ops m;have z:Xg ms=i:=by
  have V:=b.row.1;have:∀(k:Nat) (C I:List Nat),Sp.fB L k=S (C,I)->Xg C=k:=by
   intro k
   induction k with
   |zero=>intro C I h;simp[Sp.fB] at h;obtain⟨rfl,_⟩:=h;rfl
   |succ k P =>
    intro C I h;simp only[Sp.fB] at h;split at h
    .cases h
    .rename_i W N Q;rw[(Sp.ui h).1,P _ _ Q]
  exact this _ _ _ b.rd
 refine⟨⟨?_,jM A N (by decide) l,by simp[b.fl],by simp[z],?_⟩,?_⟩
 .rw[P0 _ _ _ _ (by rw[b.fl,z])];exact G
 .intro j R T;rw[mo b.fl];by_cases h:j<i
  .rw[T0 h];exact(((b.fn j R h).below r).below u).grown A l (by decide)
  .have e:j=i:=by omega
   subst e;rw[TZ h,T0 rfl];exact(F.below u).grown A l (by decide)
 .exact qM (ys:=[]) (v':=c') (Uc b.below.size m.size) A (b.below.trans (m.mono b.below.size)) l
theorem BQ(b:tC wt L w wr i c o fs ms op)(hi:i<Xg L)(e:EU L (K (E w)) w3 i c' o (fs++[fv]) (ms++[0]) op)(hb:WQ w w3)(ht:Sp.tk wt L[i]≠U)(h1:L[i]≠[91])(h2:L[i]≠[93]):tC wt L w w3 (i+1) c' o (fs++[fv]) (ms++[0]) op:=by
 have hd:=Sp.nO h1 h2;refine⟨by omega,hb,e.row,e.ops,e.fl,?_,?_,λj m l=>e.fn j m l,λx r=>by have:=b.ol x r;omega,by have:=b.oi;omega⟩
 .rw[Sp.fB,b.rd];simp only;rw[Uo,Uk hi,Option.getD_some,Sp.fC,TZ h1,TZ h2]
 .rw[b.fm,UJ hi,Sp.kh,TZ (by rintro(hc|hc);exact ht hc;rw[hd] at hc;omega),hd];simp
theorem Fw{y:WR}{z:WS}(r:tC wt L w wr i c o fs ms op)(hi:i<Xg L)(u:EU L (K (E w)) w3 i c' o (fs++[fv]) (ms++[0]) op)(hb:WQ w w3)(h1:L[i]=[91])(A:y.ownsRow (K (E w)) 3 1 z (Xg op+1) (iz op++[Z Y i]))(l:WR)(b:WQ w3 l)(e:l.grownBy y o.ownBlock):tC wt L w y (i+1) c' z (fs++[fv]) (ms++[0]) (op++[i]):=by
 have G:=dd u.row b;have C:=dd u.ops b;have I:Sp.tk wt L[i]≠U:=by rw[h1];cases wt <;> decide
 have hd:Sp.ds L[i]=1:=by rw[h1];decide
 refine⟨by omega,qM (ys:=[]) (v':=z) (Uc hb.size b.size) C (hb.trans (b.mono hb.size)) e,jM C G (by decide) e,?_,u.fl,?_,?_,λj M F=>((u.fn j M F).below b).grown C e (by decide),?_,by have:=r.oi;simp;omega⟩
 .rw[show (op++[i]).length=Xg op+1 by simp,show iz (op++[i])=iz op++[Z Y i] by simp[iz]];exact A
 .rw[Sp.fB,r.rd];simp only;rw[Uo,Uk hi,Option.getD_some,Sp.fC,T0 h1]
 .rw[r.fm,UJ hi,Sp.kh,TZ (by rintro(hc|hc);exact I hc;rw[hd] at hc;omega),hd];simp
 .intro x m;rcases Uq.1 m with m|m
  .have:=r.ol x m;omega
  .rw[Uz] at m;omega
theorem EX{l r M z A:Nat}(C:tC wt L w wr i c (J (S ⟨z,0,U⟩) (Xg op+1) A) fs ms (op++[l]))(hi:i<Xg L)(b:EU L (K (E w)) w3 i (J (S ⟨r,0,U⟩) (i+1) M) (J (S ⟨z,0,U⟩) (Xg op+1) A) (fs++[fv]) (ms++[0]) (op++[l]))(hb:WQ w w3)(h1:L[i]=[93]):tC wt L w ((w3.setCell ⟨r,i*2+1,U⟩ (Z Y l)).setCell ⟨r,l*2+1,U⟩ (Z Y i)) (i+1) (J (S ⟨r,0,U⟩) (i+1) M) (J (S ⟨z,0,U⟩) (Xg op) A) (fs++[fv]) (((ms++[0]).set i l).set l i) op:=by
 have G:L[i]≠[91]:=by rw[h1];decide
 have Q:Sp.tk wt L[i]≠U:=by rw[h1];cases wt <;> decide
 have hd:Sp.ds L[i] = -1:=by rw[h1];decide
 have u:=b.row.stored (i*2+1) (Z Y l);have F:=u.1.stored (l*2+1) (Z Y i);have m:(fs++[fv]).length=(ms++[0]).length:=by rw[b.fl,b.ml]
 rw[I7 _ _ _ _ m,I7 _ _ _ _ (by rw[VR];exact m)] at F;have R:=jM b.row b.ops (by decide) u.2;have N:=jM u.1 R (by decide) F.2;have y:=(b.row.lt r O).1;have T:((w3.setCell ⟨r,i*2+1,U⟩ (Z Y l)).setCell ⟨r,l*2+1,U⟩ (Z Y i)).ownsRow (K (E w)) 3 1 (J (S ⟨z,0,U⟩) (Xg op+1) A) (Xg op+1) (iz (op++[l])):=by
  have e:(op++[l]).length=Xg op+1:=by simp
  rw[e] at N;exact N
 have P:=zS T;have V:(iz (op++[l])).take (Xg op*1)=iz op:=by simp[iz]
 rw[V] at P;refine⟨by omega,(hb.setCell y _).setCell y _,F.1,P,b.fl,?_,?_,λj W I=>((b.fn j W I).grown b.row u.2 (by decide)).grown u.1 F.2 (by decide),λx X=>by have:=C.ol x (Vy _ X);omega,by have:=C.oi;simp at this;omega⟩
 .rw[Sp.fB,C.rd];simp only;rw[Uo,Uk hi,Option.getD_some,Sp.fC,TZ G,T0 h1];simp
 .rw[C.fm,UJ hi,Sp.kh,TZ (by rintro(hc|hc);exact Q hc;rw[hd] at hc;simp at hc;omega),hd];simp
  congr 1
  omega
theorem Cr{l:Nat}(h:w.ownsRow B 3 1 o (op++[l]).length (iz (op++[l]))): ∃g b,o=Value.slice (S ⟨g,0,U⟩) (Xg op+1) b/\w.cell? ⟨g,Xg op,U⟩=S (Z Y (l:Int))/\(Xg op)<=b:=by
 rw[show (op++[l]).length=Xg op+1 by simp] at h;rcases h.2 with ⟨_,j⟩|⟨g,b,e,rfl,_,_,m,_⟩
 .omega
 .refine⟨g,b,O,(h.cellAt (Xg op) (by omega)).trans ?_,by omega⟩;simp[iz]
theorem _root_.Go.World.ownsRow.tX{n g cap:Nat}(h:w.ownsRow B 289 2 (J (S ⟨g,0,U⟩) n cap) n (cz fs ms)){j:Nat}(e:j<n): ∃y,w.cell? ⟨g,j*2+1,U⟩=S y:=by
 have b:=h.cellAt (j*2+1) (by omega);have l:(cz fs ms).length=n*2:=h.1;exact⟨_,b.trans (Uk (by omega))⟩
theorem zu(X:List WU)(p:Option Addr)(cap b:Nat)(wt:Bool)(w:WR)(hX:Ou w p X)(hl:Xg X<=4000)(h0:0<Xg X)(hz:∀x∈X,x.size<=4000)(hW:ia b w):WT prog 195 #[J p (Xg X) cap,J (S ⟨b,0,U⟩) 25 25,WW wt] w (IL wt (fD X) w):=by
 obtain⟨t2,ak,ay,az,aA⟩:=UB info_order;obtain⟨t1,an,aB,aC,aD⟩:=UB info_int;have HX:=cT hX;have HZ:=cT hz;have HW:=cT hW;have au:=cT (FZ X);clear hX hz hW;generalize hO:IL wt (fD X) w=r;replace hO:=cT hO;go_enter func195,ntmps195;go_wp2_with fail
 go_loopw [8,9,17] (λcv ov u wr=>∃(i:Nat) (fs:List WS) (ms op:List Nat),u=Z Y i/\i<=Xg X/\Hid (tC wt (fD X) w wr i cv ov fs ms op)) (λ_ _ u _=>Xg X-(intOf u).toNat)
 case atStart=>exact⟨0,[],[],[],rfl,Ud _,⟨Ud _,T4 _ _,Uw _ _ _ _,Uw _ _ _ _,rfl,rfl,by simp,λj y aQ=>absurd aQ (by omega),λx hx=>absurd hx (by simp),TY _⟩⟩
 case round =>
  obtain⟨i,fs,ms,op,rfl,hi,I⟩:=hrel;have g0:(0:Int)<=(i:Int):=UF _;by_cases c:i<Xg X
  .have c1:(i:Int)<(Xg X:Int):=by omega
   have z:=cS I;obtain⟨g,aE,rfl,aR,ad⟩:=(cS HX) i c;have aS:wr.cell? ⟨g,aE+i,U⟩=S (H X[i]):=(z.below.cell (p:=⟨g,aE+i,U⟩) aR).trans ad;have aF:=(cS HZ) _ (UU c);have hL:(fD X)[i]'(by rw[cS au];exact c)=X[i].data.toList:=Ny c;have G:i<(fD X).length:=by rw[cS au];exact c
   generalize X[i]=x at aS aF hL;have HL:=cT hL;have aT:=(cS HW).below z.below;clear ad hL z;go_wp2_with fail;refine(yV x b wr aF aT).mono ?_;rintro e w1 ⟨P,⟨nm,nw,F,V,rfl,ae,ht,aG,aH⟩|⟨an,ak,rfl⟩⟩
   .have aI:=ae;rw[<-cS HL] at ae;by_cases W:nw=W8/\wt=W9
    .obtain⟨rfl,rfl⟩:=W;have hp:r (WZ (WX #[J U 0 0,WW W9])) (w1.alloc (D #[H nm,WW W8,.func (.func F) #[] V] 275)):=by
      rw[<-cS hO];have z:=cS I;refine⟨(z.below.trans (P.mono z.below.size)).alloc (Uc z.below.size P.size) _,Xb ⟨?_,_,_,_,O⟩⟩;rw[z.fm,UJ G,Sp.kh,T0 (Xa (by rw[cS HL];exact aG O))]
     clear P ae aI;go_wp2;exact hp
    .have aJ:Hid (Sp.tk wt (fD X)[i]≠U):=by
      show _≠_
      rw[cS HL];cases wt with
      |true=>exact ht
      |false=>exact aH (by cases nw with
       |true=>exact absurd ⟨rfl,rfl⟩ W
       |false=>rfl)
     have z:=cS I;have af:WQ w1 ((w1.alloc (D #[H nm,WW nw,.func (.func F) #[] V] 275)).alloc (D #[.func (.func F) #[] V,Z Y 0] 289)):=((T4 (K (E w1)) w1).alloc WN _).alloc (by simp) _;have av:=P.trans (af.mono P.size);have r2:=dd z.row av;have ao:=Uc z.below.size av.size;have aK:=cT ae;have aq:=cT P;clear ae aI P ht aG aH z av;cases nw with
     |true =>
      obtain rfl:wt=W8:=by cases wt with
       |true=>rfl
       |false=>exact absurd ⟨rfl,rfl⟩ W
      clear W;go_wp2_with (first
       | (at_builtin;go_must (refine VZ _ O (.tmp 38) (.tmp 42) 149 O (K (E w)) 289 t2 _ 2 16 underlying149 ak ay az aA O (by decide) _ _ _ O r2 ⟨K (E w1)+1,0,U⟩ 1 1 [.func (.func F) #[] V,Z Y 0] O O ?c1 ?c2 ?c3 ?c4 ?c5 ?_))
       |go_in)
      case c1 =>
       intro j u y
       match j,y with
       |0,y=>simp at y;subst y;simp[Addr.add]
       |1,y=>simp at y;subst y;simp[Addr.add]
       |j+2,y=>simp at y
      case c2=>intro u hu;simp at hu;rcases hu with rfl | rfl <;> rfl
      case c3=>unfold maxLen;omega
      case c4=>omega
      case c5=>exact ao
      intro c3 w3 t ag ah;obtain⟨q,ai⟩:=KN (cS I) G (cS aq) (cS aK) af t ag;obtain⟨g3,aL,rfl⟩:∃g cap,c3=J (S ⟨g,0,U⟩) (i+1) cap:=by
       rcases t.2 with ⟨_,aU⟩|⟨g,cap,aV,hv,_⟩
       .omega
       .exact⟨g,cap,hv⟩
      have Q:=cT q;have M:=cT ai;clear t ag r2 af q ai ao aq ah;by_cases A:x.data.toList=[91]
      .have t91:(x.toList == [91])=W8:=by rw[FJ,A];decide
       have s:=cT A;clear A;have o3:=(cS Q).ops;have aM:=(cS M).size;go_wp2_with (first
        | (at_builtin;go_must (refine VZ _ O (.tmp 47) (.tmp 49) 39 O (K (E w)) 3 t1 _ 1 8 underlying39 an aB aC aD O (by decide) _ _ _ O (o3.alloc _) ⟨K (E w3),0,U⟩ 1 1 [Z Y (i:Int)] O O ?d1 ?d2 ?d3 ?d4 ?d5 ?_))
        |go_in)
       case d1 =>
        intro j u y
        match j,y with
        |0,y=>simp at y;subst y;simp[Addr.add]
        |j+1,y=>simp at y
       case d2=>intro u hu;simp at hu;subst hu;rfl
       case d3=>have:=(cS I).oi;unfold maxLen;omega
       case d4=>have:=(cS I).oi;omega
       case d5=>simp;omega
       intro o4 w4 aa aj aN;have N:=cT (Fw (cS I) G (cS Q) (cS M) ((cS HL).trans (cS s)) aa _ ((T4 (K (E w3)) w3).alloc WN _) aj);obtain⟨q4,k4,rfl,_⟩:=dm aa;clear aa aj o3;go_wp2;go_roundw
       case rel=>exact⟨i+1,_,_,_,by go_num,by omega,N⟩
       case measure=>simp[intOf];omega
      .have t91:(x.toList == [91])=W9:=by rw[FJ];exact Uh.2 A
       have s:=cT A;clear A;by_cases C:x.data.toList=[93]
       .have t93:(x.toList == [93])=W8:=by rw[FJ,C];decide
        have R:=cT C;clear C;have o3:=(cS Q).ops;by_cases T:op=[]
        .subst T;obtain⟨qo,ko,rfl,_⟩:=dm o3;have hp:r (WZ (WX #[J U 0 0,WW W9])) w3:=by
          rw[<-cS hO];have z:=cS I;refine⟨cS M,Xb ⟨?_,_,_,_,O⟩⟩;rw[z.fm,UJ G,Sp.kh,T0 (Xb (by rw[cS HL,cS R];decide))]
         clear o3;go_wp2;exact hp
        .obtain⟨op,l,rfl⟩:∃a m,op=a++[m]:=⟨op.dropLast,op.getLast T,(List.dropLast_concat_getLast T).symm⟩
         clear T;obtain⟨go,co,rfl,aW,aO⟩:∃g cap,_=Value.slice (S ⟨g,0,U⟩) (Xg op+1) cap/\w3.cell? ⟨g,Xg op,U⟩=S (Z Y (l:Int))/\(Xg op)<=cap:=Cr o3;have aX:l<i:=(cS I).ol l (by simp);have aP:l<i+1:=by omega
         have N:=cT (EX (cS I) G (cS Q) (cS M) ((cS HL).trans (cS R)));have aY:Xg op<=4000:=by have:=(cS I).oi;simp at this;omega
         obtain⟨y1,aZ⟩:=(cS Q).row.tX (j:=i) (by omega);obtain⟨y2,aw⟩:=(cS Q).row.tX (j:=l) (by omega);have a1:(w3.setCell ⟨g3,i*2+1,U⟩ (Z Y (l:Int))).cell? ⟨g3,l*2+1,U⟩=S y2:=(cW (by omega)).trans aw;have z1:=(cS Q).row.frozenAt (i*2+1);have z2:=(cS Q).row.frozenAt (l*2+1);have g1:((Xg op+1:Nat):Int)-1=(Xg op:Int):=by omega
         have g2:(0:Int)<=(Xg op:Int):=UF _;have g3:(Xg op:Int)<((Xg op+1:Nat):Int):=by omega
         have g4:(Xg op:Int)<=(co:Int):=by omega
         have g5:(0:Int)<=(l:Int):=UF _;have g6:(l:Int)<((i+1:Nat):Int):=by omega
         have g7:(i:Int)<((i+1:Nat):Int):=by omega
         clear o3;go_wp2;go_roundw
         case rel=>exact⟨i+1,_,_,_,by go_num,by omega,N⟩
         case measure=>simp[intOf];omega
       .have t93:(x.toList == [93])=W9:=by rw[FJ];exact Uh.2 C
        have R:=cT C;clear C;have N:=cT (BQ (cS I) G (cS Q) (cS M) (cS aJ) (by rw[cS HL];exact cS s) (by rw[cS HL];exact cS R));go_wp2;go_roundw
        case rel=>exact⟨i+1,_,_,_,by go_num,by omega,N⟩
        case measure=>simp[intOf];omega
     |false =>
      clear W;go_wp2_with (first
       | (at_builtin;go_must (refine VZ _ O (.tmp 38) (.tmp 42) 149 O (K (E w)) 289 t2 _ 2 16 underlying149 ak ay az aA O (by decide) _ _ _ O r2 ⟨K (E w1)+1,0,U⟩ 1 1 [.func (.func F) #[] V,Z Y 0] O O ?c1 ?c2 ?c3 ?c4 ?c5 ?_))
       |go_in)
      case c1 =>
       intro j u y
       match j,y with
       |0,y=>simp at y;subst y;simp[Addr.add]
       |1,y=>simp at y;subst y;simp[Addr.add]
       |j+2,y=>simp at y
      case c2=>intro u hu;simp at hu;rcases hu with rfl | rfl <;> rfl
      case c3=>unfold maxLen;omega
      case c4=>omega
      case c5=>exact ao
      intro c3 w3 t ag ah;obtain⟨q,ai⟩:=KN (cS I) G (cS aq) (cS aK) af t ag;obtain⟨g3,aL,rfl⟩:∃g cap,c3=J (S ⟨g,0,U⟩) (i+1) cap:=by
       rcases t.2 with ⟨_,aU⟩|⟨g,cap,aV,hv,_⟩
       .omega
       .exact⟨g,cap,hv⟩
      have Q:=cT q;have M:=cT ai;clear t ag r2 af q ai ao aq ah;by_cases A:x.data.toList=[91]
      .have t91:(x.toList == [91])=W8:=by rw[FJ,A];decide
       have s:=cT A;clear A;have o3:=(cS Q).ops;have aM:=(cS M).size;go_wp2_with (first
        | (at_builtin;go_must (refine VZ _ O (.tmp 47) (.tmp 49) 39 O (K (E w)) 3 t1 _ 1 8 underlying39 an aB aC aD O (by decide) _ _ _ O (o3.alloc _) ⟨K (E w3),0,U⟩ 1 1 [Z Y (i:Int)] O O ?d1 ?d2 ?d3 ?d4 ?d5 ?_))
        |go_in)
       case d1 =>
        intro j u y
        match j,y with
        |0,y=>simp at y;subst y;simp[Addr.add]
        |j+1,y=>simp at y
       case d2=>intro u hu;simp at hu;subst hu;rfl
       case d3=>have:=(cS I).oi;unfold maxLen;omega
       case d4=>have:=(cS I).oi;omega
       case d5=>simp;omega
       intro o4 w4 aa aj aN;have N:=cT (Fw (cS I) G (cS Q) (cS M) ((cS HL).trans (cS s)) aa _ ((T4 (K (E w3)) w3).alloc WN _) aj);obtain⟨q4,k4,rfl,_⟩:=dm aa;clear aa aj o3;go_wp2;go_roundw
       case rel=>exact⟨i+1,_,_,_,by go_num,by omega,N⟩
       case measure=>simp[intOf];omega
      .have t91:(x.toList == [91])=W9:=by rw[FJ];exact Uh.2 A
       have s:=cT A;clear A;by_cases C:x.data.toList=[93]
       .have t93:(x.toList == [93])=W8:=by rw[FJ,C];decide
        have R:=cT C;clear C;have o3:=(cS Q).ops;by_cases T:op=[]
        .subst T;obtain⟨qo,ko,rfl,_⟩:=dm o3;have hp:r (WZ (WX #[J U 0 0,WW W9])) w3:=by
          rw[<-cS hO];have z:=cS I;refine⟨cS M,Xb ⟨?_,_,_,_,O⟩⟩;rw[z.fm,UJ G,Sp.kh,T0 (Xb (by rw[cS HL,cS R];decide))]
         clear o3;go_wp2;exact hp
        .obtain⟨op,l,rfl⟩:∃a m,op=a++[m]:=⟨op.dropLast,op.getLast T,(List.dropLast_concat_getLast T).symm⟩
         clear T;obtain⟨go,co,rfl,aW,aO⟩:∃g cap,_=Value.slice (S ⟨g,0,U⟩) (Xg op+1) cap/\w3.cell? ⟨g,Xg op,U⟩=S (Z Y (l:Int))/\(Xg op)<=cap:=Cr o3;have aX:l<i:=(cS I).ol l (by simp);have aP:l<i+1:=by omega
         have N:=cT (EX (cS I) G (cS Q) (cS M) ((cS HL).trans (cS R)));have aY:Xg op<=4000:=by have:=(cS I).oi;simp at this;omega
         obtain⟨y1,aZ⟩:=(cS Q).row.tX (j:=i) (by omega);obtain⟨y2,aw⟩:=(cS Q).row.tX (j:=l) (by omega);have a1:(w3.setCell ⟨g3,i*2+1,U⟩ (Z Y (l:Int))).cell? ⟨g3,l*2+1,U⟩=S y2:=(cW (by omega)).trans aw;have z1:=(cS Q).row.frozenAt (i*2+1);have z2:=(cS Q).row.frozenAt (l*2+1);have g1:((Xg op+1:Nat):Int)-1=(Xg op:Int):=by omega
         have g2:(0:Int)<=(Xg op:Int):=UF _;have g3:(Xg op:Int)<((Xg op+1:Nat):Int):=by omega
         have g4:(Xg op:Int)<=(co:Int):=by omega
         have g5:(0:Int)<=(l:Int):=UF _;have g6:(l:Int)<((i+1:Nat):Int):=by omega
         have g7:(i:Int)<((i+1:Nat):Int):=by omega
         clear o3;go_wp2;go_roundw
         case rel=>exact⟨i+1,_,_,_,by go_num,by omega,N⟩
         case measure=>simp[intOf];omega
       .have t93:(x.toList == [93])=W9:=by rw[FJ];exact Uh.2 C
        have R:=cT C;clear C;have N:=cT (BQ (cS I) G (cS Q) (cS M) (cS aJ) (by rw[cS HL];exact cS s) (by rw[cS HL];exact cS R));go_wp2;go_roundw
        case rel=>exact⟨i+1,_,_,_,by go_num,by omega,N⟩
        case measure=>simp[intOf];omega
   .have hp:r (WZ (WX #[J U 0 0,WW W9])) (w1.alloc (D #[H ⟨#[]⟩,WW W9,.nilFunc] 275)):=by
     rw[<-cS hO];have z:=cS I;refine⟨(z.below.trans (P.mono z.below.size)).alloc (Uc z.below.size P.size) _,Xb ⟨?_,_,_,_,O⟩⟩;rw[z.fm,UJ G,Sp.kh,T0 (Xa (by rw[cS HL];cases wt;exact ak;exact an))]
    unfold wC;clear P;go_wp2;exact hp
  .have c1:¬(i:Int)<(Xg X:Int):=by omega
   have ei:i=Xg X:=by omega
   subst ei;have z:=cS I;have ab:Xg X=(fD X).length:=(cS au).symm;by_cases h0:op=[]
   .subst h0;obtain⟨qc,kc,rfl,ar⟩:=dm z.row;obtain⟨qo,ko,rfl,ax⟩:=dm z.ops;have hp:r (WZ (WX #[J qc (Xg X) kc,WW W8])) wr:=by
     rw[<-cS hO];obtain⟨g,rfl,a6,a7,_⟩:=ar 0 (by omega);refine⟨z.below,Xa ⟨?_,g,kc,fs,ms,?_,a6,?_,?_,?_,?_⟩⟩
     .rw[z.fm,VA (by omega)];rfl
     .rw[<-ab]
     .rw[<-ab];exact z.row
     .rw[<-ab];exact z.fl
     .rw[<-ab];exact z.rd
     .intro j y;exact z.fn j y (by omega)
    clear ar ax z ab;go_wp2;exact hp
   .obtain⟨qc,kc,rfl,ar⟩:=dm z.row;obtain⟨qo,ko,rfl,ax⟩:=dm z.ops;have hp:r (WZ (WX #[J qc (Xg X) kc,WW W9])) wr:=by
     rw[<-cS hO];refine⟨z.below,Xb ⟨?_,_,_,_,O⟩⟩;rw[z.fm,VA (by omega),Sp.kh];exact Uu (λe=>h0 (Wo (by omega)))
    have hq:((Xg op:Int) == 0)=W9:=Uh.2 (λe=>h0 (Wo (by omega)));clear ar ax z ab;go_wp2;exact hp
end
section
theorem vN(s:WU)(w:WR)(r:s.size<=4000)(b:et w):WT prog 69 #[H s,H ⟨#[32]⟩] w λe j=>e=WZ (J (S ⟨K (E w),0,U⟩) (Sp.split s 32).length (Sp.split s 32).length)/\j=w.alloc (D ((Sp.split s 32).map Value.string).toArray 9):=by
 obtain⟨m,l⟩:=b;have h:=Tryz.strings_Split s ⟨#[32]⟩ m w (by omega) l (by decide);rw[Sp.tT,Sp.xd] at h;exact h
theorem yW(s:WU)(w:WR)(r:s.size<=4000)(b:et w):WT prog 69 #[H s,H ⟨#[10]⟩] w λe j=>e=WZ (J (S ⟨K (E w),0,U⟩) (Sp.split s 10).length (Sp.split s 10).length)/\j=w.alloc (D ((Sp.split s 10).map Value.string).toArray 9):=by
 obtain⟨m,l⟩:=b;have h:=Tryz.strings_Split s ⟨#[10]⟩ m w (by omega) l (by decide);rw[Sp.sq,Sp.tR] at h;exact h
theorem xz(w:WR)(X:List WU):Ou (w.alloc (D (X.map Value.string).toArray 9)) (S ⟨K (E w),0,U⟩) X:=λj b=>by
 refine⟨K (E w),0,O,by simp,?_⟩;rw[UA,World.cell?_alloc_mark];simp[Uk b]
def uP(P:List UInt8)(x:WU)(w:WR)(e:Ending)(w':WR):Prop:=WQ w w'/\((¬P <+: x.data.toList/\∃p n b,e=WZ (WX #[J p n b,WW W9]))\/(∃rest:WU,rest.size<=x.size/\x.data.toList=P++rest.data.toList/\∃g,K (E w)<=g/\e=WZ (WX #[J (S ⟨g,0,U⟩) (Sp.split rest 32).length (Sp.split rest 32).length,WW W8])/\Ou w' (S ⟨g,0,U⟩) (Sp.split rest 32)))
theorem pU(x nm:WU)(w:WR)(q:x.size<=2000)(t:nm.size<=10)(Q:et w):WT prog 194 #[H x,H nm] w (uP (nm.data.toList++[58,32]) x w):=by
 have B:(nm++⟨#[58,32]⟩:WU).data.toList=nm.data.toList++[58,32]:=by simp
 have C:(nm++⟨#[58,32]⟩:WU).size=nm.size+2:=by rw[Us];rfl
 have y:=cT B;have M:=cT C;have V:(nm++⟨#[58,32]⟩:WU).size<=12:=by omega
 have j:(nm.data.toList++[58,32]).length=nm.size+2:=by
  rw[<-cS y,<-cS M];exact Va
 have R:=cT Q;clear B C Q;by_cases z:(nm.data.toList++[58,32]) <+: x.data.toList
 .have r:=Sp.NM z;rw[j] at r;have N:=Sp.Je z;rw[j] at N;have I:((x.extract 0 (nm.size+2)).toList == (nm++⟨#[58,32]⟩:WU).toList)=W8:=by
   rw[FJ (nm++⟨#[58,32]⟩),cS y,Vi];have:=(Sp.AA (x:=x) (p:=nm.data.toList++[58,32]) (by omega)).2 z;rw[j] at this;exact this
  have T:(nm.size:Int)+2<=(x.size:Int):=by omega
  have F:(x.extract (nm.size+2) x.size).size<=x.size:=by rw[Un];omega
  have A:Hid (∀(e:Ending) (u:WR),(e=WZ (J (S ⟨K (E w),0,U⟩) (Sp.split (x.extract (nm.size+2) x.size) 32).length (Sp.split (x.extract (nm.size+2) x.size) 32).length)/\u=w.alloc (D ((Sp.split (x.extract (nm.size+2) x.size) 32).map Value.string).toArray 9))->uP (nm.data.toList++[58,32]) x w (WZ (WX #[J (S ⟨K (E w),0,U⟩) (Sp.split (x.extract (nm.size+2) x.size) 32).length (Sp.split (x.extract (nm.size+2) x.size) 32).length,WW W8])) u):=by
   show ∀(e:Ending) (u:WR),_->_
   rintro e u ⟨rfl,rfl⟩;exact⟨WO.alloc WN _,Xb ⟨_,F,N,K (E w),TY _,O,xz w _⟩⟩
  have hS:=vN (x.extract (nm.size+2) x.size) w (by omega) (cS R);have L:=cT hS;generalize P:uP (nm.data.toList++[58,32]) x w=b at A ⊢;clear hS z r N j F P;go_enter func194,ntmps194;go_wp2_with (first|(go_at_call 69;go_must (refine(cS L).mono ?_;rintro e G ⟨rfl,l⟩;have m:=cS A _ G ⟨O,l⟩;clear l))|go_in);exact m
 .have A:Hid (∀(X:List WU) (u:WR),u=w.alloc (D (X.map Value.string).toArray 9)->uP (nm.data.toList++[58,32]) x w (WZ (WX #[J (S ⟨K (E w),0,U⟩) (Xg X) (Xg X),WW W9])) u):=by
   show ∀(X:List WU) (u:WR),_->_
   rintro X u rfl;exact⟨WO.alloc WN _,Xa ⟨z,_,_,_,O⟩⟩
  have hS:=vN x w (by omega) (cS R);have L:=cT hS;have I:nm.size+2<=x.size->((x.extract 0 (nm.size+2)).toList == (nm++⟨#[58,32]⟩:WU).toList)=W9:=by
   intro r;rw[FJ (nm++⟨#[58,32]⟩),cS y];apply Uh.2;intro W;apply z;refine(Sp.AA (x:=x) (p:=nm.data.toList++[58,32]) (by omega)).1 ?_;rw[j];exact W
  generalize P:uP (nm.data.toList++[58,32]) x w=b at A ⊢;clear hS z j P;by_cases r:nm.size+2<=x.size
  .have T:(nm.size:Int)+2<=(x.size:Int):=by omega
   have I:=I r;go_enter func194,ntmps194;go_wp2_with (first|(go_at_call 69;go_must (refine(cS L).mono ?_;rintro e G ⟨rfl,l⟩;have m:=cS A _ G l;clear l))|go_in);exact m
  .have T:¬(nm.size:Int)+2<=(x.size:Int):=by omega
   clear I;go_enter func194,ntmps194;go_wp2_with (first|(go_at_call 69;go_must (refine(cS L).mono ?_;rintro e G ⟨rfl,l⟩;have m:=cS A _ G l;clear l))|go_in);exact m
end
section
def TO:List Int:=[9223372036854775807,-9223372036854775808,0]
def QT:List Nat:=[243,244,245]
def qO(k:Nat):WU:=⟨⟨Sp.ft[k]!⟩⟩
def pQ(k:Nat):WS := .func (.func (QT[k]!)) #[] #[]
def oU(k:Nat):Int:=TO[k]!
def Ka(k:Nat):WS := .agg #[H (qO k),Z Y (oU k),pQ k]
def EE:WS := .agg #[H ⟨#[]⟩,Z Y 0,.nilFunc]
def Q9(x:List UInt8)(w:WR)(e:Ending)(w':WR):Prop:=WQ w w'/\((∃k,k<3/\Sp.ft[k]! = x/\e=WZ (WX #[Ka k,WW W8]))\/(x∉Sp.ft/\e=WZ (WX #[EE,WW W9])))
def Pd:Array WS := #[H ⟨#[109,105,110]⟩,Z Y 9223372036854775807,.func (.func 243) #[] #[],H ⟨#[109,97,120]⟩,Z Y (-9223372036854775808),.func (.func 244) #[] #[],H ⟨#[115,117,109]⟩,Z Y 0,.func (.func 245) #[] #[]]
theorem Dp{b:Nat}{w:WR}{t:Nat}(h:w.heap[b]?=S (D Pd t)):(k:Nat)->k<3->
  w.cell? ⟨b,k*3,U⟩=S (H (qO k))/\w.cell? ⟨b,k*3+1,U⟩=S (Z Y (oU k))/\w.cell? ⟨b,k*3+2,U⟩=S (pQ k)
 |0,_=>⟨by simp only[Xc,h];rfl,by simp only[Xc,h];rfl,by simp only[Xc,h];rfl⟩
 |1,_=>⟨by simp only[Xc,h];rfl,by simp only[Xc,h];rfl,by simp only[Xc,h];rfl⟩
 |2,_=>⟨by simp only[Xc,h];rfl,by simp only[Xc,h];rfl,by simp only[Xc,h];rfl⟩
 |n+3,h=>absurd h (by omega)
theorem H7(w:WR):WT prog 225 #[] w λe b=>e=WZ (J (S ⟨K (E w),0,U⟩) 3 3)/\WQ w b/\b.heap[K (E w)]?=S (D Pd 152):=by
 go_enter func225,ntmps225;go_wp2;exact T8 (v := J (S ⟨K (E w),0,U⟩) 3 3) (by simp[results,results225,go_sem]) O ⟨O,WO.alloc WN _,Array.getElem?_push_size⟩
theorem pM(s:WU)(w:WR):WT prog 196 #[H s] w (Q9 s.data.toList w):=by
 go_enter func196,ntmps196;go_wp2_with fail;refine(H7 _).mono ?_;rintro e u ⟨rfl,l,A⟩;have Q:WQ w u:=((T4 _ w).alloc WN _).trans (l.mono (by simp));have M:u.heap[K (E w)]?=S (D #[H ⟨#[]⟩,Z Y 0,.nilFunc] 152):=(l.block _ (by simp)).trans (T9 w _);rw[Uv] at A;clear l;go_wp2_with fail;have B:K (E w)<K (E u):=(Ug.1 M).1;have R:K (E w)+1<K (E u):=(Ug.1 A).1
 go_loopw [8] (λi wr=>∃k:Nat,k<=3/\i=Z Y k/\WQ u wr/\Hid (∀j,j<k->Sp.ft[j]!≠s.data.toList)) (λi _=>3-(intOf i).toNat)
 case atStart=>exact⟨0,by omega,rfl,T4 _ _,λj C=>absurd C (by omega)⟩
 case round =>
  obtain⟨k,hk,rfl,y,p⟩:=hrel;have F:=Q.trans (y.mono (by omega));have N:=(y.block _ B).trans M;have T:=(y.block _ R).trans A;by_cases G:k<3
  .obtain⟨x0,x1,x2⟩:=Dp T k G;have aa:(0:Int)<=(k:Int):=UF _;have ab:(k:Int)<(3:Int):=by omega
   obtain⟨m,P⟩:∃m,Hid (m=qO k):=⟨_,rfl⟩
   obtain⟨I,o⟩:∃I,Hid (I=oU k):=⟨_,rfl⟩
   obtain⟨L,HF⟩:∃L,Hid (Value.func (.func L) #[] #[]=pQ k):=⟨_,rfl⟩
   rw[<-cS P] at x0;rw[<-cS o] at x1;rw[<-cS HF] at x2;have r:K (E w)<K (E wr):=Ux B y.size;have h5:(wr.alloc (D #[H m,Z Y I,.func (.func L) #[] #[]] 152)).heap[K (E w)]?=_:=(((T4 (K (E wr)) wr).alloc WN (D #[H m,Z Y I,.func (.func L) #[] #[]] 152)).block _ r).trans N;have V:=F.alloc (UT r) (D #[H m,Z Y I,.func (.func L) #[] #[]] 152);obtain⟨W,X,q,b⟩:=DM h5;have f0:=b 0;have f1:=b 1;have f2:=b 2;clear b M A N T h5;by_cases z:Sp.ft[k]! = s.data.toList
   .have t:=cT z;have g:(m.toList == s.toList)=W8:=by
     rw[cS P,FJ s];exact pq z
    clear z;clear r;go_wp2;refine T8 (v := WX #[Ka k,WW W8]) ?_ O ⟨((V.setCell WN _).setCell WN _).setCell WN _,Xa ⟨k,G,cS t,O⟩⟩;simp[results,results196,go_sem,Ka,W,X,q,<-cS P,<-cS o,<-cS HF]
   .have t:=cT z;have g:(m.toList == s.toList)=W9:=by
     rw[cS P,FJ s];exact pt z
    clear z;go_wp2;go_roundw
    case rel=>exact⟨k+1,by omega,by go_num,y.alloc y.size _,λj C=>if h:j=k then h ▸ cS t else cS p j (by omega)⟩
    case measure=>simp[intOf];omega
  .obtain rfl:k=3:=by omega
   obtain⟨W,X,q,b⟩:=DM N;have f0:=b 0;have f1:=b 1;have f2:=b 2;clear b M A N T;go_wp2;refine T8 (v := WX #[EE,WW W9]) ?_ O ⟨((F.setCell WN _).setCell WN _).setCell WN _,Xb ⟨?_,O⟩⟩
   .simp[results,results196,go_sem,EE,W,X,q]
   .intro hm;obtain⟨j,C,e⟩:=UP.1 hm;refine cS p j C ?_;rw[getElem!_pos Sp.ft j C];exact e
end
end Go.Proofs.YtgkkdpegcieakaaGreatDoor
