import Derived.Test.YtgkkdpegcieakaaGreatDoorCv07
set_option linter.all false
set_option maxRecDepth 100000
set_option maxHeartbeats 0
namespace Go.Proofs.YtgkkdpegcieakaaGreatDoor
open Go.Proofs.Tryz
open Value renaming int→Z,slice→J,string→H,pointer→V9,bool→Wa,tuple→Wb,agg→Wc
open Ending renaming returned→Wd
open Obj renaming cells→D
open Option renaming none→U,some→S
open Bool renaming true→We,false→Wg
open Or renaming inl→Wh,inr→Wi
open List renaming length→Wn
open _root_.Array renaming size→N
open World renaming cell?→Wj,heap→E
open IntKind renaming i64→Y
open Go renaming World→V5,Value→V6,Calls→V7
open Go.RowKit
section
def flat:List Nat->List V6
 |[]=>[]
 |h::r=>Z Y 1::Z Y h::flat r
theorem Cd(b:List Nat):(flat b).length=Wn b*2:=by
 induction b with
 |nil=>rfl
 |cons h r e=>simp only[flat,Tr,e];omega
theorem Co(a b:List Nat):flat (a++b)=flat a++flat b:=by
 induction a with
 |nil=>rfl
 |cons h r e=>simp[flat,e]
def m5(w:V5)(M:Nat)(b:V6)(j e h:Nat)(l:List Nat):Prop :=
 ∃x,jX w M b j e h x/\w.ownsRow (M+1) 313 2 x (Wn l) (flat l)
def Al(o:Option (Nat × List Nat))(M l b:Nat)(j:V6)(u:TypeId)(p:V6)(w:V5)(e:Ending)(w':V5):Prop:=Below M w w'/\match o with
  |some (h,m)=>e=Wd (Wb #[])/\m5 w' M j l b h m
  |none=>e=.panicked [{ v := .iface u p,recovered:=false }]
def ur(F:Nat)(x:List UInt8):Prop := ∀(M e b h:Nat) (code:V6) (j:List Nat) (u:TypeId) (p:V6) (w:V5),m5 w M code e b h j->uH M h u p w->Wn j<=10000->(x=[93]->j≠[])->
 V7 prog F #[V9 (S ⟨M,0,U⟩)] w (Al (Sp.dst x h j) M e b code u p w)
variable {x:List UInt8}
theorem xl(h1:x≠[91])(h2:x≠[93]){n m:Nat}(ht:Sp.tk We x=S (n,m)){M r b h:Nat}{j l:V6}{y:List Nat}{u:TypeId}{p:V6}{w w':V5}{e:Ending}(B:w.ownsRow (M+1) 313 2 l (Wn y) (flat y))(C:CU n m M r b h j l u p w e w'):Al (Sp.dst x h y) M r b j u p w e w':=by
 obtain⟨A,F⟩:=C;refine⟨A.below,?_⟩;unfold Sp.dst;rw[Tf h1,Tf h2,ht];simp only;rcases F with ⟨z,G,rfl,I⟩|⟨z,rfl⟩
 .rw[Tg ⟨z,G⟩];exact⟨O,l,I,A.own B⟩
 .rw[Tf z]
theorem dV{F n m:Nat}(hF:lA F n m)(h1:x≠[91])(h2:x≠[93])(ht:Sp.tk We x=S (n,m)): ur F x:=by
 intro M r b h j B u p w hd y C G;obtain⟨l,hd,z⟩:=hd;exact(hF M r b h j l u p w hd y).mono λe I A=>xl h1 h2 ht z A
theorem Qa:ur 190 [91]:=by
 intro M m b h j r u p w hd C F L;obtain⟨l,hd,G⟩:=hd;cases h with
 |zero =>
  refine(Fi _ M w (DQ M m b j l w hd u p C.he) (λe y z=>Wi ⟨_,z.1⟩)).mono ?_;rintro e y ⟨rfl,rfl⟩;exact⟨Th _ _,O⟩
 |succ h =>
  refine(Fi _ M w (IY M m b h (Wn r) j l (flat r) w hd C.hh F G) (λe y z=>Wh z.1)).mono ?_;rintro e y ⟨rfl,I,A,B,K⟩;refine⟨K,O,I,A,?_⟩;rw[Co,show (r++[h+1-1]).length=Wn r+1 by simp];exact B
theorem Pf:ur 192 [93]:=by
 intro M z r h y b u p w hd B P L;obtain⟨l,hd,A⟩:=hd;obtain⟨b,m,rfl⟩:∃a m,b=a++[m]:=⟨b.dropLast,b.getLast (L rfl),(List.dropLast_concat_getLast (L rfl)).symm⟩
 rw[Co] at A;simp only[TT,Tr,UB] at A P;have Q:∃g j,l=J (S ⟨g,0,U⟩) (Wn b+1) j:=by
  rcases A.2 with ⟨X,k⟩|⟨g,j,R,B,_⟩
  .omega
  .exact⟨g,j,B⟩
 obtain⟨g,j,rfl⟩:=Q;have T:Sp.dst [93] h (b++[m])=if h=m then S (h,b) else U:=by
  unfold Sp.dst;rw[Tf (by decide),Tg rfl];simp only[VO,VP,Option.some_or,VQ]
 rw[T];by_cases C:h=m
 .subst C;rw[Tg rfl];refine(ER _ M w (Py M z r h (Wn b) g j y (flat b) w hd (by omega) A (Cd b)) (λe F G=>Wh G.1)).mono ?_;rintro e F ⟨rfl,I,K,V⟩;exact⟨V,O,_,I,K⟩
 .rw[Tf C];refine(ER _ M w (Mt M z r h m (Wn b) g j y (flat b) w hd (by omega) A (Cd b) C u p B.he) (λe F G=>Wi ⟨_,G.1⟩)).mono ?_;rintro e F ⟨rfl,W⟩;exact⟨W.mono (Ub hd.lt),O⟩
theorem Kv:(k:Nat)->k<25->ur (Rz[k]!) (Sp.yP[k]!)
 |0,_=>dV do_1 (by decide) (by decide) (by decide)
 |1,_=>dV Ss (by decide) (by decide) (by decide)
 |2,_=>dV SM (by decide) (by decide) (by decide)
 |3,_=>dV Sq (by decide) (by decide) (by decide)
 |4,_=>dV SF (by decide) (by decide) (by decide)
 |5,_=>dV SC (by decide) (by decide) (by decide)
 |6,_=>dV SP (by decide) (by decide) (by decide)
 |7,_=>dV Sx (by decide) (by decide) (by decide)
 |8,_=>dV SD (by decide) (by decide) (by decide)
 |9,_=>dV RW (by decide) (by decide) (by decide)
 |10,_=>dV QU (by decide) (by decide) (by decide)
 |11,_=>dV Re (by decide) (by decide) (by decide)
 |12,_=>dV Rb (by decide) (by decide) (by decide)
 |13,_=>dV QS (by decide) (by decide) (by decide)
 |14,_=>dV QA (by decide) (by decide) (by decide)
 |15,_=>dV QI (by decide) (by decide) (by decide)
 |16,_=>dV RT (by decide) (by decide) (by decide)
 |17,_=>dV QT (by decide) (by decide) (by decide)
 |18,_=>dV RA (by decide) (by decide) (by decide)
 |19,_=>dV RR (by decide) (by decide) (by decide)
 |20,_=>dV QC (by decide) (by decide) (by decide)
 |21,_=>dV RI (by decide) (by decide) (by decide)
 |22,_=>dV RU (by decide) (by decide) (by decide)
 |23,_=>Qa
 |24,_=>Pf
 |n+25,h=>absurd h (by omega)
theorem IE{n:Int}(r:Sp.number x=S n)(B M m b h:Nat)(j:V6)(y:List Nat)(u:TypeId)(p:V6)(w:V5)(hd:m5 w M j m b h y)(z:uH M h u p w)(A:w.cell? ⟨B,0,U⟩=S (Z Y n)):V7 prog 242 #[V9 (S ⟨M,0,U⟩),V9 (S ⟨B,0,U⟩)] w (Al (Sp.dst x h y) M m b j u p w):=by
 obtain⟨l,hd,C⟩:=hd;have F:x≠[91]:=by rintro rfl;rw[show Sp.number [91]=U by decide] at r;cases r
 have G:x≠[93]:=by rintro rfl;rw[show Sp.number [93]=U by decide] at r;cases r
 exact(On B n M m b h j l u p w hd z A).mono λe K I=>xl F G (Sp.zS r) C I
end
section
variable {M fuel h at':Nat}{w:V5}{code:V6}
theorem jX.LD{b:V6}(hd:jX w M code at' fuel h b)(a:Nat): jX (w.setCell ⟨M,1,U⟩ (Z Y a)) M code a fuel h b:=by
 obtain⟨l,m,r,u,y,z,A,B,C⟩:=hd;refine⟨?_,?_,?_,λj e=>?_,λj e=>?_,?_,?_,?_,λj=>?_⟩
 .rw[cW (by omega)];exact l
 .exact T0 _ _ _ m
 .rw[cW (by omega)];exact r
 .rw[cW (by omega)];exact u j e
 .rw[cW (by omega)];exact y j e
 .rw[cW (by omega)];exact z
 .rw[cW (by omega)];exact A
 .rw[cW (by omega)];exact B
 .rw[TX];exact C j
theorem jX.Pt{b:V6}(hd:jX w M code at' fuel h b)(a:Nat): jX (w.setCell ⟨M,2,U⟩ (Z Y a)) M code at' a h b:=by
 obtain⟨l,m,r,u,y,z,A,B,C⟩:=hd;refine⟨?_,?_,?_,λj e=>?_,λj e=>?_,?_,?_,?_,λj=>?_⟩
 .rw[cW (by omega)];exact l
 .rw[cW (by omega)];exact m
 .exact T0 _ _ _ r
 .rw[cW (by omega)];exact u j e
 .rw[cW (by omega)];exact y j e
 .rw[cW (by omega)];exact z
 .rw[cW (by omega)];exact A
 .rw[cW (by omega)];exact B
 .rw[TX];exact C j
variable {ls:List Nat}
theorem m5.LD(hd:m5 w M code at' fuel h ls)(a:Nat): m5 (w.setCell ⟨M,1,U⟩ (Z Y a)) M code a fuel h ls:=by
 obtain⟨x,b,e⟩:=hd;exact⟨x,b.LD a,((eD.refl M w).set _ _).own e⟩
theorem m5.Pt(hd:m5 w M code at' fuel h ls)(a:Nat): m5 (w.setCell ⟨M,2,U⟩ (Z Y a)) M code at' a h ls:=by
 obtain⟨x,b,e⟩:=hd;exact⟨x,b.Pt a,((eD.refl M w).set _ _).own e⟩
theorem m5.drewN(hd:m5 w M code at' fuel h ls)(k:Nat): m5 (w.drewN k) M code at' fuel h ls:=by
 obtain⟨x,e,l⟩:=hd;have b:=below_drewN w k;exact⟨x,e.far (λj=>b.cell (p:=⟨M,j,U⟩) e.lt) (λj=>b.frozen (p:=⟨M,j,U⟩) e.lt),de l b⟩
theorem m5.drew(hd:m5 w M code at' fuel h ls): m5 w.drew M code at' fuel h ls:=by
 obtain⟨x,b,e⟩:=hd;exact⟨x,b.drew,e.drew⟩
abbrev iI(M:Nat)(w w':V5):Prop:=Below M w w'
theorem iI.set{w':V5}(h:iI M w w')(j:Nat)(v:V6): iI M w (w'.setCell ⟨M,j,U⟩ v):=Below.setCell h (p:=⟨M,j,U⟩) V2 v
theorem ji{w':V5}(h:iI M w w'){b j:Nat}(hb:b<M): w'.cell? ⟨b,j,U⟩=w.cell? ⟨b,j,U⟩:=Below.cell h (p:=⟨b,j,U⟩) hb
def Fn(w:V5)(M:Nat)(x:List UInt8)(b:V6):Prop:=(∃B n,B<M/\b=.func (.func 242) #[] #[V9 (S ⟨B,0,U⟩)]/\kd w B n/\Sp.number x=S n)\/(∃k,k<25/\x=Sp.yP[k]!/\b=oB k)
def Fx(w:V5)(M g:Nat)(L:List (List UInt8)):Prop:=g<M/\∀i (hi:i<Wn L),∃b,w.cell? ⟨g,i*2,U⟩=S b/\Fn w M L[i] b
def NK(o:Option (Nat × List Nat))(M:Nat)(code:V6)(u:TypeId)(p:V6)(w:V5)(e:Ending)(w':V5):Prop:=iI M w w'/\match o with
  |some (h,ls)=>e=Wd (Wb #[])/\∃a f,m5 w' M code a f h ls
  |none=>e=.panicked [{ v := .iface u p,recovered:=false }]
def Sk(M:Nat)(w:V5):Nat:=match w.cell? ⟨M,1,U⟩ with
 |some v=>(intOf v).toNat
 |none=>0
theorem Lv{n:Int}(h:w.cell? ⟨M,1,U⟩=S (Z Y n)): Sk M w=n.toNat:=by
 unfold Sk;rw[h];rfl
variable {x:List UInt8}
theorem KM{j:Nat}{b:List Nat}(l:h<=16)(e:Sp.dst x h ls=S (j,b)): j<=16:=by
 unfold Sp.dst at e;split at e
 .split at e
  .cases e
  .injection e with e;injection e with e1 e2;omega
 .split at e
  .split at e
   .split at e
    .injection e with e;injection e with e1 e2;omega
    .cases e
   .cases e
  .split at e
   .cases e
   .split at e
    .injection e with e;injection e with e1 e2;omega
    .cases e
theorem Fq{r:Nat}{b:List Nat}(u:x=[93]->ls≠[])(e:Sp.dst x h ls=S (r,b)): (Wn b:Int)=Wn ls+Sp.ds x:=by
 unfold Sp.dst at e;split at e
 .rename_i c;subst c;split at e
  .cases e
  .injection e with e;injection e with e1 e2;subst e2;simp[Sp.ds]
 .split at e
  .rename_i m j;subst j;have l:=u O;have y:0<Wn ls:=List.length_pos_iff.2 l;split at e
   .split at e
    .injection e with e;injection e with e1 e2;subst e2;simp[Sp.ds];omega
    .cases e
   .cases e
  .rename_i m j;rw[Sp.nS m j];split at e
   .cases e
   .split at e
    .injection e with e;injection e with e1 e2;subst e2;omega
    .cases e
theorem jB{G:Prop}(P:Program)(w:V5)(h:G):wpAny P .text #[] (λ_ _ _=>True) 0 #[] { tmps := #[],defers:=[] } w->G:=λ_=>h
theorem da{P : Program}{f : FuncId}{fn : Func}(l : P.funcs[f]?=S fn)(m : (fn.name == "runtime.NumGoroutine")=Wg)(hb : fn.body.isNone=Wg)(args : Array V6)(w : V5): (callFunc f args).run P w=.ok (.enter f args) w := by
 unfold callFunc;have b : ¬fn.name = "runtime.NumGoroutine" := by simpa using m
 have j:¬fn.body=U:=by intro e;rw[e] at hb;cases hb
 simp[go_sem,l,b,j,hb]
theorem B2:(k:Nat)->k<25->∀(args:Array V6) (w:V5),(callFunc (Rz[k]!) args).run prog w=.ok (.enter (Rz[k]!) args) w
 |0,_=>da func161 (by kernel_rfl) (by kernel_rfl)
 |1,_=>da func163 (by kernel_rfl) (by kernel_rfl)
 |2,_=>da func164 (by kernel_rfl) (by kernel_rfl)
 |3,_=>da func165 (by kernel_rfl) (by kernel_rfl)
 |4,_=>da func166 (by kernel_rfl) (by kernel_rfl)
 |5,_=>da func167 (by kernel_rfl) (by kernel_rfl)
 |6,_=>da func168 (by kernel_rfl) (by kernel_rfl)
 |7,_=>da func169 (by kernel_rfl) (by kernel_rfl)
 |8,_=>da func170 (by kernel_rfl) (by kernel_rfl)
 |9,_=>da func171 (by kernel_rfl) (by kernel_rfl)
 |10,_=>da func173 (by kernel_rfl) (by kernel_rfl)
 |11,_=>da func174 (by kernel_rfl) (by kernel_rfl)
 |12,_=>da func175 (by kernel_rfl) (by kernel_rfl)
 |13,_=>da func177 (by kernel_rfl) (by kernel_rfl)
 |14,_=>da func178 (by kernel_rfl) (by kernel_rfl)
 |15,_=>da func180 (by kernel_rfl) (by kernel_rfl)
 |16,_=>da func181 (by kernel_rfl) (by kernel_rfl)
 |17,_=>da func182 (by kernel_rfl) (by kernel_rfl)
 |18,_=>da func183 (by kernel_rfl) (by kernel_rfl)
 |19,_=>da func185 (by kernel_rfl) (by kernel_rfl)
 |20,_=>da func186 (by kernel_rfl) (by kernel_rfl)
 |21,_=>da func187 (by kernel_rfl) (by kernel_rfl)
 |22,_=>da func188 (by kernel_rfl) (by kernel_rfl)
 |23,_=>da func190 (by kernel_rfl) (by kernel_rfl)
 |24,_=>da func192 (by kernel_rfl) (by kernel_rfl)
 |n+25,h=>absurd h (by omega)
theorem Fn.enter{F:Nat}{b:Array V6}(h:Fn w M x (.func (.func F) #[] b))(args:Array V6)(W:V5): (callFunc F args).run prog W=.ok (.enter F args) W:=by
 rcases h with ⟨B,n,_,e,_⟩|⟨k,j,_,e⟩
 .injection e with e1 e2 e3;injection e1 with e1;subst e1;exact da func242 (by kernel_rfl) (by kernel_rfl) args W
 .unfold oB at e;injection e with e1 e2 e3;injection e1 with e1;subst e1;exact B2 k j args W
theorem Fn.calls{F:Nat}{b:Array V6}(h:Fn w M x (.func (.func F) #[] b)){j:Nat}{u:TypeId}{p:V6}{W:V5}(z:iI M w W)(hd:m5 W M code at' fuel j ls)(y:uH M j u p W)(A:Wn ls<=10000)(C:x=[93]->ls≠[]):V7 prog F (#[V9 (S ⟨M,0,U⟩)]++b) W (Al (Sp.dst x j ls) M at' fuel code u p W):=by
 rcases h with ⟨B,n,G,e,I,l⟩|⟨k,m,r,e⟩
 .injection e with e1 e2 e3;injection e1 with e1;subst e1 e3;exact IE l B M at' fuel j code ls u p W hd y ((ji z G).trans I.cell)
 .unfold oB at e;injection e with e1 e2 e3;injection e1 with e1;subst e1 e3 r;exact Kv k m M at' fuel j code ls u p W hd y A C
structure Cz (L:List (List UInt8)) (M:Nat) (code:V6) (w wr:V5) (i h:Nat) (ls:List Nat):Prop where
 le:i<=Wn L
 Sl:m5 wr M code i (Wn L-i) h ls
 run:Sp.fe L 0 []=Sp.fe (L.drop i) h ls
 fm:Sp.kI We (L.drop i) (Wn ls)=We
 len:Wn ls<=i
 hh:h<=16
 kept:iI M w wr
theorem MT(L:List (List UInt8))(M g cap:Nat)(u:TypeId)(p:V6)(w:V5)(hl:Wn L<=4000)(hd:m5 w M (J (S ⟨g,0,U⟩) (Wn L) cap) 0 (Wn L) 0 [])(hr:Hid (Fx w M g L))(hf:Hid (Sp.kI We L 0=We))(hM:5<M)(he:w.cell? ⟨5,0,U⟩=S (.iface u p)):V7 prog 113 #[V9 (S ⟨M,0,U⟩)] w (NK (Sp.fe L 0 []) M (J (S ⟨g,0,U⟩) (Wn L) cap) u p w):=by
 generalize o:NK (Sp.fe L 0 []) M (J (S ⟨g,0,U⟩) (Wn L) cap) u p w=b;replace o:=cU o;have HE:=cU he;clear he;go_enter func113,ntmps113;go_wp2_with fail
 go_loopw [] (λwr=>∃(i h:Nat) (ls:List Nat),Hid (Cz L M (J (S ⟨g,0,U⟩) (Wn L) cap) w wr i h ls)) (λwr=>Wn L-Sk M wr)
 case atStart=>exact⟨0,0,[],⟨Tp _,hd,rfl,cT hf,Te _,by omega,Th _ _⟩⟩
 case round =>
  obtain⟨i,h,ls,P⟩:=hrel;have hi:=(cT P).le;obtain⟨x,T,I⟩:=(cT P).Sl;have aj:=cU I;have e0:=T.c0;have e1:=T.c1;have e2:=T.c2;have f2:=T.fz 2;have V:=cU T;clear T I hd;have g0:(0:Int)<=(i:Int):=TS _;by_cases c:i<Wn L
  .have c1:(i:Int)<(Wn L:Int):=by omega
   obtain⟨q,hq,HQ⟩:∃q,Wn L-i=q+1/\Hid (Wn L-i=q+1):=⟨Wn L-i-1,by omega,cU (by omega)⟩
   rw[hq] at e2;have c2:((((q+1:Nat)):Int) == 0)=Wg:=Tt.2 (by omega);have c3:((q+1:Nat):Int)-1=(q:Int):=by omega
   have c4:q<=4000:=by omega
   obtain⟨fv,W,C⟩:=(cT hr).2 i c;have aa:=(cT hr).1;have e3:wr.cell? ⟨g,i*2,U⟩=S fv:=(ji (cT P).kept aa).trans W;have an:M≠g:=by omega
   clear hq;obtain⟨F,y,rfl⟩:∃F y,fv=.func (.func F) #[] y:=by
    rcases C with ⟨B,n,_,rfl,_⟩|⟨k,_,_,rfl⟩
    .exact⟨_,_,O⟩
    .exact⟨_,_,O⟩
   have ab:=cU C;have ao:=C.enter;clear C W;have HC:Hid (∀k,V7 prog F (#[V9 (S ⟨M,0,U⟩)]++y) (((wr.drewN k).setCell ⟨M,2,U⟩ (Z Y (q:Int))).drew) (Al (Sp.dst L[i] h ls) M i q (J (S ⟨g,0,U⟩) (Wn L) cap) u p (((wr.drewN k).setCell ⟨M,2,U⟩ (Z Y (q:Int))).drew))):=by
    show ∀k,_
    intro k;have l:=cT P;have r:=below_drewN wr k;have ad:m5 (wr.drewN k) M (J (S ⟨g,0,U⟩) (Wn L) cap) i (Wn L-i) h ls:=l.Sl.drewN k;have z:=l.fm;rw[TW c] at z;refine(cT ab).calls (iI.set (l.kept.trans (r.mono (Ub (cT V).lt))) _ _).drew ((ad.Pt q).drew) ⟨by omega,?_,l.hh⟩ (by have:=l.len;omega) ?_
    .rw[<-cT HE];exact ji ((iI.set (l.kept.trans (r.mono (Ub (cT V).lt))) _ _).drew) hM
    .intro Q he;obtain⟨_,X,_⟩:=Sp.kR z;rw[Q,he,show Sp.ds [93] = -1 by decide] at X;simp at X
   have ae:Hid (∀A j,Sp.dst L[i] h ls=S (A,j)->Sp.fe (L.drop i) h ls=Sp.fe (L.drop (i+1)) A j):=by
    show ∀A j,_
    intro A j e;rw[TW c,Sp.fe,e]
   have af:Hid (Sp.dst L[i] h ls=U->Sp.fe (L.drop i) h ls=U):=by
    show _->_
    intro e;rw[TW c,Sp.fe,e]
   cases K:Sp.dst L[i] h ls with
   |none =>
    rw[K] at HC;have HP:Hid (∀k m,iI M (((wr.drewN k).setCell ⟨M,2,U⟩ (Z Y (q:Int))).drew) m->b (.panicked [{ v := .iface u p,recovered:=false }]) m):=by
     show ∀k m,_
     intro k m hk;have l:=cT P;have r:=below_drewN wr k;rw[<-cT o,l.run,cT af K];exact⟨((iI.set (l.kept.trans (r.mono (Ub (cT V).lt))) _ _).drew).trans hk,O⟩
    clear K;go_wp2_with fail
    go_quiet (fail)
    go_wp2_with fail
    go_region_with (refine(cT HC _).mono ?_;rintro e m ⟨G,rfl⟩;refine jB prog m ⟨O,cT HP _ m G⟩ ?_)
    all_goals trivial
   |some ag =>
    obtain⟨A,j⟩:=ag;rw[K] at HC;have HN:Hid (∀k m,iI M (((wr.drewN k).setCell ⟨M,2,U⟩ (Z Y (q:Int))).drew) m->m5 m M (J (S ⟨g,0,U⟩) (Wn L) cap) i q A j->Cz L M (J (S ⟨g,0,U⟩) (Wn L) cap) w (m.setCell ⟨M,1,U⟩ (Z Y ((i+1:Nat):Int))) (i+1) A j):=by
     show ∀k m,_
     intro k m hk hd;have l:=cT P;have r:=below_drewN wr k;have hQ:=cT HQ;have z:=l.fm;rw[TW c] at z;obtain⟨_,X,h3⟩:=Sp.kR z;have t:L[i]=[93]->ls≠[]:=by
      intro Q he;rw[Q,he,show Sp.ds [93] = -1 by decide] at X;simp at X
     have ah:=Fq t K;have aq:=Sp.Cn L[i];have ak:=l.len;refine⟨by omega,?_,l.run.trans (cT ae A j K),by rw[ah];exact h3,by omega,KM l.hh K,iI.set (((iI.set (l.kept.trans (r.mono (Ub (cT V).lt))) _ _).drew).trans hk) _ _⟩;rw[show (Wn L)-(i+1)=q by omega];exact hd.LD (i+1)
    clear K;go_wp2_with fail
    go_quiet (fail)
    go_wp2_with fail
    go_region_with (refine(cT HC _).mono ?_;rintro e m ⟨G,rfl,s⟩)
    all_goals
     have ai:Hid (Cz L M (J (S ⟨g,0,U⟩) (Wn L) cap) w (m.setCell ⟨M,1,U⟩ (Z Y ((i+1:Nat):Int))) (i+1) A j):=cT HN _ m G s;obtain⟨x1,R,_⟩:=s;have j1:=R.c1;have j2:=R.fz 1;have j3:wrap64 ((i:Int)+1)=((i+1:Nat):Int):=by unfold wrap64;omega
     clear R G;go_wp2;go_roundw
     case rel=>exact⟨i+1,A,j,ai⟩
     case measure =>
      have a1:=Lv e1;have a2:=Lv (T0 m ⟨M,1,U⟩ (Z Y ((i:Int)+1)) j1);rw[a1,a2];omega
  .have c1:¬(i:Int)<(Wn L:Int):=by omega
   have ei:i=Wn L:=by omega
   go_wp2_with fail
   go_quiet (fail)
   go_wp2;refine Tm (Tl O _ _ _) O ?_;have l:=cT P;rw[<-cT o,l.run,ei,UP V2];exact⟨l.kept.trans ((below_drewN wr nq).mono (Ub (cT V).lt)),O,_,_,l.Sl.drewN nq⟩
end
section
namespace Sp
def fD(x:List UInt8)(i:Nat)(e b:List Nat):Option (List Nat × List Nat):=if x=[91] then S (e++[0],b++[i])
 else if x=[93] then (match b.getLast? with | some l=>S (((e++[0]).set i l).set l i,b.dropLast) | none=>U)
 else S (e++[0],b)
def fC(L:List (List UInt8)):Nat->Option (List Nat × List Nat)
 |0=>S ([],[])
 |i+1=>match fC L i with
  |none=>U
  |some (ms,op)=>fD (L.getD i []) i ms op
theorem uq{x:List UInt8}{i:Nat}{y r b e:List Nat}(h:fD x i y r=S (b,e)):Wn b=Wn y+1/\(Wn e:Int)=Wn r+ds x:=by
 unfold fD at h;split at h
 .rename_i c;subst c;injection h with h;injection h with j m;subst j m;simp[ds]
 .split at h
  .rename_i z u;subst u;split at h
   .rename_i l A;injection h with h;injection h with j m;subst j m;have:r≠[]:=by rintro rfl;cases A
    have:=List.length_pos_iff.2 this;simp[ds];omega
   .cases h
  .rename_i z u;injection h with h;injection h with j m;subst j m;rw[nS z u];simp
end Sp
def cz:List V6->List Nat->List V6
 |f::fs,m::ms=>f::Z Y m::cz fs ms
 |_,_=>[]
theorem PS:∀(j:List V6) (e:List Nat) (f:V6) (m:Nat),Wn j=Wn e->cz (j++[f]) (e++[m])=cz j e++[f,Z Y m]:=by
 intro j
 induction j with
 |nil=>intro e f m h;cases e with
  |nil=>rfl
  |cons a b=>cases h
 |cons r j l =>
  intro e f m h;cases e with
  |nil=>cases h
  |cons u e=>simp only[TZ,cz];rw[l e f m (by simpa using h)]
theorem I5:∀(l:List V6) (e:List Nat) (j m:Nat),Wn l=Wn e->(cz l e).set (j*2+1) (Z Y m)=cz l (e.set j m):=by
 intro l
 induction l with
 |nil=>intro e j m h;cases e with
  |nil=>rfl
  |cons a b=>cases h
 |cons f l r =>
  intro e j m h;cases e with
  |nil=>cases h
  |cons u e =>
   cases j with
   |zero=>simp[cz]
   |succ j =>
    rw[show (j+1)*2+1=(j*2+1)+1+1 by omega];simp only[cz,List.set_cons_succ];rw[r e j m (by simpa using h)]
theorem Q7:∀(e:List V6) (b:List Nat) (j:Nat),Wn e=Wn b->(cz e b)[j*2]?=e[j]?:=by
 intro e
 induction e with
 |nil=>intro b j h;cases b <;> simp[cz]
 |cons f e l =>
  intro b j h;cases b with
  |nil=>cases h
  |cons m b =>
   cases j with
   |zero=>simp[cz]
   |succ j =>
    rw[show (j+1)*2=(j*2)+1+1 by omega];simp only[cz,List.getElem?_cons_succ];exact l b j (by simpa using h)
theorem MX:∀(l:List V6) (e:List Nat) (j:Nat),Wn l=Wn e->(cz l e)[j*2+1]?=(e[j]?).map (λm=>Z Y m):=by
 intro l
 induction l with
 |nil=>intro e j h;cases e with
  |nil=>simp[cz]
  |cons a b=>cases h
 |cons f l r =>
  intro e j h;cases e with
  |nil=>cases h
  |cons m e =>
   cases j with
   |zero=>simp[cz]
   |succ j =>
    rw[show (j+1)*2+1=(j*2+1)+1+1 by omega];simp only[cz,List.getElem?_cons_succ];exact r e j (by simpa using h)
def M5(x:List UInt8)(w:V5)(e:Ending)(w':V5):Prop:=V4 w w'/\((∃(j:V8) (nw:Bool) (F:Nat) (b:Array V6),e=Wd (Wb #[Wc #[H j,Wa nw,.func (.func F) #[] b],Wa We])/\Fn w' (N (E w')) x (.func (.func F) #[] b)/\Sp.tk We x≠U/\(nw=We->Sp.tk Wg x=U)/\(nw=Wg->Sp.tk Wg x≠U))\/(Sp.tk We x=U/\Sp.tk Wg x=U/\e=Wd (Wb #[wD,Wa Wg])))
theorem zE(s:V8)(b:Nat)(w:V5)(y:s.size<=4000)(C:gY b w):V7 prog 224 #[H s,J (S ⟨b,0,U⟩) 25 25] w (M5 s.data.toList w):=by
 cases j:Sp.number s.data.toList with
 |some n =>
  refine(yr s _ w y n j).mono ?_;rintro e z ⟨B,G,A,rfl,m⟩;have F:B<N (E z):=(Ts.1 A).1;refine⟨m,Wh ⟨_,_,_,_,O,Wh ⟨B,n,F,O,A,j⟩,?_,?_,?_⟩⟩
  .rw[Sp.zS j];intro e;cases e
  .intro e;cases e
  .intro _;rw[Sp.zS j];intro e;cases e
 |none =>
  refine(wS s b w y C j).mono ?_;rintro e z ⟨m,⟨k,r,l,rfl⟩|⟨l,rfl⟩⟩
  .refine⟨m,Wh ⟨_,_,_,_,O,Wi ⟨k,r,l.symm,O⟩,?_,?_,?_⟩⟩
   .rw[<-l,Sp.Eo k r];intro e;cases e
   .intro u;rw[<-l,Sp.zZ k r];rw[Tg (by simpa [sq] using u)]
   .intro u;rw[<-l,Sp.zZ k r];rw[Tf (by simpa [sq] using u)];intro e;cases e
  .exact⟨m,Wi ⟨Sp.Fc j l,Sp.Fc j l,O⟩⟩
end
section
theorem info_order:(prog.info? 289).map (λi=>(i.zero,i.size,i.bytes))=S (S (Wc #[.nilFunc,Z Y 0]),2,16):=by kernel_rfl
def iz(l:List Nat):List V6:=l.map λ(n:Nat)=>Z Y (n:Int)
def Ij(wt:Bool)(L:List (List UInt8))(w:V5)(e:Ending)(w':V5):Prop:=V4 w w'/\((Sp.kI wt L 0=We/\∃g b fs ms,e=Wd (Wb #[J (S ⟨g,0,U⟩) (Wn L) b,Wa We])/\(N (E w))<=g/\w'.ownsRow (N (E w)) 289 2 (J (S ⟨g,0,U⟩) (Wn L) b) (Wn L) (cz fs ms)/\(Wn fs)=Wn L/\Sp.fC L (Wn L)=S (ms,[])/\∀j (l:j<Wn L),Fn w' (N (E w')) L[j] (fs.getD j .nilFunc))\/(Sp.kI wt L 0=Wg/\∃p n b,e=Wd (Wb #[J p n b,Wa Wg])))
structure tF (wt:Bool) (L:List (List UInt8)) (w wr:V5) (i:Nat) (c o:V6) (fs:List V6) (ms op:List Nat):Prop where
 le:i<=Wn L
 below:V4 w wr
 row:wr.ownsRow (N (E w)) 289 2 c i (cz fs ms)
 ops:wr.ownsRow (N (E w)) 3 1 o (Wn op) (iz op)
 fl:Wn fs=i
 rd:Sp.fC L i=S (ms,op)
 fm:Sp.kI wt L 0=Sp.kI wt (L.drop i) (Wn op)
 fn:∀j (hj:j<Wn L),j<i->Fn wr (N (E wr)) L[j] (fs.getD j .nilFunc)
 ol:∀x∈op,x<i
 oi:Wn op<=i
variable {fv:V6}{w:V5}
theorem Fn.below{w':V5}{x:List UInt8}(h:Fn w (N (E w)) x fv)(hb:V4 w w'): Fn w' (N (E w')) x fv:=by
 rcases h with ⟨B,n,b,e,j,l⟩|h
 .exact Wh ⟨B,n,TI b hb.size,e,(hb.block B b).trans j,l⟩
 .exact Wi h
variable {B:Nat}
theorem Fn.grown{w':V5}{x:List UInt8}{v:V6}{e size n:Nat}{z:List V6}(h:Fn w (N (E w)) x fv)(A:w.ownsRow B e size v n z)(u:w.grownBy w' v.ownBlock)(he:e≠2): Fn w' (N (E w')) x fv:=by
 rcases h with ⟨b,m,y,C,j,F⟩|h
 .refine Wh ⟨b,m,TI y u.size,C,?_,F⟩;refine(u.block b y ?_).trans j;intro l;rcases A.2 with ⟨rfl,_⟩|⟨g,G,I,rfl,_,r,_⟩
  .simp[Value.ownBlock] at l
  .simp only[Value.ownBlock,Option.some.injEq] at l;subst l;unfold kd at j;rw[r] at j;injection j with j;injection j with _ K;exact he K
 .exact Wi h
structure EM (L:List (List UInt8)) (B:Nat) (wr:V5) (i:Nat) (c o:V6) (fs:List V6) (ms op:List Nat):Prop where
 row:wr.ownsRow B 289 2 c (i+1) (cz fs ms)
 ops:wr.ownsRow B 3 1 o (Wn op) (iz op)
 fl:Wn fs=i+1
 ml:Wn ms=i+1
 fn:∀j (hj:j<Wn L),j<i+1->Fn wr (N (E wr)) L[j] (fs.getD j .nilFunc)
variable {fs:List V6}{i:Nat}
theorem mu{v d:V6}{j:Nat}(e:Wn fs=i): (fs++[v]).getD j d=if j<i then fs.getD j d else if j=i then v else d:=by
 rw[Ty,Ty];by_cases h:j<i
 .rw[Tg h,Uf (by omega)]
 .rw[Tf h,Tx (by omega),e];by_cases b:j=i
  .subst b;simp
  .rw[Tf b,VI (by simp;omega)];rfl
variable {L:List (List UInt8)}{c c' o:V6}{wt:Bool}{op ms:List Nat}{wr w3:V5}
theorem I4{y K:V5}(b:tF wt L w wr i c o fs ms op)(hi:i<Wn L)(r:V4 wr y)(F:Fn y (N (E y)) L[i] fv)(u:V4 y K)(G:w3.ownsRow (N (E w)) 289 2 c' (i+1) (cz fs ms++[fv,Z Y 0]))(l:K.grownBy w3 c.ownBlock): EM L (N (E w)) w3 i c' o (fs++[fv]) (ms++[0]) op/\V4 w w3:=by
 have m:=r.trans (u.mono r.size);have A:=de b.row m;have M:=de b.ops m;have z:Wn ms=i:=by
  have V:=b.row.1;have:∀(k:Nat) (C I:List Nat),Sp.fC L k=S (C,I)->Wn C=k:=by
   intro k
   induction k with
   |zero=>intro C I h;simp[Sp.fC] at h;obtain⟨rfl,_⟩:=h;rfl
   |succ k P =>
    intro C I h;simp only[Sp.fC] at h;split at h
    .cases h
    .rename_i W M Q;rw[(Sp.uq h).1,P _ _ Q]
  exact this _ _ _ b.rd
 refine⟨⟨?_,jJ A M (by decide) l,by simp[b.fl],by simp[z],?_⟩,?_⟩
 .rw[PS _ _ _ _ (by rw[b.fl,z])];exact G
 .intro j R T;rw[mu b.fl];by_cases h:j<i
  .rw[Tg h];exact(((b.fn j R h).below r).below u).grown A l (by decide)
  .have e:j=i:=by omega
   subst e;rw[Tf h,Tg rfl];exact(F.below u).grown A l (by decide)
 .exact qO (ys:=[]) (v':=c') (To b.below.size m.size) A (b.below.trans (m.mono b.below.size)) l
theorem B5(b:tF wt L w wr i c o fs ms op)(hi:i<Wn L)(e:EM L (N (E w)) w3 i c' o (fs++[fv]) (ms++[0]) op)(hb:V4 w w3)(ht:Sp.tk wt L[i]≠U)(h1:L[i]≠[91])(h2:L[i]≠[93]):tF wt L w w3 (i+1) c' o (fs++[fv]) (ms++[0]) op:=by
 have hd:=Sp.nS h1 h2;refine⟨by omega,hb,e.row,e.ops,e.fl,?_,?_,λj m l=>e.fn j m l,λx r=>by have:=b.ol x r;omega,by have:=b.oi;omega⟩
 .rw[Sp.fC,b.rd];simp only;rw[Ty,Tw hi,Option.getD_some,Sp.fD,Tf h1,Tf h2]
 .rw[b.fm,TW hi,Sp.kI,Tf (by rintro(hc|hc);exact ht hc;rw[hd] at hc;omega),hd];simp
theorem EI{y:V5}{z:V6}(r:tF wt L w wr i c o fs ms op)(hi:i<Wn L)(u:EM L (N (E w)) w3 i c' o (fs++[fv]) (ms++[0]) op)(hb:V4 w w3)(h1:L[i]=[91])(A:y.ownsRow (N (E w)) 3 1 z (Wn op+1) (iz op++[Z Y i]))(l:V5)(b:V4 w3 l)(e:l.grownBy y o.ownBlock):tF wt L w y (i+1) c' z (fs++[fv]) (ms++[0]) (op++[i]):=by
 have G:=de u.row b;have C:=de u.ops b;have I:Sp.tk wt L[i]≠U:=by rw[h1];cases wt <;> decide
 have hd:Sp.ds L[i]=1:=by rw[h1];decide
 refine⟨by omega,qO (ys:=[]) (v':=z) (To hb.size b.size) C (hb.trans (b.mono hb.size)) e,jJ C G (by decide) e,?_,u.fl,?_,?_,λj K F=>((u.fn j K F).below b).grown C e (by decide),?_,by have:=r.oi;simp;omega⟩
 .rw[show (op++[i]).length=Wn op+1 by simp,show iz (op++[i])=iz op++[Z Y i] by simp[iz]];exact A
 .rw[Sp.fC,r.rd];simp only;rw[Ty,Tw hi,Option.getD_some,Sp.fD,Tg h1]
 .rw[r.fm,TW hi,Sp.kI,Tf (by rintro(hc|hc);exact I hc;rw[hd] at hc;omega),hd];simp
 .intro x m;rcases TB.1 m with m|m
  .have:=r.ol x m;omega
  .rw[TL] at m;omega
theorem Eu{l r K z A:Nat}(C:tF wt L w wr i c (J (S ⟨z,0,U⟩) (Wn op+1) A) fs ms (op++[l]))(hi:i<Wn L)(b:EM L (N (E w)) w3 i (J (S ⟨r,0,U⟩) (i+1) K) (J (S ⟨z,0,U⟩) (Wn op+1) A) (fs++[fv]) (ms++[0]) (op++[l]))(hb:V4 w w3)(h1:L[i]=[93]):tF wt L w ((w3.setCell ⟨r,i*2+1,U⟩ (Z Y l)).setCell ⟨r,l*2+1,U⟩ (Z Y i)) (i+1) (J (S ⟨r,0,U⟩) (i+1) K) (J (S ⟨z,0,U⟩) (Wn op) A) (fs++[fv]) (((ms++[0]).set i l).set l i) op:=by
 have G:L[i]≠[91]:=by rw[h1];decide
 have Q:Sp.tk wt L[i]≠U:=by rw[h1];cases wt <;> decide
 have hd:Sp.ds L[i] = -1:=by rw[h1];decide
 have u:=b.row.stored (i*2+1) (Z Y l);have F:=u.1.stored (l*2+1) (Z Y i);have m:(fs++[fv]).length=(ms++[0]).length:=by rw[b.fl,b.ml]
 rw[I5 _ _ _ _ m,I5 _ _ _ _ (by rw[U0];exact m)] at F;have R:=jJ b.row b.ops (by decide) u.2;have M:=jJ u.1 R (by decide) F.2;have y:=(b.row.lt r O).1;have T:((w3.setCell ⟨r,i*2+1,U⟩ (Z Y l)).setCell ⟨r,l*2+1,U⟩ (Z Y i)).ownsRow (N (E w)) 3 1 (J (S ⟨z,0,U⟩) (Wn op+1) A) (Wn op+1) (iz (op++[l])):=by
  have e:(op++[l]).length=Wn op+1:=by simp
  rw[e] at M;exact M
 have P:=zq T;have V:(iz (op++[l])).take (Wn op*1)=iz op:=by simp[iz]
 rw[V] at P;refine⟨by omega,(hb.setCell y _).setCell y _,F.1,P,b.fl,?_,?_,λj W I=>((b.fn j W I).grown b.row u.2 (by decide)).grown u.1 F.2 (by decide),λx X=>by have:=C.ol x (UT _ X);omega,by have:=C.oi;simp at this;omega⟩
 .rw[Sp.fC,C.rd];simp only;rw[Ty,Tw hi,Option.getD_some,Sp.fD,Tf G,Tg h1];simp
 .rw[C.fm,TW hi,Sp.kI,Tf (by rintro(hc|hc);exact Q hc;rw[hd] at hc;simp at hc;omega),hd];simp
  congr 1
  omega
theorem Ct{l:Nat}(h:w.ownsRow B 3 1 o (op++[l]).length (iz (op++[l]))): ∃g b,o=Value.slice (S ⟨g,0,U⟩) (Wn op+1) b/\w.cell? ⟨g,Wn op,U⟩=S (Z Y (l:Int))/\(Wn op)<=b:=by
 rw[show (op++[l]).length=Wn op+1 by simp] at h;rcases h.2 with ⟨_,j⟩|⟨g,b,e,rfl,_,_,m,_⟩
 .omega
 .refine⟨g,b,O,(h.cellAt (Wn op) (by omega)).trans ?_,by omega⟩;simp[iz]
theorem _root_.Go.World.ownsRow.tX{n g cap:Nat}(h:w.ownsRow B 289 2 (J (S ⟨g,0,U⟩) n cap) n (cz fs ms)){j:Nat}(e:j<n): ∃y,w.cell? ⟨g,j*2+1,U⟩=S y:=by
 have b:=h.cellAt (j*2+1) (by omega);have l:(cz fs ms).length=n*2:=h.1;exact⟨_,b.trans (Tw (by omega))⟩
theorem zD(X:List V8)(p:Option Addr)(cap b:Nat)(wt:Bool)(w:V5)(hX:NI w p X)(hl:Wn X<=4000)(h0:0<Wn X)(hz:∀x∈X,x.size<=4000)(hW:gY b w):V7 prog 195 #[J p (Wn X) cap,J (S ⟨b,0,U⟩) 25 25,Wa wt] w (Ij wt (fE X) w):=by
 obtain⟨t2,ak,ay,az,aA⟩:=TN info_order;obtain⟨t1,an,aB,aC,aD⟩:=TN info_int;have HX:=cU hX;have HZ:=cU hz;have HW:=cU hW;have au:=cU (Ee X);clear hX hz hW;generalize hO:Ij wt (fE X) w=r;replace hO:=cU hO;go_enter func195,ntmps195;go_wp2_with fail
 go_loopw [8,9,17] (λcv ov u wr=>∃(i:Nat) (fs:List V6) (ms op:List Nat),u=Z Y i/\i<=Wn X/\Hid (tF wt (fE X) w wr i cv ov fs ms op)) (λ_ _ u _=>Wn X-(intOf u).toNat)
 case atStart=>exact⟨0,[],[],[],rfl,Tp _,⟨Tp _,Th _ _,TH _ _ _ _,TH _ _ _ _,rfl,rfl,by simp,λj y aQ=>absurd aQ (by omega),λx hx=>absurd hx (by simp),Te _⟩⟩
 case round =>
  obtain⟨i,fs,ms,op,rfl,hi,I⟩:=hrel;have g0:(0:Int)<=(i:Int):=TS _;by_cases c:i<Wn X
  .have c1:(i:Int)<(Wn X:Int):=by omega
   have z:=cT I;obtain⟨g,aE,rfl,aR,ad⟩:=(cT HX) i c;have aS:wr.cell? ⟨g,aE+i,U⟩=S (H X[i]):=(z.below.cell (p:=⟨g,aE+i,U⟩) aR).trans ad;have aF:=(cT HZ) _ (Uc c);have hL:(fE X)[i]'(by rw[cT au];exact c)=X[i].data.toList:=MC c;have G:i<(fE X).length:=by rw[cT au];exact c
   generalize X[i]=x at aS aF hL;have HL:=cU hL;have aT:=(cT HW).below z.below;clear ad hL z;go_wp2_with fail;refine(zE x b wr aF aT).mono ?_;rintro e w1 ⟨P,⟨nm,nw,F,V,rfl,ae,ht,aG,aH⟩|⟨an,ak,rfl⟩⟩
   .have aI:=ae;rw[<-cT HL] at ae;by_cases W:nw=We/\wt=Wg
    .obtain⟨rfl,rfl⟩:=W;have hp:r (Wd (Wb #[J U 0 0,Wa Wg])) (w1.alloc (D #[H nm,Wa We,.func (.func F) #[] V] 275)):=by
      rw[<-cT hO];have z:=cT I;refine⟨(z.below.trans (P.mono z.below.size)).alloc (To z.below.size P.size) _,Wi ⟨?_,_,_,_,O⟩⟩;rw[z.fm,TW G,Sp.kI,Tg (Wh (by rw[cT HL];exact aG O))]
     clear P ae aI;go_wp2;exact hp
    .have aJ:Hid (Sp.tk wt (fE X)[i]≠U):=by
      show _≠_
      rw[cT HL];cases wt with
      |true=>exact ht
      |false=>exact aH (by cases nw with
       |true=>exact absurd ⟨rfl,rfl⟩ W
       |false=>rfl)
     have z:=cT I;have af:V4 w1 ((w1.alloc (D #[H nm,Wa nw,.func (.func F) #[] V] 275)).alloc (D #[.func (.func F) #[] V,Z Y 0] 289)):=((Th (N (E w1)) w1).alloc V2 _).alloc (by simp) _;have av:=P.trans (af.mono P.size);have r2:=de z.row av;have ao:=To z.below.size av.size;have aK:=cU ae;have aq:=cU P;clear ae aI P ht aG aH z av;cases nw with
     |true =>
      obtain rfl:wt=We:=by cases wt with
       |true=>rfl
       |false=>exact absurd ⟨rfl,rfl⟩ W
      clear W;go_wp2_with (first
       | (at_builtin;go_must (refine Vf _ O (.tmp 38) (.tmp 42) 149 O (N (E w)) 289 t2 _ 2 16 underlying149 ak ay az aA O (by decide) _ _ _ O r2 ⟨N (E w1)+1,0,U⟩ 1 1 [.func (.func F) #[] V,Z Y 0] O O ?c1 ?c2 ?c3 ?c4 ?c5 ?_))
       |go_in)
      case c1 =>
       intro j u y
       match j,y with
       |0,y=>simp at y;subst y;simp[Addr.add]
       |1,y=>simp at y;subst y;simp[Addr.add]
       |j+2,y=>simp at y
      case c2=>intro u hu;simp at hu;rcases hu with rfl | rfl <;> rfl
      case c3=>unfold maxLen;omega
      case c4=>omega
      case c5=>exact ao
      intro c3 w3 t ag ah;obtain⟨q,ai⟩:=I4 (cT I) G (cT aq) (cT aK) af t ag;obtain⟨g3,aL,rfl⟩:∃g cap,c3=J (S ⟨g,0,U⟩) (i+1) cap:=by
       rcases t.2 with ⟨_,aU⟩|⟨g,cap,aV,hv,_⟩
       .omega
       .exact⟨g,cap,hv⟩
      have Q:=cU q;have K:=cU ai;clear t ag r2 af q ai ao aq ah;by_cases A:x.data.toList=[91]
      .have t91:(x.toList == [91])=We:=by rw[E7,A];decide
       have s:=cU A;clear A;have o3:=(cT Q).ops;have aM:=(cT K).size;go_wp2_with (first
        | (at_builtin;go_must (refine Vf _ O (.tmp 47) (.tmp 49) 39 O (N (E w)) 3 t1 _ 1 8 underlying39 an aB aC aD O (by decide) _ _ _ O (o3.alloc _) ⟨N (E w3),0,U⟩ 1 1 [Z Y (i:Int)] O O ?d1 ?d2 ?d3 ?d4 ?d5 ?_))
        |go_in)
       case d1 =>
        intro j u y
        match j,y with
        |0,y=>simp at y;subst y;simp[Addr.add]
        |j+1,y=>simp at y
       case d2=>intro u hu;simp at hu;subst hu;rfl
       case d3=>have:=(cT I).oi;unfold maxLen;omega
       case d4=>have:=(cT I).oi;omega
       case d5=>simp;omega
       intro o4 w4 aa aj aN;have M:=cU (EI (cT I) G (cT Q) (cT K) ((cT HL).trans (cT s)) aa _ ((Th (N (E w3)) w3).alloc V2 _) aj);obtain⟨q4,k4,rfl,_⟩:=dm aa;clear aa aj o3;go_wp2;go_roundw
       case rel=>exact⟨i+1,_,_,_,by go_num,by omega,M⟩
       case measure=>simp[intOf];omega
      .have t91:(x.toList == [91])=Wg:=by rw[E7];exact Tt.2 A
       have s:=cU A;clear A;by_cases C:x.data.toList=[93]
       .have t93:(x.toList == [93])=We:=by rw[E7,C];decide
        have R:=cU C;clear C;have o3:=(cT Q).ops;by_cases T:op=[]
        .subst T;obtain⟨qo,ko,rfl,_⟩:=dm o3;have hp:r (Wd (Wb #[J U 0 0,Wa Wg])) w3:=by
          rw[<-cT hO];have z:=cT I;refine⟨cT K,Wi ⟨?_,_,_,_,O⟩⟩;rw[z.fm,TW G,Sp.kI,Tg (Wi (by rw[cT HL,cT R];decide))]
         clear o3;go_wp2;exact hp
        .obtain⟨op,l,rfl⟩:∃a m,op=a++[m]:=⟨op.dropLast,op.getLast T,(List.dropLast_concat_getLast T).symm⟩
         clear T;obtain⟨go,co,rfl,aW,aO⟩:∃g cap,_=Value.slice (S ⟨g,0,U⟩) (Wn op+1) cap/\w3.cell? ⟨g,Wn op,U⟩=S (Z Y (l:Int))/\(Wn op)<=cap:=Ct o3;have aX:l<i:=(cT I).ol l (by simp);have aP:l<i+1:=by omega
         have M:=cU (Eu (cT I) G (cT Q) (cT K) ((cT HL).trans (cT R)));have aY:Wn op<=4000:=by have:=(cT I).oi;simp at this;omega
         obtain⟨y1,aZ⟩:=(cT Q).row.tX (j:=i) (by omega);obtain⟨y2,aw⟩:=(cT Q).row.tX (j:=l) (by omega);have a1:(w3.setCell ⟨g3,i*2+1,U⟩ (Z Y (l:Int))).cell? ⟨g3,l*2+1,U⟩=S y2:=(cW (by omega)).trans aw;have z1:=(cT Q).row.frozenAt (i*2+1);have z2:=(cT Q).row.frozenAt (l*2+1);have g1:((Wn op+1:Nat):Int)-1=(Wn op:Int):=by omega
         have g2:(0:Int)<=(Wn op:Int):=TS _;have g3:(Wn op:Int)<((Wn op+1:Nat):Int):=by omega
         have g4:(Wn op:Int)<=(co:Int):=by omega
         have g5:(0:Int)<=(l:Int):=TS _;have g6:(l:Int)<((i+1:Nat):Int):=by omega
         have g7:(i:Int)<((i+1:Nat):Int):=by omega
         clear o3;go_wp2;go_roundw
         case rel=>exact⟨i+1,_,_,_,by go_num,by omega,M⟩
         case measure=>simp[intOf];omega
       .have t93:(x.toList == [93])=Wg:=by rw[E7];exact Tt.2 C
        have R:=cU C;clear C;have M:=cU (B5 (cT I) G (cT Q) (cT K) (cT aJ) (by rw[cT HL];exact cT s) (by rw[cT HL];exact cT R));go_wp2;go_roundw
        case rel=>exact⟨i+1,_,_,_,by go_num,by omega,M⟩
        case measure=>simp[intOf];omega
     |false =>
      clear W;go_wp2_with (first
       | (at_builtin;go_must (refine Vf _ O (.tmp 38) (.tmp 42) 149 O (N (E w)) 289 t2 _ 2 16 underlying149 ak ay az aA O (by decide) _ _ _ O r2 ⟨N (E w1)+1,0,U⟩ 1 1 [.func (.func F) #[] V,Z Y 0] O O ?c1 ?c2 ?c3 ?c4 ?c5 ?_))
       |go_in)
      case c1 =>
       intro j u y
       match j,y with
       |0,y=>simp at y;subst y;simp[Addr.add]
       |1,y=>simp at y;subst y;simp[Addr.add]
       |j+2,y=>simp at y
      case c2=>intro u hu;simp at hu;rcases hu with rfl | rfl <;> rfl
      case c3=>unfold maxLen;omega
      case c4=>omega
      case c5=>exact ao
      intro c3 w3 t ag ah;obtain⟨q,ai⟩:=I4 (cT I) G (cT aq) (cT aK) af t ag;obtain⟨g3,aL,rfl⟩:∃g cap,c3=J (S ⟨g,0,U⟩) (i+1) cap:=by
       rcases t.2 with ⟨_,aU⟩|⟨g,cap,aV,hv,_⟩
       .omega
       .exact⟨g,cap,hv⟩
      have Q:=cU q;have K:=cU ai;clear t ag r2 af q ai ao aq ah;by_cases A:x.data.toList=[91]
      .have t91:(x.toList == [91])=We:=by rw[E7,A];decide
       have s:=cU A;clear A;have o3:=(cT Q).ops;have aM:=(cT K).size;go_wp2_with (first
        | (at_builtin;go_must (refine Vf _ O (.tmp 47) (.tmp 49) 39 O (N (E w)) 3 t1 _ 1 8 underlying39 an aB aC aD O (by decide) _ _ _ O (o3.alloc _) ⟨N (E w3),0,U⟩ 1 1 [Z Y (i:Int)] O O ?d1 ?d2 ?d3 ?d4 ?d5 ?_))
        |go_in)
       case d1 =>
        intro j u y
        match j,y with
        |0,y=>simp at y;subst y;simp[Addr.add]
        |j+1,y=>simp at y
       case d2=>intro u hu;simp at hu;subst hu;rfl
       case d3=>have:=(cT I).oi;unfold maxLen;omega
       case d4=>have:=(cT I).oi;omega
       case d5=>simp;omega
       intro o4 w4 aa aj aN;have M:=cU (EI (cT I) G (cT Q) (cT K) ((cT HL).trans (cT s)) aa _ ((Th (N (E w3)) w3).alloc V2 _) aj);obtain⟨q4,k4,rfl,_⟩:=dm aa;clear aa aj o3;go_wp2;go_roundw
       case rel=>exact⟨i+1,_,_,_,by go_num,by omega,M⟩
       case measure=>simp[intOf];omega
      .have t91:(x.toList == [91])=Wg:=by rw[E7];exact Tt.2 A
       have s:=cU A;clear A;by_cases C:x.data.toList=[93]
       .have t93:(x.toList == [93])=We:=by rw[E7,C];decide
        have R:=cU C;clear C;have o3:=(cT Q).ops;by_cases T:op=[]
        .subst T;obtain⟨qo,ko,rfl,_⟩:=dm o3;have hp:r (Wd (Wb #[J U 0 0,Wa Wg])) w3:=by
          rw[<-cT hO];have z:=cT I;refine⟨cT K,Wi ⟨?_,_,_,_,O⟩⟩;rw[z.fm,TW G,Sp.kI,Tg (Wi (by rw[cT HL,cT R];decide))]
         clear o3;go_wp2;exact hp
        .obtain⟨op,l,rfl⟩:∃a m,op=a++[m]:=⟨op.dropLast,op.getLast T,(List.dropLast_concat_getLast T).symm⟩
         clear T;obtain⟨go,co,rfl,aW,aO⟩:∃g cap,_=Value.slice (S ⟨g,0,U⟩) (Wn op+1) cap/\w3.cell? ⟨g,Wn op,U⟩=S (Z Y (l:Int))/\(Wn op)<=cap:=Ct o3;have aX:l<i:=(cT I).ol l (by simp);have aP:l<i+1:=by omega
         have M:=cU (Eu (cT I) G (cT Q) (cT K) ((cT HL).trans (cT R)));have aY:Wn op<=4000:=by have:=(cT I).oi;simp at this;omega
         obtain⟨y1,aZ⟩:=(cT Q).row.tX (j:=i) (by omega);obtain⟨y2,aw⟩:=(cT Q).row.tX (j:=l) (by omega);have a1:(w3.setCell ⟨g3,i*2+1,U⟩ (Z Y (l:Int))).cell? ⟨g3,l*2+1,U⟩=S y2:=(cW (by omega)).trans aw;have z1:=(cT Q).row.frozenAt (i*2+1);have z2:=(cT Q).row.frozenAt (l*2+1);have g1:((Wn op+1:Nat):Int)-1=(Wn op:Int):=by omega
         have g2:(0:Int)<=(Wn op:Int):=TS _;have g3:(Wn op:Int)<((Wn op+1:Nat):Int):=by omega
         have g4:(Wn op:Int)<=(co:Int):=by omega
         have g5:(0:Int)<=(l:Int):=TS _;have g6:(l:Int)<((i+1:Nat):Int):=by omega
         have g7:(i:Int)<((i+1:Nat):Int):=by omega
         clear o3;go_wp2;go_roundw
         case rel=>exact⟨i+1,_,_,_,by go_num,by omega,M⟩
         case measure=>simp[intOf];omega
       .have t93:(x.toList == [93])=Wg:=by rw[E7];exact Tt.2 C
        have R:=cU C;clear C;have M:=cU (B5 (cT I) G (cT Q) (cT K) (cT aJ) (by rw[cT HL];exact cT s) (by rw[cT HL];exact cT R));go_wp2;go_roundw
        case rel=>exact⟨i+1,_,_,_,by go_num,by omega,M⟩
        case measure=>simp[intOf];omega
   .have hp:r (Wd (Wb #[J U 0 0,Wa Wg])) (w1.alloc (D #[H ⟨#[]⟩,Wa Wg,.nilFunc] 275)):=by
     rw[<-cT hO];have z:=cT I;refine⟨(z.below.trans (P.mono z.below.size)).alloc (To z.below.size P.size) _,Wi ⟨?_,_,_,_,O⟩⟩;rw[z.fm,TW G,Sp.kI,Tg (Wh (by rw[cT HL];cases wt;exact ak;exact an))]
    unfold wD;clear P;go_wp2;exact hp
  .have c1:¬(i:Int)<(Wn X:Int):=by omega
   have ei:i=Wn X:=by omega
   subst ei;have z:=cT I;have ab:Wn X=(fE X).length:=(cT au).symm;by_cases h0:op=[]
   .subst h0;obtain⟨qc,kc,rfl,ar⟩:=dm z.row;obtain⟨qo,ko,rfl,ax⟩:=dm z.ops;have hp:r (Wd (Wb #[J qc (Wn X) kc,Wa We])) wr:=by
     rw[<-cT hO];obtain⟨g,rfl,a6,a7,_⟩:=ar 0 (by omega);refine⟨z.below,Wh ⟨?_,g,kc,fs,ms,?_,a6,?_,?_,?_,?_⟩⟩
     .rw[z.fm,UP (by omega)];rfl
     .rw[<-ab]
     .rw[<-ab];exact z.row
     .rw[<-ab];exact z.fl
     .rw[<-ab];exact z.rd
     .intro j y;exact z.fn j y (by omega)
    clear ar ax z ab;go_wp2;exact hp
   .obtain⟨qc,kc,rfl,ar⟩:=dm z.row;obtain⟨qo,ko,rfl,ax⟩:=dm z.ops;have hp:r (Wd (Wb #[J qc (Wn X) kc,Wa Wg])) wr:=by
     rw[<-cT hO];refine⟨z.below,Wi ⟨?_,_,_,_,O⟩⟩;rw[z.fm,UP (by omega),Sp.kI];exact TE (λe=>h0 (VF (by omega)))
    have hq:((Wn op:Int) == 0)=Wg:=Tt.2 (λe=>h0 (VF (by omega)));clear ar ax z ab;go_wp2;exact hp
end
theorem uR(s:V8)(w:V5)(r:s.size<=4000)(b:ez w):V7 prog 69 #[H s,H ⟨#[32]⟩] w λe j=>e=Wd (J (S ⟨N (E w),0,U⟩) (Sp.split s 32).length (Sp.split s 32).length)/\j=w.alloc (D ((Sp.split s 32).map Value.string).toArray 9):=by
 obtain⟨m,l⟩:=b;have h:=Tryz.strings_Split s ⟨#[32]⟩ m w (by omega) l (by decide);rw[Sp.tA,Sp.xe] at h;exact h
theorem zK(s:V8)(w:V5)(r:s.size<=4000)(b:ez w):V7 prog 69 #[H s,H ⟨#[10]⟩] w λe j=>e=Wd (J (S ⟨N (E w),0,U⟩) (Sp.split s 10).length (Sp.split s 10).length)/\j=w.alloc (D ((Sp.split s 10).map Value.string).toArray 9):=by
 obtain⟨m,l⟩:=b;have h:=Tryz.strings_Split s ⟨#[10]⟩ m w (by omega) l (by decide);rw[Sp.sH,Sp.tw] at h;exact h
theorem xx(w:V5)(X:List V8):NI (w.alloc (D (X.map Value.string).toArray 9)) (S ⟨N (E w),0,U⟩) X:=λj b=>by
 refine⟨N (E w),0,O,by simp,?_⟩;rw[TM,World.cell?_alloc_mark];simp[Tw b]
def vr(P:List UInt8)(x:V8)(w:V5)(e:Ending)(w':V5):Prop:=V4 w w'/\((¬P <+: x.data.toList/\∃p n b,e=Wd (Wb #[J p n b,Wa Wg]))\/(∃rest:V8,rest.size<=x.size/\x.data.toList=P++rest.data.toList/\∃g,N (E w)<=g/\e=Wd (Wb #[J (S ⟨g,0,U⟩) (Sp.split rest 32).length (Sp.split rest 32).length,Wa We])/\NI w' (S ⟨g,0,U⟩) (Sp.split rest 32)))
theorem p9(x nm:V8)(w:V5)(q:x.size<=2000)(t:nm.size<=10)(Q:ez w):V7 prog 194 #[H x,H nm] w (vr (nm.data.toList++[58,32]) x w):=by
 have B:(nm++⟨#[58,32]⟩:V8).data.toList=nm.data.toList++[58,32]:=by simp
 have C:(nm++⟨#[58,32]⟩:V8).size=nm.size+2:=by rw[TC];rfl
 have y:=cU B;have L:=cU C;have V:(nm++⟨#[58,32]⟩:V8).size<=12:=by omega
 have j:(nm.data.toList++[58,32]).length=nm.size+2:=by
  rw[<-cT y,<-cT L];exact Uv
 have R:=cU Q;clear B C Q;by_cases z:(nm.data.toList++[58,32]) <+: x.data.toList
 .have r:=Sp.Me z;rw[j] at r;have M:=Sp.Lr z;rw[j] at M;have I:((x.extract 0 (nm.size+2)).toList == (nm++⟨#[58,32]⟩:V8).toList)=We:=by
   rw[E7 (nm++⟨#[58,32]⟩),cT y,UH];have:=(Sp.BR (x:=x) (p:=nm.data.toList++[58,32]) (by omega)).2 z;rw[j] at this;exact this
  have T:(nm.size:Int)+2<=(x.size:Int):=by omega
  have F:(x.extract (nm.size+2) x.size).size<=x.size:=by rw[Tz];omega
  have A:Hid (∀(e:Ending) (u:V5),(e=Wd (J (S ⟨N (E w),0,U⟩) (Sp.split (x.extract (nm.size+2) x.size) 32).length (Sp.split (x.extract (nm.size+2) x.size) 32).length)/\u=w.alloc (D ((Sp.split (x.extract (nm.size+2) x.size) 32).map Value.string).toArray 9))->vr (nm.data.toList++[58,32]) x w (Wd (Wb #[J (S ⟨N (E w),0,U⟩) (Sp.split (x.extract (nm.size+2) x.size) 32).length (Sp.split (x.extract (nm.size+2) x.size) 32).length,Wa We])) u):=by
   show ∀(e:Ending) (u:V5),_->_
   rintro e u ⟨rfl,rfl⟩;exact⟨V3.alloc V2 _,Wi ⟨_,F,M,N (E w),Te _,O,xx w _⟩⟩
  have hS:=uR (x.extract (nm.size+2) x.size) w (by omega) (cT R);have K:=cU hS;generalize P:vr (nm.data.toList++[58,32]) x w=b at A ⊢;clear hS z r M j F P;go_enter func194,ntmps194;go_wp2_with (first|(go_at_call 69;go_must (refine(cT K).mono ?_;rintro e G ⟨rfl,l⟩;have m:=cT A _ G ⟨O,l⟩;clear l))|go_in);exact m
 .have A:Hid (∀(X:List V8) (u:V5),u=w.alloc (D (X.map Value.string).toArray 9)->vr (nm.data.toList++[58,32]) x w (Wd (Wb #[J (S ⟨N (E w),0,U⟩) (Wn X) (Wn X),Wa Wg])) u):=by
   show ∀(X:List V8) (u:V5),_->_
   rintro X u rfl;exact⟨V3.alloc V2 _,Wh ⟨z,_,_,_,O⟩⟩
  have hS:=uR x w (by omega) (cT R);have K:=cU hS;have I:nm.size+2<=x.size->((x.extract 0 (nm.size+2)).toList == (nm++⟨#[58,32]⟩:V8).toList)=Wg:=by
   intro r;rw[E7 (nm++⟨#[58,32]⟩),cT y];apply Tt.2;intro W;apply z;refine(Sp.BR (x:=x) (p:=nm.data.toList++[58,32]) (by omega)).1 ?_;rw[j];exact W
  generalize P:vr (nm.data.toList++[58,32]) x w=b at A ⊢;clear hS z j P;by_cases r:nm.size+2<=x.size
  .have T:(nm.size:Int)+2<=(x.size:Int):=by omega
   have I:=I r;go_enter func194,ntmps194;go_wp2_with (first|(go_at_call 69;go_must (refine(cT K).mono ?_;rintro e G ⟨rfl,l⟩;have m:=cT A _ G l;clear l))|go_in);exact m
  .have T:¬(nm.size:Int)+2<=(x.size:Int):=by omega
   clear I;go_enter func194,ntmps194;go_wp2_with (first|(go_at_call 69;go_must (refine(cT K).mono ?_;rintro e G ⟨rfl,l⟩;have m:=cT A _ G l;clear l))|go_in);exact m
def SZ:List Int:=[9223372036854775807,-9223372036854775808,0]
def PH:List Nat:=[243,244,245]
def qY(k:Nat):V8:=⟨⟨Sp.fp[k]!⟩⟩
def pM(k:Nat):V6 := .func (.func (PH[k]!)) #[] #[]
def ow(k:Nat):Int:=SZ[k]!
def J4(k:Nat):V6 := Wc #[H (qY k),Z Y (ow k),pM k]
def Fy:V6 := Wc #[H ⟨#[]⟩,Z Y 0,.nilFunc]
def OD(x:List UInt8)(w:V5)(e:Ending)(w':V5):Prop:=V4 w w'/\((∃k,k<3/\Sp.fp[k]! = x/\e=Wd (Wb #[J4 k,Wa We]))\/(x∉Sp.fp/\e=Wd (Wb #[Fy,Wa Wg])))
def NL:Array V6 := #[H ⟨#[109,105,110]⟩,Z Y 9223372036854775807,.func (.func 243) #[] #[],H ⟨#[109,97,120]⟩,Z Y (-9223372036854775808),.func (.func 244) #[] #[],H ⟨#[115,117,109]⟩,Z Y 0,.func (.func 245) #[] #[]]
theorem DR{b:Nat}{w:V5}{t:Nat}(h:w.heap[b]?=S (D NL t)):(k:Nat)->k<3->
  w.cell? ⟨b,k*3,U⟩=S (H (qY k))/\w.cell? ⟨b,k*3+1,U⟩=S (Z Y (ow k))/\w.cell? ⟨b,k*3+2,U⟩=S (pM k)
 |0,_=>⟨by simp only[Wj,h];rfl,by simp only[Wj,h];rfl,by simp only[Wj,h];rfl⟩
 |1,_=>⟨by simp only[Wj,h];rfl,by simp only[Wj,h];rfl,by simp only[Wj,h];rfl⟩
 |2,_=>⟨by simp only[Wj,h];rfl,by simp only[Wj,h];rfl,by simp only[Wj,h];rfl⟩
 |n+3,h=>absurd h (by omega)
theorem GK(w:V5):V7 prog 225 #[] w λe b=>e=Wd (J (S ⟨N (E w),0,U⟩) 3 3)/\V4 w b/\b.heap[N (E w)]?=S (D NL 152):=by
 go_enter func225,ntmps225;go_wp2;exact Tj (v := J (S ⟨N (E w),0,U⟩) 3 3) (by simp[results,results225,go_sem]) O ⟨O,V3.alloc V2 _,Array.getElem?_push_size⟩
theorem pO(s:V8)(w:V5):V7 prog 196 #[H s] w (OD s.data.toList w):=by
 go_enter func196,ntmps196;go_wp2_with fail;refine(GK _).mono ?_;rintro e u ⟨rfl,l,A⟩;have Q:V4 w u:=((Th _ w).alloc V2 _).trans (l.mono (by simp));have L:u.heap[N (E w)]?=S (D #[H ⟨#[]⟩,Z Y 0,.nilFunc] 152):=(l.block _ (by simp)).trans (Tk w _);rw[TK] at A;clear l;go_wp2_with fail;have B:N (E w)<N (E u):=(Ts.1 L).1;have R:N (E w)+1<N (E u):=(Ts.1 A).1
 go_loopw [8] (λi wr=>∃k:Nat,k<=3/\i=Z Y k/\V4 u wr/\Hid (∀j,j<k->Sp.fp[j]!≠s.data.toList)) (λi _=>3-(intOf i).toNat)
 case atStart=>exact⟨0,by omega,rfl,Th _ _,λj C=>absurd C (by omega)⟩
 case round =>
  obtain⟨k,hk,rfl,y,p⟩:=hrel;have F:=Q.trans (y.mono (by omega));have M:=(y.block _ B).trans L;have T:=(y.block _ R).trans A;by_cases G:k<3
  .obtain⟨x0,x1,x2⟩:=DR T k G;have aa:(0:Int)<=(k:Int):=TS _;have ab:(k:Int)<(3:Int):=by omega
   obtain⟨m,P⟩:∃m,Hid (m=qY k):=⟨_,rfl⟩
   obtain⟨I,o⟩:∃I,Hid (I=ow k):=⟨_,rfl⟩
   obtain⟨K,HF⟩:∃K,Hid (Value.func (.func K) #[] #[]=pM k):=⟨_,rfl⟩
   rw[<-cT P] at x0;rw[<-cT o] at x1;rw[<-cT HF] at x2;have r:N (E w)<N (E wr):=TI B y.size;have h5:(wr.alloc (D #[H m,Z Y I,.func (.func K) #[] #[]] 152)).heap[N (E w)]?=_:=(((Th (N (E wr)) wr).alloc V2 (D #[H m,Z Y I,.func (.func K) #[] #[]] 152)).block _ r).trans M;have V:=F.alloc (Ub r) (D #[H m,Z Y I,.func (.func K) #[] #[]] 152);obtain⟨W,X,q,b⟩:=DB h5;have f0:=b 0;have f1:=b 1;have f2:=b 2;clear b L A M T h5;by_cases z:Sp.fp[k]! = s.data.toList
   .have t:=cU z;have g:(m.toList == s.toList)=We:=by
     rw[cT P,E7 s];exact pF z
    clear z;clear r;go_wp2;refine Tj (v := Wb #[J4 k,Wa We]) ?_ O ⟨((V.setCell V2 _).setCell V2 _).setCell V2 _,Wh ⟨k,G,cT t,O⟩⟩;simp[results,results196,go_sem,J4,W,X,q,<-cT P,<-cT o,<-cT HF]
   .have t:=cU z;have g:(m.toList == s.toList)=Wg:=by
     rw[cT P,E7 s];exact pJ z
    clear z;go_wp2;go_roundw
    case rel=>exact⟨k+1,by omega,by go_num,y.alloc y.size _,λj C=>if h:j=k then h ▸ cT t else cT p j (by omega)⟩
    case measure=>simp[intOf];omega
  .obtain rfl:k=3:=by omega
   obtain⟨W,X,q,b⟩:=DB M;have f0:=b 0;have f1:=b 1;have f2:=b 2;clear b L A M T;go_wp2;refine Tj (v := Wb #[Fy,Wa Wg]) ?_ O ⟨((F.setCell V2 _).setCell V2 _).setCell V2 _,Wi ⟨?_,O⟩⟩
   .simp[results,results196,go_sem,Fy,W,X,q]
   .intro hm;obtain⟨j,C,e⟩:=T5.1 hm;refine cT p j C ?_;rw[getElem!_pos Sp.fp j C];exact e
section
structure ft (w:V5) (g:Nat) (L:List (List UInt8)):Prop where
 lt:g<N (E w)
 fn:∀i (hi:i<Wn L),∃fv,w.cell? ⟨g,i*2,U⟩=S fv/\Fn w (N (E w)) L[i] fv
 tX:∃ms,Sp.fC L (Wn L)=S (ms,[])/\∀i,i<Wn L->w.cell? ⟨g,i*2+1,U⟩=S (Z Y ((ms.getD i 0:Nat):Int))
variable {w w':V5}{L:List (List UInt8)}{g:Nat}
theorem ft.below(h:ft w g L)(hb:V4 w w'): ft w' g L:=by
 obtain⟨b,e,j⟩:=h.tX;refine⟨TI h.lt hb.size,λi hi=>?_,b,e,λi hi=>(hb.cell (p:=⟨g,i*2+1,U⟩) h.lt).trans (j i hi)⟩;obtain⟨l,m,r⟩:=h.fn i hi;exact⟨l,(hb.cell (p:=⟨g,i*2,U⟩) h.lt).trans m,r.below hb⟩
theorem Pq(L:List (List UInt8)):∀(k:Nat) (m o:List Nat),Sp.fC L k=S (m,o)->Wn m=k:=by
 intro k
 induction k with
 |zero=>intro b e h;simp[Sp.fC] at h;obtain⟨rfl,_⟩:=h;rfl
 |succ k j =>
  intro b e h;simp only[Sp.fC] at h;split at h
  .cases h
  .rename_i r u l;rw[(Sp.uq h).1,j _ _ l]
theorem LM{B cap:Nat}{b:List V6}{e:List Nat}(l:w.ownsRow B 289 2 (J (S ⟨g,0,U⟩) (Wn L) cap) (Wn L) (cz b e))(u:Wn b=Wn L)(m:Sp.fC L (Wn L)=S (e,[]))(r:∀j (y:j<Wn L),Fn w (N (E w)) L[j] (b.getD j .nilFunc)): ft w g L:=by
 have z:=Pq L _ _ _ m;refine⟨(l.lt g O).2,λi hi=>⟨b.getD i .nilFunc,?_,r i hi⟩,e,m,λi hi=>?_⟩
 .rw[l.cellAt (i*2) (by omega),Q7 _ _ _ (by omega),Ty,Tw (by omega)];rfl
 .rw[l.cellAt (i*2+1) (by omega),MX _ _ _ (by omega),Ty,Tw (by omega)];rfl
theorem ft.aside{P t:Nat}{C:Array V6}(h:ft w g L)(l:w.heap[P]?=S (D C t (0,0)))(u:P<g)(ht:t≠2)(j:Nat)(v:V6): ft (w.setCell ⟨P,j,U⟩ v) g L/\(w.setCell ⟨P,j,U⟩ v).heap[P]?=S (D (C.setIfInBounds j v) t (0,0)):=by
 have m:∀k,k≠P->(w.setCell ⟨P,j,U⟩ v).heap[k]?=w.heap[k]?:=λk y=>Tv _ _ _ _ y
 have r:∀o,(w.setCell ⟨P,j,U⟩ v).cell? ⟨g,o,U⟩=w.cell? ⟨g,o,U⟩:=λo=>by simp only[Wj,m g (by omega)]
 obtain⟨z,A,F⟩:=h.tX;refine⟨⟨by simpa using h.lt,λi hi=>?_,z,A,λi hi=>(r _).trans (F i hi)⟩,fa l v⟩;obtain⟨G,I,f2⟩:=h.fn i hi;refine⟨G,(r _).trans I,?_⟩;rcases f2 with ⟨B,n,K,M,b,Q⟩|f2
 .refine Wh ⟨B,n,by simpa using K,M,(m B ?_).trans b,Q⟩;intro e;subst e;unfold kd at b;rw[l] at b;injection b with b;injection b with _ R;exact ht R
 .exact Wi f2
def mM(x:V8):List (List UInt8):=(Sp.ws x).tail.map (·.data.toList)
def fl(i:Nat)(x:V8):Bool:=decide (5<=i/\(Sp.hd i++[32]) <+: x.data.toList/\(mM x).headD []∈Sp.fp)
def lO:Bool->Nat->V6
 |false,_=>.nilFunc
 |true,F=>.func (.func F) #[] #[]
variable {x:V8}{i:Nat}
theorem Fe(h:i<5): fl i x=Wg:=TE (λb=>by omega)
theorem Oy(h:¬(Sp.hd i++[32]) <+: x.data.toList): fl i x=Wg:=TE (λb=>h b.2.1)
def nO(i:Nat)(x:V8)(w:V5)(e:Ending)(w':V5):Prop:=V4 w w'/\∃p n j b z f,e=Wd (Wb #[Wc #[J p n j,H b,Z Y z,f],Wa (Sp.dQ i x)])/\(∃F,f=lO (fl i x) F)/\
  (Sp.dQ i x=We->i<5->n=(mM x).length/\∃g,p=S ⟨g,0,U⟩/\(N (E w))<=g/\ft w' g (mM x))/\
  (Sp.dQ i x=We->5<=i->∃k,k<3/\b=qY k/\z=ow k/\f=pM k/\mM x=[Sp.fp[k]!])
theorem wL{G t:Nat}{b c1 c2 c3:V6}(h:w.heap[G]?=S (D #[b,c1,c2,c3] t)):w.cell? ⟨G,0,U⟩=S b/\w.cell? ⟨G,1,U⟩=S c1/\w.cell? ⟨G,2,U⟩=S c2/\w.cell? ⟨G,3,U⟩=S c3/\∀j,w.frozen? ⟨G,j,U⟩=Wg:=⟨by simp[Wj,h],by simp[Wj,h],by simp[Wj,h],by simp[Wj,h],λj=>by simp[World.frozen?,h]⟩
theorem gQ{B:Nat}(h:ez w)(hb:Below B w w')(b:7<B): ez w':=by
 obtain⟨m,e⟩:=h;exact⟨m,(hb.cell (p:=⟨7,0,U⟩) b).trans e⟩
theorem ez.lt(h:ez w): 7<N (E w):=by
 obtain⟨m,b⟩:=h;exact Tu w _ b
theorem N8{p:Option Addr}{n cap:Nat}{b:V8}{z:Int}{f:V6}(hi:i<7)(hb:V4 w w')(e:Sp.dQ i x=Wg)(j:∃F,f=lO (fl i x) F):nO i x w (Wd (Wb #[Wc #[J p n cap,H b,Z Y z,f],Wa Wg])) w':=by
 refine⟨hb,p,n,cap,b,z,f,by rw[e],j,?_,?_⟩
 .intro h;rw[e] at h;cases h
 .intro h;rw[e] at h;cases h
theorem wI(i:Nat)(x nm:V8)(b:Nat)(w:V5)(hi:i<5)(hx:x.size<=2000)(hn:nm.size<=10)(az:nm.data.toList++[58]=Sp.hd i)(hg:ez w)(hW:gY b w):V7 prog 110 #[H x,Wc #[H nm,Wa We,Wa (i == 2)],J (S ⟨b,0,U⟩) 25 25] w (nO i x w):=by
 have ae:nm.data.toList++[58,32]=Sp.hd i++[32]:=by rw[<-az];simp
 have af:=cU (λ(hk:Sp.dQ i x=Wg) (w':V5) (hb:V4 w w') (p:Option Addr) (n cap:Nat)=>N8 (p:=p) (n:=n) (cap:=cap) (b:=⟨#[]⟩) (z:=0) (f := .nilFunc) (by omega) hb hk ⟨0,by rw[Fe hi];rfl⟩);have ag:=cU (λ(hk:Sp.dQ i x=We) (w':V5) (hb:V4 w w') (g cap:Nat) (hg:N (E w)<=g) (hc:ft w' g (mM x))=>(show nO i x w (Wd (Wb #[Wc #[J (S ⟨g,0,U⟩) (mM x).length cap,H ⟨#[]⟩,Z Y 0,.nilFunc],Wa We])) w' from ⟨hb,_,_,_,_,_,_,by rw[hk],⟨0,by rw[Fe hi];rfl⟩,λ_ _=>⟨O,g,O,hg,hc⟩,λ_ h5=>absurd h5 (by omega)⟩));have ah:=cU (λ(rest:V8) (h:x.data.toList=Sp.hd i++32::rest.data.toList)=>Sp.zY (i:=i) hi h);have aA:=cU (λ(h:¬(Sp.hd i++[32]) <+: x.data.toList)=>Sp.xg (i:=i) (by omega) h);have aB:=cU (λ(rest:V8) (h:x.data.toList=Sp.hd i++32::rest.data.toList)=>(Sp.ue (i:=i) (by omega) h).1);generalize nO i x w=l at *;have ai:=cU (λw0 (aC:ez w0)=>p9 x nm w0 hx hn aC);rw[ae] at ai;generalize aD:(i == 2)=wt at ah ⊢;clear aD;go_enter func110,ntmps110;go_wp2_with fail;have P:V4 w ((w.alloc (D #[H nm,Wa We,Wa wt] 159)).alloc (D #[J U 0 0,H ⟨#[]⟩,Z Y 0,.nilFunc] 154)):=((Th _ w).alloc V2 _).alloc (by simp) _;have ab:((w.alloc (D #[H nm,Wa We,Wa wt] 159)).alloc (D #[J U 0 0,H ⟨#[]⟩,Z Y 0,.nilFunc] 154)).heap[N (E w)]?=S (D #[H nm,Wa We,Wa wt] 159):=by
  rw[TD _ _ _ (by simp)];exact Tk w _
 have t:((w.alloc (D #[H nm,Wa We,Wa wt] 159)).alloc (D #[J U 0 0,H ⟨#[]⟩,Z Y 0,.nilFunc] 154)).heap[N (E w)+1]?=S (D #[J U 0 0,H ⟨#[]⟩,Z Y 0,.nilFunc] 154):=by
  rw[<-TK w (D #[H nm,Wa We,Wa wt] 159)];exact Tk _ _
 refine(cT ai _ (gQ hg P hg.lt)).mono ?_;rintro e w1 ⟨Q,⟨hp,p,n,cap,rfl⟩|⟨rest,aF,T,g,aG,rfl,s⟩⟩
 .have A:=P.trans (Q.mono P.size);have F:=(Q.block (N (E w)+1) (by simp)).trans t;obtain⟨k0,k1,k2,k3,K⟩:=wL F;have f0:=K 0;have f1:=K 1;have f2:=K 2;have f3:=K 3;have B:=cT af (cT aA hp) _ ((((A.setCell (p:=⟨N (E w)+1,0,U⟩) (by simp) (J U 0 0)).setCell (p:=⟨N (E w)+1,1,U⟩) (by simp) (H ⟨#[]⟩)).setCell (p:=⟨N (E w)+1,2,U⟩) (by simp) (Z Y 0)).setCell (p:=⟨N (E w)+1,3,U⟩) (by simp) .nilFunc) U 0 0;clear P ab t Q F A K hp;go_wp2;refine Tj (v := Wb #[Wc #[J U 0 0,H ⟨#[]⟩,Z Y 0,.nilFunc],Wa Wg]) ?_ O B;simp[results,results110,go_sem,k0,k1,k2,k3]
 .have A:=P.trans (Q.mono P.size);have F:=(Q.block (N (E w)+1) (by simp)).trans t;have aj:=(Q.block (N (E w)) (by simp <;> omega)).trans ab;obtain⟨s0,s1,s2,sf⟩:=DB aj;have I:x.data.toList=Sp.hd i++32::rest.data.toList:=by rw[T];simp
  have o:=Sp.jo rest 32;have ak:=cU (zD (Sp.split rest 32) (S ⟨g,0,U⟩) (Sp.split rest 32).length b wt w1 s (by omega) o.1 (λy hy=>To (Sp.qW rest 32 y hy) (by omega)) (hW.below A));have an:=cT ah rest I;have ao:=cT aB rest I;have aq:mM x=fE (Sp.split rest 32):=by unfold mM fE;rw[ao]
  have aa:Hid (Sp.dQ i x=Sp.kI wt (fE (Sp.split rest 32)) 0):=an;have ar:=cU aq;clear P ab t Q sf aj s an ao aq T I o;generalize au:(Sp.split rest 32).length=m at ak ⊢;have aH:=cU au;clear au;go_wp2_with fail;refine(cT ak).mono ?_;rintro e w2 ⟨R,⟨V,g2,C,fs,ms,rfl,ad,av,aw,ax,ay⟩|⟨V,p2,n2,C,rfl⟩⟩
  .have M:=A.trans (R.mono A.size);have u:=(R.block (N (E w)+1) (Ts.1 F).1).trans F;obtain⟨k0,k1,k2,k3,K⟩:=wL u;have f0:=K 0;have f1:=K 1;have f2:=K 2;have f3:=K 3;have G:=LM av aw ax ay;rw[<-cT ar] at G;have q:Sp.dQ i x=We:=(cT aa).trans V;have r:N (E w)+1<g2:=TI (Ts.1 F).1 ad;have aE:∀(W:V5) (j:Nat) (v:V6),ft W g2 (mM x)->W.heap[N (E w)+1]?=S (D #[J U 0 0,H ⟨#[]⟩,Z Y 0,.nilFunc] 154)\/True->ft W g2 (mM x):=λW j v h _=>h
   have B:=cT ag q _ ((((M.setCell (p:=⟨N (E w)+1,0,U⟩) (by simp) (J (S ⟨g2,0,U⟩) (fE (Sp.split rest 32)).length C)).setCell (p:=⟨N (E w)+1,1,U⟩) (by simp) (H ⟨#[]⟩)).setCell (p:=⟨N (E w)+1,2,U⟩) (by simp) (Z Y 0)).setCell (p:=⟨N (E w)+1,3,U⟩) (by simp) .nilFunc) g2 C (To A.size ad)
    ((((G.aside u r (by decide) 0 _).1.aside (G.aside u r (by decide) 0 _).2 r (by decide) 1 _).1.aside ((G.aside u r (by decide) 0 _).1.aside (G.aside u r (by decide) 0 _).2 r (by decide) 1 _).2 r (by decide) 2 _).1.aside (((G.aside u r (by decide) 0 _).1.aside (G.aside u r (by decide) 0 _).2 r (by decide) 1 _).1.aside ((G.aside u r (by decide) 0 _).1.aside (G.aside u r (by decide) 0 _).2 r (by decide) 1 _).2 r (by decide) 2 _).2 r (by decide) 3 _).1
   rw[show (mM x).length=(fE (Sp.split rest 32)).length by rw[cT ar]] at B;generalize (fE (Sp.split rest 32)).length=N2 at B ⊢;clear aE A M F u K R V q G av aw ax ay ad r;go_wp2;refine Tj (v := Wb #[Wc #[J (S ⟨g2,0,U⟩) N2 C,H ⟨#[]⟩,Z Y 0,.nilFunc],Wa We]) ?_ O B;simp[results,results110,go_sem,k0,k1,k2,k3]
  .have M:=A.trans (R.mono A.size);have u:=(R.block (N (E w)+1) (Ts.1 F).1).trans F;obtain⟨k0,k1,k2,k3,K⟩:=wL u;have f0:=K 0;have f1:=K 1;have f2:=K 2;have f3:=K 3;have q:Sp.dQ i x=Wg:=(cT aa).trans V;have B:=cT af q _ ((((M.setCell (p:=⟨N (E w)+1,0,U⟩) (by simp) (J p2 n2 C)).setCell (p:=⟨N (E w)+1,1,U⟩) (by simp) (H ⟨#[]⟩)).setCell (p:=⟨N (E w)+1,2,U⟩) (by simp) (Z Y 0)).setCell (p:=⟨N (E w)+1,3,U⟩) (by simp) .nilFunc) p2 n2 C;clear A M F u K R V q;go_wp2;refine Tj (v := Wb #[Wc #[J p2 n2 C,H ⟨#[]⟩,Z Y 0,.nilFunc],Wa Wg]) ?_ O B;simp[results,results110,go_sem,k0,k1,k2,k3]
variable {X:List V8}
theorem GY(h:0<Wn X): X.headD ⟨#[]⟩=X[0]:=by
 cases X with
 |nil=>simp at h
 |cons a l=>rfl
theorem IJ(h:0<Wn X): (fE X).headD []=X[0].data.toList:=by
 cases X with
 |nil=>simp at h
 |cons a l=>rfl
theorem Ng(h:0<Wn X)(h1:Wn X=1): fE X=[X[0].data.toList]:=by
 cases X with
 |nil=>simp at h
 |cons a l =>
  have:l=[]:=VF (by simpa using h1);subst this
  rfl
theorem wZ(i:Nat)(x nm:V8)(b:Nat)(w:V5)(hi:5<=i)(ag:i<7)(hx:x.size<=2000)(hn:nm.size<=10)(aG:nm.data.toList++[58]=Sp.hd i)(hg:ez w)(hW:gY b w):V7 prog 110 #[H x,Wc #[H nm,Wa Wg,Wa Wg],J (S ⟨b,0,U⟩) 25 25] w (nO i x w):=by
 have ay:nm.data.toList++[58,32]=Sp.hd i++[32]:=by rw[<-aG];simp
 have ar:=cU (λ(hk:Sp.dQ i x=Wg) (w':V5) (hb:V4 w w') (aH:V8) (z:Int) (f:V6) (hf:∃F,f=lO (fl i x) F)=>N8 (p:=none) (n:=0) (cap:=0) (b:=aH) (z:=z) (f:=f) ag hb hk hf);have az:=cU (λ(hk:Sp.dQ i x=We) (w':V5) (hb:V4 w w') (k:Nat) (ah:k<3) (hw:mM x=[Sp.fp[k]!]) (aI:fl i x=We)=>(show nO i x w (Wd (Wb #[Wc #[J U 0 0,H (qY k),Z Y (ow k),pM k],Wa We])) w' from ⟨hb,U,0,0,qY k,ow k,pM k,by rw[hk],⟨PH[k]!,by rw[aI];rfl⟩,λ_ h5=>absurd h5 (by omega),λ_ _=>⟨k,ah,O,O,O,hw⟩⟩));have aJ:=cU (λ(rest:V8) (h:x.data.toList=Sp.hd i++32::rest.data.toList)=>Sp.B1 (i:=i) hi ag h);have aK:=cU (λ(h:¬(Sp.hd i++[32]) <+: x.data.toList)=>Sp.xg (i:=i) ag h);have aL:=cU (λ(rest:V8) (h:x.data.toList=Sp.hd i++32::rest.data.toList)=>(Sp.ue (i:=i) ag h).1);generalize nO i x w=j at *;have aA:=cU (λw0 (aM:ez w0)=>p9 x nm w0 hx hn aM);rw[ay] at aA;go_enter func110,ntmps110;go_wp2_with fail;have R:V4 w ((w.alloc (D #[H nm,Wa Wg,Wa Wg] 159)).alloc (D #[J U 0 0,H ⟨#[]⟩,Z Y 0,.nilFunc] 154)):=((Th _ w).alloc V2 _).alloc (by simp) _;have au:((w.alloc (D #[H nm,Wa Wg,Wa Wg] 159)).alloc (D #[J U 0 0,H ⟨#[]⟩,Z Y 0,.nilFunc] 154)).heap[N (E w)]?=S (D #[H nm,Wa Wg,Wa Wg] 159):=by
  rw[TD _ _ _ (by simp)];exact Tk w _
 have ai:((w.alloc (D #[H nm,Wa Wg,Wa Wg] 159)).alloc (D #[J U 0 0,H ⟨#[]⟩,Z Y 0,.nilFunc] 154)).heap[N (E w)+1]?=S (D #[J U 0 0,H ⟨#[]⟩,Z Y 0,.nilFunc] 154):=by
  rw[<-TK w (D #[H nm,Wa Wg,Wa Wg] 159)];exact Tk _ _
 refine(cT aA _ (gQ hg R hg.lt)).mono ?_;rintro e w1 ⟨T,⟨hp,p,n,cap,rfl⟩|⟨rest,aO,V,g,aP,rfl,an⟩⟩
 .have A:=R.trans (T.mono R.size);have B:=(T.block (N (E w)+1) (by simp)).trans ai;obtain⟨k0,k1,k2,k3,M⟩:=wL B;have f0:=M 0;have f1:=M 1;have f2:=M 2;have f3:=M 3;have m:=cT ar (cT aK hp) _ ((((A.setCell (p:=⟨N (E w)+1,0,U⟩) (by simp) (J U 0 0)).setCell (p:=⟨N (E w)+1,1,U⟩) (by simp) (H ⟨#[]⟩)).setCell (p:=⟨N (E w)+1,2,U⟩) (by simp) (Z Y 0)).setCell (p:=⟨N (E w)+1,3,U⟩) (by simp) .nilFunc) ⟨#[]⟩ 0 .nilFunc ⟨0,by rw[Oy hp];rfl⟩;clear R au ai T B A M hp;go_wp2;refine Tj (v := Wb #[Wc #[J U 0 0,H ⟨#[]⟩,Z Y 0,.nilFunc],Wa Wg]) ?_ O m;simp[results,results110,go_sem,k0,k1,k2,k3]
 .have A:=R.trans (T.mono R.size);have B:=(T.block (N (E w)+1) (by simp)).trans ai;have aB:=(T.block (N (E w)) (by simp <;> omega)).trans au;obtain⟨s0,s1,s2,sf⟩:=DB aB;have K:x.data.toList=Sp.hd i++32::rest.data.toList:=by rw[V];simp
  have r:=Sp.jo rest 32;obtain⟨g',aQ,av,aR,o⟩:=an 0 r.1;injection av with av;injection av with e1 e2;subst e1 e2;have aa:=cT aJ rest K;have aC:=cT aL rest K;have aw:mM x=fE (Sp.split rest 32):=by unfold mM fE;rw[aC]
  rw[GY r.1] at aa;have C:=λh1=>Ng r.1 h1
  obtain⟨y,hy⟩:∃y,(Sp.split rest 32)[0]'r.1=y:=⟨_,rfl⟩
  rw[hy] at aa o;have W:(mM x).headD []=y.data.toList:=by
   rw[aw,<-hy];exact IJ r.1
  have ao:(Sp.hd i++[32]) <+: x.data.toList:=⟨rest.data.toList,by rw[V]⟩
  have aq:Hid (y.data.toList∈Sp.fp->fl i x=We):=λhm=>TU ⟨hi,ao,by rw[W];exact hm⟩
  have aD:Hid (y.data.toList∉Sp.fp->fl i x=Wg):=λhm=>TE (λhc=>hm (by rw[<-W];exact hc.2.2))
  clear W ao;have ab:(Sp.split rest 32).length=1->fE (Sp.split rest 32)=[y.data.toList]:=λh1=>by rw[C h1,hy]
  have q:=r.1;have ad:=r.2;clear C hy r;have C:=ab;clear ab;generalize ax:(Sp.split rest 32).length=l at aa C q ad ⊢;have ae:=cU aa;have aN:=cU aw;have aE:=cU C;have aS:0<l:=q;have aT:(0:Int)<(l:Int):=by omega
  have aU:l<=2001:=by omega
  clear R au ai T sf aB an aa aC aw V K q ad C ax;simp only[TM] at o;go_wp2_with fail;refine(pO y w1).mono ?_;rintro e w2 ⟨t,⟨k,ah,aj,rfl⟩|⟨aF,rfl⟩⟩
  .have G:=A.trans (t.mono A.size);have P:=(t.block (N (E w)+1) (Ts.1 B).1).trans B;have u:=(Ts.1 P).1;have s:(w2.alloc (D #[H (qY k),Z Y (ow k),pM k] 152)).heap[N (E w)+1]?=_:=(TD _ _ _ u).trans P;have I:=G.alloc (To (Uh _) (Ub u)) (D #[H (qY k),Z Y (ow k),pM k] 152);obtain⟨k0,k1,k2,k3,M⟩:=wL s;have f0:=M 0;have f1:=M 1;have f2:=M 2;have f3:=M 3;have af:y.data.toList∈Sp.fp:=by
    rw[<-aj,getElem!_pos Sp.fp k ah];exact Uc _
   have ak:=(((I.setCell (p:=⟨N (E w)+1,0,U⟩) (by simp) (J U 0 0)).setCell (p:=⟨N (E w)+1,1,U⟩) (by simp) (H (qY k))).setCell (p:=⟨N (E w)+1,2,U⟩) (by simp) (Z Y (ow k))).setCell (p:=⟨N (E w)+1,3,U⟩) (by simp) (pM k);by_cases hN:l=1
   .have Q:Sp.dQ i x=We:=by
     rw[cT ae,hN,TU af];rfl
    have m:=cT az Q _ ak k ah (by rw[cT aN,cT aE hN,aj]) (cT aq af);have ax:((l:Int) == 1)=We:=by subst hN;rfl
    unfold J4;unfold pM at m k0 k1 k2 k3 f0 f1 f2 f3 ⊢;generalize qY k=n1 at *;generalize ow k=n2 at *;generalize (PH[k]!)=n3 at *;clear A G I B P s M t ak Q hN aj u;go_wp2;refine Tj (v := Wb #[Wc #[J U 0 0,H n1,Z Y n2,.func (.func n3) #[] #[]],Wa We]) ?_ O m;simp[results,results110,go_sem,k0,k1,k2,k3]
   .have Q:Sp.dQ i x=Wg:=by
     rw[cT ae,TE hN];rfl
    have m:=cT ar Q _ ak (qY k) (ow k) (pM k) ⟨PH[k]!,by rw[cT aq af];rfl⟩;have ax:((l:Int) == 1)=Wg:=Tt.2 (by omega);unfold J4;unfold pM at m k0 k1 k2 k3 f0 f1 f2 f3 ⊢;generalize qY k=n1 at *;generalize ow k=n2 at *;generalize (PH[k]!)=n3 at *;clear A G I B P s M t ak Q hN aj u;go_wp2;refine Tj (v := Wb #[Wc #[J U 0 0,H n1,Z Y n2,.func (.func n3) #[] #[]],Wa Wg]) ?_ O m;simp[results,results110,go_sem,k0,k1,k2,k3]
  .have G:=A.trans (t.mono A.size);have P:=(t.block (N (E w)+1) (Ts.1 B).1).trans B;have u:=(Ts.1 P).1;have s:(w2.alloc (D #[H ⟨#[]⟩,Z Y 0,.nilFunc] 152)).heap[N (E w)+1]?=_:=(TD _ _ _ u).trans P;have I:=G.alloc (To (Uh _) (Ub u)) (D #[H ⟨#[]⟩,Z Y 0,.nilFunc] 152);obtain⟨k0,k1,k2,k3,M⟩:=wL s;have f0:=M 0;have f1:=M 1;have f2:=M 2;have f3:=M 3;have Q:Sp.dQ i x=Wg:=by
    rw[cT ae,TE aF,Bool.and_false]
   have m:=cT ar Q _ ((((I.setCell (p:=⟨N (E w)+1,0,U⟩) (by simp) (J U 0 0)).setCell (p:=⟨N (E w)+1,1,U⟩) (by simp) (H ⟨#[]⟩)).setCell (p:=⟨N (E w)+1,2,U⟩) (by simp) (Z Y 0)).setCell (p:=⟨N (E w)+1,3,U⟩) (by simp) .nilFunc) ⟨#[]⟩ 0 .nilFunc ⟨0,by rw[cT aD aF];rfl⟩;unfold Fy;clear A G I B P s M t Q u;go_wp2;refine Tj (v := Wb #[Wc #[J U 0 0,H ⟨#[]⟩,Z Y 0,.nilFunc],Wa Wg]) ?_ O m;simp[results,results110,go_sem,k0,k1,k2,k3]
theorem Od:∀i,i<7->Sp.zh[i]!++[58]=Sp.hd i:=by decide
def qq(i:Nat):V8:=⟨⟨Sp.zh[i]!⟩⟩
theorem xT:∀i,i<7->(qq i).size<=10:=by decide
theorem wW(i:Nat)(hi:i<7)(x:V8)(b:Nat)(w:V5)(j:x.size<=2000)(l:ez w)(m:gY b w):V7 prog 110 #[H x,Wc #[H (qq i),Wa (decide (i<5)),Wa (i == 2)],J (S ⟨b,0,U⟩) 25 25] w (nO i x w):=by
 by_cases e:i<5
 .rw[TU e];exact wI i x (qq i) b w e j (xT i hi) (Od i hi) l m
 .rw[TE e,show (i == 2)=Wg from Tt.2 (by omega)];exact wZ i x (qq i) b w (by omega) hi j (xT i hi) (Od i hi) l m
end
theorem yM(p:Addr)(x:Bool)(u:TypeId)(j:V6)(b:List PanicEntry)(w:V5)(l:w.cell? p=S (Wa x))(m:w.frozen? p=Wg):CallsD prog 112 #[V9 (S p)] (.panicking ({ v := .iface u j,recovered:=false }::b)) w λe r y =>
   e=Wd (Wb #[])/\r=.panicking ({ v := .iface u j,recovered:=true }::b)/\y=w.setCell p (Wa Wg):=by
 refine callsD_of_wpS func112 O λz A hu=>?_
 apply wpS_seq;apply wpS_region;simp[wpOpsS,go_sem,recoverD,hu,ntmps112,Exit.thenS];refine wpS_cond (t:=true) (by simp[Act.eval,Array.replicate]) ?_;simp only[TY];apply wpS_region;simp[wpOpsS,go_sem,l,m,bodyPostS,results,results112]
theorem tO(p:Addr)(w:V5):CallsD prog 112 #[V9 (S p)] .returning w λe b j=>e=Wd (Wb #[])/\b=.returning/\j=w:=by
 refine callsD_of_wpS func112 O λl m hu=>?_
 apply wpS_seq;apply wpS_region;simp[wpOpsS,go_sem,recoverD,hu,ntmps112,Exit.thenS];refine wpS_cond (t:=false) (by simp[Act.eval,Array.replicate]) ?_;simp only[VE,Ux];refine wpS_of_wp (wp_skip ?_);cases l
 simp_all [bodyPostS,results,results112]
def et(b:V6)(e:Int)(j:Bool:=true):Array V6 := #[b,Z Y 0,Z Y e,Z Y 0,Z Y 0,Z Y 0,Z Y 0,Z Y 0,Z Y 0,Z Y 0,Z Y 0,Z Y 0,Z Y 0,Z Y 0,Z Y 0,Z Y 0,Z Y 0,Z Y 0,Z Y 0,Z Y 0,Z Y 0,Z Y 0,Z Y 0,Z Y 0,Z Y 0,Z Y 0,Z Y 0,Z Y 0,Z Y 0,J U 0 0,Wa j]
theorem jX.zG{w:V5}{M n t:Nat}{b:V6}(h:w.heap[M]?=S (D (et b n) t)):jX w M b 0 n 0 (J U 0 0):=by
 refine⟨by simp[Wj,h,et],by simp[Wj,h,et],by simp[Wj,h,et],λj e=>?_,λj e=>?_,by simp[Wj,h,et],by simp[Wj,h,et],by simp[Wj,h,et],λj=>by simp[World.frozen?,h]⟩
 .match j,e with
  |0,_=>exact⟨0,by simp[Wj,h,et]⟩
  |1,_=>exact⟨0,by simp[Wj,h,et]⟩
  |2,_=>exact⟨0,by simp[Wj,h,et]⟩
  |3,_=>exact⟨0,by simp[Wj,h,et]⟩
  |4,_=>exact⟨0,by simp[Wj,h,et]⟩
  |5,_=>exact⟨0,by simp[Wj,h,et]⟩
  |6,_=>exact⟨0,by simp[Wj,h,et]⟩
  |7,_=>exact⟨0,by simp[Wj,h,et]⟩
  |8,_=>exact⟨0,by simp[Wj,h,et]⟩
 .match j,e with
  |0,_=>exact⟨0,by simp[Wj,h,et]⟩
  |1,_=>exact⟨0,by simp[Wj,h,et]⟩
  |2,_=>exact⟨0,by simp[Wj,h,et]⟩
  |3,_=>exact⟨0,by simp[Wj,h,et]⟩
  |4,_=>exact⟨0,by simp[Wj,h,et]⟩
  |5,_=>exact⟨0,by simp[Wj,h,et]⟩
  |6,_=>exact⟨0,by simp[Wj,h,et]⟩
  |7,_=>exact⟨0,by simp[Wj,h,et]⟩
  |8,_=>exact⟨0,by simp[Wj,h,et]⟩
  |9,_=>exact⟨0,by simp[Wj,h,et]⟩
  |10,_=>exact⟨0,by simp[Wj,h,et]⟩
  |11,_=>exact⟨0,by simp[Wj,h,et]⟩
  |12,_=>exact⟨0,by simp[Wj,h,et]⟩
  |13,_=>exact⟨0,by simp[Wj,h,et]⟩
  |14,_=>exact⟨0,by simp[Wj,h,et]⟩
  |15,_=>exact⟨0,by simp[Wj,h,et]⟩
  |n+16,e=>exact absurd e (by omega)
theorem below_setRow{B:Nat}{w w':V5}(h:Below B w w'){g:Nat}(e:B<=g)(cs:Array V6):Below B w (w'.setRow g cs):=by
 refine⟨h.1,h.2,h.3,?_,λk b=>?_⟩
 .have:=h.size;simp[World.setRow];exact this
 .rw[<-h.block k b];simp only[World.setRow,Array.getElem?_modify];rw[Tf (by omega)]
structure Ir (w:V5) (g:Nat) (L:List (List UInt8)) (u:TypeId) (p:V6):Prop where
 row:Fx w (N (E w)) g L
 len:Wn L<=4000
 pos:0<Wn L
 fm:Sp.kI We L 0=We
 err:w.cell? ⟨5,0,U⟩=S (.iface u p)
 lt:5<N (E w)
theorem pK(L:List (List UInt8))(g cap:Nat)(u:TypeId)(p:V6)(w:V5)(h:Ir w g L u p):V7 prog 70 #[J (S ⟨g,0,U⟩) (Wn L) cap] w λe o=>e=Wd (Wa (Sp.keeps L))/\V4 w o:=by
 have aa:∀(q:Go.Fn) (first cap:Array V6) (w:V5),(Instr.makeFunc q first cap).run prog w=.ok (.func q first cap) w:=λ_ _ _ _=>O
 have b:=cU h;clear h;obtain⟨P,A⟩:∃P,Hid (Sp.keeps L=P):=⟨_,rfl⟩
 rw[cT A]
 go_enter_defers func70,ntmps70
 iterate 38 (first|go_values|go_skip|go_guarded|go_step|go_upon|(simp only[Int.not_lt,Int.not_le] at *;go_simp))
 refine wp_store_row 223 (.tmp 3) (.tmp 8) O (N (E w)+1) (et (J (S ⟨g,0,U⟩) (Wn L) cap) (Wn L)) O O 223 (et (J U 0 0) 0 Wg) ?h1 (by kernel_rfl) O (by simp[et,Value.oneCell']) ?h2
 case h1 =>
  rw[<-TK w (D #[Wa Wg] 4)];exact Tk _ _
 case h2 =>
 have l:V4 w (((w.alloc (D #[Wa Wg] 4)).alloc (D (et (J U 0 0) 0 Wg) 223)).setRow (N (E w)+1) (et (J (S ⟨g,0,U⟩) (Wn L) cap) (Wn L))):=below_setRow (((Th _ w).alloc V2 _).alloc (by simp) _) (by omega) _;have G:(((w.alloc (D #[Wa Wg] 4)).alloc (D (et (J U 0 0) 0 Wg) 223)).setRow (N (E w)+1) (et (J (S ⟨g,0,U⟩) (Wn L) cap) (Wn L))).heap[N (E w)+1]?=S (D (et (J (S ⟨g,0,U⟩) (Wn L) cap) (Wn L)) 223 (0,0)):=by
  refine Uq _ _ (et (J U 0 0) 0 Wg) _ _ _ ?_;rw[<-TK w (D #[Wa Wg] 4)];exact Tk _ _
 have C:(((w.alloc (D #[Wa Wg] 4)).alloc (D (et (J U 0 0) 0 Wg) 223)).setRow (N (E w)+1) (et (J (S ⟨g,0,U⟩) (Wn L) cap) (Wn L))).heap[N (E w)]?=S (D #[Wa Wg] 4 (0,0)):=by
  simp only[World.setRow,Array.getElem?_modify];rw[Tf (by omega),TD _ _ _ (by simp)];exact Tk w _
 generalize R:World.setRow _ _ _=W;replace l:V4 w W:=by rw[<-R];exact l
 replace G:W.heap[N (E w)+1]?=S (D (et (J (S ⟨g,0,U⟩) (Wn L) cap) (Wn L)) 223 (0,0)):=by rw[<-R];exact G
 replace C:W.heap[N (E w)]?=S (D #[Wa Wg] 4 (0,0)):=by rw[<-R];exact C
 clear R;have I:N (E w)+1<N (E W):=(Ts.1 G).1;have F:=MT L (N (E w)+1) g cap u p W (cT b).len ⟨_,jX.zG G,TH _ _ _ _⟩ (by
  obtain⟨hg,hr⟩:=(cT b).row;refine⟨by omega,λi hi=>?_⟩;obtain⟨fv,h1,h2⟩:=hr i hi;refine⟨fv,(l.cell (p:=⟨g,i*2,U⟩) hg).trans h1,?_⟩;rcases h2 with ⟨B,n,K,q2,q3,q4⟩|h2
  .exact Wh ⟨B,n,by omega,q2,(l.block B K).trans q3,q4⟩
  .exact Wi h2) (cT b).fm (by have:=(cT b).lt;omega) ((l.cell (p:=⟨5,0,U⟩) (cT b).lt).trans (cT b).err)
 have V:=Sp.vW (cT b).fm;go_wp2_with fail;refine F.mono ?_;clear F;rcases V with ⟨T,m⟩|⟨T,m|⟨hh,ab,m⟩⟩
 .obtain rfl:We=P:=T.symm.trans (cT A);rw[m];rintro e j ⟨r,rfl,a,f,x,hd,_⟩;have e1:=hd.hh;have y:j.heap[N (E w)]?=_:=(r.block (N (E w)) (by omega)).trans C;have M:j.cell? ⟨N (E w),0,U⟩=S (Wa Wg):=by simp[Wj,y]
  have X:j.frozen? ⟨N (E w),0,U⟩=Wg:=by simp[World.frozen?,y]
  have z:V4 w j:=l.trans (r.mono (by omega));clear hd r y l G C I;go_wp2;refine leaves_cons (f:=112) (args := #[V9 (S ⟨N (E w),0,U⟩)]) (by simp) (by simp[go_sem]) ?_;refine(tO ⟨N (E w),0,U⟩ _).mono ?_;rintro e t Q ⟨rfl,rfl,rfl⟩;have K:=T0 j ⟨N (E w),0,U⟩ (Wa We) M;simp[Leaves,settle,results,results70,go_sem,K];exact z.setCell V2 _
 .obtain rfl:Wg=P:=T.symm.trans (cT A);rw[m];rintro e j ⟨r,rfl⟩;have y:j.heap[N (E w)]?=_:=(r.block (N (E w)) (by omega)).trans C;have M:j.cell? ⟨N (E w),0,U⟩=S (Wa Wg):=by simp[Wj,y]
  have X:j.frozen? ⟨N (E w),0,U⟩=Wg:=by simp[World.frozen?,y]
  have z:V4 w j:=l.trans (r.mono (by omega));clear r y l G C I;go_wp2;refine leaves_cons (f:=112) (args := #[V9 (S ⟨N (E w),0,U⟩)]) (by simp) (by simp[go_sem]) ?_;refine(yM ⟨N (E w),0,U⟩ Wg u p [] _ M X).mono ?_;rintro e t Q ⟨rfl,rfl,rfl⟩;have K:=T0 j ⟨N (E w),0,U⟩ (Wa Wg) M;simp[Leaves,settle,results,results70,go_sem,K];exact z.setCell V2 _
 .obtain rfl:Wg=P:=T.symm.trans (cT A);rw[m];rintro e j ⟨r,rfl,a,f,x,hd,_⟩;have e1:=hd.hh;have y:j.heap[N (E w)]?=_:=(r.block (N (E w)) (by omega)).trans C;have M:j.cell? ⟨N (E w),0,U⟩=S (Wa Wg):=by simp[Wj,y]
  have X:j.frozen? ⟨N (E w),0,U⟩=Wg:=by simp[World.frozen?,y]
  have z:V4 w j:=l.trans (r.mono (by omega));have s:((hh:Int) == 1)=Wg:=Tt.2 (by omega);clear hd r y l G C I;go_wp2;refine leaves_cons (f:=112) (args := #[V9 (S ⟨N (E w),0,U⟩)]) (by simp) (by simp[go_sem]) ?_;refine(tO ⟨N (E w),0,U⟩ _).mono ?_;rintro e t Q ⟨rfl,rfl,rfl⟩;have K:=T0 j ⟨N (E w),0,U⟩ (Wa Wg) M;simp[Leaves,settle,results,results70,go_sem,K];exact z.setCell V2 _
section
def tL:List V6:=[H (qq 0),Wa We,Wa Wg,H (qq 1),Wa We,Wa Wg,H (qq 2),Wa We,Wa We,H (qq 3),Wa We,Wa Wg,H (qq 4),Wa We,Wa Wg,H (qq 5),Wa Wg,Wa Wg,H (qq 6),Wa Wg,Wa Wg]
def jF(w:V5):Prop:=w.rangeAt 0 0 tL
variable {w:V5}
theorem jF.lt(h:jF w): 0<N (E w):=Tu w _ (h 0 _ O)
theorem jF.below{w':V5}{B:Nat}(h:jF w)(hb:Below B w w')(e:0<B): jF w':=λj v l=>(hb.cell (p:=⟨0,0+j,U⟩) e).trans (h j v l)
theorem Ig:(i:Nat)->i<7->∀W:V5,(Instr.index 160 (Wc tL.toArray) (Z Y i)).run prog W=.ok (Wc #[H (qq i),Wa (decide (i<5)),Wa (i == 2)]) W
 |0,_=>λW=>by kernel_rfl
 |1,_=>λW=>by kernel_rfl
 |2,_=>λW=>by kernel_rfl
 |3,_=>λW=>by kernel_rfl
 |4,_=>λW=>by kernel_rfl
 |5,_=>λW=>by kernel_rfl
 |6,_=>λW=>by kernel_rfl
 |n+7,h=>absurd h (by omega)
def AQ:Array V6 := #[J U 0 0,H ⟨#[]⟩,Z Y 0,.nilFunc,J U 0 0,H ⟨#[]⟩,Z Y 0,.nilFunc,J U 0 0,H ⟨#[]⟩,Z Y 0,.nilFunc,J U 0 0,H ⟨#[]⟩,Z Y 0,.nilFunc,J U 0 0,H ⟨#[]⟩,Z Y 0,.nilFunc,J U 0 0,H ⟨#[]⟩,Z Y 0,.nilFunc,J U 0 0,H ⟨#[]⟩,Z Y 0,.nilFunc]
structure SV (C:Array V6) (j:Nat) (p:Option Addr) (n cap:Nat) (b:V8) (z:Int) (q:Bool) (F:Nat):Prop where
 c0:C[j*4]?=S (J p n cap)
 c1:C[j*4+1]?=S (H b)
 c2:C[j*4+2]?=S (Z Y z)
 c3:C[j*4+3]?=S (lO q F)
structure mG (X:List V8) (w:V5) (P:Nat) (C:Array V6) (i:Nat):Prop where
 size:C.size=28
 shape:∀j,j<7->∃p n cap b z q F,SV C j p n cap b z q F
 code:∀j,j<i->j<5->∃g cap,C[j*4]?=S (J (S ⟨g,0,U⟩) (mM (X.getD j ⟨#[]⟩)).length cap)/\P<g/\ft w g (mM (X.getD j ⟨#[]⟩))
 comb:∀j,j<i->5<=j->∃k,k<3/\C[j*4+2]?=S (Z Y (ow k))/\C[j*4+3]?=S (pM k)/\mM (X.getD j ⟨#[]⟩)=[Sp.fp[k]!]
theorem G8:(j:Nat)->j<7->SV AQ j U 0 0 ⟨#[]⟩ 0 Wg 0
 |0,_=>⟨rfl,rfl,rfl,rfl⟩
 |1,_=>⟨rfl,rfl,rfl,rfl⟩
 |2,_=>⟨rfl,rfl,rfl,rfl⟩
 |3,_=>⟨rfl,rfl,rfl,rfl⟩
 |4,_=>⟨rfl,rfl,rfl,rfl⟩
 |5,_=>⟨rfl,rfl,rfl,rfl⟩
 |6,_=>⟨rfl,rfl,rfl,rfl⟩
 |n+7,h=>absurd h (by omega)
theorem OU(X:List V8)(w:V5)(P:Nat):mG X w P AQ 0:=⟨O,λj e=>⟨_,_,_,_,_,_,_,G8 j e⟩,λj e=>absurd e (by omega),λj e=>absurd e (by omega)⟩
variable {C:Array V6}{X:List V8}{i:Nat}
theorem mG.below{w':V5}{P:Nat}(h:mG X w P C i)(hb:V4 w w'): mG X w' P C i:=⟨h.size,h.shape,λj e l=>by obtain⟨g,cap,a,b,c⟩:=h.code j e l;exact⟨g,cap,a,b,c.below hb⟩,h.comb⟩
def tZ(C:Array V6)(i:Nat)(a b c d:V6):Array V6:=(((C.setIfInBounds (i*4) a).setIfInBounds (i*4+1) b).setIfInBounds (i*4+2) c).setIfInBounds (i*4+3) d
theorem GV(C:Array V6)(i:Nat)(a b c d:V6):(tZ C i a b c d).size=C.size:=by simp[tZ]
theorem ja{j:Nat}{a b c d:V6}(h:j<i*4\/i*4+4<=j): (tZ C i a b c d)[j]?=C[j]?:=by
 unfold tZ;rw[U9 (by omega),U9 (by omega),U9 (by omega),U9 (by omega)]
theorem Gh{a b c d:V6}(h:i*4+4<=C.size): (tZ C i a b c d)[i*4]?=S a/\(tZ C i a b c d)[i*4+1]?=S b/\(tZ C i a b c d)[i*4+2]?=S c/\(tZ C i a b c d)[i*4+3]?=S d:=by
 unfold tZ;refine⟨?_,?_,?_,?_⟩
 .rw[U9 (by omega),U9 (by omega),U9 (by omega),V0,Tg (by omega)]
 .rw[U9 (by omega),U9 (by omega),V0,Tg (by simp;omega)]
 .rw[U9 (by omega),V0,Tg (by simp;omega)]
 .rw[V0,Tg (by simp;omega)]
variable {b:V8}{cap n:Nat}{p:Option Addr}{z:Int}
theorem mG.next{P:Nat}{F:Nat}{q:Bool}(h:mG X w P C i)(hi:i<7)(R:w.heap[P]?=S (D C 157 (0,0)))(hc:i<5->n=(mM (X.getD i ⟨#[]⟩)).length/\∃g,p=S ⟨g,0,U⟩/\P<g/\ft w g (mM (X.getD i ⟨#[]⟩)))(hm:5<=i->∃k,k<3/\z=ow k/\lO q F=pM k/\mM (X.getD i ⟨#[]⟩)=[Sp.fp[k]!]):mG X ((((w.setCell ⟨P,i*4,U⟩ (J p n cap)).setCell ⟨P,i*4+1,U⟩ (H b)).setCell ⟨P,i*4+2,U⟩ (Z Y z)).setCell ⟨P,i*4+3,U⟩ (lO q F)) P (tZ C i (J p n cap) (H b) (Z Y z) (lO q F)) (i+1)
 /\((((w.setCell ⟨P,i*4,U⟩ (J p n cap)).setCell ⟨P,i*4+1,U⟩ (H b)).setCell ⟨P,i*4+2,U⟩ (Z Y z)).setCell ⟨P,i*4+3,U⟩ (lO q F)).heap[P]?=S (D (tZ C i (J p n cap) (H b) (Z Y z) (lO q F)) 157 (0,0)):=by
 have A:=h.size;obtain⟨T,s1,V,W⟩:=Gh (C:=C) (i:=i) (a := J p n cap) (b := H b) (c := Z Y z) (d:=lO q F) (by omega);have t:=fa (i:=i*4) R (J p n cap);have s:=fa (i:=i*4+1) t (H b);have o:=fa (i:=i*4+2) s (Z Y z);have b4:=fa (i:=i*4+3) o (lO q F);have m:∀g L,ft w g L->P<g->ft ((((w.setCell ⟨P,i*4,U⟩ (J p n cap)).setCell ⟨P,i*4+1,U⟩ (H b)).setCell ⟨P,i*4+2,U⟩ (Z Y z)).setCell ⟨P,i*4+3,U⟩ (lO q F)) g L:=λg L r l =>
  ((((r.aside R l (by decide) _ _).1.aside t l (by decide) _ _).1.aside s l (by decide) _ _).1.aside o l (by decide) _ _).1
 refine⟨⟨by rw[GV];exact A,λj B=>?_,λj B y=>?_,λj B y=>?_⟩,b4⟩
 .by_cases e:j=i
  .subst e;exact⟨p,n,cap,b,z,q,F,T,s1,V,W⟩
  .obtain⟨p',n',u,b',z',q',F',G,c1,I,K⟩:=h.shape j B;exact⟨p',n',u,b',z',q',F',(ja (by omega)).trans G,(ja (by omega)).trans c1,(ja (by omega)).trans I,(ja (by omega)).trans K⟩
 .by_cases e:j=i
  .subst e;obtain⟨rfl,g,rfl,l,r⟩:=hc y;exact⟨g,cap,T,l,m _ _ r l⟩
  .obtain⟨g,u,G,l,r⟩:=h.code j (by omega) y;exact⟨g,u,(ja (by omega)).trans G,l,m _ _ r l⟩
 .by_cases e:j=i
  .subst e;obtain⟨k,M,rfl,hf,Q⟩:=hm y;exact⟨k,M,V,by rw[<-hf];exact W,Q⟩
  .obtain⟨k,M,I,K,Q⟩:=h.comb j (by omega) y;exact⟨k,M,(ja (by omega)).trans I,(ja (by omega)).trans K,Q⟩
def J0(X:List V8)(w:V5)(e:Ending)(w':V5):Prop:=V4 w w'/\∃i,i<=7/\i<=Wn X/\(∀j,j<i->Sp.dQ j (X.getD j ⟨#[]⟩)=We)/\
  ((i<7/\(i=Wn X\/(i<Wn X/\Sp.dQ i (X.getD i ⟨#[]⟩)=Wg))/\e=Wd (Wb #[V9 U,Z Y i,Wa Wg]))\/
     (i=7/\(Wn X)≠7/\∃P,e=Wd (Wb #[V9 P,Z Y 7,Wa Wg]))\/
     (i=7/\(Wn X)=7/\∃P C,N (E w)<=P/\e=Wd (Wb #[V9 (S ⟨P,0,U⟩),Z Y 7,Wa We])/\w'.heap[P]?=S (D C 157 (0,0))/\mG X w' P C 7))
structure qi (X:List V8) (w wr:V5) (i:Nat) (C:Array V6):Prop where
 i7:i<=7
 il:i<=Wn X
 below:V4 w wr
 prog:wr.heap[N (E w)]?=S (D C 157 (0,0))
 words:gY (N (E w)+1) wr
 lines:mG X wr (N (E w)) C i
 ok:∀j,j<i->Sp.dQ j (X.getD j ⟨#[]⟩)=We
theorem ft.drew{g:Nat}{L:List (List UInt8)}(h:ft w g L): ft w.drew g L:=⟨h.lt,h.fn,h.tX⟩
variable {wr:V5}
theorem qi.drew(h:qi X w wr i C): qi X w wr.drew i C:=⟨h.i7,h.il,h.below.drew,h.prog,h.words,⟨h.lines.size,h.lines.shape,λj e l=>by obtain⟨g,cap,a,b,c⟩:=h.lines.code j e l;exact⟨g,cap,a,b,c.drew⟩,h.lines.comb⟩,h.ok⟩
structure Rr (i:Nat) (x:V8) (wr W:V5) (LB:Nat) (p:Option Addr) (n cap:Nat) (b:V8) (z:Int) (f:V6):Prop where
 below:V4 wr W
 cells:W.heap[LB]?=S (D #[J p n cap,H b,Z Y z,f] 154 (0,0))
 code:Sp.dQ i x=We->i<5->n=(mM x).length/\∃g,p=S ⟨g,0,U⟩/\(N (E wr))<=g/\ft W g (mM x)
variable {f:V6}{x:V8}
theorem Rx{j w3:V5}{G I K L:V6}(l:V4 wr j)(V:N (E wr)+2<=N (E j))(m:V4 j w3)(y:w3.heap[N (E wr)+1]?=S (D #[G,I,K,L] 154 (0,0)))(M:Sp.dQ i x=We->i<5->n=(mM x).length/\∃g,p=S ⟨g,0,U⟩/\(N (E j))<=g/\ft w3 g (mM x)):Rr i x wr ((((w3.setCell ⟨N (E wr)+1,0,U⟩ (J p n cap)).setCell ⟨N (E wr)+1,1,U⟩ (H b)).setCell ⟨N (E wr)+1,2,U⟩ (Z Y z)).setCell ⟨N (E wr)+1,3,U⟩ f) (N (E wr)+1) p n cap b z f:=by
 have A:=fa (i:=0) y (J p n cap);have B:=fa (i:=1) A (H b);have F:=fa (i:=2) B (Z Y z);have P:=fa (i:=3) F f;refine⟨((((l.trans (m.mono l.size)).setCell (p:=⟨N (E wr)+1,0,U⟩) (Uh _) _).setCell (p:=⟨N (E wr)+1,1,U⟩) (Uh _) _).setCell (p:=⟨N (E wr)+1,2,U⟩) (Uh _) _).setCell (p:=⟨N (E wr)+1,3,U⟩) (Uh _) _,P,λr Q=>?_⟩;obtain⟨R,g,T,W,u⟩:=M r Q;have e:N (E wr)+1<g:=by omega
 exact⟨R,g,T,by omega,((((u.aside y e (by decide) _ _).1.aside A e (by decide) _ _).1.aside B e (by decide) _ _).1.aside F e (by decide) _ _).1⟩
theorem Qz{j w3:V5}(e:V4 wr j)(l:V4 j w3)(y:Sp.dQ i x=We->i<5->n=(mM x).length/\∃g,p=S ⟨g,0,U⟩/\(N (E j))<=g/\ft w3 g (mM x)):Rr i x wr (w3.alloc (D #[J p n cap,H b,Z Y z,f] 154)) (N (E w3)) p n cap b z f:=by
 have u:=e.trans (l.mono e.size);refine⟨u.alloc u.size _,Tk w3 _,λm A=>?_⟩;obtain⟨B,g,F,G,r⟩:=y m A;exact⟨B,g,F,To e.size G,r.below (V3.alloc V2 _)⟩
theorem Av{W:V5}{K:Nat}{q:Bool}{F:Nat}(l:qi X w wr i C)(L:i<7)(M:i<Wn X)(u:X.getD i ⟨#[]⟩=x)(hF:Rr i x wr W K p n cap b z (lO q F))(m:Sp.dQ i x=We)(P:Sp.dQ i x=We->5<=i->∃k,k<3/\b=qY k/\z=ow k/\lO q F=pM k/\mM x=[Sp.fp[k]!]):qi X w ((((W.setCell ⟨N (E w),i*4,U⟩ (J p n cap)).setCell ⟨N (E w),i*4+1,U⟩ (H b)).setCell ⟨N (E w),i*4+2,U⟩ (Z Y z)).setCell ⟨N (E w),i*4+3,U⟩ (lO q F)) (i+1) (tZ C i (J p n cap) (H b) (Z Y z) (lO q F)):=by
 have y:N (E w)<N (E wr):=(Ts.1 l.prog).1;have Q:W.heap[N (E w)]?=S (D C 157 (0,0)):=(hF.below.block _ y).trans l.prog;have A:=l.below.trans (hF.below.mono l.below.size);obtain⟨R,B⟩:=(l.lines.below hF.below).next (p:=p) (n:=n) (cap:=cap) (b:=b) (z:=z) (F:=F) (q:=q) L Q (λG=>by
  rw[u];obtain⟨T,g,B,s,I⟩:=hF.code m G;exact⟨T,g,B,by omega,I⟩) (λG=>by
   rw[u];obtain⟨k,V,_,h,t,r⟩:=P m G;exact⟨k,V,h,t,r⟩)
 refine⟨by omega,by omega,(((A.setCell (p:=⟨N (E w),i*4,U⟩) V2 _).setCell (p:=⟨N (E w),i*4+1,U⟩) V2 _).setCell (p:=⟨N (E w),i*4+2,U⟩) V2 _).setCell (p:=⟨N (E w),i*4+3,U⟩) V2 _,B,?_,R,λj o=>?_⟩
 .have r:=l.words.below hF.below;unfold gY at r ⊢;rw[Tv _ _ _ _ (by simp),Tv _ _ _ _ (by simp),Tv _ _ _ _ (by simp),Tv _ _ _ _ (by simp)];exact r
 .by_cases e:j=i
  .subst e;rw[u];exact m
  .exact l.ok j (by omega)
theorem ym{W:V5}{u:Nat}(l:qi X w wr i C)(y:i<7)(hF:Rr i x wr W u p n cap b z f):(∃v,W.cell? ⟨N (E w),i*4,U⟩=S v)/\(∃v,W.cell? ⟨N (E w),i*4+1,U⟩=S v)/\(∃v,W.cell? ⟨N (E w),i*4+2,U⟩=S v)/\(∃v,W.cell? ⟨N (E w),i*4+3,U⟩=S v)/\∀j,W.frozen? ⟨N (E w),j,U⟩=Wg:=by
 have m:N (E w)<N (E wr):=(Ts.1 l.prog).1;have e:W.heap[N (E w)]?=S (D C 157 (0,0)):=(hF.below.block _ m).trans l.prog;obtain⟨I,K,r,L,M,P,Q,A,B,F,G⟩:=l.lines.shape i y;refine⟨⟨_,(Ti W _ _ C _ _ e).trans A⟩,⟨_,(Ti W _ _ C _ _ e).trans B⟩,⟨_,(Ti W _ _ C _ _ e).trans F⟩,⟨_,(Ti W _ _ C _ _ e).trans G⟩,λj=>by simp[World.frozen?,e]⟩
theorem wj(X:List V8)(p:Option Addr)(cap:Nat)(w:V5)(hX:NI w p X)(hl:Wn X<=2001)(hz:∀x∈X,x.size<=2000)(hS:jF w)(hg:ez w):V7 prog 68 #[J p (Wn X) cap] w (J0 X w):=by
 have HX:=cU hX;have HZ:=cU hz;have HS:=cU hS;have HG:=cU hg;clear hX hz hS hg;generalize hO:J0 X w=l;replace hO:=cU hO;go_enter func68,ntmps68;go_wp2_with fail;refine(GG _).mono ?_;rintro e w1 ⟨rfl,ag,ah⟩;have ai:V4 w w1:=((Th _ w).alloc V2 _).trans (ag.mono (by simp));have aq:w1.heap[N (E w)]?=S (D AQ 157 (0,0)):=(ag.block _ (by simp)).trans (Tk w _);rw[TK] at ah;have ar:Hid (qi X w w1 0 AQ):=⟨by omega,by omega,ai,aq,ah,OU _ _ _,λj hj=>absurd hj (by omega)⟩
 have au:=(cT HS).below ai (cT HS).lt;clear ag ai aq ah
 iterate 12 (first|go_values|go_skip|go_guarded|go_step|go_upon|(simp only[Int.not_lt,Int.not_le] at *;go_simp))
 refine wp_load_mid 160 (.global 0) O 0 0 O tL _ au underlying160 O (by kernel_rfl) ?_;clear au;go_wp2_with fail
 go_loopw [14] (λu wr=>∃(i:Nat) (C:Array V6),u=Z Y i/\Hid (qi X w wr i C)) (λu _=>7-(intOf u).toNat)
 case atStart=>exact⟨0,AQ,rfl,ar⟩
 case round =>
  obtain⟨i,C,rfl,HI⟩:=hrel;clear ar;have av:=(cT HI).i7;have ad:=(cT HI).il;by_cases h7:i<7
  .have c1:(i:Int)<7:=by omega
   have aw:=Ig i h7;obtain⟨nm,ax⟩:∃nm,Hid (nm=qq i):=⟨_,rfl⟩
   obtain⟨ic,ay⟩:∃ic,Hid (ic=decide (i<5)):=⟨_,rfl⟩
   obtain⟨hw,az⟩:∃hw,Hid (hw=(i == 2)):=⟨_,rfl⟩
   rw[<-cT ax,<-cT ay,<-cT az] at aw;by_cases ae:i=Wn X
   .have c2:((i:Int) == (Wn X:Int))=We:=by rw[ae];exact beq_self_eq_true _
    have m:l (Wd (Wb #[V9 U,Z Y i,Wa Wg])) (wr.alloc (D #[H nm,Wa ic,Wa hw] 159)):=by
     have r:=cT HI;rw[<-cT hO];exact⟨r.below.alloc r.below.size _,i,av,ad,r.ok,Wh ⟨h7,Wh ae,O⟩⟩
    clear ae;go_wp2;exact Tj (v := Wb #[V9 U,Z Y i,Wa Wg]) (by simp[results,results68,go_sem]) O m
   .have c2:((i:Int) == (Wn X:Int))=Wg:=Tt.2 (by omega);have c3:(i:Int)<(Wn X:Int):=by omega
    have K:i<Wn X:=by omega
    have g0:(0:Int)<=(i:Int):=TS _;have r:=cT HI;obtain⟨g,L,rfl,aA,M⟩:=(cT HX) i K;have af:wr.cell? ⟨g,L+i,U⟩=S (H X[i]):=(r.below.cell (p:=⟨g,L+i,U⟩) aA).trans M;have aB:=(cT HZ) _ (Uc K);have aj:X.getD i ⟨#[]⟩=X[i]:=by rw[Ty,Tw K];rfl
    generalize X[i]=x at af aB aj;have ak:=cU aj;have P:g<N (E wr):=TI aA r.below.size;have aC:(wr.alloc (D #[H nm,Wa ic,Wa hw] 159)).cell? ⟨g,L+i,U⟩=S (H x):=(((Th (N (E wr)) wr).alloc V2 _).cell (p:=⟨g,L+i,U⟩) P).trans af;have aD:((wr.alloc (D #[H nm,Wa ic,Wa hw] 159)).alloc (D #[J U 0 0,H ⟨#[]⟩,Z Y 0,.nilFunc] 154)).cell? ⟨g,L+i,U⟩=S (H x):=((((Th (N (E wr)) wr).alloc V2 _).alloc (by simp) _).cell (p:=⟨g,L+i,U⟩) P).trans af;have Q:Hid (V4 wr (wr.alloc (D #[H nm,Wa ic,Wa hw] 159)).drew):=((Th (N (E wr)) wr).alloc V2 _).drew;have R:Hid (V4 wr ((wr.alloc (D #[H nm,Wa ic,Wa hw] 159)).alloc (D #[J U 0 0,H ⟨#[]⟩,Z Y 0,.nilFunc] 154)).drew):=(((Th (N (E wr)) wr).alloc V2 _).alloc (by simp) _).drew;have an:Hid (((wr.alloc (D #[H nm,Wa ic,Wa hw] 159)).alloc (D #[J U 0 0,H ⟨#[]⟩,Z Y 0,.nilFunc] 154)).drew.heap[N (E wr)+1]?=S (D #[J U 0 0,H ⟨#[]⟩,Z Y 0,.nilFunc] 154)):=by
     show _=_
     have h:=Tk (wr.alloc (D #[H nm,Wa ic,Wa hw] 159)) (D #[J U 0 0,H ⟨#[]⟩,Z Y 0,.nilFunc] 154);rw[TK] at h;exact h
    have HR:Hid (∀W,V4 wr W->V7 prog 110 #[H x,Wc #[H nm,Wa ic,Wa hw],J (S ⟨N (E w)+1,0,U⟩) 25 25] W (nO i x W)):=by
     show ∀W,_
     intro W aE;rw[cT ax,cT ay,cT az];exact wW i h7 x (N (E w)+1) W aB (gQ (cT HG) (r.below.trans (aE.mono r.below.size)) (cT HG).lt) (r.words.below aE)
    clear M aj r af P ae;go_upto_region 8 with fail
    go_cut [9,10] (λlp aF wx=>∃(LB:Nat) (p3:Option Addr) (n3 y:Nat) (b3:V8) (z3:Int) (F:Nat),lp=V9 (S ⟨LB,0,U⟩)/\aF=Wa (Sp.dQ i x)/\Hid (Rr i x wr wx LB p3 n3 y b3 z3 (lO (fl i x) F))/\Hid (Sp.dQ i x=We->5<=i->∃k,k<3/\b3=qY k/\z3=ow k/\lO (fl i x) F=pM k/\mM x=[Sp.fp[k]!]))
    case first =>
     cases hq:fl i x with
     |true =>
      go_region_with (go_at_call 110;refine(cT HR _ ?_).mono ?_;(first|exact cT R|exact cT Q);rintro e w3 ⟨G,p3,n3,y,b3,z3,f3,rfl,⟨F,hF⟩,T,V⟩;rw[hq] at hF;subst hF;unfold lO;have t:=cU T;have B:=cU V;have s:=cU G;clear T V;(try (have hk:=(G.block (N (E wr)+1) (by simp)).trans (cT an);obtain⟨k0,k1,k2,k3,I⟩:=wL hk;have f0:=I 0;have f1:=I 1;have f2:=I 2;have f3:=I 3;have HK:=cU hk;clear I hk));clear G)
      all_goals
       go_wp2_with fail
       go_meet
       refine⟨_,p3,n3,y,b3,z3,F,O,O,?_,by rw[hq];exact B⟩;rw[hq]
       first
       |exact Rx (cT R) (by simp) (cT s) (cT HK) (cT t)
       |exact Qz (cT Q) (cT s) (cT t)
     |false =>
      go_region_with (go_at_call 110;refine(cT HR _ ?_).mono ?_;(first|exact cT R|exact cT Q);rintro e w3 ⟨G,p3,n3,y,b3,z3,f3,rfl,⟨F,hF⟩,T,V⟩;rw[hq] at hF;subst hF;unfold lO;have t:=cU T;have B:=cU V;have s:=cU G;clear T V;(try (have hk:=(G.block (N (E wr)+1) (by simp)).trans (cT an);obtain⟨k0,k1,k2,k3,I⟩:=wL hk;have f0:=I 0;have f1:=I 1;have f2:=I 2;have f3:=I 3;have HK:=cU hk;clear I hk));clear G)
      all_goals
       go_wp2_with fail
       go_meet
       refine⟨_,p3,n3,y,b3,z3,F,O,O,?_,by rw[hq];exact B⟩;rw[hq]
       first
       |exact Rx (cT R) (by simp) (cT s) (cT HK) (cT t)
       |exact Qz (cT Q) (cT s) (cT t)
    case rest =>
    obtain⟨LB,p3,n3,y,b3,z3,F,rfl,rfl,A,B⟩:=hcut;clear R Q an HR aC aD aw;cases ao:Sp.dQ i x with
    |true =>
     cases hq:fl i x with
     |true =>
      rw[hq] at A B;obtain⟨k0,k1,k2,k3,I⟩:=wL (cT A).cells;obtain⟨⟨v0,m0⟩,⟨v1,m1⟩,⟨v2,m2⟩,⟨v3,m3⟩,o⟩:=ym (cT HI) h7 (cT A);have j0:=o (i*4);have j1:=o (i*4+1);have j2:=o (i*4+2);have j3:=o (i*4+3);have aa:=cU (Av (F:=F) (q:=true) (cT HI) h7 K (cT ak) (cT A) ao (cT B));unfold lO at aa k3;clear I o;go_wp2_with fail
      go_region
      all_goals
       go_wp2;go_roundw
       case rel=>exact⟨i+1,_,by go_num,qi.drew aa⟩
       case measure=>simp[intOf];omega
     |false =>
      rw[hq] at A B;obtain⟨k0,k1,k2,k3,I⟩:=wL (cT A).cells;obtain⟨⟨v0,m0⟩,⟨v1,m1⟩,⟨v2,m2⟩,⟨v3,m3⟩,o⟩:=ym (cT HI) h7 (cT A);have j0:=o (i*4);have j1:=o (i*4+1);have j2:=o (i*4+2);have j3:=o (i*4+3);have aa:=cU (Av (F:=F) (q:=false) (cT HI) h7 K (cT ak) (cT A) ao (cT B));unfold lO at aa k3;clear I o;go_wp2_with fail
      go_region
      all_goals
       go_wp2;go_roundw
       case rel=>exact⟨i+1,_,by go_num,qi.drew aa⟩
       case measure=>simp[intOf];omega
    |false =>
     have m:l (Wd (Wb #[V9 U,Z Y i,Wa Wg])) wc:=by
      have r:=cT HI;rw[<-cT hO];exact⟨r.below.trans ((cT A).below.mono r.below.size),i,av,ad,r.ok,Wh ⟨h7,Wi ⟨K,by rw[cT ak];exact ao⟩,O⟩⟩
     go_wp2;exact Tj (v := Wb #[V9 U,Z Y i,Wa Wg]) (by simp[results,results68,go_sem]) O m
  .have e7:i=7:=by omega
   subst e7;have r:=cT HI;by_cases ab:Wn X=7
   .have c2:((Wn X:Int) == 7)=We:=by rw[ab];rfl
    have m:l (Wd (Wb #[V9 (S ⟨N (E w),0,U⟩),Z Y 7,Wa We])) wr:=by
     rw[<-cT hO];exact⟨r.below,7,by omega,ad,r.ok,Wi (Wi ⟨O,ab,N (E w),C,Te _,O,r.prog,r.lines⟩)⟩
    clear ab r;go_wp2;exact Tj (v := Wb #[V9 (S ⟨N (E w),0,U⟩),Z Y 7,Wa We]) (by simp[results,results68,go_sem]) O m
   .have c2:((Wn X:Int) == 7)=Wg:=Tt.2 (by omega);have m:l (Wd (Wb #[V9 (S ⟨N (E w),0,U⟩),Z Y 7,Wa Wg])) wr:=by
     rw[<-cT hO];exact⟨r.below,7,by omega,ad,r.ok,Wi (Wh ⟨O,ab,_,O⟩)⟩
    clear ab r;go_wp2;exact Tj (v := Wb #[V9 (S ⟨N (E w),0,U⟩),Z Y 7,Wa Wg]) (by simp[results,results68,go_sem]) O m
end
section
theorem Df(G I K L M P Q R T V b e a12 j l m r u y z a20 a21 a22 A a24 B C F:V6)(W:V5):(i:Nat)->i<7->∃X k x q,(Instr.index 155 (Wc #[G,I,K,L,M,P,Q,R,T,V,b,e,a12,j,l,m,r,u,y,z,a20,a21,a22,A,a24,B,C,F]) (Z Y i)).run prog W=.ok (Wc #[X,k,x,q]) W/\#[G,I,K,L,M,P,Q,R,T,V,b,e,a12,j,l,m,r,u,y,z,a20,a21,a22,A,a24,B,C,F][i*4]?=S X/\#[G,I,K,L,M,P,Q,R,T,V,b,e,a12,j,l,m,r,u,y,z,a20,a21,a22,A,a24,B,C,F][i*4+1]?=S k/\#[G,I,K,L,M,P,Q,R,T,V,b,e,a12,j,l,m,r,u,y,z,a20,a21,a22,A,a24,B,C,F][i*4+2]?=S x/\#[G,I,K,L,M,P,Q,R,T,V,b,e,a12,j,l,m,r,u,y,z,a20,a21,a22,A,a24,B,C,F][i*4+3]?=S q
 |0,_=>⟨_,_,_,_,by kernel_rfl,rfl,rfl,rfl,rfl⟩
 |1,_=>⟨_,_,_,_,by kernel_rfl,rfl,rfl,rfl,rfl⟩
 |2,_=>⟨_,_,_,_,by kernel_rfl,rfl,rfl,rfl,rfl⟩
 |3,_=>⟨_,_,_,_,by kernel_rfl,rfl,rfl,rfl,rfl⟩
 |4,_=>⟨_,_,_,_,by kernel_rfl,rfl,rfl,rfl,rfl⟩
 |5,_=>⟨_,_,_,_,by kernel_rfl,rfl,rfl,rfl,rfl⟩
 |6,_=>⟨_,_,_,_,by kernel_rfl,rfl,rfl,rfl,rfl⟩
 |n+7,h=>absurd h (by omega)
variable {i:Nat}
theorem KF{C:Array V6}(R:C.size=28)(hi:i<7){Q c1 c2 c3:V6}(T:C[i*4]?=S Q)(h1:C[i*4+1]?=S c1)(h2:C[i*4+2]?=S c2)(V:C[i*4+3]?=S c3)(W:V5):(Instr.index 155 (Wc C) (Z Y i)).run prog W=.ok (Wc #[Q,c1,c2,c3]) W:=by
 obtain⟨l⟩:=C
 match l,R with
 |[X,k,x,q,h,f,t,p,o,n,r,u,a12,y,z,A,B,F,G,I,a20,a21,a22,K,a24,L,M,P],_ =>
  obtain⟨b0,b1,b2,b3,g,b,e,j,m⟩:=Df X k x q h f t p o n r u a12 y z A B F G I a20 a21 a22 K a24 L M P W i hi;rw[T] at b;rw[h1] at e;rw[h2] at j;rw[V] at m;injection b with b;injection e with e;injection j with j;injection m with m;rw[b,e,j,m];exact g
def AK(s:V8)(w:V5)(e:Ending)(w':V5):Prop:=V4 w w'/\∃b,e=Wd (Wb #[V9 b,Z Y (Sp.comp s).1,Z Y (Sp.comp s).2])/\
  ((Sp.comp s).1=0->∃P C,b=S ⟨P,0,U⟩/\(N (E w))<=P/\w'.heap[P]?=S (D C 157 (0,0))/\mG (Sp.split s 10) w' P C 7/\(Sp.split s 10).length=7)
variable {s:V8}
theorem nF{w w':V5}{a b:Int}{e:Option Addr}(h:Sp.comp s=(a,b))(ha:a≠0)(hb:V4 w w'): AK s w (Wd (Wb #[V9 e,Z Y a,Z Y b])) w':=⟨hb,e,by rw[h],λj=>by rw[h] at j;exact absurd j ha⟩
theorem Hk(y:s.size<=2000)(z:i<7)(r:i<=(Sp.split s 10).length)(b:∀j,j<i->Sp.dQ j ((Sp.split s 10).getD j ⟨#[]⟩)=We)(l:i=(Sp.split s 10).length\/(i<(Sp.split s 10).length/\Sp.dQ i ((Sp.split s 10).getD i ⟨#[]⟩)=Wg)): Sp.comp s=(3,(i:Int)):=by
 unfold Sp.comp;rw[Tf (by omega)];rcases l with l|⟨u,e⟩
 .rw[Sp.iY (λj m=>by rw[b j (by omega)];rfl)];simp only;rw[Tf (by omega),Tg (by omega),l]
 .rw[Sp.nM (k:=i) (by omega) (λj m=>by rw[b j m];rfl) (by rw[e];rfl)]
theorem Gw(e:s.size<=2000)(l:7<(Sp.split s 10).length)(b:∀j,j<7->Sp.dQ j ((Sp.split s 10).getD j ⟨#[]⟩)=We): Sp.comp s=(3,7):=by
 unfold Sp.comp;rw[Tf (by omega),Sp.iY (λj m=>by rw[b j (by omega)];rfl)];simp only;rw[Tg (by omega)]
theorem I1(s:V8)(j:Nat):decide (Sp.zW (Sp.codeOf s j) (Sp.codeOf s j).length 0 (Sp.codeOf s j).length 0≠S 1) = !Sp.keeps (mM ((Sp.split s 10).getD j ⟨#[]⟩)):=by
 show _ = !decide (Sp.zW (Sp.codeOf s j) (Sp.codeOf s j).length 0 (Sp.codeOf s j).length 0=S 1)
 rw[decide_not]
theorem uY(u:s.size<=2000)(y:(Sp.split s 10).length=7)(b:∀j,j<7->Sp.dQ j ((Sp.split s 10).getD j ⟨#[]⟩)=We)(l:i<5)(m:∀j,j<i->j<5->Sp.keeps (mM ((Sp.split s 10).getD j ⟨#[]⟩))=We)(r:Sp.keeps (mM ((Sp.split s 10).getD i ⟨#[]⟩))=Wg): Sp.comp s=(7,(i:Int)):=by
 unfold Sp.comp;rw[Tf (by omega),Sp.iY (λj e=>by rw[b j (by omega)];rfl)];simp only;rw[Tf (by omega),Tf (by omega),Sp.nM (k:=i) l (λj e=>by rw[I1,m j e (by omega)];rfl) (by rw[I1,r];rfl)]
theorem MZ(m:s.size<=2000)(r:(Sp.split s 10).length=7)(b:∀j,j<7->Sp.dQ j ((Sp.split s 10).getD j ⟨#[]⟩)=We)(l:∀j,j<5->Sp.keeps (mM ((Sp.split s 10).getD j ⟨#[]⟩))=We): Sp.comp s=(0,0):=by
 unfold Sp.comp;rw[Tf (by omega),Sp.iY (λj e=>by rw[b j (by omega)];rfl)];simp only;rw[Tf (by omega),Tf (by omega),Sp.iY (λj e=>by rw[I1,l j e];rfl)]
theorem MN:(i:Nat)->i<7->tL[i*3+1]?=S (Wa (decide (i<5)))
 |0,_=>rfl
 |1,_=>rfl
 |2,_=>rfl
 |3,_=>rfl
 |4,_=>rfl
 |5,_=>rfl
 |6,_=>rfl
 |n+7,h=>absurd h (by omega)
theorem Et{w:V5}{P g:Nat}{C:Array V6}{u:TypeId}{p:V6}(F:s.size<=2000)(G:i<5)(b:Sp.dQ i ((Sp.split s 10).getD i ⟨#[]⟩)=We)(z:ft w g (mM ((Sp.split s 10).getD i ⟨#[]⟩)))(A:i<(Sp.split s 10).length)(he:w.cell? ⟨5,0,U⟩=S (.iface u p)): Ir w g (mM ((Sp.split s 10).getD i ⟨#[]⟩)) u p:=by
 have I:((Sp.split s 10).getD i ⟨#[]⟩).size<=2000:=by
  rw[Ty,Tw A];exact To (Sp.qW s 10 _ (Uc A)) F
 generalize (Sp.split s 10).getD i ⟨#[]⟩=x at *;have e:(mM x).length<=4000:=by
  unfold mM Sp.ws;have:=(Sp.jo x 32).2;simp only[Ue,List.length_tail];omega
 unfold Sp.dQ at b;rw[Vl,Tf (by omega),Vl] at b;have m:Sp.kI (i == 2) (mM x) 0=We:=b.2.1;have y:Sp.kI We (mM x) 0=We:=by
  cases r:(i == 2) with
  |true=>rw[r] at m;exact m
  |false=>rw[r] at m;exact Sp.uL _ _ m
 have j:0<(mM x).length:=by
  have B:=b.2.2;unfold mM;cases r:(Sp.ws x).tail with
  |nil=>rw[r] at B;simp at B
  |cons a l=>simp
 exact⟨⟨z.lt,z.fn⟩,e,j,y,he,Tu w _ he⟩
theorem Dl(s:V8)(w:V5)(b:2000<s.size):V7 prog 38 #[H s] w (AK s w):=by
 have j:(2000:Int)<(s.size:Int):=by omega
 have e:Hid (Sp.comp s=(1,0)):=by show _=_;unfold Sp.comp;rw[Tg b]
 go_enter func38,ntmps38;go_wp2;exact Tj (v := Wb #[V9 U,Z Y 1,Z Y 0]) (by simp[results,results38,go_sem]) O (nF (cT e) (by decide) V3)
theorem A2(s:V8)(w:V5)(hs:s.size<=2000)(hS:jF w)(hg:ez w)(u:TypeId)(p:V6)(he:w.cell? ⟨5,0,U⟩=S (.iface u p)):V7 prog 38 #[H s] w (AK s w):=by
 have hz:¬(2000:Int)<(s.size:Int):=by omega
 have au:=Sp.jo s 10;have af:=cU he;have ag:=cU hS;generalize hO:AK s w=b;replace hO:=cU hO;clear he hS;go_enter func38,ntmps38;go_wp2_with fail;refine(zK s _ (by omega) hg).mono ?_;rintro e w1 ⟨rfl,ah⟩;have r:V4 w w1:=by rw[ah];exact V3.alloc V2 _
 have R:NI w1 (S ⟨N (E w),0,U⟩) (Sp.split s 10):=by rw[ah];exact xx w _
 clear ah;go_wp2_with fail;refine(wj (Sp.split s 10) _ _ _ R (by omega) (λx hx=>To (Sp.qW s 10 x hx) hs) ((cT ag).below r (cT ag).lt) (gQ hg r hg.lt)).mono ?_;rintro e t ⟨T,i,aE,av,V,⟨h7,hc,rfl⟩|⟨e7,aC,P,rfl⟩|⟨e7,aw,P,C,hP,rfl,ai,aj⟩⟩
 .have B:b (Wd (Wb #[V9 U,Z Y 3,Z Y i])) t:=by
   rw[<-cT hO];exact nF (Hk hs h7 av V hc) (by decide) (r.trans (T.mono r.size))
  clear hc V R r T;go_wp2;exact Tj (v := Wb #[V9 U,Z Y 3,Z Y i]) (by simp[results,results38,go_sem]) O B
 .subst e7;have B:b (Wd (Wb #[V9 U,Z Y 3,Z Y 7])) t:=by
   rw[<-cT hO];exact nF (Gw hs (by omega) V) (by decide) (r.trans (T.mono r.size))
  clear aC V R r T;go_wp2;exact Tj (v := Wb #[V9 U,Z Y 3,Z Y 7]) (by simp[results,results38,go_sem]) O B
 .subst e7;have y:=r.trans (T.mono r.size);have g:=cU V;have aa:=cU aj;have ax:=cU ai;have W:=cU aw;have ay:(prog.info? 155).map (·.size)=S C.size:=by rw[aj.size];kernel_rfl
  have A:=cU y;have az:=r.size;clear V aj R r T aw av au y;go_upto_region 6 with fail
  iterate 11 (first|go_values|go_skip|go_guarded|go_step|go_upon|(simp only[Int.not_lt,Int.not_le] at *;go_simp))
  refine wp_load_row 155 (.tmp 25) O P O 157 C (0,0) _ ai underlying155 O ay ?_;clear ai ay;go_wp2_with fail
  go_loopw [27] (λv wr=>∃i:Nat,i<=7/\v=Z Y i/\V4 t wr/\Hid (∀j,j<i->j<5->Sp.keeps (mM ((Sp.split s 10).getD j ⟨#[]⟩))=We)) (λv _=>7-(intOf v).toNat)
  case atStart=>exact⟨0,by omega,rfl,Th _ _,λj hj=>absurd hj (by omega)⟩
  case round =>
   obtain⟨i,hi,rfl,X,HK⟩:=hrel;by_cases h7:i<7
   .have c1:(i:Int)<7:=by omega
    have g0:(0:Int)<=(i:Int):=TS _;obtain⟨p4,o,l,b4,z4,q4,F4,d0,d1,d2,d3⟩:=(cT aa).shape i h7;have F:=(cT A).trans (X.mono (cT A).size);have I:=(cT ag).below F (cT ag).lt;have K:=I (i*3+1) _ (MN i h7);rw[TM] at K;have aA:=KF (cT aa).size h7 d0 d1 d2 d3;cases q4 with
    |true =>
     unfold lO at d3 aA;have G:(wr.alloc (D #[J p4 o l,H b4,Z Y z4,.func (.func F4) #[] #[]] 154)).cell? ⟨0,i*3+1,U⟩=S (Wa (decide (i<5))):=(((Th (N (E wr)) wr).alloc V2 _).cell (p:=⟨0,i*3+1,U⟩) I.lt).trans K;have m:Hid (V4 t (wr.alloc (D #[J p4 o l,H b4,Z Y z4,.func (.func F4) #[] #[]] 154))):=X.alloc X.size _;by_cases h5:i<5
     .rw[TU h5] at G;obtain⟨g4,aB,e0,ak,ab⟩:=(cT aa).code i h7 h5;rw[d0] at e0;injection e0 with e0;injection e0 with e1 e2 e3;subst e1;obtain⟨q,L⟩:∃q,Hid (Sp.keeps (mM ((Sp.split s 10).getD i ⟨#[]⟩))=q):=⟨_,rfl⟩
      have ad:Hid (V7 prog 70 #[J (S ⟨g4,0,U⟩) o l] (wr.alloc (D #[J (S ⟨g4,0,U⟩) o l,H b4,Z Y z4,.func (.func F4) #[] #[]] 154)) λe w'=>e=Wd (Wa q)/\Below (wr.alloc (D #[J (S ⟨g4,0,U⟩) o l,H b4,Z Y z4,.func (.func F4) #[] #[]] 154)).heap.size (wr.alloc (D #[J (S ⟨g4,0,U⟩) o l,H b4,Z Y z4,.func (.func F4) #[] #[]] 154)) w'):=by
       have ae:=(cT A).trans ((cT m).mono (cT A).size);rw[e2,<-cT L];rw[e2] at ae m;refine pK _ g4 l u p _ (Et (P:=P) (C:=C) hs h5 (cT g i h7) (ab.below (cT m)) (by rw[cT W];omega) ?_);exact(ae.cell (p:=⟨5,0,U⟩) (Tu w _ (cT af))).trans (cT af)
      have an:Hid (q=Wg->∀w',V4 t w'->b (Wd (Wb #[V9 U,Z Y 7,Z Y i])) w'):=by
       show q=Wg->_
       intro ao w' aq;rw[<-cT hO];have y:=cT A;exact nF (uY hs (cT W) (cT g) h5 (cT HK) ((cT L).trans ao)) (by decide) (y.trans (aq.mono y.size))
      clear d0 d1 d2 d3 I F K X e2 e3 ab ak;cases q with
      |true =>
       go_wp2_with (first|(go_at_call 70;go_must (refine(cT ad).mono ?_;rintro e w5 ⟨rfl,z⟩;have M:=cU z;clear z))|go_in);go_roundw
       case rel=>exact⟨i+1,by omega,by go_num,(cT m).trans ((cT M).mono (cT m).size),λj hj Q=>if h:j=i then h ▸ cT L else cT HK j (by omega) Q⟩
       case measure=>simp[intOf];omega
      |false =>
       go_wp2_with (first|(go_at_call 70;go_must (refine(cT ad).mono ?_;rintro e w5 ⟨rfl,z⟩;have M:=cU z;clear z))|go_in);exact Tj (v := Wb #[V9 U,Z Y 7,Z Y i]) (by simp[results,results38,go_sem]) O (cT an (by trivial) _ ((cT m).trans ((cT M).mono (cT m).size)))
     .rw[TE h5] at G;clear d0 d1 d2 d3 I F K X;go_wp2;go_roundw
      case rel=>exact⟨i+1,by omega,by go_num,cT m,λj hj Q=>cT HK j (by omega) Q⟩
      case measure=>simp[intOf];omega
    |false =>
     unfold lO at d3 aA;have G:(wr.alloc (D #[J p4 o l,H b4,Z Y z4,.nilFunc] 154)).cell? ⟨0,i*3+1,U⟩=S (Wa (decide (i<5))):=(((Th (N (E wr)) wr).alloc V2 _).cell (p:=⟨0,i*3+1,U⟩) I.lt).trans K;have m:Hid (V4 t (wr.alloc (D #[J p4 o l,H b4,Z Y z4,.nilFunc] 154))):=X.alloc X.size _;by_cases h5:i<5
     .rw[TU h5] at G;obtain⟨g4,aB,e0,ak,ab⟩:=(cT aa).code i h7 h5;rw[d0] at e0;injection e0 with e0;injection e0 with e1 e2 e3;subst e1;obtain⟨q,L⟩:∃q,Hid (Sp.keeps (mM ((Sp.split s 10).getD i ⟨#[]⟩))=q):=⟨_,rfl⟩
      have ad:Hid (V7 prog 70 #[J (S ⟨g4,0,U⟩) o l] (wr.alloc (D #[J (S ⟨g4,0,U⟩) o l,H b4,Z Y z4,.nilFunc] 154)) λe w'=>e=Wd (Wa q)/\Below (wr.alloc (D #[J (S ⟨g4,0,U⟩) o l,H b4,Z Y z4,.nilFunc] 154)).heap.size (wr.alloc (D #[J (S ⟨g4,0,U⟩) o l,H b4,Z Y z4,.nilFunc] 154)) w'):=by
       have ae:=(cT A).trans ((cT m).mono (cT A).size);rw[e2,<-cT L];rw[e2] at ae m;refine pK _ g4 l u p _ (Et (P:=P) (C:=C) hs h5 (cT g i h7) (ab.below (cT m)) (by rw[cT W];omega) ?_);exact(ae.cell (p:=⟨5,0,U⟩) (Tu w _ (cT af))).trans (cT af)
      have an:Hid (q=Wg->∀w',V4 t w'->b (Wd (Wb #[V9 U,Z Y 7,Z Y i])) w'):=by
       show q=Wg->_
       intro ao w' aq;rw[<-cT hO];have y:=cT A;exact nF (uY hs (cT W) (cT g) h5 (cT HK) ((cT L).trans ao)) (by decide) (y.trans (aq.mono y.size))
      clear d0 d1 d2 d3 I F K X e2 e3 ab ak;cases q with
      |true =>
       go_wp2_with (first|(go_at_call 70;go_must (refine(cT ad).mono ?_;rintro e w5 ⟨rfl,z⟩;have M:=cU z;clear z))|go_in);go_roundw
       case rel=>exact⟨i+1,by omega,by go_num,(cT m).trans ((cT M).mono (cT m).size),λj hj Q=>if h:j=i then h ▸ cT L else cT HK j (by omega) Q⟩
       case measure=>simp[intOf];omega
      |false =>
       go_wp2_with (first|(go_at_call 70;go_must (refine(cT ad).mono ?_;rintro e w5 ⟨rfl,z⟩;have M:=cU z;clear z))|go_in);exact Tj (v := Wb #[V9 U,Z Y 7,Z Y i]) (by simp[results,results38,go_sem]) O (cT an (by trivial) _ ((cT m).trans ((cT M).mono (cT m).size)))
     .rw[TE h5] at G;clear d0 d1 d2 d3 I F K X;go_wp2;go_roundw
      case rel=>exact⟨i+1,by omega,by go_num,cT m,λj hj Q=>cT HK j (by omega) Q⟩
      case measure=>simp[intOf];omega
   .have e7:i=7:=by omega
    subst e7;have B:b (Wd (Wb #[V9 (S ⟨P,0,U⟩),Z Y 0,Z Y 0])) wr:=by
     rw[<-cT hO];have y:=cT A;have ar:=MZ hs (cT W) (cT g) (λj hj=>cT HK j (by omega) hj);have aD:=(Ts.1 (cT ax)).1;refine⟨y.trans (X.mono y.size),S ⟨P,0,U⟩,by rw[ar],λ_=>⟨P,C,O,To az hP,(X.block P aD).trans (cT ax),(cT aa).below X,cT W⟩⟩
    clear X;go_wp2;exact Tj (v := Wb #[V9 (S ⟨P,0,U⟩),Z Y 0,Z Y 0]) (by simp[results,results38,go_sem]) O B
end
end Go.Proofs.YtgkkdpegcieakaaGreatDoor
