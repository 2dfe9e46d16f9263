import Derived.Test.YtgkkdpegcieakaaGreatDoorCw10
import Derived.Test.YtgkkdpegcieakaaGreatDoorCw12
import Derived.Test.YtgkkdpegcieakaaGreatDoorCw13
set_option linter.all false
set_option maxRecDepth 100000
set_option maxHeartbeats 16000000
namespace Go.Proofs.YtgkkdpegcieakaaGreatDoor
open Go.Proofs.Tryz
open Value renaming int→Z,slice→J,string→H,pointer→WV,bool→WW,tuple→WX
open Ending renaming returned→WZ
open Obj renaming cells→D
open Option renaming none→U,some→S
open Bool renaming true→W8,false→W9
open Or renaming inl→Xa,inr→Xb
open List renaming length→Xg
open World renaming cell?→Xc
open IntKind renaming i64→Y
open Go renaming World→WR,Value→WS,Calls→WT
open Go.RowKit
section
def hb(L:List (List UInt8))(a:Nat):Nat:=match Sp.fc (L.take (a+1)) 0 [] with
 |some (h,_)=>h
 |none=>0
def OU(L:List (List UInt8))(b:List (Int × Nat)):List (Int × Nat):=(b.map λq=>(q.1,hb L q.2)).reverse
theorem vZ(L:List (List UInt8))(k:Int)(a:Nat)(r:List (Int × Nat)):OU L ((k,a)::r)=OU L r++[(k,hb L a)]:=by simp[OU]
theorem Og(L:List (List UInt8))(b:List (Int × Nat)):(OU L b).length=Xg b:=by simp[OU]
def o6(w:WR)(M:Nat)(b:WS)(L:List (List UInt8))(E:Sp.Ev)(j e:Nat)(T:List Int)(l:List (Int × Nat)):Prop :=
 ∃x,jr w M b j e E T x/\w.ownsRow (M+1) 313 2 x (Xg l) (pV (OU L l))
def Dj(o:Option Sp.Ms)(M:Nat)(b:WS)(L:List (List UInt8))(E:Sp.Ev)(u:TypeId)(p:WS)(w:WR)(e:Ending)(w':WR):Prop:=Below M w w'/\match o with
  |some t=>e=WZ (WX #[])/\∃a,a+1=t.at'/\o6 w' M b L E a t.fuel t.T t.lp
  |none=>e=.panicked [{ v := .iface u p,recovered:=false }]
variable {L:List (List UInt8)}{s:Sp.Ms}
theorem Hj{E:Sp.Ev}{x:List UInt8}(b:L.getD s.at' []=x)(e:s.fuel≠0)(h1:x≠[91])(h2:x≠[93]): Sp.gx L E s=(Sp.ln E x s.T).map λT=>⟨s.at'+1,s.fuel-1,T,s.lp⟩:=by
 unfold Sp.gx;rw[TZ e,b,TZ h1,TZ h2]
theorem xI{E:Sp.Ev}{x:List UInt8}{M:Nat}{b l:WS}{u:TypeId}{p:WS}{w w':WR}{e:Ending}(y:L.getD s.at' []=x)(z:s.fuel≠0)(h1:x≠[91])(h2:x≠[93])(A:w.ownsRow (M+1) 313 2 l (Xg s.lp) (pV (OU L s.lp)))(B:J5 (Sp.ln E x s.T) M s.at' (s.fuel-1) E b l u p w e w'): Dj (Sp.gx L E s) M b L E u p w e w':=by
 obtain⟨m,j⟩:=B;rw[Hj y z h1 h2];refine⟨m.below,?_⟩;cases r:Sp.ln E x s.T with
 |none=>rw[r] at j;exact j
 |some T =>
  rw[r] at j;exact⟨j.1,s.at',O,l,j.2,m.own A⟩
theorem Jn(L:List (List UInt8)):∀(k:Nat) (m o:List Nat),Sp.fB L k=S (m,o)->Xg o<=k:=by
 intro k
 induction k with
 |zero=>intro b e h;simp[Sp.fB] at h;obtain⟨_,rfl⟩:=h;exact TY _
 |succ k j =>
  intro b e h;simp only[Sp.fB] at h;split at h
  .cases h
  .rename_i r u l;have y:=(Sp.ui h).2;have z:=Sp.AB (L.getD k []);have A:=j _ _ l;omega
theorem Kg{a h:Nat}{b:List Nat}(e:Sp.fc (L.take (a+1)) 0 []=S (h,b)): hb L a=h:=by unfold hb;rw[e]
theorem Gr{MS:List Nat}{E:Sp.Ev}{r:Nat × List Nat}(ad:Sp.kh W8 L 0=W8)(hk:Sp.fc L 0 []=S r)(ae:Sp.fB L (Xg L)=S (MS,[]))(hH:Sp.zn L s)(hP:Sp.KF L s)(hV:Sp.F9 s)(hi:s.at'<Xg L)(hf:s.fuel≠0)(ax:Xg L<=4000){M g cap:Nat}{u:TypeId}{p:WS}{w0 w:WR}{F:Nat}{x:Array WS}(hF:Fn w0 M L[s.at'] (.func (.func F) #[] x))(hb:Below M w0 w)(hg:g<M)(m:w.cell? ⟨g,s.at'*2+1,U⟩=S (Z Y ((MS.getD s.at' 0:Nat):Int)))(hd:o6 w M (J (S ⟨g,0,U⟩) (Xg L) cap) L E s.at' (s.fuel-1) s.T s.lp)(hv:J1 M u p w):WT prog F (#[WV (S ⟨M,0,U⟩)]++x) w (Dj (Sp.gx L E s) M (J (S ⟨g,0,U⟩) (Xg L) cap) L E u p w):=by
 obtain⟨l,f,Q⟩:=hd;obtain⟨h,ls,e,hT,hl⟩:=hH.ex;obtain⟨h',ay,d,e'⟩:=Sp.rK hk hi e;have C:=Sp.mQ hi;have az:=(Sp.uI ad _ _ _ (by omega) e).2;obtain⟨ms,er⟩:=hP.at';have i:Xg s.lp<=4000:=by
  have t:=Jn L _ _ _ er;simp at t;omega
 rcases hF with ⟨B,n,hB,ef,hn,b⟩|⟨k,af,G,ef⟩
 .injection ef with e1 e2 e3;injection e1 with e1;subst e1 e3;have t:L[s.at']≠[91]:=by intro hc;rw[hc,show Sp.number [91]=U by decide] at b;cases b
  have h2:L[s.at']≠[93]:=by intro hc;rw[hc,show Sp.number [93]=U by decide] at b;cases b
  obtain⟨n',m',R,ak,y,_⟩:=Sp.wF t h2 d;rw[Sp.zf b] at R;injection R with R;injection R with t1 t2;subst t1 t2;refine(Mu b B M s.at' (s.fuel-1) E s.T _ l u p w f (by omega) ((jl hb hB).trans hn.cell)).mono λe V hp=>?_
  exact xI C hf t h2 Q hp
 .unfold oH at ef;injection ef with e1 e2 e3;injection e1 with e1;subst e1 e3;by_cases N:k<23
  .have o:∀j,j<23->Sp.yC[j]!≠[91]/\Sp.yC[j]!≠[93]:=by decide
   have t:L[s.at']≠[91]:=by rw[G];exact(o k N).1
   have h2:L[s.at']≠[93]:=by rw[G];exact(o k N).2
   obtain⟨n',m',R,ak,y,_⟩:=Sp.wF t h2 d;rw[G,Sp.Fg k af] at R;injection R with R;have an:=SG k N M s.at' (s.fuel-1) E s.T (J (S ⟨g,0,U⟩) (Xg L) cap) l u p w f hv (by rw[R];simp only;omega) (by rw[R];simp only;omega);refine an.mono λe V hp=>?_
   rw[<-G] at hp;exact xI C hf t h2 Q hp
  .by_cases ag:k=23
   .subst ag;have W:L[s.at']=[91]:=G;rw[W] at d;obtain⟨o,d⟩:=Sp.yP d;injection d with d1 d2;subst d1 d2;obtain⟨n,T,aa⟩:=En (T:=s.T) (by omega);rw[aa] at f hT;simp only[Uf] at hT;by_cases X:n<1
    .obtain⟨q,aA,aB,q1,q2,q3,q4,q5⟩:=Sp.F8 ad hk hi W e er;have ao:L[q]=[93]:=by rw[<-Sp.mQ q2];exact q3
     obtain⟨_,aq⟩:=Sp.xM ae q2 ao q4;rw[aq] at m;have z:Sp.gx L E s=S ⟨q+1,s.fuel-1,T,s.lp⟩:=by
      unfold Sp.gx;rw[TZ hf,C,T0 W,aa];simp only;rw[T0 X,q1];rfl
     rw[z];refine(FE _ M w (MG n M s.at' (s.fuel-1) g (Xg L) cap q E T l w f X hi (by omega) m) (λe V hh=>Xa hh.1)).mono ?_;rintro e V ⟨rfl,y,ah⟩;exact⟨ah.below,O,q,O,l,y,ah.own Q⟩
    .have z:Sp.gx L E s=S ⟨s.at'+1,s.fuel-1,T,(n,s.at')::s.lp⟩:=by
      unfold Sp.gx;rw[TZ hf,C,T0 W,aa];simp only;rw[TZ X]
     rw[z];refine(FE _ M w (Mq n M s.at' (s.fuel-1) (Xg s.lp) E T _ l _ w f X (by omega) Q) (λe V hh=>Xa hh.1)).mono ?_;rintro e V ⟨rfl,x',y,I,P⟩;refine⟨P,O,s.at',O,x',y,?_⟩;rw[vZ,sR,Kg e'];have:Xg T=h-1:=by omega
     rw[this] at I;exact I
   .have ar:k=24:=by omega
    subst ar;have W:L[s.at']=[93]:=G;rw[W] at d;cases A:s.lp with
    |nil =>
     rw[A] at hl;have hl:ls=[]:=hl;subst hl;exfalso;unfold Sp.dst at d;rw[TZ (by decide),T0 rfl] at d;cases d
    |cons q r =>
     obtain⟨k0,a⟩:=q;rw[A] at hl Q;obtain⟨k1,a1,a2,h0,aC,rfl,e0,aD⟩:=hl;obtain⟨au,d⟩:=Sp.DQ d;subst au;rw[vZ,sR,Kg e0,<-hT] at Q;simp only[Uf] at Q;obtain⟨gl,cl,rfl⟩:∃g cap,l=J (S ⟨g,0,U⟩) (Xg r+1) cap:=by
      rcases Q.2 with ⟨_,hn⟩|⟨g,cap,aE,hv,_⟩
      .omega
      .exact⟨g,cap,hv⟩
     have ai:(pV (OU L r)).length=Xg r*2:=by rw[Gx,Og]
     have aF:Xg r<=4000:=by rw[A] at i;simp at i;omega
     have aj:=hV.lp (k0,a) (by rw[A];exact UI ..);rw[A] at er;obtain⟨av,_⟩:=Sp.xM ae hi W (by simpa using er);rw[av] at m;by_cases ab:1<k0
     .have z:Sp.gx L E s=S ⟨a+1,s.fuel-1,s.T,(k0-1,a)::r⟩:=by
       unfold Sp.gx;rw[TZ hf,C,W,TZ (by decide),T0 O,A];simp only;rw[T0 ab]
      rw[z];refine(EF _ M w (RU k0 M s.at' (s.fuel-1) (Xg r) gl cl g (Xg L) cap a E s.T _ w f (by omega) Q ai ab aj.2 hi hg m) (λe V hh=>Xa hh.1)).mono ?_;rintro e V ⟨rfl,y,I,P⟩;refine⟨P,O,a,O,_,y,?_⟩;rw[vZ,sR,Kg e0,<-hT];exact I
     .have aw:k0=1:=by have:=aj.1;simp only at this;omega
      have z:Sp.gx L E s=S ⟨s.at'+1,s.fuel-1,s.T,r⟩:=by
       unfold Sp.gx;rw[TZ hf,C,W,TZ (by decide),T0 O,A];simp only;rw[TZ ab]
      rw[z];refine(EF _ M w (Rq k0 M s.at' (s.fuel-1) (Xg r) gl cl E s.T _ _ w f (by omega) Q ai aw) (λe V hh=>Xa hh.1)).mono ?_;rintro e V ⟨rfl,y,I,P⟩;exact⟨P,O,s.at',O,_,y,I⟩
end
section
def DG(o:Option Sp.Ms)(M:Nat)(code:WS)(L:List (List UInt8))(E:Sp.Ev)(u:TypeId)(p:WS)(b:TypeId)(pf:WS)(w:WR)(e:Ending)(w':WR):Prop:=Below M w w'/\match o with
  |some t=>e=WZ (WX #[])/\o6 w' M code L E t.at' t.fuel t.T t.lp
  |none=>e=.panicked [{ v := .iface u p,recovered:=false }]\/e=.panicked [{ v := .iface b pf,recovered:=false }]
structure OE (w:WR) (M g:Nat) (L:List (List UInt8)) (MS:List Nat):Prop where
 fm:Sp.kh W8 L 0=W8
 keeps:∃r,Sp.fc L 0 []=S r
 rd:Sp.fB L (Xg L)=S (MS,[])
 len:Xg L<=4000
 lt:g<M
 fn:∀i (hi:i<Xg L),∃F caps,w.cell? ⟨g,i*2,U⟩=S (.func (.func F) #[] caps)/\Fn w M L[i] (.func (.func F) #[] caps)
 tX:∀i,i<Xg L->w.cell? ⟨g,i*2+1,U⟩=S (Z Y ((MS.getD i 0:Nat):Int))
structure Ps (L:List (List UInt8)) (E:Sp.Ev) (M:Nat) (code:WS) (w wr:WR) (s0 s:Sp.Ms):Prop where
 hi:Sp.zn L s
 pi:Sp.KF L s
 vi:Sp.F9 s
 Tg:o6 wr M code L E s.at' s.fuel s.T s.lp
 run:Sp.lC L E (s0.fuel+1) s0=Sp.lC L E (s.fuel+1) s
 kept:Below M w wr
 fu:s.fuel<=200
def S4(M:Nat)(w:WR):Nat:=match w.cell? ⟨M,2,U⟩ with
 |some v=>(intOf v).toNat
 |none=>0
variable {M:Nat}{w:WR}
theorem KI{n:Int}(h:w.cell? ⟨M,2,U⟩=S (Z Y n)): S4 M w=n.toNat:=by
 unfold S4;rw[h];rfl
variable {T:List Int}{lp:List (Int × Nat)}{fuel at':Nat}{L:List (List UInt8)}{code:WS}
theorem o6.Qg{E:Sp.Ev}(h:o6 w M code L E at' fuel T lp)(a:Nat): o6 (w.setCell ⟨M,2,U⟩ (Z Y a)) M code L E at' a T lp:=by
 obtain⟨x,b,e⟩:=h;exact⟨x,b.Qg a,((eB.refl M w).set _ _).own e⟩
theorem o6.Mo{E:Sp.Ev}(h:o6 w M code L E at' fuel T lp)(a:Nat): o6 (w.setCell ⟨M,1,U⟩ (Z Y a)) M code L E a fuel T lp:=by
 obtain⟨x,b,e⟩:=h;exact⟨x,b.Mo a,((eB.refl M w).set _ _).own e⟩
theorem o6.drew{E:Sp.Ev}(h:o6 w M code L E at' fuel T lp): o6 w.drew M code L E at' fuel T lp:=by
 obtain⟨x,b,e⟩:=h;exact⟨x,b.drew,e.drew⟩
theorem o6.drewN{E:Sp.Ev}(h:o6 w M code L E at' fuel T lp)(n:Nat): o6 (w.drewN n) M code L E at' fuel T lp:=by
 obtain⟨x,b,e⟩:=h;exact⟨x,b.drewN n,dd e (below_drewN w n)⟩
theorem lN:∀x n,Sp.number x=S n->Sp.i64 n:=λx n h=>by
 have:=Sp.xJ h;unfold Sp.i64;omega
variable {s:Sp.Ms}
theorem GV{E:Sp.Ev}{t:Sp.Ms}(hi:s.at'<Xg L)(h:Sp.gx L E s=S t): Sp.lC L E (s.fuel+1) s=Sp.lC L E (t.fuel+1) t:=by
 have b:=Sp.qu h;rw[Sp.lC,TZ (by omega),h];simp only;exact Sp.Jw _ t (by omega) _ (by omega)
theorem xl{E:Sp.Ev}(hi:s.at'<Xg L)(h:Sp.gx L E s=U): Sp.lC L E (s.fuel+1) s=U:=by
 rw[Sp.lC,TZ (by omega),h]
theorem LN{E:Sp.Ev}(hi:Xg L<=s.at'): Sp.lC L E (s.fuel+1) s=S s:=by
 rw[Sp.lC,T0 hi]
theorem J8(L:List (List UInt8))(MS:List Nat)(E:Sp.Ev)(hE:Sp.nA E)(M g cap:Nat)(u:TypeId)(p:WS)(o:TypeId)(pf:WS)(A:Sp.Ms)(w:WR)(hc:OE w M g L MS)(h0:Ps L E M (J (S ⟨g,0,U⟩) (Xg L) cap) w w A A)(hM:1<M)(he:w.cell? ⟨1,0,U⟩=S (.iface u p))(ah:2<M)(aa:w.cell? ⟨2,0,U⟩=S (.iface o pf)):WT prog 113 #[WV (S ⟨M,0,U⟩)] w (DG (Sp.lC L E (A.fuel+1) A) M (J (S ⟨g,0,U⟩) (Xg L) cap) L E u p o pf w):=by
 generalize hO:DG (Sp.lC L E (A.fuel+1) A) M (J (S ⟨g,0,U⟩) (Xg L) cap) L E u p o pf w=b;replace hO:=cT hO;have ai:=cT he;have aj:=cT aa;have j:=cT hc;have H0:=cT h0;have hl:=hc.len;clear he aa hc h0;go_enter func113,ntmps113;go_wp2_with fail
 go_loopw [] (λwr=>∃s:Sp.Ms,Hid (Ps L E M (J (S ⟨g,0,U⟩) (Xg L) cap) w wr A s)) (λwr=>S4 M wr)
 case atStart=>exact⟨A,H0⟩
 case round =>
  obtain⟨s,y⟩:=hrel;clear H0;have au:=(cS y).hi.le;have av:=(cS y).fu;obtain⟨x,R,ab⟩:=(cS y).Tg;have HX:=cT R;have e0:=R.c0;have e1:=R.c1;have e2:=R.c2;have f2:=R.fz 2;clear R ab;have g0:(0:Int)<=(s.at':Int):=UF _;by_cases c:s.at'<Xg L
  .have c1:(s.at':Int)<(Xg L:Int):=by omega
   by_cases N:s.fuel=0
   .have c2:((s.fuel:Int) == 0)=W8:=by rw[N];rfl
    have aw:wr.cell? ⟨2,0,U⟩=S (.iface o pf):=(jl (cS y).kept ah).trans (cS aj);have HP:Hid (∀n,b (.panicked [{ v := .iface o pf,recovered:=false }]) (wr.drewN n)):=by
     show ∀n,_
     intro n;have l:=cS y;rw[<-cS hO,l.run,xl c (by unfold Sp.gx;rw[T0 N])];exact⟨l.kept.trans ((below_drewN wr n).mono (UT (cS HX).lt)),Xb O⟩
    clear N;go_wp2_with fail
    go_quiet (fail)
    go_wp2;exact⟨O,cS HP _⟩
   .obtain⟨q,hq,HQ⟩:∃q,s.fuel=q+1/\Hid (s.fuel=q+1):=⟨s.fuel-1,by omega,cT (by omega)⟩
    rw[hq] at e2;have c2:((((q+1:Nat)):Int) == 0)=W9:=Uh.2 (by omega);have c3:((q+1:Nat):Int)-1=(q:Int):=by omega
    have c4:q<=4000:=by omega
    obtain⟨F,I,ad,P⟩:=(cS j).fn s.at' c;have Q:=(cS j).lt;have e3:wr.cell? ⟨g,s.at'*2,U⟩=S (.func (.func F) #[] I):=(jl (cS y).kept Q).trans ad;have ax:M≠g:=by omega
    have ay:=P.enter;have ak:=cT P;clear hq P ad;have V:Hid (∀k,Below M w (((wr.drewN k).setCell ⟨M,2,U⟩ (Z Y (q:Int))).drew)/\WT prog F (#[WV (S ⟨M,0,U⟩)]++I) (((wr.drewN k).setCell ⟨M,2,U⟩ (Z Y (q:Int))).drew) (Dj (Sp.gx L E s) M (J (S ⟨g,0,U⟩) (Xg L) cap) L E u p (((wr.drewN k).setCell ⟨M,2,U⟩ (Z Y (q:Int))).drew))):=by
     show ∀k,_
     intro k;have l:=cS y;have hQ:=cS HQ;have B:Below M w (((wr.drewN k).setCell ⟨M,2,U⟩ (Z Y (q:Int))).drew):=(iK.set (l.kept.trans ((below_drewN wr k).mono (UT (cS HX).lt))) _ _).drew;refine⟨B,?_⟩;obtain⟨r,W⟩:=(cS j).keeps;refine Gr (cS j).fm W (cS j).rd l.hi l.pi l.vi c (by omega) hl (cS ak) B Q ((jl B Q).trans ((cS j).tX _ c)) ?_ ⟨by omega,(jl B hM).trans (cS ai)⟩;have:=((l.Tg.drewN k).Qg q).drew;rw[show s.fuel-1=q by omega];exact this
    cases z:Sp.gx L E s with
    |none =>
     rw[z] at V;have HP:Hid (∀k m,Below M (((wr.drewN k).setCell ⟨M,2,U⟩ (Z Y (q:Int))).drew) m->b (.panicked [{ v := .iface u p,recovered:=false }]) m):=by
      show ∀k m,_
      intro k m hk;have l:=cS y;rw[<-cS hO,l.run,xl c z];exact⟨((cS V) k).1.trans hk,Xa O⟩
     clear z;go_wp2_with fail
     go_quiet (fail)
     go_wp2_with fail
     go_region_with (refine(cS V _).2.mono ?_;rintro e m ⟨C,rfl⟩;refine jA prog m ⟨O,cS HP _ m C⟩ ?_)
     all_goals trivial
    |some t =>
     rw[z] at V;have HN:Hid (∀k m a,Below M (((wr.drewN k).setCell ⟨M,2,U⟩ (Z Y (q:Int))).drew) m->a+1=t.at'->o6 m M (J (S ⟨g,0,U⟩) (Xg L) cap) L E a t.fuel t.T t.lp->Ps L E M (J (S ⟨g,0,U⟩) (Xg L) cap) w (m.setCell ⟨M,1,U⟩ (Z Y ((a+1:Nat):Int))) A t/\t.fuel=q):=by
      show ∀k m a,_
      intro k m a hk X hm;have l:=cS y;have hQ:=cS HQ;obtain⟨r,W⟩:=(cS j).keeps;have az:=Sp.qu z;refine⟨⟨Sp.td (cS j).fm W l.hi c z,Sp.DC (cS j).fm W l.hi l.pi c z,Sp.uT hE lN l.vi z,?_,l.run.trans (GV c z),iK.set (((cS V) k).1.trans hk) _ _,by omega⟩,by omega⟩;rw[<-X];exact hm.Mo (a+1)
     have an:Hid (∀a,a+1=t.at'->a<=4000):=by
      show ∀a,_
      intro a X;have l:=cS y;obtain⟨r,W⟩:=(cS j).keeps;have:=(Sp.td (cS j).fm W l.hi c z).le;omega
     clear z;go_wp2_with fail
     go_quiet (fail)
     go_wp2_with fail
     go_region_with (refine(cS V _).2.mono ?_;rintro e m ⟨C,rfl,a,X,ae⟩)
     all_goals
      have aA:=cS an a X;obtain⟨af,ag⟩:=cS HN _ m a C X ae;have ao:=cT af;have aq:=cT ag;obtain⟨x1,G,_⟩:=ae;have j1:=G.c1;have j2:=G.fz 1;have k3:=G.c2;have ar:=cT k3;clear G C af ag X k3;go_wp2;go_roundw
      case rel=>exact⟨t,ao⟩
      case measure =>
       have a1:=KI e2;have a2:S4 M (m.setCell ⟨M,1,U⟩ (Z Y ((a:Int)+1)))=t.fuel:=by
        rw[KI ((cW (by omega)).trans (cS ar))];simp
       have:=cS aq;rw[a1,a2];omega
  .have c1:¬(s.at':Int)<(Xg L:Int):=by omega
   go_wp2_with fail
   go_quiet (fail)
   go_wp2;refine Ub (Ua O _ _ _) O ?_;have l:=cS y;rw[<-cS hO,l.run,LN (by omega)];exact⟨l.kept.trans ((below_drewN wr nq).mono (UT (cS HX).lt)),O,l.Tg.drewN nq⟩
end
section
namespace Sp
theorem JG{L:List (List UInt8)}{E:Ev}(l:kh W8 L 0=W8){r:Nat × List Nat}(m:fc L 0 []=S r):∀(g:Nat) (s t:Ms),zn L s->lC L E g s=S t->zn L t/\(Xg L)<=t.at':=by
 intro g
 induction g with
 |zero=>intro s t _ h;cases h
 |succ g u =>
  intro s t e h;rw[lC] at h;split at h
  .rename_i j;injection h with h;subst h;exact⟨e,j⟩
  .rename_i j;split at h
   .cases h
   .rename_i y b;exact u _ _ (td l m e (by omega) b) h
theorem JS{L:List (List UInt8)}{E:Ev}(b:Good L){t:Ms}(h:lC L E 201 ⟨0,200,[],[]⟩=S t):∃v,t.T=[v]/\ev L E=S v:=by
 obtain⟨j,l⟩:=JG b.fm b.one _ _ _ (OH L 200) h;have m:=K0 b.one j l;obtain⟨v,e⟩:=List.length_eq_one_iff.1 m;refine⟨v,e,?_⟩;unfold ev;rw[h];simp[e]
end Sp
def m5(E:Sp.Ev):WS := .agg #[Z Y E.value,Z Y E.jf,Z Y E.iI,Z Y E.step,Z Y E.id,Z Y E.deg,Z Y E.all,Z Y E.yp,Z Y E.weight]
def eX(b:WS)(E:Sp.Ev):Array WS := #[b,Z Y 0,Z Y 200,Z Y E.value,Z Y E.jf,Z Y E.iI,Z Y E.step,Z Y E.id,Z Y E.deg,Z Y E.all,Z Y E.yp,Z Y E.weight,Z Y 0,Z Y 0,Z Y 0,Z Y 0,Z Y 0,Z Y 0,Z Y 0,Z Y 0,Z Y 0,Z Y 0,Z Y 0,Z Y 0,Z Y 0,Z Y 0,Z Y 0,Z Y 0,Z Y 0,J U 0 0,WW W9]
theorem jr.zV{w:WR}{M t:Nat}{b:WS}{E:Sp.Ev}(h:w.heap[M]?=S (D (eX b E) t)):jr w M b 0 200 E [] (J U 0 0):=by
 refine⟨by simp[Xc,h,eX],by simp[Xc,h,eX],by simp[Xc,h,eX],by simp[Xc,h,eX],by simp[Xc,h,eX],by simp[Xc,h,eX],by simp[Xc,h,eX],by simp[Xc,h,eX],by simp[Xc,h,eX],by simp[Xc,h,eX],by simp[Xc,h,eX],by simp[Xc,h,eX],λj e=>?_,λj e=>by simp at e,by simp[Xc,h,eX],by simp[Xc,h,eX],by simp[Xc,h,eX],λj=>by simp[World.frozen?,h],by simp⟩
 match j,e with
 |0,_=>exact⟨0,by simp[Xc,h,eX]⟩
 |1,_=>exact⟨0,by simp[Xc,h,eX]⟩
 |2,_=>exact⟨0,by simp[Xc,h,eX]⟩
 |3,_=>exact⟨0,by simp[Xc,h,eX]⟩
 |4,_=>exact⟨0,by simp[Xc,h,eX]⟩
 |5,_=>exact⟨0,by simp[Xc,h,eX]⟩
 |6,_=>exact⟨0,by simp[Xc,h,eX]⟩
 |7,_=>exact⟨0,by simp[Xc,h,eX]⟩
 |8,_=>exact⟨0,by simp[Xc,h,eX]⟩
 |9,_=>exact⟨0,by simp[Xc,h,eX]⟩
 |10,_=>exact⟨0,by simp[Xc,h,eX]⟩
 |11,_=>exact⟨0,by simp[Xc,h,eX]⟩
 |12,_=>exact⟨0,by simp[Xc,h,eX]⟩
 |13,_=>exact⟨0,by simp[Xc,h,eX]⟩
 |14,_=>exact⟨0,by simp[Xc,h,eX]⟩
 |15,_=>exact⟨0,by simp[Xc,h,eX]⟩
 |n+16,e=>exact absurd e (by omega)
structure og (w:WR) (g:Nat) (L:List (List UInt8)):Prop where
 CP:Sp.Good L
 rd:∃MS,Sp.fB L (Xg L)=S (MS,[])/\∀i,i<Xg L->w.cell? ⟨g,i*2+1,U⟩=S (Z Y ((MS.getD i 0:Nat):Int))
 lt:g<w.heap.size
 fn:∀i (hi:i<Xg L),∃F caps,w.cell? ⟨g,i*2,U⟩=S (.func (.func F) #[] caps)/\Fn w w.heap.size L[i] (.func (.func F) #[] caps)
theorem Fn.L0{w w':WR}{B M:Nat}{x:List UInt8}{e:WS}(h:Fn w B x e)(hb:Below B w w')(u:B<=M):Fn w' M x e:=by
 rcases h with ⟨b,n,j,l,m,r⟩|h
 .exact Xa ⟨b,n,by omega,l,(hb.block b j).trans m,r⟩
 .exact Xb h
theorem og.below{w w':WR}{g:Nat}{L:List (List UInt8)}(h:og w g L)(hb:WQ w w'):og w' g L:=by
 obtain⟨e,j,l⟩:=h.rd;refine⟨h.CP,⟨e,j,λi hi=>(hb.cell (p:=⟨g,i*2+1,U⟩) h.lt).trans (l i hi)⟩,Ux h.lt hb.size,λi hi=>?_⟩;obtain⟨F,b,m,r⟩:=h.fn i hi;exact⟨F,b,(hb.cell (p:=⟨g,i*2,U⟩) h.lt).trans m,r.L0 hb hb.size⟩
theorem og.Tw{w W:WR}{g:Nat}{L:List (List UInt8)}(h:og w g L)(hb:WQ w W){M:Nat}(j:w.heap.size<=M):∃e,OE W M g L e:=by
 obtain⟨e,l,m⟩:=h.rd;refine⟨e,h.CP.fm,⟨_,h.CP.one⟩,l,h.CP.len,Ux h.lt j,λi hi=>?_,λi hi=>(hb.cell (p:=⟨g,i*2+1,U⟩) h.lt).trans (m i hi)⟩;obtain⟨F,b,r,u⟩:=h.fn i hi;exact⟨F,b,(hb.cell (p:=⟨g,i*2,U⟩) h.lt).trans r,u.L0 hb j⟩
structure jY (w:WR) (z f:Addr):Prop where
 cz:w.cell? ⟨1,0,U⟩=S (.iface 338 (WV (S z)))
 cf:w.cell? ⟨2,0,U⟩=S (.iface 338 (WV (S f)))
 ne:z≠f
 bz:∃c t,w.heap[z.block]?=S (D c t (0,0))
 bf:∃c t,w.heap[f.block]?=S (D c t (0,0))
theorem jY.lz{w:WR}{z f:Addr}(h:jY w z f):1<w.heap.size:=Ui w _ h.cz
theorem jY.lf{w:WR}{z f:Addr}(h:jY w z f):2<w.heap.size:=Ui w _ h.cf
theorem jY.below{w w':WR}{z f:Addr}(h:jY w z f)(hb:WQ w w'):jY w' z f:=by
 obtain⟨c,t,b⟩:=h.bz;obtain⟨j,l,e⟩:=h.bf;exact⟨(hb.cell (p:=⟨1,0,U⟩) h.lz).trans h.cz,(hb.cell (p:=⟨2,0,U⟩) h.lf).trans h.cf,h.ne,⟨c,t,(hb.block _ (Ug.1 b).1).trans b⟩,⟨j,l,(hb.block _ (Ug.1 e).1).trans e⟩⟩
def GY(z f:Addr)(e:Ending):Prop:=e=.panicked [{ v := .iface 338 (WV (S z)),recovered:=false }]\/e=.panicked [{ v := .iface 338 (WV (S f)),recovered:=false }]
def E6(o:Option Int)(z f:Addr)(w:WR)(e:Ending)(w':WR):Prop:=WQ w w'/\match o with
  |some v=>e=WZ (Z Y v)
  |none=>GY z f e
theorem vw(L:List (List UInt8))(E:Sp.Ev)(hE:Sp.nA E)(g cap:Nat)(z f:Addr)(w:WR)(hc:og w g L)(he:jY w z f):WT prog 115 #[J (S ⟨g,0,U⟩) (Xg L) cap,m5 E] w (E6 (Sp.ev L E) z f w):=by
 have HC:=cT hc;have HE:=cT he;have Q:=cT hE;clear hc he hE;generalize N:E6 (Sp.ev L E) z f w=b;replace N:=cT N;unfold m5;go_enter func115,ntmps115
 iterate 25 (first|go_values|go_skip|go_guarded|go_step|go_upon|(simp only[Int.not_lt,Int.not_le] at *;go_simp))
 refine wpList_store_row O 223 (.tmp 5) (.tmp 8) O (w.heap.size+1) (eX (J (S ⟨g,0,U⟩) (Xg L) cap) E) O O 223 (eo (J U 0 0) 0 W9) ?h1 (by kernel_rfl) O (by simp[eX,Value.oneCell']) ?h2
 case h1 =>
  rw[<-Uv w (D #[Z Y E.value,Z Y E.jf,Z Y E.iI,Z Y E.step,Z Y E.id,Z Y E.deg,Z Y E.all,Z Y E.yp,Z Y E.weight] 165)];exact T9 _ _
 case h2 =>
 have m:WQ w (((w.alloc (D #[Z Y E.value,Z Y E.jf,Z Y E.iI,Z Y E.step,Z Y E.id,Z Y E.deg,Z Y E.all,Z Y E.yp,Z Y E.weight] 165)).alloc (D (eo (J U 0 0) 0 W9) 223)).setRow (w.heap.size+1) (eX (J (S ⟨g,0,U⟩) (Xg L) cap) E)):=below_setRow (((T4 _ w).alloc WN _).alloc (by simp) _) (by omega) _;have u:(((w.alloc (D #[Z Y E.value,Z Y E.jf,Z Y E.iI,Z Y E.step,Z Y E.id,Z Y E.deg,Z Y E.all,Z Y E.yp,Z Y E.weight] 165)).alloc (D (eo (J U 0 0) 0 W9) 223)).setRow (w.heap.size+1) (eX (J (S ⟨g,0,U⟩) (Xg L) cap) E)).heap[w.heap.size+1]?=S (D (eX (J (S ⟨g,0,U⟩) (Xg L) cap) E) 223 (0,0)):=by
  refine U8 _ _ (eo (J U 0 0) 0 W9) _ _ _ ?_;rw[<-Uv w (D #[Z Y E.value,Z Y E.jf,Z Y E.iI,Z Y E.step,Z Y E.id,Z Y E.deg,Z Y E.all,Z Y E.yp,Z Y E.weight] 165)];exact T9 _ _
 generalize R:World.setRow _ _ _=W;replace m:WQ w W:=by rw[<-R];exact m
 replace u:W.heap[w.heap.size+1]?=S (D (eX (J (S ⟨g,0,U⟩) (Xg L) cap) E) 223 (0,0)):=by rw[<-R];exact u
 clear R;have y:w.heap.size+1<W.heap.size:=(Ug.1 u).1;have r:WT prog 113 #[WV (S ⟨w.heap.size+1,0,U⟩)] W (DG (Sp.lC L E 201 ⟨0,200,[],[]⟩) (w.heap.size+1) (J (S ⟨g,0,U⟩) (Xg L) cap) L E 338 (WV (S z)) 338 (WV (S f)) W):=by
  obtain⟨MS,T⟩:=(cS HC).Tw m (M:=w.heap.size+1) (by omega);have he:=cS HE;refine J8 L MS E (cS Q) (w.heap.size+1) g cap _ _ _ _ ⟨0,200,[],[]⟩ W T ⟨Sp.OH L 200,Sp.RF L 200,⟨λv P=>(by cases P),λq hq=>(by cases hq)⟩,⟨_,jr.zV u,Uw _ _ _ _⟩,rfl,T4 _ _,TY _⟩ (by have:=he.lz;omega) ((m.cell (p:=⟨1,0,U⟩) he.lz).trans he.cz) (by have:=he.lf;omega) ((m.cell (p:=⟨2,0,U⟩) he.lf).trans he.cf)
 go_wp2_with fail;refine r.mono ?_;clear r;cases F:Sp.lC L E 201 ⟨0,200,[],[]⟩ with
 |none =>
  have l:Sp.ev L E=U:=by unfold Sp.ev;rw[F];rfl
  rintro e A ⟨B,V⟩;have j:∀e,GY z f e->b e A:=λe he=>by
   rw[<-cS N,l];exact⟨m.trans (B.mono (by omega)),he⟩
  rcases V with rfl|rfl
  .have G:=cT (j _ (Xa O));clear B m u y j F l;go_wp2;exact⟨O,cS G⟩
  .have G:=cT (j _ (Xb O));clear B m u y j F l;go_wp2;exact⟨O,cS G⟩
 |some t =>
  obtain⟨v,P,l⟩:=Sp.JS (cS HC).CP F;rintro e A ⟨B,rfl,x,hd,_⟩;have j:∀C,WQ A C\/eB (w.heap.size+1) A C->b (WZ (Z Y v)) C:=λC h2=>by
   rw[<-cS N,l];have X:WQ w A:=m.trans (B.mono (by omega));rcases h2 with h2|h2
   .exact⟨X.trans (h2.mono X.size),O⟩
   .exact⟨X.trans (h2.below.mono (by omega)),O⟩
  rw[P] at hd;have G:=cT j;clear B m u y j F l P;go_wp2_with fail;refine(rU v _ _ _ E [] _ x A hd).mono ?_;rintro e C ⟨rfl,s,I⟩;have o:=cT (cS G C (Xb I));clear hd s I;go_wp2;exact cS o
end
section
variable {B:Nat}{w:WR}
theorem fy{u e size n:Nat}{v:WS}{y:List WS}(h:w.ownsRow u e size v n y)(z:B<=u): w.ownsRow B e size v n y:=by
 obtain⟨A,b⟩:=h;refine⟨A,?_⟩;rcases b with b|⟨g,j,l,C,m,F,r⟩
 .exact .inl b
 .exact .inr ⟨g,j,l,C,Uc z m,F,r⟩
structure sC (F:Nat) (k:List UInt8):Prop where
 enter:∀(args:Array WS) (w:WR),(callFunc F args).run prog w=.ok (.enter F args) w
 calls:∀(a b:Int) (w:WR),WT prog F #[Z Y a,Z Y b] w λe w'=>e=WZ (Z Y (Sp.jt k a b))/\w'=w
theorem join_min:sC 243 [109,105,110]:=by
 refine⟨cZ func243 (by kernel_rfl) (by kernel_rfl),λa b w=>?_⟩;have h:Sp.jt [109,105,110] a b=min a b:=by unfold Sp.jt;simp only[Wb,reduceCtorEq,and_false,Vg];simp;omega
 rw[h];go_enter func243,ntmps243;go_wp2;go_ret;exact⟨O,O⟩
theorem join_max:sC 244 [109,97,120]:=by
 refine⟨cZ func244 (by kernel_rfl) (by kernel_rfl),λa b w=>?_⟩;have h:Sp.jt [109,97,120] a b=max a b:=by unfold Sp.jt;simp only[Wb,reduceCtorEq,and_false,Vg];simp;omega
 rw[h];go_enter func244,ntmps244;go_wp2;go_ret;exact⟨O,O⟩
theorem JY:sC 245 [115,117,109]:=by
 refine⟨cZ func245 (by kernel_rfl) (by kernel_rfl),λa b w=>?_⟩;have h:Sp.jt [115,117,109] a b=wrap64 (a+b):=by unfold Sp.jt;simp
 rw[h];go_enter func245,ntmps245;go_wp2;go_ret;exact⟨O,O⟩
theorem M1:(k:Nat)->k<3->sC (QT[k]!) (Sp.ft[k]!)
 |0,_=>join_min
 |1,_=>join_max
 |2,_=>JY
 |n+3,h=>absurd h (by omega)
theorem My:(k:Nat)->k<3->oU k=Sp.eR (Sp.ft[k]!)
 |0,_=>rfl
 |1,_=>rfl
 |2,_=>rfl
 |n+3,h=>absurd h (by omega)
def mW(w:WR)(B o:Nat)(k:List UInt8):Prop := ∃b F,w.cell? ⟨B,o,U⟩=S (H b)/\w.cell? ⟨B,o+1,U⟩=S (Z Y (Sp.eR k))/\w.cell? ⟨B,o+2,U⟩=S (.func (.func F) #[] #[])/\sC F k
structure jJ (w:WR) (B:Nat) (P:Sp.Pg):Prop where
 lt:B<w.heap.size
 code:∀i,i<5->∃g cap,w.cell? ⟨B,i*4,U⟩=S (J (S ⟨g,0,U⟩) (P.code i).length cap)/\og w g (P.code i)
 pB:mW w B 21 P.pB
 al:mW w B 25 P.al
theorem mW.below{w':WR}{o:Nat}{k:List UInt8}(h:mW w B o k)(b:B<w.heap.size)(hb:WQ w w'): mW w' B o k:=by
 obtain⟨e,F,j,l,m,r⟩:=h;exact⟨e,F,(hb.cell (p:=⟨B,o,U⟩) b).trans j,(hb.cell (p:=⟨B,o+1,U⟩) b).trans l,(hb.cell (p:=⟨B,o+2,U⟩) b).trans m,r⟩
theorem jJ.below{w':WR}{P:Sp.Pg}(h:jJ w B P)(hb:WQ w w'): jJ w' B P:=by
 refine⟨Ux h.lt hb.size,λi hi=>?_,h.pB.below h.lt hb,h.al.below h.lt hb⟩;obtain⟨g,b,e,j⟩:=h.code i hi;exact⟨g,b,(hb.cell (p:=⟨B,i*4,U⟩) h.lt).trans e,j.below hb⟩
def oI(k:List UInt8)(w:WR)(e:Ending)(w':WR):Prop := ∃b F,e=WZ (.agg #[H b,Z Y (Sp.eR k),.func (.func F) #[] #[]])/\sC F k/\WQ w w'
theorem KO(B:Nat)(P:Sp.Pg)(w:WR)(h:jJ w B P):WT prog 76 #[WV (S ⟨B,0,U⟩)] w (oI P.pB w):=by
 obtain⟨b,F,u,l,y,e⟩:=h.pB;have m:=h.lt;have r:=cT e;obtain⟨q,j⟩:∃q,Hid (Sp.eR P.pB=q):=⟨_,rfl⟩
 rw[cS j] at l;clear e h;have z:WQ w (w.alloc (D #[H ⟨#[]⟩,Z Y 0,.nilFunc] 152)):=WO.alloc WN _;go_enter func76,ntmps76;go_wp2;refine T8 (v := .agg #[H b,Z Y q,.func (.func F) #[] #[]]) (by simp[results,results76,go_sem]) O ⟨b,F,by rw[cS j],cS r,?_⟩;exact WO.alloc WN _
theorem EA(B:Nat)(P:Sp.Pg)(w:WR)(h:jJ w B P):WT prog 75 #[WV (S ⟨B,0,U⟩)] w (oI P.al w):=by
 obtain⟨b,F,u,l,y,e⟩:=h.al;have m:=h.lt;have r:=cT e;obtain⟨q,j⟩:∃q,Hid (Sp.eR P.al=q):=⟨_,rfl⟩
 rw[cS j] at l;clear e h;have z:WQ w (w.alloc (D #[H ⟨#[]⟩,Z Y 0,.nilFunc] 152)):=WO.alloc WN _;go_enter func75,ntmps75;go_wp2;refine T8 (v := .agg #[H b,Z Y q,.func (.func F) #[] #[]]) (by simp[results,results75,go_sem]) O ⟨b,F,by rw[cS j],cS r,?_⟩;exact WO.alloc WN _
end
section
def mC(E:Sp.Ev):Array WS := #[Z Y E.value,Z Y E.jf,Z Y E.iI,Z Y E.step,Z Y E.id,Z Y E.deg,Z Y E.all,Z Y E.yp,Z Y E.weight]
structure ep (w:WR) (S:Nat) (E:Sp.Ev):Prop where
 c0:w.cell? ⟨S,0,U⟩=some (Z Y E.value)
 c1:w.cell? ⟨S,1,U⟩=some (Z Y E.jf)
 c2:w.cell? ⟨S,2,U⟩=some (Z Y E.iI)
 c3:w.cell? ⟨S,3,U⟩=some (Z Y E.step)
 c4:w.cell? ⟨S,4,U⟩=some (Z Y E.id)
 c5:w.cell? ⟨S,5,U⟩=some (Z Y E.deg)
 c6:w.cell? ⟨S,6,U⟩=some (Z Y E.all)
 c7:w.cell? ⟨S,7,U⟩=some (Z Y E.yp)
 c8:w.cell? ⟨S,8,U⟩=some (Z Y E.weight)
 fz:∀j,w.frozen? ⟨S,j,U⟩=W9
variable {w:WR}
theorem ep.lt{b:Nat}{E:Sp.Ev}(h:ep w b E): b<w.heap.size:=Ui w _ h.c0
theorem ep.far{w':WR}{b:Nat}{E:Sp.Ev}(h:ep w b E)(e:∀j,w'.cell? ⟨b,j,U⟩=w.cell? ⟨b,j,U⟩)(l:∀j,w'.frozen? ⟨b,j,U⟩=w.frozen? ⟨b,j,U⟩): ep w' b E:=⟨(e _).trans h.c0,(e _).trans h.c1,(e _).trans h.c2,(e _).trans h.c3,(e _).trans h.c4,(e _).trans h.c5,(e _).trans h.c6,(e _).trans h.c7,(e _).trans h.c8,λj=>(l j).trans (h.fz j)⟩
theorem ep.below{w':WR}{b:Nat}{E:Sp.Ev}(h:ep w b E)(hb:WQ w w'): ep w' b E:=h.far (λj=>hb.cell (p:=⟨b,j,U⟩) h.lt) (λj=>hb.frozen (p:=⟨b,j,U⟩) h.lt)
theorem ep.new{b t:Nat}{E:Sp.Ev}(h:w.heap[b]?=S (D (mC E) t)): ep w b E:=⟨by simp[Xc,h,mC],by simp[Xc,h,mC],by simp[Xc,h,mC],by simp[Xc,h,mC],by simp[Xc,h,mC],by simp[Xc,h,mC],by simp[Xc,h,mC],by simp[Xc,h,mC],by simp[Xc,h,mC],λj=>by simp[World.frozen?,h]⟩
theorem ep.setW{b:Nat}{E:Sp.Ev}(h:ep w b E)(v:Int): ep (w.setCell ⟨b,8,U⟩ (Z Y v)) b (E.setW v):=by
 have e:∀j,j≠8->(w.setCell ⟨b,8,U⟩ (Z Y v)).cell? ⟨b,j,U⟩=w.cell? ⟨b,j,U⟩:=λj l=>cW (by omega)
 exact⟨(e _ (by omega)).trans h.c0,(e _ (by omega)).trans h.c1,(e _ (by omega)).trans h.c2,(e _ (by omega)).trans h.c3,(e _ (by omega)).trans h.c4,(e _ (by omega)).trans h.c5,(e _ (by omega)).trans h.c6,(e _ (by omega)).trans h.c7,UN _ _ _ h.c8,λj=>(UK _ _ _ _).trans (h.fz j)⟩
def uW(o:Option (List (Nat × Int)))(z f:Addr)(w:WR)(e:Ending)(w':WR):Prop:=WQ w w'/\match o with
  |some l=>∃v,e=WZ v/\w'.ownsRow w.heap.size 2 1 v (Xg l) (l.map λm=>Z Y m.2)
  |none=>GY z f e
structure Lo (L:List (List UInt8)) (E:Sp.Ev) (Es:List Sp.Ed) (w wr:WR) (k:Nat) (l:List (Nat × Int)) (v:WS):Prop where
 ms:Sp.msgs L E (Es.take k)=S l
 si:∃q,ep wr w.heap.size (E.setW q)
 row:wr.ownsRow (w.heap.size+1) 2 1 v (Xg l) (l.map λm=>Z Y m.2)
 lJ:WQ w wr
theorem IC{L:List (List UInt8)}{E:Sp.Ev}{Es:List Sp.Ed}{k:Nat}(b:k<Es.length){l:List (Nat × Int)}(h:Sp.msgs L E (Es.take k)=S l):Sp.msgs L E (Es.take (k+1))=match Sp.ev L (E.setW Es[k].n) with
  |none=>U
  |some m=>S (l++[(Es[k].cR,m)]):=by
 rw[Vf b,Sp.tU,h];simp only[Sp.msgs];cases Sp.ev L (E.setW Es[k].n) <;> rfl
theorem Ig{L:List (List UInt8)}{E:Sp.Ev}{Es:List Sp.Ed}{k:Nat}(h:Sp.msgs L E (Es.take k)=U):Sp.msgs L E Es=U:=by
 rw[<-U7 k Es,Sp.tU,h]
theorem eQ{z f:Addr}{e:Ending}(h:GY z f e):∃b,e=.panicked b:=by
 rcases h with rfl|rfl <;> exact⟨_,O⟩
theorem zq(B:Nat)(P:Sp.Pg)(E:Sp.Ev)(Es:List Sp.Ed)(pe:Option Addr)(cap:Nat)(z f:Addr)(w:WR)(hp:jJ w B P)(he:jY w z f)(hE:Sp.nA E)(ah:gh w pe Es)(hn:∀x∈Es,Sp.i64 x.n)(hl:Es.length<=1000):WT prog 116 #[WV (S ⟨B,0,U⟩),m5 E,J pe Es.length cap] w (uW (Sp.msgs (P.code 2) E Es) z f w):=by
 obtain⟨t2,ay,az,aA,aB⟩:=UB info_i64;obtain⟨g,o,aC,ai⟩:=hp.code 2 (by omega);have aD:=hp.lt;have HW:=cT (And.intro ai (And.intro he (And.intro hE hn)));have aE:=cT ah;generalize hO:uW (Sp.msgs (P.code 2) E Es) z f w=b;replace hO:=cT hO;generalize hL:P.code 2=L at *;replace hL:=cT hL;clear hp ai he hE ah hn;have aj:Hid (Lo L E Es w (w.alloc (D (mC E) 165)) 0 [] (J U 0 0)):=⟨O,⟨E.weight,ep.new (E:=E) (T9 w _)⟩,Uw _ _ _ _,WO.alloc WN _⟩
 unfold m5;go_enter func116,ntmps116;go_wp2_with fail
 go_loopw [7,12] (λvv i wr=>∃(k:Nat) (l:List (Nat × Int)) (v:WS),k<=Es.length/\i=Z Y k/\vv=v/\Hid (Lo L E Es w wr k l v)) (λ_ i _=>Es.length-(intOf i).toNat)
 case atStart=>exact⟨0,[],_,Ud _,rfl,rfl,aj⟩
 case round =>
  clear aj;obtain⟨k,l,v,hk,rfl,ak,HI⟩:=hrel;obtain rfl:=ak.symm;clear ak;by_cases ad:k<Es.length
  .have an:(k:Int)<(Es.length:Int):=by omega
   have g0:(0:Int)<=(k:Int):=UF _;have T:=(cS HI).lJ;obtain⟨ge,rfl,ae,d0,d1,d2⟩:=(cS aE) k ad;have c0:wr.cell? ⟨ge,k*3,U⟩=S (Z Y (Es[k].dj:Int)):=(T.cell (p:=⟨ge,k*3,U⟩) ae).trans d0;have c1:wr.cell? ⟨ge,k*3+1,U⟩=S (Z Y (Es[k].cR:Int)):=(T.cell (p:=⟨ge,k*3+1,U⟩) ae).trans d1;have c2:wr.cell? ⟨ge,k*3+2,U⟩=S (Z Y Es[k].n):=(T.cell (p:=⟨ge,k*3+2,U⟩) ae).trans d2;obtain⟨q,I⟩:=(cS HI).si;have s8:=I.c8;have sf:=I.fz 8;have hS:=I.lt;have ao:Xg l=k:=by have:=Sp.AE (cS HI).ms;rw[Vj] at this;omega
   obtain⟨x,hx⟩:∃x,Es[k]=x:=⟨_,rfl⟩
   rw[hx] at c0 c1 c2;have HX:=cT hx;clear d0 d1 d2 hx;have aq:Hid (∀W,W=(wr.setCell ⟨w.heap.size,8,U⟩ (Z Y x.n)).alloc (D #[Z Y (x.dj:Int),Z Y (x.cR:Int),Z Y x.n] 162)->ep W w.heap.size (E.setW x.n)/\W.ownsRow (w.heap.size+1) 2 1 v k (l.map λm=>Z Y m.2)/\WQ w W):=by
    show ∀W,_
    rintro W rfl;have hA:Below (wr.setCell ⟨w.heap.size,8,U⟩ (Z Y x.n)).heap.size (wr.setCell ⟨w.heap.size,8,U⟩ (Z Y x.n)) ((wr.setCell ⟨w.heap.size,8,U⟩ (Z Y x.n)).alloc (D #[Z Y (x.dj:Int),Z Y (x.cR:Int),Z Y x.n] 162)):=WO.alloc WN _;have r:WQ w (wr.setCell ⟨w.heap.size,8,U⟩ (Z Y x.n)):=T.setCell (p:=⟨w.heap.size,8,U⟩) WN _;refine⟨(I.setW x.n).below hA,?_,r.trans (hA.mono r.size)⟩;have:=(cS HI).row;rw[ao] at this;exact dd (((eB.refl _ _).set _ _).own this) hA
   go_upto_region 6 with fail;generalize hW:World.alloc _ _=W;obtain⟨G,hr,u⟩:=cS aq W hW.symm;clear hW aq I c0 c1 c2 s8 sf;have y0:=G.c0;have y1:=G.c1;have y2:=G.c2;have y3:=G.c3;have y4:=G.c4;have y5:=G.c5;have y6:=G.c6;have y7:=G.c7;have y8:=G.c8;have aM:=(u.cell (p:=⟨B,8,U⟩) aD).trans aC;have aN:=G.lt;have M:=cS HW;have aF:Sp.i64 x.n:=by rw[<-cS HX];exact M.2.2.2 _ (UU ad)
   have y:WQ W W.drew:=WO.drew;have aa:og W.drew g L:=(M.1.below (u)).below y;have ab:jY W.drew z f:=(M.2.1.below u).below y;have HA:Hid (WT prog 115 #[J (S ⟨g,0,U⟩) (Xg L) o,m5 (E.setW x.n)] W.drew (E6 (Sp.ev L (E.setW x.n)) z f W.drew)):=vw L (E.setW x.n) (M.2.2.1.setW aF) g o z f W.drew aa ab;have aG:Hid (∀(args:Array WS) (w:WR),(callFunc 115 args).run prog w=.ok (.enter 115 args) w):=cZ func115 (by kernel_rfl) (by kernel_rfl);clear aa ab M;have C:=IC ad (cS HI).ms;rw[cS HX] at C;cases V:Sp.ev L (E.setW x.n) with
   |none =>
    rw[V] at HA C;have HF:Hid (∀e N,Below W.heap.size W.drew N->GY z f e->b e N):=by
     show ∀e N,_
     intro e N af X;rw[<-cS hO,Ig C];exact⟨u.trans ((y.trans af).mono u.size),X⟩
    clear C V G hr u y
    go_region_with (refine(cS HA).mono ?_;rintro e Q ⟨r,X⟩;obtain⟨ch,rfl⟩:=eQ X;refine jA prog Q ⟨O,cS HF _ Q (r.mono WN) X⟩ ?_)
    all_goals trivial
   |some m =>
    rw[V] at HA C;have HN:Hid (∀N v',WQ w N->ep N w.heap.size (E.setW x.n)->N.ownsRow (w.heap.size+1) 2 1 v' (k+1) ((l.map λm=>Z Y m.2)++[Z Y m])->Lo L E Es w N (k+1) (l++[(x.cR,m)]) v'):=by
     show ∀N v',_
     intro N v' af aH aI;refine⟨C,⟨_,aH⟩,?_,af⟩;rw[UG,ao];simpa using aI
    clear C V
    go_region_law (first
    |(refine du (by rfl) _ _ _ (by rfl) 115 (by rfl) _ (by rfl) (cS aG) (cS HA) ?_;rintro e Q ⟨r,rfl⟩;dsimp only)
     | (refine step_append_lies _ (by rfl) _ _ _ (by rfl) (w.heap.size+1) 2 t2 _ 1 8 underlying30 ay az aA aB rfl (by omega) v _ _ (by rfl) ((dd hr (y.trans (r.mono WN))).alloc _) ⟨Q.heap.size,0,U⟩ 1 1 [Z Y m] (by rfl) (by rfl) (We (cs := #[Z Y m]) (t:=2) (fr:=(0,0)) (T9 Q _)) (by simp[Value.oneCell']) (by omega) (by unfold maxLen;omega) (by omega) (by have:=r.size;simp at this ⊢;omega) (Q.heap.size+1) (by simp) ?_;intro gg cp w2 R A aJ ar))
    all_goals
     have F:WQ w Q:=u.trans ((y.trans (r.mono WN)).mono u.size);have s:ep Q w.heap.size (E.setW x.n):=G.below (y.trans (r.mono WN));have aK:=dd hr (y.trans (r.mono WN));have ag:S w.heap.size≠v.ownBlock:=λe=>by have:=(hr.lt _ e.symm).1;omega
     have au:WQ Q (Q.alloc (D #[Z Y m] 2)):=WO.alloc WN _;have av:ep w2 w.heap.size (E.setW x.n):=(s.below au).far (λj=>A.cell_far ⟨w.heap.size,j,U⟩ (by have:=s.lt;simp;omega) ag) (λj=>A.frozen_far ⟨w.heap.size,j,U⟩ (by have:=s.lt;simp;omega) ag);have aw:WQ w w2:=(F.alloc F.size _).grown A (by have:=F.size;simp;omega) (λj hj=>by have:=(hr.lt j hj).1;omega);have aL:=cT (cS HN w2 _ aw av R);clear F s aK ag au av aw R A aJ ar r G hr u y;go_wp2;go_roundw
     case rel=>exact⟨k+1,_,_,by omega,by go_num,rfl,aL⟩
     case measure=>simp[intOf];omega
  .have an:¬(k:Int)<(Es.length:Int):=by omega
   obtain rfl:k=Es.length:=by omega
   have HF:Hid (b (WZ v) wr):=by
    show b _ _
    have hI:=cS HI;have ax:=hI.ms;rw[Vd] at ax;rw[<-cS hO,ax];exact⟨hI.lJ,v,O,fy hI.row (U0 _)⟩
   go_wp2;exact cS HF
end
section
theorem Ag:∃i j,prog.info? 338=S i/\i.comparable=W8/\prog.info? 363=S j/\j.size≠0:=by
 refine⟨_,_,O,by kernel_rfl,O,?_⟩;exact VI (by kernel_rfl)
theorem A8(a:Addr)(w:WR):(binOp .eql 20 (.iface 338 (WV (S a))) (.iface 338 (WV (S a)))).run prog w=.ok (WW W8) w:=by
 obtain⟨i,j,b,e,l,m⟩:=Ag;exact run_eql_iface_ptr_same w a underlying20 underlying338 b e l
theorem Ij{z f:Addr}{w:WR}(h:jY w z f):(binOp .eql 20 (.iface 338 (WV (S f))) (.iface 338 (WV (S z)))).run prog w=.ok (WW W9) w:=by
 obtain⟨i,j,b,l,m,r⟩:=Ag;obtain⟨c,t,u⟩:=h.bz;obtain⟨A,B,y⟩:=h.bf;exact run_eql_iface_ptr_other w underlying20 underlying338 b l m r (λe=>h.ne e.symm) y u
theorem FH(b:TypeId)(v:WS)(w:WR):(binOp .eql 20 (.iface b v) .nilIface).run prog w=.ok (WW W9) w:=by
 have h:∀d:Nat,(Op.equalIn (d+1) 20 (.iface b v) .nilIface).run prog w=.ok W9 w:=λd=>by simp[Op.equalIn,run_underlying underlying20]
 simp only[binOp];simp[Op.equal,Op.maxDepth,h 9999]
theorem Bg(p q:Addr)(w:WR):CallsD prog 114 #[WV (S p),WV (S q)] .returning w λe b j=>e=WZ (WX #[])/\b=.returning/\j=w:=by
 refine callsD_of_wpS func114 O λl m hu=>?_
 apply wpS_seq;apply wpS_region;simp[wpOpsS,go_sem,recoverD,hu,ntmps114,Exit.thenS];refine wpS_of_wp ?_;go_wp2;cases l
 simp_all [bodyPostS,results,results114]
def oX(w:WR)(T K:Nat):WR:=((((w.setCell ⟨T,0,U⟩ (Z Y 0)).setCell ⟨T,1,U⟩ (J U 0 0)).setCell ⟨T,2,U⟩ (WW W9)).setCell ⟨T,3,U⟩ (Z Y 0)).setCell ⟨K,0,U⟩ (WW W9)
structure eN (w:WR) (T K:Nat) (a:Int) (b:WS) (c:Bool) (d:Int) (k:Bool):Prop where
 c0:w.cell? ⟨T,0,U⟩=S (Z Y a)
 c1:w.cell? ⟨T,1,U⟩=S b
 c2:w.cell? ⟨T,2,U⟩=S (WW c)
 c3:w.cell? ⟨T,3,U⟩=S (Z Y d)
 ck:w.cell? ⟨K,0,U⟩=S (WW k)
 fz:∀j,w.frozen? ⟨T,j,U⟩=W9
 fk:w.frozen? ⟨K,0,U⟩=W9
 ne:T≠K
theorem AK(T K:Nat)(z f:Addr)(a d:Int)(b:WS)(c k:Bool)(w:WR)(h:eN w T K a b c d k)(he:jY w z f):CallsD prog 114 #[WV (S ⟨T,0,U⟩),WV (S ⟨K,0,U⟩)] (.panicking ({ v := .iface 338 (WV (S z)),recovered:=false }::[])) w λe l m =>
   e=WZ (WX #[])/\l=.panicking ({ v := .iface 338 (WV (S z)),recovered:=true }::[])/\m=oX w T K:=by
 have u:=he.cz;have y:=A8 z w;have A:=FH 338 (WV (S z)) w;obtain⟨B,C,F,G,I,j,L,M⟩:=h;have N:=j 0;have P:=j 1;have Q:=j 2;have R:=j 3;clear he;refine callsD_of_wpS func114 O λr V hu=>?_
 apply wpS_seq;apply wpS_region;simp[wpOpsS,go_sem,recoverD,hu,ntmps114,Exit.thenS];refine wpS_of_wp ?_
 show Code.wp _ _ _ { tmps := #[WV (S ⟨T,0,U⟩),WV (S ⟨K,0,U⟩),.iface 338 (WV (S z)),.iface 338 (WV (S z)),undef,undef,undef,undef,undef,undef,undef,undef,undef,undef],defers:=[] } w
 go_wp2;cases r;refine⟨O,_,?_,WX #[],by simp[results,results114,go_sem],O,O,O⟩
 simp_all
theorem Be(T K:Nat)(z f:Addr)(a d:Int)(b:WS)(c k:Bool)(w:WR)(h:eN w T K a b c d k)(he:jY w z f):CallsD prog 114 #[WV (S ⟨T,0,U⟩),WV (S ⟨K,0,U⟩)] (.panicking ({ v := .iface 338 (WV (S f)),recovered:=false }::[])) w λe l m =>
   e=WZ (WX #[])/\l=.panicking ({ v := .iface 338 (WV (S f)),recovered:=true }::[])/\m=oX w T K:=by
 have u:=he.cz;have y:=he.cf;have A:=A8 f w;have B:=FH 338 (WV (S f)) w;have C:=Ij he;obtain⟨F,G,I,L,M,j,N,P⟩:=h;have Q:=j 0;have R:=j 1;have V:=j 2;have W:=j 3;clear he;refine callsD_of_wpS func114 O λr X hu=>?_
 apply wpS_seq;apply wpS_region;simp[wpOpsS,go_sem,recoverD,hu,ntmps114,Exit.thenS];refine wpS_of_wp ?_
 show Code.wp _ _ _ { tmps := #[WV (S ⟨T,0,U⟩),WV (S ⟨K,0,U⟩),.iface 338 (WV (S f)),.iface 338 (WV (S f)),undef,undef,undef,undef,undef,undef,undef,undef,undef,undef],defers:=[] } w
 go_wp2;cases r;refine⟨O,_,?_,WX #[],by simp[results,results114,go_sem],O,O,O⟩
 simp_all
end
end Go.Proofs.YtgkkdpegcieakaaGreatDoor
