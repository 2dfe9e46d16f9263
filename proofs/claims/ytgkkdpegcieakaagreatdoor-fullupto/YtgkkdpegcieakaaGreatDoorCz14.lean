import Derived.Test.YtgkkdpegcieakaaGreatDoorCz10
import Derived.Test.YtgkkdpegcieakaaGreatDoorCz12
import Derived.Test.YtgkkdpegcieakaaGreatDoorCz13
set_option linter.unusedVariables false
set_option linter.unusedSimpArgs false
set_option maxRecDepth 100000
set_option maxHeartbeats 16000000
namespace Go.Proofs.YtgkkdpegcieakaaGreatDoor
open Go.Proofs.Tryz
open Value renaming int→Z
open IntKind renaming i64→Y
open Go renaming World→TJ,Value→TK,Calls→TL
section
open Go.RowKit
def hb(L:List (List UInt8))(a:Nat):Nat:=match Sp.eZ (L.take (a+1)) 0 [] with
 |some (h,_)=>h
 |none=>0
def MM(L:List (List UInt8))(b:List (Int × Nat)):List (Int × Nat):=(b.map λq=>(q.1,hb L q.2)).reverse
theorem uQ(L:List (List UInt8))(k:Int)(a:Nat)(r:List (Int × Nat)):MM L ((k,a)::r)=MM L r++[(k,hb L a)]:=by simp[MM]
theorem K7(L:List (List UInt8))(b:List (Int × Nat)):(MM L b).length=b.length:=by simp[MM]
def oZ(w:TJ)(M:Nat)(b:TK)(L:List (List UInt8))(E:Sp.Ev)(j e:Nat)(T:List Int)(l:List (Int × Nat)):Prop :=
 ∃x,jj w M b j e E T x/\w.ownsRow (M+1) 313 2 x l.length (p9 (MM L l))
def Cp(o:Option Sp.Ms)(M:Nat)(b:TK)(L:List (List UInt8))(E:Sp.Ev)(u:TypeId)(p:TK)(w:TJ)(e:Ending)(w':TJ):Prop:=Below M w w'/\match o with
  |some t=>e=.returned (.tuple #[])/\∃a,a+1=t.at'/\oZ w' M b L E a t.fuel t.T t.lp
  |none=>e=.panicked [{ v := .iface u p,recovered:=false }]
variable {s:Sp.Ms}{E:Sp.Ev}{L:List (List UInt8)}
theorem Gc{x:List UInt8}(b:L.getD s.at' []=x)(e:s.fuel≠0)(h1:x≠[91])(h2:x≠[93]): Sp.gy L E s=(Sp.lj E x s.T).map λT=>⟨s.at'+1,s.fuel-1,T,s.lp⟩:=by
 unfold Sp.gy;rw[cd e,b,cd h1,cd h2]
theorem xt{x:List UInt8}{M:Nat}{b l:TK}{u:TypeId}{p:TK}{w w':TJ}{e:Ending}(y:L.getD s.at' []=x)(z:s.fuel≠0)(h1:x≠[91])(h2:x≠[93])(A:w.ownsRow (M+1) 313 2 l s.lp.length (p9 (MM L s.lp)))(B:Jd (Sp.lj E x s.T) M s.at' (s.fuel-1) E b l u p w e w'): Cp (Sp.gy L E s) M b L E u p w e w':=by
 obtain⟨m,j⟩:=B;rw[Gc y z h1 h2];refine⟨m.below,?_⟩;cases r:Sp.lj E x s.T with
 |none=>rw[r] at j;exact j
 |some T =>
  rw[r] at j;exact⟨j.1,s.at',rfl,l,j.2,m.own A⟩
theorem JD(L:List (List UInt8)):∀(k:Nat) (m o:List Nat),Sp.fB L k=some (m,o)->o.length<=k:=by
 intro k
 induction k with
 |zero=>intro b e h;simp[Sp.fB] at h;obtain⟨_,rfl⟩:=h;exact b7 _
 |succ k j =>
  intro b e h;simp only[Sp.fB] at h;split at h
  .cases h
  .rename_i r u l;have y:=(Sp.uv h).2;have z:=Sp.A9 (L.getD k []);have A:=j _ _ l;omega
theorem I2{a h:Nat}{b:List Nat}(e:Sp.eZ (L.take (a+1)) 0 []=some (h,b)): hb L a=h:=by unfold hb;rw[e]
theorem EX{MS:List Nat}{r:Nat × List Nat}(o:Sp.kh true L 0=true)(hk:Sp.eZ L 0 []=some r)(aa:Sp.fB L L.length=some (MS,[]))(hH:Sp.yH L s)(hP:Sp.Ij L s)(hV:Sp.Gb s)(hi:s.at'<L.length)(i:s.fuel≠0)(au:L.length<=4000){M g cap:Nat}{u:TypeId}{p:TK}{w0 w:TJ}{F:Nat}{Q:Array TK}(hF:Fn w0 M L[s.at'] (.func (.func F) #[] Q))(hb:Below M w0 w)(hg:g<M)(m:w.cell? ⟨g,s.at'*2+1,none⟩=some (Z Y ((MS.getD s.at' 0:Nat):Int)))(hd:oZ w M (.slice (some ⟨g,0,none⟩) L.length cap) L E s.at' (s.fuel-1) s.T s.lp)(hv:JI M u p w):TL prog F (#[.pointer (some ⟨M,0,none⟩)]++Q) w (Cp (Sp.gy L E s) M (.slice (some ⟨g,0,none⟩) L.length cap) L E u p w):=by
 obtain⟨l,S,J⟩:=hd;obtain⟨h,ls,e,hT,f⟩:=hH.ex;obtain⟨h',av,d,e'⟩:=Sp.rj hk hi e;have C:=Sp.mT hi;have aw:=(Sp.uo o _ _ _ (by omega) e).2;obtain⟨ms,er⟩:=hP.at';have R:s.lp.length<=4000:=by
  have U:=JD L _ _ _ er;simp at U;omega
 rcases hF with ⟨B,n,hB,ef,hn,b⟩|⟨k,ab,D,ef⟩
 .injection ef with e1 e2 e3;injection e1 with e1;subst e1 e3;have U:L[s.at']≠[91]:=by intro hc;rw[hc,show Sp.number [91]=none by decide] at b;cases b
  have h2:L[s.at']≠[93]:=by intro hc;rw[hc,show Sp.number [93]=none by decide] at b;cases b
  obtain⟨n',m',K,ah,y,_⟩:=Sp.vM U h2 d;rw[Sp.yX b] at K;injection K with K;injection K with t1 t2;subst t1 t2;refine(Kv b B M s.at' (s.fuel-1) E s.T _ l u p w S (by omega) ((jl hb hB).trans hn.cell)).mono λe N hp=>?_
  exact xt C i U h2 J hp
 .unfold oT at ef;injection ef with e1 e2 e3;injection e1 with e1;subst e1 e3;by_cases H:k<23
  .have V:∀j,j<23->Sp.yn[j]!≠[91]/\Sp.yn[j]!≠[93]:=by decide
   have U:L[s.at']≠[91]:=by rw[D];exact(V k H).1
   have h2:L[s.at']≠[93]:=by rw[D];exact(V k H).2
   obtain⟨n',m',K,ah,y,_⟩:=Sp.vM U h2 d;rw[D,Sp.Ec k ab] at K;injection K with K;have ai:=PG k H M s.at' (s.fuel-1) E s.T (.slice (some ⟨g,0,none⟩) L.length cap) l u p w S hv (by rw[K];simp only;omega) (by rw[K];simp only;omega);refine ai.mono λe N hp=>?_
   rw[<-D] at hp;exact xt C i U h2 J hp
  .by_cases ad:k=23
   .subst ad;have O:L[s.at']=[91]:=D;rw[O] at d;obtain⟨V,d⟩:=Sp.yA d;injection d with d1 d2;subst d1 d2;obtain⟨n,T,W⟩:=CJ (T:=s.T) (by omega);rw[W] at S hT;simp only[cD] at hT;by_cases P:n<1
    .obtain⟨q,ax,ay,q1,q2,q3,q4,q5⟩:=Sp.DT o hk hi O e er;have aj:L[q]=[93]:=by rw[<-Sp.mT q2];exact q3
     obtain⟨_,ak⟩:=Sp.xK aa q2 aj q4;rw[ak] at m;have z:Sp.gy L E s=some ⟨q+1,s.fuel-1,T,s.lp⟩:=by
      unfold Sp.gy;rw[cd i,C,cg O,W];simp only;rw[cg P,q1];rfl
     rw[z];refine(Da _ M w (Lq n M s.at' (s.fuel-1) g L.length cap q E T l w S P hi (by omega) m) (λe N X=>Or.inl X.1)).mono ?_;rintro e N ⟨rfl,y,ae⟩;exact⟨ae.below,rfl,q,rfl,l,y,ae.own J⟩
    .have z:Sp.gy L E s=some ⟨s.at'+1,s.fuel-1,T,(n,s.at')::s.lp⟩:=by
      unfold Sp.gy;rw[cd i,C,cg O,W];simp only;rw[cd P]
     rw[z];refine(Da _ M w (KX n M s.at' (s.fuel-1) s.lp.length E T _ l _ w S P (by omega) J) (λe N X=>Or.inl X.1)).mono ?_;rintro e N ⟨rfl,x',y,G,I⟩;refine⟨I,rfl,s.at',rfl,x',y,?_⟩;rw[uQ,sC,I2 e'];have:T.length=h-1:=by omega
     rw[this] at G;exact G
   .have an:k=24:=by omega
    subst an;have O:L[s.at']=[93]:=D;rw[O] at d;cases A:s.lp with
    |nil =>
     rw[A] at f;have f:ls=[]:=f;subst f;exfalso;unfold Sp.dst at d;rw[cd (by decide),cg rfl] at d;cases d
    |cons q r =>
     obtain⟨t,a⟩:=q;rw[A] at f J;obtain⟨k1,a1,a2,h0,az,rfl,e0,aA⟩:=f;obtain⟨ao,d⟩:=Sp.B7 d;subst ao;rw[uQ,sC,I2 e0,<-hT] at J;simp only[cD] at J;obtain⟨gl,cl,rfl⟩:∃g cap,l=.slice (some ⟨g,0,none⟩) (r.length+1) cap:=by
      rcases J.2 with ⟨_,hn⟩|⟨g,cap,aB,hv,_⟩
      .omega
      .exact⟨g,cap,hv⟩
     have af:(p9 (MM L r)).length=r.length*2:=by rw[FH,K7]
     have aC:r.length<=4000:=by rw[A] at R;simp at R;omega
     have ag:=hV.lp (t,a) (by rw[A];exact mz ..);rw[A] at er;obtain⟨aq,_⟩:=Sp.xK aa hi O (by simpa using er);rw[aq] at m;by_cases x:1<t
     .have z:Sp.gy L E s=some ⟨a+1,s.fuel-1,s.T,(t-1,a)::r⟩:=by
       unfold Sp.gy;rw[cd i,C,O,cd (by decide),cg rfl,A];simp only;rw[cg x]
      rw[z];refine(RV _ M w (PA t M s.at' (s.fuel-1) r.length gl cl g L.length cap a E s.T _ w S (by omega) J af x ag.2 hi hg m) (λe N X=>Or.inl X.1)).mono ?_;rintro e N ⟨rfl,y,G,I⟩;refine⟨I,rfl,a,rfl,_,y,?_⟩;rw[uQ,sC,I2 e0,<-hT];exact G
     .have ar:t=1:=by have:=ag.1;simp only at this;omega
      have z:Sp.gy L E s=some ⟨s.at'+1,s.fuel-1,s.T,r⟩:=by
       unfold Sp.gy;rw[cd i,C,O,cd (by decide),cg rfl,A];simp only;rw[cd x]
      rw[z];refine(RV _ M w (P1 t M s.at' (s.fuel-1) r.length gl cl E s.T _ _ w S (by omega) J af ar) (λe N X=>Or.inl X.1)).mono ?_;rintro e N ⟨rfl,y,G,I⟩;exact⟨I,rfl,s.at',rfl,_,y,G⟩
end
section
open Go.RowKit
def Cj(o:Option Sp.Ms)(M:Nat)(code:TK)(L:List (List UInt8))(E:Sp.Ev)(u:TypeId)(p:TK)(b:TypeId)(pf:TK)(w:TJ)(e:Ending)(w':TJ):Prop:=Below M w w'/\match o with
  |some t=>e=.returned (.tuple #[])/\oZ w' M code L E t.at' t.fuel t.T t.lp
  |none=>e=.panicked [{ v := .iface u p,recovered:=false }]\/e=.panicked [{ v := .iface b pf,recovered:=false }]
structure Mp (w:TJ) (M g:Nat) (L:List (List UInt8)) (MS:List Nat):Prop where
 fm:Sp.kh true L 0=true
 keeps:∃r,Sp.eZ L 0 []=some r
 rd:Sp.fB L L.length=some (MS,[])
 len:L.length<=4000
 lt:g<M
 fn:∀i (hi:i<L.length),∃F caps,w.cell? ⟨g,i*2,none⟩=some (.func (.func F) #[] caps)/\Fn w M L[i] (.func (.func F) #[] caps)
 tS:∀i,i<L.length->w.cell? ⟨g,i*2+1,none⟩=some (Z Y ((MS.getD i 0:Nat):Int))
structure Ov (L:List (List UInt8)) (E:Sp.Ev) (M:Nat) (code:TK) (w wr:TJ) (s0 s:Sp.Ms):Prop where
 hi:Sp.yH L s
 pi:Sp.Ij L s
 vi:Sp.Gb s
 QP:oZ wr M code L E s.at' s.fuel s.T s.lp
 run:Sp.lG L E (s0.fuel+1) s0=Sp.lG L E (s.fuel+1) s
 kept:Below M w wr
 fu:s.fuel<=200
def Qy(M:Nat)(w:TJ):Nat:=match w.cell? ⟨M,2,none⟩ with
 |some v=>(intOf v).toNat
 |none=>0
variable {M:Nat}{w:TJ}
theorem H4{n:Int}(h:w.cell? ⟨M,2,none⟩=some (Z Y n)): Qy M w=n.toNat:=by
 unfold Qy;rw[h];rfl
variable {at' fuel:Nat}{code:TK}{L:List (List UInt8)}{lp:List (Int × Nat)}{E:Sp.Ev}{T:List Int}
theorem oZ.Ob(h:oZ w M code L E at' fuel T lp)(a:Nat): oZ (w.setCell ⟨M,2,none⟩ (Z Y a)) M code L E at' a T lp:=by
 obtain⟨x,b,e⟩:=h;exact⟨x,b.Ob a,((ey.refl M w).set _ _).own e⟩
theorem oZ.Kj(h:oZ w M code L E at' fuel T lp)(a:Nat): oZ (w.setCell ⟨M,1,none⟩ (Z Y a)) M code L E a fuel T lp:=by
 obtain⟨x,b,e⟩:=h;exact⟨x,b.Kj a,((ey.refl M w).set _ _).own e⟩
theorem oZ.drew(h:oZ w M code L E at' fuel T lp): oZ w.drew M code L E at' fuel T lp:=by
 obtain⟨x,b,e⟩:=h;exact⟨x,b.drew,e.drew⟩
theorem oZ.drewN(h:oZ w M code L E at' fuel T lp)(n:Nat): oZ (w.drewN n) M code L E at' fuel T lp:=by
 obtain⟨x,b,e⟩:=h;exact⟨x,b.drewN n,cW e (below_drewN w n)⟩
theorem lP:∀x n,Sp.number x=some n->Sp.i64 n:=λx n h=>by
 have:=Sp.xo h;unfold Sp.i64;omega
variable {s:Sp.Ms}
theorem Ff{t:Sp.Ms}(hi:s.at'<L.length)(h:Sp.gy L E s=some t): Sp.lG L E (s.fuel+1) s=Sp.lG L E (t.fuel+1) t:=by
 have b:=Sp.qD h;rw[Sp.lG,cd (by omega),h];simp only;exact Sp.Kh _ t (by omega) _ (by omega)
theorem xQ(hi:s.at'<L.length)(h:Sp.gy L E s=none): Sp.lG L E (s.fuel+1) s=none:=by
 rw[Sp.lG,cd (by omega),h]
theorem GZ(hi:L.length<=s.at'): Sp.lG L E (s.fuel+1) s=some s:=by
 rw[Sp.lG,cg hi]
theorem JL(L:List (List UInt8))(MS:List Nat)(E:Sp.Ev)(hE:Sp.nk E)(M g cap:Nat)(u:TypeId)(p:TK)(Q:TypeId)(pf:TK)(z:Sp.Ms)(w:TJ)(hc:Mp w M g L MS)(h0:Ov L E M (.slice (some ⟨g,0,none⟩) L.length cap) w w z z)(hM:1<M)(he:w.cell? ⟨1,0,none⟩=some (.iface u p))(aa:2<M)(R:w.cell? ⟨2,0,none⟩=some (.iface Q pf)):TL prog 113 #[.pointer (some ⟨M,0,none⟩)] w (Cj (Sp.lG L E (z.fuel+1) z) M (.slice (some ⟨g,0,none⟩) L.length cap) L E u p Q pf w):=by
 generalize S:Cj (Sp.lG L E (z.fuel+1) z) M (.slice (some ⟨g,0,none⟩) L.length cap) L E u p Q pf w=O;replace S:=cP S;have ab:=cP he;have ad:=cP R;have b:=cP hc;have H0:=cP h0;have hl:=hc.len;clear he R hc h0;go_enter func113,ntmps113;go_wp2_with fail
 go_loopw [] (λwr=>∃s:Sp.Ms,Hid (Ov L E M (.slice (some ⟨g,0,none⟩) L.length cap) w wr z s)) (λwr=>Qy M wr)
 case atStart=>exact⟨z,H0⟩
 case round =>
  obtain⟨s,m⟩:=hrel;clear H0;have aj:=(cO m).hi.le;have ak:=(cO m).fu;obtain⟨x,J,U⟩:=(cO m).QP;have HX:=cP J;have e0:=J.c0;have e1:=J.c1;have e2:=J.c2;have f2:=J.fz 2;clear J U;have g0:(0:Int)<=(s.at':Int):=iJ _;by_cases c:s.at'<L.length
  .have c1:(s.at':Int)<(L.length:Int):=by omega
   by_cases G:s.fuel=0
   .have c2:((s.fuel:Int) == 0)=true:=by rw[G];rfl
    have an:wr.cell? ⟨2,0,none⟩=some (.iface Q pf):=(jl (cO m).kept aa).trans (cO ad);have HP:Hid (∀n,O (.panicked [{ v := .iface Q pf,recovered:=false }]) (wr.drewN n)):=by
     show ∀n,_
     intro n;have j:=cO m;rw[<-cO S,j.run,xQ c (by unfold Sp.gy;rw[cg G])];exact⟨j.kept.trans ((below_drewN wr n).mono (o9 (cO HX).lt)),Or.inr rfl⟩
    clear G;go_wp2_with fail
    go_quiet (fail)
    go_wp2;exact⟨rfl,cO HP _⟩
   .obtain⟨q,hq,HQ⟩:∃q,s.fuel=q+1/\Hid (s.fuel=q+1):=⟨s.fuel-1,by omega,cP (by omega)⟩
    rw[hq] at e2;have c2:((((q+1:Nat)):Int) == 0)=false:=cC.2 (by omega);have c3:((q+1:Nat):Int)-1=(q:Int):=by omega
    have c4:q<=4000:=by omega
    obtain⟨F,D,V,H⟩:=(cO b).fn s.at' c;have I:=(cO b).lt;have e3:wr.cell? ⟨g,s.at'*2,none⟩=some (.func (.func F) #[] D):=(jl (cO m).kept I).trans V;have ao:M≠g:=by omega
    have aq:=H.enter;have ae:=cP H;clear hq H V;have K:Hid (∀k,Below M w (((wr.drewN k).setCell ⟨M,2,none⟩ (Z Y (q:Int))).drew)/\TL prog F (#[.pointer (some ⟨M,0,none⟩)]++D) (((wr.drewN k).setCell ⟨M,2,none⟩ (Z Y (q:Int))).drew) (Cp (Sp.gy L E s) M (.slice (some ⟨g,0,none⟩) L.length cap) L E u p (((wr.drewN k).setCell ⟨M,2,none⟩ (Z Y (q:Int))).drew))):=by
     show ∀k,_
     intro k;have j:=cO m;have hQ:=cO HQ;have A:Below M w (((wr.drewN k).setCell ⟨M,2,none⟩ (Z Y (q:Int))).drew):=(iL.set (j.kept.trans ((below_drewN wr k).mono (o9 (cO HX).lt))) _ _).drew;refine⟨A,?_⟩;obtain⟨r,N⟩:=(cO b).keeps;refine EX (cO b).fm N (cO b).rd j.hi j.pi j.vi c (by omega) hl (cO ae) A I ((jl A I).trans ((cO b).tS _ c)) ?_ ⟨by omega,(jl A hM).trans (cO ab)⟩;have:=((j.QP.drewN k).Ob q).drew;rw[show s.fuel-1=q by omega];exact this
    cases y:Sp.gy L E s with
    |none =>
     rw[y] at K;have HP:Hid (∀k l,Below M (((wr.drewN k).setCell ⟨M,2,none⟩ (Z Y (q:Int))).drew) l->O (.panicked [{ v := .iface u p,recovered:=false }]) l):=by
      show ∀k l,_
      intro k l hk;have j:=cO m;rw[<-cO S,j.run,xQ c y];exact⟨((cO K) k).1.trans hk,Or.inl rfl⟩
     clear y;go_wp2_with fail
     go_quiet (fail)
     go_wp2_with fail
     go_region_with (refine(cO K _).2.mono ?_;rintro e l ⟨B,rfl⟩;refine jL prog l ⟨rfl,cO HP _ l B⟩ ?_)
     all_goals trivial
    |some t =>
     rw[y] at K;have HN:Hid (∀k l a,Below M (((wr.drewN k).setCell ⟨M,2,none⟩ (Z Y (q:Int))).drew) l->a+1=t.at'->oZ l M (.slice (some ⟨g,0,none⟩) L.length cap) L E a t.fuel t.T t.lp->Ov L E M (.slice (some ⟨g,0,none⟩) L.length cap) w (l.setCell ⟨M,1,none⟩ (Z Y ((a+1:Nat):Int))) z t/\t.fuel=q):=by
      show ∀k l a,_
      intro k l a hk P hm;have j:=cO m;have hQ:=cO HQ;obtain⟨r,N⟩:=(cO b).keeps;have ar:=Sp.qD y;refine⟨⟨Sp.tg (cO b).fm N j.hi c y,Sp.C6 (cO b).fm N j.hi j.pi c y,Sp.uA hE lP j.vi y,?_,j.run.trans (Ff c y),iL.set (((cO K) k).1.trans hk) _ _,by omega⟩,by omega⟩;rw[<-P];exact hm.Kj (a+1)
     have af:Hid (∀a,a+1=t.at'->a<=4000):=by
      show ∀a,_
      intro a P;have j:=cO m;obtain⟨r,N⟩:=(cO b).keeps;have:=(Sp.tg (cO b).fm N j.hi c y).le;omega
     clear y;go_wp2_with fail
     go_quiet (fail)
     go_wp2_with fail
     go_region_with (refine(cO K _).2.mono ?_;rintro e l ⟨B,rfl,a,P,W⟩)
     all_goals
      have au:=cO af a P;obtain⟨X,o⟩:=cO HN _ l a B P W;have ag:=cP X;have ah:=cP o;obtain⟨x1,C,_⟩:=W;have j1:=C.c1;have j2:=C.fz 1;have k3:=C.c2;have ai:=cP k3;clear C B X o P k3;go_wp2;go_roundw
      case rel=>exact⟨t,ag⟩
      case measure =>
       have a1:=H4 e2;have a2:Qy M (l.setCell ⟨M,1,none⟩ (Z Y ((a:Int)+1)))=t.fuel:=by
        rw[H4 ((cR (by omega)).trans (cO ai))];simp
       have:=cO ah;rw[a1,a2];omega
  .have c1:¬(s.at':Int)<(L.length:Int):=by omega
   go_wp2_with fail
   go_quiet (fail)
   go_wp2;refine cw (cu rfl _ _ _) rfl ?_;have j:=cO m;rw[<-cO S,j.run,GZ (by omega)];exact⟨j.kept.trans ((below_drewN wr nq).mono (o9 (cO HX).lt)),rfl,j.QP.drewN nq⟩
end
section
open Go.RowKit
namespace Sp
theorem Jq{L:List (List UInt8)}{E:Ev}(l:kh true L 0=true){r:Nat × List Nat}(m:eZ L 0 []=some r):∀(g:Nat) (s t:Ms),yH L s->lG L E g s=some t->yH L t/\L.length<=t.at':=by
 intro g
 induction g with
 |zero=>intro s t _ h;cases h
 |succ g u =>
  intro s t e h;rw[lG] at h;split at h
  .rename_i j;injection h with h;subst h;exact⟨e,j⟩
  .rename_i j;split at h
   .cases h
   .rename_i y b;exact u _ _ (tg l m e (by omega) b) h
theorem IQ{L:List (List UInt8)}{E:Ev}(b:Good L){t:Ms}(h:lG L E 201 ⟨0,200,[],[]⟩=some t):∃v,t.T=[v]/\ev L E=some v:=by
 obtain⟨j,l⟩:=Jq b.fm b.one _ _ _ (Mj L 200) h;have m:=Ht b.one j l;obtain⟨v,e⟩:=List.length_eq_one_iff.1 m;refine⟨v,e,?_⟩;unfold ev;rw[h];simp[e]
end Sp
def mW(E:Sp.Ev):TK := .agg #[Z Y E.value,Z Y E.je,Z Y E.iK,Z Y E.step,Z Y E.id,Z Y E.deg,Z Y E.all,Z Y E.vq,Z Y E.weight]
def eU(b:TK)(E:Sp.Ev):Array TK := #[b,Z Y 0,Z Y 200,Z Y E.value,Z Y E.je,Z Y E.iK,Z Y E.step,Z Y E.id,Z Y E.deg,Z Y E.all,Z Y E.vq,Z Y E.weight,Z Y 0,Z Y 0,Z Y 0,Z Y 0,Z Y 0,Z Y 0,Z Y 0,Z Y 0,Z Y 0,Z Y 0,Z Y 0,Z Y 0,Z Y 0,Z Y 0,Z Y 0,Z Y 0,Z Y 0,.slice none 0 0,.bool false]
theorem jj.yQ{w:TJ}{M t:Nat}{b:TK}{E:Sp.Ev}(h:w.heap[M]?=some (.cells (eU b E) t)):jj w M b 0 200 E [] (.slice none 0 0):=by
 refine⟨by simp[World.cell?,h,eU],by simp[World.cell?,h,eU],by simp[World.cell?,h,eU],by simp[World.cell?,h,eU],by simp[World.cell?,h,eU],by simp[World.cell?,h,eU],by simp[World.cell?,h,eU],by simp[World.cell?,h,eU],by simp[World.cell?,h,eU],by simp[World.cell?,h,eU],by simp[World.cell?,h,eU],by simp[World.cell?,h,eU],λj e=>?_,λj e=>by simp at e,by simp[World.cell?,h,eU],by simp[World.cell?,h,eU],by simp[World.cell?,h,eU],λj=>by simp[World.frozen?,h],by simp⟩
 match j,e with
 |0,_=>exact⟨0,by simp[World.cell?,h,eU]⟩
 |1,_=>exact⟨0,by simp[World.cell?,h,eU]⟩
 |2,_=>exact⟨0,by simp[World.cell?,h,eU]⟩
 |3,_=>exact⟨0,by simp[World.cell?,h,eU]⟩
 |4,_=>exact⟨0,by simp[World.cell?,h,eU]⟩
 |5,_=>exact⟨0,by simp[World.cell?,h,eU]⟩
 |6,_=>exact⟨0,by simp[World.cell?,h,eU]⟩
 |7,_=>exact⟨0,by simp[World.cell?,h,eU]⟩
 |8,_=>exact⟨0,by simp[World.cell?,h,eU]⟩
 |9,_=>exact⟨0,by simp[World.cell?,h,eU]⟩
 |10,_=>exact⟨0,by simp[World.cell?,h,eU]⟩
 |11,_=>exact⟨0,by simp[World.cell?,h,eU]⟩
 |12,_=>exact⟨0,by simp[World.cell?,h,eU]⟩
 |13,_=>exact⟨0,by simp[World.cell?,h,eU]⟩
 |14,_=>exact⟨0,by simp[World.cell?,h,eU]⟩
 |15,_=>exact⟨0,by simp[World.cell?,h,eU]⟩
 |n+16,e=>exact absurd e (by omega)
structure om (w:TJ) (g:Nat) (L:List (List UInt8)):Prop where
 CU:Sp.Good L
 rd:∃MS,Sp.fB L L.length=some (MS,[])/\∀i,i<L.length->w.cell? ⟨g,i*2+1,none⟩=some (Z Y ((MS.getD i 0:Nat):Int))
 lt:g<w.heap.size
 fn:∀i (hi:i<L.length),∃F caps,w.cell? ⟨g,i*2,none⟩=some (.func (.func F) #[] caps)/\Fn w w.heap.size L[i] (.func (.func F) #[] caps)
theorem Fn.Hk{w w':TJ}{B M:Nat}{x:List UInt8}{e:TK}(h:Fn w B x e)(hb:Below B w w')(u:B<=M):Fn w' M x e:=by
 rcases h with ⟨b,n,j,l,m,r⟩|h
 .exact Or.inl ⟨b,n,by omega,l,(hb.block b j).trans m,r⟩
 .exact Or.inr h
theorem om.below{w w':TJ}{g:Nat}{L:List (List UInt8)}(h:om w g L)(hb:TI w w'):om w' g L:=by
 obtain⟨e,j,l⟩:=h.rd;refine⟨h.CU,⟨e,j,λi hi=>(hb.cell (p:=⟨g,i*2+1,none⟩) h.lt).trans (l i hi)⟩,dT h.lt hb.size,λi hi=>?_⟩;obtain⟨F,b,m,r⟩:=h.fn i hi;exact⟨F,b,(hb.cell (p:=⟨g,i*2,none⟩) h.lt).trans m,r.Hk hb hb.size⟩
theorem om.QW{w W:TJ}{g:Nat}{L:List (List UInt8)}(h:om w g L)(hb:TI w W){M:Nat}(j:w.heap.size<=M):∃e,Mp W M g L e:=by
 obtain⟨e,l,m⟩:=h.rd;refine⟨e,h.CU.fm,⟨_,h.CU.one⟩,l,h.CU.len,dT h.lt j,λi hi=>?_,λi hi=>(hb.cell (p:=⟨g,i*2+1,none⟩) h.lt).trans (m i hi)⟩;obtain⟨F,b,r,u⟩:=h.fn i hi;exact⟨F,b,(hb.cell (p:=⟨g,i*2,none⟩) h.lt).trans r,u.Hk hb j⟩
structure kj (w:TJ) (z f:Addr):Prop where
 cz:w.cell? ⟨1,0,none⟩=some (.iface 338 (.pointer (some z)))
 cf:w.cell? ⟨2,0,none⟩=some (.iface 338 (.pointer (some f)))
 ne:z≠f
 bz:∃c t,w.heap[z.block]?=some (.cells c t (0,0))
 bf:∃c t,w.heap[f.block]?=some (.cells c t (0,0))
theorem kj.lz{w:TJ}{z f:Addr}(h:kj w z f):1<w.heap.size:=cE w _ h.cz
theorem kj.lf{w:TJ}{z f:Addr}(h:kj w z f):2<w.heap.size:=cE w _ h.cf
theorem kj.below{w w':TJ}{z f:Addr}(h:kj w z f)(hb:TI w w'):kj w' z f:=by
 obtain⟨c,t,b⟩:=h.bz;obtain⟨j,l,e⟩:=h.bf;exact⟨(hb.cell (p:=⟨1,0,none⟩) h.lz).trans h.cz,(hb.cell (p:=⟨2,0,none⟩) h.lf).trans h.cf,h.ne,⟨c,t,(hb.block _ (cB.1 b).1).trans b⟩,⟨j,l,(hb.block _ (cB.1 e).1).trans e⟩⟩
def FN(z f:Addr)(e:Ending):Prop:=e=.panicked [{ v := .iface 338 (.pointer (some z)),recovered:=false }]\/e=.panicked [{ v := .iface 338 (.pointer (some f)),recovered:=false }]
def Et(o:Option Int)(z f:Addr)(w:TJ)(e:Ending)(w':TJ):Prop:=TI w w'/\match o with
  |some v=>e=.returned (Z Y v)
  |none=>FN z f e
theorem uB(L:List (List UInt8))(E:Sp.Ev)(S:Sp.nk E)(g cap:Nat)(z f:Addr)(w:TJ)(T:om w g L)(he:kj w z f):TL prog 115 #[.slice (some ⟨g,0,none⟩) L.length cap,mW E] w (Et (Sp.ev L E) z f w):=by
 have U:=cP T;have V:=cP he;have I:=cP S;clear T he S;generalize G:Et (Sp.ev L E) z f w=O;replace G:=cP G;unfold mW;go_enter func115,ntmps115
 iterate 25 (first|go_values|go_skip|go_guarded|go_step|go_upon|(simp only[Int.not_lt,Int.not_le] at *;go_simp))
 refine wpList_store_row rfl 223 (.tmp 5) (.tmp 8) rfl (w.heap.size+1) (eU (.slice (some ⟨g,0,none⟩) L.length cap) E) rfl rfl 223 (ek (.slice none 0 0) 0 false) ?h1 (by kernel_rfl) rfl (by simp[eU,Value.oneCell']) ?h2
 case h1 =>
  rw[<-ee w (.cells #[Z Y E.value,Z Y E.je,Z Y E.iK,Z Y E.step,Z Y E.id,Z Y E.deg,Z Y E.all,Z Y E.vq,Z Y E.weight] 165)];exact ct _ _
 case h2 =>
 have l:TI w (((w.alloc (.cells #[Z Y E.value,Z Y E.je,Z Y E.iK,Z Y E.step,Z Y E.id,Z Y E.deg,Z Y E.all,Z Y E.vq,Z Y E.weight] 165)).alloc (.cells (ek (.slice none 0 0) 0 false) 223)).setRow (w.heap.size+1) (eU (.slice (some ⟨g,0,none⟩) L.length cap) E)):=below_setRow (((cj _ w).alloc TG _).alloc (by simp) _) (by omega) _;have r:(((w.alloc (.cells #[Z Y E.value,Z Y E.je,Z Y E.iK,Z Y E.step,Z Y E.id,Z Y E.deg,Z Y E.all,Z Y E.vq,Z Y E.weight] 165)).alloc (.cells (ek (.slice none 0 0) 0 false) 223)).setRow (w.heap.size+1) (eU (.slice (some ⟨g,0,none⟩) L.length cap) E)).heap[w.heap.size+1]?=some (.cells (eU (.slice (some ⟨g,0,none⟩) L.length cap) E) 223 (0,0)):=by
  refine sT _ _ (ek (.slice none 0 0) 0 false) _ _ _ ?_;rw[<-ee w (.cells #[Z Y E.value,Z Y E.je,Z Y E.iK,Z Y E.step,Z Y E.id,Z Y E.deg,Z Y E.all,Z Y E.vq,Z Y E.weight] 165)];exact ct _ _
 generalize J:World.setRow _ _ _=W;replace l:TI w W:=by rw[<-J];exact l
 replace r:W.heap[w.heap.size+1]?=some (.cells (eU (.slice (some ⟨g,0,none⟩) L.length cap) E) 223 (0,0)):=by rw[<-J];exact r
 clear J;have u:w.heap.size+1<W.heap.size:=(cB.1 r).1;have m:TL prog 113 #[.pointer (some ⟨w.heap.size+1,0,none⟩)] W (Cj (Sp.lG L E 201 ⟨0,200,[],[]⟩) (w.heap.size+1) (.slice (some ⟨g,0,none⟩) L.length cap) L E 338 (.pointer (some z)) 338 (.pointer (some f)) W):=by
  obtain⟨X,K⟩:=(cO U).QW l (M:=w.heap.size+1) (by omega);have he:=cO V;refine JL L X E (cO I) (w.heap.size+1) g cap _ _ _ _ ⟨0,200,[],[]⟩ W K ⟨Sp.Mj L 200,Sp.PI L 200,⟨λv H=>(by cases H),λq s=>(by cases s)⟩,⟨_,jj.yQ r,fc _ _ _ _⟩,rfl,cj _ _,b7 _⟩ (by have:=he.lz;omega) ((l.cell (p:=⟨1,0,none⟩) he.lz).trans he.cz) (by have:=he.lf;omega) ((l.cell (p:=⟨2,0,none⟩) he.lf).trans he.cf)
 go_wp2_with fail;refine m.mono ?_;clear m;cases C:Sp.lG L E 201 ⟨0,200,[],[]⟩ with
 |none =>
  have j:Sp.ev L E=none:=by unfold Sp.ev;rw[C];rfl
  rintro e y ⟨A,N⟩;have b:∀e,FN z f e->O e y:=λe he=>by
   rw[<-cO G,j];exact⟨l.trans (A.mono (by omega)),he⟩
  rcases N with rfl|rfl
  .have D:=cP (b _ (Or.inl rfl));clear A l r u b C j;go_wp2;exact⟨rfl,cO D⟩
  .have D:=cP (b _ (Or.inr rfl));clear A l r u b C j;go_wp2;exact⟨rfl,cO D⟩
 |some t =>
  obtain⟨v,H,j⟩:=Sp.IQ (cO U).CU C;rintro e y ⟨A,rfl,x,hd,_⟩;have b:∀B,TI y B\/ey (w.heap.size+1) y B->O (.returned (Z Y v)) B:=λB h2=>by
   rw[<-cO G,j];have P:TI w y:=l.trans (A.mono (by omega));rcases h2 with h2|h2
   .exact⟨P.trans (h2.mono P.size),rfl⟩
   .exact⟨P.trans (h2.below.mono (by omega)),rfl⟩
  rw[H] at hd;have D:=cP b;clear A l r u b C j H;go_wp2_with fail;refine(qX v _ _ _ E [] _ x y hd).mono ?_;rintro e B ⟨rfl,Q,F⟩;have R:=cP (cO D B (Or.inr F));clear hd Q F;go_wp2;exact cO R
end
section
open Go.RowKit
variable {B:Nat}{w:TJ}
theorem fA{u e size n:Nat}{v:TK}{y:List TK}(h:w.ownsRow u e size v n y)(z:B<=u): w.ownsRow B e size v n y:=by
 obtain⟨A,b⟩:=h;refine⟨A,?_⟩;rcases b with b|⟨g,j,l,C,m,D,r⟩
 .exact .inl b
 .exact .inr ⟨g,j,l,C,cx z m,D,r⟩
structure sR (F:Nat) (k:List UInt8):Prop where
 enter:∀(args:Array TK) (w:TJ),(callFunc F args).run prog w=.ok (.enter F args) w
 calls:∀(a b:Int) (w:TJ),TL prog F #[Z Y a,Z Y b] w λe w'=>e=.returned (Z Y (Sp.jn k a b))/\w'=w
theorem join_min:sR 243 [109,105,110]:=by
 refine⟨cV func243 (by kernel_rfl) (by kernel_rfl),λa b w=>?_⟩;have h:Sp.jn [109,105,110] a b=min a b:=by unfold Sp.jn;simp only[Qv,reduceCtorEq,and_false,yI];simp;omega
 rw[h];go_enter func243,ntmps243;go_wp2;go_ret;exact⟨rfl,rfl⟩
theorem join_max:sR 244 [109,97,120]:=by
 refine⟨cV func244 (by kernel_rfl) (by kernel_rfl),λa b w=>?_⟩;have h:Sp.jn [109,97,120] a b=max a b:=by unfold Sp.jn;simp only[Qv,reduceCtorEq,and_false,yI];simp;omega
 rw[h];go_enter func244,ntmps244;go_wp2;go_ret;exact⟨rfl,rfl⟩
theorem J8:sR 245 [115,117,109]:=by
 refine⟨cV func245 (by kernel_rfl) (by kernel_rfl),λa b w=>?_⟩;have h:Sp.jn [115,117,109] a b=wrap64 (a+b):=by unfold Sp.jn;simp
 rw[h];go_enter func245,ntmps245;go_wp2;go_ret;exact⟨rfl,rfl⟩
theorem KM:(k:Nat)->k<3->sR (Og[k]!) (Sp.fj[k]!)
 |0,_=>join_min
 |1,_=>join_max
 |2,_=>J8
 |n+3,h=>absurd h (by omega)
theorem Lf:(k:Nat)->k<3->oP k=Sp.eN (Sp.fj[k]!)
 |0,_=>rfl
 |1,_=>rfl
 |2,_=>rfl
 |n+3,h=>absurd h (by omega)
def mX(w:TJ)(B o:Nat)(k:List UInt8):Prop := ∃b F,w.cell? ⟨B,o,none⟩=some (.string b)/\w.cell? ⟨B,o+1,none⟩=some (Z Y (Sp.eN k))/\w.cell? ⟨B,o+2,none⟩=some (.func (.func F) #[] #[])/\sR F k
structure jJ (w:TJ) (B:Nat) (P:Sp.Pg):Prop where
 lt:B<w.heap.size
 code:∀i,i<5->∃g cap,w.cell? ⟨B,i*4,none⟩=some (.slice (some ⟨g,0,none⟩) (P.code i).length cap)/\om w g (P.code i)
 pK:mX w B 21 P.pK
 al:mX w B 25 P.al
theorem mX.below{w':TJ}{o:Nat}{k:List UInt8}(h:mX w B o k)(b:B<w.heap.size)(hb:TI w w'): mX w' B o k:=by
 obtain⟨e,F,j,l,m,r⟩:=h;exact⟨e,F,(hb.cell (p:=⟨B,o,none⟩) b).trans j,(hb.cell (p:=⟨B,o+1,none⟩) b).trans l,(hb.cell (p:=⟨B,o+2,none⟩) b).trans m,r⟩
theorem jJ.below{w':TJ}{P:Sp.Pg}(h:jJ w B P)(hb:TI w w'): jJ w' B P:=by
 refine⟨dT h.lt hb.size,λi hi=>?_,h.pK.below h.lt hb,h.al.below h.lt hb⟩;obtain⟨g,b,e,j⟩:=h.code i hi;exact⟨g,b,(hb.cell (p:=⟨B,i*4,none⟩) h.lt).trans e,j.below hb⟩
def oH(k:List UInt8)(w:TJ)(e:Ending)(w':TJ):Prop := ∃b F,e=.returned (.agg #[.string b,Z Y (Sp.eN k),.func (.func F) #[] #[]])/\sR F k/\TI w w'
theorem H5(B:Nat)(P:Sp.Pg)(w:TJ)(h:jJ w B P):TL prog 76 #[.pointer (some ⟨B,0,none⟩)] w (oH P.pK w):=by
 obtain⟨b,F,u,l,y,e⟩:=h.pK;have m:=h.lt;have r:=cP e;obtain⟨q,j⟩:∃q,Hid (Sp.eN P.pK=q):=⟨_,rfl⟩
 rw[cO j] at l;clear e h;have z:TI w (w.alloc (.cells #[.string ⟨#[]⟩,Z Y 0,.nilFunc] 152)):=TH.alloc TG _;go_enter func76,ntmps76;go_wp2;refine cr (v := .agg #[.string b,Z Y q,.func (.func F) #[] #[]]) (by simp[results,results76,go_sem]) rfl ⟨b,F,by rw[cO j],cO r,?_⟩;exact TH.alloc TG _
theorem Dc(B:Nat)(P:Sp.Pg)(w:TJ)(h:jJ w B P):TL prog 75 #[.pointer (some ⟨B,0,none⟩)] w (oH P.al w):=by
 obtain⟨b,F,u,l,y,e⟩:=h.al;have m:=h.lt;have r:=cP e;obtain⟨q,j⟩:∃q,Hid (Sp.eN P.al=q):=⟨_,rfl⟩
 rw[cO j] at l;clear e h;have z:TI w (w.alloc (.cells #[.string ⟨#[]⟩,Z Y 0,.nilFunc] 152)):=TH.alloc TG _;go_enter func75,ntmps75;go_wp2;refine cr (v := .agg #[.string b,Z Y q,.func (.func F) #[] #[]]) (by simp[results,results75,go_sem]) rfl ⟨b,F,by rw[cO j],cO r,?_⟩;exact TH.alloc TG _
end
section
open Go.RowKit
def Bw(E:Sp.Ev):Array TK := #[Z Y E.value,Z Y E.je,Z Y E.iK,Z Y E.step,Z Y E.id,Z Y E.deg,Z Y E.all,Z Y E.vq,Z Y E.weight]
structure dV (w:TJ) (S:Nat) (E:Sp.Ev):Prop where
 c0:w.cell? ⟨S,0,none⟩=some (Z Y E.value)
 c1:w.cell? ⟨S,1,none⟩=some (Z Y E.je)
 c2:w.cell? ⟨S,2,none⟩=some (Z Y E.iK)
 c3:w.cell? ⟨S,3,none⟩=some (Z Y E.step)
 c4:w.cell? ⟨S,4,none⟩=some (Z Y E.id)
 c5:w.cell? ⟨S,5,none⟩=some (Z Y E.deg)
 c6:w.cell? ⟨S,6,none⟩=some (Z Y E.all)
 c7:w.cell? ⟨S,7,none⟩=some (Z Y E.vq)
 c8:w.cell? ⟨S,8,none⟩=some (Z Y E.weight)
 fz:∀j,w.frozen? ⟨S,j,none⟩=false
variable {E:Sp.Ev}{S:Nat}{w:TJ}
theorem dV.lt(h:dV w S E): S<w.heap.size:=cE w _ h.c0
theorem dV.far{w':TJ}(h:dV w S E)(b:∀j,w'.cell? ⟨S,j,none⟩=w.cell? ⟨S,j,none⟩)(e:∀j,w'.frozen? ⟨S,j,none⟩=w.frozen? ⟨S,j,none⟩): dV w' S E:=⟨(b _).trans h.c0,(b _).trans h.c1,(b _).trans h.c2,(b _).trans h.c3,(b _).trans h.c4,(b _).trans h.c5,(b _).trans h.c6,(b _).trans h.c7,(b _).trans h.c8,λj=>(e j).trans (h.fz j)⟩
theorem dV.below{w':TJ}(h:dV w S E)(hb:TI w w'): dV w' S E:=h.far (λj=>hb.cell (p:=⟨S,j,none⟩) h.lt) (λj=>hb.frozen (p:=⟨S,j,none⟩) h.lt)
theorem dV.new{t:Nat}(h:w.heap[S]?=some (.cells (Bw E) t)): dV w S E:=⟨by simp[World.cell?,h,Bw],by simp[World.cell?,h,Bw],by simp[World.cell?,h,Bw],by simp[World.cell?,h,Bw],by simp[World.cell?,h,Bw],by simp[World.cell?,h,Bw],by simp[World.cell?,h,Bw],by simp[World.cell?,h,Bw],by simp[World.cell?,h,Bw],λj=>by simp[World.frozen?,h]⟩
theorem dV.setW(h:dV w S E)(v:Int): dV (w.setCell ⟨S,8,none⟩ (Z Y v)) S (E.setW v):=by
 have b:∀j,j≠8->(w.setCell ⟨S,8,none⟩ (Z Y v)).cell? ⟨S,j,none⟩=w.cell? ⟨S,j,none⟩:=λj e=>cR (by omega)
 exact⟨(b _ (by omega)).trans h.c0,(b _ (by omega)).trans h.c1,(b _ (by omega)).trans h.c2,(b _ (by omega)).trans h.c3,(b _ (by omega)).trans h.c4,(b _ (by omega)).trans h.c5,(b _ (by omega)).trans h.c6,(b _ (by omega)).trans h.c7,mm _ _ _ h.c8,λj=>(kX _ _ _ _).trans (h.fz j)⟩
def vG(o:Option (List (Nat × Int)))(z f:Addr)(w:TJ)(e:Ending)(w':TJ):Prop:=TI w w'/\match o with
  |some l=>∃v,e=.returned v/\w'.ownsRow w.heap.size 2 1 v l.length (l.map λm=>Z Y m.2)
  |none=>FN z f e
structure Gr (L:List (List UInt8)) (E:Sp.Ev) (Es:List Sp.Ed) (w wr:TJ) (k:Nat) (l:List (Nat × Int)) (v:TK):Prop where
 ms:Sp.msgs L E (Es.take k)=some l
 si:∃q,dV wr w.heap.size (E.setW q)
 row:wr.ownsRow (w.heap.size+1) 2 1 v l.length (l.map λm=>Z Y m.2)
 lL:TI w wr
theorem Fo{L:List (List UInt8)}{Es:List Sp.Ed}{k:Nat}(b:k<Es.length){l:List (Nat × Int)}(h:Sp.msgs L E (Es.take k)=some l): Sp.msgs L E (Es.take (k+1))=match Sp.ev L (E.setW Es[k].n) with
  |none=>none
  |some m=>some (l++[(Es[k].vo,m)]):=by
 rw[zQ b,Sp.tm,h];simp only[Sp.msgs];cases Sp.ev L (E.setW Es[k].n) <;> rfl
theorem EF{L:List (List UInt8)}{Es:List Sp.Ed}{k:Nat}(h:Sp.msgs L E (Es.take k)=none): Sp.msgs L E Es=none:=by
 rw[<-r4 k Es,Sp.tm,h]
theorem eO{z f:Addr}{e:Ending}(h:FN z f e):∃b,e=.panicked b:=by
 rcases h with rfl|rfl <;> exact⟨_,rfl⟩
theorem zq(B:Nat)(P:Sp.Pg)(E:Sp.Ev)(Es:List Sp.Ed)(pe:Option Addr)(cap:Nat)(z f:Addr)(w:TJ)(hp:jJ w B P)(he:kj w z f)(hE:Sp.nk E)(aa:fY w pe Es)(hn:∀x∈Es,Sp.i64 x.n)(hl:Es.length<=1000):TL prog 116 #[.pointer (some ⟨B,0,none⟩),mW E,.slice pe Es.length cap] w (vG (Sp.msgs (P.code 2) E Es) z f w):=by
 obtain⟨t2,aq,ar,au,av⟩:=fa info_i64;obtain⟨g,R,aw,ab⟩:=hp.code 2 (by omega);have ax:=hp.lt;have HW:=cP (And.intro ab (And.intro he (And.intro hE hn)));have ay:=cP aa;generalize hO:vG (Sp.msgs (P.code 2) E Es) z f w=O;replace hO:=cP hO;generalize hL:P.code 2=L at *;replace hL:=cP hL;clear hp ab he hE aa hn;have ad:Hid (Gr L E Es w (w.alloc (.cells (Bw E) 165)) 0 [] (.slice none 0 0)):=⟨rfl,⟨E.weight,dV.new (E:=E) (ct w _)⟩,fc _ _ _ _,TH.alloc TG _⟩
 unfold mW;go_enter func116,ntmps116;go_wp2_with fail
 go_loopw [7,12] (λvv i wr=>∃(k:Nat) (l:List (Nat × Int)) (v:TK),k<=Es.length/\i=Z Y k/\vv=v/\Hid (Gr L E Es w wr k l v)) (λ_ i _=>Es.length-(intOf i).toNat)
 case atStart=>exact⟨0,[],_,cy _,rfl,rfl,ad⟩
 case round =>
  clear ad;obtain⟨k,l,v,hk,rfl,ae,HI⟩:=hrel;obtain rfl:=ae.symm;clear ae;by_cases V:k<Es.length
  .have af:(k:Int)<(Es.length:Int):=by omega
   have g0:(0:Int)<=(k:Int):=iJ _;have K:=(cO HI).lL;obtain⟨ge,rfl,X,d0,d1,d2⟩:=(cO ay) k V;have c0:wr.cell? ⟨ge,k*3,none⟩=some (Z Y (Es[k].de:Int)):=(K.cell (p:=⟨ge,k*3,none⟩) X).trans d0;have c1:wr.cell? ⟨ge,k*3+1,none⟩=some (Z Y (Es[k].vo:Int)):=(K.cell (p:=⟨ge,k*3+1,none⟩) X).trans d1;have c2:wr.cell? ⟨ge,k*3+2,none⟩=some (Z Y Es[k].n):=(K.cell (p:=⟨ge,k*3+2,none⟩) X).trans d2;obtain⟨q,F⟩:=(cO HI).si;have s8:=F.c8;have sf:=F.fz 8;have hS:=F.lt;have ag:l.length=k:=by have:=Sp.BA (cO HI).ms;rw[A3] at this;omega
   obtain⟨x,hx⟩:∃x,Es[k]=x:=⟨_,rfl⟩
   rw[hx] at c0 c1 c2;have HX:=cP hx;clear d0 d1 d2 hx;have ah:Hid (∀W,W=(wr.setCell ⟨w.heap.size,8,none⟩ (Z Y x.n)).alloc (.cells #[Z Y (x.de:Int),Z Y (x.vo:Int),Z Y x.n] 162)->dV W w.heap.size (E.setW x.n)/\W.ownsRow (w.heap.size+1) 2 1 v k (l.map λm=>Z Y m.2)/\TI w W):=by
    show ∀W,_
    rintro W rfl;have hA:Below (wr.setCell ⟨w.heap.size,8,none⟩ (Z Y x.n)).heap.size (wr.setCell ⟨w.heap.size,8,none⟩ (Z Y x.n)) ((wr.setCell ⟨w.heap.size,8,none⟩ (Z Y x.n)).alloc (.cells #[Z Y (x.de:Int),Z Y (x.vo:Int),Z Y x.n] 162)):=TH.alloc TG _;have b:TI w (wr.setCell ⟨w.heap.size,8,none⟩ (Z Y x.n)):=K.setCell (p:=⟨w.heap.size,8,none⟩) TG _;refine⟨(F.setW x.n).below hA,?_,b.trans (hA.mono b.size)⟩;have:=(cO HI).row;rw[ag] at this;exact cW (((ey.refl _ _).set _ _).own this) hA
   go_upto_region 6 with fail;generalize hW:World.alloc _ _=W;obtain⟨D,hr,r⟩:=cO ah W hW.symm;clear hW ah F c0 c1 c2 s8 sf;have y0:=D.c0;have y1:=D.c1;have y2:=D.c2;have y3:=D.c3;have y4:=D.c4;have y5:=D.c5;have y6:=D.c6;have y7:=D.c7;have y8:=D.c8;have aG:=(r.cell (p:=⟨B,8,none⟩) ax).trans aw;have aH:=D.lt;have G:=cO HW;have az:Sp.i64 x.n:=by rw[<-cO HX];exact G.2.2.2 _ (pY V)
   have u:TI W W.drew:=TH.drew;have T:om W.drew g L:=(G.1.below (r)).below u;have U:kj W.drew z f:=(G.2.1.below r).below u;have HA:Hid (TL prog 115 #[.slice (some ⟨g,0,none⟩) L.length R,mW (E.setW x.n)] W.drew (Et (Sp.ev L (E.setW x.n)) z f W.drew)):=uB L (E.setW x.n) (G.2.2.1.setW az) g R z f W.drew T U;have aA:Hid (∀(args:Array TK) (w:TJ),(callFunc 115 args).run prog w=.ok (.enter 115 args) w):=cV func115 (by kernel_rfl) (by kernel_rfl);clear T U G;have A:=Fo V (cO HI).ms;rw[cO HX] at A;cases M:Sp.ev L (E.setW x.n) with
   |none =>
    rw[M] at HA A;have HF:Hid (∀e H,Below W.heap.size W.drew H->FN z f e->O e H):=by
     show ∀e H,_
     intro e H s N;rw[<-cO hO,EF A];exact⟨r.trans ((u.trans s).mono r.size),N⟩
    clear A M D hr r u
    go_region_with (refine(cO HA).mono ?_;rintro e I ⟨b,N⟩;obtain⟨ch,rfl⟩:=eO N;refine jL prog I ⟨rfl,cO HF _ I (b.mono TG) N⟩ ?_)
    all_goals trivial
   |some m =>
    rw[M] at HA A;have HN:Hid (∀H v',TI w H->dV H w.heap.size (E.setW x.n)->H.ownsRow (w.heap.size+1) 2 1 v' (k+1) ((l.map λm=>Z Y m.2)++[Z Y m])->Gr L E Es w H (k+1) (l++[(x.vo,m)]) v'):=by
     show ∀H v',_
     intro H v' s aB aC;refine⟨A,⟨_,aB⟩,?_,s⟩;rw[lN,ag];simpa using aC
    clear A M
    go_region_law (first
    |(refine di (by rfl) _ _ _ (by rfl) 115 (by rfl) _ (by rfl) (cO aA) (cO HA) ?_;rintro e I ⟨b,rfl⟩;dsimp only)
     |(refine step_append_lies _ (by rfl) _ _ _ (by rfl) (w.heap.size+1) 2 t2 _ 1 8 underlying30 aq ar au av rfl (by omega) v _ _ (by rfl) ((cW hr (u.trans (b.mono TG))).alloc _) ⟨I.heap.size,0,none⟩ 1 1 [Z Y m] (by rfl) (by rfl) (Rh (cs := #[Z Y m]) (t:=2) (fr:=(0,0)) (ct I _)) (by simp[Value.oneCell']) (by omega) (by unfold maxLen;omega) (by omega) (by have:=b.size;simp at this ⊢;omega) (I.heap.size+1) (by simp) ?_;intro gg cp w2 J y aD ai))
    all_goals
     have C:TI w I:=r.trans ((u.trans (b.mono TG)).mono r.size);have Q:dV I w.heap.size (E.setW x.n):=D.below (u.trans (b.mono TG));have aE:=cW hr (u.trans (b.mono TG));have o:some w.heap.size≠v.ownBlock:=λe=>by have:=(hr.lt _ e.symm).1;omega
     have aj:TI I (I.alloc (.cells #[Z Y m] 2)):=TH.alloc TG _;have ak:dV w2 w.heap.size (E.setW x.n):=(Q.below aj).far (λj=>y.cell_far ⟨w.heap.size,j,none⟩ (by have:=Q.lt;simp;omega) o) (λj=>y.frozen_far ⟨w.heap.size,j,none⟩ (by have:=Q.lt;simp;omega) o);have an:TI w w2:=(C.alloc C.size _).grown y (by have:=C.size;simp;omega) (λj hj=>by have:=(hr.lt j hj).1;omega);have aF:=cP (cO HN w2 _ an ak J);clear C Q aE o aj ak an J y aD ai b D hr r u;go_wp2;go_roundw
     case rel=>exact⟨k+1,_,_,by omega,by go_num,rfl,aF⟩
     case measure=>simp[intOf];omega
  .have af:¬(k:Int)<(Es.length:Int):=by omega
   obtain rfl:k=Es.length:=by omega
   have HF:Hid (O (.returned v) wr):=by
    show O _ _
    have hI:=cO HI;have ao:=hI.ms;rw[wI] at ao;rw[<-cO hO,ao];exact⟨hI.lL,v,rfl,fA hI.row (px _)⟩
   go_wp2;exact cO HF
end
section
open Go.RowKit
theorem AV:∃i j,prog.info? 338=some i/\i.comparable=true/\prog.info? 363=some j/\j.size≠0:=by
 refine⟨_,_,rfl,by kernel_rfl,rfl,?_⟩;exact Oh (by kernel_rfl)
theorem AU(a:Addr)(w:TJ):(binOp .eql 20 (.iface 338 (.pointer (some a))) (.iface 338 (.pointer (some a)))).run prog w=.ok (.bool true) w:=by
 obtain⟨i,j,b,e,l,m⟩:=AV;exact run_eql_iface_ptr_same w a underlying20 underlying338 b e l
theorem Ge{z f:Addr}{w:TJ}(h:kj w z f):(binOp .eql 20 (.iface 338 (.pointer (some f))) (.iface 338 (.pointer (some z)))).run prog w=.ok (.bool false) w:=by
 obtain⟨i,j,b,l,m,r⟩:=AV;obtain⟨c,t,u⟩:=h.bz;obtain⟨A,B,y⟩:=h.bf;exact run_eql_iface_ptr_other w underlying20 underlying338 b l m r (λe=>h.ne e.symm) y u
theorem DA(b:TypeId)(v:TK)(w:TJ):(binOp .eql 20 (.iface b v) .nilIface).run prog w=.ok (.bool false) w:=by
 have h:∀d:Nat,(Op.equalIn (d+1) 20 (.iface b v) .nilIface).run prog w=.ok false w:=λd=>by simp[Op.equalIn,run_underlying underlying20]
 simp only[binOp];simp[Op.equal,Op.maxDepth,h 9999]
theorem A2(p q:Addr)(w:TJ):CallsD prog 114 #[.pointer (some p),.pointer (some q)] .returning w λe b j=>e=.returned (.tuple #[])/\b=.returning/\j=w:=by
 refine callsD_of_wpS func114 rfl λl m hu=>?_
 apply wpS_seq;apply wpS_region;simp[wpOpsS,go_sem,recoverD,hu,ntmps114,Exit.thenS];refine wpS_of_wp ?_;go_wp2;cases l
 simp_all [bodyPostS,results,results114]
def oU(w:TJ)(T K:Nat):TJ:=((((w.setCell ⟨T,0,none⟩ (Z Y 0)).setCell ⟨T,1,none⟩ (.slice none 0 0)).setCell ⟨T,2,none⟩ (.bool false)).setCell ⟨T,3,none⟩ (Z Y 0)).setCell ⟨K,0,none⟩ (.bool false)
structure eM (w:TJ) (T K:Nat) (a:Int) (b:TK) (c:Bool) (d:Int) (k:Bool):Prop where
 c0:w.cell? ⟨T,0,none⟩=some (Z Y a)
 c1:w.cell? ⟨T,1,none⟩=some b
 c2:w.cell? ⟨T,2,none⟩=some (.bool c)
 c3:w.cell? ⟨T,3,none⟩=some (Z Y d)
 ck:w.cell? ⟨K,0,none⟩=some (.bool k)
 fz:∀j,w.frozen? ⟨T,j,none⟩=false
 fk:w.frozen? ⟨K,0,none⟩=false
 ne:T≠K
theorem BD(T K:Nat)(z f:Addr)(a d:Int)(b:TK)(c k:Bool)(w:TJ)(h:eM w T K a b c d k)(he:kj w z f):CallsD prog 114 #[.pointer (some ⟨T,0,none⟩),.pointer (some ⟨K,0,none⟩)] (.panicking ({ v := .iface 338 (.pointer (some z)),recovered:=false }::[])) w λe l m =>
   e=.returned (.tuple #[])/\l=.panicking ({ v := .iface 338 (.pointer (some z)),recovered:=true }::[])/\m=oU w T K:=by
 have u:=he.cz;have y:=AU z w;have A:=DA 338 (.pointer (some z)) w;obtain⟨B,C,D,E,F,j,G,H⟩:=h;have I:=j 0;have J:=j 1;have L:=j 2;have M:=j 3;clear he;refine callsD_of_wpS func114 rfl λr N hu=>?_
 apply wpS_seq;apply wpS_region;simp[wpOpsS,go_sem,recoverD,hu,ntmps114,Exit.thenS];refine wpS_of_wp ?_
 show Code.wp _ _ _ { tmps := #[.pointer (some ⟨T,0,none⟩),.pointer (some ⟨K,0,none⟩),.iface 338 (.pointer (some z)),.iface 338 (.pointer (some z)),undef,undef,undef,undef,undef,undef,undef,undef,undef,undef],defers:=[] } w
 go_wp2;cases r;refine⟨rfl,_,?_,.tuple #[],by simp[results,results114,go_sem],rfl,rfl,rfl⟩
 simp_all
theorem zF(T K:Nat)(z f:Addr)(a d:Int)(b:TK)(c k:Bool)(w:TJ)(h:eM w T K a b c d k)(he:kj w z f):CallsD prog 114 #[.pointer (some ⟨T,0,none⟩),.pointer (some ⟨K,0,none⟩)] (.panicking ({ v := .iface 338 (.pointer (some f)),recovered:=false }::[])) w λe l m =>
   e=.returned (.tuple #[])/\l=.panicking ({ v := .iface 338 (.pointer (some f)),recovered:=true }::[])/\m=oU w T K:=by
 have u:=he.cz;have y:=he.cf;have A:=AU f w;have B:=DA 338 (.pointer (some f)) w;have C:=Ge he;obtain⟨D,E,F,G,H,j,I,J⟩:=h;have L:=j 0;have M:=j 1;have N:=j 2;have O:=j 3;clear he;refine callsD_of_wpS func114 rfl λr P hu=>?_
 apply wpS_seq;apply wpS_region;simp[wpOpsS,go_sem,recoverD,hu,ntmps114,Exit.thenS];refine wpS_of_wp ?_
 show Code.wp _ _ _ { tmps := #[.pointer (some ⟨T,0,none⟩),.pointer (some ⟨K,0,none⟩),.iface 338 (.pointer (some f)),.iface 338 (.pointer (some f)),undef,undef,undef,undef,undef,undef,undef,undef,undef,undef],defers:=[] } w
 go_wp2;cases r;refine⟨rfl,_,?_,.tuple #[],by simp[results,results114,go_sem],rfl,rfl,rfl⟩
 simp_all
end
end Go.Proofs.YtgkkdpegcieakaaGreatDoor
