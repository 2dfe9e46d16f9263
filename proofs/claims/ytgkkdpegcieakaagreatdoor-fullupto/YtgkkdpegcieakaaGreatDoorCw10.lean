import Derived.Test.YtgkkdpegcieakaaGreatDoorCw09
set_option linter.all false
set_option maxRecDepth 100000
set_option maxHeartbeats 16000000
namespace Go.Proofs.YtgkkdpegcieakaaGreatDoor
open Go.Proofs.Tryz
open Value renaming int→Z,slice→J,string→H,pointer→WV,bool→WW,tuple→WX,agg→WY
open Ending renaming returned→WZ
open Obj renaming cells→D
open Option renaming none→U,some→S
open Bool renaming true→W8,false→W9
open Or renaming inl→Xa,inr→Xb
open List renaming length→Xg
open _root_.Array renaming size→K
open World renaming cell?→Xc,heap→E
open IntKind renaming i64→Y
open Go renaming World→WR,Value→WS,Calls→WT
open Go.RowKit
section
structure fq (w:WR) (g:Nat) (L:List (List UInt8)):Prop where
 lt:g<K (E w)
 fn:∀i (hi:i<Xg L),∃fv,w.cell? ⟨g,i*2,U⟩=S fv/\Fn w (K (E w)) L[i] fv
 tX:∃ms,Sp.fB L (Xg L)=S (ms,[])/\∀i,i<Xg L->w.cell? ⟨g,i*2+1,U⟩=S (Z Y ((ms.getD i 0:Nat):Int))
variable {g:Nat}{L:List (List UInt8)}{w' w:WR}
theorem fq.below(h:fq w g L)(hb:WQ w w'): fq w' g L:=by
 obtain⟨b,e,j⟩:=h.tX;refine⟨Ux h.lt hb.size,λi hi=>?_,b,e,λi hi=>(hb.cell (p:=⟨g,i*2+1,U⟩) h.lt).trans (j i hi)⟩;obtain⟨l,m,r⟩:=h.fn i hi;exact⟨l,(hb.cell (p:=⟨g,i*2,U⟩) h.lt).trans m,r.below hb⟩
theorem Q8(L:List (List UInt8)):∀(k:Nat) (m o:List Nat),Sp.fB L k=S (m,o)->Xg m=k:=by
 intro k
 induction k with
 |zero=>intro b e h;simp[Sp.fB] at h;obtain⟨rfl,_⟩:=h;rfl
 |succ k j =>
  intro b e h;simp only[Sp.fB] at h;split at h
  .cases h
  .rename_i r u l;rw[(Sp.ui h).1,j _ _ l]
theorem MU{B cap:Nat}{b:List WS}{e:List Nat}(l:w.ownsRow B 289 2 (J (S ⟨g,0,U⟩) (Xg L) cap) (Xg L) (cz b e))(u:Xg b=Xg L)(m:Sp.fB L (Xg L)=S (e,[]))(r:∀j (y:j<Xg L),Fn w (K (E w)) L[j] (b.getD j .nilFunc)): fq w g L:=by
 have z:=Q8 L _ _ _ m;refine⟨(l.lt g O).2,λi hi=>⟨b.getD i .nilFunc,?_,r i hi⟩,e,m,λi hi=>?_⟩
 .rw[l.cellAt (i*2) (by omega),Sc _ _ _ (by omega),Uo,Uk (by omega)];rfl
 .rw[l.cellAt (i*2+1) (by omega),N9 _ _ _ (by omega),Uo,Uk (by omega)];rfl
theorem fq.aside{P t:Nat}{C:Array WS}(h:fq w g L)(l:w.heap[P]?=S (D C t (0,0)))(u:P<g)(ht:t≠2)(j:Nat)(v:WS): fq (w.setCell ⟨P,j,U⟩ v) g L/\(w.setCell ⟨P,j,U⟩ v).heap[P]?=S (D (C.setIfInBounds j v) t (0,0)):=by
 have m:∀k,k≠P->(w.setCell ⟨P,j,U⟩ v).heap[k]?=w.heap[k]?:=λk y=>Uj _ _ _ _ y
 have r:∀o,(w.setCell ⟨P,j,U⟩ v).cell? ⟨g,o,U⟩=w.cell? ⟨g,o,U⟩:=λo=>by simp only[Xc,m g (by omega)]
 obtain⟨z,A,F⟩:=h.tX;refine⟨⟨by simpa using h.lt,λi hi=>?_,z,A,λi hi=>(r _).trans (F i hi)⟩,eZ l v⟩;obtain⟨G,I,f2⟩:=h.fn i hi;refine⟨G,(r _).trans I,?_⟩;rcases f2 with ⟨B,n,M,N,b,Q⟩|f2
 .refine Xa ⟨B,n,by simpa using M,N,(m B ?_).trans b,Q⟩;intro e;subst e;unfold j5 at b;rw[l] at b;injection b with b;injection b with _ R;exact ht R
 .exact Xb f2
def mO(x:WU):List (List UInt8):=(Sp.ws x).tail.map (·.data.toList)
def fl(i:Nat)(x:WU):Bool:=decide (5<=i/\(Sp.hd i++[32]) <+: x.data.toList/\(mO x).headD []∈Sp.ft)
def lY:Bool->Nat->WS
 |false,_=>.nilFunc
 |true,F=>.func (.func F) #[] #[]
variable {x:WU}{i:Nat}
theorem EC(h:i<5): fl i x=W9:=Uu (λb=>by omega)
theorem PE(h:¬(Sp.hd i++[32]) <+: x.data.toList): fl i x=W9:=Uu (λb=>h b.2.1)
def nU(i:Nat)(x:WU)(w:WR)(e:Ending)(w':WR):Prop:=WQ w w'/\∃p n j b z f,e=WZ (WX #[WY #[J p n j,H b,Z Y z,f],WW (Sp.dO i x)])/\(∃F,f=lY (fl i x) F)/\
  (Sp.dO i x=W8->i<5->n=(mO x).length/\∃g,p=S ⟨g,0,U⟩/\(K (E w))<=g/\fq w' g (mO x))/\
  (Sp.dO i x=W8->5<=i->∃k,k<3/\b=qO k/\z=oU k/\f=pQ k/\mO x=[Sp.ft[k]!])
theorem xi{G t:Nat}{b c1 c2 c3:WS}(h:w.heap[G]?=S (D #[b,c1,c2,c3] t)):w.cell? ⟨G,0,U⟩=S b/\w.cell? ⟨G,1,U⟩=S c1/\w.cell? ⟨G,2,U⟩=S c2/\w.cell? ⟨G,3,U⟩=S c3/\∀j,w.frozen? ⟨G,j,U⟩=W9:=⟨by simp[Xc,h],by simp[Xc,h],by simp[Xc,h],by simp[Xc,h],λj=>by simp[World.frozen?,h]⟩
theorem gL{B:Nat}(h:et w)(hb:Below B w w')(b:7<B): et w':=by
 obtain⟨m,e⟩:=h;exact⟨m,(hb.cell (p:=⟨7,0,U⟩) b).trans e⟩
theorem et.lt(h:et w): 7<K (E w):=by
 obtain⟨m,b⟩:=h;exact Ui w _ b
theorem Pc{p:Option Addr}{n cap:Nat}{b:WU}{z:Int}{f:WS}(hi:i<7)(hb:WQ w w')(e:Sp.dO i x=W9)(j:∃F,f=lY (fl i x) F):nU i x w (WZ (WX #[WY #[J p n cap,H b,Z Y z,f],WW W9])) w':=by
 refine⟨hb,p,n,cap,b,z,f,by rw[e],j,?_,?_⟩
 .intro h;rw[e] at h;cases h
 .intro h;rw[e] at h;cases h
theorem xg(i:Nat)(x nm:WU)(b:Nat)(w:WR)(hi:i<5)(hx:x.size<=2000)(hn:nm.size<=10)(az:nm.data.toList++[58]=Sp.hd i)(hg:et w)(hW:ia b w):WT prog 110 #[H x,WY #[H nm,WW W8,WW (i == 2)],J (S ⟨b,0,U⟩) 25 25] w (nU i x w):=by
 have ae:nm.data.toList++[58,32]=Sp.hd i++[32]:=by rw[<-az];simp
 have af:=cT (λ(hk:Sp.dO i x=W9) (w':WR) (hb:WQ w w') (p:Option Addr) (n cap:Nat)=>Pc (p:=p) (n:=n) (cap:=cap) (b:=⟨#[]⟩) (z:=0) (f := .nilFunc) (by omega) hb hk ⟨0,by rw[EC hi];rfl⟩);have ag:=cT (λ(hk:Sp.dO i x=W8) (w':WR) (hb:WQ w w') (g cap:Nat) (hg:K (E w)<=g) (hc:fq w' g (mO x))=>(show nU i x w (WZ (WX #[WY #[J (S ⟨g,0,U⟩) (mO x).length cap,H ⟨#[]⟩,Z Y 0,.nilFunc],WW W8])) w' from ⟨hb,_,_,_,_,_,_,by rw[hk],⟨0,by rw[EC hi];rfl⟩,λ_ _=>⟨O,g,O,hg,hc⟩,λ_ h5=>absurd h5 (by omega)⟩));have ah:=cT (λ(rest:WU) (h:x.data.toList=Sp.hd i++32::rest.data.toList)=>Sp.AL (i:=i) hi h);have aA:=cT (λ(h:¬(Sp.hd i++[32]) <+: x.data.toList)=>Sp.xq (i:=i) (by omega) h);have aB:=cT (λ(rest:WU) (h:x.data.toList=Sp.hd i++32::rest.data.toList)=>(Sp.uH (i:=i) (by omega) h).1);generalize nU i x w=l at *;have ai:=cT (λw0 (aC:et w0)=>pU x nm w0 hx hn aC);rw[ae] at ai;generalize aD:(i == 2)=wt at ah ⊢;clear aD;go_enter func110,ntmps110;go_wp2_with fail;have P:WQ w ((w.alloc (D #[H nm,WW W8,WW wt] 159)).alloc (D #[J U 0 0,H ⟨#[]⟩,Z Y 0,.nilFunc] 154)):=((T4 _ w).alloc WN _).alloc (by simp) _;have ab:((w.alloc (D #[H nm,WW W8,WW wt] 159)).alloc (D #[J U 0 0,H ⟨#[]⟩,Z Y 0,.nilFunc] 154)).heap[K (E w)]?=S (D #[H nm,WW W8,WW wt] 159):=by
  rw[Ur _ _ _ (by simp)];exact T9 w _
 have t:((w.alloc (D #[H nm,WW W8,WW wt] 159)).alloc (D #[J U 0 0,H ⟨#[]⟩,Z Y 0,.nilFunc] 154)).heap[K (E w)+1]?=S (D #[J U 0 0,H ⟨#[]⟩,Z Y 0,.nilFunc] 154):=by
  rw[<-Uv w (D #[H nm,WW W8,WW wt] 159)];exact T9 _ _
 refine(cS ai _ (gL hg P hg.lt)).mono ?_;rintro e w1 ⟨Q,⟨hp,p,n,cap,rfl⟩|⟨rest,aF,T,g,aG,rfl,s⟩⟩
 .have u:=P.trans (Q.mono P.size);have C:=(Q.block (K (E w)+1) (by simp)).trans t;obtain⟨k0,k1,k2,k3,I⟩:=xi C;have f0:=I 0;have f1:=I 1;have f2:=I 2;have f3:=I 3;have A:=cS af (cS aA hp) _ ((((u.setCell (p:=⟨K (E w)+1,0,U⟩) (by simp) (J U 0 0)).setCell (p:=⟨K (E w)+1,1,U⟩) (by simp) (H ⟨#[]⟩)).setCell (p:=⟨K (E w)+1,2,U⟩) (by simp) (Z Y 0)).setCell (p:=⟨K (E w)+1,3,U⟩) (by simp) .nilFunc) U 0 0;clear P ab t Q C u I hp;go_wp2;refine T8 (v := WX #[WY #[J U 0 0,H ⟨#[]⟩,Z Y 0,.nilFunc],WW W9]) ?_ O A;simp[results,results110,go_sem,k0,k1,k2,k3]
 .have u:=P.trans (Q.mono P.size);have C:=(Q.block (K (E w)+1) (by simp)).trans t;have aj:=(Q.block (K (E w)) (by simp <;> omega)).trans ab;obtain⟨s0,s1,s2,sf⟩:=DM aj;have G:x.data.toList=Sp.hd i++32::rest.data.toList:=by rw[T];simp
  have o:=Sp.jq rest 32;have ak:=cT (zu (Sp.split rest 32) (S ⟨g,0,U⟩) (Sp.split rest 32).length b wt w1 s (by omega) o.1 (λy hy=>Uc (Sp.rR rest 32 y hy) (by omega)) (hW.below u));have an:=cS ah rest G;have ao:=cS aB rest G;have aq:mO x=fD (Sp.split rest 32):=by unfold mO fD;rw[ao]
  have aa:Hid (Sp.dO i x=Sp.kh wt (fD (Sp.split rest 32)) 0):=an;have ar:=cT aq;clear P ab t Q sf aj s an ao aq T G o;generalize au:(Sp.split rest 32).length=N at ak ⊢;have aH:=cT au;clear au;go_wp2_with fail;refine(cS ak).mono ?_;rintro e w2 ⟨R,⟨V,g2,B,fs,ms,rfl,ad,av,aw,ax,ay⟩|⟨V,p2,n2,B,rfl⟩⟩
  .have M:=u.trans (R.mono u.size);have r:=(R.block (K (E w)+1) (Ug.1 C).1).trans C;obtain⟨k0,k1,k2,k3,I⟩:=xi r;have f0:=I 0;have f1:=I 1;have f2:=I 2;have f3:=I 3;have F:=MU av aw ax ay;rw[<-cS ar] at F;have q:Sp.dO i x=W8:=(cS aa).trans V;have m:K (E w)+1<g2:=Ux (Ug.1 C).1 ad;have aE:∀(W:WR) (j:Nat) (v:WS),fq W g2 (mO x)->W.heap[K (E w)+1]?=S (D #[J U 0 0,H ⟨#[]⟩,Z Y 0,.nilFunc] 154)\/True->fq W g2 (mO x):=λW j v h _=>h
   have A:=cS ag q _ ((((M.setCell (p:=⟨K (E w)+1,0,U⟩) (by simp) (J (S ⟨g2,0,U⟩) (fD (Sp.split rest 32)).length B)).setCell (p:=⟨K (E w)+1,1,U⟩) (by simp) (H ⟨#[]⟩)).setCell (p:=⟨K (E w)+1,2,U⟩) (by simp) (Z Y 0)).setCell (p:=⟨K (E w)+1,3,U⟩) (by simp) .nilFunc) g2 B (Uc u.size ad)
    ((((F.aside r m (by decide) 0 _).1.aside (F.aside r m (by decide) 0 _).2 m (by decide) 1 _).1.aside ((F.aside r m (by decide) 0 _).1.aside (F.aside r m (by decide) 0 _).2 m (by decide) 1 _).2 m (by decide) 2 _).1.aside (((F.aside r m (by decide) 0 _).1.aside (F.aside r m (by decide) 0 _).2 m (by decide) 1 _).1.aside ((F.aside r m (by decide) 0 _).1.aside (F.aside r m (by decide) 0 _).2 m (by decide) 1 _).2 m (by decide) 2 _).2 m (by decide) 3 _).1
   rw[show (mO x).length=(fD (Sp.split rest 32)).length by rw[cS ar]] at A;generalize (fD (Sp.split rest 32)).length=N2 at A ⊢;clear aE u M C r I R V q F av aw ax ay ad m;go_wp2;refine T8 (v := WX #[WY #[J (S ⟨g2,0,U⟩) N2 B,H ⟨#[]⟩,Z Y 0,.nilFunc],WW W8]) ?_ O A;simp[results,results110,go_sem,k0,k1,k2,k3]
  .have M:=u.trans (R.mono u.size);have r:=(R.block (K (E w)+1) (Ug.1 C).1).trans C;obtain⟨k0,k1,k2,k3,I⟩:=xi r;have f0:=I 0;have f1:=I 1;have f2:=I 2;have f3:=I 3;have q:Sp.dO i x=W9:=(cS aa).trans V;have A:=cS af q _ ((((M.setCell (p:=⟨K (E w)+1,0,U⟩) (by simp) (J p2 n2 B)).setCell (p:=⟨K (E w)+1,1,U⟩) (by simp) (H ⟨#[]⟩)).setCell (p:=⟨K (E w)+1,2,U⟩) (by simp) (Z Y 0)).setCell (p:=⟨K (E w)+1,3,U⟩) (by simp) .nilFunc) p2 n2 B;clear u M C r I R V q;go_wp2;refine T8 (v := WX #[WY #[J p2 n2 B,H ⟨#[]⟩,Z Y 0,.nilFunc],WW W9]) ?_ O A;simp[results,results110,go_sem,k0,k1,k2,k3]
variable {X:List WU}
theorem Gc(h:0<Xg X): X.headD ⟨#[]⟩=X[0]:=by
 cases X with
 |nil=>simp at h
 |cons a l=>rfl
theorem I5(h:0<Xg X): (fD X).headD []=X[0].data.toList:=by
 cases X with
 |nil=>simp at h
 |cons a l=>rfl
theorem Od(h:0<Xg X)(h1:Xg X=1): fD X=[X[0].data.toList]:=by
 cases X with
 |nil=>simp at h
 |cons a l =>
  have:l=[]:=Wo (by simpa using h1);subst this
  rfl
theorem wW(i:Nat)(x nm:WU)(b:Nat)(w:WR)(hi:5<=i)(ag:i<7)(hx:x.size<=2000)(hn:nm.size<=10)(aG:nm.data.toList++[58]=Sp.hd i)(hg:et w)(hW:ia b w):WT prog 110 #[H x,WY #[H nm,WW W9,WW W9],J (S ⟨b,0,U⟩) 25 25] w (nU i x w):=by
 have ay:nm.data.toList++[58,32]=Sp.hd i++[32]:=by rw[<-aG];simp
 have ar:=cT (λ(hk:Sp.dO i x=W9) (w':WR) (hb:WQ w w') (aH:WU) (z:Int) (f:WS) (hf:∃F,f=lY (fl i x) F)=>Pc (p:=none) (n:=0) (cap:=0) (b:=aH) (z:=z) (f:=f) ag hb hk hf);have az:=cT (λ(hk:Sp.dO i x=W8) (w':WR) (hb:WQ w w') (k:Nat) (ah:k<3) (hw:mO x=[Sp.ft[k]!]) (aI:fl i x=W8)=>(show nU i x w (WZ (WX #[WY #[J U 0 0,H (qO k),Z Y (oU k),pQ k],WW W8])) w' from ⟨hb,U,0,0,qO k,oU k,pQ k,by rw[hk],⟨QT[k]!,by rw[aI];rfl⟩,λ_ h5=>absurd h5 (by omega),λ_ _=>⟨k,ah,O,O,O,hw⟩⟩));have aJ:=cT (λ(rest:WU) (h:x.data.toList=Sp.hd i++32::rest.data.toList)=>Sp.An (i:=i) hi ag h);have aK:=cT (λ(h:¬(Sp.hd i++[32]) <+: x.data.toList)=>Sp.xq (i:=i) ag h);have aL:=cT (λ(rest:WU) (h:x.data.toList=Sp.hd i++32::rest.data.toList)=>(Sp.uH (i:=i) ag h).1);generalize nU i x w=j at *;have aA:=cT (λw0 (aM:et w0)=>pU x nm w0 hx hn aM);rw[ay] at aA;go_enter func110,ntmps110;go_wp2_with fail;have R:WQ w ((w.alloc (D #[H nm,WW W9,WW W9] 159)).alloc (D #[J U 0 0,H ⟨#[]⟩,Z Y 0,.nilFunc] 154)):=((T4 _ w).alloc WN _).alloc (by simp) _;have au:((w.alloc (D #[H nm,WW W9,WW W9] 159)).alloc (D #[J U 0 0,H ⟨#[]⟩,Z Y 0,.nilFunc] 154)).heap[K (E w)]?=S (D #[H nm,WW W9,WW W9] 159):=by
  rw[Ur _ _ _ (by simp)];exact T9 w _
 have ai:((w.alloc (D #[H nm,WW W9,WW W9] 159)).alloc (D #[J U 0 0,H ⟨#[]⟩,Z Y 0,.nilFunc] 154)).heap[K (E w)+1]?=S (D #[J U 0 0,H ⟨#[]⟩,Z Y 0,.nilFunc] 154):=by
  rw[<-Uv w (D #[H nm,WW W9,WW W9] 159)];exact T9 _ _
 refine(cS aA _ (gL hg R hg.lt)).mono ?_;rintro e w1 ⟨T,⟨hp,p,n,cap,rfl⟩|⟨rest,aO,V,g,aP,rfl,an⟩⟩
 .have u:=R.trans (T.mono R.size);have A:=(T.block (K (E w)+1) (by simp)).trans ai;obtain⟨k0,k1,k2,k3,M⟩:=xi A;have f0:=M 0;have f1:=M 1;have f2:=M 2;have f3:=M 3;have l:=cS ar (cS aK hp) _ ((((u.setCell (p:=⟨K (E w)+1,0,U⟩) (by simp) (J U 0 0)).setCell (p:=⟨K (E w)+1,1,U⟩) (by simp) (H ⟨#[]⟩)).setCell (p:=⟨K (E w)+1,2,U⟩) (by simp) (Z Y 0)).setCell (p:=⟨K (E w)+1,3,U⟩) (by simp) .nilFunc) ⟨#[]⟩ 0 .nilFunc ⟨0,by rw[PE hp];rfl⟩;clear R au ai T A u M hp;go_wp2;refine T8 (v := WX #[WY #[J U 0 0,H ⟨#[]⟩,Z Y 0,.nilFunc],WW W9]) ?_ O l;simp[results,results110,go_sem,k0,k1,k2,k3]
 .have u:=R.trans (T.mono R.size);have A:=(T.block (K (E w)+1) (by simp)).trans ai;have aB:=(T.block (K (E w)) (by simp <;> omega)).trans au;obtain⟨s0,s1,s2,sf⟩:=DM aB;have I:x.data.toList=Sp.hd i++32::rest.data.toList:=by rw[V];simp
  have m:=Sp.jq rest 32;obtain⟨g',aQ,av,aR,o⟩:=an 0 m.1;injection av with av;injection av with e1 e2;subst e1 e2;have aa:=cS aJ rest I;have aC:=cS aL rest I;have aw:mO x=fD (Sp.split rest 32):=by unfold mO fD;rw[aC]
  rw[Gc m.1] at aa;have B:=λh1=>Od m.1 h1
  obtain⟨y,hy⟩:∃y,(Sp.split rest 32)[0]'m.1=y:=⟨_,rfl⟩
  rw[hy] at aa o;have W:(mO x).headD []=y.data.toList:=by
   rw[aw,<-hy];exact I5 m.1
  have ao:(Sp.hd i++[32]) <+: x.data.toList:=⟨rest.data.toList,by rw[V]⟩
  have aq:Hid (y.data.toList∈Sp.ft->fl i x=W8):=λhm=>UH ⟨hi,ao,by rw[W];exact hm⟩
  have aD:Hid (y.data.toList∉Sp.ft->fl i x=W9):=λhm=>Uu (λhc=>hm (by rw[<-W];exact hc.2.2))
  clear W ao;have ab:(Sp.split rest 32).length=1->fD (Sp.split rest 32)=[y.data.toList]:=λh1=>by rw[B h1,hy]
  have q:=m.1;have ad:=m.2;clear B hy m;have B:=ab;clear ab;generalize ax:(Sp.split rest 32).length=N at aa B q ad ⊢;have ae:=cT aa;have aN:=cT aw;have aE:=cT B;have aS:0<N:=q;have aT:(0:Int)<(N:Int):=by omega
  have aU:N<=2001:=by omega
  clear R au ai T sf aB an aa aC aw V I q ad B ax;simp only[UA] at o;go_wp2_with fail;refine(pM y w1).mono ?_;rintro e w2 ⟨t,⟨k,ah,aj,rfl⟩|⟨aF,rfl⟩⟩
  .have C:=u.trans (t.mono u.size);have P:=(t.block (K (E w)+1) (Ug.1 A).1).trans A;have r:=(Ug.1 P).1;have s:(w2.alloc (D #[H (qO k),Z Y (oU k),pQ k] 152)).heap[K (E w)+1]?=_:=(Ur _ _ _ r).trans P;have G:=C.alloc (Uc (U0 _) (UT r)) (D #[H (qO k),Z Y (oU k),pQ k] 152);obtain⟨k0,k1,k2,k3,M⟩:=xi s;have f0:=M 0;have f1:=M 1;have f2:=M 2;have f3:=M 3;have af:y.data.toList∈Sp.ft:=by
    rw[<-aj,getElem!_pos Sp.ft k ah];exact UU _
   have ak:=(((G.setCell (p:=⟨K (E w)+1,0,U⟩) (by simp) (J U 0 0)).setCell (p:=⟨K (E w)+1,1,U⟩) (by simp) (H (qO k))).setCell (p:=⟨K (E w)+1,2,U⟩) (by simp) (Z Y (oU k))).setCell (p:=⟨K (E w)+1,3,U⟩) (by simp) (pQ k);by_cases hN:N=1
   .have Q:Sp.dO i x=W8:=by
     rw[cS ae,hN,UH af];rfl
    have l:=cS az Q _ ak k ah (by rw[cS aN,cS aE hN,aj]) (cS aq af);have ax:((N:Int) == 1)=W8:=by subst hN;rfl
    unfold Ka;unfold pQ at l k0 k1 k2 k3 f0 f1 f2 f3 ⊢;generalize qO k=n1 at *;generalize oU k=n2 at *;generalize (QT[k]!)=n3 at *;clear u C G A P s M t ak Q hN aj r;go_wp2;refine T8 (v := WX #[WY #[J U 0 0,H n1,Z Y n2,.func (.func n3) #[] #[]],WW W8]) ?_ O l;simp[results,results110,go_sem,k0,k1,k2,k3]
   .have Q:Sp.dO i x=W9:=by
     rw[cS ae,Uu hN];rfl
    have l:=cS ar Q _ ak (qO k) (oU k) (pQ k) ⟨QT[k]!,by rw[cS aq af];rfl⟩;have ax:((N:Int) == 1)=W9:=Uh.2 (by omega);unfold Ka;unfold pQ at l k0 k1 k2 k3 f0 f1 f2 f3 ⊢;generalize qO k=n1 at *;generalize oU k=n2 at *;generalize (QT[k]!)=n3 at *;clear u C G A P s M t ak Q hN aj r;go_wp2;refine T8 (v := WX #[WY #[J U 0 0,H n1,Z Y n2,.func (.func n3) #[] #[]],WW W9]) ?_ O l;simp[results,results110,go_sem,k0,k1,k2,k3]
  .have C:=u.trans (t.mono u.size);have P:=(t.block (K (E w)+1) (Ug.1 A).1).trans A;have r:=(Ug.1 P).1;have s:(w2.alloc (D #[H ⟨#[]⟩,Z Y 0,.nilFunc] 152)).heap[K (E w)+1]?=_:=(Ur _ _ _ r).trans P;have G:=C.alloc (Uc (U0 _) (UT r)) (D #[H ⟨#[]⟩,Z Y 0,.nilFunc] 152);obtain⟨k0,k1,k2,k3,M⟩:=xi s;have f0:=M 0;have f1:=M 1;have f2:=M 2;have f3:=M 3;have Q:Sp.dO i x=W9:=by
    rw[cS ae,Uu aF,Bool.and_false]
   have l:=cS ar Q _ ((((G.setCell (p:=⟨K (E w)+1,0,U⟩) (by simp) (J U 0 0)).setCell (p:=⟨K (E w)+1,1,U⟩) (by simp) (H ⟨#[]⟩)).setCell (p:=⟨K (E w)+1,2,U⟩) (by simp) (Z Y 0)).setCell (p:=⟨K (E w)+1,3,U⟩) (by simp) .nilFunc) ⟨#[]⟩ 0 .nilFunc ⟨0,by rw[cS aD aF];rfl⟩;unfold EE;clear u C G A P s M t Q r;go_wp2;refine T8 (v := WX #[WY #[J U 0 0,H ⟨#[]⟩,Z Y 0,.nilFunc],WW W9]) ?_ O l;simp[results,results110,go_sem,k0,k1,k2,k3]
theorem OG:∀i,i<7->Sp.yR[i]!++[58]=Sp.hd i:=by decide
def qz(i:Nat):WU:=⟨⟨Sp.yR[i]!⟩⟩
theorem ye:∀i,i<7->(qz i).size<=10:=by decide
theorem wK(i:Nat)(hi:i<7)(x:WU)(b:Nat)(w:WR)(j:x.size<=2000)(l:et w)(m:ia b w):WT prog 110 #[H x,WY #[H (qz i),WW (decide (i<5)),WW (i == 2)],J (S ⟨b,0,U⟩) 25 25] w (nU i x w):=by
 by_cases e:i<5
 .rw[UH e];exact xg i x (qz i) b w e j (ye i hi) (OG i hi) l m
 .rw[Uu e,show (i == 2)=W9 from Uh.2 (by omega)];exact wW i x (qz i) b w (by omega) hi j (ye i hi) (OG i hi) l m
end
section
theorem yX(p:Addr)(x:Bool)(u:TypeId)(j:WS)(b:List PanicEntry)(w:WR)(l:w.cell? p=S (WW x))(m:w.frozen? p=W9):CallsD prog 112 #[WV (S p)] (.panicking ({ v := .iface u j,recovered:=false }::b)) w λe r y =>
   e=WZ (WX #[])/\r=.panicking ({ v := .iface u j,recovered:=true }::b)/\y=w.setCell p (WW W9):=by
 refine callsD_of_wpS func112 O λz A hu=>?_
 apply wpS_seq;apply wpS_region;simp[wpOpsS,go_sem,recoverD,hu,ntmps112,Exit.thenS];refine wpS_cond (t:=true) (by simp[Act.eval,Array.replicate]) ?_;simp only[UL];apply wpS_region;simp[wpOpsS,go_sem,l,m,bodyPostS,results,results112]
theorem tO(p:Addr)(w:WR):CallsD prog 112 #[WV (S p)] .returning w λe b j=>e=WZ (WX #[])/\b=.returning/\j=w:=by
 refine callsD_of_wpS func112 O λl m hu=>?_
 apply wpS_seq;apply wpS_region;simp[wpOpsS,go_sem,recoverD,hu,ntmps112,Exit.thenS];refine wpS_cond (t:=false) (by simp[Act.eval,Array.replicate]) ?_;simp only[Wn,Vg];refine wpS_of_wp (wp_skip ?_);cases l
 simp_all [bodyPostS,results,results112]
def eo(b:WS)(e:Int)(j:Bool:=true):Array WS := #[b,Z Y 0,Z Y e,Z Y 0,Z Y 0,Z Y 0,Z Y 0,Z Y 0,Z Y 0,Z Y 0,Z Y 0,Z Y 0,Z Y 0,Z Y 0,Z Y 0,Z Y 0,Z Y 0,Z Y 0,Z Y 0,Z Y 0,Z Y 0,Z Y 0,Z Y 0,Z Y 0,Z Y 0,Z Y 0,Z Y 0,Z Y 0,Z Y 0,J U 0 0,WW j]
theorem jW.zV{w:WR}{M n t:Nat}{b:WS}(h:w.heap[M]?=S (D (eo b n) t)):jW w M b 0 n 0 (J U 0 0):=by
 refine⟨by simp[Xc,h,eo],by simp[Xc,h,eo],by simp[Xc,h,eo],λj e=>?_,λj e=>?_,by simp[Xc,h,eo],by simp[Xc,h,eo],by simp[Xc,h,eo],λj=>by simp[World.frozen?,h]⟩
 .match j,e with
  |0,_=>exact⟨0,by simp[Xc,h,eo]⟩
  |1,_=>exact⟨0,by simp[Xc,h,eo]⟩
  |2,_=>exact⟨0,by simp[Xc,h,eo]⟩
  |3,_=>exact⟨0,by simp[Xc,h,eo]⟩
  |4,_=>exact⟨0,by simp[Xc,h,eo]⟩
  |5,_=>exact⟨0,by simp[Xc,h,eo]⟩
  |6,_=>exact⟨0,by simp[Xc,h,eo]⟩
  |7,_=>exact⟨0,by simp[Xc,h,eo]⟩
  |8,_=>exact⟨0,by simp[Xc,h,eo]⟩
 .match j,e with
  |0,_=>exact⟨0,by simp[Xc,h,eo]⟩
  |1,_=>exact⟨0,by simp[Xc,h,eo]⟩
  |2,_=>exact⟨0,by simp[Xc,h,eo]⟩
  |3,_=>exact⟨0,by simp[Xc,h,eo]⟩
  |4,_=>exact⟨0,by simp[Xc,h,eo]⟩
  |5,_=>exact⟨0,by simp[Xc,h,eo]⟩
  |6,_=>exact⟨0,by simp[Xc,h,eo]⟩
  |7,_=>exact⟨0,by simp[Xc,h,eo]⟩
  |8,_=>exact⟨0,by simp[Xc,h,eo]⟩
  |9,_=>exact⟨0,by simp[Xc,h,eo]⟩
  |10,_=>exact⟨0,by simp[Xc,h,eo]⟩
  |11,_=>exact⟨0,by simp[Xc,h,eo]⟩
  |12,_=>exact⟨0,by simp[Xc,h,eo]⟩
  |13,_=>exact⟨0,by simp[Xc,h,eo]⟩
  |14,_=>exact⟨0,by simp[Xc,h,eo]⟩
  |15,_=>exact⟨0,by simp[Xc,h,eo]⟩
  |n+16,e=>exact absurd e (by omega)
theorem below_setRow{B:Nat}{w w':WR}(h:Below B w w'){g:Nat}(e:B<=g)(cs:Array WS):Below B w (w'.setRow g cs):=by
 refine⟨h.1,h.2,h.3,?_,λk b=>?_⟩
 .have:=h.size;simp[World.setRow];exact this
 .rw[<-h.block k b];simp only[World.setRow,Array.getElem?_modify];rw[TZ (by omega)]
structure JL (w:WR) (g:Nat) (L:List (List UInt8)) (u:TypeId) (p:WS):Prop where
 row:F0 w (K (E w)) g L
 len:Xg L<=4000
 pos:0<Xg L
 fm:Sp.kh W8 L 0=W8
 err:w.cell? ⟨5,0,U⟩=S (.iface u p)
 lt:5<K (E w)
theorem pr(L:List (List UInt8))(g cap:Nat)(u:TypeId)(p:WS)(w:WR)(h:JL w g L u p):WT prog 70 #[J (S ⟨g,0,U⟩) (Xg L) cap] w λe o=>e=WZ (WW (Sp.keeps L))/\WQ w o:=by
 have aa:∀(q:Go.Fn) (first cap:Array WS) (w:WR),(Instr.makeFunc q first cap).run prog w=.ok (.func q first cap) w:=λ_ _ _ _=>O
 have b:=cT h;clear h;obtain⟨P,A⟩:∃P,Hid (Sp.keeps L=P):=⟨_,rfl⟩
 rw[cS A]
 go_enter_defers func70,ntmps70
 iterate 38 (first|go_values|go_skip|go_guarded|go_step|go_upon|(simp only[Int.not_lt,Int.not_le] at *;go_simp))
 refine wp_store_row 223 (.tmp 3) (.tmp 8) O (K (E w)+1) (eo (J (S ⟨g,0,U⟩) (Xg L) cap) (Xg L)) O O 223 (eo (J U 0 0) 0 W9) ?h1 (by kernel_rfl) O (by simp[eo,Value.oneCell']) ?h2
 case h1 =>
  rw[<-Uv w (D #[WW W9] 4)];exact T9 _ _
 case h2 =>
 have l:WQ w (((w.alloc (D #[WW W9] 4)).alloc (D (eo (J U 0 0) 0 W9) 223)).setRow (K (E w)+1) (eo (J (S ⟨g,0,U⟩) (Xg L) cap) (Xg L))):=below_setRow (((T4 _ w).alloc WN _).alloc (by simp) _) (by omega) _;have G:(((w.alloc (D #[WW W9] 4)).alloc (D (eo (J U 0 0) 0 W9) 223)).setRow (K (E w)+1) (eo (J (S ⟨g,0,U⟩) (Xg L) cap) (Xg L))).heap[K (E w)+1]?=S (D (eo (J (S ⟨g,0,U⟩) (Xg L) cap) (Xg L)) 223 (0,0)):=by
  refine U8 _ _ (eo (J U 0 0) 0 W9) _ _ _ ?_;rw[<-Uv w (D #[WW W9] 4)];exact T9 _ _
 have C:(((w.alloc (D #[WW W9] 4)).alloc (D (eo (J U 0 0) 0 W9) 223)).setRow (K (E w)+1) (eo (J (S ⟨g,0,U⟩) (Xg L) cap) (Xg L))).heap[K (E w)]?=S (D #[WW W9] 4 (0,0)):=by
  simp only[World.setRow,Array.getElem?_modify];rw[TZ (by omega),Ur _ _ _ (by simp)];exact T9 w _
 generalize R:World.setRow _ _ _=W;replace l:WQ w W:=by rw[<-R];exact l
 replace G:W.heap[K (E w)+1]?=S (D (eo (J (S ⟨g,0,U⟩) (Xg L) cap) (Xg L)) 223 (0,0)):=by rw[<-R];exact G
 replace C:W.heap[K (E w)]?=S (D #[WW W9] 4 (0,0)):=by rw[<-R];exact C
 clear R;have I:K (E w)+1<K (E W):=(Ug.1 G).1;have F:=Nh L (K (E w)+1) g cap u p W (cS b).len ⟨_,jW.zV G,Uw _ _ _ _⟩ (by
  obtain⟨hg,hr⟩:=(cS b).row;refine⟨by omega,λi hi=>?_⟩;obtain⟨fv,h1,h2⟩:=hr i hi;refine⟨fv,(l.cell (p:=⟨g,i*2,U⟩) hg).trans h1,?_⟩;rcases h2 with ⟨B,n,M,q2,q3,q4⟩|h2
  .exact Xa ⟨B,n,by omega,q2,(l.block B M).trans q3,q4⟩
  .exact Xb h2) (cS b).fm (by have:=(cS b).lt;omega) ((l.cell (p:=⟨5,0,U⟩) (cS b).lt).trans (cS b).err)
 have V:=Sp.vY (cS b).fm;go_wp2_with fail;refine F.mono ?_;clear F;rcases V with ⟨T,m⟩|⟨T,m|⟨hh,ab,m⟩⟩
 .obtain rfl:W8=P:=T.symm.trans (cS A);rw[m];rintro e j ⟨r,rfl,a,f,x,hd,_⟩;have e1:=hd.hh;have y:j.heap[K (E w)]?=_:=(r.block (K (E w)) (by omega)).trans C;have N:j.cell? ⟨K (E w),0,U⟩=S (WW W9):=by simp[Xc,y]
  have X:j.frozen? ⟨K (E w),0,U⟩=W9:=by simp[World.frozen?,y]
  have z:WQ w j:=l.trans (r.mono (by omega));clear hd r y l G C I;go_wp2;refine leaves_cons (f:=112) (args := #[WV (S ⟨K (E w),0,U⟩)]) (by simp) (by simp[go_sem]) ?_;refine(tO ⟨K (E w),0,U⟩ _).mono ?_;rintro e t Q ⟨rfl,rfl,rfl⟩;have M:=UN j ⟨K (E w),0,U⟩ (WW W8) N;simp[Leaves,settle,results,results70,go_sem,M];exact z.setCell WN _
 .obtain rfl:W9=P:=T.symm.trans (cS A);rw[m];rintro e j ⟨r,rfl⟩;have y:j.heap[K (E w)]?=_:=(r.block (K (E w)) (by omega)).trans C;have N:j.cell? ⟨K (E w),0,U⟩=S (WW W9):=by simp[Xc,y]
  have X:j.frozen? ⟨K (E w),0,U⟩=W9:=by simp[World.frozen?,y]
  have z:WQ w j:=l.trans (r.mono (by omega));clear r y l G C I;go_wp2;refine leaves_cons (f:=112) (args := #[WV (S ⟨K (E w),0,U⟩)]) (by simp) (by simp[go_sem]) ?_;refine(yX ⟨K (E w),0,U⟩ W9 u p [] _ N X).mono ?_;rintro e t Q ⟨rfl,rfl,rfl⟩;have M:=UN j ⟨K (E w),0,U⟩ (WW W9) N;simp[Leaves,settle,results,results70,go_sem,M];exact z.setCell WN _
 .obtain rfl:W9=P:=T.symm.trans (cS A);rw[m];rintro e j ⟨r,rfl,a,f,x,hd,_⟩;have e1:=hd.hh;have y:j.heap[K (E w)]?=_:=(r.block (K (E w)) (by omega)).trans C;have N:j.cell? ⟨K (E w),0,U⟩=S (WW W9):=by simp[Xc,y]
  have X:j.frozen? ⟨K (E w),0,U⟩=W9:=by simp[World.frozen?,y]
  have z:WQ w j:=l.trans (r.mono (by omega));have s:((hh:Int) == 1)=W9:=Uh.2 (by omega);clear hd r y l G C I;go_wp2;refine leaves_cons (f:=112) (args := #[WV (S ⟨K (E w),0,U⟩)]) (by simp) (by simp[go_sem]) ?_;refine(tO ⟨K (E w),0,U⟩ _).mono ?_;rintro e t Q ⟨rfl,rfl,rfl⟩;have M:=UN j ⟨K (E w),0,U⟩ (WW W9) N;simp[Leaves,settle,results,results70,go_sem,M];exact z.setCell WN _
end
section
def tM:List WS:=[H (qz 0),WW W8,WW W9,H (qz 1),WW W8,WW W9,H (qz 2),WW W8,WW W8,H (qz 3),WW W8,WW W9,H (qz 4),WW W8,WW W9,H (qz 5),WW W9,WW W9,H (qz 6),WW W9,WW W9]
def jR(w:WR):Prop:=w.rangeAt 0 0 tM
variable {w:WR}
theorem jR.lt(h:jR w): 0<K (E w):=Ui w _ (h 0 _ O)
theorem jR.below{w':WR}{B:Nat}(h:jR w)(hb:Below B w w')(e:0<B): jR w':=λj v l=>(hb.cell (p:=⟨0,0+j,U⟩) e).trans (h j v l)
theorem Mb:(i:Nat)->i<7->∀W:WR,(Instr.index 160 (WY tM.toArray) (Z Y i)).run prog W=.ok (WY #[H (qz i),WW (decide (i<5)),WW (i == 2)]) W
 |0,_=>λW=>by kernel_rfl
 |1,_=>λW=>by kernel_rfl
 |2,_=>λW=>by kernel_rfl
 |3,_=>λW=>by kernel_rfl
 |4,_=>λW=>by kernel_rfl
 |5,_=>λW=>by kernel_rfl
 |6,_=>λW=>by kernel_rfl
 |n+7,h=>absurd h (by omega)
def AH:Array WS := #[J U 0 0,H ⟨#[]⟩,Z Y 0,.nilFunc,J U 0 0,H ⟨#[]⟩,Z Y 0,.nilFunc,J U 0 0,H ⟨#[]⟩,Z Y 0,.nilFunc,J U 0 0,H ⟨#[]⟩,Z Y 0,.nilFunc,J U 0 0,H ⟨#[]⟩,Z Y 0,.nilFunc,J U 0 0,H ⟨#[]⟩,Z Y 0,.nilFunc,J U 0 0,H ⟨#[]⟩,Z Y 0,.nilFunc]
structure TG (C:Array WS) (j:Nat) (p:Option Addr) (n cap:Nat) (b:WU) (z:Int) (q:Bool) (F:Nat):Prop where
 c0:C[j*4]?=S (J p n cap)
 c1:C[j*4+1]?=S (H b)
 c2:C[j*4+2]?=S (Z Y z)
 c3:C[j*4+3]?=S (lY q F)
structure mE (X:List WU) (w:WR) (P:Nat) (C:Array WS) (i:Nat):Prop where
 size:C.size=28
 shape:∀j,j<7->∃p n cap b z q F,TG C j p n cap b z q F
 code:∀j,j<i->j<5->∃g cap,C[j*4]?=S (J (S ⟨g,0,U⟩) (mO (X.getD j ⟨#[]⟩)).length cap)/\P<g/\fq w g (mO (X.getD j ⟨#[]⟩))
 comb:∀j,j<i->5<=j->∃k,k<3/\C[j*4+2]?=S (Z Y (oU k))/\C[j*4+3]?=S (pQ k)/\mO (X.getD j ⟨#[]⟩)=[Sp.ft[k]!]
theorem Gz:(j:Nat)->j<7->TG AH j U 0 0 ⟨#[]⟩ 0 W9 0
 |0,_=>⟨rfl,rfl,rfl,rfl⟩
 |1,_=>⟨rfl,rfl,rfl,rfl⟩
 |2,_=>⟨rfl,rfl,rfl,rfl⟩
 |3,_=>⟨rfl,rfl,rfl,rfl⟩
 |4,_=>⟨rfl,rfl,rfl,rfl⟩
 |5,_=>⟨rfl,rfl,rfl,rfl⟩
 |6,_=>⟨rfl,rfl,rfl,rfl⟩
 |n+7,h=>absurd h (by omega)
theorem Qi(X:List WU)(w:WR)(P:Nat):mE X w P AH 0:=⟨O,λj e=>⟨_,_,_,_,_,_,_,Gz j e⟩,λj e=>absurd e (by omega),λj e=>absurd e (by omega)⟩
variable {X:List WU}{i:Nat}{C:Array WS}
theorem mE.below{w':WR}{P:Nat}(h:mE X w P C i)(hb:WQ w w'): mE X w' P C i:=⟨h.size,h.shape,λj e l=>by obtain⟨g,cap,a,b,c⟩:=h.code j e l;exact⟨g,cap,a,b,c.below hb⟩,h.comb⟩
def ue(C:Array WS)(i:Nat)(a b c d:WS):Array WS:=(((C.setIfInBounds (i*4) a).setIfInBounds (i*4+1) b).setIfInBounds (i*4+2) c).setIfInBounds (i*4+3) d
theorem GX(C:Array WS)(i:Nat)(a b c d:WS):(ue C i a b c d).size=C.size:=by simp[ue]
theorem iZ{j:Nat}{a b c d:WS}(h:j<i*4\/i*4+4<=j): (ue C i a b c d)[j]?=C[j]?:=by
 unfold ue;rw[VS (by omega),VS (by omega),VS (by omega),VS (by omega)]
theorem GJ{a b c d:WS}(h:i*4+4<=C.size): (ue C i a b c d)[i*4]?=S a/\(ue C i a b c d)[i*4+1]?=S b/\(ue C i a b c d)[i*4+2]?=S c/\(ue C i a b c d)[i*4+3]?=S d:=by
 unfold ue;refine⟨?_,?_,?_,?_⟩
 .rw[VS (by omega),VS (by omega),VS (by omega),WM,T0 (by omega)]
 .rw[VS (by omega),VS (by omega),WM,T0 (by simp;omega)]
 .rw[VS (by omega),WM,T0 (by simp;omega)]
 .rw[WM,T0 (by simp;omega)]
variable {p:Option Addr}{n cap:Nat}{z:Int}{b:WU}
theorem mE.next{P:Nat}{F:Nat}{q:Bool}(h:mE X w P C i)(hi:i<7)(R:w.heap[P]?=S (D C 157 (0,0)))(hc:i<5->n=(mO (X.getD i ⟨#[]⟩)).length/\∃g,p=S ⟨g,0,U⟩/\P<g/\fq w g (mO (X.getD i ⟨#[]⟩)))(hm:5<=i->∃k,k<3/\z=oU k/\lY q F=pQ k/\mO (X.getD i ⟨#[]⟩)=[Sp.ft[k]!]):mE X ((((w.setCell ⟨P,i*4,U⟩ (J p n cap)).setCell ⟨P,i*4+1,U⟩ (H b)).setCell ⟨P,i*4+2,U⟩ (Z Y z)).setCell ⟨P,i*4+3,U⟩ (lY q F)) P (ue C i (J p n cap) (H b) (Z Y z) (lY q F)) (i+1)
 /\((((w.setCell ⟨P,i*4,U⟩ (J p n cap)).setCell ⟨P,i*4+1,U⟩ (H b)).setCell ⟨P,i*4+2,U⟩ (Z Y z)).setCell ⟨P,i*4+3,U⟩ (lY q F)).heap[P]?=S (D (ue C i (J p n cap) (H b) (Z Y z) (lY q F)) 157 (0,0)):=by
 have A:=h.size;obtain⟨T,s1,V,W⟩:=GJ (C:=C) (i:=i) (a := J p n cap) (b := H b) (c := Z Y z) (d:=lY q F) (by omega);have t:=eZ (i:=i*4) R (J p n cap);have s:=eZ (i:=i*4+1) t (H b);have o:=eZ (i:=i*4+2) s (Z Y z);have b4:=eZ (i:=i*4+3) o (lY q F);have m:∀g L,fq w g L->P<g->fq ((((w.setCell ⟨P,i*4,U⟩ (J p n cap)).setCell ⟨P,i*4+1,U⟩ (H b)).setCell ⟨P,i*4+2,U⟩ (Z Y z)).setCell ⟨P,i*4+3,U⟩ (lY q F)) g L:=λg L r l =>
  ((((r.aside R l (by decide) _ _).1.aside t l (by decide) _ _).1.aside s l (by decide) _ _).1.aside o l (by decide) _ _).1
 refine⟨⟨by rw[GX];exact A,λj B=>?_,λj B y=>?_,λj B y=>?_⟩,b4⟩
 .by_cases e:j=i
  .subst e;exact⟨p,n,cap,b,z,q,F,T,s1,V,W⟩
  .obtain⟨p',n',u,b',z',q',F',G,c1,I,M⟩:=h.shape j B;exact⟨p',n',u,b',z',q',F',(iZ (by omega)).trans G,(iZ (by omega)).trans c1,(iZ (by omega)).trans I,(iZ (by omega)).trans M⟩
 .by_cases e:j=i
  .subst e;obtain⟨rfl,g,rfl,l,r⟩:=hc y;exact⟨g,cap,T,l,m _ _ r l⟩
  .obtain⟨g,u,G,l,r⟩:=h.code j (by omega) y;exact⟨g,u,(iZ (by omega)).trans G,l,m _ _ r l⟩
 .by_cases e:j=i
  .subst e;obtain⟨k,N,rfl,hf,Q⟩:=hm y;exact⟨k,N,V,by rw[<-hf];exact W,Q⟩
  .obtain⟨k,N,I,M,Q⟩:=h.comb j (by omega) y;exact⟨k,N,(iZ (by omega)).trans I,(iZ (by omega)).trans M,Q⟩
def JV(X:List WU)(w:WR)(e:Ending)(w':WR):Prop:=WQ w w'/\∃i,i<=7/\i<=Xg X/\(∀j,j<i->Sp.dO j (X.getD j ⟨#[]⟩)=W8)/\
  ((i<7/\(i=Xg X\/(i<Xg X/\Sp.dO i (X.getD i ⟨#[]⟩)=W9))/\e=WZ (WX #[WV U,Z Y i,WW W9]))\/
     (i=7/\(Xg X)≠7/\∃P,e=WZ (WX #[WV P,Z Y 7,WW W9]))\/
     (i=7/\(Xg X)=7/\∃P C,K (E w)<=P/\e=WZ (WX #[WV (S ⟨P,0,U⟩),Z Y 7,WW W8])/\w'.heap[P]?=S (D C 157 (0,0))/\mE X w' P C 7))
structure pW (X:List WU) (w wr:WR) (i:Nat) (C:Array WS):Prop where
 i7:i<=7
 il:i<=Xg X
 below:WQ w wr
 prog:wr.heap[K (E w)]?=S (D C 157 (0,0))
 words:ia (K (E w)+1) wr
 lines:mE X wr (K (E w)) C i
 ok:∀j,j<i->Sp.dO j (X.getD j ⟨#[]⟩)=W8
theorem fq.drew{g:Nat}{L:List (List UInt8)}(h:fq w g L): fq w.drew g L:=⟨h.lt,h.fn,h.tX⟩
variable {wr:WR}
theorem pW.drew(h:pW X w wr i C): pW X w wr.drew i C:=⟨h.i7,h.il,h.below.drew,h.prog,h.words,⟨h.lines.size,h.lines.shape,λj e l=>by obtain⟨g,cap,a,b,c⟩:=h.lines.code j e l;exact⟨g,cap,a,b,c.drew⟩,h.lines.comb⟩,h.ok⟩
structure SX (i:Nat) (x:WU) (wr W:WR) (LB:Nat) (p:Option Addr) (n cap:Nat) (b:WU) (z:Int) (f:WS):Prop where
 below:WQ wr W
 cells:W.heap[LB]?=S (D #[J p n cap,H b,Z Y z,f] 154 (0,0))
 code:Sp.dO i x=W8->i<5->n=(mO x).length/\∃g,p=S ⟨g,0,U⟩/\(K (E wr))<=g/\fq W g (mO x)
variable {f:WS}{x:WU}
theorem RP{j w3:WR}{G I L M:WS}(l:WQ wr j)(V:K (E wr)+2<=K (E j))(m:WQ j w3)(y:w3.heap[K (E wr)+1]?=S (D #[G,I,L,M] 154 (0,0)))(N:Sp.dO i x=W8->i<5->n=(mO x).length/\∃g,p=S ⟨g,0,U⟩/\(K (E j))<=g/\fq w3 g (mO x)):SX i x wr ((((w3.setCell ⟨K (E wr)+1,0,U⟩ (J p n cap)).setCell ⟨K (E wr)+1,1,U⟩ (H b)).setCell ⟨K (E wr)+1,2,U⟩ (Z Y z)).setCell ⟨K (E wr)+1,3,U⟩ f) (K (E wr)+1) p n cap b z f:=by
 have A:=eZ (i:=0) y (J p n cap);have B:=eZ (i:=1) A (H b);have F:=eZ (i:=2) B (Z Y z);have P:=eZ (i:=3) F f;refine⟨((((l.trans (m.mono l.size)).setCell (p:=⟨K (E wr)+1,0,U⟩) (U0 _) _).setCell (p:=⟨K (E wr)+1,1,U⟩) (U0 _) _).setCell (p:=⟨K (E wr)+1,2,U⟩) (U0 _) _).setCell (p:=⟨K (E wr)+1,3,U⟩) (U0 _) _,P,λr Q=>?_⟩;obtain⟨R,g,T,W,u⟩:=N r Q;have e:K (E wr)+1<g:=by omega
 exact⟨R,g,T,by omega,((((u.aside y e (by decide) _ _).1.aside A e (by decide) _ _).1.aside B e (by decide) _ _).1.aside F e (by decide) _ _).1⟩
theorem SV{j w3:WR}(e:WQ wr j)(l:WQ j w3)(y:Sp.dO i x=W8->i<5->n=(mO x).length/\∃g,p=S ⟨g,0,U⟩/\(K (E j))<=g/\fq w3 g (mO x)):SX i x wr (w3.alloc (D #[J p n cap,H b,Z Y z,f] 154)) (K (E w3)) p n cap b z f:=by
 have u:=e.trans (l.mono e.size);refine⟨u.alloc u.size _,T9 w3 _,λm A=>?_⟩;obtain⟨B,g,F,G,r⟩:=y m A;exact⟨B,g,F,Uc e.size G,r.below (WO.alloc WN _)⟩
theorem Cq{W:WR}{L:Nat}{q:Bool}{F:Nat}(l:pW X w wr i C)(M:i<7)(N:i<Xg X)(u:X.getD i ⟨#[]⟩=x)(hF:SX i x wr W L p n cap b z (lY q F))(m:Sp.dO i x=W8)(P:Sp.dO i x=W8->5<=i->∃k,k<3/\b=qO k/\z=oU k/\lY q F=pQ k/\mO x=[Sp.ft[k]!]):pW X w ((((W.setCell ⟨K (E w),i*4,U⟩ (J p n cap)).setCell ⟨K (E w),i*4+1,U⟩ (H b)).setCell ⟨K (E w),i*4+2,U⟩ (Z Y z)).setCell ⟨K (E w),i*4+3,U⟩ (lY q F)) (i+1) (ue C i (J p n cap) (H b) (Z Y z) (lY q F)):=by
 have y:K (E w)<K (E wr):=(Ug.1 l.prog).1;have Q:W.heap[K (E w)]?=S (D C 157 (0,0)):=(hF.below.block _ y).trans l.prog;have A:=l.below.trans (hF.below.mono l.below.size);obtain⟨R,B⟩:=(l.lines.below hF.below).next (p:=p) (n:=n) (cap:=cap) (b:=b) (z:=z) (F:=F) (q:=q) M Q (λG=>by
  rw[u];obtain⟨T,g,B,s,I⟩:=hF.code m G;exact⟨T,g,B,by omega,I⟩) (λG=>by
   rw[u];obtain⟨k,V,_,h,t,r⟩:=P m G;exact⟨k,V,h,t,r⟩)
 refine⟨by omega,by omega,(((A.setCell (p:=⟨K (E w),i*4,U⟩) WN _).setCell (p:=⟨K (E w),i*4+1,U⟩) WN _).setCell (p:=⟨K (E w),i*4+2,U⟩) WN _).setCell (p:=⟨K (E w),i*4+3,U⟩) WN _,B,?_,R,λj o=>?_⟩
 .have r:=l.words.below hF.below;unfold ia at r ⊢;rw[Uj _ _ _ _ (by simp),Uj _ _ _ _ (by simp),Uj _ _ _ _ (by simp),Uj _ _ _ _ (by simp)];exact r
 .by_cases e:j=i
  .subst e;rw[u];exact m
  .exact l.ok j (by omega)
theorem yo{W:WR}{u:Nat}(l:pW X w wr i C)(y:i<7)(hF:SX i x wr W u p n cap b z f):(∃v,W.cell? ⟨K (E w),i*4,U⟩=S v)/\(∃v,W.cell? ⟨K (E w),i*4+1,U⟩=S v)/\(∃v,W.cell? ⟨K (E w),i*4+2,U⟩=S v)/\(∃v,W.cell? ⟨K (E w),i*4+3,U⟩=S v)/\∀j,W.frozen? ⟨K (E w),j,U⟩=W9:=by
 have m:K (E w)<K (E wr):=(Ug.1 l.prog).1;have e:W.heap[K (E w)]?=S (D C 157 (0,0)):=(hF.below.block _ m).trans l.prog;obtain⟨I,L,r,M,N,P,Q,A,B,F,G⟩:=l.lines.shape i y;refine⟨⟨_,(T5 W _ _ C _ _ e).trans A⟩,⟨_,(T5 W _ _ C _ _ e).trans B⟩,⟨_,(T5 W _ _ C _ _ e).trans F⟩,⟨_,(T5 W _ _ C _ _ e).trans G⟩,λj=>by simp[World.frozen?,e]⟩
theorem uO(X:List WU)(p:Option Addr)(cap:Nat)(w:WR)(hX:Ou w p X)(hl:Xg X<=2001)(hz:∀x∈X,x.size<=2000)(hS:jR w)(hg:et w):WT prog 68 #[J p (Xg X) cap] w (JV X w):=by
 have HX:=cT hX;have HZ:=cT hz;have HS:=cT hS;have HG:=cT hg;clear hX hz hS hg;generalize hO:JV X w=l;replace hO:=cT hO;go_enter func68,ntmps68;go_wp2_with fail;refine(GR _).mono ?_;rintro e w1 ⟨rfl,ag,ah⟩;have ai:WQ w w1:=((T4 _ w).alloc WN _).trans (ag.mono (by simp));have aq:w1.heap[K (E w)]?=S (D AH 157 (0,0)):=(ag.block _ (by simp)).trans (T9 w _);rw[Uv] at ah;have ar:Hid (pW X w w1 0 AH):=⟨by omega,by omega,ai,aq,ah,Qi _ _ _,λj hj=>absurd hj (by omega)⟩
 have au:=(cS HS).below ai (cS HS).lt;clear ag ai aq ah
 iterate 12 (first|go_values|go_skip|go_guarded|go_step|go_upon|(simp only[Int.not_lt,Int.not_le] at *;go_simp))
 refine wp_load_mid 160 (.global 0) O 0 0 O tM _ au underlying160 O (by kernel_rfl) ?_;clear au;go_wp2_with fail
 go_loopw [14] (λu wr=>∃(i:Nat) (C:Array WS),u=Z Y i/\Hid (pW X w wr i C)) (λu _=>7-(intOf u).toNat)
 case atStart=>exact⟨0,AH,rfl,ar⟩
 case round =>
  obtain⟨i,C,rfl,HI⟩:=hrel;clear ar;have av:=(cS HI).i7;have ad:=(cS HI).il;by_cases h7:i<7
  .have c1:(i:Int)<7:=by omega
   have aw:=Mb i h7;obtain⟨nm,ax⟩:∃nm,Hid (nm=qz i):=⟨_,rfl⟩
   obtain⟨ic,ay⟩:∃ic,Hid (ic=decide (i<5)):=⟨_,rfl⟩
   obtain⟨hw,az⟩:∃hw,Hid (hw=(i == 2)):=⟨_,rfl⟩
   rw[<-cS ax,<-cS ay,<-cS az] at aw;by_cases ae:i=Xg X
   .have c2:((i:Int) == (Xg X:Int))=W8:=by rw[ae];exact beq_self_eq_true _
    have m:l (WZ (WX #[WV U,Z Y i,WW W9])) (wr.alloc (D #[H nm,WW ic,WW hw] 159)):=by
     have r:=cS HI;rw[<-cS hO];exact⟨r.below.alloc r.below.size _,i,av,ad,r.ok,Xa ⟨h7,Xa ae,O⟩⟩
    clear ae;go_wp2;exact T8 (v := WX #[WV U,Z Y i,WW W9]) (by simp[results,results68,go_sem]) O m
   .have c2:((i:Int) == (Xg X:Int))=W9:=Uh.2 (by omega);have c3:(i:Int)<(Xg X:Int):=by omega
    have L:i<Xg X:=by omega
    have g0:(0:Int)<=(i:Int):=UF _;have r:=cS HI;obtain⟨g,M,rfl,aA,N⟩:=(cS HX) i L;have af:wr.cell? ⟨g,M+i,U⟩=S (H X[i]):=(r.below.cell (p:=⟨g,M+i,U⟩) aA).trans N;have aB:=(cS HZ) _ (UU L);have aj:X.getD i ⟨#[]⟩=X[i]:=by rw[Uo,Uk L];rfl
    generalize X[i]=x at af aB aj;have ak:=cT aj;have P:g<K (E wr):=Ux aA r.below.size;have aC:(wr.alloc (D #[H nm,WW ic,WW hw] 159)).cell? ⟨g,M+i,U⟩=S (H x):=(((T4 (K (E wr)) wr).alloc WN _).cell (p:=⟨g,M+i,U⟩) P).trans af;have aD:((wr.alloc (D #[H nm,WW ic,WW hw] 159)).alloc (D #[J U 0 0,H ⟨#[]⟩,Z Y 0,.nilFunc] 154)).cell? ⟨g,M+i,U⟩=S (H x):=((((T4 (K (E wr)) wr).alloc WN _).alloc (by simp) _).cell (p:=⟨g,M+i,U⟩) P).trans af;have Q:Hid (WQ wr (wr.alloc (D #[H nm,WW ic,WW hw] 159)).drew):=((T4 (K (E wr)) wr).alloc WN _).drew;have R:Hid (WQ wr ((wr.alloc (D #[H nm,WW ic,WW hw] 159)).alloc (D #[J U 0 0,H ⟨#[]⟩,Z Y 0,.nilFunc] 154)).drew):=(((T4 (K (E wr)) wr).alloc WN _).alloc (by simp) _).drew;have an:Hid (((wr.alloc (D #[H nm,WW ic,WW hw] 159)).alloc (D #[J U 0 0,H ⟨#[]⟩,Z Y 0,.nilFunc] 154)).drew.heap[K (E wr)+1]?=S (D #[J U 0 0,H ⟨#[]⟩,Z Y 0,.nilFunc] 154)):=by
     show _=_
     have h:=T9 (wr.alloc (D #[H nm,WW ic,WW hw] 159)) (D #[J U 0 0,H ⟨#[]⟩,Z Y 0,.nilFunc] 154);rw[Uv] at h;exact h
    have HR:Hid (∀W,WQ wr W->WT prog 110 #[H x,WY #[H nm,WW ic,WW hw],J (S ⟨K (E w)+1,0,U⟩) 25 25] W (nU i x W)):=by
     show ∀W,_
     intro W aE;rw[cS ax,cS ay,cS az];exact wK i h7 x (K (E w)+1) W aB (gL (cS HG) (r.below.trans (aE.mono r.below.size)) (cS HG).lt) (r.words.below aE)
    clear N aj r af P ae;go_upto_region 8 with fail
    go_cut [9,10] (λlp aF wx=>∃(LB:Nat) (p3:Option Addr) (n3 y:Nat) (b3:WU) (z3:Int) (F:Nat),lp=WV (S ⟨LB,0,U⟩)/\aF=WW (Sp.dO i x)/\Hid (SX i x wr wx LB p3 n3 y b3 z3 (lY (fl i x) F))/\Hid (Sp.dO i x=W8->5<=i->∃k,k<3/\b3=qO k/\z3=oU k/\lY (fl i x) F=pQ k/\mO x=[Sp.ft[k]!]))
    case first =>
     cases hq:fl i x with
     |true =>
      go_region_with (go_at_call 110;refine(cS HR _ ?_).mono ?_;(first|exact cS R|exact cS Q);rintro e w3 ⟨G,p3,n3,y,b3,z3,f3,rfl,⟨F,hF⟩,T,V⟩;rw[hq] at hF;subst hF;unfold lY;have t:=cT T;have B:=cT V;have s:=cT G;clear T V;(try (have hk:=(G.block (K (E wr)+1) (by simp)).trans (cS an);obtain⟨k0,k1,k2,k3,I⟩:=xi hk;have f0:=I 0;have f1:=I 1;have f2:=I 2;have f3:=I 3;have HK:=cT hk;clear I hk));clear G)
      all_goals
       go_wp2_with fail
       go_meet
       refine⟨_,p3,n3,y,b3,z3,F,O,O,?_,by rw[hq];exact B⟩;rw[hq]
       first
       |exact RP (cS R) (by simp) (cS s) (cS HK) (cS t)
       |exact SV (cS Q) (cS s) (cS t)
     |false =>
      go_region_with (go_at_call 110;refine(cS HR _ ?_).mono ?_;(first|exact cS R|exact cS Q);rintro e w3 ⟨G,p3,n3,y,b3,z3,f3,rfl,⟨F,hF⟩,T,V⟩;rw[hq] at hF;subst hF;unfold lY;have t:=cT T;have B:=cT V;have s:=cT G;clear T V;(try (have hk:=(G.block (K (E wr)+1) (by simp)).trans (cS an);obtain⟨k0,k1,k2,k3,I⟩:=xi hk;have f0:=I 0;have f1:=I 1;have f2:=I 2;have f3:=I 3;have HK:=cT hk;clear I hk));clear G)
      all_goals
       go_wp2_with fail
       go_meet
       refine⟨_,p3,n3,y,b3,z3,F,O,O,?_,by rw[hq];exact B⟩;rw[hq]
       first
       |exact RP (cS R) (by simp) (cS s) (cS HK) (cS t)
       |exact SV (cS Q) (cS s) (cS t)
    case rest =>
    obtain⟨LB,p3,n3,y,b3,z3,F,rfl,rfl,A,B⟩:=hcut;clear R Q an HR aC aD aw;cases ao:Sp.dO i x with
    |true =>
     cases hq:fl i x with
     |true =>
      rw[hq] at A B;obtain⟨k0,k1,k2,k3,I⟩:=xi (cS A).cells;obtain⟨⟨v0,m0⟩,⟨v1,m1⟩,⟨v2,m2⟩,⟨v3,m3⟩,o⟩:=yo (cS HI) h7 (cS A);have j0:=o (i*4);have j1:=o (i*4+1);have j2:=o (i*4+2);have j3:=o (i*4+3);have aa:=cT (Cq (F:=F) (q:=true) (cS HI) h7 L (cS ak) (cS A) ao (cS B));unfold lY at aa k3;clear I o;go_wp2_with fail
      go_region
      all_goals
       go_wp2;go_roundw
       case rel=>exact⟨i+1,_,by go_num,pW.drew aa⟩
       case measure=>simp[intOf];omega
     |false =>
      rw[hq] at A B;obtain⟨k0,k1,k2,k3,I⟩:=xi (cS A).cells;obtain⟨⟨v0,m0⟩,⟨v1,m1⟩,⟨v2,m2⟩,⟨v3,m3⟩,o⟩:=yo (cS HI) h7 (cS A);have j0:=o (i*4);have j1:=o (i*4+1);have j2:=o (i*4+2);have j3:=o (i*4+3);have aa:=cT (Cq (F:=F) (q:=false) (cS HI) h7 L (cS ak) (cS A) ao (cS B));unfold lY at aa k3;clear I o;go_wp2_with fail
      go_region
      all_goals
       go_wp2;go_roundw
       case rel=>exact⟨i+1,_,by go_num,pW.drew aa⟩
       case measure=>simp[intOf];omega
    |false =>
     have m:l (WZ (WX #[WV U,Z Y i,WW W9])) wc:=by
      have r:=cS HI;rw[<-cS hO];exact⟨r.below.trans ((cS A).below.mono r.below.size),i,av,ad,r.ok,Xa ⟨h7,Xb ⟨L,by rw[cS ak];exact ao⟩,O⟩⟩
     go_wp2;exact T8 (v := WX #[WV U,Z Y i,WW W9]) (by simp[results,results68,go_sem]) O m
  .have e7:i=7:=by omega
   subst e7;have r:=cS HI;by_cases ab:Xg X=7
   .have c2:((Xg X:Int) == 7)=W8:=by rw[ab];rfl
    have m:l (WZ (WX #[WV (S ⟨K (E w),0,U⟩),Z Y 7,WW W8])) wr:=by
     rw[<-cS hO];exact⟨r.below,7,by omega,ad,r.ok,Xb (Xb ⟨O,ab,K (E w),C,TY _,O,r.prog,r.lines⟩)⟩
    clear ab r;go_wp2;exact T8 (v := WX #[WV (S ⟨K (E w),0,U⟩),Z Y 7,WW W8]) (by simp[results,results68,go_sem]) O m
   .have c2:((Xg X:Int) == 7)=W9:=Uh.2 (by omega);have m:l (WZ (WX #[WV (S ⟨K (E w),0,U⟩),Z Y 7,WW W9])) wr:=by
     rw[<-cS hO];exact⟨r.below,7,by omega,ad,r.ok,Xb (Xa ⟨O,ab,_,O⟩)⟩
    clear ab r;go_wp2;exact T8 (v := WX #[WV (S ⟨K (E w),0,U⟩),Z Y 7,WW W9]) (by simp[results,results68,go_sem]) O m
end
section
theorem DO(G I L M N P Q R T V b e a12 j l m r u y z a20 a21 a22 A a24 B C F:WS)(W:WR):(i:Nat)->i<7->∃X k x q,(Instr.index 155 (WY #[G,I,L,M,N,P,Q,R,T,V,b,e,a12,j,l,m,r,u,y,z,a20,a21,a22,A,a24,B,C,F]) (Z Y i)).run prog W=.ok (WY #[X,k,x,q]) W/\#[G,I,L,M,N,P,Q,R,T,V,b,e,a12,j,l,m,r,u,y,z,a20,a21,a22,A,a24,B,C,F][i*4]?=S X/\#[G,I,L,M,N,P,Q,R,T,V,b,e,a12,j,l,m,r,u,y,z,a20,a21,a22,A,a24,B,C,F][i*4+1]?=S k/\#[G,I,L,M,N,P,Q,R,T,V,b,e,a12,j,l,m,r,u,y,z,a20,a21,a22,A,a24,B,C,F][i*4+2]?=S x/\#[G,I,L,M,N,P,Q,R,T,V,b,e,a12,j,l,m,r,u,y,z,a20,a21,a22,A,a24,B,C,F][i*4+3]?=S q
 |0,_=>⟨_,_,_,_,by kernel_rfl,rfl,rfl,rfl,rfl⟩
 |1,_=>⟨_,_,_,_,by kernel_rfl,rfl,rfl,rfl,rfl⟩
 |2,_=>⟨_,_,_,_,by kernel_rfl,rfl,rfl,rfl,rfl⟩
 |3,_=>⟨_,_,_,_,by kernel_rfl,rfl,rfl,rfl,rfl⟩
 |4,_=>⟨_,_,_,_,by kernel_rfl,rfl,rfl,rfl,rfl⟩
 |5,_=>⟨_,_,_,_,by kernel_rfl,rfl,rfl,rfl,rfl⟩
 |6,_=>⟨_,_,_,_,by kernel_rfl,rfl,rfl,rfl,rfl⟩
 |n+7,h=>absurd h (by omega)
variable {i:Nat}
theorem J6{C:Array WS}(R:C.size=28)(hi:i<7){Q c1 c2 c3:WS}(T:C[i*4]?=S Q)(h1:C[i*4+1]?=S c1)(h2:C[i*4+2]?=S c2)(V:C[i*4+3]?=S c3)(W:WR):(Instr.index 155 (WY C) (Z Y i)).run prog W=.ok (WY #[Q,c1,c2,c3]) W:=by
 obtain⟨l⟩:=C
 match l,R with
 |[X,k,x,q,h,f,t,p,o,n,r,u,a12,y,z,A,B,F,G,I,a20,a21,a22,L,a24,M,N,P],_ =>
  obtain⟨b0,b1,b2,b3,g,b,e,j,m⟩:=DO X k x q h f t p o n r u a12 y z A B F G I a20 a21 a22 L a24 M N P W i hi;rw[T] at b;rw[h1] at e;rw[h2] at j;rw[V] at m;injection b with b;injection e with e;injection j with j;injection m with m;rw[b,e,j,m];exact g
def Ar(s:WU)(w:WR)(e:Ending)(w':WR):Prop:=WQ w w'/\∃b,e=WZ (WX #[WV b,Z Y (Sp.comp s).1,Z Y (Sp.comp s).2])/\
  ((Sp.comp s).1=0->∃P C,b=S ⟨P,0,U⟩/\(K (E w))<=P/\w'.heap[P]?=S (D C 157 (0,0))/\mE (Sp.split s 10) w' P C 7/\(Sp.split s 10).length=7)
variable {s:WU}
theorem ny{w w':WR}{a b:Int}{e:Option Addr}(h:Sp.comp s=(a,b))(ha:a≠0)(hb:WQ w w'): Ar s w (WZ (WX #[WV e,Z Y a,Z Y b])) w':=⟨hb,e,by rw[h],λj=>by rw[h] at j;exact absurd j ha⟩
theorem Im(y:s.size<=2000)(z:i<7)(r:i<=(Sp.split s 10).length)(b:∀j,j<i->Sp.dO j ((Sp.split s 10).getD j ⟨#[]⟩)=W8)(l:i=(Sp.split s 10).length\/(i<(Sp.split s 10).length/\Sp.dO i ((Sp.split s 10).getD i ⟨#[]⟩)=W9)): Sp.comp s=(3,(i:Int)):=by
 unfold Sp.comp;rw[TZ (by omega)];rcases l with l|⟨u,e⟩
 .rw[Sp.ja (λj m=>by rw[b j (by omega)];rfl)];simp only;rw[TZ (by omega),T0 (by omega),l]
 .rw[Sp.nZ (k:=i) (by omega) (λj m=>by rw[b j m];rfl) (by rw[e];rfl)]
theorem Hn(e:s.size<=2000)(l:7<(Sp.split s 10).length)(b:∀j,j<7->Sp.dO j ((Sp.split s 10).getD j ⟨#[]⟩)=W8): Sp.comp s=(3,7):=by
 unfold Sp.comp;rw[TZ (by omega),Sp.ja (λj m=>by rw[b j (by omega)];rfl)];simp only;rw[T0 (by omega)]
theorem K4(s:WU)(j:Nat):decide (Sp.zZ (Sp.codeOf s j) (Sp.codeOf s j).length 0 (Sp.codeOf s j).length 0≠S 1) = !Sp.keeps (mO ((Sp.split s 10).getD j ⟨#[]⟩)):=by
 show _ = !decide (Sp.zZ (Sp.codeOf s j) (Sp.codeOf s j).length 0 (Sp.codeOf s j).length 0=S 1)
 rw[decide_not]
theorem uX(u:s.size<=2000)(y:(Sp.split s 10).length=7)(b:∀j,j<7->Sp.dO j ((Sp.split s 10).getD j ⟨#[]⟩)=W8)(l:i<5)(m:∀j,j<i->j<5->Sp.keeps (mO ((Sp.split s 10).getD j ⟨#[]⟩))=W8)(r:Sp.keeps (mO ((Sp.split s 10).getD i ⟨#[]⟩))=W9): Sp.comp s=(7,(i:Int)):=by
 unfold Sp.comp;rw[TZ (by omega),Sp.ja (λj e=>by rw[b j (by omega)];rfl)];simp only;rw[TZ (by omega),TZ (by omega),Sp.nZ (k:=i) l (λj e=>by rw[K4,m j e (by omega)];rfl) (by rw[K4,r];rfl)]
theorem ME(m:s.size<=2000)(r:(Sp.split s 10).length=7)(b:∀j,j<7->Sp.dO j ((Sp.split s 10).getD j ⟨#[]⟩)=W8)(l:∀j,j<5->Sp.keeps (mO ((Sp.split s 10).getD j ⟨#[]⟩))=W8): Sp.comp s=(0,0):=by
 unfold Sp.comp;rw[TZ (by omega),Sp.ja (λj e=>by rw[b j (by omega)];rfl)];simp only;rw[TZ (by omega),TZ (by omega),Sp.ja (λj e=>by rw[K4,l j e];rfl)]
theorem Mv:(i:Nat)->i<7->tM[i*3+1]?=S (WW (decide (i<5)))
 |0,_=>rfl
 |1,_=>rfl
 |2,_=>rfl
 |3,_=>rfl
 |4,_=>rfl
 |5,_=>rfl
 |6,_=>rfl
 |n+7,h=>absurd h (by omega)
theorem Fc{w:WR}{P g:Nat}{C:Array WS}{u:TypeId}{p:WS}(F:s.size<=2000)(G:i<5)(b:Sp.dO i ((Sp.split s 10).getD i ⟨#[]⟩)=W8)(z:fq w g (mO ((Sp.split s 10).getD i ⟨#[]⟩)))(A:i<(Sp.split s 10).length)(he:w.cell? ⟨5,0,U⟩=S (.iface u p)): JL w g (mO ((Sp.split s 10).getD i ⟨#[]⟩)) u p:=by
 have I:((Sp.split s 10).getD i ⟨#[]⟩).size<=2000:=by
  rw[Uo,Uk A];exact Uc (Sp.rR s 10 _ (UU A)) F
 generalize (Sp.split s 10).getD i ⟨#[]⟩=x at *;have e:(mO x).length<=4000:=by
  unfold mO Sp.ws;have:=(Sp.jq x 32).2;simp only[UX,List.length_tail];omega
 unfold Sp.dO at b;rw[V6,TZ (by omega),V6] at b;have m:Sp.kh (i == 2) (mO x) 0=W8:=b.2.1;have y:Sp.kh W8 (mO x) 0=W8:=by
  cases r:(i == 2) with
  |true=>rw[r] at m;exact m
  |false=>rw[r] at m;exact Sp.uQ _ _ m
 have j:0<(mO x).length:=by
  have B:=b.2.2;unfold mO;cases r:(Sp.ws x).tail with
  |nil=>rw[r] at B;simp at B
  |cons a l=>simp
 exact⟨⟨z.lt,z.fn⟩,e,j,y,he,Ui w _ he⟩
theorem DD(s:WU)(w:WR)(b:2000<s.size):WT prog 38 #[H s] w (Ar s w):=by
 have j:(2000:Int)<(s.size:Int):=by omega
 have e:Hid (Sp.comp s=(1,0)):=by show _=_;unfold Sp.comp;rw[T0 b]
 go_enter func38,ntmps38;go_wp2;exact T8 (v := WX #[WV U,Z Y 1,Z Y 0]) (by simp[results,results38,go_sem]) O (ny (cS e) (by decide) WO)
theorem B3(s:WU)(w:WR)(hs:s.size<=2000)(hS:jR w)(hg:et w)(u:TypeId)(p:WS)(he:w.cell? ⟨5,0,U⟩=S (.iface u p)):WT prog 38 #[H s] w (Ar s w):=by
 have hz:¬(2000:Int)<(s.size:Int):=by omega
 have au:=Sp.jq s 10;have af:=cT he;have ag:=cT hS;generalize hO:Ar s w=b;replace hO:=cT hO;clear he hS;go_enter func38,ntmps38;go_wp2_with fail;refine(yW s _ (by omega) hg).mono ?_;rintro e w1 ⟨rfl,ah⟩;have r:WQ w w1:=by rw[ah];exact WO.alloc WN _
 have R:Ou w1 (S ⟨K (E w),0,U⟩) (Sp.split s 10):=by rw[ah];exact xz w _
 clear ah;go_wp2_with fail;refine(uO (Sp.split s 10) _ _ _ R (by omega) (λx hx=>Uc (Sp.rR s 10 x hx) hs) ((cS ag).below r (cS ag).lt) (gL hg r hg.lt)).mono ?_;rintro e t ⟨T,i,aE,av,V,⟨h7,hc,rfl⟩|⟨e7,aC,P,rfl⟩|⟨e7,aw,P,C,hP,rfl,ai,aj⟩⟩
 .have B:b (WZ (WX #[WV U,Z Y 3,Z Y i])) t:=by
   rw[<-cS hO];exact ny (Im hs h7 av V hc) (by decide) (r.trans (T.mono r.size))
  clear hc V R r T;go_wp2;exact T8 (v := WX #[WV U,Z Y 3,Z Y i]) (by simp[results,results38,go_sem]) O B
 .subst e7;have B:b (WZ (WX #[WV U,Z Y 3,Z Y 7])) t:=by
   rw[<-cS hO];exact ny (Hn hs (by omega) V) (by decide) (r.trans (T.mono r.size))
  clear aC V R r T;go_wp2;exact T8 (v := WX #[WV U,Z Y 3,Z Y 7]) (by simp[results,results38,go_sem]) O B
 .subst e7;have y:=r.trans (T.mono r.size);have g:=cT V;have aa:=cT aj;have ax:=cT ai;have W:=cT aw;have ay:(prog.info? 155).map (·.size)=S C.size:=by rw[aj.size];kernel_rfl
  have A:=cT y;have az:=r.size;clear V aj R r T aw av au y;go_upto_region 6 with fail
  iterate 11 (first|go_values|go_skip|go_guarded|go_step|go_upon|(simp only[Int.not_lt,Int.not_le] at *;go_simp))
  refine wp_load_row 155 (.tmp 25) O P O 157 C (0,0) _ ai underlying155 O ay ?_;clear ai ay;go_wp2_with fail
  go_loopw [27] (λv wr=>∃i:Nat,i<=7/\v=Z Y i/\WQ t wr/\Hid (∀j,j<i->j<5->Sp.keeps (mO ((Sp.split s 10).getD j ⟨#[]⟩))=W8)) (λv _=>7-(intOf v).toNat)
  case atStart=>exact⟨0,by omega,rfl,T4 _ _,λj hj=>absurd hj (by omega)⟩
  case round =>
   obtain⟨i,hi,rfl,X,HK⟩:=hrel;by_cases h7:i<7
   .have c1:(i:Int)<7:=by omega
    have g0:(0:Int)<=(i:Int):=UF _;obtain⟨p4,o,l,b4,z4,q4,F4,d0,d1,d2,d3⟩:=(cS aa).shape i h7;have F:=(cS A).trans (X.mono (cS A).size);have I:=(cS ag).below F (cS ag).lt;have L:=I (i*3+1) _ (Mv i h7);rw[UA] at L;have aA:=J6 (cS aa).size h7 d0 d1 d2 d3;cases q4 with
    |true =>
     unfold lY at d3 aA;have G:(wr.alloc (D #[J p4 o l,H b4,Z Y z4,.func (.func F4) #[] #[]] 154)).cell? ⟨0,i*3+1,U⟩=S (WW (decide (i<5))):=(((T4 (K (E wr)) wr).alloc WN _).cell (p:=⟨0,i*3+1,U⟩) I.lt).trans L;have m:Hid (WQ t (wr.alloc (D #[J p4 o l,H b4,Z Y z4,.func (.func F4) #[] #[]] 154))):=X.alloc X.size _;by_cases h5:i<5
     .rw[UH h5] at G;obtain⟨g4,aB,e0,ak,ab⟩:=(cS aa).code i h7 h5;rw[d0] at e0;injection e0 with e0;injection e0 with e1 e2 e3;subst e1;obtain⟨q,M⟩:∃q,Hid (Sp.keeps (mO ((Sp.split s 10).getD i ⟨#[]⟩))=q):=⟨_,rfl⟩
      have ad:Hid (WT prog 70 #[J (S ⟨g4,0,U⟩) o l] (wr.alloc (D #[J (S ⟨g4,0,U⟩) o l,H b4,Z Y z4,.func (.func F4) #[] #[]] 154)) λe w'=>e=WZ (WW q)/\Below (wr.alloc (D #[J (S ⟨g4,0,U⟩) o l,H b4,Z Y z4,.func (.func F4) #[] #[]] 154)).heap.size (wr.alloc (D #[J (S ⟨g4,0,U⟩) o l,H b4,Z Y z4,.func (.func F4) #[] #[]] 154)) w'):=by
       have ae:=(cS A).trans ((cS m).mono (cS A).size);rw[e2,<-cS M];rw[e2] at ae m;refine pr _ g4 l u p _ (Fc (P:=P) (C:=C) hs h5 (cS g i h7) (ab.below (cS m)) (by rw[cS W];omega) ?_);exact(ae.cell (p:=⟨5,0,U⟩) (Ui w _ (cS af))).trans (cS af)
      have an:Hid (q=W9->∀w',WQ t w'->b (WZ (WX #[WV U,Z Y 7,Z Y i])) w'):=by
       show q=W9->_
       intro ao w' aq;rw[<-cS hO];have y:=cS A;exact ny (uX hs (cS W) (cS g) h5 (cS HK) ((cS M).trans ao)) (by decide) (y.trans (aq.mono y.size))
      clear d0 d1 d2 d3 I F L X e2 e3 ab ak;cases q with
      |true =>
       go_wp2_with (first|(go_at_call 70;go_must (refine(cS ad).mono ?_;rintro e w5 ⟨rfl,z⟩;have N:=cT z;clear z))|go_in);go_roundw
       case rel=>exact⟨i+1,by omega,by go_num,(cS m).trans ((cS N).mono (cS m).size),λj hj Q=>if h:j=i then h ▸ cS M else cS HK j (by omega) Q⟩
       case measure=>simp[intOf];omega
      |false =>
       go_wp2_with (first|(go_at_call 70;go_must (refine(cS ad).mono ?_;rintro e w5 ⟨rfl,z⟩;have N:=cT z;clear z))|go_in);exact T8 (v := WX #[WV U,Z Y 7,Z Y i]) (by simp[results,results38,go_sem]) O (cS an (by trivial) _ ((cS m).trans ((cS N).mono (cS m).size)))
     .rw[Uu h5] at G;clear d0 d1 d2 d3 I F L X;go_wp2;go_roundw
      case rel=>exact⟨i+1,by omega,by go_num,cS m,λj hj Q=>cS HK j (by omega) Q⟩
      case measure=>simp[intOf];omega
    |false =>
     unfold lY at d3 aA;have G:(wr.alloc (D #[J p4 o l,H b4,Z Y z4,.nilFunc] 154)).cell? ⟨0,i*3+1,U⟩=S (WW (decide (i<5))):=(((T4 (K (E wr)) wr).alloc WN _).cell (p:=⟨0,i*3+1,U⟩) I.lt).trans L;have m:Hid (WQ t (wr.alloc (D #[J p4 o l,H b4,Z Y z4,.nilFunc] 154))):=X.alloc X.size _;by_cases h5:i<5
     .rw[UH h5] at G;obtain⟨g4,aB,e0,ak,ab⟩:=(cS aa).code i h7 h5;rw[d0] at e0;injection e0 with e0;injection e0 with e1 e2 e3;subst e1;obtain⟨q,M⟩:∃q,Hid (Sp.keeps (mO ((Sp.split s 10).getD i ⟨#[]⟩))=q):=⟨_,rfl⟩
      have ad:Hid (WT prog 70 #[J (S ⟨g4,0,U⟩) o l] (wr.alloc (D #[J (S ⟨g4,0,U⟩) o l,H b4,Z Y z4,.nilFunc] 154)) λe w'=>e=WZ (WW q)/\Below (wr.alloc (D #[J (S ⟨g4,0,U⟩) o l,H b4,Z Y z4,.nilFunc] 154)).heap.size (wr.alloc (D #[J (S ⟨g4,0,U⟩) o l,H b4,Z Y z4,.nilFunc] 154)) w'):=by
       have ae:=(cS A).trans ((cS m).mono (cS A).size);rw[e2,<-cS M];rw[e2] at ae m;refine pr _ g4 l u p _ (Fc (P:=P) (C:=C) hs h5 (cS g i h7) (ab.below (cS m)) (by rw[cS W];omega) ?_);exact(ae.cell (p:=⟨5,0,U⟩) (Ui w _ (cS af))).trans (cS af)
      have an:Hid (q=W9->∀w',WQ t w'->b (WZ (WX #[WV U,Z Y 7,Z Y i])) w'):=by
       show q=W9->_
       intro ao w' aq;rw[<-cS hO];have y:=cS A;exact ny (uX hs (cS W) (cS g) h5 (cS HK) ((cS M).trans ao)) (by decide) (y.trans (aq.mono y.size))
      clear d0 d1 d2 d3 I F L X e2 e3 ab ak;cases q with
      |true =>
       go_wp2_with (first|(go_at_call 70;go_must (refine(cS ad).mono ?_;rintro e w5 ⟨rfl,z⟩;have N:=cT z;clear z))|go_in);go_roundw
       case rel=>exact⟨i+1,by omega,by go_num,(cS m).trans ((cS N).mono (cS m).size),λj hj Q=>if h:j=i then h ▸ cS M else cS HK j (by omega) Q⟩
       case measure=>simp[intOf];omega
      |false =>
       go_wp2_with (first|(go_at_call 70;go_must (refine(cS ad).mono ?_;rintro e w5 ⟨rfl,z⟩;have N:=cT z;clear z))|go_in);exact T8 (v := WX #[WV U,Z Y 7,Z Y i]) (by simp[results,results38,go_sem]) O (cS an (by trivial) _ ((cS m).trans ((cS N).mono (cS m).size)))
     .rw[Uu h5] at G;clear d0 d1 d2 d3 I F L X;go_wp2;go_roundw
      case rel=>exact⟨i+1,by omega,by go_num,cS m,λj hj Q=>cS HK j (by omega) Q⟩
      case measure=>simp[intOf];omega
   .have e7:i=7:=by omega
    subst e7;have B:b (WZ (WX #[WV (S ⟨P,0,U⟩),Z Y 0,Z Y 0])) wr:=by
     rw[<-cS hO];have y:=cS A;have ar:=ME hs (cS W) (cS g) (λj hj=>cS HK j (by omega) hj);have aD:=(Ug.1 (cS ax)).1;refine⟨y.trans (X.mono y.size),S ⟨P,0,U⟩,by rw[ar],λ_=>⟨P,C,O,Uc az hP,(X.block P aD).trans (cS ax),(cS aa).below X,cS W⟩⟩
    clear X;go_wp2;exact T8 (v := WX #[WV (S ⟨P,0,U⟩),Z Y 0,Z Y 0]) (by simp[results,results38,go_sem]) O B
end
end Go.Proofs.YtgkkdpegcieakaaGreatDoor
