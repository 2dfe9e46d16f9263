import Derived.Test.YtgkkdpegcieakaaGreatDoorCz09
set_option linter.unusedVariables false
set_option linter.unusedSimpArgs false
set_option maxRecDepth 100000
set_option maxHeartbeats 16000000
namespace Go.Proofs.YtgkkdpegcieakaaGreatDoor
open Go.Proofs.Tryz
open Value renaming int→Z
open IntKind renaming i64→Y
open Go renaming World→TJ,Value→TK,Calls→TL
section
open Go.RowKit
structure fq (w:TJ) (g:Nat) (L:List (List UInt8)):Prop where
 lt:g<w.heap.size
 fn:∀i (hi:i<L.length),∃fv,w.cell? ⟨g,i*2,none⟩=some fv/\Fn w w.heap.size L[i] fv
 tS:∃ms,Sp.fB L L.length=some (ms,[])/\∀i,i<L.length->w.cell? ⟨g,i*2+1,none⟩=some (Z Y ((ms.getD i 0:Nat):Int))
variable {g:Nat}{L:List (List UInt8)}{w' w:TJ}
theorem fq.below(h:fq w g L)(hb:TI w w'): fq w' g L:=by
 obtain⟨b,e,j⟩:=h.tS;refine⟨dT h.lt hb.size,λi hi=>?_,b,e,λi hi=>(hb.cell (p:=⟨g,i*2+1,none⟩) h.lt).trans (j i hi)⟩;obtain⟨l,m,r⟩:=h.fn i hi;exact⟨l,(hb.cell (p:=⟨g,i*2,none⟩) h.lt).trans m,r.below hb⟩
theorem Nz(L:List (List UInt8)):∀(k:Nat) (m o:List Nat),Sp.fB L k=some (m,o)->m.length=k:=by
 intro k
 induction k with
 |zero=>intro b e h;simp[Sp.fB] at h;obtain⟨rfl,_⟩:=h;rfl
 |succ k j =>
  intro b e h;simp only[Sp.fB] at h;split at h
  .cases h
  .rename_i r u l;rw[(Sp.uv h).1,j _ _ l]
theorem Ks{B cap:Nat}{b:List TK}{e:List Nat}(l:w.ownsRow B 289 2 (.slice (some ⟨g,0,none⟩) L.length cap) L.length (cz b e))(u:b.length=L.length)(m:Sp.fB L L.length=some (e,[]))(r:∀j (y:j<L.length),Fn w w.heap.size L[j] (b.getD j .nilFunc)): fq w g L:=by
 have z:=Nz L _ _ _ m;refine⟨(l.lt g rfl).2,λi hi=>⟨b.getD i .nilFunc,?_,r i hi⟩,e,m,λi hi=>?_⟩
 .rw[l.cellAt (i*2) (by omega),Qa _ _ _ (by omega),cL,cH (by omega)];rfl
 .rw[l.cellAt (i*2+1) (by omega),Lh _ _ _ (by omega),cL,cH (by omega)];rfl
theorem fq.aside{P t:Nat}{C:Array TK}(h:fq w g L)(l:w.heap[P]?=some (.cells C t (0,0)))(u:P<g)(ht:t≠2)(j:Nat)(v:TK): fq (w.setCell ⟨P,j,none⟩ v) g L/\(w.setCell ⟨P,j,none⟩ v).heap[P]?=some (.cells (C.setIfInBounds j v) t (0,0)):=by
 have m:∀k,k≠P->(w.setCell ⟨P,j,none⟩ v).heap[k]?=w.heap[k]?:=λk y=>cG _ _ _ _ y
 have r:∀o,(w.setCell ⟨P,j,none⟩ v).cell? ⟨g,o,none⟩=w.cell? ⟨g,o,none⟩:=λo=>by simp only[World.cell?,m g (by omega)]
 obtain⟨z,A,D⟩:=h.tS;refine⟨⟨by simpa using h.lt,λi hi=>?_,z,A,λi hi=>(r _).trans (D i hi)⟩,eJ l v⟩;obtain⟨E,F,f2⟩:=h.fn i hi;refine⟨E,(r _).trans F,?_⟩;rcases f2 with ⟨B,n,G,H,b,I⟩|f2
 .refine Or.inl ⟨B,n,by simpa using G,H,(m B ?_).trans b,I⟩;intro e;subst e;unfold j4 at b;rw[l] at b;injection b with b;injection b with _ J;exact ht J
 .exact Or.inr f2
def mQ(x:TM):List (List UInt8):=(Sp.ws x).tail.map (·.data.toList)
def fl(i:Nat)(x:TM):Bool:=decide (5<=i/\(Sp.hd i++[32]) <+: x.data.toList/\(mQ x).headD []∈Sp.fj)
def l7:Bool->Nat->TK
 |false,_=>.nilFunc
 |true,F=>.func (.func F) #[] #[]
variable {i:Nat}{x:TM}
theorem Ex(h:i<5): fl i x=false:=df (λb=>by omega)
theorem Nw(h:¬(Sp.hd i++[32]) <+: x.data.toList): fl i x=false:=df (λb=>h b.2.1)
def od(i:Nat)(x:TM)(w:TJ)(e:Ending)(w':TJ):Prop:=TI w w'/\∃p n j b z f,e=.returned (.tuple #[.agg #[.slice p n j,.string b,Z Y z,f],.bool (Sp.dN i x)])/\(∃F,f=l7 (fl i x) F)/\
  (Sp.dN i x=true->i<5->n=(mQ x).length/\∃g,p=some ⟨g,0,none⟩/\w.heap.size<=g/\fq w' g (mQ x))/\
  (Sp.dN i x=true->5<=i->∃k,k<3/\b=rM k/\z=oP k/\f=pT k/\mQ x=[Sp.fj[k]!])
theorem wy{G t:Nat}{b c1 c2 c3:TK}(h:w.heap[G]?=some (.cells #[b,c1,c2,c3] t)):w.cell? ⟨G,0,none⟩=some b/\w.cell? ⟨G,1,none⟩=some c1/\w.cell? ⟨G,2,none⟩=some c2/\w.cell? ⟨G,3,none⟩=some c3/\∀j,w.frozen? ⟨G,j,none⟩=false:=⟨by simp[World.cell?,h],by simp[World.cell?,h],by simp[World.cell?,h],by simp[World.cell?,h],λj=>by simp[World.frozen?,h]⟩
theorem gJ{B:Nat}(h:eA w)(hb:Below B w w')(b:7<B): eA w':=by
 obtain⟨m,e⟩:=h;exact⟨m,(hb.cell (p:=⟨7,0,none⟩) b).trans e⟩
theorem eA.lt(h:eA w): 7<w.heap.size:=by
 obtain⟨m,b⟩:=h;exact cE w _ b
theorem Mu{p:Option Addr}{n cap:Nat}{b:TM}{z:Int}{f:TK}(hi:i<7)(hb:TI w w')(e:Sp.dN i x=false)(j:∃F,f=l7 (fl i x) F):od i x w (.returned (.tuple #[.agg #[.slice p n cap,.string b,Z Y z,f],.bool false])) w':=by
 refine⟨hb,p,n,cap,b,z,f,by rw[e],j,?_,?_⟩
 .intro h;rw[e] at h;cases h
 .intro h;rw[e] at h;cases h
theorem wh(i:Nat)(x nm:TM)(b:Nat)(w:TJ)(hi:i<5)(hx:x.size<=2000)(hn:nm.size<=10)(ar:nm.data.toList++[58]=Sp.hd i)(hg:eA w)(hW:gX b w):TL prog 110 #[.string x,.agg #[.string nm,.bool true,.bool (i == 2)],.slice (some ⟨b,0,none⟩) 25 25] w (od i x w):=by
 have t:nm.data.toList++[58,32]=Sp.hd i++[32]:=by rw[<-ar];simp
 have s:=cP (λ(hk:Sp.dN i x=false) (w':TJ) (hb:TI w w') (p:Option Addr) (n cap:Nat)=>Mu (p:=p) (n:=n) (cap:=cap) (b:=⟨#[]⟩) (z:=0) (f := .nilFunc) (by omega) hb hk ⟨0,by rw[Ex hi];rfl⟩);have o:=cP (λ(hk:Sp.dN i x=true) (w':TJ) (hb:TI w w') (g cap:Nat) (hg:w.heap.size<=g) (hc:fq w' g (mQ x))=>(show od i x w (.returned (.tuple #[.agg #[.slice (some ⟨g,0,none⟩) (mQ x).length cap,.string ⟨#[]⟩,Z Y 0,.nilFunc],.bool true])) w' from ⟨hb,_,_,_,_,_,_,by rw[hk],⟨0,by rw[Ex hi];rfl⟩,λ_ _=>⟨rfl,g,rfl,hg,hc⟩,λ_ h5=>absurd h5 (by omega)⟩));have aa:=cP (λ(rest:TM) (h:x.data.toList=Sp.hd i++32::rest.data.toList)=>Sp.BB (i:=i) hi h);have au:=cP (λ(h:¬(Sp.hd i++[32]) <+: x.data.toList)=>Sp.xw (i:=i) (by omega) h);have av:=cP (λ(rest:TM) (h:x.data.toList=Sp.hd i++32::rest.data.toList)=>(Sp.ud (i:=i) (by omega) h).1);generalize od i x w=O at *;have ab:=cP (λw0 (aw:eA w0)=>pZ x nm w0 hx hn aw);rw[t] at ab;generalize ax:(i == 2)=T at aa ⊢;clear ax;go_enter func110,ntmps110;go_wp2_with fail;have G:TI w ((w.alloc (.cells #[.string nm,.bool true,.bool T] 159)).alloc (.cells #[.slice none 0 0,.string ⟨#[]⟩,Z Y 0,.nilFunc] 154)):=((cj _ w).alloc TG _).alloc (by simp) _;have U:((w.alloc (.cells #[.string nm,.bool true,.bool T] 159)).alloc (.cells #[.slice none 0 0,.string ⟨#[]⟩,Z Y 0,.nilFunc] 154)).heap[w.heap.size]?=some (.cells #[.string nm,.bool true,.bool T] 159):=by
  rw[cN _ _ _ (by simp)];exact ct w _
 have P:((w.alloc (.cells #[.string nm,.bool true,.bool T] 159)).alloc (.cells #[.slice none 0 0,.string ⟨#[]⟩,Z Y 0,.nilFunc] 154)).heap[w.heap.size+1]?=some (.cells #[.slice none 0 0,.string ⟨#[]⟩,Z Y 0,.nilFunc] 154):=by
  rw[<-ee w (.cells #[.string nm,.bool true,.bool T] 159)];exact ct _ _
 refine(cO ab _ (gJ hg G hg.lt)).mono ?_;rintro e w1 ⟨H,⟨hp,p,n,cap,rfl⟩|⟨rest,az,J,g,aA,rfl,Q⟩⟩
 .have r:=G.trans (H.mono G.size);have B:=(H.block (w.heap.size+1) (by simp)).trans P;obtain⟨k0,k1,k2,k3,E⟩:=wy B;have f0:=E 0;have f1:=E 1;have f2:=E 2;have f3:=E 3;have u:=cO s (cO au hp) _ ((((r.setCell (p:=⟨w.heap.size+1,0,none⟩) (by simp) (.slice none 0 0)).setCell (p:=⟨w.heap.size+1,1,none⟩) (by simp) (.string ⟨#[]⟩)).setCell (p:=⟨w.heap.size+1,2,none⟩) (by simp) (Z Y 0)).setCell (p:=⟨w.heap.size+1,3,none⟩) (by simp) .nilFunc) none 0 0;clear G U P H B r E hp;go_wp2;refine cr (v := .tuple #[.agg #[.slice none 0 0,.string ⟨#[]⟩,Z Y 0,.nilFunc],.bool false]) ?_ rfl u;simp[results,results110,go_sem,k0,k1,k2,k3]
 .have r:=G.trans (H.mono G.size);have B:=(H.block (w.heap.size+1) (by simp)).trans P;have ad:=(H.block w.heap.size (by simp <;> omega)).trans U;obtain⟨s0,s1,s2,sf⟩:=Cy ad;have D:x.data.toList=Sp.hd i++32::rest.data.toList:=by rw[J];simp
  have R:=Sp.jk rest 32;have ae:=cP (yO (Sp.split rest 32) (some ⟨g,0,none⟩) (Sp.split rest 32).length b T w1 Q (by omega) R.1 (λy hy=>cx (Sp.r9 rest 32 y hy) (by omega)) (hW.below r));have af:=cO aa rest D;have ag:=cO av rest D;have ah:mQ x=fH (Sp.split rest 32):=by unfold mQ fH;rw[ag]
  have S:Hid (Sp.dN i x=Sp.kh T (fH (Sp.split rest 32)) 0):=af;have ai:=cP ah;clear G U P H sf ad Q af ag ah J D R;generalize aj:(Sp.split rest 32).length=N at ae ⊢;have aB:=cP aj;clear aj;go_wp2_with fail;refine(cO ae).mono ?_;rintro e w2 ⟨I,⟨K,q,A,fs,ms,rfl,V,ak,an,ao,aq⟩|⟨K,p2,n2,A,rfl⟩⟩
  .have F:=r.trans (I.mono r.size);have m:=(I.block (w.heap.size+1) (cB.1 B).1).trans B;obtain⟨k0,k1,k2,k3,E⟩:=wy m;have f0:=E 0;have f1:=E 1;have f2:=E 2;have f3:=E 3;have C:=Ks ak an ao aq;rw[<-cO ai] at C;have M:Sp.dN i x=true:=(cO S).trans K;have l:w.heap.size+1<q:=dT (cB.1 B).1 V;have ay:∀(W:TJ) (j:Nat) (v:TK),fq W q (mQ x)->W.heap[w.heap.size+1]?=some (.cells #[.slice none 0 0,.string ⟨#[]⟩,Z Y 0,.nilFunc] 154)\/True->fq W q (mQ x):=λW j v h _=>h
   have u:=cO o M _ ((((F.setCell (p:=⟨w.heap.size+1,0,none⟩) (by simp) (.slice (some ⟨q,0,none⟩) (fH (Sp.split rest 32)).length A)).setCell (p:=⟨w.heap.size+1,1,none⟩) (by simp) (.string ⟨#[]⟩)).setCell (p:=⟨w.heap.size+1,2,none⟩) (by simp) (Z Y 0)).setCell (p:=⟨w.heap.size+1,3,none⟩) (by simp) .nilFunc) q A (cx r.size V)
    ((((C.aside m l (by decide) 0 _).1.aside (C.aside m l (by decide) 0 _).2 l (by decide) 1 _).1.aside ((C.aside m l (by decide) 0 _).1.aside (C.aside m l (by decide) 0 _).2 l (by decide) 1 _).2 l (by decide) 2 _).1.aside (((C.aside m l (by decide) 0 _).1.aside (C.aside m l (by decide) 0 _).2 l (by decide) 1 _).1.aside ((C.aside m l (by decide) 0 _).1.aside (C.aside m l (by decide) 0 _).2 l (by decide) 1 _).2 l (by decide) 2 _).2 l (by decide) 3 _).1
   rw[show (mQ x).length=(fH (Sp.split rest 32)).length by rw[cO ai]] at u;generalize (fH (Sp.split rest 32)).length=N2 at u ⊢;clear ay r F B m E I K M C ak an ao aq V l;go_wp2;refine cr (v := .tuple #[.agg #[.slice (some ⟨q,0,none⟩) N2 A,.string ⟨#[]⟩,Z Y 0,.nilFunc],.bool true]) ?_ rfl u;simp[results,results110,go_sem,k0,k1,k2,k3]
  .have F:=r.trans (I.mono r.size);have m:=(I.block (w.heap.size+1) (cB.1 B).1).trans B;obtain⟨k0,k1,k2,k3,E⟩:=wy m;have f0:=E 0;have f1:=E 1;have f2:=E 2;have f3:=E 3;have M:Sp.dN i x=false:=(cO S).trans K;have u:=cO s M _ ((((F.setCell (p:=⟨w.heap.size+1,0,none⟩) (by simp) (.slice p2 n2 A)).setCell (p:=⟨w.heap.size+1,1,none⟩) (by simp) (.string ⟨#[]⟩)).setCell (p:=⟨w.heap.size+1,2,none⟩) (by simp) (Z Y 0)).setCell (p:=⟨w.heap.size+1,3,none⟩) (by simp) .nilFunc) p2 n2 A;clear r F B m E I K M;go_wp2;refine cr (v := .tuple #[.agg #[.slice p2 n2 A,.string ⟨#[]⟩,Z Y 0,.nilFunc],.bool false]) ?_ rfl u;simp[results,results110,go_sem,k0,k1,k2,k3]
variable {X:List TM}
theorem Gd(h:0<X.length): X.headD ⟨#[]⟩=X[0]:=by
 cases X with
 |nil=>simp at h
 |cons a l=>rfl
theorem IC(h:0<X.length): (fH X).headD []=X[0].data.toList:=by
 cases X with
 |nil=>simp at h
 |cons a l=>rfl
theorem KJ(h:0<X.length)(h1:X.length=1): fH X=[X[0].data.toList]:=by
 cases X with
 |nil=>simp at h
 |cons a l =>
  have:l=[]:=To (by simpa using h1);subst this
  rfl
theorem wH(i:Nat)(x nm:TM)(b:Nat)(w:TJ)(hi:5<=i)(t:i<7)(hx:x.size<=2000)(hn:nm.size<=10)(ay:nm.data.toList++[58]=Sp.hd i)(hg:eA w)(hW:gX b w):TL prog 110 #[.string x,.agg #[.string nm,.bool false,.bool false],.slice (some ⟨b,0,none⟩) 25 25] w (od i x w):=by
 have an:nm.data.toList++[58,32]=Sp.hd i++[32]:=by rw[<-ay];simp
 have ag:=cP (λ(hk:Sp.dN i x=false) (w':TJ) (hb:TI w w') (az:TM) (z:Int) (f:TK) (hf:∃F,f=l7 (fl i x) F)=>Mu (p:=none) (n:=0) (cap:=0) (b:=az) (z:=z) (f:=f) t hb hk hf);have ao:=cP (λ(hk:Sp.dN i x=true) (w':TJ) (hb:TI w w') (k:Nat) (s:k<3) (hw:mQ x=[Sp.fj[k]!]) (aA:fl i x=true)=>(show od i x w (.returned (.tuple #[.agg #[.slice none 0 0,.string (rM k),Z Y (oP k),pT k],.bool true])) w' from ⟨hb,none,0,0,rM k,oP k,pT k,by rw[hk],⟨Og[k]!,by rw[aA];rfl⟩,λ_ h5=>absurd h5 (by omega),λ_ _=>⟨k,s,rfl,rfl,rfl,hw⟩⟩));have aB:=cP (λ(rest:TM) (h:x.data.toList=Sp.hd i++32::rest.data.toList)=>Sp.Ar (i:=i) hi t h);have aC:=cP (λ(h:¬(Sp.hd i++[32]) <+: x.data.toList)=>Sp.xw (i:=i) t h);have aD:=cP (λ(rest:TM) (h:x.data.toList=Sp.hd i++32::rest.data.toList)=>(Sp.ud (i:=i) t h).1);generalize od i x w=O at *;have aq:=cP (λw0 (aE:eA w0)=>pZ x nm w0 hx hn aE);rw[an] at aq;go_enter func110,ntmps110;go_wp2_with fail;have I:TI w ((w.alloc (.cells #[.string nm,.bool false,.bool false] 159)).alloc (.cells #[.slice none 0 0,.string ⟨#[]⟩,Z Y 0,.nilFunc] 154)):=((cj _ w).alloc TG _).alloc (by simp) _;have ah:((w.alloc (.cells #[.string nm,.bool false,.bool false] 159)).alloc (.cells #[.slice none 0 0,.string ⟨#[]⟩,Z Y 0,.nilFunc] 154)).heap[w.heap.size]?=some (.cells #[.string nm,.bool false,.bool false] 159):=by
  rw[cN _ _ _ (by simp)];exact ct w _
 have o:((w.alloc (.cells #[.string nm,.bool false,.bool false] 159)).alloc (.cells #[.slice none 0 0,.string ⟨#[]⟩,Z Y 0,.nilFunc] 154)).heap[w.heap.size+1]?=some (.cells #[.slice none 0 0,.string ⟨#[]⟩,Z Y 0,.nilFunc] 154):=by
  rw[<-ee w (.cells #[.string nm,.bool false,.bool false] 159)];exact ct _ _
 refine(cO aq _ (gJ hg I hg.lt)).mono ?_;rintro e w1 ⟨J,⟨hp,p,n,cap,rfl⟩|⟨rest,aG,K,g,aH,rfl,ad⟩⟩
 .have r:=I.trans (J.mono I.size);have u:=(J.block (w.heap.size+1) (by simp)).trans o;obtain⟨k0,k1,k2,k3,E⟩:=wy u;have f0:=E 0;have f1:=E 1;have f2:=E 2;have f3:=E 3;have j:=cO ag (cO aC hp) _ ((((r.setCell (p:=⟨w.heap.size+1,0,none⟩) (by simp) (.slice none 0 0)).setCell (p:=⟨w.heap.size+1,1,none⟩) (by simp) (.string ⟨#[]⟩)).setCell (p:=⟨w.heap.size+1,2,none⟩) (by simp) (Z Y 0)).setCell (p:=⟨w.heap.size+1,3,none⟩) (by simp) .nilFunc) ⟨#[]⟩ 0 .nilFunc ⟨0,by rw[Nw hp];rfl⟩;clear I ah o J u r E hp;go_wp2;refine cr (v := .tuple #[.agg #[.slice none 0 0,.string ⟨#[]⟩,Z Y 0,.nilFunc],.bool false]) ?_ rfl j;simp[results,results110,go_sem,k0,k1,k2,k3]
 .have r:=I.trans (J.mono I.size);have u:=(J.block (w.heap.size+1) (by simp)).trans o;have ar:=(J.block w.heap.size (by simp <;> omega)).trans ah;obtain⟨s0,s1,s2,sf⟩:=Cy ar;have D:x.data.toList=Sp.hd i++32::rest.data.toList:=by rw[K];simp
  have m:=Sp.jk rest 32;obtain⟨g',aI,ai,aJ,S⟩:=ad 0 m.1;injection ai with ai;injection ai with e1 e2;subst e1 e2;have T:=cO aB rest D;have au:=cO aD rest D;have aj:mQ x=fH (Sp.split rest 32):=by unfold mQ fH;rw[au]
  rw[Gd m.1] at T;have A:=λh1=>KJ m.1 h1
  obtain⟨y,hy⟩:∃y,(Sp.split rest 32)[0]'m.1=y:=⟨_,rfl⟩
  rw[hy] at T S;have M:(mQ x).headD []=y.data.toList:=by
   rw[aj,<-hy];exact IC m.1
  have ae:(Sp.hd i++[32]) <+: x.data.toList:=⟨rest.data.toList,by rw[K]⟩
  have af:Hid (y.data.toList∈Sp.fj->fl i x=true):=λhm=>kH ⟨hi,ae,by rw[M];exact hm⟩
  have av:Hid (y.data.toList∉Sp.fj->fl i x=false):=λhm=>df (λhc=>hm (by rw[<-M];exact hc.2.2))
  clear M ae;have U:(Sp.split rest 32).length=1->fH (Sp.split rest 32)=[y.data.toList]:=λh1=>by rw[A h1,hy]
  have P:=m.1;have V:=m.2;clear A hy m;have A:=U;clear U;generalize ak:(Sp.split rest 32).length=N at T A P V ⊢;have W:=cP T;have aF:=cP aj;have aw:=cP A;have aK:0<N:=P;have aL:(0:Int)<(N:Int):=by omega
  have aM:N<=2001:=by omega
  clear I ah o J sf ar ad T au aj K D P V A ak;simp only[eW] at S;go_wp2_with fail;refine(pN y w1).mono ?_;rintro e w2 ⟨Q,⟨k,s,aa,rfl⟩|⟨ax,rfl⟩⟩
  .have B:=r.trans (Q.mono r.size);have G:=(Q.block (w.heap.size+1) (cB.1 u).1).trans u;have l:=(cB.1 G).1;have R:(w2.alloc (.cells #[.string (rM k),Z Y (oP k),pT k] 152)).heap[w.heap.size+1]?=_:=(cN _ _ _ l).trans G;have C:=B.alloc (cx (px _) (o9 l)) (.cells #[.string (rM k),Z Y (oP k),pT k] 152);obtain⟨k0,k1,k2,k3,E⟩:=wy R;have f0:=E 0;have f1:=E 1;have f2:=E 2;have f3:=E 3;have q:y.data.toList∈Sp.fj:=by
    rw[<-aa,getElem!_pos Sp.fj k s];exact pY _
   have ab:=(((C.setCell (p:=⟨w.heap.size+1,0,none⟩) (by simp) (.slice none 0 0)).setCell (p:=⟨w.heap.size+1,1,none⟩) (by simp) (.string (rM k))).setCell (p:=⟨w.heap.size+1,2,none⟩) (by simp) (Z Y (oP k))).setCell (p:=⟨w.heap.size+1,3,none⟩) (by simp) (pT k);by_cases hN:N=1
   .have H:Sp.dN i x=true:=by
     rw[cO W,hN,kH q];rfl
    have j:=cO ao H _ ab k s (by rw[cO aF,cO aw hN,aa]) (cO af q);have ak:((N:Int) == 1)=true:=by subst hN;rfl
    unfold JW;unfold pT at j k0 k1 k2 k3 f0 f1 f2 f3 ⊢;generalize rM k=n1 at *;generalize oP k=n2 at *;generalize (Og[k]!)=n3 at *;clear r B C u G R E Q ab H hN aa l;go_wp2;refine cr (v := .tuple #[.agg #[.slice none 0 0,.string n1,Z Y n2,.func (.func n3) #[] #[]],.bool true]) ?_ rfl j;simp[results,results110,go_sem,k0,k1,k2,k3]
   .have H:Sp.dN i x=false:=by
     rw[cO W,df hN];rfl
    have j:=cO ag H _ ab (rM k) (oP k) (pT k) ⟨Og[k]!,by rw[cO af q];rfl⟩;have ak:((N:Int) == 1)=false:=cC.2 (by omega);unfold JW;unfold pT at j k0 k1 k2 k3 f0 f1 f2 f3 ⊢;generalize rM k=n1 at *;generalize oP k=n2 at *;generalize (Og[k]!)=n3 at *;clear r B C u G R E Q ab H hN aa l;go_wp2;refine cr (v := .tuple #[.agg #[.slice none 0 0,.string n1,Z Y n2,.func (.func n3) #[] #[]],.bool false]) ?_ rfl j;simp[results,results110,go_sem,k0,k1,k2,k3]
  .have B:=r.trans (Q.mono r.size);have G:=(Q.block (w.heap.size+1) (cB.1 u).1).trans u;have l:=(cB.1 G).1;have R:(w2.alloc (.cells #[.string ⟨#[]⟩,Z Y 0,.nilFunc] 152)).heap[w.heap.size+1]?=_:=(cN _ _ _ l).trans G;have C:=B.alloc (cx (px _) (o9 l)) (.cells #[.string ⟨#[]⟩,Z Y 0,.nilFunc] 152);obtain⟨k0,k1,k2,k3,E⟩:=wy R;have f0:=E 0;have f1:=E 1;have f2:=E 2;have f3:=E 3;have H:Sp.dN i x=false:=by
    rw[cO W,df ax,Bool.and_false]
   have j:=cO ag H _ ((((C.setCell (p:=⟨w.heap.size+1,0,none⟩) (by simp) (.slice none 0 0)).setCell (p:=⟨w.heap.size+1,1,none⟩) (by simp) (.string ⟨#[]⟩)).setCell (p:=⟨w.heap.size+1,2,none⟩) (by simp) (Z Y 0)).setCell (p:=⟨w.heap.size+1,3,none⟩) (by simp) .nilFunc) ⟨#[]⟩ 0 .nilFunc ⟨0,by rw[cO av ax];rfl⟩;unfold DY;clear r B C u G R E Q H l;go_wp2;refine cr (v := .tuple #[.agg #[.slice none 0 0,.string ⟨#[]⟩,Z Y 0,.nilFunc],.bool false]) ?_ rfl j;simp[results,results110,go_sem,k0,k1,k2,k3]
theorem ML:∀i,i<7->Sp.BL[i]!++[58]=Sp.hd i:=by decide
def sP(i:Nat):TM:=⟨⟨Sp.BL[i]!⟩⟩
theorem xN:∀i,i<7->(sP i).size<=10:=by decide
theorem wG(i:Nat)(hi:i<7)(x:TM)(b:Nat)(w:TJ)(j:x.size<=2000)(l:eA w)(m:gX b w):TL prog 110 #[.string x,.agg #[.string (sP i),.bool (decide (i<5)),.bool (i == 2)],.slice (some ⟨b,0,none⟩) 25 25] w (od i x w):=by
 by_cases e:i<5
 .rw[kH e];exact wh i x (sP i) b w e j (xN i hi) (ML i hi) l m
 .rw[df e,show (i == 2)=false from cC.2 (by omega)];exact wH i x (sP i) b w (by omega) hi j (xN i hi) (ML i hi) l m
end
section
open Go.RowKit
theorem yr(p:Addr)(x:Bool)(u:TypeId)(j:TK)(b:List PanicEntry)(w:TJ)(l:w.cell? p=some (.bool x))(m:w.frozen? p=false):CallsD prog 112 #[.pointer (some p)] (.panicking ({ v := .iface u j,recovered:=false }::b)) w λe r y =>
   e=.returned (.tuple #[])/\r=.panicking ({ v := .iface u j,recovered:=true }::b)/\y=w.setCell p (.bool false):=by
 refine callsD_of_wpS func112 rfl λz A hu=>?_
 apply wpS_seq;apply wpS_region;simp[wpOpsS,go_sem,recoverD,hu,ntmps112,Exit.thenS];refine wpS_cond (t:=true) (by simp[Act.eval,Array.replicate]) ?_;simp only[l9];apply wpS_region;simp[wpOpsS,go_sem,l,m,bodyPostS,results,results112]
theorem tL(p:Addr)(w:TJ):CallsD prog 112 #[.pointer (some p)] .returning w λe b j=>e=.returned (.tuple #[])/\b=.returning/\j=w:=by
 refine callsD_of_wpS func112 rfl λl m hu=>?_
 apply wpS_seq;apply wpS_region;simp[wpOpsS,go_sem,recoverD,hu,ntmps112,Exit.thenS];refine wpS_cond (t:=false) (by simp[Act.eval,Array.replicate]) ?_;simp only[Td,yI];refine wpS_of_wp (wp_skip ?_);cases l
 simp_all [bodyPostS,results,results112]
def ek(b:TK)(e:Int)(j:Bool:=true):Array TK := #[b,Z Y 0,Z Y e,Z Y 0,Z Y 0,Z Y 0,Z Y 0,Z Y 0,Z Y 0,Z Y 0,Z Y 0,Z Y 0,Z Y 0,Z Y 0,Z Y 0,Z Y 0,Z Y 0,Z Y 0,Z Y 0,Z Y 0,Z Y 0,Z Y 0,Z Y 0,Z Y 0,Z Y 0,Z Y 0,Z Y 0,Z Y 0,Z Y 0,.slice none 0 0,.bool j]
theorem jW.yQ{w:TJ}{M n t:Nat}{b:TK}(h:w.heap[M]?=some (.cells (ek b n) t)):jW w M b 0 n 0 (.slice none 0 0):=by
 refine⟨by simp[World.cell?,h,ek],by simp[World.cell?,h,ek],by simp[World.cell?,h,ek],λj e=>?_,λj e=>?_,by simp[World.cell?,h,ek],by simp[World.cell?,h,ek],by simp[World.cell?,h,ek],λj=>by simp[World.frozen?,h]⟩
 .match j,e with
  |0,_=>exact⟨0,by simp[World.cell?,h,ek]⟩
  |1,_=>exact⟨0,by simp[World.cell?,h,ek]⟩
  |2,_=>exact⟨0,by simp[World.cell?,h,ek]⟩
  |3,_=>exact⟨0,by simp[World.cell?,h,ek]⟩
  |4,_=>exact⟨0,by simp[World.cell?,h,ek]⟩
  |5,_=>exact⟨0,by simp[World.cell?,h,ek]⟩
  |6,_=>exact⟨0,by simp[World.cell?,h,ek]⟩
  |7,_=>exact⟨0,by simp[World.cell?,h,ek]⟩
  |8,_=>exact⟨0,by simp[World.cell?,h,ek]⟩
 .match j,e with
  |0,_=>exact⟨0,by simp[World.cell?,h,ek]⟩
  |1,_=>exact⟨0,by simp[World.cell?,h,ek]⟩
  |2,_=>exact⟨0,by simp[World.cell?,h,ek]⟩
  |3,_=>exact⟨0,by simp[World.cell?,h,ek]⟩
  |4,_=>exact⟨0,by simp[World.cell?,h,ek]⟩
  |5,_=>exact⟨0,by simp[World.cell?,h,ek]⟩
  |6,_=>exact⟨0,by simp[World.cell?,h,ek]⟩
  |7,_=>exact⟨0,by simp[World.cell?,h,ek]⟩
  |8,_=>exact⟨0,by simp[World.cell?,h,ek]⟩
  |9,_=>exact⟨0,by simp[World.cell?,h,ek]⟩
  |10,_=>exact⟨0,by simp[World.cell?,h,ek]⟩
  |11,_=>exact⟨0,by simp[World.cell?,h,ek]⟩
  |12,_=>exact⟨0,by simp[World.cell?,h,ek]⟩
  |13,_=>exact⟨0,by simp[World.cell?,h,ek]⟩
  |14,_=>exact⟨0,by simp[World.cell?,h,ek]⟩
  |15,_=>exact⟨0,by simp[World.cell?,h,ek]⟩
  |n+16,e=>exact absurd e (by omega)
theorem below_setRow{B:Nat}{w w':TJ}(h:Below B w w'){g:Nat}(e:B<=g)(cs:Array TK):Below B w (w'.setRow g cs):=by
 refine⟨h.1,h.2,h.3,?_,λk b=>?_⟩
 .have:=h.size;simp[World.setRow];exact this
 .rw[<-h.block k b];simp only[World.setRow,Array.getElem?_modify];rw[cd (by omega)]
structure Ih (w:TJ) (g:Nat) (L:List (List UInt8)) (u:TypeId) (p:TK):Prop where
 row:Dt w w.heap.size g L
 len:L.length<=4000
 pos:0<L.length
 fm:Sp.kh true L 0=true
 err:w.cell? ⟨5,0,none⟩=some (.iface u p)
 lt:5<w.heap.size
theorem pG(L:List (List UInt8))(g cap:Nat)(u:TypeId)(p:TK)(w:TJ)(h:Ih w g L u p):TL prog 70 #[.slice (some ⟨g,0,none⟩) L.length cap] w λe S=>e=.returned (.bool (Sp.keeps L))/\TI w S:=by
 have T:∀(P:Go.Fn) (first cap:Array TK) (w:TJ),(Instr.makeFunc P first cap).run prog w=.ok (.func P first cap) w:=λ_ _ _ _=>rfl
 have H:=cP h;clear h;obtain⟨I,z⟩:∃I,Hid (Sp.keeps L=I):=⟨_,rfl⟩
 rw[cO z]
 go_enter_defers func70,ntmps70
 iterate 38 (first|go_values|go_skip|go_guarded|go_step|go_upon|(simp only[Int.not_lt,Int.not_le] at *;go_simp))
 refine wp_store_row 223 (.tmp 3) (.tmp 8) rfl (w.heap.size+1) (ek (.slice (some ⟨g,0,none⟩) L.length cap) L.length) rfl rfl 223 (ek (.slice none 0 0) 0 false) ?h1 (by kernel_rfl) rfl (by simp[ek,Value.oneCell']) ?h2
 case h1 =>
  rw[<-ee w (.cells #[.bool false] 4)];exact ct _ _
 case h2 =>
 have j:TI w (((w.alloc (.cells #[.bool false] 4)).alloc (.cells (ek (.slice none 0 0) 0 false) 223)).setRow (w.heap.size+1) (ek (.slice (some ⟨g,0,none⟩) L.length cap) L.length)):=below_setRow (((cj _ w).alloc TG _).alloc (by simp) _) (by omega) _;have D:(((w.alloc (.cells #[.bool false] 4)).alloc (.cells (ek (.slice none 0 0) 0 false) 223)).setRow (w.heap.size+1) (ek (.slice (some ⟨g,0,none⟩) L.length cap) L.length)).heap[w.heap.size+1]?=some (.cells (ek (.slice (some ⟨g,0,none⟩) L.length cap) L.length) 223 (0,0)):=by
  refine sT _ _ (ek (.slice none 0 0) 0 false) _ _ _ ?_;rw[<-ee w (.cells #[.bool false] 4)];exact ct _ _
 have A:(((w.alloc (.cells #[.bool false] 4)).alloc (.cells (ek (.slice none 0 0) 0 false) 223)).setRow (w.heap.size+1) (ek (.slice (some ⟨g,0,none⟩) L.length cap) L.length)).heap[w.heap.size]?=some (.cells #[.bool false] 4 (0,0)):=by
  simp only[World.setRow,Array.getElem?_modify];rw[cd (by omega),cN _ _ _ (by simp)];exact ct w _
 generalize K:World.setRow _ _ _=W;replace j:TI w W:=by rw[<-K];exact j
 replace D:W.heap[w.heap.size+1]?=some (.cells (ek (.slice (some ⟨g,0,none⟩) L.length cap) L.length) 223 (0,0)):=by rw[<-K];exact D
 replace A:W.heap[w.heap.size]?=some (.cells #[.bool false] 4 (0,0)):=by rw[<-K];exact A
 clear K;have E:w.heap.size+1<W.heap.size:=(cB.1 D).1;have C:=L6 L (w.heap.size+1) g cap u p W (cO H).len ⟨_,jW.yQ D,fc _ _ _ _⟩ (by
  obtain⟨U,V⟩:=(cO H).row;refine⟨by omega,λi hi=>?_⟩;obtain⟨X,h1,h2⟩:=V i hi;refine⟨X,(j.cell (p:=⟨g,i*2,none⟩) U).trans h1,?_⟩;rcases h2 with ⟨B,n,F,q,t,s⟩|h2
  .exact Or.inl ⟨B,n,by omega,q,(j.block B F).trans t,s⟩
  .exact Or.inr h2) (cO H).fm (by have:=(cO H).lt;omega) ((j.cell (p:=⟨5,0,none⟩) (cO H).lt).trans (cO H).err)
 have N:=Sp.uM (cO H).fm;go_wp2_with fail;refine C.mono ?_;clear C;rcases N with ⟨M,l⟩|⟨M,l|⟨o,aa,l⟩⟩
 .obtain rfl:true=I:=M.symm.trans (cO z);rw[l];rintro e b ⟨m,rfl,a,f,x,hd,_⟩;have e1:=hd.hh;have r:b.heap[w.heap.size]?=_:=(m.block w.heap.size (by omega)).trans A;have G:b.cell? ⟨w.heap.size,0,none⟩=some (.bool false):=by simp[World.cell?,r]
  have O:b.frozen? ⟨w.heap.size,0,none⟩=false:=by simp[World.frozen?,r]
  have y:TI w b:=j.trans (m.mono (by omega));clear hd m r j D A E;go_wp2;refine leaves_cons (f:=112) (args := #[.pointer (some ⟨w.heap.size,0,none⟩)]) (by simp) (by simp[go_sem]) ?_;refine(tL ⟨w.heap.size,0,none⟩ _).mono ?_;rintro e Q J ⟨rfl,rfl,rfl⟩;have F:=mm b ⟨w.heap.size,0,none⟩ (.bool true) G;simp[Leaves,settle,results,results70,go_sem,F];exact y.setCell TG _
 .obtain rfl:false=I:=M.symm.trans (cO z);rw[l];rintro e b ⟨m,rfl⟩;have r:b.heap[w.heap.size]?=_:=(m.block w.heap.size (by omega)).trans A;have G:b.cell? ⟨w.heap.size,0,none⟩=some (.bool false):=by simp[World.cell?,r]
  have O:b.frozen? ⟨w.heap.size,0,none⟩=false:=by simp[World.frozen?,r]
  have y:TI w b:=j.trans (m.mono (by omega));clear m r j D A E;go_wp2;refine leaves_cons (f:=112) (args := #[.pointer (some ⟨w.heap.size,0,none⟩)]) (by simp) (by simp[go_sem]) ?_;refine(yr ⟨w.heap.size,0,none⟩ false u p [] _ G O).mono ?_;rintro e Q J ⟨rfl,rfl,rfl⟩;have F:=mm b ⟨w.heap.size,0,none⟩ (.bool false) G;simp[Leaves,settle,results,results70,go_sem,F];exact y.setCell TG _
 .obtain rfl:false=I:=M.symm.trans (cO z);rw[l];rintro e b ⟨m,rfl,a,f,x,hd,_⟩;have e1:=hd.hh;have r:b.heap[w.heap.size]?=_:=(m.block w.heap.size (by omega)).trans A;have G:b.cell? ⟨w.heap.size,0,none⟩=some (.bool false):=by simp[World.cell?,r]
  have O:b.frozen? ⟨w.heap.size,0,none⟩=false:=by simp[World.frozen?,r]
  have y:TI w b:=j.trans (m.mono (by omega));have R:((o:Int) == 1)=false:=cC.2 (by omega);clear hd m r j D A E;go_wp2;refine leaves_cons (f:=112) (args := #[.pointer (some ⟨w.heap.size,0,none⟩)]) (by simp) (by simp[go_sem]) ?_;refine(tL ⟨w.heap.size,0,none⟩ _).mono ?_;rintro e Q J ⟨rfl,rfl,rfl⟩;have F:=mm b ⟨w.heap.size,0,none⟩ (.bool false) G;simp[Leaves,settle,results,results70,go_sem,F];exact y.setCell TG _
end
section
open Go.RowKit
def Qw:List TK:=[.string (sP 0),.bool true,.bool false,.string (sP 1),.bool true,.bool false,.string (sP 2),.bool true,.bool true,.string (sP 3),.bool true,.bool false,.string (sP 4),.bool true,.bool false,.string (sP 5),.bool false,.bool false,.string (sP 6),.bool false,.bool false]
def kU(w:TJ):Prop:=w.rangeAt 0 0 Qw
variable {w:TJ}
theorem kU.lt(h:kU w): 0<w.heap.size:=cE w _ (h 0 _ rfl)
theorem kU.below{w':TJ}{B:Nat}(h:kU w)(hb:Below B w w')(e:0<B): kU w':=λj v l=>(hb.cell (p:=⟨0,0+j,none⟩) e).trans (h j v l)
theorem Hm:(i:Nat)->i<7->∀W:TJ,(Instr.index 160 (.agg Qw.toArray) (Z Y i)).run prog W=.ok (.agg #[.string (sP i),.bool (decide (i<5)),.bool (i == 2)]) W
 |0,_=>λW=>by kernel_rfl
 |1,_=>λW=>by kernel_rfl
 |2,_=>λW=>by kernel_rfl
 |3,_=>λW=>by kernel_rfl
 |4,_=>λW=>by kernel_rfl
 |5,_=>λW=>by kernel_rfl
 |6,_=>λW=>by kernel_rfl
 |n+7,h=>absurd h (by omega)
def Br:Array TK := #[.slice none 0 0,.string ⟨#[]⟩,Z Y 0,.nilFunc,.slice none 0 0,.string ⟨#[]⟩,Z Y 0,.nilFunc,.slice none 0 0,.string ⟨#[]⟩,Z Y 0,.nilFunc,.slice none 0 0,.string ⟨#[]⟩,Z Y 0,.nilFunc,.slice none 0 0,.string ⟨#[]⟩,Z Y 0,.nilFunc,.slice none 0 0,.string ⟨#[]⟩,Z Y 0,.nilFunc,.slice none 0 0,.string ⟨#[]⟩,Z Y 0,.nilFunc]
structure Ri (C:Array TK) (j:Nat) (p:Option Addr) (n cap:Nat) (b:TM) (z:Int) (q:Bool) (F:Nat):Prop where
 c0:C[j*4]?=some (.slice p n cap)
 c1:C[j*4+1]?=some (.string b)
 c2:C[j*4+2]?=some (Z Y z)
 c3:C[j*4+3]?=some (l7 q F)
structure mC (X:List TM) (w:TJ) (P:Nat) (C:Array TK) (i:Nat):Prop where
 size:C.size=28
 shape:∀j,j<7->∃p n cap b z q F,Ri C j p n cap b z q F
 code:∀j,j<i->j<5->∃g cap,C[j*4]?=some (.slice (some ⟨g,0,none⟩) (mQ (X.getD j ⟨#[]⟩)).length cap)/\P<g/\fq w g (mQ (X.getD j ⟨#[]⟩))
 comb:∀j,j<i->5<=j->∃k,k<3/\C[j*4+2]?=some (Z Y (oP k))/\C[j*4+3]?=some (pT k)/\mQ (X.getD j ⟨#[]⟩)=[Sp.fj[k]!]
theorem FK:(j:Nat)->j<7->Ri Br j none 0 0 ⟨#[]⟩ 0 false 0
 |0,_=>⟨rfl,rfl,rfl,rfl⟩
 |1,_=>⟨rfl,rfl,rfl,rfl⟩
 |2,_=>⟨rfl,rfl,rfl,rfl⟩
 |3,_=>⟨rfl,rfl,rfl,rfl⟩
 |4,_=>⟨rfl,rfl,rfl,rfl⟩
 |5,_=>⟨rfl,rfl,rfl,rfl⟩
 |6,_=>⟨rfl,rfl,rfl,rfl⟩
 |n+7,h=>absurd h (by omega)
theorem MT(X:List TM)(w:TJ)(P:Nat):mC X w P Br 0:=⟨rfl,λj e=>⟨_,_,_,_,_,_,_,FK j e⟩,λj e=>absurd e (by omega),λj e=>absurd e (by omega)⟩
variable {C:Array TK}{i:Nat}{X:List TM}
theorem mC.below{w':TJ}{P:Nat}(h:mC X w P C i)(hb:TI w w'): mC X w' P C i:=⟨h.size,h.shape,λj e l=>by obtain⟨g,cap,a,b,c⟩:=h.code j e l;exact⟨g,cap,a,b,c.below hb⟩,h.comb⟩
def tP(C:Array TK)(i:Nat)(a b c d:TK):Array TK:=(((C.setIfInBounds (i*4) a).setIfInBounds (i*4+1) b).setIfInBounds (i*4+2) c).setIfInBounds (i*4+3) d
theorem FV(C:Array TK)(i:Nat)(a b c d:TK):(tP C i a b c d).size=C.size:=by simp[tP]
theorem ja{j:Nat}{a b c d:TK}(h:j<i*4\/i*4+4<=j): (tP C i a b c d)[j]?=C[j]?:=by
 unfold tP;rw[I9 (by omega),I9 (by omega),I9 (by omega),I9 (by omega)]
theorem FD{a b c d:TK}(h:i*4+4<=C.size): (tP C i a b c d)[i*4]?=some a/\(tP C i a b c d)[i*4+1]?=some b/\(tP C i a b c d)[i*4+2]?=some c/\(tP C i a b c d)[i*4+3]?=some d:=by
 unfold tP;refine⟨?_,?_,?_,?_⟩
 .rw[I9 (by omega),I9 (by omega),I9 (by omega),TE,cg (by omega)]
 .rw[I9 (by omega),I9 (by omega),TE,cg (by simp;omega)]
 .rw[I9 (by omega),TE,cg (by simp;omega)]
 .rw[TE,cg (by simp;omega)]
variable {z:Int}{p:Option Addr}{n cap:Nat}{b:TM}
theorem mC.next{P:Nat}{F:Nat}{q:Bool}(h:mC X w P C i)(hi:i<7)(J:w.heap[P]?=some (.cells C 157 (0,0)))(S:i<5->n=(mQ (X.getD i ⟨#[]⟩)).length/\∃g,p=some ⟨g,0,none⟩/\P<g/\fq w g (mQ (X.getD i ⟨#[]⟩)))(T:5<=i->∃k,k<3/\z=oP k/\l7 q F=pT k/\mQ (X.getD i ⟨#[]⟩)=[Sp.fj[k]!]):mC X ((((w.setCell ⟨P,i*4,none⟩ (.slice p n cap)).setCell ⟨P,i*4+1,none⟩ (.string b)).setCell ⟨P,i*4+2,none⟩ (Z Y z)).setCell ⟨P,i*4+3,none⟩ (l7 q F)) P (tP C i (.slice p n cap) (.string b) (Z Y z) (l7 q F)) (i+1)
 /\((((w.setCell ⟨P,i*4,none⟩ (.slice p n cap)).setCell ⟨P,i*4+1,none⟩ (.string b)).setCell ⟨P,i*4+2,none⟩ (Z Y z)).setCell ⟨P,i*4+3,none⟩ (l7 q F)).heap[P]?=some (.cells (tP C i (.slice p n cap) (.string b) (Z Y z) (l7 q F)) 157 (0,0)):=by
 have A:=h.size;obtain⟨K,U,M,N⟩:=FD (C:=C) (i:=i) (a := .slice p n cap) (b := .string b) (c := Z Y z) (d:=l7 q F) (by omega);have O:=eJ (i:=i*4) J (.slice p n cap);have Q:=eJ (i:=i*4+1) O (.string b);have R:=eJ (i:=i*4+2) Q (Z Y z);have V:=eJ (i:=i*4+3) R (l7 q F);have m:∀g L,fq w g L->P<g->fq ((((w.setCell ⟨P,i*4,none⟩ (.slice p n cap)).setCell ⟨P,i*4+1,none⟩ (.string b)).setCell ⟨P,i*4+2,none⟩ (Z Y z)).setCell ⟨P,i*4+3,none⟩ (l7 q F)) g L:=λg L r l =>
  ((((r.aside J l (by decide) _ _).1.aside O l (by decide) _ _).1.aside Q l (by decide) _ _).1.aside R l (by decide) _ _).1
 refine⟨⟨by rw[FV];exact A,λj B=>?_,λj B y=>?_,λj B y=>?_⟩,V⟩
 .by_cases e:j=i
  .subst e;exact⟨p,n,cap,b,z,q,F,K,U,M,N⟩
  .obtain⟨W,t,u,s,o,q',F',D,c1,E,G⟩:=h.shape j B;exact⟨W,t,u,s,o,q',F',(ja (by omega)).trans D,(ja (by omega)).trans c1,(ja (by omega)).trans E,(ja (by omega)).trans G⟩
 .by_cases e:j=i
  .subst e;obtain⟨rfl,g,rfl,l,r⟩:=S y;exact⟨g,cap,K,l,m _ _ r l⟩
  .obtain⟨g,u,D,l,r⟩:=h.code j (by omega) y;exact⟨g,u,(ja (by omega)).trans D,l,m _ _ r l⟩
 .by_cases e:j=i
  .subst e;obtain⟨k,H,rfl,hf,I⟩:=T y;exact⟨k,H,M,by rw[<-hf];exact N,I⟩
  .obtain⟨k,H,E,G,I⟩:=h.comb j (by omega) y;exact⟨k,H,(ja (by omega)).trans E,(ja (by omega)).trans G,I⟩
def Ji(X:List TM)(w:TJ)(e:Ending)(w':TJ):Prop:=TI w w'/\∃i,i<=7/\i<=X.length/\(∀j,j<i->Sp.dN j (X.getD j ⟨#[]⟩)=true)/\
  ((i<7/\(i=X.length\/(i<X.length/\Sp.dN i (X.getD i ⟨#[]⟩)=false))/\e=.returned (.tuple #[.pointer none,Z Y i,.bool false]))\/
     (i=7/\X.length≠7/\∃P,e=.returned (.tuple #[.pointer P,Z Y 7,.bool false]))\/
     (i=7/\X.length=7/\∃P C,w.heap.size<=P/\e=.returned (.tuple #[.pointer (some ⟨P,0,none⟩),Z Y 7,.bool true])/\w'.heap[P]?=some (.cells C 157 (0,0))/\mC X w' P C 7))
structure pV (X:List TM) (w wr:TJ) (i:Nat) (C:Array TK):Prop where
 i7:i<=7
 il:i<=X.length
 below:TI w wr
 prog:wr.heap[w.heap.size]?=some (.cells C 157 (0,0))
 words:gX (w.heap.size+1) wr
 lines:mC X wr w.heap.size C i
 ok:∀j,j<i->Sp.dN j (X.getD j ⟨#[]⟩)=true
theorem fq.drew{g:Nat}{L:List (List UInt8)}(h:fq w g L): fq w.drew g L:=⟨h.lt,h.fn,h.tS⟩
variable {wr:TJ}
theorem pV.drew(h:pV X w wr i C): pV X w wr.drew i C:=⟨h.i7,h.il,h.below.drew,h.prog,h.words,⟨h.lines.size,h.lines.shape,λj e l=>by obtain⟨g,cap,a,b,c⟩:=h.lines.code j e l;exact⟨g,cap,a,b,c.drew⟩,h.lines.comb⟩,h.ok⟩
structure PN (i:Nat) (x:TM) (wr W:TJ) (LB:Nat) (p:Option Addr) (n cap:Nat) (b:TM) (z:Int) (f:TK):Prop where
 below:TI wr W
 cells:W.heap[LB]?=some (.cells #[.slice p n cap,.string b,Z Y z,f] 154 (0,0))
 code:Sp.dN i x=true->i<5->n=(mQ x).length/\∃g,p=some ⟨g,0,none⟩/\wr.heap.size<=g/\fq W g (mQ x)
variable {f:TK}{x:TM}
theorem P7{j w3:TJ}{E F G H:TK}(l:TI wr j)(N:wr.heap.size+2<=j.heap.size)(m:TI j w3)(y:w3.heap[wr.heap.size+1]?=some (.cells #[E,F,G,H] 154 (0,0)))(I:Sp.dN i x=true->i<5->n=(mQ x).length/\∃g,p=some ⟨g,0,none⟩/\j.heap.size<=g/\fq w3 g (mQ x)):PN i x wr ((((w3.setCell ⟨wr.heap.size+1,0,none⟩ (.slice p n cap)).setCell ⟨wr.heap.size+1,1,none⟩ (.string b)).setCell ⟨wr.heap.size+1,2,none⟩ (Z Y z)).setCell ⟨wr.heap.size+1,3,none⟩ f) (wr.heap.size+1) p n cap b z f:=by
 have A:=eJ (i:=0) y (.slice p n cap);have B:=eJ (i:=1) A (.string b);have D:=eJ (i:=2) B (Z Y z);have J:=eJ (i:=3) D f;refine⟨((((l.trans (m.mono l.size)).setCell (p:=⟨wr.heap.size+1,0,none⟩) (px _) _).setCell (p:=⟨wr.heap.size+1,1,none⟩) (px _) _).setCell (p:=⟨wr.heap.size+1,2,none⟩) (px _) _).setCell (p:=⟨wr.heap.size+1,3,none⟩) (px _) _,J,λr K=>?_⟩;obtain⟨L,g,M,O,u⟩:=I r K;have e:wr.heap.size+1<g:=by omega
 exact⟨L,g,M,by omega,((((u.aside y e (by decide) _ _).1.aside A e (by decide) _ _).1.aside B e (by decide) _ _).1.aside D e (by decide) _ _).1⟩
theorem PR{j w3:TJ}(e:TI wr j)(l:TI j w3)(y:Sp.dN i x=true->i<5->n=(mQ x).length/\∃g,p=some ⟨g,0,none⟩/\j.heap.size<=g/\fq w3 g (mQ x)):PN i x wr (w3.alloc (.cells #[.slice p n cap,.string b,Z Y z,f] 154)) w3.heap.size p n cap b z f:=by
 have u:=e.trans (l.mono e.size);refine⟨u.alloc u.size _,ct w3 _,λm A=>?_⟩;obtain⟨B,g,D,E,r⟩:=y m A;exact⟨B,g,D,cx e.size E,r.below (TH.alloc TG _)⟩
theorem zH{W:TJ}{G:Nat}{q:Bool}{F:Nat}(l:pV X w wr i C)(H:i<7)(I:i<X.length)(u:X.getD i ⟨#[]⟩=x)(hF:PN i x wr W G p n cap b z (l7 q F))(m:Sp.dN i x=true)(J:Sp.dN i x=true->5<=i->∃k,k<3/\b=rM k/\z=oP k/\l7 q F=pT k/\mQ x=[Sp.fj[k]!]):pV X w ((((W.setCell ⟨w.heap.size,i*4,none⟩ (.slice p n cap)).setCell ⟨w.heap.size,i*4+1,none⟩ (.string b)).setCell ⟨w.heap.size,i*4+2,none⟩ (Z Y z)).setCell ⟨w.heap.size,i*4+3,none⟩ (l7 q F)) (i+1) (tP C i (.slice p n cap) (.string b) (Z Y z) (l7 q F)):=by
 have y:w.heap.size<wr.heap.size:=(cB.1 l.prog).1;have K:W.heap[w.heap.size]?=some (.cells C 157 (0,0)):=(hF.below.block _ y).trans l.prog;have A:=l.below.trans (hF.below.mono l.below.size);obtain⟨L,B⟩:=(l.lines.below hF.below).next (p:=p) (n:=n) (cap:=cap) (b:=b) (z:=z) (F:=F) (q:=q) H K (λD=>by
  rw[u];obtain⟨M,g,B,Q,E⟩:=hF.code m D;exact⟨M,g,B,by omega,E⟩) (λD=>by
   rw[u];obtain⟨k,N,_,O,P,r⟩:=J m D;exact⟨k,N,O,P,r⟩)
 refine⟨by omega,by omega,(((A.setCell (p:=⟨w.heap.size,i*4,none⟩) TG _).setCell (p:=⟨w.heap.size,i*4+1,none⟩) TG _).setCell (p:=⟨w.heap.size,i*4+2,none⟩) TG _).setCell (p:=⟨w.heap.size,i*4+3,none⟩) TG _,B,?_,L,λj R=>?_⟩
 .have r:=l.words.below hF.below;unfold gX at r ⊢;rw[cG _ _ _ _ (by simp),cG _ _ _ _ (by simp),cG _ _ _ _ (by simp),cG _ _ _ _ (by simp)];exact r
 .by_cases e:j=i
  .subst e;rw[u];exact m
  .exact l.ok j (by omega)
theorem xu{W:TJ}{u:Nat}(l:pV X w wr i C)(y:i<7)(hF:PN i x wr W u p n cap b z f):(∃v,W.cell? ⟨w.heap.size,i*4,none⟩=some v)/\(∃v,W.cell? ⟨w.heap.size,i*4+1,none⟩=some v)/\(∃v,W.cell? ⟨w.heap.size,i*4+2,none⟩=some v)/\(∃v,W.cell? ⟨w.heap.size,i*4+3,none⟩=some v)/\∀j,W.frozen? ⟨w.heap.size,j,none⟩=false:=by
 have m:w.heap.size<wr.heap.size:=(cB.1 l.prog).1;have e:W.heap[w.heap.size]?=some (.cells C 157 (0,0)):=(hF.below.block _ m).trans l.prog;obtain⟨F,G,r,H,I,J,K,A,B,D,E⟩:=l.lines.shape i y;refine⟨⟨_,(cn W _ _ C _ _ e).trans A⟩,⟨_,(cn W _ _ C _ _ e).trans B⟩,⟨_,(cn W _ _ C _ _ e).trans D⟩,⟨_,(cn W _ _ C _ _ e).trans E⟩,λj=>by simp[World.frozen?,e]⟩
theorem vU(X:List TM)(p:Option Addr)(cap:Nat)(w:TJ)(hX:JR w p X)(hl:X.length<=2001)(hz:∀x∈X,x.size<=2000)(hS:kU w)(hg:eA w):TL prog 68 #[.slice p X.length cap] w (Ji X w):=by
 have HX:=cP hX;have HZ:=cP hz;have HS:=cP hS;have HG:=cP hg;clear hX hz hS hg;generalize hO:Ji X w=O;replace hO:=cP hO;go_enter func68,ntmps68;go_wp2_with fail;refine(Fz _).mono ?_;rintro e w1 ⟨rfl,ab,ad⟩;have ae:TI w w1:=((cj _ w).alloc TG _).trans (ab.mono (by simp));have aj:w1.heap[w.heap.size]?=some (.cells Br 157 (0,0)):=(ab.block _ (by simp)).trans (ct w _);rw[ee] at ad;have ak:Hid (pV X w w1 0 Br):=⟨by omega,by omega,ae,aj,ad,MT _ _ _,λj hj=>absurd hj (by omega)⟩
 have an:=(cO HS).below ae (cO HS).lt;clear ab ae aj ad
 iterate 12 (first|go_values|go_skip|go_guarded|go_step|go_upon|(simp only[Int.not_lt,Int.not_le] at *;go_simp))
 refine wp_load_mid 160 (.global 0) rfl 0 0 rfl Qw _ an underlying160 rfl (by kernel_rfl) ?_;clear an;go_wp2_with fail
 go_loopw [14] (λu wr=>∃(i:Nat) (C:Array TK),u=Z Y i/\Hid (pV X w wr i C)) (λu _=>7-(intOf u).toNat)
 case atStart=>exact⟨0,Br,rfl,ak⟩
 case round =>
  obtain⟨i,C,rfl,T⟩:=hrel;clear ak;have ao:=(cO T).i7;have s:=(cO T).il;by_cases h7:i<7
  .have c1:(i:Int)<7:=by omega
   have aq:=Hm i h7;obtain⟨U,ar⟩:∃U,Hid (U=sP i):=⟨_,rfl⟩
   obtain⟨V,au⟩:∃V,Hid (V=decide (i<5)):=⟨_,rfl⟩
   obtain⟨t,av⟩:∃t,Hid (t=(i == 2)):=⟨_,rfl⟩
   rw[<-cO ar,<-cO au,<-cO av] at aq;by_cases o:i=X.length
   .have c2:((i:Int) == (X.length:Int))=true:=by rw[o];exact beq_self_eq_true _
    have l:O (.returned (.tuple #[.pointer none,Z Y i,.bool false])) (wr.alloc (.cells #[.string U,.bool V,.bool t] 159)):=by
     have m:=cO T;rw[<-cO hO];exact⟨m.below.alloc m.below.size _,i,ao,s,m.ok,Or.inl ⟨h7,Or.inl o,rfl⟩⟩
    clear o;go_wp2;exact cr (v := .tuple #[.pointer none,Z Y i,.bool false]) (by simp[results,results68,go_sem]) rfl l
   .have c2:((i:Int) == (X.length:Int))=false:=cC.2 (by omega);have c3:(i:Int)<(X.length:Int):=by omega
    have E:i<X.length:=by omega
    have g0:(0:Int)<=(i:Int):=iJ _;have m:=cO T;obtain⟨g,G,rfl,aw,H⟩:=(cO HX) i E;have aa:wr.cell? ⟨g,G+i,none⟩=some (.string X[i]):=(m.below.cell (p:=⟨g,G+i,none⟩) aw).trans H;have ax:=(cO HZ) _ (pY E);have af:X.getD i ⟨#[]⟩=X[i]:=by rw[cL,cH E];rfl
    generalize X[i]=x at aa ax af;have ag:=cP af;have I:g<wr.heap.size:=dT aw m.below.size;have ay:(wr.alloc (.cells #[.string U,.bool V,.bool t] 159)).cell? ⟨g,G+i,none⟩=some (.string x):=(((cj wr.heap.size wr).alloc TG _).cell (p:=⟨g,G+i,none⟩) I).trans aa;have az:((wr.alloc (.cells #[.string U,.bool V,.bool t] 159)).alloc (.cells #[.slice none 0 0,.string ⟨#[]⟩,Z Y 0,.nilFunc] 154)).cell? ⟨g,G+i,none⟩=some (.string x):=((((cj wr.heap.size wr).alloc TG _).alloc (by simp) _).cell (p:=⟨g,G+i,none⟩) I).trans aa;have J:Hid (TI wr (wr.alloc (.cells #[.string U,.bool V,.bool t] 159)).drew):=((cj wr.heap.size wr).alloc TG _).drew;have K:Hid (TI wr ((wr.alloc (.cells #[.string U,.bool V,.bool t] 159)).alloc (.cells #[.slice none 0 0,.string ⟨#[]⟩,Z Y 0,.nilFunc] 154)).drew):=(((cj wr.heap.size wr).alloc TG _).alloc (by simp) _).drew;have ah:Hid (((wr.alloc (.cells #[.string U,.bool V,.bool t] 159)).alloc (.cells #[.slice none 0 0,.string ⟨#[]⟩,Z Y 0,.nilFunc] 154)).drew.heap[wr.heap.size+1]?=some (.cells #[.slice none 0 0,.string ⟨#[]⟩,Z Y 0,.nilFunc] 154)):=by
     show _=_
     have h:=ct (wr.alloc (.cells #[.string U,.bool V,.bool t] 159)) (.cells #[.slice none 0 0,.string ⟨#[]⟩,Z Y 0,.nilFunc] 154);rw[ee] at h;exact h
    have HR:Hid (∀W,TI wr W->TL prog 110 #[.string x,.agg #[.string U,.bool V,.bool t],.slice (some ⟨w.heap.size+1,0,none⟩) 25 25] W (od i x W)):=by
     show ∀W,_
     intro W aA;rw[cO ar,cO au,cO av];exact wG i h7 x (w.heap.size+1) W ax (gJ (cO HG) (m.below.trans (aA.mono m.below.size)) (cO HG).lt) (m.words.below aA)
    clear H af m aa I o;go_upto_region 8 with fail
    go_cut [9,10] (λlp aB wx=>∃(LB:Nat) (p3:Option Addr) (n3 r:Nat) (b3:TM) (z3:Int) (F:Nat),lp=.pointer (some ⟨LB,0,none⟩)/\aB=.bool (Sp.dN i x)/\Hid (PN i x wr wx LB p3 n3 r b3 z3 (l7 (fl i x) F))/\Hid (Sp.dN i x=true->5<=i->∃k,k<3/\b3=rM k/\z3=oP k/\l7 (fl i x) F=pT k/\mQ x=[Sp.fj[k]!]))
    case first =>
     cases hq:fl i x with
     |true =>
      go_region_with (go_at_call 110;refine(cO HR _ ?_).mono ?_;(first|exact cO K|exact cO J);rintro e w3 ⟨B,p3,n3,r,b3,z3,f3,rfl,⟨F,hF⟩,L,M⟩;rw[hq] at hF;subst hF;unfold l7;have N:=cP L;have A:=cP M;have P:=cP B;clear L M;(try (have hk:=(B.block (wr.heap.size+1) (by simp)).trans (cO ah);obtain⟨k0,k1,k2,k3,D⟩:=wy hk;have f0:=D 0;have f1:=D 1;have f2:=D 2;have f3:=D 3;have HK:=cP hk;clear D hk));clear B)
      all_goals
       go_wp2_with fail
       go_meet
       refine⟨_,p3,n3,r,b3,z3,F,rfl,rfl,?_,by rw[hq];exact A⟩;rw[hq]
       first
       |exact P7 (cO K) (by simp) (cO P) (cO HK) (cO N)
       |exact PR (cO J) (cO P) (cO N)
     |false =>
      go_region_with (go_at_call 110;refine(cO HR _ ?_).mono ?_;(first|exact cO K|exact cO J);rintro e w3 ⟨B,p3,n3,r,b3,z3,f3,rfl,⟨F,hF⟩,L,M⟩;rw[hq] at hF;subst hF;unfold l7;have N:=cP L;have A:=cP M;have P:=cP B;clear L M;(try (have hk:=(B.block (wr.heap.size+1) (by simp)).trans (cO ah);obtain⟨k0,k1,k2,k3,D⟩:=wy hk;have f0:=D 0;have f1:=D 1;have f2:=D 2;have f3:=D 3;have HK:=cP hk;clear D hk));clear B)
      all_goals
       go_wp2_with fail
       go_meet
       refine⟨_,p3,n3,r,b3,z3,F,rfl,rfl,?_,by rw[hq];exact A⟩;rw[hq]
       first
       |exact P7 (cO K) (by simp) (cO P) (cO HK) (cO N)
       |exact PR (cO J) (cO P) (cO N)
    case rest =>
    obtain⟨LB,p3,n3,r,b3,z3,F,rfl,rfl,y,A⟩:=hcut;clear K J ah HR ay az aq;cases ai:Sp.dN i x with
    |true =>
     cases hq:fl i x with
     |true =>
      rw[hq] at y A;obtain⟨k0,k1,k2,k3,D⟩:=wy (cO y).cells;obtain⟨⟨v0,m0⟩,⟨v1,m1⟩,⟨v2,m2⟩,⟨v3,m3⟩,Q⟩:=xu (cO T) h7 (cO y);have j0:=Q (i*4);have j1:=Q (i*4+1);have j2:=Q (i*4+2);have j3:=Q (i*4+3);have R:=cP (zH (F:=F) (q:=true) (cO T) h7 E (cO ag) (cO y) ai (cO A));unfold l7 at R k3;clear D Q;go_wp2_with fail
      go_region
      all_goals
       go_wp2;go_roundw
       case rel=>exact⟨i+1,_,by go_num,pV.drew R⟩
       case measure=>simp[intOf];omega
     |false =>
      rw[hq] at y A;obtain⟨k0,k1,k2,k3,D⟩:=wy (cO y).cells;obtain⟨⟨v0,m0⟩,⟨v1,m1⟩,⟨v2,m2⟩,⟨v3,m3⟩,Q⟩:=xu (cO T) h7 (cO y);have j0:=Q (i*4);have j1:=Q (i*4+1);have j2:=Q (i*4+2);have j3:=Q (i*4+3);have R:=cP (zH (F:=F) (q:=false) (cO T) h7 E (cO ag) (cO y) ai (cO A));unfold l7 at R k3;clear D Q;go_wp2_with fail
      go_region
      all_goals
       go_wp2;go_roundw
       case rel=>exact⟨i+1,_,by go_num,pV.drew R⟩
       case measure=>simp[intOf];omega
    |false =>
     have l:O (.returned (.tuple #[.pointer none,Z Y i,.bool false])) wc:=by
      have m:=cO T;rw[<-cO hO];exact⟨m.below.trans ((cO y).below.mono m.below.size),i,ao,s,m.ok,Or.inl ⟨h7,Or.inr ⟨E,by rw[cO ag];exact ai⟩,rfl⟩⟩
     go_wp2;exact cr (v := .tuple #[.pointer none,Z Y i,.bool false]) (by simp[results,results68,go_sem]) rfl l
  .have e7:i=7:=by omega
   subst e7;have m:=cO T;by_cases S:X.length=7
   .have c2:((X.length:Int) == 7)=true:=by rw[S];rfl
    have l:O (.returned (.tuple #[.pointer (some ⟨w.heap.size,0,none⟩),Z Y 7,.bool true])) wr:=by
     rw[<-cO hO];exact⟨m.below,7,by omega,s,m.ok,Or.inr (Or.inr ⟨rfl,S,w.heap.size,C,b7 _,rfl,m.prog,m.lines⟩)⟩
    clear S m;go_wp2;exact cr (v := .tuple #[.pointer (some ⟨w.heap.size,0,none⟩),Z Y 7,.bool true]) (by simp[results,results68,go_sem]) rfl l
   .have c2:((X.length:Int) == 7)=false:=cC.2 (by omega);have l:O (.returned (.tuple #[.pointer (some ⟨w.heap.size,0,none⟩),Z Y 7,.bool false])) wr:=by
     rw[<-cO hO];exact⟨m.below,7,by omega,s,m.ok,Or.inr (Or.inl ⟨rfl,S,_,rfl⟩)⟩
    clear S m;go_wp2;exact cr (v := .tuple #[.pointer (some ⟨w.heap.size,0,none⟩),Z Y 7,.bool false]) (by simp[results,results68,go_sem]) rfl l
end
section
open Go.RowKit
theorem CP(E F G H I J K L M N b e a12 j l m r u y z a20 a21 a22 A a24 B C D:TK)(W:TJ):(i:Nat)->i<7->∃O P Q R,(Instr.index 155 (.agg #[E,F,G,H,I,J,K,L,M,N,b,e,a12,j,l,m,r,u,y,z,a20,a21,a22,A,a24,B,C,D]) (Z Y i)).run prog W=.ok (.agg #[O,P,Q,R]) W/\#[E,F,G,H,I,J,K,L,M,N,b,e,a12,j,l,m,r,u,y,z,a20,a21,a22,A,a24,B,C,D][i*4]?=some O/\#[E,F,G,H,I,J,K,L,M,N,b,e,a12,j,l,m,r,u,y,z,a20,a21,a22,A,a24,B,C,D][i*4+1]?=some P/\#[E,F,G,H,I,J,K,L,M,N,b,e,a12,j,l,m,r,u,y,z,a20,a21,a22,A,a24,B,C,D][i*4+2]?=some Q/\#[E,F,G,H,I,J,K,L,M,N,b,e,a12,j,l,m,r,u,y,z,a20,a21,a22,A,a24,B,C,D][i*4+3]?=some R
 |0,_=>⟨_,_,_,_,by kernel_rfl,rfl,rfl,rfl,rfl⟩
 |1,_=>⟨_,_,_,_,by kernel_rfl,rfl,rfl,rfl,rfl⟩
 |2,_=>⟨_,_,_,_,by kernel_rfl,rfl,rfl,rfl,rfl⟩
 |3,_=>⟨_,_,_,_,by kernel_rfl,rfl,rfl,rfl,rfl⟩
 |4,_=>⟨_,_,_,_,by kernel_rfl,rfl,rfl,rfl,rfl⟩
 |5,_=>⟨_,_,_,_,by kernel_rfl,rfl,rfl,rfl,rfl⟩
 |6,_=>⟨_,_,_,_,by kernel_rfl,rfl,rfl,rfl,rfl⟩
 |n+7,h=>absurd h (by omega)
variable {i:Nat}
theorem Iz{C:Array TK}(L:C.size=28)(hi:i<7){K c1 c2 c3:TK}(M:C[i*4]?=some K)(h1:C[i*4+1]?=some c1)(h2:C[i*4+2]?=some c2)(N:C[i*4+3]?=some c3)(W:TJ):(Instr.index 155 (.agg C) (Z Y i)).run prog W=.ok (.agg #[K,c1,c2,c3]) W:=by
 obtain⟨l⟩:=C
 match l,L with
 |[O,P,Q,R,S,T,U,V,X,k,r,u,a12,y,z,A,B,D,E,F,a20,a21,a22,G,a24,H,I,J],_ =>
  obtain⟨q,h,f,t,x,b,e,j,m⟩:=CP O P Q R S T U V X k r u a12 y z A B D E F a20 a21 a22 G a24 H I J W i hi;rw[M] at b;rw[h1] at e;rw[h2] at j;rw[N] at m;injection b with b;injection e with e;injection j with j;injection m with m;rw[b,e,j,m];exact x
def Bz(s:TM)(w:TJ)(e:Ending)(w':TJ):Prop:=TI w w'/\∃b,e=.returned (.tuple #[.pointer b,Z Y (Sp.comp s).1,Z Y (Sp.comp s).2])/\
  ((Sp.comp s).1=0->∃P C,b=some ⟨P,0,none⟩/\w.heap.size<=P/\w'.heap[P]?=some (.cells C 157 (0,0))/\mC (Sp.split s 10) w' P C 7/\(Sp.split s 10).length=7)
variable {s:TM}
theorem nj{w w':TJ}{a b:Int}{e:Option Addr}(h:Sp.comp s=(a,b))(ha:a≠0)(hb:TI w w'): Bz s w (.returned (.tuple #[.pointer e,Z Y a,Z Y b])) w':=⟨hb,e,by rw[h],λj=>by rw[h] at j;exact absurd j ha⟩
theorem FF(y:s.size<=2000)(z:i<7)(r:i<=(Sp.split s 10).length)(b:∀j,j<i->Sp.dN j ((Sp.split s 10).getD j ⟨#[]⟩)=true)(l:i=(Sp.split s 10).length\/(i<(Sp.split s 10).length/\Sp.dN i ((Sp.split s 10).getD i ⟨#[]⟩)=false)): Sp.comp s=(3,(i:Int)):=by
 unfold Sp.comp;rw[cd (by omega)];rcases l with l|⟨u,e⟩
 .rw[Sp.jg (λj m=>by rw[b j (by omega)];rfl)];simp only;rw[cd (by omega),cg (by omega),l]
 .rw[Sp.oa (k:=i) (by omega) (λj m=>by rw[b j m];rfl) (by rw[e];rfl)]
theorem EU(e:s.size<=2000)(l:7<(Sp.split s 10).length)(b:∀j,j<7->Sp.dN j ((Sp.split s 10).getD j ⟨#[]⟩)=true): Sp.comp s=(3,7):=by
 unfold Sp.comp;rw[cd (by omega),Sp.jg (λj m=>by rw[b j (by omega)];rfl)];simp only;rw[cg (by omega)]
theorem G0(s:TM)(j:Nat):decide (Sp.wO (Sp.codeOf s j) (Sp.codeOf s j).length 0 (Sp.codeOf s j).length 0≠some 1) = !Sp.keeps (mQ ((Sp.split s 10).getD j ⟨#[]⟩)):=by
 show _ = !decide (Sp.wO (Sp.codeOf s j) (Sp.codeOf s j).length 0 (Sp.codeOf s j).length 0=some 1)
 rw[decide_not]
theorem uV(u:s.size<=2000)(y:(Sp.split s 10).length=7)(b:∀j,j<7->Sp.dN j ((Sp.split s 10).getD j ⟨#[]⟩)=true)(l:i<5)(m:∀j,j<i->j<5->Sp.keeps (mQ ((Sp.split s 10).getD j ⟨#[]⟩))=true)(r:Sp.keeps (mQ ((Sp.split s 10).getD i ⟨#[]⟩))=false): Sp.comp s=(7,(i:Int)):=by
 unfold Sp.comp;rw[cd (by omega),Sp.jg (λj e=>by rw[b j (by omega)];rfl)];simp only;rw[cd (by omega),cd (by omega),Sp.oa (k:=i) l (λj e=>by rw[G0,m j e (by omega)];rfl) (by rw[G0,r];rfl)]
theorem KN(m:s.size<=2000)(r:(Sp.split s 10).length=7)(b:∀j,j<7->Sp.dN j ((Sp.split s 10).getD j ⟨#[]⟩)=true)(l:∀j,j<5->Sp.keeps (mQ ((Sp.split s 10).getD j ⟨#[]⟩))=true): Sp.comp s=(0,0):=by
 unfold Sp.comp;rw[cd (by omega),Sp.jg (λj e=>by rw[b j (by omega)];rfl)];simp only;rw[cd (by omega),cd (by omega),Sp.jg (λj e=>by rw[G0,l j e];rfl)]
theorem LI:(i:Nat)->i<7->Qw[i*3+1]?=some (.bool (decide (i<5)))
 |0,_=>rfl
 |1,_=>rfl
 |2,_=>rfl
 |3,_=>rfl
 |4,_=>rfl
 |5,_=>rfl
 |6,_=>rfl
 |n+7,h=>absurd h (by omega)
theorem DU{w:TJ}{P g:Nat}{C:Array TK}{u:TypeId}{p:TK}(D:s.size<=2000)(E:i<5)(b:Sp.dN i ((Sp.split s 10).getD i ⟨#[]⟩)=true)(z:fq w g (mQ ((Sp.split s 10).getD i ⟨#[]⟩)))(A:i<(Sp.split s 10).length)(he:w.cell? ⟨5,0,none⟩=some (.iface u p)): Ih w g (mQ ((Sp.split s 10).getD i ⟨#[]⟩)) u p:=by
 have F:((Sp.split s 10).getD i ⟨#[]⟩).size<=2000:=by
  rw[cL,cH A];exact cx (Sp.r9 s 10 _ (pY A)) D
 generalize (Sp.split s 10).getD i ⟨#[]⟩=x at *;have e:(mQ x).length<=4000:=by
  unfold mQ Sp.ws;have:=(Sp.jk x 32).2;simp only[rY,List.length_tail];omega
 unfold Sp.dN at b;rw[Ns,cd (by omega),Ns] at b;have m:Sp.kh (i == 2) (mQ x) 0=true:=b.2.1;have y:Sp.kh true (mQ x) 0=true:=by
  cases r:(i == 2) with
  |true=>rw[r] at m;exact m
  |false=>rw[r] at m;exact Sp.vW _ _ m
 have j:0<(mQ x).length:=by
  have B:=b.2.2;unfold mQ;cases r:(Sp.ws x).tail with
  |nil=>rw[r] at B;simp at B
  |cons a l=>simp
 exact⟨⟨z.lt,z.fn⟩,e,j,y,he,cE w _ he⟩
theorem BY(s:TM)(w:TJ)(b:2000<s.size):TL prog 38 #[.string s] w (Bz s w):=by
 have j:(2000:Int)<(s.size:Int):=by omega
 have e:Hid (Sp.comp s=(1,0)):=by show _=_;unfold Sp.comp;rw[cg b]
 go_enter func38,ntmps38;go_wp2;exact cr (v := .tuple #[.pointer none,Z Y 1,Z Y 0]) (by simp[results,results38,go_sem]) rfl (nj (cO e) (by decide) TH)
theorem AI(s:TM)(w:TJ)(hs:s.size<=2000)(hS:kU w)(hg:eA w)(u:TypeId)(p:TK)(he:w.cell? ⟨5,0,none⟩=some (.iface u p)):TL prog 38 #[.string s] w (Bz s w):=by
 have hz:¬(2000:Int)<(s.size:Int):=by omega
 have an:=Sp.jk s 10;have aa:=cP he;have ab:=cP hS;generalize hO:Bz s w=O;replace hO:=cP hO;clear he hS;go_enter func38,ntmps38;go_wp2_with fail;refine(yg s _ (by omega) hg).mono ?_;rintro e w1 ⟨rfl,ad⟩;have m:TI w w1:=by rw[ad];exact TH.alloc TG _
 have J:JR w1 (some ⟨w.heap.size,0,none⟩) (Sp.split s 10):=by rw[ad];exact xZ w _
 clear ad;go_wp2_with fail;refine(vU (Sp.split s 10) _ _ _ J (by omega) (λx hx=>cx (Sp.r9 s 10 x hx) hs) ((cO ab).below m (cO ab).lt) (gJ hg m hg.lt)).mono ?_;rintro e R ⟨K,i,aA,ao,L,⟨h7,hc,rfl⟩|⟨e7,ay,P,rfl⟩|⟨e7,aq,P,C,hP,rfl,ae,af⟩⟩
 .have A:O (.returned (.tuple #[.pointer none,Z Y 3,Z Y i])) R:=by
   rw[<-cO hO];exact nj (FF hs h7 ao L hc) (by decide) (m.trans (K.mono m.size))
  clear hc L J m K;go_wp2;exact cr (v := .tuple #[.pointer none,Z Y 3,Z Y i]) (by simp[results,results38,go_sem]) rfl A
 .subst e7;have A:O (.returned (.tuple #[.pointer none,Z Y 3,Z Y 7])) R:=by
   rw[<-cO hO];exact nj (EU hs (by omega) L) (by decide) (m.trans (K.mono m.size))
  clear ay L J m K;go_wp2;exact cr (v := .tuple #[.pointer none,Z Y 3,Z Y 7]) (by simp[results,results38,go_sem]) rfl A
 .subst e7;have r:=m.trans (K.mono m.size);have T:=cP L;have U:=cP af;have ar:=cP ae;have M:=cP aq;have au:(prog.info? 155).map (·.size)=some C.size:=by rw[af.size];kernel_rfl
  have z:=cP r;have av:=m.size;clear L af J m K aq ao an r;go_upto_region 6 with fail
  iterate 11 (first|go_values|go_skip|go_guarded|go_step|go_upon|(simp only[Int.not_lt,Int.not_le] at *;go_simp))
  refine wp_load_row 155 (.tmp 25) rfl P rfl 157 C (0,0) _ ae underlying155 rfl au ?_;clear ae au;go_wp2_with fail
  go_loopw [27] (λv wr=>∃i:Nat,i<=7/\v=Z Y i/\TI R wr/\Hid (∀j,j<i->j<5->Sp.keeps (mQ ((Sp.split s 10).getD j ⟨#[]⟩))=true)) (λv _=>7-(intOf v).toNat)
  case atStart=>exact⟨0,by omega,rfl,cj _ _,λj hj=>absurd hj (by omega)⟩
  case round =>
   obtain⟨i,hi,rfl,N,HK⟩:=hrel;by_cases h7:i<7
   .have c1:(i:Int)<7:=by omega
    have g0:(0:Int)<=(i:Int):=iJ _;obtain⟨p4,S,b,g,z4,q4,F4,d0,d1,d2,d3⟩:=(cO U).shape i h7;have B:=(cO z).trans (N.mono (cO z).size);have E:=(cO ab).below B (cO ab).lt;have F:=E (i*3+1) _ (LI i h7);rw[eW] at F;have aw:=Iz (cO U).size h7 d0 d1 d2 d3;cases q4 with
    |true =>
     unfold l7 at d3 aw;have D:(wr.alloc (.cells #[.slice p4 S b,.string g,Z Y z4,.func (.func F4) #[] #[]] 154)).cell? ⟨0,i*3+1,none⟩=some (.bool (decide (i<5))):=(((cj wr.heap.size wr).alloc TG _).cell (p:=⟨0,i*3+1,none⟩) E.lt).trans F;have l:Hid (TI R (wr.alloc (.cells #[.slice p4 S b,.string g,Z Y z4,.func (.func F4) #[] #[]] 154))):=N.alloc N.size _;by_cases V:i<5
     .rw[kH V] at D;obtain⟨W,ax,e0,ag,X⟩:=(cO U).code i h7 V;rw[d0] at e0;injection e0 with e0;injection e0 with e1 e2 e3;subst e1;obtain⟨Q,G⟩:∃Q,Hid (Sp.keeps (mQ ((Sp.split s 10).getD i ⟨#[]⟩))=Q):=⟨_,rfl⟩
      have q:Hid (TL prog 70 #[.slice (some ⟨W,0,none⟩) S b] (wr.alloc (.cells #[.slice (some ⟨W,0,none⟩) S b,.string g,Z Y z4,.func (.func F4) #[] #[]] 154)) λe t=>e=.returned (.bool Q)/\Below (wr.alloc (.cells #[.slice (some ⟨W,0,none⟩) S b,.string g,Z Y z4,.func (.func F4) #[] #[]] 154)).heap.size (wr.alloc (.cells #[.slice (some ⟨W,0,none⟩) S b,.string g,Z Y z4,.func (.func F4) #[] #[]] 154)) t):=by
       have o:=(cO z).trans ((cO l).mono (cO z).size);rw[e2,<-cO G];rw[e2] at o l;refine pG _ W b u p _ (DU (P:=P) (C:=C) hs V (cO T i h7) (X.below (cO l)) (by rw[cO M];omega) ?_);exact(o.cell (p:=⟨5,0,none⟩) (cE w _ (cO aa))).trans (cO aa)
      have ah:Hid (Q=false->∀t,TI R t->O (.returned (.tuple #[.pointer none,Z Y 7,Z Y i])) t):=by
       show Q=false->_
       intro ai t aj;rw[<-cO hO];have r:=cO z;exact nj (uV hs (cO M) (cO T) V (cO HK) ((cO G).trans ai)) (by decide) (r.trans (aj.mono r.size))
      clear d0 d1 d2 d3 E B F N e2 e3 X ag;cases Q with
      |true =>
       go_wp2_with (first|(go_at_call 70;go_must (refine(cO q).mono ?_;rintro e w5 ⟨rfl,y⟩;have H:=cP y;clear y))|go_in);go_roundw
       case rel=>exact⟨i+1,by omega,by go_num,(cO l).trans ((cO H).mono (cO l).size),λj hj I=>if h:j=i then h ▸ cO G else cO HK j (by omega) I⟩
       case measure=>simp[intOf];omega
      |false =>
       go_wp2_with (first|(go_at_call 70;go_must (refine(cO q).mono ?_;rintro e w5 ⟨rfl,y⟩;have H:=cP y;clear y))|go_in);exact cr (v := .tuple #[.pointer none,Z Y 7,Z Y i]) (by simp[results,results38,go_sem]) rfl (cO ah (by trivial) _ ((cO l).trans ((cO H).mono (cO l).size)))
     .rw[df V] at D;clear d0 d1 d2 d3 E B F N;go_wp2;go_roundw
      case rel=>exact⟨i+1,by omega,by go_num,cO l,λj hj I=>cO HK j (by omega) I⟩
      case measure=>simp[intOf];omega
    |false =>
     unfold l7 at d3 aw;have D:(wr.alloc (.cells #[.slice p4 S b,.string g,Z Y z4,.nilFunc] 154)).cell? ⟨0,i*3+1,none⟩=some (.bool (decide (i<5))):=(((cj wr.heap.size wr).alloc TG _).cell (p:=⟨0,i*3+1,none⟩) E.lt).trans F;have l:Hid (TI R (wr.alloc (.cells #[.slice p4 S b,.string g,Z Y z4,.nilFunc] 154))):=N.alloc N.size _;by_cases V:i<5
     .rw[kH V] at D;obtain⟨W,ax,e0,ag,X⟩:=(cO U).code i h7 V;rw[d0] at e0;injection e0 with e0;injection e0 with e1 e2 e3;subst e1;obtain⟨Q,G⟩:∃Q,Hid (Sp.keeps (mQ ((Sp.split s 10).getD i ⟨#[]⟩))=Q):=⟨_,rfl⟩
      have q:Hid (TL prog 70 #[.slice (some ⟨W,0,none⟩) S b] (wr.alloc (.cells #[.slice (some ⟨W,0,none⟩) S b,.string g,Z Y z4,.nilFunc] 154)) λe t=>e=.returned (.bool Q)/\Below (wr.alloc (.cells #[.slice (some ⟨W,0,none⟩) S b,.string g,Z Y z4,.nilFunc] 154)).heap.size (wr.alloc (.cells #[.slice (some ⟨W,0,none⟩) S b,.string g,Z Y z4,.nilFunc] 154)) t):=by
       have o:=(cO z).trans ((cO l).mono (cO z).size);rw[e2,<-cO G];rw[e2] at o l;refine pG _ W b u p _ (DU (P:=P) (C:=C) hs V (cO T i h7) (X.below (cO l)) (by rw[cO M];omega) ?_);exact(o.cell (p:=⟨5,0,none⟩) (cE w _ (cO aa))).trans (cO aa)
      have ah:Hid (Q=false->∀t,TI R t->O (.returned (.tuple #[.pointer none,Z Y 7,Z Y i])) t):=by
       show Q=false->_
       intro ai t aj;rw[<-cO hO];have r:=cO z;exact nj (uV hs (cO M) (cO T) V (cO HK) ((cO G).trans ai)) (by decide) (r.trans (aj.mono r.size))
      clear d0 d1 d2 d3 E B F N e2 e3 X ag;cases Q with
      |true =>
       go_wp2_with (first|(go_at_call 70;go_must (refine(cO q).mono ?_;rintro e w5 ⟨rfl,y⟩;have H:=cP y;clear y))|go_in);go_roundw
       case rel=>exact⟨i+1,by omega,by go_num,(cO l).trans ((cO H).mono (cO l).size),λj hj I=>if h:j=i then h ▸ cO G else cO HK j (by omega) I⟩
       case measure=>simp[intOf];omega
      |false =>
       go_wp2_with (first|(go_at_call 70;go_must (refine(cO q).mono ?_;rintro e w5 ⟨rfl,y⟩;have H:=cP y;clear y))|go_in);exact cr (v := .tuple #[.pointer none,Z Y 7,Z Y i]) (by simp[results,results38,go_sem]) rfl (cO ah (by trivial) _ ((cO l).trans ((cO H).mono (cO l).size)))
     .rw[df V] at D;clear d0 d1 d2 d3 E B F N;go_wp2;go_roundw
      case rel=>exact⟨i+1,by omega,by go_num,cO l,λj hj I=>cO HK j (by omega) I⟩
      case measure=>simp[intOf];omega
   .have e7:i=7:=by omega
    subst e7;have A:O (.returned (.tuple #[.pointer (some ⟨P,0,none⟩),Z Y 0,Z Y 0])) wr:=by
     rw[<-cO hO];have r:=cO z;have ak:=KN hs (cO M) (cO T) (λj hj=>cO HK j (by omega) hj);have az:=(cB.1 (cO ar)).1;refine⟨r.trans (N.mono r.size),some ⟨P,0,none⟩,by rw[ak],λ_=>⟨P,C,rfl,cx av hP,(N.block P az).trans (cO ar),(cO U).below N,cO M⟩⟩
    clear N;go_wp2;exact cr (v := .tuple #[.pointer (some ⟨P,0,none⟩),Z Y 0,Z Y 0]) (by simp[results,results38,go_sem]) rfl A
end
end Go.Proofs.YtgkkdpegcieakaaGreatDoor
